import PyProof.Rows.All
import Wide.All
import OpenK.AllK
import Wide.FinOn
import Lean
import PyProof.EqAt
import PyProof.EqKinds
import PyProof.TupleCall
import PySem.Str
import PyProof.ZipIter
import PyProof.IsiBase
import KE.KItemsList
import KE.KIsAll
import OpenK.KOwn
import KE.KSortAsk
import PyProof.StrBlockI
import PyProof.Rows.EqDataRows
import PyProof.Rows.InDataRows
import PyProof.SumWalkG
import PyProof.ConsumeWalk
import PyProof.WalksMore
import KE.KSortTup
import PyProof.ListMulRoad
import PyProof.EnumFor
import PyProof.Rows.EnumRows
import PyProof.StrBlockL
import PyProof.JoinWalk
import PyProof.NsDelKeeps
import KE.KTryDeep
import PyProof.InstStoreFacts
import PyProof.NsCount
import PyProof.ExcClass2
import PyProof.Rows.FStr
import PyProof.StationsW
import PyProof.Rows.Catch
import KE.KRevIter
import PyProof.CollectIter
import PyProof.TupleOfGen
import PyProof.Rows.Tup
import PyProof.Draws
import PyProof.EnumMake
import PyProof.StrWalks
import PyProof.SliceStr2
import PyProof.ListNew
import KE.KDictOf
import PyProof.ListRange
import PyProof.Rows.GenSrcRange
import PyProof.ListCopy
import PyProof.AttrMissHeap
import PyProof.DictWalks
import PyProof.FactsDict
import KE.KSortKey
import PyProof.TableCode
import PyProof.Rows.KernelRfl
import PySem.Challenge.RW_barsplit_k33_whole_told_papers_stand
open PySem renaming wpAny_bind → Md,wpAny_pure → Mq,wpAny_field → Ni,wpAny_setField_rec → Np,wpAny_callSpecial?_slot → NF,wpAny_seqItems → NG,wpAny_truthy_bool → NN,wpAny_call_entry → NZ,wpAny_newObj_type → Oa,wpAny_holding → Ox,wpAny_mono → Oy,wpAny_loadPart' → Oz,wpAny_onRaise → OI,wpAny_Call_Name_kw → Pe,wpAny_letGo → Pj,sizeLine_eq → Pk,mem_of_lookup → Pq,Builtin → PJ,wpAny_rule → PU,wpAny_attempt → Rf,call_meets → Ro,wpAny_passesOwn → RP,pushCells_keeps → RR,wpAny_typeOf → RZ,wpAny_pyIter_tuple → Sa,wpAny_newTuple → Sd,wpAny_pyIter_zip → Sz,codeAny_mono → SK,wpAny_updateSeq_pair → SU,wpAny_standAt → Tj,wpAny_newList → Tn,wpAny_pyIter_list → Tq,typeIs_int → Tr,concat_meets → Tt,wpAny_isInstance → Tu,noFill_tuple_add → Tv,Addr → fe,Value → fh,eval → fy,Expr → fA,Shared → f6,model → f7,Heap → gB,starEach → g8,sizeLine → hB,Pos → h8,World → i8,Scope → jn,Program → l6,Stmt → m7,compareOp → oe,Around → o6,Obj → pa,IsZip → p9,Builtin → rn,Env → ro,IsPair → rp,holding → tf,Tok → tw,foldedSetIterable → t4,FuncData → u0,assign → u4,backTo → vr,mainGlobals → xb,cellsFrom → A6,IsEnum → B1,assignEach → B6,binaryOp → B7,NameKind → B8,behindInMarks → C0,relabel → C5,bootBuiltins → Dd,rawInt → Dh,IsPart → Ds,getItem → Dy,standAt → DD,swapsWith → DE,sysModules → DF,pushCells → DU,pyNext → DV,spliced → DW,bindC → D8,bindL → D9,cLine → En,callerA → E1,isTrue → E4,strIterType → E8,Meets → F0,atKey → F4,swapsWithSole → H8,valueAt → Ig,CmpOp → I0,Keyword → L3,lastMarks → M1,letOwnedTupleGo → M3,setItem → N4,swappedStores → N6,truthy → Ol,BindsTo → O2,pyIter → R3,release → R4,typeLookup → S6,IsEnumOut → Tw,PassesOwn → TJ,ZipApart → TQ,firstArgMember → Uc,ownMembersOf → Ux,preSum → UA,setField → UI,subscripted → UN,attributeBase → b_,backToKw → c_,bindArgs → d_,builtinsNs → f_,callType_new → g_,isSubtype_stop → o_,newFunctionEnv → y_,newTuple → z_,seqIndex_neg → C',seqIndex_of → C_,seq_tuple_add → D',tupleKind → K_,typeIs_str → M',wpAny_Name → N_,wpAny_execs_nil → O',builtinLookup_eq_fast → _l,getattributeRaised → _t,tupleKind_room_in1 → _U,wpAny_Tuple_spliced → _W,wpAny_assign_Name → _X,wpAny_binaryOp_repeat_ref → _Y,wpAny_isTrue_Compare1 → _Z,wpAny_letOwnedTupleGo_enum → b?,wpAny_letOwnedTupleGo_zip → d?,wpAny_pyNext_enum_endD → e?,wpAny_pyNext_enum_itemD → f?,wpAny_sequenceKey → g?
open List renaming range → Me,mem_range → Mg,getElem?_eq_getElem → Mi,getElem?_cons_zero → Mk,replicate → Ml,getD_eq_getElem?_getD → Mm,getElem?_cons_succ → Mn,getElem?_set_ne → Mo,mem_cons_of_mem → Ms,mem_cons → Mu,getElem?_eq_some_iff → Mv,size_toArray → Mw,mem_cons_self → Mx,map_congr_left → MA,mem_map → MD,getElem?_set_self → ME,length_map → MF,length_cons → MH,mem_append_right → MJ,not_mem_nil → ML,length_nil → MO,mem_filter → MR,map_cons → MT,map_map → Nb,getElem?_map → Nf,mem_of_getElem? → Nh,eq_nil_of_length_eq_zero → Nk,getElem?_append_right → Nm,nodup_cons → Nq,countP_eq_length_filter → Nt,length_range → Nz,map_append → NA,getElem?_append_left → ND,lookup_cons → NH,all_eq_true → NI,set_cons_zero → NK,set_cons_succ → NL,length_append → NM,ext_getElem? → NX,range_succ → Oc,getElem?_set → Oi,countP_congr → Oj,replicate_succ → Ow,getElem_mem → OB,pairwise_iff_getElem → OE,drop_eq_getElem_cons → OF,range_eq_range' → OJ,find?_cons → OM,zip_map' → OP,zip_cons_cons → OS,mem_singleton → OT,toArray → OW,nil_append → OX,length_singleton → OY,append_nil → OZ,flatten_cons → Pf,Pairwise → Pg,mem_or_eq_of_mem_set → Pp,range'_succ → Pw,mem_append → PL,getElem?_replicate → PM,any_cons → PN,take_of_length_le → Ra,pairwise_lt_range → Rb,pairwise_map → O7,length_take → Rm,drop_length → Rn,all_cons → Rq,range' → Rw,getElem_of_mem → Rx,getElem?_range → Ry,forIn_cons → Rz,filter_sublist → RA,countP_eq_zero → RB,map_nil → RK,filter_append → RL,range_add → RM,getElem?_zip_eq_some → RN,forIn_nil → RO,zipIdx_cons → Sg,nodup_range → Sh,cons_append → Si,zipIdx_nil → Sq,length_filter_le → Sr,countP_map → Ss,mem_append_left → U8,getElem?_of_mem → U9,filterMap_cons → SH,map_singleton → SS,length_eq_countP_add_countP → Ta,foldl → Tb,filter_congr → Tc,any_eq_false → Td,any_eq_true → Ti
open PySem.W renaming Frag → Mf,kia_one → Nl,kitOne → OA,kia_tup → OH,cellsFrom_some → PK,kitx_dict → PR,fnOf → PY,keepIn → RD,findIn → RE,kitx_list → RI,codeIn → So,kitx_tuple → SD,methodObj → X1,kitx_none → SM,kitx_bool → SN,nsIn → SO,kitx_str → SW,kitx_int → SY
open PySem.Heap renaming get?_push_of_some → Mh,get?_push_size → Mz,lt_size → MB,push → MG,size_push → MX,get?_update_other → NR,SameBut → ON,size_update → OQ,get?_push_ne → Ph,get?_update_self → Rj,get?_update_ne → SI
open Option renaming bind_some → Mj,map_some → Mr,some → NU,isSome_iff_exists → Om,getD_some → Pn,map → SR,some → ej,none → eF
open Nat renaming le_refl → Mp,lt_of_lt_of_le → MI,lt_or_ge → MK,ne_of_lt → MP,le_add_right → MS,not_lt_zero → MU,zero_add → Nc,lt_succ_of_lt → Nu,reduceAdd → Nv,lt_irrefl → Nw,zero_le → Ny,le_trans → NQ,ne_of_gt → Ob,add_sub_cancel_left → Oe,lt_succ_self → Og,lt_trichotomy → Rh,le_succ → RF,le_succ_of_le → RX,add_assoc → Sf,mul_comm → Sx,le_of_lt → Sy
open Int renaming mul_emod → Mt,emod_emod → MM,emod_lt_of_pos → MN,emod_nonneg → Na,add_emod → Nn,mul_comm → Nx,mul_assoc → NB,emod_eq_of_lt → NJ,toNat_natCast → NY,eq_ofNat_of_zero_le → Of,sub_emod → B3,emod_eq_emod_iff_emod_sub_eq_zero → TF,mul_left_comm → Ov,mul_zero → OD,zero_mul → Pb,one_mul → Pc,add_zero → Pd,toNat_of_nonneg → PD,mul_add → PF,mul_one → Ri,add_mul → Sj
open Bool renaming and_eq_true → My,false_ne_true → MW,or_eq_true → NW,false_eq_true → Od,not_eq_true' → Ou,true_and → OC,false_and → OG,and_true → Rt,eq_iff_iff → Sv,true → eA,false → eK
open PySem.Builtin.SmallTypes renaming nextOf → MC,ownedTupleIsFree → MQ,ownedTupleHandOut → NC,ownedTupleFields → RH
open Ne renaming symm → MV
open PySem.NameKind renaming free → MY,cell → OL
open PySem.Obj renaming mapSeq → MZ,data_mapFields → X2
open PySem.Value renaming none → Nd,ref → NS,type → Py,str → Sm,int → Sn,bool → SV
open Option.some renaming inj → Ng
open PySem.Str renaming ofString → Nj,join → Tp
open PyProof.Rows renaming callWith_type1 → Nr,slot_tuple_getitem → NT,callWith_builtin1 → PH,listUpdate_at → Rg,boot_tuple → Rv,boot_list → RG,slot_tupleiter_next → RQ,tupleItemsOf_ → Sw,boot_isinstance → SE,get?_update_seq → SJ,seqEpoch_at → Te,size_push' → Ts,seqObj → ir,AllBare → DI,Call_ → D4,IsTup → L1,arrOf → L6,IntsAre → O4,envOfC → P0,Subscript_ → a_,boot_enumerate → e_,subscriptTail → F',args_tuple_getitem → _i,args_tupleiter_next → _j,entry_tupleiter_next → _o,listItems_at → _B,subscriptTail_builtinR → _Q
open PySem.SeqAt renaming EqAt → NO
open Classical renaming byContradiction → NP,axiomOfChoice → Px
open Array renaming length_toList → NV,getD_eq_getD_getElem? → OV
open PySem.Builtin.Tuple renaming tupleExact → Oh,tupleIsExact → OR
open PySem.Calls renaming spliced_cons → Oo,spliced_nil → Rc
open True renaming intro → Oq
open Sum renaming inl → Ot,inr → Tf
open False renaming elim → OK
open PySem.F renaming slot_zip_next → OO,slot_enumerate_next → O6,slot_list_getattribute → TH,slot_tuple_mul → Ru,args_tuple_add_2 → RJ,entry_tuple_add → RT,slot_tuple_add → RW,args_zip_next_1 → Sl,entry_zip_next → Su,slot_int_rmul → SF,args_tuple_mul_2 → Th,entry_tuple_mul → To
open PySem.Builtin.Slice renaming slicePlaces → OU,sliceAdjust → Rl
open PySem.SeqAt.EqAt renaming int_int → Po
open PySem.PyData renaming depth → Pu,eqv → PX,canLay0 → PZ,eqvAll → SG,canLayAll0 → SQ
open PySem.Challenge renaming rw_barsplit_k33_whole_told_papers_stand → PB
open List.Pairwise renaming imp_of_mem → Rp,filter → RU
open PySem.Builtin.List renaming listTooLong → Rr
open PySem.Shared renaming heap → RV
open ForInStep renaming yield → RY
open PySem.Heap.SameBut renaming update → Sb
local macro_rules | `(⋯) => `(by first | decide +kernel | omega | simp)
set_option autoImplicit true
noncomputable section
set_option Elab.async false
set_option linter.all false
set_option maxRecDepth 100000
set_option maxHeartbeats 4000000
abbrev EQ:=PySem.Value->PySem.Shared->Prop
abbrev UQ:=List (PySem.Addr×PySem.Obj)
abbrev UW:=Nat->Nat->Nat->Int
abbrev UV:=Nat->Nat->Int
abbrev UK:=Nat->Bool
abbrev UX:=Nat->Nat
abbrev UZ:=PySem.Str->Option PySem.Value
theorem UJ{c:Prop}{h:Decidable c}(z:c){α}{a b:α}:ite c a b=a:=if_pos z
theorem UY{c:Prop}{h:Decidable c}(z:¬c){α}{a b:α}:ite c a b=b:=if_neg z
namespace L2
open PySem PySem.Spec PyProof.Rows
abbrev Key:=Sum Int Str
def dE:Key->fh->Bool
 | .inl k,v=>Value.isInt k v
 | .inr x,v=>Value.isStrOf x v
def Lx(w:i8):Key->Int
 | .inl k=>hashInt k
 | .inr x=>hashStr w x
theorem qz : ∀{k:Key} {v:fh},dE k v=eA->(∃i t,k=Ot i/\v=Sn i t)\/(∃x t,k=Tf x/\v=Sm x t)
 | .inl i,v,h=>by obtain⟨t,e⟩:=Value.isInt_shape (k:=i) (v:=v) h;exact .inl ⟨i,t,rfl,e⟩
 | .inr x,v,h=>by obtain⟨t,e⟩:=Value.isStrOf_shape (x:=x) (v:=v) h;exact .inr ⟨x,t,rfl,e⟩
theorem iq(i:Int)(t:tw):dE (.inl i) (.int i t)=eA:=by simp[dE,Value.isInt]
theorem ip(x:Str)(t:tw):dE (.inr x) (.str x t)=eA:=by simp[dE,Value.isStrOf]
theorem Cz(a b:Int):decide ((Ot a:Key)=Ot b)=(a==b):=by
 by_cases e:a=b
 ·subst e;simp
 ·have h : ¬(Ot a:Key)=Ot b:=λq=>e (Ot.inj q)
  rw[decide_eq_false h];exact(beq_eq_false_iff_ne.mpr e).symm
theorem Cv(a b:Str):decide ((Tf a:Key)=Tf b)=decide (a=b):=by
 by_cases e:a=b
 ·subst e;simp
 ·have h : ¬(Tf a:Key)=Tf b:=λq=>e (Tf.inj q)
  rw[decide_eq_false h,decide_eq_false e]
theorem Cy(a:Int)(b:Str):decide ((Ot a:Key)=Tf b)=eK:=decide_eq_false<|λq=>nomatch q
theorem Cw(a:Str)(b:Int):decide ((Tf a:Key)=Ot b)=eK:=decide_eq_false<|λq=>nomatch q
noncomputable def xP(prog:l6)(w:i8):PySem.KeyKind prog w Key where
 is:=dE
 hash:=Lx w
 inj:=λv a b ha I=>by
  rcases qz ha with⟨i,t,rfl,rfl⟩ | ⟨x,t,rfl,rfl⟩
  ·rcases qz I with⟨j,u,rfl,e⟩ | ⟨y,u,rfl,e⟩
   ·injection e with e1 _;rw[e1]
   ·exact nomatch e
  ·rcases qz I with⟨j,u,rfl,e⟩ | ⟨y,u,rfl,e⟩
   ·exact nomatch e
   ·injection e with e1 _;rw[e1]
 byValue:=λk v h=>by rcases qz h with⟨i,t,rfl,rfl⟩ | ⟨x,t,rfl,rfl⟩<;>rfl
 pyHash:=λz h=>by
  rcases qz z with⟨i,t,rfl,rfl⟩ | ⟨x,t,rfl,rfl⟩
  ·exact wpAny_pyHash_int h
  ·exact wpAny_pyHash_str h
 eqBool:=λO z h=>by
  rcases qz O with⟨i,t,rfl,rfl⟩ | ⟨x,t,rfl,rfl⟩
  ·rcases qz z with⟨j,u,rfl,rfl⟩ | ⟨y,u,rfl,rfl⟩
   ·rw[Cz]at h;exact wpAny_eqBool_int h
   ·rw[Cy]at h;exact NO.int_str i t y u _ _ _ _ h
  ·rcases qz z with⟨j,u,rfl,rfl⟩ | ⟨y,u,rfl,rfl⟩
   ·rw[Cw]at h;exact NO.str_int x t j u _ _ _ _ h
   ·rw[Cv]at h;exact wpAny_eqBool_str h
 «strs» :=λk x t v h=>by
  rcases qz h with⟨i,u,rfl,e⟩ | ⟨y,u,rfl,e⟩
  ·exact nomatch e
  ·injection e with e1 _
   subst e1;cases v<;>rfl
theorem WB(prog:l6)(w:i8)(i:Int)(t:tw):(xP prog w).is (.inl i) (.int i t)=eA:=iq i t
theorem WA(prog:l6)(w:i8)(x:Str)(t:tw):(xP prog w).is (.inr x) (.str x t)=eA:=ip x t
inductive V where
 | gm | bl (b:Bool) | int (i:Int) | str (x:Str) | L7 (b:Array UInt8) | Gx (b:UInt64) | ref (a:fe) | ty (n:String)
 deriving DecidableEq
noncomputable def RelV:V->fh->Prop
 | .gm,u=>u=Nd
 | .bl b,u=>u=SV b
 | .int i,u=>∃t,u=Sn i t
 | .str x,u=>∃t,u=Sm x t
 | .L7 b,u=>∃t,u=Value.bytes b t
 | .Gx b,u=>∃t,u=Value.float b t
 | .ref a,u=>u=NS a
 | .ty n,u=>u=Py n
abbrev gv:List V->List fh->Prop:=Paired RelV
theorem gv.length(r:gv xs us):xs.length=us.length:=Paired.length r
theorem gv.get : ∀{xs:List V} {us:List fh} {i:Nat} {x:V},gv xs us->xs[i]? = ej x->∃u,us[i]? = ej u/\RelV x u
 | _,_,_,_,.nil,e=>by simp at e
 | _,_,0,_,.cons r _,e=>by simp at e;subst e;exact⟨_,rfl,r⟩
 | _,_,i+1,x,.cons _ t,e=>by obtain⟨u,a,b⟩:=gv.get (i:=i) (x:=x) t (by simpa using e);exact⟨u,by simpa using a,b⟩
theorem gv.set(r:RelV x u) : ∀{xs:List V} {us:List fh} (i:Nat),gv xs us->gv (xs.set i x) (us.set i u)
 | _,_,_,.nil=> .nil
 | _,_,0,.cons _ t=> .cons r t
 | _,_,i+1,.cons q t=> .cons q (gv.set r i t)
theorem gv.append : ∀{xs ys:List V} {us z:List fh},gv xs us->gv ys z->gv (xs++ys) (us++z)
 | _,_,_,_,.nil,s=>s
 | _,_,_,_,.cons r t,s=> .cons r (gv.append t s)
theorem gv.take : ∀{xs:List V} {us:List fh} (n:Nat),gv xs us->gv (xs.take n) (us.take n)
 | _,_,0,_=> .nil
 | _,_,_+1,.nil=> .nil
 | _,_,n+1,.cons r t=> .cons r (gv.take n t)
theorem gv.drop : ∀{xs:List V} {us:List fh} (n:Nat),gv xs us->gv (xs.drop n) (us.drop n)
 | _,_,0,r=>r
 | _,_,_+1,.nil=> .nil
 | _,_,n+1,.cons _ t=>gv.drop n t
noncomputable def B9:Option V->Option fh->Prop
 | some v,ej u=>RelV v u
 | none,eF=>True
 | _,_=>False
noncomputable def KV{C:Type}:List (C×V)->List (C×fh)->Prop:=Paired λ(p:C×V) (q:C×fh)=>p.1=q.1/\RelV p.2 q.2
def kV:Key->V
 | .inl i=> .int i
 | .inr x=> .str x
inductive HO where
 | lst (xs:List V)
 | tup (xs:List V)
 | dK (o1:List (Key×V)) | dT (o1:List (List Key×V))
 | set (S:Int->Bool) (n:Nat)
 | ins (C dx:fe) (fs:List (Str×V))
 | own (x:fe)
 | xd (fs:List (Str×V))
 | met (f x:fe)
 | o5 (lo hi:Int)
 | A8 (o:pa) (u:HO)
 | E9 (ps:Array fh)
 | ext (φ:gB->Prop)
abbrev Hp:=fe->Option HO
def upd(H:Hp)(a:fe)(o:HO):Hp:=λb=>if b=a then ej o else H b
theorem zQ:upd H a o a=ej o:=by unfold upd;rw[UJ rfl]
theorem zL(h:b≠a):upd H a o b=H b:=by unfold upd;rw[UY h]
theorem eH{H:Hp}{a:fe}{o u:HO}:upd (upd H a o) a u=upd H a u:=by funext b;unfold upd;split<;>rfl
theorem qr{H:Hp}{a b:fe}{o:HO}(h:H a=ej o)(h':H b=eF):a≠b:=by intro e;subst e;rw[h]at h';cases h'
noncomputable def C8(h:gB)(a:fe)(items:Array fh):Prop:=∃o,h.get? a=ej o/\(o.cls,o.dict)=(Py "tuple",eF)/\∃n,o.data = .seq items n
theorem C8.new(h:gB)(items:Array fh):C8 (h.push {cls:= .type "tuple",data:= .seq items}) h.objs.size items:=⟨_,Mz _ rfl,rfl,_,rfl⟩
theorem C8.tup(x:C8 h a items):L1 h a items:=let ⟨o,e,c,r⟩:=x;⟨o,e,(Prod.mk.inj c).1,r⟩
section
variable(P:l6)(w:i8)
noncomputable def nh(H:Hp)(h:gB)(a:fe):HO->Prop
 | .lst d=>d.length<=hB/\∃(z:List fh) (n:Nat),gv d z/\h.get? a=ej {cls:= .type "list",data:= .seq z.toArray n}
 | .tup d=>d.length<=hB/\∃z:List fh,gv d z/\C8 h a z.toArray
 | .dK b=>b.length<=hB/\(a==DF)=eK/\∃l,KV b l/\h.DictOf (xP P w) a l
 | .dT b=>b.length<=hB/\(a==DF)=eK/\∃d:List (List Key×fe×fh),
  Paired (λ(p:List Key×V) (q:List Key×fe×fh)=>p.1=q.1/\H q.2.1=ej (.tup<|p.1.map kV)/\RelV p.2 q.2.2) b d/\
  ∃o i I,h.get? a=ej o/\o.ExactDict/\o.data = .dict i I/\i.toList=d.map (entryOfKey<|tupleKind<|xP P w)/\(d.map (·.1)).Nodup
 | .set S n=>h.SetOf (intKind P w) a S n
 | .ins C e fs=>H e=ej (.own a)/\fs.length<=1000/\e≠a/\h.get? a=ej (PySem.W.instObj C e)/\
  ∃mA,h.Ns1 e mA/\(∀f,B9 (fs.lookup f)<|mA f)/\PySem.Within mA (fs.map (·.1))
 | .own _=>∃o,h.get? a=ej o
 | .xd fs=>∃mA,h.Ns1 a mA/\∀f,B9 (fs.lookup f)<|mA f
 | .o5 lo m=>∃t u v,h.get? a=ej {cls:= .type "range",data:= .fields #[.int lo t,.int m u,.int 1 v]}
 | .A8 o u=>h.get? a=ej o/\nh H h a u
 | .E9 r=>h.get? a=ej {cls:= .none,data:= .fields r}
 | .met f x=>h.get? a=ej (X1 (.ref f)<|.ref x)
 | .ext g=>g h/\(∃o,h.get? a=ej o)/\∀j k:gB,g j->(∀o,j.get? a=ej o->k.get? a=ej o)->g k
def n6(H:Hp)(h:gB):Prop:=∀a o,H a=ej o->nh P w H h a o
end
section
variable{P:l6}{w:i8}{H H':Hp}{h h':gB}{a:fe}{o:HO}
theorem nh.lt(x:nh P w H h a o):a<h.objs.size:=by
 cases o with
 | lst d=>obtain⟨_,_,_,_,e⟩:=x;exact MB e
 | tup d=>obtain⟨_,_,_,p⟩:=x;exact p.tup.lt
 | dK b=>obtain⟨_,_,_,_,o,_,_,e,_⟩:=x;exact MB e
 | dT b=>obtain⟨_,_,_,_,o,_,_,e,_⟩:=x;exact MB e
 | set S n=>obtain⟨o,_,_,_,e,_⟩:=x;exact MB e
 | ins C g fs=>obtain⟨_,_,_,e,_⟩:=x;exact MB e
 | own y=>obtain⟨_,e⟩:=x;exact MB e
 | xd fs=>obtain⟨_,⟨_,_,_,e,_⟩,_⟩:=x;exact MB e
 | o5 lo i=>obtain⟨_,_,_,e⟩:=x;exact MB e
 | A8 z u=>obtain⟨e,_⟩:=x;exact MB e
 | E9 j=>exact MB (show h.get? a=ej _ from x)
 | met f y=>exact MB (show h.get? a=ej _ from x)
 | ext k=>obtain⟨_,⟨_,e⟩,_⟩:=x;exact MB e
theorem Paired.w_ : ∀{z:List α} {I:List β},Paired F z I->(∀a b,F a b->G a b)->Paired G z I
 | _,_,.nil,_=> .nil
 | _,_,.cons r t,f=> .cons (f _ _ r) (Paired.w_ t f)
theorem nh.DX(x:nh P w H h a o)(k : ∀b u,(b=a\/H b=ej (.own a))->h.get? b=ej u->h'.get? b=ej u)
 (Y : ∀b,H b=ej (.own a)->H' b=ej (.own a)) (J : ∀b xs,H b=ej (.tup xs)->H' b=ej (.tup xs)):nh P w H' h' a o:=by
 induction o with
 | lst xs=>obtain⟨z,U,n,r,e⟩:=x;exact⟨z,U,n,r,k _ _ (.inl rfl) e⟩
 | tup xs=>obtain⟨z,U,r,I,e,c⟩:=x;exact⟨z,U,r,I,k _ _ (.inl rfl) e,c⟩
 | dK i=>obtain⟨z,y,E,r,I,g,O,e,c⟩:=x;exact⟨z,y,E,r,I,g,O,k _ _ (.inl rfl) e,c⟩
 | dT i=>
  obtain⟨z,y,xs,r,I,g,O,e,c⟩:=x;exact⟨z,y,xs,Paired.w_ r λp q z=>⟨z.1,J _ _ z.2.1,z.2.2⟩,I,g,O,k _ _ (.inl rfl) e,c⟩
 | set S n=>obtain⟨I,g,O,t,e,c⟩:=x;exact⟨I,g,O,t,k _ _ (.inl rfl) e,c⟩
 | ins C F fs=>
  obtain⟨d,z,B,e,j,⟨l,g,O,s,c⟩,r⟩:=x;exact⟨Y _ d,z,B,k _ _ (.inl rfl) e,j,⟨l,g,O,k _ _ (.inr d) s,c⟩,r⟩
 | own y=>obtain⟨I,e⟩:=x;exact⟨I,k _ _ (.inl rfl) e⟩
 | xd fs=>obtain⟨j,⟨l,g,O,e,c⟩,r⟩:=x;exact⟨j,⟨l,g,O,k _ _ (.inl rfl) e,c⟩,r⟩
 | o5 lo G=>obtain⟨t,u,v,e⟩:=x;exact⟨t,u,v,k _ _ (.inl rfl) e⟩
 | A8 I u A=>obtain⟨e,q⟩:=x;exact⟨k _ _ (.inl rfl) e,A q⟩
 | E9 m=>
  have e:h.get? a=ej {cls:= .none,data:= .fields m}:=x;show h'.get? a=ej {cls:= .none,data:= .fields m};exact k a _ (.inl rfl) e
 | met f y=>
  have e:h.get? a=ej (X1 (.ref f)<|.ref y):=x;show h'.get? a=ej (X1 (.ref f)<|.ref y);exact k a _ (.inl rfl) e
 | ext K=>obtain⟨p,⟨o,e⟩,st⟩:=x;exact⟨st _ _ p λo q=>k _ _ (.inl rfl) q,⟨o,k _ _ (.inl rfl) e⟩,st⟩
theorem n6.lt(x:n6 P w H h)(e:H a=ej o):a<h.objs.size:=(x a o e).lt
theorem n6.fresh(x:n6 P w H h)(e:h.objs.size<=a):H a=eF:=by
 cases q:H a with
 | none=>rfl
 | some u=>exact absurd (MI (x.lt q) e)<|Nw _
theorem n6.kept(x:n6 P w H h)(k : ∀b u,h.get? b=ej u->h'.get? b=ej u):n6 P w H h':=λa o e=>
 (x a o e).DX (λb u _ q=>k b u q) (λ_ q=>q) λ_ _ q=>q
theorem n6.laid(x:n6 P w H h)(k : ∀b u,h.get? b=ej u->h'.get? b=ej u)(I:h.objs.size<=a)(new:nh P w (upd H a o) h' a o):n6 P w (upd H a o) h':=λb u e=>by
 have d:=x.fresh I;by_cases z:b=a
 ·subst z;rw[zQ]at e;cases e;exact new
 ·rw[zL z]at e
  exact(x b u e).DX (λc v _ q=>k c v q) (λc q=>by rw[zL (qr q d)];exact q) λc f q=>by rw[zL (qr q d)];exact q
end
def Rd(H:Hp)(a:fe)(u:HO):Prop:=H a=ej u\/∃o,H a=ej (.A8 o u)
theorem Rd.ok(r:Rd H a u)(x:n6 P w H h):nh P w H h a u:=by
 rcases r with r | ⟨o,r⟩
 ·exact x a u r
 ·obtain⟨_,q⟩:=x a _ r
  exact q
noncomputable def L4:Option HO->Prop
 | some (.lst _)=>True
 | some (.dK _)=>True
 | some (.dT _)=>True
 | some (.set _ _)=>True
 | some (.ins _ _ _)=>True
 | some (.ext _)=>True
 | _=>False
section
variable{P:l6}{w:i8}{H:Hp}{h h':gB}{x e:fe}{o':HO}
theorem n6.write(ok:n6 P w H h)(I:L4 (H x))(C:e=x\/H e=ej (.own x))(k : ∀b u,b≠e->h.get? b=ej u->h'.get? b=ej u)(J : ∃u,h'.get? e=ej u)
 (new:nh P w (upd H x o') h' x o'):n6 P w (upd H x o') h':=λb u q=>by
 have d : ∀c y,H c=ej (.own y)->c≠x:=λc y r z=>by subst z;rw[r]at I;exact I
 have g : ∀c a,H c=ej (.tup a)->c≠x:=λc a r z=>by subst z;rw[r]at I;exact I
 by_cases O:b=x
 ·subst O;rw[zQ]at q;cases q;exact new
 ·rw[zL O]at q
  by_cases U:b=e
  ·have f:H b=ej (.own x):=by
    rcases C with z | z
    ·exact absurd (U.trans z) O
    ·rw[U];exact z
   rw[q]at f;cases f;obtain⟨v,i⟩:=J;exact⟨v,by rw[U];exact i⟩
  ·refine(ok b u q).DX (λc v Y r=>k c v ?_ r) (λc r=>by rw[zL (d c b r)];exact r) λc a r=>by rw[zL (g c a r)];exact r
   rcases Y with rfl | Y
   ·exact U
   ·rintro rfl
    rcases C with z | z
    ·exact d c b Y z
    ·rw[Y]at z;cases z;exact O rfl
end
structure Un(fs ex:List fe)(H H':Hp)(h h':gB):Prop where
 keep : ∀b o,h.get? b=ej o->H b=eF->b∉fs->b∉ex->h'.get? b=ej o
 slot : ∀b o,h.get? b=ej o->H b=eF->b∈fs->b∉ex->∃sl,h'.get? b=ej {o with slots:=sl}
 free : ∀b o,h.get? b=ej o->H b=eF->b∉ex->H' b=eF
 there : ∀b o,h.get? b=ej o->b∉ex->∃o',h'.get? b=ej o'
 DH : ∀b xs,H b=ej (.tup xs)->H' b=ej (.tup xs)
 DR : ∀b o u,H b=ej (.A8 o u)->H' b=ej (.A8 o u)
 DG : ∀b ps,H b=ej (.E9 ps)->∃more,H' b=ej (.E9<|ps++more)
section
variable{fs _s ex k?:List fe}{H H1 H2:Hp}{h h1 h2 h':gB}{a x e:fe}{o:HO}
theorem Un.any(u:Un fs ex H H1 h h1)(q:h.get? b=ej ob)(n:H b=eF)(hx:b∉ex) : ∃C,h1.get? b=ej {ob with slots:=C}:=by
 by_cases z:b∈fs
 ·exact u.slot b ob q n z hx
 ·exact⟨ob.slots,u.keep b ob q n z hx⟩
theorem Un.kept(k : ∀b u,h.get? b=ej u->h'.get? b=ej u):Un fs ex H H h h':=
 ⟨λb z q _ _ _=>k b z q,λb z q _ _ _=>⟨z.slots,k b z q⟩,λ_ _ _ n _=>n,λb z q _=>⟨z,k b z q⟩,λ_ _ q=>q,λ_ _ _ q=>q,λ_ a q=>⟨#[],by rw[q];simp⟩⟩
theorem Un.refl:Un fs ex H H h h:=Un.kept λ_ _ q=>q
theorem Un.laid(k : ∀b u,h.get? b=ej u->h'.get? b=ej u)(z:h.objs.size<=a)(hn:H a=eF):Un fs ex H (upd H a o) h h' where
 keep:=λb u q _ _ _=>k b u q
 slot:=λb u q _ _ _=>⟨u.slots,k b u q⟩
 free:=λb u q n _=>by rw[zL (MP<|MI (MB q) z)];exact n
 there:=λb u q _=>⟨u,k b u q⟩
 DH:=λb xs q=>by rw[zL (qr q hn)];exact q
 DR:=λb u xs q=>by rw[zL (qr q hn)];exact q
 DG:=λb ps q=>⟨#[],by rw[zL (qr q hn),q];simp⟩
theorem Un.write(I:L4 (H x))(Y:e=x\/H e=ej (.own x))(k : ∀b u,b≠e->h.get? b=ej u->h'.get? b=ej u)(C : ∃u,h'.get? e=ej u):Un fs ex H (upd H x o) h h':=by
 have d : ∀b,H b=eF->b≠x:=λb n z=>by subst z;rw[n]at I;exact I
 have O : ∀b,H b=eF->b≠e:=λb n z=>by
  subst z;rcases Y with r | r
  ·exact d b n r
  ·rw[n]at r;cases r
 have a : ∀b u,H b=ej u->¬L4 (ej u)->b≠x:=λb u q nm z=>by subst z;rw[q]at I;exact nm I
 refine⟨λb u q n _ _=>k b u (O b n) q,λb u q n _ _=>⟨u.slots,k b u (O b n) q⟩,λb u q n _=>by rw[zL (d b n)];exact n,λb u q _=>?_,
  λb f q=>by rw[zL (a b _ q λz=>z)];exact q,λb u f q=>by rw[zL (a b _ q λz=>z)];exact q,λb g q=>⟨#[],by rw[zL (a b _ q λz=>z),q];simp⟩⟩
 by_cases U:b=e
 ·subst U;exact C
 ·exact⟨u,k b u U q⟩
end
def S3(h:gB)(H:Hp):List fe:=(Me h.objs.size).filter λa=>(H a).isSome
def oI(h:gB)(H:Hp):gB:=PySem.W.hideAll h<|S3 h H
theorem iF(h:gB)(H:Hp):(oI h H).objs.size=h.objs.size:=PySem.W.hideAll_size _ _
theorem oH(e:h.get? b=ej o)(n:H b=eF):(oI h H).get? b=ej o:=
 PySem.W.hideAll_get _ e λa=>by have q:(H b).isSome=eA:=(MR.mp a).2;rw[n]at q;simp at q
theorem ur(e:(oI h H).get? b=ej o):h.get? b=ej o/\H b=eF:=by
 have I:h.get? b=ej o:=PySem.W.of_hideAll (S3 h H) e;refine⟨I,?_⟩;cases q:H b with
 | none=>rfl
 | some x=>
  have a:b∈S3 h H:=MR.mpr ⟨Mg.mpr<|MB I,by simp[q]⟩;have z:(oI h H).get? b=eF:=PySem.W.hideAll_none (S3 h H) a;rw[z]at e;cases e
noncomputable def Ao(g h:gB)(L:fe):List (fe×pa):=(Me h.objs.size).filterMap λa=>if a=L\/(g.get? a).isSome=eA then eF else (h.get? a).map λo=>(a,o)
def yp(g h:gB)(L d:fe):List (fe×pa):=(Ao g h L).filter λp=>decide<|p.1≠d
structure Mod(K:Mf)(mg:UZ)(base:gB):Prop where
 Uo:K.In base
 glob:base.Ns xb mg
 blt : ∃mb,base.Ns f_ mb/\∀x:Str,x ≠ "__name__"->mb x=Dd x
 nolimit:base.NoLimit
structure Cx where
 prog:l6
 w:i8
 K:Mf
 mg:Str->Option fh
 base:gB
 A:o6
 N:List Str
 rb:f6
 L0:Hp
 env:ro
 outer:List ro
 stack:List ro
 ex:List fe
 fn:Str->Bool
 calm:Bool
 pn:List (fe×pa)
 xe:fh->f6->Prop
def C3(l:List ro):List fe:=l.filterMap (·.frame)
abbrev Cx.fs(X:Cx):List fe:=C3 X.outer
noncomputable def TM(C:jn)(x:Str):Prop:=C.names.lookup x=ej .local\/C.names.lookup x=ej .cell\/C.names.lookup x=ej .free
noncomputable def Loc(C:jn)(x:Str):Prop:=C.names.lookup x=ej .local\/C.names.lookup x=ej .cell
noncomputable def LO(env:ro)(h:gB)(m:UZ)(x:Str)(u:fh):Prop:=
 (env.kindOf x=ej .local/\m x=ej u)\/((env.kindOf x=ej .cell\/env.kindOf x=ej .free)/\∃c,env.cells.lookup x=ej c/\h.IsCell c (ej u))
structure Cx.Ok(X:Cx):Prop where
 mod:Mod X.K X.mg X.base
 kind:X.env.scope.kind = .function
 glob:X.env.globals=xb
 blt:X.env.builtins=f_
 above:X.rb.heap.objs.size<=X.env.locals
 inj : ∀x y c,X.env.cells.lookup x=ej c->X.env.cells.lookup y=ej c->x=y
 has : ∀x,(X.env.kindOf x=ej .cell\/X.env.kindOf x=ej .free)->∃c,X.env.cells.lookup x=ej c
 L8 : ∀x c,X.fn x=eA->X.env.cells.lookup x=ej c->X.rb.heap.objs.size<=c
 hd:X.calm=eA->X.A.handled=eF
 frames:X.A.frames=ej X.stack
 R6:X.stack=X.outer\/(X.stack=X.env::X.outer/\X.env.frame=ej X.env.locals)
 P1 : ∀b∈X.ex,b≠X.env.locals/\∀x c,X.env.cells.lookup x=ej c->c≠b
 bs : ∀b o,X.base.get? b=ej o->X.rb.heap.get? b=ej o/\X.L0 b=eF
 De:X.base.objs.size<=X.rb.heap.objs.size
 M5 : ∀b o,X.base.get? b=ej o->b∉X.ex
 M0 : ∀b∈X.ex,b∉X.fs
 A9:X.rb.heap.FunFrames X.base X.outer
 DQ : ∀b∈X.fs,X.L0 b=eF
structure Inv(X:Cx)(pins:UQ)(σ:List (Option V))(H:Hp)(s:f6):Prop where
 ok:X.Ok
 os:s.os=X.rb.os
 bare:DI s.gens
 base:Un X.fs X.ex X.L0 H X.rb.heap s.heap
 loc : ∃m,s.heap.Ns X.env.locals m/\∀(i:Nat) (x:Str) (v:V),X.N[i]? = ej x->σ[i]? = ej (ej v)->TM X.env.scope x->∃u,RelV v u/\LO X.env s.heap m x u
 cell : ∀x c,X.env.cells.lookup x=ej c->∃v,s.heap.IsCell c v
 free:H X.env.locals=eF
 C2 : ∀x c,X.env.cells.lookup x=ej c->H c=eF
 pin : ∀p∈X.pn++pins,s.heap.get? p.1=ej p.2/\H p.1=eF/\p.1≠X.env.locals/\p.1∉X.fs/\∀v,p.2.data ≠ .cell v
 g5:n6 X.prog X.w H s.heap
 len:σ.length=X.N.length
section
variable{X:Cx}{pins:UQ}{σ:List (Option V)}{H H':Hp}{s:f6}{h':gB}
theorem Cx.Ok._D(ok:X.Ok)(e:X.base.get? b=ej o):b∉X.fs:=λz=>by have:=(ok.A9.mem z).1;rw[e]at this;cases this
theorem Inv.bs(I:Inv X pins σ H s) : ∀b o,X.base.get? b=ej o->s.heap.get? b=ej o/\H b=eF:=λb o e=>
 ⟨I.base.keep b o (I.ok.bs b o e).1 (I.ok.bs b o e).2 (I.ok._D e) (I.ok.M5 b o e),I.base.free b o (I.ok.bs b o e).1 (I.ok.bs b o e).2 (I.ok.M5 b o e)⟩
theorem Inv.bk(I:Inv X pins σ H s) : ∀b o,X.base.get? b=ej o->s.heap.get? b=ej o:=λb o e=>(I.bs b o e).1
theorem Inv.mod(I:Inv X pins σ H s):Mod X.K X.mg X.base:=I.ok.mod
theorem Inv.m6(I:Inv X pins σ H s):X.K.In s.heap:=I.ok.mod.Uo.keeps I.bk
theorem Inv.lt(I:Inv X pins σ H s):X.env.locals<s.heap.objs.size:=let ⟨_,a,_⟩:=I.loc;a.lt
theorem Inv.sz(I:Inv X pins σ H s):X.rb.heap.objs.size<=s.heap.objs.size:=NQ I.ok.above<|Sy I.lt
theorem Inv._F(I:Inv X pins σ H s)(h:s.heap.objs.size<=a):a∉X.fs:=λz=>by obtain⟨_,o,O,_⟩:=I.ok.A9.mem z;exact absurd (MI (MB O)<|NQ I.sz h)<|Nw _
theorem Inv.E2(I:Inv X pins σ H s) : ∀x c,X.env.cells.lookup x=ej c->c≠X.env.locals:=λx c e z=>by obtain⟨v,o,O,a⟩:=I.cell x c e;obtain⟨m,⟨f,d,b,U,Y,_⟩,_⟩:=I.loc;rw[z,U]at O;cases O;rw[Y]at a;cases a
theorem Inv.A9(I:Inv X pins σ H s):s.heap.FunFrames X.base X.outer:=by
 have all : ∀(l:List ro),(∀b∈C3 l,b∈X.fs)->X.rb.heap.FunFrames X.base l->s.heap.FunFrames X.base l:=by
  intro l
  induction l with
  | nil=>intro _ _;trivial
  | cons d r m=>
   intro a h;obtain⟨g,⟨L,o,O,i,j,f⟩,k⟩:=h;have U:L∈X.fs:=a L (by unfold C3;rw[SH,O];exact Mx);obtain⟨n,e⟩:=I.base.slot L o j (I.ok.DQ L U) U λz=>I.ok.M0 L z U;exact⟨g,⟨L,_,O,i,e,f⟩,m (λb Y=>a b<|by unfold C3;rw[SH,O];exact Ms _ Y) k⟩
 exact all X.outer (λ_ Y=>Y) I.ok.A9
theorem Inv.stack(I:Inv X pins σ H s):s.heap.FunFrames X.base X.stack:=by
 rcases I.ok.R6 with e | ⟨e,z⟩
 ·rw[e];exact I.A9
 ·rw[e]
  obtain⟨m,a,_⟩:=I.loc;refine .cons (by rw[I.ok.kind];decide) z a ?_ I.A9;exact Heap.get?_none_of_le<|NQ I.ok.De I.ok.above
theorem Inv.UM(I:Inv X pins σ H s) : ∀b∈C3 X.stack,b∈X.env.locals::X.fs:=λb z=>by
 rcases I.ok.R6 with e | ⟨e,O⟩
 ·rw[e]at z;exact Ms _ z
 ·rw[e]at z
  unfold C3 at z;rw[SH,O]at z;exact z
theorem Inv.E_(I:Inv X pins σ H s) : ∀b∈C3 X.stack,H b=eF:=λb O=>by
 rcases Mu.mp (I.UM b O)with e | O
 ·rw[e];exact I.free
 ·obtain⟨_,o,U,_⟩:=I.ok.A9.mem O
  exact I.base.free b o U (I.ok.DQ b O) λz=>I.ok.M0 b z O
theorem Inv.step{g':Array GenState}{t':Nat}{d':Drawn}{ch:List fe}(I:Inv X pins σ H s)
 (Y : ∀b∈ch,(b∈X.ex\/X.rb.heap.objs.size<=b)/\b≠X.env.locals/\(∀x c,X.env.cells.lookup x=ej c->c≠b)/\∀p∈X.pn++pins,p.1≠b)
 (keep : ∀b o,b≠X.env.locals->b∉X.fs->b∉ch->s.heap.get? b=ej o->H b=eF->h'.get? b=ej o)
 (C : ∀b o,b≠X.env.locals->b∈X.fs->b∉ch->s.heap.get? b=ej o->H b=eF->∃sl,h'.get? b=ej {o with slots:=sl}) (free : ∀b o,b∉ch->s.heap.get? b=ej o->H b=eF->H' b=eF)
 (J : ∀b o,b∉ch->s.heap.get? b=ej o->∃Z,h'.get? b=ej Z)
 (DH : ∀b xs,H b=ej (.tup xs)->H' b=ej (.tup xs)) (S : ∀b o u,H b=ej (.A8 o u)->H' b=ej (.A8 o u)) (DG : ∀b ps,H b=ej (.E9 ps)->∃more,H' b=ej (.E9<|ps++more))
 (ns : ∀m,s.heap.Ns X.env.locals m->h'.Ns X.env.locals m) (g5:n6 X.prog X.w H' h') (hg:DI g') :
 Inv X pins σ H' {s with heap:=h',gens:=g',drawn:=d',toks:=t'}:=by
 have y : ∀b o,X.rb.heap.get? b=ej o->b≠X.env.locals:=λb o e=>MP<|MI (MB e) I.ok.above;have j : ∀b o,X.rb.heap.get? b=ej o->b∉X.ex->b∉ch:=λb o e a O=>by
  rcases (Y b O).1 with z | z
  ·exact a z
  ·exact absurd (MI (MB e) z)<|Nw _
 have A : ∀x c,X.env.cells.lookup x=ej c->∀v,s.heap.IsCell c v->h'.IsCell c v:=λx c e v M=>by
  obtain⟨o,U,t⟩:=M;have g:c∉ch:=λz=>(Y c z).2.2.1 x c e rfl;by_cases B:c∈X.fs
  ·obtain⟨sl,q⟩:=C c o (I.E2 x c e) B g U (I.C2 x c e)
   exact⟨_,q,t⟩
  ·exact⟨o,keep c o (I.E2 x c e) B g U<|I.C2 x c e,t⟩
 refine⟨I.ok,I.os,hg,⟨λb o e n O a=>?_,λb o e n O a=>?_,λb o e n a=>?_,λb o e a=>?_,λb xs e=>DH b xs<|I.base.DH b xs e,λb o xs e=>S b o xs<|I.base.DR b o xs e,λb ps e=>?_⟩,?_,λx c e=>?_,?_,λx c e=>?_,λp E=>?_,g5,I.len⟩
 ·exact keep b o (y b o e) O (j b o e a) (I.base.keep b o e n O a)<|I.base.free b o e n a
 ·obtain⟨sl,f⟩:=I.base.slot b o e n O a
  obtain⟨K,h⟩:=C b _ (y b o e) O (j b o e a) f<|I.base.free b o e n a;exact⟨K,h⟩
 ·obtain⟨Z,f⟩:=I.base.there b o e a
  exact free b Z (j b o e a) f<|I.base.free b o e n a
 ·obtain⟨Z,f⟩:=I.base.there b o e a
  exact J b Z (j b o e a) f
 ·obtain⟨Q,f⟩:=I.base.DG b ps e
  obtain⟨R,h⟩:=DG b _ f;exact⟨Q++R,by rw[h,Array.append_assoc]⟩
 ·obtain⟨m,P,N⟩:=I.loc
  refine⟨m,ns m P,λi x v f h L=>?_⟩;obtain⟨u,r,l⟩:=N i x v f h L;refine⟨u,r,?_⟩;rcases l with l | ⟨k,c,e,z⟩
  ·exact .inl l
  ·exact .inr ⟨k,c,e,A x c e _ z⟩
 ·obtain⟨v,z⟩:=I.cell x c e
  exact⟨v,A x c e v z⟩
 ·obtain⟨m,⟨o,_,_,U,_⟩,_⟩:=I.loc
  exact free _ o (λz=>(Y _ z).2.1 rfl) U I.free
 ·obtain⟨v,o,U,t⟩:=I.cell x c e
  exact free c o (λz=>(Y c z).2.2.1 x c e rfl) U<|I.C2 x c e
 ·obtain⟨e,n,F,G,d⟩:=I.pin p E
  have g:p.1∉ch:=λz=>(Y p.1 z).2.2.2 p E rfl;exact⟨keep p.1 p.2 F G g e n,free p.1 p.2 g e n,F,G,d⟩
theorem Inv.un{t':Nat}(I:Inv X pins σ H s)(u:Un X.fs [] H H' s.heap h')(C:n6 X.prog X.w H' h'):Inv X pins σ H' {s with heap:=h',toks:=t'}:=by
 obtain⟨m,⟨o,j,i,U,r⟩,_⟩:=id I.loc;obtain⟨p,f⟩:=u.any U I.free ⋯;exact I.step (g':=s.gens) (d':=s.drawn) (ch:=[]) (λ_ z=>nomatch z) (λb o _ O _ e n=>u.keep b o e n O ⋯) (λb o _ O _ e n=>u.slot b o e n O ⋯) (λb o _ e n=>u.free b o e n ⋯) (λb o _ e=>u.there b o e ⋯) u.DH u.DR u.DG (λk g=>by obtain⟨l,a,d,Y,h⟩:=g;rw[U]at Y;cases Y;exact⟨_,a,d,f,h⟩) C I.bare
theorem Inv.call{g':Array GenState}{t':Nat}{d':Drawn}{ch:List fe}(I:Inv X pins σ H s)(u:Un (C3 X.stack) ch H H' s.heap h')(C:n6 X.prog X.w H' h')(J:DI g')
 (Y : ∀b∈ch,(b∈X.ex\/X.rb.heap.objs.size<=b)/\b≠X.env.locals/\(∀x c,X.env.cells.lookup x=ej c->c≠b)/\∀p∈X.pn++pins,p.1≠b) :
 Inv X pins σ H' {s with heap:=h',gens:=g',drawn:=d',toks:=t'}:=by
 obtain⟨m,⟨o,l,k,d,r⟩,_⟩:=id I.loc;obtain⟨A,U⟩:=u.any d I.free λz=>(Y _ z).2.1 rfl;exact I.step (ch:=ch) Y (λb o U h O e n=>u.keep b o e n (λz=>(Mu.mp<|I.UM b z).elim U h) O) (λb o _ _ O e n=>u.any e n O) (λb o O e n=>u.free b o e n O) (λb o O e=>u.there b o e O) u.DH u.DR u.DG (λt i=>by obtain⟨y,f,g,a,j⟩:=i;rw[d]at a;cases a;exact⟨_,f,g,U,j⟩) C J
theorem Inv.turned{t':Nat}{it:fe}(I:Inv X pins σ H s)(k : ∀b o,b≠it->s.heap.get? b=ej o->h'.get? b=ej o)(Z:H it=eF)(U:it≠X.env.locals)
 (C:it∈X.ex\/X.rb.heap.objs.size<=it) (J : ∀x c,X.env.cells.lookup x=ej c->c≠it) (S : ∀p∈X.pn++pins,p.1≠it):Inv X pins σ H {s with heap:=h',toks:=t'}:=by
 have Y : ∀b u,H b=ej u->b≠it:=λb u e z=>by rw[z,Z]at e;cases e
 refine I.step (g':=s.gens) (d':=s.drawn) (ch:=[it]) (λb f=>?_) (λb o _ _ O e _=>k b o (λz=>O<|by simp[z]) e) (λb o _ _ O e _=>⟨o.slots,k b o (λz=>O<|by simp[z]) e⟩) (λ_ _ _ _ n=>n)
  (λb o O e=>⟨o,k b o (λz=>O<|by simp[z]) e⟩) (λ_ _ e=>e) (λ_ _ _ e=>e) (λb i e=>⟨#[],by rw[e];simp⟩) (λm g=>?_) (λb u e=>?_) I.bare
 ·have e:b=it:=by simpa using f
  subst e;exact⟨C,U,J,S⟩
 ·obtain⟨o,d,a,h,r⟩:=g
  exact⟨o,d,a,k _ o (MV U) h,r⟩
 ·refine(I.g5 b u e).DX (λc v O q=>k c v ?_ q) (λ_ q=>q) λ_ _ q=>q
  rcases O with z | z
  ·rw[z];exact Y b u e
  ·exact Y c _ z
theorem Inv.tok(I:Inv X pins σ H s)(t:Nat):Inv X pins σ H {s with toks:=t}:=I.un (h':=s.heap) (t':=t) Un.refl I.g5
theorem Inv.kept(I:Inv X pins σ H s)(k : ∀b u,s.heap.get? b=ej u->h'.get? b=ej u):Inv X pins σ H {s with heap:=h',toks:=t'}:=I.un (Un.kept k)<|I.g5.kept k
theorem Inv.laid(I:Inv X pins σ H s)(k : ∀b u,s.heap.get? b=ej u->h'.get? b=ej u)(z:s.heap.objs.size<=a)(new:nh X.prog X.w (upd H a o) h' a o) :
 Inv X pins σ (upd H a o) {s with heap:=h',toks:=t'}:=I.un (Un.laid k z<|I.g5.fresh z)<|I.g5.laid k z new
theorem Inv.write(I:Inv X pins σ H s)(z:L4 (H x))(O:e=x\/H e=ej (.own x))(k : ∀b u,b≠e->s.heap.get? b=ej u->h'.get? b=ej u)(U : ∃u,h'.get? e=ej u)
 (new:nh X.prog X.w (upd H x o) h' x o):Inv X pins σ (upd H x o) {s with heap:=h',toks:=t'}:=I.un (Un.write z O k U)<|I.g5.write z O k U new
theorem Inv.P9(I:Inv X pins σ H s)(h : ∀p∈O,s.heap.get? p.1=ej p.2/\H p.1=eF/\p.1≠X.env.locals/\p.1∉X.fs/\∀v,p.2.data ≠ .cell v):Inv X O σ H s:=
 ⟨I.ok,I.os,I.bare,I.base,I.loc,I.cell,I.free,I.C2,λp U=>(PL.mp U).elim (λz=>I.pin p<|U8 _ z) (h p),I.g5,I.len⟩
theorem aX{N:List Str}(z:N.Nodup){i j:Nat}{x:Str}(a:N[i]? = ej x)(b:N[j]? = ej x):i=j:=by obtain⟨e,d⟩:=Mv.mp a;obtain⟨f,I⟩:=Mv.mp b;exact(List.getElem_inj z).mp (d.trans I.symm)
theorem YL{M:Model}{A:o6}{E:EQ}{i:Nat}{x:Str}{v:V}{u:fh}{Q:Unit->f6->Prop}(I:Inv X pins σ H s)(hN:X.N.Nodup)(C:X.N[i]? = ej x)(hx:Loc X.env.scope x)(r:RelV v u)
 (h : ∀Z,Inv X pins (σ.set i<|some v) H Z->(∃a,ON a s.heap Z.heap/\(a=X.env.locals\/X.env.cells.lookup x=ej a))->Q () Z) (hf:X.fn x=eA\/X.env.scope.names.lookup x=ej .local:=by first | exact .inl rfl | exact .inr rfl | assumption):wpAny M A (storeName X.env x u) Q E s:=by
 obtain⟨m,K,hl⟩:=id I.loc;have b6:(X.env.scope.kind == .class || (X.env.scope.kind == .module && X.env.locals != X.env.globals))=eK:=by rw[I.ok.kind];rfl
 have an:i<σ.length:=by rw[I.len];exact(Mv.mp C).1
 have E2:=I.E2;have ap : ∀{a:fe} {h':gB},(∃o,s.heap.get? a=ej o/\H a=eF)->ON a s.heap h'->n6 X.prog X.w H h':=λ{a h'} ha O b ob e=>by
  obtain⟨_,_,ar⟩:=ha;refine(I.g5 b ob e).DX (λc F U q=>(O.2 c ?_).trans q) (λ_ q=>q) λ_ _ q=>q;rintro rfl;rcases U with rfl | U
  ·rw[ar]at e;cases e
  ·rw[ar]at U;cases U
 rcases hx with hk | hk
 ·refine wpAny_storeName_local hk K (λh' b8 O=>?_) b6
  obtain⟨oL,_,_,bb,_⟩:=id K;refine h _ ⟨I.ok,I.os,I.bare,⟨λb o e n g hx=>?_,λb o e n g hx=>?_,I.base.free,λb o e hx=>?_,I.base.DH,I.base.DR,I.base.DG⟩,⟨_,b8,λj y v' f Y J=>?_⟩,λy c e=>?_,I.free,I.C2,λp L=>?_,ap ⟨oL,bb,I.free⟩ O,by simpa using I.len⟩ ⟨_,O,.inl rfl⟩
  ·exact(O.2 b<|MP<|MI (MB e) I.ok.above).trans (I.base.keep b o e n g hx)
  ·obtain⟨T,f⟩:=I.base.slot b o e n g hx
   exact⟨T,(O.2 b<|MP<|MI (MB e) I.ok.above).trans f⟩
  ·obtain⟨R,f⟩:=I.base.there b o e hx
   exact⟨R,(O.2 b<|MP<|MI (MB e) I.ok.above).trans f⟩
  ·by_cases l:j=i
   ·subst l
    rw[C]at f;cases f;rw[ME an]at Y;cases Y;exact⟨u,r,.inl ⟨hk,by simp⟩⟩
   ·rw[Mo (MV l)]at Y
    obtain⟨W,S,q⟩:=hl j y v' f Y J;refine⟨W,S,?_⟩;rcases q with⟨k,e⟩ | ⟨k,c,e,z⟩
    ·refine .inl ⟨k,?_⟩
     have:y≠x:=λe=>l<|aX hN f<|e ▸ C;simp[this,e]
    ·exact .inr ⟨k,c,e,z.sameBut O<|E2 y c e⟩
  ·obtain⟨F,z⟩:=I.cell y c e
   exact⟨F,z.sameBut O<|E2 y c e⟩
  ·obtain⟨e,n,B,P,d⟩:=I.pin p L
   exact⟨(O.2 p.1 B).trans e,n,B,P,d⟩
 ·have G:X.fn x=eA:=by
   rcases hf with z | z
   ·exact z
   ·rw[z]at hk;cases hk
  obtain⟨c,U⟩:=I.ok.has x<|.inl hk;obtain⟨F,z⟩:=I.cell x c U;refine wpAny_storeName_cell I.ok.kind hk U z<|λh' as O=>?_;obtain⟨oc,ax,bd⟩:=id z;refine h {s with heap:=h'} ⟨I.ok,I.os,I.bare,⟨λb o e n g hx=>?_,λb o e n g hx=>?_,I.base.free,λb o e hx=>?_,I.base.DH,I.base.DR,I.base.DG⟩,⟨m,K.sameBut O<|MV<|E2 x c U,λj y v' f Y J=>?_⟩,λy t e=>?_,I.free,I.C2,λp L=>?_,ap ⟨oc,ax,I.C2 x c U⟩ O,by simpa using I.len⟩ ⟨c,O,.inr U⟩
  ·exact(O.2 b<|MP<|MI (MB e)<|I.ok.L8 x c G U).trans (I.base.keep b o e n g hx)
  ·obtain⟨T,f⟩:=I.base.slot b o e n g hx
   exact⟨T,(O.2 b<|MP<|MI (MB e)<|I.ok.L8 x c G U).trans f⟩
  ·obtain⟨R,f⟩:=I.base.there b o e hx
   exact⟨R,(O.2 b<|MP<|MI (MB e)<|I.ok.L8 x c G U).trans f⟩
  ·by_cases l:j=i
   ·subst l
    rw[C]at f;cases f;rw[ME an]at Y;cases Y;exact⟨u,r,.inr ⟨.inl hk,c,U,as⟩⟩
   ·rw[Mo (MV l)]at Y
    obtain⟨W,S,q⟩:=hl j y v' f Y J;refine⟨W,S,?_⟩;rcases q with q | ⟨k,t,e,z'⟩
    ·exact .inl q
    ·refine .inr ⟨k,t,e,z'.sameBut O ?_⟩
     rintro rfl;exact l<|aX hN f<|I.ok.inj _ _ _ e U ▸ C
  ·by_cases b0:t=c
   ·subst b0;exact⟨_,as⟩
   ·obtain⟨w2,z2⟩:=I.cell y t e
    exact⟨w2,z2.sameBut O b0⟩
  ·obtain⟨e,n,B,P,d⟩:=I.pin p L
   refine⟨(O.2 p.1 ?_).trans e,n,B,P,d⟩;intro q;rw[q,ax]at e;have q':oc=p.2:=Ng e;exact d F (by rw[<- q'];exact bd)
theorem aA(I:Inv X pins σ H s)(z:X.N.Nodup)(J:X.N[i]? = ej x)(hx:Loc X.env.scope x)(r:RelV v u)
 (h : ∀C,Inv X pins (σ.set i<|some v) H C->Q () C) (O:X.fn x=eA\/X.env.scope.names.lookup x=ej .local:=by first | exact .inl rfl | exact .inr rfl | assumption):wpAny M A (storeName X.env x u) Q E s:=
 YL I z J hx r (λC U _=>h C U) O
theorem Inv._m(I:Inv X pins σ H s)(z:s'.os=s.os)(u:Un (C3 X.stack) ch H H' s.heap s'.heap)(C:n6 X.prog X.w H' s'.heap)(O:DI s'.gens)
 (U : ∀b∈ch,(b∈X.ex\/X.rb.heap.objs.size<=b)/\b≠X.env.locals/\(∀x c,X.env.cells.lookup x=ej c->c≠b)/\∀p∈X.pn++pins,p.1≠b):Inv X pins σ H' s':=by
 obtain⟨h',g',d',t',a⟩:=s';have e:a=s.os:=z;subst e;exact I.call (g':=g') (t':=t') (d':=d') u C O U
end
abbrev XK:=fh->Option fe->Hp->Prop
abbrev St:=List (Option V)
abbrev VK:=V->Hp->Prop
abbrev TE:=St->Hp->VK->Prop
abbrev TT:=St->Hp->(Bool->Hp->Prop)->Prop
abbrev TA:=St->Hp->(List V->Hp->Prop)->Prop
structure Ends where
 nx:St->Hp->Prop
 rt:VK
 bk:St->Hp->Prop:=λ_ _=>False
 ct:St->Hp->Prop:=λ_ _=>False
abbrev TS:=Ends->St->Hp->Prop
noncomputable def EP(X:Cx)(C:UQ)(J:St)(Q:VK)(u:fh)(I:f6):Prop:=∃v a,Inv X C J a I/\RelV v u/\Q v a
noncomputable def TP(X:Cx)(C:UQ)(J:St)(Q:Bool->Hp->Prop)(b:Bool)(I:f6):Prop:=∃a,Inv X C J a I/\Q b a
noncomputable def AP(X:Cx)(C:UQ)(J:St)(Q:List V->Hp->Prop)(us:List fh)(I:f6):Prop:=∃b a,Inv X C J a I/\gv b us/\Q b a
noncomputable def SP(X:Cx)(C:UQ)(D:Ends)(f:Flow)(I:f6):Prop:=
 match f with
 | .next=>∃a b,Inv X C a b I/\D.nx a b
 | .brk=>∃a b,Inv X C a b I/\D.bk a b
 | .cont=>∃a b,Inv X C a b I/\D.ct a b
 | .ret u=>∃v a b,Inv X C a b I/\RelV v u/\D.rt v b
noncomputable def PE(X:Cx)(e:fA)(t:TE):Prop:=
 ∀(a:UQ) (s:f6) (b:St) (H:Hp) (Q:VK),Inv X a b H s->t b H Q->wpAny (f7 X.prog X.w) X.A (fy e X.env) (EP X a b Q) X.xe s
noncomputable def PT(X:Cx)(e:fA)(t:TT):Prop:=
 ∀(a:UQ) (s:f6) (b:St) (H:Hp) (Q:Bool->Hp->Prop),Inv X a b H s->t b H Q->wpAny (f7 X.prog X.w) X.A (E4 e X.env<|eval e X.env) (TP X a b Q) X.xe s
noncomputable def PW(X:Cx)(e:fA)(t:TT):Prop:=
 ∀(z:Sem fh) (a:UQ) (s:f6) (b:St) (H:Hp) (Q:Bool->Hp->Prop),Inv X a b H s->t b H Q->wpAny (f7 X.prog X.w) X.A (E4 e X.env z) (TP X a b Q) X.xe s
theorem PW.pt(h:PW X e t):PT X e t:=h _
noncomputable def PA(X:Cx)(C:List fA)(t:TA):Prop:=
 ∀(pos:h8) (a:UQ) (s:f6) (b:St) (H:Hp) (Q:List V->Hp->Prop),Inv X a b H s->t b H Q->wpAny (f7 X.prog X.w) X.A (DW<|backTo pos<|starEach C X.env) (AP X a b Q) X.xe s
noncomputable def PS(X:Cx)(st:m7)(t:TS):Prop:=
 ∀(a:UQ) (s:f6) (b:St) (H:Hp) (D:Ends),Inv X a b H s->t D b H->wpAny (f7 X.prog X.w) X.A (exec st X.env) (SP X a D) X.xe s
noncomputable def u9(X:Cx)(st:List m7)(t:TS):Prop:=
 ∀(a:UQ) (s:f6) (b:St) (H:Hp) (D:Ends),Inv X a b H s->t D b H->wpAny (f7 X.prog X.w) X.A (execs st X.env) (SP X a D) X.xe s
theorem gu(h:wpAny M A t Q E s)(z : ∀a s,Q a s->Q' a s):wpAny M A t Q' E s:=Oy h z λ_ _ x=>x
section
variable{X:Cx}
def Au(i:Nat):TE:=λa H Q=>∃v,a[i]? = ej (ej v)/\Q v H
def tC(v:V):TE:=λ_ H Q=>Q v H
theorem BN(S:X.N[i]? = ej x)(Z:TM X.env.scope x)(C:(x==("__debug__" : Str))=eK:=by decide)(J:(x==("__classdict__" : Str))=eK:=by decide):PE X (.Name x pos) (Au i):=by
 intro a s g H Q I h;obtain⟨v,e,h⟩:=h;obtain⟨m,f,b⟩:=I.loc;obtain⟨u,r,l⟩:=b i x v S e Z;have O:EP X a g Q u s:=⟨v,H,I,r,h⟩;rcases l with⟨z,d⟩ | ⟨z,c,U,Y⟩
 ·exact N_ (wpAny_loadName_local I.ok.kind z f d O) C
 ·rcases z with z | z
  ·exact N_ (wpAny_loadName_cell I.ok.kind z U Y O) C
  ·exact N_ (wpAny_loadName_free I.ok.kind z U Y O J) C
theorem BW:PE X (.Constant (.int i) j pos) (tC<|.int i):=λ_ _ _ H _ I h=>wpAny_Constant_int ⟨.int i,H,I.tok _,⟨_,rfl⟩,h⟩
theorem Gr:PE X (.Constant (.bool b) j pos) (tC<|.bl b):=λ_ _ _ H _ I h=>Constant_bool ⟨.bl b,H,I,rfl,h⟩
theorem BU:PE X (.Constant .none j pos) (tC .gm):=λ_ _ _ H _ I h=>Constant_none ⟨.gm,H,I,rfl,h⟩
theorem BP:PE X (.Constant (.str x) j pos) (tC<|.str x):=λ_ _ _ H _ I h=>Calls.Constant_str ⟨.str x,H,I.tok _,⟨_,rfl⟩,h⟩
def Gl(X:Cx)(x:Str):Prop:=X.env.kindOf x=ej .globalImplicit
theorem WJ(I:Inv X pins σ H s)(z:Gl X x)(J:X.mg x=ej u)(h:Q u s)
 (C:(x==("__debug__" : Str))=eK:=by decide):wpAny (f7 X.prog X.w) X.A (fy (.Name x pos) X.env) Q E s:=
 Calls.Name_function_global I.ok.kind z (Calls.loadGlobal_global (by rw[I.ok.glob];exact I.mod.glob.keeps I.bk) J h) C
theorem kj(I:Inv X pins σ H s)(z:Gl X x)(J:X.mg x=eF)(O:Dd x=ej u)(h:Q u s)
 (S:x ≠ "__name__":=by decide) (C:(x==("__debug__" : Str))=eK:=by decide):wpAny (f7 X.prog X.w) X.A (fy (.Name x pos) X.env) Q E s:=by
 obtain⟨d,a,b⟩:=I.mod.blt;exact Calls.Name_function_global I.ok.kind z (Calls.loadGlobal_builtin (by rw[I.ok.glob];exact I.mod.glob.keeps I.bk) J (by rw[I.ok.blt];exact a.keeps I.bk) ((b x S).trans O) h) C
variable{a b:fA}{ta tb:TE}{pos:h8}
noncomputable def PC(X:Cx)(z:I0)(a b:fA)(t:TE):Prop:=
 ∀(d:UQ) (s:f6) (e:St) (H:Hp) (Q:VK),Inv X d e H s->t e H Q->
  wpAny (f7 X.prog X.w) X.A (fy a X.env) (λv I=>wpAny (f7 X.prog X.w) X.A (fy b X.env) (λu O=>wpAny (f7 X.prog X.w) X.A (oe z v u) (EP X d e Q) X.xe O) X.xe I) X.xe s
theorem nV(b:fA)(h:op ≠ .In)(C:op ≠ .NotIn):C0 op b=eK:=by
 have a:(op==CmpOp.In)=eK:=by cases op<;>first | rfl | exact absurd rfl h
 have z:(op==CmpOp.NotIn)=eK:=by cases op<;>first | rfl | exact absurd rfl C
 cases b<;>simp[C0,a,z]
def tB(t:TE):TT:=λb H Q=>t b H λx a=>∃c,x = .bl c/\Q c a
theorem BD(h:PC X op a b t)(C:C0 op b=eK:=by first | exact nV _ ⋯ ⋯ | rfl):PT X (.Compare a [op] [b] pos) (tB t):=by intro e s j H Q I i;refine _Z (gu (h e s j H _ I i) λv k C=>gu C λu l g=>gu g λc m z=>?_) C;obtain⟨x,f,O,U,Y⟩:=z;obtain⟨d,rfl,q⟩:=Y;cases U;exact NN ⟨f,O,q⟩
theorem BB(h:PE X e t)(O : ∀z,E4 e X.env z=(do let v <- z;DD e.pos;tf [v] (Ol v)):=by intro _;rfl):PT X e (tB t):=by intro a s j H Q I f;refine isTrue_plain (gu (h a s j H _ I f) λv k U=>?_)<|O _;obtain⟨x,b,Y,i,g⟩:=U;obtain⟨d,rfl,q⟩:=g;cases i;exact NN ⟨b,Y,q⟩
variable{tA R7:TT}{yp:List fA}
def Le(t u:TT):TT:=λb H Q=>t b H λc a=>if c=eA then u b a Q else Q eK a
def _R(t u:TT):TT:=λb H Q=>t b H λc a=>if c=eA then Q eA a else u b a Q
def IZ(t:TT):TT:=λb H Q=>t b H λc a=>Q (!c) a
theorem tq(C:PT X a tA):PW X (.BoolOp .And [a] pos) tA:=by
 intro z b s d H Q I h;refine isTrue_and<|gu (C b s d H Q I h) λc f e=>?_;cases c with
 | true=>exact isTrue_and_nil e
 | false=>exact e
theorem Br(C:PT X a tA):PW X (.BoolOp .Or [a] pos) tA:=by
 intro z b s d H Q I h;refine isTrue_or<|gu (C b s d H Q I h) λc f e=>?_;cases c with
 | false=>exact isTrue_or_nil e
 | true=>exact e
theorem Bs(C:PT X a tA)(U:PW X (.BoolOp .And (b::yp) pos) R7):PW X (.BoolOp .And (a::b::yp) pos) (Le tA R7):=by
 intro Y d s f H Q I h;refine isTrue_and<|gu (C d s f H _ I h) λc i g=>?_;obtain⟨e,z,O⟩:=g;cases c with
 | true=>exact U Y d i f e Q z O
 | false=>exact⟨e,z,O⟩
theorem Gi(C:PT X a tA)(U:PW X (.BoolOp .Or (b::yp) pos) R7):PW X (.BoolOp .Or (a::b::yp) pos) (_R tA R7):=by
 intro Y d s f H Q I h;refine isTrue_or<|gu (C d s f H _ I h) λc i g=>?_;obtain⟨e,z,O⟩:=g;cases c with
 | true=>exact⟨e,z,O⟩
 | false=>exact U Y d i f e Q z O
theorem BC(ha:PT X a tA):PT X (.UnaryOp .Not a pos) (IZ tA):=by intro b s e H Q I h;exact isTrue_not<|ha b s e H (λc d=>Q (!c) d) I h
noncomputable def FW(ta tb:TE):TE:=λb H Q=>ta b H λx a=>∃c,x = .bl c/\if c=eA then tb b a Q else Q (.bl eK) a
def FQ(ta:TE):TE:=λb H Q=>ta b H λx a=>∃c,x = .bl c/\Q (.bl<|!c) a
theorem BQ(h:PE X a t):PE X (.BoolOp op [a] pos) t:=λb s e H Q I d=>BoolOp_one<|h b s e H Q I d
theorem BY(C:PE X a ta)(U:PE X (.BoolOp .And (b::yp) pos) tb):PE X (.BoolOp .And (a::b::yp) pos) (FW ta tb):=by
 intro d s f H Q I h;refine BoolOp_and<|gu (C d s f H _ I h) λv i Y=>?_;obtain⟨x,e,O,g,z⟩:=Y;obtain⟨c,rfl,z⟩:=z;cases g;refine NN ?_;cases c with
 | true=>exact U d i f e Q O z
 | false=>exact⟨.bl eK,e,O,rfl,z⟩
theorem BS(C:PE X a ta):PE X (.UnaryOp .Not a pos) (FQ ta):=by intro b s e H Q I h;refine UnaryOp_<|gu (C b s e H _ I h) λv f O=>?_;obtain⟨x,d,U,Y,z⟩:=O;obtain⟨c,rfl,z⟩:=z;cases Y;exact not_of<|NN ⟨.bl<|!c,d,U,rfl,z⟩
noncomputable def UP(t:TT)(ta tb:TE):TE:=λa H Q=>t a H λc b=>if c=eA then ta a b Q else tb a b Q
theorem nG(U:PT X c tA)(C:PE X a ta)(Y:PE X b tb):PE X (.IfExp c a b pos) (UP tA ta tb):=by
 intro e s f H Q I h;refine wpAny_IfExp<|gu (U e s f H _ I h) λd i j=>?_;obtain⟨g,z,O⟩:=j;cases d with
 | true=>exact C e i f g Q z O
 | false=>exact Y e i f g Q z O
end
noncomputable def h9(K:Mf)(H:Hp)(a:fe)(xs:List V):Prop:=
 Rd H a (.lst xs)\/
  ∃(o:pa) (z:Array fh) (n:Nat),K.lookup a=ej o/\o.cls = .type "list"/\o.dict=eF/\o.data = .seq z n/\z.size<=hB/\gv xs z.toList
noncomputable def i5(K:Mf)(H:Hp)(a:fe)(xs:List V):Prop:=
 Rd H a (.tup xs)\/
  ∃(o:pa) (z:Array fh) (n:Nat),K.lookup a=ej o/\(o.cls,o.dict)=(Py "tuple",eF)/\o.data = .seq z n/\z.size<=hB/\gv xs z.toList
noncomputable def LK:fh->Option V
 | .none=>ej .gm
 | .bool b=>ej (.bl b)
 | .int i _=>ej (.int i)
 | .str x _=>ej (.str x)
 | .bytes b _=>ej (.L7 b)
 | .float b _=>ej (.Gx b)
 | .ref a=>ej (.ref a)
 | .type n=>ej (.ty n)
 | _=>eF
theorem RelV.abs(r:RelV x u):LK u=ej x:=by
 cases x with
 | gm=>cases r;rfl
 | bl _=>cases r;rfl
 | int _=>obtain⟨t,rfl⟩:=r;rfl
 | str _=>obtain⟨t,rfl⟩:=r;rfl
 | L7 _=>obtain⟨t,rfl⟩:=r;rfl
 | Gx _=>obtain⟨t,rfl⟩:=r;rfl
 | ref _=>cases r;rfl
 | ty _=>cases r;rfl
theorem RelV.inj(r:RelV x u)(q:RelV y u):x=y:=Ng<|r.abs.symm.trans q.abs
theorem gv.inj : ∀{xs ys:List V} {us:List fh},gv xs us->gv ys us->xs=ys
 | _,_,_,.nil,.nil=>rfl
 | _,_,_,.cons r t,.cons r' t'=>by rw[r.inj r',gv.inj t t']
section
variable{X:Cx}{pins:UQ}{σ:St}{H:Hp}{s:f6}{a:fe}{xs ys:List V}
theorem h9.of{K:Mf}(h:H a=ej (.lst xs)):h9 K H a xs:= .inl (.inl h)
theorem i5.of{K:Mf}(h:H a=ej (.tup xs)):i5 K H a xs:= .inl (.inl h)
theorem Inv.list(I:Inv X pins σ H s)(h:h9 X.K H a xs) : ∃O:List fh,gv xs O/\PlainL s.heap a O.toArray/\xs.length<=hB:=by
 rcases h with h | ⟨o,O,n,U,Y,hd,hs,hz,r⟩
 ·obtain⟨z,O,n,r,e⟩:=h.ok I.g5
  exact⟨O,r,⟨_,n,e,rfl,rfl,rfl⟩,z⟩
 ·refine⟨O.toList,r,⟨o,n,I.m6 a o U,Y,hd,by simpa using hs⟩,?_⟩
  have e:=r.length;simp only[NV]at e;omega
theorem Inv.tuple(I:Inv X pins σ H s)(h:i5 X.K H a xs) : ∃O:List fh,gv xs O/\L1 s.heap a O.toArray/\xs.length<=hB:=by
 rcases h with h | ⟨o,O,n,U,Y,hs,hz,r⟩
 ·obtain⟨z,O,r,p⟩:=h.ok I.g5
  exact⟨O,r,p.tup,z⟩
 ·refine⟨O.toList,r,⟨o,I.m6 a o U,(Prod.mk.inj Y).1,n,by simpa using hs⟩,?_⟩
  have e:=r.length;simp only[NV]at e;omega
theorem Inv.Ur(I:Inv X pins σ H s)(h:h9 X.K H a xs)(h':h9 X.K H a ys):xs=ys:=by
 obtain⟨O,r,⟨o,n,e,_,_,d⟩,_⟩:=I.list h;obtain⟨b,g,⟨j,i,z,_,_,f⟩,_⟩:=I.list h';rw[e]at z;cases z;rw[d]at f;injection f with U _;have:O=b:=by simpa using congrArg Array.toList U
 subst this;exact r.inj g
theorem Inv.L'(I:Inv X pins σ H s)(h:i5 X.K H a xs)(h':i5 X.K H a ys):xs=ys:=by
 obtain⟨O,r,⟨o,e,_,n,d⟩,_⟩:=I.tuple h;obtain⟨b,g,⟨j,z,_,i,f⟩,_⟩:=I.tuple h';rw[e]at z;cases z;rw[d]at f;injection f with U _;have:O=b:=by simpa using congrArg Array.toList U
 subst this;exact r.inj g
end
abbrev Cx.Dm(X:Cx)(E:EQ):Cx:={X with xe:=E}
abbrev Cx.M6(X:Cx):Cx:=X.Dm λ_ _=>False
theorem Cx.Ok.Dm{X:Cx}(ok:X.Ok)(E:EQ):(X.Dm E).Ok:=
 ⟨ok.mod,ok.kind,ok.glob,ok.blt,ok.above,ok.inj,ok.has,ok.L8,ok.hd,ok.frames,ok.R6,ok.P1,ok.bs,ok.De,ok.M5,ok.M0,ok.A9,ok.DQ⟩
theorem Cx.Ok.DZ{X:Cx}{E:EQ}(ok:(X.Dm E).Ok):X.Ok:=
 ⟨ok.mod,ok.kind,ok.glob,ok.blt,ok.above,ok.inj,ok.has,ok.L8,ok.hd,ok.frames,ok.R6,ok.P1,ok.bs,ok.De,ok.M5,ok.M0,ok.A9,ok.DQ⟩
section
variable{X:Cx}{pins:UQ}{σ:St}{H:Hp}{s:f6}{E:EQ}
theorem Inv.Dm(I:Inv X pins σ H s)(E:EQ):Inv (X.Dm E) pins σ H s:=⟨I.ok.Dm E,I.os,I.bare,I.base,I.loc,I.cell,I.free,I.C2,I.pin,I.g5,I.len⟩
theorem Inv.DZ(I:Inv (X.Dm E) pins σ H s):Inv X pins σ H s:=⟨I.ok.DZ,I.os,I.bare,I.base,I.loc,I.cell,I.free,I.C2,I.pin,I.g5,I.len⟩
theorem SP.DZ(h:SP (X.Dm E) pins D f s'):SP X pins D f s':=by
 cases f with
 | next=>obtain⟨a,b,I,q⟩:=h;exact⟨a,b,I.DZ,q⟩
 | brk=>obtain⟨a,b,I,q⟩:=h;exact⟨a,b,I.DZ,q⟩
 | cont=>obtain⟨a,b,I,q⟩:=h;exact⟨a,b,I.DZ,q⟩
 | ret u=>obtain⟨v,a,b,I,r,q⟩:=h;exact⟨v,a,b,I.DZ,r,q⟩
theorem u9.M6{st:List m7}{t:TS}(h:u9 X.M6 st t):u9 X st t:=λpins s σ H D I a=>
 Oy (h pins s σ H D (I.Dm _) a) (λ_ _ q=>q.DZ) λ_ _ z=>OK z
end
section
variable{X:Cx}{st:m7}{yp:List m7}{t u:TS}{e:fA}{te:TE}{pos:h8}
def FS:TS:=λD a H=>D.nx a H
def IX(t u:TS):TS:=λD a H=>t {D with nx:=u D} a H
theorem tI:u9 X [] FS:=λ_ _ a H _ I h=>O' ⟨a,H,I,h⟩
theorem mZ(C:PS X st t)(J:u9 X yp u):u9 X (st::yp) (IX t u):=by
 intro a s g H D I h;refine wpAny_execs_cons<|gu (C a s g H {D with nx:=u D} I h) λf e q=>?_;cases f with
 | next=>
  obtain⟨b,d,z,q⟩:=q;exact J a e b d D z q
 | ret v=>exact q
 | brk=>exact q
 | cont=>exact q
theorem gc(C:PS X st t):u9 X [st] t:=by
 intro a s b H D I h;refine wpAny_execs_cons<|gu (C a s b H D I h) λf d q=>?_;cases f with
 | next=>exact O' q
 | ret v=>exact q
 | brk=>exact q
 | cont=>exact q
def FV:TS:=λD a H=>D.ct a H
theorem Wl:PS X (.Continue pos) FV:=λ_ _ a H _ I h=>wpAny_Continue ⟨a,H,I,h⟩
theorem Inv.quiet(I:Inv X pins σ H s):interactive X.env=eK:=by simp[interactive,I.ok.kind]
def FT(te:TE):TS:=λD a H=>te a H λ_ b=>D.nx a b
theorem gh(z:PE X e te)(O:DE e eF pos.line X.env=pure eK:=by rfl):PS X (.Expr e pos) (FT te):=by intro a s b H D I h;exact wpAny_Expr_any (gu (z a s b H _ I h) λv g ⟨x,d,U,f,Y⟩=>⟨b,d,U,Y⟩) I.quiet O
def IY(te:TE):TS:=λD a H=>te a H D.rt
theorem gd(z:PE X e te):PS X (.Return (ej e) pos) (IY te):=by intro a s b H D I h;exact wpAny_Return_some<|gu (z a s b H _ I h) λv f ⟨x,d,O,U,Y⟩=>⟨x,b,d,O,U,Y⟩
def Lb(c:TT)(t u:TS):TS:=λD a H=>c a H λb d=>if b=eA then t D a d else u D a d
theorem Gn(U:PT X c tc)(C:u9 X a t)(Y:u9 X b u):PS X (.If c a b pos) (Lb tc t u):=by
 intro e s f H D I h;refine wpAny_If<|gu (U e s f H _ I h) λd i j=>?_;obtain⟨g,z,O⟩:=j;cases d with
 | true=>exact C e i f g D z O
 | false=>exact Y e i f g D z O
def AS:TS:=λ_ _ _=>False
theorem nu:PS X st AS:=λ_ _ _ _ _ _ h=>h.elim
end
abbrev TG:=V->St->Hp->(St->Hp->Prop)->Prop
abbrev F2:=List V->St->Hp->(St->Hp->Prop)->Prop
noncomputable def PG(X:Cx)(z:fA)(t:TG):Prop:=
 ∀(a:UQ) (s:f6) (e:St) (H:Hp) (v:V) (u:fh) (Q:St->Hp->Prop),Inv X a e H s->RelV v u->t v e H Q->
  wpAny (f7 X.prog X.w) X.A (u4 z X.env u) (λ_ f=>∃b d,Inv X a b d f/\Q b d) X.xe s
noncomputable def L5(X:Cx)(ts:List fA)(t:F2):Prop:=
 ∀(a:UQ) (s:f6) (g:St) (H:Hp) (f:List V) (e:List fh) (Q:St->Hp->Prop),Inv X a g H s->gv f e->t f g H Q->
  wpAny (f7 X.prog X.w) X.A (assignInOrder ((B6 ts X.env).map (·.2)) e) (λ_ h=>∃b d,Inv X a b d h/\Q b d) X.xe s
abbrev IQ:=V->V->V->Hp->(Hp->Prop)->Prop
noncomputable def IR(X:Cx)(t:IQ):Prop:=
 ∀(a:UQ) (s:f6) (d:St) (H:Hp) (o i v:V) (z I u:fh) (Q:Hp->Prop),Inv X a d H s->RelV o z->RelV i I->RelV v u->t o i v H Q->
  wpAny (f7 X.prog X.w) X.A (N4 z I u) (λ_ e=>∃b,Inv X a d b e/\Q b) X.xe s
section
variable{X:Cx}{pos:h8}
def vx(i:Nat):TG:=λv a H Q=>Q (a.set i<|some v) H
theorem gC(z:X.N.Nodup)(C:X.N[i]? = ej x)(hx:Loc X.env.scope x)(O:X.fn x=eA\/X.env.scope.names.lookup x=ej .local:=by first | exact .inl rfl | exact .inr rfl | assumption):PG X (.Name x pos) (vx i):=by intro a s d H v u Q I r h;exact _X<|aA I z C hx r (λb U=>⟨_,H,U,h⟩) O
def Iv:F2:=λa b H Q=>a=[]/\Q b H
def CN(t:TG)(u:F2):F2:=λd e H Q=>∃v r,d=v::r/\t v e H λa b=>u r a b Q
theorem gA:L5 X [] Iv:=by intro a s b H f d Q I r h;obtain⟨e,h⟩:=h;subst e;cases r;exact assignInOrder_nil ⟨b,H,I,h⟩
theorem wZ(C:PG X e t)(J:L5 X es u)
 (z:(B6 (e::es) X.env).map (·.2)=u4 e X.env::(B6 es X.env).map (·.2):=by rfl):L5 X (e::es) (CN t u):=by
 intro a s j H m k Q I r h;obtain⟨v,l,f,h⟩:=h;subst f;cases r with
 | cons r O=>
  rw[z];refine assignInOrder_cons<|gu (C a s j H _ _ _ I r h) λ_ i U=>?_;obtain⟨Y,b,d,g⟩:=U;exact J a i Y b _ _ Q d O g
noncomputable def Iu(K:Mf)(n:Nat)(t:F2):TG:=λv d H Q=>∃a b,v = .ref a/\i5 K H a b/\b.length=n/\t b d H Q
theorem BM(O:X.calm=eA)(h:L5 X es t)
 (C:(B6 es X.env).length=n:=by rfl) (U:(B6 es X.env).findIdx? (·.1)=eF:=by rfl):PG X (.Tuple es k pos) (Iu X.K n t):=by
 intro d s g H v u Q I r f;obtain⟨a,x,j,Y,m,f⟩:=f;subst j;cases r;obtain⟨y,z,p,A⟩:=I.tuple Y;refine assign_Tuple_tuple (I.ok.hd O) p (by simp[C,<- m,z.length]) U λl w=>?_;have i:Inv X d g H {s with heap:=l}:=I.kept (t':=s.toks) λb o e=>w b o (MP<|MB e) e;exact h d _ g H x _ Q i (by simpa using z) f
noncomputable def LD(to z:TE)(t:IQ):TG:=λv a H Q=>to a H λo b=>z a b λi d=>t o i v d λI=>Q a I
theorem aS(Y:PE X o to)(J:PE X i ti)(S:IR X t)
 (C : ∀v,u4 (.Subscript o i pos) X.env v=(do
   let z <- tf [v] (fy o X.env);let O <- tf [v,z] (fy i X.env)
   DD pos
   tf [v,z,O] (N4 z O v)
   R4 [v,z,O] []):=by intro _;rfl):PG X (.Subscript o i pos) (LD to ti t):=by
 intro a s b H v u Q I r h;rw[C];refine Md<|Ox<|gu (Y a s b H _ I h) λz A U=>?_;obtain⟨x,d,g,p,l⟩:=U;refine Md<|Ox<|gu (J a A b d _ g l) λO B U=>?_;obtain⟨y,e,j,w,m⟩:=U;refine Md<|Tj<|Md<|Ox<|gu (S a B b e x y v z O u _ j p w r m) λ_ E U=>?_;obtain⟨f,k,n⟩:=U;exact wpAny_release ⟨b,f,k,n⟩
def cD(te:TE)(g:TG):TS:=λD a H=>te a H λx b=>g x a b D.nx
theorem Kh(z:PE X e te)(O:PG X tg g)(U:H8 [tg] e pos.line X.env=pure eK:=by rfl)(J:N6 [tg] e X.env=pure eF:=by rfl)
 (C:(B6 [tg] X.env).map (·.2)=[u4 tg X.env]:=by rfl):PS X (.Assign [tg] e pos) (cD te g):=by
 intro a s b H D I h;refine wpAny_Assign_stores (gu (z a s b H _ I h) λv k Y=>?_) U J;obtain⟨x,d,f,j,i⟩:=Y;rw[C];exact gu (O a k b d x v _ f j i) λ_ l q=>q
theorem BE(z:X.N.Nodup)(C:X.N[i]? = ej x)(hx:Loc X.env.scope x)(O:PE X e te)(U:DE e (ej (.Name x pos')) pos.line X.env=pure eK:=by rfl)(Y:X.fn x=eA\/X.env.scope.names.lookup x=ej .local:=by first | exact .inl rfl | exact .inr rfl | assumption) :
 PS X (.Assign [.Name x pos'] e pos) (cD te<|vx i):=by
 intro a s l H D I h;refine wpAny_Assign_Name (gu (O a s l H _ I h) λv m g=>?_) U;obtain⟨y,b,d,k,j⟩:=g;exact aA d z C hx k (λn f=>⟨_,b,f,j⟩) Y
end
structure It where
 go:Nat->Hp->Prop
 C6:Nat->Hp->V->Hp->Prop
 stop:Nat->Hp->Prop
noncomputable def Jm(X:Cx)(C:UQ)(H:Hp)(b:fe):Prop:=
 H b=eF/\b≠X.env.locals/\b∉X.fs/\(b∈X.ex\/X.rb.heap.objs.size<=b)/\(∀x c,X.env.cells.lookup x=ej c->c≠b)/\∀p∈X.pn++C,p.1≠b
theorem Inv.C1(I:Inv X pins σ H s)(O:s.heap.objs.size<=b)(C:H' b=eF):Jm X pins H' b:=by
 refine⟨C,Ob<|MI I.lt O,I._F O,.inr<|NQ I.sz O,λx c e z=>?_,λp U z=>?_⟩
 ·obtain⟨v,q⟩:=I.cell x c e
  exact absurd (MI q.lt<|by rw[z];exact O)<|Nw _
 ·exact absurd (MI (MB (I.pin p U).1)<|by rw[z];exact O)<|Nw _
structure Turn(P:l6)(w:i8)(K:Mf)(tg:fA)(J:It)(fp:List fe)(it:fe)(tn:Nat->gB->Prop):Prop where
 mem:it∈fp
 obj : ∀i h,tn i h->∀b∈fp,∃o,h.get? b=ej o/\∀v,o.data ≠ .cell v
 keep : ∀i h h',tn i h->(∀b∈fp,∀o,h.get? b=ej o->h'.get? b=ej o)->tn i h'
 item : ∀(X:Cx),X.prog=P->X.w=w->X.K=K->X.calm=eA->∀(i:Nat) (pins:UQ) (s:f6) (σ:St) (H:Hp) (E:EQ),Inv X pins σ H s->(∀b∈fp,Jm X pins H b)->tn i s.heap->J.go i H->
  wpAny (f7 P w) X.A (DV<|.ref it) (λr s1=>∃u,r=ej u/\
   wpAny (f7 P w) X.A (M3 tg (.ref it) u) (λ_ s2=>∃x H',Inv X pins σ H' s2/\RelV x u/\J.C6 i H x H'/\tn (i+1) s2.heap/\∀b∈fp,H' b=eF) E s1) E s
 done : ∀(X:Cx),X.prog=P->X.w=w->X.K=K->X.calm=eA->∀(i:Nat) (pins:UQ) (s:f6) (σ:St) (H:Hp) (E:EQ),Inv X pins σ H s->(∀b∈fp,Jm X pins H b)->tn i s.heap->J.stop i H->
  wpAny (f7 P w) X.A (DV<|.ref it) (λr s1=>r=eF/\Inv X pins σ H s1) E s
 self : ∀(A:o6) (i:Nat) (s:f6) (Q:EQ) (E:EQ),tn i s.heap->Q (.ref it) s->wpAny (f7 P w) A (R3<|.ref it) Q E s
abbrev TI:=St->Hp->(It->Hp->Prop)->Prop
noncomputable def U7(X:Cx)(C:UQ)(S:St)(O:fA)(R:It->Hp->Prop)(z:fh)(I:f6):Prop:=
 ∃(e:fe) (d:List fe) (f:Nat->gB->Prop) (J:It) (a:Hp),z = .ref e/\Inv X C S a I/\Turn X.prog X.w X.K O J d e f/\f 0 I.heap/\(∀b∈d,Jm X C a b)/\R J a
noncomputable def PI(X:Cx)(I C:fA)(J:TI):Prop:=
 ∀(a:UQ) (s:f6) (b:St) (H:Hp) (R:It->Hp->Prop),Inv X a b H s->J b H R->
  wpAny (f7 X.prog X.w) X.A (fy C X.env) (λv d=>wpAny (f7 X.prog X.w) X.A (R3 v) (U7 X a b I R) X.xe d) X.xe s
theorem oM(I:s.heap.get? it=ej o)(O:o.cls = .type n)(C:o.data = .fields vs)
 (J:["enumerate","zip","dict_itemiterator","dict_reverseitemiterator","odict_iterator","itertools.zip_longest","itertools.pairwise"].contains n=eK) (z:Q () s):wpAny M A (M3 tg (.ref it) u) Q E s:=by
 unfold M3;cases tg<;>first
  | exact Mq z
  | (cases u<;>first
      | exact Mq z
      | (refine Md (wpAny_load I ?_)
         rw[O,C];show wpAny M A (if (["enumerate","zip","dict_itemiterator","dict_reverseitemiterator","odict_iterator","itertools.zip_longest","itertools.pairwise"].contains n && vs[0]? == ej (Dh _))=eA then _ else _) Q E s;rw[UY (by intro h;rw[J,OG]at h;cases h)];exact Mq z))
noncomputable def U4(K:Mf)(a:fe):It:=
 ⟨λi H=>∃b x,h9 K H a b/\b[i]? = ej x,λi H x d=>d=H/\∀b,h9 K H a b->b[i]? = ej x,λi H=>∃b,h9 K H a b/\b.length<=i⟩
noncomputable def U5(K:Mf)(a:fe):It:=
 ⟨λi H=>∃b x,i5 K H a b/\b[i]? = ej x,λi H x d=>d=H/\∀b,i5 K H a b->b[i]? = ej x,λi H=>∃b,i5 K H a b/\b.length<=i⟩
def DK(lo:Int)(n:Nat):It:=⟨λi _=>i<n,λi H x a=>a=H/\x = .int (lo+i),λi _=>n<=i⟩
theorem eO{P:l6}{w:i8}{K:Mf}{tg:fA}(a it:fe):Turn P w K tg (U4 K a) [it] it (λi h=>h.IsListIter it a i) where
 mem:=by simp
 obj:=λi h st b O=>by
  have e:b=it:=by simpa using O
  subst e;obtain⟨o,e,c,d⟩:=st;exact⟨o,e,λv z=>by rw[d]at z;cases z⟩
 keep:=λi h h' st k=>st.at λo e=>k it ⋯ o e
 item:=by intro X hP hw hK hc i pins s σ H E I U st hg;subst hP hw hK;obtain⟨xs,x,Y,hx⟩:=hg;obtain⟨am,rv,p,hz⟩:=I.list Y;obtain⟨u,hu,ru⟩:=rv.get hx;obtain⟨f0,f1,f2,f3,f4,f5⟩:=U it ⋯;refine wpAny_pyNext_list_item st p.isList (x:=u) (by simpa using hu) λh' ac sb=>?_;have I1:Inv X pins σ H {s with heap:=h'}:=I.turned (t':=s.toks) (λb o O e=>(sb.2 b O).trans e) f0 f1 f3 f4 f5;obtain⟨o,e,c,d⟩:=id ac;exact⟨u,rfl,oM (s:={s with heap:=h'}) e c d ⋯ ⟨x,H,I1,ru,⟨rfl,λys hy=>by rw[I.Ur hy Y];exact hx⟩,ac,λb O=>(U b O).1⟩⟩
 done:=by intro X hP hw hK hc i pins s σ H E I U st hg;subst hP hw hK;obtain⟨xs,Y,hx⟩:=hg;obtain⟨am,rv,p,hz⟩:=I.list Y;obtain⟨f0,f1,f2,f3,f4,f5⟩:=U it ⋯;have hl:=rv.length;exact wpAny_pyNext_list_end (I.ok.hd hc) st p.isList (by simp;omega) λh' eb=>⟨rfl,I.turned (t':=s.toks) (λb o O e=>eb b o O e) f0 f1 f3 f4 f5⟩
 self:=λ_ _ _ _ _ st h=>wpAny_pyIter_listiter st h
theorem cg{P:l6}{w:i8}{K:Mf}{tg:fA}(a it:fe):Turn P w K tg (U5 K a) [it] it (λi h=>h.IsTupleIter it a i) where
 mem:=by simp
 obj:=λi h st b O=>by
  have e:b=it:=by simpa using O
  subst e;obtain⟨o,e,c,d⟩:=st;exact⟨o,e,λv z=>by rw[d]at z;cases z⟩
 keep:=λi h h' st k=>st.at λo e=>k it ⋯ o e
 item:=by intro X hP hw hK hc i pins s σ H E I U st hg;subst hP hw hK;obtain⟨xs,x,Y,hx⟩:=hg;obtain⟨a3,rv,p,hz⟩:=I.tuple Y;obtain⟨u,hu,ru⟩:=rv.get hx;obtain⟨f0,f1,f2,f3,f4,f5⟩:=U it ⋯;refine wpAny_pyNext_tuple_item st (show s.heap.IsTuple a a3.toArray from p) (x:=u) (by simpa using hu) λh' am sb=>?_;have I1:Inv X pins σ H {s with heap:=h'}:=I.turned (t':=s.toks) (λb o O e=>(sb.2 b O).trans e) f0 f1 f3 f4 f5;obtain⟨o,e,c,d⟩:=id am;exact⟨u,rfl,oM (s:={s with heap:=h'}) e c d ⋯ ⟨x,H,I1,ru,⟨rfl,λys hy=>by rw[I.L' hy Y];exact hx⟩,am,λb O=>(U b O).1⟩⟩
 done:=by intro X hP hw hK hc i pins s σ H E I U st hg;subst hP hw hK;obtain⟨xs,Y,hx⟩:=hg;obtain⟨a3,rv,p,hz⟩:=I.tuple Y;obtain⟨f0,f1,f2,f3,f4,f5⟩:=U it ⋯;have hl:=rv.length;exact wpAny_pyNext_tuple_end (I.ok.hd hc) st (show s.heap.IsTuple a a3.toArray from p) (by simp;omega) λh' eb=>⟨rfl,I.turned (t':=s.toks) (λb o O e=>eb b o O e) f0 f1 f3 f4 f5⟩
 self:=λ_ _ _ _ _ st h=>wpAny_pyIter_tupleiter st h
theorem ck{P:l6}{w:i8}{K:Mf}{tg:fA}(it:fe)(lo:Int)(n:Nat):Turn P w K tg (DK lo n) [it] it (λi h=>IsRangeIter h it (lo+(i:Nat)*1) ((n:Int) - (i:Nat)) 1) where
 mem:=by simp
 obj:=λi h st b O=>by
  have e:b=it:=by simpa using O
  subst e;exact⟨_,st,λv z=>by have z':Data.fields _=Data.cell v:=z;cases z'⟩
 keep:=λi h h' st k=>k it ⋯ _ st
 item:=by intro X Y hw hK hc i pins s σ H E I U st hg;subst Y hw hK;obtain⟨f0,f1,f2,f3,f4,f5⟩:=U it ⋯;have W:=Walks.range (prog:=X.prog) (w:=X.w) (I.ok.hd hc) it lo 1 n;refine W.item i s _ _ hg st λv h' tk hv a9 kk=>?_;obtain⟨t,rfl⟩:=hv;have I1:Inv X pins σ H {s with heap:=h',toks:=tk}:=I.turned (λb o O e=>kk b o (by simpa using O) e) f0 f1 f3 f4 f5;refine⟨_,rfl,oM (s:={s with heap:=h',toks:=tk}) (n:="range_iterator") a9 rfl rfl ⋯ ⟨.int (lo+i),H,I1,⟨t,?_⟩,⟨rfl,rfl⟩,a9,λb O=>(U b O).1⟩⟩;rw[Ri]
 done:=by intro X Y hw hK hc i pins s σ H E I U st hg;subst Y hw hK;obtain⟨f0,f1,f2,f3,f4,f5⟩:=U it ⋯;exact wpAny_pyNext_range_end (I.ok.hd hc) st (by have:n<=i:=hg;omega) λh' eb=>⟨rfl,I.turned (t':=s.toks) (λb o O e=>eb b o O e) f0 f1 f3 f4 f5⟩
 self:=λ_ _ _ _ _ st h=>wpAny_pyIter_rangeiter st h
section
variable{X:Cx}{tg:fA}
theorem aM{J:UQ}{S:St}{H:Hp}{s:f6}{R:It->Hp->Prop}{E:EQ}{lo C:Int}{t u v:tw}{z:Nat}(I:Inv X J S H s)(Z : -(2 ^ 62)<=lo)(h2:lo<2 ^ 62)(U : -(2 ^ 62)<=C)(Y:C<2 ^ 62)
 (q:R (DK lo (C - lo).toNat) H):wpAny (f7 X.prog X.w) X.A (R3 (.ref s.heap.objs.size)) (U7 X J S tg R) E {s with heap:=s.heap.push {cls:= .type "range",data:= .fields #[.int lo t,.int C u,.int 1 v]},toks:=z}:=by
 refine wpAny_pyIter_range (IsRange.new ..) (small_one Z h2 U Y) ?_;have O:Inv X J S H {s with heap:=s.heap.push {cls:= .type "range",data:= .fields #[.int lo t,.int C u,.int 1 v]},toks:=z}:=I.kept λb o e=>Mh _ e;refine⟨(s.heap.push {cls:= .type "range",data:= .fields #[.int lo t,.int C u,.int 1 v]}).objs.size,[(s.heap.push {cls:= .type "range",data:= .fields #[.int lo t,.int C u,.int 1 v]}).objs.size],_,_,H,rfl,
  O.kept (t':=z) λb o e=>Mh _ e,ck _ lo (C - lo).toNat,?_,λb f=>?_,q⟩
 ·have a:lo+((0:Nat):Int)*1=lo:=by simp
  have d:(((C - lo).toNat:Nat):Int) - ((0:Nat):Int)=Builtin.Range.rangeSize lo C 1:=by rw[rangeSize_one];split<;>omega
  show IsRangeIter _ _ (lo+((0:Nat):Int)*1) ((((C - lo).toNat:Nat):Int) - ((0:Nat):Int)) 1;rw[a,d];exact Mz _ rfl
 ·have e:b=(s.heap.push {cls:= .type "range",data:= .fields #[.int lo t,.int C u,.int 1 v]}).objs.size:=by simpa using f
  subst e;exact O.C1 (Mp _)<|O.g5.fresh<|Mp _
noncomputable def GQ(C:TA):TI:=λd H R=>C d H λb a=>∃j:Int,b=[.int j]/\ -(2 ^ 62)<=j/\j<2 ^ 62/\R (DK 0 j.toNat) a
noncomputable def GP(C:TA):TI:=λd H R=>C d H λb a=>∃i j:Int,b=[.int i,.int j]/\(-(2 ^ 62)<=i/\i<2 ^ 62/\ -(2 ^ 62)<=j/\j<2 ^ 62)/\R (DK i (j - i).toNat) a
theorem gz{a:fA}{C:TA}{p pos:h8}(O:Gl X "range")(S:X.mg "range" = eF)(J:PA X [a] C)(U:g8 [a] X.env=[(eK,fy a X.env)]:=by rfl):PI X tg (.Call (.Name "range" p) [a] [] pos) (GQ C):=by
 intro b s k H R I h;refine D4<|kj I O S boot_range<|Nr (gu (J pos b s k H _ I h) λn m Y=>?_) U rfl;obtain⟨o,l,d,g,z⟩:=Y;obtain⟨j,e,z,f,q⟩:=z;subst e;cases g with
 | cons r i=>
  cases i;obtain⟨t,rfl⟩:=r;exact call_range_1 (aM d ⋯ ⋯ z f<|by simpa using q)
theorem gy(Y:Gl X "range")(J:X.mg "range" = eF)(C:PA X [a,b] ta)(S:g8 [a,b] X.env=[(eK,fy a X.env),(eK,fy b X.env)]:=by rfl)(U:g8 [b] X.env=[(eK,fy b X.env)]:=by rfl) :
 PI X tg (.Call (.Name "range" p) [a,b] [] pos) (GP ta):=by
 intro d s u H R I h;refine D4 (kj I Y J boot_range<|Nr (gu (C pos d s u H _ I h) λA x g=>?_) (by rw[S,U])<|by rw[U];rfl);obtain⟨B,w,f,o,z⟩:=g;obtain⟨i,j,e,⟨z,k,l,m⟩,q⟩:=z;subst e;cases o with
 | cons r O=>
  cases O with
  | cons n O=>
   cases O;obtain⟨t,rfl⟩:=r;obtain⟨y,rfl⟩:=n;exact call_range_2<|aM f z k l m q
noncomputable def Lc(I:TI)(g:TG)(C:TS):TS:=λD a H=>I a H λJ f=>∃W:Nat->Nat->St->Hp->Prop,(∃m,W 0 m a f)/\∀i m a H,W i m a H->
 (J.stop i H/\D.nx a H)\/(J.go i H/\∃N:St->Hp->Prop,(∀d b,N d b->∃e,e<m/\W (i+1) e d b)/\∀x b,J.C6 i H x b->g x a b λz h=>C {D with nx:=N,ct:=N,bk:=D.nx} z h)
noncomputable def Y9(fp:List fe)(h:gB):List (fe×pa):=fp.filterMap λb=>(h.get? b).map λo=>(b,o)
theorem vU(z:b∈fp)(e:h.get? b=ej o):(b,o)∈Y9 fp h:=List.mem_filterMap.mpr ⟨b,z,by rw[e];rfl⟩
theorem gS(z:p∈Y9 fp h):p.1∈fp/\h.get? p.1=ej p.2:=by
 obtain⟨b,I,e⟩:=List.mem_filterMap.mp z;cases q:h.get? b with
 | none=>rw[q]at e;cases e
 | some o=>
  rw[q]at e;have O:(b,o)=p:=Ng e;subst O;exact⟨I,q⟩
theorem Inv.pinned(I:Inv X pins σ H s)(Y : ∀b∈fp,Jm X pins H b)(C : ∀b∈fp,∃o,s.heap.get? b=ej o/\∀v,o.data ≠ .cell v):Inv X (pins++Y9 fp s.heap) σ H s:=
 I.P9 λp f=>(PL.mp f).elim (λz=>I.pin p<|MJ _ z) λz=>by obtain⟨O,e⟩:=gS z;obtain⟨a,f1,f2,_⟩:=Y p.1 O;obtain⟨o,U,d⟩:=C p.1 O;rw[e]at U;cases U;exact⟨e,a,f1,f2,d⟩
theorem Inv.O1(I:Inv X (pins++pl) σ H s):Inv X pins σ H s:=I.P9 λp z=>I.pin p<|MJ _<|U8 _ z
theorem rf(C:TJ (f7 X.prog X.w) X.A X.env X.xe)(hc:X.calm=eA)(hi:PI X tg iter wi)(hg:PG X tg g)(z:u9 X body tb)
 (hs : ∀x,t4 iter X.env x=pure x:=by intro _;rfl):PS X (.For tg iter body [] pos) (Lc wi g tb):=by
 intro a s σ H D I h;refine wpAny_For (gu (hi a s σ H _ I h) λv s1 h1=>gu h1 λc7 s2 h2=>?_) hs;obtain⟨it,y,tn,J,H2,e,I2,T,b7,f2,W,⟨m0,w0⟩,G⟩:=h2;subst e;have L : ∀{l:Hp},(∀b∈y,l b=eF)->∀b∈y,Jm X a l b:=λhn b z=>⟨hn b z,(f2 b z).2⟩;refine codeAny_forLoop_any (λn s'=>∃i j l,Inv X a j l s'/\tn i s'.heap/\(∀b∈y,l b=eF)/\W i n j l) ?_ m0 ⟨0,σ,H2,I2,b7,λb z=>(f2 b z).1,w0⟩;rintro n s3 ⟨i,k,K,Z,E,ar,w3⟩;rcases G i n k K w3 with⟨F,qn⟩ | ⟨go,N,hN,step⟩
 ·refine RP C (gu (T.done X rfl rfl rfl hc i a s3 k K X.xe Z (L ar) E F) λr s4 t=>?_)
  obtain⟨P,I4⟩:=t;subst P;exact O' ⟨k,K,I4,qn⟩
 ·refine RP C (gu (T.item X rfl rfl rfl hc i a s3 k K X.xe Z (L ar) E go) λr s4 t=>?_)
  obtain⟨u,P,h4⟩:=t;subst P;refine RP C<|gu h4 λ_ s5 t=>?_;obtain⟨x,S,I5,r5,y5,M,bv⟩:=t;have bx:=I5.pinned (L bv)<|T.obj _ _ M;refine RP C<|gu (hg _ s5 k S x u _ bx r5<|step x S y5) λ_ s6 t=>?_;obtain⟨R,H6,I6,q6⟩:=t;refine RP C<|gu (z _ s6 R H6 _ I6 q6) λf Q p=>?_;have again : ∀{O:St} {U:Hp},Inv X (a++Y9 y s5.heap) O U Q->N O U->∃m,m<n/\∃i j l,Inv X a j l Q/\tn i Q.heap/\(∀b∈y,l b=eF)/\W i m j l:=λ{O U} Y B=>by obtain⟨m',hm,w7⟩:=hN O U B;refine⟨m',hm,i+1,O,U,Y.O1,T.keep _ _ _ M λb z o e=>(Y.pin (b,o)<|MJ _<|MJ _<|vU z e).1,λb z=>?_,w7⟩;obtain⟨o,e,d⟩:=T.obj _ _ M b z;exact(Y.pin (b,o)<|MJ _<|MJ _<|vU z e).2.1
  cases f with
  | next=>obtain⟨O,U,Y,B⟩:=p;exact again Y B
  | cont=>obtain⟨O,U,Y,B⟩:=p;exact again Y B
  | brk=>obtain⟨O,U,Y,p⟩:=p;exact⟨O,U,Y.O1,p⟩
  | ret v=>obtain⟨x7,O,U,Y,r7,p⟩:=p;exact⟨x7,O,U,Y.O1,r7,p⟩
end
theorem VG{lo:Int}{n:Nat}{g:TG}{tb:TS}{D:Ends}{C:St}{H:Hp}(z:Nat->St->Hp->Prop)(U:z 0 C H)
 (Y : ∀i C H,i<n->z i C H->g (.int<|lo+i) C H λI S=>tb {D with nx:=z<|i+1,ct:=z<|i+1,bk:=D.nx} I S) (hd : ∀C H,z n C H->D.nx C H) :
 ∃W:Nat->Nat->St->Hp->Prop,(∃m,W 0 m C H)/\∀i m C H,W i m C H->
  ((DK lo n).stop i H/\D.nx C H)\/((DK lo n).go i H/\∃N:St->Hp->Prop,(∀J H',N J H'->∃Z,Z<m/\W (i+1) Z J H')/\∀x H',(DK lo n).C6 i H x H'->g x C H' λI S=>tb {D with nx:=N,ct:=N,bk:=D.nx} I S):=by
 refine⟨λi m C H=>m=n - i/\i<=n/\z i C H,⟨n,by simp,Ny _,U⟩,?_⟩;rintro i m C H ⟨rfl,b,p⟩;by_cases O:i<n
 ·refine .inr ⟨O,z<|i+1,λJ H' a=>⟨n - (i+1),by omega,rfl,O,a⟩,λx H' y=>?_⟩
  obtain⟨e,y⟩:=y;subst e y;exact Y i C _ O p
 ·have e:i=n:=by omega
  subst e;exact .inl ⟨Mp _,hd C H p⟩
abbrev R2:=V->V->Hp->VK->Prop
noncomputable def k5(X:Cx)(f:fh->fh->Sem fh)(r:R2):Prop:=
 ∀(a:UQ) (s:f6) (b:St) (H:Hp) (x y:V) (v u:fh) (Q:VK),Inv X a b H s->RelV x v->RelV y u->r x y H Q->
  wpAny (f7 X.prog X.w) X.A (f v u) (EP X a b Q) X.xe s
noncomputable def TL(X:Cx)(f:fh->Sem fh)(r:V->Hp->VK->Prop):Prop:=
 ∀(a:UQ) (s:f6) (b:St) (H:Hp) (x:V) (v:fh) (Q:VK),Inv X a b H s->RelV x v->r x H Q->
  wpAny (f7 X.prog X.w) X.A (f v) (EP X a b Q) X.xe s
noncomputable def Jv(X:Cx)(f:fh)(r:List V->Hp->VK->Prop):Prop:=
 ∀(a:UQ) (s:f6) (e:St) (H:Hp) (d:List V) (b:List fh) (Q:VK),Inv X a e H s->gv d b->r d H Q->
  wpAny (f7 X.prog X.w) X.A (call f b) (EP X a e Q) X.xe s
noncomputable def LM(X:Cx)(r:V->Hp->(Bool->Hp->Prop)->Prop):Prop:=
 ∀(a:UQ) (s:f6) (b:St) (H:Hp) (x:V) (v:fh) (Q:Bool->Hp->Prop),Inv X a b H s->RelV x v->r x H Q->
  wpAny (f7 X.prog X.w) X.A (Ol v) (TP X a b Q) X.xe s
def N7(r:R2)(C I:TE):TE:=λa H Q=>C a H λx b=>I a b λy d=>r x y d Q
def _T(r:V->Hp->VK->Prop)(C:TE):TE:=λb H Q=>C b H λx a=>r x a Q
noncomputable def rI(C:Int->Int->Prop)(g:Int->Int->V):R2:=λx y H Q=>∃i j,x = .int i/\y = .int j/\C i j/\Q (g i j) H
def xr(g:Int->Int->V):R2:=λx y H Q=>∃i j,x = .int i/\y = .int j/\Q (g i j) H
def rU(g:Int->V):V->Hp->VK->Prop:=λx H Q=>∃i,x = .int i/\Q (g i) H
section
variable{X:Cx}{a b c:fA}{ta tb tc:TE}{pos:h8}
theorem Hl(ha:PE X a ta)(O:PE X b tb){C:UQ}{s:f6}{S:St}{H:Hp}{R:V->V->Hp->Prop}(I:Inv X C S H s)
 (h:ta S H λx H1=>tb S H1 λy J=>R x y J) {Q:EQ} {f:fh->fh->Sem fh}
 (U : ∀v u s2 x y J,Inv X C S J s2->RelV x v->RelV y u->R x y J->wpAny (f7 X.prog X.w) X.A (f v u) Q X.xe s2) :
 wpAny (f7 X.prog X.w) X.A (fy a X.env) (λv Y=>wpAny (f7 X.prog X.w) X.A (fy b X.env) (λu Z=>wpAny (f7 X.prog X.w) X.A (f v u) Q X.xe Z) X.xe Y) X.xe s:=by
 refine gu (ha C s S H _ I h) λv l z=>?_;obtain⟨x,H1,d,j,g⟩:=z;refine gu (O C l S H1 _ d g) λu s2 z=>?_;obtain⟨y,J,e,k,i⟩:=z;exact U v u s2 x y J e j k i
theorem uc{z:Operator}{r:R2}(O:k5 X (B7 z) r)(C:PE X a ta)(U:PE X b tb):PE X (.BinOp a z b pos) (N7 r ta tb):=by intro d s j H Q I h;exact wpAny_BinOp<|Hl C U I h λv u i x y e Y f g q=>O d i j e x y v u Q Y f g q
theorem Gq(z:TL X (unaryOp op) r)(C:PE X a ta):PE X (.UnaryOp op a pos) (_T r ta):=by intro b s d H Q I h;exact UnaryOp_<|gu (C b s d H _ I h) λv f ⟨x,e,O,U,Y⟩=>z b f d e x v Q O U Y
theorem P8{f:fh->fh->Sem fh}{C:Int->Int->Prop}{g:Int->Int->Int}
 (rule : ∀(i j:Int) (t u:tw) (s:f6) (Q:EQ) (E:EQ),C i j->Q (.int (g i j) s.toks) {s with toks:=s.toks+1}->wpAny (f7 X.prog X.w) X.A (f (.int i t)<|.int j u) Q E s) :
 k5 X f (rI C λi j=> .int (g i j)):=by
 intro a s d H x y v u Q I z O h;obtain⟨i,j,rfl,rfl,U,q⟩:=h;obtain⟨t,rfl⟩:=z;obtain⟨b,rfl⟩:=O;exact rule i j t b s _ _ U ⟨.int<|g i j,H,I.tok _,⟨_,rfl⟩,q⟩
theorem Im{f:fh->fh->Sem fh}{g:Int->Int->Int}
 (rule : ∀(i j:Int) (t u:tw) (s:f6) (Q:EQ) (E:EQ),Q (.int (g i j) s.toks) {s with toks:=s.toks+1}->wpAny (f7 X.prog X.w) X.A (f (.int i t)<|.int j u) Q E s) :
 k5 X f (xr λi j=> .int (g i j)):=by
 intro a s d H x y v u Q I z O h;obtain⟨i,j,rfl,rfl,q⟩:=h;obtain⟨t,rfl⟩:=z;obtain⟨b,rfl⟩:=O;exact rule i j t b s _ _ ⟨.int<|g i j,H,I.tok _,⟨_,rfl⟩,q⟩
theorem EX{f:fh->fh->Sem fh}{g:Int->Int->Bool}
 (rule : ∀(i j:Int) (t u:tw) (s:f6) (Q:EQ) (E:EQ),Q (.bool<|g i j) s->wpAny (f7 X.prog X.w) X.A (f (.int i t)<|.int j u) Q E s) :
 k5 X f (xr λi j=> .bl (g i j)):=by
 intro a s d H x y v u Q I z O h;obtain⟨i,j,rfl,rfl,q⟩:=h;obtain⟨t,rfl⟩:=z;obtain⟨b,rfl⟩:=O;exact rule i j t b s _ _ ⟨.bl<|g i j,H,I,rfl,q⟩
def IU(i j:Int):Prop:=0<j/\j<1073741824
def IT(i j:Int):Prop:=0<=j/\j<=1000000/\i.natAbs<2 ^ 64
def FG(i j:Int):Prop:=(-(2 ^ 64)<i/\i<2 ^ 64)\/(-(2 ^ 64)<j/\j<2 ^ 64)
theorem FG.ok(h:FG i j):IntMulOk i j:=by
 rcases h with⟨a,b⟩ | ⟨a,b⟩
 ·exact .of_left<|intBits_le_64 a b
 ·exact .of_right<|intBits_le_64 a b
theorem _G:k5 X (B7 .Add) (xr λi j=> .int (i+j)):=Im λ_ _ _ _ _ _ _ q=>add_int q
theorem Cc:k5 X (B7 .Sub) (xr λi j=> .int (i - j)):=Im λ_ _ _ _ _ _ _ q=>sub_int q
theorem _H:k5 X (B7 .Mult) (rI FG λi j=> .int (i*j)):=P8 λ_ _ _ _ _ _ _ z q=>mul_int q z.ok
theorem uk:k5 X (B7 .FloorDiv) (rI IU λi j=> .int (i/j)):=P8 λi j _ _ _ _ _ z q=>by have a:(0:Int)<j:=z.1;have b:j<1073741824:=z.2;exact floordiv_int ⋯ (by rw[Int.fdiv_eq_ediv_of_nonneg i ⋯];exact q)<|.inl<|PyProof.noPylong_small ⋯
theorem Cg:k5 X (B7 .Mod) (rI (λ_ j=>0<j) λi j=> .int (i%j)):=P8 λi j _ _ _ _ _ z q=>by have a:(0:Int)<j:=z;exact mod_int' ⋯ (by rw[Int.fmod_eq_emod_of_nonneg i ⋯];exact q)
theorem Ce:k5 X (B7 .Pow) (rI IT λi j=> .int (i ^ j.toNat)):=P8 λ_ _ _ _ _ _ _ z q=>pow_int_small z.1 z.2.1 z.2.2 q
theorem _V{f:fh->Sem fh}{g:Int->Int}
 (rule : ∀(i:Int) (t:tw) (s:f6) (Q:EQ) (E:EQ),Q (.int (g i) s.toks) {s with toks:=s.toks+1}->wpAny (f7 X.prog X.w) X.A (f<|.int i t) Q E s) :
 TL X f (rU λi=> .int (g i)):=by
 intro a s b H x v Q I z h;obtain⟨i,rfl,q⟩:=h;obtain⟨t,rfl⟩:=z;exact rule i t s _ _ ⟨.int<|g i,H,I.tok _,⟨_,rfl⟩,q⟩
theorem AK:TL X (unaryOp .USub) (rU λi=> .int (-i)):=_V λ_ _ _ _ _ q=>neg_int q
end
section
variable{X:Cx}{a b c:fA}{ta tb tc:TE}{pos:h8}
theorem rG(I:Inv X pins σ H s)(q:Q (.bl k) H)(e:k=k'):EP X pins σ Q (.bool k') s:=by subst e;exact⟨.bl k,H,I,rfl,q⟩
theorem nL:k5 X (oe .Lt) (xr λi j=> .bl (decide<|i<j)):=EX λ_ _ _ _ _ _ _ q=>lt_int q
theorem XG:k5 X (oe .LtE) (xr λi j=> .bl (decide<|i<=j)):=EX λ_ _ _ _ _ _ _ q=>le_int q
theorem Gs:k5 X (oe .Gt) (xr λi j=> .bl (decide<|j<i)):=EX λ_ _ _ _ _ _ _ q=>gt_int q
theorem Gu:k5 X (oe .GtE) (xr λi j=> .bl (decide<|j<=i)):=EX λ_ _ _ _ _ _ _ q=>ge_int q
theorem Ci:k5 X (oe .Is) (λx y H Q=>y = .gm/\Q (.bl<|decide<|x = .gm) H):=by
 intro a s b H x y v u Q I z O h;obtain⟨rfl,q⟩:=h;cases O;refine is_none_gen<|rG I q ?_;cases x<;>first
  | (cases z;rfl)
  | (obtain⟨t,rfl⟩:=z;rfl)
theorem k5.or(h:k5 X f r)(h':k5 X f r'):k5 X f (λx y H Q=>r x y H Q\/r' x y H Q):=by
 intro a s b H x y v u Q I z O q;rcases q with q | q
 ·exact h a s b H x y v u Q I z O q
 ·exact h' a s b H x y v u Q I z O q
theorem Jh(b:fA)(h:op ≠ .In:=by decide)(C:op ≠ .NotIn:=by decide):C0 op b=eK:=by
 have a:(op==CmpOp.In)=eK:=by cases op<;>first | rfl | exact absurd rfl h
 have z:(op==CmpOp.NotIn)=eK:=by cases op<;>first | rfl | exact absurd rfl C
 cases b<;>simp[C0,a,z]
theorem gE{z:I0}{r:R2}(O:k5 X (oe z) r)(C:PE X a ta)(U:PE X b tb)(J:C0 z b=eK):PE X (.Compare a [z] [b] pos) (N7 r ta tb):=by intro d s j H Q I h;exact wpAny_Compare1 (Hl C U I h λv u i x y e Y f g q=>O d i j e x y v u Q Y f g q) J
def sv(t:TE):TT:=λb H Q=>t b H λx a=>∃k,x = .bl k/\Q k a
theorem fZ(O:k5 X (oe op) r)(C:PE X a ta)(U:PE X b tb)(J:C0 op b=eK):PT X (.Compare a [op] [b] pos) (sv<|N7 r ta tb):=by
 intro d s f H Q I h;refine _Z (gu (C d s f H _ I h) λv B ⟨x,g,Y,t,n⟩=>gu (U d B f g _ Y n) λu E ⟨y,i,l,w,o⟩=>
  gu (O d E f i x y v u _ l t w o) λc F ⟨z,j,m,A,k,e,p⟩=>?_) J
 subst e;cases A;exact NN ⟨j,m,p⟩
noncomputable def pM(r C:R2)(ta tb tc:TE):TE:=λa H Q=>ta a H λx b=>tb a b λy d=>r x y d λz I=>∃k,z = .bl k/\
 (if k=eA then tc a I λe O=>C y e O Q else Q (.bl eK) I)
theorem nH(ho:k5 X (oe op) r)(C:k5 X (oe M8) r')(J:PE X a ta)(S:PE X b tb)(Z:PE X c tc)
 (hm:M1 [op,M8] [b,c]=eK:=by with_unfolding_all rfl):PE X (.Compare a [op,M8] [b,c] pos) (pM r r' ta tb tc):=by
 intro f s g H Q I h;refine Compare_chain (gu (J f s g H _ I h) λv G ⟨x,j,n,B,t⟩=>chain_link (gu (S f G g j _ n t) λu K ⟨y,l,o,i,w⟩=>
  gu (ho f K g l x y v u _ o B i w) λd L ⟨z,O,U,E,k,e,Y⟩=>?_)) hm
 subst e;cases E;refine NN ?_;cases k with
 | false=>exact ite_ff ⟨.bl eK,O,U,rfl,Y⟩
 | true=>exact ite_tt<|chain_last<|gu (Z f L g O _ U Y) λN M ⟨P,m,p,F,A⟩=>C f M g m y P u N Q p i F A
theorem mY{O U:I0}{r C:R2}(ho:k5 X (oe O) r)(J:k5 X (oe U) C)(S:PE X a ta)(Z:PE X b tb)(hc:PE X c tc)
 (hm:M1 [O,U] [b,c]=eK:=by with_unfolding_all rfl):PT X (.Compare a [O,U] [b,c] pos) (sv<|pM r C ta tb tc):=by
 intro f s g H Q I h;refine isTrue_chain (gu (S f s g H _ I h) λv s1 ⟨x,m,t,P,K⟩=>test_link (gu (Z f s1 g m _ t K) λu s2 ⟨y,n,w,l,L⟩=>
  gu (ho f s2 g n x y v u _ w P l L) λd s3 ⟨z,Y,i,R,k,e,j⟩=>?_)) hm
 subst e;cases R;refine NN ?_;cases k with
 | false=>
  obtain⟨k',E,G⟩:=j;cases E;exact ite_ff ⟨Y,i,G⟩
 | true=>
  refine ite_tt<|test_last<|gu (hc f s3 g Y _ i j) λw' s4 ⟨z',o,A,T,M⟩=>gu (J f s4 g o y z' u w' _ A l T M) λd' s5 ⟨z2,p,B,W,k2,F,N⟩=>?_;subst F;cases W;exact NN ⟨p,B,N⟩
noncomputable def IP(K:Mf)(x:V)(H:Hp)(k:Bool):Prop:=
 match x with
 | .gm=>k=eK
 | .bl b=>k=b
 | .int i=>k=(i != 0)
 | .str y=>y.length<=hB/\k=((y.length:Int) != 0)
 | .L7 y=>y.size<=hB/\k=((y.size:Int) != 0)
 | .ref p=>(∃d,h9 K H p d/\k = !d.isEmpty)\/(∃d,i5 K H p d/\k = !d.isEmpty)\/∃a,H p=ej (.dK a)/\k = !a.isEmpty
 | _=>False
theorem dG(r:KV o1 vs):(!vs.isEmpty) = !o1.isEmpty:=by cases r<;>rfl
theorem Kr(r:gv xs _x):(!_x.toArray.isEmpty) = !xs.isEmpty:=by cases r<;>simp
theorem QT:(hB:Nat)<2 ^ 63:=by rw[Pk];decide
theorem AN:LM X (λx H Q=>∃k,IP X.K x H k/\Q k H):=by
 intro l s C H x v Q I O h;obtain⟨k,e,q⟩:=h;have A:=QT;have B:hB=16777216:=Pk;cases x with
 | gm=>
  cases O;have z:k=eK:=e;subst z;exact truthy_none ⟨H,I,q⟩
 | bl b=>
  cases O;have z:k=b:=e;subst z;exact NN ⟨H,I,q⟩
 | int i=>
  obtain⟨t,rfl⟩:=O;have z:k=(i != 0):=e;subst z;exact PySem.P.truthy_int ⟨H,I,q⟩
 | str y=>
  obtain⟨t,rfl⟩:=O;obtain⟨u,z⟩:y.length<=hB/\k=((y.length:Int) != 0):=e;subst z;exact PySem.P.truthy_str ⋯ ⟨H,I.tok _,q⟩
 | L7 y=>
  obtain⟨t,rfl⟩:=O;obtain⟨u,z⟩:y.size<=hB/\k=((y.size:Int) != 0):=e;subst z;exact PySem.W.truthy_bytes ⋯ ⟨H,I.tok _,q⟩
 | ref p=>
  cases O;have z:(∃d,h9 X.K H p d/\k = !d.isEmpty)\/(∃d,i5 X.K H p d/\k = !d.isEmpty)\/∃a,H p=ej (.dK a)/\k = !a.isEmpty:=e;rcases z with⟨d,f,z⟩ | ⟨d,f,z⟩ | ⟨a,f,z⟩
  ·subst z
   obtain⟨n,r,j,U⟩:=I.list f;have Y:=r.length;exact wpAny_truthy_list j.isList (by simp only[Mw];omega) ⟨H,I.tok _,by rw[Kr r];exact q⟩
  ·subst z
   obtain⟨n,r,j,U⟩:=I.tuple f;have Y:=r.length;exact truthy_tuple j (by simp only[Mw];omega) ⟨H,I.tok _,by rw[Kr r];exact q⟩
  ·subst z
   obtain⟨U,o,g,r,m⟩:a.length<=hB/\(p==DF)=eK/\∃g,KV a g/\s.heap.DictOf (xP X.prog X.w) p g:=I.g5 p _ f;have Y:a.length=g.length:=Paired.length r;exact wpAny_truthy_dict o m ⋯ ⟨H,I.tok _,by rw[dG r];exact q⟩
 | _=>exact(show False from e).elim
theorem mX(J:PE X a ta)(O : ∀z,E4 a X.env z=(do let v <- z;DD a.pos;tf [v] (Ol v))) :
 PT X a (λC H Q=>ta C H λx H'=>∃k,IP X.K x H' k/\Q k H'):=by
 intro b s C H Q I h;exact isTrue_plain (gu (J b s C H _ I h) λv f ⟨x,d,U,Y,e⟩=>AN b f C d x v Q U Y e)<|O _
theorem vg(r:gv [x] us) : ∃u,us=[u]/\RelV x u:=by
 cases r with
 | cons z a=>cases a;exact⟨_,rfl,z⟩
theorem AI(r:gv [x,y] us) : ∃u C,us=[u,C]/\RelV x u/\RelV y C:=by
 cases r with
 | cons z a=>
  cases a with
  | cons I O=>cases O;exact⟨_,_,rfl,z,I⟩
theorem lA(O:X.calm=eA):Jv X (.builtin "min") (λxs H Q=>∃i j,xs=[.int i,.int j]/\Q (.int (if j<i then j else i)) H):=by
 intro a s g H xs e Q I r h;obtain⟨i,j,rfl,q⟩:=h;obtain⟨u,f,rfl,⟨t,rfl⟩,⟨d,rfl⟩⟩:=AI r;refine min_two_ints (I.ok.hd O) λb U k=>⟨_,H,I.kept k,?_,q⟩;by_cases z:j<i
 ·rw[UJ z,UJ z];exact⟨_,rfl⟩
 ·rw[UY z,UY z];exact⟨_,rfl⟩
theorem lB:Jv X (.type "int") (λxs H Q=>(∃i,xs=[.int i]/\Q (.int i) H)\/∃k,xs=[.bl k]/\Q (.int (if k then 1 else 0)) H):=by
 intro a s d H xs b Q I r h;rcases h with⟨i,rfl,q⟩ | ⟨k,rfl,q⟩
 ·obtain⟨u,rfl,t,rfl⟩:=vg r
  exact call_int_int ⟨.int i,H,I,⟨_,rfl⟩,q⟩
 ·obtain⟨u,rfl,z⟩:=vg r
  cases z;exact call_int_bool ⟨.int<|if k then 1 else 0,H,I.tok _,⟨_,rfl⟩,q⟩
end
structure TC(h:gB)(x dx C:fe)(mA:UZ):Prop where
 obj:h.get? x=ej (PySem.W.instObj C dx)
 ns:h.Ns1 dx mA
 ne:dx≠x
theorem hV{h:gB}{C:fe}{J:UZ}(n:h.Ns1 C J) : ∃S,h.get? C=ej S/\∀name,PySem.W.lookIn name S=ej (J name):=by
 obtain⟨o,b,i,I,f,O,_,g⟩:=n;refine⟨o,I,λname=>?_⟩;have e:=g name;unfold nsFind findBy at e;rw[<- Array.find?_toList]at e;unfold PySem.W.lookIn;rw[f];dsimp only;split
 ·rename_i y q
  rw[q]at e;exact congrArg ej e
 ·rename_i q
  rw[q]at e;have a:b.toList.any (·.refKey)=eK:=by rw[Td];intro y U;obtain⟨z,t,Y⟩:=O y<|Array.mem_toList_iff.mp U;simp[DictEntry.refKey,Y]
  have d : ¬b.toList.any (·.refKey)=eA:=by rw[a];exact MW
  rw[UY d];exact congrArg ej e
theorem TC.look(I:TC h x dx C mA) : ∃J,PySem.W.InstAt h x (PySem.W.instObj C dx) C (ej J)/\∀name,PySem.W.lookIn name J=ej (mA name):=
 let ⟨J,z,O⟩:=hV I.ns
 ⟨J,⟨I.obj,rfl,rfl,z⟩,O⟩
theorem B9.some_of(r:B9 (ej v) o) : ∃u,o=ej u/\RelV v u:=by
 cases o with
 | none=>exact(show False from r).elim
 | some u=>exact⟨u,rfl,r⟩
section
variable{P:l6}{w:i8}{H H':Hp}{h h':gB}{a C dx:fe}{fs _s:List (Str×V)}
theorem uI(J:n6 P w H h)(e:H a=ej (.ins C dx fs)) : ∃mA,TC h a dx C mA/\(∀f,B9 (fs.lookup f)<|mA f)/\PySem.Within mA (fs.map (·.1))/\fs.length<=1000/\H dx=ej (.own a):=by obtain⟨d,z,b,I,mA,n,r,q⟩:=(show nh P w H h a (.ins C dx fs)from J a _ e);exact⟨mA,⟨I,n,b⟩,r,q,z,d⟩
end
structure S9(K:Mf)(C:fe):Prop where
 pg:PySem.W.plainGet K C Str.empty=eA
 hd:PySem.W.hasDictIn K C=eA
 po:PySem.W.plainOver K C=eA
 sa:RE K (.ref C) "__setattr__" = ej (ej (.builtin "object.__setattr__"))
theorem S9.get{K:Mf}{C:fe}(c:S9 K C)(f:Str):PySem.W.plainGet K C f=eA:=c.pg
section
variable{X:Cx}{pins:UQ}{σ:St}{H:Hp}{s:f6}{A:o6}{E:EQ}{Q:EQ}{c:fh}{b:Bool}
inductive B5(K:Mf)(H:Hp):V->fh->Prop where
 | gm:B5 K H .gm (.type "NoneType")
 | bl (x:Bool):B5 K H (.bl x) (.type "bool")
 | int (i:Int):B5 K H (.int i) (.type "int")
 | str (x:Str):B5 K H (.str x) (.type "str")
 | Gx (x:UInt64):B5 K H (.Gx x) (.type "float")
 | lst {a:fe} {xs:List V} (e:H a=ej (.lst xs)):B5 K H (.ref a) (.type "list")
 | A8 {a:fe} {o:pa} {xs:List V} (e:H a=ej (.A8 o (.lst xs))):B5 K H (.ref a) (.type "list")
 | tup {a:fe} {xs:List V} (e:H a=ej (.tup xs)):B5 K H (.ref a) (.type "tuple")
 | dK {a:fe} {o1:List (Key×V)} (e:H a=ej (.dK o1)):B5 K H (.ref a) (.type "dict")
 | dT {a:fe} {o1:List (List Key×V)} (e:H a=ej (.dT o1)):B5 K H (.ref a) (.type "dict")
 | ins {a C dx:fe} {fs:List (Str×V)} (e:H a=ej (.ins C dx fs)) (cl:S9 K C) (ha:RE K (.ref C) "__class__" = ej (ej (.builtin "object.__class__")))
  (hn:PySem.W.specialIn K (.builtin "object.__class__") "__get__" = ej (ej (.builtin "getset_descriptor.__get__"))) (l?:PySem.W.takesIn K (.builtin "object.__class__")=ej eA)
  (hm:PySem.W.mroIn K C (.type "object")=ej eA):B5 K H (.ref a) (.ref C)
theorem iz(I:Inv X pins σ H s)(U:RelV x u)(ty:B5 X.K H x t)(e:OA X.K t c=ej b)(h : ∀S,Q (.bool b) {s with toks:=S}) :
 wpAny (f7 X.prog X.w) A (call (.builtin "isinstance") [u,c]) Q E s:=by
 cases ty with
 | gm=>cases (show u=Nd from U);exact Nl SM I.m6 Oq e (λz=>nomatch z) h
 | bl y=>cases (show u=SV y from U);exact Nl SN I.m6 Oq e (λz=>nomatch z) h
 | int i=>obtain⟨t,q⟩:=(show ∃t,u=Sn i t from U);cases q;exact Nl SY I.m6 Oq e (λz=>nomatch z) h
 | str y=>obtain⟨t,q⟩:=(show ∃t,u=Sm y t from U);cases q;exact Nl SW I.m6 Oq e (λz=>nomatch z) h
 | Gx y=>obtain⟨t,q⟩:=(show ∃t,u=Value.float y t from U);cases q;exact Nl PySem.W.kitx_float I.m6 Oq e (λz=>nomatch z) h
 | @lst a g Y=>
  cases (show u=NS a from U);obtain⟨_,_,n,_,d⟩:=(show nh X.prog X.w H s.heap a (.lst g)from I.g5 a _ Y);exact Nl RI I.m6 ⟨_,d,rfl⟩ e (λz=>nomatch z) h
 | @A8 a L g Y=>
  cases (show u=NS a from U);obtain⟨_,_,_,n,_,d⟩:=(show nh X.prog X.w H s.heap a (.A8 L<|.lst g)from I.g5 a _ Y);exact Nl RI I.m6 ⟨_,d,rfl⟩ e (λz=>nomatch z) h
 | @tup a g Y=>
  cases (show u=NS a from U);obtain⟨_,_,_,p⟩:=(show nh X.prog X.w H s.heap a (.tup g)from I.g5 a _ Y);obtain⟨o,d,j,_⟩:=p;exact Nl SD I.m6 ⟨o,d,(Prod.mk.inj j).1⟩ e (λz=>nomatch z) h
 | @dK a f Y=>
  cases (show u=NS a from U);obtain⟨_,_,R,_,p⟩:=(show nh X.prog X.w H s.heap a (.dK f)from I.g5 a _ Y);obtain⟨o,r,m,d,j,_⟩:=p;exact Nl PR I.m6 ⟨o,d,j.1⟩ e (λz=>nomatch z) h
 | @dT a f Y=>
  cases (show u=NS a from U);obtain⟨_,_,g,_,o,r,m,d,j,_⟩:=(show nh X.prog X.w H s.heap a (.dT f)from I.g5 a _ Y);exact Nl PR I.m6 ⟨o,d,j.1⟩ e (λz=>nomatch z) h
 | @ins a C M fs Y l B G k F=>
  cases (show u=NS a from U);obtain⟨N,O,_⟩:=uI I.g5 Y;obtain⟨P,J,_⟩:=O.look;exact Nl (PySem.W.kitx_own (l.get _) l.hd B G k F) I.m6 J e (λz=>nomatch z) h
end
structure qs(k:Nat)(A:o6):Prop where
 hd:A.handled=eF
 dp:A.depth+3*k+5<recursionLimit
 un:A.units+16*k+200<En
theorem qs.mono(r:qs k A)(h:j<=k):qs j A:=⟨r.hd,by have:=r.dp;omega,by have:=r.un;omega⟩
theorem qs.deeper(r:qs (k+1) A)(env:ro):qs k (A.deeper env):=
 ⟨r.hd,by have:=r.dp;show A.depth+1+3*k+5<_;omega,by have:=r.un;show A.units+3+16*k+200<_;omega⟩
theorem qs.in1(r:qs (k+1) A):qs k A.in1:=
 ⟨r.hd,by have:=r.dp;show A.depth+3*k+5<_;omega,by have:=r.un;show A.units+1+16*k+200<_;omega⟩
theorem qs.depth(r:qs k A):A.depth<recursionLimit:=by have:=r.dp;omega
def HX:TA:=λ_ H Q=>Q [] H
def AU(C:TE)(z:TA):TA:=λa H Q=>C a H λx b=>z a b λe d=>Q (x::e) d
section
variable{X:Cx}{e:fA}{es:List fA}{te:TE}{t:TA}{pos:h8}
theorem q8:PA X [] HX:=λ_ _ _ _ H Q I h=>Rc ⟨[],H,I,.nil,h⟩
theorem jT(C:PE X e te)(z:PA X es t)(O:g8 (e::es) X.env=(eK,fy e X.env)::g8 es X.env:=by rfl):PA X (e::es) (AU te t):=by intro pos a s b H Q I h;rw[O];show wpAny _ _ (DW ((eK,fy e X.env)::vr pos (g8 es X.env))) _ _ s;refine Oo<|gu (C a s b H _ I h) λu m U=>?_;obtain⟨x,d,Y,k,i⟩:=U;exact gu (z pos a m b d _ Y i) λp o ⟨n,f,g,l,j⟩=>⟨x::n,f,g,.cons k l,j⟩
noncomputable def IW(t:TA):TE:=λd H Q=>t d H λb a=>b.length<=hB/\∀p,a p=eF->Q (.ref p) (upd a p<|.tup b)
noncomputable def La(t:TA):TE:=λd H Q=>t d H λb a=>b.length<=hB/\∀p,a p=eF->Q (.ref p) (upd a p<|.lst b)
theorem BO(h:PA X es t):PE X (.Tuple es x1 pos) (IW t):=by intro a s j H Q I U;refine _W<|gu (h pos a s j H _ I U) λg d ⟨i,f,O,r,z,q⟩=>⟨by rw[<- r.length];exact z,?_⟩;have Y:f d.heap.objs.size=eF:=O.g5.fresh<|Mp _;refine⟨.ref d.heap.objs.size,upd f d.heap.objs.size<|.tup i,O.laid (t':=d.toks) (λb u e=>Mh _ e) (Mp _) ?_,rfl,q _ Y⟩;exact⟨z,g,r,⟨_,Mz _ rfl,rfl,_,rfl⟩⟩
theorem BV(h:PA X es t):PE X (.List es pos) (La t):=by intro a s j H Q I U;refine wpAny_List_spliced<|gu (h pos a s j H _ I U) λg d ⟨i,f,O,r,z,q⟩=>⟨by rw[<- r.length];exact z,?_⟩;have Y:f d.heap.objs.size=eF:=O.g5.fresh<|Mp _;refine⟨.ref d.heap.objs.size,upd f d.heap.objs.size<|.lst i,O.laid (t':=d.toks) (λb u e=>Mh _ e) (Mp _) ?_,rfl,q _ Y⟩;exact⟨z,g,0,r,Mz _ rfl⟩
end
abbrev Sp:=List V->Hp->VK->XK->Prop
abbrev B0:=List ro->Hp->f6->XK->fh->f6->Prop
structure Dq(P:l6)(w:i8)(K:Mf)(mg:UZ)(base:gB)(A:o6)(outer:List ro)(s:f6)(H:Hp):Prop where
 frames:A.frames=ej outer
 mod:Mod K mg base
 bs : ∀b o,base.get? b=ej o->s.heap.get? b=ej o/\H b=eF
 De:base.objs.size<=s.heap.objs.size
 A9:s.heap.FunFrames base outer
 DQ : ∀b∈C3 outer,H b=eF
 g5:n6 P w H s.heap
 bare:DI s.gens
noncomputable def CE(outer:List ro)(P:l6)(w:i8)(H:Hp)(s:f6)(Q:VK)(u:fh)(C:f6):Prop:=
 ∃v a,C.os=s.os/\DI C.gens/\Un (C3 outer) [] H a s.heap C.heap/\n6 P w a C.heap/\RelV v u/\Q v a
noncomputable def CR(CX:B0)(outer:List ro)(P:l6)(w:i8)(H:Hp)(s:f6)(Q:VK)(E:XK)(r:Result)(C:f6):Prop:=
 match r with
 | .ok (.ret u)=>CE outer P w H s Q u C
 | .ok _=>False
 | .error e=>CX outer H s E e C
structure uw(P:l6)(w:i8)(K:Mf)(mg:UZ)(base:gB)(CX:B0)(k:Nat)(f:fe)(fd:u0)(ps:List Str)(sp:Sp):Prop where
 len : ∀vs H Q E,sp vs H Q E->vs.length=ps.length
 run : ∀(A:o6) (outer:List ro) (s:f6) (H:Hp) (args:Args) (us:List fh) (vs:List V) (Q:VK) (E:XK),qs k A->Dq P w K mg base A outer s H->O2 s fd args (ps.zip us)->gv vs us->sp vs H Q E->
  codeAny (f7 P w) A (.call (.ref f) args) (CR CX outer P w H s Q E) s
theorem Dq.in1{P:l6}{w:i8}{K:Mf}{C:UZ}{base:gB}{A:o6}{outer:List ro}{s:f6}{H:Hp}(e:Dq P w K C base A outer s H) :
 Dq P w K C base A.in1 outer s H:=⟨e.frames,e.mod,e.bs,e.De,e.A9,e.DQ,e.g5,e.bare⟩
section
variable{X:Cx}{pins:UQ}{σ:St}{H:Hp}{s s':f6}
theorem Inv.Dw(I:Inv X pins σ H s):Dq X.prog X.w X.K X.mg X.base X.A X.stack s H:=
 ⟨I.ok.frames,I.ok.mod,I.bs,NQ I.ok.De I.sz,I.stack,I.E_,I.g5,I.bare⟩
theorem Inv.after(I:Inv X pins σ H s)(h:CE X.stack X.prog X.w H s Q u s'):EP X pins σ Q u s':=by obtain⟨v,f,os,a,un,e,r,q⟩:=h;obtain⟨O,g,d,t,U⟩:=s';obtain rfl:U=s.os:=os;exact⟨v,f,I.call (h':=O) (g':=g) (d':=d) (t':=t) (ch:=[]) un e a<|λb z=>absurd z ⋯,r,q⟩
end
def sC(sp:Sp)(C:List V)(E:XK)(t:TA):TE:=λd H Q=>t d H λb a=>sp (b++C) a Q E
noncomputable def Binds(K:Mf)(C:u0)(ps:List Str)(ds:List fh):Prop:=
 ∀(s:f6) (a:List fh),K.In s.heap->(a++ds).length=ps.length->O2 s C ⟨a,[]⟩ (ps.zip<|a++ds)
theorem Binds.all{K:Mf}{C:u0}{ps:List Str}(h : ∀us:List fh,us.length=ps.length->d_ C ⟨us,[]⟩=pure (ps.zip us)):Binds K C ps []:=λs us _ z=>by rw[OZ]at z ⊢;exact .of_eq<|h us z
noncomputable def lT(CX:B0)(X:Cx)(E:XK):Prop:=∀(a:UQ) (d:St) (H:Hp) (s:f6) (e:fh) (b:f6),Inv X a d H s->CX X.stack H s E e b->X.xe e b
section
variable{X:Cx}{CX:B0}{k:Nat}{f C:fe}{fd:u0}{ps:List Str}{sp:Sp}{F6:List V}{ds:List fh}{E:XK}{x m:Str}{p pos apos:h8}{e o:fA}{es:List fA}{ta:TE}{t:TA}
theorem Bj(F:uw X.prog X.w X.K X.mg X.base CX k f fd ps sp)(O:qs k X.A)(U:Binds X.K fd ps ds)(J:gv F6 ds)(hx:lT CX X E)
 (I:Inv X pins σ H s) (r:gv vs us) (h:sp (vs++F6) H Q E):wpAny (f7 X.prog X.w) X.A (call (.ref f) us) (EP X pins σ Q) X.xe s:=by
 have a:gv (vs++F6) (us++ds):=r.append J;have Y:(us++ds).length=ps.length:=by rw[<- a.length];exact F.len _ _ _ _ h
 refine wpAny_call<|SK (F.run X.A X.stack s H ⟨us,[]⟩ (us++ds) (vs++F6) Q E O I.Dw (U s us I.m6 Y) a h) λr d z=>?_;cases r with
 | error e=>exact hx pins σ H s e d I z
 | ok b=>
  cases b with
  | ret u=>exact I.after z
  | next=>exact OK z
  | brk=>exact OK z
  | cont=>exact OK z
theorem gF(F:uw X.prog X.w X.K X.mg X.base CX k f fd ps sp)(O:qs k X.A)(U:Gl X x)(hm:X.mg x=ej (.ref f))(Y:RD X.K (.ref f)=eA)(hb:Binds X.K fd ps ds)(hd:gv F6 ds)(hx:lT CX X E)
 (Z:PA X (e::es) t) (J:(x==("__debug__" : Str))=eK:=by decide) (he:g8 (e::es) X.env=(eK,fy e X.env)::g8 es X.env:=by rfl) (S:(vr pos (g8 es X.env)).any (·.1)=eK:=by rfl) :
 PE X (.Call (.Name x p) (e::es) [] pos) (sC sp F6 E t):=by
 intro a s b H Q I h;refine Pe<|WJ I U hm ?_ J;refine PySem.W.callWith_K (h₀:=X.base) I.ok.mod.Uo Y (gu (Z pos a s b H _ I h) λi g ⟨j,d,z,r,q⟩=>⟨z.m6,?_⟩) he S;exact Bj F O hb hd hx z r q
end
structure I8(N P:List Str)(sc:jn):Prop where
 kind:sc.kind = .function
 co:sc.isCoroutine=eK
 gen:sc.isGenerator=eK
 nd:N.Nodup
 pre:N.take P.length=P
 par : ∀x∈P,sc.names.lookup x=ej .local\/sc.names.lookup x=ej .cell
 _E : ∀y∈sc.names,y.2 ≠ .free
theorem VQ{kindOf:Str->Option B8}{x:Str} : ∀{z:List (Str×fh)} {m:UZ},(∀v,(x,v)∉z)->D9 kindOf z m x=m x
 | [],_,_=>rfl
 | (n,v)::r,m,h=>by
  unfold D9;rw[VQ λw a=>h w (Ms _ a)];split
  ·have:x≠n:=by rintro rfl;exact h v Mx
   simp[this]
  ·rfl
theorem VT{kindOf:Str->Option B8}{x:Str} : ∀{z:List (Str×fh)} {m:UZ},(∀v,(x,v)∉z)->D8 kindOf z m x=m x
 | [],_,_=>rfl
 | (n,v)::r,m,h=>by
  unfold D8;rw[VT λw a=>h w (Ms _ a)];split
  ·rfl
  ·have:x≠n:=by rintro rfl;exact h v Mx
   simp[this]
theorem VR{kindOf:Str->Option B8}{x:Str}{v:fh} : ∀{P:List Str} {vs:List fh} {i:Nat} {m:UZ},P.Nodup->P[i]? = ej x->vs[i]? = ej v->kindOf x=ej .local->
 D9 kindOf (P.zip vs) m x=ej v
 | [],_,_,_,_,h,_,_=>by simp at h
 | _::_,[],_,_,_,_,h,_=>by simp at h
 | p::P,w::vs,0,m,nd,h1,h2,hk=>by simp at h1 h2;subst h1;subst h2;show D9 kindOf ((p,w)::P.zip vs) m p=_;unfold D9;rw[VQ λv z=>(Nq.mp nd).1 (List.of_mem_zip z).1,UJ hk];simp
 | p::P,w::vs,i+1,m,nd,h1,h2,hk=>by show D9 kindOf ((p,w)::P.zip vs) m x=_;unfold D9;exact VR (i:=i) (Nq.mp nd).2 (by simpa using h1) (by simpa using h2) hk
theorem VU{kindOf:Str->Option B8}{x:Str}{v:fh} : ∀{P:List Str} {vs:List fh} {i:Nat} {m:UZ},P.Nodup->P[i]? = ej x->vs[i]? = ej v->kindOf x≠ej .local->
 D8 kindOf (P.zip vs) m x=ej v
 | [],_,_,_,_,h,_,_=>by simp at h
 | _::_,[],_,_,_,_,h,_=>by simp at h
 | p::P,w::vs,0,m,nd,h1,h2,hk=>by simp at h1 h2;subst h1;subst h2;show D8 kindOf ((p,w)::P.zip vs) m p=_;unfold D8;rw[VT λv z=>(Nq.mp nd).1 (List.of_mem_zip z).1,UY hk];simp
 | p::P,w::vs,i+1,m,nd,h1,h2,hk=>by show D8 kindOf ((p,w)::P.zip vs) m x=_;unfold D8;exact VU (i:=i) (Nq.mp nd).2 (by simpa using h1) (by simpa using h2) hk
def J0(N:List Str)(vs:List V):St:=vs.map ej++Ml (N.length - vs.length) eF
noncomputable def uW(CX:B0)(P:l6)(w:i8)(K:Mf)(mg:UZ)(base:gB)(N:List Str)(qual:Str)(scope:jn)(f:fe)(z:fh)(A:o6)(outer:List ro)(s:f6)(H:Hp)(E:XK):Cx where
 prog:=P
 w:=w
 K:=K
 mg:=mg
 base:=base
 A:=A.deeper<|envOfC qual scope s.heap.objs.size f z
 N:=N
 rb:=s
 L0:=H
 env:=P0 qual scope s.heap.objs.size f z
 outer:=outer
 stack:=P0 qual scope s.heap.objs.size f z::outer
 ex:=[]
 calm:=eA
 fn:=λ_=>eA
 pn:=[]
 xe:=λe s'=>wpAny (f7 P w) (A.deeper<|envOfC qual scope s.heap.objs.size f z) (leaving (P0 qual scope s.heap.objs.size f z) e) (λ_ I=>CX outer H s E e I) (λO I=>CX outer H s E O I) s'
theorem bN{C:jn}{n:Nat}{x:Str}(h:C.names.lookup x=ej .cell) : ∃c,(A6 n C.names []).lookup x=ej c:=by have q:=PK C.names n [] (.inl h);exact Om.mp q
theorem iB{CX:B0}{P:l6}{w:i8}{K:Mf}{C:UZ}{base:gB}{N ps:List Str}{qual:Str}{scope:jn}{f:fe}{Y:fh}{A:o6}{outer:List ro}{s J:f6}{H:Hp}{E:XK}{us:List fh}{vs:List V}
 (S:I8 N ps scope) (Z:A.handled=eF) (I:Dq P w K C base A outer s H) (hl:vs.length=ps.length) (r:gv vs us)
 (x:InCallC s s.heap.objs.size (D9 (P0 qual scope s.heap.objs.size f Y).kindOf (ps.zip us) λ_=>eF) (A6 (s.heap.objs.size+1) scope.names []) (D8 (P0 qual scope s.heap.objs.size f Y).kindOf (ps.zip us) λ_=>eF) J) :
 Inv (uW CX P w K C base N qual scope f Y A outer s H E) [] (J0 N vs) H J:=by
 have F:ps.length<=N.length:=by have:=congrArg List.length S.pre;rw[Rm]at this;omega
 obtain⟨g,L,rfl,m⟩:=x.done;have a0 : ∀b:fe,b∉(uW CX P w K C base N qual scope f Y A outer s H E).ex:=λb z=>absurd (show b∈([]:List fe)from z) ⋯;refine⟨⟨I.mod,S.kind,rfl,rfl,Mp _,λy z c g d=>?_,λy O=>?_,λy c _ h=>?_,λ_=>Z,Around.frames_deeper I.frames,.inr ⟨rfl,rfl⟩,λb z=>absurd z<|a0 b,I.bs,I.De,λb _ _=>a0 b,λb z=>absurd z<|a0 b,I.A9,I.DQ⟩,
  rfl,I.bare,Un.kept m,⟨_,x.toInCall.ns,λi y v g d G=>?_⟩,λy c h=>⟨_,x.cell y c h⟩,I.g5.fresh<|Mp _,λy c h=>?_,λp U=>absurd (show p∈([]:UQ)from U) ⋯,I.g5.kept m,?_⟩
 ·exact name_of_addr x.apart (Pq g)<|Pq d
 ·have O:scope.names.lookup y=ej .cell\/scope.names.lookup y=ej .free:=O
  rcases O with O | O
  ·exact bN O
  ·exact absurd rfl<|S._E _<|Pq O
 ·exact Sy<|x.above y c<|Pq h
 ·have j:i<vs.length:=by
   unfold J0 at d;by_cases j:i<vs.length
   ·exact j
   ·rw[Nm (by simpa using j)]at d
    rw[PM]at d;split at d<;>cases d
  have t:vs[i]? = ej v:=by
   unfold J0 at d;rw[ND (by simpa using j),Nf]at d;cases e:vs[i]? with
   | none=>rw[e]at d;cases d
   | some a=>rw[e]at d;cases d;rfl
  obtain⟨u,o,B⟩:=r.get t;have U:ps[i]? = ej y:=by rw[<- S.pre,List.getElem?_take_of_lt ⋯];exact g
  have l:ps.Nodup:=by rw[<- S.pre];exact S.nd.sublist<|List.take_sublist _ _
  refine⟨u,B,?_⟩;rcases S.par y (Nh U)with k | k
  ·exact .inl ⟨k,VR l U o k⟩
  ·obtain⟨c,e⟩:=bN (n:=s.heap.objs.size+1) k
   refine .inr ⟨.inl k,c,e,?_⟩;have q:=x.cell y c e;rw[VU l U o (by show scope.names.lookup y≠_;rw[k];decide)]at q;exact q
 ·exact I.g5.fresh<|Sy<|x.above y c<|Pq h
 ·unfold J0
  show _=N.length;rw[NM,MF,List.length_replicate];omega
theorem Ha{CX:B0}{P:l6}{w:i8}{K:Mf}{mg:UZ}{base:gB}{k:Nat}{f:fe}{name qual:Str}{a0:Arguments}{Z:List m7}{scope:jn}{dV kV doc pm C ct oc:fh}{an od:Option fe}
 {Uw:Array (Option fh)} {N ps:List Str} {sp:Sp} (lk:K.lookup f=ej ⟨oc,od,.func<|PY name qual a0 Z scope dV kV doc pm an C ct,Uw⟩) (a5:So K C qual=eA) (S:I8 N ps scope)
 (len : ∀vs H Q E,sp vs H Q E->vs.length=ps.length)
 (a6 : ∀(A:o6) (outer:List ro) (s:f6) (H:Hp) (vs:List V) (Q:VK) (E:XK),qs k (A.deeper<|envOfC qual scope s.heap.objs.size f C)->sp vs H Q E->
   ∃t,u9 (uW CX P w K mg base N qual scope f C A outer s H E) Z t/\t {nx:=λ_ H'=>Q .gm H',rt:=Q} (J0 N vs) H) :
 uw P w K mg base CX (k+1) f (PY name qual a0 Z scope dV kV doc pm an C ct) ps sp:=by
 refine⟨len,λA outer s H j T vs Q E U O hb r h=>?_⟩;have G:=len _ _ _ _ h;have g:K.In s.heap:=O.mod.Uo.keeps λb o e=>(O.bs b o e).1;have lim:s.heap.NoLimit:=O.mod.nolimit.keeps λb o e=>(O.bs b o e).1;have m : ∀y∈ps.zip T,scope.names.lookup y.1=ej .local\/(scope.names.lookup y.1=ej .cell/\((A6 (s.heap.objs.size+1) scope.names []).lookup y.1).isSome=eA):=λ⟨n,v⟩ R=>by
  rcases S.par n (List.of_mem_zip R).1 with q | q
  ·exact .inl q
  ·exact .inr ⟨q,PK _ _ _<|.inl q⟩
 refine codeAny_call_function U.depth (g _ _ lk) rfl S.co S.gen rfl (PySem.W.codeRec_of g a5)<|hb _ _ _ _ ?_;refine wpAny_newFunctionEnv_cells S.kind m λp F l x=>?_;subst F;refine⟨lim.keeps x.toInCall.keep,codeAny_func ?_⟩;obtain⟨t,M,L⟩:=a6 A outer s H vs Q E (U.deeper _) h;have I:Inv (uW CX P w K mg base N qual scope f C A outer s H E) [] (J0 N vs) H l:=iB S U.hd O G r x;refine Oy (M [] l (J0 N vs) H _ I L) (λB d z=>?_) λe d z=>z;have i : ∀{a:St} {H':Hp} {v:V} {u:fh},Inv (uW CX P w K mg base N qual scope f C A outer s H E) [] a H' d->RelV v u->Q v H'->CE outer P w H s Q u d:=
  λ{a H' v u} J Y q=>⟨v,H',J.os,J.bare,J.base,J.g5,Y,q⟩
 cases B with
 | ret u=>
  obtain⟨v,a,H',J,Y,q⟩:=z;exact i J Y q
 | next=>
  obtain⟨a,H',J,q⟩:=z;exact i (v:=V.gm) (u:=Nd) J rfl q
 | brk=>
  obtain⟨_,_,_,q⟩:=z;exact OK q
 | cont=>
  obtain⟨_,_,_,q⟩:=z;exact OK q
section
variable{X:Cx}{x:Str}{p pos:h8}{e:fA}{es:List fA}{t:TA}{id T:String}{r:List V->Hp->VK->Prop}
def G_(r:List V->Hp->VK->Prop)(t:TA):TE:=λd H Q=>t d H λb a=>r b a Q
theorem yL(z:Jv X (.builtin id) r)(O:Gl X x)(Z:X.mg x=eF)(U:Dd x=ej (.builtin id))(J:PA X (e::es) t)(hn:x ≠ "__name__":=by decide)(Y:(x==("__debug__" : Str))=eK:=by decide)
 (S:g8 (e::es) X.env=(eK,fy e X.env)::g8 es X.env:=by rfl) (C:(vr pos<|starEach es X.env).any (·.1)=eK:=by rfl):PE X (.Call (.Name x p) (e::es) [] pos) (G_ r t):=by
 intro a s b H Q I h;refine Pe<|kj I O Z U ?_ hn Y;exact PH (gu (J pos a s b H _ I h) λk j ⟨l,d,f,i,g⟩=>z a j b d l k Q f i g) S C
theorem QK(z:Jv X (.type T) r)(O:Gl X x)(Z:X.mg x=eF)(U:Dd x=ej (.type T))(J:PA X (e::es) t)(hn:x ≠ "__name__":=by decide)(Y:(x==("__debug__" : Str))=eK:=by decide)
 (S:g8 (e::es) X.env=(eK,fy e X.env)::g8 es X.env:=by rfl) (C:(vr pos<|starEach es X.env).any (·.1)=eK:=by rfl):PE X (.Call (.Name x p) (e::es) [] pos) (G_ r t):=by
 intro a s b H Q I h;refine Pe<|kj I O Z U ?_ hn Y;exact Nr (gu (J pos a s b H _ I h) λk j ⟨l,d,f,i,g⟩=>z a j b d l k Q f i g) S C
end
end L2
namespace HT
open PySem PyProof.Rows
section
variable{prog:l6}{w:i8}{A:o6}{E:EQ}{s:f6}
theorem Hj(Z:L1 s.heap t vs.toArray)(S:L1 s.heap b z.toArray)(U:vs ≠ [])
 (C:z=[]->Q (.ref t) s) (J:z ≠ []->Q (.ref s.heap.objs.size) {s with heap:=s.heap.push {cls:= .type "tuple",data:= .seq (vs++z).toArray}})
 (hsz:vs.length+z.length<=hB):wpAny (f7 prog w) A (B7 .Add (.ref t)<|.ref b) Q E s:=by
 obtain⟨⟨cls,Y,data,l⟩,I,i,n,j⟩:=id Z;obtain⟨⟨m,d,data2,f⟩,O,g,k,h⟩:=id S;simp only at i j g h;subst i j g h;have e:vs.toArray++z.toArray=(vs++z).toArray:=by simp
 by_cases a:z=[]
 ·exact Tt ⟨_,I,rfl⟩ ⟨_,O,rfl⟩ Tv D' RW RT (RJ _ _)
   (tuple_addW1 t b vs.toArray z.toArray n k Y d l f (by simpa using U)<|by simp[a]) ⟨I,O,C a⟩
 ·refine Tt ⟨_,I,rfl⟩ ⟨_,O,rfl⟩ Tv D' RW RT (RJ _ _)
   (tuple_addW2 t b vs.toArray z.toArray n k Y d l f (by simpa using U) (by simpa using a)<|by rw[Mw,Mw];exact hsz) ⟨I,O,?_⟩
  rw[e];exact J a
noncomputable def eL(n d:Nat):Option Int->Nat
 | none=>d
 | some v=>if v<0 then (v+(n:Int)).toNat else min v.toNat n
theorem Bg(n d:Nat)(C:d<=n)(o:Option Int):eL n d o<=n:=by
 cases o with
 | none=>exact C
 | some v=>
  show(if v<0 then (v+(n:Int)).toNat else min v.toNat n)<=n;by_cases z:v<0
  ·rw[UJ z];omega
  ·rw[UY z];exact Nat.min_le_right _ _
theorem lu(v:Int)(n d:Nat):(if v<0 then max (v+(n:Int)) 0 else min v (n:Int))=((eL n d (ej v):Nat):Int):=by
 show(if v<0 then max (v+(n:Int)) 0 else min v (n:Int))=(((if v<0 then (v+(n:Int)).toNat else min v.toNat n):Nat):Int);by_cases z:v<0
 ·simp only[UJ z];omega
 ·simp only[UY z];omega
theorem dU(lo C:Option Int)(n:Nat):Rl lo C 1 (n:Int)=(((eL n 0 lo:Nat):Int),((eL n n C:Nat):Int)):=by
 have a : ¬((1:Int)<0):=by omega
 unfold Rl;simp only[a,if_false];refine Prod.ext ?_ ?_
 ·cases lo with
  | none=>rfl
  | some v=>exact lu v n 0
 ·cases C with
  | none=>rfl
  | some v=>exact lu v n n
theorem cT(i j:Nat):OU (i:Int) (j:Int) 1=j - i:=by
 unfold OU;have a:(1:Int)>0:=by omega
 simp only[a,if_true,Int.ediv_one];split<;>omega
theorem X4(p:Ds v o)(h:Q o s):wpAny (f7 prog w) A (Builtin.Slice.slicePartIndex v) Q E s:=by
 cases p with
 | none=>exact slicePart_none h
 | int i t=>exact slicePart_int h
theorem Jo{J:fe}{z I:fh}{lo C:Option Int}{n:Nat}{Q:Int×Int×Nat->f6->Prop}(Y:s.heap.IsSliceOf J z I .none)(S:Ds z lo)(Z:Ds I C)
 (h:Q (((eL n 0 lo:Nat):Int),1,eL n n C - eL n 0 lo) s):wpAny (f7 prog w) A (Builtin.Slice.sliceApplied (.ref J)<|pure (n:Int)) Q E s:=by
 obtain⟨os,O,a,U⟩:=id Y;unfold Builtin.Slice.sliceApplied Builtin.Slice.sliceFields;refine Md<|Md<|Ni O U (x:=z) rfl<|Md<|Ni O U (x:=I) rfl<|Md<|Ni O U (x:= .none) rfl<|Mq ?_;refine Md<|slicePart_none ?_;show wpAny _ _ (if ((1:Int)==0)=eA then _ else _) _ _ s;rw[UY ⋯];refine Md<|X4 S<|Md<|X4 Z<|Md<|Mq ?_;show wpAny _ _ (match Rl lo C 1 (n:Int)with | (lo,C)=>pure (lo,(1:Int),OU lo C 1)) _ _ s;rw[dU lo C n];show wpAny _ _ (pure (((eL n 0 lo:Nat):Int),(1:Int),OU ((eL n 0 lo:Nat):Int) ((eL n n C:Nat):Int) 1)) _ _ s;rw[cT];exact Mq h
theorem nB(xs:Array fh)(i k:Nat):((Me k).filterMap λ(m:Nat)=>xs[((i:Int)+(m:Int)*1).toNat]?).toArray=((xs.toList.drop i).take k).toArray:=by
 have e:(λ(m:Nat)=>xs[((i:Int)+(m:Int)*1).toNat]?)=λm=>xs[i+m]? :=by
  funext m;have:((i:Int)+(m:Int)*1).toNat=i+m:=by omega
  rw[this]
 rw[e];have:=pick_run xs i k;rw[List.filterMap_map]at this;have z:((λx=>xs[x]?)∘λx=>i+x)=λm=>xs[i+m]? :=rfl;rw[z]at this;rw[this]
theorem dM{t J:fe}{items:Array fh}{O U:fh}{lo C:Option Int}{Q:EQ}(z:L1 s.heap t items)(Y:s.heap.IsSliceOf J O U .none)(Z:Ds O lo)(pu:Ds U C)
 (S : ¬(eL items.size 0 lo=0/\eL items.size items.size C=items.size))
 (h:Q (.ref s.heap.objs.size) {s with heap:=s.heap.push {cls:= .type "tuple",data:= .seq ((items.toList.drop (eL items.size 0 lo)).take (eL items.size items.size C - eL items.size 0 lo)).toArray}})
 (hsz:items.size<=hB):wpAny (f7 prog w) A (Dy (.ref t)<|.ref J) Q E s:=by
 have I:sizeOk (.seq ((items.toList.drop<|eL items.size 0 lo).take (eL items.size items.size C - eL items.size 0 lo)).toArray):=by show((items.toList.drop<|eL items.size 0 lo).take (eL items.size items.size C - eL items.size 0 lo)).toArray.size<=hB;rw[Mw,Rm,List.length_drop,NV];omega
 have g:eL items.size items.size C<=items.size:=Bg _ _ (Mp _) C;obtain⟨os,a,b,f⟩:=id Y;have d:s.TypeIs (.ref J) "slice":=⟨os,a,b⟩;unfold Dy
 try with_reducible refine Ox ?_
 first | refine Md (Mq ?_) | skip
 refine Md (g? z.typeIs ⋯ ?_);refine Md (NF (name:=Nj "__getitem__") z.typeIs NT
  (NZ NT z.typeIs entry_tuple_getitem ?_ (_i _ _)))
 show wpAny _ _ (Builtin.Tuple.tupleItemsOf (.ref t) >>= _) _ _ s;refine Md<|Sw z ?_;refine Md<|RZ d ?_;rw[UJ ⋯];refine Md<|Jo Y Z pu ?_;have e : ¬((((eL items.size 0 lo:Nat):Int)==0 && (1:Int)==1 && (eL items.size items.size C - eL items.size 0 lo)==items.size)=eA):=by intro q;rw[My,My]at q;have i:((eL items.size 0 lo:Nat):Int)=0:=eq_of_beq q.1.1;have j:eL items.size items.size C - eL items.size 0 lo=items.size:=eq_of_beq q.2;exact S ⟨by omega,by omega⟩
 show wpAny _ _ (if (((eL items.size 0 lo:Nat):Int)==0 && (1:Int)==1 && (eL items.size items.size C - eL items.size 0 lo)==items.size)=eA then _ else _) _ _ s;rw[UY e,nB]
 first
  | exact Md (m:=Oh _)<|Oa (Mq ⟨_,rfl,Mq h⟩) I
  | exact Md (m:=Oh _)<|Oa (Md<|Mq<|Mq ⟨_,rfl,Mq h⟩) I
  | exact Md<|Md (m:=Oh _)<|Oa (Mq<|Mq ⟨_,rfl,Mq h⟩) I
  | exact Md<|Md (m:=Oh _)<|Oa (Mq ⟨_,rfl,Mq h⟩) I
end
end HT
namespace L2
open PySem PySem.Spec PyProof.Rows
abbrev TO:=St->Hp->(Option Int->Hp->Prop)->Prop
noncomputable def PO(X:Cx)(e:Option fA)(t:TO):Prop:=
 ∀(a:UQ) (s:f6) (b:St) (H:Hp) (Q:Option Int->Hp->Prop),Inv X a b H s->t b H Q->
  wpAny (f7 X.prog X.w) X.A (evalPart e X.env) (λu f=>∃o d,Inv X a b d f/\Ds u o/\Q o d) X.xe s
def sy:TO:=λ_ H Q=>Q eF H
def FP(t:TE):TO:=λb H Q=>t b H λx a=>∃i,x = .int i/\Q (ej i) a
section
variable{X:Cx}{e:fA}{te:TE}{lo hi:Option fA}{tl th:TO}{pos p2:h8}
theorem tR:PO X eF sy:=by intro a s b H Q I h;rw[evalPart_none];exact Mq ⟨eF,H,I,.none,h⟩
theorem tP(h:PE X e te):PO X (ej e) (FP te):=by intro a s f H Q I d;rw[evalPart_some];refine gu (h a s f H _ I d) λu g z=>?_;obtain⟨x,b,O,U,Y⟩:=z;obtain⟨i,rfl,q⟩:=Y;obtain⟨t,rfl⟩:=U;exact⟨ej i,b,O,.int i t,q⟩
noncomputable def TK(X:Cx)(r:V->Option Int->Option Int->Hp->VK->Prop):Prop:=
 ∀(a:UQ) (s:f6) (d:St) (H:Hp) (x:V) (v z I:fh) (lo hi:Option Int) (b:fe) (Q:VK),Inv X a d H s->RelV x v->s.heap.IsSliceOf b z I .none->Ds z lo->Ds I hi->r x lo hi H Q->
  ∃T id,S6 (.type T) "__getitem__" = pure (ej (.builtin id))/\s.TypeIs v T/\wpAny (f7 X.prog X.w) X.A (Dy v (.ref b)) (EP X a d Q) X.xe s
noncomputable def _S(r:V->Option Int->Option Int->Hp->VK->Prop)(te:TE)(tl th:TO):TE:=λa H Q=>te a H λx b=>tl a b λl d=>th a d λu z=>r x l u z Q
theorem nE(S:TK X r)(C:PE X e te)(J:PO X lo tl)(Z:PO X hi th):PE X (.Subscript e (.Slice lo hi eF p2) pos) (_S r te tl th):=by intro a s d H Q I h;refine a_ (gu (C a s d H _ I h) λv L o=>?_);obtain⟨x,f,i,K,E⟩:=o;refine wpAny_Slice (gu (J a L d f _ i E) λO M ⟨l,g,j,y,F⟩=>gu (Z a M d g _ j F) λU z ⟨u,Y,k,B,G⟩=>?_);rw[evalPart_none];refine Mq ?_;have m:Inv X a d Y {z with heap:=z.heap.push {cls:= .type "slice",data:= .fields #[O,U,.none]}}:=k.kept (t':=z.toks) λb N q=>Mh _ q;obtain⟨T,id,n,t,p⟩:=S a {z with heap:=z.heap.push {cls:= .type "slice",data:= .fields #[O,U,.none]}} d Y x v O U l u z.heap.objs.size Q m K (Heap.IsSliceOf.new ..) y B G;show wpAny (f7 X.prog X.w) X.A (F' e (.Slice lo hi eF p2) v (.ref z.heap.objs.size)) (EP X a d Q) X.xe {z with heap:=z.heap.push {cls:= .type "slice",data:= .fields #[O,U,.none]}};exact tail_any (ops:=[.ref z.heap.objs.size,v]) t n p (by with_unfolding_all rfl)
noncomputable def uY(xs:List V)(lo hi:Option Int):List V:=(xs.drop<|HT.eL xs.length 0 lo).take (HT.eL xs.length xs.length hi - HT.eL xs.length 0 lo)
theorem WW(xs:List V)(lo hi:Option Int):(uY xs lo hi).length<=xs.length:=by unfold uY;rw[Rm,List.length_drop];omega
noncomputable def Ln(K:Mf):V->Option Int->Option Int->Hp->VK->Prop:=λx lo hi H Q=>∃a b,x = .ref a/\i5 K H a b/\
 ¬(HT.eL b.length 0 lo=0/\HT.eL b.length b.length hi=b.length)/\∀p,H p=eF->Q (.ref p) (upd H p<|.tup<|uY b lo hi)
theorem Bb:TK X (Ln X.K):=by
 intro e s u H x v p t lo hi n Q I Y g k l h;obtain⟨a,d,rfl,j,i,q⟩:=h;cases Y;obtain⟨f,r,O,U⟩:=I.tuple j;have z:f.toArray.size=d.length:=by rw[Mw];exact r.length.symm
 refine⟨"tuple",_,NT.lookup,O.typeIs,?_⟩;refine HT.dM O g k l (by rw[z];exact i) ?_ (by rw[z];exact U);rw[z];refine⟨.ref s.heap.objs.size,_,I.laid (t':=s.toks) (o:= .tup (uY d lo hi)) (λb m q=>Mh _ q) (Mp _) ?_,rfl,q _ (I.g5.fresh (Mp _))⟩;exact⟨NQ (WW d lo hi) U,_,(r.drop (HT.eL d.length 0 lo)).take (HT.eL d.length d.length hi - HT.eL d.length 0 lo),C8.new _ _⟩
theorem gv.P5(r:gv xs us):us=[]↔xs=[]:=by
 cases r with
 | nil=>simp
 | cons _ _=>simp
end
noncomputable def E5(n:Nat)(i:Int):Option Nat:=if 0<=i then (if i<n then ej i.toNat else eF)else if -(n:Int)<=i then ej (i+n).toNat else eF
def Dc{C:Type}(xs:List C)(i:Int):Option C:=(E5 xs.length i).bind λj=>xs[j]?
theorem ix(h:E5 n i=ej j):seqIndex? i n=ej j/\j<n/\ -(n:Int)<=i/\i<n:=by
 unfold E5 at h;by_cases z:0<=i
 ·rw[UJ z]at h
  by_cases a:i<n
  ·rw[UJ a]at h
   have e:i.toNat=j:=Ng h;exact⟨by rw[C_ z a,e],by omega,by omega,a⟩
  ·rw[UY a]at h;cases h
 ·rw[UY z]at h
  by_cases a : -(n:Int)<=i
  ·rw[UJ a]at h
   have e:(i+n).toNat=j:=Ng h;exact⟨by rw[C' ⋯ a,e],by omega,a,by omega⟩
  ·rw[UY a]at h;cases h
theorem W4(h:Dc xs i=ej v) : ∃j,seqIndex? i xs.length=ej j/\xs[j]? = ej v/\j<xs.length/\ -(xs.length:Int)<=i/\i<xs.length:=by
 unfold Dc at h;cases e:E5 xs.length i with
 | none=>rw[e]at h;cases h
 | some j=>
  rw[e]at h;obtain⟨a,b,z,I⟩:=ix e;exact⟨j,a,h,b,z,I⟩
def ZY(b:fA):Prop:=∀o i,UN b eK o i=operate [o,i] (Dy o i)
noncomputable def DM(X:Cx)(r:R2):Prop:=
 ∀(b z:fA) (a:UQ) (s:f6) (d:St) (H:Hp) (x y:V) (v u:fh) (Q:VK),Inv X a d H s->RelV x v->RelV y u->r x y H Q->
  UN z eK v u=operate [v,u] (Dy v u)->wpAny (f7 X.prog X.w) X.A (F' b z v u) (EP X a d Q) X.xe s
noncomputable def U6(X:Cx)(id:String)(r:V->List V->Hp->VK->Prop):Prop:=
 ∀(a:UQ) (s:f6) (e:St) (H:Hp) (x:V) (d:List V) (v:fh) (b:List fh) (Q:VK),Inv X a e H s->RelV x v->gv d b->r x d H Q->
  wpAny (f7 X.prog X.w) X.A (call (.builtin id) (v::b)) (EP X a e Q) X.xe s
section
variable{X:Cx}{a b:fA}{ta tb:TE}{pos:h8}
theorem DM.or(h:DM X r)(h':DM X r'):DM X (λx y H Q=>r x y H Q\/r' x y H Q):=by
 intro a z b s d H x y v u Q I O U q Y;rcases q with q | q
 ·exact h a z b s d H x y v u Q I O U q Y
 ·exact h' a z b s d H x y v u Q I O U q Y
theorem nF(z:DM X r)(C:PE X a ta)(O:PE X b tb)(U:ZY b):PE X (.Subscript a b pos) (N7 r ta tb):=by intro d s j H Q I h;exact a_<|Hl C O I h λv u i x y e Y f g q=>z a b d i j e x y v u Q Y f g q<|U _ _
noncomputable def Lr(K:Mf):R2:=λx y H Q=>∃p a i v,x = .ref p/\y = .int i/\h9 K H p a/\Dc a i=ej v/\Q v H
noncomputable def Lp(K:Mf):R2:=λx y H Q=>∃p a i v,x = .ref p/\y = .int i/\i5 K H p a/\Dc a i=ej v/\Q v H
noncomputable def Lq:R2:=λx y H Q=>∃z i c,x = .str z/\y = .int i/\z.length<=hB/\Dc z.cps.toList i=ej c/\Q (.str ⟨#[c]⟩) H
theorem Um:DM X (Lr X.K):=by
 intro e L a s k H x y v u Q I F G h U;obtain⟨p,R,i,z,rfl,rfl,E,B,q⟩:=h;cases F;obtain⟨t,rfl⟩:=G;obtain⟨l,r,d,P⟩:=I.list E;obtain⟨j,b,n,M,o,A⟩:=W4 B;obtain⟨w,Y,m⟩:=r.get n;have C:=r.length;have N:=QT;have f:EP X a k Q w s:=⟨z,H,I,m,q⟩;by_cases g:0<=i
 ·have O:i.toNat=j:=by
   rw[C_ g A]at b;exact Ng b
  exact item_listR d.isList g ⋯ (by rw[O];simpa using Y) f U
 ·have O:(i+(l.toArray.size:Int)).toNat=j:=by
   rw[C' ⋯ o]at b;rw[Mw,<- C];exact Ng b
  exact _Q (x:=w) d.isList.typeIs slot_list_getitem.lookup
   (wpAny_getItem_list_neg (Q:=λr J=>r=w/\EP X a k Q r J) d.isList ⋯ (by rw[Mw]<;>omega) ⋯ (by rw[O];simpa using Y) ⟨rfl,f⟩) U
theorem CD:DM X (Lp X.K):=by
 intro b C a s e H x y v u Q I O U h Y;obtain⟨p,N,i,z,rfl,rfl,A,n,q⟩:=h;cases O;obtain⟨t,rfl⟩:=U;obtain⟨E,r,d,M⟩:=I.tuple A;obtain⟨j,l,m,F,G,J⟩:=W4 n;obtain⟨w,k,f⟩:=r.get m;have o:=r.length;have L:=QT;have g:EP X a e Q w s:=⟨z,H,I,f,q⟩;exact _Q (x:=w) d.typeIs slot_tuple_getitem.lookup
  (getItem_tuple (j:=j) (Q:=λr B=>r=w/\EP X a e Q r B) d ⋯ ⋯ (by rw[Mw,<- o];exact l) (by simpa using k) ⟨rfl,g⟩) Y
theorem CF:DM X Lq:=by
 intro a o d s B H x y v u Q I O U h Y;obtain⟨z,i,c,rfl,rfl,w,m,q⟩:=h;obtain⟨t,rfl⟩:=O;obtain⟨A,rfl⟩:=U;obtain⟨j,b,g,p,k,l⟩:=W4 m;have n:z.cps.toList.length=z.length:=by simp[Str.length]
 rw[n]at b k l;have r:=QT;exact tail_any (M' s z t) slot_str_getitem.lookup (getItem_str (c:=c) (by
  have e:decide (i < -(2 ^ 63:Int))=eK:=decide_eq_false ⋯;have f:decide (i>=2 ^ 63)=eK:=decide_eq_false ⋯;rw[e,f,Bool.or_false]) (by rw[b];simpa using g) ⟨.str ⟨#[c]⟩,H,I.tok _,⟨_,rfl⟩,q⟩) Y
theorem du(z:List fh)(n j:Nat)(u:fh):MZ (·.setIfInBounds j u) {cls:= .type "list",data:= .seq z.toArray n} = {cls:= .type "list",data:= .seq (z.set j u).toArray n}:=by simp[MZ]
theorem Inv.lst(I:Inv X pins σ H s)(h:H p=ej (.lst xs)) :
 ∃(O:List fh) (n:Nat),gv xs O/\s.heap.get? p=ej {cls:= .type "list",data:= .seq O.toArray n}/\xs.length<=hB:=by
 obtain⟨z,O,n,r,e⟩:=I.g5 p _ h;exact⟨O,n,r,e,z⟩
theorem Inv._C{C:UQ}{J:St}{H:Hp}{s:f6}{p:fe}{xs ys:List V}{z its':List fh}{n n':Nat}{f:pa->pa}(I:Inv X C J H s)(h:H p=ej (.lst xs))
 (U:s.heap.get? p=ej {cls:= .type "list",data:= .seq z.toArray n}) (O:f {cls:= .type "list",data:= .seq z.toArray n} = {cls:= .type "list",data:= .seq its'.toArray n'}) (r:gv ys its') (Y:ys.length<=hB) (t:Nat) :
 Inv X C J (upd H p<|.lst ys) {s with heap:=s.heap.update p f,toks:=t}:=by
 have e:(s.heap.update p f).get? p=ej {cls:= .type "list",data:= .seq its'.toArray n'}:=by rw[Rj f U (by rw[O]<;>rfl),O]
 refine I.write (x:=p) (e:=p) (by rw[h];trivial) (.inl rfl) (λb u a q=>(NR _ _<|MV a).trans q) ⟨_,e⟩ ?_;exact⟨Y,its',n',r,e⟩
noncomputable def Gg:V->V->V->Hp->(Hp->Prop)->Prop:=λo i v H Q=>∃p a k j,o = .ref p/\i = .int k/\H p=ej (.lst a)/\E5 a.length k=ej j/\Q (upd H p<|.lst<|a.set j v)
theorem Jz:IR X Gg:=by
 intro a s C H o i v J G u Q I y x A h;obtain⟨p,B,k,j,rfl,rfl,Y,m,q⟩:=h;cases y;obtain⟨t,rfl⟩:=x;obtain⟨e,n,r,z,w⟩:=I.lst Y;obtain⟨b,E,g,l⟩:=ix m;have O:=r.length;have F:=QT;have d:Inv X a C (upd H p<|.lst<|B.set j v) {s with heap:=s.heap.update p (MZ (·.setIfInBounds j u))}:=
  I._C Y z (du e n j u) (r.set A j) (by rw[List.length_set];exact w) s.toks
 by_cases f:0<=k
 ·have U:k.toNat=j:=by
   rw[C_ f l]at b;exact Ng b
  exact PySem.W.ki_setAt z f ⋯ (by rw[Mw,<- O];exact l) (by rw[U];exact⟨_,d,q⟩)
 ·have U:(k+(e.toArray.size:Int)).toNat=j:=by
   rw[C' ⋯ g]at b;rw[Mw,<- O];exact Ng b
  exact PySem.W.ki_setBack z ⋯ (by rw[Mw,<- O];exact g) ⋯ (by rw[U];exact⟨_,d,q⟩)
def XR:V->Bool
 | .gm=>eA
 | .bl _=>eA
 | .int _=>eA
 | .str _=>eA
 | _=>eK
noncomputable def Dx:V->V->Bool
 | .gm,.gm=>eA
 | .bl a,.bl b=>a==b
 | .bl a,.int b=>(if a then 1 else 0)==b
 | .int a,.bl b=>a==(if b then 1 else 0)
 | .int a,.int b=>a==b
 | .str a,.str b=>a==b
 | _,_=>eK
theorem CT(I:RelV y u)(z:RelV x v)(U:XR y=eA)(O:XR x=eA):NO A s u v (Dx y x):=by
 cases y with
 | gm=>
  cases I;cases x with
  | gm=>cases z;exact NO.same _
  | bl b=>cases z;exact NO.none_bool b
  | int b=>obtain⟨t,rfl⟩:=z;exact NO.none_int b t
  | str b=>obtain⟨t,rfl⟩:=z;exact NO.none_str b t
  | _=>exact absurd (show eK=eA from O) MW
 | bl a=>
  cases I;cases x with
  | gm=>cases z;exact NO.bool_none a
  | bl b=>cases z;exact NO.bool_bool a b
  | int b=>obtain⟨t,rfl⟩:=z;exact NO.bool_int a b t
  | str b=>obtain⟨t,rfl⟩:=z;exact NO.bool_str a b t
  | _=>exact absurd (show eK=eA from O) MW
 | int a=>
  obtain⟨d,rfl⟩:=I;cases x with
  | gm=>cases z;exact NO.int_none a d
  | bl b=>cases z;exact NO.int_bool a d b
  | int b=>obtain⟨t,rfl⟩:=z;exact Po a d b t
  | str b=>obtain⟨t,rfl⟩:=z;exact NO.int_str a d b t
  | _=>exact absurd (show eK=eA from O) MW
 | str a=>
  obtain⟨d,rfl⟩:=I;cases x with
  | gm=>cases z;exact NO.str_none a d
  | bl b=>cases z;exact NO.str_bool a d b
  | int b=>obtain⟨t,rfl⟩:=z;exact NO.str_int a d b t
  | str b=>obtain⟨t,rfl⟩:=z;exact NO.str_str a d b t
  | _=>exact absurd (show eK=eA from O) MW
 | _=>exact absurd (show eK=eA from U) MW
noncomputable def wo(x:V)(u:fh):Bool:=match u with
 | .none=>Dx .gm x
 | .bool b=>Dx (.bl b) x
 | .int i _=>Dx (.int i) x
 | .str z _=>Dx (.str z) x
 | _=>eK
theorem rJ(r:RelV y u)(f:XR y=eA):wo x u=Dx y x:=by
 cases y with
 | gm=>cases r;rfl
 | bl b=>cases r;rfl
 | int i=>obtain⟨t,rfl⟩:=r;rfl
 | str z=>obtain⟨t,rfl⟩:=r;rfl
 | _=>exact absurd (show eK=eA from f) MW
theorem Xv : ∀{xs:List V} {us:List fh},gv xs us->xs.all XR=eA->us.any (wo x)=xs.any λy=>Dx y x
 | _,_,.nil,_=>rfl
 | y::xs,u::us,.cons r t,f=>by rw[Rq,My]at f;rw[PN,PN,rJ r f.1,Xv t f.2]
theorem Zg(I:RelV x v)(O:XR x=eA) : ∀{xs:List V} {us:List fh},gv xs us->xs.all XR=eA->∀u∈us,NO A s u v (wo x u)
 | _,_,.nil,_=>λu z=>by cases z
 | y::xs,u::us,.cons r t,f=>λU z=>by
  rw[Rq,My]at f;rcases Mu.mp z with rfl | z
  ·rw[rJ r f.1];exact CT r I f.1 O
  ·exact Zg I O t f.2 U z
def G4(x:V)(xs:List V):Bool:=xs.any λy=>Dx y x
noncomputable def B_(K:Mf)(z:Bool):R2:=λx y H Q=>∃p a,y = .ref p/\(h9 K H p a\/i5 K H p a)/\XR x=eA/\a.all XR=eA/\Q (.bl<|if z then !G4 x a else G4 x a) H
theorem gJ:k5 X (oe .In) (B_ X.K eK):=by
 intro d s i H x y v u Q I U f h;obtain⟨p,g,rfl,z,Y,fs,q⟩:=h;cases f;rcases z with z | z
 ·obtain⟨O,r,b,e⟩:=I.list z
  refine SeqAt.in_listAt (wo x) b.isList (λw a=>Zg U Y r fs w<|by simpa using a) ⟨.bl _,H,I,rfl,?_⟩;rw[show O.toArray.any (wo x)=O.any (wo x)by simp,Xv r fs];exact q
 ·obtain⟨O,r,b,e⟩:=I.tuple z
  refine SeqAt.in_tupleAt (wo x) b (λw a=>Zg U Y r fs w<|by simpa using a) ⟨.bl _,H,I,rfl,?_⟩;rw[show O.toArray.any (wo x)=O.any (wo x)by simp,Xv r fs];exact q
theorem Vd:k5 X (oe .NotIn) (B_ X.K eA):=by
 intro d s i H x y v u Q I U f h;obtain⟨p,g,rfl,z,Y,fs,q⟩:=h;cases f;rcases z with z | z
 ·obtain⟨O,r,b,e⟩:=I.list z
  refine SeqAt.notIn_listAt (wo x) b.isList (λw a=>Zg U Y r fs w<|by simpa using a) ⟨.bl _,H,I,rfl,?_⟩;rw[show O.toArray.any (wo x)=O.any (wo x)by simp,Xv r fs];exact q
 ·obtain⟨O,r,b,e⟩:=I.tuple z
  refine SeqAt.notIn_tupleAt (wo x) b (λw a=>Zg U Y r fs w<|by simpa using a) ⟨.bl _,H,I,rfl,?_⟩;rw[show O.toArray.any (wo x)=O.any (wo x)by simp,Xv r fs];exact q
theorem VP:Jv X (.builtin "len") (λxs H Q=>∃p ys,xs=[.ref p]/\(h9 X.K H p ys\/i5 X.K H p ys)/\Q (.int ys.length) H):=by
 intro d s i H xs g Q I r h;obtain⟨p,ys,rfl,z,q⟩:=h;obtain⟨u,rfl,U⟩:=vg r;cases U;have f:=QT;rcases z with z | z
 ·obtain⟨Y,b,a,e⟩:=I.list z
  have O:=b.length;exact Calls.call_len_list a.isList (by simp only[Mw]<;>omega) ⟨.int ys.length,H,I.tok _,⟨s.toks+1,by rw[Mw,O]⟩,q⟩
 ·obtain⟨Y,b,a,e⟩:=I.tuple z
  have O:=b.length;exact len_tuple a (by simp only[Mw]<;>omega) ⟨.int ys.length,H,I.tok _,⟨s.toks+1,by rw[Mw,O]⟩,q⟩
theorem VO:Jv X (.builtin "len") (λxs H Q=>∃z,xs=[.str z]/\z.length<=hB/\Q (.int z.length) H):=by intro a s e H xs d Q I r h;obtain⟨z,rfl,O,q⟩:=h;obtain⟨u,rfl,t,rfl⟩:=vg r;have b:=QT;exact len_str ⋯ ⟨.int z.length,H,I.tok _,⟨_,rfl⟩,q⟩
theorem VN:Jv X (.type "list") (λxs H Q=>∃p ys,xs=[.ref p]/\(h9 X.K H p ys\/i5 X.K H p ys)/\∀l,H l=eF->Q (.ref l) (upd H l (.lst ys))):=by
 intro g s B H xs C Q I r h;obtain⟨p,ys,rfl,U,q⟩:=h;obtain⟨u,rfl,A⟩:=vg r;cases A;have t : ∀(z:List fh),gv ys z->ys.length<=hB->∀(a:gB) (O:Nat),(∀b x,s.heap.get? b=ej x->a.get? b=ej x)->
  a.get? s.heap.objs.size=ej {cls:= .type "list",dict:=eF,data:= .seq z.toArray O,slots:=#[]}->EP X g B Q (.ref s.heap.objs.size) {s with heap:=a}:=λz d Y a O f e=>
  ⟨.ref s.heap.objs.size,_,I.laid (t':=s.toks) f (Mp _) (show nh X.prog X.w _ a _ (.lst ys)from⟨Y,z,O,d,e⟩),rfl,q _<|I.g5.fresh<|Mp _⟩
 rcases U with U | U
 ·obtain⟨z,d,m,Y⟩:=I.list U
  have y:=d.length;obtain⟨o,k,i,n,j⟩:=m.isList;exact call_list_seq p (.inl rfl) k i j (λa O f e=>t z d Y a O f e) (by simp only[Mw]<;>omega)
 ·obtain⟨z,d,m,Y⟩:=I.tuple U
  have y:=d.length;obtain⟨o,k,i,n,j⟩:=m;exact call_list_seq p (.inr rfl) k i j (λa O f e=>t z d Y a O f e) (by simp only[Mw]<;>omega)
theorem Yn:Jv X (.type "tuple") (λxs H Q=>∃p ys,xs=[.ref p]/\((h9 X.K H p ys/\∀l,H l=eF->Q (.ref l) (upd H l (.tup ys)))\/(i5 X.K H p ys/\Q (.ref p) H))):=by
 intro a s i H xs t Q I r h;obtain⟨p,ys,rfl,h⟩:=h;obtain⟨u,rfl,m⟩:=vg r;cases m;rcases h with⟨z,q⟩ | ⟨z,q⟩
 ·obtain⟨O,g,f,U⟩:=I.list z
  have n:=g.length;refine call_tuple_list f.isList (λd k=>?_) (by simp only[Mw]<;>omega);have Y:Inv X a i H {s with heap:=d}:=I.kept (t':=s.toks) k;have j:Inv X a i (upd H d.objs.size (.tup ys)) {s with heap:=d.push {cls:= .type "tuple",data:= .seq O.toArray}}:=
   Y.laid (t':=s.toks) (λb o e=>Mh _ e) (Mp _) (show nh X.prog X.w _ _ _ (.tup ys)from⟨U,O,g,C8.new _ _⟩)
  exact⟨.ref d.objs.size,_,j,rfl,q _<|Y.g5.fresh<|Mp _⟩
 ·obtain⟨O,g,f,U⟩:=I.tuple z
  exact call_tuple_same f ⟨.ref p,H,I,rfl,q⟩
noncomputable def L_(K:Mf)(T:String)(x:V)(H:Hp):Prop:=match x with
 | .str _=>T = "str"
 | .int _=>T = "int"
 | .ref p=>(T = "list"/\∃b,h9 K H p b)\/(T = "tuple"/\∃o,K.lookup p=ej o/\o.cls = .type "tuple"/\o.dict=eF)\/
  (T = "dict"/\((∃a,H p=ej (.dK a))\/∃a,H p=ej (.dT a)))\/(T = "set"/\∃S n,H p=ej (.set S n))
 | _=>False
theorem AL(I:Inv X pins σ H s)(r:RelV x v)(ty:L_ X.K T x H) :
 s.TypeIs v T/\∀a,v = .ref a->∃Y,s.heap.get? a=ej Y/\Y.dict=eF:=by
 cases x with
 | str z=>
  obtain⟨t,rfl⟩:=r;cases (show T = "str" from ty);exact⟨M' s z t,λ_ e=>nomatch e⟩
 | int i=>
  obtain⟨t,rfl⟩:=r;cases (show T = "int" from ty);exact⟨Tr s i t,λ_ e=>nomatch e⟩
 | ref p=>
  cases r;rcases ty with⟨rfl,l,j⟩ | ⟨rfl,o,O,h,d⟩ | ⟨rfl,O⟩ | ⟨rfl,S,n,O⟩
  ·obtain⟨k,_,g,_⟩:=I.list j
   refine⟨g.isList.typeIs,λa e=>?_⟩;cases e;obtain⟨o,n,e,c,d,_⟩:=g;exact⟨o,e,d⟩
  ·refine⟨⟨o,I.m6 p o O,h⟩,λa e=>?_⟩
   cases e;exact⟨o,I.m6 _ o O,d⟩
  ·have z : ∃o,s.heap.get? p=ej o/\o.ExactDict:=by
    rcases O with⟨f,O⟩ | ⟨f,O⟩
    ·obtain⟨_,_,_,_,o,_,_,e,b,_⟩:=I.g5 p _ O
     exact⟨o,e,b⟩
    ·obtain⟨_,_,_,_,o,_,_,e,b,_⟩:=I.g5 p _ O
     exact⟨o,e,b⟩
   obtain⟨o,e,b⟩:=z;refine⟨⟨o,e,b.1⟩,λa U=>?_⟩;cases U;exact⟨o,e,b.2.1⟩
  ·obtain⟨o,_,_,_,e,b,_⟩:=I.g5 p _ O
   refine⟨⟨o,e,b.1⟩,λa U=>?_⟩;cases U;exact⟨o,e,b.2.1⟩
 | _=>exact OK ty
noncomputable def F_(K:Mf)(T:String)(r:V->List V->Hp->VK->Prop)(to:TE)(t:TA):TE:=λb H Q=>to b H λx a=>L_ K T x a/\t b a λe d=>r x e d Q
variable{o e:fA}{es:List fA}{to:TE}{t:TA}{name:Str}{apos cpos:h8}{T id:String}{r:V->List V->Hp->VK->Prop}
theorem BX(Y:PlainAttrs T)(C:Slot T name id)(J:typeOf (.builtin id)=pure (.type "method_descriptor"))(hm:U6 X id r)(ho:PE X o to)(ha:PA X (e::es) t)
 (S:b_ o name X.env (fy o X.env)=fy o X.env:=by rfl)
 (Z:((vr cpos<|starEach (e::es) X.env).all (λx=> !x.1) && (c_ cpos<|keywordEach [] X.env).all (λx=>x.1.isSome)
   && decide ((e::es).length+([]:List L3).length+(if ([]:List L3).isEmpty then 0 else 1)<30))=eA:=by rfl)
 (a4:(apos.endLine==cpos.line)=eA:=by rfl) (hs:g8 (e::es) X.env=(eK,fy e X.env)::g8 es X.env:=by rfl) (a6:(vr cpos<|starEach es X.env).any (·.1)=eK:=by rfl) :
 PE X (.Call (.Attribute o name apos) (e::es) [] cpos) (F_ X.K T r to t):=by
 intro a s b H Q I h;refine wpAny_Call_method_late S Z a4 rfl<|gu (ho a s b H _ I h) λv p k=>?_;obtain⟨x,d,z,O,ty,l⟩:=k;obtain⟨i,j⟩:=AL z O ty;refine⟨T,id,Y,C,J,i,j,?_⟩;have U:=ha cpos a p b d _ z l;rw[hs]at U ⊢;refine Calls.callWith_builtin (by show(eK || (vr cpos<|starEach es X.env).any (·.1))=eK;rw[a6]<;>rfl)<|Calls.evalArgs_plain ?_;exact gu U λw u ⟨y,f,g,n,m⟩=>hm a u b f x y v w Q g O n m
end
noncomputable def O_(X:Cx)(id:String)(r:V->List V->Hp->VK->Prop):Prop:=
 ∀(a:UQ) (s:f6) (e:St) (H:Hp) (x:V) (d:List V) (v:fh) (b:List fh) (Q:VK),Inv X a e H s->RelV x v->gv d b->r x d H Q->
  wpAny (f7 X.prog X.w) X.A (call (.builtin id) (v::b)) (EP X a e Q) X.xe s
theorem gv.one : ∀{x:V} {us:List fh},gv [x] us->∃u,us=[u]/\RelV x u
 | _,_,.cons r .nil=>⟨_,rfl,r⟩
theorem gv.dropLast(h:gv xs us):gv xs.dropLast us.dropLast:=by
 induction h with
 | nil=>exact .nil
 | cons r t z=>
  cases t with
  | nil=>exact .nil
  | cons q a=>exact .cons r z
theorem gv.rep(h:gv xs us) : ∀k:Nat,gv (Ml k xs).flatten (Ml k us).flatten
 | 0=> .nil
 | k+1=>by rw[Ow,Ow,Pf,Pf];exact gv.append h<|gv.rep h k
theorem Xg(z:List fh) : ∀(k:Nat) (acc:List fh),
 Tb (λx1 I=>x1++I) acc.toArray (Ml k z.toArray)=(acc++(Ml k z).flatten).toArray
 | 0,acc=>by simp
 | k+1,acc=>by
  have e:acc.toArray++z.toArray=(acc++z).toArray:=by simp
  have O:(acc++z)++(Ml k z).flatten=acc++(Ml (k+1) z).flatten:=by rw[Ow,Pf,List.append_assoc]
  rw[<- O,<- Xg z k (acc++z),<- e,Ow,List.foldl_cons]
section
variable{X:Cx}{pins:UQ}{σ:St}{H:Hp}{s:f6}{l b:fe}{xs ys zs:List V}
theorem Inv.v_{z its':List fh}{n:Nat}{f:Array fh->Array fh}{t':Nat}(I:Inv X pins σ H s)(O:H l=ej (.lst xs))
 (e:s.heap.get? l=ej {cls:= .type "list",data:= .seq z.toArray n}) (U:f z.toArray=its'.toArray) (Y:gv ys its') (C:ys.length<=hB) :
 Inv X pins σ (upd H l<|.lst ys) {s with heap:=s.heap.update l<|MZ f,toks:=t'}:=by
 have q:=PySem.IsL.update e f;rw[U]at q;refine I.write (x:=l) (e:=l) (by rw[O];exact trivial) (.inl rfl) (λd u a b=>(NR s.heap (MZ f)<|MV a).trans b) ⟨_,q⟩ ?_;exact⟨C,its',_,Y,q⟩
theorem Inv.u_(I:Inv X pins σ H s)(O:gv ys z)(U:ys.length<=hB) :
 Inv X pins σ (upd H s.heap.objs.size (.lst ys)) {s with heap:=s.heap.push {cls:= .type "list",data:= .seq z.toArray},toks:=t'}:=
 I.laid (λ_ _ q=>Mh _ q) (Mp _) ⟨U,z,0,O,Mz _ rfl⟩
theorem Inv.fresh(I:Inv X pins σ H s):H s.heap.objs.size=eF:=I.g5.fresh<|Mp _
theorem Inv.G5(I:Inv X pins σ H s)(U:H l=ej (.lst xs)):xs.length<=hB/\∃(O:List fh) (n:Nat),gv xs O/\xs.length=O.length/\s.heap.get? l=ej {cls:= .type "list",data:= .seq O.toArray n}:=by obtain⟨z,O,n,r,e⟩:=I.g5 l _ U;exact⟨z,O,n,r,r.length,e⟩
theorem nU(h:n<=hB):Rr n=eK:=by unfold Rr;exact decide_eq_false ⋯
end
section
variable{X:Cx}
noncomputable def fS:V->List V->Hp->VK->Prop:=λx b H Q=>∃l a y,x = .ref l/\b=[y]/\H l=ej (.lst a)/\a.length<hB/\Q .gm (upd H l<|.lst<|a++[y])
theorem gW:O_ X "list.append" fS:=by intro a s m H x j v i Q I Y d h;obtain⟨l,k,y,rfl,rfl,O,g,q⟩:=h;cases Y;obtain⟨u,rfl,b⟩:=d.one;obtain⟨z,U,n,r,f,e⟩:=I.G5 O;refine Ro F.slot_list_append ⟨_,e,rfl⟩ F.entry_list_append (F.args_list_append_2 _ _) (PySem.list_append l U.toArray n u (by rw[Mw];omega)) ⟨e,?_⟩;refine⟨.gm,_,I.v_ (its':=U++[u]) O e ⋯ (r.append (.cons b .nil)) ?_,rfl,q⟩;rw[NM,OY];omega
noncomputable def Lo:R2:=λx y H Q=>∃l k a,x = .ref l/\y = .int k/\H l=ej (.lst a)/\ -(2 ^ 63)<=k/\k<2 ^ 63/\a.length*k.toNat<=hB/\
 ∀p,H p=eF->Q (.ref p) (upd H p<|.lst (Ml k.toNat a).flatten)
theorem WE(xs:List α)(k:Nat):(Ml k xs).flatten.length=k*xs.length:=by
 induction k with
 | zero=>simp
 | succ k z=>rw[Ow,Pf,NM,z,Nat.succ_mul,Nat.add_comm]
theorem Cd:k5 X (B7 .Mult) Lo:=by
 intro d s M H x y v u Q I E G h;obtain⟨l,k,L,rfl,rfl,B,w,A,b,q⟩:=h;cases E;obtain⟨t,rfl⟩:=G;obtain⟨z,O,n,r,C,e⟩:=I.G5 B;have f:O.toArray.size*k.toNat<=hB:=by rw[Mw,<- C];exact b
 have g : ¬O.toArray.size*k.toNat>(2 ^ 63 - 1)/8:=by
  have:(hB:Nat)<=(2 ^ 63 - 1)/8:=by decide
  omega
 have i : ¬(!Builtin.List.listFitsIndex k)=eA:=by rw[fitsIndex_both w A];exact MW
 have j : ¬Rr (O.toArray.size*k.toNat)=eA:=by rw[nU f];exact MW
 have o:Tb (λx1 Y=>x1++Y) #[] (Ml (if O.toArray.isEmpty=eA then 0 else k.toNat) O.toArray)=(Ml k.toNat O).flatten.toArray:=by
  have p : ∀m:Nat,Tb (λx1 Y=>x1++Y) #[] (Ml m O.toArray)=(Ml m O).flatten.toArray:=λm=>by have:=Xg O m [];rw[OX]at this;exact this
  rw[p];cases O with
  | nil=>simp
  | cons a K=>rw[UY ⋯]
 refine _Y (T:="list") (U:="int") ⋯ ⟨_,e,rfl⟩ (λJ=>Tr J k t) noFill_list_mul F.fills_int_mul SF repeat_list F.slot_int_index.lookup
  (Ro SF (Tr s k t) F.entry_int_rmul (F.args_int_rmul_2 _ _) (int___rmul___int_list k t l O.toArray n)
    ⟨e,rfl,⟨_,e,rfl⟩,Ro F.slot_list_mul ⟨_,e,rfl⟩ F.entry_list_mul (F.args_list_mul_2 _ _) (AutoListH.list___mul___list_int_3 l O.toArray n k t i g j) ⟨e,?_⟩⟩)
 rw[o];exact⟨.ref _,_,I.u_ (t':=s.toks) (r.rep k.toNat) (by rw[WE,Sx];exact b),rfl,q _ I.fresh⟩
end
end L2
namespace Att
open PySem PySem.W PySem.Calls PyProof.Rows
theorem QY : ∀(C:List Int) (vs:List fh),WellAll P h vs (C.map WData.int)->O4 vs C:=by
 intro C
 induction C with
 | nil=>
  intro vs w;rw[RK]at w;cases w;exact .nil
 | cons n C z=>
  intro vs w;rw[MT]at w;cases w with
  | cons a b=>
   cases a;exact .cons _ _<|z _ b
theorem fC{l:OpenLaw}{n:Nat}(S:l.most=ej n){P:Params}{h:gB}{args:List WData}{O:List fh}
 (U:l.row.toRowW.claim.pre args=eA) (J:WellAll P h O args) :
 ∃a vs C,O=[NS a]/\args=[WData.list (C.map WData.int)]/\h.get? a=ej {cls:= .type "list",data:= .seq vs.toArray}/\O4 vs C/\C.length<=n:=by
 have b:WShape.hasAll [] args [.list .int]=eA:=(pre_splitW U).1;have Y:l.pre.holds [] {args:=args}=eA:=(pre_splitW U).2;obtain⟨d,r,rfl,g,i⟩:=hasAllW_cons b;obtain rfl:=hasAllW_nil i;obtain⟨s,rfl,j⟩:=hasW_list g;obtain⟨C,rfl⟩:=items_int j;have e:C.length<=n:=by
  unfold OpenLaw.pre at Y;have z:(WTm.not<|.lt (.lit<|.int (n:Int))<|.len<|.arg 0).holds [] {args:=[.list (C.map .int)]}=eA:=by have z:=(holds_andW Y).1;rw[S]at z;exact z
  have I:=condW_of z<|w_not<|w_lt w_lit<|w_len_list<|w_arg rfl;rw[MF]at I;refine Nat.le_of_not_lt λq=>?_;have m:(n:Int)<((C.length:Nat):Int):=by omega
  first
   | (rw[decide_eq_true m]at I;exact absurd I ⋯)
   | (simp at I;omega)
 cases J with
 | cons o p=>
  cases p;cases o with
  | list k f=>exact⟨_,_,C,rfl,rfl,k,QY C _ f,e⟩
theorem gj(l:OpenLaw)(args:List WData):l.row.toRowW.claim.post args (.bool eA) args=eA:=
 postW_of (r:=l.row.toRowW) (X:=(eA==eA))
  (show WShape.has [] (.bool eA) .bool=eA by first | rfl | decide | simp[WShape.has,WShape.arms,WShape.armsAll])
  (show(WTm.eq .res<|.lit<|.bool eA).value [] {args:=args,res:=ej (.bool eA),after:=args}=ej (.bool<|true==eA)from w_eq_bool (w_res rfl) w_lit) rfl
theorem Ag{l:OpenLaw}{n:Nat}{q:l6}{O:List Str}{U:(Str->Option fh)->gB->Prop}{YP:i8->gB->Prop}{d:DefRec}
 (hn:l.most=ej n) (a2:d.params.defaults=[])
 (call : ∀(w:i8) (rb z:f6) (S mb:UZ) (J:fe) (o:pa) (pm I C:fh) (a:fe) (vs:List fh) (Z:List Int),
   Ground q O [] U w rb S mb z.heap->YP w z.heap->
   z.heap.get? J=ej o->o.data = .func (docDef d.name d.params d.body d.scope pm I C)->z.heap.CodeRec I d.name->S d.name=ej (.ref J)->
   z.heap.get? a=ej {cls:= .type "list",data:= .seq vs.toArray}->O4 vs Z->Z.length<=n->z.gens = #[]->
   codeAny (f7 l.prog w) E1 (.call (.ref J) ⟨[.ref a],[]⟩) (λr s'=>r = .ok (.ret<|.bool eA)/\OldK z.heap s'.heap/\s'.os=z.os/\DI s'.gens) z) :
 WalkO q O U YP l.row.toRowW d [] (λf vs=>PySem.call f vs):=by
 intro w rb z S mb G Y J o pm I C s kV E y g e h A b H as i K L j M;obtain rfl:s = .none:=Dflts.none e a2;obtain rfl:kV = .none:=Dflts.noKw e;obtain⟨a,vs,Z,rfl,rfl,k,m,p⟩:=fC hn i j;refine enter_call<|SK (call w rb z S mb J o pm I C a vs Z G Y E (fd_plain y) g h k m p A) λr s' F=>?_;obtain⟨rfl,t,u,x⟩:=F;exact⟨.inl ⟨.bool eA,.bool eA,[],rfl,λ_=>rfl,.bool eA,gj l _,λ_=>⟨Pg.nil,λ_ B=>(nomatch B)⟩⟩,t,u,x⟩
end Att
namespace L2
open PySem PySem.Spec PyProof.Rows
theorem wQ : ∀{vs:List fh} {C:List Int},O4 vs C->gv (C.map V.int) vs
 | _,_,.nil=> .nil
 | _,_,.cons n t h=> .cons ⟨t,rfl⟩ (wQ h)
def FJ(H:Hp):Prop:=∀b,H b=eF\/∃o a,H b=ej (.A8 o<|.lst a)
theorem oq{P:l6}{w:i8}{K:Mf}{J mb:UZ}{CX:B0}{k:Nat}{fa a:fe}{fd:u0}{x:Str}{sp:Sp}{I:f6}{vs:List fh}{S:List Int}
 (KX:K.In I.heap) (a3:I.heap.Ns xb J) (O:I.heap.Ns f_ mb) (ac : ∀x:Str,x ≠ "__name__"->mb x=Dd x) (am:I.heap.NoLimit) (hg:I.gens = #[])
 (Z:I.heap.get? a=ej {cls:= .type "list",data:= .seq vs.toArray}) (hi:O4 vs S) (hl:S.length<=hB) (hr:qs k E1)
 (F : ∀base:gB,K.In base->base.Ns xb J->uw P w K J base CX k fa fd [x] sp) (ar : ∀(s:f6) (u:fh),O2 s fd ⟨[u],[]⟩ [(x,u)])
 (as : ∀H:Hp,FJ H->h9 K H a (S.map V.int)->sp [.ref a] H (λv _=>v = .bl eA) λ_ _ _=>False)
 (ax : ∀H e C,CX [] H I (λ_ _ _=>False) e C->False) :
 codeAny (f7 P w) E1 (.call (.ref fa) ⟨[.ref a],[]⟩) (λr C=>r = .ok (.ret<|.bool eA)/\OldK I.heap C.heap/\C.os=I.os/\DI C.gens) I:=by
 have E:=wQ hi;have G:=hi.length;have p : ∀H:Hp,FJ H->h9 K H a (S.map V.int)->n6 P w H I.heap->(∀b,H b≠eF->b=a)->(H a≠eF->K.lookup a=eF)->
  codeAny (f7 P w) E1 (.call (.ref fa) ⟨[.ref a],[]⟩) (λr C=>r = .ok (.ret<|.bool eA)/\OldK I.heap C.heap/\C.os=I.os/\DI C.gens) I:=by
  intro H B hS j A X;have f : ∀{b:fe} {o:pa},I.heap.get? b=ej o->H b=eF->(oI I.heap H).get? b=ej o:=λe n=>oH e n;have b7 : ∀{b:fe} {o:pa} {i:Array DictEntry} {U:Nat},I.heap.get? b=ej o->o.data = .dict i U->H b=eF:=λ{b o i U} e d=>by
   cases q:H b with
   | none=>rfl
   | some u=>
    have l:b=a:=A b (by rw[q];simp);subst l;rw[Z]at e;cases e;have M:Data.seq vs.toArray _=Data.dict i U:=d;cases M
  have a0 : ∀{b:fe} {m:UZ},I.heap.Ns b m->(oI I.heap H).Ns b m:=λ{b m} ⟨o,i,U,e,d,r⟩=>⟨o,i,U,f e<|b7 e d,d,r⟩;have t:K.In (oI I.heap H):=λb o e=>f (KX b o e) (by
   cases q:H b with
   | none=>rfl
   | some u=>
    have l:b=a:=A b (by rw[q];simp);subst l;rw[X (by rw[q];simp)]at e;cases e)
  have hM:Mod K J (oI I.heap H):=⟨t,a0 a3,⟨mb,a0 O,ac⟩,let ⟨mc,T,W⟩:=am;⟨mc,a0 T,W⟩⟩;have N:Dq P w K J (oI I.heap H) E1 [] I H:=⟨rfl,hM,λb o e=>ur e,Nat.le_of_eq<|iF _ _,trivial,λb O=>absurd (show b∈([]:List fe)from O) ⋯,j,.of_eq hg⟩;refine SK ((F _ t<|a0 a3).run E1 [] I H ⟨[.ref a],[]⟩ [.ref a] [.ref a] _ _ hr N (ar I<|.ref a) (.cons rfl .nil) (as H B hS)) λr C h=>?_;cases r with
  | error e=>exact(ax H e C h).elim
  | ok R=>
   cases R with
   | next=>exact OK h
   | brk=>exact OK h
   | cont=>exact OK h
   | ret u=>
    obtain⟨v,H',os,g,un,L,r',q⟩:=h;have q':v = .bl eA:=q;subst q';obtain rfl:u=SV eA:=r';refine⟨rfl,OldK.of_keep λb o e=>?_,os,g⟩;cases q:H b with
    | none=>exact un.keep b o e q (by intro z;exact absurd (show b∈([]:List fe)from z) ⋯) ⋯
    | some u=>
     rcases B b with z | ⟨ob,xs,z⟩
     ·rw[q]at z;cases z
     ·have z2:=un.DR b ob _ z
      obtain⟨y,_⟩:=j b _ z;obtain⟨Q,_⟩:=L b _ z2;rw[e]at y;cases y;exact Q
 cases hk:K.lookup a with
 | some o=>
  have e:=KX a o hk;rw[Z]at e;cases e;refine p (λ_=>eF) (λ_=> .inl rfl) (.inr ⟨_,vs.toArray,_,hk,rfl,rfl,rfl,by rw[Mw,G];exact hl,by simpa using E⟩) (λb u z=>by have Y:(eF:Option HO)=ej u:=z;cases Y) (λb z=>absurd rfl z) λz=>absurd rfl z
 | none=>
  refine p (λb=>if b=a then ej (.A8 {cls:= .type "list",data:= .seq vs.toArray} (.lst (S.map V.int)))else eF) (λb=>?_) (.inl (.inr ⟨{cls:= .type "list",data:= .seq vs.toArray},UJ rfl⟩)) (λb u z=>?_) (λb z=>?_) λ_=>hk
  ·by_cases O:b=a
   ·exact .inr ⟨_,_,UJ O⟩
   ·exact .inl<|UY O
  ·by_cases O:b=a
   ·have Y:=(UJ O).symm.trans z
    cases Y;subst O;exact⟨Z,by rw[MF];exact hl,vs,_,E,Z⟩
   ·have Y:=(UY O).symm.trans z
    cases Y
  ·by_cases O:b=a
   ·exact O
   ·exact absurd (UY O) z
abbrev DN{K:Mf}{h:gB}(_:K.In h):Mf:=K
theorem rW{l:PySem.W.OpenLaw}{n k:Nat}{q:l6}{U:List Str}{XP:(Str->Option fh)->gB->Prop}{z:i8->gB->Prop}{d:DefRec}{K:Params->Mf}{CX:i8->B0}{sp:i8->Sp}{x:Str}
 (hn:l.most=ej n) (a1:n<=hB) (a2:d.params.defaults=[]) (hr:qs k E1)
 (hY : ∀(w:i8) (h:gB),z w h->(K w.params).In h)
 (F : ∀(w:i8) (C:UZ) (J:fe) (h:gB),(K w.params).In h->h.Ns xb C->C d.name=ej (.ref J)->
   ∃Z:u0,(∀(s:f6) (u:fh),O2 s Z ⟨[u],[]⟩ [(x,u)])/\
    ∀base:gB,(K w.params).In base->base.Ns xb C->uw l.prog w (K w.params) C base (CX w) k J Z [x] (sp w))
 (a5 : ∀(w:i8) (H:Hp) (a:fe) (S:List Int),S.length<=n->FJ H->h9 (K w.params) H a (S.map V.int)->sp w [.ref a] H (λv _=>v = .bl eA) λ_ _ _=>False)
 (a6 : ∀(w:i8) (H:Hp) (s:f6) (e:fh) (s':f6),CX w [] H s (λ_ _ _=>False) e s'->False) :
 PySem.W.WalkO q U XP z l.row.toRowW d [] (λf vs=>PySem.call f vs):=by
 refine Att.Ag hn a2 λw j i C R J o X N t a vs S G Y Q P M m p r I L=>?_;have O:=hY w _ Y;obtain⟨Z,E,y⟩:=F w C J _ O G.T.g m;exact oq O G.T.g G.T.b G.T.builtins G.T.nolimit L p r (NQ I a1) hr y E (λH A B=>a5 w H a S I A B) λH e s'=>a6 w H i e s'
theorem ED{l:PySem.W.OpenLaw}{n k:Nat}{q:l6}{I:List Str}{O:(Str->Option fh)->gB->Prop}{z:i8->gB->Prop}{d:DefRec}{K:Params->Mf}{CX:B0}{sp:Mf->Sp}{x:Str}
 (hn:l.most=ej n) (U:n<=hB) (Y:d.params.defaults=[]) (hr:qs k E1)
 (hY : ∀(w:i8) (h:gB),z w h->(K w.params).In h)
 (F : ∀(w:i8) (C:UZ) (Z:fe) (h:gB),(K w.params).In h->h.Ns xb C->C d.name=ej (.ref Z)->
   ∃fd:u0,(∀(s:f6) (u:fh),O2 s fd ⟨[u],[]⟩ [(x,u)])/\
    ∀base:gB,(K w.params).In base->base.Ns xb C->uw l.prog w (K w.params) C base CX k Z fd [x] (sp<|K w.params))
 (a2 : ∀(K:Mf) (H:Hp) (a:fe) (J:List Int),J.length<=n->FJ H->h9 K H a (J.map V.int)->sp K [.ref a] H (λv _=>v = .bl eA) λ_ _ _=>False)
 (a3 : ∀(H:Hp) (s:f6) (e:fh) (S:f6),CX [] H s (λ_ _ _=>False) e S->False) :
 PySem.W.WalkO q I O z l.row.toRowW d [] (λf vs=>PySem.call f vs):=
 rW (K:=K) (CX:=λ_=>CX) (sp:=λw=>sp<|K w.params) hn U Y hr hY F (λw H a J b g i=>a2 (K w.params) H a J b g i) λ_ H s e S=>a3 H s e S
noncomputable def Xm(s:m7):Arguments:=match s with
 | .FunctionDef _ a _ _ _ _ _ _ _ _=>a
 | _=>{posonlyargs:=[],args:=[],vararg:=eF,kwonlyargs:=[],kw_defaults:=[],kwarg:=eF,defaults:=[]}
noncomputable def yU(s:m7):List m7:=match s with
 | .FunctionDef _ _ b _ _ _ _ _ _ _=>b
 | _=>[]
noncomputable def jX(s:m7):jn:=match s with
 | .FunctionDef _ _ _ _ _ _ a _ _ _=>a
 | _=>{kind:= .function,names:=[],isGenerator:=eK,isCoroutine:=eK}
abbrev u7:B0:=λ_ _ _ _ _ _=>False
abbrev E0:XK:=λ_ _ _=>False
theorem Ca:lT u7 X E0:=λ_ _ _ _ _ _ _ h=>h.elim
structure D5(K:Mf)(x qual:Str)(st:m7)(f:fe)(fd:u0):Prop where
 ex : ∃(oc:fh) (od:Option fe) (kV doc pm:fh) (an:Option fe) (h_ ct:fh) (Uw:Array (Option fh)),
  fd=PY x qual (Xm st) (yU st) (jX st) .none kV doc pm an h_ ct/\K.lookup f=ej ⟨oc,od,.func fd,Uw⟩/\So K h_ qual=eA
 kp:RD K (.ref f)=eA
section
variable{P:l6}{w:i8}{K:Mf}{mg:UZ}{base:gB}
theorem D5.ok{x qual:Str}{st:m7}{f:fe}{J:u0}{N ps:List Str}{k:Nat}{sp:Sp}(F:D5 K x qual st f J)(S:I8 N ps (jX st))(len : ∀vs H Q E,sp vs H Q E->vs.length=ps.length)
 (z : ∀(C:fh) (A:o6) (outer:List ro) (s:f6) (H:Hp) (vs:List V) (Q:VK) (E:XK),qs k (A.deeper<|envOfC qual (jX st) s.heap.objs.size f C)->sp vs H Q E->
   ∃t,u9 (uW u7 P w K mg base N qual (jX st) f C A outer s H E).M6 (yU st) t/\t {nx:=λ_ H'=>Q .gm H',rt:=Q} (J0 N vs) H):uw P w K mg base u7 (k+1) f J ps sp:=by
 obtain⟨g,i,kV,a,j,d,C,e,b,rfl,lk,I⟩:=F.ex;refine Ha lk I S len λA outer s H vs Q E O U=>?_;obtain⟨t,h,q⟩:=z C A outer s H vs Q E O U;exact⟨t,h.M6,q⟩
theorem CP{x qual:Str}{st:m7}{f:fe}{Y:fh}{Z O:Option fe}{J:Array (Option fh)}{kV I S C ct:fh}(l:K.lookup f=ej ⟨Y,Z,.func<|PY x qual (Xm st) (yU st) (jX st) .none kV I S O C ct,J⟩)
 (c:So K C qual=eA) (k:RD K (.ref f)=eA):D5 K x qual st f (PY x qual (Xm st) (yU st) (jX st) .none kV I S O C ct):=⟨⟨Y,Z,kV,I,S,O,C,ct,J,rfl,l,c⟩,k⟩
end
def i4(H H':Hp):Prop:=∀b o,H b=ej o->H' b=ej o
theorem i4.refl(H:Hp):i4 H H:=λ_ _ h=>h
theorem i4.trans(a:i4 H H1)(b:i4 H1 H2):i4 H H2:=λc o h=>b c o<|a c o h
theorem i4.free(e:i4 H H')(h:H' l=Option.none):H l=Option.none:=by
 cases q:H l with
 | none=>rfl
 | some o=>
  rw[e l o q]at h;cases h
theorem i4.seq{K:Mf}{H H':Hp}{a:fe}{xs:List V}(e:i4 H H')(h:h9 K H a xs):h9 K H' a xs:=by
 rcases h with(h | ⟨o,h⟩) | h
 ·exact .inl<|.inl<|e _ _ h
 ·exact .inl<|.inr ⟨o,e _ _ h⟩
 ·exact .inr h
noncomputable def Yy(cells:List (Str×fe)):List (Str×B8)->List (Str×fe)->List (Str×fe)
 | [],acc=>acc
 | (n,k)::r,acc=>Yy cells r<|if k==MY then (match cells.lookup n with | some c=>(n,c)::acc | none=>acc)else acc
theorem vC(f:Str×B8->List (Str×fe)->Sem (ForInStep<|List<|Str×fe))
 (I : ∀name kind O,f (name,kind) O=if kind==MY then (do let a <- cellOf env name;pure (.yield ((name,a)::O)))else pure (.yield O)) :
 ∀(names:List (Str×B8)) (acc:List (Str×fe)),(∀n,(n,MY)∈names->∃c,env.cells.lookup n=ej c)->
  forIn names acc f=(pure (Yy env.cells names acc):Sem _)
 | [],acc,_=>by rw[RO];rfl
 | (n,k)::r,acc,h=>by
  rw[Rz,I];have U : ∀n,(n,MY)∈r->∃c,env.cells.lookup n=ej c:=λm d=>h m<|Ms _ d;unfold Yy;by_cases z:(k==MY)=eA
  ·rw[UJ z,UJ z]
   have b:k=MY:=by simpa using z
   subst b;obtain⟨c,Y⟩:=h n Mx;have e:cellOf env n=pure c:=by unfold cellOf;rw[Y]
   rw[e,Y];exact vC f I r _ U
  ·rw[UY z,UY z]
   exact vC f I r acc U
theorem Ym(h : ∀n,(n,MY)∈scope.names->∃c,env.cells.lookup n=ej c) :
 closureFor scope env=pure (Yy env.cells scope.names []):=by
 simp only[closureFor];rw[vC (env:=env) _ (λb a z=>by cases hk:a==MY<;>simp[hk]) scope.names [] h];rfl
theorem ye
 (z:Q {scope:=scope,locals:=s.heap.objs.size,globals:=globals,cells:=A6 (s.heap.objs.size+1) scope.names cl,qual:=qual,func:=eF,code:=env.code,frame:=env.frame,builtins:=env.builtins}
   {s with heap:=DU (s.heap.push {cls:= .type "dict",data:= .dict #[]}) scope.names}) :
 wpAny M A (y_ scope globals cl [] qual eF .none (ej env)) Q E s:=by
 simp only[y_,Option.isSome_some,if_true];refine Md (wpAny_alloc ?_);refine Md (wpAny_layCells _ (λb a cells=>by cases _w:a==OL<;>simp[_w]) _ _ _ _ ?_);rw[show({s with heap:=s.heap.push {cls:= .type "dict",data:= .dict #[]}}:f6).heap.objs.size=s.heap.objs.size+1 from MX ..];exact Md (Mq (Mq z))
theorem aZ : ∀{names:List (Str×B8)} {acc:List (Str×fe)},(n,c)∈Yy cells names acc->(n,c)∈acc\/((n,MY)∈names/\cells.lookup n=ej c)
 | [],acc,h=> .inl h
 | (m,k)::r,acc,h=>by
  unfold Yy at h;rcases aZ h with g | ⟨h1,h2⟩
  ·clear h
   by_cases z:(k==MY)=eA
   ·rw[UJ z]at g
    have I:k=MY:=by simpa using z
    subst I;cases e:cells.lookup m with
    | none=>rw[e]at g;exact .inl g
    | some O=>
     rw[e]at g;rcases Mu.mp g with g | g
     ·cases g;exact .inr ⟨Mx,e⟩
     ·exact .inl g
   ·rw[UY z]at g;exact .inl g
  ·exact .inr ⟨Ms _ h1,h2⟩
theorem QQ : ∀{names:List (Str×B8)} {acc:List (Str×fe)},((acc.lookup n).isSome=eA\/((n,MY)∈names/\(cells.lookup n).isSome=eA))->((Yy cells names acc).lookup n).isSome=eA
 | [],acc,h=>by
  rcases h with h | ⟨h,_⟩
  ·exact h
  ·cases h
 | (m,k)::r,acc,h=>by
  unfold Yy;apply QQ;by_cases z:(k==MY)=eA
  ·rw[UJ z]
   have O:k=MY:=by simpa using z
   subst O;cases e:cells.lookup m with
   | none=>
    rcases h with h | ⟨h1,h2⟩
    ·exact .inl h
    ·rcases Mu.mp h1 with h1 | h1
     ·cases h1;rw[e]at h2;cases h2
     ·exact .inr ⟨h1,h2⟩
   | some U=>
    dsimp only;by_cases I:n=m
    ·subst I;left;simp
    ·rcases h with h | ⟨h1,h2⟩
     ·left;rw[NH];split<;>simp_all
     ·rcases Mu.mp h1 with h1 | h1
      ·cases h1;exact absurd rfl I
      ·exact .inr ⟨h1,h2⟩
  ·rw[UY z]
   rcases h with h | ⟨h1,h2⟩
   ·exact .inl h
   ·rcases Mu.mp h1 with h1 | h1
    ·cases h1;exact absurd rfl z
    ·exact .inr ⟨h1,h2⟩
theorem kx : ∀{names:List (Str×B8)} {k:Nat} {acc:List (Str×fe)},(n,c)∈A6 k names acc->(n,c)∈acc\/(k<=c/\(n,OL)∈names)
 | [],_,_,h=> .inl h
 | (m,kd)::r,k,acc,h=>by
  unfold A6 at h;split at h
  ·rename_i z
   have I:kd=OL:=by simpa using z
   subst I;rcases kx h with h | ⟨h1,h2⟩
   ·rcases Mu.mp h with h | h
    ·cases h;exact .inr ⟨Mp _,Mx⟩
    ·exact .inl h
   ·exact .inr ⟨by omega,Ms _ h2⟩
  ·rcases kx h with h | ⟨h1,h2⟩
   ·exact .inl h
   ·exact .inr ⟨h1,Ms _ h2⟩
theorem yS : ∀{names:List (Str×B8)} {k:Nat} {acc:List (Str×fe)},(∀p∈acc,∀q∈acc,p.2=q.2->p.1=q.1)->(∀p∈acc,p.2<k)->
 ∀p∈A6 k names acc,∀q∈A6 k names acc,p.2=q.2->p.1=q.1
 | [],_,_,h,_=>h
 | (m,kd)::r,k,acc,h,hl=>by
  unfold A6;split
  ·refine yS (λp z q I e=>?_) (λp z=>?_)
   ·rcases Mu.mp z with rfl | z<;>rcases Mu.mp I with rfl | I
    ·rfl
    ·have O:k=q.2:=e
     exact absurd (O ▸ hl q I)<|Nw _
    ·have O:p.2=k:=e
     exact absurd (O ▸ hl p z)<|Nw _
    ·exact h p z q I e
   ·rcases Mu.mp z with rfl | z
    ·exact Og _
    ·exact Nu<|hl p z
  ·exact yS h hl
theorem Xq : ∀{names:List (Str×B8)} {h:gB} {acc:List (Str×fe)} {n:Str} {c:fe},(n,c)∈A6 h.objs.size names acc->(n,c)∈acc\/(DU h names).IsCell c eF
 | [],_,_,_,_,hm=> .inl hm
 | (m,kd)::r,h,acc,n,c,hm=>by
  unfold A6 at hm;unfold DU;split at hm
  ·rename_i z
   rw[UJ z];have e:h.objs.size+1=(h.push {cls:= .type "cell",data:= .cell eF}).objs.size:=(MX ..).symm;rw[e]at hm;rcases Xq hm with hm | hm
   ·rcases Mu.mp hm with hm | hm
    ·cases hm
     have I:(h.push {cls:= .type "cell",data:= .cell eF}).IsCell h.objs.size eF:=⟨{cls:= .type "cell",data:= .cell eF},Mz _ rfl,rfl⟩;exact .inr (I.keeps λb o q=>RR _ _ b o q)
    ·exact .inl hm
   ·exact .inr hm
  ·rename_i z
   rw[UY z];exact Xq hm
theorem vW{J:Type}{l:List (Str×J)}(C:(l.map (·.1)).Nodup) : ∀{n:Str} {a:J},(n,a)∈l->l.lookup n=ej a:=by
 induction l with
 | nil=>intro n a h;cases h
 | cons p r z=>
  intro n a h;obtain⟨m,b⟩:=p;rw[MT,Nq]at C;rw[NH];rcases Mu.mp h with h | h
  ·cases h;simp
  ·have I:(n==m)=eK:=by
    have:n≠m:=λe=>C.1 (by rw[<- e];exact MD.mpr ⟨(n,a),h,rfl⟩);simpa using this
   rw[I];exact z C.2 h
theorem wm(scope:jn)(env:ro)(x:Str):(C5 scope env).names.lookup x =
 (scope.names.lookup x).map λk=>if (k==MY && env.scope.kind == .function && env.kindOf x==ej .cell)then OL else k:=by
 unfold C5;dsimp only;generalize scope.names=l
 induction l with
 | nil=>rfl
 | cons p r I=>
  obtain⟨n,k⟩:=p;rw[MT];cases hx:x==n with
  | true=>
   have e:x=n:=by simpa using hx
   subst e;rw[NH,NH];dsimp only;by_cases z:(k==MY && env.scope.kind == .function && env.kindOf x==ej .cell)=eA
   ·rw[UJ z,beq_self_eq_true];dsimp only[SR];rw[UJ z]
   ·rw[UY z,beq_self_eq_true];dsimp only[SR];rw[UY z]
  | false=>
   have : ∀O,List.lookup x ((n,O)::(r.map λx=>match x with | (n,k)=>if (k==MY && env.scope.kind == .function && env.kindOf n==ej .cell)=eA then (n,OL)else (n,k)))=List.lookup x (r.map λx=>match x with | (n,k)=>if (k==MY && env.scope.kind == .function && env.kindOf n==ej .cell)=eA then (n,OL)else (n,k)):=λO=>by rw[NH,hx]
   rw[NH (k:=n),hx];dsimp only;split
   ·rw[this];exact I
   ·rw[this];exact I
noncomputable def Zo(scope:jn)(env:ro)(L:fe):ro:=
 {scope:=C5 scope env,locals:=L,globals:=env.globals,cells:=A6 (L+1) scope.names<|Yy env.cells scope.names [],qual:=env.qual,func:=eF,code:=env.code,frame:=env.frame,builtins:=env.builtins}
noncomputable def jL(X:Cx)(scope:jn)(J:List Str)(fp:List fe)(C:f6)(I:Hp):Cx:=
 {X with N:=J,rb:=C,L0:=I,env:=Zo scope X.env<|C.heap.objs.size+1,outer:=X.stack,stack:=X.stack,ex:=fp,fn:=λx=>scope.names.lookup x==ej .cell,pn:=[],xe:=λ_ _=>False}
structure zl(X:Cx)(scope:jn)(fr:List (Str×Nat)):Prop where
 kind:scope.kind = .function
 nd:(scope.names.map (·.1)).Nodup
 free : ∀p∈scope.names,p.2=MY->X.env.kindOf p.1=ej .cell\/X.env.kindOf p.1=ej .free
 fr : ∀p∈fr,scope.names.lookup p.1=ej .free/\X.N[p.2]? = ej p.1
noncomputable def mV(own:List Str)(C:List (Str×Nat))(I:St):St:=own.map (λ_=>eF)++C.map λp=>(I[p.2]?).join
abbrev WD:pa:={cls:= .type "list",data:= .seq #[]}
abbrev rK:pa:={cls:= .type "dict",data:= .dict #[]}
theorem oE{X:Cx}{S:UQ}{σ:St}{Z:Hp}{C:f6}{scope:jn}{own:List Str}{J:List (Str×Nat)}{fp:List fe}(I:Inv X S σ Z C)(ok:zl X scope J)
 (a4 : ∀b∈fp,Jm X S Z b) (b5 : ∀b∈fp,∃o,C.heap.get? b=ej o) :
 Inv (jL X scope (own++J.map (·.1)) fp C Z) [] (mV own J σ) (upd Z C.heap.objs.size<|.lst []) {C with heap:=DU ((C.heap.push WD).push rK) scope.names}:=by
 have L:(C.heap.push WD).objs.size=C.heap.objs.size+1:=MX ..;have z2:((C.heap.push WD).push rK).objs.size=C.heap.objs.size+2:=by rw[MX,L]
 have a0 : ∀n c,(n,c)∈Yy X.env.cells scope.names []->(n,MY)∈scope.names/\X.env.cells.lookup n=ej c:=λn c h=>(aZ h).resolve_left ⋯;have am : ∀n c,X.env.cells.lookup n=ej c->c<C.heap.objs.size:=λn c h=>by obtain⟨v,q⟩:=I.cell n c h;exact q.lt
 have M : ∀p∈Yy X.env.cells scope.names [],p.2<C.heap.objs.size+1+1:=λp U=>by exact Nu<|Nu<|am p.1 p.2 (a0 p.1 p.2 U).2
 have hC:(Zo scope X.env<|C.heap.objs.size+1).cells=A6 (C.heap.objs.size+2) scope.names (Yy X.env.cells scope.names []):=rfl;have a : ∀x c,(Zo scope X.env<|C.heap.objs.size+1).cells.lookup x=ej c->((x,MY)∈scope.names/\X.env.cells.lookup x=ej c)\/(C.heap.objs.size+2<=c/\(x,OL)∈scope.names):=λx c h=>by
  rcases kx (mem_of_lookup h)with h | h
  ·exact .inl<|a0 x c h
  ·exact .inr h
 have B : ∀x,(x,MY)∈scope.names->∃c,X.env.cells.lookup x=ej c/\(Zo scope X.env<|C.heap.objs.size+1).cells.lookup x=ej c:=λx l=>by
  obtain⟨c,d⟩:=I.ok.has x<|ok.free (x,.free) l rfl;have t:((Yy X.env.cells scope.names []).lookup x).isSome=eA:=QQ<|.inr ⟨l,by rw[d];rfl⟩;have j:=PK scope.names (C.heap.objs.size+2) (Yy X.env.cells scope.names [])<|.inr t;obtain⟨H,E⟩:=Om.mp j;refine⟨c,d,?_⟩;rcases a x H E with⟨_,q⟩ | ⟨_,q⟩
  ·rw[d]at q;cases q;exact E
  ·exact absurd ((vW ok.nd q).symm.trans (vW ok.nd l)) ⋯
 have keep : ∀b o,C.heap.get? b=ej o->(DU ((C.heap.push WD).push rK) scope.names).get? b=ej o:=λb o e=>
  RR _ _ b o (Mh _<|Mh _ e)
 have as : ∀b∈fp,b<C.heap.objs.size:=λb O=>by obtain⟨o,e⟩:=b5 b O;exact MB e
 have fresh:Z C.heap.objs.size=eF:=I.g5.fresh<|Mp _;have F : ∀c,C.heap.objs.size<c->(upd Z C.heap.objs.size<|.lst []) c=eF:=λc d=>by rw[zL (Ob d)];exact I.g5.fresh<|Sy d
 obtain⟨m0,N⟩ : ∃m,(DU ((C.heap.push WD).push rK) scope.names).Ns (C.heap.objs.size+1) m:=by have q:=(Heap.Ns.new (C.heap.push WD) (.type "dict")).keeps (λb o e=>RR scope.names _ b o e);rw[L]at q;exact⟨_,q⟩
 refine⟨⟨I.ok.mod,ok.kind,I.ok.glob,I.ok.blt,RF _,λx y c t j=>?_,λx l=>?_,λx c hf h=>?_,I.ok.hd,I.ok.frames,.inl rfl,λb O=>⟨?_,λx c h z=>?_⟩,λb o e=>I.bs b o e,?_,λb o e O=>?_,λb O hs=>?_,I.stack,I.E_⟩,
  rfl,I.bare,Un.laid keep (Mp _) fresh,⟨m0,N,λi x v K Y e3=>?_⟩,λx c h=>?_,?_,λx c h=>?_,λp U=>?_,?_,?_⟩
 ·have q:=yS (names:=scope.names) (k:=C.heap.objs.size+2) (acc:=Yy X.env.cells scope.names []) (λp U q hq e=>I.ok.inj p.1 q.1 p.2 (a0 _ _ U).2 (by rw[e];exact(a0 _ _ hq).2)) M
  exact q (x,c) (mem_of_lookup t) (y,c) (mem_of_lookup j) rfl
 ·have f:(C5 scope X.env).names.lookup x=ej .cell\/(C5 scope X.env).names.lookup x=ej .free:=l
  have:scope.names.lookup x=ej .cell\/scope.names.lookup x=ej .free:=by
   rw[wm]at f;cases e:scope.names.lookup x with
   | none=>rw[e]at f;simp at f
   | some k=>
    rw[e]at f;cases k<;>simp at f ⊢
  rcases this with h | h
  ·exact Om.mp<|PK scope.names _ _<|.inl h
  ·obtain⟨c,_,j⟩:=B x<|mem_of_lookup h;exact⟨c,j⟩
 ·have P:(scope.names.lookup x==ej .cell)=eA:=hf
  have Q:scope.names.lookup x=ej .cell:=by simpa using P
  rcases a x c h with⟨q,_⟩ | ⟨q,_⟩
  ·exact absurd ((vW ok.nd q).symm.trans Q) ⋯
  ·exact NQ (MS _ 2) q
 ·exact MP<|Nu<|as b O
 ·rcases a x c h with⟨_,q⟩ | ⟨q,_⟩
  ·exact(a4 b O).2.2.2.2.1 x c q z
  ·exact absurd (MI (as b O)<|NQ (MS _ 2)<|z ▸ q)<|Nw _
 ·exact NQ I.ok.De I.sz
 ·rcases (a4 b O).2.2.2.1 with q | q
  ·exact I.ok.M5 b o e q
  ·exact absurd (MI (MB e)<|NQ I.ok.De q)<|Nw _
 ·rcases Mu.mp (I.UM b hs)with q | q
  ·exact(a4 b O).2.1 q
  ·exact(a4 b O).2.2.1 q
 ·have hi:i<(own++J.map (·.1)).length:=(Mv.mp K).1
  by_cases s:i<own.length
  ·unfold mV at Y
   rw[ND (by simpa using s)]at Y;simp[Nf,s]at Y
  ·have hj : ∃p,J[i - own.length]? = ej p/\p.1=x/\(σ[p.2]?).join=ej v:=by
    unfold mV at Y;have g:(own++J.map (·.1))[i]? = ej x:=K;rw[Nm ⋯,Nf]at g;rw[Nm (by simpa using s),Nf,MF]at Y;cases q:J[i - own.length]? with
    | none=>rw[q]at g;cases g
    | some p=>
     rw[q]at g Y;exact⟨p,rfl,by simpa using g,by simpa using Y⟩
   obtain⟨p,U,bl,r⟩:=hj;obtain⟨g1,g2⟩:=ok.fr p<|Nh U;rw[bl]at g1 g2;have w:σ[p.2]? = ej (ej v):=by
    cases q:σ[p.2]? with
    | none=>rw[q]at r;cases r
    | some o=>rw[q]at r;simpa using r
   have G:=ok.free (x,.free) (mem_of_lookup g1) rfl;obtain⟨m,hn,hl⟩:=I.loc;obtain⟨u,ru,lk⟩:=hl p.2 x v g2 w (by rcases G with k | k;exact .inr<|.inl k;exact .inr<|.inr k);refine⟨u,ru,.inr ?_⟩;obtain⟨c,R,T⟩:=B x<|mem_of_lookup g1;have W:C.heap.IsCell c (ej u):=by
    rcases lk with⟨k,_⟩ | ⟨_,H,e,z⟩
    ·rcases G with k' | k'<;>rw[k]at k'<;>cases k'
    ·rw[R]at e;cases e;exact z
   refine⟨?_,c,T,W.keeps keep⟩;show(C5 scope X.env).names.lookup x=ej .cell\/(C5 scope X.env).names.lookup x=ej .free;rw[wm,g1];dsimp only[SR];split
   ·exact .inl rfl
   ·exact .inr rfl
 ·rcases kx (mem_of_lookup h)with q | q
  ·obtain⟨v,A⟩:=I.cell x c (a0 x c q).2
   exact⟨v,A.keeps keep⟩
  ·have q2:=mem_of_lookup h
   have q3:(x,c)∈A6 ((C.heap.push WD).push rK).objs.size scope.names (Yy X.env.cells scope.names []):=by rw[z2];exact q2
   rcases Xq q3 with q4 | q4
   ·obtain⟨v,A⟩:=I.cell x c (a0 x c q4).2
    exact⟨v,A.keeps keep⟩
   ·exact⟨eF,q4⟩
 ·exact F _<|Og _
 ·rcases a x c h with⟨_,q⟩ | ⟨q,_⟩
  ·rw[zL (MP<|am x c q)];exact I.C2 x c q
  ·exact F c<|MI (Nu<|Og _) q
 ·exact absurd (show p∈([]:UQ)from U) ⋯
 ·refine I.g5.laid keep (Mp _) ⟨Ny _,[],0,.nil,?_⟩
  exact RR _ _ _ _<|Mh _<|Mz _ rfl
 ·show(mV own J σ).length=(own++J.map (·.1)).length
  simp[mV]
theorem wc(I:Nat->f6->Prop)
 (J : ∀n s,I n s->wpAny (f7 prog w) A (DV it) (λr z=>match r with
   | none=>R (.ok .next) z
   | some v=>wpAny (f7 prog w) A (M3 target it v) (λ_ z=>wpAny (f7 prog w) A (u4 target env v) (λ_ U=>
    wpAny (f7 prog w) A (forIn ifs eA λc r=>if r=eA then do let ok <- E4 c env (fy c env);pure (RY ok)else pure (RY r)) (λok O=>
     if ok=eA then wpAny (f7 prog w) A (fy elt env) (λx Y=>
      wpAny (f7 prog w) A (call (.builtin "list.append") [acc,x]) (λ_ C=>∃m,m<n/\I m C) (λ_ _=>False) Y) (λ_ _=>False) O
     else ∃m,m<n/\I m O) (λ_ _=>False) U) (λ_ _=>False) z) (λ_ _=>False) z) (λ_ _=>False) s)
 (n:Nat) (h:I n s) :
 codeAny (f7 prog w) A (.compLoop (.ListComp elt [⟨target,iter,ifs,0⟩] scope pos) 0 it acc env) R s:=by
 refine codeAny_loop rfl I (λn s j=>?_) n h;show wpAny _ A ((compTurn (.ListComp elt [⟨target,iter,ifs,0⟩] scope pos) 0 it acc env).onRaise (λx=>do noteFrame x env;theTreesLotGoes x)) _ _ s;refine wpAny_noted ?_;rw[compTurn_list];refine Md<|Tj<|Md<|Oy (J n s j) (λr z b=>?_) λ_ _ a=>a.elim;cases r with
 | none=>exact Mq b
 | some v=>
  refine Md<|Oy b (λ_ k i=>?_) λ_ _ a=>a.elim;refine Md<|Oy i (λ_ U e=>Md<|Oy e (λok O d=>?_) λ_ _ a=>a.elim) λ_ _ a=>a.elim;cases ok with
  | false=>exact Mq ⟨rfl,d⟩
  | true=>
   exact Md<|Md<|Oy d (λx Y f=>Md<|Oy f (λ_ C g=>Mq<|Mq ⟨rfl,g⟩) λ_ _ a=>a.elim) λ_ _ a=>a.elim
noncomputable def AF(X:Cx)(C:List fA)(t:TT):Prop:=
 ∀(a:UQ) (s:f6) (b:St) (H:Hp) (Q:Bool->Hp->Prop),Inv X a b H s->t b H Q->
  wpAny (f7 X.prog X.w) X.A (forIn C eA λc r=>if r=eA then do let ok <- E4 c X.env (fy c X.env);pure (RY ok)else pure (RY r)) (TP X a b Q) X.xe s
def FR:TT:=λ_ H Q=>Q eA H
theorem K4:AF X [] FR:=λ_ _ _ H _ I h=>wpAny_tests_nil ⟨H,I,h⟩
theorem aR(h:PT X c t):AF X [c] t:=λa s b H Q I z=>wpAny_tests_one<|h a s b H Q I z
noncomputable def CW(J:It)(g:TG)(C:TT)(te:TE)(D:fe)(Q:VK)(W:Nat->Nat->List V->St->Hp->Prop):Prop:=
 ∀i m a f H,W i m a f H->H D=ej (.lst a)/\((J.stop i H/\Q (.ref D) H)\/(J.go i H/\a.length<hB/\∀x e,J.C6 i H x e->g x f e λz h=>C z h λb I=>
  if b=eA then te z I λv O=>O D=ej (.lst a)/\∃d,d<m/\W (i+1) d (a++[v]) z (upd O D<|.lst<|a++[v])else ∃d,d<m/\W (i+1) d a z I))
noncomputable def pE(X:Cx)(C:UQ)(H:Hp)(L:fe):Prop:=
 H L=eF/\L≠X.env.locals/\X.rb.heap.objs.size<=L/\(∀x c,X.env.cells.lookup x=ej c->c≠L)/\∀p∈X.pn++C,p.1≠L
theorem oZ
 (hc:X.calm=eA) (I:Inv X pins σ H2 s2) (ok:zl X scope fr) (T:Turn X.prog X.w X.K tg J fp it tn) (st:tn 0 s2.heap) (Y : ∀b∈fp,Jm X pins H2 b)
 (hg:PG (jL X scope (own++fr.map (·.1)) fp s2 H2) tg g) (ht:AF (jL X scope (own++fr.map (·.1)) fp s2 H2) ifs tt) (he:PE (jL X scope (own++fr.map (·.1)) fp s2 H2) elt te)
 (hW : ∀D,H2 D=eF->∃W:Nat->Nat->List V->St->Hp->Prop,(∃m,W 0 m [] (mV own fr σ) (upd H2 D<|.lst []))/\CW J g tt te D Q W) :
 wpAny (f7 X.prog X.w) X.A (newList []) (λacc S=>wpAny (f7 X.prog X.w) X.A (y_ scope X.env.globals (Yy X.env.cells scope.names []) [] X.env.qual eF .none (ej X.env)) (λac Z=>
  codeAny (f7 X.prog X.w) X.A (.compStart (.ListComp elt [⟨tg,iter,ifs,0⟩] scope pos) 0 (.ref it) acc {ac with scope:=C5 scope X.env})
   (λr C=>(∃f,r = .ok f)/\∃D H',acc = .ref D/\Inv X pins σ H' C/\Q (.ref D) H'/\(∃m,C.heap.Ns ac.locals m)/\pE X pins H' ac.locals) Z) E S) E s2:=by
 have b6 : ∀b∈fp,∃o,s2.heap.get? b=ej o:=λb O=>by obtain⟨o,e,_⟩:=T.obj 0 _ st b O;exact⟨o,e⟩
 have N:=oE (own:=own) I ok Y b6;obtain⟨W,⟨m0,w0⟩,cw⟩:=hW _ I.fresh;refine Oa<|ye ?_;have z1:(s2.heap.push WD).objs.size=s2.heap.objs.size+1:=MX ..;show codeAny _ _ (.compStart _ 0 (.ref it) (.ref s2.heap.objs.size) {scope:=C5 scope X.env,locals:=(s2.heap.push WD).objs.size,globals:=X.env.globals,cells:=A6 ((s2.heap.push WD).objs.size+1) scope.names<|Yy X.env.cells scope.names [],qual:=X.env.qual,func:=eF,code:=X.env.code,frame:=X.env.frame,builtins:=X.env.builtins})
  (λr C=>(∃f,r = .ok f)/\∃D H',NS s2.heap.objs.size = .ref D/\Inv X pins σ H' C/\Q (.ref D) H'/\(∃m,C.heap.Ns (s2.heap.push WD).objs.size m)/\pE X pins H' (s2.heap.push WD).objs.size) {s2 with heap:=DU ((s2.heap.push WD).push rK) scope.names}
 rw[z1];have b7:tn 0 (DU ((s2.heap.push WD).push rK) scope.names):=T.keep 0 _ _ st λb _ o e=>RR _ _ b o<|Mh _<|Mh _ e;have c7 : ∀b∈fp,b<s2.heap.objs.size:=λb O=>by obtain⟨o,e⟩:=b6 b O;exact MB e
 have am : ∀{H':Hp},(∀b∈fp,H' b=eF)->∀b∈fp,Jm (jL X scope (own++fr.map (·.1)) fp s2 H2) [] H' b:=λhn b O=>
  ⟨hn b O,(N.ok.P1 b O).1,N.ok.M0 b O,.inl O,(N.ok.P1 b O).2,λp hp=>absurd (show p∈([]:UQ)from hp) ⋯⟩
 have b8:codeAny (f7 X.prog X.w) X.A (.compLoop (.ListComp elt [⟨tg,iter,ifs,0⟩] scope pos) 0 (.ref it) (.ref s2.heap.objs.size)<|Zo scope X.env<|s2.heap.objs.size+1)
  (λr C=>(∃f,r = .ok f)/\∃D H',NS s2.heap.objs.size = .ref D/\Inv X pins σ H' C/\Q (.ref D) H'/\(∃m,C.heap.Ns (s2.heap.objs.size+1) m)/\pE X pins H' (s2.heap.objs.size+1)) {s2 with heap:=DU ((s2.heap.push WD).push rK) scope.names}:=by
  refine wc (λn C=>∃i B G H',Inv (jL X scope (own++fr.map (·.1)) fp s2 H2) [] G H' C/\tn i C.heap/\(∀b∈fp,H' b=eF)/\W i n B G H') ?_ m0
   ⟨0,[],_,_,N,b7,λb O=>by rw[zL (MP<|c7 b O)];exact(Y b O).1,w0⟩
  rintro n s3 ⟨i,B,a,L,I3,s,bd,w3⟩;obtain⟨hD,y⟩:=cw i n B a L w3;rcases y with⟨t,qn⟩ | ⟨go,hz,step⟩
  ·refine gu (T.done (jL X scope (own++fr.map (·.1)) fp s2 H2) rfl rfl rfl hc i [] s3 a L _ I3 (am bd) s t) λr s4 U=>?_
   obtain⟨hr,j⟩:=U;subst hr;refine⟨⟨_,rfl⟩,_,L,rfl,I._m (ch:=fp) j.os j.base j.g5 j.bare<|λb O=>⟨(Y b O).2.2.2.1,(Y b O).2.1,(Y b O).2.2.2.2.1,(Y b O).2.2.2.2.2⟩,qn,?_,j.free,?_,?_,?_,?_⟩
   ·obtain⟨m,hn,_⟩:=j.loc
    exact⟨m,hn⟩
   ·exact Ob<|Nu I.lt
   ·exact RX I.sz
   ·intro x c e z
    obtain⟨v,q⟩:=I.cell x c e;exact absurd (Nu q.lt) (by rw[z];exact Nw _)
   ·intro p hp z
    exact absurd (Nu<|MB (I.pin p hp).1) (by rw[z];exact Nw _)
  ·refine gu (T.item (jL X scope (own++fr.map (·.1)) fp s2 H2) rfl rfl rfl hc i [] s3 a L _ I3 (am bd) s go) λr s4 U=>?_
   obtain⟨u,hr,h4⟩:=U;subst hr;refine gu h4 λ_ s5 U=>?_;obtain⟨x,H5,I5,r5,y5,ar,cj⟩:=U;have cl:=I5.pinned (am cj)<|T.obj _ _ ar;refine gu (hg _ s5 a H5 x u _ cl r5<|step x H5 y5) λ_ s6 U=>?_;obtain⟨h,H6,I6,q6⟩:=U;refine gu (ht _ s6 h H6 _ I6 q6) λb s7 U=>?_;obtain⟨H7,P,R⟩:=U;have after : ∀{H:St} {M:Hp} {l:f6},Inv (jL X scope (own++fr.map (·.1)) fp s2 H2) ([]++Y9 fp s5.heap) H M l->tn (i+1) l.heap/\∀b∈fp,M b=eF:=λ{H M l} k=>by refine⟨T.keep _ _ _ ar λb O o e=>(k.pin (b,o)<|MJ _<|MJ _<|vU O e).1,λb O=>?_⟩;obtain⟨o,e,d⟩:=T.obj _ _ ar b O;exact(k.pin (b,o)<|MJ _<|MJ _<|vU O e).2.1
   cases b with
   | false=>
    rw[UY MW]at R ⊢;obtain⟨m',hm,w7⟩:=R;exact⟨m',hm,i+1,B,h,H7,P.O1,(after P).1,(after P).2,w7⟩
   | true=>
    rw[UJ rfl]at R ⊢;refine gu (he _ s7 h H7 _ P R) λv8 l U=>?_;obtain⟨x8,M,k,r8,bl,m',hm,w8⟩:=U;obtain⟨z8,bm,n8,rv,d5,e8⟩:=k.G5 bl;refine Ro F.slot_list_append ⟨_,e8,rfl⟩ F.entry_list_append (F.args_list_append_2 _ _) (PySem.list_append _ bm.toArray n8 v8<|by rw[Mw];omega) ⟨e8,?_⟩;have I9:=k.v_ (its':=bm++[v8]) (f:=(·.push v8)) (t':=l.toks) bl e8 ⋯ (rv.append<|.cons r8 .nil) (by rw[NM,OY];omega);exact⟨m',hm,i+1,B++[x8],h,_,I9.O1,(after I9).1,(after I9).2,w8⟩
 exact codeAny_compStart_list b8<|T.self _ 0 _ _ _ b7 b8
noncomputable def eZ(O:TI)(own:List Str)(C:List (Str×Nat))(g:TG)(I:TT)(te:TE):TE:=λb H Q=>O b H λJ a=>∀D,a D=eF->
 ∃W:Nat->Nat->List V->St->Hp->Prop,(∃m,W 0 m [] (mV own C b) (upd a D<|.lst []))/\CW J g I te D Q W
section
variable{X:Cx}{scope:jn}{own:List Str}{fr:List (Str×Nat)}{elt tg iter:fA}{ifs:List fA}{pos:h8}{wi:TI}{g:TG}{tt:TT}{te:TE}
theorem bM
 (z:X.calm=eA) (ok:zl X scope fr) (hi:PI X tg iter wi) (O : ∀fp S C,PG (jL X scope (own++fr.map (·.1)) fp S C) tg g)
 (U : ∀fp S C,AF (jL X scope (own++fr.map (·.1)) fp S C) ifs tt) (Y : ∀fp S C,PE (jL X scope (own++fr.map (·.1)) fp S C) elt te)
 (I:Inv X pins σ H s) (h:eZ wi own fr g tt te σ H Q)
 (hR : ∀D H' Z L,Inv X pins σ H' Z->Q (.ref D) H'->(∃m,Z.heap.Ns L m)->pE X pins H' L->
   compPost (f7 X.prog X.w) X.A X.xe use R (.ref D) L (.ok .next) Z)
 (hs : ∀x,t4 iter X.env x=pure x:=by intro _;rfl) :
 wpAny (f7 X.prog X.w) X.A (comprehension (.ListComp elt [⟨tg,iter,ifs,0⟩] scope pos) scope X.env (firstIterPos [⟨tg,iter,ifs,0⟩] pos) (newList []) eK (fy iter X.env) use) R X.xe s:=by
 refine wpAny_comprehension_free rfl hs (Ym λn a=>I.ok.has n<|ok.free (n,.free) a rfl) ok.kind (λx G e=>by rw[<- e];exact vW ok.nd<|show(x.1,x.2)∈scope.names from G) ?_;refine gu (hi pins s σ H _ I h) λv P l=>gu l λM S o=>?_;obtain⟨N,fp,tn,J,C,e,d,T,i,f2,B⟩:=o;subst e;refine gu (oZ (own:=own) (Q:=Q) (E:=X.xe) z d ok T i f2 (O fp S C) (U fp S C) (Y fp S C) B) λacc W p=>gu p λj s4 t=>SK t λr Z u=>?_;obtain⟨⟨f,F⟩,D,H',k,b,q,a,y⟩:=u;subst F;subst k;have K:=hR D H' Z j.locals b q a y;cases use<;>exact K
theorem Wo(z:X.calm=eA)(ok:zl X scope fr)(S:PI X tg iter wi)(O : ∀fp J C,PG (jL X scope (own++fr.map (·.1)) fp J C) tg g)
 (U : ∀fp J C,AF (jL X scope (own++fr.map (·.1)) fp J C) ifs tt) (Y : ∀fp J C,PE (jL X scope (own++fr.map (·.1)) fp J C) elt te)
 (Z : ∀x,t4 iter X.env x=pure x:=by intro _;rfl) :
 PE X (.ListComp elt [⟨tg,iter,ifs,0⟩] scope pos) (eZ wi own fr g tt te):=by
 intro a s B H Q I h;rw[eval_ListComp];refine bM (use:=eF) z ok S O U Y I h (λD d l L f q k y=>?_) Z;obtain⟨m,j⟩:=k;obtain⟨p,r,t,u,w⟩:=y;refine⟨m,j,λA n=>⟨.ref D,d,f.turned (t':=l.toks) (it:=L) (λb o i e=>n.extBut b o i e) p r (.inr t) u w,rfl,q⟩⟩
theorem ZF(O:X.N.Nodup)(U:X.N[i]? = ej y)(Y:Loc X.env.scope y)(hf:X.fn y=eA\/X.env.scope.names.lookup y=ej .local)
 (S:X.calm=eA) (ok:zl X scope fr) (hi:PI X tg iter wi) (hg : ∀fp J C,PG (jL X scope (own++fr.map (·.1)) fp J C) tg g)
 (ht : ∀fp J C,AF (jL X scope (own++fr.map (·.1)) fp J C) ifs tt) (Z : ∀fp J C,PE (jL X scope (own++fr.map (·.1)) fp J C) elt te)
 (hs : ∀x,t4 iter X.env x=pure x:=by intro _;rfl) :
 PS X (.Assign [.Name y py] (.ListComp elt [⟨tg,iter,ifs,0⟩] scope pos) spos) (cD (eZ wi own fr g tt te)<|vx i):=by
 have z : ∃b:Bool,DE (.ListComp elt [⟨tg,iter,ifs,0⟩] scope pos) (ej (.Name y py)) spos.line X.env=pure b:=⟨_,rfl⟩;obtain⟨b,z⟩:=z;cases b with
 | false=>
  have u:H8 [.Name y py] (.ListComp elt [⟨tg,iter,ifs,0⟩] scope pos) spos.line X.env=DE (.ListComp elt [⟨tg,iter,ifs,0⟩] scope pos) (ej (.Name y py)) spos.line X.env:=rfl;exact Kh (Wo S ok hi hg ht Z hs) (gC O U Y hf) (by rw[u];exact z)
 | true=>
  intro d s W H D I h;rw[exec_Assign_Name_used _ _ _ _ z];refine Md<|Tj<|Md ?_;show wpAny _ X.A (do let _ <- comprehension (.ListComp elt [⟨tg,iter,ifs,0⟩] scope pos) scope X.env _ (newList []) eK (fy iter X.env) (ej (u4 (.Name y py) X.env))) _ _ s;refine Md<|gu (bM (R:=λ_ f=>SP X d D .next f) (use:=ej (u4 (.Name y py) X.env)) S ok hi hg ht Z I h (λj Q f L l q E P=>?_) hs) λ_ f q=>Mq<|Mq q;obtain⟨G,k,K,y4,M⟩:=P;obtain⟨m,B⟩:=E;show wpAny _ _ (u4 (.Name y py) X.env<|.ref j) _ _ _;refine _X<|YL l O U Y (v:= .ref j) rfl (λn as p=>?_) hf;obtain⟨a,F,w⟩:=p;have r:L≠a:=by
   rcases w with e | e
   ·rw[e];exact k
   ·exact MV<|y4 _ _ e
  refine⟨m,B.sameBut F r,λT t=>⟨_,_,as.turned (t':=n.toks) (it:=L) (λb o z e=>t.extBut b o z e) G k (.inr K) y4 M,q⟩⟩
end
inductive Sk where
 | L | T
 deriving DecidableEq
end L2
namespace DL
open PySem L2
inductive D where
 | gm | bl (b:Bool) | int (i:Int) | str (x:Str) | tup (xs:List D) | lst (xs:List D)
 | ow (ks vs:List D)
 | ni (ks:List (List Int)) (vs:List D)
inductive Cell where
 | no | val (d:D) | own (ds:List D) | nest (rows:List (List D))
abbrev Ctx:=List Cell
abbrev CO (a : Type) := Ctx -> Option a
def lim:Nat:=2500
def j5:D->Option (Sk×List D)
 | .tup a=>ej (.T,a)
 | .lst a=>ej (.L,a)
 | _=>eF
def zW(f:CO D)(γ:Ctx):Option (Sk×List D):=(f γ).bind j5
def qh(f:CO (List D))(γ:Ctx):Option D:=(f γ).map D.lst
def jm(f:CO (List D))(γ:Ctx):Option (Sk×List D):=(f γ).map λa=>(Sk.L,a)
def ly:Option Cell->Option D
 | some (.val d)=>ej d
 | _=>eF
noncomputable def wK:Option Cell->Option (Sk×List D)
 | some (.val d)=>j5 d
 | some (.own ds)=>ej (.L,ds)
 | _=>eF
def zc(i:Nat)(γ:Ctx):Option D:=ly γ[i]?
def zh(i:Nat)(γ:Ctx):Option (Sk×List D):=wK γ[i]?
noncomputable def zu(d:D):CO D:=λ_=>ej d
noncomputable def zy(F:D->D->Option D)(C I:CO D)(γ:Ctx):Option D:=(C γ).bind λx=>(I γ).bind λy=>F x y
def vl:D->Option Bool
 | .bl b=>ej b
 | _=>eF
def o4:D->Option Int
 | .int i=>ej i
 | _=>eF
def sB(f:CO D)(γ:Ctx):Option Bool:=(f γ).bind vl
noncomputable def Wf(f g:CO Bool)(γ:Ctx):Option Bool:=(f γ).bind λb=>if b=eA then g γ else ej eK
noncomputable def vi(f g:CO Bool)(γ:Ctx):Option Bool:=(f γ).bind λb=>if b=eA then ej eA else g γ
def jU(f:CO Bool)(γ:Ctx):Option Bool:=(f γ).map λb=> !b
noncomputable def cM(f g:CO D)(γ:Ctx):Option D:=((f γ).bind vl).bind λb=>if b=eA then g γ else ej (.bl eK)
noncomputable def _M(f g:CO D)(γ:Ctx):Option D:=((f γ).bind vl).bind λb=>if b=eA then ej (.bl eA)else g γ
def EG(f:CO D)(γ:Ctx):Option D:=((f γ).bind vl).map λb=> .bl (!b)
noncomputable def cL(c:CO Bool)(f g:CO D)(γ:Ctx):Option D:=(c γ).bind λb=>if b=eA then f γ else g γ
def zI:CO (List D):=λ_=>ej []
noncomputable def zb(f:CO D)(g:CO (List D))(γ:Ctx):Option (List D):=(f γ).bind λx=>(g γ).map λr=>x::r
noncomputable def qW(f:CO (List D))(γ:Ctx):Option D:=(f γ).bind λa=>if a.length<=lim then ej (.tup a)else eF
noncomputable def kG(f:CO (List D))(γ:Ctx):Option (List D):=(f γ).bind λa=>if a.length<=lim then ej a else eF
inductive Res where
 | val (d:D) | own (ds:List D)
inductive Fl where
 | next (γ:Ctx) | brk (γ:Ctx) | cont (γ:Ctx) | ret (r:Res)
def j9(γ:Ctx):Option Fl:=ej (.next γ)
noncomputable def zJ(F G:CO Fl):CO Fl:=λb=>(F b).bind λz=>match z with
 | .next a=>G a
 | f=>ej f
def qv(f:CO D)(γ:Ctx):Option Fl:=(f γ).map λd=> .ret (.val d)
def Jp(f:CO (List D))(γ:Ctx):Option Fl:=(f γ).map λd=> .ret (.own d)
noncomputable def WY:Option Cell->Option Fl
 | some (.val d)=>ej (.ret<|.val d)
 | some (.own ds)=>ej (.ret<|.own ds)
 | _=>eF
def Wc(i:Nat)(γ:Ctx):Option Fl:=WY γ[i]?
def LU(γ:Ctx):Option Fl:=ej (.brk γ)
def sW(γ:Ctx):Option Fl:=ej (.cont γ)
def YT:CO Fl:=λ_=>eF
noncomputable def kr(k:CO Bool)(F G:CO Fl)(γ:Ctx):Option Fl:=(k γ).bind λb=>if b=eA then F γ else G γ
def jy(i:Nat)(f:CO D)(γ:Ctx):Option Fl:=(f γ).map λd=> .next (γ.set i<|.val d)
noncomputable def wz(i:Nat)(f:CO (List D))(γ:Ctx):Option Fl:=(f γ).map λa=> .next (γ.set i<|.own a)
def Bh(f:CO D)(γ:Ctx):Option Fl:=(f γ).map λ_=> .next γ
def xQ:Option Cell->Option (List D)
 | some (.own ds)=>ej ds
 | _=>eF
noncomputable def xu(i:Nat)(f:CO D)(γ:Ctx):Option Fl:=(xQ γ[i]?).bind λa=>(f γ).bind λd=>if a.length<lim then ej (.next<|γ.set i<|.own<|a++[d])else eF
def jc(n:Nat)(ds:List D):Ctx:=ds.map Cell.val++Ml (n - ds.length) Cell.no
noncomputable def jr(n:Nat)(F:CO Fl)(ds:List D):Option Res:=(F<|jc n ds).bind λz=>match z with
 | .ret r=>ej r
 | .next _=>ej (.val .gm)
 | _=>eF
def fQ:Res->D
 | .val d=>d
 | .own a=> .lst a
noncomputable def zD(F:List D->Option Res)(g:CO (List D))(γ:Ctx):Option D:=(g γ).bind λa=>(F a).map fQ
def Ge:Res->Option (List D)
 | .own a=>ej a
 | _=>eF
noncomputable def jV(F:List D->Option Res)(g:CO (List D))(γ:Ctx):Option (List D):=(g γ).bind λa=>(F a).bind Ge
def wW(lo:Int)(n:Nat):List D:=(Me n).map λ(i:Nat)=>D.int<|lo+(i:Int)
def Yu(ds C:List D):List D:=(ds.zip C).map λp=>D.tup [p.1,p.2]
def zN(f:CO (Sk×List D))(γ:Ctx):Option (List D):=(f γ).map (·.2)
def inR(i:Int):Bool:=decide<|i.natAbs<2 ^ 62
noncomputable def z7(f:CO D)(γ:Ctx):Option (List D):=((f γ).bind o4).bind λn=>if inR n=eA then ej (wW 0 n.toNat)else eF
noncomputable def Wd(f g:CO D)(γ:Ctx):Option (List D):=((f γ).bind o4).bind λm=>((g γ).bind o4).bind λn=>if inR m=eA/\inR n=eA then ej (wW m (n - m).toNat)else eF
noncomputable def aH(f g:CO D)(γ:Ctx):Option (List D):=((f γ).bind j5).bind λm=>((g γ).bind j5).map λn=>Yu m.2 n.2
inductive Tg where
 | nm (i:Nat) | tp (is:List Nat)
noncomputable def xt:List Nat->List D->Ctx->Ctx
 | i::is,d::ds,γ=>xt is ds<|γ.set i<|.val d
 | _,_,γ=>γ
noncomputable def xH:Tg->D->CO Ctx
 | .nm i,d,γ=>ej (γ.set i<|.val d)
 | .tp is,.tup ds,γ=>if ds.length=is.length then ej (xt is ds γ)else eF
 | _,_,_=>eF
noncomputable def xq(T:Tg)(F:CO Fl):List D->CO Fl
 | [],a=>ej (.next a)
 | d::e,a=>(xH T d a).bind λb=>(F b).bind λI=>match I with
  | .next z=>xq T F e z
  | .cont z=>xq T F e z
  | .brk z=>ej (.next z)
  | .ret r=>ej (.ret r)
noncomputable def ZA(C:CO (List D))(T:Tg)(F:CO Fl)(γ:Ctx):Option Fl:=(C γ).bind λa=>xq T F a γ
def xA:Cell->Cell
 | .own _=> .no
 | .nest _=> .no
 | c=>c
noncomputable def zZ(n:Nat)(C:List Nat)(γ:Ctx):Ctx:=Ml n Cell.no++C.map λj=>xA<|γ[j]?.getD .no
noncomputable def zP(T:Tg)(k:CO Bool)(f:CO D)(γ:Ctx):List D->Option (List D)
 | []=>ej []
 | d::ds=>(xH T d γ).bind λa=>(k a).bind λb=>if b=eA then (f a).bind λe=>(zP T k f γ ds).map λr=>e::r else zP T k f γ ds
noncomputable def zK(C:CO (List D))(T:Tg)(n:Nat)(I:List Nat)(k:CO Bool)(f:CO D)(γ:Ctx):Option (List D):=(C γ).bind λa=>if a.length<=lim then zP T k f (zZ n I γ) a else eF
def jb:CO Bool:=λ_=>ej eA
def Tg.idx:Tg->List Nat
 | .nm i=>[i]
 | .tp is=>is
def dI(g:Int->Int->D):D->D->Option D
 | .int i,.int j=>ej (g i j)
 | _,_=>eF
noncomputable def L9(c:Int->Int->Bool)(g:Int->Int->D):D->D->Option D
 | .int i,.int j=>if c i j=eA then ej (g i j)else eF
 | _,_=>eF
def JI:D->D->Option D:=dI λi j=> .int (i - j)
def JM(i j:Int):Bool:=decide (i.natAbs<2 ^ 64) || decide (j.natAbs<2 ^ 64)
def Eg(_ j:Int):Bool:=decide (0<j) && decide (j.natAbs<1073741824)
def vz:D->D->Option D:=L9 Eg λi j=> .int (i/j)
def Ef(_ j:Int):Bool:=decide<|0<j
def qw:D->D->Option D:=L9 Ef λi j=> .int (i%j)
noncomputable def Ee(i j:Int):Bool:=decide (0<=j) && decide (j.natAbs<=1000000) && decide (i.natAbs<2 ^ 64)
def uT:D->D->Option D:=L9 Ee λi j=> .int (i ^ j.toNat)
def Df:D->D->Option D:=dI λi j=> .bl (decide<|i<j)
def p5:D->D->Option D:=dI λi j=> .bl (decide<|i<=j)
def vu:D->D->Option D:=dI λi j=> .bl (decide<|j<i)
def Pz:D->D->Option D:=dI λi j=> .bl (decide<|j<=i)
noncomputable def j3:D->D->Option D
 | .int i,.int j=>ej (.int<|i+j)
 | .tup xs,.tup ys=>if xs.length+ys.length<=lim then ej (.tup<|xs++ys)else eF
 | _,_=>eF
noncomputable def xJ:D->D->Option D
 | .int i,.int j=>if JM i j=eA then ej (.int<|i*j)else eF
 | .tup xs,.int j=>if xs.length*j.toNat<=lim/\inR j=eA then ej (.tup (Ml j.toNat xs).flatten)else eF
 | _,_=>eF
noncomputable def We(f g:CO (Sk×List D))(γ:Ctx):Option (List D):=(f γ).bind λa=>(g γ).bind λb=>
 match a.1,b.1 with
 | .L,.L=>if a.2.length+b.2.length<=lim then ej (a.2++b.2)else eF
 | _,_=>eF
noncomputable def sU(f:CO (Sk×List D))(g:CO D)(γ:Ctx):Option (List D):=(f γ).bind λa=>((g γ).bind o4).bind λj=>
 match a.1 with
 | .L=>if a.2.length*j.toNat<=lim/\inR j=eA then ej (Ml j.toNat a.2).flatten else eF
 | _=>eF
noncomputable def k6(n:Nat)(i:Int):Option Nat:=if 0<=i/\i<n then ej i.toNat else if i<0/\0<=i+n then ej (i+n).toNat else eF
noncomputable def eL(f:CO (Sk×List D))(g:CO D)(γ:Ctx):Option D:=(f γ).bind λa=>((g γ).bind o4).bind λi=>(k6 a.2.length i).bind λk=>a.2[k]?
noncomputable def J9(i:Nat)(g f:CO D)(γ:Ctx):Option Fl:=(f γ).bind λd=>(xQ γ[i]?).bind λa=>((g γ).bind o4).bind λk=>(k6 a.length k).map λj=> .next (γ.set i<|.own<|a.set j d)
noncomputable def dP(n dflt:Nat):Option Int->Nat
 | none=>dflt
 | some i=>if i<0 then (i+n).toNat else min i.toNat n
noncomputable def oX(xs:List D)(lo C:Option Int):List D:=(xs.drop<|dP xs.length 0 lo).take (dP xs.length xs.length C - dP xs.length 0 lo)
def Yv:CO (Option Int):=λ_=>ej eF
def t6(f:CO D)(γ:Ctx):Option (Option Int):=((f γ).bind o4).map ej
noncomputable def YS(f:CO D)(l h:CO (Option Int))(γ:Ctx):Option D:=(f γ).bind λd=>(l γ).bind λlo=>(h γ).bind λa=>match d with
 | .tup b=>ej (.tup<|oX b lo a)
 | _=>eF
def kD(f:CO (Sk×List D))(γ:Ctx):Option D:=(f γ).map λa=> .int a.2.length
inductive Ty where
 | int | bool | str | tuple | list
 deriving DecidableEq
@[simp] def rD:D->Bool
 | .int _=>eA
 | .bl _=>eA
 | _=>eK
@[simp] def CH:D->Bool
 | .bl _=>eA
 | _=>eK
@[simp] def rA:D->Bool
 | .str _=>eA
 | _=>eK
@[simp] def rz:D->Bool
 | .tup _=>eA
 | _=>eK
@[simp] def rC:D->Bool
 | .lst _=>eA
 | _=>eK
def WM:Ty->D->Bool
 | .int=>rD
 | .bool=>CH
 | .str=>rA
 | .tuple=>rz
 | .list=>rC
def p6(T:Ty)(f:CO D)(γ:Ctx):Option D:=(f γ).map λd=> .bl (WM T d)
def GN:Ty->Sk->Bool
 | .tuple,.T=>eA
 | .list,.L=>eA
 | _,_=>eK
def LQ(T:Ty)(f:CO (Sk×List D))(γ:Ctx):Option D:=(f γ).map λa=> .bl (GN T a.1)
@[simp] def _p:D->Bool
 | .gm=>eA
 | _=>eK
@[simp] noncomputable def eqB(a:Bool):D->Bool
 | .bl b=>a==b
 | .int b=>(if a then 1 else 0)==b
 | _=>eK
@[simp] noncomputable def j_(a:Int):D->Bool
 | .bl b=>a==(if b then 1 else 0)
 | .int b=>a==b
 | _=>eK
@[simp] def _q(a:Str):D->Bool
 | .str b=>a==b
 | _=>eK
@[simp] def j?(a:Str)(i:Option Int):D->Bool
 | _=>eK
mutual
def ml:D->D->Bool
 | .gm,y=>_p y
 | .bl a,y=>eqB a y
 | .int a,y=>j_ a y
 | .str a,y=>_q a y
 | .tup xs,y=>match y with
  | .tup e=>uf xs e
  | _=>eK
 | .lst xs,y=>match y with
  | .lst e=>uf xs e
  | _=>eK
 | .ow a b,y=>match y with
  | .ow c d=>uf a c && uf b d
  | _=>eK
 | .ni a b,y=>match y with
  | .ni c d=>a==c && uf b d
  | _=>eK
def uf:List D->List D->Bool
 | [],[]=>eA
 | x::xs,y::ys=>ml x y && uf xs ys
 | _,_=>eK
end
mutual
def deep:D->Nat
 | .tup a=>ra a+1
 | .lst a=>ra a+1
 | _=>0
def ra:List D->Nat
 | []=>0
 | x::xs=>max (deep x)<|ra xs
end
mutual
def kA:D->Bool
 | .str x=>x.cps.all (· < 0x110000)
 | .ow _ _=>eK
 | .ni _ _=>eK
 | .tup a=>s9 a
 | .lst a=>s9 a
 | _=>eA
def s9:List D->Bool
 | []=>eA
 | x::xs=>kA x && s9 xs
end
def nf(d:D):Bool:=decide (deep d<=20) && kA d
def hG(x y:D):Option D:=if nf x=eA/\nf y=eA then ej (.bl<|ml x y)else eF
def i7(x y:D):Option D:=if nf x=eA/\nf y=eA then ej (.bl<|!ml x y)else eF
noncomputable def Eb:D->D->Option D
 | x,.gm=>ej (.bl<|match x with | .gm=>eA | _=>eK)
 | _,_=>eF
def zM(f:CO (Sk×List D))(γ:Ctx):Option D:=(f γ).map λa=> .tup a.2
def fI(f:CO (Sk×List D))(γ:Ctx):Option (List D):=(f γ).map λa=>a.2
def fj:List D->Option Int
 | []=>ej 0
 | .int i::r=>(fj r).map λs=>i+s
 | _::_=>eF
def sT(f:CO (Sk×List D))(γ:Ctx):Option D:=(f γ).bind λa=>(fj a.2).map D.int
def As:D->Option Bool
 | .gm=>ej eK
 | .bl b=>ej b
 | .int i=>ej (i != 0)
 | _=>eF
noncomputable def wy:List D->Option (List Bool)
 | []=>ej []
 | d::r=>(As d).bind λb=>(wy r).map λs=>b::s
noncomputable def fK(f:CO (Sk×List D))(γ:Ctx):Option D:=(f γ).bind λa=>(wy a.2).map λs=> .bl (s.all id)
noncomputable def Aw(f:CO (Sk×List D))(γ:Ctx):Option D:=(f γ).bind λa=>(wy a.2).map λs=> .bl (s.any id)
noncomputable def km(f:CO D)(γ:Ctx):Option D:=(f γ).bind λd=>match d with
 | .int i=>ej (.int i)
 | .bl b=>ej (.int<|if b then 1 else 0)
 | _=>eF
noncomputable def Lf(f g:CO D)(γ:Ctx):Option D:=((f γ).bind o4).bind λi=>((g γ).bind o4).map λj=> .int (if j>i then j else i)
def sS(f:CO (Sk×List D))(γ:Ctx):Option Bool:=(f γ).map λa=> !a.2.isEmpty
def EH(f:CO D):CO D:=λa=>((f a).bind o4).map λi=> .int (-i)
noncomputable def kX(F G:D->D->Option D)(C I J:CO D):CO D:=λa=>(C a).bind λx=>(I a).bind λy=>((F x y).bind vl).bind λb=>if b=eA then (J a).bind λz=>G y z else ej (.bl eK)
def fG(T:Tg)(f:CO D)(γ:Ctx):Option Fl:=(f γ).bind λd=>(xH T d γ).map .next
def Ly:D->Option Int
 | .tup (.int k::_)=>ej k
 | _=>eF
noncomputable def Cu:List D->Option (List Int)
 | []=>ej []
 | d::r=>(Ly d).bind λk=>(Cu r).map λl=>k::l
def Iz:List Int->Bool
 | a::b::r=>decide (a<b) && Iz (b::r)
 | _=>eA
noncomputable def Lv(ks:List Int):Nat:=(ks.dropLast.filter λk=>decide<|k<ks.getLast?.getD 0).length
noncomputable def Lz(q:Nat)(ds:List D):List D:=ds.dropLast.take q++(ds.drop (ds.length - 1)++ds.dropLast.drop q)
noncomputable def FY(ds:List D):Option (List D):=(Cu ds).bind λa=>if (1<=ds.length/\ds.length<=8)/\Iz a.dropLast=eA/\decide (a.getLast?.getD 0∈a.dropLast)=eK then ej (Lz (Lv a) ds)else eF
noncomputable def Gc(f:CO (Sk×List D))(γ:Ctx):Option (List D):=(f γ).bind λa=>match a.1 with
 | .L=>FY a.2
 | _=>eF
def Hc:D->Bool
 | .tup _=>eK
 | .lst _=>eK
 | .ow _ _=>eK
 | .ni _ _=>eK
 | _=>eA
end DL
namespace L2
open PySem PySem.Spec PyProof.Rows
noncomputable def lp(k:Sk)(h:gB)(i l:fe)(n:Nat):Prop:=match k with
 | .L=>h.IsListIter i l n
 | .T=>h.IsTupleIter i l n
noncomputable def m5(k:Sk)(h:gB)(l:fe)(xs:Array fh):Prop:=match k with
 | .L=>h.IsList l xs
 | .T=>h.IsTuple l xs
noncomputable def i9(k:Sk)(l:fe):pa:=match k with
 | .L=>{cls:= .type "list_iterator",data:= .fields #[.ref l,.int 0 0]}
 | .T=>{cls:= .type "tuple_iterator",data:= .fields #[.ref l,.int 0 0]}
theorem lp.at(x:lp k h i l n)(e : ∀o,h.get? i=ej o->h'.get? i=ej o):lp k h' i l n:=by cases k<;>exact let ⟨o,z,r⟩:=x;⟨o,e _ z,r⟩
theorem m5.at(x:m5 k h l xs)(e : ∀o,h.get? l=ej o->h'.get? l=ej o):m5 k h' l xs:=by cases k<;>exact let ⟨o,z,r⟩:=x;⟨o,e _ z,r⟩
theorem lp.obj(x:lp k h i l n) : ∃o,h.get? i=ej o/\∀v,o.data ≠ .cell v:=by cases k<;>exact let ⟨o,I,_,d⟩:=x;⟨o,I,λv z=>by rw[d]at z;cases z⟩
theorem m5.lt(x:m5 k h l xs):l<h.objs.size:=by cases k<;>exact let ⟨o,z,_⟩:=x;MB z
theorem Zl(k:Sk)(h:gB)(l:fe):lp k (h.push<|i9 k l) h.objs.size l 0:=by cases k<;>exact⟨_,Mz _ rfl,rfl,rfl⟩
section
variable{prog:l6}{w:i8}{A:o6}{E:EQ}{s:f6}
theorem Ji(z:m5 k s.heap l xs)(I:Q (.ref s.heap.objs.size) {s with heap:=s.heap.push (i9 k l)}):wpAny (f7 prog w) A (R3<|.ref l) Q E s:=by
 cases k
 ·exact Tq z I
 ·exact Sa z I
theorem xB(O:lp k s.heap it l i)(U:m5 k s.heap l items)(hx:items[i]? = ej x)
 (Y : ∀h',lp k h' it l (i+1)->ON it s.heap h'->Q x {s with heap:=h'}):wpAny (f7 prog w) A (MC<|.ref it) Q E s:=by
 cases k with
 | L=>exact wpAny_nextOf_list_item O U hx Y
 | T=>
  have I:s.heap.IsTupleIter it l i:=O;obtain⟨o,z,e,a⟩:=id I;obtain⟨g,b,_,f,d⟩:=(show s.heap.IsTuple l items from U);unfold MC;refine Md (NF (name:=Nj "__next__") I.typeIs RQ (NZ RQ I.typeIs _o ?_ (_j _)));refine Md (m:=field (.ref it) 0) (Ni z a (x:= .ref l) rfl ?_);show wpAny _ _ (if (NS l==Nd)=eA then _ else _) _ _ s;rw[UY (show ¬((NS l==Nd)=eA)from MW)];refine Md (m:=field (.ref it) 1) (Ni z a (x:= .int i 0) rfl ?_);refine Md (m:=seqItems? (.ref l)) (NG b d ?_);simp only[NY,hx];refine Md (wpAny_setField z a ⋯ (Mq ⟨x,rfl,Mq (Y _ ?_ (Sb ..))⟩));show Heap.IsTupleIter _ it l (i+1);exact⟨_,Rj _ z (Obj.isFreed_of_fields (X2 a _)),(Obj.cls_mapFields ..).trans e,by rw[X2 a];simp[Dh]⟩
theorem vT(z:A.handled=eF)(U:lp k s.heap it l i)(Y:m5 k s.heap l items)(hx:items[i]? = eF)
 (hE : ∀h' e,Heap.ExtBut it s.heap h'->(∃o,h'.get? e=ej o/\o.cls = .type "StopIteration")->E (.ref e) {s with heap:=h'}):wpAny (f7 prog w) A (MC (.ref it)) Q E s:=by
 cases k with
 | L=>exact wpAny_nextOf_list_end z U Y hx hE
 | T=>
  have I:s.heap.IsTupleIter it l i:=U;obtain⟨o,O,g,b⟩:=id I;obtain⟨j,d,_,h,f⟩:=(show s.heap.IsTuple l items from Y);unfold MC;refine Md (NF (name:=Nj "__next__") I.typeIs RQ (NZ RQ I.typeIs _o ?_ (_j _)));refine Md (m:=field (.ref it) 0) (Ni O b (x:= .ref l) rfl ?_);show wpAny _ _ (if (NS l==Nd)=eA then _ else _) _ _ s;rw[UY (show ¬((NS l==Nd)=eA)from MW)];refine Md (m:=field (.ref it) 1) (Ni O b (x:= .int i 0) rfl ?_);refine Md (m:=seqItems? (.ref l)) (NG d f ?_);simp only[NY,hx];refine Md (PU (Md (wpAny_setField O b ⋯ ?_)));refine Md (m:=newExc (.type "StopIteration") []) ?_;simp only[newExc,z_];refine Md (Oa ?_ (by size_fits));refine Md (m:=Uc _ _) (wpAny_of_eq (a:=Nd) (by first | rfl | (simp only[Uc];rfl)) ?_);refine Oa ?_ (by size_fits);simp only[raiseNew];refine Md (wpAny_handled ?_)
  first | rw[show A.in1.handled=eF from z] | rw[z]
  exact Md<|Mq<|wpAny_throw<|hE _ _ (((Sb ..).extBut.push _).push _) ⟨_,Mz _ rfl,rfl⟩
theorem dY{k1 k2:Sk}{z TI TO C J Z l2:fe}{n1 n2:Nat}{xs ys:Array fh}{x y a b:fh}{Q:EQ}(D:TQ z TI TO C J Z l2)
 (S:p9 s.heap z TI TO .none) (be:rp s.heap TI (.ref C) (.ref J)) (bf:rp s.heap TO a b)
 (h1:lp k1 s.heap C Z n1) (h2:lp k2 s.heap J l2 n2) (bg:m5 k1 s.heap Z xs) (bi:m5 k2 s.heap l2 ys) (hx:xs[n1]? = ej x) (hy:ys[n2]? = ej y)
 (hQ : ∀h',p9 h' z TI TO (Dh s.heap.objs.size)->rp h' TO x y->lp k1 h' C Z (n1+1)->lp k2 h' J l2 (n2+1)->rp h' s.heap.objs.size x y->h'.objs.size=s.heap.objs.size+1->
   (∀c o,c≠z->c≠TO->c≠C->c≠J->s.heap.get? c=ej o->h'.get? c=ej o)->Q (.ref s.heap.objs.size) {s with heap:=h'}) :
 wpAny (f7 prog w) A (rn.«zip.__next__» ⟨[.ref z],[]⟩) (λbn s'=>∃v,bn = .done (.ret v)/\Q v s') E s:=by
 refine Md (m:=field (.ref z) 2)<|Ni S rfl (x:= .bool eK) rfl ?_;refine Md (m:=field (.ref z) 3)<|Ni S rfl (x:= .ref TI) rfl ?_;refine Md<|NG be rfl ?_;refine Md (m:=MQ<|.ref z) ?_;unfold MQ;refine Md<|Ni S rfl (x:= .none) rfl<|Mq ?_;simp only[if_true];refine Md<|PU<|Md<|Ni S rfl (x:= .ref TO) rfl ?_;refine Md<|Np S ⋯ λg1 p O=>?_;replace p:p9 g1 z TI TO .ellipsis:=p;refine Md ?_;simp only[Sg,Sq,Rz,RO];refine Md<|Md<|OI ?_;refine Md (m:=MC<|.ref C)<|xB (h1.at λo e=>O.extBut _ _ D.i1z e) (bg.at λo e=>O.extBut _ _ D.l1z e) hx λg2 R Y=>Mq ?_;have H:rp g2 TO a b:=Y.extBut _ _ D.TOi1<|O.extBut _ _ D.TOz bf;refine Md<|NG H rfl<|Md<|SU H λg3 r d=>?_;replace r:rp g3 TO x b:=r;refine Md<|Pj<|Mq<|Md<|Md<|OI ?_;refine Md (m:=MC<|.ref J)<|xB (h2.at λo e=>d.extBut _ _ D.TOi2.symm<|Y.extBut _ _ D.i12.symm<|O.extBut _ _ D.i2z e) (bi.at λo e=>d.extBut _ _ D.l2TO<|Y.extBut _ _ D.l2i1<|O.extBut _ _ D.l2z e) hy λg4 T f=>Mq ?_;have K:rp g4 TO x b:=f.extBut _ _ D.TOi2 r;refine Md<|NG K rfl<|Md<|SU K λI j g=>?_;replace j:rp I TO x y:=j;refine Md<|Pj<|Mq<|Mq<|Md<|NG j rfl<|Md<|Sd ?_;have i:I.objs.size=s.heap.objs.size:=by rw[g.1,f.1,d.1,Y.1,O.1]
 have L:p9 I z TI TO .ellipsis:=g.extBut _ _ D.TOz.symm (f.extBut _ _ D.i2z.symm (d.extBut _ _ D.TOz.symm (Y.extBut _ _ D.i1z.symm p)));have c7 : ∀c o,c≠z->c≠TO->c≠C->c≠J->s.heap.get? c=ej o->I.get? c=ej o:=λc o U l F G e=>g.extBut _ _ l (f.extBut _ _ G (d.extBut _ _ l (Y.extBut _ _ F (O.extBut _ _ U e))));have W:lp k1 I C Z (n1+1):=R.at λo e=>g.extBut _ _ D.TOi1.symm (f.extBut _ _ D.i12 (d.extBut _ _ D.TOi1.symm e));have X:lp k2 I J l2 (n2+1):=T.at λo e=>g.extBut _ _ D.TOi2.symm e;have M:z<I.objs.size:=MB L;refine Md (m:=NC (.ref z) (.ref I.objs.size)) ?_;unfold NC;have ca:p9 (I.push {cls:= .type "tuple",data:= .seq #[x,y]}) z TI TO .ellipsis:=Mh _ L;refine Md (Np ca ⋯ λg7 t u=>?_);replace t:p9 g7 z TI TO (Dh I.objs.size):=t;refine Np t ⋯ λh k B=>?_;replace k:p9 h z TI TO (Dh I.objs.size):=k;have n : ∀c o,c≠z->I.get? c=ej o->h.get? c=ej o:=λc o U e=>B.extBut _ _ U (u.extBut _ _ U (Mh _ e));have N:rp h I.objs.size x y:=B.extBut _ _ (Ob M) (u.extBut _ _ (Ob M) (Mz _ rfl));have P:h.objs.size=I.objs.size+1:=by rw[B.1,u.1,MX]
 rw[i]at k N P;refine Mq ⟨_,rfl,?_⟩;show Q (.ref I.objs.size) _;rw[i];exact hQ h k (n _ _ D.TOz j) (W.at λo e=>n _ o D.i1z e) (X.at λo e=>n _ o D.i2z e) N P λc o U l F G e=>n c o U<|c7 c o U l F G e
theorem mj{k1 k2:Sk}{z TI TO C J Z l2:fe}{n1 n2:Nat}{xs ys:Array fh}{a b:fh}{Q:Fin->f6->Prop}(hh:A.handled=eF)(D:TQ z TI TO C J Z l2)
 (S:p9 s.heap z TI TO .none) (b5:rp s.heap TI (.ref C) (.ref J)) (b6:rp s.heap TO a b)
 (h1:lp k1 s.heap C Z n1) (h2:lp k2 s.heap J l2 n2) (ap:m5 k1 s.heap Z xs) (b7:m5 k2 s.heap l2 ys) (b8:xs[n1]? = eF\/ys[n2]? = eF)
 (hE : ∀h' e,(∀c o,c≠z->c≠TO->c≠C->c≠J->s.heap.get? c=ej o->h'.get? c=ej o)->(∃o,h'.get? e=ej o/\o.cls = .type "StopIteration")->E (.ref e) {s with heap:=h'}) :
 wpAny (f7 prog w) A (rn.«zip.__next__» ⟨[.ref z],[]⟩) Q E s:=by
 refine Md (m:=field (.ref z) 2) (Ni S rfl (x:= .bool eK) rfl ?_);refine Md (m:=field (.ref z) 3) (Ni S rfl (x:= .ref TI) rfl ?_);refine Md (NG b5 rfl ?_);refine Md (m:=MQ (.ref z)) ?_;unfold MQ;refine Md (Ni S rfl (x:= .none) rfl (Mq ?_));simp only[if_true];refine Md (PU (Md (Ni S rfl (x:= .ref TO) rfl ?_)));refine Md (Np S ⋯ λg1 k I=>?_);replace k:p9 g1 z TI TO .ellipsis:=k;refine Md ?_;simp only[Sg,Sq,Rz,RO];refine Md (Md (OI ?_));have r : ∀{g e:_} {i:pa},p9 g z TI TO .ellipsis->(∀c o,c≠z->c≠TO->c≠C->c≠J->s.heap.get? c=ej o->g.get? c=ej o)->g.get? e=ej i->i.cls = .type "StopIteration"->
  wpAny (f7 prog w) A (UI (.ref z) 0 .none) (λ_ F=>E (.ref e) F) E {s with heap:=g}:=λ{g e i} nr hk U d=>by
  have y:e≠z:=λq=>by subst q;rw[nr]at U;cases U;simp at d
  exact Np nr ⋯ λg3 _ Y=>hE g3 e (λc o f l j n q=>Y.extBut _ _ f<|hk c o f l j n q) ⟨i,Y.extBut _ _ y U,d⟩
 cases hx:xs[n1]? with
 | none=>
  refine Md (m:=MC<|.ref C)<|vT hh (h1.at λo e=>I.extBut _ _ D.i1z e) (ap.at λo e=>I.extBut _ _ D.l1z e) hx λg2 e O p=>?_;obtain⟨i,U,d⟩:=p;exact r (O _ _ D.i1z.symm k) (λc o f _ j _ q=>O _ _ j<|I.extBut _ _ f q) U d
 | some x=>
  have B:ys[n2]? = eF:=by rcases b8 with h | h;rw[hx]at h;cases h;exact h
  refine Md (m:=MC<|.ref C)<|xB (h1.at λo e=>I.extBut _ _ D.i1z e) (ap.at λo e=>I.extBut _ _ D.l1z e) hx λg2 G O=>Mq ?_;have t:rp g2 TO a b:=O.extBut _ _ D.TOi1<|I.extBut _ _ D.TOz b6;refine Md<|NG t rfl<|Md<|SU t λg3 H Y=>?_;refine Md<|Pj<|Mq<|Md<|Md<|OI ?_;refine Md (m:=MC<|.ref J)<|vT hh (h2.at λo e=>Y.extBut _ _ D.TOi2.symm<|O.extBut _ _ D.i12.symm<|I.extBut _ _ D.i2z e) (b7.at λo e=>Y.extBut _ _ D.l2TO<|O.extBut _ _ D.l2i1<|I.extBut _ _ D.l2z e) B λK e u p=>?_;obtain⟨i,U,d⟩:=p;exact r (u _ _ D.i2z.symm<|Y.extBut _ _ D.TOz.symm<|O.extBut _ _ D.i1z.symm k) (λc o f l j n q=>u _ _ n<|Y.extBut _ _ l<|O.extBut _ _ j<|I.extBut _ _ f q) U d
end
def ZH(a b:fh):pa:={cls:= .type "tuple",data:= .seq #[a,b]}
noncomputable def Ar(TI TO:fe):pa:={cls:= .type "zip",data:= .fields #[.none,.bool eK,.bool eK,.ref TI,.ref TO]}
noncomputable def XC(z I:Sk)(h:gB)(C J:fe):gB:=
 MG (MG (MG (MG (MG h<|i9 z C)<|i9 I J)<|ZH (.ref h.objs.size)<|.ref<|h.objs.size+1)<|ZH .none .none) (Ar (h.objs.size+2)<|h.objs.size+3)
theorem mi(z I:Sk)(C J:fe)(xs ys:Array fh) :
 F0 (rn.«zip.__new__» ⟨[.type "zip",.ref C,.ref J],[]⟩) (λ_ R s=>m5 z s.heap C xs/\m5 I s.heap J ys/\
  R (.ok<|.ret<|.ref<|s.heap.objs.size+4) {s with heap:=XC z I s.heap C J}):=
 .of_wp λa w A R s h=>by
  obtain⟨O,g,d,U,os⟩:=s;obtain⟨Y,b,h⟩:=h;have j:=sub_zip;have f:m5 z (RV ⟨O,g,d,U,os⟩) C xs:=Y;have i:m5 I (RV ⟨O.push<|i9 z C,g,d,U,os⟩) J ys:=b.at λo e=>Mh _ e
  wp_walk using Ji f,Ji i
  refine⟨_,rfl,?_⟩;simp only[XC,ZH,Ar,MX]at h ⊢;exact h
section
variable{X:Cx}{pins:UQ}{σ:St}{H:Hp}{s:f6}{h':gB}
theorem Inv.S4{t':Nat}{fp:List fe}{a:fe}{o:HO}(I:Inv X pins σ H s)(k : ∀b u,b∉fp->s.heap.get? b=ej u->h'.get? b=ej u)(Y : ∀b∈fp,Jm X pins H b)
 (C:s.heap.objs.size<=a) (new:nh X.prog X.w (upd H a o) h' a o):Inv X pins σ (upd H a o) {s with heap:=h',toks:=t'}:=by
 have d:H a=eF:=I.g5.fresh C;have g : ∀b u,H b=ej u->b∉fp:=λb u e z=>by rw[(Y b z).1]at e;cases e
 have i : ∀b u,s.heap.get? b=ej u->b≠a:=λb u e=>MP<|MI (MB e) C;refine I.step (g':=s.gens) (d':=s.drawn) (ch:=fp) (λb O=>⟨(Y b O).2.2.2.1,(Y b O).2.1,(Y b O).2.2.2.2.1,(Y b O).2.2.2.2.2⟩) (λb u _ _ U e _=>k b u U e) (λb u _ _ U e _=>⟨u.slots,k b u U e⟩)
  (λb u _ e n=>by rw[zL (i b u e)];exact n) (λb u U e=>⟨u,k b u U e⟩) (λb h e=>by rw[zL (qr e d)];exact e) (λb f h e=>by rw[zL (qr e d)];exact e)
  (λb x e=>⟨#[],by rw[zL (qr e d),e];simp⟩) (λm p=>?_) (λb u e=>?_) I.bare
 ·obtain⟨f,l,j,t,r⟩:=p
  refine⟨f,l,j,k _ f (λz=>(Y _ z).2.1 rfl) t,r⟩
 ·by_cases O:b=a
  ·subst O;rw[zQ]at e;cases e;exact new
  ·rw[zL O]at e
   refine(I.g5 b u e).DX (λc v U q=>k c v ?_ q) (λc q=>by rw[zL (qr q d)];exact q) λc h q=>by rw[zL (qr q d)];exact q
   rcases U with z | z
   ·rw[z];exact g b u e
   ·exact g c _ z
theorem Inv.Dk{t':Nat}{fp:List fe}(I:Inv X pins σ H s)(k : ∀b u,b∉fp->s.heap.get? b=ej u->h'.get? b=ej u)(U : ∀b∈fp,Jm X pins H b):Inv X pins σ H {s with heap:=h',toks:=t'}:=by
 have d : ∀b u,H b=ej u->b∉fp:=λb u e z=>by rw[(U b z).1]at e;cases e
 refine I.step (g':=s.gens) (d':=s.drawn) (ch:=fp) (λb Y=>⟨(U b Y).2.2.2.1,(U b Y).2.1,(U b Y).2.2.2.2.1,(U b Y).2.2.2.2.2⟩) (λb u _ _ O e _=>k b u O e) (λb u _ _ O e _=>⟨u.slots,k b u O e⟩)
  (λb u _ e n=>n) (λb u O e=>⟨u,k b u O e⟩) (λb f e=>e) (λb a f e=>e)
  (λb l e=>⟨#[],by rw[e];simp⟩) (λm i=>?_) (λb u e=>?_) I.bare
 ·obtain⟨a,h,g,j,r⟩:=i
  refine⟨a,h,g,k _ a (λz=>(U _ z).2.1 rfl) j,r⟩
 ·refine(I.g5 b u e).DX (λc v O q=>k c v ?_ q) (λc q=>q) λc f q=>q
  rcases O with z | z
  ·rw[z];exact d b u e
  ·exact d c _ z
end
noncomputable def l7(k:Sk)(K:Mf)(H:Hp)(a:fe)(xs:List V):Prop:=match k with
 | .L=>h9 K H a xs
 | .T=>i5 K H a xs
theorem Inv.sq(I:Inv X pins σ H s)(h:l7 k X.K H a xs) :
 ∃O:List fh,gv xs O/\m5 k s.heap a O.toArray/\xs.length<=hB:=by
 cases k with
 | L=>obtain⟨O,r,p,z⟩:=I.list h;exact⟨O,r,p.isList,z⟩
 | T=>obtain⟨O,r,p,z⟩:=I.tuple h;exact⟨O,r,p,z⟩
theorem Inv.Ht(I:Inv X pins σ H s)(h:l7 k X.K H a xs)(h':l7 k X.K H a ys):xs=ys:=by
 cases k with
 | L=>exact I.Ur h h'
 | T=>exact I.L' h h'
noncomputable def Tz(z I:Sk)(K:Mf)(a b:fe):It:=
 ⟨λi H=>∃d e,l7 z K H a d/\l7 I K H b e/\i<d.length/\i<e.length,
  λi H x f=>∃p u v,x = .ref p/\H p=eF/\f=upd H p (.tup [u,v])/\(∀d,l7 z K H a d->d[i]? = ej u)/\(∀e,l7 I K H b e->e[i]? = ej v),
  λi H=>∃d e,l7 z K H a d/\l7 I K H b e/\(d.length<=i\/e.length<=i)⟩
theorem mD{P:l6}{w:i8}{K:Mf}{elts:List fA}{x1:Nat}{u6:h8}(k1 k2:Sk){z TI TO i1 i2 a b:fe}(D:TQ z TI TO i1 i2 a b) :
 Turn P w K (.Tuple elts x1 u6) (Tz k1 k2 K a b) [z,TI,TO,i1,i2] z (λi h=>p9 h z TI TO .none/\rp h TI (.ref i1) (.ref i2)/\(∃c d,rp h TO c d)/\lp k1 h i1 a i/\lp k2 h i2 b i) where
 mem:=by simp
 obj:=λi h ⟨U,a0,⟨c,d,a8⟩,h1,h2⟩ y hy=>by
  simp only[Mu,ML,or_false]at hy;rcases hy with rfl | rfl | rfl | rfl | rfl
  ·exact⟨_,U,λv q=>by cases q⟩
  ·exact⟨_,a0,λv q=>by cases q⟩
  ·exact⟨_,a8,λv q=>by cases q⟩
  ·exact h1.obj
  ·exact h2.obj
 keep:=λi h h' ⟨U,a0,⟨c,d,a8⟩,h1,h2⟩ k=>
  ⟨k z ⋯ _ U,k TI ⋯ _ a0,⟨c,d,k TO ⋯ _ a8⟩,h1.at λo e=>k i1 ⋯ o e,h2.at λo e=>k i2 ⋯ o e⟩
 item:=by
  rintro X hP hw hK hc i pins s σ H E I hf ⟨U,a0,⟨c,d,a8⟩,h1,h2⟩ ⟨xs,ys,ap,ar,be,bf⟩;subst hP hw hK;obtain⟨bg,b0,p1,z1⟩:=I.sq ap;obtain⟨bl,b6,p2,z2⟩:=I.sq ar;have hx:xs[i]? = ej xs[i]:=Mi be;have hy:ys[i]? = ej ys[i]:=Mi bf;obtain⟨u1,bn,bv⟩:=b0.get hx;obtain⟨u2,bx,c0⟩:=b6.get hy;have hT:s.TypeIs (.ref z) "zip":=⟨_,U,rfl⟩;unfold DV;refine Md (Rf (NF (name:=Nj "__next__") hT OO (NZ OO hT Su
   (dY D U a0 a8 h1 h2 p1 p2 (x:=u1) (y:=u2) (by simpa using bn) (by simpa using bx) λg a1 a2 a3 a4 a5 a6 a7=>Mq ⟨_,rfl,?_⟩) (Sl _))))
  refine d? a1 λg2 nr a9=>?_;have lt : ∀{c o},s.heap.get? c=ej o->s.heap.objs.size≠c:=λe=>Ob<|MB e;have c6:rp g2 s.heap.objs.size u1 u2:=a9.extBut _ _ (lt U) a5;have kk : ∀Y u,Y ∉ [z,TI,TO,i1,i2]->s.heap.get? Y=ej u->g2.get? Y=ej u:=λY u O e=>by simp only[Mu,ML,or_false,not_or]at O;exact a9.extBut _ _ O.1<|a7 Y u O.1 O.2.2.1 O.2.2.2.1 O.2.2.2.2 e
  have I1:Inv X pins σ (upd H s.heap.objs.size<|.tup [xs[i],ys[i]]) {s with heap:=g2,toks:=s.toks}:=
   I.S4 (fp:=[z,TI,TO,i1,i2]) kk hf (Mp _) ⟨by show 2<=hB;decide,[u1,u2],.cons bv<|.cons c0 .nil,⟨_,c6,rfl,_,rfl⟩⟩
  have c8:H s.heap.objs.size=eF:=I.fresh;refine⟨.ref s.heap.objs.size,_,I1,rfl,⟨_,_,_,rfl,c8,rfl,λci b7=>by rw[I.Ht b7 ap];exact hx,λcj b7=>by rw[I.Ht b7 ar];exact hy⟩,?_,λY O=>?_⟩
  ·exact⟨nr,a9.extBut _ _ D.TIz<|a7 _ _ D.TIz D.TITO D.TIi1 D.TIi2 a0,⟨_,_,a9.extBut _ _ D.TOz a2⟩,a3.at λo e=>a9.extBut _ _ D.i1z e,a4.at λo e=>a9.extBut _ _ D.i2z e⟩
  ·have c9:Y≠s.heap.objs.size:=by
    simp only[Mu,ML,or_false]at O;rcases O with rfl | rfl | rfl | rfl | rfl
    ·exact(lt U).symm
    ·exact(lt a0).symm
    ·exact(lt a8).symm
    ·obtain⟨o,e,_⟩:=h1.obj;exact(lt e).symm
    ·obtain⟨o,e,_⟩:=h2.obj;exact(lt e).symm
   rw[zL c9];exact(hf Y O).1
 done:=by
  rintro X hP hw hK hc i pins s σ H E I hf ⟨U,a0,⟨c,d,a8⟩,h1,h2⟩ ⟨xs,ys,ap,ar,hi⟩;subst hP hw hK;obtain⟨bg,b0,p1,z1⟩:=I.sq ap;obtain⟨bl,b6,p2,z2⟩:=I.sq ar;have hT:s.TypeIs (.ref z) "zip":=⟨_,U,rfl⟩;have l1:=b0.length;have l2:=b6.length;unfold DV;refine Md (Rf (NF (name:=Nj "__next__") hT OO (NZ OO hT Su
   (mj (show X.A.handled=eF from I.ok.hd hc) D U a0 a8 h1 h2 p1 p2 (by rcases hi with q | q;left;simp;omega;right;simp;omega) λg e hk he=>?_) (Sl _))))
  obtain⟨o,ho,ce⟩:=he;refine Md (Tu (T:="StopIteration") (b:=eA) ⟨o,ho,ce⟩ o_ (Mq ⟨rfl,?_⟩));refine I.Dk (t':=s.toks) (fp:=[z,TI,TO,i1,i2]) (λY u O e=>?_) hf;simp only[Mu,ML,or_false,not_or]at O;exact hk Y u O.1 O.2.2.1 O.2.2.2.1 O.2.2.2.2 e
 self:=λ_ _ _ _ _ st h=>Sz st.1 h
noncomputable def LA(K:Mf)(C:TA):TI:=λh H R=>C h H λe d=>∃z I a b,e=[.ref a,.ref b]/\(∃f,l7 z K d a f)/\(∃g,l7 I K d b g)/\R (Tz z I K a b) d
theorem BK{X:Cx}{S U:fA}{ta:TA}{p pos:h8}{C:List fA}{x1:Nat}{J:h8}(hg:Gl X "zip")(hm:X.mg "zip" = eF)(ha:PA X [S,U] ta)
 (hv:Dd "zip" = ej (.type "zip")) (hs:g8 [S,U] X.env=[(eK,fy S X.env),(eK,fy U X.env)]:=by rfl) (Z:g8 [U] X.env=[(eK,fy U X.env)]:=by rfl) :
 PI X (.Tuple C x1 J) (.Call (.Name "zip" p) [S,U] [] pos) (LA X.K ta):=by
 intro g s B H R I h;refine D4 (kj I hg hm hv<|Nr (gu (ha pos g s B H _ I h) λus d W=>?_) (by rw[hs,Z])<|by rw[Z];rfl);obtain⟨vs,l,Y,r1,q1⟩:=W;obtain⟨z,O,a,b,e,⟨xs,G⟩,⟨ys,L⟩,q⟩:=q1;subst e;obtain⟨w1,w2,T,M,N⟩:=AI r1;subst T;cases M;cases N;obtain⟨P,bn,u,z1⟩:=Y.sq G;obtain⟨Q,bx,w,z2⟩:=Y.sq L;have la:=u.lt;have lb:=w.lt;refine g_ F.called_zip ⋯ (F.typeCall_zip_2 _ _) (F.newCall_zip_2 _ _) (λobj=>F.args_object_init_3 obj _ _) F.entry_zip_new (mi z O a b P.toArray Q.toArray) ⟨u,w,?_⟩;have keep : ∀c o,d.heap.get? c=ej o->(XC z O d.heap a b).get? c=ej o:=λc o e=>
  Mh _ (Mh _<|Mh _<|Mh _<|Mh _ e)
 have x:(MG d.heap<|i9 z a).objs.size=d.heap.objs.size+1:=MX ..;have y:(MG (MG d.heap<|i9 z a)<|i9 O b).objs.size=d.heap.objs.size+2:=by rw[MX,x]
 have A:(MG (MG (MG d.heap<|i9 z a)<|i9 O b)<|ZH (.ref d.heap.objs.size)<|.ref<|d.heap.objs.size+1).objs.size=d.heap.objs.size+3:=by rw[MX,y]
 have y4:(MG (MG (MG (MG d.heap<|i9 z a)<|i9 O b)<|ZH (.ref d.heap.objs.size)<|.ref<|d.heap.objs.size+1)<|ZH .none .none).objs.size=d.heap.objs.size+4:=by rw[MX,A]
 have g0:lp z (XC z O d.heap a b) d.heap.objs.size a 0:=(Zl z d.heap a).at λo e=>Mh _<|Mh _<|Mh _<|Mh _ e;have g1:lp O (XC z O d.heap a b) (d.heap.objs.size+1) b 0:=by have q:=Zl O (MG d.heap<|i9 z a) b;rw[x]at q;exact q.at λo e=>Mh _<|Mh _<|Mh _ e
 have g2:rp (XC z O d.heap a b) (d.heap.objs.size+2) (.ref d.heap.objs.size) (.ref<|d.heap.objs.size+1):=by have q:_=ej (ZH (.ref d.heap.objs.size)<|.ref<|d.heap.objs.size+1):=Mz (MG (MG d.heap<|i9 z a)<|i9 O b) (o:=ZH (.ref d.heap.objs.size)<|.ref<|d.heap.objs.size+1) rfl;rw[y]at q;exact Mh _<|Mh _ q
 have g3:rp (XC z O d.heap a b) (d.heap.objs.size+3) .none .none:=by have q:_=ej (ZH .none .none):=Mz (MG (MG (MG d.heap<|i9 z a)<|i9 O b)<|ZH (.ref d.heap.objs.size)<|.ref<|d.heap.objs.size+1) (o:=ZH .none .none) rfl;rw[A]at q;exact Mh _ q
 have k:p9 (XC z O d.heap a b) (d.heap.objs.size+4) (d.heap.objs.size+2) (d.heap.objs.size+3) .none:=by have q:=Mz (MG (MG (MG (MG d.heap<|i9 z a)<|i9 O b)<|ZH (.ref d.heap.objs.size)<|.ref<|d.heap.objs.size+1)<|ZH .none .none) (o:=Ar (d.heap.objs.size+2)<|d.heap.objs.size+3) rfl;rw[y4]at q;exact q
 refine⟨⟨_,k,rfl⟩,Sz (s:={d with heap:=XC z O d.heap a b}) k ?_⟩;have E:Inv X g B l {d with heap:=XC z O d.heap a b,toks:=d.toks}:=Y.kept keep;have nn : ∀m:Nat,d.heap.objs.size≠d.heap.objs.size+m+1:=λm=>by omega
 have i : ∀m:Nat,a≠d.heap.objs.size+m:=λm=>MP<|MI la<|MS _ m;have j : ∀m:Nat,b≠d.heap.objs.size+m:=λm=>MP<|MI lb<|MS _ m;have f : ∀m n:Nat,m≠n->(d.heap.objs.size+m:Nat)≠d.heap.objs.size+n:=λm n h=>by omega
 have D:TQ (d.heap.objs.size+4) (d.heap.objs.size+2) (d.heap.objs.size+3) d.heap.objs.size (d.heap.objs.size+1) a b:=
  ⟨f 2 4 ⋯,f 3 4 ⋯,f 0 4 ⋯,f 1 4 ⋯,f 2 3 ⋯,f 2 0 ⋯,f 2 1 ⋯,f 3 0 ⋯,f 3 1 ⋯,f 0 1 ⋯,
   i 4,i 3,i 0,i 1,j 4,j 3,j 0,j 1⟩
 refine⟨_,[d.heap.objs.size+4,d.heap.objs.size+2,d.heap.objs.size+3,d.heap.objs.size,d.heap.objs.size+1],_,_,l,rfl,E,mD z O D,⟨k,g2,⟨_,_,g3⟩,g0,g1⟩,λc t=>?_,q⟩;have r:d.heap.objs.size<=c:=by
  simp only[Mu,ML,or_false]at t;rcases t with rfl | rfl | rfl | rfl | rfl
  ·exact MS _ _
  ·exact MS _ _
  ·exact MS _ _
  ·exact Mp _
  ·exact MS _ _
 exact Y.C1 r<|Y.g5.fresh r
def U3(k:Sk)(K:Mf)(a:fe):It:=match k with
 | .L=>U4 K a
 | .T=>U5 K a
noncomputable def LC(K:Mf)(C:TE):TI:=λe H R=>C e H λx b=>∃a k,x = .ref a/\(∃d,l7 k K b a d)/\R (U3 k K a) b
theorem gw(U:PE X l tl):PI X tg l (LC X.K tl):=by
 intro d s r H R I h;refine gu (U d s r H _ I h) λv f Y=>?_;obtain⟨x,g,z,n,m⟩:=Y;obtain⟨a,k,e,⟨y,j⟩,q⟩:=m;subst e;cases n;have O : ∀b ∈ [f.heap.objs.size],Jm X d g b:=λb i=>by
  have e:b=f.heap.objs.size:=by simpa using i
  subst e;exact z.C1 (Mp _)<|z.g5.fresh<|Mp _
 obtain⟨t,w,p,u⟩:=z.sq j;cases k with
 | L=>exact Tq p ⟨f.heap.objs.size,[f.heap.objs.size],_,_,g,rfl,z.kept (t':=f.toks) λb o e=>Mh _ e,eO a _,⟨_,Mz _ rfl,rfl,rfl⟩,O,q⟩
 | T=>exact Sa p ⟨f.heap.objs.size,[f.heap.objs.size],_,_,g,rfl,z.kept (t':=f.toks) λb o e=>Mh _ e,cg a _,⟨_,Mz _ rfl,rfl,rfl⟩,O,q⟩
section
variable{κ:Type} [DecidableEq κ]
def ah(C:List (κ×V))(k:κ):Option V:=(C.find? λz=>decide<|z.1=k).map (·.2)
noncomputable def dX(C:List (κ×V))(k:κ)(v:V):List (κ×V):=
 if (C.any λz=>decide<|z.1=k)=eA then C.map (λz=>if z.1=k then (z.1,v)else z)else C++[(k,v)]
theorem KI{p:κ×V}{r:List (κ×V)}{k:κ}(e:p.1=k):ah (p::r) k=ej p.2:=by simp[ah,OM,e]
theorem ag{p:κ×V}{r:List (κ×V)}{k:κ}(e : ¬p.1=k):ah (p::r) k=ah r k:=by simp[ah,OM,e]
theorem QU(C:List (κ×V))(k:κ)(v:V):(dX C k v).length<=C.length+1:=by
 unfold dX;split
 ·rw[MF];omega
 ·rw[NM,MH,MO];omega
theorem B9.n_(r:B9 o u):o.isSome=u.isSome:=by
 cases o with
 | none=>cases u with
  | none=>rfl
  | some _=>exact(show False from r).elim
 | some _=>cases u with
  | none=>exact(show False from r).elim
  | some _=>rfl
theorem KV.val{C:List (κ×V)}{vs:List (κ×fh)}(r:KV C vs)(k:κ):B9 (ah C k) (Ig vs k):=by
 unfold KV at r
 induction r with
 | nil=>exact Oq
 | @cons p q f I h t U=>
  obtain⟨a,d⟩:=h;by_cases e:p.1=k
  ·have O:q.1=k:=a.symm.trans e
   have b:Ig (q::I) k=ej q.2:=by simp[Ig,OM,O]
   rw[KI e,b];exact d
  ·have O : ¬q.1=k:=λz=>e (a.trans z)
   have b:Ig (q::I) k=Ig I k:=by simp[Ig,OM,O]
   rw[ag e,b];exact U
theorem KV.any(r:KV o1 vs)(k:κ):(o1.any λz=>decide<|z.1=k)=vs.any λz=>decide (z.1=k):=by
 unfold KV at r
 induction r with
 | nil=>rfl
 | cons h t I=>rw[PN,PN,I,h.1]
theorem KV._K(r:KV o1 vs)(k:κ)(O:RelV y u) :
 KV (o1.map λI=>if I.1=k then (I.1,y)else I) (vs.map λI=>if I.1=k then (I.1,u)else I):=by
 unfold KV at r ⊢
 induction r with
 | nil=>exact .nil
 | @cons p q d Y h t U=>
  rw[MT,MT];refine .cons ?_ U;obtain⟨a,b⟩:=h;by_cases e:p.1=k
  ·rw[UJ e,UJ (a.symm.trans e)];exact⟨a,O⟩
  ·rw[UY e,UY (λz=>e<|a.trans z)];exact⟨a,b⟩
theorem KV.put(r:KV o1 vs)(k:κ)(z:RelV y u):KV (dX o1 k y) (stored vs k u):=by
 unfold dX stored;rw[r.any k];by_cases e:(vs.any λI=>decide<|I.1=k)=eA
 ·rw[UJ e,UJ e];exact r._K k z
 ·rw[UY e,UY e];exact Paired.snoc r ⟨rfl,z⟩
theorem KV.length(r:KV o1 vs):o1.length=vs.length:=Paired.length r
end
theorem oz(r:RelV (kV k) u):(xP P w).is k u=eA:=by
 cases k with
 | inl i=>obtain⟨t,e⟩:=(show ∃t,u=Sn i t from r);subst e;exact WB P w i t
 | inr x=>obtain⟨t,e⟩:=(show ∃t,u=Sm x t from r);subst e;exact WA P w x t
theorem Vz : ∀{ks:List Key} {us:List fh},gv (ks.map kV) us->ItemsAre (xP P w) ks us
 | [],_,r=>by rw[RK]at r;cases r;exact .nil
 | k::ks,_,r=>by
  rw[MT]at r;cases r with
  | cons h t=>exact .cons (oz h)<|Vz t
abbrev KT(H:Hp):List (List Key×V)->List (List Key×fe×fh)->Prop:=Paired λp q=>p.1=q.1/\H q.2.1=ej (.tup (p.1.map kV))/\RelV p.2 q.2.2
theorem KT.val{H:Hp}{C:List (List Key×V)}{xs:List (List Key×fe×fh)}(r:KT H C xs)(k:List Key):B9 (ah C k) ((F4 xs k).map (·.2)):=by
 induction r with
 | nil=>exact Oq
 | @cons p q f I h t U=>
  obtain⟨a,_,d⟩:=h;by_cases e:p.1=k
  ·have O:q.1=k:=a.symm.trans e
   have b:F4 (q::I) k=ej q.2:=by simp[F4,OM,O]
   rw[KI e,b];exact d
  ·have O : ¬q.1=k:=λz=>e (a.trans z)
   have b:F4 (q::I) k=F4 I k:=by simp[F4,OM,O]
   rw[ag e,b];exact U
section
variable{P:l6}{w:i8}{H:Hp}{h:gB}{a:fe}
theorem Bn(ok:n6 P w H h)(e:Rd H a u):nh P w H h a u:=e.ok ok
theorem oO(ok:n6 P w H h)(e:Rd H a (.dK o1)):o1.length<=hB/\(a==DF)=eK/\∃vs,KV o1 vs/\h.DictOf (xP P w) a vs:=
 show nh P w H h a (.dK o1)from Bn ok e
theorem CY(ok:n6 P w H h)(e:H a=ej (.dK o1)):o1.length<=hB/\(a==DF)=eK/\∃vs,KV o1 vs/\h.DictOf (xP P w) a vs:=oO ok<|.inl e
theorem ik(ok:n6 P w H h)(e:H a=ej (.tup<|ks.map kV)):(K_<|xP P w).is h ks a:=by obtain⟨_,z,r,o,b,d,n,I⟩:=(show nh P w H h a (.tup<|ks.map kV)from ok a _ e);exact⟨o,z.toArray,n,b,(Prod.mk.inj d).1,I,by simpa using Vz r⟩
theorem uQ(ok:n6 P w H h)(e:Rd H a (.dT o1)):o1.length<=hB/\(a==DF)=eK/\
 ∃xs,KT H o1 xs/\h.DictOfH (K_<|xP P w) a xs:=by
 obtain⟨z,y,xs,r,o,b,O,d,f,U,Y,g⟩:=(show nh P w H h a (.dT o1)from Bn ok e);refine⟨z,y,xs,r,o,b,O,d,f,U,Y,λx hx=>?_,g⟩;have all : ∀{l:List (List Key×V)} {m:List (List Key×fe×fh)},KT H l m->∀x∈m,(K_<|xP P w).is h x.1 x.2.1:=by
  intro l m q
  induction q with
  | nil=>intro x hx;exact nomatch hx
  | @cons p q j k I t i=>
   intro x hx;rcases Mu.mp hx with e | hx
   ·subst e
    exact ik ok (by rw[<- I.1];exact I.2.1)
   ·exact i x hx
 exact all r x hx
end
noncomputable def EC(H:Hp)(a:fe)(y:V)(r:Option V):Prop:=
 (∃d k,Rd H a (.dK d)/\y=kV k/\r=ah d k)\/∃d k b,Rd H a (.dT d)/\y = .ref b/\H b=ej (.tup<|k.map kV)/\r=ah d k
section
variable{X:Cx}{pins:UQ}{σ:St}{H:Hp}{s:f6}{a:fe}{y v:V}{u r:fh}{o:Option V}{A:o6}{E:EQ}
theorem Inv.big(I:Inv X pins σ H s):DF<s.heap.objs.size:=by have h:xb<s.heap.objs.size:=(I.mod.glob.keeps I.bk).lt;exact Nat.lt_trans ⋯ h
theorem lg(Z:A.units+1<En)(I:Inv X pins σ H s)(g:EC H a y (ej v))(J:RelV y u)(h : ∀C S,Inv X pins σ H S->RelV v C->Q C S) :
 wpAny (f7 X.prog X.w) A (Dy (.ref a) u) Q E s:=by
 rcases g with⟨i,k,e,O,l⟩ | ⟨i,k,b,e,O,m,l⟩
 ·subst O
  obtain⟨z,n,t,U,Y⟩:=oO I.g5 e;obtain⟨C,f,d⟩:=B9.some_of (v:=v) (o:=Ig t k) (by rw[l];exact U.val k);exact wpAny_getItem_of (oz J) Y.mapOf f<|h C _ (I.tok _) d
 ·subst O
  cases (show u=NS b from J);obtain⟨z,n,x,U,Y⟩:=uQ I.g5 e;obtain⟨C,f,d⟩:=B9.some_of (v:=v) (o:=(F4 x k).map (·.2)) (by rw[l];exact U.val k);obtain⟨p,r,j⟩:=Option.map_eq_some_iff.mp f;refine wpAny_getItem_heap (_U Z) (ik I.g5 m) Y r ?_;rw[j];exact h C _ (I.tok _) d
theorem LF(S:A.units+1<En)(I:Inv X pins σ H s)(g:EC H a y o)(C:RelV y u)(h : ∀J,Inv X pins σ H J->Q (.bool o.isSome) J) :
 wpAny (f7 X.prog X.w) A (oe .In u<|.ref a) Q E s:=by
 rcases g with⟨f,k,e,O,l⟩ | ⟨f,k,b,e,O,i,l⟩
 ·subst O
  obtain⟨z,d,j,U,Y⟩:=oO I.g5 e;refine wpAny_in_of (oz C) d Y.mapOf ?_;rw[<- (U.val k).n_,<- l];exact h _<|I.tok _
 ·subst O
  cases (show u=NS b from C);obtain⟨z,d,m,U,Y⟩:=uQ I.g5 e;refine wpAny_in_heap (_U S) (ik I.g5 i) d Y ?_;have q:=(U.val k).n_;rw[Option.isSome_map]at q;rw[<- q,<- l];exact h _<|I.tok _
theorem uS(I:Inv X pins σ H s)(O:L4 (H a))(U:ON a s.heap h')(Y : ∃q,h'.get? a=ej q)(new:nh X.prog X.w (upd H a ob) h' a ob) :
 Inv X pins σ (upd H a ob) {s with heap:=h',toks:=t'}:=
 I.write (x:=a) (e:=a) O (.inl rfl) (λb q d z=>(U.2 b d).trans z) Y new
theorem CZ(z:o1.length<=hB)(C:(a==DF)=eK)(I:KV o1 vs)(O:h'.DictOf (xP P w) a vs) :
 nh P w H' h' a (.dK o1):=⟨z,C,vs,I,O⟩
end
def HQ(i:fA):Prop:=∀z I,UN i eK z I=operate [z,I] (Dy z I)
theorem sD{prog:l6}{w:i8}{A:o6}{E:EQ}{s:f6}{env:ro}{C z:fA}{pos:h8}{T id:String}{Q:EQ}
 (J:S6 (.type T) "__getitem__" = pure (ej (.builtin id))) (S:HQ z)
 (h:wpAny (f7 prog w) A (fy C env) (λo Y=>wpAny (f7 prog w) A (fy z env) (λi I=>I.TypeIs o T/\wpAny (f7 prog w) A (Dy o i) Q E I) E Y) E s) :
 wpAny (f7 prog w) A (fy (.Subscript C z pos) env) Q E s:=by
 refine a_<|Oy h (λo Y b=>Oy b (λi I O=>?_) λ_ _ x=>x) λ_ _ x=>x;obtain⟨e,O⟩:=O;unfold F';refine Md ?_;rw[getitemInPython_of_ne e.not_modules];refine Md<|wpAny_specialOf e J ?_;have U:wpAny (f7 prog w) A (UN z eK o i) (λr a=>wpAny (f7 prog w) A (letTemporaryGo C o r >>= λ_=>pure r) Q E a) E I:=by rw[S o i];exact wpAny_operating<|Oy O (λr a d=>Md<|wpAny_letTemporaryGo<|Mq d) λ_ _ x=>x
 first
  | exact Mq<|Md U
  | exact Md<|Mq<|Md U
  | exact Md U
theorem WV(I:Inv X pins σ H s)(g:EC H a y o):s.TypeIs (.ref a) "dict":=by
 rcases g with⟨d,k,e,_,_⟩ | ⟨d,k,b,e,_,_,_⟩
 ·obtain⟨_,_,f,_,z⟩:=oO I.g5 e
  exact z.typeIs
 ·obtain⟨_,_,h,_,z⟩:=uQ I.g5 e
  exact z.typeIs
noncomputable def FU(C ty:TE):TE:=λd H Q=>C d H λx e=>ty d e λy b=>∃a v,x = .ref a/\EC b a y (ej v)/\Q v b
noncomputable def Ld(ty C:TE):TE:=λd H Q=>ty d H λy e=>C d e λx b=>∃a o,x = .ref a/\EC b a y o/\Q (.bl o.isSome) b
section
variable{X:Cx}{o i e value:fA}{pos pos' u6:h8}{td ty tv:TE}
theorem ud(O:X.A.units+1<En)(U:PE X o td)(C:PE X i ty)(Y:HQ i):PE X (.Subscript o i pos) (FU td ty):=by intro b s d H Q I h;refine sD PySem.F.slot_dict_getitem.lookup Y<|gu (U b s d H _ I h) λu w ⟨x,e,j,r,n⟩=>gu (C b w d e _ j n) λB E ⟨y,f,z,t,a,v,m,g,p⟩=>?_;subst m;obtain rfl:u=NS a:=r;exact⟨WV z g,lg O z g t λJ G k l=>⟨v,f,k,l,p⟩⟩
theorem BZ(z:X.A.units+1<En)(C:PE X i ty)(O:PE X o td):PC X .In i o (Ld ty td):=by intro b s d H Q I h;refine gu (C b s d H _ I h) λw t ⟨y,e,U,Y,n⟩=>gu (O b t d e _ U n) λu B ⟨x,f,j,r,a,m,l,g,p⟩=>?_;subst l;obtain rfl:u=NS a:=r;exact LF z j g Y λE k=>⟨.bl m.isSome,f,k,rfl,p⟩
end
theorem oP(h:gB)(z:DF<h.objs.size):nh P w H (h.push {cls:= .type "dict",data:= .dict #[]}) h.objs.size (.dK []):=
 ⟨Ny _,beq_eq_false_iff_ne.mpr<|MV<|MP z,[],.nil,Heap.DictOf.new h⟩
end L2
namespace DL
open PySem PySem.Spec PyProof.Rows L2
noncomputable def S7:List Str:=["NoPrime","Nought","NoTable","NoWidths","NoRow","Unlike","TooMany","NoTurn","NoLine","Nothing","NoArrow","NoText","NoRoom"]
noncomputable def AG(K:Mf)(c:Str):Option fe:=match SO K xb c with
 | some (ej (.ref C))=>ej C
 | _=>eF
noncomputable def IV(K:Mf)(C:fe):Bool:=
 ["int","bool","str","tuple","list"].all (λt=>OA K (.ref C) (.type t)==ej eK) && OA K (.ref C) (.type "ValueError")==ej eA &&
 RE K (.ref C) "__getattribute__" == ej (ej (.builtin "BaseException.__getattribute__")) && RE K (.ref C) "__getattr__" == ej eF &&
 RE K (.ref C) "__class__" == ej (ej (.builtin "object.__class__")) && PySem.W.mroIn K C (.type "object")==ej eA && PySem.W.mroIn K C (.type "BaseException")==ej eA &&
 PySem.W.specialIn K (.builtin "object.__class__") "__get__" == ej (ej (.builtin "getset_descriptor.__get__")) && PySem.W.takesIn K (.builtin "object.__class__")==ej eA &&
 (PySem.W.clsIn K C).any (λz=> !z.hasDel) && PySem.W.typeIn K (.ref C)==ej (.type "type")
noncomputable def HV(K:Mf):Bool:=match AG K "SplitError" with
 | some S=>S7.all λc=>match AG K c with
  | some C=>IV K C && OA K (.ref C) (.ref S)==ej eA && S7.all λz=>match AG K z with
   | some I=>OA K (.ref C) (.ref I)==ej (c==z)
   | none=>eK
  | none=>eK
 | none=>eK
noncomputable def LL(h:gB)(a:fe)(C:fe):Prop:=∃o b,h.get? a=ej o/\o.cls = .ref C/\o.data = .fields b
structure TN(K:Mf)(H:Hp)(c:Str)(n:Option Int)(a:fe):Prop where
 all:HV K=eA
 mem:c∈S7
 ex : ∃C φ,AG K c=ej C/\H a=ej (.ext φ)/\(∀h,φ h->LL h a C)/\
  match n with
  | none=>True
  | some i=>∃d,(∀h,φ h->∃o,h.get? a=ej o/\o.dict=ej d)/\H d=ej (.xd [(if c==("NoRoom" : Str)then "room" else "at",.int i)])
theorem TN.mono{K:Mf}{H H':Hp}{c:Str}{n:Option Int}{a:fe}(e : ∀b o,H b=ej o->H' b=ej o)(h:TN K H c n a):TN K H' c n a:=by
 obtain⟨f,g,C,j,I,g2,O,z⟩:=h;refine⟨f,g,C,j,I,e _ _ g2,O,?_⟩;cases n with
 | none=>exact z
 | some i=>obtain⟨d,U,Y⟩:=z;exact⟨d,U,e _ _ Y⟩
abbrev St:=L2.St
def CA:D->Option Key
 | .int i=>ej (.inl i)
 | .str x=>ej (.inr x)
 | _=>eF
noncomputable def Vv:List D->Option (List Key)
 | []=>ej []
 | d::ds=>(CA d).bind λk=>(Vv ds).map λr=>k::r
noncomputable def DJ(H:Hp)(a:fe)(ks:List D)(xs:List V):Prop:=∃b,Vv ks=ej b/\b.length=xs.length/\H a=ej (.dK<|b.zip xs)
def FN(k:List Int):Int:=reduceHash<|Builtin.Tuple.tupleHashOf<|k.map hashInt
noncomputable def LP(o:pa)(xs:List (List Int×fe×fh)):Prop:=o.ExactDict/\∃a z,o.data = .dict a z/\a.toList=xs.map (λx=>⟨FN x.1,.ref x.2.1,x.2.2⟩)/\(xs.map (·.1)).Nodup
def TV(a:fe)(o:pa):HO:= .ext λh=>h.get? a=ej o
noncomputable def I7(K:Mf)(H:Hp)(a:fe)(ks:List (List Int))(ys:List V):Prop:=
 (a==DF)=eK/\∃o b,H a=ej (TV a o)/\LP o b/\b.map (·.1)=ks/\b.length<=hB/\(∀x∈b,i5 K H x.2.1<|x.1.map V.int)/\gv ys (b.map (·.2.2))
mutual
def Rep(K:Mf)(H:Hp):D->V->Prop
 | .gm,v=>v = .gm
 | .bl b,v=>v = .bl b
 | .int i,v=>v = .int i
 | .str x,v=>v = .str x
 | .tup ds,v=>∃a d,v = .ref a/\i5 K H a d/\ft K H ds d
 | .lst ds,v=>∃a d,v = .ref a/\h9 K H a d/\ft K H ds d
 | .ow ks vs,v=>∃a d,v = .ref a/\DJ H a ks d/\ft K H vs d
 | .ni ks vs,v=>∃a d,v = .ref a/\I7 K H a ks d/\ft K H vs d
def ft(K:Mf)(H:Hp):List D->List V->Prop
 | [],xs=>xs=[]
 | d::ds,xs=>∃x r,xs=x::r/\Rep K H d x/\ft K H ds r
end
theorem p8{K:Mf}{H H':Hp}{a:fe}{xs:List V}(e:i4 H H')(h:i5 K H a xs):i5 K H' a xs:=by
 rcases h with(h | ⟨o,h⟩) | h
 ·exact .inl<|.inl<|e _ _ h
 ·exact .inl<|.inr ⟨o,e _ _ h⟩
 ·exact .inr h
theorem ym{k:Sk}{K:Mf}{H H':Hp}{a:fe}{xs:List V}(e:i4 H H')(h:l7 k K H a xs):l7 k K H' a xs:=by
 cases k
 ·exact e.seq h
 ·exact p8 e h
mutual
theorem Rep.mono{K:Mf}{H H':Hp}(e:i4 H H') : ∀{d:D} {v:V},Rep K H d v->Rep K H' d v
 | .gm,_,h=>h
 | .bl _,_,h=>h
 | .int _,_,h=>h
 | .str _,_,h=>h
 | .tup ds,v,h=>by obtain⟨a,b,f,i,g⟩:=(show ∃a b,v = .ref a/\i5 K H a b/\ft K H ds b from h);exact(show ∃a b,v = .ref a/\i5 K H' a b/\ft K H' ds b from⟨a,b,f,p8 e i,ft.mono e g⟩)
 | .lst ds,v,h=>by obtain⟨a,b,f,i,g⟩:=(show ∃a b,v = .ref a/\h9 K H a b/\ft K H ds b from h);exact(show ∃a b,v = .ref a/\h9 K H' a b/\ft K H' ds b from⟨a,b,f,e.seq i,ft.mono e g⟩)
 | .ow ks vs,v,h=>by obtain⟨a,b,f,⟨k,z,g2,I⟩,g⟩:=(show ∃a b,v = .ref a/\DJ H a ks b/\ft K H vs b from h);exact(show ∃a b,v = .ref a/\DJ H' a ks b/\ft K H' vs b from⟨a,b,f,⟨k,z,g2,e _ _ I⟩,ft.mono e g⟩)
 | .ni ks vs,v,h=>by obtain⟨a,b,f,⟨z,o,l,g2,I,O,U,g6,Y⟩,g⟩:=(show ∃a b,v = .ref a/\I7 K H a ks b/\ft K H vs b from h);exact(show ∃a b,v = .ref a/\I7 K H' a ks b/\ft K H' vs b from⟨a,b,f,⟨z,o,l,e _ _ g2,I,O,U,λx j=>p8 e<|g6 x j,Y⟩,ft.mono e g⟩)
theorem ft.mono{K:Mf}{H H':Hp}(e:i4 H H') : ∀{ds:List D} {xs:List V},ft K H ds xs->ft K H' ds xs
 | [],_,h=>h
 | d::ds,xs,h=>by obtain⟨x,r,a,b,f⟩:=(show ∃x r,xs=x::r/\Rep K H d x/\ft K H ds r from h);exact(show ∃x r,xs=x::r/\Rep K H' d x/\ft K H' ds r from⟨x,r,a,Rep.mono e b,ft.mono e f⟩)
end
section
variable{K:Mf}{H:Hp}
theorem ft.nil:ft K H [] []:=(show([]:List V)=[]from rfl)
theorem ft.cons(h:Rep K H d x)(t:ft K H ds xs):ft K H (d::ds) (x::xs):=⟨x,xs,rfl,h,t⟩
theorem ft.uh(h:ft K H [] xs):xs=[]:=h
theorem ft.q5(h:ft K H (d::ds) xs) : ∃x r,xs=x::r/\Rep K H d x/\ft K H ds r:=h
theorem ft.length : ∀{ds:List D} {xs:List V},ft K H ds xs->xs.length=ds.length
 | [],xs,h=>by rw[h.uh];rfl
 | d::ds,xs,h=>by obtain⟨x,r,e,_,t⟩:=h.q5;rw[e,MH,MH,ft.length t]
theorem ft.get : ∀{ds:List D} {xs:List V} {i:Nat} {d:D},ft K H ds xs->ds[i]? = ej d->∃x,xs[i]? = ej x/\Rep K H d x
 | [],_,_,_,_,e=>by simp at e
 | c::ds,xs,0,d,h,e=>by obtain⟨x,r,a,b,_⟩:=h.q5;simp at e;subst e;exact⟨x,by rw[a];rfl,b⟩
 | c::ds,xs,i+1,d,h,e=>by obtain⟨x,r,a,_,t⟩:=h.q5;obtain⟨y,z,g2⟩:=ft.get (i:=i) (d:=d) t (by simpa using e);exact⟨y,by rw[a];simpa using z,g2⟩
theorem ft.Dg{ds:List D}{xs:List V}{i:Nat}{x:V}(h:ft K H ds xs)(e:xs[i]? = ej x) : ∃d,ds[i]? = ej d/\Rep K H d x:=by
 have b:i<ds.length:=by rw[<- h.length];exact(Mv.mp e).1
 obtain⟨y,a,r⟩:=h.get<|Mi b;rw[e]at a;cases a;exact⟨_,Mi b,r⟩
theorem ft.append : ∀{ds C:List D} {xs ys:List V},ft K H ds xs->ft K H C ys->ft K H (ds++C) (xs++ys)
 | [],_,xs,_,h,g=>by rw[h.uh];exact g
 | d::ds,C,xs,ys,h,g=>by obtain⟨x,r,e,a,t⟩:=h.q5;rw[e];exact ft.cons a<|ft.append t g
theorem ft.drop : ∀{ds:List D} {xs:List V} (n:Nat),ft K H ds xs->ft K H (ds.drop n) (xs.drop n)
 | _,_,0,h=>h
 | [],xs,n+1,h=>by rw[h.uh];exact ft.nil
 | d::ds,xs,n+1,h=>by obtain⟨x,r,e,_,t⟩:=h.q5;rw[e];exact ft.drop n t
theorem ft.take : ∀{ds:List D} {xs:List V} (n:Nat),ft K H ds xs->ft K H (ds.take n) (xs.take n)
 | _,_,0,h=>by simp;exact ft.nil
 | [],xs,n+1,h=>by rw[h.uh];exact ft.nil
 | d::ds,xs,n+1,h=>by obtain⟨x,r,e,a,t⟩:=h.q5;rw[e];exact ft.cons a<|ft.take n t
theorem ft.set : ∀{ds:List D} {xs:List V} {d:D} {x:V} (i:Nat),ft K H ds xs->Rep K H d x->ft K H (ds.set i d) (xs.set i x)
 | [],xs,_,_,_,h,_=>by rw[h.uh];exact ft.nil
 | c::ds,xs,d,x,0,h,g=>by obtain⟨y,r,e,_,t⟩:=h.q5;rw[e];exact ft.cons g t
 | c::ds,xs,d,x,i+1,h,g=>by obtain⟨y,r,e,a,t⟩:=h.q5;rw[e];exact ft.cons a<|ft.set i t g
end
structure Ext(H0 H C7 H':Hp):Prop where
 s0:i4 H0 C7
 s1:i4 H H'
 sub:i4 C7 H'
 new : ∀a,H0 a=eF->H a≠eF->C7 a=eF
theorem Ext.refl(s:i4 H0 H):Ext H0 H H0 H:=⟨i4.refl _,i4.refl _,s,λ_ h _=>h⟩
theorem Ext.trans(a:Ext H0 H H1 G1)(b:Ext H1 G1 H2 G2):Ext H0 H H2 G2:=
 ⟨a.s0.trans b.s0,a.s1.trans b.s1,b.sub,λc e d=>b.new c (a.new c e d) (by
  cases q:H c with
  | none=>exact absurd q d
  | some o=>rw[a.s1 c o q];simp)⟩
theorem js(h:H p=eF)(o:HO):i4 H (upd H p o):=λb u q=>by rw[zL (qr q h)];exact q
theorem jH(s:i4 H0 H)(h:H p=eF):H0 p=eF:=s.free h
theorem fE(s:i4 H0 H):i4 (upd H0 p o) (upd H p o):=λb u q=>by
 by_cases e:b=p
 ·subst e;rw[zQ]at q ⊢;exact q
 ·rw[zL e]at q ⊢;exact s b u q
theorem Ext.alloc(s:i4 H0 H)(h:H p=eF)(o:HO):Ext H0 H (upd H0 p o) (upd H p o):=
 ⟨js (jH s h) o,js h o,fE s,λa b d=>by rw[zL (λe=>d<|by rw[e];exact h)];exact b⟩
theorem Ext.hide(s:i4 H0 H)(h:H p=eF)(o:HO):Ext H0 H H0 (upd H p o):=
 ⟨i4.refl _,js h o,s.trans<|js h o,λa b _=>b⟩
theorem Ext.show(e:Ext H0 H C7 H')(C:H a=eF)(J:C7 a=eF)(O:H' a=ej o)(s:i4 H0 H):Ext H0 H (upd C7 a o) H':=
 ⟨e.s0.trans<|js J o,e.s1,λb u q=>by
  by_cases z:b=a
  ·subst z;rw[zQ]at q;rw[O];exact q
  ·rw[zL z]at q;exact e.sub b u q,λb U I=>by
  rw[zL (λz=>I<|by rw[z];exact C)];exact e.new b U I⟩
structure t8(K:Mf)(H0 H:Hp)(rows:List (List D))(a:fe)(bs:List fe):Prop where
 a0:H0 a=eF
 ha:H a=ej (.lst<|bs.map V.ref)
 nd:(a::bs).Nodup
 len:bs.length=rows.length
 row : ∀(k:Nat) b row,bs[k]? = ej b->rows[k]? = ej row->H0 b=eF/\∃xs,H b=ej (.lst xs)/\ft K H0 row xs
theorem t8.at{K:Mf}{H0 H:Hp}{C:List (List D)}{a:fe}{bs:List fe}(n:t8 K H0 H C a bs){b:fe}(z:b∈a::bs):H0 b=eF/\∃xs,H b=ej (.lst xs):=by
 rcases Mu.mp z with rfl | z
 ·exact⟨n.a0,_,n.ha⟩
 ·obtain⟨k,I⟩:=U9 z
  have O:=(Mv.mp I).1;rw[n.len]at O;obtain⟨d,xs,e,_⟩:=n.row k b _ I<|Mi O;exact⟨d,xs,e⟩
theorem t8.move{K:Mf}{H0 H J H':Hp}{C:List (List D)}{a:fe}{bs:List fe}(n:t8 K H0 H C a bs)(s:i4 H0 J)(z : ∀b∈a::bs,J b=eF)(h : ∀b∈a::bs,H' b=H b):t8 K J H' C a bs:=
 ⟨z a Mx,by rw[h a Mx];exact n.ha,n.nd,n.len,λk b row I U=>by obtain⟨_,e,d,Y⟩:=n.row k b row I U;have O:b∈a::bs:=Ms _<|Nh I;exact⟨z b O,e,by rw[h b O];exact d,Y.mono s⟩⟩
noncomputable def tr(K:Mf)(H0 H:Hp)(C:St)(γ:Ctx):Prop:=
 (∀(i:Nat) b,γ[i]? = ej (.nest b)->∃a bs,C[i]? = ej (ej (.ref a))/\t8 K H0 H b a bs/\∀(j:Nat) d c,γ[j]? = ej (.own d)->C[j]? = ej (ej (.ref c))->c∉a::bs)/\
 ∀(i j:Nat) z e,γ[i]? = ej (.nest z)->γ[j]? = ej (.nest e)->i=j
theorem tr.G7{K:Mf}{H0 H:Hp}{I:St}{γ:Ctx}(h : ∀(i:Nat) C,γ[i]? ≠ ej (.nest C)):tr K H0 H I γ:=⟨λi C e=>absurd e<|h i C,λi j z a e=>absurd e<|h i z⟩
theorem tr.move{K:Mf}{H0 H J H':Hp}{O:St}{γ:Ctx}(n:tr K H0 H O γ)(s:i4 H0 J)(h : ∀(i:Nat) C a bs,γ[i]? = ej (.nest C)->O[i]? = ej (ej (.ref a))->t8 K H0 H C a bs->(∀(j:Nat) ds c,γ[j]? = ej (.own ds)->O[j]? = ej (ej (.ref c))->c∉a::bs)->∀b∈a::bs,J b=eF/\H' b=H b):tr K J H' O γ:=
 ⟨λi C e=>by obtain⟨a,bs,d,f,z⟩:=n.1 i C e;exact⟨a,bs,d,f.move s (λb I=>(h i C a bs e d f z b I).1)<|λb I=>(h i C a bs e d f z b I).2,z⟩,n.2⟩
theorem tr.ext{K:Mf}{H0 H C H':Hp}{J:St}{γ:Ctx}(n:tr K H0 H J γ)(e:Ext H0 H C H'):tr K C H' J γ:=
 n.move e.s0 λi d a bs _ _ f _ b z=>by obtain⟨I,g,g2⟩:=f.at z;exact⟨e.new b I (by rw[g2];simp),by rw[e.s1 b _ g2,g2]⟩
structure RC(K:Mf)(H0 H:Hp)(σ:St)(γ:Ctx):Prop where
 sub:i4 H0 H
 len:σ.length=γ.length
 val : ∀(i:Nat) d,γ[i]? = ej (.val d)->∃v,σ[i]? = ej (ej v)/\Rep K H0 d v
 own : ∀(i:Nat) ds,γ[i]? = ej (.own ds)->∃a xs,σ[i]? = ej (ej (.ref a))/\H0 a=eF/\H a=ej (.lst xs)/\ft K H0 ds xs
 ne : ∀(i j:Nat) a ds es,γ[i]? = ej (.own ds)->γ[j]? = ej (.own es)->σ[i]? = ej (ej (.ref a))->σ[j]? = ej (ej (.ref a))->i=j
 n0:tr K H0 H σ γ
theorem RC.ext{K:Mf}{H0 H C H':Hp}{J:St}{γ:Ctx}(r:RC K H0 H J γ)(e:Ext H0 H C H'):RC K C H' J γ:=
 ⟨e.sub,r.len,λi d h=>let ⟨v,b,f⟩:=r.val i d h;⟨v,b,f.mono e.s0⟩,
  λi g h=>let ⟨a,j,b,f,z,I⟩:=r.own i g h;⟨a,j,b,e.new a f (by rw[z];simp),e.s1 _ _ z,I.mono e.s0⟩,r.ne,r.n0.ext e⟩
noncomputable def tV(K:Mf)(f:CO D):TE:=λh H Q=>∃e g d,RC K e H h g/\f g=ej d/\∀v b a,Ext e H a b->Rep K a d v->Q v b
noncomputable def tQ(K:Mf)(f:CO (Sk×List D)):TE:=λj H Q=>∃g i k h,RC K g H j i/\f i=ej (k,h)/\∀a e d b,Ext g H b d->l7 k K d a e->(k = .T->i5 K b a e)->ft K b h e->Q (.ref a) d
noncomputable def tO(K:Mf)(f:CO (List D)):TE:=λj H Q=>∃e i g,RC K e H j i/\f i=ej g/\
 ∀a h d b,Ext e H b d->H a=eF->b a=eF->d a=ej (.lst h)->ft K b g h->Q (.ref a) d
noncomputable def tT(K:Mf)(f:CO Bool):TT:=λh H Q=>∃e g b,RC K e H h g/\f g=ej b/\∀d a,Ext e H a d->Q b d
noncomputable def tA(K:Mf)(f:CO (List D)):TA:=λi H Q=>∃d h e,RC K d H i h/\f h=ej e/\∀g b a,Ext d H a b->ft K a e g->Q g b
abbrev PV(X:Cx)(e:fA)(f:CO D):Prop:=PE X e (tV X.K f)
abbrev PQ(X:Cx)(e:fA)(f:CO (Sk×List D)):Prop:=PE X e (tQ X.K f)
abbrev PO(X:Cx)(e:fA)(f:CO (List D)):Prop:=PE X e (tO X.K f)
abbrev o7(X:Cx)(e:fA)(f:CO Bool):Prop:=PT X e (tT X.K f)
abbrev D7(X:Cx)(e:fA)(f:CO Bool):Prop:=PW X e (tT X.K f)
abbrev Dt(X:Cx)(es:List fA)(f:CO (List D)):Prop:=PA X es (tA X.K f)
theorem qE(h:PE X e t)(i : ∀C H Q,t' C H Q->t C H Q):PE X e t':=λa s C H Q I q=>h a s C H Q I<|i C H Q q
theorem Y5(h:PT X e t)(i : ∀C H Q,t' C H Q->t C H Q):PT X e t':=λa s C H Q I q=>h a s C H Q I<|i C H Q q
theorem Bt(h:PW X e t)(i : ∀C H Q,t' C H Q->t C H Q):PW X e t':=λz a s C H Q I q=>h z a s C H Q I<|i C H Q q
theorem Cb(h:PA X es t)(i : ∀C H Q,t' C H Q->t C H Q):PA X es t':=λpos a s C H Q I q=>h pos a s C H Q I<|i C H Q q
theorem kQ{X:Cx}{st:m7}{t t':TS}(h:PS X st t)(i : ∀D C H,t' D C H->t D C H):PS X st t':=λa s C H D I q=>h a s C H D I<|i D C H q
theorem pY{X:Cx}{st:List m7}{t t':TS}(h:u9 X st t)(i : ∀D C H,t' D C H->t D C H):u9 X st t':=λa s C H D I q=>h a s C H D I<|i D C H q
theorem QJ(h:PI X tg e t)(i : ∀C H R,t' C H R->t C H R):PI X tg e t':=λa s C H R I q=>h a s C H R I<|i C H R q
theorem yR(h:n<=lim):n<=hB:=NQ h ⋯
section
variable{X:Cx}{e a b c:fA}{pos:h8}
theorem PV.q(h:PV X e f):PQ X e (zW f):=qE h λs H Q Y=>by
 obtain⟨p,o,k,i,rc,I,q⟩:=Y;unfold zW at I;cases e1:f o with
 | none=>rw[e1]at I;cases I
 | some d=>
  rw[e1]at I;refine⟨p,o,d,rc,e1,λv n b ext r=>?_⟩;cases d with
  | tup l=>
   obtain⟨O,U⟩:k = .T/\i=l:=by simp[j5]at I;exact⟨I.1.symm,I.2.symm⟩
   subst O U;obtain⟨a,g,rfl,j,m⟩:=(show ∃a g,v = .ref a/\i5 X.K b a g/\ft X.K b i g from r);exact q a g n b ext (p8 ext.sub j) (λ_=>j) m
  | lst l=>
   obtain⟨O,U⟩:k = .L/\i=l:=by simp[j5]at I;exact⟨I.1.symm,I.2.symm⟩
   subst O U;obtain⟨a,g,rfl,j,m⟩:=(show ∃a g,v = .ref a/\h9 X.K b a g/\ft X.K b i g from r);exact q a g n b ext (ext.sub.seq j) (λz=>nomatch z) m
  | _=>simp[j5]at I
theorem PO.v(h:PO X e f):PV X e (qh f):=qE h λo H Q U=>by
 obtain⟨j,i,d,rc,z,q⟩:=U;unfold qh at z;cases e1:f i with
 | none=>rw[e1]at z;cases z
 | some b=>
  rw[e1]at z;cases z;refine⟨j,i,b,rc,e1,λa m n k ext l g Y r=>?_⟩;exact q _ _ _ (ext.show l g Y rc.sub) (show ∃I O,V.ref a = .ref I/\h9 X.K _ I O/\ft X.K _ b O from⟨a,m,rfl,h9.of zQ,r.mono<|js g _⟩)
theorem PO.q(h:PO X e f):PQ X e (jm f):=qE h λp H Q O=>by
 obtain⟨i,d,k,l,rc,I,q⟩:=O;unfold jm at I;cases e1:f d with
 | none=>rw[e1]at I;cases I
 | some m=>
  rw[e1]at I;cases I;exact⟨i,d,_,rc,e1,λa j g b ext n o U r=>q a j g b ext (h9.of U) (λz=>nomatch z) r⟩
theorem Bu(i:Nat)(h:PE X e (Au i)):PV X e (zc i):=qE h λm H Q I=>by
 obtain⟨b,j,d,rc,z,q⟩:=I;unfold zc at z;cases e1:j[i]? with
 | none=>rw[e1]at z;cases z
 | some c=>
  rw[e1]at z;cases c with
  | val k=>
   cases z;obtain⟨v,f,g⟩:=rc.val i d e1;exact⟨v,f,q v H b (Ext.refl rc.sub) g⟩
  | no=>cases z
  | own l=>cases z
  | nest a=>cases z
theorem BG(i:Nat)(h:PE X e (Au i)):PQ X e (zh i):=qE h λt H Q r=>by
 obtain⟨f,s,k,g,rc,I,q⟩:=r;unfold zh at I;cases e1:s[i]? with
 | none=>rw[e1]at I;cases I
 | some c=>
  rw[e1]at I;cases c with
  | no=>cases I
  | nest n=>cases I
  | own j=>
   cases I;obtain⟨a,b,l,m,o,p⟩:=rc.own i g e1;exact⟨_,l,q a b H f (Ext.refl rc.sub) (h9.of o) (λz=>nomatch z) p⟩
  | val d=>
   obtain⟨v,l,m⟩:=rc.val i d e1;refine⟨v,l,?_⟩;cases d with
   | tup j=>
    obtain⟨U,Y⟩:k = .T/\g=j:=by simp[wK,j5]at I;exact⟨I.1.symm,I.2.symm⟩
    subst U Y;obtain⟨a,b,rfl,O,g2⟩:=(show ∃a b,v = .ref a/\i5 X.K f a b/\ft X.K f g b from m);exact q a b H f (Ext.refl rc.sub) (p8 rc.sub O) (λ_=>O) g2
   | lst j=>
    obtain⟨U,Y⟩:k = .L/\g=j:=by simp[wK,j5]at I;exact⟨I.1.symm,I.2.symm⟩
    subst U Y;obtain⟨a,b,rfl,O,g2⟩:=(show ∃a b,v = .ref a/\h9 X.K f a b/\ft X.K f g b from m);exact q a b H f (Ext.refl rc.sub) (rc.sub.seq O) (λz=>nomatch z) g2
   | _=>simp[wK,j5]at I
theorem JA(h:PE X e (tC v))(r : ∀H,Rep X.K H d v):PV X e (zu d):=qE h λg H Q z=>by obtain⟨a,f,b,rc,I,q⟩:=z;cases I;exact q v H a (Ext.refl rc.sub)<|r a
theorem zg:PV X (.Constant (.int i) j pos) (zu<|.int i):=JA BW λ_=>(show V.int i = .int i from rfl)
theorem yh:PV X (.Constant (.bool x) j pos) (zu<|.bl x):=JA Gr λ_=>(show V.bl x = .bl x from rfl)
theorem Y1:PV X (.Constant .none j pos) (zu .gm):=JA BU λ_=>(show V.gm = .gm from rfl)
theorem kY:PV X (.Constant (.str x) j pos) (zu<|.str x):=JA BP λ_=>(show V.str x = .str x from rfl)
noncomputable def o8(K:Mf)(r:R2)(F:D->D->Option D):Prop:=∀b H x y f z d Q,i4 b H->Rep K b f x->Rep K b z y->F f z=ej d->(∀v e a,Ext b H a e->Rep K a d v->Q v e)->r x y H Q
theorem ze(h:o.bind f=ej y) : ∃x,o=ej x/\f x=ej y:=by
 cases o with
 | none=>cases h
 | some x=>exact⟨x,rfl,h⟩
theorem Wp{K:Mf}{r:R2}{F:D->D->Option D}{J S:CO D}(O:o8 K r F) : ∀C H Q,tV K (zy F J S) C H Q->N7 r (tV K J) (tV K S) C H Q:=λC H Q U=>by obtain⟨f,b,d,rc,z,q⟩:=U;obtain⟨x,j,z⟩:=ze z;obtain⟨y,Y,z⟩:=ze z;refine⟨f,b,x,rc,j,λn p h x1 k=>⟨h,b,y,rc.ext x1,Y,λo g i I l=>?_⟩⟩;exact O i g n o x y d Q I.sub (k.mono I.s0) l z λv e a x3 m=>q v e a (x1.trans<|I.trans x3) m
theorem Kb(z:k5 X (B7 op) r)(I:o8 X.K r F)(C:PV X a fa)(O:PV X b fb):PV X (.BinOp a op b pos) (zy F fa fb):=
 qE (uc z C O) (Wp I)
theorem pV(z:k5 X (oe op) r)(I:o8 X.K r F)(C:PV X a fa)(O:PV X b fb)(J:C0 op b=eK):PV X (.Compare a [op] [b] pos) (zy F fa fb):=
 qE (gE z C O J) (Wp I)
theorem yW{d:D}{b:Bool}(h:vl d=ej b):d = .bl b:=by cases d<;>simp[vl]at h;rw[h]
theorem ZE(I:k5 X (oe op) r)(O:o8 X.K r F)(C:PV X a fa)(U:PV X b fb)(J:C0 op b=eK):o7 X (.Compare a [op] [b] pos) (sB<|zy F fa fb):=
 Y5 (fZ I C U J) λj H Q Y=>by obtain⟨g,i,k,rc,z,q⟩:=Y;obtain⟨d,h,z⟩:=ze z;refine Wp O j H _ ⟨g,i,d,rc,h,λv f e x r=>?_⟩;rw[yW z]at r;exact⟨k,r,q f e x⟩
theorem jG{f:CO D}(h:PV X e f)(O : ∀I,E4 e X.env I=(do let v <- I;DD e.pos;tf [v] (Ol v)):=by intro _;rfl):o7 X e (sB f):=
 Y5 (BB h O) λl H Q U=>by obtain⟨g,j,k,rc,z,q⟩:=U;obtain⟨d,i,z⟩:=ze z;refine⟨g,j,d,rc,i,λv b a x r=>?_⟩;rw[yW z]at r;exact⟨k,r,q b a x⟩
theorem aN(h:o7 X a f):D7 X (.BoolOp .And [a] pos) f:=tq h
theorem xM(h:o7 X a f):D7 X (.BoolOp .Or [a] pos) f:=Br h
theorem fU{f g:CO Bool}{yp:List fA}(C:o7 X a f)(I:D7 X (.BoolOp .And (b::yp) pos) g):D7 X (.BoolOp .And (a::b::yp) pos) (Wf f g):=
 Bt (Bs C I) λm H Q O=>by
  obtain⟨i,e,k,rc,z,q⟩:=O;obtain⟨c,l,z⟩:=ze z;refine⟨i,e,c,rc,l,λh d x=>?_⟩;cases c with
  | true=>rw[UJ rfl]at z ⊢;exact⟨d,e,k,rc.ext x,z,λj U Y=>q j U<|x.trans Y⟩
  | false=>rw[UY MW]at z ⊢;cases z;exact q h d x
theorem qY{f g:CO Bool}{yp:List fA}(C:o7 X a f)(I:D7 X (.BoolOp .Or (b::yp) pos) g):D7 X (.BoolOp .Or (a::b::yp) pos) (vi f g):=
 Bt (Gi C I) λm H Q O=>by
  obtain⟨i,e,k,rc,z,q⟩:=O;obtain⟨c,l,z⟩:=ze z;refine⟨i,e,c,rc,l,λh d x=>?_⟩;cases c with
  | true=>rw[UJ rfl]at z ⊢;cases z;exact q h d x
  | false=>rw[UY MW]at z ⊢;exact⟨d,e,k,rc.ext x,z,λj U Y=>q j U<|x.trans Y⟩
theorem jR(C:o7 X a f):o7 X (.UnaryOp .Not a pos) (jU f):=
 Y5 (BC C) λh H Q I=>by
  obtain⟨g,d,k,rc,z,q⟩:=I;unfold jU at z;cases e1:f d with
  | none=>rw[e1]at z;cases z
  | some c=>rw[e1]at z;cases z;exact⟨g,d,c,rc,e1,λe b x=>q e b x⟩
theorem wB(h:D7 X e f):o7 X e f:=h.pt
theorem X9(h:PV X a f):PV X (.BoolOp op [a] pos) f:=BQ h
theorem Kc{f g:CO D}{yp:List fA}(C:PV X a f)(I:PV X (.BoolOp .And (b::yp) pos) g):PV X (.BoolOp .And (a::b::yp) pos) (cM f g):=
 qE (BY C I) λs H Q O=>by
  obtain⟨k,i,d,rc,z,q⟩:=O;obtain⟨c,h,z⟩:=ze z;obtain⟨U,Y,h⟩:=ze h;refine⟨k,i,U,rc,Y,λv j e x r=>?_⟩;rw[yW h]at r;refine⟨c,r,?_⟩;cases c with
  | true=>rw[UJ rfl]at z ⊢;exact⟨e,i,d,rc.ext x,z,λo l m p n=>q o l m (x.trans p) n⟩
  | false=>rw[UY MW]at z ⊢;cases z;exact q _ j e x (show V.bl eK = .bl eK from rfl)
theorem pU(C:PV X a f):PV X (.UnaryOp .Not a pos) (EG f):=
 qE (BS C) λi H Q O=>by
  obtain⟨h,e,d,rc,z,q⟩:=O;unfold EG at z;cases e1:f e with
  | none=>rw[e1]at z;cases z
  | some I=>
   rw[e1]at z;refine⟨h,e,I,rc,e1,λv g b x r=>?_⟩;cases I with
   | bl c=>cases z;exact⟨c,r,q _ g b x<|show V.bl (!c) = .bl (!c)from rfl⟩
   | _=>cases z
theorem ko(Y:o7 X c k)(C:PV X a f)(J:PV X b g):PV X (.IfExp c a b pos) (cL k f g):=
 qE (nG Y C J) λp H Q n=>by
  obtain⟨l,j,d,rc,z,q⟩:=n;obtain⟨t,m,z⟩:=ze z;refine⟨l,j,t,rc,m,λo e x=>?_⟩;cases t with
  | true=>rw[UJ rfl]at z ⊢;exact⟨e,j,d,rc.ext x,z,λI h O U i=>q I h O (x.trans U) i⟩
  | false=>rw[UY MW]at z ⊢;exact⟨e,j,d,rc.ext x,z,λI h O U i=>q I h O (x.trans U) i⟩
theorem ug:Dt X [] zI:=Cb q8 λe H Q z=>by obtain⟨a,d,b,rc,I,q⟩:=z;cases I;exact q [] H a (Ext.refl rc.sub) ft.nil
theorem nK(C:PV X e f)(U:Dt X es g)(Y:g8 (e::es) X.env=(eK,fy e X.env)::g8 es X.env:=by rfl):Dt X (e::es) (zb f g):=
 Cb (jT C U Y) λs H Q k=>by
  obtain⟨b,a,p,rc,z,q⟩:=k;obtain⟨x,j,z⟩:=ze z;cases I:g a with
  | none=>rw[I]at z;cases z
  | some r=>
   rw[I]at z;cases z;exact⟨b,a,x,rc,j,λv o h x1 l=>⟨h,a,r,rc.ext x1,I,λn d i O m=>q (v::n) d i (x1.trans O)<|ft.cons (l.mono O.s0) m⟩⟩
theorem jJ(h:Dt X es f):PV X (.Tuple es x1 pos) (qW f):=
 qE (BO h) λn H Q Y=>by
  obtain⟨g,k,d,rc,z,q⟩:=Y;obtain⟨b,i,z⟩:=ze z;by_cases I:b.length<=lim
  ·rw[UJ I]at z;cases z
   refine⟨g,k,b,rc,i,λj l m x1 O=>⟨yR (by rw[O.length];exact I),λp U=>?_⟩⟩;exact q _ _ _ (x1.trans<|Ext.alloc x1.sub U _) (show ∃a e,V.ref p = .ref a/\i5 X.K _ a e/\ft X.K _ b e from⟨p,j,rfl,i5.of zQ,O.mono<|js (jH x1.sub U) _⟩)
  ·rw[UY I]at z;cases z
theorem yq(h:Dt X es f):PO X (.List es pos) (kG f):=
 qE (BV h) λm H Q i=>by
  obtain⟨a,k,d,rc,I,q⟩:=i;obtain⟨e,g,I⟩:=ze I;by_cases U:e.length<=lim
  ·rw[UJ U]at I;cases I
   refine⟨a,k,_,rc,g,λj l b x1 Y=>⟨yR (by rw[Y.length];exact U),λp O=>?_⟩⟩;exact q p j _ b (x1.trans<|Ext.hide x1.sub O _) (by
    cases z:H p with
    | none=>rfl
    | some o=>rw[x1.s1 p o z]at O;cases O) (jH x1.sub O) zQ Y
  ·rw[UY U]at I;cases I
end
noncomputable def mT(C:List (Key×V))(ps:List (Key×V)):List (Key×V):=ps.foldl (λacc z=>dX acc z.1 z.2) C
theorem vy:entryFor table "dict.update.loop" = ej rn.«dict.update.loop» :=entryFor_of_tree (by kernel_rfl)
theorem vn(args:Args):(Code.builtin "dict.update.loop" args).quiet=eA:=Code.quiet_builtin _ ⋯
noncomputable def LV(i:Nat)(f:CO D)(γ:Ctx):Option D:=(xQ γ[i]?).bind λa=>(f<|γ.set i<|.val<|.lst a).bind λd=>if Hc d=eA then ej d else eF
noncomputable def Lm(i:Nat)(f:CO Bool)(γ:Ctx):Option Bool:=(xQ γ[i]?).bind λa=>f<|γ.set i<|.val<|.lst a
def Ic(i:Nat)(γ:Ctx):Option Fl:=(xQ γ[i]?).map λ_=> .next (γ.set i<|.own [])
noncomputable def qF(ds:List D):List D:=(Me ds.length).map λ(i:Nat)=>D.tup [.int i,ds[i]?.getD .gm]
noncomputable def XF(f:CO D)(γ:Ctx):Option (List D):=(f γ).bind λd=>match d with
 | .tup a=>ej (qF a)
 | _=>eF
noncomputable def Yc:List D->Option (List Int)
 | []=>ej []
 | .int i::r=>(Yc r).map λl=>i::l
 | _::_=>eF
noncomputable def LR(f:CO D)(g:CO (Sk×List D))(γ:Ctx):Option D:=(f γ).bind λd=>(g γ).bind λa=>(o4 d).bind λi=>(Yc a.2).map λl=> .bl (decide<|i∈l)
noncomputable def iK(k:Int):List Int->Option Nat
 | []=>eF
 | i::r=>if i=k then ej 0 else (iK k r).map (· + 1)
noncomputable def LS(f g:CO D)(γ:Ctx):Option D:=(f γ).bind λd=>((g γ).bind o4).bind λk=>match d with
 | .tup a=>(Yc a).bind λl=>(iK k l).map λ(j:Nat)=>D.int (j:Int)
 | _=>eF
noncomputable def vB(T:Tg)(f:CO (List D))(γ:Ctx):List D->Option (List<|List D)
 | []=>ej []
 | d::ds=>(xH T d γ).bind λa=>(f a).bind λe=>(vB T f γ ds).map λr=>e::r
noncomputable def Jc(C:CO (List D))(T:Tg)(n:Nat)(I:List Nat)(f:CO (List D))(γ:Ctx):Option (List<|List D):=(C γ).bind λa=>if a.length<=lim then vB T f (zZ n I γ) a else eF
def qm:Cell->Bool
 | .nest _=>eA
 | _=>eK
noncomputable def Wb(i:Nat)(f:CO (List<|List D)):CO Fl:=λb=>(f b).bind λa=>if b.any qm=eK then ej (.next<|b.set i<|.nest a)else eF
def k9:Option Cell->Option (List<|List D)
 | some (.nest rows)=>ej rows
 | _=>eF
def vb(γ:Ctx)(j i:Nat)(r:List D):Ctx:=(γ.set j .no).set i (.own r)
noncomputable def kz(j i:Nat)(g f:CO D)(γ:Ctx):List (List D)->Option (List<|List D)
 | []=>ej []
 | r::rs=>(f<|vb γ j i r).bind λd=>((g<|vb γ j i r).bind o4).bind λk=>(k6 r.length k).bind λm=>(kz j i g f γ rs).map λt=>r.set m d::t
noncomputable def QA(j i:Nat)(g f:CO D)(γ:Ctx):Option Fl:=(k9 γ[j]?).bind λa=>if i=j\/γ.length<=i then eF else (kz j i g f γ a).map λz=> .next ((γ.set j<|.nest z).set i .no)
noncomputable def Ia(i:Nat)(F:CO Fl)(γ:Ctx):Option Fl:=(xQ γ[i]?).bind λa=>F<|γ.set i<|.val<|.lst a
noncomputable def fJ(i:Nat)(F:CO Fl)(γ:Ctx):Option Fl:=(k9 γ[i]?).bind λa=>F<|γ.set i<|.val<|.lst<|a.map D.lst
noncomputable def HY(is:List Nat)(f:CO D)(γ:Ctx):Option Fl:=(f γ).bind λd=>match d with
 | .lst a=>if a.length=is.length then ej (.next<|xt is a γ)else eF
 | _=>eF
noncomputable def JZ:List D->Option (List Str)
 | []=>ej []
 | .str x::r=>(JZ r).map λl=>x::l
 | _::_=>eF
def j1(x:Str):Bool:=decide<|x.length<=1000
noncomputable def cK(f:CO D)(g:CO (Sk×List D))(γ:Ctx):Option D:=(f γ).bind λd=>(g γ).bind λa=>match d,a.1 with
 | .str sep,.L=>(JZ a.2).bind λl=>if l.length<=lim/\l.all j1=eA/\j1 sep=eA then ej (.str<|Tp sep l)else eF
 | _,_=>eF
noncomputable def YR(f g:CO D)(γ:Ctx):Option D:=(f γ).bind λd=>((g γ).bind o4).bind λi=>match d with
 | .str z=>if j1 z=eA then (k6 z.cps.toList.length i).bind λk=>z.cps.toList[k]?.map λc=> .str ⟨#[c]⟩else eF
 | _=>eF
noncomputable def YU(f:CO D)(γ:Ctx):Option D:=(f γ).bind λd=>match d with
 | .str z=>if j1 z=eA then ej (.int z.length)else eF
 | _=>eF
noncomputable def Lj(z O I U:Str)(f:CO D)(γ:Ctx):Option D:=(f γ).bind λd=>match d with
 | .str x=>if z=I then eF else if x=z then ej (.str O)else if x=I then ej (.str U)else eF
 | _=>eF
noncomputable def Bf(f g:CO D)(γ:Ctx):Option D:=((f γ).bind o4).bind λi=>((g γ).bind o4).map λj=> .int (if j<i then j else i)
abbrev Xn:=Str×Option Int
def U0:CO Xn:=λ_=>eF
def FK(c:Str):CO Xn:=λ_=>ej (c,eF)
noncomputable def UU(k:CO Bool)(G H:CO Xn):CO Xn:=λa=>(k a).bind λb=>if b=eA then G a else H a
def LG(c:Str):Str:=if c==("NoRoom" : Str)then "room" else "at"
noncomputable def KU(f:CO D)(g:CO (Sk×List D)):CO D:=λb=>(f b).bind λd=>(g b).bind λa=>(o4 d).bind λi=>(Yc a.2).map λl=> .bl (!decide (i∈l))
noncomputable def KW(j:Nat)(g:CO D)(γ:Ctx):Option (List (List D)×Nat×List D):=(k9 γ[j]?).bind λR=>((g γ).bind o4).bind λi=>(k6 R.length i).bind λk=>(R[k]?).map λrow=>(R,k,row)
end DL
namespace DL
open PySem L2
open PySem.W (KasT kas_sort)
def qD(z:Str):List D:=z.cps.toList.map λc=>D.str ⟨#[c]⟩
noncomputable def pQ(f:CO D)(γ:Ctx):Option (List D):=(f γ).bind λd=>match d with
 | .str z=>if j1 z=eA then ej (qD z)else eF
 | _=>eF
noncomputable def X7(f:CO D)(γ:Ctx):Option (List D):=(f γ).bind λd=>match d with
 | .str z=>if j1 z=eA then ej (qF<|qD z)else eF
 | _=>eF
noncomputable def aI(f:CO D)(γ:Ctx):Option (List D):=(f γ).bind λd=>match d with
 | .lst a=>ej (qF a)
 | _=>eF
noncomputable def EJ(f:CO D)(g:CO (Sk×List D))(γ:Ctx):Option D:=(f γ).bind λd=>(g γ).bind λa=>match d with
 | .str x=>(JZ a.2).map λl=> .bl (l.any λy=>y==x)
 | _=>eF
def nJ:D->Option (Int×Int)
 | .tup [.int a,.int b]=>ej (a,b)
 | _=>eF
noncomputable def Jg:List D->Option (List<|Int×Int)
 | []=>ej []
 | d::r=>(nJ d).bind λp=>(Jg r).map λl=>p::l
def wq(x y:Int×Int):Bool:=if x.1=y.1 then decide (x.2<y.2)else decide (x.1<y.1)
noncomputable def kn{C:Type}(lt:Nat->Nat->Bool):KasT C->C
 | .ret a=>a
 | .ask i j k=>kn lt<|k<|lt i j
noncomputable def qp(ps:List (Int×Int)):List Nat:=if ps.length<2 then Me ps.length else (kn (λi j=>wq (ps.getD i (0,0))<|ps.getD j (0,0))<|kas_sort ps.length).toList
noncomputable def fv(ds:List D):Option (List D):=(Jg ds).bind λa=>if ds.length<64 then ej ((qp a).map λi=>ds.getD i .gm)else eF
noncomputable def X6(f:CO (Sk×List D))(γ:Ctx):Option (List D):=(f γ).bind λa=>match a.1 with
 | .L=>fv a.2
 | _=>eF
end DL
namespace DL
open PySem L2
noncomputable def Gd(i:Nat)(f:CO (List D))(γ:Ctx):Option Fl:=(xQ γ[i]?).bind λa=>(f γ).bind λb=>if a.length+b.length<=lim then ej (.next<|γ.set i<|.own<|a++b)else eF
noncomputable def Ie(F G:List D->Option Res)(g:CO (List D))(γ:Ctx):Option (List D):=(g γ).bind λl=>match l with
 | [p,.str z,t,b]=>((if z=("r" : Str)then F else G) [p,t,b]).bind Ge
 | _=>eF
noncomputable def XQ:List D->Option (List Int)
 | []=>ej []
 | .int i::r=>(XQ r).map λl=>i::l
 | _::_=>eF
noncomputable def oR(ds C:List D):Option D:=match XQ ds with
 | some a=>if ds.length=C.length/\a.Nodup/\ds.length<=lim then ej (.ow ds C)else eF
 | none=>eF
noncomputable def bw:List D->List D->Int->Option D
 | k::ks,v::vs,i=>match k with
  | .int j=>if j=i then ej v else bw ks vs i
  | _=>bw ks vs i
 | _,_,_=>eF
open PySem.Spec PyProof.Rows
structure RS(K:Mf)(E0 E H0 H:Hp)(σ:St)(γ:Ctx):Prop where
 rc:RC K H0 H σ γ
 ext:Ext E0 E H0 H
 fresh : ∀(i:Nat) ds a,γ[i]? = ej (.own ds)->σ[i]? = ej (ej (.ref a))->E a=eF
 A7 : ∀(i:Nat) rows a xs,γ[i]? = ej (.nest rows)->σ[i]? = ej (ej (.ref a))->H a=ej (.lst xs)->E a=eF/\∀b,V.ref b∈xs->E b=eF
noncomputable def Sat(K:Mf)(E0 E:Hp)(D:Ends):Fl->Prop
 | .next f=>∀e H b,RS K E0 E b H e f->D.nx e H
 | .brk f=>∀e H b,RS K E0 E b H e f->D.bk e H
 | .cont f=>∀e H b,RS K E0 E b H e f->D.ct e H
 | .ret (.val d)=>∀v H b,Ext E0 E b H->Rep K b d v->D.rt v H
 | .ret (.own es)=>∀a g H b,Ext E0 E b H->E a=eF->b a=eF->H a=ej (.lst g)->ft K b es g->D.rt (.ref a) H
noncomputable def tS(K:Mf)(F:CO Fl):TS:=λD d H=>∃E0 E b a z,RS K E0 E b H d a/\F a=ej z/\Sat K E0 E D z
abbrev n7(X:Cx)(st:m7)(F:CO Fl):Prop:=PS X st (tS X.K F)
abbrev lU(X:Cx)(_P:List m7)(F:CO Fl):Prop:=u9 X _P (tS X.K F)
section
variable{K:Mf}{E0 E H0 H C7 H':Hp}{σ:St}{γ:Ctx}
theorem RS.step(r:RS K E0 E H0 H σ γ)(e:Ext H0 H C7 H'):RS K E0 E C7 H' σ γ:=⟨r.rc.ext e,r.ext.trans e,r.fresh,λi b a g d f I=>by obtain⟨O,bs,z,g2,_⟩:=r.rc.n0.1 i b d;rw[f]at z;cases z;have:=e.s1 a _ g2.ha;rw[I]at this;cases this;exact r.A7 i b a _ d f g2.ha⟩
theorem zE{C:Type}{l:List C}{i j:Nat}{x y:C}(h:(l.set i x)[j]? = ej y):(j=i/\y=x/\i<l.length)\/(j≠i/\l[j]? = ej y):=by
 by_cases e:i=j
 ·subst e
  by_cases z:i<l.length
  ·rw[ME z]at h;cases h;exact .inl ⟨rfl,rfl,z⟩
  ·rw[List.set_eq_of_length_le ⋯]at h
   exact absurd (Mv.mp h).1 z
 ·rw[Mo e]at h;exact .inr ⟨MV e,h⟩
theorem tr.Di{i:Nat}{d:D}{v:V}(n:tr K H0 H σ γ):tr K H0 H (σ.set i<|some v) (γ.set i<|.val d):=
 ⟨λj b e=>by
  rcases zE e with⟨_,z,_⟩ | ⟨U,z⟩
  ·cases z
  ·obtain⟨a,bs,h,l,Y⟩:=n.1 j b z
   refine⟨a,bs,by rw[Mo (MV U)];exact h,l,λk g c f I=>?_⟩;rcases zE f with⟨_,z,_⟩ | ⟨m,O⟩
   ·cases z
   ·rw[Mo (MV m)]at I;exact Y k g c O I,
 λj k o p f I=>by
  rcases zE f with⟨_,z,_⟩ | ⟨_,O⟩
  ·cases z
  ·rcases zE I with⟨_,z,_⟩ | ⟨_,r⟩
   ·cases z
   ·exact n.2 j k o p O r⟩
theorem RC.Di{i:Nat}{d:D}{v:V}(r:RC K H0 H σ γ)(h:Rep K H0 d v):RC K H0 H (σ.set i<|some v) (γ.set i<|.val d):=by
 refine⟨r.sub,by simp[r.len],λj g e=>?_,λj b e=>?_,λj k a b n l m U Y=>?_,r.n0.Di⟩
 ·rcases zE e with⟨rfl,z,f⟩ | ⟨I,z⟩
  ·cases z;exact⟨v,ME (by rw[r.len];exact f),h⟩
  ·obtain⟨p,O,g2⟩:=r.val j g z
   exact⟨p,by rw[Mo (MV I)];exact O,g2⟩
 ·rcases zE e with⟨rfl,z,f⟩ | ⟨I,z⟩
  ·cases z
  ·obtain⟨a,s,O,g2⟩:=r.own j b z
   exact⟨a,s,by rw[Mo (MV I)];exact O,g2⟩
 ·rcases zE l with⟨_,z,_⟩ | ⟨I,t⟩
  ·cases z
  ·rcases zE m with⟨_,z,_⟩ | ⟨o,u⟩
   ·cases z
   ·rw[Mo (MV I)]at U
    rw[Mo (MV o)]at Y;exact r.ne j k a b n t u U Y
theorem RS.Di{i:Nat}{d:D}{v:V}(r:RS K E0 E H0 H σ γ)(h:Rep K H0 d v):RS K E0 E H0 H (σ.set i<|some v) (γ.set i<|.val d):=
 ⟨r.rc.Di h,r.ext,λj f a e I=>by
  rcases zE e with⟨_,z,_⟩ | ⟨O,z⟩
  ·cases z
  ·rw[Mo (MV O)]at I;exact r.fresh j f a z I,
 λj b a g e I U=>by
  rcases zE e with⟨_,z,_⟩ | ⟨O,z⟩
  ·cases z
  ·rw[Mo (MV O)]at I;exact r.A7 j b a g z I U⟩
theorem yP : ∀{z bs:List fe},z.map V.ref=bs.map V.ref->z=bs
 | [],[],_=>rfl
 | [],_::_,h=>by cases h
 | _::_,[],h=>by cases h
 | a::z,b::bs,h=>by rw[MT,MT]at h;injection h with h1 h2;injection h1 with h1;rw[h1,yP h2]
theorem RS._O{i:Nat}{S:List D}{a:fe}{xs:List V}{J G:Hp}(r:RS K E0 E J G σ γ)(e:Ext J G H0 H)(C:G a=eF)(Z:H0 a=eF)(h3:H a=ej (.lst xs))(h4:ft K H0 S xs) :
 RS K E0 E H0 H (σ.set i<|some (.ref a)) (γ.set i<|.own S):=by
 have rc:=r.rc.ext e;have no : ∀(j:Nat) f,γ[j]? = ej (.own f)->¬σ[j]? = ej (ej (.ref a)):=λj f g z=>by obtain⟨b,u,I,g2,g3,_⟩:=r.rc.own j f g;rw[z]at I;cases I;rw[C]at g3;cases g3
 refine⟨⟨rc.sub,by simp[rc.len],λj w g=>?_,λj f g=>?_,λj k b f fs t Y h l=>?_,⟨λj d g=>?_,λj k B F I g2=>?_⟩⟩,r.ext.trans e,λj f b I g2=>?_,λj d b xs I g2 g3=>?_⟩
 ·rcases zE g with⟨_,z,_⟩ | ⟨O,z⟩
  ·cases z
  ·obtain⟨L,I,g2⟩:=rc.val j w z
   exact⟨L,by rw[Mo (MV O)];exact I,g2⟩
 ·rcases zE g with⟨rfl,z,U⟩ | ⟨O,z⟩
  ·cases z;exact⟨a,xs,ME (by rw[rc.len];exact U),Z,h3,h4⟩
  ·obtain⟨b,u,I,g2⟩:=rc.own j f z
   exact⟨b,u,by rw[Mo (MV O)];exact I,g2⟩
 ·rcases zE t with⟨rfl,z,U⟩ | ⟨O,m⟩
  ·rcases zE Y with⟨rfl,_,_⟩ | ⟨n,p⟩
   ·rfl
   ·rw[ME (by rw[rc.len];exact U)]at h
    rw[Mo (MV n)]at l;cases h;exact absurd l<|no k fs p
  ·rcases zE Y with⟨rfl,z,U⟩ | ⟨n,p⟩
   ·rw[ME (by rw[rc.len];exact U)]at l
    rw[Mo (MV O)]at h;cases l;exact absurd h<|no j f m
   ·rw[Mo (MV O)]at h
    rw[Mo (MV n)]at l;exact rc.ne j k b f fs m p h l
 ·rcases zE g with⟨_,z,_⟩ | ⟨O,z⟩
  ·cases z
  ·obtain⟨b,bs,I,g2,g3⟩:=r.rc.n0.1 j d z
   obtain⟨M,s,f1,f2,y⟩:=rc.n0.1 j d z;rw[I]at f1;cases f1;have x:s.map V.ref=bs.map V.ref:=by have:=e.s1 b _ g2.ha;rw[f2.ha]at this;injection this with this;injection this
   have as:s=bs:=yP x;subst as;refine⟨b,s,by rw[Mo (MV O)];exact I,f2,λk f c t Y=>?_⟩;rcases zE t with⟨rfl,_,U⟩ | ⟨n,m⟩
   ·rw[ME (by rw[rc.len];exact U)]at Y;cases Y
    intro A;obtain⟨_,N,q⟩:=g2.at A;rw[C]at q;cases q
   ·rw[Mo (MV n)]at Y;exact y k f c m Y
 ·rcases zE I with⟨_,z,_⟩ | ⟨_,m⟩
  ·cases z
  ·rcases zE g2 with⟨_,z,_⟩ | ⟨_,p⟩
   ·cases z
   ·exact rc.n0.2 j k B F m p
 ·rcases zE I with⟨rfl,z,U⟩ | ⟨O,z⟩
  ·rw[ME (by rw[rc.len];exact U)]at g2;cases g2
   cases q:E a with
   | none=>rfl
   | some o=>rw[r.ext.s1 a o q]at C;cases C
  ·rw[Mo (MV O)]at g2;exact r.fresh j f b z g2
 ·rcases zE I with⟨_,z,_⟩ | ⟨O,z⟩
  ·cases z
  ·rw[Mo (MV O)]at g2;exact(r.step e).A7 j d b xs z g2 g3
theorem RS.rewrite{i:Nat}{ds J:List D}{a:fe}{xs ys:List V}(r:RS K E0 E H0 H σ γ)(C:γ[i]? = ej (.own ds))(U:σ[i]? = ej (ej (.ref a)))(S:ft K H0 J ys) :
 RS K E0 E H0 (upd H a<|.lst ys) σ (γ.set i<|.own J):=by
 obtain⟨L,as,g1,g2,g3,P⟩:=r.rc.own i ds C;rw[U]at g1;cases g1;have N:i<γ.length:=(Mv.mp C).1;refine⟨⟨λb o q=>?_,by simp[r.rc.len],λj y g=>?_,λj fs g=>?_,λj k b fs gs e I m A=>?_,⟨λj d g=>?_,λj k F G e I=>?_⟩⟩,⟨r.ext.s0,λb o q=>?_,λb o q=>?_,r.ext.new⟩,λj fs b e I=>?_,λj d b t e I m=>?_⟩
 ·rw[zL (λz=>by rw[z,g2]at q;cases q)];exact r.rc.sub b o q
 ·rcases zE g with⟨_,z,_⟩ | ⟨n,z⟩
  ·cases z
  ·exact r.rc.val j y z
 ·rcases zE g with⟨rfl,z,Q⟩ | ⟨n,z⟩
  ·cases z;exact⟨a,ys,U,g2,zQ,S⟩
  ·obtain⟨b,t,O,Y,h,B⟩:=r.rc.own j fs z
   refine⟨b,t,O,Y,?_,B⟩;rw[zL (λq=>n<|r.rc.ne j i a fs ds z C (by rw[O,q]) U)];exact h
 ·have w : ∃f,γ[j]? = ej (.own f):=by
   rcases zE e with⟨q,_,_⟩ | ⟨_,z⟩
   ·exact⟨ds,by rw[q];exact C⟩
   ·exact⟨fs,z⟩
  have x : ∃f,γ[k]? = ej (.own f):=by
   rcases zE I with⟨q,_,_⟩ | ⟨_,z⟩
   ·exact⟨ds,by rw[q];exact C⟩
   ·exact⟨gs,z⟩
  obtain⟨O,l⟩:=w;obtain⟨Y,s⟩:=x;exact r.rc.ne j k b O Y l s m A
 ·rcases zE g with⟨_,z,_⟩ | ⟨n,z⟩
  ·cases z
  ·obtain⟨b,bs,O,Y,h⟩:=r.rc.n0.1 j d z
   have u:=h i ds a C U;refine⟨b,bs,O,Y.move (i4.refl _) (λc p=>(Y.at p).1)<|λc p=>zL λq=>u<|q ▸ p,λk fs c e I=>?_⟩;rcases zE e with⟨q,_,_⟩ | ⟨_,l⟩
   ·rw[q,U]at I;cases I;exact u
   ·exact h k fs c l I
 ·rcases zE e with⟨_,z,_⟩ | ⟨_,l⟩
  ·cases z
  ·rcases zE I with⟨_,z,_⟩ | ⟨_,s⟩
   ·cases z
   ·exact r.rc.n0.2 j k F G l s
 ·rw[zL (λz=>by rw[z,r.fresh i ds a C U]at q;cases q)];exact r.ext.s1 b o q
 ·rw[zL (λz=>by rw[z,g2]at q;cases q)];exact r.ext.sub b o q
 ·rcases zE e with⟨q,_,_⟩ | ⟨_,z⟩
  ·rw[q]at I;exact r.fresh i ds b C I
  ·exact r.fresh j fs b z I
 ·rcases zE e with⟨_,z,_⟩ | ⟨n,z⟩
  ·cases z
  ·obtain⟨M,bs,O,Y,h⟩:=r.rc.n0.1 j d z
   rw[I]at O;cases O;rw[zL (show b≠a from λq=>h i ds a C U<|by rw[q];exact Mx)]at m;exact r.A7 j d b t z I m
end
section
variable{X:Cx}{e a b c:fA}{pos:h8}{st:m7}{yp:List m7}
theorem z5:lU X [] j9:=pY tI λD b H z=>by obtain⟨E0,E,a,d,Y,I,O,U⟩:=z;cases O;exact U b H a I
theorem zf{F G:CO Fl}(C:n7 X st F)(J:lU X yp G):lU X (st::yp) (zJ F G):=pY (mZ C J) λD k H U=>by
 obtain⟨E0,E,d,h,Y,g,z,I⟩:=U;obtain⟨O,f,z⟩:=ze z;refine⟨E0,E,d,h,O,g,f,?_⟩;cases O with
 | next a=>exact λi j b e=>⟨E0,E,b,a,Y,e,z,I⟩
 | brk a=>cases z;exact I
 | cont a=>cases z;exact I
 | ret r=>cases z;cases r<;>exact I
theorem zq(C:n7 X st F):lU X [st] F:=gc C
theorem zB(h:o.map f=ej y) : ∃x,o=ej x/\f x=y:=by
 cases o with
 | none=>cases h
 | some x=>exact⟨x,rfl,by simpa using h⟩
theorem zF{f:CO D}(h:PV X e f):n7 X (.Return (ej e) pos) (qv f):=kQ (gd h) λD k H O=>by obtain⟨E0,E,g,j,Y,I,z,U⟩:=O;obtain⟨d,i,z⟩:=zB z;subst z;exact⟨g,j,d,I.rc,i,λv b a x r=>U v b a (I.ext.trans x) r⟩
theorem xx{f:CO (List D)}(h:PO X e f):n7 X (.Return (ej e) pos) (Jp f):=kQ (gd h) λD s H O=>by
 obtain⟨E0,E,i,n,p,z,I,U⟩:=O;obtain⟨j,k,I⟩:=zB I;subst I;refine⟨i,n,j,z.rc,k,λa m g b x d l Y r=>U a m g b (z.ext.trans x) ?_ l Y r⟩;cases q:E a with
 | none=>rfl
 | some o=>rw[z.ext.s1 a o q]at d;cases d
theorem JB(i:Nat)(h:PE X e (Au i)):n7 X (.Return (ej e) pos) (Wc i):=kQ (gd h) λD r H U=>by
 obtain⟨E0,E,j,o,p,I,z,O⟩:=U;unfold Wc at z;cases b:o[i]? with
 | none=>rw[b]at z;cases z
 | some c=>
  rw[b]at z;cases c with
  | no=>cases z
  | val d=>
   cases z;obtain⟨v,f,g⟩:=I.rc.val i d b;exact⟨v,f,O v H j I.ext g⟩
  | nest l=>cases z
  | own k=>
   cases z;obtain⟨a,n,f,g,Y,m⟩:=I.rc.own i k b;exact⟨_,f,O a n H j I.ext (I.fresh i k a b f) g Y m⟩
theorem Y6:n7 X (.Continue pos) sW:=kQ Wl λD b H ⟨E0,E,a,d,U,z,I,O⟩=>by cases I;exact O b H a z
theorem wY:n7 X st YT:=kQ nu λD d H ⟨E0,E,a,b,I,O,z,U⟩=>by cases z
theorem jS{k:CO Bool}{F G:CO Fl}{x y:List m7}(Y:o7 X c k)(C:lU X x F)(J:lU X y G):n7 X (.If c x y pos) (kr k F G):=kQ (Gn Y C J) λD h H f=>by
 obtain⟨E0,E,d,b,O,I,z,U⟩:=f;obtain⟨t,e,z⟩:=ze z;refine⟨d,b,t,I.rc,e,λg a x=>?_⟩;cases t with
 | true=>rw[UJ rfl]at z ⊢;exact⟨E0,E,a,b,O,I.step x,z,U⟩
 | false=>rw[UY MW]at z ⊢;exact⟨E0,E,a,b,O,I.step x,z,U⟩
theorem tJ(i:Nat){f:CO D}(h:PS X st (cD (tV X.K f)<|vx i)):n7 X st (jy i f):=kQ h λD k H O=>by obtain⟨E0,E,b,g,Y,I,z,U⟩:=O;obtain⟨d,e,z⟩:=zB z;subst z;exact⟨b,g,d,I.rc,e,λv j a x r=>U _ _ a<|(I.step x).Di r⟩
theorem aO(i:Nat){f:CO (List D)}(h:PS X st (cD (tO X.K f)<|vx i)):n7 X st (wz i f):=kQ h λD p H O=>by obtain⟨E0,E,d,l,n,I,z,U⟩:=O;obtain⟨e,g,z⟩:=zB z;subst z;exact⟨d,l,e,I.rc,g,λa o m b x j k Y r=>U _ _ b<|I._O x j k Y r⟩
theorem vD(h:xQ o=ej ds):o=ej (.own ds):=by
 cases o with
 | none=>cases h
 | some c=>cases c<;>simp[xQ]at h;rw[h]
theorem cR(i:Nat){f:CO D}(h:PE X e (F_ X.K "list" fS (Au i) (AU (tV X.K f) HX)))(C:DE e eF pos.line X.env=pure eK:=by rfl):n7 X (.Expr e pos) (xu i f):=
 kQ (gh h C) λD A H s=>by
  obtain⟨E0,E,l,t,w,I,z,m⟩:=s;obtain⟨j,b,z⟩:=ze z;obtain⟨d,p,z⟩:=ze z;have b:=vD b;by_cases O:j.length<lim
  ·rw[UJ O]at z;cases z
   obtain⟨a,xs,k,y,U,Y⟩:=I.rc.own i j b;refine⟨_,k,.inl ⟨rfl,_,h9.of U⟩,l,t,d,I.rc,p,λv u g x r=>?_⟩;have n:=I.step x;have o:=x.s1 _ _ U;refine⟨a,xs,v,rfl,rfl,o,?_,?_⟩
   ·exact MI (by rw[Y.length];exact O)<|yR<|Mp _
   ·exact m _ _ g<|n.rewrite (xs:=xs) b k<|(Y.mono x.s0).append (ft.cons r ft.nil)
  ·rw[UY O]at z;cases z
end
noncomputable def LN(K:Mf)(H0 H:Hp)(Q:VK):Res->Prop
 | .val d=>∀v e b,Ext H0 H b e->Rep K b d v->Q v e
 | .own g=>∀a f e b,Ext H0 H b e->H a=eF->b a=eF->e a=ej (.lst f)->ft K b g f->Q (.ref a) e
noncomputable def yg(K:Mf)(n:Nat)(F:List D->Option Res):Sp:=λd H Q _=>∃a b r,i4 a H/\ft K a b d/\b.length=n/\F b=ej r/\LN K a H Q r
theorem yg.len{K:Mf}{n:Nat}{F:List D->Option Res}{ps:List Str}(C:ps.length=n) : ∀vs H Q E,yg K n F vs H Q E->vs.length=ps.length:=λvs H Q E h=>by obtain⟨d,e,r,_,a,b,_⟩:=h;rw[a.length,b,C]
section
variable{P:l6}{w:i8}{K:Mf}{mg:UZ}{base:gB}
theorem mM(s:i4 H0 H)(h:ft K H0 ds vs)(C:ds.length<=N.length):RS K H0 H H0 H (J0 N vs) (jc N.length ds):=by
 have z:=h.length;refine⟨⟨s,by simp[L2.J0,jc,z],λi d e=>?_,λi g e=>?_,λi j a g fs e _ _ _=>?_,tr.G7 λi f e=>?_⟩,Ext.refl s,λi g a e _=>?_,λi f a l e _ _=>?_⟩
 all_goals unfold jc at e
 ·by_cases b:i<ds.length
  ·rw[ND (by simpa using b),Nf]at e
   cases e1:ds[i]? with
   | none=>rw[e1]at e;cases e
   | some k=>
    rw[e1]at e;cases e;obtain⟨x,I,g2⟩:=h.get e1;refine⟨x,?_,g2⟩;unfold L2.J0;rw[ND (by simp;omega),Nf,I];rfl
  ·rw[Nm (by simpa using b),PM]at e
   split at e<;>cases e
 all_goals
  by_cases b:i<ds.length
  ·rw[ND (by simpa using b),Nf]at e
   cases e1:ds[i]? with
   | none=>rw[e1]at e;cases e
   | some k=>rw[e1]at e;cases e
  ·rw[Nm (by simpa using b),PM]at e
   split at e<;>cases e
theorem CQ{x qual:Str}{st:m7}{f:fe}{J:u0}{N ps:List Str}{k:Nat}{F:CO Fl}(U:L2.D5 K x qual st f J)(S:I8 N ps (jX st))
 (Y : ∀(C:fh) (A:o6) (outer:List ro) (s:f6) (H:Hp) (E:XK),qs k (A.deeper<|envOfC qual (jX st) s.heap.objs.size f C)->lU (uW u7 P w K mg base N qual (jX st) f C A outer s H E).M6 (yU st) F) :
 uw P w K mg base u7 (k+1) f J ps (yg K ps.length<|jr N.length F):=by
 refine U.ok S (yg.len rfl)<|λC A outer s H B Q E m h=>⟨_,Y C A outer s H E m,?_⟩;obtain⟨b,g,r,o,j,u,l,I⟩:=h;obtain⟨O,i,z⟩:=ze l;have t:ps.length<=N.length:=by have:=congrArg List.length S.pre;rw[Rm]at this;omega
 refine⟨b,H,b,jc N.length g,O,mM o j ⋯,i,?_⟩;cases O with
 | ret y=>cases z;cases r<;>exact I
 | next d=>cases z;exact λp e a n=>I .gm e a n.ext (show V.gm = .gm from rfl)
 | brk d=>cases z
 | cont d=>cases z
end
section
variable{X:Cx}{es:List fA}{pos p:h8}{k:Nat}{f:fe}{fd:u0}{ps:List Str}{x:Str}{F:List D->Option Res}{g:CO (List D)}
theorem tF{A0:List fA}(G:uw X.prog X.w X.K X.mg X.base u7 k f fd ps (yg X.K ps.length F))(C:Dt X es g)(Y : ∀γ ds,g γ=ej ds->ds.length=ps.length)
 (J : ∀{t:TA},PA X es t->PE X (.Call (.Name x p) es [] pos) (sC (yg X.K ps.length F) [] E0 t)):PV X (.Call (.Name x p) es [] pos) (zD F g):=
 qE (J C) λL H Q u=>by
  obtain⟨l,γ,d,rc,z,q⟩:=u;obtain⟨ds,i,z⟩:=ze z;obtain⟨r,n,z⟩:=zB z;refine⟨l,γ,ds,rc,i,λE B m x1 y=>⟨m,ds,r,x1.sub,by simpa using y,Y γ ds i,n,?_⟩⟩;subst z;cases r with
  | val d=>exact λv e b I h=>q v e b (x1.trans I) h
  | own fs=>
   refine λa A e b I o j s h=>q _ e _ (x1.trans<|I.show o j s x1.sub) ?_;exact(show ∃O U,V.ref a = .ref O/\h9 X.K _ O U/\ft X.K _ fs U from⟨a,A,rfl,h9.of zQ,h.mono<|js j _⟩)
theorem tX(G:uw X.prog X.w X.K X.mg X.base u7 k f fd ps (yg X.K ps.length F))(C:Dt X es g)(O : ∀γ ds,g γ=ej ds->ds.length=ps.length)
 (U : ∀{t:TA},PA X es t->PE X (.Call (.Name x p) es [] pos) (sC (yg X.K ps.length F) [] E0 t)):PO X (.Call (.Name x p) es [] pos) (jV F g):=
 qE (U C) λL H Q Y=>by
  obtain⟨j,γ,fs,rc,I,q⟩:=Y;obtain⟨ds,e,I⟩:=ze I;obtain⟨r,m,I⟩:=ze I;refine⟨j,γ,ds,rc,e,λJ E l x1 u=>⟨l,ds,r,x1.sub,by simpa using u,O γ ds e,m,?_⟩⟩;cases r with
  | val d=>cases I
  | own gs=>
   cases I;exact λa B i b A h n s y=>q a B i b (x1.trans A) (by
    cases z:H a with
    | none=>rfl
    | some o=>rw[x1.s1 a o z]at h;cases h) n s y
end
structure Walk(K:Mf)(H0 Hs:Hp)(J:It)(ds:List D):Prop where
 go : ∀i H1,i4 Hs H1->i<ds.length->J.go i H1
 stop : ∀H1,i4 Hs H1->J.stop ds.length H1
 C6 : ∀i H1 x U2,i4 Hs H1->i<ds.length->J.C6 i H1 x U2->∃d,ds[i]? = ej d/\∀G0,i4 H0 G0->i4 G0 H1->∃U1,Ext G0 H1 U1 U2/\Rep K U1 d x
theorem Walk.weak{K:Mf}{H0 C z:Hp}{J:It}{ds:List D}(w:Walk K H0 C J ds)(s:i4 C z):Walk K H0 z J ds:=
 ⟨λi a h=>w.go i a<|s.trans h,λa h=>w.stop a<|s.trans h,λi a x b h=>w.C6 i a x b<|s.trans h⟩
theorem KH{k:Sk}{K:Mf}{H0 C:Hp}{a:fe}{xs:List V}{ds:List D}(h:l7 k K C a xs)(r:ft K H0 ds xs):Walk K H0 C (U3 k K a) ds:=by
 have O:=r.length;refine⟨λi b s n=>?_,λb s=>?_,λi b x f s n y=>?_⟩
 ·have g:i<xs.length:=by omega
  cases k with
  | L=>exact⟨xs,xs[i],s.seq h,Mi g⟩
  | T=>exact⟨xs,xs[i],p8 s h,Mi g⟩
 ·cases k with
  | L=>exact⟨xs,s.seq h,by omega⟩
  | T=>exact⟨xs,p8 s h,by omega⟩
 ·have e:f=b/\xs[i]? = ej x:=by
   cases k with
   | L=>exact⟨y.1,y.2 xs<|s.seq h⟩
   | T=>exact⟨y.1,y.2 xs<|p8 s h⟩
  obtain⟨l,z⟩:=e;subst l;obtain⟨d,m,I⟩:=r.Dg z;exact⟨d,m,λj o p=>⟨j,Ext.refl p,I.mono o⟩⟩
theorem ZD(lo:Int)(n:Nat):(wW lo n).length=n:=by simp[wW]
theorem XX{K:Mf}{H0 C:Hp}(lo:Int)(n:Nat):Walk K H0 C (DK lo n) (wW lo n):=by
 refine⟨λi b s a=>?_,λb s=>?_,λi b x e s a y=>?_⟩
 ·rw[ZD]at a;exact a
 ·rw[ZD];exact Mp _
 ·rw[ZD]at a
  obtain⟨f,z⟩:=y;subst f z;exact⟨.int<|lo+i,by simp[wW,a],λd h g=>⟨d,Ext.refl g,(show V.int (lo+i) = .int (lo+i)from rfl)⟩⟩
theorem mw{I O:Sk}{K:Mf}{H0 J:Hp}{a b:fe}{xs ys:List V}{ds C:List D}(S:l7 I K J a xs)(U:ft K H0 ds xs)(Z:l7 O K J b ys)(r2:ft K H0 C ys) :
 Walk K H0 J (Tz I O K a b) (Yu ds C):=by
 have E:=U.length;have F:=r2.length;have B:(Yu ds C).length=min ds.length C.length:=by simp[Yu]
 refine⟨λi f s w=>?_,λf s=>?_,λi f x k s w y=>?_⟩
 ·exact⟨xs,ys,ym s S,ym s Z,by omega,by omega⟩
 ·refine⟨xs,ys,ym s S,ym s Z,?_⟩
  rw[B];omega
 ·obtain⟨p,u,v,n,z,o,g1,g2⟩:=y
  obtain⟨d,t,A⟩:=U.Dg<|g1 xs<|ym s S;obtain⟨c,r,l⟩:=r2.Dg<|g2 ys<|ym s Z;refine⟨.tup [d,c],?_,λj h e=>⟨upd j p<|.tup [u,v],?_,?_⟩⟩
  ·have m:(ds.zip C)[i]? = ej (d,c):=RN.mpr ⟨t,r⟩
   simp[Yu,m]
  ·rw[o];exact Ext.alloc e z _
  ·rw[n]
   exact(show ∃Y g,V.ref p = .ref Y/\i5 K _ Y g/\ft K _ [d,c] g from⟨p,[u,v],rfl,i5.of zQ,ft.cons ((A.mono h).mono (js (jH e z) _))<|ft.cons ((l.mono h).mono (js (jH e z) _)) ft.nil⟩)
noncomputable def UO(K:Mf)(C:CO (List D)):TI:=λg H R=>∃d f e,RC K d H g f/\C f=ej e/\∀J b a,Ext d H a b->Walk K a b J e->R J b
noncomputable def UP(K:Mf)(C:CO (List D)):TI:=λg H R=>∃d f e,RC K d H g f/\C f=ej e/\∀J b a,Ext d H a b->Walk K a a J e->R J b
abbrev A4(X:Cx)(tg e:fA)(src:CO (List D)):Prop:=PI X tg e (UO X.K src)
abbrev ji(X:Cx)(tg e:fA)(src:CO (List D)):Prop:=PI X tg e (UP X.K src)
section
variable{X:Cx}{tg e a b:fA}{pos p:h8}
theorem ji.c(h:ji X tg e src):A4 X tg e src:=QJ h λi H R ⟨d,g,f,rc,z,q⟩=>⟨d,g,f,rc,z,λJ b a x w=>q J b a x<|w.weak x.sub⟩
theorem zY(h:PQ X e f):A4 X tg e (zN f):=QJ (gw h) λp H R z=>by obtain⟨i,n,o,rc,I,q⟩:=z;obtain⟨⟨k,l⟩,j,O⟩:=zB I;subst O;exact⟨i,n,k,l,rc,j,λa m g b x d _ r=>⟨a,k,rfl,⟨m,d⟩,q _ g b x<|KH d r⟩⟩
theorem ZG(h:PV X e f):ji X tg e (zN<|zW f):=QJ (gw h) λt H R O=>by
 obtain⟨o,p,s,rc,U,q⟩:=O;obtain⟨⟨k,l⟩,g,z⟩:=zB U;subst z;obtain⟨d,Y,g⟩:=ze g;refine⟨o,p,d,rc,Y,λv n b x r=>?_⟩;cases d with
 | tup fs=>
  obtain⟨z,I⟩:k = .T/\l=fs:=by simp[j5]at g;exact⟨g.1.symm,g.2.symm⟩
  subst z I;obtain⟨a,i,rfl,j,m⟩:=(show ∃a i,v = .ref a/\i5 X.K b a i/\ft X.K b l i from r);exact⟨a,.T,rfl,⟨i,p8 x.sub j⟩,q _ n b x<|KH (k:= .T) j m⟩
 | lst fs=>
  obtain⟨z,I⟩:k = .L/\l=fs:=by simp[j5]at g;exact⟨g.1.symm,g.2.symm⟩
  subst z I;obtain⟨a,i,rfl,j,m⟩:=(show ∃a i,v = .ref a/\h9 X.K b a i/\ft X.K b l i from r);exact⟨a,.L,rfl,⟨i,x.sub.seq j⟩,q _ n b x<|KH (k:= .L) j m⟩
 | _=>simp[j5]at g
theorem jQ(h:o4 d=ej i):d = .int i:=by cases d<;>simp[o4]at h;rw[h]
theorem Xd(h:inR i=eA) : -(2 ^ 62)<=i/\i<2 ^ 62:=by unfold inR at h;have h:=of_decide_eq_true h;omega
theorem cW(O:Gl X "range")(J:X.mg "range" = eF)(C:PV X a f)(I:g8 [a] X.env=[(eK,fy a X.env)]:=by rfl):ji X tg (.Call (.Name "range" p) [a] [] pos) (z7 f):=
 QJ (gz O J (jT C q8 I) I) λo H R U=>by
  obtain⟨i,l,m,rc,z,q⟩:=U;obtain⟨n,e,z⟩:=ze z;obtain⟨d,Y,e⟩:=ze e;by_cases g:inR n=eA
  ·rw[UJ g]at z;cases z
   refine⟨i,l,d,rc,Y,λv h b x r=>?_⟩;rw[jQ e]at r;obtain⟨j,k⟩:=Xd g;exact⟨n,by rw[show v = .int n from r],j,k,q _ h b x<|XX 0 n.toNat⟩
  ·rw[UY g]at z;cases z
theorem cV(Y:Gl X "range")(Z:X.mg "range" = eF)(J:PV X a f)(S:PV X b g)(U:g8 [a,b] X.env=[(eK,fy a X.env),(eK,fy b X.env)]:=by rfl)(I:g8 [b] X.env=[(eK,fy b X.env)]:=by rfl) :
 ji X tg (.Call (.Name "range" p) [a,b] [] pos) (Wd f g):=
 QJ (gy Y Z (jT J (jT S q8 I)<|by rw[U,I]) U I) λL H R C=>by
  obtain⟨l,k,K,rc,z,q⟩:=C;obtain⟨m,i,z⟩:=ze z;obtain⟨d,t,i⟩:=ze i;obtain⟨n,O,z⟩:=ze z;obtain⟨c,u,O⟩:=ze O;by_cases e:inR m=eA/\inR n=eA
  ·rw[UJ e]at z;cases z
   refine⟨l,k,d,rc,t,λv G h x r=>⟨h,k,c,rc.ext x,u,λE o s F j=>?_⟩⟩;rw[jQ i]at r;rw[jQ O]at j;obtain⟨w,y⟩:=Xd e.1;obtain⟨A,B⟩:=Xd e.2;exact⟨m,n,by rw[show v = .int m from r,show E = .int n from j],⟨w,y,A,B⟩,q _ o s (x.trans F)<|XX m (n - m).toNat⟩
  ·rw[UY e]at z;cases z
theorem J8{K:Mf}{H:Hp}{d:D}{v:V}{k:Sk}{ds:List D}(r:Rep K H d v)(e:j5 d=ej (k,ds)) : ∃a xs,v = .ref a/\l7 k K H a xs/\ft K H ds xs:=by
 cases d with
 | tup fs=>simp[j5]at e;obtain⟨b,z⟩:=e;subst b z;exact r
 | lst fs=>simp[j5]at e;obtain⟨b,z⟩:=e;subst b z;exact r
 | _=>simp[j5]at e
theorem tY{f g:CO D}{C:List fA}{x1:Nat}{J:h8}(hg:Gl X "zip")(hm:X.mg "zip" = eF)(S:PV X a f)(Z:PV X b g)(Y:g8 [a,b] X.env=[(eK,fy a X.env),(eK,fy b X.env)]:=by rfl)(O:g8 [b] X.env=[(eK,fy b X.env)]:=by rfl) :
 ji X (.Tuple C x1 J) (.Call (.Name "zip" p) [a,b] [] pos) (aH f g):=
 QJ (BK hg hm (jT S (jT Z q8 O)<|by rw[Y,O]) PyProof.Rows.boot_zip Y O) λN H R y=>by obtain⟨j,i,L,rc,z,q⟩:=y;obtain⟨⟨A,m⟩,h,z⟩:=ze z;obtain⟨d,t,h⟩:=ze h;obtain⟨⟨B,n⟩,U,z⟩:=zB z;obtain⟨c,u,U⟩:=ze U;subst z;refine⟨j,i,d,rc,t,λv K e x r=>⟨e,i,c,rc.ext x,u,λM k s I E=>?_⟩⟩;obtain⟨l,F,rfl,g1,g2⟩:=J8 (r.mono I.s0) h;obtain⟨o,G,rfl,g3,w⟩:=J8 E U;exact⟨A,B,l,o,rfl,⟨F,ym I.sub g1⟩,⟨G,ym I.sub g3⟩,q _ k s (x.trans I)<|mw g1 g2 g3 w⟩
end
noncomputable def aF:List Nat->List V->St->St
 | i::is,v::vs,σ=>aF is vs<|σ.set i<|some v
 | _,_,σ=>σ
def gs:List Nat->F2
 | []=>Iv
 | i::is=>CN (vx i)<|gs is
def u5(K:Mf):Tg->TG
 | .nm i=>vx i
 | .tp is=>Iu K is.length<|gs is
theorem iH : ∀{is:List Nat} {vs:List V} {C:St} {H:Hp} {Q:St->Hp->Prop},vs.length=is.length->Q (aF is vs C) H->gs is vs C H Q
 | [],[],_,_,_,_,q=>⟨rfl,q⟩
 | i::is,v::vs,C,H,Q,hl,q=>⟨v,vs,rfl,iH (by simpa using hl) q⟩
 | [],_::_,_,_,_,hl,_=>by simp at hl
 | _::_,[],_,_,_,hl,_=>by simp at hl
theorem RS.N2{K:Mf}{E0 E H0 H:Hp} : ∀{is:List Nat} {ds:List D} {vs:List V} {C:St} {γ:Ctx},RS K E0 E H0 H C γ->ft K H0 ds vs->RS K E0 E H0 H (aF is vs C) (xt is ds γ)
 | [],ds,vs,C,γ,r,h=>by cases ds<;>cases vs<;>exact r
 | i::is,[],vs,C,γ,r,h=>by rw[h.uh];exact r
 | i::is,d::ds,vs,C,γ,r,h=>by obtain⟨x,t,e,a,b⟩:=h.q5;subst e;show RS K E0 E H0 H (DL.aF is t<|C.set i<|some x) (xt is ds<|γ.set i<|.val d);exact RS.N2 (r.Di a) b
theorem RC.N2{K:Mf}{H0 H:Hp} : ∀{is:List Nat} {ds:List D} {vs:List V} {C:St} {γ:Ctx},RC K H0 H C γ->ft K H0 ds vs->RC K H0 H (aF is vs C) (xt is ds γ)
 | [],ds,vs,C,γ,r,h=>by cases ds<;>cases vs<;>exact r
 | i::is,[],vs,C,γ,r,h=>by rw[h.uh];exact r
 | i::is,d::ds,vs,C,γ,r,h=>by obtain⟨x,t,e,a,b⟩:=h.q5;subst e;show RC K H0 H (DL.aF is t<|C.set i<|some x) (xt is ds<|γ.set i<|.val d);exact RC.N2 (r.Di a) b
theorem Zp{K:Mf}{H0 H:Hp}{T:Tg}{d:D}{v:V}{C:St}{γ γ1:Ctx}{Q:St->Hp->Prop}(s:i4 H0 H)(h:Rep K H0 d v)(e:xH T d γ=ej γ1)
 (q : ∀z,(RC K H0 H C γ->RC K H0 H z γ1)->(∀E0 E,RS K E0 E H0 H C γ->RS K E0 E H0 H z γ1)->Q z H):u5 K T v C H Q:=by
 cases T with
 | nm i=>cases e;exact q _ (λr=>r.Di h) λE0 E r=>r.Di h
 | tp is=>
  cases d with
  | tup g=>
   simp only[xH]at e;by_cases I:g.length=is.length
   ·rw[UJ I]at e;cases e
    obtain⟨a,b,rfl,k,f⟩:=(show ∃a b,v = .ref a/\i5 K H0 a b/\ft K H0 g b from h);have j:b.length=is.length:=by rw[f.length,I]
    exact⟨a,b,rfl,p8 s k,j,iH j<|q _ (λr=>r.N2 f) λE0 E r=>r.N2 f⟩
   ·rw[UY I]at e;cases e
  | _=>simp[xH]at e
theorem Ext.rebase{E0 E z H0 H B:Hp}(e:Ext E0 E z B)(x:Ext z E H0 H):Ext E0 E H0 H:=
 ⟨e.s0.trans x.s0,x.s1,x.sub,λa d b=>x.new a (e.new a d b) b⟩
theorem Ext.base{E0 E z B:Hp}(e:Ext E0 E z B):Ext z E z B:=⟨i4.refl _,e.s1,e.sub,λa h _=>h⟩
theorem Sat.rebase{K:Mf}{E0 E I B:Hp}{D:Ends}{z:Fl}(e:Ext E0 E I B)(h:Sat K E0 E D z):Sat K I E D z:=by
 cases z with
 | next g=>exact λf H b r=>h f H b ⟨r.rc,e.rebase r.ext,r.fresh,r.A7⟩
 | brk g=>exact λf H b r=>h f H b ⟨r.rc,e.rebase r.ext,r.fresh,r.A7⟩
 | cont g=>exact λf H b r=>h f H b ⟨r.rc,e.rebase r.ext,r.fresh,r.A7⟩
 | ret r=>
  cases r with
  | val d=>exact λv H b x q=>h v H b (e.rebase x) q
  | own l=>exact λa k H b x i j O q=>h a k H b (e.rebase x) i j O q
section
variable{X:Cx}{tg iter:fA}{body:List m7}{pos:h8}
theorem tL{C:CO (List D)}{T:Tg}{F:CO Fl}(hp:TJ (f7 X.prog X.w) X.A X.env X.xe)(hc:X.calm=eA)(S:ji X tg iter C)(hg:PG X tg (u5 X.K T))(hb:lU X body F)
 (hs : ∀x,t4 iter X.env x=pure x:=by intro _;rfl):n7 X (.For tg iter body [] pos) (ZA C T F):=
 kQ (rf hp hc S hg hb hs) λD j H hZ=>by
  obtain⟨E0,E,g,b,I,O,z,Y⟩:=hZ;obtain⟨a,W,z⟩:=ze z;refine⟨g,b,a,O.rc,W,λJ H1 U x1 s=>?_⟩;have k:=O.step x1;have G:=k.ext;refine⟨λi m j H=>m=a.length - i/\i<=a.length/\∃g b I,RS X.K U E g H j b/\xq T F (a.drop i) b=ej I/\Sat X.K U E D I,⟨_,rfl,Ny _,U,b,I,⟨k.rc,G.base,k.fresh,k.A7⟩,z,Y.rebase G⟩,?_⟩;rintro i m j H ⟨rfl,S,g,b,I,O,z,Y⟩;have l:i4 U H:=O.ext.s0.trans O.ext.sub;by_cases h:i<a.length
  ·refine .inr ⟨s.go i H l h,λj H=>i+1<=a.length/\∃g b I,RS X.K U E g H j b/\xq T F (a.drop<|i+1) b=ej I/\Sat X.K U E D I,λi? B n=>⟨a.length - (i+1),by omega,rfl,n.1,n.2⟩,λx B y=>?_⟩
   obtain⟨d,L,hx⟩:=s.C6 i H x B l h y;obtain⟨N,M,rg⟩:=hx g O.ext.s0 O.rc.sub;have as:a.drop i=d::a.drop (i+1):=by
    have Q:d=a[i]:=by rw[Mi h]at L;exact(Ng L).symm
    rw[Q];exact OF h
   rw[as]at z;simp only[xq]at z;obtain⟨t,eb,z⟩:=ze z;obtain⟨f1,Z,z⟩:=ze z;refine Zp M.sub rg eb λS8 _ R=>⟨U,E,N,t,f1,R U E<|O.step M,Z,?_⟩;cases f1 with
   | next f=>exact λu P o p=>⟨h,o,f,I,p,z,Y⟩
   | cont f=>exact λu P o p=>⟨h,o,f,I,p,z,Y⟩
   | brk f=>cases z;exact Y
   | ret r=>cases z;cases r<;>exact Y
  ·have e:i=a.length:=by omega
   subst e;rw[Rn]at z;cases z;exact .inl ⟨s.stop H l,Y j H g O⟩
end
theorem qZ(h:(zZ n fr γ)[i]? = ej c):c = .no\/(∃d j,c = .val d/\n<=i/\fr[i - n]? = ej j/\γ[j]? = ej (.val d)):=by
 unfold zZ at h;by_cases b:i<n
 ·rw[ND (by simpa using b),PM,UJ b]at h
  exact .inl (Ng h).symm
 ·rw[Nm (by simpa using b),Nf,List.length_replicate]at h
  cases e:fr[i - n]? with
  | none=>rw[e]at h;cases h
  | some j=>
   rw[e]at h;have a:xA (γ[j]?.getD .no)=c:=by simpa using h
   cases e2:γ[j]? with
   | none=>rw[e2]at a;exact .inl a.symm
   | some z=>
    rw[e2]at a;cases z with
    | no=>exact .inl a.symm
    | own g=>exact .inl a.symm
    | nest f=>exact .inl a.symm
    | val d=>exact .inr ⟨d,j,a.symm,by omega,rfl,e2⟩
theorem RC.pull{K:Mf}{H0 H:Hp}{J:St}{γ:Ctx}{own:List Str}{C:List (Str×Nat)}(r:RC K H0 H J γ):RC K H0 H (L2.mV own C J) (zZ own.length (C.map (·.2)) γ):=by
 refine⟨r.sub,by simp[L2.mV,zZ],λi d h=>?_,λi e h=>?_,λi j a e k h _ _ _=>?_,tr.G7 λi b h=>?_⟩
 ·rcases qZ h with z | ⟨d',j,z,hi,I,O⟩
  ·cases z
  ·cases z
   obtain⟨v,f,g⟩:=r.val j d O;refine⟨v,?_,g⟩;rw[Nf]at I;cases q:C[i - own.length]? with
   | none=>rw[q]at I;cases I
   | some p=>
    rw[q]at I;have U:p.2=j:=by simpa using I
    unfold L2.mV;rw[Nm (by simpa using hi),Nf,MF,q];simp[U,f]
 ·rcases qZ h with z | ⟨d',j,z,_⟩<;>cases z
 ·rcases qZ h with z | ⟨d',j,z,_⟩<;>cases z
 ·rcases qZ h with z | ⟨d',j,z,_⟩<;>cases z
theorem RC.weak{K:Mf}{H0 H:Hp}{J:St}{γ γ':Ctx}(r:RC K H0 H J γ)(I:γ'.length=γ.length)(O : ∀(i:Nat) d,γ'[i]? = ej (.val d)->γ[i]? = ej (.val d))(z : ∀(i:Nat) ds,γ'[i]? ≠ ej (.own ds))(U : ∀(i:Nat) C,γ'[i]? ≠ ej (.nest C)):RC K H0 H J γ':=
 ⟨r.sub,by rw[I];exact r.len,λi d h=>r.val i d<|O i d h,λi ds h=>absurd h<|z i ds,λi j a ds b h _ _ _=>absurd h<|z i ds,tr.G7 U⟩
theorem RC.upd{K:Mf}{H0 H:Hp}{J:St}{γ:Ctx}{D:fe}{o:HO}(r:RC K H0 H J γ)(O:H0 D=eF)(I : ∀(i:Nat) ds,γ[i]? ≠ ej (.own ds))(U : ∀(i:Nat) C,γ[i]? ≠ ej (.nest C)):RC K H0 (upd H D o) J γ:=
 ⟨λb u q=>by rw[zL (λz=>by rw[z,O]at q;cases q)];exact r.sub b u q,r.len,r.val,λi ds h=>absurd h<|I i ds,λi j a ds d h _ _ _=>absurd h<|I i ds,tr.G7 U⟩
theorem J6 : ∀{is:List Nat} {ds:List D} {γ:Ctx},(xt is ds γ).length=γ.length
 | [],ds,γ=>by cases ds<;>rfl
 | i::is,[],γ=>rfl
 | i::is,d::ds,γ=>by show(xt is ds<|γ.set i<|.val d).length=_;rw[J6];simp
theorem J7 : ∀{is:List Nat} {ds:List D} {γ:Ctx} {i:Nat},i∉is->(xt is ds γ)[i]? = γ[i]?
 | [],ds,γ,i,_=>by cases ds<;>rfl
 | j::is,[],γ,i,_=>rfl
 | j::is,d::ds,γ,i,h=>by show(xt is ds<|γ.set j<|.val d)[i]? = _;rw[J7 (λz=>h<|Ms _ z),Mo (λz=>h<|by rw[<- z];exact Mx)]
theorem VS(h:xH T d γ=ej γ1):γ1.length=γ.length/\∀i,i∉T.idx->γ1[i]? = γ[i]? :=by
 cases T with
 | nm j=>cases h;exact⟨by simp,λi a=>Mo<|λz=>a<|by simp[Tg.idx,z]⟩
 | tp is=>
  cases d with
  | tup b=>
   simp only[xH]at h;by_cases I:b.length=is.length
   ·rw[UJ I]at h;cases h;exact⟨J6,λi a=>J7 a⟩
   ·rw[UY I]at h;cases h
  | _=>simp[xH]at h
section
variable{K:Mf}{own:List Str}{fr:List (Str×Nat)}{src:CO (List D)}{T:Tg}{k:CO Bool}{f:CO D}
theorem Zn(hT : ∀i∈T.idx,i<own.length)(bn : ∀C H Q,tT K k C H Q->tt C H Q) : ∀C H Q,tO K (zK src T own.length (fr.map (·.2)) k f) C H Q->eZ (UO K src) own fr (u5 K T) tt (tV K f) C H Q:=λC H Q hZ=>by
 obtain⟨H0,u,ds,rc,U,q⟩:=hZ;obtain⟨a,e1,U⟩:=ze U;by_cases hl:a.length<=lim
 ·rw[UJ hl]at U
  refine⟨H0,u,a,rc,e1,λJ H1 R x1 wk D B=>?_⟩;have S : ∀(i:Nat) es,(zZ own.length (fr.map (·.2)) u)[i]? ≠ ej (.own es):=λi es h=>by rcases qZ h with z | ⟨d',j,z,_⟩<;>cases z
  have W : ∀(i:Nat) E,(zZ own.length (fr.map (·.2)) u)[i]? ≠ ej (.nest E):=λi es h=>by rcases qZ h with z | ⟨d',j,z,_⟩<;>cases z
  have b5:R D=eF:=jH x1.sub B;have bx:H D=eF:=by
   cases z:H D with
   | none=>rfl
   | some o=>rw[x1.s1 D o z]at B;cases B
  refine⟨λi m p G l=>m=a.length - i/\i<=a.length/\p.length<=i/\l D=ej (.lst p)/\∃g A M,RC K g l G (zZ own.length (fr.map (·.2)) u)/\g D=eF/\Ext R H1 g l/\ft K g A p/\zP T k f (zZ own.length (fr.map (·.2)) u) (a.drop i)=ej M/\ds=A++M,
   ⟨_,rfl,Ny _,Mp _,zQ,R,[],ds,((rc.ext x1).pull).upd b5 S W,b5,Ext.hide x1.sub B _,ft.nil,U,rfl⟩,?_⟩
  rintro i m p G l ⟨rfl,hi,hy,N,g,A,M,X,b6,Y,r',I,rfl⟩;refine⟨N,?_⟩;by_cases t:i<a.length
  ·refine .inr ⟨wk.go i l Y.s1 t,?_,λx Z y=>?_⟩
   ·have:=yR<|Mp lim;omega
   obtain⟨d,hd,hx⟩:=wk.C6 i l x Z Y.s1 t y;obtain⟨G0,O,rg⟩:=hx g Y.s0 X.sub;have c1:a.drop i=d::a.drop (i+1):=by
    have c2:d=a[i]:=by rw[Mi t]at hd;exact(Ng hd).symm
    rw[c2];exact OF t
   rw[c1]at I;simp only[zP]at I;obtain⟨s,eb,I⟩:=ze I;obtain⟨b,ek,I⟩:=ze I;have c4:G0 D=eF:=O.new D b6 (by rw[N];simp);have b8:Z D=ej (.lst p):=O.s1 _ _ N;obtain⟨bl,bg⟩:=VS eb;have n : ∀{L:St} {G2 H2:Hp},RC K G2 H2 L s->RC K G2 H2 L (zZ own.length (fr.map (·.2)) u):=λr=>r.weak bl.symm (λj d' hj=>by
    by_cases hm:j∈T.idx
    ·rcases qZ hj with z | ⟨d2,j2,_,hn,_⟩
     ·cases z
     ·exact absurd (hT j hm) ⋯
    ·rw[bg j hm];exact hj) S W
   refine Zp O.sub rg eb λS8 bd _=>bn S8 Z _ ⟨G0,s,b,bd<|X.ext O,ek,λH3 ap x3=>?_⟩;have ar:=(bd<|X.ext O).ext x3;have xa:=Y.trans<|O.trans x3;have bf:ap D=eF:=x3.new D c4 (by rw[b8];simp);have as:H3 D=ej (.lst p):=x3.s1 _ _ b8;cases b with
   | true=>
    dsimp only;rw[UJ rfl]at I ⊢;obtain⟨e,ee,I⟩:=ze I;obtain⟨yp,er,I⟩:=zB I;refine⟨ap,s,e,ar,ee,λv H4 bi F r4=>?_⟩;have ax:bi D=eF:=F.new D bf (by rw[as];simp);have cb:H4 D=ej (.lst p):=F.s1 _ _ as;have P:=xa.trans F;refine⟨cb,a.length - (i+1),by omega,rfl,t,by rw[NM,OY];omega,zQ,bi,A++[e],yp,(n<|ar.ext F).upd ax S W,ax,?_,(r'.mono<|(O.trans<|x3.trans F).s0).append (ft.cons r4 ft.nil),er,?_⟩
    ·exact⟨P.s0,λc o z=>by rw[zL (λw=>by rw[w,B]at z;cases z)];exact P.s1 c o z,λc o z=>by rw[zL (λw=>by rw[w,ax]at z;cases z)];exact P.sub c o z,P.new⟩
    ·rw[<- I];simp
   | false=>
    dsimp only;rw[UY MW]at I ⊢;exact⟨a.length - (i+1),by omega,rfl,t,by omega,as,ap,A,M,n ar,bf,xa,r'.mono<|(O.trans x3).s0,I,rfl⟩
  ·have e:i=a.length:=by omega
   subst e;rw[Rn]at I;cases I;rw[OZ]at q;exact .inl ⟨wk.stop l Y.s1,q D p l g (x1.trans Y) bx b6 N r'⟩
 ·rw[UY hl]at U;cases U
end
section
variable{X:Cx}{scope:jn}{own:List Str}{fr:List (Str×Nat)}{elt tg iter c:fA}{pos:h8}{src:CO (List D)}{T:Tg}{k:CO Bool}{f:CO D}
theorem tW(z:X.calm=eA)(ok:zl X scope fr)(I : ∀i∈T.idx,i<own.length)(S:A4 X tg iter src)(O : ∀fp J C,PG (jL X scope (own++fr.map (·.1)) fp J C) tg<|u5 X.K T)
 (U : ∀fp J C,PV (jL X scope (own++fr.map (·.1)) fp J C) elt f) (Y : ∀x,t4 iter X.env x=pure x:=by intro _;rfl) :
 PO X (.ListComp elt [⟨tg,iter,[],0⟩] scope pos) (zK src T own.length (fr.map (·.2)) jb f):=
 qE (Wo z ok S O (λ_ _ _=>K4) U Y) (Zn I λg H Q ⟨a,e,b,rc,d,q⟩=>by cases d;exact q H a<|Ext.refl rc.sub)
theorem gk(z:X.calm=eA)(ok:zl X scope fr)(I : ∀i∈T.idx,i<own.length)(S:A4 X tg iter src)(O : ∀fp J C,PG (jL X scope (own++fr.map (·.1)) fp J C) tg<|u5 X.K T)
 (U : ∀fp J C,o7 (jL X scope (own++fr.map (·.1)) fp J C) c k) (Y : ∀fp J C,PV (jL X scope (own++fr.map (·.1)) fp J C) elt f) (Z : ∀x,t4 iter X.env x=pure x:=by intro _;rfl) :
 PO X (.ListComp elt [⟨tg,iter,[c],0⟩] scope pos) (zK src T own.length (fr.map (·.2)) k f):=
 qE (Wo z ok S O (λfp J C=>aR<|U fp J C) Y Z) (Zn I λa H Q h=>h)
theorem nv(z:X.N.Nodup)(I:X.N[i]? = ej y)(O:Loc X.env.scope y)(U:X.fn y=eA\/X.env.scope.names.lookup y=ej .local)
 (Y:X.calm=eA) (ok:zl X scope fr) (S : ∀i∈T.idx,i<own.length) (hi:A4 X tg iter src) (hg : ∀fp J C,PG (jL X scope (own++fr.map (·.1)) fp J C) tg<|u5 X.K T)
 (Z : ∀fp J C,PV (jL X scope (own++fr.map (·.1)) fp J C) elt f) (hs : ∀x,t4 iter X.env x=pure x:=by intro _;rfl) :
 PS X (.Assign [.Name y py] (.ListComp elt [⟨tg,iter,[],0⟩] scope pos) spos) (cD (tO X.K<|zK src T own.length (fr.map (·.2)) jb f)<|vx i):=
 kQ (ZF z I O U Y ok hi hg (λ_ _ _=>K4) Z hs) λD a H h=>Zn S (λa H Q g=>by obtain⟨d,j,b,rc,e,q⟩:=g;cases e;exact q H d<|Ext.refl rc.sub) a H _ h
theorem cS(z:X.N.Nodup)(I:X.N[i]? = ej y)(O:Loc X.env.scope y)(U:X.fn y=eA\/X.env.scope.names.lookup y=ej .local)
 (Y:X.calm=eA) (ok:zl X scope fr) (S : ∀i∈T.idx,i<own.length) (hi:A4 X tg iter src) (hg : ∀fp J C,PG (jL X scope (own++fr.map (·.1)) fp J C) tg<|u5 X.K T)
 (hk : ∀fp J C,o7 (jL X scope (own++fr.map (·.1)) fp J C) c k) (Z : ∀fp J C,PV (jL X scope (own++fr.map (·.1)) fp J C) elt f) (hs : ∀x,t4 iter X.env x=pure x:=by intro _;rfl) :
 PS X (.Assign [.Name y py] (.ListComp elt [⟨tg,iter,[c],0⟩] scope pos) spos) (cD (tO X.K<|zK src T own.length (fr.map (·.2)) k f)<|vx i):=
 kQ (ZF z I O U Y ok hi hg (λfp J C=>aR<|hk fp J C) Z hs) λD a H h=>Zn S (λa H Q h=>h) a H _ h
end
theorem jx{K:Mf}{H:Hp}{i:Int}{v:V}(h:Rep K H (.int i) v):v = .int i:=h
theorem fz{K:Mf}{g:Int->Int->D}{z:Int->Int->V}(O : ∀H i j,Rep K H (g i j)<|z i j):o8 K (xr z) (dI g):=λa H x y b U d Q s Y e I q=>by cases b<;>cases U<;>simp[dI]at I;subst I;exact⟨_,_,jx Y,jx e,q _ H a (Ext.refl s)<|O a _ _⟩
theorem fw{K:Mf}{C:Int->Int->Prop}{c:Int->Int->Bool}{g:Int->Int->D}{z:Int->Int->V}(O : ∀i j,c i j=eA->C i j)(U : ∀H i j,Rep K H (g i j)<|z i j):o8 K (rI C z) (L9 c g):=λa H x y b Y d Q s h k I q=>by cases b<;>cases Y<;>simp[L9]at I;obtain⟨e,f⟩:=I;subst f;exact⟨_,_,jx h,jx k,O _ _ e,q _ H a (Ext.refl s)<|U a _ _⟩
theorem sH{K:Mf}:o8 K (xr λi j=> .int (i - j)) JI:=fz λ_ _ _=>rfl
theorem ph(h:JM i j=eA):FG i j:=by unfold JM at h;rw[NW,decide_eq_true_eq,decide_eq_true_eq]at h;unfold FG;omega
theorem sO{K:Mf}:o8 K (rI IU λi j=> .int (i/j)) vz:=fw (λi j h=>by unfold Eg at h;rw[My,decide_eq_true_eq,decide_eq_true_eq]at h;exact⟨h.1,by omega⟩) λ_ _ _=>rfl
theorem sM{K:Mf}:o8 K (rI (λ_ j=>0<j) λi j=> .int (i%j)) qw:=fw (λi j h=>by unfold Ef at h;exact of_decide_eq_true h) λ_ _ _=>rfl
theorem sI{K:Mf}:o8 K (rI IT λi j=> .int (i ^ j.toNat)) uT:=fw (λi j h=>by unfold Ee at h;rw[My,My,decide_eq_true_eq,decide_eq_true_eq,decide_eq_true_eq]at h;exact⟨h.1.1,by omega,h.2⟩) λ_ _ _=>rfl
theorem aC{K:Mf}:o8 K (xr λi j=> .bl (decide<|i<j)) Df:=fz λ_ _ _=>rfl
theorem we{K:Mf}:o8 K (xr λi j=> .bl (decide<|i<=j)) p5:=fz λ_ _ _=>rfl
theorem AZ{K:Mf}:o8 K (xr λi j=> .bl (decide<|j<i)) vu:=fz λ_ _ _=>rfl
theorem Ba{K:Mf}:o8 K (xr λi j=> .bl (decide<|j<=i)) Pz:=fz λ_ _ _=>rfl
section
variable{X:Cx}
noncomputable def pT(K:Mf):R2:=λx y H Q=>∃a b d e,x = .ref a/\y = .ref b/\i5 K H a d/\i5 K H b e/\d.length+e.length<=hB/\
 (d=[]->Q (.ref b) H)/\(e=[]->Q (.ref a) H)/\∀p,H p=eF->Q (.ref p) (upd H p<|.tup<|d++e)
theorem nM:k5 X (B7 .Add) (pT X.K):=by
 intro w s σ H x y v u Q I R S h;obtain⟨a,b,A,W,rfl,rfl,G,J,Y,M,N,P⟩:=h;cases R;cases S;obtain⟨O,r,t,z1⟩:=I.tuple G;obtain⟨B,e,f,z2⟩:=I.tuple J;by_cases U:A=[]
 ·have d:O=[]:=(r.P5).mpr U
  obtain⟨⟨E,F,k,T⟩,p,l,n,m⟩:=id t;obtain⟨⟨Z,as,data2,C⟩,g,i,L,j⟩:=id f;simp only at l m i j;subst l m i j;exact Tt ⟨_,p,rfl⟩ ⟨_,g,rfl⟩ Tv D' RW RT (RJ _ _)
   (tuple_addW0 a b O.toArray B.toArray n L F as T C<|by simp[d]) ⟨p,g,⟨.ref b,H,I,rfl,M U⟩⟩
 ·have d:O ≠ []:=λz=>U ((r.P5).mp z)
  refine HT.Hj t f d (λz=>⟨.ref a,H,I,rfl,N<|(e.P5).mp z⟩) (λ_=>?_) (by rw[<- r.length,<- e.length];exact Y);refine⟨.ref s.heap.objs.size,_,I.laid (t':=s.toks) (o:= .tup (A++W)) (λc ob q=>Mh _ q) (Mp _) ?_,rfl,P _<|I.g5.fresh<|Mp _⟩;exact⟨by rw[NM];exact Y,_,r.append e,C8.new _ _⟩
noncomputable def Bq(K:Mf):R2:=λx y H Q=>∃l b a d,x = .ref l/\y = .ref b/\h9 K H l a/\h9 K H b d/\a.length+d.length<=hB/\∀p,H p=eF->Q (.ref p) (upd H p<|.lst<|a++d)
theorem nN:k5 X (B7 .Add) (Bq X.K):=by
 intro a s L H x y v u Q I E G h;obtain⟨l,b,Z,zs,rfl,rfl,A,w,S,q⟩:=h;cases E;cases G;obtain⟨z,r,⟨o,n,e,U,Y,d⟩,z1⟩:=I.list A;obtain⟨O,k,⟨C,B,j,f,g,i⟩,z2⟩:=I.list w;have T:=r.length;have W:=k.length;obtain⟨cls,ni,R,J⟩:=o;obtain⟨M,N,P,m⟩:=C;simp only at U Y d f g i;subst U Y d f g i;have p:EP X a L Q (.ref s.heap.objs.size) {s with heap:=s.heap.push {cls:= .type "list",data:= .seq (z++O).toArray}}:=
  ⟨.ref _,_,I.u_ (t':=s.toks) (r.append k) (by rw[NM];omega),rfl,q _ I.fresh⟩
 have t:z.toArray++O.toArray=(z++O).toArray:=by simp
 refine Tt ⟨_,e,rfl⟩ ⟨_,j,rfl⟩ noFill_list_add seq_list_add PySem.F.slot_list_add PySem.F.entry_list_add (PySem.F.args_list_add_2 _ _)
  (list_addW l b z.toArray O.toArray n B eF eF J m<|by rw[Mw,Mw];omega) ⟨e,j,?_⟩
 rw[t];exact p
end
noncomputable def yK(scope C:jn):jn:={scope with names:=scope.names.map λp=>if p.2==MY && C.kind == .function && C.names.lookup p.1==ej .cell then (p.1,OL)else (p.1,p.2)}
theorem cN(scope:jn)(env:ro):C5 scope env=yK scope env.scope:=by unfold C5 yK;rfl
structure SX(X:Cx)(sc:jn)(N T:List Str)(k:Nat):Prop where
 F9:X.env.scope=sc
 eN:X.N=N
 nd:N.Nodup
 calm:X.calm=eA
 room:qs k X.A
 fn : ∀x∈T,X.fn x=eA\/sc.names.lookup x=ej .local
noncomputable def JS(C:jn)(N:List Str)(i:Nat)(x:Str):Bool:=
 decide (N[i]? = ej x) && (decide (C.names.lookup x=ej .local) || decide (C.names.lookup x=ej .cell) || decide (C.names.lookup x=ej .free)) && !(x==("__debug__" : Str)) && !(x==("__classdict__" : Str))
noncomputable def vh(C:jn)(N T:List Str)(i:Nat)(x:Str):Bool:=decide (x∈T) && decide (N[i]? = ej x) && (decide (C.names.lookup x=ej .local) || decide (C.names.lookup x=ej .cell))
noncomputable def yj(C:jn)(x:Str):Bool:=decide (C.names.lookup x=ej .globalImplicit) && !(x==("__name__" : Str)) && !(x==("__debug__" : Str))
section
variable{X:Cx}{sc:jn}{N T:List Str}{k:Nat}{i:Nat}{x:Str}{pos:h8}
theorem SX.var(h:SX X sc N T k)(c:JS sc N i x=eA):PE X (.Name x pos) (Au i):=by
 unfold JS at c;simp only[My,NW,decide_eq_true_eq,Ou]at c;obtain⟨⟨⟨a,h2⟩,z⟩,I⟩:=c;refine BN (by rw[h.eN];exact a) ?_ z I;unfold TM;rw[h.F9];rcases h2 with(h2 | h2) | h2
 ·exact .inl h2
 ·exact .inr<|.inl h2
 ·exact .inr<|.inr h2
theorem SX.loc(h:SX X sc N T k)(c:vh sc N T i x=eA):X.N[i]? = ej x/\L2.Loc X.env.scope x/\(X.fn x=eA\/X.env.scope.names.lookup x=ej .local):=by
 unfold vh at c;simp only[My,NW,decide_eq_true_eq]at c;refine⟨by rw[h.eN];exact c.1.2,?_,?_⟩
 ·unfold L2.Loc;rw[h.F9];exact c.2
 ·rw[h.F9];exact h.fn x c.1.1
theorem SX.M4(h:SX X sc N T k):X.N.Nodup:=by rw[h.eN];exact h.nd
theorem SX.DY(h:SX X sc N T k)(i:Nat)(c:vh sc N T i x=eA):PG X (.Name x pos) (vx i):=by obtain⟨a,b,z⟩:=h.loc c;exact gC h.M4 a b z
theorem SX.H_(h:SX X sc N T k)(g:L5 X es (gs is))(C:(B6 es X.env).length=is.length:=by rfl)(z:(B6 es X.env).findIdx? (·.1)=eF:=by rfl):PG X (.Tuple es j pos) (u5 X.K<|.tp is):=
 BM h.calm g C z
theorem SX.set(h:SX X sc N T k)(i:Nat)(c:vh sc N T i x=eA)(z:PE X e te)(I:DE e (ej (.Name x pos')) pos.line X.env=pure eK:=by rfl):PS X (.Assign [.Name x pos'] e pos) (cD te<|vx i):=by obtain⟨a,b,O⟩:=h.loc c;exact BE h.M4 a b z I O
theorem SX.gl(h:SX X sc N T k)(c:yj sc x=eA):Gl X x/\x ≠ "__name__"/\(x==("__debug__" : Str))=eK:=by
 unfold yj at c;simp only[My,decide_eq_true_eq,Ou]at c;refine⟨?_,?_,c.2⟩
 ·show X.env.scope.names.lookup x=_
  rw[h.F9];exact c.1.1
 ·intro e;rw[e]at c;simp at c
noncomputable def WX(sc scope:jn)(N:List Str)(C:List (Str×Nat)):Bool:=
 decide (scope.kind = .function) && decide ((scope.names.map (·.1)).Nodup) && scope.names.all (λp=> !(p.2==MY) || decide (sc.names.lookup p.1=ej .cell) || decide (sc.names.lookup p.1=ej .free)) &&
 C.all λp=>decide (scope.names.lookup p.1=ej .free) && decide (N[p.2]? = ej p.1)
noncomputable def FX(own:List Str)(scope:jn)(C:List (Str×Nat)):Bool:=decide ((own++C.map (·.1)).Nodup) && own.all (λx=>decide (scope.names.lookup x=ej .local) || decide (scope.names.lookup x=ej .cell))
theorem SX._n(h:SX X sc N T k)(c:WX sc scope N fr=eA):zl X scope fr:=by
 unfold WX at c;simp only[My,decide_eq_true_eq,NI,NW,Ou]at c;obtain⟨⟨⟨O,U⟩,Y⟩,I⟩:=c;refine⟨O,U,λp z a=>?_,λp z=>⟨(I p z).1,by rw[h.eN];exact(I p z).2⟩⟩;have e:X.env.kindOf p.1=sc.names.lookup p.1:=by show X.env.scope.names.lookup p.1=_;rw[h.F9]
 rw[e];rcases Y p z with(q | q) | q
 ·rw[a]at q;exact absurd q ⋯
 ·exact .inl q
 ·exact .inr q
theorem QP(scope sc:jn)(x:Str):(yK scope sc).names.lookup x=(scope.names.lookup x).map λk=>if (k==MY && sc.kind == .function && sc.names.lookup x==ej .cell)then OL else k:=by
 unfold yK;dsimp only;generalize scope.names=l
 induction l with
 | nil=>rfl
 | cons p r I=>
  obtain⟨n,O⟩:=p;rw[MT];cases hx:x==n with
  | true=>
   have e:x=n:=by simpa using hx
   subst e;dsimp only;split
   ·rename_i z;rw[NH,NH,beq_self_eq_true];dsimp only[SR];rw[UJ z]
   ·rename_i z;rw[NH,NH,beq_self_eq_true];dsimp only[SR];rw[UY z]
  | false=>
   dsimp only;split
   ·rw[NH,NH,hx];exact I
   ·rw[NH,NH,hx];exact I
theorem SX.comp(h:SX X sc N T k)(c:FX own scope fr=eA) :
 SX (jL X scope (own++fr.map (·.1)) fp s2 H2) (yK scope sc) (own++fr.map (·.1)) own k:=by
 unfold FX at c;simp only[My,decide_eq_true_eq,NI,NW]at c;refine⟨?_,rfl,c.1,h.calm,h.room,λx a=>?_⟩
 ·show C5 scope X.env=_
  rw[cN,h.F9]
 ·rcases c.2 x a with q | q
  ·right;rw[QP,q];rfl
  ·left
   show(scope.names.lookup x==ej .cell)=eA;rw[q];rfl
end
mutual
def o3:D->PyData
 | .gm=> .none
 | .bl b=> .bool b
 | .int i=> .int i
 | .str x=> .str x
 | .tup a=> .tuple (y0 a)
 | .lst a=> .list (y0 a)
 | .ow _ _=> .none
 | .ni _ _=> .none
def y0:List D->List PyData
 | []=>[]
 | d::ds=>o3 d::y0 ds
end
theorem DC(h:kA (.ow ks vs)=eA):False:=by simp[kA]at h
theorem DB(h:kA (.ni ks vs)=eA):False:=by simp[kA]at h
mutual
theorem Ua : ∀x y:D,kA x=eA->kA y=eA->PX (o3 x) (o3 y)=ml x y
 | .gm,y,_,h=>by cases y<;>first | exact(DC h).elim | exact(DB h).elim | simp[o3,PX,ml]
 | .bl a,y,_,h=>by cases y<;>first | exact(DC h).elim | exact(DB h).elim | simp[o3,PX,ml]
 | .int a,y,_,h=>by cases y<;>first | exact(DC h).elim | exact(DB h).elim | simp[o3,PX,ml]
 | .str a,y,_,h=>by cases y<;>first | exact(DC h).elim | exact(DB h).elim | simp[o3,PX,ml]
 | .ow c n,y,h,_=>(DC h).elim
 | .ni c n,y,h,_=>(DB h).elim
 | .tup xs,y,h1,h2=>by
  cases y with
  | tup b=>simp only[kA]at h1 h2;simp only[o3,PX,ml];exact Ub xs b h1 h2
  | ow c n=>exact(DC h2).elim
  | ni c n=>exact(DB h2).elim
  | _=>simp[o3,PX,ml]
 | .lst xs,y,h1,h2=>by
  cases y with
  | lst b=>simp only[kA]at h1 h2;simp only[o3,PX,ml];exact Ub xs b h1 h2
  | ow c n=>exact(DC h2).elim
  | ni c n=>exact(DB h2).elim
  | _=>simp[o3,PX,ml]
theorem Ub : ∀xs ys:List D,s9 xs=eA->s9 ys=eA->SG (y0 xs) (y0 ys)=uf xs ys
 | [],ys,_,_=>by cases ys<;>simp[y0,SG,uf]
 | x::xs,ys,h1,h2=>by
  cases ys with
  | nil=>simp[y0,SG,uf]
  | cons y ys=>
   simp only[s9,My]at h1 h2;simp only[y0,SG,uf];rw[Ua x y h1.1 h2.1,Ub xs ys h1.2 h2.2]
end
mutual
theorem t_ : ∀x:D,kA x=eA->(o3 x).canLay0=eA
 | .gm,_=>by simp[o3,PZ]
 | .bl a,_=>by simp[o3,PZ]
 | .int a,_=>by simp[o3,PZ]
 | .str a,h=>by simpa[o3,PZ,kA,PyData.strOk]using h
 | .tup xs,h=>by simp only[kA]at h;simp only[o3,PZ];exact Up xs h
 | .lst xs,h=>by simp only[kA]at h;simp only[o3,PZ];exact Up xs h
 | .ow c n,h=>(DC h).elim
 | .ni c n,h=>(DB h).elim
theorem Up : ∀xs:List D,s9 xs=eA->SQ (y0 xs)=eA
 | [],_=>by simp[y0,SQ]
 | x::xs,h=>by simp only[s9,My]at h;simp only[y0,SQ];rw[t_ x h.1,Up xs h.2];rfl
end
mutual
theorem i_ : ∀x:D,(o3 x).depth=deep x
 | .gm=>by simp[o3,Pu,deep]
 | .bl a=>by simp[o3,Pu,deep]
 | .int a=>by simp[o3,Pu,deep]
 | .str a=>by simp[o3,Pu,deep]
 | .ow c n=>by simp[o3,Pu,deep]
 | .ni c n=>by simp[o3,Pu,deep]
 | .tup b=>by simp only[o3,Pu,deep];rw[T9 b]
 | .lst b=>by simp only[o3,Pu,deep];rw[T9 b]
theorem T9 : ∀xs:List D,PyData.depthAll (y0 xs)=ra xs
 | []=>by simp[y0,PyData.depthAll,ra]
 | x::xs=>by simp only[y0,PyData.depthAll,ra];rw[i_ x,T9 xs]
end
theorem vt(h:nf d=eA):kA d=eA:=by unfold nf at h;rw[My]at h;exact h.2
theorem wV(h:nf d=eA):SeqAt.shaped (o3 d)=eA:=by unfold nf at h;rw[My,decide_eq_true_eq]at h;unfold SeqAt.shaped;rw[t_ d h.2,OC,i_];exact decide_eq_true ⋯
section
variable{X:Cx}{pins:UQ}{σ:St}{H0 H:Hp}{s:f6}
mutual
theorem N1(I:Inv X pins σ H s)(sub:i4 H0 H) : ∀{d:D} {v:V} {u:fh},kA d=eA->Rep X.K H0 d v->RelV v u->∃z,Reads s.heap u (o3 d) z
 | .gm,v,u,_,h,r=>by cases (show v = .gm from h);cases r;exact⟨_,.none⟩
 | .bl b,v,u,_,h,r=>by cases (show v = .bl b from h);cases r;exact⟨_,.bool b⟩
 | .int i,v,u,_,h,r=>by cases (show v = .int i from h);obtain⟨t,rfl⟩:=r;exact⟨_,.int i t⟩
 | .str x,v,u,_,h,r=>by cases (show v = .str x from h);obtain⟨t,rfl⟩:=r;exact⟨_,.str x t⟩
 | .ow c n,v,u,o,_,_=>(DC o).elim
 | .ni c n,v,u,o,_,_=>(DB o).elim
 | .tup ds,v,u,o,h,r=>by obtain⟨a,e,rfl,f,g⟩:=(show ∃a e,v = .ref a/\i5 X.K H0 a e/\ft X.K H0 ds e from h);cases r;simp only[kA]at o;obtain⟨l,O,⟨w,U,Y,n,j⟩,m⟩:=I.tuple<|p8 sub f;obtain⟨z,k⟩:=UB I sub o g O;exact⟨z,.tuple U Y j<|by simpa using k⟩
 | .lst ds,v,u,o,h,r=>by obtain⟨a,e,rfl,f,g⟩:=(show ∃a e,v = .ref a/\h9 X.K H0 a e/\ft X.K H0 ds e from h);cases r;simp only[kA]at o;obtain⟨l,O,p,m⟩:=I.list<|sub.seq f;obtain⟨w,U,Y,n,j⟩:=p.isList;obtain⟨z,k⟩:=UB I sub o g O;exact⟨_,.list U Y j<|by simpa using k⟩
theorem UB(I:Inv X pins σ H s)(sub:i4 H0 H) : ∀{ds:List D} {xs:List V} {us:List fh},s9 ds=eA->ft X.K H0 ds xs->gv xs us->∃z,ReadsAll s.heap us (y0 ds) z
 | [],xs,us,_,h,r=>by rw[h.uh]at r;cases r;exact⟨_,.nil⟩
 | d::ds,xs,us,o,h,r=>by
  obtain⟨x,t,e,a,b⟩:=h.q5;subst e;simp only[s9,My]at o;cases r with
  | cons O f=>
   obtain⟨z,U⟩:=N1 I sub o.1 a O;obtain⟨bs,Y⟩:=UB I sub o.2 b f;exact⟨_,.cons U Y⟩
end
end
noncomputable def Ii(K:Mf):R2:=λx y H Q=>∃a b z,i4 a H/\Rep K a b x/\Rep K a z y/\nf b=eA/\nf z=eA/\Q (.bl<|ml b z) H
noncomputable def Ih(K:Mf):R2:=λx y H Q=>∃a b z,i4 a H/\Rep K a b x/\Rep K a z y/\nf b=eA/\nf z=eA/\Q (.bl<|!ml b z) H
theorem rh(U:X.A.units+64<En):k5 X (oe .Eq) (Ii X.K):=by intro a s l H x y v u Q I Y g h;obtain⟨i,j,k,sub,b,d,z,O,q⟩:=h;obtain⟨as,e⟩:=N1 I sub (vt z) b Y;obtain⟨bs,f⟩:=N1 I sub (vt O) d g;exact eq_dataH e f (wV z) (wV O) U ⟨.bl _,H,I,by rw[Ua _ _ (vt z) (vt O)];rfl,q⟩
theorem Cf(U:X.A.units+64<En):k5 X (oe .NotEq) (Ih X.K):=by intro a s l H x y v u Q I Y g h;obtain⟨i,j,k,sub,b,d,z,O,q⟩:=h;obtain⟨as,e⟩:=N1 I sub (vt z) b Y;obtain⟨bs,f⟩:=N1 I sub (vt O) d g;exact ne_dataH e f (wV z) (wV O) U ⟨.bl _,H,I,by rw[Ua _ _ (vt z) (vt O)];rfl,q⟩
theorem fB{K:Mf}:o8 K (Ii K) hG:=λa H x y b I d Q s O U z q=>by
 unfold hG at z;split at z
 ·rename_i h;cases z;exact⟨a,b,I,s,O,U,h.1,h.2,q _ H a (Ext.refl s) rfl⟩
 ·cases z
theorem sJ{K:Mf}:o8 K (Ih K) i7:=λa H x y b I d Q s O U z q=>by
 unfold i7 at z;split at z
 ·rename_i h;cases z;exact⟨a,b,I,s,O,U,h.1,h.2,q _ H a (Ext.refl s) rfl⟩
 ·cases z
theorem SX.O0(h:SX X sc N T k):X.A.units+64<En:=by have:=h.room.un;omega
section
variable{X:Cx}{sc:jn}{N T:List Str}{k:Nat}{a b c:fA}{pos p:h8}{fa fb fc:CO D}
theorem vo(C:PV X a fa)(z:PV X b fb):PV X (.BinOp a .Sub b pos) (zy JI fa fb):=Kb Cc sH C z
theorem vc(C:PV X a fa)(z:PV X b fb):PV X (.BinOp a .FloorDiv b pos) (zy vz fa fb):=Kb uk sO C z
theorem j7(C:PV X a fa)(z:PV X b fb):PV X (.BinOp a .Mod b pos) (zy qw fa fb):=Kb Cg sM C z
theorem fW(C:PV X a fa)(z:PV X b fb):PV X (.BinOp a .Pow b pos) (zy uT fa fb):=Kb Ce sI C z
theorem Gj(C:PV X a fa)(z:PV X b fb):PV X (.Compare a [.LtE] [b] pos) (zy p5 fa fb):=pV XG we C z<|Jh b
theorem wX(h:SX X sc N T k)(C:PV X a fa)(z:PV X b fb):PV X (.Compare a [.Eq] [b] pos) (zy hG fa fb):=pV (rh h.O0) fB C z<|Jh b
theorem Y3(C:PV X a fa)(z:PV X b fb):o7 X (.Compare a [.Gt] [b] pos) (sB<|zy vu fa fb):=ZE Gs AZ C z<|Jh b
theorem BA(C:PV X a fa)(z:PV X b fb):o7 X (.Compare a [.GtE] [b] pos) (sB<|zy Pz fa fb):=ZE Gu Ba C z<|Jh b
theorem kg(h:SX X sc N T k)(C:PV X a fa)(z:PV X b fb):o7 X (.Compare a [.Eq] [b] pos) (sB<|zy hG fa fb):=ZE (rh h.O0) fB C z<|Jh b
theorem xw(h:SX X sc N T k)(C:PV X a fa)(z:PV X b fb):o7 X (.Compare a [.NotEq] [b] pos) (sB<|zy i7 fa fb):=ZE (Cf h.O0) sJ C z<|Jh b
theorem Wh{K:Mf}{H:Hp}{d:D}(h:Rep K H d .gm):d = .gm:=by
 cases d with
 | gm=>rfl
 | bl b=>exact V.noConfusion (show V.gm = .bl b from h)
 | int b=>exact V.noConfusion (show V.gm = .int b from h)
 | str b=>exact V.noConfusion (show V.gm = .str b from h)
 | tup b=>obtain⟨a,f,e,_⟩:=h;cases e
 | lst b=>obtain⟨a,f,e,_⟩:=h;cases e
 | ow c n=>obtain⟨a,f,e,_⟩:=h;cases e
 | ni c n=>obtain⟨a,f,e,_⟩:=h;cases e
theorem sN{K:Mf}:o8 K (λx y H Q=>y = .gm/\Q (.bl<|decide<|x = .gm) H) Eb:=λa H x y b O d Q s z U I q=>by
 cases O with
 | gm=>
  refine⟨U,?_⟩;cases b with
  | gm=>cases I;rw[show x=V.gm from z];exact q _ H a (Ext.refl s) (by simp;rfl)
  | _=>
   cases I;refine q _ H a (Ext.refl s) ?_;have : ¬x=V.gm:=λe=>by rw[e]at z;exact D.noConfusion<|Wh z
   rw[decide_eq_false this];rfl
 | _=>cases b<;>cases I
theorem tG(C:PV X a fa)(z:PV X b fb):o7 X (.Compare a [.Is] [b] pos) (sB<|zy Eb fa fb):=ZE Ci sN C z<|Jh b
theorem yf{K:Mf}{H:Hp}{ds:List D}{v:V}(h:Rep K H (.tup ds) v) : ∃a xs,v = .ref a/\i5 K H a xs/\ft K H ds xs:=h
theorem WC{K:Mf}{H:Hp}{ds:List D}{v:V}(h:Rep K H (.lst ds) v) : ∃a xs,v = .ref a/\h9 K H a xs/\ft K H ds xs:=h
theorem xK{K:Mf}{H:Hp}{ds:List D}{a:fe}{xs:List V}(C:i5 K H a xs)(I:ft K H ds xs):Rep K H (.tup ds) (.ref a):=⟨a,xs,rfl,C,I⟩
theorem QD{K:Mf}{H:Hp}{ds:List D}{a:fe}{xs:List V}(C:h9 K H a xs)(I:ft K H ds xs):Rep K H (.lst ds) (.ref a):=⟨a,xs,rfl,C,I⟩
theorem sP{K:Mf}:o8 K (λx y H Q=>xr (λi j=> .int (i+j)) x y H Q\/pT K x y H Q) j3:=λg H x y n o d Q s U Y I q=>by
 cases n<;>cases o<;>simp[j3]at I
 ·subst I;exact .inl ⟨_,_,jx U,jx Y,q _ H g (Ext.refl s) rfl⟩
 ·rename_i m r
  obtain⟨t,rfl⟩:=I;obtain⟨a,u,rfl,h,f⟩:=yf U;obtain⟨b,w,rfl,k,z⟩:=yf Y;refine .inr ⟨a,b,u,w,rfl,rfl,p8 s h,p8 s k,yR (by rw[f.length,z.length];exact t),λe=>?_,λe=>?_,λp l=>?_⟩
  ·have O:m=[]:=by
    have:=f.length;rw[e]at this;exact Nk this.symm
   subst O;exact q _ H g (Ext.refl s)<|xK k z
  ·have O:r=[]:=by
    have:=z.length;rw[e]at this;exact Nk this.symm
   subst O;exact q _ H g (Ext.refl s) (by rw[OZ];exact xK h f)
  ·exact q _ _ _ (Ext.alloc s l _)<|xK (i5.of zQ)<|(f.append z).mono (js (jH s l) _)
theorem jo(C:PV X a fa)(z:PV X b fb):PV X (.BinOp a .Add b pos) (zy j3 fa fb):=Kb (_G.or nM) sP C z
end
theorem KG(O:A.handled=eF)(k:Sk)(I z:fe)(U:z≠I)(items:Array fh) :
 Walks P w A I [I,z] [I] items.size (λi v=>items[i]? = ej v) (λi h=>lp k h I z i/\m5 k h z items):=by
 cases k
 ·exact Walks.list O I z U items
 ·exact Walks.tuple O I z U items
theorem QH(C:List Int) : ∀n,UA (λi=>C.getD i 0) n=(C.take n).sum
 | 0=>by simp[UA]
 | n+1=>by
  have z:=QH C n;simp only[UA,z];by_cases h:n<C.length
  ·rw[List.take_succ_eq_append_getElem h,List.sum_append]
   simp[h]
  ·rw[Ra ⋯,Ra ⋯]
   simp[h]
section
variable{X:Cx}{pins:UQ}{σ:St}{H:Hp}{s:f6}
theorem lz(J:X.calm=eA):Jv X (.builtin "sum") (λxs H Q=>∃p k ys C,xs=[.ref p]/\l7 k X.K H p ys/\ys=(C:List Int).map V.int/\Q (.int C.sum) H):=by
 intro pins s σ H F E Q I n h;obtain⟨p,k,ys,C,rfl,l,rfl,q⟩:=h;obtain⟨u,rfl,O⟩:=vg n;cases O;obtain⟨z,r,U,B⟩:=I.sq l;have lt:=U.lt;have Y:=r.length;rw[MF]at Y;refine call_sum_walkG<|Ji U ⟨_,[_,p],[_],z.toArray.size,_,_,λi=>C.getD i 0,rfl,KG (A:=X.A.in1) (I.ok.hd J) k _ p (MP lt) z.toArray,⟨Zl k _ p,U.at λo e=>Mh _ e⟩,?_,?_,?_⟩
 ·intro b f
  rw[MX];simp only[Mu,ML,or_false]at f;rcases f with rfl | rfl
  ·exact Og _
  ·exact Nu lt
 ·intro i v m
  have a:z[i]? = ej v:=by simpa using m
  have g:i<C.length:=by rw[Y];exact(Mv.mp a).1
  obtain⟨u,d,O⟩:=r.get (i:=i) (x:= .int C[i]) (by simp[g]);rw[a]at d;cases d;obtain⟨t,rfl⟩:=O;exact⟨t,by simp[g]⟩
 ·intro y w t' j
  have e:UA (λi=>C.getD i 0) z.toArray.size=C.sum:=by rw[QH,Ra (by rw[Mw,Y];exact Mp _)]
  refine⟨.int C.sum,H,I.kept (t':=w)<|λb u e=>j b u ?_ (Mh _ e),⟨t',by rw[e]⟩,q⟩;simp only[Mu,ML,or_false];exact MP<|MB e
def AO:V->Option Bool
 | .gm=>ej eK
 | .bl b=>ej b
 | .int i=>ej (i != 0)
 | _=>eF
theorem aq(r:RelV x u)(e:AO x=ej b)(q:Q b s):wpAny (f7 P w) A (Ol u) Q E s:=by
 cases x with
 | gm=>cases r;cases e;exact λ_ _ _=>q
 | bl c=>cases r;cases e;exact NN q
 | int i=>obtain⟨t,rfl⟩:=r;cases e;exact PyProof.Rows.truthy_int q
 | _=>cases e
noncomputable def cu:List V->Option (List Bool)
 | []=>ej []
 | x::r=>(AO x).bind λb=>(cu r).map λl=>b::l
theorem JU : ∀{xs:List V} {bs:List Bool},cu xs=ej bs->bs.length=xs.length/\∀(i:Nat) x,xs[i]? = ej x->AO x=ej (bs.getD i eK)
 | [],bs,h=>by cases h;exact⟨rfl,λi x e=>by simp at e⟩
 | y::xs,bs,h=>by
  obtain⟨b,a,h⟩:=ze h;obtain⟨l,z,h⟩:=zB h;subst h;obtain⟨d,f⟩:=JU z;refine⟨by simp[d],λi x e=>?_⟩;cases i with
  | zero=>simp at e;subst e;simpa using a
  | succ i=>simpa using f i x (by simpa using e)
theorem lR(bs:List Bool):(Me bs.length).all (λi=>bs.getD i eK)=bs.all id:=by
 rw[Sv];simp only[NI,Mg,id_eq];constructor
 ·intro h b z
  obtain⟨i,a,e⟩:=List.mem_iff_getElem.mp z;have:=h i a;rw[Mm,Mi a]at this;rw[<- e];exact this
 ·intro h i a
  rw[Mm,Mi a];exact h _<|OB a
theorem lQ(bs:List Bool):(Me bs.length).any (λi=>bs.getD i eK)=bs.any id:=by
 rw[Sv];simp only[Ti,Mg,id_eq];constructor
 ·rintro⟨i,a,h⟩
  rw[Mm,Mi a]at h;exact⟨_,OB a,h⟩
 ·rintro⟨b,z,h⟩
  obtain⟨i,a,e⟩:=List.mem_iff_getElem.mp z;refine⟨i,a,?_⟩;rw[Mm,Mi a,Pn,e];exact h
theorem lE(C:X.calm=eA):Jv X (.builtin "all") (λxs H Q=>∃p k ys bs,xs=[.ref p]/\l7 k X.K H p ys/\cu ys=ej bs/\Q (.bl (bs.all id)) H):=by
 intro pins s σ H N M Q I y h;obtain⟨p,k,ys,bs,rfl,n,t,q⟩:=h;obtain⟨u,rfl,O⟩:=vg y;cases O;obtain⟨z,r,U,J⟩:=I.sq n;have lt:=U.lt;have Y:=r.length;obtain⟨g,j⟩:=JU t;refine call_all_walk<|Ji U ⟨_,[_,p],[_],z.toArray.size,_,_,λi=>bs.getD i eK,rfl,KG (A:=X.A.in1) (I.ok.hd C) k _ p (MP lt) z.toArray,⟨Zl k _ p,U.at λo e=>Mh _ e⟩,?_,?_⟩
 ·intro i v L F E w l
  have a:z[i]? = ej v:=by simpa using w
  have f:i<ys.length:=by rw[Y];exact(Mv.mp a).1
  obtain⟨u,d,O⟩:=r.get (i:=i) (x:=ys[i]) (by simp[f]);rw[a]at d;cases d;exact aq O (j i ys[i] (by simp[f])) l
 ·intro G B m
  have e:(Me z.toArray.size).all (λi=>bs.getD i eK)=bs.all id:=by rw[Mw,<- Y,<- g];exact lR bs
  refine⟨.bl<|bs.all id,H,I.kept (t':=B)<|λb u e=>m b u ?_ (Mh _ e),by rw[e];rfl,q⟩;simp only[Mu,ML,or_false];exact MP<|MB e
theorem lD(C:X.calm=eA):Jv X (.builtin "any") (λxs H Q=>∃p k ys bs,xs=[.ref p]/\l7 k X.K H p ys/\cu ys=ej bs/\Q (.bl (bs.any id)) H):=by
 intro pins s σ H N M Q I y h;obtain⟨p,k,ys,bs,rfl,n,t,q⟩:=h;obtain⟨u,rfl,O⟩:=vg y;cases O;obtain⟨z,r,U,J⟩:=I.sq n;have lt:=U.lt;have Y:=r.length;obtain⟨g,j⟩:=JU t;refine call_any_walk<|Ji U ⟨_,[_,p],[_],z.toArray.size,_,_,λi=>bs.getD i eK,rfl,KG (A:=X.A.in1) (I.ok.hd C) k _ p (MP lt) z.toArray,⟨Zl k _ p,U.at λo e=>Mh _ e⟩,?_,?_⟩
 ·intro i v L F E w l
  have a:z[i]? = ej v:=by simpa using w
  have f:i<ys.length:=by rw[Y];exact(Mv.mp a).1
  obtain⟨u,d,O⟩:=r.get (i:=i) (x:=ys[i]) (by simp[f]);rw[a]at d;cases d;exact aq O (j i ys[i] (by simp[f])) l
 ·intro G B m
  have e:(Me z.toArray.size).any (λi=>bs.getD i eK)=bs.any id:=by rw[Mw,<- Y,<- g];exact lQ bs
  refine⟨.bl<|bs.any id,H,I.kept (t':=B)<|λb u e=>m b u ?_ (Mh _ e),by rw[e];rfl,q⟩;simp only[Mu,ML,or_false];exact MP<|MB e
end
section
variable{X:Cx}{sc:jn}{N T:List Str}{k:Nat}{e a b c:fA}{pos p p2:h8}{f g:CO D}{fq:CO (Sk×List D)}
theorem AY{K:Mf}{H:Hp}{k:Sk}{a:fe}{xs:List V}(h:l7 k K H a xs):h9 K H a xs\/i5 K H a xs:=by
 cases k
 ·exact .inl h
 ·exact .inr h
theorem qj(h:SX X sc N T k)(c:yj sc "len" = eA)(z:X.mg "len" = eF)(O:PQ X e fq)(I:g8 [e] X.env=[(eK,fy e X.env)]:=by rfl):PV X (.Call (.Name "len" p) [e] [] pos) (kD fq):=
 qE (yL VP (h.gl c).1 z PySem.boot_len (jT O q8 I) ⋯ ⋯ I rfl) λu H Q U=>by obtain⟨j,s,d,rc,Y,q⟩:=U;obtain⟨⟨o,f⟩,l,m⟩:=zB Y;subst m;refine⟨j,s,o,f,rc,l,λa g i b ext n t r=>⟨a,g,rfl,AY n,?_⟩⟩;exact q _ i b ext (show V.int g.length = .int f.length by rw[r.length])
theorem je(h:SX X sc N T k)(c:yj sc "tuple" = eA)(z:X.mg "tuple" = eF)(U:PQ X e fq)(I:g8 [e] X.env=[(eK,fy e X.env)]:=by rfl):PV X (.Call (.Name "tuple" p) [e] [] pos) (zM fq):=
 qE (QK Yn (h.gl c).1 z Rv (jT U q8 I) ⋯ ⋯ I rfl) λx H Q Y=>by
  obtain⟨j,w,d,rc,s,q⟩:=Y;obtain⟨⟨g,m⟩,n,o⟩:=zB s;subst o;refine⟨j,w,g,m,rc,n,λa u i b ext f t r=>⟨a,u,rfl,?_⟩⟩;cases g with
  | L=>exact .inl ⟨f,λl O=>q _ _ _ (ext.trans<|Ext.alloc ext.sub O _)<|xK (i5.of zQ)<|r.mono<|js (jH ext.sub O) _⟩
  | T=>exact .inr ⟨f,q _ i b ext (xK (t rfl) r)⟩
theorem yw{H H':Hp}(s:i4 H H'){a:fe}(h:H' a=eF):H a=eF:=by
 cases z:H a with
 | none=>rfl
 | some o=>rw[s a o z]at h;cases h
theorem tU(h:SX X sc N T k)(c:yj sc "list" = eA)(z:X.mg "list" = eF)(U:PQ X e fq)(O:g8 [e] X.env=[(eK,fy e X.env)]:=by rfl):PO X (.Call (.Name "list" p) [e] [] pos) (fI fq):=
 qE (QK VN (h.gl c).1 z RG (jT U q8 O) ⋯ ⋯ O rfl) λx H Q Y=>by obtain⟨g,t,d,rc,n,q⟩:=Y;obtain⟨⟨s,i⟩,j,m⟩:=zB n;subst m;refine⟨g,t,s,i,rc,j,λa f u b ext o w r=>⟨a,f,rfl,AY o,λl I=>?_⟩⟩;exact q l f _ b (ext.trans<|Ext.hide ext.sub I _) (yw ext.s1 I) (jH ext.sub I) zQ r
theorem YJ : ∀{ds:List D} {n:Int},fj ds=ej n->∃C:List Int,ds=C.map D.int/\n=C.sum
 | [],n,h=>by cases h;exact⟨[],rfl,rfl⟩
 | d::ds,n,h=>by
  cases d with
  | int i=>
   obtain⟨s,e,h⟩:=zB h;obtain⟨C,rfl,rfl⟩:=YJ e;exact⟨i::C,rfl,by rw[<- h];simp⟩
  | _=>cases h
theorem YZ{K:Mf}{H:Hp} : ∀{C:List Int} {xs:List V},ft K H (C.map D.int) xs->xs=C.map V.int
 | [],xs,h=>h.uh
 | z::C,xs,h=>by obtain⟨x,r,e,a,b⟩:=ft.q5 h;rw[e,jx a,YZ b];rfl
theorem fV(h:SX X sc N T k)(c:yj sc "sum" = eA)(z:X.mg "sum" = eF)(Y:PQ X e fq)(U:g8 [e] X.env=[(eK,fy e X.env)]:=by rfl):PV X (.Call (.Name "sum" p) [e] [] pos) (sT fq):=
 qE (yL (lz h.calm) (h.gl c).1 z PyProof.Rows.boot_sum (jT Y q8 U) ⋯ ⋯ U rfl) λA H Q u=>by obtain⟨j,x,d,rc,I,q⟩:=u;obtain⟨⟨f,l⟩,m,I⟩:=ze I;obtain⟨n,o,s⟩:=zB I;subst s;obtain⟨g,O,rfl⟩:=YJ o;have O:l=g.map D.int:=O;subst O;exact⟨j,x,f,_,rc,m,λa w i b ext t y r=>⟨a,f,w,g,rfl,t,YZ r,q _ i b ext rfl⟩⟩
theorem sj{K:Mf}{H:Hp}{d:D}{x:V}{b:Bool}(h:Rep K H d x)(e:As d=ej b):AO x=ej b:=by
 cases d with
 | gm=>cases (show x = .gm from h);exact e
 | bl c=>cases (show x = .bl c from h);exact e
 | int i=>cases (show x = .int i from h);exact e
 | _=>cases e
theorem KM{K:Mf}{H:Hp} : ∀{ds:List D} {xs:List V} {bs:List Bool},ft K H ds xs->wy ds=ej bs->cu xs=ej bs
 | [],xs,bs,h,e=>by rw[h.uh];exact e
 | d::ds,xs,bs,h,e=>by obtain⟨x,r,z,f,g⟩:=h.q5;obtain⟨b,a,e⟩:=ze e;obtain⟨l,I,e⟩:=zB e;subst z e;show(AO x).bind _=_;rw[sj f a];show((cu r).map λl=>b::l)=_;rw[KM g I];rfl
theorem Kd(h:SX X sc N T k)(c:yj sc "all" = eA)(z:X.mg "all" = eF)(U:PQ X e fq)(O:g8 [e] X.env=[(eK,fy e X.env)]:=by rfl):PV X (.Call (.Name "all" p) [e] [] pos) (fK fq):=
 qE (yL (lE h.calm) (h.gl c).1 z PyProof.Rows.boot_all (jT U q8 O) ⋯ ⋯ O rfl) λw H Q Y=>by obtain⟨i,s,d,rc,I,q⟩:=Y;obtain⟨⟨f,t⟩,j,I⟩:=ze I;obtain⟨bs,l,m⟩:=zB I;subst m;exact⟨i,s,f,_,rc,j,λa o g b ext n u r=>⟨a,f,o,bs,rfl,n,KM r l,q _ g b ext rfl⟩⟩
theorem pW(h:SX X sc N T k)(c:yj sc "any" = eA)(z:X.mg "any" = eF)(U:PQ X e fq)(O:g8 [e] X.env=[(eK,fy e X.env)]:=by rfl):PV X (.Call (.Name "any" p) [e] [] pos) (Aw fq):=
 qE (yL (lD h.calm) (h.gl c).1 z PyProof.Rows.boot_any (jT U q8 O) ⋯ ⋯ O rfl) λw H Q Y=>by obtain⟨i,s,d,rc,I,q⟩:=Y;obtain⟨⟨f,t⟩,j,I⟩:=ze I;obtain⟨bs,l,m⟩:=zB I;subst m;exact⟨i,s,f,_,rc,j,λa o g b ext n u r=>⟨a,f,o,bs,rfl,n,KM r l,q _ g b ext rfl⟩⟩
theorem vp(h:SX X sc N T k)(c:yj sc "int" = eA)(z:X.mg "int" = eF)(Y:PV X e f)(O:g8 [e] X.env=[(eK,fy e X.env)]:=by rfl):PV X (.Call (.Name "int" p) [e] [] pos) (km f):=
 qE (QK lB (h.gl c).1 z PyProof.Rows.boot_int (jT Y q8 O) ⋯ ⋯ O rfl) λo H Q m=>by
  obtain⟨j,n,d,rc,I,q⟩:=m;obtain⟨U,l,I⟩:=ze I;refine⟨j,n,U,rc,l,λv g a ext r=>?_⟩;cases U with
  | int i=>cases I;exact .inl ⟨i,by rw[jx r],q _ g a ext rfl⟩
  | bl b=>cases I;exact .inr ⟨b,by rw[show v = .bl b from r],q _ g a ext rfl⟩
  | _=>cases I
end
section
variable{X:Cx}{sc:jn}{N T:List Str}{k:Nat}{e a b c:fA}{pos p p2:h8}{f g:CO D}{fq:CO (Sk×List D)}
theorem QW(h:k6 n i=ej j):E5 n i=ej j:=by
 unfold k6 at h;unfold E5;split at h
 ·rename_i a;rw[UJ a.1,UJ a.2];exact h
 ·split at h
  ·rename_i a b;rw[UY ⋯,UJ ⋯];exact h
  ·cases h
theorem zC(C:PQ X a fq)(J:PV X b g)(S:ZY b:=by intro _ _;rfl):PV X (.Subscript a b pos) (eL fq g):=
 qE (nF (Um.or CD) C J S) λN H Q B=>by
  obtain⟨n,m,d,rc,z,q⟩:=B;obtain⟨⟨l,u⟩,w,z⟩:=ze z;obtain⟨i,O,z⟩:=ze z;obtain⟨t,y,O⟩:=ze O;obtain⟨j,A,z⟩:=ze z;refine⟨n,m,l,u,rc,w,λp h G e ext k K r=>⟨e,m,t,rc.ext ext,y,λM o s I f=>?_⟩⟩;rw[jQ O]at f;obtain⟨x,E,F⟩:=r.get z;have U:Dc h i=ej x:=by unfold Dc;rw[r.length,QW A];exact E
  have Y:=q x o s (ext.trans I)<|F.mono I.s0;cases l with
  | L=>exact .inl ⟨p,h,i,x,rfl,jx f,I.s1.seq k,U,Y⟩
  | T=>exact .inr ⟨p,h,i,x,rfl,jx f,p8 I.s1 k,U,Y⟩
theorem ZP{P:l6}{w:i8}{A:o6}{E:EQ}{s:f6}{t J:fe}{items:Array fh}{I O:fh}{lo C:Option Int}{Q:EQ}(z:L1 s.heap t items)(U:s.heap.IsSliceOf J I O .none)(Z:Ds I lo)(Y:Ds O C)
 (S:HT.eL items.size 0 lo=0/\HT.eL items.size items.size C=items.size) (h:Q (.ref t) s):wpAny (f7 P w) A (Dy (.ref t)<|.ref J) Q E s:=by
 obtain⟨os,a,b,f⟩:=id U;have d:s.TypeIs (.ref J) "slice":=⟨os,a,b⟩;unfold Dy
 try with_reducible refine Ox ?_
 first | refine Md (Mq ?_) | skip
 refine Md (g? z.typeIs ⋯ ?_);refine Md (NF (name:=Nj "__getitem__") z.typeIs NT
  (NZ NT z.typeIs entry_tuple_getitem ?_ (_i _ _)))
 show wpAny _ _ (Builtin.Tuple.tupleItemsOf (.ref t) >>= _) _ _ s;refine Md<|Sw z ?_;refine Md<|RZ d ?_;rw[UJ ⋯];refine Md<|HT.Jo U Z Y ?_;have e:(((HT.eL items.size 0 lo:Nat):Int)==0 && (1:Int)==1 && (HT.eL items.size items.size C - HT.eL items.size 0 lo)==items.size)=eA:=by rw[S.1,S.2];simp
 show wpAny _ _ (if (((HT.eL items.size 0 lo:Nat):Int)==0 && (1:Int)==1 && (HT.eL items.size items.size C - HT.eL items.size 0 lo)==items.size)=eA then _ else _) _ _ s;rw[UJ e];refine Md (m:=OR _) ?_;unfold OR;refine Md<|RZ z.typeIs<|Mq ?_;rw[UJ ⋯];exact Md<|PU<|Mq ⟨_,rfl,Mq h⟩
noncomputable def Gf(K:Mf):V->Option Int->Option Int->Hp->VK->Prop:=λx lo d H Q=>∃a b,x = .ref a/\i5 K H a b/\(HT.eL b.length 0 lo=0/\HT.eL b.length b.length d=b.length->Q (.ref a) H)/\∀p,H p=eF->Q (.ref p) (upd H p<|.tup<|uY b lo d)
theorem sQ:TK X (Gf X.K):=by
 intro d s t H x v o p lo f n Q I z O i U h;obtain⟨a,b,rfl,g,l,m⟩:=h;by_cases e:HT.eL b.length 0 lo=0/\HT.eL b.length b.length f=b.length
 ·cases z
  obtain⟨j,r,Y,u⟩:=I.tuple g;have k:j.toArray.size=b.length:=by rw[Mw];exact r.length.symm
  refine⟨"tuple",_,NT.lookup,Y.typeIs,?_⟩;exact ZP Y O i U (by rw[k];exact e) ⟨.ref a,H,I,rfl,l e⟩
 ·exact Bb d s t H (.ref a) v o p lo f n Q I z O i U ⟨a,b,rfl,g,e,m⟩
theorem JK(n d:Nat)(o:Option Int):dP n d o=HT.eL n d o:=by cases o<;>rfl
theorem mQ{K:Mf}{H:Hp}{ds:List D}{xs:List V}(r:ft K H ds xs)(lo C:Option Int):ft K H (oX ds lo C) (uY xs lo C):=by unfold oX uY;rw[<- JK,<- JK,r.length];exact(r.drop _).take _
theorem lq{ds:List D}{lo C:Option Int}(h:HT.eL ds.length 0 lo=0/\HT.eL ds.length ds.length C=ds.length):oX ds lo C=ds:=by unfold oX;rw[JK,JK,h.1,h.2];simp
noncomputable def tB(K:Mf)(f:CO (Option Int)):TO:=λg H Q=>∃d e o,RC K d H g e/\f e=ej o/\∀b a,Ext d H a b->Q o b
theorem wD:L2.PO X eF (tB X.K Yv):=λa s d H Q I ⟨b,e,o,rc,z,q⟩=>tR a s d H Q I (by cases z;exact q H b<|Ext.refl rc.sub)
theorem wC(h:PV X e f):L2.PO X (ej e) (tB X.K<|t6 f):=λa s m H Q I ⟨k,l,o,rc,z,q⟩=>tP h a s m H Q I (by
 obtain⟨i,g,O⟩:=zB z;obtain⟨d,U,g⟩:=ze g;subst O;refine⟨k,l,d,rc,U,λv j b x r=>?_⟩;rw[jQ g]at r;exact⟨i,jx r,q j b x⟩)
theorem QE{lo C:Option fA}{O U:CO (Option Int)}(J:PV X a f)(Z:L2.PO X lo (tB X.K O))(S:L2.PO X C (tB X.K U)):PV X (.Subscript a (.Slice lo C eF p2) pos) (YS f O U):=
 qE (nE sQ J Z S) λN H Q E=>by
  obtain⟨m,g,d,rc,z,q⟩:=E;obtain⟨Y,y,z⟩:=ze z;obtain⟨l,A,z⟩:=ze z;obtain⟨u,B,z⟩:=ze z;refine⟨m,g,Y,rc,y,λv G b x r=>⟨b,g,l,rc.ext x,A,λL s I=>⟨s,g,u,(rc.ext x).ext I,B,λn t x3=>?_⟩⟩⟩;have k:=x.trans<|I.trans x3;cases Y with
  | tup M=>
   cases z;obtain⟨o,F,rfl,h,e⟩:=yf<|r.mono (I.trans x3).s0;have w:=e.length;refine⟨o,F,rfl,p8 x3.sub h,λj=>?_,λp i=>?_⟩
   ·rw[w]at j
    exact q _ n t k (by rw[lq j];exact xK h e)
   ·exact q _ _ _ (k.trans<|Ext.alloc x3.sub i _)<|xK (i5.of zQ)<|(mQ e _ _).mono (js (jH x3.sub i) _)
  | _=>cases z
theorem KY{K:Mf}{H:Hp}{ds:List D}{xs:List V}(r:ft K H ds xs) : ∀n:Nat,ft K H (Ml n ds).flatten (Ml n xs).flatten
 | 0=>ft.nil
 | n+1=>by rw[Ow,Ow,Pf,Pf];exact r.append<|KY r n
theorem Y8(C:PQ X a fq)(J:PQ X b gq):PO X (.BinOp a .Add b pos) (We fq gq):=
 qE (uc nN C J) λG H Q u=>by
  obtain⟨j,i,B,rc,z,q⟩:=u;obtain⟨⟨w,Y⟩,o,z⟩:=ze z;obtain⟨⟨x,d⟩,r,z⟩:=ze z;cases w<;>cases x<;>try (simp at z;done)
  dsimp only at z;by_cases O:Y.length+d.length<=lim
  ·rw[UJ O]at z;cases z
   refine⟨j,i,.L,Y,rc,o,λk g y m x1 s E e=>⟨m,i,.L,d,rc.ext x1,r,λl h A n I t F f=>⟨k,l,g,h,rfl,rfl,I.s1.seq s,t,yR (by rw[e.length,f.length];exact O),λp U=>?_⟩⟩⟩;exact q p (g++h) _ n (x1.trans<|I.trans<|Ext.hide I.sub U _) (yw (x1.trans I).s1 U) (jH I.sub U) zQ<|(e.mono I.s0).append f
  ·rw[UY O]at z;cases z
theorem BI(C:PO X a gn)(J:PV X b g):PO X (.BinOp a .Mult b pos) (sU (jm gn) g):=
 qE (uc Cd C J) λM H Q u=>by
  obtain⟨k,i,B,rc,z,q⟩:=u;obtain⟨⟨G,e⟩,d,z⟩:=ze z;obtain⟨A,r,d⟩:=zB d;cases d;obtain⟨j,U,z⟩:=ze z;obtain⟨o,s,U⟩:=ze U;dsimp only at z;by_cases O:e.length*j.toNat<=lim/\inR j=eA
  ·rw[UJ O]at z;cases z
   refine⟨k,i,e,rc,r,λl w x m x1 E F t f=>⟨m,i,o,rc.ext x1,s,λv y n I h=>?_⟩⟩;rw[jQ U]at h;obtain⟨K,L⟩:=Xd O.2;refine⟨l,j,w,rfl,jx h,I.s1 _ _ t,by omega,by omega,yR (by rw[f.length];exact O.1),λp Y=>?_⟩;exact q p _ _ n (x1.trans<|I.trans<|Ext.hide I.sub Y _) (yw (x1.trans I).s1 Y) (jH I.sub Y) zQ<|(KY f _).mono I.s0
  ·rw[UY O]at z;cases z
theorem Cr{K:Mf}{t c:String}{b:Bool}(h:(if ((Py t) == .type c)=eA then ej eA else if PySem.W.kitMeta c=eA then (fastBuiltinMro t).map (·.contains (.type c))else eF)=ej b):OA K (.type t) (.type c)=ej b:=h
noncomputable def S5:Ty->String
 | .int=>"int"
 | .bool=>"bool"
 | .str=>"str"
 | .tuple=>"tuple"
 | .list=>"list"
noncomputable def Cs:D->String
 | .gm=>"NoneType"
 | .bl _=>"bool"
 | .int _=>"int"
 | .str _=>"str"
 | .tup _=>"tuple"
 | .lst _=>"list"
 | .ow _ _=>"dict"
 | .ni _ _=>"dict"
theorem ky{K:Mf}(T:Ty)(d:D):OA K (.type<|Cs d) (.type<|S5 T)=ej (WM T d):=by cases d<;>cases T<;>(dsimp only[Cs,S5,WM,rD,CH,rA,rz,rC];exact Cr ⋯)
theorem oC{C:UQ}{S:St}{H0 H:Hp}{s:f6}{A:o6}{E:EQ}{Q:EQ}{d:D}{x:V}{u:fh}(I:Inv X C S H s)(sub:i4 H0 H)(O:RelV x u)(r:Rep X.K H0 d x)(T:Ty)
 (h : ∀J,Q (.bool (WM T d)) {s with toks:=J}):wpAny (f7 X.prog X.w) A (call (.builtin "isinstance") [u,.type (S5 T)]) Q E s:=by
 cases d with
 | gm=>have e:=ky (K:=X.K) T .gm;cases (show x = .gm from r);cases (show u=Nd from O);exact Nl SM I.m6 Oq e (λz=>nomatch z) h
 | bl y=>have e:=ky (K:=X.K) T<|.bl y;cases (show x = .bl y from r);cases (show u=SV y from O);exact Nl SN I.m6 Oq e (λz=>nomatch z) h
 | int i=>have e:=ky (K:=X.K) T<|.int i;cases (show x = .int i from r);obtain⟨t,q⟩:=(show ∃t,u=Sn i t from O);cases q;exact Nl SY I.m6 Oq e (λz=>nomatch z) h
 | str y=>have e:=ky (K:=X.K) T<|.str y;cases (show x = .str y from r);obtain⟨t,q⟩:=(show ∃t,u=Sm y t from O);cases q;exact Nl SW I.m6 Oq e (λz=>nomatch z) h
 | tup k=>
  have e:=ky (K:=X.K) T<|.tup k;obtain⟨a,b,rfl,f,l⟩:=yf r;cases (show u=NS a from O);obtain⟨m,B,⟨o,U,Y,_⟩,n⟩:=I.tuple<|p8 sub f;exact Nl SD I.m6 ⟨o,U,Y⟩ e (λz=>nomatch z) h
 | lst k=>
  have e:=ky (K:=X.K) T<|.lst k;obtain⟨a,b,rfl,f,l⟩:=WC r;cases (show u=NS a from O);obtain⟨m,B,p,n⟩:=I.list<|sub.seq f;obtain⟨o,U,Y,_⟩:=p.isList;exact Nl RI I.m6 ⟨o,U,Y⟩ e (λz=>nomatch z) h
 | ow g j=>
  have e:=ky (K:=X.K) T<|.ow g j;obtain⟨a,b,rfl,⟨F,_,_,f⟩,_⟩:=(show ∃a b,x = .ref a/\DJ H0 a g b/\ft X.K H0 j b from r);exact iz I O (.dK<|sub _ _ f) e h
 | ni g j=>
  have e:=ky (K:=X.K) T<|.ni g j;obtain⟨a,b,rfl,⟨_,o,G,f,l,_⟩,_⟩:=(show ∃a b,x = .ref a/\I7 X.K H0 a g b/\ft X.K H0 j b from r);cases (show u=NS a from O);obtain⟨U,_⟩:=(show nh X.prog X.w H s.heap a (TV a o)from I.g5 a _<|sub _ _ f);exact Nl PR I.m6 ⟨o,U,l.1.1⟩ e (λz=>nomatch z) h
theorem fY(T:Ty)(h:SX X sc N L k)(c:yj sc "isinstance" = eA)(z:X.mg "isinstance" = eF)(O:yj sc ty=eA)(S:X.mg ty=eF)(J:Dd ty=ej (.type (S5 T)))(C:PV X a f)
 (Y:g8 [a,.Name ty p2] X.env=[(eK,fy a X.env),(eK,fy (.Name ty p2) X.env)]:=by rfl):PV X (.Call (.Name "isinstance" p) [a,.Name ty p2] [] pos) (p6 T f):=by
 intro e s G H Q I ⟨i,F,d,rc,t,q⟩;obtain⟨l,n,o⟩:=zB t;subst o;refine Pe<|kj I (h.gl c).1 z SE ?_ ⋯ ⋯;refine PH ?_ (by rw[Y];rfl) rfl;rw[Y];show wpAny _ _ (DW ((eK,fy a X.env)::vr pos [(eK,fy (.Name ty p2) X.env)])) _ _ s;refine Oo<|gu (C e s G H _ I ⟨i,F,l,rc,n,λv g b x r=>(show(λv g=>∃b,Ext i H b g/\Rep X.K b l v) v g from⟨b,x,r⟩)⟩) λu B w=>?_;obtain⟨x,j,U,y,m,x1,A⟩:=w;show wpAny _ _ (DW ((eK,fy (.Name ty p2) X.env)::[])) _ _ B;refine Oo<|kj U (h.gl O).1 S J ?_ (h.gl O).2.1 (h.gl O).2.2;refine Rc ?_;exact oC U x1.sub y A T λE=>⟨.bl _,j,U.tok E,rfl,q _ j m x1 rfl⟩
end
section
variable{X:Cx}{sc:jn}{N L:List Str}{k:Nat}{e a b c:fA}{pos p p2:h8}{f g:CO D}{fq:CO (Sk×List D)}
theorem jC(h:SX X sc N L k)(c:yj sc "range" = eA)(z:X.mg "range" = eF)(C:PV X a f)(I:g8 [a] X.env=[(eK,fy a X.env)]:=by rfl):ji X tg (.Call (.Name "range" p) [a] [] pos) (z7 f):=cW (h.gl c).1 z C I
theorem nA(h:SX X sc N L k)(c:yj sc "range" = eA)(z:X.mg "range" = eF)(C:PV X a f)(I:PV X b g)(O:g8 [a,b] X.env=[(eK,fy a X.env),(eK,fy b X.env)]:=by rfl)(U:g8 [b] X.env=[(eK,fy b X.env)]:=by rfl) :
 ji X tg (.Call (.Name "range" p) [a,b] [] pos) (Wd f g):=cV (h.gl c).1 z C I O U
theorem Jf(h:SX X sc N L k)(c:yj sc "zip" = eA)(z:X.mg "zip" = eF)(C:PV X a f)(I:PV X b g)(O:g8 [a,b] X.env=[(eK,fy a X.env),(eK,fy b X.env)]:=by rfl)(U:g8 [b] X.env=[(eK,fy b X.env)]:=by rfl) :
 ji X (.Tuple elts x1 u6) (.Call (.Name "zip" p) [a,b] [] pos) (aH f g):=tY (h.gl c).1 z C I O U
theorem Y2(h:SX X sc N L k)(c:yj sc "isinstance" = eA)(z:X.mg "isinstance" = eF)(I:yj sc "int" = eA)(O:X.mg "int" = eF)(C:PV X a f)
 (U:g8 [a,.Name "int" p2] X.env=[(eK,fy a X.env),(eK,fy (.Name "int" p2) X.env)]:=by rfl):PV X (.Call (.Name "isinstance" p) [a,.Name "int" p2] [] pos) (p6 .int f):=fY .int h c z I O PyProof.Rows.boot_int C U
theorem Ka(h:SX X sc N L k)(c:yj sc "isinstance" = eA)(z:X.mg "isinstance" = eF)(I:yj sc "bool" = eA)(O:X.mg "bool" = eF)(C:PV X a f)
 (U:g8 [a,.Name "bool" p2] X.env=[(eK,fy a X.env),(eK,fy (.Name "bool" p2) X.env)]:=by rfl):PV X (.Call (.Name "isinstance" p) [a,.Name "bool" p2] [] pos) (p6 .bool f):=fY .bool h c z I O PyProof.Rows.boot_bool C U
theorem xN(h:SX X sc N L k)(c:yj sc "isinstance" = eA)(z:X.mg "isinstance" = eF)(I:yj sc "tuple" = eA)(O:X.mg "tuple" = eF)(C:PV X a f)
 (U:g8 [a,.Name "tuple" p2] X.env=[(eK,fy a X.env),(eK,fy (.Name "tuple" p2) X.env)]:=by rfl):PV X (.Call (.Name "isinstance" p) [a,.Name "tuple" p2] [] pos) (p6 .tuple f):=fY .tuple h c z I O Rv C U
theorem cO(h:SX X sc N L k)(c:yj sc "isinstance" = eA)(z:X.mg "isinstance" = eF)(I:yj sc "list" = eA)(O:X.mg "list" = eF)(C:PV X a f)
 (U:g8 [a,.Name "list" p2] X.env=[(eK,fy a X.env),(eK,fy (.Name "list" p2) X.env)]:=by rfl):PV X (.Call (.Name "isinstance" p) [a,.Name "list" p2] [] pos) (p6 .list f):=fY .list h c z I O RG C U
theorem mW(C:PQ X a fq)(I : ∀z,E4 a X.env z=(do let v <- z;DD a.pos;tf [v] (Ol v)):=by intro _;rfl):o7 X a (sS fq):=
 Y5 (mX C I) λn H Q O=>by
  obtain⟨j,l,t,rc,U,q⟩:=O;obtain⟨⟨h,b⟩,k,Y⟩:=zB U;subst Y;refine⟨j,l,h,b,rc,k,λp d i f ext g m r=>⟨!b.isEmpty,?_,q i f ext⟩⟩;have e:d.isEmpty=b.isEmpty:=by have:=r.length;cases d<;>cases b<;>simp_all
  rw[<- e];cases h with
  | L=>exact .inl ⟨d,g,rfl⟩
  | T=>exact .inr<|.inl ⟨d,g,rfl⟩
theorem Bv(C:PV X a f):PV X (.UnaryOp .USub a pos) (EH f):=
 qE (Gq AK C) λk H Q z=>by obtain⟨h,j,d,rc,I,q⟩:=z;obtain⟨i,e,O⟩:=zB I;obtain⟨U,Y,e⟩:=ze e;subst O;refine⟨h,j,U,rc,Y,λv g b x r=>?_⟩;rw[jQ e]at r;exact⟨i,jx r,q _ g b x rfl⟩
theorem QG(i:Nat)(h:SX X sc N L k)(c:JS sc N i x=eA)(C:PV X a f)(z:g8 [a] X.env=[(eK,fy a X.env)]:=by rfl)
 (I:b_ (.Name x np) "append" X.env (fy (.Name x np) X.env)=fy (.Name x np) X.env:=by rfl)
 (O:((vr cpos<|starEach [a] X.env).all (λx=> !x.1) && (c_ cpos<|keywordEach [] X.env).all (λx=>x.1.isSome)
   && decide ([a].length+([]:List L3).length+(if ([]:List L3).isEmpty then 0 else 1)<30))=eA:=by rfl)
 (U:(apos.endLine==cpos.line)=eA:=by rfl) (Y:DE (.Call (.Attribute (.Name x np) "append" apos) [a] [] cpos) eF pos.line X.env=pure eK:=by rfl) :
 n7 X (.Expr (.Call (.Attribute (.Name x np) "append" apos) [a] [] cpos) pos) (xu i f):=
 cR i (BX PySem.F.plainAttrs_list PySem.F.slot_list_append PySem.F.type_list_append gW (h.var c) (jT C q8 z) I O U z rfl) Y
theorem jt(i:Nat){st:m7}{f:CO (List D)}(h:PS X st (cD (tO X.K f)<|vx i)):n7 X st (jy i<|qh f):=kQ h λD t H O=>by obtain⟨E0,E,g,n,p,z,I,U⟩:=O;obtain⟨d,b,I⟩:=zB I;obtain⟨k,Y,b⟩:=zB b;subst I b;exact⟨g,n,k,z.rc,Y,λa s o j x l e m r=>U _ _ _<|(z.step<|x.show l e m z.rc.sub).Di (QD (h9.of zQ)<|r.mono<|js e _)⟩
theorem _I(i:Nat)(h:SX X sc N L k)(c:vh sc N L i y=eA)
 (z:X.calm=eA) (ok:zl X scope fr) (I : ∀i∈T.idx,i<own.length) (S:A4 X tg iter src) (O : ∀fp J C,PG (jL X scope (own++fr.map (·.1)) fp J C) tg<|u5 X.K T)
 (U : ∀fp J C,PV (jL X scope (own++fr.map (·.1)) fp J C) elt f) (Y : ∀x,t4 iter X.env x=pure x:=by intro _;rfl) :
 PS X (.Assign [.Name y py] (.ListComp elt [⟨tg,iter,[],0⟩] scope cpos) spos) (cD (tO X.K<|zK src T own.length (fr.map (·.2)) jb f)<|vx i):=by
 obtain⟨a,b,d⟩:=h.loc c;exact nv h.M4 a b d z ok I S O U Y
theorem Gm(i:Nat)(h:SX X sc N L k)(c:vh sc N L i y=eA)
 (z:X.calm=eA) (ok:zl X scope fr) (I : ∀i∈T.idx,i<own.length) (S:A4 X tg iter src) (O : ∀fp J C,PG (jL X scope (own++fr.map (·.1)) fp J C) tg<|u5 X.K T)
 (U : ∀fp J C,o7 (jL X scope (own++fr.map (·.1)) fp J C) F5 kk) (Y : ∀fp J C,PV (jL X scope (own++fr.map (·.1)) fp J C) elt f) (Z : ∀x,t4 iter X.env x=pure x:=by intro _;rfl) :
 PS X (.Assign [.Name y py] (.ListComp elt [⟨tg,iter,[F5],0⟩] scope cpos) spos) (cD (tO X.K<|zK src T own.length (fr.map (·.2)) kk f)<|vx i):=by
 obtain⟨a,b,d⟩:=h.loc c;exact cS h.M4 a b d z ok I S O U Y Z
theorem QF(i:Nat)(h:SX X sc N L k)(c:JS sc N i x=eA)(hi:PV X b g)(Z:PV X e f)
 (S : ∀v,u4 (.Subscript (.Name x np) b p) X.env v=(do
   let I <- tf [v] (fy (.Name x np) X.env);let Y <- tf [v,I] (fy b X.env)
   DD p
   tf [v,I,Y] (N4 I Y v)
   R4 [v,I,Y] []):=by intro _;rfl)
 (hs:H8 [.Subscript (.Name x np) b p] e pos.line X.env=pure eK:=by rfl) (hw:N6 [.Subscript (.Name x np) b p] e X.env=pure eF:=by rfl)
 (C:(B6 [.Subscript (.Name x np) b p] X.env).map (·.2)=[u4 (.Subscript (.Name x np) b p) X.env]:=by rfl) :
 n7 X (.Assign [.Subscript (.Name x np) b p] e pos) (J9 i g f):=
 kQ (Kh Z (aS (h.var c) hi Jz S) hs hw C) λD σ H Q=>by obtain⟨E0,E,w,u,fl,t,z,y⟩:=Q;obtain⟨d,J,z⟩:=ze z;obtain⟨G,O,z⟩:=ze z;obtain⟨R,n,z⟩:=ze z;obtain⟨F,K,n⟩:=ze n;obtain⟨j,M,z⟩:=zB z;subst z;have O:=vD O;refine⟨w,u,d,t.rc,J,λv T l x r=>?_⟩;have m:=t.step x;obtain⟨a,xs,C,h2,P,o⟩:=m.rc.own i G O;refine⟨_,C,l,u,F,m.rc,K,λv2 W A U s=>?_⟩;rw[jQ n]at s;have B:=m.step U;refine⟨a,xs,R,j,rfl,jx s,U.s1 _ _ P,by rw[o.length];exact QW M,?_⟩;exact y _ _ A<|B.rewrite (xs:=xs) O C<|(o.mono U.s0).set j (r.mono U.s0)
theorem K1(O:PG X tg (u5 X.K T))(U:PV X e f)(Y:H8 [tg] e pos.line X.env=pure eK:=by rfl)(J:N6 [tg] e X.env=pure eF:=by rfl)
 (C:(B6 [tg] X.env).map (·.2)=[u4 tg X.env]:=by rfl):n7 X (.Assign [tg] e pos) (fG T f):=
 kQ (Kh U O Y J C) λD p H l=>by obtain⟨E0,E,h,m,o,I,z,i⟩:=l;obtain⟨d,j,z⟩:=ze z;obtain⟨n,k,z⟩:=zB z;subst z;refine⟨h,m,d,I.rc,j,λv g a x r=>?_⟩;exact Zp x.sub r k λb _ a4=>i b g a<|a4 E0 E<|I.step x
end
structure hH(P:l6)(w:i8)(K:Mf)(mg:UZ)(base:gB)(k:Nat)(x:Str)(n:Nat)(F:List D->Option Res):Prop where
 ex : ∃(f:fe) (fd:u0) (ps:List Str),ps.length=n/\uw P w K mg base u7 k f fd ps (yg K ps.length F)/\mg x=ej (.ref f)/\RD K (.ref f)=eA/\Binds K fd ps []
structure ij(K:Mf)(mg:UZ)(x:Str)(st:m7)(ps:List Str):Prop where
 ex : ∃(f:fe) (fd:u0),L2.D5 K x x st f fd/\(∀us:List fh,us.length=ps.length->d_ fd ⟨us,[]⟩=pure (ps.zip us))/\mg x=ej (.ref f)
noncomputable def DO(X:Cx)(C:List fA)(n:Nat)(g:CO (List D)):Prop:=Dt X C g/\∀b a,g b=ej a->a.length=n
section
variable{X:Cx}{sc:jn}{N L:List Str}{k:Nat}{e:fA}{es:List fA}{f:CO D}{g:CO (List D)}{n:Nat}{pos p:h8}{x:Str}
theorem zk:DO X [] 0 zI:=⟨ug,λb a h=>by cases h;rfl⟩
theorem za(C:PV X e f)(z:DO X es n g)(I:g8 (e::es) X.env=(eK,fy e X.env)::g8 es X.env:=by rfl):DO X (e::es) (n+1) (zb f g):=
 ⟨nK C z.1 I,λa b h=>by obtain⟨y,d,h⟩:=ze h;obtain⟨r,O,h⟩:=zB h;subst h;rw[MH,z.2 a r O]⟩
variable{j:Nat}{F:List D->Option Res}
theorem Gk(z:hH X.prog X.w X.K X.mg X.base j x n F)(I:j<=k)(h:SX X sc N L k)(c:yj sc x=eA)(C:DO X (e::es) n g)
 (O:g8 (e::es) X.env=(eK,fy e X.env)::g8 es X.env:=by rfl) (U:(vr pos<|starEach es X.env).any (·.1)=eK:=by rfl):PV X (.Call (.Name x p) (e::es) [] pos) (zD F g):=by
 obtain⟨i,l,m,f,G,d,Y,b⟩:=z.ex;subst f;exact tF (A0:=[]) G C.1 C.2 λ{t} a=>gF G (h.room.mono I) (h.gl c).1 d Y b .nil Ca a (h.gl c).2.2 O U
theorem Gp(z:hH X.prog X.w X.K X.mg X.base j x n F)(I:j<=k)(h:SX X sc N L k)(c:yj sc x=eA)(C:DO X (e::es) n g)
 (O:g8 (e::es) X.env=(eK,fy e X.env)::g8 es X.env:=by rfl) (U:(vr pos<|starEach es X.env).any (·.1)=eK:=by rfl):PO X (.Call (.Name x p) (e::es) [] pos) (jV F g):=by
 obtain⟨i,l,m,f,G,d,Y,b⟩:=z.ex;subst f;exact tX G C.1 C.2 λ{t} a=>gF G (h.room.mono I) (h.gl c).1 d Y b .nil Ca a (h.gl c).2.2 O U
end
section
variable{P:l6}{w:i8}{K:Mf}{mg:UZ}{base:gB}
noncomputable def oS(N ps:List Str)(st:m7):Bool:=
 decide ((jX st).kind = .function) && decide ((jX st).isCoroutine=eK) && decide ((jX st).isGenerator=eK) && decide N.Nodup && decide (N.take ps.length=ps) &&
 ps.all (λx=>decide ((jX st).names.lookup x=ej .local) || decide ((jX st).names.lookup x=ej .cell)) && (jX st).names.all (λy=> !(y.2==MY))
theorem aG{N ps:List Str}{st:m7}(h:oS N ps st=eA):I8 N ps (jX st):=by unfold oS at h;simp only[My,decide_eq_true_eq,NI,NW,Ou]at h;obtain⟨⟨⟨⟨⟨⟨a,b⟩,z⟩,I⟩,O⟩,U⟩,Y⟩:=h;exact⟨a,b,z,I,O,U,λy d e=>by have:=Y y d;rw[e]at this;exact absurd this ⋯⟩
theorem gG{X:Cx}(hx:X.xe=λ_ _=>False):TJ (f7 X.prog X.w) X.A X.env X.xe:=by rw[hx];exact PassesOwn.never
theorem xC{x:Str}{st:m7}{N ps:List Str}{k:Nat}{F:CO Fl}(A:ij K mg x st ps)(C:oS N ps st=eA)
 (I : ∀X:Cx,X.prog=P->X.w=w->X.K=K->X.mg=mg->X.base=base->SX X (jX st) N N k->X.xe=(λ_ _=>False)->lU X (yU st) F) :
 hH P w K mg base (k+1) x ps.length (jr N.length F):=by
 obtain⟨f,d,z,O,e⟩:=A.ex;have S:=aG C;refine⟨f,d,ps,rfl,CQ z S λb A a s H E U=>?_,e,z.kp,.all O⟩;exact I _ rfl rfl rfl rfl rfl ⟨rfl,rfl,S.nd,rfl,U,λ_ _=> .inl rfl⟩ rfl
theorem Iy{h:gB}{x:Str}{st:m7}{ps:List Str}{f:fe}{Z:fh}{od J:Option fe}{S:Array (Option fh)}{kV I O C ct:fh}(z:K.In h)(G:h.Ns xb mg)
 (a:SO K xb x=ej (ej (.ref f))) (l:K.lookup f=ej ⟨Z,od,.func<|PY x x (Xm st) (yU st) (jX st) .none kV I O J C ct,S⟩)
 (c:So K C x=eA) (Y:RD K (.ref f)=eA)
 (b : ∀(kV I O:fh) (J:Option fe) (C ct:fh) (us:List fh),us.length=ps.length->d_ (PY x x (Xm st) (yU st) (jX st) .none kV I O J C ct) ⟨us,[]⟩=pure (ps.zip us)):ij K mg x st ps:=
 ⟨f,_,CP l c Y,b kV I O J C ct,PySem.W.mg_of z G a⟩
theorem Hb{x:Str}{st:m7}{f:fe}{C:u0}{N ps:List Str}{k:Nat}{F:CO Fl}(z:L2.D5 K x x st f C)(J:oS N ps st=eA)
 (I : ∀X:Cx,X.prog=P->X.w=w->X.K=K->X.mg=mg->X.base=base->SX X (jX st) N N k->X.xe=(λ_ _=>False)->lU X (yU st) F) :
 uw P w K mg base u7 (k+1) f C ps (yg K ps.length<|jr N.length F):=by
 have S:=aG J;exact CQ z S λb A a s H E O=>I _ rfl rfl rfl rfl rfl ⟨rfl,rfl,S.nd,rfl,O,λ_ _=> .inl rfl⟩ rfl
theorem Fn{F:List D->Option Res}{H:Hp}{a:fe}{C:List Int}(z:h9 K H a (C.map V.int))(I:F [.lst (C.map D.int)]=ej (.val<|.bl eA)) :
 yg K 1 F [.ref a] H (λv _=>v = .bl eA) λ_ _ _=>False:=by
 refine⟨H,[.lst (C.map D.int)],.val<|.bl eA,i4.refl _,ft.cons (QD z ?_) ft.nil,rfl,I,λv d b _ r=>r⟩;clear I z
 induction C with
 | nil=>exact ft.nil
 | cons n C O=>exact ft.cons rfl O
end
end DL
namespace DL
open PySem PySem.Spec PyProof.Rows L2
open PySem.W (KasT kas_sort kas_ask kat_run kat_snds kat_lt kat_cons kat_no kat_kind KatTups KatGo)
noncomputable def EA(h:gB)(v:fh)(k:Int):Prop:=∃x o a m t,v = .ref x/\h.get? x=ej o/\o.cls = .type "tuple"/\o.data = .seq a m/\a[0]? = ej (.int k t)
theorem iu : ∀{vs:List fh} {ks:Nat->Int},(∀i (C:i<vs.length),EA h vs[i] (ks i))->∃fs,KatTups h vs fs/\fs.length=vs.length/\∀f∈fs,∃k t,f=Sn k t
 | [],ks,_=>⟨[],KatTups.nil,rfl,λf z=>by cases z⟩
 | v::vs,ks,H=>by
  obtain⟨fs,d,e,I⟩:=iu (vs:=vs) (ks:=λi=>ks<|i+1) λi C=>H (i+1) (by simpa using C);obtain⟨x,o,g,m,t,a,O,U,Y,b⟩:=H 0 ⋯;have a:v = .ref x:=a;subst a;exact⟨.int (ks 0) t::fs,KatTups.cons O U Y b d,by simp[e],λf z=>by
   rcases Mu.mp z with rfl | z
   ·exact⟨_,_,rfl⟩
   ·exact I f z⟩
end DL
namespace DL
open PySem PySem.Spec PyProof.Rows L2
open AutoSeq1 (wpAny_loadPart')
theorem Jq:fillsNumberSlot (.type "tuple") "mul" = pure eK:=
 PySem.fillsNumberSlot_seq (id:="tuple.__mul__") (r:=ej (.builtin "tuple.__rmul__")) Ru.lookup ⋯ F.slot_tuple_rmul.lookup ⋯
theorem Y0:seqRepeat? (.type "tuple")=pure (ej (.builtin "tuple.__mul__")):=by unfold seqRepeat?;rw[PySem.seqSlot_of (T:="tuple") (name:="__mul__") (id:="tuple.__mul__") Ru.lookup ⋯,PySem.seqSlot_of (T:="tuple") (name:="__rmul__") (id:="tuple.__rmul__") F.slot_tuple_rmul.lookup ⋯];rfl
theorem XO(a:Int)(t:tw)(l:fe)(items:Array fh)(n:Nat)(z:Option fe)(C:Array (Option fh)) :
 F0 (rn.«int.__rmul__» ⟨[.int a t,.ref l],[]⟩) (λ_ R s=>s.heap.get? l=ej {cls:= .type "tuple",dict:=z,data:= .seq items n,slots:=C}/\R (.ok (.ret Value.notImplemented)) s):=
 .of_wp λb w A R s h=>by obtain⟨I,g,d,O,os⟩:=s;obtain⟨U,h⟩:=h;wp_walk;exact⟨_,rfl,h⟩
theorem KL(a:Int)(t:tw)(l:fe)(items:Array fh)(n:Nat)(I:Option fe)(Z:Array (Option fh))(C : ¬(decide (a < -(2 ^ 63)) || decide (a>=2 ^ 63))=eA)(J : ¬(items.isEmpty || a==1)=eA)
 (O : ¬(decide (a<=0) || items.isEmpty)=eA) (U : ¬((items.size:Int)*a>(2 ^ 63 - 1)/8)) (Y : ¬Builtin.Tuple.tupleTooMany ((items.size:Int)*a)=eA) (S:((Ml a.toNat items).foldl (· ++ ·) #[]).size<=hB) :
 F0 (rn.«tuple.__mul__» ⟨[.ref l,.int a t],[]⟩) (λ_ R s=>s.heap.get? l=ej {cls:= .type "tuple",dict:=I,data:= .seq items n,slots:=Z}/\
  R (.ok (.ret (.ref s.heap.objs.size))) {s with heap:=s.heap.push {cls:= .type "tuple",data:= .seq ((Ml a.toNat items).foldl (· ++ ·) #[])}}):=
 .of_wp λb w A R s h=>by
  obtain⟨e,g,d,f,os⟩:=s;obtain⟨z,h⟩:=h
  wp_walk using Oz z
  rw[UY C];refine Md<|Sw (s:=⟨e,g,d,f,os⟩) ⟨_,z,rfl,n,rfl⟩ ?_;dsimp only;rw[UY J,UY O,UY U,UY Y];refine Md (m:=Oh _)<|Oa ?_ S;exact Mq ⟨_,rfl,h⟩
theorem XE(a:Int)(t:tw)(l:fe)(items:Array fh)(n:Nat)(I:Option fe)(S:Array (Option fh))(C : ¬(decide (a < -(2 ^ 63)) || decide (a>=2 ^ 63))=eA)(J : ¬(items.isEmpty || a==1)=eA)
 (O:(decide (a<=0) || items.isEmpty)=eA) :
 F0 (rn.«tuple.__mul__» ⟨[.ref l,.int a t],[]⟩) (λ_ R s=>s.heap.get? l=ej {cls:= .type "tuple",dict:=I,data:= .seq items n,slots:=S}/\
  R (.ok (.ret (.ref s.heap.objs.size))) {s with heap:=s.heap.push {cls:= .type "tuple",data:= .seq #[]}}):=
 .of_wp λb w A R s h=>by
  obtain⟨U,g,d,Y,os⟩:=s;obtain⟨z,h⟩:=h
  wp_walk using Oz z
  rw[UY C];refine Md<|Sw (s:=⟨U,g,d,Y,os⟩) ⟨_,z,rfl,n,rfl⟩ ?_;dsimp only;rw[UY J,UJ O];refine Md (m:=Oh _)<|Oa ?_ (Ny _);exact Mq ⟨_,rfl,h⟩
theorem XD(a:Int)(t:tw)(l:fe)(items:Array fh)(n:Nat)(I:Option fe)(S:Array (Option fh))(C : ¬(decide (a < -(2 ^ 63)) || decide (a>=2 ^ 63))=eA)(J:(items.isEmpty || a==1)=eA) :
 F0 (rn.«tuple.__mul__» ⟨[.ref l,.int a t],[]⟩) (λ_ R s=>s.heap.get? l=ej {cls:= .type "tuple",dict:=I,data:= .seq items n,slots:=S}/\R (.ok (.ret (.ref l))) s):=
 .of_wp λb w A R s h=>by
  obtain⟨O,g,d,U,os⟩:=s;obtain⟨z,h⟩:=h
  wp_walk using Oz z
  rw[UY C];refine Md (Sw (s:=⟨O,g,d,U,os⟩) ⟨_,z,rfl,n,rfl⟩ ?_);dsimp only;rw[UJ J];refine Md (m:=OR _) ?_;unfold OR;refine Md (RZ (T:="tuple") ⟨_,z,rfl⟩ (Mq ?_));rw[UJ ⋯];exact Md (PU (Mq ⟨_,rfl,h⟩))
section
variable{X:Cx}
noncomputable def Bp(K:Mf):R2:=λx y H Q=>∃l k a,x = .ref l/\y = .int k/\i5 K H l a/\ -(2 ^ 62)<=k/\k<2 ^ 62/\a.length*k.toNat<=hB/\(a=[]\/k=1->Q (.ref l) H)/\
 ∀p,H p=eF->Q (.ref p) (upd H p<|.tup (Ml k.toNat a).flatten)
theorem ui:k5 X (B7 .Mult) (Bp X.K):=by
 intro E s σ H x y v u Q I Z ry h;obtain⟨l,k,J,rfl,rfl,P,h1,h2,C,W,G⟩:=h;cases Z;obtain⟨t,rfl⟩:=ry;obtain⟨z,r,R,z1⟩:=I.tuple P;obtain⟨⟨N,a,j,b⟩,O,w,n,A⟩:=id R;simp only at w A;subst w A;have L:=r.length;have g1 : ¬(decide (k < -(2 ^ 63)) || decide (k>=2 ^ 63))=eA:=by simp;omega
 refine _Y (T:="tuple") (U:="int") ⋯ ⟨_,O,rfl⟩ (λs'=>Tr s' k t) Jq F.fills_int_mul SF Y0 F.slot_int_index.lookup
  (Ro SF (Tr s k t) F.entry_int_rmul (F.args_int_rmul_2 _ _) (XO k t l z.toArray n a b) ⟨O,rfl,⟨_,O,rfl⟩,?_⟩)
 have p : ∀m:Nat,Tb (λx1 i=>x1++i) #[] (Ml m z.toArray)=(Ml m z).flatten.toArray:=λm=>by have:=Xg z m [];rw[OX]at this;exact this
 by_cases g2:(z.toArray.isEmpty || k==1)=eA
 ·refine Ro Ru ⟨_,O,rfl⟩ To (Th _ _) (XD k t l z.toArray n a b g1 g2) ⟨O,⟨.ref l,H,I,rfl,W ?_⟩⟩
  rw[NW]at g2;rcases g2 with g | g
  ·left
   have:z=[]:=by simpa using g
   exact(r.P5).mp this
  ·right;simpa using g
 ·have d:=g2
  simp only[NW,not_or]at d;have as:z ≠ []:=by intro e;exact d.1 (by rw[e];rfl)
  have b6:0<z.length:=List.length_pos_iff.mpr as;by_cases Y:(decide (k<=0) || z.toArray.isEmpty)=eA
  ·have B:k.toNat=0:=by
    rw[NW]at Y;rcases Y with g | g
    ·have:=of_decide_eq_true g;omega
    ·exact absurd g d.1
   refine Ro Ru ⟨_,O,rfl⟩ To (Th _ _) (XE k t l z.toArray n a b g1 g2 Y) ⟨O,?_⟩;refine⟨.ref s.heap.objs.size,_,I.laid (t':=s.toks) (o:= .tup (Ml k.toNat J).flatten) (λc S q=>Mh _ q) (Mp _) ?_,rfl,G _<|I.g5.fresh<|Mp _⟩;rw[B];exact⟨Ny _,[],.nil,C8.new _ _⟩
  ·have B : ¬k<=0:=by intro g;exact Y (by rw[NW];exact .inl<|decide_eq_true g)
   have f:z.length*k.toNat<=hB:=by rw[<- L];exact C
   have b7:((z.toArray.size:Nat):Int)*k<=(hB:Int):=by
    rw[Mw];have e:((z.length*k.toNat:Nat):Int)=(z.length:Int)*k:=by rw[Int.natCast_mul,PD ⋯]
    omega
   have b8:hB=16777216:=Pk;have M:(Tb (λx1 i=>x1++i) #[] (Ml k.toNat z.toArray)).size<=hB:=by rw[p,Mw,WE,Sx];exact f
   refine Ro Ru ⟨_,O,rfl⟩ To (Th _ _) (KL k t l z.toArray n a b g1 g2 Y ⋯ (by unfold Builtin.Tuple.tupleTooMany;simp only[decide_eq_true_eq];omega) M) ⟨O,?_⟩;rw[p];refine⟨.ref s.heap.objs.size,_,I.laid (t':=s.toks) (o:= .tup (Ml k.toNat J).flatten) (λc S q=>Mh _ q) (Mp _) ?_,rfl,G _<|I.g5.fresh<|Mp _⟩;exact⟨by rw[WE,Sx];exact C,_,r.rep k.toNat,C8.new _ _⟩
theorem sL{K:Mf}:o8 K (λx y H Q=>rI FG (λi j=> .int (i*j)) x y H Q\/Bp K x y H Q) xJ:=λh H x y k l d Q s O U z q=>by
 cases k<;>cases l<;>simp[xJ]at z
 ·obtain⟨m,I⟩:=z
  subst I;exact .inl ⟨_,_,jx O,jx U,ph m,q _ H h (Ext.refl s) rfl⟩
 ·rename_i f j
  obtain⟨⟨o,n⟩,rfl⟩:=z;obtain⟨a,u,rfl,g,b⟩:=yf O;obtain⟨r,t⟩:=Xd n;refine .inr ⟨a,j,u,rfl,jx U,p8 s g,r,t,yR (by rw[b.length];exact o),λe=>?_,λp Y=>?_⟩
  ·refine q _ H h (Ext.refl s) ?_
   rcases e with e | e
   ·have I:f=[]:=by
     have:=b.length;rw[e]at this;exact Nk this.symm
    subst I;rw[show(Ml j.toNat ([]:List D)).flatten=[]by simp];exact xK g b
   ·subst e
    rw[show(Ml (1:Int).toNat f).flatten=f by simp];exact xK g b
  ·exact q _ _ _ (Ext.alloc s Y _)<|xK (i5.of zQ)<|(KY b _).mono (js (jH s Y) _)
theorem qS(C:PV X a fa)(z:PV X b fb):PV X (.BinOp a .Mult b pos) (zy xJ fa fb):=Kb (_H.or ui) sL C z
end
end DL
namespace DL
open PySem PySem.Spec PyProof.Rows L2
theorem RC._A{K:Mf}{H0 H:Hp}{S:St}{γ:Ctx}{i:Nat}{ds:List D}{a:fe}{xs:List V}(r:RC K H0 H S γ)(e:γ[i]? = ej (.own ds))(J:S[i]? = ej (ej (.ref a)))(C:H0 a=eF)(Z:H a=ej (.lst xs))(h4:ft K H0 ds xs):RC K (L2.upd H0 a<|.lst xs) H S (γ.set i<|.val<|.lst ds):=by
 refine⟨λb o q=>?_,by simp[r.len],λj d g=>?_,λj l g=>?_,λj k b l fs f I t u=>?_,⟨λj h g=>?_,λj k x y f I=>?_⟩⟩
 ·by_cases z:b=a
  ·subst z;rw[zQ]at q;rw[Z];exact q
  ·rw[zL z]at q;exact r.sub b o q
 ·rcases zE g with⟨rfl,z,E⟩ | ⟨U,z⟩
  ·cases z;exact⟨_,J,QD (h9.of zQ)<|h4.mono<|js C _⟩
  ·obtain⟨v,Y,g2⟩:=r.val j d z
   exact⟨v,Y,g2.mono<|js C _⟩
 ·rcases zE g with⟨_,z,_⟩ | ⟨U,z⟩
  ·cases z
  ·obtain⟨b,A,Y,g2,g3,w⟩:=r.own j l z
   refine⟨b,A,Y,?_,g3,w.mono<|js C _⟩;rw[zL (λq=>U<|r.ne j i a l ds z e (by rw[Y,q]) J)];exact g2
 ·rcases zE f with⟨_,z,_⟩ | ⟨U,O⟩
  ·cases z
  ·rcases zE I with⟨_,z,_⟩ | ⟨B,n⟩
   ·cases z
   ·exact r.ne j k b l fs O n t u
 ·rcases zE g with⟨_,z,_⟩ | ⟨U,z⟩
  ·cases z
  ·obtain⟨b,bs,f1,f2,p⟩:=r.n0.1 j h z
   have s:=p i ds a e J;refine⟨b,bs,f1,f2.move (js C _) (λc m=>by rw[zL (λq=>s<|by rw[<- q];exact m)];exact(f2.at m).1)<|λc m=>rfl,λk fs c f I=>?_⟩;rcases zE f with⟨_,z,_⟩ | ⟨_,O⟩
   ·cases z
   ·exact p k fs c O I
 ·rcases zE f with⟨_,z,_⟩ | ⟨_,O⟩
  ·cases z
  ·rcases zE I with⟨_,z,_⟩ | ⟨_,n⟩
   ·cases z
   ·exact r.n0.2 j k x y O n
end DL
namespace L2
open PySem PySem.Spec PyProof.Rows
open AutoSeq1 (wpAny_loadPart')
section
variable{prog:l6}{w:i8}{A:o6}{E:EQ}{s:f6}
theorem dN{z it l:fe}{n:Nat}{xs:Array fh}{x U:fh}{Q:EQ}(J:B1 s.heap z it n U)(Z:lp .T s.heap it l n)(hl:m5 .T s.heap l xs)(hx:xs[n]? = ej x)(C:z≠it)
 (hQ : ∀g,Tw g z it ((n:Int)+1) x s.heap.objs.size->lp .T g it l (n+1)->rp g s.heap.objs.size (.int n s.toks) x->g.objs.size=s.heap.objs.size+1->
   (∀c o,c≠z->c≠it->s.heap.get? c=ej o->g.get? c=ej o)->Q (.ref s.heap.objs.size) {s with heap:=g,toks:=s.toks+1}) :
 wpAny (f7 prog w) A (rn.«enumerate.__next__» ⟨[.ref z],[]⟩) (λS s'=>∃v,S = .done (.ret v)/\Q v s') E s:=by
 refine Md (m:=field (.ref z) 2) (Ni J rfl (x:= .ref it) rfl ?_);refine Md (m:=MC (.ref it)) (xB Z hl hx λg1 H f=>?_);have h:B1 g1 z it n U:=f.extBut _ _ C J;refine Md (m:=field (.ref z) 3) (Ni h rfl (x:=Dh n) rfl ?_);refine Md (m:=field (.ref z) 4) (Ni h rfl (x:= .none) rfl ?_);refine Md (m:=mkInt n) (wpAny_mkInt ?_);refine Md (m:=UI (.ref z) 3 (Dh ((n:Int)+1))) (Np h ⋯ λg2 nr i=>?_);replace nr:B1 g2 z it ((n:Int)+1) U:=nr;refine Md (m:=UI (.ref z) 4 .none) (Np nr ⋯ λY j k=>?_);replace j:B1 Y z it ((n:Int)+1) U:=j;refine Md (m:=z_ [.int n s.toks,x]) (Sd ?_);have d:B1 (Y.push {cls:= .type "tuple",data:= .seq #[.int n s.toks,x]}) z it ((n:Int)+1) U:=Mh _ j;generalize a3:Y.push {cls:= .type "tuple",data:= .seq #[.int n s.toks,x]}=O at d;have W:g1.objs.size=s.heap.objs.size:=f.1;have X:g2.objs.size=g1.objs.size:=i.1;have y3:Y.objs.size=g2.objs.size:=k.1;have a:Y.objs.size=s.heap.objs.size:=by rw[y3,X,W]
 have K:z<s.heap.objs.size:=MB J;have L:rp O s.heap.objs.size (.int n s.toks) x:=by show O.get? _=_;rw[<- a3,<- a];exact Mz _ rfl
 have y4:O.objs.size=s.heap.objs.size+1:=by rw[<- a3,MX,a]
 have bm : ∀c o,c≠z->c≠it->s.heap.get? c=ej o->O.get? c=ej o:=λc o I t e=>by rw[<- a3];exact Mh _<|k.extBut _ _ I<|i.extBut _ _ I<|f.extBut _ _ t e
 have M:lp .T O it l (n+1):=H.at λo e=>by rw[<- a3];exact Mh _<|k.extBut _ _ C.symm<|i.extBut _ _ C.symm e
 refine Md (m:=MQ<|.ref z) ?_;unfold MQ;refine Md<|Ni d rfl (x:= .none) rfl<|Mq ?_;simp only[if_true];refine Md<|PU<|Md<|Ni d rfl (x:=U) rfl ?_;refine Md<|Np d ⋯ λu p B=>?_;replace p:B1 u z it ((n:Int)+1) x:=p;rw[a];refine Md (m:=NC (.ref z)<|.ref s.heap.objs.size) ?_;unfold NC;refine Md<|Np p ⋯ λg6 r F=>?_;replace r:Tw g6 z it ((n:Int)+1) x s.heap.objs.size:=r;refine Np r ⋯ λb as G=>?_;replace as:Tw b z it ((n:Int)+1) x s.heap.objs.size:=as;have y : ∀c o,c≠z->O.get? c=ej o->b.get? c=ej o:=λc o I e=>G.extBut _ _ I<|F.extBut _ _ I<|B.extBut _ _ I e;have y7:b.objs.size=s.heap.objs.size+1:=by have N:u.objs.size=O.objs.size:=B.1;have P:g6.objs.size=u.objs.size:=F.1;have R:b.objs.size=g6.objs.size:=G.1;rw[R,P,N,y4]
 exact Md<|Pj<|Mq ⟨_,rfl,hQ b as (M.at λo e=>y _ o C.symm e) (y _ _ (Ob K) L) y7 λc o I t e=>y c o I<|bm c o I t e⟩
theorem iQ{z it l:fe}{n:Nat}{xs:Array fh}{I:fh}{Q:Fin->f6->Prop}(O:A.handled=eF)(U:B1 s.heap z it n I)(C:lp .T s.heap it l n)(Y:m5 .T s.heap l xs)(hx:xs[n]? = eF)
 (J : ∀g e,Heap.ExtBut it s.heap g->(∃o,g.get? e=ej o/\o.cls = .type "StopIteration")->E (.ref e) {s with heap:=g}) :
 wpAny (f7 prog w) A (rn.«enumerate.__next__» ⟨[.ref z],[]⟩) Q E s:=
 Md (m:=field (.ref z) 2) (Ni U rfl (x:= .ref it) rfl<|Md (m:=MC<|.ref it)<|vT O C Y hx J)
end
noncomputable def uP(i:fe):pa:={cls:= .type "enumerate",data:= .fields #[.none,.bool eK,.ref i,Dh 0,.none,.none]}
def Xk(h:gB)(l:fe):gB:=MG (MG h<|i9 .T l)<|uP h.objs.size
theorem iP(l:fe)(xs:Array fh) :
 F0 (rn.«enumerate.__new__» ⟨[.type "enumerate",.ref l],[]⟩) (λ_ R s=>m5 .T s.heap l xs/\R (.ok (.ret (.ref (s.heap.objs.size+1)))) {s with heap:=Xk s.heap l}):=
 .of_wp λb w A R s h=>by
  obtain⟨U,g,d,Y,os⟩:=s;obtain⟨f,h⟩:=h;have i:=sub_enumerate;have z:Heap.IsTuple (RV ⟨U,g,d,Y,os⟩) l xs:=f;obtain⟨o,I,O,m,a⟩:=id z;obtain⟨e,ni,j,k⟩:=o;simp only at O a;subst O a;simp only[Xk,uP,i9,MX]at h
  wp_walk using Oz I
  refine wpAny_stack_any λst=>Mq ?_;split
  ·rename_i c _ _ _ _ _
   cases (c==Py "enumerate")<;>(wp_walk using Oz I,Sa z;exact⟨_,rfl,by simpa[MX,RH]using h⟩)
  ·wp_walk using Oz I,Sa z
   exact⟨_,rfl,by simpa[MX,RH]using h⟩
noncomputable def Tx(K:Mf)(a:fe):It:=
 ⟨λi H=>∃b,l7 .T K H a b/\i<b.length,
  λi H x d=>∃p u,x = .ref p/\H p=eF/\d=upd H p (.tup [.int i,u])/\(∀b,l7 .T K H a b->b[i]? = ej u),
  λi H=>∃b,l7 .T K H a b/\b.length<=i⟩
theorem yx(U:B1 s.heap z it n old)(h:Q (.ref z) s):wpAny (f7 prog w) A (R3 (.ref z)) Q E s:=by have I:s.TypeIs (.ref z) "enumerate":=⟨_,U,rfl⟩;refine wpAny_pyIter_slot I F.slot_enumerate_iter (NZ F.slot_enumerate_iter I F.entry_enumerate_iter ?_ (F.args_enumerate_iter_1 _));have O:wpAny (f7 prog w) A.in1 (ret (.ref z)) (λO a=>∃v,O = .done (.ret v)/\∃T m,a.TypeIs v T/\S6 (.type T) "__next__" = pure (ej m)/\Q v a) E s:=Mq ⟨_,rfl,"enumerate",_,I,O6.lookup,h⟩;exact O
theorem eP{P:l6}{w:i8}{K:Mf}{elts:List fA}{x1:Nat}{u6:h8}{z it a:fe}(ar:z≠it) :
 Turn P w K (.Tuple elts x1 u6) (Tx K a) [z,it] z (λi h=>(∃a0,B1 h z it i a0)/\lp .T h it a i) where
 mem:=by simp
 obj:=λi h ⟨⟨a0,O⟩,h1⟩ y hy=>by
  simp only[Mu,ML,or_false]at hy;rcases hy with rfl | rfl
  ·exact⟨_,O,λv q=>by cases q⟩
  ·exact h1.obj
 keep:=λi h h' ⟨⟨a0,O⟩,h1⟩ k=>⟨⟨a0,k z ⋯ _ O⟩,h1.at λo e=>k it ⋯ o e⟩
 item:=by
  rintro X hP hw hK hc i pins s σ H E I hf ⟨⟨a0,O⟩,h1⟩ ⟨xs,a8,b0⟩;subst hP hw hK;obtain⟨b5,am,p1,z1⟩:=I.sq a8;have hx:xs[i]? = ej xs[i]:=Mi b0;obtain⟨u1,b7,b8⟩:=am.get hx;have hT:s.TypeIs (.ref z) "enumerate":=⟨_,O,rfl⟩;unfold DV;refine Md (Rf (NF (name:=Nj "__next__") hT O6 (NZ O6 hT F.entry_enumerate_next
   (dN O h1 p1 (x:=u1) (by simpa using b7) ar λg a1 a2 a3 a4 a5=>Mq ⟨_,rfl,?_⟩) (F.args_enumerate_next_1 _))))
  refine b? a1 λg2 nr ap=>?_;have lt : ∀{c o},s.heap.get? c=ej o->s.heap.objs.size≠c:=λe=>Ob<|MB e;have bf:rp g2 s.heap.objs.size (.int i s.toks) u1:=ap.extBut _ _ (lt O) a3;have kk : ∀Y u,Y ∉ [z,it]->s.heap.get? Y=ej u->g2.get? Y=ej u:=λY u U e=>by simp only[Mu,ML,or_false,not_or]at U;exact ap.extBut _ _ U.1<|a5 Y u U.1 U.2 e
  have I1:Inv X pins σ (upd H s.heap.objs.size<|.tup [.int i,xs[i]]) {s with heap:=g2,toks:=s.toks+1}:=
   I.S4 (fp:=[z,it]) kk hf (Mp _) ⟨by show 2<=hB;decide,[.int i s.toks,u1],.cons ⟨_,rfl⟩<|.cons b8 .nil,⟨_,bf,rfl,_,rfl⟩⟩
  have bi:H s.heap.objs.size=eF:=I.fresh;refine⟨.ref s.heap.objs.size,_,I1,rfl,⟨_,_,rfl,bi,rfl,λc2 bl=>by rw[I.Ht bl a8];exact hx⟩,?_,λY U=>?_⟩
  ·exact⟨⟨_,by have:=nr;rwa [show((i:Int)+1)=((i+1:Nat):Int)by omega]at this⟩,a2.at λo e=>ap.extBut _ _ ar.symm e⟩
  ·have bm:Y≠s.heap.objs.size:=by
    simp only[Mu,ML,or_false]at U;rcases U with rfl | rfl
    ·exact(lt O).symm
    ·obtain⟨o,e,_⟩:=h1.obj;exact(lt e).symm
   rw[zL bm];exact(hf Y U).1
 done:=by
  rintro X hP hw hK hc i pins s σ H E I hf ⟨⟨a0,O⟩,h1⟩ ⟨xs,a8,hi⟩;subst hP hw hK;obtain⟨b5,am,p1,z1⟩:=I.sq a8;have hT:s.TypeIs (.ref z) "enumerate":=⟨_,O,rfl⟩;have l1:=am.length;unfold DV;refine Md (Rf (NF (name:=Nj "__next__") hT O6 (NZ O6 hT F.entry_enumerate_next
   (iQ (show X.A.handled=eF from I.ok.hd hc) O h1 p1 (by simp;omega) λg e hk he=>?_) (F.args_enumerate_next_1 _))))
  obtain⟨o,ho,c0⟩:=he;refine Md (Tu (T:="StopIteration") (b:=eA) ⟨o,ho,c0⟩ o_ (Mq ⟨rfl,?_⟩));refine I.Dk (t':=s.toks) (fp:=[z,it]) (λY u U e=>?_) hf;simp only[Mu,ML,or_false,not_or]at U;exact hk Y u U.2 e
 self:=λ_ _ _ _ _ st h=>yx st.1.choose_spec h
noncomputable def GR(K:Mf)(C:TA):TI:=λf H R=>C f H λd b=>∃a,d=[.ref a]/\(∃e,l7 .T K b a e)/\R (Tx K a) b
theorem ub{X:Cx}{S:fA}{Z:TA}{p pos:h8}{C:List fA}{x1:Nat}{J:h8}(hg:Gl X "enumerate")(hm:X.mg "enumerate" = eF)(ha:PA X [S] Z)
 (hv:Dd "enumerate" = ej (.type "enumerate")) (hs:g8 [S] X.env=[(eK,fy S X.env)]:=by rfl) :
 PI X (.Tuple C x1 J) (.Call (.Name "enumerate" p) [S] [] pos) (GR X.K Z):=by
 intro d s i H R I h;refine D4<|kj I hg hm hv<|Nr (gu (ha pos d s i H _ I h) λA b r=>?_) (by rw[hs];rfl) rfl;obtain⟨B,f,z,u,t⟩:=r;obtain⟨a,e,⟨G,k⟩,q⟩:=t;subst e;obtain⟨E,n,l⟩:=vg u;subst n;cases l;obtain⟨m,x,U,L⟩:=z.sq k;have y:=U.lt;refine g_ F.called_enumerate ⋯ (F.typeCall_enumerate_1 _) (F.newCall_enumerate_1 _) (λobj=>F.args_object_init_2 obj _) F.entry_enumerate_new (iP a m.toArray) ⟨U,?_⟩;have keep : ∀c o,b.heap.get? c=ej o->(Xk b.heap a).get? c=ej o:=λc o e=>Mh _<|Mh _ e;have w:(MG b.heap<|i9 .T a).objs.size=b.heap.objs.size+1:=MX ..;have g0:lp .T (Xk b.heap a) b.heap.objs.size a 0:=(Zl .T b.heap a).at λo e=>Mh _ e;have O:B1 (Xk b.heap a) (b.heap.objs.size+1) b.heap.objs.size 0 .none:=by have q:=Mz (MG b.heap<|i9 .T a) (o:=uP b.heap.objs.size) rfl;rw[w]at q;exact q
 refine⟨⟨_,O,rfl⟩,yx (s:={b with heap:=Xk b.heap a}) O ?_⟩;have j:Inv X d i f {b with heap:=Xk b.heap a,toks:=b.toks}:=z.kept keep;refine⟨_,[b.heap.objs.size+1,b.heap.objs.size],_,_,f,rfl,j,eP<|Ob<|Og _,⟨⟨_,O⟩,g0⟩,λc Y=>?_,q⟩;have g:b.heap.objs.size<=c:=by
  simp only[Mu,ML,or_false]at Y;rcases Y with rfl | rfl
  ·exact MS _ _
  ·exact Mp _
 exact z.C1 g<|z.g5.fresh g
end L2
namespace DL
open PySem PySem.Spec PyProof.Rows L2
theorem VA{K:Mf}{H:Hp} : ∀{ds:List D} {xs:List V} {l:List Int},ft K H ds xs->Yc ds=ej l->xs=l.map V.int
 | [],xs,l,r,e=>by cases e;rw[show xs=[]from r];rfl
 | d::ds,xs,l,r,e=>by
  obtain⟨x,g,rfl,z,b⟩:=(show ∃x r,xs=x::r/\Rep K H d x/\ft K H ds r from r);cases d with
  | int i=>
   obtain⟨f,a,rfl⟩:=zB (show(Yc ds).map (λl=>i::l)=ej l from e);rw[VA b a,show x = .int i from z];rfl
  | _=>cases e
theorem VJ : ∀l:List Int,(l.map V.int).all XR=eA
 | []=>rfl
 | i::l=>by simp only[MT,Rq,VJ l,Rt];rfl
theorem iD(i:Int) : ∀l:List Int,G4 (.int i) (l.map V.int)=decide (i∈l)
 | []=>rfl
 | j::l=>by
  have z:=iD i l;unfold G4 at z ⊢;rw[MT,PN,z];have e:Dx (.int j) (.int i)=(j==i):=rfl;rw[e];by_cases h:i=j
  ·subst h
   rw[beq_self_eq_true,Bool.true_or];exact(decide_eq_true Mx).symm
  ·rw[beq_false_of_ne (MV h),Bool.false_or]
   exact decide_eq_decide.mpr ⟨λq=>Ms _ q,λq=>(Mu.mp q).resolve_left h⟩
theorem eB{K:Mf}{H0 C:Hp}{a:fe}{xs:List V}{ds:List D}(h:i5 K C a xs)(r:ft K H0 ds xs):Walk K H0 C (Tx K a) (qF ds):=by
 have n:=r.length;have o:(qF ds).length=ds.length:=by simp[qF]
 refine⟨λi b s l=>?_,λb s=>?_,λi b x g s l y=>?_⟩
 ·exact⟨xs,p8 s h,by omega⟩
 ·exact⟨xs,p8 s h,by omega⟩
 ·obtain⟨p,u,j,z,I,O⟩:=y
  obtain⟨d,k,U⟩:=r.Dg<|O xs<|p8 s h;refine⟨.tup [.int i,d],?_,λf m e=>⟨upd f p<|.tup [.int i,u],?_,?_⟩⟩
  ·have Y:i<ds.length:=by omega
   unfold qF;rw[Nf,Ry Y,Mr,k];rfl
  ·rw[I];exact Ext.alloc e z _
  ·rw[j]
   exact xK (i5.of zQ)<|ft.cons (show V.int i = .int i from rfl)<|ft.cons ((U.mono m).mono (js (jH e z) _)) ft.nil
section
variable{X:Cx}{sc:jn}{N L:List Str}{k:Nat}{a b c:fA}{pos p:h8}{f fa fb fc:CO D}
theorem Ki(h:SX X sc N L k)(c:yj sc "enumerate" = eA)(z:X.mg "enumerate" = eF)(C:PV X a f)(O:g8 [a] X.env=[(eK,fy a X.env)]:=by rfl) :
 ji X (.Tuple elts x1 u6) (.Call (.Name "enumerate" p) [a] [] pos) (XF f):=
 QJ (ub (h.gl c).1 z (jT C q8 O) e_ O) λs H R Y=>by
  obtain⟨g,m,n,rc,I,q⟩:=Y;obtain⟨d,j,I⟩:=ze I;cases d with
  | tup o=>
   cases I;refine⟨g,m,_,rc,j,λv e b x r=>?_⟩;obtain⟨i,l,rfl,U,g2⟩:=yf r;exact⟨i,rfl,⟨l,p8 x.sub U⟩,q _ e b x<|eB U g2⟩
  | _=>cases I
theorem K0(ho:k5 X (oe op) r)(C:k5 X (oe M8) r')(s1:o8 X.K r F)(s2:o8 X.K r' G)(S:PV X a fa)(Z:PV X b fb)(hc:PV X c fc)
 (hm:M1 [op,M8] [b,c]=eK:=by with_unfolding_all rfl):PV X (.Compare a [op,M8] [b,c] pos) (kX F G fa fb fc):=
 qE (nH ho C S Z hc hm) λσ H Q M=>by
  obtain⟨j,e,d,rc,I,q⟩:=M;obtain⟨x,w,I⟩:=ze I;obtain⟨y,A,I⟩:=ze I;obtain⟨k,B,I⟩:=ze I;obtain⟨Y,E,g⟩:=ze B;refine⟨j,e,x,rc,w,λW H1 p x1 N=>⟨p,e,y,rc.ext x1,A,λi l s O h=>s1 s l W i x y Y _ O.sub (N.mono O.s0) h E λv3 m f x3 P=>?_⟩⟩;cases Y with
  | bl k'=>
   cases g;refine⟨k,show v3 = .bl k from P,?_⟩;cases k with
   | true=>
    rw[UJ rfl];rw[UJ rfl]at I;obtain⟨z,J,L⟩:=ze I;exact⟨f,e,z,((rc.ext x1).ext O).ext x3,J,λv4 n t U R=>s2 t n i v4 y z d _ U.sub ((h.mono x3.s0).mono U.s0) R L λv5 o u x5 T=>q v5 o u (((x1.trans O).trans x3).trans (U.trans x5)) T⟩
   | false=>
    rw[UY ⋯];rw[UY ⋯]at I;cases I;exact q _ m f ((x1.trans O).trans x3) rfl
  | _=>cases g
end
theorem wQ : ∀{l:List Int} {us:List fh},gv (l.map V.int) us->∀i,i<us.toArray.size->∃z u,us.toArray[i]? = ej (.int z u)/\l[i]? = ej z
 | [],us,r,i,hi=>by cases r;exact absurd hi<|MU _
 | z::l,u::us,.cons r t,i,hi=>by
  cases i with
  | zero=>
   obtain⟨I,rfl⟩:=r;exact⟨z,I,by simp,by simp⟩
  | succ i=>
   obtain⟨O,U,a,Y⟩:=wQ t i (by simpa using hi);exact⟨O,U,by simpa using a,by simpa using Y⟩
theorem yV(h:k9 o=ej rows):o=ej (.nest rows):=by
 cases o with
 | none=>cases h
 | some c=>cases c<;>first | cases h;rfl | cases h
noncomputable def tN(K:Mf)(f:CO (List<|List D)):TE:=λj H Q=>∃h i d,RC K h H j i/\f i=ej d/\
 ∀a bs g e,Ext h H e g->(∀b∈a::bs,H b=eF)->t8 K e g d a bs->Q (.ref a) g
noncomputable def B4(K:Mf)(H0 H:Hp)(C:List (List D))(bs:List fe):Prop:=bs.length=C.length/\∀(k:Nat) b row,bs[k]? = ej b->C[k]? = ej row->H0 b=eF/\∃a,H b=ej (.lst a)/\ft K H0 row a
theorem B4.at{K:Mf}{H0 H:Hp}{C:List (List D)}{bs:List fe}(n:B4 K H0 H C bs){b:fe}(O:b∈bs):H0 b=eF/\∃xs,H b=ej (.lst xs):=by obtain⟨k,z⟩:=U9 O;have I:=(Mv.mp z).1;rw[n.1]at I;obtain⟨a,xs,d,_⟩:=n.2 k b _ z<|Mi I;exact⟨a,xs,d⟩
theorem B4.ext{K:Mf}{H0 H J H':Hp}{C:List (List D)}{bs:List fe}(n:B4 K H0 H C bs)(e:Ext H0 H J H'):B4 K J H' C bs:=
 ⟨n.1,λk b row a d=>by obtain⟨z,f,g2,I⟩:=n.2 k b row a d;exact⟨e.new b z (by rw[g2];simp),f,e.s1 _ _ g2,I.mono e.s0⟩⟩
theorem B4.add{K:Mf}{H0 H:Hp}{C:List (List D)}{bs:List fe}{b:fe}{row:List D}{xs:List V}(n:B4 K H0 H C bs)(J:H0 b=eF)(S:H b=ej (.lst xs))(U:ft K H0 row xs):B4 K H0 H (C++[row]) (bs++[b]):=
 ⟨by simp[n.1],λk c r a I=>by
  rcases MK k bs.length with z | z
  ·rw[ND z]at a
   rw[ND (by rw[<- n.1];exact z)]at I;exact n.2 k c r a I
  ·rw[Nm z]at a
   rw[Nm (by rw[<- n.1];exact z)]at I;have O:k - bs.length=0:=by have:=(Mv.mp a).1;simp at this;omega
   rw[O]at a;rw[<- n.1,O]at I;cases a;cases I;exact⟨J,xs,S,U⟩⟩
theorem B4.hide{K:Mf}{H0 H:Hp}{C:List (List D)}{bs:List fe}{z:fe}{o:HO}(n:B4 K H0 H C bs)(h:z∉bs):B4 K H0 (upd H z o) C bs:=
 ⟨n.1,λk b row a d=>by obtain⟨I,e,g2,O⟩:=n.2 k b row a d;exact⟨I,e,by rw[zL (λq=>h<|by rw[<- q];exact Nh a)];exact g2,O⟩⟩
section
variable{K:Mf}{own:List Str}{fr:List (Str×Nat)}{src:CO (List D)}{T:Tg}{f:CO (List D)}
theorem dQ(hT : ∀i∈T.idx,i<own.length){tt:TT}(c5 : ∀C H Q,tT K jb C H Q->tt C H Q) : ∀C H Q,tN K (Jc src T own.length (fr.map (·.2)) f) C H Q->eZ (UO K src) own fr (u5 K T) tt (tO K f) C H Q:=λC H Q hZ=>by
 obtain⟨H0,u,n,rc,s,q⟩:=hZ;obtain⟨a,e1,s⟩:=ze s;by_cases hl:a.length<=lim
 ·rw[UJ hl]at s
  refine⟨H0,u,a,rc,e1,λJ A an x1 wk D R=>?_⟩;have ar : ∀(i:Nat) F,(zZ own.length (fr.map (·.2)) u)[i]? ≠ ej (.own F):=λi F h=>by rcases qZ h with z | ⟨d',j,z,_⟩<;>cases z
  have as : ∀(i:Nat) F,(zZ own.length (fr.map (·.2)) u)[i]? ≠ ej (.nest F):=λi F h=>by rcases qZ h with z | ⟨d',j,z,_⟩<;>cases z
  have b8:an D=eF:=jH x1.sub R;have b9 : ∀c,A c=eF->H c=eF:=λc S=>by
   cases z:H c with
   | none=>rfl
   | some o=>rw[x1.s1 c o z]at S;cases S
  refine⟨λi m ys L l=>m=a.length - i/\i<=a.length/\ys.length<=i/\l D=ej (.lst ys)/\∃g bs X r2,ys=bs.map V.ref/\RC K g l L (zZ own.length (fr.map (·.2)) u)/\g D=eF/\Ext an A g l/\B4 K g l X bs/\(D::bs).Nodup/\(∀b∈bs,A b=eF)/\vB T f (zZ own.length (fr.map (·.2)) u) (a.drop i)=ej r2/\n=X++r2,
   ⟨_,rfl,Ny _,Mp _,zQ,an,[],[],n,rfl,((rc.ext x1).pull).upd b8 ar as,b8,Ext.hide x1.sub R _,⟨rfl,λk b row h=>by simp at h⟩,by simp,λb U=>by simp at U,s,rfl⟩,?_⟩
  rintro i m ys L l ⟨rfl,hi,hy,N,g,bs,X,r2,c7,ax,bb,t,P,nd,bd,I,rfl⟩;subst c7;refine⟨N,?_⟩;by_cases B:i<a.length
  ·refine .inr ⟨wk.go i l t.s1 B,?_,λx b0 y=>?_⟩
   ·have:=yR<|Mp lim;omega
   obtain⟨d,hd,hx⟩:=wk.C6 i l x b0 t.s1 B y;obtain⟨G0,O,rg⟩:=hx g t.s0 ax.sub;have c9:a.drop i=d::a.drop (i+1):=by
    have ca:d=a[i]:=by rw[Mi B]at hd;exact(Ng hd).symm
    rw[ca];exact OF B
   rw[c9]at I;simp only[vB]at I;obtain⟨p,eb,I⟩:=ze I;obtain⟨e,ee,I⟩:=ze I;obtain⟨yp,er,I⟩:=zB I;have ce:G0 D=eF:=O.new D bb (by rw[N];simp);have bf:b0 D=ej (.lst<|bs.map V.ref):=O.s1 _ _ N;obtain⟨bl,bg⟩:=VS eb;have E : ∀{M:St} {G2 H2:Hp},RC K G2 H2 M p->RC K G2 H2 M (zZ own.length (fr.map (·.2)) u):=λr=>r.weak bl.symm (λj d' hj=>by
    by_cases W:j∈T.idx
    ·rcases qZ hj with z | ⟨d2,j2,_,hn,_⟩
     ·cases z
     ·exact absurd (hT j W) ⋯
    ·rw[bg j W];exact hj) ar as
   refine Zp O.sub rg eb λS8 bn _=>c5 S8 b0 _ ⟨G0,p,eA,bn<|ax.ext O,rfl,λH3 bv x3=>?_⟩;have bx:=(bn<|ax.ext O).ext x3;have xa:=t.trans<|O.trans x3;have cj:bv D=eF:=x3.new D ce (by rw[bf];simp);have b5:H3 D=ej (.lst<|bs.map V.ref):=x3.s1 _ _ bf;dsimp only;rw[UJ rfl];refine⟨bv,p,e,bx,ee,λY d3 H4 c1 G g1 g2 g3 g4=>?_⟩;have b6:c1 D=eF:=G.new D cj (by rw[b5];simp);have cq:H4 D=ej (.lst<|bs.map V.ref):=G.s1 _ _ b5;have Z:=xa.trans G;have cr:=((P.ext O).ext x3).ext G;have cs:=(P.ext O).ext x3;have c2:D∉bs:=(Nq.mp nd).1;have c3:D≠Y:=λz=>by rw[<- z,b5]at g1;cases g1
   have ct:Y∉bs:=λW=>by obtain⟨_,d4,z⟩:=cs.at W;rw[g1]at z;cases z
   have cv:A Y=eF:=by
    cases z:A Y with
    | none=>rfl
    | some o=>rw[xa.s1 _ _ z]at g1;cases g1
   refine⟨cq,a.length - (i+1),by omega,rfl,B,by rw[NM,OY];omega,zQ,c1,bs++[Y],X++[e],yp,by simp,(E<|bx.ext G).upd b6 ar as,b6,?_,?_,?_,?_,er,?_⟩
   ·exact⟨Z.s0,λc o z=>by rw[zL (λw=>by rw[w,R]at z;cases z)];exact Z.s1 c o z,λc o z=>by rw[zL (λw=>by rw[w,b6]at z;cases z)];exact Z.sub c o z,Z.new⟩
   ·exact(cr.add g2 g3 g4).hide (by simp[c2,c3])
   ·refine Nq.mpr ⟨by simp[c2,c3],List.nodup_append.mpr ⟨(Nq.mp nd).2,by simp,λc S c' cy=>?_⟩⟩
    have:c'=Y:=by simpa using cy
    subst this;exact λz=>ct (by rw[<- z];exact S)
   ·intro b U
    rcases PL.mp U with z | z
    ·exact bd b z
    ·have:b=Y:=by simpa using z
     subst this;exact cv
   ·rw[<- I];simp
  ·have e:i=a.length:=by omega
   subst e;rw[Rn]at I;cases I;rw[OZ]at q;refine .inl ⟨wk.stop l t.s1,q D bs l g (x1.trans t) (λb U=>?_) ⟨bb,N,nd,P.1,P.2⟩⟩;rcases Mu.mp U with rfl | U
   ·exact b9 _ R
   ·exact b9 b<|bd b U
 ·rw[UY hl]at s;cases s
end
section
variable{K:Mf}{E0 E H0 H:Hp}{σ:St}{γ:Ctx}
theorem JQ(h:γ.any qm=eK)(i:Nat)(C:List (List D)):γ[i]? ≠ ej (.nest C):=λe=>by have a:Cell.nest C∈γ:=Nh e;have:=Td.mp h _ a;exact this rfl
theorem RS._N(r:RS K E0 E G0 G σ γ)(e:Ext G0 G H0 H)(J : ∀b∈a::bs,G b=eF)(n:t8 K H0 H rows a bs)(C:γ.any qm=eK) :
 RS K E0 E H0 H (σ.set i<|some (.ref a)) (γ.set i<|.nest rows):=by
 have rc:=r.rc.ext e;have x : ∀b∈a::bs,E b=eF:=λb m=>by
  cases q:E b with
  | none=>rfl
  | some o=>have:=J b m;rw[r.ext.s1 b o q]at this;cases this
 refine⟨⟨rc.sub,by simp[rc.len],λj A g=>?_,λj d g=>?_,λj k b d fs l f u w=>?_,⟨λj h g=>?_,λj k L M I g2=>?_⟩⟩,r.ext.trans e,λj d b I g2=>?_,λj h b Q I g2 O=>?_⟩
 ·rcases zE g with⟨_,z,_⟩ | ⟨U,z⟩
  ·cases z
  ·obtain⟨N,I,g2⟩:=rc.val j A z
   exact⟨N,by rw[Mo (MV U)];exact I,g2⟩
 ·rcases zE g with⟨_,z,_⟩ | ⟨U,z⟩
  ·cases z
  ·obtain⟨b,y,I,g2⟩:=rc.own j d z
   exact⟨b,y,by rw[Mo (MV U)];exact I,g2⟩
 ·rcases zE l with⟨_,z,_⟩ | ⟨U,Y⟩
  ·cases z
  ·rcases zE f with⟨_,z,_⟩ | ⟨p,t⟩
   ·cases z
   ·rw[Mo (MV U)]at u
    rw[Mo (MV p)]at w;exact rc.ne j k b d fs Y t u w
 ·rcases zE g with⟨rfl,z,s⟩ | ⟨U,z⟩
  ·cases z
   refine⟨a,bs,ME (by rw[rc.len];exact s),n,λk d c l f=>?_⟩;rcases zE l with⟨_,z,_⟩ | ⟨p,Y⟩
   ·cases z
   ·rw[Mo (MV p)]at f
    obtain⟨P,y,I,g2,O,_⟩:=r.rc.own k d Y;rw[f]at I;cases I;intro F;rw[J c F]at O;cases O
  ·exact absurd z<|JQ C j h
 ·rcases zE I with⟨rfl,_,_⟩ | ⟨_,Y⟩
  ·rcases zE g2 with⟨rfl,_,_⟩ | ⟨_,t⟩
   ·rfl
   ·exact absurd t<|JQ C k M
  ·exact absurd Y<|JQ C j L
 ·rcases zE I with⟨_,z,_⟩ | ⟨U,z⟩
  ·cases z
  ·rw[Mo (MV U)]at g2;exact r.fresh j d b z g2
 ·rcases zE I with⟨rfl,z,s⟩ | ⟨U,z⟩
  ·rw[ME (by rw[rc.len];exact s)]at g2;cases g2
   rw[n.ha]at O;injection O with O;injection O with O;subst O;refine⟨x a Mx,λb m=>?_⟩;obtain⟨c,B,q⟩:=MD.mp m;cases q;exact x b<|Ms _ B
  ·exact absurd z<|JQ C j h
theorem RS.forget(r:RS K E0 E H0 H σ γ):RS K E0 E H0 H (σ.set i v) (γ.set i .no):=by
 have Y : ∀{j:Nat} {e:List D} {b:fe},(γ.set i .no)[j]? = ej (.own e)->γ[j]? = ej (.own e)/\(σ.set i v)[j]? = σ[j]? :=λ{j e b} g=>by
  rcases zE g with⟨_,z,_⟩ | ⟨f,z⟩
  ·cases z
  ·exact⟨z,Mo<|MV f⟩
 have l : ∀{j:Nat} {d:List (List D)},(γ.set i .no)[j]? = ej (.nest d)->γ[j]? = ej (.nest d)/\(σ.set i v)[j]? = σ[j]? :=λ{j d} g=>by
  rcases zE g with⟨_,z,_⟩ | ⟨f,z⟩
  ·cases z
  ·exact⟨z,Mo<|MV f⟩
 refine⟨⟨r.rc.sub,by simp[r.rc.len],λj t g=>?_,λj e g=>?_,λj k b e fs m h p s=>?_,⟨λj d g=>?_,λj k y A U g2=>r.rc.n0.2 j k y A (l U).1 (l g2).1⟩⟩,r.ext,λj e b U g2=>?_,λj d b C U g2 g3=>?_⟩
 ·rcases zE g with⟨_,z,_⟩ | ⟨f,z⟩
  ·cases z
  ·obtain⟨B,U,g2⟩:=r.rc.val j t z
   exact⟨B,by rw[Mo (MV f)];exact U,g2⟩
 ·obtain⟨I,O⟩:=Y (b:=0) g
  rw[O];exact r.rc.own j e I
 ·obtain⟨I,O⟩:=Y (b:=0) m
  obtain⟨n,o⟩:=Y (b:=0) h;rw[O]at p;rw[o]at s;exact r.rc.ne j k b e fs I n p s
 ·obtain⟨I,O⟩:=l g
  obtain⟨a,bs,u,w,x⟩:=r.rc.n0.1 j d I;refine⟨a,bs,by rw[O];exact u,w,λk e c m h=>?_⟩;obtain⟨n,o⟩:=Y (b:=0) m;rw[o]at h;exact x k e c n h
 ·obtain⟨I,O⟩:=Y (b:=0) U
  rw[O]at g2;exact r.fresh j e b I g2
 ·obtain⟨I,O⟩:=l U
  rw[O]at g2;exact r.A7 j d b C I g2 g3
theorem Vo : ∀{l:List fe} {m t:Nat} {b:fe},l.Nodup->l[m]? = ej b->l[t]? = ej b->m=t
 | [],m,t,b,_,h,_=>by simp at h
 | c::l,m,t,b,nd,h1,h2=>by
  obtain⟨a,I⟩:=Nq.mp nd;cases m with
  | zero=>
   cases t with
   | zero=>rfl
   | succ t=>
    have e1:c=b:=by simpa using h1
    have z:l[t]? = ej b:=by simpa using h2
    exact absurd (Nh z)<|e1 ▸ a
  | succ m=>
   cases t with
   | zero=>
    have e1:c=b:=by simpa using h2
    have z:l[m]? = ej b:=by simpa using h1
    exact absurd (Nh z)<|e1 ▸ a
   | succ t=>exact congrArg (· + 1) (Vo (b:=b) I (by simpa using h1)<|by simpa using h2)
theorem RC.row{j i t:Nat}{R:List (List D)}{a b:fe}{bs:List fe}{row:List D}(r:RC K H0 H σ γ)(S:γ[j]? = ej (.nest R))(hs:σ[j]? = ej (ej (.ref a)))(Z:t8 K H0 H R a bs)
 (a2 : ∀(k:Nat) ds c,γ[k]? = ej (.own ds)->σ[k]? = ej (ej (.ref c))->c∉a::bs) (J:bs[t]? = ej b) (hr:R[t]? = ej row) (C:i<γ.length) :
 RC K H0 H (σ.set i<|some (.ref b)) ((γ.set j .no).set i (.own row)):=by
 obtain⟨s,x,b1,b2⟩:=Z.row t b row J hr;have n:b∈a::bs:=Ms _<|Nh J;have Y : ∀{k:Nat} {c:Cell},c ≠ .no->(γ.set j .no)[k]? = ej c->γ[k]? = ej c/\k≠j:=λ{k c} w g=>by
  rcases zE g with⟨_,z,_⟩ | ⟨O,z⟩
  ·exact absurd z w
  ·exact⟨z,O⟩
 refine⟨r.sub,by simp[r.len],λk d g=>?_,λk ds g=>?_,λk m c ds p u o e f=>?_,tr.G7 λk h g=>?_⟩
 ·rcases zE g with⟨_,z,_⟩ | ⟨O,z⟩
  ·cases z
  ·obtain⟨I,_⟩:=Y ⋯ z
   rw[Mo (MV O)];exact r.val k d I
 ·rcases zE g with⟨rfl,z,y⟩ | ⟨O,z⟩
  ·cases z
   exact⟨b,x,ME (by rw[r.len];exact C),s,b1,b2⟩
  ·obtain⟨I,_⟩:=Y ⋯ z
   rw[Mo (MV O)];exact r.own k ds I
 ·rcases zE u with⟨rfl,_,_⟩ | ⟨O,I⟩
  ·rcases zE o with⟨rfl,_,_⟩ | ⟨l,U⟩
   ·rfl
   ·obtain⟨U,_⟩:=Y ⋯ U
    rw[ME (by rw[r.len];exact C)]at e;rw[Mo (MV l)]at f;cases e;exact absurd n<|a2 m p b U f
  ·obtain⟨I,_⟩:=Y ⋯ I
   rcases zE o with⟨rfl,_,_⟩ | ⟨l,U⟩
   ·rw[ME (by rw[r.len];exact C)]at f
    rw[Mo (MV O)]at e;cases f;exact absurd n<|a2 k ds b I e
   ·obtain⟨U,_⟩:=Y ⋯ U
    rw[Mo (MV O)]at e;rw[Mo (MV l)]at f;exact r.ne k m c ds p I U e f
 ·rcases zE g with⟨_,z,_⟩ | ⟨O,z⟩
  ·cases z
  ·obtain⟨I,U⟩:=Y ⋯ z
   exact U<|r.n0.2 k j h R I S
theorem RS.x_(r:RS K E0 E H0 H σ γ)(O:γ[j]? = ej (.nest R))(S:σ[j]? = ej (ej (.ref a)))(C:t8 K H0 H R a bs)
 (Z : ∀(k:Nat) ds c,γ[k]? = ej (.own ds)->σ[k]? = ej (ej (.ref c))->c∉a::bs) (J:bs[t]? = ej b) (h4:ft K H0 row' ys) :
 RS K E0 E H0 (upd H b<|.lst ys) σ (γ.set j<|.nest<|R.set t row'):=by
 have A:j<γ.length:=(Mv.mp O).1;have i:b∈bs:=Nh J;have x:b≠a:=λq=>(Nq.mp C.nd).1 (by rw[<- q];exact i);obtain⟨s,_⟩:=C.at<|Ms a i;obtain⟨N,y⟩:=r.A7 j R a _ O S C.ha;have P:E b=eF:=y b<|MD.mpr ⟨b,i,rfl⟩;have U : ∀{k:Nat} {c:Cell},(∀e,c ≠ .nest e)->(γ.set j<|.nest<|R.set t row')[k]? = ej c->γ[k]? = ej c:=λ{k c} Y g=>by
  rcases zE g with⟨_,z,_⟩ | ⟨l,z⟩
  ·exact absurd z<|Y _
  ·exact z
 refine⟨⟨λc o q=>?_,by simp[r.rc.len],λk d g=>r.rc.val k d<|U ⋯ g,λk ds g=>?_,λk m c ds Q F G L M=>r.rc.ne k m c ds Q (U ⋯ F) (U ⋯ G) L M,⟨λk e g=>?_,λk m X r2 I g2=>?_⟩⟩,⟨r.ext.s0,λc o q=>?_,λc o q=>?_,r.ext.new⟩,λk ds c I g2=>r.fresh k ds c (U ⋯ I) g2,λk e c p I g2 g3=>?_⟩
 ·rw[zL (λz=>by rw[z,s]at q;cases q)];exact r.rc.sub c o q
 ·have z:=U ⋯ g
  obtain⟨c,p,f,h,u,T⟩:=r.rc.own k ds z;refine⟨c,p,f,h,?_,T⟩;rw[zL (λq=>Z k ds c z f<|by rw[q];exact Ms _ i)];exact u
 ·have l:k=j:=by
   rcases zE g with⟨z,_,_⟩ | ⟨_,z⟩
   ·exact z
   ·exact r.rc.n0.2 k j e R z O
  subst l;rw[ME A]at g;cases g;refine⟨a,bs,S,⟨C.a0,by rw[zL (MV x)];exact C.ha,C.nd,by simp[C.len],λm c row Y n=>?_⟩,λm ds c I g2=>Z m ds c (U ⋯ I) g2⟩;by_cases w:m=t
  ·subst w
   rw[J]at Y;cases Y;have:m<R.length:=by rw[<- C.len];exact(Mv.mp J).1
   rw[ME this]at n;cases n;exact⟨s,ys,zQ,h4⟩
  ·rw[Mo (MV w)]at n
   obtain⟨f,p,h,u⟩:=C.row m c row Y n;have B:c≠b:=λq=>by subst q;have W:=(Nq.mp C.nd).2;exact w<|Vo W Y J
   exact⟨f,p,by rw[zL B];exact h,u⟩
 ·have f:k=j:=by
   rcases zE I with⟨z,_,_⟩ | ⟨_,z⟩
   ·exact z
   ·exact r.rc.n0.2 k j X R z O
  have h:m=j:=by
   rcases zE g2 with⟨z,_,_⟩ | ⟨_,z⟩
   ·exact z
   ·exact r.rc.n0.2 m j r2 R z O
  rw[f,h]
 ·rw[zL (λz=>by rw[z,P]at q;cases q)];exact r.ext.s1 c o q
 ·rw[zL (λz=>by rw[z,s]at q;cases q)];exact r.ext.sub c o q
 ·have l:k=j:=by
   rcases zE I with⟨z,_,_⟩ | ⟨_,z⟩
   ·exact z
   ·exact r.rc.n0.2 k j e R z O
  subst l;rw[S]at g2;cases g2;rw[zL (MV x),C.ha]at g3;injection g3 with g3;injection g3 with g3;subst g3;exact⟨N,y⟩
end
section
variable{K:Mf}{E0 E H0 H:Hp}{σ:St}{γ:Ctx}
theorem RS.freeze(r:RS K E0 E H0 H σ γ)(e:γ[i]? = ej (.own ds)) : ∃C,RS K E0 E C H σ (γ.set i<|.val<|.lst ds):=by
 obtain⟨a,o,f,g,Y,l⟩:=r.rc.own i ds e;have h:=r.fresh i ds a e f;obtain⟨C,n,U⟩ : ∃C,C=upd H0 a (.lst o)/\RC K C H σ (γ.set i<|.val<|.lst ds):=by refine⟨_,rfl,?_⟩;exact RC._A r.rc e f g Y l
 subst n;refine⟨_,U,⟨r.ext.s0.trans<|js g _,r.ext.s1,U.sub,λc m I=>?_⟩,λj k b O g2=>?_,λj d b p O g2 g3=>?_⟩
 ·rw[zL (λz=>by rw[z,h]at I;exact I rfl)];exact r.ext.new c m I
 ·rcases zE O with⟨_,z,_⟩ | ⟨_,z⟩
  ·cases z
  ·exact r.fresh j k b z g2
 ·rcases zE O with⟨_,z,_⟩ | ⟨_,z⟩
  ·cases z
  ·exact r.A7 j d b p z g2 g3
open Classical in
def WK(H0 H:Hp)(L:List fe):Hp:=λc=>if c∈L then H c else H0 c
theorem Ya(h:c∈L):WK H0 H L c=H c:=by unfold WK;rw[UJ h]
theorem Zk(h:c∉L):WK H0 H L c=H0 c:=by unfold WK;rw[UY h]
theorem YY : ∀{C:List (List D)} {bs:List fe},bs.length=C.length->(∀(k:Nat) b row,bs[k]? = ej b->C[k]? = ej row->∃xs,G b=ej (.lst xs)/\ft K G row xs)->ft K G (C.map D.lst) (bs.map V.ref)
 | [],[],_,_=>ft.nil
 | [],_::_,h,_=>by simp at h
 | _::_,[],h,_=>by simp at h
 | row::C,b::bs,h,f=>by obtain⟨xs,z,g2⟩:=f 0 b row rfl rfl;exact ft.cons (QD (h9.of z) g2) (YY (by simpa using h) λk c r a I=>f (k+1) c r (by simpa using a)<|by simpa using I)
theorem RS._r(r:RS K E0 E H0 H σ γ)(e:γ[i]? = ej (.nest rows)) : ∃C,RS K E0 E C H σ (γ.set i<|.val<|.lst<|rows.map D.lst):=by
 obtain⟨a,bs,s,l,w⟩:=r.rc.n0.1 i rows e;obtain⟨F,G⟩:=r.A7 i rows a _ e s l.ha;have ef : ∀b∈a::bs,E b=eF:=λb hb=>by
  rcases Mu.mp hb with rfl | hb
  ·exact F
  ·exact G b<|MD.mpr ⟨b,hb,rfl⟩
 have m:i4 H0 (WK H0 H (a::bs)):=λc o q=>by rw[Zk (λh=>by rw[(l.at h).1]at q;cases q)];exact q
 have sub:i4 (WK H0 H (a::bs)) H:=λc o q=>by
  by_cases h:c∈a::bs
  ·rw[Ya h]at q;exact q
  ·rw[Zk h]at q;exact r.rc.sub c o q
 have M:Rep K (WK H0 H (a::bs)) (.lst<|rows.map D.lst) (.ref a):=QD (h9.of<|by rw[Ya Mx];exact l.ha) (YY l.len λk b row I g2=>by obtain⟨_,N,p,Y⟩:=l.row k b row I g2;exact⟨N,by rw[Ya (Ms _<|Nh I)];exact p,Y.mono m⟩)
 have t : ∀{j:Nat} {O:List (List D)},(γ.set i<|.val<|.lst<|rows.map D.lst)[j]? ≠ ej (.nest O):=λ{j O} g=>by
  rcases zE g with⟨_,z,_⟩ | ⟨n,z⟩
  ·cases z
  ·exact n<|r.rc.n0.2 j i O rows z e
 have U : ∀{j:Nat} {f:List D},(γ.set i<|.val<|.lst<|rows.map D.lst)[j]? = ej (.own f)->γ[j]? = ej (.own f):=λ{j f} g=>by
  rcases zE g with⟨_,z,_⟩ | ⟨n,z⟩
  ·cases z
  ·exact z
 refine⟨_,⟨sub,by simp[r.rc.len],λj d g=>?_,λj f g=>?_,λj k c f J x y A B=>r.rc.ne j k c f J (U x) (U y) A B,tr.G7 λj O=>t⟩,⟨r.ext.s0.trans m,r.ext.s1,sub,λc p Y=>?_⟩,λj f b I g2=>r.fresh j f b (U I) g2,λj O b u I=>absurd I t⟩
 ·rcases zE g with⟨rfl,z,P⟩ | ⟨n,z⟩
  ·cases z;exact⟨_,s,M⟩
  ·obtain⟨v,I,g2⟩:=r.rc.val j d z
   exact⟨v,I,g2.mono m⟩
 ·obtain⟨b,u,I,g2,g3,L⟩:=r.rc.own j f (U g)
  exact⟨b,u,I,by rw[Zk (w j f b (U g) I)];exact g2,g3,L.mono m⟩
 ·rw[Zk (λh=>Y<|ef c h)];exact r.ext.new c p Y
end
section
variable{X:Cx}{st:m7}{F:CO Fl}
theorem tK(i:Nat)(h:n7 X st F):n7 X st (Ia i F):=kQ h λD j H I=>by obtain⟨E0,E,e,g,O,U,z,Y⟩:=I;obtain⟨f,d,z⟩:=ze z;obtain⟨a,b⟩:=U.freeze<|vD d;exact⟨E0,E,a,_,O,b,z,Y⟩
theorem aP(i:Nat)(h:n7 X st F):n7 X st (fJ i F):=kQ h λD j H I=>by obtain⟨E0,E,f,g,O,U,z,Y⟩:=I;obtain⟨b,e,z⟩:=ze z;obtain⟨a,d⟩:=U._r<|yV e;exact⟨E0,E,a,_,O,d,z,Y⟩
end
section
variable{X:Cx}{sc:jn}{N L:List Str}{k:Nat}
theorem nc(i:Nat)(h:SX X sc N L k)(c:vh sc N L i y=eA)
 (Y:X.calm=eA) (ok:zl X scope fr) (S : ∀i∈T.idx,i<own.length) (hi:A4 X tg iter src) (hg : ∀fp J C,PG (jL X scope (own++fr.map (·.1)) fp J C) tg<|u5 X.K T)
 (Z : ∀fp J C,PO (jL X scope (own++fr.map (·.1)) fp J C) elt f) (hs : ∀x,t4 iter X.env x=pure x:=by intro _;rfl) :
 n7 X (.Assign [.Name y py] (.ListComp elt [⟨tg,iter,[],0⟩] scope cpos) spos) (Wb i<|Jc src T own.length (fr.map (·.2)) f):=by
 obtain⟨p,r,s⟩:=h.loc c;refine kQ (ZF (te:=tO X.K f) h.M4 p r s Y ok hi hg (λ_ _ _=>K4) Z hs) λD l H I=>?_;obtain⟨E0,E,e,j,w,U,z,m⟩:=I;obtain⟨d,o,z⟩:=ze z;by_cases O:j.any qm=eK
 ·rw[UJ O]at z;cases z
  exact dQ S (λl H Q I=>by obtain⟨e,j,b,rc,z,q⟩:=I;cases z;exact q H e<|Ext.refl rc.sub) l H _ ⟨e,j,d,U.rc,o,λa bs u g x t n=>m _ _ g<|U._N x t n O⟩
 ·rw[UY O]at z;cases z
theorem fO(z:i≠j)(c:Cell)(r:List D):((((γ.set j c).set i .no).set j .no).set i (.own r))=vb γ j i r:=by
 unfold vb;apply NX;intro m;simp only[Oi,List.length_set];by_cases a:i=m
 ·subst a;simp
 ·by_cases b:j=m
  ·subst b;simp[a]
  ·simp[a,b]
theorem Ww{γ:Ctx}{j i:Nat}(z:i≠j)(c I:Cell):(((γ.set j c).set i .no).set j I)=(γ.set j I).set i .no:=by rw[List.set_comm _ _ (MV z),List.set_set,List.set_comm _ _ z]
theorem Kg(j i:Nat){x y:Str}{bl C bm:h8}{Y e:fA}{g f:CO D}{p pos cb:h8}(hp:TJ (f7 X.prog X.w) X.A X.env X.xe)(hc:X.calm=eA)(h:SX X sc N L k)(cj:JS sc N j x=eA)(ci:JS sc N i y=eA)
 (hg:PG X (.Name y bl) (vx i)) (hi:PV X Y g) (he:PV X e f)
 (ha : ∀v,u4 (.Subscript (.Name y C) Y p) X.env v=(do
   let ov <- tf [v] (fy (.Name y C) X.env);let iv <- tf [v,ov] (fy Y X.env)
   DD p
   tf [v,ov,iv] (N4 ov iv v)
   R4 [v,ov,iv] []):=by intro _;rfl)
 (hs:H8 [.Subscript (.Name y C) Y p] e pos.line X.env=pure eK:=by rfl) (hw:N6 [.Subscript (.Name y C) Y p] e X.env=pure eF:=by rfl)
 (h1:(B6 [.Subscript (.Name y C) Y p] X.env).map (·.2)=[u4 (.Subscript (.Name y C) Y p) X.env]:=by rfl)
 (hf : ∀z,t4 (.Name x bm) X.env z=pure z:=by intro _;rfl) :
 n7 X (.For (.Name y bl) (.Name x bm) [.Assign [.Subscript (.Name y C) Y p] e pos] [] cb) (QA j i g f):=
 kQ (rf hp hc (gw<|h.var cj) hg (gc<|Kh he (aS (h.var ci) hi Jz ha) hs hw h1) hf) λD B H hZ=>by
  obtain⟨E0,E,H0,o,fl,rs,u,bn⟩:=hZ;obtain⟨l,e1,u⟩:=ze u;have e1:=yV e1;by_cases ax:i=j\/o.length<=i
  ·rw[UJ ax]at u;cases u
  rw[UY ax]at u;have F:i≠j:=λz=>ax<|.inl z;have R:i<o.length:=by
   rcases MK i o.length with z | z
   ·exact z
   ·exact absurd (.inr z) ax
  have bv:j<o.length:=(Mv.mp e1).1;obtain⟨b7,e2,u⟩:=zB u;subst u;obtain⟨a,bs,g1,hn,e7⟩:=rs.rc.n0.1 j l e1;refine⟨_,g1,a,.L,rfl,⟨_,h9.of hn.ha⟩,?_⟩;refine⟨λt m M H'=>m=l.length - t/\t<=l.length/\∃(r:Hp) (I yp:List (List DL.D)) (U:L2.St),I.length=t/\U[j]? = ej (ej (V.ref a))/\(∃v,M=U.set i v)/\H' a=ej (.lst<|bs.map V.ref)/\RS X.K E0 E r H' M ((o.set j<|.nest<|I++l.drop t).set i .no)/\kz j i g f o (l.drop t)=ej yp/\b7=I++yp,
   ⟨_,rfl,Ny _,H0,[],b7,B,rfl,g1,⟨B[i]?.getD eF,?_⟩,hn.ha,?_,e2,rfl⟩,?_⟩
  ·apply NX
   intro m;rw[Oi];by_cases z:i=m
   ·subst z
    have:i<B.length:=by rw[rs.rc.len];exact R
    simp[this]
   ·simp[z]
  ·have:=rs.forget (i:=i) (v:=B[i]?.getD eF)
   have es:B.set i (B[i]?.getD eF)=B:=by
    apply NX;intro m;rw[Oi];by_cases z:i=m
    ·subst z
     have:i<B.length:=by rw[rs.rc.len];exact R
     simp[this]
    ·simp[z]
   rw[es]at this;have ec:o.set j (.nest l)=o:=by
    apply NX;intro m;rw[Oi];by_cases z:j=m
    ·subst z;rw[UJ rfl,UJ bv,e1]
    ·simp[z]
   simpa[ec]using this
  rintro t m M H' ⟨rfl,ht,r,I,yp,U,c1,S,⟨v0,rfl⟩,T,W,O,er⟩;have b0:((o.set j<|.nest<|I++l.drop t).set i .no)[j]? = ej (.nest<|I++l.drop t):=by rw[Mo F,ME bv]
  obtain⟨a',s,q1,b8,cy⟩:=W.rc.n0.1 j _ b0;rw[Mo F,S]at q1;cases q1;have cz:s=bs:=by have:=b8.ha;rw[T]at this;injection this with this;injection this with this;exact(yP this).symm
  subst cz;have d0:s.length=l.length:=by rw[b8.len];simp;omega
  by_cases c4:t<l.length
  ·have Q:s[t]? = ej (s[t]'⋯):=Mi ⋯
   generalize s[t]'⋯=b at Q;have b9:l.drop t=l[t]::l.drop (t+1):=OF c4;refine .inr ⟨⟨_,.ref b,h9.of T,by rw[Nf,Q];rfl⟩,λP H2=>t+1<=l.length/\∃(r:Hp) (I yp:List (List DL.D)) (U:L2.St),I.length=t+1/\U[j]? = ej (ej (V.ref a))/\(∃v,P=U.set i v)/\H2 a=ej (.lst<|s.map V.ref)/\RS X.K E0 E r H2 P ((o.set j<|.nest<|I++l.drop (t+1)).set i .no)/\kz j i g f o (l.drop<|t+1)=ej yp/\b7=I++yp,λP H2 n=>⟨l.length - (t+1),by omega,rfl,n.1,n.2⟩,λxv H2 yl=>?_⟩;obtain⟨rfl,yl⟩:=yl;have d2:xv = .ref b:=by have:=yl _<|h9.of T;rw[Nf,Q]at this;exact(Ng this).symm
   subst d2;rw[b9]at O;simp only[kz]at O;obtain⟨d,f1,O⟩:=ze O;obtain⟨kk,f2,O⟩:=ze O;obtain⟨dk,f3,f2⟩:=ze f2;obtain⟨J,f4,O⟩:=ze O;obtain⟨d7,f5,O⟩:=zB O;have d9:(I++l.drop t)[t]? = ej l[t]:=by rw[b9,Nm ⋯,c1];simp
   have G:(U.set i v0).set i (ej (.ref b))=U.set i (ej (.ref b)):=List.set_set ..;have b5:=W.rc.row (i:=i) b0 (by rw[Mo F];exact S) b8 cy Q d9 (by simp;exact R);rw[fO F,G]at b5;show ∃_,_;refine⟨r,vb o j i l[t],d,?_,f1,λv H3 db x3 r3=>?_⟩
   ·rw[G];exact b5
   have c5:=b5.ext x3;obtain⟨Z,xs,p1,p2,p3,p4⟩:=c5.own i l[t] (by unfold vb;rw[ME (by simpa using R)]);have dj:Z=b:=by
    rw[ME (by
     have:=b5.len;simp[vb]at this;rw[this];exact R)]at p1
    cases p1;rfl
   subst dj;refine⟨_,by rw[G];exact p1,db,vb o j i l[t],dk,by rw[G];exact c5,f3,λv2 H4 dp x4 r4=>?_⟩;rw[jQ f2]at r4;refine⟨Z,xs,kk,J,rfl,jx r4,x4.s1 _ _ p3,by rw[p4.length];exact QW f4,?_⟩;have dr:=(W.step x3).step x4;have bg:=dr.forget (i:=i) (v:=ej (.ref Z));have dt:(((o.set j<|.nest<|I++l.drop t).set i .no).set i .no)=((o.set j<|.nest<|I++l.drop t).set i .no):=List.set_set ..;rw[dt,G]at bg;obtain⟨a2,dv,w1,bi,dy⟩:=bg.rc.n0.1 j _ b0;rw[Mo F,S]at w1;cases w1;have c9:H4 a=ej (.lst<|s.map V.ref):=x4.s1 _ _<|x3.s1 _ _ T;have e0:dv=s:=by have:=bi.ha;rw[c9]at this;injection this with this;injection this with this;exact(yP this).symm
   subst e0;have ca:=bg.x_ (t:=t) (row':=l[t].set J d) (ys:=xs.set J v) b0 (by rw[Mo F];exact S) bi dy Q<|(p4.mono x4.s0).set J (r3.mono x4.s0);have e3:a≠Z:=λq=>(Nq.mp bi.nd).1 (by rw[q];exact Nh Q);refine⟨c4,dp,I++[l[t].set J d],d7,U,by simp[c1],S,⟨ej (.ref Z),G⟩,by rw[zL e3];exact c9,?_,f5,by rw[er,<- O];simp⟩;rw[G];have eR:(I++l.drop t).set t (l[t].set J d)=(I++[l[t].set J d])++l.drop (t+1):=by rw[b9,List.set_append_right _ _ ⋯,show t - I.length=0 by omega,List.append_assoc];rfl
   rw[eR,Ww F]at ca;exact ca
  ·have et:t=l.length:=by omega
   subst et;rw[Rn]at O;cases O;rw[Rn]at W;refine .inl ⟨⟨_,h9.of T,by simp[d0]⟩,?_⟩;rw[er]at bn;exact bn _ _ r W
end
end DL
namespace L2
open PySem PySem.Spec PyProof.Rows
noncomputable def Gh(K:Mf):V->List V->Hp->VK->Prop:=λx d H Q=>∃z p b,x = .str z/\d=[.ref p]/\h9 K H p (b.map V.str)/\Builtin.Str.tooLong (b.toArray.foldl (λa p=>a+p.length+z.length) 0)=eK/\Q (.str<|Tp z b) H
theorem Yz : ∀{C:List Str} {us:List fh},gv (C.map V.str) us->∃l:List (Str×tw),strValues l=us/\l.map (·.1)=C
 | [],us,r=>by cases r;exact⟨[],rfl,rfl⟩
 | z::C,u::us,.cons r t=>by obtain⟨I,rfl⟩:=r;obtain⟨l,rfl,h⟩:=Yz t;exact⟨(z,I)::l,rfl,by simp[h]⟩
theorem ux{X:Cx}:U6 X "str.join" (Gh X.K):=by intro a s w H x m v j Q I U Y h;obtain⟨z,p,u,rfl,rfl,d,O,q⟩:=h;obtain⟨t,rfl⟩:=U;obtain⟨n,rfl,rw⟩:=vg Y;cases rw;obtain⟨g,r,f,i⟩:=I.list d;obtain⟨l,rfl,e⟩:=Yz r;subst e;refine Ro F.slot_str_join (M' _ _ _) F.entry_str_join (F.args_str_join_2 _ _) (meets_str_join_list z t p l O) ⟨f.isList,post_join l ⟨joinFit_length O,λt' k=>?_⟩⟩;refine⟨.str (Tp z (l.map (·.1))),H,(I.kept (h':=s.heap) (t':=k) λb o e=>e),⟨t',?_⟩,q⟩;show Sm (Builtin.Str.glued z (l.map (·.1))) t'=_;rw[StrLaws.glued_eq_join]
end L2
namespace DL
open PySem PySem.Spec PyProof.Rows L2
theorem JY{K:Mf}{H:Hp} : ∀{ds:List D} {xs:List V} {l:List Str},ft K H ds xs->JZ ds=ej l->xs=l.map V.str
 | [],xs,l,r,e=>by cases e;rw[show xs=[]from r];rfl
 | d::ds,xs,l,r,e=>by
  obtain⟨x,g,rfl,z,b⟩:=(show ∃x r,xs=x::r/\Rep K H d x/\ft K H ds r from r);cases d with
  | str i=>
   obtain⟨f,a,rfl⟩:=zB (show(JZ ds).map (λl=>i::l)=ej l from e);rw[JY b a,show x = .str i from z];rfl
  | _=>cases e
section
variable{X:Cx}{sc:jn}{N L:List Str}{k:Nat}{o e a b:fA}{apos cpos pos p:h8}{f g:CO D}{q:CO (Sk×List D)}
theorem KQ(h:j1 x=eA):x.length<=1000:=of_decide_eq_true h
theorem X5(h:j1 x=eA):x.length<=hB:=NQ (KQ h) ⋯
theorem Wj(Y:PV X o f)(Z:PQ X e q)(C:b_ o "join" X.env (fy o X.env)=fy o X.env:=by rfl)
 (J:((vr cpos<|starEach [e] X.env).all (λx=> !x.1) && (c_ cpos<|keywordEach [] X.env).all (λx=>x.1.isSome) && decide ([e].length+([]:List L3).length+(if ([]:List L3).isEmpty then 0 else 1)<30))=eA:=by rfl)
 (S:(apos.endLine==cpos.line)=eA:=by rfl) (U:g8 [e] X.env=[(eK,fy e X.env)]:=by rfl):PV X (.Call (.Attribute o "join" apos) [e] [] cpos) (cK f q):=
 qE (BX PySem.F.plainAttrs_str PySem.F.slot_str_join PySem.F.type_str_join ux Y (jT Z q8 U) C J S U rfl) λσ H Q A=>by
  obtain⟨h,g,d,rc,z,K⟩:=A;obtain⟨k,n,z⟩:=ze z;obtain⟨⟨G,m⟩,p,z⟩:=ze z;cases k with
  | str O=>
   cases G with
   | L=>
    obtain⟨l,s,z⟩:=ze z;by_cases I:l.length<=lim/\l.all j1=eA/\j1 O=eA
    ·rw[UJ I]at z;cases z
     refine⟨h,g,_,rc,n,λv P b x r=>?_⟩;rw[show v = .str O from r];refine⟨rfl,b,g,.L,m,rc.ext x,p,λa xs i j N u R M=>?_⟩;have t:=JY M s;subst t;refine⟨O,a,l,rfl,rfl,u,StrLaws.joinFits (B:=1000) (λy E=>KQ<|NI.mp I.2.1 y E) ?_,K _ i j (x.trans N) rfl⟩;have W:=I.1;have:lim=2500:=rfl;have w:=KQ I.2.2;have:l.length*O.length<=2500*1000:=Nat.mul_le_mul ⋯ w;omega
    ·rw[UY I]at z;cases z
   | T=>cases z
  | _=>cases z
theorem mR(C:PV X a f)(Y:PV X b g)(J:ZY b:=by intro _ _;rfl):PV X (.Subscript a b pos) (YR f g):=
 qE (nF CF C Y J) λG H Q A=>by
  obtain⟨m,l,d,rc,I,q⟩:=A;obtain⟨p,t,I⟩:=ze I;obtain⟨i,O,I⟩:=ze I;obtain⟨s,u,O⟩:=ze O;cases p with
  | str z=>
   by_cases U:j1 z=eA
   ·have I:(if j1 z=eA then (k6 z.cps.toList.length i).bind λk=>z.cps.toList[k]?.map λc=>D.str ⟨#[c]⟩else eF)=ej d:=I
    rw[UJ U]at I;obtain⟨j,w,I⟩:=ze I;obtain⟨c,y,rfl⟩:=zB I;refine⟨m,l,_,rc,t,λv E e x r=>⟨e,l,s,rc.ext x,u,λF n o B h=>?_⟩⟩;rw[jQ O]at h;refine⟨z,i,c,r,jx h,X5 U,?_,q _ n o (x.trans B) rfl⟩;unfold Dc;rw[QW w];exact y
   ·have I:(if j1 z=eA then (k6 z.cps.toList.length i).bind λk=>z.cps.toList[k]?.map λc=>D.str ⟨#[c]⟩else eF)=ej d:=I
    rw[UY U]at I;cases I
  | _=>cases I
theorem KZ(h:SX X sc N L k)(c:yj sc "len" = eA)(z:X.mg "len" = eF)(C:PV X e f)(U:g8 [e] X.env=[(eK,fy e X.env)]:=by rfl):PV X (.Call (.Name "len" p) [e] [] pos) (YU f):=
 qE (yL VO (h.gl c).1 z PySem.boot_len (jT C q8 U) ⋯ ⋯ U rfl) λm H Q Y=>by
  obtain⟨g,l,d,rc,I,q⟩:=Y;obtain⟨i,j,I⟩:=ze I;cases i with
  | str z=>
   by_cases O:j1 z=eA
   ·have I:(if j1 z=eA then ej (D.int z.length)else eF)=ej d:=I
    rw[UJ O]at I;cases I;refine⟨g,l,_,rc,j,λv b a x r=>⟨z,by rw[show v = .str z from r],X5 O,q _ b a x rfl⟩⟩
   ·have I:(if j1 z=eA then ej (D.int z.length)else eF)=ej d:=I
    rw[UY O]at I;cases I
  | _=>cases I
theorem fX{C:h8}(h:SX X sc N L k)(c:yj sc "isinstance" = eA)(z:X.mg "isinstance" = eF)(I:yj sc "str" = eA)(O:X.mg "str" = eF)(J:PV X a f)
 (U:g8 [a,.Name "str" C] X.env=[(eK,fy a X.env),(eK,fy (.Name "str" C) X.env)]:=by rfl):PV X (.Call (.Name "isinstance" p) [a,.Name "str" C] [] pos) (p6 .str f):=fY .str h c z I O ⋯ J U
end
section
variable{X:Cx}{sc:jn}{N L:List Str}{k:Nat}{b:fA}{f:CO D}
theorem Bw(h:SX X sc N L k)(c:yj sc "min" = eA)(z:X.mg "min" = eF)(C:PV X a f)(J:PV X b g)(Y:g8 [a,b] X.env=[(eK,fy a X.env),(eK,fy b X.env)]:=by rfl)(O:g8 [b] X.env=[(eK,fy b X.env)]:=by rfl) :
 PV X (.Call (.Name "min" p) [a,b] [] pos) (Bf f g):=
 qE (yL (lA h.calm) (h.gl c).1 z PyProof.Rows.boot_min (jT C (jT J q8 O)<|by rw[Y,O]) ⋯ ⋯ (by rw[Y,O]) (by rw[O];rfl)) λK H Q B=>by obtain⟨o,n,d,rc,I,q⟩:=B;obtain⟨i,l,I⟩:=ze I;obtain⟨u,y,l⟩:=ze l;obtain⟨j,U,I⟩:=zB I;obtain⟨w,A,U⟩:=ze U;subst I;refine⟨o,n,u,rc,y,λv F e x r=>⟨e,n,w,rc.ext x,A,λG s t E m=>⟨i,j,?_,q _ s t (x.trans E) rfl⟩⟩⟩;rw[jQ l]at r;rw[jQ U]at m;rw[jx r,jx m]
end
noncomputable def Gz(c:Xn)(C:Option fe)(H0:Hp):Prop:=match c.2 with
 | none=>C=eF
 | some i=>∃d,C=ej d/\H0 d=ej (.xd [(LG c.1,.int i)])
noncomputable def E'(K:Mf)(n:Nat)(G:List D->Option Xn):Sp:=λg H _ E=>∃b d c,i4 b H/\ft K b d g/\d.length=n/\G d=ej c/\
 ∀C e a f,HV K=eA->c.1∈S7->AG K c.1=ej C->Gz c f a->Ext b H a e->E (.ref C) f e
section ap
variable(γ:Ctx)
@[simp] def ya:=@zW.eq_1
@[simp] def vH:=@qh.eq_1
@[simp] def ke:=@jm.eq_1
@[simp] def jZ:=@zc.eq_1
@[simp] def jw:=@zh.eq_1
@[simp] theorem q9(d):zu d γ=ej d:=rfl
@[simp] def xZ:=@zy.eq_1
@[simp] def W9:=@sB.eq_1
@[simp] def HN:=@Wf.eq_1
@[simp] def Jl:=@vi.eq_1
@[simp] def wL:=@jU.eq_1
@[simp] def IM:=@cM.eq_1
@[simp] def LI:=@_M.eq_1
@[simp] def ID:=@EG.eq_1
@[simp] def rP:=@cL.eq_1
@[simp] theorem qU:zI γ=ej []:=rfl
@[simp] def jO:=@zb.eq_1
@[simp] def vG:=@qW.eq_1
@[simp] def HA:=@kG.eq_1
@[simp] def Hx:=@j9.eq_1
@[simp] def vf:=@qv.eq_1
@[simp] def W7:=@Jp.eq_1
@[simp] def Hv:=@Wc.eq_1
@[simp] def IJ:=@LU.eq_1
@[simp] def HK:=@sW.eq_1
@[simp] def kL:=@kr.eq_1
@[simp] def ve:=@jy.eq_1
@[simp] def Hr:=@wz.eq_1
@[simp] def HH:=@Bh.eq_1
@[simp] def Zt:=@xu.eq_1
@[simp] def xS:=@zD.eq_1
@[simp] def pC:=@jV.eq_1
@[simp] def qA:=@zN.eq_1
@[simp] def yC:=@z7.eq_1
@[simp] def Er:=@Wd.eq_1
@[simp] def Em:=@aH.eq_1
@[simp] def KA:=@ZA.eq_1
@[simp] def qe:=@zK.eq_1
@[simp] theorem IB:jb γ=ej eA:=rfl
@[simp] def HL:=@We.eq_1
@[simp] def Hw:=@sU.eq_1
@[simp] def yX:=@eL.eq_1
@[simp] def Fz:=@J9.eq_1
@[simp] theorem IE:Yv γ=ej eF:=rfl
@[simp] def LJ:=@t6.eq_1
@[simp] def IC:=@YS.eq_1
@[simp] def Kz:=@kD.eq_1
@[simp] def HD:=@p6.eq_1
@[simp] def IF:=@LQ.eq_1
@[simp] def xR:=@zM.eq_1
@[simp] def Es:=@fI.eq_1
@[simp] def Eo:=@sT.eq_1
@[simp] def lP:=@fK.eq_1
@[simp] def IL:=@Aw.eq_1
@[simp] def lN:=@km.eq_1
@[simp] def Hz:=@Lf.eq_1
@[simp] def Ho:=@sS.eq_1
theorem jj(F G):zJ F G γ=(F γ).bind λz=>match z with
 | .next a=>G a
 | f=>ej f:=rfl
end ap
@[simp] theorem rO(ds):j5 (.tup ds)=ej (.T,ds):=rfl
@[simp] theorem bO(ds):j5 (.lst ds)=ej (.L,ds):=rfl
@[simp] theorem zG(d):ly (ej (.val d))=ej d:=rfl
@[simp] theorem zO(d):wK (ej (.val d))=j5 d:=rfl
@[simp] theorem Xr(d):wK (ej (.own d))=ej (.L,d):=rfl
@[simp] theorem WZ(d):xQ (ej (.own d))=ej d:=rfl
@[simp] theorem Aa(d):WY (ej (.val d))=ej (.ret<|.val d):=rfl
@[simp] theorem Ab(d):WY (ej (.own d))=ej (.ret<|.own d):=rfl
@[simp] theorem wu(b):vl (.bl b)=ej b:=rfl
@[simp] theorem j6(b):o4 (.int b)=ej b:=rfl
@[simp] theorem mP(d):fQ (.val d)=d:=rfl
@[simp] theorem EM(d):fQ (.own d) = .lst d:=rfl
@[simp] theorem mO(d):Ge (.own d)=ej d:=rfl
@[simp] theorem Fp(i j):JI (.int i) (.int j)=ej (.int<|i - j):=rfl
@[simp] theorem oV(i j):j3 (.int i) (.int j)=ej (.int<|i+j):=rfl
@[simp] theorem Ft(i j):qw (.int i) (.int j)=if 0<j then ej (.int<|i%j)else eF:=by show(if Ef i j=eA then _ else _)=_;simp[Ef]
@[simp] theorem Fv(i j):vz (.int i) (.int j)=if 0<j/\j<1073741824 then ej (.int<|i/j)else eF:=by
 show(if Eg i j=eA then _ else _)=_;have e:(Eg i j=eA)=(0<j/\j<1073741824):=by unfold Eg;rw[My,decide_eq_true_eq,decide_eq_true_eq];apply propext;constructor<;>intro h<;>exact⟨h.1,by omega⟩
 simp only[e]
@[simp] theorem Fs(i j):xJ (.int i) (.int j)=if JM i j=eA then ej (.int<|i*j)else eF:=rfl
@[simp] theorem Fq(i j):uT (.int i) (.int j)=if Ee i j=eA then ej (.int<|i ^ j.toNat)else eF:=rfl
@[simp] theorem uU(i j):Df (.int i) (.int j)=ej (.bl<|decide<|i<j):=rfl
@[simp] theorem uV(i j):p5 (.int i) (.int j)=ej (.bl<|decide<|i<=j):=rfl
@[simp] theorem Hg(i j):vu (.int i) (.int j)=ej (.bl<|decide<|j<i):=rfl
@[simp] theorem Hh(i j):Pz (.int i) (.int j)=ej (.bl<|decide<|j<=i):=rfl
@[simp] theorem Hi(i j):hG (.int i) (.int j)=ej (.bl<|decide<|i=j):=by unfold hG;rw[UJ ⟨rfl,rfl⟩];exact congrArg (λb=>ej (D.bl b)) (by rw[Sv];simp[ml])
@[simp] theorem Hf(i j):i7 (.int i) (.int j)=ej (.bl<|!decide (i=j)):=by unfold i7;rw[UJ ⟨rfl,rfl⟩];exact congrArg (λb=>ej (D.bl !b)) (by rw[Sv];simp[ml])
@[simp] theorem Bd(i is d ds γ):xt (i::is) (d::ds) γ=xt is ds (γ.set i<|.val d):=rfl
@[simp] theorem Bc(ds γ):xt [] ds γ=γ:=by cases ds<;>rfl
@[simp] theorem vX(i d γ):xH (.nm i) d γ=ej (γ.set i<|.val d):=rfl
@[simp] theorem Ej(i j a b γ):xH (.tp [i,j]) (.tup [a,b]) γ=ej ((γ.set i<|.val a).set j (.val b)):=rfl
@[simp] theorem KR(γ:Ctx)(G:CO Fl):(ej (Fl.next γ)).bind (λz=>match z with
 | .next γ'=>G γ'
 | f=>ej f)=G γ:=rfl
theorem Jk(i j:Int)(C : -(2 ^ 64)<j)(I:j<2 ^ 64):JM i j=eA:=by unfold JM;rw[NW];right;exact decide_eq_true ⋯
theorem vE(i j:Int)(C : -(2 ^ 64)<i)(I:i<2 ^ 64):JM i j=eA:=by unfold JM;rw[NW];left;exact decide_eq_true ⋯
theorem Xb(C : -(2 ^ 62)<i)(I:i<2 ^ 62):inR i=eA:=by unfold inR;exact decide_eq_true ⋯
@[simp] theorem xj(n k:Nat):k6 n (k:Int)=if k<n then ej k else eF:=by
 unfold k6;by_cases h:k<n
 ·rw[UJ ⟨Int.natCast_nonneg k,by omega⟩,UJ h];simp
 ·rw[UY ⋯,UY ⋯,UY h]
theorem ju:lim=2500:=rfl
@[simp] theorem Fm:0<=lim:=Ny _
@[simp] theorem Fk:1<=lim:=by decide
@[simp] theorem Fj:2<=lim:=by decide
@[simp] theorem Fi:3<=lim:=by decide
@[simp] theorem Fh:4<=lim:=by decide
@[simp] theorem Fg:5<=lim:=by decide
@[simp] theorem Ff:6<=lim:=by decide
@[simp] theorem Fe:7<=lim:=by decide
@[simp] theorem Fd:8<=lim:=by decide
@[simp] theorem Fb:0<lim:=by decide
@[simp] theorem Xc(h:n<=lim):inR (n:Int)=eA:=Xb ⋯ (by have:=ju;omega)
@[simp] theorem m?(n:Nat):k6 (n+1) 0=ej 0:=xj (n+1) 0 ▸ rfl
@[simp] theorem n?(n:Nat):k6 (n+2) 1=ej 1:=by have:=xj (n+2) 1;simpa using this
@[simp] theorem _y(n:Nat):k6 (n+3) 2=ej 2:=by have:=xj (n+3) 2;simpa using this
theorem zw(r:α->D) : ∀(l:List α),(∀x∈l,zP T k f γ [g x]=ej [r x])->zP T k f γ (l.map g)=ej (l.map r)
 | [],_=>rfl
 | x::l,h=>by
  have a:=h x Mx;have i:=zw r l λy z=>h y<|Ms _ z;simp only[MT,zP]at a ⊢;cases e1:xH T (g x) γ with
  | none=>rw[e1]at a;simp at a
  | some d=>
   rw[e1]at a;simp only[Mj]at a ⊢;cases e2:k d with
   | none=>rw[e2]at a;simp at a
   | some b=>
    rw[e2]at a;simp only[Mj]at a ⊢;cases b with
    | false=>simp at a
    | true=>
     simp only[UJ]at a ⊢;cases e3:f d with
     | none=>rw[e3]at a;simp at a
     | some e=>
      rw[e3]at a;simp at a;rw[i];simp[a]
theorem zx(C:xH T d γ=ej γ1)(I:k γ1=ej eA)(z:f γ1=ej e):zP T k f γ [d]=ej [e]:=by simp[zP,C,I,z]
theorem jM(T F d ds γ):xq T F (d::ds) γ=(xH T d γ).bind λγ1=>(F γ1).bind λI=>match I with
 | .next z=>xq T F ds z
 | .cont z=>xq T F ds z
 | .brk z=>ej (.next z)
 | .ret r=>ej (.ret r):=rfl
theorem VI(P:Nat->Ctx->Prop) : ∀(ds:List D) (k:Nat) (γ:Ctx),P k γ->(∀i d γ,ds[i]? = ej d->P (k+i) γ->∃γ',((xH T d γ).bind F=ej (.next γ')\/(xH T d γ).bind F=ej (.cont γ'))/\P (k+i+1) γ')->
 ∃γ',xq T F ds γ=ej (.next γ')/\P (k+ds.length) γ'
 | [],k,γ,h,_=>⟨γ,rfl,h⟩
 | d::ds,k,γ,h,step=>by
  obtain⟨a,e,f⟩:=step 0 d γ rfl h;obtain⟨γ',z,g⟩:=VI P ds (k+1) a (by simpa using f) (λi b I j O=>by have:=step (i+1) b I (by simpa using j) (by rw[show k+(i+1)=k+1+i by omega];exact O);rw[show k+(i+1)+1=k+1+i+1 by omega]at this;exact this)
  refine⟨γ',?_,by rw[show k+(d::ds).length=k+1+ds.length by simp;omega];exact g⟩;rw[jM];cases eb:xH T d γ with
  | none=>rw[eb]at e;simp at e
  | some U=>
   rw[eb]at e;simp only[Mj]at e ⊢;rcases e with e | e<;>rw[e]<;>exact z
def zH(n:Nat)(f:Nat->Int):List D:=(Me n).map λi=>D.int<|f i
theorem jf(n f):zH n f=(Me n).map λi=>D.int (f i):=rfl
def jd(h w:Nat)(f:UV):List D:=(Me h).map λi=>D.tup<|zH w<|f i
def z6(h w:Nat)(f:UV):D:= .tup [.int h,.int w,.tup (jd h w f)]
@[simp] theorem JE(n f):(zH n f).length=n:=by simp[zH]
@[simp] theorem oN(h w f):(jd h w f).length=h:=by simp[jd]
@[simp] theorem Hd(f)(h:i<(zH n f).length):(zH n f)[i] = .int (f i):=by simp[zH]
theorem Yg(f)(h:i<n):(zH n f)[i]? = ej (.int<|f i):=by simp[zH,h]
@[simp] theorem He(f)(C:i<(jd h w f).length):(jd h w f)[i] = .tup (zH w<|f i):=by simp[jd]
theorem xW(h : ∀i,i<n->f i=g i):zH n f=zH n g:=by unfold zH;apply MA;intro i a;rw[h i (Mg.mp a)]
theorem Yh(e : ∀i j,i<h->j<w->f i j=g i j):jd h w f=jd h w g:=by unfold jd;apply MA;intro i a;rw[xW λj z=>e i j (Mg.mp a) z]
theorem JG{h w:Nat}{f g:UV}(e : ∀i j,i<h->j<w->f i j=g i j):z6 h w f=z6 h w g:=by unfold z6;rw[Yh e]
theorem jW(n:Nat):wW 0 n=zH n λi=>(i:Int):=by simp[wW,zH]
theorem Jw(n:Nat)(f g:Nat->Int):Yu (zH n f) (zH n g)=(Me n).map λi=>D.tup [.int (f i),.int (g i)]:=by unfold Yu zH;rw[OP];simp
theorem mf(n w:Nat)(f g:UV):Yu (jd n w f) (jd n w g)=(Me n).map λi=>D.tup [.tup (zH w<|f i),.tup (zH w<|g i)]:=by unfold Yu jd;rw[OP];simp
def zm(f:Nat->Int):Nat->Int
 | 0=>0
 | n+1=>zm f n+f n
theorem JX : ∀(xs:List Int) (y:Int),fj (xs.map D.int++[.int y])=(fj<|xs.map D.int).map λs=>s+y
 | [],y=>by simp[fj]
 | x::xs,y=>by simp only[MT,Si,fj];rw[JX xs y];cases e:fj (xs.map D.int)<;>simp[Int.add_assoc]
theorem JW(f:Nat->Int) : ∀n,fj (zH n f)=ej (zm f n)
 | 0=>rfl
 | n+1=>by
  have z:=JW f n;have e : ∀m,zH m f=((Me m).map f).map D.int:=λm=>by simp[zH]
  rw[e]at z ⊢;rw[Oc,NA,NA,SS,SS,JX,z];simp[zm]
def kf:=jr 2<|qv<|zM<|jm<|zK (zN<|zh 1) (.nm 0) 1 [0] jb (zy qw (zc 0)<|zc 1)
noncomputable def dW:=jr 3<|qv<|zD kf<|zb (zc 0)<|zb (qh<|zK (zN<|zW<|eL (zh 1)<|zu<|.int 2) (.nm 0) 1 [2] jb (sT<|jm<|zK (aH (zc 0)<|zc 1) (.tp [0,1]) 2 [] jb (zy xJ (zc 0)<|zc 1))) zI
noncomputable def qB:=jr 2<|zJ (jy 1<|qh<|zK (z7<|eL (zh 0)<|zu<|.int 1) (.nm 0) 1 [0] jb (zM<|jm<|zK (zN<|zW<|eL (zh 1)<|zu<|.int 2) (.nm 0) 1 [0] jb (eL (zh 0)<|zc 1)))<|qv<|qW<|zb (eL (zh 0)<|zu<|.int 1)<|zb (eL (zh 0)<|zu<|.int 0)<|zb (zM<|zh 1) zI
noncomputable def yF:=jr 4<|zJ (jy 3<|zD qB<|zb (zc 2) zI)<|qv<|qW<|zb (eL (zh 1)<|zu<|.int 0)<|zb (eL (zh 2)<|zu<|.int 1)<|zb (zM<|jm<|zK (zN<|zW<|eL (zh 1)<|zu<|.int 2) (.nm 0) 1 [0,3] jb (zD dW<|zb (zc 1)<|zb (zc 2)<|zb (zc 0) zI)) zI
noncomputable def qy:=jr 2<|zJ (jy 1<|qh<|zK (z7<|zc 0) (.nm 0) 1 [0] jb (zM<|jm<|zK (z7<|zc 1) (.nm 0) 1 [0] jb (cL (sB<|zy hG (zc 1)<|zc 0) (zu<|.int 1)<|zu<|.int 0)))<|qv<|qW<|zb (zc 0)<|zb (zc 0)<|zb (zM<|zh 1) zI
def jE:=jr 1<|qv<|cM (p6 .int<|zc 0)<|EG<|p6 .bool<|zc 0
noncomputable def Zw:=jr 3<|zJ (ZA (Wd (zu<|.int 1)<|zc 0) (.nm 2)<|kr (sB<|zy hG (zy qw (zy xJ (zc 1)<|zc 2)<|zc 0)<|zu<|.int 1) (Wc 2) j9) YT
noncomputable def xf:=jr 5<|zJ (jy 4<|eL (zh 1)<|zc 3)<|zJ (kr (sB<|zy hG (zc 4)<|zu<|.int 0) (Wc 1) j9)<|qv<|zD kf<|zb (zc 0)<|zb (qh<|zK (aH (zc 1)<|zc 2) (.tp [0,1]) 2 [4] jb (zy JI (zc 0)<|zy xJ (zc 2)<|zc 1)) zI
noncomputable def ka:=jr 9<|zJ (jy 3<|qh<|zK (zN<|zh 2) (.nm 0) 1 [0] jb (zD kf<|zb (zc 1)<|zb (zc 0) zI))<|zJ (wz 4<|kG zI)<|zJ (ZA (z7<|zc 1) (.nm 5)<|zJ (jy 6<|qh<|zK (zN<|zh 3) (.nm 0) 1 [5] (sB<|zy i7 (eL (zh 0)<|zc 1)<|zu<|.int 0) (zc 0))<|zJ (kr (jU<|sS<|zh 6) sW j9)<|zJ (jy 7<|zD Zw<|zb (zc 0)<|zb (eL (zW<|eL (zh 6)<|zu<|.int 0)<|zc 5) zI)<|zJ (jy 8<|zD kf<|zb (zc 0)<|zb (qh<|zK (zN<|zW<|eL (zh 6)<|zu<|.int 0) (.nm 0) 1 [7] jb (zy xJ (zc 1)<|zc 0)) zI)<|zJ (jy 3<|qh<|zK (zN<|zh 3) (.nm 0) 1 [0,5,8] jb (zD xf<|zb (zc 1)<|zb (zc 0)<|zb (zc 3)<|zb (zc 2) zI))<|wz 4<|We (jm<|zK (zN<|zh 4) (.nm 0) 1 [0,5,8] jb (zD xf<|zb (zc 1)<|zb (zc 0)<|zb (zc 3)<|zb (zc 2) zI))<|jm<|kG<|zb (zc 8) zI)<|Wc 4
noncomputable def xi:=jr 2<|Jp<|zK (zN<|zh 1) (.nm 0) 1 [0] (jU<|sB<|Aw<|zW<|YS (zc 0) Yv<|t6<|zc 1) (YS (zc 0) (t6<|zc 1) Yv)
noncomputable def kE:=jr 5<|zJ (jy 3<|qh<|zK (aH (eL (zW<|zD qB<|zb (zc 1) zI)<|zu<|.int 2)<|eL (zW<|zD qy<|zb (eL (zh 1)<|zu<|.int 1) zI)<|zu<|.int 2) (.tp [0,1]) 2 [] jb (zy j3 (zc 0)<|zc 1))<|zJ (jy 4<|qh<|zK (zN<|zh 2) (.nm 0) 1 [1] jb (zy j3 (zc 0)<|zy xJ (qW<|zb (zu<|.int 0) zI)<|eL (zh 1)<|zu<|.int 1))<|Jp<|jV xi<|zb (eL (zh 1)<|zu<|.int 0)<|zb (qh<|jV ka<|zb (zc 0)<|zb (zy j3 (eL (zh 1)<|zu<|.int 0)<|eL (zh 1)<|zu<|.int 1)<|zb (qh<|We (zh 3)<|zh 4) zI) zI
def vZ:=jr 2<|Jp<|jV kE<|zb (zc 0)<|zb (zc 1)<|zb (qh<|kG zI) zI
noncomputable def ZZ:=jr 2<|Jp<|jV ka<|zb (zc 0)<|zb (eL (zh 1)<|zu<|.int 0)<|zb (eL (zW<|zD qB<|zb (zc 1) zI)<|zu<|.int 2) zI
section
variable(γ:Ctx)
@[simp] def IK:=@LV.eq_1
@[simp] def HM:=@Lm.eq_1
@[simp] def FE:=@Ic.eq_1
end
noncomputable def xc:=jr 1<|qv<|eL (jm<|zK (XF<|zc 0) (.tp [0,1]) 2 [] (sB<|zy i7 (zc 1)<|zu<|.int 0) (zc 0))<|zu<|.int 0
noncomputable def vY:=jr 7<|zJ (jy 3<|eL (zh 1)<|zu<|.int 1)<|zJ (wz 4<|sU (jm<|kG<|zb (zu<|.int 0) zI)<|zc 3)<|zJ (ZA (zN<|zW<|qh<|jV ka<|zb (zc 0)<|zb (zy j3 (zc 3)<|zu<|.int 1)<|zb (qh<|zK (aH (eL (zh 1)<|zu<|.int 2)<|zc 2) (.tp [0,1]) 2 [] jb (zy j3 (zc 0)<|qW<|zb (zc 1) zI)) zI) (.nm 5)<|zJ (jy 6<|zD xc<|zb (zc 5) zI)<|zJ (kr (sB<|zy hG (zc 6)<|zc 3) (qv<|zu .gm) j9)<|J9 4 (zc 6)<|eL (zh 5)<|zc 3)<|qv<|zM<|zh 4
section
variable(γ:Ctx)
@[simp] def HG:=@XF.eq_1
@[simp] def IG:=@LR.eq_1
@[simp] def IH:=@LS.eq_1
@[simp] theorem FF(F G a b c):kX F G a b c γ=(a γ).bind λx=>(b γ).bind λy=>((F x y).bind vl).bind λk=>if k=eA then (c γ).bind λz=>G y z else ej (.bl eK):=rfl
@[simp] def Hq:=@fG.eq_1
end
noncomputable def kO:=jr 5<|zJ (jy 2<|eL (zh 1)<|zu<|.int 0)<|zJ (kr (sB<|zy i7 (eL (zh 1)<|zu<|.int 1)<|zc 2) (qv<|zu .gm) j9)<|zJ (jy 3<|eL (zW<|zD qy<|zb (zc 2) zI)<|zu<|.int 2)<|zJ (jy 4<|qh<|jV ka<|zb (zc 0)<|zb (zy j3 (zc 2)<|zc 2)<|zb (qh<|zK (aH (eL (zh 1)<|zu<|.int 2)<|zc 3) (.tp [0,1]) 2 [] jb (zy j3 (zc 0)<|zc 1)) zI)<|zJ (kr (sB<|zy i7 (qh<|zK (zN<|zh 4) (.nm 0) 1 [2] jb (YS (zc 0) Yv<|t6<|zc 1))<|qh<|fI<|zh 3) (qv<|zu .gm) j9)<|qv<|qW<|zb (zc 2)<|zb (zc 2)<|zb (zM<|jm<|zK (zN<|zh 4) (.nm 0) 1 [2] jb (YS (zc 0) (t6<|zc 1) Yv)) zI
section
variable(γ:Ctx)
@[simp] theorem Hu(i f):Wb i f γ=(f γ).bind λC=>if γ.any qm=eK then ej (.next<|γ.set i<|.nest C)else eF:=rfl
@[simp] def FD:=@Jc.eq_1
@[simp] def Eu:=@QA.eq_1
@[simp] def II:=@Ia.eq_1
@[simp] def HF:=@fJ.eq_1
@[simp] def Fy:=@HY.eq_1
end
@[simp] theorem pf(r):k9 (ej (.nest r))=ej r:=rfl
section
variable(γ:Ctx)
@[simp] def pz:=@YR.eq_1
@[simp] def Am:=@YU.eq_1
@[simp] def HJ:=@Lj.eq_1
@[simp] def W8:=@cK.eq_1
end
noncomputable def qJ:=jr 2 (qv (cL (sB (zy hG (zc 1) (zu (.str "r")))) (zc 0) (zy j3 (zc 0) (zu (.int 1)))))
noncomputable def wb:=jr 2 (qv (cL (sB (zy hG (zc 1) (zu (.str "r")))) (zy j3 (zc 0) (zu (.int 1))) (zc 0)))
noncomputable def qI:=jr 7<|zJ (jy 5<|eL (zh 2)<|zu<|.int 0)<|zJ (jy 6<|zD yF<|zb (zc 0)<|zb (eL (zh 3)<|zD wb<|zb (zc 1)<|zb (zc 5) zI)<|zb (eL (zh 2)<|zu<|.int 1) zI)<|qv<|qW<|zb (zc 5)<|zb (zD yF<|zb (zc 0)<|zb (zc 6)<|zb (eL (zh 4)<|zD qJ<|zb (zc 1)<|zb (zc 5) zI) zI) zI
noncomputable def wa:=jr 4<|zJ (jy 3<|qh<|zK (XF<|eL (zh 0)<|zu<|.int 2) (.tp [0,1]) 2 [0,1,2] jb (zD qI<|zb (eL (zh 2)<|zu<|.int 0)<|zb (zc 0)<|zb (zc 1)<|zb (zc 3)<|zb (zc 4) zI))<|qv<|qW<|zb (eL (zh 0)<|zu<|.int 0)<|zb (eL (zh 0)<|zu<|.int 1)<|zb (zM<|zh 3) zI
def sV(f:CO D):CO D:=λa=>(f a).map λd=> .bl (WM .list d || WM .tuple d)
def v9:=jr 1<|qv<|cM (p6 .int<|zc 0)<|EG<|p6 .bool<|zc 0
def vM:=jr 2<|qv<|cM (zD v9<|zb (zc 1) zI)<|kX p5 Df (zu<|.int 0) (zc 1)<|zc 0
def y8:=jr 2<|qv<|cM (sV<|zc 0)<|zy hG (kD<|zh 0)<|zc 1
noncomputable def Zu:=jr 1 (qv (cK (zu (.str "")) (jm (zK (zN (zW (eL (zh 0) (zu (.int 2))))) (.nm 0) 1 [] jb (eL (zh 0) (zu (.int 0)))))))
section
variable{X:Cx}{sc:jn}{N L:List Str}{k:Nat}{a e:fA}{es:List fA}{f:CO D}{g:CO (List D)}{pos p p2:h8}
theorem nq(O:PV X e f)(U:DE e eF pos.line X.env=pure eK:=by rfl):n7 X (.Expr e pos) (Bh f):=kQ (gh O U) λD k H Y=>by obtain⟨E0,E,g,j,l,I,z,h⟩:=Y;obtain⟨d,i,z⟩:=zB z;subst z;exact⟨g,j,d,I.rc,i,λv b a x r=>h k b a<|I.step x⟩
structure GL(K:Mf)(mg:UZ)(x:Str)(d:D):Prop where
 ex : ∃u v,mg x=ej u/\RelV v u/\∀H,Rep K H d v
theorem tE{x:Str}{d:D}(h:SX X sc N L k)(c:yj sc x=eA)(z:GL X.K X.mg x d):PV X (.Name x pos) (zu d):=by intro b s j H Q I ⟨a,i,g,rc,O,q⟩;cases O;obtain⟨u,v,e,f,U⟩:=z.ex;exact WJ I (h.gl c).1 e ⟨v,H,I,f,q v H a (Ext.refl rc.sub)<|U a⟩ (h.gl c).2.2
theorem tx{U J:h8}{j:Nat}(h:SX X sc N L k)(c:yj sc "isinstance" = eA)(z:X.mg "isinstance" = eF)(Z:yj sc "list" = eA)(z2:X.mg "list" = eF)(c3:yj sc "tuple" = eA)(z3:X.mg "tuple" = eF)(ha:PV X a f)
 (hs:g8 [a,.Tuple [.Name "list" p2,.Name "tuple" U] j J] X.env=[(eK,fy a X.env),(eK,fy (.Tuple [.Name "list" p2,.Name "tuple" U] j J) X.env)]:=by rfl)
 (as:g8 [.Name "list" p2,.Name "tuple" U] X.env=[(eK,fy (.Name "list" p2) X.env),(eK,fy (.Name "tuple" U) X.env)]:=by rfl) :
 PV X (.Call (.Name "isinstance" p) [a,.Tuple [.Name "list" p2,.Name "tuple" U] j J] [] pos) (sV f):=by
 intro g s σ H Q I ⟨H0,γ,d,rc,ef,q⟩;obtain⟨M,e1,e2⟩:=zB ef;subst e2;refine Pe (kj I (h.gl c).1 z SE ?_ ⋯ ⋯);refine PH ?_ (by rw[hs];rfl) rfl;rw[hs];show wpAny _ _ (DW ((eK,fy a X.env)::vr pos [(eK,fy (.Tuple [.Name "list" p2,.Name "tuple" U] j J) X.env)])) _ _ s;refine Oo (gu (ha g s σ H (λv H'=>∃m,Ext H0 H m H'/\Rep X.K m M v) I ⟨H0,γ,M,rc,e1,λv H' m x r=>⟨m,x,r⟩⟩) λu l hZ=>?_);obtain⟨x,S,T,Y,G,x1,B⟩:=hZ;show wpAny _ _ (DW ((eK,fy (.Tuple [.Name "list" p2,.Name "tuple" U] j J) X.env)::[])) _ _ l;refine Oo (_W ?_);rw[as];show wpAny _ _ (DW ((eK,fy (.Name "list" p2) X.env)::vr J [(eK,fy (.Name "tuple" U) X.env)])) _ _ l;refine Oo (kj T (h.gl Z).1 z2 RG ?_ (h.gl Z).2.1 (h.gl Z).2.2);show wpAny _ _ (DW ((eK,fy (.Name "tuple" U) X.env)::[])) _ _ l;refine Oo (kj T (h.gl c3).1 z3 Rv ?_ (h.gl c3).2.1 (h.gl c3).2.2);refine Rc ⟨by decide,?_⟩;refine Rc ?_;have O:L2.Inv X g σ S {l with heap:=l.heap.push {cls:= .type "tuple",data:= .seq #[.type "list",.type "tuple"]},toks:=l.toks}:=T.kept λb u e=>Mh _ e;have tp:(l.heap.push {cls:= .type "tuple",data:= .seq #[.type "list",.type "tuple"]}).get? l.heap.objs.size=ej ⟨.type "tuple",eF,.seq [Py "list",.type "tuple"].toArray 0,#[]⟩:=Mz _ rfl;have A : ∀tk,EP X g σ Q (.bool (WM .list M || WM .tuple M)) {l with heap:=l.heap.push {cls:= .type "tuple",data:= .seq #[.type "list",.type "tuple"]},toks:=tk}:=λtk=>⟨.bl _,S,O.tok tk,rfl,q _ S G x1 rfl⟩;have any : ∀{t:fh} {b1 b2:Bool},OA X.K t (.type "list")=ej b1->OA X.K t (.type "tuple")=ej b2->PySem.W.kitAny X.K t [.type "list",.type "tuple"]=ej (b1 || b2):=λ{t b1 b2} g1 g2=>by
  unfold PySem.W.kitAny;rw[g1];cases b1 with
  | true=>rfl
  | false=>
   dsimp only;unfold PySem.W.kitAny;rw[g2];cases b2<;>rfl
 cases M with
 | gm=>cases (show x = .gm from B);cases (show u=Nd from Y);exact OH SM O.m6 Oq tp (any (ky .list .gm)<|ky .tuple .gm) (λz=>nomatch z) A
 | bl y=>cases (show x = .bl y from B);cases (show u=SV y from Y);exact OH SN O.m6 Oq tp (any (ky .list<|.bl y)<|ky .tuple<|.bl y) (λz=>nomatch z) A
 | int i=>cases (show x = .int i from B);obtain⟨t,qq⟩:=(show ∃t,u=Sn i t from Y);cases qq;exact OH SY O.m6 Oq tp (any (ky .list<|.int i)<|ky .tuple<|.int i) (λz=>nomatch z) A
 | str y=>cases (show x = .str y from B);obtain⟨t,qq⟩:=(show ∃t,u=Sm y t from Y);cases qq;exact OH SW O.m6 Oq tp (any (ky .list<|.str y)<|ky .tuple<|.str y) (λz=>nomatch z) A
 | tup P=>
  obtain⟨a,n,rfl,C,h2⟩:=yf B;cases (show u=NS a from Y);obtain⟨b7,rv,⟨o,R,hc,_⟩,hz⟩:=O.tuple<|p8 x1.sub C;exact OH SD O.m6 ⟨o,R,hc⟩ tp (any (ky .list<|.tup P)<|ky .tuple<|.tup P) (λz=>nomatch z) A
 | lst P=>
  obtain⟨a,n,rfl,C,h2⟩:=WC B;cases (show u=NS a from Y);obtain⟨b7,rv,p,hz⟩:=O.list<|x1.sub.seq C;obtain⟨o,R,hc,_⟩:=p.isList;exact OH RI O.m6 ⟨o,R,hc⟩ tp (any (ky .list<|.lst P)<|ky .tuple<|.lst P) (λz=>nomatch z) A
 | ow E F=>
  obtain⟨a,n,rfl,⟨kk,_,_,C⟩,_⟩:=(show ∃a n,x = .ref a/\DJ G a E n/\ft X.K G F n from B);cases (show u=NS a from Y);obtain⟨_,_,bd,_,dd⟩:=CY O.g5<|x1.sub _ _ C;exact OH PR O.m6 dd.typeIs tp (any (ky .list<|.ow E F)<|ky .tuple<|.ow E F) (λz=>nomatch z) A
 | ni E F=>
  obtain⟨a,n,rfl,⟨_,o,zs,C,h2,_⟩,_⟩:=(show ∃a n,x = .ref a/\I7 X.K G a E n/\ft X.K G F n from B);cases (show u=NS a from Y);obtain⟨R,_⟩:=(show nh X.prog X.w S _ a (TV a o)from O.g5 a _<|x1.sub _ _ C);exact OH PR O.m6 ⟨o,R,h2.1.1⟩ tp (any (ky .list<|.ni E F)<|ky .tuple<|.ni E F) (λz=>nomatch z) A
end
section
variable{K:Mf}{mg:UZ}{h:gB}
theorem Iq{x:Str}{n:Int}{t:tw}(z:K.In h)(G:h.Ns xb mg)(a:SO K xb x=ej (ej (.int n t))):GL K mg x (.int n):=
 ⟨_,.int n,PySem.W.mg_of z G a,⟨t,rfl⟩,λ_=>(show V.int n = .int n from rfl)⟩
end
theorem ki(h:DO X es n g):Dt X es g:=h.1
section
variable{K:Mf}{E0 E H0 H:Hp}{σ:St}{γ:Ctx}
theorem ft.dropLast : ∀{ds:List D} {xs:List V},ft K H ds xs->ft K H ds.dropLast xs.dropLast
 | [],xs,r=>by rw[r.uh];exact ft.nil
 | [d],xs,r=>by obtain⟨x,b,e,_,a⟩:=r.q5;rw[e,a.uh];exact ft.nil
 | d::d2::ds,xs,r=>by obtain⟨x,b,e,z,a⟩:=r.q5;obtain⟨O,U,I,_,_⟩:=a.q5;subst e I;exact ft.cons z<|ft.dropLast a
theorem RS._J(r:RS K E0 E H0 H σ γ)(C:γ[j]? = ej (.nest R))(J:σ[j]? = ej (ej (.ref a)))(Z:t8 K H0 H R a bs)
 (S : ∀(k:Nat) ds c,γ[k]? = ej (.own ds)->σ[k]? = ej (ej (.ref c))->c∉a::Y) (n':t8 K H0 (upd H a<|.lst<|Y.map V.ref) R' a Y) (ef : ∀b∈Y,E b=eF) :
 RS K E0 E H0 (upd H a<|.lst<|Y.map V.ref) σ (γ.set j<|.nest R'):=by
 have s:j<γ.length:=(Mv.mp C).1;obtain⟨l,L⟩:=r.A7 j R a _ C J Z.ha;have i:=Z.a0;have O : ∀{k:Nat} {c:Cell},(∀e,c ≠ .nest e)->(γ.set j<|.nest R')[k]? = ej c->γ[k]? = ej c:=λ{k c} hc g=>by
  rcases zE g with⟨_,z,_⟩ | ⟨h,z⟩
  ·exact absurd z<|hc _
  ·exact z
 have f : ∀{k e},(γ.set j<|.nest R')[k]? = ej (.nest e)->k=j:=λ{k e} g=>by
  rcases zE g with⟨z,_,_⟩ | ⟨_,z⟩
  ·exact z
  ·exact r.rc.n0.2 k j e R z C
 refine⟨⟨λc o q=>?_,by simp[r.rc.len],λk d g=>r.rc.val k d<|O ⋯ g,λk ds g=>?_,λk m c ds y t u w x=>r.rc.ne k m c ds y (O ⋯ t) (O ⋯ u) w x,⟨λk e g=>?_,λk m M N I g2=>?_⟩⟩,⟨r.ext.s0,λc o q=>?_,λc o q=>?_,r.ext.new⟩,λk ds c I g2=>r.fresh k ds c (O ⋯ I) g2,λk e c p I g2 U=>?_⟩
 ·rw[zL (λz=>by rw[z,i]at q;cases q)];exact r.rc.sub c o q
 ·have z:=O ⋯ g
  obtain⟨c,p,n,A,B,F⟩:=r.rc.own k ds z;refine⟨c,p,n,A,?_,F⟩;rw[zL (λq=>S k ds c z n<|by rw[q];exact Mx)];exact B
 ·have h:=f g
  subst h;rw[ME s]at g;cases g;exact⟨a,Y,J,n',λm ds c I g2=>S m ds c (O ⋯ I) g2⟩
 ·rw[f I,f g2]
 ·rw[zL (λz=>by rw[z,l]at q;cases q)];exact r.ext.s1 c o q
 ·rw[zL (λz=>by rw[z,i]at q;cases q)];exact r.ext.sub c o q
 ·have h:=f I
  subst h;rw[J]at g2;cases g2;rw[zQ]at U;injection U with U;injection U with U;subst U;refine⟨l,λb G=>?_⟩;obtain⟨c,hc,q⟩:=MD.mp G;cases q;exact ef b hc
end
section
variable{X:Cx}{sc:jn}{N L:List Str}{k:Nat}{a b e:fA}{pos p p2:h8}{f g:CO D}
theorem ZC(h:KW j g γ=ej t):γ[j]? = ej (.nest t.1)/\∃d i,g γ=ej d/\o4 d=ej i/\k6 t.1.length i=ej t.2.1/\t.1[t.2.1]? = ej t.2.2:=by obtain⟨R,a,h⟩:=ze h;obtain⟨i,z,h⟩:=ze h;obtain⟨d,I,z⟩:=ze z;obtain⟨k,O,h⟩:=ze h;obtain⟨row,U,h⟩:=zB h;subst h;exact⟨yV a,d,i,I,z,O,U⟩
theorem fN{K:Mf}{H0 H:Hp}{R:List (List D)}{a:fe}{bs:List fe}{i:Int}{t:Nat}(C:t8 K H0 H R a bs)(J:k6 R.length i=ej t)(I:R[t]? = ej row) :
 ∃b xs,bs[t]? = ej b/\Dc (bs.map V.ref) i=ej (.ref b)/\H b=ej (.lst xs)/\ft K H0 row xs:=by
 have O:t<bs.length:=by rw[C.len];exact(Mv.mp I).1
 have z:bs[t]? = ej bs[t]:=Mi O;obtain⟨e,xs,d,U⟩:=C.row t _ _ z I;refine⟨_,xs,z,?_,d,U⟩;unfold Dc;rw[MF,C.len,QW J];show(bs.map V.ref)[t]? = _;rw[Nf,z];rfl
theorem cP{c:fA}{C:CO D}(J:PV X a C){O:CO (Sk×List D)}(Y:PQ X c O)(S:C0 .NotIn c=eK:=by with_unfolding_all rfl):o7 X (.Compare a [.NotIn] [c] pos) (sB<|KU C O):=
 Y5 (fZ Vd J Y S) λP H Q A=>by
  obtain⟨h,g,d,rc,z,q⟩:=A;obtain⟨G,n,w⟩:=ze z;obtain⟨x,o,z⟩:=ze n;obtain⟨⟨f,m⟩,s,z⟩:=ze z;obtain⟨i,t,z⟩:=ze z;obtain⟨l,u,rfl⟩:=zB z;cases w;refine⟨h,g,x,rc,o,λU F j x1 I=>⟨j,g,f,m,rc.ext x1,s,λp N b k E e M r=>?_⟩⟩;rw[jQ t]at I;have y:=VA r u;subst y;have B:h9 X.K b p (l.map V.int)\/i5 X.K b p (l.map V.int):=by
   cases f with
   | L=>exact .inl e
   | T=>exact .inr e
  refine⟨p,_,rfl,B,by rw[show U = .int i from I];rfl,VJ l,?_⟩;rw[show U = .int i from I,iD];exact⟨_,rfl,q b k<|x1.trans E⟩
end
end DL
namespace L2
open PySem PySem.Spec PyProof.Rows
noncomputable def O5(z:Str):It:=⟨λi _=>i<z.cps.size,λi H x a=>a=H/\∃c,z.cps[i]? = ej c/\x = .str ⟨#[c]⟩,λi _=>z.cps.size<=i⟩
theorem iy(z:Str):E8 z = "str_ascii_iterator"\/E8 z = "str_iterator":=by unfold E8;split<;>simp
theorem mE{P:l6}{w:i8}{K:Mf}{tg:fA}(z:Str)(t:tw)(it:fe):Turn P w K tg (O5 z) [it] it (λi h=>h.IsStrIter it (E8 z) z t i) where
 mem:=by simp
 obj:=λi h st b O=>by
  have e:b=it:=by simpa using O
  subst e;obtain⟨o,e,c,d⟩:=st;exact⟨o,e,λv q=>by rw[d]at q;cases q⟩
 keep:=λi h h' st k=>by obtain⟨o,e,r⟩:=st;exact⟨o,k it ⋯ o e,r⟩
 item:=by
  rintro X rfl rfl rfl hc i pins s σ H E I hf st hg;obtain⟨f0,f1,f2,f3,f4,f5⟩:=hf it ⋯;have hi:i<z.cps.size:=hg;have hx:z.cps[i]? = ej z.cps[i]:=by simp[hi]
  have a9 : ∀h',h'.IsStrIter it (E8 z) z t (i+1)->ON it s.heap h'->wpAny (f7 X.prog X.w) X.A (M3 tg (.ref it)<|.str ⟨#[z.cps[i]]⟩ s.toks)
   (λ_ s2=>∃x H',Inv X pins σ H' s2/\RelV x (.str ⟨#[z.cps[i]]⟩ s.toks)/\(O5 z).C6 i H x H'/\s2.heap.IsStrIter it (E8 z) z t (i+1)/\∀b ∈ [it],H' b=eF) E {s with heap:=h',toks:=s.toks+1}:=λh' U Y=>by
   have I1:Inv X pins σ H {s with heap:=h',toks:=s.toks+1}:=I.turned (λb o O e=>(Y.2 b O).trans e) f0 f1 f3 f4 f5;obtain⟨o,e,c,d⟩:=id U;refine oM (s:={s with heap:=h',toks:=s.toks+1}) e c d ?_ ⟨.str ⟨#[z.cps[i]]⟩,H,I1,⟨_,rfl⟩,⟨rfl,_,hx,rfl⟩,U,λb O=>(hf b O).1⟩;rcases iy z with q | q<;>rw[q]<;>decide
  rcases iy z with q | q
  ·rw[q]at st
   exact wpAny_pyNext_ascii_item st hx λh' U Y=>⟨_,rfl,a9 h' (by rw[q];exact U) Y⟩
  ·rw[q]at st
   exact wpAny_pyNext_wide_item st hx λh' U Y=>⟨_,rfl,a9 h' (by rw[q];exact U) Y⟩
 done:=by
  rintro X rfl rfl rfl hc i pins s σ H E I hf st hg;obtain⟨f0,f1,f2,f3,f4,f5⟩:=hf it ⋯;have hi:z.cps.size<=i:=hg;have hx:z.cps[i]? = eF:=by simp[hi]
  have hh:=I.ok.hd hc;rcases iy z with q | q
  ·rw[q]at st
   exact wpAny_pyNext_ascii_end hh st hx λh' eb=>⟨rfl,I.turned (t':=s.toks) (λb o O e=>eb b o O e) f0 f1 f3 f4 f5⟩
  ·rw[q]at st
   exact wpAny_pyNext_wide_end hh st hx λh' eb=>⟨rfl,I.turned (t':=s.toks) (λb o O e=>eb b o O e) f0 f1 f3 f4 f5⟩
 self:=λA i s Q E st h=>by
  rcases iy z with q | q
  ·rw[q]at st;exact wpAny_pyIter_striter_ascii st h
  ·rw[q]at st;exact wpAny_pyIter_striter_wide st h
def LB(C:TE):TI:=λb H R=>C b H λx a=>∃z,x = .str z/\R (O5 z) a
theorem BL{X:Cx}{J l:fA}{C:TE}(U:PE X l C):PI X J l (LB C):=by
 intro a s k H R I h;refine gu (U a s k H _ I h) λv d Y=>?_;obtain⟨x,f,O,j,i⟩:=Y;obtain⟨z,rfl,q⟩:=i;obtain⟨t,rfl⟩:=j;refine wpAny_pyIter_strU ?_;refine⟨d.heap.objs.size,[d.heap.objs.size],_,_,f,rfl,O.kept (t':=d.toks) λb o e=>Mh _ e,mE z t _,⟨_,Mz _ rfl,rfl,rfl⟩,λb g=>?_,q⟩;have e:b=d.heap.objs.size:=by simpa using g
 subst e;exact O.C1 (Mp _)<|O.g5.fresh<|Mp _
theorem bC{X:Cx}{C:UQ}{σ:St}{H:Hp}{s:f6}{E:EQ}{z it:fe}{i Y:Nat}{x:fh}{v:V}{g:gB}{J:List fA}{x1:Nat}{S:h8}{Q:Unit->f6->Prop}
 (I:Inv X C σ H s) (Z : ∀b ∈ [z,it],Jm X C H b) (hz:z<s.heap.objs.size) (hi:it<s.heap.objs.size) (a1:Tw g z it ((i:Int)+1) x s.heap.objs.size)
 (a3:rp g s.heap.objs.size (.int i Y) x) (a5 : ∀b o,b≠z->b≠it->s.heap.get? b=ej o->g.get? b=ej o) (rx:RelV v x)
 (ac : ∀g2,B1 g2 z it ((i+1:Nat):Int) x->ON z g g2->Inv X C σ (upd H s.heap.objs.size<|.tup [.int i,v]) {s with heap:=g2,toks:=Y+1}->H s.heap.objs.size=eF->
   (∀b ∈ [z,it],upd H s.heap.objs.size (.tup [.int i,v]) b=eF)->Q () {s with heap:=g2,toks:=Y+1}) :
 wpAny (f7 X.prog X.w) X.A (M3 (.Tuple J x1 S) (.ref z)<|.ref s.heap.objs.size) Q E {s with heap:=g,toks:=Y+1}:=by
 refine b? a1 λg2 nr a=>?_;have d:rp g2 s.heap.objs.size (.int i Y) x:=a.extBut _ _ (Ob hz) a3;have h : ∀O u,O ∉ [z,it]->s.heap.get? O=ej u->g2.get? O=ej u:=λO u U e=>by simp only[Mu,ML,or_false,not_or]at U;exact a.extBut _ _ U.1<|a5 O u U.1 U.2 e
 refine ac g2 (by have:=nr;rwa [show((i:Int)+1)=((i+1:Nat):Int)by omega]at this) a (I.S4 (fp:=[z,it]) h Z (Mp _) ⟨by show 2<=hB;decide,[.int i Y,x],.cons ⟨_,rfl⟩<|.cons rx .nil,⟨_,d,rfl,_,rfl⟩⟩) I.fresh λO U=>?_;have f:O≠s.heap.objs.size:=by
  simp only[Mu,ML,or_false]at U;rcases U with rfl | rfl
  ·exact MP hz
  ·exact MP hi
 rw[zL f];exact(Z O U).1
noncomputable def HU(K:Mf)(a:fe):It:=
 ⟨λi H=>∃b,h9 K H a b/\i<b.length,
  λi H x d=>∃p u,x = .ref p/\H p=eF/\d=upd H p (.tup [.int i,u])/\(∀b,h9 K H a b->b[i]? = ej u),
  λi H=>∃b,h9 K H a b/\b.length=i⟩
theorem cp{P:l6}{w:i8}{K:Mf}{elts:List fA}{x1:Nat}{u6:h8}{z it a:fe}(am:z≠it) :
 Turn P w K (.Tuple elts x1 u6) (HU K a) [z,it] z (λi h=>(∃Y,B1 h z it i Y)/\h.IsListIter it a i) where
 mem:=by simp
 obj:=λi h ⟨⟨Y,O⟩,h1⟩ y hy=>by
  simp only[Mu,ML,or_false]at hy;rcases hy with rfl | rfl
  ·exact⟨_,O,λv q=>by cases q⟩
  ·obtain⟨o,e,c,d⟩:=h1
   exact⟨o,e,λv q=>by rw[d]at q;cases q⟩
 keep:=λi h h' ⟨⟨Y,O⟩,h1⟩ k=>⟨⟨Y,k z ⋯ _ O⟩,h1.at λo e=>k it ⋯ o e⟩
 item:=by
  rintro X rfl rfl rfl hc i pins s σ H E I hf ⟨⟨Y,O⟩,h1⟩ ⟨xs,a7,b8⟩;obtain⟨a8,a9,p1,z1⟩:=I.list a7;have hl:=p1.isList;have hx:xs[i]? = ej xs[i]:=Mi b8;have l1:=a9.length;have as:a≠it:=λe=>by obtain⟨o,e1,U,_⟩:=hl;obtain⟨o2,e2,c2,_⟩:=h1;rw[e,e2]at e1;cases e1;rw[c2]at U;exact absurd U ⋯
  have bb:z≠a:=λe=>by obtain⟨o,e1,U,_⟩:=hl;have b6:s.heap.get? z=ej _:=O;rw[e,e1]at b6;cases b6;exact absurd U ⋯
  have bd:it<s.heap.objs.size:=by obtain⟨o2,e2,_⟩:=h1;exact MB e2
  have Dr:=Draws.list (prog:=X.prog) (w:=X.w) (A:=X.A.in1) (show X.A.in1.handled=eF from I.ok.hd hc) it a as a8.toArray;refine f? Dr O ⟨h1,hl⟩ (by simp;omega) am (by simp;exact⟨am,bb⟩) λx g tk hP a1 a2 a3 a4 a5=>⟨_,rfl,?_⟩;obtain⟨u1,bm,bn⟩:=a9.get hx;obtain rfl:u1=x:=by have:=hP;simp[bm]at this;exact this
  refine bC I hf (MB O) bd a1 a3 a5 bn λg2 b1 b2 I1 bx hn=>⟨.ref s.heap.objs.size,_,I1,rfl,⟨_,_,rfl,bx,rfl,λc8 c0=>by rw[I.Ur c0 a7];exact hx⟩,⟨⟨_,b1⟩,a2.1.at λo e=>b2.extBut _ _ am.symm e⟩,hn⟩
 done:=by
  rintro X rfl rfl rfl hc i pins s σ H E I hf ⟨⟨Y,O⟩,h1⟩ ⟨xs,a7,hi⟩;obtain⟨a8,a9,p1,z1⟩:=I.list a7;have hl:=p1.isList;have l1:=a9.length;have as:a≠it:=λe=>by obtain⟨o,e1,U,_⟩:=hl;obtain⟨o2,e2,c2,_⟩:=h1;rw[e,e2]at e1;cases e1;rw[c2]at U;exact absurd U ⋯
  have Dr:=Draws.list (prog:=X.prog) (w:=X.w) (A:=X.A.in1) (show X.A.in1.handled=eF from I.ok.hd hc) it a as a8.toArray;have en:a8.toArray.size=i:=by simp;omega
  rw[en]at Dr;refine e? Dr O ⟨h1,hl⟩ λg hk=>⟨rfl,?_⟩;refine I.Dk (t':=s.toks) (fp:=[z,it]) (λb' u hb e=>?_) hf;simp only[Mu,ML,or_false,not_or]at hb;exact hk b' u hb.2 e
 self:=λ_ _ _ _ _ st h=>yx st.1.choose_spec h
noncomputable def HS(z:Str):It:=
 ⟨λi _=>i<z.cps.size,λi H x a=>∃p c,x = .ref p/\H p=eF/\a=upd H p (.tup [.int i,.str ⟨#[c]⟩])/\z.cps[i]? = ej c,λi _=>i=z.cps.size⟩
theorem VL{prog:l6}{w:i8}{A:o6}(z:A.handled=eF)(it:fe)(x:Str)(t:tw) :
 Draws prog w A it [it] x.cps.size (λi v=>∃c u,x.cps[i]? = ej c/\v = .str ⟨#[c]⟩ u) (λi h=>h.IsStrIter it (E8 x) x t i):=by
 rcases iy x with q | q
 ·rw[q];exact Draws.strAscii z it x t
 ·rw[q];exact Draws.strWide z it x t
theorem cn{P:l6}{w:i8}{K:Mf}{elts:List fA}{x1:Nat}{u6:h8}{z it:fe}(x:Str)(t:tw)(Y:z≠it) :
 Turn P w K (.Tuple elts x1 u6) (HS x) [z,it] z (λi h=>(∃U,B1 h z it i U)/\h.IsStrIter it (E8 x) x t i) where
 mem:=by simp
 obj:=λi h ⟨⟨U,O⟩,h1⟩ y hy=>by
  simp only[Mu,ML,or_false]at hy;rcases hy with rfl | rfl
  ·exact⟨_,O,λv q=>by cases q⟩
  ·obtain⟨o,e,c,d⟩:=h1
   exact⟨o,e,λv q=>by rw[d]at q;cases q⟩
 keep:=λi h h' ⟨⟨U,O⟩,h1⟩ k=>⟨⟨U,k z ⋯ _ O⟩,by obtain⟨o,e,r⟩:=h1;exact⟨o,k it ⋯ o e,r⟩⟩
 item:=by
  rintro X rfl rfl rfl hc i pins s σ H E I hf ⟨⟨U,O⟩,h1⟩ ac;have am:it<s.heap.objs.size:=by obtain⟨o2,e2,_⟩:=h1;exact MB e2
  have Dr:=VL (prog:=X.prog) (w:=X.w) (A:=X.A.in1) (show X.A.in1.handled=eF from I.ok.hd hc) it x t;refine f? Dr O h1 ac Y (by simp;exact Y) λu g tk hP a1 a2 a3 a4 a5=>⟨_,rfl,?_⟩;obtain⟨c,tu,b5,rfl⟩:=hP;refine bC (v:= .str ⟨#[c]⟩) I hf (MB O) am a1 a3 a5 ⟨_,rfl⟩ λg2 b1 b2 I1 b7 hn=>⟨.ref s.heap.objs.size,_,I1,rfl,⟨_,_,rfl,b7,rfl,b5⟩,⟨⟨_,b1⟩,?_⟩,hn⟩;obtain⟨o,e,r⟩:=a2;exact⟨o,b2.extBut _ _ Y.symm e,r⟩
 done:=by rintro X rfl rfl rfl hc i pins s σ H E I hf ⟨⟨U,O⟩,h1⟩ hi;have hi:i=x.cps.size:=hi;subst hi;have Dr:=VL (prog:=X.prog) (w:=X.w) (A:=X.A.in1) (show X.A.in1.handled=eF from I.ok.hd hc) it x t;refine e? Dr O h1 λg hk=>⟨rfl,?_⟩;refine I.Dk (t':=s.toks) (fp:=[z,it]) (λb' u hb e=>?_) hf;simp only[Mu,ML,or_false,not_or]at hb;exact hk b' u hb.2 e
 self:=λ_ _ _ _ _ st h=>yx st.1.choose_spec h
noncomputable def CK(K:Mf)(C:TA):TI:=λf H R=>C f H λd b=>∃a,d=[.ref a]/\(∃e,h9 K b a e)/\R (HU K a) b
def CJ(C:TA):TI:=λd H R=>C d H λb a=>∃z,b=[.str z]/\R (HS z) a
section
variable{X:Cx}{e1:fA}{ta:TA}{p pos:h8}{elts:List fA}{x1:Nat}{u6:h8}
theorem nD(Y:Gl X "enumerate")(J:X.mg "enumerate" = eF)(C:PA X [e1] ta)
 (Z:Dd "enumerate" = ej (.type "enumerate")) (S:g8 [e1] X.env=[(eK,fy e1 X.env)]:=by rfl) :
 PI X (.Tuple elts x1 u6) (.Call (.Name "enumerate" p) [e1] [] pos) (CK X.K ta):=by
 intro b s n H R I h;refine D4<|kj I Y J Z<|Nr (gu (C pos b s n H _ I h) λt d j=>?_) (by rw[S];rfl) rfl;obtain⟨u,e,z,m,l⟩:=j;obtain⟨a,rfl,⟨x,f⟩,q⟩:=l;obtain⟨w,rfl,i⟩:=vg m;cases i;obtain⟨o,r,k,y⟩:=z.list f;refine call_enumerate_list k.isList λg b1 b2 b3 b4=>yx (s:={d with heap:=g}) b1 ?_;refine⟨_,[d.heap.objs.size+1,d.heap.objs.size],_,_,e,rfl,z.kept (t':=d.toks) b4,cp<|Ob<|Og _,⟨⟨_,b1⟩,b2⟩,λc O=>?_,q⟩;have U:d.heap.objs.size<=c:=by
  simp only[Mu,ML,or_false]at O;rcases O with rfl | rfl
  ·exact MS _ _
  ·exact Mp _
 exact z.C1 U<|z.g5.fresh U
theorem nC(J:Gl X "enumerate")(S:X.mg "enumerate" = eF)(C:PA X [e1] ta)
 (hv:Dd "enumerate" = ej (.type "enumerate")) (Z:g8 [e1] X.env=[(eK,fy e1 X.env)]:=by rfl) :
 PI X (.Tuple elts x1 u6) (.Call (.Name "enumerate" p) [e1] [] pos) (CJ ta):=by
 intro a s k H R I h;refine D4<|kj I J S hv<|Nr (gu (C pos a s k H _ I h) λl b f=>?_) (by rw[Z];rfl) rfl;obtain⟨m,d,O,j,i⟩:=f;obtain⟨z,rfl,q⟩:=i;obtain⟨n,rfl,e⟩:=vg j;obtain⟨t,rfl⟩:=e;refine call_enumerate_str λg b1 b2 b3 b4=>yx (s:={b with heap:=g}) b1 ?_;refine⟨_,[b.heap.objs.size+1,b.heap.objs.size],_,_,d,rfl,O.kept (t':=b.toks) b4,cn z t<|Ob<|Og _,⟨⟨_,b1⟩,b2⟩,λc U=>?_,q⟩;have Y:b.heap.objs.size<=c:=by
  simp only[Mu,ML,or_false]at U;rcases U with rfl | rfl
  ·exact MS _ _
  ·exact Mp _
 exact O.C1 Y<|O.g5.fresh Y
end
end L2
namespace DL
open PySem PySem.Spec PyProof.Rows L2
theorem wU(z:Str):(qD z).length=z.cps.size:=by simp[qD]
theorem aD(z:Str){i c:Nat}(h:z.cps[i]? = ej c):(qD z)[i]? = ej (.str ⟨#[c]⟩):=by simp[qD,h]
theorem mx{K:Mf}{H0 C:Hp}(z:Str):Walk K H0 C (O5 z) (qD z):=by
 refine⟨λi b s a=>?_,λb s=>?_,λi b x e s a y=>?_⟩
 ·rw[wU]at a;exact a
 ·rw[wU];exact Mp _
 ·obtain⟨rfl,c,I,rfl⟩:=y
  exact⟨_,aD z I,λd g f=>⟨d,Ext.refl f,rfl⟩⟩
theorem bZ{K:Mf}{H0 C:Hp}(z:Str):Walk K H0 C (HS z) (qF<|qD z):=by
 have I:(qF<|qD z).length=z.cps.size:=by simp[qF,wU]
 refine⟨λi b s a=>?_,λb s=>?_,λi b x e s a y=>?_⟩
 ·rw[I]at a;exact a
 ·rw[I];exact rfl
 ·obtain⟨p,c,rfl,O,rfl,U⟩:=y
  refine⟨.tup [.int i,.str ⟨#[c]⟩],?_,λd g f=>⟨upd d p<|.tup [.int i,.str ⟨#[c]⟩],Ext.alloc f O _,?_⟩⟩
  ·rw[I]at a
   unfold qF;rw[Nf,Ry (by rw[wU];exact a),Mr,aD z U];rfl
  ·exact xK (i5.of zQ)<|ft.cons (show V.int i = .int i from rfl)<|ft.cons (show V.str ⟨#[c]⟩ = .str ⟨#[c]⟩from rfl) ft.nil
theorem cc{K:Mf}{H0 C:Hp}{a:fe}{xs:List V}{ds:List D}(h:h9 K C a xs)(r:ft K H0 ds xs):Walk K H0 C (HU K a) (qF ds):=by
 have U:=r.length;have Y:(qF ds).length=ds.length:=by simp[qF]
 refine⟨λi b s k=>?_,λb s=>?_,λi b x g s k y=>?_⟩
 ·exact⟨xs,s.seq h,by omega⟩
 ·exact⟨xs,s.seq h,by omega⟩
 ·obtain⟨p,u,rfl,z,rfl,I⟩:=y
  obtain⟨d,j,O⟩:=r.Dg<|I xs<|s.seq h;refine⟨.tup [.int i,d],?_,λf l e=>⟨upd f p<|.tup [.int i,u],Ext.alloc e z _,?_⟩⟩
  ·unfold qF
   rw[Nf,Ry ⋯,Mr,j];rfl
  ·exact xK (i5.of zQ)<|ft.cons (show V.int i = .int i from rfl)<|ft.cons ((O.mono l).mono (js (jH e z) _)) ft.nil
theorem YK : ∀l:List Str,(l.map V.str).all XR=eA
 | []=>rfl
 | i::l=>by simp only[MT,Rq,YK l,Rt];rfl
section
variable{X:Cx}{sc:jn}{N L:List Str}{k:Nat}{a b e:fA}{pos p p2:h8}{f fa fb:CO D}
theorem tZ{J:fA}(C:PV X a f):ji X J a (pQ f):=
 QJ (BL C) λj H R U=>by
  obtain⟨h,i,e,rc,I,q⟩:=U;obtain⟨d,Y,I⟩:=ze I;cases d with
  | str z=>
   by_cases O:j1 z=eA
   ·have I:(if j1 z=eA then ej (qD z)else eF)=ej e:=I
    rw[UJ O]at I;cases I;exact⟨h,i,_,rc,Y,λv g b x r=>⟨z,r,q _ g b x<|mx z⟩⟩
   ·have I:(if j1 z=eA then ej (qD z)else eF)=ej e:=I
    rw[UY O]at I;cases I
  | _=>cases I
theorem gr{C:List fA}{x1:Nat}{J:h8}(h:SX X sc N L k)(c:yj sc "enumerate" = eA)(z:X.mg "enumerate" = eF)(S:PV X a f)(O:g8 [a] X.env=[(eK,fy a X.env)]:=by rfl) :
 ji X (.Tuple C x1 J) (.Call (.Name "enumerate" p) [a] [] pos) (X7 f):=
 QJ (nC (h.gl c).1 z (jT S q8 O) e_ O) λm H R Y=>by
  obtain⟨i,l,e,rc,I,q⟩:=Y;obtain⟨d,j,I⟩:=ze I;cases d with
  | str z=>
   by_cases U:j1 z=eA
   ·have I:(if j1 z=eA then ej (qF<|qD z)else eF)=ej e:=I
    rw[UJ U]at I;cases I;exact⟨i,l,_,rc,j,λv g b x r=>⟨z,by rw[show v = .str z from r],q _ g b x<|bZ z⟩⟩
   ·have I:(if j1 z=eA then ej (qF<|qD z)else eF)=ej e:=I
    rw[UY U]at I;cases I
  | _=>cases I
theorem Wn(h:SX X sc N L k)(c:yj sc "enumerate" = eA)(z:X.mg "enumerate" = eF)(C:PV X a f)(O:g8 [a] X.env=[(eK,fy a X.env)]:=by rfl) :
 ji X (.Tuple elts x1 u6) (.Call (.Name "enumerate" p) [a] [] pos) (aI f):=
 QJ (nD (h.gl c).1 z (jT C q8 O) e_ O) λs H R Y=>by
  obtain⟨g,m,n,rc,I,q⟩:=Y;obtain⟨d,j,I⟩:=ze I;cases d with
  | lst o=>
   cases I;refine⟨g,m,_,rc,j,λv e b x r=>?_⟩;obtain⟨i,l,rfl,U,g2⟩:=WC r;exact⟨i,rfl,⟨l,x.sub.seq U⟩,q _ e b x<|cc U g2⟩
  | _=>cases I
theorem Bx(C:PV X a fa){g:CO (Sk×List D)}(O:PQ X b g)(J:C0 .In b=eK:=by with_unfolding_all rfl):PV X (.Compare a [.In] [b] pos) (EJ fa g):=
 qE (gE gJ C O J) λM H Q U=>by
  obtain⟨j,i,d,rc,z,q⟩:=U;obtain⟨x,o,z⟩:=ze z;obtain⟨⟨h,n⟩,Y,z⟩:=ze z;cases x with
  | str w=>
   obtain⟨l,s,rfl⟩:=zB z;refine⟨j,i,_,rc,o,λA E k x1 I=>⟨k,i,h,n,rc.ext x1,Y,λp G e m B f F r=>?_⟩⟩;have t:=JY r s;subst t;have u:h9 X.K e p (l.map V.str)\/i5 X.K e p (l.map V.str):=by
    cases h with
    | L=>exact .inl f
    | T=>exact .inr f
   have I:A = .str w:=I;subst I;refine⟨p,_,rfl,u,rfl,YK l,?_⟩;have:G4 (.str w) (l.map V.str)=l.any λy=>y==w:=by unfold G4;rw[List.any_map];rfl
   rw[UY MW,this];exact q _ e m (x1.trans B) rfl
  | _=>cases z
end
section
variable{K:Mf}{mg:UZ}{h:gB}
noncomputable def V8:List fh->Option (List Str)
 | []=>ej []
 | .str i _::r=>(V8 r).map λl=>i::l
 | _::_=>eF
theorem Ja : ∀{us:List fh} {C:List Str},V8 us=ej C->gv (C.map V.str) us
 | [],C,e=>by cases e;exact .nil
 | u::us,C,e=>by
  cases u with
  | str i t=>
   obtain⟨l,a,z⟩:=zB e;subst z;exact .cons ⟨t,rfl⟩<|Ja a
  | _=>cases e
theorem Jd{H:Hp} : ∀C:List Str,ft K H (C.map D.str) (C.map V.str)
 | []=>ft.nil
 | n::C=>ft.cons (show V.str n = .str n from rfl)<|Jd C
theorem GX{x:Str}{ad:fe}{I:Array fh}{m:Nat}{J:Array (Option fh)}(C:List Str)(O:K.In h)(G:h.Ns xb mg)(a:SO K xb x=ej (ej (.ref ad)))
 (l:K.lookup ad=ej ⟨.type "tuple",eF,.seq I m,J⟩) (v:V8 I.toList=ej C) (z:I.size<=hB):GL K mg x (.tup (C.map D.str)):=
 ⟨_,.ref ad,PySem.W.mg_of O G a,rfl,λH=>(show ∃b d,V.ref ad = .ref b/\i5 K H b d/\ft K H (C.map D.str) d from⟨ad,C.map V.str,rfl,.inr ⟨_,I,m,l,rfl,rfl,z,Ja v⟩,Jd C⟩)⟩
end
end DL
namespace DL
open PySem L2 PyProof.Rows
open PySem.W (KasT kas_sort kas_asc kas_desc kas_tail3 kas_descPart kas_count kas_place kas_bin kas_rev)
noncomputable def Good{C:Type}(n:Nat)(P:C->Prop):KasT C->Prop
 | .ret a=>P a
 | .ask i j k=>i<n/\j<n/\∀b,Good n P<|k b
theorem Good.mono{C:Type}{n:Nat}{P z:C->Prop}(h : ∀a,P a->z a) : ∀{t:KasT C},Good n P t->Good n z t
 | .ret a,g=>h a g
 | .ask i j k,g=>⟨g.1,g.2.1,λb=>(g.2.2 b).mono h⟩
theorem Good.bind{C β:Type}{n:Nat}{P:C->Prop}{z:β->Prop}{f:C->KasT β}(I : ∀a,P a->Good n z (f a)) : ∀{t:KasT C},Good n P t->Good n z (t.bind f)
 | .ret a,g=>I a g
 | .ask i j k,g=>⟨g.1,g.2.1,λb=>(g.2.2 b).bind I⟩
theorem Good.run : ∀{t:KasT α},Good n P t->P (kn lt t)
 | .ret a,g=>g
 | .ask i j k,g=>(g.2.2 _).run
def Pm(n:Nat)(p:Array Nat):Prop:=p.toList.Perm<|Me n
theorem Pm.lt(h:Pm n p)(C:0<n)(i:Nat):p.getD i 0<n:=by
 by_cases a:i<p.size
 ·have e:p.getD i 0=p[i]:=by simp[Array.getD,a]
  rw[e];exact Mg.mp<|h.mem_iff.mp ⋯
 ·have e:p.getD i 0=0:=by simp[Array.getD,a]
  rw[e];exact C
theorem Pm.rev(h:Pm n p)(i j:Nat):Pm n (kas_rev p i j):=(Array.perm_iff_toList_perm.mp<|mirror_perm p i j _).trans h
theorem Pm._k(h:Pm n p)(i j:Nat):Pm n (bubble p i j):=(Array.perm_iff_toList_perm.mp<|bubble_perm p i j).trans h
theorem Yd(h:Pm n p)(C:0<n) : ∀f m,Good n (λ_=>True) (kas_asc p f m)
 | 0,m=>trivial
 | f+1,m=>⟨h.lt C _,h.lt C _,λb=>by
  cases b with
  | true=>exact trivial
  | false=>exact Yd h C f<|m+1⟩
theorem Zm(C:0<n) : ∀f p m q,Pm n p->Good n (λr=>Pm n r.1) (kas_desc f p m q)
 | 0,p,m,q,h=>h
 | f+1,p,m,q,h=>⟨h.lt C _,h.lt C _,λb=>by
  cases b with
  | true=>
   show Good n _ (if q>0 then _ else _);split
   ·exact Zm C f _ _ _<|h.rev _ _
   ·exact Zm C f _ _ _ h
  | false=>exact⟨h.lt C _,h.lt C _,λd=>by
   cases d with
   | true=>exact h
   | false=>exact Zm C f _ _ _ h⟩⟩
theorem VD{n:Nat}(C:0<n)(m r:Nat){p:Array Nat}(h:Pm n p):Good n (λr=>Pm n r.2) (kas_tail3 m r p):=by unfold kas_tail3;refine Good.bind (P:=λ_=>True) (λa _=>?_)<|Yd (h.rev _ _) C _ _;exact(show Pm n (kas_rev p 0 m)from h.rev _ _)
theorem VE{n:Nat}(C:0<n)(m r:Nat){p:Array Nat}(h:Pm n p):Good n (λr=>Pm n r.2) (kas_descPart m r p):=
 (Zm C _ _ _ _ h).bind λa b=>by
   show Good n _ (if a.2.2>0 then _ else _);split
   ·exact VD C _ _<|Pm.rev b _ _
   ·exact VD C _ _ b
theorem dJ{n:Nat}(C:0<n)(r:Nat){p:Array Nat}(h:Pm n p):Good n (λr=>Pm n r.2) (kas_count r p):=
 (Yd h C _ _).bind λm _=>by
   show Good n _ (if (m==r)=eA then _ else if m>1 then _ else _);split
   ·exact h
   ·split
    ·exact⟨h.lt C _,h.lt C _,λc=>by
      cases c with
      | true=>exact h
      | false=>exact VE C _ _<|h.rev _ _⟩
    ·exact VE C _ _ h
theorem ZO(C:0<n)(h:Pm n p)(k:Nat) : ∀f l r,Good n (λ_=>True) (kas_place p k f l r)
 | 0,l,r=>trivial
 | f+1,l,r=>by
  show Good n _ (if l>=r then _ else _);split
  ·exact trivial
  ·exact⟨h.lt C _,h.lt C _,λc=>by
    cases c with
    | true=>exact ZO C h k f _ _
    | false=>exact ZO C h k f _ _⟩
theorem bt{n:Nat}(C:0<n) : ∀f p k,Pm n p->Good n (Pm n) (kas_bin f p k)
 | 0,p,k,h=>h
 | f+1,p,k,h=>(ZO C h k k 0 k).bind λl _=>bt C f _ _<|h._k _ _
theorem Xe{n:Nat}(C:0<n):Good n (Pm n) (kas_sort n):=
 (dJ C n<|show Pm n (OW<|Me n)from List.Perm.refl _).bind λr z=>by
   show Good n _ (if r.1<n then _ else _);split
   ·exact bt C _ _ _ z
   ·exact z
theorem qa(ps:List (Int×Int)):(qp ps).Perm (Me ps.length):=by
 unfold qp;split
 ·exact List.Perm.refl _
 ·exact(Xe ⋯).run
theorem Va : ∀{ds:List D} {ps:List (Int×Int)},Jg ds=ej ps->ps.length=ds.length
 | [],ps,h=>by cases h;rfl
 | d::ds,ps,h=>by
  unfold Jg at h;cases e1:nJ d with
  | none=>rw[e1]at h;cases h
  | some x=>
   cases e2:Jg ds with
   | none=>rw[e1,e2]at h;cases h
   | some l=>rw[e1,e2]at h;cases h;simp[Va e2]
theorem jk(d:α) : ∀ds:List α,(Me ds.length).map (λi=>ds.getD i d)=ds:=λds=>by
 apply NX;intro i;by_cases a:i<ds.length
 ·simp[a]
 ·simp[a,Nat.not_lt.mp a]
end DL
namespace DL
open PySem PySem.Spec PyProof.Rows L2
open PySem.W (KasT kas_sort kas_ask kat_run kat_snds kat_lt kat_cons kat_no kat_yes kat_nil kat_go kat_one kat_kind KatTups KatGo)
theorem WN(z : ∀i j C,i<n->j<n->C (lt i j) s->cmp i j C s) :
 ∀{t:KasT α},Good n P t->Q (kn lt t) s->t.kasWp cmp Q s
 | .ret _,_,q=>q
 | .ask i j k,g,q=>z i j _ g.1 g.2.1<|WN z (g.2.2 _) q
noncomputable def C9(h:gB)(v:fh)(k l:Int):Prop:=∃x o a m t u,v = .ref x/\h.get? x=ej o/\o.cls = .type "tuple"/\o.data = .seq a m/\a.toList=[.int k t,.int l u]
theorem C9.keep{h h':gB}{v:fh}{k l:Int}(a:C9 h v k l)(e : ∀b o,h.get? b=ej o->o.cls = .type "tuple"->h'.get? b=ej o):C9 h' v k l:=by obtain⟨x,o,g,m,t,u,d,f,z,I,O⟩:=a;exact⟨x,o,g,m,t,u,d,e x o f z,z,I,O⟩
theorem C9.one(a:C9 h v k l):EA h v k:=by obtain⟨x,o,e,m,t,u,b,d,z,I,O⟩:=a;exact⟨x,o,e,m,t,b,d,z,I,by rw[<- Array.getElem?_toList,O];rfl⟩
section
variable{prog:l6}{w:i8}{A:o6}{E:EQ}{s:f6}
theorem QR{a:fe}{vs:List fh}{ps:List (Int×Int)}{n:Nat}{P:PySem.Fin->f6->Prop}(S:s.heap.get? a=ej (ir "list" vs.toArray n))(Z:ps.length=vs.length)(ax:vs.length<64)
 (hT : ∀i (J:i<vs.length),C9 s.heap vs[i] (ps.getD i (0,0)).1 (ps.getD i (0,0)).2)
 (h:P (.done<|.ret .none) {s with heap:=sortedHeap s.heap a vs (OW<|(qp ps).map λi=>vs.getD i Nd)}) :
 wpAny (f7 prog w) A (rn.«list.sort» ⟨[.ref a],[]⟩) P E s:=by
 rw[list_sort_plain];have ha:a<s.heap.objs.size:=MB S;have K:vs.length<=hB:=by rw[Pk];omega
 refine Md (_B S rfl ?_);refine Md (Rg S rfl ?_ (by rw[Mw];exact K) (Ny _));obtain⟨f,N⟩ : ∃f,(s.heap.update a (MZ λ_=>#[])).get? a=ej (ir "list" #[] f):=⟨_,SJ S (λ_=>#[])⟩;refine Md (Te N rfl ?_);refine Md (Sd ?_ (by show vs.length<=_;exact K));refine Md (Tn ?_ (Ny _));refine Ox ?_;have d:(((s.heap.update a (MZ λ_=>#[])).push (ir "tuple" vs.toArray 0)).push (ir "list" #[] 0)).get? a=ej (ir "list" #[] f):=by rw[Ph _ _ _ (by rw[Ts,OQ];exact MP (Nu ha)),Ph _ _ _ (by rw[OQ];exact MP ha)];exact N
 show wpAny (f7 prog w) A _ P E {s with heap:=((s.heap.update a (MZ λ_=>#[])).push (ir "tuple" vs.toArray 0)).push (ir "list" #[] 0)};dsimp only;have l:vs.toArray.size=vs.length:=by simp
 by_cases F:vs.toArray.size<2
 ·rw[UJ F,UJ F]
  refine Md<|Mq ?_;rw[StateT.run_pure];refine Md<|Mq ?_;dsimp only;refine Md<|Te d rfl ?_;have e7:Array.map (λx=>x.snd) (L6<|SortSt.mk' general' (vs.toArray.zip vs.toArray) #[] 7 eF)=vs.toArray:=by show Array.map (λx=>x.snd) (vs.toArray.zip vs.toArray)=_;apply Array.ext';simp[Array.toList_map,Array.toList_zip];rw[List.map_snd_zip (Mp _)]
  have ev:(qp ps).map (λi=>vs.getD i Nd)=vs:=by unfold qp;rw[UJ ⋯,Z];exact jk _ _
  rw[ev]at h;refine Md (Rg d rfl ?_ (Ny _) (by rw[e7,l];exact RX K));simp only[bne_self_eq_false,Od,if_false];have e8:({s with heap:=(((s.heap.update a (MZ λx=>#[])).push (ir "tuple" vs.toArray 0)).push (ir "list" #[] 0)).update a (MZ λx=>Array.map (λx=>x.snd) (L6 (SortSt.mk' general' (vs.toArray.zip vs.toArray) #[] 7 eF)))}:f6) = {s with heap:=sortedHeap s.heap a vs vs.toArray}:=by rw[e7];rfl
  refine Mq ?_;rw[<- e8]at h;exact h
 ·rw[UY F,UY F]
  have n2:2<=vs.length:=by rw[<- l];omega
  have keep : ∀b o,s.heap.get? b=ej o->o.cls = .type "tuple"->(((s.heap.update a (MZ λ_=>#[])).push (ir "tuple" vs.toArray 0)).push (ir "list" #[] 0)).get? b=ej o:=λb o e hc=>by
   have b9:b≠a:=λz=>by rw[z,S]at e;cases e;exact absurd hc (by show ¬(Py "list" = Py "tuple");decide)
   exact Mh _<|Mh _<|(SI _ _ _ _ b9).trans e
  generalize hg:((s.heap.update a (MZ λ_=>#[])).push (ir "tuple" vs.toArray 0)).push (ir "list" #[] 0)=g at d keep ⊢;have L : ∀i (J:i<vs.length),C9 g vs[i] (ps.getD i (0,0)).1 (ps.getD i (0,0)).2:=λi J=>(hT i J).keep keep;obtain⟨fs,f1,f2,f3⟩:=iu (ks:=λi=>(ps.getD i (0,0)).1) λi J=>(L i J).one;refine Md (kat_kind (T:=Py "int") (s:={s with heap:=g}) f1 ⋯ (λv hv=>?_) ⋯ ?_)
  ·obtain⟨k,t,rfl⟩:=f3 v hv
   exact PySem.W.Looks.of_pure rfl
  have ep:(kn (λi j=>wq (ps.getD i (0,0))<|ps.getD j (0,0))<|kas_sort vs.length).toList=qp ps:=by unfold qp;rw[UY ⋯,Z]
  refine Md (Oy (kat_run (E:=E) (ks:=vs) (Q:=λB r=>∃p:Array Nat,L6 B=p.map (PySem.W.kas_item<|vs.toArray.zip vs.toArray)/\failedOf B=eF/\p.toList=qp ps/\r = {s with heap:=g})
   (G:=λp r=>p.toList=qp ps/\r = {s with heap:=g})
   rfl n2 ax (λp B r a1 a2 a3 M=>⟨p,a2,a3,M.1,M.2⟩) (WN (lt:=λi j=>wq (ps.getD i (0,0))<|ps.getD j (0,0)) (λi j C J hj I=>?_) (Xe ⋯) ⟨ep,rfl⟩)) ?_ λ_ _ e=>e)
  ·show wpAny _ _ (keyLt' _ (vs.getD i Nd)<|vs.getD j Nd) C _ _
   rw[show vs.getD i Nd=vs[i]by simp[J],show vs.getD j Nd=vs[j]by simp[hj]];obtain⟨x,ox,xs,m,t,u,f,e2,e3,e4,X⟩:=L i J;obtain⟨y,oy,ys,m',t',u',d1,d2,d3,d4,R⟩:=L j hj;rw[f,d1];refine kat_lt e2 e4 d2 d4 ?_;have c2:xs.size=2:=by rw[<- NV,X];rfl
   have c3:ys.size=2:=by rw[<- NV,R];rfl
   rw[X,R,c2,c3,OS,OS];unfold wq at I;generalize ps.getD i (0,0)=U at I ⊢;generalize ps.getD j (0,0)=Y at I ⊢;refine kat_cons<|Po U.1 t Y.1 t' _ _ _ _ ?_;refine kat_go (λO=>?_) λO=>?_
   ·have O:U.1=Y.1:=by simpa using O
    rw[UJ O]at I;refine kat_yes<|kat_cons<|Po U.2 u Y.2 u' _ _ _ _<|kat_go (λH=>?_) λH=>?_
    ·have H:U.2=Y.2:=by simpa using H
     refine kat_yes<|kat_nil ?_;rw[show decide (U.2<Y.2)=eK by rw[H];simp]at I;exact I
    ·exact kat_no<|kat_one _ _<|lt_int I
   ·have O:U.1≠Y.1:=by simpa using O
    rw[UY O]at I;exact kat_no<|oneLt_int I
  rintro⟨⟨⟩,B⟩ r ⟨p,c4,hf,hp,rfl⟩;dsimp only;have c7:=kat_snds rfl c4;have c8:((qp ps).map λi=>vs.getD i Nd).length=vs.length:=by rw[MF,(qa ps).length_eq,Nz,Z]
  rw[c7,hp];refine Md<|Te d rfl ?_;refine Md<|Rg d rfl ?_ (Ny _) (by rw[Mw];show((qp ps).map λi=>vs.getD i Nd).length<=_;rw[c8];exact RX K);rw[hf];simp only[bne_self_eq_false,Od,if_false];subst hg;exact Mq h
theorem YO{l:fe}{vs:List fh}{ps:List (Int×Int)}{Q:EQ}(U:s.heap.IsList l vs.toArray)(Y:ps.length=vs.length)(J:vs.length<64)
 (S : ∀i (C:i<vs.length),C9 s.heap vs[i] (ps.getD i (0,0)).1 (ps.getD i (0,0)).2)
 (h:Q (.ref<|s.heap.objs.size+1) {s with heap:=sortedAll s.heap vs (OW<|(qp ps).map λi=>vs.getD i Nd)}) :
 wpAny (f7 prog w) A (call (.builtin "sorted") [.ref l]) Q E s:=by
 have I:vs.length<=hB:=by rw[Pk];omega
 refine Calls.call_function_entry kind_sorted plain_sorted entry_sorted (args_sorted1 _) ?_;unfold rn.«sorted»;refine Md (m:=checkCount "sorted" 1 1 _) (Mq ?_);refine Md (collect_list U ?_ I);refine Md (Tn ?_ I);have a:((s.heap.push (ir "list" #[] 0)).update s.heap.objs.size (MZ (· ++ vs.toArray))).objs.size=s.heap.objs.size+1:=by rw[OQ,Ts]
 have O:(((s.heap.push (ir "list" #[] 0)).update s.heap.objs.size (MZ (· ++ vs.toArray))).push (ir "list" vs.toArray 0)).get? (s.heap.objs.size+1)=ej (ir "list" vs.toArray 0):=by rw[<- a];exact Mz _ rfl
 have keep : ∀b o,s.heap.get? b=ej o->(((s.heap.push (ir "list" #[] 0)).update s.heap.objs.size (MZ (· ++ vs.toArray))).push (ir "list" vs.toArray 0)).get? b=ej o:=λb o q=>by have z:b<s.heap.objs.size:=MB q;rw[Ph _ _ _ (by rw[a];exact MP (Nu z)),SI _ _ _ _ (MP z),Ph _ _ _ (MP z)];exact q
 show wpAny _ _ _ _ _ {s with heap:=((s.heap.push (ir "list" #[] 0)).update s.heap.objs.size (MZ (· ++ vs.toArray))).push (ir "list" vs.toArray 0)};rw[a];refine Md (Ox (NZ slot_list_sort ⟨_,O,rfl⟩ entry_list_sort (QR (s:={s with heap:=((s.heap.push (ir "list" #[] 0)).update s.heap.objs.size (MZ (· ++ vs.toArray))).push (ir "list" vs.toArray 0)}) O Y J (λi C=>(S i C).keep λb o e _=>keep b o e) ⟨_,rfl,?_⟩) (args_list_sort _)));exact Mq ⟨_,rfl,h⟩
end
section
variable{X:Cx}
noncomputable def Bo(K:Mf):List V->Hp->VK->Prop:=λe H Q=>∃l b d,e=[.ref l]/\h9 K H l b/\d.length=b.length/\b.length<64/\
 (∀i (f:i<b.length),∃a,b[i]=V.ref a/\i5 K H a [.int ((d:List (Int×Int)).getD i (0,0)).1,.int (d.getD i (0,0)).2])/\∀p,H p=eF->Q (.ref p) (upd H p<|.lst<|(qp d).map λi=>b.getD i .gm)
theorem VM:Jv X (.builtin "sorted") (Bo X.K):=by
 intro A s σ H vs us Q I rv h;obtain⟨l,f,ps,rfl,P,p,b7,G,B⟩:=h;obtain⟨u,rfl,ru⟩:=vg rv;cases ru;obtain⟨z,r,W,S⟩:=I.list P;have b8:=r.length;refine YO (ps:=ps) W.isList ⋯ ⋯ (λi d=>?_) ?_
 ·obtain⟨a,E,F⟩:=G i ⋯
  obtain⟨v,O,g2⟩:=r.get (i:=i) (x:=V.ref a) (by rw[Mi ⋯,E]);have R:z[i]=v:=by rw[Mi d]at O;exact Ng O
  rw[R];cases g2;obtain⟨C,r2,⟨o,N,J,n,L⟩,_⟩:=I.tuple F;obtain⟨U,Y,rfl,k,m⟩ : ∃U Y,C=U::Y/\RelV (.int (ps.getD i (0,0)).1) U/\gv [.int (ps.getD i (0,0)).2] Y:=by
   cases r2 with
   | cons k m=>exact⟨_,_,rfl,k,m⟩
  obtain⟨v2,rfl,Z⟩:=vg m;obtain⟨t,rfl⟩:=k;obtain⟨u,rfl⟩:=Z;exact⟨a,o,_,n,t,u,rfl,N,J,L,rfl⟩
 ·obtain⟨e,y⟩:=sortedAll_at s.heap z (OW<|(qp ps).map λi=>z.getD i Nd)
  have w:((qp ps).map λi=>f.getD i V.gm).length=f.length:=by rw[MF,(qa ps).length_eq,Nz,p]
  refine⟨.ref<|s.heap.objs.size+1,_,I.laid (t':=s.toks) (o:= .lst ((qp ps).map λi=>f.getD i .gm)) (λb o q=>sortedAll_old q) (RF _) ?_,rfl,B _<|I.g5.fresh<|RF _⟩;refine⟨by rw[w];exact S,(qp ps).map λi=>z.getD i Nd,e,?_,y⟩;have g : ∀i∈qp ps,i<f.length:=λi d=>by have:=(qa ps).mem_iff.mp d;rw[p]at this;exact Mg.mp this
  generalize qp ps=o at g;clear w y
  induction o with
  | nil=>exact .nil
  | cons i o T=>
   have d:=g i Mx;refine .cons ?_ (T λj M=>g j<|Ms _ M);obtain⟨v,O,g2⟩:=r.get (i:=i) (x:=f[i])<|Mi d;show RelV (f.getD i V.gm) (z.getD i Nd);rw[Mm,Mm,Mi d,O];exact g2
theorem aT : ∀{ds:List D} {ps:List (Int×Int)},Jg ds=ej ps->∀(i:Nat) d,ds[i]? = ej d->d = .tup [.int (ps.getD i (0,0)).1,.int (ps.getD i (0,0)).2]
 | [],ps,h,i,d,hd=>by simp at hd
 | c::ds,ps,h,i,d,hd=>by
  obtain⟨k,a,h⟩:=ze h;obtain⟨l,z,h⟩:=zB h;subst h;cases i with
  | zero=>
   simp at hd;subst hd;unfold nJ at a;split at a
   ·cases a;rfl
   ·cases a
  | succ i=>simpa using aT z i d (by simpa using hd)
theorem QC{K:Mf}{H:Hp}{ds:List D}{xs:List V}(r:ft K H ds xs) : ∀(o:List Nat),(∀i∈o,i<xs.length)->ft K H (o.map λi=>ds.getD i .gm) (o.map λi=>xs.getD i .gm)
 | [],_=>ft.nil
 | i::o,h=>by have a:=h i Mx;obtain⟨d,b,z⟩:=r.Dg<|Mi a;refine ft.cons ?_ (QC r o λj I=>h j<|Ms _ I);show Rep K H (ds.getD i .gm) (xs.getD i .gm);rw[Mm,Mm,Mi a,b];exact z
theorem K2{J:jn}{N L:List Str}{k:Nat}{e:fA}{pos p:h8}{C:CO (Sk×List D)}(h:SX X J N L k)(c:yj J "sorted" = eA)(z:X.mg "sorted" = eF)(Z:PQ X e C)(U:g8 [e] X.env=[(eK,fy e X.env)]:=by rfl) :
 PO X (.Call (.Name "sorted" p) [e] [] pos) (X6 C):=
 qE (yL VM (h.gl c).1 z ⋯ (jT Z q8 U) ⋯ ⋯ U rfl) λσ H Q R=>by
  obtain⟨t,γ,u,rc,I,q⟩:=R;obtain⟨⟨W,g⟩,w,I⟩:=ze I;cases W with
  | T=>cases I
  | L=>
   have I:fv g=ej u:=I;unfold fv at I;obtain⟨s,Y,I⟩:=ze I;by_cases o:g.length<64
   ·rw[UJ o]at I
    cases I;have ar:=Va Y;refine⟨t,γ,.L,g,rc,w,λa xs H' f ext E h2 r=>?_⟩;have as:=r.length;refine⟨a,xs,s,rfl,E,by omega,by omega,λi j=>?_,λl O=>?_⟩
    ·obtain⟨d,S,rd⟩:=r.Dg (Mi j)
     have B:=aT Y i d S;subst B;obtain⟨b,zs,A,n,F⟩:=yf rd;refine⟨b,A,?_⟩;obtain⟨y,yr,x,G,K⟩:=F.q5;obtain⟨y2,b5,m,M,P⟩:=K.q5;rw[P.uh]at m;rw[x,m,jx G,jx M]at n;exact p8 ext.sub n
    ·refine q l _ _ f (ext.trans<|Ext.hide ext.sub O _) (yw ext.s1 O) (jH ext.sub O) zQ ?_
     refine QC r _ λi j=>?_;have:=(qa s).mem_iff.mp j;have:=Mg.mp this;omega
   ·rw[UY o]at I;cases I
end
section
variable{X:Cx}{a b c:fA}{pos:h8}{fa fb fc:CO D}
theorem Y4{U Y:I0}{r C:R2}{F G:D->D->Option D}(ho:k5 X (oe U) r)(J:k5 X (oe Y) C)(s1:o8 X.K r F)(s2:o8 X.K C G)(ha:PV X a fa)(hb:PV X b fb)(hc:PV X c fc)
 (hm:M1 [U,Y] [b,c]=eK:=by with_unfolding_all rfl):o7 X (.Compare a [U,Y] [b,c] pos) (sB<|kX F G fa fb fc):=
 Y5 (mY ho J ha hb hc hm) λσ H Q hZ=>by
  obtain⟨i,h,kq,rc,A,q0⟩:=hZ;obtain⟨d,I,Z⟩:=ze A;have q : ∀v f e,Ext i H e f->Rep X.K e d v->∃k,v = .bl k/\Q k f:=λv f e x o=>by rw[yW Z]at o;exact⟨kq,o,q0 f e x⟩
  obtain⟨x,N,I⟩:=ze I;obtain⟨y,P,I⟩:=ze I;obtain⟨k,R,I⟩:=ze I;obtain⟨l,S,m⟩:=ze R;refine⟨i,h,x,rc,N,λv1 H1 B x1 r1=>⟨B,h,y,rc.ext x1,P,λp s E O n=>s1 E s v1 p x y l _ O.sub (r1.mono O.s0) n S λv3 t j x3 r3=>?_⟩⟩;cases l with
  | bl k'=>
   cases m;refine⟨k,show v3 = .bl k from r3,?_⟩;cases k with
   | true=>
    rw[UJ rfl];rw[UJ rfl]at I;obtain⟨z,T,W⟩:=ze I;exact⟨j,h,z,((rc.ext x1).ext O).ext x3,T,λv4 u L g r4=>s2 L u p v4 y z d _ g.sub ((n.mono x3.s0).mono g.s0) r4 W λv5 w M x5 r5=>q v5 w M (((x1.trans O).trans x3).trans (g.trans x5)) r5⟩
   | false=>
    rw[UY ⋯];rw[UY ⋯]at I;cases I;exact q _ t j ((x1.trans O).trans x3) rfl
  | _=>cases m
end
end DL
namespace DL
open PySem PySem.Spec PyProof.Rows L2
theorem eH{H:Hp}{x:fe}{o C:HO}:upd (upd H x o) x C=upd H x C:=by
 funext b;by_cases h:b=x
 ·subst h;rw[zQ,zQ]
 ·rw[zL h,zL h,zL h]
theorem Kt : ∀{ds:List D} {C:List Int},XQ ds=ej C->Vv ds=ej (C.map Ot)
 | [],C,e=>by cases e;rfl
 | d::ds,C,e=>by
  cases d with
  | int i=>
   obtain⟨l,a,z⟩:=zB e;subst z;show((CA<|.int i).bind λk=>(Vv ds).map λr=>k::r)=_;rw[Kt a];rfl
  | _=>cases e
theorem Ke : ∀(ps acc:List (Key×V)),((acc++ps).map (·.1)).Nodup->mT acc ps=acc++ps
 | [],acc,_=>by simp[mT]
 | (k,v)::ps,acc,h=>by
  have d : ¬((acc.any λz=>decide<|z.1=k)=eA):=λq=>by obtain⟨z,a,b⟩:=Ti.mp q;rw[NA,MT]at h;have:=(List.nodup_append.mp h).2.2 z.1 (MD.mpr ⟨z,a,rfl⟩) k ⋯;exact this<|of_decide_eq_true b
  show mT (dX acc k v) ps=_;rw[show dX acc k v=acc++[(k,v)]by unfold dX;rw[UY d]];rw[Ke ps (acc++[(k,v)]) (by simpa using h)];simp
theorem Vn : ∀{C:List Int},C.Nodup->(C.map<|Ot (β:=Str)).Nodup
 | [],_=>by simp
 | n::C,h=>by simp only[MT,Nq,MD,Ot.injEq,exists_eq_right]at h ⊢;exact⟨h.1,Vn h.2⟩
theorem Ye{K:Mf}{H:Hp}{i:Int} : ∀{ks vs:List D} {C:List Key} {xs:List V},Vv ks=ej C->C.length=xs.length->ft K H vs xs->
 (∀d,bw ks vs i=ej d->∃v,ah (C.zip xs) (Ot i)=ej v/\Rep K H d v)/\(bw ks vs i=eF->ah (C.zip xs) (Ot i)=eF)
 | [],vs,C,xs,e,l,r=>by cases e;exact⟨(λd q=>by cases q),λ_=>rfl⟩
 | k::ks,[],C,xs,e,l,r=>by rw[r.uh]at l ⊢;rw[List.length_eq_zero_iff.mp l];exact⟨(λd q=>by cases q),λ_=>rfl⟩
 | k::ks,v::vs,C,xs,e,l,r=>by
  obtain⟨I,a,f⟩:=ze e;obtain⟨O,g,h⟩:=zB f;subst h;obtain⟨x,U,rfl,n,o⟩:=r.q5;have Y:=Ye (i:=i) g (by simpa using l) o;have step:I≠Ot i->ah ((I::O).zip (x::U)) (Ot i)=ah (O.zip U) (Ot i):=λb=>by rw[OS];simp[ah,OM,b]
  cases k with
  | int j=>
   cases a;by_cases z:j=i
   ·subst z
    refine⟨λd q=>⟨x,?_,?_⟩,λq=>?_⟩
    ·rw[OS];exact KI rfl
    ·have:v=d:=by simpa[bw]using q
     exact this ▸ n
    ·simp[bw]at q
   ·have b:(Ot j:Key)≠Ot i:=λq=>z (Ot.inj q)
    rw[step b];have m:bw (.int j::ks) (v::vs) i=bw ks vs i:=by simp[bw,z]
    rw[m];exact Y
  | str y=>
   cases a;rw[step (λq=>by cases q)];exact Y
  | _=>cases a
noncomputable def QB(F G J:D->D->Option D)(C O S Y:CO D):CO D:=λa=>(C a).bind λx=>(O a).bind λy=>((F x y).bind vl).bind λb=>if b=eA then (S a).bind λz=>((G y z).bind vl).bind λI=>if I=eA then (Y a).bind λw=>J z w else ej (.bl eK)else ej (.bl eK)
@[simp] theorem lO(F G J a b c d):QB F G J a b c d γ=(a γ).bind λx=>(b γ).bind λy=>((F x y).bind vl).bind λk=>if k=eA then (c γ).bind λz=>((G y z).bind vl).bind λI=>if I=eA then (d γ).bind λw=>J z w else ej (.bl eK)else ej (.bl eK):=rfl
noncomputable def sA(r C Y:R2)(J S Z td:TE):TE:=λa H Q=>J a H λx d=>S a d λy e=>r x y e λz I=>∃k,z = .bl k/\
 (if k=eA then Z a I λb f=>C y b f λi O=>∃U,i = .bl U/\(if U=eA then td a O λh g=>Y b h g Q else Q (.bl eK) O)else Q (.bl eK) I)
section
variable{X:Cx}{a b c d:fA}{ta tb tc td:TE}{pos:h8}
theorem gb{O U Y:I0}{r J C:R2}(ho:k5 X (oe O) r)(Z:k5 X (oe U) J)(ap:k5 X (oe Y) C)(ha:PE X a ta)(hb:PE X b tb)(hc:PE X c tc)(hd:PE X d td)
 (hm:M1 [O,U,Y] [b,c,d]=eK:=by with_unfolding_all rfl):PT X (.Compare a [O,U,Y] [b,c,d] pos) (sv<|sA r J C ta tb tc td):=by
 intro f s g H Q I h;refine isTrue_chain (gu (ha f s g H _ I h) λv s1 h1=>?_) hm;obtain⟨x,F,N,r1,q1⟩:=h1;refine test_link<|gu (hb f s1 g F _ N q1) λu s2 h2=>?_;obtain⟨y,G,P,w,q2⟩:=h2;refine gu (ho f s2 g G x y v u _ P r1 w q2) λdd s3 h3=>?_;obtain⟨z,l,n,r3,k,e,p⟩:=h3;subst e;cases r3;refine NN ?_;cases k with
 | false=>
  obtain⟨k',i,j⟩:=p;cases i;exact ite_ff ⟨l,n,j⟩
 | true=>
  refine ite_tt<|test_link<|gu (hc f s3 g l _ n p) λB s4 h4=>?_;obtain⟨E,K,R,A,q4⟩:=h4;refine gu (Z f s4 g K y E u B _ R w A q4) λd' s5 h5=>?_;obtain⟨z2,m,o,r5,k2,W,t⟩:=h5;subst W;cases r5;refine NN ?_;cases k2 with
  | false=>
   obtain⟨k',i,j⟩:=t;cases i;exact ite_ff ⟨m,o,j⟩
  | true=>
   refine ite_tt<|test_last<|gu (hd f s5 g m _ o t) λw3 s6 h6=>?_;obtain⟨z3,L,S,r6,q6⟩:=h6;refine gu (ap f s6 g L E z3 B w3 _ S A r6 q6) λd3 s7 h7=>?_;obtain⟨z4,M,T,r7,k4,e4,q7⟩:=h7;subst e4;cases r7;exact NN ⟨M,T,q7⟩
end
section
variable{X:Cx}{a b c d:fA}{pos:h8}{fa fb fc fd:CO D}
theorem cQ{U Y C:I0}{r Z S:R2}{F G J:D->D->Option D}(ho:k5 X (oe U) r)(b0:k5 X (oe Y) Z)(b5:k5 X (oe C) S)(s1:o8 X.K r F)(s2:o8 X.K Z G)(s3:o8 X.K S J)(ha:PV X a fa)(hb:PV X b fb)(hc:PV X c fc)(hd:PV X d fd)
 (hm:M1 [U,Y,C] [b,c,d]=eK:=by with_unfolding_all rfl):o7 X (.Compare a [U,Y,C] [b,c,d] pos) (sB<|QB F G J fa fb fc fd):=
 Y5 (gb ho b0 b5 ha hb hc hd hm) λσ H Q hZ=>by
  obtain⟨m,g,kq,rc,be,q0⟩:=hZ;obtain⟨p,I,e9⟩:=ze be;have q : ∀v f e,Ext m H e f->Rep X.K e p v->∃k,v = .bl k/\Q k f:=λv f e x B=>by rw[yW e9]at B;exact⟨kq,B,q0 f e x⟩
  obtain⟨x,e1,I⟩:=ze I;obtain⟨y,e2,I⟩:=ze I;obtain⟨k,e3,I⟩:=ze I;obtain⟨bb,e4,e5⟩:=ze e3;refine⟨m,g,x,rc,e1,λv1 H1 c1 x1 r1=>⟨c1,g,y,rc.ext x1,e2,λE N c3 O s=>s1 c3 N v1 E x y bb _ O.sub (r1.mono O.s0) s e4 λv3 P n x3 t=>?_⟩⟩;rw[yW e5]at t;refine⟨k,show v3 = .bl k from t,?_⟩;cases k with
  | false=>
   rw[UY ⋯];rw[UY ⋯]at I;cases I;exact q _ P n ((x1.trans O).trans x3) rfl
  | true=>
   rw[UJ rfl];rw[UJ rfl]at I;obtain⟨z,e6,I⟩:=ze I;obtain⟨i,e7,I⟩:=ze I;obtain⟨b2,e8,c9⟩:=ze e7;refine⟨n,g,z,((rc.ext x1).ext O).ext x3,e6,λL R cb j u=>s2 cb R E L y z b2 _ j.sub ((s.mono x3.s0).mono j.s0) u e8 λv5 T o M A=>?_⟩;rw[yW c9]at A;refine⟨i,show v5 = .bl i from A,?_⟩;have h:=((x1.trans O).trans x3).trans (j.trans M);cases i with
   | false=>
    rw[UY ⋯];rw[UY ⋯]at I;cases I;exact q _ T o h rfl
   | true=>
    rw[UJ rfl];rw[UJ rfl]at I;obtain⟨w,ch,ci⟩:=ze I;exact⟨o,g,w,rc.ext h,ch,λv6 W cm l r6=>s3 cm W L v6 z w p _ l.sub ((u.mono M.s0).mono l.s0) r6 ci λv7 H7 cs x7 r7=>q v7 H7 cs (h.trans<|l.trans x7) r7⟩
end
noncomputable def EI(f:CO D)(γ:Ctx):Option (List D):=((f γ).bind o4).bind λn=>if inR n=eA/\n.toNat<=lim then ej (wW 0 n.toNat)else eF
@[simp] def AE:=@EI.eq_1
end DL
namespace L2
open PySem PySem.Spec PyProof.Rows
theorem KJ(a b c:fh):checkTypeCall "zip" ⟨[a,b,c],[]⟩=pure ():=by kernel_rfl
theorem Vs(a b c:fh):checkBuiltinCall "zip.__new__" ⟨[.type "zip",a,b,c],[]⟩=pure ():=by kernel_rfl
abbrev kT(h:gB)(T:fe)(a b c:fh):Prop:=h.get? T=ej {cls:= .type "tuple",data:= .seq #[a,b,c]}
structure O8(z TI TO i1 i2 i3 l1 l2 l3:fe):Prop where
 TIz:TI≠z
 TOz:TO≠z
 i1z:i1≠z
 i2z:i2≠z
 G3:i3≠z
 TITO:TI≠TO
 TIi1:TI≠i1
 TIi2:TI≠i2
 _h:TI≠i3
 TOi1:TO≠i1
 TOi2:TO≠i2
 F3:TO≠i3
 i12:i1≠i2
 Uk:i1≠i3
 Ul:i2≠i3
 l1z:l1≠z
 l2z:l2≠z
 l2TO:l2≠TO
 l2i1:l2≠i1
 s_:l3≠z
 P4:l3≠TO
 q_:l3≠i1
 r_:l3≠i2
section
variable{prog:l6}{w:i8}{A:o6}{E:EQ}{s:f6}
theorem YC{T:fe}{a b c x:fh}{k:Nat}{Q:Unit->f6->Prop}(z:kT s.heap T a b c)
 (h : ∀h',h'.get? T=ej {cls:= .type "tuple",data:= .seq ((#[a,b,c]:Array fh).setIfInBounds k x)}->ON T s.heap h'->Q () {s with heap:=h'}) :
 wpAny (f7 prog w) A (updateSeq T (·.setIfInBounds k x)) Q E s:=by
 have q:=Rj (MZ λ(t:Array fh)=>t.setIfInBounds k x) z rfl;exact wpAny_updateSeq z rfl<|h _ (by rw[q];simp[MZ])<|Sb ..
theorem dZ{k1 k2 k3:Sk}{z TI TO C J S Z l2 l3:fe}{n1 n2 n3:Nat}{xs ys zs:Array fh}{x y v a b c:fh}{Q:EQ}(D:O8 z TI TO C J S Z l2 l3)
 (Y:p9 s.heap z TI TO .none) (c7:kT s.heap TI (.ref C) (.ref J) (.ref S)) (c8:kT s.heap TO a b c)
 (h1:lp k1 s.heap C Z n1) (h2:lp k2 s.heap J l2 n2) (h3:lp k3 s.heap S l3 n3) (ca:m5 k1 s.heap Z xs) (cb:m5 k2 s.heap l2 ys) (cd:m5 k3 s.heap l3 zs) (hx:xs[n1]? = ej x) (hy:ys[n2]? = ej y) (hv:zs[n3]? = ej v)
 (hQ : ∀h',p9 h' z TI TO (Dh s.heap.objs.size)->kT h' TO x y v->lp k1 h' C Z (n1+1)->lp k2 h' J l2 (n2+1)->lp k3 h' S l3 (n3+1)->kT h' s.heap.objs.size x y v->h'.objs.size=s.heap.objs.size+1->
   (∀c o,c≠z->c≠TO->c≠C->c≠J->c≠S->s.heap.get? c=ej o->h'.get? c=ej o)->Q (.ref s.heap.objs.size) {s with heap:=h'}) :
 wpAny (f7 prog w) A (rn.«zip.__next__» ⟨[.ref z],[]⟩) (λcj s'=>∃v,cj = .done (.ret v)/\Q v s') E s:=by
 refine Md (m:=field (.ref z) 2)<|Ni Y rfl (x:= .bool eK) rfl ?_;refine Md (m:=field (.ref z) 3)<|Ni Y rfl (x:= .ref TI) rfl ?_;refine Md<|NG c7 rfl ?_;refine Md (m:=MQ<|.ref z) ?_;unfold MQ;refine Md<|Ni Y rfl (x:= .none) rfl<|Mq ?_;simp only[if_true];refine Md<|PU<|Md<|Ni Y rfl (x:= .ref TO) rfl ?_;refine Md<|Np Y ⋯ λg1 r d=>?_;replace r:p9 g1 z TI TO .ellipsis:=r;refine Md ?_;simp only[Sg,Sq,Rz,RO];refine Md<|Md<|OI ?_;refine Md (m:=MC<|.ref C)<|xB (h1.at λo e=>d.extBut _ _ D.i1z e) (ca.at λo e=>d.extBut _ _ D.l1z e) hx λg2 cm k=>Mq ?_;have bl:kT g2 TO a b c:=k.extBut _ _ D.TOi1<|d.extBut _ _ D.TOz c8;refine Md<|NG bl rfl<|Md<|YC bl λg3 t l=>?_;replace t:kT g3 TO x b c:=t;have a1 : ∀c o,c≠z->c≠C->c≠TO->s.heap.get? c=ej o->g3.get? c=ej o:=λc o O U h e=>l.extBut _ _ h<|k.extBut _ _ U<|d.extBut _ _ O e;refine Md<|Pj<|Mq<|Md<|Md<|OI ?_;refine Md (m:=MC<|.ref J)<|xB (h2.at λo e=>a1 _ o D.i2z D.i12.symm D.TOi2.symm e) (cb.at λo e=>a1 _ o D.l2z D.l2i1 D.l2TO e) hy λg4 cq u=>Mq ?_;have T:kT g4 TO x b c:=u.extBut _ _ D.TOi2 t;refine Md<|NG T rfl<|Md<|YC T λR B F=>?_;replace B:kT R TO x y c:=B;have f : ∀c o,c≠J->c≠TO->g3.get? c=ej o->R.get? c=ej o:=λc o O U e=>F.extBut _ _ U<|u.extBut _ _ O e;refine Md<|Pj<|Mq<|Md<|Md<|OI ?_;refine Md (m:=MC<|.ref S)<|xB (h3.at λo e=>f _ o D.Ul.symm D.F3.symm<|a1 _ o D.G3 D.Uk.symm D.F3.symm e) (cd.at λo e=>f _ o D.r_ D.P4<|a1 _ o D.s_ D.q_ D.P4 e) hv λg6 cr G=>Mq ?_;have W:kT g6 TO x y c:=G.extBut _ _ D.F3 B;refine Md<|NG W rfl<|Md<|YC W λI n H=>?_;replace n:kT I TO x y v:=n;have p : ∀c o,c≠S->c≠TO->R.get? c=ej o->I.get? c=ej o:=λc o O U e=>H.extBut _ _ U<|G.extBut _ _ O e;refine Md<|Pj<|Mq<|Mq<|Md<|NG n rfl<|Md<|Sd ?_;have i:I.objs.size=s.heap.objs.size:=by rw[H.1,G.1,F.1,u.1,l.1,k.1,d.1]
 have X:p9 I z TI TO .ellipsis:=p _ _ D.G3.symm D.TOz.symm (f _ _ D.i2z.symm D.TOz.symm (l.extBut _ _ D.TOz.symm (k.extBut _ _ D.i1z.symm r)));have cs : ∀c o,c≠z->c≠TO->c≠C->c≠J->c≠S->s.heap.get? c=ej o->I.get? c=ej o:=λc o O U h N P e=>p c o P U (f c o N U (a1 c o O h U e));have ct:lp k1 I C Z (n1+1):=cm.at λo e=>p _ o D.Uk D.TOi1.symm (f _ o D.i12 D.TOi1.symm (l.extBut _ _ D.TOi1.symm e));have cv:lp k2 I J l2 (n2+1):=cq.at λo e=>p _ o D.Ul D.TOi2.symm (F.extBut _ _ D.TOi2.symm e);have cw:lp k3 I S l3 (n3+1):=cr.at λo e=>H.extBut _ _ D.F3.symm e;have bx:z<I.objs.size:=MB X;refine Md (m:=NC (.ref z) (.ref I.objs.size)) ?_;unfold NC;have cy:p9 (I.push {cls:= .type "tuple",data:= .seq #[x,y,v]}) z TI TO .ellipsis:=Mh _ X;refine Md (Np cy ⋯ λg9 K L=>?_);replace K:p9 g9 z TI TO (Dh I.objs.size):=K;refine Np K ⋯ λg as M=>?_;replace as:p9 g z TI TO (Dh I.objs.size):=as;have j : ∀c o,c≠z->I.get? c=ej o->g.get? c=ej o:=λc o O e=>M.extBut _ _ O (L.extBut _ _ O (Mh _ e));have c0:kT g I.objs.size x y v:=M.extBut _ _ (Ob bx) (L.extBut _ _ (Ob bx) (Mz _ rfl));have c6:g.objs.size=I.objs.size+1:=by rw[M.1,L.1,MX]
 rw[i]at as c0 c6;refine Mq ⟨_,rfl,?_⟩;show Q (.ref I.objs.size) _;rw[i];exact hQ g as (j _ _ D.TOz n) (ct.at λo e=>j _ o D.i1z e) (cv.at λo e=>j _ o D.i2z e) (cw.at λo e=>j _ o D.G3 e) c0 c6 λc o O U h N P e=>j c o O<|cs c o O U h N P e
theorem mq{k1 k2 k3:Sk}{z TI TO C J S l1 l2 l3:fe}{n1 n2 n3:Nat}{xs ys zs:Array fh}{a b c:fh}{Q:Fin->f6->Prop}(hh:A.handled=eF)(D:O8 z TI TO C J S l1 l2 l3)
 (Z:p9 s.heap z TI TO .none) (bi:kT s.heap TI (.ref C) (.ref J) (.ref S)) (bl:kT s.heap TO a b c)
 (h1:lp k1 s.heap C l1 n1) (h2:lp k2 s.heap J l2 n2) (h3:lp k3 s.heap S l3 n3) (b8:m5 k1 s.heap l1 xs) (b9:m5 k2 s.heap l2 ys) (bn:m5 k3 s.heap l3 zs) (bv:xs[n1]? = eF\/ys[n2]? = eF\/zs[n3]? = eF)
 (hE : ∀h' e,(∀c o,c≠z->c≠TO->c≠C->c≠J->c≠S->s.heap.get? c=ej o->h'.get? c=ej o)->(∃o,h'.get? e=ej o/\o.cls = .type "StopIteration")->E (.ref e) {s with heap:=h'}) :
 wpAny (f7 prog w) A (rn.«zip.__next__» ⟨[.ref z],[]⟩) Q E s:=by
 refine Md (m:=field (.ref z) 2) (Ni Z rfl (x:= .bool eK) rfl ?_);refine Md (m:=field (.ref z) 3) (Ni Z rfl (x:= .ref TI) rfl ?_);refine Md (NG bi rfl ?_);refine Md (m:=MQ (.ref z)) ?_;unfold MQ;refine Md (Ni Z rfl (x:= .none) rfl (Mq ?_));simp only[if_true];refine Md (PU (Md (Ni Z rfl (x:= .ref TO) rfl ?_)));refine Md (Np Z ⋯ λg1 r f=>?_);replace r:p9 g1 z TI TO .ellipsis:=r;refine Md ?_;simp only[Sg,Sq,Rz,RO];refine Md (Md (OI ?_));have t : ∀{g e:_} {i:pa},p9 g z TI TO .ellipsis->(∀c o,c≠z->c≠TO->c≠C->c≠J->c≠S->s.heap.get? c=ej o->g.get? c=ej o)->g.get? e=ej i->i.cls = .type "StopIteration"->
  wpAny (f7 prog w) A (UI (.ref z) 0 .none) (λ_ T=>E (.ref e) T) E {s with heap:=g}:=λ{g e i} nr hk U d=>by
  have M:e≠z:=λq=>by subst q;rw[nr]at U;cases U;simp at d
  exact Np nr ⋯ λg3 _ k=>hE g3 e (λc o I O Y n B q=>k.extBut _ _ I<|hk c o I O Y n B q) ⟨i,k.extBut _ _ M U,d⟩
 cases hx:xs[n1]? with
 | none=>
  refine Md (m:=MC<|.ref C)<|vT hh (h1.at λo e=>f.extBut _ _ D.i1z e) (b8.at λo e=>f.extBut _ _ D.l1z e) hx λg2 e j p=>?_;obtain⟨i,U,d⟩:=p;exact t (j _ _ D.i1z.symm r) (λc o I _ Y _ _ q=>j _ _ Y<|f.extBut _ _ I q) U d
 | some x=>
  refine Md (m:=MC<|.ref C)<|xB (h1.at λo e=>f.extBut _ _ D.i1z e) (b8.at λo e=>f.extBut _ _ D.l1z e) hx λg2 W j=>Mq ?_;have F:kT g2 TO a b c:=j.extBut _ _ D.TOi1<|f.extBut _ _ D.TOz bl;refine Md<|NG F rfl<|Md<|YC F λg3 u k=>?_;replace u:kT g3 TO x b c:=u;have a1 : ∀c o,c≠z->c≠C->c≠TO->s.heap.get? c=ej o->g3.get? c=ej o:=λc o I O Y e=>k.extBut _ _ Y<|j.extBut _ _ O<|f.extBut _ _ I e;have G:p9 g3 z TI TO .ellipsis:=k.extBut _ _ D.TOz.symm<|j.extBut _ _ D.i1z.symm r;refine Md<|Pj<|Mq<|Md<|Md<|OI ?_;cases hy:ys[n2]? with
  | none=>
   refine Md (m:=MC<|.ref J)<|vT hh (h2.at λo e=>a1 _ o D.i2z D.i12.symm D.TOi2.symm e) (b9.at λo e=>a1 _ o D.l2z D.l2i1 D.l2TO e) hy λL e l p=>?_;obtain⟨i,U,d⟩:=p;exact t (l _ _ D.i2z.symm G) (λc o I O Y n _ q=>l _ _ n<|a1 c o I Y O q) U d
  | some y=>
   have R:zs[n3]? = eF:=by
    rcases bv with h | h | h
    ·rw[hx]at h;cases h
    ·rw[hy]at h;cases h
    ·exact h
   refine Md (m:=MC<|.ref J)<|xB (h2.at λo e=>a1 _ o D.i2z D.i12.symm D.TOi2.symm e) (b9.at λo e=>a1 _ o D.l2z D.l2i1 D.l2TO e) hy λL X l=>Mq ?_;have H:kT L TO x b c:=l.extBut _ _ D.TOi2 u;refine Md<|NG H rfl<|Md<|YC H λP ce N=>?_;have an : ∀c o,c≠J->c≠TO->g3.get? c=ej o->P.get? c=ej o:=λc o I O e=>N.extBut _ _ O<|l.extBut _ _ I e;refine Md<|Pj<|Mq<|Md<|Md<|OI ?_;refine Md (m:=MC<|.ref S)<|vT hh (h3.at λo e=>an _ o D.Ul.symm D.F3.symm<|a1 _ o D.G3 D.Uk.symm D.F3.symm e) (bn.at λo e=>an _ o D.r_ D.P4<|a1 _ o D.s_ D.q_ D.P4 e) R λg6 e K p=>?_;obtain⟨i,U,d⟩:=p;exact t (K _ _ D.G3.symm<|an _ _ D.i2z.symm D.TOz.symm G) (λc o I O Y n B q=>K _ _ B<|an c o n O<|a1 c o I Y O q) U d
end
def cx(a b c:fh):pa:={cls:= .type "tuple",data:= .seq #[a,b,c]}
noncomputable def vk(z I O:Sk)(h:gB)(C J S:fe):gB:=
 MG (MG (MG (MG (MG (MG h<|i9 z C)<|i9 I J)<|i9 O S)<|cx (.ref h.objs.size) (.ref<|h.objs.size+1)<|.ref<|h.objs.size+2)<|cx .none .none .none) (Ar (h.objs.size+3)<|h.objs.size+4)
theorem mn(z I O:Sk)(C J S:fe)(xs ys Z:Array fh) :
 F0 (rn.«zip.__new__» ⟨[.type "zip",.ref C,.ref J,.ref S],[]⟩) (λ_ R s=>m5 z s.heap C xs/\m5 I s.heap J ys/\m5 O s.heap S Z/\
  R (.ok<|.ret<|.ref<|s.heap.objs.size+5) {s with heap:=vk z I O s.heap C J S}):=
 .of_wp λa w A R s h=>by
  obtain⟨U,g,d,Y,os⟩:=s;obtain⟨b,f,i,h⟩:=h;have m:=sub_zip;have j:m5 z (RV ⟨U,g,d,Y,os⟩) C xs:=b;have k:m5 I (RV ⟨U.push<|i9 z C,g,d,Y,os⟩) J ys:=f.at λo e=>Mh _ e;have l:m5 O (RV ⟨(U.push<|i9 z C).push (i9 I J),g,d,Y,os⟩) S Z:=i.at λo e=>Mh _<|Mh _ e
  wp_walk using Ji j,Ji k,Ji l
  refine⟨_,rfl,?_⟩;simp only[vk,cx,Ar,MX]at h ⊢;exact h
theorem iC(a b c d:fh):argsOk "object.__init__" ⟨[a,b,c,d],[]⟩:=by
 unfold argsOk;have e:=signature?_of (id:="object.__init__") (n:=['_','_','t','i','n','i','_','_']) (o:=['t','c','e','j','b','o']) (by kernel_rfl) F.owner_object;rw[e]
 kernel_rfl
noncomputable def HR(z I O:Sk)(K:Mf)(a b c:fe):It:=
 ⟨λi H=>∃d e f,l7 z K H a d/\l7 I K H b e/\l7 O K H c f/\i<d.length/\i<e.length/\i<f.length,
  λi H x g=>∃p u v t,x = .ref p/\H p=eF/\g=upd H p (.tup [u,v,t])/\(∀d,l7 z K H a d->d[i]? = ej u)/\(∀e,l7 I K H b e->e[i]? = ej v)/\(∀f,l7 O K H c f->f[i]? = ej t),
  λi H=>∃d e f,l7 z K H a d/\l7 I K H b e/\l7 O K H c f/\(d.length<=i\/e.length<=i\/f.length<=i)⟩
theorem eJ{P:l6}{w:i8}{K:Mf}{elts:List fA}{x1:Nat}{u6:h8}(k1 k2 k3:Sk){z TI TO i1 i2 i3 a b c:fe}(D:O8 z TI TO i1 i2 i3 a b c) :
 Turn P w K (.Tuple elts x1 u6) (HR k1 k2 k3 K a b c) [z,TI,TO,i1,i2,i3] z (λi h=>p9 h z TI TO .none/\kT h TI (.ref i1) (.ref i2) (.ref i3)/\(∃c d e,kT h TO c d e)/\lp k1 h i1 a i/\lp k2 h i2 b i/\lp k3 h i3 c i) where
 mem:=by simp
 obj:=λi h b6 y hy=>by
  obtain⟨U,a0,⟨c,d,e,a8⟩,h1,h2,h3⟩:=b6;simp only[Mu,ML,or_false]at hy;rcases hy with rfl | rfl | rfl | rfl | rfl | rfl
  ·exact⟨_,U,λv q=>by cases q⟩
  ·exact⟨_,a0,λv q=>by cases q⟩
  ·exact⟨_,a8,λv q=>by cases q⟩
  ·exact h1.obj
  ·exact h2.obj
  ·exact h3.obj
 keep:=λi h h' b6 k=>by obtain⟨U,a0,⟨c,d,e,a8⟩,h1,h2,h3⟩:=b6;exact⟨k z ⋯ _ U,k TI ⋯ _ a0,⟨c,d,e,k TO ⋯ _ a8⟩,h1.at λo e=>k i1 ⋯ o e,h2.at λo e=>k i2 ⋯ o e,h3.at λo e=>k i3 ⋯ o e⟩
 item:=by
  rintro X hP hw hK hc i pins s σ H E I hf ⟨U,a0,⟨c,d,e,a8⟩,h1,h2,h3⟩ ⟨xs,ys,zs,ax,b0,b5,bx,c0,c1⟩;subst hP hw hK;obtain⟨c2,b9,p1,z1⟩:=I.sq ax;obtain⟨c4,bd,p2,z2⟩:=I.sq b0;obtain⟨c6,be,p3,z3⟩:=I.sq b5;have hx:xs[i]? = ej xs[i]:=Mi bx;have hy:ys[i]? = ej ys[i]:=Mi c0;have hv:zs[i]? = ej zs[i]:=Mi c1;obtain⟨u1,c8,c9⟩:=b9.get hx;obtain⟨u2,ca,cb⟩:=bd.get hy;obtain⟨u3,cd,ce⟩:=be.get hv;have hT:s.TypeIs (.ref z) "zip":=⟨_,U,rfl⟩;unfold DV;refine Md (Rf (NF (name:=Nj "__next__") hT OO (NZ OO hT Su
   (dZ D U a0 a8 h1 h2 h3 p1 p2 p3 (x:=u1) (y:=u2) (v:=u3) (by simpa using c8) (by simpa using ca) (by simpa using cd) λg a1 a2 a3 a4 a9 a5 a6 a7=>Mq ⟨_,rfl,?_⟩) (Sl _))))
  refine d? a1 λg2 nr am=>?_;have lt : ∀{c o},s.heap.get? c=ej o->s.heap.objs.size≠c:=λe=>Ob<|MB e;have cq:kT g2 s.heap.objs.size u1 u2 u3:=am.extBut _ _ (lt U) a5;have kk : ∀Y u,Y ∉ [z,TI,TO,i1,i2,i3]->s.heap.get? Y=ej u->g2.get? Y=ej u:=λY u O e=>by simp only[Mu,ML,or_false,not_or]at O;exact am.extBut _ _ O.1<|a7 Y u O.1 O.2.2.1 O.2.2.2.1 O.2.2.2.2.1 O.2.2.2.2.2 e
  have I1:Inv X pins σ (upd H s.heap.objs.size<|.tup [xs[i],ys[i],zs[i]]) {s with heap:=g2,toks:=s.toks}:=
   I.S4 (fp:=[z,TI,TO,i1,i2,i3]) kk hf (Mp _) ⟨by show 3<=hB;decide,[u1,u2,u3],.cons c9<|.cons cb<|.cons ce .nil,⟨_,cq,rfl,_,rfl⟩⟩
  have cs:H s.heap.objs.size=eF:=I.fresh;refine⟨.ref s.heap.objs.size,_,I1,rfl,⟨_,_,_,_,rfl,cs,rfl,λd1 ar=>by rw[I.Ht ar ax];exact hx,λd2 ar=>by rw[I.Ht ar b0];exact hy,λd3 ar=>by rw[I.Ht ar b5];exact hv⟩,?_,λY O=>?_⟩
  ·exact⟨nr,am.extBut _ _ D.TIz<|a7 _ _ D.TIz D.TITO D.TIi1 D.TIi2 D._h a0,⟨_,_,_,am.extBut _ _ D.TOz a2⟩,a3.at λo e=>am.extBut _ _ D.i1z e,a4.at λo e=>am.extBut _ _ D.i2z e,a9.at λo e=>am.extBut _ _ D.G3 e⟩
  ·have ct:Y≠s.heap.objs.size:=by
    simp only[Mu,ML,or_false]at O;rcases O with rfl | rfl | rfl | rfl | rfl | rfl
    ·exact(lt U).symm
    ·exact(lt a0).symm
    ·exact(lt a8).symm
    ·obtain⟨o,e,_⟩:=h1.obj;exact(lt e).symm
    ·obtain⟨o,e,_⟩:=h2.obj;exact(lt e).symm
    ·obtain⟨o,e,_⟩:=h3.obj;exact(lt e).symm
   rw[zL ct];exact(hf Y O).1
 done:=by
  rintro X hP hw hK hc i pins s σ H E I hf ⟨U,a0,⟨c,d,e,a8⟩,h1,h2,h3⟩ ⟨xs,ys,zs,ax,b0,b5,hi⟩;subst hP hw hK;obtain⟨c2,b9,p1,z1⟩:=I.sq ax;obtain⟨c4,bd,p2,z2⟩:=I.sq b0;obtain⟨c6,be,p3,z3⟩:=I.sq b5;have hT:s.TypeIs (.ref z) "zip":=⟨_,U,rfl⟩;have l1:=b9.length;have l2:=bd.length;have l3:=be.length;unfold DV;refine Md (Rf (NF (name:=Nj "__next__") hT OO (NZ OO hT Su
   (mq (show X.A.handled=eF from I.ok.hd hc) D U a0 a8 h1 h2 h3 p1 p2 p3 (by
     rcases hi with q | q | q
     ·left;simp;omega
     ·right;left;simp;omega
     ·right;right;simp;omega) λg e hk he=>?_) (Sl _))))
  obtain⟨o,ho,cz⟩:=he;refine Md (Tu (T:="StopIteration") (b:=eA) ⟨o,ho,cz⟩ o_ (Mq ⟨rfl,?_⟩));refine I.Dk (t':=s.toks) (fp:=[z,TI,TO,i1,i2,i3]) (λY u O e=>?_) hf;simp only[Mu,ML,or_false,not_or]at O;exact hk Y u O.1 O.2.2.1 O.2.2.2.1 O.2.2.2.2.1 O.2.2.2.2.2 e
 self:=λ_ _ _ _ _ st h=>Sz st.1 h
theorem FL{x y z:V}{us:List fh}(r:gv [x,y,z] us) : ∃u C t,us=[u,C,t]/\RelV x u/\RelV y C/\RelV z t:=by
 cases r with
 | cons I a=>
  cases a with
  | cons O U=>
   cases U with
   | cons Y b=>cases b;exact⟨_,_,_,rfl,I,O,Y⟩
noncomputable def GO(K:Mf)(C:TA):TI:=λi H R=>C i H λe d=>∃z I O a b c,e=[.ref a,.ref b,.ref c]/\(∃f,l7 z K d a f)/\(∃g,l7 I K d b g)/\(∃h,l7 O K d c h)/\R (HR z I O K a b c) d
theorem ua{X:Cx}{Z Y C:fA}{ta:TA}{p pos:h8}{J:List fA}{x1:Nat}{S:h8}(hg:Gl X "zip")(hm:X.mg "zip" = eF)(ha:PA X [Z,Y,C] ta)
 (hv:Dd "zip" = ej (.type "zip")) (hs:g8 [Z,Y,C] X.env=[(eK,fy Z X.env),(eK,fy Y X.env),(eK,fy C X.env)]:=by rfl) (a6:g8 [Y,C] X.env=[(eK,fy Y X.env),(eK,fy C X.env)]:=by rfl) :
 PI X (.Tuple J x1 S) (.Call (.Name "zip" p) [Z,Y,C] [] pos) (GO X.K ta):=by
 intro g s N H R I h;refine D4 (kj I hg hm hv<|Nr (gu (ha pos g s N H _ I h) λus d hZ=>?_) (by rw[hs,a6])<|by rw[a6];rfl);obtain⟨vs,t,i,r1,q1⟩:=hZ;obtain⟨z,O,U,a,b,c,e,⟨xs,Q⟩,⟨ys,T⟩,⟨zs,W⟩,q⟩:=q1;subst e;obtain⟨w1,w2,w3,eu,be,bf,bg⟩:=FL r1;subst eu;cases be;cases bf;cases bg;obtain⟨bi,c8,y,z1⟩:=i.sq Q;obtain⟨bl,ca,A,z2⟩:=i.sq T;obtain⟨bm,cd,B,z3⟩:=i.sq W;have la:=y.lt;have lb:=A.lt;have lc:=B.lt;refine g_ F.called_zip ⋯ (KJ _ _ _) (Vs _ _ _) (λobj=>iC obj _ _ _) F.entry_zip_new (mn z O U a b c bi.toArray bl.toArray bm.toArray) ⟨y,A,B,?_⟩;have ps : ∀(h:gB) (o:pa) (c:fe) (u:pa),h.get? c=ej u->(h.push o).get? c=ej u:=λh o c u e=>Mh _ e;have keep : ∀j o,d.heap.get? j=ej o->(vk z O U d.heap a b c).get? j=ej o:=λj o e=>ps _ _ _ _<|ps _ _ _ _<|ps _ _ _ _<|ps _ _ _ _<|ps _ _ _ _<|ps _ _ _ _ e;have E:(MG d.heap<|i9 z a).objs.size=d.heap.objs.size+1:=MX ..;have G:(MG (MG d.heap<|i9 z a)<|i9 O b).objs.size=d.heap.objs.size+2:=by rw[MX,E]
 have L:(MG (MG (MG d.heap<|i9 z a)<|i9 O b)<|i9 U c).objs.size=d.heap.objs.size+3:=by rw[MX,G]
 have M:(MG (MG (MG (MG d.heap<|i9 z a)<|i9 O b)<|i9 U c)<|cx (.ref d.heap.objs.size) (.ref<|d.heap.objs.size+1)<|.ref<|d.heap.objs.size+2).objs.size=d.heap.objs.size+4:=by rw[MX,L]
 have y5:(MG (MG (MG (MG (MG d.heap<|i9 z a)<|i9 O b)<|i9 U c)<|cx (.ref d.heap.objs.size) (.ref<|d.heap.objs.size+1)<|.ref<|d.heap.objs.size+2)<|cx .none .none .none).objs.size=d.heap.objs.size+5:=by rw[MX,M]
 have g0:lp z (vk z O U d.heap a b c) d.heap.objs.size a 0:=(Zl z d.heap a).at λo e=>ps _ _ _ _<|ps _ _ _ _<|ps _ _ _ _<|ps _ _ _ _<|ps _ _ _ _ e;have g1:lp O (vk z O U d.heap a b c) (d.heap.objs.size+1) b 0:=by have q:=Zl O (MG d.heap<|i9 z a) b;rw[E]at q;exact q.at λo e=>ps _ _ _ _<|ps _ _ _ _<|ps _ _ _ _<|ps _ _ _ _ e
 have c1:lp U (vk z O U d.heap a b c) (d.heap.objs.size+2) c 0:=by have q:=Zl U (MG (MG d.heap<|i9 z a)<|i9 O b) c;rw[G]at q;exact q.at λo e=>ps _ _ _ _<|ps _ _ _ _<|ps _ _ _ _ e
 have g2:kT (vk z O U d.heap a b c) (d.heap.objs.size+3) (.ref d.heap.objs.size) (.ref<|d.heap.objs.size+1) (.ref<|d.heap.objs.size+2):=by have q:_=ej (cx (.ref d.heap.objs.size) (.ref<|d.heap.objs.size+1)<|.ref<|d.heap.objs.size+2):=Mz (MG (MG (MG d.heap<|i9 z a)<|i9 O b)<|i9 U c) (o:=cx (.ref d.heap.objs.size) (.ref<|d.heap.objs.size+1)<|.ref<|d.heap.objs.size+2) rfl;rw[L]at q;exact ps _ _ _ _<|ps _ _ _ _ q
 have g3:kT (vk z O U d.heap a b c) (d.heap.objs.size+4) .none .none .none:=by have q:_=ej (cx .none .none .none):=Mz (MG (MG (MG (MG d.heap<|i9 z a)<|i9 O b)<|i9 U c)<|cx (.ref d.heap.objs.size) (.ref<|d.heap.objs.size+1)<|.ref<|d.heap.objs.size+2) (o:=cx .none .none .none) rfl;rw[M]at q;exact ps _ _ _ _ q
 have r:p9 (vk z O U d.heap a b c) (d.heap.objs.size+5) (d.heap.objs.size+3) (d.heap.objs.size+4) .none:=by have q:=Mz (MG (MG (MG (MG (MG d.heap<|i9 z a)<|i9 O b)<|i9 U c)<|cx (.ref d.heap.objs.size) (.ref<|d.heap.objs.size+1)<|.ref<|d.heap.objs.size+2)<|cx .none .none .none) (o:=Ar (d.heap.objs.size+3)<|d.heap.objs.size+4) rfl;rw[y5]at q;exact q
 refine⟨⟨_,r,rfl⟩,Sz (s:={d with heap:=vk z O U d.heap a b c}) r ?_⟩;have P:Inv X g N t {d with heap:=vk z O U d.heap a b c,toks:=d.toks}:=i.kept keep;have c4 : ∀m:Nat,a≠d.heap.objs.size+m:=λm=>MP<|MI la<|MS _ m;have l : ∀m:Nat,b≠d.heap.objs.size+m:=λm=>MP<|MI lb<|MS _ m;have k : ∀m:Nat,c≠d.heap.objs.size+m:=λm=>MP<|MI lc<|MS _ m;have f : ∀m n:Nat,m≠n->(d.heap.objs.size+m:Nat)≠d.heap.objs.size+n:=λm n h=>by omega
 have D:O8 (d.heap.objs.size+5) (d.heap.objs.size+3) (d.heap.objs.size+4) d.heap.objs.size (d.heap.objs.size+1) (d.heap.objs.size+2) a b c:=
  ⟨f 3 5 ⋯,f 4 5 ⋯,f 0 5 ⋯,f 1 5 ⋯,f 2 5 ⋯,f 3 4 ⋯,f 3 0 ⋯,f 3 1 ⋯,f 3 2 ⋯,f 4 0 ⋯,f 4 1 ⋯,f 4 2 ⋯,f 0 1 ⋯,f 0 2 ⋯,f 1 2 ⋯,
   c4 5,l 5,l 4,l 0,k 5,k 4,k 0,k 1⟩
 refine⟨_,[d.heap.objs.size+5,d.heap.objs.size+3,d.heap.objs.size+4,d.heap.objs.size,d.heap.objs.size+1,d.heap.objs.size+2],_,_,t,rfl,P,eJ z O U D,⟨r,g2,⟨_,_,_,g3⟩,g0,g1,c1⟩,λj x=>?_,q⟩;have w:d.heap.objs.size<=j:=by
  simp only[Mu,ML,or_false]at x;rcases x with rfl | rfl | rfl | rfl | rfl | rfl
  ·exact MS _ _
  ·exact MS _ _
  ·exact MS _ _
  ·exact Mp _
  ·exact MS _ _
  ·exact MS _ _
 exact i.C1 w<|i.g5.fresh w
end L2
namespace DL
open PySem L2
noncomputable def KD(ds C fs:List D):List D:=(ds.zip<|C.zip fs).map λp=>D.tup [p.1,p.2.1,p.2.2]
noncomputable def mL(f g h:CO D)(γ:Ctx):Option (List D):=((f γ).bind j5).bind λm=>((g γ).bind j5).bind λn=>((h γ).bind j5).map λo=>KD m.2 n.2 o.2
@[simp] def Al:=@mL.eq_1
open PySem.Spec PyProof.Rows
theorem ez{U Y k3:Sk}{K:Mf}{H0 S:Hp}{a b c:fe}{xs ys J:List V}{ds C fs:List D}(Z:l7 U K S a xs)(r1:ft K H0 ds xs)(h2:l7 Y K S b ys)(r2:ft K H0 C ys)(z:l7 k3 K S c J)(r3:ft K H0 fs J) :
 Walk K H0 S (HR U Y k3 K a b c) (KD ds C fs):=by
 have N:=r1.length;have P:=r2.length;have Q:=r3.length;have L:(KD ds C fs).length=min ds.length (min C.length fs.length):=by simp[KD]
 refine⟨λi e s G=>?_,λe s=>?_,λi e x m s G y=>?_⟩
 ·exact⟨xs,ys,J,ym s Z,ym s h2,ym s z,by omega,by omega,by omega⟩
 ·refine⟨xs,ys,J,ym s Z,ym s h2,ym s z,?_⟩
  rw[L];omega
 ·obtain⟨p,u,v,t,w,j,A,g1,g2,g3⟩:=y
  obtain⟨d,E,H⟩:=r1.Dg<|g1 xs<|ym s Z;obtain⟨I,B,n⟩:=r2.Dg<|g2 ys<|ym s h2;obtain⟨f,F,o⟩:=r3.Dg<|g3 J<|ym s z;refine⟨.tup [d,I,f],?_,λl M k=>⟨upd l p<|.tup [u,v,t],?_,?_⟩⟩
  ·have as:(ds.zip<|C.zip fs)[i]? = ej (d,(I,f)):=RN.mpr ⟨E,RN.mpr ⟨B,F⟩⟩
   simp[KD,as]
  ·rw[A];exact Ext.alloc k j _
  ·rw[w]
   have O:=λ{q:D} {y:V} (r:Rep K H0 q y)=>(r.mono M).mono (js (jH k j)<|.tup [u,v,t]);exact(show ∃g h,V.ref p = .ref g/\i5 K _ g h/\ft K _ [d,I,f] h from⟨p,[u,v,t],rfl,i5.of zQ,ft.cons (O H)<|ft.cons (O n)<|ft.cons (O o) ft.nil⟩)
section
variable{X:Cx}{sc:jn}{N L:List Str}{k:Nat}{a b c:fA}{p pos:h8}{f g h:CO D}
theorem gp{C:List fA}{x1:Nat}{J:h8}(hS:SX X sc N L k)(cz:yj sc "zip" = eA)(z:X.mg "zip" = eF)(ha:PV X a f)(hb:PV X b g)(hc:PV X c h)
 (Z:g8 [a,b,c] X.env=[(eK,fy a X.env),(eK,fy b X.env),(eK,fy c X.env)]:=by rfl) (O:g8 [b,c] X.env=[(eK,fy b X.env),(eK,fy c X.env)]:=by rfl) (S:g8 [c] X.env=[(eK,fy c X.env)]:=by rfl) :
 ji X (.Tuple C x1 J) (.Call (.Name "zip" p) [a,b,c] [] pos) (mL f g h):=
 QJ (ua (hS.gl cz).1 z (jT ha (jT hb (jT hc q8 S)<|by rw[O,S])<|by rw[Z,O]) PyProof.Rows.boot_zip Z O) λσ H R T=>by obtain⟨u,l,ds,rc,I,q⟩:=T;obtain⟨⟨W,m⟩,i,I⟩:=ze I;obtain⟨d,K,i⟩:=ze i;obtain⟨⟨k2,n⟩,U,I⟩:=ze I;obtain⟨G,M,U⟩:=ze U;obtain⟨⟨k3,o⟩,Y,I⟩:=zB I;obtain⟨t,P,Y⟩:=ze Y;subst I;refine⟨u,l,d,rc,K,λv H' e x r=>⟨e,l,G,rc.ext x,M,λv2 H2 E j r2=>⟨E,l,t,(rc.ext x).ext j,P,λv3 w F x3 r3=>?_⟩⟩⟩;obtain⟨y,xs,rfl,g1,g2⟩:=J8 ((r.mono j.s0).mono x3.s0) i;obtain⟨A,ys,rfl,g3,Q⟩:=J8 (r2.mono x3.s0) U;obtain⟨B,zs,rfl,s,g6⟩:=J8 r3 Y;exact⟨W,k2,k3,y,A,B,rfl,⟨xs,ym x3.sub g1⟩,⟨ys,ym x3.sub g3⟩,⟨zs,ym x3.sub s⟩,q _ w F ((x.trans j).trans x3)<|ez g1 g2 g3 Q s g6⟩
end
def Xo:D->D->Option D
 | .bl b,.bl eA=>ej (.bl<|!b)
 | _,_=>eF
section
variable{X:Cx}{sc:jn}{N L:List Str}{k:Nat}
theorem uj:k5 X (oe .IsNot) (λx y H Q=>∃b,x = .bl b/\y = .bl eA/\Q (.bl<|!b) H):=by intro a s d H x y v u Q I z O h;obtain⟨b,rfl,rfl,q⟩:=h;cases z;cases O;exact Mq (rG I q<|by cases b<;>rfl)
theorem mK{K:Mf}:o8 K (λx y H Q=>∃b,x = .bl b/\y = .bl eA/\Q (.bl<|!b) H) Xo:=λa H x y e I d Q s O U z q=>by
 cases e with
 | bl b=>
  cases I with
  | bl c=>
   cases c with
   | true=>cases z;exact⟨b,O,U,q _ H a (Ext.refl s) rfl⟩
   | false=>cases z
  | _=>cases z
 | _=>cases I<;>cases z
theorem Kf{a b:fA}{C I:CO D}{pos:h8}(J:PV X a C)(z:PV X b I):o7 X (.Compare a [.IsNot] [b] pos) (sB<|zy Xo C I):=ZE uj mK J z<|Jh b
end
noncomputable def HZ(f g:CO D)(γ:Ctx):Option (List D):=((f γ).bind j5).bind λm=>((g γ).bind j5).bind λn=>if m.2.length<=lim then ej (Yu m.2 n.2)else eF
@[simp] def FA:=@HZ.eq_1
theorem Vu:S6 (.type "list") "keys" = pure eF:=by rw[typeLookup_type,_l];kernel_rfl
theorem XS:entryFor table "list.__getattribute__" = ej rn.«object.__getattribute__» :=
 entryFor_alias (id':="object.__getattribute__") (by kernel_rfl) (by first | rfl | decide +kernel) ⋯ (by kernel_rfl)
section
variable{prog:l6}{w:i8}{A:o6}{E:EQ}{h:gB}{g:Array GenState}{d:Drawn}{t:Nat}{os:OsState}{a:fe}{o:pa}
theorem QS(hx:h.get? a=ej ⟨.type "list",eF,.seq vs nk,sl⟩)(Y:A.handled=eF)
 (hE : ∀h' e t',(∀b u,h.get? b=ej u->h'.get? b=ej u)->(∃O,h'.get? e=ej O/\O.cls = .type "AttributeError")->E (.ref e) ⟨h',g,d,t',os⟩) :
 wpAny (f7 prog w) A (rn.«object.__getattribute__» ⟨[.ref a,.str "keys" tk],[]⟩) Q E ⟨h,g,d,t,os⟩:=by
 have n:(⟨h,g,d,t,os⟩:f6).TypeIs (.ref a) "list":=⟨_,hx,rfl⟩;have k:=Vu
 repeat (any_goals (first | assumption | wp_step))
 unfold raiseAttrError;have f:((Nj (toString "'" ++ toString ((Manifest.find? "list").elim "list" λx=>x.tpName)++toString "' object has no attribute '")++Nj "keys" ++ Nj "'"):Str).length<=hB:=by decide +kernel
 generalize (Nj (toString "'" ++ toString ((Manifest.find? "list").elim "list" λx=>x.tpName)++toString "' object has no attribute '")++Nj "keys" ++ Nj "'")=z at f ⊢;refine Md (wpAny_mkStr (hx:=f) ?_);refine Md ?_;unfold newExc z_;refine Md (Oa ?_ (by size_fits));refine Md (m:=Uc _ _) (wpAny_of_eq (a:=Nd) (by first | rfl | (simp only[Uc];rfl)) ?_);refine Oa ?_ (by size_fits);simp only[MX];have I:((h.push {cls:= .type "tuple",data:= .seq #[.str z t]}).push {cls:= .type "AttributeError",data:= .fields (#[.ref h.objs.size,.none,.none,.none,.bool eK,.none]++Ux (.type "AttributeError") [.str z t])}).get? (h.objs.size+1) =
  ej {cls:= .type "AttributeError",data:= .fields (#[.ref h.objs.size,.none,.none,.none,.bool eK,.none]++Ux (.type "AttributeError") [.str z t])}:=by heap_get
 have U : ∀b u,h.get? b=ej u->((h.push {cls:= .type "tuple",data:= .seq #[.str z t]}).push {cls:= .type "AttributeError",data:= .fields (#[.ref h.objs.size,.none,.none,.none,.bool eK,.none]++Ux (.type "AttributeError") [.str z t])}).get? b=ej u:=λb u e=>Mh _ (Mh _ e);have i:h.get? (h.objs.size+1)=eF:=Heap.get?_none_of_le (RF _);generalize ((h.push {cls:= .type "tuple",data:= .seq #[.str z t]}).push {cls:= .type "AttributeError",data:= .fields (#[.ref h.objs.size,.none,.none,.none,.bool eK,.none]++Ux (.type "AttributeError") [.str z t])})=h2 at I U ⊢;refine Md (wpAny_mkText ?_);unfold noteAttr lacksNameAndObj;have j:(⟨h2,g,d,t+1+1,os⟩:f6).TypeIs (.ref (h.objs.size+1)) "AttributeError":=⟨_,I,rfl⟩;have l:isSubtype (.type "AttributeError") (.type "AttributeError")=pure eA:=by rw[isSubtype_type];kernel_rfl
 repeat (any_goals (first | assumption | with_reducible refine wpAny_loadPart_at I ?_ | with_reducible refine wpAny_load I ?_ | wp_step))
 refine wpAny_raiseNew_none Y<|hE _ _ _ (λb u e=>?_) ⟨_,Rj _ I<|Obj.isFreed_of_fields<|X2 rfl _,Obj.cls_mapFields ..⟩;rw[NR _ _ (λq=>by rw[<- q]at e;rw[i]at e;cases e)];exact U b u e
theorem XM(hx:h.get? a=ej ⟨.type "list",eF,.seq vs nk,sl⟩)(I:A.handled=eF)
 (O : ∀h' e t',(∀b u,h.get? b=ej u->h'.get? b=ej u)->(∃z,h'.get? e=ej z/\z.cls = .type "AttributeError")->R (.error (.ref e)) ⟨h',g,d,t',os⟩) :
 codeAny (f7 prog w) A (.call (.builtin "list.__getattribute__") ⟨[.ref a,.str "keys" tk],[]⟩) R ⟨h,g,d,t,os⟩:=
 codeAny_call_builtin TH.plain XS (TH.check _ _ _ _ _ _ _ _ (show(⟨h,g,d,t,os⟩:f6).TypeIs (.ref a) "list" from⟨_,hx,rfl⟩) (F.args_list_getattribute_2 _ _) (QS hx I O))
theorem dA:S6 (.type "list") "__getattr__" = pure eF:=by rw[typeLookup_type,_l];kernel_rfl
theorem ib(hx:h.get? a=ej ⟨.type "list",eF,.seq vs nk,sl⟩)(I:A.handled=eF)
 (O : ∀h' t',(∀b u,h.get? b=ej u->h'.get? b=ej u)->Q eF ⟨h',g,d,t',os⟩):wpAny (f7 prog w) A (getAttr? (.ref a) "keys") Q E ⟨h,g,d,t,os⟩:=by
 have n:(⟨h,g,d,t+1,os⟩:f6).TypeIs (.ref a) "list":=⟨_,hx,rfl⟩;have f2:=TH.lookup;have k:=TH.bind (.ref a);have l:=dA;have m:isSubtype (.type "AttributeError") (.type "AttributeError")=pure eA:=by rw[isSubtype_type];kernel_rfl
 unfold getAttr? getAttrBy? getAttrBy
 repeat (any_goals (first | assumption | wp_step))
 refine XM (g:=g) (d:=d) (os:=os) hx I λh' e t' U z=>?_;obtain⟨Y,z,f⟩:=z;have i:(⟨h',g,d,t',os⟩:f6).TypeIs (.ref e) "AttributeError":=⟨Y,z,f⟩;have j:=O h' t' U;show wpAny _ _ (_t _ _ _ _ _ _ _) _ _ _;unfold _t hookOrError attributeErrorLeaves
 repeat (any_goals (first | assumption | wp_step))
end
noncomputable def wR:List D->Option (List D×List D)
 | []=>ej ([],[])
 | d::r=>match d with
  | .tup a=>match a with
   | [k,v]=>(wR r).map λp=>(k::p.1,v::p.2)
   | _=>eF
  | _=>eF
noncomputable def pR(f:CO (List D))(γ:Ctx):Option D:=(f γ).bind λa=>(wR a).bind λp=>oR p.1 p.2
@[simp] def FC:=@pR.eq_1
noncomputable def EK(C I:CO D):CO D:=λa=>(C a).bind λd=>(I a).bind λk=>match d with
 | .ow b e=>(o4 k).bind λi=>bw b e i
 | _=>eF
noncomputable def Bi(I C:CO D):CO D:=λa=>(I a).bind λk=>(C a).bind λd=>match d with
 | .ow b e=>(o4 k).map λi=> .bl (bw b e i).isSome
 | _=>eF
section
variable{X:Cx}{pins:UQ}{σ:St}{A:o6}{R:Result->f6->Prop}{H0:Hp}{l it d:fe}{ks:List Key}{ys xs:List V}
theorem dO(hh:A.handled=eF)(hx:xs.length=ks.length)(hy:ys.length=ks.length)(hp : ∀(n:Nat) (h1:n<xs.length) (h2:n<ks.length) (h3:n<ys.length),∃p,xs[n] = .ref p/\i5 X.K H0 p [kV ks[n],ys[n]])(S:H0 d=eF)(as:l≠d) : ∀(m n:Nat) (s:f6) (H:Hp) (C:List (Key×V)) (i:Int) (t:tw),n+m=ks.length->
 Inv X pins σ H s->i4 H0 H->H l=ej (.lst xs)->s.heap.IsListIter it l n->Jm X pins H it->H d=ej (.dK C)->C.length+m<=hB->
 (∀J,Inv X pins σ (upd H d<|.dK<|mT C<|(ks.zip ys).drop n) J->R (.ok<|.ret .none) J)->
 codeAny (f7 X.prog X.w) A (.builtin "dict.update.loop" ⟨[.ref d,.ref it,.int i t,.none],[]⟩) R s:=by
 intro m
 induction m with
 | zero=>
  intro n s H C i t hn I sub U st O a hz Y;obtain⟨z1,g,c,M,ll,h⟩:=I.G5 U;refine codeAny_builtin vy ?_;unfold rn.«dict.update.loop»;have j:s.heap.IsList l g.toArray:=⟨_,h,rfl,_,rfl⟩;refine Md<|wpAny_pyNext_list_end (s:=s) hh st j (by simp;omega) λh' eb=>?_;refine Md<|Mq ?_;have e0:upd H d (.dK<|mT C<|(ks.zip ys).drop n)=H:=by
   rw[List.drop_eq_nil_of_le (by simp;omega)];funext c;by_cases q:c=d
   ·rw[q,zQ,a];rfl
   ·rw[zL q]
  rw[e0]at Y;exact Mq (Y _<|I.Dk (t':=s.toks) (fp:=[it]) (λb o z e=>eb b o (by simpa using z) e)<|λb z=>by rw[OT.mp z];exact O)
 | succ m ih=>
  intro n s H C i t hn I sub U st O a hz Y;obtain⟨z1,g,c,M,ll,h⟩:=I.G5 U;have j:s.heap.IsList l g.toArray:=⟨_,h,rfl,_,rfl⟩;have Q:n<ks.length:=by omega
  obtain⟨p,ep,T⟩:=hp n ⋯ Q ⋯;obtain⟨u,hu,L⟩:=M.get (Mi<|show n<xs.length by omega);rw[ep]at L;have eu:u = .ref p:=L;subst eu;refine codeAny_builtin vy ?_;unfold rn.«dict.update.loop»;refine Md<|wpAny_pyNext_list_item (s:=s) st j (x:= .ref p) (by simpa using hu) λh' W sb=>?_;have f:=I.Dk (h':=h') (t':=s.toks) (fp:=[it]) (λb o z e=>(sb.2 b<|by simpa using z).trans e) (λb z=>by rw[OT.mp z];exact O);obtain⟨ts,rt,⟨o,E,co,nn,bl⟩,zt⟩:=f.tuple<|p8 sub T;obtain⟨u1,r,rfl,Z,k⟩ : ∃u1 r,ts=u1::r/\RelV (kV ks[n]) u1/\gv [ys[n]] r:=by
   cases rt with
   | cons q1 k=>exact⟨_,_,rfl,q1,k⟩
  obtain⟨u2,rfl,bv⟩:=vg k;have bx:({s with heap:=h'}:f6).TypeIs (.ref p) "tuple":=⟨_,E,co⟩;refine Md (Ox (Md (wpAny_tryCatch ?_)));unfold Builtin.Dict.pairItems;refine Md (RZ bx ?_);rw[UJ ⋯];refine Md (NG E bl (Mq ?_));show wpAny _ _ (tf [u1,u2] (dictSet d u1 u2)) _ _ _;obtain⟨zz,c1,vs,y,dd⟩:=CY f.g5 a;have c3:vs.length<=hB:=by rw[<- y.length];exact zz
  have c4:(dX C ks[n] ys[n]).length<=hB:=by have:=QU C ks[n] ys[n];omega
  refine Ox<|wpAny_dictSet_pairs (hsz:=c3) (oz Z) dd λc5 B F=>?_;have he : ∃q,c5.get? d=ej q:=let ⟨q,_,_,hq,_⟩:=B;⟨q,hq⟩;have N:=uS (t':=s.toks+1) f (by rw[a];exact Oq) F he<|CZ c4 c1 (y.put ks[n] bv) B;have G:it≠d:=λq=>by have:=O.1;rw[q,a]at this;cases this
  refine Mq ⟨vn _,ih (n+1) _ _ (dX C ks[n] ys[n]) (i+1) 0 ⋯ N (λc o e=>?_) (by rw[zL as];exact U) (W.at λo q=>(F.2 it G).trans q) ⟨by rw[zL G];exact O.1,O.2⟩ zQ (by have:=QU C ks[n] ys[n];omega) λJ P=>Y J ?_⟩
  ·rw[zL (λq=>by rw[q,S]at e;cases e)];exact sub _ _ e
  ·have ca:n<(ks.zip ys).length:=by simp;omega
   have e1:(ks.zip ys).drop n=(ks[n],ys[n])::(ks.zip ys).drop (n+1):=by rw[OF ca];simp
   have e2:upd (upd H d<|.dK<|dX C ks[n] ys[n]) d (.dK<|mT (dX C ks[n] ys[n])<|(ks.zip ys).drop (n+1))=upd H d (.dK<|mT C<|(ks.zip ys).drop n):=by
    funext c;by_cases q:c=d
    ·rw[q,zQ,zQ,e1];rfl
    ·rw[zL q,zL q,zL q]
   rw[<- e2];exact P
theorem dR(I:Inv X pins σ H s)(J:X.A.handled=eF)(sub:i4 H0 H)(z:H l=ej (.lst xs))(hx:xs.length=ks.length)(hy:ys.length=ks.length)
 (Z : ∀(n:Nat) (h1:n<xs.length) (h2:n<ks.length) (h3:n<ys.length),∃p,xs[n] = .ref p/\i5 X.K H0 p [kV ks[n],ys[n]]) (hz:ks.length<=hB)
 (S : ∀C p,H p=eF->Inv X pins σ (upd H p (.dK (mT [] (ks.zip ys)))) C->Q (.ref p) C):wpAny (f7 X.prog X.w) X.A (call (.type "dict") [.ref l]) Q X.xe s:=by
 have O:H s.heap.objs.size=eF:=I.fresh;have x:H0 s.heap.objs.size=eF:=jH sub O;have i:l≠s.heap.objs.size:=λq=>by rw[q,O]at z;cases z
 refine callType_codes (Q₁:=λobj f=>obj = .ref s.heap.objs.size/\f = {s with heap:=s.heap.push {cls:= .type "dict",data:= .dict #[]}}) F.kt_called_dict (F.kt_typeCall_dict_1 _) F.entry_dict_init (kt_code_dict_new _ ⟨rfl,rfl⟩) ?_;rintro obj f ⟨rfl,rfl⟩;have r:=I.laid (a:=s.heap.objs.size) (o:= .dK []) (t':=s.toks) (λ_ _ q=>Mh {cls:= .type "dict",data:= .dict #[]} q) (Mp _) (oP s.heap I.big);have j:({s with heap:=s.heap.push {cls:= .type "dict",data:= .dict #[]}}:f6).TypeIs (.ref s.heap.objs.size) "dict":=⟨_,Mz _ rfl,rfl⟩;obtain⟨N,m,c,M,L,B⟩:=I.G5 z;have U:(s.heap.push {cls:= .type "dict",data:= .dict #[]}).get? l=ej {cls:= .type "list",data:= .seq m.toArray c}:=Mh _ B;refine⟨j,F.args_dict_init_2 _ _,?_⟩;unfold rn.«dict.__init__»;refine Md ?_;unfold Builtin.Dict.selfAndRest;refine Md (wpAny_notOrdered_dict j ?_);show wpAny _ _ (pure (s.heap.objs.size,[NS l])) _ _ _;refine Mq ?_;show wpAny _ _ (Builtin.Dict.updateFrom "dict.__init__" s.heap.objs.size (.ref l) [] .none) _ _ _;unfold Builtin.Dict.updateFrom;refine Md (RZ (T:="list") ⟨_,U,rfl⟩ ?_);rw[UJ ⋯];refine Md (ib (g:=s.gens) (d:=s.drawn) (t:=s.toks) (os:=s.os) U (show X.A.in1.in1.handled=eF from J) λh' t' k=>?_);have Y:Inv X pins σ (upd H s.heap.objs.size (.dK [])) {s with heap:=h',toks:=t'}:=r.kept k;have y:=k _ _ U;simp only[Option.isNone_none,if_true];refine Md (PU (Md (Tq (items:=m.toArray) ⟨_,y,rfl,_,rfl⟩ ?_)));refine Mq ⟨vn _,?_⟩;have u:=Y.kept (h':=h'.push {cls:= .type "list_iterator",data:= .fields #[.ref l,.int 0 0]}) (t':=t') λb o e=>Mh _ e;have G:s.heap.objs.size<h'.objs.size:=by have:=MB (k _ _ (Mz s.heap (o:={cls:= .type "dict",data:= .dict #[]}) rfl));exact this
 have E:=Y.C1 (b:=h'.objs.size) (H':=upd H s.heap.objs.size<|.dK []) (Mp _) Y.fresh;refine dO (H0:=H0) (l:=l) (it:=h'.objs.size) (ks:=ks) (ys:=ys) (xs:=xs) (show X.A.in1.handled=eF from J) hx hy Z x i ks.length 0 _ (upd H s.heap.objs.size<|.dK []) [] 0 0 (Nc _) u (sub.trans<|js O _) (by rw[zL i];exact z) ⟨_,Mz _ rfl,rfl,rfl⟩ E zQ (by simpa using hz) λC h=>?_;rw[eH,List.drop_zero]at h;exact⟨rfl,S C _ O h⟩
end
theorem YE : ∀{ps ks vs:List D},wR ps=ej (ks,vs)->ks.length=ps.length/\vs.length=ps.length
 | [],ks,vs,h=>by cases h;exact⟨rfl,rfl⟩
 | d::r,ks,vs,h=>by
  unfold wR at h;split at h
  ·split at h
   ·obtain⟨⟨a,b⟩,e,z⟩:=zB h
    cases z;obtain⟨f,g⟩:=YE e;exact⟨by simp[f],by simp[g]⟩
   ·cases h
  ·cases h
theorem XY{K:Mf}{H:Hp} : ∀{ps ks vs:List D} {xs:List V} {C:List Int},wR ps=ej (ks,vs)->ft K H ps xs->XQ ks=ej C->
 ∃ys,ft K H vs ys/\ys.length=C.length/\xs.length=C.length/\∀(n:Nat) (J:n<xs.length) (S:n<C.length) (z:n<ys.length),∃p,xs[n] = .ref p/\i5 K H p [.int C[n],ys[n]]
 | [],ks,vs,xs,C,h,r,hi=>by cases h;cases hi;rw[r.uh];exact⟨[],ft.nil,rfl,rfl,λn J=>by cases J⟩
 | d::ps,ks,vs,xs,C,h,r,hi=>by
  unfold wR at h;split at h
  ·split at h
   ·rename_i k v
    obtain⟨⟨a,b⟩,e,I⟩:=zB h;cases I;obtain⟨x,A,rfl,J,S⟩:=r.q5;cases k with
    | int j=>
     obtain⟨y,O,U⟩:=zB hi;subst U;obtain⟨ys,o,s,t,Y⟩:=XY e S O;obtain⟨q,F,rfl,z,f⟩:=yf J;obtain⟨B,E,rfl,g,i⟩:=f.q5;obtain⟨u,w,rfl,l,m⟩:=i.q5;rw[m.uh,jx g]at z;refine⟨u::ys,ft.cons l o,by simp[s],by simp[t],λn g1 g2 g3=>?_⟩;cases n with
     | zero=>exact⟨q,rfl,z⟩
     | succ n=>exact Y n (by simpa using g1) (by simpa using g2) (by simpa using g3)
    | _=>cases hi
   ·cases h
  ·cases h
section
variable{X:Cx}{sc:jn}{N L:List Str}{k:Nat}{a o i:fA}{f:CO (List D)}{fd fk:CO D}{p pos:h8}
theorem mS(h:SX X sc N L k)(J:yj sc "dict" = eA)(zd:X.mg "dict" = eF)(S:PO X a f)(C:g8 [a] X.env=[(eK,fy a X.env)]:=by rfl) :
 PV X (.Call (.Name "dict" p) [a] [] pos) (pR f):=by
 intro g s σ H Q I m;obtain⟨H0,γ,d,rc,z,q⟩:=m;obtain⟨x,F,z⟩:=ze z;obtain⟨⟨b,j⟩,w,z⟩:=ze z;have R:X.A.handled=eF:=I.ok.hd h.calm;unfold oR at z;cases hi:XQ b with
 | none=>rw[show(b,j).1=b from rfl,hi]at z;cases z
 | some e=>
  rw[show(b,j).1=b from rfl,hi]at z;dsimp only at z;by_cases o:b.length=j.length/\e.Nodup/\b.length<=lim
  ·rw[UJ o]at z
   cases z;refine D4<|kj I (h.gl J).1 zd PyProof.Rows.boot_dict (Nr ?_ (by rw[C];rfl) rfl);rw[C];show wpAny _ _ (DW ((eK,fy a X.env)::[])) _ _ s;refine Oo<|gu (S g s σ H (λv i=>∃l xs O,v = .ref l/\Ext H0 H O i/\O l=eF/\i l=ej (.lst xs)/\ft X.K O x xs) I ⟨H0,γ,x,rc,F,λl xs i O x1 g1 g2 g3 U=>⟨l,xs,O,rfl,x1,g2,g3,U⟩⟩) λv s1 m=>?_;obtain⟨y,i,B,ry,l,xs,O,rfl,x1,g2,g3,U⟩:=m;cases ry;refine Rc ?_;obtain⟨ys,T,W,Z,r4⟩:=XY w U hi;have r:(e.map<|Ot (β:=Str)).length=e.length:=by simp
   have nl:e.length=b.length:=by have:=(YE w).1;have:=U.length;omega
   refine dR (H0:=O) (ks:=e.map Ot) (ys:=ys) (xs:=xs) B R x1.sub g3 (by rw[r];exact Z) (by rw[r];exact W) (λn G M P=>?_) ?_ λs' p Y u=>?_
   ·obtain⟨t,t1,t2⟩:=r4 n G (by simpa using M) P
    refine⟨t,t1,?_⟩;simpa[kV]using t2
   ·have:lim<=hB:=by decide
    rw[r];omega
   ·have E:mT [] ((e.map<|Ot (β:=Str)).zip ys)=(e.map Ot).zip ys:=by
     rw[Ke _ []]
     ·simp
     ·rw[OX,List.map_fst_zip ⋯]
      exact Vn o.2.1
    rw[E]at u;exact⟨.ref p,_,u,rfl,q (.ref p) _ _ ((x1.trans<|Ext.hide x1.sub Y _).show (yw x1.s1 Y) (jH x1.sub Y) zQ rc.sub)
     (show ∃a xs,V.ref p = .ref a/\DJ (upd O p _) a b xs/\ft X.K (upd O p _) j xs from⟨p,ys,rfl,⟨_,Kt hi,by omega,zQ⟩,T.mono<|js (jH x1.sub Y) _⟩)⟩
  ·rw[UY o]at z;cases z
theorem By(h:SX X sc N L k)(Y:PV X o fd)(J:PV X i fk)(S:HQ i:=by intro _ _;rfl):PV X (.Subscript o i pos) (EK fd fk):=
 qE (ud (by have:=h.O0;omega) Y J S) λT H Q C=>by
  obtain⟨g,f,d,rc,z,q⟩:=C;obtain⟨s,t,z⟩:=ze z;obtain⟨P,u,z⟩:=ze z;cases s with
  | ow F G=>
   obtain⟨j,w,A⟩:=ze z;refine⟨g,f,_,rc,t,λv M I x r=>⟨I,f,_,rc.ext x,u,λy l m O e=>?_⟩⟩;obtain⟨ad,b,rfl,⟨R,g1,g2,g3⟩,B⟩:=(show ∃a b,v = .ref a/\DJ I a F b/\ft X.K I G b from r);rw[jQ w]at e;have E:y = .int j:=e;obtain⟨U,n,p⟩:=(Ye (i:=j) g1 g2<|B.mono O.s0).1 d A;refine⟨ad,U,rfl,?_,q U l m (x.trans O) p⟩;rw[E,<- n];exact .inl ⟨_,Ot j,.inl<|O.s1 _ _<|x.sub _ _ g3,rfl,rfl⟩
  | _=>cases z
theorem tH(h:SX X sc N L k)(S:PV X i fk)(ho:PV X o fd)(Z:C0 .In o=eK:=by with_unfolding_all rfl):o7 X (.Compare i [.In] [o] pos) (sB<|Bi fk fd):=
 Y5 (BD (BZ (by have:=h.O0;omega) S ho) Z) λσ H Q P=>by
  obtain⟨n,m,b,rc,z,q⟩:=P;obtain⟨db,B,J⟩:=ze z;obtain⟨k1,C,z⟩:=ze B;obtain⟨w,E,z⟩:=ze z;cases w with
  | ow g l=>
   obtain⟨j,F,G⟩:=zB z;subst G;cases J;refine⟨n,m,_,rc,C,λy T p x U=>⟨p,m,_,rc.ext x,E,λv e I O r=>?_⟩⟩;obtain⟨ad,d,rfl,⟨kk,g1,g2,Y⟩,M⟩:=(show ∃a d,v = .ref a/\DJ I a g d/\ft X.K I l d from r);rw[jQ F]at U;have f:y = .int j:=U;obtain⟨s,t⟩:=Ye (i:=j) g1 g2 M;cases hv:bw g l j with
   | none=>
    refine⟨ad,eF,rfl,?_,_,rfl,?_⟩
    ·rw[f,<- t hv]
     exact .inl ⟨_,Ot j,.inl<|O.sub _ _ Y,rfl,rfl⟩
    ·rw[hv]at q;exact q e I<|x.trans O
   | some A=>
    obtain⟨R,u,W⟩:=s A hv;refine⟨ad,ej R,rfl,?_,_,rfl,?_⟩
    ·rw[f,<- u]
     exact .inl ⟨_,Ot j,.inl<|O.sub _ _ Y,rfl,rfl⟩
    ·rw[hv]at q;exact q e I<|x.trans O
  | _=>cases z
end
def GM:D->Option (List Int)
 | .tup a=>XQ a
 | _=>eF
noncomputable def Ct:List D->Option (List<|List Int)
 | []=>ej []
 | d::ds=>(GM d).bind λk=>(Ct ds).map λr=>k::r
noncomputable def Ib(f:CO (List D))(γ:Ctx):Option D:=(f γ).bind λb=>(wR b).bind λp=>(Ct p.1).bind λa=>if a.Nodup/\a.length<=lim then ej (.ni a p.2)else eF
noncomputable def GZ:List (List Int)->List D->List Int->Option D
 | k::ks,v::vs,i=>if k=i then ej v else GZ ks vs i
 | _,_,_=>eF
noncomputable def Ll(C I:CO D)(γ:Ctx):Option D:=(C γ).bind λd=>(I γ).bind λk=>match d with
 | .ni a b=>(GM k).bind λi=>GZ a b i
 | _=>eF
noncomputable def GY(d k x:D):Option D:=match d with
 | .ni a b=>(GM k).map λi=>(GZ a b i).getD x
 | _=>eF
noncomputable def Li(C I z:CO D)(γ:Ctx):Option D:=(C γ).bind λd=>(I γ).bind λk=>(z γ).bind λx=>GY d k x
noncomputable def Lh(f:CO D)(γ:Ctx):Option (List D):=(f γ).bind λd=>match d with
 | .ni a _=>ej (a.map λk=> .tup (k.map .int))
 | _=>eF
section
variable(γ:Ctx)
@[simp] def FB:=@Ib.eq_1
@[simp] def HI:=@Ll.eq_1
@[simp] def HE:=@Li.eq_1
@[simp] def HC:=@Lh.eq_1
end
noncomputable def Ir:List (List Int)->List Int->List Int->Option Int
 | k::ks,n::ns,i=>if k=i then ej n else Ir ks ns i
 | _,_,_=>eF
noncomputable def eqT(ks:List (List Int))(C:List Int)(z:List (List Int))(I:List Int):Bool:=decide (ks.length=z.length) && (ks.zip C).all λx=>decide<|Ir z I x.1=ej x.2
noncomputable def Iw(d e:D):Option Bool:=match d with
 | .ni a f=>match e with
  | .ni z I=>(XQ f).bind λb=>(XQ I).map λO=>eqT a b z O
  | _=>eF
 | _=>eF
@[simp] def Mc(d e:D):Option D:=(Iw d e).map D.bl
@[simp] def Mb(d e:D):Option D:=(Iw d e).map λb=>D.bl<|!b
noncomputable def Lg(f:CO D)(γ:Ctx):Option D:=(f γ).bind λd=>match d with
 | .ni a _=>ej (.int a.length)
 | _=>eF
@[simp] def HB:=@Lg.eq_1
abbrev TT:=List (List (List Int))
inductive Pl where
 | out | tab (k:Nat) | row (k m:Nat)
deriving DecidableEq
noncomputable def Gy(Z:TT):Pl->Prop
 | .out=>True
 | .tab k=>k<Z.length
 | .row k m=>k<Z.length/\m<(Z.getD k []).length
noncomputable def Ed(Z:TT)(ad:Pl->fe):Pl->List V
 | .out=>(Me Z.length).map λk=>V.ref<|ad<|.tab k
 | .tab k=>(Me (Z.getD k []).length).map λm=>V.ref<|ad<|.row k m
 | .row k m=>((Z.getD k []).getD m []).map V.int
structure N3(H:Hp)(Z:TT)(ad:Pl->fe):Prop where
 cont : ∀pl,Gy Z pl->H (ad pl)=ej (.lst<|Ed Z ad pl)
 inj : ∀pl Uy,Gy Z pl->Gy Z Uy->ad pl=ad Uy->pl=Uy
section
variable{K:Mf}{al:List (Nat×Pl)}{E0 E H0 H C7 H':Hp}{σ i?:St}{γ γ':Ctx}{Z:TT}{ad:Pl->fe}
open Classical in
end
open Classical in
section
variable{H:Hp}{Z:TT}{ad:Pl->fe}
end
end DL
namespace DL
open PySem PySem.Spec PyProof.Rows L2
open PySem.W (KasT kas_sort kas_ask kat_run kat_snds kat_lt kat_cons kat_no kat_yes kat_nil kat_go kat_one kat_kind KatTups KatGo)
section
variable{prog:l6}{w:i8}{A:o6}{E:EQ}{s:f6}
theorem bp{a kS:fe}{I:List fh}{out:List fh}{e C:Nat}{P:PySem.Fin->f6->Prop}{st:SortSt}(O:s.heap.get? kS=ej (ir "list" I.toArray e))(S:s.heap.get? a=ej (ir "list" #[] C))(U:kS≠a)(Y:I.length<=hB)(J:out.length<=hB)
 (ho:(L6 st).map (·.2)=out.toArray) (Z:failedOf st=eF)
 (h : ∀h' c,h'.objs.size=s.heap.objs.size->(∀b o,b≠a->b≠kS->s.heap.get? b=ej o->h'.get? b=ej o)->h'.get? a=ej (ir "list" out.toArray c)->P (.done (.ret .none)) {s with heap:=h'}) :
 wpAny (f7 prog w) A (ksk_tail a eK C (.ref kS) st) P E s:=by
 unfold ksk_tail;refine Md (Rg O rfl ?_ (by rw[Mw];exact Y) (Ny _));refine Md (Pj ?_);have z:(s.heap.update kS (MZ λ_=>(#[]:Array fh))).get? a=ej (ir "list" #[] C):=(NR _ _ U).trans S;refine Md (Te z rfl ?_);simp only[Od,if_false];rw[ho];refine Md (Rg z rfl ?_ (Ny _) (by show out.toArray.size<=_;rw[Mw];exact RX J));rw[Z];simp only[bne_self_eq_false,Od,if_false];obtain⟨c,g⟩ : ∃c,((s.heap.update kS (MZ λ_=>(#[]:Array fh))).update a (MZ λ_=>out.toArray)).get? a=ej (ir "list" out.toArray c):=⟨_,SJ z λ_=>out.toArray⟩;refine Mq (h _ c (by rw[OQ,OQ]) (λb o d f q=>?_) g);exact(NR _ _ (MV d)).trans ((NR _ _ (MV f)).trans q)
theorem uC{a kS:fe}{vs z:List fh}{ps:List (Int×Int)}{e J:Nat}{P:PySem.Fin->f6->Prop}(hk:s.heap.get? kS=ej (ir "list" z.toArray e))(ha:s.heap.get? a=ej (ir "list" #[] J))(a8:kS≠a)(a9:z.length=vs.length)(S:ps.length=vs.length)(ax:vs.length<64)
 (Z : ∀i (hi:i<z.length),C9 s.heap z[i] (ps.getD i (0,0)).1 (ps.getD i (0,0)).2)
 (h : ∀h' c,h'.objs.size=s.heap.objs.size->(∀b o,b≠a->b≠kS->s.heap.get? b=ej o->h'.get? b=ej o)->h'.get? a=ej (ir "list" (OW ((qp ps).map λi=>vs.getD i Nd)) c)->P (.done (.ret .none)) {s with heap:=h'}) :
 wpAny (f7 prog w) A (ksk_end a eK vs.toArray J (.ref kS) z.toArray) P E s:=by
 have hz:vs.length<=hB:=by rw[Pk];omega
 have n:vs.toArray.size=vs.length:=by simp
 have c5:((qp ps).map λi=>vs.getD i Nd).length=vs.length:=by rw[MF,(qa ps).length_eq,Nz,S]
 have step : ∀t:Sem PySem.Fin,wpAny (f7 prog w) A t P E s->wpAny (f7 prog w) A (if eK=eA then (do let _ <- rule "list.sort.reverse";t)else t) P E s:=λt ht=>ht;unfold ksk_end
 try dsimp only
 refine step _ ?_;by_cases g:vs.toArray.size<2
 ·rw[UJ g,UJ g]
  refine Md<|Mq ?_;rw[StateT.run_pure];refine Md<|Mq ?_;dsimp only;have ev:(qp ps).map (λi=>vs.getD i Nd)=vs:=by unfold qp;rw[UJ ⋯,S];exact jk _ _
  have e7:Array.map (λx=>x.snd) (L6<|SortSt.mk' general' (z.toArray.zip vs.toArray) #[] 7 eF)=((qp ps).map (λi=>vs.getD i Nd)).toArray:=by show Array.map (λx=>x.snd) (z.toArray.zip vs.toArray)=_;rw[ev];apply Array.ext';simp[Array.toList_map,Array.toList_zip];rw[List.map_snd_zip ⋯]
  exact bp hk ha a8 ⋯ ⋯ e7 rfl h
 ·rw[UY g,UY g]
  have n2:2<=vs.length:=by rw[<- n];omega
  obtain⟨fs,f1,f2,f3⟩:=iu (ks:=λi=>(ps.getD i (0,0)).1) λi hi=>(Z i hi).one;refine Md (kat_kind (T:=Py "int") f1 ⋯ (λv hv=>?_) ⋯ ?_)
  ·obtain⟨k,t,rfl⟩:=f3 v hv
   exact PySem.W.Looks.of_pure rfl
  have ep:(kn (λi j=>wq (ps.getD i (0,0))<|ps.getD j (0,0))<|kas_sort vs.length).toList=qp ps:=by unfold qp;rw[UY ⋯,S]
  refine Md (Oy (kat_run (E:=E) (ks:=z) (Q:=λf d=>∃p:Array Nat,L6 f=p.map (PySem.W.kas_item<|z.toArray.zip vs.toArray)/\failedOf f=eF/\p.toList=qp ps/\d=s)
   (G:=λp d=>p.toList=qp ps/\d=s)
   a9 n2 ax (λp f d a1 L M r=>⟨p,L,M,r.1,r.2⟩) (WN (lt:=λi j=>wq (ps.getD i (0,0))<|ps.getD j (0,0)) (λi j C hi hj I=>?_) (Xe ⋯) ⟨ep,rfl⟩)) ?_ λ_ _ e=>e)
  ·show wpAny _ _ (keyLt' _ (z.getD i Nd)<|z.getD j Nd) C _ _
   have B:i<z.length:=by omega
   have F:j<z.length:=by omega
   rw[show z.getD i Nd=z[i]by simp[B],show z.getD j Nd=z[j]by simp[F]];obtain⟨x,ox,xs,m,t,u,J,e2,e3,e4,K⟩:=Z i B;obtain⟨y,oy,ys,m',t',u',d1,d2,d3,d4,H⟩:=Z j F;rw[J,d1];refine kat_lt e2 e4 d2 d4 ?_;have N:xs.size=2:=by rw[<- NV,K];rfl
   have R:ys.size=2:=by rw[<- NV,H];rfl
   rw[K,H,N,R,OS,OS];unfold wq at I;generalize ps.getD i (0,0)=U at I ⊢;generalize ps.getD j (0,0)=Y at I ⊢;refine kat_cons<|Po U.1 t Y.1 t' _ _ _ _ ?_;refine kat_go (λO=>?_) λO=>?_
   ·have O:U.1=Y.1:=by simpa using O
    rw[UJ O]at I;refine kat_yes<|kat_cons<|Po U.2 u Y.2 u' _ _ _ _<|kat_go (λl=>?_) λl=>?_
    ·have l:U.2=Y.2:=by simpa using l
     refine kat_yes<|kat_nil ?_;rw[show decide (U.2<Y.2)=eK by rw[l];simp]at I;exact I
    ·exact kat_no<|kat_one _ _<|lt_int I
   ·have O:U.1≠Y.1:=by simpa using O
    rw[UY O]at I;exact kat_no<|oneLt_int I
  rintro⟨⟨⟩,f⟩ d ⟨p,X,hf,hp,rfl⟩;dsimp only;have as:=kat_snds a9 X;rw[hp]at as;exact bp hk ha a8 ⋯ ⋯ as hf h
end
end DL
namespace DL
open PySem PySem.Spec PyProof.Rows L2
section
variable{X:Cx}{pins:UQ}{σ:St}{H:Hp}{s:f6}{a:fe}{o:HO}
theorem iA(I:Inv X pins σ H s)(f:Jm X pins H a)(new:nh X.prog X.w (upd H a o) s.heap a o):Inv X pins σ (upd H a o) s:=by
 obtain⟨f1,f2,y,j,k,l⟩:=f;have d : ∀b u,H b=ej u->b≠a:=λb u q z=>by rw[z,f1]at q;cases q
 refine⟨I.ok,I.os,I.bare,⟨I.base.keep,I.base.slot,λb U q n h=>?_,I.base.there,λb i q=>?_,λb U u q=>?_,λb t q=>?_⟩,I.loc,I.cell,?_,λx c e=>?_,λp g=>?_,λb u e=>?_,I.len⟩
 ·have O:b≠a:=λz=>by
   rcases j with Y | Y
   ·exact h<|z ▸ Y
   ·have:=MB q
    rw[z]at this;exact absurd this<|Nat.not_lt_of_le Y
  rw[zL O];exact I.base.free b U q n h
 ·have:=I.base.DH b i q
  rw[zL (d b _ this)];exact this
 ·have:=I.base.DR b U u q
  rw[zL (d b _ this)];exact this
 ·obtain⟨m,this⟩:=I.base.DG b t q
  exact⟨m,by rw[zL (d b _ this)];exact this⟩
 ·rw[zL (MV f2)];exact I.free
 ·rw[zL (k x c e)];exact I.C2 x c e
 ·obtain⟨e,n,r⟩:=I.pin p g
  exact⟨e,by rw[zL (l p g)];exact n,r⟩
 ·by_cases O:b=a
  ·subst O;rw[zQ]at e;cases e;exact new
  ·rw[zL O]at e
   exact(I.g5 b u e).DX (λ_ _ _ q=>q) (λc q=>by rw[zL (d c _ q)];exact q) λc i q=>by rw[zL (d c _ q)];exact q
theorem sY{A:o6}{Q:VK}{us:List fh}{vs:List V}{CX:B0}{k:Nat}{f:fe}{C:u0}{ps:List Str}{sp:Sp}(F:uw X.prog X.w X.K X.mg X.base u7 k f C ps sp)(O:qs k A)(U:Dq X.prog X.w X.K X.mg X.base A X.stack s H)(Y:Binds X.K C ps [])
 (I:Inv X pins σ H s) (r:gv vs us) (h:sp vs H Q E0):wpAny (f7 X.prog X.w) A (call (.ref f) us) (EP X pins σ Q) (λ_ _=>False) s:=by
 have b:us.length=ps.length:=by rw[<- r.length];exact F.len _ _ _ _ h
 refine wpAny_call<|SK (F.run A X.stack s H ⟨us,[]⟩ us vs Q E0 O U (by simpa using Y s us I.m6 (by simpa using b)) r h) λr d z=>?_;cases r with
 | error e=>exact z.elim
 | ok a=>
  cases a with
  | ret u=>exact I.after z
  | next=>exact OK z
  | brk=>exact OK z
  | cont=>exact OK z
theorem Bm(I:Inv X pins σ H s)(J:Jm X pins H kS)(C:Jm X pins H a)(O:s.heap.get? kS=ej ok)(S:s.heap.get? a=ej oa)(U : ∀v,ok.data ≠ .cell v)(Y : ∀v,oa.data ≠ .cell v):Inv X (pins++[(kS,ok),(a,oa)]) σ H s:=
 I.P9 λp z=>by
  rcases PL.mp z with z | z
  ·exact I.pin p<|MJ _ z
  ·rcases Mu.mp z with rfl | z
   ·exact⟨O,J.1,J.2.1,J.2.2.1,U⟩
   ·rw[OT.mp z];exact⟨S,C.1,C.2.1,C.2.2.1,Y⟩
theorem AJ(I:Inv X (pins++more) σ H s):Inv X pins σ H s:=I.P9 λp z=>I.pin p<|MJ _<|U8 _ z
end
def Vb(ps:List (Int×Int)):List D:=ps.map λp=>D.tup [.int p.1,.int p.2]
section
variable{X:Cx}{pins:UQ}{σ:St}{F:List D->Option Res}{k:Nat}{f:fe}{fd:u0}{pr:List Str}{A:o6}{E:EQ}
theorem si(I:Inv X pins σ H s)(sub:i4 H0 H)(r:Rep X.K H0 (.tup [.int i,.int j]) v)(C:RelV v u):C9 s.heap u i j:=by
 obtain⟨b,J,rfl,d,g⟩:=yf r;obtain⟨y,G,f,h,k⟩:=g.q5;obtain⟨F,as,a,l,m⟩:=k.q5;rw[m.uh]at a;rw[f,a,jx h,jx l]at d;cases C;obtain⟨e,B,⟨o,x,p,n,w⟩,_⟩:=I.tuple<|p8 sub d;obtain⟨z,O,rfl,U,Y⟩ : ∃z O,e=z::O/\RelV (.int i) z/\gv [.int j] O:=by
  cases B with
  | cons U Y=>exact⟨_,_,rfl,U,Y⟩
 obtain⟨E,rfl,A⟩:=vg Y;obtain⟨t,rfl⟩:=U;obtain⟨u,rfl⟩:=A;exact⟨b,o,_,n,t,u,rfl,x,p,w,rfl⟩
theorem ot{a kS:fe}{vs:List fh}{xs:List V}{ds:List D}{ps:List (Int×Int)}{S:Nat}{P:PySem.Fin->f6->Prop}{H0 H:Hp}{s:f6}
 (G:uw X.prog X.w X.K X.mg X.base u7 k f fd pr (yg X.K pr.length F)) (h1:pr.length=1) (hr:qs k A) (bg:A.frames=ej X.stack) (O:Binds X.K fd pr [])
 (I:Inv X pins σ H s) (sub:i4 H0 H) (rv:gv xs vs) (rd:ft X.K H0 ds xs) (b0:ps.length=vs.length) (bi:vs.length<64)
 (hF : ∀(i:Nat) d p,ds[i]? = ej d->ps[i]? = ej p->F [d]=ej (.val<|.tup [.int p.1,.int p.2]))
 (hk:s.heap.get? kS=ej (ir "list" #[] 0)) (ha:s.heap.get? a=ej (ir "list" #[] S)) (b5:kS≠a) (fk:Jm X pins H kS) (fa:Jm X pins H a)
 (h : ∀J H' C c,Inv X pins σ H' J->Ext H0 H C H'->J.heap.get? a=ej (ir "list" (OW ((qp ps).map λi=>vs.getD i Nd)) c)->Jm X pins H' a->P (.done (.ret .none)) J) :
 wpAny (f7 X.prog X.w) A (ksk_rest a (.ref f) eK vs.toArray S<|.ref kS) P E s:=by
 have cd:=rv.length;have ce:=rd.length;have hz:vs.length<=hB:=by rw[Pk];omega
 unfold ksk_rest;refine Md (PU ?_);rw[List.forIn_toArray];refine Md (ksk_fold (λj J=>∃l n U e,Inv X (pins++[(kS,ir "list" U e),(a,ir "list" #[] S)]) σ l J/\Ext H0 H n l/\∃g:List V,gv g U.toList/\ft X.K n (Vb (ps.take j)) g) vs 0 s
  ⟨H,H0,#[],0,Bm I fk fa hk ha (λv z=>by cases z) (λv z=>by cases z),Ext.refl sub,[],.nil,ft.nil⟩ ?step ?done)
 case step=>
  rintro j x J hx ⟨l,n,U,e,Y,x1,g,B,m⟩;simp only[Nc]at m ⊢;have hj:j<vs.length:=(Mv.mp hx).1;have hp:ps[j]? = ej ps[j]:=Mi ⋯;have hd:ds[j]? = ej ds[j]:=Mi ⋯;have b7:xs[j]? = ej xs[j]:=Mi ⋯;obtain⟨u',b8,bm⟩:=rv.get b7;rw[hx]at b8;cases b8;obtain⟨x',b9,bn⟩:=rd.get hd;rw[b7]at b9;cases b9;have env:Dq X.prog X.w X.K X.mg X.base A X.stack J l:=⟨bg,Y.Dw.mod,Y.Dw.bs,Y.Dw.De,Y.Dw.A9,Y.Dw.DQ,Y.Dw.g5,Y.Dw.bare⟩;refine Md (Rf (Oy (sY (CX:=u7) (Q:=λv H'=>∃C,Ext n l C H'/\Rep X.K C (.tup [.int ps[j].1,.int ps[j].2]) v) G hr env O Y (vs:=[xs[j]]) (us:=[x]) (.cons bm .nil)
   ⟨n,[ds[j]],_,x1.sub,ft.cons (bn.mono x1.s0) ft.nil,by rw[h1];rfl,hF j _ _ hd hp,λv H' C R r2=>⟨C,R,r2⟩⟩) (λv L he=>?_) λ_ _ hF=>hF.elim))
  obtain⟨vv,T,t,c0,c1,R,r2⟩:=he
  try dsimp only
  obtain⟨r,W,_⟩:=t.pin (kS,ir "list" U e) (MJ _ (MJ _ (.head _)));obtain⟨na,Z,_⟩:=t.pin (a,ir "list" #[] S) (MJ _ (MJ _ (.tail _ (.head _))));have c3:=AJ t;have M:Jm X pins T kS:=⟨W,fk.2⟩;have N:Jm X pins T a:=⟨Z,fa.2⟩;have kl:U.size=j:=by have:=B.length;have:=m.length;simp only[Vb,MF,Rm,NV]at *;omega
  refine Md (Rg r rfl ?_ (by rw[kl,Pk];omega) (NQ (Nat.le_of_eq (Array.size_push ..)) (by rw[kl,Pk];omega)));obtain⟨c2,c4⟩ : ∃c2,(L.heap.update kS (MZ (·.push v))).get? kS=ej (ir "list" (U.push v) c2):=⟨_,SJ r (·.push v)⟩;have I3:=c3.Dk (h':=L.heap.update kS (MZ (·.push v))) (t':=L.toks) (fp:=[kS]) (λb o O q=>(NR _ _ (λz=>O (by rw[z];exact List.mem_singleton_self _))).trans q) (λb O=>by rw[OT.mp O];exact M);have c6:(L.heap.update kS (MZ (·.push v))).get? a=ej (ir "list" #[] S):=(NR _ _ b5).trans na;refine Mq ⟨rfl,T,c1,U.push v,c2,Bm I3 M N c4 c6 (λv z=>by cases z) (λv z=>by cases z),x1.trans R,g++[vv],?_,?_⟩
  ·rw[Array.toList_push];exact B.append<|.cons c0 .nil
  ·have ek:ps.take (j+1)=ps.take j++[ps[j]]:=by rw[List.take_add_one,hp];simp
   rw[ek];unfold Vb at m ⊢;rw[NA];exact(m.mono R.s0).append (ft.cons r2 ft.nil)
 case done=>
  rintro J ⟨l,n,U,e,Y,x1,g,B,m⟩;rw[Nc,<- b0,List.take_length]at m;obtain⟨r,W,_⟩:=Y.pin (kS,ir "list" U e) (MJ _ (MJ _ (.head _)));obtain⟨na,Z,_⟩:=Y.pin (a,ir "list" #[] S) (MJ _ (MJ _ (.tail _ (.head _))));have bd:=AJ Y;have M:Jm X pins l kS:=⟨W,fk.2⟩;have N:Jm X pins l a:=⟨Z,fa.2⟩
  try dsimp only
  refine Md<|listItems_at r rfl ?_;have l1:=B.length;have l2:=m.length;simp only[Vb,MF]at l2;have ek:U=U.toList.toArray:=by simp
  rw[ek]at r ⊢;refine uC r na b5 ⋯ b0 bi (λi hi=>?_) λh' c hsz kp hA=>?_
  ·have c8:i<ps.length:=by omega
   obtain⟨y,ey,ry⟩:=m.get (i:=i) (d:= .tup [.int (ps.getD i (0,0)).1,.int (ps.getD i (0,0)).2]) (by unfold Vb;simp[c8]);obtain⟨u,hu,ru⟩:=B.get ey;have:U.toList[i]=u:=by rw[Mi hi]at hu;exact Ng hu
   rw[this];exact si bd x1.sub ry ru
  ·have t:=bd.Dk (h':=h') (t':=J.toks) (fp:=[a,kS]) (λb o O q=>kp b o (λz=>O<|by rw[z];simp) (λz=>O<|by rw[z];simp) q) (λb O=>by
    rcases Mu.mp O with rfl | O
    ·exact N
    ·rw[OT.mp O];exact M)
   exact h _ l n c t x1 hA N
end
noncomputable def ue:Res->Option (Int×Int)
 | .val d=>match d with
  | .tup a=>match a with
   | [x,y]=>(o4 x).bind λi=>(o4 y).map λj=>(i,j)
   | _=>eF
  | _=>eF
 | .own _=>eF
noncomputable def Vx(F:List D->Option Res):List D->Option (List<|Int×Int)
 | []=>ej []
 | d::r=>((F [d]).bind ue).bind λp=>(Vx F r).map λl=>p::l
noncomputable def fF(F:List D->Option Res)(f:CO (Sk×List D)):CO (List D):=λd=>(f d).bind λa=>match a.1 with
 | .L=>(Vx F a.2).bind λb=>if a.2.length<64 then ej ((qp b).map λi=>a.2.getD i .gm)else eF
 | _=>eF
theorem YA(z:gv xs vs) : ∀(o:List Nat),(∀i∈o,i<xs.length)->gv (o.map λi=>xs.getD i .gm) (o.map λi=>vs.getD i Nd)
 | [],_=> .nil
 | i::o,h=>by have a:=h i Mx;refine .cons ?_ (YA z o λj I=>h j<|Ms _ I);obtain⟨v,O,g2⟩:=z.get (i:=i) (x:=xs[i])<|Mi a;show RelV (xs.getD i V.gm) (vs.getD i Nd);rw[Mm,Mm,Mi a,O];exact g2
section
variable{X:Cx}{pins:UQ}{σ:St}{F:List D->Option Res}{k:Nat}{f:fe}{fd:u0}{pr:List Str}
theorem dD
 (G:uw X.prog X.w X.K X.mg X.base u7 k f fd pr (yg X.K pr.length F)) (h1:pr.length=1) (hr:qs (k+1+1) X.A) (O:Binds X.K fd pr [])
 (I:Inv X pins σ H s) (sub:i4 H0 H) (hl:s.heap.IsList l vs.toArray) (S:gv xs vs) (rd:ft X.K H0 ds xs) (Z:ps.length=vs.length) (a9:vs.length<64)
 (hF : ∀(i:Nat) d p,ds[i]? = ej d->ps[i]? = ej p->F [d]=ej (.val<|.tup [.int p.1,.int p.2]))
 (h : ∀J H' C D,H D=eF->H' D=eF->Ext H0 H C H'->Inv X pins σ (upd H' D<|.lst<|(qp ps).map λi=>xs.getD i .gm) J->Q (.ref D) J) :
 wpAny (f7 X.prog X.w) X.A (call (.builtin "sorted") [.ref l] [(Nj "key",.ref f)]) Q E s:=by
 have b5:=S.length;have U:vs.length<=hB:=by rw[Pk];omega
 refine call_function_entry_kw kind_sorted plain_sorted entry_sorted (ksk_s1 _ _) ?_;unfold rn.«sorted»;refine Md (m:=checkCount "sorted" 1 1 _) (Mq ?_);refine Md (collect_list hl ?_ U);refine Md (Tn ?_ U);have a:((s.heap.push (ir "list" #[] 0)).update s.heap.objs.size (MZ (· ++ vs.toArray))).objs.size=s.heap.objs.size+1:=by rw[OQ,Ts]
 have Y:(((s.heap.push (ir "list" #[] 0)).update s.heap.objs.size (MZ (· ++ vs.toArray))).push (ir "list" vs.toArray 0)).get? (s.heap.objs.size+1)=ej (ir "list" vs.toArray 0):=by rw[<- a];exact Mz _ rfl
 have keep : ∀b o,s.heap.get? b=ej o->(((s.heap.push (ir "list" #[] 0)).update s.heap.objs.size (MZ (· ++ vs.toArray))).push (ir "list" vs.toArray 0)).get? b=ej o:=λb o q=>by have e:b<s.heap.objs.size:=MB q;rw[Ph _ _ _ (by rw[a];exact MP (Nu e)),SI _ _ _ _ (MP e),Ph _ _ _ (MP e)];exact q
 have j:(((s.heap.push (ir "list" #[] 0)).update s.heap.objs.size (MZ (· ++ vs.toArray))).push (ir "list" vs.toArray 0)).objs.size=s.heap.objs.size+2:=by rw[Ts,a]
 show wpAny _ _ _ _ _ {s with heap:=((s.heap.push (ir "list" #[] 0)).update s.heap.objs.size (MZ (· ++ vs.toArray))).push (ir "list" vs.toArray 0)};rw[a];generalize ((s.heap.push (ir "list" #[] 0)).update s.heap.objs.size (MZ (· ++ vs.toArray))).push (ir "list" vs.toArray 0)=g at Y keep j ⊢;have M:Inv X pins σ H {s with heap:=g}:=I.kept (t':=s.toks) keep;have u:Jm X pins H (s.heap.objs.size+1):=I.C1 (RF _) (I.g5.fresh (RF _));refine Md (Ox (wpAny_call_entry_kw slot_list_sort ⟨_,Y,rfl⟩ entry_list_sort ?body (ksk_l1 _ _)))
 case body=>
  show wpAny (f7 X.prog X.w) X.A.in1.in1 (rn.«list.sort» ⟨[.ref (s.heap.objs.size+1)],[(Nj "key",.ref f)]⟩) _ _ _;rw[ksk_t1];unfold ksk_tree;refine Md (_B Y rfl ?_);refine Md (Rg Y rfl ?_ (by rw[Mw];exact U) (Ny _));obtain⟨r,n⟩ : ∃r,(g.update (s.heap.objs.size+1) (MZ λ_=>(#[]:Array fh))).get? (s.heap.objs.size+1)=ej (ir "list" #[] r):=⟨_,SJ Y λ_=>#[]⟩;refine Md (Te n rfl ?_);refine Md (Sd ?_ (by show vs.length<=_;exact U));refine Md (Tn ?_ (Ny _));refine Ox ?_;have y:=M.Dk (h':=g.update (s.heap.objs.size+1) (MZ λ_=>(#[]:Array fh))) (t':=s.toks) (fp:=[s.heap.objs.size+1]) (λb o O q=>(NR _ _ (λz=>O (by rw[z];exact List.mem_singleton_self _))).trans q) (λb O=>by rw[OT.mp O];exact u);have B:=y.kept (h':=((g.update (s.heap.objs.size+1) (MZ λ_=>(#[]:Array fh))).push (ir "tuple" vs.toArray 0)).push (ir "list" #[] 0)) (t':=s.toks) (λb o q=>Mh _ (Mh _ q));have x:((g.update (s.heap.objs.size+1) (MZ λ_=>(#[]:Array fh))).push (ir "tuple" vs.toArray 0)).objs.size=s.heap.objs.size+3:=by rw[Ts,OQ,j]
  have R:Jm X pins H (s.heap.objs.size+3):=I.C1 (MS _ _) (I.g5.fresh (MS _ _));refine ot (A:=X.A.in1.in1) (ps:=ps) (xs:=xs) (ds:=ds) (H0:=H0) (H:=H) (s:={s with heap:=((g.update (s.heap.objs.size+1) (MZ λ_=>(#[]:Array fh))).push (ir "tuple" vs.toArray 0)).push (ir "list" #[] 0)}) (kS:=((g.update (s.heap.objs.size+1) (MZ λ_=>(#[]:Array fh))).push (ir "tuple" vs.toArray 0)).objs.size)
   G h1 hr.in1.in1 I.Dw.in1.in1.frames O B sub S rd Z a9 hF (Mz _ rfl) (Mh _<|Mh _ n) (by rw[x];exact λz=>absurd (Nat.add_left_cancel z) ⋯) (by rw[x];exact R) u λJ H' C c L x3 T t=>⟨_,rfl,?_⟩
  refine Mq ⟨_,rfl,h J H' C _ (I.g5.fresh<|RF _) t.1 x3<|iA L t ?_⟩;have N : ∀i∈qp ps,i<xs.length:=λi W=>by have:=(qa ps).mem_iff.mp W;have:=Mg.mp this;omega
  have P:((qp ps).map λi=>xs.getD i V.gm).length=vs.length:=by rw[MF,(qa ps).length_eq,Nz,Z]
  exact⟨by rw[P];exact U,(qp ps).map λi=>vs.getD i Nd,c,YA S _ N,T⟩
end
theorem Vw : ∀{ds:List D} {ps:List (Int×Int)},Vx F ds=ej ps->ps.length=ds.length
 | [],ps,h=>by cases h;rfl
 | d::r,ps,h=>by obtain⟨p,_,a⟩:=ze h;obtain⟨l,z,I⟩:=zB a;subst I;simp[Vw z]
theorem cX(h:ue r=ej p):r = .val (.tup [.int p.1,.int p.2]):=by
 unfold ue at h;split at h
 ·split at h
  ·split at h
   ·obtain⟨i,a,b⟩:=ze h
    obtain⟨j,z,I⟩:=zB b;subst I;rw[jQ a,jQ z]
   ·cases h
  ·cases h
 ·cases h
theorem bo : ∀{ds:List D} {ps:List (Int×Int)},Vx F ds=ej ps->∀(i:Nat) d p,ds[i]? = ej d->ps[i]? = ej p->F [d]=ej (.val<|.tup [.int p.1,.int p.2])
 | [],ps,h,i,d,p,hd,hp=>by simp at hd
 | c::r,ps,h,i,d,p,hd,hp=>by
  obtain⟨q,b,e⟩:=ze h;obtain⟨l,z,I⟩:=zB e;subst I;cases i with
  | zero=>
   simp at hd hp;subst hd hp;obtain⟨U,a,O⟩:=ze b;rw[a,cX O]
  | succ i=>exact bo z i d p (by simpa using hd) (by simpa using hp)
section
variable{X:Cx}{sc:jn}{N L:List Str}{k j:Nat}{e:fA}{fq:CO (Sk×List D)}{F:List D->Option Res}{x:Str}{p p2 pos _z:h8}
theorem nz(S:hH X.prog X.w X.K X.mg X.base j x 1 F)(h:SX X sc N L k)(Z:j+1+1<=k)(c:yj sc "sorted" = eA)(z:X.mg "sorted" = eF)(J:yj sc x=eA)(hq:PQ X e fq)
 (C:g8 [e] X.env=[(eK,fy e X.env)]:=by rfl) :
 PO X (.Call (.Name "sorted" p) [e] [⟨ej "key",.Name x p2,_z⟩] pos) (fF F fq):=by
 intro b s σ H Q I m;obtain⟨H0,γ,out,rc,O,q⟩:=m;obtain⟨⟨kk,ds⟩,B,O⟩:=ze O;obtain⟨E,fd,pr,hn,G,W,hk,P⟩:=S.ex;cases kk with
 | T=>cases O
 | L=>
  have O:((Vx F ds).bind λps=>if ds.length<64 then ej ((qp ps).map λi=>ds.getD i .gm)else eF)=ej out:=O;obtain⟨ps,o,O⟩:=ze O;by_cases t:ds.length<64
  ·rw[UJ t]at O
   cases O;refine Pe (kj (u:= .builtin "sorted") I (h.gl c).1 z ⋯ (callWith_kw ?_ (by rw[C];rfl) (by rw[C];rfl)) ⋯ ⋯);refine gu ((jT hq q8 C) pos b s σ H (λvs d=>∃a xs U,vs=[.ref a]/\Ext H0 H U d/\h9 X.K d a xs/\ft X.K U ds xs) I ⟨H0,γ,.L,ds,rc,B,λa xs d U x1 g1 g2 Y=>⟨a,xs,U,rfl,x1,g1,Y⟩⟩) λus y m=>?_;obtain⟨vs,d,l,rv,a,xs,U,rfl,x1,g1,Y⟩:=m;obtain⟨u,rfl,ru⟩:=vg rv;cases ru;show wpAny _ _ (evalAll ((do let v <- fy (.Name x p2) X.env;DD pos;pure v)::[])) _ _ y;refine wpAny_evalAll_cons (Md (WJ l (h.gl J).1 W (Md (Tj (Mq ?_))) (h.gl J).2.2));refine wpAny_evalAll_nil ?_;obtain⟨as,r,pl,hz⟩:=l.list g1;have l1:=r.length;have l2:=Y.length;have l3:=Vw o;show wpAny _ _ (call (.builtin "sorted") [.ref a] [(Nj "key",.ref E)]) _ _ y;refine dD (H0:=U) (ps:=ps) (xs:=xs) (ds:=ds) (vs:=as) (F:=F) G hn (h.room.mono Z) P l x1.sub pl.isList r Y ⋯ ⋯ (bo o) λs' H' g D M n f A=>?_;refine⟨.ref D,_,A,rfl,q D _ _ g (x1.trans (f.trans (Ext.hide f.sub n _))) (yw x1.s1 M) (jH f.sub n) zQ ?_⟩;refine QC (Y.mono f.s0) _ λi R=>?_;have:=(qa ps).mem_iff.mp R;have:=Mg.mp this;omega
  ·rw[UY t]at O;cases O
end
noncomputable def cJ(j:Nat)(g C f:CO D):CO Fl:=λa=>(f a).bind λd=>(KW j g a).bind λt=>((C a).bind o4).bind λi=>(k6 t.2.2.length i).map λn=> .next (a.set j<|.nest<|t.1.set t.2.1<|t.2.2.set n d)
noncomputable def fH(j:Nat)(g:CO D)(C:CO (List D)):CO Fl:=λa=>(C a).bind λrow=>(KW j g a).map λt=> .next (a.set j<|.nest<|t.1.set t.2.1 row)
def cI(j:Nat)(g:CO D):CO (Sk×List D):=λa=>(KW j g a).map λt=>(.L,t.2.2)
section
variable{K:Mf}{H0 H:Hp}
theorem t8.set(n:t8 K H0 H R a bs)(J:H0 b'=eF)(S:H b'=ej (.lst ys))(C:ft K H0 row' ys)(U:b'∉a::bs) :
 t8 K H0 (upd H a<|.lst<|(bs.set t b').map V.ref) (R.set t row') a (bs.set t b'):=by
 have Y:b'≠a:=λq=>U (by rw[q];exact Mx);obtain⟨i,r⟩:=Nq.mp n.nd;refine⟨n.a0,zQ,?_,by simp[n.len],λk b row I O=>?_⟩
 ·refine Nq.mpr ⟨λd=>?_,?_⟩
  ·rcases Pp d with z | z
   ·exact i z
   ·exact Y z.symm
  ·have e : ∀(l:List fe) (t:Nat),l.Nodup->b'∉l->(l.set t b').Nodup:=by
    intro l
    induction l with
    | nil=>intro t _ _;simp
    | cons x l o=>
     intro t m d;obtain⟨p,h⟩:=Nq.mp m;cases t with
     | zero=>exact Nq.mpr ⟨λz=>d<|Ms _ z,h⟩
     | succ t=>
      refine Nq.mpr ⟨λz=>?_,o t h λz=>d<|Ms _ z⟩;rcases Pp z with z | z
      ·exact p z
      ·exact d (by rw[z];exact Mx)
   exact e bs t r λz=>U<|Ms _ z
 ·by_cases f:k=t
  ·subst f
   have g:k<bs.length:=by have:=(Mv.mp I).1;simpa using this
   rw[ME g]at I;rw[ME (by rw[<- n.len];exact g)]at O;cases I;cases O;exact⟨J,ys,by rw[zL Y];exact S,C⟩
  ·rw[Mo (MV f)]at I O
   obtain⟨g1,s,g2,g3⟩:=n.row k b row I O;have j:b≠a:=λq=>i (by rw[<- q];exact Nh I);exact⟨g1,s,by rw[zL j];exact g2,g3⟩
end
section
variable{X:Cx}{sc:jn}{N L:List Str}{k:Nat}{a b c e:fA}{pos p p2:h8}{f g gi:CO D}
theorem BH(j:Nat)(h:SX X sc N L k)(Y:JS sc N j x=eA)(J:PV X b g)(hx:ZY b:=by intro _ _;rfl):PQ X (.Subscript (.Name x np) b p2) (cI j g):=
 qE (nF Um (h.var Y) J hx) λW H Q F=>by obtain⟨m,K,T,S,rc,E,q⟩:=F;obtain⟨t,u,w⟩:=zB E;cases w;obtain⟨I,d,i,y,A,B,C⟩:=ZC u;obtain⟨a,bs,O,_,_⟩:=rc.n0.1 j _ I;refine⟨_,O,m,K,d,rc,y,λv l e x r=>?_⟩;obtain⟨M,P,U,f,_⟩:=(rc.ext x).n0.1 j _ I;rw[O]at U;cases U;rw[jQ A]at r;obtain⟨s,G,R,n,o,p⟩:=fN f B C;exact⟨a,_,i,_,rfl,jx r,h9.of f.ha,n,q s G l e x (h9.of o) (λz=>nomatch z) p⟩
theorem ng(j:Nat)(h:SX X sc N L k)(cv:JS sc N j x=eA)(hb:PV X b g)(hi:PV X c gi)(he:PV X e f)(hx:ZY b:=by intro _ _;rfl)
 (ha : ∀v,u4 (.Subscript (.Subscript (.Name x np) b p2) c p) X.env v=(do
   let U <- tf [v] (fy (.Subscript (.Name x np) b p2) X.env);let iv <- tf [v,U] (fy c X.env)
   DD p
   tf [v,U,iv] (N4 U iv v)
   R4 [v,U,iv] []):=by intro _;rfl)
 (I:H8 [.Subscript (.Subscript (.Name x np) b p2) c p] e pos.line X.env=pure eK:=by rfl) (hw:N6 [.Subscript (.Subscript (.Name x np) b p2) c p] e X.env=pure eF:=by rfl)
 (h1:(B6 [.Subscript (.Subscript (.Name x np) b p2) c p] X.env).map (·.2)=[u4 (.Subscript (.Subscript (.Name x np) b p2) c p) X.env]:=by rfl) :
 n7 X (.Assign [.Subscript (.Subscript (.Name x np) b p2) c p] e pos) (cJ j g gi f):=
 kQ (Kh he (aS (nF Um (h.var cv) hb hx) hi Jz ha) I hw h1) λD σ H hZ=>by
  obtain⟨E0,E,S,w,fl,M,z,W⟩:=hZ;obtain⟨d,e1,z⟩:=ze z;obtain⟨t,e2,z⟩:=ze z;obtain⟨ii,o,z⟩:=ze z;obtain⟨di,e4,o⟩:=ze o;obtain⟨n,e5,z⟩:=zB z;subst z;obtain⟨Y,d3,i3,y3,y4,Q,R⟩:=ZC e2;refine⟨S,w,d,M.rc,e1,λv H1 Z x r=>?_⟩;have i:=M.step x;obtain⟨a,bs,I,_,_⟩:=i.rc.n0.1 j _ Y;refine⟨_,I,Z,w,d3,i.rc,y3,λv2 H2 c0 P J=>?_⟩;have l:=i.step P;obtain⟨a',cb,y,s,_⟩:=l.rc.n0.1 j _ Y;rw[I]at y;cases y;rw[jQ y4]at J;obtain⟨T,xs,cd,A,ce,ch⟩:=fN s Q R;refine⟨a,_,i3,_,rfl,jx J,h9.of s.ha,A,c0,w,di,l.rc,e4,λv4 H4 c2 u K=>?_⟩;rw[jQ o]at K;have B:=l.step u;obtain⟨a2,cm,as,m,c3⟩:=B.rc.n0.1 j _ Y;rw[I]at as;cases as;obtain⟨C,c4,c5,F,c6,G⟩:=fN m Q R;have eb:C=T:=by have O:=m.ha;rw[u.s1 _ _ s.ha]at O;injection O with O;injection O with O;rw[<- O,A]at F;cases F;rfl
  subst eb;refine⟨C,c4,ii,n,rfl,jx K,c6,by rw[G.length];exact QW e5,?_⟩;exact W _ _ c2<|B.x_ Y I m c3 c5<|G.set n<|(r.mono P.s0).mono u.s0
theorem nj(j:Nat)(h:SX X sc N L k)(cv:JS sc N j x=eA)(C:PV X b g)(he:PO X e fo)(hx:ZY b:=by intro _ _;rfl)
 (ha : ∀v,u4 (.Subscript (.Name x np) b p) X.env v=(do
   let ov <- tf [v] (fy (.Name x np) X.env);let iv <- tf [v,ov] (fy b X.env)
   DD p
   tf [v,ov,iv] (N4 ov iv v)
   R4 [v,ov,iv] []):=by intro _;rfl)
 (hs:H8 [.Subscript (.Name x np) b p] e pos.line X.env=pure eK:=by rfl) (hw:N6 [.Subscript (.Name x np) b p] e X.env=pure eF:=by rfl)
 (h1:(B6 [.Subscript (.Name x np) b p] X.env).map (·.2)=[u4 (.Subscript (.Name x np) b p) X.env]:=by rfl) :
 n7 X (.Assign [.Subscript (.Name x np) b p] e pos) (fH j g fo):=
 kQ (Kh he (aS (h.var cv) C Jz ha) hs hw h1) λD σ H hZ=>by
  obtain⟨E0,E,S,R,fl,I,Y,T⟩:=hZ;obtain⟨row,e1,Y⟩:=ze Y;obtain⟨t,e2,Y⟩:=zB Y;subst Y;obtain⟨i,d3,i3,y3,y4,y5,y6⟩:=ZC e2;obtain⟨n,W,f,s,c7⟩:=I.rc.n0.1 j _ i;refine⟨S,R,row,I.rc,e1,λO ys H1 Z x g1 g2 g3 r=>?_⟩;have B:=I.step x;refine⟨_,f,Z,R,d3,B.rc,y3,λv2 H2 as d Q=>?_⟩;rw[jQ y4]at Q;have F:=B.step d;obtain⟨a2,G,J,a,K⟩:=F.rc.n0.1 j _ i;rw[f]at J;cases J;have c0:G=W:=by have U:=a.ha;rw[d.s1 _ _ (x.s1 _ _ s.ha)]at U;injection U with U;injection U with U;have inj : ∀{l m:List fe},l.map V.ref=m.map V.ref->l=m:=λ{l m} q=>List.map_inj_right (λ_ _ z=>by cases z;rfl) |>.mp q;exact(inj U).symm
  subst c0;have c1:O∉n::G:=λw=>by obtain⟨_,xs,q⟩:=s.at w;rw[g1]at q;cases q
  obtain⟨ea,er⟩:=I.A7 j _ n _ i f s.ha;have c3:E O=eF:=by
   cases q:E O with
   | none=>rfl
   | some o=>rw[I.ext.s1 O o q]at g1;cases g1
  have c4:as O=eF:=d.new O g2 (by rw[g3];simp);refine⟨n,_,i3,t.2.1,rfl,jx Q,a.ha,by rw[MF,a.len];exact QW y5,?_⟩;rw[<- List.map_set];refine T _ _ as<|F._J i f a (λk u c y A w=>?_) (a.set c4 (d.s1 _ _ g3) (r.mono d.s0) c1) λb C=>?_
  ·rcases Mu.mp w with z | z
   ·exact K k u c y A (by rw[z];exact Mx)
   ·rcases Pp z with z | z
    ·exact K k u c y A<|Ms _ z
    ·subst z
     obtain⟨c',ws,M,q2,P,_⟩:=I.rc.own k u y;rw[A]at M;cases M;rw[g1]at P;cases P
  ·rcases Pp C with z | z
   ·exact er b<|MD.mpr ⟨b,z,rfl⟩
   ·rw[z];exact c3
end
section
variable{X:Cx}{sc:jn}{N L:List Str}{k j n i:Nat}{a b c e:fA}{es:List fA}{f:CO D}{g:CO (List D)}{p pos:h8}{x:Str}{st o? p?:m7}{yp:List m7}{F:List D->Option Res}
open Classical in
end
def DA(e:fA):Str:=match e with | .Name x _=>x | _=>""
def Dj(e:fA):List Str:=match e with | .Tuple a _ _=>a.map DA | e=>[DA e]
def DP(N:List Str)(fs:List Nat):List (Str×Nat):=fs.map λi=>(N.getD i "",i)
theorem Xf(N:List Str)(fs:List Nat):(DP N fs).map (·.2)=fs:=by unfold DP;rw[Nb];exact List.map_id fs
def rB(e:fA):Bool:=match e with | .Name _ _=>eA | _=>eK
theorem dm{e:fA}(h:rB e=eA) : ∃p,e = .Name (DA e) p:=by
 unfold rB at h;split at h
 ·exact⟨_,rfl⟩
 ·cases h
noncomputable def HW(C:jn)(N L:List Str)(is:List Nat)(I:List fA):Bool:=match is with
 | [i,j]=>(match I with | [a,b]=>rB a && (vh C N L i (DA a) && (rB b && vh C N L j (DA b))) | _=>eK)
 | [i,j,l]=>(match I with | [a,b,c]=>rB a && (vh C N L i (DA a) && (rB b && (vh C N L j (DA b) && (rB c && vh C N L l (DA c))))) | _=>eK)
 | _=>eK
noncomputable def N8(C:jn)(N L:List Str)(e:fA)(T:Tg):Bool:=match T with
 | .nm i=>rB e && vh C N L i (DA e)
 | .tp is=>(match e with | .Tuple a _ _=>HW C N L is a | _=>eK)
theorem sr{X:Cx}{C:jn}{N L:List Str}{k:Nat}(h:SX X C N L k){e:fA}{T:Tg}(c:N8 C N L e T=eA):PG X e (u5 X.K T):=by
 cases T with
 | nm i=>
  have c:=Bool.and_eq_true_iff.mp c;obtain⟨p,q⟩:=dm c.1;rw[q];exact h.DY _ c.2
 | tp is=>
  unfold N8 at c;dsimp only at c;split at c
  ·next d j pos=>
   unfold HW at c;split at c
   ·split at c
    ·simp only[My]at c
     obtain⟨z,I,b1,b2⟩:=c;obtain⟨p,q⟩:=dm z;obtain⟨a,O⟩:=dm b1;rw[q,O];exact h.H_<|wZ (h.DY _ I)<|wZ (h.DY _ b2) gA
    ·cases c
   ·split at c
    ·simp only[My]at c
     obtain⟨z,I,b1,b2,U,Y⟩:=c;obtain⟨p,q⟩:=dm z;obtain⟨a,O⟩:=dm b1;obtain⟨f,b⟩:=dm U;rw[q,O,b];exact h.H_<|wZ (h.DY _ I)<|wZ (h.DY _ b2)<|wZ (h.DY _ Y) gA
    ·cases c
   ·cases c
  ·cases c
noncomputable def cB(I scope:jn)(N:List Str)(C:fA)(T:Tg)(n:Nat)(fs:List Nat):Bool:=
 WX I scope N (DP N fs) && (FX (Dj C) scope (DP N fs) && (decide (∀i∈T.idx,i<(Dj C).length) && (decide ((Dj C).length=n) && N8 (yK scope I) (Dj C++(DP N fs).map (·.1)) (Dj C) C T)))
abbrev Dv(X:Cx)(scope:jn)(N:List Str)(tg:fA)(fs:List Nat):=jL X scope (Dj tg++(DP N fs).map (·.1))
abbrev SA(X:Cx)(sc scope:jn)(N:List Str)(tg:fA)(fs:List Nat)(k:Nat)(fp:List fe)(s2:f6)(H2:Hp):Prop:=SX (Dv X scope N tg fs fp s2 H2) (yK scope sc) (Dj tg++(DP N fs).map (·.1)) (Dj tg) k
section
variable{X:Cx}{sc scope:jn}{N L:List Str}{k n i:Nat}{fs:List Nat}{T:Tg}{e elt tg iter F5:fA}{es:List fA}{pos p py spos cpos:h8}{x y:Str}{f g:CO D}{fo:CO (List D)}{src gl:CO (List D)}{kk:CO Bool}
theorem cA(h:SX X sc N L k)(c:cB sc scope N tg T n fs=eA):zl X scope (DP N fs)/\(∀i∈T.idx,i<(Dj tg).length)/\(Dj tg).length=n/\(∀fp J C,SA X sc scope N tg fs k fp J C)/\∀fp J C,PG (Dv X scope N tg fs fp J C) tg (u5 X.K T):=by unfold cB at c;simp only[My,decide_eq_true_eq]at c;obtain⟨z,I,O,U,a⟩:=c;have s : ∀fp J C,SA X sc scope N tg fs k fp J C:=λfp J C=>h.comp I;exact⟨h._n z,O,U,s,λfp J C=>sr (s fp J C) a⟩
theorem ql(h:SX X sc N L k)(O:A4 X tg iter src)(z : ∀fp J C,SA X sc scope N tg fs k fp J C->PV (Dv X scope N tg fs fp J C) elt f)(c:cB sc scope N tg T n fs=eA:=by decide +kernel)(I : ∀x,t4 iter X.env x=pure x:=by intro _;rfl) :
 PO X (.ListComp elt [⟨tg,iter,[],0⟩] scope pos) (zK src T n fs jb f):=by
 obtain⟨a,b,d,s,q⟩:=cA h c;have r:=tW (pos:=pos) h.calm a b O q (λfp J C=>z fp J C<|s fp J C) I;rw[d,Xf]at r;exact r
theorem Y7(h:SX X sc N L k)(S:A4 X tg iter src)(z : ∀fp J C,SA X sc scope N tg fs k fp J C->o7 (Dv X scope N tg fs fp J C) F5 kk)(I : ∀fp J C,SA X sc scope N tg fs k fp J C->PV (Dv X scope N tg fs fp J C) elt f)(c:cB sc scope N tg T n fs=eA:=by decide +kernel)(O : ∀x,t4 iter X.env x=pure x:=by intro _;rfl) :
 PO X (.ListComp elt [⟨tg,iter,[F5],0⟩] scope pos) (zK src T n fs kk f):=by
 obtain⟨a,b,d,s,q⟩:=cA h c;have r:=gk (pos:=pos) h.calm a b S q (λfp J C=>z fp J C<|s fp J C) (λfp J C=>I fp J C<|s fp J C) O;rw[d,Xf]at r;exact r
theorem kH(h:SX X sc N L k)(O:A4 X tg iter src)(z : ∀fp J C,SA X sc scope N tg fs k fp J C->PV (Dv X scope N tg fs fp J C) elt f)(ct:vh sc N L i y=eA:=by decide +kernel)(c:cB sc scope N tg T n fs=eA:=by decide +kernel)(I : ∀x,t4 iter X.env x=pure x:=by intro _;rfl) :
 PS X (.Assign [.Name y py] (.ListComp elt [⟨tg,iter,[],0⟩] scope cpos) spos) (cD (tO X.K<|zK src T n fs jb f)<|vx i):=by
 obtain⟨a,b,d,s,q⟩:=cA h c;have r:=_I (cpos:=cpos) (spos:=spos) (py:=py) i h ct h.calm a b O q (λfp J C=>z fp J C<|s fp J C) I;rw[d,Xf]at r;exact r
theorem tM(h:SX X sc N L k)(S:A4 X tg iter src)(z : ∀fp J C,SA X sc scope N tg fs k fp J C->o7 (Dv X scope N tg fs fp J C) F5 kk)(I : ∀fp J C,SA X sc scope N tg fs k fp J C->PV (Dv X scope N tg fs fp J C) elt f)(ct:vh sc N L i y=eA:=by decide +kernel)(c:cB sc scope N tg T n fs=eA:=by decide +kernel)(O : ∀x,t4 iter X.env x=pure x:=by intro _;rfl) :
 PS X (.Assign [.Name y py] (.ListComp elt [⟨tg,iter,[F5],0⟩] scope cpos) spos) (cD (tO X.K<|zK src T n fs kk f)<|vx i):=by
 obtain⟨a,b,d,s,q⟩:=cA h c;have r:=Gm (cpos:=cpos) (spos:=spos) (py:=py) i h ct h.calm a b S q (λfp J C=>z fp J C<|s fp J C) (λfp J C=>I fp J C<|s fp J C) O;rw[d,Xf]at r;exact r
theorem pZ(h:SX X sc N L k)(O:A4 X tg iter src)(z : ∀fp J C,SA X sc scope N tg fs k fp J C->PO (Dv X scope N tg fs fp J C) elt fo)(ct:vh sc N L i y=eA:=by decide +kernel)(c:cB sc scope N tg T n fs=eA:=by decide +kernel)(I : ∀x,t4 iter X.env x=pure x:=by intro _;rfl) :
 n7 X (.Assign [.Name y py] (.ListComp elt [⟨tg,iter,[],0⟩] scope cpos) spos) (Wb i<|Jc src T n fs fo):=by
 obtain⟨a,b,d,s,q⟩:=cA h c;have r:=nc (cpos:=cpos) (spos:=spos) (py:=py) i h ct h.calm a b O q (λfp J C=>z fp J C<|s fp J C) I;rw[d,Xf]at r;exact r
theorem zv(h:SX X sc N L k)(c:JS sc N i x=eA:=by decide +kernel):PV X (.Name x pos) (zc i):=Bu i<|h.var c
theorem zR(h:SX X sc N L k)(c:JS sc N i x=eA:=by decide +kernel):PQ X (.Name x pos) (zh i):=BG i<|h.var c
theorem FO(h:SX X sc N L k)(c:N8 sc N L e T=eA:=by decide +kernel):PG X e (u5 X.K T):=sr h c
theorem jK(h:SX X sc N L k)(z:PV X e f)(c:vh sc N L i x=eA:=by decide +kernel)(I:DE e (ej (.Name x py)) pos.line X.env=pure eK:=by rfl):n7 X (.Assign [.Name x py] e pos) (jy i f):=tJ i<|h.set i c z I
theorem Je(h:SX X sc N L k)(z:PO X e fo)(c:vh sc N L i x=eA:=by decide +kernel)(I:DE e (ej (.Name x py)) pos.line X.env=pure eK:=by rfl):n7 X (.Assign [.Name x py] e pos) (wz i fo):=aO i<|h.set i c z I
theorem kh{C:List m7}{F:CO Fl}(hx:X.xe=λ_ _=>False)(h:SX X sc N L k)(J:ji X tg iter src)(z:lU X C F)(c:N8 sc N L tg T=eA:=by decide +kernel)(I : ∀x,t4 iter X.env x=pure x:=by intro _;rfl):n7 X (.For tg iter C [] pos) (ZA src T F):=tL (gG hx) h.calm J (sr h c) z I
variable{j:Nat}{F:List D->Option Res}
theorem zX(z:hH X.prog X.w X.K X.mg X.base j x n F)(h:SX X sc N L k)(C:DO X (e::es) n gl)(I:j<=k:=by decide)(c:yj sc x=eA:=by decide +kernel)
 (O:g8 (e::es) X.env=(eK,fy e X.env)::g8 es X.env:=by rfl) (U:(vr pos<|starEach es X.env).any (·.1)=eK:=by rfl):PV X (.Call (.Name x p) (e::es) [] pos) (zD F gl):=Gk z I h c C O U
theorem kR(z:hH X.prog X.w X.K X.mg X.base j x n F)(h:SX X sc N L k)(C:DO X (e::es) n gl)(I:j<=k:=by decide)(c:yj sc x=eA:=by decide +kernel)
 (O:g8 (e::es) X.env=(eK,fy e X.env)::g8 es X.env:=by rfl) (U:(vr pos<|starEach es X.env).any (·.1)=eK:=by rfl):PO X (.Call (.Name x p) (e::es) [] pos) (jV F gl):=Gp z I h c C O U
end
noncomputable def qK:=jr 1 (zJ (kr (vi (jU (sB (p6 .str (zc 0)))) (sB (zy Pz (YU (zc 0)) (zu (.int 6))))) (qv (zu (.bl eK))) j9) (qv (fK (jm (zK (pQ (zc 0)) (.nm 0) 1 [] jb (EJ (zc 0) (zW (zu (.tup [.str "r",.str "l"])))))))))
noncomputable def j8:=jr 2<|zJ (kr (vi (jU<|sB<|zD y8<|zb (zc 1)<|zb (zu<|.int 2) zI)<|vi (jU<|sB<|zD vM<|zb (zc 0)<|zb (eL (zh 1)<|zu<|.int 0) zI)<|jU<|sB<|zD vM<|zb (zc 0)<|zb (eL (zh 1)<|zu<|.int 1) zI) (qv<|zu<|.bl eK) j9)<|qv<|zy p5 (eL (zh 1)<|zu<|.int 0)<|eL (zh 1)<|zu<|.int 1
noncomputable def yH:=jr 2<|Jp<|zK (aI<|zc 0) (.tp [0,1]) 2 [1] (sB<|kX p5 p5 (eL (zh 1)<|zu<|.int 0) (zc 2)<|eL (zh 1)<|zu<|.int 1) (zc 0)
noncomputable def kN:=jr 3<|zJ (jy 2<|qh<|zK (zN<|zh 0) (.nm 0) 1 [1] jb (zM<|jm<|zK (zN<|zh 1) (.nm 0) 1 [0] jb (cL (sB<|zy hG (zc 1)<|zc 0) (zu<|.int 1)<|zu<|.int 0)))<|qv<|qW<|zb (kD<|zh 0)<|zb (kD<|zh 1)<|zb (zM<|zh 2) zI
noncomputable def z9:=jr 5<|zJ (kr (Wf (sB<|zy vu (kD<|zh 0)<|zu<|.int 1)<|sB<|zy hG (zy qw (eL (zh 0)<|zu<|.int 0)<|zu<|.int 2)<|zu<|.int 1) (zJ (jy 2<|eL (zh 0)<|zy j3 (zu<|.int 1)<|zy qw (zc 1)<|zy JI (kD<|zh 0)<|zu<|.int 1)<|zJ (ZA (z7<|Bf (zu<|.int 60)<|zy vz (zc 1)<|zy JI (kD<|zh 0)<|zu<|.int 1) (.nm 3)<|jy 2<|zy vz (zc 2)<|zy uT (zu<|.int 10)<|zu<|.int 9)<|qv<|zy qw (zc 2)<|zy uT (zu<|.int 10)<|zu<|.int 9) j9)<|zJ (jy 4<|zc 1)<|zJ (kr (sB<|zy vu (kD<|zh 0)<|zu<|.int 0) (jy 4<|eL (zh 0)<|zy qw (zc 1)<|kD<|zh 0) j9)<|qv<|zy qw (zy xJ (zy qw (zy j3 (zy j3 (zy j3 (zy xJ (zy qw (zc 4)<|zy uT (zu<|.int 10)<|zu<|.int 30)<|zu<|.int 48271)<|zy xJ (zy xJ (zu<|.int 7)<|zc 1)<|zc 1)<|zy xJ (zu<|.int 13)<|zc 1)<|zu<|.int 5)<|zu<|.int 2147483647)<|zu<|.int 69621)<|zu<|.int 1000000007
noncomputable def jq:=jr 2<|Jp<|zK (aI<|zc 0) (.tp [0,1]) 2 [1] (sB<|kX p5 p5 (eL (zh 1)<|zu<|.int 0) (zc 2)<|eL (zh 1)<|zu<|.int 1) (zc 0)
noncomputable def dw:=(zJ (jy 7 (zy j3 (zc 5) (km (zy hG (zc 6) (zu (.str "l")))))) (zJ (jy 8 (zy j3 (zc 5) (km (zy hG (zc 6) (zu (.str "r")))))) (zJ (jy 9 (qh (zK (zN (jm (jV jq (zb (zc 2) (zb (zc 8) zI))))) (.nm 0) 1 [2,7] jb (zM (jm (zK (zN (jm (jV jq (zb (zc 1) (zb (zc 2) zI))))) (.nm 0) 1 [0] jb (km (zy hG (zc 1) (zc 0))))))))) (xu 4 (qW (zb (zc 6) (zb (qW (zb (eL (zh 3) (zc 8)) (zb (eL (zh 3) (zc 7)) (zb (zM (zh 9)) zI)))) zI)))))))
noncomputable def kB:=jr 10<|zJ (jy 3<|qh<|zK (z7<|zy j3 (YU<|zc 1)<|zu<|.int 1) (.nm 0) 1 [2] jb (kD<|jm<|jV jq<|zb (zc 1)<|zb (zc 0) zI))<|zJ (wz 4<|kG zI)<|zJ (ZA (X7<|zc 1) (.tp [5,6]) dw)<|qv<|qW<|zb (zc 0)<|zb (zM<|zh 3)<|zb (zM<|zh 4) zI
abbrev wh(k:Sk)(xs:List D):D:=match k with | .T=>D.tup xs | .L=>D.lst xs
@[simp] theorem IA(k xs):j5 (wh k xs)=ej (k,xs):=by cases k<;>rfl
theorem KB(k:Sk)(f:Nat->Int)(z:0<p)(C:n<=lim) :
 kf [.int p,wh k (zH n f)]=ej (.val<|.tup<|zH n λi=>f i%p):=by
 simp[kf,jr,jc,zZ,C,xA];unfold zH;rw[zw (r:=λi=>D.int<|f i%p)]
 ·simp
 ·intro i a
  refine zx rfl rfl ?_;simp[z]
theorem lX(f:Nat->Int)(z:0<p)(C:n<=lim) :
 kf [.int p,.tup (zH n f)]=ej (.val<|.tup<|zH n λi=>f i%p):=KB .T f z C
theorem Xy(f:Nat->Int)(z:0<p)(C:n<=lim) :
 kf [.int p,.lst (zH n f)]=ej (.val<|.tup<|zH n λi=>f i%p):=KB .L f z C
theorem Yr(k:Sk)(f:UV)(g:Nat->Int)(I:0<p)(z:h<=lim)(C:w<=lim)(O : ∀i j,i<h->j<w->0<=f i j/\f i j<100) :
 dW [.int p,z6 h w f,wh k (zH w g)]=ej (.val<|.tup<|zH h λi=>zm (λj=>f i j*g j) w%p):=by
 simp[dW,jr,jc,zZ,z,xA,z6,Ml];unfold jd;rw[zw (r:=λi=>D.int<|zm (λj=>f i j*g j) w)]
 ·simp
  rw[show(List.map (λi=>D.int<|zm (λj=>f i j*g j) w)<|Me h)=zH h λi=>zm (λj=>f i j*g j) w from rfl,Xy _ I z];rfl
 ·intro i a
  refine zx rfl rfl ?_;simp[zZ,Jw,C];rw[zw (r:=λj=>D.int<|f i j*g j)]
  ·simp
   rw[show(List.map (λj=>D.int<|f i j*g j)<|Me w)=zH w λj=>f i j*g j from rfl,JW]
  ·intro j U
   refine zx rfl rfl ?_;have:=O i j (Mg.mp a)<|Mg.mp U;simp[vE (f i j) (g j) ⋯ ⋯]
theorem vJ(f:UV)(z:h<=lim)(C:w<=lim):qB [z6 h w f]=ej (.val<|z6 w h λi j=>f j i):=by
 simp[qB,jr,jc,zZ,z,C,xA,z6,Ml,jj,jW];rw[jf w λi=>(i:Int)];rw[zw (r:=λj=>D.tup<|zH h λi=>f i j)]
 ·simp
  rfl
 ·intro j I
  refine zx rfl rfl ?_;simp[zZ,z,xA];unfold jd;rw[zw (r:=λi=>D.int<|f i j)]
  ·simp
   rfl
  ·intro i b
   refine zx rfl rfl ?_;have a:=Mg.mp I;simp[a,Yg _ a]
theorem vI{p:Int}{h m w:Nat}(f g:UV)(z:0<p)(I:h<=lim)(C:m<=lim)(J:w<=lim)(O : ∀i j,i<m->j<w->0<=g i j/\g i j<100) :
 yF [.int p,z6 h m f,z6 m w g]=ej (.val<|z6 h w λi j=>zm (λk=>g k j*f i k) m%p):=by
 simp[yF,jr,jc,jj,vJ g C J];simp[zZ,I,C,J,xA,z6];rw[show jd h m f=(Me h).map λi=>D.tup (zH m<|f i)from rfl];rw[zw (r:=λi=>D.tup<|zH w λj=>zm (λk=>g k j*f i k) m%p)]
 ·simp
  rfl
 ·intro i l
  refine zx rfl rfl ?_;have e:=Yr .T (λi j=>g j i) (f i) z J C<|λa b d U=>O b a U d;simp[z6]at e ⊢;rw[e];simp
theorem yE(C:n<=lim):qy [.int n]=ej (.val<|z6 n n λi j=>if i=j then 1 else 0):=by
 simp[qy,jr,jc,jj,C,zZ,xA,Ml,jW];rw[jf n λi=>(i:Int)];rw[zw (r:=λi=>D.tup<|zH n λj=>if i=j then 1 else 0)]
 ·simp
  rfl
 ·intro i a
  refine zx rfl rfl ?_;simp[C,zZ,Ml,jW,xA];rw[jf n λi=>(i:Int)];rw[zw (r:=λj=>D.int<|if i=j then 1 else 0)]
  ·simp
   rfl
  ·intro j z
   refine zx rfl rfl ?_;simp;by_cases e:i=j
   ·simp[e]
   ·rw[UY ⋯,UY e]
theorem fR(d:D)(w:Nat):Ml w d=(Me w).map λ_=>d:=by
 induction w with
 | zero=>rfl
 | succ n z=>rw[List.replicate_succ',z,Oc,NA];simp
def kc(C:List Int):D:= .lst (C.map D.int)
mutual
theorem F7 : ∀d:D,ml d d=eA
 | .gm=>rfl
 | .bl b=>by simp[ml]
 | .int i=>by simp[ml]
 | .str x=>by simp[ml]
 | .tup e=>by simp only[ml];exact F8 e
 | .lst e=>by simp only[ml];exact F8 e
 | .ow a b=>by simp only[ml];rw[F8 a,F8 b];rfl
 | .ni a b=>by simp only[ml];rw[F8 b];simp
theorem F8 : ∀ds:List D,uf ds ds=eA
 | []=>rfl
 | d::ds=>by simp only[uf,F7 d,F8 ds,Bool.and_self]
end
theorem xX : ∀{l:List D} {n:Nat},(∀d∈l,deep d<=n)->ra l<=n
 | [],n,_=>Ny n
 | d::ds,n,h=>by simp only[ra];exact Nat.max_le.mpr ⟨h d Mx,xX λe z=>h e<|Ms _ z⟩
theorem bD(n f):deep (.tup<|zH n f)<=1:=by
 simp only[deep];have:ra (zH n f)<=0:=xX λd a=>by simp[zH]at a;obtain⟨i,_,rfl⟩:=a;exact Mp _
 omega
theorem bG(h w f):deep (.tup<|jd h w f)<=2:=by
 simp only[deep];have:ra (jd h w f)<=1:=xX λd a=>by simp[jd]at a;obtain⟨i,_,rfl⟩:=a;exact bD _ _
 omega
theorem bF(h w f):deep (z6 h w f)<=3:=by
 unfold z6;simp only[deep];have:ra [D.int h,D.int w,D.tup (jd h w f)]<=2:=xX λd a=>by
  simp at a;rcases a with rfl | rfl | rfl
  ·exact Ny _
  ·exact Ny _
  ·exact bG _ _ _
 omega
theorem yO : ∀{l:List D},(∀d∈l,kA d=eA)->s9 l=eA
 | [],_=>rfl
 | d::ds,h=>by simp only[s9,h d Mx,yO λe z=>h e<|Ms _ z,Bool.and_self]
theorem Vm(h:deep d<=n)(I:n<=20)(C:kA d=eA):nf d=eA:=by unfold nf;rw[C,Rt];exact decide_eq_true<|NQ h I
theorem gO(n f):kA (.tup<|zH n f)=eA:=by
 simp only[kA];exact yO λd a=>by simp[zH]at a;obtain⟨i,_,rfl⟩:=a;rfl
theorem gP(h w f):kA (.tup<|jd h w f)=eA:=by
 simp only[kA];exact yO λd a=>by simp[jd]at a;obtain⟨i,_,rfl⟩:=a;exact gO _ _
theorem uo(h w f):kA (z6 h w f)=eA:=by unfold z6;simp only[kA,s9];have:=gP h w f;simp only[kA]at this;rw[this];rfl
theorem QO(h w f):nf (z6 h w f)=eA:=Vm (bF h w f) ⋯<|uo h w f
theorem oU(h:nf d=eA):hG d d=ej (.bl eA):=by unfold hG;rw[UJ ⟨h,h⟩,F7]
theorem Yj{d:D}(h:nf d=eA):i7 d d=ej (.bl eK):=by unfold i7;rw[UJ ⟨h,h⟩,F7];rfl
theorem ae(i:Int):jE [.int i]=ej (.val<|.bl eA):=by simp[jE,jr,jc,WM]
theorem eT{C:Type}(l:List C):wy (l.map λ_=>D.bl eA)=ej (l.map λ_=>eA):=by
 induction l with
 | nil=>rfl
 | cons a l z=>simp[wy,As,z]
theorem Km(k:Int)(z:0<k) : ∃n:Nat,m%k=n/\(n:Int)<k:=by have a:=Na m (show k≠0 by omega);have d:=MN m z;obtain⟨n,b⟩:=Of a;exact⟨n,b,by omega⟩
def il(b:Bool):Nat:=if b then 108 else 114
def qT(c:Nat):Str:=⟨#[c]⟩
theorem Kp : ∀(l:List Nat),(Tp "" (l.map qT)).cps.toList=l
 | []=>rfl
 | [c]=>rfl
 | c::d::l=>by
  have z:=Kp (d::l);show((qT c++("" : Str))++Tp "" ((d::l).map qT)).cps.toList=_;have e : ∀a b:Str,(a++b).cps.toList=a.cps.toList++b.cps.toList:=λa b=>by show(a.cps++b.cps).toList=_;simp
  rw[e,e,z];rfl
def kU(m:Nat)(w:UK):Str:=Tp "" ((Me m).map λk=>qT (il (w k)))
theorem Zx(m w):(kU m w).cps.toList=(Me m).map λk=>il (w k):=by have:=Kp<|(Me m).map λk=>il<|w k;rw[Nb]at this;exact this
theorem wO(m w):(kU m w).length=m:=by show(kU m w).cps.size=m;rw[<- NV,Zx];simp
theorem vO{m:Nat}(w)(C:m<=1000):j1 (kU m w)=eA:=decide_eq_true (by rw[wO];exact C)
theorem Jx{C:Type}(g:C->Str) : ∀l:List C,JZ (l.map λx=>D.str<|g x)=ej (l.map g)
 | []=>rfl
 | a::l=>by simp[JZ,Jx g l]
def l4(w:UK)(wd:UX)(k:Nat):Nat:=if w k then wd k else wd (k+1)
def l5(w:UK)(wd:UX)(k:Nat):Nat:=if w k then wd (k+1)else wd k
noncomputable def qX(w:UK)(wd:UX)(T:UW)(k:Nat):D:= .tup [.str (qT<|il<|w k),z6 (l4 w wd k) (l5 w wd k) (T k)]
def jN(m:Nat)(w:UK)(wd:UX)(T:UW):List D:=(Me m).map (qX w wd T)
noncomputable def jA(p:Int)(m:Nat)(w:UK)(wd:UX)(T:UW):D:= .tup [.int p,.tup<|zH (m+1) λk=>(wd k:Int),.tup (jN m w wd T)]
@[simp] theorem Zr(m w wd T):(jN m w wd T).length=m:=by simp[jN]
theorem rH(b:Bool):hG (.str (qT (il b))) (.str "l")=ej (.bl b):=by
 have e : ∀b:Bool,(qT (il b)==(Nj "l"))=b:=by decide +kernel
 have z : ∀b:Bool,nf (.str<|qT<|il b)=eA:=by decide +kernel
 have I:nf (.str (Nj "l"))=eA:=by decide +kernel
 unfold hG;rw[UJ ⟨z b,I⟩];show ej (D.bl (qT (il b)==Nj "l"))=_;rw[e]
theorem gL(b:Bool):nf (.str<|qT<|il b)=eA:=by cases b<;>decide +kernel
theorem WS(b:Bool):hG (.str (qT (il b))) (.str "r")=ej (.bl (!b)):=by
 have e : ∀b:Bool,(qT (il b)==(Nj "r")) = !b:=by decide +kernel
 have z:nf (.str (Nj "r"))=eA:=by decide +kernel
 unfold hG;rw[UJ ⟨gL b,z⟩];show ej (D.bl (qT (il b)==Nj "r"))=_;rw[e]
theorem px{w J:UK}{wd C:UX}{T Y:UW}{k:Nat}(S:w k=J k)(Z:wd k=C k)(z:wd (k+1)=C (k+1))(I : ∀i j,i<l4 w wd k->j<l5 w wd k->T k i j=Y k i j):qX w wd T k=qX J C Y k:=by
 have a:l4 w wd k=l4 J C k:=by unfold l4;rw[S,Z,z]
 have O:l5 w wd k=l5 J C k:=by unfold l5;rw[S,Z,z]
 unfold qX;rw[S,<- a,<- O,JG I]
theorem mN{p:Int}{m:Nat}{w Y:UK}{wd C:UX}{T S:UW}(Z : ∀k,k<m->w k=Y k)(J : ∀k,k<m+1->wd k=C k)(I : ∀k i j,k<m->i<l4 w wd k->j<l5 w wd k->T k i j=S k i j):jA p m w wd T=jA p m Y C S:=by unfold jA jN;rw[xW (f:=λk=>((wd k:Nat):Int)) (g:=λk=>((C k:Nat):Int)) λk z=>by rw[J k z]];rw[MA λk z=>px (Z k<|Mg.mp z) (J k (by have:=Mg.mp z;omega)) (J (k+1) (by have:=Mg.mp z;omega)) λi j a O=>I k i j (Mg.mp z) a O]
theorem uq(w wd T k):kA (qX w wd T k)=eA:=by have a:=QO (l4 w wd k) (l5 w wd k)<|T k;have b:=gL<|w k;simp only[nf,My]at a b;show(kA _ && (kA _ && eA))=eA;rw[a.2,b.2];rfl
theorem oT(w wd T k):deep (qX w wd T k)<=4:=by have:=bF (l4 w wd k) (l5 w wd k)<|T k;simp[qX,deep,ra];omega
theorem gQ(p m w wd T):nf (jA p m w wd T)=eA:=by
 have e:ra (jN m w wd T)<=4:=xX λd a=>by obtain⟨k,_,rfl⟩:=MD.mp a;exact oT w wd T k
 have b:s9 (jN m w wd T)=eA:=yO λd a=>by obtain⟨k,_,rfl⟩:=MD.mp a;exact uq w wd T k
 have I:=bD (m+1) λk=>(wd k:Int);have z:=gO (m+1) λk=>(wd k:Int);refine Vm (n:=10) ?_ ⋯ ?_
 ·simp only[jA,deep,ra]at I ⊢
  omega
 ·simp only[jA,kA,s9]at z ⊢
  simp[b,z]
theorem XU(i:Int):v9 [.int i]=ej (.val<|.bl eA):=by simp[v9,jr,jc,WM]
theorem VZ(n k:Int):vM [.int n,.int k]=ej (.val<|.bl<|decide (0<=k) && decide (k<n)):=by by_cases h:0<=k<;>simp[vM,jr,jc,XU,kX,h]
section
variable{p:Int}
def iW(h w:Nat)(f:UV):List D:=(Me h).map λi=>D.lst<|zH w<|f i
@[simp] theorem CV(h w f):(iW h w f).length=h:=by simp[iW]
end
theorem zA : ∀{n:Nat},(∀k,k<n->f k=g k)->zm f n=zm g n
 | 0,_=>rfl
 | n+1,h=>by simp only[zm];rw[zA (n:=n) λk z=>h k ⋯,h n ⋯]
theorem zV(n:Nat):zm (λ_=>0) n=0:=by
 induction n with
 | zero=>rfl
 | succ n z=>simp[zm,z]
theorem zT(C:i<n)(h : ∀k,k<n->k≠i->f k=0):zm f n=f i:=by
 induction n with
 | zero=>omega
 | succ n z=>
  simp only[zm];by_cases e:i=n
  ·subst e
   rw[zA (g:=λ_=>0) (λk I=>h k ⋯ ⋯),zV];omega
  ·rw[z ⋯ λk I=>h k ⋯,h n ⋯ ⋯]
   omega
theorem jI(f g:Nat->Int)(n:Nat):zm (λk=>f k+g k) n=zm f n+zm g n:=by
 induction n with
 | zero=>rfl
 | succ n z=>simp only[zm,z];omega
theorem xm(f:Nat->Int)(c:Int)(n:Nat):zm (λk=>f k*c) n=zm f n*c:=by
 induction n with
 | zero=>simp[zm]
 | succ n z=>simp only[zm,z,Sj]
theorem jF(f:Nat->Int)(c:Int)(n:Nat):zm (λk=>c*f k) n=c*zm f n:=by
 induction n with
 | zero=>simp[zm]
 | succ n z=>simp only[zm,z,PF]
theorem xl(f:UV)(n m:Nat):zm (λi=>zm (λj=>f i j) m) n=zm (λj=>zm (λi=>f i j) n) m:=by
 induction n with
 | zero=>simp[zm,zV]
 | succ n z=>simp only[zm];rw[z,<- jI]
theorem zS : ∀{n:Nat},(∀k,k<n->f k%p=g k%p)->zm f n%p=zm g n%p
 | 0,_=>rfl
 | n+1,h=>by simp only[zm];rw[Nn,zS (n:=n)<|λk z=>h k ⋯,h n ⋯,<- Nn]
theorem gX(p x y:Int):(x%p*y)%p=(x*y)%p:=by rw[Mt,MM,<- Mt]
theorem w9(p x y:Int):(x*(y%p))%p=(x*y)%p:=by rw[Mt,MM,<- Mt]
theorem JV(p:Int)(a b c:UV)(m w i j:Nat) :
 zm (λk=>a i k*(zm (λl=>b k l*c l j) w%p)) m%p=zm (λl=>(zm (λk=>a i k*b k l) m%p)*c l j) w%p:=by
 rw[zS (g:=λk=>zm (λl=>a i k*(b k l*c l j)) w) (λk _=>by rw[w9,jF]),
  zS (f:=λl=>(zm (λk=>a i k*b k l) m%p)*c l j) (g:=λl=>zm (λk=>a i k*(b k l*c l j)) m) (λl _=>by rw[gX,<- xm];exact congrArg (· % p)<|zA λk _=>NB _ _ _),xl]
abbrev Vc:=Nat->Int
def Pr(p:Int):Prop:=p=2\/p=3\/p=5\/p=7
theorem Pr.pos(h:Pr p):0<p:=by unfold Pr at h;omega
theorem Pr.two(h:Pr p):2<=p:=by unfold Pr at h;omega
theorem Pr.le(h:Pr p):p<=7:=by unfold Pr at h;omega
theorem Pr.one(h:Pr p):(1:Int)%p=1:=NJ ⋯ (by have:=h.two;omega)
inductive Span(p:Int)(n:Nat)(G:Vc->Prop):Vc->Prop where
 | zero {v:Vc}:(∀i,i<n->v i%p=0)->Span p n G v
 | step {v w g:Vc} {c:Int}:G g->Span p n G w->(∀i,i<n->v i%p=(w i+c*g i)%p)->Span p n G v
section
variable{p:Int}{n:Nat}{G G':Vc->Prop}
theorem Span.congr(h:Span p n G v)(e : ∀i,i<n->v' i%p=v i%p):Span p n G v':=by
 cases h with
 | zero h=>exact .zero λi a=>by rw[e i a,h i a]
 | step z b h=>exact .step z b λi a=>by rw[e i a,h i a]
theorem Span.gen(h:G g):Span p n G g:= .step (c:=1) h (.zero (v:=λ_=>0) λi _=>by simp) λi _=>by simp
theorem Span.add(I:Span p n G v)(C:Span p n G w) : ∀c:Int,Span p n G λi=>w i+c*v i:=by
 induction I with
 | zero h=>
  intro c;refine C.congr λi a=>?_;rw[Nn,Mt,h i a];simp
 | @step v b g z O Y h U=>
  intro c;refine .step (c:=c*z) O (U c) λi a=>?_;have e:(c*v i)%p=(c*(b i+z*g i))%p:=by rw[Mt,h i a,<- Mt]
  rw[Nn,e,<- Nn];congr 1;rw[PF,<- NB,Int.add_assoc]
theorem Span.smul(z:Span p n G v)(c:Int):Span p n G λi=>c*v i:=
 (z.add (w:=λ_=>0) (.zero λi _=>by simp) c).congr λi _=>by simp
theorem Span.le(h:Span p n G v)(z : ∀g,G g->Span p n G' g):Span p n G' v:=by
 induction h with
 | zero h=>exact .zero h
 | step I a h O=>exact((z _ I).add O _).congr h
end
structure kv(p:Int)(n r:Nat)(B:Nat->Vc)(l:UX):Prop where
 lt : ∀k,k<r->l k<n
 mono : ∀k m,k<m->m<r->l k<l m
 one : ∀k,k<r->B k (l k)=1
 pb : ∀k j,k<r->j<l k->B k j=0
 xg : ∀k m,k<r->m<r->m≠k->B k (l m)=0
 o5 : ∀k i,k<r->i<n->0<=B k i/\B k i<p
def f9(r:Nat)(B:Nat->Vc):Vc->Prop:=λv=>∃k,k<r/\v=B k
section
variable{p:Int}{n r r':Nat}{B B':Nat->Vc}{l l':UX}
theorem Js(I:kv p n r B l)(h:Span p n (f9 r B) v) : ∀i,i<n->v i%p=zm (λk=>v (l k)*B k i) r%p:=by
 induction h with
 | @zero v h=>
  intro i a;rw[h i a];have:zm (λk=>v (l k)*B k i) r%p=zm (λ_=>0) r%p:=zS λk z=>by rw[Mt,h _ (I.lt k z)];simp
  rw[this,zV];rfl
 | @step v w g c O f h U=>
  intro i a;obtain⟨m,b,rfl⟩:=O;rw[h i a];have e:zm (λk=>v (l k)*B k i) r%p=zm (λk=>w (l k)*B k i+c*B m (l k)*B k i) r%p:=zS λk z=>by rw[Mt,h _<|I.lt k z,<- Mt,Sj]
  have Y:zm (λk=>c*B m (l k)*B k i) r=c*B m i:=by rw[zT (i:=m) b λk z d=>by rw[I.xg m k b z d];simp,I.one m b];simp
  rw[e,jI,Y,Nn,U i a,<- Nn]
theorem WI(z:kv p n r B l)(h:Span p n (f9 r B) v)(O:j<n)(U:v j%p≠0)(Y : ∀i,i<j->v i%p=0) : ∃k,k<r/\l k=j:=by
 apply NP;intro a;apply U;rw[Js z h j O];have:zm (λk=>v (l k)*B k j) r%p=zm (λ_=>0) r%p:=zS λk I=>by
  have b:l k≠j:=λe=>a ⟨k,I,e⟩;rcases MK (l k) j with q | q
  ·rw[Mt,Y _ q];simp
  ·rw[z.pb k j I ⋯];simp
 rw[this,zV];rfl
theorem bj(O : ∀k m,k<m->m<r->l k<l m)(U : ∀k m,k<m->m<r'->l' k<l' m)(C : ∀k,k<r->∃m,m<r'/\l' m=l k)(J : ∀k,k<r'->∃m,m<r/\l m=l' k) :
 ∀k,k<r->k<r'/\l k=l' k:=by
 intro k
 induction k using Nat.strongRecOn with
 | ind k Y=>
  intro a;obtain⟨m,b,em⟩:=C k a;have e:k<=m:=by
   rcases MK m k with q | q
   ·have:=(Y m q ⋯).2
    have:=O m k q a;omega
   ·exact q
  have I:k<r':=by omega
  refine⟨I,?_⟩;obtain⟨q,d,eq⟩:=J k I;have f:k<=q:=by
   rcases MK q k with z | z
   ·have:=(Y q z ⋯).2
    have:=U q k z I;omega
   ·exact z
  rcases MK k m with z | z
  ·have g:=U k m z b
   have h:l k<=l q:=by
    rcases MK k q with y | y
    ·exact Sy<|O k q y d
    ·have:k=q:=by omega
     subst this;exact Mp _
   omega
  ·have:m=k:=by omega
   subst this;exact em.symm
theorem Xs(S:Pr p)(I:kv p n r B l)(O:kv p n r' B' l')(C : ∀v,Span p n (f9 r B) v->Span p n (f9 r' B') v)(J : ∀v,Span p n (f9 r' B') v->Span p n (f9 r B) v) :
 r=r'/\(∀k,k<r->l k=l' k)/\∀k i,k<r->i<n->B k i=B' k i:=by
 have one:=S.one;have e : ∀k,k<r->∃m,m<r'/\l' m=l k:=λk z=>WI O (C _<|.gen ⟨k,z,rfl⟩) (I.lt k z) (by rw[I.one k z,one];decide) λi a=>by rw[I.pb k i z a];simp
 have f : ∀k,k<r'->∃m,m<r/\l m=l' k:=λk z=>WI I (J _<|.gen ⟨k,z,rfl⟩) (O.lt k z) (by rw[O.one k z,one];decide) λi a=>by rw[O.pb k i z a];simp
 have b:=bj I.mono O.mono e f;have h:=bj O.mono I.mono f e;have j:r=r':=by
  rcases Rh r r' with q | q | q
  ·exact absurd (h r q).1 (Nw _)
  ·exact q
  ·exact absurd (b r' q).1 (Nw _)
 subst j;refine⟨rfl,λk z=>(b k z).2,λk i z a=>?_⟩;have c:=Js O (C _<|.gen ⟨k,z,rfl⟩) i a;rw[zT (i:=k) z λm d g=>by rw[<- (b m d).2,I.xg k m z d g];simp,<- (b k z).2,I.one k z,Pc]at c;have U:=I.o5 k i z a;have Y:=O.o5 k i z a;rw[NJ U.1 U.2,NJ Y.1 Y.2]at c;exact c
end
theorem jD(q:α->Bool)(r:α->D) : ∀(l:List α),(∀x∈l,∃γ1,xH T (g x) γ=ej γ1/\k γ1=ej (q x)/\(q x=eA->f γ1=ej (r x)))->
 zP T k f γ (l.map g)=ej ((l.filter q).map r)
 | [],_=>rfl
 | x::l,h=>by
  obtain⟨γ1,a,b,I⟩:=h x Mx;have z:=jD q r l λy O=>h y<|Ms _ O;simp only[MT,zP,a,b,Mj];cases e:q x with
  | true=>simp[I e,z,e]
  | false=>simp[z,e]
theorem rE(z:Pr p)(I:0<x)(C:x<p) : ∃y:Nat,1<=y/\(y:Int)<p/\(y:Int)*x%p=1:=by
 rcases z with rfl | rfl | rfl | rfl
 ·obtain rfl:x=1:=by omega
  exact⟨1,by decide,by decide,by decide⟩
 ·rcases (show x=1\/x=2 by omega)with rfl | rfl
  ·exact⟨1,by decide,by decide,by decide⟩
  ·exact⟨2,by decide,by decide,by decide⟩
 ·rcases (show x=1\/x=2\/x=3\/x=4 by omega)with rfl | rfl | rfl | rfl
  ·exact⟨1,by decide,by decide,by decide⟩
  ·exact⟨3,by decide,by decide,by decide⟩
  ·exact⟨2,by decide,by decide,by decide⟩
  ·exact⟨4,by decide,by decide,by decide⟩
 ·rcases (show x=1\/x=2\/x=3\/x=4\/x=5\/x=6 by omega)with rfl | rfl | rfl | rfl | rfl | rfl
  ·exact⟨1,by decide,by decide,by decide⟩
  ·exact⟨4,by decide,by decide,by decide⟩
  ·exact⟨5,by decide,by decide,by decide⟩
  ·exact⟨2,by decide,by decide,by decide⟩
  ·exact⟨3,by decide,by decide,by decide⟩
  ·exact⟨6,by decide,by decide,by decide⟩
theorem Jj{q:UK}{n a:Nat}{yp:List Nat}(h:(Me n).filter q=a::yp):a<n/\q a=eA/\∀i,i<a->q i=eK:=by
 have b:a∈(Me n).filter q:=by rw[h];exact Mx
 refine⟨Mg.mp (MR.mp b).1,(MR.mp b).2,λi d=>?_⟩;apply NP;intro z;have I:q i=eA:=by simpa using z
 have O:i∈a::yp:=by rw[<- h];exact MR.mpr ⟨Mg.mpr (by have:=Mg.mp (MR.mp b).1;omega),I⟩
 have U:(a::yp).Pairwise (· < ·):=by rw[<- h];exact RU _ Rb
 rcases Mu.mp O with e | e
 ·omega
 ·have:=(List.pairwise_cons.mp U).1 i e;omega
theorem Vp(h:(Me n).filter q=[]) : ∀i,i<n->q i=eK:=λi a=>by apply NP;intro z;have:i∈(Me n).filter q:=MR.mpr ⟨Mg.mpr a,by simpa using z⟩;rw[h]at this;simp at this
theorem V0(z:Pr p)(I:0<x)(C:x<p) : ∃y,Zw [.int p,.int x]=ej (.val<|.int y)/\1<=y/\y<p/\x*y%p=1:=by
 rcases z with rfl | rfl | rfl | rfl
 ·have:x=1:=by omega
  subst this;exact⟨1,rfl,by decide,by decide,by decide⟩
 ·have:x=1\/x=2:=by omega
  rcases this with rfl | rfl
  ·exact⟨1,rfl,by decide,by decide,by decide⟩
  ·exact⟨2,rfl,by decide,by decide,by decide⟩
 ·have:x=1\/x=2\/x=3\/x=4:=by omega
  rcases this with rfl | rfl | rfl | rfl
  ·exact⟨1,rfl,by decide,by decide,by decide⟩
  ·exact⟨3,rfl,by decide,by decide,by decide⟩
  ·exact⟨2,rfl,by decide,by decide,by decide⟩
  ·exact⟨4,rfl,by decide,by decide,by decide⟩
 ·have:x=1\/x=2\/x=3\/x=4\/x=5\/x=6:=by omega
  rcases this with rfl | rfl | rfl | rfl | rfl | rfl
  ·exact⟨1,rfl,by decide,by decide,by decide⟩
  ·exact⟨4,rfl,by decide,by decide,by decide⟩
  ·exact⟨5,rfl,by decide,by decide,by decide⟩
  ·exact⟨2,rfl,by decide,by decide,by decide⟩
  ·exact⟨3,rfl,by decide,by decide,by decide⟩
  ·exact⟨6,rfl,by decide,by decide,by decide⟩
theorem Jn(I:Pr p)(J:n<=lim)(z:t<n)(w P:Nat->Int)(C : ∀i,i<n->0<=w i/\w i<p) :
 xf [.int p,.tup<|zH n w,.tup<|zH n P,.int t]=ej (.val<|.tup<|zH n λi=>(w i - w t*P i)%p):=by
 have Y:=C t z;have b:=I.le;have U : ∀x,JM (w t) x=eA:=λx=>vE _ _ ⋯ ⋯;by_cases O:w t=0
 ·simp[xf,jr,jc,jj,z,O]
  apply xW;intro i a;rw[NJ (C i a).1 (C i a).2]
 ·simp[xf,jr,jc,jj,z,O,Jw,J,zZ,xA,Ml]
  rw[zw (r:=λi=>D.int<|w i - w t*P i)]
  ·rw[<- jf]
   simp[Xy _ I.pos J]
  ·intro i a
   refine zx rfl rfl ?_;simp[U]
theorem Wy{l:UX}{r t:Nat}(C : ∀k m,k<m->m<r->l k<l m)(z : ∀k,k<r->l k<t):r<=t:=by
 have a : ∀k,k<r->k<=l k:=by
  intro k
  induction k with
  | zero=>intro _;exact Ny _
  | succ k I=>
   intro O;have b:=I ⋯;have d:=C k (k+1) ⋯ O;omega
 cases r with
 | zero=>exact Ny _
 | succ r=>
  have b:=a r ⋯;have d:=z r ⋯;omega
noncomputable def JN:=(zJ (jy 6<|qh<|zK (zN<|zh 3) (.nm 0) 1 [5] (sB<|zy i7 (eL (zh 0)<|zc 1)<|zu<|.int 0) (zc 0))<|zJ (kr (jU<|sS<|zh 6) sW j9)<|zJ (jy 7<|zD Zw<|zb (zc 0)<|zb (eL (zW<|eL (zh 6)<|zu<|.int 0)<|zc 5) zI)<|zJ (jy 8<|zD kf<|zb (zc 0)<|zb (qh<|zK (zN<|zW<|eL (zh 6)<|zu<|.int 0) (.nm 0) 1 [7] jb (zy xJ (zc 1)<|zc 0)) zI)<|zJ (jy 3<|qh<|zK (zN<|zh 3) (.nm 0) 1 [0,5,8] jb (zD xf<|zb (zc 1)<|zb (zc 0)<|zb (zc 3)<|zb (zc 2) zI))<|wz 4<|We (jm<|zK (zN<|zh 4) (.nm 0) 1 [0,5,8] jb (zD xf<|zb (zc 1)<|zb (zc 0)<|zb (zc 3)<|zb (zc 2) zI))<|jm<|kG<|zb (zc 8) zI)
def Un(r:Nat)(B:Nat->Vc)(m:Nat)(W:Nat->Vc):Vc->Prop:=λv=>f9 r B v\/f9 m W v
structure Dn(p:Int)(n m:Nat)(W:Nat->Vc)(t r:Nat)(B:Nat->Vc)(l:UX)(Wt:Nat->Vc):Prop where
 o5 : ∀j i,j<m->i<n->0<=Wt j i/\Wt j i<p
 D0 : ∀j i,j<m->i<t->Wt j i=0
 Dz:kv p n r B l
 lt : ∀k,k<r->l k<t
 span : ∀v,Span p n (Un r B m Wt) v↔Span p n (f9 m W) v
section
variable{p:Int}{n m:Nat}{W:Nat->Vc}{t r:Nat}{B:Nat->Vc}{l:UX}{Wt:Nat->Vc}
theorem Dn.skip(h:Dn p n m W t r B l Wt)(I : ∀j,j<m->Wt j t=0):Dn p n m W (t+1) r B l Wt:=
 ⟨h.o5,λj i z a=>by
  rcases MK i t with q | q
  ·exact h.D0 j i z q
  ·have:i=t:=by omega
   subst this;exact I j z,h.Dz,λk O=>Nu<|h.lt k O,h.span⟩
def mm(p:Int)(P:Vc)(t:Nat)(w:Vc):Vc:=λi=>(w i - w t*P i)%p
noncomputable def dq(p:Int)(P:Vc)(t r:Nat)(B:Nat->Vc):Nat->Vc:=λk=>if k<r then mm p P t (B k)else P
def rk(t r:Nat)(l:UX):Nat->Nat:=λk=>if k<r then l k else t
theorem JL(z:Span p n G P)(C:Span p n G w):Span p n G (mm p P t w):=
 (z.add C (-(w t))).congr λi _=>by unfold mm;rw[MM];congr 1;rw[Int.neg_mul];omega
theorem ak(z:Span p n G P)(C:Span p n G (mm p P t w)):Span p n G w:=
 (z.add C<|w t).congr λi _=>by unfold mm;rw[Nn,MM,<- Nn];congr 1;omega
theorem Dn.next(C:Pr p)(h:Dn p n m W t r B l Wt)(S:t<n)(J:j0<m)(Z:Wt j0 t*y%p=1)(Y : ∀i,i<n->P i=y*Wt j0 i%p) :
 Dn p n m W (t+1) (r+1) (dq p P t r B) (rk t r l) (λj=>mm p P t<|Wt j):=by
 have K:=C.pos;have one:=C.one;have A:P t=1:=by rw[Y t S,Nx];exact Z
 have f : ∀i,i<t->P i=0:=λi a=>by rw[Y i ⋯,h.D0 j0 i J a];simp
 have as : ∀i,i<n->0<=P i/\P i<p:=λi a=>by rw[Y i a];exact⟨Na _ ⋯,MN _ K⟩
 have F : ∀(w:Vc) i,0<=mm p P t w i/\mm p P t w i<p:=λw i=>⟨Na _ ⋯,MN _ K⟩;have b : ∀(w:Vc) i,i<t->0<=w i->w i<p->mm p P t w i=w i:=λw i a N Q=>by unfold mm;rw[f i a,OD,Int.sub_zero];exact NJ N Q
 have H : ∀w:Vc,mm p P t w t=0:=λw=>by unfold mm;rw[A,Ri,Int.sub_self];simp
 refine⟨λj i O a=>F _ _,λj i O a=>?_,⟨λk I=>?_,λk q L R=>?_,λk I=>?_,λk j I O=>?_,λk q I R M=>?_,λk i I a=>?_⟩,λk I=>?_,λv=>?_⟩
 ·rcases MK i t with q | q
  ·have e:=h.D0 j i O q
   rw[b _ i q ⋯ ⋯];exact e
  ·have:i=t:=by omega
   subst this;exact H _
 ·unfold rk;split
  ·rename_i q;exact h.Dz.lt k q
  ·exact S
 ·unfold rk
  have I:k<r:=by omega
  rw[UJ I];split
  ·rename_i z;exact h.Dz.mono k q L z
  ·exact h.lt k I
 ·unfold rk dq;split
  ·rename_i q
   have e:=h.Dz.one k q;have d:=h.lt k q;rw[b _ _ d ⋯ (by have:=C.two;omega)];exact e
  ·exact A
 ·unfold dq;unfold rk at O;split at O
  ·rename_i q
   have e:=h.Dz.pb k j q O;have d:=h.lt k q;rw[UJ q,b _ _ ⋯ ⋯ ⋯];exact e
  ·rename_i q
   rw[UY q];exact f j O
 ·unfold dq rk
  by_cases x:k<r
  ·rw[UJ x]
   by_cases U:q<r
   ·rw[UJ U]
    have e:=h.Dz.xg k q x U M;have d:=h.lt q U;rw[b _ _ d ⋯ ⋯];exact e
   ·rw[UY U];exact H _
  ·rw[UY x]
   have U:q<r:=by omega
   rw[UJ U];exact f _<|h.lt q U
 ·unfold dq;split
  ·exact F _ _
  ·exact as i a
 ·unfold rk;split
  ·rename_i q;exact Nu<|h.lt k q
  ·exact Og _
 ·rw[<- h.span v]
  have o:Span p n (Un r B m Wt) P:=((Span.gen (p:=p) (n:=n) (G:=Un r B m Wt) (g:=Wt j0)<|.inr ⟨j0,J,rfl⟩).smul y).congr λi a=>by rw[Y i a,MM]
  have E:Span p n (Un (r+1) (dq p P t r B) m λj=>mm p P t<|Wt j) P:= .gen (.inl ⟨r,Og r,by unfold dq;rw[UY (Nw r)]⟩);constructor
  ·refine λu=>u.le λg s=>?_
   rcases s with⟨k,I,rfl⟩ | ⟨j,O,rfl⟩
   ·unfold dq;split
    ·rename_i q;exact JL o<|.gen<|.inl ⟨k,q,rfl⟩
    ·exact o
   ·exact JL o<|.gen<|.inr ⟨j,O,rfl⟩
  ·refine λu=>u.le λg s=>?_
   rcases s with⟨k,I,rfl⟩ | ⟨j,O,rfl⟩
   ·refine ak (t:=t) E (.gen<|.inl ⟨k,Nu I,?_⟩)
    unfold dq;rw[UJ I]
   ·exact ak (t:=t) E<|.gen<|.inr ⟨j,O,rfl⟩
theorem Dn.done(h:Dn p n m W n r B l Wt)(v:Vc):Span p n (f9 r B) v↔Span p n (f9 m W) v:=by
 rw[<- h.span v];constructor
 ·exact λI=>I.le λg z=> .gen (.inl z)
 ·refine λI=>I.le λg z=>?_
  rcases z with z | ⟨j,O,rfl⟩
  ·exact .gen z
  ·exact .zero λi a=>by rw[h.D0 j i O a];simp
theorem iV(I:True)(P:Vc):jd (r+1) n (dq p P t r B)=jd r n (λk=>mm p P t<|B k)++[.tup (zH n P)]:=by
 unfold jd;rw[Oc,NA];congr 1
 ·apply MA
  intro k z;have:=Mg.mp z;simp[dq,this]
 ·simp[dq]
end
theorem x9{p:Int}(C:Pr p){n m:Nat}(hn:n<=100)(S:m<=lim)(J:Sk)(W:Nat->Vc) :
 ∃r B l,ka [.int p,.int n,wh J (jd m n W)]=ej (.own<|jd r n B)/\kv p n r B l/\∀v,Span p n (f9 r B) v↔Span p n (f9 m W) v:=by
 have hl:=ju;have a:n<=lim:=by omega
 have H:=C.pos;have E:=VI (T:= .nm 5) (F:=JN)
  (λt N=>∃r B l Wt o s f h,N=[.val (.int p),.val<|.int n,.val<|wh J<|jd m n W,.val<|.lst<|jd m n Wt,.own<|jd r n B,o,s,f,h]/\Dn p n m W t r B l Wt)
  ((Me n).map λ(i:Nat)=>D.int i) 0 [.val (.int p),.val<|.int n,.val<|wh J<|jd m n W,.val<|.lst<|jd m n λj i=>W j i%p,.own [],.no,.no,.no,.no]
  ⟨0,λ_ _=>0,λ_=>0,λj i=>W j i%p,.no,.no,.no,.no,rfl,λj i _ _=>⟨Na _ ⋯,MN _ H⟩,λj i _ b=>absurd b<|MU _,
   ⟨λk I=>absurd I<|MU _,λk q _ I=>absurd I<|MU _,λk I=>absurd I<|MU _,λk j I=>absurd I<|MU _,λk q I=>absurd I<|MU _,λk i I=>absurd I<|MU _⟩,
   λk I=>absurd I<|MU _,λv=>⟨λA=>A.le λg w=>by
    rcases w with⟨k,I,_⟩ | ⟨j,U,rfl⟩
    ·exact absurd I<|MU _
    ·exact(Span.gen (p:=p) (n:=n) (G:=f9 m W) (g:=W j) ⟨j,U,rfl⟩).congr λi _=>MM _ _,λA=>A.le λg w=>by
    obtain⟨j,U,rfl⟩:=w;exact(Span.gen (p:=p) (n:=n) (G:=Un 0 (λ_ _=>0) m λj i=>W j i%p) (g:=λi=>W j i%p)<|.inr ⟨j,U,rfl⟩).congr λi _=>(MM _ _).symm⟩⟩ (by
   rintro t d N u ⟨r,B,l,Wt,o,s,f,h,rfl,O⟩;rw[Nc]at O ⊢;have Y:t<n:=by have:=(Mv.mp u).1;simpa using this
   have Q:d = .int t:=by simp[Y]at u;exact u.symm
   subst Q;have e:zP (.nm 0) (sB<|zy i7 (eL (zh 0)<|zc 1)<|zu<|.int 0) (zc 0) [Cell.no,Cell.val (.int t)] (jd m n Wt)=ej (((Me m).filter λj=> !decide (Wt j t=0)).map λj=>D.tup<|zH n<|Wt j):=by unfold jd;refine jD _ _ _ λj U=>⟨_,rfl,?_,λ_=>rfl⟩;simp[Y]
   have hr:r<=t:=Wy O.Dz.mono O.lt;have R:r<=lim:=by omega
   cases hf:(Me m).filter λj=> !decide (Wt j t=0)with
   | nil=>
    have hz : ∀j,j<m->Wt j t=0:=λj U=>by apply NP;intro K;have:j∈(Me m).filter λj=> !decide (Wt j t=0):=MR.mpr ⟨Mg.mpr U,by simp[K]⟩;rw[hf]at this;simp at this
    rw[hf]at e;refine⟨_,.inr ?_,r,B,l,Wt,.val<|.int t,.val<|.lst [],f,h,rfl,O.skip hz⟩;simp only[vX,Mj,NL,NK,JN];rw[jj];simp[jj,zZ,xA,Ml,e,S]
   | cons z yp=>
    have L:z∈(Me m).filter λj=> !decide (Wt j t=0):=by rw[hf];exact Mx
    have M:z<m:=Mg.mp (MR.mp L).1;have K:Wt z t≠0:=by simpa using (MR.mp L).2
    have X:=O.o5 z t M Y;obtain⟨y,ey,y1,y2,yy⟩:=V0 C (x:=Wt z t) ⋯ X.2;rw[hf]at e;have nx:=O.next C Y M yy (P:=λi=>y*Wt z i%p) λi _=>rfl;refine⟨_,.inl ?_,r+1,dq p (λi=>y*Wt z i%p) t r B,rk t r l,λj=>mm p (λi=>y*Wt z i%p) t<|Wt j,.val<|.int t,.val<|.lst<|(z::yp).map λj=>D.tup<|zH n<|Wt j,.val<|.int y,.val<|.tup<|zH n λi=>y*Wt z i%p,rfl,nx⟩;have bf:=C.le;have cy : ∀x,JM y x=eA:=λx=>vE _ _ ⋯ ⋯;have Z:zP (.nm 0) jb (zy xJ (zc 1)<|zc 0) [Cell.no,Cell.val (.int y)] (zH n<|Wt z)=ej (zH n λi=>y*Wt z i):=by rw[jf,jf];refine zw _ _ λi b=>zx rfl rfl ?_;simp[cy]
    have b0:zP (.nm 0) jb (zD xf<|zb (zc 1)<|zb (zc 0)<|zb (zc 3)<|zb (zc 2) zI) [Cell.no,Cell.val<|.int p,Cell.val<|.int t,Cell.val (.tup<|zH n λi=>y*Wt z i%p)] (jd m n Wt)=ej (jd m n λj=>mm p (λi=>y*Wt z i%p) t<|Wt j):=by unfold jd;refine zw _ _ λj U=>zx rfl rfl ?_;simp[Jn C a Y (Wt j) (λi=>y*Wt z i%p) λi b=>O.o5 j i (Mg.mp U) b];rfl
    have b5:zP (.nm 0) jb (zD xf<|zb (zc 1)<|zb (zc 0)<|zb (zc 3)<|zb (zc 2) zI) [Cell.no,Cell.val<|.int p,Cell.val<|.int t,Cell.val (.tup<|zH n λi=>y*Wt z i%p)] (jd r n B)=ej (jd r n λj=>mm p (λi=>y*Wt z i%p) t<|B j):=by unfold jd;refine zw _ _ λj U=>zx rfl rfl ?_;simp[Jn C a Y (B j) (λi=>y*Wt z i%p) λi b=>O.Dz.o5 j i (Mg.mp U) b];rfl
    have b6:r+1<=lim:=by omega
    rw[iV trivial];simp only[vX,Mj,NL,NK,JN];rw[jj];simp[jj,zZ,xA,Ml,e,S,a,Y,ey,Z,Xy _ H a,b0,b5,R,b6])
 obtain⟨γ',e1,r,B,l,Wt,o,s,f,h,rfl,O⟩:=E;simp only[MF,Nz,Nc]at O;refine⟨r,B,l,?_,O.Dz,O.done⟩;have b7:zP (.nm 0) jb (zD kf<|zb (zc 1)<|zb (zc 0) zI) [Cell.no,Cell.val (.int p)] (jd m n W)=ej (jd m n λj i=>W j i%p):=by unfold jd;refine zw _ _ λj U=>zx rfl rfl ?_;simp[lX _ H a]
 have e0:ka [.int p,.int n,wh J (jd m n W)]=jr 9 (zJ (jy 3<|qh<|zK (zN<|zh 2) (.nm 0) 1 [0] jb (zD kf<|zb (zc 1)<|zb (zc 0) zI))<|zJ (wz 4<|kG zI)<|zJ (ZA (z7<|zc 1) (.nm 5) JN)<|Wc 4) [.int p,.int n,wh J (jd m n W)]:=rfl;rw[e0];simp[jr,jc,jj,S,zZ,xA,Ml,b7,a,jW];rw[jf n λi=>(i:Int),e1];simp
@[simp] def Ep:=@Gc.eq_1
noncomputable def QZ{C:Type}(q:Nat)(x:C)(f:Nat->C):Nat->C:=λk=>if k<q then f k else if k=q then x else f (k - 1)
def Jt(l:UX)(r x:Nat):Nat:=((Me r).filter λk=>decide<|l k<x).length
theorem Yk : ∀{r:Nat},(∀k m,k<m->m<r->l k<l m)->(∀k,k<r->l k≠x)->Jt l r x<=r/\(∀k,k<Jt l r x->l k<x)/\∀k,Jt l r x<=k->k<r->x<l k
 | 0,_,_=>⟨Mp _,λk I=>absurd I (by simp[Jt]),λk _ I=>absurd I<|MU _⟩
 | r+1,hm,l_=>by
  obtain⟨g,d,O⟩:=Yk (r:=r) (x:=x) (λk m a b=>hm k m a ⋯) λk I=>l_ k ⋯;have e:Jt l (r+1) x=Jt l r x+if l r<x then 1 else 0:=by unfold Jt;rw[Oc,RL,NM];by_cases q:l r<x<;>simp[q]
  by_cases q:l r<x
  ·rw[e,UJ q]
   have U:Jt l r x=r:=by
    rcases MK (Jt l r x) r with z | z
    ·have Y:=O (Jt l r x) (Mp _) z
     have f:=hm (Jt l r x) r z<|Og r;omega
    ·omega
   rw[U];refine⟨Mp _,λk I=>?_,λk a b=>absurd b ⋯⟩;rcases MK k r with z | z
   ·exact d k ⋯
   ·have:k=r:=by omega
    subst this;exact q
  ·rw[e,UY q,Nat.add_zero]
   refine⟨by omega,d,λk a b=>?_⟩;rcases MK k r with z | z
   ·exact O k a z
   ·have:k=r:=by omega
    subst this;have:=l_ k b;omega
section
variable{p:Int}{n r:Nat}{B:Nat->Vc}{l:UX}{w:Vc}
structure F1(p:Int)(n r:Nat)(B:Nat->Vc)(l:UX)(w:Vc)(k:Nat)(R:Vc):Prop where
 o5 : ∀i,i<n->0<=R i/\R i<p
 D0 : ∀q,q<k->R (l q)=0
 eqv : ∀G,(∀k,k<r->Span p n G (B k))->(Span p n G w↔Span p n G R)
theorem F1.next(C:Pr p)(Y:kv p n r B l)(h:F1 p n r B l w k R)(I:k<r):F1 p n r B l w (k+1) (mm p (B k) (l k) R):=by
 have a:=C.pos;refine⟨λi _=>⟨Na _ ⋯,MN _ a⟩,λq b=>?_,λG O=>?_⟩
 ·unfold mm
  rcases MK q k with z | z
  ·rw[h.D0 q z,Y.xg k q I ⋯ ⋯];simp
  ·have:q=k:=by omega
   subst this;rw[Y.one q I];simp
 ·rw[h.eqv G O]
  exact⟨λU=>JL (O k I) U,λU=>ak (O k I) U⟩
theorem VC(O:q<=r)(U:k<r+1):(k=q/\QZ q x f k=x)\/∃I,I<r/\QZ q x f k=f I/\((k<q/\I=k)\/(q<k/\I+1=k)):=by
 unfold QZ;rcases Rh k q with z | z | z
 ·right;exact⟨k,by omega,by rw[UJ z],.inl ⟨z,rfl⟩⟩
 ·left;subst z;exact⟨rfl,by rw[UY (Nw _),UJ rfl]⟩
 ·right;exact⟨k - 1,by omega,by rw[UY ⋯,UY ⋯],.inr ⟨z,by omega⟩⟩
theorem m_:QZ q x f q=x:=by unfold QZ;rw[UY (Nw _),UJ rfl]
theorem uG : ∃I,(I<q/\I=k\/q<I/\I=k+1)/\QZ q x f I=f k:=by
 rcases MK k q with z | z
 ·exact⟨k,.inl ⟨z,rfl⟩,by unfold QZ;rw[UJ z]⟩
 ·exact⟨k+1,.inr ⟨by omega,rfl⟩,by unfold QZ;rw[UY ⋯,UY ⋯];rfl⟩
theorem uH(Z:Pr p)(C:kv p n r B l)(ha:a<n)(J:R a=1)(hz : ∀i,i<a->R i=0)(S : ∀k,k<r->R (l k)=0)(hR : ∀i,i<n->0<=R i/\R i<p) :
 kv p n (r+1) (QZ (Jt l r a) R λk=>mm p R a<|B k) (QZ (Jt l r a) a l):=by
 have Q:=Z.pos;have G : ∀k,k<r->l k≠a:=λk O e=>by have:=S k O;rw[e,J]at this;omega
 obtain⟨P,T,W⟩:=Yk C.mono G;have L : ∀(w:Vc) i,0<=mm p R a w i/\mm p R a w i<p:=λw i=>⟨Na _ ⋯,MN _ Q⟩;have H : ∀w:Vc,mm p R a w a=0:=λw=>by unfold mm;rw[J,Ri,Int.sub_self];simp
 have A : ∀(w:Vc) k,k<r->0<=w (l k)->w (l k)<p->mm p R a w (l k)=w (l k):=λw k O J M=>by unfold mm;rw[S k O,OD,Int.sub_zero];exact NJ J M
 have K : ∀k j,k<r->j<l k->mm p R a (B k) j=0:=λk j O s=>by
  unfold mm;rw[C.pb k j O s];rcases MK a (l k)with z | z
  ·rw[C.pb k a O z];simp
  ·rw[hz j ⋯];simp
 have two:=Z.two;have Y : ∀k,k<r+1->(k=Jt l r a/\QZ (Jt l r a) R (λk=>mm p R a<|B k) k=R/\QZ (Jt l r a) a l k=a)\/
  ∃I,I<r/\QZ (Jt l r a) R (λk=>mm p R a<|B k) k=mm p R a (B I)/\QZ (Jt l r a) a l k=l I/\((k<Jt l r a/\I=k)\/(Jt l r a<k/\I+1=k)):=by
  intro k O;rcases VC (x:=R) (f:=λk=>mm p R a<|B k) P O with⟨b,t⟩ | ⟨I,U,b,t⟩
  ·left;refine⟨b,t,?_⟩;subst b;exact m_
  ·right
   refine⟨I,U,b,?_,t⟩;rcases t with⟨E,F⟩ | ⟨E,F⟩
   ·unfold QZ;rw[UJ E,F]
   ·unfold QZ;rw[UY ⋯,UY ⋯];congr 1;omega
 refine⟨λk O=>?_,λk m X u=>?_,λk O=>?_,λk j O s=>?_,λk m O u b8=>?_,λk i O N=>?_⟩
 ·rcases Y k O with⟨_,_,e⟩ | ⟨I,U,_,e,_⟩
  ·rw[e];exact ha
  ·rw[e];exact C.lt I U
 ·rcases Y k ⋯with⟨z,_,e⟩ | ⟨I,U,_,e,z⟩<;>rcases Y m u with⟨y,_,h⟩ | ⟨g,d,_,h,y⟩<;>rw[e,h]
  ·omega
  ·exact W g ⋯ d
  ·exact T I ⋯
  ·exact C.mono I g ⋯ d
 ·rcases Y k O with⟨_,b,e⟩ | ⟨I,U,b,e,_⟩<;>rw[b,e]
  ·exact J
  ·have o:=C.one I U
   rw[A _ I U ⋯ ⋯];exact o
 ·rcases Y k O with⟨_,b,e⟩ | ⟨I,U,b,e,_⟩<;>rw[b]<;>rw[e]at s
  ·exact hz j s
  ·exact K I j U s
 ·rcases Y k O with⟨z,b,_⟩ | ⟨I,U,b,_,z⟩<;>rcases Y m u with⟨y,_,h⟩ | ⟨g,d,_,h,y⟩<;>rw[b,h]
  ·omega
  ·exact S g d
  ·exact H _
  ·have o:=C.xg I g U d ⋯
   rw[A _ g d ⋯ ⋯];exact o
 ·rcases Y k O with⟨_,b,_⟩ | ⟨I,U,b,_,_⟩<;>rw[b]
  ·exact hR i N
  ·exact L _ _
theorem uJ(z:q<=r)(I:Span p n G R)(O : ∀k,k<r->Span p n G (F k)) : ∀g,f9 (r+1) (QZ q R F) g->Span p n G g:=by
 rintro g ⟨k,U,rfl⟩;rcases VC (x:=R) (f:=F) z U with⟨_,e⟩ | ⟨Y,a,e,_⟩<;>rw[e]
 ·exact I
 ·exact O Y a
theorem uy(I:q<=r):f9 (r+1) (QZ q R F) R/\∀k,k<r->f9 (r+1) (QZ q R F) (F k):=by refine⟨⟨q,by omega,m_.symm⟩,λk O=>?_⟩;obtain⟨z,h,e⟩:=uG (q:=q) (x:=R) (f:=F) (k:=k);exact⟨z,by omega,e.symm⟩
theorem oF(hp:Pr p)(hb:kv p n r B l)(Z:a<n)(U : ∀v,Span p n (f9 r B) v↔Span p n (f9 j W) v)(Y:F1 p n r B l (W j) r R)(S:y*R a%p=1)(C : ∀i,i<n->R' i=y*R i%p)(J:Jt l r a<=r)(v:Vc) :
 Span p n (f9 (r+1)<|QZ (Jt l r a) R' λk=>mm p R' a<|B k) v↔Span p n (f9 (j+1) W) v:=by
 have w : ∀v,Span p n (f9 j W) v->Span p n (f9 (j+1) W) v:=λv O=>O.le λg ⟨i,b,e⟩=> .gen ⟨i,by omega,e⟩;have a2 : ∀k,k<r->Span p n (f9 (j+1) W) (B k):=λk I=>w _<|(U _).mp (.gen ⟨k,I,rfl⟩);have m:Span p n (f9 (j+1) W) R:=(Y.eqv _ a2).mp (.gen ⟨j,by omega,rfl⟩);have d:Span p n (f9 (j+1) W) R':=(m.smul y).congr λi b=>by rw[C i b,MM]
 obtain⟨u,m2⟩:=uy (R:=R') (F:=λk=>mm p R' a<|B k) J;have f:Span p n (f9 (r+1)<|QZ (Jt l r a) R' λk=>mm p R' a<|B k) R':= .gen u;have h : ∀k,k<r->Span p n (f9 (r+1)<|QZ (Jt l r a) R' λk=>mm p R' a<|B k) (B k):=λk I=>ak (t:=a) f<|.gen<|m2 k I;have o:Span p n (f9 (r+1)<|QZ (Jt l r a) R' λk=>mm p R' a<|B k) R:=(f.smul<|R a).congr λi b=>by rw[C i b,w9,<- NB,Nx (R a) y,Mt,S,Pc,MM]
 constructor
 ·exact λO=>O.le<|uJ J d λk I=>JL d<|a2 k I
 ·refine λO=>O.le ?_
  rintro g ⟨i,b,rfl⟩;rcases MK i j with z | z
  ·exact((U _).mpr (.gen ⟨i,z,rfl⟩)).le λg s=>by obtain⟨k,I,e⟩:=s;rw[e];exact h k I
  ·have:i=j:=by omega
   subst this;exact(Y.eqv _ h).mpr o
theorem fD(O : ∀v,Span p n (f9 r B) v↔Span p n (f9 j W) v)(U:F1 p n r B l (W j) r R)(Y : ∀i,i<n->R i=0)(v:Vc):Span p n (f9 r B) v↔Span p n (f9 (j+1) W) v:=by
 constructor
 ·exact λI=>((O v).mp I).le λg ⟨i,a,e⟩=> .gen ⟨i,by omega,e⟩
 ·refine λI=>I.le ?_
  rintro g ⟨i,a,rfl⟩;rcases MK i j with z | z
  ·exact(O _).mpr (.gen ⟨i,z,rfl⟩)
  ·have:i=j:=by omega
   subst this;exact(U.eqv _ λk b=> .gen ⟨k,b,rfl⟩).mpr (.zero λi a=>by rw[Y i a];simp)
end
theorem iZ(h w f):deep (.lst<|jd h w f)<=2:=bG h w f
theorem nT(h w f):kA (.lst<|jd h w f)=eA:=gP h w f
theorem aW(h w f):nf (.lst<|jd h w f)=eA:=Vm (iZ h w f) ⋯<|nT h w f
@[simp] theorem AC(h w f):(iW h w f).length=h:=by simp[iW]
section
variable{p:Int}{n m r:Nat}{G:Vc->Prop}
theorem Span.sum{u:Nat->Vc}(c:Nat->Int) : ∀{m:Nat},(∀k,k<m->Span p n G (u k))->Span p n G λi=>zm (λk=>c k*u k i) m
 | 0,_=> .zero λi _=>by simp[zm]
 | m+1,h=>(((h m ⋯).add (Span.sum c (m:=m) λk z=>h k ⋯) (c m))).congr λi _=>by simp[zm]
noncomputable def Rk(p:Int)(n m:Nat)(W:Nat->Vc)(r:Nat):Prop:=∃B l,kv p n r B l/\∀v,Span p n (f9 r B) v↔Span p n (f9 m W) v
theorem wA(U:Pr p)(h:Rk p n m W r)(h':Rk p n m W r'):r=r':=by obtain⟨B,l,Y,I⟩:=h;obtain⟨b,d,a,O⟩:=h';exact(Xs U Y a (λv z=>(O v).mpr ((I v).mp z))<|λv z=>(I v).mpr ((O v).mp z)).1
theorem aL(z:Pr p)(I:kv p n r B l)(C : ∀i,i<n->0<=w i/\w i<p) : ∀k,k<=r->∃R,F1 p n r B l w k R
 | 0,_=>⟨w,C,λq O=>absurd O<|MU _,λG _=>Iff.rfl⟩
 | k+1,h=>by obtain⟨R,U⟩:=aL z I C k ⋯;exact⟨_,U.next z I ⋯⟩
theorem bz : ∀(n:Nat) (R:Vc),(∀i,i<n->R i=0)\/∃a,a<n/\R a≠0/\∀i,i<a->R i=0
 | 0,R=> .inl λi b=>absurd b<|MU _
 | n+1,R=>by
  rcases bz n R with h | ⟨a,h1,h2,I⟩
  ·by_cases e:R n=0
   ·exact .inl λi b=>by rcases MK i n with z | z;exact h i z;rw[show i=n by omega];exact e
   ·exact .inr ⟨n,by omega,e,h⟩
  ·exact .inr ⟨a,by omega,h2,I⟩
theorem pS(I:Pr p)(W:Nat->Vc)(C : ∀j i,0<=W j i/\W j i<p) : ∀m,∃r,r<=m/\Rk p n m W r
 | 0=>⟨0,Mp _,λ_ _=>0,λ_=>0,⟨λk z=>absurd z<|MU _,λk q _ z=>absurd z<|MU _,λk z=>absurd z<|MU _,λk j z=>absurd z<|MU _,λk q z=>absurd z<|MU _,λk i z=>absurd z<|MU _⟩,
  λv=>⟨λY=>Y.le λg ⟨k,z,_⟩=>absurd z<|MU _,λY=>Y.le λg ⟨k,z,_⟩=>absurd z<|MU _⟩⟩
 | m+1=>by
  obtain⟨r,t,B,l,O,b⟩:=pS I W C m;have s:=I.pos;obtain⟨R,U⟩:=aL I O (w:=W m) (λi _=>C m i) r<|Mp _;rcases bz n R with h0 | ⟨a,ha,a5,a6⟩
  ·exact⟨r,by omega,B,l,O,fD b U h0⟩
  ·have f:=U.o5 a ha
   obtain⟨y,_,_,d⟩:=rE I (x:=R a) ⋯ f.2;have h : ∀k,k<r->l k≠a:=λk z e=>by have:=U.D0 k z;rw[e]at this;exact a5 this
   exact⟨r+1,by omega,_,_,uH I O (R:=λi=>(y:Int)*R i%p) ha d (λi o=>by rw[a6 i o];simp) (λk z=>by rw[U.D0 k z];simp) λi _=>⟨Na _ ⋯,MN _ s⟩,
    oF I (R':=λi=>(y:Int)*R i%p) O ha b U d (λi _=>rfl) (Yk O.mono h).1⟩
theorem YX(z:Pr p)(m:Nat)(W:Nat->Vc) : ∃r,r<=m/\Rk p n m W r:=by
 obtain⟨r,O,B,l,U,Y⟩:=pS (n:=n) z (λj i=>W j i%p) (λj i=>⟨Na _ (by have:=z.pos;omega),MN _ z.pos⟩) m;refine⟨r,O,B,l,U,λv=>(Y v).trans ⟨λh=>h.le λg ⟨k,I,e⟩=>?_,λh=>h.le λg ⟨k,I,e⟩=>?_⟩⟩
 ·subst e;exact(Span.gen (g:=W k) ⟨k,I,rfl⟩).congr λi _=>by rw[MM]
 ·subst e;exact(Span.gen (g:=λi=>W k i%p) ⟨k,I,rfl⟩).congr λi _=>by rw[MM]
theorem fP(z:Pr p)(_:n<=100)(_:m<=8)(W:Nat->Vc) : ∃r,r<=m/\Rk p n m W r:=YX z m W
theorem Bl(C:Pr p)(h:Rk p n m W r)(h':Rk p n m' W' r')(J : ∀j,j<m->Span p n (f9 m' W') (W j)):r<=r':=by
 obtain⟨B,l,U,x⟩:=h;obtain⟨E,f,Y,s⟩:=h';have o : ∀k,k<r->∃q,q<r'/\f q=l k:=λk I=>WI Y ((s _).mpr (((x _).mp (.gen ⟨k,I,rfl⟩)).le λg ⟨j,w,e⟩=>e ▸ J j w)) (U.lt k I) (by rw[U.one k I,C.one];decide) λi u=>by rw[U.pb k i I u];simp
 have a : ∀k,k<r->∀q,q<r'->f q=l k->k<=q:=by
  intro k
  induction k with
  | zero=>intro _ q _ _;exact Ny _
  | succ k A=>
   intro I q d e;obtain⟨O,b,t⟩:=o k ⋯;have F:=A ⋯ O b t;have G:=U.mono k (k+1) ⋯ I;rcases MK O q with z | z
   ·omega
   ·rcases MK q O with y | y
    ·have:=Y.mono q O y b
     omega
    ·have:q=O:=by omega
     subst this;omega
 rcases Nat.eq_zero_or_pos r with z | z
 ·omega
 ·obtain⟨q,d,e⟩:=o (r - 1) ⋯
  have:=a (r - 1) ⋯ q d e;omega
end
section
variable{p:Int}{n m r h w:Nat}
theorem Jy{l:UX}(h:Nat) : ∀{r:Nat},(∀k m,k<m->m<r->l k<l m)->∃s,s<=r/\(∀k,k<s->l k<h)/\∀k,s<=k->k<r->h<=l k
 | 0,_=>⟨0,Mp _,λk I=>absurd I<|MU _,λk _ I=>absurd I<|MU _⟩
 | r+1,hm=>by
  obtain⟨s,b,a,O⟩:=Jy h (r:=r) λk m I U=>hm k m I ⋯;by_cases e:l r<h
  ·refine⟨r+1,Mp _,λk I=>?_,λk b a=>by omega⟩
   rcases MK k r with z | z
   ·have:=hm k r z ⋯;omega
   ·have:k=r:=by omega
    subst this;exact e
  ·refine⟨s,by omega,a,λk I Y=>?_⟩
   rcases MK k r with z | z
   ·exact O k I z
   ·have:k=r:=by omega
    subst this;omega
theorem WQ(O:s<=r)(C : ∀k,k<s->q k=eK)(J : ∀k,s<=k->k<r->q k=eA):(Me r).filter q=(Me<|r - s).map (s + ·):=by
 obtain⟨d,rfl⟩ : ∃d,r=s+d:=⟨r - s,by omega⟩;rw[RM,RL];have a:(Me s).filter q=[]:=List.filter_eq_nil_iff.mpr λk z=>by rw[C k (Mg.mp z)];decide
 have I:((Me d).map (s + ·)).filter q=(Me d).map (s + ·):=List.filter_eq_self.mpr λk z=>by obtain⟨i,b,rfl⟩:=MD.mp z;exact J _ ⋯ (by have:=Mg.mp b;omega)
 rw[a,I,Oe];rfl
def vj(h:Nat)(u v:Vc):Vc:=λi=>if i<h then u i else v (i - h)
def qg(j:Nat):Vc:=λk=>if j=k then 1 else 0
theorem qt(C:i<h):vj h u v i=u i:=UJ C
theorem qM(i:Nat):vj h u v (h+i)=v i:=by unfold vj;rw[UY ⋯,Oe]
theorem JF(h w:Nat)(u v:Vc):zH h u++zH w v=zH (h+w) (vj h u v):=by
 unfold zH;rw[RM,NA];congr 1
 ·exact MA λi a=>by rw[qt (Mg.mp a)]
 ·rw[Nb]
  exact MA λi _=>by simp only[Function.comp];rw[qM]
theorem iS(h w:Nat)(v:Vc):(zH (h+w) v).take h=zH h v:=by unfold zH;rw[<- List.map_take,List.take_range,Nat.min_eq_left (MS h w)]
theorem iT(h w:Nat)(v:Vc):(zH (h+w) v).drop h=zH w λj=>v (h+j):=by unfold zH;rw[RM,NA,List.drop_append_of_le_length ⋯,List.drop_eq_nil_of_le ⋯,Nb];rfl
theorem bK(h w:Nat)(v:Vc):oX (zH (h+w) v) eF (ej (h:Int))=zH h v:=by
 have c : ¬((h:Int)<0):=by omega
 have e:min h (h+w)=h:=Nat.min_eq_left<|MS h w;simp[oX,dP,c,e,iS]
theorem bJ(h w:Nat)(v:Vc):oX (zH (h+w) v) (ej (h:Int)) eF=zH w λj=>v (h+j):=by
 have c : ¬((h:Int)<0):=by omega
 have e:min h (h+w)=h:=Nat.min_eq_left<|MS h w;have t : ∀g:Vc,(zH w g).take w=zH w g:=λg=>Ra ⋯;simp[oX,dP,c,e,iT,t]
theorem au(v:Vc) : ∀n,wy (zH n v)=ej ((Me n).map λi=>v i != 0)
 | 0=>rfl
 | n+1=>by
  have b : ∀l:List Nat,wy (l.map λi=>D.int<|v i)=ej (l.map λi=>v i != 0):=by
   intro l
   induction l with
   | nil=>rfl
   | cons a l z=>simp[wy,As,z]
  exact b _
theorem XB(I:kv p (h+w) r B l)(O:r<=lim)(U:s<=r)(C : ∀k,k<s->l k<h)(h2 : ∀k,s<=k->k<r->h<=l k) :
 xi [.int h,.lst (jd r (h+w) B)]=ej (.own<|jd (r - s) w λk j=>B (s+k)<|h+j):=by
 have d:zP (.nm 0) (jU<|sB<|Aw<|zW<|YS (zc 0) Yv<|t6<|zc 1) (YS (zc 0) (t6<|zc 1) Yv) [Cell.no,Cell.val (.int h)] (jd r (h+w) B)=ej (((Me r).filter λk=>decide<|h<=l k).map λk=>D.tup<|zH w λj=>B k<|h+j):=by
  unfold jd;refine jD (λk=>decide<|h<=l k) _ _ λk z=>⟨_,rfl,?_,λY=>?_⟩
  ·have z:=Mg.mp z
   simp[bK,au];by_cases e:h<=l k
   ·simp[e]
    intro i f;have:=I.pb k i z ⋯;simp[this]
   ·simp[e]
    exact⟨l k,by omega,by rw[I.one k z];decide⟩
  ·simp[bJ]
 rw[WQ U (λk z=>decide_eq_false (by have:=C k z;omega)) (λk a b=>decide_eq_true<|h2 k a b)]at d;simp[xi,jr,jc,O,zZ,xA,Ml,d];unfold jd;rfl
def D6(p:Int)(h w:Nat)(f:UV)(v:Vc):Prop:=∀i,i<h->zm (λj=>f i j*v j) w%p=0
theorem nI{f:UV}{v:Vc}(O:Span p (h+w) (f9 w λj=>vj h (λi=>f i j)<|qg j) v) : ∀i,i<h->v i%p=zm (λj=>f i j*v (h+j)) w%p:=by
 induction O with
 | @zero v z=>
  intro i a;rw[z i ⋯];have:zm (λj=>f i j*v (h+j)) w%p=zm (λ_=>0) w%p:=zS λj U=>by rw[Mt,z (h+j) ⋯];simp
  rw[this,zV];rfl
 | @step v u g c Y l I k=>
  intro i a;obtain⟨m,e,rfl⟩:=Y;rw[I i ⋯,Nn,k i a,<- Nn];have d:zm (λj=>f i j*v (h+j)) w%p=zm (λj=>f i j*u (h+j)+c*(f i j*qg m j)) w%p:=zS λj U=>by rw[Mt,I (h+j) ⋯,<- Mt];simp only[qM];rw[PF,Ov]
  rw[d,jI,jF,zT (f:=λj=>f i j*qg m j) e λj _ b=>by simp[qg,MV b]];simp[qg,qt a]
theorem aj(I:Pr p)(w:Nat):kv p w w qg id where
 lt:=λk z=>z
 mono:=λk m z _=>z
 one:=λk _=>UJ rfl
 pb:=λk j _ O=>UY (by simp only[id]at O;omega)
 xg:=λk m _ _ U=>UY (by simp only[id];omega)
 o5:=λk i _ _=>by have:=I.two;unfold qg;split<;>omega
theorem Span.map(t:UX)(z : ∀i,i<n'->t i<n)(I : ∀g,G g->Span p n' G' λi=>g<|t i)(O:Span p n G v):Span p n' G' λi=>v (t i):=by
 induction O with
 | @zero v U=>exact .zero λi a=>U _<|z i a
 | @step v u g c Y e b d=>exact((I _ Y).add d c).congr λi a=>b _<|z i a
theorem yZ(C:Pr p)(hh:h<=20)(hw:w<=8)(f:UV) :
 ∃q K l s,vZ [.int p,z6 h w f]=ej (.own<|jd q w K)/\kv p w q K l/\(∀v,Span p w (f9 q K) v↔D6 p h w f v)/\Rk p h w (λj i=>f i j) s/\q+s=w:=by
 have hl:=ju;have S:h<=lim:=by omega
 have y:w<=lim:=by omega
 have X:h+w<=lim:=by omega
 obtain⟨r,B,l,e,O,x⟩:=x9 C (show h+w<=100 by omega) y .L λj=>vj h (λi=>f i j)<|qg j;have Z : ∀v,Span p (h+w) (f9 r B) v->∀i,i<h->v i%p=zm (λj=>f i j*v (h+j)) w%p:=λv Y=>nI<|(x v).mp Y;have an:r<=w:=by obtain⟨r',E,G⟩:=fP C (n:=h+w) ⋯ hw λj=>vj h (λi=>f i j)<|qg j;rw[wA C ⟨B,l,O,x⟩ G];exact E
 have ap:w<=r:=by obtain⟨r',E,G⟩:=fP C (n:=w) ⋯ (show r<=8 by omega) λk j=>B k<|h+j;refine NQ (Bl C (m:=w) (W:=qg) ⟨qg,id,aj C w,λv=>Iff.rfl⟩ G λj U=>?_) E;have:=Span.map (n':=w) (G':=f9 r λk j=>B k<|h+j) (λi=>h+i) (λi a=>by omega) (λg ⟨k,I,b⟩=> .gen ⟨k,I,by rw[b]⟩)<|(x<|vj h (λi=>f i j)<|qg j).mpr (.gen ⟨j,U,rfl⟩);exact this.congr λi _=>by rw[qM]
 have er:r=w:=Nat.le_antisymm an ap;subst er;obtain⟨s,hs,N,o⟩:=Jy h O.mono;have eb:=XB O y hs N o;have b0:kv p r (r - s) (λk j=>B (s+k)<|h+j) (λk=>l (s+k) - h):={
  lt:=λk I=>by have:=O.lt (s+k) ⋯;have:=o (s+k) ⋯ ⋯;omega
  mono:=λk m I H=>by have:=O.mono (s+k) (s+m) ⋯ ⋯;have:=o (s+k) ⋯ ⋯;omega
  one:=λk I=>by have:=o (s+k) ⋯ ⋯;rw[show h+(l (s+k) - h)=l (s+k)by omega];exact O.one _ ⋯
  pb:=λk j I U=>O.pb _ _ ⋯ ⋯
  xg:=λk m I H A=>by have:=o (s+m) ⋯ ⋯;rw[show h+(l (s+m) - h)=l (s+m)by omega];exact O.xg _ _ ⋯ ⋯ ⋯
  o5:=λk i I a=>O.o5 _ _ ⋯ ⋯}
 refine⟨r - s,_,_,s,?_,b0,λv=>⟨λY=>?_,λY=>?_⟩,?_,by omega⟩
 ·have Q:=vJ f S y
  have R:=yE (n:=r) y;have M:zP (.tp [0,1]) jb (zy j3 (zc 0)<|zc 1) [Cell.no,Cell.no] ((Me r).map λj=>D.tup [.tup (zH h λi=>f i j),.tup (zH r λk=>if j=k then 1 else 0)])=ej (jd r (h+r) λj=>vj h (λi=>f i j)<|qg j):=by unfold jd;refine zw _ _ λj U=>zx rfl rfl ?_;simp[j3,X,JF];rfl
  have zp:Yu (jd r h λi j=>f j i) (jd r r λi j=>if i=j then 1 else 0)=(Me r).map λj=>D.tup [.tup (zH h λi=>f i j),.tup (zH r λk=>if j=k then 1 else 0)]:=by unfold Yu jd;rw[OP];simp
  have c1:((h:Int)+(r:Int))=((h+r:Nat):Int):=by omega
  simp only[wh]at e;rw[<- c1]at e;unfold z6 at Q R ⊢;have nl : ∀T t f γ,zP T t f γ []=ej []:=λ_ _ _ _=>rfl;simp[vZ,kE,jr,jc,jj,Q,R,zp,y,zZ,Ml,M,nl,e,eb]
 ·intro i a
  induction Y with
  | @zero v hz=>
   have:zm (λj=>f i j*v j) r%p=zm (λ_=>0) r%p:=zS λj U=>by rw[Mt,hz j U];simp
   rw[this,zV];rfl
  | @step v u g c hg hu he J=>
   obtain⟨k,I,rfl⟩:=hg;have e1:zm (λj=>f i j*v j) r%p=zm (λj=>f i j*u j+c*(f i j*B (s+k) (h+j))) r%p:=zS λj U=>by rw[Mt,he j U,<- Mt,PF,Ov]
   have P:=Z (B<|s+k) (.gen ⟨s+k,by omega,rfl⟩) i a;have e3:B (s+k) i=0:=O.pb _ _ ⋯ (by have:=o (s+k) ⋯ ⋯;omega);rw[e3]at P;rw[e1,jI,jF,Nn,J,Mt,<- P];simp
 ·
  have be:Span p (h+r) (f9 r B) (vj h (λ_=>0) v):=by
   refine(x _).mpr ((Span.sum (u:=λj=>vj h (λi=>f i j)<|qg j) v (m:=r) λj U=> .gen ⟨j,U,rfl⟩).congr λi a=>?_);rcases MK i h with z | z
   ·simp only[qt z]
    rw[zA (g:=λj=>f i j*v j) λj _=>Nx _ _,Y i z];simp
   ·obtain⟨k,rfl⟩ : ∃k,i=h+k:=⟨i - h,by omega⟩
    simp only[qM];rw[zT (f:=λj=>v j*qg j k) (i:=k) ⋯ λj _ A=>by simp[qg,A]];simp[qg]
  have co:=Js O be;refine(Span.sum (u:=λk j=>B (s+k)<|h+j) (λk=>vj h (λ_=>0) v<|l<|s+k) (m:=r - s) λk I=> .gen ⟨k,I,rfl⟩).congr λj U=>?_;have:=co (h+j) ⋯;rw[qM]at this;rw[this];obtain⟨d,rfl⟩ : ∃d,r=s+d:=⟨r - s,by omega⟩;rw[Oe];have sp : ∀(F:Nat->Int) (d:Nat),(∀k,k<s->F k=0)->zm F (s+d)=zm (λk=>F<|s+k) d:=by
   intro F d hF
   induction d with
   | zero=>
    show zm F s=0;rw[zA (g:=λ_=>0) hF,zV]
   | succ d J=>rw[<- Sf];simp only[zm];rw[J]
  rw[sp _ d λk I=>by rw[qt (N k I)];simp]
 ·
  refine⟨λk i=>B k i,l,⟨λk I=>N k I,λk m I H=>O.mono k m I ⋯,λk I=>O.one k ⋯,λk j I U=>O.pb k j ⋯ U,λk m I H A=>O.xg k m ⋯ ⋯ A,λk i I a=>O.o5 k i ⋯ ⋯⟩,λv=>⟨λY=>Y.le λg ⟨k,I,b⟩=>?_,λY=>Y.le λg ⟨j,U,b⟩=>?_⟩⟩
  ·subst b
   exact Span.map (n':=h) (G':=f9 r λj i=>f i j) (λi=>i) (λi a=>by omega) (λg ⟨j,U,b⟩=>(Span.gen (g:=λi=>f i j) ⟨j,U,rfl⟩).congr λi a=>by rw[b];simp only[qt a])<|(x<|B k).mp (.gen ⟨k,by omega,rfl⟩)
  ·subst b
   have:=Span.map (n':=h) (G':=f9 s λk i=>B k i) (λi=>i) (λi a=>by omega) (λg hZ=>by
    obtain⟨k,I,b⟩:=hZ;subst b;rcases MK k s with z | z
    ·exact .gen ⟨k,z,rfl⟩
    ·exact .zero λi a=>by rw[O.pb k i I (by have:=o k z I;omega)];simp) ((x<|vj h (λi=>f i j)<|qg j).mpr (.gen ⟨j,U,rfl⟩))
   exact this.congr λi a=>by rw[qt a]
end
section
variable{p:Int}{h w q r:Nat}
def app(f:UV)(w:Nat)(v:Vc):Vc:=λi=>zm (λj=>f i j*v j) w
theorem W6(z : ∀j,j<w->v j%p=(u j+c*g j)%p)(i:Nat):app f w v i%p=(app f w u i+c*app f w g i)%p:=by
 unfold app;have e:zm (λj=>f i j*v j) w%p=zm (λj=>f i j*u j+c*(f i j*g j)) w%p:=zS λj I=>by rw[Mt,z j I,<- Mt,PF,Ov]
 rw[e,jI,jF]
theorem bQ(z : ∀j,j<w->v j%p=0)(i:Nat):app f w v i%p=0:=by
 unfold app;have:zm (λj=>f i j*v j) w%p=zm (λ_=>0) w%p:=zS λj I=>by rw[Mt,z j I];simp
 rw[this,zV];rfl
theorem qG(z : ∀j,j<w->v j%p=u j%p)(i:Nat):app f w v i%p=app f w u i%p:=by unfold app;exact zS λj I=>by rw[Mt,z j I,<- Mt]
theorem cC(O:kv p (h+w) r B l)(S:s<=r)(J : ∀k,k<s->l k<h)(C : ∀k,s<=k->k<r->h<=l k) :
 kv p w (r - s) (λk j=>B (s+k)<|h+j) (λk=>l (s+k) - h)/\∀v,Span p w (f9 (r - s) λk j=>B (s+k)<|h+j) v↔Span p (h+w) (f9 r B) (vj h (λ_=>0) v):=by
 refine⟨{
  lt:=λk I=>by have:=O.lt (s+k) ⋯;have:=C (s+k) ⋯ ⋯;omega
  mono:=λk m I t=>by have:=O.mono (s+k) (s+m) ⋯ ⋯;have:=C (s+k) ⋯ ⋯;omega
  one:=λk I=>by have:=C (s+k) ⋯ ⋯;rw[show h+(l (s+k) - h)=l (s+k)by omega];exact O.one _ ⋯
  pb:=λk j I o=>O.pb _ _ ⋯ ⋯
  xg:=λk m I t A=>by have:=C (s+m) ⋯ ⋯;rw[show h+(l (s+m) - h)=l (s+m)by omega];exact O.xg _ _ ⋯ ⋯ ⋯
  o5:=λk i I a=>O.o5 _ _ ⋯ ⋯},λv=>⟨λU=>?_,λU=>?_⟩⟩
 ·induction U with
  | @zero v x=>
   refine .zero λi a=>?_;rcases MK i h with z | z
   ·rw[qt z];simp
   ·obtain⟨k,rfl⟩ : ∃k,i=h+k:=⟨i - h,by omega⟩
    rw[qM];exact x k ⋯
  | @step v u g c n E f Y=>
   obtain⟨k,I,rfl⟩:=n;refine .step (g:=B<|s+k) (c:=c) ⟨s+k,by omega,rfl⟩ Y λi a=>?_;rcases MK i h with z | z
   ·rw[qt z,qt z,O.pb (s+k) i ⋯ (by have:=C (s+k) ⋯ ⋯;omega)];simp
   ·obtain⟨j,rfl⟩ : ∃k,i=h+k:=⟨i - h,by omega⟩
    rw[qM,qM];exact f j ⋯
 ·have b:=Js O U
  refine(Span.sum (u:=λk j=>B (s+k)<|h+j) (λk=>vj h (λ_=>0) v<|l<|s+k) (m:=r - s) λk I=> .gen ⟨k,I,rfl⟩).congr λj o=>?_;have:=b (h+j) ⋯;rw[qM]at this;rw[this];obtain⟨d,rfl⟩ : ∃d,r=s+d:=⟨r - s,by omega⟩;rw[Oe];have y : ∀(F:Nat->Int) (d:Nat),(∀k,k<s->F k=0)->zm F (s+d)=zm (λk=>F<|s+k) d:=by
   intro F d e
   induction d with
   | zero=>
    show zm F s=0;rw[zA (g:=λ_=>0) e,zV]
   | succ d Y=>rw[<- Sf];simp only[zm];rw[Y]
  rw[y _ d λk I=>by rw[qt (J k I)];simp]
end
section
variable{p:Int}{h w q:Nat}
noncomputable def xp(h w:Nat)(f:UV)(g:Nat->Vc):Nat->Vc:=λm=>if m<w then vj h (λi=>f i m) (qg m)else vj h (g<|m - w) (λ_=>0)
theorem iU(f:UV)(g:Nat->Vc):jd w (h+w) (λj=>vj h (λi=>f i j)<|qg j)++jd q (h+w) (λk=>vj h (g k) λ_=>0)=jd (w+q) (h+w) (xp h w f g):=by
 unfold jd;rw[RM,NA,Nb];congr 1
 ·refine MA λm a=>?_
  unfold xp;rw[UJ (Mg.mp a)]
 ·refine MA λm a=>?_
  simp only[Function.comp];unfold xp;rw[UY ⋯,Oe]
theorem Zs(f:UV)(z:j<w)(i:Nat):app f w (qg j) i=f i j:=by unfold app;rw[zT (f:=λk=>f i k*qg j k) z λk _ I=>by simp[qg,MV I]];simp[qg]
theorem gI(I:Span p (h+w) (f9 (w+q)<|xp h w f g) z):Span p h (f9 q g) λi=>z i - app f w (λj=>z<|h+j) i:=by
 induction I with
 | @zero z I=>
  refine .zero λi a=>?_;rw[B3,I i ⋯,bQ (p:=p) (λj l=>I (h+j) ⋯) i];simp
 | @step z u n c k r Y d=>
  obtain⟨m,o,rfl⟩:=k;have e:=λi=>W6 (p:=p) (w:=w) (f:=f) (u:=λj=>u<|h+j) (g:=λj=>xp h w f g m<|h+j) (v:=λj=>z<|h+j) (c:=c) (λj l=>Y (h+j) ⋯) i;have b : ∀i,i<h->(z i - app f w (λj=>z<|h+j) i)%p=((u i - app f w (λj=>u<|h+j) i)+c*(xp h w f g m i - app f w (λj=>xp h w f g m<|h+j) i))%p:=λi a=>by rw[B3,Y i ⋯,e i,<- B3];congr 1;rw[Int.mul_sub];omega
  rcases MK m w with O | O
  ·refine d.congr λi a=>?_
   rw[b i a];have t:app f w (λj=>xp h w f g m<|h+j) i=f i m:=by
    have:(λj=>xp h w f g m<|h+j)=qg m:=by funext j;unfold xp;rw[UJ O,qM]
    rw[this,Zs f O]
   have U:xp h w f g m i=f i m:=by unfold xp;rw[UJ O,qt a]
   rw[t,U];simp
  ·refine .step (g:=g<|m - w) (c:=c) ⟨m - w,by omega,rfl⟩ d λi a=>?_
   rw[b i a];have t:app f w (λj=>xp h w f g m<|h+j) i=0:=by
    have:(λj=>xp h w f g m<|h+j)=λ_=>0:=by funext j;unfold xp;rw[UY ⋯,qM]
    rw[this];unfold app;simp[zV]
   have U:xp h w f g m i=g (m - w) i:=by unfold xp;rw[UY ⋯,qt a]
   rw[t,U];simp
theorem uN(I:Span p h (f9 q g) y):Span p (h+w) (f9 (w+q)<|xp h w f g) (vj h y λ_=>0):=by
 induction I with
 | @zero y O=>
  refine .zero λi a=>?_;rcases MK i h with z | z
  ·rw[qt z];exact O i z
  ·obtain⟨k,rfl⟩ : ∃k,i=h+k:=⟨i - h,by omega⟩
   rw[qM];simp
 | @step y u d c U m Y b=>
  obtain⟨k,l,rfl⟩:=U;refine .step (g:=xp h w f g<|w+k) (c:=c) ⟨w+k,by omega,rfl⟩ b λi a=>?_;have e:xp h w f g (w+k)=vj h (g k) λ_=>0:=by unfold xp;rw[UY ⋯,Oe]
  rw[e];rcases MK i h with z | z
  ·rw[qt z,qt z,qt z];exact Y i z
  ·obtain⟨j,rfl⟩ : ∃k,i=h+k:=⟨i - h,by omega⟩
   rw[qM,qM,qM];simp
theorem Yq(hp:Pr p)(hh:h<=20)(hw:w<=20)(hq:q<=100)(f:UV)(g:Nat->Vc) :
 ∃r B l,kE [.int p,z6 h w f,.lst (jd q h g)]=ej (.own<|jd r w B)/\kv p w r B l/\∀v,Span p w (f9 r B) v↔Span p h (f9 q g) (app f w v):=by
 have hl:=ju;have S:h<=lim:=by omega
 have I:w<=lim:=by omega
 have U:h+w<=lim:=by omega
 have W:q<=lim:=by omega
 have Y:w+q<=lim:=by omega
 obtain⟨r,B,l,e,O,F⟩:=x9 hp (show h+w<=100 by omega) Y .L<|xp h w f g;have as:r<=h+w:=Wy O.mono O.lt;obtain⟨s,t,A,C⟩:=Jy h O.mono;have K:=XB O ⋯ t A C;obtain⟨H,Q⟩:=cC O t A C;refine⟨r - s,_,_,?_,H,λv=>(Q v).trans ((F _).trans ⟨λx=>?_,λx=>?_⟩)⟩
 ·have y:=vJ f S I
  have E:=yE (n:=w) I;have d:zP (.tp [0,1]) jb (zy j3 (zc 0)<|zc 1) [Cell.no,Cell.no] ((Me w).map λj=>D.tup [.tup (zH h λi=>f i j),.tup (zH w λk=>if j=k then 1 else 0)])=ej (jd w (h+w) λj=>vj h (λi=>f i j)<|qg j):=by unfold jd;refine zw _ _ λj o=>zx rfl rfl ?_;simp[j3,U,JF];rfl
  have R:Yu (jd w h λi j=>f j i) (jd w w λi j=>if i=j then 1 else 0)=(Me w).map λj=>D.tup [.tup (zH h λi=>f i j),.tup (zH w λk=>if j=k then 1 else 0)]:=by unfold Yu jd;rw[OP];simp
  have J:inR (w:Int)=eA:=Xc I;have zr:xJ (.tup [.int 0]) (.int w)=ej (.tup<|zH w λ_=>0):=by
   show(if [D.int 0].length*(w:Int).toNat<=lim/\inR (w:Int)=eA then ej (D.tup (Ml (w:Int).toNat [D.int 0]).flatten)else eF)=_;rw[UJ ⟨by simpa using I,J⟩];congr 2;rw[NY];clear d R E y K H Q F O e J Y U I hw hq A C t as
   induction w with
   | zero=>rfl
   | succ w ih=>rw[List.replicate_succ',List.flatten_append,ih];unfold zH;rw[Oc,NA];rfl
  have M:zP (.nm 0) jb (zy j3 (zc 0)<|zy xJ (qW<|zb (zu<|.int 0) zI)<|eL (zh 1)<|zu<|.int 1) [Cell.no,Cell.val (z6 h w f)] (jd q h g)=ej (jd q (h+w) λk=>vj h (g k) λ_=>0):=by unfold jd;refine zw _ _ λk P=>zx rfl rfl ?_;have sq:j5 (z6 h w f)=ej (.T,[.int h,.int w,.tup (jd h w f)]):=rfl;simp[sq,zr,j3,U,JF]
  have Z:((h:Int)+(w:Int))=((h+w:Nat):Int):=by omega
  simp only[wh]at e;rw[<- Z,<- iU]at e;have sq:j5 (z6 h w f)=ej (.T,[.int h,.int w,.tup (jd h w f)]):=rfl;unfold z6 at y E M ⊢;simp[kE,jr,jc,jj,y,E,R,I,W,Y,zZ,xA,Ml,d,M,e,K]
 ·have:=gI x
  refine(this.smul (-1)).congr λi N=>?_;congr 1;show app f w v i = -1*(vj h (λ_=>0) v i - app f w (λj=>vj h (λ_=>0) v<|h+j) i);rw[qt N,show(λj=>vj h (λ_=>0) v<|h+j)=v from funext λj=>qM j];omega
 ·have a:=Span.sum (p:=p) (n:=h+w) (G:=f9 (w+q)<|xp h w f g) (u:=λj=>xp h w f g j) v (m:=w) λj o=> .gen ⟨j,by omega,rfl⟩
  have b:=uN (w:=w) (f:=f) x;refine(b.add a (-1)).congr λi N=>?_;congr 1;rcases MK i h with z | z
  ·rw[qt z,qt z]
   have:zm (λk=>v k*xp h w f g k i) w=app f w v i:=by unfold app;exact zA λk P=>by unfold xp;rw[UJ P,qt z,Nx]
   rw[this];omega
  ·obtain⟨k,rfl⟩ : ∃k,i=h+k:=⟨i - h,by omega⟩
   rw[qM,qM];have:zm (λj=>v j*xp h w f g j (h+k)) w=v k:=by rw[zT (f:=λj=>v j*xp h w f g j (h+k)) (i:=k) ⋯ λj o X=>by unfold xp;rw[UJ o,qM];simp[qg,X]];unfold xp;rw[UJ (show k<w by omega),qM];simp[qg]
   rw[this];simp
end
def l8(i j:Nat):Int:=if i=j then 1 else 0
noncomputable def XT(p:Int)(n:Nat)(f g:UV):Prop:=∀i j,i<n->j<n->zm (λk=>f i k*g k j) n%p=l8 i j%p
theorem wG{p x y X Y:Int}(C:x%p=X%p)(I:y%p=Y%p):(x*y)%p=(X*Y)%p:=by rw[Mt,C,I,<- Mt]
section
variable{p:Int}{n:Nat}{f g f' g':UV}
theorem cf{a b:Int}{u:Nat}(U:a*b%p=1%p)(C:XT p n f g)(Y : ∀i k,i<n->k<n->f' i k%p=((if i=u then a else 1)*f i k)%p)(J : ∀k j,k<n->j<n->g' k j%p=((if j=u then b else 1)*g k j)%p):XT p n f' g':=by
 intro i j d z;rw[zS (g:=λk=>((if i=u then a else 1)*(if j=u then b else 1))*(f i k*g k j)) λk I=>by rw[wG (Y i k d I) (J k j I z)];congr 1;rw[NB,NB];congr 1;rw[Ov],jF,Mt,C i j d z,<- Mt]
 unfold l8;by_cases e:i=j
 ·subst e
  by_cases O:i=u
  ·simp only[UJ O,if_true,Ri];exact U
  ·simp only[UY O,if_true];rfl
 ·simp only[UY e,OD]
theorem V4{a b:Int}{u:Nat}(U:b*a%p=1%p)(C:XT p n g f)(Y : ∀i k,i<n->k<n->f' i k%p=((if i=u then a else 1)*f i k)%p)(J : ∀k j,k<n->j<n->g' k j%p=((if j=u then b else 1)*g k j)%p):XT p n g' f':=by
 intro i j d z;rw[<- C i j d z];refine zS λk I=>?_;rw[wG (J i k d I) (Y k j I z)];by_cases O:k=u
 ·simp only[UJ O]
  rw[show b*g i k*(a*f k j)=(b*a)*(g i k*f k j)by rw[NB,NB];congr 1;rw[Ov],Mt,U,<- Mt,Pc]
 ·simp only[UY O,Pc]
theorem mC{t:Int}{u o:Nat}(hu:u<n)(ho:o<n)(J:u≠o)(C:XT p n f g)(Z : ∀i k,i<n->k<n->f' i k%p=(f i k+(if i=u then t else 0)*f o k)%p)(hg : ∀k j,k<n->j<n->g' k j%p=(g k j+(if j=o then -t else 0)*g k u)%p):XT p n f' g':=by
 intro i j m I;generalize ea:(if i=u then t else 0)=a at Z;have s : ∀k,k<n->f' i k%p=(f i k+(if i=u then t else 0)*f o k)%p:=λk z=>by have:=Z i k m z;exact this
 rw[zS (g:=λk=>f i k*g k j+(if j=o then -t else 0)*(f i k*g k u)+((if i=u then t else 0)*(f o k*g k j)+((if i=u then t else 0)*(if j=o then -t else 0))*(f o k*g k u))) λk z=>by
  rw[wG (s k z) (hg k j z I)];congr 1;generalize (if i=u then t else 0)=a;generalize (if j=o then -t else 0)=b;rw[Sj,PF,PF];congr 1
  ·congr 1;rw[Ov]
  ·congr 1
   ·rw[NB]
   ·rw[NB,NB];congr 1;rw[Ov]]
 rw[jI,jI,jI,jF,jF,jF];have A:=C i j m I;have B:=C i u m hu;have E:=C o j ho I;have F:=C o u ho hu;have O : ∀c S d:Int,S%p=d%p->(c*S)%p=(c*d)%p:=λc S d h=>wG rfl h;have ad : ∀x y X Y:Int,x%p=X%p->y%p=Y%p->(x+y)%p=(X+Y)%p:=λx y X Y a b=>by rw[Nn,a,b,<- Nn]
 rw[ad _ _ _ _ (ad _ _ _ _ A<|O _ _ _ B) (ad _ _ _ _ (O _ _ _ E)<|O _ _ _ F)];congr 1;unfold l8;have r : ¬o=u:=λe=>J e.symm;by_cases l:i=u
 ·by_cases U:j=o
  ·subst l U;simp[J,r];omega
  ·have w : ¬o=j:=λe=>U e.symm
   simp[l,U,w,r]
 ·simp[l]
theorem eI{t:Int}{u o:Nat}(U:u<n)(Y:o<n)(C:u≠o)(J:XT p n g f)(S : ∀i k,i<n->k<n->f' i k%p=(f i k+(if i=u then t else 0)*f o k)%p)(Z : ∀k j,k<n->j<n->g' k j%p=(g k j+(if j=o then -t else 0)*g k u)%p):XT p n g' f':=by
 intro i j b O;rw[<- J i j b O];rw[zS (g:=λk=>g i k*f k j+((if k=u then t*(g i u*f o j)else 0)+(if k=o then -t*(g i u*f o j)else 0))) λk z=>by
  rw[wG (Z i k b z) (S k j z O)];congr 1;by_cases a:k=u
  ·subst a
   have I : ¬k=o:=C;simp only[UY I,if_true,Pb,Pd,PF];rw[Ov]
  ·by_cases I:k=o
   ·subst I
    simp only[UY a,if_true,Pb,Pd,Int.zero_add,Sj];rw[NB]
   ·simp only[UY a,UY I,Pb,Pd]]
 rw[jI,jI,zT (f:=λk=>if k=u then t*(g i u*f o j)else 0) U λk _ z=>UY z,zT (f:=λk=>if k=o then -t*(g i u*f o j)else 0) Y λk _ z=>UY z];simp only[if_true];congr 1;rw[Int.neg_mul];omega
end
def j4(n:Nat)(f:UV):List D:=(Me n).map λi=>D.lst<|zH n<|f i
def qQ(n:Nat)(f:UV):List (List D):=(Me n).map λi=>zH n<|f i
theorem fL(n f):(qQ n f).map D.lst=j4 n f:=by simp[qQ,j4]
@[simp] theorem fM(n f):(j4 n f).length=n:=by simp[j4]
@[simp] theorem EL(f)(C:i<(j4 n f).length):(j4 n f)[i] = .lst (zH n<|f i):=by simp[j4]
@[simp] theorem Az(r):xA (.nest r) = .no:=rfl
@[simp] theorem Ck(r):xA (.own r) = .no:=rfl
@[simp] theorem Cj(d):xA (.val d) = .val d:=rfl
@[simp] theorem EY:xA .no = .no:=rfl
theorem Xl(J:a<n)(v z:Vc)(x:Int)(C:z a=x)(I : ∀i,i<n->i≠a->z i=v i):(zH n v).set a (.int x)=zH n z:=by
 apply NX;intro i;rw[Oi];by_cases b:i<n
 ·by_cases e:a=i
  ·subst e;simp[J,zH,C]
  ·have:=I i b (MV e)
   simp[e,zH,b,this]
 ·have d:(zH n v)[i]? = eF:=by simp[zH];omega
  have f:(zH n z)[i]? = eF:=by simp[zH];omega
  rw[d,f,UY ⋯]
theorem YV(I:u<n)(f C:UV)(v:Vc)(J : ∀j,j<n->C u j=v j)(O : ∀i j,i<n->i≠u->j<n->C i j=f i j):(j4 n f).set u (.lst<|zH n v)=j4 n C:=by
 apply NX;intro i;rw[Oi];by_cases a:i<n
 ·by_cases e:u=i
  ·subst e;simp[I,j4];exact xW λj z=>(J j z).symm
  ·simp[e,j4,a];exact xW λj z=>(O i j a (MV e) z).symm
 ·have b:(j4 n f)[i]? = eF:=by simp[j4];omega
  have d:(j4 n C)[i]? = eF:=by simp[j4];omega
  rw[b,d,UY ⋯]
theorem ZQ : ∀(l:List Nat),(∀k∈l,∃d C m,fx (vb γ j i<|R k)=ej d/\gx (vb γ j i<|R k)=ej (.int C)/\k6 (R k).length C=ej m/\(R k).set m d=R' k)->kz j i gx fx γ (l.map R)=ej (l.map R')
 | [],_=>rfl
 | k::l,h=>by obtain⟨d,C,m,a,b,z,I⟩:=h k Mx;have O:=ZQ l λx e=>h x<|Ms _ e;simp[kz,a,b,z,I,O]
theorem Xp : ∀(l:List Nat),(∀k∈l,∃γ1,xH T (g k) γ=ej γ1/\f γ1=ej (R k))->vB T f γ (l.map g)=ej (l.map R)
 | [],_=>rfl
 | k::l,h=>by obtain⟨γ1,a,b⟩:=h k Mx;have z:=Xp l λx d=>h x<|Ms _ d;simp[vB,a,b,z]
section
variable{p:Int}{n:Nat}
structure Pair(p:Int)(n:Nat)(f g:UV):Prop where
 bf : ∀i j,i<n->j<n->0<=f i j/\f i j<p
 bg : ∀i j,i<n->j<n->0<=g i j/\g i j<p
 fg:XT p n f g
 gf:XT p n g f
end
@[simp] theorem Bk(n f):(qQ n f).length=n:=by simp[qQ]
def ja(w:UK)(k:Nat):Nat:=if w k then k+1 else k
def jh(w:UK)(k:Nat):Nat:=if w k then k else k+1
theorem yz(w:UK)(wd:UX)(k):l4 w wd k=wd (jh w k):=by unfold l4 jh;split<;>rfl
theorem yk(w:UK)(wd:UX)(k):l5 w wd k=wd (ja w k):=by unfold l5 ja;split<;>rfl
theorem ZW(w:UK)(h:k<m):ja w k<m+1:=by unfold ja;split<;>omega
theorem ZS(w:UK)(h:k<m):jh w k<m+1:=by unfold jh;split<;>omega
theorem wx(w:UK)(k:Nat):qJ [.int k,.str (qT<|il<|w k)]=ej (.val<|.int (ja w k:Nat)):=by have q:=WS<|w k;cases h:w k<;>rw[h]at q<;>simp[qJ,jr,jc,ja,q,h]
theorem bY(w:UK)(k:Nat):wb [.int k,.str (qT<|il<|w k)]=ej (.val<|.int (jh w k:Nat)):=by have q:=WS<|w k;cases h:w k<;>rw[h]at q<;>simp[wb,jr,jc,jh,q,h]
def qN(m:Nat)(wd:UX)(f:UW):List D:=(Me m).map λk=>z6 (wd k) (wd k)<|f k
@[simp] theorem eW(m wd f):(qN m wd f).length=m:=by simp[qN]
@[simp] theorem EE(wd f)(h:k<(qN m wd f).length):(qN m wd f)[k]=z6 (wd k) (wd k) (f k):=by simp[qN]
noncomputable def qb(p:Int)(w:UK)(wd:UX)(f g T:UW)(k i j:Nat):Int:=
 zm (λb=>g (ja w k) b j*(zm (λa=>T k a b*f (jh w k) i a) (wd<|jh w k)%p)) (wd<|ja w k)%p
section
variable{p:Int}{m:Nat}{w:UK}{wd:UX}{f g T:UW}
theorem wM(O:0<p)(S:p<=7)(J:m<=900)(z : ∀k,wd k<=lim){k:Nat}(U:k<m)(C : ∀i j,i<l4 w wd k->j<l5 w wd k->0<=T k i j/\T k i j<p)(hg : ∀k i j,k<m+1->i<wd k->j<wd k->0<=g k i j/\g k i j<p) :
 qI [.int p,.int k,qX w wd T k,.lst<|qN (m+1) wd f,.lst (qN (m+1) wd g)]=ej (.val<|qX w wd (qb p w wd f g T) k):=by
 have e:=wx w k;have l:=bY w k;have Y:=ZW w U;have le:=ZS w U;have n:j5 (qX w wd T k)=ej (.T,[.str (qT<|il<|w k),z6 (wd<|jh w k) (wd<|ja w k) (T k)]):=by unfold qX;rw[yz,yk];rfl
 have d:qX w wd (qb p w wd f g T) k = .tup [.str (qT<|il<|w k),z6 (wd<|jh w k) (wd<|ja w k) (qb p w wd f g T k)]:=by unfold qX;rw[yz,yk]
 have lt : ∀{x:Int},0<=x/\x<p->0<=x/\x<100:=λh=>by omega
 have DS:=vI (f<|jh w k) (T k) O (z<|jh w k) (z<|jh w k) (z<|ja w k) λi j a I=>lt (C i j (by rw[yz];exact a)<|by rw[yk];exact I);have DT:=vI (λi j=>zm (λb=>T k b j*f (jh w k) i b) (wd<|jh w k)%p) (g<|ja w k) O (z<|jh w k) (z<|ja w k) (z<|ja w k) λi j a I=>lt<|hg _ i j Y a I;simp[qI,jr,jc,jj,n,e,l,Y,le,DS,DT];rw[d];rfl
theorem ZR(m:Nat)(F:Nat->D):qF ((Me m).map F)=(Me m).map λ(k:Nat)=>D.tup [.int k,F k]:=by unfold qF;rw[MF,Nz];apply MA;intro k z;have z:=Mg.mp z;simp[z]
theorem Ys(O:0<p)(U:p<=7)(S:m<=900)(Y : ∀k,wd k<=lim)(C : ∀k i j,k<m->i<l4 w wd k->j<l5 w wd k->0<=T k i j/\T k i j<p)(J : ∀k i j,k<m+1->i<wd k->j<wd k->0<=g k i j/\g k i j<p) :
 wa [jA p m w wd T,.lst<|qN (m+1) wd f,.lst (qN (m+1) wd g)]=ej (.val<|jA p m w wd<|qb p w wd f g T):=by
 have h:=ju;have a:m<=lim:=by omega
 have I:j5 (jA p m w wd T)=ej (.T,[.int p,.tup<|zH (m+1) λk=>(wd k:Int),.tup (jN m w wd T)]):=rfl;have b:qF (jN m w wd T)=(Me m).map λ(k:Nat)=>D.tup [.int k,qX w wd T k]:=ZR m _;have d:zP (.tp [0,1]) jb (zD qI<|zb (eL (zh 2)<|zu<|.int 0)<|zb (zc 0)<|zb (zc 1)<|zb (zc 3)<|zb (zc 4) zI) [Cell.no,Cell.no,Cell.val<|jA p m w wd T,Cell.val<|.lst<|qN (m+1) wd f,Cell.val (.lst<|qN (m+1) wd g)] ((Me m).map λ(k:Nat)=>D.tup [.int k,qX w wd T k])=ej (jN m w wd<|qb p w wd f g T):=by unfold jN;refine zw _ _ λk z=>zx rfl rfl ?_;have z:=Mg.mp z;have e:=wM (f:=f) (g:=g) O U S Y z (C k · · z) J;simp[I,e]
 simp only[wa,jr,jc];rw[jj];simp[I,XF,b,a,zZ,xA,Ml];rw[d];simp[I,jA]
theorem V5(k i j:Nat):zm (λa=>f (jh w k) i a*(zm (λb=>T k a b*g (ja w k) b j) (wd<|ja w k)%p)) (wd<|jh w k)%p=qb p w wd f g T k i j:=by unfold qb;rw[JV];refine congrArg (· % p)<|zA λb _=>?_;rw[Nx,zA (g:=λa=>T k a b*f (jh w k) i a) λa _=>Nx _ _]
end
structure gR where
 s:Nat
 n:Nat
 v:Nat->Vc
def gR.has(b:gR)(r:Nat):Bool:=decide (b.s<=r) && decide (r<b.s+b.n)
theorem m4{b:gR}{r:Nat}:b.has r=eA↔b.s<=r/\r<b.s+b.n:=by simp[gR.has]
def ma:gR:=⟨0,0,λ_ _=>0⟩
structure ri(p:Int)(w:UK)(wd:UX)(T:UW)(k:Nat)(b:gR):Prop where
 n1:1<=b.n
 le:b.s+b.n<=k+1
 o5 : ∀r i,b.has r=eA->i<wd r->0<=b.v r i/\b.v r i<p
 arr : ∀j,j<k->b.has (ja w j)=eA->∀i,i<wd (jh w j)->app (T j) (wd<|ja w j) (b.v<|ja w j) i%p=(if b.has (jh w j)=eA then b.v (jh w j) i else 0)%p
noncomputable def Ord(w:UK)(a b:gR):Prop:=(a.s<b.s->w (b.s - 1)=eA)/\(b.s<a.s->w (a.s - 1)=eK)
def IS(C:List gR)(r:Nat):Vc->Prop:=λg=>∃b,b∈C/\b.has r=eA/\g=b.v r
noncomputable def sh(p:Int)(A:Nat->gR)(N:Nat)(t:Vc)(r:Nat):Vc:=λc=>zm (λj=>if (A j).has r=eA then t j*(A j).v r c else 0) N%p
def G6(p:Int)(A:Nat->gR)(N:Nat)(t:Vc)(i:Nat):gR:=⟨(A i).s,(A i).n,sh p A N t⟩
section
variable{p:Int}{w:UK}{wd:UX}{T:UW}{k N:Nat}{A:Nat->gR}
theorem vF(f:UV)(h:Nat)(t:Vc)(u:Nat->Vc)(n:Nat)(i:Nat):app f h (λc=>zm (λj=>t j*u j c) n) i=zm (λj=>t j*app f h (u j) i) n:=by
 unfold app;have e:zm (λj=>f i j*zm (λk=>t k*u k j) n) h=zm (λj=>zm (λk=>t k*(f i j*u k j)) n) h:=zA λj _=>by rw[<- jF];exact zA λk _=>by rw[<- NB,<- NB,Nx (f i j)]
 rw[e,xl];exact zA λj _=>jF ..
theorem uD(c:Prop) [Decidable c](x y:Int):(if c then x*y else 0)=x*(if c then y else 0):=by split<;>simp
theorem lM(f:UV)(h r:Nat)(t:Vc)(i:Nat):app f h (sh p A N t r) i%p=zm (λj=>t j*(if (A j).has r=eA then app f h ((A j).v r) i else 0)) N%p:=by
 have e:app f h (sh p A N t r) i%p=app f h (λc=>zm (λj=>t j*(if (A j).has r=eA then (A j).v r c else 0)) N) i%p:=qG (λc _=>by unfold sh;rw[MM];congr 1;exact zA λj _=>uD ..) i
 rw[e,vF];congr 1;refine zA λj _=>?_;congr 1;by_cases z:(A j).has r=eA
 ·simp only[UJ z]
 ·simp only[UY z]
  unfold app;simp[zV]
theorem Co(Z:0<p)(C : ∀j,j<N->ri p w wd T k (A j))(hk : ∀j,j<N->(A j).has k=eA){t:Vc}{i:Nat}(J:i<N)(S : ∀c,i<c->c<N->Ord w (A i) (A c))(tz : ∀c,c<i->t c=0) :
 ri p w wd T k (G6 p A N t i):=by
 refine⟨(C i J).n1,(C i J).le,λr c _ _=>⟨Na _ ⋯,MN _ Z⟩,λj l O c h=>?_⟩;have O:(A i).has (ja w j)=eA:=O;show app (T j) (wd<|ja w j) (sh p A N t<|ja w j) c%p=(if (A i).has (jh w j)=eA then sh p A N t (jh w j) c else 0)%p;rw[lM];have g : ∀I,I<N->t I≠0->((A i).has (jh w j)=eA->(A I).has (jh w j)=eA->(A I).has (ja w j)=eA)/\((A i).has (jh w j)=eK->(A I).has (ja w j)=eA->(A I).has (jh w j)=eK):=λI U d=>by
  have y:=m4.mp<|hk i J;have B:=m4.mp<|hk I U;have Y:i<=I:=Nat.not_lt.mp λz=>d<|tz I z;rcases Nat.lt_or_eq_of_le Y with Y | Y
  ·obtain⟨u,x⟩:=S I Y U
   have O:=m4.mp O;cases hw:w j with
   | false=>
    have b:ja w j=j:=by unfold ja;rw[hw];rfl
    have e:jh w j=j+1:=by unfold jh;rw[hw];rfl
    rw[b]at O;rw[b,e];refine⟨λ_ q=>m4.mpr ?_,λq _=>?_⟩
    ·have q:=m4.mp q
     refine⟨Nat.not_lt.mp λz=>?_,by omega⟩;have f:(A I).s=j+1:=by omega
     have:=u ⋯;rw[f]at this;simp[hw]at this
    ·exfalso
     have:(A i).has (j+1)=eA:=m4.mpr ⋯;rw[this]at q;cases q
   | true=>
    have b:ja w j=j+1:=by unfold ja;rw[hw];rfl
    have e:jh w j=j:=by unfold jh;rw[hw];rfl
    rw[b]at O;rw[b,e];refine⟨λ_ q=>m4.mpr ?_,λq _=>?_⟩
    ·have q:=m4.mp q
     omega
    ·cases a:(A I).has j with
     | false=>rfl
     | true=>
      exfalso;have a:=m4.mp a;have f:(A i).s=j+1:=by
       have : ¬((A i).s<=j):=λz=>by have:(A i).has j=eA:=m4.mpr ⋯;rw[this]at q;cases q
       omega
      have:=x ⋯;rw[f]at this;simp[hw]at this
  ·subst Y
   exact⟨λ_ _=>O,λq _=>q⟩
 have m:zm (λI=>t I*(if (A I).has (ja w j)=eA then app (T j) (wd<|ja w j) ((A I).v (ja w j)) c else 0)) N%p
  = zm (λI=>if (A i).has (jh w j)=eA then (if (A I).has (jh w j)=eA then t I*(A I).v (jh w j) c else 0)else 0) N%p:=zS λI U=>by
  by_cases d:t I=0
  ·simp[d]
  obtain⟨n,o⟩:=g I U d;cases a:(A i).has (jh w j)with
  | false=>
   cases hy:(A I).has (ja w j)with
   | false=>simp
   | true=>
    have q:=(C I U).arr j l hy c h;rw[o a hy]at q;simp only[if_true];rw[Mt,q];simp
  | true=>
   cases hy:(A I).has (ja w j)with
   | false=>
    cases hz:(A I).has (jh w j)with
    | false=>simp
    | true=>rw[n a hz]at hy;cases hy
   | true=>
    have q:=(C I U).arr j l hy c h;simp only[if_true];rw[Mt,q,<- Mt];congr 1;cases hz:(A I).has (jh w j)<;>simp
 rw[m];cases a:(A i).has (jh w j)with
 | false=>simp[zV]
 | true=>
  simp only[if_true];unfold sh;rw[MM]
theorem oh{G':Vc->Prop}{r n:Nat}{A':Nat->gR}(t:Nat->Vc)(C : ∀i,i<N->t i i=1)(Z : ∀i c,i<N->c<i->t i c=0)
 (J : ∀i,i<N->(A i).has r=eA->Span p n G' ((A' i).v r)) (S : ∀i,i<N->(A i).has r=eA->∀c,c<n->(A' i).v r c%p=sh p A N (t i) r c%p) :
 ∀i,i<N->(A i).has r=eA->Span p n G' ((A i).v r):=by
 have f : ∀d i,N - i<=d->i<N->(A i).has r=eA->Span p n G' ((A i).v r):=by
  intro d
  induction d with
  | zero=>intro i e a;omega
  | succ d w=>
   intro i e a O;have u:Span p n G' λc=>zm (λj=>(if j=i then 0 else if (A j).has r=eA then t i j else 0)*(A j).v r c) N:=by
    have gen : ∀M,M<=N->Span p n G' λc=>zm (λj=>(if j=i then 0 else if (A j).has r=eA then t i j else 0)*(A j).v r c) M:=by
     intro M
     induction M with
     | zero=>intro _;exact .zero λc _=>by simp[zm]
     | succ M g=>
      intro x;have q:=g ⋯;by_cases I:M=i\/¬((A M).has r=eA)\/M<i
      ·refine q.congr λc _=>?_
       show(zm _ M+_)%p=_;rcases I with I | I | I
       ·simp[I]
       ·simp[I]
       ·have z:=Z i M a I;simp only[z];simp
      ·have h:M≠i/\(A M).has r=eA/\¬M<i:=by
        refine⟨λz=>I<|.inl z,?_,λz=>I<|.inr<|.inr z⟩;cases b:(A M).has r with
        | true=>rfl
        | false=>exact absurd (.inr<|.inl<|by rw[b];decide) I
       exact((w M ⋯ ⋯ h.2.1).add q (if M=i then 0 else if (A M).has r=eA then t i M else 0)).congr λc _=>rfl
    exact gen N<|Mp _
   have o:=u.add (J i a O) (-1);refine o.congr λc I=>?_;have l:zm (λj=>if (A j).has r=eA then t i j*(A j).v r c else 0) N=(A i).v r c+zm (λj=>(if j=i then 0 else if (A j).has r=eA then t i j else 0)*(A j).v r c) N:=by
    have m:(A i).v r c=zm (λj=>if j=i then (A i).v r c else 0) N:=by rw[zT a λk _ s=>by simp[s]];simp
    rw[m,<- jI];refine zA λj y=>?_;by_cases Y:j=i
    ·subst Y;simp[O,C j a]
    ·simp only[UY Y]
     by_cases b:(A j).has r=eA
     ·simp[b]
     ·simp[b]
   have U:=S i a O c I;unfold sh at U;rw[MM,l]at U;rw[Nn,U,<- Nn];congr 1;omega
 exact λi e a=>f N i ⋯ e a
end
section
variable{p:Int}{n m N h r r2 q:Nat}{B B2 K:Nat->Vc}{l l2 lK:UX}{M f:UV}
theorem YN(z:Span p n (f9 m U) v) : ∃t:Vc,∀i,i<n->v i%p=zm (λj=>t j*U j i) m%p:=by
 induction z with
 | zero h=>exact⟨λ_=>0,λi a=>by rw[h i a];simp[zV]⟩
 | @step v w g c I o O Y=>
  obtain⟨t,l⟩:=Y;obtain⟨k,d,rfl⟩:=I;refine⟨λj=>t j+if j=k then c else 0,λi a=>?_⟩;rw[O i a,Nn,l i a,<- Nn];congr 1;have e:zm (λj=>(t j+if j=k then c else 0)*U j i) m=zm (λj=>t j*U j i) m+zm (λj=>(if j=k then c else 0)*U j i) m:=by rw[<- jI];exact zA λj _=>Sj ..
  rw[e,zT (f:=λj=>(if j=k then c else 0)*U j i) d λj _ b=>by simp[b]];simp
theorem xn(a b:Nat->Int)(n:Nat):zm (λj=>a j*b j) n=zm (λj=>b j*a j) n:=zA λj _=>Nx ..
theorem Du:Span p h (f9 N λj i=>M i j) u ↔ ∃x:Vc,∀i,i<h->u i%p=app M N x i%p:=by
 constructor
 ·intro q
  obtain⟨t,z⟩:=YN q;exact⟨t,λi a=>by rw[z i a];unfold app;rw[xn]⟩
 ·rintro⟨x,b⟩
  refine(Span.sum (u:=λj i=>M i j) x (m:=N) λj I=> .gen ⟨j,I,rfl⟩).congr λi a=>?_;rw[b i a];unfold app;rw[xn]
theorem VF(n:Nat)(v:Vc):Span p n (f9 n qg) v:=by refine(Span.sum (u:=qg) v (m:=n) λj z=> .gen ⟨j,z,rfl⟩).congr λi a=>?_;rw[zT (f:=λk=>v k*qg k i) a λk _ I=>by simp[qg,I]];simp[qg]
theorem wI(z:Pr p)(O:N<=8)(U : ∀v:Vc,∃t,∀i,i<N->v i%p=app f N t i%p)(Y : ∀i,i<N->app f N t i%p=0) : ∀j,j<N->t j%p=0:=by
 obtain⟨q,K,l,s,_,n,I,g,m⟩:=yZ z (h:=N) ⋯ O f;have a:Rk p N N (λj i=>f i j) N:=⟨qg,id,aj z N,λv=>⟨λ_=>Du.mpr<|U v,λ_=>VF N v⟩⟩;have:=wA z g a;have e:q=0:=by omega
 subst e;have:=(I t).mpr λi d=>by have:=Y i d;unfold app at this;exact this
 cases this with
 | zero h=>exact h
 | step b _ _=>obtain⟨k,I,_⟩:=b;omega
def XN(r:Nat)(B:Nat->Vc)(l:UX)(t:Vc):Vc:=λi=>t i - zm (λj=>t (l j)*B j i) r
theorem Kn(I:kv p N r B l)(t:Vc)(z:j<r):XN r B l t (l j)=0:=by unfold XN;rw[zT (f:=λO=>t (l O)*B O (l j)) z λk U Y=>by rw[I.xg k j U z (MV Y)];simp];rw[I.one j z];omega
theorem bh(t:Vc):Span p N (f9 r B) λi=>zm (λj=>t (l j)*B j i) r:=Span.sum (u:=B) (λj=>t<|l j) λj z=> .gen ⟨j,z,rfl⟩
theorem uK(z:kv p N r B l)(h:Span p N (f9 r B) t)(I : ∀j,j<r->t (l j)%p=0) : ∀i,i<N->t i%p=0:=λi a=>by
 rw[Js z h i a];have e:zm (λk=>t (l k)*B k i) r%p=zm (λ_=>0) r%p:=zS λk O=>by rw[Mt,I k O];simp
 rw[e,zV];simp
theorem ai(z:Pr p)(I:kv p N r B l)(C:i<N)(hn : ∀j,j<r->l j≠i) : ¬Span p N (f9 r B) (qg i):=λh=>by have:=uK I h (λj O=>by unfold qg;rw[UY (MV<|hn j O)];simp) i C;unfold qg at this;rw[UJ rfl,z.one]at this;omega
theorem Xu(g:UV)(w:Nat)(u v:Vc)(i:Nat):app g w (λj=>u j - v j) i=app g w u i - app g w v i:=by
 have e:app g w u i=app g w (λj=>u j - v j) i+app g w v i:=by unfold app;rw[<- jI];exact zA λj _=>by dsimp only;rw[<- PF];congr 1;omega
 omega
def Wm(M f:UV)(N:Nat):Nat->Nat->Int:=λi j=>zm (λk=>M i k*f k j) N
theorem JP(t:Vc)(i:Nat):app (Wm M f N) N t i=app M N (app f N t) i:=by
 unfold app Wm;have e:zm (λj=>zm (λk=>M i k*f k j) N*t j) N=zm (λj=>zm (λk=>M i k*(f k j*t j)) N) N:=zA λj _=>by rw[<- xm];exact zA λk _=>NB ..
 rw[e,xl];exact zA λk _=>jF ..
theorem AV(C:Pr p)(hN:N<=8)(hh:h<=8)(hs : ∀v:Vc,∃t,∀i,i<N->v i%p=app f N t i%p)(J:kv p N r B l)(Y : ∀t,Span p N (f9 r B) t↔D6 p h N M (app f N t))
 (S:kv p h r2 B2 l2) (Z : ∀v,Span p h (f9 r2 B2) v↔Span p h (f9 N λj i=>M i j) v) :
 (∀j,j<r->∀i,i<h->app M N (app f N<|B j) i%p=0)/\(∀c,c<N->(∀j,j<r->l j≠c)->∃i,i<h/\app M N (λa=>f a c) i%p≠0)/\r+r2=N/\
   ∀U:Vc->Prop,(∀c,c<N->(∀j,j<r->l j≠c)->Span p h U (app M N λa=>f a c))->(∀c,c<h->(∀j,j<r2->l2 j≠c)->Span p h U (qg c))->∀v,Span p h U v:=by
 have k : ∀t:Vc,D6 p h N M (app f N t) ↔ ∀i,i<h->app M N (app f N t) i%p=0:=λt=>Iff.rfl;have s : ∀(c:Nat),c<N->∀i,app M N (λa=>f a c) i%p=app M N (app f N<|qg c) i%p:=λc I i=>qG (λa _=>by rw[Zs f I]) i;refine⟨λj O=>(k _).mp ((Y<|B j).mp (.gen ⟨j,O,rfl⟩)),λc I R=>?_,?_,λU L P v=>?_⟩
 ·refine NP λz=>ai C J I R ((Y _).mpr ((k _).mpr λi b=>?_))
  rw[<- s c I i];exact NP λy=>z ⟨i,b,y⟩
 ·obtain⟨q',K',l',s',_,A,o,E,bd⟩:=yZ C (h:=h) (w:=N) ⋯ hN (Wm M f N)
  have e1:q'=r:=(Xs C A J (λv m=>(Y v).mpr λi b=>by
   have:=(o v).mp m i b;rw[show zm (λj=>Wm M f N i j*v j) N=app (Wm M f N) N v i from rfl,JP]at this;exact this) λv m=>(o v).mpr λi b=>by
   have:=(Y v).mp m i b;rw[show zm (λj=>Wm M f N i j*v j) N=app (Wm M f N) N v i from rfl,JP];exact this).1
  have e2:s'=r2:=by
   refine wA C E ⟨B2,l2,S,λv=>(Z v).trans ⟨λz=>?_,λz=>?_⟩⟩
   ·obtain⟨x,n⟩:=Du.mp z
    obtain⟨t,d⟩:=hs x;refine Du.mpr ⟨t,λi b=>?_⟩;rw[n i b,JP];exact qG d i
   ·obtain⟨t,d⟩:=Du.mp z
    exact Du.mpr ⟨app f N t,λi b=>by rw[d i b,JP]⟩
  omega
 ·
  have X : ∀t:Vc,Span p h U (app M N<|app f N t):=λt=>by
   have W:=(k _).mp ((Y _).mp (bh (p:=p) (N:=N) (B:=B) (r:=r) (l:=l) t));have e : ∀i,i<h->app M N (app f N t) i%p=app M N (app f N<|XN r B l t) i%p:=λi b=>by
    have G:app M N (app f N<|XN r B l t) i=app M N (app f N t) i - app M N (app f N λi=>zm (λj=>t (l j)*B j i) r) i:=by rw[<- Xu];congr 1;funext a;exact Xu ..
    rw[G,B3,W i b];simp
   refine Span.congr ?_ e;have H : ∀i,app M N (app f N<|XN r B l t) i=zm (λc=>XN r B l t c*app M N (λa=>f a c) i) N:=λi=>by rw[<- vF];congr 1;funext a;unfold app;exact xn ..
   have s1 : ∀K,K<=N->Span p h U λi=>zm (λc=>XN r B l t c*app M N (λa=>f a c) i) K:=by
    intro K
    induction K with
    | zero=>intro _;exact .zero λi _=>by simp[zm]
    | succ K g=>
     intro Q;by_cases I : ∃j,j<r/\l j=K
     ·obtain⟨j,O,rfl⟩:=I
      refine(g ⋯).congr λi _=>?_;show(zm _ (l j)+_)%p=_;have z:=Kn J t O;simp only[z];simp
     ·exact((L K ⋯ λj O z=>I ⟨j,O,z⟩).add (g ⋯) _).congr λi _=>rfl
   exact(s1 N<|Mp _).congr λi _=>by rw[H]
  have F : ∀u,Span p h (f9 r2 B2) u->Span p h U u:=λu T=>by obtain⟨x,n⟩:=Du.mp<|(Z u).mp T;obtain⟨t,d⟩:=hs x;exact(X t).congr λi b=>by rw[n i b];exact qG d i
  have s2 : ∀K,K<=h->Span p h U λi=>zm (λc=>XN r2 B2 l2 v c*qg c i) K:=by
   intro K
   induction K with
   | zero=>intro _;exact .zero λi _=>by simp[zm]
   | succ K g=>
    intro Q;by_cases I : ∃j,j<r2/\l2 j=K
    ·obtain⟨j,O,rfl⟩:=I
     refine(g ⋯).congr λi _=>?_;show(zm _ (l2 j)+_)%p=_;have z:=Kn S v O;simp only[z];simp
    ·exact((P K ⋯ λj O z=>I ⟨j,O,z⟩).add (g ⋯) _).congr λi _=>rfl
  refine((F _<|bh (B:=B2) (r:=r2) (l:=l2) v).add (s2 h<|Mp _) 1).congr λi b=>?_;congr 1;rw[zT (f:=λc=>XN r2 B2 l2 v c*qg c i) b λc _ I=>by simp[qg,I]];simp only[qg,if_true,XN];omega
theorem AW(O:Pr p)(hN:N<=8)(hh:h<=8)(hs : ∀v:Vc,∃t,∀i,i<N->v i%p=app f N t i%p)(S:kv p N r B l)(Z : ∀t,Span p N (f9 r B) t↔Span p N (f9 h λj i=>M i j) (app f N t))
 (hk : ∀v,Span p h (f9 q K) v↔D6 p N h M v) (hr:Rk p N h (λj i=>M i j) s) (bm:q+s=h) :
 (∀j,j<r->∃y:Vc,∀i,i<N->app M h y i%p=app f N (B j) i%p)/\(∀c,c<N->(∀j,j<r->l j≠c)->¬∃y:Vc,∀i,i<N->app M h y i%p=f i c%p)/\r+q=h/\
   ∀(J:Vc->Prop) (x:Nat->Vc),(∀j,j<r->Span p h J (x j)/\∀i,i<N->app M h (x j) i%p=app f N (B j) i%p)->(∀j,j<q->Span p h J (K j))->∀v,Span p h J v:=by
 have o : ∀t,Span p N (f9 r B) t ↔ ∃y:Vc,∀i,i<N->app f N t i%p=app M h y i%p:=λt=>(Z t).trans Du;have inj : ∀{t:Vc},(∀i,i<N->app f N t i%p=0)->∀j,j<N->t j%p=0:=λY=>wI O hN hs Y;refine⟨λj I=>?_,λc T hn z=>?_,?_,λJ x Q h2 v=>?_⟩
 ·obtain⟨y,d⟩:=(o<|B j).mp (.gen ⟨j,I,rfl⟩)
  exact⟨y,λi b=>(d i b).symm⟩
 ·obtain⟨y,d⟩:=z
  exact ai O S T hn<|(o _).mpr ⟨y,λi b=>by rw[Zs f T,d i b]⟩
 ·have L:s<=8/\r<=8:=by
   obtain⟨E,bn,b7⟩:=fP O (n:=N) (m:=h) ⋯ hh λj i=>M i j;refine⟨by rw[wA O hr b7];omega,?_⟩;have : ∀A,A<=r->A<=N:=by
    intro A;have mono : ∀k,k<r->k<=l k:=by
     intro k
     induction k with
     | zero=>intro _;omega
     | succ k ih=>intro hk;have:=ih ⋯;have:=S.mono k (k+1) ⋯ hk;omega
    intro bv;cases A with
    | zero=>omega
    | succ P=>have:=mono P ⋯;have:=S.lt P ⋯;omega
   have:=this r<|Mp _;omega
  have bx:s<=r:=by
   obtain⟨E,a1,F⟩:=fP O (n:=N) (m:=r) ⋯ L.2 λj=>app f N<|B j;have e:s=E:=by
    obtain⟨C,lC,H,w⟩:=hr;refine wA O (m:=h) (W:=λj i=>M i j) ⟨C,lC,H,w⟩ ?_;obtain⟨X,bd,be,bf⟩:=F;refine⟨X,bd,be,λv=>(bf v).trans ⟨λz=>?_,λz=>?_⟩⟩
    ·exact z.le λg U=>by obtain⟨j,I,rfl⟩:=U;exact(Z<|B j).mp (.gen ⟨j,I,rfl⟩)
    ·obtain⟨y,d⟩:=Du.mp z
     obtain⟨t,Y⟩:=hs v;have G:Span p N (f9 r B) t:=(o t).mpr ⟨y,λi b=>by rw[<- Y i b,d i b]⟩;refine(Span.sum (u:=λj=>app f N<|B j) (λj=>t<|l j) (m:=r) λj I=> .gen ⟨j,I,rfl⟩).congr λi b=>?_;rw[Y i b,<- vF];exact qG (λj I=>Js S G j I) i
   omega
  have c0:r<=s:=by
   obtain⟨C,lC,H,w⟩:=hr;have ex : ∀j,∃t:Vc,∀i,i<N->C j i%p=app f N t i%p:=λj=>hs<|C j;have g:Nat->Vc:=λj=>Classical.choose<|ex j;have U : ∃g:Nat->Vc,∀j i,i<N->C j i%p=app f N (g j) i%p:=⟨λj=>Classical.choose<|ex j,λj=>Classical.choose_spec<|ex j⟩;obtain⟨g,U⟩:=U;obtain⟨E,a1,F⟩:=fP O (n:=N) (m:=s) ⋯ L.1 g;have e:r=E:=by
    refine wA O (m:=s) (W:=g) ⟨B,l,S,λv=>⟨λz=>?_,λz=>?_⟩⟩ F
    ·have hv:=(w _).mpr ((Z v).mp z)
     refine(Span.sum (u:=g) (λj=>app f N v<|lC j) (m:=s) λj I=> .gen ⟨j,I,rfl⟩).congr λi b=>?_;have z0 : ∀a,a<N->app f N (λi=>v i - zm (λj=>app f N v (lC j)*g j i) s) a%p=0:=λa R=>by
      rw[Xu,vF,B3,Js H hv a R];have e:zm (λk=>app f N v (lC k)*C k a) s%p=zm (λk=>app f N v (lC k)*app f N (g k) a) s%p:=zS λk _=>by rw[Mt,U k a R,<- Mt]
      rw[e];simp
     have:=inj z0 i b;have q2:=Int.emod_emod_of_dvd;exact(Int.emod_emod_of_dvd _<|Int.dvd_refl p).symm.trans (by
      rw[MM];have:(v i - zm (λj=>app f N v (lC j)*g j i) s)%p=0:=this;exact TF.mpr this)
    ·refine z.le λu hu=>?_
     obtain⟨j,I,rfl⟩:=hu;refine(Z _).mpr (((w<|C j).mp (.gen ⟨j,I,rfl⟩)).congr λi b=>(U j i b).symm)
   omega
  omega
 ·obtain⟨t,Y⟩:=hs (app M h v)
  have G:Span p N (f9 r B) t:=(o t).mpr ⟨v,λi b=>(Y i b).symm⟩;have hx:Span p h J λc=>zm (λj=>t (l j)*x j c) r:=Span.sum (u:=x) (λj=>t<|l j) λj I=>(Q j I).1;have hd:Span p h J λc=>v c - zm (λj=>t (l j)*x j c) r:=by
   refine((hk _).mpr λi b=>?_).le λg U=>by obtain⟨j,I,rfl⟩:=U;exact h2 j I
   show app M h (λc=>v c - zm (λj=>t (l j)*x j c) r) i%p=0;rw[Xu,vF,B3];have e:zm (λj=>t (l j)*app M h (x j) i) r%p=app M h v i%p:=by rw[Y i b,qG (λj I=>Js S G j I) i,vF];exact zS λj I=>by rw[Mt,(Q j I).2 i b,<- Mt]
   rw[e];simp
  refine(hx.add hd 1).congr λc _=>?_;congr 1;omega
end
structure Dp(p:Int)(w:UK)(wd:UX)(T:UW)(k:Nat)(pe:List gR):Prop where
 ok : ∀b,b∈pe->ri p w wd T k b
 sp : ∀r,r<=k->∀v,Span p (wd r) (IS pe r) v
 ct : ∀r,r<=k->pe.countP (λb=>b.has r)=wd r
 od:(pe.filter λb=>b.has k).Pairwise (Ord w)
def o9(r:Nat)(l:UX)(i:Nat):Option Nat:=(Me r).find? λj=>l j==i
theorem xV(h:o9 r l i=ej j):j<r/\l j=i:=by have a:=List.find?_some h;have b:=List.mem_of_find?_eq_some h;exact⟨Mg.mp b,by simpa using a⟩
theorem JD(h:o9 r l i=eF) : ∀j,j<r->l j≠i:=λj z=>by have:=List.find?_eq_none.mp h j<|Mg.mpr z;simpa using this
noncomputable def k0(p:Int)(A:Nat->gR)(N r:Nat)(B:Nat->Vc)(l:UX)(i:Nat):gR:=match o9 r l i with
 | some j=>G6 p A N (B j) i
 | none=>A i
noncomputable def n4(k:Nat)(b:gR):Option Vc->gR
 | none=>b
 | some y=>⟨b.s,b.n+1,λr=>if r=k+1 then y else b.v r⟩
def t5(k:Nat)(y:Vc):gR:=⟨k+1,1,λ_=>y⟩
noncomputable def H9(r:Nat)(B:Nat->Vc)(l:UX)(i:Nat):Vc:=match o9 r l i with
 | some j=>B j
 | none=>qg i
theorem fu(p A N r B l i):(k0 p A N r B l i).s=(A i).s:=by unfold k0;split<;>rfl
theorem AX(p A N r B l i):(k0 p A N r B l i).n=(A i).n:=by unfold k0;split<;>rfl
theorem V9(p A N r B l i rm):(k0 p A N r B l i).has rm=(A i).has rm:=by unfold gR.has;rw[fu,AX]
theorem ZM:(t5 k y).has r=decide (r=k+1):=by
 unfold t5 gR.has;by_cases h:r=k+1
 ·simp[h]
 ·simp[h];intro;omega
section
variable{p:Int}{w:UK}{wd:UX}{T:UW}{k N r:Nat}{A:Nat->gR}{B:Nat->Vc}{l:UX}
theorem pK(z:kv p N r B l)(C:i<N):H9 r B l i i=1/\∀c,c<i->H9 r B l i c=0:=by
 unfold H9;cases hj:o9 r l i with
 | some j=>
  obtain⟨a,b⟩:=xV hj;subst b;exact⟨z.one j a,λc I=>z.pb j c a I⟩
 | none=>exact⟨by simp[qg],λc I=>by simp only[qg];rw[UY ⋯]⟩
theorem sF(C:i<N)(I:(A i).has rm=eA):(k0 p A N r B l i).v rm c%p=sh p A N (H9 r B l i) rm c%p:=by
 unfold k0 H9;cases z:o9 r l i with
 | some j=>rfl
 | none=>
  show(A i).v rm c%p=_;unfold sh;rw[MM];congr 1;rw[zT (f:=λj=>if (A j).has rm=eA then qg i j*(A j).v rm c else 0) C λj _ z=>by unfold qg;rw[UY (MV z)];simp];simp[qg,I]
theorem pP(I:0<p)(O:kv p N r B l)(z : ∀j,j<N->ri p w wd T k (A j))(U : ∀j,j<N->(A j).has k=eA)(Y : ∀i c,i<c->c<N->Ord w (A i) (A c))(C:i<N):ri p w wd T k (k0 p A N r B l i):=by
 unfold k0;split
 ·next j e=>
  obtain⟨a,b⟩:=xV e;subst b;exact Co I z U C (λc a b=>Y _ c a b) λc d=>O.pb j c a d
 ·exact z i C
theorem Kw(z:rm<=k)(I:b.s+b.n=k+1):(n4 k b o).has rm=b.has rm/\(n4 k b o).v rm=b.v rm:=by
 cases o with
 | none=>exact⟨rfl,rfl⟩
 | some y=>
  refine⟨?_,by simp only[n4];rw[UY ⋯]⟩;unfold n4 gR.has;simp only;congr 1;exact decide_eq_decide.mpr ⋯
theorem WR(z:b.s+b.n=k+1):(n4 k b o).has (k+1)=o.isSome:=by
 cases o with
 | none=>unfold n4 gR.has;simp;omega
 | some y=>unfold n4 gR.has;simp;omega
theorem uO(k b o):(n4 k b o).s=b.s:=by cases o<;>rfl
theorem CS(p0:0<p)(O:b.s+b.n=k+1)(C:ri p w wd T k b)(hr : ∀y,o=ej y->∀c,c<wd (k+1)->0<=y c/\y c<p)
 (J:o=eF->w k=eK->∀c,c<wd (k+1)->app (T k) (wd k) (b.v k) c%p=0) (S : ∀y,o=ej y->w k=eK->∀c,c<wd (k+1)->app (T k) (wd k) (b.v k) c%p=y c%p)
 (Z : ∀y,o=ej y->w k=eA->∀c,c<wd k->app (T k) (wd<|k+1) y c%p=b.v k c%p):ri p w wd T (k+1) (n4 k b o):=by
 have as:=C.n1;refine⟨?_,?_,λU c h z=>?_,λj x d c z=>?_⟩
 ·cases o with
  | none=>exact C.n1
  | some y=>show 1<=b.n+1;omega
 ·cases o with
  | none=>show b.s+b.n<=k+1+1;omega
  | some y=>show b.s+(b.n+1)<=k+1+1;omega
 ·by_cases m:U<=k
  ·obtain⟨a,I⟩:=Kw (o:=o) m O
   rw[a]at h;rw[I];exact C.o5 U c h z
  ·have i:=m4.mp h
   cases o with
   | none=>exact absurd i.2 (by show ¬(U<b.s+b.n);omega)
   | some y=>
    have:U=k+1:=by have:U<b.s+(b.n+1):=i.2;omega
    subst this;have e:(n4 k b<|some y).v (k+1)=y:=by simp[n4]
    rw[e];exact hr y rfl c z
 ·by_cases g:j<k
  ·have g1:ja w j<=k:=by unfold ja;split<;>omega
   have g2:jh w j<=k:=by unfold jh;split<;>omega
   obtain⟨a,I⟩:=Kw (o:=o) g1 O;obtain⟨t,u⟩:=Kw (o:=o) g2 O;rw[a]at d;rw[I,t,u];exact C.arr j g d c z
  ·have g:j=k:=by omega
   subst g;obtain⟨a,I⟩:=Kw (o:=o) (Mp j) O;have l:=WR (k:=j) (o:=o) O;have r:b.has j=eA:=m4.mpr ⋯;cases hw:w j with
   | false=>
    have f:ja w j=j:=by unfold ja;rw[hw];rfl
    have Y:jh w j=j+1:=by unfold jh;rw[hw];rfl
    rw[Y]at z;rw[f,Y,I,l];cases o with
    | none=>rw[J rfl hw c z];simp
    | some y=>rw[S y rfl hw c z];simp[n4]
   | true=>
    have f:ja w j=j+1:=by unfold ja;rw[hw];rfl
    have Y:jh w j=j:=by unfold jh;rw[hw];rfl
    rw[Y]at z;rw[f,l]at d;rw[f,Y,a,I,r];cases o with
    | none=>cases d
    | some y=>
     have e:(n4 j b<|some y).v (j+1)=y:=by simp[n4]
     rw[e,Z y rfl hw c z];simp
theorem Cm(J : ∀c,c<wd (k+1)->0<=y c/\y c<p)(C:w k=eA->∀c,c<wd k->app (T k) (wd<|k+1) y c%p=0):ri p w wd T (k+1) (t5 k y):=by
 refine⟨Mp _,by show k+1+1<=k+1+1;omega,λe c O z=>?_,λj d I c z=>?_⟩
 ·rw[ZM]at O
  have:=of_decide_eq_true O;subst this;exact J c z
 ·rw[ZM]at I
  have I:=of_decide_eq_true I;cases hw:w j with
  | false=>
   have U:ja w j=j:=by unfold ja;rw[hw];rfl
   omega
  | true=>
   have U:ja w j=j+1:=by unfold ja;rw[hw];rfl
   have Y:jh w j=j:=by unfold jh;rw[hw];rfl
   have a:j=k:=by omega
   subst a;rw[Y]at z;have b:(t5 j y).has (jh w j)=eK:=by rw[ZM,Y];simp
   rw[b,U];show app (T j) (wd<|j+1) y c%p=_;rw[C hw c z];simp
noncomputable def wt(p:Int)(k:Nat)(w:UK)(C:List gR)(A:Nat->gR)(N r:Nat)(B:Nat->Vc)(l:UX)(nx:Nat->Option Vc)(z:List Vc):List gR:=
 (C.filter λb=> !b.has k)++(if w k then (Me N).map (λi=>n4 k (k0 p A N r B l i)<|nx i)++z.map (t5 k)else z.map (t5 k)++(Me N).map λi=>n4 k (k0 p A N r B l i)<|nx i)
theorem iI(p0:0<p)(I:Dp p w wd T k pe)(hN:(pe.filter λb=>b.has k).length=N)(Y : ∀j,A j=(pe.filter λb=>b.has k).getD j ma)(O:kv p N r B l)
 (c1 : ∀i y,i<N->nx i=ej y->∀c,c<wd (k+1)->0<=y c/\y c<p) (c2 : ∀y,y∈news->∀c,c<wd (k+1)->0<=y c/\y c<p)
   (d0 : ∀i,i<N->nx i=eF->w k=eK->∀c,c<wd (k+1)->app (T k) (wd k) ((k0 p A N r B l i).v k) c%p=0)
   (d1 : ∀i y,i<N->nx i=ej y->w k=eK->∀c,c<wd (k+1)->app (T k) (wd k) ((k0 p A N r B l i).v k) c%p=y c%p)
   (d2 : ∀i y,i<N->nx i=ej y->w k=eA->∀c,c<wd k->app (T k) (wd<|k+1) y c%p=(k0 p A N r B l i).v k c%p)
   (d3 : ∀y,y∈news->w k=eA->∀c,c<wd k->app (T k) (wd<|k+1) y c%p=0)
   (s1 : ∀v,Span p (wd<|k+1) (λg=>(∃i,i<N/\nx i=ej g)\/g∈news) v) (n1:(Me N).countP (λi=>(nx i).isSome)+news.length=wd (k+1)) :
   Dp p w wd T (k+1) (wt p k w pe A N r B l nx news):=by
  have G : ∀j,j<N->A j∈pe/\(A j).has k=eA:=λj E=>by
   have:A j∈pe.filter λb=>b.has k:=by rw[Y j,Mm,Mi ⋯];exact OB _
   have:=MR.mp this;exact⟨this.1,by simpa using this.2⟩
  have W : ∀j,j<N->ri p w wd T k (A j):=λj E=>I.ok _ (G j E).1;have X : ∀i c,i<c->c<N->Ord w (A i) (A c):=λi c m u=>by have:=OE.mp I.od i c ⋯ ⋯ m;rw[Y i,Y c,Mm,Mi ⋯,Mm,Mi ⋯];exact this
  have kA : ∀i,i<N->ri p w wd T k (k0 p A N r B l i):=λi d=>pP p0 O W (λj E=>(G j E).2) X d;have a1 : ∀i,i<N->(k0 p A N r B l i).s+(k0 p A N r B l i).n=k+1:=λi d=>by rw[fu,AX];have m:=m4.mp (G i d).2;have u:=(W i d).le;omega
  have H : ∀b,b∈pe->b.has k=eK->b.s+b.n<=k:=λb O R=>by have m:=(I.ok b O).le;have u:=(I.ok b O).n1;refine Nat.not_lt.mp λz=>?_;have:b.has k=eA:=m4.mpr ⋯;rw[this]at R;cases R
  have x : ∀b,b∈wt p k w pe A N r B l nx news↔(b∈pe/\b.has k=eK)\/(∃i,i<N/\b=n4 k (k0 p A N r B l i) (nx i))\/∃y,y∈news/\b=t5 k y:=λb=>by
   unfold wt;rw[PL,MR];refine or_congr ⋯ ?_;cases w k<;>simp only[Od,if_false,if_true,PL,MD,Mg]
   ·constructor
    ·rintro(⟨y,m,u⟩ | ⟨i,m,u⟩)
     ·exact .inr ⟨y,m,u.symm⟩
     ·exact .inl ⟨i,m,u.symm⟩
    ·rintro(⟨i,m,u⟩ | ⟨y,m,u⟩)
     ·exact .inr ⟨i,m,u.symm⟩
     ·exact .inl ⟨y,m,u.symm⟩
   ·constructor
    ·rintro(⟨i,m,u⟩ | ⟨y,m,u⟩)
     ·exact .inl ⟨i,m,u.symm⟩
     ·exact .inr ⟨y,m,u.symm⟩
    ·rintro(⟨i,m,u⟩ | ⟨y,m,u⟩)
     ·exact .inl ⟨i,m,u.symm⟩
     ·exact .inr ⟨y,m,u.symm⟩
  have cnt : ∀P:gR->Bool,(wt p k w pe A N r B l nx news).countP P=(pe.filter λb=> !b.has k).countP P+(Me N).countP (λi=>P<|n4 k (k0 p A N r B l i)<|nx i)+(news.map<|t5 k).countP P:=λP=>by
   unfold wt;rw[List.countP_append];cases w k<;>simp only[Od,if_false,if_true,List.countP_append,Ss (f:=λi=>n4 k (k0 p A N r B l i)<|nx i)]
   ·rw[Sf,Nat.add_comm (List.countP P<|List.map (t5 k) news)];rfl
   ·rw[Sf];rfl
  refine⟨λb bg=>?_,λU hr v=>?_,λU hr=>?_,?_⟩
  ·rcases (x b).mp bg with⟨m,u⟩ | ⟨i,d,rfl⟩ | ⟨y,Z,rfl⟩
   ·have R:=H b m u
    have S:=I.ok b m;refine⟨S.n1,by omega,S.o5,λj E as c M=>?_⟩;have bv:=m4.mp as;refine S.arr j ?_ as c M;have:ja w j>=j:=by unfold ja;split<;>omega
    omega
   ·exact CS p0 (a1 i d) (kA i d) (λy e=>c1 i y d e) (λe=>d0 i d e) (λy e=>d1 i y d e) λy e=>d2 i y d e
   ·exact Cm (c2 y Z)<|d3 y Z
  ·by_cases C:U<=k
   ·refine(I.sp U C v).le λg hg=>?_
    obtain⟨b,m,u,rfl⟩:=hg;cases k_:b.has k with
    | false=>exact .gen ⟨b,(x b).mpr (.inl ⟨m,k_⟩),u,rfl⟩
    | true=>
     have bl:b∈pe.filter λb=>b.has k:=MR.mpr ⟨m,by simpa using k_⟩;obtain⟨i,d,e⟩:=Rx bl;have ei:A i=b:=by rw[Y i,Mm,Mi d];exact e
     rw[<- ei]at u ⊢;refine oh (A:=A) (A':=λi=>k0 p A N r B l i) (t:=λi=>H9 r B l i) (λi d=>(pK O d).1) (λi c d M=>(pK O d).2 c M) (λi d Q=>?_) (λi d Q c _=>sF d Q) i ⋯ u;obtain⟨x1,x2⟩:=Kw (o:=nx i) C<|a1 i d;exact .gen ⟨_,(x _).mpr (.inr<|.inl ⟨i,d,rfl⟩),by rw[x1,V9];exact Q,by rw[x2]⟩
   ·have:U=k+1:=by omega
    subst this;refine(s1 v).le λg hg=>?_;rcases hg with⟨i,d,e⟩ | hg
    ·refine .gen ⟨_,(x _).mpr (.inr<|.inl ⟨i,d,rfl⟩),?_,?_⟩
     ·rw[WR (a1 i d),e];rfl
     ·rw[e];simp[n4]
    ·exact .gen ⟨_,(x _).mpr (.inr<|.inr ⟨g,hg,rfl⟩),by rw[ZM];simp,rfl⟩
  ·rw[cnt]
   by_cases C:U<=k
   ·have K:(news.map<|t5 k).countP (λb=>b.has U)=0:=RB.mpr λb O=>by
     obtain⟨y,_,rfl⟩:=MD.mp O;rw[ZM];simp;omega
    have L:(Me N).countP (λi=>(n4 k (k0 p A N r B l i)<|nx i).has U)=(pe.filter λb=>b.has k).countP λb=>b.has U:=by
     have:(pe.filter λb=>b.has k)=(Me N).map A:=by rw[<- jk ma (pe.filter λb=>b.has k),hN];exact MA λj _=>(Y j).symm
     rw[this,Ss];refine Oj λi d=>?_;have d:=Mg.mp d;rw[(Kw (o:=nx i) C<|a1 i d).1,V9];rfl
    rw[K,L,<- I.ct U C,List.countP_eq_countP_filter_add pe (λb=>b.has U) λb=>b.has k];omega
   ·have:U=k+1:=by omega
    subst this;have J:(pe.filter λb=> !b.has k).countP (λb=>b.has<|k+1)=0:=RB.mpr λb O=>by obtain⟨m,u⟩:=MR.mp O;have:=H b m (by simpa using u);intro z;have:=m4.mp z;omega
    have K:(news.map<|t5 k).countP (λb=>b.has<|k+1)=news.length:=by rw[List.countP_eq_length.mpr λb O=>?_,MF];obtain⟨y,_,rfl⟩:=MD.mp O;rw[ZM];simp
    have L:(Me N).countP (λi=>(n4 k (k0 p A N r B l i)<|nx i).has (k+1))=(Me N).countP λi=>(nx i).isSome:=Oj λi d=>by rw[WR (a1 i<|Mg.mp d)]
    rw[J,K,L];omega
  ·have J:((pe.filter λb=> !b.has k).filter λb=>b.has<|k+1)=[]:=List.filter_eq_nil_iff.mpr λb O=>by
    obtain⟨m,u⟩:=MR.mp O;have:=H b m (by simpa using u);intro z;have:=m4.mp z;omega
   have pO:((Me N).map λi=>n4 k (k0 p A N r B l i)<|nx i).Pairwise (Ord w):=by rw[O7];refine Rp (λ{a b} F O h=>?_)<|Rb (n:=N);have:=X a b h<|Mg.mp O;unfold Ord;rw[uO,uO,fu,fu];exact this
   have pN:(news.map<|t5 k).Pairwise (Ord w):=by
    rw[O7];refine OE.mpr λ_ _ _ _ _=>⟨λz=>?_,λz=>?_⟩
    ·exact absurd z<|Nw<|k+1
    ·exact absurd z<|Nw<|k+1
   have so : ∀b,b∈(Me N).map (λi=>n4 k (k0 p A N r B l i)<|nx i)->b.s<=k:=λb O=>by obtain⟨i,d,rfl⟩:=MD.mp O;have d:=Mg.mp d;rw[uO,fu];exact(m4.mp (G i d).2).1
   have sn : ∀b,b∈news.map (t5 k)->b.s=k+1:=λb O=>by obtain⟨y,_,rfl⟩:=MD.mp O;rfl
   unfold wt;rw[RL,J,OX];refine RU _ ?_;cases hw:w k with
   | false=>
    simp only[Od,if_false];refine List.pairwise_append.mpr ⟨pN,pO,λa F b O=>?_⟩;have m:=sn a F;have u:=so b O;exact⟨λz=>by omega,λ_=>by rw[m];exact hw⟩
   | true=>
    simp only[if_true];refine List.pairwise_append.mpr ⟨pO,pN,λa F b O=>?_⟩;have m:=sn b O;have u:=so a F;exact⟨λ_=>by rw[m];exact hw,λz=>by omega⟩
end
def xh:=jr 1<|kr (sB<|zy vu (sT<|zh 0)<|zu<|.int 30) YT j9
def ES:=(jy 3<|qh<|X6<|zh 2)
noncomputable def ER:=(jy 4<|qh<|zK (z7<|zy j3 (YU<|zc 1)<|zu<|.int 1) (.nm 0) 1 [3] jb (qh<|jV yH<|zb (zc 1)<|zb (zc 0) zI))
noncomputable def EO:=(jy 5<|qh<|zK (X7<|zc 1) (.tp [0,1]) 2 [4] jb (qW<|zb (zc 1)<|zb (zD kN<|zb (eL (zh 2)<|zD wb<|zb (zc 0)<|zb (zc 1) zI)<|zb (eL (zh 2)<|zD qJ<|zb (zc 0)<|zb (zc 1) zI) zI) zI))
noncomputable def EN:=(qv<|qW<|zb (zc 0)<|zb (zM<|jm<|zK (zN<|zh 4) (.nm 0) 1 [] jb (kD<|zh 0))<|zb (zM<|zh 5) zI)
def xD:=jr 6<|zJ ES<|zJ ER<|zJ EO EN
noncomputable def rQ:=(kr (jU<|sB<|fK<|jm<|zK (zN<|zh 1) (.nm 0) 1 [0] jb (cM (p6 .tuple<|zc 0)<|zD j8<|zb (zc 1)<|zb (zc 0) zI)) (qv<|zu<|.bl eK) j9)
def FI:=(qv<|zy hG (zc 1)<|qh<|X6<|zh 1)
def yI:=jr 2<|zJ rQ FI
def CG:=(jy 4<|qW<|zb (zc 1)<|zb (zc 1) zI)
noncomputable def AB:=(kr (vi (sB<|zy i7 (YS (zc 2) Yv<|t6<|zu<|.int 2)<|zc 4)<|sB<|zy i7 (YS (zc 3) Yv<|t6<|zu<|.int 2)<|zc 4) (qv<|zu<|.bl eK) j9)
noncomputable def Fo:=(qv<|zy hG (zD yF<|zb (zc 0)<|zb (zc 2)<|zb (zc 3) zI)<|zD qy<|zb (zc 1) zI)
def yG:=jr 5<|zJ CG<|zJ AB Fo
def El:=(jy 3<|kD<|zW<|eL (zh 0)<|zu<|.int 1)
noncomputable def AD:=(kr (vi (sB<|zy i7 (kD<|zh 1)<|zc 3)<|sB<|zy i7 (kD<|zh 2)<|zc 3) (qv<|zu<|.bl eK) j9)
noncomputable def Fw:=(qv<|fK<|jm<|zK (mL (eL (zh 0)<|zu<|.int 1) (zc 1)<|zc 2) (.tp [0,1,2]) 3 [0] jb (zD yG<|zb (eL (zh 3)<|zu<|.int 0)<|zb (zc 0)<|zb (zc 1)<|zb (zc 2) zI))
def kP:=jr 4<|zJ El<|zJ AD Fw
def Gb:=(jy 2<|eL (zh 1)<|zu<|.int 0)
def Ga:=(jy 3<|eL (zh 1)<|zu<|.int 1)
def FZ:=(jy 4<|eL (zh 1)<|zu<|.int 2)
noncomputable def Av:=(kr (vi (jU<|sB<|zD yI<|zb (kD<|zW<|eL (zh 0)<|zu<|.int 1)<|zb (zc 2) zI)<|jU<|sB<|zD kP<|zb (zc 0)<|zb (zc 3)<|zb (zc 4) zI) (qv<|zu<|.bl eK) j9)
noncomputable def EF:=(qv<|zy hG (zD wa<|zb (zc 0)<|zb (zc 3)<|zb (zc 4) zI)<|zD xD<|zb (eL (zh 0)<|zu<|.int 0)<|zb (zD Zu<|zb (zc 0) zI)<|zb (zc 2) zI)
def qx:=jr 5<|zJ Gb<|zJ Ga<|zJ FZ<|zJ Av EF
noncomputable def Cp:=(jy 3<|qh<|zK (z7<|eL (zh 2)<|zu<|.int 1) (.nm 0) 1 [2] jb (qh<|zK (zN<|zW<|eL (zh 1)<|zu<|.int 2) (.nm 0) 1 [0] jb (eL (zh 0)<|zc 1)))
def GH:=(wz 4<|kG zI)
noncomputable def GG:=(ZA (zN<|zW<|eL (zh 1)<|zu<|.int 2) (.nm 5)<|xu 4<|zM<|jm<|zK (zN<|zh 3) (.nm 0) 1 [0,5] jb (zy qw (sT<|jm<|zK (aH (zc 2)<|zc 0) (.tp [0,1]) 2 [] jb (zy xJ (zc 0)<|zc 1))<|zc 1))
noncomputable def Fc:=(qv<|qW<|zb (eL (zh 1)<|zu<|.int 0)<|zb (eL (zh 2)<|zu<|.int 1)<|zb (zM<|zh 4) zI)
def jB:=jr 6<|zJ Cp<|zJ GH<|zJ GG Fc
noncomputable def xF:=jr 1<|qv<|qW<|zb (zc 0)<|zb (zc 0)<|zb (zM<|jm<|zK (z7<|zc 0) (.nm 0) 1 [0] jb (zM<|jm<|zK (z7<|zc 1) (.nm 0) 1 [0] jb (km<|zy hG (zc 1)<|zc 0))) zI
noncomputable def N9:=(wz 4<|zK (z7<|zc 3) (.nm 0) 1 [3] jb (qh<|zK (z7<|zc 1) (.nm 0) 1 [0] jb (km<|zy hG (zc 1)<|zc 0)))
noncomputable def R9:=(Wb 5<|Jc (z7<|zc 3) (.nm 0) 1 [3] (zK (z7<|zc 1) (.nm 0) 1 [0] jb (km<|zy hG (zc 1)<|zc 0)))
noncomputable def US:=(ZA (z7<|zy xJ (zu<|.int 3)<|zc 3) (.nm 6)<|zJ (jy 7<|zD z9<|zb (zc 0)<|zb (zy j3 (zc 1)<|zc 6) zI)<|zJ (jy 8<|zy qw (zc 7)<|zc 3)<|zJ (jy 9<|zy qw (zy vz (zc 7)<|zc 3)<|zc 3)<|zJ (jy 10<|zy j3 (zu<|.int 1)<|zy qw (zy vz (zc 7)<|zu<|.int 97)<|zy JI (zc 2)<|zu<|.int 1)<|kr (sB<|zy hG (zc 8)<|zc 9) (zJ (J9 4 (zc 8)<|qh<|zK (zN<|zW<|eL (zh 4)<|zc 8) (.nm 0) 1 [2,10] jb (zy qw (zy xJ (zc 2)<|zc 0)<|zc 1))<|zJ (jy 11<|eL (jm<|zK (z7<|zc 2) (.nm 0) 1 [2,10] (sB<|zy hG (zy qw (zy xJ (zc 0)<|zc 2)<|zc 1)<|zu<|.int 1) (zc 0))<|zu<|.int 0)<|QA 5 12 (zc 8)<|zy qw (zy xJ (eL (zh 12)<|zc 8)<|zc 11)<|zc 2)<|zJ (J9 4 (zc 9)<|qh<|zK (aH (eL (zh 4)<|zc 9)<|eL (zh 4)<|zc 8) (.tp [0,1]) 2 [2,10] jb (zy qw (zy j3 (zc 0)<|zy xJ (zc 3)<|zc 1)<|zc 2))<|QA 5 12 (zc 8)<|zy qw (zy JI (eL (zh 12)<|zc 8)<|zy xJ (zc 10)<|eL (zh 12)<|zc 9)<|zc 2)
def UT:=(wz 13<|kG zI)
noncomputable def Se:=(fJ 5<|Ia 4<|ZA (zN<|zW<|qh<|kG<|zb (zc 4)<|zb (zc 5) zI) (.nm 14)<|xu 13<|qW<|zb (zc 3)<|zb (zc 3)<|zb (zM<|jm<|zK (zN<|zh 14) (.nm 0) 1 [] jb (zM<|zh 0)) zI)
def I':=(Wc 13)
def xE:=jr 15<|zJ N9<|zJ R9<|zJ US<|zJ UT<|zJ Se I'
def GF:=(fG (.tp [3,4,5])<|zc 0)
def GE:=(wz 6<|kG zI)
noncomputable def GD:=(ZA (XF (zc 5)) (.tp [7,8]) (zJ (jy 9 (zy j3 (zc 7) (km (zy hG (eL (zh 8) (zu (.int 0))) (zu (.str "l")))))) (zJ (jy 10 (zy j3 (zc 7) (km (zy hG (eL (zh 8) (zu (.int 0))) (zu (.str "r")))))) (xu 6 (qW (zb (eL (zh 8) (zu (.int 0))) (zb (zD jB (zb (zc 3) (zb (zD jB (zb (zc 3) (zb (eL (zh 1) (zc 10)) (zb (eL (zh 8) (zu (.int 1))) zI)))) (zb (eL (zh 2) (zc 9)) zI)))) zI)))))))
def EZ:=(qv<|qW<|zb (zc 3)<|zb (zc 4)<|zb (zM<|zh 6) zI)
def qu:=jr 11<|zJ GF<|zJ GE<|zJ GD EZ
noncomputable def GJ:=(kr (vi (jU<|sB<|p6 .tuple<|zc 1)<|vi (sB<|zy i7 (kD<|zh 1)<|zu<|.int 3)<|vi (jU<|sB<|zD jE<|zb (eL (zh 1)<|zu<|.int 0) zI)<|jU<|sB<|zD jE<|zb (eL (zh 1)<|zu<|.int 1) zI) (qv<|zu<|.bl eK) j9)
noncomputable def AA:=(kr (vi (sB<|zy i7 (YS (zc 1) Yv<|t6<|zu<|.int 2)<|qW<|zb (zc 2)<|zb (zc 3) zI)<|vi (jU<|sB<|p6 .tuple<|eL (zh 1)<|zu<|.int 2)<|sB<|zy i7 (kD<|zW<|eL (zh 1)<|zu<|.int 2)<|zc 2) (qv<|zu<|.bl eK) j9)
noncomputable def GI:=(ZA (zN<|zW<|eL (zh 1)<|zu<|.int 2) (.nm 4)<|zJ (kr (vi (jU<|sB<|p6 .tuple<|zc 4)<|sB<|zy i7 (kD<|zh 4)<|zc 3) (qv<|zu<|.bl eK) j9)<|kr (jU<|sB<|fK<|jm<|zK (zN<|zh 4) (.nm 0) 1 [0] jb (cM (zD jE<|zb (zc 0) zI)<|kX p5 Df (zu<|.int 0) (zc 0)<|zc 1)) (qv<|zu<|.bl eK) j9)
def Ip:=(qv<|zu<|.bl eA)
def jl:=jr 5<|zJ GJ<|zJ AA<|zJ GI Ip
def DS:=(fG (.tp [2,3,4])<|zc 0)
noncomputable def DT:=(kr (vi (jU<|sB<|p6 .tuple<|zc 1)<|vi (sB<|zy i7 (kD<|zh 1)<|zu<|.int 3)<|jU<|sB<|fK<|jm<|zK (zN<|zh 1) (.nm 0) 1 [] jb (p6 .list<|zc 0)) (qv<|zu<|.bl eK) j9)
def Uz:=(fG (.tp [5,6,7])<|zc 1)
noncomputable def M9:=(ZA (zN<|zW<|zc 5) (.nm 8)<|zJ (kr (vi (jU<|sB<|p6 .tuple<|zc 8)<|vi (sB<|zy i7 (kD<|zh 8)<|zu<|.int 2)<|vi (jU<|sB<|zD jE<|zb (eL (zh 8)<|zu<|.int 0) zI)<|jU<|sB<|zD jE<|zb (eL (zh 8)<|zu<|.int 1) zI) (qv<|zu<|.bl eK) j9)<|kr (jU<|sB<|QB p5 p5 Df (zu<|.int 0) (eL (zh 8)<|zu<|.int 0) (eL (zh 8)<|zu<|.int 1)<|kD<|zh 3) (qv<|zu<|.bl eK) j9)
noncomputable def R0:=(kr (vi (sB<|zy i7 (zc 5)<|qh<|X6<|zh 5)<|vi (sB<|zy i7 (kD<|zh 6)<|kD<|zh 3)<|sB<|zy i7 (kD<|zh 7)<|kD<|zh 3) (qv<|zu<|.bl eK) j9)
noncomputable def N0:=(ZA (mL (zc 3) (zc 6)<|zc 7) (.tp [9,10,11])<|zJ (kr (vi (jU<|sB<|zD jl<|zb (zc 2)<|zb (zc 10)<|zb (zc 9)<|zb (zc 9) zI)<|jU<|sB<|zD jl<|zb (zc 2)<|zb (zc 11)<|zb (zc 9)<|zb (zc 9) zI) (qv<|zu<|.bl eK) j9)<|kr (sB<|zy i7 (zD jB<|zb (zc 2)<|zb (zc 10)<|zb (zc 11) zI)<|zD xF<|zb (zc 9) zI) (qv<|zu<|.bl eK) j9)
noncomputable def R1:=(qv (zy hG (zD qu (zb (zc 0) (zb (zc 6) (zb (zc 7) zI)))) (zD kB (zb (zc 2) (zb (cK (zu (.str "")) (jm (zK (zN (zh 4)) (.nm 0) 1 [] jb (eL (zh 0) (zu (.int 0)))))) (zb (zc 5) zI))))))
def jP:=jr 12<|zJ DS<|zJ DT<|zJ Uz<|zJ M9<|zJ R0<|zJ N0 R1
def b1:=(kr (jU<|sB<|zD qK<|zb (zc 1) zI) YT j9)
def b2:=(jy 3<|zy j3 (YU<|zc 1)<|zu<|.int 1)
noncomputable def b3:=(kr (jU<|sB<|fK<|jm<|zK (zN<|zh 2) (.nm 0) 1 [3] jb (zD j8<|zb (zc 1)<|zb (zc 0) zI)) YT j9)
noncomputable def T6:=(Bh<|zD xh<|zb (qh<|zK (zN<|zh 2) (.nm 0) 1 [] jb (zy j3 (zy JI (eL (zh 0)<|zu<|.int 1)<|eL (zh 0)<|zu<|.int 0)<|zu<|.int 1)) zI)
def Pt:=(qv<|zD xD<|zb (zc 0)<|zb (zc 1)<|zb (zc 2) zI)
def vN:=jr 4<|zJ b1<|zJ b2<|zJ b3<|zJ T6 Pt
noncomputable def qo:=jr 1<|qv<|qW<|zb (eL (zh 0)<|zu<|.int 0)<|zb (zy JI (zy j3 (eL (zh 0)<|zu<|.int 0)<|kD<|zW<|eL (zh 0)<|zu<|.int 1)<|zu<|.int 1) zI
noncomputable def qi:=jr 2<|qv<|kX p5 Df (eL (zh 0)<|zu<|.int 0) (zc 1)<|zy j3 (eL (zh 0)<|zu<|.int 0)<|kD<|zW<|eL (zh 0)<|zu<|.int 1
noncomputable def xo:=jr 2<|Jp<|zK (zN<|zh 0) (.nm 0) 1 [1] (sB<|zD qi<|zb (zc 0)<|zb (zc 1) zI) (eL (zW<|eL (zh 0)<|zu<|.int 1)<|zy JI (zc 1)<|eL (zh 0)<|zu<|.int 0)
def kM:=jr 2<|qv<|zD qB<|zb (qW<|zb (kD<|zh 1)<|zb (zc 0)<|zb (zM<|zh 1) zI) zI
noncomputable def yb:=jr 5<|zJ (jy 4<|qh<|zK (aH (zc 2)<|zc 1) (.tp [0,1]) 2 [3] (sB<|zD qi<|zb (zc 1)<|zb (zc 2) zI) (zc 0))<|qv<|zD dW<|zb (eL (zh 0)<|zu<|.int 0)<|zb (zD kM<|zb (eL (zW<|eL (zh 0)<|zu<|.int 1)<|zc 3)<|zb (qh<|jV xo<|zb (zc 1)<|zb (zc 3) zI) zI)<|zb (zc 4) zI
noncomputable def Yp:=jr 5<|zJ (jy 3<|eL (zh 1)<|zD xc<|zb (zc 2) zI)<|zJ (jy 4<|qh<|zK (z7<|kD<|zW<|eL (zh 3)<|zu<|.int 1) (.nm 0) 1 [0,1,2,3] jb (zD yb<|zb (zc 1)<|zb (zc 2)<|zb (zc 3)<|zb (zy j3 (eL (zh 4)<|zu<|.int 0)<|zc 0) zI))<|qv<|qW<|zb (eL (zh 3)<|zu<|.int 0)<|zb (zM<|zh 4) zI
def UC:=(jy 3<|eL (zW<|eL (zW<|eL (zh 0)<|zu<|.int 2)<|zc 1)<|zu<|.int 0)
def UD:=(jy 4<|eL (zW<|eL (zW<|eL (zh 0)<|zu<|.int 2)<|zc 1)<|zu<|.int 1)
noncomputable def R5:=(jy 5 (cL (sB (zy hG (zc 3) (zu (.str "r")))) (qh (jV vZ (zb (eL (zh 0) (zu (.int 0))) (zb (zc 4) zI)))) (qh (jV ZZ (zb (eL (zh 0) (zu (.int 0))) (zb (zc 4) zI))))))
noncomputable def UE:=(jy 6<|qh<|jV kE<|zb (eL (zh 0)<|zu<|.int 0)<|zb (zD kM<|zb (eL (zW<|eL (zh 0)<|zu<|.int 1)<|zc 1)<|zb (qh<|jV xo<|zb (zc 2)<|zb (zc 1) zI) zI)<|zb (zc 5) zI)
noncomputable def UG:=(jy 7<|pR<|zK (zN<|zh 6) (.nm 0) 1 [] jb (qW<|zb (zD xc<|zb (zc 0) zI)<|zb (zc 0) zI))
noncomputable def UH:=(Jp<|zK (aI<|zc 2) (.tp [0,1]) 2 [0,2,7] jb (cL (sB<|Bi (zc 0)<|zc 4) (zD Yp<|zb (zc 2)<|zb (zc 3)<|zb (EK (zc 4)<|zc 0) zI)<|zc 1))
def Zv:=jr 8<|zJ UC<|zJ UD<|zJ R5<|zJ UE<|zJ UG UH
noncomputable def G8:=(kr (sB (zy hG (eL (zh 1) (zu (.int 0))) (zu (.str "l")))) (qv (zD vY (zb (zc 0) (zb (eL (zh 1) (zu (.int 1))) (zb (zc 2) zI))))) j9)
def P6:=(jy 3<|zD dW<|zb (zc 0)<|zb (eL (zh 1)<|zu<|.int 1)<|zb (zc 2) zI)
def P7:=(qv<|cL (sB<|Aw<|zh 3) (zc 3)<|zu .gm)
def xT:=jr 4<|zJ G8<|zJ P6 P7
noncomputable def UR:=(jy 3<|zD xT<|zb (zc 0)<|zb (zc 1)<|zb (eL (zW<|eL (zh 2)<|zu<|.int 1)<|EH<|zu<|.int 1) zI)
noncomputable def R8:=(qv<|cL (sB<|zy Eb (zc 3)<|zu .gm) (zc 2)<|qW<|zb (eL (zh 2)<|zu<|.int 0)<|zb (zy j3 (eL (zh 2)<|zu<|.int 1)<|qW<|zb (zc 3) zI) zI)
def yD:=jr 4<|zJ UR R8
noncomputable def M7:=(kr (sB (zy hG (eL (zh 1) (zu (.int 0))) (zu (.str "l")))) (Jp (jV vZ (zb (zc 0) (zb (eL (zh 1) (zu (.int 1))) zI)))) j9)
noncomputable def Uu:=(jy 2<|qh<|zK (zN<|jm<|jV ZZ<|zb (zc 0)<|zb (eL (zh 1)<|zu<|.int 1) zI) (.nm 0) 1 [] jb (zD xc<|zb (zc 0) zI))
noncomputable def Uv:=(Jp<|zK (XF<|eL (zW<|zD qy<|zb (eL (zW<|eL (zh 1)<|zu<|.int 1)<|zu<|.int 0) zI)<|zu<|.int 2) (.tp [0,1]) 2 [2] (sB<|KU (zc 0)<|zh 2) (zc 1))
def yY:=jr 3<|zJ M7<|zJ Uu Uv
def Ud:=(jy 3<|eL (zh 0)<|zu<|.int 0)
def Ue:=(jy 4<|eL (zW<|eL (zh 0)<|zu<|.int 2)<|zc 1)
noncomputable def Ug:=(jy 5<|qh<|zK (zN<|zh 2) (.nm 0) 1 [1] (jU<|sB<|zD qi<|zb (zc 0)<|zb (zc 1) zI) (zc 0))
noncomputable def Uh:=(jy 6<|qh<|jV Zv<|zb (zc 0)<|zb (zc 1)<|zb (qh<|zK (zN<|zh 2) (.nm 0) 1 [1] (sB<|zD qi<|zb (zc 0)<|zb (zc 1) zI) (zc 0)) zI)
noncomputable def Ui:=(jy 7<|qh<|zK (zN<|zh 6) (.nm 0) 1 [3,4] jb (zD yD<|zb (zc 1)<|zb (zc 2)<|zb (zc 0) zI))
noncomputable def Uj:=(jy 8<|qh<|zK (zN<|jm<|jV yY<|zb (zc 3)<|zb (zc 4) zI) (.nm 0) 1 [1] jb (qW<|zb (zy j3 (zc 1)<|zu<|.int 1)<|zb (qW<|zb (zc 0) zI) zI))
noncomputable def P2:=(qv (qh (We (zh 5) (zW (cL (sB (zy hG (eL (zh 4) (zu (.int 0))) (zu (.str "r")))) (qh (We (zh 8) (zh 7))) (qh (We (zh 7) (zh 8))))))))
def XA:=jr 9<|zJ Ud<|zJ Ue<|zJ Ug<|zJ Uh<|zJ Ui<|zJ Uj P2
noncomputable def O9:=(jy 1<|qh<|zK (zN<|zW<|eL (zW<|zD qy<|zb (eL (zW<|eL (zh 0)<|zu<|.int 1)<|zu<|.int 0) zI)<|zu<|.int 2) (.nm 0) 1 [] jb (qW<|zb (zu<|.int 0)<|zb (qW<|zb (zc 0) zI) zI))
noncomputable def TR:=(ZA (z7<|kD<|zW<|eL (zh 0)<|zu<|.int 2) (.nm 2)<|jy 1<|zD XA<|zb (zc 0)<|zb (zc 2)<|zb (zc 1) zI)
def TU:=(Jp<|fF qo<|zh 1)
def va:=jr 3<|zJ O9<|zJ TR TU
def T1:=(jy 1<|qh<|jV va<|zb (zc 0) zI)
noncomputable def T2:=(jy 2<|qh<|zK (XF<|eL (zh 0)<|zu<|.int 1) (.tp [0,1]) 2 [1] jb (zD kM<|zb (zc 1)<|zb (qh<|jV xo<|zb (zc 2)<|zb (zc 0) zI) zI))
noncomputable def T3:=(jy 3<|qh<|zK (zN<|zh 2) (.nm 0) 1 [0] jb (zD kO<|zb (eL (zh 1)<|zu<|.int 0)<|zb (zc 0) zI))
noncomputable def T4:=(qv<|qW<|zb (qh<|zK (zN<|zh 1) (.nm 0) 1 [] jb (zD qo<|zb (zc 0) zI))<|zb (zc 3)<|zb (zc 2) zI)
def y9:=jr 4<|zJ T1<|zJ T2<|zJ T3 T4
theorem zo(h:F γ=ej (.next γ'))(g:G γ'=r):zJ F G γ=r:=by rw[jj,h];exact g
theorem jg(h:F (jc n ds)=ej (.ret r)):jr n F ds=ej r:=by show(F<|jc n ds).bind _=_;rw[h];rfl
theorem VG{T:Tg}{F:CO Fl}(P:Nat->Ctx->Prop)(n:Nat){γ:Ctx}(O:P 0 γ)(step : ∀s,s<n->∀γ,P s γ->∃γ1 z,xH T (.int (s:Int)) γ=ej γ1/\F γ1=ej (.next z)/\P (s+1) z) :
 ∃γ',xq T F ((Me n).map λ(i:Nat)=>D.int (i:Int)) γ=ej (.next γ')/\P n γ':=by
 have a : ∀(k s:Nat) (γ:Ctx),s+k=n->P s γ->∃γ',xq T F ((Rw s k).map λ(i:Nat)=>D.int (i:Int)) γ=ej (.next γ')/\P n γ':=by
  intro k
  induction k with
  | zero=>
   intro s γ e I;obtain rfl:s=n:=by omega
   exact⟨γ,rfl,I⟩
  | succ k U=>
   intro s γ e I;obtain⟨γ1,z,b,Y,d⟩:=step s ⋯ γ I;obtain⟨γ',f,g⟩:=U (s+1) z ⋯ d;refine⟨γ',?_,g⟩;rw[Pw,MT,jM,b];simp only[Mj,Y];exact f
 have:=a n 0 γ ⋯ O;rw[<- OJ]at this;exact this
theorem vV(P:Nat->Ctx->Prop)(n:Nat)(C:n<=lim)(I:f γ=ej (.int (n:Int)))(O:P 0 γ)(step : ∀s,s<n->∀γ,P s γ->∃γ1 z,xH T (.int (s:Int)) γ=ej γ1/\F γ1=ej (.next z)/\P (s+1) z) :
 ∃γ',ZA (z7 f) T F γ=ej (.next γ')/\P n γ':=by
 obtain⟨γ',e,U⟩:=VG P n O step;refine⟨γ',?_,U⟩;have Y:=ju;have r:inR (n:Int)=eA:=Xb ⋯ ⋯;rw[KA,yC,I];simp only[Mj,j6,r,if_true,NY,jW];rw[jf n λi=>(i:Int)];exact e
@[simp] def Hy:=@Bf.eq_1
theorem nO{a b:Nat}(h:qT a=qT b):a=b:=by
 have:(qT a).cps=(qT b).cps:=by rw[h]
 simpa[qT]using this
def HP(m C:Nat)(w I:UK):Prop:=m=C/\∀k,k<m->w k=I k
instance (m m':Nat) (w w':UK):Decidable (HP m m' w w'):=inferInstanceAs (Decidable (m=m'/\∀k,k<m->w k=w' k))
section
variable{p p':Int}{m m':Nat}{w w':UK}{wd M_:UX}{T T':UW}
theorem sZ:j5 (jA p m w wd T)=ej (.T,[.int p,.tup<|zH (m+1) λk=>(wd k:Int),.tup (jN m w wd T)]):=rfl
theorem Aj(k):j5 (qX w wd T k)=ej (.T,[.str (qT<|il<|w k),z6 (l4 w wd k) (l5 w wd k) (T k)]):=rfl
theorem JR:zP (.nm 0) jb (eL (zh 0)<|zu<|.int 0) [Cell.no] (jN m w wd T)=ej ((Me m).map λk=>D.str<|qT<|il<|w k):=by unfold jN;refine zw _ _ λk z=>zx rfl rfl ?_;simp[Aj]
theorem VY(C:m<=900):Zu [jA p m w wd T]=ej (.val<|.str<|kU m w):=by
 have O:=ju;have z:m<=lim:=by omega
 have st:JZ ((Me m).map λk=>D.str<|qT<|il<|w k)=ej ((Me m).map λk=>qT<|il<|w k):=Jx _ _;have I:((Me m).map λk=>qT<|il<|w k).all j1=eA:=by simp only[NI];intro x a;obtain⟨k,_,rfl⟩:=MD.mp a;unfold il;split<;>decide
 have b:j1 "" = eA:=by decide +kernel
 simp only[Zu,jr,jc];simp only[vf,W8,q9,ke,qe,qA,ya,yX,jw,MT,RK,MH,MO,Ml,OZ,Mk,zO,sZ,Mj,Mr,j6,_y,Mn,rO,Nat.sub_self,Nc];rw[Zr,UJ z,show zZ 1 [] [Cell.val (jA p m w wd T)]=[Cell.no]from rfl,JR];simp only[Mr,Mj,st];rw[UJ ⟨by simpa using z,I,b⟩];rfl
end
theorem lx(xs:List D)(n:Nat)(C:xs.length=n)(J : ∀i (h:i<n),∃z,xs[i]'(C ▸ h) = .int z)(bi:n<=63)(k:Int)(S:0<=k)(bl:k<100000) :
 ∃m,z9 [.lst xs,.int k]=ej (.val<|.int m)/\0<=m/\m<1000000007:=by
 have O : ∀x:Int,JM x 48271=eA:=λx=>Jk _ _ ⋯ ⋯;have U : ∀x:Int,JM 7 x=eA:=λx=>vE _ _ ⋯ ⋯;have Y : ∀x:Int,JM 13 x=eA:=λx=>vE _ _ ⋯ ⋯;have e : ∀x:Int,JM x 69621=eA:=λx=>Jk _ _ ⋯ ⋯;have f:JM (7*k) k=eA:=Jk _ _ ⋯ ⋯;have I:Ee 10 9=eA:=by decide
 have b:Ee 10 30=eA:=by decide
 have hl:lim=2500:=rfl;by_cases as:n=0
 ·subst as
  have g:xs=[]:=Nk C;subst g;simp[z9,jr,jc,jj,O,U,Y,e,f,I,b];omega
 ·have l:0<n:=by omega
  obtain⟨i,N⟩:=Of (Na k<|show(n:Int)≠0 by omega);have r:i<n:=by have:=MN k (show(0:Int)<n by omega);omega
  obtain⟨zi,A⟩:=J i r;have T:k6 n (i:Int)=ej i:=by rw[xj,UJ r]
  by_cases L:n=1
  ·subst L
   have o:i=0:=by omega
   subst o;have k1:k%1=0:=by omega
   simp[z9,jr,jc,jj,O,U,Y,e,f,I,b,C,A];omega
  ·obtain⟨z0,g⟩:=J 0 l
   have o:k6 n 0=ej 0:=by have:=xj n 0;rw[UJ l]at this;exact this
   have E:(0:Int)<(n:Int) - 1:=by omega
   have F:(1:Int)<(n:Int):=by omega
   have y:1<n:=by omega
   have X:(n:Int) - 1<1073741824:=by omega
   have Z:(0:Int)<(n:Int):=by omega
   obtain⟨j,P⟩:=Of (Na k<|show(n:Int) - 1≠0 by omega);have u:1+j<n:=by have:=MN k E;omega
   obtain⟨zj,K⟩:=J (1+j) u;have W:k6 n (1+(j:Int))=ej (1+j):=by have:=xj n<|1+j;rw[UJ u]at this;rw[<- this];congr 1
   have M:0<=k/((n:Int) - 1)/\k/((n:Int) - 1)<=k:=⟨Int.ediv_nonneg S ⋯,Int.ediv_le_self _ S⟩;obtain⟨t,Q⟩:=Of M.1;by_cases B:z0%2=1
   ·obtain⟨a,G,bx⟩ : ∃a:Nat,(if (t:Int)<60 then (t:Int)else 60)=a/\a<=60:=by
     split
     ·exact⟨t,rfl,by omega⟩
     ·exact⟨60,rfl,by omega⟩
    have H:inR (a:Int)=eA:=Xb ⋯ ⋯;simp[z9,jr,jc,jj,O,U,Y,e,f,C,l,u,F,y,g,o,E,X,B,P,W,K,Q,I,b];rw[G,UJ H];simp only[Mj,jW,NY];rw[jf a λi=>(i:Int)];have w : ∀(m s:Nat) (v:Int) (c:Cell),∃p d,xq (.nm 3) (jy 2<|zy vz (zc 2)<|zy uT (zu<|D.int 10)<|zu<|D.int 9) ((Rw s m).map λ(i:Nat)=>D.int i) [.val (.lst xs),.val<|.int k,.val<|.int v,c,.no] =
     ej (.next [.val (.lst xs),.val<|.int k,.val<|.int p,d,.no]):=by
     intro m
     induction m with
     | zero=>intro s v c;exact⟨v,c,rfl⟩
     | succ m R=>
      intro s v c;rw[Pw,MT,jM];obtain⟨p,d,h⟩:=R (s+1) (v/10 ^ 9)<|.val<|.int s;refine⟨p,d,?_⟩;rw[<- h];simp[I]
    obtain⟨p,d,h⟩:=w a 0 zj .no;rw[<- OJ]at h;rw[h];simp[I];omega
   ·simp[z9,jr,jc,jj,O,U,Y,e,f,C,F,y,Z,l,g,o,B,N,A,r,T,I,b]
    omega
theorem uZ(C:List Int)(J:C.length<=63)(k:Int)(z:0<=k)(I:k<100000) : ∃m,z9 [kc C,.int k]=ej (.val<|.int m)/\0<=m/\m<1000000007:=
 lx (C.map D.int) C.length ⋯ (λi a=>⟨C[i],by simp⟩) J k z I
noncomputable def wJ(C:List Int)(k:Int):Int:=match z9 [kc C,.int k]with
 | some (.val<|.int m)=>m
 | _=>0
theorem ZV(C:ns.length<=63)(z:0<=k)(I:k<100000):z9 [kc ns,.int k]=ej (.val<|.int<|wJ ns k)/\0<=wJ ns k/\wJ ns k<1000000007:=by
 obtain⟨m,h,a,b⟩:=uZ ns C k z I;have e:wJ ns k=m:=by unfold wJ;rw[h]
 rw[e];exact⟨h,a,b⟩
def zU(bs:List (Int×Int)):List D:=bs.map λb=>D.tup [.int b.1,.int b.2]
@[simp] theorem Zq(bs):(zU bs).length=bs.length:=by simp[zU]
theorem Kj : ∀bs,Jg (zU bs)=ej bs
 | []=>rfl
 | b::bs=>by have z:=Kj bs;unfold zU at z;simp[zU,Jg,nJ,z]
def jv(bs:List (Int×Int)):List (Int×Int):=(qp bs).map λi=>bs.getD i (0,0)
theorem kC(bs):(jv bs).Perm bs:=by have:=(qa bs).map λi=>bs.getD i (0,0);rw[jk]at this;exact this
theorem J4{bs:List (Int×Int)}(h:bs.length<64):fv (zU bs)=ej (zU<|jv bs):=by unfold fv;rw[Kj];show(if (zU bs).length<64 then ej ((qp bs).map λi=>(zU bs).getD i .gm)else eF)=_;rw[Zq,UJ h];unfold jv;congr 1;unfold zU;rw[Nb];refine MA λi a=>?_;have a:i<bs.length:=Mg.mp<|(qa bs).mem_iff.mp a;simp[a]
def bX(n:Int)(b:Int×Int):Prop:=0<=b.1/\b.1<=b.2/\b.2<n
@[simp] def bU:=@X6.eq_1
section ap
variable(γ:Ctx)
@[simp] def Fx:=@pQ.eq_1
@[simp] def pA:=@X7.eq_1
@[simp] def pB:=@aI.eq_1
@[simp] def Et:=@EJ.eq_1
end ap
def Kv(b:Int×Int)(r:Int):Bool:=decide (b.1<=r) && decide (r<=b.2)
noncomputable def jz(bs:List (Int×Int))(r:Int):List Nat:=(Me bs.length).filter λi=>Kv (bs.getD i (0,0)) r
def Vt(l:List Nat):List D:=l.map λ(i:Nat)=>D.int i
@[simp] theorem nX(l):(Vt l).length=l.length:=by simp[Vt]
theorem QI(bs r):(jz bs r).length<=bs.length:=by have:=Sr (λi=>Kv (bs.getD i (0,0)) r)<|Me bs.length;simpa[jz]using this
theorem iO(bs:List (Int×Int)):qF (zU bs)=(Me bs.length).map λ(i:Nat)=>D.tup [.int i,.tup [.int (bs.getD i (0,0)).1,.int (bs.getD i (0,0)).2]]:=by unfold qF;rw[Zq];refine MA λi a=>?_;have a:=Mg.mp a;simp[zU,a]
theorem yd{bs:List (Int×Int)}(z:bs.length<=lim)(r:Int):yH [.lst (zU bs),.int r]=ej (.own<|Vt<|jz bs r):=by
 have a:zP (.tp [0,1]) (sB<|kX p5 p5 (eL (zh 1)<|zu<|.int 0) (zc 2)<|eL (zh 1)<|zu<|.int 1) (zc 0) [Cell.no,Cell.no,Cell.val (.int r)] ((Me bs.length).map λ(i:Nat)=>D.tup [.int i,.tup [.int (bs.getD i (0,0)).1,.int (bs.getD i (0,0)).2]]) =
  ej (((Me bs.length).filter λi=>Kv (bs.getD i (0,0)) r).map λ(i:Nat)=>D.int i):=by
  refine jD (λi=>Kv (bs.getD i (0,0)) r) (λ(i:Nat)=>D.int i) _ λi d=>⟨_,rfl,?_,λ_=>rfl⟩;generalize bs.getD i (0,0)=b;by_cases h:b.1<=r
  ·simp[Kv,h]
  ·simp[Kv,h]
 have I:(qF<|zU bs).length=bs.length:=by simp[qF]
 simp only[yH,jr,jc,W7,qe,pB,jZ,MT,RK,MH,MO,Ml,OZ,Si,OX,Mk,zG,Mj,I,z,if_true];rw[show zZ 2 [1] (Cell.val (D.lst<|zU bs)::Cell.val (D.int r)::Ml (2 - (0+1+1)) Cell.no)=[Cell.no,Cell.no,Cell.val (.int r)]from rfl,iO,a];rfl
theorem wN:jq=yH:=rfl
noncomputable def pL(e b:List Nat):D:= .tup [.int e.length,.int b.length,.tup (e.map λx=>D.tup<|b.map λy=>D.int<|if x=y then 1 else 0)]
theorem uv{b:List Nat}(z:b.length<=lim)(x:Nat):zP (.nm 0) jb (cL (sB<|zy hG (zc 1)<|zc 0) (zu<|.int 1)<|zu<|.int 0) [Cell.no,Cell.val (.int x)] (Vt b)=ej (b.map λy=>D.int<|if x=y then 1 else 0):=by
 unfold Vt;refine zw _ _ λy I=>zx rfl rfl ?_;by_cases h:x=y
 ·simp[h]
 ·have a : ¬((x:Int)=(y:Int)):=by omega
  simp[h,a]
theorem XW{e b:List Nat}(I:e.length<=lim)(z:b.length<=lim):kN [.lst (Vt e),.lst (Vt b)]=ej (.val<|pL e b):=by
 have a:zP (.nm 0) jb (zM<|jm<|zK (zN<|zh 1) (.nm 0) 1 [0] jb (cL (sB<|zy hG (zc 1)<|zc 0) (zu<|.int 1)<|zu<|.int 0)) [Cell.no,Cell.val (.lst<|Vt b)] (Vt e)=ej (e.map λx=>D.tup<|b.map λy=>D.int<|if x=y then 1 else 0):=by unfold Vt;refine zw _ _ λx d=>zx rfl rfl ?_;have:=uv z x;unfold Vt at this;simp[z,zZ,xA,Ml,this]
 simp[kN,jr,jc,jj,I,zZ,xA,Ml,a];rfl
theorem vL(n a b:Int):j8 [.int n,.tup [.int a,.int b]]=ej (.val<|.bl<|decide<|0<=a/\a<n/\0<=b/\b<n/\a<=b):=by
 have f:y8 [.tup [.int a,.int b],.int 2]=ej (.val<|.bl eA):=by simp[y8,jr,jc,sV,WM]
 by_cases d:0<=a<;>by_cases e:a<n<;>by_cases z:0<=b<;>by_cases I:b<n<;>simp[j8,jr,jc,jj,f,VZ,d,e,z,I]
theorem Gv:("r" : Str)=qT 114:=by decide
theorem Gw:("l" : Str)=qT 108:=by decide
theorem aU(a b:Nat):(qT a==qT b)=decide (a=b):=by
 by_cases h:a=b
 ·subst h;simp
 ·have:qT a≠qT b:=λe=>h (nO e)
  simp[h,this]
def G9(c:Nat):Bool:=decide (114=c) || decide (108=c)
theorem Yt{z:Str}(I:j1 z=eA):qK [.str z]=ej (.val<|.bl<|decide (z.length<6) && z.cps.toList.all G9):=by
 have d:zP (.nm 0) jb (EJ (zc 0) (zW (zu (.tup [.str "r",.str "l"])))) [Cell.no] (qD z)=ej (z.cps.toList.map λc=>D.bl (G9 c)):=by unfold qD;refine zw _ _ λc f=>zx rfl rfl ?_;show EJ (zc 0) (zW (zu (.tup [.str "r",.str "l"]))) [Cell.val (.str (qT c))]=_;simp only[Et,jZ,ya,q9,Mk,zG,Mj,rO,JZ,Mr,PN,List.any_nil,Bool.or_false];rw[Gv,Gw,aU,aU];rfl
 have O : ∀l:List Nat,wy (l.map λc=>D.bl<|G9 c)=ej (l.map G9):=λl=>by
  induction l with
  | nil=>rfl
  | cons a l U=>simp[wy,As,U]
 have Y:(qD z).length<=lim:=by
  have:z.length<=1000:=of_decide_eq_true I;have e:(qD z).length=z.length:=by show _=z.cps.size;simp[qD]
  rw[e,ju];exact NQ this ⋯
 by_cases h:z.length<6
 ·have b : ¬((6:Int)<=(z.length:Int)):=by omega
  simp[qK,jr,jc,jj,WM,I,h,b,Y,zZ,xA,Ml,d,O]
 ·have b:(6:Int)<=(z.length:Int):=by omega
  simp[qK,jr,jc,jj,WM,I,h,b]
theorem rV{m:Nat}(C:m<=5)(w:UK):qK [.str (kU m w)]=ej (.val<|.bl eA):=by
 rw[Yt (vO w ⋯),wO,Zx];have:((Me m).map λk=>il<|w k).all G9=eA:=by
  rw[List.all_map];exact NI.mpr λk _=>by show G9 (il<|w k)=eA;unfold il;cases w k<;>decide
 rw[this];have:m<6:=by omega
 simp[this]
theorem KC(z:Pr p)(I:h<=100)(C:w<=lim)(f:UV) :
 ∃r B l,ZZ [.int p,z6 h w f]=ej (.own<|jd r h B)/\kv p h r B l/\∀v,Span p h (f9 r B) v↔Span p h (f9 w λj i=>f i j) v:=by
 obtain⟨r,B,l,e,O,U⟩:=x9 z I C .T λj i=>f i j;have Y:=ju;refine⟨r,B,l,?_,O,U⟩;simp only[wh]at e;have o:=vJ f (show h<=lim by omega) C;unfold z6 at o ⊢;simp[ZZ,jr,jc,o,e]
theorem VH(P:Nat->Ctx->Prop) : ∀(ds C:List D) (k:Nat) (γ:Ctx),P k γ->(∀i d γ,ds[i]? = ej d->P (k+i) γ->∃γ',(xH T d γ).bind F=ej (.next γ')/\P (k+i+1) γ')->
 ∃γ',P (k+ds.length) γ'/\xq T F (ds++C) γ=xq T F C γ'
 | [],C,k,γ,h,_=>⟨γ,h,rfl⟩
 | d::ds,C,k,γ,h,step=>by
  obtain⟨a,e,f⟩:=step 0 d γ rfl h;obtain⟨γ',g,z⟩:=VH P ds C (k+1) a (by simpa using f) (λi b I j O=>by have:=step (i+1) b I (by simpa using j) (by rw[show k+(i+1)=k+1+i by omega];exact O);rw[show k+(i+1)+1=k+1+i+1 by omega]at this;exact this)
  refine⟨γ',by rw[show k+(d::ds).length=k+1+ds.length by simp;omega];exact g,?_⟩;rw[Si,jM];cases eb:xH T d γ with
  | none=>rw[eb]at e;simp at e
  | some U=>
   rw[eb]at e;simp only[Mj]at e ⊢;rw[e];exact z
theorem bA(n:Nat)(v:Vc):qF (zH n v)=(Me n).map λ(i:Nat)=>D.tup [.int i,.int (v i)]:=by unfold qF;rw[JE];refine MA λi a=>?_;have:=Mg.mp a;simp[zH,this]
theorem vK(S:n<=lim)(v:Vc)(J:a<n)(I : ∀i,i<a->v i=0)(C:v a≠0):xc [.tup (zH n v)]=ej (.val<|.int a):=by
 have d:zP (.tp [0,1]) (sB<|zy i7 (zc 1)<|zu<|.int 0) (zc 0) [Cell.no,Cell.no] ((Me n).map λ(i:Nat)=>D.tup [.int i,.int (v i)])=ej (((Me n).filter λi=> !decide (v i=0)).map λ(i:Nat)=>D.int i):=by refine jD _ _ _ λi f=>⟨_,rfl,?_,λ_=>rfl⟩;simp
 cases hf:(Me n).filter λi=> !decide (v i=0)with
 | nil=>exact absurd (by have:=Vp hf a J;simpa using this) C
 | cons b yp=>
  obtain⟨Y,O,U⟩:=Jj hf;have e:b=a:=by
   rcases Rh a b with z | z | z
   ·exact absurd (by have:=U a z;simpa using this) C
   ·exact z.symm
   ·exact absurd (I b z) (by simpa using O)
  subst e;rw[hf]at d;simp[xc,jr,jc,bA,S,zZ,Ml,d]
theorem Ky(J:a<n)(v z:Vc)(x:Int)(C:z a=x)(I : ∀i,i<n->i≠a->z i=v i):(zH n v).set a (.int x)=zH n z:=by
 apply NX;intro i;rw[Oi];by_cases b:i<n
 ·by_cases e:a=i
  ·subst e;simp[J,zH,C]
  ·have:=I i b (MV e)
   simp[e,zH,b,this]
 ·have d:(zH n v)[i]? = eF:=by simp[zH];omega
  have f:(zH n z)[i]? = eF:=by simp[zH];omega
  rw[d,f,UY ⋯]
noncomputable def aa(w:Nat)(B:Nat->Vc)(l:UX)(r:Nat):Vc:=λj=>zm (λk=>if l k=j then B k w else 0) r
noncomputable def yA:=(zJ (jy 6<|zD xc<|zb (zc 5) zI)<|zJ (kr (sB<|zy hG (zc 6)<|zc 3) (qv<|zu .gm) j9)<|J9 4 (zc 6)<|eL (zh 5)<|zc 3)
section
variable{p:Int}{h w r:Nat}
theorem aY{l:UX}(C : ∀k m,k<m->m<r->l k<l m){k m:Nat}(I:k<r)(O:m<r)(e:l k=l m):k=m:=by
 rcases Rh k m with z | z | z
 ·have:=C k m z O;omega
 ·exact z
 ·have:=C m k z I;omega
def aug(w:Nat)(f:UV)(b:Vc):Nat->Vc:=λi j=>if j<w then f i j else b i
theorem cF(a5:w+1<=lim)(O:kv p (w+1) r B l)(hs:s<=r)(h1 : ∀k,k<s->l k<w)(Z:List D)(S z I:Cell) :
 ∃C J,xq (.nm 5) yA (jd s (w+1) B++Z) [S,z,I,.val<|.int w,.own<|zH w λ_=>0,.no,.no]=xq (.nm 5) yA Z [S,z,I,.val<|.int w,.own<|zH w<|aa w B l s,C,J]:=by
 obtain⟨E,⟨C,J,rfl⟩,e⟩:=VH (T:= .nm 5) (F:=yA) (λt n=>∃C J,n=[S,z,I,.val<|.int w,.own<|zH w<|aa w B l t,C,J]) (jd s (w+1) B) Z 0 [S,z,I,.val<|.int w,.own<|zH w λ_=>0,.no,.no]
  ⟨.no,.no,by rw[xW (f:=aa w B l 0) (g:=λ_=>0) λi _=>rfl]⟩ (by
   rintro k d n a ⟨C,J,rfl⟩;rw[Nc];have j:k<s:=by have:=(Mv.mp a).1;simpa using this
   have o:d = .tup (zH (w+1)<|B k):=by simp[j]at a;exact a.symm
   subst o;have U:k<r:=by omega
   have b:=h1 k j;have le:=vK a5 (B k) (show l k<w+1 by omega) (λi h=>O.pb k i U h) (by rw[O.one k U];decide);refine⟨_,?_,.val<|.tup<|zH (w+1)<|B k,.val<|.int<|l k,rfl⟩;have Y : ¬((l k:Int)=(w:Int)):=by omega
   have u : ¬l k=w:=by omega
   have A:w<w+1:=by omega
   have x:=Ky b (aa w B l k) (aa w B l<|k+1) (B k w) (by
    unfold aa;simp only[zm,if_true];rw[zA (g:=λ_=>0) λm y=>by rw[UY λe=>by have:=O.mono m k y U;omega],zV]
    omega) (λi h Y=>by
    unfold aa;simp only[zm];rw[UY (MV Y)];omega)
   simp[yA,jj,le,Y,u,b,A,x])
 rw[oN]at e;refine⟨C,J,?_⟩;rw[e];rw[Nc]
theorem Af(w:Nat)(f:UV)(b:Vc)(i:Nat):zH w (f i)++[.int (b i)]=zH (w+1) (aug w f b i):=by
 unfold zH;rw[Oc,NA];congr 1
 ·exact MA λj z=>by simp[aug,Mg.mp z]
 ·simp[aug]
theorem Xx(J:Pr p)(S:h<=90)(Z:w<=90)(f:UV)(b:Vc) :
 ∃r B l s,kv p (w+1) r B l/\(∀v,Span p (w+1) (f9 r B) v↔Span p (w+1) (f9 h<|aug w f b) v)/\s<=r/\(∀k,k<s->l k<w)/\(∀k,s<=k->k<r->w<=l k)/\
  vY [.int p,z6 h w f,.tup (zH h b)]=ej (.val<|if s<r then .gm else .tup (zH w<|aa w B l s)):=by
 have W:=ju;have U:h<=lim:=by omega
 have m:w<=lim:=by omega
 have O:w+1<=lim:=by omega
 obtain⟨r,B,l,e,I,n⟩:=x9 J (show w+1<=100 by omega) U .L<|aug w f b;obtain⟨s,Y,j,g⟩:=Jy w I.mono;refine⟨r,B,l,s,I,n,Y,j,g,?_⟩;have a:zP (.tp [0,1]) jb (zy j3 (zc 0)<|qW<|zb (zc 1) zI) [Cell.no,Cell.no] ((Me h).map λi=>D.tup [.tup (zH w<|f i),.int (b i)])=ej (jd h (w+1)<|aug w f b):=by unfold jd;refine zw _ _ λi E=>zx rfl rfl ?_;simp[j3,O,Af]
 have K:Yu (jd h w f) (zH h b)=(Me h).map λi=>D.tup [.tup (zH w<|f i),.int (b i)]:=by unfold Yu jd zH;rw[OP];simp
 have o:Ml w (D.int 0)=zH w λ_=>0:=by rw[fR];rfl
 have y:((w+1:Nat):Int)=(w:Int)+1:=by omega
 simp only[wh]at e;rw[y]at e;obtain⟨d,C⟩ : ∃d,r=s+d:=⟨r - s,by omega⟩;have G:jd r (w+1) B=jd s (w+1) B++jd d (w+1) λk=>B (s+k):=by unfold jd;rw[C,RM,NA,Nb];rfl
 obtain⟨M,N,F⟩:=cF O I Y j (jd d (w+1) λk=>B<|s+k) (.val<|.int p) (.val<|z6 h w f)<|.val<|.tup<|zH h b;have H:j5 (z6 h w f)=ej (.T,[.int h,.int w,.tup (jd h w f)]):=rfl;have A:vY=jr 7 (zJ (jy 3<|eL (zh 1)<|zu<|.int 1)<|zJ (wz 4<|sU (jm<|kG<|zb (zu<|.int 0) zI)<|zc 3)<|zJ (ZA (zN<|zW<|qh<|jV ka<|zb (zc 0)<|zb (zy j3 (zc 3)<|zu<|.int 1)<|zb (qh<|zK (aH (eL (zh 1)<|zu<|.int 2)<|zc 2) (.tp [0,1]) 2 [] jb (zy j3 (zc 0)<|qW<|zb (zc 1) zI)) zI) (.nm 5) yA)<|qv<|zM<|zh 4):=rfl;rw[A];simp[jr,jc,jj,H,m,K,U,zZ,Ml,a,e];rw[o,G,F];by_cases z:s<r
 ·
  have t:d=1:=by
   rcases MK 1 d with q | q
   ·have P:=I.mono s (s+1) ⋯ ⋯
    have Q:=g s (Mp _) z;have R:=I.lt (s+1) ⋯;omega
   ·omega
  subst t;have u:l s=w:=by have:=g s (Mp _) z;have:=I.lt s z;omega
  have le:=vK O (B s) (show w<w+1 by omega) (λi E=>I.pb s i z ⋯) (by have:=I.one s z;rw[u]at this;rw[this];decide);have one:jd 1 (w+1) (λk=>B<|s+k)=[.tup (zH (w+1)<|B s)]:=rfl;rw[one,jM];simp[yA,jj,le,z]
 ·have x:d=0:=by omega
  subst x;have zero:jd 0 (w+1) (λk=>B<|s+k)=[]:=rfl;rw[zero];simp[xq,z]
end
@[simp] def FH:=@Ie.eq_1
section
variable{p:Int}{m:Nat}{w:UK}{wd:UX}{T:UW}{a:Nat}
theorem YI(F:Nat->Int)(s:Nat) : ∀d,zm F (s+d)=zm F s+zm (λk=>F<|s+k) d
 | 0=>by simp[zm]
 | d+1=>by rw[<- Sf];simp only[zm];rw[YI F s d];omega
abbrev lk(p:Int)(m:Nat)(w:UK)(wd:UX)(T:UW)(i j:Int)(a:Nat)(ds:List D)(c:Cell):Ctx:=[.val (jA p m w wd T),.val (.int i),.val (.int j),.val (z6 a a λi j=>if i=j then 1 else 0),.own ds,c]
end
@[simp] def Ew:=@Gd.eq_1
section
variable{p:Int}{m:Nat}{w:UK}{wd:UX}{T:UW}
theorem yo:j5 (jA p m w wd T)=ej (.T,[.int p,.tup<|zH (m+1) λk=>(wd k:Int),.tup (jN m w wd T)]):=rfl
end
@[simp] theorem Ex(γ:Ctx)(f):X7 f γ=(f γ).bind λd=>match d with
 | .str z=>if j1 z=eA then ej (qF<|qD z)else eF
 | _=>eF:=rfl
def pr(a b:Nat):D:= .tup [.int a,.int b]
@[simp] theorem Ij(a b):j5 (pr a b)=ej (.T,[.int (a:Int),.int (b:Int)]):=rfl
def mk(lo:Nat)(ch:List Int)(r:Nat):Int:=if lo<=r then ch.getD (r - lo) 0 else 0
noncomputable def N5:=jy 3<|qh<|zK (z7<|zy j3 (YU<|zc 0)<|zu<|.int 1) (.nm 0) 1 [1,2] (Wf (sB<|kX p5 p5 (eL (zh 1)<|zu<|.int 0) (zc 0)<|eL (zh 1)<|zu<|.int 1)<|sB<|kX p5 p5 (eL (zh 2)<|zu<|.int 0) (zc 0)<|eL (zh 2)<|zu<|.int 1) (zc 0)
def D_:=jy 4<|qh<|kG<|zb (qh<|kG zI) zI
def Yw(h w:Nat)(f:UV):List D:=(Me h).map λi=>D.lst<|zH w<|f i
@[simp] theorem oj(h w f):(Yw h w f).length=h:=by simp[Yw]
theorem qR(ds:List D):j5 (.lst ds)=ej (.L,ds):=rfl
theorem jY(ds:List D):j5 (.tup ds)=ej (.T,ds):=rfl
theorem aK(s:Nat)(f:Nat->α):(Me<|s+1).map f=(Me s).map f++[f s]:=by rw[Oc,NA];rfl
theorem pI(m:Nat)(wd:UX):(zH (m+1) λk=>(wd k:Int)).length=m+1:=by simp[zH]
theorem lL(s w wd T):jN (s+1) w wd T=jN s w wd T++[qX w wd T s]:=aK _ _
section
variable{p:Int}{m:Nat}{w:UK}{wd M_:UX}{T T' J:UW}
theorem YW(p m w wd T):j5 (jA p m w wd T)=ej (.T,[.int p,.tup<|zH (m+1) λk=>(wd k:Int),.tup (jN m w wd T)]):=rfl
end
section
variable{p:Int}{m:Nat}{w:UK}{wd M_:UX}{T T' J:UW}
theorem V7(h w f):j5 (z6 h w f)=ej (.T,[.int (h:Int),.int (w:Int),.tup (jd h w f)]):=rfl
theorem ZT(h w f):(jd h w f).length=h:=by simp[jd]
theorem WU(s w:Nat)(f:UV):jd (s+1) w f=jd s w f++[.tup (zH w<|f s)]:=aK _ _
end
def wl(l:List Bool):Str:=⟨⟨l.map il⟩⟩
noncomputable def GB(n k:Nat)(u:Nat->Int):Int:=if 0<k then (if k+1<n then u (k - 1)+(u (k+1)+0)else u (k - 1)+0)else if k+1<n then u (k+1)+0 else 0
def mv(n k:Nat)(u:Nat->Int)(i:Nat):Int:=if i=k then GB n k u - u k else u i
theorem An(h : ∀k,k<r->l k≠j):aa w B l r j=0:=by unfold aa;rw[zA (g:=λ_=>0) λk z=>UY<|h k z,zV]
theorem Ey{p:Int}{w n r:Nat}{B:Nat->Vc}{l:UX}(I:kv p n r B l){k:Nat}(z:k<r):aa w B l r (l k)=B k w:=by unfold aa;rw[zT z λm a O=>UY λe=>O<|aY I.mono a z e,UJ rfl]
theorem mI{p:Int}{h w:Nat}{f:UV}{b y:Vc}(U : ∀i,i<h->zm (λj=>f i j*y j) w%p=b i%p){v:Vc}(Y:Span p (w+1) (f9 h<|aug w f b) v):(v w - zm (λj=>v j*y j) w)%p=0:=by
 induction Y with
 | @zero v I=>
  have e:zm (λj=>v j*y j) w%p=zm (λ_=>0) w%p:=zS λj O=>by rw[Mt,I j ⋯];simp
  rw[B3,e,I w ⋯,zV];simp
 | @step v z g c n s a r=>
  obtain⟨i,o,rfl⟩:=n;have d:zm (λj=>v j*y j) w%p=(zm (λj=>z j*y j) w+c*zm (λj=>f i j*y j) w)%p:=by
   rw[<- jF,<- jI];refine zS λj O=>?_;rw[Mt,a j ⋯,<- Mt];have:aug w f b i j=f i j:=by simp[aug,O]
   rw[this,Sj,NB]
  have k:v w%p=(z w+c*b i)%p:=by
   rw[a w ⋯];have:aug w f b i w=b i:=by simp[aug]
   rw[this]
  have l:(c*zm (λj=>f i j*y j) w)%p=(c*b i)%p:=by rw[Mt,U i o,<- Mt]
  rw[B3,d,k,<- B3];have m:(z w+c*b i - (zm (λj=>z j*y j) w+c*zm (λj=>f i j*y j) w))=(z w - zm (λj=>z j*y j) w)+(c*b i - c*zm (λj=>f i j*y j) w):=by omega
  rw[m,Nn,r,B3,l];simp
theorem mJ(Y:Pr p)(J:h<=90)(S:w<=90)(f:UV)(b y:Vc)(U : ∀i,i<h->0<=b i/\b i<p)(Z : ∀i,i<h->zm (λj=>f i j*y j) w%p=b i) :
 ∃x:Vc,vY [.int p,z6 h w f,.tup (zH h b)]=ej (.val<|.tup<|zH w x)/\(∀j,0<=x j/\x j<p)/\∀i,i<h->zm (λj=>f i j*x j) w%p=b i:=by
 have L:=Y.pos;obtain⟨r,B,l,s,O,d,R,t,M,m⟩:=Xx Y J S f b;have u : ¬s<r:=λz=>by
  have P:=O.lt s z;have Q:=M s (Mp _) z;have F:l s=w:=by omega
  have N:=(d<|B s).mp (.gen ⟨s,z,rfl⟩);have q:=mI (y:=y) (λi a=>by rw[Z i a,NJ (U i a).1 (U i a).2]) N;have o:=O.one s z;rw[F]at o;have H:zm (λj=>B s j*y j) w=0:=by rw[zA (g:=λ_=>0) λj K=>by rw[O.pb s j z ⋯];simp];exact zV _
  rw[o,H,Int.sub_zero,Y.one]at q;omega
 rw[UY u]at m;have G:s=r:=by omega
 subst G;refine⟨_,m,λj=>?_,λi a=>?_⟩
 ·by_cases e : ∃k,k<s/\l k=j
  ·obtain⟨k,I,rfl⟩:=e
   rw[Ey O I];exact O.o5 k w I ⋯
  ·rw[An λk I E=>e ⟨k,I,E⟩];exact⟨Int.le_refl _,L⟩
 ·have n:=Js O ((d<|aug w f b i).mpr (.gen ⟨i,a,rfl⟩)) w ⋯
  have A:aug w f b i w=b i:=by simp[aug]
  rw[A,NJ (U i a).1 (U i a).2]at n;rw[n];congr 1;unfold aa;rw[zA (g:=λj=>zm (λk=>f i j*(if l k=j then B k w else 0)) s) λj _=>(jF _ _ _).symm,xl];refine zA λk I=>?_;rw[zT (i:=l k) (t k I) λj K C=>by rw[UY (MV C)];simp,UJ rfl];simp only[aug,UJ (t k I)]
def k8(wd:UX)(b:gR):List D:=(Me b.n).map λi=>D.tup<|zH (wd<|b.s+i)<|b.v<|b.s+i
def qC(wd:UX)(b:gR):D:= .tup [.int b.s,.tup (k8 wd b)]
@[simp] theorem dz(wd b):(k8 wd b).length=b.n:=by simp[k8]
theorem bc(h:i<b.n):(k8 wd b)[i]? = ej (.tup<|zH (wd<|b.s+i)<|b.v<|b.s+i):=by simp[k8,h]
@[simp] theorem Hm(wd b):j5 (qC wd b)=ej (.T,[.int b.s,.tup (k8 wd b)]):=rfl
section
variable{wd:UX}{b:gR}{pe:List gR}
theorem X3(C:1<=b.n)(I:b.s+b.n<=100):qo [qC wd b]=ej (.val<|.tup [.int b.s,.int ((b.s+b.n - 1:Nat):Int)]):=by
 have e:((b.s:Int)+(b.n:Int) - 1)=((b.s+b.n - 1:Nat):Int):=by omega
 simp[qo,jr,jc,qC,Ml];omega
theorem yT(C:b.s+b.n<=100)(r:Nat):qi [qC wd b,.int r]=ej (.val<|.bl<|b.has r):=by
 by_cases h:b.s<=r
 ·by_cases a:r<b.s+b.n
  ·have:(r:Int)<(b.s:Int)+b.n:=by omega
   simp[qi,jr,jc,qC,Ml,gR.has,h,a,this]
  ·have : ¬((r:Int)<(b.s:Int)+b.n):=by omega
   simp[qi,jr,jc,qC,Ml,gR.has,h,a,this]
 ·simp[qi,jr,jc,qC,Ml,gR.has,h]
theorem wH{N:Nat}{A:Nat->gR}(z : ∀j,j<N->(A j).s+(A j).n<=100)(I:N<=lim)(r:Nat) :
 xo [.lst ((Me N).map λj=>qC wd<|A j),.int r]=ej (.own<|((Me N).filter λj=>(A j).has r).map λj=>D.tup<|zH (wd r)<|(A j).v r):=by
 simp only[xo,jr,jc,W7,qe,qA,jw,MT,RK,MH,MO,Ml,OZ,Si,OX,Mk,wK,j5,Mr,Mj,MF,Nz,I,if_true];rw[jD (λj=>(A j).has r) (λj=>D.tup<|zH (wd r)<|(A j).v r) (Me N) λj O=>⟨_,rfl,?_,λY=>?_⟩]
 ·rfl
 ·have e:=yT (wd:=wd) (z j<|Mg.mp O) r
  simp[zZ,e]
 ·obtain⟨b,g⟩:=m4.mp Y
  obtain⟨i,rfl⟩:=Nat.exists_eq_add_of_le b;have a:i<(A j).n:=by omega
  have f:(((A j).s+i:Nat):Int) - ((A j).s:Int)=(i:Int):=by omega
  have U:=bc (wd:=wd) a;have I:=ju;have d:=z j<|Mg.mp O;simp[zZ,qC,a,U];rw[show((A j).s:Int)+(i:Int) - ((A j).s:Int)=(i:Int)by omega,xj,UJ a];exact U
theorem ZU(g:Nat->Vc)(z:q<=lim)(I:h<=lim):kM [.int h,.lst (jd q h g)]=ej (.val<|z6 h q λi j=>g j i):=by have e:=vJ (h:=q) (w:=h) g z I;unfold z6 at e;simp[kM,jr,jc,Ml,z,e];rfl
theorem ba(h:Nat)(u:Nat->Vc)(L:List Nat):(L.map λj=>D.tup<|zH h<|u j)=jd L.length h λi=>u (L.getD i 0):=by
 unfold jd
 conv=>lhs;rw[<- jk 0 L]
 rw[Nb];rfl
theorem oi(u:Nat->Int)(L:List Nat):(L.map λj=>D.int<|u j)=zH L.length λi=>u (L.getD i 0):=by
 unfold zH
 conv=>lhs;rw[<- jk 0 L]
 rw[Nb];rfl
theorem vQ(P:UK)(g:Nat->Int) : ∀N,zm (λi=>g<|((Me N).filter P).getD i 0) ((Me N).filter P).length=zm (λj=>if P j=eA then g j else 0) N
 | 0=>rfl
 | N+1=>by
  have z:=vQ P g N;rw[Oc,RL];show _=zm _ N+_;rw[<- z];cases hP:P N with
  | false=>simp[hP]
  | true=>
   have e:([N].filter P)=[N]:=by simp[hP]
   rw[e,NM,OY];show zm _ _+_=_;simp only[if_true];congr 1
   ·refine zA λi a=>?_
    simp[Mm,ND a]
   ·simp[Mm,hP]
end
section
variable{wd:UX}{N m:Nat}{A:Nat->gR}{p:Int}{w:UK}{T:UW}{t:Vc}
theorem mh:Yu (zH N t) ((Me N).map λj=>qC wd<|A j)=(Me N).map λj=>D.tup [.int (t j),qC wd (A j)]:=by
 unfold Yu zH;rw[List.zip_map,Nb];have e:(Me N).zip (Me N)=(Me N).map λi=>(i,i):=by rw[List.zip_eq_zipWith,List.zipWith_self]
 rw[e,Nb];rfl
theorem K7(U:Pr p)(Y : ∀j,j<N->(A j).s+(A j).n<=100)(S:N<=60)(Z:m<=5)(C : ∀k,wd k<=60)(hr:r<=m)(J : ∀j i,j<N->(A j).has r=eA->i<wd r->0<=(A j).v r i/\(A j).v r i<p) :
 yb [jA p m w wd T,.lst<|(Me N).map λj=>qC wd<|A j,.tup<|zH N t,.int r]=ej (.val<|.tup<|zH (wd r)<|sh p A N t r):=by
 have E:=ju;have G:=U.le;have B:=C r;have a:=wH (wd:=wd) Y (show N<=lim by omega) r;rw[ba (wd r) (λj=>(A j).v r)]at a;have F:((Me N).filter λj=>(A j).has r).length<=N:=by have:=Sr (λj=>(A j).has r)<|Me N;simpa using this
 have g:=ZU (q:=((Me N).filter λj=>(A j).has r).length) (h:=wd r) (λi=>(A<|((Me N).filter λj=>(A j).has r).getD i 0).v r) ⋯ ⋯;have I:=Yr (p:=p) (h:=wd r) (w:=((Me N).filter λj=>(A j).has r).length) .L (λi j=>(A<|((Me N).filter λj=>(A j).has r).getD j 0).v r i) (λi=>t<|((Me N).filter λj=>(A j).has r).getD i 0) U.pos ⋯ ⋯ (λi j y O=>by
  have b:((Me N).filter λj=>(A j).has r).getD j 0∈(Me N).filter λj=>(A j).has r:=by rw[Mm,Mi O];exact OB _
  obtain⟨u,x⟩:=MR.mp b;have:=J _ i (Mg.mp u) (by simpa using x) y;omega)
 have l:(zH (wd r) λi=>zm (λj=>(A<|((Me N).filter λj=>(A j).has r).getD j 0).v r i*t (((Me N).filter λj=>(A j).has r).getD j 0)) ((Me N).filter λj=>(A j).has r).length%p)=zH (wd r) (sh p A N t r):=xW λi _=>by unfold sh;rw[vQ (λj=>(A j).has r) (λj=>(A j).v r i*t j) N];congr 1;refine zA λj _=>?_;rw[Nx]
 rw[l]at I;have o:zP (.tp [0,1]) (sB<|zD qi<|zb (zc 1)<|zb (zc 2) zI) (zc 0) [.no,.no,.val (.int r)] ((Me N).map λj=>D.tup [.int (t j),qC wd (A j)])=ej (zH ((Me N).filter λj=>(A j).has r).length λi=>t<|((Me N).filter λj=>(A j).has r).getD i 0):=by rw[<- oi];refine jD (λj=>(A j).has r) (λj=>D.int<|t j) _ λj O=>⟨_,rfl,?_,λ_=>rfl⟩;have e:=yT (wd:=wd) (Y j<|Mg.mp O) r;simp[e]
 have d:r<m+1:=by omega
 have z:=mh (N:=N) (wd:=wd) (t:=t) (A:=A);simp only[wh]at I;have f:N<=lim:=by omega
 refine jg<|zo (γ':=[.val (jA p m w wd T),.val<|.lst<|(Me N).map λj=>qC wd<|A j,.val<|.tup<|zH N t,.val<|.int r,.val (.lst<|zH ((Me N).filter λj=>(A j).has r).length λi=>t<|((Me N).filter λj=>(A j).has r).getD i 0)]) ?_ ?_
 ·simp[-Mm,jc,zZ,Ml,z,o,f]
 ·simp[-Mm,jA,a,g,I,d]
theorem og(U:Pr p)(I : ∀j,j<N->(A j).s+(A j).n<=m+1)(Y:N<=60)(S:m<=5)(J : ∀k,wd k<=60)(Z : ∀j r i,j<N->(A j).has r=eA->i<wd r->0<=(A j).v r i/\(A j).v r i<p)(C:a<N)(t0 : ∀i,i<a->t i=0)(t1:t a≠0) :
 Yp [jA p m w wd T,.lst<|(Me N).map λj=>qC wd<|A j,.tup (zH N t)]=ej (.val<|qC wd<|G6 p A N t a):=by
 have E:=ju;have f:N<=lim:=by omega
 have h:=vK f t C t0 t1;have B:=I a C;have l:zP (.nm 0) jb (zD yb<|zb (zc 1)<|zb (zc 2)<|zb (zc 3)<|zb (zy j3 (eL (zh 4)<|zu<|.int 0)<|zc 0) zI) [.no,.val<|jA p m w wd T,.val<|.lst<|(Me N).map λj=>qC wd<|A j,.val<|.tup<|zH N t,.val (qC wd<|A a)] ((Me (A a).n).map λ(i:Nat)=>D.int i)=ej (k8 wd<|G6 p A N t a):=by
  unfold k8;refine zw _ _ λi b=>zx rfl rfl ?_;have b:=Mg.mp b;have e:=K7 (T:=T) (w:=w) (t:=t) U (λj z=>by have:=I j z;omega) Y S J (r:=(A a).s+i) (by have:i<(A a).n:=b;omega) λj c z x u=>Z j _ c z x u;have o:(((A a).s+i:Nat):Int)=((A a).s:Int)+(i:Int):=by omega
  rw[o]at e;have F:inR (((A a).s:Int)+(i:Int))=eA:=decide_eq_true (by have:i<(A a).n:=b;omega);simp[e];rfl
 have d:(A a).n<=lim:=by omega
 have y:inR ((A a).n:Int)=eA:=decide_eq_true ⋯;refine jg<|zo (γ':=[.val (jA p m w wd T),.val<|.lst<|(Me N).map λj=>qC wd<|A j,.val<|.tup<|zH N t,.val<|qC wd<|A a,.no]) ?_ (zo (γ':=[.val (jA p m w wd T),.val<|.lst<|(Me N).map λj=>qC wd<|A j,.val<|.tup<|zH N t,.val<|qC wd<|A a,.val (.lst<|k8 wd<|G6 p A N t a)]) ?_ ?_)
 ·simp[jc,Ml,h,C]
 ·have O:=l
  rw[show((Me (A a).n).map λ(i:Nat)=>D.int i)=zH (A a).n λi=>(i:Int)from rfl]at O;simp[zZ,jW,y,d,O]
 ·have g:(G6 p A N t a).n<=lim:=d
  simp[dz,g];rfl
end
def b4:=(jy 4<|qh<|X6<|zh 2)
def x1:CO Xn:=(UU (jU (sB (zD qK (zb (zc 1) zI)))) (FK "NoRow") U0)
noncomputable def x3:CO Xn:=(UU (jU (sB (fK (jm (zK (zN (zh 2)) (.nm 0) 1 [3] jb (zD j8 (zb (zc 1) (zb (zc 0) zI)))))))) (FK "NoRow") U0)
def x7:CO Xn:=(UU (sB (zy vu (sT (zh 6)) (zu (.int 30)))) (FK "TooMany") U0)
theorem Xj(m:Nat)(w:UK):qF (qD<|kU m w)=(Me m).map λ(k:Nat)=>D.tup [.int k,.str (qT<|il<|w k)]:=by
 have e:qD (kU m w)=(Me m).map λk=>D.str (qT<|il<|w k):=by unfold qD;rw[Zx,Nb];rfl
 unfold qF;rw[e];simp only[MF,Nz];refine MA λk z=>?_;simp[Mg.mp z]
def V2(n:Int)(b:Int×Int):Bool:=decide<|0<=b.1/\b.1<n/\0<=b.2/\b.2<n/\b.1<=b.2
theorem sE{n:Int}{b:Int×Int}(h:bX n b):V2 n b=eA:=by obtain⟨a,d,z⟩:=h;unfold V2;simp;omega
theorem fm(n:Int)(bs:List (Int×Int)):zP (.nm 0) jb (zD j8<|zb (zc 1)<|zb (zc 0) zI) [Cell.no,Cell.val (.int n)] (zU bs)=ej (bs.map λb=>D.bl<|V2 n b):=by unfold zU;refine zw _ _ λb z=>zx rfl rfl ?_;simp[vL,V2]
theorem KN{C:Type}(f:C->Bool)(l:List C):wy (l.map λc=>D.bl<|f c)=ej (l.map f):=by
 induction l with
 | nil=>rfl
 | cons a l z=>simp[wy,As,z]
noncomputable def xI(m:Nat)(bs:List (Int×Int)):List D:=(Me<|m+1).map λ(r:Nat)=>D.lst<|Vt<|jz bs r
def qL(m:Nat)(bs:List (Int×Int)):List D:=zH (m+1) λr=>((jz bs r).length:Int)
noncomputable def kK(m:Nat)(w:UK)(bs:List (Int×Int)):List D:=(Me m).map λk=>D.tup [.str (qT<|il<|w k),pL (jz bs<|jh w k) (jz bs<|ja w k)]
noncomputable def BR(p:Int)(m:Nat)(w:UK)(bs:List (Int×Int)):D:= .tup [.int p,.tup<|qL m bs,.tup (kK m w bs)]
def AH(m:Nat)(bs:List (Int×Int)):Int:=zm (λr=>((jz bs r).length:Int))<|m+1
section
variable{p:Int}{m:Nat}{w:UK}{bs:List (Int×Int)}
abbrev g0(p:Int)(z:Str)(bs:List (Int×Int)):Ctx:=[.val (.int p),.val (.str z),.val (.lst (zU bs)),.no,.no,.no,.no,.no]
abbrev g2(p:Int)(z:Str)(m:Nat)(bs:List (Int×Int)):Ctx:=[.val (.int p),.val (.str z),.val (.lst (zU bs)),.val (.int ((m+1:Nat):Int)),.no,.no,.no,.no]
abbrev g6(p:Int)(z:Str)(m:Nat)(bs:List (Int×Int)):Ctx:=[.val (.int p),.val (.str z),.val (.lst (zU bs)),.val (.int ((m+1:Nat):Int)),.val (.lst (zU (jv bs))),.val (.lst (xI m (jv bs))),.val (.tup (qL m (jv bs))),.no]
theorem aJ{r:Nat}(z:r<m+1):(xI m bs)[r]? = ej (.lst<|Vt<|jz bs r):=by simp[xI,z]
theorem X8:(xI m bs).length=m+1:=by simp[xI]
theorem V3:(qL m bs).length=m+1:=by simp[qL]
end
theorem QV:kB=jr 10 (zJ (jy 3<|qh<|zK (z7<|zy j3 (YU<|zc 1)<|zu<|.int 1) (.nm 0) 1 [2] jb (kD<|jm<|jV jq<|zb (zc 1)<|zb (zc 0) zI))<|zJ (wz 4<|kG zI)<|zJ (ZA (X7<|zc 1) (.tp [5,6]) dw)<|qv<|qW<|zb (zc 0)<|zb (zM<|zh 3)<|zb (zM<|zh 4) zI):=rfl
section
variable{p:Int}{m:Nat}{w:UK}{bs:List (Int×Int)}
theorem lF(w:UK)(k:Nat):((k:Int)+if w k=eA then 1 else 0)=((ja w k:Nat):Int):=by unfold ja;split<;>omega
theorem iR(w:UK)(k:Nat):((k:Int)+if (!w k)=eA then 1 else 0)=((jh w k:Nat):Int):=by unfold jh;cases w k<;>simp
theorem uF{b:List Nat}(x:Nat):zP (.nm 0) jb (km<|zy hG (zc 1)<|zc 0) [Cell.no,Cell.val (.int x)] (Vt b)=ej (b.map λy=>D.int<|if x=y then 1 else 0):=by
 unfold Vt;refine zw _ _ λy z=>zx rfl rfl ?_;by_cases h:x=y
 ·simp[h]
 ·have a : ¬((x:Int)=(y:Int)):=by omega
  simp[h,a]
abbrev lc(p:Int)(m:Nat)(w:UK)(bs:List (Int×Int))(acc:List D)(c5 c6 c7 c8 c9:Cell):Ctx:=[.val (.int p),.val (.str (kU m w)),.val (.lst (zU bs)),.val (.lst (qL m bs)),.own acc,c5,c6,c7,c8,c9]
noncomputable def bP(w:UK)(bs:List (Int×Int))(k:Nat):D:=D.tup [.str (qT<|il<|w k),pL (jz bs<|jh w k) (jz bs<|ja w k)]
theorem hU(hm:m<=5)(hb:bs.length<64){k:Nat}(z:k<m)(acc:List D)(Z:acc.length<lim)(J S C:Cell) : ∃O U Y,dw (lc p m w bs acc (.val<|.int k) (.val<|.str<|qT<|il<|w k) J S C)=ej (.next<|lc p m w bs (acc++[bP w bs k]) (.val<|.int k) (.val<|.str<|qT<|il<|w k) O U Y):=by
 have E:=ju;have I:bs.length<=lim:=by omega
 have d:=ZS w z;have e:=ZW w z;have f : ∀r:Int,(jz bs r).length<=lim:=λr=>by have:=QI bs r;omega
 have l:=rH (w k);have o:=WS (w k);have g:=lF w k;have h:=iR w k;refine⟨.val (.int ((ja w k:Nat):Int)),.val (.int ((jh w k:Nat):Int)),.val (.lst ((jz bs (jh w k)).map λx=>D.tup ((jz bs (ja w k)).map λy=>D.int (if x=y then 1 else 0)))),?_⟩;have s:(jy 7 (zy j3 (zc 5) (km (zy hG (zc 6) (zu (.str "l")))))) (lc p m w bs acc (.val (.int k)) (.val (.str (qT (il (w k))))) J S C)=ej (.next (lc p m w bs acc (.val (.int k)) (.val (.str (qT (il (w k))))) (.val (.int ((ja w k:Nat):Int))) S C)):=by rw[<- g];simp[lc,l]
 have t : ∀J,(jy 8 (zy j3 (zc 5) (km (zy hG (zc 6) (zu (.str "r")))))) (lc p m w bs acc (.val (.int k)) (.val (.str (qT (il (w k))))) J S C)=ej (.next (lc p m w bs acc (.val (.int k)) (.val (.str (qT (il (w k))))) J (.val (.int ((jh w k:Nat):Int))) C)):=λJ=>by rw[<- h];simp[lc,o]
 have a:zP (.nm 0) jb (zM<|jm<|zK (zN<|jm<|jV jq<|zb (zc 1)<|zb (zc 2) zI) (.nm 0) 1 [0] jb (km<|zy hG (zc 1)<|zc 0)) [Cell.no,Cell.val<|.lst<|zU bs,Cell.val (.int ((ja w k:Nat):Int))] (Vt<|jz bs<|jh w k)=ej ((jz bs<|jh w k).map λx=>D.tup<|(jz bs<|ja w k).map λy=>D.int<|if x=y then 1 else 0):=by rw[Vt];refine zw _ _ λx F=>zx rfl rfl ?_;have:=uF (b:=jz bs<|ja w k) x;simp[wN,yd I,f,zZ,xA,Ml,this]
 have u:(jy 9<|qh<|zK (zN<|jm<|jV jq<|zb (zc 2)<|zb (zc 8) zI) (.nm 0) 1 [2,7] jb (zM<|jm<|zK (zN<|jm<|jV jq<|zb (zc 1)<|zb (zc 2) zI) (.nm 0) 1 [0] jb (km<|zy hG (zc 1)<|zc 0))) (lc p m w bs acc (.val<|.int k) (.val<|.str<|qT<|il<|w k) (.val<|.int ((ja w k:Nat):Int)) (.val<|.int ((jh w k:Nat):Int)) C) =
  ej (.next<|lc p m w bs acc (.val<|.int k) (.val<|.str<|qT<|il<|w k) (.val<|.int ((ja w k:Nat):Int)) (.val<|.int ((jh w k:Nat):Int))<|.val<|.lst<|(jz bs<|jh w k).map λx=>D.tup<|(jz bs<|ja w k).map λy=>D.int<|if x=y then 1 else 0):=by
  rw[ve,vH,qe,qA,ke,pC];simp only[lc,jO,qU,jZ,Mk,Mn,zG,Mj,Mr,wN,yd I,mO,nX,f,if_true];rw[show zZ 1 [2,7] [Cell.val (D.int p),Cell.val<|D.str<|kU m w,Cell.val<|D.lst<|zU bs,Cell.val<|D.lst<|qL m bs,Cell.own acc,Cell.val<|D.int (k:Int),Cell.val<|D.str<|qT<|il<|w k,Cell.val<|D.int ((ja w k:Nat):Int),Cell.val<|D.int ((jh w k:Nat):Int),C]=[Cell.no,Cell.val<|.lst<|zU bs,Cell.val (.int ((ja w k:Nat):Int))]from rfl];rw[wN]at a;rw[a];rfl
 have wl:(qL m bs).length=m+1:=V3;have i:k6 (m+1) ((jh w k:Nat):Int)=ej (jh w k):=by rw[xj,UJ d]
 have j:k6 (m+1) ((ja w k:Nat):Int)=ej (ja w k):=by rw[xj,UJ e]
 have A:(qL m bs)[jh w k]? = ej (.int ((jz bs<|jh w k).length:Int)):=Yg (n:=m+1) (λr=>((jz bs r).length:Int)) d;have B:(qL m bs)[ja w k]? = ej (.int ((jz bs<|ja w k).length:Int)):=Yg (n:=m+1) (λr=>((jz bs r).length:Int)) e;unfold dw;rw[jj,s];show zJ _ _ _=_;rw[jj,t];show zJ _ _ _=_;rw[jj,u,KR];simp only[Zt,lc,vG,jO,qU,jZ,yX,jw,xR,Mk,Mn,zG,zO,WZ,bO,Mj,Mr,j6,wl,i,j,A,B,MH,MO,Z,if_true];rfl
theorem Ju(S:m<=5)(J:bs.length<64):kB [.int p,.str<|kU m w,.lst (zU bs)]=ej (.val<|BR p m w bs):=by
 have P:=ju;have n:bs.length<=lim:=by omega
 have z:m+1<=lim:=by omega
 have I:=vO w (show m<=1000 by omega);have L:zP (.nm 0) jb (kD<|jm<|jV jq<|zb (zc 1)<|zb (zc 0) zI) [Cell.no,Cell.val (.lst<|zU bs)] (zH (m+1) λi=>(i:Int))=ej (qL m bs):=by unfold qL;rw[jf,jf];refine zw _ _ λr Q=>zx rfl rfl ?_;simp[wN,yd n]
 have G:(jy 3<|qh<|zK (z7<|zy j3 (YU<|zc 1)<|zu<|.int 1) (.nm 0) 1 [2] jb (kD<|jm<|jV jq<|zb (zc 1)<|zb (zc 0) zI)) (jc 10 [.int p,.str<|kU m w,.lst (zU bs)])=ej (.next [.val (.int p),.val<|.str<|kU m w,.val<|.lst<|zU bs,.val<|.lst<|qL m bs,.no,.no,.no,.no,.no,.no]):=by rw[ve,vH,qe,yC,show jc 10 [D.int p,.str<|kU m w,.lst (zU bs)]=[.val (.int p),.val<|.str<|kU m w,.val<|.lst<|zU bs,.no,.no,.no,.no,.no,.no,.no]from rfl];simp only[xZ,Am,jZ,q9,Mk,Mn,zG,Mj,I,if_true,wO,oV,j6];rw[show((m:Int)+1)=((m+1:Nat):Int)by omega];simp only[Xc z,if_true,NY,Mj,jW,JE,z];rw[show zZ 1 [2] [Cell.val (D.int p),Cell.val<|D.str<|kU m w,Cell.val<|D.lst<|zU bs,Cell.no,Cell.no,Cell.no,Cell.no,Cell.no,Cell.no,Cell.no]=[Cell.no,Cell.val (.lst<|zU bs)]from rfl,L];rfl
 have j : ∀(k s:Nat) (f g a b d:Cell),s+k=m->∃o t u x y,xq (.tp [5,6]) dw ((Rw s k).map λ(k:Nat)=>D.tup [.int k,.str (qT<|il<|w k)]) (lc p m w bs ((Me s).map (bP w bs)) f g a b d)=ej (.next<|lc p m w bs ((Me m).map (bP w bs)) o t u x y):=by
  intro k
  induction k with
  | zero=>
   intro s f g a b d h;obtain rfl:s=m:=by omega
   exact⟨f,g,a,b,d,rfl⟩
  | succ k K=>
   intro s f g a b d h;obtain⟨O,U,Y,e⟩:=hU (p:=p) (w:=w) S J (show s<m by omega) ((Me s).map (bP w bs)) (by simp;omega) a b d;obtain⟨A,B,C,E,F,l⟩:=K (s+1) (.val<|.int s) (.val<|.str<|qT<|il<|w s) O U Y ⋯;refine⟨A,B,C,E,F,?_⟩;rw[Pw,MT,jM];show((dw<|lc p m w bs _ (.val<|.int s) (.val<|.str<|qT<|il<|w s) a b d).bind _)=_;rw[e];rw[Oc,NA,SS]at l;exact l
 obtain⟨M,N,O,U,Y,e⟩:=j m 0 .no .no .no .no .no ⋯;rw[<- OJ]at e;have H:j1 (kU m w)=eA:=I;rw[QV];unfold jr;rw[jj,G];show(zJ _ _ _).bind _=_;rw[jj];show(zJ _ _<|lc p m w bs [] .no .no .no .no .no).bind _=_;rw[jj,KA,pA];simp only[lc,jZ,Mk,Mn,zG,Mj,H,if_true,Xj];simp only[lc,List.range_zero,RK]at e;rw[e];simp[BR];rfl
end
section
variable{p:Int}{m:Nat}{w:UK}{bs:List (Int×Int)}
def Ax(b:List Nat)(x:Nat):D:=D.tup<|b.map λy=>D.int<|if x=y then 1 else 0
theorem aw(e b:List Nat):pL e b = .tup [.int e.length,.int b.length,.tup (e.map<|Ax b)]:=rfl
theorem iY(b x):deep (Ax b x)<=1:=by
 have:ra (b.map λy=>D.int<|if x=y then 1 else 0)<=0:=xX λd a=>by obtain⟨y,_,rfl⟩:=MD.mp a;simp[deep]
 unfold Ax;simp only[deep];omega
theorem iX(e b):deep (pL e b)<=3:=by
 have:ra (e.map<|Ax b)<=1:=xX λd a=>by obtain⟨y,_,rfl⟩:=MD.mp a;exact iY b y
 rw[aw];simp only[deep,ra];omega
theorem nS(b x):kA (Ax b x)=eA:=by
 unfold Ax;simp only[kA];exact yO λd a=>by obtain⟨y,_,rfl⟩:=MD.mp a;simp[kA]
theorem nR(e b):kA (pL e b)=eA:=by
 rw[aw];simp only[kA,s9,OC,Rt];exact yO λd a=>by obtain⟨y,_,rfl⟩:=MD.mp a;exact nS b y
theorem rj:nf (BR p m w bs)=eA:=by
 refine Vm (n:=6) ?_ ⋯ ?_
 ·have b:ra (qL m bs)<=0:=xX λd a=>by
   unfold qL zH at a;obtain⟨y,_,rfl⟩:=MD.mp a;simp[deep]
  have e:ra (kK m w bs)<=4:=xX λd a=>by unfold kK at a;obtain⟨k,_,rfl⟩:=MD.mp a;have:=iX (jz bs<|jh w k)<|jz bs<|ja w k;simp only[deep,ra];omega
  unfold BR;simp only[deep,ra];omega
 ·have b:s9 (qL m bs)=eA:=yO λd a=>by
   unfold qL zH at a;obtain⟨y,_,rfl⟩:=MD.mp a;simp[kA]
  have e:s9 (kK m w bs)=eA:=yO λd a=>by unfold kK at a;obtain⟨k,_,rfl⟩:=MD.mp a;have O:=nR (jz bs<|jh w k)<|jz bs<|ja w k;have z:=gL<|w k;simp only[nf,My]at z;simp only[kA,s9,Rt,My];have I:=z.2;simp only[kA]at I;exact⟨I,O⟩
  unfold BR;simp[kA,s9,b,e]
end
end DL
namespace DL
open PySem L2 PySem.W PyProof.Rows
def n5(x y:Int×Int):Prop:=wq y x=eK
theorem Zi(x):n5 x x:=by unfold n5 wq;simp
theorem K8:n5 x y↔x.1<y.1\/(x.1=y.1/\x.2<=y.2):=by
 unfold n5 wq;by_cases h:y.1=x.1
 ·rw[UJ h,decide_eq_false_iff_not];omega
 ·rw[UY h,decide_eq_false_iff_not];omega
theorem hJ:wq x y=eA↔x.1<y.1\/(x.1=y.1/\x.2<y.2):=by
 unfold wq;by_cases h:x.1=y.1
 ·rw[UJ h,decide_eq_true_iff];omega
 ·rw[UY h,decide_eq_true_iff];omega
theorem Zh(a:n5 x y)(b:n5 y z):n5 x z:=by rw[K8]at *;omega
theorem Zj(a:wq x y=eA):n5 x y:=by rw[hJ]at a;rw[K8];omega
theorem Cq(a:wq x y=eA)(b:n5 y z):wq x z=eA:=by rw[hJ]at *;rw[K8]at b;omega
theorem K9(a:n5 x y)(b:n5 y x):x=y:=by rw[K8]at *;obtain⟨x1,z⟩:=x;obtain⟨I,O⟩:=y;simp only[Prod.mk.injEq]at *;omega
section
variable(key:Nat->Int×Int)
def vA(p:Array Nat)(i:Nat):Int×Int:=key<|p.getD i 0
def mu(i j:Nat):Bool:=wq (key i)<|key j
def A5(p:Array Nat)(n:Nat):Prop:=∀i j,i<=j->j<n->n5 (vA key p i) (vA key p j)
def Dec(p:Array Nat)(n:Nat):Prop:=∀i j,i<=j->j<n->n5 (vA key p j) (vA key p i)
variable{key}
theorem yn(f:α->KasT β) : ∀t:KasT α,kn lt (t.bind f)=kn lt (f<|kn lt t)
 | .ret a=>rfl
 | .ask i j k=>yn f<|k<|lt i j
theorem yJ(p:Array Nat)(i j):(kas_rev p i j).size=p.size:=mirror_size _ _ _ _
theorem FM(p:Array Nat)(i:Nat):vA key p i=key (p[i]?.getD 0):=by unfold vA;rw[OV]
theorem eC(z:j<=p.size)(k:Nat):vA key (kas_rev p i j) k=if i<=k/\k<j then vA key p (i+j - 1 - k)else vA key p k:=by have:=getElem?_mirror_all (xs:=p) (i:=i) z k;unfold vA kas_rev;rw[OV,this];split<;>rw[OV]
theorem JT(I:j<=p.size)(z : ∀k,i<=k->k<j->vA key p k=vA key p (j - 1))(k:Nat):vA key (kas_rev p i j) k=vA key p k:=by
 rw[eC I];split
 ·rename_i h
  rw[z _ ⋯ ⋯,z k h.1 h.2]
 ·rfl
theorem pJ(z:k<p.size)(I:l<=k)(i:Nat):vA key (bubble p k<|k - l) i=if i=l then vA key p k else if l<i/\i<=k then vA key p (i - 1)else vA key p i:=by
 have:=getElem?_bubble (xs:=p) z (k - l) ⋯ i;rw[show k - (k - l)=l by omega]at this;simp only[FM];rw[this];split
 ·rfl
 ·split<;>rfl
theorem mH(C:1<=n)(z:A5 key p n)(h:n5 (vA key p<|n - 1) (vA key p n)):A5 key p (n+1):=λi j I U=>by
 by_cases e:j=n
 ·subst e
  by_cases O:i=j
  ·subst O;exact Zi _
  ·exact Zh (z i (j - 1) ⋯ ⋯) h
 ·exact z i j I ⋯
theorem JH(C:1<=n)(z:Dec key p n)(h:n5 (vA key p n) (vA key p<|n - 1)):Dec key p (n+1):=λi j I U=>by
 by_cases e:j=n
 ·subst e
  by_cases O:i=j
  ·subst O;exact Zi _
  ·exact Zh h<|z i (j - 1) ⋯ ⋯
 ·exact z i j I ⋯
theorem lJ(p:Array Nat) : ∀(f n:Nat),1<=n->A5 key p n->n<=kn (mu key) (kas_asc p f n)/\kn (mu key) (kas_asc p f n)<=n+f/\A5 key p (kn (mu key)<|kas_asc p f n)/\(kn (mu key) (kas_asc p f n)=n+f\/wq (vA key p<|kn (mu key)<|kas_asc p f n) (vA key p<|kn (mu key) (kas_asc p f n) - 1)=eA)
 | 0,n,hn,hs=>⟨Mp _,Mp _,hs,.inl rfl⟩
 | f+1,n,hn,hs=>by
  have e:kn (mu key) (kas_asc p (f+1) n)=kn (mu key) (if wq (vA key p n) (vA key p<|n - 1)=eA then .ret n else kas_asc p f (n+1)):=rfl;rw[e];by_cases c:wq (vA key p n) (vA key p<|n - 1)=eA
  ·rw[UJ c]
   exact⟨Mp _,by show n<=n+(f+1);omega,hs,.inr c⟩
  ·rw[UY c]
   obtain⟨O,U,z,I⟩:=lJ p f (n+1) ⋯ (mH hn hs<|by unfold n5;simpa using c);exact⟨by omega,by omega,z,I.imp (λh=>by omega) id⟩
noncomputable def O3(key:Nat->Int×Int)(p:Array Nat)(n q:Nat):Prop:=q+1<=n/\∀i,n - (q+1)<=i->i<n->vA key p i=vA key p (n - 1)
theorem W0(p:Array Nat)(C:1<=n):O3 key p n 0:=⟨C,λi a b=>by rw[show i=n - 1 by omega]⟩
theorem Yi : ∀(f:Nat) (p:Array Nat) (n q:Nat),Dec key p n->O3 key p n q->n+f<=p.size->
 ∃C n' z,kn (mu key) (kas_desc f p n q)=(C,n',z)/\C.size=p.size/\n<=n'/\n'<=n+f/\Dec key C n'/\O3 key C n' z
 | 0,p,n,q,hd,hb,_=>⟨p,n,q,rfl,rfl,Mp _,Mp _,hd,hb⟩
 | f+1,p,n,q,hd,hb,hs=>by
  have b:1<=n:=by have:=hb.1;omega
  have e:kn (mu key) (kas_desc (f+1) p n q)=kn (mu key) (if wq (vA key p n) (vA key p<|n - 1)=eA then (if q>0 then kas_desc f (kas_rev p (n - (q+1)) n) (n+1) 0 else kas_desc f p (n+1) 0)
   else .ask (p.getD (n - 1) 0) (p.getD n 0) λd=>if d=eA then .ret (p,n,q)else kas_desc f p (n+1) (q+1)):=rfl
  rw[e];by_cases c:wq (vA key p n) (vA key p<|n - 1)=eA
  ·rw[UJ c]
   by_cases Y:q>0
   ·rw[UJ Y]
    have k:=JT (key:=key) (p:=p) (i:=n - (q+1)) (j:=n) ⋯ hb.2;have m:Dec key (kas_rev p (n - (q+1)) n) (n+1):=λi j o u=>by rw[k,k];exact JH b hd (Zj c) i j o u
    obtain⟨C,n',z,a,I,g,h,O,U⟩:=Yi f (kas_rev p (n - (q+1)) n) (n+1) 0 m (W0 _ ⋯) (by rw[yJ];omega);exact⟨C,n',z,a,by rw[I,yJ],by omega,by omega,O,U⟩
   ·rw[UY Y]
    obtain⟨C,n',z,a,I,g,h,O,U⟩:=Yi f p (n+1) 0 (JH b hd<|Zj c) (W0 _ ⋯) ⋯;exact⟨C,n',z,a,I,by omega,by omega,O,U⟩
  ·rw[UY c]
   have s:kn (mu key) (.ask (p.getD (n - 1) 0) (p.getD n 0) λd=>if d=eA then .ret (p,n,q)else kas_desc f p (n+1) (q+1))=kn (mu key) (if wq (vA key p<|n - 1) (vA key p n)=eA then .ret (p,n,q)else kas_desc f p (n+1) (q+1)):=rfl;rw[s];by_cases d:wq (vA key p<|n - 1) (vA key p n)=eA
   ·rw[UJ d]
    exact⟨p,n,q,rfl,rfl,Mp _,by omega,hd,hb⟩
   ·rw[UY d]
    have w:n5 (vA key p<|n - 1) (vA key p n):=by unfold n5;simpa using c
    have l:n5 (vA key p n) (vA key p<|n - 1):=by unfold n5;simpa using d
    have eq:=K9 w l;have r:O3 key p (n+1) (q+1):=⟨by have:=hb.1;omega,λi x y=>by
     rw[Nat.add_sub_cancel];by_cases t:i=n
     ·rw[t]
     ·rw[hb.2 i ⋯ ⋯,eq]⟩
    obtain⟨C,n',z,a,I,g,h,O,U⟩:=Yi f p (n+1) (q+1) (JH b hd l) r ⋯;exact⟨C,n',z,a,I,by omega,by omega,O,U⟩
noncomputable def lZ(key:Nat->Int×Int)(C nrem:Nat)(r:Nat×Array Nat):Prop:=1<=r.1/\r.1<=nrem/\r.2.size=C/\A5 key r.2 r.1
theorem av(J:1<=n)(O:n<=nrem)(U:nrem<=p.size)(C:Dec key p n):lZ key p.size nrem (kn (mu key)<|kas_tail3 n nrem p):=by
 have z:A5 key (kas_rev p 0 n) n:=λi j Y d=>by rw[eC ⋯,eC ⋯,UJ ⟨by omega,by omega⟩,UJ ⟨by omega,by omega⟩];exact C _ _ ⋯ ⋯
 obtain⟨a,b,I,_⟩:=lJ (kas_rev p 0 n) (nrem - n) n J z;unfold kas_tail3;rw[yn];exact⟨by show 1<=kn _ _;omega,by show kn _ _<=nrem;omega,yJ _ _ _,I⟩
theorem gH(J:1<=n)(S:n<nrem)(Z:nrem<=p.size)(O : ∀i,i<n->vA key p i=vA key p (n - 1))(C:wq (vA key p n) (vA key p<|n - 1)=eA):lZ key p.size nrem (kn (mu key)<|kas_descPart n nrem p):=by
 have h:Dec key p n:=λi j U I=>by rw[O i ⋯,O j I];exact Zi _
 obtain⟨b,a,z,f,Y,k,l,d,g⟩:=Yi (nrem - (n+1)) p (n+1) 0 (JH J h<|Zj C) (W0 _ ⋯) ⋯;unfold kas_descPart;rw[yn,f];show lZ key p.size nrem (kn (mu key)<|if z>0 then kas_tail3 a nrem (kas_rev b (a - (z+1)) a)else kas_tail3 a nrem b);split
 ·have e:=JT (key:=key) (p:=b) (i:=a - (z+1)) (j:=a) ⋯ g.2
  have:=av (p:=kas_rev b (a - (z+1)) a) (n:=a) (nrem:=nrem) ⋯ ⋯ (by rw[yJ];omega) (λi j U I=>by rw[e,e];exact d i j U I);rw[yJ,Y]at this;exact this
 ·have:=av (p:=b) (n:=a) (nrem:=nrem) ⋯ ⋯ ⋯ d
  rw[Y]at this;exact this
theorem oY(J:1<=nrem)(C:nrem<=p.size):lZ key p.size nrem (kn (mu key)<|kas_count nrem p):=by
 have f:A5 key p 1:=λi j m r=>by rw[show i=j by omega];exact Zi _
 obtain⟨z,d,I,U⟩:=lJ p (nrem - 1) 1 (Mp _) f;unfold kas_count;rw[yn];generalize kn (mu key) (kas_asc p (nrem - 1) 1)=n at z d I U;show lZ key p.size nrem (kn (mu key)<|if (n==nrem)=eA then .ret (n,p)else if n>1 then .ask (p.getD 0 0) (p.getD (n - 1) 0) λc=>if c=eA then .ret (n,p)else kas_descPart n nrem (kas_rev p 0 n)else kas_descPart n nrem p);split
 ·rename_i h
  have:=eq_of_beq h;exact⟨z,by show n<=nrem;omega,rfl,I⟩
 ·rename_i h
  have o:n≠nrem:=λe=>h (by rw[e];exact beq_self_eq_true _);have Y:wq (vA key p n) (vA key p<|n - 1)=eA:=U.resolve_left ⋯;split
  ·have e:kn (mu key) (.ask (p.getD 0 0) (p.getD (n - 1) 0) λc=>if c=eA then .ret (n,p)else kas_descPart n nrem (kas_rev p 0 n))=kn (mu key) (if wq (vA key p 0) (vA key p<|n - 1)=eA then .ret (n,p)else kas_descPart n nrem (kas_rev p 0 n)):=rfl
   rw[e];split
   ·exact⟨z,by show n<=nrem;omega,rfl,I⟩
   ·rename_i c
    have l:n5 (vA key p<|n - 1) (vA key p 0):=by unfold n5;simpa using c
    have b : ∀i,i<n->vA key p i=vA key p (n - 1):=λi a=>K9 (I i (n - 1) ⋯ ⋯)<|Zh l<|I 0 i ⋯ a;have O:=JT (key:=key) (p:=p) (i:=0) (j:=n) ⋯<|λk _ g=>b k g;have:=gH (key:=key) (p:=kas_rev p 0 n) (n:=n) (nrem:=nrem) z ⋯ (by rw[yJ];omega) (λi a=>by rw[O,O];exact b i a) (by rw[O,O];exact Y);rw[yJ]at this;exact this
  ·exact gH z ⋯ C (λi a=>by rw[show i=n - 1 by omega]) Y
theorem K3(I:A5 key p k) : ∀(f l r:Nat),l<=r->r<=k->r - l<=f->(∀i,i<l->n5 (vA key p i) (vA key p k))->(∀i,r<=i->i<k->wq (vA key p k) (vA key p i)=eA)->
 kn (mu key) (kas_place p k f l r)<=k/\(∀i,i<kn (mu key) (kas_place p k f l r)->n5 (vA key p i) (vA key p k))/\∀i,kn (mu key) (kas_place p k f l r)<=i->i<k->wq (vA key p k) (vA key p i)=eA
 | 0,l,r,h1,h2,h3,h4,h5=>⟨by show l<=k;omega,h4,λi a z=>h5 i (by have:l<=i:=a;omega) z⟩
 | f+1,l,r,h1,h2,h3,h4,h5=>by
  have e:kn (mu key) (kas_place p k (f+1) l r)=kn (mu key) (if l>=r then .ret l else .ask (p.getD k 0) (p.getD ((l+r)/2) 0) λc=>if c=eA then kas_place p k f l ((l+r)/2)else kas_place p k f ((l+r)/2+1) r):=rfl;rw[e];by_cases O:l>=r
  ·rw[UJ O]
   exact⟨by show l<=k;omega,h4,λi a z=>h5 i (by have:l<=i:=a;omega) z⟩
  ·rw[UY O]
   have U:kn (mu key) (.ask (p.getD k 0) (p.getD ((l+r)/2) 0) λc=>if c=eA then kas_place p k f l ((l+r)/2)else kas_place p k f ((l+r)/2+1) r)=kn (mu key) (if wq (vA key p k) (vA key p<|(l+r)/2)=eA then kas_place p k f l ((l+r)/2)else kas_place p k f ((l+r)/2+1) r):=rfl;rw[U];by_cases c:wq (vA key p k) (vA key p<|(l+r)/2)=eA
   ·rw[UJ c]
    exact K3 I f l ((l+r)/2) ⋯ ⋯ ⋯ h4 λi a z=>Cq c<|I _ _ a z
   ·rw[UY c]
    have b:n5 (vA key p<|(l+r)/2) (vA key p k):=by unfold n5;simpa using c
    exact K3 I f ((l+r)/2+1) r ⋯ h2 ⋯ (λi a=>Zh (I i ((l+r)/2) ⋯ ⋯) b) h5
theorem Bz(O:k<p.size)(U:l<=k)(I:A5 key p k)(C : ∀i,i<l->n5 (vA key p i) (vA key p k))(h2 : ∀i,l<=i->i<k->wq (vA key p k) (vA key p i)=eA):A5 key (bubble p k<|k - l) (k+1):=λi j d e=>by
 rw[pJ O U,pJ O U];by_cases b:i=l
 ·subst b
  rw[UJ rfl];by_cases z:j=i
  ·rw[UJ z];exact Zi _
  ·rw[UY z,UJ ⟨by omega,by omega⟩]
   exact Zj<|h2 _ ⋯ ⋯
 ·rw[UY b]
  by_cases Y:l<i/\i<=k
  ·rw[UJ Y,UY (show ¬j=l by omega),UJ ⟨by omega,by omega⟩]
   exact I _ _ ⋯ ⋯
  ·rw[UY Y]
   by_cases z:j=l
   ·rw[UJ z];exact C i ⋯
   ·rw[UY z]
    by_cases a:l<j/\j<=k
    ·rw[UJ a];exact I _ _ ⋯ ⋯
    ·rw[UY a];exact I _ _ d ⋯
theorem rM : ∀(f:Nat) (p:Array Nat) (k n:Nat),k+f=n->p.size=n->A5 key p k->A5 key (kn (mu key)<|kas_bin f p k) n/\(kn (mu key)<|kas_bin f p k).size=n
 | 0,p,k,n,h1,h2,hs=>by
  obtain rfl:k=n:=by omega
  exact⟨hs,h2⟩
 | f+1,p,k,n,h1,h2,hs=>by obtain⟨z,I,O⟩:=K3 hs k 0 k ⋯ (Mp _) ⋯ (λi a=>by omega) (λi U Y=>by omega);unfold kas_bin;rw[yn];exact rM f _ (k+1) n ⋯ (by rw[bubble_size];exact h2)<|Bz ⋯ z hs I O
theorem sG(C:1<=n):A5 key (kn (mu key)<|kas_sort n) n/\(kn (mu key)<|kas_sort n).size=n:=by
 have a:(OW<|Me n).size=n:=by simp
 obtain⟨I,O,U,z⟩:=oY (key:=key) (p:=OW<|Me n) (nrem:=n) C ⋯;unfold kas_sort;rw[yn];generalize kn (mu key) (kas_count n<|OW<|Me n)=r at I O U z;show A5 key (kn (mu key)<|if r.1<n then kas_bin (n - max r.1 1) r.2 (max r.1 1)else .ret r.2) n/\(kn (mu key)<|if r.1<n then kas_bin (n - max r.1 1) r.2 (max r.1 1)else .ret r.2).size=n;rw[show max r.1 1=r.1 by omega];split
 ·exact rM (n - r.1) r.2 r.1 n ⋯ ⋯ z
 ·have:r.1=n:=by omega
  rw[this]at z;exact⟨z,by show r.2.size=n;omega⟩
end
theorem Jb(bs:List (Int×Int)):(jv bs).Pairwise n5:=by
 unfold jv qp;by_cases h:bs.length<2
 ·rw[UJ h]
  rcases bs with _ | ⟨a,_ | ⟨b,bs⟩⟩
  ·exact Pg.nil
  ·exact List.pairwise_singleton _ _
  ·simp only[MH]at h;omega
 ·rw[UY h]
  obtain⟨f,g⟩:=sG (key:=λi=>bs.getD i (0,0)) (n:=bs.length) ⋯;have e:(kn (λi j=>wq (bs.getD i (0,0))<|bs.getD j (0,0))<|kas_sort bs.length)=kn (mu λi=>bs.getD i (0,0)) (kas_sort bs.length):=rfl;rw[e];generalize kn (mu λi=>bs.getD i (0,0)) (kas_sort bs.length)=p at f g;rw[OE];intro i j d z I;simp only[MF,NV]at d z;have:=f i j ⋯ ⋯;unfold vA at this;simp only[OV,Array.getElem?_eq_getElem d,Array.getElem?_eq_getElem z,Pn]at this;simpa using this
theorem J2 : ∀{a b:List (Int×Int)},a.Perm b->a.Pairwise n5->b.Pairwise n5->a=b
 | [],b,h,_,_=>by rw[h.nil_eq]
 | x::a,[],h,_,_=>by have:=h.length_eq;simp at this
 | x::a,y::b,h,ha,hb=>by
  have d:x∈y::b:=h.mem_iff.mp Mx;have I:y∈x::a:=h.mem_iff.mpr Mx;have e:x=y:=by
   rcases Mu.mp d with e | e
   ·exact e
   ·rcases Mu.mp I with z | z
    ·exact z.symm
    ·exact K9 (List.rel_of_pairwise_cons ha z)<|List.rel_of_pairwise_cons hb e
  subst e;rw[J2 (List.Perm.cons_inv h) ha.of_cons hb.of_cons]
theorem J5(h:a.Perm b):jv a=jv b:=
 J2 ((kC a).trans (h.trans (kC b).symm)) (Jb a) (Jb b)
end DL
namespace DL
open PySem L2
theorem tj:xD=jr 6 (zJ ES<|zJ ER<|zJ EO EN):=rfl
theorem Ap:yI=jr 2 (zJ rQ FI):=rfl
section
variable{p:Int}{m:Nat}{w:UK}{bs:List (Int×Int)}
theorem wg(J:m<=5)(U:bs.length<64):xD [.int p,.str<|kU m w,.lst (zU bs)]=ej (.val<|BR p m w<|jv bs):=by
 have G:=ju;have I:m+1<=lim:=by omega
 have Y:m<=lim:=by omega
 have h:(jv bs).length<=lim:=by rw[(kC bs).length_eq];omega
 have O:=vO w (show m<=1000 by omega);have wl:=wO m w;have g : ∀r:Int,(jz (jv bs) r).length<=lim:=λr=>by have:=QI (jv bs) r;rw[(kC bs).length_eq]at this;omega
 have s:zP (.nm 0) jb (qh<|jV yH<|zb (zc 1)<|zb (zc 0) zI) [Cell.no,Cell.val (.lst<|zU<|jv bs)] (zH (m+1) λi=>(i:Int))=ej (xI m<|jv bs):=by rw[jf];unfold xI;refine zw _ _ λr j=>zx rfl rfl ?_;simp[yd h]
 have u:zP (.nm 0) jb (kD<|zh 0) [Cell.no] (xI m<|jv bs)=ej (qL m<|jv bs):=by unfold xI qL;rw[jf];refine zw _ _ λr j=>zx rfl rfl ?_;simp
 have a:zP (.tp [0,1]) jb (qW<|zb (zc 1)<|zb (zD kN<|zb (eL (zh 2)<|zD wb<|zb (zc 0)<|zb (zc 1) zI)<|zb (eL (zh 2)<|zD qJ<|zb (zc 0)<|zb (zc 1) zI) zI) zI) [Cell.no,Cell.no,Cell.val (.lst<|xI m<|jv bs)] (qF<|qD<|kU m w)=ej (kK m w<|jv bs):=by
  rw[Xj];unfold kK;refine zw _ _ λk z=>zx rfl rfl ?_;have z:=Mg.mp z;have d:=ZS w z;have f:=ZW w z;have t:=XW (g<|jh w k)<|g<|ja w k;have y:=aJ (bs:=jv bs) d;have A:=aJ (bs:=jv bs) f;have n:k6 (m+1) ((jh w k:Nat):Int)=ej (jh w k):=by rw[xj,UJ d]
  have o:k6 (m+1) ((ja w k:Nat):Int)=ej (ja w k):=by rw[xj,UJ f]
  show qW _ [Cell.val (.int k),Cell.val<|.str<|qT<|il<|w k,Cell.val (.lst<|xI m<|jv bs)]=_;simp only[vG,jO,qU,jZ,xS,yX,jw,Mk,Mn,zG,zO,bO,Mj,Mr,bY,wx,mP,j6,X8,n,o,y,A,t,MH,MO];rfl
 have l:(qF<|qD<|kU m w).length<=lim:=by rw[Xj];simpa using Y
 have B:ES (jc 6 [.int p,.str<|kU m w,.lst (zU bs)])=ej (.next [.val (.int p),.val<|.str<|kU m w,.val<|.lst<|zU bs,.val<|.lst<|zU<|jv bs,.no,.no]):=by unfold ES;simp[jc,Ml,qR,J4 U]
 have C:ER [.val (.int p),.val<|.str<|kU m w,.val<|.lst<|zU bs,.val<|.lst<|zU<|jv bs,.no,.no]=ej (.next [.val (.int p),.val<|.str<|kU m w,.val<|.lst<|zU bs,.val<|.lst<|zU<|jv bs,.val<|.lst<|xI m<|jv bs,.no]):=by
  have r:inR ((m:Int)+1)=eA:=Xb ⋯ ⋯;have e:((m:Int)+1).toNat=m+1:=by omega
  unfold ER;simp[wl,O,r,e,jW,zZ,xA,Ml,I,s]
 have E:EO [.val (.int p),.val<|.str<|kU m w,.val<|.lst<|zU bs,.val<|.lst<|zU<|jv bs,.val<|.lst<|xI m<|jv bs,.no]=ej (.next [.val (.int p),.val<|.str<|kU m w,.val<|.lst<|zU bs,.val<|.lst<|zU<|jv bs,.val<|.lst<|xI m<|jv bs,.val (.lst<|kK m w<|jv bs)]):=by
  have b:X7 (zc 1) [.val (.int p),.val<|.str<|kU m w,.val<|.lst<|zU bs,.val<|.lst<|zU<|jv bs,.val<|.lst<|xI m<|jv bs,.no]=ej (qF<|qD<|kU m w):=by show(if j1 (kU m w)=eA then _ else _)=_;rw[UJ O]
  unfold EO;rw[ve,vH,qe,b];simp only[Mj];rw[UJ l,show zZ 2 [4] [.val (.int p),.val<|.str<|kU m w,.val<|.lst<|zU bs,.val<|.lst<|zU<|jv bs,.val<|.lst<|xI m<|jv bs,.no]=[Cell.no,Cell.no,Cell.val (.lst<|xI m<|jv bs)]from rfl,a];rfl
 have F:EN [.val (.int p),.val<|.str<|kU m w,.val<|.lst<|zU bs,.val<|.lst<|zU<|jv bs,.val<|.lst<|xI m<|jv bs,.val (.lst<|kK m w<|jv bs)]=ej (.ret<|.val<|BR p m w<|jv bs):=by
  have x:3<=lim:=by omega
  unfold EN;simp[qR,X8,I,zZ,xA,Ml,u,x,BR]
 rw[tj];exact jg<|zo B<|zo C<|zo E F
def Jr(n:Int)(bs:List (Int×Int)):Bool:=bs.all<|V2 n
def kW(bs:List (Int×Int)):Bool:=decide<|bs=jv bs
theorem Kx(a b c d:Int):ml (.tup [.int a,.int b]) (.tup [.int c,.int d])=(a==c && b==d):=by simp[ml,uf,j_]
theorem Xi : ∀a b:List (Int×Int),uf (zU a) (zU b)=decide (a=b)
 | [],[]=>rfl
 | [],_::_=>rfl
 | _::_,[]=>rfl
 | (x1,x2)::a,(y1,y2)::b=>by have z:=Xi a b;show(ml (.tup [.int x1,.int x2]) (.tup [.int y1,.int y2]) && uf (zU a) (zU b))=_;rw[z,Kx];by_cases d:x1=y1<;>by_cases e:x2=y2<;>by_cases I:a=b<;>simp[d,e,I]
end
section
variable{p:Int}{m:Nat}{w:UK}{wd:UX}{f g T:UW}
theorem gZ{n:Nat}{a:Nat->Int}{x:Nat->Int}{i:Nat}(J:i<n)(C : ∀k,k<n->a k%p=l8 i k%p):zm (λk=>a k*x k) n%p=x i%p:=by rw[zS (g:=λk=>l8 i k*x k) λk z=>wG (C k z) rfl,zT J λk _ I=>by simp[l8,MV I]];simp[l8]
theorem gY{n:Nat}{a:Nat->Int}{x:Nat->Int}{i:Nat}(C:i<n)(ha : ∀k,k<n->a k%p=l8 k i%p):zm (λk=>x k*a k) n%p=x i%p:=by rw[zS (g:=λk=>x k*l8 k i) λk z=>wG rfl<|ha k z,zT C λk _ I=>by simp[l8,I]];simp[l8]
theorem eQ(I : ∀k,k<m+1->Pair p (wd k) (f k) (g k)){k i j:Nat}(O:k<m)(C:i<wd (jh w k))(U:j<wd (ja w k))(Y:0<=T k i j/\T k i j<p):qb p w wd g f (qb p w wd f g T) k i j=T k i j:=by
 have n:=I _<|ZS w O;have h:=I _<|ZW w O;have o : ∀a b,qb p w wd f g T k a b=zm (λc=>f (jh w k) a c*(zm (λd=>T k c d*g (ja w k) d b) (wd<|ja w k)%p)) (wd<|jh w k)%p:=λa b=>(V5 k a b).symm;have r : ∀b,b<wd (ja w k)->zm (λa=>qb p w wd f g T k a b*g (jh w k) i a) (wd<|jh w k)%p=zm (λd=>T k i d*g (ja w k) d b) (wd<|ja w k)%p:=λb e=>by rw[zA (g:=λa=>g (jh w k) i a*(zm (λc=>f (jh w k) a c*(zm (λd=>T k c d*g (ja w k) d b) (wd<|ja w k)%p)) (wd<|jh w k)%p)) λa _=>by rw[o,Nx]];rw[JV p (g<|jh w k) (f<|jh w k) (λc b=>zm (λd=>T k c d*g (ja w k) d b) (wd<|ja w k)%p) (wd<|jh w k) (wd<|jh w k) i b];rw[gZ (i:=i) C λl z=>by rw[MM];exact n.gf i l C z];rw[MM]
 show zm (λb=>f (ja w k) b j*(zm (λa=>qb p w wd f g T k a b*g (jh w k) i a) (wd<|jh w k)%p)) (wd<|ja w k)%p=_;rw[zA (g:=λb=>(zm (λd=>T k i d*g (ja w k) d b) (wd<|ja w k)%p)*f (ja w k) b j) λb e=>by rw[r b e,Nx]];rw[<- JV p (T k) (g<|ja w k) (f<|ja w k) (wd<|ja w k) (wd<|ja w k) i j];rw[gY (i:=j) U λl z=>by rw[MM];exact h.gf l j z U];exact NJ Y.1 Y.2
end
theorem uA:jB=jr 6 (zJ Cp<|zJ GH<|zJ GG Fc):=rfl
theorem uB:jl=jr 5 (zJ GJ<|zJ AA<|zJ GI Ip):=rfl
theorem uz:qu=jr 11 (zJ GF<|zJ GE<|zJ GD EZ):=rfl
noncomputable def ltB:=(xu 4<|zM<|jm<|zK (zN<|zh 3) (.nm 0) 1 [0,5] jb (zy qw (sT<|jm<|zK (aH (zc 2)<|zc 0) (.tp [0,1]) 2 [] jb (zy xJ (zc 0)<|zc 1))<|zc 1))
theorem V6(f g:UV)(C:0<p)(Z:h<=400)(hm:m<=400)(hw:w<=400)(J : ∀i j,i<m->j<w->0<=g i j/\g i j<100) :
 jB [.int p,z6 h m f,z6 m w g]=ej (.val<|z6 h w λi j=>zm (λk=>f i k*g k j) m%p):=by
 have hl:=ju;have l1:h<=lim:=by omega
 have r:m<=lim:=by omega
 have t:w<=lim:=by omega
 have u:=V7 h m f;have U:=V7 m w g;have B:k6 3 0=ej 0:=rfl;have n:k6 3 1=ej 1:=rfl;have o:k6 3 2=ej 2:=rfl;have F : ∀j:Nat,j<w->zP (.nm 0) jb (eL (zh 0)<|zc 1) [Cell.no,Cell.val (.int (j:Int))] (jd m w g)=ej (zH m λk=>g k j):=λj I=>by
  rw[jf];unfold jd;refine zw _ _ λi X=>zx rfl rfl ?_;show eL _ _ [Cell.val (.tup<|zH w<|g i),Cell.val (.int (j:Int))]=_;have e:(zH w<|g i)[j]? = ej (.int<|g i j):=by unfold zH;simp[I]
  have A:(zH w<|g i).length=w:=by simp[zH]
  simp only[yX,jw,jZ,Mk,Mn,zO,zG,jY,Mj,j6,A,xj,I,if_true,e]
 have G:zP (.nm 0) jb (qh<|zK (zN<|zW<|eL (zh 1)<|zu<|.int 2) (.nm 0) 1 [0] jb (eL (zh 0)<|zc 1)) [Cell.no,Cell.val (z6 m w g)] (zH w λi=>(i:Int))=ej (Yw w m λj k=>g k j):=by
  rw[jf w λi=>(i:Int)];unfold Yw;refine zw _ _ λj I=>zx rfl rfl ?_;have I:=Mg.mp I;have dl:(jd m w g).length<=lim:=by rw[ZT];exact r
  show qh _ [Cell.val (.int (j:Int)),Cell.val (z6 m w g)]=_;simp only[vH,qe,qA,ya,yX,jw,q9,Mk,Mn,MH,MO,Nc,Nv,zO,Mj,Mr,U,j6,o,jY,dl,if_true];rw[show zZ 1 [0] [Cell.val (.int (j:Int)),Cell.val (z6 m w g)]=[Cell.no,Cell.val (.int (j:Int))]from rfl,F j I];rfl
 have M:Cp (jc 6 [.int p,z6 h m f,z6 m w g])=ej (.next [.val (.int p),.val<|z6 h m f,.val<|z6 m w g,.val<|.lst<|Yw w m λj k=>g k j,.no,.no]):=by
  have x:inR (w:Int)=eA:=Xb ⋯ ⋯;have dl:(zH w λi=>(i:Int)).length<=lim:=by simp[zH];exact t
  show Cp [.val (.int p),.val<|z6 h m f,.val<|z6 m w g,.no,.no,.no]=_;unfold Cp;simp only[ve,vH,qe,yC,yX,jw,q9,Mk,Mn,MH,MO,Nc,Nv,zO,Mj,Mr,U,j6,n,x,if_true,NY,jW,dl];rw[show zZ 1 [2] [.val (.int p),.val<|z6 h m f,.val<|z6 m w g,.no,.no,.no]=[Cell.no,Cell.val (z6 m w g)]from rfl,G];rfl
 have N:GH [.val (.int p),.val<|z6 h m f,.val<|z6 m w g,.val<|.lst<|Yw w m λj k=>g k j,.no,.no]=ej (.next [.val (.int p),.val<|z6 h m f,.val<|z6 m w g,.val<|.lst<|Yw w m λj k=>g k j,.own [],.no]):=rfl;have H : ∀i:Nat,zP (.nm 0) jb (zy qw (sT<|jm<|zK (aH (zc 2)<|zc 0) (.tp [0,1]) 2 [] jb (zy xJ (zc 0)<|zc 1))<|zc 1) [Cell.no,Cell.val<|.int p,Cell.val (.tup<|zH m<|f i)] (Yw w m λj k=>g k j)=ej (zH w λj=>zm (λk=>f i k*g k j) m%p):=λi=>by
  rw[jf w];unfold Yw;refine zw _ _ λj I=>zx rfl rfl ?_;have I:=Mg.mp I;have z:=Jw m (f i) λk=>g k j;have K:zP (.tp [0,1]) jb (zy xJ (zc 0)<|zc 1) [Cell.no,Cell.no] ((Me m).map λk=>D.tup [.int (f i k),.int (g k j)])=ej (zH m λk=>f i k*g k j):=by rw[jf m λk=>f i k*g k j];refine zw _ _ λk Y=>zx rfl rfl ?_;have Y:=Mg.mp Y;have b:=J k j Y I;have c:JM (f i k) (g k j)=eA:=Jk _ _ ⋯ ⋯;show zy _ _ _ [Cell.val (.int<|f i k),Cell.val (.int<|g k j)]=_;simp[c]
  have T:((Me m).map λk=>D.tup [.int (f i k),.int (g k j)]).length<=lim:=by simpa using r
  have S:=JW (λk=>f i k*g k j) m;have W:Ef 0 p=eA:=decide_eq_true C;show zy _ _ _ [Cell.val (.lst<|zH m λk=>g k j),Cell.val<|.int p,Cell.val (.tup<|zH m<|f i)]=_;simp only[xZ,Eo,ke,qe,Em,jZ,Mk,Mn,zG,Mj,Mr,qR,jY,z,T,if_true];rw[show zZ 2 [] [Cell.val (.lst<|zH m λk=>g k j),Cell.val<|.int p,Cell.val (.tup<|zH m<|f i)]=[Cell.no,Cell.no]from rfl,K];simp only[Mr,Mj,S];simp[C]
 obtain⟨d,q,⟨a,rfl⟩⟩ : ∃d,xq (.nm 5) ltB (jd h m f) [.val (.int p),.val<|z6 h m f,.val<|z6 m w g,.val<|.lst<|Yw w m λj k=>g k j,.own [],.no]=ej (.next d)/\∃a,d=[.val (.int p),.val<|z6 h m f,.val<|z6 m w g,.val<|.lst<|Yw w m λj k=>g k j,.own<|jd h w λi j=>zm (λk=>f i k*g k j) m%p,a]:=by
  have l : ∀(k s:Nat) (a:Cell),s+k=h->∃O,xq (.nm 5) ltB ((Rw s k).map λi=>D.tup<|zH m<|f i) [.val (.int p),.val<|z6 h m f,.val<|z6 m w g,.val<|.lst<|Yw w m λj k=>g k j,.own<|jd s w λi j=>zm (λk=>f i k*g k j) m%p,a]=ej (.next [.val (.int p),.val<|z6 h m f,.val<|z6 m w g,.val<|.lst<|Yw w m λj k=>g k j,.own<|jd h w λi j=>zm (λk=>f i k*g k j) m%p,O]):=by
   intro k
   induction k with
   | zero=>
    intro s a e;obtain rfl:s=h:=by omega
    exact⟨a,rfl⟩
   | succ k E=>
    intro s a e;obtain⟨O,q⟩:=E (s+1) (.val<|.tup<|zH m<|f s) ⋯;refine⟨O,?_⟩;rw[<- q,Pw,MT,jM,WU];have R:s<lim:=by omega
    have L:(Yw w m λj k=>g k j).length<=lim:=by rw[oj];exact t
    simp only[vX,Mj,ltB,Zt,xR,ke,qe,qA,jw,NL,NK,Mk,Mn,xQ,zO,qR,Mr,L,if_true];rw[show zZ 1 [0,5] [Cell.val (.int p),Cell.val<|z6 h m f,Cell.val<|z6 m w g,Cell.val<|.lst<|Yw w m λj k=>g k j,Cell.own<|jd s w λi j=>zm (λk=>f i k*g k j) m%p,Cell.val (.tup<|zH m<|f s)]=[Cell.no,Cell.val<|.int p,Cell.val (.tup<|zH m<|f s)]from rfl,H s];simp only[Mr,Mj,ZT,R,if_true]
  obtain⟨O,q⟩:=l h 0 .no ⋯;rw[<- OJ]at q;exact⟨_,q,O,rfl⟩
 have P:GG [.val (.int p),.val<|z6 h m f,.val<|z6 m w g,.val<|.lst<|Yw w m λj k=>g k j,.own [],.no]=ej (.next [.val (.int p),.val<|z6 h m f,.val<|z6 m w g,.val<|.lst<|Yw w m λj k=>g k j,.own<|jd h w λi j=>zm (λk=>f i k*g k j) m%p,a]):=by show ZA _ _ ltB _=_;rw[KA];simp only[qA,ya,yX,jw,q9,Mk,Mn,MH,MO,Nc,Nv,zO,Mj,Mr,u,j6,o,jY];exact q
 have Q:Fc [.val (.int p),.val<|z6 h m f,.val<|z6 m w g,.val<|.lst<|Yw w m λj k=>g k j,.own<|jd h w λi j=>zm (λk=>f i k*g k j) m%p,a]=ej (.ret<|.val<|z6 h w λi j=>zm (λk=>f i k*g k j) m%p):=by
  have y:3<=lim:=by omega
  unfold Fc;simp only[vf,vG,jO,qU,yX,jw,q9,xR,Mk,Mn,MH,MO,Nc,Nv,zO,Xr,Mj,Mr,u,U,j6,B,n,y,if_true];rfl
 rw[uA];exact jg<|zo M<|zo N<|zo P Q
def _L(n:Nat)(ks:List Nat)(u:Nat->Int):Nat->Int:=ks.foldl (λu k=>mv n k u) u
noncomputable def p_(n:Nat)(ks:List Nat)(u:Nat->Int):Nat->Nat->Int
 | 0=>u
 | j+1=>_L n ks<|p_ n ks u j
noncomputable def acc(n:Nat)(ks:List Nat)(u:Nat->Int):Nat->Nat->Int
 | 0=>λ_=>0
 | j+1=>λi=>acc n ks u j i+p_ n ks u j i
theorem Be{n:Nat}(C:n<=400):xF [.int n]=ej (.val<|z6 n n λi j=>if i=j then 1 else 0):=by
 have U:=ju;have a:n<=lim:=by omega
 have z:inR (n:Int)=eA:=Xb ⋯ ⋯;have dl:(zH n λi=>(i:Int)).length<=lim:=by simp[zH];exact a
 have I : ∀i:Nat,zP (.nm 0) jb (km<|zy hG (zc 1)<|zc 0) [Cell.no,Cell.val (.int (i:Int))] (zH n λi=>(i:Int))=ej (zH n λj=>if i=j then 1 else 0):=λi=>by
  rw[jf n λi=>(i:Int),jf n λj=>if i=j then (1:Int)else 0];refine zw _ _ λj Y=>zx rfl rfl ?_;show km _ [Cell.val (.int (j:Int)),Cell.val (.int (i:Int))]=_;by_cases h:i=j
  ·simp[h]
  ·have : ¬((i:Int)=(j:Int)):=by omega
   simp[h,this]
 have O:zP (.nm 0) jb (zM<|jm<|zK (z7<|zc 1) (.nm 0) 1 [0] jb (km<|zy hG (zc 1)<|zc 0)) [Cell.no,Cell.val (.int (n:Int))] (zH n λi=>(i:Int))=ej (jd n n λi j=>if i=j then 1 else 0):=by have e:=I;rw[jf n λi=>(i:Int)];unfold jd;refine zw _ _ λi d=>zx rfl rfl ?_;show zM _ [Cell.val (.int (i:Int)),Cell.val (.int (n:Int))]=_;simp only[xR,ke,qe,yC,jZ,Mk,Mn,zG,Mj,j6,z,if_true,NY,jW,dl];rw[show zZ 1 [0] [Cell.val (.int (i:Int)),Cell.val (.int (n:Int))]=[Cell.no,Cell.val (.int (i:Int))]from rfl,I i];rfl
 have b:3<=lim:=by omega
 refine jg ?_;show qv _ [Cell.val (.int (n:Int))]=_;simp only[vf,vG,jO,qU,xR,ke,qe,yC,jZ,Mk,MH,MO,Nc,Nv,zG,Mj,Mr,j6,z,if_true,NY,jW,dl];rw[show zZ 1 [0] [Cell.val (.int (n:Int))]=[Cell.no,Cell.val (.int (n:Int))]from rfl,O];simp only[Mr,Mj,b,if_true];rfl
noncomputable def Uq:=(zJ (kr (vi (jU<|sB<|p6 .tuple<|zc 4)<|sB<|zy i7 (kD<|zh 4)<|zc 3) (qv<|zu<|.bl eK) j9)<|kr (jU<|sB<|fK<|jm<|zK (zN<|zh 4) (.nm 0) 1 [0] jb (cM (zD jE<|zb (zc 0) zI)<|kX p5 Df (zu<|.int 0) (zc 0)<|zc 1)) (qv<|zu<|.bl eK) j9)
theorem Wx(a b c d:Int):i7 (.tup [.int a,.int b]) (.tup [.int c,.int d])=ej (.bl<|!(a==c && b==d)):=by have o : ∀a b:Int,nf (.tup [.int a,.int b])=eA:=λa b=>rfl;unfold i7;rw[UJ ⟨o a b,o c d⟩,Kx]
theorem Kq{p:Int}{h w:Nat}(f:UV)(S:h<=400)(Z:w<=400)(C : ∀i j,i<h->j<w->0<=f i j/\f i j<p)(a b:Nat) :
 jl [.int p,z6 h w f,.int a,.int b]=ej (.val<|.bl<|decide<|h=a/\w=b):=by
 have M:=ju;have G:w<=lim:=by omega
 have x:=V7 h w f;have u:GJ (jc 5 [.int p,z6 h w f,.int a,.int b])=ej (.next [.val (.int p),.val<|z6 h w f,.val<|.int a,.val<|.int b,.no]):=rfl;have m:YS (zc 1) Yv (t6<|zu<|.int 2) [.val (.int p),.val<|z6 h w f,.val<|.int a,.val<|.int b,.no]=ej (.tup [.int (h:Int),.int (w:Int)]):=rfl;have o:k6 3 2=ej 2:=rfl;have r:2<=lim:=by omega
 have t:=Wx (h:Int) (w:Int) (a:Int) (b:Int);rw[uB];by_cases O:h=a/\w=b
 ·obtain⟨rfl,rfl⟩:=O
  have l:AA [.val (.int p),.val<|z6 h w f,.val<|.int h,.val<|.int w,.no]=ej (.next [.val (.int p),.val<|z6 h w f,.val<|.int h,.val<|.int w,.no]):=by
   have U:i7 (.tup [.int (h:Int),.int (w:Int)]) (.tup [.int (h:Int),.int (w:Int)])=ej (.bl eK):=by rw[t];simp
   have H:i7 (.int (h:Int)) (.int (h:Int))=ej (.bl eK):=Yj rfl;unfold AA;rw[kL,Jl,W9,xZ,m];simp only[vG,jO,qU,jZ,Jl,wL,W9,xZ,HD,Kz,ya,yX,jw,q9,Mk,Mn,MH,MO,Nc,Nv,zG,zO,Mj,Mr,r,if_true,U,wu,Od,if_false,x,j6,o,jY,ZT,H];rfl
  have step : ∀i:Nat,i<h->Uq [.val (.int p),.val<|z6 h w f,.val<|.int h,.val<|.int w,.val (.tup<|zH w<|f i)]=ej (.next [.val (.int p),.val<|z6 h w f,.val<|.int h,.val<|.int w,.val (.tup<|zH w<|f i)]):=λi B=>by
   have d:zP (.nm 0) jb (cM (zD jE<|zb (zc 0) zI)<|kX p5 Df (zu<|.int 0) (zc 0)<|zc 1) [Cell.no,Cell.val (.int p)] (zH w<|f i)=ej ((Me w).map λ_=>D.bl eA):=by rw[jf];refine zw _ _ λj E=>zx rfl rfl ?_;have q:=C i j B<|Mg.mp E;show cM _ _ [Cell.val (.int<|f i j),Cell.val (.int p)]=_;simp[ae,q.1,q.2]
   have dl:(zH w<|f i).length=w:=by simp[zH]
   have J:i7 (.int (w:Int)) (.int (w:Int))=ej (.bl eK):=Yj rfl;have ty:WM Ty.tuple (.tup<|zH w<|f i)=eA:=rfl;have y:(kr (vi (jU<|sB<|p6 .tuple<|zc 4)<|sB<|zy i7 (kD<|zh 4)<|zc 3) (qv<|zu<|.bl eK) j9) [.val (.int p),.val<|z6 h w f,.val<|.int h,.val<|.int w,.val (.tup<|zH w<|f i)]=ej (.next [.val (.int p),.val<|z6 h w f,.val<|.int h,.val<|.int w,.val (.tup<|zH w<|f i)]):=by simp[ty,jY,dl,J]
   refine zo y ?_;have A:(zH w<|f i).length<=lim:=by rw[dl];exact G
   simp only[kL,wL,W9,lP,ke,qe,qA,jw,Mk,Mn,zO,jY,Mj,Mr,A,if_true];rw[show zZ 1 [0] [Cell.val (.int p),Cell.val<|z6 h w f,Cell.val<|.int (h:Int),Cell.val<|.int (w:Int),Cell.val (.tup<|zH w<|f i)]=[Cell.no,Cell.val (.int p)]from rfl,d];simp[eT]
  have g : ∀(k s:Nat) (c:Cell),s+k=h->∃I,xq (.nm 4) Uq ((Rw s k).map λi=>D.tup<|zH w<|f i) [.val (.int p),.val<|z6 h w f,.val<|.int h,.val<|.int w,c]=ej (.next [.val (.int p),.val<|z6 h w f,.val<|.int h,.val<|.int w,I]):=by
   intro k
   induction k with
   | zero=>intro s c _;exact⟨c,rfl⟩
   | succ k F=>
    intro s c e;obtain⟨I,q⟩:=F (s+1) (.val<|.tup<|zH w<|f s) ⋯;refine⟨I,?_⟩;rw[Pw,MT,jM];simp only[vX,Mj,NL,NK,step s ⋯];exact q
  obtain⟨I,q⟩:=g h 0 .no ⋯;rw[<- OJ]at q;have K:GI [.val (.int p),.val<|z6 h w f,.val<|.int h,.val<|.int w,.no]=ej (.next [.val (.int p),.val<|z6 h w f,.val<|.int h,.val<|.int w,I]):=by show ZA _ _ Uq _=_;rw[KA];simp only[qA,ya,yX,jw,q9,Mk,Mn,MH,MO,Nc,Nv,zO,Mj,Mr,x,j6,o,jY];exact q
  rw[decide_eq_true (show h=h/\w=w from⟨rfl,rfl⟩)];exact jg<|zo u<|zo l<|zo K rfl
 ·have l:AA [.val (.int p),.val<|z6 h w f,.val<|.int a,.val<|.int b,.no]=ej (.ret<|.val<|.bl eK):=by
   have U:i7 (.tup [.int (h:Int),.int (w:Int)]) (.tup [.int (a:Int),.int (b:Int)])=ej (.bl eA):=by
    rw[t];by_cases n:h=a
    ·have L : ¬w=b:=λz=>O ⟨n,z⟩
     have Y : ¬((w:Int)=(b:Int)):=by omega
     simp[n,Y]
    ·have Y : ¬((h:Int)=(a:Int)):=by omega
     simp[Y]
   unfold AA;rw[kL,Jl,W9,xZ,m];simp only[vG,jO,qU,jZ,Mk,Mn,MH,MO,Nc,Nv,zG,Mj,Mr,r,if_true,U,wu];rfl
  rw[decide_eq_false O];exact jg (zo u<|by rw[jj,l];rfl)
theorem Xh(b:Bool):hG (.str (qT (il b))) (.str "r")=ej (.bl (!b)):=by cases b<;>kernel_rfl
noncomputable def Us:=(zJ (jy 9 (zy j3 (zc 7) (km (zy hG (eL (zh 8) (zu (.int 0))) (zu (.str "l")))))) (zJ (jy 10 (zy j3 (zc 7) (km (zy hG (eL (zh 8) (zu (.int 0))) (zu (.str "r")))))) (xu 6 (qW (zb (eL (zh 8) (zu (.int 0))) (zb (zD jB (zb (zc 3) (zb (zD jB (zb (zc 3) (zb (eL (zh 1) (zc 10)) (zb (eL (zh 8) (zu (.int 1))) zI)))) (zb (eL (zh 2) (zc 9)) zI)))) zI))))))
section
variable{p:Int}{m:Nat}{w:UK}{wd:UX}{T f g:UW}
abbrev r9(p:Int)(m:Nat)(w:UK)(wd:UX)(T f g:UW)(c6 c7 c8 c9 T7:Cell):Ctx:=[.val (jA p m w wd T),.val (.lst (qN (m+1) wd f)),.val (.lst (qN (m+1) wd g)),.val (.int p),.val (.tup (zH (m+1) λk=>(wd k:Int))),.val (.tup (jN m w wd T)),c6,c7,c8,c9,T7]
theorem YG(h:k<n)(wd:UX)(f:UW):(qN n wd f)[k]? = ej (z6 (wd k) (wd k)<|f k):=by unfold qN;simp[h]
theorem Ku(S:0<p)(p7:p<=7)(hm:m<=5)(J : ∀k,wd k<=60)(Z : ∀k i j,k<m->i<l4 w wd k->j<l5 w wd k->0<=T k i j/\T k i j<p)(hg : ∀k i j,k<m+1->i<wd k->j<wd k->0<=g k i j/\g k i j<p) :
 qu [jA p m w wd T,.lst<|qN (m+1) wd f,.lst (qN (m+1) wd g)]=ej (.val<|jA p m w wd<|qb p w wd f g T):=by
 have hl:=ju;have s1:GF (jc 11 [jA p m w wd T,.lst<|qN (m+1) wd f,.lst (qN (m+1) wd g)])=ej (.next<|r9 p m w wd T f g .no .no .no .no .no):=rfl;have s2:GE (r9 p m w wd T f g .no .no .no .no .no)=ej (.next<|r9 p m w wd T f g (.own []) .no .no .no .no):=rfl;have step : ∀s,s<m->∀l d:Cell,∃z I,Us (r9 p m w wd T f g (.own<|jN s w wd<|qb p w wd f g T) (.val<|.int (s:Int)) (.val<|qX w wd T s) l d)=ej (.next<|r9 p m w wd T f g (.own<|jN (s+1) w wd<|qb p w wd f g T) (.val<|.int (s:Int)) (.val<|qX w wd T s) z I):=λs O l d=>by
  have G:=ZS w O;have x:=ZW w O;have r:j5 (qX w wd T s)=ej (.T,[.str (qT<|il<|w s),z6 (l4 w wd s) (l5 w wd s) (T s)]):=rfl;have U:k6 2 0=ej 0:=rfl;have X:k6 2 1=ej 1:=rfl;have P:=rH<|w s;have Q:=Xh<|w s;have b1:((s:Int)+if w s=eA then 1 else 0)=((ja w s:Nat):Int):=lF w s;have b2:((s:Int)+if (!w s)=eA then 1 else 0)=((jh w s:Nat):Int):=iR w s;have ta:=YG G wd f;have tb:=YG x wd g;have l2:2<=lim:=by omega
  have sl:s<lim:=by omega
  refine⟨.val (.int ((ja w s:Nat):Int)),.val (.int ((jh w s:Nat):Int)),?_⟩;have q1:(jy 9 (zy j3 (zc 7) (km (zy hG (eL (zh 8) (zu (.int 0))) (zu (.str "l")))))) (r9 p m w wd T f g (.own (jN s w wd (qb p w wd f g T))) (.val (.int (s:Int))) (.val (qX w wd T s)) l d)=ej (.next (r9 p m w wd T f g (.own (jN s w wd (qb p w wd f g T))) (.val (.int (s:Int))) (.val (qX w wd T s)) (.val (.int ((ja w s:Nat):Int))) d)):=by rw[<- b1];simp only[r9,ve,xZ,jZ,lN,yX,jw,q9,Mk,Mn,MH,MO,Nc,Nv,zG,zO,Mj,Mr,r,j6,U,P,NL,NK];cases w s<;>simp
  have Y:(jy 10 (zy j3 (zc 7) (km (zy hG (eL (zh 8) (zu (.int 0))) (zu (.str "r")))))) (r9 p m w wd T f g (.own (jN s w wd (qb p w wd f g T))) (.val (.int (s:Int))) (.val (qX w wd T s)) (.val (.int ((ja w s:Nat):Int))) d)=ej (.next (r9 p m w wd T f g (.own (jN s w wd (qb p w wd f g T))) (.val (.int (s:Int))) (.val (qX w wd T s)) (.val (.int ((ja w s:Nat):Int))) (.val (.int ((jh w s:Nat):Int))))):=by rw[<- b2];simp only[r9,ve,xZ,jZ,lN,yX,jw,q9,Mk,Mn,MH,MO,Nc,Nv,zG,zO,Mj,Mr,r,j6,U,Q,NL,NK];cases w s<;>simp
  refine zo q1<|zo Y ?_;have bE:=J<|jh w s;have bB:=J<|ja w s;have K : ∀i j,i<wd (jh w s)->j<wd (ja w s)->0<=T s i j/\T s i j<100:=λi j y A=>by have:=Z s i j O (by rw[yz];exact y) (by rw[yk];exact A);omega
  have as : ∀i j,i<wd (ja w s)->j<wd (ja w s)->0<=g (ja w s) i j/\g (ja w s) i j<100:=λi j y A=>by have:=hg (ja w s) i j x y A;omega
  have m1:=V6 (p:=p) (h:=wd<|jh w s) (m:=wd<|jh w s) (w:=wd<|ja w s) (f<|jh w s) (T s) S ⋯ ⋯ ⋯ K;have H:=V6 (p:=p) (h:=wd<|jh w s) (m:=wd<|ja w s) (w:=wd<|ja w s) (λi b=>zm (λa=>f (jh w s) i a*T s a b) (wd<|jh w s)%p) (g<|ja w s) S ⋯ ⋯ ⋯ as;have E:l4 w wd s=wd (jh w s):=yz w wd s;have F:l5 w wd s=wd (ja w s):=yk w wd s;have R:(λi j=>zm (λb=>(zm (λa=>f (jh w s) i a*T s a b) (wd<|jh w s)%p)*g (ja w s) b j) (wd<|ja w s)%p)=qb p w wd f g T s:=by funext i j;unfold qb;congr 1;congr 1;funext b;rw[Nx];congr 1;congr 1;congr 1;funext a;rw[Nx]
  rw[R]at H;have L:qX w wd (qb p w wd f g T) s = .tup [.str (qT<|il<|w s),z6 (wd<|jh w s) (wd<|ja w s) (qb p w wd f g T s)]:=by unfold qX;rw[E,F]
  rw[lL,L];simp only[r9,Zt,vG,jO,qU,xS,jZ,yX,jw,q9,Mk,Mn,MH,MO,Nc,Nv,zG,zO,xQ,Mj,Mr,r,j6,U,X,qR,eW,xj,G,x,if_true,ta,tb,E,F,m1,H,fQ,l2,Zr,sl,NL,NK]
 have B : ∀(k s:Nat) (n o l d:Cell),s+k=m->∃t u z I,xq (.tp [7,8]) Us ((Rw s k).map λ(k:Nat)=>D.tup [.int k,qX w wd T k]) (r9 p m w wd T f g (.own<|jN s w wd<|qb p w wd f g T) n o l d)=ej (.next<|r9 p m w wd T f g (.own<|jN m w wd<|qb p w wd f g T) t u z I):=by
  intro k
  induction k with
  | zero=>
   intro s n o l d e;obtain rfl:s=m:=by omega
   exact⟨n,o,l,d,rfl⟩
  | succ k ih=>
   intro s n o l d e;obtain⟨N,M,q⟩:=step s ⋯ l d;obtain⟨t,u,z,I,Y⟩:=ih (s+1) (.val<|.int (s:Int)) (.val<|qX w wd T s) N M ⋯;refine⟨t,u,z,I,?_⟩;rw[<- Y,Pw,MT,jM];have W:xH (.tp [7,8]) (.tup [.int (s:Int),qX w wd T s]) (r9 p m w wd T f g (.own<|jN s w wd<|qb p w wd f g T) n o l d)=ej (r9 p m w wd T f g (.own<|jN s w wd<|qb p w wd f g T) (.val<|.int (s:Int)) (.val<|qX w wd T s) l d):=rfl;rw[W];simp only[Mj,q]
 obtain⟨n,o,l,d,q⟩:=B m 0 .no .no .no .no ⋯;rw[<- OJ]at q;have s3:GD (r9 p m w wd T f g (.own []) .no .no .no .no)=ej (.next<|r9 p m w wd T f g (.own<|jN m w wd<|qb p w wd f g T) n o l d):=by
  show ZA _ _ Us _=_;have C:XF (zc 5) (r9 p m w wd T f g (.own []) .no .no .no .no)=ej ((Me m).map λ(k:Nat)=>D.tup [.int k,qX w wd T k]):=by show ej (qF<|jN m w wd T)=_;rw[show jN m w wd T=(Me m).map (qX w wd T)from rfl,ZR]
  rw[KA,C];exact q
 have s4:EZ (r9 p m w wd T f g (.own<|jN m w wd<|qb p w wd f g T) n o l d)=ej (.ret<|.val<|jA p m w wd<|qb p w wd f g T):=by
  have l3:3<=lim:=by omega
  unfold EZ;simp only[r9,vf,vG,jO,qU,jZ,xR,jw,Mk,Mn,MH,MO,Nc,Nv,zG,Xr,Mj,Mr,l3,if_true];rfl
 rw[uz];exact jg<|zo s1<|zo s2<|zo s3 s4
end
section
variable{wd:UX}{N m k r:Nat}{A:Nat->gR}{p:Int}{w:UK}{T:UW}{B:Nat->Vc}{l:UX}
theorem bu(l:UX)(g:Nat->D)(i:Nat) : ∀(L:List Nat),bw (L.map λj=>D.int ((l j:Nat):Int)) (L.map g) (i:Int)=(L.find? λj=>l j==i).map g
 | []=>rfl
 | j::L=>by
  have z:=bu l g i L;simp only[MT,bw,OM];by_cases h:l j=i
  ·simp[h]
  ·have a : ¬((l j:Nat):Int)=(i:Int):=by omega
   rw[UY a,z];have:(l j==i)=eK:=by simpa using h
   rw[this]
theorem VB(l:UX) : ∀L:List Nat,XQ (L.map λj=>D.int ((l j:Nat):Int))=ej (L.map λj=>((l j:Nat):Int))
 | []=>rfl
 | j::L=>by simp[XQ,VB l L]
theorem dB(z:kv p N r B l)(I:r<=lim):oR ((Me r).map λj=>D.int ((l j:Nat):Int)) ((Me r).map λj=>D.tup<|zH N<|B j)=ej (.ow ((Me r).map λj=>D.int ((l j:Nat):Int))<|(Me r).map λj=>D.tup<|zH N<|B j):=by unfold oR;rw[VB];dsimp only;rw[UJ];refine⟨by simp,?_,by simpa using I⟩;rw[List.nodup_iff_pairwise_ne,O7];refine Rp (λ{a b} d O h=>?_)<|Rb (n:=r);have:=z.mono a b h<|Mg.mp O;omega
theorem YD(f g:Nat->D) : ∀L:List Nat,wR (L.map λj=>D.tup [f j,g j])=ej (L.map f,L.map g)
 | []=>rfl
 | j::L=>by simp[wR,YD f g L]
theorem Xt(h:k<(jN m w wd T).length):(jN m w wd T)[k]=qX w wd T k:=by simp[jN]
theorem yB(w wd T k):j5 (qX w wd T k)=ej (.T,[.str (qT<|il<|w k),z6 (l4 w wd k) (l5 w wd k) (T k)]):=rfl
theorem WT:qF ((Me N).map λj=>qC wd<|A j)=(Me N).map λ(i:Nat)=>D.tup [.int i,qC wd (A i)]:=by unfold qF;simp only[MF,Nz];refine MA λi a=>?_;have a:=Mg.mp a;simp[a]
noncomputable def Aq(p:Int)(w:UK)(wd:UX)(T:UW)(k:Nat)(u:Vc):Prop:=if w k=eA then Span p (wd k) (f9 (wd<|k+1) λj i=>T k i j) u else D6 p (wd<|k+1) (wd k) (T k) u
theorem cE(U:Pr p)(Y : ∀k,wd k<=8)(w)(T)(k:Nat) : ∃q g,q<=100/\(∀u,Span p (wd k) (f9 q g) u↔Aq p w wd T k u)/\
 (if w k=eA then ZZ [.int p,z6 (l4 w wd k) (l5 w wd k) (T k)]=ej (.own<|jd q (wd k) g)else vZ [.int p,z6 (l4 w wd k) (l5 w wd k) (T k)]=ej (.own<|jd q (wd k) g)):=by
 have m:=ju;have f:=Y k;have j:=Y<|k+1;have b : ∀{r n:Nat} {B:Nat->Vc} {l:UX},kv p n r B l->r<=n:=λ{r n B l} z=>by
  have mono : ∀k,k<r->k<=l k:=by
   intro k
   induction k with
   | zero=>intro _;omega
   | succ k i=>intro f;have:=i ⋯;have:=z.mono k (k+1) ⋯ f;omega
  cases r with
  | zero=>omega
  | succ d=>have:=mono d ⋯;have:=z.lt d ⋯;omega
 cases hw:w k with
 | true=>
  have a:l4 w wd k=wd k:=by unfold l4;rw[hw];rfl
  have I:l5 w wd k=wd (k+1):=by unfold l5;rw[hw];rfl
  obtain⟨r,B,l,e,z,O⟩:=KC U (h:=wd k) (w:=wd<|k+1) ⋯ ⋯<|T k;refine⟨r,B,by have:=b z;omega,λu=>by unfold Aq;rw[hw,UJ rfl];exact O u,?_⟩;rw[UJ rfl,a,I];exact e
 | false=>
  have a:l4 w wd k=wd (k+1):=by unfold l4;rw[hw];rfl
  have I:l5 w wd k=wd k:=by unfold l5;rw[hw];rfl
  obtain⟨q,K,l,s,e,z,O,_⟩:=yZ U (h:=wd<|k+1) (w:=wd k) ⋯ ⋯<|T k;refine⟨q,K,by have:=b z;omega,λu=>by unfold Aq;rw[hw,UY ⋯];exact O u,?_⟩;rw[UY ⋯,a,I];exact e
theorem Wa:Zv=jr 8 (zJ UC<|zJ UD<|zJ R5<|zJ UE<|zJ UG UH):=rfl
theorem cH(S:Pr p)(hb : ∀j,j<N->(A j).s+(A j).n<=m+1)(J : ∀j,j<N->(A j).has k=eA)(Z:k<m)(hN:N<=8)(hm:m<=5)(C : ∀k,wd k<=8)(hv : ∀j r i,j<N->(A j).has r=eA->i<wd r->0<=(A j).v r i/\(A j).v r i<p) :
 ∃r B l,kv p N r B l/\(∀t,Span p N (f9 r B) t↔Aq p w wd T k (app (λi j=>(A j).v k i) N t))/\
  Zv [jA p m w wd T,.int k,.lst ((Me N).map λj=>qC wd<|A j)]=ej (.own<|(Me N).map λi=>qC wd<|k0 p A N r B l i):=by
 have hl:=ju;obtain⟨q,g,hq,y,U⟩:=cE S C w T k;have be:=C k;obtain⟨r,B,l,H,z,hs⟩:=Yq S (h:=wd k) (w:=N) (q:=q) ⋯ ⋯ hq (λi j=>(A j).v k i) g;refine⟨r,B,l,z,λt=>(hs t).trans (y _),?_⟩;have Y:N<=lim:=by omega
 have E:k<m+1:=by omega
 have rN:r<=N:=by
  have mono : ∀k,k<r->k<=l k:=by
   intro k
   induction k with
   | zero=>intro _;omega
   | succ k ih=>intro J;have:=ih ⋯;have:=z.mono k (k+1) ⋯ J;omega
  cases r with
  | zero=>omega
  | succ f=>have:=mono f ⋯;have:=z.lt f ⋯;omega
 have o:r<=lim:=by omega
 have u:=wH (wd:=wd) (A:=A) (N:=N) (λj I=>by have:=hb j I;omega) Y k;have W:((Me N).filter λj=>(A j).has k)=Me N:=List.filter_eq_self.mpr λj I=>J j<|Mg.mp I;rw[W]at u;have K:=ZU (q:=N) (h:=wd k) (λj=>(A j).v k) Y ⋯;have F:xo [.lst ((Me N).map λj=>qC wd<|A j),.int k]=ej (.own<|jd N (wd k) λj=>(A j).v k):=u;have M:zP (.nm 0) jb (qW<|zb (zD xc<|zb (zc 0) zI)<|zb (zc 0) zI) [.no] (jd r N B)=ej ((Me r).map λj=>D.tup [.int ((l j:Nat):Int),.tup (zH N<|B j)]):=by unfold jd;refine zw _ _ λj I=>zx rfl rfl ?_;have I:=Mg.mp I;have e:=vK Y (B j) (z.lt j I) (λi b=>z.pb j i I b) (by rw[z.one j I];decide);simp[e]
 have P:=dB z o;have Q:=YD (λj=>D.int ((l j:Nat):Int)) (λj=>D.tup<|zH N<|B j)<|Me r;let d:D:= .ow ((Me r).map λj=>D.int ((l j:Nat):Int)) ((Me r).map λj=>D.tup<|zH N<|B j);let L:D:= .lst ((Me N).map λj=>qC wd<|A j);have R:zP (.tp [0,1]) jb (cL (sB<|Bi (zc 0)<|zc 4) (zD Yp<|zb (zc 2)<|zb (zc 3)<|zb (EK (zc 4)<|zc 0) zI)<|zc 1) [.no,.no,.val<|jA p m w wd T,.val L,.val d] ((Me N).map λ(i:Nat)=>D.tup [.int i,qC wd (A i)])=ej ((Me N).map λi=>qC wd<|k0 p A N r B l i):=by
  refine zw _ _ λi b=>zx rfl rfl ?_;have b:=Mg.mp b;have O:=bu l (λj=>D.tup<|zH N<|B j) i<|Me r;have G:(Me r).find? (λj=>l j==i)=o9 r l i:=rfl;rw[G]at O;unfold k0;cases hx:o9 r l i with
  | none=>
   rw[hx]at O;simp[d,Bi,O]
  | some j=>
   rw[hx]at O;obtain⟨x,X⟩:=xV hx;have e:=og (T:=T) (w:=w) (t:=B j) S hb ⋯ hm (λk=>by have:=C k;omega) hv (a:=i) b (λc hc=>z.pb j c x ⋯) (by rw[<- X,z.one j x];decide);simp[d,Bi,EK,O,L,e]
 rw[Wa];refine jg (zo (γ':=[.val (jA p m w wd T),.val<|.int k,.val L,.val<|.str<|qT<|il<|w k,.no,.no,.no,.no]) ?_
  (zo (γ':=[.val (jA p m w wd T),.val<|.int k,.val L,.val<|.str<|qT<|il<|w k,.val<|z6 (l4 w wd k) (l5 w wd k)<|T k,.no,.no,.no]) ?_
  (zo (γ':=[.val (jA p m w wd T),.val<|.int k,.val L,.val<|.str<|qT<|il<|w k,.val<|z6 (l4 w wd k) (l5 w wd k)<|T k,.val<|.lst<|jd q (wd k) g,.no,.no]) ?_
  (zo (γ':=[.val (jA p m w wd T),.val<|.int k,.val L,.val<|.str<|qT<|il<|w k,.val<|z6 (l4 w wd k) (l5 w wd k)<|T k,.val<|.lst<|jd q (wd k) g,.val<|.lst<|jd r N B,.no]) ?_
  (zo (γ':=[.val (jA p m w wd T),.val<|.int k,.val L,.val<|.str<|qT<|il<|w k,.val<|z6 (l4 w wd k) (l5 w wd k)<|T k,.val<|.lst<|jd q (wd k) g,.val<|.lst<|jd r N B,.val d]) ?_ ?_)))))
 ·simp[UC,jc,Ml,yo,yB,Xt,Z];rfl
 ·simp[UD,yo,yB,Xt,Z]
 ·cases hw:w k with
  | true=>
   rw[hw,UJ rfl]at U;have eq:=Xh eA;simp[R5,yo,eq,U]
  | false=>
   rw[hw,UY ⋯]at U;have eq:=Xh eK;simp[R5,yo,eq,U]
 ·simp[UE,yo,E,L,F,K,H]
 ·simp[UG,zZ,M,o,Q,P];rfl
 ·simp[UH,zZ,L,WT,Y,R]
end
def oD(n:Nat):Option Vc->D
 | none=> .gm
 | some y=> .tup (zH n y)
theorem cG(U:Pr p)(Y:h<=90)(C:w<=90)(f:UV)(b:Vc)(O : ∀i,i<h->0<=b i/\b i<p) :
 ∃o:Option Vc,vY [.int p,z6 h w f,.tup (zH h b)]=ej (.val<|oD w o)/\(∀x,o=ej x->(∀j,0<=x j/\x j<p)/\∀i,i<h->app f w x i%p=b i%p)/\(o=eF->¬∃y:Vc,∀i,i<h->app f w y i%p=b i%p):=by
 have n : ∀i,i<h->b i%p=b i:=λi a=>NJ (O i a).1 (O i a).2;by_cases I : ∃y:Vc,∀i,i<h->app f w y i%p=b i%p
 ·obtain⟨y,I⟩:=I
  obtain⟨x,e,K,L⟩:=mJ U Y C f b y O λi a=>by rw[<- n i a,<- I i a];rfl
  refine⟨ej x,e,λR H=>?_,λz=>by cases z⟩;cases H;exact⟨K,λi a=>by rw[n i a];exact L i a⟩
 ·obtain⟨r,B,l,s,M,E,P,A,Q,d⟩:=Xx U Y C f b
  have m:s<r:=by
   refine NP λm=>I ?_;have J:s=r:=by omega
   subst J;refine⟨aa w B l s,λi a=>?_⟩;have t:=Js M ((E<|aug w f b i).mpr (.gen ⟨i,a,rfl⟩)) w ⋯;have F:aug w f b i w=b i:=by simp[aug]
   rw[F]at t;rw[t];congr 1;unfold app aa;rw[zA (g:=λj=>zm (λk=>f i j*(if l k=j then B k w else 0)) s) λj _=>(jF _ _ _).symm,xl];refine zA λk u=>?_;rw[zT (i:=l k) (A k u) λj N G=>by rw[UY (MV G)];simp,UJ rfl];simp only[aug,UJ (A k u)]
  rw[UJ m]at d;exact⟨eF,d,nofun,λ_=>I⟩
section
variable{wd:UX}{m k:Nat}{p:Int}{w:UK}{T:UW}
theorem nW:xT=jr 4 (zJ G8<|zJ P6 P7):=rfl
theorem Yf(b:Bool):hG (.str (qT (il b))) (.str "l")=ej (.bl b):=by cases b<;>kernel_rfl
theorem Vq(I:Pr p)(C : ∀k,wd k<=8)(J : ∀i j,i<l4 w wd k->j<l5 w wd k->0<=T k i j/\T k i j<p)(u:Vc)(S : ∀i,i<wd k->0<=u i/\u i<p) :
 ∃o:Option Vc,xT [.int p,qX w wd T k,.tup (zH (wd k) u)]=ej (.val<|oD (wd<|k+1) o)/\(∀y,o=ej y->∀c,c<wd (k+1)->0<=y c/\y c<p)/\
  (w k=eK->(o=eF->∀c,c<wd (k+1)->app (T k) (wd k) u c%p=0)/\∀y,o=ej y->(∀c,c<wd (k+1)->app (T k) (wd k) u c%p=y c%p)/\∃c,c<wd (k+1)/\y c%p≠0)/\
  (w k=eA->(o=eF->¬∃y:Vc,∀c,c<wd k->app (T k) (wd<|k+1) y c%p=u c%p)/\∀y,o=ej y->∀c,c<wd k->app (T k) (wd<|k+1) y c%p=u c%p):=by
 have F:=ju;have G:=I.le;have E:=C k;have B:=C<|k+1;rw[nW];cases hw:w k with
 | true=>
  have b:l4 w wd k=wd k:=by unfold l4;rw[hw];rfl
  have O:l5 w wd k=wd (k+1):=by unfold l5;rw[hw];rfl
  obtain⟨o,r,a,d⟩:=cG I (h:=wd k) (w:=wd<|k+1) ⋯ ⋯ (T k) u S;refine⟨o,?_,λy e c _=>(a y e).1 c,nofun,λ_=>⟨d,λy e=>(a y e).2⟩⟩;refine jg ?_;have U:=Yf eA;have t:G8 (jc 4 [.int p,qX w wd T k,.tup (zH (wd k) u)])=ej (.ret<|.val<|oD (wd<|k+1) o):=by simp[G8,jc,Ml,yB,hw,U,b,O,r]
  rw[jj,t];rfl
 | false=>
  have b:l4 w wd k=wd (k+1):=by unfold l4;rw[hw];rfl
  have O:l5 w wd k=wd k:=by unfold l5;rw[hw];rfl
  rw[b,O]at J;have g:=Yr (p:=p) (h:=wd<|k+1) (w:=wd k) .T (T k) u I.pos ⋯ ⋯ λi j x A=>by have:=J i j x A;omega
  simp only[wh]at g;have U:=Yf eK;have n:=au (λi=>zm (λj=>T k i j*u j) (wd k)%p)<|wd<|k+1;by_cases Y : ∃c,c<wd (k+1)/\zm (λj=>T k c j*u j) (wd k)%p≠0
  ·refine⟨ej λi=>zm (λj=>T k i j*u j) (wd k)%p,?_,(λy e c _=>by cases e;exact⟨Na _ (by have:=I.pos;omega),MN _ I.pos⟩),λ_=>⟨nofun,(λy e=>by cases e;exact⟨(λc _=>by rw[MM];rfl),(by obtain⟨c,a,d⟩:=Y;exact⟨c,a,(by rw[MM];exact d)⟩)⟩)⟩,nofun⟩
   refine jg<|zo (γ':=[.val (.int p),.val<|qX w wd T k,.val<|.tup<|zH (wd k) u,.no]) ?_ (zo (γ':=[.val (.int p),.val<|qX w wd T k,.val<|.tup<|zH (wd k) u,.val (.tup<|zH (wd<|k+1) λi=>zm (λj=>T k i j*u j) (wd k)%p)]) ?_ ?_)
   ·simp[G8,jc,Ml,yB,hw,U]
   ·simp[P6,yB,b,O,g]
   ·have f:(Me<|wd<|k+1).any (λi=>(zm (λj=>T k i j*u j) (wd k)%p) != 0)=eA:=by
     obtain⟨c,a,d⟩:=Y;exact Ti.mpr ⟨c,Mg.mpr a,by simpa using d⟩
    have l:Aw (zh 3) [.val (.int p),.val<|qX w wd T k,.val<|.tup<|zH (wd k) u,.val (.tup<|zH (wd<|k+1) λi=>zm (λj=>T k i j*u j) (wd k)%p)]=ej (.bl eA):=by show((wy _).map λs=>D.bl<|s.any id)=_;rw[n];show ej (D.bl<|((Me<|wd<|k+1).map λi=>(zm (λj=>T k i j*u j) (wd k)%p) != 0).any id)=_;rw[List.any_map];rw[show(id∘λi=>(zm (λj=>T k i j*u j) (wd k)%p) != 0)=λi=>(zm (λj=>T k i j*u j) (wd k)%p) != 0 from rfl,f]
    unfold P7;simp only[vf,rP,W9,l];rfl
  ·refine⟨eF,?_,nofun,λ_=>⟨λ_ c m=>NP λz=>Y ⟨c,m,z⟩,nofun⟩,nofun⟩
   refine jg<|zo (γ':=[.val (.int p),.val<|qX w wd T k,.val<|.tup<|zH (wd k) u,.no]) ?_ (zo (γ':=[.val (.int p),.val<|qX w wd T k,.val<|.tup<|zH (wd k) u,.val (.tup<|zH (wd<|k+1) λi=>zm (λj=>T k i j*u j) (wd k)%p)]) ?_ ?_)
   ·simp[G8,jc,Ml,yB,hw,U]
   ·simp[P6,yB,b,O,g]
   ·have f:(Me<|wd<|k+1).any (λi=>(zm (λj=>T k i j*u j) (wd k)%p) != 0)=eK:=Td.mpr λc m z=>Y ⟨c,Mg.mp m,by simpa using z⟩
    have l:Aw (zh 3) [.val (.int p),.val<|qX w wd T k,.val<|.tup<|zH (wd k) u,.val (.tup<|zH (wd<|k+1) λi=>zm (λj=>T k i j*u j) (wd k)%p)]=ej (.bl eK):=by show((wy _).map λs=>D.bl<|s.any id)=_;rw[n];show ej (D.bl<|((Me<|wd<|k+1).map λi=>(zm (λj=>T k i j*u j) (wd k)%p) != 0).any id)=_;rw[List.any_map];rw[show(id∘λi=>(zm (λj=>T k i j*u j) (wd k)%p) != 0)=λi=>(zm (λj=>T k i j*u j) (wd k)%p) != 0 from rfl,f]
    unfold P7;simp only[vf,rP,W9,l];rfl
end
section
variable{wd:UX}{m k:Nat}{p:Int}{w:UK}{T:UW}
theorem oB(h:1<=n):k6 n (-1)=ej (n - 1):=by unfold k6;rw[UY ⋯,UJ ⋯];congr 1;omega
theorem ia(z:b.s+b.n=k+1)(y:Vc):k8 wd (n4 k b<|some y)=k8 wd b++[D.tup (zH (wd<|k+1) y)]:=by
 unfold k8 n4;dsimp only;rw[Oc,NA];congr 1
 ·refine MA λi a=>?_
  have a:=Mg.mp a;rw[UY ⋯]
 ·simp[z]
theorem eU:yD=jr 4 (zJ UR R8):=rfl
theorem mF(C:1<=b.n)(I:b.s+b.n=k+1)(Y:k<=20)(e:xT [.int p,qX w wd T k,.tup (zH (wd k)<|b.v k)]=ej (.val<|oD (wd<|k+1) o)) :
 yD [.int p,qX w wd T k,qC wd b]=ej (.val<|qC wd<|n4 k b o):=by
 have j:=ju;have f:=oB C;have z:=bc (wd:=wd) (b:=b) (i:=b.n - 1) ⋯;rw[show b.s+(b.n - 1)=k by omega]at z;have h:b.n - 1<b.n:=by omega
 rw[eU];refine jg<|zo (γ':=[.val (.int p),.val<|qX w wd T k,.val<|qC wd b,.val (oD (wd<|k+1) o)]) ?_ ?_
 ·unfold UR
  have a:eL (zW<|eL (zh 2)<|zu<|.int 1) (EH<|zu<|.int 1) (jc 4 [.int p,qX w wd T k,qC wd b])=ej (.tup<|zH (wd k)<|b.v k):=by have O : ∀g:Ctx,EH (zu<|.int 1) g=ej (.int (-1)):=λ_=>rfl;simp[jc,Ml,f,O];exact z
  simp only[ve,xS,jO,qU,a];simp[jc,Ml,e]
 ·cases o with
  | none=>simp[R8,oD,Eb,n4]
  | some y=>
   have d:b.n+1<=lim:=by omega
   have U:=ia (wd:=wd) I y;simp[R8,oD,Eb,d,j3];unfold qC;rw[U];rfl
noncomputable def lV(p:Int)(w:UK)(wd:UX)(T:UW)(k:Nat)(L:List Vc):Prop:=
 if w k=eA then ∃q K l s,L=(Me q).map K/\kv p (wd<|k+1) q K l/\(∀v,Span p (wd<|k+1) (f9 q K) v↔D6 p (wd k) (wd<|k+1) (T k) v)/\Rk p (wd k) (wd<|k+1) (λj i=>T k i j) s/\q+s=wd (k+1)
 else ∃r B l,kv p (wd<|k+1) r B l/\(∀v,Span p (wd<|k+1) (f9 r B) v↔Span p (wd<|k+1) (f9 (wd k) λj i=>T k i j) v)/\L=((Me<|wd<|k+1).filter λ(c:Nat)=> !decide ((c:Int)∈(Me r).map λj=>((l j:Nat):Int))).map qg
theorem uu:yY=jr 3 (zJ M7<|zJ Uu Uv):=rfl
theorem Ks(l:UX) : ∀L:List Nat,Yc (L.map λj=>D.int ((l j:Nat):Int))=ej (L.map λj=>((l j:Nat):Int))
 | []=>rfl
 | j::L=>by simp[Yc,Ks l L]
theorem Wi(z:kv p n r B l):r<=n:=by
 have mono : ∀k,k<r->k<=l k:=by
  intro k
  induction k with
  | zero=>intro _;omega
  | succ k O=>intro U;have:=O ⋯;have:=z.mono k (k+1) ⋯ U;omega
 cases r with
 | zero=>omega
 | succ I=>have:=mono I ⋯;have:=z.lt I ⋯;omega
theorem iN(n:Nat):qF (jd n n λi j=>if i=j then 1 else 0)=(Me n).map λ(i:Nat)=>D.tup [.int i,.tup (zH n<|qg i)]:=by unfold qF jd;simp only[MF,Nz];refine MA λi a=>?_;have a:=Mg.mp a;simp[a];rfl
theorem Vr(J:Pr p)(C : ∀k,wd k<=8) : ∃L:List Vc,lV p w wd T k L/\yY [.int p,qX w wd T k]=ej (.own<|L.map λy=>D.tup<|zH (wd<|k+1) y):=by
 have M:=ju;have H:=C k;have G:=C<|k+1;rw[uu];unfold lV;cases hw:w k with
 | true=>
  have a:l4 w wd k=wd k:=by unfold l4;rw[hw];rfl
  have O:l5 w wd k=wd (k+1):=by unfold l5;rw[hw];rfl
  obtain⟨q,K,l,s,e,z,U,E,t⟩:=yZ J (h:=wd k) (w:=wd<|k+1) ⋯ ⋯<|T k;refine⟨(Me q).map K,by rw[UJ rfl];exact⟨q,K,l,s,rfl,z,U,E,t⟩,jg ?_⟩;have Y:=Yf eA;have d:M7 (jc 3 [.int p,qX w wd T k])=ej (.ret<|.own<|jd q (wd<|k+1) K):=by simp[M7,jc,Ml,yB,hw,Y,a,O,e]
  rw[jj,d,Nb];rfl
 | false=>
  have a:l4 w wd k=wd (k+1):=by unfold l4;rw[hw];rfl
  have O:l5 w wd k=wd k:=by unfold l5;rw[hw];rfl
  obtain⟨r,B,l,e,z,U⟩:=KC J (h:=wd<|k+1) (w:=wd k) ⋯ ⋯<|T k;have N:=Wi z;have u:r<=lim:=by omega
  have b:wd (k+1)<=lim:=by omega
  refine⟨_,by rw[UY ⋯];exact⟨r,B,l,z,U,rfl⟩,?_⟩;have Y:=Yf eK;have x:zP (.nm 0) jb (zD xc<|zb (zc 0) zI) [.no] (jd r (wd<|k+1) B)=ej ((Me r).map λj=>D.int ((l j:Nat):Int)):=by unfold jd;refine zw _ _ λj I=>zx rfl rfl ?_;have I:=Mg.mp I;have e:=vK b (B j) (z.lt j I) (λi f=>z.pb j i I f) (by rw[z.one j I];decide);simp[e]
  have A:zP (.tp [0,1]) (sB<|KU (zc 0)<|zh 2) (zc 1) [.no,.no,.val (.lst<|(Me r).map λj=>D.int ((l j:Nat):Int))] ((Me<|wd<|k+1).map λ(i:Nat)=>D.tup [.int i,.tup (zH (wd<|k+1)<|qg i)]) =
   ej (((Me<|wd<|k+1).filter λ(c:Nat)=> !decide ((c:Int)∈(Me r).map λj=>((l j:Nat):Int))).map λ(i:Nat)=>D.tup<|zH (wd<|k+1)<|qg i):=by
   refine jD (λ(c:Nat)=> !decide ((c:Int)∈(Me r).map λj=>((l j:Nat):Int))) (λ(i:Nat)=>D.tup<|zH (wd<|k+1)<|qg i) _ λi f=>⟨_,rfl,?_,λ_=>rfl⟩;have F:=Ks l<|Me r;show(KU (zc 0) (zh 2) [.val (.int i),_,.val (.lst<|(Me r).map λj=>D.int ((l j:Nat):Int))]).bind vl=_;show((Yc<|(Me r).map λj=>D.int ((l j:Nat):Int)).map λl=>D.bl<|!decide ((i:Int)∈l)).bind vl=_;rw[F];rfl
  have d:=yE (n:=wd<|k+1) b;refine jg<|zo (γ':=[.val (.int p),.val<|qX w wd T k,.no]) ?_ (zo (γ':=[.val (.int p),.val<|qX w wd T k,.val (.lst<|(Me r).map λj=>D.int ((l j:Nat):Int))]) ?_ ?_)
  ·simp[M7,jc,Ml,yB,hw,Y]
  ·simp[Uu,zZ,yB,a,O,e,u,x]
  ·have g:j5 (z6 (l4 w wd k) (l5 w wd k)<|T k)=ej (.T,[.int (wd (k+1):Nat),.int (wd k:Nat),.tup (jd (wd<|k+1) (wd k)<|T k)]):=by rw[a,O];rfl
   have m:j5 (z6 (wd<|k+1) (wd<|k+1) λi j=>if i=j then 1 else 0)=ej (.T,[.int (wd (k+1):Nat),.int (wd (k+1):Nat),.tup (jd (wd<|k+1) (wd<|k+1) λi j=>if i=j then 1 else 0)]):=rfl;have o:=iN<|wd<|k+1;simp[Uv,zZ,yB,g,d,m,o,b];rw[A];exact congrArg ej (congrArg (List.map _)<|Tc λc _=>by simp)
end
section
variable{wd:UX}{m k r N:Nat}{p:Int}{w:UK}{T:UW}{B:Nat->Vc}{l:UX}{A:Nat->gR}
theorem rq(I:kv p N r B l){j:Nat}(z:j<r):o9 r l (l j)=ej j:=by
 cases h:o9 r l (l j)with
 | none=>exact absurd rfl<|JD h j z
 | some i=>
  obtain⟨a,b⟩:=xV h;rw[aY I.mono a z b]
theorem WG{a b:List Nat}(C:a.Nodup)(z:b.Nodup)(h : ∀x,x∈a↔x∈b):a.length=b.length:=((List.perm_ext_iff_of_nodup C z).mpr h).length_eq
theorem Yl(z:kv p N r B l):(Me N).countP (λi=>(o9 r l i).isSome)=r:=by
 rw[Nt];have e:((Me N).filter λi=>(o9 r l i).isSome).length=((Me r).map l).length:=by
  refine WG (Sh.sublist RA) ?_ λx=>?_
  ·rw[List.nodup_iff_pairwise_ne,O7]
   refine Rp (λ{a b} g I h=>?_)<|Rb (n:=r);have:=z.mono a b h<|Mg.mp I;omega
  ·rw[MR,MD]
   constructor
   ·rintro⟨d,f⟩
    obtain⟨j,O⟩:=Om.mp f;obtain⟨U,Y⟩:=xV O;exact⟨j,Mg.mpr U,Y⟩
   ·rintro⟨j,d,f⟩
    have d:=Mg.mp d;subst f;exact⟨Mg.mpr<|z.lt j d,by rw[rq z d];rfl⟩
 rw[e];simp
theorem lr(q:UK)(N:Nat):(Me N).countP q+(Me N).countP (λi=> !q i)=N:=by
 have:=Ta q (l:=Me N);rw[Nz]at this;rw[this];congr 1
 ·rw[<- this]
 ·rw[<- this]
  exact Oj λi _=>by simp
theorem GC(z : ∀j,j<N->(A j).has k=eA)(t:Vc)(c:Nat):sh p A N t k c%p=app (λi j=>(A j).v k i) N t c%p:=by unfold sh app;rw[MM];congr 1;exact zA λj I=>by rw[UJ (z j I),Nx]
theorem Zz(z : ∀j,j<N->(A j).has k=eA)(h:o9 r l i=ej j)(c:Nat):(k0 p A N r B l i).v k c%p=app (λi j=>(A j).v k i) N (B j) c%p:=by unfold k0;rw[h];exact GC z (B j) c
theorem KP(h:o9 r l i=eF):k0 p A N r B l i=A i:=by unfold k0;rw[h]
theorem dH(hp:Pr p)(Z : ∀k,wd k<=8)(hk : ∀j,j<wd k->(A j).has k=eA)(hs : ∀v:Vc,∃t,∀i,i<wd k->v i%p=app (λi j=>(A j).v k i) (wd k) t i%p)
 (S:kv p (wd k) r B l) (hW : ∀t,Span p (wd k) (f9 r B) t↔Aq p w wd T k (app (λi j=>(A j).v k i) (wd k) t)) {J:List Vc} (C:lV p w wd T k J) {nx:Nat->Option Vc}
 (hr : ∀i,i<wd k->w k=eK->(nx i=eF->∀c,c<wd (k+1)->app (T k) (wd k) ((k0 p A (wd k) r B l i).v k) c%p=0)/\∀y,nx i=ej y->(∀c,c<wd (k+1)->app (T k) (wd k) ((k0 p A (wd k) r B l i).v k) c%p=y c%p)/\∃c,c<wd (k+1)/\y c%p≠0)
 (hl : ∀i,i<wd k->w k=eA->(nx i=eF->¬∃y:Vc,∀c,c<wd k->app (T k) (wd<|k+1) y c%p=(k0 p A (wd k) r B l i).v k c%p)/\∀y,nx i=ej y->∀c,c<wd k->app (T k) (wd<|k+1) y c%p=(k0 p A (wd k) r B l i).v k c%p) :
 (∀y,y∈J->∀c,c<wd (k+1)->0<=y c/\y c<p)/\(∀y,y∈J->w k=eA->∀c,c<wd k->app (T k) (wd<|k+1) y c%p=0)/\
   (∀v,Span p (wd<|k+1) (λg=>(∃i,i<wd k/\nx i=ej g)\/g∈J) v)/\(Me<|wd k).countP (λi=>(nx i).isSome)+J.length=wd (k+1):=by
 have two:=hp.two;cases hw:w k with
 | false=>
  have u : ∀t,Span p (wd k) (f9 r B) t↔D6 p (wd<|k+1) (wd k) (T k) (app (λi j=>(A j).v k i) (wd k) t):=λt=>by have:=hW t;unfold Aq at this;rw[hw,UY ⋯]at this;exact this
  unfold lV at C;rw[hw,UY ⋯]at C;obtain⟨o,B2,n,H,hI,U⟩:=C;obtain⟨g1,g2,g3,G⟩:=AV hp (Z k) (Z<|k+1) hs S u H hI;have b8 : ∀c,c<wd (k+1)->(∀j,j<o->n j≠c)->qg c∈J:=λc O C=>by rw[U];refine MD.mpr ⟨c,MR.mpr ⟨Mg.mpr O,?_⟩,rfl⟩;simp only[Ou,decide_eq_false_iff_not,MD,Mg];rintro⟨j,f,h⟩;exact C j f ⋯
  have on : ∀i,i<wd k->(nx i).isSome=(o9 r l i).isNone:=λi d=>by
   cases b:o9 r l i with
   | none=>
    obtain⟨c,f,h⟩:=g2 i d<|JD b;cases I:nx i with
    | some y=>rfl
    | none=>
     have:=(hr i d hw).1 I c f;rw[KP b]at this;exact absurd this h
   | some j=>
    obtain⟨f,h⟩:=xV b;cases I:nx i with
    | none=>rfl
    | some y=>
     obtain⟨e,c,M,h4⟩:=(hr i d hw).2 y I;have z:=g1 j f c M;rw[<- qG (λa _=>Zz (B:=B) (r:=r) (l:=l) hk b a) c,e c M]at z;exact absurd z h4
  refine⟨λy I c O=>?_,(λy I z=>by cases z),λv=>G _ (λc O x=>?_) (λc O x=> .gen (.inr<|b8 c O x)) v,?_⟩
  ·rw[U]at I
   obtain⟨i,_,rfl⟩:=MD.mp I;unfold qg;split<;>omega
  ·have b:o9 r l c=eF:=by
    cases b:o9 r l c with
    | none=>rfl
    | some j=>exact absurd (xV b).2 (x j (xV b).1)
   have m:=on c O;rw[b]at m;obtain⟨y,I⟩:=Om.mp m;refine(Span.gen<|.inl ⟨c,O,I⟩).congr λi d=>?_;have:=((hr c O hw).2 y I).1 i d;rw[KP b]at this;exact this
  ·have F:(Me<|wd k).countP (λi=>(nx i).isSome)=(Me<|wd k).countP λi=> !(o9 r l i).isSome:=Oj λi d=>by
    rw[on i (Mg.mp d)];cases o9 r l i<;>simp
   have R:=lr (λi=>(o9 r l i).isSome)<|wd k;rw[Yl S]at R;have W:=lr (λi=>(o9 o n i).isSome)<|wd<|k+1;rw[Yl H]at W;have X:J.length=(Me<|wd<|k+1).countP λi=> !(o9 o n i).isSome:=by
    rw[U,MF,<- Nt];refine Oj λi d=>?_;cases b:o9 o n i with
    | none=>
     have:=JD b;simp only[Ou,decide_eq_false_iff_not,MD,Mg];constructor
     ·intro _;rfl
     ·rintro _ ⟨j,f,h⟩
      exact this j f ⋯
    | some j=>
     obtain⟨f,h⟩:=xV b;simp only[Ou,decide_eq_false_iff_not,MD,Mg];constructor
     ·intro z;exact absurd ⟨j,f,by rw[h]⟩ z
     ·intro z;cases z
   rw[F,X];omega
 | true=>
  have u : ∀t,Span p (wd k) (f9 r B) t↔Span p (wd k) (f9 (wd<|k+1) λj i=>T k i j) (app (λi j=>(A j).v k i) (wd k) t):=λt=>by have:=hW t;unfold Aq at this;rw[hw,UJ rfl]at this;exact this
  unfold lV at C;rw[hw,UJ rfl]at C;obtain⟨q,K,lK,s,U,N,L,P,Q⟩:=C;obtain⟨g1,g2,g3,G⟩:=AW hp (Z k) (Z<|k+1) hs S u L P Q;have on : ∀i,i<wd k->(nx i).isSome=(o9 r l i).isSome:=λi d=>by
   cases b:o9 r l i with
   | none=>
    cases I:nx i with
    | none=>rfl
    | some y=>
     have:=(hl i d hw).2 y I;rw[KP b]at this;exact absurd ⟨y,this⟩<|g2 i d<|JD b
   | some j=>
    obtain⟨f,h⟩:=xV b;cases I:nx i with
    | some y=>rfl
    | none=>
     obtain⟨y,bl⟩:=g1 j f;exact absurd ⟨y,λc O=>by rw[bl c O,Zz hk b c]⟩<|(hl i d hw).1 I
  refine⟨λy I c O=>?_,λy I _ c O=>?_,λv=>G _ (λj=>(nx<|l j).getD λ_=>0) (λj Y=>?_) (λj Y=>?_) v,?_⟩
  ·rw[U]at I
   obtain⟨j,Y,rfl⟩:=MD.mp I;exact N.o5 j c (Mg.mp Y) O
  ·rw[U]at I
   obtain⟨j,Y,rfl⟩:=MD.mp I;exact(L<|K j).mp (.gen ⟨j,Mg.mp Y,rfl⟩) c O
  ·have b:=rq S Y
   have E:=S.lt j Y;have m:=on (l j) E;rw[b]at m;obtain⟨y,I⟩:=Om.mp m;rw[I];refine⟨.gen<|.inl ⟨l j,E,I⟩,λc O=>?_⟩;have:=(hl (l j) E hw).2 y I c O;rw[Zz hk b c]at this;exact this
  ·refine .gen (.inr ?_)
   rw[U];exact MD.mpr ⟨j,Mg.mpr Y,rfl⟩
  ·have F:(Me<|wd k).countP (λi=>(nx i).isSome)=(Me<|wd k).countP λi=>(o9 r l i).isSome:=Oj λi d=>by
    rw[on i (Mg.mp d)]
   rw[F,Yl S,U,MF,Nz];omega
end
section
variable{wd:UX}{m k:Nat}{p:Int}{w:UK}{T:UW}
theorem iJ:XA=jr 9 (zJ Ud<|zJ Ue<|zJ Ug<|zJ Uh<|zJ Ui<|zJ Uj P2):=rfl
theorem GA(y:Vc):qC wd (t5 k y) = .tup [.int ((k:Int)+1),.tup [.tup (zH (wd<|k+1) y)]]:=by unfold qC t5 k8;simp
theorem oK(J:Pr p)(O : ∀k,wd k<=8)(hm:m<=5)(Z:k<m)(hT : ∀i j,i<l4 w wd k->j<l5 w wd k->0<=T k i j/\T k i j<p){C:List gR}(I:Dp p w wd T k C)(b6:C.length<=100) :
 ∃S,Dp p w wd T (k+1) S/\S.length<=C.length+8/\XA [jA p m w wd T,.int k,.lst (C.map<|qC wd)]=ej (.val<|.lst<|S.map<|qC wd):=by
 have hl:=ju;have X:=J.pos;have P:C.length<=lim:=by omega
 have G:(C.filter λb=>b.has k).length=wd k:=by rw[<- Nt];exact I.ct k<|Mp _
 let A:Nat->gR:=λj=>(C.filter λb=>b.has k).getD j ma;have R:(C.filter λb=>b.has k)=(Me<|wd k).map A:=by rw[<- G];exact(jk ma _).symm
 have W : ∀j,j<wd k->A j∈C/\(A j).has k=eA:=λj U=>by
  have:A j∈C.filter λb=>b.has k:=by show(C.filter λb=>b.has k).getD j ma∈_;rw[Mm,Mi ⋯];exact OB _
  have:=MR.mp this;exact⟨this.1,by simpa using this.2⟩
 have H : ∀j,j<wd k->ri p w wd T k (A j):=λj U=>I.ok _ (W j U).1;have hO : ∀i c,i<c->c<wd k->Ord w (A i) (A c):=λi c d u=>by have:=OE.mp I.od i c ⋯ ⋯ d;show Ord w ((C.filter λb=>b.has k).getD i ma) ((C.filter λb=>b.has k).getD c ma);rw[Mm,Mi ⋯,Mm,Mi ⋯];exact this
 have F : ∀j,j<wd k->(A j).has k=eA:=λj U=>(W j U).2;obtain⟨r,B,l,K,hW,eS⟩:=cH (T:=T) (w:=w) (A:=A) (N:=wd k) (k:=k) J (λj U=>by have:=(H j U).le;omega) F Z (O k) hm O λj rm i U hh a=>(H j U).o5 rm i hh a;have kA : ∀i,i<wd k->ri p w wd T k (k0 p A (wd k) r B l i):=λi a=>pP X K H F hO a;have ax : ∀i,i<wd k->(k0 p A (wd k) r B l i).has k=eA:=λi a=>by rw[V9];exact F i a
 have ex : ∀i,∃o:Option Vc,i<wd k->(xT [.int p,qX w wd T k,.tup (zH (wd k)<|(k0 p A (wd k) r B l i).v k)]=ej (.val<|oD (wd<|k+1) o)/\(∀y,o=ej y->∀c,c<wd (k+1)->0<=y c/\y c<p)/\
  (w k=eK->(o=eF->∀c,c<wd (k+1)->app (T k) (wd k) ((k0 p A (wd k) r B l i).v k) c%p=0)/\∀y,o=ej y->(∀c,c<wd (k+1)->app (T k) (wd k) ((k0 p A (wd k) r B l i).v k) c%p=y c%p)/\∃c,c<wd (k+1)/\y c%p≠0)/\
  (w k=eA->(o=eF->¬∃y:Vc,∀c,c<wd k->app (T k) (wd<|k+1) y c%p=(k0 p A (wd k) r B l i).v k c%p)/\∀y,o=ej y->∀c,c<wd k->app (T k) (wd<|k+1) y c%p=(k0 p A (wd k) r B l i).v k c%p)):=λi=>by
  by_cases a:i<wd k
  ·obtain⟨o,h⟩:=Vq (T:=T) (w:=w) (k:=k) J O hT ((k0 p A (wd k) r B l i).v k) λc hc=>(kA i a).o5 k c (ax i a) hc
   exact⟨o,λ_=>h⟩
  ·exact⟨eF,λz=>absurd z a⟩
 obtain⟨nx,s⟩:=Px ex;obtain⟨Y,hN,eN⟩:=Vr (T:=T) (w:=w) (k:=k) J O;have hs : ∀v:Vc,∃t,∀i,i<wd k->v i%p=app (λi j=>(A j).v k i) (wd k) t i%p:=λv=>by
  have hv:Span p (wd k) (f9 (wd k) λj=>(A j).v k) v:=(I.sp k (Mp _) v).le λg hg=>by obtain⟨b,d,u,rfl⟩:=hg;have Q:b∈C.filter λb=>b.has k:=MR.mpr ⟨d,by simpa using u⟩;rw[R]at Q;obtain⟨j,U,rfl⟩:=MD.mp Q;exact .gen ⟨j,Mg.mp U,rfl⟩
  obtain⟨t,ht⟩:=YN hv;exact⟨t,λi a=>by rw[ht i a];unfold app;rw[xn]⟩
 obtain⟨f1,f2,f3,f4⟩:=dH (T:=T) (w:=w) (A:=A) J O F hs K hW hN (nx:=nx) (λi a=>(s i a).2.2.1) λi a=>(s i a).2.2.2;refine⟨wt p k w C A (wd k) r B l nx Y,iI X I G (λ_=>rfl) K (λi y a e=>(s i a).2.1 y e) f1 (λi a e f=>((s i a).2.2.1 f).1 e) (λi y a e f=>(((s i a).2.2.1 f).2 y e).1) (λi y a e f=>((s i a).2.2.2 f).2 y e) f2 f3 f4,?_,?_⟩
 ·have d:(C.filter λb=> !b.has k).length+wd k=C.length:=by
   have:=Ta (λb:gR=>b.has k) (l:=C);rw[<- G,<- Nt,<- Nt,this];have e:C.countP (λb=> !b.has k)=C.countP λb=>decide (¬b.has k=eA):=Oj λb _=>by simp
   rw[e];omega
  have u:=O<|k+1;unfold wt;rw[NM];cases w k<;>simp<;>omega
 ·
  let L:D:= .lst (C.map<|qC wd);have e3:zP (.nm 0) (jU<|sB<|zD qi<|zb (zc 0)<|zb (zc 1) zI) (zc 0) [.no,.val (.int k)] (C.map<|qC wd)=ej ((C.filter λb=> !b.has k).map (qC wd)):=by refine jD (g:=qC wd) (λb=> !b.has k) (qC wd) C λb M=>⟨[.val (qC wd b),.val (.int k)],rfl,?_,λ_=>by rfl⟩;have e:=yT (wd:=wd) (b:=b) (by have:=(I.ok b M).le;omega) k;simp[e]
  have e4:zP (.nm 0) (sB<|zD qi<|zb (zc 0)<|zb (zc 1) zI) (zc 0) [.no,.val (.int k)] (C.map<|qC wd)=ej ((Me<|wd k).map λj=>qC wd<|A j):=by
   have:((C.filter λb=>b.has k).map (qC wd))=(Me<|wd k).map λj=>qC wd (A j):=by rw[R,Nb];rfl
   rw[<- this];refine jD (g:=qC wd) (λb=>b.has k) (qC wd) C λb M=>⟨[.val (qC wd b),.val (.int k)],rfl,?_,λ_=>by rfl⟩;have e:=yT (wd:=wd) (b:=b) (by have:=(I.ok b M).le;omega) k;simp[e]
  have e5:zP (.nm 0) jb (zD yD<|zb (zc 1)<|zb (zc 2)<|zb (zc 0) zI) [.no,.val<|.int p,.val (qX w wd T k)] ((Me<|wd k).map λi=>qC wd<|k0 p A (wd k) r B l i)=ej ((Me<|wd k).map λi=>qC wd<|n4 k (k0 p A (wd k) r B l i)<|nx i):=by refine zw _ _ λi a=>zx rfl rfl ?_;have a:=Mg.mp a;have d:=m4.mp<|ax i a;have e:=mF (p:=p) (kA i a).n1 (by have:=(kA i a).le;omega) (show k<=20 by omega) (s i a).1;simp[e]
  have e6:zP (.nm 0) jb (qW<|zb (zy j3 (zc 1)<|zu<|.int 1)<|zb (qW<|zb (zc 0) zI) zI) [.no,.val (.int k)] (Y.map λy=>D.tup<|zH (wd<|k+1) y)=ej ((Y.map<|t5 k).map (qC wd)):=by rw[Nb];refine zw _ _ λy hy=>zx rfl rfl ?_;show _=ej (qC wd<|t5 k y);rw[GA];rfl
  have c5:Y.length<=lim:=by have:=O<|k+1;omega
  have c6:wd k<=lim:=by have:=O k;omega
  let n:D:= .lst ((C.filter λb=> !b.has k).map (qC wd));let E:D:= .lst ((Me<|wd k).map λi=>qC wd<|k0 p A (wd k) r B l i);let x:D:= .lst ((Me<|wd k).map λi=>qC wd<|n4 k (k0 p A (wd k) r B l i)<|nx i);let Ne:D:= .lst ((Y.map<|t5 k).map (qC wd));rw[iJ];refine jg (zo (γ':=[.val (jA p m w wd T),.val<|.int k,.val L,.val<|.int p,.no,.no,.no,.no,.no]) ?_
   (zo (γ':=[.val (jA p m w wd T),.val<|.int k,.val L,.val<|.int p,.val<|qX w wd T k,.no,.no,.no,.no]) ?_
   (zo (γ':=[.val (jA p m w wd T),.val<|.int k,.val L,.val<|.int p,.val<|qX w wd T k,.val n,.no,.no,.no]) ?_
   (zo (γ':=[.val (jA p m w wd T),.val<|.int k,.val L,.val<|.int p,.val<|qX w wd T k,.val n,.val E,.no,.no]) ?_
   (zo (γ':=[.val (jA p m w wd T),.val<|.int k,.val L,.val<|.int p,.val<|qX w wd T k,.val n,.val E,.val x,.no]) ?_
   (zo (γ':=[.val (jA p m w wd T),.val<|.int k,.val L,.val<|.int p,.val<|qX w wd T k,.val n,.val E,.val x,.val Ne]) ?_ ?_))))))
  ·simp[Ud,jc,Ml,yo,L]
  ·simp[Ue,yo,Xt,Z]
  ·simp[Ug,zZ,L,P,e3,n]
  ·simp[Uh,zZ,L,P,e4,eS,E]
  ·simp[Ui,zZ,E,c6,e5,x]
  ·simp[Uj,zZ,eN,c5]
   rw[e6];simp[Ne]
  ·have c9:(C.filter λb=> !b.has k).length<=100:=NQ (Sr _ _) b6
   have q1:=O k;have q2:=O<|k+1;cases f:w k with
   | false=>
    have eq:=Xh eK;have d:Y.length+wd k<=lim:=by omega
    have u:(C.filter λb=> !b.has k).length+(Y.length+wd k)<=lim:=by omega
    simp[P2,yB,f,eq,n,x,Ne,wt,d,u]
   | true=>
    have eq:=Xh eA;have d:wd k+Y.length<=lim:=by omega
    have u:(C.filter λb=> !b.has k).length+(wd k+Y.length)<=lim:=by omega
    simp[P2,yB,f,eq,n,x,Ne,wt,d,u]
end
section
variable{wd:UX}{m k:Nat}{p:Int}{w:UK}{T:UW}
def me(c:Nat):gR:=⟨0,1,λ_=>qg c⟩
theorem uM(Y:Pr p):Dp p w wd T 0 ((Me<|wd 0).map me):=by
 have two:=Y.two;have a : ∀b,b∈(Me<|wd 0).map me ↔ ∃c,c<wd 0/\b=me c:=λb=>by rw[MD];exact⟨λ⟨c,d,e⟩=>⟨c,Mg.mp d,e.symm⟩,λ⟨c,d,e⟩=>⟨c,Mg.mpr d,e.symm⟩⟩
 have U : ∀c,(me c).has 0=eA:=λc=>m4.mpr ⟨Mp _,by show 0<0+1;omega⟩;refine⟨λb I=>?_,λr h v=>?_,λr h=>?_,?_⟩
 ·obtain⟨c,O,rfl⟩:=(a b).mp I
  exact⟨Mp _,by show 0+1<=0+1;omega,λr i _ _=>by show 0<=qg c i/\qg c i<p;unfold qg;split<;>omega,λj k=>by omega⟩
 ·have:r=0:=by omega
  subst this;refine(VF (wd 0) v).le λg f=>?_;obtain⟨c,O,rfl⟩:=f;exact .gen ⟨me c,(a _).mpr ⟨c,O,rfl⟩,U c,rfl⟩
 ·have:r=0:=by omega
  subst this;rw[List.countP_eq_length.mpr λb I=>?_]
  ·simp
  ·obtain⟨c,O,rfl⟩:=(a b).mp I
   exact U c
 ·refine RU _ ?_
  rw[O7];exact OE.mpr λ_ _ _ _ _=>⟨λz=>absurd z<|Nw 0,λz=>absurd z<|Nw 0⟩
theorem Yo:va=jr 3 (zJ O9<|zJ TR TU):=rfl
def Yx(b:gR):Int×Int:=((b.s:Int),((b.s+b.n - 1:Nat):Int))
theorem ig : ∀C:List gR,(∀b,b∈C->1<=b.n/\b.s+b.n<=100)->Vx qo (C.map<|qC wd)=ej (C.map Yx)
 | [],_=>rfl
 | b::C,h=>by have a:=h b Mx;have e:=X3 (wd:=wd) a.1 a.2;have z:=ig C λb I=>h b<|Ms _ I;simp only[MT,Vx,e,z,Mj];rfl
def kF(C:List gR):List gR:=(qp<|C.map Yx).map λi=>C.getD i ma
theorem J3(C:List gR):(kF C).Perm C:=by have h:=qa<|C.map Yx;rw[MF]at h;have:=h.map λi=>C.getD i ma;rw[jk]at this;exact this
theorem YQ(C:List gR):(kF C).map Yx=jv (C.map Yx):=by unfold kF jv;rw[Nb];refine MA λi a=>?_;have h:=qa<|C.map Yx;have a:=Mg.mp<|h.mem_iff.mp a;rw[MF]at a;simp[a]
theorem VX(z:Pr p)(O : ∀k,wd k<=8)(S:m<=5)(J : ∀k i j,k<m->i<l4 w wd k->j<l5 w wd k->0<=T k i j/\T k i j<p) :
 ∃C,Dp p w wd T m C/\C.length<=48/\va [jA p m w wd T]=ej (.own<|(kF C).map (qC wd)):=by
 have M:=ju;have L:=O 0;have U:wd 0<=lim:=by omega
 have B:=yE (n:=wd 0) U;have r:j5 (z6 (wd 0) (wd 0) λi j=>if i=j then 1 else 0)=ej (.T,[.int (wd 0:Nat),.int (wd 0:Nat),.tup (jd (wd 0) (wd 0) λi j=>if i=j then 1 else 0)]):=rfl;have x:zP (.nm 0) jb (qW<|zb (zu<|.int 0)<|zb (qW<|zb (zc 0) zI) zI) [.no] (jd (wd 0) (wd 0) λi j=>if i=j then 1 else 0)=ej (((Me<|wd 0).map me).map (qC wd)):=by rw[Nb];unfold jd;refine zw _ _ λi a=>zx rfl rfl ?_;show ej _=ej (qC wd<|me i);unfold qC me k8;simp;rfl
 have x1:O9 (jc 3 [jA p m w wd T])=ej (.next [.val (jA p m w wd T),.val<|.lst<|((Me<|wd 0).map me).map (qC wd),.no]):=by simp[O9,jc,Ml,yo,B,r,zZ,U];rw[x];simp
 obtain⟨H,G,C,c,I,t,rfl⟩:=vV (T:= .nm 2) (F:=jy 1<|zD XA<|zb (zc 0)<|zb (zc 2)<|zb (zc 1) zI) (f:=kD<|zW<|eL (zh 0)<|zu<|.int 2)
  (λj γ=>∃C c,Dp p w wd T j C/\C.length<=8*(j+1)/\γ=[.val (jA p m w wd T),.val<|.lst<|C.map<|qC wd,c]) m ⋯ (γ:=[.val (jA p m w wd T),.val<|.lst<|((Me<|wd 0).map me).map (qC wd),.no])
  (by simp[yo]) ⟨_,_,uM z,by simp;omega,rfl⟩ λs Y γ d=>by obtain⟨C,c,I,t,rfl⟩:=d;obtain⟨g,o,K,e⟩:=oK (T:=T) (w:=w) (k:=s) z O S Y (J s · · Y) I ⋯;refine⟨_,[.val (jA p m w wd T),.val<|.lst<|g.map<|qC wd,.val (.int s)],rfl,?_,g,_,o,by omega,rfl⟩;simp[e]
 refine⟨C,I,by omega,?_⟩;have A:=ig (wd:=wd) C λb l=>⟨(I.ok b l).n1,by have:=(I.ok b l).le;omega⟩;rw[Yo];refine jg<|zo x1<|zo (show TR _=_ from G) ?_;have u:C.length<64:=by omega
 unfold TU;have y:fF qo (zh 1) [.val (jA p m w wd T),.val<|.lst<|C.map<|qC wd,c]=ej ((kF C).map (qC wd)):=by show((Vx qo<|C.map<|qC wd).bind λE=>if (C.map<|qC wd).length<64 then ej ((qp E).map λi=>(C.map<|qC wd).getD i .gm)else eF)=_;rw[A];simp only[Mj,MF,u,if_true];congr 1;unfold kF;rw[Nb];refine MA λi a=>?_;have h:=qa<|C.map Yx;have a:=Mg.mp<|h.mem_iff.mp a;rw[MF]at a;simp[a]
 rw[W7,y];rfl
theorem Dp.perm(h:T5.Perm pe)(I:Dp p w wd T k pe):(∀b,b∈T5->ri p w wd T k b)/\(∀r,r<=k->∀v,Span p (wd r) (IS T5 r) v)/\∀r,r<=k->T5.countP (λb=>b.has r)=wd r:=by
 refine⟨λb O=>I.ok b<|h.mem_iff.mp O,λr z v=>(I.sp r z v).le λg U=>?_,λr z=>?_⟩
 ·obtain⟨b,a,d,Y⟩:=U
  exact .gen ⟨b,h.mem_iff.mpr a,d,Y⟩
 ·rw[h.countP_eq];exact I.ct r z
end
theorem uE:yG=jr 5 (zJ CG<|zJ AB Fo):=rfl
theorem Ah:kP=jr 4 (zJ El<|zJ AD Fw):=rfl
theorem sR:qx=jr 5 (zJ Gb<|zJ Ga<|zJ FZ<|zJ Av EF):=rfl
abbrev TB:=Nat×Nat×(Nat->Nat->Int)
def tD(t:TB):D:=z6 t.1 t.2.1 t.2.2
structure sm(p:Int)(t:TB):Prop where
 h:t.1<=60
 w:t.2.1<=60
 e : ∀i j,i<t.1->j<t.2.1->0<=t.2.2 i j/\t.2.2 i j<p
def KS(n:Nat):D:=z6 n n λi j=>if i=j then 1 else 0
def ny(p:Int)(n:Nat)(t u:TB):D:=z6 n n λi j=>zm (λk=>t.2.2 i k*u.2.2 k j) n%p
noncomputable def sX(p:Int)(n:Nat)(t u:TB):Bool:=decide (t.1=n/\t.2.1=n/\u.1=n/\u.2.1=n) && ml (ny p n t u) (KS n)
theorem bI{x y:D}(hx:nf x=eA)(z:nf y=eA):hG x y=ej (.bl<|ml x y):=by unfold hG;rw[UJ ⟨hx,z⟩]
theorem bH{x y:D}(hx:nf x=eA)(z:nf y=eA):i7 x y=ej (.bl<|!ml x y):=by unfold i7;rw[UJ ⟨hx,z⟩]
theorem dF{p:Int}{n:Nat}{t u:TB}(S:0<p)(p7:p<=7)(Z:n<=60)(ht:sm p t)(J:sm p u):yG [.int p,.int n,tD t,tD u]=ej (.val<|.bl<|sX p n t u):=by
 have L:=ju;obtain⟨a,O,z⟩:=t;obtain⟨U,Y,I⟩:=u;have E:2<=lim:=by omega
 have s:CG (jc 5 [.int p,.int n,z6 a O z,z6 U Y I])=ej (.next [.val (.int p),.val<|.int n,.val<|z6 a O z,.val<|z6 U Y I,.val (.tup [.int (n:Int),.int (n:Int)])]):=by show CG [.val (.int p),.val<|.int n,.val<|z6 a O z,.val<|z6 U Y I,.no]=_;unfold CG;simp only[ve,vG,jO,qU,jZ,Mk,Mn,MH,MO,Nc,Nv,zG,Mj,Mr,E,if_true,NL,NK]
 have x:YS (zc 2) Yv (t6<|zu<|.int 2) [.val (.int p),.val<|.int n,.val<|z6 a O z,.val<|z6 U Y I,.val (.tup [.int (n:Int),.int (n:Int)])]=ej (.tup [.int (a:Int),.int (O:Int)]):=rfl;have y:YS (zc 3) Yv (t6<|zu<|.int 2) [.val (.int p),.val<|.int n,.val<|z6 a O z,.val<|z6 U Y I,.val (.tup [.int (n:Int),.int (n:Int)])]=ej (.tup [.int (U:Int),.int (Y:Int)]):=rfl;have F:=Wx (a:Int) (O:Int) (n:Int) (n:Int);have G:=Wx (U:Int) (Y:Int) (n:Int) (n:Int);have r:(vi (sB<|zy i7 (YS (zc 2) Yv<|t6<|zu<|.int 2)<|zc 4)<|sB<|zy i7 (YS (zc 3) Yv<|t6<|zu<|.int 2)<|zc 4) [.val (.int p),.val<|.int n,.val<|z6 a O z,.val<|z6 U Y I,.val (.tup [.int (n:Int),.int (n:Int)])]=ej (!decide (a=n/\O=n/\U=n/\Y=n)):=by rw[Jl,W9,xZ,x,W9,xZ,y];simp only[jZ,Mk,Mn,zG,Mj,F,G,wu];by_cases b:a=n<;>by_cases d:O=n<;>by_cases f:U=n<;>by_cases g:Y=n<;>simp[b,d,f,g,Int.natCast_inj]
 show yG [.int p,.int n,z6 a O z,z6 U Y I]=_;rw[uE];by_cases l:a=n/\O=n/\U=n/\Y=n
 ·have o:AB [.val (.int p),.val<|.int n,.val<|z6 a O z,.val<|z6 U Y I,.val (.tup [.int (n:Int),.int (n:Int)])]=ej (.next [.val (.int p),.val<|.int n,.val<|z6 a O z,.val<|z6 U Y I,.val (.tup [.int (n:Int),.int (n:Int)])]):=by
   unfold AB;rw[kL,r,decide_eq_true l];rfl
  obtain⟨b,d,f,g⟩:=l;replace b:=b.symm;replace d:=d.symm;replace f:=f.symm;replace g:=g.symm;subst b d f g;have pr:=vI (p:=p) (h:=n) (m:=n) (w:=n) z I S ⋯ ⋯ ⋯ (λi j B C=>by have:=J.e i j B C;simp only at this;omega);have K:=yE (n:=n) (show n<=lim by omega);have A:(λi j=>zm (λk=>I k j*z i k) n%p)=λi j=>zm (λk=>z i k*I k j) n%p:=by funext i j;congr 1;congr 1;funext k;rw[Nx]
  rw[A]at pr;have q:=bI (QO n n λi j=>zm (λk=>z i k*I k j) n%p)<|QO n n λi j=>if i=j then 1 else 0;have H:Fo [.val (.int p),.val<|.int n,.val<|z6 n n z,.val<|z6 n n I,.val (.tup [.int (n:Int),.int (n:Int)])]=ej (.ret<|.val<|.bl<|sX p n (n,n,z) (n,n,I)):=by unfold Fo;simp only[vf,xZ,xS,jO,qU,jZ,Mk,Mn,zG,Mj,Mr,pr,K,fQ,q,sX,ny,KS,and_self,decide_true,OC]
  exact jg<|zo s<|zo o H
 ·have o:AB [.val (.int p),.val<|.int n,.val<|z6 a O z,.val<|z6 U Y I,.val (.tup [.int (n:Int),.int (n:Int)])]=ej (.ret<|.val<|.bl eK):=by
   unfold AB;rw[kL,r,decide_eq_false l];rfl
  have e:sX p n (a,O,z) (U,Y,I)=eK:=by unfold sX;rw[decide_eq_false l];rfl
  rw[e];exact jg (zo s<|by rw[jj,o];rfl)
theorem yv(bs):nf (.lst<|zU bs)=eA:=Vm (n:=2) (by
 simp only[deep];have:ra (zU bs)<=1:=xX λd a=>by simp only[zU,MD]at a;obtain⟨b,_,rfl⟩:=a;simp[deep,ra]
 omega) ⋯ (by
 simp only[kA];exact yO λd a=>by simp only[zU,MD]at a;obtain⟨b,_,rfl⟩:=a;rfl)
theorem W5{n:Int}{bs:List (Int×Int)}(I:bs.length<64):yI [.int n,.lst (zU bs)]=ej (.val<|.bl<|Jr n bs && kW bs):=by
 have g:=ju;have O:bs.length<=lim:=by omega
 have U:zP (.nm 0) jb (cM (p6 .tuple<|zc 0)<|zD j8<|zb (zc 1)<|zb (zc 0) zI) [Cell.no,Cell.val (.int n)] (zU bs)=ej (bs.map λb=>D.bl<|V2 n b):=by unfold zU;refine zw _ _ λb I=>zx rfl rfl ?_;have e:=vL n b.1 b.2;have ty:WM Ty.tuple (.tup [.int b.1,.int b.2])=eA:=rfl;show cM _ _ [Cell.val (.tup [.int b.1,.int b.2]),Cell.val (.int n)]=_;simp[e,ty,V2]
 have Y:=KN (V2 n) bs;have z:sB (fK<|jm<|zK (zN<|zh 1) (.nm 0) 1 [0] jb (cM (p6 .tuple<|zc 0)<|zD j8<|zb (zc 1)<|zb (zc 0) zI)) [.val (.int n),.val (.lst<|zU bs)]=ej (Jr n bs):=by
  have bl:(zU bs).length<=lim:=by rw[Zq];exact O
  simp only[W9,lP,ke,qe,qA,jw,Mk,Mn,zO,qR,Mj,Mr,bl,if_true];rw[show zZ 1 [0] [Cell.val (.int n),Cell.val (.lst<|zU bs)]=[Cell.no,Cell.val (.int n)]from rfl,U];simp only[Mr,Mj,Y,wu,Jr,List.all_map];rfl
 rw[Ap];cases hg:Jr n bs with
 | true=>
  rw[hg]at z;have a:rQ (jc 2 [.int n,.lst (zU bs)])=ej (.next [.val (.int n),.val (.lst<|zU bs)]):=by show rQ [.val (.int n),.val (.lst<|zU bs)]=_;unfold rQ;rw[kL,wL,z];rfl
  have f:=J4 I;have q:=bI (yv bs)<|yv<|jv bs;have d:FI [.val (.int n),.val (.lst<|zU bs)]=ej (.ret<|.val<|.bl<|kW bs):=by unfold FI;simp only[vf,xZ,jZ,vH,bU,jw,Mk,Mn,zG,zO,qR,Mj,Mr,f,q];rw[show ml (.lst<|zU bs) (.lst<|zU<|jv bs)=uf (zU bs) (zU<|jv bs)from rfl,Xi];rfl
  rw[OC];exact jg<|zo a d
 | false=>
  rw[hg]at z;have a:rQ (jc 2 [.int n,.lst (zU bs)])=ej (.ret<|.val<|.bl eK):=by show rQ [.val (.int n),.val (.lst<|zU bs)]=_;unfold rQ;rw[kL,wL,z];rfl
  rw[OG];exact jg (by rw[jj,a];rfl)
def mr:TB:=(0,0,λ_ _=>0)
def yQ(m:Nat)(ts us:List TB):Bool:=decide<|ts.length=m+1/\us.length=m+1
noncomputable def bV(p:Int)(m:Nat)(wd:UX)(ts us:List TB):Bool:=(Me<|m+1).all λk=>sX p (wd k) (ts.getD k mr)<|us.getD k mr
noncomputable def qc(bs:List (Int×Int))(ts us:List TB):D:= .tup [.lst (zU bs),.lst<|ts.map tD,.lst (us.map tD)]
theorem vP{n:Nat}{ts:List TB}(h:ts.length=n):ts.map tD=(Me n).map λk=>tD (ts.getD k mr):=by
 conv=>lhs;rw[<- jk mr ts]
 rw[Nb,h];rfl
theorem vw{p:Int}{ts:List TB}(h : ∀t∈ts,sm p t){k:Nat}(z:k<ts.length):sm p (ts.getD k mr):=by rw[Mm,Mi z];exact h _<|OB z
section
variable{p:Int}{m:Nat}{w:UK}{wd:UX}{T:UW}{bs:List (Int×Int)}{ts us:List TB}
theorem VV(Z:0<p)(p7:p<=7)(hm:m<=5)(C : ∀k,wd k<=60)(J : ∀t∈ts,sm p t)(S : ∀t∈us,sm p t) :
 kP [jA p m w wd T,.lst<|ts.map tD,.lst (us.map tD)]=ej (.val<|.bl<|yQ m ts us && bV p m wd ts us):=by
 have A:=ju;have O:=YW p m w wd T;have r:k6 3 0=ej 0:=rfl;have g:k6 3 1=ej 1:=rfl;have i:m+1<=lim:=by omega
 have h:El (jc 4 [jA p m w wd T,.lst<|ts.map tD,.lst (us.map tD)])=ej (.next [.val (jA p m w wd T),.val<|.lst<|ts.map tD,.val<|.lst<|us.map tD,.val (.int ((m+1:Nat):Int))]):=by show El [.val (jA p m w wd T),.val<|.lst<|ts.map tD,.val<|.lst<|us.map tD,.no]=_;unfold El;simp only[ve,Kz,ya,yX,jw,q9,Mk,Mn,MH,MO,Nc,Nv,zO,Mj,Mr,O,j6,g,jY,pI,NL,NK]
 have s : ∀a b:Int,i7 (.int a) (.int b)=ej (.bl<|!(a==b)):=λa b=>by rw[bH rfl rfl];rfl
 have U:(vi (sB<|zy i7 (kD<|zh 1)<|zc 3)<|sB<|zy i7 (kD<|zh 2)<|zc 3) [.val (jA p m w wd T),.val<|.lst<|ts.map tD,.val<|.lst<|us.map tD,.val (.int ((m+1:Nat):Int))]=ej (!yQ m ts us):=by
  simp only[Jl,W9,xZ,Kz,jw,jZ,Mk,Mn,zO,zG,qR,Mj,Mr,MF,s,wu];unfold yQ;by_cases n:ts.length=m+1<;>by_cases o:us.length=m+1<;>simp[n,o,Int.natCast_inj]
  ·intro z;omega
  ·intro z;omega
  ·intro z;omega
 rw[Ah];by_cases I:ts.length=m+1/\us.length=m+1
 ·have lo:yQ m ts us=eA:=decide_eq_true I
  have e:AD [.val (jA p m w wd T),.val<|.lst<|ts.map tD,.val<|.lst<|us.map tD,.val (.int ((m+1:Nat):Int))]=ej (.next [.val (jA p m w wd T),.val<|.lst<|ts.map tD,.val<|.lst<|us.map tD,.val (.int ((m+1:Nat):Int))]):=by unfold AD;rw[kL,U,lo];rfl
  have j:=vP I.1;have l:=vP I.2;have z:KD (zH (m+1) λk=>(wd k:Int)) (ts.map tD) (us.map tD)=(Me<|m+1).map λk=>D.tup [.int (wd k:Int),tD<|ts.getD k mr,tD (us.getD k mr)]:=by rw[j,l];unfold KD zH;rw[OP,OP,Nb];rfl
  have d:zP (.tp [0,1,2]) jb (zD yG<|zb (eL (zh 3)<|zu<|.int 0)<|zb (zc 0)<|zb (zc 1)<|zb (zc 2) zI) [Cell.no,Cell.no,Cell.no,Cell.val (jA p m w wd T)] ((Me<|m+1).map λk=>D.tup [.int (wd k:Int),tD<|ts.getD k mr,tD (us.getD k mr)])=ej ((Me<|m+1).map λk=>D.bl<|sX p (wd k) (ts.getD k mr)<|us.getD k mr):=by refine zw _ _ λk Y=>zx rfl rfl ?_;have Y:=Mg.mp Y;have q:=dF Z p7 (C k) (vw J (k:=k) ⋯)<|vw S (k:=k) ⋯;show zD _ _ [Cell.val (.int (wd k:Int)),Cell.val<|tD<|ts.getD k mr,Cell.val<|tD<|us.getD k mr,Cell.val (jA p m w wd T)]=_;simp only[xS,jO,qU,yX,jw,jZ,q9,Mk,Mn,MH,MO,Nc,Nv,zO,zG,Mj,Mr,O,j6,r,q,fQ]
  have x:=KN (λk=>sX p (wd k) (ts.getD k mr)<|us.getD k mr)<|Me<|m+1;have y:((Me<|m+1).map λk=>D.tup [.int (wd k:Int),tD<|ts.getD k mr,tD (us.getD k mr)]).length<=lim:=by simpa using i
  have u:Fw [.val (jA p m w wd T),.val<|.lst<|ts.map tD,.val<|.lst<|us.map tD,.val (.int ((m+1:Nat):Int))]=ej (.ret<|.val<|.bl<|bV p m wd ts us):=by
   have f:mL (eL (zh 0)<|zu<|.int 1) (zc 1) (zc 2) [.val (jA p m w wd T),.val<|.lst<|ts.map tD,.val<|.lst<|us.map tD,.val (.int ((m+1:Nat):Int))]=ej ((Me<|m+1).map λk=>D.tup [.int (wd k:Int),tD<|ts.getD k mr,tD (us.getD k mr)]):=by rw[<- z];simp only[Al,yX,jw,jZ,q9,Mk,Mn,MH,MO,Nc,Nv,zO,zG,Mj,Mr,O,j6,g,jY,qR]
   unfold Fw;rw[vf,lP,ke,qe,f];simp only[Mj];rw[UJ y,show zZ 3 [0] [.val (jA p m w wd T),.val<|.lst<|ts.map tD,.val<|.lst<|us.map tD,.val (.int ((m+1:Nat):Int))]=[Cell.no,Cell.no,Cell.no,Cell.val (jA p m w wd T)]from rfl,d];simp only[Mr,Mj,x,List.all_map];rfl
  rw[lo,OC];exact jg<|zo h<|zo e u
 ·have lo:yQ m ts us=eK:=decide_eq_false I
  have e:AD [.val (jA p m w wd T),.val<|.lst<|ts.map tD,.val<|.lst<|us.map tD,.val (.int ((m+1:Nat):Int))]=ej (.ret<|.val<|.bl eK):=by unfold AD;rw[kL,U,lo];rfl
  rw[lo,OG];exact jg (zo h<|by rw[jj,e];rfl)
def fT(ts:List TB)(k:Nat):Nat->Nat->Int:=(ts.getD k mr).2.2
theorem ab(h:bV p m wd ts us=eA){k:Nat}(z:k<m+1):sX p (wd k) (ts.getD k mr) (us.getD k mr)=eA:=NI.mp h k<|Mg.mpr z
theorem QX{n:Nat}{t u:TB}(h:sX p n t u=eA):t.1=n/\t.2.1=n/\u.1=n/\u.2.1=n:=by unfold sX at h;rw[My]at h;exact of_decide_eq_true h.1
theorem XZ(O:yQ m ts us=eA)(h:bV p m wd ts us=eA):ts.map tD=qN (m+1) wd (fT ts)/\us.map tD=qN (m+1) wd (fT us):=by
 have I:ts.length=m+1/\us.length=m+1:=of_decide_eq_true O;rw[vP I.1,vP I.2];unfold qN;refine⟨MA λk z=>?_,MA λk z=>?_⟩
 ·have q:=QX (ab h<|Mg.mp z)
  show z6 _ _ _=_;rw[q.1,q.2.1];rfl
 ·have q:=QX (ab h<|Mg.mp z)
  show z6 _ _ _=_;rw[q.2.2.1,q.2.2.2];rfl
theorem iL(z:yQ m ts us=eA)(h:bV p m wd ts us=eA)(I : ∀t∈us,sm p t) : ∀k i j,k<m+1->i<wd k->j<wd k->0<=fT us k i j/\fT us k i j<p:=λk i j O a U=>by have Y:ts.length=m+1/\us.length=m+1:=of_decide_eq_true z;have q:=QX<|ab h O;have g:=vw I (k:=k) ⋯;exact g.e i j (by rw[q.2.2.1];exact a) (by rw[q.2.2.2];exact U)
noncomputable def vm(p:Int)(m:Nat)(w:UK)(wd:UX)(T:UW)(bs:List (Int×Int))(ts us:List TB):Bool:=
 (Jr ((m+1:Nat):Int) bs && kW bs) && (yQ m ts us && bV p m wd ts us) && ml (jA p m w wd<|qb p w wd (fT ts) (fT us) T) (BR p m w bs)
theorem aE(I:0<p)(O:p<=7)(C:m<=5)(U : ∀k,wd k<=60)(S : ∀k i j,k<m->i<l4 w wd k->j<l5 w wd k->0<=T k i j/\T k i j<p)(Y:bs.length<64)(Z : ∀t∈ts,sm p t)(J : ∀t∈us,sm p t) :
 qx [jA p m w wd T,qc bs ts us]=ej (.val<|.bl<|vm p m w wd T bs ts us):=by
 have K:=ju;have s:=YW p m w wd T;have u:k6 3 0=ej 0:=rfl;have x:k6 3 1=ej 1:=rfl;have A:=W5 (n:=((m+1:Nat):Int)) Y;have B:=VV (w:=w) (T:=T) I O C U Z J;have l:Gb (jc 5 [jA p m w wd T,qc bs ts us])=ej (.next [.val (jA p m w wd T),.val<|qc bs ts us,.val<|.lst<|zU bs,.no,.no]):=rfl;have o:Ga [.val (jA p m w wd T),.val<|qc bs ts us,.val<|.lst<|zU bs,.no,.no]=ej (.next [.val (jA p m w wd T),.val<|qc bs ts us,.val<|.lst<|zU bs,.val<|.lst<|ts.map tD,.no]):=rfl;have r:FZ [.val (jA p m w wd T),.val<|qc bs ts us,.val<|.lst<|zU bs,.val<|.lst<|ts.map tD,.no]=ej (.next [.val (jA p m w wd T),.val<|qc bs ts us,.val<|.lst<|zU bs,.val<|.lst<|ts.map tD,.val (.lst<|us.map tD)]):=rfl;have a:(vi (jU<|sB<|zD yI<|zb (kD<|zW<|eL (zh 0)<|zu<|.int 1)<|zb (zc 2) zI)<|jU<|sB<|zD kP<|zb (zc 0)<|zb (zc 3)<|zb (zc 4) zI) [.val (jA p m w wd T),.val<|qc bs ts us,.val<|.lst<|zU bs,.val<|.lst<|ts.map tD,.val (.lst<|us.map tD)]=ej (!((Jr ((m+1:Nat):Int) bs && kW bs) && (yQ m ts us && bV p m wd ts us))):=by simp only[Jl,wL,W9,xS,jO,qU,Kz,ya,yX,jw,jZ,q9,Mk,Mn,MH,MO,Nc,Nv,zO,zG,Mj,Mr,s,j6,x,jY,pI,A,B,fQ,wu];cases (Jr ((m+1:Nat):Int) bs && kW bs)<;>cases (yQ m ts us && bV p m wd ts us)<;>rfl
 rw[sR];cases hc:((Jr ((m+1:Nat):Int) bs && kW bs) && (yQ m ts us && bV p m wd ts us))with
 | false=>
  have z:Av [.val (jA p m w wd T),.val<|qc bs ts us,.val<|.lst<|zU bs,.val<|.lst<|ts.map tD,.val (.lst<|us.map tD)]=ej (.ret<|.val<|.bl eK):=by unfold Av;rw[kL,a,hc];rfl
  have e:vm p m w wd T bs ts us=eK:=by unfold vm;rw[hc];rfl
  rw[e];exact jg (zo l<|zo o<|zo r<|by rw[jj,z];rfl)
 | true=>
  have z:Av [.val (jA p m w wd T),.val<|qc bs ts us,.val<|.lst<|zU bs,.val<|.lst<|ts.map tD,.val (.lst<|us.map tD)]=ej (.next [.val (jA p m w wd T),.val<|qc bs ts us,.val<|.lst<|zU bs,.val<|.lst<|ts.map tD,.val (.lst<|us.map tD)]):=by unfold Av;rw[kL,a,hc];rfl
  have b:=hc;rw[My,My,My]at b;obtain⟨⟨g1,g2⟩,g3,d⟩:=b;obtain⟨F,G⟩:=XZ g3 d;have g:=Ys (f:=fT ts) I O (show m<=900 by omega) (λk=>by have:=U k;omega) S<|iL g3 d J;rw[<- F,<- G]at g;have H:=VY (p:=p) (wd:=wd) (T:=T) (w:=w) (show m<=900 by omega);have h:=wg (p:=p) (w:=w) C Y;have E:jv bs=bs:=(of_decide_eq_true g2).symm;rw[E]at h;have q:=bI (gQ p m w wd<|qb p w wd (fT ts) (fT us) T)<|rj (p:=p) (m:=m) (w:=w) (bs:=bs);have y:EF [.val (jA p m w wd T),.val<|qc bs ts us,.val<|.lst<|zU bs,.val<|.lst<|ts.map tD,.val (.lst<|us.map tD)]=ej (.ret<|.val<|.bl<|vm p m w wd T bs ts us):=by unfold EF;simp only[vf,xZ,xS,jO,qU,yX,jw,jZ,q9,Mk,Mn,MH,MO,Nc,Nv,zO,zG,Mj,Mr,s,j6,u,g,H,h,fQ,q,vm,hc,OC]
  exact jg<|zo l<|zo o<|zo r<|zo z y
end
theorem BF:jP=jr 12 (zJ DS<|zJ DT<|zJ Uz<|zJ M9<|zJ R0<|zJ N0 R1):=rfl
noncomputable def Il:=(zJ (kr (vi (jU<|sB<|p6 .tuple<|zc 8)<|vi (sB<|zy i7 (kD<|zh 8)<|zu<|.int 2)<|vi (jU<|sB<|zD jE<|zb (eL (zh 8)<|zu<|.int 0) zI)<|jU<|sB<|zD jE<|zb (eL (zh 8)<|zu<|.int 1) zI) (qv<|zu<|.bl eK) j9)<|kr (jU<|sB<|QB p5 p5 Df (zu<|.int 0) (eL (zh 8)<|zu<|.int 0) (eL (zh 8)<|zu<|.int 1)<|kD<|zh 3) (qv<|zu<|.bl eK) j9)
noncomputable def Ay:=(kr (vi (jU<|sB<|zD jl<|zb (zc 2)<|zb (zc 10)<|zb (zc 9)<|zb (zc 9) zI)<|jU<|sB<|zD jl<|zb (zc 2)<|zb (zc 11)<|zb (zc 9)<|zb (zc 9) zI) (qv<|zu<|.bl eK) j9)
noncomputable def EW:=(kr (sB<|zy i7 (zD jB<|zb (zc 2)<|zb (zc 10)<|zb (zc 11) zI)<|zD xF<|zb (zc 9) zI) (qv<|zu<|.bl eK) j9)
def Ik:=zJ Ay EW
theorem WO{C:Type}{T:Tg}{F:CO Fl}{g:C->D}{t:C->Bool}{r:Res}(P:Ctx->Prop) : ∀(l:List C) {γ:Ctx},P γ->
 (∀a∈l,∀γ,P γ->∃γ1,xH T (g a) γ=ej γ1/\((t a=eA->∃I,F γ1=ej (.next I)/\P I)/\(t a=eK->F γ1=ej (.ret r))))->
 (l.all t=eA->∃γ',xq T F (l.map g) γ=ej (.next γ')/\P γ')/\(l.all t=eK->xq T F (l.map g) γ=ej (.ret r))
 | [],γ,hp,_=>⟨λ_=>⟨γ,rfl,hp⟩,λh=>by cases h⟩
 | a::l,γ,hp,h=>by
  obtain⟨γ1,d,f,i⟩:=h a (Mx ..) γ hp;cases ht:t a with
  | true=>
   obtain⟨I,O,U⟩:=f ht;have Y:=WO P l U λb j=>h b<|Ms _ j;have e:xq T F ((a::l).map g) γ=xq T F (l.map g) I:=by rw[MT,jM,d];simp only[Mj,O]
   rw[e,Rq,ht,OC];exact Y
  | false=>
   refine⟨λz=>?_,λ_=>?_⟩
   ·rw[Rq,ht,OG]at z;cases z
   ·rw[MT,jM,d]
    simp only[Mj,i ht]
section
variable{p:Int}{m:Nat}{w:UK}{wd:UX}{T:UW}{bs:List (Int×Int)}{ts us:List TB}
abbrev l9(p:Int)(m:Nat)(w:UK)(wd:UX)(T:UW)(bs:List (Int×Int))(ts us:List TB)(c8 c9 T7 T8:Cell):Ctx:=[.val (jA p m w wd T),.val (qc bs ts us),.val (.int p),.val (.tup (zH (m+1) λk=>(wd k:Int))),.val (.tup (jN m w wd T)),.val (.lst (zU bs)),.val (.lst (ts.map tD)),.val (.lst (us.map tD)),c8,c9,T7,T8]
theorem EV:DS (jc 12 [jA p m w wd T,qc bs ts us])=ej (.next [.val (jA p m w wd T),.val<|qc bs ts us,.val<|.int p,.val<|.tup<|zH (m+1) λk=>(wd k:Int),.val<|.tup<|jN m w wd T,.no,.no,.no,.no,.no,.no,.no]):=rfl
theorem EU:DT [.val (jA p m w wd T),.val<|qc bs ts us,.val<|.int p,.val<|.tup<|zH (m+1) λk=>(wd k:Int),.val<|.tup<|jN m w wd T,.no,.no,.no,.no,.no,.no,.no]=ej (.next [.val (jA p m w wd T),.val<|qc bs ts us,.val<|.int p,.val<|.tup<|zH (m+1) λk=>(wd k:Int),.val<|.tup<|jN m w wd T,.no,.no,.no,.no,.no,.no,.no]):=rfl
theorem ET:Uz [.val (jA p m w wd T),.val<|qc bs ts us,.val<|.int p,.val<|.tup<|zH (m+1) λk=>(wd k:Int),.val<|.tup<|jN m w wd T,.no,.no,.no,.no,.no,.no,.no]=ej (.next<|l9 p m w wd T bs ts us .no .no .no .no):=rfl
theorem A_:(Jr ((m+1:Nat):Int) bs=eA->∃C,M9 (l9 p m w wd T bs ts us .no .no .no .no)=ej (.next<|l9 p m w wd T bs ts us C .no .no .no))/\(Jr ((m+1:Nat):Int) bs=eK->M9 (l9 p m w wd T bs ts us .no .no .no .no)=ej (.ret<|.val<|.bl eK)):=by
 have q:=WO (T:= .nm 8) (F:=Il) (g:=λb:Int×Int=>D.tup [.int b.1,.int b.2]) (t:=V2 ((m+1:Nat):Int)) (r:= .val (.bl eK)) (λγ=>∃C,γ=l9 p m w wd T bs ts us C .no .no .no) bs (γ:=l9 p m w wd T bs ts us .no .no .no .no) ⟨_,rfl⟩ (by
  rintro⟨a,b⟩ _ γ ⟨C,rfl⟩;refine⟨l9 p m w wd T bs ts us (.val<|.tup [.int a,.int b]) .no .no .no,rfl,?_⟩;have Y:(kr (vi (jU<|sB<|p6 .tuple<|zc 8)<|vi (sB<|zy i7 (kD<|zh 8)<|zu<|.int 2)<|vi (jU<|sB<|zD jE<|zb (eL (zh 8)<|zu<|.int 0) zI)<|jU<|sB<|zD jE<|zb (eL (zh 8)<|zu<|.int 1) zI) (qv<|zu<|.bl eK) j9) (l9 p m w wd T bs ts us (.val<|.tup [.int a,.int b]) .no .no .no)=ej (.next<|l9 p m w wd T bs ts us (.val<|.tup [.int a,.int b]) .no .no .no):=rfl;have wl:(zH (m+1) λk=>(wd k:Int)).length=m+1:=by simp[zH]
  have l:k6 2 0=ej 0:=rfl;have n:k6 2 1=ej 1:=rfl;have i:jU (sB<|QB p5 p5 Df (zu<|.int 0) (eL (zh 8)<|zu<|.int 0) (eL (zh 8)<|zu<|.int 1)<|kD<|zh 3) (l9 p m w wd T bs ts us (.val<|.tup [.int a,.int b]) .no .no .no)=ej (!V2 ((m+1:Nat):Int) (a,b)):=by
   simp only[l9,wL,W9,lO,q9,yX,jw,Kz,Mk,Mn,MH,MO,Nc,Nv,zO,jY,Mj,Mr,j6,l,n,wl,uV,uU,wu];unfold V2;by_cases d:0<=a
   ·by_cases f:a<=b
    ·by_cases O:b<((m+1:Nat):Int)
     ·have I:0<=a/\a<((m+1:Nat):Int)/\0<=b/\b<((m+1:Nat):Int)/\a<=b:=⟨d,by omega,by omega,O,f⟩
      rw[decide_eq_true d,decide_eq_true f,decide_eq_true O,decide_eq_true I];rfl
     ·have I : ¬(0<=a/\a<((m+1:Nat):Int)/\0<=b/\b<((m+1:Nat):Int)/\a<=b):=λz=>O z.2.2.2.1
      rw[decide_eq_true d,decide_eq_true f,decide_eq_false O,decide_eq_false I];rfl
    ·have I : ¬(0<=a/\a<((m+1:Nat):Int)/\0<=b/\b<((m+1:Nat):Int)/\a<=b):=λz=>f z.2.2.2.2
     rw[decide_eq_true d,decide_eq_false f,decide_eq_false I];rfl
   ·have I : ¬(0<=a/\a<((m+1:Nat):Int)/\0<=b/\b<((m+1:Nat):Int)/\a<=b):=λz=>d z.1
    rw[decide_eq_false d,decide_eq_false I];rfl
  refine⟨λU=>⟨l9 p m w wd T bs ts us (.val<|.tup [.int a,.int b]) .no .no .no,?_,_,rfl⟩,λU=>?_⟩
  ·refine zo Y ?_
   rw[kL,i,U];rfl
  ·refine zo Y ?_
   rw[kL,i,U];rfl)
 have e:M9 (l9 p m w wd T bs ts us .no .no .no .no)=xq (.nm 8) Il (bs.map λb:Int×Int=>D.tup [.int b.1,.int b.2]) (l9 p m w wd T bs ts us .no .no .no .no):=rfl;rw[e];refine⟨λh=>?_,λh=>q.2 h⟩;obtain⟨o,j,C,rfl⟩:=q.1 h;exact⟨C,j⟩
theorem Lu(I:bs.length<64)(C:Cell):R0 (l9 p m w wd T bs ts us C .no .no .no)=if (kW bs && yQ m ts us)=eA then ej (.next<|l9 p m w wd T bs ts us C .no .no .no)else ej (.ret<|.val<|.bl eK):=by
 have O:=J4 I;have q:=bH (yv bs)<|yv<|jv bs;have U:i7 (.lst<|zU bs) (.lst<|zU<|jv bs)=ej (.bl<|!kW bs):=by rw[q,show ml (.lst<|zU bs) (.lst<|zU<|jv bs)=uf (zU bs) (zU<|jv bs)from rfl,Xi];rfl
 have wl:(zH (m+1) λk=>(wd k:Int)).length=m+1:=by simp[zH]
 have Y : ∀a b:Int,i7 (.int a) (.int b)=ej (.bl<|!(a==b)):=λa b=>by rw[bH rfl rfl];rfl
 have d:(vi (sB<|zy i7 (zc 5)<|qh<|X6<|zh 5)<|vi (sB<|zy i7 (kD<|zh 6)<|kD<|zh 3)<|sB<|zy i7 (kD<|zh 7)<|kD<|zh 3) (l9 p m w wd T bs ts us C .no .no .no)=ej (!(kW bs && yQ m ts us)):=by
  simp only[l9,Jl,W9,xZ,vH,bU,Kz,jw,jZ,Mk,Mn,zO,zG,qR,jY,Mj,Mr,MF,O,U,Y,wu,wl];unfold yQ;cases kW bs with
  | false=>rfl
  | true=>
   by_cases e:ts.length=m+1<;>by_cases f:us.length=m+1<;>simp[e,f,Int.natCast_inj]
   ·intro z;omega
   ·intro z;omega
   ·intro z;omega
 unfold R0;rw[kL,d];cases kW bs && yQ m ts us<;>rfl
theorem Ls(p0:0<p)(p7:p<=7)(hm:m<=5)(an : ∀k,wd k<=60)(ht : ∀t∈ts,sm p t)(hu : ∀t∈us,sm p t)(hl:yQ m ts us=eA)(C:Cell):(bV p m wd ts us=eA->∃Z J S,N0 (l9 p m w wd T bs ts us C .no .no .no)=ej (.next<|l9 p m w wd T bs ts us C Z J S))/\(bV p m wd ts us=eK->N0 (l9 p m w wd T bs ts us C .no .no .no)=ej (.ret<|.val<|.bl eK)):=by
 have G:ts.length=m+1/\us.length=m+1:=of_decide_eq_true hl;have q:=WO (T:= .tp [9,10,11]) (F:=Ik) (g:=λk:Nat=>D.tup [.int (wd k:Int),tD<|ts.getD k mr,tD (us.getD k mr)]) (t:=λk=>sX p (wd k) (ts.getD k mr)<|us.getD k mr) (r:= .val (.bl eK)) (λγ=>∃Z J S,γ=l9 p m w wd T bs ts us C Z J S) (Me<|m+1) (γ:=l9 p m w wd T bs ts us C .no .no .no) ⟨_,_,_,rfl⟩ (by
  rintro k H γ ⟨Z,J,S,rfl⟩;have H:=Mg.mp H;have y:=vw ht (k:=k) ⋯;have d:=vw hu (k:=k) ⋯;have N:=an k;refine⟨l9 p m w wd T bs ts us C (.val<|.int (wd k:Int)) (.val<|tD<|ts.getD k mr)<|.val<|tD<|us.getD k mr,rfl,?_⟩;generalize ts.getD k mr=t at y ⊢;generalize us.getD k mr=u at d ⊢;generalize wd k=n at N ⊢;obtain⟨a,U,I⟩:=t;obtain⟨Y,b,O⟩:=u;have R:a<=60:=y.h;have W:U<=60:=y.w;have X:Y<=60:=d.h;have b8:b<=60:=d.w;have b1:=Kq (p:=p) I (show a<=400 by omega) (show U<=400 by omega) y.e n n;have b2:=Kq (p:=p) O (show Y<=400 by omega) (show b<=400 by omega) d.e n n;have b3:=V6 (p:=p) (h:=n) (m:=n) (w:=n) I O p0 ⋯ ⋯ ⋯;have b4:=Be (n:=n) ⋯;show(sX p n (a,U,I) (Y,b,O)=eA->_)/\(sX p n (a,U,I) (Y,b,O)=eK->_);have B:(vi (jU<|sB<|zD jl<|zb (zc 2)<|zb (zc 10)<|zb (zc 9)<|zb (zc 9) zI)<|jU<|sB<|zD jl<|zb (zc 2)<|zb (zc 11)<|zb (zc 9)<|zb (zc 9) zI) (l9 p m w wd T bs ts us C (.val<|.int (n:Int)) (.val<|z6 a U I)<|.val<|z6 Y b O)=ej (!decide (a=n/\U=n/\Y=n/\b=n)):=by simp only[l9,Jl,wL,W9,xS,jO,qU,jZ,Mk,Mn,zG,Mj,Mr,b1,b2,fQ,wu];by_cases f:a=n<;>by_cases l:U=n<;>by_cases o:Y=n<;>by_cases s:b=n<;>simp[f,l,o,s]
  by_cases A:a=n/\U=n/\Y=n/\b=n
  ·have x:Ay (l9 p m w wd T bs ts us C (.val<|.int (n:Int)) (.val<|z6 a U I)<|.val<|z6 Y b O)=ej (.next<|l9 p m w wd T bs ts us C (.val<|.int (n:Int)) (.val<|z6 a U I)<|.val<|z6 Y b O):=by
    unfold Ay;rw[kL,B,decide_eq_true A];rfl
   obtain⟨f,l,o,s⟩:=A;replace f:=f.symm;replace l:=l.symm;replace o:=o.symm;replace s:=s.symm;subst f l o s;have b3:=b3 (λi j L M=>by have:=d.e i j L M;simp only at this;omega);have P:=bH (QO n n λi j=>zm (λk=>I i k*O k j) n%p)<|QO n n λi j=>if i=j then 1 else 0;have E:sB (zy i7 (zD jB<|zb (zc 2)<|zb (zc 10)<|zb (zc 11) zI)<|zD xF<|zb (zc 9) zI) (l9 p m w wd T bs ts us C (.val<|.int (n:Int)) (.val<|z6 n n I)<|.val<|z6 n n O)=ej (!sX p n (n,n,I) (n,n,O)):=by simp only[l9,W9,xZ,xS,jO,qU,jZ,Mk,Mn,zG,Mj,Mr,b3,b4,fQ,P,wu,sX,ny,KS,and_self,decide_true,OC]
   refine⟨λz=>⟨l9 p m w wd T bs ts us C (.val<|.int (n:Int)) (.val<|z6 n n I)<|.val<|z6 n n O,?_,_,_,_,rfl⟩,λz=>?_⟩
   ·refine zo x ?_
    unfold EW;rw[kL,E,z];rfl
   ·refine zo x ?_
    unfold EW;rw[kL,E,z];rfl
  ·have e:sX p n (a,U,I) (Y,b,O)=eK:=by
    unfold sX;rw[decide_eq_false A];rfl
   have x:Ay (l9 p m w wd T bs ts us C (.val<|.int (n:Int)) (.val<|z6 a U I)<|.val<|z6 Y b O)=ej (.ret<|.val<|.bl eK):=by unfold Ay;rw[kL,B,decide_eq_false A];rfl
   refine⟨λz=>?_,λ_=>?_⟩
   ·rw[e]at z;cases z
   ·show zJ Ay EW (l9 p m w wd T bs ts us C (.val<|.int (n:Int)) (.val<|z6 a U I)<|.val<|z6 Y b O)=_
    rw[jj,x];rfl)
 have z:KD (zH (m+1) λk=>(wd k:Int)) (ts.map tD) (us.map tD)=(Me<|m+1).map λk=>D.tup [.int (wd k:Int),tD<|ts.getD k mr,tD (us.getD k mr)]:=by rw[vP G.1,vP G.2];unfold KD zH;rw[OP,OP,Nb];rfl
 have e:N0 (l9 p m w wd T bs ts us C .no .no .no)=xq (.tp [9,10,11]) Ik ((Me<|m+1).map λk=>D.tup [.int (wd k:Int),tD<|ts.getD k mr,tD (us.getD k mr)]) (l9 p m w wd T bs ts us C .no .no .no):=by rw[<- z];rfl
 rw[e];refine⟨λh=>?_,λh=>q.2 h⟩;obtain⟨Q,K,Z,J,S,rfl⟩:=q.1 h;exact⟨Z,J,S,K⟩
theorem yi(Y:0<p)(p7:p<=7)(C:m<=5)(J : ∀k,wd k<=60)(hT : ∀k i j,k<m->i<l4 w wd k->j<l5 w wd k->0<=T k i j/\T k i j<p)(S:bs.length<64)(ht : ∀t∈ts,sm p t)(Z : ∀t∈us,sm p t) :
 jP [jA p m w wd T,qc bs ts us]=ej (.val<|.bl<|vm p m w wd T bs ts us):=by
 have E:=ju;rw[BF];unfold vm;cases g1:Jr ((m+1:Nat):Int) bs with
 | false=>
  simp only[OG];exact jg (zo EV<|zo EU<|zo ET<|by rw[jj,A_.2 g1];rfl)
 | true=>
  obtain⟨d,U⟩:=(A_ (p:=p) (w:=w) (wd:=wd) (T:=T) (ts:=ts) (us:=us)).1 g1;have z:=Lu (p:=p) (m:=m) (w:=w) (wd:=wd) (T:=T) (ts:=ts) (us:=us) S d;cases g2:(kW bs && yQ m ts us)with
  | false=>
   rw[g2,UY ⋯]at z;have e:(eA && kW bs && (yQ m ts us && bV p m wd ts us) && ml (jA p m w wd<|qb p w wd (fT ts) (fT us) T) (BR p m w bs))=eK:=by rw[OC,<- Bool.and_assoc,g2,OG,OG]
   rw[e];exact jg (zo EV<|zo EU<|zo ET<|zo U<|by rw[jj,z];rfl)
  | true=>
   rw[g2,UJ rfl]at z;rw[My]at g2;obtain⟨g2,I⟩:=g2;have O:=Ls (w:=w) (T:=T) (bs:=bs) Y p7 C J ht Z I d;cases g4:bV p m wd ts us with
   | false=>
    simp only[Bool.and_false,OG];exact jg (zo EV<|zo EU<|zo ET<|zo U<|zo z<|by rw[jj,O.2 g4];rfl)
   | true=>
    obtain⟨g,a,b,O⟩:=O.1 g4;rw[g2,I];simp only[OC,Rt];obtain⟨A,B⟩:=XZ I g4;have l:=Ku (f:=fT ts) Y p7 C J hT (iL I g4 Z);rw[<- A,<- B]at l;have r:=Ju (p:=p) (w:=w) C S;have q:=bI (gQ p m w wd (qb p w wd (fT ts) (fT us) T)) (rj (p:=p) (m:=m) (w:=w) (bs:=bs));have o:cK (zu (.str "")) (jm (zK (zN (zh 4)) (.nm 0) 1 [] jb (eL (zh 0) (zu (.int 0))))) (l9 p m w wd T bs ts us d g a b)=ej (.str (kU m w)):=by
     have h:m<=lim:=by omega
     have st:JZ ((Me m).map λk=>D.str<|qT<|il<|w k)=ej ((Me m).map λk=>qT<|il<|w k):=Jx _ _;have y:((Me m).map λk=>qT<|il<|w k).all j1=eA:=by simp only[NI];intro x n;obtain⟨k,_,rfl⟩:=MD.mp n;unfold il;split<;>decide
     have s:j1 "" = eA:=by decide +kernel
     simp only[l9,W8,q9,ke,qe,qA,jw,Mk,Mn,zO,jY,Mj,Mr];rw[Zr,UJ h,show zZ 1 [] (l9 p m w wd T bs ts us d g a b)=[Cell.no]from rfl,JR];simp only[Mr,Mj,st];rw[UJ ⟨by simpa using h,y,s⟩];rfl
    have u:R1 (l9 p m w wd T bs ts us d g a b)=ej (.ret<|.val<|.bl<|ml (jA p m w wd<|qb p w wd (fT ts) (fT us) T)<|BR p m w bs):=by unfold R1;rw[vf,xZ,xS,xS,jO,jO,jO,qU,jO,jO,jO,qU,o];simp only[l9,jZ,Mk,Mn,zG,Mj,Mr,l,r,fQ,q]
    exact jg<|zo EV<|zo EU<|zo ET<|zo U<|zo z<|zo O u
end
theorem AQ:xE=jr 15 (zJ N9<|zJ R9<|zJ US<|zJ UT<|zJ Se I'):=rfl
noncomputable def J_:=(zJ (J9 4 (zc 8)<|qh<|zK (zN<|zW<|eL (zh 4)<|zc 8) (.nm 0) 1 [2,10] jb (zy qw (zy xJ (zc 2)<|zc 0)<|zc 1))<|zJ (jy 11<|eL (jm<|zK (z7<|zc 2) (.nm 0) 1 [2,10] (sB<|zy hG (zy qw (zy xJ (zc 0)<|zc 2)<|zc 1)<|zu<|.int 1) (zc 0))<|zu<|.int 0)<|QA 5 12 (zc 8)<|zy qw (zy xJ (eL (zh 12)<|zc 8)<|zc 11)<|zc 2)
noncomputable def I_:=(zJ (J9 4 (zc 9)<|qh<|zK (aH (eL (zh 4)<|zc 9)<|eL (zh 4)<|zc 8) (.tp [0,1]) 2 [2,10] jb (zy qw (zy j3 (zc 0)<|zy xJ (zc 3)<|zc 1)<|zc 2))<|QA 5 12 (zc 8)<|zy qw (zy JI (eL (zh 12)<|zc 8)<|zy xJ (zc 10)<|eL (zh 12)<|zc 9)<|zc 2)
def S0:=(kr (sB<|zy hG (zc 8)<|zc 9) J_ I_)
noncomputable def J':=(zJ (jy 7<|zD z9<|zb (zc 0)<|zb (zy j3 (zc 1)<|zc 6) zI)<|zJ (jy 8<|zy qw (zc 7)<|zc 3)<|zJ (jy 9<|zy qw (zy vz (zc 7)<|zc 3)<|zc 3)<|zJ (jy 10<|zy j3 (zu<|.int 1)<|zy qw (zy vz (zc 7)<|zu<|.int 97)<|zy JI (zc 2)<|zu<|.int 1) S0)
theorem sk:US=ZA (z7<|zy xJ (zu<|.int 3)<|zc 3) (.nm 6) J':=rfl
section
variable{p:Int}{n:Nat}
theorem eM(hp:Pr p)(ac:n<=60)(h:Pair p n f g)(I:u<n)(C:o<n)(ht:1<=tm/\tm<p)(J S Z am an:Cell) :
 ∃f' g' T8 b6,Pair p n f' g'/\S0 [J,S,.val<|.int p,.val<|.int n,.own<|j4 n f,.nest<|qQ n g,Z,.val<|.int cell,.val<|.int u,.val<|.int o,.val<|.int tm,am,an,.no,.no]=ej (.next [J,S,.val<|.int p,.val<|.int n,.own<|j4 n f',.nest<|qQ n g',Z,.val<|.int cell,.val<|.int u,.val<|.int o,.val<|.int tm,T8,b6,.no,.no]):=by
 have hl:=ju;have ac:n<=lim:=by omega
 have Y:=hp.pos;have p7:=hp.le;have one:=hp.one;have r : ∀z:Int,0<=z%p/\z%p<p:=λz=>⟨Na _ ⋯,MN _ Y⟩;have w : ∀x,JM tm x=eA:=λx=>vE _ _ ⋯ ⋯;by_cases m:u=o
 ·subst m
  have as:zP (.nm 0) (sB<|zy hG (zy qw (zy xJ (zc 0)<|zc 2)<|zc 1)<|zu<|.int 1) (zc 0) [Cell.no,Cell.val<|.int p,Cell.val (.int tm)] (zH p.toNat λi=>(i:Int))=ej (((Me p.toNat).filter λ(i:Nat)=>decide<|(i:Int)*tm%p=1).map λ(i:Nat)=>D.int (i:Int)):=by rw[jf];refine jD _ _ _ λi l=>⟨_,rfl,?_,λ_=>rfl⟩;have P:=Mg.mp l;simp[vE (i:Int) tm ⋯ ⋯,Y]
  obtain⟨N,Q,R,F⟩:=rE hp (x:=tm) ⋯ ht.2;cases hg:(Me p.toNat).filter λ(i:Nat)=>decide ((i:Int)*tm%p=1)with
  | nil=>
   have:=Vp hg N ⋯;simp[F]at this
  | cons b T=>
   obtain⟨W,G,_⟩:=Jj hg;rw[hg]at as;have B:(b:Int)*tm%p=1:=by simpa using G
   have X:(b:Int)<p:=by omega
   refine⟨λi j=>if i=u then tm*f u j%p else f i j,λi j=>if j=u then g i u*(b:Int)%p else g i j,.val<|.int (b:Int),.no,⟨λi j l O=>?_,λi j l O=>?_,?_,?_⟩,?_⟩
   ·by_cases e:i=u
    ·simp only[UJ e];exact r _
    ·simp only[UY e];exact h.bf i j l O
   ·by_cases e:j=u
    ·simp only[UJ e];exact r _
    ·simp only[UY e];exact h.bg i j l O
   ·refine cf (a:=tm) (b:=(b:Int)) (u:=u) (by rw[Nx,B,one]) h.fg (λi k _ _=>?_) (λk j _ _=>?_)
    ·by_cases e:i=u
     ·simp only[UJ e];rw[MM,e]
     ·simp only[UY e,Pc]
    ·by_cases e:j=u
     ·simp only[UJ e];rw[MM,e,Nx]
     ·simp only[UY e,Pc]
   ·refine V4 (a:=tm) (b:=(b:Int)) (u:=u) (by rw[B,one]) h.gf (λi k _ _=>?_) (λk j _ _=>?_)
    ·by_cases e:i=u
     ·simp only[UJ e];rw[MM,e]
     ·simp only[UY e,Pc]
    ·by_cases e:j=u
     ·simp only[UJ e];rw[MM,e,Nx]
     ·simp only[UY e,Pc]
   ·have s:zP (.nm 0) jb (zy qw (zy xJ (zc 2)<|zc 0)<|zc 1) [Cell.no,Cell.val<|.int p,Cell.val (.int tm)] (zH n<|f u)=ej (zH n λj=>tm*f u j%p):=by
     rw[jf,jf];refine zw _ _ λj O=>zx rfl rfl ?_;simp[w,Y]
    have A:=YV I f (λi j=>if i=u then tm*f u j%p else f i j) (λj=>tm*f u j%p) (λj _=>by simp) (λi j _ U _=>by simp[U]);have y : ∀d:Cell,kz 5 12 (zc 8) (zy qw (zy xJ (eL (zh 12)<|zc 8)<|zc 11)<|zc 2) [J,S,.val<|.int p,.val<|.int n,d,.nest<|qQ n g,Z,.val<|.int cell,.val<|.int u,.val<|.int u,.val<|.int tm,.val<|.int (b:Int),an,.no,.no] (qQ n g)=ej (qQ n λi j=>if j=u then g i u*(b:Int)%p else g i j):=λd=>by
     unfold qQ;refine ZQ _ λk E=>⟨.int<|g k u*(b:Int)%p,u,u,?_,rfl,?_,Xl I _ _ _ ⋯ λi _ U=>by simp[U]⟩
     ·have q:=h.bg k u (Mg.mp E) I
      have L:=vE (g k u) (b:Int) ⋯ ⋯;simp[vb,I,L,Y]
     ·simp[I]
    have H:inR p=eA:=Xb ⋯ ⋯;have M:p.toNat<=lim:=by omega
    simp[S0,J_,jj,I,ac,zZ,Ml,s,A,y,H,jW,M,as]
 ·refine⟨λi j=>if i=o then (f o j+tm*f u j)%p else f i j,λi j=>if j=u then (g i u - tm*g i o)%p else g i j,am,.no,⟨λi j l O=>?_,λi j l O=>?_,?_,?_⟩,?_⟩
  ·by_cases e:i=o
   ·simp only[UJ e];exact r _
   ·simp only[UY e];exact h.bf i j l O
  ·by_cases e:j=u
   ·simp only[UJ e];exact r _
   ·simp only[UY e];exact h.bg i j l O
  ·refine mC (t:=tm) (u:=o) (o:=u) C I (MV m) h.fg (λi k _ _=>?_) (λk j _ _=>?_)
   ·by_cases e:i=o
    ·simp only[UJ e];rw[MM,e]
    ·simp only[UY e,Pb,Pd]
   ·by_cases e:j=u
    ·simp only[UJ e];rw[MM,e,Int.neg_mul];rfl
    ·simp only[UY e,Pb,Pd]
  ·refine eI (t:=tm) (u:=o) (o:=u) C I (MV m) h.gf (λi k _ _=>?_) (λk j _ _=>?_)
   ·by_cases e:i=o
    ·simp only[UJ e];rw[MM,e]
    ·simp only[UY e,Pb,Pd]
   ·by_cases e:j=u
    ·simp only[UJ e];rw[MM,e,Int.neg_mul];rfl
    ·simp only[UY e,Pb,Pd]
  ·have s:zP (.tp [0,1]) jb (zy qw (zy j3 (zc 0)<|zy xJ (zc 3)<|zc 1)<|zc 2) [Cell.no,Cell.no,Cell.val<|.int p,Cell.val (.int tm)] ((Me n).map λj=>D.tup [.int (f o j),.int (f u j)])=ej (zH n λj=>(f o j+tm*f u j)%p):=by
    rw[jf];refine zw _ _ λj O=>zx rfl rfl ?_;simp[w,Y]
   have A:=YV C f (λi j=>if i=o then (f o j+tm*f u j)%p else f i j) (λj=>(f o j+tm*f u j)%p) (λj _=>by simp) (λi j _ U _=>by simp[U]);have y : ∀d:Cell,kz 5 12 (zc 8) (zy qw (zy JI (eL (zh 12)<|zc 8)<|zy xJ (zc 10)<|eL (zh 12)<|zc 9)<|zc 2) [J,S,.val<|.int p,.val<|.int n,d,.nest<|qQ n g,Z,.val<|.int cell,.val<|.int u,.val<|.int o,.val<|.int tm,am,an,.no,.no] (qQ n g)=ej (qQ n λi j=>if j=u then (g i u - tm*g i o)%p else g i j):=λd=>by
    unfold qQ;refine ZQ _ λk E=>⟨.int<|(g k u - tm*g k o)%p,u,u,?_,rfl,?_,Xl I _ _ _ ⋯ λi _ U=>by simp[U]⟩
    ·simp[vb,I,C,w,Y]
    ·simp[I]
   have K : ¬((u:Int)=(o:Int)):=by omega
   simp[S0,I_,jj,m,K,I,C,ac,zZ,Ml,Jw,s,A,y]
end
section
variable{p:Int}{n:Nat}
theorem AM(as:C.length<=63)(O:Pr p)(hn:n<=60)(h0:0<=at')(h1:at'<=10000) :
 ∃f g,Pair p n f g/\xE [kc C,.int at',.int p,.int n]=ej (.own [z6 n n f,z6 n n g]):=by
 have hl:=ju;have I:n<=lim:=by omega
 have p0:=O.pos;have two:=O.two;have p7:=O.le;have one:=O.one;have A : ∀i:Nat,zP (.nm 0) jb (km<|zy hG (zc 1)<|zc 0) [Cell.no,Cell.val (.int i)] ((Me n).map λ(j:Nat)=>D.int j)=ej (zH n<|l8 i):=λi=>by
  rw[jf];refine zw _ _ λj hj=>zx rfl rfl ?_;by_cases e:i=j
  ·subst e;simp[l8]
  ·have e' : ¬((i:Int)=(j:Int)):=by omega
   simp[l8,e,e']
 have W:zP (.nm 0) jb (qh<|zK (z7<|zc 1) (.nm 0) 1 [0] jb (km<|zy hG (zc 1)<|zc 0)) [Cell.no,Cell.val (.int n)] ((Me n).map λ(j:Nat)=>D.int j)=ej (j4 n l8):=by unfold j4;refine zw _ _ λi x=>zx rfl rfl ?_;simp[I,jW,zZ,Ml];rw[jf n λi=>(i:Int),A]
 have X:vB (.nm 0) (zK (z7<|zc 1) (.nm 0) 1 [0] jb (km<|zy hG (zc 1)<|zc 0)) [Cell.no,Cell.val (.int n)] ((Me n).map λ(j:Nat)=>D.int j)=ej (qQ n l8):=by unfold qQ;refine Xp _ λi x=>⟨_,rfl,?_⟩;simp[I,jW,zZ,Ml];rw[jf n λi=>(i:Int),A]
 have J0:Pair p n l8 l8:=by
  have b : ∀i j:Nat,i<n->j<n->0<=l8 i j/\l8 i j<p:=λi j _ _=>by unfold l8;split<;>omega
  have u:XT p n l8 l8:=λi j x hj=>by rw[zT (i:=i) x λk _ Z=>by unfold l8;rw[UY (MV Z)];simp];simp[l8]
  exact⟨b,b,u,u⟩
 have s1:N9 (jc 15 [kc C,.int at',.int p,.int n])=ej (.next [.val (kc C),.val<|.int at',.val<|.int p,.val<|.int n,.own<|j4 n l8,.no,.no,.no,.no,.no,.no,.no,.no,.no,.no]):=by show N9 [.val (kc C),.val<|.int at',.val<|.int p,.val<|.int n,.no,.no,.no,.no,.no,.no,.no,.no,.no,.no,.no]=_;unfold N9;simp[I,jW,zZ,Ml];rw[jf n λi=>(i:Int),W]
 have s2:R9 [.val (kc C),.val<|.int at',.val<|.int p,.val<|.int n,.own<|j4 n l8,.no,.no,.no,.no,.no,.no,.no,.no,.no,.no]=ej (.next [.val (kc C),.val<|.int at',.val<|.int p,.val<|.int n,.own<|j4 n l8,.nest<|qQ n l8,.no,.no,.no,.no,.no,.no,.no,.no,.no]):=by unfold R9;simp[I,jW,zZ,Ml];rw[jf n λi=>(i:Int),X];simp[qm,I]
 have cm:JM 3 (n:Int)=eA:=vE _ _ ⋯ ⋯;obtain⟨γ',M,f,g,w,s,r,l,d,a,z,y,rfl⟩:=vV (T:= .nm 6) (F:=J') (f:=zy xJ (zu<|.int 3)<|zc 3)
  (λt γ=>∃f g w s r l d a z,Pair p n f g/\γ=[.val (kc C),.val<|.int at',.val<|.int p,.val<|.int n,.own<|j4 n f,.nest<|qQ n g,w,s,r,l,d,a,z,.no,.no])
  (3*n) ⋯ (γ:=[.val (kc C),.val<|.int at',.val<|.int p,.val<|.int n,.own<|j4 n l8,.nest<|qQ n l8,.no,.no,.no,.no,.no,.no,.no,.no,.no]) (by
    have:((3*n:Nat):Int)=3*(n:Int):=by omega
    rw[this];simp[cm]) ⟨l8,l8,.no,.no,.no,.no,.no,.no,.no,J0,rfl⟩ (by
    rintro t ht γ ⟨f,g,w,s,r,l,d,a,z,y,rfl⟩;have B:0<n:=by omega
    obtain⟨J,P,b1⟩:=ZV as (k:=at'+(t:Int)) ⋯ ⋯;generalize wJ C (at'+(t:Int))=cell at J P b1;obtain⟨u,eu,hu⟩:=Km (m:=cell) (n:Int) ⋯;obtain⟨o,eo,ho⟩:=Km (m:=cell/(n:Int)) (n:Int) ⋯;have ci:=Na (cell/97) (show p - 1≠0 by omega);have cj:=MN (cell/97) (show 0<p - 1 by omega);have be:1<=1+cell/97%(p - 1)/\1+cell/97%(p - 1)<p:=by omega
    obtain⟨K,L,E,G,bf,es⟩:=eM O hn y (u:=u) (o:=o) (tm:=1+cell/97%(p - 1)) (cell:=cell) ⋯ ⋯ be (.val<|kc C) (.val<|.int at') (.val<|.int t) a z;refine⟨[.val (kc C),.val<|.int at',.val<|.int p,.val<|.int n,.own<|j4 n f,.nest<|qQ n g,.val<|.int t,s,r,l,d,a,z,.no,.no],[.val (kc C),.val<|.int at',.val<|.int p,.val<|.int n,.own<|j4 n K,.nest<|qQ n L,.val<|.int t,.val<|.int cell,.val<|.int u,.val<|.int o,.val<|.int<|1+cell/97%(p - 1),E,G,.no,.no],rfl,?_,K,L,.val<|.int t,.val<|.int cell,.val<|.int u,.val<|.int o,.val<|.int<|1+cell/97%(p - 1),E,G,bf,rfl⟩;have H:(0:Int)<(n:Int):=by omega
    have pm:0<p - 1:=by omega
    have Q:(jy 7<|zD z9<|zb (zc 0)<|zb (zy j3 (zc 1)<|zc 6) zI) [.val (kc C),.val<|.int at',.val<|.int p,.val<|.int n,.own<|j4 n f,.nest<|qQ n g,.val<|.int t,s,r,l,d,a,z,.no,.no]=ej (.next [.val (kc C),.val<|.int at',.val<|.int p,.val<|.int n,.own<|j4 n f,.nest<|qQ n g,.val<|.int t,.val<|.int cell,r,l,d,a,z,.no,.no]):=by simp[J]
    have R:(jy 8<|zy qw (zc 7)<|zc 3) [.val (kc C),.val<|.int at',.val<|.int p,.val<|.int n,.own<|j4 n f,.nest<|qQ n g,.val<|.int t,.val<|.int cell,r,l,d,a,z,.no,.no]=ej (.next [.val (kc C),.val<|.int at',.val<|.int p,.val<|.int n,.own<|j4 n f,.nest<|qQ n g,.val<|.int t,.val<|.int cell,.val<|.int u,l,d,a,z,.no,.no]):=by simp[H,B,eu]
    have S:(jy 9<|zy qw (zy vz (zc 7)<|zc 3)<|zc 3) [.val (kc C),.val<|.int at',.val<|.int p,.val<|.int n,.own<|j4 n f,.nest<|qQ n g,.val<|.int t,.val<|.int cell,.val<|.int u,l,d,a,z,.no,.no]=ej (.next [.val (kc C),.val<|.int at',.val<|.int p,.val<|.int n,.own<|j4 n f,.nest<|qQ n g,.val<|.int t,.val<|.int cell,.val<|.int u,.val<|.int o,d,a,z,.no,.no]):=by
     have nb:(n:Int)<1073741824:=by omega
     simp[H,B,nb,eo]
    have bn:1<p:=by omega
    have bv:(jy 10<|zy j3 (zu<|.int 1)<|zy qw (zy vz (zc 7)<|zu<|.int 97)<|zy JI (zc 2)<|zu<|.int 1) [.val (kc C),.val<|.int at',.val<|.int p,.val<|.int n,.own<|j4 n f,.nest<|qQ n g,.val<|.int t,.val<|.int cell,.val<|.int u,.val<|.int o,d,a,z,.no,.no]=ej (.next [.val (kc C),.val<|.int at',.val<|.int p,.val<|.int n,.own<|j4 n f,.nest<|qQ n g,.val<|.int t,.val<|.int cell,.val<|.int u,.val<|.int o,.val<|.int<|1+cell/97%(p - 1),a,z,.no,.no]):=by simp[pm,bn]
    exact zo Q<|zo R<|zo S<|zo bv es)
 rw[<- sk]at M;refine⟨f,g,y,?_⟩;have bx : ∀h:UV,zP (.nm 0) jb (zM<|zh 0) [Cell.no] (j4 n h)=ej (jd n n h):=λh=>by unfold j4 jd;refine zw _ _ λi x=>zx rfl rfl ?_;simp
 have s4:UT [.val (kc C),.val<|.int at',.val<|.int p,.val<|.int n,.own<|j4 n f,.nest<|qQ n g,w,s,r,l,d,a,z,.no,.no]=ej (.next [.val (kc C),.val<|.int at',.val<|.int p,.val<|.int n,.own<|j4 n f,.nest<|qQ n g,w,s,r,l,d,a,z,.own [],.no]):=rfl;have s5:Se [.val (kc C),.val<|.int at',.val<|.int p,.val<|.int n,.own<|j4 n f,.nest<|qQ n g,w,s,r,l,d,a,z,.own [],.no]=ej (.next [.val (kc C),.val<|.int at',.val<|.int p,.val<|.int n,.val<|.lst<|j4 n f,.val<|.lst<|j4 n g,w,s,r,l,d,a,z,.own [z6 n n f,z6 n n g],.val (.lst<|j4 n g)]):=by
  have l3:3<=lim:=by omega
  have l2:2<=lim:=by omega
  have N : ∀(acc:List D) (h:UV) (U Y:Cell),acc.length<=1->(xu 13<|qW<|zb (zc 3)<|zb (zc 3)<|zb (zM<|jm<|zK (zN<|zh 14) (.nm 0) 1 [] jb (zM<|zh 0)) zI) [.val (kc C),.val<|.int at',.val<|.int p,.val<|.int n,U,Y,w,s,r,l,d,a,z,.own acc,.val (.lst<|j4 n h)]=ej (.next [.val (kc C),.val<|.int at',.val<|.int p,.val<|.int n,U,Y,w,s,r,l,d,a,z,.own<|acc++[z6 n n h],.val (.lst<|j4 n h)]):=λacc h U Y ha=>by
   have la:acc.length<lim:=by omega
   have rl:(j4 n h).length<=lim:=by rw[fM];exact I
   simp only[Zt,vG,jO,qU,jZ,xR,ke,qe,qA,jw,Mk,Mn,MH,MO,Nc,Nv,zG,zO,xQ,qR,Mj,Mr,rl,if_true];rw[show zZ 1 [] [Cell.val (kc C),.val<|.int at',.val<|.int p,.val<|.int n,U,Y,w,s,r,l,d,a,z,.own acc,.val (.lst<|j4 n h)]=[Cell.no]from rfl,bx];simp only[Mr,Mj,l3,if_true,la,NL,NK];rfl
  have e:Se [.val (kc C),.val<|.int at',.val<|.int p,.val<|.int n,.own<|j4 n f,.nest<|qQ n g,w,s,r,l,d,a,z,.own [],.no]=xq (.nm 14) (xu 13<|qW<|zb (zc 3)<|zb (zc 3)<|zb (zM<|jm<|zK (zN<|zh 14) (.nm 0) 1 [] jb (zM<|zh 0)) zI) [.lst (j4 n f),.lst ((qQ n g).map D.lst)] [.val (kc C),.val<|.int at',.val<|.int p,.val<|.int n,.val<|.lst<|j4 n f,.val<|.lst<|(qQ n g).map D.lst,w,s,r,l,d,a,z,.own [],.no]:=rfl;rw[e,fL,jM];simp only[vX,Mj,NL,NK];rw[N [] f _ _ ⋯];simp only[Mj,OX];rw[jM];simp only[vX,Mj,NL,NK];rw[N [z6 n n f] g _ _ (Mp 1)];rfl
 rw[AQ];exact jg<|zo s1<|zo s2<|zo M<|zo s4<|zo s5 rfl
end
def i6(bs:List (Int×Int))(k:Nat):Nat:=(jz bs k).length
noncomputable def t9(w:UK)(bs:List (Int×Int))(k i j:Nat):Int:=if (jz bs<|jh w k).getD i 0=(jz bs<|ja w k).getD j 0 then 1 else 0
theorem eY(e b:List Nat):pL e b=z6 e.length b.length λi j=>if e.getD i 0=b.getD j 0 then 1 else 0:=by
 have h : ∀{a:Type} (g:Nat->a) (l:List Nat),l.map g=(Me l.length).map λi=>g (l.getD i 0):=λg l=>by
  conv=>lhs;rw[<- jk 0 l]
  rw[Nb];rfl
 unfold pL z6 jd zH;rw[h (λx=>D.tup<|b.map λy=>D.int<|if x=y then 1 else 0) e];simp only[h (λy=>D.int _) b]
theorem rS(p:Int)(m:Nat)(w:UK)(bs:List (Int×Int)):BR p m w bs=jA p m w (i6 bs) (t9 w bs):=by
 have e:kK m w bs=jN m w (i6 bs) (t9 w bs):=by unfold kK jN;refine MA λk _=>?_;rw[eY];unfold qX;rw[yz,yk];rfl
 unfold BR jA;rw[e];rfl
theorem Ei{p:Int}(two:2<=p)(w:UK)(bs:List (Int×Int))(k i j:Nat):0<=t9 w bs k i j/\t9 w bs k i j<p:=by unfold t9;split<;>omega
theorem ao(z:0<p)(w:UK)(wd:UX)(f g T:UW)(k i j:Nat):0<=qb p w wd f g T k i j/\qb p w wd f g T k i j<p:=
 ⟨Na _ ⋯,MN _ z⟩
def xG(m:Nat)(wd:UX)(f:UW):List TB:=(Me<|m+1).map λk=>(wd k,wd k,f k)
theorem eV(m wd f):(xG m wd f).map tD=qN (m+1) wd f:=by unfold xG qN;rw[Nb];rfl
theorem KO{m k:Nat}(wd f)(h:k<m+1):(xG m wd f).getD k mr=(wd k,wd k,f k):=by unfold xG;simp[Mm,h]
theorem YH(m wd f):(xG m wd f).length=m+1:=by simp[xG]
theorem iM{m k:Nat}(wd f)(h:k<m+1):fT (xG m wd f) k=f k:=by unfold fT;rw[KO wd f h]
section
variable{p:Int}{m:Nat}{w:UK}{wd:UX}{f g T:UW}{bs:List (Int×Int)}
theorem X0(I : ∀k,wd k<=60)(U : ∀k i j,k<m+1->i<wd k->j<wd k->0<=f k i j/\f k i j<p) : ∀t∈xG m wd f,sm p t:=λt O=>by unfold xG at O;obtain⟨k,z,rfl⟩:=MD.mp O;have z:=Mg.mp z;exact⟨I k,I k,λi j a Y=>U k i j z a Y⟩
theorem Wg(O:Pr p)(Y : ∀b∈bs,bX ((m+1:Nat):Int) b)(C:jv bs=bs)(U : ∀k,k<m+1->Pair p (i6 bs k) (f k) (g k)) :
 vm p m w (i6 bs) (qb p w (i6 bs) f g<|t9 w bs) bs (xG m (i6 bs) g) (xG m (i6 bs) f)=eA:=by
 have o:=O.pos;have two:=O.two;have g1:Jr ((m+1:Nat):Int) bs=eA:=NI.mpr λb h=>by have q:=Y b h;unfold bX at q;exact decide_eq_true ⋯
 have g2:kW bs=eA:=decide_eq_true C.symm;have g3:yQ m (xG m (i6 bs) g) (xG m (i6 bs) f)=eA:=decide_eq_true ⟨YH ..,YH ..⟩;have l:bV p m (i6 bs) (xG m (i6 bs) g) (xG m (i6 bs) f)=eA:=NI.mpr λk z=>by
  have z:=Mg.mp z;show sX p (i6 bs k) ((xG m (i6 bs) g).getD k mr) ((xG m (i6 bs) f).getD k mr)=eA;rw[KO _ _ z,KO _ _ z];unfold sX;have e:ny p (i6 bs k) (i6 bs k,i6 bs k,g k) (i6 bs k,i6 bs k,f k)=KS (i6 bs k):=JG λi j d I=>by
   have q:=(U k z).gf i j d I;show zm (λa=>g k i a*f k a j) (i6 bs k)%p=_;rw[q];unfold l8;split
   ·exact NJ ⋯ ⋯
   ·exact NJ ⋯ ⋯
  rw[e,F7];simp
 have n:jA p m w (i6 bs) (qb p w (i6 bs) (fT<|xG m (i6 bs) g) (fT<|xG m (i6 bs) f)<|qb p w (i6 bs) f g<|t9 w bs)=BR p m w bs:=by rw[rS];refine mN (λ_ _=>rfl) (λ_ _=>rfl) λk i j z d I=>?_;have q:=eQ (w:=w) (T:=t9 w bs) U z (yz w (i6 bs) k ▸ d) (yk w (i6 bs) k ▸ I)<|Ei two w bs k i j;rw[<- q];show qb p w (i6 bs) (fT<|xG m (i6 bs) g) (fT<|xG m (i6 bs) f) _ k i j=_;unfold qb;rw[iM _ _ (ZS w z),iM _ _ (ZW w z)]
 unfold vm;rw[g1,g2,g3,l,n,F7];rfl
end
section
variable{p:Int}{n:Nat}
theorem lY(C:Pr p)(J:n<=20)(f:UV) : ∃r B l,kv p (n+n) r B l/\(∀v,Span p (n+n) (f9 r B) v↔Span p (n+n) (f9 n λi=>vj n (f i)<|qg i) v)/\
 kO [.int p,z6 n n f]=ej (.val<|if ml (.lst<|jd r n B) (.lst<|jd n n qg)=eA then .tup [.int n,.int n,.tup (jd r n λk j=>B k<|n+j)]else .gm):=by
 have A:=ju;have z:n<=lim:=by omega
 have m:n+n<=lim:=by omega
 obtain⟨r,B,l,e,I,o⟩:=x9 C (show n+n<=100 by omega) z .L λi=>vj n (f i)<|qg i;refine⟨r,B,l,I,o,?_⟩;have O:r<=lim:=by have:r<=n+n:=Wy I.mono I.lt;omega
 have U:=yE (n:=n) z;have a:zP (.tp [0,1]) jb (zy j3 (zc 0)<|zc 1) [Cell.no,Cell.no] ((Me n).map λi=>D.tup [.tup (zH n<|f i),.tup (zH n λk=>if i=k then 1 else 0)])=ej (jd n (n+n) λi=>vj n (f i)<|qg i):=by unfold jd;refine zw _ _ λj y=>zx rfl rfl ?_;simp[j3,m,JF];rfl
 have Y:=mf n n f λi j=>if i=j then 1 else 0;have t:((n:Int)+(n:Int))=((n+n:Nat):Int):=by omega
 simp only[wh]at e;rw[<- t]at e;have d:zP (.nm 0) jb (YS (zc 0) Yv<|t6<|zc 1) [Cell.no,Cell.val (.int n)] (jd r (n+n) B)=ej (jd r n B):=by unfold jd;refine zw _ _ λk u=>zx rfl rfl ?_;simp[bK]
 have s:zP (.nm 0) jb (YS (zc 0) (t6<|zc 1) Yv) [Cell.no,Cell.val (.int n)] (jd r (n+n) B)=ej (jd r n λk j=>B k<|n+j):=by unfold jd;refine zw _ _ λk u=>zx rfl rfl ?_;simp[bJ]
 have b:i7 (.lst<|jd r n B) (.lst<|jd n n λi j=>if i=j then 1 else 0)=ej (.bl<|!ml (.lst<|jd r n B) (.lst<|jd n n qg)):=by unfold i7;rw[UJ ⟨aW _ _ _,aW _ _ _⟩];rfl
 have g : ∀(h w:Nat) (f:UV),j5 (z6 h w f)=ej (.T,[.int h,.int w,.tup (jd h w f)]):=λ_ _ _=>rfl;by_cases q:ml (.lst<|jd r n B) (.lst<|jd n n qg)=eA
 ·rw[q]at b
  rw[UJ q];simp[kO,jr,jc,jj,g,U,Y,z,O,zZ,xA,Ml,a,e,d,s,b]
 ·have x:ml (.lst<|jd r n B) (.lst<|jd n n qg)=eK:=by simpa using q
  rw[x]at b;rw[UY q];simp[kO,jr,jc,jj,g,U,Y,z,O,zZ,xA,Ml,a,e,d,b]
theorem af(U:Pr p)(Z:n<=20)(J:XT p n f g)(S:XT p n g f)(C : ∀i j,i<n->j<n->0<=g i j/\g i j<p):kO [.int p,z6 n n f]=ej (.val<|z6 n n g):=by
 obtain⟨r,B,l,E,o,e⟩:=lY U Z f;have two:=U.two;have one:=U.one;have x:kv p (n+n) n (λk=>vj n (qg k)<|g k) id:={
  lt:=λk I=>by simp only[id];omega
  mono:=λk m I _=>I
  one:=λk I=>by simp only[id];rw[qt I];exact UJ rfl
  pb:=λk j I Y=>by simp only[id]at Y;rw[qt ⋯];exact UY ⋯
  xg:=λk m I F b=>by simp only[id];rw[qt F];exact UY ⋯
  o5:=λk i I a=>by
   rcases MK i n with z | z
   ·rw[qt z];unfold qg;split<;>omega
   ·obtain⟨j,rfl⟩ : ∃j,i=n+j:=⟨i - n,by omega⟩
    rw[qM];exact C k j I ⋯}
 have t : ∀v,Span p (n+n) (f9 n λk=>vj n (qg k)<|g k) v->Span p (n+n) (f9 n λi=>vj n (f i)<|qg i) v:=λv O=>O.le λs h=>by
  obtain⟨k,I,d⟩:=h;subst d;refine(Span.sum (u:=λi=>vj n (f i)<|qg i) (λi=>g k i) (m:=n) λi a=> .gen ⟨i,a,rfl⟩).congr λj Y=>?_;rcases MK j n with z | z
  ·simp only[qt z]
   exact(S k j I z).symm
  ·obtain⟨m,rfl⟩ : ∃m,j=n+m:=⟨j - n,by omega⟩
   simp only[qM];rw[zT (i:=m) ⋯ λi _ b=>by simp[qg,b]];simp[qg]
 have w : ∀v,Span p (n+n) (f9 n λi=>vj n (f i)<|qg i) v->Span p (n+n) (f9 n λk=>vj n (qg k)<|g k) v:=λv O=>O.le λs h=>by
  obtain⟨i,a,d⟩:=h;subst d;refine(Span.sum (u:=λk=>vj n (qg k)<|g k) (λk=>f i k) (m:=n) λk I=> .gen ⟨k,I,rfl⟩).congr λj Y=>?_;rcases MK j n with z | z
  ·simp only[qt z]
   rw[zT (i:=j) z λk _ b=>by simp[qg,b]];simp[qg]
  ·obtain⟨m,rfl⟩ : ∃m,j=n+m:=⟨j - n,by omega⟩
   simp only[qM];exact(J i m a ⋯).symm
 obtain⟨rfl,_,u⟩:=Xs U E x (λv O=>w v<|(o v).mp O)<|λv O=>(o v).mpr (t v O);have y:jd r r B=jd r r qg:=Yh λk i I a=>by rw[u k i I ⋯,qt a]
 have A:jd r r (λk j=>B k<|r+j)=jd r r g:=Yh λk j I Y=>by rw[u k (r+j) I ⋯,qM]
 rw[e,y,UJ<|F7 _,A];rfl
end
section
variable{wd:UX}{m k N:Nat}{p:Int}{w:UK}{T:UW}{A:Nat->gR}
def l0(A:Nat->gR)(N r:Nat):List Nat:=(Me N).filter λj=>(A j).has r
def qV(A:Nat->gR)(N r:Nat):Nat->Nat->Int:=λi j=>(A<|(l0 A N r).getD j 0).v r i
theorem WL{r j:Nat}(h:j<(l0 A N r).length):(l0 A N r).getD j 0<N/\(A<|(l0 A N r).getD j 0).has r=eA:=by
 have d:(l0 A N r).getD j 0∈l0 A N r:=by rw[Mm,Mi h];exact OB _
 obtain⟨a,b⟩:=MR.mp d;exact⟨Mg.mp a,by simpa using b⟩
theorem YF(I:Pr p)(C:n<=8)(O : ∀v:Vc,∃t,∀i,i<n->v i%p=app f n t i%p) : ∃g:UV,XT p n f g/\XT p n g f/\∀i j,0<=g i j/\g i j<p:=by
 have s:=I.pos;obtain⟨t,U⟩:=Px λj=>O<|qg j;refine⟨λi j=>t j i%p,?_,?_,λi j=>⟨Na _ ⋯,MN _ s⟩⟩
 ·intro i j d Y
  have e:zm (λk=>f i k*(t j k%p)) n%p=app f n (t j) i%p:=zS λk _=>w9 p _ _;rw[e,<- U j i d];unfold qg l8;simp only[eq_comm]
 ·intro i j d Y
  have z : ∀a,a<n->app f n (λb=>zm (λk=>(t k b%p)*f k j) n - qg j b) a%p=0:=λa h=>by
   rw[Xu,Zs f Y,B3];have e:app f n (λb=>zm (λk=>(t k b%p)*f k j) n) a%p=f a j%p:=by
    have l:app f n (λb=>zm (λk=>(t k b%p)*f k j) n) a=zm (λk=>f k j*app f n (λb=>t k b%p) a) n:=by rw[<- vF];congr 1;funext b;exact xn ..
    rw[l];have m:zm (λk=>f k j*app f n (λb=>t k b%p) a) n%p=zm (λk=>f k j*qg k a) n%p:=zS λk _=>by rw[Mt,qG (u:=t k) (λb _=>MM _ _) a,<- U k a h,<- Mt]
    rw[m,zT (f:=λk=>f k j*qg k a) h λk _ r=>by simp[qg,r]];simp[qg]
   rw[e];simp
  have:=wI I C O z i d;have o:(zm (λk=>(t k i%p)*f k j) n)%p=qg j i%p:=TF.mpr this;show zm (λk=>(t k i%p)*f k j) n%p=l8 i j%p;rw[o];unfold qg l8;simp only[eq_comm]
theorem dS:y9=jr 4 (zJ T1<|zJ T2<|zJ T3 T4):=rfl
theorem lG(J:Pr p)(C : ∀k,wd k<=8)(hm:m<=5)(hT : ∀k i j,k<m->i<l4 w wd k->j<l5 w wd k->0<=T k i j/\T k i j<p) :
 ∃(N:Nat) (A:Nat->gR) (g:UW),N<=48/\(∀j,j<N->ri p w wd T m (A j))/\(∀r,r<=m->(l0 A N r).length=wd r)/\(∀r,r<=m->XT p (wd r) (qV A N r) (g r)/\XT p (wd r) (g r) (qV A N r)/\∀i j,0<=g r i j/\g r i j<p)/\
  jv ((Me N).map λj=>Yx<|A j)=((Me N).map λj=>Yx<|A j)/\
  y9 [jA p m w wd T]=ej (.val<|qc ((Me N).map λj=>Yx<|A j) (xG m wd g)<|xG m wd λr=>qV A N r):=by
 have hl:=ju;obtain⟨a,I,H,F⟩:=VX (T:=T) (w:=w) J C hm hT;obtain⟨ok,sp,R⟩:=I.perm<|J3 a;have K:(kF a).length=a.length:=(J3 a).length_eq;let A:Nat->gR:=λj=>(kF a).getD j ma;have Y:kF a=(Me a.length).map A:=by rw[<- K];exact(jk ma _).symm
 have l : ∀j,j<a.length->ri p w wd T m (A j):=λj U=>ok _ (by
  rw[Y];exact MD.mpr ⟨j,Mg.mpr U,rfl⟩)
 have cnt : ∀r,r<=m->(l0 A a.length r).length=wd r:=λr O=>by have:=R r O;rw[Y,Ss,Nt]at this;exact this
 have M : ∀r,r<=m->∀v:Vc,∃t,∀i,i<wd r->v i%p=app (qV A a.length r) (wd r) t i%p:=λr O v=>by
  have hv:Span p (wd r) (f9 (wd r) λj i=>qV A a.length r i j) v:=(sp r O v).le λgg f=>by obtain⟨b,d,u,rfl⟩:=f;rw[Y]at d;obtain⟨j,U,rfl⟩:=MD.mp d;have P:j∈l0 A a.length r:=MR.mpr ⟨U,by simpa using u⟩;obtain⟨i,G,e⟩:=Rx P;refine .gen ⟨i,by rw[<- cnt r O];exact G,?_⟩;funext c;show(A j).v r c=(A<|(l0 A a.length r).getD i 0).v r c;rw[Mm,Mi G];simp[e]
  exact Du.mp hv
 have as : ∀r,∃g:UV,r<=m->XT p (wd r) (qV A a.length r) g/\XT p (wd r) g (qV A a.length r)/\∀i j,0<=g i j/\g i j<p:=λr=>by
  by_cases O:r<=m
  ·obtain⟨g,h⟩:=YF J (C r) (M r O)
   exact⟨g,λ_=>h⟩
  ·exact⟨λ_ _=>0,λz=>absurd z O⟩
 obtain⟨g,f⟩:=Px as;have X:(kF a).map Yx=(Me a.length).map λj=>Yx (A j):=by
  conv=>lhs;rw[Y,Nb]
  rfl
 refine⟨a.length,A,g,H,l,cnt,f,?_,?_⟩
 ·rw[<- X,YQ]
  refine J5 ?_;have:=(J3 a).map Yx;rw[YQ]at this;exact this
 ·have x:a.length<=lim:=by omega
  have Z:((kF a).map (qC wd))=(Me a.length).map λj=>qC wd (A j):=by
   conv=>lhs;rw[Y,Nb]
   rfl
  rw[Z]at F;let L:D:= .lst ((Me a.length).map λj=>qC wd<|A j);have y : ∀j,j<a.length->(A j).s+(A j).n<=100:=λj U=>by have:=(l j U).le;omega
  have S:zP (.tp [0,1]) jb (zD kM<|zb (zc 1)<|zb (qh<|jV xo<|zb (zc 2)<|zb (zc 0) zI) zI) [.no,.no,.val L] ((Me<|m+1).map λ(i:Nat)=>D.tup [.int i,.int (wd i:Nat)])=ej (qN (m+1) wd λr=>qV A a.length r):=by unfold qN;refine zw _ _ λr O=>zx rfl rfl ?_;have O:=Mg.mp O;have E:=wH (wd:=wd) y x r;rw[ba (wd r) (λj=>(A j).v r),show((Me a.length).filter λj=>(A j).has r)=l0 A a.length r from rfl,cnt r ⋯]at E;have be:=C r;have o:=ZU (q:=wd r) (h:=wd r) (λi=>(A<|(l0 A a.length r).getD i 0).v r) ⋯ ⋯;simp[-Mm,L,E,o];rfl
  have o:zP (.nm 0) jb (zD kO<|zb (eL (zh 1)<|zu<|.int 0)<|zb (zc 0) zI) [.no,.val (jA p m w wd T)] (qN (m+1) wd λr=>qV A a.length r)=ej (qN (m+1) wd g):=by unfold qN;refine zw _ _ λr O=>zx rfl rfl ?_;have O:=Mg.mp O;obtain⟨d,u,h3⟩:=f r ⋯;have e:=af J (n:=wd r) (by have:=C r;omega) d u λi j _ _=>h3 i j;simp[yo,e]
  have W:zP (.nm 0) jb (zD qo<|zb (zc 0) zI) [.no] ((Me a.length).map λj=>qC wd<|A j)=ej (zU<|(Me a.length).map λj=>Yx<|A j):=by unfold zU;rw[Nb];refine zw _ _ λj U=>zx rfl rfl ?_;have U:=Mg.mp U;have e:=X3 (wd:=wd) (l j U).n1 (y j U);simp[e];exact⟨rfl,rfl⟩
  have ew:qF (zH (m+1) λk=>(wd k:Int))=(Me<|m+1).map λ(i:Nat)=>D.tup [.int i,.int (wd i:Nat)]:=bA _ _;have B:m+1<=lim:=by omega
  have Q : ∀g:UW,(qN (m+1) wd g).length=m+1:=λg=>by simp[qN]
  rw[dS];refine jg<|zo (γ':=[.val (jA p m w wd T),.val L,.no,.no]) ?_ (zo (γ':=[.val (jA p m w wd T),.val L,.val<|.lst<|qN (m+1) wd λr=>qV A a.length r,.no]) ?_ (zo (γ':=[.val (jA p m w wd T),.val L,.val<|.lst<|qN (m+1) wd λr=>qV A a.length r,.val (.lst<|qN (m+1) wd g)]) ?_ ?_))
  ·simp[T1,jc,Ml,F,L]
  ·simp[T2,zZ,yo,ew,B,S]
  ·simp[T3,zZ,Q,B,o]
  ·unfold qc
   rw[eV,eV];simp[T4,zZ,L,x,W]
end
section
variable{wd:UX}{m k N:Nat}{p:Int}{w:UK}{T:UW}{A:Nat->gR}{g:UW}
def qf(A:Nat->gR)(N:Nat):List (Int×Int):=(Me N).map λj=>Yx<|A j
theorem uL{b:gR}(C:1<=b.n)(r:Nat):Kv (Yx b) (r:Int)=b.has r:=by
 unfold Kv Yx gR.has;dsimp only;congr 1
 ·exact decide_eq_decide.mpr ⋯
 ·exact decide_eq_decide.mpr ⋯
theorem yt(C : ∀j,j<N->1<=(A j).n)(r:Nat):jz (qf A N) (r:Int)=l0 A N r:=by unfold jz l0 qf;simp only[MF,Nz];refine Tc λj z=>?_;have z:=Mg.mp z;rw[Mm,Nf,Ry z];exact uL (C j z) r
theorem Vy(A N r):(l0 A N r).Nodup:=Sh.sublist RA
theorem dh{L:List Nat}(h:L.Nodup){a b:Nat}(C:a<L.length)(z:b<L.length)(e:L.getD a 0=L.getD b 0):a=b:=by rw[Mm,Mm,Mi C,Mi z]at e;exact(List.getElem_inj h).mp e
theorem oG(O : ∀j,j<N->ri p w wd T m (A j))(U:k<m){i b:Nat}(C:i<wd (jh w k))(Y:b<(l0 A N<|ja w k).length) :
 zm (λa=>(if (l0 A N<|jh w k).getD a 0=(l0 A N<|ja w k).getD b 0 then (1:Int)else 0)*qV A N (jh w k) i a) (l0 A N<|jh w k).length%p=app (T k) (wd<|ja w k) (λc=>qV A N (ja w k) c b) i%p:=by
 obtain⟨h,s⟩:=WL Y;have q:=(O _ h).arr k U s i C;show _=app (T k) (wd<|ja w k) ((A<|(l0 A N<|ja w k).getD b 0).v (ja w k)) i%p;rw[q];congr 1;cases hx:(A<|(l0 A N<|ja w k).getD b 0).has (jh w k)with
 | true=>
  have n:(l0 A N<|ja w k).getD b 0∈l0 A N (jh w k):=MR.mpr ⟨Mg.mpr h,by simpa using hx⟩;obtain⟨l,I,r⟩:=Rx n;have d:(l0 A N<|jh w k).getD l 0=(l0 A N<|ja w k).getD b 0:=by rw[<- r,Mm,Mi I];rfl
  rw[zT (f:=λa=>(if (l0 A N<|jh w k).getD a 0=(l0 A N<|ja w k).getD b 0 then (1:Int)else 0)*qV A N (jh w k) i a) I λa e o=>by rw[UY λz=>o (dh (Vy A N _) e I<|z.trans d.symm)];simp]
  rw[UJ d,UJ rfl];unfold qV;rw[d];simp
 | false=>
  rw[UY ⋯];rw[zA (g:=λ_=>0) λa e=>by
   rw[UY λz=>by have:=(WL e).2;rw[z,hx]at this;cases this]
   simp]
  exact zV _
theorem pG(Z:Pr p)(O : ∀j,j<N->ri p w wd T m (A j))(cnt : ∀r,r<=m->(l0 A N r).length=wd r)(C : ∀r,r<=m->XT p (wd r) (qV A N r) (g r))(J:k<m){i j:Nat}(S:i<wd (jh w k))(z:j<wd (ja w k))(U:0<=T k i j/\T k i j<p) :
 T k i j=qb p w (i6<|qf A N) (λr=>qV A N r) g (t9 w<|qf A N) k i j:=by
 have d : ∀j,j<N->1<=(A j).n:=λj z=>(O j z).n1;have I:ja w k<=m:=by unfold ja;split<;>omega
 have Y:jh w k<=m:=by unfold jh;split<;>omega
 unfold qb;have l:i6 (qf A N) (ja w k)=wd (ja w k):=by unfold i6;rw[yt d,cnt _ I]
 have o:i6 (qf A N) (jh w k)=wd (jh w k):=by unfold i6;rw[yt d,cnt _ Y]
 rw[l,o];have e:zm (λb=>g (ja w k) b j*(zm (λa=>t9 w (qf A N) k a b*qV A N (jh w k) i a) (wd<|jh w k)%p)) (wd<|ja w k)%p
  = zm (λb=>g (ja w k) b j*app (T k) (wd<|ja w k) (λc=>qV A N (ja w k) c b) i) (wd<|ja w k)%p:=zS λb s=>by
  have:=oG (T:=T) (k:=k) O J S (b:=b) (by rw[cnt _ I];exact s);rw[cnt _ Y]at this;have f:zm (λa=>t9 w (qf A N) k a b*qV A N (jh w k) i a) (wd<|jh w k)=zm (λa=>(if (l0 A N<|jh w k).getD a 0=(l0 A N<|ja w k).getD b 0 then (1:Int)else 0)*qV A N (jh w k) i a) (wd<|jh w k):=zA λa _=>by unfold t9;rw[yt d,yt d]
  rw[f,this,w9]
 have h:zm (λb=>g (ja w k) b j*app (T k) (wd<|ja w k) (λc=>qV A N (ja w k) c b) i) (wd<|ja w k)=app (T k) (wd<|ja w k) (λc=>zm (λb=>qV A N (ja w k) c b*g (ja w k) b j)<|wd<|ja w k) i:=by rw[<- vF];congr 1;funext c;exact xn ..
 rw[show(zm (λb=>g (ja w k) b j*(zm (λa=>t9 w (qf A N) k a b*(λr=>qV A N r) (jh w k) i a) (wd<|jh w k)%p)) (wd<|ja w k)%p)=_ from e,h,
  qG (u:=qg j) (λc t=>by rw[C _ I c j t z];unfold l8 qg;simp only[eq_comm]) i,Zs (T k) z]
 exact(NJ U.1 U.2).symm
end
section
variable{p:Int}{ns:List Int}
def qO(h w:Nat)(f:UV):List (List D):=(Me h).map λi=>zH w<|f i
@[simp] theorem Cn(h w f):(qO h w f).length=h:=by simp[qO]
theorem ZN(f)(C:i<(qO h w f).length):(qO h w f)[i]=zH w (f i):=by simp[qO]
theorem gT(f:UV)(C:i<h)(z:j<w)(x:Int):(qO h w f).set i ((zH w<|f i).set j (.int x))=qO h w λa b=>if a=i/\b=j then x else f a b:=by
 rw[Ky z (f i) (λb=>if b=j then x else f i b) x ⋯ (λb _ I=>by simp[I])];apply NX;intro a;rw[Oi];by_cases g:a<h
 ·by_cases e:i=a
  ·subst e
   simp[qO,g]
  ·simp[qO,g,e,MV e]
 ·have k:(qO h w f)[a]? = eF:=by simp[qO];omega
  have l : ∀d,(qO h w d)[a]? = eF:=λd=>by simp[qO];omega
  rw[k,l,UY ⋯]
theorem gU(f:UV)(C:i<h)(v:Vc):(qO h w f).set i (zH w v)=qO h w λa b=>if a=i then v b else f a b:=by
 apply NX;intro a;rw[Oi];by_cases g:a<h
 ·by_cases e:i=a
  ·subst e
   simp[qO,g]
  ·simp[qO,g,e]
   refine xW λb _=>?_;rw[UY λz=>e z.symm]
 ·have j:(qO h w f)[a]? = eF:=by simp[qO];omega
  have k : ∀d,(qO h w d)[a]? = eF:=λd=>by simp[qO];omega
  rw[j,k,UY ⋯]
end
noncomputable def CM:CO D:=qh<|jV xE<|zb (zc 2)<|zb (zy j3 (zc 3)<|zy xJ (zu<|.int 20)<|zc 0)<|zb (eL (zh 4)<|zu<|.int 0)<|zb (zc 1) zI
def br:=jy 3<|qh<|zK (XF<|eL (zh 2)<|zu<|.int 1) (.tp [0,1]) 2 [0,1,2] jb CM
noncomputable def iG:=qv<|zD qu<|zb (zc 2)<|zb (qh<|zK (zN<|zh 3) (.nm 0) 1 [] jb (eL (zh 0)<|zu<|.int 0))<|zb (qh<|zK (zN<|zh 3) (.nm 0) 1 [] jb (eL (zh 0)<|zu<|.int 1)) zI
def yc:=jr 4<|zJ br iG
noncomputable def Pa:=jy 5<|qh<|zK (z7<|zc 3) (.nm 0) 1 [0,2,4] jb (zy qw (zy vz (zD z9<|zb (zc 1)<|zb (zy j3 (zy j3 (zc 2)<|zu<|.int 1)<|zc 0) zI)<|zu<|.int 4)<|zy j3 (zc 3)<|zu<|.int 1)
def TX:=wz 6<|kG zI
noncomputable def TY:=ZA (z7 (zy JI (zc 3) (zu (.int 1)))) (.nm 7) (zJ (jy 8 (zD z9 (zb (zc 0) (zb (zy j3 (zy j3 (zc 2) (zu (.int 8))) (zc 7)) zI)))) (zJ (jy 9 (eL (zh 5) (zy j3 (zc 7) (zy qw (zc 8) (zu (.int 2)))))) (zJ (jy 10 (eL (zh 5) (zy JI (zy j3 (zc 7) (zu (.int 1))) (zy qw (zc 8) (zu (.int 2)))))) (zJ (Wb 11 (Jc (z7 (zc 10)) (.nm 0) 1 [9] (zK (z7 (zc 1)) (.nm 0) 1 [] jb (zu (.int 0))))) (zJ (ZA (z7 (zy j3 (zy qw (zy vz (zc 8) (zu (.int 2))) (zy j3 (zy xJ (zc 9) (zc 10)) (zu (.int 1)))) (zu (.int 1)))) (.nm 12) (zJ (jy 13 (zD z9 (zb (zc 0) (zb (zy j3 (zy j3 (zy j3 (zc 2) (zu (.int 14))) (zy xJ (zu (.int 12)) (zc 7))) (zc 12)) zI)))) (kr (sB (zy vu (zy xJ (zc 9) (zc 10)) (zu (.int 0)))) (cJ 11 (zy qw (zc 13) (zc 10)) (zy qw (zy vz (zc 13) (zu (.int 8))) (zc 9)) (zy qw (zy vz (zc 13) (zu (.int 64))) (zc 1))) j9))) (zJ (kr (Wf (sB (zy hG (zy qw (zy vz (zc 8) (zu (.int 256))) (zu (.int 3))) (zu (.int 0)))) (sB (zy vu (zc 10) (zu (.int 1))))) (fH 11 (zy JI (zc 10) (zu (.int 1))) (zK (zN (cI 11 (zu (.int 0)))) (.nm 0) 1 [1,8] jb (zy qw (zy xJ (zy vz (zc 2) (zu (.int 1024))) (zc 0)) (zc 1)))) j9) (fJ 11 (xu 6 (qW (zb (YR (zu (.str "rl")) (zy qw (zc 8) (zu (.int 2)))) (zb (qW (zb (zc 10) (zb (zc 9) (zb (zM (jm (zK (zN (zh 11)) (.nm 0) 1 [] jb (zM (zh 0))))) zI)))) zI)))))))))))
def TZ:=qv<|qW<|zb (zc 1)<|zb (zM<|zh 5)<|zb (zM<|zh 6) zI
def qH:=jr 14<|zJ Pa<|zJ TX<|zJ TY TZ
def sg:=jy 1<|zD z9<|zb (zc 0)<|zb (zu<|.int 0) zI
noncomputable def sf:=jy 2<|eL (jm<|kG<|zb (zu<|.int 2)<|zb (zu<|.int 3)<|zb (zu<|.int 5)<|zb (zu<|.int 7) zI)<|zy qw (zD z9<|zb (zc 0)<|zb (zu<|.int 1) zI)<|zu<|.int 4
noncomputable def se:=jy 3<|zD qH<|zb (zc 0)<|zb (zc 2)<|zb (zu<|.int 1)<|zb (zy j3 (zu<|.int 1)<|zy qw (zc 1)<|zu<|.int 5)<|zb (zu<|.int 3) zI
noncomputable def sd:=jy 4<|zD qH<|zb (zc 0)<|zb (zc 2)<|zb (zu<|.int 80)<|zb (zy j3 (zu<|.int 1)<|zy qw (zy vz (zc 1)<|zu<|.int 5)<|zu<|.int 5)<|zb (zu<|.int 3) zI
noncomputable def eD:=kr (sB<|zy hG (zy qw (zy vz (zc 1)<|zu<|.int 25)<|zu<|.int 2)<|zu<|.int 0) (jy 4<|zD yc<|zb (zc 0)<|zb (zu<|.int 80)<|zb (zc 3) zI) j9
def rZ:=jy 5<|qh<|kG<|zb (zD y9<|zb (zc 3) zI)<|zb (zD y9<|zb (zc 4) zI) zI
noncomputable def mz:=kr (vi (sB<|zy Xo (zD qx<|zb (zc 3)<|zb (eL (zh 5)<|zu<|.int 0) zI)<|zu<|.bl eA)<|sB<|zy Xo (zD qx<|zb (zc 4)<|zb (eL (zh 5)<|zu<|.int 1) zI)<|zu<|.bl eA) (qv<|zu<|.bl eK) j9
noncomputable def YB:=kr (sB<|zy i7 (zD qx<|zb (zc 6)<|zb (zc 7) zI)<|zD jP<|zb (zc 6)<|zb (zc 7) zI) (qv<|zu<|.bl eK) j9
noncomputable def my:=ZA (zN<|zW<|qh<|kG<|zb (qW<|zb (zc 3)<|zb (eL (zh 5)<|zu<|.int 1) zI)<|zb (qW<|zb (zc 4)<|zb (eL (zh 5)<|zu<|.int 0) zI) zI) (.tp [6,7]) YB
noncomputable def rY:=jy 8 (cK (zu (.str "")) (jm (zK (zN (zW (eL (zh 3) (zu (.int 2))))) (.nm 0) 1 [] jb (eL (zh 0) (zu (.int 0))))))
noncomputable def eG:=jy 9<|zD vN<|zb (eL (zh 3)<|zu<|.int 0)<|zb (zc 8)<|zb (eL (zW<|eL (zh 5)<|zu<|.int 0)<|zu<|.int 0) zI
noncomputable def eE:=qv<|zy hG (eL (zW<|zD y9<|zb (zc 9) zI)<|zu<|.int 0)<|eL (zW<|eL (zh 5)<|zu<|.int 0)<|zu<|.int 0
noncomputable def Xz:=jr 10<|zJ sg<|zJ sf<|zJ se<|zJ sd<|zJ eD<|zJ rZ<|zJ mz<|zJ my<|zJ rY<|zJ eG eE
def pw:=jy 8<|zD z9<|zb (zc 0)<|zb (zy j3 (zy j3 (zc 2)<|zu<|.int 8)<|zc 7) zI
def pv:=jy 9<|eL (zh 5)<|zy j3 (zc 7)<|zy qw (zc 8)<|zu<|.int 2
noncomputable def pq:=jy 10<|eL (zh 5)<|zy JI (zy j3 (zc 7)<|zu<|.int 1)<|zy qw (zc 8)<|zu<|.int 2
noncomputable def pk:=Wb 11<|Jc (z7<|zc 10) (.nm 0) 1 [9] (zK (z7<|zc 1) (.nm 0) 1 [] jb (zu<|.int 0))
noncomputable def Ae:=ZA (z7<|zy j3 (zy qw (zy vz (zc 8)<|zu<|.int 2)<|zy j3 (zy xJ (zc 9)<|zc 10)<|zu<|.int 1)<|zu<|.int 1) (.nm 12)<|zJ (jy 13<|zD z9<|zb (zc 0)<|zb (zy j3 (zy j3 (zy j3 (zc 2)<|zu<|.int 14)<|zy xJ (zu<|.int 12)<|zc 7)<|zc 12) zI)<|kr (sB<|zy vu (zy xJ (zc 9)<|zc 10)<|zu<|.int 0) (cJ 11 (zy qw (zc 13)<|zc 10) (zy qw (zy vz (zc 13)<|zu<|.int 8)<|zc 9)<|zy qw (zy vz (zc 13)<|zu<|.int 64)<|zc 1) j9
noncomputable def lI:=kr (Wf (sB<|zy hG (zy qw (zy vz (zc 8)<|zu<|.int 256)<|zu<|.int 3)<|zu<|.int 0)<|sB<|zy vu (zc 10)<|zu<|.int 1) (fH 11 (zy JI (zc 10)<|zu<|.int 1)<|zK (zN<|cI 11<|zu<|.int 0) (.nm 0) 1 [1,8] jb (zy qw (zy xJ (zy vz (zc 2)<|zu<|.int 1024)<|zc 0)<|zc 1)) j9
noncomputable def Ad:=fJ 11 (xu 6 (qW (zb (YR (zu (.str "rl")) (zy qw (zc 8) (zu (.int 2)))) (zb (qW (zb (zc 10) (zb (zc 9) (zb (zM (jm (zK (zN (zh 11)) (.nm 0) 1 [] jb (zM (zh 0))))) zI)))) zI))))
theorem Ek:qH=jr 14 (zJ Pa<|zJ TX<|zJ TY TZ):=rfl
noncomputable def pX:=(zJ (jy 13<|zD z9<|zb (zc 0)<|zb (zy j3 (zy j3 (zy j3 (zc 2)<|zu<|.int 14)<|zy xJ (zu<|.int 12)<|zc 7)<|zc 12) zI)<|kr (sB<|zy vu (zy xJ (zc 9)<|zc 10)<|zu<|.int 0) (cJ 11 (zy qw (zc 13)<|zc 10) (zy qw (zy vz (zc 13)<|zu<|.int 8)<|zc 9)<|zy qw (zy vz (zc 13)<|zu<|.int 64)<|zc 1) j9)
section
variable{p at_:Int}{ns:List Int}{m k:Nat}{wd:UX}
noncomputable def qk(ns:List Int)(at_ p:Int)(z I C J S:Cell)(k h w:Nat)(f:UV)(O U:Cell):Ctx:=
 [.val (kc ns),.val<|.int p,.val<|.int at_,z,I,C,J,.val<|.int k,S,.val<|.int w,.val<|.int h,.nest<|qO h w f,O,U]
theorem mU(a6:ns.length<=63)(hp:Pr p)(h0:0<=at_)(h1:at_<=1000){k h w s:Nat}(hk:k<=10)(hs:s<=100)(hh:h<=8)(hw:w<=8){f:UV}(hf : ∀i j,0<=f i j/\f i j<p)(I O C J S a3:Cell) :
 ∃Z x,(∀i j,0<=Z i j/\Z i j<p)/\pX (qk ns at_ p I O C J S k h w f (.val<|.int s) a3)=ej (.next<|qk ns at_ p I O C J S k h w Z (.val<|.int s)<|.val<|.int x):=by
 obtain⟨e,n,b1⟩:=ZV a6 (k:=at_+14+12*(k:Int)+(s:Int)) ⋯ ⋯;generalize wJ ns (at_+14+12*(k:Int)+(s:Int))=z at e n b1;have m:=hp.pos;have x1:jy 13 (zD z9<|zb (zc 0)<|zb (zy j3 (zy j3 (zy j3 (zc 2)<|zu<|.int 14)<|zy xJ (zu<|.int 12)<|zc 7)<|zc 12) zI) (qk ns at_ p I O C J S k h w f (.val<|.int s) a3)=ej (.next<|qk ns at_ p I O C J S k h w f (.val<|.int s)<|.val<|.int z):=by have u:JM 12 (k:Int)=eA:=vE _ _ ⋯ ⋯;simp[qk,u,e]
 by_cases t:h=0\/w=0
 ·refine⟨f,z,hf,zo x1 ?_⟩
  have U:JM (w:Int) (h:Int)=eA:=Jk _ _ ⋯ ⋯;have Y : ¬((0:Int)<(w:Int)*(h:Int)):=by rcases t with rfl | rfl<;>simp
  simp[qk,U,Y]
 ·have h0:0<h:=by omega
  have E:0<w:=by omega
  obtain⟨i,o,g⟩ : ∃i:Nat,z%(h:Int)=i/\i<h:=by obtain⟨a,d⟩:=Of (Na z<|show(h:Int)≠0 by omega);have:=MN z (show(0:Int)<h by omega);exact⟨a,d,by omega⟩
  obtain⟨j,r,l⟩ : ∃j:Nat,z/8%(w:Int)=j/\j<w:=by obtain⟨a,d⟩:=Of (Na (z/8)<|show(w:Int)≠0 by omega);have:=MN (z/8) (show(0:Int)<w by omega);exact⟨a,d,by omega⟩
  refine⟨λa b=>if a=i/\b=j then z/64%p else f a b,z,λa b=>?_,zo x1 ?_⟩
  ·dsimp only
   split
   ·exact⟨Na _ ⋯,MN _ m⟩
   ·exact hf a b
  ·have U:JM (w:Int) (h:Int)=eA:=Jk _ _ ⋯ ⋯
   have Y:(0:Int)<(w:Int)*(h:Int):=Int.mul_pos ⋯ ⋯;have F:(0:Int)<(h:Int):=by omega
   have G:(0:Int)<(w:Int):=by omega
   have y:KW 11 (zy qw (zc 13)<|zc 10) (qk ns at_ p I O C J S k h w f (.val<|.int s)<|.val<|.int z)=ej (qO h w f,i,zH w<|f i):=by unfold KW;simp[qk,k9,h0,o,g,ZN]
   have A:cJ 11 (zy qw (zc 13)<|zc 10) (zy qw (zy vz (zc 13)<|zu<|.int 8)<|zc 9) (zy qw (zy vz (zc 13)<|zu<|.int 64)<|zc 1) (qk ns at_ p I O C J S k h w f (.val<|.int s)<|.val<|.int z)=ej (.next<|qk ns at_ p I O C J S k h w (λa b=>if a=i/\b=j then z/64%p else f a b) (.val<|.int s)<|.val<|.int z):=by unfold cJ;rw[y];simp[qk,m,E,r,l];rw[gT f g l]
   have B:sB (zy vu (zy xJ (zc 9)<|zc 10)<|zu<|.int 0) (qk ns at_ p I O C J S k h w f (.val<|.int s)<|.val<|.int z)=ej eA:=by simp[qk,U,Y]
   rw[kL,B];exact A
noncomputable def xk(ns:List Int)(at_ p:Int)(m:Nat)(wd:UX)(L:List D)(O S Y C J z I:Cell):Ctx:=
 [.val (kc ns),.val<|.int p,.val<|.int at_,.val<|.int ((m+1:Nat):Int),.val<|.int 3,.val<|.lst<|zH (m+1) λk=>(wd k:Int),.own L,O,S,Y,C,J,z,I]
def KF(ns:List Int)(at_:Int)(k:Nat):Bool:=decide<|wJ ns (at_+8+(k:Int))%2=1
theorem Ai(b6:ns.length<=63)(hp:Pr p)(h0:0<=at_)(S:at_<=1000)(hm:m<=5)(hk:k<m)(b7 : ∀k,wd k<=3){L:List D}(hL:L.length<100){c8 Z J C O U:Cell}(n8:qm c8=eK)(n9:qm Z=eK)(d7:qm J=eK)(bm:qm C=eK)(b8:qm O=eK)(b9:qm U=eK) :
 ∃(f:UV) (d8 d9 be bf ar an:Cell),(∀i j,0<=f i j/\f i j<p)/\qm d8=eK/\qm d9=eK/\qm be=eK/\qm bf=eK/\qm ar=eK/\qm an=eK/\
  (zJ pw<|zJ pv<|zJ pq<|zJ pk<|zJ Ae<|zJ lI Ad) (xk ns at_ p m wd L (.val<|.int k) c8 Z J C O U)=ej (.next<|xk ns at_ p m wd (L++[qX (KF ns at_) wd (λ_=>f) k]) (.val<|.int k) d8 d9 be bf ar an):=by
 have hl:=ju;have W:=hp.pos;have two:=hp.two;obtain⟨M,a1,b1⟩:=ZV b6 (k:=at_+8+(k:Int)) ⋯ ⋯;have K:KF ns at_ k=decide (wJ ns (at_+8+(k:Int))%2=1):=rfl;generalize wJ ns (at_+8+(k:Int))=c at M a1 b1 K;have q:c%2=0\/c%2=1:=by omega
 have hb : ∃b:Nat,(k:Int)+c%2=b/\b=ja (KF ns at_) k/\b<m+1:=by
  refine⟨ja (KF ns at_) k,?_,rfl,?_⟩
  ·unfold ja;rw[K];rcases q with q | q<;>simp[q]
  ·unfold ja;split<;>omega
 have he : ∃b:Nat,(k:Int)+1 - c%2=b/\b=jh (KF ns at_) k/\b<m+1:=by
  refine⟨jh (KF ns at_) k,?_,rfl,?_⟩
  ·unfold jh;rw[K];rcases q with q | q<;>simp[q]
  ·unfold jh;split<;>omega
 obtain⟨g,bx,c0,c1⟩:=hb;obtain⟨I,c2,c3,c4⟩:=he;have c5:=b7 g;have c6:=b7 I;have x1:pw (xk ns at_ p m wd L (.val<|.int k) c8 Z J C O U)=ej (.next<|xk ns at_ p m wd L (.val<|.int k) (.val<|.int c) Z J C O U):=by simp[pw,xk,M]
 have x2:pv (xk ns at_ p m wd L (.val<|.int k) (.val<|.int c) Z J C O U)=ej (.next<|xk ns at_ p m wd L (.val<|.int k) (.val<|.int c) (.val<|.int (wd g:Nat)) J C O U):=by simp[pv,xk,bx,c1]
 have x3:pq (xk ns at_ p m wd L (.val<|.int k) (.val<|.int c) (.val<|.int (wd g:Nat)) J C O U)=ej (.next<|xk ns at_ p m wd L (.val<|.int k) (.val<|.int c) (.val<|.int (wd g:Nat)) (.val<|.int (wd I:Nat)) C O U):=by simp[pq,xk,c2,c4]
 have x4:pk (xk ns at_ p m wd L (.val<|.int k) (.val<|.int c) (.val<|.int (wd g:Nat)) (.val<|.int (wd I:Nat)) C O U)=ej (.next<|xk ns at_ p m wd L (.val<|.int k) (.val<|.int c) (.val<|.int (wd g:Nat)) (.val<|.int (wd I:Nat)) (.nest<|qO (wd I) (wd g) λ_ _=>0) O U):=by
  have N:wd I<=lim:=by omega
  have B:wd g<=lim:=by omega
  have G:vB (.nm 0) (zK (z7<|zc 1) (.nm 0) 1 [] jb (zu<|.int 0)) [.no,.val (.int (wd g:Nat))] ((Me<|wd I).map λ(i:Nat)=>D.int i)=ej (qO (wd I) (wd g) λ_ _=>0):=by
   unfold qO;refine Xp _ λi hi=>⟨_,rfl,?_⟩;have e0:zP (.nm 0) jb (zu<|.int 0) [.no] ((Me<|wd g).map λ(i:Nat)=>D.int i)=ej (zH (wd g) λ_=>0):=by unfold zH;exact zw _ _ λi hi=>zx rfl rfl rfl
   simp[zZ,Xc B,jW,B];exact e0
  have E:(xk ns at_ p m wd L (.val<|.int k) (.val<|.int c) (.val<|.int (wd g:Nat)) (.val<|.int (wd I:Nat)) C O U).any qm=eK:=by have v : ∀d,qm (.val d)=eK:=λ_=>rfl;have o : ∀d,qm (.own d)=eK:=λ_=>rfl;simp only[xk,PN,List.any_nil,v,o,bm,b8,b9];rfl
  unfold pk Wb;have cd:Jc (z7<|zc 10) (.nm 0) 1 [9] (zK (z7<|zc 1) (.nm 0) 1 [] jb (zu<|.int 0)) (xk ns at_ p m wd L (.val<|.int k) (.val<|.int c) (.val<|.int (wd g:Nat)) (.val<|.int (wd I:Nat)) C O U)=ej (qO (wd I) (wd g) λ_ _=>0):=by unfold Jc;simp[xk,Xc N,jW,N,zZ];exact G
  rw[cd,Mj,UJ E];rfl
 obtain⟨E,ce,dd⟩ : ∃E:Nat,c/2%((wd g:Int)*(wd I:Int)+1)+1=(E:Int)/\E<=20:=by
  have di:(wd g:Int)*(wd I:Int)<=9:=by
   have:=Nat.mul_le_mul c5 c6;have e:((wd g*wd I:Nat):Int)=(wd g:Int)*(wd I:Int):=by simp
   omega
  have bl:(0:Int)<=(wd g:Int)*(wd I:Int):=Int.mul_nonneg ⋯ ⋯;have g1:=Na (c/2) (show(wd g:Int)*(wd I:Int)+1≠0 by omega);have g2:=MN (c/2) (show(0:Int)<(wd g:Int)*(wd I:Int)+1 by omega);refine⟨(c/2%((wd g:Int)*(wd I:Int)+1)+1).toNat,?_,?_⟩
  ·rw[PD ⋯]
  ·omega
 have bl:(0:Int)<(wd g:Int)*(wd I:Int)+1:=by have:(0:Int)<=(wd g:Int)*(wd I:Int):=Int.mul_nonneg ⋯ ⋯;omega
 let t:Cell:= .val (.int ((m+1:Nat):Int));let u:Cell:= .val (.int 3);let y:Cell:= .val (.lst<|zH (m+1) λk=>(wd k:Int));let A:Cell:= .own L;let Y:Cell:= .val (.int c);obtain⟨γ',x5,f,n,r,H,ci,cj,rfl⟩:=vV (T:= .nm 12) (F:=pX) (f:=zy j3 (zy qw (zy vz (zc 8)<|zu<|.int 2)<|zy j3 (zy xJ (zc 9)<|zc 10)<|zu<|.int 1)<|zu<|.int 1)
  (λ_ γ=>∃f O U,(∀i j,0<=f i j/\f i j<p)/\qm O=eK/\qm U=eK/\γ=qk ns at_ p t u y A Y k (wd I) (wd g) f O U) E ⋯
  (γ:=qk ns at_ p t u y A Y k (wd I) (wd g) (λ_ _=>0) O U) (by
    have m2:JM (wd g:Int) (wd I:Int)=eA:=Jk _ _ ⋯ ⋯;simp[qk,Y,m2,bl,ce]) ⟨_,O,U,λ_ _=>⟨Int.le_refl _,W⟩,b8,b9,rfl⟩ λs hs γ R=>by
    obtain⟨f,ar,an,H,_,_,rfl⟩:=R;obtain⟨l,x,P,e⟩:=mU b6 hp h0 S (k:=k) (h:=wd I) (w:=wd g) (s:=s) ⋯ ⋯ ⋯ ⋯ H t u y A Y an;exact⟨_,_,rfl,e,l,_,_,P,rfl,rfl,rfl⟩
 obtain⟨l,P,x6⟩ : ∃l:UV,(∀i j,0<=l i j/\l i j<p)/\lI (qk ns at_ p t u y A Y k (wd I) (wd g) f n r)=ej (.next<|qk ns at_ p t u y A Y k (wd I) (wd g) l n r):=by
  by_cases Q:c/256%3=0/\1<wd I
  ·refine⟨λa b=>if a=wd I - 1 then (c/1024*f 0 b)%p else f a b,λi j=>?_,?_⟩
   ·dsimp only
    split
    ·exact⟨Na _ ⋯,MN _ W⟩
    ·exact H i j
   ·have X:Wf (sB<|zy hG (zy qw (zy vz (zc 8)<|zu<|.int 256)<|zu<|.int 3)<|zu<|.int 0) (sB<|zy vu (zc 10)<|zu<|.int 1) (qk ns at_ p t u y A Y k (wd I) (wd g) f n r)=ej eA:=by
     have h3:(1:Int)<(wd I:Int):=by have:=Q.2;omega
     simp[qk,Y,Q.1,h3]
    have M:(wd I:Int) - 1=((wd I - 1:Nat):Int):=by omega
    have S:wd I - 1<wd I:=by omega
    have h0:0<wd I:=by omega
    have r1:KW 11 (zy JI (zc 10)<|zu<|.int 1) (qk ns at_ p t u y A Y k (wd I) (wd g) f n r)=ej (qO (wd I) (wd g) f,wd I - 1,zH (wd g)<|f<|wd I - 1):=by unfold KW;simp[qk,k9,M,S,ZN]
    have r0:cI 11 (zu<|.int 0) (qk ns at_ p t u y A Y k (wd I) (wd g) f n r)=ej (.L,zH (wd g)<|f 0):=by
     unfold cI KW;have i0:k6 (wd I) 0=ej 0:=by have:=xj (wd I) 0;rw[UJ h0]at this;exact this
     simp[qk,k9,i0,h0,ZN]
    have G:zP (.nm 0) jb (zy qw (zy xJ (zy vz (zc 2)<|zu<|.int 1024)<|zc 0)<|zc 1) [.no,.val<|.int p,.val (.int c)] (zH (wd g)<|f 0)=ej (zH (wd g) λb=>(c/1024*f 0 b)%p):=by unfold zH;refine zw _ _ λb hb=>zx rfl rfl ?_;have q1:=H 0 b;have q2:=hp.le;have m3:JM (c/1024) (f 0 b)=eA:=Jk _ _ ⋯ ⋯;simp[m3,W]
    have B:wd g<=lim:=by omega
    have es:zK (zN<|cI 11<|zu<|.int 0) (.nm 0) 1 [1,8] jb (zy qw (zy xJ (zy vz (zc 2)<|zu<|.int 1024)<|zc 0)<|zc 1) (qk ns at_ p t u y A Y k (wd I) (wd g) f n r)=ej (zH (wd g) λb=>(c/1024*f 0 b)%p):=by rw[qe,qA,r0];simp only[Mr,Mj,JE,B,if_true];exact G
    unfold lI;rw[kL,X];show fH 11 _ _ _=_;unfold fH;rw[es,r1];show ej (Fl.next<|(qk ns at_ p t u y A Y k (wd I) (wd g) f n r).set 11 (.nest<|(qO (wd I) (wd g) f).set (wd I - 1) (zH (wd g) λb=>(c/1024*f 0 b)%p)))=_;rw[gU f S];rfl
  ·refine⟨f,H,?_⟩
   have X:Wf (sB<|zy hG (zy qw (zy vz (zc 8)<|zu<|.int 256)<|zu<|.int 3)<|zu<|.int 0) (sB<|zy vu (zc 10)<|zu<|.int 1) (qk ns at_ p t u y A Y k (wd I) (wd g) f n r)=ej eK:=by
    by_cases S:c/256%3=0
    ·have : ¬(1:Int)<(wd I:Int):=λz=>Q ⟨S,by omega⟩
     simp[qk,Y,S];omega
    ·simp[qk,Y,S]
   unfold lI;rw[kL,X];rfl
 refine⟨l,.val (.int c),.val (.int (wd g:Nat)),.val (.int (wd I:Nat)),.val (.lst ((qO (wd I) (wd g) l).map D.lst)),n,r,P,rfl,rfl,rfl,rfl,ci,cj,?_⟩;refine zo x1 (zo x2 (zo x3 (zo x4 (zo (show Ae _=_ from x5) (zo x6 ?_)))));have sx:YR (zu (.str "rl")) (zy qw (zc 8) (zu (.int 2))) (xk ns at_ p m wd L (.val (.int k)) (.val (.int c)) (.val (.int (wd g:Nat))) (.val (.int (wd I:Nat))) (.val (.lst ((qO (wd I) (wd g) l).map D.lst))) n r)=ej (.str (qT (il (KF ns at_ k)))):=by
  have ev:zy qw (zc 8) (zu<|.int 2) (xk ns at_ p m wd L (.val<|.int k) (.val<|.int c) (.val<|.int (wd g:Nat)) (.val<|.int (wd I:Nat)) (.val<|.lst<|(qO (wd I) (wd g) l).map D.lst) n r)=ej (.int<|c%2):=by simp[xk]
  rw[pz,ev,K];rcases q with q | q
  ·rw[q];rfl
  ·rw[q];rfl
 have N:wd I<=lim:=by omega
 have B:wd g<=lim:=by omega
 have G:zP (.nm 0) jb (zM<|zh 0) [.no] ((qO (wd I) (wd g) l).map D.lst)=ej (jd (wd I) (wd g) l):=by unfold qO jd;rw[Nb];refine zw _ _ λi hi=>zx rfl rfl ?_;simp[B]
 have cz:L.length<lim:=by omega
 have eh:l4 (KF ns at_) wd k=wd I:=by rw[yz,c3]
 have ew:l5 (KF ns at_) wd k=wd g:=by rw[yk,c0]
 unfold Ad fJ;show(xu 6 _ (xk ns at_ p m wd L (.val (.int k)) (.val (.int c)) (.val (.int (wd g:Nat))) (.val (.int (wd I:Nat))) (.val (.lst ((qO (wd I) (wd g) l).map D.lst))) n r))=_;have et:qW (zb (YR (zu (.str "rl")) (zy qw (zc 8) (zu (.int 2)))) (zb (qW (zb (zc 10) (zb (zc 9) (zb (zM (jm (zK (zN (zh 11)) (.nm 0) 1 [] jb (zM (zh 0))))) zI)))) zI)) (xk ns at_ p m wd L (.val (.int k)) (.val (.int c)) (.val (.int (wd g:Nat))) (.val (.int (wd I:Nat))) (.val (.lst ((qO (wd I) (wd g) l).map D.lst))) n r)=ej (qX (KF ns at_) wd (λ_=>l) k):=by rw[vG,jO,sx];simp[xk,zZ,N,G];unfold qX;rw[eh,ew];rfl
 unfold xu;rw[et];simp[xk,cz]
theorem VW(C:ns.length<=63)(J:Pr p)(S:0<=at_)(Z:at_<=1000)(hm:m<=5) : ∃(wd:UX) (T:UW),(∀k,wd k<=3)/\(∀k i j,0<=T k i j/\T k i j<p)/\qH [kc ns,.int p,.int at_,.int ((m+1:Nat):Int),.int 3]=ej (.val<|jA p m (KF ns at_) wd T):=by
 have hl:=ju;have p0:=J.pos;have U : ∃wd:UX,(∀k,wd k<=3)/\∀k:Nat,wJ ns (at_+1+(k:Int))/4%4=((wd k:Nat):Int):=by
  refine⟨λk=>(wJ ns (at_+1+(k:Int))/4%4).toNat,λk=>?_,λk=>?_⟩
  ·show(wJ ns (at_+1+(k:Int))/4%4).toNat<=3;omega
  ·rw[PD ⋯]
 obtain⟨wd,U,y⟩:=U;have Y:m+1<=lim:=by omega
 have Q:zP (.nm 0) jb (zy qw (zy vz (zD z9<|zb (zc 1)<|zb (zy j3 (zy j3 (zc 2)<|zu<|.int 1)<|zc 0) zI)<|zu<|.int 4)<|zy j3 (zc 3)<|zu<|.int 1) [.no,.val<|kc ns,.val<|.int at_,.val (.int 3)] (zH (m+1) λi=>(i:Int))=ej (zH (m+1) λk=>((wd k:Nat):Int)):=by unfold zH;refine zw _ _ λk z=>zx rfl rfl ?_;have z:=Mg.mp z;have e:=(ZV C (k:=at_+1+(k:Int)) ⋯ ⋯).1;have P:=y k;simp[e,P]
 have x2:Pa [.val (kc ns),.val<|.int p,.val<|.int at_,.val<|.int ((m+1:Nat):Int),.val<|.int 3,.no,.no,.no,.no,.no,.no,.no,.no,.no]=ej (.next [.val (kc ns),.val<|.int p,.val<|.int at_,.val<|.int ((m+1:Nat):Int),.val<|.int 3,.val<|.lst<|zH (m+1) λk=>(wd k:Int),.no,.no,.no,.no,.no,.no,.no,.no]):=by have X:=Xc Y;unfold Pa;rw[ve,vH,qe,yC];simp only[jZ,Mk,Mn,zG,Mj,j6,X,if_true,NY,jW,JE,Y];rw[show zZ 1 [0,2,4] [Cell.val (kc ns),.val<|.int p,.val<|.int at_,.val<|.int ((m+1:Nat):Int),.val<|.int 3,.no,.no,.no,.no,.no,.no,.no,.no,.no]=[.no,.val<|kc ns,.val<|.int at_,.val (.int 3)]from rfl,Q];rfl
 have x3:TX [.val (kc ns),.val<|.int p,.val<|.int at_,.val<|.int ((m+1:Nat):Int),.val<|.int 3,.val<|.lst<|zH (m+1) λk=>(wd k:Int),.no,.no,.no,.no,.no,.no,.no,.no]=ej (.next<|xk ns at_ p m wd [] .no .no .no .no .no .no .no):=rfl;obtain⟨γ',x4,T,h,d,g,a,b,I,O,l,_,_,_,_,_,_,rfl⟩:=vV (T:= .nm 7) (F:=zJ pw<|zJ pv<|zJ pq<|zJ pk<|zJ Ae<|zJ lI Ad) (f:=zy JI (zc 3)<|zu<|.int 1)
  (λs γ=>∃(T:UW) (h d g a b I O:Cell),(∀k i j,0<=T k i j/\T k i j<p)/\qm d=eK/\qm g=eK/\qm a=eK/\qm b=eK/\qm I=eK/\qm O=eK/\γ=xk ns at_ p m wd (jN s (KF ns at_) wd T) h d g a b I O) m ⋯
  (γ:=xk ns at_ p m wd [] .no .no .no .no .no .no .no) (by
    have e:((m+1:Nat):Int) - 1=(m:Int):=by omega
    simp only[xk,xZ,jZ,q9,Mk,Mn,zG,Mj];show ej (D.int<|((m+1:Nat):Int) - 1)=_;rw[e]) ⟨λ_ _ _=>0,.no,.no,.no,.no,.no,.no,.no,λ_ _ _=>⟨Int.le_refl _,p0⟩,rfl,rfl,rfl,rfl,rfl,rfl,rfl⟩ λs W γ n=>by
    obtain⟨T,h,d,g,a,b,I,O,l,n8,n9,A,B,E,G,rfl⟩:=n;obtain⟨f,w,x,o,r,t,u,R,m8,m9,H,bl,K,M,e⟩:=Ai C J S Z hm W U (L:=jN s (KF ns at_) wd T) (by simp;omega) n8 n9 A B E G;refine⟨xk ns at_ p m wd (jN s (KF ns at_) wd T) (.val<|.int s) d g a b I O,xk ns at_ p m wd (jN s (KF ns at_) wd T++[qX (KF ns at_) wd (λ_=>f) s]) (.val<|.int s) w x o r t u,rfl,e,λk=>if k=s then f else T k,.val<|.int s,w,x,o,r,t,u,λk i j=>?_,m8,m9,H,bl,K,M,?_⟩
    ·dsimp only
     split
     ·exact R i j
     ·exact l k i j
    ·congr 1
     unfold jN;rw[Oc,NA];congr 1
     ·refine MA λk z=>?_
      have z:=Mg.mp z;unfold qX;dsimp only;rw[UY (show ¬k=s by omega)]
     ·simp[qX]
 refine⟨wd,T,U,l,?_⟩;rw[Ek];refine jg<|zo x2<|zo x3<|zo (show TY _=_ from x4) ?_;have c0:(jN m (KF ns at_) wd T).length<=lim:=by simp;omega
 have N:m<=lim:=by omega
 simp[TZ,xk,Y,N];rfl
end
structure t7(p:Int)(w:UK)(wd:UX)(T:UW)(m N:Nat)(A:Nat->gR):Prop where
 ok : ∀j,j<N->ri p w wd T m (A j)
 sp : ∀r,r<=m->∀v:Vc,∃t:Vc,∀i,i<wd r->v i%p=zm (λj=>if (A j).has r=eA then t j*(A j).v r i else 0) N%p
 inj : ∀r,r<=m->∀t:Vc,(∀i,i<wd r->zm (λj=>if (A j).has r=eA then t j*(A j).v r i else 0) N%p=0)->∀j,j<N->(A j).has r=eA->t j%p=0
 cnt : ∀r,r<=m->(l0 A N r).length=wd r
noncomputable def Lk(p:Int)(w:UK)(wd:UX)(T:UW)(k:Nat)(y z:Vc):Prop:=
 if w k=eA then ∀i,i<wd k->y i%p=app (T k) (wd<|k+1) z i%p else ∀i,i<wd (k+1)->z i%p=app (T k) (wd k) y i%p
noncomputable def Wk(p:Int)(w:UK)(wd:UX)(T:UW)(d:Nat):Nat->Vc->Vc->Prop
 | 0,u,z=>∀i,i<wd d->u i%p=z i%p
 | n+1,u,z=>∃y,Wk p w wd T d n u y/\Lk p w wd T (d+n) y z
section
variable{p:Int}{w:UK}{wd:UX}{T:UW}{m N N':Nat}{A A':Nat->gR}{d:Nat}
theorem Wz(C:a%p=b%p)(I:a'%p=b'%p):(a+c*a')%p=(b+c*b')%p:=by rw[Nn,C,Mt,I,<- Mt,<- Nn]
theorem EB(c:Int)(h:Lk p w wd T k y z)(h':Lk p w wd T k y' z'):Lk p w wd T k (λi=>y i+c*y' i) λi=>z i+c*z' i:=by
 unfold Lk at *;split
 ·next b=>
  rw[UJ b]at h h';intro i a;rw[Wz (h i a) (h' i a)];exact(W6 (λ_ _=>rfl) i).symm
 ·next b=>
  rw[UY b]at h h';intro i a;rw[Wz (h i a) (h' i a)];exact(W6 (λ_ _=>rfl) i).symm
theorem lS : ∀(n:Nat) {u z I O:Vc} (c:Int),Wk p w wd T d n u z->Wk p w wd T d n I O->Wk p w wd T d n (λi=>u i+c*I i) λi=>z i+c*O i
 | 0,u,z,I,O,c,h,h'=>λi a=>Wz (h i a)<|h' i a
 | n+1,u,z,I,O,c,⟨y,h1,h2⟩,⟨y',_u,_v⟩=>⟨_,lS n c h1 _u,EB c h2 _v⟩
theorem lW(k:Nat):Lk p w wd T k (λ_=>0) λ_=>0:=by unfold Lk;split<;>exact λi _=>by rw[bQ (λ_ _=>by simp) i];simp
theorem Xw : ∀n,Wk p w wd T d n (λ_=>0) λ_=>0
 | 0=>λ_ _=>rfl
 | n+1=>⟨_,Xw n,lW _⟩
theorem pH(h:Lk p w wd T k y z)(I : ∀i,i<wd (k+1)->z' i%p=z i%p):Lk p w wd T k y z':=by
 unfold Lk at *;split
 ·next b=>rw[UJ b]at h;intro i a;rw[h i a];exact(qG I i).symm
 ·next b=>rw[UY b]at h;intro i a;rw[I i a,h i a]
theorem Ez : ∀{n:Nat} {u z I:Vc},Wk p w wd T d n u z->(∀i,i<wd (d+n)->I i%p=z i%p)->Wk p w wd T d n u I
 | 0,u,z,I,h,hz=>λi a=>by rw[h i a,hz i a]
 | n+1,u,z,I,⟨y,h1,h2⟩,hz=>⟨y,h1,pH h2 hz⟩
theorem pF : ∀{n:Nat} {u I z:Vc},Wk p w wd T d n u z->(∀i,i<wd d->I i%p=u i%p)->Wk p w wd T d n I z
 | 0,u,I,z,h,hu=>λi a=>by rw[hu i a,h i a]
 | n+1,u,I,z,⟨y,h1,h2⟩,hu=>⟨y,pF h1 hu,h2⟩
theorem rR(t:Vc)(u z:Nat->Vc) : ∀K,(∀j,j<K->Wk p w wd T d n (u j) (z j))->Wk p w wd T d n (λi=>zm (λj=>t j*u j i) K) λi=>zm (λj=>t j*z j i) K
 | 0,_=>Xw n
 | K+1,h=>lS n (t K) (rR t u z K λj I=>h j ⋯)<|h K ⋯
theorem pj(O:ri p w wd T m b)(U:k<m)(C:b.has k=eA)(J:b.has (k+1)=eA):Lk p w wd T k (b.v k) (b.v<|k+1):=by
 unfold Lk;cases hw:w k with
 | true=>
  have z:ja w k=k+1:=by unfold ja;rw[hw];rfl
  have I:jh w k=k:=by unfold jh;rw[hw];rfl
  rw[UJ rfl];intro i a;have:=O.arr k U (by rw[z];exact J) i (by rw[I];exact a);rw[z,I,C,UJ rfl]at this;exact this.symm
 | false=>
  have z:ja w k=k:=by unfold ja;rw[hw];rfl
  have I:jh w k=k+1:=by unfold jh;rw[hw];rfl
  rw[UY ⋯];intro i a;have:=O.arr k U (by rw[z];exact C) i (by rw[I];exact a);rw[z,I,J,UJ rfl]at this;exact this.symm
theorem JO(z:ri p w wd T m b)(C:b.has d=eA) : ∀n,d+n<=m->b.has (d+n)=eA->Wk p w wd T d n (b.v d) (b.v<|d+n)
 | 0,_,_=>λ_ _=>rfl
 | n+1,hn,h2=>by have I:b.has (d+n)=eA:=m4.mpr (by have:=m4.mp C;have:=m4.mp h2;omega);exact⟨_,JO z C n ⋯ I,pj z ⋯ I h2⟩
theorem W2(I:ri p w wd T m b)(J:b.has d=eA)(C:w (b.s+b.n - 1)=eK) : ∀n,d+n<=m->b.has (d+n)=eK->Wk p w wd T d n (b.v d) λ_=>0
 | 0,_,h2=>by rw[Nat.add_zero,J]at h2;cases h2
 | n+1,hn,h2=>by
  cases h3:b.has (d+n)with
  | false=>exact⟨_,W2 I J C n ⋯ h3,lW _⟩
  | true=>
   refine⟨_,JO I J n ⋯ h3,?_⟩;have f:=m4.mp h3;have e : ¬(d+n+1<b.s+b.n):=λz=>by have:b.has (d+(n+1))=eA:=m4.mpr ⋯;rw[this]at h2;cases h2
   have O:b.s+b.n - 1=d+n:=by omega
   rw[O]at C;have U:ja w (d+n)=d+n:=by unfold ja;rw[C];rfl
   have Y:jh w (d+n)=d+n+1:=by unfold jh;rw[C];rfl
   have:=I.arr (d+n) ⋯;rw[U,Y]at this;unfold Lk;rw[C,UY ⋯];intro i a;rw[this h3 i a,show b.has (d+n+1)=eK from h2];simp
theorem Zy(D:t7 p w wd T m N A) : ∀n,d+n<=m->∀{u z:Vc},Wk p w wd T d n u z->∀{a b:Vc},(∀i,i<wd d->u i%p=zm (λj=>if (A j).has d=eA then a j*(A j).v d i else 0) N%p)->(∀i,i<wd (d+n)->z i%p=zm (λj=>if (A j).has (d+n)=eA then b j*(A j).v (d+n) i else 0) N%p)->
 ∀j,j<N->(A j).has d=eA->((A j).has (d+n)=eA->a j%p=b j%p)/\((A j).has (d+n)=eK->w ((A j).s+(A j).n - 1)=eA->a j%p=0):=by
 have x : ∀r,r<=m->∀{v:Vc} {a b:Vc},(∀i,i<wd r->v i%p=zm (λj=>if (A j).has r=eA then a j*(A j).v r i else 0) N%p)->(∀i,i<wd r->v i%p=zm (λj=>if (A j).has r=eA then b j*(A j).v r i else 0) N%p)->∀j,j<N->(A j).has r=eA->a j%p=b j%p:=λr X v a b F l j O U=>by
  have:=D.inj r X (λj=>a j - b j) (λi f=>by
   have e:zm (λj=>if (A j).has r=eA then (a j - b j)*(A j).v r i else 0) N=zm (λj=>if (A j).has r=eA then a j*(A j).v r i else 0) N+zm (λj=>(if (A j).has r=eA then b j*(A j).v r i else 0)*(-1)) N:=by
    rw[<- jI];refine zA λj _=>?_;split
    ·rw[Int.sub_mul];omega
    ·simp
   rw[e,xm,Nn,<- F i f,Mt,<- l i f,<- Mt,<- Nn,show v i+v i * -1=0 by omega];simp) j O U
  exact TF.mpr this
 have K : ∀k,k<m->∀(c:Vc) (r o:Nat),r=ja w k->o=jh w k->∀i,i<wd o->app (T k) (wd r) (sh p A N c r) i%p=zm (λj=>if (A j).has o=eA then (if (A j).has r=eA then c j else 0)*(A j).v o i else 0) N%p:=λk S c r o L M i f=>by
  rw[lM];refine zS λj O=>?_;cases hx:(A j).has r with
  | false=>simp
  | true=>
   have q:=(D.ok j O).arr k S (by rw[<- L];exact hx) i (by rw[<- M];exact f);rw[<- L,<- M]at q;simp only[if_true];rw[Mt,q,<- Mt];cases hy:(A j).has o<;>simp
 intro n
 induction n with
 | zero=>
  intro W u z B a b G t j O U;refine⟨λ_=>x d ⋯ G (λi f=>by rw[B i f];exact t i f) j O U,λh=>?_⟩;rw[Nat.add_zero,U]at h;cases h
 | succ n Z=>
  intro W u z B a b G t j O U;obtain⟨y,F,l⟩:=B;obtain⟨c,H⟩:=D.sp (d+n) ⋯ y;obtain⟨J,P⟩:=Z ⋯ F G H j O U;have Q : ∀i,i<wd (d+n)->y i%p=sh p A N c (d+n) i%p:=λi f=>by rw[H i f];unfold sh;rw[MM]
  have R : ∀i,i<wd (d+n+1)->z i%p=sh p A N b (d+n+1) i%p:=λi f=>by rw[t i f];unfold sh;rw[MM];rfl
  have qd:=m4.mp U;cases hw:w (d+n)with
  | false=>
   have C:ja w (d+n)=d+n:=by unfold ja;rw[hw];rfl
   have E:jh w (d+n)=d+n+1:=by unfold jh;rw[hw];rfl
   unfold Lk at l;rw[hw,UY ⋯]at l;have g:=x (d+n+1) ⋯ (v:=z) t (b:=λj=>if (A j).has (d+n)=eA then c j else 0) λi f=>by rw[l i f,qG Q i];exact K (d+n) ⋯ c (d+n) (d+n+1) C.symm E.symm i f
   refine⟨λh=>?_,λh Y=>?_⟩
   ·have I:(A j).has (d+n)=eA:=m4.mpr (by have:=m4.mp h;omega)
    have:=g j O h;rw[I,UJ rfl]at this;rw[J I,this]
   ·cases I:(A j).has (d+n)with
    | false=>exact P I Y
    | true=>
     have q3:=m4.mp I;have q2 : ¬(d+n+1<(A j).s+(A j).n):=λz=>by have:(A j).has (d+(n+1))=eA:=m4.mpr ⋯;rw[this]at h;cases h
     rw[show(A j).s+(A j).n - 1=d+n by omega,hw]at Y;cases Y
  | true=>
   have C:ja w (d+n)=d+n+1:=by unfold ja;rw[hw];rfl
   have E:jh w (d+n)=d+n:=by unfold jh;rw[hw];rfl
   unfold Lk at l;rw[hw,UJ rfl]at l;have g:=x (d+n) ⋯ (v:=y) H (b:=λj=>if (A j).has (d+n+1)=eA then b j else 0) λi f=>by rw[l i f,qG R i];exact K (d+n) ⋯ b (d+n+1) (d+n) C.symm E.symm i f
   refine⟨λh=>?_,λh Y=>?_⟩
   ·have I:(A j).has (d+n)=eA:=m4.mpr (by have:=m4.mp h;omega)
    have:=g j O I;rw[show(A j).has (d+n+1)=eA from h,UJ rfl]at this;rw[J I,this]
   ·cases I:(A j).has (d+n)with
    | false=>exact P I Y
    | true=>
     have:=g j O I;rw[show(A j).has (d+n+1)=eK from h,UY ⋯]at this;rw[J I,this];simp
end
section
variable{p:Int}{n:Nat}
theorem rF{l:UX} : ∀{r:Nat},(∀k m,k<m->m<r->l k<l m)->∃j,j<=r/\∀k,k<r->l k≠j
 | 0,_=>⟨0,Mp _,λk I=>absurd I<|MU _⟩
 | r+1,h=>by
  obtain⟨j,f,d⟩:=rF (r:=r) λk m a b=>h k m a ⋯;by_cases e:l r=j
  ·refine⟨r+1,Mp _,λk I=>?_⟩
   rcases MK k r with z | z
   ·have:=h k r z ⋯;omega
   ·rw[show k=r by omega];omega
  ·refine⟨j,by omega,λk I=>?_⟩
   rcases MK k r with z | z
   ·exact d k z
   ·rw[show k=r by omega];exact e
theorem CI(C:Pr p){h N:Nat}{f:UV}(inj : ∀t:Vc,(∀i,i<h->app f N t i%p=0)->∀j,j<N->t j%p=0):N<=h:=by
 rcases MK h N with ac | a8
 ·exfalso
  obtain⟨r,A,B,l,b,x⟩:=YX (n:=N) C h f;obtain⟨O,y,a4⟩:=rF b.mono;have o:O<N:=by omega
  let t:Vc:=λj=>if j=O then 1 else zm (λk=>if l k=j then B k O*(-1)else 0) r;have u:t O=1:=UJ rfl;have E : ∀k,k<r->t (l k)=B k O*(-1):=λk U=>by
   show(if l k=O then _ else _)=_;rw[UY (a4 k U),zT (f:=λI=>if l I=l k then B I O*(-1)else 0) U λI Y a=>by
    rw[UY λe=>a (by
     rcases Rh I k with z | z | z
     ·have:=b.mono I k z U;omega
     ·exact z
     ·have:=b.mono k I z Y;omega)]]
   rw[UJ rfl]
  have m : ∀k,k<r->zm (λj=>B k j*t j) N=0:=λk U=>by
   have e:zm (λj=>B k j*t j) N=zm (λj=>(if j=O then B k O else 0)+zm (λI=>if l I=j then B k (l I)*(B I O*(-1))else 0) r) N:=zA λj s=>by
    by_cases z:j=O
    ·subst z
     rw[u,UJ rfl,zA (g:=λ_=>0) λI Y=>UY<|a4 I Y,zV];simp
    ·show B k j*(if j=O then _ else _)=_
     rw[UY z,UY z,Int.zero_add,Nx,<- xm];refine zA λI Y=>?_;by_cases e:l I=j
     ·rw[UJ e,UJ e,<- e,Nx]
     ·rw[UY e,UY e];simp
   rw[e,jI,zT (f:=λj=>if j=O then B k O else 0) o<|λj _ a=>UY a,UJ rfl,xl];have d:zm (λI=>zm (λj=>if l I=j then B k (l I)*(B I O*(-1))else 0) N) r=zm (λI=>B k (l I)*(B I O*(-1))) r:=zA λI Y=>by rw[zT (f:=λj=>if l I=j then B k (l I)*(B I O*(-1))else 0) (b.lt I Y) λj _ a=>UY<|MV a,UJ rfl]
   rw[d,zT (f:=λI=>B k (l I)*(B I O*(-1))) U λI Y a=>by rw[b.xg k I U Y a];simp];rw[b.one k U];omega
  have:=inj t (λi w=>by
   have c:=Js b<|(x<|f i).mpr (.gen ⟨i,w,rfl⟩);unfold app;have e:zm (λj=>f i j*t j) N%p=zm (λj=>zm (λk=>f i (l k)*B k j) r*t j) N%p:=zS λj s=>by rw[Mt,c j s,<- Mt]
   rw[e];have d:zm (λj=>zm (λk=>f i (l k)*B k j) r*t j) N=zm (λk=>f i (l k)*zm (λj=>B k j*t j) N) r:=by rw[zA (g:=λj=>zm (λk=>f i (l k)*B k j*t j) r) λj _=>(xm _ _ _).symm,xl];refine zA λk _=>?_;rw[<- jF];exact zA λj _=>NB _ _ _
   rw[d,zA (g:=λ_=>0) λk U=>by rw[m k U,OD],zV];simp) O o
  rw[u,C.one]at this;cases this
 ·exact a8
theorem ay(W:Nat->Vc)(t:Vc):Span p n (f9 m W) λi=>zm (λj=>t j*W j i) m:=Span.sum (u:=W) t λj z=> .gen ⟨j,z,rfl⟩
theorem Ea(z:Pr p)(I:kv p n s B l)(sp : ∀v,Span p n (f9 s B) v↔Span p n (f9 m W) v)(O : ∀t:Vc,(∀i,i<n->zm (λj=>t j*W j i) m%p=0)->∀j,j<m->t j%p=0):m=s:=by
 have d:s<=m:=by obtain⟨r,g,U⟩:=YX (n:=n) z m W;have:=wA z (m:=m) (W:=W) ⟨B,l,I,sp⟩ U;omega
 have h:s<=n:=Wi I;have e:m<=s:=CI z (f:=λi j=>W j<|l i) λt Y=>O t λi a=>by
  have c:=Js I ((sp _).mpr (ay (n:=n) W t)) i a;rw[c];have:zm (λk=>zm (λj=>t j*W j (l k)) m*B k i) s%p=zm (λ_=>0) s%p:=zS λk b=>by have:=Y k b;unfold app at this;rw[xn]at this;rw[Mt,this];simp
  rw[this,zV];simp
 omega
theorem oQ(hp:Pr p){s q c:Nat}{B C V:Nat->Vc}{l J:UX}(hX:kv p n s B l)(U:kv p n q C J)(Z : ∀j,j<c->Span p n (f9 s B) (V j))(S : ∀v,Span p n (f9 q C) v->Span p n (f9 s B) v)
 (E' : ∀v,Span p n (f9 s B) v->∃t:Vc,Span p n (f9 q C) λi=>v i - zm (λj=>t j*V j i) c) (ac : ∀t:Vc,Span p n (f9 q C) (λi=>zm (λj=>t j*V j i) c)->∀j,j<c->t j%p=0):q+c=s:=by
 let W:Nat->Vc:=λj=>if j<q then C j else V (j - q);have Y : ∀j,j<q->W j=C j:=λj I=>UJ I;have o : ∀j,W (q+j)=V j:=λj=>by show(if q+j<q then _ else _)=_;rw[UY ⋯,Oe]
 have w : ∀t:Vc,∀i,zm (λj=>t j*W j i) (q+c)=zm (λj=>t j*C j i) q+zm (λj=>t (q+j)*V j i) c:=λt i=>by
  rw[YI];congr 1
  ·exact zA λj I=>by rw[Y j I]
  ·exact zA λj I=>by rw[o j]
 refine Ea hp hX (W:=W) (λv=>⟨λm=>?_,λm=>m.le λg b=>?_⟩) λt r=>?_
 ·obtain⟨t,h⟩:=E' v m
  have a:Span p n (f9 (q+c) W) λi=>v i - zm (λj=>t j*V j i) c:=h.le λg b=>by obtain⟨k,O,rfl⟩:=b;rw[<- Y k O];exact .gen ⟨k,by omega,rfl⟩
  have A:Span p n (f9 (q+c) W) λi=>zm (λj=>t j*V j i) c:=Span.sum t λj I=>by rw[<- o j];exact .gen ⟨q+j,by omega,rfl⟩
  exact(A.add a 1).congr λi _=>by rw[Pc,Int.sub_add_cancel]
 ·obtain⟨k,O,rfl⟩:=b
  rcases MK k q with z | z
  ·rw[Y k z];exact S _<|.gen ⟨k,z,rfl⟩
  ·obtain⟨j,rfl⟩ : ∃j,k=q+j:=⟨k - q,by omega⟩
   rw[o j];exact Z j ⋯
 ·have u : ∀j,j<c->t (q+j)%p=0:=ac (λj=>t<|q+j) ((ay (n:=n) C λj=> -1*t j).congr λi d=>by
   have:=r i d;rw[w]at this;have e:zm (λj=> -1*t j*C j i) q=zm (λj=>t j*C j i) q * -1:=by rw[<- xm];exact zA λj _=>by rw[Nx (-1),NB,Nx (-1),NB]
   rw[e];refine TF.mpr ?_;rw[<- this];congr 1;omega)
  intro j I;rcases MK j q with z | z
  ·have y : ∀i,i<n->zm (λj=>t j*C j i) q%p=0:=λi d=>by
    have:=r i d;rw[w,Nn]at this;have e:zm (λj=>t (q+j)*V j i) c%p=zm (λ_=>0) c%p:=zS λj I=>by rw[Mt,u j I];simp
    rw[e,zV]at this;simpa using this
   have a:=y (J j)<|U.lt j z;rw[zT (f:=λk=>t k*C k (J j)) z λk O x=>by rw[U.xg k j O z (MV x)];simp]at a;rw[U.one j z,Ri]at a;exact a
  ·obtain⟨k,rfl⟩ : ∃k,j=q+k:=⟨j - q,by omega⟩
   exact u k ⋯
end
noncomputable def su(A:Nat->gR)(N d e:Nat):List Nat:=(Me N).filter λj=>(A j).has d && (A j).has e
section
variable{p:Int}{w:UK}{wd:UX}{T:UW}{m N n:Nat}{A:Nat->gR}{d:Nat}
theorem lj(z:k<(su A N d e).length):(su A N d e).getD k 0<N/\(A<|(su A N d e).getD k 0).has d=eA/\(A<|(su A N d e).getD k 0).has e=eA:=by
 have f:(su A N d e).getD k 0∈su A N d e:=by rw[Mm,Mi z];exact OB _
 obtain⟨b,a⟩:=MR.mp f;simp only[My]at a;exact⟨Mg.mp b,a.1,a.2⟩
theorem Ec(D:t7 p w wd T m N A)(C:d<=m)(e:Nat):(su A N d e).length<=wd d:=by rw[<- D.cnt d C];unfold su l0;rw[<- Nt,<- Nt];exact List.countP_mono_left λj _ h=>by simp only[My]at h;exact h.1
theorem oW(d e:Nat)(t:Vc) : ∃a:Vc,∀k,k<(su A N d e).length->a ((su A N d e).getD k 0)=t k:=by refine⟨λj=>t<|(su A N d e).idxOf j,λk z=>?_⟩;have b:(su A N d e).Nodup:=Sh.sublist RA;show t _=_;rw[Mm,Mi z,Pn,b.idxOf_getElem _ z]
theorem lh(d e:Nat)(a:Vc)(i:Nat):zm (λk=>a ((su A N d e).getD k 0)*(A<|(su A N d e).getD k 0).v d i) (su A N d e).length=zm (λj=>if (A j).has d=eA then (if (A j).has e=eA then a j else 0)*(A j).v d i else 0) N:=by have:=vQ (λj=>(A j).has d && (A j).has e) (λj=>a j*(A j).v d i) N;refine this.trans<|zA λj _=>?_;cases (A j).has d<;>cases (A j).has e<;>simp
theorem bq(hp:Pr p)(D:t7 p w wd T m N A)(C:d+n<=m){s q:Nat}{B J:Nat->Vc}{l l2:UX}(Z:kv p (wd d) s B l)(U : ∀u,Span p (wd d) (f9 s B) u ↔ ∃z,Wk p w wd T d n u z)
 (S:kv p (wd d) q J l2) (Y : ∀u,Span p (wd d) (f9 q J) u↔Wk p w wd T d n u λ_=>0):q+(su A N d<|d+n).length=s:=by
 have P:=Ec D (show d<=m by omega)<|d+n;have Q:=Wi S;refine oQ hp Z S (V:=λk=>(A<|(su A N d<|d+n).getD k 0).v d) (λk I=>?_) (λv y=>(U v).mpr ⟨_,(Y v).mp y⟩) (λv y=>?_) λt L=>?_
 ·obtain⟨f,g,O⟩:=lj I
  exact(U _).mpr ⟨_,JO (D.ok _ f) g n C O⟩
 ·obtain⟨z,E⟩:=(U v).mp y
  obtain⟨a,o⟩:=D.sp d ⋯ v;obtain⟨b,H⟩:=D.sp (d+n) C z;have r:=Zy D n C E o H;refine⟨λk=>a<|(su A N d<|d+n).getD k 0,(Y _).mpr ?_⟩;let u:Nat->Vc:=λj=>if (A j).has d=eA/\(A j).has (d+n)=eK/\w ((A j).s+(A j).n - 1)=eK then (A j).v d else λ_=>0;have M : ∀j,j<N->Wk p w wd T d n (u j) λ_=>0:=λj x=>by
   show Wk p w wd T d n (if _ then _ else _) _;split
   ·next h=>exact W2 (D.ok j x) h.1 h.2.2 n C h.2.1
   ·exact Xw n
  have K:=rR a u (λ_ _=>0) N M;refine Ez (pF K λi F=>?_) λi _=>by simp[zV]
  rw[lh d (d+n) a i];rw[B3,o i F,<- B3];have e:zm (λj=>if (A j).has d=eA then a j*(A j).v d i else 0) N - zm (λj=>if (A j).has d=eA then (if (A j).has (d+n)=eA then a j else 0)*(A j).v d i else 0) N=zm (λj=>(if (A j).has d=eA then a j*(A j).v d i else 0)+(if (A j).has d=eA then (if (A j).has (d+n)=eA then a j else 0)*(A j).v d i else 0) * -1) N:=by rw[jI,xm];omega
  rw[e];refine zS λj x=>?_;show _=a j*(if _ then (A j).v d else λ_=>0) i%p;cases f:(A j).has d with
  | false=>simp
  | true=>
   cases g:(A j).has (d+n)with
   | true=>
    have G:a j*(A j).v d i+a j*(A j).v d i * -1=0:=by omega
    simp only[if_true,G,Bool.true_eq_false,false_and,and_false,if_false,OD]
   | false=>
    cases O:w ((A j).s+(A j).n - 1)with
    | false=>simp
    | true=>
     have:=(r j x f).2 g O;simp only[if_true,Od,if_false,Pb,Pd,OD,Bool.true_eq_false,and_false];rw[Mt,this];simp
 ·obtain⟨a,o⟩:=oW (A:=A) (N:=N) d (d+n) t
  have E:=(Y _).mp L;have r:=Zy D n C E (a:=λj=>if (A j).has (d+n)=eA then a j else 0) (b:=λ_=>0) (λi F=>by
   rw[<- lh d (d+n) a i];congr 1;exact zA λk I=>by rw[o k I]) (λi _=>by
   have:zm (λj=>if (A j).has (d+n)=eA then 0*(A j).v (d+n) i else 0) N=zm (λ_=>0) N:=zA λj _=>by simp
   rw[this,zV])
  intro k I;obtain⟨f,g,O⟩:=lj I;have:=(r _ f g).1 O;rw[O,UJ rfl,o k I]at this;simpa using this
end
section
variable{p:Int}{w:UK}{wd:UX}{T:UW}{m N:Nat}{A:Nat->gR}
theorem oA(r:Nat)(t:Vc) : ∃a:Vc,∀k,k<(l0 A N r).length->a ((l0 A N r).getD k 0)=t k:=by refine⟨λj=>t<|(l0 A N r).idxOf j,λk z=>?_⟩;show t _=_;rw[Mm,Mi z,Pn,(Vy A N r).idxOf_getElem _ z]
theorem iw(r:Nat)(a:Vc)(i:Nat):zm (λj=>if (A j).has r=eA then a j*(A j).v r i else 0) N=app (qV A N r) (l0 A N r).length (λk=>a<|(l0 A N r).getD k 0) i:=by have:=vQ (λj=>(A j).has r) (λj=>a j*(A j).v r i) N;rw[<- this];unfold app;rw[xn];rfl
theorem CC(z:j<N)(I:(A j).has r=eA) : ∃k,k<(l0 A N r).length/\(l0 A N r).getD k 0=j:=by have O:j∈l0 A N r:=MR.mpr ⟨Mg.mpr z,by simpa using I⟩;obtain⟨i,a,e⟩:=Rx O;exact⟨i,a,by rw[Mm,Mi a];simpa using e⟩
theorem uR(Y:Pr p)(a0 : ∀k,wd k<=8)(ok : ∀j,j<N->ri p w wd T m (A j))(cnt : ∀r,r<=m->(l0 A N r).length=wd r)(U : ∀r,r<=m->∀v:Vc,∃t,∀i,i<wd r->v i%p=app (qV A N r) (wd r) t i%p):t7 p w wd T m N A where
 ok:=ok
 cnt:=cnt
 sp:=λr z v=>by obtain⟨t,I⟩:=U r z v;obtain⟨a,ha⟩:=oA (A:=A) (N:=N) r t;refine⟨a,λi hi=>?_⟩;rw[I i hi,iw,cnt r z];unfold app;congr 1;exact zA λk O=>by show _=_*a _;rw[ha k (by rw[cnt r z];exact O)]
 inj:=λr z t I j hj hh=>by
  obtain⟨k,O,e⟩:=CC hj hh;have:=wI Y (a0 r) (U r z) (t:=λk=>t<|(l0 A N r).getD k 0) (λi hi=>by have:=I i hi;rw[iw,cnt r z]at this;exact this) k (by rw[<- cnt r z];exact O)
  rw[e]at this;exact this
end
section
variable{p:Int}{w:UK}{wd:UX}{T f g:UW}{m N:Nat}{A:Nat->gR}
theorem Ak(F G:UV)(n k:Nat)(u:Vc)(i:Nat):app F n (app G k u) i=zm (λj=>zm (λb=>F i b*G b j) n*u j) k:=by
 unfold app;have e:zm (λb=>F i b*zm (λj=>G b j*u j) k) n=zm (λb=>zm (λj=>F i b*G b j*u j) k) n:=zA λb _=>by rw[<- jF];exact zA λj _=>(NB _ _ _).symm
 rw[e,xl];exact zA λj _=>xm _ _ _
theorem mB(h:XT p n F G)(u:Vc)(C:i<n):app F n (app G n u) i%p=u i%p:=by
 rw[Ak];have e:zm (λj=>zm (λb=>F i b*G b j) n*u j) n%p=zm (λj=>l8 i j*u j) n%p:=zS λj z=>by rw[Mt,h i j C z,<- Mt]
 rw[e,zT (f:=λj=>l8 i j*u j) C λj _ I=>by unfold l8;rw[UY (MV I),Pb]];unfold l8;rw[UJ rfl,Pc]
end
def gV(p:Int)(a b:Nat)(c:Int)(v:Vc):Vc:=λi=>if i=b then (v b+c*v a)%p else v i
def Lw(S E:UX)(j:Nat):gR:=⟨S j,E j - S j+1,λ_ _=>0⟩
def qP(S E:UX)(N r:Nat):List Nat:=l0 (Lw S E) N r
noncomputable def dC(S E:UX)(N j:Nat):gR:=⟨S j,E j - S j+1,λr i=>if (qP S E N r).getD i N=j then 1 else 0⟩
def ic(S E:UX)(N r:Nat):Nat:=(qP S E N r).length
noncomputable def md(w:UK)(S E:UX)(N k i j:Nat):Int:=if (qP S E N<|jh w k).getD i N=(qP S E N<|ja w k).getD j (N+1)then 1 else 0
section
variable{S E:UX}{N r:Nat}{w:UK}{p:Int}{m:Nat}
theorem mG:(qP S E N r).Nodup:=List.Nodup.sublist RA Sh
theorem UL{j:Nat}:j∈qP S E N r↔j<N/\(dC S E N j).has r=eA:=by unfold qP l0;rw[MR,Mg];rfl
theorem aB{j:Nat}(h:j<N)(I:(dC S E N j).has r=eA) : ∃c,c<ic S E N r/\(qP S E N r)[c]? = ej j:=by obtain⟨c,z⟩:=U9<|UL.mpr ⟨h,I⟩;exact⟨c,(Mv.mp z).1,z⟩
theorem J1{c d:Nat}(h:c<ic S E N r) : ∃j,(qP S E N r)[c]? = ej j/\(qP S E N r).getD c d=j/\j<N/\(dC S E N j).has r=eA:=by have e:=Mi (l:=qP S E N r) h;obtain⟨a,b⟩:=UL.mp<|Nh e;exact⟨_,e,by rw[Mm,e];rfl,a,b⟩
theorem YM{c z j:Nat}(C:(qP S E N r)[c]? = ej j)(I:(qP S E N r)[z]? = ej j):c=z:=by exact(List.getElem?_inj (Mv.mp C).1 mG).mp (C.trans I.symm)
theorem Ko{c j:Nat}(h:c<ic S E N r):(dC S E N j).v r c=if (qP S E N r)[c]? = ej j then 1 else 0:=by
 obtain⟨I,a,O,_⟩:=J1 (d:=N) h;show(if (qP S E N r).getD c N=j then (1:Int)else 0)=_;rw[a,O];by_cases z:I=j
 ·rw[UJ z,UJ (by rw[z])]
 ·rw[UY z,UY (λq=>z<|Ng q)]
theorem om(J:Pr p)(C : ∀j,j<N->S j<=E j/\E j<=m):t7 p w (ic S E N) (md w S E N) m N (dC S E N):=by
 have two:=J.two;refine⟨λj O=>⟨by show 1<=_+1;omega,by show S j+(E j - S j+1)<=m+1;have:=C j O;omega,λr i _ _=>?_,λk G h i b=>?_⟩,λr s v=>?_,λr s t A j O h=>?_,λr s=>rfl⟩
 ·show 0<=(if _ then (1:Int)else 0)/\(if _ then (1:Int)else 0)<p
  split<;>omega
 ·obtain⟨U,Y,a⟩:=aB O h
  obtain⟨y,g,u,x,n⟩:=J1 (d:=N) b;have e:app (md w S E N k) (ic S E N<|ja w k) ((dC S E N j).v (ja w k)) i=md w S E N k i U:=by
   unfold app;rw[zT (f:=λc=>md w S E N k i c*(dC S E N j).v (ja w k) c) Y λc o I=>by rw[Ko o,UY<|λq=>I<|YM q a,OD]]
   rw[Ko Y,UJ a,Ri]
  rw[e];congr 1;unfold md;rw[show(qP S E N<|ja w k).getD U (N+1)=j by rw[Mm,a];rfl];by_cases l:(dC S E N j).has (jh w k)=eA
  ·rw[UJ l];rfl
  ·rw[UY l,u,UY (λz=>l<|by rw[<- z];exact n)]
 ·refine⟨λj=>zm (λc=>if (qP S E N r)[c]? = ej j then v c else 0)<|ic S E N r,λi b=>?_⟩
  obtain⟨y,g,u,x,n⟩:=J1 (d:=N) b;rw[zT (f:=λj=>if (dC S E N j).has r=eA then zm (λc=>if (qP S E N r)[c]? = ej j then v c else 0) (ic S E N r)*(dC S E N j).v r i else 0) x λj O I=>by rw[Ko b,show(if (qP S E N r)[i]? = ej j then (1:Int)else 0)=0 from UY<|λq=>I<|Ng<|q.symm.trans g,OD,ite_self]]
  rw[UJ n,Ko b,UJ g,Ri,zT (f:=λc=>if (qP S E N r)[c]? = ej y then v c else 0) b λc o I=>UY λq=>I<|YM q g,UJ g]
 ·obtain⟨U,Y,a⟩:=aB O h
  have:=A U Y;rw[zT (f:=λj=>if (dC S E N j).has r=eA then t j*(dC S E N j).v r U else 0) O λB F I=>by rw[Ko Y,show(if (qP S E N r)[U]? = ej B then (1:Int)else 0)=0 from UY<|λq=>I<|Ng<|q.symm.trans a,OD,ite_self]]at this
  rw[UJ h,Ko Y,UJ a,Ri]at this;exact this
theorem oo(z:Pr p) : ∀k x y,0<=md w S E N k x y/\md w S E N k x y<p:=λk x y=>by have:=z.two;unfold md;split<;>omega
end
section
variable{p:Int}{m:Nat}{w:UK}{wd:UX}{T:UW}
noncomputable def eX(w:UK)(wd:UX)(T:UW)(m:Nat):List D:=(Me m).map λk=>D.lst<|iW (l4 w wd k) (l5 w wd k)<|T k
@[simp] theorem AR(m):(eX w wd T m).length=m:=by simp[eX]
abbrev rc(p:Int)(m:Nat)(w:UK)(wd:UX)(T:UW)(acc:List D)(c5 c6 c7 c8:Cell):Ctx:=[.val (.int p),.val (.str (kU m w)),.val (.lst (zH (m+1) λk=>(wd k:Int))),.val (.lst (eX w wd T m)),.own acc,c5,c6,c7,c8]
end
def stN(M:Nat):List (Nat×Nat):=(Me M).flatMap λi=>(Rw i<|M - i).map λj=>(i,j)
theorem Ut:s∈stN M↔s.1<=s.2/\s.2<M:=by
 unfold stN;simp only[List.mem_flatMap,Mg,MD,List.mem_range'_1];constructor
 ·rintro⟨i,a,j,z,rfl⟩
  exact⟨z.1,by show j<M;omega⟩
 ·intro h
  exact⟨s.1,by omega,s.2,⟨h.1,by omega⟩,rfl⟩
noncomputable def rr(K:List (Nat×Nat))(a b:Int):Nat:=K.countP λx=>decide ((x.1:Int)<=a) && decide (b<=(x.2:Int))
def C4(K:List (Nat×Nat))(s:Nat×Nat):Nat:=K.countP λx=>decide<|x=s
theorem JJ(x:Nat×Nat)(K:List (Nat×Nat))(a b:Int):(rr (x::K) a b:Int)=(rr K a b:Int)+if (x.1:Int)<=a/\b<=(x.2:Int)then 1 else 0:=by
 unfold rr;rw[List.countP_cons];by_cases d:(x.1:Int)<=a
 ·by_cases e:b<=(x.2:Int)
  ·rw[UJ (show(decide ((x.1:Int)<=a) && decide (b<=(x.2:Int)))=eA by simp only[decide_eq_true d,decide_eq_true e];rfl),UJ ⟨d,e⟩];rfl
  ·rw[UY (show ¬(decide ((x.1:Int)<=a) && decide (b<=(x.2:Int)))=eA by simp only[decide_eq_false e,Bool.and_false];decide),UY λz=>e z.2];rfl
 ·rw[UY (show ¬(decide ((x.1:Int)<=a) && decide (b<=(x.2:Int)))=eA by simp only[decide_eq_false d,OG];decide),UY λz=>d z.1];rfl
theorem nZ(x s:Nat×Nat)(K:List (Nat×Nat)):(C4 (x::K) s:Int)=(C4 K s:Int)+if (x.1=s.1/\x.2=s.2)then 1 else 0:=by
 unfold C4;rw[List.countP_cons];by_cases h:x=s
 ·rw[UJ (decide_eq_true h),UJ (by rw[h];exact⟨rfl,rfl⟩)];rfl
 ·rw[UY (by simpa using h),UY λz=>h (Prod.ext z.1 z.2)];rfl
theorem Xa(s:Nat×Nat) : ∀K:List (Nat×Nat),(rr K s.1 s.2:Int) - ((rr K ((s.1:Int) - 1) s.2:Int)+(rr K s.1 ((s.2:Int)+1):Int))+(rr K ((s.1:Int) - 1) ((s.2:Int)+1):Int)=(C4 K s:Int)
 | []=>rfl
 | x::K=>by
  have z:=Xa s K;rw[JJ,JJ,JJ,JJ,nZ];generalize (rr K s.1 s.2:Int)=I at *;generalize (rr K ((s.1:Int) - 1) s.2:Int)=O at *;generalize (rr K s.1 ((s.2:Int)+1):Int)=U at *;generalize (rr K ((s.1:Int) - 1) ((s.2:Int)+1):Int)=Y at *;generalize (C4 K s:Int)=c5 at *
  repeat' split
  all_goals omega
section
variable{p:Int}{w:UK}{wd:UX}{T:UW}{m N:Nat}{A:Nat->gR}
noncomputable def ou(A:Nat->gR)(N:Nat):List (Nat×Nat):=(Me N).map λj=>((A j).s,(A j).s+(A j).n - 1)
theorem Yb(D:t7 p w wd T m N A) : ∀x,x∈ou A N->x∈stN (m+1):=λx a=>by obtain⟨j,z,rfl⟩:=MD.mp a;have b:=(D.ok j<|Mg.mp z).n1;have d:=(D.ok j<|Mg.mp z).le;exact Ut.mpr (by show(A j).s<=(A j).s+(A j).n - 1/\(A j).s+(A j).n - 1<m+1;omega)
theorem rL(D:t7 p w wd T m N A)(I:i<=j):(su A N i j).length=rr (ou A N) i j:=by unfold su rr ou;rw[<- Nt,Ss];refine Oj λk z=>?_;have a:=(D.ok k<|Mg.mp z).n1;simp only[My,Function.comp_def,decide_eq_true_eq];rw[m4,m4];omega
end
def u1:=(jy 1<|zD z9<|zb (zc 0)<|zb (zu<|.int 0) zI)
noncomputable def u2:=(jy 2<|eL (jm<|kG<|zb (zu<|.int 2)<|zb (zu<|.int 3)<|zb (zu<|.int 5)<|zb (zu<|.int 7) zI)<|zy qw (zc 1)<|zu<|.int 4)
noncomputable def u3:=(fG (.tp [3,4])<|eL (jm<|kG<|zb (qW<|zb (zu<|.int 4)<|zb (zu<|.int 2) zI)<|zb (qW<|zb (zu<|.int 3)<|zb (zu<|.int 2) zI)<|zb (qW<|zb (zu<|.int 2)<|zb (zu<|.int 2) zI)<|zb (qW<|zb (zu<|.int 2)<|zb (zu<|.int 2) zI)<|zb (qW<|zb (zu<|.int 6)<|zb (zu<|.int 1) zI)<|zb (qW<|zb (zu<|.int 5)<|zb (zu<|.int 1) zI)<|zb (qW<|zb (zu<|.int 4)<|zb (zu<|.int 1) zI)<|zb (qW<|zb (zu<|.int 3)<|zb (zu<|.int 1) zI) zI)<|zy qw (zc 1)<|zu<|.int 8)
theorem BJ{c:Int}(h:0<=c) : ∃q:Nat,Pr (q:Int)/\([D.int 2,.int 3,.int 5,.int 7])[(c%4).toNat]? = ej (.int q)/\k6 4 (c%4)=ej (c%4).toNat:=by
 have a:=Na c (show(4:Int)≠0 by decide);have b:=MN c (show(0:Int)<4 by decide);obtain⟨r,z⟩:=Of a;rw[z];have I:r<4:=by omega
 rw[xj,UJ I,NY];rcases (by omega:r=0\/r=1\/r=2\/r=3)with e | e | e | e<;>subst e
 ·exact⟨2,.inl rfl,rfl,rfl⟩
 ·exact⟨3,.inr<|.inl rfl,rfl,rfl⟩
 ·exact⟨5,.inr<|.inr<|.inl rfl,rfl,rfl⟩
 ·exact⟨7,.inr<|.inr<|.inr rfl,rfl,rfl⟩
def bS(bs:List (Int×Int))(j:Nat):Nat:=(bs.getD j (0,0)).1.toNat
def bE(bs:List (Int×Int))(j:Nat):Nat:=(bs.getD j (0,0)).2.toNat
abbrev bW(bs:List (Int×Int)):Nat->Nat:=ic (bS bs) (bE bs) bs.length
abbrev bT(w:UK)(bs:List (Int×Int)):Nat->Nat->Nat->Int:=md w (bS bs) (bE bs) bs.length
abbrev bL(bs:List (Int×Int))(r:Nat):List Nat:=qP (bS bs) (bE bs) bs.length r
section
variable{bs:List (Int×Int)}{m:Nat}{w:UK}
theorem lH(h : ∀b∈bs,bX ((m+1:Nat):Int) b){j:Nat}(z:j<bs.length):bs[j]? = ej ((bS bs j:Int),(bE bs j:Int))/\bS bs j<=bE bs j/\bE bs j<=m:=by have e:=Mi z;have I:=h _<|Nh e;obtain⟨a,d,O⟩:=I;unfold bS bE;rw[Mm,e,Pn];refine⟨?_,by omega,by omega⟩;congr 1;exact Prod.ext (by dsimp only;omega) (by dsimp only;omega)
end
section
variable{bs:List (Int×Int)}{m:Nat}
theorem Ac(h : ∀b∈bs,bX ((m+1:Nat):Int) b):bs=(Me bs.length).map λj=>((bS bs j:Int),(bE bs j:Int)):=by
 apply NX;intro j;by_cases z:j<bs.length
 ·rw[(lH h z).1];simp[z]
 ·rw[List.getElem?_eq_none ⋯,List.getElem?_eq_none (by simpa using z)]
end
theorem oJ:yc=jr 4 (zJ br iG):=rfl
section
variable{ns:List Int}{p:Int}{m:Nat}{w:UK}{wd:UX}{T:UW}
theorem iE(C:ns.length<=63)(O:Pr p)(S:m<=5)(Y : ∀k,wd k<=7)(J : ∀k x y,0<=T k x y/\T k x y<p) :
 ∃f g:UW,(∀k,k<m+1->Pair p (wd k) (f k) (g k))/\yc [kc ns,.int 80,jA p m w wd T]=ej (.val<|jA p m w wd<|qb p w wd f g T):=by
 have H:=ju;have l:m+1<=lim:=by omega
 have a : ∀k:Nat,∃b:(Nat->Nat->Int)×(Nat->Nat->Int),k<m+1->Pair p (wd k) b.1 b.2/\xE [kc ns,.int<|80+20*(k:Int),.int p,.int (wd k:Nat)]=ej (.own [z6 (wd k) (wd k) b.1,z6 (wd k) (wd k) b.2]):=λk=>by
  by_cases I:k<m+1
  ·obtain⟨f,g,t,u⟩:=AM C O (n:=wd k) (by have:=Y k;omega) (show(0:Int)<=80+20*(k:Int)by omega) ⋯
   exact⟨(f,g),λ_=>⟨t,u⟩⟩
  ·exact⟨(λ_ _=>0,λ_ _=>0),λh=>absurd h I⟩
 obtain⟨z,U⟩:=Px a;refine⟨λk=>(z k).1,λk=>(z k).2,λk I=>(U k I).1,?_⟩;let L:List D:=(Me<|m+1).map λk=>D.lst [z6 (wd k) (wd k) (z k).1,z6 (wd k) (wd k) (z k).2];have G:br [.val (kc ns),.val<|.int 80,.val<|jA p m w wd T,.no]=ej (.next [.val (kc ns),.val<|.int 80,.val<|jA p m w wd T,.val (.lst L)]):=by
  have d:XF (eL (zh 2)<|zu<|.int 1) [.val (kc ns),.val<|.int 80,.val<|jA p m w wd T,.no]=ej ((Me<|m+1).map λ(k:Nat)=>D.tup [.int k,.int (wd k:Int)]):=by rw[<- ZR (m+1) λk=>D.int (wd k:Int)];rfl
  unfold br;rw[ve,vH,qe,d];simp only[Mj,MF,Nz,l,if_true];rw[zw (λk=>D.lst [z6 (wd k) (wd k) (z k).1,z6 (wd k) (wd k) (z k).2]) _ λk I=>zx (γ1:=[.val (.int k),.val<|.int (wd k:Int),.val<|kc ns,.val<|.int 80,.val (jA p m w wd T)]) rfl rfl ?_]
  ·rfl
  ·have I:=Mg.mp I
   have e:=(U k I).2;have o:JM 20 (k:Int)=eA:=vE _ _ ⋯ ⋯;unfold CM;simp[yo,o,e,k6]
 have r:zP (.nm 0) jb (eL (zh 0)<|zu<|.int 0) [Cell.no] L=ej (qN (m+1) wd λk=>(z k).1):=by refine zw _ _ λk _=>zx rfl rfl ?_;rfl
 have s:zP (.nm 0) jb (eL (zh 0)<|zu<|.int 1) [Cell.no] L=ej (qN (m+1) wd λk=>(z k).2):=by refine zw _ _ λk _=>zx rfl rfl ?_;rfl
 have F:=Ku (f:=λk=>(z k).1) (g:=λk=>(z k).2) (m:=m) (w:=w) (wd:=wd) (T:=T) O.pos O.le ⋯ (λk=>by have:=Y k;omega) (λk i j _ _ _=>J k i j)<|λk i j I B E=>(U k I).1.bg i j B E;rw[oJ];refine jg<|zo G ?_;have A:L.length<=lim:=by simp[L];omega
 unfold iG;simp only[vf,xS,jO,qU,jZ,vH,qe,qA,jw,Mk,Mn,zG,zO,bO,Mj,Mr,A,if_true];rw[show zZ 1 [] [Cell.val (kc ns),.val<|.int 80,.val<|jA p m w wd T,.val (.lst L)]=[Cell.no]from rfl,r,s];simp[F]
end
section
variable{p:Int}{w:UK}{wd:UX}{T:UW}{m N:Nat}{A:Nat->gR}
theorem nY{M:Nat}{K I:List (Nat×Nat)}(C : ∀x,x∈K->x∈stN M)(J : ∀x,x∈I->x∈stN M)(h : ∀a b:Nat,a<=b->b<M->rr K a b=rr I a b){s:Nat×Nat}(S:s.1<=s.2):C4 K s=C4 I s:=by
 have z : ∀{L:List (Nat×Nat)} {a b:Int},(∀x,x∈L->x∈stN M)->a<0\/(M:Int)<=b->rr L a b=0:=λ{L a b} U Y=>by unfold rr;rw[RB];intro x d q;have:=Ut.mp<|U x d;simp only[My,decide_eq_true_eq]at q;omega
 have O : ∀{a b:Int},a<=b->rr K a b=rr I a b:=λ{a b} Y=>by
  by_cases c:a<0\/(M:Int)<=b
  ·rw[z C c,z J c]
  ·have:=h a.toNat b.toNat ⋯ ⋯
   rw[PD ⋯,PD ⋯]at this;exact this
 have e:=Xa s K;have f:=Xa s I;rw[O ⋯,O ⋯,O ⋯,O ⋯]at e;omega
end
section
variable{p:Int}{w:UK}{wd:UX}{T:UW}{m N N':Nat}{A A':Nat->gR}{d n:Nat}
noncomputable def E6(w:UK)(A:Nat->gR)(d n:Nat)(z:Bool)(j:Nat):Bool:=(A j).has d && ((!z && (A j).has (d+n)) || (!(A j).has (d+n) && !w ((A j).s+(A j).n - 1)))
noncomputable def E7(w:UK)(A:Nat->gR)(d n:Nat)(z:Bool)(j:Nat):Vc:=if E6 w A d n z j=eA then (A j).v d else λ_=>0
theorem um(D:t7 p w wd T m N A)(C:d+n<=m){z:Bool}{j:Nat}(O:j<N) : ∃y:Vc,Wk p w wd T d n (E7 w A d n z j) y/\(z=eA->∀i,y i=0):=by
 unfold E7;by_cases h:E6 w A d n z j=eA
 ·rw[UJ h]
  unfold E6 at h;simp only[My,NW,Ou]at h;obtain⟨a,b⟩:=h;rcases b with⟨U,I⟩ | ⟨I,Y⟩
  ·exact⟨_,JO (D.ok j O) a n C I,λq=>by rw[q]at U;cases U⟩
  ·exact⟨_,W2 (D.ok j O) a Y n C I,λ_ _=>rfl⟩
 ·rw[UY h];exact⟨_,Xw n,λ_ _=>rfl⟩
theorem gK(D:t7 p w wd T m N A)(C:d+n<=m)(z:Bool)(u:Vc):Span p (wd d) (f9 N<|E7 w A d n z) u ↔ ∃y:Vc,Wk p w wd T d n u y/\(z=eA->∀i,y i%p=0):=by
 constructor
 ·intro h
  induction h with
  | zero h=>exact⟨_,pF (Xw n) λi l=>by rw[h i l];simp,λ_ _=>by simp⟩
  | step x _ e B=>
   obtain⟨y,f,k⟩:=B;obtain⟨j,U,rfl⟩:=x;obtain⟨G,g1,g2⟩:=um D C (z:=z) U;refine⟨_,pF (lS n _ f g1) e,λq i=>?_⟩;rw[g2 q i,OD,Pd];exact k q i
 ·rintro⟨y,f,k⟩
  obtain⟨a,o⟩:=D.sp d ⋯ u;obtain⟨b,Y,r⟩ : ∃b:Vc,(∀i,i<wd (d+n)->y i%p=zm (λj=>if (A j).has (d+n)=eA then b j*(A j).v (d+n) i else 0) N%p)/\(z=eA->∀j,b j=0):=by
   cases z with
   | false=>
    obtain⟨b,Y⟩:=D.sp (d+n) C y;exact⟨b,Y,λq=>nomatch q⟩
   | true=>exact⟨λ_=>0,λi _=>by rw[k rfl i,zA (g:=λ_=>0) λj _=>by simp,zV];simp,λ_ _=>rfl⟩
  have t:=Zy D n C f o Y;refine(Span.sum (u:=E7 w A d n z) a (m:=N) λj U=> .gen ⟨j,U,rfl⟩).congr λi l=>?_;rw[o i l];refine zS λj U=>?_;unfold E7;by_cases O:(A j).has d=eA
  ·obtain⟨E,F⟩:=t j U O
   rw[UJ O];by_cases I:E6 w A d n z j=eA
   ·rw[UJ I]
   ·rw[UY I,OD]
    have:a j%p=0:=by
     unfold E6 at I;rw[O]at I;cases h4:(A j).has (d+n)with
     | true=>
      rw[h4]at I;cases z with
      | true=>rw[E h4,r rfl j];simp
      | false=>simp at I
     | false=>
      rw[h4]at I;cases h5:w ((A j).s+(A j).n - 1)with
      | true=>exact F h4 h5
      | false=>rw[h5]at I;simp at I
    rw[Mt,this];simp
  ·have:E6 w A d n z j=eK:=by unfold E6;rw[Bool.not_eq_true]at O;rw[O];rfl
   rw[UY O,this];simp
theorem uX(I:Pr p)(D:t7 p w wd T m N A)(U:t7 p w wd T m N' A'){a b:Nat}(Y:a<=b)(O:b<=m):rr (ou A N) a b=rr (ou A' N') a b:=by obtain⟨n,rfl⟩ : ∃n,b=a+n:=⟨b - a,by omega⟩;obtain⟨s,_,B,l,e,r⟩:=YX (n:=wd a) I N<|E7 w A a n eK;obtain⟨q,_,j,C,d,o⟩:=YX (n:=wd a) I N<|E7 w A a n eA;have g : ∀u,Span p (wd a) (f9 s B) u ↔ ∃z,Wk p w wd T a n u z:=λu=>(r u).trans ((gK D O eK u).trans ⟨λ⟨y,h,_⟩=>⟨y,h⟩,λ⟨y,h⟩=>⟨y,h,λq=>nomatch q⟩⟩);have f : ∀u,Span p (wd a) (f9 q j) u↔Wk p w wd T a n u λ_=>0:=λu=>(o u).trans ((gK D O eA u).trans ⟨λ⟨y,h,k⟩=>Ez h λi _=>by rw[k rfl i];simp,λh=>⟨_,h,λ_ _=>by simp⟩⟩);have t:=bq I D O e g d f;have x:=bq I U O e g d f;rw[<- rL D Y,<- rL U Y];omega
theorem gD(U:Pr p)(D:t7 p w wd T m N A)(I:t7 p w wd T m N' A'):(ou A N).Perm (ou A' N'):=by
 refine List.perm_iff_count.mpr λs=>?_;have e : ∀K:List (Nat×Nat),K.count s=C4 K s:=λK=>by unfold C4 List.count;exact Oj λx _=>by simp
 rw[e,e];by_cases O:s.1<=s.2
 ·exact nY (M:=m+1) (Yb D) (Yb I) (λa b d g=>uX U D I d ⋯) O
 ·have z : ∀K:List (Nat×Nat),(∀x,x∈K->x∈stN (m+1))->C4 K s=0:=λK h=>by
   unfold C4;rw[RB];intro x f q;have:=(Ut.mp<|h x f).1;have q:=of_decide_eq_true q;rw[q]at this;exact O this
  rw[z _ (Yb D),z _ (Yb I)]
theorem ie(z:Pr p)(D:t7 p w wd T m N A)(I:t7 p w wd T m N' A')(O:jv (qf A N)=qf A N)(U:jv (qf A' N')=qf A' N'):qf A N=qf A' N':=by
 have e : ∀(X:Nat->gR) (M:Nat),qf X M=(ou X M).map λs=>((s.1:Int),(s.2:Int)):=λX M=>by unfold qf ou;rw[Nb];rfl
 rw[<- O,<- U];refine J5 ?_;rw[e,e];exact(gD z D I).map _
theorem ZX(U:Pr p)(C : ∀k,wd k<=8)(S:m<=5)(J : ∀k i j,k<m->i<l4 w wd k->j<l5 w wd k->0<=T k i j/\T k i j<p) :
 ∃(N:Nat) (A:Nat->gR) (ts us:List TB),N<=48/\t7 p w wd T m N A/\jv (qf A N)=qf A N/\(∀b∈qf A N,bX ((m+1:Nat):Int) b)/\(∀r,r<=m->i6 (qf A N) r=wd r)/\(∀t∈ts,sm p t)/\(∀t∈us,sm p t)/\y9 [jA p m w wd T]=ej (.val<|qc (qf A N) ts us)/\jP [jA p m w wd T,qc (qf A N) ts us]=ej (.val<|.bl eA):=by
 obtain⟨N,A,g,Q,Y,cnt,h,o,K⟩:=lG (T:=T) (w:=w) U C S J;have W : ∀j,j<N->1<=(A j).n:=λj z=>(Y j z).n1;have d : ∀r,r<=m->i6 (qf A N) r=wd r:=λr I=>by unfold i6;rw[yt W,cnt _ I]
 have X:(qf A N).length=N:=by simp[qf]
 have E:t7 p w wd T m N A:=uR U C Y cnt λr I v=>⟨app (g r) (wd r) v,λi a=>(mB (h r I).1 v a).symm⟩;have e : ∀f:UW,xG m wd f=xG m (i6<|qf A N) f:=λf=>by unfold xG;refine MA λr I=>?_;have I:=Mg.mp I;rw[d r ⋯]
 have M:jA p m w wd T=jA p m w (i6<|qf A N) (qb p w (i6<|qf A N) (λr=>qV A N r) g<|t9 w<|qf A N):=by
  unfold jA;congr 1;have P:(zH (m+1) λk=>(wd k:Int))=zH (m+1) λk=>(i6 (qf A N) k:Int):=xW λr I=>by rw[d r ⋯]
  have H:jN m w wd T=jN m w (i6<|qf A N) (qb p w (i6<|qf A N) (λr=>qV A N r) g<|t9 w<|qf A N):=by
   unfold jN;refine MA λk O=>?_;have O:=Mg.mp O;have G:ja w k<=m:=by unfold ja;split<;>omega
   have L:jh w k<=m:=by unfold jh;split<;>omega
   unfold qX;rw[yz,yk,yz,yk,d _ G,d _ L];congr 2;congr 1;exact JG λi j a z=>pG U Y cnt (λr I=>(h r I).1) O a z (J k i j O (by rw[yz];exact a)<|by rw[yk];exact z)
  rw[P,H]
 have l : ∀k,i6 (qf A N) k<=60:=λk=>by have:=QI (qf A N) (k:Int);unfold i6;omega
 have pr : ∀k,k<m+1->Pair p (i6 (qf A N) k) (qV A N k) (g k):=λk O=>by
  obtain⟨u1,u2,u3⟩:=h k ⋯;rw[d k ⋯];refine⟨λi j a z=>?_,λi j _ _=>u3 i j,u1,u2⟩;have F:j<(l0 A N k).length:=by rw[cnt k ⋯];exact z
  obtain⟨x,y⟩:=WL F;exact(Y _ x).o5 k i y a
 have B : ∀b∈qf A N,bX ((m+1:Nat):Int) b:=λb R=>by obtain⟨j,z,rfl⟩:=MD.mp R;have z:=Mg.mp z;have x:=(Y j z).n1;have y:=(Y j z).le;unfold bX Yx;dsimp only;omega
 have u:=X0 (f:=g) l λk i j O a z=>(pr k O).bg i j a z;have s:=X0 (f:=λr=>qV A N r) l λk i j O a z=>(pr k O).bf i j a z;refine⟨N,A,xG m wd g,xG m wd λr=>qV A N r,Q,E,o,B,d,by rw[e g];exact u,by rw[e λr=>qV A N r];exact s,K,?_⟩;rw[M,e g,e λr=>qV A N r];rw[yi U.pos U.le S l (λk i j _ _ _=>ao U.pos _ _ _ _ _ _ _ _) ⋯ u s,Wg U B o pr]
theorem aQ{bs:List (Int×Int)}(h : ∀b∈bs,bX ((m+1:Nat):Int) b)(r:Nat):jz bs (r:Int)=bL bs r:=by
 unfold jz bL qP l0;refine Tc λj z=>?_;have z:=Mg.mp z;obtain⟨e,a,d⟩:=lH h z;have I:bs.getD j (0,0)=((bS bs j:Int),(bE bs j:Int)):=by rw[Mm,e];rfl
 rw[I];show Kv _ _=(decide (bS bs j<=r) && decide (r<bS bs j+(bE bs j - bS bs j+1)));unfold Kv;dsimp only;congr 1
 ·exact decide_eq_decide.mpr ⋯
 ·exact decide_eq_decide.mpr ⋯
theorem Eh{bs:List (Int×Int)}(h : ∀b∈bs,bX ((m+1:Nat):Int) b)(p:Int)(w:UK):BR p m w bs=jA p m w (bW bs) (bT w bs):=by
 have a:=aQ h;rw[rS];unfold jA;congr 1;have z : ∀r,i6 bs r=bW bs r:=λr=>by unfold i6 bW ic;rw[a]
 have d:(zH (m+1) λk=>(i6 bs k:Int))=zH (m+1) λk=>(bW bs k:Int):=xW λr _=>by rw[z]
 have I:jN m w (i6 bs) (t9 w bs)=jN m w (bW bs) (bT w bs):=by unfold jN;refine MA λk _=>?_;unfold qX;rw[yz,yk,yz,yk,z,z];congr 2;congr 1;refine JG λi j e O=>?_;unfold t9 bT md;rw[a,a];have U:i<(bL bs<|jh w k).length:=e;have Y:j<(bL bs<|ja w k).length:=O;simp only[Mm,Mi U,Mi Y,Pn]
 rw[d,I]
end
def vd:List (Int×Int)->Int
 | []=>0
 | b::bs=>b.2 - b.1+1+vd bs
theorem W3{a b:List (Int×Int)}(h:a.Perm b):vd a=vd b:=by
 induction h with
 | nil=>rfl
 | cons x _ z=>simp only[vd,z]
 | swap x y l=>simp only[vd];omega
 | trans _ _ d e=>rw[d,e]
theorem cU(bs:List (Int×Int))(r:Int):(jz bs r).length=(bs.filter λb=>Kv b r).length:=by
 unfold jz;have e:bs=(Me bs.length).map λi=>bs.getD i (0,0):=(jk _ _).symm
 conv=>rhs;rw[e]
 rw[List.filter_map,MF];rfl
theorem fi{b:Int×Int}(z:0<=b.1) : ∀n:Nat,zm (λr=>if Kv b r=eA then 1 else 0) n=max 0 (min (b.2+1) n - b.1)
 | 0=>by simp only[zm];omega
 | n+1=>by have I:=fi z n;simp only[zm,I];unfold Kv;by_cases a:b.1<=(n:Int)<;>by_cases d:(n:Int)<=b.2<;>simp[a,d]<;>omega
theorem ff(m:Nat) : ∀bs:List (Int×Int),(∀b∈bs,bX ((m+1:Nat):Int) b)->zm (λr=>((bs.filter λb=>Kv b r).length:Int)) (m+1)=vd bs
 | [],_=>by simp only[List.filter_nil,MO,vd];exact zV _
 | b::bs,h=>by
  have z:=ff m bs λc I=>h c<|Ms _ I;obtain⟨a,d,O⟩:=h b Mx;have e:zm (λr=>(((b::bs).filter λb=>Kv b r).length:Int)) (m+1)=zm (λr=>(if Kv b r=eA then 1 else 0)+((bs.filter λb=>Kv b r).length:Int)) (m+1):=zA λr _=>by
   by_cases q:Kv b r=eA
   ·rw[List.filter_cons_of_pos (p:=λb=>Kv b r) q,UJ q];simp;omega
   ·rw[List.filter_cons_of_neg (p:=λb=>Kv b r) q,UY q];simp
  rw[e,jI,z,fi a,vd];omega
theorem rT{m:Nat}{bs:List (Int×Int)}(h : ∀b∈bs,bX ((m+1:Nat):Int) b):AH m (jv bs)=vd bs:=by unfold AH;rw[<- W3 (kC bs),<- ff m (jv bs) λb z=>h b ((kC bs).mem_iff.mp z)];exact zA λr _=>by rw[cU]
theorem az : ∀bs:List (Int×Int),fj (bs.map λb=>D.int<|b.2 - b.1+1)=ej (vd bs)
 | []=>rfl
 | b::bs=>by simp[fj,az bs,vd]
theorem W1:vN=jr 4 (zJ b1<|zJ b2<|zJ b3<|zJ T6 Pt):=rfl
section
variable{p:Int}{m:Nat}{w:UK}{bs:List (Int×Int)}
abbrev E3(p:Int)(z:Str)(bs:List (Int×Int)):Ctx:=[.val (.int p),.val (.str z),.val (.lst (zU bs)),.no]
abbrev nr(p:Int)(z:Str)(m:Nat)(bs:List (Int×Int)):Ctx:=[.val (.int p),.val (.str z),.val (.lst (zU bs)),.val (.int ((m+1:Nat):Int))]
theorem CU(p:Int)(z:Str)(bs):jc 4 [.int p,.str z,.lst (zU bs)]=E3 p z bs:=rfl
theorem GW{z:Str}{b:Bool}(h:qK [.str z]=ej (.val<|.bl b)):(jU<|sB<|zD qK<|zb (zc 1) zI) (E3 p z bs)=ej (!b):=by simp[E3,h]
theorem GU{z:Str}(h:qK [.str z]=ej (.val<|.bl eA)):b1 (E3 p z bs)=ej (.next<|E3 p z bs):=by unfold b1;rw[kL,GW h];rfl
theorem GT(C:m<=5):b2 (E3 p (kU m w) bs)=ej (.next<|nr p (kU m w) m bs):=by have z:=vO w (show m<=1000 by omega);simp[b2,E3,nr,z,wO]
theorem GV(z:Str)(I:bs.length<=lim):(jU<|sB<|fK<|jm<|zK (zN<|zh 2) (.nm 0) 1 [3] jb (zD j8<|zb (zc 1)<|zb (zc 0) zI)) (nr p z m bs)=ej (!bs.all (V2 ((m+1:Nat):Int))):=by simp[nr,I,zZ,xA,Ml];rw[show((m:Int)+1)=((m+1:Nat):Int)by omega,fm];simp[KN]
theorem GS(z:Str)(I:bs.length<=lim)(C:bs.all (V2 ((m+1:Nat):Int))=eA):b3 (nr p z m bs)=ej (.next<|nr p z m bs):=by unfold b3;rw[kL,GV z I,C];rfl
theorem pd(bs:List (Int×Int)):zP (.nm 0) jb (zy j3 (zy JI (eL (zh 0)<|zu<|.int 1)<|eL (zh 0)<|zu<|.int 0)<|zu<|.int 1) [Cell.no] (zU bs)=ej (bs.map λb=>D.int<|b.2 - b.1+1):=by unfold zU;refine zw _ _ λb z=>zx rfl rfl ?_;simp[j5,k6]
theorem pD(C:bs.all (V2 ((m+1:Nat):Int))=eA) : ∀b∈bs,bX ((m+1:Nat):Int) b:=λb z=>by have h:=NI.mp C b z;unfold V2 at h;have h:=of_decide_eq_true h;exact⟨h.1,h.2.2.2.2,h.2.2.2.1⟩
theorem Hn(z:Str)(I:bs.length<=lim):(zb (qh<|zK (zN<|zh 2) (.nm 0) 1 [] jb (zy j3 (zy JI (eL (zh 0)<|zu<|.int 1)<|eL (zh 0)<|zu<|.int 0)<|zu<|.int 1)) zI) (nr p z m bs)=ej [.lst (bs.map λb=>D.int<|b.2 - b.1+1)]:=by simp only[jO,qU,vH,qe,qA,jw,nr,Mk,Mn,zO,bO,Mr,Mj,Zq,I,if_true];rw[show zZ 1 [] [Cell.val (D.int p),Cell.val<|D.str z,Cell.val<|D.lst<|zU bs,Cell.val (D.int ((m+1:Nat):Int))]=[Cell.no]from rfl,pd];rfl
theorem LH(h : ¬30<vd bs):xh [.lst (bs.map λb=>D.int<|b.2 - b.1+1)]=ej (.val .gm):=by simp[xh,jr,jc,Ml,j5,az,h]
theorem V1(C:m<=5)(I:bs.length<64)(J:bs.all (V2 ((m+1:Nat):Int))=eA)(z : ¬30<AH m (jv bs)):vN [.int p,.str<|kU m w,.lst (zU bs)]=ej (.val<|BR p m w<|jv bs):=by
 have Y:=ju;rw[rT (pD J)]at z;have O:T6 (nr p (kU m w) m bs)=ej (.next<|nr p (kU m w) m bs):=by show((zD xh _)<|nr p (kU m w) m bs).map _=_;rw[xS,Hn _ ⋯];simp[LH z]
 have U:Pt (nr p (kU m w) m bs)=ej (.ret<|.val<|BR p m w<|jv bs):=by have r:=wg (p:=p) (w:=w) C I;simp[Pt,nr,r]
 rw[W1];exact jg (by rw[CU];exact zo (GU<|rV C w)<|zo (GT C)<|zo (GS _ ⋯ J)<|zo O U)
end
theorem rX:Xz=jr 10 (zJ sg<|zJ sf<|zJ se<|zJ sd<|zJ eD<|zJ rZ<|zJ mz<|zJ my<|zJ rY<|zJ eG eE):=rfl
section
variable{p:Int}{m:Nat}{w:UK}{wd:UX}{T:UW}{bs:List (Int×Int)}
theorem Hk(h : ∀b∈bs,bX ((m+1:Nat):Int) b)(C : ∀r,r<=m->i6 bs r=wd r)(z : ∀k,wd k<=3) : ∀k,bW bs k<=8:=λk=>by
 by_cases I:k<=m
 ·have e:i6 bs k=bW bs k:=by unfold i6 bW ic;rw[aQ h]
  rw[<- e,C k I];have:=z k;omega
 ·have e:bW bs k=0:=by
   unfold bW ic;rw[List.length_eq_zero_iff,List.eq_nil_iff_forall_not_mem];intro j O;obtain⟨a,d⟩:=UL.mp O;have Y:=(lH h a).2;have U:=m4.mp d;have:k<bS bs j+(bE bs j - bS bs j+1):=U.2;omega
  omega
theorem CB(hm:m<=5)(z I O U C J S Z c9:Cell):cK (zu (.str "")) (jm (zK (zN (zW (eL (zh 3) (zu (.int 2))))) (.nm 0) 1 [] jb (eL (zh 0) (zu (.int 0))))) [z,I,O,.val (jA p m w wd T),U,C,J,S,Z,c9]=ej (.str (kU m w)):=by
 have f:=ju;have Y:m<=lim:=by omega
 have st:JZ ((Me m).map λk=>D.str<|qT<|il<|w k)=ej ((Me m).map λk=>qT<|il<|w k):=Jx _ _;have d:((Me m).map λk=>qT<|il<|w k).all j1=eA:=by simp only[NI];intro x a;obtain⟨k,_,rfl⟩:=MD.mp a;unfold il;split<;>decide
 have b:j1 "" = eA:=by decide +kernel
 have e:zW (eL (zh 3)<|zu<|.int 2) [z,I,O,.val<|jA p m w wd T,U,C,J,S,Z,c9]=ej (.T,jN m w wd T):=rfl;simp only[W8,q9,ke,qe,qA,e,Mj,Mr];rw[Zr,UJ Y,show zZ 1 [] [z,I,O,Cell.val<|jA p m w wd T,U,C,J,S,Z,c9]=[Cell.no]from rfl,JR];simp only[Mr,Mj,st];rw[UJ ⟨by simpa using Y,d,b⟩];rfl
theorem GK(J:List Int)(S:J.length<=63):Xz [kc J]=ej (.val<|.bl eA):=by
 have hl:=ju;obtain⟨e1,a1,b1⟩:=ZV S (k:=0) ⋯ ⋯;obtain⟨y1,a2,b2⟩:=ZV S (k:=1) ⋯ ⋯;generalize wJ J 0=c at e1 a1 b1;generalize wJ J 1=d at y1 a2 b2;obtain⟨q,h,ep,d1⟩:=BJ a2;have L:=h.pos;obtain⟨Y,d2,d3⟩ : ∃m:Nat,1+c%5=((m+1:Nat):Int)/\m<=4:=⟨(c%5).toNat,by omega,by omega⟩;obtain⟨M,d4,d5⟩ : ∃m:Nat,1+c/5%5=((m+1:Nat):Int)/\m<=4:=⟨(c/5%5).toNat,by omega,by omega⟩;obtain⟨l,B,F,as,r1⟩:=VW (p:=q) (at_:=1) (m:=Y) S h ⋯ ⋯ ⋯;obtain⟨R,Q,d6,d7,r0⟩:=VW (p:=q) (at_:=80) (m:=M) S h ⋯ ⋯ ⋯;rw[<- d2]at r1;rw[<- d4]at r0;generalize KF J 1=w1 at r1;generalize KF J 80=w0 at r0;obtain⟨f,g,e9,eh⟩:=iE (w:=w1) (wd:=l) (T:=B) S h (show Y<=5 by omega) (λk=>by have:=F k;omega) as;let I:=jA q Y w1 l B;let z:Cell->Cell->Cell->Cell->Cell->Cell->Cell->Ctx:=λc3 c4 c5 c6 c7 c8 c9=>[.val (kc J),.val<|.int c,.val<|.int q,c3,c4,c5,c6,c7,c8,c9];obtain⟨C,E,a,A,ea,W,X,s5⟩ : ∃(C:Nat) (E:UK) (a:UX) (A:UW),C<=4/\(∀k,a k<=3)/\(∀k x y,0<=A k x y/\A k x y<(q:Int))/\eD (z (.val I) (.val<|jA q M w0 R Q) .no .no .no .no .no)=ej (.next<|z (.val I) (.val<|jA q C E a A) .no .no .no .no .no):=by
  by_cases hc:c/25%2=0
  ·exact⟨Y,w1,l,_,d3,F,λk x y=>ao L w1 l f g B k x y,by simp[eD,z,hc,I,eh]⟩
  ·exact⟨M,w0,R,Q,d5,d6,d7,by simp[eD,z,hc]⟩
 let R2:=jA q C E a A;obtain⟨N,A1,Z,bf,eb,D1,N5,a9,bg,ch,ci,cj,DS⟩:=ZX (w:=w1) (wd:=l) (T:=B) (m:=Y) h (λk=>by have:=F k;omega) ⋯ λk i j _ _ _=>as k i j;obtain⟨P,A2,bm,bn,ed,D2,D_,di,dj,cm,co,cq,DT⟩:=ZX (w:=E) (wd:=a) (T:=A) (m:=C) h (λk=>by have:=W k;omega) ⋯ λk i j _ _ _=>X k i j;have l1:(qf A1 N).length=N:=by simp[qf]
 have l2:(qf A2 P).length=P:=by simp[qf]
 generalize ef:qf A1 N=O at N5 a9 bg cj DS l1;generalize qf A2 P=ap at D_ di dj cq DT l2;have S1 : ∀{bs:List (Int×Int)} {o s:List TB},bs.length<64->(∀t∈o,sm (q:Int) t)->(∀t∈s,sm (q:Int) t)->qx [I,qc bs o s]=ej (.val<|.bl<|vm q Y w1 l B bs o s)/\jP [I,qc bs o s]=ej (.val<|.bl<|vm q Y w1 l B bs o s):=λH G K=>
  ⟨aE L h.le ⋯ (λk=>by have:=F k;omega) (λk i j _ _ _=>as k i j) H G K,yi L h.le ⋯ (λk=>by have:=F k;omega) (λk i j _ _ _=>as k i j) H G K⟩
 have S2 : ∀{bs:List (Int×Int)} {o s:List TB},bs.length<64->(∀t∈o,sm (q:Int) t)->(∀t∈s,sm (q:Int) t)->qx [R2,qc bs o s]=ej (.val<|.bl<|vm q C E a A bs o s)/\jP [R2,qc bs o s]=ej (.val<|.bl<|vm q C E a A bs o s):=λH G K=>
  ⟨aE L h.le ⋯ (λk=>by have:=W k;omega) (λk i j _ _ _=>X k i j) H G K,yi L h.le ⋯ (λk=>by have:=W k;omega) (λk i j _ _ _=>X k i j) H G K⟩
 have bv:=S1 (bs:=O) ⋯ ch ci;have bx:=S2 (bs:=ap) ⋯ cm co;have c0:=S1 (bs:=ap) ⋯ cm co;have c1:=S2 (bs:=O) ⋯ ch ci;have dk:vm q Y w1 l B O Z bf=eA:=by have:=bv.2.symm.trans DS;injection this with this;injection this with this;injection this
 have dl:vm q C E a A ap bm bn=eA:=by have:=bx.2.symm.trans DT;injection this with this;injection this with this;injection this
 rw[dk]at bv;rw[dl]at bx;generalize vm q Y w1 l B ap bm bn=eg at c0;generalize vm q C E a A O Z bf=ei at c1;have dn:=Hk a9 bg F;have Dl:=om (p:=(q:Int)) (w:=w1) (m:=Y) h λj hj=>(lH a9 hj).2;obtain⟨N3,A3,ek,el,_,D3,dt,_,_,_,_,ct,_⟩:=ZX (w:=w1) (wd:=bW O) (T:=bT w1 O) (m:=Y) h dn ⋯ λk i j _ _ _=>oo h k i j;have kl:qf (dC (bS O) (bE O) O.length) O.length=O:=by
  conv=>rhs;rw[Ac a9]
  unfold qf;refine MA λj hj=>?_;have:=(lH a9<|Mg.mp hj).2.1;show((bS O j:Int),((bS O j+(bE O j - bS O j+1) - 1:Nat):Int))=_;rw[show bS O j+(bE O j - bS O j+1) - 1=bE O j by omega]
 have ku:=ie h D3 Dl dt (by rw[kl];exact N5);rw[kl]at ku;have bR:vN [.int q,.str<|kU Y w1,.lst (zU O)]=ej (.val<|jA q Y w1 (bW O)<|bT w1 O):=by
  have hs : ¬30<AH Y (jv O):=by
   rw[N5];have : ∀n,n<=Y+1->zm (λr=>((jz O (r:Int)).length:Int)) n<=3*n:=by
    intro n
    induction n with
    | zero=>intro _;simp[zm]
    | succ n ih=>
     intro hn;have H:=ih ⋯;have G:(jz O (n:Int)).length=l n:=bg n ⋯;have K:=F n;simp only[zm];rw[G];omega
   have:=this (Y+1)<|Mp _;unfold AH;omega
  rw[V1 ⋯ ⋯ (NI.mpr λb hb=>sE<|a9 b hb) hs,N5,Eh a9]
 let e:=qc O Z bf;let u:=qc ap bm bn;let U:D:= .lst [e,u];have s7:mz (z (.val I) (.val R2) (.val U) .no .no .no .no)=ej (.next<|z (.val I) (.val R2) (.val U) .no .no .no .no):=by have q1:=bv.1;have q2:=bx.1;have nt:Xo (.bl eA) (.bl eA)=ej (.bl eK):=rfl;simp[mz,z,U,e,u,k6,q1,q2,nt]
 have s8:my (z (.val I) (.val R2) (.val U) .no .no .no .no)=ej (.next<|z (.val I) (.val R2) (.val U) (.val R2) (.val e) .no .no):=by
  have src:(zN<|zW<|qh<|kG<|zb (qW<|zb (zc 3)<|zb (eL (zh 5)<|zu<|.int 1) zI)<|zb (qW<|zb (zc 4)<|zb (eL (zh 5)<|zu<|.int 0) zI) zI) (z (.val I) (.val R2) (.val U) .no .no .no .no)=ej [.tup [I,u],.tup [R2,e]]:=by simp[z,U,k6]
  have bb : ∀b:Bool,i7 (.bl b) (.bl b)=ej (.bl eK):=λb=>Yj rfl;have u1:YB (z (.val I) (.val R2) (.val U) (.val I) (.val u) .no .no)=ej (.next<|z (.val I) (.val R2) (.val U) (.val I) (.val u) .no .no):=by simp[YB,z,u,c0.1,c0.2,bb]
  have u2:YB (z (.val I) (.val R2) (.val U) (.val R2) (.val e) .no .no)=ej (.next<|z (.val I) (.val R2) (.val U) (.val R2) (.val e) .no .no):=by simp[YB,z,e,c1.1,c1.2,bb]
  unfold my;rw[KA,src,Mj,jM,show xH (.tp [6,7]) (.tup [I,u]) (z (.val I) (.val R2) (.val U) .no .no .no .no)=ej (z (.val I) (.val R2) (.val U) (.val I) (.val u) .no .no)from rfl];simp only[Mj,u1];rw[jM,show xH (.tp [6,7]) (.tup [R2,e]) (z (.val I) (.val R2) (.val U) (.val I) (.val u) .no .no)=ej (z (.val I) (.val R2) (.val U) (.val R2) (.val e) .no .no)from rfl];simp only[Mj,u2];rfl
 rw[rX];refine jg<|zo (γ':=[.val (kc J),.val<|.int c,.no,.no,.no,.no,.no,.no,.no,.no]) (by simp[sg,jc,e1])<|zo (γ':=z .no .no .no .no .no .no .no) (by simp[sf,z,y1,d1,ep])<|zo (γ':=z (.val I) .no .no .no .no .no .no) (by simp[se,z,r1,I])<|zo (γ':=z (.val I) (.val<|jA q M w0 R Q) .no .no .no .no .no) (by simp[sd,z,r0])<|zo s5<|zo (γ':=z (.val I) (.val R2) (.val U) .no .no .no .no) (by simp[rZ,z,I,R2,cj,cq,U,e,u])<|zo s7<|zo s8<|zo (γ':=z (.val I) (.val R2) (.val U) (.val R2) (.val e) (.val<|.str<|kU Y w1) .no) ?_ (zo (γ':=z (.val I) (.val R2) (.val U) (.val R2) (.val e) (.val<|.str<|kU Y w1)<|.val<|jA q Y w1 (bW O)<|bT w1 O) ?_ ?_)
 ·unfold rY
  rw[ve,show z (.val I) (.val R2) (.val U) (.val R2) (.val e) .no .no=[.val (kc J),.val<|.int c,.val<|.int q,.val<|jA q Y w1 l B,.val R2,.val U,.val R2,.val e,.no,.no]from rfl,CB ⋯];rfl
 ·simp[eG,z,I,yo,U,e,qc,k6,bR]
 ·rw[ku]at ct
  simp[eE,z,U,e,qc,k6,ct,oU (yv O)]
end
open PySem.Spec PyProof.Rows
noncomputable def top(i:Nat):PySem.Stmt:=PySem.Challenge.pw_barsplit_k33_whole_told_papers_stand.main.body.getD i<|.Pass ⟨0,0,0,0⟩
section
variable{CR CL:PySem.Addr}{P:PySem.Program}{w:PySem.World}{K:Mf}{mg:PySem.Str->Option PySem.Value}{base:PySem.Heap}
theorem WH(h:us.length=n+1) : ∃a t,us=a::t/\t.length=n:=by
 cases us with
 | nil=>exact absurd h<|Nat.zero_ne_add_one n
 | cons a t=>exact⟨a,t,rfl,Nat.succ.inj h⟩
theorem Ma(h:us.length=1) : ∃a,us=[a]:=by obtain⟨a,I,rfl,z⟩:=WH h;rw[Nk z];exact⟨a,rfl⟩
theorem LZ(h:us.length=2) : ∃a b,us=[a,b]:=by obtain⟨a,I,rfl,z⟩:=WH h;obtain⟨b,O,rfl,d⟩:=WH z;rw[Nk d];exact⟨a,b,rfl⟩
theorem LY(h:us.length=3) : ∃a b c,us=[a,b,c]:=by obtain⟨a,I,rfl,z⟩:=WH h;obtain⟨b,O,rfl,d⟩:=WH z;obtain⟨c,U,rfl,e⟩:=WH d;rw[Nk e];exact⟨a,b,c,rfl⟩
theorem LX(h:us.length=4) : ∃a b c d,us=[a,b,c,d]:=by obtain⟨a,O,rfl,z⟩:=WH h;obtain⟨b,U,rfl,e⟩:=WH z;obtain⟨c,Y,rfl,f⟩:=WH e;obtain⟨d,g,rfl,I⟩:=WH f;rw[Nk I];exact⟨a,b,c,d,rfl⟩
theorem LW{C:Type}{us:List C}(h:us.length=5) : ∃a b c d e,us=[a,b,c,d,e]:=by obtain⟨a,U,rfl,z⟩:=WH h;obtain⟨b,Y,rfl,f⟩:=WH z;obtain⟨c,i,rfl,g⟩:=WH f;obtain⟨d,j,rfl,I⟩:=WH g;obtain⟨e,k,rfl,O⟩:=WH I;rw[Nk O];exact⟨a,b,c,d,e,rfl⟩
structure E0(K:Mf)(mg:PySem.Str->Option PySem.Value):Prop where
 Q0:ij K mg "_law_cell" (top 62) ["_law_script","_law_k"]
 Q1:ij K mg "_law_any_row" (top 75) ["_law_script","_law_p","_law_at","_law_rooms","_law_most"]
 Q2:ij K mg "ask_together" (top 22) ["widths"]
 Q3:ij K mg "bars_in" (top 28) ["bars","room"]
 Q4:ij K mg "bar_table" (top 29) ["end","beginning"]
 Q5:ij K mg "end_of" (top 19) ["k","way"]
 Q6:ij K mg "beginning_of" (top 18) ["k","way"]
 Q7:ij K mg "row_of_bars" (top 30) ["p","ways","bars"]
 Q8:ij K mg "are_ways" (top 26) ["ways"]
 Q9:ij K mg "is_listed" (top 9) ["things","many"]
 Qa:ij K mg "is_whole" (top 6) ["x"]
 Qb:ij K mg "is_room" (top 20) ["many","k"]
 Qc:ij K mg "is_stretch" (top 27) ["many","bar"]
 Qd:ij K mg "bar_row" (top 31) ["p","ways","bars"]
 Qe:ij K mg "_law_times" (top 63) ["_law_p","_law_one","_law_other"]
 Qf:ij K mg "_law_in_turns" (top 70) ["_law_told","_law_turns","_law_backs"]
 Qg:ij K mg "_law_turn" (top 65) ["_law_script","_law_at","_law_p","_law_many"]
 Qh:ij K mg "_law_hidden" (top 71) ["_law_script","_law_at","_law_told"]
 Qi:ij K mg "behind_noughts" (top 41) ["many","base"]
 Qj:ij K mg "rests" (top 7) ["p","numbers"]
 Qk:ij K mg "inverse" (top 8) ["p","x"]
 Ql:ij K mg "cleared" (top 39) ["p","load","pivot","place"]
 Qm:ij K mg "base_of" (top 40) ["p","long","loads"]
 Qn:ij K mg "turned_over" (top 12) ["table"]
 Qo:ij K mg "same_table" (top 13) ["many"]
 Qp:ij K mg "led_into" (top 42) ["p","table","base"]
 Qq:ij K mg "kernel" (top 43) ["p","table"]
 Qr:ij K mg "image" (top 44) ["p","table"]
 Qs:ij K mg "columns" (top 51) ["high","loads"]
 Qt:ij K mg "has_room" (top 49) ["bar","room"]
 Qu:ij K mg "loads_in" (top 50) ["bars","room"]
 Qv:ij K mg "lead_of" (top 38) ["load"]
 Qw:ij K mg "led" (top 10) ["p","table","load"]
 Qx:ij K mg "mixed_load" (top 52) ["row","bars","times","room"]
 Qy:ij K mg "mixed" (top 53) ["row","bars","times"]
 Qz:ij K mg "settled" (top 54) ["row","k","bars"]
 P':ij K mg "solved" (top 45) ["p","table","load"]
 P_:ij K mg "next_load" (top 55) ["p","arrow","load"]
 Q_:ij K mg "taken_on" (top 56) ["p","arrow","bar"]
 R_:ij K mg "new_loads" (top 57) ["p","arrow"]
 S':ij K mg "grown" (top 58) ["row","k","bars"]
 S_:ij K mg "stretch_of" (top 48) ["bar"]
 T_:ij K mg "all_grown" (top 59) ["row"]
 U':ij K mg "back_of" (top 46) ["p","table"]
 U_:ij K mg "barred" (top 60) ["row"]
 V':ij K mg "product" (top 11) ["p","one","other"]
 V_:ij K mg "arrow_in_turns" (top 23) ["p","k","arrow","turns","backs"]
 W_:ij K mg "in_turns" (top 24) ["row","turns","backs"]
 X':ij K mg "are_bars" (top 33) ["many","bars"]
 X_:ij K mg "is_turn" (top 34) ["p","width","turn","back"]
 Y':ij K mg "are_turns" (top 35) ["row","turns","backs"]
 Y_:ij K mg "ways_of" (top 21) ["row"]
 Z':ij K mg "shows_bars" (top 36) ["row","paper"]
 Z_:ij K mg "_law_with" (top 68) ["_law_found","_law_room"]
 _a:ij K mg "_law_bar_row" (top 69) ["_law_p","_law_ways_here","_law_found"]
 _b:ij K mg "_law_same" (top 64) ["_law_many"]
 _c:ij K mg "_law_whole" (top 72) ["_law_found"]
 _d:ij K mg "_law_is_table" (top 73) ["_law_p","_law_found","_law_high","_law_wide"]
 _e:ij K mg "_law_paper_right" (top 74) ["_law_told","_law_found"]
 _g:ij K mg "law" (top 76) ["_law_script"]
 Z0:mg "len" = eF
 Z1:mg "min" = eF
 Z2:mg "range" = eF
 Z3:mg "tuple" = eF
 Z4:mg "sum" = eF
 Z5:mg "enumerate" = eF
 Z6:mg "sorted" = eF
 Z7:mg "all" = eF
 Z8:mg "isinstance" = eF
 Z9:mg "str" = eF
 Za:mg "list" = eF
 Zb:mg "bool" = eF
 Zc:mg "int" = eF
 Zd:mg "zip" = eF
 Ze:mg "any" = eF
 Zf:mg "dict" = eF
 G0:GL K mg "MOST_TOGETHER" (.int 30)
 G1:GL K mg "MOST_ROOMS" (.int 6)
 G2:GL K mg "WAYS" (.tup [.str "r",.str "l"])
theorem xO(E:E0 K mg):hH P w K mg base 1 "_law_cell" 2 z9:=
 xC (N:=["_law_script","_law_k","_law_cell_here","_law_turn_here","_law_given"]) E.Q0 ⋯ λX I b O a U z d=>by subst I b O a U;exact by refine zf (jS (wB (fU (Y3 (qj z ⋯ E.Z0 (zR z)) zg) (aN (kg z (j7 (zC (zR z) zg) zg) zg)))) (by refine zf (jK z (zC (zR z) (jo zg (j7 (zv z) (vo (qj z ⋯ E.Z0 (zR z)) zg))))) ?_;refine zf (kh d z (jC z ⋯ E.Z2 (Bw z ⋯ E.Z1 zg (vc (zv z) (vo (qj z ⋯ E.Z0 (zR z)) zg)))) (zq (jK z (vc (zv z) (fW zg zg))))) ?_;exact(zq (zF (j7 (zv z) (fW zg zg))))) z5) ?_;refine zf (jK z (zv z)) ?_;refine zf (jS (Y3 (qj z ⋯ E.Z0 (zR z)) zg) (zq (jK z (zC (zR z) (j7 (zv z) (qj z ⋯ E.Z0 (zR z)))))) z5) ?_;exact(zq (zF (j7 (qS (j7 (jo (jo (jo (qS (j7 (zv z) (fW zg zg)) zg) (qS (qS zg (zv z)) (zv z))) (qS zg (zv z))) zg) zg) zg) zg)))
theorem yu(E:E0 K mg):hH P w K mg base 2 "_law_any_row" 5 qH:=
 xC (N:=["_law_script","_law_p","_law_at","_law_rooms","_law_most","_law_widths","_law_arrows","_law_k","_law_cell_here","_law_begin","_law_end","_law_rows","_law_step","_law_far"]) E.Q1 ⋯ λX I e O d U z b=>by subst I e O d U;exact by refine zf (jt 5 (kH z (ji.c (jC z ⋯ E.Z2 (zv z))) (λ_ _ _ a=>j7 (vc (zX (xO E) a (za (zv a) (za (jo (jo (zv a) zg) (zv a)) zk))) zg) (jo (zv a) zg)))) ?_;refine zf (Je z (yq (ki zk))) ?_;refine zf (kh b z (jC z ⋯ E.Z2 (vo (zv z) zg)) (by refine zf (jK z (zX (xO E) z (za (zv z) (za (jo (jo (zv z) zg) (zv z)) zk)))) ?_;refine zf (jK z (zC (zR z) (jo (zv z) (j7 (zv z) zg)))) ?_;refine zf (jK z (zC (zR z) (vo (jo (zv z) zg) (j7 (zv z) zg)))) ?_;refine zf (pZ z (ji.c (jC z ⋯ E.Z2 (zv z))) (λ_ _ _ a=>ql a (ji.c (jC a ⋯ E.Z2 (zv a))) (λ_ _ _ _=>zg))) ?_;refine zf (kh b z (jC z ⋯ E.Z2 (jo (j7 (vc (zv z) zg) (jo (qS (zv z) (zv z)) zg)) zg)) (by refine zf (jK z (zX (xO E) z (za (zv z) (za (jo (jo (jo (zv z) zg) (qS zg (zv z))) (zv z)) zk)))) ?_;exact(zq (jS (Y3 (qS (zv z) (zv z)) zg) (zq (ng 11 z ⋯ (j7 (zv z) (zv z)) (j7 (vc (zv z) zg) (zv z)) (j7 (vc (zv z) zg) (zv z)))) z5)))) ?_;refine zf (jS (wB (fU (kg z (j7 (vc (zv z) zg) zg) zg) (aN (Y3 (zv z) zg)))) (zq (nj 11 z ⋯ (vo (zv z) zg) (ql z (zY (BH 11 z ⋯ zg)) (λ_ _ _ a=>j7 (qS (vc (zv a) zg) (zv a)) (zv a))))) z5) ?_;exact(zq (aP 11 (QG 6 z ⋯ (jJ (ki (za (mR kY (j7 (zv z) zg)) (za (jJ (ki (za (zv z) (za (zv z) (za (je z ⋯ E.Z3 (PO.q (ql z (zY (zR z)) (λ_ _ _ a=>je a ⋯ E.Z3 (zR a))))) zk))))) zk))))))))) ?_;exact(zq (zF (jJ (ki (za (zv z) (za (je z ⋯ E.Z3 (zR z)) (za (je z ⋯ E.Z3 (zR z)) zk)))))))
theorem QN(E:E0 K mg):hH P w K mg base 1 "ask_together" 1 xh:=
 xC (N:=["widths"]) E.Q2 ⋯ λX I b O a U z d=>by subst I b O a U;exact zq (jS (Y3 (fV z ⋯ E.Z4 (zR z)) (tE z ⋯ E.G0)) (zq wY) z5)
theorem de(E:E0 K mg):hH P w K mg base 1 "bars_in" 2 yH:=
 xC (N:=["bars","room"]) E.Q3 ⋯ λX I d O b U z e=>by subst I d O b U;exact zq (xx (Y7 z (ji.c (Wn z ⋯ E.Z5 (zv z))) (λ_ _ _ a=>Y4 XG XG we we (zC (zR a) zg) (zv a) (zC (zR a) zg)) (λ_ _ _ a=>zv a)))
theorem Vj(E:E0 K mg):hH P w K mg base 1 "bar_table" 2 kN:=
 xC (N:=["end","beginning","rows"]) E.Q4 ⋯ λX I e O d U z f=>by subst I e O d U;exact by refine zf (jt 2 (kH z (zY (zR z)) (λ_ _ _ a=>je a ⋯ E.Z3 (PO.q (ql a (zY (zR a)) (λ_ _ _ b=>ko (kg b (zv b) (zv b)) zg zg)))))) ?_;exact(zq (zF (jJ (ki (za (qj z ⋯ E.Z0 (zR z)) (za (qj z ⋯ E.Z0 (zR z)) (za (je z ⋯ E.Z3 (zR z)) zk)))))))
theorem Vi(E:E0 K mg):hH P w K mg base 1 "end_of" 2 wb:=
 xC (N:=["k","way"]) E.Q5 ⋯ λX I b O a U z d=>by subst I b O a U;exact zq (zF (ko (kg z (zv z) kY) (jo (zv z) zg) (zv z)))
theorem vq(E:E0 K mg):hH P w K mg base 1 "beginning_of" 2 qJ:=
 xC (N:=["k","way"]) E.Q6 ⋯ λX I b O a U z d=>by subst I b O a U;exact zq (zF (ko (kg z (zv z) kY) (zv z) (jo (zv z) zg)))
theorem wj(E:E0 K mg):hH P w K mg base 2 "row_of_bars" 3 xD:=
 xC (N:=["p","ways","bars","listed","rooms","arrows"]) E.Q7 ⋯ λX I d O b U z e=>by subst I d O b U;exact by refine zf (jK z (PO.v (K2 z ⋯ E.Z6 (zR z)))) ?_;refine zf (jt 4 (kH z (ji.c (jC z ⋯ E.Z2 (jo (KZ z ⋯ E.Z0 (zv z)) zg))) (λ_ _ _ a=>PO.v (kR (de E) a (za (zv a) (za (zv a) zk)))))) ?_;refine zf (jt 5 (kH z (ji.c (gr z ⋯ E.Z5 (zv z))) (λ_ _ _ a=>jJ (ki (za (zv a) (za (zX (Vj E) a (za (zC (zR a) (zX (Vi E) a (za (zv a) (za (zv a) zk)))) (za (zC (zR a) (zX (vq E) a (za (zv a) (za (zv a) zk)))) zk))) zk)))))) ?_;exact(zq (zF (jJ (ki (za (zv z) (za (je z ⋯ E.Z3 (PO.q (ql z (zY (zR z)) (λ_ _ _ a=>qj a ⋯ E.Z0 (zR a))))) (za (je z ⋯ E.Z3 (zR z)) zk)))))))
theorem Wu(E:E0 K mg):hH P w K mg base 1 "are_ways" 1 qK:=
 xC (N:=["ways"]) E.Q8 ⋯ λX I d O b U z e=>by subst I d O b U;exact by refine zf (jS (wB (qY (jR (jG (fX z ⋯ E.Z8 ⋯ E.Z9 (zv z)))) (xM (BA (KZ z ⋯ E.Z0 (zv z)) (tE z ⋯ E.G1))))) (zq (zF yh)) z5) ?_;exact(zq (zF (Kd z ⋯ E.Z7 (PO.q (ql z (ji.c (tZ (zv z))) (λ_ _ _ a=>Bx (zv a) (PV.q (tE a ⋯ E.G2))))))))
theorem Vh(E:E0 K mg):hH P w K mg base 1 "is_listed" 2 y8:=
 xC (N:=["things","many"]) E.Q9 ⋯ λX I b O a U z d=>by subst I b O a U;exact zq (zF (Kc (tx z ⋯ E.Z8 ⋯ E.Za ⋯ E.Z3 (zv z)) (X9 (wX z (qj z ⋯ E.Z0 (zR z)) (zv z)))))
theorem Wr(E:E0 K mg):hH P w K mg base 1 "is_whole" 1 v9:=
 xC (N:=["x"]) E.Qa ⋯ λX I b O a U z d=>by subst I b O a U;exact zq (zF (Kc (Y2 z ⋯ E.Z8 ⋯ E.Zc (zv z)) (X9 (pU (Ka z ⋯ E.Z8 ⋯ E.Zb (zv z))))))
theorem Kk(E:E0 K mg):hH P w K mg base 2 "is_room" 2 vM:=
 xC (N:=["many","k"]) E.Qb ⋯ λX I b O a U z d=>by subst I b O a U;exact zq (zF (Kc (zX (Wr E) z (za (zv z) zk)) (X9 (K0 XG nL we aC zg (zv z) (zv z)))))
theorem w6(E:E0 K mg):hH P w K mg base 3 "is_stretch" 2 j8:=
 xC (N:=["many","bar"]) E.Qc ⋯ λX I b O a U z d=>by subst I b O a U;exact by refine zf (jS (wB (qY (jR (jG (zX (Vh E) z (za (zv z) (za zg zk))))) (qY (jR (jG (zX (Kk E) z (za (zv z) (za (zC (zR z) zg) zk))))) (xM (jR (jG (zX (Kk E) z (za (zv z) (za (zC (zR z) zg) zk))))))))) (zq (zF yh)) z5) ?_;exact(zq (zF (Gj (zC (zR z) zg) (zC (zR z) zg))))
theorem df(E:E0 K mg):hH P w K mg base 4 "bar_row" 3 vN:=
 xC (N:=["p","ways","bars","many"]) E.Qd ⋯ λX I d O b U z e=>by subst I d O b U;exact by refine zf (jS (jR (jG (zX (Wu E) z (za (zv z) zk)))) (zq wY) z5) ?_;refine zf (jK z (jo (KZ z ⋯ E.Z0 (zv z)) zg)) ?_;refine zf (jS (jR (jG (Kd z ⋯ E.Z7 (PO.q (ql z (zY (zR z)) (λ_ _ _ a=>zX (w6 E) a (za (zv a) (za (zv a) zk)))))))) (zq wY) z5) ?_;refine zf (nq (zX (QN E) z (za (PO.v (ql z (zY (zR z)) (λ_ _ _ a=>jo (vo (zC (zR a) zg) (zC (zR a) zg)) zg))) zk))) ?_;exact(zq (zF (zX (wj E) z (za (zv z) (za (zv z) (za (zv z) zk))))))
theorem kJ(E:E0 K mg):hH P w K mg base 1 "_law_times" 3 jB:=
 xC (N:=["_law_p","_law_one","_law_other","_law_columns_told","_law_rows","_law_row"]) E.Qe ⋯ λX I e O d U z f=>by subst I e O d U;exact by refine zf (jt 3 (kH z (ji.c (jC z ⋯ E.Z2 (zC (zR z) zg))) (λ_ _ _ a=>PO.v (ql a (zY (PV.q (zC (zR a) zg))) (λ_ _ _ b=>zC (zR b) (zv b)))))) ?_;refine zf (Je z (yq (ki zk))) ?_;refine zf (kh f z (ZG (zC (zR z) zg)) (zq (QG 4 z ⋯ (je z ⋯ E.Z3 (PO.q (ql z (zY (zR z)) (λ_ _ _ a=>j7 (fV a ⋯ E.Z4 (PO.q (ql a (ji.c (Jf a ⋯ E.Zd (zv a) (zv a))) (λ_ _ _ b=>qS (zv b) (zv b))))) (zv a)))))))) ?_;exact(zq (zF (jJ (ki (za (zC (zR z) zg) (za (zC (zR z) zg) (za (je z ⋯ E.Z3 (zR z)) zk)))))))
theorem k7(E:E0 K mg):hH P w K mg base 2 "_law_in_turns" 3 qu:=
 xC (N:=["_law_told","_law_turns","_law_backs","_law_p","_law_widths","_law_arrows","_law_made","_law_k","_law_pair","_law_begin","_law_end"]) E.Qf ⋯ λX I b O a U z d=>by subst I b O a U;exact by refine zf (K1 (FO z) (zv z)) ?_;refine zf (Je z (yq (ki zk))) ?_;refine zf (kh d z (Ki z ⋯ E.Z5 (zv z)) (by refine zf (jK z (jo (zv z) (vp z ⋯ E.Zc (wX z (zC (zR z) zg) kY)))) ?_;refine zf (jK z (jo (zv z) (vp z ⋯ E.Zc (wX z (zC (zR z) zg) kY)))) ?_;exact(zq (QG 6 z ⋯ (jJ (ki (za (zC (zR z) zg) (za (zX (kJ E) z (za (zv z) (za (zX (kJ E) z (za (zv z) (za (zC (zR z) (zv z)) (za (zC (zR z) zg) zk)))) (za (zC (zR z) (zv z)) zk)))) zk)))))))) ?_;exact(zq (zF (jJ (ki (za (zv z) (za (zv z) (za (je z ⋯ E.Z3 (zR z)) zk)))))))
theorem XH(E:E0 K mg):hH P w K mg base 2 "_law_turn" 4 xE:=
 xC (N:=["_law_script","_law_at","_law_p","_law_many","_law_turn_here","_law_back","_law_step","_law_cell_here","_law_a","_law_b","_law_by","_law_undo","_law_row","_law_told","_law_rows"]) E.Qg ⋯ λX I f O e U z d=>by subst I f O e U;exact by refine zf (aO 4 (kH z (ji.c (jC z ⋯ E.Z2 (zv z))) (λ_ _ _ a=>PO.v (ql a (ji.c (jC a ⋯ E.Z2 (zv a))) (λ_ _ _ b=>vp b ⋯ E.Zc (wX b (zv b) (zv b))))))) ?_;refine zf (pZ z (ji.c (jC z ⋯ E.Z2 (zv z))) (λ_ _ _ a=>ql a (ji.c (jC a ⋯ E.Z2 (zv a))) (λ_ _ _ b=>vp b ⋯ E.Zc (wX b (zv b) (zv b))))) ?_;refine zf (kh d z (jC z ⋯ E.Z2 (qS zg (zv z))) (by refine zf (jK z (zX (xO E) z (za (zv z) (za (jo (zv z) (zv z)) zk)))) ?_;refine zf (jK z (j7 (zv z) (zv z))) ?_;refine zf (jK z (j7 (vc (zv z) (zv z)) (zv z))) ?_;refine zf (jK z (jo zg (j7 (vc (zv z) zg) (vo (zv z) zg)))) ?_;exact(zq (jS (kg z (zv z) (zv z)) (by refine zf (QF 4 z ⋯ (zv z) (PO.v (ql z (zY (PV.q (zC (zR z) (zv z)))) (λ_ _ _ a=>j7 (qS (zv a) (zv a)) (zv a))))) ?_;refine zf (jK z (zC (PO.q (Y7 z (ji.c (jC z ⋯ E.Z2 (zv z))) (λ_ _ _ a=>kg a (j7 (qS (zv a) (zv a)) (zv a)) zg) (λ_ _ _ a=>zv a))) zg)) ?_;exact(zq (Kg 5 12 (gG d) z.calm z ⋯ ⋯ (z.DY 12 ⋯) (zv z) (j7 (qS (zC (zR z) (zv z)) (zv z)) (zv z))))) (by refine zf (QF 4 z ⋯ (zv z) (PO.v (ql z (ji.c (Jf z ⋯ E.Zd (zC (zR z) (zv z)) (zC (zR z) (zv z)))) (λ_ _ _ a=>j7 (jo (zv a) (qS (zv a) (zv a))) (zv a))))) ?_;exact(zq (Kg 5 12 (gG d) z.calm z ⋯ ⋯ (z.DY 12 ⋯) (zv z) (j7 (vo (zC (zR z) (zv z)) (qS (zv z) (zC (zR z) (zv z)))) (zv z))))))))) ?_;refine zf (Je z (yq (ki zk))) ?_;refine zf (aP 5 (tK 4 (kh d z (ZG (PO.v (yq (ki (za (zv z) (za (zv z) zk)))))) (zq (QG 13 z ⋯ (jJ (ki (za (zv z) (za (zv z) (za (je z ⋯ E.Z3 (PO.q (ql z (zY (zR z)) (λ_ _ _ a=>je a ⋯ E.Z3 (zR a))))) zk)))))))))) ?_;exact(zq (JB 13 (z.var ⋯)))
theorem K6(E:E0 K mg):hH P w K mg base 3 "_law_hidden" 3 yc:=
 xC (N:=["_law_script","_law_at","_law_told","_law_pairs"]) E.Qh ⋯ λX I d O b U z e=>by subst I d O b U;exact by refine zf (jt 3 (kH z (ji.c (Ki z ⋯ E.Z5 (zC (zR z) zg))) (λ_ _ _ a=>PO.v (kR (XH E) a (za (zv a) (za (jo (zv a) (qS zg (zv a))) (za (zC (zR a) zg) (za (zv a) zk)))))))) ?_;exact(zq (zF (zX (k7 E) z (za (zv z) (za (PO.v (ql z (zY (zR z)) (λ_ _ _ a=>zC (zR a) zg))) (za (PO.v (ql z (zY (zR z)) (λ_ _ _ a=>zC (zR a) zg))) zk))))))
theorem ZK(E:E0 K mg):hH P w K mg base 1 "behind_noughts" 2 xi:=
 xC (N:=["many","base"]) E.Qi ⋯ λX I d O b U z e=>by subst I d O b U;exact zq (xx (Y7 z (zY (zR z)) (λ_ _ _ a=>jR (jG (pW a ⋯ E.Ze (PV.q (QE (zv a) wD (wC (zv a))))))) (λ_ _ _ a=>QE (zv a) (wC (zv a)) wD)))
theorem JC(E:E0 K mg):hH P w K mg base 1 "rests" 2 kf:=
 xC (N:=["p","numbers"]) E.Qj ⋯ λX I d O b U z e=>by subst I d O b U;exact zq (zF (je z ⋯ E.Z3 (PO.q (ql z (zY (zR z)) (λ_ _ _ a=>j7 (zv a) (zv a))))))
theorem dc(E:E0 K mg):hH P w K mg base 1 "inverse" 2 Zw:=
 xC (N:=["p","x","y"]) E.Qk ⋯ λX I b O a U z d=>by subst I b O a U;exact by refine zf (kh d z (nA z ⋯ E.Z2 zg (zv z)) (zq (jS (kg z (j7 (qS (zv z) (zv z)) (zv z)) zg) (zq (JB 2 (z.var ⋯))) z5))) ?_;exact(zq wY)
theorem Kl(E:E0 K mg):hH P w K mg base 2 "cleared" 4 xf:=
 xC (N:=["p","load","pivot","place","much"]) E.Ql ⋯ λX I d O b U z e=>by subst I d O b U;exact by refine zf (jK z (zC (zR z) (zv z))) ?_;refine zf (jS (kg z (zv z) zg) (zq (JB 1 (z.var ⋯))) z5) ?_;exact(zq (zF (zX (JC E) z (za (zv z) (za (PO.v (ql z (ji.c (Jf z ⋯ E.Zd (zv z) (zv z))) (λ_ _ _ a=>vo (zv a) (qS (zv a) (zv a))))) zk)))))
theorem vS(E:E0 K mg):hH P w K mg base 3 "base_of" 3 ka:=
 xC (N:=["p","long","loads","left","base","place","leading","times","pivot"]) E.Qm ⋯ λX I d O b U z e=>by subst I d O b U;exact by refine zf (jt 3 (kH z (zY (zR z)) (λ_ _ _ a=>zX (JC E) a (za (zv a) (za (zv a) zk))))) ?_;refine zf (Je z (yq (ki zk))) ?_;refine zf (kh e z (jC z ⋯ E.Z2 (zv z)) (by refine zf (jt 6 (tM z (zY (zR z)) (λ_ _ _ a=>xw a (zC (zR a) (zv a)) zg) (λ_ _ _ a=>zv a))) ?_;refine zf (jS (jR (mW (zR z))) (zq Y6) z5) ?_;refine zf (jK z (zX (dc E) z (za (zv z) (za (zC (PV.q (zC (zR z) zg)) (zv z)) zk)))) ?_;refine zf (jK z (zX (JC E) z (za (zv z) (za (PO.v (ql z (zY (PV.q (zC (zR z) zg))) (λ_ _ _ a=>qS (zv a) (zv a)))) zk)))) ?_;refine zf (jt 3 (kH z (zY (zR z)) (λ_ _ _ a=>zX (Kl E) a (za (zv a) (za (zv a) (za (zv a) (za (zv a) zk))))))) ?_;exact(zq (Je z (Y8 (PO.q (ql z (zY (zR z)) (λ_ _ _ a=>zX (Kl E) a (za (zv a) (za (zv a) (za (zv a) (za (zv a) zk))))))) (PO.q (yq (ki (za (zv z) zk))))))))) ?_;exact(zq (JB 4 (z.var ⋯)))
theorem xU(E:E0 K mg):hH P w K mg base 1 "turned_over" 1 qB:=
 xC (N:=["table","columns"]) E.Qn ⋯ λX I e O d U z f=>by subst I e O d U;exact by refine zf (jt 1 (kH z (ji.c (jC z ⋯ E.Z2 (zC (zR z) zg))) (λ_ _ _ a=>je a ⋯ E.Z3 (PO.q (ql a (zY (PV.q (zC (zR a) zg))) (λ_ _ _ b=>zC (zR b) (zv b))))))) ?_;exact(zq (zF (jJ (ki (za (zC (zR z) zg) (za (zC (zR z) zg) (za (je z ⋯ E.Z3 (zR z)) zk)))))))
theorem xy(E:E0 K mg):hH P w K mg base 1 "same_table" 1 qy:=
 xC (N:=["many","rows"]) E.Qo ⋯ λX I e O d U z f=>by subst I e O d U;exact by refine zf (jt 1 (kH z (ji.c (jC z ⋯ E.Z2 (zv z))) (λ_ _ _ a=>je a ⋯ E.Z3 (PO.q (ql a (ji.c (jC a ⋯ E.Z2 (zv a))) (λ_ _ _ b=>ko (kg b (zv b) (zv b)) zg zg)))))) ?_;exact(zq (zF (jJ (ki (za (zv z) (za (zv z) (za (je z ⋯ E.Z3 (zR z)) zk)))))))
theorem QL(E:E0 K mg):hH P w K mg base 4 "led_into" 3 kE:=
 xC (N:=["p","table","base","pairs","free"]) E.Qp ⋯ λX I d O b U z e=>by subst I d O b U;exact by refine zf (jt 3 (kH z (ji.c (Jf z ⋯ E.Zd (zC (PV.q (zX (xU E) z (za (zv z) zk))) zg) (zC (PV.q (zX (xy E) z (za (zC (zR z) zg) zk))) zg))) (λ_ _ _ a=>jo (zv a) (zv a)))) ?_;refine zf (jt 4 (kH z (zY (zR z)) (λ_ _ _ a=>jo (zv a) (qS (jJ (ki (za zg zk))) (zC (zR a) zg))))) ?_;exact(zq (xx (kR (ZK E) z (za (zC (zR z) zg) (za (PO.v (kR (vS E) z (za (zv z) (za (jo (zC (zR z) zg) (zC (zR z) zg)) (za (PO.v (Y8 (zR z) (zR z))) zk))))) zk)))))
theorem Vg(E:E0 K mg):hH P w K mg base 5 "kernel" 2 vZ:=
 xC (N:=["p","table"]) E.Qq ⋯ λX I b O a U z d=>by subst I b O a U;exact zq (xx (kR (QL E) z (za (zv z) (za (zv z) (za (PO.v (yq (ki zk))) zk)))))
theorem aV(E:E0 K mg):hH P w K mg base 4 "image" 2 ZZ:=
 xC (N:=["p","table"]) E.Qr ⋯ λX I b O a U z d=>by subst I b O a U;exact zq (xx (kR (vS E) z (za (zv z) (za (zC (zR z) zg) (za (zC (PV.q (zX (xU E) z (za (zv z) zk))) zg) zk)))))
theorem ZJ(E:E0 K mg):hH P w K mg base 2 "columns" 2 kM:=
 xC (N:=["high","loads"]) E.Qs ⋯ λX I b O a U z d=>by subst I b O a U;exact zq (zF (zX (xU E) z (za (jJ (ki (za (qj z ⋯ E.Z0 (zR z)) (za (zv z) (za (je z ⋯ E.Z3 (zR z)) zk))))) zk)))
theorem yN(E:E0 K mg):hH P w K mg base 1 "has_room" 2 qi:=
 xC (N:=["bar","room"]) E.Qt ⋯ λX I b O a U z d=>by subst I b O a U;exact zq (zF (K0 XG nL we aC (zC (zR z) zg) (zv z) (jo (zC (zR z) zg) (qj z ⋯ E.Z0 (PV.q (zC (zR z) zg))))))
theorem wF(E:E0 K mg):hH P w K mg base 2 "loads_in" 2 xo:=
 xC (N:=["bars","room"]) E.Qu ⋯ λX I d O b U z e=>by subst I d O b U;exact zq (xx (Y7 z (zY (zR z)) (λ_ _ _ a=>jG (zX (yN E) a (za (zv a) (za (zv a) zk)))) (λ_ _ _ a=>zC (PV.q (zC (zR a) zg)) (vo (zv a) (zC (zR a) zg)))))
theorem vR(E:E0 K mg):hH P w K mg base 1 "lead_of" 1 xc:=
 xC (N:=["load"]) E.Qv ⋯ λX I d O b U z e=>by subst I d O b U;exact zq (zF (zC (PO.q (Y7 z (ji.c (Ki z ⋯ E.Z5 (zv z))) (λ_ _ _ a=>xw a (zv a) zg) (λ_ _ _ a=>zv a))) zg))
theorem gN(E:E0 K mg):hH P w K mg base 2 "led" 3 dW:=
 xC (N:=["p","table","load"]) E.Qw ⋯ λX I e O d U z f=>by subst I e O d U;exact zq (zF (zX (JC E) z (za (zv z) (za (PO.v (ql z (zY (PV.q (zC (zR z) zg))) (λ_ _ _ a=>fV a ⋯ E.Z4 (PO.q (ql a (ji.c (Jf a ⋯ E.Zd (zv a) (zv a))) (λ_ _ _ b=>qS (zv b) (zv b))))))) zk))))
theorem K5(E:E0 K mg):hH P w K mg base 3 "mixed_load" 4 yb:=
 xC (N:=["row","bars","times","room","there"]) E.Qx ⋯ λX I d O b U z e=>by subst I d O b U;exact by refine zf (jt 4 (tM z (ji.c (Jf z ⋯ E.Zd (zv z) (zv z))) (λ_ _ _ a=>jG (zX (yN E) a (za (zv a) (za (zv a) zk)))) (λ_ _ _ a=>zv a))) ?_;exact(zq (zF (zX (gN E) z (za (zC (zR z) zg) (za (zX (ZJ E) z (za (zC (PV.q (zC (zR z) zg)) (zv z)) (za (PO.v (kR (wF E) z (za (zv z) (za (zv z) zk)))) zk))) (za (zv z) zk))))))
theorem nP(E:E0 K mg):hH P w K mg base 4 "mixed" 3 Yp:=
 xC (N:=["row","bars","times","first","loads"]) E.Qy ⋯ λX I d O b U z e=>by subst I d O b U;exact by refine zf (jK z (zC (zR z) (zX (vR E) z (za (zv z) zk)))) ?_;refine zf (jt 4 (kH z (ji.c (jC z ⋯ E.Z2 (qj z ⋯ E.Z0 (PV.q (zC (zR z) zg))))) (λ_ _ _ a=>zX (K5 E) a (za (zv a) (za (zv a) (za (zv a) (za (jo (zC (zR a) zg) (zv a)) zk))))))) ?_;exact(zq (zF (jJ (ki (za (zC (zR z) zg) (za (je z ⋯ E.Z3 (zR z)) zk))))))
theorem cZ(E:E0 K mg):hH P w K mg base 6 "settled" 3 Zv:=
 xC (N:=["row","k","bars","way","table","special","base","leads"]) E.Qz ⋯ λX I d O b U z e=>by subst I d O b U;exact by refine zf (jK z (zC (PV.q (zC (PV.q (zC (zR z) zg)) (zv z))) zg)) ?_;refine zf (jK z (zC (PV.q (zC (PV.q (zC (zR z) zg)) (zv z))) zg)) ?_;refine zf (jK z (ko (kg z (zv z) kY) (PO.v (kR (Vg E) z (za (zC (zR z) zg) (za (zv z) zk)))) (PO.v (kR (aV E) z (za (zC (zR z) zg) (za (zv z) zk)))))) ?_;refine zf (jK z (PO.v (kR (QL E) z (za (zC (zR z) zg) (za (zX (ZJ E) z (za (zC (PV.q (zC (zR z) zg)) (zv z)) (za (PO.v (kR (wF E) z (za (zv z) (za (zv z) zk)))) zk))) (za (zv z) zk)))))) ?_;refine zf (jK z (mS z ⋯ E.Zf (ql z (zY (zR z)) (λ_ _ _ a=>jJ (ki (za (zX (vR E) a (za (zv a) zk)) (za (zv a) zk))))))) ?_;exact(zq (xx (ql z (ji.c (Wn z ⋯ E.Z5 (zv z))) (λ_ _ _ a=>ko (tH a (zv a) (zv a)) (zX (nP E) a (za (zv a) (za (zv a) (za (By a (zv a) (zv a)) zk)))) (zv a)))))
theorem gM(E:E0 K mg):hH P w K mg base 4 "solved" 3 vY:=
 xC (N:=["p","table","load","wide","answer","line","place"]) E.P' ⋯ λX I d O b U z e=>by subst I d O b U;exact by refine zf (jK z (zC (zR z) zg)) ?_;refine zf (Je z (BI (yq (ki (za zg zk))) (zv z))) ?_;refine zf (kh e z (ZG (PO.v (kR (vS E) z (za (zv z) (za (jo (zv z) zg) (za (PO.v (ql z (ji.c (Jf z ⋯ E.Zd (zC (zR z) zg) (zv z))) (λ_ _ _ a=>jo (zv a) (jJ (ki (za (zv a) zk)))))) zk)))))) (by refine zf (jK z (zX (vR E) z (za (zv z) zk))) ?_;refine zf (jS (kg z (zv z) (zv z)) (zq (zF Y1)) z5) ?_;exact(zq (QF 4 z ⋯ (zv z) (zC (zR z) (zv z)))))) ?_;exact(zq (zF (je z ⋯ E.Z3 (zR z))))
theorem Ve(E:E0 K mg):hH P w K mg base 5 "next_load" 3 xT:=
 xC (N:=["p","arrow","load","there"]) E.P_ ⋯ λX I b O a U z d=>by subst I b O a U;exact by refine zf (jS (kg z (zC (zR z) zg) kY) (zq (zF (zX (gM E) z (za (zv z) (za (zC (zR z) zg) (za (zv z) zk)))))) z5) ?_;refine zf (jK z (zX (gN E) z (za (zv z) (za (zC (zR z) zg) (za (zv z) zk))))) ?_;exact(zq (zF (ko (jG (pW z ⋯ E.Ze (zR z))) (zv z) Y1)))
theorem Wq(E:E0 K mg):hH P w K mg base 6 "taken_on" 3 yD:=
 xC (N:=["p","arrow","bar","load"]) E.Q_ ⋯ λX I b O a U z d=>by subst I b O a U;exact by refine zf (jK z (zX (Ve E) z (za (zv z) (za (zv z) (za (zC (PV.q (zC (zR z) zg)) (Bv zg)) zk))))) ?_;exact(zq (zF (ko (tG (zv z) Y1) (zv z) (jJ (ki (za (zC (zR z) zg) (za (jo (zC (zR z) zg) (jJ (ki (za (zv z) zk)))) zk)))))))
theorem Vf(E:E0 K mg):hH P w K mg base 6 "new_loads" 2 yY:=
 xC (N:=["p","arrow","leads"]) E.R_ ⋯ λX I d O b U z e=>by subst I d O b U;exact by refine zf (jS (kg z (zC (zR z) zg) kY) (zq (xx (kR (Vg E) z (za (zv z) (za (zC (zR z) zg) zk))))) z5) ?_;refine zf (jt 2 (kH z (zY (PO.q (kR (aV E) z (za (zv z) (za (zC (zR z) zg) zk))))) (λ_ _ _ a=>zX (vR E) a (za (zv a) zk)))) ?_;exact(zq (xx (Y7 z (ji.c (Ki z ⋯ E.Z5 (zC (PV.q (zX (xy E) z (za (zC (PV.q (zC (zR z) zg)) zg) zk))) zg))) (λ_ _ _ a=>cP (zv a) (zR a)) (λ_ _ _ a=>zv a))))
theorem nQ(E:E0 K mg):hH P w K mg base 7 "grown" 3 XA:=
 xC (N:=["row","k","bars","p","arrow","ended","here","old","new"]) E.S' ⋯ λX I d O b U z e=>by subst I d O b U;exact by refine zf (jK z (zC (zR z) zg)) ?_;refine zf (jK z (zC (PV.q (zC (zR z) zg)) (zv z))) ?_;refine zf (jt 5 (tM z (zY (zR z)) (λ_ _ _ a=>jR (jG (zX (yN E) a (za (zv a) (za (zv a) zk))))) (λ_ _ _ a=>zv a))) ?_;refine zf (jK z (PO.v (kR (cZ E) z (za (zv z) (za (zv z) (za (PO.v (Y7 z (zY (zR z)) (λ_ _ _ a=>jG (zX (yN E) a (za (zv a) (za (zv a) zk)))) (λ_ _ _ a=>zv a))) zk)))))) ?_;refine zf (jt 7 (kH z (zY (zR z)) (λ_ _ _ a=>zX (Wq E) a (za (zv a) (za (zv a) (za (zv a) zk)))))) ?_;refine zf (jt 8 (kH z (zY (PO.q (kR (Vf E) z (za (zv z) (za (zv z) zk))))) (λ_ _ _ a=>jJ (ki (za (jo (zv a) zg) (za (jJ (ki (za (zv a) zk))) zk)))))) ?_;exact(zq (zF (PO.v (Y8 (zR z) (PV.q (ko (kg z (zC (zR z) zg) kY) (PO.v (Y8 (zR z) (zR z))) (PO.v (Y8 (zR z) (zR z)))))))))
theorem w4(E:E0 K mg):hH P w K mg base 1 "stretch_of" 1 qo:=
 xC (N:=["bar"]) E.S_ ⋯ λX I b O a U z d=>by subst I b O a U;exact zq (zF (jJ (ki (za (zC (zR z) zg) (za (vo (jo (zC (zR z) zg) (qj z ⋯ E.Z0 (PV.q (zC (zR z) zg)))) zg) zk)))))
theorem Vl(E:E0 K mg):hH P w K mg base 9 "all_grown" 1 va:=
 xC (N:=["row","bars","k"]) E.T_ ⋯ λX I d O b U z e=>by subst I d O b U;exact by refine zf (jt 1 (kH z (zY (PV.q (zC (PV.q (zX (xy E) z (za (zC (PV.q (zC (zR z) zg)) zg) zk))) zg))) (λ_ _ _ a=>jJ (ki (za zg (za (jJ (ki (za (zv a) zk))) zk)))))) ?_;refine zf (kh e z (jC z ⋯ E.Z2 (qj z ⋯ E.Z0 (PV.q (zC (zR z) zg)))) (zq (jK z (zX (nQ E) z (za (zv z) (za (zv z) (za (zv z) zk))))))) ?_;exact(zq (xx (nz (w4 E) z ⋯ ⋯ E.Z6 ⋯ (zR z))))
theorem dg(E:E0 K mg):hH P w K mg base 4 "back_of" 2 kO:=
 xC (N:=["p","table","many","same","base"]) E.U' ⋯ λX I d O b U z e=>by subst I d O b U;exact by refine zf (jK z (zC (zR z) zg)) ?_;refine zf (jS (xw z (zC (zR z) zg) (zv z)) (zq (zF Y1)) z5) ?_;refine zf (jK z (zC (PV.q (zX (xy E) z (za (zv z) zk))) zg)) ?_;refine zf (jK z (PO.v (kR (vS E) z (za (zv z) (za (jo (zv z) (zv z)) (za (PO.v (ql z (ji.c (Jf z ⋯ E.Zd (zC (zR z) zg) (zv z))) (λ_ _ _ a=>jo (zv a) (zv a)))) zk)))))) ?_;refine zf (jS (xw z (PO.v (ql z (zY (zR z)) (λ_ _ _ a=>QE (zv a) wD (wC (zv a))))) (PO.v (tU z ⋯ E.Za (zR z)))) (zq (zF Y1)) z5) ?_;exact(zq (zF (jJ (ki (za (zv z) (za (zv z) (za (je z ⋯ E.Z3 (PO.q (ql z (zY (zR z)) (λ_ _ _ a=>QE (zv a) (wC (zv a)) wD)))) zk)))))))
theorem QM(E:E0 K mg):hH P w K mg base 10 "barred" 1 y9:=
 xC (N:=["row","bars","backs","turns"]) E.U_ ⋯ λX I d O b U z e=>by subst I d O b U;exact by refine zf (jK z (PO.v (kR (Vl E) z (za (zv z) zk)))) ?_;refine zf (jt 2 (kH z (ji.c (Ki z ⋯ E.Z5 (zC (zR z) zg))) (λ_ _ _ a=>zX (ZJ E) a (za (zv a) (za (PO.v (kR (wF E) a (za (zv a) (za (zv a) zk)))) zk))))) ?_;refine zf (jt 3 (kH z (zY (zR z)) (λ_ _ _ a=>zX (dg E) a (za (zC (zR a) zg) (za (zv a) zk))))) ?_;exact(zq (zF (jJ (ki (za (PO.v (ql z (zY (zR z)) (λ_ _ _ a=>zX (w4 E) a (za (zv a) zk)))) (za (zv z) (za (zv z) zk)))))))
theorem ZI(E:E0 K mg):hH P w K mg base 3 "product" 3 yF:=
 xC (N:=["p","one","other","over"]) E.V' ⋯ λX I d O b U z e=>by subst I d O b U;exact by refine zf (jK z (zX (xU E) z (za (zv z) zk))) ?_;exact(zq (zF (jJ (ki (za (zC (zR z) zg) (za (zC (zR z) zg) (za (je z ⋯ E.Z3 (PO.q (ql z (zY (PV.q (zC (zR z) zg))) (λ_ _ _ a=>zX (gN E) a (za (zv a) (za (zv a) (za (zv a) zk))))))) zk)))))))
theorem ZL(E:E0 K mg):hH P w K mg base 4 "arrow_in_turns" 5 qI:=
 xC (N:=["p","k","arrow","turns","backs","way","turned"]) E.V_ ⋯ λX I b O a U z d=>by subst I b O a U;exact by refine zf (jK z (zC (zR z) zg)) ?_;refine zf (jK z (zX (ZI E) z (za (zv z) (za (zC (zR z) (zX (Vi E) z (za (zv z) (za (zv z) zk)))) (za (zC (zR z) zg) zk))))) ?_;exact(zq (zF (jJ (ki (za (zv z) (za (zX (ZI E) z (za (zv z) (za (zv z) (za (zC (zR z) (zX (vq E) z (za (zv z) (za (zv z) zk)))) zk)))) zk))))))
theorem Ws(E:E0 K mg):hH P w K mg base 5 "in_turns" 3 wa:=
 xC (N:=["row","turns","backs","made"]) E.W_ ⋯ λX I d O b U z e=>by subst I d O b U;exact by refine zf (jt 3 (kH z (ji.c (Ki z ⋯ E.Z5 (zC (zR z) zg))) (λ_ _ _ a=>zX (ZL E) a (za (zC (zR a) zg) (za (zv a) (za (zv a) (za (zv a) (za (zv a) zk)))))))) ?_;exact(zq (zF (jJ (ki (za (zC (zR z) zg) (za (zC (zR z) zg) (za (je z ⋯ E.Z3 (zR z)) zk)))))))
theorem Wv(E:E0 K mg):hH P w K mg base 4 "are_bars" 2 yI:=
 xC (N:=["many","bars"]) E.X' ⋯ λX I d O b U z e=>by subst I d O b U;exact by refine zf (jS (jR (jG (Kd z ⋯ E.Z7 (PO.q (ql z (zY (zR z)) (λ_ _ _ a=>Kc (xN a ⋯ E.Z8 ⋯ E.Z3 (zv a)) (X9 (zX (w6 E) a (za (zv a) (za (zv a) zk)))))))))) (zq (zF yh)) z5) ?_;exact(zq (zF (wX z (zv z) (PO.v (K2 z ⋯ E.Z6 (zR z))))))
theorem da(E:E0 K mg):hH P w K mg base 4 "is_turn" 4 yG:=
 xC (N:=["p","width","turn","back","size"]) E.X_ ⋯ λX I b O a U z d=>by subst I b O a U;exact by refine zf (jK z (jJ (ki (za (zv z) (za (zv z) zk))))) ?_;refine zf (jS (wB (qY (xw z (QE (zv z) wD (wC zg)) (zv z)) (xM (xw z (QE (zv z) wD (wC zg)) (zv z))))) (zq (zF yh)) z5) ?_;exact(zq (zF (wX z (zX (ZI E) z (za (zv z) (za (zv z) (za (zv z) zk)))) (zX (xy E) z (za (zv z) zk)))))
theorem Vk(E:E0 K mg):hH P w K mg base 5 "are_turns" 3 kP:=
 xC (N:=["row","turns","backs","many"]) E.Y' ⋯ λX I d O b U z e=>by subst I d O b U;exact by refine zf (jK z (qj z ⋯ E.Z0 (PV.q (zC (zR z) zg)))) ?_;refine zf (jS (wB (qY (xw z (qj z ⋯ E.Z0 (zR z)) (zv z)) (xM (xw z (qj z ⋯ E.Z0 (zR z)) (zv z))))) (zq (zF yh)) z5) ?_;exact(zq (zF (Kd z ⋯ E.Z7 (PO.q (ql z (ji.c (gp z ⋯ E.Zd (zC (zR z) zg) (zv z) (zv z))) (λ_ _ _ a=>zX (da E) a (za (zC (zR a) zg) (za (zv a) (za (zv a) (za (zv a) zk))))))))))
theorem cY(E:E0 K mg):hH P w K mg base 1 "ways_of" 1 Zu:=
 xC (N:=["row"]) E.Y_ ⋯ λX I d O b U z e=>by subst I d O b U;exact zq (zF (Wj kY (PO.q (ql z (zY (PV.q (zC (zR z) zg))) (λ_ _ _ a=>zC (zR a) zg)))))
theorem yM(E:E0 K mg):hH P w K mg base 6 "shows_bars" 2 qx:=
 xC (N:=["row","paper","bars","turns","backs"]) E.Z' ⋯ λX I b O a U z d=>by subst I b O a U;exact by refine zf (jK z (zC (zR z) zg)) ?_;refine zf (jK z (zC (zR z) zg)) ?_;refine zf (jK z (zC (zR z) zg)) ?_;refine zf (jS (wB (qY (jR (jG (zX (Wv E) z (za (qj z ⋯ E.Z0 (PV.q (zC (zR z) zg))) (za (zv z) zk))))) (xM (jR (jG (zX (Vk E) z (za (zv z) (za (zv z) (za (zv z) zk))))))))) (zq (zF yh)) z5) ?_;exact(zq (zF (wX z (zX (Ws E) z (za (zv z) (za (zv z) (za (zv z) zk)))) (zX (wj E) z (za (zC (zR z) zg) (za (zX (cY E) z (za (zv z) zk)) (za (zv z) zk)))))))
theorem kI(E:E0 K mg):hH P w K mg base 1 "_law_with" 2 jq:=
 xC (N:=["_law_found","_law_room"]) E.Z_ ⋯ λX I d O b U z e=>by subst I d O b U;exact zq (xx (Y7 z (ji.c (Wn z ⋯ E.Z5 (zv z))) (λ_ _ _ a=>Y4 XG XG we we (zC (zR a) zg) (zv a) (zC (zR a) zg)) (λ_ _ _ a=>zv a)))
theorem XJ(E:E0 K mg):hH P w K mg base 2 "_law_bar_row" 3 kB:=
 xC (N:=["_law_p","_law_ways_here","_law_found","_law_widths","_law_arrows","_law_k","_law_way","_law_begin","_law_end","_law_rows"]) E._a ⋯ λX I e O d U z f=>by subst I e O d U;exact by refine zf (jt 3 (kH z (ji.c (jC z ⋯ E.Z2 (jo (KZ z ⋯ E.Z0 (zv z)) zg))) (λ_ _ _ a=>qj a ⋯ E.Z0 (PO.q (kR (kI E) a (za (zv a) (za (zv a) zk))))))) ?_;refine zf (Je z (yq (ki zk))) ?_;refine zf (kh f z (gr z ⋯ E.Z5 (zv z)) (by refine zf (jK z (jo (zv z) (vp z ⋯ E.Zc (wX z (zv z) kY)))) ?_;refine zf (jK z (jo (zv z) (vp z ⋯ E.Zc (wX z (zv z) kY)))) ?_;refine zf (jt 9 (kH z (zY (PO.q (kR (kI E) z (za (zv z) (za (zv z) zk))))) (λ_ _ _ a=>je a ⋯ E.Z3 (PO.q (ql a (zY (PO.q (kR (kI E) a (za (zv a) (za (zv a) zk))))) (λ_ _ _ b=>vp b ⋯ E.Zc (wX b (zv b) (zv b)))))))) ?_;exact(zq (QG 4 z ⋯ (jJ (ki (za (zv z) (za (jJ (ki (za (zC (zR z) (zv z)) (za (zC (zR z) (zv z)) (za (je z ⋯ E.Z3 (zR z)) zk))))) zk)))))))) ?_;exact(zq (zF (jJ (ki (za (zv z) (za (je z ⋯ E.Z3 (zR z)) (za (je z ⋯ E.Z3 (zR z)) zk)))))))
theorem XI(E:E0 K mg):hH P w K mg base 1 "_law_same" 1 xF:=
 xC (N:=["_law_many"]) E._b ⋯ λX I e O d U z f=>by subst I e O d U;exact zq (zF (jJ (ki (za (zv z) (za (zv z) (za (je z ⋯ E.Z3 (PO.q (ql z (ji.c (jC z ⋯ E.Z2 (zv z))) (λ_ _ _ a=>je a ⋯ E.Z3 (PO.q (ql a (ji.c (jC a ⋯ E.Z2 (zv a))) (λ_ _ _ b=>vp b ⋯ E.Zc (wX b (zv b) (zv b))))))))) zk))))))
theorem xY(E:E0 K mg):hH P w K mg base 1 "_law_whole" 1 jE:=
 xC (N:=["_law_found"]) E._c ⋯ λX I b O a U z d=>by subst I b O a U;exact zq (zF (Kc (Y2 z ⋯ E.Z8 ⋯ E.Zc (zv z)) (X9 (pU (Ka z ⋯ E.Z8 ⋯ E.Zb (zv z))))))
theorem kZ(E:E0 K mg):hH P w K mg base 2 "_law_is_table" 4 jl:=
 xC (N:=["_law_p","_law_found","_law_high","_law_wide","_law_row"]) E._d ⋯ λX I d O b U z e=>by subst I d O b U;exact by refine zf (jS (wB (qY (jR (jG (xN z ⋯ E.Z8 ⋯ E.Z3 (zv z)))) (qY (xw z (qj z ⋯ E.Z0 (zR z)) zg) (qY (jR (jG (zX (xY E) z (za (zC (zR z) zg) zk)))) (xM (jR (jG (zX (xY E) z (za (zC (zR z) zg) zk))))))))) (zq (zF yh)) z5) ?_;refine zf (jS (wB (qY (xw z (QE (zv z) wD (wC zg)) (jJ (ki (za (zv z) (za (zv z) zk))))) (qY (jR (jG (xN z ⋯ E.Z8 ⋯ E.Z3 (zC (zR z) zg)))) (xM (xw z (qj z ⋯ E.Z0 (PV.q (zC (zR z) zg))) (zv z)))))) (zq (zF yh)) z5) ?_;refine zf (kh e z (ZG (zC (zR z) zg)) (by refine zf (jS (wB (qY (jR (jG (xN z ⋯ E.Z8 ⋯ E.Z3 (zv z)))) (xM (xw z (qj z ⋯ E.Z0 (zR z)) (zv z))))) (zq (zF yh)) z5) ?_;exact(zq (jS (jR (jG (Kd z ⋯ E.Z7 (PO.q (ql z (zY (zR z)) (λ_ _ _ a=>Kc (zX (xY E) a (za (zv a) zk)) (X9 (K0 XG nL we aC zg (zv a) (zv a))))))))) (zq (zF yh)) z5)))) ?_;exact(zq (zF yh))
theorem w5(E:E0 K mg):hH P w K mg base 3 "_law_paper_right" 2 jP:=
 xC (N:=["_law_told","_law_found","_law_p","_law_widths","_law_arrows","_law_some","_law_turns","_law_backs","_law_bar","_law_wide","_law_turn_here","_law_back"]) E._e ⋯ λX I e O d U z b=>by subst I e O d U;exact by refine zf (K1 (FO z) (zv z)) ?_;refine zf (jS (wB (qY (jR (jG (xN z ⋯ E.Z8 ⋯ E.Z3 (zv z)))) (qY (xw z (qj z ⋯ E.Z0 (zR z)) zg) (xM (jR (jG (Kd z ⋯ E.Z7 (PO.q (ql z (zY (zR z)) (λ_ _ _ a=>cO a ⋯ E.Z8 ⋯ E.Za (zv a))))))))))) (zq (zF yh)) z5) ?_;refine zf (K1 (FO z) (zv z)) ?_;refine zf (kh b z (ZG (zv z)) (by refine zf (jS (wB (qY (jR (jG (xN z ⋯ E.Z8 ⋯ E.Z3 (zv z)))) (qY (xw z (qj z ⋯ E.Z0 (zR z)) zg) (qY (jR (jG (zX (xY E) z (za (zC (zR z) zg) zk)))) (xM (jR (jG (zX (xY E) z (za (zC (zR z) zg) zk))))))))) (zq (zF yh)) z5) ?_;exact(zq (jS (jR (cQ XG XG nL we we aC zg (zC (zR z) zg) (zC (zR z) zg) (qj z ⋯ E.Z0 (zR z)))) (zq (zF yh)) z5)))) ?_;refine zf (jS (wB (qY (xw z (zv z) (PO.v (K2 z ⋯ E.Z6 (zR z)))) (qY (xw z (qj z ⋯ E.Z0 (zR z)) (qj z ⋯ E.Z0 (zR z))) (xM (xw z (qj z ⋯ E.Z0 (zR z)) (qj z ⋯ E.Z0 (zR z))))))) (zq (zF yh)) z5) ?_;refine zf (kh b z (gp z ⋯ E.Zd (zv z) (zv z) (zv z)) (by refine zf (jS (wB (qY (jR (jG (zX (kZ E) z (za (zv z) (za (zv z) (za (zv z) (za (zv z) zk))))))) (xM (jR (jG (zX (kZ E) z (za (zv z) (za (zv z) (za (zv z) (za (zv z) zk)))))))))) (zq (zF yh)) z5) ?_;exact(zq (jS (xw z (zX (kJ E) z (za (zv z) (za (zv z) (za (zv z) zk)))) (zX (XI E) z (za (zv z) zk))) (zq (zF yh)) z5)))) ?_;exact(zq (zF (wX z (zX (k7 E) z (za (zv z) (za (zv z) (za (zv z) zk)))) (zX (XJ E) z (za (zv z) (za (Wj kY (PO.q (ql z (zY (zR z)) (λ_ _ _ a=>zC (zR a) zg)))) (za (zv z) zk)))))))
theorem Io(D:L2.D5 K "law" "law" (top 76) f fd)(E:E0 K mg):uw P w K mg base u7 11 f fd ["_law_script"] (yg K 1 Xz):=
 Hb (N:=["_law_script","_law_cell_here","_law_p","_law_one","_law_other","_law_papers","_law_told","_law_found","_law_ways_here","_law_plain"]) D ⋯ λX I d O b U z e=>by subst I d O b U;exact by refine zf (jK z (zX (xO E) z (za (zv z) (za zg zk)))) ?_;refine zf (jK z (zC (PO.q (yq (ki (za zg (za zg (za zg (za zg zk))))))) (j7 (zX (xO E) z (za (zv z) (za zg zk))) zg))) ?_;refine zf (jK z (zX (yu E) z (za (zv z) (za (zv z) (za zg (za (jo zg (j7 (zv z) zg)) (za zg zk))))))) ?_;refine zf (jK z (zX (yu E) z (za (zv z) (za (zv z) (za zg (za (jo zg (j7 (vc (zv z) zg) zg)) (za zg zk))))))) ?_;refine zf (jS (kg z (j7 (vc (zv z) zg) zg) zg) (zq (jK z (zX (K6 E) z (za (zv z) (za zg (za (zv z) zk)))))) z5) ?_;refine zf (jK z (PO.v (yq (ki (za (zX (QM E) z (za (zv z) zk)) (za (zX (QM E) z (za (zv z) zk)) zk)))))) ?_;refine zf (jS (wB (qY (Kf (zX (yM E) z (za (zv z) (za (zC (zR z) zg) zk))) yh) (xM (Kf (zX (yM E) z (za (zv z) (za (zC (zR z) zg) zk))) yh)))) (zq (zF yh)) z5) ?_;refine zf (kh e z (ZG (PO.v (yq (ki (za (jJ (ki (za (zv z) (za (zC (zR z) zg) zk)))) (za (jJ (ki (za (zv z) (za (zC (zR z) zg) zk)))) zk)))))) (zq (jS (xw z (zX (yM E) z (za (zv z) (za (zv z) zk))) (zX (w5 E) z (za (zv z) (za (zv z) zk)))) (zq (zF yh)) z5))) ?_;refine zf (jK z (Wj kY (PO.q (ql z (zY (PV.q (zC (zR z) zg))) (λ_ _ _ a=>zC (zR a) zg))))) ?_;refine zf (jK z (zX (df E) z (za (zC (zR z) zg) (za (zv z) (za (zC (PV.q (zC (zR z) zg)) zg) zk))))) ?_;exact(zq (zF (wX z (zC (PV.q (zX (QM E) z (za (zv z) zk))) zg) (zC (PV.q (zC (zR z) zg)) zg))))
end
end DL
namespace PySem.W.Fast
def tw1514893395271984986:=0
def tw18237704056485200045:=0
def tw8152236413419679640:=0
def tw12182633010380658284:=0
def tw5027880854713914920:=0
def tw1254872443300777264:=0
def tw9922076277154697336:=0
def tw4682910195404442471:=0
def tw10765116681610464463:=0
def tw8811623342801448473:=0
def tw3765279275554234498:=0
def tw16299107415219327070:=0
def tw2961016313863541565:=0
def tw3440313806674402299:=0
def tw10428474267727346026:=0
def tw681892211989124423:=0
def tw17067411995582814014:=0
def tw4291188661787162713:=0
def tw11684114604007058058:=0
def tw13193030748776663303:=0
def tw13165658601839936648:=0
def tw9123234580121065568:=0
def tw7114410704949197918:=0
def tw8893811547485084980:=0
def tw3770372279402301186:=0
def tw17612976098082774499:=0
def tw12831889008275117135:=0
def tw11647664485000045869:=0
def tw5713929828046915133:=0
def tw16197819456084862549:=0
def tw12564791572721483875:=0
def tw13577755127536633661:=0
def tw6793968684852578609:=0
def tw6048052811685421515:=0
def tw5548607295881412153:=0
def tw13664513094929787549:=0
def tw9876503779230917241:=0
def tw17128970363486367270:=0
def tw11455279018574032332:=0
def tw2441855865865084909:=0
def tw3535445345631446168:=0
def tw17194262607984769153:=0
def tw6669272404044896562:=0
def tw7253559899427063748:=0
def tw8183211482558739484:=0
def tw16209012150604764552:=0
def tw8435028191808498731:=0
def tw8613703997940662808:=0
def tw8858632138038631830:=0
def tw1780831290303528973:=0
def tw11014907512660492341:=0
def tw2760020731845764195:=0
def tw12187011318570116070:=0
def tw3532443892959381564:=0
def tw7533713949518555939:=0
def tw11580230485291656774:=0
def tw6627618824087781417:=0
def tw4943810193179351787:=0
def tw13727055306755386730:=0
def tw10216433142087559145:=0
def tw1273074685750243500:=0
def tw11076938305174190280:=0
def tw6029994808195303212:=0
def tw16009002800795892800:=0
def tw16396909833391843568:=0
def tw8733610331155997570:=0
def tw6519639158050101482:=0
def tw11513579225094322521:=0
def tw8698793168603407136:=0
def tw14149448026357008403:=0
def tw4722769848886851947:=0
def tw15232294448275841899:=0
def tw4813597482113331141:=0
def tw4674494312803408865:=0
def tw6123966809288520653:=0
def tw434809263061489861:=0
def tw4014829430012373272:=0
def tw9752195560059697615:=0
def tw5063949407819388213:=0
def tw15448857989961214860:=0
def tw2289946393130014508:=0
def tw1747983128873254863:=0
def tw16755310520759249726:=0
def tw13241987603326032391:=0
def tw18375975277446334674:=0
def tw4485797593872945804:=0
def tw14603777676437297831:=0
def tw17617476955503660758:=0
def tw11056963908203088873:=0
def tw7688301074188186373:=0
def tw11100762281134118316:=0
def tw17212628661057036728:=0
def tw1652166122410448298:=0
def tw7417371046210941217:=0
def tw8012883473998382720:=0
def tw8823191479283552779:=0
def tw10516109872825141195:=0
def tw11436304952753748520:=0
def tw9726672696631822191:=0
def tw12382015492999415923:=0
def tw11497161570662805528:=0
def tw12540280955266636405:=0
def tw5413795727026105990:=0
def tw18137214196332894361:=0
def tw10579790030133246841:=0
def tw13694747372454125318:=0
def tw5325730983230650072:=0
def tw14402580698347998486:=0
def tw3656453170416964657:=0
def tw2795408126341022978:=0
def tw3687892590029169904:=0
def tw10769684789123450350:=0
def tw11136174568511723967:=0
def tw12511559607921982169:=0
def tw6700096634351305117:=0
def tw14573867863337568432:=0
def tw6876875551758034072:=0
def tw4096197908408418585:=0
def tw5634155848874876509:=0
def tw6591076854834777238:=0
def tw8412479842820433024:=0
def tw17405374592330519010:=0
def tw787438738735526549:=0
def tw7314901447460473300:=0
def tw2372063624623837052:=0
def tw6043633904828205125:=0
def tw2000363829856785335:=0
def tw16006077778721948486:=0
def tw6467009245041161789:=0
def tw6784006112947120438:=0
def tw13193189758901049637:=0
def tw4026410179309208130:=0
def tw4127952365390489516:=0
def tw17550149308110659523:=0
def tw11903471880735695092:=0
def tw14008458735568336786:=0
def tw7074650222293884367:=0
def tw6456631378207770041:=0
def tw11583694984205143496:=0
def tw12730771275975124225:=0
def tw13727867925736085846:=0
def tw4780834418345020286:=0
def tw13628290067046177425:=0
def tw17961673025588730701:=0
def tw6121689849204056098:=0
def tw8784098822827579926:=0
def tw17907227451639320606:=0
def tw9344333587891235204:=0
def tw1667426034544137915:=0
def tw17189504225076330641:=0
def tw8935461484230844206:=0
def tw2005836837074849884:=0
def tw3584104640898954891:=0
def tw2554108515042553802:=0
def tw12884316611572827929:=0
def tw18003502693528108509:=0
def tw16299682105431228188:=0
def tw7330744071603695862:=0
def tw1926231571856176893:=0
def tw6581858612982585392:=0
def tw8518222010417687155:=0
def tw778549940849011653:=0
def tw2893085958732291969:=0
def tw15319164062434197390:=0
def tw13081840181541806294:=0
def tw11673000002348046916:=0
def tw8180883499878185908:=0
def tw3096396846140425689:=0
def tw11674255199068106118:=0
def tw10729217573533880262:=0
def tw9463681869318135142:=0
def tw6437782019567221397:=0
def tw13605360869935935969:=0
def tw1131594170386962751:=0
def tw4465382280187406302:=0
def tw16822927448101545840:=0
def tw8432975241372532213:=0
end PySem.W.Fast
open PySem PySem.W PyProof.Rows
set_option maxRecDepth 100000 in
set_option maxHeartbeats 0 in
theorem PySem.Challenge.cw_barsplit_k33_whole_told_papers_stand_holds : PySem.Challenge.rw_barsplit_k33_whole_told_papers_stand.Holds := by
 w_on;o_law;k_head;(case hw=>w_witness2)
 k_fill
 refine L2.ED (l:=PB) (n:=63) (k:=11) (x:="_law_script") (CX:=L2.u7) (sp:=λK=>DL.yg K 1 DL.Xz) rfl ⋯ rfl ⟨rfl,by decide,by decide⟩ (λw h Y=>PySem.W.kIn_of Y) ?F ?S ?C
 case S=>exact λK H a ns O hO U=>DL.Fn U (DL.GK ns O)
 case C=>exact λ_ _ _ _ z=>z
 case F=>
  intro w mg fa h I G a0;have a5:DL.GL (L2.DN I) mg "MOST_ROOMS" (.int 6):=by
   dsimp only[L2.DN];refine' DL.Iq I G ?a
   (case a=>k_is)
  have a6:DL.GL (L2.DN I) mg "MOST_TOGETHER" (.int 30):=by
   dsimp only[L2.DN];refine' DL.Iq I G ?a
   (case a=>k_is)
  have a7:DL.GL (L2.DN I) mg "WAYS" (.tup [.str "r",.str "l"]):=by
   dsimp only[L2.DN];refine' DL.GX ["r","l"] I G ?a ?l ?v ?z
   (case a=>k_is);(case l=>k_is);(case v=>rfl);(case z=>decide)
  have E:DL.E0 (L2.DN I) mg:=by
   constructor
   all_goals first
    | assumption
    | exact PySem.W.mg_none_of I G (by k_is)
    | (dsimp only[L2.DN];refine' DL.Iy I G ?a ?l ?c ?k ?b;(case a=>k_is);(case l=>k_is);(case c=>k_is);(case k=>k_is);(case b=>intro _ _ _ _ _ _ us O;first | (obtain⟨_,rfl⟩:=DL.Ma O;rfl) | (obtain⟨_,_,rfl⟩:=DL.LZ O;rfl) | (obtain⟨_,_,_,rfl⟩:=DL.LY O;rfl) | (obtain⟨_,_,_,_,rfl⟩:=DL.LX O;rfl) | (obtain⟨_,_,_,_,_,rfl⟩:=DL.LW O;rfl)))
  obtain⟨f,fd,Fu,hb,hm⟩:=E._g.ex;have e0:=a0.symm.trans hm;cases e0;refine⟨fd,λs u=> .of_eq (hb [u] rfl),λbase kb nb=>?_⟩;exact DL.Io Fu E
