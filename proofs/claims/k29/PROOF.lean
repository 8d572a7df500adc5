import PyProof.Rows.All
import Wide.All
import OpenK.AllK
import Wide.FinOn
import Lean
import PyProof.EqAt
import PyProof.EqKinds
import PyProof.TupleCall
import PySem.Str
import PyProof.ZipIter
import PyProof.IsiBase
import KE.KItemsList
import KE.KIsAll
import OpenK.KOwn
import KE.KSortAsk
import PyProof.StrBlockI
import PyProof.Rows.EqDataRows
import PyProof.Rows.InDataRows
import PyProof.SumWalkG
import PyProof.ConsumeWalk
import PyProof.WalksMore
import KE.KSortTup
import PyProof.ListMulRoad
import PyProof.EnumFor
import PyProof.Rows.EnumRows
import PyProof.StrBlockL
import PyProof.JoinWalk
import PyProof.NsDelKeeps
import KE.KTryDeep
import PyProof.InstStoreFacts
import PyProof.NsCount
import PyProof.ExcClass2
import PyProof.Rows.FStr
import PyProof.StationsW
import PyProof.Rows.Catch
import KE.KRevIter
import PyProof.CollectIter
import PyProof.TupleOfGen
import PyProof.Rows.Tup
import PyProof.Draws
import PyProof.EnumMake
import PyProof.StrWalks
import PyProof.SliceStr2
import PyProof.ListNew
import KE.KDictOf
import PyProof.ListRange
import PyProof.Rows.GenSrcRange
import PyProof.ListCopy
import PyProof.AttrMissHeap
import PyProof.DictWalks
import PyProof.FactsDict
import KE.KSortKey
import PyProof.TableCode
import PyProof.Rows.KernelRfl
import PySem.Challenge.RW_barsplit_k29_whole_hidden_bars
open PySem.W renaming Frag → HR,kia_one → Lf,kitOne → MW,cellsFrom_some → Nl,keepIn → Nu,fnOf → Nx,findIn → NX,codeIn → OG,methodObj → Pd,kitx_list → Pe,kitx_dict → Pf
open PySem renaming wpAny_bind → HS,wpAny_pure → Ie,wpAny_field → Lc,wpAny_setField_rec → Li,wpAny_callSpecial?_slot → LA,wpAny_seqItems → LB,wpAny_truthy_bool → LH,wpAny_call_entry → LQ,wpAny_newObj_type → LR,wpAny_loadPart' → Mi,wpAny_holding → Mp,wpAny_mono → Mq,wpAny_onRaise → Mw,wpAny_passesOwn → MY,wpAny_letGo → MZ,sizeLine_eq → Na,mem_of_lookup → Nf,Builtin → Nk,wpAny_rule → Nr,call_meets → Nt,wpAny_attempt → ND,wpAny_Call_Name_kw → NF,pushCells_keeps → Oh,wpAny_typeOf → Ot,wpAny_pyIter_tuple → Ou,wpAny_newTuple → Oz,wpAny_pyIter_zip → OR,wpAny_execs_nil → OY,codeAny_mono → Pa,wpAny_updateSeq_pair → Pk,wpAny_standAt → PF,wpAny_newList → PH,wpAny_pyIter_list → PL,typeIs_int → PM,concat_meets → P5,wpAny_isInstance → PR,noFill_tuple_add → PU,Addr → eh,Value → ej,Expr → eA,eval → eB,Shared → eF,model → eP,Heap → f6,starEach → f7,sizeLine → gm,Pos → gu,World → hB,Scope → hG,Program → i8,Stmt → jn,Around → m9,Obj → ni,compareOp → n4,IsZip → n9,Builtin → o8,Env → o9,IsPair → pa,foldedSetIterable → rn,FuncData → r9,backTo → tw,cellsFrom → uw,holding → u5,IsEnum → vr,assign → xb,binaryOp → xg,NameKind → yg,mainGlobals → A4,relabel → A6,assignEach → B0,behindInMarks → B1,bootBuiltins → B3,rawInt → B8,swapsWith → B9,IsPart → C7,getItem → Dh,sysModules → Dn,pushCells → Dy,pyNext → Dz,Keyword → DI,bindC → DK,bindL → DM,cLine → DN,callerA → DO,isTrue → DR,standAt → DX,Meets → D1,atKey → D5,valueAt → E7,CmpOp → E8,PassesOwn → F4,attributeBase → F6,lastMarks → G3,truthy → I7,BindsTo → L0,letOwnedTupleGo → M6,pyIter → N5,spliced → N7,swapsWithSole → N9,typeLookup → O8,IsEnumOut → PY,ZipApart → P9,backToKw → Ri,firstArgMember → Rq,ownMembersOf → RO,setItem → R6,subscripted → R8,swappedStores → R9,builtinsNs → Sw,newFunctionEnv → SR,seqIndex_neg → SU,seqIndex_of → SV,seq_tuple_add → SW,tupleKind → Tc,typeIs_str → Te,wpAny_Name → Tf,builtinLookup_eq_fast → Tu,getattributeRaised → TJ,tupleKind_room_in1 → Uj,wpAny_assign_Name → Um,wpAny_binaryOp_repeat_ref → Uo,wpAny_isTrue_Compare1 → Up,wpAny_letOwnedTupleGo_enum → Uq,wpAny_sequenceKey → Ur
open List renaming range → HU,mem_range → HW,getElem?_eq_getElem → HX,getD_eq_getElem?_getD → HY,replicate → HZ,getElem?_set_ne → Ib,getElem?_cons_zero → Ih,getElem?_cons_succ → Ij,size_toArray → Ik,mem_cons → Il,mem_cons_of_mem → Im,getElem?_eq_some_iff → Io,map_congr_left → Iu,mem_cons_self → Iy,getElem?_set_self → Iz,mem_map → IB,length_map → IE,mem_append_right → IF,not_mem_nil → IH,mem_filter → IL,map_cons → IQ,length_cons → IS,mem_of_getElem? → IY,map_map → Lb,getElem?_map → Le,getElem?_append_right → Lg,length_nil → Lj,countP_eq_length_filter → Lm,length_range → Ls,eq_nil_of_length_eq_zero → Lu,getElem?_append_left → Lz,lookup_cons → LC,map_append → LD,length_append → LG,all_eq_true → LK,nodup_cons → LO,set_cons_zero → LS,set_cons_succ → LU,ext_getElem? → Mc,countP_congr → Md,range_succ → Mf,range_eq_range' → Mj,replicate_succ → Mo,getElem_mem → Mr,mem_singleton → Ms,pairwise_iff_getElem → Mu,drop_eq_getElem_cons → Mv,getElem?_set → Mz,find?_cons → MA,range'_succ → MD,take_of_length_le → MH,zip_cons_cons → MI,toArray → ML,nil_append → MM,mem_append → MN,length_singleton → MO,flatten_cons → MT,Pairwise → MU,length_take → Nh,zip_map' → Nm,getElem?_replicate → Nn,append_nil → Np,pairwise_lt_range → NA,range' → NB,pairwise_map → NC,length_filter_le → NJ,length_drop → NM,drop_length → NN,getElem_of_mem → NS,getElem?_range → NT,forIn_cons → NU,filter_sublist → NV,countP_eq_zero → NW,filter_append → Oc,range_add → Od,getElem?_zip_eq_some → Oe,forIn_nil → Of,any_cons → Ov,all_cons → Ow,zipIdx_cons → OB,nodup_range → OC,cons_append → OD,zipIdx_nil → OH,map_nil → OI,countP_map → OJ,mem_append_left → OS,getElem?_of_mem → OT,filterMap_cons → OW,map_singleton → Pj,length_eq_countP_add_countP → Po,foldl → Pq,filter_congr → Pu,any_eq_false → Pw,any_eq_true → PD
open PySem.Heap renaming get?_push_of_some → HV,lt_size → Ip,get?_push_size → Iq,push → IA,size_push → IU,get?_update_other → LL,size_update → ME,SameBut → MP,get?_push_ne → MV,get?_update_self → NK,get?_update_ne → OX
open Option renaming bind_some → Ia,map_some → Iv,some → LJ,isSome_iff_exists → Mg,getD_some → Nb,map → L5,some → cq,none → dn
open Nat renaming le_refl → Ic,lt_of_lt_of_le → IC,lt_or_ge → IG,ne_of_lt → IJ,le_add_right → IM,not_lt_zero → o1,lt_succ_of_lt → Lo,zero_le → Lp,lt_irrefl → Lq,le_trans → Lr,zero_add → Lw,reduceAdd → LV,lt_succ_self → LW,ne_of_gt → LY,add_sub_cancel_left → Ma,lt_trichotomy → NH,le_succ → NY,le_succ_of_le → Oq,add_assoc → OA,mul_comm → OO,min_eq_left → OP,le_of_lt → OQ
open Int renaming mul_emod → Ii,emod_emod → ID,emod_lt_of_pos → IP,emod_nonneg → La,add_emod → Lh,mul_comm → Ln,mul_assoc → Lx,emod_eq_of_lt → LF,toNat_natCast → Me,sub_emod → Mh,emod_eq_emod_iff_emod_sub_eq_zero → Mk,mul_left_comm → Mn,mul_zero → Mt,eq_ofNat_of_zero_le → MC,zero_mul → MQ,one_mul → MR,add_zero → MS,mul_add → Nj,mul_one → NI,add_mul → OE,toNat_of_nonneg → Pg
open Bool renaming and_eq_true → Ir,false_ne_true → II,or_eq_true → LP,false_eq_true → LZ,not_eq_true' → Mm,false_and → Nd,true_and → NQ,and_true → Oy,eq_iff_iff → OL,true → di,false → d7
open PySem.Builtin.SmallTypes renaming nextOf → Iw,ownedTupleIsFree → IK,ownedTupleHandOut → Ly,ownedTupleFields → Oa
open Ne renaming symm → IT
open PySem.NameKind renaming free → IV,cell → My
open PySem.Obj renaming mapSeq → IW,data_mapFields → Pn
open Option.some renaming inj → IX
open PySem.Value renaming none → IZ,ref → LX,type → Nw,str → Pb,int → Pc
open PySem.Str renaming ofString → Ld,join → PK
open PyProof.Rows renaming callWith_type1 → Ll,slot_tuple_getitem → LM,listUpdate_at → NG,slot_tupleiter_next → Og,tupleItemsOf_ → OM,callWith_builtin1 → ON,get?_update_seq → OZ,seqEpoch_at → Px,size_push' → PN,seqObj → g5,AllBare → Dq,Call_ → DE,IsTup → F0,arrOf → F5,IntsAre → L4,envOfC → L9,Subscript_ → Su,subscriptTail → S3,args_tuple_getitem → Tr,args_tupleiter_next → Ts,entry_tupleiter_next → Tx,listItems_at → TV,subscriptTail_builtinR → Ue
open Classical renaming byContradiction → Lv,axiomOfChoice → Ni
open PySem.SeqAt renaming EqAt → LI
open Array renaming length_toList → LN,getD_eq_getD_getElem? → MK
open PySem.Builtin.Tuple renaming tupleExact → Mb,tupleIsExact → MF
open Sum renaming inl → Ml,inr → Py
open False renaming elim → Mx
open PySem.F renaming slot_zip_next → MB,slot_enumerate_next → MX,slot_list_getattribute → Nq,slot_tuple_mul → NR,args_tuple_add_2 → Ob,plainAttrs_list → Oi,entry_tuple_add → Oj,slot_tuple_add → Oo,args_zip_next_1 → OF,entry_zip_next → OK,slot_int_rmul → OU,args_tuple_mul_2 → PB,entry_tuple_mul → PJ
open True renaming intro → MG
open PySem.Builtin.Slice renaming slicePlaces → MJ,sliceAdjust → NL
open PySem.SeqAt.EqAt renaming int_int → Nc
open PySem.PyData renaming depth → Ng,eqv → Nv,canLay0 → Nz,eqvAll → OV,canLayAll0 → Ph
open PySem.Challenge renaming rw_barsplit_k29_whole_hidden_bars → Ny
open List.Pairwise renaming imp_of_mem → NO,filter → Om
open PySem.Builtin.List renaming listTooLong → NP
open PySem.Calls renaming spliced_cons → NZ,spliced_nil → Pp
open PySem.Shared renaming heap → F2
open ForInStep renaming yield → P4
open PySem.Heap.SameBut renaming update → Ox
local macro_rules | `(⋯) => `(by first | decide +kernel | omega | simp)
set_option autoImplicit true
noncomputable section
set_option Elab.async false
set_option linter.all false
set_option maxRecDepth 100000
set_option maxHeartbeats 4000000
abbrev RQ:=PySem.Value->PySem.Shared->Prop
abbrev RW:=List (PySem.Addr×PySem.Obj)
abbrev RV:=Nat->Nat->Nat->Int
abbrev RK:=Nat->Nat->Int
abbrev RX:=Nat->Bool
abbrev RZ:=Nat->Nat
abbrev RJ:=PySem.Str->Option PySem.Value
theorem RY{c:Prop}{h:Decidable c}(z:c){α}{a b:α}:ite c a b=a:=if_pos z
theorem EQ{c:Prop}{h:Decidable c}(z:¬c){α}{a b:α}:ite c a b=b:=if_neg z
namespace L2
open PySem PySem.Spec PyProof.Rows
abbrev Key:=Sum Int Str
noncomputable def aO:Key->ej->Bool
 | .inl k,v=>Value.isInt k v
 | .inr x,v=>Value.isStrOf x v
noncomputable def Hk(w:hB):Key->Int
 | .inl k=>hashInt k
 | .inr x=>hashStr w x
theorem qc : ∀{k:Key} {v:ej},aO k v=di->(∃i t,k=Ml i/\v=Pc i t)\/(∃x t,k=Py x/\v=Pb x t)
 | .inl i,v,h=>by obtain⟨t,e⟩:=Value.isInt_shape (k:=i) (v:=v) h;exact .inl ⟨i,t,rfl,e⟩
 | .inr x,v,h=>by obtain⟨t,e⟩:=Value.isStrOf_shape (x:=x) (v:=v) h;exact .inr ⟨x,t,rfl,e⟩
theorem dZ(i:Int)(t:Tok):aO (.inl i) (.int i t)=di:=by simp[aO,Value.isInt]
theorem dY(x:Str)(t:Tok):aO (.inr x) (.str x t)=di:=by simp[aO,Value.isStrOf]
theorem AC(a b:Int):decide ((Ml a:Key)=Ml b)=(a==b):=by
 by_cases e:a=b
 ·subst e;simp
 ·have h : ¬(Ml a:Key)=Ml b:=λq=>e (Ml.inj q)
  rw[decide_eq_false h];exact(beq_eq_false_iff_ne.mpr e).symm
theorem Az(a b:Str):decide ((Py a:Key)=Py b)=decide (a=b):=by
 by_cases e:a=b
 ·subst e;simp
 ·have h : ¬(Py a:Key)=Py b:=λq=>e (Py.inj q)
  rw[decide_eq_false h,decide_eq_false e]
theorem AB(a:Int)(b:Str):decide ((Ml a:Key)=Py b)=d7:=decide_eq_false<|λq=>nomatch q
theorem AA(a:Str)(b:Int):decide ((Py a:Key)=Ml b)=d7:=decide_eq_false<|λq=>nomatch q
noncomputable def qZ(prog:i8)(w:hB):PySem.KeyKind prog w Key where
 is:=aO
 hash:=Hk w
 inj:=λv a b ha I=>by
  rcases qc ha with⟨i,t,rfl,rfl⟩ | ⟨x,t,rfl,rfl⟩
  ·rcases qc I with⟨j,u,rfl,e⟩ | ⟨y,u,rfl,e⟩
   ·injection e with e1 _;rw[e1]
   ·exact nomatch e
  ·rcases qc I with⟨j,u,rfl,e⟩ | ⟨y,u,rfl,e⟩
   ·exact nomatch e
   ·injection e with e1 _;rw[e1]
 byValue:=λk v h=>by rcases qc h with⟨i,t,rfl,rfl⟩ | ⟨x,t,rfl,rfl⟩<;>rfl
 pyHash:=λz h=>by
  rcases qc z with⟨i,t,rfl,rfl⟩ | ⟨x,t,rfl,rfl⟩
  ·exact wpAny_pyHash_int h
  ·exact wpAny_pyHash_str h
 eqBool:=λO z h=>by
  rcases qc O with⟨i,t,rfl,rfl⟩ | ⟨x,t,rfl,rfl⟩
  ·rcases qc z with⟨j,u,rfl,rfl⟩ | ⟨y,u,rfl,rfl⟩
   ·rw[AC]at h;exact wpAny_eqBool_int h
   ·rw[AB]at h;exact LI.int_str i t y u _ _ _ _ h
  ·rcases qc z with⟨j,u,rfl,rfl⟩ | ⟨y,u,rfl,rfl⟩
   ·rw[AA]at h;exact LI.str_int x t j u _ _ _ _ h
   ·rw[Az]at h;exact wpAny_eqBool_str h
 «strs» :=λk x t v h=>by
  rcases qc h with⟨i,u,rfl,e⟩ | ⟨y,u,rfl,e⟩
  ·exact nomatch e
  ·injection e with e1 _
   subst e1;cases v<;>rfl
theorem Y7(prog:i8)(w:hB)(i:Int)(t:Tok):(qZ prog w).is (.inl i) (.int i t)=di:=dZ i t
theorem Y6(prog:i8)(w:hB)(x:Str)(t:Tok):(qZ prog w).is (.inr x) (.str x t)=di:=dY x t
inductive V where
 | fh | bl (b:Bool) | int (i:Int) | str (x:Str) | F7 (b:Array UInt8) | E1 (b:UInt64) | ref (a:eh) | ty (n:String)
 deriving DecidableEq
noncomputable def RelV:V->ej->Prop
 | .fh,u=>u=IZ
 | .bl b,u=>u=Value.bool b
 | .int i,u=>∃t,u=Pc i t
 | .str x,u=>∃t,u=Pb x t
 | .F7 b,u=>∃t,u=Value.bytes b t
 | .E1 b,u=>∃t,u=Value.float b t
 | .ref a,u=>u=LX a
 | .ty n,u=>u=Nw n
abbrev fy:List V->List ej->Prop:=Paired RelV
theorem fy.length(r:fy xs us):xs.length=us.length:=Paired.length r
theorem fy.get : ∀{xs:List V} {us:List ej} {i:Nat} {x:V},fy xs us->xs[i]? = cq x->∃u,us[i]? = cq u/\RelV x u
 | _,_,_,_,.nil,e=>by simp at e
 | _,_,0,_,.cons r _,e=>by simp at e;subst e;exact⟨_,rfl,r⟩
 | _,_,i+1,x,.cons _ t,e=>by obtain⟨u,a,b⟩:=fy.get (i:=i) (x:=x) t (by simpa using e);exact⟨u,by simpa using a,b⟩
theorem fy.set(r:RelV x u) : ∀{xs:List V} {us:List ej} (i:Nat),fy xs us->fy (xs.set i x) (us.set i u)
 | _,_,_,.nil=> .nil
 | _,_,0,.cons _ t=> .cons r t
 | _,_,i+1,.cons q t=> .cons q (fy.set r i t)
theorem fy.append : ∀{xs ys:List V} {us z:List ej},fy xs us->fy ys z->fy (xs++ys) (us++z)
 | _,_,_,_,.nil,s=>s
 | _,_,_,_,.cons r t,s=> .cons r (fy.append t s)
theorem fy.take : ∀{xs:List V} {us:List ej} (n:Nat),fy xs us->fy (xs.take n) (us.take n)
 | _,_,0,_=> .nil
 | _,_,_+1,.nil=> .nil
 | _,_,n+1,.cons r t=> .cons r (fy.take n t)
theorem fy.drop : ∀{xs:List V} {us:List ej} (n:Nat),fy xs us->fy (xs.drop n) (us.drop n)
 | _,_,0,r=>r
 | _,_,_+1,.nil=> .nil
 | _,_,n+1,.cons _ t=>fy.drop n t
noncomputable def zl:Option V->Option ej->Prop
 | some v,cq u=>RelV v u
 | none,dn=>True
 | _,_=>False
noncomputable def KV{C:Type}:List (C×V)->List (C×ej)->Prop:=Paired λ(p:C×V) (q:C×ej)=>p.1=q.1/\RelV p.2 q.2
def kV:Key->V
 | .inl i=> .int i
 | .inr x=> .str x
inductive HO where
 | lst (xs:List V)
 | tup (xs:List V)
 | dK (m4:List (Key×V)) | dT (m4:List (List Key×V))
 | set (S:Int->Bool) (n:Nat)
 | ins (C dx:eh) (fs:List (Str×V))
 | own (x:eh)
 | xd (fs:List (Str×V))
 | met (f x:eh)
 | m8 (lo hi:Int)
 | u0 (o:ni) (u:HO)
 | DY (ps:Array ej)
 | ext (φ:f6->Prop)
abbrev Hp:=eh->Option HO
def upd(H:Hp)(a:eh)(o:HO):Hp:=λb=>if b=a then cq o else H b
theorem zG:upd H a o a=cq o:=by unfold upd;rw[RY rfl]
theorem zD(h:b≠a):upd H a o b=H b:=by unfold upd;rw[EQ h]
theorem bA{H:Hp}{a:eh}{o u:HO}:upd (upd H a o) a u=upd H a u:=by funext b;unfold upd;split<;>rfl
theorem j5{H:Hp}{a b:eh}{o:HO}(h:H a=cq o)(h':H b=dn):a≠b:=by intro e;subst e;rw[h]at h';cases h'
noncomputable def A8(h:f6)(a:eh)(items:Array ej):Prop:=∃o,h.get? a=cq o/\(o.cls,o.dict)=(Nw "tuple",dn)/\∃n,o.data = .seq items n
theorem A8.new(h:f6)(items:Array ej):A8 (h.push {cls:= .type "tuple",data:= .seq items}) h.objs.size items:=⟨_,Iq _ rfl,rfl,_,rfl⟩
theorem A8.tup(x:A8 h a items):F0 h a items:=let ⟨o,e,c,r⟩:=x;⟨o,e,(Prod.mk.inj c).1,r⟩
section
variable(P:i8)(w:hB)
noncomputable def md(H:Hp)(h:f6)(a:eh):HO->Prop
 | .lst d=>d.length<=gm/\∃(z:List ej) (n:Nat),fy d z/\h.get? a=cq {cls:= .type "list",data:= .seq z.toArray n}
 | .tup d=>d.length<=gm/\∃z:List ej,fy d z/\A8 h a z.toArray
 | .dK b=>b.length<=gm/\(a==Dn)=d7/\∃l,KV b l/\h.DictOf (qZ P w) a l
 | .dT b=>b.length<=gm/\(a==Dn)=d7/\∃d:List (List Key×eh×ej),
  Paired (λ(p:List Key×V) (q:List Key×eh×ej)=>p.1=q.1/\H q.2.1=cq (.tup<|p.1.map kV)/\RelV p.2 q.2.2) b d/\
  ∃o i I,h.get? a=cq o/\o.ExactDict/\o.data = .dict i I/\i.toList=d.map (entryOfKey<|tupleKind<|qZ P w)/\(d.map (·.1)).Nodup
 | .set S n=>h.SetOf (intKind P w) a S n
 | .ins C e fs=>H e=cq (.own a)/\fs.length<=1000/\e≠a/\h.get? a=cq (PySem.W.instObj C e)/\
  ∃mA,h.Ns1 e mA/\(∀f,zl (fs.lookup f)<|mA f)/\PySem.Within mA (fs.map (·.1))
 | .own _=>∃o,h.get? a=cq o
 | .xd fs=>∃mA,h.Ns1 a mA/\∀f,zl (fs.lookup f)<|mA f
 | .m8 lo m=>∃t u v,h.get? a=cq {cls:= .type "range",data:= .fields #[.int lo t,.int m u,.int 1 v]}
 | .u0 o u=>h.get? a=cq o/\md H h a u
 | .DY r=>h.get? a=cq {cls:= .none,data:= .fields r}
 | .met f x=>h.get? a=cq (Pd (.ref f)<|.ref x)
 | .ext g=>g h/\(∃o,h.get? a=cq o)/\∀j k:f6,g j->(∀o,j.get? a=cq o->k.get? a=cq o)->g k
def m3(H:Hp)(h:f6):Prop:=∀a o,H a=cq o->md P w H h a o
end
section
variable{P:i8}{w:hB}{H H':Hp}{h h':f6}{a:eh}{o:HO}
theorem md.lt(x:md P w H h a o):a<h.objs.size:=by
 cases o with
 | lst d=>obtain⟨_,_,_,_,e⟩:=x;exact Ip e
 | tup d=>obtain⟨_,_,_,p⟩:=x;exact p.tup.lt
 | dK b=>obtain⟨_,_,_,_,o,_,_,e,_⟩:=x;exact Ip e
 | dT b=>obtain⟨_,_,_,_,o,_,_,e,_⟩:=x;exact Ip e
 | set S n=>obtain⟨o,_,_,_,e,_⟩:=x;exact Ip e
 | ins C g fs=>obtain⟨_,_,_,e,_⟩:=x;exact Ip e
 | own y=>obtain⟨_,e⟩:=x;exact Ip e
 | xd fs=>obtain⟨_,⟨_,_,_,e,_⟩,_⟩:=x;exact Ip e
 | m8 lo i=>obtain⟨_,_,_,e⟩:=x;exact Ip e
 | u0 z u=>obtain⟨e,_⟩:=x;exact Ip e
 | DY j=>exact Ip (show h.get? a=cq _ from x)
 | met f y=>exact Ip (show h.get? a=cq _ from x)
 | ext k=>obtain⟨_,⟨_,e⟩,_⟩:=x;exact Ip e
theorem Paired.SQ : ∀{z:List α} {I:List β},Paired F z I->(∀a b,F a b->G a b)->Paired G z I
 | _,_,.nil,_=> .nil
 | _,_,.cons r t,f=> .cons (f _ _ r) (Paired.SQ t f)
theorem md.DA(x:md P w H h a o)(k : ∀b u,(b=a\/H b=cq (.own a))->h.get? b=cq u->h'.get? b=cq u)
 (Y : ∀b,H b=cq (.own a)->H' b=cq (.own a)) (J : ∀b xs,H b=cq (.tup xs)->H' b=cq (.tup xs)):md P w H' h' a o:=by
 induction o with
 | lst xs=>obtain⟨z,U,n,r,e⟩:=x;exact⟨z,U,n,r,k _ _ (.inl rfl) e⟩
 | tup xs=>obtain⟨z,U,r,I,e,c⟩:=x;exact⟨z,U,r,I,k _ _ (.inl rfl) e,c⟩
 | dK i=>obtain⟨z,y,E,r,I,g,O,e,c⟩:=x;exact⟨z,y,E,r,I,g,O,k _ _ (.inl rfl) e,c⟩
 | dT i=>
  obtain⟨z,y,xs,r,I,g,O,e,c⟩:=x;exact⟨z,y,xs,Paired.SQ r λp q z=>⟨z.1,J _ _ z.2.1,z.2.2⟩,I,g,O,k _ _ (.inl rfl) e,c⟩
 | set S n=>obtain⟨I,g,O,t,e,c⟩:=x;exact⟨I,g,O,t,k _ _ (.inl rfl) e,c⟩
 | ins C F fs=>
  obtain⟨d,z,B,e,j,⟨l,g,O,s,c⟩,r⟩:=x;exact⟨Y _ d,z,B,k _ _ (.inl rfl) e,j,⟨l,g,O,k _ _ (.inr d) s,c⟩,r⟩
 | own y=>obtain⟨I,e⟩:=x;exact⟨I,k _ _ (.inl rfl) e⟩
 | xd fs=>obtain⟨j,⟨l,g,O,e,c⟩,r⟩:=x;exact⟨j,⟨l,g,O,k _ _ (.inl rfl) e,c⟩,r⟩
 | m8 lo G=>obtain⟨t,u,v,e⟩:=x;exact⟨t,u,v,k _ _ (.inl rfl) e⟩
 | u0 I u A=>obtain⟨e,q⟩:=x;exact⟨k _ _ (.inl rfl) e,A q⟩
 | DY m=>
  have e:h.get? a=cq {cls:= .none,data:= .fields m}:=x;show h'.get? a=cq {cls:= .none,data:= .fields m};exact k a _ (.inl rfl) e
 | met f y=>
  have e:h.get? a=cq (Pd (.ref f)<|.ref y):=x;show h'.get? a=cq (Pd (.ref f)<|.ref y);exact k a _ (.inl rfl) e
 | ext K=>obtain⟨p,⟨o,e⟩,st⟩:=x;exact⟨st _ _ p λo q=>k _ _ (.inl rfl) q,⟨o,k _ _ (.inl rfl) e⟩,st⟩
theorem m3.lt(x:m3 P w H h)(e:H a=cq o):a<h.objs.size:=(x a o e).lt
theorem m3.fresh(x:m3 P w H h)(e:h.objs.size<=a):H a=dn:=by
 cases q:H a with
 | none=>rfl
 | some u=>exact absurd (IC (x.lt q) e)<|Lq _
theorem m3.kept(x:m3 P w H h)(k : ∀b u,h.get? b=cq u->h'.get? b=cq u):m3 P w H h':=λa o e=>
 (x a o e).DA (λb u _ q=>k b u q) (λ_ q=>q) λ_ _ q=>q
theorem m3.laid(x:m3 P w H h)(k : ∀b u,h.get? b=cq u->h'.get? b=cq u)(I:h.objs.size<=a)(new:md P w (upd H a o) h' a o):m3 P w (upd H a o) h':=λb u e=>by
 have d:=x.fresh I;by_cases z:b=a
 ·subst z;rw[zG]at e;cases e;exact new
 ·rw[zD z]at e
  exact(x b u e).DA (λc v _ q=>k c v q) (λc q=>by rw[zD (j5 q d)];exact q) λc f q=>by rw[zD (j5 q d)];exact q
end
noncomputable def Rd(H:Hp)(a:eh)(u:HO):Prop:=H a=cq u\/∃o,H a=cq (.u0 o u)
theorem Rd.ok(r:Rd H a u)(x:m3 P w H h):md P w H h a u:=by
 rcases r with r | ⟨o,r⟩
 ·exact x a u r
 ·obtain⟨_,q⟩:=x a _ r
  exact q
noncomputable def F1:Option HO->Prop
 | some (.lst _)=>True
 | some (.dK _)=>True
 | some (.dT _)=>True
 | some (.set _ _)=>True
 | some (.ins _ _ _)=>True
 | some (.ext _)=>True
 | _=>False
section
variable{P:i8}{w:hB}{H:Hp}{h h':f6}{x e:eh}{o':HO}
theorem m3.write(ok:m3 P w H h)(I:F1 (H x))(C:e=x\/H e=cq (.own x))(k : ∀b u,b≠e->h.get? b=cq u->h'.get? b=cq u)(J : ∃u,h'.get? e=cq u)
 (new:md P w (upd H x o') h' x o'):m3 P w (upd H x o') h':=λb u q=>by
 have d : ∀c y,H c=cq (.own y)->c≠x:=λc y r z=>by subst z;rw[r]at I;exact I
 have g : ∀c a,H c=cq (.tup a)->c≠x:=λc a r z=>by subst z;rw[r]at I;exact I
 by_cases O:b=x
 ·subst O;rw[zG]at q;cases q;exact new
 ·rw[zD O]at q
  by_cases U:b=e
  ·have f:H b=cq (.own x):=by
    rcases C with z | z
    ·exact absurd (U.trans z) O
    ·rw[U];exact z
   rw[q]at f;cases f;obtain⟨v,i⟩:=J;exact⟨v,by rw[U];exact i⟩
  ·refine(ok b u q).DA (λc v Y r=>k c v ?_ r) (λc r=>by rw[zD (d c b r)];exact r) λc a r=>by rw[zD (g c a r)];exact r
   rcases Y with rfl | Y
   ·exact U
   ·rintro rfl
    rcases C with z | z
    ·exact d c b Y z
    ·rw[Y]at z;cases z;exact O rfl
end
structure Un(fs ex:List eh)(H H':Hp)(h h':f6):Prop where
 keep : ∀b o,h.get? b=cq o->H b=dn->b∉fs->b∉ex->h'.get? b=cq o
 slot : ∀b o,h.get? b=cq o->H b=dn->b∈fs->b∉ex->∃sl,h'.get? b=cq {o with slots:=sl}
 free : ∀b o,h.get? b=cq o->H b=dn->b∉ex->H' b=dn
 there : ∀b o,h.get? b=cq o->b∉ex->∃o',h'.get? b=cq o'
 Dp : ∀b xs,H b=cq (.tup xs)->H' b=cq (.tup xs)
 Dx : ∀b o u,H b=cq (.u0 o u)->H' b=cq (.u0 o u)
 DZ : ∀b ps,H b=cq (.DY ps)->∃more,H' b=cq (.DY<|ps++more)
section
variable{fs TH ex Uu:List eh}{H H1 H2:Hp}{h h1 h2 h':f6}{a x e:eh}{o:HO}
theorem Un.any(u:Un fs ex H H1 h h1)(q:h.get? b=cq ob)(n:H b=dn)(hx:b∉ex) : ∃C,h1.get? b=cq {ob with slots:=C}:=by
 by_cases z:b∈fs
 ·exact u.slot b ob q n z hx
 ·exact⟨ob.slots,u.keep b ob q n z hx⟩
theorem Un.kept(k : ∀b u,h.get? b=cq u->h'.get? b=cq u):Un fs ex H H h h':=
 ⟨λb z q _ _ _=>k b z q,λb z q _ _ _=>⟨z.slots,k b z q⟩,λ_ _ _ n _=>n,λb z q _=>⟨z,k b z q⟩,λ_ _ q=>q,λ_ _ _ q=>q,λ_ a q=>⟨#[],by rw[q];simp⟩⟩
theorem Un.refl:Un fs ex H H h h:=Un.kept λ_ _ q=>q
theorem Un.laid(k : ∀b u,h.get? b=cq u->h'.get? b=cq u)(z:h.objs.size<=a)(hn:H a=dn):Un fs ex H (upd H a o) h h' where
 keep:=λb u q _ _ _=>k b u q
 slot:=λb u q _ _ _=>⟨u.slots,k b u q⟩
 free:=λb u q n _=>by rw[zD (IJ<|IC (Ip q) z)];exact n
 there:=λb u q _=>⟨u,k b u q⟩
 Dp:=λb xs q=>by rw[zD (j5 q hn)];exact q
 Dx:=λb u xs q=>by rw[zD (j5 q hn)];exact q
 DZ:=λb ps q=>⟨#[],by rw[zD (j5 q hn),q];simp⟩
theorem Un.write(I:F1 (H x))(Y:e=x\/H e=cq (.own x))(k : ∀b u,b≠e->h.get? b=cq u->h'.get? b=cq u)(C : ∃u,h'.get? e=cq u):Un fs ex H (upd H x o) h h':=by
 have d : ∀b,H b=dn->b≠x:=λb n z=>by subst z;rw[n]at I;exact I
 have O : ∀b,H b=dn->b≠e:=λb n z=>by
  subst z;rcases Y with r | r
  ·exact d b n r
  ·rw[n]at r;cases r
 have a : ∀b u,H b=cq u->¬F1 (cq u)->b≠x:=λb u q nm z=>by subst z;rw[q]at I;exact nm I
 refine⟨λb u q n _ _=>k b u (O b n) q,λb u q n _ _=>⟨u.slots,k b u (O b n) q⟩,λb u q n _=>by rw[zD (d b n)];exact n,λb u q _=>?_,
  λb f q=>by rw[zD (a b _ q λz=>z)];exact q,λb u f q=>by rw[zD (a b _ q λz=>z)];exact q,λb g q=>⟨#[],by rw[zD (a b _ q λz=>z),q];simp⟩⟩
 by_cases U:b=e
 ·subst U;exact C
 ·exact⟨u,k b u U q⟩
end
noncomputable def O5(h:f6)(H:Hp):List eh:=(HU h.objs.size).filter λa=>(H a).isSome
def lU(h:f6)(H:Hp):f6:=PySem.W.hideAll h<|O5 h H
theorem eQ(h:f6)(H:Hp):(lU h H).objs.size=h.objs.size:=PySem.W.hideAll_size _ _
theorem lT(e:h.get? b=cq o)(n:H b=dn):(lU h H).get? b=cq o:=
 PySem.W.hideAll_get _ e λa=>by have q:(H b).isSome=di:=(IL.mp a).2;rw[n]at q;simp at q
theorem pY(e:(lU h H).get? b=cq o):h.get? b=cq o/\H b=dn:=by
 have I:h.get? b=cq o:=PySem.W.of_hideAll (O5 h H) e;refine⟨I,?_⟩;cases q:H b with
 | none=>rfl
 | some x=>
  have a:b∈O5 h H:=IL.mpr ⟨HW.mpr<|Ip I,by simp[q]⟩;have z:(lU h H).get? b=dn:=PySem.W.hideAll_none (O5 h H) a;rw[z]at e;cases e
noncomputable def sD(g h:f6)(L:eh):List (eh×ni):=(HU h.objs.size).filterMap λa=>if a=L\/(g.get? a).isSome=di then dn else (h.get? a).map λo=>(a,o)
noncomputable def xE(g h:f6)(L d:eh):List (eh×ni):=(sD g h L).filter λp=>decide<|p.1≠d
structure Mod(K:HR)(mg:RJ)(base:f6):Prop where
 RA:K.In base
 glob:base.Ns A4 mg
 blt : ∃mb,base.Ns Sw mb/\∀x:Str,x ≠ "__name__"->mb x=B3 x
 nolimit:base.NoLimit
structure Cx where
 prog:i8
 w:hB
 K:HR
 mg:Str->Option ej
 base:f6
 A:m9
 N:List Str
 o6:eF
 FG:Hp
 env:o9
 outer:List o9
 stack:List o9
 ex:List eh
 fn:Str->Bool
 calm:Bool
 pn:List (eh×ni)
 xe:ej->eF->Prop
def A3(l:List o9):List eh:=l.filterMap (·.frame)
abbrev Cx.fs(X:Cx):List eh:=A3 X.outer
noncomputable def P7(C:hG)(x:Str):Prop:=C.names.lookup x=cq .local\/C.names.lookup x=cq .cell\/C.names.lookup x=cq .free
noncomputable def Loc(C:hG)(x:Str):Prop:=C.names.lookup x=cq .local\/C.names.lookup x=cq .cell
noncomputable def HC(env:o9)(h:f6)(m:RJ)(x:Str)(u:ej):Prop:=
 (env.kindOf x=cq .local/\m x=cq u)\/((env.kindOf x=cq .cell\/env.kindOf x=cq .free)/\∃c,env.cells.lookup x=cq c/\h.IsCell c (cq u))
structure Cx.Ok(X:Cx):Prop where
 mod:Mod X.K X.mg X.base
 kind:X.env.scope.kind = .function
 glob:X.env.globals=A4
 blt:X.env.builtins=Sw
 above:X.o6.heap.objs.size<=X.env.locals
 inj : ∀x y c,X.env.cells.lookup x=cq c->X.env.cells.lookup y=cq c->x=y
 has : ∀x,(X.env.kindOf x=cq .cell\/X.env.kindOf x=cq .free)->∃c,X.env.cells.lookup x=cq c
 F8 : ∀x c,X.fn x=di->X.env.cells.lookup x=cq c->X.o6.heap.objs.size<=c
 hd:X.calm=di->X.A.handled=dn
 frames:X.A.frames=cq X.stack
 N8:X.stack=X.outer\/(X.stack=X.env::X.outer/\X.env.frame=cq X.env.locals)
 M0 : ∀b∈X.ex,b≠X.env.locals/\∀x c,X.env.cells.lookup x=cq c->c≠b
 bs : ∀b o,X.base.get? b=cq o->X.o6.heap.get? b=cq o/\X.FG b=dn
 B4:X.base.objs.size<=X.o6.heap.objs.size
 G6 : ∀b o,X.base.get? b=cq o->b∉X.ex
 Gx : ∀b∈X.ex,b∉X.fs
 u4:X.o6.heap.FunFrames X.base X.outer
 Dw : ∀b∈X.fs,X.FG b=dn
structure Inv(X:Cx)(pins:RW)(σ:List (Option V))(H:Hp)(s:eF):Prop where
 ok:X.Ok
 os:s.os=X.o6.os
 bare:Dq s.gens
 base:Un X.fs X.ex X.FG H X.o6.heap s.heap
 loc : ∃m,s.heap.Ns X.env.locals m/\∀(i:Nat) (x:Str) (v:V),X.N[i]? = cq x->σ[i]? = cq (cq v)->P7 X.env.scope x->∃u,RelV v u/\HC X.env s.heap m x u
 cell : ∀x c,X.env.cells.lookup x=cq c->∃v,s.heap.IsCell c v
 free:H X.env.locals=dn
 A1 : ∀x c,X.env.cells.lookup x=cq c->H c=dn
 pin : ∀p∈X.pn++pins,s.heap.get? p.1=cq p.2/\H p.1=dn/\p.1≠X.env.locals/\p.1∉X.fs/\∀v,p.2.data ≠ .cell v
 f9:m3 X.prog X.w H s.heap
 len:σ.length=X.N.length
section
variable{X:Cx}{pins:RW}{σ:List (Option V)}{H H':Hp}{s:eF}{h':f6}
theorem Cx.Ok.TZ(ok:X.Ok)(e:X.base.get? b=cq o):b∉X.fs:=λz=>by have:=(ok.u4.mem z).1;rw[e]at this;cases this
theorem Inv.bs(I:Inv X pins σ H s) : ∀b o,X.base.get? b=cq o->s.heap.get? b=cq o/\H b=dn:=λb o e=>
 ⟨I.base.keep b o (I.ok.bs b o e).1 (I.ok.bs b o e).2 (I.ok.TZ e) (I.ok.G6 b o e),I.base.free b o (I.ok.bs b o e).1 (I.ok.bs b o e).2 (I.ok.G6 b o e)⟩
theorem Inv.bk(I:Inv X pins σ H s) : ∀b o,X.base.get? b=cq o->s.heap.get? b=cq o:=λb o e=>(I.bs b o e).1
theorem Inv.mod(I:Inv X pins σ H s):Mod X.K X.mg X.base:=I.ok.mod
theorem Inv.n7(I:Inv X pins σ H s):X.K.In s.heap:=I.ok.mod.RA.keeps I.bk
theorem Inv.lt(I:Inv X pins σ H s):X.env.locals<s.heap.objs.size:=let ⟨_,a,_⟩:=I.loc;a.lt
theorem Inv.sz(I:Inv X pins σ H s):X.o6.heap.objs.size<=s.heap.objs.size:=Lr I.ok.above<|OQ I.lt
theorem Inv.T2(I:Inv X pins σ H s)(h:s.heap.objs.size<=a):a∉X.fs:=λz=>by obtain⟨_,o,O,_⟩:=I.ok.u4.mem z;exact absurd (IC (Ip O)<|Lr I.sz h)<|Lq _
theorem Inv.DP(I:Inv X pins σ H s) : ∀x c,X.env.cells.lookup x=cq c->c≠X.env.locals:=λx c e z=>by obtain⟨v,o,O,a⟩:=I.cell x c e;obtain⟨m,⟨f,d,b,U,Y,_⟩,_⟩:=I.loc;rw[z,U]at O;cases O;rw[Y]at a;cases a
theorem Inv.u4(I:Inv X pins σ H s):s.heap.FunFrames X.base X.outer:=by
 have all : ∀(l:List o9),(∀b∈A3 l,b∈X.fs)->X.o6.heap.FunFrames X.base l->s.heap.FunFrames X.base l:=by
  intro l
  induction l with
  | nil=>intro _ _;trivial
  | cons d r m=>
   intro a h;obtain⟨g,⟨L,o,O,i,j,f⟩,k⟩:=h;have U:L∈X.fs:=a L (by unfold A3;rw[OW,O];exact Iy);obtain⟨n,e⟩:=I.base.slot L o j (I.ok.Dw L U) U λz=>I.ok.Gx L z U;exact⟨g,⟨L,_,O,i,e,f⟩,m (λb Y=>a b<|by unfold A3;rw[OW,O];exact Im _ Y) k⟩
 exact all X.outer (λ_ Y=>Y) I.ok.u4
theorem Inv.stack(I:Inv X pins σ H s):s.heap.FunFrames X.base X.stack:=by
 rcases I.ok.N8 with e | ⟨e,z⟩
 ·rw[e];exact I.u4
 ·rw[e]
  obtain⟨m,a,_⟩:=I.loc;refine .cons (by rw[I.ok.kind];decide) z a ?_ I.u4;exact Heap.get?_none_of_le<|Lr I.ok.B4 I.ok.above
theorem Inv.R7(I:Inv X pins σ H s) : ∀b∈A3 X.stack,b∈X.env.locals::X.fs:=λb z=>by
 rcases I.ok.N8 with e | ⟨e,O⟩
 ·rw[e]at z;exact Im _ z
 ·rw[e]at z
  unfold A3 at z;rw[OW,O]at z;exact z
theorem Inv.S2(I:Inv X pins σ H s) : ∀b∈A3 X.stack,H b=dn:=λb O=>by
 rcases Il.mp (I.R7 b O)with e | O
 ·rw[e];exact I.free
 ·obtain⟨_,o,U,_⟩:=I.ok.u4.mem O
  exact I.base.free b o U (I.ok.Dw b O) λz=>I.ok.Gx b z O
theorem Inv.step{g':Array GenState}{t':Nat}{d':Drawn}{ch:List eh}(I:Inv X pins σ H s)
 (Y : ∀b∈ch,(b∈X.ex\/X.o6.heap.objs.size<=b)/\b≠X.env.locals/\(∀x c,X.env.cells.lookup x=cq c->c≠b)/\∀p∈X.pn++pins,p.1≠b)
 (keep : ∀b o,b≠X.env.locals->b∉X.fs->b∉ch->s.heap.get? b=cq o->H b=dn->h'.get? b=cq o)
 (C : ∀b o,b≠X.env.locals->b∈X.fs->b∉ch->s.heap.get? b=cq o->H b=dn->∃sl,h'.get? b=cq {o with slots:=sl}) (free : ∀b o,b∉ch->s.heap.get? b=cq o->H b=dn->H' b=dn)
 (J : ∀b o,b∉ch->s.heap.get? b=cq o->∃S,h'.get? b=cq S)
 (Dp : ∀b xs,H b=cq (.tup xs)->H' b=cq (.tup xs)) (L : ∀b o u,H b=cq (.u0 o u)->H' b=cq (.u0 o u)) (Z : ∀b ps,H b=cq (.DY ps)->∃more,H' b=cq (.DY<|ps++more))
 (ns : ∀m,s.heap.Ns X.env.locals m->h'.Ns X.env.locals m) (f9:m3 X.prog X.w H' h') (hg:Dq g') :
 Inv X pins σ H' {s with heap:=h',gens:=g',drawn:=d',toks:=t'}:=by
 have y : ∀b o,X.o6.heap.get? b=cq o->b≠X.env.locals:=λb o e=>IJ<|IC (Ip e) I.ok.above;have j : ∀b o,X.o6.heap.get? b=cq o->b∉X.ex->b∉ch:=λb o e a O=>by
  rcases (Y b O).1 with z | z
  ·exact a z
  ·exact absurd (IC (Ip e) z)<|Lq _
 have A : ∀x c,X.env.cells.lookup x=cq c->∀v,s.heap.IsCell c v->h'.IsCell c v:=λx c e v N=>by
  obtain⟨o,U,t⟩:=N;have g:c∉ch:=λz=>(Y c z).2.2.1 x c e rfl;by_cases B:c∈X.fs
  ·obtain⟨sl,q⟩:=C c o (I.DP x c e) B g U (I.A1 x c e)
   exact⟨_,q,t⟩
  ·exact⟨o,keep c o (I.DP x c e) B g U<|I.A1 x c e,t⟩
 refine⟨I.ok,I.os,hg,⟨λb o e n O a=>?_,λb o e n O a=>?_,λb o e n a=>?_,λb o e a=>?_,λb xs e=>Dp b xs<|I.base.Dp b xs e,λb o xs e=>L b o xs<|I.base.Dx b o xs e,λb ps e=>?_⟩,?_,λx c e=>?_,?_,λx c e=>?_,λp E=>?_,f9,I.len⟩
 ·exact keep b o (y b o e) O (j b o e a) (I.base.keep b o e n O a)<|I.base.free b o e n a
 ·obtain⟨sl,f⟩:=I.base.slot b o e n O a
  obtain⟨K,h⟩:=C b _ (y b o e) O (j b o e a) f<|I.base.free b o e n a;exact⟨K,h⟩
 ·obtain⟨S,f⟩:=I.base.there b o e a
  exact free b S (j b o e a) f<|I.base.free b o e n a
 ·obtain⟨S,f⟩:=I.base.there b o e a
  exact J b S (j b o e a) f
 ·obtain⟨R,f⟩:=I.base.DZ b ps e
  obtain⟨T,h⟩:=Z b _ f;exact⟨R++T,by rw[h,Array.append_assoc]⟩
 ·obtain⟨m,Q,P⟩:=I.loc
  refine⟨m,ns m Q,λi x v f h M=>?_⟩;obtain⟨u,r,l⟩:=P i x v f h M;refine⟨u,r,?_⟩;rcases l with l | ⟨k,c,e,z⟩
  ·exact .inl l
  ·exact .inr ⟨k,c,e,A x c e _ z⟩
 ·obtain⟨v,z⟩:=I.cell x c e
  exact⟨v,A x c e v z⟩
 ·obtain⟨m,⟨o,_,_,U,_⟩,_⟩:=I.loc
  exact free _ o (λz=>(Y _ z).2.1 rfl) U I.free
 ·obtain⟨v,o,U,t⟩:=I.cell x c e
  exact free c o (λz=>(Y c z).2.2.1 x c e rfl) U<|I.A1 x c e
 ·obtain⟨e,n,F,G,d⟩:=I.pin p E
  have g:p.1∉ch:=λz=>(Y p.1 z).2.2.2 p E rfl;exact⟨keep p.1 p.2 F G g e n,free p.1 p.2 g e n,F,G,d⟩
theorem Inv.un{t':Nat}(I:Inv X pins σ H s)(u:Un X.fs [] H H' s.heap h')(C:m3 X.prog X.w H' h'):Inv X pins σ H' {s with heap:=h',toks:=t'}:=by
 obtain⟨m,⟨o,j,i,U,r⟩,_⟩:=id I.loc;obtain⟨p,f⟩:=u.any U I.free ⋯;exact I.step (g':=s.gens) (d':=s.drawn) (ch:=[]) (λ_ z=>nomatch z) (λb o _ O _ e n=>u.keep b o e n O ⋯) (λb o _ O _ e n=>u.slot b o e n O ⋯) (λb o _ e n=>u.free b o e n ⋯) (λb o _ e=>u.there b o e ⋯) u.Dp u.Dx u.DZ (λk g=>by obtain⟨l,a,d,Y,h⟩:=g;rw[U]at Y;cases Y;exact⟨_,a,d,f,h⟩) C I.bare
theorem Inv.call{g':Array GenState}{t':Nat}{d':Drawn}{ch:List eh}(I:Inv X pins σ H s)(u:Un (A3 X.stack) ch H H' s.heap h')(C:m3 X.prog X.w H' h')(J:Dq g')
 (Y : ∀b∈ch,(b∈X.ex\/X.o6.heap.objs.size<=b)/\b≠X.env.locals/\(∀x c,X.env.cells.lookup x=cq c->c≠b)/\∀p∈X.pn++pins,p.1≠b) :
 Inv X pins σ H' {s with heap:=h',gens:=g',drawn:=d',toks:=t'}:=by
 obtain⟨m,⟨o,l,k,d,r⟩,_⟩:=id I.loc;obtain⟨A,U⟩:=u.any d I.free λz=>(Y _ z).2.1 rfl;exact I.step (ch:=ch) Y (λb o U h O e n=>u.keep b o e n (λz=>(Il.mp<|I.R7 b z).elim U h) O) (λb o _ _ O e n=>u.any e n O) (λb o O e n=>u.free b o e n O) (λb o O e=>u.there b o e O) u.Dp u.Dx u.DZ (λt i=>by obtain⟨y,f,g,a,j⟩:=i;rw[d]at a;cases a;exact⟨_,f,g,U,j⟩) C J
theorem Inv.turned{t':Nat}{it:eh}(I:Inv X pins σ H s)(k : ∀b o,b≠it->s.heap.get? b=cq o->h'.get? b=cq o)(S:H it=dn)(U:it≠X.env.locals)
 (C:it∈X.ex\/X.o6.heap.objs.size<=it) (J : ∀x c,X.env.cells.lookup x=cq c->c≠it) (L : ∀p∈X.pn++pins,p.1≠it):Inv X pins σ H {s with heap:=h',toks:=t'}:=by
 have Y : ∀b u,H b=cq u->b≠it:=λb u e z=>by rw[z,S]at e;cases e
 refine I.step (g':=s.gens) (d':=s.drawn) (ch:=[it]) (λb f=>?_) (λb o _ _ O e _=>k b o (λz=>O<|by simp[z]) e) (λb o _ _ O e _=>⟨o.slots,k b o (λz=>O<|by simp[z]) e⟩) (λ_ _ _ _ n=>n)
  (λb o O e=>⟨o,k b o (λz=>O<|by simp[z]) e⟩) (λ_ _ e=>e) (λ_ _ _ e=>e) (λb i e=>⟨#[],by rw[e];simp⟩) (λm g=>?_) (λb u e=>?_) I.bare
 ·have e:b=it:=by simpa using f
  subst e;exact⟨C,U,J,L⟩
 ·obtain⟨o,d,a,h,r⟩:=g
  exact⟨o,d,a,k _ o (IT U) h,r⟩
 ·refine(I.f9 b u e).DA (λc v O q=>k c v ?_ q) (λ_ q=>q) λ_ _ q=>q
  rcases O with z | z
  ·rw[z];exact Y b u e
  ·exact Y c _ z
theorem Inv.tok(I:Inv X pins σ H s)(t:Nat):Inv X pins σ H {s with toks:=t}:=I.un (h':=s.heap) (t':=t) Un.refl I.f9
theorem Inv.kept(I:Inv X pins σ H s)(k : ∀b u,s.heap.get? b=cq u->h'.get? b=cq u):Inv X pins σ H {s with heap:=h',toks:=t'}:=I.un (Un.kept k)<|I.f9.kept k
theorem Inv.laid(I:Inv X pins σ H s)(k : ∀b u,s.heap.get? b=cq u->h'.get? b=cq u)(z:s.heap.objs.size<=a)(new:md X.prog X.w (upd H a o) h' a o) :
 Inv X pins σ (upd H a o) {s with heap:=h',toks:=t'}:=I.un (Un.laid k z<|I.f9.fresh z)<|I.f9.laid k z new
theorem Inv.write(I:Inv X pins σ H s)(z:F1 (H x))(O:e=x\/H e=cq (.own x))(k : ∀b u,b≠e->s.heap.get? b=cq u->h'.get? b=cq u)(U : ∃u,h'.get? e=cq u)
 (new:md X.prog X.w (upd H x o) h' x o):Inv X pins σ (upd H x o) {s with heap:=h',toks:=t'}:=I.un (Un.write z O k U)<|I.f9.write z O k U new
theorem Inv.N1(I:Inv X pins σ H s)(h : ∀p∈O,s.heap.get? p.1=cq p.2/\H p.1=dn/\p.1≠X.env.locals/\p.1∉X.fs/\∀v,p.2.data ≠ .cell v):Inv X O σ H s:=
 ⟨I.ok,I.os,I.bare,I.base,I.loc,I.cell,I.free,I.A1,λp U=>(MN.mp U).elim (λz=>I.pin p<|OS _ z) (h p),I.f9,I.len⟩
theorem Wl{N:List Str}(z:N.Nodup){i j:Nat}{x:Str}(a:N[i]? = cq x)(b:N[j]? = cq x):i=j:=by obtain⟨f,d⟩:=Io.mp a;obtain⟨g,e⟩:=Io.mp b;exact(List.getElem_inj z).mp (d.trans e.symm)
theorem Kn{M:Model}{A:m9}{E:RQ}{i:Nat}{x:Str}{v:V}{u:ej}{Q:Unit->eF->Prop}(I:Inv X pins σ H s)(hN:X.N.Nodup)(C:X.N[i]? = cq x)(hx:Loc X.env.scope x)(r:RelV v u)
 (h : ∀Z,Inv X pins (σ.set i<|some v) H Z->(∃a,MP a s.heap Z.heap/\(a=X.env.locals\/X.env.cells.lookup x=cq a))->Q () Z) (hf:X.fn x=di\/X.env.scope.names.lookup x=cq .local:=by first | exact .inl rfl | exact .inr rfl | assumption):wpAny M A (storeName X.env x u) Q E s:=by
 obtain⟨m,L,hl⟩:=id I.loc;have b7:(X.env.scope.kind == .class || (X.env.scope.kind == .module && X.env.locals != X.env.globals))=d7:=by rw[I.ok.kind];rfl
 have am:i<σ.length:=by rw[I.len];exact(Io.mp C).1
 have DP:=I.DP;have an : ∀{a:eh} {h':f6},(∃o,s.heap.get? a=cq o/\H a=dn)->MP a s.heap h'->m3 X.prog X.w H h':=λ{a h'} ha O b ob e=>by
  obtain⟨_,_,ap⟩:=ha;refine(I.f9 b ob e).DA (λc G U q=>(O.2 c ?_).trans q) (λ_ q=>q) λ_ _ q=>q;rintro rfl;rcases U with rfl | U
  ·rw[ap]at e;cases e
  ·rw[ap]at U;cases U
 rcases hx with Y | Y
 ·refine wpAny_storeName_local Y L (λh' b9 O=>?_) b7
  obtain⟨oL,_,_,bd,_⟩:=id L;refine h _ ⟨I.ok,I.os,I.bare,⟨λb o e n l hx=>?_,λb o e n l hx=>?_,I.base.free,λb o e hx=>?_,I.base.Dp,I.base.Dx,I.base.DZ⟩,⟨_,b9,λj y v' f g K=>?_⟩,λy c e=>?_,I.free,I.A1,λp P=>?_,an ⟨oL,bd,I.free⟩ O,by simpa using I.len⟩ ⟨_,O,.inl rfl⟩
  ·exact(O.2 b<|IJ<|IC (Ip e) I.ok.above).trans (I.base.keep b o e n l hx)
  ·obtain⟨W,f⟩:=I.base.slot b o e n l hx
   exact⟨W,(O.2 b<|IJ<|IC (Ip e) I.ok.above).trans f⟩
  ·obtain⟨S,f⟩:=I.base.there b o e hx
   exact⟨S,(O.2 b<|IJ<|IC (Ip e) I.ok.above).trans f⟩
  ·by_cases t:j=i
   ·subst t
    rw[C]at f;cases f;rw[Iz am]at g;cases g;exact⟨u,r,.inl ⟨Y,by simp⟩⟩
   ·rw[Ib (IT t)]at g
    obtain⟨u',T,q⟩:=hl j y v' f g K;refine⟨u',T,?_⟩;rcases q with⟨k,e⟩ | ⟨k,c,e,z⟩
    ·refine .inl ⟨k,?_⟩
     have:y≠x:=λe=>t<|Wl hN f<|e ▸ C;simp[this,e]
    ·exact .inr ⟨k,c,e,z.sameBut O<|DP y c e⟩
  ·obtain⟨G,z⟩:=I.cell y c e
   exact⟨G,z.sameBut O<|DP y c e⟩
  ·obtain⟨e,n,F,R,d⟩:=I.pin p P
   exact⟨(O.2 p.1 F).trans e,n,F,R,d⟩
 ·have J:X.fn x=di:=by
   rcases hf with z | z
   ·exact z
   ·rw[z]at Y;cases Y
  obtain⟨c,U⟩:=I.ok.has x<|.inl Y;obtain⟨G,z⟩:=I.cell x c U;refine wpAny_storeName_cell I.ok.kind Y U z<|λh' ar O=>?_;obtain⟨oc,as,be⟩:=id z;refine h {s with heap:=h'} ⟨I.ok,I.os,I.bare,⟨λb o e n l hx=>?_,λb o e n l hx=>?_,I.base.free,λb o e hx=>?_,I.base.Dp,I.base.Dx,I.base.DZ⟩,⟨m,L.sameBut O<|IT<|DP x c U,λj y v' f g K=>?_⟩,λy B e=>?_,I.free,I.A1,λp P=>?_,an ⟨oc,as,I.A1 x c U⟩ O,by simpa using I.len⟩ ⟨c,O,.inr U⟩
  ·exact(O.2 b<|IJ<|IC (Ip e)<|I.ok.F8 x c J U).trans (I.base.keep b o e n l hx)
  ·obtain⟨W,f⟩:=I.base.slot b o e n l hx
   exact⟨W,(O.2 b<|IJ<|IC (Ip e)<|I.ok.F8 x c J U).trans f⟩
  ·obtain⟨S,f⟩:=I.base.there b o e hx
   exact⟨S,(O.2 b<|IJ<|IC (Ip e)<|I.ok.F8 x c J U).trans f⟩
  ·by_cases t:j=i
   ·subst t
    rw[C]at f;cases f;rw[Iz am]at g;cases g;exact⟨u,r,.inr ⟨.inl Y,c,U,ar⟩⟩
   ·rw[Ib (IT t)]at g
    obtain⟨u',T,q⟩:=hl j y v' f g K;refine⟨u',T,?_⟩;rcases q with q | ⟨k,B,e,z'⟩
    ·exact .inl q
    ·refine .inr ⟨k,B,e,z'.sameBut O ?_⟩
     rintro rfl;exact t<|Wl hN f<|I.ok.inj _ _ _ e U ▸ C
  ·by_cases ax:B=c
   ·subst ax;exact⟨_,ar⟩
   ·obtain⟨w2,z2⟩:=I.cell y B e
    exact⟨w2,z2.sameBut O ax⟩
  ·obtain⟨e,n,F,R,d⟩:=I.pin p P
   refine⟨(O.2 p.1 ?_).trans e,n,F,R,d⟩;intro q;rw[q,as]at e;have q':oc=p.2:=IX e;exact d G (by rw[<- q'];exact be)
theorem VS(I:Inv X pins σ H s)(z:X.N.Nodup)(J:X.N[i]? = cq x)(hx:Loc X.env.scope x)(r:RelV v u)
 (h : ∀C,Inv X pins (σ.set i<|some v) H C->Q () C) (O:X.fn x=di\/X.env.scope.names.lookup x=cq .local:=by first | exact .inl rfl | exact .inr rfl | assumption):wpAny M A (storeName X.env x u) Q E s:=
 Kn I z J hx r (λC U _=>h C U) O
theorem Inv.Tv(I:Inv X pins σ H s)(z:s'.os=s.os)(u:Un (A3 X.stack) ch H H' s.heap s'.heap)(C:m3 X.prog X.w H' s'.heap)(O:Dq s'.gens)
 (U : ∀b∈ch,(b∈X.ex\/X.o6.heap.objs.size<=b)/\b≠X.env.locals/\(∀x c,X.env.cells.lookup x=cq c->c≠b)/\∀p∈X.pn++pins,p.1≠b):Inv X pins σ H' s':=by
 obtain⟨h',g',d',t',a⟩:=s';have e:a=s.os:=z;subst e;exact I.call (g':=g') (t':=t') (d':=d') u C O U
end
abbrev XK:=ej->Option eh->Hp->Prop
abbrev St:=List (Option V)
abbrev VK:=V->Hp->Prop
abbrev TE:=St->Hp->VK->Prop
abbrev TT:=St->Hp->(Bool->Hp->Prop)->Prop
abbrev TA:=St->Hp->(List V->Hp->Prop)->Prop
structure Ends where
 nx:St->Hp->Prop
 rt:VK
 bk:St->Hp->Prop:=λ_ _=>False
 ct:St->Hp->Prop:=λ_ _=>False
abbrev TS:=Ends->St->Hp->Prop
noncomputable def EP(X:Cx)(C:RW)(J:St)(Q:VK)(u:ej)(I:eF):Prop:=∃v a,Inv X C J a I/\RelV v u/\Q v a
noncomputable def TP(X:Cx)(C:RW)(J:St)(Q:Bool->Hp->Prop)(b:Bool)(I:eF):Prop:=∃a,Inv X C J a I/\Q b a
noncomputable def AP(X:Cx)(C:RW)(J:St)(Q:List V->Hp->Prop)(us:List ej)(I:eF):Prop:=∃b a,Inv X C J a I/\fy b us/\Q b a
noncomputable def SP(X:Cx)(C:RW)(D:Ends)(f:Flow)(I:eF):Prop:=
 match f with
 | .next=>∃a b,Inv X C a b I/\D.nx a b
 | .brk=>∃a b,Inv X C a b I/\D.bk a b
 | .cont=>∃a b,Inv X C a b I/\D.ct a b
 | .ret u=>∃v a b,Inv X C a b I/\RelV v u/\D.rt v b
noncomputable def PE(X:Cx)(e:eA)(t:TE):Prop:=
 ∀(a:RW) (s:eF) (b:St) (H:Hp) (Q:VK),Inv X a b H s->t b H Q->wpAny (eP X.prog X.w) X.A (eB e X.env) (EP X a b Q) X.xe s
noncomputable def PT(X:Cx)(e:eA)(t:TT):Prop:=
 ∀(a:RW) (s:eF) (b:St) (H:Hp) (Q:Bool->Hp->Prop),Inv X a b H s->t b H Q->wpAny (eP X.prog X.w) X.A (DR e X.env<|eval e X.env) (TP X a b Q) X.xe s
noncomputable def PW(X:Cx)(e:eA)(t:TT):Prop:=
 ∀(z:Sem ej) (a:RW) (s:eF) (b:St) (H:Hp) (Q:Bool->Hp->Prop),Inv X a b H s->t b H Q->wpAny (eP X.prog X.w) X.A (DR e X.env z) (TP X a b Q) X.xe s
theorem PW.pt(h:PW X e t):PT X e t:=h _
noncomputable def PA(X:Cx)(C:List eA)(t:TA):Prop:=
 ∀(pos:gu) (a:RW) (s:eF) (b:St) (H:Hp) (Q:List V->Hp->Prop),Inv X a b H s->t b H Q->wpAny (eP X.prog X.w) X.A (N7<|backTo pos<|starEach C X.env) (AP X a b Q) X.xe s
noncomputable def PS(X:Cx)(st:jn)(t:TS):Prop:=
 ∀(a:RW) (s:eF) (b:St) (H:Hp) (D:Ends),Inv X a b H s->t D b H->wpAny (eP X.prog X.w) X.A (exec st X.env) (SP X a D) X.xe s
noncomputable def p8(X:Cx)(st:List jn)(t:TS):Prop:=
 ∀(a:RW) (s:eF) (b:St) (H:Hp) (D:Ends),Inv X a b H s->t D b H->wpAny (eP X.prog X.w) X.A (execs st X.env) (SP X a D) X.xe s
theorem ft(h:wpAny M A t Q E s)(z : ∀a s,Q a s->Q' a s):wpAny M A t Q' E s:=Mq h z λ_ _ x=>x
section
variable{X:Cx}
def sH(i:Nat):TE:=λa H Q=>∃v,a[i]? = cq (cq v)/\Q v H
def tC(v:V):TE:=λ_ H Q=>Q v H
theorem uW(L:X.N[i]? = cq x)(S:P7 X.env.scope x)(C:(x==("__debug__" : Str))=d7:=by decide)(J:(x==("__classdict__" : Str))=d7:=by decide):PE X (.Name x pos) (sH i):=by
 intro a s g H Q I h;obtain⟨v,e,h⟩:=h;obtain⟨m,f,b⟩:=I.loc;obtain⟨u,r,l⟩:=b i x v L e S;have O:EP X a g Q u s:=⟨v,H,I,r,h⟩;rcases l with⟨z,d⟩ | ⟨z,c,U,Y⟩
 ·exact Tf (wpAny_loadName_local I.ok.kind z f d O) C
 ·rcases z with z | z
  ·exact Tf (wpAny_loadName_cell I.ok.kind z U Y O) C
  ·exact Tf (wpAny_loadName_free I.ok.kind z U Y O J) C
theorem Ac:PE X (.Constant (.int i) j pos) (tC<|.int i):=λ_ _ _ H _ I h=>wpAny_Constant_int ⟨.int i,H,I.tok _,⟨_,rfl⟩,h⟩
theorem Ef:PE X (.Constant (.bool b) j pos) (tC<|.bl b):=λ_ _ _ H _ I h=>Constant_bool ⟨.bl b,H,I,rfl,h⟩
theorem Aa:PE X (.Constant .none j pos) (tC .fh):=λ_ _ _ H _ I h=>Constant_none ⟨.fh,H,I,rfl,h⟩
theorem uX:PE X (.Constant (.str x) j pos) (tC<|.str x):=λ_ _ _ H _ I h=>Calls.Constant_str ⟨.str x,H,I.tok _,⟨_,rfl⟩,h⟩
def Gl(X:Cx)(x:Str):Prop:=X.env.kindOf x=cq .globalImplicit
theorem dS(I:Inv X pins σ H s)(z:Gl X x)(J:X.mg x=cq u)(h:Q u s)
 (C:(x==("__debug__" : Str))=d7:=by decide):wpAny (eP X.prog X.w) X.A (eB (.Name x pos) X.env) Q E s:=
 Calls.Name_function_global I.ok.kind z (Calls.loadGlobal_global (by rw[I.ok.glob];exact I.mod.glob.keeps I.bk) J h) C
theorem kH(I:Inv X pins σ H s)(z:Gl X x)(J:X.mg x=dn)(O:B3 x=cq u)(h:Q u s)
 (L:x ≠ "__name__":=by decide) (C:(x==("__debug__" : Str))=d7:=by decide):wpAny (eP X.prog X.w) X.A (eB (.Name x pos) X.env) Q E s:=by
 obtain⟨d,a,b⟩:=I.mod.blt;exact Calls.Name_function_global I.ok.kind z (Calls.loadGlobal_builtin (by rw[I.ok.glob];exact I.mod.glob.keeps I.bk) J (by rw[I.ok.blt];exact a.keeps I.bk) ((b x L).trans O) h) C
variable{a b:eA}{ta tb:TE}{pos:gu}
noncomputable def PC(X:Cx)(z:E8)(a b:eA)(t:TE):Prop:=
 ∀(d:RW) (s:eF) (e:St) (H:Hp) (Q:VK),Inv X d e H s->t e H Q->
  wpAny (eP X.prog X.w) X.A (eB a X.env) (λv I=>wpAny (eP X.prog X.w) X.A (eB b X.env) (λu O=>wpAny (eP X.prog X.w) X.A (n4 z v u) (EP X d e Q) X.xe O) X.xe I) X.xe s
theorem lq(b:eA)(h:op ≠ .In)(C:op ≠ .NotIn):B1 op b=d7:=by
 have a:(op==CmpOp.In)=d7:=by cases op<;>first | rfl | exact absurd rfl h
 have d:(op==CmpOp.NotIn)=d7:=by cases op<;>first | rfl | exact absurd rfl C
 cases b<;>simp[B1,a,d]
def tB(t:TE):TT:=λb H Q=>t b H λx a=>∃c,x = .bl c/\Q c a
theorem uM(h:PC X op a b t)(C:B1 op b=d7:=by first | exact lq _ ⋯ ⋯ | rfl):PT X (.Compare a [op] [b] pos) (tB t):=by intro e s j H Q I i;refine Up (ft (h e s j H _ I i) λv k C=>ft C λu l g=>ft g λc m z=>?_) C;obtain⟨x,f,O,U,Y⟩:=z;obtain⟨d,rfl,q⟩:=Y;cases U;exact LH ⟨f,O,q⟩
theorem uK(h:PE X e t)(O : ∀z,DR e X.env z=(do let v <- z;DX e.pos;u5 [v] (I7 v)):=by intro _;rfl):PT X e (tB t):=by intro a s j H Q I f;refine isTrue_plain (ft (h a s j H _ I f) λv k U=>?_)<|O _;obtain⟨x,b,Y,i,g⟩:=U;obtain⟨d,rfl,q⟩:=g;cases i;exact LH ⟨b,Y,q⟩
variable{tA Ol:TT}{xE:List eA}
noncomputable def GO(t u:TT):TT:=λb H Q=>t b H λc a=>if c=di then u b a Q else Q d7 a
noncomputable def Ug(t u:TT):TT:=λb H Q=>t b H λc a=>if c=di then Q di a else u b a Q
def GI(t:TT):TT:=λb H Q=>t b H λc a=>Q (!c) a
theorem oY(C:PT X a tA):PW X (.BoolOp .And [a] pos) tA:=by
 intro z b s d H Q I h;refine isTrue_and<|ft (C b s d H Q I h) λc f e=>?_;cases c with
 | true=>exact isTrue_and_nil e
 | false=>exact e
theorem uz(C:PT X a tA):PW X (.BoolOp .Or [a] pos) tA:=by
 intro z b s d H Q I h;refine isTrue_or<|ft (C b s d H Q I h) λc f e=>?_;cases c with
 | false=>exact isTrue_or_nil e
 | true=>exact e
theorem uA(C:PT X a tA)(U:PW X (.BoolOp .And (b::xE) pos) Ol):PW X (.BoolOp .And (a::b::xE) pos) (GO tA Ol):=by
 intro Y d s f H Q I h;refine isTrue_and<|ft (C d s f H _ I h) λc i g=>?_;obtain⟨e,z,O⟩:=g;cases c with
 | true=>exact U Y d i f e Q z O
 | false=>exact⟨e,z,O⟩
theorem Ea(C:PT X a tA)(U:PW X (.BoolOp .Or (b::xE) pos) Ol):PW X (.BoolOp .Or (a::b::xE) pos) (Ug tA Ol):=by
 intro Y d s f H Q I h;refine isTrue_or<|ft (C d s f H _ I h) λc i g=>?_;obtain⟨e,z,O⟩:=g;cases c with
 | true=>exact⟨e,z,O⟩
 | false=>exact U Y d i f e Q z O
theorem uL(ha:PT X a tA):PT X (.UnaryOp .Not a pos) (GI tA):=by intro b s e H Q I h;exact isTrue_not<|ha b s e H (λc d=>Q (!c) d) I h
noncomputable def CJ(ta tb:TE):TE:=λb H Q=>ta b H λx a=>∃c,x = .bl c/\if c=di then tb b a Q else Q (.bl d7) a
noncomputable def CC(ta:TE):TE:=λb H Q=>ta b H λx a=>∃c,x = .bl c/\Q (.bl<|!c) a
theorem uY(h:PE X a t):PE X (.BoolOp op [a] pos) t:=λb s e H Q I d=>BoolOp_one<|h b s e H Q I d
theorem Ae(C:PE X a ta)(U:PE X (.BoolOp .And (b::xE) pos) tb):PE X (.BoolOp .And (a::b::xE) pos) (CJ ta tb):=by
 intro d s f H Q I h;refine BoolOp_and<|ft (C d s f H _ I h) λv i Y=>?_;obtain⟨x,e,O,g,z⟩:=Y;obtain⟨c,rfl,z⟩:=z;cases g;refine LH ?_;cases c with
 | true=>exact U d i f e Q O z
 | false=>exact⟨.bl d7,e,O,rfl,z⟩
theorem uZ(C:PE X a ta):PE X (.UnaryOp .Not a pos) (CC ta):=by intro b s e H Q I h;refine UnaryOp_<|ft (C b s e H _ I h) λv f O=>?_;obtain⟨x,d,U,Y,z⟩:=O;obtain⟨c,rfl,z⟩:=z;cases Y;exact not_of<|LH ⟨.bl<|!c,d,U,rfl,z⟩
noncomputable def Sb(t:TT)(ta tb:TE):TE:=λa H Q=>t a H λc b=>if c=di then ta a b Q else tb a b Q
theorem iQ(U:PT X c tA)(C:PE X a ta)(Y:PE X b tb):PE X (.IfExp c a b pos) (Sb tA ta tb):=by
 intro e s f H Q I h;refine wpAny_IfExp<|ft (U e s f H _ I h) λd i j=>?_;obtain⟨g,z,O⟩:=j;cases d with
 | true=>exact C e i f g Q z O
 | false=>exact Y e i f g Q z O
end
noncomputable def gB(K:HR)(H:Hp)(a:eh)(xs:List V):Prop:=
 Rd H a (.lst xs)\/
  ∃(o:ni) (z:Array ej) (n:Nat),K.lookup a=cq o/\o.cls = .type "list"/\o.dict=dn/\o.data = .seq z n/\z.size<=gm/\fy xs z.toList
noncomputable def gR(K:HR)(H:Hp)(a:eh)(xs:List V):Prop:=
 Rd H a (.tup xs)\/
  ∃(o:ni) (z:Array ej) (n:Nat),K.lookup a=cq o/\(o.cls,o.dict)=(Nw "tuple",dn)/\o.data = .seq z n/\z.size<=gm/\fy xs z.toList
noncomputable def Hy:ej->Option V
 | .none=>cq .fh
 | .bool b=>cq (.bl b)
 | .int i _=>cq (.int i)
 | .str x _=>cq (.str x)
 | .bytes b _=>cq (.F7 b)
 | .float b _=>cq (.E1 b)
 | .ref a=>cq (.ref a)
 | .type n=>cq (.ty n)
 | _=>dn
theorem RelV.abs(r:RelV x u):Hy u=cq x:=by
 cases x with
 | fh=>cases r;rfl
 | bl _=>cases r;rfl
 | int _=>obtain⟨t,rfl⟩:=r;rfl
 | str _=>obtain⟨t,rfl⟩:=r;rfl
 | F7 _=>obtain⟨t,rfl⟩:=r;rfl
 | E1 _=>obtain⟨t,rfl⟩:=r;rfl
 | ref _=>cases r;rfl
 | ty _=>cases r;rfl
theorem RelV.inj(r:RelV x u)(q:RelV y u):x=y:=IX<|r.abs.symm.trans q.abs
theorem fy.inj : ∀{xs ys:List V} {us:List ej},fy xs us->fy ys us->xs=ys
 | _,_,_,.nil,.nil=>rfl
 | _,_,_,.cons r t,.cons r' t'=>by rw[r.inj r',fy.inj t t']
section
variable{X:Cx}{pins:RW}{σ:St}{H:Hp}{s:eF}{a:eh}{xs ys:List V}
theorem gB.of{K:HR}(h:H a=cq (.lst xs)):gB K H a xs:= .inl (.inl h)
theorem gR.of{K:HR}(h:H a=cq (.tup xs)):gR K H a xs:= .inl (.inl h)
theorem Inv.list(I:Inv X pins σ H s)(h:gB X.K H a xs) : ∃O:List ej,fy xs O/\PlainL s.heap a O.toArray/\xs.length<=gm:=by
 rcases h with h | ⟨o,O,n,U,Y,hd,hs,hz,r⟩
 ·obtain⟨z,O,n,r,e⟩:=h.ok I.f9
  exact⟨O,r,⟨_,n,e,rfl,rfl,rfl⟩,z⟩
 ·refine⟨O.toList,r,⟨o,n,I.n7 a o U,Y,hd,by simpa using hs⟩,?_⟩
  have e:=r.length;simp only[LN]at e;omega
theorem Inv.tuple(I:Inv X pins σ H s)(h:gR X.K H a xs) : ∃O:List ej,fy xs O/\F0 s.heap a O.toArray/\xs.length<=gm:=by
 rcases h with h | ⟨o,O,n,U,Y,hs,hz,r⟩
 ·obtain⟨z,O,r,p⟩:=h.ok I.f9
  exact⟨O,r,p.tup,z⟩
 ·refine⟨O.toList,r,⟨o,I.n7 a o U,(Prod.mk.inj Y).1,n,by simpa using hs⟩,?_⟩
  have e:=r.length;simp only[LN]at e;omega
theorem Inv.RE(I:Inv X pins σ H s)(h:gB X.K H a xs)(h':gB X.K H a ys):xs=ys:=by
 obtain⟨O,r,⟨o,n,e,_,_,d⟩,_⟩:=I.list h;obtain⟨b,g,⟨j,i,z,_,_,f⟩,_⟩:=I.list h';rw[e]at z;cases z;rw[d]at f;injection f with U _;have:O=b:=by simpa using congrArg Array.toList U
 subst this;exact r.inj g
theorem Inv.Td(I:Inv X pins σ H s)(h:gR X.K H a xs)(h':gR X.K H a ys):xs=ys:=by
 obtain⟨O,r,⟨o,e,_,n,d⟩,_⟩:=I.tuple h;obtain⟨b,g,⟨j,z,_,i,f⟩,_⟩:=I.tuple h';rw[e]at z;cases z;rw[d]at f;injection f with U _;have:O=b:=by simpa using congrArg Array.toList U
 subst this;exact r.inj g
end
abbrev Cx.C2(X:Cx)(E:RQ):Cx:={X with xe:=E}
abbrev Cx.G7(X:Cx):Cx:=X.C2 λ_ _=>False
theorem Cx.Ok.C2{X:Cx}(ok:X.Ok)(E:RQ):(X.C2 E).Ok:=
 ⟨ok.mod,ok.kind,ok.glob,ok.blt,ok.above,ok.inj,ok.has,ok.F8,ok.hd,ok.frames,ok.N8,ok.M0,ok.bs,ok.B4,ok.G6,ok.Gx,ok.u4,ok.Dw⟩
theorem Cx.Ok.DC{X:Cx}{E:RQ}(ok:(X.C2 E).Ok):X.Ok:=
 ⟨ok.mod,ok.kind,ok.glob,ok.blt,ok.above,ok.inj,ok.has,ok.F8,ok.hd,ok.frames,ok.N8,ok.M0,ok.bs,ok.B4,ok.G6,ok.Gx,ok.u4,ok.Dw⟩
section
variable{X:Cx}{pins:RW}{σ:St}{H:Hp}{s:eF}{E:RQ}
theorem Inv.C2(I:Inv X pins σ H s)(E:RQ):Inv (X.C2 E) pins σ H s:=⟨I.ok.C2 E,I.os,I.bare,I.base,I.loc,I.cell,I.free,I.A1,I.pin,I.f9,I.len⟩
theorem Inv.DC(I:Inv (X.C2 E) pins σ H s):Inv X pins σ H s:=⟨I.ok.DC,I.os,I.bare,I.base,I.loc,I.cell,I.free,I.A1,I.pin,I.f9,I.len⟩
theorem SP.DC(h:SP (X.C2 E) pins D f s'):SP X pins D f s':=by
 cases f with
 | next=>obtain⟨a,b,I,q⟩:=h;exact⟨a,b,I.DC,q⟩
 | brk=>obtain⟨a,b,I,q⟩:=h;exact⟨a,b,I.DC,q⟩
 | cont=>obtain⟨a,b,I,q⟩:=h;exact⟨a,b,I.DC,q⟩
 | ret u=>obtain⟨v,a,b,I,r,q⟩:=h;exact⟨v,a,b,I.DC,r,q⟩
theorem p8.G7{st:List jn}{t:TS}(h:p8 X.G7 st t):p8 X st t:=λpins s σ H D I a=>
 Mq (h pins s σ H D (I.C2 _) a) (λ_ _ q=>q.DC) λ_ _ z=>Mx z
end
section
variable{X:Cx}{st:jn}{xE:List jn}{t u:TS}{e:eA}{te:TE}{pos:gu}
def CF:TS:=λD a H=>D.nx a H
def GG(t u:TS):TS:=λD a H=>t {D with nx:=u D} a H
theorem cT:p8 X [] CF:=λ_ _ a H _ I h=>OY ⟨a,H,I,h⟩
theorem kR(C:PS X st t)(J:p8 X xE u):p8 X (st::xE) (GG t u):=by
 intro a s g H D I h;refine wpAny_execs_cons<|ft (C a s g H {D with nx:=u D} I h) λf e q=>?_;cases f with
 | next=>
  obtain⟨b,d,z,q⟩:=q;exact J a e b d D z q
 | ret v=>exact q
 | brk=>exact q
 | cont=>exact q
theorem Xq(C:PS X st t):p8 X [st] t:=by
 intro a s b H D I h;refine wpAny_execs_cons<|ft (C a s b H D I h) λf d q=>?_;cases f with
 | next=>exact OY q
 | ret v=>exact q
 | brk=>exact q
 | cont=>exact q
def CI:TS:=λD a H=>D.ct a H
theorem YU:PS X (.Continue pos) CI:=λ_ _ a H _ I h=>wpAny_Continue ⟨a,H,I,h⟩
theorem Inv.quiet(I:Inv X pins σ H s):interactive X.env=d7:=by simp[interactive,I.ok.kind]
def CG(te:TE):TS:=λD a H=>te a H λ_ b=>D.nx a b
theorem YT(z:PE X e te)(O:B9 e dn pos.line X.env=pure d7:=by rfl):PS X (.Expr e pos) (CG te):=by intro a s b H D I h;exact wpAny_Expr_any (ft (z a s b H _ I h) λv g ⟨x,d,U,f,Y⟩=>⟨b,d,U,Y⟩) I.quiet O
def GH(te:TE):TS:=λD a H=>te a H D.rt
theorem KH(z:PE X e te):PS X (.Return (cq e) pos) (GH te):=by intro a s b H D I h;exact wpAny_Return_some<|ft (z a s b H _ I h) λv f ⟨x,d,O,U,Y⟩=>⟨x,b,d,O,U,Y⟩
noncomputable def GK(c:TT)(t u:TS):TS:=λD a H=>c a H λb d=>if b=di then t D a d else u D a d
theorem uP(U:PT X c tc)(C:p8 X a t)(Y:p8 X b u):PS X (.If c a b pos) (GK tc t u):=by
 intro e s f H D I h;refine wpAny_If<|ft (U e s f H _ I h) λd i j=>?_;obtain⟨g,z,O⟩:=j;cases d with
 | true=>exact C e i f g D z O
 | false=>exact Y e i f g D z O
def tG:TS:=λ_ _ _=>False
theorem iH:PS X st tG:=λ_ _ _ _ _ _ h=>h.elim
end
abbrev TG:=V->St->Hp->(St->Hp->Prop)->Prop
abbrev D3:=List V->St->Hp->(St->Hp->Prop)->Prop
noncomputable def PG(X:Cx)(z:eA)(t:TG):Prop:=
 ∀(a:RW) (s:eF) (e:St) (H:Hp) (v:V) (u:ej) (Q:St->Hp->Prop),Inv X a e H s->RelV v u->t v e H Q->
  wpAny (eP X.prog X.w) X.A (xb z X.env u) (λ_ f=>∃b d,Inv X a b d f/\Q b d) X.xe s
noncomputable def F3(X:Cx)(ts:List eA)(t:D3):Prop:=
 ∀(a:RW) (s:eF) (g:St) (H:Hp) (f:List V) (e:List ej) (Q:St->Hp->Prop),Inv X a g H s->fy f e->t f g H Q->
  wpAny (eP X.prog X.w) X.A (assignInOrder ((B0 ts X.env).map (·.2)) e) (λ_ h=>∃b d,Inv X a b d h/\Q b d) X.xe s
abbrev Gz:=V->V->V->Hp->(Hp->Prop)->Prop
noncomputable def GA(X:Cx)(t:Gz):Prop:=
 ∀(a:RW) (s:eF) (d:St) (H:Hp) (o i v:V) (z I u:ej) (Q:Hp->Prop),Inv X a d H s->RelV o z->RelV i I->RelV v u->t o i v H Q->
  wpAny (eP X.prog X.w) X.A (R6 z I u) (λ_ e=>∃b,Inv X a d b e/\Q b) X.xe s
section
variable{X:Cx}{pos:gu}
def k8(i:Nat):TG:=λv a H Q=>Q (a.set i<|some v) H
theorem dm(z:X.N.Nodup)(C:X.N[i]? = cq x)(hx:Loc X.env.scope x)(O:X.fn x=di\/X.env.scope.names.lookup x=cq .local:=by first | exact .inl rfl | exact .inr rfl | assumption):PG X (.Name x pos) (k8 i):=by intro a s d H v u Q I r h;exact Um<|VS I z C hx r (λb U=>⟨_,H,U,h⟩) O
def Ga:D3:=λa b H Q=>a=[]/\Q b H
noncomputable def AL(t:TG)(u:D3):D3:=λd e H Q=>∃v r,d=v::r/\t v e H λa b=>u r a b Q
theorem dh:F3 X [] Ga:=by intro a s b H f d Q I r h;obtain⟨e,h⟩:=h;subst e;cases r;exact assignInOrder_nil ⟨b,H,I,h⟩
theorem vE(C:PG X e t)(J:F3 X es u)
 (z:(B0 (e::es) X.env).map (·.2)=xb e X.env::(B0 es X.env).map (·.2):=by rfl):F3 X (e::es) (AL t u):=by
 intro a s j H m k Q I r h;obtain⟨v,l,f,h⟩:=h;subst f;cases r with
 | cons r O=>
  rw[z];refine assignInOrder_cons<|ft (C a s j H _ _ _ I r h) λ_ i U=>?_;obtain⟨Y,b,d,g⟩:=U;exact J a i Y b _ _ Q d O g
noncomputable def FZ(K:HR)(n:Nat)(t:D3):TG:=λv d H Q=>∃a b,v = .ref a/\gR K H a b/\b.length=n/\t b d H Q
theorem uV(z:X.calm=di)(h:F3 X es t)
 (C:(B0 es X.env).length=n:=by rfl) (O:(B0 es X.env).findIdx? (·.1)=dn:=by rfl):PG X (.Tuple es k pos) (FZ X.K n t):=by
 intro d s i H v u Q I r f;obtain⟨a,x,l,U,Y,f⟩:=f;subst l;cases r;obtain⟨y,g,p,A⟩:=I.tuple U;refine assign_Tuple_tuple (I.ok.hd z) p (by simp[C,<- Y,g.length]) O λm w=>?_;have j:Inv X d i H {s with heap:=m}:=I.kept (t':=s.toks) λb o e=>w b o (IJ<|Ip e) e;exact h d _ i H x _ Q j (by simpa using g) f
noncomputable def Hq(to z:TE)(t:Gz):TG:=λv a H Q=>to a H λo b=>z a b λi d=>t o i v d λI=>Q a I
theorem ng(Y:PE X o to)(J:PE X i ti)(L:GA X t)
 (C : ∀v,xb (.Subscript o i pos) X.env v=(do
   let z <- u5 [v] (eB o X.env);let O <- u5 [v,z] (eB i X.env)
   DX pos
   u5 [v,z,O] (R6 z O v)
   release [v,z,O] []):=by intro _;rfl):PG X (.Subscript o i pos) (Hq to ti t):=by
 intro a s b H v u Q I r h;rw[C];refine HS<|Mp<|ft (Y a s b H _ I h) λz A U=>?_;obtain⟨x,d,g,p,l⟩:=U;refine HS<|Mp<|ft (J a A b d _ g l) λO B U=>?_;obtain⟨y,e,j,w,m⟩:=U;refine HS<|PF<|HS<|Mp<|ft (L a B b e x y v z O u _ j p w r m) λ_ E U=>?_;obtain⟨f,k,n⟩:=U;exact wpAny_release ⟨b,f,k,n⟩
def YI(te:TE)(g:TG):TS:=λD a H=>te a H λx b=>g x a b D.nx
theorem Wb(z:PE X e te)(O:PG X tg g)(U:N9 [tg] e pos.line X.env=pure d7:=by rfl)(J:R9 [tg] e X.env=pure dn:=by rfl)
 (C:(B0 [tg] X.env).map (·.2)=[xb tg X.env]:=by rfl):PS X (.Assign [tg] e pos) (YI te g):=by
 intro a s b H D I h;refine wpAny_Assign_stores (ft (z a s b H _ I h) λv k Y=>?_) U J;obtain⟨x,d,f,j,i⟩:=Y;rw[C];exact ft (O a k b d x v _ f j i) λ_ l q=>q
theorem uO(z:X.N.Nodup)(C:X.N[i]? = cq x)(hx:Loc X.env.scope x)(O:PE X e te)(U:B9 e (cq (.Name x pos')) pos.line X.env=pure d7:=by rfl)(Y:X.fn x=di\/X.env.scope.names.lookup x=cq .local:=by first | exact .inl rfl | exact .inr rfl | assumption) :
 PS X (.Assign [.Name x pos'] e pos) (YI te<|k8 i):=by
 intro a s l H D I h;refine wpAny_Assign_Name (ft (O a s l H _ I h) λv m g=>?_) U;obtain⟨y,b,d,k,j⟩:=g;exact VS d z C hx k (λn f=>⟨_,b,f,j⟩) Y
end
section
variable{X:Cx}{pos:gu}
noncomputable def tF(c:TT)(C:TS):TS:=λD a H=>∃W:Nat->St->Hp->Prop,(∃m,W m a H)/\∀m a H,W m a H->
 c a H λb f=>if b=di then ∃N:St->Hp->Prop,(∀d e,N d e->∃g,g<m/\W g d e)/\C {D with nx:=N,ct:=N,bk:=D.nx} a f else D.nx a f
theorem iG{c:eA}{C:List jn}{S:TT}{L:TS}(J:F4 (eP X.prog X.w) X.A X.env X.xe)(hc:PT X c S)(Z:p8 X C L):PS X (.While c C [] pos) (tF S L):=by
 intro a s M H D I h;obtain⟨W,⟨y,G⟩,am⟩:=h;refine wpAny_While<|codeAny_whileLoop (λn B=>∃d m,Inv X a d m B/\W n d m) ?_ y ⟨M,H,I,G⟩;rintro n E ⟨U,o,u,K⟩;refine MY J<|ft (hc a E U o _ u<|am n U o K) λb F x=>?_;obtain⟨p,r,Y⟩:=x;cases b with
 | true=>
  obtain⟨N,t,Y⟩:=Y;rw[RY rfl];refine MY J<|ft (Z a F U p _ r Y) λf P e=>?_;cases f with
  | next=>
   obtain⟨z,O,g,k⟩:=e;obtain⟨j,i,l⟩:=t z O k;exact⟨j,i,z,O,g,l⟩
  | cont=>
   obtain⟨z,O,g,k⟩:=e;obtain⟨j,i,l⟩:=t z O k;exact⟨j,i,z,O,g,l⟩
  | brk=>exact e
  | ret v=>exact e
 | false=>
  rw[EQ II];exact OY ⟨U,p,r,Y⟩
end
structure It where
 go:Nat->Hp->Prop
 C3:Nat->Hp->V->Hp->Prop
 stop:Nat->Hp->Prop
noncomputable def wI(X:Cx)(C:RW)(H:Hp)(b:eh):Prop:=
 H b=dn/\b≠X.env.locals/\b∉X.fs/\(b∈X.ex\/X.o6.heap.objs.size<=b)/\(∀x c,X.env.cells.lookup x=cq c->c≠b)/\∀p∈X.pn++C,p.1≠b
theorem Inv.B6(I:Inv X pins σ H s)(O:s.heap.objs.size<=b)(C:H' b=dn):wI X pins H' b:=by
 refine⟨C,LY<|IC I.lt O,I.T2 O,.inr<|Lr I.sz O,λx c e z=>?_,λp U z=>?_⟩
 ·obtain⟨v,q⟩:=I.cell x c e
  exact absurd (IC q.lt<|by rw[z];exact O)<|Lq _
 ·exact absurd (IC (Ip (I.pin p U).1)<|by rw[z];exact O)<|Lq _
structure Turn(P:i8)(w:hB)(K:HR)(tg:eA)(J:It)(fp:List eh)(it:eh)(tn:Nat->f6->Prop):Prop where
 mem:it∈fp
 obj : ∀i h,tn i h->∀b∈fp,∃o,h.get? b=cq o/\∀v,o.data ≠ .cell v
 keep : ∀i h h',tn i h->(∀b∈fp,∀o,h.get? b=cq o->h'.get? b=cq o)->tn i h'
 item : ∀(X:Cx),X.prog=P->X.w=w->X.K=K->X.calm=di->∀(i:Nat) (pins:RW) (s:eF) (σ:St) (H:Hp) (E:RQ),Inv X pins σ H s->(∀b∈fp,wI X pins H b)->tn i s.heap->J.go i H->
  wpAny (eP P w) X.A (Dz<|.ref it) (λr s1=>∃u,r=cq u/\
   wpAny (eP P w) X.A (M6 tg (.ref it) u) (λ_ s2=>∃x H',Inv X pins σ H' s2/\RelV x u/\J.C3 i H x H'/\tn (i+1) s2.heap/\∀b∈fp,H' b=dn) E s1) E s
 done : ∀(X:Cx),X.prog=P->X.w=w->X.K=K->X.calm=di->∀(i:Nat) (pins:RW) (s:eF) (σ:St) (H:Hp) (E:RQ),Inv X pins σ H s->(∀b∈fp,wI X pins H b)->tn i s.heap->J.stop i H->
  wpAny (eP P w) X.A (Dz<|.ref it) (λr s1=>r=dn/\Inv X pins σ H s1) E s
 self : ∀(A:m9) (i:Nat) (s:eF) (Q:RQ) (E:RQ),tn i s.heap->Q (.ref it) s->wpAny (eP P w) A (N5<|.ref it) Q E s
abbrev TI:=St->Hp->(It->Hp->Prop)->Prop
noncomputable def Ss(X:Cx)(C:RW)(O:St)(L:eA)(R:It->Hp->Prop)(z:ej)(I:eF):Prop:=
 ∃(e:eh) (d:List eh) (f:Nat->f6->Prop) (J:It) (a:Hp),z = .ref e/\Inv X C O a I/\Turn X.prog X.w X.K L J d e f/\f 0 I.heap/\(∀b∈d,wI X C a b)/\R J a
noncomputable def PI(X:Cx)(I C:eA)(J:TI):Prop:=
 ∀(a:RW) (s:eF) (b:St) (H:Hp) (R:It->Hp->Prop),Inv X a b H s->J b H R->
  wpAny (eP X.prog X.w) X.A (eB C X.env) (λv d=>wpAny (eP X.prog X.w) X.A (N5 v) (Ss X a b I R) X.xe d) X.xe s
theorem rL(I:s.heap.get? it=cq o)(O:o.cls = .type n)(C:o.data = .fields vs)
 (J:["enumerate","zip","dict_itemiterator","dict_reverseitemiterator","odict_iterator","itertools.zip_longest","itertools.pairwise"].contains n=d7) (z:Q () s):wpAny M A (M6 tg (.ref it) u) Q E s:=by
 unfold M6;cases tg<;>first
  | exact Ie z
  | (cases u<;>first
      | exact Ie z
      | (refine HS (wpAny_load I ?_)
         rw[O,C];show wpAny M A (if (["enumerate","zip","dict_itemiterator","dict_reverseitemiterator","odict_iterator","itertools.zip_longest","itertools.pairwise"].contains n && vs[0]? == cq (B8 _))=di then _ else _) Q E s;rw[EQ (by intro h;rw[J,Nd]at h;cases h)];exact Ie z))
noncomputable def Sn(K:HR)(a:eh):It:=
 ⟨λi H=>∃b x,gB K H a b/\b[i]? = cq x,λi H x d=>d=H/\∀b,gB K H a b->b[i]? = cq x,λi H=>∃b,gB K H a b/\b.length<=i⟩
noncomputable def So(K:HR)(a:eh):It:=
 ⟨λi H=>∃b x,gR K H a b/\b[i]? = cq x,λi H x d=>d=H/\∀b,gR K H a b->b[i]? = cq x,λi H=>∃b,gR K H a b/\b.length<=i⟩
noncomputable def Ds(lo:Int)(n:Nat):It:=⟨λi _=>i<n,λi H x a=>a=H/\x = .int (lo+i),λi _=>n<=i⟩
theorem bG{P:i8}{w:hB}{K:HR}{tg:eA}(a it:eh):Turn P w K tg (Sn K a) [it] it (λi h=>h.IsListIter it a i) where
 mem:=by simp
 obj:=λi h st b O=>by
  have e:b=it:=by simpa using O
  subst e;obtain⟨o,e,c,d⟩:=st;exact⟨o,e,λv z=>by rw[d]at z;cases z⟩
 keep:=λi h h' st k=>st.at λo e=>k it ⋯ o e
 item:=by intro X hP hw hK hc i pins s σ H E I U st hg;subst hP hw hK;obtain⟨xs,x,Y,hx⟩:=hg;obtain⟨ac,rv,p,hz⟩:=I.list Y;obtain⟨u,hu,ru⟩:=rv.get hx;obtain⟨f0,f1,f2,f3,f4,f5⟩:=U it ⋯;refine wpAny_pyNext_list_item st p.isList (x:=u) (by simpa using hu) λh' a9 sb=>?_;have I1:Inv X pins σ H {s with heap:=h'}:=I.turned (t':=s.toks) (λb o O e=>(sb.2 b O).trans e) f0 f1 f3 f4 f5;obtain⟨o,e,c,d⟩:=id a9;exact⟨u,rfl,rL (s:={s with heap:=h'}) e c d ⋯ ⟨x,H,I1,ru,⟨rfl,λys hy=>by rw[I.RE hy Y];exact hx⟩,a9,λb O=>(U b O).1⟩⟩
 done:=by intro X hP hw hK hc i pins s σ H E I U st hg;subst hP hw hK;obtain⟨xs,Y,hx⟩:=hg;obtain⟨ac,rv,p,hz⟩:=I.list Y;obtain⟨f0,f1,f2,f3,f4,f5⟩:=U it ⋯;have hl:=rv.length;exact wpAny_pyNext_list_end (I.ok.hd hc) st p.isList (by simp;omega) λh' eb=>⟨rfl,I.turned (t':=s.toks) (λb o O e=>eb b o O e) f0 f1 f3 f4 f5⟩
 self:=λ_ _ _ _ _ st h=>wpAny_pyIter_listiter st h
theorem WZ{P:i8}{w:hB}{K:HR}{tg:eA}(a it:eh):Turn P w K tg (So K a) [it] it (λi h=>h.IsTupleIter it a i) where
 mem:=by simp
 obj:=λi h st b O=>by
  have e:b=it:=by simpa using O
  subst e;obtain⟨o,e,c,d⟩:=st;exact⟨o,e,λv z=>by rw[d]at z;cases z⟩
 keep:=λi h h' st k=>st.at λo e=>k it ⋯ o e
 item:=by intro X hP hw hK hc i pins s σ H E I U st hg;subst hP hw hK;obtain⟨xs,x,Y,hx⟩:=hg;obtain⟨a3,rv,p,hz⟩:=I.tuple Y;obtain⟨u,hu,ru⟩:=rv.get hx;obtain⟨f0,f1,f2,f3,f4,f5⟩:=U it ⋯;refine wpAny_pyNext_tuple_item st (show s.heap.IsTuple a a3.toArray from p) (x:=u) (by simpa using hu) λh' ac sb=>?_;have I1:Inv X pins σ H {s with heap:=h'}:=I.turned (t':=s.toks) (λb o O e=>(sb.2 b O).trans e) f0 f1 f3 f4 f5;obtain⟨o,e,c,d⟩:=id ac;exact⟨u,rfl,rL (s:={s with heap:=h'}) e c d ⋯ ⟨x,H,I1,ru,⟨rfl,λys hy=>by rw[I.Td hy Y];exact hx⟩,ac,λb O=>(U b O).1⟩⟩
 done:=by intro X hP hw hK hc i pins s σ H E I U st hg;subst hP hw hK;obtain⟨xs,Y,hx⟩:=hg;obtain⟨a3,rv,p,hz⟩:=I.tuple Y;obtain⟨f0,f1,f2,f3,f4,f5⟩:=U it ⋯;have hl:=rv.length;exact wpAny_pyNext_tuple_end (I.ok.hd hc) st (show s.heap.IsTuple a a3.toArray from p) (by simp;omega) λh' eb=>⟨rfl,I.turned (t':=s.toks) (λb o O e=>eb b o O e) f0 f1 f3 f4 f5⟩
 self:=λ_ _ _ _ _ st h=>wpAny_pyIter_tupleiter st h
theorem W0{P:i8}{w:hB}{K:HR}{tg:eA}(it:eh)(lo:Int)(n:Nat):Turn P w K tg (Ds lo n) [it] it (λi h=>IsRangeIter h it (lo+(i:Nat)*1) ((n:Int) - (i:Nat)) 1) where
 mem:=by simp
 obj:=λi h st b O=>by
  have e:b=it:=by simpa using O
  subst e;exact⟨_,st,λv z=>by have z':Data.fields _=Data.cell v:=z;cases z'⟩
 keep:=λi h h' st k=>k it ⋯ _ st
 item:=by intro X Y hw hK hc i pins s σ H E I U st hg;subst Y hw hK;obtain⟨f0,f1,f2,f3,f4,f5⟩:=U it ⋯;have W:=Walks.range (prog:=X.prog) (w:=X.w) (I.ok.hd hc) it lo 1 n;refine W.item i s _ _ hg st λv h' tk hv a9 kk=>?_;obtain⟨t,rfl⟩:=hv;have I1:Inv X pins σ H {s with heap:=h',toks:=tk}:=I.turned (λb o O e=>kk b o (by simpa using O) e) f0 f1 f3 f4 f5;refine⟨_,rfl,rL (s:={s with heap:=h',toks:=tk}) (n:="range_iterator") a9 rfl rfl ⋯ ⟨.int (lo+i),H,I1,⟨t,?_⟩,⟨rfl,rfl⟩,a9,λb O=>(U b O).1⟩⟩;rw[NI]
 done:=by intro X Y hw hK hc i pins s σ H E I U st hg;subst Y hw hK;obtain⟨f0,f1,f2,f3,f4,f5⟩:=U it ⋯;exact wpAny_pyNext_range_end (I.ok.hd hc) st (by have:n<=i:=hg;omega) λh' eb=>⟨rfl,I.turned (t':=s.toks) (λb o O e=>eb b o O e) f0 f1 f3 f4 f5⟩
 self:=λ_ _ _ _ _ st h=>wpAny_pyIter_rangeiter st h
section
variable{X:Cx}{tg:eA}
theorem V8{J:RW}{L:St}{H:Hp}{s:eF}{R:It->Hp->Prop}{E:RQ}{lo C:Int}{t u v:Tok}{z:Nat}(I:Inv X J L H s)(S : -(2 ^ 62)<=lo)(Z:lo<2 ^ 62)(U : -(2 ^ 62)<=C)(Y:C<2 ^ 62)
 (q:R (Ds lo (C - lo).toNat) H):wpAny (eP X.prog X.w) X.A (N5 (.ref s.heap.objs.size)) (Ss X J L tg R) E {s with heap:=s.heap.push {cls:= .type "range",data:= .fields #[.int lo t,.int C u,.int 1 v]},toks:=z}:=by
 refine wpAny_pyIter_range (IsRange.new ..) (small_one S Z U Y) ?_;have O:Inv X J L H {s with heap:=s.heap.push {cls:= .type "range",data:= .fields #[.int lo t,.int C u,.int 1 v]},toks:=z}:=I.kept λb o e=>HV _ e;refine⟨(s.heap.push {cls:= .type "range",data:= .fields #[.int lo t,.int C u,.int 1 v]}).objs.size,[(s.heap.push {cls:= .type "range",data:= .fields #[.int lo t,.int C u,.int 1 v]}).objs.size],_,_,H,rfl,
  O.kept (t':=z) λb o e=>HV _ e,W0 _ lo (C - lo).toNat,?_,λb f=>?_,q⟩
 ·have a:lo+((0:Nat):Int)*1=lo:=by simp
  have d:(((C - lo).toNat:Nat):Int) - ((0:Nat):Int)=Builtin.Range.rangeSize lo C 1:=by rw[rangeSize_one];split<;>omega
  show IsRangeIter _ _ (lo+((0:Nat):Int)*1) ((((C - lo).toNat:Nat):Int) - ((0:Nat):Int)) 1;rw[a,d];exact Iq _ rfl
 ·have e:b=(s.heap.push {cls:= .type "range",data:= .fields #[.int lo t,.int C u,.int 1 v]}).objs.size:=by simpa using f
  subst e;exact O.B6 (Ic _)<|O.f9.fresh<|Ic _
noncomputable def EC(C:TA):TI:=λd H R=>C d H λb a=>∃j:Int,b=[.int j]/\ -(2 ^ 62)<=j/\j<2 ^ 62/\R (Ds 0 j.toNat) a
noncomputable def EB(C:TA):TI:=λd H R=>C d H λb a=>∃i j:Int,b=[.int i,.int j]/\(-(2 ^ 62)<=i/\i<2 ^ 62/\ -(2 ^ 62)<=j/\j<2 ^ 62)/\R (Ds i (j - i).toNat) a
theorem df{a:eA}{C:TA}{p pos:gu}(O:Gl X "range")(L:X.mg "range" = dn)(J:PA X [a] C)(U:f7 [a] X.env=[(d7,eB a X.env)]:=by rfl):PI X tg (.Call (.Name "range" p) [a] [] pos) (EC C):=by
 intro b s k H R I h;refine DE<|kH I O L boot_range<|Ll (ft (J pos b s k H _ I h) λn m Y=>?_) U rfl;obtain⟨o,l,d,g,z⟩:=Y;obtain⟨j,e,z,f,q⟩:=z;subst e;cases g with
 | cons r i=>
  cases i;obtain⟨t,rfl⟩:=r;exact call_range_1 (V8 d ⋯ ⋯ z f<|by simpa using q)
theorem de(Y:Gl X "range")(J:X.mg "range" = dn)(C:PA X [a,b] ta)(L:f7 [a,b] X.env=[(d7,eB a X.env),(d7,eB b X.env)]:=by rfl)(U:f7 [b] X.env=[(d7,eB b X.env)]:=by rfl) :
 PI X tg (.Call (.Name "range" p) [a,b] [] pos) (EB ta):=by
 intro d s u H R I h;refine DE (kH I Y J boot_range<|Ll (ft (C pos d s u H _ I h) λA x g=>?_) (by rw[L,U])<|by rw[U];rfl);obtain⟨B,w,f,o,z⟩:=g;obtain⟨i,j,e,⟨z,k,l,m⟩,q⟩:=z;subst e;cases o with
 | cons r O=>
  cases O with
  | cons n O=>
   cases O;obtain⟨t,rfl⟩:=r;obtain⟨y,rfl⟩:=n;exact call_range_2<|V8 f z k l m q
noncomputable def GL(I:TI)(g:TG)(C:TS):TS:=λD a H=>I a H λJ f=>∃W:Nat->Nat->St->Hp->Prop,(∃m,W 0 m a f)/\∀i m a H,W i m a H->
 (J.stop i H/\D.nx a H)\/(J.go i H/\∃N:St->Hp->Prop,(∀d b,N d b->∃e,e<m/\W (i+1) e d b)/\∀x b,J.C3 i H x b->g x a b λz h=>C {D with nx:=N,ct:=N,bk:=D.nx} z h)
noncomputable def KL(fp:List eh)(h:f6):List (eh×ni):=fp.filterMap λb=>(h.get? b).map λo=>(b,o)
theorem yT(z:b∈fp)(e:h.get? b=cq o):(b,o)∈KL fp h:=List.mem_filterMap.mpr ⟨b,z,by rw[e];rfl⟩
theorem dF(z:p∈KL fp h):p.1∈fp/\h.get? p.1=cq p.2:=by
 obtain⟨b,I,e⟩:=List.mem_filterMap.mp z;cases q:h.get? b with
 | none=>rw[q]at e;cases e
 | some o=>
  rw[q]at e;have O:(b,o)=p:=IX e;subst O;exact⟨I,q⟩
theorem Inv.pinned(I:Inv X pins σ H s)(Y : ∀b∈fp,wI X pins H b)(C : ∀b∈fp,∃o,s.heap.get? b=cq o/\∀v,o.data ≠ .cell v):Inv X (pins++KL fp s.heap) σ H s:=
 I.N1 λp f=>(MN.mp f).elim (λz=>I.pin p<|IF _ z) λz=>by obtain⟨O,e⟩:=dF z;obtain⟨a,f1,f2,_⟩:=Y p.1 O;obtain⟨o,U,d⟩:=C p.1 O;rw[e]at U;cases U;exact⟨e,a,f1,f2,d⟩
theorem Inv.I9(I:Inv X (pins++pl) σ H s):Inv X pins σ H s:=I.N1 λp z=>I.pin p<|IF _<|OS _ z
theorem nc(C:F4 (eP X.prog X.w) X.A X.env X.xe)(hc:X.calm=di)(hi:PI X tg iter wi)(hg:PG X tg g)(z:p8 X body tb)
 (hs : ∀x,rn iter X.env x=pure x:=by intro _;rfl):PS X (.For tg iter body [] pos) (GL wi g tb):=by
 intro a s σ H D I h;refine wpAny_For (ft (hi a s σ H _ I h) λv s1 h1=>ft h1 λc9 s2 h2=>?_) hs;obtain⟨it,y,tn,J,H2,e,I2,T,b9,f2,W,⟨m0,w0⟩,be⟩:=h2;subst e;have K : ∀{l:Hp},(∀b∈y,l b=dn)->∀b∈y,wI X a l b:=λhn b z=>⟨hn b z,(f2 b z).2⟩;refine codeAny_forLoop_any (λn s'=>∃i j l,Inv X a j l s'/\tn i s'.heap/\(∀b∈y,l b=dn)/\W i n j l) ?_ m0 ⟨0,σ,H2,I2,b9,λb z=>(f2 b z).1,w0⟩;rintro n s3 ⟨i,k,G,S,E,Z,w3⟩;rcases be i n k G w3 with⟨F,qn⟩ | ⟨go,N,hN,step⟩
 ·refine MY C (ft (T.done X rfl rfl rfl hc i a s3 k G X.xe S (K Z) E F) λr s4 t=>?_)
  obtain⟨M,I4⟩:=t;subst M;exact OY ⟨k,G,I4,qn⟩
 ·refine MY C (ft (T.item X rfl rfl rfl hc i a s3 k G X.xe S (K Z) E go) λr s4 t=>?_)
  obtain⟨u,M,h4⟩:=t;subst M;refine MY C<|ft h4 λ_ s5 t=>?_;obtain⟨x,R,I5,r5,y5,L,c0⟩:=t;have c1:=I5.pinned (K c0)<|T.obj _ _ L;refine MY C<|ft (hg _ s5 k R x u _ c1 r5<|step x R y5) λ_ s6 t=>?_;obtain⟨Q,H6,I6,q6⟩:=t;refine MY C<|ft (z _ s6 Q H6 _ I6 q6) λf P p=>?_;have again : ∀{O:St} {U:Hp},Inv X (a++KL y s5.heap) O U P->N O U->∃m,m<n/\∃i j l,Inv X a j l P/\tn i P.heap/\(∀b∈y,l b=dn)/\W i m j l:=λ{O U} Y B=>by obtain⟨m',hm,w7⟩:=hN O U B;refine⟨m',hm,i+1,O,U,Y.I9,T.keep _ _ _ L λb z o e=>(Y.pin (b,o)<|IF _<|IF _<|yT z e).1,λb z=>?_,w7⟩;obtain⟨o,e,d⟩:=T.obj _ _ L b z;exact(Y.pin (b,o)<|IF _<|IF _<|yT z e).2.1
  cases f with
  | next=>obtain⟨O,U,Y,B⟩:=p;exact again Y B
  | cont=>obtain⟨O,U,Y,B⟩:=p;exact again Y B
  | brk=>obtain⟨O,U,Y,p⟩:=p;exact⟨O,U,Y.I9,p⟩
  | ret v=>obtain⟨x7,O,U,Y,r7,p⟩:=p;exact⟨x7,O,U,Y.I9,r7,p⟩
end
theorem Yh{lo:Int}{n:Nat}{g:TG}{Z:TS}{D:Ends}{C:St}{H:Hp}(z:Nat->St->Hp->Prop)(U:z 0 C H)
 (Y : ∀i C H,i<n->z i C H->g (.int<|lo+i) C H λI L=>Z {D with nx:=z<|i+1,ct:=z<|i+1,bk:=D.nx} I L) (hd : ∀C H,z n C H->D.nx C H) :
 ∃W:Nat->Nat->St->Hp->Prop,(∃m,W 0 m C H)/\∀i m C H,W i m C H->
  ((Ds lo n).stop i H/\D.nx C H)\/((Ds lo n).go i H/\∃N:St->Hp->Prop,(∀J H',N J H'->∃S,S<m/\W (i+1) S J H')/\∀x H',(Ds lo n).C3 i H x H'->g x C H' λI L=>Z {D with nx:=N,ct:=N,bk:=D.nx} I L):=by
 refine⟨λi m C H=>m=n - i/\i<=n/\z i C H,⟨n,by simp,Lp _,U⟩,?_⟩;rintro i m C H ⟨rfl,b,p⟩;by_cases O:i<n
 ·refine .inr ⟨O,z<|i+1,λJ H' a=>⟨n - (i+1),by omega,rfl,O,a⟩,λx H' y=>?_⟩
  obtain⟨e,y⟩:=y;subst e y;exact Y i C _ O p
 ·have e:i=n:=by omega
  subst e;exact .inl ⟨Ic _,hd C H p⟩
abbrev R2:=V->V->Hp->VK->Prop
noncomputable def i9(X:Cx)(f:ej->ej->Sem ej)(r:R2):Prop:=
 ∀(a:RW) (s:eF) (b:St) (H:Hp) (x y:V) (v u:ej) (Q:VK),Inv X a b H s->RelV x v->RelV y u->r x y H Q->
  wpAny (eP X.prog X.w) X.A (f v u) (EP X a b Q) X.xe s
noncomputable def P6(X:Cx)(f:ej->Sem ej)(r:V->Hp->VK->Prop):Prop:=
 ∀(a:RW) (s:eF) (b:St) (H:Hp) (x:V) (v:ej) (Q:VK),Inv X a b H s->RelV x v->r x H Q->
  wpAny (eP X.prog X.w) X.A (f v) (EP X a b Q) X.xe s
noncomputable def wU(X:Cx)(f:ej)(r:List V->Hp->VK->Prop):Prop:=
 ∀(a:RW) (s:eF) (e:St) (H:Hp) (d:List V) (b:List ej) (Q:VK),Inv X a e H s->fy d b->r d H Q->
  wpAny (eP X.prog X.w) X.A (call f b) (EP X a e Q) X.xe s
noncomputable def HA(X:Cx)(r:V->Hp->(Bool->Hp->Prop)->Prop):Prop:=
 ∀(a:RW) (s:eF) (b:St) (H:Hp) (x:V) (v:ej) (Q:Bool->Hp->Prop),Inv X a b H s->RelV x v->r x H Q->
  wpAny (eP X.prog X.w) X.A (I7 v) (TP X a b Q) X.xe s
noncomputable def H9(r:R2)(C I:TE):TE:=λa H Q=>C a H λx b=>I a b λy d=>r x y d Q
noncomputable def Ui(r:V->Hp->VK->Prop)(C:TE):TE:=λb H Q=>C b H λx a=>r x a Q
noncomputable def rI(C:Int->Int->Prop)(g:Int->Int->V):R2:=λx y H Q=>∃i j,x = .int i/\y = .int j/\C i j/\Q (g i j) H
noncomputable def u7(g:Int->Int->V):R2:=λx y H Q=>∃i j,x = .int i/\y = .int j/\Q (g i j) H
noncomputable def rU(g:Int->V):V->Hp->VK->Prop:=λx H Q=>∃i,x = .int i/\Q (g i) H
section
variable{X:Cx}{a b c:eA}{ta tb tc:TE}{pos:gu}
theorem EU(ha:PE X a ta)(O:PE X b tb){C:RW}{s:eF}{L:St}{H:Hp}{R:V->V->Hp->Prop}(I:Inv X C L H s)
 (h:ta L H λx H1=>tb L H1 λy J=>R x y J) {Q:RQ} {f:ej->ej->Sem ej}
 (U : ∀v u Z x y J,Inv X C L J Z->RelV x v->RelV y u->R x y J->wpAny (eP X.prog X.w) X.A (f v u) Q X.xe Z) :
 wpAny (eP X.prog X.w) X.A (eB a X.env) (λv Y=>wpAny (eP X.prog X.w) X.A (eB b X.env) (λu S=>wpAny (eP X.prog X.w) X.A (f v u) Q X.xe S) X.xe Y) X.xe s:=by
 refine ft (ha C s L H _ I h) λv l z=>?_;obtain⟨x,H1,d,j,g⟩:=z;refine ft (O C l L H1 _ d g) λu Z z=>?_;obtain⟨y,J,e,k,i⟩:=z;exact U v u Z x y J e j k i
theorem pI{z:Operator}{r:R2}(O:i9 X (xg z) r)(C:PE X a ta)(U:PE X b tb):PE X (.BinOp a z b pos) (H9 r ta tb):=by intro d s j H Q I h;exact wpAny_BinOp<|EU C U I h λv u i x y e Y f g q=>O d i j e x y v u Q Y f g q
theorem Ee(z:P6 X (unaryOp op) r)(C:PE X a ta):PE X (.UnaryOp op a pos) (Ui r ta):=by intro b s d H Q I h;exact UnaryOp_<|ft (C b s d H _ I h) λv f ⟨x,e,O,U,Y⟩=>z b f d e x v Q O U Y
theorem N0{f:ej->ej->Sem ej}{C:Int->Int->Prop}{g:Int->Int->Int}
 (rule : ∀(i j:Int) (t u:Tok) (s:eF) (Q:RQ) (E:RQ),C i j->Q (.int (g i j) s.toks) {s with toks:=s.toks+1}->wpAny (eP X.prog X.w) X.A (f (.int i t)<|.int j u) Q E s) :
 i9 X f (rI C λi j=> .int (g i j)):=by
 intro a s d H x y v u Q I z O h;obtain⟨i,j,rfl,rfl,U,q⟩:=h;obtain⟨t,rfl⟩:=z;obtain⟨b,rfl⟩:=O;exact rule i j t b s _ _ U ⟨.int<|g i j,H,I.tok _,⟨_,rfl⟩,q⟩
theorem FV{f:ej->ej->Sem ej}{g:Int->Int->Int}
 (rule : ∀(i j:Int) (t u:Tok) (s:eF) (Q:RQ) (E:RQ),Q (.int (g i j) s.toks) {s with toks:=s.toks+1}->wpAny (eP X.prog X.w) X.A (f (.int i t)<|.int j u) Q E s) :
 i9 X f (u7 λi j=> .int (g i j)):=by
 intro a s d H x y v u Q I z O h;obtain⟨i,j,rfl,rfl,q⟩:=h;obtain⟨t,rfl⟩:=z;obtain⟨b,rfl⟩:=O;exact rule i j t b s _ _ ⟨.int<|g i j,H,I.tok _,⟨_,rfl⟩,q⟩
theorem Eh{f:ej->ej->Sem ej}{g:Int->Int->Bool}
 (rule : ∀(i j:Int) (t u:Tok) (s:eF) (Q:RQ) (E:RQ),Q (.bool<|g i j) s->wpAny (eP X.prog X.w) X.A (f (.int i t)<|.int j u) Q E s) :
 i9 X f (u7 λi j=> .bl (g i j)):=by
 intro a s d H x y v u Q I z O h;obtain⟨i,j,rfl,rfl,q⟩:=h;obtain⟨t,rfl⟩:=z;obtain⟨b,rfl⟩:=O;exact rule i j t b s _ _ ⟨.bl<|g i j,H,I,rfl,q⟩
def GD(i j:Int):Prop:=0<j/\j<1073741824
def GC(i j:Int):Prop:=0<=j/\j<=1000000/\i.natAbs<2 ^ 64
noncomputable def D0(i j:Int):Prop:=(-(2 ^ 64)<i/\i<2 ^ 64)\/(-(2 ^ 64)<j/\j<2 ^ 64)
theorem D0.ok(h:D0 i j):IntMulOk i j:=by
 rcases h with⟨a,b⟩ | ⟨a,b⟩
 ·exact .of_left<|intBits_le_64 a b
 ·exact .of_right<|intBits_le_64 a b
theorem T3:i9 X (xg .Add) (u7 λi j=> .int (i+j)):=FV λ_ _ _ _ _ _ _ q=>add_int q
theorem Ah:i9 X (xg .Sub) (u7 λi j=> .int (i - j)):=FV λ_ _ _ _ _ _ _ q=>sub_int q
theorem T4:i9 X (xg .Mult) (rI D0 λi j=> .int (i*j)):=N0 λ_ _ _ _ _ _ _ z q=>mul_int q z.ok
theorem pT:i9 X (xg .FloorDiv) (rI GD λi j=> .int (i/j)):=N0 λi j _ _ _ _ _ z q=>by have a:(0:Int)<j:=z.1;have b:j<1073741824:=z.2;exact floordiv_int ⋯ (by rw[Int.fdiv_eq_ediv_of_nonneg i ⋯];exact q)<|.inl<|PyProof.noPylong_small ⋯
theorem Al:i9 X (xg .Mod) (rI (λ_ j=>0<j) λi j=> .int (i%j)):=N0 λi j _ _ _ _ _ z q=>by have a:(0:Int)<j:=z;exact mod_int' ⋯ (by rw[Int.fmod_eq_emod_of_nonneg i ⋯];exact q)
theorem Aj:i9 X (xg .Pow) (rI GC λi j=> .int (i ^ j.toNat)):=N0 λ_ _ _ _ _ _ _ z q=>pow_int_small z.1 z.2.1 z.2.2 q
theorem Uk{f:ej->Sem ej}{g:Int->Int}
 (rule : ∀(i:Int) (t:Tok) (s:eF) (Q:RQ) (E:RQ),Q (.int (g i) s.toks) {s with toks:=s.toks+1}->wpAny (eP X.prog X.w) X.A (f<|.int i t) Q E s) :
 P6 X f (rU λi=> .int (g i)):=by
 intro a s b H x v Q I z h;obtain⟨i,rfl,q⟩:=h;obtain⟨t,rfl⟩:=z;exact rule i t s _ _ ⟨.int<|g i,H,I.tok _,⟨_,rfl⟩,q⟩
theorem sY:P6 X (unaryOp .USub) (rU λi=> .int (-i)):=Uk λ_ _ _ _ _ q=>neg_int q
end
section
variable{X:Cx}{a b c:eA}{ta tb tc:TE}{pos:gu}
theorem AO(I:Inv X pins σ H s)(q:Q (.bl k) H)(e:k=k'):EP X pins σ Q (.bool k') s:=by subst e;exact⟨.bl k,H,I,rfl,q⟩
theorem pS:i9 X (n4 .Lt) (u7 λi j=> .bl (decide<|i<j)):=Eh λ_ _ _ _ _ _ _ q=>lt_int q
theorem aA:i9 X (n4 .LtE) (u7 λi j=> .bl (decide<|i<=j)):=Eh λ_ _ _ _ _ _ _ q=>le_int q
theorem Eg:i9 X (n4 .Gt) (u7 λi j=> .bl (decide<|j<i)):=Eh λ_ _ _ _ _ _ _ q=>gt_int q
theorem Am:i9 X (n4 .Is) (λx y H Q=>y = .fh/\Q (.bl<|decide<|x = .fh) H):=by
 intro a s b H x y v u Q I z O h;obtain⟨rfl,q⟩:=h;cases O;refine is_none_gen<|AO I q ?_;cases x<;>first
  | (cases z;rfl)
  | (obtain⟨t,rfl⟩:=z;rfl)
theorem i9.or(h:i9 X f r)(h':i9 X f r'):i9 X f (λx y H Q=>r x y H Q\/r' x y H Q):=by
 intro a s b H x y v u Q I z O q;rcases q with q | q
 ·exact h a s b H x y v u Q I z O q
 ·exact h' a s b H x y v u Q I z O q
theorem KU(b:eA)(h:op ≠ .In:=by decide)(C:op ≠ .NotIn:=by decide):B1 op b=d7:=by
 have a:(op==CmpOp.In)=d7:=by cases op<;>first | rfl | exact absurd rfl h
 have d:(op==CmpOp.NotIn)=d7:=by cases op<;>first | rfl | exact absurd rfl C
 cases b<;>simp[B1,a,d]
theorem pK{z:E8}{r:R2}(O:i9 X (n4 z) r)(C:PE X a ta)(U:PE X b tb)(J:B1 z b=d7):PE X (.Compare a [z] [b] pos) (H9 r ta tb):=by intro d s j H Q I h;exact wpAny_Compare1 (EU C U I h λv u i x y e Y f g q=>O d i j e x y v u Q Y f g q) J
def oo(t:TE):TT:=λb H Q=>t b H λx a=>∃k,x = .bl k/\Q k a
theorem cQ(O:i9 X (n4 op) r)(C:PE X a ta)(U:PE X b tb)(J:B1 op b=d7):PT X (.Compare a [op] [b] pos) (oo<|H9 r ta tb):=by
 intro d s f H Q I h;refine Up (ft (C d s f H _ I h) λv B ⟨x,g,Y,t,n⟩=>ft (U d B f g _ Y n) λu E ⟨y,i,l,w,o⟩=>
  ft (O d E f i x y v u _ l t w o) λc F ⟨z,j,m,A,k,e,p⟩=>?_) J
 subst e;cases A;exact LH ⟨j,m,p⟩
noncomputable def mR(r C:R2)(ta tb tc:TE):TE:=λa H Q=>ta a H λx b=>tb a b λy d=>r x y d λz I=>∃k,z = .bl k/\
 (if k=di then tc a I λe O=>C y e O Q else Q (.bl d7) I)
theorem iR(ho:i9 X (n4 op) r)(C:i9 X (n4 G9) r')(J:PE X a ta)(L:PE X b tb)(S:PE X c tc)
 (Z:G3 [op,G9] [b,c]=d7:=by with_unfolding_all rfl):PE X (.Compare a [op,G9] [b,c] pos) (mR r r' ta tb tc):=by
 intro f s g H Q I h;refine Compare_chain (ft (J f s g H _ I h) λv G ⟨x,j,n,B,t⟩=>chain_link (ft (L f G g j _ n t) λu K ⟨y,l,o,i,w⟩=>
  ft (ho f K g l x y v u _ o B i w) λd M ⟨z,O,U,E,k,e,Y⟩=>?_)) Z
 subst e;cases E;refine LH ?_;cases k with
 | false=>exact ite_ff ⟨.bl d7,O,U,rfl,Y⟩
 | true=>exact ite_tt<|chain_last<|ft (S f M g O _ U Y) λP N ⟨R,m,p,F,A⟩=>C f N g m y R u P Q p i F A
theorem iD{O U:E8}{r C:R2}(ho:i9 X (n4 O) r)(J:i9 X (n4 U) C)(L:PE X a ta)(S:PE X b tb)(Z:PE X c tc)
 (hm:G3 [O,U] [b,c]=d7:=by with_unfolding_all rfl):PT X (.Compare a [O,U] [b,c] pos) (oo<|mR r C ta tb tc):=by
 intro f s g H Q I h;refine isTrue_chain (ft (L f s g H _ I h) λv s1 ⟨x,m,t,R,K⟩=>test_link (ft (S f s1 g m _ t K) λu s2 ⟨y,n,w,l,M⟩=>
  ft (ho f s2 g n x y v u _ w R l M) λd s3 ⟨z,Y,i,T,k,e,j⟩=>?_)) hm
 subst e;cases T;refine LH ?_;cases k with
 | false=>
  obtain⟨k',E,G⟩:=j;cases E;exact ite_ff ⟨Y,i,G⟩
 | true=>
  refine ite_tt<|test_last<|ft (Z f s3 g Y _ i j) λw' s4 ⟨z',o,A,W,N⟩=>ft (J f s4 g o y z' u w' _ A l W N) λd' s5 ⟨z2,p,B,r5,k2,F,P⟩=>?_;subst F;cases r5;exact LH ⟨p,B,P⟩
noncomputable def Gy(K:HR)(x:V)(H:Hp)(k:Bool):Prop:=
 match x with
 | .fh=>k=d7
 | .bl b=>k=b
 | .int i=>k=(i != 0)
 | .str y=>y.length<=gm/\k=((y.length:Int) != 0)
 | .F7 y=>y.size<=gm/\k=((y.size:Int) != 0)
 | .ref p=>(∃d,gB K H p d/\k = !d.isEmpty)\/(∃d,gR K H p d/\k = !d.isEmpty)\/∃a,H p=cq (.dK a)/\k = !a.isEmpty
 | _=>False
theorem aP(r:KV m4 vs):(!vs.isEmpty) = !m4.isEmpty:=by cases r<;>rfl
theorem QJ(r:fy xs TN):(!TN.toArray.isEmpty) = !xs.isEmpty:=by cases r<;>simp
theorem ZX:(gm:Nat)<2 ^ 63:=by rw[Na];decide
theorem tj:HA X (λx H Q=>∃k,Gy X.K x H k/\Q k H):=by
 intro j s B H x v Q I O h;obtain⟨k,e,q⟩:=h;have u:=ZX;have A:gm=16777216:=Na;cases x with
 | fh=>
  cases O;have z:k=d7:=e;subst z;exact truthy_none ⟨H,I,q⟩
 | bl b=>
  cases O;have z:k=b:=e;subst z;exact LH ⟨H,I,q⟩
 | int i=>
  obtain⟨t,rfl⟩:=O;have z:k=(i != 0):=e;subst z;exact PySem.P.truthy_int ⟨H,I,q⟩
 | str y=>
  obtain⟨t,rfl⟩:=O;obtain⟨o,z⟩:y.length<=gm/\k=((y.length:Int) != 0):=e;subst z;exact PySem.P.truthy_str ⋯ ⟨H,I.tok _,q⟩
 | F7 y=>
  obtain⟨t,rfl⟩:=O;obtain⟨o,z⟩:y.size<=gm/\k=((y.size:Int) != 0):=e;subst z;exact PySem.W.truthy_bytes ⋯ ⟨H,I.tok _,q⟩
 | ref p=>
  cases O;have z:(∃d,gB X.K H p d/\k = !d.isEmpty)\/(∃d,gR X.K H p d/\k = !d.isEmpty)\/∃a,H p=cq (.dK a)/\k = !a.isEmpty:=e;rcases z with⟨d,f,z⟩ | ⟨d,f,z⟩ | ⟨a,f,z⟩
  ·subst z
   obtain⟨l,r,pl,U⟩:=I.list f;have Y:=r.length;exact wpAny_truthy_list pl.isList (by simp only[Ik];omega) ⟨H,I.tok _,by rw[QJ r];exact q⟩
  ·subst z
   obtain⟨l,r,pl,U⟩:=I.tuple f;have Y:=r.length;exact truthy_tuple pl (by simp only[Ik];omega) ⟨H,I.tok _,by rw[QJ r];exact q⟩
  ·subst z
   obtain⟨U,n,g,r,m⟩:a.length<=gm/\(p==Dn)=d7/\∃g,KV a g/\s.heap.DictOf (qZ X.prog X.w) p g:=I.f9 p _ f;have Y:a.length=g.length:=Paired.length r;exact wpAny_truthy_dict n m ⋯ ⟨H,I.tok _,by rw[aP r];exact q⟩
 | _=>exact(show False from e).elim
theorem iC(J:PE X a ta)(O : ∀z,DR a X.env z=(do let v <- z;DX a.pos;u5 [v] (I7 v))) :
 PT X a (λC H Q=>ta C H λx H'=>∃k,Gy X.K x H' k/\Q k H'):=by
 intro b s C H Q I h;exact isTrue_plain (ft (J b s C H _ I h) λv f ⟨x,d,U,Y,e⟩=>tj b f C d x v Q U Y e)<|O _
theorem yn(r:fy [x] us) : ∃u,us=[u]/\RelV x u:=by
 cases r with
 | cons z a=>cases a;exact⟨_,rfl,z⟩
theorem sV(r:fy [x,y] us) : ∃u C,us=[u,C]/\RelV x u/\RelV y C:=by
 cases r with
 | cons z a=>
  cases a with
  | cons I O=>cases O;exact⟨_,_,rfl,z,I⟩
theorem fU(O:X.calm=di):wU X (.builtin "min") (λxs H Q=>∃i j,xs=[.int i,.int j]/\Q (.int (if j<i then j else i)) H):=by
 intro a s g H xs e Q I r h;obtain⟨i,j,rfl,q⟩:=h;obtain⟨u,f,rfl,⟨t,rfl⟩,⟨d,rfl⟩⟩:=sV r;refine min_two_ints (I.ok.hd O) λb U k=>⟨_,H,I.kept k,?_,q⟩;by_cases z:j<i
 ·rw[RY z,RY z];exact⟨_,rfl⟩
 ·rw[EQ z,EQ z];exact⟨_,rfl⟩
theorem fV:wU X (.type "int") (λxs H Q=>(∃i,xs=[.int i]/\Q (.int i) H)\/∃k,xs=[.bl k]/\Q (.int (if k then 1 else 0)) H):=by
 intro a s d H xs b Q I r h;rcases h with⟨i,rfl,q⟩ | ⟨k,rfl,q⟩
 ·obtain⟨u,rfl,t,rfl⟩:=yn r
  exact call_int_int ⟨.int i,H,I,⟨_,rfl⟩,q⟩
 ·obtain⟨u,rfl,z⟩:=yn r
  cases z;exact call_int_bool ⟨.int<|if k then 1 else 0,H,I.tok _,⟨_,rfl⟩,q⟩
end
structure P2(h:f6)(x dx C:eh)(mA:RJ):Prop where
 obj:h.get? x=cq (PySem.W.instObj C dx)
 ns:h.Ns1 dx mA
 ne:dx≠x
theorem dP{h:f6}{C:eh}{J:RJ}(n:h.Ns1 C J) : ∃L,h.get? C=cq L/\∀name,PySem.W.lookIn name L=cq (J name):=by
 obtain⟨o,b,i,I,f,O,_,g⟩:=n;refine⟨o,I,λname=>?_⟩;have e:=g name;unfold nsFind findBy at e;rw[<- Array.find?_toList]at e;unfold PySem.W.lookIn;rw[f];dsimp only;split
 ·rename_i y q
  rw[q]at e;exact congrArg cq e
 ·rename_i q
  rw[q]at e;have a:b.toList.any (·.refKey)=d7:=by rw[Pw];intro y U;obtain⟨z,t,Y⟩:=O y<|Array.mem_toList_iff.mp U;simp[DictEntry.refKey,Y]
  have d : ¬b.toList.any (·.refKey)=di:=by rw[a];exact II
  rw[EQ d];exact congrArg cq e
theorem P2.look(I:P2 h x dx C mA) : ∃J,PySem.W.InstAt h x (PySem.W.instObj C dx) C (cq J)/\∀name,PySem.W.lookIn name J=cq (mA name):=
 let ⟨J,z,O⟩:=dP I.ns
 ⟨J,⟨I.obj,rfl,rfl,z⟩,O⟩
theorem zl.some_of(r:zl (cq v) o) : ∃u,o=cq u/\RelV v u:=by
 cases o with
 | none=>exact(show False from r).elim
 | some u=>exact⟨u,rfl,r⟩
section
variable{P:i8}{w:hB}{H H':Hp}{h h':f6}{a C dx:eh}{fs TH:List (Str×V)}
theorem rG(J:m3 P w H h)(e:H a=cq (.ins C dx fs)) : ∃mA,P2 h a dx C mA/\(∀f,zl (fs.lookup f)<|mA f)/\PySem.Within mA (fs.map (·.1))/\fs.length<=1000/\H dx=cq (.own a):=by obtain⟨d,z,b,I,mA,n,r,q⟩:=(show md P w H h a (.ins C dx fs)from J a _ e);exact⟨mA,⟨I,n,b⟩,r,q,z,d⟩
end
structure Pz(K:HR)(C:eh):Prop where
 pg:PySem.W.plainGet K C Str.empty=di
 hd:PySem.W.hasDictIn K C=di
 po:PySem.W.plainOver K C=di
 sa:NX K (.ref C) "__setattr__" = cq (cq (.builtin "object.__setattr__"))
theorem Pz.get{K:HR}{C:eh}(c:Pz K C)(f:Str):PySem.W.plainGet K C f=di:=c.pg
section
variable{X:Cx}{pins:RW}{σ:St}{H:Hp}{s:eF}{A:m9}{E:RQ}{Q:RQ}{c:ej}{b:Bool}
inductive wh(K:HR)(H:Hp):V->ej->Prop where
 | fh:wh K H .fh (.type "NoneType")
 | bl (x:Bool):wh K H (.bl x) (.type "bool")
 | int (i:Int):wh K H (.int i) (.type "int")
 | str (x:Str):wh K H (.str x) (.type "str")
 | E1 (x:UInt64):wh K H (.E1 x) (.type "float")
 | lst {a:eh} {xs:List V} (e:H a=cq (.lst xs)):wh K H (.ref a) (.type "list")
 | u0 {a:eh} {o:ni} {xs:List V} (e:H a=cq (.u0 o (.lst xs))):wh K H (.ref a) (.type "list")
 | tup {a:eh} {xs:List V} (e:H a=cq (.tup xs)):wh K H (.ref a) (.type "tuple")
 | dK {a:eh} {m4:List (Key×V)} (e:H a=cq (.dK m4)):wh K H (.ref a) (.type "dict")
 | dT {a:eh} {m4:List (List Key×V)} (e:H a=cq (.dT m4)):wh K H (.ref a) (.type "dict")
 | ins {a C dx:eh} {fs:List (Str×V)} (e:H a=cq (.ins C dx fs)) (cl:Pz K C) (ha:NX K (.ref C) "__class__" = cq (cq (.builtin "object.__class__")))
  (hn:PySem.W.specialIn K (.builtin "object.__class__") "__get__" = cq (cq (.builtin "getset_descriptor.__get__"))) (Uv:PySem.W.takesIn K (.builtin "object.__class__")=cq di)
  (hm:PySem.W.mroIn K C (.type "object")=cq di):wh K H (.ref a) (.ref C)
theorem eG(I:Inv X pins σ H s)(U:RelV x u)(ty:wh X.K H x t)(e:MW X.K t c=cq b)(h : ∀S,Q (.bool b) {s with toks:=S}) :
 wpAny (eP X.prog X.w) A (call (.builtin "isinstance") [u,c]) Q E s:=by
 cases ty with
 | fh=>cases (show u=IZ from U);exact Lf PySem.W.kitx_none I.n7 MG e (λz=>nomatch z) h
 | bl y=>cases (show u=Value.bool y from U);exact Lf PySem.W.kitx_bool I.n7 MG e (λz=>nomatch z) h
 | int i=>obtain⟨t,q⟩:=(show ∃t,u=Pc i t from U);cases q;exact Lf PySem.W.kitx_int I.n7 MG e (λz=>nomatch z) h
 | str y=>obtain⟨t,q⟩:=(show ∃t,u=Pb y t from U);cases q;exact Lf PySem.W.kitx_str I.n7 MG e (λz=>nomatch z) h
 | E1 y=>obtain⟨t,q⟩:=(show ∃t,u=Value.float y t from U);cases q;exact Lf PySem.W.kitx_float I.n7 MG e (λz=>nomatch z) h
 | @lst a g Y=>
  cases (show u=LX a from U);obtain⟨_,_,n,_,d⟩:=(show md X.prog X.w H s.heap a (.lst g)from I.f9 a _ Y);exact Lf Pe I.n7 ⟨_,d,rfl⟩ e (λz=>nomatch z) h
 | @u0 a L g Y=>
  cases (show u=LX a from U);obtain⟨_,_,_,n,_,d⟩:=(show md X.prog X.w H s.heap a (.u0 L<|.lst g)from I.f9 a _ Y);exact Lf Pe I.n7 ⟨_,d,rfl⟩ e (λz=>nomatch z) h
 | @tup a g Y=>
  cases (show u=LX a from U);obtain⟨_,_,_,p⟩:=(show md X.prog X.w H s.heap a (.tup g)from I.f9 a _ Y);obtain⟨o,d,j,_⟩:=p;exact Lf PySem.W.kitx_tuple I.n7 ⟨o,d,(Prod.mk.inj j).1⟩ e (λz=>nomatch z) h
 | @dK a f Y=>
  cases (show u=LX a from U);obtain⟨_,_,R,_,p⟩:=(show md X.prog X.w H s.heap a (.dK f)from I.f9 a _ Y);obtain⟨o,r,m,d,j,_⟩:=p;exact Lf Pf I.n7 ⟨o,d,j.1⟩ e (λz=>nomatch z) h
 | @dT a f Y=>
  cases (show u=LX a from U);obtain⟨_,_,g,_,o,r,m,d,j,_⟩:=(show md X.prog X.w H s.heap a (.dT f)from I.f9 a _ Y);exact Lf Pf I.n7 ⟨o,d,j.1⟩ e (λz=>nomatch z) h
 | @ins a C M fs Y l B G k F=>
  cases (show u=LX a from U);obtain⟨N,O,_⟩:=rG I.f9 Y;obtain⟨P,J,_⟩:=O.look;exact Lf (PySem.W.kitx_own (l.get _) l.hd B G k F) I.n7 J e (λz=>nomatch z) h
end
structure oe(k:Nat)(A:m9):Prop where
 hd:A.handled=dn
 dp:A.depth+3*k+5<recursionLimit
 un:A.units+16*k+200<DN
theorem oe.mono(r:oe k A)(h:j<=k):oe j A:=⟨r.hd,by have:=r.dp;omega,by have:=r.un;omega⟩
theorem oe.deeper(r:oe (k+1) A)(env:o9):oe k (A.deeper env):=
 ⟨r.hd,by have:=r.dp;show A.depth+1+3*k+5<_;omega,by have:=r.un;show A.units+3+16*k+200<_;omega⟩
theorem oe.in1(r:oe (k+1) A):oe k A.in1:=
 ⟨r.hd,by have:=r.dp;show A.depth+3*k+5<_;omega,by have:=r.un;show A.units+1+16*k+200<_;omega⟩
theorem oe.depth(r:oe k A):A.depth<recursionLimit:=by have:=r.dp;omega
def FJ:TA:=λ_ H Q=>Q [] H
noncomputable def tH(C:TE)(z:TA):TA:=λa H Q=>C a H λx b=>z a b λe d=>Q (x::e) d
section
variable{X:Cx}{e:eA}{es:List eA}{te:TE}{t:TA}{pos:gu}
theorem qo:PA X [] FJ:=λ_ _ _ _ H Q I h=>Pp ⟨[],H,I,.nil,h⟩
theorem jl(C:PE X e te)(z:PA X es t)(O:f7 (e::es) X.env=(d7,eB e X.env)::f7 es X.env:=by rfl):PA X (e::es) (tH te t):=by intro pos a s b H Q I h;rw[O];show wpAny _ _ (N7 ((d7,eB e X.env)::tw pos (f7 es X.env))) _ _ s;refine NZ<|ft (C a s b H _ I h) λu m U=>?_;obtain⟨x,d,Y,k,i⟩:=U;exact ft (z pos a m b d _ Y i) λp o ⟨n,f,g,l,j⟩=>⟨x::n,f,g,.cons k l,j⟩
noncomputable def GF(t:TA):TE:=λd H Q=>t d H λb a=>b.length<=gm/\∀p,a p=dn->Q (.ref p) (upd a p<|.tup b)
noncomputable def GJ(t:TA):TE:=λd H Q=>t d H λb a=>b.length<=gm/\∀p,a p=dn->Q (.ref p) (upd a p<|.lst b)
theorem nj(h:PA X es t):PE X (.Tuple es x1 pos) (GF t):=by intro a s j H Q I U;refine wpAny_Tuple_spliced<|ft (h pos a s j H _ I U) λg d ⟨i,f,O,r,z,q⟩=>⟨by rw[<- r.length];exact z,?_⟩;have Y:f d.heap.objs.size=dn:=O.f9.fresh<|Ic _;refine⟨.ref d.heap.objs.size,upd f d.heap.objs.size<|.tup i,O.laid (t':=d.toks) (λb u e=>HV _ e) (Ic _) ?_,rfl,q _ Y⟩;exact⟨z,g,r,⟨_,Iq _ rfl,rfl,_,rfl⟩⟩
theorem Ab(h:PA X es t):PE X (.List es pos) (GJ t):=by intro a s j H Q I U;refine wpAny_List_spliced<|ft (h pos a s j H _ I U) λg d ⟨i,f,O,r,z,q⟩=>⟨by rw[<- r.length];exact z,?_⟩;have Y:f d.heap.objs.size=dn:=O.f9.fresh<|Ic _;refine⟨.ref d.heap.objs.size,upd f d.heap.objs.size<|.lst i,O.laid (t':=d.toks) (λb u e=>HV _ e) (Ic _) ?_,rfl,q _ Y⟩;exact⟨z,g,0,r,Iq _ rfl⟩
end
abbrev Sp:=List V->Hp->VK->XK->Prop
abbrev vl:=List o9->Hp->eF->XK->ej->eF->Prop
structure C6(P:i8)(w:hB)(K:HR)(mg:RJ)(base:f6)(A:m9)(outer:List o9)(s:eF)(H:Hp):Prop where
 frames:A.frames=cq outer
 mod:Mod K mg base
 bs : ∀b o,base.get? b=cq o->s.heap.get? b=cq o/\H b=dn
 B4:base.objs.size<=s.heap.objs.size
 u4:s.heap.FunFrames base outer
 Dw : ∀b∈A3 outer,H b=dn
 f9:m3 P w H s.heap
 bare:Dq s.gens
noncomputable def CE(outer:List o9)(P:i8)(w:hB)(H:Hp)(s:eF)(Q:VK)(u:ej)(C:eF):Prop:=
 ∃v a,C.os=s.os/\Dq C.gens/\Un (A3 outer) [] H a s.heap C.heap/\m3 P w a C.heap/\RelV v u/\Q v a
noncomputable def CR(CX:vl)(outer:List o9)(P:i8)(w:hB)(H:Hp)(s:eF)(Q:VK)(E:XK)(r:Result)(C:eF):Prop:=
 match r with
 | .ok (.ret u)=>CE outer P w H s Q u C
 | .ok _=>False
 | .error e=>CX outer H s E e C
structure rr(P:i8)(w:hB)(K:HR)(mg:RJ)(base:f6)(CX:vl)(k:Nat)(f:eh)(fd:r9)(ps:List Str)(sp:Sp):Prop where
 len : ∀vs H Q E,sp vs H Q E->vs.length=ps.length
 run : ∀(A:m9) (outer:List o9) (s:eF) (H:Hp) (args:Args) (us:List ej) (vs:List V) (Q:VK) (E:XK),oe k A->C6 P w K mg base A outer s H->L0 s fd args (ps.zip us)->fy vs us->sp vs H Q E->
  codeAny (eP P w) A (.call (.ref f) args) (CR CX outer P w H s Q E) s
theorem C6.in1{P:i8}{w:hB}{K:HR}{C:RJ}{base:f6}{A:m9}{outer:List o9}{s:eF}{H:Hp}(e:C6 P w K C base A outer s H) :
 C6 P w K C base A.in1 outer s H:=⟨e.frames,e.mod,e.bs,e.B4,e.u4,e.Dw,e.f9,e.bare⟩
section
variable{X:Cx}{pins:RW}{σ:St}{H:Hp}{s s':eF}
theorem Inv.De(I:Inv X pins σ H s):C6 X.prog X.w X.K X.mg X.base X.A X.stack s H:=
 ⟨I.ok.frames,I.ok.mod,I.bs,Lr I.ok.B4 I.sz,I.stack,I.S2,I.f9,I.bare⟩
theorem Inv.after(I:Inv X pins σ H s)(h:CE X.stack X.prog X.w H s Q u s'):EP X pins σ Q u s':=by obtain⟨v,f,os,a,un,e,r,q⟩:=h;obtain⟨O,g,d,t,U⟩:=s';obtain rfl:U=s.os:=os;exact⟨v,f,I.call (h':=O) (g':=g) (d':=d) (t':=t) (ch:=[]) un e a<|λb z=>absurd z ⋯,r,q⟩
end
noncomputable def ou(sp:Sp)(C:List V)(E:XK)(t:TA):TE:=λd H Q=>t d H λb a=>sp (b++C) a Q E
noncomputable def Binds(K:HR)(C:r9)(ps:List Str)(ds:List ej):Prop:=
 ∀(s:eF) (a:List ej),K.In s.heap->(a++ds).length=ps.length->L0 s C ⟨a,[]⟩ (ps.zip<|a++ds)
theorem Binds.all{K:HR}{C:r9}{ps:List Str}(h : ∀us:List ej,us.length=ps.length->bindArgs C ⟨us,[]⟩=pure (ps.zip us)):Binds K C ps []:=λs us _ z=>by rw[Np]at z ⊢;exact .of_eq<|h us z
noncomputable def gr(CX:vl)(X:Cx)(E:XK):Prop:=∀(a:RW) (d:St) (H:Hp) (s:eF) (e:ej) (b:eF),Inv X a d H s->CX X.stack H s E e b->X.xe e b
section
variable{X:Cx}{CX:vl}{k:Nat}{f C:eh}{fd:r9}{ps:List Str}{sp:Sp}{D7:List V}{ds:List ej}{E:XK}{x m:Str}{p pos apos:gu}{e o:eA}{es:List eA}{ta:TE}{t:TA}
theorem uj(F:rr X.prog X.w X.K X.mg X.base CX k f fd ps sp)(O:oe k X.A)(U:Binds X.K fd ps ds)(J:fy D7 ds)(hx:gr CX X E)
 (I:Inv X pins σ H s) (r:fy vs us) (h:sp (vs++D7) H Q E):wpAny (eP X.prog X.w) X.A (call (.ref f) us) (EP X pins σ Q) X.xe s:=by
 have a:fy (vs++D7) (us++ds):=r.append J;have Y:(us++ds).length=ps.length:=by rw[<- a.length];exact F.len _ _ _ _ h
 refine wpAny_call<|Pa (F.run X.A X.stack s H ⟨us,[]⟩ (us++ds) (vs++D7) Q E O I.De (U s us I.n7 Y) a h) λr d z=>?_;cases r with
 | error e=>exact hx pins σ H s e d I z
 | ok b=>
  cases b with
  | ret u=>exact I.after z
  | next=>exact Mx z
  | brk=>exact Mx z
  | cont=>exact Mx z
theorem YZ(F:rr X.prog X.w X.K X.mg X.base CX k f fd ps sp)(O:oe k X.A)(U:Gl X x)(hm:X.mg x=cq (.ref f))(Y:Nu X.K (.ref f)=di)(Z:Binds X.K fd ps ds)(hd:fy D7 ds)(hx:gr CX X E)
 (S:PA X (e::es) t) (J:(x==("__debug__" : Str))=d7:=by decide) (he:f7 (e::es) X.env=(d7,eB e X.env)::f7 es X.env:=by rfl) (L:(tw pos (f7 es X.env)).any (·.1)=d7:=by rfl) :
 PE X (.Call (.Name x p) (e::es) [] pos) (ou sp D7 E t):=by
 intro a s b H Q I h;refine NF<|dS I U hm ?_ J;refine PySem.W.callWith_K (h₀:=X.base) I.ok.mod.RA Y (ft (S pos a s b H _ I h) λi g ⟨j,d,z,r,q⟩=>⟨z.n7,?_⟩) he L;exact uj F O Z hd hx z r q
end
structure E9(N P:List Str)(sc:hG):Prop where
 kind:sc.kind = .function
 co:sc.isCoroutine=d7
 gen:sc.isGenerator=d7
 nd:N.Nodup
 pre:N.take P.length=P
 par : ∀x∈P,sc.names.lookup x=cq .local\/sc.names.lookup x=cq .cell
 T1 : ∀y∈sc.names,y.2 ≠ .free
theorem Ys{kindOf:Str->Option yg}{x:Str} : ∀{z:List (Str×ej)} {m:RJ},(∀v,(x,v)∉z)->DM kindOf z m x=m x
 | [],_,_=>rfl
 | (n,v)::r,m,h=>by
  unfold DM;rw[Ys λw a=>h w (Im _ a)];split
  ·have:x≠n:=by rintro rfl;exact h v Iy
   simp[this]
  ·rfl
theorem Yv{kindOf:Str->Option yg}{x:Str} : ∀{z:List (Str×ej)} {m:RJ},(∀v,(x,v)∉z)->DK kindOf z m x=m x
 | [],_,_=>rfl
 | (n,v)::r,m,h=>by
  unfold DK;rw[Yv λw a=>h w (Im _ a)];split
  ·rfl
  ·have:x≠n:=by rintro rfl;exact h v Iy
   simp[this]
theorem Yt{kindOf:Str->Option yg}{x:Str}{v:ej} : ∀{P:List Str} {vs:List ej} {i:Nat} {m:RJ},P.Nodup->P[i]? = cq x->vs[i]? = cq v->kindOf x=cq .local->
 DM kindOf (P.zip vs) m x=cq v
 | [],_,_,_,_,h,_,_=>by simp at h
 | _::_,[],_,_,_,_,h,_=>by simp at h
 | p::P,w::vs,0,m,nd,h1,h2,hk=>by simp at h1 h2;subst h1;subst h2;show DM kindOf ((p,w)::P.zip vs) m p=_;unfold DM;rw[Ys λv z=>(LO.mp nd).1 (List.of_mem_zip z).1,RY hk];simp
 | p::P,w::vs,i+1,m,nd,h1,h2,hk=>by show DM kindOf ((p,w)::P.zip vs) m x=_;unfold DM;exact Yt (i:=i) (LO.mp nd).2 (by simpa using h1) (by simpa using h2) hk
theorem Yw{kindOf:Str->Option yg}{x:Str}{v:ej} : ∀{P:List Str} {vs:List ej} {i:Nat} {m:RJ},P.Nodup->P[i]? = cq x->vs[i]? = cq v->kindOf x≠cq .local->
 DK kindOf (P.zip vs) m x=cq v
 | [],_,_,_,_,h,_,_=>by simp at h
 | _::_,[],_,_,_,_,h,_=>by simp at h
 | p::P,w::vs,0,m,nd,h1,h2,hk=>by simp at h1 h2;subst h1;subst h2;show DK kindOf ((p,w)::P.zip vs) m p=_;unfold DK;rw[Yv λv z=>(LO.mp nd).1 (List.of_mem_zip z).1,EQ hk];simp
 | p::P,w::vs,i+1,m,nd,h1,h2,hk=>by show DK kindOf ((p,w)::P.zip vs) m x=_;unfold DK;exact Yw (i:=i) (LO.mp nd).2 (by simpa using h1) (by simpa using h2) hk
noncomputable def Zz(N:List Str)(vs:List V):St:=vs.map cq++HZ (N.length - vs.length) dn
noncomputable def se(CX:vl)(P:i8)(w:hB)(K:HR)(mg:RJ)(base:f6)(N:List Str)(qual:Str)(scope:hG)(f:eh)(z:ej)(A:m9)(outer:List o9)(s:eF)(H:Hp)(E:XK):Cx where
 prog:=P
 w:=w
 K:=K
 mg:=mg
 base:=base
 A:=A.deeper<|envOfC qual scope s.heap.objs.size f z
 N:=N
 o6:=s
 FG:=H
 env:=L9 qual scope s.heap.objs.size f z
 outer:=outer
 stack:=L9 qual scope s.heap.objs.size f z::outer
 ex:=[]
 calm:=di
 fn:=λ_=>di
 pn:=[]
 xe:=λe s'=>wpAny (eP P w) (A.deeper<|envOfC qual scope s.heap.objs.size f z) (leaving (L9 qual scope s.heap.objs.size f z) e) (λ_ I=>CX outer H s E e I) (λO I=>CX outer H s E O I) s'
theorem WO{C:hG}{n:Nat}{x:Str}(h:C.names.lookup x=cq .cell) : ∃c,(uw n C.names []).lookup x=cq c:=by have q:=Nl C.names n [] (.inl h);exact Mg.mp q
theorem eI{CX:vl}{P:i8}{w:hB}{K:HR}{C:RJ}{base:f6}{N ps:List Str}{qual:Str}{scope:hG}{f:eh}{Y:ej}{A:m9}{outer:List o9}{s J:eF}{H:Hp}{E:XK}{us:List ej}{vs:List V}
 (S:E9 N ps scope) (L:A.handled=dn) (I:C6 P w K C base A outer s H) (Z:vs.length=ps.length) (r:fy vs us)
 (x:InCallC s s.heap.objs.size (DM (L9 qual scope s.heap.objs.size f Y).kindOf (ps.zip us) λ_=>dn) (uw (s.heap.objs.size+1) scope.names []) (DK (L9 qual scope s.heap.objs.size f Y).kindOf (ps.zip us) λ_=>dn) J) :
 Inv (se CX P w K C base N qual scope f Y A outer s H E) [] (Zz N vs) H J:=by
 have F:ps.length<=N.length:=by have:=congrArg List.length S.pre;rw[Nh]at this;omega
 obtain⟨g,M,rfl,m⟩:=x.done;have a0 : ∀b:eh,b∉(se CX P w K C base N qual scope f Y A outer s H E).ex:=λb z=>absurd (show b∈([]:List eh)from z) ⋯;refine⟨⟨I.mod,S.kind,rfl,rfl,Ic _,λy z c g d=>?_,λy O=>?_,λy c _ h=>?_,λ_=>L,Around.frames_deeper I.frames,.inr ⟨rfl,rfl⟩,λb z=>absurd z<|a0 b,I.bs,I.B4,λb _ _=>a0 b,λb z=>absurd z<|a0 b,I.u4,I.Dw⟩,
  rfl,I.bare,Un.kept m,⟨_,x.toInCall.ns,λi y v g d G=>?_⟩,λy c h=>⟨_,x.cell y c h⟩,I.f9.fresh<|Ic _,λy c h=>?_,λp U=>absurd (show p∈([]:RW)from U) ⋯,I.f9.kept m,?_⟩
 ·exact name_of_addr x.apart (Nf g)<|Nf d
 ·have O:scope.names.lookup y=cq .cell\/scope.names.lookup y=cq .free:=O
  rcases O with O | O
  ·exact WO O
  ·exact absurd rfl<|S.T1 _<|Nf O
 ·exact OQ<|x.above y c<|Nf h
 ·have j:i<vs.length:=by
   unfold Zz at d;by_cases j:i<vs.length
   ·exact j
   ·rw[Lg (by simpa using j)]at d
    rw[Nn]at d;split at d<;>cases d
  have t:vs[i]? = cq v:=by
   unfold Zz at d;rw[Lz (by simpa using j),Le]at d;cases e:vs[i]? with
   | none=>rw[e]at d;cases d
   | some a=>rw[e]at d;cases d;rfl
  obtain⟨u,o,B⟩:=r.get t;have U:ps[i]? = cq y:=by rw[<- S.pre,List.getElem?_take_of_lt ⋯];exact g
  have l:ps.Nodup:=by rw[<- S.pre];exact S.nd.sublist<|List.take_sublist _ _
  refine⟨u,B,?_⟩;rcases S.par y (IY U)with k | k
  ·exact .inl ⟨k,Yt l U o k⟩
  ·obtain⟨c,e⟩:=WO (n:=s.heap.objs.size+1) k
   refine .inr ⟨.inl k,c,e,?_⟩;have q:=x.cell y c e;rw[Yw l U o (by show scope.names.lookup y≠_;rw[k];decide)]at q;exact q
 ·exact I.f9.fresh<|OQ<|x.above y c<|Nf h
 ·unfold Zz
  show _=N.length;rw[LG,IE,List.length_replicate];omega
theorem EG{CX:vl}{P:i8}{w:hB}{K:HR}{mg:RJ}{base:f6}{k:Nat}{f:eh}{name qual:Str}{Y:Arguments}{L:List jn}{scope:hG}{dV kV Z pm C ct oc:ej}{an od:Option eh}
 {RN:Array (Option ej)} {N ps:List Str} {sp:Sp} (lk:K.lookup f=cq ⟨oc,od,.func<|Nx name qual Y L scope dV kV Z pm an C ct,RN⟩) (a4:OG K C qual=di) (S:E9 N ps scope)
 (len : ∀vs H Q E,sp vs H Q E->vs.length=ps.length)
 (a5 : ∀(A:m9) (outer:List o9) (s:eF) (H:Hp) (vs:List V) (Q:VK) (E:XK),oe k (A.deeper<|envOfC qual scope s.heap.objs.size f C)->sp vs H Q E->
   ∃t,p8 (se CX P w K mg base N qual scope f C A outer s H E) L t/\t {nx:=λ_ H'=>Q .fh H',rt:=Q} (Zz N vs) H) :
 rr P w K mg base CX (k+1) f (Nx name qual Y L scope dV kV Z pm an C ct) ps sp:=by
 refine⟨len,λA outer s H l us vs Q E U O hb r i=>?_⟩;have M:=len _ _ _ _ i;have h:K.In s.heap:=O.mod.RA.keeps λb o e=>(O.bs b o e).1;have lim:s.heap.NoLimit:=O.mod.nolimit.keeps λb o e=>(O.bs b o e).1;have p : ∀y∈ps.zip us,scope.names.lookup y.1=cq .local\/(scope.names.lookup y.1=cq .cell/\((uw (s.heap.objs.size+1) scope.names []).lookup y.1).isSome=di):=λ⟨n,v⟩ X=>by
  rcases S.par n (List.of_mem_zip X).1 with q | q
  ·exact .inl q
  ·exact .inr ⟨q,Nl _ _ _<|.inl q⟩
 refine codeAny_call_function U.depth (h _ _ lk) rfl S.co S.gen rfl (PySem.W.codeRec_of h a4)<|hb _ _ _ _ ?_;refine wpAny_newFunctionEnv_cells S.kind p λB G m x=>?_;subst G;refine⟨lim.keeps x.toInCall.keep,codeAny_func ?_⟩;obtain⟨t,T,R⟩:=a5 A outer s H vs Q E (U.deeper _) i;have I:Inv (se CX P w K mg base N qual scope f C A outer s H E) [] (Zz N vs) H m:=eI S U.hd O M r x;refine Mq (T [] m (Zz N vs) H _ I R) (λF g z=>?_) λe g z=>z;have j : ∀{a:St} {H':Hp} {v:V} {u:ej},Inv (se CX P w K mg base N qual scope f C A outer s H E) [] a H' g->RelV v u->Q v H'->CE outer P w H s Q u g:=
  λ{a H' v u} J d q=>⟨v,H',J.os,J.bare,J.base,J.f9,d,q⟩
 cases F with
 | ret u=>
  obtain⟨v,a,H',J,d,q⟩:=z;exact j J d q
 | next=>
  obtain⟨a,H',J,q⟩:=z;exact j (v:=V.fh) (u:=IZ) J rfl q
 | brk=>
  obtain⟨_,_,_,q⟩:=z;exact Mx q
 | cont=>
  obtain⟨_,_,_,q⟩:=z;exact Mx q
section
variable{X:Cx}{x:Str}{p pos:gu}{e:eA}{es:List eA}{t:TA}{id T:String}{r:List V->Hp->VK->Prop}
noncomputable def S5(r:List V->Hp->VK->Prop)(t:TA):TE:=λd H Q=>t d H λb a=>r b a Q
theorem kT(z:wU X (.builtin id) r)(O:Gl X x)(S:X.mg x=dn)(U:B3 x=cq (.builtin id))(J:PA X (e::es) t)(Z:x ≠ "__name__":=by decide)(Y:(x==("__debug__" : Str))=d7:=by decide)
 (L:f7 (e::es) X.env=(d7,eB e X.env)::f7 es X.env:=by rfl) (C:(tw pos<|starEach es X.env).any (·.1)=d7:=by rfl):PE X (.Call (.Name x p) (e::es) [] pos) (S5 r t):=by
 intro a s b H Q I h;refine NF<|kH I O S U ?_ Z Y;exact ON (ft (J pos a s b H _ I h) λk j ⟨l,d,f,i,g⟩=>z a j b d l k Q f i g) L C
theorem ZP(z:wU X (.type T) r)(O:Gl X x)(S:X.mg x=dn)(U:B3 x=cq (.type T))(J:PA X (e::es) t)(Z:x ≠ "__name__":=by decide)(Y:(x==("__debug__" : Str))=d7:=by decide)
 (L:f7 (e::es) X.env=(d7,eB e X.env)::f7 es X.env:=by rfl) (C:(tw pos<|starEach es X.env).any (·.1)=d7:=by rfl):PE X (.Call (.Name x p) (e::es) [] pos) (S5 r t):=by
 intro a s b H Q I h;refine NF<|kH I O S U ?_ Z Y;exact Ll (ft (J pos a s b H _ I h) λk j ⟨l,d,f,i,g⟩=>z a j b d l k Q f i g) L C
end
end L2
namespace HT
open PySem PyProof.Rows
section
variable{prog:i8}{w:hB}{A:m9}{E:RQ}{s:eF}
theorem ES(S:F0 s.heap t vs.toArray)(L:F0 s.heap b z.toArray)(U:vs ≠ [])
 (C:z=[]->Q (.ref t) s) (J:z ≠ []->Q (.ref s.heap.objs.size) {s with heap:=s.heap.push {cls:= .type "tuple",data:= .seq (vs++z).toArray}})
 (hsz:vs.length+z.length<=gm):wpAny (eP prog w) A (xg .Add (.ref t)<|.ref b) Q E s:=by
 obtain⟨⟨cls,Y,data,l⟩,I,i,n,j⟩:=id S;obtain⟨⟨m,d,data2,f⟩,O,g,k,h⟩:=id L;simp only at i j g h;subst i j g h;have e:vs.toArray++z.toArray=(vs++z).toArray:=by simp
 by_cases a:z=[]
 ·exact P5 ⟨_,I,rfl⟩ ⟨_,O,rfl⟩ PU SW Oo Oj (Ob _ _)
   (tuple_addW1 t b vs.toArray z.toArray n k Y d l f (by simpa using U)<|by simp[a]) ⟨I,O,C a⟩
 ·refine P5 ⟨_,I,rfl⟩ ⟨_,O,rfl⟩ PU SW Oo Oj (Ob _ _)
   (tuple_addW2 t b vs.toArray z.toArray n k Y d l f (by simpa using U) (by simpa using a)<|by rw[Ik,Ik];exact hsz) ⟨I,O,?_⟩
  rw[e];exact J a
noncomputable def ed(n d:Nat):Option Int->Nat
 | none=>d
 | some v=>if v<0 then (v+(n:Int)).toNat else min v.toNat n
theorem ud(n d:Nat)(C:d<=n)(o:Option Int):ed n d o<=n:=by
 cases o with
 | none=>exact C
 | some v=>
  show(if v<0 then (v+(n:Int)).toNat else min v.toNat n)<=n;by_cases z:v<0
  ·rw[RY z];omega
  ·rw[EQ z];exact Nat.min_le_right _ _
theorem fP(v:Int)(n d:Nat):(if v<0 then max (v+(n:Int)) 0 else min v (n:Int))=((ed n d (cq v):Nat):Int):=by
 show(if v<0 then max (v+(n:Int)) 0 else min v (n:Int))=(((if v<0 then (v+(n:Int)).toNat else min v.toNat n):Nat):Int);by_cases z:v<0
 ·simp only[RY z];omega
 ·simp only[EQ z];omega
theorem bc(lo C:Option Int)(n:Nat):NL lo C 1 (n:Int)=(((ed n 0 lo:Nat):Int),((ed n n C:Nat):Int)):=by
 have a : ¬((1:Int)<0):=by omega
 unfold NL;simp only[a,if_false];refine Prod.ext ?_ ?_
 ·cases lo with
  | none=>rfl
  | some v=>exact fP v n 0
 ·cases C with
  | none=>rfl
  | some v=>exact fP v n n
theorem av(i j:Nat):MJ (i:Int) (j:Int) 1=j - i:=by
 unfold MJ;have a:(1:Int)>0:=by omega
 simp only[a,if_true,Int.ediv_one];split<;>omega
theorem J2(p:C7 v o)(h:Q o s):wpAny (eP prog w) A (Builtin.Slice.slicePartIndex v) Q E s:=by
 cases p with
 | none=>exact slicePart_none h
 | int i t=>exact slicePart_int h
theorem wL{J:eh}{z I:ej}{lo C:Option Int}{n:Nat}{Q:Int×Int×Nat->eF->Prop}(Y:s.heap.IsSliceOf J z I .none)(pl:C7 z lo)(L:C7 I C)
 (h:Q (((ed n 0 lo:Nat):Int),1,ed n n C - ed n 0 lo) s):wpAny (eP prog w) A (Builtin.Slice.sliceApplied (.ref J)<|pure (n:Int)) Q E s:=by
 obtain⟨os,O,a,U⟩:=id Y;unfold Builtin.Slice.sliceApplied Builtin.Slice.sliceFields;refine HS<|HS<|Lc O U (x:=z) rfl<|HS<|Lc O U (x:=I) rfl<|HS<|Lc O U (x:= .none) rfl<|Ie ?_;refine HS<|slicePart_none ?_;show wpAny _ _ (if ((1:Int)==0)=di then _ else _) _ _ s;rw[EQ ⋯];refine HS<|J2 pl<|HS<|J2 L<|HS<|Ie ?_;show wpAny _ _ (match NL lo C 1 (n:Int)with | (lo,C)=>pure (lo,(1:Int),MJ lo C 1)) _ _ s;rw[bc lo C n];show wpAny _ _ (pure (((ed n 0 lo:Nat):Int),(1:Int),MJ ((ed n 0 lo:Nat):Int) ((ed n n C:Nat):Int) 1)) _ _ s;rw[av];exact Ie h
theorem iM(xs:Array ej)(i k:Nat):((HU k).filterMap λ(m:Nat)=>xs[((i:Int)+(m:Int)*1).toNat]?).toArray=((xs.toList.drop i).take k).toArray:=by
 have e:(λ(m:Nat)=>xs[((i:Int)+(m:Int)*1).toNat]?)=λm=>xs[i+m]? :=by
  funext m;have:((i:Int)+(m:Int)*1).toNat=i+m:=by omega
  rw[this]
 rw[e];have:=pick_run xs i k;rw[List.filterMap_map]at this;have a:((λx=>xs[x]?)∘λx=>i+x)=λm=>xs[i+m]? :=rfl;rw[a]at this;rw[this]
theorem aT{t J:eh}{items:Array ej}{O U:ej}{lo C:Option Int}{Q:RQ}(z:F0 s.heap t items)(Y:s.heap.IsSliceOf J O U .none)(pl:C7 O lo)(S:C7 U C)
 (L : ¬(ed items.size 0 lo=0/\ed items.size items.size C=items.size))
 (h:Q (.ref s.heap.objs.size) {s with heap:=s.heap.push {cls:= .type "tuple",data:= .seq ((items.toList.drop (ed items.size 0 lo)).take (ed items.size items.size C - ed items.size 0 lo)).toArray}})
 (hsz:items.size<=gm):wpAny (eP prog w) A (Dh (.ref t)<|.ref J) Q E s:=by
 have I:sizeOk (.seq ((items.toList.drop<|ed items.size 0 lo).take (ed items.size items.size C - ed items.size 0 lo)).toArray):=by show((items.toList.drop<|ed items.size 0 lo).take (ed items.size items.size C - ed items.size 0 lo)).toArray.size<=gm;rw[Ik,Nh,NM,LN];omega
 have g:ed items.size items.size C<=items.size:=ud _ _ (Ic _) C;obtain⟨os,a,b,f⟩:=id Y;have d:s.TypeIs (.ref J) "slice":=⟨os,a,b⟩;unfold Dh
 try with_reducible refine Mp ?_
 first | refine HS (Ie ?_) | skip
 refine HS (Ur z.typeIs ⋯ ?_);refine HS (LA (name:=Ld "__getitem__") z.typeIs LM
  (LQ LM z.typeIs entry_tuple_getitem ?_ (Tr _ _)))
 show wpAny _ _ (Builtin.Tuple.tupleItemsOf (.ref t) >>= _) _ _ s;refine HS<|OM z ?_;refine HS<|Ot d ?_;rw[RY ⋯];refine HS<|wL Y pl S ?_;have e : ¬((((ed items.size 0 lo:Nat):Int)==0 && (1:Int)==1 && (ed items.size items.size C - ed items.size 0 lo)==items.size)=di):=by intro q;rw[Ir,Ir]at q;have i:((ed items.size 0 lo:Nat):Int)=0:=eq_of_beq q.1.1;have j:ed items.size items.size C - ed items.size 0 lo=items.size:=eq_of_beq q.2;exact L ⟨by omega,by omega⟩
 show wpAny _ _ (if (((ed items.size 0 lo:Nat):Int)==0 && (1:Int)==1 && (ed items.size items.size C - ed items.size 0 lo)==items.size)=di then _ else _) _ _ s;rw[EQ e,iM]
 first
  | exact HS (m:=Mb _)<|LR (Ie ⟨_,rfl,Ie h⟩) I
  | exact HS (m:=Mb _)<|LR (HS<|Ie<|Ie ⟨_,rfl,Ie h⟩) I
  | exact HS<|HS (m:=Mb _)<|LR (Ie<|Ie ⟨_,rfl,Ie h⟩) I
  | exact HS<|HS (m:=Mb _)<|LR (Ie ⟨_,rfl,Ie h⟩) I
end
end HT
namespace L2
open PySem PySem.Spec PyProof.Rows
abbrev TO:=St->Hp->(Option Int->Hp->Prop)->Prop
noncomputable def PO(X:Cx)(e:Option eA)(t:TO):Prop:=
 ∀(a:RW) (s:eF) (b:St) (H:Hp) (Q:Option Int->Hp->Prop),Inv X a b H s->t b H Q->
  wpAny (eP X.prog X.w) X.A (evalPart e X.env) (λu f=>∃o d,Inv X a b d f/\C7 u o/\Q o d) X.xe s
def oq:TO:=λ_ H Q=>Q dn H
noncomputable def CB(t:TE):TO:=λb H Q=>t b H λx a=>∃i,x = .int i/\Q (cq i) a
section
variable{X:Cx}{e:eA}{te:TE}{lo hi:Option eA}{tl th:TO}{pos p2:gu}
theorem pz:PO X dn oq:=by intro a s b H Q I h;rw[evalPart_none];exact Ie ⟨dn,H,I,.none,h⟩
theorem px(h:PE X e te):PO X (cq e) (CB te):=by intro a s f H Q I d;rw[evalPart_some];refine ft (h a s f H _ I d) λu g z=>?_;obtain⟨x,b,O,U,Y⟩:=z;obtain⟨i,rfl,q⟩:=Y;obtain⟨t,rfl⟩:=U;exact⟨cq i,b,O,.int i t,q⟩
noncomputable def L6(X:Cx)(r:V->Option Int->Option Int->Hp->VK->Prop):Prop:=
 ∀(a:RW) (s:eF) (d:St) (H:Hp) (x:V) (v z I:ej) (lo hi:Option Int) (b:eh) (Q:VK),Inv X a d H s->RelV x v->s.heap.IsSliceOf b z I .none->C7 z lo->C7 I hi->r x lo hi H Q->
  ∃T id,O8 (.type T) "__getitem__" = pure (cq (.builtin id))/\s.TypeIs v T/\wpAny (eP X.prog X.w) X.A (Dh v (.ref b)) (EP X a d Q) X.xe s
noncomputable def Uh(r:V->Option Int->Option Int->Hp->VK->Prop)(te:TE)(tl th:TO):TE:=λa H Q=>te a H λx b=>tl a b λl d=>th a d λu z=>r x l u z Q
theorem Wf(L:L6 X r)(C:PE X e te)(J:PO X lo tl)(S:PO X hi th):PE X (.Subscript e (.Slice lo hi dn p2) pos) (Uh r te tl th):=by intro a s d H Q I h;refine Su (ft (C a s d H _ I h) λv K o=>?_);obtain⟨x,f,i,G,B⟩:=o;refine wpAny_Slice (ft (J a K d f _ i B) λO M ⟨l,g,j,pl,E⟩=>ft (S a M d g _ j E) λU z ⟨u,Y,k,y,F⟩=>?_);rw[evalPart_none];refine Ie ?_;have m:Inv X a d Y {z with heap:=z.heap.push {cls:= .type "slice",data:= .fields #[O,U,.none]}}:=k.kept (t':=z.toks) λb N q=>HV _ q;obtain⟨T,id,n,t,p⟩:=L a {z with heap:=z.heap.push {cls:= .type "slice",data:= .fields #[O,U,.none]}} d Y x v O U l u z.heap.objs.size Q m G (Heap.IsSliceOf.new ..) pl y F;show wpAny (eP X.prog X.w) X.A (S3 e (.Slice lo hi dn p2) v (.ref z.heap.objs.size)) (EP X a d Q) X.xe {z with heap:=z.heap.push {cls:= .type "slice",data:= .fields #[O,U,.none]}};exact tail_any (ops:=[.ref z.heap.objs.size,v]) t n p (by with_unfolding_all rfl)
noncomputable def mq(xs:List V)(lo hi:Option Int):List V:=(xs.drop<|HT.ed xs.length 0 lo).take (HT.ed xs.length xs.length hi - HT.ed xs.length 0 lo)
theorem Jo(xs:List V)(lo hi:Option Int):(mq xs lo hi).length<=xs.length:=by unfold mq;rw[Nh,NM];omega
noncomputable def GY(K:HR):V->Option Int->Option Int->Hp->VK->Prop:=λx lo hi H Q=>∃a b,x = .ref a/\gR K H a b/\
 ¬(HT.ed b.length 0 lo=0/\HT.ed b.length b.length hi=b.length)/\∀p,H p=dn->Q (.ref p) (upd H p<|.tup<|mq b lo hi)
theorem tU:L6 X (GY X.K):=by
 intro e s t H x v n p lo hi m Q I Y g pl k h;obtain⟨a,d,rfl,j,i,q⟩:=h;cases Y;obtain⟨f,r,O,U⟩:=I.tuple j;have z:f.toArray.size=d.length:=by rw[Ik];exact r.length.symm
 refine⟨"tuple",_,LM.lookup,O.typeIs,?_⟩;refine HT.aT O g pl k (by rw[z];exact i) ?_ (by rw[z];exact U);rw[z];refine⟨.ref s.heap.objs.size,_,I.laid (t':=s.toks) (o:= .tup (mq d lo hi)) (λb l q=>HV _ q) (Ic _) ?_,rfl,q _ (I.f9.fresh (Ic _))⟩;exact⟨Lr (Jo d lo hi) U,_,(r.drop (HT.ed d.length 0 lo)).take (HT.ed d.length d.length hi - HT.ed d.length 0 lo),A8.new _ _⟩
theorem fy.M7(r:fy xs us):us=[]↔xs=[]:=by
 cases r with
 | nil=>simp
 | cons _ _=>simp
end
noncomputable def DS(n:Nat)(i:Int):Option Nat:=if 0<=i then (if i<n then cq i.toNat else dn)else if -(n:Int)<=i then cq (i+n).toNat else dn
noncomputable def Du{C:Type}(xs:List C)(i:Int):Option C:=(DS xs.length i).bind λj=>xs[j]?
theorem eE(h:DS n i=cq j):seqIndex? i n=cq j/\j<n/\ -(n:Int)<=i/\i<n:=by
 unfold DS at h;by_cases z:0<=i
 ·rw[RY z]at h
  by_cases a:i<n
  ·rw[RY a]at h
   have e:i.toNat=j:=IX h;exact⟨by rw[SV z a,e],by omega,by omega,a⟩
  ·rw[EQ a]at h;cases h
 ·rw[EQ z]at h
  by_cases a : -(n:Int)<=i
  ·rw[RY a]at h
   have e:(i+n).toNat=j:=IX h;exact⟨by rw[SU ⋯ a,e],by omega,a,by omega⟩
  ·rw[EQ a]at h;cases h
theorem Vu(h:Du xs i=cq v) : ∃j,seqIndex? i xs.length=cq j/\xs[j]? = cq v/\j<xs.length/\ -(xs.length:Int)<=i/\i<xs.length:=by
 unfold Du at h;cases e:DS xs.length i with
 | none=>rw[e]at h;cases h
 | some j=>
  rw[e]at h;obtain⟨a,b,z,I⟩:=eE e;exact⟨j,a,h,b,z,I⟩
def JB(b:eA):Prop:=∀o i,R8 b d7 o i=operate [o,i] (Dh o i)
noncomputable def Dt(X:Cx)(r:R2):Prop:=
 ∀(b z:eA) (a:RW) (s:eF) (d:St) (H:Hp) (x y:V) (v u:ej) (Q:VK),Inv X a d H s->RelV x v->RelV y u->r x y H Q->
  R8 z d7 v u=operate [v,u] (Dh v u)->wpAny (eP X.prog X.w) X.A (S3 b z v u) (EP X a d Q) X.xe s
noncomputable def P1(X:Cx)(id:String)(r:V->List V->Hp->VK->Prop):Prop:=
 ∀(a:RW) (s:eF) (e:St) (H:Hp) (x:V) (d:List V) (v:ej) (b:List ej) (Q:VK),Inv X a e H s->RelV x v->fy d b->r x d H Q->
  wpAny (eP X.prog X.w) X.A (call (.builtin id) (v::b)) (EP X a e Q) X.xe s
section
variable{X:Cx}{a b:eA}{ta tb:TE}{pos:gu}
theorem Dt.or(h:Dt X r)(h':Dt X r'):Dt X (λx y H Q=>r x y H Q\/r' x y H Q):=by
 intro a z b s d H x y v u Q I O U q Y;rcases q with q | q
 ·exact h a z b s d H x y v u Q I O U q Y
 ·exact h' a z b s d H x y v u Q I O U q Y
theorem iP(z:Dt X r)(C:PE X a ta)(O:PE X b tb)(U:JB b):PE X (.Subscript a b pos) (H9 r ta tb):=by intro d s j H Q I h;exact Su<|EU C O I h λv u i x y e Y f g q=>z a b d i j e x y v u Q Y f g q<|U _ _
noncomputable def Hf(K:HR):R2:=λx y H Q=>∃p a i v,x = .ref p/\y = .int i/\gB K H p a/\Du a i=cq v/\Q v H
noncomputable def Hd(K:HR):R2:=λx y H Q=>∃p a i v,x = .ref p/\y = .int i/\gR K H p a/\Du a i=cq v/\Q v H
noncomputable def He:R2:=λx y H Q=>∃z i c,x = .str z/\y = .int i/\z.length<=gm/\Du z.cps.toList i=cq c/\Q (.str ⟨#[c]⟩) H
theorem TQ:Dt X (Hf X.K):=by
 intro d J a s g H x y v u Q I E F h U;obtain⟨p,P,i,z,rfl,rfl,C,A,q⟩:=h;cases E;obtain⟨t,rfl⟩:=F;obtain⟨k,r,pl,N⟩:=I.list C;obtain⟨j,b,m,L,n,o⟩:=Vu A;obtain⟨w,Y,l⟩:=r.get m;have B:=r.length;have M:=ZX;have e:EP X a g Q w s:=⟨z,H,I,l,q⟩;by_cases f:0<=i
 ·have O:i.toNat=j:=by
   rw[SV f o]at b;exact IX b
  exact item_listR pl.isList f ⋯ (by rw[O];simpa using Y) e U
 ·have O:(i+(k.toArray.size:Int)).toNat=j:=by
   rw[SU ⋯ n]at b;rw[Ik,<- B];exact IX b
  exact Ue (x:=w) pl.isList.typeIs slot_list_getitem.lookup
   (wpAny_getItem_list_neg (Q:=λr G=>r=w/\EP X a g Q r G) pl.isList ⋯ (by rw[Ik]<;>omega) ⋯ (by rw[O];simpa using Y) ⟨rfl,e⟩) U
theorem eD:Dt X (Hd X.K):=by
 intro b B a s d H x y v u Q I O U h Y;obtain⟨p,M,i,z,rfl,rfl,o,m,q⟩:=h;cases O;obtain⟨t,rfl⟩:=U;obtain⟨C,r,pl,L⟩:=I.tuple o;obtain⟨j,k,l,E,F,G⟩:=Vu m;obtain⟨w,g,e⟩:=r.get l;have n:=r.length;have J:=ZX;have f:EP X a d Q w s:=⟨z,H,I,e,q⟩;exact Ue (x:=w) pl.typeIs slot_tuple_getitem.lookup
  (getItem_tuple (j:=j) (Q:=λr A=>r=w/\EP X a d Q r A) pl ⋯ ⋯ (by rw[Ik,<- n];exact k) (by simpa using g) ⟨rfl,f⟩) Y
theorem AF:Dt X He:=by
 intro a o d s B H x y v u Q I O U h Y;obtain⟨z,i,c,rfl,rfl,w,m,q⟩:=h;obtain⟨t,rfl⟩:=O;obtain⟨A,rfl⟩:=U;obtain⟨j,b,g,p,k,l⟩:=Vu m;have n:z.cps.toList.length=z.length:=by simp[Str.length]
 rw[n]at b k l;have r:=ZX;exact tail_any (Te s z t) slot_str_getitem.lookup (getItem_str (c:=c) (by
  have e:decide (i < -(2 ^ 63:Int))=d7:=decide_eq_false ⋯;have f:decide (i>=2 ^ 63)=d7:=decide_eq_false ⋯;rw[e,f,Bool.or_false]) (by rw[b];simpa using g) ⟨.str ⟨#[c]⟩,H,I.tok _,⟨_,rfl⟩,q⟩) Y
theorem aI(z:List ej)(n j:Nat)(u:ej):IW (·.setIfInBounds j u) {cls:= .type "list",data:= .seq z.toArray n} = {cls:= .type "list",data:= .seq (z.set j u).toArray n}:=by simp[IW]
theorem Inv.lst(I:Inv X pins σ H s)(h:H p=cq (.lst xs)) :
 ∃(O:List ej) (n:Nat),fy xs O/\s.heap.get? p=cq {cls:= .type "list",data:= .seq O.toArray n}/\xs.length<=gm:=by
 obtain⟨z,O,n,r,e⟩:=I.f9 p _ h;exact⟨O,n,r,e,z⟩
theorem Inv.TX{C:RW}{J:St}{H:Hp}{s:eF}{p:eh}{xs ys:List V}{z its':List ej}{n n':Nat}{f:ni->ni}(I:Inv X C J H s)(h:H p=cq (.lst xs))
 (U:s.heap.get? p=cq {cls:= .type "list",data:= .seq z.toArray n}) (O:f {cls:= .type "list",data:= .seq z.toArray n} = {cls:= .type "list",data:= .seq its'.toArray n'}) (r:fy ys its') (Y:ys.length<=gm) (t:Nat) :
 Inv X C J (upd H p<|.lst ys) {s with heap:=s.heap.update p f,toks:=t}:=by
 have e:(s.heap.update p f).get? p=cq {cls:= .type "list",data:= .seq its'.toArray n'}:=by rw[NK f U (by rw[O]<;>rfl),O]
 refine I.write (x:=p) (e:=p) (by rw[h];trivial) (.inl rfl) (λb u a q=>(LL _ _<|IT a).trans q) ⟨_,e⟩ ?_;exact⟨Y,its',n',r,e⟩
noncomputable def CY:V->V->V->Hp->(Hp->Prop)->Prop:=λo i v H Q=>∃p a k j,o = .ref p/\i = .int k/\H p=cq (.lst a)/\DS a.length k=cq j/\Q (upd H p<|.lst<|a.set j v)
theorem VU:GA X CY:=by
 intro a s C H o i v J G u Q I y x A h;obtain⟨p,B,k,j,rfl,rfl,Y,m,q⟩:=h;cases y;obtain⟨t,rfl⟩:=x;obtain⟨e,n,r,z,w⟩:=I.lst Y;obtain⟨b,E,g,l⟩:=eE m;have O:=r.length;have F:=ZX;have d:Inv X a C (upd H p<|.lst<|B.set j v) {s with heap:=s.heap.update p (IW (·.setIfInBounds j u))}:=
  I.TX Y z (aI e n j u) (r.set A j) (by rw[List.length_set];exact w) s.toks
 by_cases f:0<=k
 ·have U:k.toNat=j:=by
   rw[SV f l]at b;exact IX b
  exact PySem.W.ki_setAt z f ⋯ (by rw[Ik,<- O];exact l) (by rw[U];exact⟨_,d,q⟩)
 ·have U:(k+(e.toArray.size:Int)).toNat=j:=by
   rw[SU ⋯ g]at b;rw[Ik,<- O];exact IX b
  exact PySem.W.ki_setBack z ⋯ (by rw[Ik,<- O];exact g) ⋯ (by rw[U];exact⟨_,d,q⟩)
theorem Kt(lo C:Option Int)(n:Nat):(sliceBounds lo C dn n).1=((HT.ed n 0 lo:Nat):Int)/\(sliceBounds lo C dn n).2.1=((HT.ed n n C:Nat):Int)/\(sliceBounds lo C dn n).2.2=1:=by
 refine⟨?_,?_,rfl⟩
 ·cases lo with
  | none=>simp[sliceBounds,HT.ed]
  | some i=>
   simp only[sliceBounds,HT.ed,Option.getD_none,show(1:Int)>0 by decide,if_true];by_cases h:i<0
   ·simp only[h,if_true]<;>omega
   ·simp only[h,if_false]<;>omega
 ·cases C with
  | none=>simp[sliceBounds,HT.ed]
  | some i=>
   simp only[sliceBounds,HT.ed,Option.getD_none,show(1:Int)>0 by decide,if_true];by_cases h:i<0
   ·simp only[h,if_true]<;>omega
   ·simp only[h,if_false]<;>omega
theorem Xg(z:List ej)(lo C:Option Int):slicePick z.toArray lo C dn=((z.drop<|HT.ed z.length 0 lo).take (HT.ed z.length z.length C - HT.ed z.length 0 lo)).toArray:=by obtain⟨a,b,I⟩:=Kt lo C z.toArray.size;unfold slicePick;rw[a,b,I];simp only[sliceRange_one,pick_run,Ik]<;>rfl
noncomputable def GZ(K:HR):V->Option Int->Option Int->Hp->VK->Prop:=λx lo d H Q=>∃a b,x = .ref a/\gB K H a b/\∀p,H p=dn->Q (.ref p) (upd H p<|.lst<|mq b lo d)
theorem oO:L6 X (GZ X.K):=by intro f s t H x v n p lo e m Q I O U pl Y h;obtain⟨a,d,rfl,i,q⟩:=h;cases O;obtain⟨k,r,z,j⟩:=I.list i;have g:=r.length;refine⟨"list",_,slot_list_getitem.lookup,z.isList.typeIs,?_⟩;refine wpAny_getItem_list_slice z.isList U pl Y .none ⋯ ?_ (by rw[Ik]<;>omega);rw[Xg,<- g];refine⟨.ref s.heap.objs.size,_,I.laid (t':=s.toks) (o:= .lst (mq d lo e)) (λb l q=>HV _ q) (Ic _) ?_,rfl,q _ (I.f9.fresh (Ic _))⟩;exact⟨Lr (Jo d lo e) j,_,0,(r.drop (HT.ed d.length 0 lo)).take (HT.ed d.length d.length e - HT.ed d.length 0 lo),Iq _ rfl⟩
noncomputable def XF:V->Bool
 | .fh=>di
 | .bl _=>di
 | .int _=>di
 | .str _=>di
 | _=>d7
noncomputable def Dg:V->V->Bool
 | .fh,.fh=>di
 | .bl a,.bl b=>a==b
 | .bl a,.int b=>(if a then 1 else 0)==b
 | .int a,.bl b=>a==(if b then 1 else 0)
 | .int a,.int b=>a==b
 | .str a,.str b=>a==b
 | _,_=>d7
theorem AV(I:RelV y u)(z:RelV x v)(U:XF y=di)(O:XF x=di):LI A s u v (Dg y x):=by
 cases y with
 | fh=>
  cases I;cases x with
  | fh=>cases z;exact LI.same _
  | bl b=>cases z;exact LI.none_bool b
  | int b=>obtain⟨t,rfl⟩:=z;exact LI.none_int b t
  | str b=>obtain⟨t,rfl⟩:=z;exact LI.none_str b t
  | _=>exact absurd (show d7=di from O) II
 | bl a=>
  cases I;cases x with
  | fh=>cases z;exact LI.bool_none a
  | bl b=>cases z;exact LI.bool_bool a b
  | int b=>obtain⟨t,rfl⟩:=z;exact LI.bool_int a b t
  | str b=>obtain⟨t,rfl⟩:=z;exact LI.bool_str a b t
  | _=>exact absurd (show d7=di from O) II
 | int a=>
  obtain⟨d,rfl⟩:=I;cases x with
  | fh=>cases z;exact LI.int_none a d
  | bl b=>cases z;exact LI.int_bool a d b
  | int b=>obtain⟨t,rfl⟩:=z;exact Nc a d b t
  | str b=>obtain⟨t,rfl⟩:=z;exact LI.int_str a d b t
  | _=>exact absurd (show d7=di from O) II
 | str a=>
  obtain⟨d,rfl⟩:=I;cases x with
  | fh=>cases z;exact LI.str_none a d
  | bl b=>cases z;exact LI.str_bool a d b
  | int b=>obtain⟨t,rfl⟩:=z;exact LI.str_int a d b t
  | str b=>obtain⟨t,rfl⟩:=z;exact LI.str_str a d b t
  | _=>exact absurd (show d7=di from O) II
 | _=>exact absurd (show d7=di from U) II
noncomputable def Df(x:V)(u:ej):Bool:=match u with
 | .none=>Dg .fh x
 | .bool b=>Dg (.bl b) x
 | .int i _=>Dg (.int i) x
 | .str z _=>Dg (.str z) x
 | _=>d7
theorem nJ(r:RelV y u)(f:XF y=di):Df x u=Dg y x:=by
 cases y with
 | fh=>cases r;rfl
 | bl b=>cases r;rfl
 | int i=>obtain⟨t,rfl⟩:=r;rfl
 | str z=>obtain⟨t,rfl⟩:=r;rfl
 | _=>exact absurd (show d7=di from f) II
theorem Vy : ∀{xs:List V} {us:List ej},fy xs us->xs.all XF=di->us.any (Df x)=xs.any λy=>Dg y x
 | _,_,.nil,_=>rfl
 | y::xs,u::us,.cons r t,f=>by rw[Ow,Ir]at f;rw[Ov,Ov,nJ r f.1,Vy t f.2]
theorem Xx(I:RelV x v)(O:XF x=di) : ∀{xs:List V} {us:List ej},fy xs us->xs.all XF=di->∀u∈us,LI A s u v (Df x u)
 | _,_,.nil,_=>λu z=>by cases z
 | y::xs,u::us,.cons r t,f=>λU z=>by
  rw[Ow,Ir]at f;rcases Il.mp z with rfl | z
  ·rw[nJ r f.1];exact AV r I f.1 O
  ·exact Xx I O t f.2 U z
def M3(x:V)(xs:List V):Bool:=xs.any λy=>Dg y x
noncomputable def T6(K:HR)(z:Bool):R2:=λx y H Q=>∃p a,y = .ref p/\(gB K H p a\/gR K H p a)/\XF x=di/\a.all XF=di/\Q (.bl<|if z then !M3 x a else M3 x a) H
theorem KO:i9 X (n4 .NotIn) (T6 X.K di):=by
 intro b s g H x y v u Q I U e h;obtain⟨p,f,rfl,z,Y,fs,q⟩:=h;cases e;rcases z with z | z
 ·obtain⟨O,r,pl,d⟩:=I.list z
  refine SeqAt.notIn_listAt (Df x) pl.isList (λw a=>Xx U Y r fs w<|by simpa using a) ⟨.bl _,H,I,rfl,?_⟩;rw[show O.toArray.any (Df x)=O.any (Df x)by simp,Vy r fs];exact q
 ·obtain⟨O,r,pl,d⟩:=I.tuple z
  refine SeqAt.notIn_tupleAt (Df x) pl (λw a=>Xx U Y r fs w<|by simpa using a) ⟨.bl _,H,I,rfl,?_⟩;rw[show O.toArray.any (Df x)=O.any (Df x)by simp,Vy r fs];exact q
theorem Yr:wU X (.builtin "len") (λxs H Q=>∃p ys,xs=[.ref p]/\(gB X.K H p ys\/gR X.K H p ys)/\Q (.int ys.length) H):=by
 intro b s g H xs f Q I r h;obtain⟨p,ys,rfl,z,q⟩:=h;obtain⟨u,rfl,U⟩:=yn r;cases U;have e:=ZX;rcases z with z | z
 ·obtain⟨Y,a,pl,d⟩:=I.list z
  have O:=a.length;exact Calls.call_len_list pl.isList (by simp only[Ik]<;>omega) ⟨.int ys.length,H,I.tok _,⟨s.toks+1,by rw[Ik,O]⟩,q⟩
 ·obtain⟨Y,a,pl,d⟩:=I.tuple z
  have O:=a.length;exact len_tuple pl (by simp only[Ik]<;>omega) ⟨.int ys.length,H,I.tok _,⟨s.toks+1,by rw[Ik,O]⟩,q⟩
theorem Yq:wU X (.builtin "len") (λxs H Q=>∃z,xs=[.str z]/\z.length<=gm/\Q (.int z.length) H):=by intro a s e H xs d Q I r h;obtain⟨z,rfl,O,q⟩:=h;obtain⟨u,rfl,t,rfl⟩:=yn r;have b:=ZX;exact len_str ⋯ ⟨.int z.length,H,I.tok _,⟨_,rfl⟩,q⟩
theorem Yp:wU X (.type "list") (λxs H Q=>∃p ys,xs=[.ref p]/\(gB X.K H p ys\/gR X.K H p ys)/\∀l,H l=dn->Q (.ref l) (upd H l (.lst ys))):=by
 intro g s A H xs B Q I r h;obtain⟨p,ys,rfl,U,q⟩:=h;obtain⟨u,rfl,y⟩:=yn r;cases y;have m : ∀(z:List ej),fy ys z->ys.length<=gm->∀(a:f6) (O:Nat),(∀b t,s.heap.get? b=cq t->a.get? b=cq t)->
  a.get? s.heap.objs.size=cq {cls:= .type "list",dict:=dn,data:= .seq z.toArray O,slots:=#[]}->EP X g A Q (.ref s.heap.objs.size) {s with heap:=a}:=λz d Y a O f e=>
  ⟨.ref s.heap.objs.size,_,I.laid (t':=s.toks) f (Ic _) (show md X.prog X.w _ a _ (.lst ys)from⟨Y,z,O,d,e⟩),rfl,q _<|I.f9.fresh<|Ic _⟩
 rcases U with U | U
 ·obtain⟨z,d,pl,Y⟩:=I.list U
  have x:=d.length;obtain⟨o,k,i,n,j⟩:=pl.isList;exact call_list_seq p (.inl rfl) k i j (λa O f e=>m z d Y a O f e) (by simp only[Ik]<;>omega)
 ·obtain⟨z,d,pl,Y⟩:=I.tuple U
  have x:=d.length;obtain⟨o,k,i,n,j⟩:=pl;exact call_list_seq p (.inr rfl) k i j (λa O f e=>m z d Y a O f e) (by simp only[Ik]<;>omega)
theorem XU:wU X (.type "tuple") (λxs H Q=>∃p ys,xs=[.ref p]/\((gB X.K H p ys/\∀l,H l=dn->Q (.ref l) (upd H l (.tup ys)))\/(gR X.K H p ys/\Q (.ref p) H))):=by
 intro a s g H xs n Q I r h;obtain⟨p,ys,rfl,h⟩:=h;obtain⟨u,rfl,k⟩:=yn r;cases k;rcases h with⟨z,q⟩ | ⟨z,q⟩
 ·obtain⟨O,f,pl,U⟩:=I.list z
  have m:=f.length;refine call_tuple_list pl.isList (λd j=>?_) (by simp only[Ik]<;>omega);have Y:Inv X a g H {s with heap:=d}:=I.kept (t':=s.toks) j;have i:Inv X a g (upd H d.objs.size (.tup ys)) {s with heap:=d.push {cls:= .type "tuple",data:= .seq O.toArray}}:=
   Y.laid (t':=s.toks) (λb o e=>HV _ e) (Ic _) (show md X.prog X.w _ _ _ (.tup ys)from⟨U,O,f,A8.new _ _⟩)
  exact⟨.ref d.objs.size,_,i,rfl,q _<|Y.f9.fresh<|Ic _⟩
 ·obtain⟨O,f,pl,U⟩:=I.tuple z
  exact call_tuple_same pl ⟨.ref p,H,I,rfl,q⟩
noncomputable def Sg(K:HR)(T:String)(x:V)(H:Hp):Prop:=match x with
 | .str _=>T = "str"
 | .int _=>T = "int"
 | .ref p=>(T = "list"/\∃b,gB K H p b)\/(T = "tuple"/\∃o,K.lookup p=cq o/\o.cls = .type "tuple"/\o.dict=dn)\/
  (T = "dict"/\((∃a,H p=cq (.dK a))\/∃a,H p=cq (.dT a)))\/(T = "set"/\∃S n,H p=cq (.set S n))
 | _=>False
theorem mP(I:Inv X pins σ H s)(r:RelV x v)(ty:Sg X.K T x H) :
 s.TypeIs v T/\∀a,v = .ref a->∃U,s.heap.get? a=cq U/\U.dict=dn:=by
 cases x with
 | str z=>
  obtain⟨t,rfl⟩:=r;cases (show T = "str" from ty);exact⟨Te s z t,λ_ e=>nomatch e⟩
 | int i=>
  obtain⟨t,rfl⟩:=r;cases (show T = "int" from ty);exact⟨PM s i t,λ_ e=>nomatch e⟩
 | ref p=>
  cases r;rcases ty with⟨rfl,k,Y⟩ | ⟨rfl,o,O,h,f⟩ | ⟨rfl,O⟩ | ⟨rfl,S,n,O⟩
  ·obtain⟨j,_,pl,_⟩:=I.list Y
   refine⟨pl.isList.typeIs,λa e=>?_⟩;cases e;obtain⟨o,n,e,c,f,_⟩:=pl;exact⟨o,e,f⟩
  ·refine⟨⟨o,I.n7 p o O,h⟩,λa e=>?_⟩
   cases e;exact⟨o,I.n7 _ o O,f⟩
  ·have z : ∃o,s.heap.get? p=cq o/\o.ExactDict:=by
    rcases O with⟨g,O⟩ | ⟨g,O⟩
    ·obtain⟨_,_,_,_,o,_,_,e,b,_⟩:=I.f9 p _ O
     exact⟨o,e,b⟩
    ·obtain⟨_,_,_,_,o,_,_,e,b,_⟩:=I.f9 p _ O
     exact⟨o,e,b⟩
   obtain⟨o,e,b⟩:=z;refine⟨⟨o,e,b.1⟩,λa d=>?_⟩;cases d;exact⟨o,e,b.2.1⟩
  ·obtain⟨o,_,_,_,e,b,_⟩:=I.f9 p _ O
   refine⟨⟨o,e,b.1⟩,λa d=>?_⟩;cases d;exact⟨o,e,b.2.1⟩
 | _=>exact Mx ty
noncomputable def GN(K:HR)(T:String)(r:V->List V->Hp->VK->Prop)(to:TE):TE:=λb H Q=>to b H λx a=>Sg K T x a/\r x [] a Q
noncomputable def S4(K:HR)(T:String)(r:V->List V->Hp->VK->Prop)(to:TE)(t:TA):TE:=λb H Q=>to b H λx a=>Sg K T x a/\t b a λe d=>r x e d Q
variable{o e:eA}{es:List eA}{to:TE}{t:TA}{name:Str}{apos cpos:gu}{T id:String}{r:V->List V->Hp->VK->Prop}
theorem Ad(U:PlainAttrs T)(C:Slot T name id)(Y:typeOf (.builtin id)=pure (.type "method_descriptor"))(hm:P1 X id r)(S:PE X o to)
 (J:F6 o name X.env (eB o X.env)=eB o X.env:=by rfl) (L:(apos.endLine==cpos.line)=di:=by rfl):PE X (.Call (.Attribute o name apos) [] [] cpos) (GN X.K T r to):=by
 intro a s b H Q I h;refine wpAny_Call_method0_late J L<|ft (S a s b H _ I h) λv j g=>?_;obtain⟨x,d,z,O,ty,i⟩:=g;obtain⟨e,f⟩:=mP z O ty;exact⟨T,id,U,C,Y,e,f,Calls.callWith_builtin rfl<|PySem.evalArgs_none<|hm a j b d x [] v [] Q z O .nil i⟩
theorem pL(Y:PlainAttrs T)(C:Slot T name id)(J:typeOf (.builtin id)=pure (.type "method_descriptor"))(hm:P1 X id r)(ho:PE X o to)(ha:PA X (e::es) t)
 (L:F6 o name X.env (eB o X.env)=eB o X.env:=by rfl)
 (S:((tw cpos<|starEach (e::es) X.env).all (λx=> !x.1) && (Ri cpos<|keywordEach [] X.env).all (λx=>x.1.isSome)
   && decide ((e::es).length+([]:List DI).length+(if ([]:List DI).isEmpty then 0 else 1)<30))=di:=by rfl)
 (Z:(apos.endLine==cpos.line)=di:=by rfl) (hs:f7 (e::es) X.env=(d7,eB e X.env)::f7 es X.env:=by rfl) (a6:(tw cpos<|starEach es X.env).any (·.1)=d7:=by rfl) :
 PE X (.Call (.Attribute o name apos) (e::es) [] cpos) (S4 X.K T r to t):=by
 intro a s b H Q I h;refine wpAny_Call_method_late L S Z rfl<|ft (ho a s b H _ I h) λv p k=>?_;obtain⟨x,d,z,O,ty,l⟩:=k;obtain⟨i,j⟩:=mP z O ty;refine⟨T,id,Y,C,J,i,j,?_⟩;have U:=ha cpos a p b d _ z l;rw[hs]at U ⊢;refine Calls.callWith_builtin (by show(d7 || (tw cpos<|starEach es X.env).any (·.1))=d7;rw[a6]<;>rfl)<|Calls.evalArgs_plain ?_;exact ft U λw u ⟨y,f,g,n,m⟩=>hm a u b f x y v w Q g O n m
end
noncomputable def Sr(X:Cx)(id:String)(r:V->List V->Hp->VK->Prop):Prop:=
 ∀(a:RW) (s:eF) (e:St) (H:Hp) (x:V) (d:List V) (v:ej) (b:List ej) (Q:VK),Inv X a e H s->RelV x v->fy d b->r x d H Q->
  wpAny (eP X.prog X.w) X.A (call (.builtin id) (v::b)) (EP X a e Q) X.xe s
theorem fy.one : ∀{x:V} {us:List ej},fy [x] us->∃u,us=[u]/\RelV x u
 | _,_,.cons r .nil=>⟨_,rfl,r⟩
theorem fy.zero : ∀{us:List ej},fy [] us->us=[]
 | _,.nil=>rfl
theorem fy.dropLast(h:fy xs us):fy xs.dropLast us.dropLast:=by
 induction h with
 | nil=>exact .nil
 | cons r t z=>
  cases t with
  | nil=>exact .nil
  | cons q a=>exact .cons r z
theorem fy.rep(h:fy xs us) : ∀k:Nat,fy (HZ k xs).flatten (HZ k us).flatten
 | 0=> .nil
 | k+1=>by rw[Mo,Mo,MT,MT];exact fy.append h<|fy.rep h k
theorem Jj(z:List ej) : ∀(k:Nat) (acc:List ej),
 Pq (λx1 I=>x1++I) acc.toArray (HZ k z.toArray)=(acc++(HZ k z).flatten).toArray
 | 0,acc=>by simp
 | k+1,acc=>by
  have e:acc.toArray++z.toArray=(acc++z).toArray:=by simp
  have a:(acc++z)++(HZ k z).flatten=acc++(HZ (k+1) z).flatten:=by rw[Mo,MT,List.append_assoc]
  rw[<- a,<- Jj z k (acc++z),<- e,Mo,List.foldl_cons]
section
variable{X:Cx}{pins:RW}{σ:St}{H:Hp}{s:eF}{l b:eh}{xs ys zs:List V}
theorem Inv.RF{z its':List ej}{n:Nat}{f:Array ej->Array ej}{t':Nat}(I:Inv X pins σ H s)(O:H l=cq (.lst xs))
 (e:s.heap.get? l=cq {cls:= .type "list",data:= .seq z.toArray n}) (U:f z.toArray=its'.toArray) (Y:fy ys its') (C:ys.length<=gm) :
 Inv X pins σ (upd H l<|.lst ys) {s with heap:=s.heap.update l<|IW f,toks:=t'}:=by
 have q:=PySem.IsL.update e f;rw[U]at q;refine I.write (x:=l) (e:=l) (by rw[O];exact trivial) (.inl rfl) (λd u a b=>(LL s.heap (IW f)<|IT a).trans b) ⟨_,q⟩ ?_;exact⟨C,its',_,Y,q⟩
theorem Inv.SO(I:Inv X pins σ H s)(O:fy ys z)(U:ys.length<=gm) :
 Inv X pins σ (upd H s.heap.objs.size (.lst ys)) {s with heap:=s.heap.push {cls:= .type "list",data:= .seq z.toArray},toks:=t'}:=
 I.laid (λ_ _ q=>HV _ q) (Ic _) ⟨U,z,0,O,Iq _ rfl⟩
theorem Inv.fresh(I:Inv X pins σ H s):H s.heap.objs.size=dn:=I.f9.fresh<|Ic _
theorem Inv.DT(I:Inv X pins σ H s)(U:H l=cq (.lst xs)):xs.length<=gm/\∃(O:List ej) (n:Nat),fy xs O/\xs.length=O.length/\s.heap.get? l=cq {cls:= .type "list",data:= .seq O.toArray n}:=by obtain⟨z,O,n,r,e⟩:=I.f9 l _ U;exact⟨z,O,n,r,r.length,e⟩
theorem lj(h:n<=gm):NP n=d7:=by unfold NP;exact decide_eq_false ⋯
end
section
variable{X:Cx}
noncomputable def cH:V->List V->Hp->VK->Prop:=λx b H Q=>∃l a y,x = .ref l/\b=[y]/\H l=cq (.lst a)/\a.length<gm/\Q .fh (upd H l<|.lst<|a++[y])
theorem K3:Sr X "list.append" cH:=by intro a s m H x j v i Q I Y d h;obtain⟨l,k,y,rfl,rfl,O,g,q⟩:=h;cases Y;obtain⟨u,rfl,b⟩:=d.one;obtain⟨z,U,n,r,f,e⟩:=I.DT O;refine Nt F.slot_list_append ⟨_,e,rfl⟩ F.entry_list_append (F.args_list_append_2 _ _) (PySem.list_append l U.toArray n u (by rw[Ik];omega)) ⟨e,?_⟩;refine⟨.fh,_,I.RF (its':=U++[u]) O e ⋯ (r.append (.cons b .nil)) ?_,rfl,q⟩;rw[LG,MO];omega
noncomputable def ux:V->List V->Hp->VK->Prop:=λx a H Q=>∃l b,x = .ref l/\a=[]/\H l=cq (.lst b)/\Q .fh (upd H l<|.lst [])
theorem lz:Sr X "list.clear" ux:=by intro a s k H x i v g Q I U d h;obtain⟨l,j,rfl,rfl,O,q⟩:=h;cases U;have Y:=d.zero;subst Y;obtain⟨z,b,n,r,f,e⟩:=I.DT O;refine Nt F.slot_list_clear ⟨_,e,rfl⟩ F.entry_list_clear (F.args_list_clear_1 _) (AutoSeq1.list_clear_list_0 l b.toArray n (by rw[Ik];omega)) ⟨e,?_⟩;exact⟨.fh,_,I.RF (its':=[]) (ys:=[]) O e rfl .nil (Lp _),rfl,q⟩
noncomputable def Ha:R2:=λx y H Q=>∃l k a,x = .ref l/\y = .int k/\H l=cq (.lst a)/\ -(2 ^ 63)<=k/\k<2 ^ 63/\a.length*k.toNat<=gm/\
 ∀p,H p=dn->Q (.ref p) (upd H p<|.lst (HZ k.toNat a).flatten)
theorem Y9(xs:List α)(k:Nat):(HZ k xs).flatten.length=k*xs.length:=by
 induction k with
 | zero=>simp
 | succ k z=>rw[Mo,MT,LG,z,Nat.succ_mul,Nat.add_comm]
theorem Ai:i9 X (xg .Mult) Ha:=by
 intro d s M H x y v u Q I E G h;obtain⟨l,k,L,rfl,rfl,B,w,A,b,q⟩:=h;cases E;obtain⟨t,rfl⟩:=G;obtain⟨z,O,n,r,C,e⟩:=I.DT B;have f:O.toArray.size*k.toNat<=gm:=by rw[Ik,<- C];exact b
 have g : ¬O.toArray.size*k.toNat>(2 ^ 63 - 1)/8:=by
  have:(gm:Nat)<=(2 ^ 63 - 1)/8:=by decide
  omega
 have i : ¬(!Builtin.List.listFitsIndex k)=di:=by rw[fitsIndex_both w A];exact II
 have j : ¬NP (O.toArray.size*k.toNat)=di:=by rw[lj f];exact II
 have o:Pq (λx1 Y=>x1++Y) #[] (HZ (if O.toArray.isEmpty=di then 0 else k.toNat) O.toArray)=(HZ k.toNat O).flatten.toArray:=by
  have p : ∀m:Nat,Pq (λx1 Y=>x1++Y) #[] (HZ m O.toArray)=(HZ m O).flatten.toArray:=λm=>by have:=Jj O m [];rw[MM]at this;exact this
  rw[p];cases O with
  | nil=>simp
  | cons a K=>rw[EQ ⋯]
 refine Uo (T:="list") (U:="int") ⋯ ⟨_,e,rfl⟩ (λJ=>PM J k t) noFill_list_mul F.fills_int_mul OU repeat_list F.slot_int_index.lookup
  (Nt OU (PM s k t) F.entry_int_rmul (F.args_int_rmul_2 _ _) (int___rmul___int_list k t l O.toArray n)
    ⟨e,rfl,⟨_,e,rfl⟩,Nt F.slot_list_mul ⟨_,e,rfl⟩ F.entry_list_mul (F.args_list_mul_2 _ _) (AutoListH.list___mul___list_int_3 l O.toArray n k t i g j) ⟨e,?_⟩⟩)
 rw[o];exact⟨.ref _,_,I.SO (t':=s.toks) (r.rep k.toNat) (by rw[Y9,OO];exact b),rfl,q _ I.fresh⟩
end
end L2
namespace Att
open PySem PySem.W PySem.Calls PyProof.Rows
theorem Jc : ∀(C:List Int) (vs:List ej),WellAll P h vs (C.map WData.int)->L4 vs C:=by
 intro C
 induction C with
 | nil=>
  intro vs w;rw[OI]at w;cases w;exact .nil
 | cons n C z=>
  intro vs w;rw[IQ]at w;cases w with
  | cons a b=>
   cases a;exact .cons _ _<|z _ b
theorem cg{l:OpenLaw}{n:Nat}(L:l.most=cq n){P:Params}{h:f6}{args:List WData}{O:List ej}
 (U:l.row.toRowW.claim.pre args=di) (J:WellAll P h O args) :
 ∃a vs C,O=[LX a]/\args=[WData.list (C.map WData.int)]/\h.get? a=cq {cls:= .type "list",data:= .seq vs.toArray}/\L4 vs C/\C.length<=n:=by
 have b:WShape.hasAll [] args [.list .int]=di:=(pre_splitW U).1;have Y:l.pre.holds [] {args:=args}=di:=(pre_splitW U).2;obtain⟨d,r,rfl,g,i⟩:=hasAllW_cons b;obtain rfl:=hasAllW_nil i;obtain⟨s,rfl,j⟩:=hasW_list g;obtain⟨C,rfl⟩:=items_int j;have e:C.length<=n:=by
  unfold OpenLaw.pre at Y;have z:(WTm.not<|.lt (.lit<|.int (n:Int))<|.len<|.arg 0).holds [] {args:=[.list (C.map .int)]}=di:=by have z:=(holds_andW Y).1;rw[L]at z;exact z
  have I:=condW_of z<|w_not<|w_lt w_lit<|w_len_list<|w_arg rfl;rw[IE]at I;refine Nat.le_of_not_lt λq=>?_;have m:(n:Int)<((C.length:Nat):Int):=by omega
  first
   | (rw[decide_eq_true m]at I;exact absurd I ⋯)
   | (simp at I;omega)
 cases J with
 | cons o p=>
  cases p;cases o with
  | list k f=>exact⟨_,_,C,rfl,rfl,k,Jc C _ f,e⟩
theorem cW(l:OpenLaw)(args:List WData):l.row.toRowW.claim.post args (.bool di) args=di:=
 postW_of (r:=l.row.toRowW) (X:=(di==di))
  (show WShape.has [] (.bool di) .bool=di by first | rfl | decide | simp[WShape.has,WShape.arms,WShape.armsAll])
  (show(WTm.eq .res<|.lit<|.bool di).value [] {args:=args,res:=cq (.bool di),after:=args}=cq (.bool<|true==di)from w_eq_bool (w_res rfl) w_lit) rfl
theorem sv{l:OpenLaw}{n:Nat}{q:i8}{O:List Str}{U:(Str->Option ej)->f6->Prop}{YP:hB->f6->Prop}{d:DefRec}
 (hn:l.most=cq n) (a2:d.params.defaults=[])
 (call : ∀(w:hB) (o6 z:eF) (L mb:RJ) (J:eh) (o:ni) (pm I C:ej) (a:eh) (vs:List ej) (S:List Int),
   Ground q O [] U w o6 L mb z.heap->YP w z.heap->
   z.heap.get? J=cq o->o.data = .func (docDef d.name d.params d.body d.scope pm I C)->z.heap.CodeRec I d.name->L d.name=cq (.ref J)->
   z.heap.get? a=cq {cls:= .type "list",data:= .seq vs.toArray}->L4 vs S->S.length<=n->z.gens = #[]->
   codeAny (eP l.prog w) DO (.call (.ref J) ⟨[.ref a],[]⟩) (λr Z=>r = .ok (.ret<|.bool di)/\OldK z.heap Z.heap/\Z.os=z.os/\Dq Z.gens) z) :
 WalkO q O U YP l.row.toRowW d [] (λf vs=>PySem.call f vs):=by
 intro w o6 z L mb G Y J o pm I C s kV E y g e h A b H as i K M j N;obtain rfl:s = .none:=Dflts.none e a2;obtain rfl:kV = .none:=Dflts.noKw e;obtain⟨a,vs,S,rfl,rfl,k,m,p⟩:=cg hn i j;refine enter_call<|Pa (call w o6 z L mb J o pm I C a vs S G Y E (fd_plain y) g h k m p A) λr Z F=>?_;obtain⟨rfl,t,u,x⟩:=F;exact⟨.inl ⟨.bool di,.bool di,[],rfl,λ_=>rfl,.bool di,cW l _,λ_=>⟨MU.nil,λ_ B=>(nomatch B)⟩⟩,t,u,x⟩
end Att
namespace L2
open PySem PySem.Spec PyProof.Rows
theorem vw : ∀{vs:List ej} {C:List Int},L4 vs C->fy (C.map V.int) vs
 | _,_,.nil=> .nil
 | _,_,.cons n t h=> .cons ⟨t,rfl⟩ (vw h)
def Cu(H:Hp):Prop:=∀b,H b=dn\/∃o a,H b=cq (.u0 o<|.lst a)
theorem lI{P:i8}{w:hB}{K:HR}{J mb:RJ}{CX:vl}{k:Nat}{Z a:eh}{fd:r9}{x:Str}{sp:Sp}{I:eF}{vs:List ej}{L:List Int}
 (KX:K.In I.heap) (a3:I.heap.Ns A4 J) (O:I.heap.Ns Sw mb) (a9 : ∀x:Str,x ≠ "__name__"->mb x=B3 x) (ac:I.heap.NoLimit) (hg:I.gens = #[])
 (S:I.heap.get? a=cq {cls:= .type "list",data:= .seq vs.toArray}) (hi:L4 vs L) (hl:L.length<=gm) (hr:oe k DO)
 (F : ∀base:f6,K.In base->base.Ns A4 J->rr P w K J base CX k Z fd [x] sp) (ap : ∀(s:eF) (u:ej),L0 s fd ⟨[u],[]⟩ [(x,u)])
 (ar : ∀H:Hp,Cu H->gB K H a (L.map V.int)->sp [.ref a] H (λv _=>v = .bl di) λ_ _ _=>False)
 (as : ∀H e C,CX [] H I (λ_ _ _=>False) e C->False) :
 codeAny (eP P w) DO (.call (.ref Z) ⟨[.ref a],[]⟩) (λr C=>r = .ok (.ret<|.bool di)/\OldK I.heap C.heap/\C.os=I.os/\Dq C.gens) I:=by
 have E:=vw hi;have G:=hi.length;have p : ∀H:Hp,Cu H->gB K H a (L.map V.int)->m3 P w H I.heap->(∀b,H b≠dn->b=a)->(H a≠dn->K.lookup a=dn)->
  codeAny (eP P w) DO (.call (.ref Z) ⟨[.ref a],[]⟩) (λr C=>r = .ok (.ret<|.bool di)/\OldK I.heap C.heap/\C.os=I.os/\Dq C.gens) I:=by
  intro H B hS j A hK;have f : ∀{b:eh} {o:ni},I.heap.get? b=cq o->H b=dn->(lU I.heap H).get? b=cq o:=λe n=>lT e n;have b8 : ∀{b:eh} {o:ni} {i:Array DictEntry} {U:Nat},I.heap.get? b=cq o->o.data = .dict i U->H b=dn:=λ{b o i U} e d=>by
   cases q:H b with
   | none=>rfl
   | some u=>
    have l:b=a:=A b (by rw[q];simp);subst l;rw[S]at e;cases e;have N:Data.seq vs.toArray _=Data.dict i U:=d;cases N
  have a0 : ∀{b:eh} {m:RJ},I.heap.Ns b m->(lU I.heap H).Ns b m:=λ{b m} ⟨o,i,U,e,d,r⟩=>⟨o,i,U,f e<|b8 e d,d,r⟩;have t:K.In (lU I.heap H):=λb o e=>f (KX b o e) (by
   cases q:H b with
   | none=>rfl
   | some u=>
    have l:b=a:=A b (by rw[q];simp);subst l;rw[hK (by rw[q];simp)]at e;cases e)
  have hM:Mod K J (lU I.heap H):=⟨t,a0 a3,⟨mb,a0 O,a9⟩,let ⟨mc,W,X⟩:=ac;⟨mc,a0 W,X⟩⟩;have Q:C6 P w K J (lU I.heap H) DO [] I H:=⟨rfl,hM,λb o e=>pY e,Nat.le_of_eq<|eQ _ _,trivial,λb O=>absurd (show b∈([]:List eh)from O) ⋯,j,.of_eq hg⟩;refine Pa ((F _ t<|a0 a3).run DO [] I H ⟨[.ref a],[]⟩ [.ref a] [.ref a] _ _ hr Q (ap I<|.ref a) (.cons rfl .nil) (ar H B hS)) λr C h=>?_;cases r with
  | error e=>exact(as H e C h).elim
  | ok T=>
   cases T with
   | next=>exact Mx h
   | brk=>exact Mx h
   | cont=>exact Mx h
   | ret u=>
    obtain⟨v,H',os,g,un,M,r',q⟩:=h;have q':v = .bl di:=q;subst q';obtain rfl:u=Value.bool di:=r';refine⟨rfl,OldK.of_keep λb o e=>?_,os,g⟩;cases q:H b with
    | none=>exact un.keep b o e q (by intro z;exact absurd (show b∈([]:List eh)from z) ⋯) ⋯
    | some u=>
     rcases B b with z | ⟨ob,xs,z⟩
     ·rw[q]at z;cases z
     ·have z2:=un.Dx b ob _ z
      obtain⟨y,_⟩:=j b _ z;obtain⟨R,_⟩:=M b _ z2;rw[e]at y;cases y;exact R
 cases hk:K.lookup a with
 | some o=>
  have e:=KX a o hk;rw[S]at e;cases e;refine p (λ_=>dn) (λ_=> .inl rfl) (.inr ⟨_,vs.toArray,_,hk,rfl,rfl,rfl,by rw[Ik,G];exact hl,by simpa using E⟩) (λb u z=>by have Y:(dn:Option HO)=cq u:=z;cases Y) (λb z=>absurd rfl z) λz=>absurd rfl z
 | none=>
  refine p (λb=>if b=a then cq (.u0 {cls:= .type "list",data:= .seq vs.toArray} (.lst (L.map V.int)))else dn) (λb=>?_) (.inl (.inr ⟨{cls:= .type "list",data:= .seq vs.toArray},RY rfl⟩)) (λb u z=>?_) (λb z=>?_) λ_=>hk
  ·by_cases O:b=a
   ·exact .inr ⟨_,_,RY O⟩
   ·exact .inl<|EQ O
  ·by_cases O:b=a
   ·have Y:=(RY O).symm.trans z
    cases Y;subst O;exact⟨S,by rw[IE];exact hl,vs,_,E,S⟩
   ·have Y:=(EQ O).symm.trans z
    cases Y
  ·by_cases O:b=a
   ·exact O
   ·exact absurd (EQ O) z
abbrev Sq{K:HR}{h:f6}(_:K.In h):HR:=K
theorem nR{l:PySem.W.OpenLaw}{n k:Nat}{q:i8}{U:List Str}{XP:(Str->Option ej)->f6->Prop}{z:hB->f6->Prop}{d:DefRec}{K:Params->HR}{CX:hB->vl}{sp:hB->Sp}{x:Str}
 (hn:l.most=cq n) (a1:n<=gm) (a2:d.params.defaults=[]) (hr:oe k DO)
 (hY : ∀(w:hB) (h:f6),z w h->(K w.params).In h)
 (F : ∀(w:hB) (C:RJ) (J:eh) (h:f6),(K w.params).In h->h.Ns A4 C->C d.name=cq (.ref J)->
   ∃S:r9,(∀(s:eF) (u:ej),L0 s S ⟨[u],[]⟩ [(x,u)])/\
    ∀base:f6,(K w.params).In base->base.Ns A4 C->rr l.prog w (K w.params) C base (CX w) k J S [x] (sp w))
 (a5 : ∀(w:hB) (H:Hp) (a:eh) (L:List Int),L.length<=n->Cu H->gB (K w.params) H a (L.map V.int)->sp w [.ref a] H (λv _=>v = .bl di) λ_ _ _=>False)
 (a6 : ∀(w:hB) (H:Hp) (s:eF) (e:ej) (Z:eF),CX w [] H s (λ_ _ _=>False) e Z->False) :
 PySem.W.WalkO q U XP z l.row.toRowW d [] (λf vs=>PySem.call f vs):=by
 refine Att.sv hn a2 λw j i C X J o pm P t a vs L G Y R Q N m p r I M=>?_;have O:=hY w _ Y;obtain⟨S,E,y⟩:=F w C J _ O G.T.g m;exact lI O G.T.g G.T.b G.T.builtins G.T.nolimit M p r (Lr I a1) hr y E (λH A B=>a5 w H a L I A B) λH e Z=>a6 w H i e Z
theorem Bx{l:PySem.W.OpenLaw}{n k:Nat}{q:i8}{I:List Str}{O:(Str->Option ej)->f6->Prop}{z:hB->f6->Prop}{d:DefRec}{K:Params->HR}{CX:vl}{sp:HR->Sp}{x:Str}
 (hn:l.most=cq n) (U:n<=gm) (Y:d.params.defaults=[]) (hr:oe k DO)
 (hY : ∀(w:hB) (h:f6),z w h->(K w.params).In h)
 (F : ∀(w:hB) (C:RJ) (S:eh) (h:f6),(K w.params).In h->h.Ns A4 C->C d.name=cq (.ref S)->
   ∃Z:r9,(∀(s:eF) (u:ej),L0 s Z ⟨[u],[]⟩ [(x,u)])/\
    ∀base:f6,(K w.params).In base->base.Ns A4 C->rr l.prog w (K w.params) C base CX k S Z [x] (sp<|K w.params))
 (a2 : ∀(K:HR) (H:Hp) (a:eh) (J:List Int),J.length<=n->Cu H->gB K H a (J.map V.int)->sp K [.ref a] H (λv _=>v = .bl di) λ_ _ _=>False)
 (a3 : ∀(H:Hp) (s:eF) (e:ej) (L:eF),CX [] H s (λ_ _ _=>False) e L->False) :
 PySem.W.WalkO q I O z l.row.toRowW d [] (λf vs=>PySem.call f vs):=
 nR (K:=K) (CX:=λ_=>CX) (sp:=λw=>sp<|K w.params) hn U Y hr hY F (λw H a J b g i=>a2 (K w.params) H a J b g i) λ_ H s e L=>a3 H s e L
noncomputable def Jn(s:jn):Arguments:=match s with
 | .FunctionDef _ a _ _ _ _ _ _ _ _=>a
 | _=>{posonlyargs:=[],args:=[],vararg:=dn,kwonlyargs:=[],kw_defaults:=[],kwarg:=dn,defaults:=[]}
noncomputable def kz(s:jn):List jn:=match s with
 | .FunctionDef _ _ b _ _ _ _ _ _ _=>b
 | _=>[]
noncomputable def jz(s:jn):hG:=match s with
 | .FunctionDef _ _ _ _ _ _ a _ _ _=>a
 | _=>{kind:= .function,names:=[],isGenerator:=d7,isCoroutine:=d7}
abbrev sX:vl:=λ_ _ _ _ _ _=>False
abbrev E0:XK:=λ_ _ _=>False
theorem pM:gr sX X E0:=λ_ _ _ _ _ _ _ h=>h.elim
structure DG(K:HR)(x qual:Str)(st:jn)(f:eh)(fd:r9):Prop where
 ex : ∃(oc:ej) (od:Option eh) (kV doc pm:ej) (an:Option eh) (Sx ct:ej) (RN:Array (Option ej)),
  fd=Nx x qual (Jn st) (kz st) (jz st) .none kV doc pm an Sx ct/\K.lookup f=cq ⟨oc,od,.func fd,RN⟩/\OG K Sx qual=di
 kp:Nu K (.ref f)=di
section
variable{P:i8}{w:hB}{K:HR}{mg:RJ}{base:f6}
theorem DG.ok{x qual:Str}{st:jn}{f:eh}{J:r9}{N ps:List Str}{k:Nat}{sp:Sp}(F:DG K x qual st f J)(S:E9 N ps (jz st))(len : ∀vs H Q E,sp vs H Q E->vs.length=ps.length)
 (z : ∀(C:ej) (A:m9) (outer:List o9) (s:eF) (H:Hp) (vs:List V) (Q:VK) (E:XK),oe k (A.deeper<|envOfC qual (jz st) s.heap.objs.size f C)->sp vs H Q E->
   ∃t,p8 (se sX P w K mg base N qual (jz st) f C A outer s H E).G7 (kz st) t/\t {nx:=λ_ H'=>Q .fh H',rt:=Q} (Zz N vs) H):rr P w K mg base sX (k+1) f J ps sp:=by
 obtain⟨g,i,kV,a,j,d,C,e,b,rfl,lk,I⟩:=F.ex;refine EG lk I S len λA outer s H vs Q E O U=>?_;obtain⟨t,h,q⟩:=z C A outer s H vs Q E O U;exact⟨t,h.G7,q⟩
theorem AM{x qual:Str}{st:jn}{f:eh}{S:ej}{Y L:Option eh}{J:Array (Option ej)}{kV I O C ct:ej}(l:K.lookup f=cq ⟨S,Y,.func<|Nx x qual (Jn st) (kz st) (jz st) .none kV I O L C ct,J⟩)
 (c:OG K C qual=di) (k:Nu K (.ref f)=di):DG K x qual st f (Nx x qual (Jn st) (kz st) (jz st) .none kV I O L C ct):=⟨⟨S,Y,kV,I,O,L,C,ct,J,rfl,l,c⟩,k⟩
end
def gv(H H':Hp):Prop:=∀b o,H b=cq o->H' b=cq o
theorem gv.refl(H:Hp):gv H H:=λ_ _ h=>h
theorem gv.trans(a:gv H H1)(b:gv H1 H2):gv H H2:=λc o h=>b c o<|a c o h
theorem gv.free(e:gv H H')(h:H' l=Option.none):H l=Option.none:=by
 cases q:H l with
 | none=>rfl
 | some o=>
  rw[e l o q]at h;cases h
theorem gv.seq{K:HR}{H H':Hp}{a:eh}{xs:List V}(e:gv H H')(h:gB K H a xs):gB K H' a xs:=by
 rcases h with(h | ⟨o,h⟩) | h
 ·exact .inl<|.inl<|e _ _ h
 ·exact .inl<|.inr ⟨o,e _ _ h⟩
 ·exact .inr h
noncomputable def X8(cells:List (Str×eh)):List (Str×yg)->List (Str×eh)->List (Str×eh)
 | [],acc=>acc
 | (n,k)::r,acc=>X8 cells r<|if k==IV then (match cells.lookup n with | some c=>(n,c)::acc | none=>acc)else acc
theorem yE(f:Str×yg->List (Str×eh)->Sem (ForInStep<|List<|Str×eh))
 (I : ∀name kind O,f (name,kind) O=if kind==IV then (do let a <- cellOf env name;pure (.yield ((name,a)::O)))else pure (.yield O)) :
 ∀(names:List (Str×yg)) (acc:List (Str×eh)),(∀n,(n,IV)∈names->∃c,env.cells.lookup n=cq c)->
  forIn names acc f=(pure (X8 env.cells names acc):Sem _)
 | [],acc,_=>by rw[Of];rfl
 | (n,k)::r,acc,h=>by
  rw[NU,I];have U : ∀n,(n,IV)∈r->∃c,env.cells.lookup n=cq c:=λm d=>h m<|Im _ d;unfold X8;by_cases z:(k==IV)=di
  ·rw[RY z,RY z]
   have b:k=IV:=by simpa using z
   subst b;obtain⟨c,Y⟩:=h n Iy;have e:cellOf env n=pure c:=by unfold cellOf;rw[Y]
   rw[e,Y];exact yE f I r _ U
  ·rw[EQ z,EQ z]
   exact yE f I r acc U
theorem XS(h : ∀n,(n,IV)∈scope.names->∃c,env.cells.lookup n=cq c) :
 closureFor scope env=pure (X8 env.cells scope.names []):=by
 simp only[closureFor];rw[yE (env:=env) _ (λb a z=>by cases hk:a==IV<;>simp[hk]) scope.names [] h];rfl
theorem kn
 (z:Q {scope:=scope,locals:=s.heap.objs.size,globals:=globals,cells:=uw (s.heap.objs.size+1) scope.names cl,qual:=qual,func:=dn,code:=env.code,frame:=env.frame,builtins:=env.builtins}
   {s with heap:=Dy (s.heap.push {cls:= .type "dict",data:= .dict #[]}) scope.names}) :
 wpAny M A (SR scope globals cl [] qual dn .none (cq env)) Q E s:=by
 simp only[SR,Option.isSome_some,if_true];refine HS (wpAny_alloc ?_);refine HS (wpAny_layCells _ (λb a cells=>by cases TM:a==My<;>simp[TM]) _ _ _ _ ?_);rw[show({s with heap:=s.heap.push {cls:= .type "dict",data:= .dict #[]}}:eF).heap.objs.size=s.heap.objs.size+1 from IU ..];exact HS (Ie (Ie z))
theorem Wo : ∀{names:List (Str×yg)} {acc:List (Str×eh)},(n,c)∈X8 cells names acc->(n,c)∈acc\/((n,IV)∈names/\cells.lookup n=cq c)
 | [],acc,h=> .inl h
 | (m,k)::r,acc,h=>by
  unfold X8 at h;rcases Wo h with g | ⟨h1,h2⟩
  ·clear h
   by_cases z:(k==IV)=di
   ·rw[RY z]at g
    have I:k=IV:=by simpa using z
    subst I;cases e:cells.lookup m with
    | none=>rw[e]at g;exact .inl g
    | some O=>
     rw[e]at g;rcases Il.mp g with g | g
     ·cases g;exact .inr ⟨Iy,e⟩
     ·exact .inl g
   ·rw[EQ z]at g;exact .inl g
  ·exact .inr ⟨Im _ h1,h2⟩
theorem ZU : ∀{names:List (Str×yg)} {acc:List (Str×eh)},((acc.lookup n).isSome=di\/((n,IV)∈names/\(cells.lookup n).isSome=di))->((X8 cells names acc).lookup n).isSome=di
 | [],acc,h=>by
  rcases h with h | ⟨h,_⟩
  ·exact h
  ·cases h
 | (m,k)::r,acc,h=>by
  unfold X8;apply ZU;by_cases z:(k==IV)=di
  ·rw[RY z]
   have O:k=IV:=by simpa using z
   subst O;cases e:cells.lookup m with
   | none=>
    rcases h with h | ⟨h1,h2⟩
    ·exact .inl h
    ·rcases Il.mp h1 with h1 | h1
     ·cases h1;rw[e]at h2;cases h2
     ·exact .inr ⟨h1,h2⟩
   | some U=>
    dsimp only;by_cases I:n=m
    ·subst I;left;simp
    ·rcases h with h | ⟨h1,h2⟩
     ·left;rw[LC];split<;>simp_all
     ·rcases Il.mp h1 with h1 | h1
      ·cases h1;exact absurd rfl I
      ·exact .inr ⟨h1,h2⟩
  ·rw[EQ z]
   rcases h with h | ⟨h1,h2⟩
   ·exact .inl h
   ·rcases Il.mp h1 with h1 | h1
    ·cases h1;exact absurd rfl z
    ·exact .inr ⟨h1,h2⟩
theorem xH : ∀{names:List (Str×yg)} {k:Nat} {acc:List (Str×eh)},(n,c)∈uw k names acc->(n,c)∈acc\/(k<=c/\(n,My)∈names)
 | [],_,_,h=> .inl h
 | (m,kd)::r,k,acc,h=>by
  unfold uw at h;split at h
  ·rename_i z
   have I:kd=My:=by simpa using z
   subst I;rcases xH h with h | ⟨h1,h2⟩
   ·rcases Il.mp h with h | h
    ·cases h;exact .inr ⟨Ic _,Iy⟩
    ·exact .inl h
   ·exact .inr ⟨by omega,Im _ h2⟩
  ·rcases xH h with h | ⟨h1,h2⟩
   ·exact .inl h
   ·exact .inr ⟨h1,Im _ h2⟩
theorem k6 : ∀{names:List (Str×yg)} {k:Nat} {acc:List (Str×eh)},(∀p∈acc,∀q∈acc,p.2=q.2->p.1=q.1)->(∀p∈acc,p.2<k)->
 ∀p∈uw k names acc,∀q∈uw k names acc,p.2=q.2->p.1=q.1
 | [],_,_,h,_=>h
 | (m,kd)::r,k,acc,h,hl=>by
  unfold uw;split
  ·refine k6 (λp z q I e=>?_) (λp z=>?_)
   ·rcases Il.mp z with rfl | z<;>rcases Il.mp I with rfl | I
    ·rfl
    ·have O:k=q.2:=e
     exact absurd (O ▸ hl q I)<|Lq _
    ·have O:p.2=k:=e
     exact absurd (O ▸ hl p z)<|Lq _
    ·exact h p z q I e
   ·rcases Il.mp z with rfl | z
    ·exact LW _
    ·exact Lo<|hl p z
  ·exact k6 h hl
theorem Jp : ∀{names:List (Str×yg)} {h:f6} {acc:List (Str×eh)} {n:Str} {c:eh},(n,c)∈uw h.objs.size names acc->(n,c)∈acc\/(Dy h names).IsCell c dn
 | [],_,_,_,_,hm=> .inl hm
 | (m,kd)::r,h,acc,n,c,hm=>by
  unfold uw at hm;unfold Dy;split at hm
  ·rename_i z
   rw[RY z];have e:h.objs.size+1=(h.push {cls:= .type "cell",data:= .cell dn}).objs.size:=(IU ..).symm;rw[e]at hm;rcases Jp hm with hm | hm
   ·rcases Il.mp hm with hm | hm
    ·cases hm
     have I:(h.push {cls:= .type "cell",data:= .cell dn}).IsCell h.objs.size dn:=⟨{cls:= .type "cell",data:= .cell dn},Iq _ rfl,rfl⟩;exact .inr (I.keeps λb o q=>Oh _ _ b o q)
    ·exact .inl hm
   ·exact .inr hm
  ·rename_i z
   rw[EQ z];exact Jp hm
theorem yU{J:Type}{l:List (Str×J)}(C:(l.map (·.1)).Nodup) : ∀{n:Str} {a:J},(n,a)∈l->l.lookup n=cq a:=by
 induction l with
 | nil=>intro n a h;cases h
 | cons p r z=>
  intro n a h;obtain⟨m,b⟩:=p;rw[IQ,LO]at C;rw[LC];rcases Il.mp h with h | h
  ·cases h;simp
  ·have I:(n==m)=d7:=by
    have:n≠m:=λe=>C.1 (by rw[<- e];exact IB.mpr ⟨(n,a),h,rfl⟩);simpa using this
   rw[I];exact z C.2 h
theorem y9(scope:hG)(env:o9)(x:Str):(A6 scope env).names.lookup x =
 (scope.names.lookup x).map λk=>if (k==IV && env.scope.kind == .function && env.kindOf x==cq .cell)then My else k:=by
 unfold A6;dsimp only;generalize scope.names=l
 induction l with
 | nil=>rfl
 | cons p r I=>
  obtain⟨n,k⟩:=p;rw[IQ];cases hx:x==n with
  | true=>
   have e:x=n:=by simpa using hx
   subst e;rw[LC,LC];dsimp only;by_cases z:(k==IV && env.scope.kind == .function && env.kindOf x==cq .cell)=di
   ·rw[RY z,beq_self_eq_true];dsimp only[L5];rw[RY z]
   ·rw[EQ z,beq_self_eq_true];dsimp only[L5];rw[EQ z]
  | false=>
   have : ∀O,List.lookup x ((n,O)::(r.map λx=>match x with | (n,k)=>if (k==IV && env.scope.kind == .function && env.kindOf n==cq .cell)=di then (n,My)else (n,k)))=List.lookup x (r.map λx=>match x with | (n,k)=>if (k==IV && env.scope.kind == .function && env.kindOf n==cq .cell)=di then (n,My)else (n,k)):=λO=>by rw[LC,hx]
   rw[LC (k:=n),hx];dsimp only;split
   ·rw[this];exact I
   ·rw[this];exact I
noncomputable def vO(scope:hG)(env:o9)(L:eh):o9:=
 {scope:=A6 scope env,locals:=L,globals:=env.globals,cells:=uw (L+1) scope.names<|X8 env.cells scope.names [],qual:=env.qual,func:=dn,code:=env.code,frame:=env.frame,builtins:=env.builtins}
noncomputable def jw(X:Cx)(scope:hG)(J:List Str)(fp:List eh)(C:eF)(I:Hp):Cx:=
 {X with N:=J,o6:=C,FG:=I,env:=vO scope X.env<|C.heap.objs.size+1,outer:=X.stack,stack:=X.stack,ex:=fp,fn:=λx=>scope.names.lookup x==cq .cell,pn:=[],xe:=λ_ _=>False}
structure t9(X:Cx)(scope:hG)(fr:List (Str×Nat)):Prop where
 kind:scope.kind = .function
 nd:(scope.names.map (·.1)).Nodup
 free : ∀p∈scope.names,p.2=IV->X.env.kindOf p.1=cq .cell\/X.env.kindOf p.1=cq .free
 fr : ∀p∈fr,scope.names.lookup p.1=cq .free/\X.N[p.2]? = cq p.1
noncomputable def iA(own:List Str)(C:List (Str×Nat))(I:St):St:=own.map (λ_=>dn)++C.map λp=>(I[p.2]?).join
abbrev Y8:ni:={cls:= .type "list",data:= .seq #[]}
abbrev nK:ni:={cls:= .type "dict",data:= .dict #[]}
theorem lQ{X:Cx}{L:RW}{Z:St}{S:Hp}{C:eF}{scope:hG}{own:List Str}{J:List (Str×Nat)}{fp:List eh}(I:Inv X L Z S C)(ok:t9 X scope J)
 (a3 : ∀b∈fp,wI X L S b) (b0 : ∀b∈fp,∃o,C.heap.get? b=cq o) :
 Inv (jw X scope (own++J.map (·.1)) fp C S) [] (iA own J Z) (upd S C.heap.objs.size<|.lst []) {C with heap:=Dy ((C.heap.push Y8).push nK) scope.names}:=by
 have M:(C.heap.push Y8).objs.size=C.heap.objs.size+1:=IU ..;have z2:((C.heap.push Y8).push nK).objs.size=C.heap.objs.size+2:=by rw[IU,M]
 have Y : ∀n c,(n,c)∈X8 X.env.cells scope.names []->(n,IV)∈scope.names/\X.env.cells.lookup n=cq c:=λn c h=>(Wo h).resolve_left ⋯;have ac : ∀n c,X.env.cells.lookup n=cq c->c<C.heap.objs.size:=λn c h=>by obtain⟨v,q⟩:=I.cell n c h;exact q.lt
 have N : ∀p∈X8 X.env.cells scope.names [],p.2<C.heap.objs.size+1+1:=λp U=>by exact Lo<|Lo<|ac p.1 p.2 (Y p.1 p.2 U).2
 have hC:(vO scope X.env<|C.heap.objs.size+1).cells=uw (C.heap.objs.size+2) scope.names (X8 X.env.cells scope.names []):=rfl;have a : ∀x c,(vO scope X.env<|C.heap.objs.size+1).cells.lookup x=cq c->((x,IV)∈scope.names/\X.env.cells.lookup x=cq c)\/(C.heap.objs.size+2<=c/\(x,My)∈scope.names):=λx c h=>by
  rcases xH (mem_of_lookup h)with h | h
  ·exact .inl<|Y x c h
  ·exact .inr h
 have E : ∀x,(x,IV)∈scope.names->∃c,X.env.cells.lookup x=cq c/\(vO scope X.env<|C.heap.objs.size+1).cells.lookup x=cq c:=λx r=>by
  obtain⟨c,f⟩:=I.ok.has x<|ok.free (x,.free) r rfl;have w:((X8 X.env.cells scope.names []).lookup x).isSome=di:=ZU<|.inr ⟨r,by rw[f];rfl⟩;have l:=Nl scope.names (C.heap.objs.size+2) (X8 X.env.cells scope.names [])<|.inr w;obtain⟨H,F⟩:=Mg.mp l;refine⟨c,f,?_⟩;rcases a x H F with⟨_,q⟩ | ⟨_,q⟩
  ·rw[f]at q;cases q;exact F
  ·exact absurd ((yU ok.nd q).symm.trans (yU ok.nd r)) ⋯
 have keep : ∀b o,C.heap.get? b=cq o->(Dy ((C.heap.push Y8).push nK) scope.names).get? b=cq o:=λb o e=>
  Oh _ _ b o (HV _<|HV _ e)
 have ar : ∀b∈fp,b<C.heap.objs.size:=λb O=>by obtain⟨o,e⟩:=b0 b O;exact Ip e
 have fresh:S C.heap.objs.size=dn:=I.f9.fresh<|Ic _;have as : ∀c,C.heap.objs.size<c->(upd S C.heap.objs.size<|.lst []) c=dn:=λc f=>by rw[zD (LY f)];exact I.f9.fresh<|OQ f
 obtain⟨m0,P⟩ : ∃m,(Dy ((C.heap.push Y8).push nK) scope.names).Ns (C.heap.objs.size+1) m:=by have q:=(Heap.Ns.new (C.heap.push Y8) (.type "dict")).keeps (λb o e=>Oh scope.names _ b o e);rw[M]at q;exact⟨_,q⟩
 refine⟨⟨I.ok.mod,ok.kind,I.ok.glob,I.ok.blt,NY _,λx y c w l=>?_,λx r=>?_,λx c hf h=>?_,I.ok.hd,I.ok.frames,.inl rfl,λb O=>⟨?_,λx c h z=>?_⟩,λb o e=>I.bs b o e,?_,λb o e O=>?_,λb O hs=>?_,I.stack,I.S2⟩,
  rfl,I.bare,Un.laid keep (Ic _) fresh,⟨m0,P,λi x v K d e3=>?_⟩,λx c h=>?_,?_,λx c h=>?_,λp U=>?_,?_,?_⟩
 ·have q:=k6 (names:=scope.names) (k:=C.heap.objs.size+2) (acc:=X8 X.env.cells scope.names []) (λp U q hq e=>I.ok.inj p.1 q.1 p.2 (Y _ _ U).2 (by rw[e];exact(Y _ _ hq).2)) N
  exact q (x,c) (mem_of_lookup w) (y,c) (mem_of_lookup l) rfl
 ·have g:(A6 scope X.env).names.lookup x=cq .cell\/(A6 scope X.env).names.lookup x=cq .free:=r
  have:scope.names.lookup x=cq .cell\/scope.names.lookup x=cq .free:=by
   rw[y9]at g;cases e:scope.names.lookup x with
   | none=>rw[e]at g;simp at g
   | some k=>
    rw[e]at g;cases k<;>simp at g ⊢
  rcases this with h | h
  ·exact Mg.mp<|Nl scope.names _ _<|.inl h
  ·obtain⟨c,_,l⟩:=E x<|mem_of_lookup h;exact⟨c,l⟩
 ·have Q:(scope.names.lookup x==cq .cell)=di:=hf
  have R:scope.names.lookup x=cq .cell:=by simpa using Q
  rcases a x c h with⟨q,_⟩ | ⟨q,_⟩
  ·exact absurd ((yU ok.nd q).symm.trans R) ⋯
  ·exact Lr (IM _ 2) q
 ·exact IJ<|Lo<|ar b O
 ·rcases a x c h with⟨_,q⟩ | ⟨q,_⟩
  ·exact(a3 b O).2.2.2.2.1 x c q z
  ·exact absurd (IC (ar b O)<|Lr (IM _ 2)<|z ▸ q)<|Lq _
 ·exact Lr I.ok.B4 I.sz
 ·rcases (a3 b O).2.2.2.1 with q | q
  ·exact I.ok.G6 b o e q
  ·exact absurd (IC (Ip e)<|Lr I.ok.B4 q)<|Lq _
 ·rcases Il.mp (I.R7 b hs)with q | q
  ·exact(a3 b O).2.1 q
  ·exact(a3 b O).2.2.1 q
 ·have hi:i<(own++J.map (·.1)).length:=(Io.mp K).1
  by_cases t:i<own.length
  ·unfold iA at d
   rw[Lz (by simpa using t)]at d;simp[Le,t]at d
  ·have hj : ∃p,J[i - own.length]? = cq p/\p.1=x/\(Z[p.2]?).join=cq v:=by
    unfold iA at d;have j:(own++J.map (·.1))[i]? = cq x:=K;rw[Lg ⋯,Le]at j;rw[Lg (by simpa using t),Le,IE]at d;cases q:J[i - own.length]? with
    | none=>rw[q]at j;cases j
    | some p=>
     rw[q]at j d;exact⟨p,rfl,by simpa using j,by simpa using d⟩
   obtain⟨p,U,T,s⟩:=hj;obtain⟨g1,g2⟩:=ok.fr p<|IY U;rw[T]at g1 g2;have A:Z[p.2]? = cq (cq v):=by
    cases q:Z[p.2]? with
    | none=>rw[q]at s;cases s
    | some o=>rw[q]at s;simpa using s
   have G:=ok.free (x,.free) (mem_of_lookup g1) rfl;obtain⟨m,hn,hl⟩:=I.loc;obtain⟨u,ru,lk⟩:=hl p.2 x v g2 A (by rcases G with k | k;exact .inr<|.inl k;exact .inr<|.inr k);refine⟨u,ru,.inr ?_⟩;obtain⟨c,W,c0⟩:=E x<|mem_of_lookup g1;have c1:C.heap.IsCell c (cq u):=by
    rcases lk with⟨k,_⟩ | ⟨_,H,e,z⟩
    ·rcases G with k' | k'<;>rw[k]at k'<;>cases k'
    ·rw[W]at e;cases e;exact z
   refine⟨?_,c,c0,c1.keeps keep⟩;show(A6 scope X.env).names.lookup x=cq .cell\/(A6 scope X.env).names.lookup x=cq .free;rw[y9,g1];dsimp only[L5];split
   ·exact .inl rfl
   ·exact .inr rfl
 ·rcases xH (mem_of_lookup h)with q | q
  ·obtain⟨v,B⟩:=I.cell x c (Y x c q).2
   exact⟨v,B.keeps keep⟩
  ·have q2:=mem_of_lookup h
   have q3:(x,c)∈uw ((C.heap.push Y8).push nK).objs.size scope.names (X8 X.env.cells scope.names []):=by rw[z2];exact q2
   rcases Jp q3 with q4 | q4
   ·obtain⟨v,B⟩:=I.cell x c (Y x c q4).2
    exact⟨v,B.keeps keep⟩
   ·exact⟨dn,q4⟩
 ·exact as _<|LW _
 ·rcases a x c h with⟨_,q⟩ | ⟨q,_⟩
  ·rw[zD (IJ<|ac x c q)];exact I.A1 x c q
  ·exact as c<|IC (Lo<|LW _) q
 ·exact absurd (show p∈([]:RW)from U) ⋯
 ·refine I.f9.laid keep (Ic _) ⟨Lp _,[],0,.nil,?_⟩
  exact Oh _ _ _ _<|HV _<|Iq _ rfl
 ·show(iA own J Z).length=(own++J.map (·.1)).length
  simp[iA]
theorem yY(I:Nat->eF->Prop)
 (J : ∀n s,I n s->wpAny (eP prog w) A (Dz it) (λr z=>match r with
   | none=>R (.ok .next) z
   | some v=>wpAny (eP prog w) A (M6 target it v) (λ_ z=>wpAny (eP prog w) A (xb target env v) (λ_ U=>
    wpAny (eP prog w) A (forIn ifs di λc r=>if r=di then do let ok <- DR c env (eB c env);pure (P4 ok)else pure (P4 r)) (λok O=>
     if ok=di then wpAny (eP prog w) A (eB elt env) (λx Y=>
      wpAny (eP prog w) A (call (.builtin "list.append") [acc,x]) (λ_ C=>∃m,m<n/\I m C) (λ_ _=>False) Y) (λ_ _=>False) O
     else ∃m,m<n/\I m O) (λ_ _=>False) U) (λ_ _=>False) z) (λ_ _=>False) z) (λ_ _=>False) s)
 (n:Nat) (h:I n s) :
 codeAny (eP prog w) A (.compLoop (.ListComp elt [⟨target,iter,ifs,0⟩] scope pos) 0 it acc env) R s:=by
 refine codeAny_loop rfl I (λn s j=>?_) n h;show wpAny _ A ((compTurn (.ListComp elt [⟨target,iter,ifs,0⟩] scope pos) 0 it acc env).onRaise (λx=>do noteFrame x env;theTreesLotGoes x)) _ _ s;refine wpAny_noted ?_;rw[compTurn_list];refine HS<|PF<|HS<|Mq (J n s j) (λr z b=>?_) λ_ _ a=>a.elim;cases r with
 | none=>exact Ie b
 | some v=>
  refine HS<|Mq b (λ_ k i=>?_) λ_ _ a=>a.elim;refine HS<|Mq i (λ_ U e=>HS<|Mq e (λok O d=>?_) λ_ _ a=>a.elim) λ_ _ a=>a.elim;cases ok with
  | false=>exact Ie ⟨rfl,d⟩
  | true=>
   exact HS<|HS<|Mq d (λx Y f=>HS<|Mq f (λ_ C g=>Ie<|Ie ⟨rfl,g⟩) λ_ _ a=>a.elim) λ_ _ a=>a.elim
noncomputable def sS(X:Cx)(C:List eA)(t:TT):Prop:=
 ∀(a:RW) (s:eF) (b:St) (H:Hp) (Q:Bool->Hp->Prop),Inv X a b H s->t b H Q->
  wpAny (eP X.prog X.w) X.A (forIn C di λc r=>if r=di then do let ok <- DR c X.env (eB c X.env);pure (P4 ok)else pure (P4 r)) (TP X a b Q) X.xe s
def CD:TT:=λ_ H Q=>Q di H
theorem Xt:sS X [] CD:=λ_ _ _ H _ I h=>wpAny_tests_nil ⟨H,I,h⟩
theorem We(h:PT X c t):sS X [c] t:=λa s b H Q I z=>wpAny_tests_one<|h a s b H Q I z
noncomputable def CW(J:It)(g:TG)(C:TT)(te:TE)(D:eh)(Q:VK)(W:Nat->Nat->List V->St->Hp->Prop):Prop:=
 ∀i m a f H,W i m a f H->H D=cq (.lst a)/\((J.stop i H/\Q (.ref D) H)\/(J.go i H/\a.length<gm/\∀x e,J.C3 i H x e->g x f e λz h=>C z h λb I=>
  if b=di then te z I λv O=>O D=cq (.lst a)/\∃d,d<m/\W (i+1) d (a++[v]) z (upd O D<|.lst<|a++[v])else ∃d,d<m/\W (i+1) d a z I))
noncomputable def mK(X:Cx)(C:RW)(H:Hp)(L:eh):Prop:=
 H L=dn/\L≠X.env.locals/\X.o6.heap.objs.size<=L/\(∀x c,X.env.cells.lookup x=cq c->c≠L)/\∀p∈X.pn++C,p.1≠L
theorem mx
 (hc:X.calm=di) (I:Inv X pins σ H2 s2) (ok:t9 X scope fr) (T:Turn X.prog X.w X.K tg J fp it tn) (st:tn 0 s2.heap) (Y : ∀b∈fp,wI X pins H2 b)
 (hg:PG (jw X scope (own++fr.map (·.1)) fp s2 H2) tg g) (ht:sS (jw X scope (own++fr.map (·.1)) fp s2 H2) ifs tt) (he:PE (jw X scope (own++fr.map (·.1)) fp s2 H2) elt te)
 (hW : ∀D,H2 D=dn->∃W:Nat->Nat->List V->St->Hp->Prop,(∃m,W 0 m [] (iA own fr σ) (upd H2 D<|.lst []))/\CW J g tt te D Q W) :
 wpAny (eP X.prog X.w) X.A (newList []) (λacc L=>wpAny (eP X.prog X.w) X.A (SR scope X.env.globals (X8 X.env.cells scope.names []) [] X.env.qual dn .none (cq X.env)) (λac S=>
  codeAny (eP X.prog X.w) X.A (.compStart (.ListComp elt [⟨tg,iter,ifs,0⟩] scope pos) 0 (.ref it) acc {ac with scope:=A6 scope X.env})
   (λr C=>(∃f,r = .ok f)/\∃D H',acc = .ref D/\Inv X pins σ H' C/\Q (.ref D) H'/\(∃m,C.heap.Ns ac.locals m)/\mK X pins H' ac.locals) S) E L) E s2:=by
 have b8 : ∀b∈fp,∃o,s2.heap.get? b=cq o:=λb O=>by obtain⟨o,e,_⟩:=T.obj 0 _ st b O;exact⟨o,e⟩
 have N:=lQ (own:=own) I ok Y b8;obtain⟨W,⟨m0,w0⟩,cw⟩:=hW _ I.fresh;refine LR<|kn ?_;have z1:(s2.heap.push Y8).objs.size=s2.heap.objs.size+1:=IU ..;show codeAny _ _ (.compStart _ 0 (.ref it) (.ref s2.heap.objs.size) {scope:=A6 scope X.env,locals:=(s2.heap.push Y8).objs.size,globals:=X.env.globals,cells:=uw ((s2.heap.push Y8).objs.size+1) scope.names<|X8 X.env.cells scope.names [],qual:=X.env.qual,func:=dn,code:=X.env.code,frame:=X.env.frame,builtins:=X.env.builtins})
  (λr C=>(∃f,r = .ok f)/\∃D H',LX s2.heap.objs.size = .ref D/\Inv X pins σ H' C/\Q (.ref D) H'/\(∃m,C.heap.Ns (s2.heap.push Y8).objs.size m)/\mK X pins H' (s2.heap.push Y8).objs.size) {s2 with heap:=Dy ((s2.heap.push Y8).push nK) scope.names}
 rw[z1];have b9:tn 0 (Dy ((s2.heap.push Y8).push nK) scope.names):=T.keep 0 _ _ st λb _ o e=>Oh _ _ b o<|HV _<|HV _ e;have c8 : ∀b∈fp,b<s2.heap.objs.size:=λb O=>by obtain⟨o,e⟩:=b8 b O;exact Ip e
 have am : ∀{H':Hp},(∀b∈fp,H' b=dn)->∀b∈fp,wI (jw X scope (own++fr.map (·.1)) fp s2 H2) [] H' b:=λhn b O=>
  ⟨hn b O,(N.ok.M0 b O).1,N.ok.Gx b O,.inl O,(N.ok.M0 b O).2,λp hp=>absurd (show p∈([]:RW)from hp) ⋯⟩
 have bb:codeAny (eP X.prog X.w) X.A (.compLoop (.ListComp elt [⟨tg,iter,ifs,0⟩] scope pos) 0 (.ref it) (.ref s2.heap.objs.size)<|vO scope X.env<|s2.heap.objs.size+1)
  (λr C=>(∃f,r = .ok f)/\∃D H',LX s2.heap.objs.size = .ref D/\Inv X pins σ H' C/\Q (.ref D) H'/\(∃m,C.heap.Ns (s2.heap.objs.size+1) m)/\mK X pins H' (s2.heap.objs.size+1)) {s2 with heap:=Dy ((s2.heap.push Y8).push nK) scope.names}:=by
  refine yY (λn C=>∃i y B H',Inv (jw X scope (own++fr.map (·.1)) fp s2 H2) [] B H' C/\tn i C.heap/\(∀b∈fp,H' b=dn)/\W i n y B H') ?_ m0
   ⟨0,[],_,_,N,b9,λb O=>by rw[zD (IJ<|c8 b O)];exact(Y b O).1,w0⟩
  rintro n s3 ⟨i,y,a,H,I3,s,bf,w3⟩;obtain⟨hD,ca⟩:=cw i n y a H w3;rcases ca with⟨t,qn⟩ | ⟨go,hz,step⟩
  ·refine ft (T.done (jw X scope (own++fr.map (·.1)) fp s2 H2) rfl rfl rfl hc i [] s3 a H _ I3 (am bf) s t) λr s4 U=>?_
   obtain⟨hr,j⟩:=U;subst hr;refine⟨⟨_,rfl⟩,_,H,rfl,I.Tv (ch:=fp) j.os j.base j.f9 j.bare<|λb O=>⟨(Y b O).2.2.2.1,(Y b O).2.1,(Y b O).2.2.2.2.1,(Y b O).2.2.2.2.2⟩,qn,?_,j.free,?_,?_,?_,?_⟩
   ·obtain⟨m,hn,_⟩:=j.loc
    exact⟨m,hn⟩
   ·exact LY<|Lo I.lt
   ·exact Oq I.sz
   ·intro x c e z
    obtain⟨v,q⟩:=I.cell x c e;exact absurd (Lo q.lt) (by rw[z];exact Lq _)
   ·intro p hp z
    exact absurd (Lo<|Ip (I.pin p hp).1) (by rw[z];exact Lq _)
  ·refine ft (T.item (jw X scope (own++fr.map (·.1)) fp s2 H2) rfl rfl rfl hc i [] s3 a H _ I3 (am bf) s go) λr s4 U=>?_
   obtain⟨u,hr,h4⟩:=U;subst hr;refine ft h4 λ_ s5 U=>?_;obtain⟨x,H5,I5,r5,y5,ar,cm⟩:=U;have co:=I5.pinned (am cm)<|T.obj _ _ ar;refine ft (hg _ s5 a H5 x u _ co r5<|step x H5 y5) λ_ s6 U=>?_;obtain⟨h,H6,I6,q6⟩:=U;refine ft (ht _ s6 h H6 _ I6 q6) λb s7 U=>?_;obtain⟨H7,P,R⟩:=U;have after : ∀{G:St} {M:Hp} {l:eF},Inv (jw X scope (own++fr.map (·.1)) fp s2 H2) ([]++KL fp s5.heap) G M l->tn (i+1) l.heap/\∀b∈fp,M b=dn:=λ{G M l} k=>by refine⟨T.keep _ _ _ ar λb O o e=>(k.pin (b,o)<|IF _<|IF _<|yT O e).1,λb O=>?_⟩;obtain⟨o,e,d⟩:=T.obj _ _ ar b O;exact(k.pin (b,o)<|IF _<|IF _<|yT O e).2.1
   cases b with
   | false=>
    rw[EQ II]at R ⊢;obtain⟨m',hm,w7⟩:=R;exact⟨m',hm,i+1,y,h,H7,P.I9,(after P).1,(after P).2,w7⟩
   | true=>
    rw[RY rfl]at R ⊢;refine ft (he _ s7 h H7 _ P R) λv8 l U=>?_;obtain⟨x8,M,k,r8,bn,m',hm,w8⟩:=U;obtain⟨z8,br,n8,rv,d5,e8⟩:=k.DT bn;refine Nt F.slot_list_append ⟨_,e8,rfl⟩ F.entry_list_append (F.args_list_append_2 _ _) (PySem.list_append _ br.toArray n8 v8<|by rw[Ik];omega) ⟨e8,?_⟩;have Z:=k.RF (its':=br++[v8]) (f:=(·.push v8)) (t':=l.toks) bn e8 ⋯ (rv.append<|.cons r8 .nil) (by rw[LG,MO];omega);exact⟨m',hm,i+1,y++[x8],h,_,Z.I9,(after Z).1,(after Z).2,w8⟩
 exact codeAny_compStart_list bb<|T.self _ 0 _ _ _ b9 bb
noncomputable def bR(L:TI)(own:List Str)(C:List (Str×Nat))(g:TG)(I:TT)(te:TE):TE:=λb H Q=>L b H λJ a=>∀D,a D=dn->
 ∃W:Nat->Nat->List V->St->Hp->Prop,(∃m,W 0 m [] (iA own C b) (upd a D<|.lst []))/\CW J g I te D Q W
section
variable{X:Cx}{scope:hG}{own:List Str}{fr:List (Str×Nat)}{elt tg iter:eA}{ifs:List eA}{pos:gu}{wi:TI}{g:TG}{tt:TT}{te:TE}
theorem WN
 (z:X.calm=di) (ok:t9 X scope fr) (hi:PI X tg iter wi) (O : ∀fp S C,PG (jw X scope (own++fr.map (·.1)) fp S C) tg g)
 (U : ∀fp S C,sS (jw X scope (own++fr.map (·.1)) fp S C) ifs tt) (Y : ∀fp S C,PE (jw X scope (own++fr.map (·.1)) fp S C) elt te)
 (I:Inv X pins σ H s) (h:bR wi own fr g tt te σ H Q)
 (hR : ∀D H' Z L,Inv X pins σ H' Z->Q (.ref D) H'->(∃m,Z.heap.Ns L m)->mK X pins H' L->
   compPost (eP X.prog X.w) X.A X.xe use R (.ref D) L (.ok .next) Z)
 (hs : ∀x,rn iter X.env x=pure x:=by intro _;rfl) :
 wpAny (eP X.prog X.w) X.A (comprehension (.ListComp elt [⟨tg,iter,ifs,0⟩] scope pos) scope X.env (firstIterPos [⟨tg,iter,ifs,0⟩] pos) (newList []) d7 (eB iter X.env) use) R X.xe s:=by
 refine wpAny_comprehension_free rfl hs (XS λn a=>I.ok.has n<|ok.free (n,.free) a rfl) ok.kind (λx G e=>by rw[<- e];exact yU ok.nd<|show(x.1,x.2)∈scope.names from G) ?_;refine ft (hi pins s σ H _ I h) λv P l=>ft l λM S o=>?_;obtain⟨N,fp,tn,J,C,e,d,T,i,f2,B⟩:=o;subst e;refine ft (mx (own:=own) (Q:=Q) (E:=X.xe) z d ok T i f2 (O fp S C) (U fp S C) (Y fp S C) B) λacc W p=>ft p λj s4 t=>Pa t λr Z u=>?_;obtain⟨⟨f,F⟩,D,H',k,b,q,a,y⟩:=u;subst F;subst k;have K:=hR D H' Z j.locals b q a y;cases use<;>exact K
theorem YY(z:X.calm=di)(ok:t9 X scope fr)(S:PI X tg iter wi)(O : ∀fp J C,PG (jw X scope (own++fr.map (·.1)) fp J C) tg g)
 (U : ∀fp J C,sS (jw X scope (own++fr.map (·.1)) fp J C) ifs tt) (Y : ∀fp J C,PE (jw X scope (own++fr.map (·.1)) fp J C) elt te)
 (Z : ∀x,rn iter X.env x=pure x:=by intro _;rfl) :
 PE X (.ListComp elt [⟨tg,iter,ifs,0⟩] scope pos) (bR wi own fr g tt te):=by
 intro a s B H Q I h;rw[eval_ListComp];refine WN (use:=dn) z ok S O U Y I h (λD d l L f q k y=>?_) Z;obtain⟨m,j⟩:=k;obtain⟨p,r,t,u,w⟩:=y;refine⟨m,j,λA n=>⟨.ref D,d,f.turned (t':=l.toks) (it:=L) (λb o i e=>n.extBut b o i e) p r (.inr t) u w,rfl,q⟩⟩
theorem wc(O:X.N.Nodup)(U:X.N[i]? = cq y)(Y:Loc X.env.scope y)(hf:X.fn y=di\/X.env.scope.names.lookup y=cq .local)
 (S:X.calm=di) (ok:t9 X scope fr) (hi:PI X tg iter wi) (hg : ∀fp J C,PG (jw X scope (own++fr.map (·.1)) fp J C) tg g)
 (ht : ∀fp J C,sS (jw X scope (own++fr.map (·.1)) fp J C) ifs tt) (Z : ∀fp J C,PE (jw X scope (own++fr.map (·.1)) fp J C) elt te)
 (hs : ∀x,rn iter X.env x=pure x:=by intro _;rfl) :
 PS X (.Assign [.Name y py] (.ListComp elt [⟨tg,iter,ifs,0⟩] scope pos) spos) (YI (bR wi own fr g tt te)<|k8 i):=by
 have z : ∃b:Bool,B9 (.ListComp elt [⟨tg,iter,ifs,0⟩] scope pos) (cq (.Name y py)) spos.line X.env=pure b:=⟨_,rfl⟩;obtain⟨b,z⟩:=z;cases b with
 | false=>
  have u:N9 [.Name y py] (.ListComp elt [⟨tg,iter,ifs,0⟩] scope pos) spos.line X.env=B9 (.ListComp elt [⟨tg,iter,ifs,0⟩] scope pos) (cq (.Name y py)) spos.line X.env:=rfl;exact Wb (YY S ok hi hg ht Z hs) (dm O U Y hf) (by rw[u];exact z)
 | true=>
  intro d s W H D I h;rw[exec_Assign_Name_used _ _ _ _ z];refine HS<|PF<|HS ?_;show wpAny _ X.A (do let _ <- comprehension (.ListComp elt [⟨tg,iter,ifs,0⟩] scope pos) scope X.env _ (newList []) d7 (eB iter X.env) (cq (xb (.Name y py) X.env))) _ _ s;refine HS<|ft (WN (R:=λ_ f=>SP X d D .next f) (use:=cq (xb (.Name y py) X.env)) S ok hi hg ht Z I h (λj Q f L l q E P=>?_) hs) λ_ f q=>Ie<|Ie q;obtain⟨G,k,K,y4,M⟩:=P;obtain⟨m,B⟩:=E;show wpAny _ _ (xb (.Name y py) X.env<|.ref j) _ _ _;refine Um<|Kn l O U Y (v:= .ref j) rfl (λn as p=>?_) hf;obtain⟨a,F,w⟩:=p;have r:L≠a:=by
   rcases w with e | e
   ·rw[e];exact k
   ·exact IT<|y4 _ _ e
  refine⟨m,B.sameBut F r,λT t=>⟨_,_,as.turned (t':=n.toks) (it:=L) (λb o z e=>t.extBut b o z e) G k (.inr K) y4 M,q⟩⟩
end
inductive Sk where
 | L | T
 deriving DecidableEq
end L2
namespace DL
open PySem L2
inductive D where
 | fh | bl (b:Bool) | int (i:Int) | str (x:Str) | tup (xs:List D) | lst (xs:List D)
 | m7 (ks vs:List D)
 | ml (ks:List (List Int)) (vs:List D)
inductive Cell where
 | no | val (d:D) | own (ds:List D) | nest (rows:List (List D))
abbrev Ctx:=List Cell
abbrev CO (a : Type) := Ctx -> Option a
def lim:Nat:=2500
noncomputable def jX:D->Option (Sk×List D)
 | .tup a=>cq (.T,a)
 | .lst a=>cq (.L,a)
 | _=>dn
def z5(f:CO D)(γ:Ctx):Option (Sk×List D):=(f γ).bind jX
def jZ(f:CO (List D))(γ:Ctx):Option D:=(f γ).map D.lst
noncomputable def jv(f:CO (List D))(γ:Ctx):Option (Sk×List D):=(f γ).map λa=>(Sk.L,a)
def fR:Option Cell->Option D
 | some (.val d)=>cq d
 | _=>dn
noncomputable def vn:Option Cell->Option (Sk×List D)
 | some (.val d)=>jX d
 | some (.own ds)=>cq (.L,ds)
 | _=>dn
def ze(i:Nat)(γ:Ctx):Option D:=fR γ[i]?
def zk(i:Nat)(γ:Ctx):Option (Sk×List D):=vn γ[i]?
noncomputable def zA(d:D):CO D:=λ_=>cq d
noncomputable def zC(F:D->D->Option D)(C I:CO D)(γ:Ctx):Option D:=(C γ).bind λx=>(I γ).bind λy=>F x y
def tr:D->Option Bool
 | .bl b=>cq b
 | _=>dn
def nr:D->Option Int
 | .int i=>cq i
 | _=>dn
def sB(f:CO D)(γ:Ctx):Option Bool:=(f γ).bind tr
noncomputable def ui(f g:CO Bool)(γ:Ctx):Option Bool:=(f γ).bind λb=>if b=di then g γ else cq d7
noncomputable def yZ(f g:CO Bool)(γ:Ctx):Option Bool:=(f γ).bind λb=>if b=di then cq di else g γ
def jP(f:CO Bool)(γ:Ctx):Option Bool:=(f γ).map λb=> !b
noncomputable def gF(f g:CO D)(γ:Ctx):Option D:=((f γ).bind tr).bind λb=>if b=di then g γ else cq (.bl d7)
noncomputable def T9(f g:CO D)(γ:Ctx):Option D:=((f γ).bind tr).bind λb=>if b=di then cq (.bl di)else g γ
noncomputable def BB(f:CO D)(γ:Ctx):Option D:=((f γ).bind tr).map λb=> .bl (!b)
noncomputable def mT(c:CO Bool)(f g:CO D)(γ:Ctx):Option D:=(c γ).bind λb=>if b=di then f γ else g γ
def zJ:CO (List D):=λ_=>cq []
noncomputable def zc(f:CO D)(g:CO (List D))(γ:Ctx):Option (List D):=(f γ).bind λx=>(g γ).map λr=>x::r
noncomputable def xx(f:CO (List D))(γ:Ctx):Option D:=(f γ).bind λa=>if a.length<=lim then cq (.tup a)else dn
noncomputable def kC(f:CO (List D))(γ:Ctx):Option (List D):=(f γ).bind λa=>if a.length<=lim then cq a else dn
inductive Res where
 | val (d:D) | own (ds:List D)
inductive Fl where
 | next (γ:Ctx) | brk (γ:Ctx) | cont (γ:Ctx) | ret (r:Res)
def ql(γ:Ctx):Option Fl:=cq (.next γ)
noncomputable def zM(F G:CO Fl):CO Fl:=λb=>(F b).bind λz=>match z with
 | .next a=>G a
 | f=>cq f
noncomputable def qA(f:CO D)(γ:Ctx):Option Fl:=(f γ).map λd=> .ret (.val d)
noncomputable def wa(f:CO (List D))(γ:Ctx):Option Fl:=(f γ).map λd=> .ret (.own d)
noncomputable def Vp:Option Cell->Option Fl
 | some (.val d)=>cq (.ret<|.val d)
 | some (.own ds)=>cq (.ret<|.own ds)
 | _=>dn
def Xk(i:Nat)(γ:Ctx):Option Fl:=Vp γ[i]?
def HI(γ:Ctx):Option Fl:=cq (.brk γ)
def oS(γ:Ctx):Option Fl:=cq (.cont γ)
def VZ:CO Fl:=λ_=>dn
noncomputable def lp(k:CO Bool)(F G:CO Fl)(γ:Ctx):Option Fl:=(k γ).bind λb=>if b=di then F γ else G γ
noncomputable def jB(i:Nat)(f:CO D)(γ:Ctx):Option Fl:=(f γ).map λd=> .next (γ.set i<|.val d)
noncomputable def vg(i:Nat)(f:CO (List D))(γ:Ctx):Option Fl:=(f γ).map λa=> .next (γ.set i<|.own a)
def GU(f:CO D)(γ:Ctx):Option Fl:=(f γ).map λ_=> .next γ
noncomputable def q8:Option Cell->Option (List D)
 | some (.own ds)=>cq ds
 | _=>dn
noncomputable def xy(i:Nat)(f:CO D)(γ:Ctx):Option Fl:=(q8 γ[i]?).bind λa=>(f γ).bind λd=>if a.length<lim then cq (.next<|γ.set i<|.own<|a++[d])else dn
noncomputable def jm(n:Nat)(ds:List D):Ctx:=ds.map Cell.val++HZ (n - ds.length) Cell.no
noncomputable def jG(n:Nat)(F:CO Fl)(ds:List D):Option Res:=(F<|jm n ds).bind λz=>match z with
 | .ret r=>cq r
 | .next _=>cq (.val .fh)
 | _=>dn
def oW:Res->D
 | .val d=>d
 | .own a=> .lst a
noncomputable def zI(F:List D->Option Res)(g:CO (List D))(γ:Ctx):Option D:=(g γ).bind λa=>(F a).map oW
def CU:Res->Option (List D)
 | .own a=>cq a
 | _=>dn
noncomputable def jC(F:List D->Option Res)(g:CO (List D))(γ:Ctx):Option (List D):=(g γ).bind λa=>(F a).bind CU
noncomputable def vB(lo:Int)(n:Nat):List D:=(HU n).map λ(i:Nat)=>D.int<|lo+(i:Int)
noncomputable def X4(ds C:List D):List D:=(ds.zip C).map λp=>D.tup [p.1,p.2]
noncomputable def zP(f:CO (Sk×List D))(γ:Ctx):Option (List D):=(f γ).map (·.2)
def inR(i:Int):Bool:=decide<|i.natAbs<2 ^ 62
noncomputable def jh(f:CO D)(γ:Ctx):Option (List D):=((f γ).bind nr).bind λn=>if inR n=di then cq (vB 0 n.toNat)else dn
noncomputable def YN(f g:CO D)(γ:Ctx):Option (List D):=((f γ).bind nr).bind λm=>((g γ).bind nr).bind λn=>if inR m=di/\inR n=di then cq (vB m (n - m).toNat)else dn
noncomputable def VW(f g:CO D)(γ:Ctx):Option (List D):=((f γ).bind jX).bind λm=>((g γ).bind jX).map λn=>X4 m.2 n.2
inductive Tg where
 | nm (i:Nat) | tp (is:List Nat)
noncomputable def qP:List Nat->List D->Ctx->Ctx
 | i::is,d::ds,γ=>qP is ds<|γ.set i<|.val d
 | _,_,γ=>γ
noncomputable def xp:Tg->D->CO Ctx
 | .nm i,d,γ=>cq (γ.set i<|.val d)
 | .tp is,.tup ds,γ=>if ds.length=is.length then cq (qP is ds γ)else dn
 | _,_,_=>dn
noncomputable def qH(T:Tg)(F:CO Fl):List D->CO Fl
 | [],a=>cq (.next a)
 | d::e,a=>(xp T d a).bind λb=>(F b).bind λI=>match I with
  | .next z=>qH T F e z
  | .cont z=>qH T F e z
  | .brk z=>cq (.next z)
  | .ret r=>cq (.ret r)
noncomputable def wZ(C:CO (List D))(T:Tg)(F:CO Fl)(γ:Ctx):Option Fl:=(C γ).bind λa=>qH T F a γ
def x9:Cell->Cell
 | .own _=> .no
 | .nest _=> .no
 | c=>c
noncomputable def z6(n:Nat)(C:List Nat)(γ:Ctx):Ctx:=HZ n Cell.no++C.map λj=>x9<|γ[j]?.getD .no
noncomputable def zN(T:Tg)(k:CO Bool)(f:CO D)(γ:Ctx):List D->Option (List D)
 | []=>cq []
 | d::ds=>(xp T d γ).bind λa=>(k a).bind λb=>if b=di then (f a).bind λe=>(zN T k f γ ds).map λr=>e::r else zN T k f γ ds
noncomputable def zL(C:CO (List D))(T:Tg)(n:Nat)(I:List Nat)(k:CO Bool)(f:CO D)(γ:Ctx):Option (List D):=(C γ).bind λa=>if a.length<=lim then zN T k f (z6 n I γ) a else dn
def jg:CO Bool:=λ_=>cq di
def Tg.idx:Tg->List Nat
 | .nm i=>[i]
 | .tp is=>is
noncomputable def dI(g:Int->Int->D):D->D->Option D
 | .int i,.int j=>cq (g i j)
 | _,_=>dn
noncomputable def F9(c:Int->Int->Bool)(g:Int->Int->D):D->D->Option D
 | .int i,.int j=>if c i j=di then cq (g i j)else dn
 | _,_=>dn
def XN:D->D->Option D:=dI λi j=> .int (i - j)
noncomputable def XW(i j:Int):Bool:=decide (i.natAbs<2 ^ 64) || decide (j.natAbs<2 ^ 64)
noncomputable def Be(_ j:Int):Bool:=decide (0<j) && decide (j.natAbs<1073741824)
def QR:D->D->Option D:=F9 Be λi j=> .int (i/j)
def Bd(_ j:Int):Bool:=decide<|0<j
def xn:D->D->Option D:=F9 Bd λi j=> .int (i%j)
noncomputable def Bc(i j:Int):Bool:=decide (0<=j) && decide (j.natAbs<=1000000) && decide (i.natAbs<2 ^ 64)
def rY:D->D->Option D:=F9 Bc λi j=> .int (i ^ j.toNat)
def B5:D->D->Option D:=dI λi j=> .bl (decide<|i<j)
def qq:D->D->Option D:=dI λi j=> .bl (decide<|i<=j)
def DQ:D->D->Option D:=dI λi j=> .bl (decide<|j<i)
def Sy:D->D->Option D:=dI λi j=> .bl (decide<|j<=i)
noncomputable def qr:D->D->Option D
 | .int i,.int j=>cq (.int<|i+j)
 | .tup xs,.tup ys=>if xs.length+ys.length<=lim then cq (.tup<|xs++ys)else dn
 | _,_=>dn
noncomputable def kK:D->D->Option D
 | .int i,.int j=>if XW i j=di then cq (.int<|i*j)else dn
 | .tup xs,.int j=>if xs.length*j.toNat<=lim/\inR j=di then cq (.tup (HZ j.toNat xs).flatten)else dn
 | _,_=>dn
noncomputable def YO(f g:CO (Sk×List D))(γ:Ctx):Option (List D):=(f γ).bind λa=>(g γ).bind λb=>
 match a.1,b.1 with
 | .L,.L=>if a.2.length+b.2.length<=lim then cq (a.2++b.2)else dn
 | _,_=>dn
noncomputable def oR(f:CO (Sk×List D))(g:CO D)(γ:Ctx):Option (List D):=(f γ).bind λa=>((g γ).bind nr).bind λj=>
 match a.1 with
 | .L=>if a.2.length*j.toNat<=lim/\inR j=di then cq (HZ j.toNat a.2).flatten else dn
 | _=>dn
noncomputable def l7(n:Nat)(i:Int):Option Nat:=if 0<=i/\i<n then cq i.toNat else if i<0/\0<=i+n then cq (i+n).toNat else dn
noncomputable def ed(f:CO (Sk×List D))(g:CO D)(γ:Ctx):Option D:=(f γ).bind λa=>((g γ).bind nr).bind λi=>(l7 a.2.length i).bind λk=>a.2[k]?
noncomputable def ZG(i:Nat)(g f:CO D)(γ:Ctx):Option Fl:=(f γ).bind λd=>(q8 γ[i]?).bind λa=>((g γ).bind nr).bind λk=>(l7 a.length k).map λj=> .next (γ.set i<|.own<|a.set j d)
noncomputable def Vn(n dflt:Nat):Option Int->Nat
 | none=>dflt
 | some i=>if i<0 then (i+n).toNat else min i.toNat n
noncomputable def Vm(xs:List D)(lo C:Option Int):List D:=(xs.drop<|Vn xs.length 0 lo).take (Vn xs.length xs.length C - Vn xs.length 0 lo)
def af:CO (Option Int):=λ_=>cq dn
noncomputable def u9(f:CO D)(γ:Ctx):Option (Option Int):=((f γ).bind nr).map cq
noncomputable def cp(f:CO D)(l h:CO (Option Int))(γ:Ctx):Option D:=(f γ).bind λd=>(l γ).bind λlo=>(h γ).bind λa=>match d with
 | .tup b=>cq (.tup<|Vm b lo a)
 | _=>dn
noncomputable def ye(f:CO (Sk×List D))(γ:Ctx):Option D:=(f γ).map λa=> .int a.2.length
inductive Ty where
 | int | bool | str | tuple | list
 deriving DecidableEq
@[simp] def nE:D->Bool
 | .int _=>di
 | .bl _=>di
 | _=>d7
@[simp] def AG:D->Bool
 | .bl _=>di
 | _=>d7
@[simp] def nB:D->Bool
 | .str _=>di
 | _=>d7
@[simp] def nA:D->Bool
 | .tup _=>di
 | _=>d7
@[simp] def nD:D->Bool
 | .lst _=>di
 | _=>d7
noncomputable def nz:Ty->D->Bool
 | .int=>nE
 | .bool=>AG
 | .str=>nB
 | .tuple=>nA
 | .list=>nD
noncomputable def p6(T:Ty)(f:CO D)(γ:Ctx):Option D:=(f γ).map λd=> .bl (nz T d)
noncomputable def Ez:Ty->Sk->Bool
 | .tuple,.T=>di
 | .list,.L=>di
 | _,_=>d7
noncomputable def HF(T:Ty)(f:CO (Sk×List D))(γ:Ctx):Option D:=(f γ).map λa=> .bl (Ez T a.1)
@[simp] def Tz:D->Bool
 | .fh=>di
 | _=>d7
@[simp] noncomputable def eqB(a:Bool):D->Bool
 | .bl b=>a==b
 | .int b=>(if a then 1 else 0)==b
 | _=>d7
@[simp] noncomputable def SD(a:Int):D->Bool
 | .bl b=>a==(if b then 1 else 0)
 | .int b=>a==b
 | _=>d7
@[simp] def TC(a:Str):D->Bool
 | .str b=>a==b
 | _=>d7
@[simp] def Ut(a:Str)(i:Option Int):D->Bool
 | _=>d7
mutual
def l0:D->D->Bool
 | .fh,y=>Tz y
 | .bl a,y=>eqB a y
 | .int a,y=>SD a y
 | .str a,y=>TC a y
 | .tup xs,y=>match y with
  | .tup e=>s8 xs e
  | _=>d7
 | .lst xs,y=>match y with
  | .lst e=>s8 xs e
  | _=>d7
 | .m7 a b,y=>match y with
  | .m7 c d=>s8 a c && s8 b d
  | _=>d7
 | .ml a b,y=>match y with
  | .ml c d=>a==c && s8 b d
  | _=>d7
def s8:List D->List D->Bool
 | [],[]=>di
 | x::xs,y::ys=>l0 x y && s8 xs ys
 | _,_=>d7
end
mutual
def deep:D->Nat
 | .tup a=>o4 a+1
 | .lst a=>o4 a+1
 | _=>0
def o4:List D->Nat
 | []=>0
 | x::xs=>max (deep x)<|o4 xs
end
mutual
def h9:D->Bool
 | .str x=>x.cps.all (· < 0x110000)
 | .m7 _ _=>d7
 | .ml _ _=>d7
 | .tup a=>qs a
 | .lst a=>qs a
 | _=>di
def qs:List D->Bool
 | []=>di
 | x::xs=>h9 x && qs xs
end
def l9(d:D):Bool:=decide (deep d<=20) && h9 d
noncomputable def g8(x y:D):Option D:=if l9 x=di/\l9 y=di then cq (.bl<|l0 x y)else dn
noncomputable def i0(x y:D):Option D:=if l9 x=di/\l9 y=di then cq (.bl<|!l0 x y)else dn
noncomputable def AZ:D->D->Option D
 | x,.fh=>cq (.bl<|match x with | .fh=>di | _=>d7)
 | _,_=>dn
noncomputable def zQ(f:CO (Sk×List D))(γ:Ctx):Option D:=(f γ).map λa=> .tup a.2
noncomputable def cC(f:CO (Sk×List D))(γ:Ctx):Option (List D):=(f γ).map λa=>a.2
noncomputable def bV:List D->Option Int
 | []=>cq 0
 | .int i::r=>(bV r).map λs=>i+s
 | _::_=>dn
noncomputable def oQ(f:CO (Sk×List D))(γ:Ctx):Option D:=(f γ).bind λa=>(bV a.2).map D.int
noncomputable def By:D->Option Bool
 | .fh=>cq d7
 | .bl b=>cq b
 | .int i=>cq (i != 0)
 | _=>dn
noncomputable def Zt:List D->Option (List Bool)
 | []=>cq []
 | d::r=>(By d).bind λb=>(Zt r).map λs=>b::s
noncomputable def oT(f:CO (Sk×List D))(γ:Ctx):Option D:=(f γ).bind λa=>(Zt a.2).map λs=> .bl (s.all id)
noncomputable def sI(f:CO (Sk×List D))(γ:Ctx):Option D:=(f γ).bind λa=>(Zt a.2).map λs=> .bl (s.any id)
noncomputable def xC(f:CO D)(γ:Ctx):Option D:=(f γ).bind λd=>match d with
 | .int i=>cq (.int i)
 | .bl b=>cq (.int<|if b then 1 else 0)
 | _=>dn
noncomputable def GP(f g:CO D)(γ:Ctx):Option D:=((f γ).bind nr).bind λi=>((g γ).bind nr).map λj=> .int (if j>i then j else i)
noncomputable def oP(f:CO (Sk×List D))(γ:Ctx):Option Bool:=(f γ).map λa=> !a.2.isEmpty
def ub(f:CO D):CO D:=λa=>((f a).bind nr).map λi=> .int (-i)
noncomputable def yu(F G:D->D->Option D)(C I J:CO D):CO D:=λa=>(C a).bind λx=>(I a).bind λy=>((F x y).bind tr).bind λb=>if b=di then (J a).bind λz=>G y z else cq (.bl d7)
noncomputable def cu(T:Tg)(f:CO D)(γ:Ctx):Option Fl:=(f γ).bind λd=>(xp T d γ).map .next
def Hl:D->Option Int
 | .tup (.int k::_)=>cq k
 | _=>dn
noncomputable def Ay:List D->Option (List Int)
 | []=>cq []
 | d::r=>(Hl d).bind λk=>(Ay r).map λl=>k::l
noncomputable def Gd:List Int->Bool
 | a::b::r=>decide (a<b) && Gd (b::r)
 | _=>di
noncomputable def Hi(ks:List Int):Nat:=(ks.dropLast.filter λk=>decide<|k<ks.getLast?.getD 0).length
noncomputable def Hm(q:Nat)(ds:List D):List D:=ds.dropLast.take q++(ds.drop (ds.length - 1)++ds.dropLast.drop q)
noncomputable def CM(ds:List D):Option (List D):=(Ay ds).bind λa=>if (1<=ds.length/\ds.length<=8)/\Gd a.dropLast=di/\decide (a.getLast?.getD 0∈a.dropLast)=d7 then cq (Hm (Hi a) ds)else dn
noncomputable def CN(f:CO (Sk×List D))(γ:Ctx):Option (List D):=(f γ).bind λa=>match a.1 with
 | .L=>CM a.2
 | _=>dn
noncomputable def EI:D->Bool
 | .tup _=>d7
 | .lst _=>d7
 | .m7 _ _=>d7
 | .ml _ _=>d7
 | _=>di
end DL
namespace L2
open PySem PySem.Spec PyProof.Rows
noncomputable def i5(k:Sk)(h:f6)(i l:eh)(n:Nat):Prop:=match k with
 | .L=>h.IsListIter i l n
 | .T=>h.IsTupleIter i l n
noncomputable def l8(k:Sk)(h:f6)(l:eh)(xs:Array ej):Prop:=match k with
 | .L=>h.IsList l xs
 | .T=>h.IsTuple l xs
noncomputable def hL(k:Sk)(l:eh):ni:=match k with
 | .L=>{cls:= .type "list_iterator",data:= .fields #[.ref l,.int 0 0]}
 | .T=>{cls:= .type "tuple_iterator",data:= .fields #[.ref l,.int 0 0]}
theorem i5.at(x:i5 k h i l n)(e : ∀o,h.get? i=cq o->h'.get? i=cq o):i5 k h' i l n:=by cases k<;>exact let ⟨o,z,r⟩:=x;⟨o,e _ z,r⟩
theorem l8.at(x:l8 k h l xs)(e : ∀o,h.get? l=cq o->h'.get? l=cq o):l8 k h' l xs:=by cases k<;>exact let ⟨o,z,r⟩:=x;⟨o,e _ z,r⟩
theorem i5.obj(x:i5 k h i l n) : ∃o,h.get? i=cq o/\∀v,o.data ≠ .cell v:=by cases k<;>exact let ⟨o,I,_,d⟩:=x;⟨o,I,λv z=>by rw[d]at z;cases z⟩
theorem l8.lt(x:l8 k h l xs):l<h.objs.size:=by cases k<;>exact let ⟨o,z,_⟩:=x;Ip z
theorem vK(k:Sk)(h:f6)(l:eh):i5 k (h.push<|hL k l) h.objs.size l 0:=by cases k<;>exact⟨_,Iq _ rfl,rfl,rfl⟩
section
variable{prog:i8}{w:hB}{A:m9}{E:RQ}{s:eF}
theorem wF(z:l8 k s.heap l xs)(I:Q (.ref s.heap.objs.size) {s with heap:=s.heap.push (hL k l)}):wpAny (eP prog w) A (N5<|.ref l) Q E s:=by
 cases k
 ·exact PL z I
 ·exact Ou z I
theorem qS(O:i5 k s.heap it l i)(U:l8 k s.heap l items)(hx:items[i]? = cq x)
 (Y : ∀h',i5 k h' it l (i+1)->MP it s.heap h'->Q x {s with heap:=h'}):wpAny (eP prog w) A (Iw<|.ref it) Q E s:=by
 cases k with
 | L=>exact wpAny_nextOf_list_item O U hx Y
 | T=>
  have I:s.heap.IsTupleIter it l i:=O;obtain⟨o,z,e,a⟩:=id I;obtain⟨g,b,_,f,d⟩:=(show s.heap.IsTuple l items from U);unfold Iw;refine HS (LA (name:=Ld "__next__") I.typeIs Og (LQ Og I.typeIs Tx ?_ (Ts _)));refine HS (m:=field (.ref it) 0) (Lc z a (x:= .ref l) rfl ?_);show wpAny _ _ (if (LX l==IZ)=di then _ else _) _ _ s;rw[EQ (show ¬((LX l==IZ)=di)from II)];refine HS (m:=field (.ref it) 1) (Lc z a (x:= .int i 0) rfl ?_);refine HS (m:=seqItems? (.ref l)) (LB b d ?_);simp only[Me,hx];refine HS (wpAny_setField z a ⋯ (Ie ⟨x,rfl,Ie (Y _ ?_ (Ox ..))⟩));show Heap.IsTupleIter _ it l (i+1);exact⟨_,NK _ z (Obj.isFreed_of_fields (Pn a _)),(Obj.cls_mapFields ..).trans e,by rw[Pn a];simp[B8]⟩
theorem yS(z:A.handled=dn)(U:i5 k s.heap it l i)(Y:l8 k s.heap l items)(hx:items[i]? = dn)
 (hE : ∀h' e,Heap.ExtBut it s.heap h'->(∃o,h'.get? e=cq o/\o.cls = .type "StopIteration")->E (.ref e) {s with heap:=h'}):wpAny (eP prog w) A (Iw (.ref it)) Q E s:=by
 cases k with
 | L=>exact wpAny_nextOf_list_end z U Y hx hE
 | T=>
  have I:s.heap.IsTupleIter it l i:=U;obtain⟨o,O,g,b⟩:=id I;obtain⟨j,d,_,h,f⟩:=(show s.heap.IsTuple l items from Y);unfold Iw;refine HS (LA (name:=Ld "__next__") I.typeIs Og (LQ Og I.typeIs Tx ?_ (Ts _)));refine HS (m:=field (.ref it) 0) (Lc O b (x:= .ref l) rfl ?_);show wpAny _ _ (if (LX l==IZ)=di then _ else _) _ _ s;rw[EQ (show ¬((LX l==IZ)=di)from II)];refine HS (m:=field (.ref it) 1) (Lc O b (x:= .int i 0) rfl ?_);refine HS (m:=seqItems? (.ref l)) (LB d f ?_);simp only[Me,hx];refine HS (Nr (HS (wpAny_setField O b ⋯ ?_)));refine HS (m:=newExc (.type "StopIteration") []) ?_;simp only[newExc,newTuple];refine HS (LR ?_ (by size_fits));refine HS (m:=Rq _ _) (wpAny_of_eq (a:=IZ) (by first | rfl | (simp only[Rq];rfl)) ?_);refine LR ?_ (by size_fits);simp only[raiseNew];refine HS (wpAny_handled ?_)
  first | rw[show A.in1.handled=dn from z] | rw[z]
  exact HS<|Ie<|wpAny_throw<|hE _ _ (((Ox ..).extBut.push _).push _) ⟨_,Iq _ rfl,rfl⟩
theorem bo{k1 k2:Sk}{z TI TO C J S Z:eh}{n1 n2:Nat}{xs ys:Array ej}{x y a b:ej}{Q:RQ}(D:P9 z TI TO C J S Z)
 (L:n9 s.heap z TI TO .none) (bg:pa s.heap TI (.ref C) (.ref J)) (bi:pa s.heap TO a b)
 (h1:i5 k1 s.heap C S n1) (h2:i5 k2 s.heap J Z n2) (bl:l8 k1 s.heap S xs) (bm:l8 k2 s.heap Z ys) (hx:xs[n1]? = cq x) (hy:ys[n2]? = cq y)
 (hQ : ∀h',n9 h' z TI TO (B8 s.heap.objs.size)->pa h' TO x y->i5 k1 h' C S (n1+1)->i5 k2 h' J Z (n2+1)->pa h' s.heap.objs.size x y->h'.objs.size=s.heap.objs.size+1->
   (∀c o,c≠z->c≠TO->c≠C->c≠J->s.heap.get? c=cq o->h'.get? c=cq o)->Q (.ref s.heap.objs.size) {s with heap:=h'}) :
 wpAny (eP prog w) A (o8.«zip.__next__» ⟨[.ref z],[]⟩) (λbv s'=>∃v,bv = .done (.ret v)/\Q v s') E s:=by
 refine HS (m:=field (.ref z) 2)<|Lc L rfl (x:= .bool d7) rfl ?_;refine HS (m:=field (.ref z) 3)<|Lc L rfl (x:= .ref TI) rfl ?_;refine HS<|LB bg rfl ?_;refine HS (m:=IK<|.ref z) ?_;unfold IK;refine HS<|Lc L rfl (x:= .none) rfl<|Ie ?_;simp only[if_true];refine HS<|Nr<|HS<|Lc L rfl (x:= .ref TO) rfl ?_;refine HS<|Li L ⋯ λg1 p O=>?_;replace p:n9 g1 z TI TO .ellipsis:=p;refine HS ?_;simp only[OB,OH,NU,Of];refine HS<|HS<|Mw ?_;refine HS (m:=Iw<|.ref C)<|qS (h1.at λo e=>O.extBut _ _ D.i1z e) (bl.at λo e=>O.extBut _ _ D.l1z e) hx λg2 T Y=>Ie ?_;have H:pa g2 TO a b:=Y.extBut _ _ D.TOi1<|O.extBut _ _ D.TOz bi;refine HS<|LB H rfl<|HS<|Pk H λg3 r d=>?_;replace r:pa g3 TO x b:=r;refine HS<|MZ<|Ie<|HS<|HS<|Mw ?_;refine HS (m:=Iw<|.ref J)<|qS (h2.at λo e=>d.extBut _ _ D.TOi2.symm<|Y.extBut _ _ D.i12.symm<|O.extBut _ _ D.i2z e) (bm.at λo e=>d.extBut _ _ D.l2TO<|Y.extBut _ _ D.l2i1<|O.extBut _ _ D.l2z e) hy λg4 W f=>Ie ?_;have K:pa g4 TO x b:=f.extBut _ _ D.TOi2 r;refine HS<|LB K rfl<|HS<|Pk K λI j g=>?_;replace j:pa I TO x y:=j;refine HS<|MZ<|Ie<|Ie<|HS<|LB j rfl<|HS<|Oz ?_;have i:I.objs.size=s.heap.objs.size:=by rw[g.1,f.1,d.1,Y.1,O.1]
 have M:n9 I z TI TO .ellipsis:=g.extBut _ _ D.TOz.symm (f.extBut _ _ D.i2z.symm (d.extBut _ _ D.TOz.symm (Y.extBut _ _ D.i1z.symm p)));have c8 : ∀c o,c≠z->c≠TO->c≠C->c≠J->s.heap.get? c=cq o->I.get? c=cq o:=λc o U l F G e=>g.extBut _ _ l (f.extBut _ _ G (d.extBut _ _ l (Y.extBut _ _ F (O.extBut _ _ U e))));have X:i5 k1 I C S (n1+1):=T.at λo e=>g.extBut _ _ D.TOi1.symm (f.extBut _ _ D.i12 (d.extBut _ _ D.TOi1.symm e));have ca:i5 k2 I J Z (n2+1):=W.at λo e=>g.extBut _ _ D.TOi2.symm e;have N:z<I.objs.size:=Ip M;refine HS (m:=Ly (.ref z) (.ref I.objs.size)) ?_;unfold Ly;have cb:n9 (I.push {cls:= .type "tuple",data:= .seq #[x,y]}) z TI TO .ellipsis:=HV _ M;refine HS (Li cb ⋯ λg7 t u=>?_);replace t:n9 g7 z TI TO (B8 I.objs.size):=t;refine Li t ⋯ λh k B=>?_;replace k:n9 h z TI TO (B8 I.objs.size):=k;have n : ∀c o,c≠z->I.get? c=cq o->h.get? c=cq o:=λc o U e=>B.extBut _ _ U (u.extBut _ _ U (HV _ e));have P:pa h I.objs.size x y:=B.extBut _ _ (LY N) (u.extBut _ _ (LY N) (Iq _ rfl));have R:h.objs.size=I.objs.size+1:=by rw[B.1,u.1,IU]
 rw[i]at k P R;refine Ie ⟨_,rfl,?_⟩;show Q (.ref I.objs.size) _;rw[i];exact hQ h k (n _ _ D.TOz j) (X.at λo e=>n _ o D.i1z e) (ca.at λo e=>n _ o D.i2z e) P R λc o U l F G e=>n c o U<|c8 c o U l F G e
theorem gP{k1 k2:Sk}{z TI TO C J S Z:eh}{n1 n2:Nat}{xs ys:Array ej}{a b:ej}{Q:Fin->eF->Prop}(hh:A.handled=dn)(D:P9 z TI TO C J S Z)
 (L:n9 s.heap z TI TO .none) (b7:pa s.heap TI (.ref C) (.ref J)) (b8:pa s.heap TO a b)
 (h1:i5 k1 s.heap C S n1) (h2:i5 k2 s.heap J Z n2) (ap:l8 k1 s.heap S xs) (b9:l8 k2 s.heap Z ys) (bb:xs[n1]? = dn\/ys[n2]? = dn)
 (hE : ∀h' e,(∀c o,c≠z->c≠TO->c≠C->c≠J->s.heap.get? c=cq o->h'.get? c=cq o)->(∃o,h'.get? e=cq o/\o.cls = .type "StopIteration")->E (.ref e) {s with heap:=h'}) :
 wpAny (eP prog w) A (o8.«zip.__next__» ⟨[.ref z],[]⟩) Q E s:=by
 refine HS (m:=field (.ref z) 2) (Lc L rfl (x:= .bool d7) rfl ?_);refine HS (m:=field (.ref z) 3) (Lc L rfl (x:= .ref TI) rfl ?_);refine HS (LB b7 rfl ?_);refine HS (m:=IK (.ref z)) ?_;unfold IK;refine HS (Lc L rfl (x:= .none) rfl (Ie ?_));simp only[if_true];refine HS (Nr (HS (Lc L rfl (x:= .ref TO) rfl ?_)));refine HS (Li L ⋯ λg1 k I=>?_);replace k:n9 g1 z TI TO .ellipsis:=k;refine HS ?_;simp only[OB,OH,NU,Of];refine HS (HS (Mw ?_));have r : ∀{g e:_} {i:ni},n9 g z TI TO .ellipsis->(∀c o,c≠z->c≠TO->c≠C->c≠J->s.heap.get? c=cq o->g.get? c=cq o)->g.get? e=cq i->i.cls = .type "StopIteration"->
  wpAny (eP prog w) A (setField (.ref z) 0 .none) (λ_ F=>E (.ref e) F) E {s with heap:=g}:=λ{g e i} ro hk U d=>by
  have y:e≠z:=λq=>by subst q;rw[ro]at U;cases U;simp at d
  exact Li ro ⋯ λg3 _ Y=>hE g3 e (λc o f l j n q=>Y.extBut _ _ f<|hk c o f l j n q) ⟨i,Y.extBut _ _ y U,d⟩
 cases hx:xs[n1]? with
 | none=>
  refine HS (m:=Iw<|.ref C)<|yS hh (h1.at λo e=>I.extBut _ _ D.i1z e) (ap.at λo e=>I.extBut _ _ D.l1z e) hx λg2 e O p=>?_;obtain⟨i,U,d⟩:=p;exact r (O _ _ D.i1z.symm k) (λc o f _ j _ q=>O _ _ j<|I.extBut _ _ f q) U d
 | some x=>
  have B:ys[n2]? = dn:=by rcases bb with h | h;rw[hx]at h;cases h;exact h
  refine HS (m:=Iw<|.ref C)<|qS (h1.at λo e=>I.extBut _ _ D.i1z e) (ap.at λo e=>I.extBut _ _ D.l1z e) hx λg2 bl O=>Ie ?_;have t:pa g2 TO a b:=O.extBut _ _ D.TOi1<|I.extBut _ _ D.TOz b8;refine HS<|LB t rfl<|HS<|Pk t λg3 G Y=>?_;refine HS<|MZ<|Ie<|HS<|HS<|Mw ?_;refine HS (m:=Iw<|.ref J)<|yS hh (h2.at λo e=>Y.extBut _ _ D.TOi2.symm<|O.extBut _ _ D.i12.symm<|I.extBut _ _ D.i2z e) (b9.at λo e=>Y.extBut _ _ D.l2TO<|O.extBut _ _ D.l2i1<|I.extBut _ _ D.l2z e) B λH e u p=>?_;obtain⟨i,U,d⟩:=p;exact r (u _ _ D.i2z.symm<|Y.extBut _ _ D.TOz.symm<|O.extBut _ _ D.i1z.symm k) (λc o f l j n q=>u _ _ n<|Y.extBut _ _ l<|O.extBut _ _ j<|I.extBut _ _ f q) U d
end
def wj(a b:ej):ni:={cls:= .type "tuple",data:= .seq #[a,b]}
noncomputable def sG(TI TO:eh):ni:={cls:= .type "zip",data:= .fields #[.none,.bool d7,.bool d7,.ref TI,.ref TO]}
noncomputable def JH(z I:Sk)(h:f6)(C J:eh):f6:=
 IA (IA (IA (IA (IA h<|hL z C)<|hL I J)<|wj (.ref h.objs.size)<|.ref<|h.objs.size+1)<|wj .none .none) (sG (h.objs.size+2)<|h.objs.size+3)
theorem gO(z I:Sk)(C J:eh)(xs ys:Array ej) :
 D1 (o8.«zip.__new__» ⟨[.type "zip",.ref C,.ref J],[]⟩) (λ_ R s=>l8 z s.heap C xs/\l8 I s.heap J ys/\
  R (.ok<|.ret<|.ref<|s.heap.objs.size+4) {s with heap:=JH z I s.heap C J}):=
 .of_wp λa w A R s h=>by
  obtain⟨O,g,d,U,os⟩:=s;obtain⟨Y,b,h⟩:=h;have j:=sub_zip;have f:l8 z (F2 ⟨O,g,d,U,os⟩) C xs:=Y;have i:l8 I (F2 ⟨O.push<|hL z C,g,d,U,os⟩) J ys:=b.at λo e=>HV _ e
  wp_walk using wF f,wF i
  refine⟨_,rfl,?_⟩;simp only[JH,wj,sG,IU]at h ⊢;exact h
section
variable{X:Cx}{pins:RW}{σ:St}{H:Hp}{s:eF}{h':f6}
theorem Inv.O6{t':Nat}{fp:List eh}{a:eh}{o:HO}(I:Inv X pins σ H s)(k : ∀b u,b∉fp->s.heap.get? b=cq u->h'.get? b=cq u)(Y : ∀b∈fp,wI X pins H b)
 (C:s.heap.objs.size<=a) (new:md X.prog X.w (upd H a o) h' a o):Inv X pins σ (upd H a o) {s with heap:=h',toks:=t'}:=by
 have d:H a=dn:=I.f9.fresh C;have g : ∀b u,H b=cq u->b∉fp:=λb u e z=>by rw[(Y b z).1]at e;cases e
 have i : ∀b u,s.heap.get? b=cq u->b≠a:=λb u e=>IJ<|IC (Ip e) C;refine I.step (g':=s.gens) (d':=s.drawn) (ch:=fp) (λb O=>⟨(Y b O).2.2.2.1,(Y b O).2.1,(Y b O).2.2.2.2.1,(Y b O).2.2.2.2.2⟩) (λb u _ _ U e _=>k b u U e) (λb u _ _ U e _=>⟨u.slots,k b u U e⟩)
  (λb u _ e n=>by rw[zD (i b u e)];exact n) (λb u U e=>⟨u,k b u U e⟩) (λb h e=>by rw[zD (j5 e d)];exact e) (λb f h e=>by rw[zD (j5 e d)];exact e)
  (λb x e=>⟨#[],by rw[zD (j5 e d),e];simp⟩) (λm p=>?_) (λb u e=>?_) I.bare
 ·obtain⟨f,l,j,t,r⟩:=p
  refine⟨f,l,j,k _ f (λz=>(Y _ z).2.1 rfl) t,r⟩
 ·by_cases O:b=a
  ·subst O;rw[zG]at e;cases e;exact new
  ·rw[zD O]at e
   refine(I.f9 b u e).DA (λc v U q=>k c v ?_ q) (λc q=>by rw[zD (j5 q d)];exact q) λc h q=>by rw[zD (j5 q d)];exact q
   rcases U with z | z
   ·rw[z];exact g b u e
   ·exact g c _ z
theorem Inv.C1{t':Nat}{fp:List eh}(I:Inv X pins σ H s)(k : ∀b u,b∉fp->s.heap.get? b=cq u->h'.get? b=cq u)(U : ∀b∈fp,wI X pins H b):Inv X pins σ H {s with heap:=h',toks:=t'}:=by
 have d : ∀b u,H b=cq u->b∉fp:=λb u e z=>by rw[(U b z).1]at e;cases e
 refine I.step (g':=s.gens) (d':=s.drawn) (ch:=fp) (λb Y=>⟨(U b Y).2.2.2.1,(U b Y).2.1,(U b Y).2.2.2.2.1,(U b Y).2.2.2.2.2⟩) (λb u _ _ O e _=>k b u O e) (λb u _ _ O e _=>⟨u.slots,k b u O e⟩)
  (λb u _ e n=>n) (λb u O e=>⟨u,k b u O e⟩) (λb f e=>e) (λb a f e=>e)
  (λb l e=>⟨#[],by rw[e];simp⟩) (λm i=>?_) (λb u e=>?_) I.bare
 ·obtain⟨a,h,g,j,r⟩:=i
  refine⟨a,h,g,k _ a (λz=>(U _ z).2.1 rfl) j,r⟩
 ·refine(I.f9 b u e).DA (λc v O q=>k c v ?_ q) (λc q=>q) λc f q=>q
  rcases O with z | z
  ·rw[z];exact d b u e
  ·exact d c _ z
end
noncomputable def kr(k:Sk)(K:HR)(H:Hp)(a:eh)(xs:List V):Prop:=match k with
 | .L=>gB K H a xs
 | .T=>gR K H a xs
theorem Inv.sq(I:Inv X pins σ H s)(h:kr k X.K H a xs) :
 ∃O:List ej,fy xs O/\l8 k s.heap a O.toArray/\xs.length<=gm:=by
 cases k with
 | L=>obtain⟨O,r,p,z⟩:=I.list h;exact⟨O,r,p.isList,z⟩
 | T=>obtain⟨O,r,p,z⟩:=I.tuple h;exact⟨O,r,p,z⟩
theorem Inv.E5(I:Inv X pins σ H s)(h:kr k X.K H a xs)(h':kr k X.K H a ys):xs=ys:=by
 cases k with
 | L=>exact I.RE h h'
 | T=>exact I.Td h h'
noncomputable def P0(z I:Sk)(K:HR)(a b:eh):It:=
 ⟨λi H=>∃d e,kr z K H a d/\kr I K H b e/\i<d.length/\i<e.length,
  λi H x f=>∃p u v,x = .ref p/\H p=dn/\f=upd H p (.tup [u,v])/\(∀d,kr z K H a d->d[i]? = cq u)/\(∀e,kr I K H b e->e[i]? = cq v),
  λi H=>∃d e,kr z K H a d/\kr I K H b e/\(d.length<=i\/e.length<=i)⟩
theorem gW{P:i8}{w:hB}{K:HR}{elts:List eA}{x1:Nat}{tf:gu}(k1 k2:Sk){z TI TO i1 i2 a b:eh}(D:P9 z TI TO i1 i2 a b) :
 Turn P w K (.Tuple elts x1 tf) (P0 k1 k2 K a b) [z,TI,TO,i1,i2] z (λi h=>n9 h z TI TO .none/\pa h TI (.ref i1) (.ref i2)/\(∃c d,pa h TO c d)/\i5 k1 h i1 a i/\i5 k2 h i2 b i) where
 mem:=by simp
 obj:=λi h ⟨U,a0,⟨c,d,a8⟩,h1,h2⟩ y hy=>by
  simp only[Il,IH,or_false]at hy;rcases hy with rfl | rfl | rfl | rfl | rfl
  ·exact⟨_,U,λv q=>by cases q⟩
  ·exact⟨_,a0,λv q=>by cases q⟩
  ·exact⟨_,a8,λv q=>by cases q⟩
  ·exact h1.obj
  ·exact h2.obj
 keep:=λi h h' ⟨U,a0,⟨c,d,a8⟩,h1,h2⟩ k=>
  ⟨k z ⋯ _ U,k TI ⋯ _ a0,⟨c,d,k TO ⋯ _ a8⟩,h1.at λo e=>k i1 ⋯ o e,h2.at λo e=>k i2 ⋯ o e⟩
 item:=by
  rintro X hP hw hK hc i pins s σ H E I hf ⟨U,a0,⟨c,d,a8⟩,h1,h2⟩ ⟨xs,ys,ap,ar,bg,bi⟩;subst hP hw hK;obtain⟨bl,b0,p1,z1⟩:=I.sq ap;obtain⟨bn,b8,p2,z2⟩:=I.sq ar;have hx:xs[i]? = cq xs[i]:=HX bg;have hy:ys[i]? = cq ys[i]:=HX bi;obtain⟨u1,bv,bx⟩:=b0.get hx;obtain⟨u2,c0,c1⟩:=b8.get hy;have hT:s.TypeIs (.ref z) "zip":=⟨_,U,rfl⟩;unfold Dz;refine HS (ND (LA (name:=Ld "__next__") hT MB (LQ MB hT OK
   (bo D U a0 a8 h1 h2 p1 p2 (x:=u1) (y:=u2) (by simpa using bv) (by simpa using c0) λg a1 a2 a3 a4 a5 a6 a7=>Ie ⟨_,rfl,?_⟩) (OF _))))
  refine wpAny_letOwnedTupleGo_zip a1 λg2 ro a9=>?_;have lt : ∀{c o},s.heap.get? c=cq o->s.heap.objs.size≠c:=λe=>LY<|Ip e;have c7:pa g2 s.heap.objs.size u1 u2:=a9.extBut _ _ (lt U) a5;have kk : ∀Y u,Y ∉ [z,TI,TO,i1,i2]->s.heap.get? Y=cq u->g2.get? Y=cq u:=λY u O e=>by simp only[Il,IH,or_false,not_or]at O;exact a9.extBut _ _ O.1<|a7 Y u O.1 O.2.2.1 O.2.2.2.1 O.2.2.2.2 e
  have I1:Inv X pins σ (upd H s.heap.objs.size<|.tup [xs[i],ys[i]]) {s with heap:=g2,toks:=s.toks}:=
   I.O6 (fp:=[z,TI,TO,i1,i2]) kk hf (Ic _) ⟨by show 2<=gm;decide,[u1,u2],.cons bx<|.cons c1 .nil,⟨_,c7,rfl,_,rfl⟩⟩
  have c9:H s.heap.objs.size=dn:=I.fresh;refine⟨.ref s.heap.objs.size,_,I1,rfl,⟨_,_,_,rfl,c9,rfl,λcj b9=>by rw[I.E5 b9 ap];exact hx,λcl b9=>by rw[I.E5 b9 ar];exact hy⟩,?_,λY O=>?_⟩
  ·exact⟨ro,a9.extBut _ _ D.TIz<|a7 _ _ D.TIz D.TITO D.TIi1 D.TIi2 a0,⟨_,_,a9.extBut _ _ D.TOz a2⟩,a3.at λo e=>a9.extBut _ _ D.i1z e,a4.at λo e=>a9.extBut _ _ D.i2z e⟩
  ·have ca:Y≠s.heap.objs.size:=by
    simp only[Il,IH,or_false]at O;rcases O with rfl | rfl | rfl | rfl | rfl
    ·exact(lt U).symm
    ·exact(lt a0).symm
    ·exact(lt a8).symm
    ·obtain⟨o,e,_⟩:=h1.obj;exact(lt e).symm
    ·obtain⟨o,e,_⟩:=h2.obj;exact(lt e).symm
   rw[zD ca];exact(hf Y O).1
 done:=by
  rintro X hP hw hK hc i pins s σ H E I hf ⟨U,a0,⟨c,d,a8⟩,h1,h2⟩ ⟨xs,ys,ap,ar,hi⟩;subst hP hw hK;obtain⟨bl,b0,p1,z1⟩:=I.sq ap;obtain⟨bn,b8,p2,z2⟩:=I.sq ar;have hT:s.TypeIs (.ref z) "zip":=⟨_,U,rfl⟩;have l1:=b0.length;have l2:=b8.length;unfold Dz;refine HS (ND (LA (name:=Ld "__next__") hT MB (LQ MB hT OK
   (gP (show X.A.handled=dn from I.ok.hd hc) D U a0 a8 h1 h2 p1 p2 (by rcases hi with q | q;left;simp;omega;right;simp;omega) λg e hk he=>?_) (OF _))))
  obtain⟨o,ho,ch⟩:=he;refine HS (PR (T:="StopIteration") (b:=di) ⟨o,ho,ch⟩ isSubtype_stop (Ie ⟨rfl,?_⟩));refine I.C1 (t':=s.toks) (fp:=[z,TI,TO,i1,i2]) (λY u O e=>?_) hf;simp only[Il,IH,or_false,not_or]at O;exact hk Y u O.1 O.2.2.1 O.2.2.2.1 O.2.2.2.2 e
 self:=λ_ _ _ _ _ st h=>OR st.1 h
noncomputable def Hn(K:HR)(C:TA):TI:=λh H R=>C h H λe d=>∃z I a b,e=[.ref a,.ref b]/\(∃f,kr z K d a f)/\(∃g,kr I K d b g)/\R (P0 z I K a b) d
theorem uU{X:Cx}{S C:eA}{ta:TA}{p pos:gu}{J:List eA}{x1:Nat}{L:gu}(hg:Gl X "zip")(hm:X.mg "zip" = dn)(ha:PA X [S,C] ta)
 (hv:B3 "zip" = cq (.type "zip")) (hs:f7 [S,C] X.env=[(d7,eB S X.env),(d7,eB C X.env)]:=by rfl) (Z:f7 [C] X.env=[(d7,eB C X.env)]:=by rfl) :
 PI X (.Tuple J x1 L) (.Call (.Name "zip" p) [S,C] [] pos) (Hn X.K ta):=by
 intro g s A H R I h;refine DE (kH I hg hm hv<|Ll (ft (ha pos g s A H _ I h) λus d T=>?_) (by rw[hs,Z])<|by rw[Z];rfl);obtain⟨vs,k,U,r1,q1⟩:=T;obtain⟨z,O,a,b,e,⟨xs,as⟩,⟨ys,E⟩,q⟩:=q1;subst e;obtain⟨w1,w2,Q,G,M⟩:=sV r1;subst Q;cases G;cases M;obtain⟨N,bm,t,z1⟩:=U.sq as;obtain⟨P,br,u,z2⟩:=U.sq E;have W:=t.lt;have lb:=u.lt;refine callType_new F.called_zip ⋯ (F.typeCall_zip_2 _ _) (F.newCall_zip_2 _ _) (λobj=>F.args_object_init_3 obj _ _) F.entry_zip_new (gO z O a b N.toArray P.toArray) ⟨t,u,?_⟩;have keep : ∀c o,d.heap.get? c=cq o->(JH z O d.heap a b).get? c=cq o:=λc o e=>
  HV _ (HV _<|HV _<|HV _<|HV _ e)
 have w:(IA d.heap<|hL z a).objs.size=d.heap.objs.size+1:=IU ..;have x:(IA (IA d.heap<|hL z a)<|hL O b).objs.size=d.heap.objs.size+2:=by rw[IU,w]
 have y:(IA (IA (IA d.heap<|hL z a)<|hL O b)<|wj (.ref d.heap.objs.size)<|.ref<|d.heap.objs.size+1).objs.size=d.heap.objs.size+3:=by rw[IU,x]
 have y4:(IA (IA (IA (IA d.heap<|hL z a)<|hL O b)<|wj (.ref d.heap.objs.size)<|.ref<|d.heap.objs.size+1)<|wj .none .none).objs.size=d.heap.objs.size+4:=by rw[IU,y]
 have g0:i5 z (JH z O d.heap a b) d.heap.objs.size a 0:=(vK z d.heap a).at λo e=>HV _<|HV _<|HV _<|HV _ e;have g1:i5 O (JH z O d.heap a b) (d.heap.objs.size+1) b 0:=by have q:=vK O (IA d.heap<|hL z a) b;rw[w]at q;exact q.at λo e=>HV _<|HV _<|HV _ e
 have g2:pa (JH z O d.heap a b) (d.heap.objs.size+2) (.ref d.heap.objs.size) (.ref<|d.heap.objs.size+1):=by have q:_=cq (wj (.ref d.heap.objs.size)<|.ref<|d.heap.objs.size+1):=Iq (IA (IA d.heap<|hL z a)<|hL O b) (o:=wj (.ref d.heap.objs.size)<|.ref<|d.heap.objs.size+1) rfl;rw[x]at q;exact HV _<|HV _ q
 have g3:pa (JH z O d.heap a b) (d.heap.objs.size+3) .none .none:=by have q:_=cq (wj .none .none):=Iq (IA (IA (IA d.heap<|hL z a)<|hL O b)<|wj (.ref d.heap.objs.size)<|.ref<|d.heap.objs.size+1) (o:=wj .none .none) rfl;rw[y]at q;exact HV _ q
 have j:n9 (JH z O d.heap a b) (d.heap.objs.size+4) (d.heap.objs.size+2) (d.heap.objs.size+3) .none:=by have q:=Iq (IA (IA (IA (IA d.heap<|hL z a)<|hL O b)<|wj (.ref d.heap.objs.size)<|.ref<|d.heap.objs.size+1)<|wj .none .none) (o:=sG (d.heap.objs.size+2)<|d.heap.objs.size+3) rfl;rw[y4]at q;exact q
 refine⟨⟨_,j,rfl⟩,OR (s:={d with heap:=JH z O d.heap a b}) j ?_⟩;have B:Inv X g A k {d with heap:=JH z O d.heap a b,toks:=d.toks}:=U.kept keep;have nn : ∀m:Nat,d.heap.objs.size≠d.heap.objs.size+m+1:=λm=>by omega
 have Y : ∀m:Nat,a≠d.heap.objs.size+m:=λm=>IJ<|IC W<|IM _ m;have i : ∀m:Nat,b≠d.heap.objs.size+m:=λm=>IJ<|IC lb<|IM _ m;have f : ∀m n:Nat,m≠n->(d.heap.objs.size+m:Nat)≠d.heap.objs.size+n:=λm n h=>by omega
 have D:P9 (d.heap.objs.size+4) (d.heap.objs.size+2) (d.heap.objs.size+3) d.heap.objs.size (d.heap.objs.size+1) a b:=
  ⟨f 2 4 ⋯,f 3 4 ⋯,f 0 4 ⋯,f 1 4 ⋯,f 2 3 ⋯,f 2 0 ⋯,f 2 1 ⋯,f 3 0 ⋯,f 3 1 ⋯,f 0 1 ⋯,
   Y 4,Y 3,Y 0,Y 1,i 4,i 3,i 0,i 1⟩
 refine⟨_,[d.heap.objs.size+4,d.heap.objs.size+2,d.heap.objs.size+3,d.heap.objs.size,d.heap.objs.size+1],_,_,k,rfl,B,gW z O D,⟨j,g2,⟨_,_,g3⟩,g0,g1⟩,λc r=>?_,q⟩;have l:d.heap.objs.size<=c:=by
  simp only[Il,IH,or_false]at r;rcases r with rfl | rfl | rfl | rfl | rfl
  ·exact IM _ _
  ·exact IM _ _
  ·exact IM _ _
  ·exact Ic _
  ·exact IM _ _
 exact U.B6 l<|U.f9.fresh l
noncomputable def Sm(k:Sk)(K:HR)(a:eh):It:=match k with
 | .L=>Sn K a
 | .T=>So K a
noncomputable def Ho(K:HR)(C:TE):TI:=λe H R=>C e H λx b=>∃a k,x = .ref a/\(∃d,kr k K b a d)/\R (Sm k K a) b
theorem dc(U:PE X l tl):PI X tg l (Ho X.K tl):=by
 intro d s r H R I h;refine ft (U d s r H _ I h) λv f Y=>?_;obtain⟨x,g,z,n,m⟩:=Y;obtain⟨a,k,e,⟨y,j⟩,q⟩:=m;subst e;cases n;have O : ∀b ∈ [f.heap.objs.size],wI X d g b:=λb i=>by
  have e:b=f.heap.objs.size:=by simpa using i
  subst e;exact z.B6 (Ic _)<|z.f9.fresh<|Ic _
 obtain⟨t,w,p,u⟩:=z.sq j;cases k with
 | L=>exact PL p ⟨f.heap.objs.size,[f.heap.objs.size],_,_,g,rfl,z.kept (t':=f.toks) λb o e=>HV _ e,bG a _,⟨_,Iq _ rfl,rfl,rfl⟩,O,q⟩
 | T=>exact Ou p ⟨f.heap.objs.size,[f.heap.objs.size],_,_,g,rfl,z.kept (t':=f.toks) λb o e=>HV _ e,WZ a _,⟨_,Iq _ rfl,rfl,rfl⟩,O,q⟩
section
variable{κ:Type} [DecidableEq κ]
noncomputable def VG(C:List (κ×V))(k:κ):Option V:=(C.find? λz=>decide<|z.1=k).map (·.2)
noncomputable def bj(C:List (κ×V))(k:κ)(v:V):List (κ×V):=
 if (C.any λz=>decide<|z.1=k)=di then C.map (λz=>if z.1=k then (z.1,v)else z)else C++[(k,v)]
theorem QZ{p:κ×V}{r:List (κ×V)}{k:κ}(e:p.1=k):VG (p::r) k=cq p.2:=by simp[VG,MA,e]
theorem VF{p:κ×V}{r:List (κ×V)}{k:κ}(e : ¬p.1=k):VG (p::r) k=VG r k:=by simp[VG,MA,e]
theorem ZY(C:List (κ×V))(k:κ)(v:V):(bj C k v).length<=C.length+1:=by
 unfold bj;split
 ·rw[IE];omega
 ·rw[LG,IS,Lj];omega
theorem zl.SH(r:zl o u):o.isSome=u.isSome:=by
 cases o with
 | none=>cases u with
  | none=>rfl
  | some _=>exact(show False from r).elim
 | some _=>cases u with
  | none=>exact(show False from r).elim
  | some _=>rfl
theorem KV.val{C:List (κ×V)}{vs:List (κ×ej)}(r:KV C vs)(k:κ):zl (VG C k) (E7 vs k):=by
 unfold KV at r
 induction r with
 | nil=>exact MG
 | @cons p q f I h t U=>
  obtain⟨a,d⟩:=h;by_cases e:p.1=k
  ·have O:q.1=k:=a.symm.trans e
   have b:E7 (q::I) k=cq q.2:=by simp[E7,MA,O]
   rw[QZ e,b];exact d
  ·have O : ¬q.1=k:=λz=>e (a.trans z)
   have b:E7 (q::I) k=E7 I k:=by simp[E7,MA,O]
   rw[VF e,b];exact U
theorem KV.any(r:KV m4 vs)(k:κ):(m4.any λz=>decide<|z.1=k)=vs.any λz=>decide (z.1=k):=by
 unfold KV at r
 induction r with
 | nil=>rfl
 | cons h t I=>rw[Ov,Ov,I,h.1]
theorem KV.T7(r:KV m4 vs)(k:κ)(O:RelV y u) :
 KV (m4.map λI=>if I.1=k then (I.1,y)else I) (vs.map λI=>if I.1=k then (I.1,u)else I):=by
 unfold KV at r ⊢
 induction r with
 | nil=>exact .nil
 | @cons p q d Y h t U=>
  rw[IQ,IQ];refine .cons ?_ U;obtain⟨a,b⟩:=h;by_cases e:p.1=k
  ·rw[RY e,RY (a.symm.trans e)];exact⟨a,O⟩
  ·rw[EQ e,EQ (λz=>e<|a.trans z)];exact⟨a,b⟩
theorem KV.put(r:KV m4 vs)(k:κ)(z:RelV y u):KV (bj m4 k y) (stored vs k u):=by
 unfold bj stored;rw[r.any k];by_cases e:(vs.any λI=>decide<|I.1=k)=di
 ·rw[RY e,RY e];exact r.T7 k z
 ·rw[EQ e,EQ e];exact Paired.snoc r ⟨rfl,z⟩
theorem KV.length(r:KV m4 vs):m4.length=vs.length:=Paired.length r
end
theorem lM(r:RelV (kV k) u):(qZ P w).is k u=di:=by
 cases k with
 | inl i=>obtain⟨t,e⟩:=(show ∃t,u=Pc i t from r);subst e;exact Y7 P w i t
 | inr x=>obtain⟨t,e⟩:=(show ∃t,u=Pb x t from r);subst e;exact Y6 P w x t
theorem Ya : ∀{ks:List Key} {us:List ej},fy (ks.map kV) us->ItemsAre (qZ P w) ks us
 | [],_,r=>by rw[OI]at r;cases r;exact .nil
 | k::ks,_,r=>by
  rw[IQ]at r;cases r with
  | cons h t=>exact .cons (lM h)<|Ya t
abbrev KT(H:Hp):List (List Key×V)->List (List Key×eh×ej)->Prop:=Paired λp q=>p.1=q.1/\H q.2.1=cq (.tup (p.1.map kV))/\RelV p.2 q.2.2
theorem KT.val{H:Hp}{C:List (List Key×V)}{xs:List (List Key×eh×ej)}(r:KT H C xs)(k:List Key):zl (VG C k) ((D5 xs k).map (·.2)):=by
 induction r with
 | nil=>exact MG
 | @cons p q f I h t U=>
  obtain⟨a,_,d⟩:=h;by_cases e:p.1=k
  ·have O:q.1=k:=a.symm.trans e
   have b:D5 (q::I) k=cq q.2:=by simp[D5,MA,O]
   rw[QZ e,b];exact d
  ·have O : ¬q.1=k:=λz=>e (a.trans z)
   have b:D5 (q::I) k=D5 I k:=by simp[D5,MA,O]
   rw[VF e,b];exact U
section
variable{P:i8}{w:hB}{H:Hp}{h:f6}{a:eh}
theorem ur(ok:m3 P w H h)(e:Rd H a u):md P w H h a u:=e.ok ok
theorem lY(ok:m3 P w H h)(e:Rd H a (.dK m4)):m4.length<=gm/\(a==Dn)=d7/\∃vs,KV m4 vs/\h.DictOf (qZ P w) a vs:=
 show md P w H h a (.dK m4)from ur ok e
theorem EL(ok:m3 P w H h)(e:H a=cq (.dK m4)):m4.length<=gm/\(a==Dn)=d7/\∃vs,KV m4 vs/\h.DictOf (qZ P w) a vs:=lY ok<|.inl e
theorem dX(ok:m3 P w H h)(e:H a=cq (.tup<|ks.map kV)):(Tc<|qZ P w).is h ks a:=by obtain⟨_,z,r,o,b,d,n,I⟩:=(show md P w H h a (.tup<|ks.map kV)from ok a _ e);exact⟨o,z.toArray,n,b,(Prod.mk.inj d).1,I,by simpa using Ya r⟩
theorem rV(ok:m3 P w H h)(e:Rd H a (.dT m4)):m4.length<=gm/\(a==Dn)=d7/\
 ∃xs,KT H m4 xs/\h.DictOfH (Tc<|qZ P w) a xs:=by
 obtain⟨z,y,xs,r,o,b,O,d,f,U,Y,g⟩:=(show md P w H h a (.dT m4)from ur ok e);refine⟨z,y,xs,r,o,b,O,d,f,U,Y,λx hx=>?_,g⟩;have all : ∀{l:List (List Key×V)} {m:List (List Key×eh×ej)},KT H l m->∀x∈m,(Tc<|qZ P w).is h x.1 x.2.1:=by
  intro l m q
  induction q with
  | nil=>intro x hx;exact nomatch hx
  | @cons p q j k I t i=>
   intro x hx;rcases Il.mp hx with e | hx
   ·subst e
    exact dX ok (by rw[<- I.1];exact I.2.1)
   ·exact i x hx
 exact all r x hx
end
noncomputable def Bw(H:Hp)(a:eh)(y:V)(r:Option V):Prop:=
 (∃d k,Rd H a (.dK d)/\y=kV k/\r=VG d k)\/∃d k b,Rd H a (.dT d)/\y = .ref b/\H b=cq (.tup<|k.map kV)/\r=VG d k
section
variable{X:Cx}{pins:RW}{σ:St}{H:Hp}{s:eF}{a:eh}{y v:V}{u r:ej}{o:Option V}{A:m9}{E:RQ}
theorem Inv.big(I:Inv X pins σ H s):Dn<s.heap.objs.size:=by have h:A4<s.heap.objs.size:=(I.mod.glob.keeps I.bk).lt;exact Nat.lt_trans ⋯ h
theorem fI(S:A.units+1<DN)(I:Inv X pins σ H s)(g:Bw H a y (cq v))(J:RelV y u)(h : ∀C L,Inv X pins σ H L->RelV v C->Q C L) :
 wpAny (eP X.prog X.w) A (Dh (.ref a) u) Q E s:=by
 rcases g with⟨i,k,e,O,l⟩ | ⟨i,k,b,e,O,m,l⟩
 ·subst O
  obtain⟨z,n,t,U,Y⟩:=lY I.f9 e;obtain⟨C,f,d⟩:=zl.some_of (v:=v) (o:=E7 t k) (by rw[l];exact U.val k);exact wpAny_getItem_of (lM J) Y.mapOf f<|h C _ (I.tok _) d
 ·subst O
  cases (show u=LX b from J);obtain⟨z,n,x,U,Y⟩:=rV I.f9 e;obtain⟨C,f,d⟩:=zl.some_of (v:=v) (o:=(D5 x k).map (·.2)) (by rw[l];exact U.val k);obtain⟨p,r,j⟩:=Option.map_eq_some_iff.mp f;refine wpAny_getItem_heap (Uj S) (dX I.f9 m) Y r ?_;rw[j];exact h C _ (I.tok _) d
theorem Hu(L:A.units+1<DN)(I:Inv X pins σ H s)(g:Bw H a y o)(C:RelV y u)(h : ∀J,Inv X pins σ H J->Q (.bool o.isSome) J) :
 wpAny (eP X.prog X.w) A (n4 .In u<|.ref a) Q E s:=by
 rcases g with⟨f,k,e,O,l⟩ | ⟨f,k,b,e,O,i,l⟩
 ·subst O
  obtain⟨z,d,j,U,Y⟩:=lY I.f9 e;refine wpAny_in_of (lM C) d Y.mapOf ?_;rw[<- (U.val k).SH,<- l];exact h _<|I.tok _
 ·subst O
  cases (show u=LX b from C);obtain⟨z,d,m,U,Y⟩:=rV I.f9 e;refine wpAny_in_heap (Uj L) (dX I.f9 i) d Y ?_;have q:=(U.val k).SH;rw[Option.isSome_map]at q;rw[<- q,<- l];exact h _<|I.tok _
theorem rX(I:Inv X pins σ H s)(O:F1 (H a))(U:MP a s.heap h')(Y : ∃q,h'.get? a=cq q)(new:md X.prog X.w (upd H a ob) h' a ob) :
 Inv X pins σ (upd H a ob) {s with heap:=h',toks:=t'}:=
 I.write (x:=a) (e:=a) O (.inl rfl) (λb q d z=>(U.2 b d).trans z) Y new
theorem AX(z:m4.length<=gm)(C:(a==Dn)=d7)(I:KV m4 vs)(O:h'.DictOf (qZ P w) a vs) :
 md P w H' h' a (.dK m4):=⟨z,C,vs,I,O⟩
end
def FC(i:eA):Prop:=∀z I,R8 i d7 z I=operate [z,I] (Dh z I)
theorem oz{prog:i8}{w:hB}{A:m9}{E:RQ}{s:eF}{env:o9}{C z:eA}{pos:gu}{T id:String}{Q:RQ}
 (J:O8 (.type T) "__getitem__" = pure (cq (.builtin id))) (L:FC z)
 (h:wpAny (eP prog w) A (eB C env) (λo Y=>wpAny (eP prog w) A (eB z env) (λi I=>I.TypeIs o T/\wpAny (eP prog w) A (Dh o i) Q E I) E Y) E s) :
 wpAny (eP prog w) A (eB (.Subscript C z pos) env) Q E s:=by
 refine Su<|Mq h (λo Y b=>Mq b (λi I O=>?_) λ_ _ x=>x) λ_ _ x=>x;obtain⟨e,O⟩:=O;unfold S3;refine HS ?_;rw[getitemInPython_of_ne e.not_modules];refine HS<|wpAny_specialOf e J ?_;have U:wpAny (eP prog w) A (R8 z d7 o i) (λr a=>wpAny (eP prog w) A (letTemporaryGo C o r >>= λ_=>pure r) Q E a) E I:=by rw[L o i];exact wpAny_operating<|Mq O (λr a d=>HS<|wpAny_letTemporaryGo<|Ie d) λ_ _ x=>x
 first
  | exact Ie<|HS U
  | exact HS<|Ie<|HS U
  | exact HS U
theorem Vl(I:Inv X pins σ H s)(g:Bw H a y o):s.TypeIs (.ref a) "dict":=by
 rcases g with⟨d,k,e,_,_⟩ | ⟨d,k,b,e,_,_,_⟩
 ·obtain⟨_,_,f,_,z⟩:=lY I.f9 e
  exact z.typeIs
 ·obtain⟨_,_,h,_,z⟩:=rV I.f9 e
  exact z.typeIs
noncomputable def CH(C ty:TE):TE:=λd H Q=>C d H λx e=>ty d e λy b=>∃a v,x = .ref a/\Bw b a y (cq v)/\Q v b
noncomputable def GM(ty C:TE):TE:=λd H Q=>ty d H λy e=>C d e λx b=>∃a o,x = .ref a/\Bw b a y o/\Q (.bl o.isSome) b
section
variable{X:Cx}{o i e value:eA}{pos pos' tf:gu}{td ty tv:TE}
theorem pJ(O:X.A.units+1<DN)(U:PE X o td)(C:PE X i ty)(Y:FC i):PE X (.Subscript o i pos) (CH td ty):=by intro b s d H Q I h;refine oz PySem.F.slot_dict_getitem.lookup Y<|ft (U b s d H _ I h) λu w ⟨x,e,j,r,n⟩=>ft (C b w d e _ j n) λB E ⟨y,f,z,t,a,v,m,g,p⟩=>?_;subst m;obtain rfl:u=LX a:=r;exact⟨Vl z g,fI O z g t λJ G k l=>⟨v,f,k,l,p⟩⟩
theorem Af(z:X.A.units+1<DN)(C:PE X i ty)(O:PE X o td):PC X .In i o (GM ty td):=by intro b s d H Q I h;refine ft (C b s d H _ I h) λw t ⟨y,e,U,Y,n⟩=>ft (O b t d e _ U n) λu B ⟨x,f,j,r,a,m,l,g,p⟩=>?_;subst l;obtain rfl:u=LX a:=r;exact Hu z j g Y λE k=>⟨.bl m.isSome,f,k,rfl,p⟩
end
theorem lZ(h:f6)(z:Dn<h.objs.size):md P w H (h.push {cls:= .type "dict",data:= .dict #[]}) h.objs.size (.dK []):=
 ⟨Lp _,beq_eq_false_iff_ne.mpr<|IT<|IJ z,[],.nil,Heap.DictOf.new h⟩
end L2
namespace DL
open PySem PySem.Spec PyProof.Rows L2
noncomputable def O9:List Str:=["NoPrime","Nought","NoTable","NoWidths","NoRow","Unlike","TooMany","NoTurn","NoLine","Nothing","NoArrow","NoText","NoRoom"]
noncomputable def sT(K:HR)(c:Str):Option eh:=match PySem.W.nsIn K A4 c with
 | some (cq (.ref C))=>cq C
 | _=>dn
noncomputable def GE(K:HR)(C:eh):Bool:=
 ["int","bool","str","tuple","list"].all (λt=>MW K (.ref C) (.type t)==cq d7) && MW K (.ref C) (.type "ValueError")==cq di &&
 NX K (.ref C) "__getattribute__" == cq (cq (.builtin "BaseException.__getattribute__")) && NX K (.ref C) "__getattr__" == cq dn &&
 NX K (.ref C) "__class__" == cq (cq (.builtin "object.__class__")) && PySem.W.mroIn K C (.type "object")==cq di && PySem.W.mroIn K C (.type "BaseException")==cq di &&
 PySem.W.specialIn K (.builtin "object.__class__") "__get__" == cq (cq (.builtin "getset_descriptor.__get__")) && PySem.W.takesIn K (.builtin "object.__class__")==cq di &&
 (PySem.W.clsIn K C).any (λz=> !z.hasDel) && PySem.W.typeIn K (.ref C)==cq (.type "type")
noncomputable def FH(K:HR):Bool:=match sT K "SplitError" with
 | some S=>O9.all λc=>match sT K c with
  | some C=>GE K C && MW K (.ref C) (.ref S)==cq di && O9.all λz=>match sT K z with
   | some I=>MW K (.ref C) (.ref I)==cq (c==z)
   | none=>d7
  | none=>d7
 | none=>d7
noncomputable def Hz(h:f6)(a:eh)(C:eh):Prop:=∃o b,h.get? a=cq o/\o.cls = .ref C/\o.data = .fields b
structure P8(K:HR)(H:Hp)(c:Str)(n:Option Int)(a:eh):Prop where
 all:FH K=di
 mem:c∈O9
 ex : ∃C φ,sT K c=cq C/\H a=cq (.ext φ)/\(∀h,φ h->Hz h a C)/\
  match n with
  | none=>True
  | some i=>∃d,(∀h,φ h->∃o,h.get? a=cq o/\o.dict=cq d)/\H d=cq (.xd [(if c==("NoRoom" : Str)then "room" else "at",.int i)])
theorem P8.mono{K:HR}{H H':Hp}{c:Str}{n:Option Int}{a:eh}(e : ∀b o,H b=cq o->H' b=cq o)(h:P8 K H c n a):P8 K H' c n a:=by
 obtain⟨f,g,C,j,I,g2,O,z⟩:=h;refine⟨f,g,C,j,I,e _ _ g2,O,?_⟩;cases n with
 | none=>exact z
 | some i=>obtain⟨d,U,Y⟩:=z;exact⟨d,U,e _ _ Y⟩
abbrev St:=L2.St
noncomputable def AD:D->Option Key
 | .int i=>cq (.inl i)
 | .str x=>cq (.inr x)
 | _=>dn
noncomputable def K6:List D->Option (List Key)
 | []=>cq []
 | d::ds=>(AD d).bind λk=>(K6 ds).map λr=>k::r
noncomputable def DF(H:Hp)(a:eh)(ks:List D)(xs:List V):Prop:=∃b,K6 ks=cq b/\b.length=xs.length/\H a=cq (.dK<|b.zip xs)
noncomputable def Cz(k:List Int):Int:=reduceHash<|Builtin.Tuple.tupleHashOf<|k.map hashInt
noncomputable def HD(o:ni)(xs:List (List Int×eh×ej)):Prop:=o.ExactDict/\∃a z,o.data = .dict a z/\a.toList=xs.map (λx=>⟨Cz x.1,.ref x.2.1,x.2.2⟩)/\(xs.map (·.1)).Nodup
def Sv(a:eh)(o:ni):HO:= .ext λh=>h.get? a=cq o
noncomputable def L3(K:HR)(H:Hp)(a:eh)(ks:List (List Int))(ys:List V):Prop:=
 (a==Dn)=d7/\∃o b,H a=cq (Sv a o)/\HD o b/\b.map (·.1)=ks/\b.length<=gm/\(∀x∈b,gR K H x.2.1<|x.1.map V.int)/\fy ys (b.map (·.2.2))
mutual
def Rep(K:HR)(H:Hp):D->V->Prop
 | .fh,v=>v = .fh
 | .bl b,v=>v = .bl b
 | .int i,v=>v = .int i
 | .str x,v=>v = .str x
 | .tup ds,v=>∃a d,v = .ref a/\gR K H a d/\el K H ds d
 | .lst ds,v=>∃a d,v = .ref a/\gB K H a d/\el K H ds d
 | .m7 ks vs,v=>∃a d,v = .ref a/\DF H a ks d/\el K H vs d
 | .ml ks vs,v=>∃a d,v = .ref a/\L3 K H a ks d/\el K H vs d
def el(K:HR)(H:Hp):List D->List V->Prop
 | [],xs=>xs=[]
 | d::ds,xs=>∃x r,xs=x::r/\Rep K H d x/\el K H ds r
end
theorem mu{K:HR}{H H':Hp}{a:eh}{xs:List V}(e:gv H H')(h:gR K H a xs):gR K H' a xs:=by
 rcases h with(h | ⟨o,h⟩) | h
 ·exact .inl<|.inl<|e _ _ h
 ·exact .inl<|.inr ⟨o,e _ _ h⟩
 ·exact .inr h
theorem kB{k:Sk}{K:HR}{H H':Hp}{a:eh}{xs:List V}(e:gv H H')(h:kr k K H a xs):kr k K H' a xs:=by
 cases k
 ·exact e.seq h
 ·exact mu e h
mutual
theorem Rep.mono{K:HR}{H H':Hp}(e:gv H H') : ∀{d:D} {v:V},Rep K H d v->Rep K H' d v
 | .fh,_,h=>h
 | .bl _,_,h=>h
 | .int _,_,h=>h
 | .str _,_,h=>h
 | .tup ds,v,h=>by obtain⟨a,b,f,i,g⟩:=(show ∃a b,v = .ref a/\gR K H a b/\el K H ds b from h);exact(show ∃a b,v = .ref a/\gR K H' a b/\el K H' ds b from⟨a,b,f,mu e i,el.mono e g⟩)
 | .lst ds,v,h=>by obtain⟨a,b,f,i,g⟩:=(show ∃a b,v = .ref a/\gB K H a b/\el K H ds b from h);exact(show ∃a b,v = .ref a/\gB K H' a b/\el K H' ds b from⟨a,b,f,e.seq i,el.mono e g⟩)
 | .m7 ks vs,v,h=>by obtain⟨a,b,f,⟨k,z,g2,I⟩,g⟩:=(show ∃a b,v = .ref a/\DF H a ks b/\el K H vs b from h);exact(show ∃a b,v = .ref a/\DF H' a ks b/\el K H' vs b from⟨a,b,f,⟨k,z,g2,e _ _ I⟩,el.mono e g⟩)
 | .ml ks vs,v,h=>by obtain⟨a,b,f,⟨z,o,l,g2,I,O,U,g6,Y⟩,g⟩:=(show ∃a b,v = .ref a/\L3 K H a ks b/\el K H vs b from h);exact(show ∃a b,v = .ref a/\L3 K H' a ks b/\el K H' vs b from⟨a,b,f,⟨z,o,l,e _ _ g2,I,O,U,λx j=>mu e<|g6 x j,Y⟩,el.mono e g⟩)
theorem el.mono{K:HR}{H H':Hp}(e:gv H H') : ∀{ds:List D} {xs:List V},el K H ds xs->el K H' ds xs
 | [],_,h=>h
 | d::ds,xs,h=>by obtain⟨x,r,a,b,f⟩:=(show ∃x r,xs=x::r/\Rep K H d x/\el K H ds r from h);exact(show ∃x r,xs=x::r/\Rep K H' d x/\el K H' ds r from⟨x,r,a,Rep.mono e b,el.mono e f⟩)
end
section
variable{K:HR}{H:Hp}
theorem el.nil:el K H [] []:=(show([]:List V)=[]from rfl)
theorem el.cons(h:Rep K H d x)(t:el K H ds xs):el K H (d::ds) (x::xs):=⟨x,xs,rfl,h,t⟩
theorem el.su(h:el K H [] xs):xs=[]:=h
theorem el.ow(h:el K H (d::ds) xs) : ∃x r,xs=x::r/\Rep K H d x/\el K H ds r:=h
theorem el.length : ∀{ds:List D} {xs:List V},el K H ds xs->xs.length=ds.length
 | [],xs,h=>by rw[h.su];rfl
 | d::ds,xs,h=>by obtain⟨x,r,e,_,t⟩:=h.ow;rw[e,IS,IS,el.length t]
theorem el.get : ∀{ds:List D} {xs:List V} {i:Nat} {d:D},el K H ds xs->ds[i]? = cq d->∃x,xs[i]? = cq x/\Rep K H d x
 | [],_,_,_,_,e=>by simp at e
 | c::ds,xs,0,d,h,e=>by obtain⟨x,r,a,b,_⟩:=h.ow;simp at e;subst e;exact⟨x,by rw[a];rfl,b⟩
 | c::ds,xs,i+1,d,h,e=>by obtain⟨x,r,a,_,t⟩:=h.ow;obtain⟨y,z,g2⟩:=el.get (i:=i) (d:=d) t (by simpa using e);exact⟨y,by rw[a];simpa using z,g2⟩
theorem el.B7{ds:List D}{xs:List V}{i:Nat}{x:V}(h:el K H ds xs)(e:xs[i]? = cq x) : ∃d,ds[i]? = cq d/\Rep K H d x:=by
 have b:i<ds.length:=by rw[<- h.length];exact(Io.mp e).1
 obtain⟨y,a,r⟩:=h.get<|HX b;rw[e]at a;cases a;exact⟨_,HX b,r⟩
theorem el.append : ∀{ds C:List D} {xs ys:List V},el K H ds xs->el K H C ys->el K H (ds++C) (xs++ys)
 | [],_,xs,_,h,g=>by rw[h.su];exact g
 | d::ds,C,xs,ys,h,g=>by obtain⟨x,r,e,a,t⟩:=h.ow;rw[e];exact el.cons a<|el.append t g
theorem el.drop : ∀{ds:List D} {xs:List V} (n:Nat),el K H ds xs->el K H (ds.drop n) (xs.drop n)
 | _,_,0,h=>h
 | [],xs,n+1,h=>by rw[h.su];exact el.nil
 | d::ds,xs,n+1,h=>by obtain⟨x,r,e,_,t⟩:=h.ow;rw[e];exact el.drop n t
theorem el.take : ∀{ds:List D} {xs:List V} (n:Nat),el K H ds xs->el K H (ds.take n) (xs.take n)
 | _,_,0,h=>by simp;exact el.nil
 | [],xs,n+1,h=>by rw[h.su];exact el.nil
 | d::ds,xs,n+1,h=>by obtain⟨x,r,e,a,t⟩:=h.ow;rw[e];exact el.cons a<|el.take n t
theorem el.set : ∀{ds:List D} {xs:List V} {d:D} {x:V} (i:Nat),el K H ds xs->Rep K H d x->el K H (ds.set i d) (xs.set i x)
 | [],xs,_,_,_,h,_=>by rw[h.su];exact el.nil
 | c::ds,xs,d,x,0,h,g=>by obtain⟨y,r,e,_,t⟩:=h.ow;rw[e];exact el.cons g t
 | c::ds,xs,d,x,i+1,h,g=>by obtain⟨y,r,e,a,t⟩:=h.ow;rw[e];exact el.cons a<|el.set i t g
end
structure Ext(H0 H sh H':Hp):Prop where
 s0:gv H0 sh
 s1:gv H H'
 sub:gv sh H'
 new : ∀a,H0 a=dn->H a≠dn->sh a=dn
theorem Ext.refl(s:gv H0 H):Ext H0 H H0 H:=⟨gv.refl _,gv.refl _,s,λ_ h _=>h⟩
theorem Ext.trans(a:Ext H0 H H1 G1)(b:Ext H1 G1 H2 G2):Ext H0 H H2 G2:=
 ⟨a.s0.trans b.s0,a.s1.trans b.s1,b.sub,λc e d=>b.new c (a.new c e d) (by
  cases q:H c with
  | none=>exact absurd q d
  | some o=>rw[a.s1 c o q];simp)⟩
theorem z7(h:H p=dn)(o:HO):gv H (upd H p o):=λb u q=>by rw[zD (j5 q h)];exact q
theorem jf(s:gv H0 H)(h:H p=dn):H0 p=dn:=s.free h
theorem Kv(s:gv H0 H):gv (upd H0 p o) (upd H p o):=λb u q=>by
 by_cases e:b=p
 ·subst e;rw[zG]at q ⊢;exact q
 ·rw[zD e]at q ⊢;exact s b u q
theorem Ext.alloc(s:gv H0 H)(h:H p=dn)(o:HO):Ext H0 H (upd H0 p o) (upd H p o):=
 ⟨z7 (jf s h) o,z7 h o,Kv s,λa b d=>by rw[zD (λe=>d<|by rw[e];exact h)];exact b⟩
theorem Ext.hide(s:gv H0 H)(h:H p=dn)(o:HO):Ext H0 H H0 (upd H p o):=
 ⟨gv.refl _,z7 h o,s.trans<|z7 h o,λa b _=>b⟩
theorem Ext.show(e:Ext H0 H sh H')(C:H a=dn)(J:sh a=dn)(O:H' a=cq o)(s:gv H0 H):Ext H0 H (upd sh a o) H':=
 ⟨e.s0.trans<|z7 J o,e.s1,λb u q=>by
  by_cases z:b=a
  ·subst z;rw[zG]at q;rw[O];exact q
  ·rw[zD z]at q;exact e.sub b u q,λb U I=>by
  rw[zD (λz=>I<|by rw[z];exact C)];exact e.new b U I⟩
structure y0(K:HR)(H0 H:Hp)(rows:List (List D))(a:eh)(bs:List eh):Prop where
 a0:H0 a=dn
 ha:H a=cq (.lst<|bs.map V.ref)
 nd:(a::bs).Nodup
 len:bs.length=rows.length
 row : ∀(k:Nat) b row,bs[k]? = cq b->rows[k]? = cq row->H0 b=dn/\∃xs,H b=cq (.lst xs)/\el K H0 row xs
theorem y0.at{K:HR}{H0 H:Hp}{C:List (List D)}{a:eh}{bs:List eh}(n:y0 K H0 H C a bs){b:eh}(z:b∈a::bs):H0 b=dn/\∃xs,H b=cq (.lst xs):=by
 rcases Il.mp z with rfl | z
 ·exact⟨n.a0,_,n.ha⟩
 ·obtain⟨k,I⟩:=OT z
  have O:=(Io.mp I).1;rw[n.len]at O;obtain⟨d,xs,e,_⟩:=n.row k b _ I<|HX O;exact⟨d,xs,e⟩
theorem y0.move{K:HR}{H0 H J H':Hp}{C:List (List D)}{a:eh}{bs:List eh}(n:y0 K H0 H C a bs)(s:gv H0 J)(z : ∀b∈a::bs,J b=dn)(h : ∀b∈a::bs,H' b=H b):y0 K J H' C a bs:=
 ⟨z a Iy,by rw[h a Iy];exact n.ha,n.nd,n.len,λk b row I U=>by obtain⟨_,e,d,Y⟩:=n.row k b row I U;have O:b∈a::bs:=Im _<|IY I;exact⟨z b O,e,by rw[h b O];exact d,Y.mono s⟩⟩
noncomputable def ri(K:HR)(H0 H:Hp)(C:St)(γ:Ctx):Prop:=
 (∀(i:Nat) b,γ[i]? = cq (.nest b)->∃a bs,C[i]? = cq (cq (.ref a))/\y0 K H0 H b a bs/\∀(j:Nat) d c,γ[j]? = cq (.own d)->C[j]? = cq (cq (.ref c))->c∉a::bs)/\
 ∀(i j:Nat) z e,γ[i]? = cq (.nest z)->γ[j]? = cq (.nest e)->i=j
theorem ri.DU{K:HR}{H0 H:Hp}{I:St}{γ:Ctx}(h : ∀(i:Nat) C,γ[i]? ≠ cq (.nest C)):ri K H0 H I γ:=⟨λi C e=>absurd e<|h i C,λi j z a e=>absurd e<|h i z⟩
theorem ri.move{K:HR}{H0 H J H':Hp}{L:St}{γ:Ctx}(n:ri K H0 H L γ)(s:gv H0 J)(h : ∀(i:Nat) C a bs,γ[i]? = cq (.nest C)->L[i]? = cq (cq (.ref a))->y0 K H0 H C a bs->(∀(j:Nat) ds c,γ[j]? = cq (.own ds)->L[j]? = cq (cq (.ref c))->c∉a::bs)->∀b∈a::bs,J b=dn/\H' b=H b):ri K J H' L γ:=
 ⟨λi C e=>by obtain⟨a,bs,d,f,z⟩:=n.1 i C e;exact⟨a,bs,d,f.move s (λb I=>(h i C a bs e d f z b I).1)<|λb I=>(h i C a bs e d f z b I).2,z⟩,n.2⟩
theorem ri.ext{K:HR}{H0 H C H':Hp}{J:St}{γ:Ctx}(n:ri K H0 H J γ)(e:Ext H0 H C H'):ri K C H' J γ:=
 n.move e.s0 λi d a bs _ _ f _ b z=>by obtain⟨I,g,g2⟩:=f.at z;exact⟨e.new b I (by rw[g2];simp),by rw[e.s1 b _ g2,g2]⟩
structure RC(K:HR)(H0 H:Hp)(σ:St)(γ:Ctx):Prop where
 sub:gv H0 H
 len:σ.length=γ.length
 val : ∀(i:Nat) d,γ[i]? = cq (.val d)->∃v,σ[i]? = cq (cq v)/\Rep K H0 d v
 own : ∀(i:Nat) ds,γ[i]? = cq (.own ds)->∃a xs,σ[i]? = cq (cq (.ref a))/\H0 a=dn/\H a=cq (.lst xs)/\el K H0 ds xs
 ne : ∀(i j:Nat) a ds es,γ[i]? = cq (.own ds)->γ[j]? = cq (.own es)->σ[i]? = cq (cq (.ref a))->σ[j]? = cq (cq (.ref a))->i=j
 o5:ri K H0 H σ γ
theorem RC.ext{K:HR}{H0 H C H':Hp}{J:St}{γ:Ctx}(r:RC K H0 H J γ)(e:Ext H0 H C H'):RC K C H' J γ:=
 ⟨e.sub,r.len,λi d h=>let ⟨v,b,f⟩:=r.val i d h;⟨v,b,f.mono e.s0⟩,
  λi g h=>let ⟨a,j,b,f,z,I⟩:=r.own i g h;⟨a,j,b,e.new a f (by rw[z];simp),e.s1 _ _ z,I.mono e.s0⟩,r.ne,r.o5.ext e⟩
noncomputable def tV(K:HR)(f:CO D):TE:=λh H Q=>∃e g d,RC K e H h g/\f g=cq d/\∀v b a,Ext e H a b->Rep K a d v->Q v b
noncomputable def tQ(K:HR)(f:CO (Sk×List D)):TE:=λj H Q=>∃g i k h,RC K g H j i/\f i=cq (k,h)/\∀a e d b,Ext g H b d->kr k K d a e->(k = .T->gR K b a e)->el K b h e->Q (.ref a) d
noncomputable def tO(K:HR)(f:CO (List D)):TE:=λj H Q=>∃e i g,RC K e H j i/\f i=cq g/\
 ∀a h d b,Ext e H b d->H a=dn->b a=dn->d a=cq (.lst h)->el K b g h->Q (.ref a) d
noncomputable def tT(K:HR)(f:CO Bool):TT:=λh H Q=>∃e g b,RC K e H h g/\f g=cq b/\∀d a,Ext e H a d->Q b d
noncomputable def tA(K:HR)(f:CO (List D)):TA:=λi H Q=>∃d h e,RC K d H i h/\f h=cq e/\∀g b a,Ext d H a b->el K a e g->Q g b
abbrev PV(X:Cx)(e:eA)(f:CO D):Prop:=PE X e (tV X.K f)
abbrev PQ(X:Cx)(e:eA)(f:CO (Sk×List D)):Prop:=PE X e (tQ X.K f)
abbrev PO(X:Cx)(e:eA)(f:CO (List D)):Prop:=PE X e (tO X.K f)
abbrev nf(X:Cx)(e:eA)(f:CO Bool):Prop:=PT X e (tT X.K f)
abbrev DJ(X:Cx)(e:eA)(f:CO Bool):Prop:=PW X e (tT X.K f)
abbrev C8(X:Cx)(es:List eA)(f:CO (List D)):Prop:=PA X es (tA X.K f)
theorem qg(h:PE X e t)(i : ∀C H Q,t' C H Q->t C H Q):PE X e t':=λa s C H Q I q=>h a s C H Q I<|i C H Q q
theorem KF(h:PT X e t)(i : ∀C H Q,t' C H Q->t C H Q):PT X e t':=λa s C H Q I q=>h a s C H Q I<|i C H Q q
theorem uB(h:PW X e t)(i : ∀C H Q,t' C H Q->t C H Q):PW X e t':=λz a s C H Q I q=>h z a s C H Q I<|i C H Q q
theorem Ag(h:PA X es t)(i : ∀C H Q,t' C H Q->t C H Q):PA X es t':=λpos a s C H Q I q=>h pos a s C H Q I<|i C H Q q
theorem kF{X:Cx}{st:jn}{t t':TS}(h:PS X st t)(i : ∀D C H,t' D C H->t D C H):PS X st t':=λa s C H D I q=>h a s C H D I<|i D C H q
theorem mZ{X:Cx}{st:List jn}{t t':TS}(h:p8 X st t)(i : ∀D C H,t' D C H->t D C H):p8 X st t':=λa s C H D I q=>h a s C H D I<|i D C H q
theorem JM(h:PI X tg e t)(i : ∀C H R,t' C H R->t C H R):PI X tg e t':=λa s C H R I q=>h a s C H R I<|i C H R q
theorem ky(h:n<=lim):n<=gm:=Lr h ⋯
section
variable{X:Cx}{e a b c:eA}{pos:gu}
theorem PV.q(h:PV X e f):PQ X e (z5 f):=qg h λt H Q U=>by
 obtain⟨s,p,k,i,rc,I,q⟩:=U;unfold z5 at I;cases e1:f p with
 | none=>rw[e1]at I;cases I
 | some d=>
  rw[e1]at I;refine⟨s,p,d,rc,e1,λv o b ext r=>?_⟩;cases d with
  | tup m=>
   obtain⟨l,O⟩:k = .T/\i=m:=by simp[jX]at I;exact⟨I.1.symm,I.2.symm⟩
   subst l O;obtain⟨a,g,rfl,j,n⟩:=(show ∃a g,v = .ref a/\gR X.K b a g/\el X.K b i g from r);exact q a g o b ext (mu ext.sub j) (λ_=>j) n
  | lst m=>
   obtain⟨l,O⟩:k = .L/\i=m:=by simp[jX]at I;exact⟨I.1.symm,I.2.symm⟩
   subst l O;obtain⟨a,g,rfl,j,n⟩:=(show ∃a g,v = .ref a/\gB X.K b a g/\el X.K b i g from r);exact q a g o b ext (ext.sub.seq j) (λz=>nomatch z) n
  | _=>simp[jX]at I
theorem PO.v(h:PO X e f):PV X e (jZ f):=qg h λo H Q U=>by
 obtain⟨j,i,d,rc,z,q⟩:=U;unfold jZ at z;cases e1:f i with
 | none=>rw[e1]at z;cases z
 | some b=>
  rw[e1]at z;cases z;refine⟨j,i,b,rc,e1,λa m n k ext l g Y r=>?_⟩;exact q _ _ _ (ext.show l g Y rc.sub) (show ∃I O,V.ref a = .ref I/\gB X.K _ I O/\el X.K _ b O from⟨a,m,rfl,gB.of zG,r.mono<|z7 g _⟩)
theorem PO.q(h:PO X e f):PQ X e (jv f):=qg h λp H Q O=>by
 obtain⟨i,d,k,l,rc,I,q⟩:=O;unfold jv at I;cases e1:f d with
 | none=>rw[e1]at I;cases I
 | some m=>
  rw[e1]at I;cases I;exact⟨i,d,_,rc,e1,λa j g b ext n o U r=>q a j g b ext (gB.of U) (λz=>nomatch z) r⟩
theorem uC(i:Nat)(h:PE X e (sH i)):PV X e (ze i):=qg h λm H Q I=>by
 obtain⟨b,j,d,rc,z,q⟩:=I;unfold ze at z;cases e1:j[i]? with
 | none=>rw[e1]at z;cases z
 | some c=>
  rw[e1]at z;cases c with
  | val k=>
   cases z;obtain⟨v,f,g⟩:=rc.val i d e1;exact⟨v,f,q v H b (Ext.refl rc.sub) g⟩
  | no=>cases z
  | own l=>cases z
  | nest a=>cases z
theorem uR(i:Nat)(h:PE X e (sH i)):PQ X e (zk i):=qg h λt H Q Y=>by
 obtain⟨f,s,k,g,rc,I,q⟩:=Y;unfold zk at I;cases e1:s[i]? with
 | none=>rw[e1]at I;cases I
 | some c=>
  rw[e1]at I;cases c with
  | no=>cases I
  | nest o=>cases I
  | own j=>
   cases I;obtain⟨a,b,m,n,p,r⟩:=rc.own i g e1;exact⟨_,m,q a b H f (Ext.refl rc.sub) (gB.of p) (λz=>nomatch z) r⟩
  | val d=>
   obtain⟨v,m,n⟩:=rc.val i d e1;refine⟨v,m,?_⟩;cases d with
   | tup j=>
    obtain⟨l,U⟩:k = .T/\g=j:=by simp[vn,jX]at I;exact⟨I.1.symm,I.2.symm⟩
    subst l U;obtain⟨a,b,rfl,O,g2⟩:=(show ∃a b,v = .ref a/\gR X.K f a b/\el X.K f g b from n);exact q a b H f (Ext.refl rc.sub) (mu rc.sub O) (λ_=>O) g2
   | lst j=>
    obtain⟨l,U⟩:k = .L/\g=j:=by simp[vn,jX]at I;exact⟨I.1.symm,I.2.symm⟩
    subst l U;obtain⟨a,b,rfl,O,g2⟩:=(show ∃a b,v = .ref a/\gB X.K f a b/\el X.K f g b from n);exact q a b H f (Ext.refl rc.sub) (rc.sub.seq O) (λz=>nomatch z) g2
   | _=>simp[vn,jX]at I
theorem w4(h:PE X e (tC v))(r : ∀H,Rep X.K H d v):PV X e (zA d):=qg h λg H Q z=>by obtain⟨a,f,b,rc,I,q⟩:=z;cases I;exact q v H a (Ext.refl rc.sub)<|r a
theorem zh:PV X (.Constant (.int i) j pos) (zA<|.int i):=w4 Ac λ_=>(show V.int i = .int i from rfl)
theorem wM:PV X (.Constant (.bool x) j pos) (zA<|.bl x):=w4 Ef λ_=>(show V.bl x = .bl x from rfl)
theorem KD:PV X (.Constant .none j pos) (zA .fh):=w4 Aa λ_=>(show V.fh = .fh from rfl)
theorem yz:PV X (.Constant (.str x) j pos) (zA<|.str x):=w4 uX λ_=>(show V.str x = .str x from rfl)
noncomputable def n5(K:HR)(r:R2)(F:D->D->Option D):Prop:=∀b H x y f z d Q,gv b H->Rep K b f x->Rep K b z y->F f z=cq d->(∀v e a,Ext b H a e->Rep K a d v->Q v e)->r x y H Q
theorem zb(h:o.bind f=cq y) : ∃x,o=cq x/\f x=cq y:=by
 cases o with
 | none=>cases h
 | some x=>exact⟨x,rfl,h⟩
theorem Y0{K:HR}{r:R2}{F:D->D->Option D}{J L:CO D}(O:n5 K r F) : ∀C H Q,tV K (zC F J L) C H Q->H9 r (tV K J) (tV K L) C H Q:=λC H Q U=>by obtain⟨f,b,d,rc,z,q⟩:=U;obtain⟨x,j,z⟩:=zb z;obtain⟨y,k,z⟩:=zb z;refine⟨f,b,x,rc,j,λY p h x1 l=>⟨h,b,y,rc.ext x1,k,λo g i I m=>?_⟩⟩;exact O i g Y o x y d Q I.sub (l.mono I.s0) m z λv e a x3 n=>q v e a (x1.trans<|I.trans x3) n
theorem J4(z:i9 X (xg op) r)(I:n5 X.K r F)(C:PV X a fa)(O:PV X b fb):PV X (.BinOp a op b pos) (zC F fa fb):=
 qg (pI z C O) (Y0 I)
theorem uH(z:i9 X (n4 op) r)(I:n5 X.K r F)(C:PV X a fa)(O:PV X b fb)(J:B1 op b=d7):PV X (.Compare a [op] [b] pos) (zC F fa fb):=
 qg (pK z C O J) (Y0 I)
theorem k9{d:D}{b:Bool}(h:tr d=cq b):d = .bl b:=by cases d<;>simp[tr]at h;rw[h]
theorem Xp(I:i9 X (n4 op) r)(O:n5 X.K r F)(C:PV X a fa)(U:PV X b fb)(J:B1 op b=d7):nf X (.Compare a [op] [b] pos) (sB<|zC F fa fb):=
 KF (cQ I C U J) λj H Q Y=>by obtain⟨g,i,k,rc,z,q⟩:=Y;obtain⟨d,h,z⟩:=zb z;refine Y0 O j H _ ⟨g,i,d,rc,h,λv f e x r=>?_⟩;rw[k9 z]at r;exact⟨k,r,q f e x⟩
theorem j3{f:CO D}(h:PV X e f)(O : ∀I,DR e X.env I=(do let v <- I;DX e.pos;u5 [v] (I7 v)):=by intro _;rfl):nf X e (sB f):=
 KF (uK h O) λl H Q U=>by obtain⟨g,j,k,rc,z,q⟩:=U;obtain⟨d,i,z⟩:=zb z;refine⟨g,j,d,rc,i,λv b a x r=>?_⟩;rw[k9 z]at r;exact⟨k,r,q b a x⟩
theorem ir(h:nf X a f):DJ X (.BoolOp .And [a] pos) f:=oY h
theorem yx(h:nf X a f):DJ X (.BoolOp .Or [a] pos) f:=uz h
theorem oX{f g:CO Bool}{xE:List eA}(C:nf X a f)(I:DJ X (.BoolOp .And (b::xE) pos) g):DJ X (.BoolOp .And (a::b::xE) pos) (ui f g):=
 uB (uA C I) λm H Q O=>by
  obtain⟨i,e,k,rc,z,q⟩:=O;obtain⟨c,l,z⟩:=zb z;refine⟨i,e,c,rc,l,λh d x=>?_⟩;cases c with
  | true=>rw[RY rfl]at z ⊢;exact⟨d,e,k,rc.ext x,z,λj U Y=>q j U<|x.trans Y⟩
  | false=>rw[EQ II]at z ⊢;cases z;exact q h d x
theorem xQ{f g:CO Bool}{xE:List eA}(C:nf X a f)(I:DJ X (.BoolOp .Or (b::xE) pos) g):DJ X (.BoolOp .Or (a::b::xE) pos) (yZ f g):=
 uB (Ea C I) λm H Q O=>by
  obtain⟨i,e,k,rc,z,q⟩:=O;obtain⟨c,l,z⟩:=zb z;refine⟨i,e,c,rc,l,λh d x=>?_⟩;cases c with
  | true=>rw[RY rfl]at z ⊢;cases z;exact q h d x
  | false=>rw[EQ II]at z ⊢;exact⟨d,e,k,rc.ext x,z,λj U Y=>q j U<|x.trans Y⟩
theorem qi(C:nf X a f):nf X (.UnaryOp .Not a pos) (jP f):=
 KF (uL C) λh H Q I=>by
  obtain⟨g,d,k,rc,z,q⟩:=I;unfold jP at z;cases e1:f d with
  | none=>rw[e1]at z;cases z
  | some c=>rw[e1]at z;cases z;exact⟨g,d,c,rc,e1,λe b x=>q e b x⟩
theorem Xo(h:DJ X e f):nf X e f:=h.pt
theorem cK(h:PV X a f):PV X (.BoolOp op [a] pos) f:=uY h
theorem cN{f g:CO D}{xE:List eA}(C:PV X a f)(I:PV X (.BoolOp .And (b::xE) pos) g):PV X (.BoolOp .And (a::b::xE) pos) (gF f g):=
 qg (Ae C I) λs H Q O=>by
  obtain⟨k,i,d,rc,z,q⟩:=O;obtain⟨c,h,z⟩:=zb z;obtain⟨U,Y,h⟩:=zb h;refine⟨k,i,U,rc,Y,λv j e x r=>?_⟩;rw[k9 h]at r;refine⟨c,r,?_⟩;cases c with
  | true=>rw[RY rfl]at z ⊢;exact⟨e,i,d,rc.ext x,z,λo l m p n=>q o l m (x.trans p) n⟩
  | false=>rw[EQ II]at z ⊢;cases z;exact q _ j e x (show V.bl d7 = .bl d7 from rfl)
theorem uD(C:PV X a f):PV X (.UnaryOp .Not a pos) (BB f):=
 qg (uZ C) λi H Q O=>by
  obtain⟨h,e,d,rc,z,q⟩:=O;unfold BB at z;cases e1:f e with
  | none=>rw[e1]at z;cases z
  | some I=>
   rw[e1]at z;refine⟨h,e,I,rc,e1,λv g b x r=>?_⟩;cases I with
   | bl c=>cases z;exact⟨c,r,q _ g b x<|show V.bl (!c) = .bl (!c)from rfl⟩
   | _=>cases z
theorem yN(Y:nf X c k)(C:PV X a f)(J:PV X b g):PV X (.IfExp c a b pos) (mT k f g):=
 qg (iQ Y C J) λp H Q n=>by
  obtain⟨l,j,d,rc,z,q⟩:=n;obtain⟨t,m,z⟩:=zb z;refine⟨l,j,t,rc,m,λo e x=>?_⟩;cases t with
  | true=>rw[RY rfl]at z ⊢;exact⟨e,j,d,rc.ext x,z,λI h O U i=>q I h O (x.trans U) i⟩
  | false=>rw[EQ II]at z ⊢;exact⟨e,j,d,rc.ext x,z,λI h O U i=>q I h O (x.trans U) i⟩
theorem pQ:C8 X [] zJ:=Ag qo λe H Q z=>by obtain⟨a,d,b,rc,I,q⟩:=z;cases I;exact q [] H a (Ext.refl rc.sub) el.nil
theorem iU(C:PV X e f)(O:C8 X es g)(U:f7 (e::es) X.env=(d7,eB e X.env)::f7 es X.env:=by rfl):C8 X (e::es) (zc f g):=
 Ag (jl C O U) λs H Q Y=>by
  obtain⟨d,b,p,rc,z,q⟩:=Y;obtain⟨x,k,z⟩:=zb z;cases a:g b with
  | none=>rw[a]at z;cases z
  | some r=>
   rw[a]at z;cases z;exact⟨d,b,x,rc,k,λv o i x1 l=>⟨i,b,r,rc.ext x1,a,λn h j I m=>q (v::n) h j (x1.trans I)<|el.cons (l.mono I.s0) m⟩⟩
theorem j1(h:C8 X es f):PV X (.Tuple es x1 pos) (xx f):=
 qg (nj h) λn H Q Y=>by
  obtain⟨g,k,d,rc,z,q⟩:=Y;obtain⟨b,i,z⟩:=zb z;by_cases I:b.length<=lim
  ·rw[RY I]at z;cases z
   refine⟨g,k,b,rc,i,λj l m x1 O=>⟨ky (by rw[O.length];exact I),λp U=>?_⟩⟩;exact q _ _ _ (x1.trans<|Ext.alloc x1.sub U _) (show ∃a e,V.ref p = .ref a/\gR X.K _ a e/\el X.K _ b e from⟨p,j,rfl,gR.of zG,O.mono<|z7 (jf x1.sub U) _⟩)
  ·rw[EQ I]at z;cases z
theorem yB(h:C8 X es f):PO X (.List es pos) (kC f):=
 qg (Ab h) λm H Q i=>by
  obtain⟨a,k,d,rc,I,q⟩:=i;obtain⟨e,g,I⟩:=zb I;by_cases U:e.length<=lim
  ·rw[RY U]at I;cases I
   refine⟨a,k,_,rc,g,λj l b x1 Y=>⟨ky (by rw[Y.length];exact U),λp O=>?_⟩⟩;exact q p j _ b (x1.trans<|Ext.hide x1.sub O _) (by
    cases z:H p with
    | none=>rfl
    | some o=>rw[x1.s1 p o z]at O;cases O) (jf x1.sub O) zG Y
  ·rw[EQ U]at I;cases I
end
noncomputable def iz(C:List (Key×V))(ps:List (Key×V)):List (Key×V):=ps.foldl (λacc z=>bj acc z.1 z.2) C
theorem yD:entryFor table "dict.update.loop" = cq o8.«dict.update.loop» :=entryFor_of_tree (by kernel_rfl)
theorem yw(args:Args):(Code.builtin "dict.update.loop" args).quiet=di:=Code.quiet_builtin _ ⋯
noncomputable def HJ(i:Nat)(f:CO D)(γ:Ctx):Option D:=(q8 γ[i]?).bind λa=>(f<|γ.set i<|.val<|.lst a).bind λd=>if EI d=di then cq d else dn
noncomputable def GX(i:Nat)(f:CO Bool)(γ:Ctx):Option Bool:=(q8 γ[i]?).bind λa=>f<|γ.set i<|.val<|.lst a
noncomputable def FO(i:Nat)(γ:Ctx):Option Fl:=(q8 γ[i]?).map λ_=> .next (γ.set i<|.own [])
noncomputable def qu(ds:List D):List D:=(HU ds.length).map λ(i:Nat)=>D.tup [.int i,ds[i]?.getD .fh]
noncomputable def Kx(f:CO D)(γ:Ctx):Option (List D):=(f γ).bind λd=>match d with
 | .tup a=>cq (qu a)
 | _=>dn
noncomputable def XC:List D->Option (List Int)
 | []=>cq []
 | .int i::r=>(XC r).map λl=>i::l
 | _::_=>dn
noncomputable def HG(f:CO D)(g:CO (Sk×List D))(γ:Ctx):Option D:=(f γ).bind λd=>(g γ).bind λa=>(nr d).bind λi=>(XC a.2).map λl=> .bl (decide<|i∈l)
noncomputable def eY(k:Int):List Int->Option Nat
 | []=>dn
 | i::r=>if i=k then cq 0 else (eY k r).map (· + 1)
noncomputable def HH(f g:CO D)(γ:Ctx):Option D:=(f γ).bind λd=>((g γ).bind nr).bind λk=>match d with
 | .tup a=>(XC a).bind λl=>(eY k l).map λ(j:Nat)=>D.int (j:Int)
 | _=>dn
noncomputable def vm(T:Tg)(f:CO (List D))(γ:Ctx):List D->Option (List<|List D)
 | []=>cq []
 | d::ds=>(xp T d γ).bind λa=>(f a).bind λe=>(vm T f γ ds).map λr=>e::r
noncomputable def V2(C:CO (List D))(T:Tg)(n:Nat)(I:List Nat)(f:CO (List D))(γ:Ctx):Option (List<|List D):=(C γ).bind λa=>if a.length<=lim then vm T f (z6 n I γ) a else dn
def QI:Cell->Bool
 | .nest _=>di
 | _=>d7
noncomputable def ie(i:Nat)(f:CO (List<|List D)):CO Fl:=λb=>(f b).bind λa=>if b.any QI=d7 then cq (.next<|b.set i<|.nest a)else dn
noncomputable def Zk:Option Cell->Option (List<|List D)
 | some (.nest rows)=>cq rows
 | _=>dn
noncomputable def yh(γ:Ctx)(j i:Nat)(r:List D):Ctx:=(γ.set j .no).set i (.own r)
noncomputable def xI(j i:Nat)(g f:CO D)(γ:Ctx):List (List D)->Option (List<|List D)
 | []=>cq []
 | r::rs=>(f<|yh γ j i r).bind λd=>((g<|yh γ j i r).bind nr).bind λk=>(l7 r.length k).bind λm=>(xI j i g f γ rs).map λt=>r.set m d::t
noncomputable def ZH(j i:Nat)(g f:CO D)(γ:Ctx):Option Fl:=(Zk γ[j]?).bind λa=>if i=j\/γ.length<=i then dn else (xI j i g f γ a).map λz=> .next ((γ.set j<|.nest z).set i .no)
noncomputable def FM(i:Nat)(F:CO Fl)(γ:Ctx):Option Fl:=(q8 γ[i]?).bind λa=>F<|γ.set i<|.val<|.lst a
noncomputable def ue(i:Nat)(F:CO Fl)(γ:Ctx):Option Fl:=(Zk γ[i]?).bind λa=>F<|γ.set i<|.val<|.lst<|a.map D.lst
noncomputable def FK(is:List Nat)(f:CO D)(γ:Ctx):Option Fl:=(f γ).bind λd=>match d with
 | .lst a=>if a.length=is.length then cq (.next<|qP is a γ)else dn
 | _=>dn
noncomputable def Km:List D->Option (List Str)
 | []=>cq []
 | .str x::r=>(Km r).map λl=>x::l
 | _::_=>dn
def jM(x:Str):Bool:=decide<|x.length<=1000
noncomputable def ig(f:CO D)(g:CO (Sk×List D))(γ:Ctx):Option D:=(f γ).bind λd=>(g γ).bind λa=>match d,a.1 with
 | .str sep,.L=>(Km a.2).bind λl=>if l.length<=lim/\l.all jM=di/\jM sep=di then cq (.str<|PK sep l)else dn
 | _,_=>dn
noncomputable def VY(f g:CO D)(γ:Ctx):Option D:=(f γ).bind λd=>((g γ).bind nr).bind λi=>match d with
 | .str z=>if jM z=di then (l7 z.cps.toList.length i).bind λk=>z.cps.toList[k]?.map λc=> .str ⟨#[c]⟩else dn
 | _=>dn
noncomputable def ag(f:CO D)(γ:Ctx):Option D:=(f γ).bind λd=>match d with
 | .str z=>if jM z=di then cq (.int z.length)else dn
 | _=>dn
noncomputable def GV(z O I U:Str)(f:CO D)(γ:Ctx):Option D:=(f γ).bind λd=>match d with
 | .str x=>if z=I then dn else if x=z then cq (.str O)else if x=I then cq (.str U)else dn
 | _=>dn
noncomputable def uc(f g:CO D)(γ:Ctx):Option D:=((f γ).bind nr).bind λi=>((g γ).bind nr).map λj=> .int (if j<i then j else i)
abbrev Xn:=Str×Option Int
def Si:CO Xn:=λ_=>dn
def Cv(c:Str):CO Xn:=λ_=>cq (c,dn)
noncomputable def Sh(k:CO Bool)(G H:CO Xn):CO Xn:=λa=>(k a).bind λb=>if b=di then G a else H a
noncomputable def Hv(c:Str):Str:=if c==("NoRoom" : Str)then "room" else "at"
noncomputable def Xl(f:CO D)(g:CO (Sk×List D)):CO D:=λb=>(f b).bind λd=>(g b).bind λa=>(nr d).bind λi=>(XC a.2).map λl=> .bl (!decide (i∈l))
end DL
namespace DL
open PySem L2
open PySem.W (KasT kas_sort)
def ke(z:Str):List D:=z.cps.toList.map λc=>D.str ⟨#[c]⟩
noncomputable def ua(f:CO D)(γ:Ctx):Option (List D):=(f γ).bind λd=>match d with
 | .str z=>if jM z=di then cq (ke z)else dn
 | _=>dn
noncomputable def V0(f:CO D)(γ:Ctx):Option (List D):=(f γ).bind λd=>match d with
 | .str z=>if jM z=di then cq (qu<|ke z)else dn
 | _=>dn
noncomputable def V1(f:CO D)(γ:Ctx):Option (List D):=(f γ).bind λd=>match d with
 | .lst a=>cq (qu a)
 | _=>dn
noncomputable def GS(f:CO D)(g:CO (Sk×List D))(γ:Ctx):Option D:=(f γ).bind λd=>(g γ).bind λa=>match d with
 | .str x=>(Km a.2).map λl=> .bl (l.any λy=>y==x)
 | _=>dn
noncomputable def CT(f g:CO D)(γ:Ctx):Option D:=(f γ).bind λd=>(g γ).bind λe=>match d,e with
 | .str x,.str y=>if jM x=di/\jM y=di then cq (.str<|x++y)else dn
 | _,_=>dn
noncomputable def HE(f:CO D)(l h:CO (Option Int))(γ:Ctx):Option D:=(f γ).bind λd=>(l γ).bind λlo=>(h γ).bind λa=>match d with
 | .str z=>if jM z=di then cq (.str<|Txt.slice z lo a)else dn
 | _=>dn
noncomputable def BD(f:CO (Sk×List D))(γ:Ctx):Option (List D):=(f γ).bind λa=>match a.1 with
 | .L=>if a.2.length<=lim then cq a.2.reverse else dn
 | _=>dn
noncomputable def iT:D->Option (Int×Int)
 | .tup [.int a,.int b]=>cq (a,b)
 | _=>dn
noncomputable def wC:List D->Option (List<|Int×Int)
 | []=>cq []
 | d::r=>(iT d).bind λp=>(wC r).map λl=>p::l
noncomputable def va(x y:Int×Int):Bool:=if x.1=y.1 then decide (x.2<y.2)else decide (x.1<y.1)
noncomputable def xD{C:Type}(lt:Nat->Nat->Bool):KasT C->C
 | .ret a=>a
 | .ask i j k=>xD lt<|k<|lt i j
noncomputable def j4(ps:List (Int×Int)):List Nat:=if ps.length<2 then HU ps.length else (xD (λi j=>va (ps.getD i (0,0))<|ps.getD j (0,0))<|kas_sort ps.length).toList
noncomputable def bY(ds:List D):Option (List D):=(wC ds).bind λa=>if ds.length<64 then cq ((j4 a).map λi=>ds.getD i .fh)else dn
noncomputable def Kw(f:CO (Sk×List D))(γ:Ctx):Option (List D):=(f γ).bind λa=>match a.1 with
 | .L=>bY a.2
 | _=>dn
end DL
namespace DL
open PySem L2
noncomputable def CS(i:Nat)(f:CO (List D))(γ:Ctx):Option Fl:=(q8 γ[i]?).bind λa=>(f γ).bind λb=>if a.length+b.length<=lim then cq (.next<|γ.set i<|.own<|a++b)else dn
noncomputable def FP(F G:List D->Option Res)(g:CO (List D))(γ:Ctx):Option (List D):=(g γ).bind λl=>match l with
 | [p,.str z,t,b]=>((if z=("r" : Str)then F else G) [p,t,b]).bind CU
 | _=>dn
noncomputable def JT:List D->Option (List Int)
 | []=>cq []
 | .int i::r=>(JT r).map λl=>i::l
 | _::_=>dn
noncomputable def me(ds C:List D):Option D:=match JT ds with
 | some a=>if ds.length=C.length/\a.Nodup/\ds.length<=lim then cq (.m7 ds C)else dn
 | none=>dn
noncomputable def WC:List D->List D->Int->Option D
 | k::ks,v::vs,i=>match k with
  | .int j=>if j=i then cq v else WC ks vs i
  | _=>WC ks vs i
 | _,_,_=>dn
open PySem.Spec PyProof.Rows
structure RS(K:HR)(E0 E H0 H:Hp)(σ:St)(γ:Ctx):Prop where
 rc:RC K H0 H σ γ
 ext:Ext E0 E H0 H
 fresh : ∀(i:Nat) ds a,γ[i]? = cq (.own ds)->σ[i]? = cq (cq (.ref a))->E a=dn
 xr : ∀(i:Nat) rows a xs,γ[i]? = cq (.nest rows)->σ[i]? = cq (cq (.ref a))->H a=cq (.lst xs)->E a=dn/\∀b,V.ref b∈xs->E b=dn
noncomputable def Sat(K:HR)(E0 E:Hp)(D:Ends):Fl->Prop
 | .next f=>∀e H b,RS K E0 E b H e f->D.nx e H
 | .brk f=>∀e H b,RS K E0 E b H e f->D.bk e H
 | .cont f=>∀e H b,RS K E0 E b H e f->D.ct e H
 | .ret (.val d)=>∀v H b,Ext E0 E b H->Rep K b d v->D.rt v H
 | .ret (.own es)=>∀a g H b,Ext E0 E b H->E a=dn->b a=dn->H a=cq (.lst g)->el K b es g->D.rt (.ref a) H
noncomputable def tS(K:HR)(F:CO Fl):TS:=λD d H=>∃E0 E b a z,RS K E0 E b H d a/\F a=cq z/\Sat K E0 E D z
abbrev m6(X:Cx)(st:jn)(F:CO Fl):Prop:=PS X st (tS X.K F)
abbrev WT(X:Cx)(Ud:List jn)(F:CO Fl):Prop:=p8 X Ud (tS X.K F)
section
variable{K:HR}{E0 E H0 H sh H':Hp}{σ:St}{γ:Ctx}
theorem RS.step(r:RS K E0 E H0 H σ γ)(e:Ext H0 H sh H'):RS K E0 E sh H' σ γ:=⟨r.rc.ext e,r.ext.trans e,r.fresh,λi b a g d f I=>by obtain⟨O,bs,z,g2,_⟩:=r.rc.o5.1 i b d;rw[f]at z;cases z;have:=e.s1 a _ g2.ha;rw[I]at this;cases this;exact r.xr i b a _ d f g2.ha⟩
theorem zB{C:Type}{l:List C}{i j:Nat}{x y:C}(h:(l.set i x)[j]? = cq y):(j=i/\y=x/\i<l.length)\/(j≠i/\l[j]? = cq y):=by
 by_cases e:i=j
 ·subst e
  by_cases z:i<l.length
  ·rw[Iz z]at h;cases h;exact .inl ⟨rfl,rfl,z⟩
  ·rw[List.set_eq_of_length_le ⋯]at h
   exact absurd (Io.mp h).1 z
 ·rw[Ib e]at h;exact .inr ⟨IT e,h⟩
theorem ri.x6{i:Nat}{d:D}{v:V}(n:ri K H0 H σ γ):ri K H0 H (σ.set i<|some v) (γ.set i<|.val d):=
 ⟨λj b e=>by
  rcases zB e with⟨_,z,_⟩ | ⟨O,z⟩
  ·cases z
  ·obtain⟨a,bs,l,m,U⟩:=n.1 j b z
   refine⟨a,bs,by rw[Ib (IT O)];exact l,m,λk h c g f=>?_⟩;rcases zB g with⟨_,z,_⟩ | ⟨Y,I⟩
   ·cases z
   ·rw[Ib (IT Y)]at f;exact U k h c I f,
 λj k o p g f=>by
  rcases zB g with⟨_,z,_⟩ | ⟨_,I⟩
  ·cases z
  ·rcases zB f with⟨_,z,_⟩ | ⟨_,r⟩
   ·cases z
   ·exact n.2 j k o p I r⟩
theorem RC.x6{i:Nat}{d:D}{v:V}(r:RC K H0 H σ γ)(h:Rep K H0 d v):RC K H0 H (σ.set i<|some v) (γ.set i<|.val d):=by
 refine⟨r.sub,by simp[r.len],λj g e=>?_,λj b e=>?_,λj k a b n l m U Y=>?_,r.o5.x6⟩
 ·rcases zB e with⟨rfl,z,f⟩ | ⟨I,z⟩
  ·cases z;exact⟨v,Iz (by rw[r.len];exact f),h⟩
  ·obtain⟨p,O,g2⟩:=r.val j g z
   exact⟨p,by rw[Ib (IT I)];exact O,g2⟩
 ·rcases zB e with⟨rfl,z,f⟩ | ⟨I,z⟩
  ·cases z
  ·obtain⟨a,s,O,g2⟩:=r.own j b z
   exact⟨a,s,by rw[Ib (IT I)];exact O,g2⟩
 ·rcases zB l with⟨_,z,_⟩ | ⟨I,t⟩
  ·cases z
  ·rcases zB m with⟨_,z,_⟩ | ⟨o,u⟩
   ·cases z
   ·rw[Ib (IT I)]at U
    rw[Ib (IT o)]at Y;exact r.ne j k a b n t u U Y
theorem RS.x6{i:Nat}{d:D}{v:V}(r:RS K E0 E H0 H σ γ)(h:Rep K H0 d v):RS K E0 E H0 H (σ.set i<|some v) (γ.set i<|.val d):=
 ⟨r.rc.x6 h,r.ext,λj g a f b=>by
  rcases zB f with⟨_,z,_⟩ | ⟨I,z⟩
  ·cases z
  ·rw[Ib (IT I)]at b;exact r.fresh j g a z b,
 λj e a k f b O=>by
  rcases zB f with⟨_,z,_⟩ | ⟨I,z⟩
  ·cases z
  ·rw[Ib (IT I)]at b;exact r.xr j e a k z b O⟩
theorem k5 : ∀{z bs:List eh},z.map V.ref=bs.map V.ref->z=bs
 | [],[],_=>rfl
 | [],_::_,h=>by cases h
 | _::_,[],h=>by cases h
 | a::z,b::bs,h=>by rw[IQ,IQ]at h;injection h with h1 h2;injection h1 with h1;rw[h1,k5 h2]
theorem RS.Ub{i:Nat}{L:List D}{a:eh}{xs:List V}{J G:Hp}(r:RS K E0 E J G σ γ)(e:Ext J G H0 H)(C:G a=dn)(S:H0 a=dn)(Z:H a=cq (.lst xs))(h4:el K H0 L xs) :
 RS K E0 E H0 H (σ.set i<|some (.ref a)) (γ.set i<|.own L):=by
 have rc:=r.rc.ext e;have no : ∀(j:Nat) f,γ[j]? = cq (.own f)->¬σ[j]? = cq (cq (.ref a)):=λj f g z=>by obtain⟨b,u,I,g2,g3,_⟩:=r.rc.own j f g;rw[z]at I;cases I;rw[C]at g3;cases g3
 refine⟨⟨rc.sub,by simp[rc.len],λj x g=>?_,λj f g=>?_,λj k b f fs t h Y l=>?_,⟨λj d g=>?_,λj k F M I g2=>?_⟩⟩,r.ext.trans e,λj f b I g2=>?_,λj d b xs I g2 g3=>?_⟩
 ·rcases zB g with⟨_,z,_⟩ | ⟨O,z⟩
  ·cases z
  ·obtain⟨N,I,g2⟩:=rc.val j x z
   exact⟨N,by rw[Ib (IT O)];exact I,g2⟩
 ·rcases zB g with⟨rfl,z,U⟩ | ⟨O,z⟩
  ·cases z;exact⟨a,xs,Iz (by rw[rc.len];exact U),S,Z,h4⟩
  ·obtain⟨b,u,I,g2⟩:=rc.own j f z
   exact⟨b,u,by rw[Ib (IT O)];exact I,g2⟩
 ·rcases zB t with⟨rfl,z,U⟩ | ⟨O,m⟩
  ·rcases zB h with⟨rfl,_,_⟩ | ⟨n,p⟩
   ·rfl
   ·rw[Iz (by rw[rc.len];exact U)]at Y
    rw[Ib (IT n)]at l;cases Y;exact absurd l<|no k fs p
  ·rcases zB h with⟨rfl,z,U⟩ | ⟨n,p⟩
   ·rw[Iz (by rw[rc.len];exact U)]at l
    rw[Ib (IT O)]at Y;cases l;exact absurd Y<|no j f m
   ·rw[Ib (IT O)]at Y
    rw[Ib (IT n)]at l;exact rc.ne j k b f fs m p Y l
 ·rcases zB g with⟨_,z,_⟩ | ⟨O,z⟩
  ·cases z
  ·obtain⟨b,bs,I,g2,g3⟩:=r.rc.o5.1 j d z
   obtain⟨Q,s,f1,f2,A⟩:=rc.o5.1 j d z;rw[I]at f1;cases f1;have y:s.map V.ref=bs.map V.ref:=by have:=e.s1 b _ g2.ha;rw[f2.ha]at this;injection this with this;injection this
   have w:s=bs:=k5 y;subst w;refine⟨b,s,by rw[Ib (IT O)];exact I,f2,λk f c t h=>?_⟩;rcases zB t with⟨rfl,_,U⟩ | ⟨n,m⟩
   ·rw[Iz (by rw[rc.len];exact U)]at h;cases h
    intro B;obtain⟨_,P,q⟩:=g2.at B;rw[C]at q;cases q
   ·rw[Ib (IT n)]at h;exact A k f c m h
 ·rcases zB I with⟨_,z,_⟩ | ⟨_,m⟩
  ·cases z
  ·rcases zB g2 with⟨_,z,_⟩ | ⟨_,p⟩
   ·cases z
   ·exact rc.o5.2 j k F M m p
 ·rcases zB I with⟨rfl,z,U⟩ | ⟨O,z⟩
  ·rw[Iz (by rw[rc.len];exact U)]at g2;cases g2
   cases q:E a with
   | none=>rfl
   | some o=>rw[r.ext.s1 a o q]at C;cases C
  ·rw[Ib (IT O)]at g2;exact r.fresh j f b z g2
 ·rcases zB I with⟨_,z,_⟩ | ⟨O,z⟩
  ·cases z
  ·rw[Ib (IT O)]at g2;exact(r.step e).xr j d b xs z g2 g3
theorem RS.rewrite{i:Nat}{ds J:List D}{a:eh}{xs ys:List V}(r:RS K E0 E H0 H σ γ)(C:γ[i]? = cq (.own ds))(O:σ[i]? = cq (cq (.ref a)))(L:el K H0 J ys) :
 RS K E0 E H0 (upd H a<|.lst ys) σ (γ.set i<|.own J):=by
 obtain⟨M,N,g1,g2,g3,R⟩:=r.rc.own i ds C;rw[O]at g1;cases g1;have Q:i<γ.length:=(Io.mp C).1;refine⟨⟨λb o q=>?_,by simp[r.rc.len],λj y g=>?_,λj fs g=>?_,λj k b fs gs f d m A=>?_,⟨λj e g=>?_,λj k F G f d=>?_⟩⟩,⟨r.ext.s0,λb o q=>?_,λb o q=>?_,r.ext.new⟩,λj fs b f d=>?_,λj e b t f d m=>?_⟩
 ·rw[zD (λz=>by rw[z,g2]at q;cases q)];exact r.rc.sub b o q
 ·rcases zB g with⟨_,z,_⟩ | ⟨n,z⟩
  ·cases z
  ·exact r.rc.val j y z
 ·rcases zB g with⟨rfl,z,S⟩ | ⟨n,z⟩
  ·cases z;exact⟨a,ys,O,g2,zG,L⟩
  ·obtain⟨b,t,I,U,Y,B⟩:=r.rc.own j fs z
   refine⟨b,t,I,U,?_,B⟩;rw[zD (λq=>n<|r.rc.ne j i a fs ds z C (by rw[I,q]) O)];exact Y
 ·have w : ∃h,γ[j]? = cq (.own h):=by
   rcases zB f with⟨q,_,_⟩ | ⟨_,z⟩
   ·exact⟨ds,by rw[q];exact C⟩
   ·exact⟨fs,z⟩
  have x : ∃h,γ[k]? = cq (.own h):=by
   rcases zB d with⟨q,_,_⟩ | ⟨_,z⟩
   ·exact⟨ds,by rw[q];exact C⟩
   ·exact⟨gs,z⟩
  obtain⟨I,l⟩:=w;obtain⟨U,s⟩:=x;exact r.rc.ne j k b I U l s m A
 ·rcases zB g with⟨_,z,_⟩ | ⟨n,z⟩
  ·cases z
  ·obtain⟨b,bs,I,U,Y⟩:=r.rc.o5.1 j e z
   have u:=Y i ds a C O;refine⟨b,bs,I,U.move (gv.refl _) (λc p=>(U.at p).1)<|λc p=>zD λq=>u<|q ▸ p,λk fs c f d=>?_⟩;rcases zB f with⟨q,_,_⟩ | ⟨_,l⟩
   ·rw[q,O]at d;cases d;exact u
   ·exact Y k fs c l d
 ·rcases zB f with⟨_,z,_⟩ | ⟨_,l⟩
  ·cases z
  ·rcases zB d with⟨_,z,_⟩ | ⟨_,s⟩
   ·cases z
   ·exact r.rc.o5.2 j k F G l s
 ·rw[zD (λz=>by rw[z,r.fresh i ds a C O]at q;cases q)];exact r.ext.s1 b o q
 ·rw[zD (λz=>by rw[z,g2]at q;cases q)];exact r.ext.sub b o q
 ·rcases zB f with⟨q,_,_⟩ | ⟨_,z⟩
  ·rw[q]at d;exact r.fresh i ds b C d
  ·exact r.fresh j fs b z d
 ·rcases zB f with⟨_,z,_⟩ | ⟨n,z⟩
  ·cases z
  ·obtain⟨P,bs,I,U,Y⟩:=r.rc.o5.1 j e z
   rw[d]at I;cases I;rw[zD (show b≠a from λq=>Y i ds a C O<|by rw[q];exact Iy)]at m;exact r.xr j e b t z d m
end
section
variable{X:Cx}{e a b c:eA}{pos:gu}{st:jn}{xE:List jn}
theorem jx:WT X [] ql:=mZ cT λD b H z=>by obtain⟨E0,E,a,d,Y,I,O,U⟩:=z;cases O;exact U b H a I
theorem zf{F G:CO Fl}(C:m6 X st F)(J:WT X xE G):WT X (st::xE) (zM F G):=mZ (kR C J) λD k H U=>by
 obtain⟨E0,E,d,h,Y,g,z,I⟩:=U;obtain⟨O,f,z⟩:=zb z;refine⟨E0,E,d,h,O,g,f,?_⟩;cases O with
 | next a=>exact λi j b e=>⟨E0,E,b,a,Y,e,z,I⟩
 | brk a=>cases z;exact I
 | cont a=>cases z;exact I
 | ret r=>cases z;cases r<;>exact I
theorem zq(C:m6 X st F):WT X [st] F:=Xq C
theorem zy(h:o.map f=cq y) : ∃x,o=cq x/\f x=y:=by
 cases o with
 | none=>cases h
 | some x=>exact⟨x,rfl,by simpa using h⟩
theorem zS{f:CO D}(h:PV X e f):m6 X (.Return (cq e) pos) (qA f):=kF (KH h) λD k H O=>by obtain⟨E0,E,g,j,Y,I,z,U⟩:=O;obtain⟨d,i,z⟩:=zy z;subst z;exact⟨g,j,d,I.rc,i,λv b a x r=>U v b a (I.ext.trans x) r⟩
theorem qQ{f:CO (List D)}(h:PO X e f):m6 X (.Return (cq e) pos) (wa f):=kF (KH h) λD s H O=>by
 obtain⟨E0,E,i,n,p,z,I,U⟩:=O;obtain⟨j,k,I⟩:=zy I;subst I;refine⟨i,n,j,z.rc,k,λa m g b x d l Y r=>U a m g b (z.ext.trans x) ?_ l Y r⟩;cases q:E a with
 | none=>rfl
 | some o=>rw[z.ext.s1 a o q]at d;cases d
theorem vD(i:Nat)(h:PE X e (sH i)):m6 X (.Return (cq e) pos) (Xk i):=kF (KH h) λD r H U=>by
 obtain⟨E0,E,j,o,p,I,z,O⟩:=U;unfold Xk at z;cases b:o[i]? with
 | none=>rw[b]at z;cases z
 | some c=>
  rw[b]at z;cases c with
  | no=>cases z
  | val d=>
   cases z;obtain⟨v,f,g⟩:=I.rc.val i d b;exact⟨v,f,O v H j I.ext g⟩
  | nest l=>cases z
  | own k=>
   cases z;obtain⟨a,n,f,g,Y,m⟩:=I.rc.own i k b;exact⟨_,f,O a n H j I.ext (I.fresh i k a b f) g Y m⟩
theorem KG:m6 X (.Continue pos) oS:=kF YU λD b H ⟨E0,E,a,d,U,z,I,O⟩=>by cases I;exact O b H a z
theorem cV:m6 X st VZ:=kF iH λD d H ⟨E0,E,a,b,I,O,z,U⟩=>by cases z
theorem qw{k:CO Bool}{F G:CO Fl}{x y:List jn}(Y:nf X c k)(C:WT X x F)(J:WT X y G):m6 X (.If c x y pos) (lp k F G):=kF (uP Y C J) λD h H f=>by
 obtain⟨E0,E,d,b,O,I,z,U⟩:=f;obtain⟨t,e,z⟩:=zb z;refine⟨d,b,t,I.rc,e,λg a x=>?_⟩;cases t with
 | true=>rw[RY rfl]at z ⊢;exact⟨E0,E,a,b,O,I.step x,z,U⟩
 | false=>rw[EQ II]at z ⊢;exact⟨E0,E,a,b,O,I.step x,z,U⟩
theorem pj(i:Nat){f:CO D}(h:PS X st (YI (tV X.K f)<|k8 i)):m6 X st (jB i f):=kF h λD k H O=>by obtain⟨E0,E,b,g,Y,I,z,U⟩:=O;obtain⟨d,e,z⟩:=zy z;subst z;exact⟨b,g,d,I.rc,e,λv j a x r=>U _ _ a<|(I.step x).x6 r⟩
theorem Wa(i:Nat){f:CO (List D)}(h:PS X st (YI (tO X.K f)<|k8 i)):m6 X st (vg i f):=kF h λD p H O=>by obtain⟨E0,E,d,l,n,I,z,U⟩:=O;obtain⟨e,g,z⟩:=zy z;subst z;exact⟨d,l,e,I.rc,g,λa o m b x j k Y r=>U _ _ b<|I.Ub x j k Y r⟩
theorem yF(h:q8 o=cq ds):o=cq (.own ds):=by
 cases o with
 | none=>cases h
 | some c=>cases c<;>simp[q8]at h;rw[h]
theorem aq(i:Nat){f:CO D}(h:PE X e (S4 X.K "list" cH (sH i) (tH (tV X.K f) FJ)))(C:B9 e dn pos.line X.env=pure d7:=by rfl):m6 X (.Expr e pos) (xy i f):=
 kF (YT h C) λD A H s=>by
  obtain⟨E0,E,l,t,w,I,z,m⟩:=s;obtain⟨j,b,z⟩:=zb z;obtain⟨d,p,z⟩:=zb z;have b:=yF b;by_cases O:j.length<lim
  ·rw[RY O]at z;cases z
   obtain⟨a,xs,k,y,U,Y⟩:=I.rc.own i j b;refine⟨_,k,.inl ⟨rfl,_,gB.of U⟩,l,t,d,I.rc,p,λv u g x r=>?_⟩;have n:=I.step x;have o:=x.s1 _ _ U;refine⟨a,xs,v,rfl,rfl,o,?_,?_⟩
   ·exact IC (by rw[Y.length];exact O)<|ky<|Ic _
   ·exact m _ _ g<|n.rewrite (xs:=xs) b k<|(Y.mono x.s0).append (el.cons r el.nil)
  ·rw[EQ O]at z;cases z
end
noncomputable def HB(K:HR)(H0 H:Hp)(Q:VK):Res->Prop
 | .val d=>∀v e b,Ext H0 H b e->Rep K b d v->Q v e
 | .own g=>∀a f e b,Ext H0 H b e->H a=dn->b a=dn->e a=cq (.lst f)->el K b g f->Q (.ref a) e
noncomputable def t7(K:HR)(n:Nat)(F:List D->Option Res):Sp:=λd H Q _=>∃a b r,gv a H/\el K a b d/\b.length=n/\F b=cq r/\HB K a H Q r
theorem t7.len{K:HR}{n:Nat}{F:List D->Option Res}{ps:List Str}(C:ps.length=n) : ∀vs H Q E,t7 K n F vs H Q E->vs.length=ps.length:=λvs H Q E h=>by obtain⟨d,e,r,_,a,b,_⟩:=h;rw[a.length,b,C]
section
variable{P:i8}{w:hB}{K:HR}{mg:RJ}{base:f6}
theorem V4(s:gv H0 H)(h:el K H0 ds vs)(C:ds.length<=N.length):RS K H0 H H0 H (Zz N vs) (jm N.length ds):=by
 have z:=h.length;refine⟨⟨s,by simp[L2.Zz,jm,z],λi d e=>?_,λi g e=>?_,λi j a g fs e _ _ _=>?_,ri.DU λi f e=>?_⟩,Ext.refl s,λi g a e _=>?_,λi f a l e _ _=>?_⟩
 all_goals unfold jm at e
 ·by_cases b:i<ds.length
  ·rw[Lz (by simpa using b),Le]at e
   cases e1:ds[i]? with
   | none=>rw[e1]at e;cases e
   | some k=>
    rw[e1]at e;cases e;obtain⟨x,I,g2⟩:=h.get e1;refine⟨x,?_,g2⟩;unfold L2.Zz;rw[Lz (by simp;omega),Le,I];rfl
  ·rw[Lg (by simpa using b),Nn]at e
   split at e<;>cases e
 all_goals
  by_cases b:i<ds.length
  ·rw[Lz (by simpa using b),Le]at e
   cases e1:ds[i]? with
   | none=>rw[e1]at e;cases e
   | some k=>rw[e1]at e;cases e
  ·rw[Lg (by simpa using b),Nn]at e
   split at e<;>cases e
theorem AN{x qual:Str}{st:jn}{f:eh}{J:r9}{N ps:List Str}{k:Nat}{F:CO Fl}(O:L2.DG K x qual st f J)(S:E9 N ps (jz st))
 (U : ∀(C:ej) (A:m9) (outer:List o9) (s:eF) (H:Hp) (E:XK),oe k (A.deeper<|envOfC qual (jz st) s.heap.objs.size f C)->WT (se sX P w K mg base N qual (jz st) f C A outer s H E).G7 (kz st) F) :
 rr P w K mg base sX (k+1) f J ps (t7 K ps.length<|jG N.length F):=by
 refine O.ok S (t7.len rfl)<|λC A outer s H B Q E Y h=>⟨_,U C A outer s H E Y,?_⟩;obtain⟨d,i,r,o,l,u,m,z⟩:=h;obtain⟨I,j,a⟩:=zb m;have t:ps.length<=N.length:=by have:=congrArg List.length S.pre;rw[Nh]at this;omega
 refine⟨d,H,d,jm N.length i,I,V4 o l ⋯,j,?_⟩;cases I with
 | ret y=>cases a;cases r<;>exact z
 | next e=>cases a;exact λp g b n=>z .fh g b n.ext (show V.fh = .fh from rfl)
 | brk e=>cases a
 | cont e=>cases a
end
section
variable{X:Cx}{es:List eA}{pos p:gu}{k:Nat}{f:eh}{fd:r9}{ps:List Str}{x:Str}{F:List D->Option Res}{g:CO (List D)}
theorem pd{A0:List eA}(G:rr X.prog X.w X.K X.mg X.base sX k f fd ps (t7 X.K ps.length F))(C:C8 X es g)(Y : ∀γ ds,g γ=cq ds->ds.length=ps.length)
 (J : ∀{t:TA},PA X es t->PE X (.Call (.Name x p) es [] pos) (ou (t7 X.K ps.length F) [] E0 t)):PV X (.Call (.Name x p) es [] pos) (zI F g):=
 qg (J C) λL H Q u=>by
  obtain⟨l,γ,d,rc,z,q⟩:=u;obtain⟨ds,i,z⟩:=zb z;obtain⟨r,n,z⟩:=zy z;refine⟨l,γ,ds,rc,i,λE B m x1 y=>⟨m,ds,r,x1.sub,by simpa using y,Y γ ds i,n,?_⟩⟩;subst z;cases r with
  | val d=>exact λv e b I h=>q v e b (x1.trans I) h
  | own fs=>
   refine λa A e b I o j s h=>q _ e _ (x1.trans<|I.show o j s x1.sub) ?_;exact(show ∃O U,V.ref a = .ref O/\gB X.K _ O U/\el X.K _ fs U from⟨a,A,rfl,gB.of zG,h.mono<|z7 j _⟩)
theorem pC(G:rr X.prog X.w X.K X.mg X.base sX k f fd ps (t7 X.K ps.length F))(C:C8 X es g)(O : ∀γ ds,g γ=cq ds->ds.length=ps.length)
 (U : ∀{t:TA},PA X es t->PE X (.Call (.Name x p) es [] pos) (ou (t7 X.K ps.length F) [] E0 t)):PO X (.Call (.Name x p) es [] pos) (jC F g):=
 qg (U C) λL H Q Y=>by
  obtain⟨j,γ,fs,rc,I,q⟩:=Y;obtain⟨ds,e,I⟩:=zb I;obtain⟨r,m,I⟩:=zb I;refine⟨j,γ,ds,rc,e,λJ E l x1 u=>⟨l,ds,r,x1.sub,by simpa using u,O γ ds e,m,?_⟩⟩;cases r with
  | val d=>cases I
  | own gs=>
   cases I;exact λa B i b A h n s y=>q a B i b (x1.trans A) (by
    cases z:H a with
    | none=>rfl
    | some o=>rw[x1.s1 a o z]at h;cases h) n s y
end
structure Walk(K:HR)(H0 Hs:Hp)(J:It)(ds:List D):Prop where
 go : ∀i H1,gv Hs H1->i<ds.length->J.go i H1
 stop : ∀H1,gv Hs H1->J.stop ds.length H1
 C3 : ∀i H1 x Sl,gv Hs H1->i<ds.length->J.C3 i H1 x Sl->∃d,ds[i]? = cq d/\∀G0,gv H0 G0->gv G0 H1->∃Sj,Ext G0 H1 Sj Sl/\Rep K Sj d x
theorem Walk.weak{K:HR}{H0 C z:Hp}{J:It}{ds:List D}(w:Walk K H0 C J ds)(s:gv C z):Walk K H0 z J ds:=
 ⟨λi a h=>w.go i a<|s.trans h,λa h=>w.stop a<|s.trans h,λi a x b h=>w.C3 i a x b<|s.trans h⟩
theorem QY{k:Sk}{K:HR}{H0 C:Hp}{a:eh}{xs:List V}{ds:List D}(h:kr k K C a xs)(r:el K H0 ds xs):Walk K H0 C (Sm k K a) ds:=by
 have I:=r.length;refine⟨λi b s o=>?_,λb s=>?_,λi b x f s o y=>?_⟩
 ·have g:i<xs.length:=by omega
  cases k with
  | L=>exact⟨xs,xs[i],s.seq h,HX g⟩
  | T=>exact⟨xs,xs[i],mu s h,HX g⟩
 ·cases k with
  | L=>exact⟨xs,s.seq h,by omega⟩
  | T=>exact⟨xs,mu s h,by omega⟩
 ·have e:f=b/\xs[i]? = cq x:=by
   cases k with
   | L=>exact⟨y.1,y.2 xs<|s.seq h⟩
   | T=>exact⟨y.1,y.2 xs<|mu s h⟩
  obtain⟨l,m⟩:=e;subst l;obtain⟨d,n,z⟩:=r.B7 m;exact⟨d,n,λj p t=>⟨j,Ext.refl t,z.mono p⟩⟩
theorem wb(lo:Int)(n:Nat):(vB lo n).length=n:=by simp[vB]
theorem JX{K:HR}{H0 C:Hp}(lo:Int)(n:Nat):Walk K H0 C (Ds lo n) (vB lo n):=by
 refine⟨λi b s a=>?_,λb s=>?_,λi b x e s a y=>?_⟩
 ·rw[wb]at a;exact a
 ·rw[wb];exact Ic _
 ·rw[wb]at a
  obtain⟨f,g⟩:=y;subst f g;exact⟨.int<|lo+i,by simp[vB,a],λd j h=>⟨d,Ext.refl h,(show V.int (lo+i) = .int (lo+i)from rfl)⟩⟩
theorem gT{I O:Sk}{K:HR}{H0 J:Hp}{a b:eh}{xs ys:List V}{ds C:List D}(L:kr I K J a xs)(U:el K H0 ds xs)(S:kr O K J b ys)(Z:el K H0 C ys) :
 Walk K H0 J (P0 I O K a b) (X4 ds C):=by
 have E:=U.length;have F:=Z.length;have B:(X4 ds C).length=min ds.length C.length:=by simp[X4]
 refine⟨λi f s w=>?_,λf s=>?_,λi f x k s w y=>?_⟩
 ·exact⟨xs,ys,kB s L,kB s S,by omega,by omega⟩
 ·refine⟨xs,ys,kB s L,kB s S,?_⟩
  rw[B];omega
 ·obtain⟨p,u,v,n,z,o,g1,g2⟩:=y
  obtain⟨d,t,A⟩:=U.B7<|g1 xs<|kB s L;obtain⟨c,r,l⟩:=Z.B7<|g2 ys<|kB s S;refine⟨.tup [d,c],?_,λj h e=>⟨upd j p<|.tup [u,v],?_,?_⟩⟩
  ·have m:(ds.zip C)[i]? = cq (d,c):=Oe.mpr ⟨t,r⟩
   simp[X4,m]
  ·rw[o];exact Ext.alloc e z _
  ·rw[n]
   exact(show ∃Y g,V.ref p = .ref Y/\gR K _ Y g/\el K _ [d,c] g from⟨p,[u,v],rfl,gR.of zG,el.cons ((A.mono h).mono (z7 (jf e z) _))<|el.cons ((l.mono h).mono (z7 (jf e z) _)) el.nil⟩)
noncomputable def Sa(K:HR)(C:CO (List D)):TI:=λg H R=>∃d f e,RC K d H g f/\C f=cq e/\∀J b a,Ext d H a b->Walk K a b J e->R J b
noncomputable def Sb(K:HR)(C:CO (List D)):TI:=λg H R=>∃d f e,RC K d H g f/\C f=cq e/\∀J b a,Ext d H a b->Walk K a a J e->R J b
abbrev uf(X:Cx)(tg e:eA)(src:CO (List D)):Prop:=PI X tg e (Sa X.K src)
abbrev ji(X:Cx)(tg e:eA)(src:CO (List D)):Prop:=PI X tg e (Sb X.K src)
section
variable{X:Cx}{tg e a b:eA}{pos p:gu}
theorem ji.c(h:ji X tg e src):uf X tg e src:=JM h λi H R ⟨d,g,f,rc,z,q⟩=>⟨d,g,f,rc,z,λJ b a x w=>q J b a x<|w.weak x.sub⟩
theorem zZ(h:PQ X e f):uf X tg e (zP f):=JM (dc h) λs H R z=>by obtain⟨i,o,p,rc,I,q⟩:=z;obtain⟨⟨k,m⟩,j,l⟩:=zy I;subst l;exact⟨i,o,k,m,rc,j,λa n g b x d _ r=>⟨a,k,rfl,⟨n,d⟩,q _ g b x<|QY d r⟩⟩
theorem ZO(h:PV X e f):ji X tg e (zP<|z5 f):=JM (dc h) λu H R I=>by
 obtain⟨p,s,t,rc,O,q⟩:=I;obtain⟨⟨k,m⟩,g,j⟩:=zy O;subst j;obtain⟨d,U,g⟩:=zb g;refine⟨p,s,d,rc,U,λv o b x r=>?_⟩;cases d with
 | tup fs=>
  obtain⟨j,z⟩:k = .T/\m=fs:=by simp[jX]at g;exact⟨g.1.symm,g.2.symm⟩
  subst j z;obtain⟨a,i,rfl,l,n⟩:=(show ∃a i,v = .ref a/\gR X.K b a i/\el X.K b m i from r);exact⟨a,.T,rfl,⟨i,mu x.sub l⟩,q _ o b x<|QY (k:= .T) l n⟩
 | lst fs=>
  obtain⟨j,z⟩:k = .L/\m=fs:=by simp[jX]at g;exact⟨g.1.symm,g.2.symm⟩
  subst j z;obtain⟨a,i,rfl,l,n⟩:=(show ∃a i,v = .ref a/\gB X.K b a i/\el X.K b m i from r);exact⟨a,.L,rfl,⟨i,x.sub.seq l⟩,q _ o b x<|QY (k:= .L) l n⟩
 | _=>simp[jX]at g
theorem jV(h:nr d=cq i):d = .int i:=by cases d<;>simp[nr]at h;rw[h]
theorem Jf(h:inR i=di) : -(2 ^ 62)<=i/\i<2 ^ 62:=by unfold inR at h;have h:=of_decide_eq_true h;omega
theorem ay(O:Gl X "range")(J:X.mg "range" = dn)(C:PV X a f)(I:f7 [a] X.env=[(d7,eB a X.env)]:=by rfl):ji X tg (.Call (.Name "range" p) [a] [] pos) (jh f):=
 JM (df O J (jl C qo I) I) λo H R U=>by
  obtain⟨i,l,m,rc,z,q⟩:=U;obtain⟨n,e,z⟩:=zb z;obtain⟨d,Y,e⟩:=zb e;by_cases g:inR n=di
  ·rw[RY g]at z;cases z
   refine⟨i,l,d,rc,Y,λv h b x r=>?_⟩;rw[jV e]at r;obtain⟨j,k⟩:=Jf g;exact⟨n,by rw[show v = .int n from r],j,k,q _ h b x<|JX 0 n.toNat⟩
  ·rw[EQ g]at z;cases z
theorem aw(Y:Gl X "range")(S:X.mg "range" = dn)(J:PV X a f)(L:PV X b g)(U:f7 [a,b] X.env=[(d7,eB a X.env),(d7,eB b X.env)]:=by rfl)(I:f7 [b] X.env=[(d7,eB b X.env)]:=by rfl) :
 ji X tg (.Call (.Name "range" p) [a,b] [] pos) (YN f g):=
 JM (de Y S (jl J (jl L qo I)<|by rw[U,I]) U I) λM H R C=>by
  obtain⟨l,k,K,rc,z,q⟩:=C;obtain⟨m,i,z⟩:=zb z;obtain⟨d,t,i⟩:=zb i;obtain⟨n,O,z⟩:=zb z;obtain⟨c,u,O⟩:=zb O;by_cases e:inR m=di/\inR n=di
  ·rw[RY e]at z;cases z
   refine⟨l,k,d,rc,t,λv G h x r=>⟨h,k,c,rc.ext x,u,λE o s F j=>?_⟩⟩;rw[jV i]at r;rw[jV O]at j;obtain⟨w,y⟩:=Jf e.1;obtain⟨A,B⟩:=Jf e.2;exact⟨m,n,by rw[show v = .int m from r,show E = .int n from j],⟨w,y,A,B⟩,q _ o s (x.trans F)<|JX m (n - m).toNat⟩
  ·rw[EQ e]at z;cases z
theorem ZF{K:HR}{H:Hp}{d:D}{v:V}{k:Sk}{ds:List D}(r:Rep K H d v)(e:jX d=cq (k,ds)) : ∃a xs,v = .ref a/\kr k K H a xs/\el K H ds xs:=by
 cases d with
 | tup fs=>simp[jX]at e;obtain⟨b,f⟩:=e;subst b f;exact r
 | lst fs=>simp[jX]at e;obtain⟨b,f⟩:=e;subst b f;exact r
 | _=>simp[jX]at e
theorem pE{f g:CO D}{C:List eA}{x1:Nat}{J:gu}(Z:Gl X "zip")(hm:X.mg "zip" = dn)(L:PV X a f)(S:PV X b g)(Y:f7 [a,b] X.env=[(d7,eB a X.env),(d7,eB b X.env)]:=by rfl)(O:f7 [b] X.env=[(d7,eB b X.env)]:=by rfl) :
 ji X (.Tuple C x1 J) (.Call (.Name "zip" p) [a,b] [] pos) (VW f g):=
 JM (uU Z hm (jl L (jl S qo O)<|by rw[Y,O]) PyProof.Rows.boot_zip Y O) λP H R y=>by obtain⟨j,i,M,rc,z,q⟩:=y;obtain⟨⟨A,m⟩,h,z⟩:=zb z;obtain⟨d,t,h⟩:=zb h;obtain⟨⟨B,n⟩,U,z⟩:=zy z;obtain⟨c,u,U⟩:=zb U;subst z;refine⟨j,i,d,rc,t,λv K e x r=>⟨e,i,c,rc.ext x,u,λN k s I E=>?_⟩⟩;obtain⟨l,F,rfl,g1,g2⟩:=ZF (r.mono I.s0) h;obtain⟨o,G,rfl,g3,w⟩:=ZF E U;exact⟨A,B,l,o,rfl,⟨F,kB I.sub g1⟩,⟨G,kB I.sub g3⟩,q _ k s (x.trans I)<|gT g1 g2 g3 w⟩
end
noncomputable def VV:List Nat->List V->St->St
 | i::is,v::vs,σ=>VV is vs<|σ.set i<|some v
 | _,_,σ=>σ
def gs:List Nat->D3
 | []=>Ga
 | i::is=>AL (k8 i)<|gs is
noncomputable def s9(K:HR):Tg->TG
 | .nm i=>k8 i
 | .tp is=>FZ K is.length<|gs is
theorem eU : ∀{is:List Nat} {vs:List V} {C:St} {H:Hp} {Q:St->Hp->Prop},vs.length=is.length->Q (VV is vs C) H->gs is vs C H Q
 | [],[],_,_,_,_,q=>⟨rfl,q⟩
 | i::is,v::vs,C,H,Q,hl,q=>⟨v,vs,rfl,eU (by simpa using hl) q⟩
 | [],_::_,_,_,_,hl,_=>by simp at hl
 | _::_,[],_,_,_,hl,_=>by simp at hl
theorem RS.H8{K:HR}{E0 E H0 H:Hp} : ∀{is:List Nat} {ds:List D} {vs:List V} {C:St} {γ:Ctx},RS K E0 E H0 H C γ->el K H0 ds vs->RS K E0 E H0 H (VV is vs C) (qP is ds γ)
 | [],ds,vs,C,γ,r,h=>by cases ds<;>cases vs<;>exact r
 | i::is,[],vs,C,γ,r,h=>by rw[h.su];exact r
 | i::is,d::ds,vs,C,γ,r,h=>by obtain⟨x,t,e,a,b⟩:=h.ow;subst e;show RS K E0 E H0 H (DL.VV is t<|C.set i<|some x) (qP is ds<|γ.set i<|.val d);exact RS.H8 (r.x6 a) b
theorem RC.H8{K:HR}{H0 H:Hp} : ∀{is:List Nat} {ds:List D} {vs:List V} {C:St} {γ:Ctx},RC K H0 H C γ->el K H0 ds vs->RC K H0 H (VV is vs C) (qP is ds γ)
 | [],ds,vs,C,γ,r,h=>by cases ds<;>cases vs<;>exact r
 | i::is,[],vs,C,γ,r,h=>by rw[h.su];exact r
 | i::is,d::ds,vs,C,γ,r,h=>by obtain⟨x,t,e,a,b⟩:=h.ow;subst e;show RC K H0 H (DL.VV is t<|C.set i<|some x) (qP is ds<|γ.set i<|.val d);exact RC.H8 (r.x6 a) b
theorem vQ{K:HR}{H0 H:Hp}{T:Tg}{d:D}{v:V}{C:St}{γ γ1:Ctx}{Q:St->Hp->Prop}(s:gv H0 H)(h:Rep K H0 d v)(e:xp T d γ=cq γ1)
 (q : ∀z,(RC K H0 H C γ->RC K H0 H z γ1)->(∀E0 E,RS K E0 E H0 H C γ->RS K E0 E H0 H z γ1)->Q z H):s9 K T v C H Q:=by
 cases T with
 | nm i=>cases e;exact q _ (λr=>r.x6 h) λE0 E r=>r.x6 h
 | tp is=>
  cases d with
  | tup g=>
   simp only[xp]at e;by_cases I:g.length=is.length
   ·rw[RY I]at e;cases e
    obtain⟨a,b,rfl,k,f⟩:=(show ∃a b,v = .ref a/\gR K H0 a b/\el K H0 g b from h);have j:b.length=is.length:=by rw[f.length,I]
    exact⟨a,b,rfl,mu s k,j,eU j<|q _ (λr=>r.H8 f) λE0 E r=>r.H8 f⟩
   ·rw[EQ I]at e;cases e
  | _=>simp[xp]at e
theorem Ext.rebase{E0 E z H0 H B:Hp}(e:Ext E0 E z B)(x:Ext z E H0 H):Ext E0 E H0 H:=
 ⟨e.s0.trans x.s0,x.s1,x.sub,λa d b=>x.new a (e.new a d b) b⟩
theorem Ext.base{E0 E z B:Hp}(e:Ext E0 E z B):Ext z E z B:=⟨gv.refl _,e.s1,e.sub,λa h _=>h⟩
theorem Sat.rebase{K:HR}{E0 E I B:Hp}{D:Ends}{z:Fl}(e:Ext E0 E I B)(h:Sat K E0 E D z):Sat K I E D z:=by
 cases z with
 | next g=>exact λf H b r=>h f H b ⟨r.rc,e.rebase r.ext,r.fresh,r.xr⟩
 | brk g=>exact λf H b r=>h f H b ⟨r.rc,e.rebase r.ext,r.fresh,r.xr⟩
 | cont g=>exact λf H b r=>h f H b ⟨r.rc,e.rebase r.ext,r.fresh,r.xr⟩
 | ret r=>
  cases r with
  | val d=>exact λv H b x q=>h v H b (e.rebase x) q
  | own l=>exact λa k H b x i j O q=>h a k H b (e.rebase x) i j O q
section
variable{X:Cx}{tg iter:eA}{body:List jn}{pos:gu}
theorem pq{C:CO (List D)}{T:Tg}{F:CO Fl}(hp:F4 (eP X.prog X.w) X.A X.env X.xe)(hc:X.calm=di)(S:ji X tg iter C)(hg:PG X tg (s9 X.K T))(hb:WT X body F)
 (hs : ∀x,rn iter X.env x=pure x:=by intro _;rfl):m6 X (.For tg iter body [] pos) (wZ C T F):=
 kF (nc hp hc S hg hb hs) λD j H hZ=>by
  obtain⟨E0,E,g,b,I,O,z,Y⟩:=hZ;obtain⟨a,W,z⟩:=zb z;refine⟨g,b,a,O.rc,W,λJ H1 U x1 s=>?_⟩;have k:=O.step x1;have G:=k.ext;refine⟨λi m j H=>m=a.length - i/\i<=a.length/\∃g b I,RS X.K U E g H j b/\qH T F (a.drop i) b=cq I/\Sat X.K U E D I,⟨_,rfl,Lp _,U,b,I,⟨k.rc,G.base,k.fresh,k.xr⟩,z,Y.rebase G⟩,?_⟩;rintro i m j H ⟨rfl,S,g,b,I,O,z,Y⟩;have l:gv U H:=O.ext.s0.trans O.ext.sub;by_cases h:i<a.length
  ·refine .inr ⟨s.go i H l h,λj H=>i+1<=a.length/\∃g b I,RS X.K U E g H j b/\qH T F (a.drop<|i+1) b=cq I/\Sat X.K U E D I,λUs B n=>⟨a.length - (i+1),by omega,rfl,n.1,n.2⟩,λx B y=>?_⟩
   obtain⟨d,L,hx⟩:=s.C3 i H x B l h y;obtain⟨N,M,rg⟩:=hx g O.ext.s0 O.rc.sub;have as:a.drop i=d::a.drop (i+1):=by
    have Q:d=a[i]:=by rw[HX h]at L;exact(IX L).symm
    rw[Q];exact Mv h
   rw[as]at z;simp only[qH]at z;obtain⟨t,eb,z⟩:=zb z;obtain⟨f1,Z,z⟩:=zb z;refine vQ M.sub rg eb λPt _ R=>⟨U,E,N,t,f1,R U E<|O.step M,Z,?_⟩;cases f1 with
   | next f=>exact λu P o p=>⟨h,o,f,I,p,z,Y⟩
   | cont f=>exact λu P o p=>⟨h,o,f,I,p,z,Y⟩
   | brk f=>cases z;exact Y
   | ret r=>cases z;cases r<;>exact Y
  ·have e:i=a.length:=by omega
   subst e;rw[NN]at z;cases z;exact .inl ⟨s.stop H l,Y j H g O⟩
end
theorem qC(h:(z6 n fr γ)[i]? = cq c):c = .no\/(∃d j,c = .val d/\n<=i/\fr[i - n]? = cq j/\γ[j]? = cq (.val d)):=by
 unfold z6 at h;by_cases b:i<n
 ·rw[Lz (by simpa using b),Nn,RY b]at h
  exact .inl (IX h).symm
 ·rw[Lg (by simpa using b),Le,List.length_replicate]at h
  cases e:fr[i - n]? with
  | none=>rw[e]at h;cases h
  | some j=>
   rw[e]at h;have a:x9 (γ[j]?.getD .no)=c:=by simpa using h
   cases e2:γ[j]? with
   | none=>rw[e2]at a;exact .inl a.symm
   | some z=>
    rw[e2]at a;cases z with
    | no=>exact .inl a.symm
    | own g=>exact .inl a.symm
    | nest f=>exact .inl a.symm
    | val d=>exact .inr ⟨d,j,a.symm,by omega,rfl,e2⟩
theorem RC.pull{K:HR}{H0 H:Hp}{J:St}{γ:Ctx}{own:List Str}{C:List (Str×Nat)}(r:RC K H0 H J γ):RC K H0 H (L2.iA own C J) (z6 own.length (C.map (·.2)) γ):=by
 refine⟨r.sub,by simp[L2.iA,z6],λi d h=>?_,λi e h=>?_,λi j a e k h _ _ _=>?_,ri.DU λi b h=>?_⟩
 ·rcases qC h with z | ⟨d',j,z,hi,I,O⟩
  ·cases z
  ·cases z
   obtain⟨v,f,g⟩:=r.val j d O;refine⟨v,?_,g⟩;rw[Le]at I;cases q:C[i - own.length]? with
   | none=>rw[q]at I;cases I
   | some p=>
    rw[q]at I;have U:p.2=j:=by simpa using I
    unfold L2.iA;rw[Lg (by simpa using hi),Le,IE,q];simp[U,f]
 ·rcases qC h with z | ⟨d',j,z,_⟩<;>cases z
 ·rcases qC h with z | ⟨d',j,z,_⟩<;>cases z
 ·rcases qC h with z | ⟨d',j,z,_⟩<;>cases z
theorem RC.weak{K:HR}{H0 H:Hp}{J:St}{γ γ':Ctx}(r:RC K H0 H J γ)(I:γ'.length=γ.length)(O : ∀(i:Nat) d,γ'[i]? = cq (.val d)->γ[i]? = cq (.val d))(z : ∀(i:Nat) ds,γ'[i]? ≠ cq (.own ds))(U : ∀(i:Nat) C,γ'[i]? ≠ cq (.nest C)):RC K H0 H J γ':=
 ⟨r.sub,by rw[I];exact r.len,λi d h=>r.val i d<|O i d h,λi ds h=>absurd h<|z i ds,λi j a ds b h _ _ _=>absurd h<|z i ds,ri.DU U⟩
theorem RC.upd{K:HR}{H0 H:Hp}{J:St}{γ:Ctx}{D:eh}{o:HO}(r:RC K H0 H J γ)(O:H0 D=dn)(I : ∀(i:Nat) ds,γ[i]? ≠ cq (.own ds))(U : ∀(i:Nat) C,γ[i]? ≠ cq (.nest C)):RC K H0 (upd H D o) J γ:=
 ⟨λb u q=>by rw[zD (λz=>by rw[z,O]at q;cases q)];exact r.sub b u q,r.len,r.val,λi ds h=>absurd h<|I i ds,λi j a ds d h _ _ _=>absurd h<|I i ds,ri.DU U⟩
theorem ZD : ∀{is:List Nat} {ds:List D} {γ:Ctx},(qP is ds γ).length=γ.length
 | [],ds,γ=>by cases ds<;>rfl
 | i::is,[],γ=>rfl
 | i::is,d::ds,γ=>by show(qP is ds<|γ.set i<|.val d).length=_;rw[ZD];simp
theorem ZE : ∀{is:List Nat} {ds:List D} {γ:Ctx} {i:Nat},i∉is->(qP is ds γ)[i]? = γ[i]?
 | [],ds,γ,i,_=>by cases ds<;>rfl
 | j::is,[],γ,i,_=>rfl
 | j::is,d::ds,γ,i,h=>by show(qP is ds<|γ.set j<|.val d)[i]? = _;rw[ZE (λz=>h<|Im _ z),Ib (λz=>h<|by rw[<- z];exact Iy)]
theorem Yu(h:xp T d γ=cq γ1):γ1.length=γ.length/\∀i,i∉T.idx->γ1[i]? = γ[i]? :=by
 cases T with
 | nm j=>cases h;exact⟨by simp,λi a=>Ib<|λz=>a<|by simp[Tg.idx,z]⟩
 | tp is=>
  cases d with
  | tup b=>
   simp only[xp]at h;by_cases I:b.length=is.length
   ·rw[RY I]at h;cases h;exact⟨ZD,λi a=>ZE a⟩
   ·rw[EQ I]at h;cases h
  | _=>simp[xp]at h
section
variable{K:HR}{own:List Str}{fr:List (Str×Nat)}{src:CO (List D)}{T:Tg}{k:CO Bool}{f:CO D}
theorem vN(hT : ∀i∈T.idx,i<own.length)(c0 : ∀C H Q,tT K k C H Q->tt C H Q) : ∀C H Q,tO K (zL src T own.length (fr.map (·.2)) k f) C H Q->bR (Sa K src) own fr (s9 K T) tt (tV K f) C H Q:=λC H Q hZ=>by
 obtain⟨H0,t,ds,rc,U,q⟩:=hZ;obtain⟨a,e1,U⟩:=zb U;by_cases hl:a.length<=lim
 ·rw[RY hl]at U
  refine⟨H0,t,a,rc,e1,λJ H1 P x1 wk D A=>?_⟩;have R : ∀(i:Nat) es,(z6 own.length (fr.map (·.2)) t)[i]? ≠ cq (.own es):=λi es h=>by rcases qC h with z | ⟨d',j,z,_⟩<;>cases z
  have S : ∀(i:Nat) B,(z6 own.length (fr.map (·.2)) t)[i]? ≠ cq (.nest B):=λi es h=>by rcases qC h with z | ⟨d',j,z,_⟩<;>cases z
  have b7:P D=dn:=jf x1.sub A;have c2:H D=dn:=by
   cases z:H D with
   | none=>rfl
   | some o=>rw[x1.s1 D o z]at A;cases A
  refine⟨λi m n F l=>m=a.length - i/\i<=a.length/\n.length<=i/\l D=cq (.lst n)/\∃g u L,RC K g l F (z6 own.length (fr.map (·.2)) t)/\g D=dn/\Ext P H1 g l/\el K g u n/\zN T k f (z6 own.length (fr.map (·.2)) t) (a.drop i)=cq L/\ds=u++L,
   ⟨_,rfl,Lp _,Ic _,zG,P,[],ds,((rc.ext x1).pull).upd b7 R S,b7,Ext.hide x1.sub A _,el.nil,U,rfl⟩,?_⟩
  rintro i m n F l ⟨rfl,hi,hy,M,g,u,L,W,b8,Y,r',I,rfl⟩;refine⟨M,?_⟩;by_cases s:i<a.length
  ·refine .inr ⟨wk.go i l Y.s1 s,?_,λx X y=>?_⟩
   ·have:=ky<|Ic lim;omega
   obtain⟨d,hd,hx⟩:=wk.C3 i l x X Y.s1 s y;obtain⟨G0,O,rg⟩:=hx g Y.s0 W.sub;have c4:a.drop i=d::a.drop (i+1):=by
    have c5:d=a[i]:=by rw[HX s]at hd;exact(IX hd).symm
    rw[c5];exact Mv s
   rw[c4]at I;simp only[zN]at I;obtain⟨p,eb,I⟩:=zb I;obtain⟨b,ek,I⟩:=zb I;have c7:G0 D=dn:=O.new D b8 (by rw[M];simp);have bb:X D=cq (.lst n):=O.s1 _ _ M;obtain⟨bl,bg⟩:=Yu eb;have bd : ∀{G:St} {G2 H2:Hp},RC K G2 H2 G p->RC K G2 H2 G (z6 own.length (fr.map (·.2)) t):=λr=>r.weak bl.symm (λj d' hj=>by
    by_cases hm:j∈T.idx
    ·rcases qC hj with z | ⟨d2,j2,_,hn,_⟩
     ·cases z
     ·exact absurd (hT j hm) ⋯
    ·rw[bg j hm];exact hj) R S
   refine vQ O.sub rg eb λPt bm _=>c0 Pt X _ ⟨G0,p,b,bm<|W.ext O,ek,λH3 Z x3=>?_⟩;have ar:=(bm<|W.ext O).ext x3;have xa:=Y.trans<|O.trans x3;have br:Z D=dn:=x3.new D c7 (by rw[bb];simp);have as:H3 D=cq (.lst n):=x3.s1 _ _ bb;cases b with
   | true=>
    dsimp only;rw[RY rfl]at I ⊢;obtain⟨e,ee,I⟩:=zb I;obtain⟨xE,er,I⟩:=zy I;refine⟨Z,p,e,ar,ee,λv H4 bv E r4=>?_⟩;have ax:bv D=dn:=E.new D br (by rw[as];simp);have ch:H4 D=cq (.lst n):=E.s1 _ _ as;have N:=xa.trans E;refine⟨ch,a.length - (i+1),by omega,rfl,s,by rw[LG,MO];omega,zG,bv,u++[e],xE,(bd<|ar.ext E).upd ax R S,ax,?_,(r'.mono<|(O.trans<|x3.trans E).s0).append (el.cons r4 el.nil),er,?_⟩
    ·exact⟨N.s0,λc o z=>by rw[zD (λw=>by rw[w,A]at z;cases z)];exact N.s1 c o z,λc o z=>by rw[zD (λw=>by rw[w,ax]at z;cases z)];exact N.sub c o z,N.new⟩
    ·rw[<- I];simp
   | false=>
    dsimp only;rw[EQ II]at I ⊢;exact⟨a.length - (i+1),by omega,rfl,s,by omega,as,Z,u,L,bd ar,br,xa,r'.mono<|(O.trans x3).s0,I,rfl⟩
  ·have e:i=a.length:=by omega
   subst e;rw[NN]at I;cases I;rw[Np]at q;exact .inl ⟨wk.stop l Y.s1,q D n l g (x1.trans Y) c2 b8 M r'⟩
 ·rw[EQ hl]at U;cases U
end
section
variable{X:Cx}{scope:hG}{own:List Str}{fr:List (Str×Nat)}{elt tg iter c:eA}{pos:gu}{src:CO (List D)}{T:Tg}{k:CO Bool}{f:CO D}
theorem pB(z:X.calm=di)(ok:t9 X scope fr)(I : ∀i∈T.idx,i<own.length)(L:uf X tg iter src)(O : ∀fp J C,PG (jw X scope (own++fr.map (·.1)) fp J C) tg<|s9 X.K T)
 (U : ∀fp J C,PV (jw X scope (own++fr.map (·.1)) fp J C) elt f) (Y : ∀x,rn iter X.env x=pure x:=by intro _;rfl) :
 PO X (.ListComp elt [⟨tg,iter,[],0⟩] scope pos) (zL src T own.length (fr.map (·.2)) jg f):=
 qg (YY z ok L O (λ_ _ _=>Xt) U Y) (vN I λg H Q ⟨a,e,b,rc,d,q⟩=>by cases d;exact q H a<|Ext.refl rc.sub)
theorem cX(z:X.calm=di)(ok:t9 X scope fr)(I : ∀i∈T.idx,i<own.length)(L:uf X tg iter src)(O : ∀fp J C,PG (jw X scope (own++fr.map (·.1)) fp J C) tg<|s9 X.K T)
 (U : ∀fp J C,nf (jw X scope (own++fr.map (·.1)) fp J C) c k) (Y : ∀fp J C,PV (jw X scope (own++fr.map (·.1)) fp J C) elt f) (S : ∀x,rn iter X.env x=pure x:=by intro _;rfl) :
 PO X (.ListComp elt [⟨tg,iter,[c],0⟩] scope pos) (zL src T own.length (fr.map (·.2)) k f):=
 qg (YY z ok L O (λfp J C=>We<|U fp J C) Y S) (vN I λa H Q h=>h)
theorem iI(z:X.N.Nodup)(I:X.N[i]? = cq y)(O:Loc X.env.scope y)(U:X.fn y=di\/X.env.scope.names.lookup y=cq .local)
 (Y:X.calm=di) (ok:t9 X scope fr) (L : ∀i∈T.idx,i<own.length) (hi:uf X tg iter src) (Z : ∀fp J C,PG (jw X scope (own++fr.map (·.1)) fp J C) tg<|s9 X.K T)
 (S : ∀fp J C,PV (jw X scope (own++fr.map (·.1)) fp J C) elt f) (hs : ∀x,rn iter X.env x=pure x:=by intro _;rfl) :
 PS X (.Assign [.Name y py] (.ListComp elt [⟨tg,iter,[],0⟩] scope pos) spos) (YI (tO X.K<|zL src T own.length (fr.map (·.2)) jg f)<|k8 i):=
 kF (wc z I O U Y ok hi Z (λ_ _ _=>Xt) S hs) λD a H h=>vN L (λa H Q g=>by obtain⟨d,j,b,rc,e,q⟩:=g;cases e;exact q H d<|Ext.refl rc.sub) a H _ h
theorem au(z:X.N.Nodup)(I:X.N[i]? = cq y)(O:Loc X.env.scope y)(U:X.fn y=di\/X.env.scope.names.lookup y=cq .local)
 (Y:X.calm=di) (ok:t9 X scope fr) (L : ∀i∈T.idx,i<own.length) (hi:uf X tg iter src) (Z : ∀fp J C,PG (jw X scope (own++fr.map (·.1)) fp J C) tg<|s9 X.K T)
 (hk : ∀fp J C,nf (jw X scope (own++fr.map (·.1)) fp J C) c k) (S : ∀fp J C,PV (jw X scope (own++fr.map (·.1)) fp J C) elt f) (hs : ∀x,rn iter X.env x=pure x:=by intro _;rfl) :
 PS X (.Assign [.Name y py] (.ListComp elt [⟨tg,iter,[c],0⟩] scope pos) spos) (YI (tO X.K<|zL src T own.length (fr.map (·.2)) k f)<|k8 i):=
 kF (wc z I O U Y ok hi Z (λfp J C=>We<|hk fp J C) S hs) λD a H h=>vN L (λa H Q h=>h) a H _ h
end
theorem ju{K:HR}{H:Hp}{i:Int}{v:V}(h:Rep K H (.int i) v):v = .int i:=h
theorem ia{K:HR}{g:Int->Int->D}{z:Int->Int->V}(O : ∀H i j,Rep K H (g i j)<|z i j):n5 K (u7 z) (dI g):=λa H x y b U d Q s Y e I q=>by cases b<;>cases U<;>simp[dI]at I;subst I;exact⟨_,_,ju Y,ju e,q _ H a (Ext.refl s)<|O a _ _⟩
theorem cc{K:HR}{C:Int->Int->Prop}{c:Int->Int->Bool}{g:Int->Int->D}{z:Int->Int->V}(O : ∀i j,c i j=di->C i j)(U : ∀H i j,Rep K H (g i j)<|z i j):n5 K (rI C z) (F9 c g):=λa H x y b Y d Q s h k I q=>by cases b<;>cases Y<;>simp[F9]at I;obtain⟨e,f⟩:=I;subst f;exact⟨_,_,ju h,ju k,O _ _ e,q _ H a (Ext.refl s)<|U a _ _⟩
theorem oE{K:HR}:n5 K (u7 λi j=> .int (i - j)) XN:=ia λ_ _ _=>rfl
theorem mz(h:XW i j=di):D0 i j:=by unfold XW at h;rw[LP,decide_eq_true_eq,decide_eq_true_eq]at h;unfold D0;omega
theorem oK{K:HR}:n5 K (rI GD λi j=> .int (i/j)) QR:=cc (λi j h=>by unfold Be at h;rw[Ir,decide_eq_true_eq,decide_eq_true_eq]at h;exact⟨h.1,by omega⟩) λ_ _ _=>rfl
theorem oI{K:HR}:n5 K (rI (λ_ j=>0<j) λi j=> .int (i%j)) xn:=cc (λi j h=>by unfold Bd at h;exact of_decide_eq_true h) λ_ _ _=>rfl
theorem oF{K:HR}:n5 K (rI GC λi j=> .int (i ^ j.toNat)) rY:=cc (λi j h=>by unfold Bc at h;rw[Ir,Ir,decide_eq_true_eq,decide_eq_true_eq,decide_eq_true_eq]at h;exact⟨h.1.1,by omega,h.2⟩) λ_ _ _=>rfl
theorem bZ{K:HR}:n5 K (u7 λi j=> .bl (decide<|i<j)) B5:=ia λ_ _ _=>rfl
theorem J1{K:HR}:n5 K (u7 λi j=> .bl (decide<|i<=j)) qq:=ia λ_ _ _=>rfl
theorem tR{K:HR}:n5 K (u7 λi j=> .bl (decide<|j<i)) DQ:=ia λ_ _ _=>rfl
section
variable{X:Cx}
noncomputable def mW(K:HR):R2:=λx y H Q=>∃a b d e,x = .ref a/\y = .ref b/\gR K H a d/\gR K H b e/\d.length+e.length<=gm/\
 (d=[]->Q (.ref b) H)/\(e=[]->Q (.ref a) H)/\∀p,H p=dn->Q (.ref p) (upd H p<|.tup<|d++e)
theorem iV:i9 X (xg .Add) (mW X.K):=by
 intro w s σ H x y v u Q I R S h;obtain⟨a,b,A,W,rfl,rfl,G,J,Y,M,N,P⟩:=h;cases R;cases S;obtain⟨O,r,t,z1⟩:=I.tuple G;obtain⟨B,e,f,z2⟩:=I.tuple J;by_cases U:A=[]
 ·have d:O=[]:=(r.M7).mpr U
  obtain⟨⟨E,F,k,T⟩,p,l,n,m⟩:=id t;obtain⟨⟨Z,as,data2,C⟩,g,i,L,j⟩:=id f;simp only at l m i j;subst l m i j;exact P5 ⟨_,p,rfl⟩ ⟨_,g,rfl⟩ PU SW Oo Oj (Ob _ _)
   (tuple_addW0 a b O.toArray B.toArray n L F as T C<|by simp[d]) ⟨p,g,⟨.ref b,H,I,rfl,M U⟩⟩
 ·have d:O ≠ []:=λz=>U ((r.M7).mp z)
  refine HT.ES t f d (λz=>⟨.ref a,H,I,rfl,N<|(e.M7).mp z⟩) (λ_=>?_) (by rw[<- r.length,<- e.length];exact Y);refine⟨.ref s.heap.objs.size,_,I.laid (t':=s.toks) (o:= .tup (A++W)) (λc ob q=>HV _ q) (Ic _) ?_,rfl,P _<|I.f9.fresh<|Ic _⟩;exact⟨by rw[LG];exact Y,_,r.append e,A8.new _ _⟩
noncomputable def uy(K:HR):R2:=λx y H Q=>∃l b a d,x = .ref l/\y = .ref b/\gB K H l a/\gB K H b d/\a.length+d.length<=gm/\∀p,H p=dn->Q (.ref p) (upd H p<|.lst<|a++d)
theorem iW:i9 X (xg .Add) (uy X.K):=by
 intro a s L H x y v u Q I E G h;obtain⟨l,b,Z,zs,rfl,rfl,A,w,S,q⟩:=h;cases E;cases G;obtain⟨z,r,⟨o,n,e,U,Y,d⟩,z1⟩:=I.list A;obtain⟨O,k,⟨C,B,j,f,g,i⟩,z2⟩:=I.list w;have T:=r.length;have W:=k.length;obtain⟨cls,ml,R,J⟩:=o;obtain⟨M,N,P,m⟩:=C;simp only at U Y d f g i;subst U Y d f g i;have p:EP X a L Q (.ref s.heap.objs.size) {s with heap:=s.heap.push {cls:= .type "list",data:= .seq (z++O).toArray}}:=
  ⟨.ref _,_,I.SO (t':=s.toks) (r.append k) (by rw[LG];omega),rfl,q _ I.fresh⟩
 have t:z.toArray++O.toArray=(z++O).toArray:=by simp
 refine P5 ⟨_,e,rfl⟩ ⟨_,j,rfl⟩ noFill_list_add seq_list_add PySem.F.slot_list_add PySem.F.entry_list_add (PySem.F.args_list_add_2 _ _)
  (list_addW l b z.toArray O.toArray n B dn dn J m<|by rw[Ik,Ik];omega) ⟨e,j,?_⟩
 rw[t];exact p
end
noncomputable def kQ(scope C:hG):hG:={scope with names:=scope.names.map λp=>if p.2==IV && C.kind == .function && C.names.lookup p.1==cq .cell then (p.1,My)else (p.1,p.2)}
theorem ah(scope:hG)(env:o9):A6 scope env=kQ scope env.scope:=by unfold A6 kQ;rfl
structure SX(X:Cx)(sc:hG)(N T:List Str)(k:Nat):Prop where
 En:X.env.scope=sc
 eN:X.N=N
 nd:N.Nodup
 calm:X.calm=di
 room:oe k X.A
 fn : ∀x∈T,X.fn x=di\/sc.names.lookup x=cq .local
noncomputable def JI(C:hG)(N:List Str)(i:Nat)(x:Str):Bool:=
 decide (N[i]? = cq x) && (decide (C.names.lookup x=cq .local) || decide (C.names.lookup x=cq .cell) || decide (C.names.lookup x=cq .free)) && !(x==("__debug__" : Str)) && !(x==("__classdict__" : Str))
noncomputable def yo(C:hG)(N T:List Str)(i:Nat)(x:Str):Bool:=decide (x∈T) && decide (N[i]? = cq x) && (decide (C.names.lookup x=cq .local) || decide (C.names.lookup x=cq .cell))
noncomputable def yp(C:hG)(x:Str):Bool:=decide (C.names.lookup x=cq .globalImplicit) && !(x==("__name__" : Str)) && !(x==("__debug__" : Str))
section
variable{X:Cx}{sc:hG}{N T:List Str}{k:Nat}{i:Nat}{x:Str}{pos:gu}
theorem SX.var(h:SX X sc N T k)(c:JI sc N i x=di):PE X (.Name x pos) (sH i):=by
 unfold JI at c;simp only[Ir,LP,decide_eq_true_eq,Mm]at c;obtain⟨⟨⟨a,h2⟩,z⟩,I⟩:=c;refine uW (by rw[h.eN];exact a) ?_ z I;unfold P7;rw[h.En];rcases h2 with(h2 | h2) | h2
 ·exact .inl h2
 ·exact .inr<|.inl h2
 ·exact .inr<|.inr h2
theorem SX.loc(h:SX X sc N T k)(c:yo sc N T i x=di):X.N[i]? = cq x/\L2.Loc X.env.scope x/\(X.fn x=di\/X.env.scope.names.lookup x=cq .local):=by
 unfold yo at c;simp only[Ir,LP,decide_eq_true_eq]at c;refine⟨by rw[h.eN];exact c.1.2,?_,?_⟩
 ·unfold L2.Loc;rw[h.En];exact c.2
 ·rw[h.En];exact h.fn x c.1.1
theorem SX.G4(h:SX X sc N T k):X.N.Nodup:=by rw[h.eN];exact h.nd
theorem SX.DB(h:SX X sc N T k)(i:Nat)(c:yo sc N T i x=di):PG X (.Name x pos) (k8 i):=by obtain⟨a,b,z⟩:=h.loc c;exact dm h.G4 a b z
theorem SX.S7(h:SX X sc N T k)(g:F3 X es (gs is))(C:(B0 es X.env).length=is.length:=by rfl)(z:(B0 es X.env).findIdx? (·.1)=dn:=by rfl):PG X (.Tuple es j pos) (s9 X.K<|.tp is):=
 uV h.calm g C z
theorem SX.set(h:SX X sc N T k)(i:Nat)(c:yo sc N T i x=di)(z:PE X e te)(I:B9 e (cq (.Name x pos')) pos.line X.env=pure d7:=by rfl):PS X (.Assign [.Name x pos'] e pos) (YI te<|k8 i):=by obtain⟨a,b,O⟩:=h.loc c;exact uO h.G4 a b z I O
theorem SX.gl(h:SX X sc N T k)(c:yp sc x=di):Gl X x/\x ≠ "__name__"/\(x==("__debug__" : Str))=d7:=by
 unfold yp at c;simp only[Ir,decide_eq_true_eq,Mm]at c;refine⟨?_,?_,c.2⟩
 ·show X.env.scope.names.lookup x=_
  rw[h.En];exact c.1.1
 ·intro e;rw[e]at c;simp at c
noncomputable def Vo(sc scope:hG)(N:List Str)(C:List (Str×Nat)):Bool:=
 decide (scope.kind = .function) && decide ((scope.names.map (·.1)).Nodup) && scope.names.all (λp=> !(p.2==IV) || decide (sc.names.lookup p.1=cq .cell) || decide (sc.names.lookup p.1=cq .free)) &&
 C.all λp=>decide (scope.names.lookup p.1=cq .free) && decide (N[p.2]? = cq p.1)
noncomputable def CK(own:List Str)(scope:hG)(C:List (Str×Nat)):Bool:=decide ((own++C.map (·.1)).Nodup) && own.all (λx=>decide (scope.names.lookup x=cq .local) || decide (scope.names.lookup x=cq .cell))
theorem SX.Tw(h:SX X sc N T k)(c:Vo sc scope N fr=di):t9 X scope fr:=by
 unfold Vo at c;simp only[Ir,decide_eq_true_eq,LK,LP,Mm]at c;obtain⟨⟨⟨O,U⟩,Y⟩,I⟩:=c;refine⟨O,U,λp z a=>?_,λp z=>⟨(I p z).1,by rw[h.eN];exact(I p z).2⟩⟩;have e:X.env.kindOf p.1=sc.names.lookup p.1:=by show X.env.scope.names.lookup p.1=_;rw[h.En]
 rw[e];rcases Y p z with(q | q) | q
 ·rw[a]at q;exact absurd q ⋯
 ·exact .inl q
 ·exact .inr q
theorem ZT(scope sc:hG)(x:Str):(kQ scope sc).names.lookup x=(scope.names.lookup x).map λk=>if (k==IV && sc.kind == .function && sc.names.lookup x==cq .cell)then My else k:=by
 unfold kQ;dsimp only;generalize scope.names=l
 induction l with
 | nil=>rfl
 | cons p r I=>
  obtain⟨n,O⟩:=p;rw[IQ];cases hx:x==n with
  | true=>
   have e:x=n:=by simpa using hx
   subst e;dsimp only;split
   ·rename_i z;rw[LC,LC,beq_self_eq_true];dsimp only[L5];rw[RY z]
   ·rename_i z;rw[LC,LC,beq_self_eq_true];dsimp only[L5];rw[EQ z]
  | false=>
   dsimp only;split
   ·rw[LC,LC,hx];exact I
   ·rw[LC,LC,hx];exact I
theorem SX.comp(h:SX X sc N T k)(c:CK own scope fr=di) :
 SX (jw X scope (own++fr.map (·.1)) fp s2 H2) (kQ scope sc) (own++fr.map (·.1)) own k:=by
 unfold CK at c;simp only[Ir,decide_eq_true_eq,LK,LP]at c;refine⟨?_,rfl,c.1,h.calm,h.room,λx a=>?_⟩
 ·show A6 scope X.env=_
  rw[ah,h.En]
 ·rcases c.2 x a with q | q
  ·right;rw[ZT,q];rfl
  ·left
   show(scope.names.lookup x==cq .cell)=di;rw[q];rfl
end
mutual
def m5:D->PyData
 | .fh=> .none
 | .bl b=> .bool b
 | .int i=> .int i
 | .str x=> .str x
 | .tup a=> .tuple (t8 a)
 | .lst a=> .list (t8 a)
 | .m7 _ _=> .none
 | .ml _ _=> .none
def t8:List D->List PyData
 | []=>[]
 | d::ds=>m5 d::t8 ds
end
theorem Dm(h:h9 (.m7 ks vs)=di):False:=by simp[h9]at h
theorem Dl(h:h9 (.ml ks vs)=di):False:=by simp[h9]at h
mutual
theorem Ro : ∀x y:D,h9 x=di->h9 y=di->Nv (m5 x) (m5 y)=l0 x y
 | .fh,y,_,h=>by cases y<;>first | exact(Dm h).elim | exact(Dl h).elim | simp[m5,Nv,l0]
 | .bl a,y,_,h=>by cases y<;>first | exact(Dm h).elim | exact(Dl h).elim | simp[m5,Nv,l0]
 | .int a,y,_,h=>by cases y<;>first | exact(Dm h).elim | exact(Dl h).elim | simp[m5,Nv,l0]
 | .str a,y,_,h=>by cases y<;>first | exact(Dm h).elim | exact(Dl h).elim | simp[m5,Nv,l0]
 | .m7 c n,y,h,_=>(Dm h).elim
 | .ml c n,y,h,_=>(Dl h).elim
 | .tup xs,y,h1,h2=>by
  cases y with
  | tup b=>simp only[h9]at h1 h2;simp only[m5,Nv,l0];exact Rp xs b h1 h2
  | m7 c n=>exact(Dm h2).elim
  | ml c n=>exact(Dl h2).elim
  | _=>simp[m5,Nv,l0]
 | .lst xs,y,h1,h2=>by
  cases y with
  | lst b=>simp only[h9]at h1 h2;simp only[m5,Nv,l0];exact Rp xs b h1 h2
  | m7 c n=>exact(Dm h2).elim
  | ml c n=>exact(Dl h2).elim
  | _=>simp[m5,Nv,l0]
theorem Rp : ∀xs ys:List D,qs xs=di->qs ys=di->OV (t8 xs) (t8 ys)=s8 xs ys
 | [],ys,_,_=>by cases ys<;>simp[t8,OV,s8]
 | x::xs,ys,h1,h2=>by
  cases ys with
  | nil=>simp[t8,OV,s8]
  | cons y ys=>
   simp only[qs,Ir]at h1 h2;simp only[t8,OV,s8];rw[Ro x y h1.1 h2.1,Rp xs ys h1.2 h2.2]
end
mutual
theorem SN : ∀x:D,h9 x=di->(m5 x).canLay0=di
 | .fh,_=>by simp[m5,Nz]
 | .bl a,_=>by simp[m5,Nz]
 | .int a,_=>by simp[m5,Nz]
 | .str a,h=>by simpa[m5,Nz,h9,PyData.strOk]using h
 | .tup xs,h=>by simp only[h9]at h;simp only[m5,Nz];exact RB xs h
 | .lst xs,h=>by simp only[h9]at h;simp only[m5,Nz];exact RB xs h
 | .m7 c n,h=>(Dm h).elim
 | .ml c n,h=>(Dl h).elim
theorem RB : ∀xs:List D,qs xs=di->Ph (t8 xs)=di
 | [],_=>by simp[t8,Ph]
 | x::xs,h=>by simp only[qs,Ir]at h;simp only[t8,Ph];rw[SN x h.1,RB xs h.2];rfl
end
mutual
theorem Sz : ∀x:D,(m5 x).depth=deep x
 | .fh=>by simp[m5,Ng,deep]
 | .bl a=>by simp[m5,Ng,deep]
 | .int a=>by simp[m5,Ng,deep]
 | .str a=>by simp[m5,Ng,deep]
 | .m7 c n=>by simp[m5,Ng,deep]
 | .ml c n=>by simp[m5,Ng,deep]
 | .tup b=>by simp only[m5,Ng,deep];rw[Rn b]
 | .lst b=>by simp only[m5,Ng,deep];rw[Rn b]
theorem Rn : ∀xs:List D,PyData.depthAll (t8 xs)=o4 xs
 | []=>by simp[t8,PyData.depthAll,o4]
 | x::xs=>by simp only[t8,PyData.depthAll,o4];rw[Sz x,Rn xs]
end
theorem yC(h:l9 d=di):h9 d=di:=by unfold l9 at h;rw[Ir]at h;exact h.2
theorem vz(h:l9 d=di):SeqAt.shaped (m5 d)=di:=by unfold l9 at h;rw[Ir,decide_eq_true_eq]at h;unfold SeqAt.shaped;rw[SN d h.2,NQ,Sz];exact decide_eq_true ⋯
section
variable{X:Cx}{pins:RW}{σ:St}{H0 H:Hp}{s:eF}
mutual
theorem Ht(I:Inv X pins σ H s)(sub:gv H0 H) : ∀{d:D} {v:V} {u:ej},h9 d=di->Rep X.K H0 d v->RelV v u->∃z,Reads s.heap u (m5 d) z
 | .fh,v,u,_,h,r=>by cases (show v = .fh from h);cases r;exact⟨_,.none⟩
 | .bl b,v,u,_,h,r=>by cases (show v = .bl b from h);cases r;exact⟨_,.bool b⟩
 | .int i,v,u,_,h,r=>by cases (show v = .int i from h);obtain⟨t,rfl⟩:=r;exact⟨_,.int i t⟩
 | .str x,v,u,_,h,r=>by cases (show v = .str x from h);obtain⟨t,rfl⟩:=r;exact⟨_,.str x t⟩
 | .m7 c n,v,u,o,_,_=>(Dm o).elim
 | .ml c n,v,u,o,_,_=>(Dl o).elim
 | .tup ds,v,u,o,h,r=>by obtain⟨a,e,rfl,f,g⟩:=(show ∃a e,v = .ref a/\gR X.K H0 a e/\el X.K H0 ds e from h);cases r;simp only[h9]at o;obtain⟨Y,l,⟨w,O,U,n,j⟩,m⟩:=I.tuple<|mu sub f;obtain⟨z,k⟩:=RU I sub o g l;exact⟨z,.tuple O U j<|by simpa using k⟩
 | .lst ds,v,u,o,h,r=>by obtain⟨a,e,rfl,f,g⟩:=(show ∃a e,v = .ref a/\gB X.K H0 a e/\el X.K H0 ds e from h);cases r;simp only[h9]at o;obtain⟨Y,l,p,m⟩:=I.list<|sub.seq f;obtain⟨w,O,U,n,j⟩:=p.isList;obtain⟨z,k⟩:=RU I sub o g l;exact⟨_,.list O U j<|by simpa using k⟩
theorem RU(I:Inv X pins σ H s)(sub:gv H0 H) : ∀{ds:List D} {xs:List V} {us:List ej},qs ds=di->el X.K H0 ds xs->fy xs us->∃z,ReadsAll s.heap us (t8 ds) z
 | [],xs,us,_,h,r=>by rw[h.su]at r;cases r;exact⟨_,.nil⟩
 | d::ds,xs,us,o,h,r=>by
  obtain⟨x,t,e,a,b⟩:=h.ow;subst e;simp only[qs,Ir]at o;cases r with
  | cons O f=>
   obtain⟨z,g⟩:=Ht I sub o.1 a O;obtain⟨bs,i⟩:=RU I sub o.2 b f;exact⟨_,.cons g i⟩
end
end
noncomputable def FR(K:HR):R2:=λx y H Q=>∃a b z,gv a H/\Rep K a b x/\Rep K a z y/\l9 b=di/\l9 z=di/\Q (.bl<|l0 b z) H
noncomputable def FQ(K:HR):R2:=λx y H Q=>∃a b z,gv a H/\Rep K a b x/\Rep K a z y/\l9 b=di/\l9 z=di/\Q (.bl<|!l0 b z) H
theorem nq(U:X.A.units+64<DN):i9 X (n4 .Eq) (FR X.K):=by intro a s l H x y v u Q I Y g h;obtain⟨i,j,k,sub,b,d,z,O,q⟩:=h;obtain⟨as,e⟩:=Ht I sub (yC z) b Y;obtain⟨bs,f⟩:=Ht I sub (yC O) d g;exact eq_dataH e f (vz z) (vz O) U ⟨.bl _,H,I,by rw[Ro _ _ (yC z) (yC O)];rfl,q⟩
theorem Ak(U:X.A.units+64<DN):i9 X (n4 .NotEq) (FQ X.K):=by intro a s l H x y v u Q I Y g h;obtain⟨i,j,k,sub,b,d,z,O,q⟩:=h;obtain⟨as,e⟩:=Ht I sub (yC z) b Y;obtain⟨bs,f⟩:=Ht I sub (yC O) d g;exact ne_dataH e f (vz z) (vz O) U ⟨.bl _,H,I,by rw[Ro _ _ (yC z) (yC O)];rfl,q⟩
theorem cf{K:HR}:n5 K (FR K) g8:=λa H x y b I d Q s O U z q=>by
 unfold g8 at z;split at z
 ·rename_i h;cases z;exact⟨a,b,I,s,O,U,h.1,h.2,q _ H a (Ext.refl s) rfl⟩
 ·cases z
theorem oG{K:HR}:n5 K (FQ K) i0:=λa H x y b I d Q s O U z q=>by
 unfold i0 at z;split at z
 ·rename_i h;cases z;exact⟨a,b,I,s,O,U,h.1,h.2,q _ H a (Ext.refl s) rfl⟩
 ·cases z
theorem SX.I8(h:SX X sc N T k):X.A.units+64<DN:=by have:=h.room.un;omega
section
variable{X:Cx}{sc:hG}{N T:List Str}{k:Nat}{a b c:eA}{pos p:gu}{fa fb fc:CO D}
theorem y6(C:PV X a fa)(z:PV X b fb):PV X (.BinOp a .Sub b pos) (zC XN fa fb):=J4 Ah oE C z
theorem vC(C:PV X a fa)(z:PV X b fb):PV X (.BinOp a .FloorDiv b pos) (zC QR fa fb):=J4 pT oK C z
theorem qb(C:PV X a fa)(z:PV X b fb):PV X (.BinOp a .Mod b pos) (zC xn fa fb):=J4 Al oI C z
theorem cJ(C:PV X a fa)(z:PV X b fb):PV X (.BinOp a .Pow b pos) (zC rY fa fb):=J4 Aj oF C z
theorem JL(h:SX X sc N T k)(C:PV X a fa)(z:PV X b fb):PV X (.Compare a [.Eq] [b] pos) (zC g8 fa fb):=uH (nq h.I8) cf C z<|KU b
theorem cO(C:PV X a fa)(z:PV X b fb):nf X (.Compare a [.Gt] [b] pos) (sB<|zC DQ fa fb):=Xp Eg tR C z<|KU b
theorem yi(h:SX X sc N T k)(C:PV X a fa)(z:PV X b fb):nf X (.Compare a [.Eq] [b] pos) (sB<|zC g8 fa fb):=Xp (nq h.I8) cf C z<|KU b
theorem xS(h:SX X sc N T k)(C:PV X a fa)(z:PV X b fb):nf X (.Compare a [.NotEq] [b] pos) (sB<|zC i0 fa fb):=Xp (Ak h.I8) oG C z<|KU b
theorem YR{K:HR}{H:Hp}{d:D}(h:Rep K H d .fh):d = .fh:=by
 cases d with
 | fh=>rfl
 | bl b=>exact V.noConfusion (show V.fh = .bl b from h)
 | int b=>exact V.noConfusion (show V.fh = .int b from h)
 | str b=>exact V.noConfusion (show V.fh = .str b from h)
 | tup b=>obtain⟨a,f,e,_⟩:=h;cases e
 | lst b=>obtain⟨a,f,e,_⟩:=h;cases e
 | m7 c n=>obtain⟨a,f,e,_⟩:=h;cases e
 | ml c n=>obtain⟨a,f,e,_⟩:=h;cases e
theorem oJ{K:HR}:n5 K (λx y H Q=>y = .fh/\Q (.bl<|decide<|x = .fh) H) AZ:=λa H x y b O d Q s z U I q=>by
 cases O with
 | fh=>
  refine⟨U,?_⟩;cases b with
  | fh=>cases I;rw[show x=V.fh from z];exact q _ H a (Ext.refl s) (by simp;rfl)
  | _=>
   cases I;refine q _ H a (Ext.refl s) ?_;have : ¬x=V.fh:=λe=>by rw[e]at z;exact D.noConfusion<|YR z
   rw[decide_eq_false this];rfl
 | _=>cases b<;>cases I
theorem pf(C:PV X a fa)(z:PV X b fb):nf X (.Compare a [.Is] [b] pos) (sB<|zC AZ fa fb):=Xp Am oJ C z<|KU b
theorem kO{K:HR}{H:Hp}{ds:List D}{v:V}(h:Rep K H (.tup ds) v) : ∃a xs,v = .ref a/\gR K H a xs/\el K H ds xs:=h
theorem dN{K:HR}{H:Hp}{ds:List D}{v:V}(h:Rep K H (.lst ds) v) : ∃a xs,v = .ref a/\gB K H a xs/\el K H ds xs:=h
theorem qY{K:HR}{H:Hp}{ds:List D}{a:eh}{xs:List V}(C:gR K H a xs)(I:el K H ds xs):Rep K H (.tup ds) (.ref a):=⟨a,xs,rfl,C,I⟩
theorem yv{K:HR}{H:Hp}{ds:List D}{a:eh}{xs:List V}(C:gB K H a xs)(I:el K H ds xs):Rep K H (.lst ds) (.ref a):=⟨a,xs,rfl,C,I⟩
theorem oM{K:HR}:n5 K (λx y H Q=>u7 (λi j=> .int (i+j)) x y H Q\/mW K x y H Q) qr:=λg H x y n o d Q s O U I q=>by
 cases n<;>cases o<;>simp[qr]at I
 ·subst I;exact .inl ⟨_,_,ju O,ju U,q _ H g (Ext.refl s) rfl⟩
 ·rename_i m r
  obtain⟨t,rfl⟩:=I;obtain⟨a,u,rfl,k,f⟩:=kO O;obtain⟨b,w,rfl,Y,z⟩:=kO U;refine .inr ⟨a,b,u,w,rfl,rfl,mu s k,mu s Y,ky (by rw[f.length,z.length];exact t),λe=>?_,λe=>?_,λp l=>?_⟩
  ·have h:m=[]:=by
    have:=f.length;rw[e]at this;exact Lu this.symm
   subst h;exact q _ H g (Ext.refl s)<|qY Y z
  ·have h:r=[]:=by
    have:=z.length;rw[e]at this;exact Lu this.symm
   subst h;exact q _ H g (Ext.refl s) (by rw[Np];exact qY k f)
  ·exact q _ _ _ (Ext.alloc s l _)<|qY (gR.of zG)<|(f.append z).mono (z7 (jf s l) _)
theorem jQ(C:PV X a fa)(z:PV X b fb):PV X (.BinOp a .Add b pos) (zC qr fa fb):=J4 (T3.or iV) oM C z
end
theorem QX(O:A.handled=dn)(k:Sk)(I z:eh)(U:z≠I)(items:Array ej) :
 Walks P w A I [I,z] [I] items.size (λi v=>items[i]? = cq v) (λi h=>i5 k h I z i/\l8 k h z items):=by
 cases k
 ·exact Walks.list O I z U items
 ·exact Walks.tuple O I z U items
theorem ZN(C:List Int) : ∀n,preSum (λi=>C.getD i 0) n=(C.take n).sum
 | 0=>by simp[preSum]
 | n+1=>by
  have z:=ZN C n;simp only[preSum,z];by_cases h:n<C.length
  ·rw[List.take_succ_eq_append_getElem h,List.sum_append]
   simp[h]
  ·rw[MH ⋯,MH ⋯]
   simp[h]
section
variable{X:Cx}{pins:RW}{σ:St}{H:Hp}{s:eF}
theorem fS(J:X.calm=di):wU X (.builtin "sum") (λxs H Q=>∃p k ys C,xs=[.ref p]/\kr k X.K H p ys/\ys=(C:List Int).map V.int/\Q (.int C.sum) H):=by
 intro pins s σ H F E Q I n h;obtain⟨p,k,ys,C,rfl,l,rfl,q⟩:=h;obtain⟨u,rfl,O⟩:=yn n;cases O;obtain⟨z,r,U,B⟩:=I.sq l;have lt:=U.lt;have Y:=r.length;rw[IE]at Y;refine call_sum_walkG<|wF U ⟨_,[_,p],[_],z.toArray.size,_,_,λi=>C.getD i 0,rfl,QX (A:=X.A.in1) (I.ok.hd J) k _ p (IJ lt) z.toArray,⟨vK k _ p,U.at λo e=>HV _ e⟩,?_,?_,?_⟩
 ·intro b f
  rw[IU];simp only[Il,IH,or_false]at f;rcases f with rfl | rfl
  ·exact LW _
  ·exact Lo lt
 ·intro i v m
  have a:z[i]? = cq v:=by simpa using m
  have g:i<C.length:=by rw[Y];exact(Io.mp a).1
  obtain⟨u,d,O⟩:=r.get (i:=i) (x:= .int C[i]) (by simp[g]);rw[a]at d;cases d;obtain⟨t,rfl⟩:=O;exact⟨t,by simp[g]⟩
 ·intro y w t' j
  have e:preSum (λi=>C.getD i 0) z.toArray.size=C.sum:=by rw[ZN,MH (by rw[Ik,Y];exact Ic _)]
  refine⟨.int C.sum,H,I.kept (t':=w)<|λb u e=>j b u ?_ (HV _ e),⟨t',by rw[e]⟩,q⟩;simp only[Il,IH,or_false];exact IJ<|Ip e
noncomputable def tq:V->Option Bool
 | .fh=>cq d7
 | .bl b=>cq b
 | .int i=>cq (i != 0)
 | _=>dn
theorem VM(r:RelV x u)(e:tq x=cq b)(q:Q b s):wpAny (eP P w) A (I7 u) Q E s:=by
 cases x with
 | fh=>cases r;cases e;exact λ_ _ _=>q
 | bl c=>cases r;cases e;exact LH q
 | int i=>obtain⟨t,rfl⟩:=r;cases e;exact PyProof.Rows.truthy_int q
 | _=>cases e
noncomputable def W5:List V->Option (List Bool)
 | []=>cq []
 | x::r=>(tq x).bind λb=>(W5 r).map λl=>b::l
theorem Zu : ∀{xs:List V} {bs:List Bool},W5 xs=cq bs->bs.length=xs.length/\∀(i:Nat) x,xs[i]? = cq x->tq x=cq (bs.getD i d7)
 | [],bs,h=>by cases h;exact⟨rfl,λi x e=>by simp at e⟩
 | y::xs,bs,h=>by
  obtain⟨b,a,h⟩:=zb h;obtain⟨l,d,h⟩:=zy h;subst h;obtain⟨f,g⟩:=Zu d;refine⟨by simp[f],λi x e=>?_⟩;cases i with
  | zero=>simp at e;subst e;simpa using a
  | succ i=>simpa using g i x (by simpa using e)
theorem gk(bs:List Bool):(HU bs.length).all (λi=>bs.getD i d7)=bs.all id:=by
 rw[OL];simp only[LK,HW,id_eq];constructor
 ·intro h b z
  obtain⟨i,a,e⟩:=List.mem_iff_getElem.mp z;have:=h i a;rw[HY,HX a]at this;rw[<- e];exact this
 ·intro h i a
  rw[HY,HX a];exact h _<|Mr a
theorem gj(bs:List Bool):(HU bs.length).any (λi=>bs.getD i d7)=bs.any id:=by
 rw[OL];simp only[PD,HW,id_eq];constructor
 ·rintro⟨i,a,h⟩
  rw[HY,HX a]at h;exact⟨_,Mr a,h⟩
 ·rintro⟨b,z,h⟩
  obtain⟨i,a,e⟩:=List.mem_iff_getElem.mp z;refine⟨i,a,?_⟩;rw[HY,HX a,Nb,e];exact h
theorem fX(C:X.calm=di):wU X (.builtin "all") (λxs H Q=>∃p k ys bs,xs=[.ref p]/\kr k X.K H p ys/\W5 ys=cq bs/\Q (.bl (bs.all id)) H):=by
 intro pins s σ H N M Q I y h;obtain⟨p,k,ys,bs,rfl,n,t,q⟩:=h;obtain⟨u,rfl,O⟩:=yn y;cases O;obtain⟨z,r,U,J⟩:=I.sq n;have lt:=U.lt;have Y:=r.length;obtain⟨g,j⟩:=Zu t;refine call_all_walk<|wF U ⟨_,[_,p],[_],z.toArray.size,_,_,λi=>bs.getD i d7,rfl,QX (A:=X.A.in1) (I.ok.hd C) k _ p (IJ lt) z.toArray,⟨vK k _ p,U.at λo e=>HV _ e⟩,?_,?_⟩
 ·intro i v L F E w l
  have a:z[i]? = cq v:=by simpa using w
  have f:i<ys.length:=by rw[Y];exact(Io.mp a).1
  obtain⟨u,d,O⟩:=r.get (i:=i) (x:=ys[i]) (by simp[f]);rw[a]at d;cases d;exact VM O (j i ys[i] (by simp[f])) l
 ·intro G B m
  have e:(HU z.toArray.size).all (λi=>bs.getD i d7)=bs.all id:=by rw[Ik,<- Y,<- g];exact gk bs
  refine⟨.bl<|bs.all id,H,I.kept (t':=B)<|λb u e=>m b u ?_ (HV _ e),by rw[e];rfl,q⟩;simp only[Il,IH,or_false];exact IJ<|Ip e
theorem fW(C:X.calm=di):wU X (.builtin "any") (λxs H Q=>∃p k ys bs,xs=[.ref p]/\kr k X.K H p ys/\W5 ys=cq bs/\Q (.bl (bs.any id)) H):=by
 intro pins s σ H N M Q I y h;obtain⟨p,k,ys,bs,rfl,n,t,q⟩:=h;obtain⟨u,rfl,O⟩:=yn y;cases O;obtain⟨z,r,U,J⟩:=I.sq n;have lt:=U.lt;have Y:=r.length;obtain⟨g,j⟩:=Zu t;refine call_any_walk<|wF U ⟨_,[_,p],[_],z.toArray.size,_,_,λi=>bs.getD i d7,rfl,QX (A:=X.A.in1) (I.ok.hd C) k _ p (IJ lt) z.toArray,⟨vK k _ p,U.at λo e=>HV _ e⟩,?_,?_⟩
 ·intro i v L F E w l
  have a:z[i]? = cq v:=by simpa using w
  have f:i<ys.length:=by rw[Y];exact(Io.mp a).1
  obtain⟨u,d,O⟩:=r.get (i:=i) (x:=ys[i]) (by simp[f]);rw[a]at d;cases d;exact VM O (j i ys[i] (by simp[f])) l
 ·intro G B m
  have e:(HU z.toArray.size).any (λi=>bs.getD i d7)=bs.any id:=by rw[Ik,<- Y,<- g];exact gj bs
  refine⟨.bl<|bs.any id,H,I.kept (t':=B)<|λb u e=>m b u ?_ (HV _ e),by rw[e];rfl,q⟩;simp only[Il,IH,or_false];exact IJ<|Ip e
end
section
variable{X:Cx}{sc:hG}{N T:List Str}{k:Nat}{e a b c:eA}{pos p p2:gu}{f g:CO D}{fq:CO (Sk×List D)}
theorem tP{K:HR}{H:Hp}{k:Sk}{a:eh}{xs:List V}(h:kr k K H a xs):gB K H a xs\/gR K H a xs:=by
 cases k
 ·exact .inl h
 ·exact .inr h
theorem qB(h:SX X sc N T k)(c:yp sc "len" = di)(z:X.mg "len" = dn)(O:PQ X e fq)(I:f7 [e] X.env=[(d7,eB e X.env)]:=by rfl):PV X (.Call (.Name "len" p) [e] [] pos) (ye fq):=
 qg (kT Yr (h.gl c).1 z PySem.boot_len (jl O qo I) ⋯ ⋯ I rfl) λu H Q U=>by obtain⟨j,s,d,rc,Y,q⟩:=U;obtain⟨⟨o,f⟩,l,m⟩:=zy Y;subst m;refine⟨j,s,o,f,rc,l,λa g i b ext n t r=>⟨a,g,rfl,tP n,?_⟩⟩;exact q _ i b ext (show V.int g.length = .int f.length by rw[r.length])
theorem jD(h:SX X sc N T k)(c:yp sc "tuple" = di)(z:X.mg "tuple" = dn)(U:PQ X e fq)(I:f7 [e] X.env=[(d7,eB e X.env)]:=by rfl):PV X (.Call (.Name "tuple" p) [e] [] pos) (zQ fq):=
 qg (ZP XU (h.gl c).1 z PyProof.Rows.boot_tuple (jl U qo I) ⋯ ⋯ I rfl) λx H Q Y=>by
  obtain⟨j,w,d,rc,s,q⟩:=Y;obtain⟨⟨g,m⟩,n,o⟩:=zy s;subst o;refine⟨j,w,g,m,rc,n,λa u i b ext f t r=>⟨a,u,rfl,?_⟩⟩;cases g with
  | L=>exact .inl ⟨f,λl O=>q _ _ _ (ext.trans<|Ext.alloc ext.sub O _)<|qY (gR.of zG)<|r.mono<|z7 (jf ext.sub O) _⟩
  | T=>exact .inr ⟨f,q _ i b ext (qY (t rfl) r)⟩
theorem xW{H H':Hp}(s:gv H H'){a:eh}(h:H' a=dn):H a=dn:=by
 cases z:H a with
 | none=>rfl
 | some o=>rw[s a o z]at h;cases h
theorem pA(h:SX X sc N T k)(c:yp sc "list" = di)(z:X.mg "list" = dn)(U:PQ X e fq)(O:f7 [e] X.env=[(d7,eB e X.env)]:=by rfl):PO X (.Call (.Name "list" p) [e] [] pos) (cC fq):=
 qg (ZP Yp (h.gl c).1 z PyProof.Rows.boot_list (jl U qo O) ⋯ ⋯ O rfl) λx H Q Y=>by obtain⟨g,t,d,rc,n,q⟩:=Y;obtain⟨⟨s,i⟩,j,m⟩:=zy n;subst m;refine⟨g,t,s,i,rc,j,λa f u b ext o w r=>⟨a,f,rfl,tP o,λl I=>?_⟩⟩;exact q l f _ b (ext.trans<|Ext.hide ext.sub I _) (xW ext.s1 I) (jf ext.sub I) zG r
theorem Kk : ∀{ds:List D} {n:Int},bV ds=cq n->∃C:List Int,ds=C.map D.int/\n=C.sum
 | [],n,h=>by cases h;exact⟨[],rfl,rfl⟩
 | d::ds,n,h=>by
  cases d with
  | int i=>
   obtain⟨s,e,h⟩:=zy h;obtain⟨C,rfl,rfl⟩:=Kk e;exact⟨i::C,rfl,by rw[<- h];simp⟩
  | _=>cases h
theorem KA{K:HR}{H:Hp} : ∀{C:List Int} {xs:List V},el K H (C.map D.int) xs->xs=C.map V.int
 | [],xs,h=>h.su
 | z::C,xs,h=>by obtain⟨x,r,e,a,b⟩:=el.ow h;rw[e,ju a,KA b];rfl
theorem cI(h:SX X sc N T k)(c:yp sc "sum" = di)(z:X.mg "sum" = dn)(Y:PQ X e fq)(U:f7 [e] X.env=[(d7,eB e X.env)]:=by rfl):PV X (.Call (.Name "sum" p) [e] [] pos) (oQ fq):=
 qg (kT (fS h.calm) (h.gl c).1 z PyProof.Rows.boot_sum (jl Y qo U) ⋯ ⋯ U rfl) λA H Q u=>by obtain⟨j,x,d,rc,I,q⟩:=u;obtain⟨⟨f,l⟩,m,I⟩:=zb I;obtain⟨n,o,s⟩:=zy I;subst s;obtain⟨g,O,rfl⟩:=Kk o;have O:l=g.map D.int:=O;subst O;exact⟨j,x,f,_,rc,m,λa w i b ext t y r=>⟨a,f,w,g,rfl,t,KA r,q _ i b ext rfl⟩⟩
theorem oh{K:HR}{H:Hp}{d:D}{x:V}{b:Bool}(h:Rep K H d x)(e:By d=cq b):tq x=cq b:=by
 cases d with
 | fh=>cases (show x = .fh from h);exact e
 | bl c=>cases (show x = .bl c from h);exact e
 | int i=>cases (show x = .int i from h);exact e
 | _=>cases e
theorem Xc{K:HR}{H:Hp} : ∀{ds:List D} {xs:List V} {bs:List Bool},el K H ds xs->Zt ds=cq bs->W5 xs=cq bs
 | [],xs,bs,h,e=>by rw[h.su];exact e
 | d::ds,xs,bs,h,e=>by obtain⟨x,r,z,g,i⟩:=h.ow;obtain⟨b,a,e⟩:=zb e;obtain⟨l,f,e⟩:=zy e;subst z e;show(tq x).bind _=_;rw[oh g a];show((W5 r).map λl=>b::l)=_;rw[Xc i f];rfl
theorem mY(h:SX X sc N T k)(c:yp sc "all" = di)(z:X.mg "all" = dn)(U:PQ X e fq)(O:f7 [e] X.env=[(d7,eB e X.env)]:=by rfl):PV X (.Call (.Name "all" p) [e] [] pos) (oT fq):=
 qg (kT (fX h.calm) (h.gl c).1 z PyProof.Rows.boot_all (jl U qo O) ⋯ ⋯ O rfl) λw H Q Y=>by obtain⟨i,s,d,rc,I,q⟩:=Y;obtain⟨⟨f,t⟩,j,I⟩:=zb I;obtain⟨bs,l,m⟩:=zy I;subst m;exact⟨i,s,f,_,rc,j,λa o g b ext n u r=>⟨a,f,o,bs,rfl,n,Xc r l,q _ g b ext rfl⟩⟩
theorem mX(h:SX X sc N T k)(c:yp sc "any" = di)(z:X.mg "any" = dn)(U:PQ X e fq)(O:f7 [e] X.env=[(d7,eB e X.env)]:=by rfl):PV X (.Call (.Name "any" p) [e] [] pos) (sI fq):=
 qg (kT (fW h.calm) (h.gl c).1 z PyProof.Rows.boot_any (jl U qo O) ⋯ ⋯ O rfl) λw H Q Y=>by obtain⟨i,s,d,rc,I,q⟩:=Y;obtain⟨⟨f,t⟩,j,I⟩:=zb I;obtain⟨bs,l,m⟩:=zy I;subst m;exact⟨i,s,f,_,rc,j,λa o g b ext n u r=>⟨a,f,o,bs,rfl,n,Xc r l,q _ g b ext rfl⟩⟩
theorem yA(h:SX X sc N T k)(c:yp sc "int" = di)(z:X.mg "int" = dn)(Y:PV X e f)(O:f7 [e] X.env=[(d7,eB e X.env)]:=by rfl):PV X (.Call (.Name "int" p) [e] [] pos) (xC f):=
 qg (ZP fV (h.gl c).1 z PyProof.Rows.boot_int (jl Y qo O) ⋯ ⋯ O rfl) λo H Q m=>by
  obtain⟨j,n,d,rc,I,q⟩:=m;obtain⟨U,l,I⟩:=zb I;refine⟨j,n,U,rc,l,λv g a ext r=>?_⟩;cases U with
  | int i=>cases I;exact .inl ⟨i,by rw[ju r],q _ g a ext rfl⟩
  | bl b=>cases I;exact .inr ⟨b,by rw[show v = .bl b from r],q _ g a ext rfl⟩
  | _=>cases I
end
section
variable{X:Cx}{sc:hG}{N T:List Str}{k:Nat}{e a b c:eA}{pos p p2:gu}{f g:CO D}{fq:CO (Sk×List D)}
theorem Wy(h:l7 n i=cq j):DS n i=cq j:=by
 unfold l7 at h;unfold DS;split at h
 ·rename_i a;rw[RY a.1,RY a.2];exact h
 ·split at h
  ·rename_i a b;rw[EQ ⋯,RY ⋯];exact h
  ·cases h
theorem zE(J:PQ X a fq)(Y:PV X b g)(S:JB b:=by intro _ _;rfl):PV X (.Subscript a b pos) (ed fq g):=
 qg (iP (TQ.or eD) J Y S) λN H Q C=>by
  obtain⟨o,n,d,rc,z,q⟩:=C;obtain⟨⟨m,w⟩,y,z⟩:=zb z;obtain⟨i,f,z⟩:=zb z;obtain⟨u,A,f⟩:=zb f;obtain⟨j,B,z⟩:=zb z;refine⟨o,n,m,w,rc,y,λp k G e ext l K r=>⟨e,n,u,rc.ext ext,A,λM s t I h=>?_⟩⟩;rw[jV f]at h;obtain⟨x,E,F⟩:=r.get z;have O:Du k i=cq x:=by unfold Du;rw[r.length,Wy B];exact E
  have U:=q x s t (ext.trans I)<|F.mono I.s0;cases m with
  | L=>exact .inl ⟨p,k,i,x,rfl,ju h,I.s1.seq l,O,U⟩
  | T=>exact .inr ⟨p,k,i,x,rfl,ju h,mu I.s1 l,O,U⟩
theorem wt{P:i8}{w:hB}{A:m9}{E:RQ}{s:eF}{t J:eh}{items:Array ej}{I O:ej}{lo C:Option Int}{Q:RQ}(z:F0 s.heap t items)(U:s.heap.IsSliceOf J I O .none)(pl:C7 I lo)(Y:C7 O C)
 (L:HT.ed items.size 0 lo=0/\HT.ed items.size items.size C=items.size) (h:Q (.ref t) s):wpAny (eP P w) A (Dh (.ref t)<|.ref J) Q E s:=by
 obtain⟨os,a,b,f⟩:=id U;have d:s.TypeIs (.ref J) "slice":=⟨os,a,b⟩;unfold Dh
 try with_reducible refine Mp ?_
 first | refine HS (Ie ?_) | skip
 refine HS (Ur z.typeIs ⋯ ?_);refine HS (LA (name:=Ld "__getitem__") z.typeIs LM
  (LQ LM z.typeIs entry_tuple_getitem ?_ (Tr _ _)))
 show wpAny _ _ (Builtin.Tuple.tupleItemsOf (.ref t) >>= _) _ _ s;refine HS<|OM z ?_;refine HS<|Ot d ?_;rw[RY ⋯];refine HS<|HT.wL U pl Y ?_;have e:(((HT.ed items.size 0 lo:Nat):Int)==0 && (1:Int)==1 && (HT.ed items.size items.size C - HT.ed items.size 0 lo)==items.size)=di:=by rw[L.1,L.2];simp
 show wpAny _ _ (if (((HT.ed items.size 0 lo:Nat):Int)==0 && (1:Int)==1 && (HT.ed items.size items.size C - HT.ed items.size 0 lo)==items.size)=di then _ else _) _ _ s;rw[RY e];refine HS (m:=MF _) ?_;unfold MF;refine HS<|Ot z.typeIs<|Ie ?_;rw[RY ⋯];exact HS<|Nr<|Ie ⟨_,rfl,Ie h⟩
noncomputable def CV(K:HR):V->Option Int->Option Int->Hp->VK->Prop:=λx lo d H Q=>∃a b,x = .ref a/\gR K H a b/\(HT.ed b.length 0 lo=0/\HT.ed b.length b.length d=b.length->Q (.ref a) H)/\∀p,H p=dn->Q (.ref p) (upd H p<|.tup<|mq b lo d)
theorem oN:L6 X (CV X.K):=by
 intro d s p H x v n o lo f m Q I z O pl U h;obtain⟨a,b,rfl,g,k,l⟩:=h;by_cases e:HT.ed b.length 0 lo=0/\HT.ed b.length b.length f=b.length
 ·cases z
  obtain⟨i,r,Y,t⟩:=I.tuple g;have j:i.toArray.size=b.length:=by rw[Ik];exact r.length.symm
  refine⟨"tuple",_,LM.lookup,Y.typeIs,?_⟩;exact wt Y O pl U (by rw[j];exact e) ⟨.ref a,H,I,rfl,k e⟩
 ·exact tU d s p H (.ref a) v n o lo f m Q I z O pl U ⟨a,b,rfl,g,e,l⟩
theorem Zi(n d:Nat)(o:Option Int):Vn n d o=HT.ed n d o:=by cases o<;>rfl
theorem V7{K:HR}{H:Hp}{ds:List D}{xs:List V}(r:el K H ds xs)(lo C:Option Int):el K H (Vm ds lo C) (mq xs lo C):=by unfold Vm mq;rw[<- Zi,<- Zi,r.length];exact(r.drop _).take _
theorem fM{ds:List D}{lo C:Option Int}(h:HT.ed ds.length 0 lo=0/\HT.ed ds.length ds.length C=ds.length):Vm ds lo C=ds:=by unfold Vm;rw[Zi,Zi,h.1,h.2];simp
noncomputable def tB(K:HR)(f:CO (Option Int)):TO:=λg H Q=>∃d e o,RC K d H g e/\f e=cq o/\∀b a,Ext d H a b->Q o b
theorem wg:L2.PO X dn (tB X.K af):=λa s d H Q I ⟨b,e,o,rc,z,q⟩=>pz a s d H Q I (by cases z;exact q H b<|Ext.refl rc.sub)
theorem we(h:PV X e f):L2.PO X (cq e) (tB X.K<|u9 f):=λa s n H Q I ⟨k,m,o,rc,z,q⟩=>px h a s n H Q I (by
 obtain⟨i,g,l⟩:=zy z;obtain⟨d,O,g⟩:=zb g;subst l;refine⟨k,m,d,rc,O,λv j b x r=>?_⟩;rw[jV g]at r;exact⟨i,ju r,q j b x⟩)
theorem KC{lo C:Option eA}{O U:CO (Option Int)}(J:PV X a f)(S:L2.PO X lo (tB X.K O))(L:L2.PO X C (tB X.K U)):PV X (.Subscript a (.Slice lo C dn p2) pos) (cp f O U):=
 qg (Wf oN J S L) λP H Q E=>by
  obtain⟨m,g,d,rc,z,q⟩:=E;obtain⟨Y,y,z⟩:=zb z;obtain⟨l,A,z⟩:=zb z;obtain⟨u,B,z⟩:=zb z;refine⟨m,g,Y,rc,y,λv G b x r=>⟨b,g,l,rc.ext x,A,λM s I=>⟨s,g,u,(rc.ext x).ext I,B,λn t x3=>?_⟩⟩⟩;have k:=x.trans<|I.trans x3;cases Y with
  | tup N=>
   cases z;obtain⟨o,F,rfl,h,e⟩:=kO<|r.mono (I.trans x3).s0;have w:=e.length;refine⟨o,F,rfl,mu x3.sub h,λj=>?_,λp i=>?_⟩
   ·rw[w]at j
    exact q _ n t k (by rw[fM j];exact qY h e)
   ·exact q _ _ _ (k.trans<|Ext.alloc x3.sub i _)<|qY (gR.of zG)<|(V7 e _ _).mono (z7 (jf x3.sub i) _)
  | _=>cases z
theorem Xm{K:HR}{H:Hp}{ds:List D}{xs:List V}(r:el K H ds xs) : ∀n:Nat,el K H (HZ n ds).flatten (HZ n xs).flatten
 | 0=>el.nil
 | n+1=>by rw[Mo,Mo,MT,MT];exact r.append<|Xm r n
theorem KI(C:PQ X a fq)(J:PQ X b gq):PO X (.BinOp a .Add b pos) (YO fq gq):=
 qg (pI iW C J) λG H Q u=>by
  obtain⟨j,i,B,rc,z,q⟩:=u;obtain⟨⟨w,Y⟩,o,z⟩:=zb z;obtain⟨⟨x,d⟩,r,z⟩:=zb z;cases w<;>cases x<;>try (simp at z;done)
  dsimp only at z;by_cases O:Y.length+d.length<=lim
  ·rw[RY O]at z;cases z
   refine⟨j,i,.L,Y,rc,o,λk g y m x1 s E e=>⟨m,i,.L,d,rc.ext x1,r,λl h A n I t F f=>⟨k,l,g,h,rfl,rfl,I.s1.seq s,t,ky (by rw[e.length,f.length];exact O),λp U=>?_⟩⟩⟩;exact q p (g++h) _ n (x1.trans<|I.trans<|Ext.hide I.sub U _) (xW (x1.trans I).s1 U) (jf I.sub U) zG<|(e.mono I.s0).append f
  ·rw[EQ O]at z;cases z
theorem uT(C:PO X a gn)(J:PV X b g):PO X (.BinOp a .Mult b pos) (oR (jv gn) g):=
 qg (pI Ai C J) λM H Q u=>by
  obtain⟨k,i,B,rc,z,q⟩:=u;obtain⟨⟨G,Y⟩,d,z⟩:=zb z;obtain⟨A,r,d⟩:=zy d;cases d;obtain⟨j,e,z⟩:=zb z;obtain⟨o,s,e⟩:=zb e;dsimp only at z;by_cases O:Y.length*j.toNat<=lim/\inR j=di
  ·rw[RY O]at z;cases z
   refine⟨k,i,Y,rc,r,λl w x m x1 E F t f=>⟨m,i,o,rc.ext x1,s,λv y n I h=>?_⟩⟩;rw[jV e]at h;obtain⟨K,L⟩:=Jf O.2;refine⟨l,j,w,rfl,ju h,I.s1 _ _ t,by omega,by omega,ky (by rw[f.length];exact O.1),λp U=>?_⟩;exact q p _ _ n (x1.trans<|I.trans<|Ext.hide I.sub U _) (xW (x1.trans I).s1 U) (jf I.sub U) zG<|(Xm f _).mono I.s0
  ·rw[EQ O]at z;cases z
theorem Av{K:HR}{t c:String}{b:Bool}(h:(if ((Nw t) == .type c)=di then cq di else if PySem.W.kitMeta c=di then (fastBuiltinMro t).map (·.contains (.type c))else dn)=cq b):MW K (.type t) (.type c)=cq b:=h
noncomputable def O7:Ty->String
 | .int=>"int"
 | .bool=>"bool"
 | .str=>"str"
 | .tuple=>"tuple"
 | .list=>"list"
noncomputable def Aw:D->String
 | .fh=>"NoneType"
 | .bl _=>"bool"
 | .int _=>"int"
 | .str _=>"str"
 | .tup _=>"tuple"
 | .lst _=>"list"
 | .m7 _ _=>"dict"
 | .ml _ _=>"dict"
theorem K5{K:HR}(T:Ty)(d:D):MW K (.type<|Aw d) (.type<|O7 T)=cq (nz T d):=by cases d<;>cases T<;>(dsimp only[Aw,O7,nz,nE,AG,nB,nA,nD];exact Av ⋯)
theorem lP{C:RW}{L:St}{H0 H:Hp}{s:eF}{A:m9}{E:RQ}{Q:RQ}{d:D}{x:V}{u:ej}(I:Inv X C L H s)(sub:gv H0 H)(O:RelV x u)(r:Rep X.K H0 d x)(T:Ty)
 (h : ∀J,Q (.bool (nz T d)) {s with toks:=J}):wpAny (eP X.prog X.w) A (call (.builtin "isinstance") [u,.type (O7 T)]) Q E s:=by
 cases d with
 | fh=>have e:=K5 (K:=X.K) T .fh;cases (show x = .fh from r);cases (show u=IZ from O);exact Lf PySem.W.kitx_none I.n7 MG e (λz=>nomatch z) h
 | bl y=>have e:=K5 (K:=X.K) T<|.bl y;cases (show x = .bl y from r);cases (show u=Value.bool y from O);exact Lf PySem.W.kitx_bool I.n7 MG e (λz=>nomatch z) h
 | int i=>have e:=K5 (K:=X.K) T<|.int i;cases (show x = .int i from r);obtain⟨t,q⟩:=(show ∃t,u=Pc i t from O);cases q;exact Lf PySem.W.kitx_int I.n7 MG e (λz=>nomatch z) h
 | str y=>have e:=K5 (K:=X.K) T<|.str y;cases (show x = .str y from r);obtain⟨t,q⟩:=(show ∃t,u=Pb y t from O);cases q;exact Lf PySem.W.kitx_str I.n7 MG e (λz=>nomatch z) h
 | tup k=>
  have e:=K5 (K:=X.K) T<|.tup k;obtain⟨a,b,rfl,f,l⟩:=kO r;cases (show u=LX a from O);obtain⟨m,B,⟨o,U,Y,_⟩,n⟩:=I.tuple<|mu sub f;exact Lf PySem.W.kitx_tuple I.n7 ⟨o,U,Y⟩ e (λz=>nomatch z) h
 | lst k=>
  have e:=K5 (K:=X.K) T<|.lst k;obtain⟨a,b,rfl,f,l⟩:=dN r;cases (show u=LX a from O);obtain⟨m,B,p,n⟩:=I.list<|sub.seq f;obtain⟨o,U,Y,_⟩:=p.isList;exact Lf Pe I.n7 ⟨o,U,Y⟩ e (λz=>nomatch z) h
 | m7 g j=>
  have e:=K5 (K:=X.K) T<|.m7 g j;obtain⟨a,b,rfl,⟨F,_,_,f⟩,_⟩:=(show ∃a b,x = .ref a/\DF H0 a g b/\el X.K H0 j b from r);exact eG I O (.dK<|sub _ _ f) e h
 | ml g j=>
  have e:=K5 (K:=X.K) T<|.ml g j;obtain⟨a,b,rfl,⟨_,o,G,f,l,_⟩,_⟩:=(show ∃a b,x = .ref a/\L3 X.K H0 a g b/\el X.K H0 j b from r);cases (show u=LX a from O);obtain⟨U,_⟩:=(show md X.prog X.w H s.heap a (Sv a o)from I.f9 a _<|sub _ _ f);exact Lf Pf I.n7 ⟨o,U,l.1.1⟩ e (λz=>nomatch z) h
theorem iw(T:Ty)(h:SX X sc N L k)(c:yp sc "isinstance" = di)(z:X.mg "isinstance" = dn)(O:yp sc ty=di)(S:X.mg ty=dn)(J:B3 ty=cq (.type (O7 T)))(C:PV X a f)
 (Y:f7 [a,.Name ty p2] X.env=[(d7,eB a X.env),(d7,eB (.Name ty p2) X.env)]:=by rfl):PV X (.Call (.Name "isinstance" p) [a,.Name ty p2] [] pos) (p6 T f):=by
 intro e s G H Q I ⟨i,F,d,rc,t,q⟩;obtain⟨l,n,o⟩:=zy t;subst o;refine NF<|kH I (h.gl c).1 z PyProof.Rows.boot_isinstance ?_ ⋯ ⋯;refine ON ?_ (by rw[Y];rfl) rfl;rw[Y];show wpAny _ _ (N7 ((d7,eB a X.env)::tw pos [(d7,eB (.Name ty p2) X.env)])) _ _ s;refine NZ<|ft (C e s G H _ I ⟨i,F,l,rc,n,λv g b x r=>(show(λv g=>∃b,Ext i H b g/\Rep X.K b l v) v g from⟨b,x,r⟩)⟩) λu B w=>?_;obtain⟨x,j,U,y,m,x1,A⟩:=w;show wpAny _ _ (N7 ((d7,eB (.Name ty p2) X.env)::[])) _ _ B;refine NZ<|kH U (h.gl O).1 S J ?_ (h.gl O).2.1 (h.gl O).2.2;refine Pp ?_;exact lP U x1.sub y A T λE=>⟨.bl _,j,U.tok E,rfl,q _ j m x1 rfl⟩
end
section
variable{X:Cx}{sc:hG}{N L:List Str}{k:Nat}{e a b c:eA}{pos p p2:gu}{f g:CO D}{fq:CO (Sk×List D)}
theorem jL(h:SX X sc N L k)(c:yp sc "range" = di)(z:X.mg "range" = dn)(C:PV X a f)(I:f7 [a] X.env=[(d7,eB a X.env)]:=by rfl):ji X tg (.Call (.Name "range" p) [a] [] pos) (jh f):=ay (h.gl c).1 z C I
theorem iL(h:SX X sc N L k)(c:yp sc "range" = di)(z:X.mg "range" = dn)(C:PV X a f)(I:PV X b g)(O:f7 [a,b] X.env=[(d7,eB a X.env),(d7,eB b X.env)]:=by rfl)(U:f7 [b] X.env=[(d7,eB b X.env)]:=by rfl) :
 ji X tg (.Call (.Name "range" p) [a,b] [] pos) (YN f g):=aw (h.gl c).1 z C I O U
theorem wB(h:SX X sc N L k)(c:yp sc "zip" = di)(z:X.mg "zip" = dn)(C:PV X a f)(I:PV X b g)(O:f7 [a,b] X.env=[(d7,eB a X.env),(d7,eB b X.env)]:=by rfl)(U:f7 [b] X.env=[(d7,eB b X.env)]:=by rfl) :
 ji X (.Tuple elts x1 tf) (.Call (.Name "zip" p) [a,b] [] pos) (VW f g):=pE (h.gl c).1 z C I O U
theorem cM(h:SX X sc N L k)(c:yp sc "isinstance" = di)(z:X.mg "isinstance" = dn)(I:yp sc "int" = di)(O:X.mg "int" = dn)(C:PV X a f)
 (U:f7 [a,.Name "int" p2] X.env=[(d7,eB a X.env),(d7,eB (.Name "int" p2) X.env)]:=by rfl):PV X (.Call (.Name "isinstance" p) [a,.Name "int" p2] [] pos) (p6 .int f):=iw .int h c z I O PyProof.Rows.boot_int C U
theorem aj(h:SX X sc N L k)(c:yp sc "isinstance" = di)(z:X.mg "isinstance" = dn)(I:yp sc "bool" = di)(O:X.mg "bool" = dn)(C:PV X a f)
 (U:f7 [a,.Name "bool" p2] X.env=[(d7,eB a X.env),(d7,eB (.Name "bool" p2) X.env)]:=by rfl):PV X (.Call (.Name "isinstance" p) [a,.Name "bool" p2] [] pos) (p6 .bool f):=iw .bool h c z I O PyProof.Rows.boot_bool C U
theorem xR(h:SX X sc N L k)(c:yp sc "isinstance" = di)(z:X.mg "isinstance" = dn)(I:yp sc "tuple" = di)(O:X.mg "tuple" = dn)(C:PV X a f)
 (U:f7 [a,.Name "tuple" p2] X.env=[(d7,eB a X.env),(d7,eB (.Name "tuple" p2) X.env)]:=by rfl):PV X (.Call (.Name "isinstance" p) [a,.Name "tuple" p2] [] pos) (p6 .tuple f):=iw .tuple h c z I O PyProof.Rows.boot_tuple C U
theorem ai(h:SX X sc N L k)(c:yp sc "isinstance" = di)(z:X.mg "isinstance" = dn)(I:yp sc "list" = di)(O:X.mg "list" = dn)(C:PV X a f)
 (U:f7 [a,.Name "list" p2] X.env=[(d7,eB a X.env),(d7,eB (.Name "list" p2) X.env)]:=by rfl):PV X (.Call (.Name "isinstance" p) [a,.Name "list" p2] [] pos) (p6 .list f):=iw .list h c z I O PyProof.Rows.boot_list C U
theorem iB(C:PQ X a fq)(I : ∀z,DR a X.env z=(do let v <- z;DX a.pos;u5 [v] (I7 v)):=by intro _;rfl):nf X a (oP fq):=
 KF (iC C I) λo H Q O=>by
  obtain⟨j,m,t,rc,U,q⟩:=O;obtain⟨⟨h,b⟩,k,l⟩:=zy U;subst l;refine⟨j,m,h,b,rc,k,λp d i f ext g n r=>⟨!b.isEmpty,?_,q i f ext⟩⟩;have e:d.isEmpty=b.isEmpty:=by have:=r.length;cases d<;>cases b<;>simp_all
  rw[<- e];cases h with
  | L=>exact .inl ⟨d,g,rfl⟩
  | T=>exact .inr<|.inl ⟨d,g,rfl⟩
theorem uE(C:PV X a f):PV X (.UnaryOp .USub a pos) (ub f):=
 qg (Ee sY C) λl H Q z=>by obtain⟨h,k,d,rc,I,q⟩:=z;obtain⟨i,e,j⟩:=zy I;obtain⟨O,U,e⟩:=zb e;subst j;refine⟨h,k,O,rc,U,λv g b x r=>?_⟩;rw[jV e]at r;exact⟨i,ju r,q _ g b x rfl⟩
theorem ZM(i:Nat)(h:SX X sc N L k)(c:JI sc N i x=di)(C:PV X a f)(z:f7 [a] X.env=[(d7,eB a X.env)]:=by rfl)
 (I:F6 (.Name x np) "append" X.env (eB (.Name x np) X.env)=eB (.Name x np) X.env:=by rfl)
 (O:((tw cpos<|starEach [a] X.env).all (λx=> !x.1) && (Ri cpos<|keywordEach [] X.env).all (λx=>x.1.isSome)
   && decide ([a].length+([]:List DI).length+(if ([]:List DI).isEmpty then 0 else 1)<30))=di:=by rfl)
 (U:(apos.endLine==cpos.line)=di:=by rfl) (Y:B9 (.Call (.Attribute (.Name x np) "append" apos) [a] [] cpos) dn pos.line X.env=pure d7:=by rfl) :
 m6 X (.Expr (.Call (.Attribute (.Name x np) "append" apos) [a] [] cpos) pos) (xy i f):=
 aq i (pL Oi PySem.F.slot_list_append PySem.F.type_list_append K3 (h.var c) (jl C qo z) I O U z rfl) Y
theorem jy(i:Nat){st:jn}{f:CO (List D)}(h:PS X st (YI (tO X.K f)<|k8 i)):m6 X st (jB i<|jZ f):=kF h λD t H O=>by obtain⟨E0,E,g,n,p,z,I,U⟩:=O;obtain⟨d,b,I⟩:=zy I;obtain⟨k,Y,b⟩:=zy b;subst I b;exact⟨g,n,k,z.rc,Y,λa s o j x l e m r=>U _ _ _<|(z.step<|x.show l e m z.rc.sub).x6 (yv (gB.of zG)<|r.mono<|z7 e _)⟩
theorem T5(i:Nat)(h:SX X sc N L k)(c:yo sc N L i y=di)
 (z:X.calm=di) (ok:t9 X scope fr) (I : ∀i∈T.idx,i<own.length) (S:uf X tg iter src) (O : ∀fp J C,PG (jw X scope (own++fr.map (·.1)) fp J C) tg<|s9 X.K T)
 (U : ∀fp J C,PV (jw X scope (own++fr.map (·.1)) fp J C) elt f) (Y : ∀x,rn iter X.env x=pure x:=by intro _;rfl) :
 PS X (.Assign [.Name y py] (.ListComp elt [⟨tg,iter,[],0⟩] scope cpos) spos) (YI (tO X.K<|zL src T own.length (fr.map (·.2)) jg f)<|k8 i):=by
 obtain⟨a,b,d⟩:=h.loc c;exact iI h.G4 a b d z ok I S O U Y
theorem Ec(i:Nat)(h:SX X sc N L k)(c:yo sc N L i y=di)
 (z:X.calm=di) (ok:t9 X scope fr) (I : ∀i∈T.idx,i<own.length) (S:uf X tg iter src) (O : ∀fp J C,PG (jw X scope (own++fr.map (·.1)) fp J C) tg<|s9 X.K T)
 (U : ∀fp J C,nf (jw X scope (own++fr.map (·.1)) fp J C) D6 kk) (Y : ∀fp J C,PV (jw X scope (own++fr.map (·.1)) fp J C) elt f) (Z : ∀x,rn iter X.env x=pure x:=by intro _;rfl) :
 PS X (.Assign [.Name y py] (.ListComp elt [⟨tg,iter,[D6],0⟩] scope cpos) spos) (YI (tO X.K<|zL src T own.length (fr.map (·.2)) kk f)<|k8 i):=by
 obtain⟨a,b,d⟩:=h.loc c;exact au h.G4 a b d z ok I S O U Y Z
theorem ZL(i:Nat)(h:SX X sc N L k)(c:JI sc N i x=di)(hi:PV X b g)(Z:PV X e f)
 (S : ∀v,xb (.Subscript (.Name x np) b p) X.env v=(do
   let I <- u5 [v] (eB (.Name x np) X.env);let U <- u5 [v,I] (eB b X.env)
   DX p
   u5 [v,I,U] (R6 I U v)
   release [v,I,U] []):=by intro _;rfl)
 (hs:N9 [.Subscript (.Name x np) b p] e pos.line X.env=pure d7:=by rfl) (hw:R9 [.Subscript (.Name x np) b p] e X.env=pure dn:=by rfl)
 (C:(B0 [.Subscript (.Name x np) b p] X.env).map (·.2)=[xb (.Subscript (.Name x np) b p) X.env]:=by rfl) :
 m6 X (.Assign [.Subscript (.Name x np) b p] e pos) (ZG i g f):=
 kF (Wb Z (ng (h.var c) hi VU S) hs hw C) λD σ H Q=>by obtain⟨E0,E,w,u,fl,t,z,y⟩:=Q;obtain⟨d,J,z⟩:=zb z;obtain⟨G,l,z⟩:=zb z;obtain⟨R,Y,z⟩:=zb z;obtain⟨F,K,Y⟩:=zb Y;obtain⟨j,M,z⟩:=zy z;subst z;have l:=yF l;refine⟨w,u,d,t.rc,J,λv T m x r=>?_⟩;have n:=t.step x;obtain⟨a,xs,C,h2,P,o⟩:=n.rc.own i G l;refine⟨_,C,m,u,F,n.rc,K,λv2 W A O s=>?_⟩;rw[jV Y]at s;have B:=n.step O;refine⟨a,xs,R,j,rfl,ju s,O.s1 _ _ P,by rw[o.length];exact Wy M,?_⟩;exact y _ _ A<|B.rewrite (xs:=xs) l C<|(o.mono O.s0).set j (r.mono O.s0)
theorem Xr(O:PG X tg (s9 X.K T))(U:PV X e f)(Y:N9 [tg] e pos.line X.env=pure d7:=by rfl)(J:R9 [tg] e X.env=pure dn:=by rfl)
 (C:(B0 [tg] X.env).map (·.2)=[xb tg X.env]:=by rfl):m6 X (.Assign [tg] e pos) (cu T f):=
 kF (Wb U O Y J C) λD p H l=>by obtain⟨E0,E,h,m,o,I,z,i⟩:=l;obtain⟨d,j,z⟩:=zb z;obtain⟨n,k,z⟩:=zy z;subst z;refine⟨h,m,d,I.rc,j,λv g a x r=>?_⟩;exact vQ x.sub r k λb _ a3=>i b g a<|a3 E0 E<|I.step x
end
structure il(P:i8)(w:hB)(K:HR)(mg:RJ)(base:f6)(k:Nat)(x:Str)(n:Nat)(F:List D->Option Res):Prop where
 ex : ∃(f:eh) (fd:r9) (ps:List Str),ps.length=n/\rr P w K mg base sX k f fd ps (t7 K ps.length F)/\mg x=cq (.ref f)/\Nu K (.ref f)=di/\Binds K fd ps []
structure i7(K:HR)(mg:RJ)(x:Str)(st:jn)(ps:List Str):Prop where
 ex : ∃(f:eh) (fd:r9),L2.DG K x x st f fd/\(∀us:List ej,us.length=ps.length->bindArgs fd ⟨us,[]⟩=pure (ps.zip us))/\mg x=cq (.ref f)
noncomputable def C9(X:Cx)(C:List eA)(n:Nat)(g:CO (List D)):Prop:=C8 X C g/\∀b a,g b=cq a->a.length=n
section
variable{X:Cx}{sc:hG}{N L:List Str}{k:Nat}{e:eA}{es:List eA}{f:CO D}{g:CO (List D)}{n:Nat}{pos p:gu}{x:Str}
theorem zm:C9 X [] 0 zJ:=⟨pQ,λb a h=>by cases h;rfl⟩
theorem za(C:PV X e f)(z:C9 X es n g)(I:f7 (e::es) X.env=(d7,eB e X.env)::f7 es X.env:=by rfl):C9 X (e::es) (n+1) (zc f g):=
 ⟨iU C z.1 I,λb d h=>by obtain⟨y,i,h⟩:=zb h;obtain⟨r,a,h⟩:=zy h;subst h;rw[IS,z.2 b r a]⟩
variable{j:Nat}{F:List D->Option Res}
theorem Eb(z:il X.prog X.w X.K X.mg X.base j x n F)(I:j<=k)(h:SX X sc N L k)(c:yp sc x=di)(C:C9 X (e::es) n g)
 (O:f7 (e::es) X.env=(d7,eB e X.env)::f7 es X.env:=by rfl) (U:(tw pos<|starEach es X.env).any (·.1)=d7:=by rfl):PV X (.Call (.Name x p) (e::es) [] pos) (zI F g):=by
 obtain⟨i,l,m,f,G,d,Y,b⟩:=z.ex;subst f;exact pd (A0:=[]) G C.1 C.2 λ{t} a=>YZ G (h.room.mono I) (h.gl c).1 d Y b .nil pM a (h.gl c).2.2 O U
theorem Ed(z:il X.prog X.w X.K X.mg X.base j x n F)(I:j<=k)(h:SX X sc N L k)(c:yp sc x=di)(C:C9 X (e::es) n g)
 (O:f7 (e::es) X.env=(d7,eB e X.env)::f7 es X.env:=by rfl) (U:(tw pos<|starEach es X.env).any (·.1)=d7:=by rfl):PO X (.Call (.Name x p) (e::es) [] pos) (jC F g):=by
 obtain⟨i,l,m,f,G,d,Y,b⟩:=z.ex;subst f;exact pC G C.1 C.2 λ{t} a=>YZ G (h.room.mono I) (h.gl c).1 d Y b .nil pM a (h.gl c).2.2 O U
end
section
variable{P:i8}{w:hB}{K:HR}{mg:RJ}{base:f6}
noncomputable def fE(N ps:List Str)(st:jn):Bool:=
 decide ((jz st).kind = .function) && decide ((jz st).isCoroutine=d7) && decide ((jz st).isGenerator=d7) && decide N.Nodup && decide (N.take ps.length=ps) &&
 ps.all (λx=>decide ((jz st).names.lookup x=cq .local) || decide ((jz st).names.lookup x=cq .cell)) && (jz st).names.all (λy=> !(y.2==IV))
theorem Xj{N ps:List Str}{st:jn}(h:fE N ps st=di):E9 N ps (jz st):=by unfold fE at h;simp only[Ir,decide_eq_true_eq,LK,LP,Mm]at h;obtain⟨⟨⟨⟨⟨⟨a,b⟩,z⟩,I⟩,O⟩,U⟩,Y⟩:=h;exact⟨a,b,z,I,O,U,λy d e=>by have:=Y y d;rw[e]at this;exact absurd this ⋯⟩
theorem Wg{X:Cx}(hx:X.xe=λ_ _=>False):F4 (eP X.prog X.w) X.A X.env X.xe:=by rw[hx];exact PassesOwn.never
theorem kJ{x:Str}{st:jn}{N ps:List Str}{k:Nat}{F:CO Fl}(A:i7 K mg x st ps)(C:fE N ps st=di)
 (I : ∀X:Cx,X.prog=P->X.w=w->X.K=K->X.mg=mg->X.base=base->SX X (jz st) N N k->X.xe=(λ_ _=>False)->WT X (kz st) F) :
 il P w K mg base (k+1) x ps.length (jG N.length F):=by
 obtain⟨f,d,z,O,e⟩:=A.ex;have S:=Xj C;refine⟨f,d,ps,rfl,AN z S λb A a s H E U=>?_,e,z.kp,.all O⟩;exact I _ rfl rfl rfl rfl rfl ⟨rfl,rfl,S.nd,rfl,U,λ_ _=> .inl rfl⟩ rfl
theorem Gc{h:f6}{x:Str}{st:jn}{ps:List Str}{f:eh}{Y:ej}{Z J:Option eh}{O:Array (Option ej)}{kV I L C ct:ej}(z:K.In h)(G:h.Ns A4 mg)
 (a:PySem.W.nsIn K A4 x=cq (cq (.ref f))) (l:K.lookup f=cq ⟨Y,Z,.func<|Nx x x (Jn st) (kz st) (jz st) .none kV I L J C ct,O⟩)
 (c:OG K C x=di) (S:Nu K (.ref f)=di)
 (b : ∀(kV I L:ej) (J:Option eh) (C ct:ej) (us:List ej),us.length=ps.length->bindArgs (Nx x x (Jn st) (kz st) (jz st) .none kV I L J C ct) ⟨us,[]⟩=pure (ps.zip us)):i7 K mg x st ps:=
 ⟨f,_,AM l c S,b kV I L J C ct,PySem.W.mg_of z G a⟩
theorem EH{x:Str}{st:jn}{f:eh}{C:r9}{N ps:List Str}{k:Nat}{F:CO Fl}(z:L2.DG K x x st f C)(J:fE N ps st=di)
 (I : ∀X:Cx,X.prog=P->X.w=w->X.K=K->X.mg=mg->X.base=base->SX X (jz st) N N k->X.xe=(λ_ _=>False)->WT X (kz st) F) :
 rr P w K mg base sX (k+1) f C ps (t7 K ps.length<|jG N.length F):=by
 have S:=Xj J;exact AN z S λb A a s H E O=>I _ rfl rfl rfl rfl rfl ⟨rfl,rfl,S.nd,rfl,O,λ_ _=> .inl rfl⟩ rfl
theorem Cb{F:List D->Option Res}{H:Hp}{a:eh}{C:List Int}(z:gB K H a (C.map V.int))(I:F [.lst (C.map D.int)]=cq (.val<|.bl di)) :
 t7 K 1 F [.ref a] H (λv _=>v = .bl di) λ_ _ _=>False:=by
 refine⟨H,[.lst (C.map D.int)],.val<|.bl di,gv.refl _,el.cons (yv z ?_) el.nil,rfl,I,λv d b _ r=>r⟩;clear I z
 induction C with
 | nil=>exact el.nil
 | cons n C O=>exact el.cons rfl O
end
end DL
namespace DL
open PySem PySem.Spec PyProof.Rows L2
open PySem.W (KasT kas_sort kas_ask kat_run kat_snds kat_lt kat_cons kat_no kat_kind KatTups KatGo)
noncomputable def Bu(h:f6)(v:ej)(k:Int):Prop:=∃x o a m t,v = .ref x/\h.get? x=cq o/\o.cls = .type "tuple"/\o.data = .seq a m/\a[0]? = cq (.int k t)
theorem ez : ∀{vs:List ej} {ks:Nat->Int},(∀i (C:i<vs.length),Bu h vs[i] (ks i))->∃fs,KatTups h vs fs/\fs.length=vs.length/\∀f∈fs,∃k t,f=Pc k t
 | [],ks,_=>⟨[],KatTups.nil,rfl,λf z=>by cases z⟩
 | v::vs,ks,H=>by
  obtain⟨fs,d,e,I⟩:=ez (vs:=vs) (ks:=λi=>ks<|i+1) λi C=>H (i+1) (by simpa using C);obtain⟨x,o,g,m,t,a,b,O,U,Y⟩:=H 0 ⋯;have a:v = .ref x:=a;subst a;exact⟨.int (ks 0) t::fs,KatTups.cons b O U Y d,by simp[e],λf z=>by
   rcases Il.mp z with rfl | z
   ·exact⟨_,_,rfl⟩
   ·exact I f z⟩
end DL
namespace DL
open PySem PySem.Spec PyProof.Rows L2
open AutoSeq1 (wpAny_loadPart')
theorem wN:fillsNumberSlot (.type "tuple") "mul" = pure d7:=
 PySem.fillsNumberSlot_seq (id:="tuple.__mul__") (r:=cq (.builtin "tuple.__rmul__")) NR.lookup ⋯ F.slot_tuple_rmul.lookup ⋯
theorem KB:seqRepeat? (.type "tuple")=pure (cq (.builtin "tuple.__mul__")):=by unfold seqRepeat?;rw[PySem.seqSlot_of (T:="tuple") (name:="__mul__") (id:="tuple.__mul__") NR.lookup ⋯,PySem.seqSlot_of (T:="tuple") (name:="__rmul__") (id:="tuple.__rmul__") F.slot_tuple_rmul.lookup ⋯];rfl
theorem JS(a:Int)(t:Tok)(l:eh)(items:Array ej)(n:Nat)(z:Option eh)(C:Array (Option ej)) :
 D1 (o8.«int.__rmul__» ⟨[.int a t,.ref l],[]⟩) (λ_ R s=>s.heap.get? l=cq {cls:= .type "tuple",dict:=z,data:= .seq items n,slots:=C}/\R (.ok (.ret Value.notImplemented)) s):=
 .of_wp λb w A R s h=>by obtain⟨I,g,d,O,os⟩:=s;obtain⟨U,h⟩:=h;wp_walk;exact⟨_,rfl,h⟩
theorem Xb(a:Int)(t:Tok)(l:eh)(items:Array ej)(n:Nat)(I:Option eh)(S:Array (Option ej))(C : ¬(decide (a < -(2 ^ 63)) || decide (a>=2 ^ 63))=di)(J : ¬(items.isEmpty || a==1)=di)
 (O : ¬(decide (a<=0) || items.isEmpty)=di) (U : ¬((items.size:Int)*a>(2 ^ 63 - 1)/8)) (Y : ¬Builtin.Tuple.tupleTooMany ((items.size:Int)*a)=di) (L:((HZ a.toNat items).foldl (· ++ ·) #[]).size<=gm) :
 D1 (o8.«tuple.__mul__» ⟨[.ref l,.int a t],[]⟩) (λ_ R s=>s.heap.get? l=cq {cls:= .type "tuple",dict:=I,data:= .seq items n,slots:=S}/\
  R (.ok (.ret (.ref s.heap.objs.size))) {s with heap:=s.heap.push {cls:= .type "tuple",data:= .seq ((HZ a.toNat items).foldl (· ++ ·) #[])}}):=
 .of_wp λb w A R s h=>by
  obtain⟨e,g,d,f,os⟩:=s;obtain⟨z,h⟩:=h
  wp_walk using Mi z
  rw[EQ C];refine HS<|OM (s:=⟨e,g,d,f,os⟩) ⟨_,z,rfl,n,rfl⟩ ?_;dsimp only;rw[EQ J,EQ O,EQ U,EQ Y];refine HS (m:=Mb _)<|LR ?_ L;exact Ie ⟨_,rfl,h⟩
theorem JK(a:Int)(t:Tok)(l:eh)(items:Array ej)(n:Nat)(I:Option eh)(L:Array (Option ej))(C : ¬(decide (a < -(2 ^ 63)) || decide (a>=2 ^ 63))=di)(J : ¬(items.isEmpty || a==1)=di)
 (O:(decide (a<=0) || items.isEmpty)=di) :
 D1 (o8.«tuple.__mul__» ⟨[.ref l,.int a t],[]⟩) (λ_ R s=>s.heap.get? l=cq {cls:= .type "tuple",dict:=I,data:= .seq items n,slots:=L}/\
  R (.ok (.ret (.ref s.heap.objs.size))) {s with heap:=s.heap.push {cls:= .type "tuple",data:= .seq #[]}}):=
 .of_wp λb w A R s h=>by
  obtain⟨U,g,d,Y,os⟩:=s;obtain⟨z,h⟩:=h
  wp_walk using Mi z
  rw[EQ C];refine HS<|OM (s:=⟨U,g,d,Y,os⟩) ⟨_,z,rfl,n,rfl⟩ ?_;dsimp only;rw[EQ J,RY O];refine HS (m:=Mb _)<|LR ?_ (Lp _);exact Ie ⟨_,rfl,h⟩
theorem JJ(a:Int)(t:Tok)(l:eh)(items:Array ej)(n:Nat)(I:Option eh)(L:Array (Option ej))(C : ¬(decide (a < -(2 ^ 63)) || decide (a>=2 ^ 63))=di)(J:(items.isEmpty || a==1)=di) :
 D1 (o8.«tuple.__mul__» ⟨[.ref l,.int a t],[]⟩) (λ_ R s=>s.heap.get? l=cq {cls:= .type "tuple",dict:=I,data:= .seq items n,slots:=L}/\R (.ok (.ret (.ref l))) s):=
 .of_wp λb w A R s h=>by
  obtain⟨O,g,d,U,os⟩:=s;obtain⟨z,h⟩:=h
  wp_walk using Mi z
  rw[EQ C];refine HS (OM (s:=⟨O,g,d,U,os⟩) ⟨_,z,rfl,n,rfl⟩ ?_);dsimp only;rw[RY J];refine HS (m:=MF _) ?_;unfold MF;refine HS (Ot (T:="tuple") ⟨_,z,rfl⟩ (Ie ?_));rw[RY ⋯];exact HS (Nr (Ie ⟨_,rfl,h⟩))
section
variable{X:Cx}
noncomputable def uv(K:HR):R2:=λx y H Q=>∃l k a,x = .ref l/\y = .int k/\gR K H l a/\ -(2 ^ 62)<=k/\k<2 ^ 62/\a.length*k.toNat<=gm/\(a=[]\/k=1->Q (.ref l) H)/\
 ∀p,H p=dn->Q (.ref p) (upd H p<|.tup (HZ k.toNat a).flatten)
theorem pR:i9 X (xg .Mult) (uv X.K):=by
 intro E s σ H x y v u Q I Z ry h;obtain⟨l,k,J,rfl,rfl,P,h1,h2,C,W,G⟩:=h;cases Z;obtain⟨t,rfl⟩:=ry;obtain⟨z,r,R,z1⟩:=I.tuple P;obtain⟨⟨N,a,j,b⟩,O,w,n,A⟩:=id R;simp only at w A;subst w A;have L:=r.length;have g1 : ¬(decide (k < -(2 ^ 63)) || decide (k>=2 ^ 63))=di:=by simp;omega
 refine Uo (T:="tuple") (U:="int") ⋯ ⟨_,O,rfl⟩ (λs'=>PM s' k t) wN F.fills_int_mul OU KB F.slot_int_index.lookup
  (Nt OU (PM s k t) F.entry_int_rmul (F.args_int_rmul_2 _ _) (JS k t l z.toArray n a b) ⟨O,rfl,⟨_,O,rfl⟩,?_⟩)
 have p : ∀m:Nat,Pq (λx1 i=>x1++i) #[] (HZ m z.toArray)=(HZ m z).flatten.toArray:=λm=>by have:=Jj z m [];rw[MM]at this;exact this
 by_cases g2:(z.toArray.isEmpty || k==1)=di
 ·refine Nt NR ⟨_,O,rfl⟩ PJ (PB _ _) (JJ k t l z.toArray n a b g1 g2) ⟨O,⟨.ref l,H,I,rfl,W ?_⟩⟩
  rw[LP]at g2;rcases g2 with g | g
  ·left
   have:z=[]:=by simpa using g
   exact(r.M7).mp this
  ·right;simpa using g
 ·have d:=g2
  simp only[LP,not_or]at d;have as:z ≠ []:=by intro e;exact d.1 (by rw[e];rfl)
  have b8:0<z.length:=List.length_pos_iff.mpr as;by_cases Y:(decide (k<=0) || z.toArray.isEmpty)=di
  ·have B:k.toNat=0:=by
    rw[LP]at Y;rcases Y with g | g
    ·have:=of_decide_eq_true g;omega
    ·exact absurd g d.1
   refine Nt NR ⟨_,O,rfl⟩ PJ (PB _ _) (JK k t l z.toArray n a b g1 g2 Y) ⟨O,?_⟩;refine⟨.ref s.heap.objs.size,_,I.laid (t':=s.toks) (o:= .tup (HZ k.toNat J).flatten) (λc S q=>HV _ q) (Ic _) ?_,rfl,G _<|I.f9.fresh<|Ic _⟩;rw[B];exact⟨Lp _,[],.nil,A8.new _ _⟩
  ·have B : ¬k<=0:=by intro g;exact Y (by rw[LP];exact .inl<|decide_eq_true g)
   have f:z.length*k.toNat<=gm:=by rw[<- L];exact C
   have b9:((z.toArray.size:Nat):Int)*k<=(gm:Int):=by
    rw[Ik];have e:((z.length*k.toNat:Nat):Int)=(z.length:Int)*k:=by rw[Int.natCast_mul,Pg ⋯]
    omega
   have bb:gm=16777216:=Na;have M:(Pq (λx1 i=>x1++i) #[] (HZ k.toNat z.toArray)).size<=gm:=by rw[p,Ik,Y9,OO];exact f
   refine Nt NR ⟨_,O,rfl⟩ PJ (PB _ _) (Xb k t l z.toArray n a b g1 g2 Y ⋯ (by unfold Builtin.Tuple.tupleTooMany;simp only[decide_eq_true_eq];omega) M) ⟨O,?_⟩;rw[p];refine⟨.ref s.heap.objs.size,_,I.laid (t':=s.toks) (o:= .tup (HZ k.toNat J).flatten) (λc S q=>HV _ q) (Ic _) ?_,rfl,G _<|I.f9.fresh<|Ic _⟩;exact⟨by rw[Y9,OO];exact C,_,r.rep k.toNat,A8.new _ _⟩
theorem oH{K:HR}:n5 K (λx y H Q=>rI D0 (λi j=> .int (i*j)) x y H Q\/uv K x y H Q) kK:=λk H x y l Y d Q s I O z q=>by
 cases l<;>cases Y<;>simp[kK]at z
 ·obtain⟨m,g⟩:=z
  subst g;exact .inl ⟨_,_,ju I,ju O,mz m,q _ H k (Ext.refl s) rfl⟩
 ·rename_i f j
  obtain⟨⟨o,n⟩,rfl⟩:=z;obtain⟨a,u,rfl,h,b⟩:=kO I;obtain⟨r,t⟩:=Jf n;refine .inr ⟨a,j,u,rfl,ju O,mu s h,r,t,ky (by rw[b.length];exact o),λe=>?_,λp U=>?_⟩
  ·refine q _ H k (Ext.refl s) ?_
   rcases e with e | e
   ·have g:f=[]:=by
     have:=b.length;rw[e]at this;exact Lu this.symm
    subst g;rw[show(HZ j.toNat ([]:List D)).flatten=[]by simp];exact qY h b
   ·subst e
    rw[show(HZ (1:Int).toNat f).flatten=f by simp];exact qY h b
  ·exact q _ _ _ (Ext.alloc s U _)<|qY (gR.of zG)<|(Xm b _).mono (z7 (jf s U) _)
theorem qX(C:PV X a fa)(z:PV X b fb):PV X (.BinOp a .Mult b pos) (zC kK fa fb):=J4 (T4.or pR) oH C z
end
end DL
namespace DL
open PySem PySem.Spec PyProof.Rows L2
theorem RC.TU{K:HR}{H0 H:Hp}{L:St}{γ:Ctx}{i:Nat}{ds:List D}{a:eh}{xs:List V}(r:RC K H0 H L γ)(e:γ[i]? = cq (.own ds))(J:L[i]? = cq (cq (.ref a)))(C:H0 a=dn)(S:H a=cq (.lst xs))(Z:el K H0 ds xs):RC K (L2.upd H0 a<|.lst xs) H L (γ.set i<|.val<|.lst ds):=by
 refine⟨λb o q=>?_,by simp[r.len],λj d g=>?_,λj m g=>?_,λj k b m fs f h t u=>?_,⟨λj l g=>?_,λj k x y f h=>?_⟩⟩
 ·by_cases z:b=a
  ·subst z;rw[zG]at q;rw[S];exact q
  ·rw[zD z]at q;exact r.sub b o q
 ·rcases zB g with⟨rfl,z,E⟩ | ⟨O,z⟩
  ·cases z;exact⟨_,J,yv (gB.of zG)<|Z.mono<|z7 C _⟩
  ·obtain⟨v,U,g2⟩:=r.val j d z
   exact⟨v,U,g2.mono<|z7 C _⟩
 ·rcases zB g with⟨_,z,_⟩ | ⟨O,z⟩
  ·cases z
  ·obtain⟨b,A,U,g2,g3,w⟩:=r.own j m z
   refine⟨b,A,U,?_,g3,w.mono<|z7 C _⟩;rw[zD (λq=>O<|r.ne j i a m ds z e (by rw[U,q]) J)];exact g2
 ·rcases zB f with⟨_,z,_⟩ | ⟨O,I⟩
  ·cases z
  ·rcases zB h with⟨_,z,_⟩ | ⟨B,Y⟩
   ·cases z
   ·exact r.ne j k b m fs I Y t u
 ·rcases zB g with⟨_,z,_⟩ | ⟨O,z⟩
  ·cases z
  ·obtain⟨b,bs,f1,f2,p⟩:=r.o5.1 j l z
   have s:=p i ds a e J;refine⟨b,bs,f1,f2.move (z7 C _) (λc n=>by rw[zD (λq=>s<|by rw[<- q];exact n)];exact(f2.at n).1)<|λc n=>rfl,λk fs c f h=>?_⟩;rcases zB f with⟨_,z,_⟩ | ⟨_,I⟩
   ·cases z
   ·exact p k fs c I h
 ·rcases zB f with⟨_,z,_⟩ | ⟨_,I⟩
  ·cases z
  ·rcases zB h with⟨_,z,_⟩ | ⟨_,Y⟩
   ·cases z
   ·exact r.o5.2 j k x y I Y
end DL
namespace L2
open PySem PySem.Spec PyProof.Rows
open AutoSeq1 (wpAny_loadPart')
section
variable{prog:i8}{w:hB}{A:m9}{E:RQ}{s:eF}
theorem aU{z it l:eh}{n:Nat}{xs:Array ej}{x U:ej}{Q:RQ}(J:vr s.heap z it n U)(S:i5 .T s.heap it l n)(hl:l8 .T s.heap l xs)(hx:xs[n]? = cq x)(C:z≠it)
 (Z : ∀g,PY g z it ((n:Int)+1) x s.heap.objs.size->i5 .T g it l (n+1)->pa g s.heap.objs.size (.int n s.toks) x->g.objs.size=s.heap.objs.size+1->
   (∀c o,c≠z->c≠it->s.heap.get? c=cq o->g.get? c=cq o)->Q (.ref s.heap.objs.size) {s with heap:=g,toks:=s.toks+1}) :
 wpAny (eP prog w) A (o8.«enumerate.__next__» ⟨[.ref z],[]⟩) (λL s'=>∃v,L = .done (.ret v)/\Q v s') E s:=by
 refine HS (m:=field (.ref z) 2) (Lc J rfl (x:= .ref it) rfl ?_);refine HS (m:=Iw (.ref it)) (qS S hl hx λg1 H f=>?_);have h:vr g1 z it n U:=f.extBut _ _ C J;refine HS (m:=field (.ref z) 3) (Lc h rfl (x:=B8 n) rfl ?_);refine HS (m:=field (.ref z) 4) (Lc h rfl (x:= .none) rfl ?_);refine HS (m:=mkInt n) (wpAny_mkInt ?_);refine HS (m:=setField (.ref z) 3 (B8 ((n:Int)+1))) (Li h ⋯ λg2 ro i=>?_);replace ro:vr g2 z it ((n:Int)+1) U:=ro;refine HS (m:=setField (.ref z) 4 .none) (Li ro ⋯ λY j k=>?_);replace j:vr Y z it ((n:Int)+1) U:=j;refine HS (m:=newTuple [.int n s.toks,x]) (Oz ?_);have d:vr (Y.push {cls:= .type "tuple",data:= .seq #[.int n s.toks,x]}) z it ((n:Int)+1) U:=HV _ j;generalize a3:Y.push {cls:= .type "tuple",data:= .seq #[.int n s.toks,x]}=O at d;have W:g1.objs.size=s.heap.objs.size:=f.1;have X:g2.objs.size=g1.objs.size:=i.1;have y3:Y.objs.size=g2.objs.size:=k.1;have a:Y.objs.size=s.heap.objs.size:=by rw[y3,X,W]
 have bl:z<s.heap.objs.size:=Ip J;have K:pa O s.heap.objs.size (.int n s.toks) x:=by show O.get? _=_;rw[<- a3,<- a];exact Iq _ rfl
 have y4:O.objs.size=s.heap.objs.size+1:=by rw[<- a3,IU,a]
 have br : ∀c o,c≠z->c≠it->s.heap.get? c=cq o->O.get? c=cq o:=λc o I t e=>by rw[<- a3];exact HV _<|k.extBut _ _ I<|i.extBut _ _ I<|f.extBut _ _ t e
 have M:i5 .T O it l (n+1):=H.at λo e=>by rw[<- a3];exact HV _<|k.extBut _ _ C.symm<|i.extBut _ _ C.symm e
 refine HS (m:=IK<|.ref z) ?_;unfold IK;refine HS<|Lc d rfl (x:= .none) rfl<|Ie ?_;simp only[if_true];refine HS<|Nr<|HS<|Lc d rfl (x:=U) rfl ?_;refine HS<|Li d ⋯ λu p B=>?_;replace p:vr u z it ((n:Int)+1) x:=p;rw[a];refine HS (m:=Ly (.ref z)<|.ref s.heap.objs.size) ?_;unfold Ly;refine HS<|Li p ⋯ λg6 r F=>?_;replace r:PY g6 z it ((n:Int)+1) x s.heap.objs.size:=r;refine Li r ⋯ λb as G=>?_;replace as:PY b z it ((n:Int)+1) x s.heap.objs.size:=as;have y : ∀c o,c≠z->O.get? c=cq o->b.get? c=cq o:=λc o I e=>G.extBut _ _ I<|F.extBut _ _ I<|B.extBut _ _ I e;have y7:b.objs.size=s.heap.objs.size+1:=by have N:u.objs.size=O.objs.size:=B.1;have P:g6.objs.size=u.objs.size:=F.1;have R:b.objs.size=g6.objs.size:=G.1;rw[R,P,N,y4]
 exact HS<|MZ<|Ie ⟨_,rfl,Z b as (M.at λo e=>y _ o C.symm e) (y _ _ (LY bl) K) y7 λc o I t e=>y c o I<|br c o I t e⟩
theorem fu{z it l:eh}{n:Nat}{xs:Array ej}{I:ej}{Q:Fin->eF->Prop}(O:A.handled=dn)(U:vr s.heap z it n I)(C:i5 .T s.heap it l n)(Y:l8 .T s.heap l xs)(hx:xs[n]? = dn)
 (J : ∀g e,Heap.ExtBut it s.heap g->(∃o,g.get? e=cq o/\o.cls = .type "StopIteration")->E (.ref e) {s with heap:=g}) :
 wpAny (eP prog w) A (o8.«enumerate.__next__» ⟨[.ref z],[]⟩) Q E s:=
 HS (m:=field (.ref z) 2) (Lc U rfl (x:= .ref it) rfl<|HS (m:=Iw<|.ref it)<|yS O C Y hx J)
end
noncomputable def rT(i:eh):ni:={cls:= .type "enumerate",data:= .fields #[.none,.bool d7,.ref i,B8 0,.none,.none]}
def Jl(h:f6)(l:eh):f6:=IA (IA h<|hL .T l)<|rT h.objs.size
theorem fm(l:eh)(xs:Array ej) :
 D1 (o8.«enumerate.__new__» ⟨[.type "enumerate",.ref l],[]⟩) (λ_ R s=>l8 .T s.heap l xs/\R (.ok (.ret (.ref (s.heap.objs.size+1)))) {s with heap:=Jl s.heap l}):=
 .of_wp λb w A R s h=>by
  obtain⟨U,g,d,Y,os⟩:=s;obtain⟨f,h⟩:=h;have i:=sub_enumerate;have z:Heap.IsTuple (F2 ⟨U,g,d,Y,os⟩) l xs:=f;obtain⟨o,I,O,m,a⟩:=id z;obtain⟨e,ml,j,k⟩:=o;simp only at O a;subst O a;simp only[Jl,rT,hL,IU]at h
  wp_walk using Mi I
  refine wpAny_stack_any λst=>Ie ?_;split
  ·rename_i c _ _ _ _ _
   cases (c==Nw "enumerate")<;>(wp_walk using Mi I,Ou z;exact⟨_,rfl,by simpa[IU,Oa]using h⟩)
  ·wp_walk using Mi I,Ou z
   exact⟨_,rfl,by simpa[IU,Oa]using h⟩
noncomputable def PZ(K:HR)(a:eh):It:=
 ⟨λi H=>∃b,kr .T K H a b/\i<b.length,
  λi H x d=>∃p u,x = .ref p/\H p=dn/\d=upd H p (.tup [.int i,u])/\(∀b,kr .T K H a b->b[i]? = cq u),
  λi H=>∃b,kr .T K H a b/\b.length<=i⟩
theorem kI(U:vr s.heap z it n old)(h:Q (.ref z) s):wpAny (eP prog w) A (N5 (.ref z)) Q E s:=by have I:s.TypeIs (.ref z) "enumerate":=⟨_,U,rfl⟩;refine wpAny_pyIter_slot I F.slot_enumerate_iter (LQ F.slot_enumerate_iter I F.entry_enumerate_iter ?_ (F.args_enumerate_iter_1 _));have O:wpAny (eP prog w) A.in1 (ret (.ref z)) (λO a=>∃v,O = .done (.ret v)/\∃T m,a.TypeIs v T/\O8 (.type T) "__next__" = pure (cq m)/\Q v a) E s:=Ie ⟨_,rfl,"enumerate",_,I,MX.lookup,h⟩;exact O
theorem bH{P:i8}{w:hB}{K:HR}{elts:List eA}{x1:Nat}{tf:gu}{z it a:eh}(ar:z≠it) :
 Turn P w K (.Tuple elts x1 tf) (PZ K a) [z,it] z (λi h=>(∃a0,vr h z it i a0)/\i5 .T h it a i) where
 mem:=by simp
 obj:=λi h ⟨⟨a0,O⟩,h1⟩ y hy=>by
  simp only[Il,IH,or_false]at hy;rcases hy with rfl | rfl
  ·exact⟨_,O,λv q=>by cases q⟩
  ·exact h1.obj
 keep:=λi h h' ⟨⟨a0,O⟩,h1⟩ k=>⟨⟨a0,k z ⋯ _ O⟩,h1.at λo e=>k it ⋯ o e⟩
 item:=by
  rintro X hP hw hK hc i pins s σ H E I hf ⟨⟨a0,O⟩,h1⟩ ⟨xs,a8,b0⟩;subst hP hw hK;obtain⟨b7,am,p1,z1⟩:=I.sq a8;have hx:xs[i]? = cq xs[i]:=HX b0;obtain⟨u1,b9,bb⟩:=am.get hx;have hT:s.TypeIs (.ref z) "enumerate":=⟨_,O,rfl⟩;unfold Dz;refine HS (ND (LA (name:=Ld "__next__") hT MX (LQ MX hT F.entry_enumerate_next
   (aU O h1 p1 (x:=u1) (by simpa using b9) ar λg a1 a2 a3 a4 a5=>Ie ⟨_,rfl,?_⟩) (F.args_enumerate_next_1 _))))
  refine Uq a1 λg2 ro ap=>?_;have lt : ∀{c o},s.heap.get? c=cq o->s.heap.objs.size≠c:=λe=>LY<|Ip e;have bi:pa g2 s.heap.objs.size (.int i s.toks) u1:=ap.extBut _ _ (lt O) a3;have kk : ∀Y u,Y ∉ [z,it]->s.heap.get? Y=cq u->g2.get? Y=cq u:=λY u U e=>by simp only[Il,IH,or_false,not_or]at U;exact ap.extBut _ _ U.1<|a5 Y u U.1 U.2 e
  have I1:Inv X pins σ (upd H s.heap.objs.size<|.tup [.int i,xs[i]]) {s with heap:=g2,toks:=s.toks+1}:=
   I.O6 (fp:=[z,it]) kk hf (Ic _) ⟨by show 2<=gm;decide,[.int i s.toks,u1],.cons ⟨_,rfl⟩<|.cons bb .nil,⟨_,bi,rfl,_,rfl⟩⟩
  have bm:H s.heap.objs.size=dn:=I.fresh;refine⟨.ref s.heap.objs.size,_,I1,rfl,⟨_,_,rfl,bm,rfl,λc3 bn=>by rw[I.E5 bn a8];exact hx⟩,?_,λY U=>?_⟩
  ·exact⟨⟨_,by have:=ro;rwa [show((i:Int)+1)=((i+1:Nat):Int)by omega]at this⟩,a2.at λo e=>ap.extBut _ _ ar.symm e⟩
  ·have br:Y≠s.heap.objs.size:=by
    simp only[Il,IH,or_false]at U;rcases U with rfl | rfl
    ·exact(lt O).symm
    ·obtain⟨o,e,_⟩:=h1.obj;exact(lt e).symm
   rw[zD br];exact(hf Y U).1
 done:=by
  rintro X hP hw hK hc i pins s σ H E I hf ⟨⟨a0,O⟩,h1⟩ ⟨xs,a8,hi⟩;subst hP hw hK;obtain⟨b7,am,p1,z1⟩:=I.sq a8;have hT:s.TypeIs (.ref z) "enumerate":=⟨_,O,rfl⟩;have l1:=am.length;unfold Dz;refine HS (ND (LA (name:=Ld "__next__") hT MX (LQ MX hT F.entry_enumerate_next
   (fu (show X.A.handled=dn from I.ok.hd hc) O h1 p1 (by simp;omega) λg e hk he=>?_) (F.args_enumerate_next_1 _))))
  obtain⟨o,ho,c1⟩:=he;refine HS (PR (T:="StopIteration") (b:=di) ⟨o,ho,c1⟩ isSubtype_stop (Ie ⟨rfl,?_⟩));refine I.C1 (t':=s.toks) (fp:=[z,it]) (λY u U e=>?_) hf;simp only[Il,IH,or_false,not_or]at U;exact hk Y u U.2 e
 self:=λ_ _ _ _ _ st h=>kI st.1.choose_spec h
noncomputable def ED(K:HR)(C:TA):TI:=λf H R=>C f H λd b=>∃a,d=[.ref a]/\(∃e,kr .T K b a e)/\R (PZ K a) b
theorem pH{X:Cx}{L:eA}{S:TA}{p pos:gu}{C:List eA}{x1:Nat}{J:gu}(hg:Gl X "enumerate")(hm:X.mg "enumerate" = dn)(Z:PA X [L] S)
 (hv:B3 "enumerate" = cq (.type "enumerate")) (hs:f7 [L] X.env=[(d7,eB L X.env)]:=by rfl) :
 PI X (.Tuple C x1 J) (.Call (.Name "enumerate" p) [L] [] pos) (ED X.K S):=by
 intro d s i H R I h;refine DE<|kH I hg hm hv<|Ll (ft (Z pos d s i H _ I h) λA b r=>?_) (by rw[hs];rfl) rfl;obtain⟨B,f,z,u,t⟩:=r;obtain⟨a,e,⟨G,k⟩,q⟩:=t;subst e;obtain⟨E,n,l⟩:=yn u;subst n;cases l;obtain⟨m,x,U,M⟩:=z.sq k;have y:=U.lt;refine callType_new F.called_enumerate ⋯ (F.typeCall_enumerate_1 _) (F.newCall_enumerate_1 _) (λobj=>F.args_object_init_2 obj _) F.entry_enumerate_new (fm a m.toArray) ⟨U,?_⟩;have keep : ∀c o,b.heap.get? c=cq o->(Jl b.heap a).get? c=cq o:=λc o e=>HV _<|HV _ e;have w:(IA b.heap<|hL .T a).objs.size=b.heap.objs.size+1:=IU ..;have g0:i5 .T (Jl b.heap a) b.heap.objs.size a 0:=(vK .T b.heap a).at λo e=>HV _ e;have O:vr (Jl b.heap a) (b.heap.objs.size+1) b.heap.objs.size 0 .none:=by have q:=Iq (IA b.heap<|hL .T a) (o:=rT b.heap.objs.size) rfl;rw[w]at q;exact q
 refine⟨⟨_,O,rfl⟩,kI (s:={b with heap:=Jl b.heap a}) O ?_⟩;have j:Inv X d i f {b with heap:=Jl b.heap a,toks:=b.toks}:=z.kept keep;refine⟨_,[b.heap.objs.size+1,b.heap.objs.size],_,_,f,rfl,j,bH<|LY<|LW _,⟨⟨_,O⟩,g0⟩,λc Y=>?_,q⟩;have g:b.heap.objs.size<=c:=by
  simp only[Il,IH,or_false]at Y;rcases Y with rfl | rfl
  ·exact IM _ _
  ·exact Ic _
 exact z.B6 g<|z.f9.fresh g
end L2
namespace DL
open PySem PySem.Spec PyProof.Rows L2
theorem Yb{K:HR}{H:Hp} : ∀{ds:List D} {xs:List V} {l:List Int},el K H ds xs->XC ds=cq l->xs=l.map V.int
 | [],xs,l,r,e=>by cases e;rw[show xs=[]from r];rfl
 | d::ds,xs,l,r,e=>by
  obtain⟨x,g,rfl,z,b⟩:=(show ∃x r,xs=x::r/\Rep K H d x/\el K H ds r from r);cases d with
  | int i=>
   obtain⟨f,a,rfl⟩:=zy (show(XC ds).map (λl=>i::l)=cq l from e);rw[Yb b a,show x = .int i from z];rfl
  | _=>cases e
theorem Yk : ∀l:List Int,(l.map V.int).all XF=di
 | []=>rfl
 | i::l=>by simp only[IQ,Ow,Yk l,Oy];rfl
theorem eM(i:Int) : ∀l:List Int,M3 (.int i) (l.map V.int)=decide (i∈l)
 | []=>rfl
 | j::l=>by
  have z:=eM i l;unfold M3 at z ⊢;rw[IQ,Ov,z];have e:Dg (.int j) (.int i)=(j==i):=rfl;rw[e];by_cases h:i=j
  ·subst h
   rw[beq_self_eq_true,Bool.true_or];exact(decide_eq_true Iy).symm
  ·rw[beq_false_of_ne (IT h),Bool.false_or]
   exact decide_eq_decide.mpr ⟨λq=>Im _ q,λq=>(Il.mp q).resolve_left h⟩
theorem bu{K:HR}{H0 C:Hp}{a:eh}{xs:List V}{ds:List D}(h:gR K C a xs)(r:el K H0 ds xs):Walk K H0 C (PZ K a) (qu ds):=by
 have Y:=r.length;have o:(qu ds).length=ds.length:=by simp[qu]
 refine⟨λi b s m=>?_,λb s=>?_,λi b x g s m y=>?_⟩
 ·exact⟨xs,mu s h,by omega⟩
 ·exact⟨xs,mu s h,by omega⟩
 ·obtain⟨p,u,j,z,k,I⟩:=y
  obtain⟨d,l,O⟩:=r.B7<|I xs<|mu s h;refine⟨.tup [.int i,d],?_,λf n e=>⟨upd f p<|.tup [.int i,u],?_,?_⟩⟩
  ·have U:i<ds.length:=by omega
   unfold qu;rw[Le,NT U,Iv,l];rfl
  ·rw[k];exact Ext.alloc e z _
  ·rw[j]
   exact qY (gR.of zG)<|el.cons (show V.int i = .int i from rfl)<|el.cons ((O.mono n).mono (z7 (jf e z) _)) el.nil
section
variable{X:Cx}{sc:hG}{N L:List Str}{k:Nat}{a b c:eA}{pos p:gu}{f fa fb fc:CO D}
theorem J7(h:SX X sc N L k)(c:yp sc "enumerate" = di)(z:X.mg "enumerate" = dn)(C:PV X a f)(O:f7 [a] X.env=[(d7,eB a X.env)]:=by rfl) :
 ji X (.Tuple elts x1 tf) (.Call (.Name "enumerate" p) [a] [] pos) (Kx f):=
 JM (pH (h.gl c).1 z (jl C qo O) boot_enumerate O) λs H R Y=>by
  obtain⟨g,m,n,rc,I,q⟩:=Y;obtain⟨d,j,I⟩:=zb I;cases d with
  | tup o=>
   cases I;refine⟨g,m,_,rc,j,λv e b x r=>?_⟩;obtain⟨i,l,rfl,U,g2⟩:=kO r;exact⟨i,rfl,⟨l,mu x.sub U⟩,q _ e b x<|bu U g2⟩
  | _=>cases I
theorem V9(ho:i9 X (n4 op) r)(C:i9 X (n4 G9) r')(s1:n5 X.K r F)(s2:n5 X.K r' G)(S:PV X a fa)(Z:PV X b fb)(hc:PV X c fc)
 (hm:G3 [op,G9] [b,c]=d7:=by with_unfolding_all rfl):PV X (.Compare a [op,G9] [b,c] pos) (yu F G fa fb fc):=
 qg (iR ho C S Z hc hm) λσ H Q M=>by
  obtain⟨j,e,d,rc,I,q⟩:=M;obtain⟨x,w,I⟩:=zb I;obtain⟨y,A,I⟩:=zb I;obtain⟨k,B,I⟩:=zb I;obtain⟨Y,E,g⟩:=zb B;refine⟨j,e,x,rc,w,λW H1 p x1 N=>⟨p,e,y,rc.ext x1,A,λi l s O h=>s1 s l W i x y Y _ O.sub (N.mono O.s0) h E λv3 m f x3 P=>?_⟩⟩;cases Y with
  | bl k'=>
   cases g;refine⟨k,show v3 = .bl k from P,?_⟩;cases k with
   | true=>
    rw[RY rfl];rw[RY rfl]at I;obtain⟨z,J,L⟩:=zb I;exact⟨f,e,z,((rc.ext x1).ext O).ext x3,J,λv4 n t U R=>s2 t n i v4 y z d _ U.sub ((h.mono x3.s0).mono U.s0) R L λv5 o u x5 T=>q v5 o u (((x1.trans O).trans x3).trans (U.trans x5)) T⟩
   | false=>
    rw[EQ ⋯];rw[EQ ⋯]at I;cases I;exact q _ m f ((x1.trans O).trans x3) rfl
  | _=>cases g
end
theorem vw : ∀{l:List Int} {us:List ej},fy (l.map V.int) us->∀i,i<us.toArray.size->∃z u,us.toArray[i]? = cq (.int z u)/\l[i]? = cq z
 | [],us,r,i,hi=>by cases r;exact absurd hi<|o1 _
 | z::l,u::us,.cons r t,i,hi=>by
  cases i with
  | zero=>
   obtain⟨I,rfl⟩:=r;exact⟨z,I,by simp,by simp⟩
  | succ i=>
   obtain⟨O,U,a,b⟩:=vw t i (by simpa using hi);exact⟨O,U,by simpa using a,by simpa using b⟩
theorem vP(h:Zk o=cq rows):o=cq (.nest rows):=by
 cases o with
 | none=>cases h
 | some c=>cases c<;>first | cases h;rfl | cases h
noncomputable def tN(K:HR)(f:CO (List<|List D)):TE:=λj H Q=>∃h i d,RC K h H j i/\f i=cq d/\
 ∀a bs g e,Ext h H e g->(∀b∈a::bs,H b=dn)->y0 K e g d a bs->Q (.ref a) g
noncomputable def vu(K:HR)(H0 H:Hp)(C:List (List D))(bs:List eh):Prop:=bs.length=C.length/\∀(k:Nat) b row,bs[k]? = cq b->C[k]? = cq row->H0 b=dn/\∃a,H b=cq (.lst a)/\el K H0 row a
theorem vu.at{K:HR}{H0 H:Hp}{C:List (List D)}{bs:List eh}(n:vu K H0 H C bs){b:eh}(O:b∈bs):H0 b=dn/\∃xs,H b=cq (.lst xs):=by obtain⟨k,z⟩:=OT O;have I:=(Io.mp z).1;rw[n.1]at I;obtain⟨a,xs,d,_⟩:=n.2 k b _ z<|HX I;exact⟨a,xs,d⟩
theorem vu.ext{K:HR}{H0 H J H':Hp}{C:List (List D)}{bs:List eh}(n:vu K H0 H C bs)(e:Ext H0 H J H'):vu K J H' C bs:=
 ⟨n.1,λk b row a d=>by obtain⟨z,f,g2,I⟩:=n.2 k b row a d;exact⟨e.new b z (by rw[g2];simp),f,e.s1 _ _ g2,I.mono e.s0⟩⟩
theorem vu.add{K:HR}{H0 H:Hp}{C:List (List D)}{bs:List eh}{b:eh}{row:List D}{xs:List V}(n:vu K H0 H C bs)(J:H0 b=dn)(L:H b=cq (.lst xs))(O:el K H0 row xs):vu K H0 H (C++[row]) (bs++[b]):=
 ⟨by simp[n.1],λk c r a d=>by
  rcases IG k bs.length with z | z
  ·rw[Lz z]at a
   rw[Lz (by rw[<- n.1];exact z)]at d;exact n.2 k c r a d
  ·rw[Lg z]at a
   rw[Lg (by rw[<- n.1];exact z)]at d;have I:k - bs.length=0:=by have:=(Io.mp a).1;simp at this;omega
   rw[I]at a;rw[<- n.1,I]at d;cases a;cases d;exact⟨J,xs,L,O⟩⟩
theorem vu.hide{K:HR}{H0 H:Hp}{C:List (List D)}{bs:List eh}{z:eh}{o:HO}(n:vu K H0 H C bs)(h:z∉bs):vu K H0 (upd H z o) C bs:=
 ⟨n.1,λk b row a d=>by obtain⟨I,e,g2,O⟩:=n.2 k b row a d;exact⟨I,e,by rw[zD (λq=>h<|by rw[<- q];exact IY a)];exact g2,O⟩⟩
section
variable{K:HR}{own:List Str}{fr:List (Str×Nat)}{src:CO (List D)}{T:Tg}{f:CO (List D)}
theorem aX(hT : ∀i∈T.idx,i<own.length){tt:TT}(c7 : ∀C H Q,tT K jg C H Q->tt C H Q) : ∀C H Q,tN K (V2 src T own.length (fr.map (·.2)) f) C H Q->bR (Sa K src) own fr (s9 K T) tt (tO K f) C H Q:=λC H Q hZ=>by
 obtain⟨H0,u,n,rc,s,q⟩:=hZ;obtain⟨a,e1,s⟩:=zb s;by_cases hl:a.length<=lim
 ·rw[RY hl]at s
  refine⟨H0,u,a,rc,e1,λJ A an x1 wk D P=>?_⟩;have ar : ∀(i:Nat) E,(z6 own.length (fr.map (·.2)) u)[i]? ≠ cq (.own E):=λi E h=>by rcases qC h with z | ⟨d',j,z,_⟩<;>cases z
  have as : ∀(i:Nat) E,(z6 own.length (fr.map (·.2)) u)[i]? ≠ cq (.nest E):=λi E h=>by rcases qC h with z | ⟨d',j,z,_⟩<;>cases z
  have bb:an D=dn:=jf x1.sub P;have bd : ∀c,A c=dn->H c=dn:=λc R=>by
   cases z:H c with
   | none=>rfl
   | some o=>rw[x1.s1 c o z]at R;cases R
  refine⟨λi m Z G l=>m=a.length - i/\i<=a.length/\Z.length<=i/\l D=cq (.lst Z)/\∃g bs W r2,Z=bs.map V.ref/\RC K g l G (z6 own.length (fr.map (·.2)) u)/\g D=dn/\Ext an A g l/\vu K g l W bs/\(D::bs).Nodup/\(∀b∈bs,A b=dn)/\vm T f (z6 own.length (fr.map (·.2)) u) (a.drop i)=cq r2/\n=W++r2,
   ⟨_,rfl,Lp _,Ic _,zG,an,[],[],n,rfl,((rc.ext x1).pull).upd bb ar as,bb,Ext.hide x1.sub P _,⟨rfl,λk b row h=>by simp at h⟩,by simp,λb U=>by simp at U,s,rfl⟩,?_⟩
  rintro i m Z G l ⟨rfl,hi,hy,M,g,bs,W,r2,c9,ax,be,t,N,nd,bf,I,rfl⟩;subst c9;refine⟨M,?_⟩;by_cases B:i<a.length
  ·refine .inr ⟨wk.go i l t.s1 B,?_,λx b0 y=>?_⟩
   ·have:=ky<|Ic lim;omega
   obtain⟨d,hd,hx⟩:=wk.C3 i l x b0 t.s1 B y;obtain⟨G0,O,rg⟩:=hx g t.s0 ax.sub;have cb:a.drop i=d::a.drop (i+1):=by
    have cd:d=a[i]:=by rw[HX B]at hd;exact(IX hd).symm
    rw[cd];exact Mv B
   rw[cb]at I;simp only[vm]at I;obtain⟨p,eb,I⟩:=zb I;obtain⟨e,ee,I⟩:=zb I;obtain⟨xE,er,I⟩:=zy I;have ci:G0 D=dn:=O.new D be (by rw[M];simp);have bm:b0 D=cq (.lst<|bs.map V.ref):=O.s1 _ _ M;obtain⟨bl,bg⟩:=Yu eb;have cj : ∀{L:St} {G2 H2:Hp},RC K G2 H2 L p->RC K G2 H2 L (z6 own.length (fr.map (·.2)) u):=λr=>r.weak bl.symm (λj d' hj=>by
    by_cases S:j∈T.idx
    ·rcases qC hj with z | ⟨d2,j2,_,hn,_⟩
     ·cases z
     ·exact absurd (hT j S) ⋯
    ·rw[bg j S];exact hj) ar as
   refine vQ O.sub rg eb λPt bx _=>c7 Pt b0 _ ⟨G0,p,di,bx<|ax.ext O,rfl,λH3 c0 x3=>?_⟩;have c1:=(bx<|ax.ext O).ext x3;have xa:=t.trans<|O.trans x3;have co:c0 D=dn:=x3.new D ci (by rw[bm];simp);have b7:H3 D=cq (.lst<|bs.map V.ref):=x3.s1 _ _ bm;dsimp only;rw[RY rfl];refine⟨c0,p,e,c1,ee,λY d5 H4 c3 F g1 g2 g3 g4=>?_⟩;have b8:c3 D=dn:=F.new D co (by rw[b7];simp);have ct:H4 D=cq (.lst<|bs.map V.ref):=F.s1 _ _ b7;have X:=xa.trans F;have cv:=((N.ext O).ext x3).ext F;have cw:=(N.ext O).ext x3;have c4:D∉bs:=(LO.mp nd).1;have c5:D≠Y:=λz=>by rw[<- z,b7]at g1;cases g1
   have cx:Y∉bs:=λS=>by obtain⟨_,d6,z⟩:=cw.at S;rw[g1]at z;cases z
   have cy:A Y=dn:=by
    cases z:A Y with
    | none=>rfl
    | some o=>rw[xa.s1 _ _ z]at g1;cases g1
   refine⟨ct,a.length - (i+1),by omega,rfl,B,by rw[LG,MO];omega,zG,c3,bs++[Y],W++[e],xE,by simp,(cj<|c1.ext F).upd b8 ar as,b8,?_,?_,?_,?_,er,?_⟩
   ·exact⟨X.s0,λc o z=>by rw[zD (λw=>by rw[w,P]at z;cases z)];exact X.s1 c o z,λc o z=>by rw[zD (λw=>by rw[w,b8]at z;cases z)];exact X.sub c o z,X.new⟩
   ·exact(cv.add g2 g3 g4).hide (by simp[c4,c5])
   ·refine LO.mpr ⟨by simp[c4,c5],List.nodup_append.mpr ⟨(LO.mp nd).2,by simp,λc R c' d0=>?_⟩⟩
    have:c'=Y:=by simpa using d0
    subst this;exact λz=>cx (by rw[<- z];exact R)
   ·intro b U
    rcases MN.mp U with z | z
    ·exact bf b z
    ·have:b=Y:=by simpa using z
     subst this;exact cy
   ·rw[<- I];simp
  ·have e:i=a.length:=by omega
   subst e;rw[NN]at I;cases I;rw[Np]at q;refine .inl ⟨wk.stop l t.s1,q D bs l g (x1.trans t) (λb U=>?_) ⟨be,M,nd,N.1,N.2⟩⟩;rcases Il.mp U with rfl | U
   ·exact bd _ P
   ·exact bd b<|bf b U
 ·rw[EQ hl]at s;cases s
end
section
variable{K:HR}{E0 E H0 H:Hp}{σ:St}{γ:Ctx}
theorem Zq(h:γ.any QI=d7)(i:Nat)(C:List (List D)):γ[i]? ≠ cq (.nest C):=λe=>by have a:Cell.nest C∈γ:=IY e;have:=Pw.mp h _ a;exact this rfl
theorem RS.Ua(r:RS K E0 E G0 G σ γ)(e:Ext G0 G H0 H)(J : ∀b∈a::bs,G b=dn)(n:y0 K H0 H rows a bs)(C:γ.any QI=d7) :
 RS K E0 E H0 H (σ.set i<|some (.ref a)) (γ.set i<|.nest rows):=by
 have rc:=r.rc.ext e;have x : ∀b∈a::bs,E b=dn:=λb m=>by
  cases q:E b with
  | none=>rfl
  | some o=>have:=J b m;rw[r.ext.s1 b o q]at this;cases this
 refine⟨⟨rc.sub,by simp[rc.len],λj A g=>?_,λj d g=>?_,λj k b d fs l f u w=>?_,⟨λj h g=>?_,λj k L M I g2=>?_⟩⟩,r.ext.trans e,λj d b I g2=>?_,λj h b Q I g2 O=>?_⟩
 ·rcases zB g with⟨_,z,_⟩ | ⟨U,z⟩
  ·cases z
  ·obtain⟨N,I,g2⟩:=rc.val j A z
   exact⟨N,by rw[Ib (IT U)];exact I,g2⟩
 ·rcases zB g with⟨_,z,_⟩ | ⟨U,z⟩
  ·cases z
  ·obtain⟨b,y,I,g2⟩:=rc.own j d z
   exact⟨b,y,by rw[Ib (IT U)];exact I,g2⟩
 ·rcases zB l with⟨_,z,_⟩ | ⟨U,Y⟩
  ·cases z
  ·rcases zB f with⟨_,z,_⟩ | ⟨p,t⟩
   ·cases z
   ·rw[Ib (IT U)]at u
    rw[Ib (IT p)]at w;exact rc.ne j k b d fs Y t u w
 ·rcases zB g with⟨rfl,z,s⟩ | ⟨U,z⟩
  ·cases z
   refine⟨a,bs,Iz (by rw[rc.len];exact s),n,λk d c l f=>?_⟩;rcases zB l with⟨_,z,_⟩ | ⟨p,Y⟩
   ·cases z
   ·rw[Ib (IT p)]at f
    obtain⟨P,y,I,g2,O,_⟩:=r.rc.own k d Y;rw[f]at I;cases I;intro F;rw[J c F]at O;cases O
  ·exact absurd z<|Zq C j h
 ·rcases zB I with⟨rfl,_,_⟩ | ⟨_,Y⟩
  ·rcases zB g2 with⟨rfl,_,_⟩ | ⟨_,t⟩
   ·rfl
   ·exact absurd t<|Zq C k M
  ·exact absurd Y<|Zq C j L
 ·rcases zB I with⟨_,z,_⟩ | ⟨U,z⟩
  ·cases z
  ·rw[Ib (IT U)]at g2;exact r.fresh j d b z g2
 ·rcases zB I with⟨rfl,z,s⟩ | ⟨U,z⟩
  ·rw[Iz (by rw[rc.len];exact s)]at g2;cases g2
   rw[n.ha]at O;injection O with O;injection O with O;subst O;refine⟨x a Iy,λb m=>?_⟩;obtain⟨c,B,q⟩:=IB.mp m;cases q;exact x b<|Im _ B
  ·exact absurd z<|Zq C j h
theorem RS.forget(r:RS K E0 E H0 H σ γ):RS K E0 E H0 H (σ.set i v) (γ.set i .no):=by
 have Y : ∀{j:Nat} {e:List D} {b:eh},(γ.set i .no)[j]? = cq (.own e)->γ[j]? = cq (.own e)/\(σ.set i v)[j]? = σ[j]? :=λ{j e b} g=>by
  rcases zB g with⟨_,z,_⟩ | ⟨f,z⟩
  ·cases z
  ·exact⟨z,Ib<|IT f⟩
 have l : ∀{j:Nat} {d:List (List D)},(γ.set i .no)[j]? = cq (.nest d)->γ[j]? = cq (.nest d)/\(σ.set i v)[j]? = σ[j]? :=λ{j d} g=>by
  rcases zB g with⟨_,z,_⟩ | ⟨f,z⟩
  ·cases z
  ·exact⟨z,Ib<|IT f⟩
 refine⟨⟨r.rc.sub,by simp[r.rc.len],λj t g=>?_,λj e g=>?_,λj k b e fs m h p s=>?_,⟨λj d g=>?_,λj k y A U g2=>r.rc.o5.2 j k y A (l U).1 (l g2).1⟩⟩,r.ext,λj e b U g2=>?_,λj d b C U g2 g3=>?_⟩
 ·rcases zB g with⟨_,z,_⟩ | ⟨f,z⟩
  ·cases z
  ·obtain⟨B,U,g2⟩:=r.rc.val j t z
   exact⟨B,by rw[Ib (IT f)];exact U,g2⟩
 ·obtain⟨I,O⟩:=Y (b:=0) g
  rw[O];exact r.rc.own j e I
 ·obtain⟨I,O⟩:=Y (b:=0) m
  obtain⟨n,o⟩:=Y (b:=0) h;rw[O]at p;rw[o]at s;exact r.rc.ne j k b e fs I n p s
 ·obtain⟨I,O⟩:=l g
  obtain⟨a,bs,u,w,x⟩:=r.rc.o5.1 j d I;refine⟨a,bs,by rw[O];exact u,w,λk e c m h=>?_⟩;obtain⟨n,o⟩:=Y (b:=0) m;rw[o]at h;exact x k e c n h
 ·obtain⟨I,O⟩:=Y (b:=0) U
  rw[O]at g2;exact r.fresh j e b I g2
 ·obtain⟨I,O⟩:=l U
  rw[O]at g2;exact r.xr j d b C I g2 g3
theorem KY : ∀{l:List eh} {m t:Nat} {b:eh},l.Nodup->l[m]? = cq b->l[t]? = cq b->m=t
 | [],m,t,b,_,h,_=>by simp at h
 | c::l,m,t,b,nd,h1,h2=>by
  obtain⟨d,z⟩:=LO.mp nd;cases m with
  | zero=>
   cases t with
   | zero=>rfl
   | succ t=>
    have e1:c=b:=by simpa using h1
    have a:l[t]? = cq b:=by simpa using h2
    exact absurd (IY a)<|e1 ▸ d
  | succ m=>
   cases t with
   | zero=>
    have e1:c=b:=by simpa using h2
    have a:l[m]? = cq b:=by simpa using h1
    exact absurd (IY a)<|e1 ▸ d
   | succ t=>exact congrArg (· + 1) (KY (b:=b) z (by simpa using h1)<|by simpa using h2)
theorem RC.row{j i t:Nat}{R:List (List D)}{a b:eh}{bs:List eh}{row:List D}(r:RC K H0 H σ γ)(L:γ[j]? = cq (.nest R))(hs:σ[j]? = cq (cq (.ref a)))(S:y0 K H0 H R a bs)
 (a2 : ∀(k:Nat) ds c,γ[k]? = cq (.own ds)->σ[k]? = cq (cq (.ref c))->c∉a::bs) (J:bs[t]? = cq b) (Z:R[t]? = cq row) (C:i<γ.length) :
 RC K H0 H (σ.set i<|some (.ref b)) ((γ.set j .no).set i (.own row)):=by
 obtain⟨s,x,b1,b2⟩:=S.row t b row J Z;have n:b∈a::bs:=Im _<|IY J;have Y : ∀{k:Nat} {c:Cell},c ≠ .no->(γ.set j .no)[k]? = cq c->γ[k]? = cq c/\k≠j:=λ{k c} w g=>by
  rcases zB g with⟨_,z,_⟩ | ⟨O,z⟩
  ·exact absurd z w
  ·exact⟨z,O⟩
 refine⟨r.sub,by simp[r.len],λk d g=>?_,λk ds g=>?_,λk m c ds p u o e f=>?_,ri.DU λk h g=>?_⟩
 ·rcases zB g with⟨_,z,_⟩ | ⟨O,z⟩
  ·cases z
  ·obtain⟨I,_⟩:=Y ⋯ z
   rw[Ib (IT O)];exact r.val k d I
 ·rcases zB g with⟨rfl,z,y⟩ | ⟨O,z⟩
  ·cases z
   exact⟨b,x,Iz (by rw[r.len];exact C),s,b1,b2⟩
  ·obtain⟨I,_⟩:=Y ⋯ z
   rw[Ib (IT O)];exact r.own k ds I
 ·rcases zB u with⟨rfl,_,_⟩ | ⟨O,I⟩
  ·rcases zB o with⟨rfl,_,_⟩ | ⟨l,U⟩
   ·rfl
   ·obtain⟨U,_⟩:=Y ⋯ U
    rw[Iz (by rw[r.len];exact C)]at e;rw[Ib (IT l)]at f;cases e;exact absurd n<|a2 m p b U f
  ·obtain⟨I,_⟩:=Y ⋯ I
   rcases zB o with⟨rfl,_,_⟩ | ⟨l,U⟩
   ·rw[Iz (by rw[r.len];exact C)]at f
    rw[Ib (IT O)]at e;cases f;exact absurd n<|a2 k ds b I e
   ·obtain⟨U,_⟩:=Y ⋯ U
    rw[Ib (IT O)]at e;rw[Ib (IT l)]at f;exact r.ne k m c ds p I U e f
 ·rcases zB g with⟨_,z,_⟩ | ⟨O,z⟩
  ·cases z
  ·obtain⟨I,U⟩:=Y ⋯ z
   exact U<|r.o5.2 k j h R I L
theorem RS.TY(r:RS K E0 E H0 H σ γ)(O:γ[j]? = cq (.nest R))(L:σ[j]? = cq (cq (.ref a)))(C:y0 K H0 H R a bs)
 (S : ∀(k:Nat) ds c,γ[k]? = cq (.own ds)->σ[k]? = cq (cq (.ref c))->c∉a::bs) (J:bs[t]? = cq b) (Z:el K H0 row' ys) :
 RS K E0 E H0 (upd H b<|.lst ys) σ (γ.set j<|.nest<|R.set t row'):=by
 have A:j<γ.length:=(Io.mp O).1;have i:b∈bs:=IY J;have x:b≠a:=λq=>(LO.mp C.nd).1 (by rw[<- q];exact i);obtain⟨s,_⟩:=C.at<|Im a i;obtain⟨P,y⟩:=r.xr j R a _ O L C.ha;have Q:E b=dn:=y b<|IB.mpr ⟨b,i,rfl⟩;have U : ∀{k:Nat} {c:Cell},(∀e,c ≠ .nest e)->(γ.set j<|.nest<|R.set t row')[k]? = cq c->γ[k]? = cq c:=λ{k c} Y g=>by
  rcases zB g with⟨_,z,_⟩ | ⟨l,z⟩
  ·exact absurd z<|Y _
  ·exact z
 refine⟨⟨λc o q=>?_,by simp[r.rc.len],λk d g=>r.rc.val k d<|U ⋯ g,λk ds g=>?_,λk m c ds T F G M N=>r.rc.ne k m c ds T (U ⋯ F) (U ⋯ G) M N,⟨λk e g=>?_,λk m r1 r2 I g2=>?_⟩⟩,⟨r.ext.s0,λc o q=>?_,λc o q=>?_,r.ext.new⟩,λk ds c I g2=>r.fresh k ds c (U ⋯ I) g2,λk e c p I g2 g3=>?_⟩
 ·rw[zD (λz=>by rw[z,s]at q;cases q)];exact r.rc.sub c o q
 ·have z:=U ⋯ g
  obtain⟨c,p,f,h,u,W⟩:=r.rc.own k ds z;refine⟨c,p,f,h,?_,W⟩;rw[zD (λq=>S k ds c z f<|by rw[q];exact Im _ i)];exact u
 ·have l:k=j:=by
   rcases zB g with⟨z,_,_⟩ | ⟨_,z⟩
   ·exact z
   ·exact r.rc.o5.2 k j e R z O
  subst l;rw[Iz A]at g;cases g;refine⟨a,bs,L,⟨C.a0,by rw[zD (IT x)];exact C.ha,C.nd,by simp[C.len],λm c row Y n=>?_⟩,λm ds c I g2=>S m ds c (U ⋯ I) g2⟩;by_cases w:m=t
  ·subst w
   rw[J]at Y;cases Y;have:m<R.length:=by rw[<- C.len];exact(Io.mp J).1
   rw[Iz this]at n;cases n;exact⟨s,ys,zG,Z⟩
  ·rw[Ib (IT w)]at n
   obtain⟨f,p,h,u⟩:=C.row m c row Y n;have B:c≠b:=λq=>by subst q;have X:=(LO.mp C.nd).2;exact w<|KY X Y J
   exact⟨f,p,by rw[zD B];exact h,u⟩
 ·have f:k=j:=by
   rcases zB I with⟨z,_,_⟩ | ⟨_,z⟩
   ·exact z
   ·exact r.rc.o5.2 k j r1 R z O
  have h:m=j:=by
   rcases zB g2 with⟨z,_,_⟩ | ⟨_,z⟩
   ·exact z
   ·exact r.rc.o5.2 m j r2 R z O
  rw[f,h]
 ·rw[zD (λz=>by rw[z,Q]at q;cases q)];exact r.ext.s1 c o q
 ·rw[zD (λz=>by rw[z,s]at q;cases q)];exact r.ext.sub c o q
 ·have l:k=j:=by
   rcases zB I with⟨z,_,_⟩ | ⟨_,z⟩
   ·exact z
   ·exact r.rc.o5.2 k j e R z O
  subst l;rw[L]at g2;cases g2;rw[zD (IT x),C.ha]at g3;injection g3 with g3;injection g3 with g3;subst g3;exact⟨P,y⟩
end
section
variable{K:HR}{E0 E H0 H:Hp}{σ:St}{γ:Ctx}
theorem RS.freeze(r:RS K E0 E H0 H σ γ)(e:γ[i]? = cq (.own ds)) : ∃C,RS K E0 E C H σ (γ.set i<|.val<|.lst ds):=by
 obtain⟨a,o,f,g,Y,l⟩:=r.rc.own i ds e;have h:=r.fresh i ds a e f;obtain⟨C,n,U⟩ : ∃C,C=upd H0 a (.lst o)/\RC K C H σ (γ.set i<|.val<|.lst ds):=by refine⟨_,rfl,?_⟩;exact RC.TU r.rc e f g Y l
 subst n;refine⟨_,U,⟨r.ext.s0.trans<|z7 g _,r.ext.s1,U.sub,λc m I=>?_⟩,λj k b O g2=>?_,λj d b p O g2 g3=>?_⟩
 ·rw[zD (λz=>by rw[z,h]at I;exact I rfl)];exact r.ext.new c m I
 ·rcases zB O with⟨_,z,_⟩ | ⟨_,z⟩
  ·cases z
  ·exact r.fresh j k b z g2
 ·rcases zB O with⟨_,z,_⟩ | ⟨_,z⟩
  ·cases z
  ·exact r.xr j d b p z g2 g3
open Classical in
noncomputable def Vd(H0 H:Hp)(L:List eh):Hp:=λc=>if c∈L then H c else H0 c
theorem XA(h:c∈L):Vd H0 H L c=H c:=by unfold Vd;rw[RY h]
theorem vJ(h:c∉L):Vd H0 H L c=H0 c:=by unfold Vd;rw[EQ h]
theorem Kz : ∀{C:List (List D)} {bs:List eh},bs.length=C.length->(∀(k:Nat) b row,bs[k]? = cq b->C[k]? = cq row->∃xs,G b=cq (.lst xs)/\el K G row xs)->el K G (C.map D.lst) (bs.map V.ref)
 | [],[],_,_=>el.nil
 | [],_::_,h,_=>by simp at h
 | _::_,[],h,_=>by simp at h
 | row::C,b::bs,h,f=>by obtain⟨xs,z,g2⟩:=f 0 b row rfl rfl;exact el.cons (yv (gB.of z) g2) (Kz (by simpa using h) λk c r a d=>f (k+1) c r (by simpa using a)<|by simpa using d)
theorem RS.TF(r:RS K E0 E H0 H σ γ)(e:γ[i]? = cq (.nest rows)) : ∃C,RS K E0 E C H σ (γ.set i<|.val<|.lst<|rows.map D.lst):=by
 obtain⟨a,bs,s,l,w⟩:=r.rc.o5.1 i rows e;obtain⟨F,G⟩:=r.xr i rows a _ e s l.ha;have ef : ∀b∈a::bs,E b=dn:=λb hb=>by
  rcases Il.mp hb with rfl | hb
  ·exact F
  ·exact G b<|IB.mpr ⟨b,hb,rfl⟩
 have m:gv H0 (Vd H0 H (a::bs)):=λc o q=>by rw[vJ (λh=>by rw[(l.at h).1]at q;cases q)];exact q
 have sub:gv (Vd H0 H (a::bs)) H:=λc o q=>by
  by_cases h:c∈a::bs
  ·rw[XA h]at q;exact q
  ·rw[vJ h]at q;exact r.rc.sub c o q
 have M:Rep K (Vd H0 H (a::bs)) (.lst<|rows.map D.lst) (.ref a):=yv (gB.of<|by rw[XA Iy];exact l.ha) (Kz l.len λk b row I g2=>by obtain⟨_,N,p,Y⟩:=l.row k b row I g2;exact⟨N,by rw[XA (Im _<|IY I)];exact p,Y.mono m⟩)
 have t : ∀{j:Nat} {O:List (List D)},(γ.set i<|.val<|.lst<|rows.map D.lst)[j]? ≠ cq (.nest O):=λ{j O} g=>by
  rcases zB g with⟨_,z,_⟩ | ⟨n,z⟩
  ·cases z
  ·exact n<|r.rc.o5.2 j i O rows z e
 have U : ∀{j:Nat} {f:List D},(γ.set i<|.val<|.lst<|rows.map D.lst)[j]? = cq (.own f)->γ[j]? = cq (.own f):=λ{j f} g=>by
  rcases zB g with⟨_,z,_⟩ | ⟨n,z⟩
  ·cases z
  ·exact z
 refine⟨_,⟨sub,by simp[r.rc.len],λj d g=>?_,λj f g=>?_,λj k c f J x y A B=>r.rc.ne j k c f J (U x) (U y) A B,ri.DU λj O=>t⟩,⟨r.ext.s0.trans m,r.ext.s1,sub,λc p Y=>?_⟩,λj f b I g2=>r.fresh j f b (U I) g2,λj O b u I=>absurd I t⟩
 ·rcases zB g with⟨rfl,z,P⟩ | ⟨n,z⟩
  ·cases z;exact⟨_,s,M⟩
  ·obtain⟨v,I,g2⟩:=r.rc.val j d z
   exact⟨v,I,g2.mono m⟩
 ·obtain⟨b,u,I,g2,g3,L⟩:=r.rc.own j f (U g)
  exact⟨b,u,I,by rw[vJ (w j f b (U g) I)];exact g2,g3,L.mono m⟩
 ·rw[vJ (λh=>Y<|ef c h)];exact r.ext.new c p Y
end
section
variable{X:Cx}{st:jn}{F:CO Fl}
theorem pk(i:Nat)(h:m6 X st F):m6 X st (FM i F):=kF h λD j H I=>by obtain⟨E0,E,e,g,O,U,z,Y⟩:=I;obtain⟨f,d,z⟩:=zb z;obtain⟨a,b⟩:=U.freeze<|yF d;exact⟨E0,E,a,_,O,b,z,Y⟩
theorem iF(i:Nat)(h:m6 X st F):m6 X st (ue i F):=kF h λD j H I=>by obtain⟨E0,E,f,g,O,U,z,Y⟩:=I;obtain⟨b,e,z⟩:=zb z;obtain⟨a,d⟩:=U.TF<|vP e;exact⟨E0,E,a,_,O,d,z,Y⟩
end
section
variable{X:Cx}{sc:hG}{N L:List Str}{k:Nat}
theorem iE(i:Nat)(h:SX X sc N L k)(c:yo sc N L i y=di)
 (Y:X.calm=di) (ok:t9 X scope fr) (S : ∀i∈T.idx,i<own.length) (hi:uf X tg iter src) (hg : ∀fp J C,PG (jw X scope (own++fr.map (·.1)) fp J C) tg<|s9 X.K T)
 (Z : ∀fp J C,PO (jw X scope (own++fr.map (·.1)) fp J C) elt f) (hs : ∀x,rn iter X.env x=pure x:=by intro _;rfl) :
 m6 X (.Assign [.Name y py] (.ListComp elt [⟨tg,iter,[],0⟩] scope cpos) spos) (ie i<|V2 src T own.length (fr.map (·.2)) f):=by
 obtain⟨p,r,s⟩:=h.loc c;refine kF (wc (te:=tO X.K f) h.G4 p r s Y ok hi hg (λ_ _ _=>Xt) Z hs) λD l H I=>?_;obtain⟨E0,E,e,j,w,U,z,m⟩:=I;obtain⟨d,o,z⟩:=zb z;by_cases O:j.any QI=d7
 ·rw[RY O]at z;cases z
  exact aX S (λl H Q I=>by obtain⟨e,j,b,rc,z,q⟩:=I;cases z;exact q H e<|Ext.refl rc.sub) l H _ ⟨e,j,d,U.rc,o,λa bs u g x t n=>m _ _ g<|U.Ua x t n O⟩
 ·rw[EQ O]at z;cases z
theorem cF(z:i≠j)(c:Cell)(r:List D):((((γ.set j c).set i .no).set j .no).set i (.own r))=yh γ j i r:=by
 unfold yh;apply Mc;intro m;simp only[Mz,List.length_set];by_cases a:i=m
 ·subst a;simp
 ·by_cases b:j=m
  ·subst b;simp[a]
  ·simp[a,b]
theorem Y3{γ:Ctx}{j i:Nat}(z:i≠j)(c I:Cell):(((γ.set j c).set i .no).set j I)=(γ.set j I).set i .no:=by rw[List.set_comm _ _ (IT z),List.set_set,List.set_comm _ _ z]
theorem J6(j i:Nat){x y:Str}{bn C br:gu}{Y e:eA}{g f:CO D}{p pos cd:gu}(hp:F4 (eP X.prog X.w) X.A X.env X.xe)(hc:X.calm=di)(h:SX X sc N L k)(cj:JI sc N j x=di)(ci:JI sc N i y=di)
 (hg:PG X (.Name y bn) (k8 i)) (hi:PV X Y g) (he:PV X e f)
 (ha : ∀v,xb (.Subscript (.Name y C) Y p) X.env v=(do
   let ov <- u5 [v] (eB (.Name y C) X.env);let iv <- u5 [v,ov] (eB Y X.env)
   DX p
   u5 [v,ov,iv] (R6 ov iv v)
   release [v,ov,iv] []):=by intro _;rfl)
 (hs:N9 [.Subscript (.Name y C) Y p] e pos.line X.env=pure d7:=by rfl) (hw:R9 [.Subscript (.Name y C) Y p] e X.env=pure dn:=by rfl)
 (h1:(B0 [.Subscript (.Name y C) Y p] X.env).map (·.2)=[xb (.Subscript (.Name y C) Y p) X.env]:=by rfl)
 (hf : ∀z,rn (.Name x br) X.env z=pure z:=by intro _;rfl) :
 m6 X (.For (.Name y bn) (.Name x br) [.Assign [.Subscript (.Name y C) Y p] e pos] [] cd) (ZH j i g f):=
 kF (nc hp hc (dc<|h.var cj) hg (Xq<|Wb he (ng (h.var ci) hi VU ha) hs hw h1) hf) λD B H hZ=>by
  obtain⟨E0,E,H0,o,fl,rs,u,bv⟩:=hZ;obtain⟨l,e1,u⟩:=zb u;have e1:=vP e1;by_cases ax:i=j\/o.length<=i
  ·rw[RY ax]at u;cases u
  rw[EQ ax]at u;have F:i≠j:=λz=>ax<|.inl z;have R:i<o.length:=by
   rcases IG i o.length with z | z
   ·exact z
   ·exact absurd (.inr z) ax
  have c0:j<o.length:=(Io.mp e1).1;obtain⟨b9,e2,u⟩:=zy u;subst u;obtain⟨a,bs,g1,hn,e5⟩:=rs.rc.o5.1 j l e1;refine⟨_,g1,a,.L,rfl,⟨_,gB.of hn.ha⟩,?_⟩;refine⟨λt m M H'=>m=l.length - t/\t<=l.length/\∃(r:Hp) (I xE:List (List DL.D)) (U:L2.St),I.length=t/\U[j]? = cq (cq (V.ref a))/\(∃v,M=U.set i v)/\H' a=cq (.lst<|bs.map V.ref)/\RS X.K E0 E r H' M ((o.set j<|.nest<|I++l.drop t).set i .no)/\xI j i g f o (l.drop t)=cq xE/\b9=I++xE,
   ⟨_,rfl,Lp _,H0,[],b9,B,rfl,g1,⟨B[i]?.getD dn,?_⟩,hn.ha,?_,e2,rfl⟩,?_⟩
  ·apply Mc
   intro m;rw[Mz];by_cases z:i=m
   ·subst z
    have:i<B.length:=by rw[rs.rc.len];exact R
    simp[this]
   ·simp[z]
  ·have:=rs.forget (i:=i) (v:=B[i]?.getD dn)
   have es:B.set i (B[i]?.getD dn)=B:=by
    apply Mc;intro m;rw[Mz];by_cases z:i=m
    ·subst z
     have:i<B.length:=by rw[rs.rc.len];exact R
     simp[this]
    ·simp[z]
   rw[es]at this;have ec:o.set j (.nest l)=o:=by
    apply Mc;intro m;rw[Mz];by_cases z:j=m
    ·subst z;rw[RY rfl,RY c0,e1]
    ·simp[z]
   simpa[ec]using this
  rintro t m M H' ⟨rfl,ht,r,I,xE,U,c2,S,⟨v0,rfl⟩,T,W,O,er⟩;have b0:((o.set j<|.nest<|I++l.drop t).set i .no)[j]? = cq (.nest<|I++l.drop t):=by rw[Ib F,Iz c0]
  obtain⟨a',s,q1,bb,cx⟩:=W.rc.o5.1 j _ b0;rw[Ib F,S]at q1;cases q1;have cy:s=bs:=by have:=bb.ha;rw[T]at this;injection this with this;injection this with this;exact(k5 this).symm
  subst cy;have cz:s.length=l.length:=by rw[bb.len];simp;omega
  by_cases c5:t<l.length
  ·have Q:s[t]? = cq (s[t]'⋯):=HX ⋯
   generalize s[t]'⋯=b at Q;have bd:l.drop t=l[t]::l.drop (t+1):=Mv c5;refine .inr ⟨⟨_,.ref b,gB.of T,by rw[Le,Q];rfl⟩,λP H2=>t+1<=l.length/\∃(r:Hp) (I xE:List (List DL.D)) (U:L2.St),I.length=t+1/\U[j]? = cq (cq (V.ref a))/\(∃v,P=U.set i v)/\H2 a=cq (.lst<|s.map V.ref)/\RS X.K E0 E r H2 P ((o.set j<|.nest<|I++l.drop (t+1)).set i .no)/\xI j i g f o (l.drop<|t+1)=cq xE/\b9=I++xE,λP H2 n=>⟨l.length - (t+1),by omega,rfl,n.1,n.2⟩,λxv H2 yl=>?_⟩;obtain⟨rfl,yl⟩:=yl;have d1:xv = .ref b:=by have:=yl _<|gB.of T;rw[Le,Q]at this;exact(IX this).symm
   subst d1;rw[bd]at O;simp only[xI]at O;obtain⟨d,f1,O⟩:=zb O;obtain⟨kk,f2,O⟩:=zb O;obtain⟨dk,f3,f2⟩:=zb f2;obtain⟨J,f4,O⟩:=zb O;obtain⟨d6,f5,O⟩:=zy O;have d8:(I++l.drop t)[t]? = cq l[t]:=by rw[bd,Lg ⋯,c2];simp
   have G:(U.set i v0).set i (cq (.ref b))=U.set i (cq (.ref b)):=List.set_set ..;have b7:=W.rc.row (i:=i) b0 (by rw[Ib F];exact S) bb cx Q d8 (by simp;exact R);rw[cF F,G]at b7;show ∃_,_;refine⟨r,yh o j i l[t],d,?_,f1,λv H3 d9 x3 r3=>?_⟩
   ·rw[G];exact b7
   have c6:=b7.ext x3;obtain⟨Z,xs,p1,p2,p3,p4⟩:=c6.own i l[t] (by unfold yh;rw[Iz (by simpa using R)]);have dg:Z=b:=by
    rw[Iz (by
     have:=b7.len;simp[yh]at this;rw[this];exact R)]at p1
    cases p1;rfl
   subst dg;refine⟨_,by rw[G];exact p1,d9,yh o j i l[t],dk,by rw[G];exact c6,f3,λv2 H4 dj x4 r4=>?_⟩;rw[jV f2]at r4;refine⟨Z,xs,kk,J,rfl,ju r4,x4.s1 _ _ p3,by rw[p4.length];exact Wy f4,?_⟩;have dl:=(W.step x3).step x4;have bl:=dl.forget (i:=i) (v:=cq (.ref Z));have dp:(((o.set j<|.nest<|I++l.drop t).set i .no).set i .no)=((o.set j<|.nest<|I++l.drop t).set i .no):=List.set_set ..;rw[dp,G]at bl;obtain⟨a2,dr,w1,bm,dt⟩:=bl.rc.o5.1 j _ b0;rw[Ib F,S]at w1;cases w1;have ca:H4 a=cq (.lst<|s.map V.ref):=x4.s1 _ _<|x3.s1 _ _ T;have dv:dr=s:=by have:=bm.ha;rw[ca]at this;injection this with this;injection this with this;exact(k5 this).symm
   subst dv;have cb:=bl.TY (t:=t) (row':=l[t].set J d) (ys:=xs.set J v) b0 (by rw[Ib F];exact S) bm dt Q<|(p4.mono x4.s0).set J (r3.mono x4.s0);have dy:a≠Z:=λq=>(LO.mp bm.nd).1 (by rw[q];exact IY Q);refine⟨c5,dj,I++[l[t].set J d],d6,U,by simp[c2],S,⟨cq (.ref Z),G⟩,by rw[zD dy];exact ca,?_,f5,by rw[er,<- O];simp⟩;rw[G];have eR:(I++l.drop t).set t (l[t].set J d)=(I++[l[t].set J d])++l.drop (t+1):=by rw[bd,List.set_append_right _ _ ⋯,show t - I.length=0 by omega,List.append_assoc];rfl
   rw[eR,Y3 F]at cb;exact cb
  ·have et:t=l.length:=by omega
   subst et;rw[NN]at O;cases O;rw[NN]at W;refine .inl ⟨⟨_,gB.of T,by simp[cz]⟩,?_⟩;rw[er]at bv;exact bv _ _ r W
end
end DL
namespace L2
open PySem PySem.Spec PyProof.Rows
noncomputable def CZ(K:HR):V->List V->Hp->VK->Prop:=λx d H Q=>∃z p b,x = .str z/\d=[.ref p]/\gB K H p (b.map V.str)/\Builtin.Str.tooLong (b.toArray.foldl (λa p=>a+p.length+z.length) 0)=d7/\Q (.str<|PK z b) H
theorem X9 : ∀{C:List Str} {us:List ej},fy (C.map V.str) us->∃l:List (Str×Tok),strValues l=us/\l.map (·.1)=C
 | [],us,r=>by cases r;exact⟨[],rfl,rfl⟩
 | z::C,u::us,.cons r t=>by obtain⟨I,rfl⟩:=r;obtain⟨l,rfl,h⟩:=X9 t;exact⟨(z,I)::l,rfl,by simp[h]⟩
theorem rh{X:Cx}:P1 X "str.join" (CZ X.K):=by intro a s u H x j v i Q I U d h;obtain⟨z,p,n,rfl,rfl,Y,O,q⟩:=h;obtain⟨t,rfl⟩:=U;obtain⟨m,rfl,rw⟩:=yn d;cases rw;obtain⟨f,r,pl,g⟩:=I.list Y;obtain⟨l,rfl,e⟩:=X9 r;subst e;refine Nt F.slot_str_join (Te _ _ _) F.entry_str_join (F.args_str_join_2 _ _) (meets_str_join_list z t p l O) ⟨pl.isList,post_join l ⟨joinFit_length O,λt' k=>?_⟩⟩;refine⟨.str (PK z (l.map (·.1))),H,(I.kept (h':=s.heap) (t':=k) λb o e=>e),⟨t',?_⟩,q⟩;show Pb (Builtin.Str.glued z (l.map (·.1))) t'=_;rw[StrLaws.glued_eq_join]
end L2
namespace DL
open PySem PySem.Spec PyProof.Rows L2
theorem Kl{K:HR}{H:Hp} : ∀{ds:List D} {xs:List V} {l:List Str},el K H ds xs->Km ds=cq l->xs=l.map V.str
 | [],xs,l,r,e=>by cases e;rw[show xs=[]from r];rfl
 | d::ds,xs,l,r,e=>by
  obtain⟨x,g,rfl,z,b⟩:=(show ∃x r,xs=x::r/\Rep K H d x/\el K H ds r from r);cases d with
  | str i=>
   obtain⟨f,a,rfl⟩:=zy (show(Km ds).map (λl=>i::l)=cq l from e);rw[Kl b a,show x = .str i from z];rfl
  | _=>cases e
section
variable{X:Cx}{sc:hG}{N L:List Str}{k:Nat}{o e a b:eA}{apos cpos pos p:gu}{f g:CO D}{q:CO (Sk×List D)}
theorem Xh(h:jM x=di):x.length<=1000:=of_decide_eq_true h
theorem J3(h:jM x=di):x.length<=gm:=Lr (Xh h) ⋯
theorem cL(Y:PV X o f)(Z:PQ X e q)(C:F6 o "join" X.env (eB o X.env)=eB o X.env:=by rfl)
 (J:((tw cpos<|starEach [e] X.env).all (λx=> !x.1) && (Ri cpos<|keywordEach [] X.env).all (λx=>x.1.isSome) && decide ([e].length+([]:List DI).length+(if ([]:List DI).isEmpty then 0 else 1)<30))=di:=by rfl)
 (S:(apos.endLine==cpos.line)=di:=by rfl) (U:f7 [e] X.env=[(d7,eB e X.env)]:=by rfl):PV X (.Call (.Attribute o "join" apos) [e] [] cpos) (ig f q):=
 qg (pL PySem.F.plainAttrs_str PySem.F.slot_str_join PySem.F.type_str_join rh Y (jl Z qo U) C J S U rfl) λσ H Q A=>by
  obtain⟨h,g,d,rc,z,K⟩:=A;obtain⟨k,n,z⟩:=zb z;obtain⟨⟨G,m⟩,p,z⟩:=zb z;cases k with
  | str O=>
   cases G with
   | L=>
    obtain⟨l,s,z⟩:=zb z;by_cases I:l.length<=lim/\l.all jM=di/\jM O=di
    ·rw[RY I]at z;cases z
     refine⟨h,g,_,rc,n,λv P b x r=>?_⟩;rw[show v = .str O from r];refine⟨rfl,b,g,.L,m,rc.ext x,p,λa xs i j N u R M=>?_⟩;have t:=Kl M s;subst t;refine⟨O,a,l,rfl,rfl,u,StrLaws.joinFits (B:=1000) (λy E=>Xh<|LK.mp I.2.1 y E) ?_,K _ i j (x.trans N) rfl⟩;have W:=I.1;have:lim=2500:=rfl;have w:=Xh I.2.2;have:l.length*O.length<=2500*1000:=Nat.mul_le_mul ⋯ w;omega
    ·rw[EQ I]at z;cases z
   | T=>cases z
  | _=>cases z
theorem iu(C:PV X a f)(U:PV X b g)(Y:JB b:=by intro _ _;rfl):PV X (.Subscript a b pos) (VY f g):=
 qg (iP AF C U Y) λJ H Q B=>by
  obtain⟨n,m,d,rc,I,q⟩:=B;obtain⟨s,u,I⟩:=zb I;obtain⟨i,h,I⟩:=zb I;obtain⟨t,w,h⟩:=zb h;cases s with
  | str z=>
   by_cases O:jM z=di
   ·have I:(if jM z=di then (l7 z.cps.toList.length i).bind λk=>z.cps.toList[k]?.map λc=>D.str ⟨#[c]⟩else dn)=cq d:=I
    rw[RY O]at I;obtain⟨j,y,I⟩:=zb I;obtain⟨c,A,rfl⟩:=zy I;refine⟨n,m,_,rc,u,λv F e x r=>⟨e,m,t,rc.ext x,w,λG o p E l=>?_⟩⟩;rw[jV h]at l;refine⟨z,i,c,r,ju l,J3 O,?_,q _ o p (x.trans E) rfl⟩;unfold Du;rw[Wy y];exact A
   ·have I:(if jM z=di then (l7 z.cps.toList.length i).bind λk=>z.cps.toList[k]?.map λc=>D.str ⟨#[c]⟩else dn)=cq d:=I
    rw[EQ O]at I;cases I
  | _=>cases I
theorem oZ(h:SX X sc N L k)(c:yp sc "len" = di)(z:X.mg "len" = dn)(C:PV X e f)(U:f7 [e] X.env=[(d7,eB e X.env)]:=by rfl):PV X (.Call (.Name "len" p) [e] [] pos) (ag f):=
 qg (kT Yq (h.gl c).1 z PySem.boot_len (jl C qo U) ⋯ ⋯ U rfl) λm H Q Y=>by
  obtain⟨g,l,d,rc,I,q⟩:=Y;obtain⟨i,j,I⟩:=zb I;cases i with
  | str z=>
   by_cases O:jM z=di
   ·have I:(if jM z=di then cq (D.int z.length)else dn)=cq d:=I
    rw[RY O]at I;cases I;refine⟨g,l,_,rc,j,λv b a x r=>⟨z,by rw[show v = .str z from r],J3 O,q _ b a x rfl⟩⟩
   ·have I:(if jM z=di then cq (D.int z.length)else dn)=cq d:=I
    rw[EQ O]at I;cases I
  | _=>cases I
end
section
variable{X:Cx}{sc:hG}{N L:List Str}{k:Nat}{b:eA}{f:CO D}
theorem uF(h:SX X sc N L k)(c:yp sc "min" = di)(z:X.mg "min" = dn)(C:PV X a f)(J:PV X b g)(Y:f7 [a,b] X.env=[(d7,eB a X.env),(d7,eB b X.env)]:=by rfl)(O:f7 [b] X.env=[(d7,eB b X.env)]:=by rfl) :
 PV X (.Call (.Name "min" p) [a,b] [] pos) (uc f g):=
 qg (kT (fU h.calm) (h.gl c).1 z PyProof.Rows.boot_min (jl C (jl J qo O)<|by rw[Y,O]) ⋯ ⋯ (by rw[Y,O]) (by rw[O];rfl)) λK H Q B=>by obtain⟨o,n,d,rc,I,q⟩:=B;obtain⟨i,l,I⟩:=zb I;obtain⟨u,y,l⟩:=zb l;obtain⟨j,U,I⟩:=zy I;obtain⟨w,A,U⟩:=zb U;subst I;refine⟨o,n,u,rc,y,λv F e x r=>⟨e,n,w,rc.ext x,A,λG s t E m=>⟨i,j,?_,q _ s t (x.trans E) rfl⟩⟩⟩;rw[jV l]at r;rw[jV U]at m;rw[ju r,ju m]
end
noncomputable def Ei(c:Xn)(C:Option eh)(H0:Hp):Prop:=match c.2 with
 | none=>C=dn
 | some i=>∃d,C=cq d/\H0 d=cq (.xd [(Hv c.1,.int i)])
noncomputable def S0(K:HR)(n:Nat)(G:List D->Option Xn):Sp:=λg H _ E=>∃b d c,gv b H/\el K b d g/\d.length=n/\G d=cq c/\
 ∀C e a f,FH K=di->c.1∈O9->sT K c.1=cq C->Ei c f a->Ext b H a e->E (.ref C) f e
section ap
variable(γ:Ctx)
@[simp] def Zp:=@z5.eq_1
@[simp] def Jy:=@jZ.eq_1
@[simp] def yH:=@jv.eq_1
@[simp] def qD:=@ze.eq_1
@[simp] def j9:=@zk.eq_1
@[simp] theorem yk(d):zA d γ=cq d:=rfl
@[simp] def vd:=@zC.eq_1
@[simp] def gL:=@sB.eq_1
@[simp] def FA:=@ui.eq_1
@[simp] def Yy:=@yZ.eq_1
@[simp] def XX:=@jP.eq_1
@[simp] def Gw:=@gF.eq_1
@[simp] def Hw:=@T9.eq_1
@[simp] def Gj:=@BB.eq_1
@[simp] def nO:=@mT.eq_1
@[simp] theorem xX:zJ γ=cq []:=rfl
@[simp] def qe:=@zc.eq_1
@[simp] def wH:=@xx.eq_1
@[simp] def Fj:=@kC.eq_1
@[simp] def Ff:=@ql.eq_1
@[simp] def Jx:=@qA.eq_1
@[simp] def Vx:=@wa.eq_1
@[simp] def Fd:=@Xk.eq_1
@[simp] def Gs:=@HI.eq_1
@[simp] def Fw:=@oS.eq_1
@[simp] def JV:=@lp.eq_1
@[simp] def Jw:=@jB.eq_1
@[simp] def Fb:=@vg.eq_1
@[simp] def Fs:=@GU.eq_1
@[simp] def vS:=@xy.eq_1
@[simp] def vp:=@zI.eq_1
@[simp] def mI:=@jC.eq_1
@[simp] def xi:=@zP.eq_1
@[simp] def yI:=@jh.eq_1
@[simp] def Bm:=@YN.eq_1
@[simp] def Bj:=@VW.eq_1
@[simp] def Yz:=@wZ.eq_1
@[simp] def qI:=@zL.eq_1
@[simp] theorem Gg:jg γ=cq di:=rfl
@[simp] def Fy:=@YO.eq_1
@[simp] def Fe:=@oR.eq_1
@[simp] def wR:=@ed.eq_1
@[simp] def Ck:=@ZG.eq_1
@[simp] theorem Gk:af γ=cq dn:=rfl
@[simp] def Hx:=@u9.eq_1
@[simp] def Gh:=@cp.eq_1
@[simp] def gd:=@ye.eq_1
@[simp] def Fn:=@p6.eq_1
@[simp] def Gm:=@HF.eq_1
@[simp] def q9:=@zQ.eq_1
@[simp] def Bn:=@cC.eq_1
@[simp] def Bk:=@oQ.eq_1
@[simp] def Br:=@oT.eq_1
@[simp] def Gv:=@sI.eq_1
@[simp] def gh:=@xC.eq_1
@[simp] def Fi:=@GP.eq_1
@[simp] def EX:=@oP.eq_1
theorem jo(F G):zM F G γ=(F γ).bind λz=>match z with
 | .next a=>G a
 | f=>cq f:=rfl
end ap
@[simp] theorem Ge(ds):jX (.tup ds)=cq (.T,ds):=rfl
@[simp] theorem nN(ds):jX (.lst ds)=cq (.L,ds):=rfl
@[simp] theorem zT(d):fR (cq (.val d))=cq d:=rfl
@[simp] theorem zY(d):vn (cq (.val d))=jX d:=rfl
@[simp] theorem Jq(d):vn (cq (.own d))=cq (.L,d):=rfl
@[simp] theorem Vq(d):q8 (cq (.own d))=cq d:=rfl
@[simp] theorem si(d):Vp (cq (.val d))=cq (.ret<|.val d):=rfl
@[simp] theorem sj(d):Vp (cq (.own d))=cq (.ret<|.own d):=rfl
@[simp] theorem QT(b):tr (.bl b)=cq b:=rfl
@[simp] theorem qz(b):nr (.int b)=cq b:=rfl
@[simp] theorem BG(d):oW (.val d)=d:=rfl
@[simp] theorem BH(d):oW (.own d) = .lst d:=rfl
@[simp] theorem iq(d):CU (.own d)=cq d:=rfl
@[simp] theorem Cc(i j):XN (.int i) (.int j)=cq (.int<|i - j):=rfl
@[simp] theorem mi(i j):qr (.int i) (.int j)=cq (.int<|i+j):=rfl
@[simp] theorem Cf(i j):xn (.int i) (.int j)=if 0<j then cq (.int<|i%j)else dn:=by show(if Bd i j=di then _ else _)=_;simp[Bd]
@[simp] theorem Cg(i j):QR (.int i) (.int j)=if 0<j/\j<1073741824 then cq (.int<|i/j)else dn:=by
 show(if Be i j=di then _ else _)=_;have e:(Be i j=di)=(0<j/\j<1073741824):=by unfold Be;rw[Ir,decide_eq_true_eq,decide_eq_true_eq];apply propext;constructor<;>intro h<;>exact⟨h.1,by omega⟩
 simp only[e]
@[simp] theorem Ce(i j):kK (.int i) (.int j)=if XW i j=di then cq (.int<|i*j)else dn:=rfl
@[simp] theorem Cd(i j):rY (.int i) (.int j)=if Bc i j=di then cq (.int<|i ^ j.toNat)else dn:=rfl
@[simp] theorem rZ(i j):B5 (.int i) (.int j)=cq (.bl<|decide<|i<j):=rfl
@[simp] theorem sd(i j):qq (.int i) (.int j)=cq (.bl<|decide<|i<=j):=rfl
@[simp] theorem EN(i j):DQ (.int i) (.int j)=cq (.bl<|decide<|j<i):=rfl
@[simp] theorem EO(i j):Sy (.int i) (.int j)=cq (.bl<|decide<|j<=i):=rfl
@[simp] theorem ER(i j):g8 (.int i) (.int j)=cq (.bl<|decide<|i=j):=by unfold g8;rw[RY ⟨rfl,rfl⟩];exact congrArg (λb=>cq (D.bl b)) (by rw[OL];simp[l0])
@[simp] theorem EM(i j):i0 (.int i) (.int j)=cq (.bl<|!decide (i=j)):=by unfold i0;rw[RY ⟨rfl,rfl⟩];exact congrArg (λb=>cq (D.bl !b)) (by rw[OL];simp[l0])
@[simp] theorem tX(i is d ds γ):qP (i::is) (d::ds) γ=qP is ds (γ.set i<|.val d):=rfl
@[simp] theorem tW(ds γ):qP [] ds γ=γ:=by cases ds<;>rfl
@[simp] theorem yV(i d γ):xp (.nm i) d γ=cq (γ.set i<|.val d):=rfl
@[simp] theorem Bh(i j a b γ):xp (.tp [i,j]) (.tup [a,b]) γ=cq ((γ.set i<|.val a).set j (.val b)):=rfl
@[simp] theorem Xi(γ:Ctx)(G:CO Fl):(cq (Fl.next γ)).bind (λz=>match z with
 | .next γ'=>G γ'
 | f=>cq f)=G γ:=rfl
theorem WQ(i j:Int)(C : -(2 ^ 64)<j)(I:j<2 ^ 64):XW i j=di:=by unfold XW;rw[LP];right;exact decide_eq_true ⋯
theorem vc(i j:Int)(C : -(2 ^ 64)<i)(I:i<2 ^ 64):XW i j=di:=by unfold XW;rw[LP];left;exact decide_eq_true ⋯
theorem QN(C : -(2 ^ 62)<i)(I:i<2 ^ 62):inR i=di:=by unfold inR;exact decide_eq_true ⋯
@[simp] theorem xA(n k:Nat):l7 n (k:Int)=if k<n then cq k else dn:=by
 unfold l7;by_cases h:k<n
 ·rw[RY ⟨Int.natCast_nonneg k,by omega⟩,RY h];simp
 ·rw[EQ ⋯,EQ ⋯,EQ h]
theorem jI:lim=2500:=rfl
@[simp] theorem Ca:0<=lim:=Lp _
@[simp] theorem BZ:1<=lim:=by decide
@[simp] theorem BY:2<=lim:=by decide
@[simp] theorem BX:3<=lim:=by decide
@[simp] theorem BW:4<=lim:=by decide
@[simp] theorem BV:5<=lim:=by decide
@[simp] theorem BU:6<=lim:=by decide
@[simp] theorem BS:7<=lim:=by decide
@[simp] theorem BQ:8<=lim:=by decide
@[simp] theorem BO:0<lim:=by decide
@[simp] theorem eO(h:n<=lim):inR (n:Int)=di:=QN ⋯ (by have:=jI;omega)
@[simp] theorem Uw(n:Nat):l7 (n+1) 0=cq 0:=xA (n+1) 0 ▸ rfl
@[simp] theorem Ux(n:Nat):l7 (n+2) 1=cq 1:=by have:=xA (n+2) 1;simpa using this
@[simp] theorem Uy(n:Nat):l7 (n+3) 2=cq 2:=by have:=xA (n+3) 2;simpa using this
theorem zu(r:α->D) : ∀(l:List α),(∀x∈l,zN T k f γ [g x]=cq [r x])->zN T k f γ (l.map g)=cq (l.map r)
 | [],_=>rfl
 | x::l,h=>by
  have a:=h x Iy;have i:=zu r l λy z=>h y<|Im _ z;simp only[IQ,zN]at a ⊢;cases e1:xp T (g x) γ with
  | none=>rw[e1]at a;simp at a
  | some d=>
   rw[e1]at a;simp only[Ia]at a ⊢;cases e2:k d with
   | none=>rw[e2]at a;simp at a
   | some b=>
    rw[e2]at a;simp only[Ia]at a ⊢;cases b with
    | false=>simp at a
    | true=>
     simp only[RY]at a ⊢;cases e3:f d with
     | none=>rw[e3]at a;simp at a
     | some e=>
      rw[e3]at a;simp at a;rw[i];simp[a]
theorem zw(C:xp T d γ=cq γ1)(I:k γ1=cq di)(z:f γ1=cq e):zN T k f γ [d]=cq [e]:=by simp[zN,C,I,z]
theorem jE(T F d ds γ):qH T F (d::ds) γ=(xp T d γ).bind λγ1=>(F γ1).bind λI=>match I with
 | .next z=>qH T F ds z
 | .cont z=>qH T F ds z
 | .brk z=>cq (.next z)
 | .ret r=>cq (.ret r):=rfl
theorem Yj(P:Nat->Ctx->Prop) : ∀(ds:List D) (k:Nat) (γ:Ctx),P k γ->(∀i d γ,ds[i]? = cq d->P (k+i) γ->∃γ',((xp T d γ).bind F=cq (.next γ')\/(xp T d γ).bind F=cq (.cont γ'))/\P (k+i+1) γ')->
 ∃γ',qH T F ds γ=cq (.next γ')/\P (k+ds.length) γ'
 | [],k,γ,h,_=>⟨γ,rfl,h⟩
 | d::ds,k,γ,h,step=>by
  obtain⟨a,e,g⟩:=step 0 d γ rfl h;obtain⟨γ',f,j⟩:=Yj P ds (k+1) a (by simpa using g) (λi b z l I=>by have:=step (i+1) b z (by simpa using l) (by rw[show k+(i+1)=k+1+i by omega];exact I);rw[show k+(i+1)+1=k+1+i+1 by omega]at this;exact this)
  refine⟨γ',?_,by rw[show k+(d::ds).length=k+1+ds.length by simp;omega];exact j⟩;rw[jE];cases eb:xp T d γ with
  | none=>rw[eb]at e;simp at e
  | some O=>
   rw[eb]at e;simp only[Ia]at e ⊢;rcases e with e | e<;>rw[e]<;>exact f
def zF(n:Nat)(f:Nat->Int):List D:=(HU n).map λi=>D.int<|f i
theorem zX(n f):zF n f=(HU n).map λi=>D.int (f i):=rfl
noncomputable def zW(h w:Nat)(f:RK):List D:=(HU h).map λi=>D.tup<|zF w<|f i
noncomputable def ja(h w:Nat)(f:RK):D:= .tup [.int h,.int w,.tup (zW h w f)]
@[simp] theorem WH(n f):(zF n f).length=n:=by simp[zF]
@[simp] theorem lX(h w f):(zW h w f).length=h:=by simp[zW]
@[simp] theorem EJ(f)(h:i<(zF n f).length):(zF n f)[i] = .int (f i):=by simp[zF]
theorem XI(f)(h:i<n):(zF n f)[i]? = cq (.int<|f i):=by simp[zF,h]
@[simp] theorem EK(f)(C:i<(zW h w f).length):(zW h w f)[i] = .tup (zF w<|f i):=by simp[zW]
theorem xJ(h : ∀i,i<n->f i=g i):zF n f=zF n g:=by unfold zF;apply Iu;intro i a;rw[h i (HW.mp a)]
theorem XJ(e : ∀i j,i<h->j<w->f i j=g i j):zW h w f=zW h w g:=by unfold zW;apply Iu;intro i a;rw[xJ λj z=>e i j (HW.mp a) z]
theorem Zf{h w:Nat}{f g:RK}(e : ∀i j,i<h->j<w->f i j=g i j):ja h w f=ja h w g:=by unfold ja;rw[XJ e]
theorem jS(n:Nat):vB 0 n=zF n λi=>(i:Int):=by simp[vB,zF]
theorem wV(n:Nat)(f g:Nat->Int):X4 (zF n f) (zF n g)=(HU n).map λi=>D.tup [.int (f i),.int (g i)]:=by unfold X4 zF;rw[Nm];simp
theorem gM(n w:Nat)(f g:RK):X4 (zW n w f) (zW n w g)=(HU n).map λi=>D.tup [.tup (zF w<|f i),.tup (zF w<|g i)]:=by unfold X4 zW;rw[Nm];simp
def zg(f:Nat->Int):Nat->Int
 | 0=>0
 | n+1=>zg f n+f n
theorem Zy : ∀(xs:List Int) (y:Int),bV (xs.map D.int++[.int y])=(bV<|xs.map D.int).map λs=>s+y
 | [],y=>by simp[bV]
 | x::xs,y=>by simp only[IQ,OD,bV];rw[Zy xs y];cases e:bV (xs.map D.int)<;>simp[Int.add_assoc]
theorem Zx(f:Nat->Int) : ∀n,bV (zF n f)=cq (zg f n)
 | 0=>rfl
 | n+1=>by
  have z:=Zx f n;have e : ∀m,zF m f=((HU m).map f).map D.int:=λm=>by simp[zF]
  rw[e]at z ⊢;rw[Mf,LD,LD,Pj,Pj,Zy,z];simp[zg]
noncomputable def xB:=jG 2<|qA<|zQ<|jv<|zL (zP<|zk 1) (.nm 0) 1 [0] jg (zC xn (ze 0)<|ze 1)
noncomputable def gA:=jG 3<|qA<|zI xB<|zc (ze 0)<|zc (jZ<|zL (zP<|z5<|ed (zk 1)<|zA<|.int 2) (.nm 0) 1 [2] jg (oQ<|jv<|zL (VW (ze 0)<|ze 1) (.tp [0,1]) 2 [] jg (zC kK (ze 0)<|ze 1))) zJ
noncomputable def qv:=jG 2<|zM (jB 1<|jZ<|zL (jh<|ed (zk 0)<|zA<|.int 1) (.nm 0) 1 [0] jg (zQ<|jv<|zL (zP<|z5<|ed (zk 1)<|zA<|.int 2) (.nm 0) 1 [0] jg (ed (zk 0)<|ze 1)))<|qA<|xx<|zc (ed (zk 0)<|zA<|.int 1)<|zc (ed (zk 0)<|zA<|.int 0)<|zc (zQ<|zk 1) zJ
noncomputable def qp:=jG 2<|zM (jB 1<|jZ<|zL (jh<|ze 0) (.nm 0) 1 [0] jg (zQ<|jv<|zL (jh<|ze 1) (.nm 0) 1 [0] jg (mT (sB<|zC g8 (ze 1)<|ze 0) (zA<|.int 1)<|zA<|.int 0)))<|qA<|xx<|zc (ze 0)<|zc (ze 0)<|zc (zQ<|zk 1) zJ
def js:=jG 1<|qA<|gF (p6 .int<|ze 0)<|BB<|p6 .bool<|ze 0
noncomputable def vW:=jG 3<|zM (wZ (YN (zA<|.int 1)<|ze 0) (.nm 2)<|lp (sB<|zC g8 (zC xn (zC kK (ze 1)<|ze 2)<|ze 0)<|zA<|.int 1) (Xk 2) ql) VZ
noncomputable def qF:=jG 5<|zM (jB 4<|ed (zk 1)<|ze 3)<|zM (lp (sB<|zC g8 (ze 4)<|zA<|.int 0) (Xk 1) ql)<|qA<|zI xB<|zc (ze 0)<|zc (jZ<|zL (VW (ze 1)<|ze 2) (.tp [0,1]) 2 [4] jg (zC XN (ze 0)<|zC kK (ze 2)<|ze 1)) zJ
noncomputable def xu:=jG 9<|zM (jB 3<|jZ<|zL (zP<|zk 2) (.nm 0) 1 [0] jg (zI xB<|zc (ze 1)<|zc (ze 0) zJ))<|zM (vg 4<|kC zJ)<|zM (wZ (jh<|ze 1) (.nm 5)<|zM (jB 6<|jZ<|zL (zP<|zk 3) (.nm 0) 1 [5] (sB<|zC i0 (ed (zk 0)<|ze 1)<|zA<|.int 0) (ze 0))<|zM (lp (jP<|oP<|zk 6) oS ql)<|zM (jB 7<|zI vW<|zc (ze 0)<|zc (ed (z5<|ed (zk 6)<|zA<|.int 0)<|ze 5) zJ)<|zM (jB 8<|zI xB<|zc (ze 0)<|zc (jZ<|zL (zP<|z5<|ed (zk 6)<|zA<|.int 0) (.nm 0) 1 [7] jg (zC kK (ze 1)<|ze 0)) zJ)<|zM (jB 3<|jZ<|zL (zP<|zk 3) (.nm 0) 1 [0,5,8] jg (zI qF<|zc (ze 1)<|zc (ze 0)<|zc (ze 3)<|zc (ze 2) zJ))<|vg 4<|YO (jv<|zL (zP<|zk 4) (.nm 0) 1 [0,5,8] jg (zI qF<|zc (ze 1)<|zc (ze 0)<|zc (ze 3)<|zc (ze 2) zJ))<|jv<|kC<|zc (ze 8) zJ)<|Xk 4
noncomputable def qG:=jG 2<|wa<|zL (zP<|zk 1) (.nm 0) 1 [0] (jP<|sB<|sI<|z5<|cp (ze 0) af<|u9<|ze 1) (cp (ze 0) (u9<|ze 1) af)
noncomputable def xO:=jG 5<|zM (jB 3<|jZ<|zL (VW (ed (z5<|zI qv<|zc (ze 1) zJ)<|zA<|.int 2)<|ed (z5<|zI qp<|zc (ed (zk 1)<|zA<|.int 1) zJ)<|zA<|.int 2) (.tp [0,1]) 2 [] jg (zC qr (ze 0)<|ze 1))<|zM (jB 4<|jZ<|zL (zP<|zk 2) (.nm 0) 1 [1] jg (zC qr (ze 0)<|zC kK (xx<|zc (zA<|.int 0) zJ)<|ed (zk 1)<|zA<|.int 1))<|wa<|jC qG<|zc (ed (zk 1)<|zA<|.int 0)<|zc (jZ<|jC xu<|zc (ze 0)<|zc (zC qr (ed (zk 1)<|zA<|.int 0)<|ed (zk 1)<|zA<|.int 1)<|zc (jZ<|YO (zk 3)<|zk 4) zJ) zJ
noncomputable def yX:=jG 2<|wa<|jC xO<|zc (ze 0)<|zc (ze 1)<|zc (jZ<|kC zJ) zJ
noncomputable def wz:=jG 2<|wa<|jC xu<|zc (ze 0)<|zc (ed (zk 1)<|zA<|.int 0)<|zc (ed (z5<|zI qv<|zc (ze 1) zJ)<|zA<|.int 2) zJ
section
variable(γ:Ctx)
@[simp] def Gu:=@HJ.eq_1
@[simp] def Fz:=@GX.eq_1
@[simp] def Cq:=@FO.eq_1
end
noncomputable def qE:=jG 1<|qA<|ed (jv<|zL (Kx<|ze 0) (.tp [0,1]) 2 [] (sB<|zC i0 (ze 1)<|zA<|.int 0) (ze 0))<|zA<|.int 0
noncomputable def yW:=jG 7<|zM (jB 3<|ed (zk 1)<|zA<|.int 1)<|zM (vg 4<|oR (jv<|kC<|zc (zA<|.int 0) zJ)<|ze 3)<|zM (wZ (zP<|z5<|jZ<|jC xu<|zc (ze 0)<|zc (zC qr (ze 3)<|zA<|.int 1)<|zc (jZ<|zL (VW (ed (zk 1)<|zA<|.int 2)<|ze 2) (.tp [0,1]) 2 [] jg (zC qr (ze 0)<|xx<|zc (ze 1) zJ)) zJ) (.nm 5)<|zM (jB 6<|zI qE<|zc (ze 5) zJ)<|zM (lp (sB<|zC g8 (ze 6)<|ze 3) (qA<|zA .fh) ql)<|ZG 4 (ze 6)<|ed (zk 5)<|ze 3)<|qA<|zQ<|zk 4
section
variable(γ:Ctx)
@[simp] def Fq:=@Kx.eq_1
@[simp] def Gp:=@HG.eq_1
@[simp] def Gq:=@HH.eq_1
@[simp] theorem Cr(F G a b c):yu F G a b c γ=(a γ).bind λx=>(b γ).bind λy=>((F x y).bind tr).bind λk=>if k=di then (c γ).bind λz=>G y z else cq (.bl d7):=rfl
@[simp] def EZ:=@cu.eq_1
end
noncomputable def xZ:=jG 5<|zM (jB 2<|ed (zk 1)<|zA<|.int 0)<|zM (lp (sB<|zC i0 (ed (zk 1)<|zA<|.int 1)<|ze 2) (qA<|zA .fh) ql)<|zM (jB 3<|ed (z5<|zI qp<|zc (ze 2) zJ)<|zA<|.int 2)<|zM (jB 4<|jZ<|jC xu<|zc (ze 0)<|zc (zC qr (ze 2)<|ze 2)<|zc (jZ<|zL (VW (ed (zk 1)<|zA<|.int 2)<|ze 3) (.tp [0,1]) 2 [] jg (zC qr (ze 0)<|ze 1)) zJ)<|zM (lp (sB<|zC i0 (jZ<|zL (zP<|zk 4) (.nm 0) 1 [2] jg (cp (ze 0) af<|u9<|ze 1))<|jZ<|cC<|zk 3) (qA<|zA .fh) ql)<|qA<|xx<|zc (ze 2)<|zc (ze 2)<|zc (zQ<|jv<|zL (zP<|zk 4) (.nm 0) 1 [2] jg (cp (ze 0) (u9<|ze 1) af)) zJ
section
variable(γ:Ctx)
@[simp] theorem Fc(i f):ie i f γ=(f γ).bind λC=>if γ.any QI=d7 then cq (.next<|γ.set i<|.nest C)else dn:=rfl
@[simp] def Cp:=@V2.eq_1
@[simp] def Bo:=@ZH.eq_1
@[simp] def Gr:=@FM.eq_1
@[simp] def Fp:=@ue.eq_1
@[simp] def Cj:=@FK.eq_1
end
@[simp] theorem my(r):Zk (cq (.nest r))=cq r:=rfl
section
variable(γ:Ctx)
@[simp] def mE:=@VY.eq_1
@[simp] def sy:=@ag.eq_1
@[simp] def Fv:=@GV.eq_1
@[simp] def sA:=@ig.eq_1
end
noncomputable def CQ(f:CO D):CO D:=λa=>(f a).map λd=> .bl (nz .list d || nz .tuple d)
def bh:=jG 1<|qA<|gF (p6 .int<|ze 0)<|BB<|p6 .bool<|ze 0
noncomputable def YA:=jG 2<|qA<|gF (zI bh<|zc (ze 1) zJ)<|yu qq B5 (zA<|.int 0) (ze 1)<|ze 0
def VC:=jG 2<|qA<|gF (CQ<|ze 0)<|zC g8 (ye<|zk 0)<|ze 1
noncomputable def CP(f:CO (Sk×List D))(l h:CO (Option Int)):CO (List D):=λb=>(f b).bind λa=>(l b).bind λlo=>(h b).bind λd=>match a.1 with
 | .L=>cq (Vm a.2 lo d)
 | .T=>dn
section
variable{X:Cx}{sc:hG}{N L:List Str}{k:Nat}{a e:eA}{es:List eA}{f:CO D}{g:CO (List D)}{pos p p2:gu}
theorem uS{lo J:Option eA}{C:CO (Sk×List D)}{U Y:CO (Option Int)}(S:PQ X a C)(hl:L2.PO X lo (tB X.K U))(Z:L2.PO X J (tB X.K Y)):PO X (.Subscript a (.Slice lo J dn p2) pos) (CP C U Y):=
 qg (Wf oO S hl Z) λE H Q o=>by
  obtain⟨g,e,A,rc,z,q⟩:=o;obtain⟨⟨p,es⟩,j,z⟩:=zb z;obtain⟨l,k,z⟩:=zb z;obtain⟨u,m,z⟩:=zb z;cases p with
  | T=>cases z
  | L=>
   cases z;refine⟨g,e,.L,es,rc,j,λb s t d x n B r=>⟨d,e,l,rc.ext x,k,λw h I=>⟨h,e,u,(rc.ext x).ext I,m,λy i x3=>?_⟩⟩⟩;have f:=x.trans<|I.trans x3;refine⟨b,s,rfl,(I.trans x3).s1.seq n,λpp O=>?_⟩;exact q pp _ _ i (f.trans<|Ext.hide x3.sub O _) (xW f.s1 O) (jf x3.sub O) zG<|V7 (r.mono (I.trans x3).s0) _ _
end
theorem yj(h:C9 X es n g):C8 X es g:=h.1
section
variable{K:HR}{E0 E H0 H:Hp}{σ:St}{γ:Ctx}
theorem el.dropLast : ∀{ds:List D} {xs:List V},el K H ds xs->el K H ds.dropLast xs.dropLast
 | [],xs,r=>by rw[r.su];exact el.nil
 | [d],xs,r=>by obtain⟨x,f,e,_,a⟩:=r.ow;rw[e,a.su];exact el.nil
 | d::d2::ds,xs,r=>by obtain⟨x,f,e,z,a⟩:=r.ow;obtain⟨I,O,b,_,_⟩:=a.ow;subst e b;exact el.cons z<|el.dropLast a
end
section
variable{X:Cx}{sc:hG}{N L:List Str}{k:Nat}{a b e:eA}{pos p p2:gu}{f g:CO D}
theorem ak{c:eA}{C:CO D}(J:PV X a C){O:CO (Sk×List D)}(Y:PQ X c O)(S:B1 .NotIn c=d7:=by with_unfolding_all rfl):nf X (.Compare a [.NotIn] [c] pos) (sB<|Xl C O):=
 KF (cQ KO J Y S) λP H Q A=>by
  obtain⟨h,g,d,rc,z,q⟩:=A;obtain⟨G,n,w⟩:=zb z;obtain⟨x,o,z⟩:=zb n;obtain⟨⟨f,m⟩,s,z⟩:=zb z;obtain⟨i,t,z⟩:=zb z;obtain⟨l,u,rfl⟩:=zy z;cases w;refine⟨h,g,x,rc,o,λU F j x1 I=>⟨j,g,f,m,rc.ext x1,s,λp N b k E e M r=>?_⟩⟩;rw[jV t]at I;have y:=Yb r u;subst y;have B:gB X.K b p (l.map V.int)\/gR X.K b p (l.map V.int):=by
   cases f with
   | L=>exact .inl e
   | T=>exact .inr e
  refine⟨p,_,rfl,B,by rw[show U = .int i from I];rfl,Yk l,?_⟩;rw[show U = .int i from I,eM];exact⟨_,rfl,q b k<|x1.trans E⟩
end
end DL
namespace L2
open PySem PySem.Spec PyProof.Rows
theorem Ey(z:Str):strIterType z = "str_ascii_iterator"\/strIterType z = "str_iterator":=by unfold strIterType;split<;>simp
theorem WG{X:Cx}{C:RW}{σ:St}{H:Hp}{s:eF}{E:RQ}{z it:eh}{i Y:Nat}{x:ej}{v:V}{g:f6}{J:List eA}{x1:Nat}{L:gu}{Q:Unit->eF->Prop}
 (I:Inv X C σ H s) (S : ∀b ∈ [z,it],wI X C H b) (Z:z<s.heap.objs.size) (hi:it<s.heap.objs.size) (a1:PY g z it ((i:Int)+1) x s.heap.objs.size)
 (a3:pa g s.heap.objs.size (.int i Y) x) (a5 : ∀b o,b≠z->b≠it->s.heap.get? b=cq o->g.get? b=cq o) (rx:RelV v x)
 (ac : ∀g2,vr g2 z it ((i+1:Nat):Int) x->MP z g g2->Inv X C σ (upd H s.heap.objs.size<|.tup [.int i,v]) {s with heap:=g2,toks:=Y+1}->H s.heap.objs.size=dn->
   (∀b ∈ [z,it],upd H s.heap.objs.size (.tup [.int i,v]) b=dn)->Q () {s with heap:=g2,toks:=Y+1}) :
 wpAny (eP X.prog X.w) X.A (M6 (.Tuple J x1 L) (.ref z)<|.ref s.heap.objs.size) Q E {s with heap:=g,toks:=Y+1}:=by
 refine Uq a1 λg2 ro a=>?_;have d:pa g2 s.heap.objs.size (.int i Y) x:=a.extBut _ _ (LY Z) a3;have h : ∀O u,O ∉ [z,it]->s.heap.get? O=cq u->g2.get? O=cq u:=λO u U e=>by simp only[Il,IH,or_false,not_or]at U;exact a.extBut _ _ U.1<|a5 O u U.1 U.2 e
 refine ac g2 (by have:=ro;rwa [show((i:Int)+1)=((i+1:Nat):Int)by omega]at this) a (I.O6 (fp:=[z,it]) h S (Ic _) ⟨by show 2<=gm;decide,[.int i Y,x],.cons ⟨_,rfl⟩<|.cons rx .nil,⟨_,d,rfl,_,rfl⟩⟩) I.fresh λO U=>?_;have f:O≠s.heap.objs.size:=by
  simp only[Il,IH,or_false]at U;rcases U with rfl | rfl
  ·exact IJ Z
  ·exact IJ hi
 rw[zD f];exact(S O U).1
noncomputable def FF(K:HR)(a:eh):It:=
 ⟨λi H=>∃b,gB K H a b/\i<b.length,
  λi H x d=>∃p u,x = .ref p/\H p=dn/\d=upd H p (.tup [.int i,u])/\(∀b,gB K H a b->b[i]? = cq u),
  λi H=>∃b,gB K H a b/\b.length=i⟩
theorem W2{P:i8}{w:hB}{K:HR}{elts:List eA}{x1:Nat}{tf:gu}{z it a:eh}(ac:z≠it) :
 Turn P w K (.Tuple elts x1 tf) (FF K a) [z,it] z (λi h=>(∃Y,vr h z it i Y)/\h.IsListIter it a i) where
 mem:=by simp
 obj:=λi h ⟨⟨Y,O⟩,h1⟩ y hy=>by
  simp only[Il,IH,or_false]at hy;rcases hy with rfl | rfl
  ·exact⟨_,O,λv q=>by cases q⟩
  ·obtain⟨o,e,c,d⟩:=h1
   exact⟨o,e,λv q=>by rw[d]at q;cases q⟩
 keep:=λi h h' ⟨⟨Y,O⟩,h1⟩ k=>⟨⟨Y,k z ⋯ _ O⟩,h1.at λo e=>k it ⋯ o e⟩
 item:=by
  rintro X rfl rfl rfl hc i pins s σ H E I hf ⟨⟨Y,O⟩,h1⟩ ⟨xs,a6,b9⟩;obtain⟨a7,a8,p1,z1⟩:=I.list a6;have hl:=p1.isList;have hx:xs[i]? = cq xs[i]:=HX b9;have l1:=a8.length;have ar:a≠it:=λe=>by obtain⟨o,e1,U,_⟩:=hl;obtain⟨o2,e2,c2,_⟩:=h1;rw[e,e2]at e1;cases e1;rw[c2]at U;exact absurd U ⋯
  have bd:z≠a:=λe=>by obtain⟨o,e1,U,_⟩:=hl;have b7:s.heap.get? z=cq _:=O;rw[e,e1]at b7;cases b7;exact absurd U ⋯
  have be:it<s.heap.objs.size:=by obtain⟨o2,e2,_⟩:=h1;exact Ip e2
  have Dr:=Draws.list (prog:=X.prog) (w:=X.w) (A:=X.A.in1) (show X.A.in1.handled=dn from I.ok.hd hc) it a ar a7.toArray;refine wpAny_pyNext_enum_itemD Dr O ⟨h1,hl⟩ (by simp;omega) ac (by simp;exact⟨ac,bd⟩) λx g tk hP a1 a2 a3 a4 a5=>⟨_,rfl,?_⟩;obtain⟨u1,bn,br⟩:=a8.get hx;obtain rfl:u1=x:=by have:=hP;simp[bn]at this;exact this
  refine WG I hf (Ip O) be a1 a3 a5 br λg2 b1 b2 I1 bx hn=>⟨.ref s.heap.objs.size,_,I1,rfl,⟨_,_,rfl,bx,rfl,λc8 c0=>by rw[I.RE c0 a6];exact hx⟩,⟨⟨_,b1⟩,a2.1.at λo e=>b2.extBut _ _ ac.symm e⟩,hn⟩
 done:=by
  rintro X rfl rfl rfl hc i pins s σ H E I hf ⟨⟨Y,O⟩,h1⟩ ⟨xs,a6,hi⟩;obtain⟨a7,a8,p1,z1⟩:=I.list a6;have hl:=p1.isList;have l1:=a8.length;have ar:a≠it:=λe=>by obtain⟨o,e1,U,_⟩:=hl;obtain⟨o2,e2,c2,_⟩:=h1;rw[e,e2]at e1;cases e1;rw[c2]at U;exact absurd U ⋯
  have Dr:=Draws.list (prog:=X.prog) (w:=X.w) (A:=X.A.in1) (show X.A.in1.handled=dn from I.ok.hd hc) it a ar a7.toArray;have en:a7.toArray.size=i:=by simp;omega
  rw[en]at Dr;refine wpAny_pyNext_enum_endD Dr O ⟨h1,hl⟩ λg hk=>⟨rfl,?_⟩;refine I.C1 (t':=s.toks) (fp:=[z,it]) (λb' u hb e=>?_) hf;simp only[Il,IH,or_false,not_or]at hb;exact hk b' u hb.2 e
 self:=λ_ _ _ _ _ st h=>kI st.1.choose_spec h
noncomputable def FE(z:Str):It:=
 ⟨λi _=>i<z.cps.size,λi H x a=>∃p c,x = .ref p/\H p=dn/\a=upd H p (.tup [.int i,.str ⟨#[c]⟩])/\z.cps[i]? = cq c,λi _=>i=z.cps.size⟩
theorem Ym{prog:i8}{w:hB}{A:m9}(z:A.handled=dn)(it:eh)(x:Str)(t:Tok) :
 Draws prog w A it [it] x.cps.size (λi v=>∃c u,x.cps[i]? = cq c/\v = .str ⟨#[c]⟩ u) (λi h=>h.IsStrIter it (strIterType x) x t i):=by
 rcases Ey x with q | q
 ·rw[q];exact Draws.strAscii z it x t
 ·rw[q];exact Draws.strWide z it x t
theorem W1{P:i8}{w:hB}{K:HR}{elts:List eA}{x1:Nat}{tf:gu}{z it:eh}(x:Str)(t:Tok)(Y:z≠it) :
 Turn P w K (.Tuple elts x1 tf) (FE x) [z,it] z (λi h=>(∃U,vr h z it i U)/\h.IsStrIter it (strIterType x) x t i) where
 mem:=by simp
 obj:=λi h ⟨⟨U,O⟩,h1⟩ y hy=>by
  simp only[Il,IH,or_false]at hy;rcases hy with rfl | rfl
  ·exact⟨_,O,λv q=>by cases q⟩
  ·obtain⟨o,e,c,d⟩:=h1
   exact⟨o,e,λv q=>by rw[d]at q;cases q⟩
 keep:=λi h h' ⟨⟨U,O⟩,h1⟩ k=>⟨⟨U,k z ⋯ _ O⟩,by obtain⟨o,e,r⟩:=h1;exact⟨o,k it ⋯ o e,r⟩⟩
 item:=by
  rintro X rfl rfl rfl hc i pins s σ H E I hf ⟨⟨U,O⟩,h1⟩ ac;have am:it<s.heap.objs.size:=by obtain⟨o2,e2,_⟩:=h1;exact Ip e2
  have Dr:=Ym (prog:=X.prog) (w:=X.w) (A:=X.A.in1) (show X.A.in1.handled=dn from I.ok.hd hc) it x t;refine wpAny_pyNext_enum_itemD Dr O h1 ac Y (by simp;exact Y) λu g tk hP a1 a2 a3 a4 a5=>⟨_,rfl,?_⟩;obtain⟨c,tu,b0,rfl⟩:=hP;refine WG (v:= .str ⟨#[c]⟩) I hf (Ip O) am a1 a3 a5 ⟨_,rfl⟩ λg2 b1 b2 I1 b8 hn=>⟨.ref s.heap.objs.size,_,I1,rfl,⟨_,_,rfl,b8,rfl,b0⟩,⟨⟨_,b1⟩,?_⟩,hn⟩;obtain⟨o,e,r⟩:=a2;exact⟨o,b2.extBut _ _ Y.symm e,r⟩
 done:=by rintro X rfl rfl rfl hc i pins s σ H E I hf ⟨⟨U,O⟩,h1⟩ hi;have hi:i=x.cps.size:=hi;subst hi;have Dr:=Ym (prog:=X.prog) (w:=X.w) (A:=X.A.in1) (show X.A.in1.handled=dn from I.ok.hd hc) it x t;refine wpAny_pyNext_enum_endD Dr O h1 λg hk=>⟨rfl,?_⟩;refine I.C1 (t':=s.toks) (fp:=[z,it]) (λb' u hb e=>?_) hf;simp only[Il,IH,or_false,not_or]at hb;exact hk b' u hb.2 e
 self:=λ_ _ _ _ _ st h=>kI st.1.choose_spec h
noncomputable def AJ(K:HR)(C:TA):TI:=λf H R=>C f H λd b=>∃a,d=[.ref a]/\(∃e,gB K b a e)/\R (FF K a) b
noncomputable def AI(C:TA):TI:=λd H R=>C d H λb a=>∃z,b=[.str z]/\R (FE z) a
section
variable{X:Cx}{e1:eA}{ta:TA}{p pos:gu}{elts:List eA}{x1:Nat}{tf:gu}
theorem iO(Y:Gl X "enumerate")(J:X.mg "enumerate" = dn)(C:PA X [e1] ta)
 (S:B3 "enumerate" = cq (.type "enumerate")) (L:f7 [e1] X.env=[(d7,eB e1 X.env)]:=by rfl) :
 PI X (.Tuple elts x1 tf) (.Call (.Name "enumerate" p) [e1] [] pos) (AJ X.K ta):=by
 intro b s n H R I h;refine DE<|kH I Y J S<|Ll (ft (C pos b s n H _ I h) λt d j=>?_) (by rw[L];rfl) rfl;obtain⟨u,e,z,m,l⟩:=j;obtain⟨a,rfl,⟨x,f⟩,q⟩:=l;obtain⟨w,rfl,i⟩:=yn m;cases i;obtain⟨o,r,k,y⟩:=z.list f;refine call_enumerate_list k.isList λg b1 b2 b3 b4=>kI (s:={d with heap:=g}) b1 ?_;refine⟨_,[d.heap.objs.size+1,d.heap.objs.size],_,_,e,rfl,z.kept (t':=d.toks) b4,W2<|LY<|LW _,⟨⟨_,b1⟩,b2⟩,λc O=>?_,q⟩;have U:d.heap.objs.size<=c:=by
  simp only[Il,IH,or_false]at O;rcases O with rfl | rfl
  ·exact IM _ _
  ·exact Ic _
 exact z.B6 U<|z.f9.fresh U
theorem iN(J:Gl X "enumerate")(L:X.mg "enumerate" = dn)(C:PA X [e1] ta)
 (Z:B3 "enumerate" = cq (.type "enumerate")) (S:f7 [e1] X.env=[(d7,eB e1 X.env)]:=by rfl) :
 PI X (.Tuple elts x1 tf) (.Call (.Name "enumerate" p) [e1] [] pos) (AI ta):=by
 intro a s k H R I h;refine DE<|kH I J L Z<|Ll (ft (C pos a s k H _ I h) λl b f=>?_) (by rw[S];rfl) rfl;obtain⟨m,d,O,j,i⟩:=f;obtain⟨z,rfl,q⟩:=i;obtain⟨n,rfl,e⟩:=yn j;obtain⟨t,rfl⟩:=e;refine call_enumerate_str λg b1 b2 b3 b4=>kI (s:={b with heap:=g}) b1 ?_;refine⟨_,[b.heap.objs.size+1,b.heap.objs.size],_,_,d,rfl,O.kept (t':=b.toks) b4,W1 z t<|LY<|LW _,⟨⟨_,b1⟩,b2⟩,λc U=>?_,q⟩;have Y:b.heap.objs.size<=c:=by
  simp only[Il,IH,or_false]at U;rcases U with rfl | rfl
  ·exact IM _ _
  ·exact Ic _
 exact O.B6 Y<|O.f9.fresh Y
end
end L2
namespace DL
open PySem PySem.Spec PyProof.Rows L2
theorem Ku(z:Str):(ke z).length=z.cps.size:=by simp[ke]
theorem ib(z:Str){i c:Nat}(h:z.cps[i]? = cq c):(ke z)[i]? = cq (.str ⟨#[c]⟩):=by simp[ke,h]
theorem WW{K:HR}{H0 C:Hp}(z:Str):Walk K H0 C (FE z) (qu<|ke z):=by
 have I:(qu<|ke z).length=z.cps.size:=by simp[qu,Ku]
 refine⟨λi b s a=>?_,λb s=>?_,λi b x e s a y=>?_⟩
 ·rw[I]at a;exact a
 ·rw[I];exact rfl
 ·obtain⟨p,c,rfl,O,rfl,U⟩:=y
  refine⟨.tup [.int i,.str ⟨#[c]⟩],?_,λd g f=>⟨upd d p<|.tup [.int i,.str ⟨#[c]⟩],Ext.alloc f O _,?_⟩⟩
  ·rw[I]at a
   unfold qu;rw[Le,NT (by rw[Ku];exact a),Iv,ib z U];rfl
  ·exact qY (gR.of zG)<|el.cons (show V.int i = .int i from rfl)<|el.cons (show V.str ⟨#[c]⟩ = .str ⟨#[c]⟩from rfl) el.nil
theorem WX{K:HR}{H0 C:Hp}{a:eh}{xs:List V}{ds:List D}(h:gB K C a xs)(r:el K H0 ds xs):Walk K H0 C (FF K a) (qu ds):=by
 have U:=r.length;have Y:(qu ds).length=ds.length:=by simp[qu]
 refine⟨λi b s k=>?_,λb s=>?_,λi b x g s k y=>?_⟩
 ·exact⟨xs,s.seq h,by omega⟩
 ·exact⟨xs,s.seq h,by omega⟩
 ·obtain⟨p,u,rfl,z,rfl,I⟩:=y
  obtain⟨d,j,O⟩:=r.B7<|I xs<|s.seq h;refine⟨.tup [.int i,d],?_,λf l e=>⟨upd f p<|.tup [.int i,u],Ext.alloc e z _,?_⟩⟩
  ·unfold qu
   rw[Le,NT ⋯,Iv,j];rfl
  ·exact qY (gR.of zG)<|el.cons (show V.int i = .int i from rfl)<|el.cons ((O.mono l).mono (z7 (jf e z) _)) el.nil
section
variable{X:Cx}{sc:hG}{N L:List Str}{k:Nat}{a b e:eA}{pos p p2:gu}{f fa fb:CO D}
theorem pF{C:List eA}{x1:Nat}{J:gu}(h:SX X sc N L k)(c:yp sc "enumerate" = di)(z:X.mg "enumerate" = dn)(S:PV X a f)(O:f7 [a] X.env=[(d7,eB a X.env)]:=by rfl) :
 ji X (.Tuple C x1 J) (.Call (.Name "enumerate" p) [a] [] pos) (V0 f):=
 JM (iN (h.gl c).1 z (jl S qo O) boot_enumerate O) λm H R Y=>by
  obtain⟨i,l,e,rc,I,q⟩:=Y;obtain⟨d,j,I⟩:=zb I;cases d with
  | str z=>
   by_cases U:jM z=di
   ·have I:(if jM z=di then cq (qu<|ke z)else dn)=cq e:=I
    rw[RY U]at I;cases I;exact⟨i,l,_,rc,j,λv g b x r=>⟨z,by rw[show v = .str z from r],q _ g b x<|WW z⟩⟩
   ·have I:(if jM z=di then cq (qu<|ke z)else dn)=cq e:=I
    rw[EQ U]at I;cases I
  | _=>cases I
theorem da(h:SX X sc N L k)(c:yp sc "enumerate" = di)(z:X.mg "enumerate" = dn)(C:PV X a f)(O:f7 [a] X.env=[(d7,eB a X.env)]:=by rfl) :
 ji X (.Tuple elts x1 tf) (.Call (.Name "enumerate" p) [a] [] pos) (V1 f):=
 JM (iO (h.gl c).1 z (jl C qo O) boot_enumerate O) λs H R Y=>by
  obtain⟨g,m,n,rc,I,q⟩:=Y;obtain⟨d,j,I⟩:=zb I;cases d with
  | lst o=>
   cases I;refine⟨g,m,_,rc,j,λv e b x r=>?_⟩;obtain⟨i,l,rfl,U,g2⟩:=dN r;exact⟨i,rfl,⟨l,x.sub.seq U⟩,q _ e b x<|WX U g2⟩
  | _=>cases I
end
end DL
namespace DL
open PySem L2 PyProof.Rows
open PySem.W (KasT kas_sort kas_asc kas_desc kas_tail3 kas_descPart kas_count kas_place kas_bin kas_rev)
noncomputable def Good{C:Type}(n:Nat)(P:C->Prop):KasT C->Prop
 | .ret a=>P a
 | .ask i j k=>i<n/\j<n/\∀b,Good n P<|k b
theorem Good.mono{C:Type}{n:Nat}{P z:C->Prop}(h : ∀a,P a->z a) : ∀{t:KasT C},Good n P t->Good n z t
 | .ret a,g=>h a g
 | .ask i j k,g=>⟨g.1,g.2.1,λb=>(g.2.2 b).mono h⟩
theorem Good.bind{C β:Type}{n:Nat}{P:C->Prop}{z:β->Prop}{f:C->KasT β}(I : ∀a,P a->Good n z (f a)) : ∀{t:KasT C},Good n P t->Good n z (t.bind f)
 | .ret a,g=>I a g
 | .ask i j k,g=>⟨g.1,g.2.1,λb=>(g.2.2 b).bind I⟩
theorem Good.run : ∀{t:KasT α},Good n P t->P (xD lt t)
 | .ret a,g=>g
 | .ask i j k,g=>(g.2.2 _).run
def Pm(n:Nat)(p:Array Nat):Prop:=p.toList.Perm<|HU n
theorem Pm.lt(h:Pm n p)(C:0<n)(i:Nat):p.getD i 0<n:=by
 by_cases a:i<p.size
 ·have e:p.getD i 0=p[i]:=by simp[Array.getD,a]
  rw[e];exact HW.mp<|h.mem_iff.mp ⋯
 ·have e:p.getD i 0=0:=by simp[Array.getD,a]
  rw[e];exact C
theorem Pm.rev(h:Pm n p)(i j:Nat):Pm n (kas_rev p i j):=(Array.perm_iff_toList_perm.mp<|mirror_perm p i j _).trans h
theorem Pm.Tt(h:Pm n p)(i j:Nat):Pm n (bubble p i j):=(Array.perm_iff_toList_perm.mp<|bubble_perm p i j).trans h
theorem XD(h:Pm n p)(C:0<n) : ∀f m,Good n (λ_=>True) (kas_asc p f m)
 | 0,m=>trivial
 | f+1,m=>⟨h.lt C _,h.lt C _,λb=>by
  cases b with
  | true=>exact trivial
  | false=>exact XD h C f<|m+1⟩
theorem vM(C:0<n) : ∀f p m q,Pm n p->Good n (λr=>Pm n r.1) (kas_desc f p m q)
 | 0,p,m,q,h=>h
 | f+1,p,m,q,h=>⟨h.lt C _,h.lt C _,λb=>by
  cases b with
  | true=>
   show Good n _ (if q>0 then _ else _);split
   ·exact vM C f _ _ _<|h.rev _ _
   ·exact vM C f _ _ _ h
  | false=>exact⟨h.lt C _,h.lt C _,λd=>by
   cases d with
   | true=>exact h
   | false=>exact vM C f _ _ _ h⟩⟩
theorem Ye{n:Nat}(C:0<n)(m r:Nat){p:Array Nat}(h:Pm n p):Good n (λr=>Pm n r.2) (kas_tail3 m r p):=by unfold kas_tail3;refine Good.bind (P:=λ_=>True) (λa _=>?_)<|XD (h.rev _ _) C _ _;exact(show Pm n (kas_rev p 0 m)from h.rev _ _)
theorem Yf{n:Nat}(C:0<n)(m r:Nat){p:Array Nat}(h:Pm n p):Good n (λr=>Pm n r.2) (kas_descPart m r p):=
 (vM C _ _ _ _ h).bind λa b=>by
   show Good n _ (if a.2.2>0 then _ else _);split
   ·exact Ye C _ _<|Pm.rev b _ _
   ·exact Ye C _ _ b
theorem aS{n:Nat}(C:0<n)(r:Nat){p:Array Nat}(h:Pm n p):Good n (λr=>Pm n r.2) (kas_count r p):=
 (XD h C _ _).bind λm _=>by
   show Good n _ (if (m==r)=di then _ else if m>1 then _ else _);split
   ·exact h
   ·split
    ·exact⟨h.lt C _,h.lt C _,λc=>by
      cases c with
      | true=>exact h
      | false=>exact Yf C _ _<|h.rev _ _⟩
    ·exact Yf C _ _ h
theorem wq(C:0<n)(h:Pm n p)(k:Nat) : ∀f l r,Good n (λ_=>True) (kas_place p k f l r)
 | 0,l,r=>trivial
 | f+1,l,r=>by
  show Good n _ (if l>=r then _ else _);split
  ·exact trivial
  ·exact⟨h.lt C _,h.lt C _,λc=>by
    cases c with
    | true=>exact wq C h k f _ _
    | false=>exact wq C h k f _ _⟩
theorem WA{n:Nat}(C:0<n) : ∀f p k,Pm n p->Good n (Pm n) (kas_bin f p k)
 | 0,p,k,h=>h
 | f+1,p,k,h=>(wq C h k k 0 k).bind λl _=>WA C f _ _<|h.Tt _ _
theorem Jg{n:Nat}(C:0<n):Good n (Pm n) (kas_sort n):=
 (aS C n<|show Pm n (ML<|HU n)from List.Perm.refl _).bind λr z=>by
   show Good n _ (if r.1<n then _ else _);split
   ·exact WA C _ _ _ z
   ·exact z
theorem jO(ps:List (Int×Int)):(j4 ps).Perm (HU ps.length):=by
 unfold j4;split
 ·exact List.Perm.refl _
 ·exact(Jg ⋯).run
theorem KM : ∀{ds:List D} {ps:List (Int×Int)},wC ds=cq ps->ps.length=ds.length
 | [],ps,h=>by cases h;rfl
 | d::ds,ps,h=>by
  unfold wC at h;cases e1:iT d with
  | none=>rw[e1]at h;cases h
  | some x=>
   cases e2:wC ds with
   | none=>rw[e1,e2]at h;cases h
   | some l=>rw[e1,e2]at h;cases h;simp[KM e2]
theorem jd(d:α) : ∀ds:List α,(HU ds.length).map (λi=>ds.getD i d)=ds:=λds=>by
 apply Mc;intro i;by_cases a:i<ds.length
 ·simp[a]
 ·simp[a,Nat.not_lt.mp a]
end DL
namespace DL
open PySem PySem.Spec PyProof.Rows L2
open PySem.W (KasT kas_sort kas_ask kat_run kat_snds kat_lt kat_cons kat_no kat_yes kat_nil kat_go kat_one kat_kind KatTups KatGo)
theorem Vf(z : ∀i j C,i<n->j<n->C (lt i j) s->cmp i j C s) :
 ∀{t:KasT α},Good n P t->Q (xD lt t) s->t.kasWp cmp Q s
 | .ret _,_,q=>q
 | .ask i j k,g,q=>z i j _ g.1 g.2.1<|Vf z (g.2.2 _) q
noncomputable def A9(h:f6)(v:ej)(k l:Int):Prop:=∃x o a m t u,v = .ref x/\h.get? x=cq o/\o.cls = .type "tuple"/\o.data = .seq a m/\a.toList=[.int k t,.int l u]
theorem A9.keep{h h':f6}{v:ej}{k l:Int}(a:A9 h v k l)(e : ∀b o,h.get? b=cq o->o.cls = .type "tuple"->h'.get? b=cq o):A9 h' v k l:=by obtain⟨x,o,g,m,t,u,d,f,z,I,O⟩:=a;exact⟨x,o,g,m,t,u,d,e x o f z,z,I,O⟩
theorem A9.one(a:A9 h v k l):Bu h v k:=by obtain⟨x,o,e,m,t,u,b,d,z,I,O⟩:=a;exact⟨x,o,e,m,t,b,d,z,I,by rw[<- Array.getElem?_toList,O];rfl⟩
section
variable{prog:i8}{w:hB}{A:m9}{E:RQ}{s:eF}
theorem ZV{a:eh}{vs:List ej}{ps:List (Int×Int)}{n:Nat}{P:PySem.Fin->eF->Prop}(L:s.heap.get? a=cq (g5 "list" vs.toArray n))(S:ps.length=vs.length)(ax:vs.length<64)
 (hT : ∀i (J:i<vs.length),A9 s.heap vs[i] (ps.getD i (0,0)).1 (ps.getD i (0,0)).2)
 (h:P (.done<|.ret .none) {s with heap:=sortedHeap s.heap a vs (ML<|(j4 ps).map λi=>vs.getD i IZ)}) :
 wpAny (eP prog w) A (o8.«list.sort» ⟨[.ref a],[]⟩) P E s:=by
 rw[list_sort_plain];have ha:a<s.heap.objs.size:=Ip L;have K:vs.length<=gm:=by rw[Na];omega
 refine HS (TV L rfl ?_);refine HS (NG L rfl ?_ (by rw[Ik];exact K) (Lp _));obtain⟨f,R⟩ : ∃f,(s.heap.update a (IW λ_=>#[])).get? a=cq (g5 "list" #[] f):=⟨_,OZ L (λ_=>#[])⟩;refine HS (Px R rfl ?_);refine HS (Oz ?_ (by show vs.length<=_;exact K));refine HS (PH ?_ (Lp _));refine Mp ?_;have d:(((s.heap.update a (IW λ_=>#[])).push (g5 "tuple" vs.toArray 0)).push (g5 "list" #[] 0)).get? a=cq (g5 "list" #[] f):=by rw[MV _ _ _ (by rw[PN,ME];exact IJ (Lo ha)),MV _ _ _ (by rw[ME];exact IJ ha)];exact R
 show wpAny (eP prog w) A _ P E {s with heap:=((s.heap.update a (IW λ_=>#[])).push (g5 "tuple" vs.toArray 0)).push (g5 "list" #[] 0)};dsimp only;have l:vs.toArray.size=vs.length:=by simp
 by_cases F:vs.toArray.size<2
 ·rw[RY F,RY F]
  refine HS<|Ie ?_;rw[StateT.run_pure];refine HS<|Ie ?_;dsimp only;refine HS<|Px d rfl ?_;have e7:Array.map (λx=>x.snd) (F5<|SortSt.mk' general' (vs.toArray.zip vs.toArray) #[] 7 dn)=vs.toArray:=by show Array.map (λx=>x.snd) (vs.toArray.zip vs.toArray)=_;apply Array.ext';simp[Array.toList_map,Array.toList_zip];rw[List.map_snd_zip (Ic _)]
  have ev:(j4 ps).map (λi=>vs.getD i IZ)=vs:=by unfold j4;rw[RY ⋯,S];exact jd _ _
  rw[ev]at h;refine HS (NG d rfl ?_ (Lp _) (by rw[e7,l];exact Oq K));simp only[bne_self_eq_false,LZ,if_false];have e8:({s with heap:=(((s.heap.update a (IW λx=>#[])).push (g5 "tuple" vs.toArray 0)).push (g5 "list" #[] 0)).update a (IW λx=>Array.map (λx=>x.snd) (F5 (SortSt.mk' general' (vs.toArray.zip vs.toArray) #[] 7 dn)))}:eF) = {s with heap:=sortedHeap s.heap a vs vs.toArray}:=by rw[e7];rfl
  refine Ie ?_;rw[<- e8]at h;exact h
 ·rw[EQ F,EQ F]
  have n2:2<=vs.length:=by rw[<- l];omega
  have keep : ∀b o,s.heap.get? b=cq o->o.cls = .type "tuple"->(((s.heap.update a (IW λ_=>#[])).push (g5 "tuple" vs.toArray 0)).push (g5 "list" #[] 0)).get? b=cq o:=λb o e hc=>by
   have bd:b≠a:=λz=>by rw[z,L]at e;cases e;exact absurd hc (by show ¬(Nw "list" = Nw "tuple");decide)
   exact HV _<|HV _<|(OX _ _ _ _ bd).trans e
  generalize hg:((s.heap.update a (IW λ_=>#[])).push (g5 "tuple" vs.toArray 0)).push (g5 "list" #[] 0)=g at d keep ⊢;have M : ∀i (J:i<vs.length),A9 g vs[i] (ps.getD i (0,0)).1 (ps.getD i (0,0)).2:=λi J=>(hT i J).keep keep;obtain⟨fs,f1,f2,f3⟩:=ez (ks:=λi=>(ps.getD i (0,0)).1) λi J=>(M i J).one;refine HS (kat_kind (T:=Nw "int") (s:={s with heap:=g}) f1 ⋯ (λv hv=>?_) ⋯ ?_)
  ·obtain⟨k,t,rfl⟩:=f3 v hv
   exact PySem.W.Looks.of_pure rfl
  have ep:(xD (λi j=>va (ps.getD i (0,0))<|ps.getD j (0,0))<|kas_sort vs.length).toList=j4 ps:=by unfold j4;rw[EQ ⋯,S]
  refine HS (Mq (kat_run (E:=E) (ks:=vs) (Q:=λB r=>∃p:Array Nat,F5 B=p.map (PySem.W.kas_item<|vs.toArray.zip vs.toArray)/\failedOf B=dn/\p.toList=j4 ps/\r = {s with heap:=g})
   (G:=λp r=>p.toList=j4 ps/\r = {s with heap:=g})
   rfl n2 ax (λp B r a1 a2 a3 N=>⟨p,a2,a3,N.1,N.2⟩) (Vf (lt:=λi j=>va (ps.getD i (0,0))<|ps.getD j (0,0)) (λi j C J hj I=>?_) (Jg ⋯) ⟨ep,rfl⟩)) ?_ λ_ _ e=>e)
  ·show wpAny _ _ (keyLt' _ (vs.getD i IZ)<|vs.getD j IZ) C _ _
   rw[show vs.getD i IZ=vs[i]by simp[J],show vs.getD j IZ=vs[j]by simp[hj]];obtain⟨x,ox,xs,m,t,u,f,e2,e3,e4,Z⟩:=M i J;obtain⟨y,oy,ys,m',t',u',d1,d2,d3,d4,X⟩:=M j hj;rw[f,d1];refine kat_lt e2 e4 d2 d4 ?_;have c2:xs.size=2:=by rw[<- LN,Z];rfl
   have c3:ys.size=2:=by rw[<- LN,X];rfl
   rw[Z,X,c2,c3,MI,MI];unfold va at I;generalize ps.getD i (0,0)=U at I ⊢;generalize ps.getD j (0,0)=Y at I ⊢;refine kat_cons<|Nc U.1 t Y.1 t' _ _ _ _ ?_;refine kat_go (λO=>?_) λO=>?_
   ·have O:U.1=Y.1:=by simpa using O
    rw[RY O]at I;refine kat_yes<|kat_cons<|Nc U.2 u Y.2 u' _ _ _ _<|kat_go (λH=>?_) λH=>?_
    ·have H:U.2=Y.2:=by simpa using H
     refine kat_yes<|kat_nil ?_;rw[show decide (U.2<Y.2)=d7 by rw[H];simp]at I;exact I
    ·exact kat_no<|kat_one _ _<|lt_int I
   ·have O:U.1≠Y.1:=by simpa using O
    rw[EQ O]at I;exact kat_no<|oneLt_int I
  rintro⟨⟨⟩,B⟩ r ⟨p,c4,hf,hp,rfl⟩;dsimp only;have c7:=kat_snds rfl c4;have c8:((j4 ps).map λi=>vs.getD i IZ).length=vs.length:=by rw[IE,(jO ps).length_eq,Ls,S]
  rw[c7,hp];refine HS<|Px d rfl ?_;refine HS<|NG d rfl ?_ (Lp _) (by rw[Ik];show((j4 ps).map λi=>vs.getD i IZ).length<=_;rw[c8];exact Oq K);rw[hf];simp only[bne_self_eq_false,LZ,if_false];subst hg;exact Ie h
theorem Kq{l:eh}{vs:List ej}{ps:List (Int×Int)}{Q:RQ}(U:s.heap.IsList l vs.toArray)(Y:ps.length=vs.length)(J:vs.length<64)
 (L : ∀i (C:i<vs.length),A9 s.heap vs[i] (ps.getD i (0,0)).1 (ps.getD i (0,0)).2)
 (h:Q (.ref<|s.heap.objs.size+1) {s with heap:=sortedAll s.heap vs (ML<|(j4 ps).map λi=>vs.getD i IZ)}) :
 wpAny (eP prog w) A (call (.builtin "sorted") [.ref l]) Q E s:=by
 have I:vs.length<=gm:=by rw[Na];omega
 refine Calls.call_function_entry kind_sorted plain_sorted entry_sorted (args_sorted1 _) ?_;unfold o8.«sorted»;refine HS (m:=checkCount "sorted" 1 1 _) (Ie ?_);refine HS (collect_list U ?_ I);refine HS (PH ?_ I);have a:((s.heap.push (g5 "list" #[] 0)).update s.heap.objs.size (IW (· ++ vs.toArray))).objs.size=s.heap.objs.size+1:=by rw[ME,PN]
 have O:(((s.heap.push (g5 "list" #[] 0)).update s.heap.objs.size (IW (· ++ vs.toArray))).push (g5 "list" vs.toArray 0)).get? (s.heap.objs.size+1)=cq (g5 "list" vs.toArray 0):=by rw[<- a];exact Iq _ rfl
 have keep : ∀b o,s.heap.get? b=cq o->(((s.heap.push (g5 "list" #[] 0)).update s.heap.objs.size (IW (· ++ vs.toArray))).push (g5 "list" vs.toArray 0)).get? b=cq o:=λb o q=>by have z:b<s.heap.objs.size:=Ip q;rw[MV _ _ _ (by rw[a];exact IJ (Lo z)),OX _ _ _ _ (IJ z),MV _ _ _ (IJ z)];exact q
 show wpAny _ _ _ _ _ {s with heap:=((s.heap.push (g5 "list" #[] 0)).update s.heap.objs.size (IW (· ++ vs.toArray))).push (g5 "list" vs.toArray 0)};rw[a];refine HS (Mp (LQ slot_list_sort ⟨_,O,rfl⟩ entry_list_sort (ZV (s:={s with heap:=((s.heap.push (g5 "list" #[] 0)).update s.heap.objs.size (IW (· ++ vs.toArray))).push (g5 "list" vs.toArray 0)}) O Y J (λi C=>(L i C).keep λb o e _=>keep b o e) ⟨_,rfl,?_⟩) (args_list_sort _)));exact Ie ⟨_,rfl,h⟩
end
section
variable{X:Cx}
noncomputable def uu(K:HR):List V->Hp->VK->Prop:=λe H Q=>∃l b d,e=[.ref l]/\gB K H l b/\d.length=b.length/\b.length<64/\
 (∀i (f:i<b.length),∃a,b[i]=V.ref a/\gR K H a [.int ((d:List (Int×Int)).getD i (0,0)).1,.int (d.getD i (0,0)).2])/\∀p,H p=dn->Q (.ref p) (upd H p<|.lst<|(j4 d).map λi=>b.getD i .fh)
theorem Yo:wU X (.builtin "sorted") (uu X.K):=by
 intro A s σ H vs us Q I rv h;obtain⟨l,f,ps,rfl,P,p,b7,G,B⟩:=h;obtain⟨u,rfl,ru⟩:=yn rv;cases ru;obtain⟨z,r,pl,S⟩:=I.list P;have b8:=r.length;refine Kq (ps:=ps) pl.isList ⋯ ⋯ (λi d=>?_) ?_
 ·obtain⟨a,E,F⟩:=G i ⋯
  obtain⟨v,O,g2⟩:=r.get (i:=i) (x:=V.ref a) (by rw[HX ⋯,E]);have R:z[i]=v:=by rw[HX d]at O;exact IX O
  rw[R];cases g2;obtain⟨C,Z,⟨o,N,J,n,L⟩,_⟩:=I.tuple F;obtain⟨U,Y,rfl,k,m⟩ : ∃U Y,C=U::Y/\RelV (.int (ps.getD i (0,0)).1) U/\fy [.int (ps.getD i (0,0)).2] Y:=by
   cases Z with
   | cons k m=>exact⟨_,_,rfl,k,m⟩
  obtain⟨v2,rfl,W⟩:=yn m;obtain⟨t,rfl⟩:=k;obtain⟨u,rfl⟩:=W;exact⟨a,o,_,n,t,u,rfl,N,J,L,rfl⟩
 ·obtain⟨e,y⟩:=sortedAll_at s.heap z (ML<|(j4 ps).map λi=>z.getD i IZ)
  have w:((j4 ps).map λi=>f.getD i V.fh).length=f.length:=by rw[IE,(jO ps).length_eq,Ls,p]
  refine⟨.ref<|s.heap.objs.size+1,_,I.laid (t':=s.toks) (o:= .lst ((j4 ps).map λi=>f.getD i .fh)) (λb o q=>sortedAll_old q) (NY _) ?_,rfl,B _<|I.f9.fresh<|NY _⟩;refine⟨by rw[w];exact S,(j4 ps).map λi=>z.getD i IZ,e,?_,y⟩;have g : ∀i∈j4 ps,i<f.length:=λi d=>by have:=(jO ps).mem_iff.mp d;rw[p]at this;exact HW.mp this
  generalize j4 ps=o at g;clear w y
  induction o with
  | nil=>exact .nil
  | cons i o T=>
   have d:=g i Iy;refine .cons ?_ (T λj M=>g j<|Im _ M);obtain⟨v,O,g2⟩:=r.get (i:=i) (x:=f[i])<|HX d;show RelV (f.getD i V.fh) (z.getD i IZ);rw[HY,HY,HX d,O];exact g2
theorem Wh : ∀{ds:List D} {ps:List (Int×Int)},wC ds=cq ps->∀(i:Nat) d,ds[i]? = cq d->d = .tup [.int (ps.getD i (0,0)).1,.int (ps.getD i (0,0)).2]
 | [],ps,h,i,d,hd=>by simp at hd
 | c::ds,ps,h,i,d,hd=>by
  obtain⟨k,a,h⟩:=zb h;obtain⟨l,b,h⟩:=zy h;subst h;cases i with
  | zero=>
   simp at hd;subst hd;unfold iT at a;split at a
   ·cases a;rfl
   ·cases a
  | succ i=>simpa using Wh b i d (by simpa using hd)
theorem ZK{K:HR}{H:Hp}{ds:List D}{xs:List V}(r:el K H ds xs) : ∀(o:List Nat),(∀i∈o,i<xs.length)->el K H (o.map λi=>ds.getD i .fh) (o.map λi=>xs.getD i .fh)
 | [],_=>el.nil
 | i::o,h=>by have a:=h i Iy;obtain⟨d,b,z⟩:=r.B7<|HX a;refine el.cons ?_ (ZK r o λj I=>h j<|Im _ I);show Rep K H (ds.getD i .fh) (xs.getD i .fh);rw[HY,HY,HX a,b];exact z
theorem Wc{J:hG}{N L:List Str}{k:Nat}{e:eA}{pos p:gu}{C:CO (Sk×List D)}(h:SX X J N L k)(c:yp J "sorted" = di)(z:X.mg "sorted" = dn)(Z:PQ X e C)(U:f7 [e] X.env=[(d7,eB e X.env)]:=by rfl) :
 PO X (.Call (.Name "sorted" p) [e] [] pos) (Kw C):=
 qg (kT Yo (h.gl c).1 z ⋯ (jl Z qo U) ⋯ ⋯ U rfl) λσ H Q R=>by
  obtain⟨t,γ,u,rc,I,q⟩:=R;obtain⟨⟨W,g⟩,w,I⟩:=zb I;cases W with
  | T=>cases I
  | L=>
   have I:bY g=cq u:=I;unfold bY at I;obtain⟨s,m,I⟩:=zb I;by_cases Y:g.length<64
   ·rw[RY Y]at I
    cases I;have ap:=KM m;refine⟨t,γ,.L,g,rc,w,λa xs H' f ext E h2 r=>?_⟩;have ar:=r.length;refine⟨a,xs,s,rfl,E,by omega,by omega,λi j=>?_,λl O=>?_⟩
    ·obtain⟨d,S,rd⟩:=r.B7 (HX j)
     have B:=Wh m i d S;subst B;obtain⟨b,zs,A,o,F⟩:=kO rd;refine⟨b,A,?_⟩;obtain⟨y,yr,x,G,K⟩:=F.ow;obtain⟨y2,b0,n,M,P⟩:=K.ow;rw[P.su]at n;rw[x,n,ju G,ju M]at o;exact mu ext.sub o
    ·refine q l _ _ f (ext.trans<|Ext.hide ext.sub O _) (xW ext.s1 O) (jf ext.sub O) zG ?_
     refine ZK r _ λi j=>?_;have:=(jO s).mem_iff.mp j;have:=HW.mp this;omega
   ·rw[EQ Y]at I;cases I
end
section
variable{X:Cx}{a b c:eA}{pos:gu}{fa fb fc:CO D}
theorem cP{U Y:E8}{r C:R2}{F G:D->D->Option D}(ho:i9 X (n4 U) r)(J:i9 X (n4 Y) C)(s1:n5 X.K r F)(s2:n5 X.K C G)(ha:PV X a fa)(hb:PV X b fb)(hc:PV X c fc)
 (hm:G3 [U,Y] [b,c]=d7:=by with_unfolding_all rfl):nf X (.Compare a [U,Y] [b,c] pos) (sB<|yu F G fa fb fc):=
 KF (iD ho J ha hb hc hm) λσ H Q hZ=>by
  obtain⟨i,h,kq,rc,A,q0⟩:=hZ;obtain⟨d,I,Z⟩:=zb A;have q : ∀v f e,Ext i H e f->Rep X.K e d v->∃k,v = .bl k/\Q k f:=λv f e x o=>by rw[k9 Z]at o;exact⟨kq,o,q0 f e x⟩
  obtain⟨x,N,I⟩:=zb I;obtain⟨y,P,I⟩:=zb I;obtain⟨k,R,I⟩:=zb I;obtain⟨l,S,m⟩:=zb R;refine⟨i,h,x,rc,N,λv1 H1 B x1 r1=>⟨B,h,y,rc.ext x1,P,λp s E O n=>s1 E s v1 p x y l _ O.sub (r1.mono O.s0) n S λv3 t j x3 r3=>?_⟩⟩;cases l with
  | bl k'=>
   cases m;refine⟨k,show v3 = .bl k from r3,?_⟩;cases k with
   | true=>
    rw[RY rfl];rw[RY rfl]at I;obtain⟨z,T,W⟩:=zb I;exact⟨j,h,z,((rc.ext x1).ext O).ext x3,T,λv4 u L g r4=>s2 L u p v4 y z d _ g.sub ((n.mono x3.s0).mono g.s0) r4 W λv5 w M x5 r5=>q v5 w M (((x1.trans O).trans x3).trans (g.trans x5)) r5⟩
   | false=>
    rw[EQ ⋯];rw[EQ ⋯]at I;cases I;exact q _ t j ((x1.trans O).trans x3) rfl
  | _=>cases m
end
end DL
namespace DL
open PySem PySem.Spec PyProof.Rows L2
theorem bA{H:Hp}{x:eh}{o C:HO}:upd (upd H x o) x C=upd H x C:=by
 funext b;by_cases h:b=x
 ·subst h;rw[zG,zG]
 ·rw[zD h,zD h,zD h]
theorem QL : ∀{ds:List D} {C:List Int},JT ds=cq C->K6 ds=cq (C.map Ml)
 | [],C,e=>by cases e;rfl
 | d::ds,C,e=>by
  cases d with
  | int i=>
   obtain⟨l,a,b⟩:=zy e;subst b;show((AD<|.int i).bind λk=>(K6 ds).map λr=>k::r)=_;rw[QL a];rfl
  | _=>cases e
theorem J5 : ∀(ps acc:List (Key×V)),((acc++ps).map (·.1)).Nodup->iz acc ps=acc++ps
 | [],acc,_=>by simp[iz]
 | (k,v)::ps,acc,h=>by
  have d : ¬((acc.any λz=>decide<|z.1=k)=di):=λq=>by obtain⟨z,a,b⟩:=PD.mp q;rw[LD,IQ]at h;have:=(List.nodup_append.mp h).2.2 z.1 (IB.mpr ⟨z,a,rfl⟩) k ⋯;exact this<|of_decide_eq_true b
  show iz (bj acc k v) ps=_;rw[show bj acc k v=acc++[(k,v)]by unfold bj;rw[EQ d]];rw[J5 ps (acc++[(k,v)]) (by simpa using h)];simp
theorem KW : ∀{C:List Int},C.Nodup->(C.map<|Ml (β:=Str)).Nodup
 | [],_=>by simp
 | n::C,h=>by simp only[IQ,LO,IB,Ml.injEq,exists_eq_right]at h ⊢;exact⟨h.1,KW h.2⟩
theorem XE{K:HR}{H:Hp}{i:Int} : ∀{ks vs:List D} {C:List Key} {xs:List V},K6 ks=cq C->C.length=xs.length->el K H vs xs->
 (∀d,WC ks vs i=cq d->∃v,VG (C.zip xs) (Ml i)=cq v/\Rep K H d v)/\(WC ks vs i=dn->VG (C.zip xs) (Ml i)=dn)
 | [],vs,C,xs,e,l,r=>by cases e;exact⟨(λd q=>by cases q),λ_=>rfl⟩
 | k::ks,[],C,xs,e,l,r=>by rw[r.su]at l ⊢;rw[List.length_eq_zero_iff.mp l];exact⟨(λd q=>by cases q),λ_=>rfl⟩
 | k::ks,v::vs,C,xs,e,l,r=>by
  obtain⟨I,a,f⟩:=zb e;obtain⟨O,g,h⟩:=zy f;subst h;obtain⟨x,U,rfl,n,o⟩:=r.ow;have Y:=XE (i:=i) g (by simpa using l) o;have step:I≠Ml i->VG ((I::O).zip (x::U)) (Ml i)=VG (O.zip U) (Ml i):=λb=>by rw[MI];simp[VG,MA,b]
  cases k with
  | int j=>
   cases a;by_cases z:j=i
   ·subst z
    refine⟨λd q=>⟨x,?_,?_⟩,λq=>?_⟩
    ·rw[MI];exact QZ rfl
    ·have:v=d:=by simpa[WC]using q
     exact this ▸ n
    ·simp[WC]at q
   ·have b:(Ml j:Key)≠Ml i:=λq=>z (Ml.inj q)
    rw[step b];have m:WC (.int j::ks) (v::vs) i=WC ks vs i:=by simp[WC,z]
    rw[m];exact Y
  | str y=>
   cases a;rw[step (λq=>by cases q)];exact Y
  | _=>cases a
noncomputable def vY(k:CO Bool)(F:CO Fl):Nat->CO Fl
 | 0,_=>dn
 | n+1,d=>(k d).bind λb=>if b=di then (F d).bind λz=>match z with
  | .next a=>vY k F n a
  | .cont a=>vY k F n a
  | .brk a=>cq (.next a)
  | .ret r=>cq (.ret r)
  else cq (.next d)
def VX(n:Nat)(k:CO Bool)(F:CO Fl):CO Fl:=λa=>vY k F n a
section
variable{X:Cx}{c:eA}{body:List jn}{pos:gu}{k:CO Bool}{F:CO Fl}
theorem cU(n:Nat)(S:F4 (eP X.prog X.w) X.A X.env X.xe)(L:nf X c k)(J:WT X body F):m6 X (.While c body [] pos) (VX n k F):=
 kF (iG S L J) λD t H G=>by
  obtain⟨E0,E,g,i,U,M,C,Y⟩:=G;refine⟨λm t H=>∃g i,RS X.K E0 E g H t i/\vY k F m i=cq U,⟨n,g,i,M,C⟩,λm l P N=>?_⟩;obtain⟨x,f,j,p⟩:=N;cases m with
  | zero=>cases p
  | succ m=>
   obtain⟨b,y,I⟩:=zb (show(k f).bind _=cq U from p);refine⟨x,f,b,j.rc,y,λu o s=>?_⟩;cases b with
   | true=>
    rw[RY rfl]at I ⊢;obtain⟨f1,B,O⟩:=zb I;refine⟨λd h=>∃g a,RS X.K E0 E g h d a/\vY k F m a=cq U,λd h z=>⟨m,LW m,z⟩,E0,E,o,f,f1,j.step s,B,?_⟩;cases f1 with
    | next a=>exact λd h e r=>⟨e,a,r,O⟩
    | cont a=>exact λd h e r=>⟨e,a,r,O⟩
    | brk a=>cases O;exact Y
    | ret r=>
     cases O;cases r<;>exact Y
   | false=>
    rw[EQ II]at I ⊢;cases I;exact Y l u o<|j.step s
end
noncomputable def ZI(F G J:D->D->Option D)(C L O S:CO D):CO D:=λa=>(C a).bind λx=>(L a).bind λy=>((F x y).bind tr).bind λb=>if b=di then (O a).bind λz=>((G y z).bind tr).bind λI=>if I=di then (S a).bind λw=>J z w else cq (.bl d7)else cq (.bl d7)
@[simp] theorem gi(F G J a b c d):ZI F G J a b c d γ=(a γ).bind λx=>(b γ).bind λy=>((F x y).bind tr).bind λk=>if k=di then (c γ).bind λz=>((G y z).bind tr).bind λI=>if I=di then (d γ).bind λw=>J z w else cq (.bl d7)else cq (.bl d7):=rfl
noncomputable def ot(r C Y:R2)(J L S Z:TE):TE:=λa H Q=>J a H λx d=>L a d λy e=>r x y e λz I=>∃k,z = .bl k/\
 (if k=di then S a I λb f=>C y b f λi O=>∃U,i = .bl U/\(if U=di then Z a O λh g=>Y b h g Q else Q (.bl d7) O)else Q (.bl d7) I)
section
variable{X:Cx}{a b c d:eA}{ta tb tc td:TE}{pos:gu}
theorem cR{O U Y:E8}{r J C:R2}(ho:i9 X (n4 O) r)(Z:i9 X (n4 U) J)(ap:i9 X (n4 Y) C)(ha:PE X a ta)(hb:PE X b tb)(hc:PE X c tc)(hd:PE X d td)
 (hm:G3 [O,U,Y] [b,c,d]=d7:=by with_unfolding_all rfl):PT X (.Compare a [O,U,Y] [b,c,d] pos) (oo<|ot r J C ta tb tc td):=by
 intro f s g H Q I h;refine isTrue_chain (ft (ha f s g H _ I h) λv s1 h1=>?_) hm;obtain⟨x,F,N,r1,q1⟩:=h1;refine test_link<|ft (hb f s1 g F _ N q1) λu s2 h2=>?_;obtain⟨y,G,P,w,q2⟩:=h2;refine ft (ho f s2 g G x y v u _ P r1 w q2) λdd s3 h3=>?_;obtain⟨z,l,n,r3,k,e,p⟩:=h3;subst e;cases r3;refine LH ?_;cases k with
 | false=>
  obtain⟨k',i,j⟩:=p;cases i;exact ite_ff ⟨l,n,j⟩
 | true=>
  refine ite_tt<|test_link<|ft (hc f s3 g l _ n p) λB s4 h4=>?_;obtain⟨E,K,R,A,q4⟩:=h4;refine ft (Z f s4 g K y E u B _ R w A q4) λd' s5 h5=>?_;obtain⟨z2,m,o,r5,k2,W,t⟩:=h5;subst W;cases r5;refine LH ?_;cases k2 with
  | false=>
   obtain⟨k',i,j⟩:=t;cases i;exact ite_ff ⟨m,o,j⟩
  | true=>
   refine ite_tt<|test_last<|ft (hd f s5 g m _ o t) λw3 s6 h6=>?_;obtain⟨z3,L,S,r6,q6⟩:=h6;refine ft (ap f s6 g L E z3 B w3 _ S A r6 q6) λd3 s7 h7=>?_;obtain⟨z4,M,T,r7,k4,e4,q7⟩:=h7;subst e4;cases r7;exact LH ⟨M,T,q7⟩
end
section
variable{X:Cx}{a b c d:eA}{pos:gu}{fa fb fc fd:CO D}
theorem ao{U Y C:E8}{r S L:R2}{F G J:D->D->Option D}(ho:i9 X (n4 U) r)(b0:i9 X (n4 Y) S)(b7:i9 X (n4 C) L)(s1:n5 X.K r F)(s2:n5 X.K S G)(s3:n5 X.K L J)(ha:PV X a fa)(hb:PV X b fb)(hc:PV X c fc)(hd:PV X d fd)
 (hm:G3 [U,Y,C] [b,c,d]=d7:=by with_unfolding_all rfl):nf X (.Compare a [U,Y,C] [b,c,d] pos) (sB<|ZI F G J fa fb fc fd):=
 KF (cR ho b0 b7 ha hb hc hd hm) λσ H Q hZ=>by
  obtain⟨m,g,kq,rc,bg,q0⟩:=hZ;obtain⟨p,I,e9⟩:=zb bg;have q : ∀v f e,Ext m H e f->Rep X.K e p v->∃k,v = .bl k/\Q k f:=λv f e x B=>by rw[k9 e9]at B;exact⟨kq,B,q0 f e x⟩
  obtain⟨x,e1,I⟩:=zb I;obtain⟨y,e2,I⟩:=zb I;obtain⟨k,e3,I⟩:=zb I;obtain⟨bb,e4,e5⟩:=zb e3;refine⟨m,g,x,rc,e1,λv1 H1 c1 x1 r1=>⟨c1,g,y,rc.ext x1,e2,λE P c3 O s=>s1 c3 P v1 E x y bb _ O.sub (r1.mono O.s0) s e4 λv3 R n x3 t=>?_⟩⟩;rw[k9 e5]at t;refine⟨k,show v3 = .bl k from t,?_⟩;cases k with
  | false=>
   rw[EQ ⋯];rw[EQ ⋯]at I;cases I;exact q _ R n ((x1.trans O).trans x3) rfl
  | true=>
   rw[RY rfl];rw[RY rfl]at I;obtain⟨z,e6,I⟩:=zb I;obtain⟨i,e7,I⟩:=zb I;obtain⟨b2,e8,c9⟩:=zb e7;refine⟨n,g,z,((rc.ext x1).ext O).ext x3,e6,λM T cb j u=>s2 cb T E M y z b2 _ j.sub ((s.mono x3.s0).mono j.s0) u e8 λv5 W o N A=>?_⟩;rw[k9 c9]at A;refine⟨i,show v5 = .bl i from A,?_⟩;have h:=((x1.trans O).trans x3).trans (j.trans N);cases i with
   | false=>
    rw[EQ ⋯];rw[EQ ⋯]at I;cases I;exact q _ W o h rfl
   | true=>
    rw[RY rfl];rw[RY rfl]at I;obtain⟨w,ch,ci⟩:=zb I;exact⟨o,g,w,rc.ext h,ch,λv6 Z cm l r6=>s3 cm Z M v6 z w p _ l.sub ((u.mono N.s0).mono l.s0) r6 ci λv7 H7 cs x7 r7=>q v7 H7 cs (h.trans<|l.trans x7) r7⟩
end
noncomputable def BC(f:CO D)(γ:Ctx):Option (List D):=((f γ).bind nr).bind λn=>if inR n=di/\n.toNat<=lim then cq (vB 0 n.toNat)else dn
@[simp] def sQ:=@BC.eq_1
end DL
namespace L2
open PySem PySem.Spec PyProof.Rows
theorem Xa(a b c:ej):checkTypeCall "zip" ⟨[a,b,c],[]⟩=pure ():=by kernel_rfl
theorem K2(a b c:ej):checkBuiltinCall "zip.__new__" ⟨[.type "zip",a,b,c],[]⟩=pure ():=by kernel_rfl
abbrev ka(h:f6)(T:eh)(a b c:ej):Prop:=h.get? T=cq {cls:= .type "tuple",data:= .seq #[a,b,c]}
structure L7(z TI TO i1 i2 i3 l1 l2 l3:eh):Prop where
 TIz:TI≠z
 TOz:TO≠z
 i1z:i1≠z
 i2z:i2≠z
 E2:i3≠z
 TITO:TI≠TO
 TIi1:TI≠i1
 TIi2:TI≠i2
 Tq:TI≠i3
 TOi1:TO≠i1
 TOi2:TO≠i2
 D4:TO≠i3
 i12:i1≠i2
 Ry:i1≠i3
 Rz:i2≠i3
 l1z:l1≠z
 l2z:l2≠z
 l2TO:l2≠TO
 l2i1:l2≠i1
 SM:l3≠z
 M4:l3≠TO
 SJ:l3≠i1
 SK:l3≠i2
section
variable{prog:i8}{w:hB}{A:m9}{E:RQ}{s:eF}
theorem Kb{T:eh}{a b c x:ej}{k:Nat}{Q:Unit->eF->Prop}(z:ka s.heap T a b c)
 (h : ∀h',h'.get? T=cq {cls:= .type "tuple",data:= .seq ((#[a,b,c]:Array ej).setIfInBounds k x)}->MP T s.heap h'->Q () {s with heap:=h'}) :
 wpAny (eP prog w) A (updateSeq T (·.setIfInBounds k x)) Q E s:=by
 have q:=NK (IW λ(t:Array ej)=>t.setIfInBounds k x) z rfl;exact wpAny_updateSeq z rfl<|h _ (by rw[q];simp[IW])<|Ox ..
theorem bp{k1 k2 k3:Sk}{z TI TO C J L S Z l3:eh}{n1 n2 n3:Nat}{xs ys zs:Array ej}{x y v a b c:ej}{Q:RQ}(D:L7 z TI TO C J L S Z l3)
 (Y:n9 s.heap z TI TO .none) (c8:ka s.heap TI (.ref C) (.ref J) (.ref L)) (c9:ka s.heap TO a b c)
 (h1:i5 k1 s.heap C S n1) (h2:i5 k2 s.heap J Z n2) (h3:i5 k3 s.heap L l3 n3) (cb:l8 k1 s.heap S xs) (cd:l8 k2 s.heap Z ys) (ce:l8 k3 s.heap l3 zs) (hx:xs[n1]? = cq x) (hy:ys[n2]? = cq y) (hv:zs[n3]? = cq v)
 (hQ : ∀h',n9 h' z TI TO (B8 s.heap.objs.size)->ka h' TO x y v->i5 k1 h' C S (n1+1)->i5 k2 h' J Z (n2+1)->i5 k3 h' L l3 (n3+1)->ka h' s.heap.objs.size x y v->h'.objs.size=s.heap.objs.size+1->
   (∀c o,c≠z->c≠TO->c≠C->c≠J->c≠L->s.heap.get? c=cq o->h'.get? c=cq o)->Q (.ref s.heap.objs.size) {s with heap:=h'}) :
 wpAny (eP prog w) A (o8.«zip.__next__» ⟨[.ref z],[]⟩) (λcl s'=>∃v,cl = .done (.ret v)/\Q v s') E s:=by
 refine HS (m:=field (.ref z) 2)<|Lc Y rfl (x:= .bool d7) rfl ?_;refine HS (m:=field (.ref z) 3)<|Lc Y rfl (x:= .ref TI) rfl ?_;refine HS<|LB c8 rfl ?_;refine HS (m:=IK<|.ref z) ?_;unfold IK;refine HS<|Lc Y rfl (x:= .none) rfl<|Ie ?_;simp only[if_true];refine HS<|Nr<|HS<|Lc Y rfl (x:= .ref TO) rfl ?_;refine HS<|Li Y ⋯ λg1 r d=>?_;replace r:n9 g1 z TI TO .ellipsis:=r;refine HS ?_;simp only[OB,OH,NU,Of];refine HS<|HS<|Mw ?_;refine HS (m:=Iw<|.ref C)<|qS (h1.at λo e=>d.extBut _ _ D.i1z e) (cb.at λo e=>d.extBut _ _ D.l1z e) hx λg2 co k=>Ie ?_;have T:ka g2 TO a b c:=k.extBut _ _ D.TOi1<|d.extBut _ _ D.TOz c9;refine HS<|LB T rfl<|HS<|Kb T λg3 t l=>?_;replace t:ka g3 TO x b c:=t;have a1 : ∀c o,c≠z->c≠C->c≠TO->s.heap.get? c=cq o->g3.get? c=cq o:=λc o O U h e=>l.extBut _ _ h<|k.extBut _ _ U<|d.extBut _ _ O e;refine HS<|MZ<|Ie<|HS<|HS<|Mw ?_;refine HS (m:=Iw<|.ref J)<|qS (h2.at λo e=>a1 _ o D.i2z D.i12.symm D.TOi2.symm e) (cd.at λo e=>a1 _ o D.l2z D.l2i1 D.l2TO e) hy λg4 cr u=>Ie ?_;have W:ka g4 TO x b c:=u.extBut _ _ D.TOi2 t;refine HS<|LB W rfl<|HS<|Kb W λR B F=>?_;replace B:ka R TO x y c:=B;have f : ∀c o,c≠J->c≠TO->g3.get? c=cq o->R.get? c=cq o:=λc o O U e=>F.extBut _ _ U<|u.extBut _ _ O e;refine HS<|MZ<|Ie<|HS<|HS<|Mw ?_;refine HS (m:=Iw<|.ref L)<|qS (h3.at λo e=>f _ o D.Rz.symm D.D4.symm<|a1 _ o D.E2 D.Ry.symm D.D4.symm e) (ce.at λo e=>f _ o D.SK D.M4<|a1 _ o D.SM D.SJ D.M4 e) hv λg6 cs G=>Ie ?_;have X:ka g6 TO x y c:=G.extBut _ _ D.D4 B;refine HS<|LB X rfl<|HS<|Kb X λI n H=>?_;replace n:ka I TO x y v:=n;have p : ∀c o,c≠L->c≠TO->R.get? c=cq o->I.get? c=cq o:=λc o O U e=>H.extBut _ _ U<|G.extBut _ _ O e;refine HS<|MZ<|Ie<|Ie<|HS<|LB n rfl<|HS<|Oz ?_;have i:I.objs.size=s.heap.objs.size:=by rw[H.1,G.1,F.1,u.1,l.1,k.1,d.1]
 have bx:n9 I z TI TO .ellipsis:=p _ _ D.E2.symm D.TOz.symm (f _ _ D.i2z.symm D.TOz.symm (l.extBut _ _ D.TOz.symm (k.extBut _ _ D.i1z.symm r)));have ct : ∀c o,c≠z->c≠TO->c≠C->c≠J->c≠L->s.heap.get? c=cq o->I.get? c=cq o:=λc o O U h N P e=>p c o P U (f c o N U (a1 c o O h U e));have cv:i5 k1 I C S (n1+1):=co.at λo e=>p _ o D.Ry D.TOi1.symm (f _ o D.i12 D.TOi1.symm (l.extBut _ _ D.TOi1.symm e));have cw:i5 k2 I J Z (n2+1):=cr.at λo e=>p _ o D.Rz D.TOi2.symm (F.extBut _ _ D.TOi2.symm e);have cx:i5 k3 I L l3 (n3+1):=cs.at λo e=>H.extBut _ _ D.D4.symm e;have c0:z<I.objs.size:=Ip bx;refine HS (m:=Ly (.ref z) (.ref I.objs.size)) ?_;unfold Ly;have cy:n9 (I.push {cls:= .type "tuple",data:= .seq #[x,y,v]}) z TI TO .ellipsis:=HV _ bx;refine HS (Li cy ⋯ λg9 K bl=>?_);replace K:n9 g9 z TI TO (B8 I.objs.size):=K;refine Li K ⋯ λg as M=>?_;replace as:n9 g z TI TO (B8 I.objs.size):=as;have j : ∀c o,c≠z->I.get? c=cq o->g.get? c=cq o:=λc o O e=>M.extBut _ _ O (bl.extBut _ _ O (HV _ e));have c6:ka g I.objs.size x y v:=M.extBut _ _ (LY c0) (bl.extBut _ _ (LY c0) (Iq _ rfl));have c7:g.objs.size=I.objs.size+1:=by rw[M.1,bl.1,IU]
 rw[i]at as c6 c7;refine Ie ⟨_,rfl,?_⟩;show Q (.ref I.objs.size) _;rw[i];exact hQ g as (j _ _ D.TOz n) (cv.at λo e=>j _ o D.i1z e) (cw.at λo e=>j _ o D.i2z e) (cx.at λo e=>j _ o D.E2 e) c6 c7 λc o O U h N P e=>j c o O<|ct c o O U h N P e
theorem gS{k1 k2 k3:Sk}{z TI TO C J L l1 l2 l3:eh}{n1 n2 n3:Nat}{xs ys zs:Array ej}{a b c:ej}{Q:Fin->eF->Prop}(Z:A.handled=dn)(D:L7 z TI TO C J L l1 l2 l3)
 (S:n9 s.heap z TI TO .none) (bm:ka s.heap TI (.ref C) (.ref J) (.ref L)) (bn:ka s.heap TO a b c)
 (h1:i5 k1 s.heap C l1 n1) (h2:i5 k2 s.heap J l2 n2) (h3:i5 k3 s.heap L l3 n3) (bb:l8 k1 s.heap l1 xs) (bd:l8 k2 s.heap l2 ys) (bv:l8 k3 s.heap l3 zs) (bx:xs[n1]? = dn\/ys[n2]? = dn\/zs[n3]? = dn)
 (hE : ∀h' e,(∀c o,c≠z->c≠TO->c≠C->c≠J->c≠L->s.heap.get? c=cq o->h'.get? c=cq o)->(∃o,h'.get? e=cq o/\o.cls = .type "StopIteration")->E (.ref e) {s with heap:=h'}) :
 wpAny (eP prog w) A (o8.«zip.__next__» ⟨[.ref z],[]⟩) Q E s:=by
 refine HS (m:=field (.ref z) 2) (Lc S rfl (x:= .bool d7) rfl ?_);refine HS (m:=field (.ref z) 3) (Lc S rfl (x:= .ref TI) rfl ?_);refine HS (LB bm rfl ?_);refine HS (m:=IK (.ref z)) ?_;unfold IK;refine HS (Lc S rfl (x:= .none) rfl (Ie ?_));simp only[if_true];refine HS (Nr (HS (Lc S rfl (x:= .ref TO) rfl ?_)));refine HS (Li S ⋯ λg1 r f=>?_);replace r:n9 g1 z TI TO .ellipsis:=r;refine HS ?_;simp only[OB,OH,NU,Of];refine HS (HS (Mw ?_));have t : ∀{g e:_} {i:ni},n9 g z TI TO .ellipsis->(∀c o,c≠z->c≠TO->c≠C->c≠J->c≠L->s.heap.get? c=cq o->g.get? c=cq o)->g.get? e=cq i->i.cls = .type "StopIteration"->
  wpAny (eP prog w) A (setField (.ref z) 0 .none) (λ_ T=>E (.ref e) T) E {s with heap:=g}:=λ{g e i} ro hk U d=>by
  have M:e≠z:=λq=>by subst q;rw[ro]at U;cases U;simp at d
  exact Li ro ⋯ λg3 _ k=>hE g3 e (λc o I O Y n B q=>k.extBut _ _ I<|hk c o I O Y n B q) ⟨i,k.extBut _ _ M U,d⟩
 cases hx:xs[n1]? with
 | none=>
  refine HS (m:=Iw<|.ref C)<|yS Z (h1.at λo e=>f.extBut _ _ D.i1z e) (bb.at λo e=>f.extBut _ _ D.l1z e) hx λg2 e j p=>?_;obtain⟨i,U,d⟩:=p;exact t (j _ _ D.i1z.symm r) (λc o I _ Y _ _ q=>j _ _ Y<|f.extBut _ _ I q) U d
 | some x=>
  refine HS (m:=Iw<|.ref C)<|qS (h1.at λo e=>f.extBut _ _ D.i1z e) (bb.at λo e=>f.extBut _ _ D.l1z e) hx λg2 W j=>Ie ?_;have F:ka g2 TO a b c:=j.extBut _ _ D.TOi1<|f.extBut _ _ D.TOz bn;refine HS<|LB F rfl<|HS<|Kb F λg3 u k=>?_;replace u:ka g3 TO x b c:=u;have a1 : ∀c o,c≠z->c≠C->c≠TO->s.heap.get? c=cq o->g3.get? c=cq o:=λc o I O Y e=>k.extBut _ _ Y<|j.extBut _ _ O<|f.extBut _ _ I e;have G:n9 g3 z TI TO .ellipsis:=k.extBut _ _ D.TOz.symm<|j.extBut _ _ D.i1z.symm r;refine HS<|MZ<|Ie<|HS<|HS<|Mw ?_;cases hy:ys[n2]? with
  | none=>
   refine HS (m:=Iw<|.ref J)<|yS Z (h2.at λo e=>a1 _ o D.i2z D.i12.symm D.TOi2.symm e) (bd.at λo e=>a1 _ o D.l2z D.l2i1 D.l2TO e) hy λK e l p=>?_;obtain⟨i,U,d⟩:=p;exact t (l _ _ D.i2z.symm G) (λc o I O Y n _ q=>l _ _ n<|a1 c o I Y O q) U d
  | some y=>
   have R:zs[n3]? = dn:=by
    rcases bx with h | h | h
    ·rw[hx]at h;cases h
    ·rw[hy]at h;cases h
    ·exact h
   refine HS (m:=Iw<|.ref J)<|qS (h2.at λo e=>a1 _ o D.i2z D.i12.symm D.TOi2.symm e) (bd.at λo e=>a1 _ o D.l2z D.l2i1 D.l2TO e) hy λK X l=>Ie ?_;have H:ka K TO x b c:=l.extBut _ _ D.TOi2 u;refine HS<|LB H rfl<|HS<|Kb H λP ch N=>?_;have an : ∀c o,c≠J->c≠TO->g3.get? c=cq o->P.get? c=cq o:=λc o I O e=>N.extBut _ _ O<|l.extBut _ _ I e;refine HS<|MZ<|Ie<|HS<|HS<|Mw ?_;refine HS (m:=Iw<|.ref L)<|yS Z (h3.at λo e=>an _ o D.Rz.symm D.D4.symm<|a1 _ o D.E2 D.Ry.symm D.D4.symm e) (bv.at λo e=>an _ o D.SK D.M4<|a1 _ o D.SM D.SJ D.M4 e) R λg6 e bl p=>?_;obtain⟨i,U,d⟩:=p;exact t (bl _ _ D.E2.symm<|an _ _ D.i2z.symm D.TOz.symm G) (λc o I O Y n B q=>bl _ _ B<|an c o n O<|a1 c o I Y O q) U d
end
noncomputable def W6(a b c:ej):ni:={cls:= .type "tuple",data:= .seq #[a,b,c]}
noncomputable def yt(z I O:Sk)(h:f6)(C J L:eh):f6:=
 IA (IA (IA (IA (IA (IA h<|hL z C)<|hL I J)<|hL O L)<|W6 (.ref h.objs.size) (.ref<|h.objs.size+1)<|.ref<|h.objs.size+2)<|W6 .none .none .none) (sG (h.objs.size+3)<|h.objs.size+4)
theorem gQ(z I O:Sk)(C J L:eh)(xs ys S:Array ej) :
 D1 (o8.«zip.__new__» ⟨[.type "zip",.ref C,.ref J,.ref L],[]⟩) (λ_ R s=>l8 z s.heap C xs/\l8 I s.heap J ys/\l8 O s.heap L S/\
  R (.ok<|.ret<|.ref<|s.heap.objs.size+5) {s with heap:=yt z I O s.heap C J L}):=
 .of_wp λa w A R s h=>by
  obtain⟨U,g,d,Y,os⟩:=s;obtain⟨b,f,i,h⟩:=h;have m:=sub_zip;have j:l8 z (F2 ⟨U,g,d,Y,os⟩) C xs:=b;have k:l8 I (F2 ⟨U.push<|hL z C,g,d,Y,os⟩) J ys:=f.at λo e=>HV _ e;have l:l8 O (F2 ⟨(U.push<|hL z C).push (hL I J),g,d,Y,os⟩) L S:=i.at λo e=>HV _<|HV _ e
  wp_walk using wF j,wF k,wF l
  refine⟨_,rfl,?_⟩;simp only[yt,W6,sG,IU]at h ⊢;exact h
theorem eJ(a b c d:ej):argsOk "object.__init__" ⟨[a,b,c,d],[]⟩:=by
 unfold argsOk;have e:=signature?_of (id:="object.__init__") (n:=['_','_','t','i','n','i','_','_']) (o:=['t','c','e','j','b','o']) (by kernel_rfl) F.owner_object;rw[e]
 kernel_rfl
noncomputable def FD(z I O:Sk)(K:HR)(a b c:eh):It:=
 ⟨λi H=>∃d e f,kr z K H a d/\kr I K H b e/\kr O K H c f/\i<d.length/\i<e.length/\i<f.length,
  λi H x g=>∃p u v t,x = .ref p/\H p=dn/\g=upd H p (.tup [u,v,t])/\(∀d,kr z K H a d->d[i]? = cq u)/\(∀e,kr I K H b e->e[i]? = cq v)/\(∀f,kr O K H c f->f[i]? = cq t),
  λi H=>∃d e f,kr z K H a d/\kr I K H b e/\kr O K H c f/\(d.length<=i\/e.length<=i\/f.length<=i)⟩
theorem bD{P:i8}{w:hB}{K:HR}{elts:List eA}{x1:Nat}{tf:gu}(k1 k2 k3:Sk){z TI TO i1 i2 i3 a b c:eh}(D:L7 z TI TO i1 i2 i3 a b c) :
 Turn P w K (.Tuple elts x1 tf) (FD k1 k2 k3 K a b c) [z,TI,TO,i1,i2,i3] z (λi h=>n9 h z TI TO .none/\ka h TI (.ref i1) (.ref i2) (.ref i3)/\(∃c d e,ka h TO c d e)/\i5 k1 h i1 a i/\i5 k2 h i2 b i/\i5 k3 h i3 c i) where
 mem:=by simp
 obj:=λi h b8 y hy=>by
  obtain⟨U,a0,⟨c,d,e,a8⟩,h1,h2,h3⟩:=b8;simp only[Il,IH,or_false]at hy;rcases hy with rfl | rfl | rfl | rfl | rfl | rfl
  ·exact⟨_,U,λv q=>by cases q⟩
  ·exact⟨_,a0,λv q=>by cases q⟩
  ·exact⟨_,a8,λv q=>by cases q⟩
  ·exact h1.obj
  ·exact h2.obj
  ·exact h3.obj
 keep:=λi h h' b8 k=>by obtain⟨U,a0,⟨c,d,e,a8⟩,h1,h2,h3⟩:=b8;exact⟨k z ⋯ _ U,k TI ⋯ _ a0,⟨c,d,e,k TO ⋯ _ a8⟩,h1.at λo e=>k i1 ⋯ o e,h2.at λo e=>k i2 ⋯ o e,h3.at λo e=>k i3 ⋯ o e⟩
 item:=by
  rintro X hP hw hK hc i pins s σ H E I hf ⟨U,a0,⟨c,d,e,a8⟩,h1,h2,h3⟩ ⟨xs,ys,zs,ax,b0,b7,c0,c1,c2⟩;subst hP hw hK;obtain⟨c3,bd,p1,z1⟩:=I.sq ax;obtain⟨c5,bf,p2,z2⟩:=I.sq b0;obtain⟨c7,bg,p3,z3⟩:=I.sq b7;have hx:xs[i]? = cq xs[i]:=HX c0;have hy:ys[i]? = cq ys[i]:=HX c1;have hv:zs[i]? = cq zs[i]:=HX c2;obtain⟨u1,c9,ca⟩:=bd.get hx;obtain⟨u2,cb,cd⟩:=bf.get hy;obtain⟨u3,ce,ch⟩:=bg.get hv;have hT:s.TypeIs (.ref z) "zip":=⟨_,U,rfl⟩;unfold Dz;refine HS (ND (LA (name:=Ld "__next__") hT MB (LQ MB hT OK
   (bp D U a0 a8 h1 h2 h3 p1 p2 p3 (x:=u1) (y:=u2) (v:=u3) (by simpa using c9) (by simpa using cb) (by simpa using ce) λg a1 a2 a3 a4 a9 a5 a6 a7=>Ie ⟨_,rfl,?_⟩) (OF _))))
  refine wpAny_letOwnedTupleGo_zip a1 λg2 ro am=>?_;have lt : ∀{c o},s.heap.get? c=cq o->s.heap.objs.size≠c:=λe=>LY<|Ip e;have cr:ka g2 s.heap.objs.size u1 u2 u3:=am.extBut _ _ (lt U) a5;have kk : ∀Y u,Y ∉ [z,TI,TO,i1,i2,i3]->s.heap.get? Y=cq u->g2.get? Y=cq u:=λY u O e=>by simp only[Il,IH,or_false,not_or]at O;exact am.extBut _ _ O.1<|a7 Y u O.1 O.2.2.1 O.2.2.2.1 O.2.2.2.2.1 O.2.2.2.2.2 e
  have I1:Inv X pins σ (upd H s.heap.objs.size<|.tup [xs[i],ys[i],zs[i]]) {s with heap:=g2,toks:=s.toks}:=
   I.O6 (fp:=[z,TI,TO,i1,i2,i3]) kk hf (Ic _) ⟨by show 3<=gm;decide,[u1,u2,u3],.cons ca<|.cons cd<|.cons ch .nil,⟨_,cr,rfl,_,rfl⟩⟩
  have ct:H s.heap.objs.size=dn:=I.fresh;refine⟨.ref s.heap.objs.size,_,I1,rfl,⟨_,_,_,_,rfl,ct,rfl,λd1 ar=>by rw[I.E5 ar ax];exact hx,λd2 ar=>by rw[I.E5 ar b0];exact hy,λd3 ar=>by rw[I.E5 ar b7];exact hv⟩,?_,λY O=>?_⟩
  ·exact⟨ro,am.extBut _ _ D.TIz<|a7 _ _ D.TIz D.TITO D.TIi1 D.TIi2 D.Tq a0,⟨_,_,_,am.extBut _ _ D.TOz a2⟩,a3.at λo e=>am.extBut _ _ D.i1z e,a4.at λo e=>am.extBut _ _ D.i2z e,a9.at λo e=>am.extBut _ _ D.E2 e⟩
  ·have cv:Y≠s.heap.objs.size:=by
    simp only[Il,IH,or_false]at O;rcases O with rfl | rfl | rfl | rfl | rfl | rfl
    ·exact(lt U).symm
    ·exact(lt a0).symm
    ·exact(lt a8).symm
    ·obtain⟨o,e,_⟩:=h1.obj;exact(lt e).symm
    ·obtain⟨o,e,_⟩:=h2.obj;exact(lt e).symm
    ·obtain⟨o,e,_⟩:=h3.obj;exact(lt e).symm
   rw[zD cv];exact(hf Y O).1
 done:=by
  rintro X hP hw hK hc i pins s σ H E I hf ⟨U,a0,⟨c,d,e,a8⟩,h1,h2,h3⟩ ⟨xs,ys,zs,ax,b0,b7,hi⟩;subst hP hw hK;obtain⟨c3,bd,p1,z1⟩:=I.sq ax;obtain⟨c5,bf,p2,z2⟩:=I.sq b0;obtain⟨c7,bg,p3,z3⟩:=I.sq b7;have hT:s.TypeIs (.ref z) "zip":=⟨_,U,rfl⟩;have l1:=bd.length;have l2:=bf.length;have l3:=bg.length;unfold Dz;refine HS (ND (LA (name:=Ld "__next__") hT MB (LQ MB hT OK
   (gS (show X.A.handled=dn from I.ok.hd hc) D U a0 a8 h1 h2 h3 p1 p2 p3 (by
     rcases hi with q | q | q
     ·left;simp;omega
     ·right;left;simp;omega
     ·right;right;simp;omega) λg e hk he=>?_) (OF _))))
  obtain⟨o,ho,cz⟩:=he;refine HS (PR (T:="StopIteration") (b:=di) ⟨o,ho,cz⟩ isSubtype_stop (Ie ⟨rfl,?_⟩));refine I.C1 (t':=s.toks) (fp:=[z,TI,TO,i1,i2,i3]) (λY u O e=>?_) hf;simp only[Il,IH,or_false,not_or]at O;exact hk Y u O.1 O.2.2.1 O.2.2.2.1 O.2.2.2.2.1 O.2.2.2.2.2 e
 self:=λ_ _ _ _ _ st h=>OR st.1 h
theorem Cw{x y z:V}{us:List ej}(r:fy [x,y,z] us) : ∃u C t,us=[u,C,t]/\RelV x u/\RelV y C/\RelV z t:=by
 cases r with
 | cons I a=>
  cases a with
  | cons O U=>
   cases U with
   | cons Y b=>cases b;exact⟨_,_,_,rfl,I,O,Y⟩
noncomputable def EA(K:HR)(C:TA):TI:=λi H R=>C i H λe d=>∃z I O a b c,e=[.ref a,.ref b,.ref c]/\(∃f,kr z K d a f)/\(∃g,kr I K d b g)/\(∃h,kr O K d c h)/\R (FD z I O K a b c) d
theorem pG{X:Cx}{S C Y:eA}{ta:TA}{p pos:gu}{J:List eA}{x1:Nat}{L:gu}(hg:Gl X "zip")(hm:X.mg "zip" = dn)(ha:PA X [S,C,Y] ta)
 (hv:B3 "zip" = cq (.type "zip")) (hs:f7 [S,C,Y] X.env=[(d7,eB S X.env),(d7,eB C X.env),(d7,eB Y X.env)]:=by rfl) (Z:f7 [C,Y] X.env=[(d7,eB C X.env),(d7,eB Y X.env)]:=by rfl) :
 PI X (.Tuple J x1 L) (.Call (.Name "zip" p) [S,C,Y] [] pos) (EA X.K ta):=by
 intro g s P H R I h;refine DE (kH I hg hm hv<|Ll (ft (ha pos g s P H _ I h) λus d hZ=>?_) (by rw[hs,Z])<|by rw[Z];rfl);obtain⟨vs,t,i,r1,q1⟩:=hZ;obtain⟨z,O,U,a,b,c,e,⟨xs,T⟩,⟨ys,W⟩,⟨zs,bd⟩,q⟩:=q1;subst e;obtain⟨w1,w2,w3,eu,bf,bg,bi⟩:=Cw r1;subst eu;cases bf;cases bg;cases bi;obtain⟨bl,c6,y,z1⟩:=i.sq T;obtain⟨bm,c8,A,z2⟩:=i.sq W;obtain⟨bn,ca,B,z3⟩:=i.sq bd;have la:=y.lt;have lb:=A.lt;have lc:=B.lt;refine callType_new F.called_zip ⋯ (Xa _ _ _) (K2 _ _ _) (λobj=>eJ obj _ _ _) F.entry_zip_new (gQ z O U a b c bl.toArray bm.toArray bn.toArray) ⟨y,A,B,?_⟩;have ps : ∀(h:f6) (o:ni) (c:eh) (u:ni),h.get? c=cq u->(h.push o).get? c=cq u:=λh o c u e=>HV _ e;have keep : ∀j o,d.heap.get? j=cq o->(yt z O U d.heap a b c).get? j=cq o:=λj o e=>ps _ _ _ _<|ps _ _ _ _<|ps _ _ _ _<|ps _ _ _ _<|ps _ _ _ _<|ps _ _ _ _ e;have E:(IA d.heap<|hL z a).objs.size=d.heap.objs.size+1:=IU ..;have G:(IA (IA d.heap<|hL z a)<|hL O b).objs.size=d.heap.objs.size+2:=by rw[IU,E]
 have M:(IA (IA (IA d.heap<|hL z a)<|hL O b)<|hL U c).objs.size=d.heap.objs.size+3:=by rw[IU,G]
 have N:(IA (IA (IA (IA d.heap<|hL z a)<|hL O b)<|hL U c)<|W6 (.ref d.heap.objs.size) (.ref<|d.heap.objs.size+1)<|.ref<|d.heap.objs.size+2).objs.size=d.heap.objs.size+4:=by rw[IU,M]
 have y5:(IA (IA (IA (IA (IA d.heap<|hL z a)<|hL O b)<|hL U c)<|W6 (.ref d.heap.objs.size) (.ref<|d.heap.objs.size+1)<|.ref<|d.heap.objs.size+2)<|W6 .none .none .none).objs.size=d.heap.objs.size+5:=by rw[IU,N]
 have g0:i5 z (yt z O U d.heap a b c) d.heap.objs.size a 0:=(vK z d.heap a).at λo e=>ps _ _ _ _<|ps _ _ _ _<|ps _ _ _ _<|ps _ _ _ _<|ps _ _ _ _ e;have g1:i5 O (yt z O U d.heap a b c) (d.heap.objs.size+1) b 0:=by have q:=vK O (IA d.heap<|hL z a) b;rw[E]at q;exact q.at λo e=>ps _ _ _ _<|ps _ _ _ _<|ps _ _ _ _<|ps _ _ _ _ e
 have bx:i5 U (yt z O U d.heap a b c) (d.heap.objs.size+2) c 0:=by have q:=vK U (IA (IA d.heap<|hL z a)<|hL O b) c;rw[G]at q;exact q.at λo e=>ps _ _ _ _<|ps _ _ _ _<|ps _ _ _ _ e
 have g2:ka (yt z O U d.heap a b c) (d.heap.objs.size+3) (.ref d.heap.objs.size) (.ref<|d.heap.objs.size+1) (.ref<|d.heap.objs.size+2):=by have q:_=cq (W6 (.ref d.heap.objs.size) (.ref<|d.heap.objs.size+1)<|.ref<|d.heap.objs.size+2):=Iq (IA (IA (IA d.heap<|hL z a)<|hL O b)<|hL U c) (o:=W6 (.ref d.heap.objs.size) (.ref<|d.heap.objs.size+1)<|.ref<|d.heap.objs.size+2) rfl;rw[M]at q;exact ps _ _ _ _<|ps _ _ _ _ q
 have g3:ka (yt z O U d.heap a b c) (d.heap.objs.size+4) .none .none .none:=by have q:_=cq (W6 .none .none .none):=Iq (IA (IA (IA (IA d.heap<|hL z a)<|hL O b)<|hL U c)<|W6 (.ref d.heap.objs.size) (.ref<|d.heap.objs.size+1)<|.ref<|d.heap.objs.size+2) (o:=W6 .none .none .none) rfl;rw[N]at q;exact ps _ _ _ _ q
 have r:n9 (yt z O U d.heap a b c) (d.heap.objs.size+5) (d.heap.objs.size+3) (d.heap.objs.size+4) .none:=by have q:=Iq (IA (IA (IA (IA (IA d.heap<|hL z a)<|hL O b)<|hL U c)<|W6 (.ref d.heap.objs.size) (.ref<|d.heap.objs.size+1)<|.ref<|d.heap.objs.size+2)<|W6 .none .none .none) (o:=sG (d.heap.objs.size+3)<|d.heap.objs.size+4) rfl;rw[y5]at q;exact q
 refine⟨⟨_,r,rfl⟩,OR (s:={d with heap:=yt z O U d.heap a b c}) r ?_⟩;have Q:Inv X g P t {d with heap:=yt z O U d.heap a b c,toks:=d.toks}:=i.kept keep;have c2 : ∀m:Nat,a≠d.heap.objs.size+m:=λm=>IJ<|IC la<|IM _ m;have l : ∀m:Nat,b≠d.heap.objs.size+m:=λm=>IJ<|IC lb<|IM _ m;have k : ∀m:Nat,c≠d.heap.objs.size+m:=λm=>IJ<|IC lc<|IM _ m;have f : ∀m n:Nat,m≠n->(d.heap.objs.size+m:Nat)≠d.heap.objs.size+n:=λm n h=>by omega
 have D:L7 (d.heap.objs.size+5) (d.heap.objs.size+3) (d.heap.objs.size+4) d.heap.objs.size (d.heap.objs.size+1) (d.heap.objs.size+2) a b c:=
  ⟨f 3 5 ⋯,f 4 5 ⋯,f 0 5 ⋯,f 1 5 ⋯,f 2 5 ⋯,f 3 4 ⋯,f 3 0 ⋯,f 3 1 ⋯,f 3 2 ⋯,f 4 0 ⋯,f 4 1 ⋯,f 4 2 ⋯,f 0 1 ⋯,f 0 2 ⋯,f 1 2 ⋯,
   c2 5,l 5,l 4,l 0,k 5,k 4,k 0,k 1⟩
 refine⟨_,[d.heap.objs.size+5,d.heap.objs.size+3,d.heap.objs.size+4,d.heap.objs.size,d.heap.objs.size+1,d.heap.objs.size+2],_,_,t,rfl,Q,bD z O U D,⟨r,g2,⟨_,_,_,g3⟩,g0,g1,bx⟩,λj x=>?_,q⟩;have w:d.heap.objs.size<=j:=by
  simp only[Il,IH,or_false]at x;rcases x with rfl | rfl | rfl | rfl | rfl | rfl
  ·exact IM _ _
  ·exact IM _ _
  ·exact IM _ _
  ·exact Ic _
  ·exact IM _ _
  ·exact IM _ _
 exact i.B6 w<|i.f9.fresh w
end L2
namespace DL
open PySem L2
noncomputable def YC(ds C fs:List D):List D:=(ds.zip<|C.zip fs).map λp=>D.tup [p.1,p.2.1,p.2.2]
noncomputable def tZ(f g h:CO D)(γ:Ctx):Option (List D):=((f γ).bind jX).bind λm=>((g γ).bind jX).bind λn=>((h γ).bind jX).map λo=>YC m.2 n.2 o.2
@[simp] def EW:=@tZ.eq_1
open PySem.Spec PyProof.Rows
theorem bt{U Y k3:Sk}{K:HR}{H0 L:Hp}{a b c:eh}{xs ys J:List V}{ds C fs:List D}(S:kr U K L a xs)(r1:el K H0 ds xs)(Z:kr Y K L b ys)(r2:el K H0 C ys)(z:kr k3 K L c J)(r3:el K H0 fs J) :
 Walk K H0 L (FD U Y k3 K a b c) (YC ds C fs):=by
 have Q:=r1.length;have R:=r2.length;have T:=r3.length;have N:(YC ds C fs).length=min ds.length (min C.length fs.length):=by simp[YC]
 refine⟨λi e s H=>?_,λe s=>?_,λi e x m s H y=>?_⟩
 ·exact⟨xs,ys,J,kB s S,kB s Z,kB s z,by omega,by omega,by omega⟩
 ·refine⟨xs,ys,J,kB s S,kB s Z,kB s z,?_⟩
  rw[N];omega
 ·obtain⟨p,u,v,t,A,j,B,g1,g2,g3⟩:=y
  obtain⟨d,F,M⟩:=r1.B7<|g1 xs<|kB s S;obtain⟨I,E,n⟩:=r2.B7<|g2 ys<|kB s Z;obtain⟨f,G,o⟩:=r3.B7<|g3 J<|kB s z;refine⟨.tup [d,I,f],?_,λl P k=>⟨upd l p<|.tup [u,v,t],?_,?_⟩⟩
  ·have w:(ds.zip<|C.zip fs)[i]? = cq (d,(I,f)):=Oe.mpr ⟨F,Oe.mpr ⟨E,G⟩⟩
   simp[YC,w]
  ·rw[B];exact Ext.alloc k j _
  ·rw[A]
   have O:=λ{q:D} {y:V} (r:Rep K H0 q y)=>(r.mono P).mono (z7 (jf k j)<|.tup [u,v,t]);exact(show ∃g h,V.ref p = .ref g/\gR K _ g h/\el K _ [d,I,f] h from⟨p,[u,v,t],rfl,gR.of zG,el.cons (O M)<|el.cons (O n)<|el.cons (O o) el.nil⟩)
section
variable{X:Cx}{sc:hG}{N L:List Str}{k:Nat}{a b c:eA}{p pos:gu}{f g h:CO D}
theorem pD{C:List eA}{x1:Nat}{J:gu}(hS:SX X sc N L k)(cz:yp sc "zip" = di)(z:X.mg "zip" = dn)(ha:PV X a f)(hb:PV X b g)(hc:PV X c h)
 (Z:f7 [a,b,c] X.env=[(d7,eB a X.env),(d7,eB b X.env),(d7,eB c X.env)]:=by rfl) (O:f7 [b,c] X.env=[(d7,eB b X.env),(d7,eB c X.env)]:=by rfl) (S:f7 [c] X.env=[(d7,eB c X.env)]:=by rfl) :
 ji X (.Tuple C x1 J) (.Call (.Name "zip" p) [a,b,c] [] pos) (tZ f g h):=
 JM (pG (hS.gl cz).1 z (jl ha (jl hb (jl hc qo S)<|by rw[O,S])<|by rw[Z,O]) PyProof.Rows.boot_zip Z O) λσ H R T=>by obtain⟨u,l,ds,rc,I,q⟩:=T;obtain⟨⟨W,m⟩,i,I⟩:=zb I;obtain⟨d,K,i⟩:=zb i;obtain⟨⟨k2,n⟩,U,I⟩:=zb I;obtain⟨G,M,U⟩:=zb U;obtain⟨⟨k3,o⟩,Y,I⟩:=zy I;obtain⟨t,P,Y⟩:=zb Y;subst I;refine⟨u,l,d,rc,K,λv H' e x r=>⟨e,l,G,rc.ext x,M,λv2 H2 E j r2=>⟨E,l,t,(rc.ext x).ext j,P,λv3 w F x3 r3=>?_⟩⟩⟩;obtain⟨y,xs,rfl,g1,g2⟩:=ZF ((r.mono j.s0).mono x3.s0) i;obtain⟨A,ys,rfl,g3,Q⟩:=ZF (r2.mono x3.s0) U;obtain⟨B,zs,rfl,s,g6⟩:=ZF r3 Y;exact⟨W,k2,k3,y,A,B,rfl,⟨xs,kB x3.sub g1⟩,⟨ys,kB x3.sub g3⟩,⟨zs,kB x3.sub s⟩,q _ w F ((x.trans j).trans x3)<|bt g1 g2 g3 Q s g6⟩
end
noncomputable def FL(f g:CO D)(γ:Ctx):Option (List D):=((f γ).bind jX).bind λm=>((g γ).bind jX).bind λn=>if m.2.length<=lim then cq (X4 m.2 n.2)else dn
@[simp] def Cm:=@FL.eq_1
theorem K4:O8 (.type "list") "keys" = pure dn:=by rw[typeLookup_type,Tu];kernel_rfl
theorem JU:entryFor table "list.__getattribute__" = cq o8.«object.__getattribute__» :=
 entryFor_alias (id':="object.__getattribute__") (by kernel_rfl) (by first | rfl | decide +kernel) ⋯ (by kernel_rfl)
section
variable{prog:i8}{w:hB}{A:m9}{E:RQ}{h:f6}{g:Array GenState}{d:Drawn}{t:Nat}{os:OsState}{a:eh}{o:ni}
theorem ZW(hx:h.get? a=cq ⟨.type "list",dn,.seq vs nk,sl⟩)(Y:A.handled=dn)
 (hE : ∀h' e t',(∀b u,h.get? b=cq u->h'.get? b=cq u)->(∃O,h'.get? e=cq O/\O.cls = .type "AttributeError")->E (.ref e) ⟨h',g,d,t',os⟩) :
 wpAny (eP prog w) A (o8.«object.__getattribute__» ⟨[.ref a,.str "keys" tk],[]⟩) Q E ⟨h,g,d,t,os⟩:=by
 have n:(⟨h,g,d,t,os⟩:eF).TypeIs (.ref a) "list":=⟨_,hx,rfl⟩;have k:=K4
 repeat (any_goals (first | assumption | wp_step))
 unfold raiseAttrError;have f:((Ld (toString "'" ++ toString ((Manifest.find? "list").elim "list" λx=>x.tpName)++toString "' object has no attribute '")++Ld "keys" ++ Ld "'"):Str).length<=gm:=by decide +kernel
 generalize (Ld (toString "'" ++ toString ((Manifest.find? "list").elim "list" λx=>x.tpName)++toString "' object has no attribute '")++Ld "keys" ++ Ld "'")=z at f ⊢;refine HS (wpAny_mkStr (hx:=f) ?_);refine HS ?_;unfold newExc newTuple;refine HS (LR ?_ (by size_fits));refine HS (m:=Rq _ _) (wpAny_of_eq (a:=IZ) (by first | rfl | (simp only[Rq];rfl)) ?_);refine LR ?_ (by size_fits);simp only[IU];have I:((h.push {cls:= .type "tuple",data:= .seq #[.str z t]}).push {cls:= .type "AttributeError",data:= .fields (#[.ref h.objs.size,.none,.none,.none,.bool d7,.none]++RO (.type "AttributeError") [.str z t])}).get? (h.objs.size+1) =
  cq {cls:= .type "AttributeError",data:= .fields (#[.ref h.objs.size,.none,.none,.none,.bool d7,.none]++RO (.type "AttributeError") [.str z t])}:=by heap_get
 have U : ∀b u,h.get? b=cq u->((h.push {cls:= .type "tuple",data:= .seq #[.str z t]}).push {cls:= .type "AttributeError",data:= .fields (#[.ref h.objs.size,.none,.none,.none,.bool d7,.none]++RO (.type "AttributeError") [.str z t])}).get? b=cq u:=λb u e=>HV _ (HV _ e);have i:h.get? (h.objs.size+1)=dn:=Heap.get?_none_of_le (NY _);generalize ((h.push {cls:= .type "tuple",data:= .seq #[.str z t]}).push {cls:= .type "AttributeError",data:= .fields (#[.ref h.objs.size,.none,.none,.none,.bool d7,.none]++RO (.type "AttributeError") [.str z t])})=h2 at I U ⊢;refine HS (wpAny_mkText ?_);unfold noteAttr lacksNameAndObj;have j:(⟨h2,g,d,t+1+1,os⟩:eF).TypeIs (.ref (h.objs.size+1)) "AttributeError":=⟨_,I,rfl⟩;have l:isSubtype (.type "AttributeError") (.type "AttributeError")=pure di:=by rw[isSubtype_type];kernel_rfl
 repeat (any_goals (first | assumption | with_reducible refine wpAny_loadPart_at I ?_ | with_reducible refine wpAny_load I ?_ | wp_step))
 refine wpAny_raiseNew_none Y<|hE _ _ _ (λb u e=>?_) ⟨_,NK _ I<|Obj.isFreed_of_fields<|Pn rfl _,Obj.cls_mapFields ..⟩;rw[LL _ _ (λq=>by rw[<- q]at e;rw[i]at e;cases e)];exact U b u e
theorem JQ(hx:h.get? a=cq ⟨.type "list",dn,.seq vs nk,sl⟩)(I:A.handled=dn)
 (O : ∀h' e t',(∀b u,h.get? b=cq u->h'.get? b=cq u)->(∃z,h'.get? e=cq z/\z.cls = .type "AttributeError")->R (.error (.ref e)) ⟨h',g,d,t',os⟩) :
 codeAny (eP prog w) A (.call (.builtin "list.__getattribute__") ⟨[.ref a,.str "keys" tk],[]⟩) R ⟨h,g,d,t,os⟩:=
 codeAny_call_builtin Nq.plain JU (Nq.check _ _ _ _ _ _ _ _ (show(⟨h,g,d,t,os⟩:eF).TypeIs (.ref a) "list" from⟨_,hx,rfl⟩) (F.args_list_getattribute_2 _ _) (ZW hx I O))
theorem aL:O8 (.type "list") "__getattr__" = pure dn:=by rw[typeLookup_type,Tu];kernel_rfl
theorem dR(hx:h.get? a=cq ⟨.type "list",dn,.seq vs nk,sl⟩)(I:A.handled=dn)
 (O : ∀h' t',(∀b u,h.get? b=cq u->h'.get? b=cq u)->Q dn ⟨h',g,d,t',os⟩):wpAny (eP prog w) A (getAttr? (.ref a) "keys") Q E ⟨h,g,d,t,os⟩:=by
 have n:(⟨h,g,d,t+1,os⟩:eF).TypeIs (.ref a) "list":=⟨_,hx,rfl⟩;have f2:=Nq.lookup;have k:=Nq.bind (.ref a);have l:=aL;have m:isSubtype (.type "AttributeError") (.type "AttributeError")=pure di:=by rw[isSubtype_type];kernel_rfl
 unfold getAttr? getAttrBy? getAttrBy
 repeat (any_goals (first | assumption | wp_step))
 refine JQ (g:=g) (d:=d) (os:=os) hx I λh' e t' U z=>?_;obtain⟨Y,z,f⟩:=z;have i:(⟨h',g,d,t',os⟩:eF).TypeIs (.ref e) "AttributeError":=⟨Y,z,f⟩;have j:=O h' t' U;show wpAny _ _ (TJ _ _ _ _ _ _ _) _ _ _;unfold TJ hookOrError attributeErrorLeaves
 repeat (any_goals (first | assumption | wp_step))
end
noncomputable def vx:List D->Option (List D×List D)
 | []=>cq ([],[])
 | d::r=>match d with
  | .tup a=>match a with
   | [k,v]=>(vx r).map λp=>(k::p.1,v::p.2)
   | _=>dn
  | _=>dn
noncomputable def mU(f:CO (List D))(γ:Ctx):Option D:=(f γ).bind λa=>(vx a).bind λp=>me p.1 p.2
@[simp] def Co:=@mU.eq_1
noncomputable def BE(C I:CO D):CO D:=λa=>(C a).bind λd=>(I a).bind λk=>match d with
 | .m7 b e=>(nr k).bind λi=>WC b e i
 | _=>dn
noncomputable def ug(I C:CO D):CO D:=λa=>(I a).bind λk=>(C a).bind λd=>match d with
 | .m7 b e=>(nr k).map λi=> .bl (WC b e i).isSome
 | _=>dn
section
variable{X:Cx}{pins:RW}{σ:St}{A:m9}{R:Result->eF->Prop}{H0:Hp}{l it d:eh}{ks:List Key}{ys xs:List V}
theorem aW(hh:A.handled=dn)(hx:xs.length=ks.length)(hy:ys.length=ks.length)(hp : ∀(n:Nat) (h1:n<xs.length) (h2:n<ks.length) (h3:n<ys.length),∃p,xs[n] = .ref p/\gR X.K H0 p [kV ks[n],ys[n]])(S:H0 d=dn)(Z:l≠d) : ∀(m n:Nat) (s:eF) (H:Hp) (C:List (Key×V)) (i:Int) (t:Tok),n+m=ks.length->
 Inv X pins σ H s->gv H0 H->H l=cq (.lst xs)->s.heap.IsListIter it l n->wI X pins H it->H d=cq (.dK C)->C.length+m<=gm->
 (∀J,Inv X pins σ (upd H d<|.dK<|iz C<|(ks.zip ys).drop n) J->R (.ok<|.ret .none) J)->
 codeAny (eP X.prog X.w) A (.builtin "dict.update.loop" ⟨[.ref d,.ref it,.int i t,.none],[]⟩) R s:=by
 intro m
 induction m with
 | zero=>
  intro n s H C i t hn I sub U st O a hz Y;obtain⟨z1,g,c,M,ll,h⟩:=I.DT U;refine codeAny_builtin yD ?_;unfold o8.«dict.update.loop»;have j:s.heap.IsList l g.toArray:=⟨_,h,rfl,_,rfl⟩;refine HS<|wpAny_pyNext_list_end (s:=s) hh st j (by simp;omega) λh' eb=>?_;refine HS<|Ie ?_;have e0:upd H d (.dK<|iz C<|(ks.zip ys).drop n)=H:=by
   rw[List.drop_eq_nil_of_le (by simp;omega)];funext c;by_cases q:c=d
   ·rw[q,zG,a];rfl
   ·rw[zD q]
  rw[e0]at Y;exact Ie (Y _<|I.C1 (t':=s.toks) (fp:=[it]) (λb o z e=>eb b o (by simpa using z) e)<|λb z=>by rw[Ms.mp z];exact O)
 | succ m ih=>
  intro n s H C i t hn I sub U st O a hz Y;obtain⟨z1,g,c,M,ll,h⟩:=I.DT U;have j:s.heap.IsList l g.toArray:=⟨_,h,rfl,_,rfl⟩;have Q:n<ks.length:=by omega
  obtain⟨p,ep,T⟩:=hp n ⋯ Q ⋯;obtain⟨u,hu,L⟩:=M.get (HX<|show n<xs.length by omega);rw[ep]at L;have eu:u = .ref p:=L;subst eu;refine codeAny_builtin yD ?_;unfold o8.«dict.update.loop»;refine HS<|wpAny_pyNext_list_item (s:=s) st j (x:= .ref p) (by simpa using hu) λh' W sb=>?_;have f:=I.C1 (h':=h') (t':=s.toks) (fp:=[it]) (λb o z e=>(sb.2 b<|by simpa using z).trans e) (λb z=>by rw[Ms.mp z];exact O);obtain⟨ts,rt,⟨o,E,co,nn,bm⟩,zt⟩:=f.tuple<|mu sub T;obtain⟨u1,r,rfl,bn,k⟩ : ∃u1 r,ts=u1::r/\RelV (kV ks[n]) u1/\fy [ys[n]] r:=by
   cases rt with
   | cons q1 k=>exact⟨_,_,rfl,q1,k⟩
  obtain⟨u2,rfl,bv⟩:=yn k;have bx:({s with heap:=h'}:eF).TypeIs (.ref p) "tuple":=⟨_,E,co⟩;refine HS (Mp (HS (wpAny_tryCatch ?_)));unfold Builtin.Dict.pairItems;refine HS (Ot bx ?_);rw[RY ⋯];refine HS (LB E bm (Ie ?_));show wpAny _ _ (u5 [u1,u2] (dictSet d u1 u2)) _ _ _;obtain⟨zz,c1,vs,y,dd⟩:=EL f.f9 a;have c3:vs.length<=gm:=by rw[<- y.length];exact zz
  have c4:(bj C ks[n] ys[n]).length<=gm:=by have:=ZY C ks[n] ys[n];omega
  refine Mp<|wpAny_dictSet_pairs (hsz:=c3) (lM bn) dd λc5 B F=>?_;have he : ∃q,c5.get? d=cq q:=let ⟨q,_,_,hq,_⟩:=B;⟨q,hq⟩;have N:=rX (t':=s.toks+1) f (by rw[a];exact MG) F he<|AX c4 c1 (y.put ks[n] bv) B;have G:it≠d:=λq=>by have:=O.1;rw[q,a]at this;cases this
  refine Ie ⟨yw _,ih (n+1) _ _ (bj C ks[n] ys[n]) (i+1) 0 ⋯ N (λc o e=>?_) (by rw[zD Z];exact U) (W.at λo q=>(F.2 it G).trans q) ⟨by rw[zD G];exact O.1,O.2⟩ zG (by have:=ZY C ks[n] ys[n];omega) λJ P=>Y J ?_⟩
  ·rw[zD (λq=>by rw[q,S]at e;cases e)];exact sub _ _ e
  ·have ca:n<(ks.zip ys).length:=by simp;omega
   have e1:(ks.zip ys).drop n=(ks[n],ys[n])::(ks.zip ys).drop (n+1):=by rw[Mv ca];simp
   have e2:upd (upd H d<|.dK<|bj C ks[n] ys[n]) d (.dK<|iz (bj C ks[n] ys[n])<|(ks.zip ys).drop (n+1))=upd H d (.dK<|iz C<|(ks.zip ys).drop n):=by
    funext c;by_cases q:c=d
    ·rw[q,zG,zG,e1];rfl
    ·rw[zD q,zD q,zD q]
   rw[<- e2];exact P
theorem aY(I:Inv X pins σ H s)(J:X.A.handled=dn)(sub:gv H0 H)(z:H l=cq (.lst xs))(hx:xs.length=ks.length)(Z:ys.length=ks.length)
 (S : ∀(n:Nat) (h1:n<xs.length) (h2:n<ks.length) (h3:n<ys.length),∃p,xs[n] = .ref p/\gR X.K H0 p [kV ks[n],ys[n]]) (hz:ks.length<=gm)
 (L : ∀C p,H p=dn->Inv X pins σ (upd H p (.dK (iz [] (ks.zip ys)))) C->Q (.ref p) C):wpAny (eP X.prog X.w) X.A (call (.type "dict") [.ref l]) Q X.xe s:=by
 have O:H s.heap.objs.size=dn:=I.fresh;have x:H0 s.heap.objs.size=dn:=jf sub O;have i:l≠s.heap.objs.size:=λq=>by rw[q,O]at z;cases z
 refine callType_codes (Q₁:=λobj f=>obj = .ref s.heap.objs.size/\f = {s with heap:=s.heap.push {cls:= .type "dict",data:= .dict #[]}}) F.kt_called_dict (F.kt_typeCall_dict_1 _) F.entry_dict_init (kt_code_dict_new _ ⟨rfl,rfl⟩) ?_;rintro obj f ⟨rfl,rfl⟩;have r:=I.laid (a:=s.heap.objs.size) (o:= .dK []) (t':=s.toks) (λ_ _ q=>HV {cls:= .type "dict",data:= .dict #[]} q) (Ic _) (lZ s.heap I.big);have j:({s with heap:=s.heap.push {cls:= .type "dict",data:= .dict #[]}}:eF).TypeIs (.ref s.heap.objs.size) "dict":=⟨_,Iq _ rfl,rfl⟩;obtain⟨P,m,c,N,M,B⟩:=I.DT z;have U:(s.heap.push {cls:= .type "dict",data:= .dict #[]}).get? l=cq {cls:= .type "list",data:= .seq m.toArray c}:=HV _ B;refine⟨j,F.args_dict_init_2 _ _,?_⟩;unfold o8.«dict.__init__»;refine HS ?_;unfold Builtin.Dict.selfAndRest;refine HS (wpAny_notOrdered_dict j ?_);show wpAny _ _ (pure (s.heap.objs.size,[LX l])) _ _ _;refine Ie ?_;show wpAny _ _ (Builtin.Dict.updateFrom "dict.__init__" s.heap.objs.size (.ref l) [] .none) _ _ _;unfold Builtin.Dict.updateFrom;refine HS (Ot (T:="list") ⟨_,U,rfl⟩ ?_);rw[RY ⋯];refine HS (dR (g:=s.gens) (d:=s.drawn) (t:=s.toks) (os:=s.os) U (show X.A.in1.in1.handled=dn from J) λh' t' k=>?_);have Y:Inv X pins σ (upd H s.heap.objs.size (.dK [])) {s with heap:=h',toks:=t'}:=r.kept k;have y:=k _ _ U;simp only[Option.isNone_none,if_true];refine HS (Nr (HS (PL (items:=m.toArray) ⟨_,y,rfl,_,rfl⟩ ?_)));refine Ie ⟨yw _,?_⟩;have u:=Y.kept (h':=h'.push {cls:= .type "list_iterator",data:= .fields #[.ref l,.int 0 0]}) (t':=t') λb o e=>HV _ e;have G:s.heap.objs.size<h'.objs.size:=by have:=Ip (k _ _ (Iq s.heap (o:={cls:= .type "dict",data:= .dict #[]}) rfl));exact this
 have E:=Y.B6 (b:=h'.objs.size) (H':=upd H s.heap.objs.size<|.dK []) (Ic _) Y.fresh;refine aW (H0:=H0) (l:=l) (it:=h'.objs.size) (ks:=ks) (ys:=ys) (xs:=xs) (show X.A.in1.handled=dn from J) hx Z S x i ks.length 0 _ (upd H s.heap.objs.size<|.dK []) [] 0 0 (Lw _) u (sub.trans<|z7 O _) (by rw[zD i];exact z) ⟨_,Iq _ rfl,rfl,rfl⟩ E zG (by simpa using hz) λC h=>?_;rw[bA,List.drop_zero]at h;exact⟨rfl,L C _ O h⟩
end
theorem Kd : ∀{ps ks vs:List D},vx ps=cq (ks,vs)->ks.length=ps.length/\vs.length=ps.length
 | [],ks,vs,h=>by cases h;exact⟨rfl,rfl⟩
 | d::r,ks,vs,h=>by
  unfold vx at h;split at h
  ·split at h
   ·obtain⟨⟨a,b⟩,e,f⟩:=zy h
    cases f;obtain⟨g,i⟩:=Kd e;exact⟨by simp[g],by simp[i]⟩
   ·cases h
  ·cases h
theorem JY{K:HR}{H:Hp} : ∀{ps ks vs:List D} {xs:List V} {C:List Int},vx ps=cq (ks,vs)->el K H ps xs->JT ks=cq C->
 ∃ys,el K H vs ys/\ys.length=C.length/\xs.length=C.length/\∀(n:Nat) (J:n<xs.length) (L:n<C.length) (z:n<ys.length),∃p,xs[n] = .ref p/\gR K H p [.int C[n],ys[n]]
 | [],ks,vs,xs,C,h,r,hi=>by cases h;cases hi;rw[r.su];exact⟨[],el.nil,rfl,rfl,λn J=>by cases J⟩
 | d::ps,ks,vs,xs,C,h,r,hi=>by
  unfold vx at h;split at h
  ·split at h
   ·rename_i k v
    obtain⟨⟨a,b⟩,e,f⟩:=zy h;cases f;obtain⟨x,A,rfl,J,L⟩:=r.ow;cases k with
    | int j=>
     obtain⟨y,I,O⟩:=zy hi;subst O;obtain⟨ys,o,s,t,U⟩:=JY e L I;obtain⟨q,F,rfl,z,Y⟩:=kO J;obtain⟨B,E,rfl,g,i⟩:=Y.ow;obtain⟨u,w,rfl,l,m⟩:=i.ow;rw[m.su,ju g]at z;refine⟨u::ys,el.cons l o,by simp[s],by simp[t],λn g1 g2 g3=>?_⟩;cases n with
     | zero=>exact⟨q,rfl,z⟩
     | succ n=>exact U n (by simpa using g1) (by simpa using g2) (by simpa using g3)
    | _=>cases hi
   ·cases h
  ·cases h
section
variable{X:Cx}{sc:hG}{N L:List Str}{k:Nat}{a o i:eA}{f:CO (List D)}{fd fk:CO D}{p pos:gu}
theorem iy(h:SX X sc N L k)(J:yp sc "dict" = di)(zd:X.mg "dict" = dn)(S:PO X a f)(C:f7 [a] X.env=[(d7,eB a X.env)]:=by rfl) :
 PV X (.Call (.Name "dict" p) [a] [] pos) (mU f):=by
 intro g s σ H Q I m;obtain⟨H0,γ,d,rc,z,q⟩:=m;obtain⟨x,F,z⟩:=zb z;obtain⟨⟨b,j⟩,w,z⟩:=zb z;have R:X.A.handled=dn:=I.ok.hd h.calm;unfold me at z;cases hi:JT b with
 | none=>rw[show(b,j).1=b from rfl,hi]at z;cases z
 | some e=>
  rw[show(b,j).1=b from rfl,hi]at z;dsimp only at z;by_cases o:b.length=j.length/\e.Nodup/\b.length<=lim
  ·rw[RY o]at z
   cases z;refine DE<|kH I (h.gl J).1 zd PyProof.Rows.boot_dict (Ll ?_ (by rw[C];rfl) rfl);rw[C];show wpAny _ _ (N7 ((d7,eB a X.env)::[])) _ _ s;refine NZ<|ft (S g s σ H (λv i=>∃l xs O,v = .ref l/\Ext H0 H O i/\O l=dn/\i l=cq (.lst xs)/\el X.K O x xs) I ⟨H0,γ,x,rc,F,λl xs i O x1 g1 g2 g3 U=>⟨l,xs,O,rfl,x1,g2,g3,U⟩⟩) λv s1 m=>?_;obtain⟨y,i,B,ry,l,xs,O,rfl,x1,g2,g3,U⟩:=m;cases ry;refine Pp ?_;obtain⟨ys,T,W,Z,r4⟩:=JY w U hi;have r:(e.map<|Ml (β:=Str)).length=e.length:=by simp
   have nl:e.length=b.length:=by have:=(Kd w).1;have:=U.length;omega
   refine aY (H0:=O) (ks:=e.map Ml) (ys:=ys) (xs:=xs) B R x1.sub g3 (by rw[r];exact Z) (by rw[r];exact W) (λn G M P=>?_) ?_ λs' p Y u=>?_
   ·obtain⟨t,t1,t2⟩:=r4 n G (by simpa using M) P
    refine⟨t,t1,?_⟩;simpa[kV]using t2
   ·have:lim<=gm:=by decide
    rw[r];omega
   ·have E:iz [] ((e.map<|Ml (β:=Str)).zip ys)=(e.map Ml).zip ys:=by
     rw[J5 _ []]
     ·simp
     ·rw[MM,List.map_fst_zip ⋯]
      exact KW o.2.1
    rw[E]at u;exact⟨.ref p,_,u,rfl,q (.ref p) _ _ ((x1.trans<|Ext.hide x1.sub Y _).show (xW x1.s1 Y) (jf x1.sub Y) zG rc.sub)
     (show ∃a xs,V.ref p = .ref a/\DF (upd O p _) a b xs/\el X.K (upd O p _) j xs from⟨p,ys,rfl,⟨_,QL hi,by omega,zG⟩,T.mono<|z7 (jf x1.sub Y) _⟩)⟩
  ·rw[EQ o]at z;cases z
theorem uG(h:SX X sc N L k)(Y:PV X o fd)(J:PV X i fk)(S:FC i:=by intro _ _;rfl):PV X (.Subscript o i pos) (BE fd fk):=
 qg (pJ (by have:=h.I8;omega) Y J S) λT H Q C=>by
  obtain⟨g,f,d,rc,z,q⟩:=C;obtain⟨s,t,z⟩:=zb z;obtain⟨P,u,z⟩:=zb z;cases s with
  | m7 F G=>
   obtain⟨j,w,A⟩:=zb z;refine⟨g,f,_,rc,t,λv M I x r=>⟨I,f,_,rc.ext x,u,λy l m O e=>?_⟩⟩;obtain⟨ad,b,rfl,⟨R,g1,g2,g3⟩,B⟩:=(show ∃a b,v = .ref a/\DF I a F b/\el X.K I G b from r);rw[jV w]at e;have E:y = .int j:=e;obtain⟨U,n,p⟩:=(XE (i:=j) g1 g2<|B.mono O.s0).1 d A;refine⟨ad,U,rfl,?_,q U l m (x.trans O) p⟩;rw[E,<- n];exact .inl ⟨_,Ml j,.inl<|O.s1 _ _<|x.sub _ _ g3,rfl,rfl⟩
  | _=>cases z
theorem ph(h:SX X sc N L k)(S:PV X i fk)(ho:PV X o fd)(Z:B1 .In o=d7:=by with_unfolding_all rfl):nf X (.Compare i [.In] [o] pos) (sB<|ug fk fd):=
 KF (uM (Af (by have:=h.I8;omega) S ho) Z) λσ H Q P=>by
  obtain⟨n,m,b,rc,z,q⟩:=P;obtain⟨db,B,J⟩:=zb z;obtain⟨k1,C,z⟩:=zb B;obtain⟨w,E,z⟩:=zb z;cases w with
  | m7 g l=>
   obtain⟨j,F,G⟩:=zy z;subst G;cases J;refine⟨n,m,_,rc,C,λy T p x U=>⟨p,m,_,rc.ext x,E,λv e I O r=>?_⟩⟩;obtain⟨ad,d,rfl,⟨kk,g1,g2,Y⟩,M⟩:=(show ∃a d,v = .ref a/\DF I a g d/\el X.K I l d from r);rw[jV F]at U;have f:y = .int j:=U;obtain⟨s,t⟩:=XE (i:=j) g1 g2 M;cases hv:WC g l j with
   | none=>
    refine⟨ad,dn,rfl,?_,_,rfl,?_⟩
    ·rw[f,<- t hv]
     exact .inl ⟨_,Ml j,.inl<|O.sub _ _ Y,rfl,rfl⟩
    ·rw[hv]at q;exact q e I<|x.trans O
   | some A=>
    obtain⟨R,u,W⟩:=s A hv;refine⟨ad,cq R,rfl,?_,_,rfl,?_⟩
    ·rw[f,<- u]
     exact .inl ⟨_,Ml j,.inl<|O.sub _ _ Y,rfl,rfl⟩
    ·rw[hv]at q;exact q e I<|x.trans O
  | _=>cases z
end
def Ex:D->Option (List Int)
 | .tup a=>JT a
 | _=>dn
noncomputable def Ax:List D->Option (List<|List Int)
 | []=>cq []
 | d::ds=>(Ex d).bind λk=>(Ax ds).map λr=>k::r
noncomputable def FN(f:CO (List D))(γ:Ctx):Option D:=(f γ).bind λb=>(vx b).bind λp=>(Ax p.1).bind λa=>if a.Nodup/\a.length<=lim then cq (.ml a p.2)else dn
noncomputable def EF:List (List Int)->List D->List Int->Option D
 | k::ks,v::vs,i=>if k=i then cq v else EF ks vs i
 | _,_,_=>dn
noncomputable def GW(C I:CO D)(γ:Ctx):Option D:=(C γ).bind λd=>(I γ).bind λk=>match d with
 | .ml a b=>(Ex k).bind λi=>EF a b i
 | _=>dn
noncomputable def EE(d k x:D):Option D:=match d with
 | .ml a b=>(Ex k).map λi=>(EF a b i).getD x
 | _=>dn
noncomputable def GT(C I z:CO D)(γ:Ctx):Option D:=(C γ).bind λd=>(I γ).bind λk=>(z γ).bind λx=>EE d k x
noncomputable def GR(f:CO D)(γ:Ctx):Option (List D):=(f γ).bind λd=>match d with
 | .ml a _=>cq (a.map λk=> .tup (k.map .int))
 | _=>dn
section
variable(γ:Ctx)
@[simp] def Cn:=@FN.eq_1
@[simp] def Ft:=@GW.eq_1
@[simp] def Fo:=@GT.eq_1
@[simp] def Fm:=@GR.eq_1
end
noncomputable def FY:List (List Int)->List Int->List Int->Option Int
 | k::ks,n::ns,i=>if k=i then cq n else FY ks ns i
 | _,_,_=>dn
noncomputable def eqT(ks:List (List Int))(C:List Int)(z:List (List Int))(I:List Int):Bool:=decide (ks.length=z.length) && (ks.zip C).all λx=>decide<|FY z I x.1=cq x.2
noncomputable def Gb(d e:D):Option Bool:=match d with
 | .ml a f=>match e with
  | .ml z I=>(JT f).bind λb=>(JT I).map λO=>eqT a b z O
  | _=>dn
 | _=>dn
@[simp] def HQ(d e:D):Option D:=(Gb d e).map D.bl
@[simp] def HP(d e:D):Option D:=(Gb d e).map λb=>D.bl<|!b
noncomputable def GQ(f:CO D)(γ:Ctx):Option D:=(f γ).bind λd=>match d with
 | .ml a _=>cq (.int a.length)
 | _=>dn
@[simp] def Fk:=@GQ.eq_1
abbrev TT:=List (List (List Int))
def sO:Cell->Bool
 | .no=>di
 | .val _=>di
 | _=>d7
inductive Pl where
 | out | tab (k:Nat) | row (k m:Nat)
deriving DecidableEq
theorem cY{γ:Ctx}(h:γ.all sO=di) : ∀(i:Nat) ds,γ[i]? ≠ cq (.own ds):=λi ds e=>by have:=LK.mp h _<|IY e;cases this
theorem cZ{γ:Ctx}(h:γ.all sO=di) : ∀(i:Nat) C,γ[i]? ≠ cq (.nest C):=λi a e=>by have:=LK.mp h _<|IY e;cases this
section
variable{K:HR}{al:List (Nat×Pl)}{E0 E H0 H sh H':Hp}{σ Us:St}{γ γ':Ctx}{Z:TT}{ad:Pl->eh}
theorem RC.pl(sub:gv H0 H)(len:σ.length=γ.length)(val : ∀(i:Nat) d,γ[i]? = cq (.val d)->∃v,σ[i]? = cq (cq v)/\Rep K H0 d v)(pn:γ.all sO=di):RC K H0 H σ γ:=
 ⟨sub,len,val,λi b e=>absurd e<|cY pn i b,λi j a b f e=>absurd e<|cY pn i b,ri.DU<|cZ pn⟩
theorem RS.pl(rc:RC K H0 H σ γ)(x:Ext E0 E H0 H)(pn:γ.all sO=di):RS K E0 E H0 H σ γ:=
 ⟨rc,x,λi d a e=>absurd e<|cY pn i d,λi b a f e=>absurd e<|cZ pn i b⟩
open Classical in
end
open Classical in
section
variable{H:Hp}{Z:TT}{ad:Pl->eh}
end
section
variable{X:Cx}{sc:hG}{N L:List Str}{k j i n w:Nat}{st:jn}{xE:List jn}{e e2:eA}{es:List eA}{f:CO D}{g:CO (List D)}{pos p:gu}{x:Str}{al:List (Nat×Pl)}
theorem QB{E H:Hp}{c:eh}(s:gv E H)(h:H c=dn):E c=dn:=by
 cases q:E c with
 | none=>rfl
 | some o=>rw[s c o q]at h;cases h
end
end DL
namespace DL
open PySem PySem.Spec PyProof.Rows L2
open PySem.W (KasT kas_sort kas_ask kat_run kat_snds kat_lt kat_cons kat_no kat_yes kat_nil kat_go kat_one kat_kind KatTups KatGo)
section
variable{prog:i8}{w:hB}{A:m9}{E:RQ}{s:eF}
theorem Ww{a kS:eh}{I:List ej}{out:List ej}{e C:Nat}{P:PySem.Fin->eF->Prop}{st:SortSt}(O:s.heap.get? kS=cq (g5 "list" I.toArray e))(L:s.heap.get? a=cq (g5 "list" #[] C))(U:kS≠a)(Y:I.length<=gm)(J:out.length<=gm)
 (Z:(F5 st).map (·.2)=out.toArray) (S:failedOf st=dn)
 (h : ∀h' c,h'.objs.size=s.heap.objs.size->(∀b o,b≠a->b≠kS->s.heap.get? b=cq o->h'.get? b=cq o)->h'.get? a=cq (g5 "list" out.toArray c)->P (.done (.ret .none)) {s with heap:=h'}) :
 wpAny (eP prog w) A (ksk_tail a d7 C (.ref kS) st) P E s:=by
 unfold ksk_tail;refine HS (NG O rfl ?_ (by rw[Ik];exact Y) (Lp _));refine HS (MZ ?_);have z:(s.heap.update kS (IW λ_=>(#[]:Array ej))).get? a=cq (g5 "list" #[] C):=(LL _ _ U).trans L;refine HS (Px z rfl ?_);simp only[LZ,if_false];rw[Z];refine HS (NG z rfl ?_ (Lp _) (by show out.toArray.size<=_;rw[Ik];exact Oq J));rw[S];simp only[bne_self_eq_false,LZ,if_false];obtain⟨c,g⟩ : ∃c,((s.heap.update kS (IW λ_=>(#[]:Array ej))).update a (IW λ_=>out.toArray)).get? a=cq (g5 "list" out.toArray c):=⟨_,OZ z λ_=>out.toArray⟩;refine Ie (h _ c (by rw[ME,ME]) (λb o d f q=>?_) g);exact(LL _ _ (IT d)).trans ((LL _ _ (IT f)).trans q)
theorem rB{a kS:eh}{vs z:List ej}{ps:List (Int×Int)}{e J:Nat}{P:PySem.Fin->eF->Prop}(hk:s.heap.get? kS=cq (g5 "list" z.toArray e))(ha:s.heap.get? a=cq (g5 "list" #[] J))(a8:kS≠a)(a9:z.length=vs.length)(L:ps.length=vs.length)(ax:vs.length<64)
 (S : ∀i (Z:i<z.length),A9 s.heap z[i] (ps.getD i (0,0)).1 (ps.getD i (0,0)).2)
 (h : ∀h' c,h'.objs.size=s.heap.objs.size->(∀b o,b≠a->b≠kS->s.heap.get? b=cq o->h'.get? b=cq o)->h'.get? a=cq (g5 "list" (ML ((j4 ps).map λi=>vs.getD i IZ)) c)->P (.done (.ret .none)) {s with heap:=h'}) :
 wpAny (eP prog w) A (ksk_end a d7 vs.toArray J (.ref kS) z.toArray) P E s:=by
 have hz:vs.length<=gm:=by rw[Na];omega
 have n:vs.toArray.size=vs.length:=by simp
 have c5:((j4 ps).map λi=>vs.getD i IZ).length=vs.length:=by rw[IE,(jO ps).length_eq,Ls,L]
 have step : ∀t:Sem PySem.Fin,wpAny (eP prog w) A t P E s->wpAny (eP prog w) A (if d7=di then (do let _ <- rule "list.sort.reverse";t)else t) P E s:=λt ht=>ht;unfold ksk_end
 try dsimp only
 refine step _ ?_;by_cases g:vs.toArray.size<2
 ·rw[RY g,RY g]
  refine HS<|Ie ?_;rw[StateT.run_pure];refine HS<|Ie ?_;dsimp only;have ev:(j4 ps).map (λi=>vs.getD i IZ)=vs:=by unfold j4;rw[RY ⋯,L];exact jd _ _
  have e7:Array.map (λx=>x.snd) (F5<|SortSt.mk' general' (z.toArray.zip vs.toArray) #[] 7 dn)=((j4 ps).map (λi=>vs.getD i IZ)).toArray:=by show Array.map (λx=>x.snd) (z.toArray.zip vs.toArray)=_;rw[ev];apply Array.ext';simp[Array.toList_map,Array.toList_zip];rw[List.map_snd_zip ⋯]
  exact Ww hk ha a8 ⋯ ⋯ e7 rfl h
 ·rw[EQ g,EQ g]
  have n2:2<=vs.length:=by rw[<- n];omega
  obtain⟨fs,f1,f2,f3⟩:=ez (ks:=λi=>(ps.getD i (0,0)).1) λi Z=>(S i Z).one;refine HS (kat_kind (T:=Nw "int") f1 ⋯ (λv hv=>?_) ⋯ ?_)
  ·obtain⟨k,t,rfl⟩:=f3 v hv
   exact PySem.W.Looks.of_pure rfl
  have ep:(xD (λi j=>va (ps.getD i (0,0))<|ps.getD j (0,0))<|kas_sort vs.length).toList=j4 ps:=by unfold j4;rw[EQ ⋯,L]
  refine HS (Mq (kat_run (E:=E) (ks:=z) (Q:=λf d=>∃p:Array Nat,F5 f=p.map (PySem.W.kas_item<|z.toArray.zip vs.toArray)/\failedOf f=dn/\p.toList=j4 ps/\d=s)
   (G:=λp d=>p.toList=j4 ps/\d=s)
   a9 n2 ax (λp f d a1 M N r=>⟨p,M,N,r.1,r.2⟩) (Vf (lt:=λi j=>va (ps.getD i (0,0))<|ps.getD j (0,0)) (λi j C Z hj I=>?_) (Jg ⋯) ⟨ep,rfl⟩)) ?_ λ_ _ e=>e)
  ·show wpAny _ _ (keyLt' _ (z.getD i IZ)<|z.getD j IZ) C _ _
   have B:i<z.length:=by omega
   have F:j<z.length:=by omega
   rw[show z.getD i IZ=z[i]by simp[B],show z.getD j IZ=z[j]by simp[F]];obtain⟨x,ox,xs,m,t,u,J,e2,e3,e4,K⟩:=S i B;obtain⟨y,oy,ys,m',t',u',d1,d2,d3,d4,H⟩:=S j F;rw[J,d1];refine kat_lt e2 e4 d2 d4 ?_;have R:xs.size=2:=by rw[<- LN,K];rfl
   have X:ys.size=2:=by rw[<- LN,H];rfl
   rw[K,H,R,X,MI,MI];unfold va at I;generalize ps.getD i (0,0)=U at I ⊢;generalize ps.getD j (0,0)=Y at I ⊢;refine kat_cons<|Nc U.1 t Y.1 t' _ _ _ _ ?_;refine kat_go (λO=>?_) λO=>?_
   ·have O:U.1=Y.1:=by simpa using O
    rw[RY O]at I;refine kat_yes<|kat_cons<|Nc U.2 u Y.2 u' _ _ _ _<|kat_go (λl=>?_) λl=>?_
    ·have l:U.2=Y.2:=by simpa using l
     refine kat_yes<|kat_nil ?_;rw[show decide (U.2<Y.2)=d7 by rw[l];simp]at I;exact I
    ·exact kat_no<|kat_one _ _<|lt_int I
   ·have O:U.1≠Y.1:=by simpa using O
    rw[EQ O]at I;exact kat_no<|oneLt_int I
  rintro⟨⟨⟩,f⟩ d ⟨p,c1,hf,hp,rfl⟩;dsimp only;have as:=kat_snds a9 c1;rw[hp]at as;exact Ww hk ha a8 ⋯ ⋯ as hf h
end
end DL
namespace DL
open PySem PySem.Spec PyProof.Rows L2
section
variable{X:Cx}{pins:RW}{σ:St}{H:Hp}{s:eF}{a:eh}{o:HO}
theorem eH(I:Inv X pins σ H s)(f:wI X pins H a)(new:md X.prog X.w (upd H a o) s.heap a o):Inv X pins σ (upd H a o) s:=by
 obtain⟨f1,f2,y,j,k,l⟩:=f;have d : ∀b u,H b=cq u->b≠a:=λb u q z=>by rw[z,f1]at q;cases q
 refine⟨I.ok,I.os,I.bare,⟨I.base.keep,I.base.slot,λb U q n h=>?_,I.base.there,λb i q=>?_,λb U u q=>?_,λb t q=>?_⟩,I.loc,I.cell,?_,λx c e=>?_,λp g=>?_,λb u e=>?_,I.len⟩
 ·have O:b≠a:=λz=>by
   rcases j with Y | Y
   ·exact h<|z ▸ Y
   ·have:=Ip q
    rw[z]at this;exact absurd this<|Nat.not_lt_of_le Y
  rw[zD O];exact I.base.free b U q n h
 ·have:=I.base.Dp b i q
  rw[zD (d b _ this)];exact this
 ·have:=I.base.Dx b U u q
  rw[zD (d b _ this)];exact this
 ·obtain⟨m,this⟩:=I.base.DZ b t q
  exact⟨m,by rw[zD (d b _ this)];exact this⟩
 ·rw[zD (IT f2)];exact I.free
 ·rw[zD (k x c e)];exact I.A1 x c e
 ·obtain⟨e,n,r⟩:=I.pin p g
  exact⟨e,by rw[zD (l p g)];exact n,r⟩
 ·by_cases O:b=a
  ·subst O;rw[zG]at e;cases e;exact new
  ·rw[zD O]at e
   exact(I.f9 b u e).DA (λ_ _ _ q=>q) (λc q=>by rw[zD (d c _ q)];exact q) λc i q=>by rw[zD (d c _ q)];exact q
theorem oU{A:m9}{Q:VK}{us:List ej}{vs:List V}{CX:vl}{k:Nat}{f:eh}{C:r9}{ps:List Str}{sp:Sp}(F:rr X.prog X.w X.K X.mg X.base sX k f C ps sp)(O:oe k A)(U:C6 X.prog X.w X.K X.mg X.base A X.stack s H)(Y:Binds X.K C ps [])
 (I:Inv X pins σ H s) (r:fy vs us) (h:sp vs H Q E0):wpAny (eP X.prog X.w) A (call (.ref f) us) (EP X pins σ Q) (λ_ _=>False) s:=by
 have b:us.length=ps.length:=by rw[<- r.length];exact F.len _ _ _ _ h
 refine wpAny_call<|Pa (F.run A X.stack s H ⟨us,[]⟩ us vs Q E0 O U (by simpa using Y s us I.n7 (by simpa using b)) r h) λr d z=>?_;cases r with
 | error e=>exact z.elim
 | ok a=>
  cases a with
  | ret u=>exact I.after z
  | next=>exact Mx z
  | brk=>exact Mx z
  | cont=>exact Mx z
theorem uq(I:Inv X pins σ H s)(J:wI X pins H kS)(C:wI X pins H a)(O:s.heap.get? kS=cq ok)(L:s.heap.get? a=cq oa)(U : ∀v,ok.data ≠ .cell v)(S : ∀v,oa.data ≠ .cell v):Inv X (pins++[(kS,ok),(a,oa)]) σ H s:=
 I.N1 λp z=>by
  rcases MN.mp z with z | z
  ·exact I.pin p<|IF _ z
  ·rcases Il.mp z with rfl | z
   ·exact⟨O,J.1,J.2.1,J.2.2.1,U⟩
   ·rw[Ms.mp z];exact⟨L,C.1,C.2.1,C.2.2.1,S⟩
theorem sW(I:Inv X (pins++more) σ H s):Inv X pins σ H s:=I.N1 λp z=>I.pin p<|IF _<|OS _ z
end
noncomputable def KN(ps:List (Int×Int)):List D:=ps.map λp=>D.tup [.int p.1,.int p.2]
section
variable{X:Cx}{pins:RW}{σ:St}{F:List D->Option Res}{k:Nat}{f:eh}{fd:r9}{pr:List Str}{A:m9}{E:RQ}
theorem og(I:Inv X pins σ H s)(sub:gv H0 H)(r:Rep X.K H0 (.tup [.int i,.int j]) v)(C:RelV v u):A9 s.heap u i j:=by
 obtain⟨b,J,rfl,d,g⟩:=kO r;obtain⟨y,G,f,h,k⟩:=g.ow;obtain⟨F,as,a,l,m⟩:=k.ow;rw[m.su]at a;rw[f,a,ju h,ju l]at d;cases C;obtain⟨e,B,⟨o,x,p,n,w⟩,_⟩:=I.tuple<|mu sub d;obtain⟨z,O,rfl,U,Y⟩ : ∃z O,e=z::O/\RelV (.int i) z/\fy [.int j] O:=by
  cases B with
  | cons U Y=>exact⟨_,_,rfl,U,Y⟩
 obtain⟨E,rfl,A⟩:=yn Y;obtain⟨t,rfl⟩:=U;obtain⟨u,rfl⟩:=A;exact⟨b,o,_,n,t,u,rfl,x,p,w,rfl⟩
theorem lJ{a kS:eh}{vs:List ej}{xs:List V}{ds:List D}{ps:List (Int×Int)}{L:Nat}{P:PySem.Fin->eF->Prop}{H0 H:Hp}{s:eF}
 (G:rr X.prog X.w X.K X.mg X.base sX k f fd pr (t7 X.K pr.length F)) (h1:pr.length=1) (hr:oe k A) (bg:A.frames=cq X.stack) (O:Binds X.K fd pr [])
 (I:Inv X pins σ H s) (sub:gv H0 H) (rv:fy xs vs) (rd:el X.K H0 ds xs) (as:ps.length=vs.length) (bi:vs.length<64)
 (hF : ∀(i:Nat) d p,ds[i]? = cq d->ps[i]? = cq p->F [d]=cq (.val<|.tup [.int p.1,.int p.2]))
 (hk:s.heap.get? kS=cq (g5 "list" #[] 0)) (ha:s.heap.get? a=cq (g5 "list" #[] L)) (ax:kS≠a) (fk:wI X pins H kS) (fa:wI X pins H a)
 (h : ∀J H' C c,Inv X pins σ H' J->Ext H0 H C H'->J.heap.get? a=cq (g5 "list" (ML ((j4 ps).map λi=>vs.getD i IZ)) c)->wI X pins H' a->P (.done (.ret .none)) J) :
 wpAny (eP X.prog X.w) A (ksk_rest a (.ref f) d7 vs.toArray L<|.ref kS) P E s:=by
 have cb:=rv.length;have cd:=rd.length;have hz:vs.length<=gm:=by rw[Na];omega
 unfold ksk_rest;refine HS (Nr ?_);rw[List.forIn_toArray];refine HS (ksk_fold (λj J=>∃l n U e,Inv X (pins++[(kS,g5 "list" U e),(a,g5 "list" #[] L)]) σ l J/\Ext H0 H n l/\∃g:List V,fy g U.toList/\el X.K n (KN (ps.take j)) g) vs 0 s
  ⟨H,H0,#[],0,uq I fk fa hk ha (λv z=>by cases z) (λv z=>by cases z),Ext.refl sub,[],.nil,el.nil⟩ ?step ?done)
 case step=>
  rintro j x J hx ⟨l,n,U,e,Y,x1,g,B,m⟩;simp only[Lw]at m ⊢;have hj:j<vs.length:=(Io.mp hx).1;have hp:ps[j]? = cq ps[j]:=HX ⋯;have hd:ds[j]? = cq ds[j]:=HX ⋯;have b7:xs[j]? = cq xs[j]:=HX ⋯;obtain⟨u',b8,bm⟩:=rv.get b7;rw[hx]at b8;cases b8;obtain⟨x',b9,bn⟩:=rd.get hd;rw[b7]at b9;cases b9;have env:C6 X.prog X.w X.K X.mg X.base A X.stack J l:=⟨bg,Y.De.mod,Y.De.bs,Y.De.B4,Y.De.u4,Y.De.Dw,Y.De.f9,Y.De.bare⟩;refine HS (ND (Mq (oU (CX:=sX) (Q:=λv H'=>∃C,Ext n l C H'/\Rep X.K C (.tup [.int ps[j].1,.int ps[j].2]) v) G hr env O Y (vs:=[xs[j]]) (us:=[x]) (.cons bm .nil)
   ⟨n,[ds[j]],_,x1.sub,el.cons (bn.mono x1.s0) el.nil,by rw[h1];rfl,hF j _ _ hd hp,λv H' C S r2=>⟨C,S,r2⟩⟩) (λv M he=>?_) λ_ _ hF=>hF.elim))
  obtain⟨vv,T,t,bx,c0,S,r2⟩:=he
  try dsimp only
  obtain⟨r,W,_⟩:=t.pin (kS,g5 "list" U e) (IF _ (IF _ (.head _)));obtain⟨na,Z,_⟩:=t.pin (a,g5 "list" #[] L) (IF _ (IF _ (.tail _ (.head _))));have c1:=sW t;have N:wI X pins T kS:=⟨W,fk.2⟩;have R:wI X pins T a:=⟨Z,fa.2⟩;have kl:U.size=j:=by have:=B.length;have:=m.length;simp only[KN,IE,Nh,LN]at *;omega
  refine HS (NG r rfl ?_ (by rw[kl,Na];omega) (Lr (Nat.le_of_eq (Array.size_push ..)) (by rw[kl,Na];omega)));obtain⟨c2,c3⟩ : ∃c2,(M.heap.update kS (IW (·.push v))).get? kS=cq (g5 "list" (U.push v) c2):=⟨_,OZ r (·.push v)⟩;have I3:=c1.C1 (h':=M.heap.update kS (IW (·.push v))) (t':=M.toks) (fp:=[kS]) (λb o O q=>(LL _ _ (λz=>O (by rw[z];exact List.mem_singleton_self _))).trans q) (λb O=>by rw[Ms.mp O];exact N);have c5:(M.heap.update kS (IW (·.push v))).get? a=cq (g5 "list" #[] L):=(LL _ _ ax).trans na;refine Ie ⟨rfl,T,c0,U.push v,c2,uq I3 N R c3 c5 (λv z=>by cases z) (λv z=>by cases z),x1.trans S,g++[vv],?_,?_⟩
  ·rw[Array.toList_push];exact B.append<|.cons bx .nil
  ·have ek:ps.take (j+1)=ps.take j++[ps[j]]:=by rw[List.take_add_one,hp];simp
   rw[ek];unfold KN at m ⊢;rw[LD];exact(m.mono S.s0).append (el.cons r2 el.nil)
 case done=>
  rintro J ⟨l,n,U,e,Y,x1,g,B,m⟩;rw[Lw,<- as,List.take_length]at m;obtain⟨r,W,_⟩:=Y.pin (kS,g5 "list" U e) (IF _ (IF _ (.head _)));obtain⟨na,Z,_⟩:=Y.pin (a,g5 "list" #[] L) (IF _ (IF _ (.tail _ (.head _))));have bd:=sW Y;have N:wI X pins l kS:=⟨W,fk.2⟩;have R:wI X pins l a:=⟨Z,fa.2⟩
  try dsimp only
  refine HS<|listItems_at r rfl ?_;have l1:=B.length;have l2:=m.length;simp only[KN,IE]at l2;have ek:U=U.toList.toArray:=by simp
  rw[ek]at r ⊢;refine rB r na ax ⋯ as bi (λi hi=>?_) λh' c hsz kp hA=>?_
  ·have c7:i<ps.length:=by omega
   obtain⟨y,ey,ry⟩:=m.get (i:=i) (d:= .tup [.int (ps.getD i (0,0)).1,.int (ps.getD i (0,0)).2]) (by unfold KN;simp[c7]);obtain⟨u,hu,ru⟩:=B.get ey;have:U.toList[i]=u:=by rw[HX hi]at hu;exact IX hu
   rw[this];exact og bd x1.sub ry ru
  ·have t:=bd.C1 (h':=h') (t':=J.toks) (fp:=[a,kS]) (λb o O q=>kp b o (λz=>O<|by rw[z];simp) (λz=>O<|by rw[z];simp) q) (λb O=>by
    rcases Il.mp O with rfl | O
    ·exact R
    ·rw[Ms.mp O];exact N)
   exact h _ l n c t x1 hA R
end
noncomputable def pP:Res->Option (Int×Int)
 | .val d=>match d with
  | .tup a=>match a with
   | [x,y]=>(nr x).bind λi=>(nr y).map λj=>(i,j)
   | _=>dn
  | _=>dn
 | .own _=>dn
noncomputable def K8(F:List D->Option Res):List D->Option (List<|Int×Int)
 | []=>cq []
 | d::r=>((F [d]).bind pP).bind λp=>(K8 F r).map λl=>p::l
noncomputable def cn(F:List D->Option Res)(f:CO (Sk×List D)):CO (List D):=λd=>(f d).bind λa=>match a.1 with
 | .L=>(K8 F a.2).bind λb=>if a.2.length<64 then cq ((j4 b).map λi=>a.2.getD i .fh)else dn
 | _=>dn
theorem Ka(C:fy xs vs) : ∀(o:List Nat),(∀i∈o,i<xs.length)->fy (o.map λi=>xs.getD i .fh) (o.map λi=>vs.getD i IZ)
 | [],_=> .nil
 | i::o,h=>by have a:=h i Iy;refine .cons ?_ (Ka C o λj z=>h j<|Im _ z);obtain⟨v,I,g2⟩:=C.get (i:=i) (x:=xs[i])<|HX a;show RelV (xs.getD i V.fh) (vs.getD i IZ);rw[HY,HY,HX a,I];exact g2
section
variable{X:Cx}{pins:RW}{σ:St}{F:List D->Option Res}{k:Nat}{f:eh}{fd:r9}{pr:List Str}
theorem aN
 (G:rr X.prog X.w X.K X.mg X.base sX k f fd pr (t7 X.K pr.length F)) (h1:pr.length=1) (hr:oe (k+1+1) X.A) (O:Binds X.K fd pr [])
 (I:Inv X pins σ H s) (sub:gv H0 H) (hl:s.heap.IsList l vs.toArray) (L:fy xs vs) (rd:el X.K H0 ds xs) (S:ps.length=vs.length) (Z:vs.length<64)
 (hF : ∀(i:Nat) d p,ds[i]? = cq d->ps[i]? = cq p->F [d]=cq (.val<|.tup [.int p.1,.int p.2]))
 (h : ∀J H' C D,H D=dn->H' D=dn->Ext H0 H C H'->Inv X pins σ (upd H' D<|.lst<|(j4 ps).map λi=>xs.getD i .fh) J->Q (.ref D) J) :
 wpAny (eP X.prog X.w) X.A (call (.builtin "sorted") [.ref l] [(Ld "key",.ref f)]) Q E s:=by
 have b0:=L.length;have U:vs.length<=gm:=by rw[Na];omega
 refine call_function_entry_kw kind_sorted plain_sorted entry_sorted (ksk_s1 _ _) ?_;unfold o8.«sorted»;refine HS (m:=checkCount "sorted" 1 1 _) (Ie ?_);refine HS (collect_list hl ?_ U);refine HS (PH ?_ U);have a:((s.heap.push (g5 "list" #[] 0)).update s.heap.objs.size (IW (· ++ vs.toArray))).objs.size=s.heap.objs.size+1:=by rw[ME,PN]
 have Y:(((s.heap.push (g5 "list" #[] 0)).update s.heap.objs.size (IW (· ++ vs.toArray))).push (g5 "list" vs.toArray 0)).get? (s.heap.objs.size+1)=cq (g5 "list" vs.toArray 0):=by rw[<- a];exact Iq _ rfl
 have keep : ∀b o,s.heap.get? b=cq o->(((s.heap.push (g5 "list" #[] 0)).update s.heap.objs.size (IW (· ++ vs.toArray))).push (g5 "list" vs.toArray 0)).get? b=cq o:=λb o q=>by have e:b<s.heap.objs.size:=Ip q;rw[MV _ _ _ (by rw[a];exact IJ (Lo e)),OX _ _ _ _ (IJ e),MV _ _ _ (IJ e)];exact q
 have j:(((s.heap.push (g5 "list" #[] 0)).update s.heap.objs.size (IW (· ++ vs.toArray))).push (g5 "list" vs.toArray 0)).objs.size=s.heap.objs.size+2:=by rw[PN,a]
 show wpAny _ _ _ _ _ {s with heap:=((s.heap.push (g5 "list" #[] 0)).update s.heap.objs.size (IW (· ++ vs.toArray))).push (g5 "list" vs.toArray 0)};rw[a];generalize ((s.heap.push (g5 "list" #[] 0)).update s.heap.objs.size (IW (· ++ vs.toArray))).push (g5 "list" vs.toArray 0)=g at Y keep j ⊢;have N:Inv X pins σ H {s with heap:=g}:=I.kept (t':=s.toks) keep;have u:wI X pins H (s.heap.objs.size+1):=I.B6 (NY _) (I.f9.fresh (NY _));refine HS (Mp (wpAny_call_entry_kw slot_list_sort ⟨_,Y,rfl⟩ entry_list_sort ?body (ksk_l1 _ _)))
 case body=>
  show wpAny (eP X.prog X.w) X.A.in1.in1 (o8.«list.sort» ⟨[.ref (s.heap.objs.size+1)],[(Ld "key",.ref f)]⟩) _ _ _;rw[ksk_t1];unfold ksk_tree;refine HS (TV Y rfl ?_);refine HS (NG Y rfl ?_ (by rw[Ik];exact U) (Lp _));obtain⟨r,n⟩ : ∃r,(g.update (s.heap.objs.size+1) (IW λ_=>(#[]:Array ej))).get? (s.heap.objs.size+1)=cq (g5 "list" #[] r):=⟨_,OZ Y λ_=>#[]⟩;refine HS (Px n rfl ?_);refine HS (Oz ?_ (by show vs.length<=_;exact U));refine HS (PH ?_ (Lp _));refine Mp ?_;have y:=N.C1 (h':=g.update (s.heap.objs.size+1) (IW λ_=>(#[]:Array ej))) (t':=s.toks) (fp:=[s.heap.objs.size+1]) (λb o O q=>(LL _ _ (λz=>O (by rw[z];exact List.mem_singleton_self _))).trans q) (λb O=>by rw[Ms.mp O];exact u);have B:=y.kept (h':=((g.update (s.heap.objs.size+1) (IW λ_=>(#[]:Array ej))).push (g5 "tuple" vs.toArray 0)).push (g5 "list" #[] 0)) (t':=s.toks) (λb o q=>HV _ (HV _ q));have x:((g.update (s.heap.objs.size+1) (IW λ_=>(#[]:Array ej))).push (g5 "tuple" vs.toArray 0)).objs.size=s.heap.objs.size+3:=by rw[PN,ME,j]
  have R:wI X pins H (s.heap.objs.size+3):=I.B6 (IM _ _) (I.f9.fresh (IM _ _));refine lJ (A:=X.A.in1.in1) (ps:=ps) (xs:=xs) (ds:=ds) (H0:=H0) (H:=H) (s:={s with heap:=((g.update (s.heap.objs.size+1) (IW λ_=>(#[]:Array ej))).push (g5 "tuple" vs.toArray 0)).push (g5 "list" #[] 0)}) (kS:=((g.update (s.heap.objs.size+1) (IW λ_=>(#[]:Array ej))).push (g5 "tuple" vs.toArray 0)).objs.size)
   G h1 hr.in1.in1 I.De.in1.in1.frames O B sub L rd S Z hF (Iq _ rfl) (HV _<|HV _ n) (by rw[x];exact λz=>absurd (Nat.add_left_cancel z) ⋯) (by rw[x];exact R) u λJ H' C c M x3 T t=>⟨_,rfl,?_⟩
  refine Ie ⟨_,rfl,h J H' C _ (I.f9.fresh<|NY _) t.1 x3<|eH M t ?_⟩;have as : ∀i∈j4 ps,i<xs.length:=λi W=>by have:=(jO ps).mem_iff.mp W;have:=HW.mp this;omega
  have P:((j4 ps).map λi=>xs.getD i V.fh).length=vs.length:=by rw[IE,(jO ps).length_eq,Ls,S]
  exact⟨by rw[P];exact U,(j4 ps).map λi=>vs.getD i IZ,c,Ka L _ as,T⟩
end
theorem K7 : ∀{ds:List D} {ps:List (Int×Int)},K8 F ds=cq ps->ps.length=ds.length
 | [],ps,h=>by cases h;rfl
 | d::r,ps,h=>by obtain⟨p,_,a⟩:=zb h;obtain⟨l,z,I⟩:=zy a;subst I;simp[K7 z]
theorem az(h:pP r=cq p):r = .val (.tup [.int p.1,.int p.2]):=by
 unfold pP at h;split at h
 ·split at h
  ·split at h
   ·obtain⟨i,a,b⟩:=zb h
    obtain⟨j,z,I⟩:=zy b;subst I;rw[jV a,jV z]
   ·cases h
  ·cases h
 ·cases h
theorem Wv : ∀{ds:List D} {ps:List (Int×Int)},K8 F ds=cq ps->∀(i:Nat) d p,ds[i]? = cq d->ps[i]? = cq p->F [d]=cq (.val<|.tup [.int p.1,.int p.2])
 | [],ps,h,i,d,p,hd,hp=>by simp at hd
 | c::r,ps,h,i,d,p,hd,hp=>by
  obtain⟨q,e,f⟩:=zb h;obtain⟨l,z,I⟩:=zy f;subst I;cases i with
  | zero=>
   simp at hd hp;subst hd hp;obtain⟨O,a,b⟩:=zb e;rw[a,az b]
  | succ i=>exact Wv z i d p (by simpa using hd) (by simpa using hp)
section
variable{X:Cx}{sc:hG}{N L:List Str}{k j:Nat}{e:eA}{fq:CO (Sk×List D)}{F:List D->Option Res}{x:Str}{p p2 pos TR:gu}
theorem iJ(S:il X.prog X.w X.K X.mg X.base j x 1 F)(h:SX X sc N L k)(Z:j+1+1<=k)(c:yp sc "sorted" = di)(z:X.mg "sorted" = dn)(J:yp sc x=di)(hq:PQ X e fq)
 (C:f7 [e] X.env=[(d7,eB e X.env)]:=by rfl) :
 PO X (.Call (.Name "sorted" p) [e] [⟨cq "key",.Name x p2,TR⟩] pos) (cn F fq):=by
 intro b s σ H Q I m;obtain⟨H0,γ,out,rc,O,q⟩:=m;obtain⟨⟨kk,ds⟩,E,O⟩:=zb O;obtain⟨M,fd,pr,hn,G,hm,hk,R⟩:=S.ex;cases kk with
 | T=>cases O
 | L=>
  have O:((K8 F ds).bind λps=>if ds.length<64 then cq ((j4 ps).map λi=>ds.getD i .fh)else dn)=cq out:=O;obtain⟨ps,o,O⟩:=zb O;by_cases t:ds.length<64
  ·rw[RY t]at O
   cases O;refine NF (kH (u:= .builtin "sorted") I (h.gl c).1 z ⋯ (callWith_kw ?_ (by rw[C];rfl) (by rw[C];rfl)) ⋯ ⋯);refine ft ((jl hq qo C) pos b s σ H (λvs d=>∃a xs U,vs=[.ref a]/\Ext H0 H U d/\gB X.K d a xs/\el X.K U ds xs) I ⟨H0,γ,.L,ds,rc,E,λa xs d U x1 g1 g2 Y=>⟨a,xs,U,rfl,x1,g1,Y⟩⟩) λus y m=>?_;obtain⟨vs,d,l,rv,a,xs,U,rfl,x1,g1,Y⟩:=m;obtain⟨u,rfl,ru⟩:=yn rv;cases ru;show wpAny _ _ (evalAll ((do let v <- eB (.Name x p2) X.env;DX pos;pure v)::[])) _ _ y;refine wpAny_evalAll_cons (HS (dS l (h.gl J).1 hm (HS (PF (Ie ?_))) (h.gl J).2.2));refine wpAny_evalAll_nil ?_;obtain⟨B,r,pl,hz⟩:=l.list g1;have l1:=r.length;have l2:=Y.length;have l3:=K7 o;show wpAny _ _ (call (.builtin "sorted") [.ref a] [(Ld "key",.ref M)]) _ _ y;refine aN (H0:=U) (ps:=ps) (xs:=xs) (ds:=ds) (vs:=B) (F:=F) G hn (h.room.mono Z) R l x1.sub pl.isList r Y ⋯ ⋯ (Wv o) λs' H' g D P n f A=>?_;refine⟨.ref D,_,A,rfl,q D _ _ g (x1.trans (f.trans (Ext.hide f.sub n _))) (xW x1.s1 P) (jf f.sub n) zG ?_⟩;refine ZK (Y.mono f.s0) _ λi W=>?_;have:=(jO ps).mem_iff.mp W;have:=HW.mp this;omega
  ·rw[EQ t]at O;cases O
end
section
variable{X:Cx}{sc:hG}{N L:List Str}{k j n i:Nat}{a b c e:eA}{es:List eA}{f:CO D}{g:CO (List D)}{p pos:gu}{x:Str}{st Uz UA:jn}{xE:List jn}{F:List D->Option Res}
open Classical in
def Dj(H:Hp)(p:eh):Hp:=λc=>if c=p then dn else H c
theorem M5{H:Hp}{p c:eh}(h:c≠p):Dj H p c=H c:=EQ h
end
section
variable{X:Cx}{sc:hG}{N L:List Str}{k j n i:Nat}{a b c e:eA}{es:List eA}{f:CO D}{g:CO (List D)}{p pos:gu}{x:Str}{st:jn}{body xE:List jn}{F:List D->Option Res}
theorem Wm{i:Nat}{f:CO D} : ∀γ z,jB i f γ=cq z->∃γ',z = .next γ':=λγ z h=>by obtain⟨d,_,e⟩:=zy h;exact⟨_,e.symm⟩
end
mutual
def RI:D->Bool
 | .tup a=>G5 a
 | .lst a=>G5 a
 | .m7 _ _=>d7
 | .ml _ _=>d7
 | _=>di
def G5:List D->Bool
 | []=>di
 | x::xs=>RI x && G5 xs
end
mutual
theorem Rep.less{K:HR}{H:Hp}{p:eh}{C:f6->Prop}(I:H p=cq (.ext C)) : ∀{d:D} {v:V},RI d=di->Rep K H d v->Rep K (Dj H p) d v
 | .fh,_,_,h=>h
 | .bl _,_,_,h=>h
 | .int _,_,_,h=>h
 | .str _,_,_,h=>h
 | .tup ds,v,n,h=>by
  obtain⟨a,b,f,g,i⟩:=(show ∃a b,v = .ref a/\gR K H a b/\el K H ds b from h);refine(show ∃a b,v = .ref a/\gR K (Dj H p) a b/\el K (Dj H p) ds b from⟨a,b,f,?_,el.less I n i⟩);have z : ∀{u:HO},(∀C,u ≠ .ext C)->H a=cq u->a≠p:=λO q e=>by rw[e,I]at q;exact O _ (IX q).symm
  rcases g with(hq | ⟨o',hq⟩) | hq
  ·exact .inl (.inl<|by rw[M5 (z (λ_=>by simp) hq)];exact hq)
  ·exact .inl<|.inr ⟨o',by rw[M5 (z (λ_=>by simp) hq)];exact hq⟩
  ·exact .inr hq
 | .lst ds,v,n,h=>by
  obtain⟨a,b,f,g,i⟩:=(show ∃a b,v = .ref a/\gB K H a b/\el K H ds b from h);refine(show ∃a b,v = .ref a/\gB K (Dj H p) a b/\el K (Dj H p) ds b from⟨a,b,f,?_,el.less I n i⟩);have z : ∀{u:HO},(∀C,u ≠ .ext C)->H a=cq u->a≠p:=λO q e=>by rw[e,I]at q;exact O _ (IX q).symm
  rcases g with(hq | ⟨o',hq⟩) | hq
  ·exact .inl (.inl<|by rw[M5 (z (λ_=>by simp) hq)];exact hq)
  ·exact .inl<|.inr ⟨o',by rw[M5 (z (λ_=>by simp) hq)];exact hq⟩
  ·exact .inr hq
 | .m7 _ _,_,n,_=>nomatch n
 | .ml _ _,_,n,_=>nomatch n
theorem el.less{K:HR}{H:Hp}{p:eh}{C:f6->Prop}(z:H p=cq (.ext C)) : ∀{ds:List D} {xs:List V},G5 ds=di->el K H ds xs->el K (Dj H p) ds xs
 | [],_,_,h=>h
 | d::ds,xs,n,h=>by obtain⟨x,r,a,b,e⟩:=(show ∃x r,xs=x::r/\Rep K H d x/\el K H ds r from h);have n:(RI d && G5 ds)=di:=n;rw[Ir]at n;exact(show ∃x r,xs=x::r/\Rep K (Dj H p) d x/\el K (Dj H p) ds r from⟨x,r,a,Rep.less z n.1 b,el.less z n.2 e⟩)
end
section
variable{X:Cx}{sc:hG}{N L:List Str}{k j n i:Nat}{a b c e:eA}{es:List eA}{g:CO (List D)}{p pos:gu}{x y:Str}{st:jn}{body xE:List jn}{F:List D->Option Res}
open Classical in
end
noncomputable def Kg(d:D):Option (List D×List D×D):=match d with
 | .tup [.lst xs,.lst ys,z]=>cq (xs,ys,z)
 | _=>dn
noncomputable def W4(r:List D×List D×D):D:= .tup [.lst r.1,.lst r.2.1,r.2.2]
noncomputable def V3(F:List D->Option Res)(g:CO (List D)):CO D:=λa=>(zI F g a).bind λd=>(Kg d).map W4
noncomputable def ik(i:Nat)(f:CO D)(t:CO Bool)(g:CO D)(G:CO Fl):CO Fl:=λa=>if (a.set i .no).all sO=di/\i<a.length then
 ((f a).bind Kg).bind λr=>(t<|a.set i<|.val<|W4 r).bind λb=>if b=di then cq (.ret<|.val<|.bl d7)else
   if r.1.length<lim then (g<|a.set i<|.val<|W4 r).bind λ_=>G (a.set i .no)else dn
 else dn
theorem Zv{d:D}{r:List D×List D×D}(h:Kg d=cq r):d=W4 r:=by
 unfold Kg at h;split at h
 ·cases h;rfl
 ·cases h
structure W3(K:HR)(H sh:Hp)(r:List D×List D×D)(t a b:eh)(xs ys:List V)(v:V):Prop where
 na:H a=dn
 nb:H b=dn
 tu:gR K sh t [.ref a,.ref b,v]
 la:sh a=cq (.lst xs)
 lb:sh b=cq (.lst ys)
 ra:el K sh r.1 xs
 rb:el K sh r.2.1 ys
 rv:Rep K sh r.2.2 v
noncomputable def S6(K:HR)(f:CO D):TE:=λk H Q=>∃g h r,RC K g H k h/\f h=cq (W4 r)/\∀t a b i j v e d,Ext g H d e->W3 K H d r t a b i j v->Q (.ref t) e
noncomputable def Uc(K:HR)(n:Nat)(F:List D->Option Res):Sp:=λh H Q _=>∃e f r,gv e H/\el K e f h/\f.length=n/\F f=cq (.val<|W4 r)/\∀t a b i j v g d,Ext e H d g->W3 K H d r t a b i j v->Q (.ref t) g
structure PX(P:i8)(w:hB)(K:HR)(mg:RJ)(base:f6)(k:Nat)(x:Str)(n:Nat)(F:List D->Option Res):Prop where
 ex : ∃(f:eh) (fd:r9) (ps:List Str),ps.length=n/\rr P w K mg base sX k f fd ps (Uc K ps.length F)/\mg x=cq (.ref f)/\Nu K (.ref f)=di/\Binds K fd ps []
noncomputable def O0(K:HR)(F:CO Fl):TS:=λD j H=>∃E0 E g f r,RS K E0 E g H j f/\F f=cq (.ret<|.val<|W4 r)/\∀t a b h i v e d,Ext E0 E d e->W3 K E d r t a b h i v->D.rt (.ref t) e
theorem W3.rep{K:HR}{H C:Hp}{r:List D×List D×D}{t a b:eh}{xs ys:List V}{v:V}(h:W3 K H C r t a b xs ys v):Rep K C (W4 r) (.ref t):=
 ⟨t,_,rfl,h.tu,el.cons (yv (gB.of h.la) h.ra)<|el.cons (yv (gB.of h.lb) h.rb)<|el.cons h.rv el.nil⟩
theorem W3.on{K:HR}{H G C:Hp}{r:List D×List D×D}{t a b:eh}{xs ys:List V}{v:V}(h:W3 K H C r t a b xs ys v)(s:gv G H):W3 K G C r t a b xs ys v:=
 ⟨QB s h.na,QB s h.nb,h.tu,h.la,h.lb,h.ra,h.rb,h.rv⟩
section
variable{P:i8}{w:hB}{K:HR}{mg:RJ}{base:f6}
theorem Hr{x:Str}{st:jn}{N ps:List Str}{k:Nat}{F:CO Fl}(A:i7 K mg x st ps)(C:fE N ps st=di)
 (U : ∀X:Cx,X.prog=P->X.w=w->X.K=K->X.mg=mg->X.base=base->SX X (jz st) N N k->X.xe=(λ_ _=>False)->p8 X (kz st) (O0 X.K F)) :
 PX P w K mg base (k+1) x ps.length (jG N.length F):=by
 obtain⟨f,o,I,Y,p⟩:=A.ex;have S:=Xj C;refine⟨f,o,ps,rfl,?_,p,I.kp,.all Y⟩;refine I.ok S (λy H Q E h=>?_)<|λi A d s H y Q E t h=>⟨_,U _ rfl rfl rfl rfl rfl ⟨rfl,rfl,S.nd,rfl,t,λ_ _=> .inl rfl⟩ rfl,?_⟩
 ·obtain⟨b,n,r,_,z,e,_⟩:=h
  rw[z.length,e]
 obtain⟨b,n,r,u,z,e,m,q⟩:=h;have B:ps.length<=N.length:=by have:=congrArg List.length S.pre;rw[Nh]at this;omega
 obtain⟨O,j,a⟩:=zb m;have l:O = .ret (.val<|W4 r):=by
  cases O with
  | ret r=>cases a;rfl
  | next g=>cases a
  | brk g=>cases a
  | cont g=>cases a
 subst l;exact⟨b,H,b,_,r,V4 u z ⋯,j,q⟩
end
theorem oB{K:HR}{H:Hp}{t a:eh}{vs xs:List V}{o:HO}(h:gR K H t vs)(C:H a=cq (.lst xs)):gR K (upd H a o) t vs:=by
 rcases h with(h | ⟨o,h⟩) | h
 ·exact .inl (.inl<|by rw[zD (λz=>by rw[z,C]at h;cases h)];exact h)
 ·exact .inl<|.inr ⟨o,by rw[zD (λz=>by rw[z,C]at h;cases h)];exact h⟩
 ·exact .inr h
theorem Wd{K:HR}{E0 E I Z H0 H:Hp}{S:St}{γ:Ctx}{i:Nat}{u:Option V}{a:eh}{o:HO}(L:RC K I Z S γ)(C:(γ.set i .no).all sO=di)(sE:gv E0 I)(s:gv I H0)(x:Ext E0 E H0 H)(ha:I a=dn)(J:E a=dn) :
 RS K E0 E (upd H0 a o) (upd H a o) (S.set i u) (γ.set i .no)/\gv I (upd H0 a o):=by
 have O:gv I (upd H0 a o):=λc b q=>by rw[zD (λz=>by rw[z,ha]at q;cases q)];exact s _ _ q
 have f:gv (upd H0 a o) (upd H a o):=Kv x.sub;refine⟨RS.pl (RC.pl f (by simp[L.len]) (λm d e=>?_) C) ⟨sE.trans O,λc b q=>?_,f,λc h U=>?_⟩ C,O⟩
 ·rcases zB e with⟨rfl,Y,_⟩ | ⟨g,Y⟩
  ·cases Y
  ·obtain⟨v,g1,g2⟩:=L.val m d Y
   exact⟨v,by rw[Ib (IT g)];exact g1,g2.mono O⟩
 ·rw[zD (λz=>by rw[z,J]at q;cases q)];exact x.s1 c b q
 ·rw[zD (λz=>by rw[z]at U;exact U J)];exact x.new c h U
section
variable{X:Cx}{sc:hG}{N L:List Str}{k j n i:Nat}{a b c e:eA}{es:List eA}{f:CO D}{g:CO (List D)}{p pos:gu}{x:Str}{st:jn}{body xE:List jn}{F:List D->Option Res}
theorem bU{F G:CO Fl}(S : ∀γ z,F γ=cq z->∃γ',z = .next γ')(C:m6 X st F)(J:p8 X xE (O0 X.K G)):p8 X (st::xE) (O0 X.K<|zM F G):=by intro a s i H D I U;refine(kR C J) a s i H D I ?_;obtain⟨E0,E,e,γ,r,Y,O,f⟩:=U;obtain⟨z,d,O⟩:=zb O;refine⟨E0,E,e,γ,z,Y,d,?_⟩;obtain⟨γ',h⟩:=S γ z d;subst h;exact λj k b g=>⟨E0,E,b,_,r,g,O,f⟩
theorem tI(i:Nat){C f1:CO (List D)}{f2:CO D}{Y tp rp:gu}{kx:Nat}(h:SX X sc N L k)(cx:JI sc N i x=di)(h1:PS X st (YI (tO X.K f1)<|k8 i))(h0:PO X a C)(h2:PV X c f2)
 (Z:f7 [a,.Name x Y,c] X.env=(d7,eB a X.env)::f7 [.Name x Y,c] X.env:=by rfl) (bn:f7 [.Name x Y,c] X.env=(d7,eB (.Name x Y) X.env)::f7 [c] X.env:=by rfl) (br:f7 [c] X.env=(d7,eB c X.env)::f7 [] X.env:=by rfl) :
 p8 X [st,.Return (cq (.Tuple [a,.Name x Y,c] kx tp)) rp] (O0 X.K<|zM (jB i<|jZ f1)<|qA<|xx<|zc (jZ C)<|zc (ze i)<|zc f2 zJ):=by
 intro m s σ H S I hZ;refine(kR h1<|Xq<|KH<|nj<|jl h0 (jl (h.var cx) (jl h2 qo br) bn) Z) m s σ H S I ?_;obtain⟨E0,E,T,u,r,n,j,W⟩:=hZ;obtain⟨fl,e1,j⟩:=zb j;obtain⟨d,e2,rfl⟩:=zy e1;obtain⟨fs,e3,rfl⟩:=zy e2;have j:qA (xx<|zc (jZ C)<|zc (ze i)<|zc f2 zJ) (u.set i<|.val<|.lst fs)=cq (.ret<|.val<|W4 r):=j;obtain⟨dd,e,e5⟩:=zy j;obtain⟨ws,f,e⟩:=zb e;obtain⟨d0,e7,f⟩:=zb f;obtain⟨r1,g,f⟩:=zy f;obtain⟨d1,O,g⟩:=zb g;obtain⟨r2,b,g⟩:=zy g;obtain⟨p,c6,b⟩:=zb b;obtain⟨Q,c7,b⟩:=zy b;cases c7;subst b g f;obtain⟨gs,c8,rfl⟩:=zy e7;have A:i<u.length:=Lv λz=>by
  have:(u.set i<|.val<|.lst fs)[i]? = dn:=by rw[List.getElem?_eq_none_iff,List.length_set];omega
  unfold ze at O;rw[this]at O;cases O
 have O:d1 = .lst fs:=by unfold ze at O;rw[Iz A]at O;cases O;rfl
 subst O;have w:W4 r = .tup [.lst gs,.lst fs,p]:=by have e:cq (D.tup [.lst gs,.lst fs,p])=cq dd:=e;cases e;cases e5;rfl
 obtain⟨z0,z1,z2⟩:=r;have w:D.tup [.lst z0,.lst z1,z2] = .tup [.lst gs,.lst fs,p]:=w;cases w;refine⟨T,u,fs,n.rc,e3,λl as H1 cd x1 g1 g2 g3 G=>?_⟩;have y1:=x1.show g1 g2 g3 n.rc.sub;have ci:Rep X.K (upd cd l<|.lst as) (.lst fs) (.ref l):=yv (gB.of zG)<|G.mono<|z7 g2 _;have o:=(n.step y1).x6 (i:=i) ci;refine⟨_,_,gs,o.rc,c8,λP cj H2 cw x2 J M k3 k4=>?_⟩;have y:=x2.show J M k3 o.rc.sub;have B:=o.step y;refine⟨.ref l,Iz (by rw[n.rc.len];exact A),_,_,p,B.rc,c6,λR H3 cz x3 Q=>⟨(show 3<=gm by decide),λt ht=>?_⟩⟩;have F:=B.step x3;have U:=Ext.alloc F.rc.sub ht<|.tup [.ref P,.ref l,R];exact W t P l cj as R _ _ (F.ext.trans U) ⟨QB o.ext.s1 J,QB n.ext.s1 g1,gR.of zG,U.s0 _ _<|x3.s0 _ _ zG,U.s0 _ _<|x3.s0 _ _<|y.s0 _ _ zG,((k4.mono<|z7 M _).mono x3.s0).mono U.s0,(((G.mono<|z7 g2 _).mono y.s0).mono x3.s0).mono U.s0,Q.mono U.s0⟩
theorem uI(O:PX X.prog X.w X.K X.mg X.base j x n F)(U:j<=k)(h:SX X sc N L k)(c:yp sc x=di)(C:C9 X (e::es) n g)
 (Y:f7 (e::es) X.env=(d7,eB e X.env)::f7 es X.env:=by rfl) (J:(tw pos<|starEach es X.env).any (·.1)=d7:=by rfl) :
 PE X (.Call (.Name x p) (e::es) [] pos) (S6 X.K<|V3 F g):=by
 obtain⟨fa,fd,ps,W,G,T,S,R⟩:=O.ex;subst W;refine qg (YZ (E:=E0) G (h.room.mono U) (h.gl c).1 T S R .nil pM C.1 (h.gl c).2.2 Y J) λσ H Q P=>?_;obtain⟨u,o,r,rc,z,q⟩:=P;obtain⟨d1,f,z⟩:=zb z;obtain⟨r0,A,z⟩:=zy z;obtain⟨I,l,f⟩:=zb f;obtain⟨m,B,f⟩:=zy f;rw[Zv A,z]at f;have M:m = .val (W4 r):=by
  cases m with
  | val d=>cases f;rfl
  | own ds=>cases f
 subst M;exact⟨u,o,I,rc,l,λvs H1 y x1 Z=>⟨y,I,r,x1.sub,by simpa using Z,C.2 o I l,B,λt a b xs ys v s i x2 w=>q t a b xs ys v s i (x1.trans x2)<|w.on x1.s1⟩⟩
theorem cS(i:Nat){Z a J b1:eA}{p0 p1 p2 np C cpos b8 p4 S ap ar b9:gu}{t:CO Bool}{g:CO D}{G:CO Fl}(h:SX X sc N L k)(cx:JI sc N i x=di)(h1:PS X st (YI (S6 X.K f)<|k8 i))(hc:nf X c t)(h0:PV X Z (zA<|.bl d7))(c8:PV X J (zA<|.int 0))(ha:PV X a g)(c9:PV X b1 (zA<|.int 1))(h5:WT X xE G)
 (cb:JB J:=by intro _ _;rfl) (cd:JB b1:=by intro _ _;rfl) (hs:f7 [a] X.env=[(d7,eB a X.env)]:=by rfl)
 (ce:F6 (.Subscript (.Name x np) J p2) "append" X.env (eB (.Subscript (.Name x np) J p2) X.env)=eB (.Subscript (.Name x np) J p2) X.env:=by rfl)
 (ch:((tw cpos<|starEach [a] X.env).all (λx=> !x.1) && (Ri cpos<|keywordEach [] X.env).all (λx=>x.1.isSome)
   && decide ([a].length+([]:List DI).length+(if ([]:List DI).isEmpty then 0 else 1)<30))=di:=by rfl)
 (ci:(C.endLine==cpos.line)=di:=by rfl) (cj:B9 (.Call (.Attribute (.Subscript (.Name x np) J p2) "append" C) [a] [] cpos) dn b8.line X.env=pure d7:=by rfl)
 (cl:F6 (.Subscript (.Name x S) b1 p4) "clear" X.env (eB (.Subscript (.Name x S) b1 p4) X.env)=eB (.Subscript (.Name x S) b1 p4) X.env:=by rfl) (cm:(ap.endLine==ar.line)=di:=by rfl)
 (co:B9 (.Call (.Attribute (.Subscript (.Name x S) b1 p4) "clear" ap) [] [] ar) dn b9.line X.env=pure d7:=by rfl) :
 WT X (st :: .If c [.Return (cq Z) p0] [] p1 :: .Expr (.Call (.Attribute (.Subscript (.Name x np) J p2) "append" C) [a] [] cpos) b8 :: .Expr (.Call (.Attribute (.Subscript (.Name x S) b1 p4) "clear" ap) [] [] ar) b9::xE) (ik i f t g G):=by
 intro p s σ H D I hZ;have cr:=YT (pL Oi PySem.F.slot_list_append PySem.F.type_list_append K3 (iP eD (h.var cx (pos:=np)) c8 cb) (jl ha qo hs) ce ch ci hs rfl) cj;have cs:=YT (Ad Oi PySem.F.slot_list_clear PySem.F.type_list_clear lz (iP eD (h.var cx (pos:=S)) c9 cd) cl cm) co;refine(kR h1<|kR (uP hc (Xq<|KH h0) cT)<|kR cr<|kR cs h5) p s σ H D I ?_;obtain⟨E0,E,B,γ,fl,U,O,bf⟩:=hZ;unfold ik at O;split at O
 ·next cv=>
  obtain⟨bg,cw⟩:=cv;obtain⟨r,Z,O⟩:=zb O;obtain⟨d,e1,Z⟩:=zb Z;obtain⟨bb,e2,O⟩:=zb O;rw[Zv Z]at e1;refine⟨B,γ,r,U.rc,e1,λt a b n R v H1 cy x1 Y=>?_⟩;have w:=(U.step x1).x6 (i:=i) Y.rep;refine⟨cy,_,bb,w.rc,e2,λH2 bm e=>?_⟩;cases bb with
  | true=>
   rw[RY rfl]at O ⊢;cases O;exact⟨bm,_,_,(w.step e).rc,rfl,λv T l x3 Q=>bf v T l ((w.step e).ext.trans x3) Q⟩
  | false=>
   rw[EQ II]at O ⊢;by_cases M:r.1.length<lim
   ·rw[RY M]at O
    obtain⟨dg,eg,O⟩:=zb O;have br:=w.step e;have bv:(σ.set i<|some (V.ref t))[i]? = cq (cq (.ref t)):=Iz (by rw[U.rc.len];exact cw);have d1:E a=dn:=QB U.ext.s1 Y.na;have d2:E b=dn:=QB U.ext.s1 Y.nb;have d3:B a=dn:=jf U.rc.sub Y.na;have d4:B b=dn:=jf U.rc.sub Y.nb;refine⟨_,bv,bm,_,_,br.rc,rfl,λv3 T l x3 Q=>?_⟩;have bx:=br.step x3;have t3:gR X.K l t [.ref a,.ref b,v]:=mu x3.s0<|mu e.s0 Y.tu;have W:l a=cq (.lst n):=x3.s0 _ _<|e.s0 _ _ Y.la;have b3:l b=cq (.lst R):=x3.s0 _ _<|e.s0 _ _ Y.lb;refine⟨t,[.ref a,.ref b,v],0,.ref a,rfl,ju Q,mu x3.sub t3,rfl,.inl ⟨rfl,_,gB.of<|x3.sub _ _ W⟩,l,_,dg,bx.rc,eg,λy H4 P m r4=>?_⟩;have d5:=bx.step m;have a4:P a=cq (.lst n):=m.s0 _ _ W;have b4:P b=cq (.lst R):=m.s0 _ _ b3;refine⟨a,n,y,rfl,rfl,m.sub _ _ a4,IC (by rw[Y.ra.length];exact M)<|ky<|Ic _,?_⟩;obtain⟨c3,s5⟩:=Wd (i:=i) (u:=cq (.ref t)) (a:=a) (o:= .lst (n++[y])) U.rc bg U.ext.s0 (x1.s0.trans<|e.s0.trans<|x3.s0.trans m.s0) d5.ext d3 d1;have t5:=oB (o:= .lst (n++[y])) (mu m.s0 t3) a4;have b5 : ∃A,upd P a (.lst<|n++[y]) b=cq (.lst A):=by
     by_cases z:b=a
     ·exact⟨_,by rw[z];exact zG⟩
     ·exact⟨R,by rw[zD z];exact b4⟩
    obtain⟨A,b5⟩:=b5;refine⟨_,bv,_,_,_,c3.rc,rfl,λv6 H6 d8 j r6=>?_⟩;have db:=c3.step j;have b6:d8 b=cq (.lst A):=j.s0 _ _ b5;refine⟨t,[.ref a,.ref b,v],1,.ref b,rfl,ju r6,mu j.sub<|mu j.s0 t5,rfl,.inl ⟨rfl,_,gB.of<|j.sub _ _ b6⟩,b,A,rfl,rfl,j.sub _ _ b6,?_⟩;obtain⟨dd,_⟩:=Wd (i:=i) (u:=cq (.ref t)) (a:=b) (o:= .lst []) U.rc bg U.ext.s0 (s5.trans j.s0) db.ext d4 d2;exact⟨E0,E,_,_,fl,dd,O,bf⟩
   ·rw[EQ M]at O;cases O
 ·cases O
end
def Dk(e:eA):Str:=match e with | .Name x _=>x | _=>""
noncomputable def C0(e:eA):List Str:=match e with | .Tuple a _ _=>a.map Dk | e=>[Dk e]
noncomputable def Dv(N:List Str)(fs:List Nat):List (Str×Nat):=fs.map λi=>(N.getD i "",i)
theorem Ji(N:List Str)(fs:List Nat):(Dv N fs).map (·.2)=fs:=by unfold Dv;rw[Lb];exact List.map_id fs
def nC(e:eA):Bool:=match e with | .Name _ _=>di | _=>d7
theorem aG{e:eA}(h:nC e=di) : ∃p,e = .Name (Dk e) p:=by
 unfold nC at h;split at h
 ·exact⟨_,rfl⟩
 ·cases h
noncomputable def FI(C:hG)(N L:List Str)(is:List Nat)(I:List eA):Bool:=match is with
 | [i,j]=>(match I with | [a,b]=>nC a && (yo C N L i (Dk a) && (nC b && yo C N L j (Dk b))) | _=>d7)
 | [i,j,l]=>(match I with | [a,b,c]=>nC a && (yo C N L i (Dk a) && (nC b && (yo C N L j (Dk b) && (nC c && yo C N L l (Dk c))))) | _=>d7)
 | _=>d7
noncomputable def Ig(C:hG)(N L:List Str)(e:eA)(T:Tg):Bool:=match T with
 | .nm i=>nC e && yo C N L i (Dk e)
 | .tp is=>(match e with | .Tuple a _ _=>FI C N L is a | _=>d7)
theorem oj{X:Cx}{C:hG}{N L:List Str}{k:Nat}(h:SX X C N L k){e:eA}{T:Tg}(c:Ig C N L e T=di):PG X e (s9 X.K T):=by
 cases T with
 | nm i=>
  have c:=Bool.and_eq_true_iff.mp c;obtain⟨p,q⟩:=aG c.1;rw[q];exact h.DB _ c.2
 | tp is=>
  unfold Ig at c;dsimp only at c;split at c
  ·next d j pos=>
   unfold FI at c;split at c
   ·split at c
    ·simp only[Ir]at c
     obtain⟨z,I,b1,b2⟩:=c;obtain⟨p,q⟩:=aG z;obtain⟨a,O⟩:=aG b1;rw[q,O];exact h.S7<|vE (h.DB _ I)<|vE (h.DB _ b2) dh
    ·cases c
   ·split at c
    ·simp only[Ir]at c
     obtain⟨z,I,b1,b2,U,Y⟩:=c;obtain⟨p,q⟩:=aG z;obtain⟨a,O⟩:=aG b1;obtain⟨f,b⟩:=aG U;rw[q,O,b];exact h.S7<|vE (h.DB _ I)<|vE (h.DB _ b2)<|vE (h.DB _ Y) dh
    ·cases c
   ·cases c
  ·cases c
noncomputable def cB(I scope:hG)(N:List Str)(C:eA)(T:Tg)(n:Nat)(fs:List Nat):Bool:=
 Vo I scope N (Dv N fs) && (CK (C0 C) scope (Dv N fs) && (decide (∀i∈T.idx,i<(C0 C).length) && (decide ((C0 C).length=n) && Ig (kQ scope I) (C0 C++(Dv N fs).map (·.1)) (C0 C) C T)))
abbrev Dd(X:Cx)(scope:hG)(N:List Str)(tg:eA)(fs:List Nat):=jw X scope (C0 tg++(Dv N fs).map (·.1))
abbrev SA(X:Cx)(sc scope:hG)(N:List Str)(tg:eA)(fs:List Nat)(k:Nat)(fp:List eh)(s2:eF)(H2:Hp):Prop:=SX (Dd X scope N tg fs fp s2 H2) (kQ scope sc) (C0 tg++(Dv N fs).map (·.1)) (C0 tg) k
section
variable{X:Cx}{sc scope:hG}{N L:List Str}{k n i:Nat}{fs:List Nat}{T:Tg}{e elt tg iter D6:eA}{es:List eA}{pos p py spos cpos:gu}{x y:Str}{f g:CO D}{fo:CO (List D)}{src gl:CO (List D)}{kk:CO Bool}
theorem cA(h:SX X sc N L k)(c:cB sc scope N tg T n fs=di):t9 X scope (Dv N fs)/\(∀i∈T.idx,i<(C0 tg).length)/\(C0 tg).length=n/\(∀fp J C,SA X sc scope N tg fs k fp J C)/\∀fp J C,PG (Dd X scope N tg fs fp J C) tg (s9 X.K T):=by unfold cB at c;simp only[Ir,decide_eq_true_eq]at c;obtain⟨z,I,O,U,a⟩:=c;have s : ∀fp J C,SA X sc scope N tg fs k fp J C:=λfp J C=>h.comp I;exact⟨h.Tw z,O,U,s,λfp J C=>oj (s fp J C) a⟩
theorem qt(h:SX X sc N L k)(O:uf X tg iter src)(z : ∀fp J C,SA X sc scope N tg fs k fp J C->PV (Dd X scope N tg fs fp J C) elt f)(c:cB sc scope N tg T n fs=di:=by decide +kernel)(I : ∀x,rn iter X.env x=pure x:=by intro _;rfl) :
 PO X (.ListComp elt [⟨tg,iter,[],0⟩] scope pos) (zL src T n fs jg f):=by
 obtain⟨a,b,d,s,q⟩:=cA h c;have r:=pB (pos:=pos) h.calm a b O q (λfp J C=>z fp J C<|s fp J C) I;rw[d,Ji]at r;exact r
theorem YX(h:SX X sc N L k)(S:uf X tg iter src)(z : ∀fp J C,SA X sc scope N tg fs k fp J C->nf (Dd X scope N tg fs fp J C) D6 kk)(I : ∀fp J C,SA X sc scope N tg fs k fp J C->PV (Dd X scope N tg fs fp J C) elt f)(c:cB sc scope N tg T n fs=di:=by decide +kernel)(O : ∀x,rn iter X.env x=pure x:=by intro _;rfl) :
 PO X (.ListComp elt [⟨tg,iter,[D6],0⟩] scope pos) (zL src T n fs kk f):=by
 obtain⟨a,b,d,s,q⟩:=cA h c;have r:=cX (pos:=pos) h.calm a b S q (λfp J C=>z fp J C<|s fp J C) (λfp J C=>I fp J C<|s fp J C) O;rw[d,Ji]at r;exact r
theorem kE(h:SX X sc N L k)(O:uf X tg iter src)(z : ∀fp J C,SA X sc scope N tg fs k fp J C->PV (Dd X scope N tg fs fp J C) elt f)(ct:yo sc N L i y=di:=by decide +kernel)(c:cB sc scope N tg T n fs=di:=by decide +kernel)(I : ∀x,rn iter X.env x=pure x:=by intro _;rfl) :
 PS X (.Assign [.Name y py] (.ListComp elt [⟨tg,iter,[],0⟩] scope cpos) spos) (YI (tO X.K<|zL src T n fs jg f)<|k8 i):=by
 obtain⟨a,b,d,s,q⟩:=cA h c;have r:=T5 (cpos:=cpos) (spos:=spos) (py:=py) i h ct h.calm a b O q (λfp J C=>z fp J C<|s fp J C) I;rw[d,Ji]at r;exact r
theorem pv(h:SX X sc N L k)(S:uf X tg iter src)(z : ∀fp J C,SA X sc scope N tg fs k fp J C->nf (Dd X scope N tg fs fp J C) D6 kk)(I : ∀fp J C,SA X sc scope N tg fs k fp J C->PV (Dd X scope N tg fs fp J C) elt f)(ct:yo sc N L i y=di:=by decide +kernel)(c:cB sc scope N tg T n fs=di:=by decide +kernel)(O : ∀x,rn iter X.env x=pure x:=by intro _;rfl) :
 PS X (.Assign [.Name y py] (.ListComp elt [⟨tg,iter,[D6],0⟩] scope cpos) spos) (YI (tO X.K<|zL src T n fs kk f)<|k8 i):=by
 obtain⟨a,b,d,s,q⟩:=cA h c;have r:=Ec (cpos:=cpos) (spos:=spos) (py:=py) i h ct h.calm a b S q (λfp J C=>z fp J C<|s fp J C) (λfp J C=>I fp J C<|s fp J C) O;rw[d,Ji]at r;exact r
theorem uN(h:SX X sc N L k)(O:uf X tg iter src)(z : ∀fp J C,SA X sc scope N tg fs k fp J C->PO (Dd X scope N tg fs fp J C) elt fo)(ct:yo sc N L i y=di:=by decide +kernel)(c:cB sc scope N tg T n fs=di:=by decide +kernel)(I : ∀x,rn iter X.env x=pure x:=by intro _;rfl) :
 m6 X (.Assign [.Name y py] (.ListComp elt [⟨tg,iter,[],0⟩] scope cpos) spos) (ie i<|V2 src T n fs fo):=by
 obtain⟨a,b,d,s,q⟩:=cA h c;have r:=iE (cpos:=cpos) (spos:=spos) (py:=py) i h ct h.calm a b O q (λfp J C=>z fp J C<|s fp J C) I;rw[d,Ji]at r;exact r
theorem zv(h:SX X sc N L k)(c:JI sc N i x=di:=by decide +kernel):PV X (.Name x pos) (ze i):=uC i<|h.var c
theorem zU(h:SX X sc N L k)(c:JI sc N i x=di:=by decide +kernel):PQ X (.Name x pos) (zk i):=uR i<|h.var c
theorem CA(h:SX X sc N L k)(c:Ig sc N L e T=di:=by decide +kernel):PG X e (s9 X.K T):=oj h c
theorem jR(h:SX X sc N L k)(z:PV X e f)(c:yo sc N L i x=di:=by decide +kernel)(I:B9 e (cq (.Name x py)) pos.line X.env=pure d7:=by rfl):m6 X (.Assign [.Name x py] e pos) (jB i f):=pj i<|h.set i c z I
theorem wA(h:SX X sc N L k)(z:PO X e fo)(c:yo sc N L i x=di:=by decide +kernel)(I:B9 e (cq (.Name x py)) pos.line X.env=pure d7:=by rfl):m6 X (.Assign [.Name x py] e pos) (vg i fo):=Wa i<|h.set i c z I
theorem kf{C:List jn}{F:CO Fl}(hx:X.xe=λ_ _=>False)(h:SX X sc N L k)(J:ji X tg iter src)(z:WT X C F)(c:Ig sc N L tg T=di:=by decide +kernel)(I : ∀x,rn iter X.env x=pure x:=by intro _;rfl):m6 X (.For tg iter C [] pos) (wZ src T F):=pq (Wg hx) h.calm J (oj h c) z I
variable{j:Nat}{F:List D->Option Res}
theorem jj(z:il X.prog X.w X.K X.mg X.base j x n F)(h:SX X sc N L k)(C:C9 X (e::es) n gl)(I:j<=k:=by decide)(c:yp sc x=di:=by decide +kernel)
 (O:f7 (e::es) X.env=(d7,eB e X.env)::f7 es X.env:=by rfl) (U:(tw pos<|starEach es X.env).any (·.1)=d7:=by rfl):PV X (.Call (.Name x p) (e::es) [] pos) (zI F gl):=Eb z I h c C O U
theorem xF(z:il X.prog X.w X.K X.mg X.base j x n F)(h:SX X sc N L k)(C:C9 X (e::es) n gl)(I:j<=k:=by decide)(c:yp sc x=di:=by decide +kernel)
 (O:f7 (e::es) X.env=(d7,eB e X.env)::f7 es X.env:=by rfl) (U:(tw pos<|starEach es X.env).any (·.1)=d7:=by rfl):PO X (.Call (.Name x p) (e::es) [] pos) (jC F gl):=Ed z I h c C O U
end
noncomputable def QW:=jG 1 (zM (lp (yZ (jP (sB (p6 .str (ze 0)))) (sB (zC Sy (ag (ze 0)) (zA (.int 6))))) (qA (zA (.bl d7))) ql) (qA (oT (jv (zL (ua (ze 0)) (.nm 0) 1 [] jg (GS (ze 0) (z5 (zA (.tup [.str "r",.str "l"])))))))))
noncomputable def wJ:=jG 2<|zM (lp (yZ (jP<|sB<|zI VC<|zc (ze 1)<|zc (zA<|.int 2) zJ)<|yZ (jP<|sB<|zI YA<|zc (ze 0)<|zc (ed (zk 1)<|zA<|.int 0) zJ)<|jP<|sB<|zI YA<|zc (ze 0)<|zc (ed (zk 1)<|zA<|.int 1) zJ) (qA<|zA<|.bl d7) ql)<|qA<|zC qq (ed (zk 1)<|zA<|.int 0)<|ed (zk 1)<|zA<|.int 1
noncomputable def vX:=jG 2<|wa<|zL (V1<|ze 0) (.tp [0,1]) 2 [1] (sB<|yu qq qq (ed (zk 1)<|zA<|.int 0) (ze 2)<|ed (zk 1)<|zA<|.int 1) (ze 0)
noncomputable def jc:=jG 5<|zM (lp (ui (sB<|zC DQ (ye<|zk 0)<|zA<|.int 1)<|sB<|zC g8 (zC xn (ed (zk 0)<|zA<|.int 0)<|zA<|.int 2)<|zA<|.int 1) (zM (jB 2<|ed (zk 0)<|zC qr (zA<|.int 1)<|zC xn (ze 1)<|zC XN (ye<|zk 0)<|zA<|.int 1)<|zM (wZ (jh<|uc (zA<|.int 60)<|zC QR (ze 1)<|zC XN (ye<|zk 0)<|zA<|.int 1) (.nm 3)<|jB 2<|zC QR (ze 2)<|zC rY (zA<|.int 10)<|zA<|.int 9)<|qA<|zC xn (ze 2)<|zC rY (zA<|.int 10)<|zA<|.int 9) ql)<|zM (jB 4<|ze 1)<|zM (lp (sB<|zC DQ (ye<|zk 0)<|zA<|.int 0) (jB 4<|ed (zk 0)<|zC xn (ze 1)<|ye<|zk 0) ql)<|qA<|zC xn (zC kK (zC xn (zC qr (zC qr (zC qr (zC kK (zC xn (ze 4)<|zC rY (zA<|.int 10)<|zA<|.int 30)<|zA<|.int 48271)<|zC kK (zC kK (zA<|.int 7)<|ze 1)<|ze 1)<|zC kK (zA<|.int 13)<|ze 1)<|zA<|.int 5)<|zA<|.int 2147483647)<|zA<|.int 69621)<|zA<|.int 1000000007
noncomputable def xj:=jG 3 (qA (ig (zA (.str "")) (jv (zL (jh (zC XN (ze 2) (zA (.int 1)))) (.nm 0) 1 [0,1] jg (VY (zA (.str "rl")) (zC xn (zC QR (zI jc (zc (ze 1) (zc (zC qr (ze 2) (ze 0)) zJ))) (zA (.int 8))) (zA (.int 2))))))))
noncomputable def xk:=jG 8<|zM (vg 4<|kC zJ)<|zM (wZ (jh<|ze 3) (.nm 5)<|zM (jB 6<|zI jc<|zc (ze 0)<|zc (zC qr (ze 1)<|ze 5) zJ)<|zM (jB 7<|zC xn (ze 6)<|ze 2)<|xy 4<|xx<|zc (ze 7)<|zc (zC qr (ze 7)<|zC xn (zC QR (ze 6)<|zA<|.int 16)<|zC XN (ze 2)<|ze 7) zJ)<|wa<|Kw<|zk 4
noncomputable def je:=jG 2<|wa<|zL (V1<|ze 0) (.tp [0,1]) 2 [1] (sB<|yu qq qq (ed (zk 1)<|zA<|.int 0) (ze 2)<|ed (zk 1)<|zA<|.int 1) (ze 0)
noncomputable def aJ:=(zM (jB 7 (zC qr (ze 5) (xC (zC g8 (ze 6) (zA (.str "l")))))) (zM (jB 8 (zC qr (ze 5) (xC (zC g8 (ze 6) (zA (.str "r")))))) (zM (jB 9 (jZ (zL (zP (jv (jC je (zc (ze 2) (zc (ze 8) zJ))))) (.nm 0) 1 [2,7] jg (zQ (jv (zL (zP (jv (jC je (zc (ze 1) (zc (ze 2) zJ))))) (.nm 0) 1 [0] jg (xC (zC g8 (ze 1) (ze 0))))))))) (xy 4 (xx (zc (ze 6) (zc (xx (zc (ed (zk 3) (ze 8)) (zc (ed (zk 3) (ze 7)) (zc (zQ (zk 9)) zJ)))) zJ)))))))
noncomputable def qV:=jG 10<|zM (jB 3<|jZ<|zL (jh<|zC qr (ag<|ze 1)<|zA<|.int 1) (.nm 0) 1 [2] jg (ye<|jv<|jC je<|zc (ze 1)<|zc (ze 0) zJ))<|zM (vg 4<|kC zJ)<|zM (wZ (V0<|ze 1) (.tp [5,6]) aJ)<|qA<|xx<|zc (ze 0)<|zc (zQ<|zk 3)<|zc (zQ<|zk 4) zJ
abbrev t4(k:Sk)(xs:List D):D:=match k with | .T=>D.tup xs | .L=>D.lst xs
@[simp] theorem Gf(k xs):jX (t4 k xs)=cq (k,xs):=by cases k<;>rfl
theorem QU(k:Sk)(f:Nat->Int)(z:0<p)(C:n<=lim) :
 xB [.int p,t4 k (zF n f)]=cq (.val<|.tup<|zF n λi=>f i%p):=by
 simp[xB,jG,jm,z6,C,x9];unfold zF;rw[zu (r:=λi=>D.int<|f i%p)]
 ·simp
 ·intro i a
  refine zw rfl rfl ?_;simp[z]
theorem gz(f:Nat->Int)(z:0<p)(C:n<=lim) :
 xB [.int p,.tup (zF n f)]=cq (.val<|.tup<|zF n λi=>f i%p):=QU .T f z C
theorem JD(f:Nat->Int)(z:0<p)(C:n<=lim) :
 xB [.int p,.lst (zF n f)]=cq (.val<|.tup<|zF n λi=>f i%p):=QU .L f z C
theorem WU(k:Sk)(f:RK)(g:Nat->Int)(I:0<p)(z:h<=lim)(C:w<=lim)(O : ∀i j,i<h->j<w->0<=f i j/\f i j<100) :
 gA [.int p,ja h w f,t4 k (zF w g)]=cq (.val<|.tup<|zF h λi=>zg (λj=>f i j*g j) w%p):=by
 simp[gA,jG,jm,z6,z,x9,ja,HZ];unfold zW;rw[zu (r:=λi=>D.int<|zg (λj=>f i j*g j) w)]
 ·simp
  rw[show(List.map (λi=>D.int<|zg (λj=>f i j*g j) w)<|HU h)=zF h λi=>zg (λj=>f i j*g j) w from rfl,JD _ I z];rfl
 ·intro i a
  refine zw rfl rfl ?_;simp[z6,wV,C];rw[zu (r:=λj=>D.int<|f i j*g j)]
  ·simp
   rw[show(List.map (λj=>D.int<|f i j*g j)<|HU w)=zF w λj=>f i j*g j from rfl,Zx]
  ·intro j U
   refine zw rfl rfl ?_;have:=O i j (HW.mp a)<|HW.mp U;simp[vc (f i j) (g j) ⋯ ⋯]
theorem vU(f:RK)(z:h<=lim)(C:w<=lim):qv [ja h w f]=cq (.val<|ja w h λi j=>f j i):=by
 simp[qv,jG,jm,z6,z,C,x9,ja,HZ,jo,jS];rw[zX w λi=>(i:Int)];rw[zu (r:=λj=>D.tup<|zF h λi=>f i j)]
 ·simp
  rfl
 ·intro j I
  refine zw rfl rfl ?_;simp[z6,z,x9];unfold zW;rw[zu (r:=λi=>D.int<|f i j)]
  ·simp
   rfl
  ·intro i b
   refine zw rfl rfl ?_;have a:=HW.mp I;simp[a,XI _ a]
theorem yJ(C:n<=lim):qp [.int n]=cq (.val<|ja n n λi j=>if i=j then 1 else 0):=by
 simp[qp,jG,jm,jo,C,z6,x9,HZ,jS];rw[zX n λi=>(i:Int)];rw[zu (r:=λi=>D.tup<|zF n λj=>if i=j then 1 else 0)]
 ·simp
  rfl
 ·intro i a
  refine zw rfl rfl ?_;simp[C,z6,HZ,jS,x9];rw[zX n λi=>(i:Int)];rw[zu (r:=λj=>D.int<|if i=j then 1 else 0)]
  ·simp
   rfl
  ·intro j z
   refine zw rfl rfl ?_;simp;by_cases e:i=j
   ·simp[e]
   ·rw[EQ ⋯,EQ e]
theorem cG(d:D)(w:Nat):HZ w d=(HU w).map λ_=>d:=by
 induction w with
 | zero=>rfl
 | succ n z=>rw[List.replicate_succ',z,Mf,LD];simp
def xK(C:List Int):D:= .lst (C.map D.int)
mutual
theorem D8 : ∀d:D,l0 d d=di
 | .fh=>rfl
 | .bl b=>by simp[l0]
 | .int i=>by simp[l0]
 | .str x=>by simp[l0]
 | .tup e=>by simp only[l0];exact D9 e
 | .lst e=>by simp only[l0];exact D9 e
 | .m7 a b=>by simp only[l0];rw[D9 a,D9 b];rfl
 | .ml a b=>by simp only[l0];rw[D9 b];simp
theorem D9 : ∀ds:List D,s8 ds ds=di
 | []=>rfl
 | d::ds=>by simp only[s8,D8 d,D9 ds,Bool.and_self]
end
theorem xh : ∀{l:List D} {n:Nat},(∀d∈l,deep d<=n)->o4 l<=n
 | [],n,_=>Lp n
 | d::ds,n,h=>by simp only[o4];exact Nat.max_le.mpr ⟨h d Iy,xh λe z=>h e<|Im _ z⟩
theorem WI(n f):deep (.tup<|zF n f)<=1:=by
 simp only[deep];have:o4 (zF n f)<=0:=xh λd a=>by simp[zF]at a;obtain⟨i,_,rfl⟩:=a;exact Ic _
 omega
theorem WK(h w f):deep (.tup<|zW h w f)<=2:=by
 simp only[deep];have:o4 (zW h w f)<=1:=xh λd a=>by simp[zW]at a;obtain⟨i,_,rfl⟩:=a;exact WI _ _
 omega
theorem WJ(h w f):deep (ja h w f)<=3:=by
 unfold ja;simp only[deep];have:o4 [D.int h,D.int w,D.tup (zW h w f)]<=2:=xh λd a=>by
  simp at a;rcases a with rfl | rfl | rfl
  ·exact Lp _
  ·exact Lp _
  ·exact WK _ _ _
 omega
theorem kZ : ∀{l:List D},(∀d∈l,h9 d=di)->qs l=di
 | [],_=>rfl
 | d::ds,h=>by simp only[qs,h d Iy,kZ λe z=>h e<|Im _ z,Bool.and_self]
theorem KS(h:deep d<=n)(I:n<=20)(C:h9 d=di):l9 d=di:=by unfold l9;rw[C,Oy];exact decide_eq_true<|Lr h I
theorem dD(n f):h9 (.tup<|zF n f)=di:=by
 simp only[h9];exact kZ λd a=>by simp[zF]at a;obtain⟨i,_,rfl⟩:=a;rfl
theorem dE(h w f):h9 (.tup<|zW h w f)=di:=by
 simp only[h9];exact kZ λd a=>by simp[zW]at a;obtain⟨i,_,rfl⟩:=a;exact dD _ _
theorem pV(h w f):h9 (ja h w f)=di:=by unfold ja;simp only[h9,qs];have:=dE h w f;simp only[h9]at this;rw[this];rfl
theorem Y2(h w f):l9 (ja h w f)=di:=KS (WJ h w f) ⋯<|pV h w f
theorem mh(h:l9 d=di):g8 d d=cq (.bl di):=by unfold g8;rw[RY ⟨h,h⟩,D8]
theorem XO{d:D}(h:l9 d=di):i0 d d=cq (.bl d7):=by unfold i0;rw[RY ⟨h,h⟩,D8];rfl
theorem VB(i:Int):js [.int i]=cq (.val<|.bl di):=by simp[js,jG,jm,nz]
theorem bK{C:Type}(l:List C):Zt (l.map λ_=>D.bl di)=cq (l.map λ_=>di):=by
 induction l with
 | nil=>rfl
 | cons a l z=>simp[Zt,By,z]
theorem YW{m:Int}(O:0<=m) : ∃p,([D.int 2,.int 3,.int 5,.int 7])[(m%4).toNat]? = cq (.int p)/\l7 4 (m%4)=cq (m%4).toNat/\(p=2\/p=3\/p=5\/p=7):=by
 have a:=La m (show(4:Int)≠0 by omega);have b:=IP m (show(0:Int)<4 by omega);obtain⟨k,I⟩:=MC a;rw[I];have z:k<4:=by omega
 have e:l7 4 (k:Int)=cq k:=by rw[xA,RY z]
 rw[e]
 match k,z with
 | 0,_=>exact⟨2,rfl,rfl,by simp⟩
 | 1,_=>exact⟨3,rfl,rfl,by simp⟩
 | 2,_=>exact⟨5,rfl,rfl,by simp⟩
 | 3,_=>exact⟨7,rfl,rfl,by simp⟩
theorem QC(k:Int)(z:0<k) : ∃n:Nat,m%k=n/\(n:Int)<k:=by have a:=La m (show k≠0 by omega);have d:=IP m z;obtain⟨n,b⟩:=MC a;exact⟨n,b,by omega⟩
def i4(b:Bool):Nat:=if b then 108 else 114
def xT(c:Nat):Str:=⟨#[c]⟩
theorem QG : ∀(l:List Nat),(PK "" (l.map xT)).cps.toList=l
 | []=>rfl
 | [c]=>rfl
 | c::d::l=>by
  have z:=QG (d::l);show((xT c++("" : Str))++PK "" ((d::l).map xT)).cps.toList=_;have e : ∀a b:Str,(a++b).cps.toList=a.cps.toList++b.cps.toList:=λa b=>by show(a.cps++b.cps).toList=_;simp
  rw[e,e,z];rfl
noncomputable def X5(m:Nat)(w:RX):Str:=PK "" ((HU m).map λk=>xT (i4 (w k)))
theorem JW(m w):(X5 m w).cps.toList=(HU m).map λk=>i4 (w k):=by have:=QG<|(HU m).map λk=>i4<|w k;rw[Lb]at this;exact this
theorem VE(m w):(X5 m w).length=m:=by show(X5 m w).cps.size=m;rw[<- LN,JW];simp
theorem WV{m:Nat}(w)(C:m<=1000):jM (X5 m w)=di:=decide_eq_true (by rw[VE];exact C)
theorem Xe{C:Type}(g:C->Str) : ∀l:List C,Km (l.map λx=>D.str<|g x)=cq (l.map g)
 | []=>rfl
 | a::l=>by simp[Km,Xe g l]
noncomputable def kv(w:RX)(wd:RZ)(k:Nat):Nat:=if w k then wd k else wd (k+1)
noncomputable def kA(w:RX)(wd:RZ)(k:Nat):Nat:=if w k then wd (k+1)else wd k
noncomputable def xw(w:RX)(wd:RZ)(T:RV)(k:Nat):D:= .tup [.str (xT<|i4<|w k),ja (kv w wd k) (kA w wd k) (T k)]
noncomputable def jY(m:Nat)(w:RX)(wd:RZ)(T:RV):List D:=(HU m).map (xw w wd T)
noncomputable def qh(p:Int)(m:Nat)(w:RX)(wd:RZ)(T:RV):D:= .tup [.int p,.tup<|zF (m+1) λk=>(wd k:Int),.tup (jY m w wd T)]
@[simp] theorem Yx(m w wd T):(jY m w wd T).length=m:=by simp[jY]
theorem nI(b:Bool):g8 (.str (xT (i4 b))) (.str "l")=cq (.bl b):=by
 have e : ∀b:Bool,(xT (i4 b)==(Ld "l"))=b:=by decide +kernel
 have z : ∀b:Bool,l9 (.str<|xT<|i4 b)=di:=by decide +kernel
 have I:l9 (.str (Ld "l"))=di:=by decide +kernel
 unfold g8;rw[RY ⟨z b,I⟩];show cq (D.bl (xT (i4 b)==Ld "l"))=_;rw[e]
theorem dA(b:Bool):l9 (.str<|xT<|i4 b)=di:=by cases b<;>decide +kernel
theorem rS(b:Bool):g8 (.str (xT (i4 b))) (.str "r")=cq (.bl (!b)):=by
 have e : ∀b:Bool,(xT (i4 b)==(Ld "r")) = !b:=by decide +kernel
 have z:l9 (.str (Ld "r"))=di:=by decide +kernel
 unfold g8;rw[RY ⟨dA b,z⟩];show cq (D.bl (xT (i4 b)==Ld "r"))=_;rw[e]
theorem mD{w J:RX}{wd C:RZ}{T O:RV}{k:Nat}(L:w k=J k)(S:wd k=C k)(z:wd (k+1)=C (k+1))(I : ∀i j,i<kv w wd k->j<kA w wd k->T k i j=O k i j):xw w wd T k=xw J C O k:=by
 have a:kv w wd k=kv J C k:=by unfold kv;rw[L,S,z]
 have b:kA w wd k=kA J C k:=by unfold kA;rw[L,S,z]
 unfold xw;rw[L,<- a,<- b,Zf I]
theorem ip{p:Int}{m:Nat}{w S:RX}{wd C:RZ}{T L:RV}(Y : ∀k,k<m->w k=S k)(J : ∀k,k<m+1->wd k=C k)(I : ∀k i j,k<m->i<kv w wd k->j<kA w wd k->T k i j=L k i j):qh p m w wd T=qh p m S C L:=by unfold qh jY;rw[xJ (f:=λk=>((wd k:Nat):Int)) (g:=λk=>((C k:Nat):Int)) λk z=>by rw[J k z]];rw[Iu λk z=>mD (Y k<|HW.mp z) (J k (by have:=HW.mp z;omega)) (J (k+1) (by have:=HW.mp z;omega)) λi j a O=>I k i j (HW.mp z) a O]
theorem pW(w wd T k):h9 (xw w wd T k)=di:=by have a:=Y2 (kv w wd k) (kA w wd k)<|T k;have b:=dA<|w k;simp only[l9,Ir]at a b;show(h9 _ && (h9 _ && di))=di;rw[a.2,b.2];rfl
theorem mf(w wd T k):deep (xw w wd T k)<=4:=by have:=WJ (kv w wd k) (kA w wd k)<|T k;simp[xw,deep,o4];omega
theorem pX(p m w wd T):l9 (qh p m w wd T)=di:=by
 have e:o4 (jY m w wd T)<=4:=xh λd a=>by obtain⟨k,_,rfl⟩:=IB.mp a;exact mf w wd T k
 have b:qs (jY m w wd T)=di:=kZ λd a=>by obtain⟨k,_,rfl⟩:=IB.mp a;exact pW w wd T k
 have I:=WI (m+1) λk=>(wd k:Int);have z:=dD (m+1) λk=>(wd k:Int);refine KS (n:=10) ?_ ⋯ ?_
 ·simp only[qh,deep,o4]at I ⊢
  omega
 ·simp only[qh,h9,qs]at z ⊢
  simp[b,z]
section
variable{p:Int}
noncomputable def fD(h w:Nat)(f:RK):List D:=(HU h).map λi=>D.lst<|zF w<|f i
@[simp] theorem AW(h w f):(fD h w f).length=h:=by simp[fD]
end
theorem zx : ∀{n:Nat},(∀k,k<n->f k=g k)->zg f n=zg g n
 | 0,_=>rfl
 | n+1,h=>by simp only[zg];rw[zx (n:=n) λk z=>h k ⋯,h n ⋯]
theorem zO(n:Nat):zg (λ_=>0) n=0:=by
 induction n with
 | zero=>rfl
 | succ n z=>simp[zg,z]
theorem zK(C:i<n)(h : ∀k,k<n->k≠i->f k=0):zg f n=f i:=by
 induction n with
 | zero=>omega
 | succ n z=>
  simp only[zg];by_cases e:i=n
  ·subst e
   rw[zx (g:=λ_=>0) (λk I=>h k ⋯ ⋯),zO];omega
  ·rw[z ⋯ λk I=>h k ⋯,h n ⋯ ⋯]
   omega
theorem jA(f g:Nat->Int)(n:Nat):zg (λk=>f k+g k) n=zg f n+zg g n:=by
 induction n with
 | zero=>rfl
 | succ n z=>simp only[zg,z];omega
theorem qK(f:Nat->Int)(c:Int)(n:Nat):zg (λk=>f k*c) n=zg f n*c:=by
 induction n with
 | zero=>simp[zg]
 | succ n z=>simp only[zg,z,OE]
theorem jt(f:Nat->Int)(c:Int)(n:Nat):zg (λk=>c*f k) n=c*zg f n:=by
 induction n with
 | zero=>simp[zg]
 | succ n z=>simp only[zg,z,Nj]
theorem qJ(f:RK)(n m:Nat):zg (λi=>zg (λj=>f i j) m) n=zg (λj=>zg (λi=>f i j) n) m:=by
 induction n with
 | zero=>simp[zg,zO]
 | succ n z=>simp only[zg];rw[z,<- jA]
theorem zH : ∀{n:Nat},(∀k,k<n->f k%p=g k%p)->zg f n%p=zg g n%p
 | 0,_=>rfl
 | n+1,h=>by simp only[zg];rw[Lh,zH (n:=n)<|λk z=>h k ⋯,h n ⋯,<- Lh]
theorem dG(p x y:Int):(x%p*y)%p=(x*y)%p:=by rw[Ii,ID,<- Ii]
theorem vF(p x y:Int):(x*(y%p))%p=(x*y)%p:=by rw[Ii,ID,<- Ii]
theorem Zw(p:Int)(a b c:RK)(m w i j:Nat) :
 zg (λk=>a i k*(zg (λl=>b k l*c l j) w%p)) m%p=zg (λl=>(zg (λk=>a i k*b k l) m%p)*c l j) w%p:=by
 rw[zH (g:=λk=>zg (λl=>a i k*(b k l*c l j)) w) (λk _=>by rw[vF,jt]),
  zH (f:=λl=>(zg (λk=>a i k*b k l) m%p)*c l j) (g:=λl=>zg (λk=>a i k*(b k l*c l j)) m) (λl _=>by rw[dG,<- qK];exact congrArg (· % p)<|zx λk _=>Lx _ _ _),qJ]
abbrev Vc:=Nat->Int
def Pr(p:Int):Prop:=p=2\/p=3\/p=5\/p=7
theorem Pr.pos(h:Pr p):0<p:=by unfold Pr at h;omega
theorem Pr.two(h:Pr p):2<=p:=by unfold Pr at h;omega
theorem Pr.le(h:Pr p):p<=7:=by unfold Pr at h;omega
theorem Pr.one(h:Pr p):(1:Int)%p=1:=LF ⋯ (by have:=h.two;omega)
inductive Span(p:Int)(n:Nat)(G:Vc->Prop):Vc->Prop where
 | zero {v:Vc}:(∀i,i<n->v i%p=0)->Span p n G v
 | step {v w g:Vc} {c:Int}:G g->Span p n G w->(∀i,i<n->v i%p=(w i+c*g i)%p)->Span p n G v
section
variable{p:Int}{n:Nat}{G G':Vc->Prop}
theorem Span.congr(h:Span p n G v)(e : ∀i,i<n->v' i%p=v i%p):Span p n G v':=by
 cases h with
 | zero h=>exact .zero λi a=>by rw[e i a,h i a]
 | step z b h=>exact .step z b λi a=>by rw[e i a,h i a]
theorem Span.gen(h:G g):Span p n G g:= .step (c:=1) h (.zero (v:=λ_=>0) λi _=>by simp) λi _=>by simp
theorem Span.add(I:Span p n G v)(C:Span p n G w) : ∀c:Int,Span p n G λi=>w i+c*v i:=by
 induction I with
 | zero h=>
  intro c;refine C.congr λi a=>?_;rw[Lh,Ii,h i a];simp
 | @step v b g z O Y h U=>
  intro c;refine .step (c:=c*z) O (U c) λi a=>?_;have e:(c*v i)%p=(c*(b i+z*g i))%p:=by rw[Ii,h i a,<- Ii]
  rw[Lh,e,<- Lh];congr 1;rw[Nj,<- Lx,Int.add_assoc]
theorem Span.smul(z:Span p n G v)(c:Int):Span p n G λi=>c*v i:=
 (z.add (w:=λ_=>0) (.zero λi _=>by simp) c).congr λi _=>by simp
theorem Span.le(h:Span p n G v)(z : ∀g,G g->Span p n G' g):Span p n G' v:=by
 induction h with
 | zero h=>exact .zero h
 | step I a h O=>exact((z _ I).add O _).congr h
end
structure h8(p:Int)(n r:Nat)(B:Nat->Vc)(l:RZ):Prop where
 lt : ∀k,k<r->l k<n
 mono : ∀k m,k<m->m<r->l k<l m
 one : ∀k,k<r->B k (l k)=1
 n0 : ∀k j,k<r->j<l k->B k j=0
 t6 : ∀k m,k<r->m<r->m≠k->B k (l m)=0
 m8 : ∀k i,k<r->i<n->0<=B k i/\B k i<p
def fe(r:Nat)(B:Nat->Vc):Vc->Prop:=λv=>∃k,k<r/\v=B k
section
variable{p:Int}{n r r':Nat}{B B':Nat->Vc}{l l':RZ}
theorem wO(I:h8 p n r B l)(h:Span p n (fe r B) v) : ∀i,i<n->v i%p=zg (λk=>v (l k)*B k i) r%p:=by
 induction h with
 | @zero v h=>
  intro i a;rw[h i a];have:zg (λk=>v (l k)*B k i) r%p=zg (λ_=>0) r%p:=zH λk z=>by rw[Ii,h _ (I.lt k z)];simp
  rw[this,zO];rfl
 | @step v w g c O f h U=>
  intro i a;obtain⟨m,b,rfl⟩:=O;rw[h i a];have d:zg (λk=>v (l k)*B k i) r%p=zg (λk=>w (l k)*B k i+c*B m (l k)*B k i) r%p:=zH λk z=>by rw[Ii,h _<|I.lt k z,<- Ii,OE]
  have e:zg (λk=>c*B m (l k)*B k i) r=c*B m i:=by rw[zK (i:=m) b λk z Y=>by rw[I.t6 m k b z Y];simp,I.one m b];simp
  rw[d,jA,e,Lh,U i a,<- Lh]
theorem Vb(z:h8 p n r B l)(h:Span p n (fe r B) v)(O:j<n)(U:v j%p≠0)(Y : ∀i,i<j->v i%p=0) : ∃k,k<r/\l k=j:=by
 apply Lv;intro a;apply U;rw[wO z h j O];have:zg (λk=>v (l k)*B k j) r%p=zg (λ_=>0) r%p:=zH λk I=>by
  have b:l k≠j:=λe=>a ⟨k,I,e⟩;rcases IG (l k) j with q | q
  ·rw[Ii,Y _ q];simp
  ·rw[z.n0 k j I ⋯];simp
 rw[this,zO];rfl
theorem Ws(O : ∀k m,k<m->m<r->l k<l m)(U : ∀k m,k<m->m<r'->l' k<l' m)(C : ∀k,k<r->∃m,m<r'/\l' m=l k)(J : ∀k,k<r'->∃m,m<r/\l m=l' k) :
 ∀k,k<r->k<r'/\l k=l' k:=by
 intro k
 induction k using Nat.strongRecOn with
 | ind k Y=>
  intro a;obtain⟨m,b,em⟩:=C k a;have e:k<=m:=by
   rcases IG m k with q | q
   ·have:=(Y m q ⋯).2
    have:=O m k q a;omega
   ·exact q
  have I:k<r':=by omega
  refine⟨I,?_⟩;obtain⟨q,d,eq⟩:=J k I;have f:k<=q:=by
   rcases IG q k with z | z
   ·have:=(Y q z ⋯).2
    have:=U q k z I;omega
   ·exact z
  rcases IG k m with z | z
  ·have g:=U k m z b
   have h:l k<=l q:=by
    rcases IG k q with y | y
    ·exact OQ<|O k q y d
    ·have:k=q:=by omega
     subst this;exact Ic _
   omega
  ·have:m=k:=by omega
   subst this;exact em.symm
theorem Js(L:Pr p)(I:h8 p n r B l)(O:h8 p n r' B' l')(C : ∀v,Span p n (fe r B) v->Span p n (fe r' B') v)(J : ∀v,Span p n (fe r' B') v->Span p n (fe r B) v) :
 r=r'/\(∀k,k<r->l k=l' k)/\∀k i,k<r->i<n->B k i=B' k i:=by
 have one:=L.one;have e : ∀k,k<r->∃m,m<r'/\l' m=l k:=λk z=>Vb O (C _<|.gen ⟨k,z,rfl⟩) (I.lt k z) (by rw[I.one k z,one];decide) λi a=>by rw[I.n0 k i z a];simp
 have f : ∀k,k<r'->∃m,m<r/\l m=l' k:=λk z=>Vb I (J _<|.gen ⟨k,z,rfl⟩) (O.lt k z) (by rw[O.one k z,one];decide) λi a=>by rw[O.n0 k i z a];simp
 have b:=Ws I.mono O.mono e f;have h:=Ws O.mono I.mono f e;have j:r=r':=by
  rcases NH r r' with q | q | q
  ·exact absurd (h r q).1 (Lq _)
  ·exact q
  ·exact absurd (b r' q).1 (Lq _)
 subst j;refine⟨rfl,λk z=>(b k z).2,λk i z a=>?_⟩;have c:=wO O (C _<|.gen ⟨k,z,rfl⟩) i a;rw[zK (i:=k) z λm d g=>by rw[<- (b m d).2,I.t6 k m z d g];simp,<- (b k z).2,I.one k z,MR]at c;have U:=I.m8 k i z a;have Y:=O.m8 k i z a;rw[LF U.1 U.2,LF Y.1 Y.2]at c;exact c
end
theorem jr(q:α->Bool)(r:α->D) : ∀(l:List α),(∀x∈l,∃γ1,xp T (g x) γ=cq γ1/\k γ1=cq (q x)/\(q x=di->f γ1=cq (r x)))->
 zN T k f γ (l.map g)=cq ((l.filter q).map r)
 | [],_=>rfl
 | x::l,h=>by
  obtain⟨γ1,a,b,I⟩:=h x Iy;have z:=jr q r l λy O=>h y<|Im _ O;simp only[IQ,zN,a,b,Ia];cases e:q x with
  | true=>simp[I e,z,e]
  | false=>simp[z,e]
theorem nF(z:Pr p)(I:0<x)(C:x<p) : ∃y:Nat,1<=y/\(y:Int)<p/\(y:Int)*x%p=1:=by
 rcases z with rfl | rfl | rfl | rfl
 ·obtain rfl:x=1:=by omega
  exact⟨1,by decide,by decide,by decide⟩
 ·rcases (show x=1\/x=2 by omega)with rfl | rfl
  ·exact⟨1,by decide,by decide,by decide⟩
  ·exact⟨2,by decide,by decide,by decide⟩
 ·rcases (show x=1\/x=2\/x=3\/x=4 by omega)with rfl | rfl | rfl | rfl
  ·exact⟨1,by decide,by decide,by decide⟩
  ·exact⟨3,by decide,by decide,by decide⟩
  ·exact⟨2,by decide,by decide,by decide⟩
  ·exact⟨4,by decide,by decide,by decide⟩
 ·rcases (show x=1\/x=2\/x=3\/x=4\/x=5\/x=6 by omega)with rfl | rfl | rfl | rfl | rfl | rfl
  ·exact⟨1,by decide,by decide,by decide⟩
  ·exact⟨4,by decide,by decide,by decide⟩
  ·exact⟨5,by decide,by decide,by decide⟩
  ·exact⟨2,by decide,by decide,by decide⟩
  ·exact⟨3,by decide,by decide,by decide⟩
  ·exact⟨6,by decide,by decide,by decide⟩
theorem wG{q:RX}{n a:Nat}{xE:List Nat}(h:(HU n).filter q=a::xE):a<n/\q a=di/\∀i,i<a->q i=d7:=by
 have b:a∈(HU n).filter q:=by rw[h];exact Iy
 refine⟨HW.mp (IL.mp b).1,(IL.mp b).2,λi d=>?_⟩;apply Lv;intro z;have I:q i=di:=by simpa using z
 have O:i∈a::xE:=by rw[<- h];exact IL.mpr ⟨HW.mpr (by have:=HW.mp (IL.mp b).1;omega),I⟩
 have U:(a::xE).Pairwise (· < ·):=by rw[<- h];exact Om _ NA
 rcases Il.mp O with e | e
 ·omega
 ·have:=(List.pairwise_cons.mp U).1 i e;omega
theorem KZ(h:(HU n).filter q=[]) : ∀i,i<n->q i=d7:=λi a=>by apply Lv;intro z;have:i∈(HU n).filter q:=IL.mpr ⟨HW.mpr a,by simpa using z⟩;rw[h]at this;simp at this
theorem YB(z:Pr p)(I:0<x)(C:x<p) : ∃y,vW [.int p,.int x]=cq (.val<|.int y)/\1<=y/\y<p/\x*y%p=1:=by
 rcases z with rfl | rfl | rfl | rfl
 ·have:x=1:=by omega
  subst this;exact⟨1,rfl,by decide,by decide,by decide⟩
 ·have:x=1\/x=2:=by omega
  rcases this with rfl | rfl
  ·exact⟨1,rfl,by decide,by decide,by decide⟩
  ·exact⟨2,rfl,by decide,by decide,by decide⟩
 ·have:x=1\/x=2\/x=3\/x=4:=by omega
  rcases this with rfl | rfl | rfl | rfl
  ·exact⟨1,rfl,by decide,by decide,by decide⟩
  ·exact⟨3,rfl,by decide,by decide,by decide⟩
  ·exact⟨2,rfl,by decide,by decide,by decide⟩
  ·exact⟨4,rfl,by decide,by decide,by decide⟩
 ·have:x=1\/x=2\/x=3\/x=4\/x=5\/x=6:=by omega
  rcases this with rfl | rfl | rfl | rfl | rfl | rfl
  ·exact⟨1,rfl,by decide,by decide,by decide⟩
  ·exact⟨4,rfl,by decide,by decide,by decide⟩
  ·exact⟨5,rfl,by decide,by decide,by decide⟩
  ·exact⟨2,rfl,by decide,by decide,by decide⟩
  ·exact⟨3,rfl,by decide,by decide,by decide⟩
  ·exact⟨6,rfl,by decide,by decide,by decide⟩
theorem wK(I:Pr p)(J:n<=lim)(z:t<n)(w P:Nat->Int)(C : ∀i,i<n->0<=w i/\w i<p) :
 qF [.int p,.tup<|zF n w,.tup<|zF n P,.int t]=cq (.val<|.tup<|zF n λi=>(w i - w t*P i)%p):=by
 have Y:=C t z;have b:=I.le;have U : ∀x,XW (w t) x=di:=λx=>vc _ _ ⋯ ⋯;by_cases O:w t=0
 ·simp[qF,jG,jm,jo,z,O]
  apply xJ;intro i a;rw[LF (C i a).1 (C i a).2]
 ·simp[qF,jG,jm,jo,z,O,wV,J,z6,x9,HZ]
  rw[zu (r:=λi=>D.int<|w i - w t*P i)]
  ·rw[<- zX]
   simp[JD _ I.pos J]
  ·intro i a
   refine zw rfl rfl ?_;simp[U]
theorem Y4{l:RZ}{r t:Nat}(C : ∀k m,k<m->m<r->l k<l m)(z : ∀k,k<r->l k<t):r<=t:=by
 have a : ∀k,k<r->k<=l k:=by
  intro k
  induction k with
  | zero=>intro _;exact Lp _
  | succ k I=>
   intro O;have b:=I ⋯;have d:=C k (k+1) ⋯ O;omega
 cases r with
 | zero=>exact Lp _
 | succ r=>
  have b:=a r ⋯;have d:=z r ⋯;omega
noncomputable def Zl:=(zM (jB 6<|jZ<|zL (zP<|zk 3) (.nm 0) 1 [5] (sB<|zC i0 (ed (zk 0)<|ze 1)<|zA<|.int 0) (ze 0))<|zM (lp (jP<|oP<|zk 6) oS ql)<|zM (jB 7<|zI vW<|zc (ze 0)<|zc (ed (z5<|ed (zk 6)<|zA<|.int 0)<|ze 5) zJ)<|zM (jB 8<|zI xB<|zc (ze 0)<|zc (jZ<|zL (zP<|z5<|ed (zk 6)<|zA<|.int 0) (.nm 0) 1 [7] jg (zC kK (ze 1)<|ze 0)) zJ)<|zM (jB 3<|jZ<|zL (zP<|zk 3) (.nm 0) 1 [0,5,8] jg (zI qF<|zc (ze 1)<|zc (ze 0)<|zc (ze 3)<|zc (ze 2) zJ))<|vg 4<|YO (jv<|zL (zP<|zk 4) (.nm 0) 1 [0,5,8] jg (zI qF<|zc (ze 1)<|zc (ze 0)<|zc (ze 3)<|zc (ze 2) zJ))<|jv<|kC<|zc (ze 8) zJ)
noncomputable def Un(r:Nat)(B:Nat->Vc)(m:Nat)(W:Nat->Vc):Vc->Prop:=λv=>fe r B v\/fe m W v
structure C4(p:Int)(n m:Nat)(W:Nat->Vc)(t r:Nat)(B:Nat->Vc)(l:RZ)(Wt:Nat->Vc):Prop where
 m8 : ∀j i,j<m->i<n->0<=Wt j i/\Wt j i<p
 DD : ∀j i,j<m->i<t->Wt j i=0
 Di:h8 p n r B l
 lt : ∀k,k<r->l k<t
 span : ∀v,Span p n (Un r B m Wt) v↔Span p n (fe m W) v
section
variable{p:Int}{n m:Nat}{W:Nat->Vc}{t r:Nat}{B:Nat->Vc}{l:RZ}{Wt:Nat->Vc}
theorem C4.skip(h:C4 p n m W t r B l Wt)(I : ∀j,j<m->Wt j t=0):C4 p n m W (t+1) r B l Wt:=
 ⟨h.m8,λj i z a=>by
  rcases IG i t with q | q
  ·exact h.DD j i z q
  ·have:i=t:=by omega
   subst this;exact I j z,h.Di,λk O=>Lo<|h.lt k O,h.span⟩
def l4(p:Int)(P:Vc)(t:Nat)(w:Vc):Vc:=λi=>(w i - w t*P i)%p
noncomputable def aH(p:Int)(P:Vc)(t r:Nat)(B:Nat->Vc):Nat->Vc:=λk=>if k<r then l4 p P t (B k)else P
def nu(t r:Nat)(l:RZ):Nat->Nat:=λk=>if k<r then l k else t
theorem Zj(z:Span p n G P)(C:Span p n G w):Span p n G (l4 p P t w):=
 (z.add C (-(w t))).congr λi _=>by unfold l4;rw[ID];congr 1;rw[Int.neg_mul];omega
theorem VJ(z:Span p n G P)(C:Span p n G (l4 p P t w)):Span p n G w:=
 (z.add C<|w t).congr λi _=>by unfold l4;rw[Lh,ID,<- Lh];congr 1;omega
theorem C4.next(C:Pr p)(h:C4 p n m W t r B l Wt)(L:t<n)(J:j0<m)(Z:Wt j0 t*y%p=1)(Y : ∀i,i<n->P i=y*Wt j0 i%p) :
 C4 p n m W (t+1) (r+1) (aH p P t r B) (nu t r l) (λj=>l4 p P t<|Wt j):=by
 have K:=C.pos;have one:=C.one;have A:P t=1:=by rw[Y t L,Ln];exact Z
 have f : ∀i,i<t->P i=0:=λi a=>by rw[Y i ⋯,h.DD j0 i J a];simp
 have as : ∀i,i<n->0<=P i/\P i<p:=λi a=>by rw[Y i a];exact⟨La _ ⋯,IP _ K⟩
 have F : ∀(w:Vc) i,0<=l4 p P t w i/\l4 p P t w i<p:=λw i=>⟨La _ ⋯,IP _ K⟩;have b : ∀(w:Vc) i,i<t->0<=w i->w i<p->l4 p P t w i=w i:=λw i a Q R=>by unfold l4;rw[f i a,Mt,Int.sub_zero];exact LF Q R
 have H : ∀w:Vc,l4 p P t w t=0:=λw=>by unfold l4;rw[A,NI,Int.sub_self];simp
 refine⟨λj i O a=>F _ _,λj i O a=>?_,⟨λk I=>?_,λk q M S=>?_,λk I=>?_,λk j I O=>?_,λk q I S N=>?_,λk i I a=>?_⟩,λk I=>?_,λv=>?_⟩
 ·rcases IG i t with q | q
  ·have e:=h.DD j i O q
   rw[b _ i q ⋯ ⋯];exact e
  ·have:i=t:=by omega
   subst this;exact H _
 ·unfold nu;split
  ·rename_i q;exact h.Di.lt k q
  ·exact L
 ·unfold nu
  have I:k<r:=by omega
  rw[RY I];split
  ·rename_i z;exact h.Di.mono k q M z
  ·exact h.lt k I
 ·unfold nu aH;split
  ·rename_i q
   have e:=h.Di.one k q;have d:=h.lt k q;rw[b _ _ d ⋯ (by have:=C.two;omega)];exact e
  ·exact A
 ·unfold aH;unfold nu at O;split at O
  ·rename_i q
   have e:=h.Di.n0 k j q O;have d:=h.lt k q;rw[RY q,b _ _ ⋯ ⋯ ⋯];exact e
  ·rename_i q
   rw[EQ q];exact f j O
 ·unfold aH nu
  by_cases x:k<r
  ·rw[RY x]
   by_cases U:q<r
   ·rw[RY U]
    have e:=h.Di.t6 k q x U N;have d:=h.lt q U;rw[b _ _ d ⋯ ⋯];exact e
   ·rw[EQ U];exact H _
  ·rw[EQ x]
   have U:q<r:=by omega
   rw[RY U];exact f _<|h.lt q U
 ·unfold aH;split
  ·exact F _ _
  ·exact as i a
 ·unfold nu;split
  ·rename_i q;exact Lo<|h.lt k q
  ·exact LW _
 ·rw[<- h.span v]
  have o:Span p n (Un r B m Wt) P:=((Span.gen (p:=p) (n:=n) (G:=Un r B m Wt) (g:=Wt j0)<|.inr ⟨j0,J,rfl⟩).smul y).congr λi a=>by rw[Y i a,ID]
  have E:Span p n (Un (r+1) (aH p P t r B) m λj=>l4 p P t<|Wt j) P:= .gen (.inl ⟨r,LW r,by unfold aH;rw[EQ (Lq r)]⟩);constructor
  ·refine λu=>u.le λg s=>?_
   rcases s with⟨k,I,rfl⟩ | ⟨j,O,rfl⟩
   ·unfold aH;split
    ·rename_i q;exact Zj o<|.gen<|.inl ⟨k,q,rfl⟩
    ·exact o
   ·exact Zj o<|.gen<|.inr ⟨j,O,rfl⟩
  ·refine λu=>u.le λg s=>?_
   rcases s with⟨k,I,rfl⟩ | ⟨j,O,rfl⟩
   ·refine VJ (t:=t) E (.gen<|.inl ⟨k,Lo I,?_⟩)
    unfold aH;rw[RY I]
   ·exact VJ (t:=t) E<|.gen<|.inr ⟨j,O,rfl⟩
theorem C4.done(h:C4 p n m W n r B l Wt)(v:Vc):Span p n (fe r B) v↔Span p n (fe m W) v:=by
 rw[<- h.span v];constructor
 ·exact λI=>I.le λg z=> .gen (.inl z)
 ·refine λI=>I.le λg z=>?_
  rcases z with z | ⟨j,O,rfl⟩
  ·exact .gen z
  ·exact .zero λi a=>by rw[h.DD j i O a];simp
theorem fC(I:True)(P:Vc):zW (r+1) n (aH p P t r B)=zW r n (λk=>l4 p P t<|B k)++[.tup (zF n P)]:=by
 unfold zW;rw[Mf,LD];congr 1
 ·apply Iu
  intro k z;have:=HW.mp z;simp[aH,this]
 ·simp[aH]
end
theorem xt{p:Int}(C:Pr p){n m:Nat}(hn:n<=100)(L:m<=lim)(J:Sk)(W:Nat->Vc) :
 ∃r B l,xu [.int p,.int n,t4 J (zW m n W)]=cq (.own<|zW r n B)/\h8 p n r B l/\∀v,Span p n (fe r B) v↔Span p n (fe m W) v:=by
 have hl:=jI;have a:n<=lim:=by omega
 have H:=C.pos;have E:=Yj (T:= .nm 5) (F:=Zl)
  (λt Q=>∃r B l Wt o s f h,Q=[.val (.int p),.val<|.int n,.val<|t4 J<|zW m n W,.val<|.lst<|zW m n Wt,.own<|zW r n B,o,s,f,h]/\C4 p n m W t r B l Wt)
  ((HU n).map λ(i:Nat)=>D.int i) 0 [.val (.int p),.val<|.int n,.val<|t4 J<|zW m n W,.val<|.lst<|zW m n λj i=>W j i%p,.own [],.no,.no,.no,.no]
  ⟨0,λ_ _=>0,λ_=>0,λj i=>W j i%p,.no,.no,.no,.no,rfl,λj i _ _=>⟨La _ ⋯,IP _ H⟩,λj i _ b=>absurd b<|o1 _,
   ⟨λk I=>absurd I<|o1 _,λk q _ I=>absurd I<|o1 _,λk I=>absurd I<|o1 _,λk j I=>absurd I<|o1 _,λk q I=>absurd I<|o1 _,λk i I=>absurd I<|o1 _⟩,
   λk I=>absurd I<|o1 _,λv=>⟨λA=>A.le λg w=>by
    rcases w with⟨k,I,_⟩ | ⟨j,U,rfl⟩
    ·exact absurd I<|o1 _
    ·exact(Span.gen (p:=p) (n:=n) (G:=fe m W) (g:=W j) ⟨j,U,rfl⟩).congr λi _=>ID _ _,λA=>A.le λg w=>by
    obtain⟨j,U,rfl⟩:=w;exact(Span.gen (p:=p) (n:=n) (G:=Un 0 (λ_ _=>0) m λj i=>W j i%p) (g:=λi=>W j i%p)<|.inr ⟨j,U,rfl⟩).congr λi _=>(ID _ _).symm⟩⟩ (by
   rintro t d Q u ⟨r,B,l,Wt,o,s,f,h,rfl,O⟩;rw[Lw]at O ⊢;have Y:t<n:=by have:=(Io.mp u).1;simpa using this
   have R:d = .int t:=by simp[Y]at u;exact u.symm
   subst R;have e:zN (.nm 0) (sB<|zC i0 (ed (zk 0)<|ze 1)<|zA<|.int 0) (ze 0) [Cell.no,Cell.val (.int t)] (zW m n Wt)=cq (((HU m).filter λj=> !decide (Wt j t=0)).map λj=>D.tup<|zF n<|Wt j):=by unfold zW;refine jr _ _ _ λj U=>⟨_,rfl,?_,λ_=>rfl⟩;simp[Y]
   have hr:r<=t:=Y4 O.Di.mono O.lt;have S:r<=lim:=by omega
   cases hf:(HU m).filter λj=> !decide (Wt j t=0)with
   | nil=>
    have hz : ∀j,j<m->Wt j t=0:=λj U=>by apply Lv;intro K;have:j∈(HU m).filter λj=> !decide (Wt j t=0):=IL.mpr ⟨HW.mpr U,by simp[K]⟩;rw[hf]at this;simp at this
    rw[hf]at e;refine⟨_,.inr ?_,r,B,l,Wt,.val<|.int t,.val<|.lst [],f,h,rfl,O.skip hz⟩;simp only[yV,Ia,LU,LS,Zl];rw[jo];simp[jo,z6,x9,HZ,e,L]
   | cons z xE=>
    have M:z∈(HU m).filter λj=> !decide (Wt j t=0):=by rw[hf];exact Iy
    have N:z<m:=HW.mp (IL.mp M).1;have K:Wt z t≠0:=by simpa using (IL.mp M).2
    have X:=O.m8 z t N Y;obtain⟨y,ey,y1,y2,yy⟩:=YB C (x:=Wt z t) ⋯ X.2;rw[hf]at e;have nx:=O.next C Y N yy (P:=λi=>y*Wt z i%p) λi _=>rfl;refine⟨_,.inl ?_,r+1,aH p (λi=>y*Wt z i%p) t r B,nu t r l,λj=>l4 p (λi=>y*Wt z i%p) t<|Wt j,.val<|.int t,.val<|.lst<|(z::xE).map λj=>D.tup<|zF n<|Wt j,.val<|.int y,.val<|.tup<|zF n λi=>y*Wt z i%p,rfl,nx⟩;have bl:=C.le;have cy : ∀x,XW y x=di:=λx=>vc _ _ ⋯ ⋯;have Z:zN (.nm 0) jg (zC kK (ze 1)<|ze 0) [Cell.no,Cell.val (.int y)] (zF n<|Wt z)=cq (zF n λi=>y*Wt z i):=by rw[zX,zX];refine zu _ _ λi b=>zw rfl rfl ?_;simp[cy]
    have b0:zN (.nm 0) jg (zI qF<|zc (ze 1)<|zc (ze 0)<|zc (ze 3)<|zc (ze 2) zJ) [Cell.no,Cell.val<|.int p,Cell.val<|.int t,Cell.val (.tup<|zF n λi=>y*Wt z i%p)] (zW m n Wt)=cq (zW m n λj=>l4 p (λi=>y*Wt z i%p) t<|Wt j):=by unfold zW;refine zu _ _ λj U=>zw rfl rfl ?_;simp[wK C a Y (Wt j) (λi=>y*Wt z i%p) λi b=>O.m8 j i (HW.mp U) b];rfl
    have b7:zN (.nm 0) jg (zI qF<|zc (ze 1)<|zc (ze 0)<|zc (ze 3)<|zc (ze 2) zJ) [Cell.no,Cell.val<|.int p,Cell.val<|.int t,Cell.val (.tup<|zF n λi=>y*Wt z i%p)] (zW r n B)=cq (zW r n λj=>l4 p (λi=>y*Wt z i%p) t<|B j):=by unfold zW;refine zu _ _ λj U=>zw rfl rfl ?_;simp[wK C a Y (B j) (λi=>y*Wt z i%p) λi b=>O.Di.m8 j i (HW.mp U) b];rfl
    have b8:r+1<=lim:=by omega
    rw[fC trivial];simp only[yV,Ia,LU,LS,Zl];rw[jo];simp[jo,z6,x9,HZ,e,L,a,Y,ey,Z,JD _ H a,b0,b7,S,b8])
 obtain⟨γ',e1,r,B,l,Wt,o,s,f,h,rfl,O⟩:=E;simp only[IE,Ls,Lw]at O;refine⟨r,B,l,?_,O.Di,O.done⟩;have b9:zN (.nm 0) jg (zI xB<|zc (ze 1)<|zc (ze 0) zJ) [Cell.no,Cell.val (.int p)] (zW m n W)=cq (zW m n λj i=>W j i%p):=by unfold zW;refine zu _ _ λj U=>zw rfl rfl ?_;simp[gz _ H a]
 have e0:xu [.int p,.int n,t4 J (zW m n W)]=jG 9 (zM (jB 3<|jZ<|zL (zP<|zk 2) (.nm 0) 1 [0] jg (zI xB<|zc (ze 1)<|zc (ze 0) zJ))<|zM (vg 4<|kC zJ)<|zM (wZ (jh<|ze 1) (.nm 5) Zl)<|Xk 4) [.int p,.int n,t4 J (zW m n W)]:=rfl;rw[e0];simp[jG,jm,jo,L,z6,x9,HZ,b9,a,jS];rw[zX n λi=>(i:Int),e1];simp
@[simp] def Bl:=@CN.eq_1
noncomputable def Jd{C:Type}(q:Nat)(x:C)(f:Nat->C):Nat->C:=λk=>if k<q then f k else if k=q then x else f (k - 1)
noncomputable def wQ(l:RZ)(r x:Nat):Nat:=((HU r).filter λk=>decide<|l k<x).length
theorem XQ : ∀{r:Nat},(∀k m,k<m->m<r->l k<l m)->(∀k,k<r->l k≠x)->wQ l r x<=r/\(∀k,k<wQ l r x->l k<x)/\∀k,wQ l r x<=k->k<r->x<l k
 | 0,_,_=>⟨Ic _,λk I=>absurd I (by simp[wQ]),λk _ I=>absurd I<|o1 _⟩
 | r+1,hm,SF=>by
  obtain⟨g,d,O⟩:=XQ (r:=r) (x:=x) (λk m a b=>hm k m a ⋯) λk I=>SF k ⋯;have e:wQ l (r+1) x=wQ l r x+if l r<x then 1 else 0:=by unfold wQ;rw[Mf,Oc,LG];by_cases q:l r<x<;>simp[q]
  by_cases q:l r<x
  ·rw[e,RY q]
   have U:wQ l r x=r:=by
    rcases IG (wQ l r x) r with z | z
    ·have Y:=O (wQ l r x) (Ic _) z
     have f:=hm (wQ l r x) r z<|LW r;omega
    ·omega
   rw[U];refine⟨Ic _,λk I=>?_,λk a b=>absurd b ⋯⟩;rcases IG k r with z | z
   ·exact d k ⋯
   ·have:k=r:=by omega
    subst this;exact q
  ·rw[e,EQ q,Nat.add_zero]
   refine⟨by omega,d,λk a b=>?_⟩;rcases IG k r with z | z
   ·exact O k a z
   ·have:k=r:=by omega
    subst this;have:=SF k b;omega
section
variable{p:Int}{n r:Nat}{B:Nat->Vc}{l:RZ}{w:Vc}
structure D2(p:Int)(n r:Nat)(B:Nat->Vc)(l:RZ)(w:Vc)(k:Nat)(R:Vc):Prop where
 m8 : ∀i,i<n->0<=R i/\R i<p
 DD : ∀q,q<k->R (l q)=0
 eqv : ∀G,(∀k,k<r->Span p n G (B k))->(Span p n G w↔Span p n G R)
theorem D2.next(C:Pr p)(Y:h8 p n r B l)(h:D2 p n r B l w k R)(I:k<r):D2 p n r B l w (k+1) (l4 p (B k) (l k) R):=by
 have a:=C.pos;refine⟨λi _=>⟨La _ ⋯,IP _ a⟩,λq b=>?_,λG O=>?_⟩
 ·unfold l4
  rcases IG q k with z | z
  ·rw[h.DD q z,Y.t6 k q I ⋯ ⋯];simp
  ·have:q=k:=by omega
   subst this;rw[Y.one q I];simp
 ·rw[h.eqv G O]
  exact⟨λU=>Zj (O k I) U,λU=>VJ (O k I) U⟩
theorem Yd(O:q<=r)(U:k<r+1):(k=q/\Jd q x f k=x)\/∃I,I<r/\Jd q x f k=f I/\((k<q/\I=k)\/(q<k/\I+1=k)):=by
 unfold Jd;rcases NH k q with z | z | z
 ·right;exact⟨k,by omega,by rw[RY z],.inl ⟨z,rfl⟩⟩
 ·left;subst z;exact⟨rfl,by rw[EQ (Lq _),RY rfl]⟩
 ·right;exact⟨k - 1,by omega,by rw[EQ ⋯,EQ ⋯],.inr ⟨z,by omega⟩⟩
theorem SG:Jd q x f q=x:=by unfold Jd;rw[EQ (Lq _),RY rfl]
theorem rE : ∃I,(I<q/\I=k\/q<I/\I=k+1)/\Jd q x f I=f k:=by
 rcases IG k q with z | z
 ·exact⟨k,.inl ⟨z,rfl⟩,by unfold Jd;rw[RY z]⟩
 ·exact⟨k+1,.inr ⟨by omega,rfl⟩,by unfold Jd;rw[EQ ⋯,EQ ⋯];rfl⟩
theorem rF(S:Pr p)(C:h8 p n r B l)(ha:a<n)(J:R a=1)(Z : ∀i,i<a->R i=0)(L : ∀k,k<r->R (l k)=0)(hR : ∀i,i<n->0<=R i/\R i<p) :
 h8 p n (r+1) (Jd (wQ l r a) R λk=>l4 p R a<|B k) (Jd (wQ l r a) a l):=by
 have T:=S.pos;have G : ∀k,k<r->l k≠a:=λk O e=>by have:=L k O;rw[e,J]at this;omega
 obtain⟨Q,W,X⟩:=XQ C.mono G;have M : ∀(w:Vc) i,0<=l4 p R a w i/\l4 p R a w i<p:=λw i=>⟨La _ ⋯,IP _ T⟩;have H : ∀w:Vc,l4 p R a w a=0:=λw=>by unfold l4;rw[J,NI,Int.sub_self];simp
 have A : ∀(w:Vc) k,k<r->0<=w (l k)->w (l k)<p->l4 p R a w (l k)=w (l k):=λw k O J N=>by unfold l4;rw[L k O,Mt,Int.sub_zero];exact LF J N
 have K : ∀k j,k<r->j<l k->l4 p R a (B k) j=0:=λk j O s=>by
  unfold l4;rw[C.n0 k j O s];rcases IG a (l k)with z | z
  ·rw[C.n0 k a O z];simp
  ·rw[Z j ⋯];simp
 have two:=S.two;have Y : ∀k,k<r+1->(k=wQ l r a/\Jd (wQ l r a) R (λk=>l4 p R a<|B k) k=R/\Jd (wQ l r a) a l k=a)\/
  ∃I,I<r/\Jd (wQ l r a) R (λk=>l4 p R a<|B k) k=l4 p R a (B I)/\Jd (wQ l r a) a l k=l I/\((k<wQ l r a/\I=k)\/(wQ l r a<k/\I+1=k)):=by
  intro k O;rcases Yd (x:=R) (f:=λk=>l4 p R a<|B k) Q O with⟨b,t⟩ | ⟨I,U,b,t⟩
  ·left;refine⟨b,t,?_⟩;subst b;exact SG
  ·right
   refine⟨I,U,b,?_,t⟩;rcases t with⟨E,F⟩ | ⟨E,F⟩
   ·unfold Jd;rw[RY E,F]
   ·unfold Jd;rw[EQ ⋯,EQ ⋯];congr 1;omega
 refine⟨λk O=>?_,λk m b8 u=>?_,λk O=>?_,λk j O s=>?_,λk m O u b9=>?_,λk i O P=>?_⟩
 ·rcases Y k O with⟨_,_,e⟩ | ⟨I,U,_,e,_⟩
  ·rw[e];exact ha
  ·rw[e];exact C.lt I U
 ·rcases Y k ⋯with⟨z,_,e⟩ | ⟨I,U,_,e,z⟩<;>rcases Y m u with⟨y,_,h⟩ | ⟨g,d,_,h,y⟩<;>rw[e,h]
  ·omega
  ·exact X g ⋯ d
  ·exact W I ⋯
  ·exact C.mono I g ⋯ d
 ·rcases Y k O with⟨_,b,e⟩ | ⟨I,U,b,e,_⟩<;>rw[b,e]
  ·exact J
  ·have o:=C.one I U
   rw[A _ I U ⋯ ⋯];exact o
 ·rcases Y k O with⟨_,b,e⟩ | ⟨I,U,b,e,_⟩<;>rw[b]<;>rw[e]at s
  ·exact Z j s
  ·exact K I j U s
 ·rcases Y k O with⟨z,b,_⟩ | ⟨I,U,b,_,z⟩<;>rcases Y m u with⟨y,_,h⟩ | ⟨g,d,_,h,y⟩<;>rw[b,h]
  ·omega
  ·exact L g d
  ·exact H _
  ·have o:=C.t6 I g U d ⋯
   rw[A _ g d ⋯ ⋯];exact o
 ·rcases Y k O with⟨_,b,_⟩ | ⟨I,U,b,_,_⟩<;>rw[b]
  ·exact hR i P
  ·exact M _ _
theorem rH(z:q<=r)(I:Span p n G R)(O : ∀k,k<r->Span p n G (F k)) : ∀g,fe (r+1) (Jd q R F) g->Span p n G g:=by
 rintro g ⟨k,U,rfl⟩;rcases Yd (x:=R) (f:=F) z U with⟨_,e⟩ | ⟨Y,a,e,_⟩<;>rw[e]
 ·exact I
 ·exact O Y a
theorem rj(I:q<=r):fe (r+1) (Jd q R F) R/\∀k,k<r->fe (r+1) (Jd q R F) (F k):=by refine⟨⟨q,by omega,SG.symm⟩,λk O=>?_⟩;obtain⟨z,h,e⟩:=rE (q:=q) (x:=R) (f:=F) (k:=k);exact⟨z,by omega,e.symm⟩
theorem lR(hp:Pr p)(Z:h8 p n r B l)(S:a<n)(U : ∀v,Span p n (fe r B) v↔Span p n (fe j W) v)(Y:D2 p n r B l (W j) r R)(L:y*R a%p=1)(C : ∀i,i<n->R' i=y*R i%p)(J:wQ l r a<=r)(v:Vc) :
 Span p n (fe (r+1)<|Jd (wQ l r a) R' λk=>l4 p R' a<|B k) v↔Span p n (fe (j+1) W) v:=by
 have w : ∀v,Span p n (fe j W) v->Span p n (fe (j+1) W) v:=λv O=>O.le λg ⟨i,b,e⟩=> .gen ⟨i,by omega,e⟩;have a2 : ∀k,k<r->Span p n (fe (j+1) W) (B k):=λk I=>w _<|(U _).mp (.gen ⟨k,I,rfl⟩);have m:Span p n (fe (j+1) W) R:=(Y.eqv _ a2).mp (.gen ⟨j,by omega,rfl⟩);have d:Span p n (fe (j+1) W) R':=(m.smul y).congr λi b=>by rw[C i b,ID]
 obtain⟨u,m2⟩:=rj (R:=R') (F:=λk=>l4 p R' a<|B k) J;have f:Span p n (fe (r+1)<|Jd (wQ l r a) R' λk=>l4 p R' a<|B k) R':= .gen u;have h : ∀k,k<r->Span p n (fe (r+1)<|Jd (wQ l r a) R' λk=>l4 p R' a<|B k) (B k):=λk I=>VJ (t:=a) f<|.gen<|m2 k I;have o:Span p n (fe (r+1)<|Jd (wQ l r a) R' λk=>l4 p R' a<|B k) R:=(f.smul<|R a).congr λi b=>by rw[C i b,vF,<- Lx,Ln (R a) y,Ii,L,MR,ID]
 constructor
 ·exact λO=>O.le<|rH J d λk I=>Zj d<|a2 k I
 ·refine λO=>O.le ?_
  rintro g ⟨i,b,rfl⟩;rcases IG i j with z | z
  ·exact((U _).mpr (.gen ⟨i,z,rfl⟩)).le λg s=>by obtain⟨k,I,e⟩:=s;rw[e];exact h k I
  ·have:i=j:=by omega
   subst this;exact(Y.eqv _ h).mpr o
theorem ck(O : ∀v,Span p n (fe r B) v↔Span p n (fe j W) v)(U:D2 p n r B l (W j) r R)(Y : ∀i,i<n->R i=0)(v:Vc):Span p n (fe r B) v↔Span p n (fe (j+1) W) v:=by
 constructor
 ·exact λI=>((O v).mp I).le λg ⟨i,a,e⟩=> .gen ⟨i,by omega,e⟩
 ·refine λI=>I.le ?_
  rintro g ⟨i,a,rfl⟩;rcases IG i j with z | z
  ·exact(O _).mpr (.gen ⟨i,z,rfl⟩)
  ·have:i=j:=by omega
   subst this;exact(U.eqv _ λk b=> .gen ⟨k,b,rfl⟩).mpr (.zero λi a=>by rw[Y i a];simp)
end
theorem fH(h w f):deep (.lst<|zW h w f)<=2:=WK h w f
theorem lh(h w f):h9 (.lst<|zW h w f)=di:=dE h w f
theorem Wj(h w f):l9 (.lst<|zW h w f)=di:=KS (fH h w f) ⋯<|lh h w f
@[simp] theorem sP(h w f):(fD h w f).length=h:=by simp[fD]
section
variable{p:Int}{n m r:Nat}{G:Vc->Prop}
theorem Span.sum{u:Nat->Vc}(c:Nat->Int) : ∀{m:Nat},(∀k,k<m->Span p n G (u k))->Span p n G λi=>zg (λk=>c k*u k i) m
 | 0,_=> .zero λi _=>by simp[zg]
 | m+1,h=>(((h m ⋯).add (Span.sum c (m:=m) λk z=>h k ⋯) (c m))).congr λi _=>by simp[zg]
noncomputable def Rk(p:Int)(n m:Nat)(W:Nat->Vc)(r:Nat):Prop:=∃B l,h8 p n r B l/\∀v,Span p n (fe r B) v↔Span p n (fe m W) v
theorem vh(U:Pr p)(h:Rk p n m W r)(h':Rk p n m W r'):r=r':=by obtain⟨B,l,Y,I⟩:=h;obtain⟨b,d,a,O⟩:=h';exact(Js U Y a (λv z=>(O v).mpr ((I v).mp z))<|λv z=>(I v).mpr ((O v).mp z)).1
theorem V6(z:Pr p)(I:h8 p n r B l)(C : ∀i,i<n->0<=w i/\w i<p) : ∀k,k<=r->∃R,D2 p n r B l w k R
 | 0,_=>⟨w,C,λq O=>absurd O<|o1 _,λG _=>Iff.rfl⟩
 | k+1,h=>by obtain⟨R,U⟩:=V6 z I C k ⋯;exact⟨_,U.next z I ⋯⟩
theorem WD : ∀(n:Nat) (R:Vc),(∀i,i<n->R i=0)\/∃a,a<n/\R a≠0/\∀i,i<a->R i=0
 | 0,R=> .inl λi b=>absurd b<|o1 _
 | n+1,R=>by
  rcases WD n R with h | ⟨a,h1,h2,I⟩
  ·by_cases e:R n=0
   ·exact .inl λi b=>by rcases IG i n with z | z;exact h i z;rw[show i=n by omega];exact e
   ·exact .inr ⟨n,by omega,e,h⟩
  ·exact .inr ⟨a,by omega,h2,I⟩
theorem mV(I:Pr p)(W:Nat->Vc)(C : ∀j i,0<=W j i/\W j i<p) : ∀m,∃r,r<=m/\Rk p n m W r
 | 0=>⟨0,Ic _,λ_ _=>0,λ_=>0,⟨λk z=>absurd z<|o1 _,λk q _ z=>absurd z<|o1 _,λk z=>absurd z<|o1 _,λk j z=>absurd z<|o1 _,λk q z=>absurd z<|o1 _,λk i z=>absurd z<|o1 _⟩,
  λv=>⟨λY=>Y.le λg ⟨k,z,_⟩=>absurd z<|o1 _,λY=>Y.le λg ⟨k,z,_⟩=>absurd z<|o1 _⟩⟩
 | m+1=>by
  obtain⟨r,t,B,l,O,b⟩:=mV I W C m;have s:=I.pos;obtain⟨R,U⟩:=V6 I O (w:=W m) (λi _=>C m i) r<|Ic _;rcases WD n R with h0 | ⟨a,ha,a5,a6⟩
  ·exact⟨r,by omega,B,l,O,ck b U h0⟩
  ·have f:=U.m8 a ha
   obtain⟨y,_,_,d⟩:=nF I (x:=R a) ⋯ f.2;have h : ∀k,k<r->l k≠a:=λk z e=>by have:=U.DD k z;rw[e]at this;exact a5 this
   exact⟨r+1,by omega,_,_,rF I O (R:=λi=>(y:Int)*R i%p) ha d (λi o=>by rw[a6 i o];simp) (λk z=>by rw[U.DD k z];simp) λi _=>⟨La _ ⋯,IP _ s⟩,
    lR I (R':=λi=>(y:Int)*R i%p) O ha b U d (λi _=>rfl) (XQ O.mono h).1⟩
theorem ZJ(z:Pr p)(m:Nat)(W:Nat->Vc) : ∃r,r<=m/\Rk p n m W r:=by
 obtain⟨r,O,B,l,U,Y⟩:=mV (n:=n) z (λj i=>W j i%p) (λj i=>⟨La _ (by have:=z.pos;omega),IP _ z.pos⟩) m;refine⟨r,O,B,l,U,λv=>(Y v).trans ⟨λh=>h.le λg ⟨k,I,e⟩=>?_,λh=>h.le λg ⟨k,I,e⟩=>?_⟩⟩
 ·subst e;exact(Span.gen (g:=W k) ⟨k,I,rfl⟩).congr λi _=>by rw[ID]
 ·subst e;exact(Span.gen (g:=λi=>W k i%p) ⟨k,I,rfl⟩).congr λi _=>by rw[ID]
theorem oV(z:Pr p){b:Nat}(_:n<=100)(_:m<=b)(W:Nat->Vc) : ∃r,r<=m/\Rk p n m W r:=ZJ z m W
theorem uo(C:Pr p)(h:Rk p n m W r)(h':Rk p n m' W' r')(J : ∀j,j<m->Span p n (fe m' W') (W j)):r<=r':=by
 obtain⟨B,l,U,x⟩:=h;obtain⟨E,f,Y,s⟩:=h';have o : ∀k,k<r->∃q,q<r'/\f q=l k:=λk I=>Vb Y ((s _).mpr (((x _).mp (.gen ⟨k,I,rfl⟩)).le λg ⟨j,w,e⟩=>e ▸ J j w)) (U.lt k I) (by rw[U.one k I,C.one];decide) λi u=>by rw[U.n0 k i I u];simp
 have a : ∀k,k<r->∀q,q<r'->f q=l k->k<=q:=by
  intro k
  induction k with
  | zero=>intro _ q _ _;exact Lp _
  | succ k A=>
   intro I q d e;obtain⟨O,b,t⟩:=o k ⋯;have F:=A ⋯ O b t;have G:=U.mono k (k+1) ⋯ I;rcases IG O q with z | z
   ·omega
   ·rcases IG q O with y | y
    ·have:=Y.mono q O y b
     omega
    ·have:q=O:=by omega
     subst this;omega
 rcases Nat.eq_zero_or_pos r with z | z
 ·omega
 ·obtain⟨q,d,e⟩:=o (r - 1) ⋯
  have:=a (r - 1) ⋯ q d e;omega
end
section
variable{p:Int}{n m r h w:Nat}
theorem wY{l:RZ}(h:Nat) : ∀{r:Nat},(∀k m,k<m->m<r->l k<l m)->∃s,s<=r/\(∀k,k<s->l k<h)/\∀k,s<=k->k<r->h<=l k
 | 0,_=>⟨0,Ic _,λk I=>absurd I<|o1 _,λk _ I=>absurd I<|o1 _⟩
 | r+1,hm=>by
  obtain⟨s,b,a,O⟩:=wY h (r:=r) λk m I U=>hm k m I ⋯;by_cases e:l r<h
  ·refine⟨r+1,Ic _,λk I=>?_,λk b a=>by omega⟩
   rcases IG k r with z | z
   ·have:=hm k r z ⋯;omega
   ·have:k=r:=by omega
    subst this;exact e
  ·refine⟨s,by omega,a,λk I Y=>?_⟩
   rcases IG k r with z | z
   ·exact O k I z
   ·have:k=r:=by omega
    subst this;omega
theorem Vh(I:s<=r)(C : ∀k,k<s->q k=d7)(J : ∀k,s<=k->k<r->q k=di):(HU r).filter q=(HU<|r - s).map (s + ·):=by
 obtain⟨d,rfl⟩ : ∃d,r=s+d:=⟨r - s,by omega⟩;rw[Od,Oc];have a:(HU s).filter q=[]:=List.filter_eq_nil_iff.mpr λk z=>by rw[C k (HW.mp z)];decide
 have b:((HU d).map (s + ·)).filter q=(HU d).map (s + ·):=List.filter_eq_self.mpr λk z=>by obtain⟨i,e,rfl⟩:=IB.mp z;exact J _ ⋯ (by have:=HW.mp e;omega)
 rw[a,b,Ma];rfl
noncomputable def yq(h:Nat)(u v:Vc):Vc:=λi=>if i<h then u i else v (i - h)
def jT(j:Nat):Vc:=λk=>if j=k then 1 else 0
theorem j7(C:i<h):yq h u v i=u i:=RY C
theorem qk(i:Nat):yq h u v (h+i)=v i:=by unfold yq;rw[EQ ⋯,Ma]
theorem w9(h w:Nat)(u v:Vc):zF h u++zF w v=zF (h+w) (yq h u v):=by
 unfold zF;rw[Od,LD];congr 1
 ·exact Iu λi a=>by rw[j7 (HW.mp a)]
 ·rw[Lb]
  exact Iu λi _=>by simp only[Function.comp];rw[qk]
theorem fw(h w:Nat)(v:Vc):(zF (h+w) v).take h=zF h v:=by unfold zF;rw[<- List.map_take,List.take_range,OP (IM h w)]
theorem fz(h w:Nat)(v:Vc):(zF (h+w) v).drop h=zF w λj=>v (h+j):=by unfold zF;rw[Od,LD,List.drop_append_of_le_length ⋯,List.drop_eq_nil_of_le ⋯,Lb];rfl
theorem WM(h w:Nat)(v:Vc):Vm (zF (h+w) v) dn (cq (h:Int))=zF h v:=by
 have c : ¬((h:Int)<0):=by omega
 have e:min h (h+w)=h:=OP<|IM h w;simp[Vm,Vn,c,e,fw]
theorem WL(h w:Nat)(v:Vc):Vm (zF (h+w) v) (cq (h:Int)) dn=zF w λj=>v (h+j):=by
 have c : ¬((h:Int)<0):=by omega
 have e:min h (h+w)=h:=OP<|IM h w;have t : ∀g:Vc,(zF w g).take w=zF w g:=λg=>MH ⋯;simp[Vm,Vn,c,e,fz,t]
theorem VN(v:Vc) : ∀n,Zt (zF n v)=cq ((HU n).map λi=>v i != 0)
 | 0=>rfl
 | n+1=>by
  have b : ∀l:List Nat,Zt (l.map λi=>D.int<|v i)=cq (l.map λi=>v i != 0):=by
   intro l
   induction l with
   | nil=>rfl
   | cons a l z=>simp[Zt,By,z]
  exact b _
theorem JG(I:h8 p (h+w) r B l)(O:r<=lim)(U:s<=r)(C : ∀k,k<s->l k<h)(h2 : ∀k,s<=k->k<r->h<=l k) :
 qG [.int h,.lst (zW r (h+w) B)]=cq (.own<|zW (r - s) w λk j=>B (s+k)<|h+j):=by
 have d:zN (.nm 0) (jP<|sB<|sI<|z5<|cp (ze 0) af<|u9<|ze 1) (cp (ze 0) (u9<|ze 1) af) [Cell.no,Cell.val (.int h)] (zW r (h+w) B)=cq (((HU r).filter λk=>decide<|h<=l k).map λk=>D.tup<|zF w λj=>B k<|h+j):=by
  unfold zW;refine jr (λk=>decide<|h<=l k) _ _ λk z=>⟨_,rfl,?_,λY=>?_⟩
  ·have z:=HW.mp z
   simp[WM,VN];by_cases e:h<=l k
   ·simp[e]
    intro i f;have:=I.n0 k i z ⋯;simp[this]
   ·simp[e]
    exact⟨l k,by omega,by rw[I.one k z];decide⟩
  ·simp[WL]
 rw[Vh U (λk z=>decide_eq_false (by have:=C k z;omega)) (λk a b=>decide_eq_true<|h2 k a b)]at d;simp[qG,jG,jm,O,z6,x9,HZ,d];unfold zW;rfl
noncomputable def DH(p:Int)(h w:Nat)(f:RK)(v:Vc):Prop:=∀i,i<h->zg (λj=>f i j*v j) w%p=0
theorem iS{f:RK}{v:Vc}(O:Span p (h+w) (fe w λj=>yq h (λi=>f i j)<|jT j) v) : ∀i,i<h->v i%p=zg (λj=>f i j*v (h+j)) w%p:=by
 induction O with
 | @zero v z=>
  intro i a;rw[z i ⋯];have:zg (λj=>f i j*v (h+j)) w%p=zg (λ_=>0) w%p:=zH λj U=>by rw[Ii,z (h+j) ⋯];simp
  rw[this,zO];rfl
 | @step v u g c Y l I k=>
  intro i a;obtain⟨m,e,rfl⟩:=Y;rw[I i ⋯,Lh,k i a,<- Lh];have d:zg (λj=>f i j*v (h+j)) w%p=zg (λj=>f i j*u (h+j)+c*(f i j*jT m j)) w%p:=zH λj U=>by rw[Ii,I (h+j) ⋯,<- Ii];simp only[qk];rw[Nj,Mn]
  rw[d,jA,jt,zK (f:=λj=>f i j*jT m j) e λj _ b=>by simp[jT,IT b]];simp[jT,j7 a]
theorem VI(I:Pr p)(w:Nat):h8 p w w jT id where
 lt:=λk z=>z
 mono:=λk m z _=>z
 one:=λk _=>RY rfl
 n0:=λk j _ O=>EQ (by simp only[id]at O;omega)
 t6:=λk m _ _ U=>EQ (by simp only[id];omega)
 m8:=λk i _ _=>by have:=I.two;unfold jT;split<;>omega
theorem Span.map(t:RZ)(z : ∀i,i<n'->t i<n)(I : ∀g,G g->Span p n' G' λi=>g<|t i)(O:Span p n G v):Span p n' G' λi=>v (t i):=by
 induction O with
 | @zero v U=>exact .zero λi a=>U _<|z i a
 | @step v u g c Y e b d=>exact((I _ Y).add d c).congr λi a=>b _<|z i a
theorem yc(C:Pr p)(hh:h<=20)(hw:w<=20)(f:RK) :
 ∃q K l s,yX [.int p,ja h w f]=cq (.own<|zW q w K)/\h8 p w q K l/\(∀v,Span p w (fe q K) v↔DH p h w f v)/\Rk p h w (λj i=>f i j) s/\q+s=w:=by
 have hl:=jI;have S:h<=lim:=by omega
 have y:w<=lim:=by omega
 have X:h+w<=lim:=by omega
 obtain⟨r,B,l,e,O,x⟩:=xt C (show h+w<=100 by omega) y .L λj=>yq h (λi=>f i j)<|jT j;have Z : ∀v,Span p (h+w) (fe r B) v->∀i,i<h->v i%p=zg (λj=>f i j*v (h+j)) w%p:=λv Y=>iS<|(x v).mp Y;have am:r<=w:=by obtain⟨r',E,G⟩:=ZJ C (n:=h+w) w λj=>yq h (λi=>f i j)<|jT j;rw[vh C ⟨B,l,O,x⟩ G];exact E
 have an:w<=r:=by obtain⟨r',E,G⟩:=ZJ C (n:=w) r λk j=>B k<|h+j;refine Lr (uo C (m:=w) (W:=jT) ⟨jT,id,VI C w,λv=>Iff.rfl⟩ G λj U=>?_) E;have:=Span.map (n':=w) (G':=fe r λk j=>B k<|h+j) (λi=>h+i) (λi a=>by omega) (λg ⟨k,I,b⟩=> .gen ⟨k,I,by rw[b]⟩)<|(x<|yq h (λi=>f i j)<|jT j).mpr (.gen ⟨j,U,rfl⟩);exact this.congr λi _=>by rw[qk]
 have er:r=w:=Nat.le_antisymm am an;subst er;obtain⟨s,hs,N,o⟩:=wY h O.mono;have eb:=JG O y hs N o;have ax:h8 p r (r - s) (λk j=>B (s+k)<|h+j) (λk=>l (s+k) - h):={
  lt:=λk I=>by have:=O.lt (s+k) ⋯;have:=o (s+k) ⋯ ⋯;omega
  mono:=λk m I H=>by have:=O.mono (s+k) (s+m) ⋯ ⋯;have:=o (s+k) ⋯ ⋯;omega
  one:=λk I=>by have:=o (s+k) ⋯ ⋯;rw[show h+(l (s+k) - h)=l (s+k)by omega];exact O.one _ ⋯
  n0:=λk j I U=>O.n0 _ _ ⋯ ⋯
  t6:=λk m I H A=>by have:=o (s+m) ⋯ ⋯;rw[show h+(l (s+m) - h)=l (s+m)by omega];exact O.t6 _ _ ⋯ ⋯ ⋯
  m8:=λk i I a=>O.m8 _ _ ⋯ ⋯}
 refine⟨r - s,_,_,s,?_,ax,λv=>⟨λY=>?_,λY=>?_⟩,?_,by omega⟩
 ·have Q:=vU f S y
  have R:=yJ (n:=r) y;have M:zN (.tp [0,1]) jg (zC qr (ze 0)<|ze 1) [Cell.no,Cell.no] ((HU r).map λj=>D.tup [.tup (zF h λi=>f i j),.tup (zF r λk=>if j=k then 1 else 0)])=cq (zW r (h+r) λj=>yq h (λi=>f i j)<|jT j):=by unfold zW;refine zu _ _ λj U=>zw rfl rfl ?_;simp[qr,X,w9];rfl
  have zp:X4 (zW r h λi j=>f j i) (zW r r λi j=>if i=j then 1 else 0)=(HU r).map λj=>D.tup [.tup (zF h λi=>f i j),.tup (zF r λk=>if j=k then 1 else 0)]:=by unfold X4 zW;rw[Nm];simp
  have c1:((h:Int)+(r:Int))=((h+r:Nat):Int):=by omega
  simp only[t4]at e;rw[<- c1]at e;unfold ja at Q R ⊢;have nl : ∀T t f γ,zN T t f γ []=cq []:=λ_ _ _ _=>rfl;simp[yX,xO,jG,jm,jo,Q,R,zp,y,z6,HZ,M,nl,e,eb]
 ·intro i a
  induction Y with
  | @zero v hz=>
   have:zg (λj=>f i j*v j) r%p=zg (λ_=>0) r%p:=zH λj U=>by rw[Ii,hz j U];simp
   rw[this,zO];rfl
  | @step v u g c hg hu he J=>
   obtain⟨k,I,rfl⟩:=hg;have e1:zg (λj=>f i j*v j) r%p=zg (λj=>f i j*u j+c*(f i j*B (s+k) (h+j))) r%p:=zH λj U=>by rw[Ii,he j U,<- Ii,Nj,Mn]
   have P:=Z (B<|s+k) (.gen ⟨s+k,by omega,rfl⟩) i a;have e3:B (s+k) i=0:=O.n0 _ _ ⋯ (by have:=o (s+k) ⋯ ⋯;omega);rw[e3]at P;rw[e1,jA,jt,Lh,J,Ii,<- P];simp
 ·
  have bf:Span p (h+r) (fe r B) (yq h (λ_=>0) v):=by
   refine(x _).mpr ((Span.sum (u:=λj=>yq h (λi=>f i j)<|jT j) v (m:=r) λj U=> .gen ⟨j,U,rfl⟩).congr λi a=>?_);rcases IG i h with z | z
   ·simp only[j7 z]
    rw[zx (g:=λj=>f i j*v j) λj _=>Ln _ _,Y i z];simp
   ·obtain⟨k,rfl⟩ : ∃k,i=h+k:=⟨i - h,by omega⟩
    simp only[qk];rw[zK (f:=λj=>v j*jT j k) (i:=k) ⋯ λj _ A=>by simp[jT,A]];simp[jT]
  have co:=wO O bf;refine(Span.sum (u:=λk j=>B (s+k)<|h+j) (λk=>yq h (λ_=>0) v<|l<|s+k) (m:=r - s) λk I=> .gen ⟨k,I,rfl⟩).congr λj U=>?_;have:=co (h+j) ⋯;rw[qk]at this;rw[this];obtain⟨d,rfl⟩ : ∃d,r=s+d:=⟨r - s,by omega⟩;rw[Ma];have sp : ∀(F:Nat->Int) (d:Nat),(∀k,k<s->F k=0)->zg F (s+d)=zg (λk=>F<|s+k) d:=by
   intro F d hF
   induction d with
   | zero=>
    show zg F s=0;rw[zx (g:=λ_=>0) hF,zO]
   | succ d J=>rw[<- OA];simp only[zg];rw[J]
  rw[sp _ d λk I=>by rw[j7 (N k I)];simp]
 ·
  refine⟨λk i=>B k i,l,⟨λk I=>N k I,λk m I H=>O.mono k m I ⋯,λk I=>O.one k ⋯,λk j I U=>O.n0 k j ⋯ U,λk m I H A=>O.t6 k m ⋯ ⋯ A,λk i I a=>O.m8 k i ⋯ ⋯⟩,λv=>⟨λY=>Y.le λg ⟨k,I,b⟩=>?_,λY=>Y.le λg ⟨j,U,b⟩=>?_⟩⟩
  ·subst b
   exact Span.map (n':=h) (G':=fe r λj i=>f i j) (λi=>i) (λi a=>by omega) (λg ⟨j,U,b⟩=>(Span.gen (g:=λi=>f i j) ⟨j,U,rfl⟩).congr λi a=>by rw[b];simp only[j7 a])<|(x<|B k).mp (.gen ⟨k,by omega,rfl⟩)
  ·subst b
   have:=Span.map (n':=h) (G':=fe s λk i=>B k i) (λi=>i) (λi a=>by omega) (λg hZ=>by
    obtain⟨k,I,b⟩:=hZ;subst b;rcases IG k s with z | z
    ·exact .gen ⟨k,z,rfl⟩
    ·exact .zero λi a=>by rw[O.n0 k i I (by have:=o k z I;omega)];simp) ((x<|yq h (λi=>f i j)<|jT j).mpr (.gen ⟨j,U,rfl⟩))
   exact this.congr λi a=>by rw[j7 a]
end
section
variable{p:Int}{h w q r:Nat}
def app(f:RK)(w:Nat)(v:Vc):Vc:=λi=>zg (λj=>f i j*v j) w
theorem Vw(z : ∀j,j<w->v j%p=(u j+c*g j)%p)(i:Nat):app f w v i%p=(app f w u i+c*app f w g i)%p:=by
 unfold app;have e:zg (λj=>f i j*v j) w%p=zg (λj=>f i j*u j+c*(f i j*g j)) w%p:=zH λj I=>by rw[Ii,z j I,<- Ii,Nj,Mn]
 rw[e,jA,jt]
theorem Zn(z : ∀j,j<w->v j%p=0)(i:Nat):app f w v i%p=0:=by
 unfold app;have:zg (λj=>f i j*v j) w%p=zg (λ_=>0) w%p:=zH λj I=>by rw[Ii,z j I];simp
 rw[this,zO];rfl
theorem jJ(z : ∀j,j<w->v j%p=u j%p)(i:Nat):app f w v i%p=app f w u i%p:=by unfold app;exact zH λj I=>by rw[Ii,z j I,<- Ii]
theorem W7(O:h8 p (h+w) r B l)(L:s<=r)(J : ∀k,k<s->l k<h)(C : ∀k,s<=k->k<r->h<=l k) :
 h8 p w (r - s) (λk j=>B (s+k)<|h+j) (λk=>l (s+k) - h)/\∀v,Span p w (fe (r - s) λk j=>B (s+k)<|h+j) v↔Span p (h+w) (fe r B) (yq h (λ_=>0) v):=by
 refine⟨{
  lt:=λk I=>by have:=O.lt (s+k) ⋯;have:=C (s+k) ⋯ ⋯;omega
  mono:=λk m I t=>by have:=O.mono (s+k) (s+m) ⋯ ⋯;have:=C (s+k) ⋯ ⋯;omega
  one:=λk I=>by have:=C (s+k) ⋯ ⋯;rw[show h+(l (s+k) - h)=l (s+k)by omega];exact O.one _ ⋯
  n0:=λk j I o=>O.n0 _ _ ⋯ ⋯
  t6:=λk m I t A=>by have:=C (s+m) ⋯ ⋯;rw[show h+(l (s+m) - h)=l (s+m)by omega];exact O.t6 _ _ ⋯ ⋯ ⋯
  m8:=λk i I a=>O.m8 _ _ ⋯ ⋯},λv=>⟨λU=>?_,λU=>?_⟩⟩
 ·induction U with
  | @zero v x=>
   refine .zero λi a=>?_;rcases IG i h with z | z
   ·rw[j7 z];simp
   ·obtain⟨k,rfl⟩ : ∃k,i=h+k:=⟨i - h,by omega⟩
    rw[qk];exact x k ⋯
  | @step v u g c n E f Y=>
   obtain⟨k,I,rfl⟩:=n;refine .step (g:=B<|s+k) (c:=c) ⟨s+k,by omega,rfl⟩ Y λi a=>?_;rcases IG i h with z | z
   ·rw[j7 z,j7 z,O.n0 (s+k) i ⋯ (by have:=C (s+k) ⋯ ⋯;omega)];simp
   ·obtain⟨j,rfl⟩ : ∃k,i=h+k:=⟨i - h,by omega⟩
    rw[qk,qk];exact f j ⋯
 ·have b:=wO O U
  refine(Span.sum (u:=λk j=>B (s+k)<|h+j) (λk=>yq h (λ_=>0) v<|l<|s+k) (m:=r - s) λk I=> .gen ⟨k,I,rfl⟩).congr λj o=>?_;have:=b (h+j) ⋯;rw[qk]at this;rw[this];obtain⟨d,rfl⟩ : ∃d,r=s+d:=⟨r - s,by omega⟩;rw[Ma];have y : ∀(F:Nat->Int) (d:Nat),(∀k,k<s->F k=0)->zg F (s+d)=zg (λk=>F<|s+k) d:=by
   intro F d e
   induction d with
   | zero=>
    show zg F s=0;rw[zx (g:=λ_=>0) e,zO]
   | succ d Y=>rw[<- OA];simp only[zg];rw[Y]
  rw[y _ d λk I=>by rw[j7 (J k I)];simp]
end
section
variable{p:Int}{h w q:Nat}
noncomputable def qO(h w:Nat)(f:RK)(g:Nat->Vc):Nat->Vc:=λm=>if m<w then yq h (λi=>f i m) (jT m)else yq h (g<|m - w) (λ_=>0)
theorem fB(f:RK)(g:Nat->Vc):zW w (h+w) (λj=>yq h (λi=>f i j)<|jT j)++zW q (h+w) (λk=>yq h (g k) λ_=>0)=zW (w+q) (h+w) (qO h w f g):=by
 unfold zW;rw[Od,LD,Lb];congr 1
 ·refine Iu λm a=>?_
  unfold qO;rw[RY (HW.mp a)]
 ·refine Iu λm a=>?_
  simp only[Function.comp];unfold qO;rw[EQ ⋯,Ma]
theorem vR(f:RK)(z:j<w)(i:Nat):app f w (jT j) i=f i j:=by unfold app;rw[zK (f:=λk=>f i k*jT j k) z λk _ I=>by simp[jT,IT I]];simp[jT]
theorem dw(I:Span p (h+w) (fe (w+q)<|qO h w f g) z):Span p h (fe q g) λi=>z i - app f w (λj=>z<|h+j) i:=by
 induction I with
 | @zero z I=>
  refine .zero λi a=>?_;rw[Mh,I i ⋯,Zn (p:=p) (λj l=>I (h+j) ⋯) i];simp
 | @step z u n c k r Y d=>
  obtain⟨m,o,rfl⟩:=k;have e:=λi=>Vw (p:=p) (w:=w) (f:=f) (u:=λj=>u<|h+j) (g:=λj=>qO h w f g m<|h+j) (v:=λj=>z<|h+j) (c:=c) (λj l=>Y (h+j) ⋯) i;have b : ∀i,i<h->(z i - app f w (λj=>z<|h+j) i)%p=((u i - app f w (λj=>u<|h+j) i)+c*(qO h w f g m i - app f w (λj=>qO h w f g m<|h+j) i))%p:=λi a=>by rw[Mh,Y i ⋯,e i,<- Mh];congr 1;rw[Int.mul_sub];omega
  rcases IG m w with O | O
  ·refine d.congr λi a=>?_
   rw[b i a];have t:app f w (λj=>qO h w f g m<|h+j) i=f i m:=by
    have:(λj=>qO h w f g m<|h+j)=jT m:=by funext j;unfold qO;rw[RY O,qk]
    rw[this,vR f O]
   have U:qO h w f g m i=f i m:=by unfold qO;rw[RY O,j7 a]
   rw[t,U];simp
  ·refine .step (g:=g<|m - w) (c:=c) ⟨m - w,by omega,rfl⟩ d λi a=>?_
   rw[b i a];have t:app f w (λj=>qO h w f g m<|h+j) i=0:=by
    have:(λj=>qO h w f g m<|h+j)=λ_=>0:=by funext j;unfold qO;rw[EQ ⋯,qk]
    rw[this];unfold app;simp[zO]
   have U:qO h w f g m i=g (m - w) i:=by unfold qO;rw[EQ ⋯,j7 a]
   rw[t,U];simp
theorem rO(I:Span p h (fe q g) y):Span p (h+w) (fe (w+q)<|qO h w f g) (yq h y λ_=>0):=by
 induction I with
 | @zero y O=>
  refine .zero λi a=>?_;rcases IG i h with z | z
  ·rw[j7 z];exact O i z
  ·obtain⟨k,rfl⟩ : ∃k,i=h+k:=⟨i - h,by omega⟩
   rw[qk];simp
 | @step y u d c U m Y b=>
  obtain⟨k,l,rfl⟩:=U;refine .step (g:=qO h w f g<|w+k) (c:=c) ⟨w+k,by omega,rfl⟩ b λi a=>?_;have e:qO h w f g (w+k)=yq h (g k) λ_=>0:=by unfold qO;rw[EQ ⋯,Ma]
  rw[e];rcases IG i h with z | z
  ·rw[j7 z,j7 z,j7 z];exact Y i z
  ·obtain⟨j,rfl⟩ : ∃k,i=h+k:=⟨i - h,by omega⟩
   rw[qk,qk,qk];simp
theorem X3(hp:Pr p)(hh:h<=20)(hw:w<=20)(hq:q<=100)(f:RK)(g:Nat->Vc) :
 ∃r B l,xO [.int p,ja h w f,.lst (zW q h g)]=cq (.own<|zW r w B)/\h8 p w r B l/\∀v,Span p w (fe r B) v↔Span p h (fe q g) (app f w v):=by
 have hl:=jI;have S:h<=lim:=by omega
 have I:w<=lim:=by omega
 have U:h+w<=lim:=by omega
 have W:q<=lim:=by omega
 have Y:w+q<=lim:=by omega
 obtain⟨r,B,l,e,O,F⟩:=xt hp (show h+w<=100 by omega) Y .L<|qO h w f g;have as:r<=h+w:=Y4 O.mono O.lt;obtain⟨s,t,A,C⟩:=wY h O.mono;have K:=JG O ⋯ t A C;obtain⟨H,Q⟩:=W7 O t A C;refine⟨r - s,_,_,?_,H,λv=>(Q v).trans ((F _).trans ⟨λx=>?_,λx=>?_⟩)⟩
 ·have y:=vU f S I
  have E:=yJ (n:=w) I;have d:zN (.tp [0,1]) jg (zC qr (ze 0)<|ze 1) [Cell.no,Cell.no] ((HU w).map λj=>D.tup [.tup (zF h λi=>f i j),.tup (zF w λk=>if j=k then 1 else 0)])=cq (zW w (h+w) λj=>yq h (λi=>f i j)<|jT j):=by unfold zW;refine zu _ _ λj o=>zw rfl rfl ?_;simp[qr,U,w9];rfl
  have R:X4 (zW w h λi j=>f j i) (zW w w λi j=>if i=j then 1 else 0)=(HU w).map λj=>D.tup [.tup (zF h λi=>f i j),.tup (zF w λk=>if j=k then 1 else 0)]:=by unfold X4 zW;rw[Nm];simp
  have J:inR (w:Int)=di:=eO I;have zr:kK (.tup [.int 0]) (.int w)=cq (.tup<|zF w λ_=>0):=by
   show(if [D.int 0].length*(w:Int).toNat<=lim/\inR (w:Int)=di then cq (D.tup (HZ (w:Int).toNat [D.int 0]).flatten)else dn)=_;rw[RY ⟨by simpa using I,J⟩];congr 2;rw[Me];clear d R E y K H Q F O e J Y U I hw hq A C t as
   induction w with
   | zero=>rfl
   | succ w ih=>rw[List.replicate_succ',List.flatten_append,ih];unfold zF;rw[Mf,LD];rfl
  have M:zN (.nm 0) jg (zC qr (ze 0)<|zC kK (xx<|zc (zA<|.int 0) zJ)<|ed (zk 1)<|zA<|.int 1) [Cell.no,Cell.val (ja h w f)] (zW q h g)=cq (zW q (h+w) λk=>yq h (g k) λ_=>0):=by unfold zW;refine zu _ _ λk P=>zw rfl rfl ?_;have sq:jX (ja h w f)=cq (.T,[.int h,.int w,.tup (zW h w f)]):=rfl;simp[sq,zr,qr,U,w9]
  have Z:((h:Int)+(w:Int))=((h+w:Nat):Int):=by omega
  simp only[t4]at e;rw[<- Z,<- fB]at e;have sq:jX (ja h w f)=cq (.T,[.int h,.int w,.tup (zW h w f)]):=rfl;unfold ja at y E M ⊢;simp[xO,jG,jm,jo,y,E,R,I,W,Y,z6,x9,HZ,d,M,e,K]
 ·have:=dw x
  refine(this.smul (-1)).congr λi N=>?_;congr 1;show app f w v i = -1*(yq h (λ_=>0) v i - app f w (λj=>yq h (λ_=>0) v<|h+j) i);rw[j7 N,show(λj=>yq h (λ_=>0) v<|h+j)=v from funext λj=>qk j];omega
 ·have a:=Span.sum (p:=p) (n:=h+w) (G:=fe (w+q)<|qO h w f g) (u:=λj=>qO h w f g j) v (m:=w) λj o=> .gen ⟨j,by omega,rfl⟩
  have b:=rO (w:=w) (f:=f) x;refine(b.add a (-1)).congr λi N=>?_;congr 1;rcases IG i h with z | z
  ·rw[j7 z,j7 z]
   have:zg (λk=>v k*qO h w f g k i) w=app f w v i:=by unfold app;exact zx λk P=>by unfold qO;rw[RY P,j7 z,Ln]
   rw[this];omega
  ·obtain⟨k,rfl⟩ : ∃k,i=h+k:=⟨i - h,by omega⟩
   rw[qk,qk];have:zg (λj=>v j*qO h w f g j (h+k)) w=v k:=by rw[zK (f:=λj=>v j*qO h w f g j (h+k)) (i:=k) ⋯ λj o X=>by unfold qO;rw[RY o,qk];simp[jT,X]];unfold qO;rw[RY (show k<w by omega),qk];simp[jT]
   rw[this];simp
end
def ku(i j:Nat):Int:=if i=j then 1 else 0
noncomputable def JA(p:Int)(n:Nat)(f g:RK):Prop:=∀i j,i<n->j<n->zg (λk=>f i k*g k j) n%p=ku i j%p
theorem vi{p x y X Y:Int}(C:x%p=X%p)(I:y%p=Y%p):(x*y)%p=(X*Y)%p:=by rw[Ii,C,I,<- Ii]
section
variable{p:Int}{n:Nat}{f g f' g':RK}
theorem WY{a b:Int}{u:Nat}(U:a*b%p=1%p)(C:JA p n f g)(Y : ∀i k,i<n->k<n->f' i k%p=((if i=u then a else 1)*f i k)%p)(J : ∀k j,k<n->j<n->g' k j%p=((if j=u then b else 1)*g k j)%p):JA p n f' g':=by
 intro i j d z;rw[zH (g:=λk=>((if i=u then a else 1)*(if j=u then b else 1))*(f i k*g k j)) λk I=>by rw[vi (Y i k d I) (J k j I z)];congr 1;rw[Lx,Lx];congr 1;rw[Mn],jt,Ii,C i j d z,<- Ii]
 unfold ku;by_cases e:i=j
 ·subst e
  by_cases O:i=u
  ·simp only[RY O,if_true,NI];exact U
  ·simp only[EQ O,if_true];rfl
 ·simp only[EQ e,Mt]
theorem YE{a b:Int}{u:Nat}(U:b*a%p=1%p)(C:JA p n g f)(Y : ∀i k,i<n->k<n->f' i k%p=((if i=u then a else 1)*f i k)%p)(J : ∀k j,k<n->j<n->g' k j%p=((if j=u then b else 1)*g k j)%p):JA p n g' f':=by
 intro i j d z;rw[<- C i j d z];refine zH λk I=>?_;rw[vi (J i k d I) (Y k j I z)];by_cases O:k=u
 ·simp only[RY O]
  rw[show b*g i k*(a*f k j)=(b*a)*(g i k*f k j)by rw[Lx,Lx];congr 1;rw[Mn],Ii,U,<- Ii,MR]
 ·simp only[EQ O,MR]
theorem gU{t:Int}{u o:Nat}(U:u<n)(Z:o<n)(J:u≠o)(C:JA p n f g)(L : ∀i k,i<n->k<n->f' i k%p=(f i k+(if i=u then t else 0)*f o k)%p)(hg : ∀k j,k<n->j<n->g' k j%p=(g k j+(if j=o then -t else 0)*g k u)%p):JA p n f' g':=by
 intro i j r I;generalize ea:(if i=u then t else 0)=a at L;have w : ∀k,k<n->f' i k%p=(f i k+(if i=u then t else 0)*f o k)%p:=λk z=>by have:=L i k r z;exact this
 rw[zH (g:=λk=>f i k*g k j+(if j=o then -t else 0)*(f i k*g k u)+((if i=u then t else 0)*(f o k*g k j)+((if i=u then t else 0)*(if j=o then -t else 0))*(f o k*g k u))) λk z=>by
  rw[vi (w k z) (hg k j z I)];congr 1;generalize (if i=u then t else 0)=a;generalize (if j=o then -t else 0)=b;rw[OE,Nj,Nj];congr 1
  ·congr 1;rw[Mn]
  ·congr 1
   ·rw[Lx]
   ·rw[Lx,Lx];congr 1;rw[Mn]]
 rw[jA,jA,jA,jt,jt,jt];have B:=C i j r I;have E:=C i u r U;have F:=C o j Z I;have G:=C o u Z U;have O : ∀c S d:Int,S%p=d%p->(c*S)%p=(c*d)%p:=λc S d h=>vi rfl h;have ad : ∀x y X Y:Int,x%p=X%p->y%p=Y%p->(x+y)%p=(X+Y)%p:=λx y X Y a b=>by rw[Lh,a,b,<- Lh]
 rw[ad _ _ _ _ (ad _ _ _ _ B<|O _ _ _ E) (ad _ _ _ _ (O _ _ _ F)<|O _ _ _ G)];congr 1;unfold ku;have s : ¬o=u:=λe=>J e.symm;by_cases l:i=u
 ·by_cases m:j=o
  ·subst l m;simp[J,s];omega
  ·have A : ¬o=j:=λe=>m e.symm
   simp[l,m,A,s]
 ·simp[l]
theorem bC{t:Int}{u o:Nat}(O:u<n)(U:o<n)(Y:u≠o)(C:JA p n g f)(J : ∀i k,i<n->k<n->f' i k%p=(f i k+(if i=u then t else 0)*f o k)%p)(L : ∀k j,k<n->j<n->g' k j%p=(g k j+(if j=o then -t else 0)*g k u)%p):JA p n g' f':=by
 intro i j d I;rw[<- C i j d I];rw[zH (g:=λk=>g i k*f k j+((if k=u then t*(g i u*f o j)else 0)+(if k=o then -t*(g i u*f o j)else 0))) λk z=>by
  rw[vi (L i k d z) (J k j z I)];congr 1;by_cases b:k=u
  ·subst b
   have a : ¬k=o:=Y;simp only[EQ a,if_true,MQ,MS,Nj];rw[Mn]
  ·by_cases a:k=o
   ·subst a
    simp only[EQ b,if_true,MQ,MS,Int.zero_add,OE];rw[Lx]
   ·simp only[EQ b,EQ a,MQ,MS]]
 rw[jA,jA,zK (f:=λk=>if k=u then t*(g i u*f o j)else 0) O λk _ z=>EQ z,zK (f:=λk=>if k=o then -t*(g i u*f o j)else 0) U λk _ z=>EQ z];simp only[if_true];congr 1;rw[Int.neg_mul];omega
end
def jK(n:Nat)(f:RK):List D:=(HU n).map λi=>D.lst<|zF n<|f i
def qm(n:Nat)(f:RK):List (List D):=(HU n).map λi=>zF n<|f i
theorem cD(n f):(qm n f).map D.lst=jK n f:=by simp[qm,jK]
@[simp] theorem cE(n f):(jK n f).length=n:=by simp[jK]
@[simp] theorem BF(f)(C:i<(jK n f).length):(jK n f)[i] = .lst (zF n<|f i):=by simp[jK]
@[simp] theorem sM(r):x9 (.nest r) = .no:=rfl
@[simp] theorem Ap(r):x9 (.own r) = .no:=rfl
@[simp] theorem Ao(d):x9 (.val d) = .val d:=rfl
@[simp] theorem BM:x9 .no = .no:=rfl
theorem Jm(J:a<n)(v z:Vc)(x:Int)(C:z a=x)(I : ∀i,i<n->i≠a->z i=v i):(zF n v).set a (.int x)=zF n z:=by
 apply Mc;intro i;rw[Mz];by_cases b:i<n
 ·by_cases e:a=i
  ·subst e;simp[J,zF,C]
  ·have:=I i b (IT e)
   simp[e,zF,b,this]
 ·have d:(zF n v)[i]? = dn:=by simp[zF];omega
  have f:(zF n z)[i]? = dn:=by simp[zF];omega
  rw[d,f,EQ ⋯]
theorem Ky(I:u<n)(f C:RK)(v:Vc)(J : ∀j,j<n->C u j=v j)(L : ∀i j,i<n->i≠u->j<n->C i j=f i j):(jK n f).set u (.lst<|zF n v)=jK n C:=by
 apply Mc;intro i;rw[Mz];by_cases a:i<n
 ·by_cases e:u=i
  ·subst e;simp[I,jK];exact xJ λj z=>(J j z).symm
  ·simp[e,jK,a];exact xJ λj z=>(L i j a (IT e) z).symm
 ·have b:(jK n f)[i]? = dn:=by simp[jK];omega
  have d:(jK n C)[i]? = dn:=by simp[jK];omega
  rw[b,d,EQ ⋯]
theorem wu : ∀(l:List Nat),(∀k∈l,∃d C m,fx (yh γ j i<|R k)=cq d/\gx (yh γ j i<|R k)=cq (.int C)/\l7 (R k).length C=cq m/\(R k).set m d=R' k)->xI j i gx fx γ (l.map R)=cq (l.map R')
 | [],_=>rfl
 | k::l,h=>by obtain⟨d,C,m,a,b,z,I⟩:=h k Iy;have O:=wu l λx e=>h x<|Im _ e;simp[xI,a,b,z,I,O]
theorem Yn : ∀(l:List Nat),(∀k∈l,∃γ1,xp T (g k) γ=cq γ1/\f γ1=cq (R k))->vm T f γ (l.map g)=cq (l.map R)
 | [],_=>rfl
 | k::l,h=>by obtain⟨γ1,a,b⟩:=h k Iy;have z:=Yn l λx d=>h x<|Im _ d;simp[vm,a,b,z]
section
variable{p:Int}{n:Nat}
structure Pair(p:Int)(n:Nat)(f g:RK):Prop where
 bf : ∀i j,i<n->j<n->0<=f i j/\f i j<p
 bg : ∀i j,i<n->j<n->0<=g i j/\g i j<p
 fg:JA p n f g
 gf:JA p n g f
end
@[simp] theorem uk(n f):(qm n f).length=n:=by simp[qm]
def zR(w:RX)(k:Nat):Nat:=if w k then k+1 else k
def z9(w:RX)(k:Nat):Nat:=if w k then k else k+1
theorem vL(w:RX)(wd:RZ)(k):kv w wd k=wd (z9 w k):=by unfold kv z9;split<;>rfl
theorem vt(w:RX)(wd:RZ)(k):kA w wd k=wd (zR w k):=by unfold kA zR;split<;>rfl
theorem Jr(w:RX)(h:k<m):zR w k<m+1:=by unfold zR;split<;>omega
theorem XH(w:RX)(h:k<m):z9 w k<m+1:=by unfold z9;split<;>omega
noncomputable def qN(m:Nat)(wd:RZ)(f:RV):List D:=(HU m).map λk=>ja (wd k) (wd k)<|f k
@[simp] theorem bO(m wd f):(qN m wd f).length=m:=by simp[qN]
@[simp] theorem Bz(wd f)(h:k<(qN m wd f).length):(qN m wd f)[k]=ja (wd k) (wd k) (f k):=by simp[qN]
noncomputable def jN(p:Int)(w:RX)(wd:RZ)(f g T:RV)(k i j:Nat):Int:=
 zg (λb=>g (zR w k) b j*(zg (λa=>T k a b*f (z9 w k) i a) (wd<|z9 w k)%p)) (wd<|zR w k)%p
section
variable{p:Int}{m:Nat}{w:RX}{wd:RZ}{f g T:RV}
theorem QQ(m:Nat)(F:Nat->D):qu ((HU m).map F)=(HU m).map λ(k:Nat)=>D.tup [.int k,F k]:=by unfold qu;rw[IE,Ls];apply Iu;intro k z;have z:=HW.mp z;simp[z]
theorem YF(k i j:Nat):zg (λa=>f (z9 w k) i a*(zg (λb=>T k a b*g (zR w k) b j) (wd<|zR w k)%p)) (wd<|z9 w k)%p=jN p w wd f g T k i j:=by unfold jN;rw[Zw];refine congrArg (· % p)<|zx λb _=>?_;rw[Ln,zx (g:=λa=>T k a b*f (z9 w k) i a) λa _=>Ln _ _]
end
structure fA where
 s:Nat
 n:Nat
 v:Nat->Vc
noncomputable def fA.has(b:fA)(r:Nat):Bool:=decide (b.s<=r) && decide (r<b.s+b.n)
theorem l6{b:fA}{r:Nat}:b.has r=di↔b.s<=r/\r<b.s+b.n:=by simp[fA.has]
def gE:fA:=⟨0,0,λ_ _=>0⟩
structure o7(p:Int)(w:RX)(wd:RZ)(T:RV)(k:Nat)(b:fA):Prop where
 n1:1<=b.n
 le:b.s+b.n<=k+1
 m8 : ∀r i,b.has r=di->i<wd r->0<=b.v r i/\b.v r i<p
 arr : ∀j,j<k->b.has (zR w j)=di->∀i,i<wd (z9 w j)->app (T j) (wd<|zR w j) (b.v<|zR w j) i%p=(if b.has (z9 w j)=di then b.v (z9 w j) i else 0)%p
noncomputable def Ord(w:RX)(a b:fA):Prop:=(a.s<b.s->w (b.s - 1)=di)/\(b.s<a.s->w (a.s - 1)=d7)
noncomputable def GB(C:List fA)(r:Nat):Vc->Prop:=λg=>∃b,b∈C/\b.has r=di/\g=b.v r
noncomputable def p5(p:Int)(A:Nat->fA)(N:Nat)(t:Vc)(r:Nat):Vc:=λc=>zg (λj=>if (A j).has r=di then t j*(A j).v r c else 0) N%p
noncomputable def E3(p:Int)(A:Nat->fA)(N:Nat)(t:Vc)(i:Nat):fA:=⟨(A i).s,(A i).n,p5 p A N t⟩
section
variable{p:Int}{w:RX}{wd:RZ}{T:RV}{k N:Nat}{A:Nat->fA}
theorem ya(f:RK)(h:Nat)(t:Vc)(u:Nat->Vc)(n:Nat)(i:Nat):app f h (λc=>zg (λj=>t j*u j c) n) i=zg (λj=>t j*app f h (u j) i) n:=by
 unfold app;have e:zg (λj=>f i j*zg (λk=>t k*u k j) n) h=zg (λj=>zg (λk=>t k*(f i j*u k j)) n) h:=zx λj _=>by rw[<- jt];exact zx λk _=>by rw[<- Lx,<- Lx,Ln (f i j)]
 rw[e,qJ];exact zx λj _=>jt ..
theorem rC(c:Prop) [Decidable c](x y:Int):(if c then x*y else 0)=x*(if c then y else 0):=by split<;>simp
theorem gc(f:RK)(h r:Nat)(t:Vc)(i:Nat):app f h (p5 p A N t r) i%p=zg (λj=>t j*(if (A j).has r=di then app f h ((A j).v r) i else 0)) N%p:=by
 have e:app f h (p5 p A N t r) i%p=app f h (λc=>zg (λj=>t j*(if (A j).has r=di then (A j).v r c else 0)) N) i%p:=jJ (λc _=>by unfold p5;rw[ID];congr 1;exact zx λj _=>rC ..) i
 rw[e,ya];congr 1;refine zx λj _=>?_;congr 1;by_cases z:(A j).has r=di
 ·simp only[RY z]
 ·simp only[EQ z]
  unfold app;simp[zO]
theorem Ar(S:0<p)(C : ∀j,j<N->o7 p w wd T k (A j))(hk : ∀j,j<N->(A j).has k=di){t:Vc}{i:Nat}(J:i<N)(L : ∀c,i<c->c<N->Ord w (A i) (A c))(tz : ∀c,c<i->t c=0) :
 o7 p w wd T k (E3 p A N t i):=by
 refine⟨(C i J).n1,(C i J).le,λr c _ _=>⟨La _ ⋯,IP _ S⟩,λj l O c h=>?_⟩;have O:(A i).has (zR w j)=di:=O;show app (T j) (wd<|zR w j) (p5 p A N t<|zR w j) c%p=(if (A i).has (z9 w j)=di then p5 p A N t (z9 w j) c else 0)%p;rw[gc];have g : ∀I,I<N->t I≠0->((A i).has (z9 w j)=di->(A I).has (z9 w j)=di->(A I).has (zR w j)=di)/\((A i).has (z9 w j)=d7->(A I).has (zR w j)=di->(A I).has (z9 w j)=d7):=λI U d=>by
  have y:=l6.mp<|hk i J;have B:=l6.mp<|hk I U;have Y:i<=I:=Nat.not_lt.mp λz=>d<|tz I z;rcases Nat.lt_or_eq_of_le Y with Y | Y
  ·obtain⟨u,x⟩:=L I Y U
   have O:=l6.mp O;cases hw:w j with
   | false=>
    have b:zR w j=j:=by unfold zR;rw[hw];rfl
    have e:z9 w j=j+1:=by unfold z9;rw[hw];rfl
    rw[b]at O;rw[b,e];refine⟨λ_ q=>l6.mpr ?_,λq _=>?_⟩
    ·have q:=l6.mp q
     refine⟨Nat.not_lt.mp λz=>?_,by omega⟩;have f:(A I).s=j+1:=by omega
     have:=u ⋯;rw[f]at this;simp[hw]at this
    ·exfalso
     have:(A i).has (j+1)=di:=l6.mpr ⋯;rw[this]at q;cases q
   | true=>
    have b:zR w j=j+1:=by unfold zR;rw[hw];rfl
    have e:z9 w j=j:=by unfold z9;rw[hw];rfl
    rw[b]at O;rw[b,e];refine⟨λ_ q=>l6.mpr ?_,λq _=>?_⟩
    ·have q:=l6.mp q
     omega
    ·cases a:(A I).has j with
     | false=>rfl
     | true=>
      exfalso;have a:=l6.mp a;have f:(A i).s=j+1:=by
       have : ¬((A i).s<=j):=λz=>by have:(A i).has j=di:=l6.mpr ⋯;rw[this]at q;cases q
       omega
      have:=x ⋯;rw[f]at this;simp[hw]at this
  ·subst Y
   exact⟨λ_ _=>O,λq _=>q⟩
 have m:zg (λI=>t I*(if (A I).has (zR w j)=di then app (T j) (wd<|zR w j) ((A I).v (zR w j)) c else 0)) N%p
  = zg (λI=>if (A i).has (z9 w j)=di then (if (A I).has (z9 w j)=di then t I*(A I).v (z9 w j) c else 0)else 0) N%p:=zH λI U=>by
  by_cases d:t I=0
  ·simp[d]
  obtain⟨n,o⟩:=g I U d;cases a:(A i).has (z9 w j)with
  | false=>
   cases hy:(A I).has (zR w j)with
   | false=>simp
   | true=>
    have q:=(C I U).arr j l hy c h;rw[o a hy]at q;simp only[if_true];rw[Ii,q];simp
  | true=>
   cases hy:(A I).has (zR w j)with
   | false=>
    cases hz:(A I).has (z9 w j)with
    | false=>simp
    | true=>rw[n a hz]at hy;cases hy
   | true=>
    have q:=(C I U).arr j l hy c h;simp only[if_true];rw[Ii,q,<- Ii];congr 1;cases hz:(A I).has (z9 w j)<;>simp
 rw[m];cases a:(A i).has (z9 w j)with
 | false=>simp[zO]
 | true=>
  simp only[if_true];unfold p5;rw[ID]
theorem lB{G':Vc->Prop}{r n:Nat}{A':Nat->fA}(t:Nat->Vc)(C : ∀i,i<N->t i i=1)(S : ∀i c,i<N->c<i->t i c=0)
 (J : ∀i,i<N->(A i).has r=di->Span p n G' ((A' i).v r)) (L : ∀i,i<N->(A i).has r=di->∀c,c<n->(A' i).v r c%p=p5 p A N (t i) r c%p) :
 ∀i,i<N->(A i).has r=di->Span p n G' ((A i).v r):=by
 have f : ∀d i,N - i<=d->i<N->(A i).has r=di->Span p n G' ((A i).v r):=by
  intro d
  induction d with
  | zero=>intro i e a;omega
  | succ d w=>
   intro i e a O;have u:Span p n G' λc=>zg (λj=>(if j=i then 0 else if (A j).has r=di then t i j else 0)*(A j).v r c) N:=by
    have gen : ∀M,M<=N->Span p n G' λc=>zg (λj=>(if j=i then 0 else if (A j).has r=di then t i j else 0)*(A j).v r c) M:=by
     intro M
     induction M with
     | zero=>intro _;exact .zero λc _=>by simp[zg]
     | succ M g=>
      intro x;have q:=g ⋯;by_cases I:M=i\/¬((A M).has r=di)\/M<i
      ·refine q.congr λc _=>?_
       show(zg _ M+_)%p=_;rcases I with I | I | I
       ·simp[I]
       ·simp[I]
       ·have z:=S i M a I;simp only[z];simp
      ·have h:M≠i/\(A M).has r=di/\¬M<i:=by
        refine⟨λz=>I<|.inl z,?_,λz=>I<|.inr<|.inr z⟩;cases b:(A M).has r with
        | true=>rfl
        | false=>exact absurd (.inr<|.inl<|by rw[b];decide) I
       exact((w M ⋯ ⋯ h.2.1).add q (if M=i then 0 else if (A M).has r=di then t i M else 0)).congr λc _=>rfl
    exact gen N<|Ic _
   have o:=u.add (J i a O) (-1);refine o.congr λc I=>?_;have l:zg (λj=>if (A j).has r=di then t i j*(A j).v r c else 0) N=(A i).v r c+zg (λj=>(if j=i then 0 else if (A j).has r=di then t i j else 0)*(A j).v r c) N:=by
    have m:(A i).v r c=zg (λj=>if j=i then (A i).v r c else 0) N:=by rw[zK a λk _ s=>by simp[s]];simp
    rw[m,<- jA];refine zx λj y=>?_;by_cases Y:j=i
    ·subst Y;simp[O,C j a]
    ·simp only[EQ Y]
     by_cases b:(A j).has r=di
     ·simp[b]
     ·simp[b]
   have U:=L i a O c I;unfold p5 at U;rw[ID,l]at U;rw[Lh,U,<- Lh];congr 1;omega
 exact λi e a=>f N i ⋯ e a
end
section
variable{p:Int}{n m N h r r2 q:Nat}{B B2 K:Nat->Vc}{l l2 lK:RZ}{M f:RK}
theorem Kp(z:Span p n (fe m U) v) : ∃t:Vc,∀i,i<n->v i%p=zg (λj=>t j*U j i) m%p:=by
 induction z with
 | zero h=>exact⟨λ_=>0,λi a=>by rw[h i a];simp[zO]⟩
 | @step v w g c I o O Y=>
  obtain⟨t,l⟩:=Y;obtain⟨k,d,rfl⟩:=I;refine⟨λj=>t j+if j=k then c else 0,λi a=>?_⟩;rw[O i a,Lh,l i a,<- Lh];congr 1;have e:zg (λj=>(t j+if j=k then c else 0)*U j i) m=zg (λj=>t j*U j i) m+zg (λj=>(if j=k then c else 0)*U j i) m:=by rw[<- jA];exact zx λj _=>OE ..
  rw[e,zK (f:=λj=>(if j=k then c else 0)*U j i) d λj _ b=>by simp[b]];simp
theorem qL(a b:Nat->Int)(n:Nat):zg (λj=>a j*b j) n=zg (λj=>b j*a j) n:=zx λj _=>Ln ..
theorem Dc:Span p h (fe N λj i=>M i j) u ↔ ∃x:Vc,∀i,i<h->u i%p=app M N x i%p:=by
 constructor
 ·intro q
  obtain⟨t,z⟩:=Kp q;exact⟨t,λi a=>by rw[z i a];unfold app;rw[qL]⟩
 ·rintro⟨x,b⟩
  refine(Span.sum (u:=λj i=>M i j) x (m:=N) λj I=> .gen ⟨j,I,rfl⟩).congr λi a=>?_;rw[b i a];unfold app;rw[qL]
theorem Yg(n:Nat)(v:Vc):Span p n (fe n jT) v:=by refine(Span.sum (u:=jT) v (m:=n) λj z=> .gen ⟨j,z,rfl⟩).congr λi a=>?_;rw[zK (f:=λk=>v k*jT k i) a λk _ I=>by simp[jT,I]];simp[jT]
theorem vk(z:Pr p)(C:N<=16)(O : ∀v:Vc,∃t,∀i,i<N->v i%p=app f N t i%p)(U : ∀i,i<N->app f N t i%p=0) : ∀j,j<N->t j%p=0:=by
 obtain⟨q,K,l,s,_,m,I,Y,g⟩:=yc z (h:=N) (w:=N) ⋯ ⋯ f;have a:Rk p N N (λj i=>f i j) N:=⟨jT,id,VI z N,λv=>⟨λ_=>Dc.mpr<|O v,λ_=>Yg N v⟩⟩;have:=vh z Y a;have e:q=0:=by omega
 subst e;have:=(I t).mpr λi d=>by have:=U i d;unfold app at this;exact this
 cases this with
 | zero h=>exact h
 | step b _ _=>obtain⟨k,I,_⟩:=b;omega
noncomputable def JR(r:Nat)(B:Nat->Vc)(l:RZ)(t:Vc):Vc:=λi=>t i - zg (λj=>t (l j)*B j i) r
theorem QE(I:h8 p N r B l)(t:Vc)(z:j<r):JR r B l t (l j)=0:=by unfold JR;rw[zK (f:=λO=>t (l O)*B O (l j)) z λk U Y=>by rw[I.t6 k j U z (IT Y)];simp];rw[I.one j z];omega
theorem Wr(t:Vc):Span p N (fe r B) λi=>zg (λj=>t (l j)*B j i) r:=Span.sum (u:=B) (λj=>t<|l j) λj z=> .gen ⟨j,z,rfl⟩
theorem rJ(z:h8 p N r B l)(h:Span p N (fe r B) t)(I : ∀j,j<r->t (l j)%p=0) : ∀i,i<N->t i%p=0:=λi a=>by
 rw[wO z h i a];have e:zg (λk=>t (l k)*B k i) r%p=zg (λ_=>0) r%p:=zH λk O=>by rw[Ii,I k O];simp
 rw[e,zO];simp
theorem VH(z:Pr p)(I:h8 p N r B l)(C:i<N)(hn : ∀j,j<r->l j≠i) : ¬Span p N (fe r B) (jT i):=λh=>by have:=rJ I h (λj O=>by unfold jT;rw[EQ (IT<|hn j O)];simp) i C;unfold jT at this;rw[RY rfl,z.one]at this;omega
theorem Jv(g:RK)(w:Nat)(u v:Vc)(i:Nat):app g w (λj=>u j - v j) i=app g w u i - app g w v i:=by
 have e:app g w u i=app g w (λj=>u j - v j) i+app g w v i:=by unfold app;rw[<- jA];exact zx λj _=>by dsimp only;rw[<- Nj];congr 1;omega
 omega
noncomputable def YV(M f:RK)(N:Nat):Nat->Nat->Int:=λi j=>zg (λk=>M i k*f k j) N
theorem Zo(t:Vc)(i:Nat):app (YV M f N) N t i=app M N (app f N t) i:=by
 unfold app YV;have e:zg (λj=>zg (λk=>M i k*f k j) N*t j) N=zg (λj=>zg (λk=>M i k*(f k j*t j)) N) N:=zx λj _=>by rw[<- qK];exact zx λk _=>Lx ..
 rw[e,qJ];exact zx λk _=>jt ..
theorem tK(C:Pr p)(hN:N<=16)(hh:h<=16)(Z : ∀v:Vc,∃t,∀i,i<N->v i%p=app f N t i%p)(J:h8 p N r B l)(Y : ∀t,Span p N (fe r B) t↔DH p h N M (app f N t))
 (L:h8 p h r2 B2 l2) (S : ∀v,Span p h (fe r2 B2) v↔Span p h (fe N λj i=>M i j) v) :
 (∀j,j<r->∀i,i<h->app M N (app f N<|B j) i%p=0)/\(∀c,c<N->(∀j,j<r->l j≠c)->∃i,i<h/\app M N (λa=>f a c) i%p≠0)/\r+r2=N/\
   ∀U:Vc->Prop,(∀c,c<N->(∀j,j<r->l j≠c)->Span p h U (app M N λa=>f a c))->(∀c,c<h->(∀j,j<r2->l2 j≠c)->Span p h U (jT c))->∀v,Span p h U v:=by
 have k : ∀t:Vc,DH p h N M (app f N t) ↔ ∀i,i<h->app M N (app f N t) i%p=0:=λt=>Iff.rfl;have s : ∀(c:Nat),c<N->∀i,app M N (λa=>f a c) i%p=app M N (app f N<|jT c) i%p:=λc I i=>jJ (λa _=>by rw[vR f I]) i;refine⟨λj O=>(k _).mp ((Y<|B j).mp (.gen ⟨j,O,rfl⟩)),λc I T=>?_,?_,λU P Q v=>?_⟩
 ·refine Lv λz=>VH C J I T ((Y _).mpr ((k _).mpr λi b=>?_))
  rw[<- s c I i];exact Lv λy=>z ⟨i,b,y⟩
 ·obtain⟨q',K',l',s',_,A,o,E,bf⟩:=yc C (h:=h) (w:=N) ⋯ ⋯ (YV M f N)
  have e1:q'=r:=(Js C A J (λv m=>(Y v).mpr λi b=>by
   have:=(o v).mp m i b;rw[show zg (λj=>YV M f N i j*v j) N=app (YV M f N) N v i from rfl,Zo]at this;exact this) λv m=>(o v).mpr λi b=>by
   have:=(Y v).mp m i b;rw[show zg (λj=>YV M f N i j*v j) N=app (YV M f N) N v i from rfl,Zo];exact this).1
  have e2:s'=r2:=by
   refine vh C E ⟨B2,l2,L,λv=>(S v).trans ⟨λz=>?_,λz=>?_⟩⟩
   ·obtain⟨x,n⟩:=Dc.mp z
    obtain⟨t,d⟩:=Z x;refine Dc.mpr ⟨t,λi b=>?_⟩;rw[n i b,Zo];exact jJ d i
   ·obtain⟨t,d⟩:=Dc.mp z
    exact Dc.mpr ⟨app f N t,λi b=>by rw[d i b,Zo]⟩
  omega
 ·
  have im : ∀t:Vc,Span p h U (app M N<|app f N t):=λt=>by
   have X:=(k _).mp ((Y _).mp (Wr (p:=p) (N:=N) (B:=B) (r:=r) (l:=l) t));have e : ∀i,i<h->app M N (app f N t) i%p=app M N (app f N<|JR r B l t) i%p:=λi b=>by
    have G:app M N (app f N<|JR r B l t) i=app M N (app f N t) i - app M N (app f N λi=>zg (λj=>t (l j)*B j i) r) i:=by rw[<- Jv];congr 1;funext a;exact Jv ..
    rw[G,Mh,X i b];simp
   refine Span.congr ?_ e;have H : ∀i,app M N (app f N<|JR r B l t) i=zg (λc=>JR r B l t c*app M N (λa=>f a c) i) N:=λi=>by rw[<- ya];congr 1;funext a;unfold app;exact qL ..
   have s1 : ∀K,K<=N->Span p h U λi=>zg (λc=>JR r B l t c*app M N (λa=>f a c) i) K:=by
    intro K
    induction K with
    | zero=>intro _;exact .zero λi _=>by simp[zg]
    | succ K g=>
     intro R;by_cases I : ∃j,j<r/\l j=K
     ·obtain⟨j,O,rfl⟩:=I
      refine(g ⋯).congr λi _=>?_;show(zg _ (l j)+_)%p=_;have z:=QE J t O;simp only[z];simp
     ·exact((P K ⋯ λj O z=>I ⟨j,O,z⟩).add (g ⋯) _).congr λi _=>rfl
   exact(s1 N<|Ic _).congr λi _=>by rw[H]
  have F : ∀u,Span p h (fe r2 B2) u->Span p h U u:=λu W=>by obtain⟨x,n⟩:=Dc.mp<|(S u).mp W;obtain⟨t,d⟩:=Z x;exact(im t).congr λi b=>by rw[n i b];exact jJ d i
  have s2 : ∀K,K<=h->Span p h U λi=>zg (λc=>JR r2 B2 l2 v c*jT c i) K:=by
   intro K
   induction K with
   | zero=>intro _;exact .zero λi _=>by simp[zg]
   | succ K g=>
    intro R;by_cases I : ∃j,j<r2/\l2 j=K
    ·obtain⟨j,O,rfl⟩:=I
     refine(g ⋯).congr λi _=>?_;show(zg _ (l2 j)+_)%p=_;have z:=QE L v O;simp only[z];simp
    ·exact((Q K ⋯ λj O z=>I ⟨j,O,z⟩).add (g ⋯) _).congr λi _=>rfl
  refine((F _<|Wr (B:=B2) (r:=r2) (l:=l2) v).add (s2 h<|Ic _) 1).congr λi b=>?_;congr 1;rw[zK (f:=λc=>JR r2 B2 l2 v c*jT c i) b λc _ I=>by simp[jT,I]];simp only[jT,if_true,JR];omega
theorem tL(O:Pr p)(hN:N<=16)(hh:h<=16)(Z : ∀v:Vc,∃t,∀i,i<N->v i%p=app f N t i%p)(L:h8 p N r B l)(S : ∀t,Span p N (fe r B) t↔Span p N (fe h λj i=>M i j) (app f N t))
 (hk : ∀v,Span p h (fe q K) v↔DH p N h M v) (hr:Rk p N h (λj i=>M i j) s) (br:q+s=h) :
 (∀j,j<r->∃y:Vc,∀i,i<N->app M h y i%p=app f N (B j) i%p)/\(∀c,c<N->(∀j,j<r->l j≠c)->¬∃y:Vc,∀i,i<N->app M h y i%p=f i c%p)/\r+q=h/\
   ∀(J:Vc->Prop) (x:Nat->Vc),(∀j,j<r->Span p h J (x j)/\∀i,i<N->app M h (x j) i%p=app f N (B j) i%p)->(∀j,j<q->Span p h J (K j))->∀v,Span p h J v:=by
 have o : ∀t,Span p N (fe r B) t ↔ ∃y:Vc,∀i,i<N->app f N t i%p=app M h y i%p:=λt=>(S t).trans Dc;have inj : ∀{t:Vc},(∀i,i<N->app f N t i%p=0)->∀j,j<N->t j%p=0:=λY=>vk O hN Z Y;refine⟨λj I=>?_,λc X hn z=>?_,?_,λJ x R h2 v=>?_⟩
 ·obtain⟨y,d⟩:=(o<|B j).mp (.gen ⟨j,I,rfl⟩)
  exact⟨y,λi b=>(d i b).symm⟩
 ·obtain⟨y,d⟩:=z
  exact VH O L X hn<|(o _).mpr ⟨y,λi b=>by rw[vR f X,d i b]⟩
 ·have P:s<=16/\r<=16:=by
   obtain⟨E,bv,b9⟩:=oV O (n:=N) (m:=h) ⋯ hh λj i=>M i j;refine⟨by rw[vh O hr b9];omega,?_⟩;have : ∀A,A<=r->A<=N:=by
    intro A;have mono : ∀k,k<r->k<=l k:=by
     intro k
     induction k with
     | zero=>intro _;omega
     | succ k ih=>intro hk;have:=ih ⋯;have:=L.mono k (k+1) ⋯ hk;omega
    intro bx;cases A with
    | zero=>omega
    | succ Q=>have:=mono Q ⋯;have:=L.lt Q ⋯;omega
   have:=this r<|Ic _;omega
  have c0:s<=r:=by
   obtain⟨E,a1,F⟩:=oV O (n:=N) (m:=r) ⋯ P.2 λj=>app f N<|B j;have e:s=E:=by
    obtain⟨C,lC,H,w⟩:=hr;refine vh O (m:=h) (W:=λj i=>M i j) ⟨C,lC,H,w⟩ ?_;obtain⟨C',bf,bg,bi⟩:=F;refine⟨C',bf,bg,λv=>(bi v).trans ⟨λz=>?_,λz=>?_⟩⟩
    ·exact z.le λg U=>by obtain⟨j,I,rfl⟩:=U;exact(S<|B j).mp (.gen ⟨j,I,rfl⟩)
    ·obtain⟨y,d⟩:=Dc.mp z
     obtain⟨t,Y⟩:=Z v;have G:Span p N (fe r B) t:=(o t).mpr ⟨y,λi b=>by rw[<- Y i b,d i b]⟩;refine(Span.sum (u:=λj=>app f N<|B j) (λj=>t<|l j) (m:=r) λj I=> .gen ⟨j,I,rfl⟩).congr λi b=>?_;rw[Y i b,<- ya];exact jJ (λj I=>wO L G j I) i
   omega
  have c1:r<=s:=by
   obtain⟨C,lC,H,w⟩:=hr;have ex : ∀j,∃t:Vc,∀i,i<N->C j i%p=app f N t i%p:=λj=>Z<|C j;have g:Nat->Vc:=λj=>Classical.choose<|ex j;have U : ∃g:Nat->Vc,∀j i,i<N->C j i%p=app f N (g j) i%p:=⟨λj=>Classical.choose<|ex j,λj=>Classical.choose_spec<|ex j⟩;obtain⟨g,U⟩:=U;obtain⟨E,a1,F⟩:=oV O (n:=N) (m:=s) ⋯ P.1 g;have e:r=E:=by
    refine vh O (m:=s) (W:=g) ⟨B,l,L,λv=>⟨λz=>?_,λz=>?_⟩⟩ F
    ·have hv:=(w _).mpr ((S v).mp z)
     refine(Span.sum (u:=g) (λj=>app f N v<|lC j) (m:=s) λj I=> .gen ⟨j,I,rfl⟩).congr λi b=>?_;have z0 : ∀a,a<N->app f N (λi=>v i - zg (λj=>app f N v (lC j)*g j i) s) a%p=0:=λa T=>by
      rw[Jv,ya,Mh,wO H hv a T];have e:zg (λk=>app f N v (lC k)*C k a) s%p=zg (λk=>app f N v (lC k)*app f N (g k) a) s%p:=zH λk _=>by rw[Ii,U k a T,<- Ii]
      rw[e];simp
     have:=inj z0 i b;have q2:=Int.emod_emod_of_dvd;exact(Int.emod_emod_of_dvd _<|Int.dvd_refl p).symm.trans (by
      rw[ID];have:(v i - zg (λj=>app f N v (lC j)*g j i) s)%p=0:=this;exact Mk.mpr this)
    ·refine z.le λu hu=>?_
     obtain⟨j,I,rfl⟩:=hu;refine(S _).mpr (((w<|C j).mp (.gen ⟨j,I,rfl⟩)).congr λi b=>(U j i b).symm)
   omega
  omega
 ·obtain⟨t,Y⟩:=Z (app M h v)
  have G:Span p N (fe r B) t:=(o t).mpr ⟨v,λi b=>(Y i b).symm⟩;have hx:Span p h J λc=>zg (λj=>t (l j)*x j c) r:=Span.sum (u:=x) (λj=>t<|l j) λj I=>(R j I).1;have hd:Span p h J λc=>v c - zg (λj=>t (l j)*x j c) r:=by
   refine((hk _).mpr λi b=>?_).le λg U=>by obtain⟨j,I,rfl⟩:=U;exact h2 j I
   show app M h (λc=>v c - zg (λj=>t (l j)*x j c) r) i%p=0;rw[Jv,ya,Mh];have e:zg (λj=>t (l j)*app M h (x j) i) r%p=app M h v i%p:=by rw[Y i b,jJ (λj I=>wO L G j I) i,ya];exact zH λj I=>by rw[Ii,(R j I).2 i b,<- Ii]
   rw[e];simp
  refine(hx.add hd 1).congr λc _=>?_;congr 1;omega
end
structure C5(p:Int)(w:RX)(wd:RZ)(T:RV)(k:Nat)(n6:List fA):Prop where
 ok : ∀b,b∈n6->o7 p w wd T k b
 sp : ∀r,r<=k->∀v,Span p (wd r) (GB n6 r) v
 ct : ∀r,r<=k->n6.countP (λb=>b.has r)=wd r
 od:(n6.filter λb=>b.has k).Pairwise (Ord w)
noncomputable def nh(r:Nat)(l:RZ)(i:Nat):Option Nat:=(HU r).find? λj=>l j==i
theorem xf(h:nh r l i=cq j):j<r/\l j=i:=by have a:=List.find?_some h;have b:=List.mem_of_find?_eq_some h;exact⟨HW.mp b,by simpa using a⟩
theorem w6(h:nh r l i=dn) : ∀j,j<r->l j≠i:=λj z=>by have:=List.find?_eq_none.mp h j<|HW.mpr z;simpa using this
noncomputable def ij(p:Int)(A:Nat->fA)(N r:Nat)(B:Nat->Vc)(l:RZ)(i:Nat):fA:=match nh r l i with
 | some j=>E3 p A N (B j) i
 | none=>A i
noncomputable def mm(k:Nat)(b:fA):Option Vc->fA
 | none=>b
 | some y=>⟨b.s,b.n+1,λr=>if r=k+1 then y else b.v r⟩
def rq(k:Nat)(y:Vc):fA:=⟨k+1,1,λ_=>y⟩
noncomputable def E6(r:Nat)(B:Nat->Vc)(l:RZ)(i:Nat):Vc:=match nh r l i with
 | some j=>B j
 | none=>jT i
theorem bX(p A N r B l i):(ij p A N r B l i).s=(A i).s:=by unfold ij;split<;>rfl
theorem tM(p A N r B l i):(ij p A N r B l i).n=(A i).n:=by unfold ij;split<;>rfl
theorem YJ(p A N r B l i rm):(ij p A N r B l i).has rm=(A i).has rm:=by unfold fA.has;rw[bX,tM]
theorem wo:(rq k y).has r=decide (r=k+1):=by
 unfold rq fA.has;by_cases h:r=k+1
 ·simp[h]
 ·simp[h];intro;omega
section
variable{p:Int}{w:RX}{wd:RZ}{T:RV}{k N r:Nat}{A:Nat->fA}{B:Nat->Vc}{l:RZ}
theorem mQ(z:h8 p N r B l)(C:i<N):E6 r B l i i=1/\∀c,c<i->E6 r B l i c=0:=by
 unfold E6;cases hj:nh r l i with
 | some j=>
  obtain⟨a,b⟩:=xf hj;subst b;exact⟨z.one j a,λc I=>z.n0 j c a I⟩
 | none=>exact⟨by simp[jT],λc I=>by simp only[jT];rw[EQ ⋯]⟩
theorem oA(C:i<N)(I:(A i).has rm=di):(ij p A N r B l i).v rm c%p=p5 p A N (E6 r B l i) rm c%p:=by
 unfold ij E6;cases z:nh r l i with
 | some j=>rfl
 | none=>
  show(A i).v rm c%p=_;unfold p5;rw[ID];congr 1;rw[zK (f:=λj=>if (A j).has rm=di then jT i j*(A j).v rm c else 0) C λj _ z=>by unfold jT;rw[EQ (IT z)];simp];simp[jT,I]
theorem mS(I:0<p)(O:h8 p N r B l)(z : ∀j,j<N->o7 p w wd T k (A j))(U : ∀j,j<N->(A j).has k=di)(Y : ∀i c,i<c->c<N->Ord w (A i) (A c))(C:i<N):o7 p w wd T k (ij p A N r B l i):=by
 unfold ij;split
 ·next j e=>
  obtain⟨a,b⟩:=xf e;subst b;exact Ar I z U C (λc a b=>Y _ c a b) λc d=>O.n0 j c a d
 ·exact z i C
theorem QO(z:rm<=k)(I:b.s+b.n=k+1):(mm k b o).has rm=b.has rm/\(mm k b o).v rm=b.v rm:=by
 cases o with
 | none=>exact⟨rfl,rfl⟩
 | some y=>
  refine⟨?_,by simp only[mm];rw[EQ ⋯]⟩;unfold mm fA.has;simp only;congr 1;exact decide_eq_decide.mpr ⋯
theorem Vi(z:b.s+b.n=k+1):(mm k b o).has (k+1)=o.isSome:=by
 cases o with
 | none=>unfold mm fA.has;simp;omega
 | some y=>unfold mm fA.has;simp;omega
theorem rR(k b o):(mm k b o).s=b.s:=by cases o<;>rfl
theorem AU(Z:0<p)(I:b.s+b.n=k+1)(Y:o7 p w wd T k b)(S : ∀y,o=cq y->∀c,c<wd (k+1)->0<=y c/\y c<p)
 (C:o=dn->w k=d7->∀c,c<wd (k+1)->app (T k) (wd k) (b.v k) c%p=0) (J : ∀y,o=cq y->w k=d7->∀c,c<wd (k+1)->app (T k) (wd k) (b.v k) c%p=y c%p)
 (L : ∀y,o=cq y->w k=di->∀c,c<wd k->app (T k) (wd<|k+1) y c%p=b.v k c%p):o7 p w wd T (k+1) (mm k b o):=by
 have A:=Y.n1;refine⟨?_,?_,λO c i z=>?_,λj B f c z=>?_⟩
 ·cases o with
  | none=>exact Y.n1
  | some y=>show 1<=b.n+1;omega
 ·cases o with
  | none=>show b.s+b.n<=k+1+1;omega
  | some y=>show b.s+(b.n+1)<=k+1+1;omega
 ·by_cases r:O<=k
  ·obtain⟨d,a⟩:=QO (o:=o) r I
   rw[d]at i;rw[a];exact Y.m8 O c i z
  ·have l:=l6.mp i
   cases o with
   | none=>exact absurd l.2 (by show ¬(O<b.s+b.n);omega)
   | some y=>
    have:O=k+1:=by have:O<b.s+(b.n+1):=l.2;omega
    subst this;have e:(mm k b<|some y).v (k+1)=y:=by simp[mm]
    rw[e];exact S y rfl c z
 ·by_cases h:j<k
  ·have g1:zR w j<=k:=by unfold zR;split<;>omega
   have g2:z9 w j<=k:=by unfold z9;split<;>omega
   obtain⟨d,a⟩:=QO (o:=o) g1 I;obtain⟨u,x⟩:=QO (o:=o) g2 I;rw[d]at f;rw[a,u,x];exact Y.arr j h f c z
  ·have h:j=k:=by omega
   subst h;obtain⟨d,a⟩:=QO (o:=o) (Ic j) I;have m:=Vi (k:=j) (o:=o) I;have t:b.has j=di:=l6.mpr ⋯;cases hw:w j with
   | false=>
    have g:zR w j=j:=by unfold zR;rw[hw];rfl
    have U:z9 w j=j+1:=by unfold z9;rw[hw];rfl
    rw[U]at z;rw[g,U,a,m];cases o with
    | none=>rw[C rfl hw c z];simp
    | some y=>rw[J y rfl hw c z];simp[mm]
   | true=>
    have g:zR w j=j+1:=by unfold zR;rw[hw];rfl
    have U:z9 w j=j:=by unfold z9;rw[hw];rfl
    rw[U]at z;rw[g,m]at f;rw[g,U,d,a,t];cases o with
    | none=>cases f
    | some y=>
     have e:(mm j b<|some y).v (j+1)=y:=by simp[mm]
     rw[e,L y rfl hw c z];simp
theorem Aq(J : ∀c,c<wd (k+1)->0<=y c/\y c<p)(C:w k=di->∀c,c<wd k->app (T k) (wd<|k+1) y c%p=0):o7 p w wd T (k+1) (rq k y):=by
 refine⟨Ic _,by show k+1+1<=k+1+1;omega,λe c O z=>?_,λj d I c z=>?_⟩
 ·rw[wo]at O
  have:=of_decide_eq_true O;subst this;exact J c z
 ·rw[wo]at I
  have I:=of_decide_eq_true I;cases hw:w j with
  | false=>
   have U:zR w j=j:=by unfold zR;rw[hw];rfl
   omega
  | true=>
   have U:zR w j=j+1:=by unfold zR;rw[hw];rfl
   have Y:z9 w j=j:=by unfold z9;rw[hw];rfl
   have a:j=k:=by omega
   subst a;rw[Y]at z;have b:(rq j y).has (z9 w j)=d7:=by rw[wo,Y];simp
   rw[b,U];show app (T j) (wd<|j+1) y c%p=_;rw[C hw c z];simp
noncomputable def vb(p:Int)(k:Nat)(w:RX)(C:List fA)(A:Nat->fA)(N r:Nat)(B:Nat->Vc)(l:RZ)(nx:Nat->Option Vc)(z:List Vc):List fA:=
 (C.filter λb=> !b.has k)++(if w k then (HU N).map (λi=>mm k (ij p A N r B l i)<|nx i)++z.map (rq k)else z.map (rq k)++(HU N).map λi=>mm k (ij p A N r B l i)<|nx i)
theorem eV(p0:0<p)(I:C5 p w wd T k n6)(hN:(n6.filter λb=>b.has k).length=N)(Y : ∀j,A j=(n6.filter λb=>b.has k).getD j gE)(O:h8 p N r B l)
 (c1 : ∀i y,i<N->nx i=cq y->∀c,c<wd (k+1)->0<=y c/\y c<p) (c2 : ∀y,y∈news->∀c,c<wd (k+1)->0<=y c/\y c<p)
   (d0 : ∀i,i<N->nx i=dn->w k=d7->∀c,c<wd (k+1)->app (T k) (wd k) ((ij p A N r B l i).v k) c%p=0)
   (d1 : ∀i y,i<N->nx i=cq y->w k=d7->∀c,c<wd (k+1)->app (T k) (wd k) ((ij p A N r B l i).v k) c%p=y c%p)
   (d2 : ∀i y,i<N->nx i=cq y->w k=di->∀c,c<wd k->app (T k) (wd<|k+1) y c%p=(ij p A N r B l i).v k c%p)
   (d3 : ∀y,y∈news->w k=di->∀c,c<wd k->app (T k) (wd<|k+1) y c%p=0)
   (s1 : ∀v,Span p (wd<|k+1) (λg=>(∃i,i<N/\nx i=cq g)\/g∈news) v) (n1:(HU N).countP (λi=>(nx i).isSome)+news.length=wd (k+1)) :
   C5 p w wd T (k+1) (vb p k w n6 A N r B l nx news):=by
  have G : ∀j,j<N->A j∈n6/\(A j).has k=di:=λj E=>by
   have:A j∈n6.filter λb=>b.has k:=by rw[Y j,HY,HX ⋯];exact Mr _
   have:=IL.mp this;exact⟨this.1,by simpa using this.2⟩
  have W : ∀j,j<N->o7 p w wd T k (A j):=λj E=>I.ok _ (G j E).1;have Z : ∀i c,i<c->c<N->Ord w (A i) (A c):=λi c m u=>by have:=Mu.mp I.od i c ⋯ ⋯ m;rw[Y i,Y c,HY,HX ⋯,HY,HX ⋯];exact this
  have h9 : ∀i,i<N->o7 p w wd T k (ij p A N r B l i):=λi d=>mS p0 O W (λj E=>(G j E).2) Z d;have a1 : ∀i,i<N->(ij p A N r B l i).s+(ij p A N r B l i).n=k+1:=λi d=>by rw[bX,tM];have m:=l6.mp (G i d).2;have u:=(W i d).le;omega
  have H : ∀b,b∈n6->b.has k=d7->b.s+b.n<=k:=λb O R=>by have m:=(I.ok b O).le;have u:=(I.ok b O).n1;refine Nat.not_lt.mp λz=>?_;have:b.has k=di:=l6.mpr ⋯;rw[this]at R;cases R
  have x : ∀b,b∈vb p k w n6 A N r B l nx news↔(b∈n6/\b.has k=d7)\/(∃i,i<N/\b=mm k (ij p A N r B l i) (nx i))\/∃y,y∈news/\b=rq k y:=λb=>by
   unfold vb;rw[MN,IL];refine or_congr ⋯ ?_;cases w k<;>simp only[LZ,if_false,if_true,MN,IB,HW]
   ·constructor
    ·rintro(⟨y,m,u⟩ | ⟨i,m,u⟩)
     ·exact .inr ⟨y,m,u.symm⟩
     ·exact .inl ⟨i,m,u.symm⟩
    ·rintro(⟨i,m,u⟩ | ⟨y,m,u⟩)
     ·exact .inr ⟨i,m,u.symm⟩
     ·exact .inl ⟨y,m,u.symm⟩
   ·constructor
    ·rintro(⟨i,m,u⟩ | ⟨y,m,u⟩)
     ·exact .inl ⟨i,m,u.symm⟩
     ·exact .inr ⟨y,m,u.symm⟩
    ·rintro(⟨i,m,u⟩ | ⟨y,m,u⟩)
     ·exact .inl ⟨i,m,u.symm⟩
     ·exact .inr ⟨y,m,u.symm⟩
  have cnt : ∀P:fA->Bool,(vb p k w n6 A N r B l nx news).countP P=(n6.filter λb=> !b.has k).countP P+(HU N).countP (λi=>P<|mm k (ij p A N r B l i)<|nx i)+(news.map<|rq k).countP P:=λP=>by
   unfold vb;rw[List.countP_append];cases w k<;>simp only[LZ,if_false,if_true,List.countP_append,OJ (f:=λi=>mm k (ij p A N r B l i)<|nx i)]
   ·rw[OA,Nat.add_comm (List.countP P<|List.map (rq k) news)];rfl
   ·rw[OA];rfl
  refine⟨λb bi=>?_,λU hr v=>?_,λU hr=>?_,?_⟩
  ·rcases (x b).mp bi with⟨m,u⟩ | ⟨i,d,rfl⟩ | ⟨y,hy,rfl⟩
   ·have R:=H b m u
    have S:=I.ok b m;refine⟨S.n1,by omega,S.m8,λj E X c M=>?_⟩;have bv:=l6.mp X;refine S.arr j ?_ X c M;have:zR w j>=j:=by unfold zR;split<;>omega
    omega
   ·exact AU p0 (a1 i d) (h9 i d) (λy e=>c1 i y d e) (λe=>d0 i d e) (λy e=>d1 i y d e) λy e=>d2 i y d e
   ·exact Aq (c2 y hy)<|d3 y hy
  ·by_cases C:U<=k
   ·refine(I.sp U C v).le λg hg=>?_
    obtain⟨b,m,u,rfl⟩:=hg;cases SE:b.has k with
    | false=>exact .gen ⟨b,(x b).mpr (.inl ⟨m,SE⟩),u,rfl⟩
    | true=>
     have bm:b∈n6.filter λb=>b.has k:=IL.mpr ⟨m,by simpa using SE⟩;obtain⟨i,d,e⟩:=NS bm;have ei:A i=b:=by rw[Y i,HY,HX d];exact e
     rw[<- ei]at u ⊢;refine lB (A:=A) (A':=λi=>ij p A N r B l i) (t:=λi=>E6 r B l i) (λi d=>(mQ O d).1) (λi c d M=>(mQ O d).2 c M) (λi d Q=>?_) (λi d Q c _=>oA d Q) i ⋯ u;obtain⟨x1,x2⟩:=QO (o:=nx i) C<|a1 i d;exact .gen ⟨_,(x _).mpr (.inr<|.inl ⟨i,d,rfl⟩),by rw[x1,YJ];exact Q,by rw[x2]⟩
   ·have:U=k+1:=by omega
    subst this;refine(s1 v).le λg hg=>?_;rcases hg with⟨i,d,e⟩ | hg
    ·refine .gen ⟨_,(x _).mpr (.inr<|.inl ⟨i,d,rfl⟩),?_,?_⟩
     ·rw[Vi (a1 i d),e];rfl
     ·rw[e];simp[mm]
    ·exact .gen ⟨_,(x _).mpr (.inr<|.inr ⟨g,hg,rfl⟩),by rw[wo];simp,rfl⟩
  ·rw[cnt]
   by_cases C:U<=k
   ·have K:(news.map<|rq k).countP (λb=>b.has U)=0:=NW.mpr λb O=>by
     obtain⟨y,_,rfl⟩:=IB.mp O;rw[wo];simp;omega
    have L:(HU N).countP (λi=>(mm k (ij p A N r B l i)<|nx i).has U)=(n6.filter λb=>b.has k).countP λb=>b.has U:=by
     have:(n6.filter λb=>b.has k)=(HU N).map A:=by rw[<- jd gE (n6.filter λb=>b.has k),hN];exact Iu λj _=>(Y j).symm
     rw[this,OJ];refine Md λi d=>?_;have d:=HW.mp d;rw[(QO (o:=nx i) C<|a1 i d).1,YJ];rfl
    rw[K,L,<- I.ct U C,List.countP_eq_countP_filter_add n6 (λb=>b.has U) λb=>b.has k];omega
   ·have:U=k+1:=by omega
    subst this;have J:(n6.filter λb=> !b.has k).countP (λb=>b.has<|k+1)=0:=NW.mpr λb O=>by obtain⟨m,u⟩:=IL.mp O;have:=H b m (by simpa using u);intro z;have:=l6.mp z;omega
    have K:(news.map<|rq k).countP (λb=>b.has<|k+1)=news.length:=by rw[List.countP_eq_length.mpr λb O=>?_,IE];obtain⟨y,_,rfl⟩:=IB.mp O;rw[wo];simp
    have L:(HU N).countP (λi=>(mm k (ij p A N r B l i)<|nx i).has (k+1))=(HU N).countP λi=>(nx i).isSome:=Md λi d=>by rw[Vi (a1 i<|HW.mp d)]
    rw[J,K,L];omega
  ·have J:((n6.filter λb=> !b.has k).filter λb=>b.has<|k+1)=[]:=List.filter_eq_nil_iff.mpr λb O=>by
    obtain⟨m,u⟩:=IL.mp O;have:=H b m (by simpa using u);intro z;have:=l6.mp z;omega
   have pO:((HU N).map λi=>mm k (ij p A N r B l i)<|nx i).Pairwise (Ord w):=by rw[NC];refine NO (λ{a b} F O h=>?_)<|NA (n:=N);have:=Z a b h<|HW.mp O;unfold Ord;rw[rR,rR,bX,bX];exact this
   have pN:(news.map<|rq k).Pairwise (Ord w):=by
    rw[NC];refine Mu.mpr λ_ _ _ _ _=>⟨λz=>?_,λz=>?_⟩
    ·exact absurd z<|Lq<|k+1
    ·exact absurd z<|Lq<|k+1
   have so : ∀b,b∈(HU N).map (λi=>mm k (ij p A N r B l i)<|nx i)->b.s<=k:=λb O=>by obtain⟨i,d,rfl⟩:=IB.mp O;have d:=HW.mp d;rw[rR,bX];exact(l6.mp (G i d).2).1
   have sn : ∀b,b∈news.map (rq k)->b.s=k+1:=λb O=>by obtain⟨y,_,rfl⟩:=IB.mp O;rfl
   unfold vb;rw[Oc,J,MM];refine Om _ ?_;cases hw:w k with
   | false=>
    simp only[LZ,if_false];refine List.pairwise_append.mpr ⟨pN,pO,λa F b O=>?_⟩;have m:=sn a F;have u:=so b O;exact⟨λz=>by omega,λ_=>by rw[m];exact hw⟩
   | true=>
    simp only[if_true];refine List.pairwise_append.mpr ⟨pO,pN,λa F b O=>?_⟩;have m:=sn b O;have u:=so a F;exact⟨λ_=>by rw[m];exact hw,λz=>by omega⟩
end
noncomputable def As:=(jB 3<|jZ<|zL (jh<|ed (zk 2)<|zA<|.int 1) (.nm 0) 1 [2] jg (jZ<|zL (zP<|z5<|ed (zk 1)<|zA<|.int 2) (.nm 0) 1 [0] jg (ed (zk 0)<|ze 1)))
def Es:=(vg 4<|kC zJ)
noncomputable def Er:=(wZ (zP<|z5<|ed (zk 1)<|zA<|.int 2) (.nm 5)<|xy 4<|zQ<|jv<|zL (zP<|zk 3) (.nm 0) 1 [0,5] jg (zC xn (oQ<|jv<|zL (VW (ze 2)<|ze 0) (.tp [0,1]) 2 [] jg (zC kK (ze 0)<|ze 1))<|ze 1))
noncomputable def BP:=(qA<|xx<|zc (ed (zk 1)<|zA<|.int 0)<|zc (ed (zk 2)<|zA<|.int 1)<|zc (zQ<|zk 4) zJ)
def jq:=jG 6<|zM As<|zM Es<|zM Er BP
noncomputable def qU:=jG 1<|qA<|xx<|zc (ze 0)<|zc (ze 0)<|zc (zQ<|jv<|zL (jh<|ze 0) (.nm 0) 1 [0] jg (zQ<|jv<|zL (jh<|ze 1) (.nm 0) 1 [0] jg (xC<|zC g8 (ze 1)<|ze 0))) zJ
noncomputable def I0:=(vg 4<|zL (jh<|ze 3) (.nm 0) 1 [3] jg (jZ<|zL (jh<|ze 1) (.nm 0) 1 [0] jg (xC<|zC g8 (ze 1)<|ze 0)))
noncomputable def O2:=(ie 5<|V2 (jh<|ze 3) (.nm 0) 1 [3] (zL (jh<|ze 1) (.nm 0) 1 [0] jg (xC<|zC g8 (ze 1)<|ze 0)))
noncomputable def Se:=(wZ (jh<|zC kK (zA<|.int 3)<|ze 3) (.nm 6)<|zM (jB 7<|zI jc<|zc (ze 0)<|zc (zC qr (ze 1)<|ze 6) zJ)<|zM (jB 8<|zC xn (ze 7)<|ze 3)<|zM (jB 9<|zC xn (zC QR (ze 7)<|ze 3)<|ze 3)<|zM (jB 10<|zC qr (zA<|.int 1)<|zC xn (zC QR (ze 7)<|zA<|.int 97)<|zC XN (ze 2)<|zA<|.int 1)<|lp (sB<|zC g8 (ze 8)<|ze 9) (zM (ZG 4 (ze 8)<|jZ<|zL (zP<|z5<|ed (zk 4)<|ze 8) (.nm 0) 1 [2,10] jg (zC xn (zC kK (ze 2)<|ze 0)<|ze 1))<|zM (jB 11<|ed (jv<|zL (jh<|ze 2) (.nm 0) 1 [2,10] (sB<|zC g8 (zC xn (zC kK (ze 0)<|ze 2)<|ze 1)<|zA<|.int 1) (ze 0))<|zA<|.int 0)<|ZH 5 12 (ze 8)<|zC xn (zC kK (ed (zk 12)<|ze 8)<|ze 11)<|ze 2)<|zM (ZG 4 (ze 9)<|jZ<|zL (VW (ed (zk 4)<|ze 9)<|ed (zk 4)<|ze 8) (.tp [0,1]) 2 [2,10] jg (zC xn (zC qr (ze 0)<|zC kK (ze 3)<|ze 1)<|ze 2))<|ZH 5 12 (ze 8)<|zC xn (zC XN (ed (zk 12)<|ze 8)<|zC kK (ze 10)<|ed (zk 12)<|ze 9)<|ze 2)
def Sf:=(vg 13<|kC zJ)
noncomputable def O3:=(ue 5<|FM 4<|wZ (zP<|z5<|jZ<|kC<|zc (ze 4)<|zc (ze 5) zJ) (.nm 14)<|xy 13<|xx<|zc (ze 3)<|zc (ze 3)<|zc (zQ<|jv<|zL (zP<|zk 14) (.nm 0) 1 [] jg (zQ<|zk 0)) zJ)
def S8:=(Xk 13)
def qT:=jG 15<|zM I0<|zM O2<|zM Se<|zM Sf<|zM O3 S8
def Ep:=(cu (.tp [3,4,5])<|ze 0)
def Eo:=(vg 6<|kC zJ)
noncomputable def Em:=(wZ (Kx (ze 5)) (.tp [7,8]) (zM (jB 9 (zC qr (ze 7) (xC (zC g8 (ed (zk 8) (zA (.int 0))) (zA (.str "l")))))) (zM (jB 10 (zC qr (ze 7) (xC (zC g8 (ed (zk 8) (zA (.int 0))) (zA (.str "r")))))) (xy 6 (xx (zc (ed (zk 8) (zA (.int 0))) (zc (zI jq (zc (ze 3) (zc (zI jq (zc (ze 3) (zc (ed (zk 1) (ze 10)) (zc (ed (zk 8) (zA (.int 1))) zJ)))) (zc (ed (zk 2) (ze 9)) zJ)))) zJ)))))))
def BN:=(qA<|xx<|zc (ze 3)<|zc (ze 4)<|zc (zQ<|zk 6) zJ)
def qa:=jG 11<|zM Ep<|zM Eo<|zM Em BN
noncomputable def Eu:=(lp (yZ (jP<|sB<|p6 .tuple<|ze 1)<|yZ (sB<|zC i0 (ye<|zk 1)<|zA<|.int 3)<|yZ (jP<|sB<|zI js<|zc (ed (zk 1)<|zA<|.int 0) zJ)<|jP<|sB<|zI js<|zc (ed (zk 1)<|zA<|.int 1) zJ) (qA<|zA<|.bl d7) ql)
noncomputable def sN:=(lp (yZ (sB<|zC i0 (cp (ze 1) af<|u9<|zA<|.int 2)<|xx<|zc (ze 2)<|zc (ze 3) zJ)<|yZ (jP<|sB<|p6 .tuple<|ed (zk 1)<|zA<|.int 2)<|sB<|zC i0 (ye<|z5<|ed (zk 1)<|zA<|.int 2)<|ze 2) (qA<|zA<|.bl d7) ql)
noncomputable def Et:=(wZ (zP<|z5<|ed (zk 1)<|zA<|.int 2) (.nm 4)<|zM (lp (yZ (jP<|sB<|p6 .tuple<|ze 4)<|sB<|zC i0 (ye<|zk 4)<|ze 3) (qA<|zA<|.bl d7) ql)<|lp (jP<|sB<|oT<|jv<|zL (zP<|zk 4) (.nm 0) 1 [0] jg (gF (zI js<|zc (ze 0) zJ)<|yu qq B5 (zA<|.int 0) (ze 0)<|ze 1)) (qA<|zA<|.bl d7) ql)
def FX:=(qA<|zA<|.bl di)
def jb:=jG 5<|zM Eu<|zM sN<|zM Et FX
def RP:=(cu (.tp [2,3,4])<|ze 0)
noncomputable def RR:=(lp (yZ (jP<|sB<|p6 .tuple<|ze 1)<|yZ (sB<|zC i0 (ye<|zk 1)<|zA<|.int 3)<|jP<|sB<|oT<|jv<|zL (zP<|zk 1) (.nm 0) 1 [] jg (p6 .list<|ze 0)) (qA<|zA<|.bl d7) ql)
def RT:=(cu (.tp [5,6,7])<|ze 1)
noncomputable def Hb:=(wZ (zP<|z5<|ze 5) (.nm 8)<|zM (lp (yZ (jP<|sB<|p6 .tuple<|ze 8)<|yZ (sB<|zC i0 (ye<|zk 8)<|zA<|.int 2)<|yZ (jP<|sB<|zI js<|zc (ed (zk 8)<|zA<|.int 0) zJ)<|jP<|sB<|zI js<|zc (ed (zk 8)<|zA<|.int 1) zJ) (qA<|zA<|.bl d7) ql)<|lp (jP<|sB<|ZI qq qq B5 (zA<|.int 0) (ed (zk 8)<|zA<|.int 0) (ed (zk 8)<|zA<|.int 1)<|ye<|zk 3) (qA<|zA<|.bl d7) ql)
noncomputable def N3:=(lp (yZ (sB<|zC i0 (ze 5)<|jZ<|Kw<|zk 5)<|yZ (sB<|zC i0 (ye<|zk 6)<|ye<|zk 3)<|sB<|zC i0 (ye<|zk 7)<|ye<|zk 3) (qA<|zA<|.bl d7) ql)
noncomputable def Hc:=(wZ (tZ (ze 3) (ze 6)<|ze 7) (.tp [9,10,11])<|zM (lp (yZ (jP<|sB<|zI jb<|zc (ze 2)<|zc (ze 10)<|zc (ze 9)<|zc (ze 9) zJ)<|jP<|sB<|zI jb<|zc (ze 2)<|zc (ze 11)<|zc (ze 9)<|zc (ze 9) zJ) (qA<|zA<|.bl d7) ql)<|lp (sB<|zC i0 (zI jq<|zc (ze 2)<|zc (ze 10)<|zc (ze 11) zJ)<|zI qU<|zc (ze 9) zJ) (qA<|zA<|.bl d7) ql)
noncomputable def N4:=(qA (zC g8 (zI qa (zc (ze 0) (zc (ze 6) (zc (ze 7) zJ)))) (zI qV (zc (ze 2) (zc (ig (zA (.str "")) (jv (zL (zP (zk 4)) (.nm 0) 1 [] jg (ed (zk 0) (zA (.int 0)))))) (zc (ze 5) zJ))))))
def jk:=jG 12<|zM RP<|zM RR<|zM RT<|zM Hb<|zM N3<|zM Hc N4
noncomputable def jW:=jG 1<|qA<|xx<|zc (ed (zk 0)<|zA<|.int 0)<|zc (zC XN (zC qr (ed (zk 0)<|zA<|.int 0)<|ye<|z5<|ed (zk 0)<|zA<|.int 1)<|zA<|.int 1) zJ
noncomputable def jU:=jG 2<|qA<|yu qq B5 (ed (zk 0)<|zA<|.int 0) (ze 1)<|zC qr (ed (zk 0)<|zA<|.int 0)<|ye<|z5<|ed (zk 0)<|zA<|.int 1
noncomputable def qM:=jG 2<|wa<|zL (zP<|zk 0) (.nm 0) 1 [1] (sB<|zI jU<|zc (ze 0)<|zc (ze 1) zJ) (ed (z5<|ed (zk 0)<|zA<|.int 1)<|zC XN (ze 1)<|ed (zk 0)<|zA<|.int 0)
noncomputable def xY:=jG 2<|qA<|zI qv<|zc (xx<|zc (ye<|zk 1)<|zc (ze 0)<|zc (zQ<|zk 1) zJ) zJ
noncomputable def km:=jG 5<|zM (jB 4<|jZ<|zL (VW (ze 2)<|ze 1) (.tp [0,1]) 2 [3] (sB<|zI jU<|zc (ze 1)<|zc (ze 2) zJ) (ze 0))<|qA<|zI gA<|zc (ed (zk 0)<|zA<|.int 0)<|zc (zI xY<|zc (ed (z5<|ed (zk 0)<|zA<|.int 1)<|ze 3)<|zc (jZ<|jC qM<|zc (ze 1)<|zc (ze 3) zJ) zJ)<|zc (ze 4) zJ
noncomputable def X0:=jG 5<|zM (jB 3<|ed (zk 1)<|zI qE<|zc (ze 2) zJ)<|zM (jB 4<|jZ<|zL (jh<|ye<|z5<|ed (zk 3)<|zA<|.int 1) (.nm 0) 1 [0,1,2,3] jg (zI km<|zc (ze 1)<|zc (ze 2)<|zc (ze 3)<|zc (zC qr (ed (zk 4)<|zA<|.int 0)<|ze 0) zJ))<|qA<|xx<|zc (ed (zk 3)<|zA<|.int 0)<|zc (zQ<|zk 4) zJ
noncomputable def R0:=(jB 3<|ed (z5<|ed (z5<|ed (zk 0)<|zA<|.int 2)<|ze 1)<|zA<|.int 0)
noncomputable def R1:=(jB 4<|ed (z5<|ed (z5<|ed (zk 0)<|zA<|.int 2)<|ze 1)<|zA<|.int 1)
noncomputable def N6:=(jB 5 (mT (sB (zC g8 (ze 3) (zA (.str "r")))) (jZ (jC yX (zc (ed (zk 0) (zA (.int 0))) (zc (ze 4) zJ)))) (jZ (jC wz (zc (ed (zk 0) (zA (.int 0))) (zc (ze 4) zJ))))))
noncomputable def R3:=(jB 6<|jZ<|jC xO<|zc (ed (zk 0)<|zA<|.int 0)<|zc (zI xY<|zc (ed (z5<|ed (zk 0)<|zA<|.int 1)<|ze 1)<|zc (jZ<|jC qM<|zc (ze 2)<|zc (ze 1) zJ) zJ)<|zc (ze 5) zJ)
noncomputable def R4:=(jB 7<|mU<|zL (zP<|zk 6) (.nm 0) 1 [] jg (xx<|zc (zI qE<|zc (ze 0) zJ)<|zc (ze 0) zJ))
noncomputable def R5:=(wa<|zL (V1<|ze 2) (.tp [0,1]) 2 [0,2,7] jg (mT (sB<|ug (ze 0)<|ze 4) (zI X0<|zc (ze 2)<|zc (ze 3)<|zc (BE (ze 4)<|ze 0) zJ)<|ze 1))
def vT:=jG 8<|zM R0<|zM R1<|zM N6<|zM R3<|zM R4 R5
noncomputable def E4:=(lp (sB (zC g8 (ed (zk 1) (zA (.int 0))) (zA (.str "l")))) (qA (zI yW (zc (ze 0) (zc (ed (zk 1) (zA (.int 1))) (zc (ze 2) zJ))))) ql)
noncomputable def M8:=(jB 3<|zI gA<|zc (ze 0)<|zc (ed (zk 1)<|zA<|.int 1)<|zc (ze 2) zJ)
def M9:=(qA<|mT (sB<|sI<|zk 3) (ze 3)<|zA .fh)
def xc:=jG 4<|zM E4<|zM M8 M9
noncomputable def Sd:=(jB 3<|zI xc<|zc (ze 0)<|zc (ze 1)<|zc (ed (z5<|ed (zk 2)<|zA<|.int 1)<|ub<|zA<|.int 1) zJ)
noncomputable def O1:=(qA<|mT (sB<|zC AZ (ze 3)<|zA .fh) (ze 2)<|xx<|zc (ed (zk 2)<|zA<|.int 0)<|zc (zC qr (ed (zk 2)<|zA<|.int 1)<|xx<|zc (ze 3) zJ) zJ)
def kN:=jG 4<|zM Sd O1
noncomputable def G8:=(lp (sB (zC g8 (ed (zk 1) (zA (.int 0))) (zA (.str "l")))) (wa (jC yX (zc (ze 0) (zc (ed (zk 1) (zA (.int 1))) zJ)))) ql)
noncomputable def RL:=(jB 2<|jZ<|zL (zP<|jv<|jC wz<|zc (ze 0)<|zc (ed (zk 1)<|zA<|.int 1) zJ) (.nm 0) 1 [] jg (zI qE<|zc (ze 0) zJ))
noncomputable def RM:=(wa<|zL (Kx<|ed (z5<|zI qp<|zc (ed (z5<|ed (zk 1)<|zA<|.int 1)<|zA<|.int 0) zJ)<|zA<|.int 2) (.tp [0,1]) 2 [2] (sB<|Xl (ze 0)<|zk 2) (ze 1))
def yb:=jG 3<|zM G8<|zM RL RM
def Rr:=(jB 3<|ed (zk 0)<|zA<|.int 0)
def Rt:=(jB 4<|ed (z5<|ed (zk 0)<|zA<|.int 2)<|ze 1)
noncomputable def Ru:=(jB 5<|jZ<|zL (zP<|zk 2) (.nm 0) 1 [1] (jP<|sB<|zI jU<|zc (ze 0)<|zc (ze 1) zJ) (ze 0))
noncomputable def Rv:=(jB 6<|jZ<|jC vT<|zc (ze 0)<|zc (ze 1)<|zc (jZ<|zL (zP<|zk 2) (.nm 0) 1 [1] (sB<|zI jU<|zc (ze 0)<|zc (ze 1) zJ) (ze 0)) zJ)
noncomputable def Rw:=(jB 7<|jZ<|zL (zP<|zk 6) (.nm 0) 1 [3,4] jg (zI kN<|zc (ze 1)<|zc (ze 2)<|zc (ze 0) zJ))
noncomputable def Rx:=(jB 8<|jZ<|zL (zP<|jv<|jC yb<|zc (ze 3)<|zc (ze 4) zJ) (.nm 0) 1 [1] jg (xx<|zc (zC qr (ze 1)<|zA<|.int 1)<|zc (xx<|zc (ze 0) zJ) zJ))
noncomputable def M1:=(qA (jZ (YO (zk 5) (z5 (mT (sB (zC g8 (ed (zk 4) (zA (.int 0))) (zA (.str "r")))) (jZ (YO (zk 8) (zk 7))) (jZ (YO (zk 7) (zk 8))))))))
def JF:=jG 9<|zM Rr<|zM Rt<|zM Ru<|zM Rv<|zM Rw<|zM Rx M1
noncomputable def L8:=(jB 1<|jZ<|zL (zP<|z5<|ed (z5<|zI qp<|zc (ed (z5<|ed (zk 0)<|zA<|.int 1)<|zA<|.int 0) zJ)<|zA<|.int 2) (.nm 0) 1 [] jg (xx<|zc (zA<|.int 0)<|zc (xx<|zc (ze 0) zJ) zJ))
noncomputable def Ra:=(wZ (jh<|ye<|z5<|ed (zk 0)<|zA<|.int 2) (.nm 2)<|jB 1<|zI JF<|zc (ze 0)<|zc (ze 2)<|zc (ze 1) zJ)
def Rb:=(wa<|cn jW<|zk 1)
def yd:=jG 3<|zM L8<|zM Ra Rb
def Rc:=(jB 1<|jZ<|jC yd<|zc (ze 0) zJ)
noncomputable def Rf:=(jB 2<|jZ<|zL (Kx<|ed (zk 0)<|zA<|.int 1) (.tp [0,1]) 2 [1] jg (zI xY<|zc (ze 1)<|zc (jZ<|jC qM<|zc (ze 2)<|zc (ze 0) zJ) zJ))
noncomputable def Rg:=(jB 3<|jZ<|zL (zP<|zk 2) (.nm 0) 1 [0] jg (zI xZ<|zc (ed (zk 1)<|zA<|.int 0)<|zc (ze 0) zJ))
noncomputable def Rh:=(qA<|xx<|zc (jZ<|zL (zP<|zk 1) (.nm 0) 1 [] jg (zI jW<|zc (ze 0) zJ))<|zc (ze 3)<|zc (ze 2) zJ)
def xM:=jG 4<|zM Rc<|zM Rf<|zM Rg Rh
theorem zo(h:F γ=cq (.next γ'))(g:G γ'=r):zM F G γ=r:=by rw[jo,h];exact g
theorem jF(h:F (jm n ds)=cq (.ret r)):jG n F ds=cq r:=by show(F<|jm n ds).bind _=_;rw[h];rfl
theorem Yh{T:Tg}{F:CO Fl}(P:Nat->Ctx->Prop)(n:Nat){γ:Ctx}(O:P 0 γ)(step : ∀s,s<n->∀γ,P s γ->∃γ1 z,xp T (.int (s:Int)) γ=cq γ1/\F γ1=cq (.next z)/\P (s+1) z) :
 ∃γ',qH T F ((HU n).map λ(i:Nat)=>D.int (i:Int)) γ=cq (.next γ')/\P n γ':=by
 have a : ∀(k s:Nat) (γ:Ctx),s+k=n->P s γ->∃γ',qH T F ((NB s k).map λ(i:Nat)=>D.int (i:Int)) γ=cq (.next γ')/\P n γ':=by
  intro k
  induction k with
  | zero=>
   intro s γ e I;obtain rfl:s=n:=by omega
   exact⟨γ,rfl,I⟩
  | succ k U=>
   intro s γ e I;obtain⟨γ1,z,b,d,Y⟩:=step s ⋯ γ I;obtain⟨γ',f,g⟩:=U (s+1) z ⋯ Y;refine⟨γ',?_,g⟩;rw[MD,IQ,jE,b];simp only[Ia,d];exact f
 have:=a n 0 γ ⋯ O;rw[<- Mj]at this;exact this
theorem QD(P:Nat->Ctx->Prop)(n:Nat)(C:n<=lim)(I:f γ=cq (.int (n:Int)))(O:P 0 γ)(step : ∀s,s<n->∀γ,P s γ->∃γ1 z,xp T (.int (s:Int)) γ=cq γ1/\F γ1=cq (.next z)/\P (s+1) z) :
 ∃γ',wZ (jh f) T F γ=cq (.next γ')/\P n γ':=by
 obtain⟨γ',e,U⟩:=Yh P n O step;refine⟨γ',?_,U⟩;have Y:=jI;have r:inR (n:Int)=di:=QN ⋯ ⋯;rw[Yz,yI,I];simp only[Ia,qz,r,if_true,Me,jS];rw[zX n λi=>(i:Int)];exact e
@[simp] def Fh:=@uc.eq_1
def FB(m C:Nat)(w I:RX):Prop:=m=C/\∀k,k<m->w k=I k
instance (m m':Nat) (w w':RX):Decidable (FB m m' w w'):=inferInstanceAs (Decidable (m=m'/\∀k,k<m->w k=w' k))
section
variable{p p':Int}{m m':Nat}{w w':RX}{wd Ul:RZ}{T T':RV}
theorem sx(k):jX (xw w wd T k)=cq (.T,[.str (xT<|i4<|w k),ja (kv w wd k) (kA w wd k) (T k)]):=rfl
theorem bq:zN (.nm 0) jg (ed (zk 0)<|zA<|.int 0) [Cell.no] (jY m w wd T)=cq ((HU m).map λk=>D.str<|xT<|i4<|w k):=by unfold jY;refine zu _ _ λk z=>zw rfl rfl ?_;simp[sx]
end
theorem fQ(xs:List D)(n:Nat)(C:xs.length=n)(J : ∀i (h:i<n),∃z,xs[i]'(C ▸ h) = .int z)(bm:n<=63)(k:Int)(L:0<=k)(bn:k<100000) :
 ∃m,jc [.lst xs,.int k]=cq (.val<|.int m)/\0<=m/\m<1000000007:=by
 have O : ∀x:Int,XW x 48271=di:=λx=>WQ _ _ ⋯ ⋯;have U : ∀x:Int,XW 7 x=di:=λx=>vc _ _ ⋯ ⋯;have Y : ∀x:Int,XW 13 x=di:=λx=>vc _ _ ⋯ ⋯;have e : ∀x:Int,XW x 69621=di:=λx=>WQ _ _ ⋯ ⋯;have f:XW (7*k) k=di:=WQ _ _ ⋯ ⋯;have I:Bc 10 9=di:=by decide
 have b:Bc 10 30=di:=by decide
 have hl:lim=2500:=rfl;by_cases as:n=0
 ·subst as
  have g:xs=[]:=Lu C;subst g;simp[jc,jG,jm,jo,O,U,Y,e,f,I,b];omega
 ·have l:0<n:=by omega
  obtain⟨i,P⟩:=MC (La k<|show(n:Int)≠0 by omega);have r:i<n:=by have:=IP k (show(0:Int)<n by omega);omega
  obtain⟨zi,A⟩:=J i r;have T:l7 n (i:Int)=cq i:=by rw[xA,RY r]
  by_cases M:n=1
  ·subst M
   have o:i=0:=by omega
   subst o;have k1:k%1=0:=by omega
   simp[jc,jG,jm,jo,O,U,Y,e,f,I,b,C,A];omega
  ·obtain⟨z0,g⟩:=J 0 l
   have o:l7 n 0=cq 0:=by have:=xA n 0;rw[RY l]at this;exact this
   have E:(0:Int)<(n:Int) - 1:=by omega
   have F:(1:Int)<(n:Int):=by omega
   have y:1<n:=by omega
   have X:(n:Int) - 1<1073741824:=by omega
   have Z:(0:Int)<(n:Int):=by omega
   obtain⟨j,Q⟩:=MC (La k<|show(n:Int) - 1≠0 by omega);have u:1+j<n:=by have:=IP k E;omega
   obtain⟨zj,K⟩:=J (1+j) u;have W:l7 n (1+(j:Int))=cq (1+j):=by have:=xA n<|1+j;rw[RY u]at this;rw[<- this];congr 1
   have N:0<=k/((n:Int) - 1)/\k/((n:Int) - 1)<=k:=⟨Int.ediv_nonneg L ⋯,Int.ediv_le_self _ L⟩;obtain⟨t,R⟩:=MC N.1;by_cases B:z0%2=1
   ·obtain⟨a,G,c0⟩ : ∃a:Nat,(if (t:Int)<60 then (t:Int)else 60)=a/\a<=60:=by
     split
     ·exact⟨t,rfl,by omega⟩
     ·exact⟨60,rfl,by omega⟩
    have H:inR (a:Int)=di:=QN ⋯ ⋯;simp[jc,jG,jm,jo,O,U,Y,e,f,C,l,u,F,y,g,o,E,X,B,Q,W,K,R,I,b];rw[G,RY H];simp only[Ia,jS,Me];rw[zX a λi=>(i:Int)];have w : ∀(m s:Nat) (v:Int) (c:Cell),∃p d,qH (.nm 3) (jB 2<|zC QR (ze 2)<|zC rY (zA<|D.int 10)<|zA<|D.int 9) ((NB s m).map λ(i:Nat)=>D.int i) [.val (.lst xs),.val<|.int k,.val<|.int v,c,.no] =
     cq (.next [.val (.lst xs),.val<|.int k,.val<|.int p,d,.no]):=by
     intro m
     induction m with
     | zero=>intro s v c;exact⟨v,c,rfl⟩
     | succ m S=>
      intro s v c;rw[MD,IQ,jE];obtain⟨p,d,h⟩:=S (s+1) (v/10 ^ 9)<|.val<|.int s;refine⟨p,d,?_⟩;rw[<- h];simp[I]
    obtain⟨p,d,h⟩:=w a 0 zj .no;rw[<- Mj]at h;rw[h];simp[I];omega
   ·simp[jc,jG,jm,jo,O,U,Y,e,f,C,F,y,Z,l,g,o,B,P,A,r,T,I,b]
    omega
theorem sg(C:List Int)(J:C.length<=63)(k:Int)(z:0<=k)(I:k<100000) : ∃m,jc [xK C,.int k]=cq (.val<|.int m)/\0<=m/\m<1000000007:=
 fQ (C.map D.int) C.length ⋯ (λi a=>⟨C[i],by simp⟩) J k z I
noncomputable def xo(C:List Int)(k:Int):Int:=match jc [xK C,.int k]with
 | some (.val<|.int m)=>m
 | _=>0
theorem XT(C:ns.length<=63)(z:0<=k)(I:k<100000):jc [xK ns,.int k]=cq (.val<|.int<|xo ns k)/\0<=xo ns k/\xo ns k<1000000007:=by
 obtain⟨m,h,a,b⟩:=sg ns C k z I;have e:xo ns k=m:=by unfold xo;rw[h]
 rw[e];exact⟨h,a,b⟩
theorem sU{C:List Int}(J:C.length<=63){m:Nat}(L:m<=5) : ∃w,xj [xK C,.int 1,.int (1+(m:Int))]=cq (.val<|.str<|X5 m w):=by
 have Y:=jI;have z:m<=lim:=by omega
 refine⟨λk=>decide (xo C (1+(k:Int))/8%2=1),?_⟩;have b:zN (.nm 0) jg (VY (zA (.str "rl")) (zC xn (zC QR (zI jc (zc (ze 1) (zc (zC qr (ze 2) (ze 0)) zJ))) (zA (.int 8))) (zA (.int 2)))) [Cell.no,Cell.val (xK C),Cell.val (.int 1)] ((HU m).map λ(i:Nat)=>D.int i) =
  cq ((HU m).map λ(k:Nat)=>D.str<|xT<|i4<|decide<|xo C (1+(k:Int))/8%2=1):=by
  refine zu _ _ λk I=>zw rfl rfl ?_;have I:=HW.mp I;obtain⟨a,d,e⟩:=XT J (k:=1+(k:Int)) ⋯ ⋯;have O:zC xn (zC QR (zI jc<|zc (ze 1)<|zc (zC qr (ze 2)<|ze 0) zJ)<|zA<|.int 8) (zA<|.int 2) [Cell.val (.int k),Cell.val<|xK C,Cell.val (.int 1)]=cq (.int<|xo C (1+(k:Int))/8%2):=by simp[a]
  show VY _ _ [Cell.val (.int k),Cell.val<|xK C,Cell.val (.int 1)]=_;rw[mE,O];have q:xo C (1+(k:Int))/8%2=0\/xo C (1+(k:Int))/8%2=1:=by omega
  rcases q with q | q
  ·rw[q];rfl
  ·rw[q];rfl
 have all1:((HU m).map λ(k:Nat)=>xT<|i4<|decide<|xo C (1+(k:Int))/8%2=1).all jM=di:=by
  rw[List.all_map];exact LK.mpr λk _=>by show jM (xT _)=di;rfl
 have U:jM ("" : Str)=di:=rfl;have a:(1:Int)+(m:Int) - 1=(m:Int):=by omega
 simp[xj,jG,jm,jo,a,z,jS,z6,x9,HZ];rw[zX m λi=>(i:Int),b];simp only[Iv,Ia,Function.comp];rw[Xe];simp only[Ia];rw[RY ⟨by simpa using z,LK.mp all1,U⟩];rfl
noncomputable def zV(bs:List (Int×Int)):List D:=bs.map λb=>D.tup [.int b.1,.int b.2]
@[simp] theorem Jt(bs):(zV bs).length=bs.length:=by simp[zV]
theorem J8 : ∀bs,wC (zV bs)=cq bs
 | []=>rfl
 | b::bs=>by have z:=J8 bs;unfold zV at z;simp[zV,wC,iT,z]
noncomputable def xl(bs:List (Int×Int)):List (Int×Int):=(j4 bs).map λi=>bs.getD i (0,0)
theorem xN(bs):(xl bs).Perm bs:=by have:=(jO bs).map λi=>bs.getD i (0,0);rw[jd]at this;exact this
theorem Ks{bs:List (Int×Int)}(h:bs.length<64):bY (zV bs)=cq (zV<|xl bs):=by unfold bY;rw[J8];show(if (zV bs).length<64 then cq ((j4 bs).map λi=>(zV bs).getD i .fh)else dn)=_;rw[Jt,RY h];unfold xl;congr 1;unfold zV;rw[Lb];refine Iu λi a=>?_;have a:i<bs.length:=HW.mp<|(jO bs).mem_iff.mp a;simp[a]
def WS(n:Int)(b:Int×Int):Prop:=0<=b.1/\b.1<=b.2/\b.2<n
@[simp] def mF:=@Kw.eq_1
section ap
variable(γ:Ctx)
@[simp] def Ci:=@ua.eq_1
@[simp] def mG:=@V0.eq_1
@[simp] def mH:=@V1.eq_1
@[simp] def Gn:=@GS.eq_1
end ap
noncomputable def gJ(b:Int×Int)(r:Int):Bool:=decide (b.1<=r) && decide (r<=b.2)
noncomputable def jH(bs:List (Int×Int))(r:Int):List Nat:=(HU bs.length).filter λi=>gJ (bs.getD i (0,0)) r
def nv(l:List Nat):List D:=l.map λ(i:Nat)=>D.int i
@[simp] theorem lu(l):(nv l).length=l.length:=by simp[nv]
theorem KJ(bs r):(jH bs r).length<=bs.length:=by have:=NJ (λi=>gJ (bs.getD i (0,0)) r)<|HU bs.length;simpa[jH]using this
theorem fj(bs:List (Int×Int)):qu (zV bs)=(HU bs.length).map λ(i:Nat)=>D.tup [.int i,.tup [.int (bs.getD i (0,0)).1,.int (bs.getD i (0,0)).2]]:=by unfold qu;rw[Jt];refine Iu λi a=>?_;have a:=HW.mp a;simp[zV,a]
theorem yL{bs:List (Int×Int)}(z:bs.length<=lim)(r:Int):vX [.lst (zV bs),.int r]=cq (.own<|nv<|jH bs r):=by
 have a:zN (.tp [0,1]) (sB<|yu qq qq (ed (zk 1)<|zA<|.int 0) (ze 2)<|ed (zk 1)<|zA<|.int 1) (ze 0) [Cell.no,Cell.no,Cell.val (.int r)] ((HU bs.length).map λ(i:Nat)=>D.tup [.int i,.tup [.int (bs.getD i (0,0)).1,.int (bs.getD i (0,0)).2]]) =
  cq (((HU bs.length).filter λi=>gJ (bs.getD i (0,0)) r).map λ(i:Nat)=>D.int i):=by
  refine jr (λi=>gJ (bs.getD i (0,0)) r) (λ(i:Nat)=>D.int i) _ λi d=>⟨_,rfl,?_,λ_=>rfl⟩;generalize bs.getD i (0,0)=b;by_cases h:b.1<=r
  ·simp[gJ,h]
  ·simp[gJ,h]
 have I:(qu<|zV bs).length=bs.length:=by simp[qu]
 simp only[vX,jG,jm,Vx,qI,mH,qD,IQ,OI,IS,Lj,HZ,Np,OD,MM,Ih,zT,Ia,I,z,if_true];rw[show z6 2 [1] (Cell.val (D.lst<|zV bs)::Cell.val (D.int r)::HZ (2 - (0+1+1)) Cell.no)=[Cell.no,Cell.no,Cell.val (.int r)]from rfl,fj,a];rfl
theorem vq:je=vX:=rfl
noncomputable def om(e b:List Nat):D:= .tup [.int e.length,.int b.length,.tup (e.map λx=>D.tup<|b.map λy=>D.int<|if x=y then 1 else 0)]
theorem QV(z:Pr p)(I:h<=100)(C:w<=lim)(f:RK) :
 ∃r B l,wz [.int p,ja h w f]=cq (.own<|zW r h B)/\h8 p h r B l/\∀v,Span p h (fe r B) v↔Span p h (fe w λj i=>f i j) v:=by
 obtain⟨r,B,l,e,O,U⟩:=xt z I C .T λj i=>f i j;have Y:=jI;refine⟨r,B,l,?_,O,U⟩;simp only[t4]at e;have o:=vU f (show h<=lim by omega) C;unfold ja at o ⊢;simp[wz,jG,jm,o,e]
theorem Yi(P:Nat->Ctx->Prop) : ∀(ds C:List D) (k:Nat) (γ:Ctx),P k γ->(∀i d γ,ds[i]? = cq d->P (k+i) γ->∃γ',(xp T d γ).bind F=cq (.next γ')/\P (k+i+1) γ')->
 ∃γ',P (k+ds.length) γ'/\qH T F (ds++C) γ=qH T F C γ'
 | [],C,k,γ,h,_=>⟨γ,h,rfl⟩
 | d::ds,C,k,γ,h,step=>by
  obtain⟨a,e,g⟩:=step 0 d γ rfl h;obtain⟨γ',j,f⟩:=Yi P ds C (k+1) a (by simpa using g) (λi b z l I=>by have:=step (i+1) b z (by simpa using l) (by rw[show k+(i+1)=k+1+i by omega];exact I);rw[show k+(i+1)+1=k+1+i+1 by omega]at this;exact this)
  refine⟨γ',by rw[show k+(d::ds).length=k+1+ds.length by simp;omega];exact j,?_⟩;rw[OD,jE];cases eb:xp T d γ with
  | none=>rw[eb]at e;simp at e
  | some O=>
   rw[eb]at e;simp only[Ia]at e ⊢;rw[e];exact f
theorem WE(n:Nat)(v:Vc):qu (zF n v)=(HU n).map λ(i:Nat)=>D.tup [.int i,.int (v i)]:=by unfold qu;rw[WH];refine Iu λi a=>?_;have:=HW.mp a;simp[zF,this]
theorem yK(L:n<=lim)(v:Vc)(J:a<n)(I : ∀i,i<a->v i=0)(C:v a≠0):qE [.tup (zF n v)]=cq (.val<|.int a):=by
 have d:zN (.tp [0,1]) (sB<|zC i0 (ze 1)<|zA<|.int 0) (ze 0) [Cell.no,Cell.no] ((HU n).map λ(i:Nat)=>D.tup [.int i,.int (v i)])=cq (((HU n).filter λi=> !decide (v i=0)).map λ(i:Nat)=>D.int i):=by refine jr _ _ _ λi f=>⟨_,rfl,?_,λ_=>rfl⟩;simp
 cases hf:(HU n).filter λi=> !decide (v i=0)with
 | nil=>exact absurd (by have:=KZ hf a J;simpa using this) C
 | cons b xE=>
  obtain⟨Y,O,U⟩:=wG hf;have e:b=a:=by
   rcases NH a b with z | z | z
   ·exact absurd (by have:=U a z;simpa using this) C
   ·exact z.symm
   ·exact absurd (I b z) (by simpa using O)
  subst e;rw[hf]at d;simp[qE,jG,jm,WE,L,z6,HZ,d]
theorem aV(J:a<n)(v z:Vc)(x:Int)(C:z a=x)(I : ∀i,i<n->i≠a->z i=v i):(zF n v).set a (.int x)=zF n z:=by
 apply Mc;intro i;rw[Mz];by_cases b:i<n
 ·by_cases e:a=i
  ·subst e;simp[J,zF,C]
  ·have:=I i b (IT e)
   simp[e,zF,b,this]
 ·have d:(zF n v)[i]? = dn:=by simp[zF];omega
  have f:(zF n z)[i]? = dn:=by simp[zF];omega
  rw[d,f,EQ ⋯]
noncomputable def Vz(w:Nat)(B:Nat->Vc)(l:RZ)(r:Nat):Vc:=λj=>zg (λk=>if l k=j then B k w else 0) r
noncomputable def kL:=(zM (jB 6<|zI qE<|zc (ze 5) zJ)<|zM (lp (sB<|zC g8 (ze 6)<|ze 3) (qA<|zA .fh) ql)<|ZG 4 (ze 6)<|ed (zk 5)<|ze 3)
section
variable{p:Int}{h w r:Nat}
theorem Wn{l:RZ}(C : ∀k m,k<m->m<r->l k<l m){k m:Nat}(I:k<r)(O:m<r)(e:l k=l m):k=m:=by
 rcases NH k m with z | z | z
 ·have:=C k m z O;omega
 ·exact z
 ·have:=C m k z I;omega
noncomputable def aug(w:Nat)(f:RK)(b:Vc):Nat->Vc:=λi j=>if j<w then f i j else b i
theorem aa(Z:w+1<=lim)(O:h8 p (w+1) r B l)(hs:s<=r)(h1 : ∀k,k<s->l k<w)(S:List D)(L z I:Cell) :
 ∃C J,qH (.nm 5) kL (zW s (w+1) B++S) [L,z,I,.val<|.int w,.own<|zF w λ_=>0,.no,.no]=qH (.nm 5) kL S [L,z,I,.val<|.int w,.own<|zF w<|Vz w B l s,C,J]:=by
 obtain⟨E,⟨C,J,rfl⟩,e⟩:=Yi (T:= .nm 5) (F:=kL) (λt n=>∃C J,n=[L,z,I,.val<|.int w,.own<|zF w<|Vz w B l t,C,J]) (zW s (w+1) B) S 0 [L,z,I,.val<|.int w,.own<|zF w λ_=>0,.no,.no]
  ⟨.no,.no,by rw[xJ (f:=Vz w B l 0) (g:=λ_=>0) λi _=>rfl]⟩ (by
   rintro k d n a ⟨C,J,rfl⟩;rw[Lw];have j:k<s:=by have:=(Io.mp a).1;simpa using this
   have o:d = .tup (zF (w+1)<|B k):=by simp[j]at a;exact a.symm
   subst o;have U:k<r:=by omega
   have b:=h1 k j;have le:=yK Z (B k) (show l k<w+1 by omega) (λi h=>O.n0 k i U h) (by rw[O.one k U];decide);refine⟨_,?_,.val<|.tup<|zF (w+1)<|B k,.val<|.int<|l k,rfl⟩;have Y : ¬((l k:Int)=(w:Int)):=by omega
   have u : ¬l k=w:=by omega
   have A:w<w+1:=by omega
   have x:=aV b (Vz w B l k) (Vz w B l<|k+1) (B k w) (by
    unfold Vz;simp only[zg,if_true];rw[zx (g:=λ_=>0) λm y=>by rw[EQ λe=>by have:=O.mono m k y U;omega],zO]
    omega) (λi h Y=>by
    unfold Vz;simp only[zg];rw[EQ (IT Y)];omega)
   simp[kL,jo,le,Y,u,b,A,x])
 rw[lX]at e;refine⟨C,J,?_⟩;rw[e];rw[Lw]
theorem sr(w:Nat)(f:RK)(b:Vc)(i:Nat):zF w (f i)++[.int (b i)]=zF (w+1) (aug w f b i):=by
 unfold zF;rw[Mf,LD];congr 1
 ·exact Iu λj z=>by simp[aug,HW.mp z]
 ·simp[aug]
theorem JC(J:Pr p)(S:h<=90)(Z:w<=90)(f:RK)(b:Vc) :
 ∃r B l s,h8 p (w+1) r B l/\(∀v,Span p (w+1) (fe r B) v↔Span p (w+1) (fe h<|aug w f b) v)/\s<=r/\(∀k,k<s->l k<w)/\(∀k,s<=k->k<r->w<=l k)/\
  yW [.int p,ja h w f,.tup (zF h b)]=cq (.val<|if s<r then .fh else .tup (zF w<|Vz w B l s)):=by
 have W:=jI;have U:h<=lim:=by omega
 have m:w<=lim:=by omega
 have O:w+1<=lim:=by omega
 obtain⟨r,B,l,e,I,n⟩:=xt J (show w+1<=100 by omega) U .L<|aug w f b;obtain⟨s,Y,j,g⟩:=wY w I.mono;refine⟨r,B,l,s,I,n,Y,j,g,?_⟩;have a:zN (.tp [0,1]) jg (zC qr (ze 0)<|xx<|zc (ze 1) zJ) [Cell.no,Cell.no] ((HU h).map λi=>D.tup [.tup (zF w<|f i),.int (b i)])=cq (zW h (w+1)<|aug w f b):=by unfold zW;refine zu _ _ λi E=>zw rfl rfl ?_;simp[qr,O,sr]
 have K:X4 (zW h w f) (zF h b)=(HU h).map λi=>D.tup [.tup (zF w<|f i),.int (b i)]:=by unfold X4 zW zF;rw[Nm];simp
 have o:HZ w (D.int 0)=zF w λ_=>0:=by rw[cG];rfl
 have y:((w+1:Nat):Int)=(w:Int)+1:=by omega
 simp only[t4]at e;rw[y]at e;obtain⟨d,C⟩ : ∃d,r=s+d:=⟨r - s,by omega⟩;have G:zW r (w+1) B=zW s (w+1) B++zW d (w+1) λk=>B (s+k):=by unfold zW;rw[C,Od,LD,Lb];rfl
 obtain⟨M,N,F⟩:=aa O I Y j (zW d (w+1) λk=>B<|s+k) (.val<|.int p) (.val<|ja h w f)<|.val<|.tup<|zF h b;have H:jX (ja h w f)=cq (.T,[.int h,.int w,.tup (zW h w f)]):=rfl;have A:yW=jG 7 (zM (jB 3<|ed (zk 1)<|zA<|.int 1)<|zM (vg 4<|oR (jv<|kC<|zc (zA<|.int 0) zJ)<|ze 3)<|zM (wZ (zP<|z5<|jZ<|jC xu<|zc (ze 0)<|zc (zC qr (ze 3)<|zA<|.int 1)<|zc (jZ<|zL (VW (ed (zk 1)<|zA<|.int 2)<|ze 2) (.tp [0,1]) 2 [] jg (zC qr (ze 0)<|xx<|zc (ze 1) zJ)) zJ) (.nm 5) kL)<|qA<|zQ<|zk 4):=rfl;rw[A];simp[jG,jm,jo,H,m,K,U,z6,HZ,a,e];rw[o,G,F];by_cases z:s<r
 ·
  have t:d=1:=by
   rcases IG 1 d with q | q
   ·have P:=I.mono s (s+1) ⋯ ⋯
    have Q:=g s (Ic _) z;have R:=I.lt (s+1) ⋯;omega
   ·omega
  subst t;have u:l s=w:=by have:=g s (Ic _) z;have:=I.lt s z;omega
  have le:=yK O (B s) (show w<w+1 by omega) (λi E=>I.n0 s i z ⋯) (by have:=I.one s z;rw[u]at this;rw[this];decide);have one:zW 1 (w+1) (λk=>B<|s+k)=[.tup (zF (w+1)<|B s)]:=rfl;rw[one,jE];simp[kL,jo,le,z]
 ·have x:d=0:=by omega
  subst x;have zero:zW 0 (w+1) (λk=>B<|s+k)=[]:=rfl;rw[zero];simp[qH,z]
end
@[simp] def Ct:=@FP.eq_1
section
variable{p:Int}{m:Nat}{w:RX}{wd:RZ}{T:RV}{a:Nat}
theorem Kj(F:Nat->Int)(s:Nat) : ∀d,zg F (s+d)=zg F s+zg (λk=>F<|s+k) d
 | 0=>by simp[zg]
 | d+1=>by rw[<- OA];simp only[zg];rw[Kj F s d];omega
abbrev lk(p:Int)(m:Nat)(w:RX)(wd:RZ)(T:RV)(i j:Int)(a:Nat)(ds:List D)(c:Cell):Ctx:=[.val (qh p m w wd T),.val (.int i),.val (.int j),.val (ja a a λi j=>if i=j then 1 else 0),.own ds,c]
end
@[simp] def Bp:=@CS.eq_1
section
variable{p:Int}{m:Nat}{w:RX}{wd:RZ}{T:RV}
theorem yf:jX (qh p m w wd T)=cq (.T,[.int p,.tup<|zF (m+1) λk=>(wd k:Int),.tup (jY m w wd T)]):=rfl
end
@[simp] theorem Bq(γ:Ctx)(f):V0 f γ=(f γ).bind λd=>match d with
 | .str z=>if jM z=di then cq (qu<|ke z)else dn
 | _=>dn:=rfl
@[simp] theorem Cs(γ:Ctx)(f g):CT f g γ=(f γ).bind λd=>(g γ).bind λe=>match d,e with
 | .str x,.str y=>if jM x=di/\jM y=di then cq (.str<|x++y)else dn
 | _,_=>dn:=rfl
def pr(a b:Nat):D:= .tup [.int a,.int b]
@[simp] theorem FS(a b):jX (pr a b)=cq (.T,[.int (a:Int),.int (b:Int)]):=rfl
noncomputable def mk(lo:Nat)(ch:List Int)(r:Nat):Int:=if lo<=r then ch.getD (r - lo) 0 else 0
def SY:=jB 4<|jZ<|kC<|zc (jZ<|kC zJ) zJ
noncomputable def X6(h w:Nat)(f:RK):List D:=(HU h).map λi=>D.lst<|zF w<|f i
@[simp] theorem lE(h w f):(X6 h w f).length=h:=by simp[X6]
theorem yG(ds:List D):jX (.lst ds)=cq (.L,ds):=rfl
theorem j8(ds:List D):jX (.tup ds)=cq (.T,ds):=rfl
theorem V5(s:Nat)(f:Nat->α):(HU<|s+1).map f=(HU s).map f++[f s]:=by rw[Mf,LD];rfl
theorem gb(s w wd T):jY (s+1) w wd T=jY s w wd T++[xw w wd T s]:=V5 _ _
section
variable{p:Int}{m:Nat}{w:RX}{wd Ul:RZ}{T T' J:RV}
theorem YH(h w f):jX (ja h w f)=cq (.T,[.int (h:Int),.int (w:Int),.tup (zW h w f)]):=rfl
theorem wx(h w f):(zW h w f).length=h:=by simp[zW]
theorem Vk(s w:Nat)(f:RK):zW (s+1) w f=zW s w f++[.tup (zF w<|f s)]:=V5 _ _
end
def wl(l:List Bool):Str:=⟨⟨l.map i4⟩⟩
noncomputable def Ek(n k:Nat)(u:Nat->Int):Int:=if 0<k then (if k+1<n then u (k - 1)+(u (k+1)+0)else u (k - 1)+0)else if k+1<n then u (k+1)+0 else 0
noncomputable def mv(n k:Nat)(u:Nat->Int)(i:Nat):Int:=if i=k then Ek n k u - u k else u i
theorem sC(h : ∀k,k<r->l k≠j):Vz w B l r j=0:=by unfold Vz;rw[zx (g:=λ_=>0) λk z=>EQ<|h k z,zO]
theorem Bs{p:Int}{w n r:Nat}{B:Nat->Vc}{l:RZ}(I:h8 p n r B l){k:Nat}(z:k<r):Vz w B l r (l k)=B k w:=by unfold Vz;rw[zK z λm a O=>EQ λe=>O<|Wn I.mono a z e,RY rfl]
theorem hU{p:Int}{h w:Nat}{f:RK}{b y:Vc}(U : ∀i,i<h->zg (λj=>f i j*y j) w%p=b i%p){v:Vc}(Y:Span p (w+1) (fe h<|aug w f b) v):(v w - zg (λj=>v j*y j) w)%p=0:=by
 induction Y with
 | @zero v I=>
  have e:zg (λj=>v j*y j) w%p=zg (λ_=>0) w%p:=zH λj O=>by rw[Ii,I j ⋯];simp
  rw[Mh,e,I w ⋯,zO];simp
 | @step v z g c n s a r=>
  obtain⟨i,o,rfl⟩:=n;have d:zg (λj=>v j*y j) w%p=(zg (λj=>z j*y j) w+c*zg (λj=>f i j*y j) w)%p:=by
   rw[<- jt,<- jA];refine zH λj O=>?_;rw[Ii,a j ⋯,<- Ii];have:aug w f b i j=f i j:=by simp[aug,O]
   rw[this,OE,Lx]
  have k:v w%p=(z w+c*b i)%p:=by
   rw[a w ⋯];have:aug w f b i w=b i:=by simp[aug]
   rw[this]
  have l:(c*zg (λj=>f i j*y j) w)%p=(c*b i)%p:=by rw[Ii,U i o,<- Ii]
  rw[Mh,d,k,<- Mh];have m:(z w+c*b i - (zg (λj=>z j*y j) w+c*zg (λj=>f i j*y j) w))=(z w - zg (λj=>z j*y j) w)+(c*b i - c*zg (λj=>f i j*y j) w):=by omega
  rw[m,Lh,r,Mh,l];simp
theorem hV(Y:Pr p)(J:h<=90)(L:w<=90)(f:RK)(b y:Vc)(U : ∀i,i<h->0<=b i/\b i<p)(S : ∀i,i<h->zg (λj=>f i j*y j) w%p=b i) :
 ∃x:Vc,yW [.int p,ja h w f,.tup (zF h b)]=cq (.val<|.tup<|zF w x)/\(∀j,0<=x j/\x j<p)/\∀i,i<h->zg (λj=>f i j*x j) w%p=b i:=by
 have M:=Y.pos;obtain⟨r,B,l,s,O,d,T,t,N,m⟩:=JC Y J L f b;have u : ¬s<r:=λz=>by
  have Q:=O.lt s z;have R:=N s (Ic _) z;have F:l s=w:=by omega
  have P:=(d<|B s).mp (.gen ⟨s,z,rfl⟩);have q:=hU (y:=y) (λi a=>by rw[S i a,LF (U i a).1 (U i a).2]) P;have o:=O.one s z;rw[F]at o;have H:zg (λj=>B s j*y j) w=0:=by rw[zx (g:=λ_=>0) λj K=>by rw[O.n0 s j z ⋯];simp];exact zO _
  rw[o,H,Int.sub_zero,Y.one]at q;omega
 rw[EQ u]at m;have G:s=r:=by omega
 subst G;refine⟨_,m,λj=>?_,λi a=>?_⟩
 ·by_cases e : ∃k,k<s/\l k=j
  ·obtain⟨k,I,rfl⟩:=e
   rw[Bs O I];exact O.m8 k w I ⋯
  ·rw[sC λk I E=>e ⟨k,I,E⟩];exact⟨Int.le_refl _,M⟩
 ·have n:=wO O ((d<|aug w f b i).mpr (.gen ⟨i,a,rfl⟩)) w ⋯
  have A:aug w f b i w=b i:=by simp[aug]
  rw[A,LF (U i a).1 (U i a).2]at n;rw[n];congr 1;unfold Vz;rw[zx (g:=λj=>zg (λk=>f i j*(if l k=j then B k w else 0)) s) λj _=>(jt _ _ _).symm,qJ];refine zx λk I=>?_;rw[zK (i:=l k) (t k I) λj K C=>by rw[EQ (IT C)];simp,RY rfl];simp only[aug,RY (t k I)]
noncomputable def kj(wd:RZ)(b:fA):List D:=(HU b.n).map λi=>D.tup<|zF (wd<|b.s+i)<|b.v<|b.s+i
def qf(wd:RZ)(b:fA):D:= .tup [.int b.s,.tup (kj wd b)]
@[simp] theorem aK(wd b):(kj wd b).length=b.n:=by simp[kj]
theorem Wq(h:i<b.n):(kj wd b)[i]? = cq (.tup<|zF (wd<|b.s+i)<|b.v<|b.s+i):=by simp[kj,h]
@[simp] theorem EV(wd b):jX (qf wd b)=cq (.T,[.int b.s,.tup (kj wd b)]):=rfl
section
variable{wd:RZ}{b:fA}{n6:List fA}
theorem J0(C:1<=b.n)(I:b.s+b.n<=100):jW [qf wd b]=cq (.val<|.tup [.int b.s,.int ((b.s+b.n - 1:Nat):Int)]):=by
 have e:((b.s:Int)+(b.n:Int) - 1)=((b.s+b.n - 1:Nat):Int):=by omega
 simp[jW,jG,jm,qf,HZ];omega
theorem k7(C:b.s+b.n<=100)(r:Nat):jU [qf wd b,.int r]=cq (.val<|.bl<|b.has r):=by
 by_cases h:b.s<=r
 ·by_cases a:r<b.s+b.n
  ·have:(r:Int)<(b.s:Int)+b.n:=by omega
   simp[jU,jG,jm,qf,HZ,fA.has,h,a,this]
  ·have : ¬((r:Int)<(b.s:Int)+b.n):=by omega
   simp[jU,jG,jm,qf,HZ,fA.has,h,a,this]
 ·simp[jU,jG,jm,qf,HZ,fA.has,h]
theorem vj{N:Nat}{A:Nat->fA}(z : ∀j,j<N->(A j).s+(A j).n<=100)(I:N<=lim)(r:Nat) :
 qM [.lst ((HU N).map λj=>qf wd<|A j),.int r]=cq (.own<|((HU N).filter λj=>(A j).has r).map λj=>D.tup<|zF (wd r)<|(A j).v r):=by
 simp only[qM,jG,jm,Vx,qI,xi,j9,IQ,OI,IS,Lj,HZ,Np,OD,MM,Ih,vn,jX,Iv,Ia,IE,Ls,I,if_true];rw[jr (λj=>(A j).has r) (λj=>D.tup<|zF (wd r)<|(A j).v r) (HU N) λj O=>⟨_,rfl,?_,λU=>?_⟩]
 ·rfl
 ·have e:=k7 (wd:=wd) (z j<|HW.mp O) r
  simp[z6,e]
 ·obtain⟨d,g⟩:=l6.mp U
  obtain⟨i,rfl⟩:=Nat.exists_eq_add_of_le d;have a:i<(A j).n:=by omega
  have f:(((A j).s+i:Nat):Int) - ((A j).s:Int)=(i:Int):=by omega
  have b:=Wq (wd:=wd) a;have I:=jI;have Y:=z j<|HW.mp O;simp[z6,qf,a,b];rw[show((A j).s:Int)+(i:Int) - ((A j).s:Int)=(i:Int)by omega,xA,RY a];exact b
theorem wy(g:Nat->Vc)(z:q<=lim)(I:h<=lim):xY [.int h,.lst (zW q h g)]=cq (.val<|ja h q λi j=>g j i):=by have e:=vU (h:=q) (w:=h) g z I;unfold ja at e;simp[xY,jG,jm,HZ,z,e];rfl
theorem Wp(h:Nat)(u:Nat->Vc)(L:List Nat):(L.map λj=>D.tup<|zF h<|u j)=zW L.length h λi=>u (L.getD i 0):=by
 unfold zW
 conv=>lhs;rw[<- jd 0 L]
 rw[Lb];rfl
theorem lD(u:Nat->Int)(L:List Nat):(L.map λj=>D.int<|u j)=zF L.length λi=>u (L.getD i 0):=by
 unfold zF
 conv=>lhs;rw[<- jd 0 L]
 rw[Lb];rfl
theorem yM(P:RX)(g:Nat->Int) : ∀N,zg (λi=>g<|((HU N).filter P).getD i 0) ((HU N).filter P).length=zg (λj=>if P j=di then g j else 0) N
 | 0=>rfl
 | N+1=>by
  have z:=yM P g N;rw[Mf,Oc];show _=zg _ N+_;rw[<- z];cases hP:P N with
  | false=>simp[hP]
  | true=>
   have e:([N].filter P)=[N]:=by simp[hP]
   rw[e,LG,MO];show zg _ _+_=_;simp only[if_true];congr 1
   ·refine zx λi a=>?_
    simp[HY,Lz a]
   ·simp[HY,hP]
end
section
variable{wd:RZ}{N m:Nat}{A:Nat->fA}{p:Int}{w:RX}{T:RV}{t:Vc}
theorem gN:X4 (zF N t) ((HU N).map λj=>qf wd<|A j)=(HU N).map λj=>D.tup [.int (t j),qf wd (A j)]:=by
 unfold X4 zF;rw[List.zip_map,Lb];have e:(HU N).zip (HU N)=(HU N).map λi=>(i,i):=by rw[List.zip_eq_zipWith,List.zipWith_self]
 rw[e,Lb];rfl
theorem Xw(U:Pr p)(Y : ∀j,j<N->(A j).s+(A j).n<=100)(S:N<=60)(Z:m<=5)(C : ∀k,wd k<=60)(hr:r<=m)(J : ∀j i,j<N->(A j).has r=di->i<wd r->0<=(A j).v r i/\(A j).v r i<p) :
 km [qh p m w wd T,.lst<|(HU N).map λj=>qf wd<|A j,.tup<|zF N t,.int r]=cq (.val<|.tup<|zF (wd r)<|p5 p A N t r):=by
 have E:=jI;have G:=U.le;have B:=C r;have a:=vj (wd:=wd) Y (show N<=lim by omega) r;rw[Wp (wd r) (λj=>(A j).v r)]at a;have F:((HU N).filter λj=>(A j).has r).length<=N:=by have:=NJ (λj=>(A j).has r)<|HU N;simpa using this
 have g:=wy (q:=((HU N).filter λj=>(A j).has r).length) (h:=wd r) (λi=>(A<|((HU N).filter λj=>(A j).has r).getD i 0).v r) ⋯ ⋯;have I:=WU (p:=p) (h:=wd r) (w:=((HU N).filter λj=>(A j).has r).length) .L (λi j=>(A<|((HU N).filter λj=>(A j).has r).getD j 0).v r i) (λi=>t<|((HU N).filter λj=>(A j).has r).getD i 0) U.pos ⋯ ⋯ (λi j y O=>by
  have b:((HU N).filter λj=>(A j).has r).getD j 0∈(HU N).filter λj=>(A j).has r:=by rw[HY,HX O];exact Mr _
  obtain⟨u,x⟩:=IL.mp b;have:=J _ i (HW.mp u) (by simpa using x) y;omega)
 have l:(zF (wd r) λi=>zg (λj=>(A<|((HU N).filter λj=>(A j).has r).getD j 0).v r i*t (((HU N).filter λj=>(A j).has r).getD j 0)) ((HU N).filter λj=>(A j).has r).length%p)=zF (wd r) (p5 p A N t r):=xJ λi _=>by unfold p5;rw[yM (λj=>(A j).has r) (λj=>(A j).v r i*t j) N];congr 1;refine zx λj _=>?_;rw[Ln]
 rw[l]at I;have o:zN (.tp [0,1]) (sB<|zI jU<|zc (ze 1)<|zc (ze 2) zJ) (ze 0) [.no,.no,.val (.int r)] ((HU N).map λj=>D.tup [.int (t j),qf wd (A j)])=cq (zF ((HU N).filter λj=>(A j).has r).length λi=>t<|((HU N).filter λj=>(A j).has r).getD i 0):=by rw[<- lD];refine jr (λj=>(A j).has r) (λj=>D.int<|t j) _ λj O=>⟨_,rfl,?_,λ_=>rfl⟩;have e:=k7 (wd:=wd) (Y j<|HW.mp O) r;simp[e]
 have d:r<m+1:=by omega
 have z:=gN (N:=N) (wd:=wd) (t:=t) (A:=A);simp only[t4]at I;have f:N<=lim:=by omega
 refine jF<|zo (γ':=[.val (qh p m w wd T),.val<|.lst<|(HU N).map λj=>qf wd<|A j,.val<|.tup<|zF N t,.val<|.int r,.val (.lst<|zF ((HU N).filter λj=>(A j).has r).length λi=>t<|((HU N).filter λj=>(A j).has r).getD i 0)]) ?_ ?_
 ·simp[-HY,jm,z6,HZ,z,o,f]
 ·simp[-HY,qh,a,g,I,d]
theorem lA(U:Pr p)(I : ∀j,j<N->(A j).s+(A j).n<=m+1)(Y:N<=60)(L:m<=5)(J : ∀k,wd k<=60)(S : ∀j r i,j<N->(A j).has r=di->i<wd r->0<=(A j).v r i/\(A j).v r i<p)(C:a<N)(Z : ∀i,i<a->t i=0)(t1:t a≠0) :
 X0 [qh p m w wd T,.lst<|(HU N).map λj=>qf wd<|A j,.tup (zF N t)]=cq (.val<|qf wd<|E3 p A N t a):=by
 have E:=jI;have f:N<=lim:=by omega
 have h:=yK f t C Z t1;have B:=I a C;have l:zN (.nm 0) jg (zI km<|zc (ze 1)<|zc (ze 2)<|zc (ze 3)<|zc (zC qr (ed (zk 4)<|zA<|.int 0)<|ze 0) zJ) [.no,.val<|qh p m w wd T,.val<|.lst<|(HU N).map λj=>qf wd<|A j,.val<|.tup<|zF N t,.val (qf wd<|A a)] ((HU (A a).n).map λ(i:Nat)=>D.int i)=cq (kj wd<|E3 p A N t a):=by
  unfold kj;refine zu _ _ λi b=>zw rfl rfl ?_;have b:=HW.mp b;have e:=Xw (T:=T) (w:=w) (t:=t) U (λj z=>by have:=I j z;omega) Y L J (r:=(A a).s+i) (by have:i<(A a).n:=b;omega) λj c z x u=>S j _ c z x u;have o:(((A a).s+i:Nat):Int)=((A a).s:Int)+(i:Int):=by omega
  rw[o]at e;have F:inR (((A a).s:Int)+(i:Int))=di:=decide_eq_true (by have:i<(A a).n:=b;omega);simp[e];rfl
 have d:(A a).n<=lim:=by omega
 have y:inR ((A a).n:Int)=di:=decide_eq_true ⋯;refine jF<|zo (γ':=[.val (qh p m w wd T),.val<|.lst<|(HU N).map λj=>qf wd<|A j,.val<|.tup<|zF N t,.val<|qf wd<|A a,.no]) ?_ (zo (γ':=[.val (qh p m w wd T),.val<|.lst<|(HU N).map λj=>qf wd<|A j,.val<|.tup<|zF N t,.val<|qf wd<|A a,.val (.lst<|kj wd<|E3 p A N t a)]) ?_ ?_)
 ·simp[jm,HZ,h,C]
 ·have O:=l
  rw[show((HU (A a).n).map λ(i:Nat)=>D.int i)=zF (A a).n λi=>(i:Int)from rfl]at O;simp[z6,jS,y,d,O]
 ·have g:(E3 p A N t a).n<=lim:=d
  simp[aK,g];rfl
end
def b1:=(lp (jP<|sB<|zI QW<|zc (ze 1) zJ) VZ ql)
def b2:=(jB 3<|zC qr (ag<|ze 1)<|zA<|.int 1)
noncomputable def b3:=(lp (jP<|sB<|oT<|jv<|zL (zP<|zk 2) (.nm 0) 1 [3] jg (zI wJ<|zc (ze 1)<|zc (ze 0) zJ)) VZ ql)
def b4:=(jB 4<|jZ<|Kw<|zk 2)
noncomputable def b5:=(jB 5<|jZ<|zL (jh<|ze 3) (.nm 0) 1 [4] jg (jZ<|jC vX<|zc (ze 1)<|zc (ze 0) zJ))
noncomputable def b6:=(jB 6<|zQ<|jv<|zL (zP<|zk 5) (.nm 0) 1 [] jg (ye<|zk 0))
noncomputable def x1:CO Xn:=(Sh (jP (sB (zI QW (zc (ze 1) zJ)))) (Cv "NoRow") Si)
noncomputable def x3:CO Xn:=(Sh (jP (sB (oT (jv (zL (zP (zk 2)) (.nm 0) 1 [3] jg (zI wJ (zc (ze 1) (zc (ze 0) zJ)))))))) (Cv "NoRow") Si)
noncomputable def x7:CO Xn:=(Sh (sB (zC DQ (oQ (zk 6)) (zA (.int 30)))) (Cv "TooMany") Si)
theorem ff(m:Nat)(w:RX):qu (ke<|X5 m w)=(HU m).map λ(k:Nat)=>D.tup [.int k,.str (xT<|i4<|w k)]:=by
 have e:ke (X5 m w)=(HU m).map λk=>D.str (xT<|i4<|w k):=by unfold ke;rw[JW,Lb];rfl
 unfold qu;rw[e];simp only[IE,Ls];refine Iu λk z=>?_;simp[HW.mp z]
noncomputable def BA(n:Int)(b:Int×Int):Bool:=decide<|0<=b.1/\b.1<n/\0<=b.2/\b.2<n/\b.1<=b.2
noncomputable def um(m:Nat)(bs:List (Int×Int)):List D:=(HU<|m+1).map λ(r:Nat)=>D.lst<|nv<|jH bs r
noncomputable def qx(m:Nat)(bs:List (Int×Int)):List D:=zF (m+1) λr=>((jH bs r).length:Int)
noncomputable def vo(m:Nat)(w:RX)(bs:List (Int×Int)):List D:=(HU m).map λk=>D.tup [.str (xT<|i4<|w k),om (jH bs<|z9 w k) (jH bs<|zR w k)]
noncomputable def BR(p:Int)(m:Nat)(w:RX)(bs:List (Int×Int)):D:= .tup [.int p,.tup<|qx m bs,.tup (vo m w bs)]
section
variable{p:Int}{m:Nat}{w:RX}{bs:List (Int×Int)}
abbrev g0(p:Int)(z:Str)(bs:List (Int×Int)):Ctx:=[.val (.int p),.val (.str z),.val (.lst (zV bs)),.no,.no,.no,.no,.no]
abbrev g2(p:Int)(z:Str)(m:Nat)(bs:List (Int×Int)):Ctx:=[.val (.int p),.val (.str z),.val (.lst (zV bs)),.val (.int ((m+1:Nat):Int)),.no,.no,.no,.no]
abbrev g6(p:Int)(z:Str)(m:Nat)(bs:List (Int×Int)):Ctx:=[.val (.int p),.val (.str z),.val (.lst (zV bs)),.val (.int ((m+1:Nat):Int)),.val (.lst (zV (xl bs))),.val (.lst (um m (xl bs))),.val (.tup (qx m (xl bs))),.no]
theorem YD:(qx m bs).length=m+1:=by simp[qx]
end
theorem Ja:qV=jG 10 (zM (jB 3<|jZ<|zL (jh<|zC qr (ag<|ze 1)<|zA<|.int 1) (.nm 0) 1 [2] jg (ye<|jv<|jC je<|zc (ze 1)<|zc (ze 0) zJ))<|zM (vg 4<|kC zJ)<|zM (wZ (V0<|ze 1) (.tp [5,6]) aJ)<|qA<|xx<|zc (ze 0)<|zc (zQ<|zk 3)<|zc (zQ<|zk 4) zJ):=rfl
section
variable{p:Int}{m:Nat}{w:RX}{bs:List (Int×Int)}
theorem fY(w:RX)(k:Nat):((k:Int)+if w k=di then 1 else 0)=((zR w k:Nat):Int):=by unfold zR;split<;>omega
theorem fv(w:RX)(k:Nat):((k:Int)+if (!w k)=di then 1 else 0)=((z9 w k:Nat):Int):=by unfold z9;cases w k<;>simp
theorem rD{b:List Nat}(x:Nat):zN (.nm 0) jg (xC<|zC g8 (ze 1)<|ze 0) [Cell.no,Cell.val (.int x)] (nv b)=cq (b.map λy=>D.int<|if x=y then 1 else 0):=by
 unfold nv;refine zu _ _ λy z=>zw rfl rfl ?_;by_cases h:x=y
 ·simp[h]
 ·have a : ¬((x:Int)=(y:Int)):=by omega
  simp[h,a]
abbrev lc(p:Int)(m:Nat)(w:RX)(bs:List (Int×Int))(acc:List D)(c5 c6 c7 c8 c9:Cell):Ctx:=[.val (.int p),.val (.str (X5 m w)),.val (.lst (zV bs)),.val (.lst (qx m bs)),.own acc,c5,c6,c7,c8,c9]
noncomputable def WR(w:RX)(bs:List (Int×Int))(k:Nat):D:=D.tup [.str (xT<|i4<|w k),om (jH bs<|z9 w k) (jH bs<|zR w k)]
theorem dO(hm:m<=5)(Z:bs.length<64){k:Nat}(z:k<m)(acc:List D)(S:acc.length<lim)(J L C:Cell) : ∃O U Y,aJ (lc p m w bs acc (.val<|.int k) (.val<|.str<|xT<|i4<|w k) J L C)=cq (.next<|lc p m w bs (acc++[WR w bs k]) (.val<|.int k) (.val<|.str<|xT<|i4<|w k) O U Y):=by
 have B:=jI;have I:bs.length<=lim:=by omega
 have d:=XH w z;have e:=Jr w z;have pl : ∀r:Int,(jH bs r).length<=lim:=λr=>by have:=KJ bs r;omega
 have j:=nI (w k);have l:=rS (w k);have f:=fY w k;have g:=fv w k;refine⟨.val (.int ((zR w k:Nat):Int)),.val (.int ((z9 w k:Nat):Int)),.val (.lst ((jH bs (z9 w k)).map λx=>D.tup ((jH bs (zR w k)).map λy=>D.int (if x=y then 1 else 0)))),?_⟩;have o:(jB 7 (zC qr (ze 5) (xC (zC g8 (ze 6) (zA (.str "l")))))) (lc p m w bs acc (.val (.int k)) (.val (.str (xT (i4 (w k))))) J L C)=cq (.next (lc p m w bs acc (.val (.int k)) (.val (.str (xT (i4 (w k))))) (.val (.int ((zR w k:Nat):Int))) L C)):=by rw[<- f];simp[lc,j]
 have s : ∀J,(jB 8 (zC qr (ze 5) (xC (zC g8 (ze 6) (zA (.str "r")))))) (lc p m w bs acc (.val (.int k)) (.val (.str (xT (i4 (w k))))) J L C)=cq (.next (lc p m w bs acc (.val (.int k)) (.val (.str (xT (i4 (w k))))) J (.val (.int ((z9 w k:Nat):Int))) C)):=λJ=>by rw[<- g];simp[lc,l]
 have a:zN (.nm 0) jg (zQ<|jv<|zL (zP<|jv<|jC je<|zc (ze 1)<|zc (ze 2) zJ) (.nm 0) 1 [0] jg (xC<|zC g8 (ze 1)<|ze 0)) [Cell.no,Cell.val<|.lst<|zV bs,Cell.val (.int ((zR w k:Nat):Int))] (nv<|jH bs<|z9 w k)=cq ((jH bs<|z9 w k).map λx=>D.tup<|(jH bs<|zR w k).map λy=>D.int<|if x=y then 1 else 0):=by rw[nv];refine zu _ _ λx E=>zw rfl rfl ?_;have:=rD (b:=jH bs<|zR w k) x;simp[vq,yL I,pl,z6,x9,HZ,this]
 have t:(jB 9<|jZ<|zL (zP<|jv<|jC je<|zc (ze 2)<|zc (ze 8) zJ) (.nm 0) 1 [2,7] jg (zQ<|jv<|zL (zP<|jv<|jC je<|zc (ze 1)<|zc (ze 2) zJ) (.nm 0) 1 [0] jg (xC<|zC g8 (ze 1)<|ze 0))) (lc p m w bs acc (.val<|.int k) (.val<|.str<|xT<|i4<|w k) (.val<|.int ((zR w k:Nat):Int)) (.val<|.int ((z9 w k:Nat):Int)) C) =
  cq (.next<|lc p m w bs acc (.val<|.int k) (.val<|.str<|xT<|i4<|w k) (.val<|.int ((zR w k:Nat):Int)) (.val<|.int ((z9 w k:Nat):Int))<|.val<|.lst<|(jH bs<|z9 w k).map λx=>D.tup<|(jH bs<|zR w k).map λy=>D.int<|if x=y then 1 else 0):=by
  rw[Jw,Jy,qI,xi,yH,mI];simp only[lc,qe,xX,qD,Ih,Ij,zT,Ia,Iv,vq,yL I,iq,lu,pl,if_true];rw[show z6 1 [2,7] [Cell.val (D.int p),Cell.val<|D.str<|X5 m w,Cell.val<|D.lst<|zV bs,Cell.val<|D.lst<|qx m bs,Cell.own acc,Cell.val<|D.int (k:Int),Cell.val<|D.str<|xT<|i4<|w k,Cell.val<|D.int ((zR w k:Nat):Int),Cell.val<|D.int ((z9 w k:Nat):Int),C]=[Cell.no,Cell.val<|.lst<|zV bs,Cell.val (.int ((zR w k:Nat):Int))]from rfl];rw[vq]at a;rw[a];rfl
 have wl:(qx m bs).length=m+1:=YD;have h:l7 (m+1) ((z9 w k:Nat):Int)=cq (z9 w k):=by rw[xA,RY d]
 have i:l7 (m+1) ((zR w k:Nat):Int)=cq (zR w k):=by rw[xA,RY e]
 have u:(qx m bs)[z9 w k]? = cq (.int ((jH bs<|z9 w k).length:Int)):=XI (n:=m+1) (λr=>((jH bs r).length:Int)) d;have A:(qx m bs)[zR w k]? = cq (.int ((jH bs<|zR w k).length:Int)):=XI (n:=m+1) (λr=>((jH bs r).length:Int)) e;unfold aJ;rw[jo,o];show zM _ _ _=_;rw[jo,s];show zM _ _ _=_;rw[jo,t,Xi];simp only[vS,lc,wH,qe,xX,qD,wR,j9,q9,Ih,Ij,zT,zY,Vq,nN,Ia,Iv,qz,wl,h,i,u,A,IS,Lj,S,if_true];rfl
theorem ym(L:m<=5)(J:bs.length<64):qV [.int p,.str<|X5 m w,.lst (zV bs)]=cq (.val<|BR p m w bs):=by
 have Q:=jI;have n:bs.length<=lim:=by omega
 have z:m+1<=lim:=by omega
 have I:=WV w (show m<=1000 by omega);have M:zN (.nm 0) jg (ye<|jv<|jC je<|zc (ze 1)<|zc (ze 0) zJ) [Cell.no,Cell.val (.lst<|zV bs)] (zF (m+1) λi=>(i:Int))=cq (qx m bs):=by unfold qx;rw[zX,zX];refine zu _ _ λr R=>zw rfl rfl ?_;simp[vq,yL n]
 have G:(jB 3<|jZ<|zL (jh<|zC qr (ag<|ze 1)<|zA<|.int 1) (.nm 0) 1 [2] jg (ye<|jv<|jC je<|zc (ze 1)<|zc (ze 0) zJ)) (jm 10 [.int p,.str<|X5 m w,.lst (zV bs)])=cq (.next [.val (.int p),.val<|.str<|X5 m w,.val<|.lst<|zV bs,.val<|.lst<|qx m bs,.no,.no,.no,.no,.no,.no]):=by rw[Jw,Jy,qI,yI,show jm 10 [D.int p,.str<|X5 m w,.lst (zV bs)]=[.val (.int p),.val<|.str<|X5 m w,.val<|.lst<|zV bs,.no,.no,.no,.no,.no,.no,.no]from rfl];simp only[vd,sy,qD,yk,Ih,Ij,zT,Ia,I,if_true,VE,mi,qz];rw[show((m:Int)+1)=((m+1:Nat):Int)by omega];simp only[eO z,if_true,Me,Ia,jS,WH,z];rw[show z6 1 [2] [Cell.val (D.int p),Cell.val<|D.str<|X5 m w,Cell.val<|D.lst<|zV bs,Cell.no,Cell.no,Cell.no,Cell.no,Cell.no,Cell.no,Cell.no]=[Cell.no,Cell.val (.lst<|zV bs)]from rfl,M];rfl
 have j : ∀(k s:Nat) (f g a b d:Cell),s+k=m->∃o t u x y,qH (.tp [5,6]) aJ ((NB s k).map λ(k:Nat)=>D.tup [.int k,.str (xT<|i4<|w k)]) (lc p m w bs ((HU s).map (WR w bs)) f g a b d)=cq (.next<|lc p m w bs ((HU m).map (WR w bs)) o t u x y):=by
  intro k
  induction k with
  | zero=>
   intro s f g a b d h;obtain rfl:s=m:=by omega
   exact⟨f,g,a,b,d,rfl⟩
  | succ k K=>
   intro s f g a b d h;obtain⟨O,U,Y,e⟩:=dO (p:=p) (w:=w) L J (show s<m by omega) ((HU s).map (WR w bs)) (by simp;omega) a b d;obtain⟨A,B,C,E,F,l⟩:=K (s+1) (.val<|.int s) (.val<|.str<|xT<|i4<|w s) O U Y ⋯;refine⟨A,B,C,E,F,?_⟩;rw[MD,IQ,jE];show((aJ<|lc p m w bs _ (.val<|.int s) (.val<|.str<|xT<|i4<|w s) a b d).bind _)=_;rw[e];rw[Mf,LD,Pj]at l;exact l
 obtain⟨N,P,O,U,Y,e⟩:=j m 0 .no .no .no .no .no ⋯;rw[<- Mj]at e;have H:jM (X5 m w)=di:=I;rw[Ja];unfold jG;rw[jo,G];show(zM _ _ _).bind _=_;rw[jo];show(zM _ _<|lc p m w bs [] .no .no .no .no .no).bind _=_;rw[jo,Yz,mG];simp only[lc,qD,Ih,Ij,zT,Ia,H,if_true,ff];simp only[lc,List.range_zero,OI]at e;rw[e];simp[BR];rfl
end
section
variable{p:Int}{m:Nat}{w:RX}{bs:List (Int×Int)}
noncomputable def sJ(b:List Nat)(x:Nat):D:=D.tup<|b.map λy=>D.int<|if x=y then 1 else 0
theorem VP(e b:List Nat):om e b = .tup [.int e.length,.int b.length,.tup (e.map<|sJ b)]:=rfl
theorem fG(b x):deep (sJ b x)<=1:=by
 have:o4 (b.map λy=>D.int<|if x=y then 1 else 0)<=0:=xh λd a=>by obtain⟨y,_,rfl⟩:=IB.mp a;simp[deep]
 unfold sJ;simp only[deep];omega
theorem fF(e b):deep (om e b)<=3:=by
 have:o4 (e.map<|sJ b)<=1:=xh λd a=>by obtain⟨y,_,rfl⟩:=IB.mp a;exact fG b y
 rw[VP];simp only[deep,o4];omega
theorem lg(b x):h9 (sJ b x)=di:=by
 unfold sJ;simp only[h9];exact kZ λd a=>by obtain⟨y,_,rfl⟩:=IB.mp a;simp[h9]
theorem iZ(e b):h9 (om e b)=di:=by
 rw[VP];simp only[h9,qs,NQ,Oy];exact kZ λd a=>by obtain⟨y,_,rfl⟩:=IB.mp a;exact lg b y
theorem An:l9 (BR p m w bs)=di:=by
 refine KS (n:=6) ?_ ⋯ ?_
 ·have b:o4 (qx m bs)<=0:=xh λd a=>by
   unfold qx zF at a;obtain⟨y,_,rfl⟩:=IB.mp a;simp[deep]
  have e:o4 (vo m w bs)<=4:=xh λd a=>by unfold vo at a;obtain⟨k,_,rfl⟩:=IB.mp a;have:=fF (jH bs<|z9 w k)<|jH bs<|zR w k;simp only[deep,o4];omega
  unfold BR;simp only[deep,o4];omega
 ·have b:qs (qx m bs)=di:=kZ λd a=>by
   unfold qx zF at a;obtain⟨y,_,rfl⟩:=IB.mp a;simp[h9]
  have e:qs (vo m w bs)=di:=kZ λd a=>by unfold vo at a;obtain⟨k,_,rfl⟩:=IB.mp a;have O:=iZ (jH bs<|z9 w k)<|jH bs<|zR w k;have z:=dA<|w k;simp only[l9,Ir]at z;simp only[h9,qs,Oy,Ir];have I:=z.2;simp only[h9]at I;exact⟨I,O⟩
  unfold BR;simp[h9,qs,b,e]
end
end DL
namespace DL
open PySem L2 PySem.W PyProof.Rows
def mr(x y:Int×Int):Prop:=va y x=d7
theorem vH(x):mr x x:=by unfold mr va;simp
theorem Xy:mr x y↔x.1<y.1\/(x.1=y.1/\x.2<=y.2):=by
 unfold mr va;by_cases h:y.1=x.1
 ·rw[RY h,decide_eq_false_iff_not];omega
 ·rw[EQ h,decide_eq_false_iff_not];omega
theorem dM:va x y=di↔x.1<y.1\/(x.1=y.1/\x.2<y.2):=by
 unfold va;by_cases h:x.1=y.1
 ·rw[RY h,decide_eq_true_iff];omega
 ·rw[EQ h,decide_eq_true_iff];omega
theorem vG(a:mr x y)(b:mr y z):mr x z:=by rw[Xy]at *;omega
theorem vI(a:va x y=di):mr x y:=by rw[dM]at a;rw[Xy];omega
theorem Au(a:va x y=di)(b:mr y z):va x z=di:=by rw[dM]at *;rw[Xy]at b;omega
theorem Xz(a:mr x y)(b:mr y x):x=y:=by rw[Xy]at *;obtain⟨x1,z⟩:=x;obtain⟨I,O⟩:=y;simp only[Prod.mk.injEq]at *;omega
section
variable(key:Nat->Int×Int)
def vA(p:Array Nat)(i:Nat):Int×Int:=key<|p.getD i 0
def l5(i j:Nat):Bool:=va (key i)<|key j
noncomputable def uh(p:Array Nat)(n:Nat):Prop:=∀i j,i<=j->j<n->mr (vA key p i) (vA key p j)
noncomputable def Dec(p:Array Nat)(n:Nat):Prop:=∀i j,i<=j->j<n->mr (vA key p j) (vA key p i)
variable{key}
theorem kD(f:α->KasT β) : ∀t:KasT α,xD lt (t.bind f)=xD lt (f<|xD lt t)
 | .ret a=>rfl
 | .ask i j k=>kD f<|k<|lt i j
theorem kP(p:Array Nat)(i j):(kas_rev p i j).size=p.size:=mirror_size _ _ _ _
theorem Cy(p:Array Nat)(i:Nat):vA key p i=key (p[i]?.getD 0):=by unfold vA;rw[MK]
theorem bw(z:j<=p.size)(k:Nat):vA key (kas_rev p i j) k=if i<=k/\k<j then vA key p (i+j - 1 - k)else vA key p k:=by have:=getElem?_mirror_all (xs:=p) (i:=i) z k;unfold vA kas_rev;rw[MK,this];split<;>rw[MK]
theorem Zr(I:j<=p.size)(z : ∀k,i<=k->k<j->vA key p k=vA key p (j - 1))(k:Nat):vA key (kas_rev p i j) k=vA key p k:=by
 rw[bw I];split
 ·rename_i h
  rw[z _ ⋯ ⋯,z k h.1 h.2]
 ·rfl
theorem mO(z:k<p.size)(I:l<=k)(i:Nat):vA key (bubble p k<|k - l) i=if i=l then vA key p k else if l<i/\i<=k then vA key p (i - 1)else vA key p i:=by
 have:=getElem?_bubble (xs:=p) z (k - l) ⋯ i;rw[show k - (k - l)=l by omega]at this;simp only[Cy];rw[this];split
 ·rfl
 ·split<;>rfl
theorem hJ(C:1<=n)(z:uh key p n)(h:mr (vA key p<|n - 1) (vA key p n)):uh key p (n+1):=λi j I O=>by
 by_cases e:j=n
 ·subst e
  by_cases a:i=j
  ·subst a;exact vH _
  ·exact vG (z i (j - 1) ⋯ ⋯) h
 ·exact z i j I ⋯
theorem Zg(C:1<=n)(z:Dec key p n)(h:mr (vA key p n) (vA key p<|n - 1)):Dec key p (n+1):=λi j I O=>by
 by_cases e:j=n
 ·subst e
  by_cases a:i=j
  ·subst a;exact vH _
  ·exact vG h<|z i (j - 1) ⋯ ⋯
 ·exact z i j I ⋯
theorem fZ(p:Array Nat) : ∀(f n:Nat),1<=n->uh key p n->n<=xD (l5 key) (kas_asc p f n)/\xD (l5 key) (kas_asc p f n)<=n+f/\uh key p (xD (l5 key)<|kas_asc p f n)/\(xD (l5 key) (kas_asc p f n)=n+f\/va (vA key p<|xD (l5 key)<|kas_asc p f n) (vA key p<|xD (l5 key) (kas_asc p f n) - 1)=di)
 | 0,n,hn,hs=>⟨Ic _,Ic _,hs,.inl rfl⟩
 | f+1,n,hn,hs=>by
  have e:xD (l5 key) (kas_asc p (f+1) n)=xD (l5 key) (if va (vA key p n) (vA key p<|n - 1)=di then .ret n else kas_asc p f (n+1)):=rfl;rw[e];by_cases c:va (vA key p n) (vA key p<|n - 1)=di
  ·rw[RY c]
   exact⟨Ic _,by show n<=n+(f+1);omega,hs,.inr c⟩
  ·rw[EQ c]
   obtain⟨O,U,z,I⟩:=fZ p f (n+1) ⋯ (hJ hn hs<|by unfold mr;simpa using c);exact⟨by omega,by omega,z,I.imp (λh=>by omega) id⟩
noncomputable def L1(key:Nat->Int×Int)(p:Array Nat)(n q:Nat):Prop:=q+1<=n/\∀i,n - (q+1)<=i->i<n->vA key p i=vA key p (n - 1)
theorem Vr(p:Array Nat)(C:1<=n):L1 key p n 0:=⟨C,λi a b=>by rw[show i=n - 1 by omega]⟩
theorem XM : ∀(f:Nat) (p:Array Nat) (n q:Nat),Dec key p n->L1 key p n q->n+f<=p.size->
 ∃C n' z,xD (l5 key) (kas_desc f p n q)=(C,n',z)/\C.size=p.size/\n<=n'/\n'<=n+f/\Dec key C n'/\L1 key C n' z
 | 0,p,n,q,hd,hb,_=>⟨p,n,q,rfl,rfl,Ic _,Ic _,hd,hb⟩
 | f+1,p,n,q,hd,hb,hs=>by
  have g:1<=n:=by have:=hb.1;omega
  have e:xD (l5 key) (kas_desc (f+1) p n q)=xD (l5 key) (if va (vA key p n) (vA key p<|n - 1)=di then (if q>0 then kas_desc f (kas_rev p (n - (q+1)) n) (n+1) 0 else kas_desc f p (n+1) 0)
   else .ask (p.getD (n - 1) 0) (p.getD n 0) λd=>if d=di then .ret (p,n,q)else kas_desc f p (n+1) (q+1)):=rfl
  rw[e];by_cases c:va (vA key p n) (vA key p<|n - 1)=di
  ·rw[RY c]
   by_cases U:q>0
   ·rw[RY U]
    have Y:=Zr (key:=key) (p:=p) (i:=n - (q+1)) (j:=n) ⋯ hb.2;have m:Dec key (kas_rev p (n - (q+1)) n) (n+1):=λi j o u=>by rw[Y,Y];exact Zg g hd (vI c) i j o u
    obtain⟨C,n',z,a,b,h,k,I,O⟩:=XM f (kas_rev p (n - (q+1)) n) (n+1) 0 m (Vr _ ⋯) (by rw[kP];omega);exact⟨C,n',z,a,by rw[b,kP],by omega,by omega,I,O⟩
   ·rw[EQ U]
    obtain⟨C,n',z,a,b,h,k,I,O⟩:=XM f p (n+1) 0 (Zg g hd<|vI c) (Vr _ ⋯) ⋯;exact⟨C,n',z,a,b,by omega,by omega,I,O⟩
  ·rw[EQ c]
   have s:xD (l5 key) (.ask (p.getD (n - 1) 0) (p.getD n 0) λd=>if d=di then .ret (p,n,q)else kas_desc f p (n+1) (q+1))=xD (l5 key) (if va (vA key p<|n - 1) (vA key p n)=di then .ret (p,n,q)else kas_desc f p (n+1) (q+1)):=rfl;rw[s];by_cases d:va (vA key p<|n - 1) (vA key p n)=di
   ·rw[RY d]
    exact⟨p,n,q,rfl,rfl,Ic _,by omega,hd,hb⟩
   ·rw[EQ d]
    have w:mr (vA key p<|n - 1) (vA key p n):=by unfold mr;simpa using c
    have l:mr (vA key p n) (vA key p<|n - 1):=by unfold mr;simpa using d
    have eq:=Xz w l;have r:L1 key p (n+1) (q+1):=⟨by have:=hb.1;omega,λi x y=>by
     rw[Nat.add_sub_cancel];by_cases t:i=n
     ·rw[t]
     ·rw[hb.2 i ⋯ ⋯,eq]⟩
    obtain⟨C,n',z,a,b,h,k,I,O⟩:=XM f p (n+1) (q+1) (Zg g hd l) r ⋯;exact⟨C,n',z,a,b,by omega,by omega,I,O⟩
noncomputable def gD(key:Nat->Int×Int)(C nrem:Nat)(r:Nat×Array Nat):Prop:=1<=r.1/\r.1<=nrem/\r.2.size=C/\uh key r.2 r.1
theorem VO(J:1<=n)(O:n<=nrem)(U:nrem<=p.size)(C:Dec key p n):gD key p.size nrem (xD (l5 key)<|kas_tail3 n nrem p):=by
 have z:uh key (kas_rev p 0 n) n:=λi j Y d=>by rw[bw ⋯,bw ⋯,RY ⟨by omega,by omega⟩,RY ⟨by omega,by omega⟩];exact C _ _ ⋯ ⋯
 obtain⟨a,b,I,_⟩:=fZ (kas_rev p 0 n) (nrem - n) n J z;unfold kas_tail3;rw[kD];exact⟨by show 1<=xD _ _;omega,by show xD _ _<=nrem;omega,kP _ _ _,I⟩
theorem du(J:1<=n)(L:n<nrem)(S:nrem<=p.size)(O : ∀i,i<n->vA key p i=vA key p (n - 1))(C:va (vA key p n) (vA key p<|n - 1)=di):gD key p.size nrem (xD (l5 key)<|kas_descPart n nrem p):=by
 have h:Dec key p n:=λi j U I=>by rw[O i ⋯,O j I];exact vH _
 obtain⟨b,a,z,f,d,k,l,Y,g⟩:=XM (nrem - (n+1)) p (n+1) 0 (Zg J h<|vI C) (Vr _ ⋯) ⋯;unfold kas_descPart;rw[kD,f];show gD key p.size nrem (xD (l5 key)<|if z>0 then kas_tail3 a nrem (kas_rev b (a - (z+1)) a)else kas_tail3 a nrem b);split
 ·have e:=Zr (key:=key) (p:=b) (i:=a - (z+1)) (j:=a) ⋯ g.2
  have:=VO (p:=kas_rev b (a - (z+1)) a) (n:=a) (nrem:=nrem) ⋯ ⋯ (by rw[kP];omega) (λi j U I=>by rw[e,e];exact Y i j U I);rw[kP,d]at this;exact this
 ·have:=VO (p:=b) (n:=a) (nrem:=nrem) ⋯ ⋯ ⋯ Y
  rw[d]at this;exact this
theorem mw(J:1<=nrem)(C:nrem<=p.size):gD key p.size nrem (xD (l5 key)<|kas_count nrem p):=by
 have f:uh key p 1:=λi j m r=>by rw[show i=j by omega];exact vH _
 obtain⟨z,d,I,U⟩:=fZ p (nrem - 1) 1 (Ic _) f;unfold kas_count;rw[kD];generalize xD (l5 key) (kas_asc p (nrem - 1) 1)=n at z d I U;show gD key p.size nrem (xD (l5 key)<|if (n==nrem)=di then .ret (n,p)else if n>1 then .ask (p.getD 0 0) (p.getD (n - 1) 0) λc=>if c=di then .ret (n,p)else kas_descPart n nrem (kas_rev p 0 n)else kas_descPart n nrem p);split
 ·rename_i h
  have:=eq_of_beq h;exact⟨z,by show n<=nrem;omega,rfl,I⟩
 ·rename_i h
  have o:n≠nrem:=λe=>h (by rw[e];exact beq_self_eq_true _);have Y:va (vA key p n) (vA key p<|n - 1)=di:=U.resolve_left ⋯;split
  ·have e:xD (l5 key) (.ask (p.getD 0 0) (p.getD (n - 1) 0) λc=>if c=di then .ret (n,p)else kas_descPart n nrem (kas_rev p 0 n))=xD (l5 key) (if va (vA key p 0) (vA key p<|n - 1)=di then .ret (n,p)else kas_descPart n nrem (kas_rev p 0 n)):=rfl
   rw[e];split
   ·exact⟨z,by show n<=nrem;omega,rfl,I⟩
   ·rename_i c
    have l:mr (vA key p<|n - 1) (vA key p 0):=by unfold mr;simpa using c
    have b : ∀i,i<n->vA key p i=vA key p (n - 1):=λi a=>Xz (I i (n - 1) ⋯ ⋯)<|vG l<|I 0 i ⋯ a;have O:=Zr (key:=key) (p:=p) (i:=0) (j:=n) ⋯<|λk _ g=>b k g;have:=du (key:=key) (p:=kas_rev p 0 n) (n:=n) (nrem:=nrem) z ⋯ (by rw[kP];omega) (λi a=>by rw[O,O];exact b i a) (by rw[O,O];exact Y);rw[kP]at this;exact this
  ·exact du z ⋯ C (λi a=>by rw[show i=n - 1 by omega]) Y
theorem Xs(I:uh key p k) : ∀(f l r:Nat),l<=r->r<=k->r - l<=f->(∀i,i<l->mr (vA key p i) (vA key p k))->(∀i,r<=i->i<k->va (vA key p k) (vA key p i)=di)->
 xD (l5 key) (kas_place p k f l r)<=k/\(∀i,i<xD (l5 key) (kas_place p k f l r)->mr (vA key p i) (vA key p k))/\∀i,xD (l5 key) (kas_place p k f l r)<=i->i<k->va (vA key p k) (vA key p i)=di
 | 0,l,r,h1,h2,h3,h4,h5=>⟨by show l<=k;omega,h4,λi a z=>h5 i (by have:l<=i:=a;omega) z⟩
 | f+1,l,r,h1,h2,h3,h4,h5=>by
  have e:xD (l5 key) (kas_place p k (f+1) l r)=xD (l5 key) (if l>=r then .ret l else .ask (p.getD k 0) (p.getD ((l+r)/2) 0) λc=>if c=di then kas_place p k f l ((l+r)/2)else kas_place p k f ((l+r)/2+1) r):=rfl;rw[e];by_cases O:l>=r
  ·rw[RY O]
   exact⟨by show l<=k;omega,h4,λi a z=>h5 i (by have:l<=i:=a;omega) z⟩
  ·rw[EQ O]
   have U:xD (l5 key) (.ask (p.getD k 0) (p.getD ((l+r)/2) 0) λc=>if c=di then kas_place p k f l ((l+r)/2)else kas_place p k f ((l+r)/2+1) r)=xD (l5 key) (if va (vA key p k) (vA key p<|(l+r)/2)=di then kas_place p k f l ((l+r)/2)else kas_place p k f ((l+r)/2+1) r):=rfl;rw[U];by_cases c:va (vA key p k) (vA key p<|(l+r)/2)=di
   ·rw[RY c]
    exact Xs I f l ((l+r)/2) ⋯ ⋯ ⋯ h4 λi a z=>Au c<|I _ _ a z
   ·rw[EQ c]
    have b:mr (vA key p<|(l+r)/2) (vA key p k):=by unfold mr;simpa using c
    exact Xs I f ((l+r)/2+1) r ⋯ h2 ⋯ (λi a=>vG (I i ((l+r)/2) ⋯ ⋯) b) h5
theorem uJ(O:k<p.size)(U:l<=k)(I:uh key p k)(C : ∀i,i<l->mr (vA key p i) (vA key p k))(h2 : ∀i,l<=i->i<k->va (vA key p k) (vA key p i)=di):uh key (bubble p k<|k - l) (k+1):=λi j d e=>by
 rw[mO O U,mO O U];by_cases b:i=l
 ·subst b
  rw[RY rfl];by_cases z:j=i
  ·rw[RY z];exact vH _
  ·rw[EQ z,RY ⟨by omega,by omega⟩]
   exact vI<|h2 _ ⋯ ⋯
 ·rw[EQ b]
  by_cases Y:l<i/\i<=k
  ·rw[RY Y,EQ (show ¬j=l by omega),RY ⟨by omega,by omega⟩]
   exact I _ _ ⋯ ⋯
  ·rw[EQ Y]
   by_cases z:j=l
   ·rw[RY z];exact C i ⋯
   ·rw[EQ z]
    by_cases a:l<j/\j<=k
    ·rw[RY a];exact I _ _ ⋯ ⋯
    ·rw[EQ a];exact I _ _ d ⋯
theorem nM : ∀(f:Nat) (p:Array Nat) (k n:Nat),k+f=n->p.size=n->uh key p k->uh key (xD (l5 key)<|kas_bin f p k) n/\(xD (l5 key)<|kas_bin f p k).size=n
 | 0,p,k,n,h1,h2,hs=>by
  obtain rfl:k=n:=by omega
  exact⟨hs,h2⟩
 | f+1,p,k,n,h1,h2,hs=>by obtain⟨z,I,O⟩:=Xs hs k 0 k ⋯ (Ic _) ⋯ (λi a=>by omega) (λi U Y=>by omega);unfold kas_bin;rw[kD];exact nM f _ (k+1) n ⋯ (by rw[bubble_size];exact h2)<|uJ ⋯ z hs I O
theorem oC(C:1<=n):uh key (xD (l5 key)<|kas_sort n) n/\(xD (l5 key)<|kas_sort n).size=n:=by
 have a:(ML<|HU n).size=n:=by simp
 obtain⟨I,O,U,z⟩:=mw (key:=key) (p:=ML<|HU n) (nrem:=n) C ⋯;unfold kas_sort;rw[kD];generalize xD (l5 key) (kas_count n<|ML<|HU n)=r at I O U z;show uh key (xD (l5 key)<|if r.1<n then kas_bin (n - max r.1 1) r.2 (max r.1 1)else .ret r.2) n/\(xD (l5 key)<|if r.1<n then kas_bin (n - max r.1 1) r.2 (max r.1 1)else .ret r.2).size=n;rw[show max r.1 1=r.1 by omega];split
 ·exact nM (n - r.1) r.2 r.1 n ⋯ ⋯ z
 ·have:r.1=n:=by omega
  rw[this]at z;exact⟨z,by show r.2.size=n;omega⟩
end
theorem kc(bs:List (Int×Int)):(xl bs).Pairwise mr:=by
 unfold xl j4;by_cases h:bs.length<2
 ·rw[RY h]
  rcases bs with _ | ⟨a,_ | ⟨b,bs⟩⟩
  ·exact MU.nil
  ·exact List.pairwise_singleton _ _
  ·simp only[IS]at h;omega
 ·rw[EQ h]
  obtain⟨f,g⟩:=oC (key:=λi=>bs.getD i (0,0)) (n:=bs.length) ⋯;have e:(xD (λi j=>va (bs.getD i (0,0))<|bs.getD j (0,0))<|kas_sort bs.length)=xD (l5 λi=>bs.getD i (0,0)) (kas_sort bs.length):=rfl;rw[e];generalize xD (l5 λi=>bs.getD i (0,0)) (kas_sort bs.length)=p at f g;rw[Mu];intro i j d z I;simp only[IE,LN]at d z;have:=f i j ⋯ ⋯;unfold vA at this;simp only[MK,Array.getElem?_eq_getElem d,Array.getElem?_eq_getElem z,Nb]at this;simpa using this
theorem ve : ∀{a b:List (Int×Int)},a.Perm b->a.Pairwise mr->b.Pairwise mr->a=b
 | [],b,h,_,_=>by rw[h.nil_eq]
 | x::a,[],h,_,_=>by have:=h.length_eq;simp at this
 | x::a,y::b,h,ha,hb=>by
  have d:x∈y::b:=h.mem_iff.mp Iy;have z:y∈x::a:=h.mem_iff.mpr Iy;have e:x=y:=by
   rcases Il.mp d with e | e
   ·exact e
   ·rcases Il.mp z with e2 | e2
    ·exact e2.symm
    ·exact Xz (List.rel_of_pairwise_cons ha e2)<|List.rel_of_pairwise_cons hb e
  subst e;rw[ve (List.Perm.cons_inv h) ha.of_cons hb.of_cons]
theorem vf(h:a.Perm b):xl a=xl b:=
 ve ((xN a).trans (h.trans (xN b).symm)) (kc a) (kc b)
end DL
namespace DL
open PySem L2
section
variable{p:Int}{m:Nat}{w:RX}{bs:List (Int×Int)}
def eX(n:Int)(bs:List (Int×Int)):Bool:=bs.all<|BA n
def vy(bs:List (Int×Int)):Bool:=decide<|bs=xl bs
theorem QP(a b c d:Int):l0 (.tup [.int a,.int b]) (.tup [.int c,.int d])=(a==c && b==d):=by simp[l0,s8,SD]
theorem Yl : ∀a b:List (Int×Int),s8 (zV a) (zV b)=decide (a=b)
 | [],[]=>rfl
 | [],_::_=>rfl
 | _::_,[]=>rfl
 | (x1,x2)::a,(y1,y2)::b=>by have z:=Yl a b;show(l0 (.tup [.int x1,.int x2]) (.tup [.int y1,.int y2]) && s8 (zV a) (zV b))=_;rw[z,QP];by_cases d:x1=y1<;>by_cases e:x2=y2<;>by_cases I:a=b<;>simp[d,e,I]
end
section
variable{p:Int}{m:Nat}{w:RX}{wd:RZ}{f g T:RV}
theorem dJ{n:Nat}{a:Nat->Int}{x:Nat->Int}{i:Nat}(J:i<n)(C : ∀k,k<n->a k%p=ku i k%p):zg (λk=>a k*x k) n%p=x i%p:=by rw[zH (g:=λk=>ku i k*x k) λk z=>vi (C k z) rfl,zK J λk _ I=>by simp[ku,IT I]];simp[ku]
theorem dH{n:Nat}{a:Nat->Int}{x:Nat->Int}{i:Nat}(C:i<n)(ha : ∀k,k<n->a k%p=ku k i%p):zg (λk=>x k*a k) n%p=x i%p:=by rw[zH (g:=λk=>x k*ku k i) λk z=>vi rfl<|ha k z,zK C λk _ I=>by simp[ku,I]];simp[ku]
theorem bJ(I : ∀k,k<m+1->Pair p (wd k) (f k) (g k)){k i j:Nat}(O:k<m)(C:i<wd (z9 w k))(U:j<wd (zR w k))(Y:0<=T k i j/\T k i j<p):jN p w wd g f (jN p w wd f g T) k i j=T k i j:=by
 have n:=I _<|XH w O;have h:=I _<|Jr w O;have o : ∀a b,jN p w wd f g T k a b=zg (λc=>f (z9 w k) a c*(zg (λd=>T k c d*g (zR w k) d b) (wd<|zR w k)%p)) (wd<|z9 w k)%p:=λa b=>(YF k a b).symm;have r : ∀b,b<wd (zR w k)->zg (λa=>jN p w wd f g T k a b*g (z9 w k) i a) (wd<|z9 w k)%p=zg (λd=>T k i d*g (zR w k) d b) (wd<|zR w k)%p:=λb e=>by rw[zx (g:=λa=>g (z9 w k) i a*(zg (λc=>f (z9 w k) a c*(zg (λd=>T k c d*g (zR w k) d b) (wd<|zR w k)%p)) (wd<|z9 w k)%p)) λa _=>by rw[o,Ln]];rw[Zw p (g<|z9 w k) (f<|z9 w k) (λc b=>zg (λd=>T k c d*g (zR w k) d b) (wd<|zR w k)%p) (wd<|z9 w k) (wd<|z9 w k) i b];rw[dJ (i:=i) C λl z=>by rw[ID];exact n.gf i l C z];rw[ID]
 show zg (λb=>f (zR w k) b j*(zg (λa=>jN p w wd f g T k a b*g (z9 w k) i a) (wd<|z9 w k)%p)) (wd<|zR w k)%p=_;rw[zx (g:=λb=>(zg (λd=>T k i d*g (zR w k) d b) (wd<|zR w k)%p)*f (zR w k) b j) λb e=>by rw[r b e,Ln]];rw[<- Zw p (T k) (g<|zR w k) (f<|zR w k) (wd<|zR w k) (wd<|zR w k) i j];rw[dH (i:=j) U λl z=>by rw[ID];exact h.gf l j z U];exact LF Y.1 Y.2
end
theorem rz:jq=jG 6 (zM As<|zM Es<|zM Er BP):=rfl
theorem rA:jb=jG 5 (zM Eu<|zM sN<|zM Et FX):=rfl
theorem rk:qa=jG 11 (zM Ep<|zM Eo<|zM Em BN):=rfl
noncomputable def ltB:=(xy 4<|zQ<|jv<|zL (zP<|zk 3) (.nm 0) 1 [0,5] jg (zC xn (oQ<|jv<|zL (VW (ze 2)<|ze 0) (.tp [0,1]) 2 [] jg (zC kK (ze 0)<|ze 1))<|ze 1))
theorem YG(f g:RK)(C:0<p)(Z:h<=400)(hm:m<=400)(hw:w<=400)(J : ∀i j,i<m->j<w->0<=g i j/\g i j<100) :
 jq [.int p,ja h m f,ja m w g]=cq (.val<|ja h w λi j=>zg (λk=>f i k*g k j) m%p):=by
 have hl:=jI;have l1:h<=lim:=by omega
 have r:m<=lim:=by omega
 have t:w<=lim:=by omega
 have u:=YH h m f;have U:=YH m w g;have B:l7 3 0=cq 0:=rfl;have n:l7 3 1=cq 1:=rfl;have o:l7 3 2=cq 2:=rfl;have F : ∀j:Nat,j<w->zN (.nm 0) jg (ed (zk 0)<|ze 1) [Cell.no,Cell.val (.int (j:Int))] (zW m w g)=cq (zF m λk=>g k j):=λj I=>by
  rw[zX];unfold zW;refine zu _ _ λi X=>zw rfl rfl ?_;show ed _ _ [Cell.val (.tup<|zF w<|g i),Cell.val (.int (j:Int))]=_;have e:(zF w<|g i)[j]? = cq (.int<|g i j):=by unfold zF;simp[I]
  have A:(zF w<|g i).length=w:=by simp[zF]
  simp only[wR,j9,qD,Ih,Ij,zY,zT,j8,Ia,qz,A,xA,I,if_true,e]
 have G:zN (.nm 0) jg (jZ<|zL (zP<|z5<|ed (zk 1)<|zA<|.int 2) (.nm 0) 1 [0] jg (ed (zk 0)<|ze 1)) [Cell.no,Cell.val (ja m w g)] (zF w λi=>(i:Int))=cq (X6 w m λj k=>g k j):=by
  rw[zX w λi=>(i:Int)];unfold X6;refine zu _ _ λj I=>zw rfl rfl ?_;have I:=HW.mp I;have dl:(zW m w g).length<=lim:=by rw[wx];exact r
  show jZ _ [Cell.val (.int (j:Int)),Cell.val (ja m w g)]=_;simp only[Jy,qI,xi,Zp,wR,j9,yk,Ih,Ij,IS,Lj,Lw,LV,zY,Ia,Iv,U,qz,o,j8,dl,if_true];rw[show z6 1 [0] [Cell.val (.int (j:Int)),Cell.val (ja m w g)]=[Cell.no,Cell.val (.int (j:Int))]from rfl,F j I];rfl
 have M:As (jm 6 [.int p,ja h m f,ja m w g])=cq (.next [.val (.int p),.val<|ja h m f,.val<|ja m w g,.val<|.lst<|X6 w m λj k=>g k j,.no,.no]):=by
  have x:inR (w:Int)=di:=QN ⋯ ⋯;have dl:(zF w λi=>(i:Int)).length<=lim:=by simp[zF];exact t
  show As [.val (.int p),.val<|ja h m f,.val<|ja m w g,.no,.no,.no]=_;unfold As;simp only[Jw,Jy,qI,yI,wR,j9,yk,Ih,Ij,IS,Lj,Lw,LV,zY,Ia,Iv,U,qz,n,x,if_true,Me,jS,dl];rw[show z6 1 [2] [.val (.int p),.val<|ja h m f,.val<|ja m w g,.no,.no,.no]=[Cell.no,Cell.val (ja m w g)]from rfl,G];rfl
 have N:Es [.val (.int p),.val<|ja h m f,.val<|ja m w g,.val<|.lst<|X6 w m λj k=>g k j,.no,.no]=cq (.next [.val (.int p),.val<|ja h m f,.val<|ja m w g,.val<|.lst<|X6 w m λj k=>g k j,.own [],.no]):=rfl;have H : ∀i:Nat,zN (.nm 0) jg (zC xn (oQ<|jv<|zL (VW (ze 2)<|ze 0) (.tp [0,1]) 2 [] jg (zC kK (ze 0)<|ze 1))<|ze 1) [Cell.no,Cell.val<|.int p,Cell.val (.tup<|zF m<|f i)] (X6 w m λj k=>g k j)=cq (zF w λj=>zg (λk=>f i k*g k j) m%p):=λi=>by
  rw[zX w];unfold X6;refine zu _ _ λj I=>zw rfl rfl ?_;have I:=HW.mp I;have z:=wV m (f i) λk=>g k j;have K:zN (.tp [0,1]) jg (zC kK (ze 0)<|ze 1) [Cell.no,Cell.no] ((HU m).map λk=>D.tup [.int (f i k),.int (g k j)])=cq (zF m λk=>f i k*g k j):=by rw[zX m λk=>f i k*g k j];refine zu _ _ λk Y=>zw rfl rfl ?_;have Y:=HW.mp Y;have b:=J k j Y I;have c:XW (f i k) (g k j)=di:=WQ _ _ ⋯ ⋯;show zC _ _ _ [Cell.val (.int<|f i k),Cell.val (.int<|g k j)]=_;simp[c]
  have T:((HU m).map λk=>D.tup [.int (f i k),.int (g k j)]).length<=lim:=by simpa using r
  have S:=Zx (λk=>f i k*g k j) m;have W:Bd 0 p=di:=decide_eq_true C;show zC _ _ _ [Cell.val (.lst<|zF m λk=>g k j),Cell.val<|.int p,Cell.val (.tup<|zF m<|f i)]=_;simp only[vd,Bk,yH,qI,Bj,qD,Ih,Ij,zT,Ia,Iv,yG,j8,z,T,if_true];rw[show z6 2 [] [Cell.val (.lst<|zF m λk=>g k j),Cell.val<|.int p,Cell.val (.tup<|zF m<|f i)]=[Cell.no,Cell.no]from rfl,K];simp only[Iv,Ia,S];simp[C]
 obtain⟨d,q,⟨a,rfl⟩⟩ : ∃d,qH (.nm 5) ltB (zW h m f) [.val (.int p),.val<|ja h m f,.val<|ja m w g,.val<|.lst<|X6 w m λj k=>g k j,.own [],.no]=cq (.next d)/\∃a,d=[.val (.int p),.val<|ja h m f,.val<|ja m w g,.val<|.lst<|X6 w m λj k=>g k j,.own<|zW h w λi j=>zg (λk=>f i k*g k j) m%p,a]:=by
  have l : ∀(k s:Nat) (a:Cell),s+k=h->∃O,qH (.nm 5) ltB ((NB s k).map λi=>D.tup<|zF m<|f i) [.val (.int p),.val<|ja h m f,.val<|ja m w g,.val<|.lst<|X6 w m λj k=>g k j,.own<|zW s w λi j=>zg (λk=>f i k*g k j) m%p,a]=cq (.next [.val (.int p),.val<|ja h m f,.val<|ja m w g,.val<|.lst<|X6 w m λj k=>g k j,.own<|zW h w λi j=>zg (λk=>f i k*g k j) m%p,O]):=by
   intro k
   induction k with
   | zero=>
    intro s a e;obtain rfl:s=h:=by omega
    exact⟨a,rfl⟩
   | succ k E=>
    intro s a e;obtain⟨O,q⟩:=E (s+1) (.val<|.tup<|zF m<|f s) ⋯;refine⟨O,?_⟩;rw[<- q,MD,IQ,jE,Vk];have R:s<lim:=by omega
    have L:(X6 w m λj k=>g k j).length<=lim:=by rw[lE];exact t
    simp only[yV,Ia,ltB,vS,q9,yH,qI,xi,j9,LU,LS,Ih,Ij,q8,zY,yG,Iv,L,if_true];rw[show z6 1 [0,5] [Cell.val (.int p),Cell.val<|ja h m f,Cell.val<|ja m w g,Cell.val<|.lst<|X6 w m λj k=>g k j,Cell.own<|zW s w λi j=>zg (λk=>f i k*g k j) m%p,Cell.val (.tup<|zF m<|f s)]=[Cell.no,Cell.val<|.int p,Cell.val (.tup<|zF m<|f s)]from rfl,H s];simp only[Iv,Ia,wx,R,if_true]
  obtain⟨O,q⟩:=l h 0 .no ⋯;rw[<- Mj]at q;exact⟨_,q,O,rfl⟩
 have P:Er [.val (.int p),.val<|ja h m f,.val<|ja m w g,.val<|.lst<|X6 w m λj k=>g k j,.own [],.no]=cq (.next [.val (.int p),.val<|ja h m f,.val<|ja m w g,.val<|.lst<|X6 w m λj k=>g k j,.own<|zW h w λi j=>zg (λk=>f i k*g k j) m%p,a]):=by show wZ _ _ ltB _=_;rw[Yz];simp only[xi,Zp,wR,j9,yk,Ih,Ij,IS,Lj,Lw,LV,zY,Ia,Iv,u,qz,o,j8];exact q
 have Q:BP [.val (.int p),.val<|ja h m f,.val<|ja m w g,.val<|.lst<|X6 w m λj k=>g k j,.own<|zW h w λi j=>zg (λk=>f i k*g k j) m%p,a]=cq (.ret<|.val<|ja h w λi j=>zg (λk=>f i k*g k j) m%p):=by
  have y:3<=lim:=by omega
  unfold BP;simp only[Jx,wH,qe,xX,wR,j9,yk,q9,Ih,Ij,IS,Lj,Lw,LV,zY,Jq,Ia,Iv,u,U,qz,B,n,y,if_true];rfl
 rw[rz];exact jF<|zo M<|zo N<|zo P Q
noncomputable def T8(n:Nat)(ks:List Nat)(u:Nat->Int):Nat->Int:=ks.foldl (λu k=>mv n k u) u
noncomputable def SI(n:Nat)(ks:List Nat)(u:Nat->Int):Nat->Nat->Int
 | 0=>u
 | j+1=>T8 n ks<|SI n ks u j
noncomputable def acc(n:Nat)(ks:List Nat)(u:Nat->Int):Nat->Nat->Int
 | 0=>λ_=>0
 | j+1=>λi=>acc n ks u j i+SI n ks u j i
theorem tY{n:Nat}(C:n<=400):qU [.int n]=cq (.val<|ja n n λi j=>if i=j then 1 else 0):=by
 have U:=jI;have a:n<=lim:=by omega
 have z:inR (n:Int)=di:=QN ⋯ ⋯;have dl:(zF n λi=>(i:Int)).length<=lim:=by simp[zF];exact a
 have I : ∀i:Nat,zN (.nm 0) jg (xC<|zC g8 (ze 1)<|ze 0) [Cell.no,Cell.val (.int (i:Int))] (zF n λi=>(i:Int))=cq (zF n λj=>if i=j then 1 else 0):=λi=>by
  rw[zX n λi=>(i:Int),zX n λj=>if i=j then (1:Int)else 0];refine zu _ _ λj Y=>zw rfl rfl ?_;show xC _ [Cell.val (.int (j:Int)),Cell.val (.int (i:Int))]=_;by_cases h:i=j
  ·simp[h]
  ·have : ¬((i:Int)=(j:Int)):=by omega
   simp[h,this]
 have O:zN (.nm 0) jg (zQ<|jv<|zL (jh<|ze 1) (.nm 0) 1 [0] jg (xC<|zC g8 (ze 1)<|ze 0)) [Cell.no,Cell.val (.int (n:Int))] (zF n λi=>(i:Int))=cq (zW n n λi j=>if i=j then 1 else 0):=by have e:=I;rw[zX n λi=>(i:Int)];unfold zW;refine zu _ _ λi d=>zw rfl rfl ?_;show zQ _ [Cell.val (.int (i:Int)),Cell.val (.int (n:Int))]=_;simp only[q9,yH,qI,yI,qD,Ih,Ij,zT,Ia,qz,z,if_true,Me,jS,dl];rw[show z6 1 [0] [Cell.val (.int (i:Int)),Cell.val (.int (n:Int))]=[Cell.no,Cell.val (.int (i:Int))]from rfl,I i];rfl
 have b:3<=lim:=by omega
 refine jF ?_;show qA _ [Cell.val (.int (n:Int))]=_;simp only[Jx,wH,qe,xX,q9,yH,qI,yI,qD,Ih,IS,Lj,Lw,LV,zT,Ia,Iv,qz,z,if_true,Me,jS,dl];rw[show z6 1 [0] [Cell.val (.int (n:Int))]=[Cell.no,Cell.val (.int (n:Int))]from rfl,O];simp only[Iv,Ia,b,if_true];rfl
noncomputable def RD:=(zM (lp (yZ (jP<|sB<|p6 .tuple<|ze 4)<|sB<|zC i0 (ye<|zk 4)<|ze 3) (qA<|zA<|.bl d7) ql)<|lp (jP<|sB<|oT<|jv<|zL (zP<|zk 4) (.nm 0) 1 [0] jg (gF (zI js<|zc (ze 0) zJ)<|yu qq B5 (zA<|.int 0) (ze 0)<|ze 1)) (qA<|zA<|.bl d7) ql)
theorem rf(a b c d:Int):i0 (.tup [.int a,.int b]) (.tup [.int c,.int d])=cq (.bl<|!(a==c && b==d)):=by have o : ∀a b:Int,l9 (.tup [.int a,.int b])=di:=λa b=>rfl;unfold i0;rw[RY ⟨o a b,o c d⟩,QP]
theorem QH{p:Int}{h w:Nat}(f:RK)(S:h<=400)(Z:w<=400)(C : ∀i j,i<h->j<w->0<=f i j/\f i j<p)(a b:Nat) :
 jb [.int p,ja h w f,.int a,.int b]=cq (.val<|.bl<|decide<|h=a/\w=b):=by
 have M:=jI;have G:w<=lim:=by omega
 have x:=YH h w f;have u:Eu (jm 5 [.int p,ja h w f,.int a,.int b])=cq (.next [.val (.int p),.val<|ja h w f,.val<|.int a,.val<|.int b,.no]):=rfl;have m:cp (ze 1) af (u9<|zA<|.int 2) [.val (.int p),.val<|ja h w f,.val<|.int a,.val<|.int b,.no]=cq (.tup [.int (h:Int),.int (w:Int)]):=rfl;have o:l7 3 2=cq 2:=rfl;have r:2<=lim:=by omega
 have t:=rf (h:Int) (w:Int) (a:Int) (b:Int);rw[rA];by_cases O:h=a/\w=b
 ·obtain⟨rfl,rfl⟩:=O
  have l:sN [.val (.int p),.val<|ja h w f,.val<|.int h,.val<|.int w,.no]=cq (.next [.val (.int p),.val<|ja h w f,.val<|.int h,.val<|.int w,.no]):=by
   have U:i0 (.tup [.int (h:Int),.int (w:Int)]) (.tup [.int (h:Int),.int (w:Int)])=cq (.bl d7):=by rw[t];simp
   have H:i0 (.int (h:Int)) (.int (h:Int))=cq (.bl d7):=XO rfl;unfold sN;rw[JV,Yy,gL,vd,m];simp only[wH,qe,xX,qD,Yy,XX,gL,vd,Fn,gd,Zp,wR,j9,yk,Ih,Ij,IS,Lj,Lw,LV,zT,zY,Ia,Iv,r,if_true,U,QT,LZ,if_false,x,qz,o,j8,wx,H];rfl
  have step : ∀i:Nat,i<h->RD [.val (.int p),.val<|ja h w f,.val<|.int h,.val<|.int w,.val (.tup<|zF w<|f i)]=cq (.next [.val (.int p),.val<|ja h w f,.val<|.int h,.val<|.int w,.val (.tup<|zF w<|f i)]):=λi B=>by
   have d:zN (.nm 0) jg (gF (zI js<|zc (ze 0) zJ)<|yu qq B5 (zA<|.int 0) (ze 0)<|ze 1) [Cell.no,Cell.val (.int p)] (zF w<|f i)=cq ((HU w).map λ_=>D.bl di):=by rw[zX];refine zu _ _ λj E=>zw rfl rfl ?_;have q:=C i j B<|HW.mp E;show gF _ _ [Cell.val (.int<|f i j),Cell.val (.int p)]=_;simp[VB,q.1,q.2]
   have dl:(zF w<|f i).length=w:=by simp[zF]
   have J:i0 (.int (w:Int)) (.int (w:Int))=cq (.bl d7):=XO rfl;have ty:nz Ty.tuple (.tup<|zF w<|f i)=di:=rfl;have y:(lp (yZ (jP<|sB<|p6 .tuple<|ze 4)<|sB<|zC i0 (ye<|zk 4)<|ze 3) (qA<|zA<|.bl d7) ql) [.val (.int p),.val<|ja h w f,.val<|.int h,.val<|.int w,.val (.tup<|zF w<|f i)]=cq (.next [.val (.int p),.val<|ja h w f,.val<|.int h,.val<|.int w,.val (.tup<|zF w<|f i)]):=by simp[ty,j8,dl,J]
   refine zo y ?_;have A:(zF w<|f i).length<=lim:=by rw[dl];exact G
   simp only[JV,XX,gL,Br,yH,qI,xi,j9,Ih,Ij,zY,j8,Ia,Iv,A,if_true];rw[show z6 1 [0] [Cell.val (.int p),Cell.val<|ja h w f,Cell.val<|.int (h:Int),Cell.val<|.int (w:Int),Cell.val (.tup<|zF w<|f i)]=[Cell.no,Cell.val (.int p)]from rfl,d];simp[bK]
  have g : ∀(k s:Nat) (c:Cell),s+k=h->∃I,qH (.nm 4) RD ((NB s k).map λi=>D.tup<|zF w<|f i) [.val (.int p),.val<|ja h w f,.val<|.int h,.val<|.int w,c]=cq (.next [.val (.int p),.val<|ja h w f,.val<|.int h,.val<|.int w,I]):=by
   intro k
   induction k with
   | zero=>intro s c _;exact⟨c,rfl⟩
   | succ k F=>
    intro s c e;obtain⟨I,q⟩:=F (s+1) (.val<|.tup<|zF w<|f s) ⋯;refine⟨I,?_⟩;rw[MD,IQ,jE];simp only[yV,Ia,LU,LS,step s ⋯];exact q
  obtain⟨I,q⟩:=g h 0 .no ⋯;rw[<- Mj]at q;have K:Et [.val (.int p),.val<|ja h w f,.val<|.int h,.val<|.int w,.no]=cq (.next [.val (.int p),.val<|ja h w f,.val<|.int h,.val<|.int w,I]):=by show wZ _ _ RD _=_;rw[Yz];simp only[xi,Zp,wR,j9,yk,Ih,Ij,IS,Lj,Lw,LV,zY,Ia,Iv,x,qz,o,j8];exact q
  rw[decide_eq_true (show h=h/\w=w from⟨rfl,rfl⟩)];exact jF<|zo u<|zo l<|zo K rfl
 ·have l:sN [.val (.int p),.val<|ja h w f,.val<|.int a,.val<|.int b,.no]=cq (.ret<|.val<|.bl d7):=by
   have U:i0 (.tup [.int (h:Int),.int (w:Int)]) (.tup [.int (a:Int),.int (b:Int)])=cq (.bl di):=by
    rw[t];by_cases n:h=a
    ·have L : ¬w=b:=λz=>O ⟨n,z⟩
     have Y : ¬((w:Int)=(b:Int)):=by omega
     simp[n,Y]
    ·have Y : ¬((h:Int)=(a:Int)):=by omega
     simp[Y]
   unfold sN;rw[JV,Yy,gL,vd,m];simp only[wH,qe,xX,qD,Ih,Ij,IS,Lj,Lw,LV,zT,Ia,Iv,r,if_true,U,QT];rfl
  rw[decide_eq_false O];exact jF (zo u<|by rw[jo,l];rfl)
theorem Jk(b:Bool):g8 (.str (xT (i4 b))) (.str "r")=cq (.bl (!b)):=by cases b<;>kernel_rfl
noncomputable def RG:=(zM (jB 9 (zC qr (ze 7) (xC (zC g8 (ed (zk 8) (zA (.int 0))) (zA (.str "l")))))) (zM (jB 10 (zC qr (ze 7) (xC (zC g8 (ed (zk 8) (zA (.int 0))) (zA (.str "r")))))) (xy 6 (xx (zc (ed (zk 8) (zA (.int 0))) (zc (zI jq (zc (ze 3) (zc (zI jq (zc (ze 3) (zc (ed (zk 1) (ze 10)) (zc (ed (zk 8) (zA (.int 1))) zJ)))) (zc (ed (zk 2) (ze 9)) zJ)))) zJ))))))
section
variable{p:Int}{m:Nat}{w:RX}{wd:RZ}{T f g:RV}
abbrev pe(p:Int)(m:Nat)(w:RX)(wd:RZ)(T f g:RV)(c6 c7 c8 c9 Rl:Cell):Ctx:=[.val (qh p m w wd T),.val (.lst (qN (m+1) wd f)),.val (.lst (qN (m+1) wd g)),.val (.int p),.val (.tup (zF (m+1) λk=>(wd k:Int))),.val (.tup (jY m w wd T)),c6,c7,c8,c9,Rl]
theorem Kh(h:k<n)(wd:RZ)(f:RV):(qN n wd f)[k]? = cq (ja (wd k) (wd k)<|f k):=by unfold qN;simp[h]
theorem QM(L:0<p)(p7:p<=7)(hm:m<=5)(J : ∀k,wd k<=60)(Z : ∀k i j,k<m->i<kv w wd k->j<kA w wd k->0<=T k i j/\T k i j<p)(hg : ∀k i j,k<m+1->i<wd k->j<wd k->0<=g k i j/\g k i j<p) :
 qa [qh p m w wd T,.lst<|qN (m+1) wd f,.lst (qN (m+1) wd g)]=cq (.val<|qh p m w wd<|jN p w wd f g T):=by
 have hl:=jI;have s1:Ep (jm 11 [qh p m w wd T,.lst<|qN (m+1) wd f,.lst (qN (m+1) wd g)])=cq (.next<|pe p m w wd T f g .no .no .no .no .no):=rfl;have s2:Eo (pe p m w wd T f g .no .no .no .no .no)=cq (.next<|pe p m w wd T f g (.own []) .no .no .no .no):=rfl;have step : ∀s,s<m->∀l d:Cell,∃z I,RG (pe p m w wd T f g (.own<|jY s w wd<|jN p w wd f g T) (.val<|.int (s:Int)) (.val<|xw w wd T s) l d)=cq (.next<|pe p m w wd T f g (.own<|jY (s+1) w wd<|jN p w wd f g T) (.val<|.int (s:Int)) (.val<|xw w wd T s) z I):=λs O l d=>by
  have G:=XH w O;have x:=Jr w O;have r:jX (xw w wd T s)=cq (.T,[.str (xT<|i4<|w s),ja (kv w wd s) (kA w wd s) (T s)]):=rfl;have U:l7 2 0=cq 0:=rfl;have i1:l7 2 1=cq 1:=rfl;have R:=nI<|w s;have S:=Jk<|w s;have b1:((s:Int)+if w s=di then 1 else 0)=((zR w s:Nat):Int):=fY w s;have b2:((s:Int)+if (!w s)=di then 1 else 0)=((z9 w s:Nat):Int):=fv w s;have ta:=Kh G wd f;have tb:=Kh x wd g;have l2:2<=lim:=by omega
  have sl:s<lim:=by omega
  refine⟨.val (.int ((zR w s:Nat):Int)),.val (.int ((z9 w s:Nat):Int)),?_⟩;have q1:(jB 9 (zC qr (ze 7) (xC (zC g8 (ed (zk 8) (zA (.int 0))) (zA (.str "l")))))) (pe p m w wd T f g (.own (jY s w wd (jN p w wd f g T))) (.val (.int (s:Int))) (.val (xw w wd T s)) l d)=cq (.next (pe p m w wd T f g (.own (jY s w wd (jN p w wd f g T))) (.val (.int (s:Int))) (.val (xw w wd T s)) (.val (.int ((zR w s:Nat):Int))) d)):=by rw[<- b1];simp only[pe,Jw,vd,qD,gh,wR,j9,yk,Ih,Ij,IS,Lj,Lw,LV,zT,zY,Ia,Iv,r,qz,U,R,LU,LS];cases w s<;>simp
  have Y:(jB 10 (zC qr (ze 7) (xC (zC g8 (ed (zk 8) (zA (.int 0))) (zA (.str "r")))))) (pe p m w wd T f g (.own (jY s w wd (jN p w wd f g T))) (.val (.int (s:Int))) (.val (xw w wd T s)) (.val (.int ((zR w s:Nat):Int))) d)=cq (.next (pe p m w wd T f g (.own (jY s w wd (jN p w wd f g T))) (.val (.int (s:Int))) (.val (xw w wd T s)) (.val (.int ((zR w s:Nat):Int))) (.val (.int ((z9 w s:Nat):Int))))):=by rw[<- b2];simp only[pe,Jw,vd,qD,gh,wR,j9,yk,Ih,Ij,IS,Lj,Lw,LV,zT,zY,Ia,Iv,r,qz,U,S,LU,LS];cases w s<;>simp
  refine zo q1<|zo Y ?_;have bE:=J<|z9 w s;have bB:=J<|zR w s;have K : ∀i j,i<wd (z9 w s)->j<wd (zR w s)->0<=T s i j/\T s i j<100:=λi j y A=>by have:=Z s i j O (by rw[vL];exact y) (by rw[vt];exact A);omega
  have M : ∀i j,i<wd (zR w s)->j<wd (zR w s)->0<=g (zR w s) i j/\g (zR w s) i j<100:=λi j y A=>by have:=hg (zR w s) i j x y A;omega
  have m1:=YG (p:=p) (h:=wd<|z9 w s) (m:=wd<|z9 w s) (w:=wd<|zR w s) (f<|z9 w s) (T s) L ⋯ ⋯ ⋯ K;have H:=YG (p:=p) (h:=wd<|z9 w s) (m:=wd<|zR w s) (w:=wd<|zR w s) (λi b=>zg (λa=>f (z9 w s) i a*T s a b) (wd<|z9 w s)%p) (g<|zR w s) L ⋯ ⋯ ⋯ M;have E:kv w wd s=wd (z9 w s):=vL w wd s;have F:kA w wd s=wd (zR w s):=vt w wd s;have W:(λi j=>zg (λb=>(zg (λa=>f (z9 w s) i a*T s a b) (wd<|z9 w s)%p)*g (zR w s) b j) (wd<|zR w s)%p)=jN p w wd f g T s:=by funext i j;unfold jN;congr 1;congr 1;funext b;rw[Ln];congr 1;congr 1;congr 1;funext a;rw[Ln]
  rw[W]at H;have N:xw w wd (jN p w wd f g T) s = .tup [.str (xT<|i4<|w s),ja (wd<|z9 w s) (wd<|zR w s) (jN p w wd f g T s)]:=by unfold xw;rw[E,F]
  rw[gb,N];simp only[pe,vS,wH,qe,xX,vp,qD,wR,j9,yk,Ih,Ij,IS,Lj,Lw,LV,zT,zY,q8,Ia,Iv,r,qz,U,i1,yG,bO,xA,G,x,if_true,ta,tb,E,F,m1,H,oW,l2,Yx,sl,LU,LS]
 have B : ∀(k s:Nat) (n o l d:Cell),s+k=m->∃t u z I,qH (.tp [7,8]) RG ((NB s k).map λ(k:Nat)=>D.tup [.int k,xw w wd T k]) (pe p m w wd T f g (.own<|jY s w wd<|jN p w wd f g T) n o l d)=cq (.next<|pe p m w wd T f g (.own<|jY m w wd<|jN p w wd f g T) t u z I):=by
  intro k
  induction k with
  | zero=>
   intro s n o l d e;obtain rfl:s=m:=by omega
   exact⟨n,o,l,d,rfl⟩
  | succ k ih=>
   intro s n o l d e;obtain⟨Q,P,q⟩:=step s ⋯ l d;obtain⟨t,u,z,I,Y⟩:=ih (s+1) (.val<|.int (s:Int)) (.val<|xw w wd T s) Q P ⋯;refine⟨t,u,z,I,?_⟩;rw[<- Y,MD,IQ,jE];have X:xp (.tp [7,8]) (.tup [.int (s:Int),xw w wd T s]) (pe p m w wd T f g (.own<|jY s w wd<|jN p w wd f g T) n o l d)=cq (pe p m w wd T f g (.own<|jY s w wd<|jN p w wd f g T) (.val<|.int (s:Int)) (.val<|xw w wd T s) l d):=rfl;rw[X];simp only[Ia,q]
 obtain⟨n,o,l,d,q⟩:=B m 0 .no .no .no .no ⋯;rw[<- Mj]at q;have s3:Em (pe p m w wd T f g (.own []) .no .no .no .no)=cq (.next<|pe p m w wd T f g (.own<|jY m w wd<|jN p w wd f g T) n o l d):=by
  show wZ _ _ RG _=_;have C:Kx (ze 5) (pe p m w wd T f g (.own []) .no .no .no .no)=cq ((HU m).map λ(k:Nat)=>D.tup [.int k,xw w wd T k]):=by show cq (qu<|jY m w wd T)=_;rw[show jY m w wd T=(HU m).map (xw w wd T)from rfl,QQ]
  rw[Yz,C];exact q
 have s4:BN (pe p m w wd T f g (.own<|jY m w wd<|jN p w wd f g T) n o l d)=cq (.ret<|.val<|qh p m w wd<|jN p w wd f g T):=by
  have l3:3<=lim:=by omega
  unfold BN;simp only[pe,Jx,wH,qe,xX,qD,q9,j9,Ih,Ij,IS,Lj,Lw,LV,zT,Jq,Ia,Iv,l3,if_true];rfl
 rw[rk];exact jF<|zo s1<|zo s2<|zo s3 s4
end
section
variable{wd:RZ}{N m k r:Nat}{A:Nat->fA}{p:Int}{w:RX}{T:RV}{B:Nat->Vc}{l:RZ}
theorem WB(l:RZ)(g:Nat->D)(i:Nat) : ∀(L:List Nat),WC (L.map λj=>D.int ((l j:Nat):Int)) (L.map g) (i:Int)=(L.find? λj=>l j==i).map g
 | []=>rfl
 | j::L=>by
  have z:=WB l g i L;simp only[IQ,WC,MA];by_cases h:l j=i
  ·simp[h]
  ·have a : ¬((l j:Nat):Int)=(i:Int):=by omega
   rw[EQ a,z];have:(l j==i)=d7:=by simpa using h
   rw[this]
theorem Yc(l:RZ) : ∀L:List Nat,JT (L.map λj=>D.int ((l j:Nat):Int))=cq (L.map λj=>((l j:Nat):Int))
 | []=>rfl
 | j::L=>by simp[JT,Yc l L]
theorem aM(z:h8 p N r B l)(I:r<=lim):me ((HU r).map λj=>D.int ((l j:Nat):Int)) ((HU r).map λj=>D.tup<|zF N<|B j)=cq (.m7 ((HU r).map λj=>D.int ((l j:Nat):Int))<|(HU r).map λj=>D.tup<|zF N<|B j):=by unfold me;rw[Yc];dsimp only;rw[RY];refine⟨by simp,?_,by simpa using I⟩;rw[List.nodup_iff_pairwise_ne,NC];refine NO (λ{a b} d O h=>?_)<|NA (n:=r);have:=z.mono a b h<|HW.mp O;omega
theorem Kc(f g:Nat->D) : ∀L:List Nat,vx (L.map λj=>D.tup [f j,g j])=cq (L.map f,L.map g)
 | []=>rfl
 | j::L=>by simp[vx,Kc f g L]
theorem Ju(h:k<(jY m w wd T).length):(jY m w wd T)[k]=xw w wd T k:=by simp[jY]
theorem kM(w wd T k):jX (xw w wd T k)=cq (.T,[.str (xT<|i4<|w k),ja (kv w wd k) (kA w wd k) (T k)]):=rfl
theorem Vj:qu ((HU N).map λj=>qf wd<|A j)=(HU N).map λ(i:Nat)=>D.tup [.int i,qf wd (A i)]:=by unfold qu;simp only[IE,Ls];refine Iu λi a=>?_;have a:=HW.mp a;simp[a]
noncomputable def sF(p:Int)(w:RX)(wd:RZ)(T:RV)(k:Nat)(u:Vc):Prop:=if w k=di then Span p (wd k) (fe (wd<|k+1) λj i=>T k i j) u else DH p (wd<|k+1) (wd k) (T k) u
theorem W9(O:Pr p)(U : ∀k,wd k<=16)(w)(T)(k:Nat) : ∃q g,q<=100/\(∀u,Span p (wd k) (fe q g) u↔sF p w wd T k u)/\
 (if w k=di then wz [.int p,ja (kv w wd k) (kA w wd k) (T k)]=cq (.own<|zW q (wd k) g)else yX [.int p,ja (kv w wd k) (kA w wd k) (T k)]=cq (.own<|zW q (wd k) g)):=by
 have m:=jI;have Y:=U k;have j:=U<|k+1;have d : ∀{r n:Nat} {B:Nat->Vc} {l:RZ},h8 p n r B l->r<=n:=λ{r n B l} z=>by
  have mono : ∀k,k<r->k<=l k:=by
   intro k
   induction k with
   | zero=>intro _;omega
   | succ k i=>intro Y;have:=i ⋯;have:=z.mono k (k+1) ⋯ Y;omega
  cases r with
  | zero=>omega
  | succ f=>have:=mono f ⋯;have:=z.lt f ⋯;omega
 cases hw:w k with
 | true=>
  have a:kv w wd k=wd k:=by unfold kv;rw[hw];rfl
  have b:kA w wd k=wd (k+1):=by unfold kA;rw[hw];rfl
  obtain⟨r,B,l,e,z,I⟩:=QV O (h:=wd k) (w:=wd<|k+1) ⋯ ⋯<|T k;refine⟨r,B,by have:=d z;omega,λu=>by unfold sF;rw[hw,RY rfl];exact I u,?_⟩;rw[RY rfl,a,b];exact e
 | false=>
  have a:kv w wd k=wd (k+1):=by unfold kv;rw[hw];rfl
  have b:kA w wd k=wd k:=by unfold kA;rw[hw];rfl
  obtain⟨q,K,l,s,e,z,I,_⟩:=yc O (h:=wd<|k+1) (w:=wd k) ⋯ ⋯<|T k;refine⟨q,K,by have:=d z;omega,λu=>by unfold sF;rw[hw,EQ ⋯];exact I u,?_⟩;rw[EQ ⋯,a,b];exact e
theorem YL:vT=jG 8 (zM R0<|zM R1<|zM N6<|zM R3<|zM R4 R5):=rfl
theorem ae(S:Pr p)(hb : ∀j,j<N->(A j).s+(A j).n<=m+1)(J : ∀j,j<N->(A j).has k=di)(Z:k<m)(hN:N<=16)(hm:m<=5)(C : ∀k,wd k<=16)(hv : ∀j r i,j<N->(A j).has r=di->i<wd r->0<=(A j).v r i/\(A j).v r i<p) :
 ∃r B l,h8 p N r B l/\(∀t,Span p N (fe r B) t↔sF p w wd T k (app (λi j=>(A j).v k i) N t))/\
  vT [qh p m w wd T,.int k,.lst ((HU N).map λj=>qf wd<|A j)]=cq (.own<|(HU N).map λi=>qf wd<|ij p A N r B l i):=by
 have hl:=jI;obtain⟨q,g,hq,y,U⟩:=W9 S C w T k;have bf:=C k;obtain⟨r,B,l,H,z,hs⟩:=X3 S (h:=wd k) (w:=N) (q:=q) ⋯ ⋯ hq (λi j=>(A j).v k i) g;refine⟨r,B,l,z,λt=>(hs t).trans (y _),?_⟩;have Y:N<=lim:=by omega
 have E:k<m+1:=by omega
 have rN:r<=N:=by
  have mono : ∀k,k<r->k<=l k:=by
   intro k
   induction k with
   | zero=>intro _;omega
   | succ k ih=>intro J;have:=ih ⋯;have:=z.mono k (k+1) ⋯ J;omega
  cases r with
  | zero=>omega
  | succ f=>have:=mono f ⋯;have:=z.lt f ⋯;omega
 have o:r<=lim:=by omega
 have u:=vj (wd:=wd) (A:=A) (N:=N) (λj I=>by have:=hb j I;omega) Y k;have W:((HU N).filter λj=>(A j).has k)=HU N:=List.filter_eq_self.mpr λj I=>J j<|HW.mp I;rw[W]at u;have K:=wy (q:=N) (h:=wd k) (λj=>(A j).v k) Y ⋯;have F:qM [.lst ((HU N).map λj=>qf wd<|A j),.int k]=cq (.own<|zW N (wd k) λj=>(A j).v k):=u;have M:zN (.nm 0) jg (xx<|zc (zI qE<|zc (ze 0) zJ)<|zc (ze 0) zJ) [.no] (zW r N B)=cq ((HU r).map λj=>D.tup [.int ((l j:Nat):Int),.tup (zF N<|B j)]):=by unfold zW;refine zu _ _ λj I=>zw rfl rfl ?_;have I:=HW.mp I;have e:=yK Y (B j) (z.lt j I) (λi b=>z.n0 j i I b) (by rw[z.one j I];decide);simp[e]
 have P:=aM z o;have Q:=Kc (λj=>D.int ((l j:Nat):Int)) (λj=>D.tup<|zF N<|B j)<|HU r;let d:D:= .m7 ((HU r).map λj=>D.int ((l j:Nat):Int)) ((HU r).map λj=>D.tup<|zF N<|B j);let L:D:= .lst ((HU N).map λj=>qf wd<|A j);have R:zN (.tp [0,1]) jg (mT (sB<|ug (ze 0)<|ze 4) (zI X0<|zc (ze 2)<|zc (ze 3)<|zc (BE (ze 4)<|ze 0) zJ)<|ze 1) [.no,.no,.val<|qh p m w wd T,.val L,.val d] ((HU N).map λ(i:Nat)=>D.tup [.int i,qf wd (A i)])=cq ((HU N).map λi=>qf wd<|ij p A N r B l i):=by
  refine zu _ _ λi b=>zw rfl rfl ?_;have b:=HW.mp b;have O:=WB l (λj=>D.tup<|zF N<|B j) i<|HU r;have G:(HU r).find? (λj=>l j==i)=nh r l i:=rfl;rw[G]at O;unfold ij;cases hx:nh r l i with
  | none=>
   rw[hx]at O;simp[d,ug,O]
  | some j=>
   rw[hx]at O;obtain⟨x,X⟩:=xf hx;have e:=lA (T:=T) (w:=w) (t:=B j) S hb ⋯ hm (λk=>by have:=C k;omega) hv (a:=i) b (λc hc=>z.n0 j c x ⋯) (by rw[<- X,z.one j x];decide);simp[d,ug,BE,O,L,e]
 rw[YL];refine jF (zo (γ':=[.val (qh p m w wd T),.val<|.int k,.val L,.val<|.str<|xT<|i4<|w k,.no,.no,.no,.no]) ?_
  (zo (γ':=[.val (qh p m w wd T),.val<|.int k,.val L,.val<|.str<|xT<|i4<|w k,.val<|ja (kv w wd k) (kA w wd k)<|T k,.no,.no,.no]) ?_
  (zo (γ':=[.val (qh p m w wd T),.val<|.int k,.val L,.val<|.str<|xT<|i4<|w k,.val<|ja (kv w wd k) (kA w wd k)<|T k,.val<|.lst<|zW q (wd k) g,.no,.no]) ?_
  (zo (γ':=[.val (qh p m w wd T),.val<|.int k,.val L,.val<|.str<|xT<|i4<|w k,.val<|ja (kv w wd k) (kA w wd k)<|T k,.val<|.lst<|zW q (wd k) g,.val<|.lst<|zW r N B,.no]) ?_
  (zo (γ':=[.val (qh p m w wd T),.val<|.int k,.val L,.val<|.str<|xT<|i4<|w k,.val<|ja (kv w wd k) (kA w wd k)<|T k,.val<|.lst<|zW q (wd k) g,.val<|.lst<|zW r N B,.val d]) ?_ ?_)))))
 ·simp[R0,jm,HZ,yf,kM,Ju,Z];rfl
 ·simp[R1,yf,kM,Ju,Z]
 ·cases hw:w k with
  | true=>
   rw[hw,RY rfl]at U;have eq:=Jk di;simp[N6,yf,eq,U]
  | false=>
   rw[hw,EQ ⋯]at U;have eq:=Jk d7;simp[N6,yf,eq,U]
 ·simp[R3,yf,E,L,F,K,H]
 ·simp[R4,z6,M,o,Q,P];rfl
 ·simp[R5,z6,L,Vj,Y,R]
end
noncomputable def oD(n:Nat):Option Vc->D
 | none=> .fh
 | some y=> .tup (zF n y)
theorem ab(U:Pr p)(Y:h<=90)(C:w<=90)(f:RK)(b:Vc)(O : ∀i,i<h->0<=b i/\b i<p) :
 ∃o:Option Vc,yW [.int p,ja h w f,.tup (zF h b)]=cq (.val<|oD w o)/\(∀x,o=cq x->(∀j,0<=x j/\x j<p)/\∀i,i<h->app f w x i%p=b i%p)/\(o=dn->¬∃y:Vc,∀i,i<h->app f w y i%p=b i%p):=by
 have n : ∀i,i<h->b i%p=b i:=λi a=>LF (O i a).1 (O i a).2;by_cases I : ∃y:Vc,∀i,i<h->app f w y i%p=b i%p
 ·obtain⟨y,I⟩:=I
  obtain⟨x,e,K,L⟩:=hV U Y C f b y O λi a=>by rw[<- n i a,<- I i a];rfl
  refine⟨cq x,e,λR H=>?_,λz=>by cases z⟩;cases H;exact⟨K,λi a=>by rw[n i a];exact L i a⟩
 ·obtain⟨r,B,l,s,M,E,P,A,Q,d⟩:=JC U Y C f b
  have m:s<r:=by
   refine Lv λm=>I ?_;have J:s=r:=by omega
   subst J;refine⟨Vz w B l s,λi a=>?_⟩;have t:=wO M ((E<|aug w f b i).mpr (.gen ⟨i,a,rfl⟩)) w ⋯;have F:aug w f b i w=b i:=by simp[aug]
   rw[F]at t;rw[t];congr 1;unfold app Vz;rw[zx (g:=λj=>zg (λk=>f i j*(if l k=j then B k w else 0)) s) λj _=>(jt _ _ _).symm,qJ];refine zx λk u=>?_;rw[zK (i:=l k) (A k u) λj N G=>by rw[EQ (IT G)];simp,RY rfl];simp only[aug,RY (A k u)]
  rw[RY m]at d;exact⟨dn,d,nofun,λ_=>I⟩
section
variable{wd:RZ}{m k:Nat}{p:Int}{w:RX}{T:RV}
theorem lr:xc=jG 4 (zM E4<|zM M8 M9):=rfl
theorem XG(b:Bool):g8 (.str (xT (i4 b))) (.str "l")=cq (.bl b):=by cases b<;>kernel_rfl
theorem K0(I:Pr p)(C : ∀k,wd k<=16)(J : ∀i j,i<kv w wd k->j<kA w wd k->0<=T k i j/\T k i j<p)(u:Vc)(L : ∀i,i<wd k->0<=u i/\u i<p) :
 ∃o:Option Vc,xc [.int p,xw w wd T k,.tup (zF (wd k) u)]=cq (.val<|oD (wd<|k+1) o)/\(∀y,o=cq y->∀c,c<wd (k+1)->0<=y c/\y c<p)/\
  (w k=d7->(o=dn->∀c,c<wd (k+1)->app (T k) (wd k) u c%p=0)/\∀y,o=cq y->(∀c,c<wd (k+1)->app (T k) (wd k) u c%p=y c%p)/\∃c,c<wd (k+1)/\y c%p≠0)/\
  (w k=di->(o=dn->¬∃y:Vc,∀c,c<wd k->app (T k) (wd<|k+1) y c%p=u c%p)/\∀y,o=cq y->∀c,c<wd k->app (T k) (wd<|k+1) y c%p=u c%p):=by
 have F:=jI;have G:=I.le;have E:=C k;have B:=C<|k+1;rw[lr];cases hw:w k with
 | true=>
  have b:kv w wd k=wd k:=by unfold kv;rw[hw];rfl
  have d:kA w wd k=wd (k+1):=by unfold kA;rw[hw];rfl
  obtain⟨o,r,a,f⟩:=ab I (h:=wd k) (w:=wd<|k+1) ⋯ ⋯ (T k) u L;refine⟨o,?_,λy e c _=>(a y e).1 c,nofun,λ_=>⟨f,λy e=>(a y e).2⟩⟩;refine jF ?_;have O:=XG di;have t:E4 (jm 4 [.int p,xw w wd T k,.tup (zF (wd k) u)])=cq (.ret<|.val<|oD (wd<|k+1) o):=by simp[E4,jm,HZ,kM,hw,O,b,d,r]
  rw[jo,t];rfl
 | false=>
  have b:kv w wd k=wd (k+1):=by unfold kv;rw[hw];rfl
  have d:kA w wd k=wd k:=by unfold kA;rw[hw];rfl
  rw[b,d]at J;have Y:=WU (p:=p) (h:=wd<|k+1) (w:=wd k) .T (T k) u I.pos ⋯ ⋯ λi j x A=>by have:=J i j x A;omega
  simp only[t4]at Y;have O:=XG d7;have n:=VN (λi=>zg (λj=>T k i j*u j) (wd k)%p)<|wd<|k+1;by_cases U : ∃c,c<wd (k+1)/\zg (λj=>T k c j*u j) (wd k)%p≠0
  ·refine⟨cq λi=>zg (λj=>T k i j*u j) (wd k)%p,?_,(λy e c _=>by cases e;exact⟨La _ (by have:=I.pos;omega),IP _ I.pos⟩),λ_=>⟨nofun,(λy e=>by cases e;exact⟨(λc _=>by rw[ID];rfl),(by obtain⟨c,a,f⟩:=U;exact⟨c,a,(by rw[ID];exact f)⟩)⟩)⟩,nofun⟩
   refine jF<|zo (γ':=[.val (.int p),.val<|xw w wd T k,.val<|.tup<|zF (wd k) u,.no]) ?_ (zo (γ':=[.val (.int p),.val<|xw w wd T k,.val<|.tup<|zF (wd k) u,.val (.tup<|zF (wd<|k+1) λi=>zg (λj=>T k i j*u j) (wd k)%p)]) ?_ ?_)
   ·simp[E4,jm,HZ,kM,hw,O]
   ·simp[M8,kM,b,d,Y]
   ·have g:(HU<|wd<|k+1).any (λi=>(zg (λj=>T k i j*u j) (wd k)%p) != 0)=di:=by
     obtain⟨c,a,f⟩:=U;exact PD.mpr ⟨c,HW.mpr a,by simpa using f⟩
    have l:sI (zk 3) [.val (.int p),.val<|xw w wd T k,.val<|.tup<|zF (wd k) u,.val (.tup<|zF (wd<|k+1) λi=>zg (λj=>T k i j*u j) (wd k)%p)]=cq (.bl di):=by show((Zt _).map λs=>D.bl<|s.any id)=_;rw[n];show cq (D.bl<|((HU<|wd<|k+1).map λi=>(zg (λj=>T k i j*u j) (wd k)%p) != 0).any id)=_;rw[List.any_map];rw[show(id∘λi=>(zg (λj=>T k i j*u j) (wd k)%p) != 0)=λi=>(zg (λj=>T k i j*u j) (wd k)%p) != 0 from rfl,g]
    unfold M9;simp only[Jx,nO,gL,l];rfl
  ·refine⟨dn,?_,nofun,λ_=>⟨λ_ c m=>Lv λz=>U ⟨c,m,z⟩,nofun⟩,nofun⟩
   refine jF<|zo (γ':=[.val (.int p),.val<|xw w wd T k,.val<|.tup<|zF (wd k) u,.no]) ?_ (zo (γ':=[.val (.int p),.val<|xw w wd T k,.val<|.tup<|zF (wd k) u,.val (.tup<|zF (wd<|k+1) λi=>zg (λj=>T k i j*u j) (wd k)%p)]) ?_ ?_)
   ·simp[E4,jm,HZ,kM,hw,O]
   ·simp[M8,kM,b,d,Y]
   ·have g:(HU<|wd<|k+1).any (λi=>(zg (λj=>T k i j*u j) (wd k)%p) != 0)=d7:=Pw.mpr λc m z=>U ⟨c,HW.mp m,by simpa using z⟩
    have l:sI (zk 3) [.val (.int p),.val<|xw w wd T k,.val<|.tup<|zF (wd k) u,.val (.tup<|zF (wd<|k+1) λi=>zg (λj=>T k i j*u j) (wd k)%p)]=cq (.bl d7):=by show((Zt _).map λs=>D.bl<|s.any id)=_;rw[n];show cq (D.bl<|((HU<|wd<|k+1).map λi=>(zg (λj=>T k i j*u j) (wd k)%p) != 0).any id)=_;rw[List.any_map];rw[show(id∘λi=>(zg (λj=>T k i j*u j) (wd k)%p) != 0)=λi=>(zg (λj=>T k i j*u j) (wd k)%p) != 0 from rfl,g]
    unfold M9;simp only[Jx,nO,gL,l];rfl
end
section
variable{wd:RZ}{m k:Nat}{p:Int}{w:RX}{T:RV}
theorem lO(h:1<=n):l7 n (-1)=cq (n - 1):=by unfold l7;rw[EQ ⋯,RY ⋯];congr 1;omega
theorem dQ(z:b.s+b.n=k+1)(y:Vc):kj wd (mm k b<|some y)=kj wd b++[D.tup (zF (wd<|k+1) y)]:=by
 unfold kj mm;dsimp only;rw[Mf,LD];congr 1
 ·refine Iu λi a=>?_
  have a:=HW.mp a;rw[EQ ⋯]
 ·simp[z]
theorem bM:kN=jG 4 (zM Sd O1):=rfl
theorem gY(C:1<=b.n)(I:b.s+b.n=k+1)(U:k<=20)(e:xc [.int p,xw w wd T k,.tup (zF (wd k)<|b.v k)]=cq (.val<|oD (wd<|k+1) o)) :
 kN [.int p,xw w wd T k,qf wd b]=cq (.val<|qf wd<|mm k b o):=by
 have Y:=jI;have g:=lO C;have z:=Wq (wd:=wd) (b:=b) (i:=b.n - 1) ⋯;rw[show b.s+(b.n - 1)=k by omega]at z;have j:b.n - 1<b.n:=by omega
 rw[bM];refine jF<|zo (γ':=[.val (.int p),.val<|xw w wd T k,.val<|qf wd b,.val (oD (wd<|k+1) o)]) ?_ ?_
 ·unfold Sd
  have d:ed (z5<|ed (zk 2)<|zA<|.int 1) (ub<|zA<|.int 1) (jm 4 [.int p,xw w wd T k,qf wd b])=cq (.tup<|zF (wd k)<|b.v k):=by have O : ∀h:Ctx,ub (zA<|.int 1) h=cq (.int (-1)):=λ_=>rfl;simp[jm,HZ,g,O];exact z
  simp only[Jw,vp,qe,xX,d];simp[jm,HZ,e]
 ·cases o with
  | none=>simp[O1,oD,AZ,mm]
  | some y=>
   have f:b.n+1<=lim:=by omega
   have a:=dQ (wd:=wd) I y;simp[O1,oD,AZ,f,qr];unfold qf;rw[a];rfl
noncomputable def gw(p:Int)(w:RX)(wd:RZ)(T:RV)(k:Nat)(L:List Vc):Prop:=
 if w k=di then ∃q K l s,L=(HU q).map K/\h8 p (wd<|k+1) q K l/\(∀v,Span p (wd<|k+1) (fe q K) v↔DH p (wd k) (wd<|k+1) (T k) v)/\Rk p (wd k) (wd<|k+1) (λj i=>T k i j) s/\q+s=wd (k+1)
 else ∃r B l,h8 p (wd<|k+1) r B l/\(∀v,Span p (wd<|k+1) (fe r B) v↔Span p (wd<|k+1) (fe (wd k) λj i=>T k i j) v)/\L=((HU<|wd<|k+1).filter λ(c:Nat)=> !decide ((c:Int)∈(HU r).map λj=>((l j:Nat):Int))).map jT
theorem pZ:yb=jG 3 (zM G8<|zM RL RM):=rfl
theorem QK(l:RZ) : ∀L:List Nat,XC (L.map λj=>D.int ((l j:Nat):Int))=cq (L.map λj=>((l j:Nat):Int))
 | []=>rfl
 | j::L=>by simp[XC,QK l L]
theorem YS(z:h8 p n r B l):r<=n:=by
 have mono : ∀k,k<r->k<=l k:=by
  intro k
  induction k with
  | zero=>intro _;omega
  | succ k O=>intro U;have:=O ⋯;have:=z.mono k (k+1) ⋯ U;omega
 cases r with
 | zero=>omega
 | succ I=>have:=mono I ⋯;have:=z.lt I ⋯;omega
theorem fi(n:Nat):qu (zW n n λi j=>if i=j then 1 else 0)=(HU n).map λ(i:Nat)=>D.tup [.int i,.tup (zF n<|jT i)]:=by unfold qu zW;simp only[IE,Ls];refine Iu λi a=>?_;have a:=HW.mp a;simp[a];rfl
theorem K1(J:Pr p)(C : ∀k,wd k<=16) : ∃L:List Vc,gw p w wd T k L/\yb [.int p,xw w wd T k]=cq (.own<|L.map λy=>D.tup<|zF (wd<|k+1) y):=by
 have M:=jI;have H:=C k;have G:=C<|k+1;rw[pZ];unfold gw;cases hw:w k with
 | true=>
  have a:kv w wd k=wd k:=by unfold kv;rw[hw];rfl
  have b:kA w wd k=wd (k+1):=by unfold kA;rw[hw];rfl
  obtain⟨q,K,l,s,e,z,O,E,t⟩:=yc J (h:=wd k) (w:=wd<|k+1) ⋯ ⋯<|T k;refine⟨(HU q).map K,by rw[RY rfl];exact⟨q,K,l,s,rfl,z,O,E,t⟩,jF ?_⟩;have U:=XG di;have d:G8 (jm 3 [.int p,xw w wd T k])=cq (.ret<|.own<|zW q (wd<|k+1) K):=by simp[G8,jm,HZ,kM,hw,U,a,b,e]
  rw[jo,d,Lb];rfl
 | false=>
  have a:kv w wd k=wd (k+1):=by unfold kv;rw[hw];rfl
  have b:kA w wd k=wd k:=by unfold kA;rw[hw];rfl
  obtain⟨r,B,l,e,z,O⟩:=QV J (h:=wd<|k+1) (w:=wd k) ⋯ ⋯<|T k;have N:=YS z;have u:r<=lim:=by omega
  have Y:wd (k+1)<=lim:=by omega
  refine⟨_,by rw[EQ ⋯];exact⟨r,B,l,z,O,rfl⟩,?_⟩;have U:=XG d7;have x:zN (.nm 0) jg (zI qE<|zc (ze 0) zJ) [.no] (zW r (wd<|k+1) B)=cq ((HU r).map λj=>D.int ((l j:Nat):Int)):=by unfold zW;refine zu _ _ λj I=>zw rfl rfl ?_;have I:=HW.mp I;have e:=yK Y (B j) (z.lt j I) (λi f=>z.n0 j i I f) (by rw[z.one j I];decide);simp[e]
  have A:zN (.tp [0,1]) (sB<|Xl (ze 0)<|zk 2) (ze 1) [.no,.no,.val (.lst<|(HU r).map λj=>D.int ((l j:Nat):Int))] ((HU<|wd<|k+1).map λ(i:Nat)=>D.tup [.int i,.tup (zF (wd<|k+1)<|jT i)]) =
   cq (((HU<|wd<|k+1).filter λ(c:Nat)=> !decide ((c:Int)∈(HU r).map λj=>((l j:Nat):Int))).map λ(i:Nat)=>D.tup<|zF (wd<|k+1)<|jT i):=by
   refine jr (λ(c:Nat)=> !decide ((c:Int)∈(HU r).map λj=>((l j:Nat):Int))) (λ(i:Nat)=>D.tup<|zF (wd<|k+1)<|jT i) _ λi f=>⟨_,rfl,?_,λ_=>rfl⟩;have F:=QK l<|HU r;show(Xl (ze 0) (zk 2) [.val (.int i),_,.val (.lst<|(HU r).map λj=>D.int ((l j:Nat):Int))]).bind tr=_;show((XC<|(HU r).map λj=>D.int ((l j:Nat):Int)).map λl=>D.bl<|!decide ((i:Int)∈l)).bind tr=_;rw[F];rfl
  have d:=yJ (n:=wd<|k+1) Y;refine jF<|zo (γ':=[.val (.int p),.val<|xw w wd T k,.no]) ?_ (zo (γ':=[.val (.int p),.val<|xw w wd T k,.val (.lst<|(HU r).map λj=>D.int ((l j:Nat):Int))]) ?_ ?_)
  ·simp[G8,jm,HZ,kM,hw,U]
  ·simp[RL,z6,kM,a,b,e,u,x]
  ·have g:jX (ja (kv w wd k) (kA w wd k)<|T k)=cq (.T,[.int (wd (k+1):Nat),.int (wd k:Nat),.tup (zW (wd<|k+1) (wd k)<|T k)]):=by rw[a,b];rfl
   have m:jX (ja (wd<|k+1) (wd<|k+1) λi j=>if i=j then 1 else 0)=cq (.T,[.int (wd (k+1):Nat),.int (wd (k+1):Nat),.tup (zW (wd<|k+1) (wd<|k+1) λi j=>if i=j then 1 else 0)]):=rfl;have o:=fi<|wd<|k+1;simp[RM,z6,kM,g,d,m,o,Y];rw[A];exact congrArg cq (congrArg (List.map _)<|Pu λc _=>by simp)
end
section
variable{wd:RZ}{m k r N:Nat}{p:Int}{w:RX}{T:RV}{B:Nat->Vc}{l:RZ}{A:Nat->fA}
theorem ny(I:h8 p N r B l){j:Nat}(z:j<r):nh r l (l j)=cq j:=by
 cases h:nh r l (l j)with
 | none=>exact absurd rfl<|w6 h j z
 | some i=>
  obtain⟨a,b⟩:=xf h;rw[Wn I.mono a z b]
theorem Va{a b:List Nat}(C:a.Nodup)(z:b.Nodup)(h : ∀x,x∈a↔x∈b):a.length=b.length:=((List.perm_ext_iff_of_nodup C z).mpr h).length_eq
theorem XR(z:h8 p N r B l):(HU N).countP (λi=>(nh r l i).isSome)=r:=by
 rw[Lm];have e:((HU N).filter λi=>(nh r l i).isSome).length=((HU r).map l).length:=by
  refine Va (OC.sublist NV) ?_ λx=>?_
  ·rw[List.nodup_iff_pairwise_ne,NC]
   refine NO (λ{a b} g I h=>?_)<|NA (n:=r);have:=z.mono a b h<|HW.mp I;omega
  ·rw[IL,IB]
   constructor
   ·rintro⟨d,f⟩
    obtain⟨j,O⟩:=Mg.mp f;obtain⟨U,Y⟩:=xf O;exact⟨j,HW.mpr U,Y⟩
   ·rintro⟨j,d,f⟩
    have d:=HW.mp d;subst f;exact⟨HW.mpr<|z.lt j d,by rw[ny z d];rfl⟩
 rw[e];simp
theorem fO(q:RX)(N:Nat):(HU N).countP q+(HU N).countP (λi=> !q i)=N:=by
 have:=Po q (l:=HU N);rw[Ls]at this;rw[this];congr 1
 ·rw[<- this]
 ·rw[<- this]
  exact Md λi _=>by simp
theorem El(z : ∀j,j<N->(A j).has k=di)(t:Vc)(c:Nat):p5 p A N t k c%p=app (λi j=>(A j).v k i) N t c%p:=by unfold p5 app;rw[ID];congr 1;exact zx λj I=>by rw[RY (z j I),Ln]
theorem v9(z : ∀j,j<N->(A j).has k=di)(h:nh r l i=cq j)(c:Nat):(ij p A N r B l i).v k c%p=app (λi j=>(A j).v k i) N (B j) c%p:=by unfold ij;rw[h];exact El z (B j) c
theorem Xf(h:nh r l i=dn):ij p A N r B l i=A i:=by unfold ij;rw[h]
theorem aR(hp:Pr p)(S : ∀k,wd k<=16)(Z : ∀j,j<wd k->(A j).has k=di)(hs : ∀v:Vc,∃t,∀i,i<wd k->v i%p=app (λi j=>(A j).v k i) (wd k) t i%p)
 (L:h8 p (wd k) r B l) (hW : ∀t,Span p (wd k) (fe r B) t↔sF p w wd T k (app (λi j=>(A j).v k i) (wd k) t)) {J:List Vc} (C:gw p w wd T k J) {nx:Nat->Option Vc}
 (hr : ∀i,i<wd k->w k=d7->(nx i=dn->∀c,c<wd (k+1)->app (T k) (wd k) ((ij p A (wd k) r B l i).v k) c%p=0)/\∀y,nx i=cq y->(∀c,c<wd (k+1)->app (T k) (wd k) ((ij p A (wd k) r B l i).v k) c%p=y c%p)/\∃c,c<wd (k+1)/\y c%p≠0)
 (hl : ∀i,i<wd k->w k=di->(nx i=dn->¬∃y:Vc,∀c,c<wd k->app (T k) (wd<|k+1) y c%p=(ij p A (wd k) r B l i).v k c%p)/\∀y,nx i=cq y->∀c,c<wd k->app (T k) (wd<|k+1) y c%p=(ij p A (wd k) r B l i).v k c%p) :
 (∀y,y∈J->∀c,c<wd (k+1)->0<=y c/\y c<p)/\(∀y,y∈J->w k=di->∀c,c<wd k->app (T k) (wd<|k+1) y c%p=0)/\
   (∀v,Span p (wd<|k+1) (λg=>(∃i,i<wd k/\nx i=cq g)\/g∈J) v)/\(HU<|wd k).countP (λi=>(nx i).isSome)+J.length=wd (k+1):=by
 have two:=hp.two;cases hw:w k with
 | false=>
  have u : ∀t,Span p (wd k) (fe r B) t↔DH p (wd<|k+1) (wd k) (T k) (app (λi j=>(A j).v k i) (wd k) t):=λt=>by have:=hW t;unfold sF at this;rw[hw,EQ ⋯]at this;exact this
  unfold gw at C;rw[hw,EQ ⋯]at C;obtain⟨o,B2,n,as,hI,U⟩:=C;obtain⟨g1,g2,g3,G⟩:=tK hp (S k) (S<|k+1) hs L u as hI;have b9 : ∀c,c<wd (k+1)->(∀j,j<o->n j≠c)->jT c∈J:=λc O C=>by rw[U];refine IB.mpr ⟨c,IL.mpr ⟨HW.mpr O,?_⟩,rfl⟩;simp only[Mm,decide_eq_false_iff_not,IB,HW];rintro⟨j,f,h⟩;exact C j f ⋯
  have on : ∀i,i<wd k->(nx i).isSome=(nh r l i).isNone:=λi d=>by
   cases b:nh r l i with
   | none=>
    obtain⟨c,f,h⟩:=g2 i d<|w6 b;cases I:nx i with
    | some y=>rfl
    | none=>
     have:=(hr i d hw).1 I c f;rw[Xf b]at this;exact absurd this h
   | some j=>
    obtain⟨f,h⟩:=xf b;cases I:nx i with
    | none=>rfl
    | some y=>
     obtain⟨e,c,M,h4⟩:=(hr i d hw).2 y I;have z:=g1 j f c M;rw[<- jJ (λa _=>v9 (B:=B) (r:=r) (l:=l) Z b a) c,e c M]at z;exact absurd z h4
  refine⟨λy I c O=>?_,(λy I z=>by cases z),λv=>G _ (λc O x=>?_) (λc O x=> .gen (.inr<|b9 c O x)) v,?_⟩
  ·rw[U]at I
   obtain⟨i,_,rfl⟩:=IB.mp I;unfold jT;split<;>omega
  ·have b:nh r l c=dn:=by
    cases b:nh r l c with
    | none=>rfl
    | some j=>exact absurd (xf b).2 (x j (xf b).1)
   have m:=on c O;rw[b]at m;obtain⟨y,I⟩:=Mg.mp m;refine(Span.gen<|.inl ⟨c,O,I⟩).congr λi d=>?_;have:=((hr c O hw).2 y I).1 i d;rw[Xf b]at this;exact this
  ·have F:(HU<|wd k).countP (λi=>(nx i).isSome)=(HU<|wd k).countP λi=> !(nh r l i).isSome:=Md λi d=>by
    rw[on i (HW.mp d)];cases nh r l i<;>simp
   have R:=fO (λi=>(nh r l i).isSome)<|wd k;rw[XR L]at R;have W:=fO (λi=>(nh o n i).isSome)<|wd<|k+1;rw[XR as]at W;have X:J.length=(HU<|wd<|k+1).countP λi=> !(nh o n i).isSome:=by
    rw[U,IE,<- Lm];refine Md λi d=>?_;cases b:nh o n i with
    | none=>
     have:=w6 b;simp only[Mm,decide_eq_false_iff_not,IB,HW];constructor
     ·intro _;rfl
     ·rintro _ ⟨j,f,h⟩
      exact this j f ⋯
    | some j=>
     obtain⟨f,h⟩:=xf b;simp only[Mm,decide_eq_false_iff_not,IB,HW];constructor
     ·intro z;exact absurd ⟨j,f,by rw[h]⟩ z
     ·intro z;cases z
   rw[F,X];omega
 | true=>
  have u : ∀t,Span p (wd k) (fe r B) t↔Span p (wd k) (fe (wd<|k+1) λj i=>T k i j) (app (λi j=>(A j).v k i) (wd k) t):=λt=>by have:=hW t;unfold sF at this;rw[hw,RY rfl]at this;exact this
  unfold gw at C;rw[hw,RY rfl]at C;obtain⟨q,K,lK,s,U,N,H,P,Q⟩:=C;obtain⟨g1,g2,g3,G⟩:=tL hp (S k) (S<|k+1) hs L u H P Q;have on : ∀i,i<wd k->(nx i).isSome=(nh r l i).isSome:=λi d=>by
   cases b:nh r l i with
   | none=>
    cases I:nx i with
    | none=>rfl
    | some y=>
     have:=(hl i d hw).2 y I;rw[Xf b]at this;exact absurd ⟨y,this⟩<|g2 i d<|w6 b
   | some j=>
    obtain⟨f,h⟩:=xf b;cases I:nx i with
    | some y=>rfl
    | none=>
     obtain⟨y,bl⟩:=g1 j f;exact absurd ⟨y,λc O=>by rw[bl c O,v9 Z b c]⟩<|(hl i d hw).1 I
  refine⟨λy I c O=>?_,λy I _ c O=>?_,λv=>G _ (λj=>(nx<|l j).getD λ_=>0) (λj Y=>?_) (λj Y=>?_) v,?_⟩
  ·rw[U]at I
   obtain⟨j,Y,rfl⟩:=IB.mp I;exact N.m8 j c (HW.mp Y) O
  ·rw[U]at I
   obtain⟨j,Y,rfl⟩:=IB.mp I;exact(H<|K j).mp (.gen ⟨j,HW.mp Y,rfl⟩) c O
  ·have b:=ny L Y
   have E:=L.lt j Y;have m:=on (l j) E;rw[b]at m;obtain⟨y,I⟩:=Mg.mp m;rw[I];refine⟨.gen<|.inl ⟨l j,E,I⟩,λc O=>?_⟩;have:=(hl (l j) E hw).2 y I c O;rw[v9 Z b c]at this;exact this
  ·refine .gen (.inr ?_)
   rw[U];exact IB.mpr ⟨j,HW.mpr Y,rfl⟩
  ·have F:(HU<|wd k).countP (λi=>(nx i).isSome)=(HU<|wd k).countP λi=>(nh r l i).isSome:=Md λi d=>by
    rw[on i (HW.mp d)]
   rw[F,XR L,U,IE,Ls];omega
end
section
variable{wd:RZ}{m k:Nat}{p:Int}{w:RX}{T:RV}
theorem eW:JF=jG 9 (zM Rr<|zM Rt<|zM Ru<|zM Rv<|zM Rw<|zM Rx M1):=rfl
theorem Ej(y:Vc):qf wd (rq k y) = .tup [.int ((k:Int)+1),.tup [.tup (zF (wd<|k+1) y)]]:=by unfold qf rq kj;simp
theorem lW(J:Pr p)(O : ∀k,wd k<=16)(hm:m<=5)(Z:k<m)(hT : ∀i j,i<kv w wd k->j<kA w wd k->0<=T k i j/\T k i j<p){C:List fA}(I:C5 p w wd T k C)(b8:C.length<=100) :
 ∃S,C5 p w wd T (k+1) S/\S.length<=C.length+wd (k+1)/\JF [qh p m w wd T,.int k,.lst (C.map<|qf wd)]=cq (.val<|.lst<|S.map<|qf wd):=by
 have hl:=jI;have X:=J.pos;have P:C.length<=lim:=by omega
 have G:(C.filter λb=>b.has k).length=wd k:=by rw[<- Lm];exact I.ct k<|Ic _
 let A:Nat->fA:=λj=>(C.filter λb=>b.has k).getD j gE;have R:(C.filter λb=>b.has k)=(HU<|wd k).map A:=by rw[<- G];exact(jd gE _).symm
 have W : ∀j,j<wd k->A j∈C/\(A j).has k=di:=λj U=>by
  have:A j∈C.filter λb=>b.has k:=by show(C.filter λb=>b.has k).getD j gE∈_;rw[HY,HX ⋯];exact Mr _
  have:=IL.mp this;exact⟨this.1,by simpa using this.2⟩
 have H : ∀j,j<wd k->o7 p w wd T k (A j):=λj U=>I.ok _ (W j U).1;have hO : ∀i c,i<c->c<wd k->Ord w (A i) (A c):=λi c d u=>by have:=Mu.mp I.od i c ⋯ ⋯ d;show Ord w ((C.filter λb=>b.has k).getD i gE) ((C.filter λb=>b.has k).getD c gE);rw[HY,HX ⋯,HY,HX ⋯];exact this
 have F : ∀j,j<wd k->(A j).has k=di:=λj U=>(W j U).2;obtain⟨r,B,l,K,hW,eS⟩:=ae (T:=T) (w:=w) (A:=A) (N:=wd k) (k:=k) J (λj U=>by have:=(H j U).le;omega) F Z (O k) hm O λj rm i U hh a=>(H j U).m8 rm i hh a;have h9 : ∀i,i<wd k->o7 p w wd T k (ij p A (wd k) r B l i):=λi a=>mS X K H F hO a;have ax : ∀i,i<wd k->(ij p A (wd k) r B l i).has k=di:=λi a=>by rw[YJ];exact F i a
 have ex : ∀i,∃o:Option Vc,i<wd k->(xc [.int p,xw w wd T k,.tup (zF (wd k)<|(ij p A (wd k) r B l i).v k)]=cq (.val<|oD (wd<|k+1) o)/\(∀y,o=cq y->∀c,c<wd (k+1)->0<=y c/\y c<p)/\
  (w k=d7->(o=dn->∀c,c<wd (k+1)->app (T k) (wd k) ((ij p A (wd k) r B l i).v k) c%p=0)/\∀y,o=cq y->(∀c,c<wd (k+1)->app (T k) (wd k) ((ij p A (wd k) r B l i).v k) c%p=y c%p)/\∃c,c<wd (k+1)/\y c%p≠0)/\
  (w k=di->(o=dn->¬∃y:Vc,∀c,c<wd k->app (T k) (wd<|k+1) y c%p=(ij p A (wd k) r B l i).v k c%p)/\∀y,o=cq y->∀c,c<wd k->app (T k) (wd<|k+1) y c%p=(ij p A (wd k) r B l i).v k c%p)):=λi=>by
  by_cases a:i<wd k
  ·obtain⟨o,h⟩:=K0 (T:=T) (w:=w) (k:=k) J O hT ((ij p A (wd k) r B l i).v k) λc hc=>(h9 i a).m8 k c (ax i a) hc
   exact⟨o,λ_=>h⟩
  ·exact⟨dn,λz=>absurd z a⟩
 obtain⟨nx,s⟩:=Ni ex;obtain⟨Y,hN,eN⟩:=K1 (T:=T) (w:=w) (k:=k) J O;have hs : ∀v:Vc,∃t,∀i,i<wd k->v i%p=app (λi j=>(A j).v k i) (wd k) t i%p:=λv=>by
  have hv:Span p (wd k) (fe (wd k) λj=>(A j).v k) v:=(I.sp k (Ic _) v).le λg hg=>by obtain⟨b,d,u,rfl⟩:=hg;have Q:b∈C.filter λb=>b.has k:=IL.mpr ⟨d,by simpa using u⟩;rw[R]at Q;obtain⟨j,U,rfl⟩:=IB.mp Q;exact .gen ⟨j,HW.mp U,rfl⟩
  obtain⟨t,ht⟩:=Kp hv;exact⟨t,λi a=>by rw[ht i a];unfold app;rw[qL]⟩
 obtain⟨f1,f2,f3,f4⟩:=aR (T:=T) (w:=w) (A:=A) J O F hs K hW hN (nx:=nx) (λi a=>(s i a).2.2.1) λi a=>(s i a).2.2.2;refine⟨vb p k w C A (wd k) r B l nx Y,eV X I G (λ_=>rfl) K (λi y a e=>(s i a).2.1 y e) f1 (λi a e f=>((s i a).2.2.1 f).1 e) (λi y a e f=>(((s i a).2.2.1 f).2 y e).1) (λi y a e f=>((s i a).2.2.2 f).2 y e) f2 f3 f4,?_,?_⟩
 ·have d:(C.filter λb=> !b.has k).length+wd k=C.length:=by
   have:=Po (λb:fA=>b.has k) (l:=C);rw[<- G,<- Lm,<- Lm,this];have e:C.countP (λb=> !b.has k)=C.countP λb=>decide (¬b.has k=di):=Md λb _=>by simp
   rw[e];omega
  have u:=O<|k+1;unfold vb;rw[LG];cases w k<;>simp<;>omega
 ·
  let L:D:= .lst (C.map<|qf wd);have e3:zN (.nm 0) (jP<|sB<|zI jU<|zc (ze 0)<|zc (ze 1) zJ) (ze 0) [.no,.val (.int k)] (C.map<|qf wd)=cq ((C.filter λb=> !b.has k).map (qf wd)):=by refine jr (g:=qf wd) (λb=> !b.has k) (qf wd) C λb M=>⟨[.val (qf wd b),.val (.int k)],rfl,?_,λ_=>by rfl⟩;have e:=k7 (wd:=wd) (b:=b) (by have:=(I.ok b M).le;omega) k;simp[e]
  have e4:zN (.nm 0) (sB<|zI jU<|zc (ze 0)<|zc (ze 1) zJ) (ze 0) [.no,.val (.int k)] (C.map<|qf wd)=cq ((HU<|wd k).map λj=>qf wd<|A j):=by
   have:((C.filter λb=>b.has k).map (qf wd))=(HU<|wd k).map λj=>qf wd (A j):=by rw[R,Lb];rfl
   rw[<- this];refine jr (g:=qf wd) (λb=>b.has k) (qf wd) C λb M=>⟨[.val (qf wd b),.val (.int k)],rfl,?_,λ_=>by rfl⟩;have e:=k7 (wd:=wd) (b:=b) (by have:=(I.ok b M).le;omega) k;simp[e]
  have e5:zN (.nm 0) jg (zI kN<|zc (ze 1)<|zc (ze 2)<|zc (ze 0) zJ) [.no,.val<|.int p,.val (xw w wd T k)] ((HU<|wd k).map λi=>qf wd<|ij p A (wd k) r B l i)=cq ((HU<|wd k).map λi=>qf wd<|mm k (ij p A (wd k) r B l i)<|nx i):=by refine zu _ _ λi a=>zw rfl rfl ?_;have a:=HW.mp a;have d:=l6.mp<|ax i a;have e:=gY (p:=p) (h9 i a).n1 (by have:=(h9 i a).le;omega) (show k<=20 by omega) (s i a).1;simp[e]
  have e6:zN (.nm 0) jg (xx<|zc (zC qr (ze 1)<|zA<|.int 1)<|zc (xx<|zc (ze 0) zJ) zJ) [.no,.val (.int k)] (Y.map λy=>D.tup<|zF (wd<|k+1) y)=cq ((Y.map<|rq k).map (qf wd)):=by rw[Lb];refine zu _ _ λy hy=>zw rfl rfl ?_;show _=cq (qf wd<|rq k y);rw[Ej];rfl
  have c6:Y.length<=lim:=by have:=O<|k+1;omega
  have c7:wd k<=lim:=by have:=O k;omega
  let n:D:= .lst ((C.filter λb=> !b.has k).map (qf wd));let E:D:= .lst ((HU<|wd k).map λi=>qf wd<|ij p A (wd k) r B l i);let x:D:= .lst ((HU<|wd k).map λi=>qf wd<|mm k (ij p A (wd k) r B l i)<|nx i);let Ne:D:= .lst ((Y.map<|rq k).map (qf wd));rw[eW];refine jF (zo (γ':=[.val (qh p m w wd T),.val<|.int k,.val L,.val<|.int p,.no,.no,.no,.no,.no]) ?_
   (zo (γ':=[.val (qh p m w wd T),.val<|.int k,.val L,.val<|.int p,.val<|xw w wd T k,.no,.no,.no,.no]) ?_
   (zo (γ':=[.val (qh p m w wd T),.val<|.int k,.val L,.val<|.int p,.val<|xw w wd T k,.val n,.no,.no,.no]) ?_
   (zo (γ':=[.val (qh p m w wd T),.val<|.int k,.val L,.val<|.int p,.val<|xw w wd T k,.val n,.val E,.no,.no]) ?_
   (zo (γ':=[.val (qh p m w wd T),.val<|.int k,.val L,.val<|.int p,.val<|xw w wd T k,.val n,.val E,.val x,.no]) ?_
   (zo (γ':=[.val (qh p m w wd T),.val<|.int k,.val L,.val<|.int p,.val<|xw w wd T k,.val n,.val E,.val x,.val Ne]) ?_ ?_))))))
  ·simp[Rr,jm,HZ,yf,L]
  ·simp[Rt,yf,Ju,Z]
  ·simp[Ru,z6,L,P,e3,n]
  ·simp[Rv,z6,L,P,e4,eS,E]
  ·simp[Rw,z6,E,c7,e5,x]
  ·simp[Rx,z6,eN,c6]
   rw[e6];simp[Ne]
  ·have ca:(C.filter λb=> !b.has k).length<=100:=Lr (NJ _ _) b8
   have q1:=O k;have q2:=O<|k+1;cases f:w k with
   | false=>
    have eq:=Jk d7;have d:Y.length+wd k<=lim:=by omega
    have u:(C.filter λb=> !b.has k).length+(Y.length+wd k)<=lim:=by omega
    simp[M1,kM,f,eq,n,x,Ne,vb,d,u]
   | true=>
    have eq:=Jk di;have d:wd k+Y.length<=lim:=by omega
    have u:(C.filter λb=> !b.has k).length+(wd k+Y.length)<=lim:=by omega
    simp[M1,kM,f,eq,n,x,Ne,vb,d,u]
end
section
variable{wd:RZ}{m k:Nat}{p:Int}{w:RX}{T:RV}
def gK(c:Nat):fA:=⟨0,1,λ_=>jT c⟩
theorem rM(Y:Pr p):C5 p w wd T 0 ((HU<|wd 0).map gK):=by
 have two:=Y.two;have a : ∀b,b∈(HU<|wd 0).map gK ↔ ∃c,c<wd 0/\b=gK c:=λb=>by rw[IB];exact⟨λ⟨c,d,e⟩=>⟨c,HW.mp d,e.symm⟩,λ⟨c,d,e⟩=>⟨c,HW.mpr d,e.symm⟩⟩
 have U : ∀c,(gK c).has 0=di:=λc=>l6.mpr ⟨Ic _,by show 0<0+1;omega⟩;refine⟨λb I=>?_,λr h v=>?_,λr h=>?_,?_⟩
 ·obtain⟨c,O,rfl⟩:=(a b).mp I
  exact⟨Ic _,by show 0+1<=0+1;omega,λr i _ _=>by show 0<=jT c i/\jT c i<p;unfold jT;split<;>omega,λj k=>by omega⟩
 ·have:r=0:=by omega
  subst this;refine(Yg (wd 0) v).le λg f=>?_;obtain⟨c,O,rfl⟩:=f;exact .gen ⟨gK c,(a _).mpr ⟨c,O,rfl⟩,U c,rfl⟩
 ·have:r=0:=by omega
  subst this;rw[List.countP_eq_length.mpr λb I=>?_]
  ·simp
  ·obtain⟨c,O,rfl⟩:=(a b).mp I
   exact U c
 ·refine Om _ ?_
  rw[NC];exact Mu.mpr λ_ _ _ _ _=>⟨λz=>absurd z<|Lq 0,λz=>absurd z<|Lq 0⟩
theorem XZ:yd=jG 3 (zM L8<|zM Ra Rb):=rfl
def X7(b:fA):Int×Int:=((b.s:Int),((b.s+b.n - 1:Nat):Int))
theorem dW : ∀C:List fA,(∀b,b∈C->1<=b.n/\b.s+b.n<=100)->K8 jW (C.map<|qf wd)=cq (C.map X7)
 | [],_=>rfl
 | b::C,h=>by have a:=h b Iy;have e:=J0 (wd:=wd) a.1 a.2;have z:=dW C λb I=>h b<|Im _ I;simp only[IQ,K8,e,z,Ia];rfl
noncomputable def xP(C:List fA):List fA:=(j4<|C.map X7).map λi=>C.getD i gE
theorem ZC(C:List fA):(xP C).Perm C:=by have h:=jO<|C.map X7;rw[IE]at h;have:=h.map λi=>C.getD i gE;rw[jd]at this;exact this
theorem Kr(C:List fA):(xP C).map X7=xl (C.map X7):=by unfold xP xl;rw[Lb];refine Iu λi a=>?_;have h:=jO<|C.map X7;have a:=HW.mp<|h.mem_iff.mp a;rw[IE]at a;simp[a]
theorem XY{b:Nat}(U:Pr p)(z:b<=16)(S:b*(m+1)<=48)(O : ∀k,wd k<=b)(L:m<=5)(J : ∀k i j,k<m->i<kv w wd k->j<kA w wd k->0<=T k i j/\T k i j<p) :
 ∃C,C5 p w wd T m C/\C.length<=48/\yd [qh p m w wd T]=cq (.own<|(xP C).map (qf wd)):=by
 have P:=jI;have N:=O 0;have t : ∀k,wd k<=16:=λk=>Lr (O k) z;have Y:wd 0<=lim:=by omega
 have E:=yJ (n:=wd 0) Y;have r:jX (ja (wd 0) (wd 0) λi j=>if i=j then 1 else 0)=cq (.T,[.int (wd 0:Nat),.int (wd 0:Nat),.tup (zW (wd 0) (wd 0) λi j=>if i=j then 1 else 0)]):=rfl;have y:zN (.nm 0) jg (xx<|zc (zA<|.int 0)<|zc (xx<|zc (ze 0) zJ) zJ) [.no] (zW (wd 0) (wd 0) λi j=>if i=j then 1 else 0)=cq (((HU<|wd 0).map gK).map (qf wd)):=by rw[Lb];unfold zW;refine zu _ _ λi a=>zw rfl rfl ?_;show cq _=cq (qf wd<|gK i);unfold qf gK kj;simp;rfl
 have x1:L8 (jm 3 [qh p m w wd T])=cq (.next [.val (qh p m w wd T),.val<|.lst<|((HU<|wd 0).map gK).map (qf wd),.no]):=by simp[L8,jm,HZ,yf,E,r,z6,Y];rw[y];simp
 obtain⟨K,H,C,c,I,u,rfl⟩:=QD (T:= .nm 2) (F:=jB 1<|zI JF<|zc (ze 0)<|zc (ze 2)<|zc (ze 1) zJ) (f:=ye<|z5<|ed (zk 0)<|zA<|.int 2)
  (λj γ=>∃C c,C5 p w wd T j C/\C.length<=b*(j+1)/\γ=[.val (qh p m w wd T),.val<|.lst<|C.map<|qf wd,c]) m ⋯ (γ:=[.val (qh p m w wd T),.val<|.lst<|((HU<|wd 0).map gK).map (qf wd),.no])
  (by simp[yf]) ⟨_,_,rM U,by simp;omega,rfl⟩ λs l γ d=>by obtain⟨C,c,I,u,rfl⟩:=d;obtain⟨g,o,M,e⟩:=lW (T:=T) (w:=w) (k:=s) U t L l (J s · · l) I (by have:=Nat.mul_le_mul_left b (show s+1<=m+1 by omega);omega);refine⟨_,[.val (qh p m w wd T),.val<|.lst<|g.map<|qf wd,.val (.int s)],rfl,?_,g,_,o,by have:=O<|s+1;rw[Nat.mul_succ b (s+1)];omega,rfl⟩;simp[e]
 refine⟨C,I,by omega,?_⟩;have B:=dW (wd:=wd) C λb z=>⟨(I.ok b z).n1,by have:=(I.ok b z).le;omega⟩;rw[XZ];refine jF<|zo x1<|zo (show Ra _=_ from H) ?_;have x:C.length<64:=by omega
 unfold Rb;have A:cn jW (zk 1) [.val (qh p m w wd T),.val<|.lst<|C.map<|qf wd,c]=cq ((xP C).map (qf wd)):=by show((K8 jW<|C.map<|qf wd).bind λG=>if (C.map<|qf wd).length<64 then cq ((j4 G).map λi=>(C.map<|qf wd).getD i .fh)else dn)=_;rw[B];simp only[Ia,IE,x,if_true];congr 1;unfold xP;rw[Lb];refine Iu λi a=>?_;have h:=jO<|C.map X7;have a:=HW.mp<|h.mem_iff.mp a;rw[IE]at a;simp[a]
 rw[Vx,A];rfl
theorem C5.perm(h:Rj.Perm n6)(I:C5 p w wd T k n6):(∀b,b∈Rj->o7 p w wd T k b)/\(∀r,r<=k->∀v,Span p (wd r) (GB Rj r) v)/\∀r,r<=k->Rj.countP (λb=>b.has r)=wd r:=by
 refine⟨λb O=>I.ok b<|h.mem_iff.mp O,λr z v=>(I.sp r z v).le λg U=>?_,λr z=>?_⟩
 ·obtain⟨b,a,d,Y⟩:=U
  exact .gen ⟨b,h.mem_iff.mpr a,d,Y⟩
 ·rw[h.countP_eq];exact I.ct r z
end
abbrev TB:=Nat×Nat×(Nat->Nat->Int)
def tD(t:TB):D:=ja t.1 t.2.1 t.2.2
structure A7(p:Int)(t:TB):Prop where
 h:t.1<=60
 w:t.2.1<=60
 e : ∀i j,i<t.1->j<t.2.1->0<=t.2.2 i j/\t.2.2 i j<p
def YM(n:Nat):D:=ja n n λi j=>if i=j then 1 else 0
noncomputable def pw(p:Int)(n:Nat)(t u:TB):D:=ja n n λi j=>zg (λk=>t.2.2 i k*u.2.2 k j) n%p
noncomputable def u6(p:Int)(n:Nat)(t u:TB):Bool:=decide (t.1=n/\t.2.1=n/\u.1=n/\u.2.1=n) && l0 (pw p n t u) (YM n)
theorem Ba{x y:D}(hx:l9 x=di)(z:l9 y=di):g8 x y=cq (.bl<|l0 x y):=by unfold g8;rw[RY ⟨hx,z⟩]
theorem fJ{x y:D}(hx:l9 x=di)(z:l9 y=di):i0 x y=cq (.bl<|!l0 x y):=by unfold i0;rw[RY ⟨hx,z⟩]
theorem yR(bs):l9 (.lst<|zV bs)=di:=KS (n:=2) (by
 simp only[deep];have:o4 (zV bs)<=1:=xh λd a=>by simp only[zV,IB]at a;obtain⟨b,_,rfl⟩:=a;simp[deep,o4]
 omega) ⋯ (by
 simp only[h9];exact kZ λd a=>by simp only[zV,IB]at a;obtain⟨b,_,rfl⟩:=a;rfl)
def o3:TB:=(0,0,λ_ _=>0)
noncomputable def ZZ(m:Nat)(ts us:List TB):Bool:=decide<|ts.length=m+1/\us.length=m+1
noncomputable def mJ(p:Int)(m:Nat)(wd:RZ)(ts us:List TB):Bool:=(HU<|m+1).all λk=>u6 p (wd k) (ts.getD k o3)<|us.getD k o3
noncomputable def qR(bs:List (Int×Int))(ts us:List TB):D:= .tup [.lst (zV bs),.lst<|ts.map tD,.lst (us.map tD)]
theorem wX{n:Nat}{ts:List TB}(h:ts.length=n):ts.map tD=(HU n).map λk=>tD (ts.getD k o3):=by
 conv=>lhs;rw[<- jd o3 ts]
 rw[Lb,h];rfl
theorem Jh{p:Int}{ts:List TB}(h : ∀t∈ts,A7 p t){k:Nat}(z:k<ts.length):A7 p (ts.getD k o3):=by rw[HY,HX z];exact h _<|Mr z
section
variable{p:Int}{m:Nat}{w:RX}{wd:RZ}{T:RV}{bs:List (Int×Int)}{ts us:List TB}
def fT(ts:List TB)(k:Nat):Nat->Nat->Int:=(ts.getD k o3).2.2
theorem VA(h:mJ p m wd ts us=di){k:Nat}(z:k<m+1):u6 p (wd k) (ts.getD k o3) (us.getD k o3)=di:=LK.mp h k<|HW.mpr z
theorem Jb{n:Nat}{t u:TB}(h:u6 p n t u=di):t.1=n/\t.2.1=n/\u.1=n/\u.2.1=n:=by unfold u6 at h;rw[Ir]at h;exact of_decide_eq_true h.1
theorem W8(O:ZZ m ts us=di)(h:mJ p m wd ts us=di):ts.map tD=qN (m+1) wd (fT ts)/\us.map tD=qN (m+1) wd (fT us):=by
 have I:ts.length=m+1/\us.length=m+1:=of_decide_eq_true O;rw[wX I.1,wX I.2];unfold qN;refine⟨Iu λk z=>?_,Iu λk z=>?_⟩
 ·have q:=Jb (VA h<|HW.mp z)
  show ja _ _ _=_;rw[q.1,q.2.1];rfl
 ·have q:=Jb (VA h<|HW.mp z)
  show ja _ _ _=_;rw[q.2.2.1,q.2.2.2];rfl
theorem rQ(z:ZZ m ts us=di)(h:mJ p m wd ts us=di)(I : ∀t∈us,A7 p t) : ∀k i j,k<m+1->i<wd k->j<wd k->0<=fT us k i j/\fT us k i j<p:=λk i j O a U=>by have Y:ts.length=m+1/\us.length=m+1:=of_decide_eq_true z;have q:=Jb<|VA h O;have g:=Jh I (k:=k) ⋯;exact g.e i j (by rw[q.2.2.1];exact a) (by rw[q.2.2.2];exact U)
noncomputable def ic(p:Int)(m:Nat)(w:RX)(wd:RZ)(T:RV)(bs:List (Int×Int))(ts us:List TB):Bool:=
 (eX ((m+1:Nat):Int) bs && vy bs) && (ZZ m ts us && mJ p m wd ts us) && l0 (qh p m w wd<|jN p w wd (fT ts) (fT us) T) (BR p m w bs)
end
theorem uQ:jk=jG 12 (zM RP<|zM RR<|zM RT<|zM Hb<|zM N3<|zM Hc N4):=rfl
noncomputable def FU:=(zM (lp (yZ (jP<|sB<|p6 .tuple<|ze 8)<|yZ (sB<|zC i0 (ye<|zk 8)<|zA<|.int 2)<|yZ (jP<|sB<|zI js<|zc (ed (zk 8)<|zA<|.int 0) zJ)<|jP<|sB<|zI js<|zc (ed (zk 8)<|zA<|.int 1) zJ) (qA<|zA<|.bl d7) ql)<|lp (jP<|sB<|ZI qq qq B5 (zA<|.int 0) (ed (zk 8)<|zA<|.int 0) (ed (zk 8)<|zA<|.int 1)<|ye<|zk 3) (qA<|zA<|.bl d7) ql)
noncomputable def sL:=(lp (yZ (jP<|sB<|zI jb<|zc (ze 2)<|zc (ze 10)<|zc (ze 9)<|zc (ze 9) zJ)<|jP<|sB<|zI jb<|zc (ze 2)<|zc (ze 11)<|zc (ze 9)<|zc (ze 9) zJ) (qA<|zA<|.bl d7) ql)
noncomputable def BL:=(lp (sB<|zC i0 (zI jq<|zc (ze 2)<|zc (ze 10)<|zc (ze 11) zJ)<|zI qU<|zc (ze 9) zJ) (qA<|zA<|.bl d7) ql)
def FT:=zM sL BL
theorem Vg{C:Type}{T:Tg}{F:CO Fl}{g:C->D}{t:C->Bool}{r:Res}(P:Ctx->Prop) : ∀(l:List C) {γ:Ctx},P γ->
 (∀a∈l,∀γ,P γ->∃γ1,xp T (g a) γ=cq γ1/\((t a=di->∃I,F γ1=cq (.next I)/\P I)/\(t a=d7->F γ1=cq (.ret r))))->
 (l.all t=di->∃γ',qH T F (l.map g) γ=cq (.next γ')/\P γ')/\(l.all t=d7->qH T F (l.map g) γ=cq (.ret r))
 | [],γ,hp,_=>⟨λ_=>⟨γ,rfl,hp⟩,λh=>by cases h⟩
 | a::l,γ,hp,h=>by
  obtain⟨γ1,d,i,j⟩:=h a (Iy ..) γ hp;cases ht:t a with
  | true=>
   obtain⟨I,f,O⟩:=i ht;have U:=Vg P l O λb Y=>h b<|Im _ Y;have e:qH T F ((a::l).map g) γ=qH T F (l.map g) I:=by rw[IQ,jE,d];simp only[Ia,f]
   rw[e,Ow,ht,NQ];exact U
  | false=>
   refine⟨λz=>?_,λ_=>?_⟩
   ·rw[Ow,ht,Nd]at z;cases z
   ·rw[IQ,jE,d]
    simp only[Ia,j ht]
section
variable{p:Int}{m:Nat}{w:RX}{wd:RZ}{T:RV}{bs:List (Int×Int)}{ts us:List TB}
abbrev k0(p:Int)(m:Nat)(w:RX)(wd:RZ)(T:RV)(bs:List (Int×Int))(ts us:List TB)(c8 c9 Rl Rm:Cell):Ctx:=[.val (qh p m w wd T),.val (qR bs ts us),.val (.int p),.val (.tup (zF (m+1) λk=>(wd k:Int))),.val (.tup (jY m w wd T)),.val (.lst (zV bs)),.val (.lst (ts.map tD)),.val (.lst (us.map tD)),c8,c9,Rl,Rm]
theorem BK:RP (jm 12 [qh p m w wd T,qR bs ts us])=cq (.next [.val (qh p m w wd T),.val<|qR bs ts us,.val<|.int p,.val<|.tup<|zF (m+1) λk=>(wd k:Int),.val<|.tup<|jY m w wd T,.no,.no,.no,.no,.no,.no,.no]):=rfl
theorem BJ:RR [.val (qh p m w wd T),.val<|qR bs ts us,.val<|.int p,.val<|.tup<|zF (m+1) λk=>(wd k:Int),.val<|.tup<|jY m w wd T,.no,.no,.no,.no,.no,.no,.no]=cq (.next [.val (qh p m w wd T),.val<|qR bs ts us,.val<|.int p,.val<|.tup<|zF (m+1) λk=>(wd k:Int),.val<|.tup<|jY m w wd T,.no,.no,.no,.no,.no,.no,.no]):=rfl
theorem BI:RT [.val (qh p m w wd T),.val<|qR bs ts us,.val<|.int p,.val<|.tup<|zF (m+1) λk=>(wd k:Int),.val<|.tup<|jY m w wd T,.no,.no,.no,.no,.no,.no,.no]=cq (.next<|k0 p m w wd T bs ts us .no .no .no .no):=rfl
theorem SS:(eX ((m+1:Nat):Int) bs=di->∃C,Hb (k0 p m w wd T bs ts us .no .no .no .no)=cq (.next<|k0 p m w wd T bs ts us C .no .no .no))/\(eX ((m+1:Nat):Int) bs=d7->Hb (k0 p m w wd T bs ts us .no .no .no .no)=cq (.ret<|.val<|.bl d7)):=by
 have q:=Vg (T:= .nm 8) (F:=FU) (g:=λb:Int×Int=>D.tup [.int b.1,.int b.2]) (t:=BA ((m+1:Nat):Int)) (r:= .val (.bl d7)) (λγ=>∃C,γ=k0 p m w wd T bs ts us C .no .no .no) bs (γ:=k0 p m w wd T bs ts us .no .no .no .no) ⟨_,rfl⟩ (by
  rintro⟨a,b⟩ _ γ ⟨C,rfl⟩;refine⟨k0 p m w wd T bs ts us (.val<|.tup [.int a,.int b]) .no .no .no,rfl,?_⟩;have Y:(lp (yZ (jP<|sB<|p6 .tuple<|ze 8)<|yZ (sB<|zC i0 (ye<|zk 8)<|zA<|.int 2)<|yZ (jP<|sB<|zI js<|zc (ed (zk 8)<|zA<|.int 0) zJ)<|jP<|sB<|zI js<|zc (ed (zk 8)<|zA<|.int 1) zJ) (qA<|zA<|.bl d7) ql) (k0 p m w wd T bs ts us (.val<|.tup [.int a,.int b]) .no .no .no)=cq (.next<|k0 p m w wd T bs ts us (.val<|.tup [.int a,.int b]) .no .no .no):=rfl;have wl:(zF (m+1) λk=>(wd k:Int)).length=m+1:=by simp[zF]
  have l:l7 2 0=cq 0:=rfl;have n:l7 2 1=cq 1:=rfl;have i:jP (sB<|ZI qq qq B5 (zA<|.int 0) (ed (zk 8)<|zA<|.int 0) (ed (zk 8)<|zA<|.int 1)<|ye<|zk 3) (k0 p m w wd T bs ts us (.val<|.tup [.int a,.int b]) .no .no .no)=cq (!BA ((m+1:Nat):Int) (a,b)):=by
   simp only[k0,XX,gL,gi,yk,wR,j9,gd,Ih,Ij,IS,Lj,Lw,LV,zY,j8,Ia,Iv,qz,l,n,wl,sd,rZ,QT];unfold BA;by_cases d:0<=a
   ·by_cases f:a<=b
    ·by_cases O:b<((m+1:Nat):Int)
     ·have I:0<=a/\a<((m+1:Nat):Int)/\0<=b/\b<((m+1:Nat):Int)/\a<=b:=⟨d,by omega,by omega,O,f⟩
      rw[decide_eq_true d,decide_eq_true f,decide_eq_true O,decide_eq_true I];rfl
     ·have I : ¬(0<=a/\a<((m+1:Nat):Int)/\0<=b/\b<((m+1:Nat):Int)/\a<=b):=λz=>O z.2.2.2.1
      rw[decide_eq_true d,decide_eq_true f,decide_eq_false O,decide_eq_false I];rfl
    ·have I : ¬(0<=a/\a<((m+1:Nat):Int)/\0<=b/\b<((m+1:Nat):Int)/\a<=b):=λz=>f z.2.2.2.2
     rw[decide_eq_true d,decide_eq_false f,decide_eq_false I];rfl
   ·have I : ¬(0<=a/\a<((m+1:Nat):Int)/\0<=b/\b<((m+1:Nat):Int)/\a<=b):=λz=>d z.1
    rw[decide_eq_false d,decide_eq_false I];rfl
  refine⟨λU=>⟨k0 p m w wd T bs ts us (.val<|.tup [.int a,.int b]) .no .no .no,?_,_,rfl⟩,λU=>?_⟩
  ·refine zo Y ?_
   rw[JV,i,U];rfl
  ·refine zo Y ?_
   rw[JV,i,U];rfl)
 have e:Hb (k0 p m w wd T bs ts us .no .no .no .no)=qH (.nm 8) FU (bs.map λb:Int×Int=>D.tup [.int b.1,.int b.2]) (k0 p m w wd T bs ts us .no .no .no .no):=rfl;rw[e];refine⟨λh=>?_,λh=>q.2 h⟩;obtain⟨o,j,C,rfl⟩:=q.1 h;exact⟨C,j⟩
theorem Hh(I:bs.length<64)(C:Cell):N3 (k0 p m w wd T bs ts us C .no .no .no)=if (vy bs && ZZ m ts us)=di then cq (.next<|k0 p m w wd T bs ts us C .no .no .no)else cq (.ret<|.val<|.bl d7):=by
 have O:=Ks I;have q:=fJ (yR bs)<|yR<|xl bs;have U:i0 (.lst<|zV bs) (.lst<|zV<|xl bs)=cq (.bl<|!vy bs):=by rw[q,show l0 (.lst<|zV bs) (.lst<|zV<|xl bs)=s8 (zV bs) (zV<|xl bs)from rfl,Yl];rfl
 have wl:(zF (m+1) λk=>(wd k:Int)).length=m+1:=by simp[zF]
 have Y : ∀a b:Int,i0 (.int a) (.int b)=cq (.bl<|!(a==b)):=λa b=>by rw[fJ rfl rfl];rfl
 have d:(yZ (sB<|zC i0 (ze 5)<|jZ<|Kw<|zk 5)<|yZ (sB<|zC i0 (ye<|zk 6)<|ye<|zk 3)<|sB<|zC i0 (ye<|zk 7)<|ye<|zk 3) (k0 p m w wd T bs ts us C .no .no .no)=cq (!(vy bs && ZZ m ts us)):=by
  simp only[k0,Yy,gL,vd,Jy,mF,gd,j9,qD,Ih,Ij,zY,zT,yG,j8,Ia,Iv,IE,O,U,Y,QT,wl];unfold ZZ;cases vy bs with
  | false=>rfl
  | true=>
   by_cases e:ts.length=m+1<;>by_cases f:us.length=m+1<;>simp[e,f,Int.natCast_inj]
   ·intro z;omega
   ·intro z;omega
   ·intro z;omega
 unfold N3;rw[JV,d];cases vy bs && ZZ m ts us<;>rfl
theorem Hg(p0:0<p)(p7:p<=7)(hm:m<=5)(Z : ∀k,wd k<=60)(ht : ∀t∈ts,A7 p t)(hu : ∀t∈us,A7 p t)(hl:ZZ m ts us=di)(C:Cell):(mJ p m wd ts us=di->∃S J L,Hc (k0 p m w wd T bs ts us C .no .no .no)=cq (.next<|k0 p m w wd T bs ts us C S J L))/\(mJ p m wd ts us=d7->Hc (k0 p m w wd T bs ts us C .no .no .no)=cq (.ret<|.val<|.bl d7)):=by
 have E:ts.length=m+1/\us.length=m+1:=of_decide_eq_true hl;have q:=Vg (T:= .tp [9,10,11]) (F:=FT) (g:=λk:Nat=>D.tup [.int (wd k:Int),tD<|ts.getD k o3,tD (us.getD k o3)]) (t:=λk=>u6 p (wd k) (ts.getD k o3)<|us.getD k o3) (r:= .val (.bl d7)) (λγ=>∃S J L,γ=k0 p m w wd T bs ts us C S J L) (HU<|m+1) (γ:=k0 p m w wd T bs ts us C .no .no .no) ⟨_,_,_,rfl⟩ (by
  rintro k G γ ⟨S,J,L,rfl⟩;have G:=HW.mp G;have gt:=Jh ht (k:=k) ⋯;have d:=Jh hu (k:=k) ⋯;have N:=Z k;refine⟨k0 p m w wd T bs ts us C (.val<|.int (wd k:Int)) (.val<|tD<|ts.getD k o3)<|.val<|tD<|us.getD k o3,rfl,?_⟩;generalize ts.getD k o3=t at gt ⊢;generalize us.getD k o3=u at d ⊢;generalize wd k=n at N ⊢;obtain⟨a,U,I⟩:=t;obtain⟨Y,b,O⟩:=u;have R:a<=60:=gt.h;have W:U<=60:=gt.w;have X:Y<=60:=d.h;have bb:b<=60:=d.w;have b1:=QH (p:=p) I (show a<=400 by omega) (show U<=400 by omega) gt.e n n;have b2:=QH (p:=p) O (show Y<=400 by omega) (show b<=400 by omega) d.e n n;have b3:=YG (p:=p) (h:=n) (m:=n) (w:=n) I O p0 ⋯ ⋯ ⋯;have b4:=tY (n:=n) ⋯;show(u6 p n (a,U,I) (Y,b,O)=di->_)/\(u6 p n (a,U,I) (Y,b,O)=d7->_);have A:(yZ (jP<|sB<|zI jb<|zc (ze 2)<|zc (ze 10)<|zc (ze 9)<|zc (ze 9) zJ)<|jP<|sB<|zI jb<|zc (ze 2)<|zc (ze 11)<|zc (ze 9)<|zc (ze 9) zJ) (k0 p m w wd T bs ts us C (.val<|.int (n:Int)) (.val<|ja a U I)<|.val<|ja Y b O)=cq (!decide (a=n/\U=n/\Y=n/\b=n)):=by simp only[k0,Yy,XX,gL,vp,qe,xX,qD,Ih,Ij,zT,Ia,Iv,b1,b2,oW,QT];by_cases f:a=n<;>by_cases l:U=n<;>by_cases o:Y=n<;>by_cases s:b=n<;>simp[f,l,o,s]
  by_cases y:a=n/\U=n/\Y=n/\b=n
  ·have x:sL (k0 p m w wd T bs ts us C (.val<|.int (n:Int)) (.val<|ja a U I)<|.val<|ja Y b O)=cq (.next<|k0 p m w wd T bs ts us C (.val<|.int (n:Int)) (.val<|ja a U I)<|.val<|ja Y b O):=by
    unfold sL;rw[JV,A,decide_eq_true y];rfl
   obtain⟨f,l,o,s⟩:=y;replace f:=f.symm;replace l:=l.symm;replace o:=o.symm;replace s:=s.symm;subst f l o s;have b3:=b3 (λi j K M=>by have:=d.e i j K M;simp only at this;omega);have P:=fJ (Y2 n n λi j=>zg (λk=>I i k*O k j) n%p)<|Y2 n n λi j=>if i=j then 1 else 0;have B:sB (zC i0 (zI jq<|zc (ze 2)<|zc (ze 10)<|zc (ze 11) zJ)<|zI qU<|zc (ze 9) zJ) (k0 p m w wd T bs ts us C (.val<|.int (n:Int)) (.val<|ja n n I)<|.val<|ja n n O)=cq (!u6 p n (n,n,I) (n,n,O)):=by simp only[k0,gL,vd,vp,qe,xX,qD,Ih,Ij,zT,Ia,Iv,b3,b4,oW,P,QT,u6,pw,YM,and_self,decide_true,NQ]
   refine⟨λz=>⟨k0 p m w wd T bs ts us C (.val<|.int (n:Int)) (.val<|ja n n I)<|.val<|ja n n O,?_,_,_,_,rfl⟩,λz=>?_⟩
   ·refine zo x ?_
    unfold BL;rw[JV,B,z];rfl
   ·refine zo x ?_
    unfold BL;rw[JV,B,z];rfl
  ·have e:u6 p n (a,U,I) (Y,b,O)=d7:=by
    unfold u6;rw[decide_eq_false y];rfl
   have x:sL (k0 p m w wd T bs ts us C (.val<|.int (n:Int)) (.val<|ja a U I)<|.val<|ja Y b O)=cq (.ret<|.val<|.bl d7):=by unfold sL;rw[JV,A,decide_eq_false y];rfl
   refine⟨λz=>?_,λ_=>?_⟩
   ·rw[e]at z;cases z
   ·show zM sL BL (k0 p m w wd T bs ts us C (.val<|.int (n:Int)) (.val<|ja a U I)<|.val<|ja Y b O)=_
    rw[jo,x];rfl)
 have z:YC (zF (m+1) λk=>(wd k:Int)) (ts.map tD) (us.map tD)=(HU<|m+1).map λk=>D.tup [.int (wd k:Int),tD<|ts.getD k o3,tD (us.getD k o3)]:=by rw[wX E.1,wX E.2];unfold YC zF;rw[Nm,Nm,Lb];rfl
 have e:Hc (k0 p m w wd T bs ts us C .no .no .no)=qH (.tp [9,10,11]) FT ((HU<|m+1).map λk=>D.tup [.int (wd k:Int),tD<|ts.getD k o3,tD (us.getD k o3)]) (k0 p m w wd T bs ts us C .no .no .no):=by rw[<- z];rfl
 rw[e];refine⟨λh=>?_,λh=>q.2 h⟩;obtain⟨Q,H,S,J,L,rfl⟩:=q.1 h;exact⟨S,J,L,H⟩
theorem JN(Y:0<p)(Z:p<=7)(C:m<=5)(J : ∀k,wd k<=60)(hT : ∀k i j,k<m->i<kv w wd k->j<kA w wd k->0<=T k i j/\T k i j<p)(L:bs.length<64)(ht : ∀t∈ts,A7 p t)(S : ∀t∈us,A7 p t) :
 jk [qh p m w wd T,qR bs ts us]=cq (.val<|.bl<|ic p m w wd T bs ts us):=by
 have E:=jI;rw[uQ];unfold ic;cases g1:eX ((m+1:Nat):Int) bs with
 | false=>
  simp only[Nd];exact jF (zo BK<|zo BJ<|zo BI<|by rw[jo,SS.2 g1];rfl)
 | true=>
  obtain⟨d,U⟩:=(SS (p:=p) (w:=w) (wd:=wd) (T:=T) (ts:=ts) (us:=us)).1 g1;have z:=Hh (p:=p) (m:=m) (w:=w) (wd:=wd) (T:=T) (ts:=ts) (us:=us) L d;cases g2:(vy bs && ZZ m ts us)with
  | false=>
   rw[g2,EQ ⋯]at z;have e:(di && vy bs && (ZZ m ts us && mJ p m wd ts us) && l0 (qh p m w wd<|jN p w wd (fT ts) (fT us) T) (BR p m w bs))=d7:=by rw[NQ,<- Bool.and_assoc,g2,Nd,Nd]
   rw[e];exact jF (zo BK<|zo BJ<|zo BI<|zo U<|by rw[jo,z];rfl)
  | true=>
   rw[g2,RY rfl]at z;rw[Ir]at g2;obtain⟨g2,I⟩:=g2;have O:=Hg (w:=w) (T:=T) (bs:=bs) Y Z C J ht S I d;cases g4:mJ p m wd ts us with
   | false=>
    simp only[Bool.and_false,Nd];exact jF (zo BK<|zo BJ<|zo BI<|zo U<|zo z<|by rw[jo,O.2 g4];rfl)
   | true=>
    obtain⟨g,a,b,O⟩:=O.1 g4;rw[g2,I];simp only[NQ,Oy];obtain⟨A,B⟩:=W8 I g4;have l:=QM (f:=fT ts) Y Z C J hT (rQ I g4 S);rw[<- A,<- B]at l;have r:=ym (p:=p) (w:=w) C L;have q:=Ba (pX p m w wd (jN p w wd (fT ts) (fT us) T)) (An (p:=p) (m:=m) (w:=w) (bs:=bs));have o:ig (zA (.str "")) (jv (zL (zP (zk 4)) (.nm 0) 1 [] jg (ed (zk 0) (zA (.int 0))))) (k0 p m w wd T bs ts us d g a b)=cq (.str (X5 m w)):=by
     have h:m<=lim:=by omega
     have st:Km ((HU m).map λk=>D.str<|xT<|i4<|w k)=cq ((HU m).map λk=>xT<|i4<|w k):=Xe _ _;have y:((HU m).map λk=>xT<|i4<|w k).all jM=di:=by simp only[LK];intro x n;obtain⟨k,_,rfl⟩:=IB.mp n;unfold i4;split<;>decide
     have s:jM "" = di:=by decide +kernel
     simp only[k0,sA,yk,yH,qI,xi,j9,Ih,Ij,zY,j8,Ia,Iv];rw[Yx,RY h,show z6 1 [] (k0 p m w wd T bs ts us d g a b)=[Cell.no]from rfl,bq];simp only[Iv,Ia,st];rw[RY ⟨by simpa using h,y,s⟩];rfl
    have u:N4 (k0 p m w wd T bs ts us d g a b)=cq (.ret<|.val<|.bl<|l0 (qh p m w wd<|jN p w wd (fT ts) (fT us) T)<|BR p m w bs):=by unfold N4;rw[Jx,vd,vp,vp,qe,qe,qe,xX,qe,qe,qe,xX,o];simp only[k0,qD,Ih,Ij,zT,Ia,Iv,l,r,oW,q]
    exact jF<|zo BK<|zo BJ<|zo BI<|zo U<|zo z<|zo O u
end
theorem tx:qT=jG 15 (zM I0<|zM O2<|zM Se<|zM Sf<|zM O3 S8):=rfl
noncomputable def Tb:=(zM (ZG 4 (ze 8)<|jZ<|zL (zP<|z5<|ed (zk 4)<|ze 8) (.nm 0) 1 [2,10] jg (zC xn (zC kK (ze 2)<|ze 0)<|ze 1))<|zM (jB 11<|ed (jv<|zL (jh<|ze 2) (.nm 0) 1 [2,10] (sB<|zC g8 (zC xn (zC kK (ze 0)<|ze 2)<|ze 1)<|zA<|.int 1) (ze 0))<|zA<|.int 0)<|ZH 5 12 (ze 8)<|zC xn (zC kK (ed (zk 12)<|ze 8)<|ze 11)<|ze 2)
noncomputable def S9:=(zM (ZG 4 (ze 9)<|jZ<|zL (VW (ed (zk 4)<|ze 9)<|ed (zk 4)<|ze 8) (.tp [0,1]) 2 [2,10] jg (zC xn (zC qr (ze 0)<|zC kK (ze 3)<|ze 1)<|ze 2))<|ZH 5 12 (ze 8)<|zC xn (zC XN (ed (zk 12)<|ze 8)<|zC kK (ze 10)<|ed (zk 12)<|ze 9)<|ze 2)
def O4:=(lp (sB<|zC g8 (ze 8)<|ze 9) Tb S9)
noncomputable def Ta:=(zM (jB 7<|zI jc<|zc (ze 0)<|zc (zC qr (ze 1)<|ze 6) zJ)<|zM (jB 8<|zC xn (ze 7)<|ze 3)<|zM (jB 9<|zC xn (zC QR (ze 7)<|ze 3)<|ze 3)<|zM (jB 10<|zC qr (zA<|.int 1)<|zC xn (zC QR (ze 7)<|zA<|.int 97)<|zC XN (ze 2)<|zA<|.int 1) O4)
theorem oi:Se=wZ (jh<|zC kK (zA<|.int 3)<|ze 3) (.nm 6) Ta:=rfl
section
variable{p:Int}{n:Nat}
theorem bF(Z:Pr p)(ac:n<=60)(h:Pair p n f g)(I:u<n)(C:o<n)(ht:1<=tm/\tm<p)(J L S am an:Cell) :
 ∃f' g' Rm b8,Pair p n f' g'/\O4 [J,L,.val<|.int p,.val<|.int n,.own<|jK n f,.nest<|qm n g,S,.val<|.int cell,.val<|.int u,.val<|.int o,.val<|.int tm,am,an,.no,.no]=cq (.next [J,L,.val<|.int p,.val<|.int n,.own<|jK n f',.nest<|qm n g',S,.val<|.int cell,.val<|.int u,.val<|.int o,.val<|.int tm,Rm,b8,.no,.no]):=by
 have hl:=jI;have ac:n<=lim:=by omega
 have Y:=Z.pos;have p7:=Z.le;have one:=Z.one;have r : ∀z:Int,0<=z%p/\z%p<p:=λz=>⟨La _ ⋯,IP _ Y⟩;have w : ∀x,XW tm x=di:=λx=>vc _ _ ⋯ ⋯;by_cases m:u=o
 ·subst m
  have as:zN (.nm 0) (sB<|zC g8 (zC xn (zC kK (ze 0)<|ze 2)<|ze 1)<|zA<|.int 1) (ze 0) [Cell.no,Cell.val<|.int p,Cell.val (.int tm)] (zF p.toNat λi=>(i:Int))=cq (((HU p.toNat).filter λ(i:Nat)=>decide<|(i:Int)*tm%p=1).map λ(i:Nat)=>D.int (i:Int)):=by rw[zX];refine jr _ _ _ λi l=>⟨_,rfl,?_,λ_=>rfl⟩;have Q:=HW.mp l;simp[vc (i:Int) tm ⋯ ⋯,Y]
  obtain⟨P,R,T,F⟩:=nF Z (x:=tm) ⋯ ht.2;cases hg:(HU p.toNat).filter λ(i:Nat)=>decide ((i:Int)*tm%p=1)with
  | nil=>
   have:=KZ hg P ⋯;simp[F]at this
  | cons b W=>
   obtain⟨X,G,_⟩:=wG hg;rw[hg]at as;have B:(b:Int)*tm%p=1:=by simpa using G
   have c4:(b:Int)<p:=by omega
   refine⟨λi j=>if i=u then tm*f u j%p else f i j,λi j=>if j=u then g i u*(b:Int)%p else g i j,.val<|.int (b:Int),.no,⟨λi j l O=>?_,λi j l O=>?_,?_,?_⟩,?_⟩
   ·by_cases e:i=u
    ·simp only[RY e];exact r _
    ·simp only[EQ e];exact h.bf i j l O
   ·by_cases e:j=u
    ·simp only[RY e];exact r _
    ·simp only[EQ e];exact h.bg i j l O
   ·refine WY (a:=tm) (b:=(b:Int)) (u:=u) (by rw[Ln,B,one]) h.fg (λi k _ _=>?_) (λk j _ _=>?_)
    ·by_cases e:i=u
     ·simp only[RY e];rw[ID,e]
     ·simp only[EQ e,MR]
    ·by_cases e:j=u
     ·simp only[RY e];rw[ID,e,Ln]
     ·simp only[EQ e,MR]
   ·refine YE (a:=tm) (b:=(b:Int)) (u:=u) (by rw[B,one]) h.gf (λi k _ _=>?_) (λk j _ _=>?_)
    ·by_cases e:i=u
     ·simp only[RY e];rw[ID,e]
     ·simp only[EQ e,MR]
    ·by_cases e:j=u
     ·simp only[RY e];rw[ID,e,Ln]
     ·simp only[EQ e,MR]
   ·have s:zN (.nm 0) jg (zC xn (zC kK (ze 2)<|ze 0)<|ze 1) [Cell.no,Cell.val<|.int p,Cell.val (.int tm)] (zF n<|f u)=cq (zF n λj=>tm*f u j%p):=by
     rw[zX,zX];refine zu _ _ λj O=>zw rfl rfl ?_;simp[w,Y]
    have A:=Ky I f (λi j=>if i=u then tm*f u j%p else f i j) (λj=>tm*f u j%p) (λj _=>by simp) (λi j _ U _=>by simp[U]);have y : ∀d:Cell,xI 5 12 (ze 8) (zC xn (zC kK (ed (zk 12)<|ze 8)<|ze 11)<|ze 2) [J,L,.val<|.int p,.val<|.int n,d,.nest<|qm n g,S,.val<|.int cell,.val<|.int u,.val<|.int u,.val<|.int tm,.val<|.int (b:Int),an,.no,.no] (qm n g)=cq (qm n λi j=>if j=u then g i u*(b:Int)%p else g i j):=λd=>by
     unfold qm;refine wu _ λk E=>⟨.int<|g k u*(b:Int)%p,u,u,?_,rfl,?_,Jm I _ _ _ ⋯ λi _ U=>by simp[U]⟩
     ·have q:=h.bg k u (HW.mp E) I
      have M:=vc (g k u) (b:Int) ⋯ ⋯;simp[yh,I,M,Y]
     ·simp[I]
    have H:inR p=di:=QN ⋯ ⋯;have N:p.toNat<=lim:=by omega
    simp[O4,Tb,jo,I,ac,z6,HZ,s,A,y,H,jS,N,as]
 ·refine⟨λi j=>if i=o then (f o j+tm*f u j)%p else f i j,λi j=>if j=u then (g i u - tm*g i o)%p else g i j,am,.no,⟨λi j l O=>?_,λi j l O=>?_,?_,?_⟩,?_⟩
  ·by_cases e:i=o
   ·simp only[RY e];exact r _
   ·simp only[EQ e];exact h.bf i j l O
  ·by_cases e:j=u
   ·simp only[RY e];exact r _
   ·simp only[EQ e];exact h.bg i j l O
  ·refine gU (t:=tm) (u:=o) (o:=u) C I (IT m) h.fg (λi k _ _=>?_) (λk j _ _=>?_)
   ·by_cases e:i=o
    ·simp only[RY e];rw[ID,e]
    ·simp only[EQ e,MQ,MS]
   ·by_cases e:j=u
    ·simp only[RY e];rw[ID,e,Int.neg_mul];rfl
    ·simp only[EQ e,MQ,MS]
  ·refine bC (t:=tm) (u:=o) (o:=u) C I (IT m) h.gf (λi k _ _=>?_) (λk j _ _=>?_)
   ·by_cases e:i=o
    ·simp only[RY e];rw[ID,e]
    ·simp only[EQ e,MQ,MS]
   ·by_cases e:j=u
    ·simp only[RY e];rw[ID,e,Int.neg_mul];rfl
    ·simp only[EQ e,MQ,MS]
  ·have s:zN (.tp [0,1]) jg (zC xn (zC qr (ze 0)<|zC kK (ze 3)<|ze 1)<|ze 2) [Cell.no,Cell.no,Cell.val<|.int p,Cell.val (.int tm)] ((HU n).map λj=>D.tup [.int (f o j),.int (f u j)])=cq (zF n λj=>(f o j+tm*f u j)%p):=by
    rw[zX];refine zu _ _ λj O=>zw rfl rfl ?_;simp[w,Y]
   have A:=Ky C f (λi j=>if i=o then (f o j+tm*f u j)%p else f i j) (λj=>(f o j+tm*f u j)%p) (λj _=>by simp) (λi j _ U _=>by simp[U]);have y : ∀d:Cell,xI 5 12 (ze 8) (zC xn (zC XN (ed (zk 12)<|ze 8)<|zC kK (ze 10)<|ed (zk 12)<|ze 9)<|ze 2) [J,L,.val<|.int p,.val<|.int n,d,.nest<|qm n g,S,.val<|.int cell,.val<|.int u,.val<|.int o,.val<|.int tm,am,an,.no,.no] (qm n g)=cq (qm n λi j=>if j=u then (g i u - tm*g i o)%p else g i j):=λd=>by
    unfold qm;refine wu _ λk E=>⟨.int<|(g k u - tm*g k o)%p,u,u,?_,rfl,?_,Jm I _ _ _ ⋯ λi _ U=>by simp[U]⟩
    ·simp[yh,I,C,w,Y]
    ·simp[I]
   have K : ¬((u:Int)=(o:Int)):=by omega
   simp[O4,S9,jo,m,K,I,C,ac,z6,HZ,wV,s,A,y]
end
section
variable{p:Int}{n:Nat}
theorem sZ(as:C.length<=63)(O:Pr p)(hn:n<=60)(h0:0<=at')(h1:at'<=10000) :
 ∃f g,Pair p n f g/\qT [xK C,.int at',.int p,.int n]=cq (.own [ja n n f,ja n n g]):=by
 have hl:=jI;have I:n<=lim:=by omega
 have p0:=O.pos;have two:=O.two;have p7:=O.le;have one:=O.one;have A : ∀i:Nat,zN (.nm 0) jg (xC<|zC g8 (ze 1)<|ze 0) [Cell.no,Cell.val (.int i)] ((HU n).map λ(j:Nat)=>D.int j)=cq (zF n<|ku i):=λi=>by
  rw[zX];refine zu _ _ λj hj=>zw rfl rfl ?_;by_cases e:i=j
  ·subst e;simp[ku]
  ·have e' : ¬((i:Int)=(j:Int)):=by omega
   simp[ku,e,e']
 have W:zN (.nm 0) jg (jZ<|zL (jh<|ze 1) (.nm 0) 1 [0] jg (xC<|zC g8 (ze 1)<|ze 0)) [Cell.no,Cell.val (.int n)] ((HU n).map λ(j:Nat)=>D.int j)=cq (jK n ku):=by unfold jK;refine zu _ _ λi x=>zw rfl rfl ?_;simp[I,jS,z6,HZ];rw[zX n λi=>(i:Int),A]
 have X:vm (.nm 0) (zL (jh<|ze 1) (.nm 0) 1 [0] jg (xC<|zC g8 (ze 1)<|ze 0)) [Cell.no,Cell.val (.int n)] ((HU n).map λ(j:Nat)=>D.int j)=cq (qm n ku):=by unfold qm;refine Yn _ λi x=>⟨_,rfl,?_⟩;simp[I,jS,z6,HZ];rw[zX n λi=>(i:Int),A]
 have Zz:Pair p n ku ku:=by
  have b : ∀i j:Nat,i<n->j<n->0<=ku i j/\ku i j<p:=λi j _ _=>by unfold ku;split<;>omega
  have u:JA p n ku ku:=λi j x hj=>by rw[zK (i:=i) x λk _ Z=>by unfold ku;rw[EQ (IT Z)];simp];simp[ku]
  exact⟨b,b,u,u⟩
 have s1:I0 (jm 15 [xK C,.int at',.int p,.int n])=cq (.next [.val (xK C),.val<|.int at',.val<|.int p,.val<|.int n,.own<|jK n ku,.no,.no,.no,.no,.no,.no,.no,.no,.no,.no]):=by show I0 [.val (xK C),.val<|.int at',.val<|.int p,.val<|.int n,.no,.no,.no,.no,.no,.no,.no,.no,.no,.no,.no]=_;unfold I0;simp[I,jS,z6,HZ];rw[zX n λi=>(i:Int),W]
 have s2:O2 [.val (xK C),.val<|.int at',.val<|.int p,.val<|.int n,.own<|jK n ku,.no,.no,.no,.no,.no,.no,.no,.no,.no,.no]=cq (.next [.val (xK C),.val<|.int at',.val<|.int p,.val<|.int n,.own<|jK n ku,.nest<|qm n ku,.no,.no,.no,.no,.no,.no,.no,.no,.no]):=by unfold O2;simp[I,jS,z6,HZ];rw[zX n λi=>(i:Int),X];simp[QI,I]
 have cm:XW 3 (n:Int)=di:=vc _ _ ⋯ ⋯;obtain⟨γ',M,f,g,w,s,r,l,d,a,z,y,rfl⟩:=QD (T:= .nm 6) (F:=Ta) (f:=zC kK (zA<|.int 3)<|ze 3)
  (λt γ=>∃f g w s r l d a z,Pair p n f g/\γ=[.val (xK C),.val<|.int at',.val<|.int p,.val<|.int n,.own<|jK n f,.nest<|qm n g,w,s,r,l,d,a,z,.no,.no])
  (3*n) ⋯ (γ:=[.val (xK C),.val<|.int at',.val<|.int p,.val<|.int n,.own<|jK n ku,.nest<|qm n ku,.no,.no,.no,.no,.no,.no,.no,.no,.no]) (by
    have:((3*n:Nat):Int)=3*(n:Int):=by omega
    rw[this];simp[cm]) ⟨ku,ku,.no,.no,.no,.no,.no,.no,.no,Zz,rfl⟩ (by
    rintro t ht γ ⟨f,g,w,s,r,l,d,a,z,y,rfl⟩;have B:0<n:=by omega
    obtain⟨J,P,b1⟩:=XT as (k:=at'+(t:Int)) ⋯ ⋯;generalize xo C (at'+(t:Int))=cell at J P b1;obtain⟨u,eu,hu⟩:=QC (m:=cell) (n:Int) ⋯;obtain⟨o,eo,ho⟩:=QC (m:=cell/(n:Int)) (n:Int) ⋯;have ch:=La (cell/97) (show p - 1≠0 by omega);have ci:=IP (cell/97) (show 0<p - 1 by omega);have bg:1<=1+cell/97%(p - 1)/\1+cell/97%(p - 1)<p:=by omega
    obtain⟨K,L,E,G,bi,es⟩:=bF O hn y (u:=u) (o:=o) (tm:=1+cell/97%(p - 1)) (cell:=cell) ⋯ ⋯ bg (.val<|xK C) (.val<|.int at') (.val<|.int t) a z;refine⟨[.val (xK C),.val<|.int at',.val<|.int p,.val<|.int n,.own<|jK n f,.nest<|qm n g,.val<|.int t,s,r,l,d,a,z,.no,.no],[.val (xK C),.val<|.int at',.val<|.int p,.val<|.int n,.own<|jK n K,.nest<|qm n L,.val<|.int t,.val<|.int cell,.val<|.int u,.val<|.int o,.val<|.int<|1+cell/97%(p - 1),E,G,.no,.no],rfl,?_,K,L,.val<|.int t,.val<|.int cell,.val<|.int u,.val<|.int o,.val<|.int<|1+cell/97%(p - 1),E,G,bi,rfl⟩;have H:(0:Int)<(n:Int):=by omega
    have pm:0<p - 1:=by omega
    have Q:(jB 7<|zI jc<|zc (ze 0)<|zc (zC qr (ze 1)<|ze 6) zJ) [.val (xK C),.val<|.int at',.val<|.int p,.val<|.int n,.own<|jK n f,.nest<|qm n g,.val<|.int t,s,r,l,d,a,z,.no,.no]=cq (.next [.val (xK C),.val<|.int at',.val<|.int p,.val<|.int n,.own<|jK n f,.nest<|qm n g,.val<|.int t,.val<|.int cell,r,l,d,a,z,.no,.no]):=by simp[J]
    have R:(jB 8<|zC xn (ze 7)<|ze 3) [.val (xK C),.val<|.int at',.val<|.int p,.val<|.int n,.own<|jK n f,.nest<|qm n g,.val<|.int t,.val<|.int cell,r,l,d,a,z,.no,.no]=cq (.next [.val (xK C),.val<|.int at',.val<|.int p,.val<|.int n,.own<|jK n f,.nest<|qm n g,.val<|.int t,.val<|.int cell,.val<|.int u,l,d,a,z,.no,.no]):=by simp[H,B,eu]
    have S:(jB 9<|zC xn (zC QR (ze 7)<|ze 3)<|ze 3) [.val (xK C),.val<|.int at',.val<|.int p,.val<|.int n,.own<|jK n f,.nest<|qm n g,.val<|.int t,.val<|.int cell,.val<|.int u,l,d,a,z,.no,.no]=cq (.next [.val (xK C),.val<|.int at',.val<|.int p,.val<|.int n,.own<|jK n f,.nest<|qm n g,.val<|.int t,.val<|.int cell,.val<|.int u,.val<|.int o,d,a,z,.no,.no]):=by
     have nb:(n:Int)<1073741824:=by omega
     simp[H,B,nb,eo]
    have br:1<p:=by omega
    have bv:(jB 10<|zC qr (zA<|.int 1)<|zC xn (zC QR (ze 7)<|zA<|.int 97)<|zC XN (ze 2)<|zA<|.int 1) [.val (xK C),.val<|.int at',.val<|.int p,.val<|.int n,.own<|jK n f,.nest<|qm n g,.val<|.int t,.val<|.int cell,.val<|.int u,.val<|.int o,d,a,z,.no,.no]=cq (.next [.val (xK C),.val<|.int at',.val<|.int p,.val<|.int n,.own<|jK n f,.nest<|qm n g,.val<|.int t,.val<|.int cell,.val<|.int u,.val<|.int o,.val<|.int<|1+cell/97%(p - 1),a,z,.no,.no]):=by simp[pm,br]
    exact zo Q<|zo R<|zo S<|zo bv es)
 rw[<- oi]at M;refine⟨f,g,y,?_⟩;have bx : ∀h:RK,zN (.nm 0) jg (zQ<|zk 0) [Cell.no] (jK n h)=cq (zW n n h):=λh=>by unfold jK zW;refine zu _ _ λi x=>zw rfl rfl ?_;simp
 have s4:Sf [.val (xK C),.val<|.int at',.val<|.int p,.val<|.int n,.own<|jK n f,.nest<|qm n g,w,s,r,l,d,a,z,.no,.no]=cq (.next [.val (xK C),.val<|.int at',.val<|.int p,.val<|.int n,.own<|jK n f,.nest<|qm n g,w,s,r,l,d,a,z,.own [],.no]):=rfl;have s5:O3 [.val (xK C),.val<|.int at',.val<|.int p,.val<|.int n,.own<|jK n f,.nest<|qm n g,w,s,r,l,d,a,z,.own [],.no]=cq (.next [.val (xK C),.val<|.int at',.val<|.int p,.val<|.int n,.val<|.lst<|jK n f,.val<|.lst<|jK n g,w,s,r,l,d,a,z,.own [ja n n f,ja n n g],.val (.lst<|jK n g)]):=by
  have l3:3<=lim:=by omega
  have l2:2<=lim:=by omega
  have N : ∀(acc:List D) (h:RK) (U Y:Cell),acc.length<=1->(xy 13<|xx<|zc (ze 3)<|zc (ze 3)<|zc (zQ<|jv<|zL (zP<|zk 14) (.nm 0) 1 [] jg (zQ<|zk 0)) zJ) [.val (xK C),.val<|.int at',.val<|.int p,.val<|.int n,U,Y,w,s,r,l,d,a,z,.own acc,.val (.lst<|jK n h)]=cq (.next [.val (xK C),.val<|.int at',.val<|.int p,.val<|.int n,U,Y,w,s,r,l,d,a,z,.own<|acc++[ja n n h],.val (.lst<|jK n h)]):=λacc h U Y ha=>by
   have la:acc.length<lim:=by omega
   have rl:(jK n h).length<=lim:=by rw[cE];exact I
   simp only[vS,wH,qe,xX,qD,q9,yH,qI,xi,j9,Ih,Ij,IS,Lj,Lw,LV,zT,zY,q8,yG,Ia,Iv,rl,if_true];rw[show z6 1 [] [Cell.val (xK C),.val<|.int at',.val<|.int p,.val<|.int n,U,Y,w,s,r,l,d,a,z,.own acc,.val (.lst<|jK n h)]=[Cell.no]from rfl,bx];simp only[Iv,Ia,l3,if_true,la,LU,LS];rfl
  have e:O3 [.val (xK C),.val<|.int at',.val<|.int p,.val<|.int n,.own<|jK n f,.nest<|qm n g,w,s,r,l,d,a,z,.own [],.no]=qH (.nm 14) (xy 13<|xx<|zc (ze 3)<|zc (ze 3)<|zc (zQ<|jv<|zL (zP<|zk 14) (.nm 0) 1 [] jg (zQ<|zk 0)) zJ) [.lst (jK n f),.lst ((qm n g).map D.lst)] [.val (xK C),.val<|.int at',.val<|.int p,.val<|.int n,.val<|.lst<|jK n f,.val<|.lst<|(qm n g).map D.lst,w,s,r,l,d,a,z,.own [],.no]:=rfl;rw[e,cD,jE];simp only[yV,Ia,LU,LS];rw[N [] f _ _ ⋯];simp only[Ia,MM];rw[jE];simp only[yV,Ia,LU,LS];rw[N [ja n n f] g _ _ (Ic 1)];rfl
 rw[tx];exact jF<|zo s1<|zo s2<|zo M<|zo s4<|zo s5 rfl
end
theorem Bi{C:List Int}(J:C.length<=63){r n:Nat}(L:0<r)(S:r<=6)(Z:n<=60) : ∃bs,xk [xK C,.int 8,.int r,.int n]=cq (.own<|zV bs)/\(∀b∈bs,WS r b)/\bs.length=n/\xl bs=bs:=by
 have G:=jI;have l:n<=lim:=by omega
 have g : ∀(k s:Nat) (acc:List (Int×Int)) (a d f:Cell),s+k=n->acc.length=s->(∀b∈acc,WS r b)->∃bs I O U,
  qH (.nm 5) (zM (jB 6<|zI jc<|zc (ze 0)<|zc (zC qr (ze 1)<|ze 5) zJ)<|zM (jB 7<|zC xn (ze 6)<|ze 2)<|xy 4<|xx<|zc (ze 7)<|zc (zC qr (ze 7)<|zC xn (zC QR (ze 6)<|zA<|.int 16)<|zC XN (ze 2)<|ze 7) zJ) ((NB s k).map λ(i:Nat)=>D.int i)
   [.val (xK C),.val<|.int 8,.val<|.int r,.val<|.int n,.own<|zV acc,a,d,f]=cq (.next [.val (xK C),.val<|.int 8,.val<|.int r,.val<|.int n,.own<|zV bs,I,O,U])/\(∀b∈bs,WS r b)/\bs.length=n:=by
  intro k
  induction k with
  | zero=>intro s acc a d f w j Y;exact⟨acc,a,d,f,rfl,Y,by omega⟩
  | succ k x=>
   intro s acc a d f w j Y;obtain⟨u,E,F⟩:=XT J (k:=8+(s:Int)) ⋯ ⋯;have m:=La (xo C<|8+(s:Int)) (show(r:Int)≠0 by omega);have o:=IP (xo C<|8+(s:Int)) (show(0:Int)<r by omega);have A:=La (xo C (8+(s:Int))/16) (show(r:Int) - xo C (8+(s:Int))%r≠0 by omega);have B:=IP (xo C (8+(s:Int))/16) (show(0:Int)<(r:Int) - xo C (8+(s:Int))%r by omega);obtain⟨bs,I,O,U,h,g1,g2⟩:=x (s+1) (acc++[(xo C (8+(s:Int))%r,xo C (8+(s:Int))%r+xo C (8+(s:Int))/16%((r:Int) - xo C (8+(s:Int))%r))]) (.val<|.int s) (.val<|.int<|xo C<|8+(s:Int)) (.val<|.int<|xo C (8+(s:Int))%r) ⋯ (by simp[j]) (λb z=>by
    rcases MN.mp z with z | z
    ·exact Y b z
    ·have e:b=_:=Ms.mp z
     subst e;exact⟨m,by show _<=_+_;omega,by show _+_<_;omega⟩)
   refine⟨bs,I,O,U,?_,g1,g2⟩;rw[<- h,MD,IQ,jE];have p:acc.length<lim:=by omega
   have y:(0:Int)<r:=by omega
   have H:(0:Int)<(r:Int) - xo C (8+(s:Int))%r:=by omega
   simp[jo,u,y,L,o,p];simp[zV]
 obtain⟨bs,I,O,U,h,g1,g2⟩:=g n 0 [] .no .no .no ⋯ rfl ⋯;refine⟨xl bs,?_,λb z=>g1 b<|(xN bs).mem_iff.mp z,by rw[(xN bs).length_eq,g2],vf<|xN bs⟩;rw[<- Mj]at h;simp[xk,jG,jm,jo,l,jS,HZ];rw[zX n λi=>(i:Int)];have t:(zV []:List D)=[]:=rfl;rw[t]at h;rw[h];simp[Ks (show bs.length<64 by omega)]
def hH(bs:List (Int×Int))(k:Nat):Nat:=(jH bs k).length
noncomputable def sm(w:RX)(bs:List (Int×Int))(k i j:Nat):Int:=if (jH bs<|z9 w k).getD i 0=(jH bs<|zR w k).getD j 0 then 1 else 0
theorem bQ(e b:List Nat):om e b=ja e.length b.length λi j=>if e.getD i 0=b.getD j 0 then 1 else 0:=by
 have h : ∀{β:Type} (g:Nat->β) (l:List Nat),l.map g=(HU l.length).map λi=>g (l.getD i 0):=λg l=>by
  conv=>lhs;rw[<- jd 0 l]
  rw[Lb];rfl
 unfold om ja zW zF;rw[h (λx=>D.tup<|b.map λy=>D.int<|if x=y then 1 else 0) e];simp only[h (λy=>D.int _) b]
theorem nQ(p:Int)(m:Nat)(w:RX)(bs:List (Int×Int)):BR p m w bs=qh p m w (hH bs) (sm w bs):=by
 have e:vo m w bs=jY m w (hH bs) (sm w bs):=by unfold vo jY;refine Iu λk _=>?_;rw[bQ];unfold xw;rw[vL,vt];rfl
 unfold BR qh;rw[e];rfl
theorem Bg{p:Int}(two:2<=p)(w:RX)(bs:List (Int×Int))(k i j:Nat):0<=sm w bs k i j/\sm w bs k i j<p:=by unfold sm;split<;>omega
theorem VL(z:0<p)(w:RX)(wd:RZ)(f g T:RV)(k i j:Nat):0<=jN p w wd f g T k i j/\jN p w wd f g T k i j<p:=
 ⟨La _ ⋯,IP _ z⟩
noncomputable def qW(m:Nat)(wd:RZ)(f:RV):List TB:=(HU<|m+1).map λk=>(wd k,wd k,f k)
theorem bN(m wd f):(qW m wd f).map tD=qN (m+1) wd f:=by unfold qW qN;rw[Lb];rfl
theorem Xd{m k:Nat}(wd f)(h:k<m+1):(qW m wd f).getD k o3=(wd k,wd k,f k):=by unfold qW;simp[HY,h]
theorem Ki(m wd f):(qW m wd f).length=m+1:=by simp[qW]
theorem eZ{m k:Nat}(wd f)(h:k<m+1):fT (qW m wd f) k=f k:=by unfold fT;rw[Xd wd f h]
section
variable{p:Int}{m:Nat}{w:RX}{wd:RZ}{f g T:RV}{bs:List (Int×Int)}
theorem JZ(I : ∀k,wd k<=60)(U : ∀k i j,k<m+1->i<wd k->j<wd k->0<=f k i j/\f k i j<p) : ∀t∈qW m wd f,A7 p t:=λt O=>by unfold qW at O;obtain⟨k,z,rfl⟩:=IB.mp O;have z:=HW.mp z;exact⟨I k,I k,λi j a Y=>U k i j z a Y⟩
theorem YQ(O:Pr p)(Y : ∀b∈bs,WS ((m+1:Nat):Int) b)(C:xl bs=bs)(U : ∀k,k<m+1->Pair p (hH bs k) (f k) (g k)) :
 ic p m w (hH bs) (jN p w (hH bs) f g<|sm w bs) bs (qW m (hH bs) g) (qW m (hH bs) f)=di:=by
 have o:=O.pos;have two:=O.two;have g1:eX ((m+1:Nat):Int) bs=di:=LK.mpr λb h=>by have q:=Y b h;unfold WS at q;exact decide_eq_true ⋯
 have g2:vy bs=di:=decide_eq_true C.symm;have g3:ZZ m (qW m (hH bs) g) (qW m (hH bs) f)=di:=decide_eq_true ⟨Ki ..,Ki ..⟩;have l:mJ p m (hH bs) (qW m (hH bs) g) (qW m (hH bs) f)=di:=LK.mpr λk z=>by
  have z:=HW.mp z;show u6 p (hH bs k) ((qW m (hH bs) g).getD k o3) ((qW m (hH bs) f).getD k o3)=di;rw[Xd _ _ z,Xd _ _ z];unfold u6;have e:pw p (hH bs k) (hH bs k,hH bs k,g k) (hH bs k,hH bs k,f k)=YM (hH bs k):=Zf λi j d I=>by
   have q:=(U k z).gf i j d I;show zg (λa=>g k i a*f k a j) (hH bs k)%p=_;rw[q];unfold ku;split
   ·exact LF ⋯ ⋯
   ·exact LF ⋯ ⋯
  rw[e,D8];simp
 have n:qh p m w (hH bs) (jN p w (hH bs) (fT<|qW m (hH bs) g) (fT<|qW m (hH bs) f)<|jN p w (hH bs) f g<|sm w bs)=BR p m w bs:=by rw[nQ];refine ip (λ_ _=>rfl) (λ_ _=>rfl) λk i j z d I=>?_;have q:=bJ (w:=w) (T:=sm w bs) U z (vL w (hH bs) k ▸ d) (vt w (hH bs) k ▸ I)<|Bg two w bs k i j;rw[<- q];show jN p w (hH bs) (fT<|qW m (hH bs) g) (fT<|qW m (hH bs) f) _ k i j=_;unfold jN;rw[eZ _ _ (XH w z),eZ _ _ (Jr w z)]
 unfold ic;rw[g1,g2,g3,l,n,D8];rfl
end
section
variable{p:Int}{n:Nat}
theorem gC(C:Pr p)(J:n<=20)(f:RK) : ∃r B l,h8 p (n+n) r B l/\(∀v,Span p (n+n) (fe r B) v↔Span p (n+n) (fe n λi=>yq n (f i)<|jT i) v)/\
 xZ [.int p,ja n n f]=cq (.val<|if l0 (.lst<|zW r n B) (.lst<|zW n n jT)=di then .tup [.int n,.int n,.tup (zW r n λk j=>B k<|n+j)]else .fh):=by
 have A:=jI;have z:n<=lim:=by omega
 have m:n+n<=lim:=by omega
 obtain⟨r,B,l,e,I,o⟩:=xt C (show n+n<=100 by omega) z .L λi=>yq n (f i)<|jT i;refine⟨r,B,l,I,o,?_⟩;have O:r<=lim:=by have:r<=n+n:=Y4 I.mono I.lt;omega
 have U:=yJ (n:=n) z;have a:zN (.tp [0,1]) jg (zC qr (ze 0)<|ze 1) [Cell.no,Cell.no] ((HU n).map λi=>D.tup [.tup (zF n<|f i),.tup (zF n λk=>if i=k then 1 else 0)])=cq (zW n (n+n) λi=>yq n (f i)<|jT i):=by unfold zW;refine zu _ _ λj y=>zw rfl rfl ?_;simp[qr,m,w9];rfl
 have Y:=gM n n f λi j=>if i=j then 1 else 0;have t:((n:Int)+(n:Int))=((n+n:Nat):Int):=by omega
 simp only[t4]at e;rw[<- t]at e;have d:zN (.nm 0) jg (cp (ze 0) af<|u9<|ze 1) [Cell.no,Cell.val (.int n)] (zW r (n+n) B)=cq (zW r n B):=by unfold zW;refine zu _ _ λk u=>zw rfl rfl ?_;simp[WM]
 have s:zN (.nm 0) jg (cp (ze 0) (u9<|ze 1) af) [Cell.no,Cell.val (.int n)] (zW r (n+n) B)=cq (zW r n λk j=>B k<|n+j):=by unfold zW;refine zu _ _ λk u=>zw rfl rfl ?_;simp[WL]
 have b:i0 (.lst<|zW r n B) (.lst<|zW n n λi j=>if i=j then 1 else 0)=cq (.bl<|!l0 (.lst<|zW r n B) (.lst<|zW n n jT)):=by unfold i0;rw[RY ⟨Wj _ _ _,Wj _ _ _⟩];rfl
 have g : ∀(h w:Nat) (f:RK),jX (ja h w f)=cq (.T,[.int h,.int w,.tup (zW h w f)]):=λ_ _ _=>rfl;by_cases q:l0 (.lst<|zW r n B) (.lst<|zW n n jT)=di
 ·rw[q]at b
  rw[RY q];simp[xZ,jG,jm,jo,g,U,Y,z,O,z6,x9,HZ,a,e,d,s,b]
 ·have x:l0 (.lst<|zW r n B) (.lst<|zW n n jT)=d7:=by simpa using q
  rw[x]at b;rw[EQ q];simp[xZ,jG,jm,jo,g,U,Y,z,O,z6,x9,HZ,a,e,d,b]
theorem VD(U:Pr p)(S:n<=20)(J:JA p n f g)(L:JA p n g f)(C : ∀i j,i<n->j<n->0<=g i j/\g i j<p):xZ [.int p,ja n n f]=cq (.val<|ja n n g):=by
 obtain⟨r,B,l,E,o,e⟩:=gC U S f;have two:=U.two;have one:=U.one;have x:h8 p (n+n) n (λk=>yq n (jT k)<|g k) id:={
  lt:=λk I=>by simp only[id];omega
  mono:=λk m I _=>I
  one:=λk I=>by simp only[id];rw[j7 I];exact RY rfl
  n0:=λk j I Y=>by simp only[id]at Y;rw[j7 ⋯];exact EQ ⋯
  t6:=λk m I F b=>by simp only[id];rw[j7 F];exact EQ ⋯
  m8:=λk i I a=>by
   rcases IG i n with z | z
   ·rw[j7 z];unfold jT;split<;>omega
   ·obtain⟨j,rfl⟩ : ∃j,i=n+j:=⟨i - n,by omega⟩
    rw[qk];exact C k j I ⋯}
 have t : ∀v,Span p (n+n) (fe n λk=>yq n (jT k)<|g k) v->Span p (n+n) (fe n λi=>yq n (f i)<|jT i) v:=λv O=>O.le λs h=>by
  obtain⟨k,I,d⟩:=h;subst d;refine(Span.sum (u:=λi=>yq n (f i)<|jT i) (λi=>g k i) (m:=n) λi a=> .gen ⟨i,a,rfl⟩).congr λj Y=>?_;rcases IG j n with z | z
  ·simp only[j7 z]
   exact(L k j I z).symm
  ·obtain⟨m,rfl⟩ : ∃m,j=n+m:=⟨j - n,by omega⟩
   simp only[qk];rw[zK (i:=m) ⋯ λi _ b=>by simp[jT,b]];simp[jT]
 have w : ∀v,Span p (n+n) (fe n λi=>yq n (f i)<|jT i) v->Span p (n+n) (fe n λk=>yq n (jT k)<|g k) v:=λv O=>O.le λs h=>by
  obtain⟨i,a,d⟩:=h;subst d;refine(Span.sum (u:=λk=>yq n (jT k)<|g k) (λk=>f i k) (m:=n) λk I=> .gen ⟨k,I,rfl⟩).congr λj Y=>?_;rcases IG j n with z | z
  ·simp only[j7 z]
   rw[zK (i:=j) z λk _ b=>by simp[jT,b]];simp[jT]
  ·obtain⟨m,rfl⟩ : ∃m,j=n+m:=⟨j - n,by omega⟩
   simp only[qk];exact(J i m a ⋯).symm
 obtain⟨rfl,_,u⟩:=Js U E x (λv O=>w v<|(o v).mp O)<|λv O=>(o v).mpr (t v O);have y:zW r r B=zW r r jT:=XJ λk i I a=>by rw[u k i I ⋯,j7 a]
 have A:zW r r (λk j=>B k<|r+j)=zW r r g:=XJ λk j I Y=>by rw[u k (r+j) I ⋯,qk]
 rw[e,y,RY<|D8 _,A];rfl
end
section
variable{wd:RZ}{m k N:Nat}{p:Int}{w:RX}{T:RV}{A:Nat->fA}
noncomputable def i6(A:Nat->fA)(N r:Nat):List Nat:=(HU N).filter λj=>(A j).has r
noncomputable def qy(A:Nat->fA)(N r:Nat):Nat->Nat->Int:=λi j=>(A<|(i6 A N r).getD j 0).v r i
theorem Ve{r j:Nat}(h:j<(i6 A N r).length):(i6 A N r).getD j 0<N/\(A<|(i6 A N r).getD j 0).has r=di:=by
 have d:(i6 A N r).getD j 0∈i6 A N r:=by rw[HY,HX h];exact Mr _
 obtain⟨a,b⟩:=IL.mp d;exact⟨HW.mp a,by simpa using b⟩
theorem Ke(I:Pr p)(C:n<=16)(O : ∀v:Vc,∃t,∀i,i<n->v i%p=app f n t i%p) : ∃g:RK,JA p n f g/\JA p n g f/\∀i j,0<=g i j/\g i j<p:=by
 have s:=I.pos;obtain⟨t,U⟩:=Ni λj=>O<|jT j;refine⟨λi j=>t j i%p,?_,?_,λi j=>⟨La _ ⋯,IP _ s⟩⟩
 ·intro i j d Y
  have e:zg (λk=>f i k*(t j k%p)) n%p=app f n (t j) i%p:=zH λk _=>vF p _ _;rw[e,<- U j i d];unfold jT ku;simp only[eq_comm]
 ·intro i j d Y
  have z : ∀a,a<n->app f n (λb=>zg (λk=>(t k b%p)*f k j) n - jT j b) a%p=0:=λa h=>by
   rw[Jv,vR f Y,Mh];have e:app f n (λb=>zg (λk=>(t k b%p)*f k j) n) a%p=f a j%p:=by
    have l:app f n (λb=>zg (λk=>(t k b%p)*f k j) n) a=zg (λk=>f k j*app f n (λb=>t k b%p) a) n:=by rw[<- ya];congr 1;funext b;exact qL ..
    rw[l];have m:zg (λk=>f k j*app f n (λb=>t k b%p) a) n%p=zg (λk=>f k j*jT k a) n%p:=zH λk _=>by rw[Ii,jJ (u:=t k) (λb _=>ID _ _) a,<- U k a h,<- Ii]
    rw[m,zK (f:=λk=>f k j*jT k a) h λk _ r=>by simp[jT,r]];simp[jT]
   rw[e];simp
  have:=vk I C O z i d;have o:(zg (λk=>(t k i%p)*f k j) n)%p=jT j i%p:=Mk.mpr this;show zg (λk=>(t k i%p)*f k j) n%p=ku i j%p;rw[o];unfold jT ku;simp only[eq_comm]
theorem ba:xM=jG 4 (zM Rc<|zM Rf<|zM Rg Rh):=rfl
theorem aZ{b:Nat}(J:Pr p)(S:b<=16)(Z:b*(m+1)<=48)(C : ∀k,wd k<=b)(hm:m<=5)(hT : ∀k i j,k<m->i<kv w wd k->j<kA w wd k->0<=T k i j/\T k i j<p) :
 ∃(N:Nat) (A:Nat->fA) (g:RV),N<=48/\(∀j,j<N->o7 p w wd T m (A j))/\(∀r,r<=m->(i6 A N r).length=wd r)/\(∀r,r<=m->JA p (wd r) (qy A N r) (g r)/\JA p (wd r) (g r) (qy A N r)/\∀i j,0<=g r i j/\g r i j<p)/\
  xl ((HU N).map λj=>X7<|A j)=((HU N).map λj=>X7<|A j)/\
  xM [qh p m w wd T]=cq (.val<|qR ((HU N).map λj=>X7<|A j) (qW m wd g)<|qW m wd λr=>qy A N r):=by
 have hl:=jI;obtain⟨a,I,H,F⟩:=XY (T:=T) (w:=w) J S Z C hm hT;obtain⟨ok,sp,W⟩:=I.perm<|ZC a;have K:(xP a).length=a.length:=(ZC a).length_eq;let A:Nat->fA:=λj=>(xP a).getD j gE;have Y:xP a=(HU a.length).map A:=by rw[<- K];exact(jd gE _).symm
 have l : ∀j,j<a.length->o7 p w wd T m (A j):=λj U=>ok _ (by
  rw[Y];exact IB.mpr ⟨j,HW.mpr U,rfl⟩)
 have cnt : ∀r,r<=m->(i6 A a.length r).length=wd r:=λr O=>by have:=W r O;rw[Y,OJ,Lm]at this;exact this
 have M : ∀r,r<=m->∀v:Vc,∃t,∀i,i<wd r->v i%p=app (qy A a.length r) (wd r) t i%p:=λr O v=>by
  have hv:Span p (wd r) (fe (wd r) λj i=>qy A a.length r i j) v:=(sp r O v).le λgg f=>by obtain⟨b,d,u,rfl⟩:=f;rw[Y]at d;obtain⟨j,U,rfl⟩:=IB.mp d;have P:j∈i6 A a.length r:=IL.mpr ⟨U,by simpa using u⟩;obtain⟨i,G,e⟩:=NS P;refine .gen ⟨i,by rw[<- cnt r O];exact G,?_⟩;funext c;show(A j).v r c=(A<|(i6 A a.length r).getD i 0).v r c;rw[HY,HX G];simp[e]
  exact Dc.mp hv
 have Q : ∀r,∃g:RK,r<=m->JA p (wd r) (qy A a.length r) g/\JA p (wd r) g (qy A a.length r)/\∀i j,0<=g i j/\g i j<p:=λr=>by
  by_cases O:r<=m
  ·obtain⟨g,h⟩:=Ke J (Lr (C r) S) (M r O)
   exact⟨g,λ_=>h⟩
  ·exact⟨λ_ _=>0,λz=>absurd z O⟩
 obtain⟨g,f⟩:=Ni Q;have eK:(xP a).map X7=(HU a.length).map λj=>X7 (A j):=by
  conv=>lhs;rw[Y,Lb]
  rfl
 refine⟨a.length,A,g,H,l,cnt,f,?_,?_⟩
 ·rw[<- eK,Kr]
  refine vf ?_;have:=(ZC a).map X7;rw[Kr]at this;exact this
 ·have x:a.length<=lim:=by omega
  have eL:((xP a).map (qf wd))=(HU a.length).map λj=>qf wd (A j):=by
   conv=>lhs;rw[Y,Lb]
   rfl
  rw[eL]at F;let L:D:= .lst ((HU a.length).map λj=>qf wd<|A j);have y : ∀j,j<a.length->(A j).s+(A j).n<=100:=λj U=>by have:=(l j U).le;omega
  have X:zN (.tp [0,1]) jg (zI xY<|zc (ze 1)<|zc (jZ<|jC qM<|zc (ze 2)<|zc (ze 0) zJ) zJ) [.no,.no,.val L] ((HU<|m+1).map λ(i:Nat)=>D.tup [.int i,.int (wd i:Nat)])=cq (qN (m+1) wd λr=>qy A a.length r):=by unfold qN;refine zu _ _ λr O=>zw rfl rfl ?_;have O:=HW.mp O;have E:=vj (wd:=wd) y x r;rw[Wp (wd r) (λj=>(A j).v r),show((HU a.length).filter λj=>(A j).has r)=i6 A a.length r from rfl,cnt r ⋯]at E;have bi:=C r;have o:=wy (q:=wd r) (h:=wd r) (λi=>(A<|(i6 A a.length r).getD i 0).v r) ⋯ ⋯;simp[-HY,L,E,o];rfl
  have o:zN (.nm 0) jg (zI xZ<|zc (ed (zk 1)<|zA<|.int 0)<|zc (ze 0) zJ) [.no,.val (qh p m w wd T)] (qN (m+1) wd λr=>qy A a.length r)=cq (qN (m+1) wd g):=by unfold qN;refine zu _ _ λr O=>zw rfl rfl ?_;have O:=HW.mp O;obtain⟨d,u,h3⟩:=f r ⋯;have e:=VD J (n:=wd r) (by have:=C r;omega) d u λi j _ _=>h3 i j;simp[yf,e]
  have e4:zN (.nm 0) jg (zI jW<|zc (ze 0) zJ) [.no] ((HU a.length).map λj=>qf wd<|A j)=cq (zV<|(HU a.length).map λj=>X7<|A j):=by unfold zV;rw[Lb];refine zu _ _ λj U=>zw rfl rfl ?_;have U:=HW.mp U;have e:=J0 (wd:=wd) (l j U).n1 (y j U);simp[e];exact⟨rfl,rfl⟩
  have ew:qu (zF (m+1) λk=>(wd k:Int))=(HU<|m+1).map λ(i:Nat)=>D.tup [.int i,.int (wd i:Nat)]:=WE _ _;have B:m+1<=lim:=by omega
  have R : ∀g:RV,(qN (m+1) wd g).length=m+1:=λg=>by simp[qN]
  rw[ba];refine jF<|zo (γ':=[.val (qh p m w wd T),.val L,.no,.no]) ?_ (zo (γ':=[.val (qh p m w wd T),.val L,.val<|.lst<|qN (m+1) wd λr=>qy A a.length r,.no]) ?_ (zo (γ':=[.val (qh p m w wd T),.val L,.val<|.lst<|qN (m+1) wd λr=>qy A a.length r,.val (.lst<|qN (m+1) wd g)]) ?_ ?_))
  ·simp[Rc,jm,HZ,F,L]
  ·simp[Rf,z6,yf,ew,B,X]
  ·simp[Rg,z6,R,B,o]
  ·unfold qR
   rw[bN,bN];simp[Rh,z6,L,x,e4]
end
section
variable{wd:RZ}{m k N:Nat}{p:Int}{w:RX}{T:RV}{A:Nat->fA}{g:RV}
noncomputable def j6(A:Nat->fA)(N:Nat):List (Int×Int):=(HU N).map λj=>X7<|A j
theorem rK{b:fA}(C:1<=b.n)(r:Nat):gJ (X7 b) (r:Int)=b.has r:=by
 unfold gJ X7 fA.has;dsimp only;congr 1
 ·exact decide_eq_decide.mpr ⋯
 ·exact decide_eq_decide.mpr ⋯
theorem kG(C : ∀j,j<N->1<=(A j).n)(r:Nat):jH (j6 A N) (r:Int)=i6 A N r:=by unfold jH i6 j6;simp only[IE,Ls];refine Pu λj z=>?_;have z:=HW.mp z;rw[HY,Le,NT z];exact rK (C j z) r
theorem K9(A N r):(i6 A N r).Nodup:=OC.sublist NV
theorem aF{L:List Nat}(h:L.Nodup){a b:Nat}(C:a<L.length)(z:b<L.length)(e:L.getD a 0=L.getD b 0):a=b:=by rw[HY,HY,HX C,HX z]at e;exact(List.getElem_inj h).mp e
theorem lS(O : ∀j,j<N->o7 p w wd T m (A j))(U:k<m){i b:Nat}(C:i<wd (z9 w k))(Y:b<(i6 A N<|zR w k).length) :
 zg (λa=>(if (i6 A N<|z9 w k).getD a 0=(i6 A N<|zR w k).getD b 0 then (1:Int)else 0)*qy A N (z9 w k) i a) (i6 A N<|z9 w k).length%p=app (T k) (wd<|zR w k) (λc=>qy A N (zR w k) c b) i%p:=by
 obtain⟨h,s⟩:=Ve Y;have q:=(O _ h).arr k U s i C;show _=app (T k) (wd<|zR w k) ((A<|(i6 A N<|zR w k).getD b 0).v (zR w k)) i%p;rw[q];congr 1;cases hx:(A<|(i6 A N<|zR w k).getD b 0).has (z9 w k)with
 | true=>
  have n:(i6 A N<|zR w k).getD b 0∈i6 A N (z9 w k):=IL.mpr ⟨HW.mpr h,by simpa using hx⟩;obtain⟨l,I,r⟩:=NS n;have d:(i6 A N<|z9 w k).getD l 0=(i6 A N<|zR w k).getD b 0:=by rw[<- r,HY,HX I];rfl
  rw[zK (f:=λa=>(if (i6 A N<|z9 w k).getD a 0=(i6 A N<|zR w k).getD b 0 then (1:Int)else 0)*qy A N (z9 w k) i a) I λa e o=>by rw[EQ λz=>o (aF (K9 A N _) e I<|z.trans d.symm)];simp]
  rw[RY d,RY rfl];unfold qy;rw[d];simp
 | false=>
  rw[EQ ⋯];rw[zx (g:=λ_=>0) λa e=>by
   rw[EQ λz=>by have:=(Ve e).2;rw[z,hx]at this;cases this]
   simp]
  exact zO _
theorem mM(S:Pr p)(O : ∀j,j<N->o7 p w wd T m (A j))(cnt : ∀r,r<=m->(i6 A N r).length=wd r)(C : ∀r,r<=m->JA p (wd r) (qy A N r) (g r))(J:k<m){i j:Nat}(L:i<wd (z9 w k))(z:j<wd (zR w k))(U:0<=T k i j/\T k i j<p) :
 T k i j=jN p w (hH<|j6 A N) (λr=>qy A N r) g (sm w<|j6 A N) k i j:=by
 have d : ∀j,j<N->1<=(A j).n:=λj z=>(O j z).n1;have I:zR w k<=m:=by unfold zR;split<;>omega
 have Y:z9 w k<=m:=by unfold z9;split<;>omega
 unfold jN;have l:hH (j6 A N) (zR w k)=wd (zR w k):=by unfold hH;rw[kG d,cnt _ I]
 have o:hH (j6 A N) (z9 w k)=wd (z9 w k):=by unfold hH;rw[kG d,cnt _ Y]
 rw[l,o];have e:zg (λb=>g (zR w k) b j*(zg (λa=>sm w (j6 A N) k a b*qy A N (z9 w k) i a) (wd<|z9 w k)%p)) (wd<|zR w k)%p
  = zg (λb=>g (zR w k) b j*app (T k) (wd<|zR w k) (λc=>qy A N (zR w k) c b) i) (wd<|zR w k)%p:=zH λb s=>by
  have:=lS (T:=T) (k:=k) O J L (b:=b) (by rw[cnt _ I];exact s);rw[cnt _ Y]at this;have f:zg (λa=>sm w (j6 A N) k a b*qy A N (z9 w k) i a) (wd<|z9 w k)=zg (λa=>(if (i6 A N<|z9 w k).getD a 0=(i6 A N<|zR w k).getD b 0 then (1:Int)else 0)*qy A N (z9 w k) i a) (wd<|z9 w k):=zx λa _=>by unfold sm;rw[kG d,kG d]
  rw[f,this,vF]
 have h:zg (λb=>g (zR w k) b j*app (T k) (wd<|zR w k) (λc=>qy A N (zR w k) c b) i) (wd<|zR w k)=app (T k) (wd<|zR w k) (λc=>zg (λb=>qy A N (zR w k) c b*g (zR w k) b j)<|wd<|zR w k) i:=by rw[<- ya];congr 1;funext c;exact qL ..
 rw[show(zg (λb=>g (zR w k) b j*(zg (λa=>sm w (j6 A N) k a b*(λr=>qy A N r) (z9 w k) i a) (wd<|z9 w k)%p)) (wd<|zR w k)%p)=_ from e,h,
  jJ (u:=jT j) (λc t=>by rw[C _ I c j t z];unfold ku jT;simp only[eq_comm]) i,vR (T k) z]
 exact(LF U.1 U.2).symm
end
structure q5(p:Int)(w:RX)(wd:RZ)(T:RV)(m N:Nat)(A:Nat->fA):Prop where
 ok : ∀j,j<N->o7 p w wd T m (A j)
 sp : ∀r,r<=m->∀v:Vc,∃t:Vc,∀i,i<wd r->v i%p=zg (λj=>if (A j).has r=di then t j*(A j).v r i else 0) N%p
 inj : ∀r,r<=m->∀t:Vc,(∀i,i<wd r->zg (λj=>if (A j).has r=di then t j*(A j).v r i else 0) N%p=0)->∀j,j<N->(A j).has r=di->t j%p=0
 cnt : ∀r,r<=m->(i6 A N r).length=wd r
noncomputable def Lk(p:Int)(w:RX)(wd:RZ)(T:RV)(k:Nat)(y z:Vc):Prop:=
 if w k=di then ∀i,i<wd k->y i%p=app (T k) (wd<|k+1) z i%p else ∀i,i<wd (k+1)->z i%p=app (T k) (wd k) y i%p
noncomputable def Wk(p:Int)(w:RX)(wd:RZ)(T:RV)(d:Nat):Nat->Vc->Vc->Prop
 | 0,u,z=>∀i,i<wd d->u i%p=z i%p
 | n+1,u,z=>∃y,Wk p w wd T d n u y/\Lk p w wd T (d+n) y z
section
variable{p:Int}{w:RX}{wd:RZ}{T:RV}{m N N':Nat}{A A':Nat->fA}{d:Nat}
theorem Y5(C:a%p=b%p)(I:a'%p=b'%p):(a+c*a')%p=(b+c*b')%p:=by rw[Lh,C,Ii,I,<- Ii,<- Lh]
theorem Bv(c:Int)(h:Lk p w wd T k y z)(h':Lk p w wd T k y' z'):Lk p w wd T k (λi=>y i+c*y' i) λi=>z i+c*z' i:=by
 unfold Lk at *;split
 ·next b=>
  rw[RY b]at h h';intro i a;rw[Y5 (h i a) (h' i a)];exact(Vw (λ_ _=>rfl) i).symm
 ·next b=>
  rw[EQ b]at h h';intro i a;rw[Y5 (h i a) (h' i a)];exact(Vw (λ_ _=>rfl) i).symm
theorem gp : ∀(n:Nat) {u z I O:Vc} (c:Int),Wk p w wd T d n u z->Wk p w wd T d n I O->Wk p w wd T d n (λi=>u i+c*I i) λi=>z i+c*O i
 | 0,u,z,I,O,c,h,h'=>λi a=>Y5 (h i a)<|h' i a
 | n+1,u,z,I,O,c,⟨y,h1,h2⟩,⟨y',TK,TL⟩=>⟨_,gp n c h1 TK,Bv c h2 TL⟩
theorem gy(k:Nat):Lk p w wd T k (λ_=>0) λ_=>0:=by unfold Lk;split<;>exact λi _=>by rw[Zn (λ_ _=>by simp) i];simp
theorem Jz : ∀n,Wk p w wd T d n (λ_=>0) λ_=>0
 | 0=>λ_ _=>rfl
 | n+1=>⟨_,Jz n,gy _⟩
theorem mN(h:Lk p w wd T k y z)(I : ∀i,i<wd (k+1)->z' i%p=z i%p):Lk p w wd T k y z':=by
 unfold Lk at *;split
 ·next b=>rw[RY b]at h;intro i a;rw[h i a];exact(jJ I i).symm
 ·next b=>rw[EQ b]at h;intro i a;rw[I i a,h i a]
theorem Bt : ∀{n:Nat} {u z I:Vc},Wk p w wd T d n u z->(∀i,i<wd (d+n)->I i%p=z i%p)->Wk p w wd T d n u I
 | 0,u,z,I,h,hz=>λi a=>by rw[h i a,hz i a]
 | n+1,u,z,I,⟨y,h1,h2⟩,hz=>⟨y,h1,mN h2 hz⟩
theorem mL : ∀{n:Nat} {u I z:Vc},Wk p w wd T d n u z->(∀i,i<wd d->I i%p=u i%p)->Wk p w wd T d n I z
 | 0,u,I,z,h,hu=>λi a=>by rw[hu i a,h i a]
 | n+1,u,I,z,⟨y,h1,h2⟩,hu=>⟨y,mL h1 hu,h2⟩
theorem nP(t:Vc)(u z:Nat->Vc) : ∀K,(∀j,j<K->Wk p w wd T d n (u j) (z j))->Wk p w wd T d n (λi=>zg (λj=>t j*u j i) K) λi=>zg (λj=>t j*z j i) K
 | 0,_=>Jz n
 | K+1,h=>gp n (t K) (nP t u z K λj I=>h j ⋯)<|h K ⋯
theorem mB(O:o7 p w wd T m b)(U:k<m)(C:b.has k=di)(J:b.has (k+1)=di):Lk p w wd T k (b.v k) (b.v<|k+1):=by
 unfold Lk;cases hw:w k with
 | true=>
  have z:zR w k=k+1:=by unfold zR;rw[hw];rfl
  have I:z9 w k=k:=by unfold z9;rw[hw];rfl
  rw[RY rfl];intro i a;have:=O.arr k U (by rw[z];exact J) i (by rw[I];exact a);rw[z,I,C,RY rfl]at this;exact this.symm
 | false=>
  have z:zR w k=k:=by unfold zR;rw[hw];rfl
  have I:z9 w k=k+1:=by unfold z9;rw[hw];rfl
  rw[EQ ⋯];intro i a;have:=O.arr k U (by rw[z];exact C) i (by rw[I];exact a);rw[z,I,J,RY rfl]at this;exact this.symm
theorem Zm(z:o7 p w wd T m b)(C:b.has d=di) : ∀n,d+n<=m->b.has (d+n)=di->Wk p w wd T d n (b.v d) (b.v<|d+n)
 | 0,_,_=>λ_ _=>rfl
 | n+1,hn,h2=>by have I:b.has (d+n)=di:=l6.mpr (by have:=l6.mp C;have:=l6.mp h2;omega);exact⟨_,Zm z C n ⋯ I,mB z ⋯ I h2⟩
theorem Vt(I:o7 p w wd T m b)(J:b.has d=di)(C:w (b.s+b.n - 1)=d7) : ∀n,d+n<=m->b.has (d+n)=d7->Wk p w wd T d n (b.v d) λ_=>0
 | 0,_,h2=>by rw[Nat.add_zero,J]at h2;cases h2
 | n+1,hn,h2=>by
  cases h3:b.has (d+n)with
  | false=>exact⟨_,Vt I J C n ⋯ h3,gy _⟩
  | true=>
   refine⟨_,Zm I J n ⋯ h3,?_⟩;have f:=l6.mp h3;have e : ¬(d+n+1<b.s+b.n):=λz=>by have:b.has (d+(n+1))=di:=l6.mpr ⋯;rw[this]at h2;cases h2
   have O:b.s+b.n - 1=d+n:=by omega
   rw[O]at C;have U:zR w (d+n)=d+n:=by unfold zR;rw[C];rfl
   have Y:z9 w (d+n)=d+n+1:=by unfold z9;rw[C];rfl
   have:=I.arr (d+n) ⋯;rw[U,Y]at this;unfold Lk;rw[C,EQ ⋯];intro i a;rw[this h3 i a,show b.has (d+n+1)=d7 from h2];simp
theorem vZ(D:q5 p w wd T m N A) : ∀n,d+n<=m->∀{u z:Vc},Wk p w wd T d n u z->∀{a b:Vc},(∀i,i<wd d->u i%p=zg (λj=>if (A j).has d=di then a j*(A j).v d i else 0) N%p)->(∀i,i<wd (d+n)->z i%p=zg (λj=>if (A j).has (d+n)=di then b j*(A j).v (d+n) i else 0) N%p)->
 ∀j,j<N->(A j).has d=di->((A j).has (d+n)=di->a j%p=b j%p)/\((A j).has (d+n)=d7->w ((A j).s+(A j).n - 1)=di->a j%p=0):=by
 have x : ∀r,r<=m->∀{v:Vc} {a b:Vc},(∀i,i<wd r->v i%p=zg (λj=>if (A j).has r=di then a j*(A j).v r i else 0) N%p)->(∀i,i<wd r->v i%p=zg (λj=>if (A j).has r=di then b j*(A j).v r i else 0) N%p)->∀j,j<N->(A j).has r=di->a j%p=b j%p:=λr X v a b F l j O U=>by
  have:=D.inj r X (λj=>a j - b j) (λi f=>by
   have e:zg (λj=>if (A j).has r=di then (a j - b j)*(A j).v r i else 0) N=zg (λj=>if (A j).has r=di then a j*(A j).v r i else 0) N+zg (λj=>(if (A j).has r=di then b j*(A j).v r i else 0)*(-1)) N:=by
    rw[<- jA];refine zx λj _=>?_;split
    ·rw[Int.sub_mul];omega
    ·simp
   rw[e,qK,Lh,<- F i f,Ii,<- l i f,<- Ii,<- Lh,show v i+v i * -1=0 by omega];simp) j O U
  exact Mk.mpr this
 have K : ∀k,k<m->∀(c:Vc) (r o:Nat),r=zR w k->o=z9 w k->∀i,i<wd o->app (T k) (wd r) (p5 p A N c r) i%p=zg (λj=>if (A j).has o=di then (if (A j).has r=di then c j else 0)*(A j).v o i else 0) N%p:=λk S c r o L M i f=>by
  rw[gc];refine zH λj O=>?_;cases hx:(A j).has r with
  | false=>simp
  | true=>
   have q:=(D.ok j O).arr k S (by rw[<- L];exact hx) i (by rw[<- M];exact f);rw[<- L,<- M]at q;simp only[if_true];rw[Ii,q,<- Ii];cases hy:(A j).has o<;>simp
 intro n
 induction n with
 | zero=>
  intro W u z B a b G t j O U;refine⟨λ_=>x d ⋯ G (λi f=>by rw[B i f];exact t i f) j O U,λh=>?_⟩;rw[Nat.add_zero,U]at h;cases h
 | succ n Z=>
  intro W u z B a b G t j O U;obtain⟨y,F,l⟩:=B;obtain⟨c,H⟩:=D.sp (d+n) ⋯ y;obtain⟨J,P⟩:=Z ⋯ F G H j O U;have Q : ∀i,i<wd (d+n)->y i%p=p5 p A N c (d+n) i%p:=λi f=>by rw[H i f];unfold p5;rw[ID]
  have R : ∀i,i<wd (d+n+1)->z i%p=p5 p A N b (d+n+1) i%p:=λi f=>by rw[t i f];unfold p5;rw[ID];rfl
  have qd:=l6.mp U;cases hw:w (d+n)with
  | false=>
   have C:zR w (d+n)=d+n:=by unfold zR;rw[hw];rfl
   have E:z9 w (d+n)=d+n+1:=by unfold z9;rw[hw];rfl
   unfold Lk at l;rw[hw,EQ ⋯]at l;have g:=x (d+n+1) ⋯ (v:=z) t (b:=λj=>if (A j).has (d+n)=di then c j else 0) λi f=>by rw[l i f,jJ Q i];exact K (d+n) ⋯ c (d+n) (d+n+1) C.symm E.symm i f
   refine⟨λh=>?_,λh Y=>?_⟩
   ·have I:(A j).has (d+n)=di:=l6.mpr (by have:=l6.mp h;omega)
    have:=g j O h;rw[I,RY rfl]at this;rw[J I,this]
   ·cases I:(A j).has (d+n)with
    | false=>exact P I Y
    | true=>
     have q3:=l6.mp I;have q2 : ¬(d+n+1<(A j).s+(A j).n):=λz=>by have:(A j).has (d+(n+1))=di:=l6.mpr ⋯;rw[this]at h;cases h
     rw[show(A j).s+(A j).n - 1=d+n by omega,hw]at Y;cases Y
  | true=>
   have C:zR w (d+n)=d+n+1:=by unfold zR;rw[hw];rfl
   have E:z9 w (d+n)=d+n:=by unfold z9;rw[hw];rfl
   unfold Lk at l;rw[hw,RY rfl]at l;have g:=x (d+n) ⋯ (v:=y) H (b:=λj=>if (A j).has (d+n+1)=di then b j else 0) λi f=>by rw[l i f,jJ R i];exact K (d+n) ⋯ b (d+n+1) (d+n) C.symm E.symm i f
   refine⟨λh=>?_,λh Y=>?_⟩
   ·have I:(A j).has (d+n)=di:=l6.mpr (by have:=l6.mp h;omega)
    have:=g j O I;rw[show(A j).has (d+n+1)=di from h,RY rfl]at this;rw[J I,this]
   ·cases I:(A j).has (d+n)with
    | false=>exact P I Y
    | true=>
     have:=g j O I;rw[show(A j).has (d+n+1)=d7 from h,EQ ⋯]at this;rw[J I,this];simp
end
section
variable{p:Int}{n:Nat}
theorem nG{l:RZ} : ∀{r:Nat},(∀k m,k<m->m<r->l k<l m)->∃j,j<=r/\∀k,k<r->l k≠j
 | 0,_=>⟨0,Ic _,λk I=>absurd I<|o1 _⟩
 | r+1,h=>by
  obtain⟨j,f,d⟩:=nG (r:=r) λk m a b=>h k m a ⋯;by_cases e:l r=j
  ·refine⟨r+1,Ic _,λk I=>?_⟩
   rcases IG k r with z | z
   ·have:=h k r z ⋯;omega
   ·rw[show k=r by omega];omega
  ·refine⟨j,by omega,λk I=>?_⟩
   rcases IG k r with z | z
   ·exact d k z
   ·rw[show k=r by omega];exact e
theorem AH(C:Pr p){h N:Nat}{f:RK}(inj : ∀t:Vc,(∀i,i<h->app f N t i%p=0)->∀j,j<N->t j%p=0):N<=h:=by
 rcases IG h N with a9 | a7
 ·exfalso
  obtain⟨r,A,B,l,b,x⟩:=ZJ (n:=N) C h f;obtain⟨O,y,a3⟩:=nG b.mono;have o:O<N:=by omega
  let t:Vc:=λj=>if j=O then 1 else zg (λk=>if l k=j then B k O*(-1)else 0) r;have u:t O=1:=RY rfl;have E : ∀k,k<r->t (l k)=B k O*(-1):=λk U=>by
   show(if l k=O then _ else _)=_;rw[EQ (a3 k U),zK (f:=λI=>if l I=l k then B I O*(-1)else 0) U λI Y a=>by
    rw[EQ λe=>a (by
     rcases NH I k with z | z | z
     ·have:=b.mono I k z U;omega
     ·exact z
     ·have:=b.mono k I z Y;omega)]]
   rw[RY rfl]
  have m : ∀k,k<r->zg (λj=>B k j*t j) N=0:=λk U=>by
   have e:zg (λj=>B k j*t j) N=zg (λj=>(if j=O then B k O else 0)+zg (λI=>if l I=j then B k (l I)*(B I O*(-1))else 0) r) N:=zx λj s=>by
    by_cases z:j=O
    ·subst z
     rw[u,RY rfl,zx (g:=λ_=>0) λI Y=>EQ<|a3 I Y,zO];simp
    ·show B k j*(if j=O then _ else _)=_
     rw[EQ z,EQ z,Int.zero_add,Ln,<- qK];refine zx λI Y=>?_;by_cases e:l I=j
     ·rw[RY e,RY e,<- e,Ln]
     ·rw[EQ e,EQ e];simp
   rw[e,jA,zK (f:=λj=>if j=O then B k O else 0) o<|λj _ a=>EQ a,RY rfl,qJ];have d:zg (λI=>zg (λj=>if l I=j then B k (l I)*(B I O*(-1))else 0) N) r=zg (λI=>B k (l I)*(B I O*(-1))) r:=zx λI Y=>by rw[zK (f:=λj=>if l I=j then B k (l I)*(B I O*(-1))else 0) (b.lt I Y) λj _ a=>EQ<|IT a,RY rfl]
   rw[d,zK (f:=λI=>B k (l I)*(B I O*(-1))) U λI Y a=>by rw[b.t6 k I U Y a];simp];rw[b.one k U];omega
  have:=inj t (λi w=>by
   have c:=wO b<|(x<|f i).mpr (.gen ⟨i,w,rfl⟩);unfold app;have e:zg (λj=>f i j*t j) N%p=zg (λj=>zg (λk=>f i (l k)*B k j) r*t j) N%p:=zH λj s=>by rw[Ii,c j s,<- Ii]
   rw[e];have d:zg (λj=>zg (λk=>f i (l k)*B k j) r*t j) N=zg (λk=>f i (l k)*zg (λj=>B k j*t j) N) r:=by rw[zx (g:=λj=>zg (λk=>f i (l k)*B k j*t j) r) λj _=>(qK _ _ _).symm,qJ];refine zx λk _=>?_;rw[<- jt];exact zx λj _=>Lx _ _ _
   rw[d,zx (g:=λ_=>0) λk U=>by rw[m k U,Mt],zO];simp) O o
  rw[u,C.one]at this;cases this
 ·exact a7
theorem VQ(W:Nat->Vc)(t:Vc):Span p n (fe m W) λi=>zg (λj=>t j*W j i) m:=Span.sum (u:=W) t λj z=> .gen ⟨j,z,rfl⟩
theorem AY(z:Pr p)(I:h8 p n s B l)(sp : ∀v,Span p n (fe s B) v↔Span p n (fe m W) v)(O : ∀t:Vc,(∀i,i<n->zg (λj=>t j*W j i) m%p=0)->∀j,j<m->t j%p=0):m=s:=by
 have d:s<=m:=by obtain⟨r,g,U⟩:=ZJ (n:=n) z m W;have:=vh z (m:=m) (W:=W) ⟨B,l,I,sp⟩ U;omega
 have h:s<=n:=YS I;have e:m<=s:=AH z (f:=λi j=>W j<|l i) λt Y=>O t λi a=>by
  have c:=wO I ((sp _).mpr (VQ (n:=n) W t)) i a;rw[c];have:zg (λk=>zg (λj=>t j*W j (l k)) m*B k i) s%p=zg (λ_=>0) s%p:=zH λk b=>by have:=Y k b;unfold app at this;rw[qL]at this;rw[Ii,this];simp
  rw[this,zO];simp
 omega
theorem ma(hp:Pr p){s q c:Nat}{B C V:Nat->Vc}{l J:RZ}(hX:h8 p n s B l)(U:h8 p n q C J)(S : ∀j,j<c->Span p n (fe s B) (V j))(L : ∀v,Span p n (fe q C) v->Span p n (fe s B) v)
 (S0 : ∀v,Span p n (fe s B) v->∃t:Vc,Span p n (fe q C) λi=>v i - zg (λj=>t j*V j i) c) (Z : ∀t:Vc,Span p n (fe q C) (λi=>zg (λj=>t j*V j i) c)->∀j,j<c->t j%p=0):q+c=s:=by
 let W:Nat->Vc:=λj=>if j<q then C j else V (j - q);have Y : ∀j,j<q->W j=C j:=λj I=>RY I;have o : ∀j,W (q+j)=V j:=λj=>by show(if q+j<q then _ else _)=_;rw[EQ ⋯,Ma]
 have w : ∀t:Vc,∀i,zg (λj=>t j*W j i) (q+c)=zg (λj=>t j*C j i) q+zg (λj=>t (q+j)*V j i) c:=λt i=>by
  rw[Kj];congr 1
  ·exact zx λj I=>by rw[Y j I]
  ·exact zx λj I=>by rw[o j]
 refine AY hp hX (W:=W) (λv=>⟨λm=>?_,λm=>m.le λg b=>?_⟩) λt r=>?_
 ·obtain⟨t,h⟩:=S0 v m
  have a:Span p n (fe (q+c) W) λi=>v i - zg (λj=>t j*V j i) c:=h.le λg b=>by obtain⟨k,O,rfl⟩:=b;rw[<- Y k O];exact .gen ⟨k,by omega,rfl⟩
  have A:Span p n (fe (q+c) W) λi=>zg (λj=>t j*V j i) c:=Span.sum t λj I=>by rw[<- o j];exact .gen ⟨q+j,by omega,rfl⟩
  exact(A.add a 1).congr λi _=>by rw[MR,Int.sub_add_cancel]
 ·obtain⟨k,O,rfl⟩:=b
  rcases IG k q with z | z
  ·rw[Y k z];exact L _<|.gen ⟨k,z,rfl⟩
  ·obtain⟨j,rfl⟩ : ∃j,k=q+j:=⟨k - q,by omega⟩
   rw[o j];exact S j ⋯
 ·have u : ∀j,j<c->t (q+j)%p=0:=Z (λj=>t<|q+j) ((VQ (n:=n) C λj=> -1*t j).congr λi d=>by
   have:=r i d;rw[w]at this;have e:zg (λj=> -1*t j*C j i) q=zg (λj=>t j*C j i) q * -1:=by rw[<- qK];exact zx λj _=>by rw[Ln (-1),Lx,Ln (-1),Lx]
   rw[e];refine Mk.mpr ?_;rw[<- this];congr 1;omega)
  intro j I;rcases IG j q with z | z
  ·have y : ∀i,i<n->zg (λj=>t j*C j i) q%p=0:=λi d=>by
    have:=r i d;rw[w,Lh]at this;have e:zg (λj=>t (q+j)*V j i) c%p=zg (λ_=>0) c%p:=zH λj I=>by rw[Ii,u j I];simp
    rw[e,zO]at this;simpa using this
   have a:=y (J j)<|U.lt j z;rw[zK (f:=λk=>t k*C k (J j)) z λk O x=>by rw[U.t6 k j O z (IT x)];simp]at a;rw[U.one j z,NI]at a;exact a
  ·obtain⟨k,rfl⟩ : ∃k,j=q+k:=⟨j - q,by omega⟩
   exact u k ⋯
end
noncomputable def p9(A:Nat->fA)(N d e:Nat):List Nat:=(HU N).filter λj=>(A j).has d && (A j).has e
section
variable{p:Int}{w:RX}{wd:RZ}{T:RV}{m N n:Nat}{A:Nat->fA}{d:Nat}
theorem fL(z:k<(p9 A N d e).length):(p9 A N d e).getD k 0<N/\(A<|(p9 A N d e).getD k 0).has d=di/\(A<|(p9 A N d e).getD k 0).has e=di:=by
 have f:(p9 A N d e).getD k 0∈p9 A N d e:=by rw[HY,HX z];exact Mr _
 obtain⟨b,a⟩:=IL.mp f;simp only[Ir]at a;exact⟨HW.mp b,a.1,a.2⟩
theorem Bb(D:q5 p w wd T m N A)(C:d<=m)(e:Nat):(p9 A N d e).length<=wd d:=by rw[<- D.cnt d C];unfold p9 i6;rw[<- Lm,<- Lm];exact List.countP_mono_left λj _ h=>by simp only[Ir]at h;exact h.1
theorem mj(d e:Nat)(t:Vc) : ∃a:Vc,∀k,k<(p9 A N d e).length->a ((p9 A N d e).getD k 0)=t k:=by refine⟨λj=>t<|(p9 A N d e).idxOf j,λk z=>?_⟩;have b:(p9 A N d e).Nodup:=OC.sublist NV;show t _=_;rw[HY,HX z,Nb,b.idxOf_getElem _ z]
theorem fK(d e:Nat)(a:Vc)(i:Nat):zg (λk=>a ((p9 A N d e).getD k 0)*(A<|(p9 A N d e).getD k 0).v d i) (p9 A N d e).length=zg (λj=>if (A j).has d=di then (if (A j).has e=di then a j else 0)*(A j).v d i else 0) N:=by have:=yM (λj=>(A j).has d && (A j).has e) (λj=>a j*(A j).v d i) N;refine this.trans<|zx λj _=>?_;cases (A j).has d<;>cases (A j).has e<;>simp
theorem Wx(Z:Pr p)(D:q5 p w wd T m N A)(C:d+n<=m){s q:Nat}{B J:Nat->Vc}{l l2:RZ}(S:h8 p (wd d) s B l)(U : ∀u,Span p (wd d) (fe s B) u ↔ ∃z,Wk p w wd T d n u z)
 (L:h8 p (wd d) q J l2) (Y : ∀u,Span p (wd d) (fe q J) u↔Wk p w wd T d n u λ_=>0):q+(p9 A N d<|d+n).length=s:=by
 have Q:=Bb D (show d<=m by omega)<|d+n;have R:=YS L;refine ma Z S L (V:=λk=>(A<|(p9 A N d<|d+n).getD k 0).v d) (λk I=>?_) (λv y=>(U v).mpr ⟨_,(Y v).mp y⟩) (λv y=>?_) λt M=>?_
 ·obtain⟨f,g,O⟩:=fL I
  exact(U _).mpr ⟨_,Zm (D.ok _ f) g n C O⟩
 ·obtain⟨z,E⟩:=(U v).mp y
  obtain⟨a,o⟩:=D.sp d ⋯ v;obtain⟨b,H⟩:=D.sp (d+n) C z;have r:=vZ D n C E o H;refine⟨λk=>a<|(p9 A N d<|d+n).getD k 0,(Y _).mpr ?_⟩;let u:Nat->Vc:=λj=>if (A j).has d=di/\(A j).has (d+n)=d7/\w ((A j).s+(A j).n - 1)=d7 then (A j).v d else λ_=>0;have P : ∀j,j<N->Wk p w wd T d n (u j) λ_=>0:=λj x=>by
   show Wk p w wd T d n (if _ then _ else _) _;split
   ·next h=>exact Vt (D.ok j x) h.1 h.2.2 n C h.2.1
   ·exact Jz n
  have K:=nP a u (λ_ _=>0) N P;refine Bt (mL K λi F=>?_) λi _=>by simp[zO]
  rw[fK d (d+n) a i];rw[Mh,o i F,<- Mh];have e:zg (λj=>if (A j).has d=di then a j*(A j).v d i else 0) N - zg (λj=>if (A j).has d=di then (if (A j).has (d+n)=di then a j else 0)*(A j).v d i else 0) N=zg (λj=>(if (A j).has d=di then a j*(A j).v d i else 0)+(if (A j).has d=di then (if (A j).has (d+n)=di then a j else 0)*(A j).v d i else 0) * -1) N:=by rw[jA,qK];omega
  rw[e];refine zH λj x=>?_;show _=a j*(if _ then (A j).v d else λ_=>0) i%p;cases f:(A j).has d with
  | false=>simp
  | true=>
   cases g:(A j).has (d+n)with
   | true=>
    have G:a j*(A j).v d i+a j*(A j).v d i * -1=0:=by omega
    simp only[if_true,G,Bool.true_eq_false,false_and,and_false,if_false,Mt]
   | false=>
    cases O:w ((A j).s+(A j).n - 1)with
    | false=>simp
    | true=>
     have:=(r j x f).2 g O;simp only[if_true,LZ,if_false,MQ,MS,Mt,Bool.true_eq_false,and_false];rw[Ii,this];simp
 ·obtain⟨a,o⟩:=mj (A:=A) (N:=N) d (d+n) t
  have E:=(Y _).mp M;have r:=vZ D n C E (a:=λj=>if (A j).has (d+n)=di then a j else 0) (b:=λ_=>0) (λi F=>by
   rw[<- fK d (d+n) a i];congr 1;exact zx λk I=>by rw[o k I]) (λi _=>by
   have:zg (λj=>if (A j).has (d+n)=di then 0*(A j).v (d+n) i else 0) N=zg (λ_=>0) N:=zx λj _=>by simp
   rw[this,zO])
  intro k I;obtain⟨f,g,O⟩:=fL I;have:=(r _ f g).1 O;rw[O,RY rfl,o k I]at this;simpa using this
end
section
variable{p:Int}{w:RX}{wd:RZ}{T:RV}{m N:Nat}{A:Nat->fA}
theorem lN(r:Nat)(t:Vc) : ∃a:Vc,∀k,k<(i6 A N r).length->a ((i6 A N r).getD k 0)=t k:=by refine⟨λj=>t<|(i6 A N r).idxOf j,λk z=>?_⟩;show t _=_;rw[HY,HX z,Nb,(K9 A N r).idxOf_getElem _ z]
theorem eC(r:Nat)(a:Vc)(i:Nat):zg (λj=>if (A j).has r=di then a j*(A j).v r i else 0) N=app (qy A N r) (i6 A N r).length (λk=>a<|(i6 A N r).getD k 0) i:=by have:=yM (λj=>(A j).has r) (λj=>a j*(A j).v r i) N;rw[<- this];unfold app;rw[qL];rfl
theorem AE(z:j<N)(I:(A j).has r=di) : ∃k,k<(i6 A N r).length/\(i6 A N r).getD k 0=j:=by have O:j∈i6 A N r:=IL.mpr ⟨HW.mpr z,by simpa using I⟩;obtain⟨i,a,e⟩:=NS O;exact⟨i,a,by rw[HY,HX a];simpa using e⟩
theorem rW(Y:Pr p)(a0 : ∀k,wd k<=16)(ok : ∀j,j<N->o7 p w wd T m (A j))(cnt : ∀r,r<=m->(i6 A N r).length=wd r)(U : ∀r,r<=m->∀v:Vc,∃t,∀i,i<wd r->v i%p=app (qy A N r) (wd r) t i%p):q5 p w wd T m N A where
 ok:=ok
 cnt:=cnt
 sp:=λr z v=>by obtain⟨t,I⟩:=U r z v;obtain⟨a,ha⟩:=lN (A:=A) (N:=N) r t;refine⟨a,λi hi=>?_⟩;rw[I i hi,eC,cnt r z];unfold app;congr 1;exact zx λk O=>by show _=_*a _;rw[ha k (by rw[cnt r z];exact O)]
 inj:=λr z t I j hj hh=>by
  obtain⟨k,O,e⟩:=AE hj hh;have:=vk Y (a0 r) (U r z) (t:=λk=>t<|(i6 A N r).getD k 0) (λi hi=>by have:=I i hi;rw[eC,cnt r z]at this;exact this) k (by rw[<- cnt r z];exact O)
  rw[e]at this;exact this
end
section
variable{p:Int}{w:RX}{wd:RZ}{T f g:RV}{m N:Nat}{A:Nat->fA}
theorem Vv(F G:RK)(n k:Nat)(u:Vc)(i:Nat):app F n (app G k u) i=zg (λj=>zg (λb=>F i b*G b j) n*u j) k:=by
 unfold app;have e:zg (λb=>F i b*zg (λj=>G b j*u j) k) n=zg (λb=>zg (λj=>F i b*G b j*u j) k) n:=zx λb _=>by rw[<- jt];exact zx λj _=>(Lx _ _ _).symm
 rw[e,qJ];exact zx λj _=>qK _ _ _
theorem wW(h:JA p n F G)(u:Vc)(C:i<n):app F n (app G n u) i%p=u i%p:=by
 rw[Vv];have e:zg (λj=>zg (λb=>F i b*G b j) n*u j) n%p=zg (λj=>ku i j*u j) n%p:=zH λj z=>by rw[Ii,h i j C z,<- Ii]
 rw[e,zK (f:=λj=>ku i j*u j) C λj _ I=>by unfold ku;rw[EQ (IT I),MQ]];unfold ku;rw[RY rfl,MR]
theorem gX(k:Nat)(u:Vc)(i:Nat):app (jN p w wd f g T k) (wd<|zR w k) u i%p=app (f<|z9 w k) (wd<|z9 w k) (app (T k) (wd<|zR w k)<|app (g<|zR w k) (wd<|zR w k) u) i%p:=by
 rw[Vv];show _=app (λi b=>zg (λa=>f (z9 w k) i a*T k a b)<|wd<|z9 w k) (wd<|zR w k) (app (g<|zR w k) (wd<|zR w k) u) i%p;rw[Vv];have e:app (jN p w wd f g T k) (wd<|zR w k) u i%p=zg (λj=>zg (λb=>zg (λa=>f (z9 w k) i a*T k a b) (wd<|z9 w k)*g (zR w k) b j) (wd<|zR w k)*u j) (wd<|zR w k)%p:=by
  unfold app;refine zH λj _=>?_;rw[Ii];have d:jN p w wd f g T k i j%p=zg (λb=>zg (λa=>f (z9 w k) i a*T k a b) (wd<|z9 w k)*g (zR w k) b j) (wd<|zR w k)%p:=by unfold jN;rw[ID];refine zH λb _=>?_;rw[Ii,ID,<- Ii,Ln,zx (g:=λa=>f (z9 w k) i a*T k a b) λa _=>Ln _ _]
  rw[d,<- Ii]
 exact e
noncomputable def Kf(p:Int)(wd:RZ)(f:RV)(x:fA):fA:=⟨x.s,x.n,λr i=>app (f r) (wd r) (x.v r) i%p⟩
theorem Zs(x:fA)(r i:Nat):(Kf p wd f x).v r i%p=app (f r) (wd r) (x.v r) i%p:=ID _ _
theorem tJ(q:RX)(t:Vc)(F:RK)(n r i:Nat)(X:Nat->fA):zg (λj=>if q j=di then t j*app F n ((X j).v r) i else 0) N=app F n (λi=>zg (λj=>if q j=di then t j*(X j).v r i else 0) N) i:=by
 have a:(λi=>zg (λj=>if q j=di then t j*(X j).v r i else 0) N)=λi=>zg (λj=>(if q j=di then t j else 0)*(X j).v r i) N:=by funext i;exact zx λj _=>by split<;>simp
 rw[a,ya F n (λj=>if q j=di then t j else 0) (λj=>(X j).v r) N i];exact zx λj _=>by split<;>simp
theorem bI(L:0<p)(J : ∀r,r<=m->JA p (wd r) (f r) (g r))(C : ∀r,r<=m->JA p (wd r) (g r) (f r))(D:q5 p w wd T m N A):q5 p w wd (jN p w wd f g T) m N λj=>Kf p wd f (A j):=by
 have B : ∀z:Int,0<=z%p/\z%p<p:=λz=>⟨La _ ⋯,IP _ L⟩;have h : ∀r i (t:Vc),zg (λj=>if (A j).has r=di then t j*(Kf p wd f<|A j).v r i else 0) N%p=app (f r) (wd r) (λi=>zg (λj=>if (A j).has r=di then t j*(A j).v r i else 0) N) i%p:=λr i t=>by
  rw[<- tJ (λj=>(A j).has r) t (f r) (wd r) r i A];refine zH λj _=>?_;split
  ·rw[Ii,Zs,<- Ii]
  ·rfl
 refine⟨λj O=>?_,λr I v=>?_,λr I t U j O Y=>?_,D.cnt⟩
 ·have b:=D.ok j O
  refine⟨b.n1,b.le,λr i _ _=>B _,λk l Y i d=>?_⟩;have n:zR w k<=m:=by have:=Jr w l;omega
  have e:(A j).has (zR w k)=di:=Y;rw[gX];have o : ∀x,x<wd (zR w k)->app (g<|zR w k) (wd<|zR w k) ((Kf p wd f<|A j).v (zR w k)) x%p=(A j).v (zR w k) x%p:=λx a=>by rw[jJ (u:=app (f<|zR w k) (wd<|zR w k)<|(A j).v (zR w k)) (λy _=>Zs _ _ _),wW (C _ n) _ a]
  have s : ∀x,x<wd (z9 w k)->app (T k) (wd<|zR w k) (app (g<|zR w k) (wd<|zR w k)<|(Kf p wd f<|A j).v (zR w k)) x%p=(if (A j).has (z9 w k)=di then (A j).v (z9 w k) x else 0)%p:=λx a=>by rw[jJ (u:=(A j).v (zR w k)) o];exact b.arr k l e x a
  rw[jJ s];show _=(if (A j).has (z9 w k)=di then (Kf p wd f<|A j).v (z9 w k) i else 0)%p;by_cases a:(A j).has (z9 w k)=di
  ·simp only[a,if_true]
   exact(Zs _ _ _).symm
  ·simp only[a,if_false]
   rw[Zn (λ_ _=>by simp) i];simp
 ·obtain⟨t,U⟩:=D.sp r I (app (g r) (wd r) v)
  refine⟨t,λi d=>?_⟩;show _=zg (λj=>if (A j).has r=di then t j*(Kf p wd f<|A j).v r i else 0) N%p;rw[h,<- wW (J r I) v d];exact jJ U i
 ·have e:(A j).has r=di:=Y
  refine D.inj r I t (λi d=>?_) j O e;have z : ∀x,x<wd r->app (f r) (wd r) (λi=>zg (λj=>if (A j).has r=di then t j*(A j).v r i else 0) N) x%p=0:=λx a=>by rw[<- h];exact U x a
  rw[<- wW (C r I) (λi=>zg (λj=>if (A j).has r=di then t j*(A j).v r i else 0) N) d];exact Zn z i
end
noncomputable def AK:CO D:=jZ<|jC qT<|zc (ze 2)<|zc (zC qr (ze 3)<|zC kK (zA<|.int 20)<|ze 0)<|zc (ed (zk 4)<|zA<|.int 0)<|zc (ze 1) zJ
noncomputable def Wz:=jB 3<|jZ<|zL (Kx<|ed (zk 2)<|zA<|.int 1) (.tp [0,1]) 2 [0,1,2] jg AK
noncomputable def eT:=qA<|zI qa<|zc (ze 2)<|zc (jZ<|zL (zP<|zk 3) (.nm 0) 1 [] jg (ed (zk 0)<|zA<|.int 0))<|zc (jZ<|zL (zP<|zk 3) (.nm 0) 1 [] jg (ed (zk 0)<|zA<|.int 1)) zJ
def xq:=jG 4<|zM Wz eT
noncomputable def gV(p:Int)(a b:Nat)(c:Int)(v:Vc):Vc:=λi=>if i=b then (v b+c*v a)%p else v i
def Hj(S E:RZ)(j:Nat):fA:=⟨S j,E j - S j+1,λ_ _=>0⟩
def qj(S E:RZ)(N r:Nat):List Nat:=i6 (Hj S E) N r
noncomputable def Wu(S E:RZ)(N j:Nat):fA:=⟨S j,E j - S j+1,λr i=>if (qj S E N r).getD i N=j then 1 else 0⟩
def gH(S E:RZ)(N r:Nat):Nat:=(qj S E N r).length
noncomputable def gI(w:RX)(S E:RZ)(N k i j:Nat):Int:=if (qj S E N<|z9 w k).getD i N=(qj S E N<|zR w k).getD j (N+1)then 1 else 0
section
variable{S E:RZ}{N r:Nat}{w:RX}{p:Int}{m:Nat}
theorem gZ:(qj S E N r).Nodup:=List.Nodup.sublist NV OC
theorem S1{j:Nat}:j∈qj S E N r↔j<N/\(Wu S E N j).has r=di:=by unfold qj i6;rw[IL,HW];rfl
theorem VT{j:Nat}(h:j<N)(I:(Wu S E N j).has r=di) : ∃c,c<gH S E N r/\(qj S E N r)[c]? = cq j:=by obtain⟨c,z⟩:=OT<|S1.mpr ⟨h,I⟩;exact⟨c,(Io.mp z).1,z⟩
theorem ZA{c d:Nat}(h:c<gH S E N r) : ∃j,(qj S E N r)[c]? = cq j/\(qj S E N r).getD c d=j/\j<N/\(Wu S E N j).has r=di:=by have e:=HX (l:=qj S E N r) h;obtain⟨a,b⟩:=S1.mp<|IY e;exact⟨_,e,by rw[HY,e];rfl,a,b⟩
theorem Ko{c z j:Nat}(C:(qj S E N r)[c]? = cq j)(I:(qj S E N r)[z]? = cq j):c=z:=by exact(List.getElem?_inj (Io.mp C).1 gZ).mp (C.trans I.symm)
theorem QF{c j:Nat}(h:c<gH S E N r):(Wu S E N j).v r c=if (qj S E N r)[c]? = cq j then 1 else 0:=by
 obtain⟨I,a,b,_⟩:=ZA (d:=N) h;show(if (qj S E N r).getD c N=j then (1:Int)else 0)=_;rw[a,b];by_cases z:I=j
 ·rw[RY z,RY (by rw[z])]
 ·rw[EQ z,EQ (λq=>z<|IX q)]
theorem lG(J:Pr p)(C : ∀j,j<N->S j<=E j/\E j<=m):q5 p w (gH S E N) (gI w S E N) m N (Wu S E N):=by
 have two:=J.two;refine⟨λj O=>⟨by show 1<=_+1;omega,by show S j+(E j - S j+1)<=m+1;have:=C j O;omega,λr i _ _=>?_,λk G h i b=>?_⟩,λr s v=>?_,λr s t A j O h=>?_,λr s=>rfl⟩
 ·show 0<=(if _ then (1:Int)else 0)/\(if _ then (1:Int)else 0)<p
  split<;>omega
 ·obtain⟨U,Y,a⟩:=VT O h
  obtain⟨y,g,u,x,n⟩:=ZA (d:=N) b;have e:app (gI w S E N k) (gH S E N<|zR w k) ((Wu S E N j).v (zR w k)) i=gI w S E N k i U:=by
   unfold app;rw[zK (f:=λc=>gI w S E N k i c*(Wu S E N j).v (zR w k) c) Y λc o I=>by rw[QF o,EQ<|λq=>I<|Ko q a,Mt]]
   rw[QF Y,RY a,NI]
  rw[e];congr 1;unfold gI;rw[show(qj S E N<|zR w k).getD U (N+1)=j by rw[HY,a];rfl];by_cases l:(Wu S E N j).has (z9 w k)=di
  ·rw[RY l];rfl
  ·rw[EQ l,u,EQ (λz=>l<|by rw[<- z];exact n)]
 ·refine⟨λj=>zg (λc=>if (qj S E N r)[c]? = cq j then v c else 0)<|gH S E N r,λi b=>?_⟩
  obtain⟨y,g,u,x,n⟩:=ZA (d:=N) b;rw[zK (f:=λj=>if (Wu S E N j).has r=di then zg (λc=>if (qj S E N r)[c]? = cq j then v c else 0) (gH S E N r)*(Wu S E N j).v r i else 0) x λj O I=>by rw[QF b,show(if (qj S E N r)[i]? = cq j then (1:Int)else 0)=0 from EQ<|λq=>I<|IX<|q.symm.trans g,Mt,ite_self]]
  rw[RY n,QF b,RY g,NI,zK (f:=λc=>if (qj S E N r)[c]? = cq y then v c else 0) b λc o I=>EQ λq=>I<|Ko q g,RY g]
 ·obtain⟨U,Y,a⟩:=VT O h
  have:=A U Y;rw[zK (f:=λj=>if (Wu S E N j).has r=di then t j*(Wu S E N j).v r U else 0) O λB F I=>by rw[QF Y,show(if (qj S E N r)[U]? = cq B then (1:Int)else 0)=0 from EQ<|λq=>I<|IX<|q.symm.trans a,Mt,ite_self]]at this
  rw[RY h,QF Y,RY a,NI]at this;exact this
theorem lH(z:Pr p) : ∀k x y,0<=gI w S E N k x y/\gI w S E N k x y<p:=λk x y=>by have:=z.two;unfold gI;split<;>omega
end
section
variable{p:Int}{m:Nat}{w:RX}{wd:RZ}{T:RV}
noncomputable def bP(w:RX)(wd:RZ)(T:RV)(m:Nat):List D:=(HU m).map λk=>D.lst<|fD (kv w wd k) (kA w wd k)<|T k
@[simp] theorem tE(m):(bP w wd T m).length=m:=by simp[bP]
abbrev rc(p:Int)(m:Nat)(w:RX)(wd:RZ)(T:RV)(acc:List D)(c5 c6 c7 c8:Cell):Ctx:=[.val (.int p),.val (.str (X5 m w)),.val (.lst (zF (m+1) λk=>(wd k:Int))),.val (.lst (bP w wd T m)),.own acc,c5,c6,c7,c8]
end
noncomputable def stN(M:Nat):List (Nat×Nat):=(HU M).flatMap λi=>(NB i<|M - i).map λj=>(i,j)
theorem RH:s∈stN M↔s.1<=s.2/\s.2<M:=by
 unfold stN;simp only[List.mem_flatMap,HW,IB,List.mem_range'_1];constructor
 ·rintro⟨i,a,j,z,rfl⟩
  exact⟨z.1,by show j<M;omega⟩
 ·intro h
  exact⟨s.1,by omega,s.2,⟨h.1,by omega⟩,rfl⟩
noncomputable def pb(K:List (Nat×Nat))(a b:Int):Nat:=K.countP λx=>decide ((x.1:Int)<=a) && decide (b<=(x.2:Int))
noncomputable def A5(K:List (Nat×Nat))(s:Nat×Nat):Nat:=K.countP λx=>decide<|x=s
theorem Zh(x:Nat×Nat)(K:List (Nat×Nat))(a b:Int):(pb (x::K) a b:Int)=(pb K a b:Int)+if (x.1:Int)<=a/\b<=(x.2:Int)then 1 else 0:=by
 unfold pb;rw[List.countP_cons];by_cases d:(x.1:Int)<=a
 ·by_cases e:b<=(x.2:Int)
  ·rw[RY (show(decide ((x.1:Int)<=a) && decide (b<=(x.2:Int)))=di by simp only[decide_eq_true d,decide_eq_true e];rfl),RY ⟨d,e⟩];rfl
  ·rw[EQ (show ¬(decide ((x.1:Int)<=a) && decide (b<=(x.2:Int)))=di by simp only[decide_eq_false e,Bool.and_false];decide),EQ λz=>e z.2];rfl
 ·rw[EQ (show ¬(decide ((x.1:Int)<=a) && decide (b<=(x.2:Int)))=di by simp only[decide_eq_false d,Nd];decide),EQ λz=>d z.1];rfl
theorem ly(x s:Nat×Nat)(K:List (Nat×Nat)):(A5 (x::K) s:Int)=(A5 K s:Int)+if (x.1=s.1/\x.2=s.2)then 1 else 0:=by
 unfold A5;rw[List.countP_cons];by_cases h:x=s
 ·rw[RY (decide_eq_true h),RY (by rw[h];exact⟨rfl,rfl⟩)];rfl
 ·rw[EQ (by simpa using h),EQ λz=>h (Prod.ext z.1 z.2)];rfl
theorem Je(s:Nat×Nat) : ∀K:List (Nat×Nat),(pb K s.1 s.2:Int) - ((pb K ((s.1:Int) - 1) s.2:Int)+(pb K s.1 ((s.2:Int)+1):Int))+(pb K ((s.1:Int) - 1) ((s.2:Int)+1):Int)=(A5 K s:Int)
 | []=>rfl
 | x::K=>by
  have z:=Je s K;rw[Zh,Zh,Zh,Zh,ly];generalize (pb K s.1 s.2:Int)=I at *;generalize (pb K ((s.1:Int) - 1) s.2:Int)=O at *;generalize (pb K s.1 ((s.2:Int)+1):Int)=U at *;generalize (pb K ((s.1:Int) - 1) ((s.2:Int)+1):Int)=Y at *;generalize (A5 K s:Int)=c5 at *
  repeat' split
  all_goals omega
section
variable{p:Int}{w:RX}{wd:RZ}{T:RV}{m N:Nat}{A:Nat->fA}
noncomputable def lL(A:Nat->fA)(N:Nat):List (Nat×Nat):=(HU N).map λj=>((A j).s,(A j).s+(A j).n - 1)
theorem XB(D:q5 p w wd T m N A) : ∀x,x∈lL A N->x∈stN (m+1):=λx a=>by obtain⟨j,z,rfl⟩:=IB.mp a;have b:=(D.ok j<|HW.mp z).n1;have d:=(D.ok j<|HW.mp z).le;exact RH.mpr (by show(A j).s<=(A j).s+(A j).n - 1/\(A j).s+(A j).n - 1<m+1;omega)
theorem nL(D:q5 p w wd T m N A)(I:i<=j):(p9 A N i j).length=pb (lL A N) i j:=by unfold p9 pb lL;rw[<- Lm,OJ];refine Md λk z=>?_;have a:=(D.ok k<|HW.mp z).n1;simp only[Ir,Function.comp_def,decide_eq_true_eq];rw[l6,l6];omega
end
def u1:=(jB 1<|zI jc<|zc (ze 0)<|zc (zA<|.int 0) zJ)
noncomputable def u2:=(jB 2<|ed (jv<|kC<|zc (zA<|.int 2)<|zc (zA<|.int 3)<|zc (zA<|.int 5)<|zc (zA<|.int 7) zJ)<|zC xn (ze 1)<|zA<|.int 4)
noncomputable def u3:=(cu (.tp [3,4])<|ed (jv<|kC<|zc (xx<|zc (zA<|.int 4)<|zc (zA<|.int 2) zJ)<|zc (xx<|zc (zA<|.int 3)<|zc (zA<|.int 2) zJ)<|zc (xx<|zc (zA<|.int 2)<|zc (zA<|.int 2) zJ)<|zc (xx<|zc (zA<|.int 2)<|zc (zA<|.int 2) zJ)<|zc (xx<|zc (zA<|.int 6)<|zc (zA<|.int 1) zJ)<|zc (xx<|zc (zA<|.int 5)<|zc (zA<|.int 1) zJ)<|zc (xx<|zc (zA<|.int 4)<|zc (zA<|.int 1) zJ)<|zc (xx<|zc (zA<|.int 3)<|zc (zA<|.int 1) zJ) zJ)<|zC xn (ze 1)<|zA<|.int 8)
noncomputable def bS(bs:List (Int×Int))(j:Nat):Nat:=(bs.getD j (0,0)).1.toNat
noncomputable def bE(bs:List (Int×Int))(j:Nat):Nat:=(bs.getD j (0,0)).2.toNat
abbrev bW(bs:List (Int×Int)):Nat->Nat:=gH (bS bs) (bE bs) bs.length
abbrev bT(w:RX)(bs:List (Int×Int)):Nat->Nat->Nat->Int:=gI w (bS bs) (bE bs) bs.length
abbrev bL(bs:List (Int×Int))(r:Nat):List Nat:=qj (bS bs) (bE bs) bs.length r
section
variable{bs:List (Int×Int)}{m:Nat}{w:RX}
theorem mC(h : ∀b∈bs,WS ((m+1:Nat):Int) b){j:Nat}(z:j<bs.length):bs[j]? = cq ((bS bs j:Int),(bE bs j:Int))/\bS bs j<=bE bs j/\bE bs j<=m:=by have e:=HX z;have I:=h _<|IY e;obtain⟨a,d,O⟩:=I;unfold bS bE;rw[HY,e,Nb];refine⟨?_,by omega,by omega⟩;congr 1;exact Prod.ext (by dsimp only;omega) (by dsimp only;omega)
end
section
variable{bs:List (Int×Int)}{m:Nat}
theorem sk(h : ∀b∈bs,WS ((m+1:Nat):Int) b):bs=(HU bs.length).map λj=>((bS bs j:Int),(bE bs j:Int)):=by
 apply Mc;intro j;by_cases z:j<bs.length
 ·rw[(mC h z).1];simp[z]
 ·rw[List.getElem?_eq_none ⋯,List.getElem?_eq_none (by simpa using z)]
end
theorem lV:xq=jG 4 (zM Wz eT):=rfl
section
variable{ns:List Int}{p:Int}{m:Nat}{w:RX}{wd:RZ}{T:RV}
theorem aQ(z:Int)(z0:0<=z)(z1:z<=1000)(J:ns.length<=63)(U:Pr p)(Z:m<=5)(C : ∀k,wd k<=16)(S : ∀k x y,0<=T k x y/\T k x y<p) :
 ∃f g:RV,(∀k,k<m+1->Pair p (wd k) (f k) (g k))/\xq [xK ns,.int z,qh p m w wd T]=cq (.val<|qh p m w wd<|jN p w wd f g T):=by
 have H:=jI;have d:m+1<=lim:=by omega
 have l : ∀k:Nat,∃a:(Nat->Nat->Int)×(Nat->Nat->Int),k<m+1->Pair p (wd k) a.1 a.2/\qT [xK ns,.int<|z+20*(k:Int),.int p,.int (wd k:Nat)]=cq (.own [ja (wd k) (wd k) a.1,ja (wd k) (wd k) a.2]):=λk=>by
  by_cases O:k<m+1
  ·obtain⟨f,g,t,u⟩:=sZ J U (n:=wd k) (by have:=C k;omega) (show(0:Int)<=z+20*(k:Int)by omega) ⋯
   exact⟨(f,g),λ_=>⟨t,u⟩⟩
  ·exact⟨(λ_ _=>0,λ_ _=>0),λh=>absurd h O⟩
 obtain⟨I,Y⟩:=Ni l;refine⟨λk=>(I k).1,λk=>(I k).2,λk O=>(Y k O).1,?_⟩;let L:List D:=(HU<|m+1).map λk=>D.lst [ja (wd k) (wd k) (I k).1,ja (wd k) (wd k) (I k).2];have G:Wz [.val (xK ns),.val<|.int z,.val<|qh p m w wd T,.no]=cq (.next [.val (xK ns),.val<|.int z,.val<|qh p m w wd T,.val (.lst L)]):=by
  have b:Kx (ed (zk 2)<|zA<|.int 1) [.val (xK ns),.val<|.int z,.val<|qh p m w wd T,.no]=cq ((HU<|m+1).map λ(k:Nat)=>D.tup [.int k,.int (wd k:Int)]):=by rw[<- QQ (m+1) λk=>D.int (wd k:Int)];rfl
  unfold Wz;rw[Jw,Jy,qI,b];simp only[Ia,IE,Ls,d,if_true];rw[zu (λk=>D.lst [ja (wd k) (wd k) (I k).1,ja (wd k) (wd k) (I k).2]) _ λk O=>zw (γ1:=[.val (.int k),.val<|.int (wd k:Int),.val<|xK ns,.val<|.int z,.val (qh p m w wd T)]) rfl rfl ?_]
  ·rfl
  ·have O:=HW.mp O
   have e:=(Y k O).2;have o:XW 20 (k:Int)=di:=vc _ _ ⋯ ⋯;unfold AK;simp[yf,o,e,l7]
 have r:zN (.nm 0) jg (ed (zk 0)<|zA<|.int 0) [Cell.no] L=cq (qN (m+1) wd λk=>(I k).1):=by refine zu _ _ λk _=>zw rfl rfl ?_;rfl
 have s:zN (.nm 0) jg (ed (zk 0)<|zA<|.int 1) [Cell.no] L=cq (qN (m+1) wd λk=>(I k).2):=by refine zu _ _ λk _=>zw rfl rfl ?_;rfl
 have F:=QM (f:=λk=>(I k).1) (g:=λk=>(I k).2) (m:=m) (w:=w) (wd:=wd) (T:=T) U.pos U.le ⋯ (λk=>by have:=C k;omega) (λk i j _ _ _=>S k i j)<|λk i j O B E=>(Y k O).1.bg i j B E;rw[lV];refine jF<|zo G ?_;have A:L.length<=lim:=by simp[L];omega
 unfold eT;simp only[Jx,vp,qe,xX,qD,Jy,qI,xi,j9,Ih,Ij,zT,zY,nN,Ia,Iv,A,if_true];rw[show z6 1 [] [Cell.val (xK ns),.val<|.int z,.val<|qh p m w wd T,.val (.lst L)]=[Cell.no]from rfl,r,s];simp[F]
end
section
variable{p:Int}{w:RX}{wd:RZ}{T:RV}{m N:Nat}{A:Nat->fA}
theorem lx{M:Nat}{K I:List (Nat×Nat)}(C : ∀x,x∈K->x∈stN M)(J : ∀x,x∈I->x∈stN M)(h : ∀a b:Nat,a<=b->b<M->pb K a b=pb I a b){s:Nat×Nat}(S:s.1<=s.2):A5 K s=A5 I s:=by
 have z : ∀{L:List (Nat×Nat)} {a b:Int},(∀x,x∈L->x∈stN M)->a<0\/(M:Int)<=b->pb L a b=0:=λ{L a b} U Y=>by unfold pb;rw[NW];intro x d q;have:=RH.mp<|U x d;simp only[Ir,decide_eq_true_eq]at q;omega
 have O : ∀{a b:Int},a<=b->pb K a b=pb I a b:=λ{a b} Y=>by
  by_cases c:a<0\/(M:Int)<=b
  ·rw[z C c,z J c]
  ·have:=h a.toNat b.toNat ⋯ ⋯
   rw[Pg ⋯,Pg ⋯]at this;exact this
 have e:=Je s K;have f:=Je s I;rw[O ⋯,O ⋯,O ⋯,O ⋯]at e;omega
end
section
variable{p:Int}{w:RX}{wd:RZ}{T:RV}{m N N':Nat}{A A':Nat->fA}{d n:Nat}
noncomputable def DV(w:RX)(A:Nat->fA)(d n:Nat)(z:Bool)(j:Nat):Bool:=(A j).has d && ((!z && (A j).has (d+n)) || (!(A j).has (d+n) && !w ((A j).s+(A j).n - 1)))
noncomputable def DW(w:RX)(A:Nat->fA)(d n:Nat)(z:Bool)(j:Nat):Vc:=if DV w A d n z j=di then (A j).v d else λ_=>0
theorem pU(D:q5 p w wd T m N A)(C:d+n<=m){z:Bool}{j:Nat}(O:j<N) : ∃y:Vc,Wk p w wd T d n (DW w A d n z j) y/\(z=di->∀i,y i=0):=by
 unfold DW;by_cases h:DV w A d n z j=di
 ·rw[RY h]
  unfold DV at h;simp only[Ir,LP,Mm]at h;obtain⟨a,b⟩:=h;rcases b with⟨U,I⟩ | ⟨I,Y⟩
  ·exact⟨_,Zm (D.ok j O) a n C I,λq=>by rw[q]at U;cases U⟩
  ·exact⟨_,Vt (D.ok j O) a Y n C I,λ_ _=>rfl⟩
 ·rw[EQ h];exact⟨_,Jz n,λ_ _=>rfl⟩
theorem dz(D:q5 p w wd T m N A)(C:d+n<=m)(z:Bool)(u:Vc):Span p (wd d) (fe N<|DW w A d n z) u ↔ ∃y:Vc,Wk p w wd T d n u y/\(z=di->∀i,y i%p=0):=by
 constructor
 ·intro h
  induction h with
  | zero h=>exact⟨_,mL (Jz n) λi l=>by rw[h i l];simp,λ_ _=>by simp⟩
  | step x _ e B=>
   obtain⟨y,f,k⟩:=B;obtain⟨j,U,rfl⟩:=x;obtain⟨G,g1,g2⟩:=pU D C (z:=z) U;refine⟨_,mL (gp n _ f g1) e,λq i=>?_⟩;rw[g2 q i,Mt,MS];exact k q i
 ·rintro⟨y,f,k⟩
  obtain⟨a,o⟩:=D.sp d ⋯ u;obtain⟨b,Y,r⟩ : ∃b:Vc,(∀i,i<wd (d+n)->y i%p=zg (λj=>if (A j).has (d+n)=di then b j*(A j).v (d+n) i else 0) N%p)/\(z=di->∀j,b j=0):=by
   cases z with
   | false=>
    obtain⟨b,Y⟩:=D.sp (d+n) C y;exact⟨b,Y,λq=>nomatch q⟩
   | true=>exact⟨λ_=>0,λi _=>by rw[k rfl i,zx (g:=λ_=>0) λj _=>by simp,zO];simp,λ_ _=>rfl⟩
  have t:=vZ D n C f o Y;refine(Span.sum (u:=DW w A d n z) a (m:=N) λj U=> .gen ⟨j,U,rfl⟩).congr λi l=>?_;rw[o i l];refine zH λj U=>?_;unfold DW;by_cases O:(A j).has d=di
  ·obtain⟨E,F⟩:=t j U O
   rw[RY O];by_cases I:DV w A d n z j=di
   ·rw[RY I]
   ·rw[EQ I,Mt]
    have:a j%p=0:=by
     unfold DV at I;rw[O]at I;cases h4:(A j).has (d+n)with
     | true=>
      rw[h4]at I;cases z with
      | true=>rw[E h4,r rfl j];simp
      | false=>simp at I
     | false=>
      rw[h4]at I;cases h5:w ((A j).s+(A j).n - 1)with
      | true=>exact F h4 h5
      | false=>rw[h5]at I;simp at I
    rw[Ii,this];simp
  ·have:DV w A d n z j=d7:=by unfold DV;rw[Bool.not_eq_true]at O;rw[O];rfl
   rw[EQ O,this];simp
theorem sf(I:Pr p)(D:q5 p w wd T m N A)(U:q5 p w wd T m N' A'){a b:Nat}(Y:a<=b)(O:b<=m):pb (lL A N) a b=pb (lL A' N') a b:=by obtain⟨n,rfl⟩ : ∃n,b=a+n:=⟨b - a,by omega⟩;obtain⟨s,_,B,l,e,r⟩:=ZJ (n:=wd a) I N<|DW w A a n d7;obtain⟨q,_,j,C,d,o⟩:=ZJ (n:=wd a) I N<|DW w A a n di;have g : ∀u,Span p (wd a) (fe s B) u ↔ ∃z,Wk p w wd T a n u z:=λu=>(r u).trans ((dz D O d7 u).trans ⟨λ⟨y,h,_⟩=>⟨y,h⟩,λ⟨y,h⟩=>⟨y,h,λq=>nomatch q⟩⟩);have f : ∀u,Span p (wd a) (fe q j) u↔Wk p w wd T a n u λ_=>0:=λu=>(o u).trans ((dz D O di u).trans ⟨λ⟨y,h,k⟩=>Bt h λi _=>by rw[k rfl i];simp,λh=>⟨_,h,λ_ _=>by simp⟩⟩);have t:=Wx I D O e g d f;have x:=Wx I U O e g d f;rw[<- nL D Y,<- nL U Y];omega
theorem dq(U:Pr p)(D:q5 p w wd T m N A)(I:q5 p w wd T m N' A'):(lL A N).Perm (lL A' N'):=by
 refine List.perm_iff_count.mpr λs=>?_;have e : ∀K:List (Nat×Nat),K.count s=A5 K s:=λK=>by unfold A5 List.count;exact Md λx _=>by simp
 rw[e,e];by_cases O:s.1<=s.2
 ·exact lx (M:=m+1) (XB D) (XB I) (λa b d g=>sf U D I d ⋯) O
 ·have z : ∀K:List (Nat×Nat),(∀x,x∈K->x∈stN (m+1))->A5 K s=0:=λK h=>by
   unfold A5;rw[NW];intro x f q;have:=(RH.mp<|h x f).1;have q:=of_decide_eq_true q;rw[q]at this;exact O this
  rw[z _ (XB D),z _ (XB I)]
theorem dU(z:Pr p)(D:q5 p w wd T m N A)(I:q5 p w wd T m N' A')(O:xl (j6 A N)=j6 A N)(U:xl (j6 A' N')=j6 A' N'):j6 A N=j6 A' N':=by
 have e : ∀(X:Nat->fA) (M:Nat),j6 X M=(lL X M).map λs=>((s.1:Int),(s.2:Int)):=λX M=>by unfold j6 lL;rw[Lb];rfl
 rw[<- O,<- U];refine vf ?_;rw[e,e];exact(dq z D I).map _
theorem Vs{b:Nat}(U:Pr p)(C:b<=16)(Z:b*(m+1)<=48)(J : ∀k,wd k<=b)(S:m<=5)(L : ∀k i j,k<m->i<kv w wd k->j<kA w wd k->0<=T k i j/\T k i j<p) :
 ∃(N:Nat) (A:Nat->fA) (ts us:List TB),N<=48/\q5 p w wd T m N A/\xl (j6 A N)=j6 A N/\(∀b∈j6 A N,WS ((m+1:Nat):Int) b)/\(∀r,r<=m->hH (j6 A N) r=wd r)/\(∀t∈ts,A7 p t)/\(∀t∈us,A7 p t)/\xM [qh p m w wd T]=cq (.val<|qR (j6 A N) ts us)/\jk [qh p m w wd T,qR (j6 A N) ts us]=cq (.val<|.bl di):=by
 obtain⟨N,A,g,R,Y,cnt,h,o,K⟩:=aZ (T:=T) (w:=w) U C Z J S L;have W : ∀j,j<N->1<=(A j).n:=λj z=>(Y j z).n1;have d : ∀r,r<=m->hH (j6 A N) r=wd r:=λr I=>by unfold hH;rw[kG W,cnt _ I]
 have X:(j6 A N).length=N:=by simp[j6]
 have E:q5 p w wd T m N A:=rW U (λk=>Lr (J k) C) Y cnt λr I v=>⟨app (g r) (wd r) v,λi a=>(wW (h r I).1 v a).symm⟩;have e : ∀f:RV,qW m wd f=qW m (hH<|j6 A N) f:=λf=>by unfold qW;refine Iu λr I=>?_;have I:=HW.mp I;rw[d r ⋯]
 have P:qh p m w wd T=qh p m w (hH<|j6 A N) (jN p w (hH<|j6 A N) (λr=>qy A N r) g<|sm w<|j6 A N):=by
  unfold qh;congr 1;have Q:(zF (m+1) λk=>(wd k:Int))=zF (m+1) λk=>(hH (j6 A N) k:Int):=xJ λr I=>by rw[d r ⋯]
  have H:jY m w wd T=jY m w (hH<|j6 A N) (jN p w (hH<|j6 A N) (λr=>qy A N r) g<|sm w<|j6 A N):=by
   unfold jY;refine Iu λk O=>?_;have O:=HW.mp O;have G:zR w k<=m:=by unfold zR;split<;>omega
   have M:z9 w k<=m:=by unfold z9;split<;>omega
   unfold xw;rw[vL,vt,vL,vt,d _ G,d _ M];congr 2;congr 1;exact Zf λi j a z=>mM U Y cnt (λr I=>(h r I).1) O a z (L k i j O (by rw[vL];exact a)<|by rw[vt];exact z)
  rw[Q,H]
 have l : ∀k,hH (j6 A N) k<=60:=λk=>by have:=KJ (j6 A N) (k:Int);unfold hH;omega
 have pr : ∀k,k<m+1->Pair p (hH (j6 A N) k) (qy A N k) (g k):=λk O=>by
  obtain⟨u1,u2,u3⟩:=h k ⋯;rw[d k ⋯];refine⟨λi j a z=>?_,λi j _ _=>u3 i j,u1,u2⟩;have F:j<(i6 A N k).length:=by rw[cnt k ⋯];exact z
  obtain⟨x,y⟩:=Ve F;exact(Y _ x).m8 k i y a
 have B : ∀b∈j6 A N,WS ((m+1:Nat):Int) b:=λb C=>by obtain⟨j,z,rfl⟩:=IB.mp C;have z:=HW.mp z;have x:=(Y j z).n1;have y:=(Y j z).le;unfold WS X7;dsimp only;omega
 have u:=JZ (f:=g) l λk i j O a z=>(pr k O).bg i j a z;have s:=JZ (f:=λr=>qy A N r) l λk i j O a z=>(pr k O).bf i j a z;refine⟨N,A,qW m wd g,qW m wd λr=>qy A N r,R,E,o,B,d,by rw[e g];exact u,by rw[e λr=>qy A N r];exact s,K,?_⟩;rw[P,e g,e λr=>qy A N r];rw[JN U.pos U.le S l (λk i j _ _ _=>VL U.pos _ _ _ _ _ _ _ _) ⋯ u s,YQ U B o pr]
theorem iK{bs:List (Int×Int)}(h : ∀b∈bs,WS ((m+1:Nat):Int) b)(r:Nat):jH bs (r:Int)=bL bs r:=by
 unfold jH bL qj i6;refine Pu λj z=>?_;have z:=HW.mp z;obtain⟨e,d,f⟩:=mC h z;have a:bs.getD j (0,0)=((bS bs j:Int),(bE bs j:Int)):=by rw[HY,e];rfl
 rw[a];show gJ _ _=(decide (bS bs j<=r) && decide (r<bS bs j+(bE bs j - bS bs j+1)));unfold gJ;dsimp only;congr 1
 ·exact decide_eq_decide.mpr ⋯
 ·exact decide_eq_decide.mpr ⋯
theorem Bf{bs:List (Int×Int)}(h : ∀b∈bs,WS ((m+1:Nat):Int) b)(p:Int)(w:RX):BR p m w bs=qh p m w (bW bs) (bT w bs):=by
 have a:=iK h;rw[nQ];unfold qh;congr 1;have z : ∀r,hH bs r=bW bs r:=λr=>by unfold hH bW gH;rw[a]
 have d:(zF (m+1) λk=>(hH bs k:Int))=zF (m+1) λk=>(bW bs k:Int):=xJ λr _=>by rw[z]
 have e:jY m w (hH bs) (sm w bs)=jY m w (bW bs) (bT w bs):=by unfold jY;refine Iu λk _=>?_;unfold xw;rw[vL,vt,vL,vt,z,z];congr 2;congr 1;refine Zf λi j f I=>?_;unfold sm bT gI;rw[a,a];have O:i<(bL bs<|z9 w k).length:=f;have U:j<(bL bs<|zR w k).length:=I;simp only[HY,HX O,HX U,Nb]
 rw[d,e]
end
noncomputable def QS:List (Int×Int)->Int
 | []=>0
 | b::bs=>b.2 - b.1+1+QS bs
theorem VR : ∀bs:List (Int×Int),bV (bs.map λb=>D.int<|b.2 - b.1+1)=cq (QS bs)
 | []=>rfl
 | b::bs=>by simp[bV,VR bs,QS]
theorem fN(bs:List (Int×Int)):zN (.tp [0,1]) jg (zC qr (zC XN (ze 1)<|ze 0)<|zA<|.int 1) [Cell.no,Cell.no] (zV bs)=cq (bs.map λb=>D.int<|b.2 - b.1+1):=by unfold zV;refine zu _ _ λb z=>zw rfl rfl ?_;simp
section
variable{p:Int}{m:Nat}{w:RX}{bs:List (Int×Int)}
abbrev ro(p:Int)(z:Str)(m:Nat)(bs:List (Int×Int)):Ctx:=[.val (.int p),.val (.str z),.val (.lst (zV bs)),.val (.int ((m+1:Nat):Int))]
end
section
variable{p:Int}{m N:Nat}{w:RX}{wd:RZ}{T:RV}{A:Nat->fA}{bs:List (Int×Int)}{b c:Int×Int}
theorem lF(h : ∀b∈bs,WS ((m+1:Nat):Int) b):j6 (Wu (bS bs) (bE bs) bs.length) bs.length=bs:=by
 conv=>rhs;rw[sk h]
 unfold j6;refine Iu λj z=>?_;have:=(mC h<|HW.mp z).2.1;show((bS bs j:Int),((bS bs j+(bE bs j - bS bs j+1) - 1:Nat):Int))=_;rw[show bS bs j+(bE bs j - bS bs j+1) - 1=bE bs j by omega]
theorem ET(bs:List (Int×Int))(k:Nat):bW bs k<=bs.length:=by unfold bW gH qj;exact Lr (NJ _ _) ⋯
end
section ap
variable(γ:Ctx)
@[simp] def Fx:=@CT.eq_1
@[simp] def Gi:=@HE.eq_1
@[simp] theorem Fg(f):ub f γ=((f γ).bind nr).map λi=> .int (-i):=rfl
@[simp] theorem EY(f l h):CP f l h γ=(f γ).bind λa=>(l γ).bind λlo=>(h γ).bind λC=>match a.1 with
 | .L=>cq (Vm a.2 lo C)
 | .T=>dn:=rfl
@[simp] def sR:=@BD.eq_1
end ap
theorem mn(bs:List (Int×Int)){a:Nat}(h:a<=bs.length):Vm (zV bs) (cq (a:Int)) dn=zV (bs.drop a):=by unfold Vm Vn zV;simp[List.map_drop,OP h];exact MH ⋯
noncomputable def nH:CO Bool:=sB<|zC DQ (oQ<|jv<|zL (zP<|zk 0) (.tp [0,1]) 2 [] jg (zC qr (zC XN (ze 1)<|ze 0)<|zA<|.int 1))<|zA<|.int 30
def AS:=jB 0<|jZ<|CP (zk 0) (u9<|zA<|.int 1) af
def vV:=jG 1<|zM (VX 100 nH AS)<|Xk 0
def nZ:=(jB 1<|zI jc<|zc (ze 0)<|zc (zA<|.int 0) zJ)
noncomputable def nY:=(jB 2<|ed (jv<|kC<|zc (zA<|.int 2)<|zc (zA<|.int 3)<|zc (zA<|.int 5)<|zc (zA<|.int 7) zJ)<|zC xn (ze 1)<|zA<|.int 4)
noncomputable def nX:=(jB 3<|zC qr (zA<|.int 1)<|zC xn (zC QR (ze 1)<|zA<|.int 4)<|zA<|.int 6)
noncomputable def nW:=(jB 4<|zC xn (zC QR (ze 1)<|zA<|.int 24)<|zA<|.int 9)
noncomputable def bz:=(lp (sB<|zC g8 (zC xn (zC QR (ze 1)<|zA<|.int 1000)<|zA<|.int 12)<|zA<|.int 1) (zM (jB 3<|zC qr (zA<|.int 1)<|zC xn (ze 3)<|zA<|.int 2)<|jB 4<|zA<|.int 16) ql)
noncomputable def nV:=(jB 5<|zI vV<|zc (jZ<|jC xk<|zc (ze 0)<|zc (zA<|.int 8)<|zc (ze 3)<|zc (ze 4) zJ) zJ)
noncomputable def nU:=(jB 6<|zI xq<|zc (ze 0)<|zc (zA<|.int 30)<|zc (zI qV<|zc (ze 2)<|zc (zI xj<|zc (ze 0)<|zc (zA<|.int 1)<|zc (ze 3) zJ)<|zc (ze 5) zJ) zJ)
noncomputable def nT:=(ik 7 (V3 xM<|zc (ze 6) zJ) (yZ (jP<|sB<|zI jk<|zc (ze 6)<|zc (ze 7) zJ)<|sB<|zC i0 (ed (zk 7)<|zA<|.int 0)<|ze 5) (xx<|zc (zA<|.int 0)<|zc (zA<|.int 0) zJ)<|zM (jB 8<|zI xM<|zc (ze 6) zJ)<|qA<|gF (zI jk<|zc (ze 6)<|zc (ze 8) zJ)<|zC g8 (ed (zk 8)<|zA<|.int 0)<|ze 5)
noncomputable def JE:=jG 9<|zM nZ<|zM nY<|zM nX<|zM nW<|zM bz<|zM nV<|zM nU nT
theorem nS:JE=jG 9 (zM nZ<|zM nY<|zM nX<|zM nW<|zM bz<|zM nV<|zM nU nT):=rfl
theorem rP:vV=jG 1 (zM (VX 100 nH AS)<|Xk 0):=rfl
theorem AQ : ∀(n:Nat) (bs:List (Int×Int)),bs.length<n->bs.length<64->∃k,vY nH AS n [.val (.lst<|zV bs)]=cq (.next [.val (.lst<|zV<|bs.drop k)]):=by
 intro n
 induction n with
 | zero=>intro bs h;omega
 | succ n O=>
  intro bs h d;have f:=jI;have U:bs.length<=lim:=by omega
  have I:nH [.val (.lst<|zV bs)]=cq (decide<|30<QS bs):=by simp[nH,U,z6,HZ,fN,VR]
  by_cases z:30<QS bs
  ·have a:1<=bs.length:=by
    cases bs with
    | nil=>simp[QS]at z
    | cons b bs=>simp
   have e:AS [.val (.lst<|zV bs)]=cq (.next [.val (.lst<|zV<|bs.drop 1)]):=by show cq (Fl.next [.val (.lst<|Vm (zV bs) (cq 1) dn)])=_;rw[show Vm (zV bs) (cq 1) dn=zV (bs.drop 1)from mn bs a]
   obtain⟨k,Y⟩:=O (bs.drop 1) (by rw[NM];omega) (by rw[NM];omega);refine⟨1+k,?_⟩;rw[<- List.drop_drop];show(nH _).bind _=_;rw[I,decide_eq_true z,Ia,RY rfl,e];exact Y
  ·refine⟨0,?_⟩
   show(nH _).bind _=_;rw[I,decide_eq_false z];rfl
theorem AR{bs:List (Int×Int)}(h:bs.length<64) : ∃k,vV [.lst (zV bs)]=cq (.val<|.lst<|zV<|bs.drop k):=by obtain⟨k,e⟩:=AQ 100 bs ⋯ h;refine⟨k,?_⟩;rw[rP];exact jF<|zo (show VX 100 nH AS _=_ from e) rfl
theorem YK{bs:List (Int×Int)}(h:xl bs=bs)(k:Nat):xl (bs.drop k)=bs.drop k:=by refine ve (xN _) (kc _) ?_;have:=kc bs;rw[h]at this;exact this.sublist<|List.drop_sublist k bs
theorem Ew(C:List Int)(Y:C.length<=63):JE [xK C]=cq (.val<|.bl di):=by
 have hl:=jI;obtain⟨A,M,x1⟩:=XT Y (k:=0) ⋯ ⋯;generalize xo C 0=x at A M x1;obtain⟨p,ep,ix,I⟩:=YW M;have I:Pr p:=I;have K:=I.pos;let z:Cell->Cell->Cell->Cell->Cell->Cell->Ctx:=λo Z c5 c6 c7 c8=>[.val (xK C),.val<|.int x,.val<|.int p,o,Z,c5,c6,c7,c8];obtain⟨m,n,b,F,s,Q,hn,s5⟩ : ∃m n b:Nat,m<=5/\b<=16/\b*(m+1)<=48/\n<=b/\bz (z (.val<|.int<|1+x/4%6) (.val<|.int<|x/24%9) .no .no .no .no)=cq (.next<|z (.val<|.int<|1+(m:Int)) (.val<|.int (n:Int)) .no .no .no .no):=by
  by_cases E:x/1000%12=1
  ·refine⟨((1+x/4%6)%2).toNat,16,16,by omega,by omega,by omega,by omega,?_⟩
   have e:(((1+x/4%6)%2).toNat:Int)=(1+x/4%6)%2:=by omega
   simp[bz,z,E,e,jo]
  ·refine⟨(x/4%6).toNat,(x/24%9).toNat,8,by omega,by omega,by omega,by omega,?_⟩
   have e1:((x/4%6).toNat:Int)=x/4%6:=by omega
   have e2:((x/24%9).toNat:Int)=x/24%9:=by omega
   simp[bz,z,E,e1,e2]
 obtain⟨h,y,S,bv,W⟩:=Bi Y (r:=m+1) (n:=n) ⋯ ⋯ ⋯;rw[show((m+1:Nat):Int)=1+(m:Int)by omega]at y;obtain⟨k,B⟩:=AR (bs:=h) ⋯;have L:=YK W k;have st : ∀b∈h.drop k,WS ((m+1:Nat):Int) b:=λb s=>S b<|List.mem_of_mem_drop s;have bl:(h.drop k).length<=n:=by rw[NM];omega
 generalize h.drop k=bs at B L st bl;obtain⟨w,ew⟩:=sU Y (m:=m) ⋯;have u:=ym (p:=p) (w:=w) (bs:=bs) (show m<=5 by omega) ⋯;rw[Bf st]at u;have G : ∀k,bW bs k<=b:=λk=>by have:=ET bs k;omega
 obtain⟨f,g,t,l⟩:=aQ (w:=w) (wd:=bW bs) (T:=bT w bs) 30 ⋯ ⋯ Y I F (λk=>by have:=G k;omega)<|lH I;have P:=lG (p:=p) (w:=w) (m:=m) I λj hj=>(mC st hj).2;have D:=bI K (λr hr=>(t r ⋯).fg) (λr hr=>(t r ⋯).gf) P;have H:j6 (λj=>Kf p (bW bs) f<|Wu (bS bs) (bE bs) bs.length j) bs.length=bs:=lF st;obtain⟨N2,A2,a,d,_,N,SY,_,_,_,_,O,U⟩:=Vs (w:=w) (wd:=bW bs) (T:=jN p w (bW bs) f g<|bT w bs) (m:=m) I s Q G F λk i j _ _ _=>VL K w (bW bs) f g (bT w bs) k i j;have J:=dU I N D SY (by rw[H];exact L);rw[H]at J;rw[J]at O U;let R:=qh p m w (bW bs)<|jN p w (bW bs) f g<|bT w bs;have O:xM [R]=cq (.val<|qR bs a d):=O;have U:jk [R,qR bs a d]=cq (.val<|.bl di):=U;have l:xq [xK C,.int 30,qh p m w (bW bs) (bT w bs)]=cq (.val R):=l;have X:(zV bs).length<lim:=by rw[Jt];omega
 generalize R=R at O U l;rw[nS];refine jF<|zo (γ':=[.val (xK C),.val<|.int x,.no,.no,.no,.no,.no,.no,.no]) (by simp[nZ,jm,HZ,A])<|zo (γ':=z .no .no .no .no .no .no) (by simp[nY,z,ix,ep])<|zo (γ':=z (.val<|.int<|1+x/4%6) .no .no .no .no .no) (by simp[nX,z])<|zo (γ':=z (.val<|.int<|1+x/4%6) (.val<|.int<|x/24%9) .no .no .no .no) (by simp[nW,z])<|zo s5<|zo (γ':=z (.val<|.int<|1+(m:Int)) (.val<|.int (n:Int)) (.val<|.lst<|zV bs) .no .no .no) (by simp[nV,z,y,B])<|zo (γ':=z (.val<|.int<|1+(m:Int)) (.val<|.int (n:Int)) (.val<|.lst<|zV bs) (.val R) .no .no) (by simp[nU,z,ew,u,l]) ?_;have ne:=XO<|yR bs;have q:=mh<|yR bs;have o:V3 xM (zc (ze 6) zJ) (z (.val<|.int<|1+(m:Int)) (.val<|.int (n:Int)) (.val<|.lst<|zV bs) (.val R) .no .no)=cq (qR bs a d):=by simp[V3,z,O,qR,Kg,W4]
 unfold nT ik;rw[RY ⟨rfl,by simp[z]⟩,o];have tt:(yZ (jP<|sB<|zI jk<|zc (ze 6)<|zc (ze 7) zJ)<|sB<|zC i0 (ed (zk 7)<|zA<|.int 0)<|ze 5) (z (.val<|.int<|1+(m:Int)) (.val<|.int (n:Int)) (.val<|.lst<|zV bs) (.val R) (.val<|qR bs a d) .no)=cq d7:=by simp[z,U];simp[qR,l7,ne]
 show(cq (zV bs,_,_)).bind _=_;rw[Ia];refine(congrArg (Option.bind · _) tt).trans ?_;rw[Ia,EQ II];refine(RY X).trans ?_;show zM _ _ (z (.val<|.int<|1+(m:Int)) (.val<|.int (n:Int)) (.val<|.lst<|zV bs) (.val R) .no .no)=_;refine zo (γ':=z (.val<|.int<|1+(m:Int)) (.val<|.int (n:Int)) (.val<|.lst<|zV bs) (.val R) .no<|.val<|qR bs a d) (by simp[z,O]) ?_;simp[z,U];simp[qR,l7,q]
open PySem.Spec PyProof.Rows
noncomputable def top(i:Nat):PySem.Stmt:=PySem.Challenge.pw_barsplit_k29_whole_hidden_bars.main.body.getD i<|.Pass ⟨0,0,0,0⟩
section
variable{CR CL:PySem.Addr}{P:PySem.Program}{w:PySem.World}{K:HR}{mg:PySem.Str->Option PySem.Value}{base:PySem.Heap}
theorem gG(h:us.length=n+1) : ∃a t,us=a::t/\t.length=n:=by
 cases us with
 | nil=>exact absurd h<|Nat.zero_ne_add_one n
 | cons a t=>exact⟨a,t,rfl,Nat.succ.inj h⟩
theorem HN(h:us.length=1) : ∃a,us=[a]:=by obtain⟨a,I,rfl,z⟩:=gG h;rw[Lu z];exact⟨a,rfl⟩
theorem HM(h:us.length=2) : ∃a b,us=[a,b]:=by obtain⟨a,I,rfl,z⟩:=gG h;obtain⟨b,O,rfl,d⟩:=gG z;rw[Lu d];exact⟨a,b,rfl⟩
theorem HL(h:us.length=3) : ∃a b c,us=[a,b,c]:=by obtain⟨a,I,rfl,z⟩:=gG h;obtain⟨b,O,rfl,d⟩:=gG z;obtain⟨c,U,rfl,e⟩:=gG d;rw[Lu e];exact⟨a,b,c,rfl⟩
theorem HK(h:us.length=4) : ∃a b c d,us=[a,b,c,d]:=by obtain⟨a,O,rfl,z⟩:=gG h;obtain⟨b,U,rfl,e⟩:=gG z;obtain⟨c,Y,rfl,f⟩:=gG e;obtain⟨d,g,rfl,I⟩:=gG f;rw[Lu I];exact⟨a,b,c,d,rfl⟩
structure E0(K:HR)(mg:PySem.Str->Option PySem.Value):Prop where
 Q0:i7 K mg "rests" (top 4) ["p","numbers"]
 Q1:i7 K mg "inverse" (top 5) ["p","x"]
 Q2:i7 K mg "led" (top 6) ["p","table","load"]
 Q3:i7 K mg "turned_over" (top 7) ["table"]
 Q4:i7 K mg "same_table" (top 8) ["many"]
 Q5:i7 K mg "lead_of" (top 10) ["load"]
 Q6:i7 K mg "cleared" (top 11) ["p","load","pivot","place"]
 Q7:i7 K mg "base_of" (top 12) ["p","long","loads"]
 Q8:i7 K mg "behind_noughts" (top 13) ["many","base"]
 Q9:i7 K mg "led_into" (top 14) ["p","table","base"]
 Qa:i7 K mg "kernel" (top 15) ["p","table"]
 Qb:i7 K mg "image" (top 16) ["p","table"]
 Qc:i7 K mg "solved" (top 17) ["p","table","load"]
 Qd:i7 K mg "back_of" (top 18) ["p","table"]
 Qe:i7 K mg "stretch_of" (top 20) ["bar"]
 Qf:i7 K mg "has_room" (top 21) ["bar","room"]
 Qg:i7 K mg "loads_in" (top 22) ["bars","room"]
 Qh:i7 K mg "columns" (top 23) ["high","loads"]
 Qi:i7 K mg "mixed_load" (top 24) ["row","bars","times","room"]
 Qj:i7 K mg "mixed" (top 25) ["row","bars","times"]
 Qk:i7 K mg "settled" (top 26) ["row","k","bars"]
 Ql:i7 K mg "next_load" (top 27) ["p","arrow","load"]
 Qm:i7 K mg "taken_on" (top 28) ["p","arrow","bar"]
 Qn:i7 K mg "new_loads" (top 29) ["p","arrow"]
 Qo:i7 K mg "grown" (top 30) ["row","k","bars"]
 Qp:i7 K mg "all_grown" (top 31) ["row"]
 Qq:i7 K mg "barred" (top 32) ["row"]
 Qr:i7 K mg "_law_cell" (top 34) ["_law_script","_law_k"]
 Qs:i7 K mg "_law_times" (top 35) ["_law_p","_law_one","_law_other"]
 Qt:i7 K mg "_law_same" (top 36) ["_law_many"]
 Qu:i7 K mg "_law_turn" (top 37) ["_law_script","_law_at","_law_p","_law_many"]
 Qv:i7 K mg "_law_ways" (top 38) ["_law_script","_law_at","_law_many"]
 Qw:i7 K mg "_law_bars" (top 39) ["_law_script","_law_at","_law_rooms","_law_many"]
 Qx:i7 K mg "_law_few" (top 40) ["_law_some"]
 Qy:i7 K mg "_law_with" (top 41) ["_law_found","_law_room"]
 Qz:i7 K mg "_law_bar_row" (top 42) ["_law_p","_law_ways_here","_law_found"]
 Th:i7 K mg "_law_in_turns" (top 43) ["_law_told","_law_turns","_law_backs"]
 Ti:i7 K mg "_law_hidden" (top 44) ["_law_script","_law_at","_law_told"]
 Tj:i7 K mg "_law_whole" (top 45) ["_law_found"]
 Tn:i7 K mg "_law_is_table" (top 46) ["_law_p","_law_found","_law_high","_law_wide"]
 To:i7 K mg "_law_paper_right" (top 47) ["_law_told","_law_found"]
 Tp:i7 K mg "law" (top 48) ["_law_script"]
 Z0:mg "tuple" = dn
 Z1:mg "range" = dn
 Z2:mg "sum" = dn
 Z3:mg "zip" = dn
 Z4:mg "enumerate" = dn
 Z5:mg "any" = dn
 Z6:mg "list" = dn
 Z7:mg "len" = dn
 Z8:mg "dict" = dn
 Z9:mg "sorted" = dn
 Za:mg "min" = dn
 Zb:mg "int" = dn
 Zc:mg "bool" = dn
 Zd:mg "isinstance" = dn
 Ze:mg "all" = dn
theorem w5(E:E0 K mg):il P w K mg base 1 "rests" 2 xB:=
 kJ (N:=["p","numbers"]) E.Q0 ⋯ λX I d O b U z e=>by subst I d O b U;exact zq (zS (jD z ⋯ E.Z0 (PO.q (qt z (zZ (zU z)) (λ_ _ _ a=>qb (zv a) (zv a))))))
theorem aE(E:E0 K mg):il P w K mg base 1 "inverse" 2 vW:=
 kJ (N:=["p","x","y"]) E.Q1 ⋯ λX I b O a U z d=>by subst I b O a U;exact by refine zf (kf d z (iL z ⋯ E.Z1 zh (zv z)) (zq (qw (yi z (qb (qX (zv z) (zv z)) (zv z)) zh) (zq (vD 2 (z.var ⋯))) jx))) ?_;exact(zq cV)
theorem nt(E:E0 K mg):il P w K mg base 2 "led" 3 gA:=
 kJ (N:=["p","table","load"]) E.Q2 ⋯ λX I e O d U z f=>by subst I e O d U;exact zq (zS (jj (w5 E) z (za (zv z) (za (PO.v (qt z (zZ (PV.q (zE (zU z) zh))) (λ_ _ _ a=>cI a ⋯ E.Z2 (PO.q (qt a (ji.c (wB a ⋯ E.Z3 (zv a) (zv a))) (λ_ _ _ b=>qX (zv b) (zv b))))))) zm))))
theorem ko(E:E0 K mg):il P w K mg base 1 "turned_over" 1 qv:=
 kJ (N:=["table","columns"]) E.Q3 ⋯ λX I e O d U z f=>by subst I e O d U;exact by refine zf (jy 1 (kE z (ji.c (jL z ⋯ E.Z1 (zE (zU z) zh))) (λ_ _ _ a=>jD a ⋯ E.Z0 (PO.q (qt a (zZ (PV.q (zE (zU a) zh))) (λ_ _ _ b=>zE (zU b) (zv b))))))) ?_;exact(zq (zS (j1 (yj (za (zE (zU z) zh) (za (zE (zU z) zh) (za (jD z ⋯ E.Z0 (zU z)) zm)))))))
theorem xG(E:E0 K mg):il P w K mg base 1 "same_table" 1 qp:=
 kJ (N:=["many","rows"]) E.Q4 ⋯ λX I e O d U z f=>by subst I e O d U;exact by refine zf (jy 1 (kE z (ji.c (jL z ⋯ E.Z1 (zv z))) (λ_ _ _ a=>jD a ⋯ E.Z0 (PO.q (qt a (ji.c (jL a ⋯ E.Z1 (zv a))) (λ_ _ _ b=>yN (yi b (zv b) (zv b)) zh zh)))))) ?_;exact(zq (zS (j1 (yj (za (zv z) (za (zv z) (za (jD z ⋯ E.Z0 (zU z)) zm)))))))
theorem yO(E:E0 K mg):il P w K mg base 1 "lead_of" 1 qE:=
 kJ (N:=["load"]) E.Q5 ⋯ λX I d O b U z e=>by subst I d O b U;exact zq (zS (zE (PO.q (YX z (ji.c (J7 z ⋯ E.Z4 (zv z))) (λ_ _ _ a=>xS a (zv a) zh) (λ_ _ _ a=>zv a))) zh))
theorem J9(E:E0 K mg):il P w K mg base 2 "cleared" 4 qF:=
 kJ (N:=["p","load","pivot","place","much"]) E.Q6 ⋯ λX I d O b U z e=>by subst I d O b U;exact by refine zf (jR z (zE (zU z) (zv z))) ?_;refine zf (qw (yi z (zv z) zh) (zq (vD 1 (z.var ⋯))) jx) ?_;exact(zq (zS (jj (w5 E) z (za (zv z) (za (PO.v (qt z (ji.c (wB z ⋯ E.Z3 (zv z) (zv z))) (λ_ _ _ a=>y6 (zv a) (qX (zv a) (zv a))))) zm)))))
theorem yQ(E:E0 K mg):il P w K mg base 3 "base_of" 3 xu:=
 kJ (N:=["p","long","loads","left","base","place","leading","times","pivot"]) E.Q7 ⋯ λX I d O b U z e=>by subst I d O b U;exact by refine zf (jy 3 (kE z (zZ (zU z)) (λ_ _ _ a=>jj (w5 E) a (za (zv a) (za (zv a) zm))))) ?_;refine zf (wA z (yB (yj zm))) ?_;refine zf (kf e z (jL z ⋯ E.Z1 (zv z)) (by refine zf (jy 6 (pv z (zZ (zU z)) (λ_ _ _ a=>xS a (zE (zU a) (zv a)) zh) (λ_ _ _ a=>zv a))) ?_;refine zf (qw (qi (iB (zU z))) (zq KG) jx) ?_;refine zf (jR z (jj (aE E) z (za (zv z) (za (zE (PV.q (zE (zU z) zh)) (zv z)) zm)))) ?_;refine zf (jR z (jj (w5 E) z (za (zv z) (za (PO.v (qt z (zZ (PV.q (zE (zU z) zh))) (λ_ _ _ a=>qX (zv a) (zv a)))) zm)))) ?_;refine zf (jy 3 (kE z (zZ (zU z)) (λ_ _ _ a=>jj (J9 E) a (za (zv a) (za (zv a) (za (zv a) (za (zv a) zm))))))) ?_;exact(zq (wA z (KI (PO.q (qt z (zZ (zU z)) (λ_ _ _ a=>jj (J9 E) a (za (zv a) (za (zv a) (za (zv a) (za (zv a) zm))))))) (PO.q (yB (yj (za (zv z) zm))))))))) ?_;exact(zq (vD 4 (z.var ⋯)))
theorem wm(E:E0 K mg):il P w K mg base 1 "behind_noughts" 2 qG:=
 kJ (N:=["many","base"]) E.Q8 ⋯ λX I d O b U z e=>by subst I d O b U;exact zq (qQ (YX z (zZ (zU z)) (λ_ _ _ a=>qi (j3 (mX a ⋯ E.Z5 (PV.q (KC (zv a) wg (we (zv a))))))) (λ_ _ _ a=>KC (zv a) (we (zv a)) wg)))
theorem ZQ(E:E0 K mg):il P w K mg base 4 "led_into" 3 xO:=
 kJ (N:=["p","table","base","pairs","free"]) E.Q9 ⋯ λX I d O b U z e=>by subst I d O b U;exact by refine zf (jy 3 (kE z (ji.c (wB z ⋯ E.Z3 (zE (PV.q (jj (ko E) z (za (zv z) zm))) zh) (zE (PV.q (jj (xG E) z (za (zE (zU z) zh) zm))) zh))) (λ_ _ _ a=>jQ (zv a) (zv a)))) ?_;refine zf (jy 4 (kE z (zZ (zU z)) (λ_ _ _ a=>jQ (zv a) (qX (j1 (yj (za zh zm))) (zE (zU a) zh))))) ?_;exact(zq (qQ (xF (wm E) z (za (zE (zU z) zh) (za (PO.v (xF (yQ E) z (za (zv z) (za (jQ (zE (zU z) zh) (zE (zU z) zh)) (za (PO.v (KI (zU z) (zU z))) zm))))) zm)))))
theorem KR(E:E0 K mg):il P w K mg base 5 "kernel" 2 yX:=
 kJ (N:=["p","table"]) E.Qa ⋯ λX I b O a U z d=>by subst I b O a U;exact zq (qQ (xF (ZQ E) z (za (zv z) (za (zv z) (za (PO.v (yB (yj zm))) zm)))))
theorem Wi(E:E0 K mg):il P w K mg base 4 "image" 2 wz:=
 kJ (N:=["p","table"]) E.Qb ⋯ λX I b O a U z d=>by subst I b O a U;exact zq (qQ (xF (yQ E) z (za (zv z) (za (zE (zU z) zh) (za (zE (PV.q (jj (ko E) z (za (zv z) zm))) zh) zm)))))
theorem dB(E:E0 K mg):il P w K mg base 4 "solved" 3 yW:=
 kJ (N:=["p","table","load","wide","answer","line","place"]) E.Qc ⋯ λX I d O b U z e=>by subst I d O b U;exact by refine zf (jR z (zE (zU z) zh)) ?_;refine zf (wA z (uT (yB (yj (za zh zm))) (zv z))) ?_;refine zf (kf e z (ZO (PO.v (xF (yQ E) z (za (zv z) (za (jQ (zv z) zh) (za (PO.v (qt z (ji.c (wB z ⋯ E.Z3 (zE (zU z) zh) (zv z))) (λ_ _ _ a=>jQ (zv a) (j1 (yj (za (zv a) zm)))))) zm)))))) (by refine zf (jR z (jj (yO E) z (za (zv z) zm))) ?_;refine zf (qw (yi z (zv z) (zv z)) (zq (zS KD)) jx) ?_;exact(zq (ZL 4 z ⋯ (zv z) (zE (zU z) (zv z)))))) ?_;exact(zq (zS (jD z ⋯ E.Z0 (zU z))))
theorem QA(E:E0 K mg):il P w K mg base 4 "back_of" 2 xZ:=
 kJ (N:=["p","table","many","same","base"]) E.Qd ⋯ λX I d O b U z e=>by subst I d O b U;exact by refine zf (jR z (zE (zU z) zh)) ?_;refine zf (qw (xS z (zE (zU z) zh) (zv z)) (zq (zS KD)) jx) ?_;refine zf (jR z (zE (PV.q (jj (xG E) z (za (zv z) zm))) zh)) ?_;refine zf (jR z (PO.v (xF (yQ E) z (za (zv z) (za (jQ (zv z) (zv z)) (za (PO.v (qt z (ji.c (wB z ⋯ E.Z3 (zE (zU z) zh) (zv z))) (λ_ _ _ a=>jQ (zv a) (zv a)))) zm)))))) ?_;refine zf (qw (xS z (PO.v (qt z (zZ (zU z)) (λ_ _ _ a=>KC (zv a) wg (we (zv a))))) (PO.v (pA z ⋯ E.Z6 (zU z)))) (zq (zS KD)) jx) ?_;exact(zq (zS (j1 (yj (za (zv z) (za (zv z) (za (jD z ⋯ E.Z0 (PO.q (qt z (zZ (zU z)) (λ_ _ _ a=>KC (zv a) (we (zv a)) wg)))) zm)))))))
theorem kU(E:E0 K mg):il P w K mg base 1 "stretch_of" 1 jW:=
 kJ (N:=["bar"]) E.Qe ⋯ λX I b O a U z d=>by subst I b O a U;exact zq (zS (j1 (yj (za (zE (zU z) zh) (za (y6 (jQ (zE (zU z) zh) (qB z ⋯ E.Z7 (PV.q (zE (zU z) zh)))) zh) zm)))))
theorem kY(E:E0 K mg):il P w K mg base 1 "has_room" 2 jU:=
 kJ (N:=["bar","room"]) E.Qf ⋯ λX I b O a U z d=>by subst I b O a U;exact zq (zS (V9 aA pS J1 bZ (zE (zU z) zh) (zv z) (jQ (zE (zU z) zh) (qB z ⋯ E.Z7 (PV.q (zE (zU z) zh))))))
theorem kW(E:E0 K mg):il P w K mg base 2 "loads_in" 2 qM:=
 kJ (N:=["bars","room"]) E.Qg ⋯ λX I d O b U z e=>by subst I d O b U;exact zq (qQ (YX z (zZ (zU z)) (λ_ _ _ a=>j3 (jj (kY E) a (za (zv a) (za (zv a) zm)))) (λ_ _ _ a=>zE (PV.q (zE (zU a) zh)) (y6 (zv a) (zE (zU a) zh)))))
theorem yP(E:E0 K mg):il P w K mg base 2 "columns" 2 xY:=
 kJ (N:=["high","loads"]) E.Qh ⋯ λX I b O a U z d=>by subst I b O a U;exact zq (zS (jj (ko E) z (za (j1 (yj (za (qB z ⋯ E.Z7 (zU z)) (za (zv z) (za (jD z ⋯ E.Z0 (zU z)) zm))))) zm)))
theorem Xu(E:E0 K mg):il P w K mg base 3 "mixed_load" 4 km:=
 kJ (N:=["row","bars","times","room","there"]) E.Qi ⋯ λX I d O b U z e=>by subst I d O b U;exact by refine zf (jy 4 (pv z (ji.c (wB z ⋯ E.Z3 (zv z) (zv z))) (λ_ _ _ a=>j3 (jj (kY E) a (za (zv a) (za (zv a) zm)))) (λ_ _ _ a=>zv a))) ?_;exact(zq (zS (jj (nt E) z (za (zE (zU z) zh) (za (jj (yP E) z (za (zE (PV.q (zE (zU z) zh)) (zv z)) (za (PO.v (xF (kW E) z (za (zv z) (za (zv z) zm)))) zm))) (za (zv z) zm))))))
theorem iX(E:E0 K mg):il P w K mg base 4 "mixed" 3 X0:=
 kJ (N:=["row","bars","times","first","loads"]) E.Qj ⋯ λX I d O b U z e=>by subst I d O b U;exact by refine zf (jR z (zE (zU z) (jj (yO E) z (za (zv z) zm)))) ?_;refine zf (jy 4 (kE z (ji.c (jL z ⋯ E.Z1 (qB z ⋯ E.Z7 (PV.q (zE (zU z) zh))))) (λ_ _ _ a=>jj (Xu E) a (za (zv a) (za (zv a) (za (zv a) (za (jQ (zE (zU a) zh) (zv a)) zm))))))) ?_;exact(zq (zS (j1 (yj (za (zE (zU z) zh) (za (jD z ⋯ E.Z0 (zU z)) zm))))))
theorem aC(E:E0 K mg):il P w K mg base 6 "settled" 3 vT:=
 kJ (N:=["row","k","bars","way","table","special","base","leads"]) E.Qk ⋯ λX I d O b U z e=>by subst I d O b U;exact by refine zf (jR z (zE (PV.q (zE (PV.q (zE (zU z) zh)) (zv z))) zh)) ?_;refine zf (jR z (zE (PV.q (zE (PV.q (zE (zU z) zh)) (zv z))) zh)) ?_;refine zf (jR z (yN (yi z (zv z) yz) (PO.v (xF (KR E) z (za (zE (zU z) zh) (za (zv z) zm)))) (PO.v (xF (Wi E) z (za (zE (zU z) zh) (za (zv z) zm)))))) ?_;refine zf (jR z (PO.v (xF (ZQ E) z (za (zE (zU z) zh) (za (jj (yP E) z (za (zE (PV.q (zE (zU z) zh)) (zv z)) (za (PO.v (xF (kW E) z (za (zv z) (za (zv z) zm)))) zm))) (za (zv z) zm)))))) ?_;refine zf (jR z (iy z ⋯ E.Z8 (qt z (zZ (zU z)) (λ_ _ _ a=>j1 (yj (za (jj (yO E) a (za (zv a) zm)) (za (zv a) zm))))))) ?_;exact(zq (qQ (qt z (ji.c (da z ⋯ E.Z4 (zv z))) (λ_ _ _ a=>yN (ph a (zv a) (zv a)) (jj (iX E) a (za (zv a) (za (zv a) (za (uG a (zv a) (zv a)) zm)))) (zv a)))))
theorem KP(E:E0 K mg):il P w K mg base 5 "next_load" 3 xc:=
 kJ (N:=["p","arrow","load","there"]) E.Ql ⋯ λX I b O a U z d=>by subst I b O a U;exact by refine zf (qw (yi z (zE (zU z) zh) yz) (zq (zS (jj (dB E) z (za (zv z) (za (zE (zU z) zh) (za (zv z) zm)))))) jx) ?_;refine zf (jR z (jj (nt E) z (za (zv z) (za (zE (zU z) zh) (za (zv z) zm))))) ?_;exact(zq (zS (yN (j3 (mX z ⋯ E.Z5 (zU z))) (zv z) KD)))
theorem Y1(E:E0 K mg):il P w K mg base 6 "taken_on" 3 kN:=
 kJ (N:=["p","arrow","bar","load"]) E.Qm ⋯ λX I b O a U z d=>by subst I b O a U;exact by refine zf (jR z (jj (KP E) z (za (zv z) (za (zv z) (za (zE (PV.q (zE (zU z) zh)) (uE zh)) zm))))) ?_;exact(zq (zS (yN (pf (zv z) KD) (zv z) (j1 (yj (za (zE (zU z) zh) (za (jQ (zE (zU z) zh) (j1 (yj (za (zv z) zm)))) zm)))))))
theorem KQ(E:E0 K mg):il P w K mg base 6 "new_loads" 2 yb:=
 kJ (N:=["p","arrow","leads"]) E.Qn ⋯ λX I d O b U z e=>by subst I d O b U;exact by refine zf (qw (yi z (zE (zU z) zh) yz) (zq (qQ (xF (KR E) z (za (zv z) (za (zE (zU z) zh) zm))))) jx) ?_;refine zf (jy 2 (kE z (zZ (PO.q (xF (Wi E) z (za (zv z) (za (zE (zU z) zh) zm))))) (λ_ _ _ a=>jj (yO E) a (za (zv a) zm)))) ?_;exact(zq (qQ (YX z (ji.c (J7 z ⋯ E.Z4 (zE (PV.q (jj (xG E) z (za (zE (PV.q (zE (zU z) zh)) zh) zm))) zh))) (λ_ _ _ a=>ak (zv a) (zU a)) (λ_ _ _ a=>zv a))))
theorem iY(E:E0 K mg):il P w K mg base 7 "grown" 3 JF:=
 kJ (N:=["row","k","bars","p","arrow","ended","here","old","new"]) E.Qo ⋯ λX I d O b U z e=>by subst I d O b U;exact by refine zf (jR z (zE (zU z) zh)) ?_;refine zf (jR z (zE (PV.q (zE (zU z) zh)) (zv z))) ?_;refine zf (jy 5 (pv z (zZ (zU z)) (λ_ _ _ a=>qi (j3 (jj (kY E) a (za (zv a) (za (zv a) zm))))) (λ_ _ _ a=>zv a))) ?_;refine zf (jR z (PO.v (xF (aC E) z (za (zv z) (za (zv z) (za (PO.v (YX z (zZ (zU z)) (λ_ _ _ a=>j3 (jj (kY E) a (za (zv a) (za (zv a) zm)))) (λ_ _ _ a=>zv a))) zm)))))) ?_;refine zf (jy 7 (kE z (zZ (zU z)) (λ_ _ _ a=>jj (Y1 E) a (za (zv a) (za (zv a) (za (zv a) zm)))))) ?_;refine zf (jy 8 (kE z (zZ (PO.q (xF (KQ E) z (za (zv z) (za (zv z) zm))))) (λ_ _ _ a=>j1 (yj (za (jQ (zv a) zh) (za (j1 (yj (za (zv a) zm))) zm)))))) ?_;exact(zq (zS (PO.v (KI (zU z) (PV.q (yN (yi z (zE (zU z) zh) yz) (PO.v (KI (zU z) (zU z))) (PO.v (KI (zU z) (zU z)))))))))
theorem wD(E:E0 K mg):il P w K mg base 9 "all_grown" 1 yd:=
 kJ (N:=["row","bars","k"]) E.Qp ⋯ λX I d O b U z e=>by subst I d O b U;exact by refine zf (jy 1 (kE z (zZ (PV.q (zE (PV.q (jj (xG E) z (za (zE (PV.q (zE (zU z) zh)) zh) zm))) zh))) (λ_ _ _ a=>j1 (yj (za zh (za (j1 (yj (za (zv a) zm))) zm)))))) ?_;refine zf (kf e z (jL z ⋯ E.Z1 (qB z ⋯ E.Z7 (PV.q (zE (zU z) zh)))) (zq (jR z (jj (iY E) z (za (zv z) (za (zv z) (za (zv z) zm))))))) ?_;exact(zq (qQ (iJ (kU E) z ⋯ ⋯ E.Z9 ⋯ (zU z))))
theorem dC(E:E0 K mg):il P w K mg base 10 "barred" 1 xM:=
 kJ (N:=["row","bars","backs","turns"]) E.Qq ⋯ λX I d O b U z e=>by subst I d O b U;exact by refine zf (jR z (PO.v (xF (wD E) z (za (zv z) zm)))) ?_;refine zf (jy 2 (kE z (ji.c (J7 z ⋯ E.Z4 (zE (zU z) zh))) (λ_ _ _ a=>jj (yP E) a (za (zv a) (za (PO.v (xF (kW E) a (za (zv a) (za (zv a) zm)))) zm))))) ?_;refine zf (jy 3 (kE z (zZ (zU z)) (λ_ _ _ a=>jj (QA E) a (za (zE (zU a) zh) (za (zv a) zm))))) ?_;exact(zq (zS (j1 (yj (za (PO.v (qt z (zZ (zU z)) (λ_ _ _ a=>jj (kU E) a (za (zv a) zm)))) (za (zv z) (za (zv z) zm)))))))
theorem aB(E:E0 K mg):PX P w K mg base 10 "barred" 1 xM:=
 Hr (N:=["row","bars","backs","turns"]) E.Qq ⋯ λX I d O b U z e=>by subst I d O b U;exact bU Wm (jR z (PO.v (xF (wD E) z (za (zv z) zm)))) (bU Wm (jy 2 (kE z (ji.c (J7 z ⋯ E.Z4 (zE (zU z) zh))) (λ_ _ _ a=>jj (yP E) a (za (zv a) (za (PO.v (xF (kW E) a (za (zv a) (za (zv a) zm)))) zm))))) (tI 3 z ⋯ (kE z (zZ (zU z)) (λ_ _ _ a=>jj (QA E) a (za (zE (zU a) zh) (za (zv a) zm)))) (qt z (zZ (zU z)) (λ_ _ _ a=>jj (kU E) a (za (zv a) zm))) (zv z)))
theorem kX(E:E0 K mg):il P w K mg base 1 "_law_cell" 2 jc:=
 kJ (N:=["_law_script","_law_k","_law_cell_here","_law_turn_here","_law_given"]) E.Qr ⋯ λX I b O a U z d=>by subst I b O a U;exact by refine zf (qw (Xo (oX (cO (qB z ⋯ E.Z7 (zU z)) zh) (ir (yi z (qb (zE (zU z) zh) zh) zh)))) (by refine zf (jR z (zE (zU z) (jQ zh (qb (zv z) (y6 (qB z ⋯ E.Z7 (zU z)) zh))))) ?_;refine zf (kf d z (jL z ⋯ E.Z1 (uF z ⋯ E.Za zh (vC (zv z) (y6 (qB z ⋯ E.Z7 (zU z)) zh)))) (zq (jR z (vC (zv z) (cJ zh zh))))) ?_;exact(zq (zS (qb (zv z) (cJ zh zh))))) jx) ?_;refine zf (jR z (zv z)) ?_;refine zf (qw (cO (qB z ⋯ E.Z7 (zU z)) zh) (zq (jR z (zE (zU z) (qb (zv z) (qB z ⋯ E.Z7 (zU z)))))) jx) ?_;exact(zq (zS (qb (qX (qb (jQ (jQ (jQ (qX (qb (zv z) (cJ zh zh)) zh) (qX (qX zh (zv z)) (zv z))) (qX zh (zv z))) zh) zh) zh) zh)))
theorem xV(E:E0 K mg):il P w K mg base 1 "_law_times" 3 jq:=
 kJ (N:=["_law_p","_law_one","_law_other","_law_columns_told","_law_rows","_law_row"]) E.Qs ⋯ λX I e O d U z f=>by subst I e O d U;exact by refine zf (jy 3 (kE z (ji.c (jL z ⋯ E.Z1 (zE (zU z) zh))) (λ_ _ _ a=>PO.v (qt a (zZ (PV.q (zE (zU a) zh))) (λ_ _ _ b=>zE (zU b) (zv b)))))) ?_;refine zf (wA z (yB (yj zm))) ?_;refine zf (kf f z (ZO (zE (zU z) zh)) (zq (ZM 4 z ⋯ (jD z ⋯ E.Z0 (PO.q (qt z (zZ (zU z)) (λ_ _ _ a=>qb (cI a ⋯ E.Z2 (PO.q (qt a (ji.c (wB a ⋯ E.Z3 (zv a) (zv a))) (λ_ _ _ b=>qX (zv b) (zv b))))) (zv a)))))))) ?_;exact(zq (zS (j1 (yj (za (zE (zU z) zh) (za (zE (zU z) zh) (za (jD z ⋯ E.Z0 (zU z)) zm)))))))
theorem JP(E:E0 K mg):il P w K mg base 1 "_law_same" 1 qU:=
 kJ (N:=["_law_many"]) E.Qt ⋯ λX I e O d U z f=>by subst I e O d U;exact zq (zS (j1 (yj (za (zv z) (za (zv z) (za (jD z ⋯ E.Z0 (PO.q (qt z (ji.c (jL z ⋯ E.Z1 (zv z))) (λ_ _ _ a=>jD a ⋯ E.Z0 (PO.q (qt a (ji.c (jL a ⋯ E.Z1 (zv a))) (λ_ _ _ b=>yA b ⋯ E.Zb (JL b (zv b) (zv b))))))))) zm))))))
theorem JO(E:E0 K mg):il P w K mg base 2 "_law_turn" 4 qT:=
 kJ (N:=["_law_script","_law_at","_law_p","_law_many","_law_turn_here","_law_back","_law_step","_law_cell_here","_law_a","_law_b","_law_by","_law_undo","_law_row","_law_told","_law_rows"]) E.Qu ⋯ λX I f O e U z d=>by subst I f O e U;exact by refine zf (Wa 4 (kE z (ji.c (jL z ⋯ E.Z1 (zv z))) (λ_ _ _ a=>PO.v (qt a (ji.c (jL a ⋯ E.Z1 (zv a))) (λ_ _ _ b=>yA b ⋯ E.Zb (JL b (zv b) (zv b))))))) ?_;refine zf (uN z (ji.c (jL z ⋯ E.Z1 (zv z))) (λ_ _ _ a=>qt a (ji.c (jL a ⋯ E.Z1 (zv a))) (λ_ _ _ b=>yA b ⋯ E.Zb (JL b (zv b) (zv b))))) ?_;refine zf (kf d z (jL z ⋯ E.Z1 (qX zh (zv z))) (by refine zf (jR z (jj (kX E) z (za (zv z) (za (jQ (zv z) (zv z)) zm)))) ?_;refine zf (jR z (qb (zv z) (zv z))) ?_;refine zf (jR z (qb (vC (zv z) (zv z)) (zv z))) ?_;refine zf (jR z (jQ zh (qb (vC (zv z) zh) (y6 (zv z) zh)))) ?_;exact(zq (qw (yi z (zv z) (zv z)) (by refine zf (ZL 4 z ⋯ (zv z) (PO.v (qt z (zZ (PV.q (zE (zU z) (zv z)))) (λ_ _ _ a=>qb (qX (zv a) (zv a)) (zv a))))) ?_;refine zf (jR z (zE (PO.q (YX z (ji.c (jL z ⋯ E.Z1 (zv z))) (λ_ _ _ a=>yi a (qb (qX (zv a) (zv a)) (zv a)) zh) (λ_ _ _ a=>zv a))) zh)) ?_;exact(zq (J6 5 12 (Wg d) z.calm z ⋯ ⋯ (z.DB 12 ⋯) (zv z) (qb (qX (zE (zU z) (zv z)) (zv z)) (zv z))))) (by refine zf (ZL 4 z ⋯ (zv z) (PO.v (qt z (ji.c (wB z ⋯ E.Z3 (zE (zU z) (zv z)) (zE (zU z) (zv z)))) (λ_ _ _ a=>qb (jQ (zv a) (qX (zv a) (zv a))) (zv a))))) ?_;exact(zq (J6 5 12 (Wg d) z.calm z ⋯ ⋯ (z.DB 12 ⋯) (zv z) (qb (y6 (zE (zU z) (zv z)) (qX (zv z) (zE (zU z) (zv z)))) (zv z))))))))) ?_;refine zf (wA z (yB (yj zm))) ?_;refine zf (iF 5 (pk 4 (kf d z (ZO (PO.v (yB (yj (za (zv z) (za (zv z) zm)))))) (zq (ZM 13 z ⋯ (j1 (yj (za (zv z) (za (zv z) (za (jD z ⋯ E.Z0 (PO.q (qt z (zZ (zU z)) (λ_ _ _ a=>jD a ⋯ E.Z0 (zU a))))) zm)))))))))) ?_;exact(zq (vD 13 (z.var ⋯)))
theorem ZR(E:E0 K mg):il P w K mg base 2 "_law_ways" 3 xj:=
 kJ (N:=["_law_script","_law_at","_law_many"]) E.Qv ⋯ λX I d O b U z e=>by subst I d O b U;exact zq (zS (cL yz (PO.q (qt z (ji.c (jL z ⋯ E.Z1 (y6 (zv z) zh))) (λ_ _ _ a=>iu yz (qb (vC (jj (kX E) a (za (zv a) (za (jQ (zv a) (zv a)) zm))) zh) zh))))))
theorem ZS(E:E0 K mg):il P w K mg base 2 "_law_bars" 4 xk:=
 kJ (N:=["_law_script","_law_at","_law_rooms","_law_many","_law_found","_law_k","_law_cell_here","_law_i"]) E.Qw ⋯ λX I b O a U z d=>by subst I b O a U;exact by refine zf (wA z (yB (yj zm))) ?_;refine zf (kf d z (jL z ⋯ E.Z1 (zv z)) (by refine zf (jR z (jj (kX E) z (za (zv z) (za (jQ (zv z) (zv z)) zm)))) ?_;refine zf (jR z (qb (zv z) (zv z))) ?_;exact(zq (ZM 4 z ⋯ (j1 (yj (za (zv z) (za (jQ (zv z) (qb (vC (zv z) zh) (y6 (zv z) (zv z)))) zm)))))))) ?_;exact(zq (qQ (Wc z ⋯ E.Z9 (zU z))))
theorem aD(E:E0 K mg):il P w K mg base 1 "_law_few" 1 vV:=
 kJ (N:=["_law_some"]) E.Qx ⋯ λX I d O b U z e=>by subst I d O b U;exact by refine zf (cU 100 (Wg e) (cO (cI z ⋯ E.Z2 (PO.q (qt z (zZ (zU z)) (λ_ _ _ a=>jQ (y6 (zv a) (zv a)) zh)))) zh) (zq (jR z (PO.v (uS (zU z) (we zh) wg))))) ?_;exact(zq (vD 0 (z.var ⋯)))
theorem xU(E:E0 K mg):il P w K mg base 1 "_law_with" 2 je:=
 kJ (N:=["_law_found","_law_room"]) E.Qy ⋯ λX I d O b U z e=>by subst I d O b U;exact zq (qQ (YX z (ji.c (da z ⋯ E.Z4 (zv z))) (λ_ _ _ a=>cP aA aA J1 J1 (zE (zU a) zh) (zv a) (zE (zU a) zh)) (λ_ _ _ a=>zv a)))
theorem y8(E:E0 K mg):il P w K mg base 2 "_law_bar_row" 3 qV:=
 kJ (N:=["_law_p","_law_ways_here","_law_found","_law_widths","_law_arrows","_law_k","_law_way","_law_begin","_law_end","_law_rows"]) E.Qz ⋯ λX I e O d U z f=>by subst I e O d U;exact by refine zf (jy 3 (kE z (ji.c (jL z ⋯ E.Z1 (jQ (oZ z ⋯ E.Z7 (zv z)) zh))) (λ_ _ _ a=>qB a ⋯ E.Z7 (PO.q (xF (xU E) a (za (zv a) (za (zv a) zm))))))) ?_;refine zf (wA z (yB (yj zm))) ?_;refine zf (kf f z (pF z ⋯ E.Z4 (zv z)) (by refine zf (jR z (jQ (zv z) (yA z ⋯ E.Zb (JL z (zv z) yz)))) ?_;refine zf (jR z (jQ (zv z) (yA z ⋯ E.Zb (JL z (zv z) yz)))) ?_;refine zf (jy 9 (kE z (zZ (PO.q (xF (xU E) z (za (zv z) (za (zv z) zm))))) (λ_ _ _ a=>jD a ⋯ E.Z0 (PO.q (qt a (zZ (PO.q (xF (xU E) a (za (zv a) (za (zv a) zm))))) (λ_ _ _ b=>yA b ⋯ E.Zb (JL b (zv b) (zv b)))))))) ?_;exact(zq (ZM 4 z ⋯ (j1 (yj (za (zv z) (za (j1 (yj (za (zE (zU z) (zv z)) (za (zE (zU z) (zv z)) (za (jD z ⋯ E.Z0 (zU z)) zm))))) zm)))))))) ?_;exact(zq (zS (j1 (yj (za (zv z) (za (jD z ⋯ E.Z0 (zU z)) (za (jD z ⋯ E.Z0 (zU z)) zm)))))))
theorem ki(E:E0 K mg):il P w K mg base 2 "_law_in_turns" 3 qa:=
 kJ (N:=["_law_told","_law_turns","_law_backs","_law_p","_law_widths","_law_arrows","_law_made","_law_k","_law_pair","_law_begin","_law_end"]) E.Th ⋯ λX I b O a U z d=>by subst I b O a U;exact by refine zf (Xr (CA z) (zv z)) ?_;refine zf (wA z (yB (yj zm))) ?_;refine zf (kf d z (J7 z ⋯ E.Z4 (zv z)) (by refine zf (jR z (jQ (zv z) (yA z ⋯ E.Zb (JL z (zE (zU z) zh) yz)))) ?_;refine zf (jR z (jQ (zv z) (yA z ⋯ E.Zb (JL z (zE (zU z) zh) yz)))) ?_;exact(zq (ZM 6 z ⋯ (j1 (yj (za (zE (zU z) zh) (za (jj (xV E) z (za (zv z) (za (jj (xV E) z (za (zv z) (za (zE (zU z) (zv z)) (za (zE (zU z) zh) zm)))) (za (zE (zU z) (zv z)) zm)))) zm)))))))) ?_;exact(zq (zS (j1 (yj (za (zv z) (za (zv z) (za (jD z ⋯ E.Z0 (zU z)) zm)))))))
theorem Xv(E:E0 K mg):il P w K mg base 3 "_law_hidden" 3 xq:=
 kJ (N:=["_law_script","_law_at","_law_told","_law_pairs"]) E.Ti ⋯ λX I d O b U z e=>by subst I d O b U;exact by refine zf (jy 3 (kE z (ji.c (J7 z ⋯ E.Z4 (zE (zU z) zh))) (λ_ _ _ a=>PO.v (xF (JO E) a (za (zv a) (za (jQ (zv a) (qX zh (zv a))) (za (zE (zU a) zh) (za (zv a) zm)))))))) ?_;exact(zq (zS (jj (ki E) z (za (zv z) (za (PO.v (qt z (zZ (zU z)) (λ_ _ _ a=>zE (zU a) zh))) (za (PO.v (qt z (zZ (zU z)) (λ_ _ _ a=>zE (zU a) zh))) zm))))))
theorem xm(E:E0 K mg):il P w K mg base 1 "_law_whole" 1 js:=
 kJ (N:=["_law_found"]) E.Tj ⋯ λX I b O a U z d=>by subst I b O a U;exact zq (zS (cN (cM z ⋯ E.Zd ⋯ E.Zb (zv z)) (cK (uD (aj z ⋯ E.Zd ⋯ E.Zc (zv z))))))
theorem kh(E:E0 K mg):il P w K mg base 2 "_law_is_table" 4 jb:=
 kJ (N:=["_law_p","_law_found","_law_high","_law_wide","_law_row"]) E.Tn ⋯ λX I d O b U z e=>by subst I d O b U;exact by refine zf (qw (Xo (xQ (qi (j3 (xR z ⋯ E.Zd ⋯ E.Z0 (zv z)))) (xQ (xS z (qB z ⋯ E.Z7 (zU z)) zh) (xQ (qi (j3 (jj (xm E) z (za (zE (zU z) zh) zm)))) (yx (qi (j3 (jj (xm E) z (za (zE (zU z) zh) zm))))))))) (zq (zS wM)) jx) ?_;refine zf (qw (Xo (xQ (xS z (KC (zv z) wg (we zh)) (j1 (yj (za (zv z) (za (zv z) zm))))) (xQ (qi (j3 (xR z ⋯ E.Zd ⋯ E.Z0 (zE (zU z) zh)))) (yx (xS z (qB z ⋯ E.Z7 (PV.q (zE (zU z) zh))) (zv z)))))) (zq (zS wM)) jx) ?_;refine zf (kf e z (ZO (zE (zU z) zh)) (by refine zf (qw (Xo (xQ (qi (j3 (xR z ⋯ E.Zd ⋯ E.Z0 (zv z)))) (yx (xS z (qB z ⋯ E.Z7 (zU z)) (zv z))))) (zq (zS wM)) jx) ?_;exact(zq (qw (qi (j3 (mY z ⋯ E.Ze (PO.q (qt z (zZ (zU z)) (λ_ _ _ a=>cN (jj (xm E) a (za (zv a) zm)) (cK (V9 aA pS J1 bZ zh (zv a) (zv a))))))))) (zq (zS wM)) jx)))) ?_;exact(zq (zS wM))
theorem kg(E:E0 K mg):il P w K mg base 3 "_law_paper_right" 2 jk:=
 kJ (N:=["_law_told","_law_found","_law_p","_law_widths","_law_arrows","_law_some","_law_turns","_law_backs","_law_bar","_law_wide","_law_turn_here","_law_back"]) E.To ⋯ λX I e O d U z b=>by subst I e O d U;exact by refine zf (Xr (CA z) (zv z)) ?_;refine zf (qw (Xo (xQ (qi (j3 (xR z ⋯ E.Zd ⋯ E.Z0 (zv z)))) (xQ (xS z (qB z ⋯ E.Z7 (zU z)) zh) (yx (qi (j3 (mY z ⋯ E.Ze (PO.q (qt z (zZ (zU z)) (λ_ _ _ a=>ai a ⋯ E.Zd ⋯ E.Z6 (zv a))))))))))) (zq (zS wM)) jx) ?_;refine zf (Xr (CA z) (zv z)) ?_;refine zf (kf b z (ZO (zv z)) (by refine zf (qw (Xo (xQ (qi (j3 (xR z ⋯ E.Zd ⋯ E.Z0 (zv z)))) (xQ (xS z (qB z ⋯ E.Z7 (zU z)) zh) (xQ (qi (j3 (jj (xm E) z (za (zE (zU z) zh) zm)))) (yx (qi (j3 (jj (xm E) z (za (zE (zU z) zh) zm))))))))) (zq (zS wM)) jx) ?_;exact(zq (qw (qi (ao aA aA pS J1 J1 bZ zh (zE (zU z) zh) (zE (zU z) zh) (qB z ⋯ E.Z7 (zU z)))) (zq (zS wM)) jx)))) ?_;refine zf (qw (Xo (xQ (xS z (zv z) (PO.v (Wc z ⋯ E.Z9 (zU z)))) (xQ (xS z (qB z ⋯ E.Z7 (zU z)) (qB z ⋯ E.Z7 (zU z))) (yx (xS z (qB z ⋯ E.Z7 (zU z)) (qB z ⋯ E.Z7 (zU z))))))) (zq (zS wM)) jx) ?_;refine zf (kf b z (pD z ⋯ E.Z3 (zv z) (zv z) (zv z)) (by refine zf (qw (Xo (xQ (qi (j3 (jj (kh E) z (za (zv z) (za (zv z) (za (zv z) (za (zv z) zm))))))) (yx (qi (j3 (jj (kh E) z (za (zv z) (za (zv z) (za (zv z) (za (zv z) zm)))))))))) (zq (zS wM)) jx) ?_;exact(zq (qw (xS z (jj (xV E) z (za (zv z) (za (zv z) (za (zv z) zm)))) (jj (JP E) z (za (zv z) zm))) (zq (zS wM)) jx)))) ?_;exact(zq (zS (JL z (jj (ki E) z (za (zv z) (za (zv z) (za (zv z) zm)))) (jj (y8 E) z (za (zv z) (za (cL yz (PO.q (qt z (zZ (zU z)) (λ_ _ _ a=>zE (zU a) zh)))) (za (zv z) zm)))))))
theorem FW(D:L2.DG K "law" "law" (top 48) f fd)(E:E0 K mg):rr P w K mg base sX 11 f fd ["_law_script"] (t7 K 1 JE):=
 EH (N:=["_law_script","_law_cell_here","_law_p","_law_rooms","_law_many","_law_some","_law_told","_law_found","_law_again"]) D ⋯ λX I b O a U z d=>by subst I b O a U;exact by refine zf (jR z (jj (kX E) z (za (zv z) (za zh zm)))) ?_;refine zf (jR z (zE (PO.q (yB (yj (za zh (za zh (za zh (za zh zm))))))) (qb (zv z) zh))) ?_;refine zf (jR z (jQ zh (qb (vC (zv z) zh) zh))) ?_;refine zf (jR z (qb (vC (zv z) zh) zh)) ?_;refine zf (qw (yi z (qb (vC (zv z) zh) zh) zh) (by refine zf (jR z (jQ zh (qb (zv z) zh))) ?_;exact(zq (jR z zh))) jx) ?_;refine zf (jR z (jj (aD E) z (za (PO.v (xF (ZS E) z (za (zv z) (za zh (za (zv z) (za (zv z) zm)))))) zm))) ?_;refine zf (jR z (jj (Xv E) z (za (zv z) (za zh (za (jj (y8 E) z (za (zv z) (za (jj (ZR E) z (za (zv z) (za zh (za (zv z) zm)))) (za (zv z) zm)))) zm))))) ?_;exact(cS 7 z ⋯ (z.set 7 ⋯ (uI (aB E) ⋯ z ⋯ (za (zv z) zm))) (Xo (xQ (qi (j3 (jj (kg E) z (za (zv z) (za (zv z) zm))))) (yx (xS z (zE (zU z) zh) (zv z))))) wM zh (j1 (yj (za zh (za zh zm)))) zh (by refine zf (jR z (jj (dC E) z (za (zv z) zm))) ?_;exact(zq (zS (cN (jj (kg E) z (za (zv z) (za (zv z) zm))) (cK (JL z (zE (zU z) zh) (zv z))))))))
end
end DL
namespace PySem.W.Fast
def tw13181701328368397355:=0
def tw2841156079500321939:=0
def tw2246124745941249446:=0
def tw9192607596039518119:=0
def tw3516994579803094583:=0
def tw2758939701053431128:=0
def tw3394737821649832961:=0
def tw15810759026397115877:=0
def tw11164364760899237992:=0
def tw2741775059617926915:=0
def tw5826221850906266417:=0
def tw5861228596993704880:=0
def tw14463034058385311222:=0
def tw12705481845758682784:=0
def tw14474217127109476205:=0
def tw4645281579114773084:=0
def tw17356654489761849861:=0
def tw3922874331665495035:=0
def tw13237769890734056962:=0
def tw14447739578928118471:=0
def tw13155212026573037859:=0
def tw645204445560574861:=0
def tw16299962324418445491:=0
def tw1262977882524683710:=0
def tw8102341950296285167:=0
def tw6149314376366371249:=0
def tw9793139136683875085:=0
def tw1860319666973677599:=0
def tw5366911265980088247:=0
def tw1745007576728964362:=0
def tw3267200246954400145:=0
def tw10063818338827554116:=0
def tw6475745402511337547:=0
def tw16007392648427774462:=0
def tw9008435325627108910:=0
def tw10075737397584353756:=0
def tw14363262220354746521:=0
def tw8459403567061822387:=0
def tw3089743203427062182:=0
def tw1910709116101322203:=0
def tw2539766634186234445:=0
def tw14845695721467397619:=0
def tw8688702010731548342:=0
def tw9710183266621375618:=0
def tw803544415566551654:=0
def tw17882961952709229375:=0
def tw12089625953647218113:=0
def tw542340359634843501:=0
def tw209151812381236244:=0
def tw6043703914300340076:=0
def tw9875213110686538496:=0
def tw10154961632754818996:=0
def tw13323329548850876214:=0
def tw2803584953761284118:=0
def tw12346274532355866568:=0
def tw10730763484015049509:=0
def tw12709875377373742984:=0
def tw17232031228933132418:=0
def tw510713181979196777:=0
def tw17687334557518259831:=0
def tw16019116579808714221:=0
def tw14336007246573330875:=0
def tw10476243447648332822:=0
def tw1835360623402971286:=0
def tw16277230931362277141:=0
def tw2043353518569294742:=0
def tw10209288811604419656:=0
def tw13216167804574690146:=0
def tw17377913354501130528:=0
def tw5110702582922868677:=0
def tw3151044723899572087:=0
def tw11794756024459174958:=0
def tw6012477906501954244:=0
def tw14492817968179838274:=0
def tw769852494452756840:=0
def tw1168297159364489991:=0
def tw13158430828233984556:=0
def tw10937995437187334964:=0
def tw11032284601881367286:=0
def tw13441157473225527471:=0
def tw4085769176131402472:=0
def tw17218178998330559519:=0
def tw13623461131759336573:=0
def tw7192803802175330889:=0
def tw8336075579172379457:=0
def tw14843701750278844196:=0
def tw9954487642326736403:=0
def tw1256961625968468694:=0
def tw745354143739160352:=0
def tw8742854136225905526:=0
def tw4614158142282434186:=0
def tw10867089368175572363:=0
def tw2367764187917681961:=0
def tw17316721551433064834:=0
def tw11908064564146875580:=0
def tw16195791926102102243:=0
def tw11942561885907462160:=0
def tw1033280374399138324:=0
def tw14219377460989229673:=0
def tw1116787993318885601:=0
def tw12476095516733177593:=0
def tw12107877255996114264:=0
def tw17258406706718943818:=0
def tw3040562420203415048:=0
def tw8682162583115544349:=0
def tw6636275349121928173:=0
def tw532818350164986354:=0
def tw14615923060884052567:=0
def tw907157278881981173:=0
def tw12023969181057474478:=0
def tw10899439043380251887:=0
def tw4097172207325002054:=0
def tw3009695608567333037:=0
def tw5555244031308681851:=0
def tw8147409063412020834:=0
def tw7630420536785209351:=0
def tw9643778636914361715:=0
end PySem.W.Fast
open PySem PySem.W PyProof.Rows
set_option maxRecDepth 100000 in
set_option maxHeartbeats 0 in
theorem PySem.Challenge.cw_barsplit_k29_whole_hidden_bars_holds : PySem.Challenge.rw_barsplit_k29_whole_hidden_bars.Holds := by
 w_on;o_law;k_head;(case hw=>w_witness2)
 k_fill
 refine L2.Bx (l:=Ny) (n:=63) (k:=11) (x:="_law_script") (CX:=L2.sX) (sp:=λK=>DL.t7 K 1 DL.JE) rfl ⋯ rfl ⟨rfl,by decide,by decide⟩ (λw h Y=>PySem.W.kIn_of Y) ?F ?S ?C
 case S=>exact λK H a ns I hO U=>DL.Cb U (DL.Ew ns I)
 case C=>exact λ_ _ _ _ z=>z
 case F=>
  intro w mg fa h O G a0;have E:DL.E0 (L2.Sq O) mg:=by
   constructor
   all_goals first
    | assumption
    | exact PySem.W.mg_none_of O G (by k_is)
    | (dsimp only[L2.Sq];refine' DL.Gc O G ?a ?l ?c ?k ?b;(case a=>k_is);(case l=>k_is);(case c=>k_is);(case k=>k_is);(case b=>intro _ _ _ _ _ _ us I;first | (obtain⟨_,rfl⟩:=DL.HN I;rfl) | (obtain⟨_,_,rfl⟩:=DL.HM I;rfl) | (obtain⟨_,_,_,rfl⟩:=DL.HL I;rfl) | (obtain⟨_,_,_,_,rfl⟩:=DL.HK I;rfl)))
  obtain⟨f,fd,Fu,hb,hm⟩:=E.Tp.ex;have e0:=a0.symm.trans hm;cases e0;refine⟨fd,λs u=> .of_eq (hb [u] rfl),λbase kb nb=>?_⟩;exact DL.FW Fu E
