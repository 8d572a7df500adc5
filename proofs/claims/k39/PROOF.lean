import PyProof.Rows.All
import Wide.All
import OpenK.AllK
import Wide.FinOn
import Lean
import PyProof.EqAt
import PyProof.EqKinds
import PyProof.TupleCall
import PySem.Str
import PyProof.ZipIter
import PyProof.IsiBase
import KE.KItemsList
import KE.KIsAll
import OpenK.KOwn
import KE.KSortAsk
import PyProof.StrBlockI
import PyProof.Rows.EqDataRows
import PyProof.Rows.InDataRows
import PyProof.SumWalkG
import PyProof.ConsumeWalk
import PyProof.WalksMore
import KE.KSortTup
import PyProof.ListMulRoad
import PyProof.EnumFor
import PyProof.Rows.EnumRows
import PyProof.StrBlockL
import PyProof.JoinWalk
import PyProof.NsDelKeeps
import KE.KTryDeep
import PyProof.InstStoreFacts
import PyProof.NsCount
import PyProof.ExcClass2
import PyProof.Rows.FStr
import PyProof.StationsW
import PyProof.Rows.Catch
import KE.KRevIter
import PyProof.CollectIter
import PyProof.TupleOfGen
import PyProof.Rows.Tup
import PyProof.Draws
import PyProof.EnumMake
import PyProof.StrWalks
import PyProof.SliceStr2
import PyProof.ListNew
import KE.KDictOf
import PyProof.ListRange
import PyProof.Rows.GenSrcRange
import PyProof.ListCopy
import PyProof.AttrMissHeap
import PyProof.DictWalks
import PyProof.FactsDict
import KE.KSortKey
import PyProof.TableCode
import PyProof.Rows.KernelRfl
import PySem.Challenge.RW_barsplit_k39_ways_counted
open PySem renaming wpAny_bind → MA,wpAny_pure → MN,wpAny_field → NJ,wpAny_setField_rec → NP,wpAny_callSpecial?_slot → Od,wpAny_seqItems → Oe,wpAny_call_entry → Ow,wpAny_newObj_type → Ox,wpAny_truthy_bool → OA,wpAny_holding → OV,wpAny_mono → OW,wpAny_loadPart' → OX,wpAny_onRaise → Pb,wpAny_letGo → PR,sizeLine_eq → PU,mem_of_lookup → PZ,Builtin → Rg,wpAny_rule → Rm,wpAny_attempt → Rw,wpAny_Call_Name_kw → Rx,call_meets → RJ,wpAny_passesOwn → Sd,pushCells_keeps → Sg,wpAny_typeOf → So,wpAny_pyIter_tuple → Sq,wpAny_newTuple → Sw,wpAny_pyIter_zip → SN,codeAny_mono → Ht,wpAny_updateSeq_pair → Tn,wpAny_standAt → TC,wpAny_newList → TF,wpAny_pyIter_list → TK,typeIs_int → TL,concat_meets → TN,wpAny_isInstance → TQ,noFill_tuple_add → TR,Addr → ej,Value → el,Shared → eK,Expr → e9,model → fe,eval → fh,Heap → gb,sizeLine → gm,starEach → gu,Pos → hL,World → h9,Scope → ij,Program → i6,Stmt → k4,Around → mu,Obj → m3,IsZip → m7,Builtin → n5,Env → n6,IsPair → n9,compareOp → oe,foldedSetIterable → o8,FuncData → p8,Tok → q7,cellsFrom → sh,backTo → su,holding → sy,mainGlobals → s9,assign → t6,binaryOp → t7,IsEnum → uf,NameKind → uh,behindInMarks → u4,relabel → u9,assignEach → xb,rawInt → xr,IsPart → A5,bootBuiltins → A7,getItem → B5,swapsWith → C2,sysModules → C3,pushCells → Dg,pyNext → Dh,bindC → Du,bindL → Dv,cLine → Dw,callerA → Dx,isTrue → Dz,standAt → DC,Meets → DI,atKey → DN,valueAt → D0,Keyword → D4,truthy → F6,BindsTo → Gx,letOwnedTupleGo → L0,pyIter → M0,spliced → M3,swapsWithSole → M5,typeLookup → N4,IsEnumOut → N9,PassesOwn → O2,ZipApart → O8,firstArgMember → P9,lastMarks → Se,ownMembersOf → S8,preSum → TX,setField → T7,setItem → T8,subscripted → Ub,swappedStores → Uc,attributeBase → Uv,backToKw → Uw,bindArgs → Ux,builtinsNs → Uy,callType_new → Uz,isSubtype_stop → UM,newFunctionEnv → U2,newTuple → U3,release → U7,seqIndex_neg → U8,seqIndex_of → U9,seq_tuple_add → X1,tupleKind → g_,typeIs_str → j_,wpAny_Name → k_,wpAny_execs_nil → l_,builtinLookup_eq_fast → H_,getattributeRaised → M',tupleKind_room_in1 → _g,wpAny_assign_Name → _i,wpAny_binaryOp_repeat_ref → _j,wpAny_isTrue_Compare1 → _k,wpAny_letOwnedTupleGo_enum → _l,wpAny_letOwnedTupleGo_zip → _m,wpAny_sequenceKey → _n
open List renaming range → MB,mem_range → MD,getElem?_eq_getElem → MF,replicate → MH,getD_eq_getElem?_getD → MI,getElem?_cons_zero → MJ,getElem?_set_ne → MK,getElem?_cons_succ → ML,map_congr_left → MQ,size_toArray → MR,mem_cons → MS,mem_cons_of_mem → MT,getElem?_eq_some_iff → MU,mem_cons_self → MX,length_cons → MY,mem_map → Nb,length_map → Nf,mem_append_right → Nh,getElem?_set_self → Ni,length_nil → Nj,map_cons → Nk,map_map → Nm,mem_filter → Np,not_mem_nil → Nu,getElem?_map → Nw,length_range → NI,eq_nil_of_length_eq_zero → NL,getElem?_append_right → NN,mem_of_getElem? → NQ,map_append → NR,countP_eq_length_filter → NS,length_append → NZ,getElem?_append_left → Oc,lookup_cons → Og,nodup_cons → Oq,all_eq_true → Ot,countP_congr → Oz,set_cons_zero → OB,set_cons_succ → OC,mem_singleton → OD,replicate_succ → OH,ext_getElem? → OI,range_succ → OJ,range_eq_range' → ON,zip_map' → OP,mem_append → OS,getElem?_range → OT,pairwise_iff_getElem → OZ,drop_eq_getElem_cons → Pa,getElem?_set → Pe,flatten_cons → Pf,find?_cons → Pg,append_nil → Ph,range'_succ → Pn,getElem_mem → Po,zip_cons_cons → Pw,toArray → PB,length_singleton → PD,length_filter_le → PF,Pairwise → PK,countP_eq_zero → Rc,nil_append → Ri,getElem?_replicate → Rj,take_of_length_le → Rr,pairwise_lt_range → Rt,range' → Ru,pairwise_map → Rv,range_add → RA,map_nil → RD,length_take → RH,drop_length → RI,getElem_of_mem → RO,forIn_cons → RP,filter_sublist → RQ,filter_append → RZ,getElem?_zip_eq_some → Sa,forIn_nil → Sb,any_cons → Sr,all_cons → Ss,zipIdx_cons → Sy,nodup_range → Sz,cons_append → O3,zipIdx_nil → SF,countP_map → SG,mem_append_left → SO,getElem?_of_mem → SQ,filterMap_cons → SV,map_singleton → Ti,countP_append → Tj,length_eq_countP_add_countP → Tp,foldl → Tr,filter_congr → Ts,any_eq_false → Tt,any_eq_true → Tx
open PySem.W renaming Frag → MC,kia_one → NM,kitOne → PM,cellsFrom_some → Rh,fnOf → Rp,keepIn → RR,findIn → RT,codeIn → SE,methodObj → Tc,kitx_list → Td,kitx_dict → Te
open PySem.Heap renaming get?_push_of_some → ME,get?_push_size → MV,lt_size → Na,push → Nd,size_push → Nz,get?_update_other → Om,size_update → Pp,SameBut → PH,get?_push_ne → PL,get?_update_self → RE,get?_update_ne → SW
open Option renaming bind_some → MG,map_some → MP,some → Oi,isSome_iff_exists → OK,getD_some → RB,map → Th,some → dn,none → ed
open Nat renaming le_refl → MM,lt_or_ge → Nc,lt_of_lt_of_le → Ng,ne_of_lt → Nt,le_add_right → Nv,not_lt_zero → Nx,zero_add → NA,add_sub_cancel_left → NF,lt_succ_of_lt → NT,reduceAdd → NV,lt_irrefl → NW,zero_le → NY,le_trans → Of,ne_of_gt → OF,lt_succ_self → OM,lt_trichotomy → Rz,le_succ → RU,le_succ_of_le → Sm,add_assoc → Sx,mul_comm → SK,min_eq_left → O4,le_of_lt → SM
open Int renaming mul_emod → MO,emod_emod → Nl,emod_lt_of_pos → Nr,emod_nonneg → NG,add_emod → NO,emod_eq_of_lt → NU,mul_comm → NX,toNat_natCast → Ou,mul_assoc → Ov,sub_emod → OL,emod_eq_emod_iff_emod_sub_eq_zero → OO,add_zero → OY,mul_zero → Pj,eq_ofNat_of_zero_le → Pk,zero_mul → PJ,mul_left_comm → PN,toNat_of_nonneg → G9,mul_add → Rf,mul_one → RV,add_mul → D8,zero_add → Tz
open Bool renaming and_eq_true → MW,false_ne_true → Nq,or_eq_true → tx,false_eq_true → OE,not_eq_true' → OR,eq_iff_iff → OU,false_and → PY,true_and → RM,and_true → Sv,true → d7,false → eh
open PySem.Builtin.SmallTypes renaming nextOf → MZ,ownedTupleIsFree → Nn,ownedTupleHandOut → Oa,ownedTupleFields → RX
open Ne renaming symm → Ny
open PySem.NameKind renaming free → NB,cell → Pd
open PySem.Obj renaming mapSeq → NC,data_mapFields → To
open Option.some renaming inj → ND
open PySem.Value renaming none → NH,ref → Oy,type → Ro,str → Ta,int → Tb
open PySem.Str renaming ofString → NK,join → TJ
open PyProof.Rows renaming callWith_type1 → Ob,slot_tuple_getitem → D6,listUpdate_at → Ry,slot_tupleiter_next → Sf,tupleItemsOf_ → SI,callWith_builtin1 → SJ,get?_update_seq → SY,seqEpoch_at → Tu,size_push' → TM,seqObj → g5,AllBare → C6,Call_ → DH,IsTup → D3,arrOf → D9,IntsAre → G6,envOfC → I0,Subscript_ → Ut,subscriptTail → c_,args_tuple_getitem → E_,args_tupleiter_next → F',boot_enumerate → F_,entry_tupleiter_next → J_,listItems_at → S',subscriptTail_builtinR → _b
open PySem.SeqAt renaming EqAt → Oh
open Classical renaming byContradiction → Oj,axiomOfChoice → Rb
open Array renaming length_toList → Oo,getD_eq_getD_getElem? → Py
open PySem.Builtin.Tuple renaming tupleExact → OG,tupleIsExact → Pq
open Sum renaming inl → OQ,inr → Tv
open False renaming elim → Pc
open PySem.F renaming slot_zip_next → Dt,slot_enumerate_next → G8,slot_list_getattribute → Rl,slot_tuple_mul → RN,args_tuple_add_2 → RY,entry_tuple_add → Sh,slot_tuple_add → Sl,args_zip_next_1 → SD,entry_zip_next → SH,slot_int_rmul → SS,args_tuple_mul_2 → Tw,entry_tuple_mul → TH
open True renaming intro → Pu
open PySem.Builtin.Slice renaming slicePlaces → Px,sliceAdjust → RF
open PySem.SeqAt.EqAt renaming int_int → PX
open PySem.PyData renaming depth → Ra,eqv → Rn,canLay0 → Rq,eqvAll → SU,canLayAll0 → Tf
open PySem.Challenge renaming rw_barsplit_k39_ways_counted → RG
open List.Pairwise renaming imp_of_mem → RK,filter → Si
open PySem.Builtin.List renaming listTooLong → RL
open PySem.Calls renaming spliced_cons → RW,spliced_nil → Tq
open PySem.Shared renaming heap → Sj
open ForInStep renaming yield → Sn
open PySem.Heap.SameBut renaming update → Su
open Function renaming comp → SR
local macro_rules | `(⋯) => `(by first | decide +kernel | omega | simp)
set_option autoImplicit true
noncomputable section
set_option Elab.async false
set_option linter.all false
set_option maxRecDepth 100000
set_option maxHeartbeats 4000000
abbrev EQ:=PySem.Value->PySem.Shared->Prop
abbrev UQ:=List (PySem.Addr×PySem.Obj)
abbrev UW:=Nat->Nat->Nat->Int
abbrev UV:=Nat->Nat->Int
abbrev UK:=Nat->Bool
abbrev UX:=Nat->Nat
abbrev UZ:=PySem.Str->Option PySem.Value
theorem UJ{c:Prop}{h:Decidable c}(z:c){α}{a b:α}:ite c a b=a:=if_pos z
theorem UY{c:Prop}{h:Decidable c}(z:¬c){α}{a b:α}:ite c a b=b:=if_neg z
namespace L2
open PySem PySem.Spec PyProof.Rows
abbrev Key:=Sum Int Str
def cX:Key->el->Bool
 | .inl k,v=>Value.isInt k v
 | .inr x,v=>Value.isStrOf x v
def LY(w:h9):Key->Int
 | .inl k=>hashInt k
 | .inr x=>hashStr w x
theorem qy : ∀{k:Key} {v:el},cX k v=d7->(∃i t,k=OQ i/\v=Tb i t)\/(∃x t,k=Tv x/\v=Ta x t)
 | .inl i,v,h=>by obtain⟨t,e⟩:=Value.isInt_shape (k:=i) (v:=v) h;exact .inl ⟨i,t,rfl,e⟩
 | .inr x,v,h=>by obtain⟨t,e⟩:=Value.isStrOf_shape (x:=x) (v:=v) h;exact .inr ⟨x,t,rfl,e⟩
theorem gY(i:Int)(t:q7):cX (.inl i) (.int i t)=d7:=by simp[cX,Value.isInt]
theorem gX(x:Str)(t:q7):cX (.inr x) (.str x t)=d7:=by simp[cX,Value.isStrOf]
theorem Ey(a b:Int):decide ((OQ a:Key)=OQ b)=(a==b):=by
 by_cases e:a=b
 ·subst e;simp
 ·have h : ¬(OQ a:Key)=OQ b:=λq=>e (OQ.inj q)
  rw[decide_eq_false h];exact(beq_eq_false_iff_ne.mpr e).symm
theorem Eu(a b:Str):decide ((Tv a:Key)=Tv b)=decide (a=b):=by
 by_cases e:a=b
 ·subst e;simp
 ·have h : ¬(Tv a:Key)=Tv b:=λq=>e (Tv.inj q)
  rw[decide_eq_false h,decide_eq_false e]
theorem Ex(a:Int)(b:Str):decide ((OQ a:Key)=Tv b)=eh:=decide_eq_false<|λq=>nomatch q
theorem Ew(a:Str)(b:Int):decide ((Tv a:Key)=OQ b)=eh:=decide_eq_false<|λq=>nomatch q
noncomputable def xJ(prog:i6)(w:h9):PySem.KeyKind prog w Key where
 is:=cX
 hash:=LY w
 inj:=λv a b ha I=>by
  rcases qy ha with⟨i,t,rfl,rfl⟩ | ⟨x,t,rfl,rfl⟩
  ·rcases qy I with⟨j,u,rfl,e⟩ | ⟨y,u,rfl,e⟩
   ·injection e with e1 _;rw[e1]
   ·exact nomatch e
  ·rcases qy I with⟨j,u,rfl,e⟩ | ⟨y,u,rfl,e⟩
   ·exact nomatch e
   ·injection e with e1 _;rw[e1]
 byValue:=λk v h=>by rcases qy h with⟨i,t,rfl,rfl⟩ | ⟨x,t,rfl,rfl⟩<;>rfl
 pyHash:=λz h=>by
  rcases qy z with⟨i,t,rfl,rfl⟩ | ⟨x,t,rfl,rfl⟩
  ·exact wpAny_pyHash_int h
  ·exact wpAny_pyHash_str h
 eqBool:=λO z h=>by
  rcases qy O with⟨i,t,rfl,rfl⟩ | ⟨x,t,rfl,rfl⟩
  ·rcases qy z with⟨j,u,rfl,rfl⟩ | ⟨y,u,rfl,rfl⟩
   ·rw[Ey]at h;exact wpAny_eqBool_int h
   ·rw[Ex]at h;exact Oh.int_str i t y u _ _ _ _ h
  ·rcases qy z with⟨j,u,rfl,rfl⟩ | ⟨y,u,rfl,rfl⟩
   ·rw[Ew]at h;exact Oh.str_int x t j u _ _ _ _ h
   ·rw[Eu]at h;exact wpAny_eqBool_str h
 «strs» :=λk x t v h=>by
  rcases qy h with⟨i,u,rfl,e⟩ | ⟨y,u,rfl,e⟩
  ·exact nomatch e
  ·injection e with e1 _
   subst e1;cases v<;>rfl
theorem Wo(prog:i6)(w:h9)(i:Int)(t:q7):(xJ prog w).is (.inl i) (.int i t)=d7:=gY i t
theorem Wn(prog:i6)(w:h9)(x:Str)(t:q7):(xJ prog w).is (.inr x) (.str x t)=d7:=gX x t
inductive V where
 | ft | bl (b:Bool) | int (i:Int) | str (x:Str) | En (b:Array UInt8) | DS (b:UInt64) | ref (a:ej) | ty (n:String)
 deriving DecidableEq
noncomputable def RelV:V->el->Prop
 | .ft,u=>u=NH
 | .bl b,u=>u=Value.bool b
 | .int i,u=>∃t,u=Tb i t
 | .str x,u=>∃t,u=Ta x t
 | .En b,u=>∃t,u=Value.bytes b t
 | .DS b,u=>∃t,u=Value.float b t
 | .ref a,u=>u=Oy a
 | .ty n,u=>u=Ro n
abbrev f9:List V->List el->Prop:=Paired RelV
theorem f9.length(r:f9 xs us):xs.length=us.length:=Paired.length r
theorem f9.get : ∀{xs:List V} {us:List el} {i:Nat} {x:V},f9 xs us->xs[i]? = dn x->∃u,us[i]? = dn u/\RelV x u
 | _,_,_,_,.nil,e=>by simp at e
 | _,_,0,_,.cons r _,e=>by simp at e;subst e;exact⟨_,rfl,r⟩
 | _,_,i+1,x,.cons _ t,e=>by obtain⟨u,a,b⟩:=f9.get (i:=i) (x:=x) t (by simpa using e);exact⟨u,by simpa using a,b⟩
theorem f9.set(r:RelV x u) : ∀{xs:List V} {us:List el} (i:Nat),f9 xs us->f9 (xs.set i x) (us.set i u)
 | _,_,_,.nil=> .nil
 | _,_,0,.cons _ t=> .cons r t
 | _,_,i+1,.cons q t=> .cons q (f9.set r i t)
theorem f9.append : ∀{xs ys:List V} {us z:List el},f9 xs us->f9 ys z->f9 (xs++ys) (us++z)
 | _,_,_,_,.nil,s=>s
 | _,_,_,_,.cons r t,s=> .cons r (f9.append t s)
theorem f9.take : ∀{xs:List V} {us:List el} (n:Nat),f9 xs us->f9 (xs.take n) (us.take n)
 | _,_,0,_=> .nil
 | _,_,_+1,.nil=> .nil
 | _,_,n+1,.cons r t=> .cons r (f9.take n t)
theorem f9.drop : ∀{xs:List V} {us:List el} (n:Nat),f9 xs us->f9 (xs.drop n) (us.drop n)
 | _,_,0,r=>r
 | _,_,_+1,.nil=> .nil
 | _,_,n+1,.cons _ t=>f9.drop n t
noncomputable def u0:Option V->Option el->Prop
 | some v,dn u=>RelV v u
 | none,ed=>True
 | _,_=>False
noncomputable def KV{C:Type}:List (C×V)->List (C×el)->Prop:=Paired λ(p:C×V) (q:C×el)=>p.1=q.1/\RelV p.2 q.2
def kV:Key->V
 | .inl i=> .int i
 | .inr x=> .str x
inductive HO where
 | lst (xs:List V)
 | tup (xs:List V)
 | dK (l7:List (Key×V)) | dT (l7:List (List Key×V))
 | set (S:Int->Bool) (n:Nat)
 | ins (C dx:ej) (fs:List (Str×V))
 | own (x:ej)
 | xd (fs:List (Str×V))
 | met (f x:ej)
 | ly (lo hi:Int)
 | sm (o:m3) (u:HO)
 | DD (ps:Array el)
 | ext (φ:gb->Prop)
abbrev Hp:=ej->Option HO
def upd(H:Hp)(a:ej)(o:HO):Hp:=λb=>if b=a then dn o else H b
theorem zS:upd H a o a=dn o:=by unfold upd;rw[UJ rfl]
theorem zN(h:b≠a):upd H a o b=H b:=by unfold upd;rw[UY h]
theorem dR{H:Hp}{a:ej}{o u:HO}:upd (upd H a o) a u=upd H a u:=by funext b;unfold upd;split<;>rfl
theorem qv{H:Hp}{a b:ej}{o:HO}(h:H a=dn o)(h':H b=ed):a≠b:=by intro e;subst e;rw[h]at h';cases h'
noncomputable def wh(h:gb)(a:ej)(items:Array el):Prop:=∃o,h.get? a=dn o/\(o.cls,o.dict)=(Ro "tuple",ed)/\∃n,o.data = .seq items n
theorem wh.new(h:gb)(items:Array el):wh (h.push {cls:= .type "tuple",data:= .seq items}) h.objs.size items:=⟨_,MV _ rfl,rfl,_,rfl⟩
theorem wh.tup(x:wh h a items):D3 h a items:=let ⟨o,e,c,r⟩:=x;⟨o,e,(Prod.mk.inj c).1,r⟩
section
variable(P:i6)(w:h9)
noncomputable def lN(H:Hp)(h:gb)(a:ej):HO->Prop
 | .lst d=>d.length<=gm/\∃(z:List el) (n:Nat),f9 d z/\h.get? a=dn {cls:= .type "list",data:= .seq z.toArray n}
 | .tup d=>d.length<=gm/\∃z:List el,f9 d z/\wh h a z.toArray
 | .dK b=>b.length<=gm/\(a==C3)=eh/\∃l,KV b l/\h.DictOf (xJ P w) a l
 | .dT b=>b.length<=gm/\(a==C3)=eh/\∃d:List (List Key×ej×el),
  Paired (λ(p:List Key×V) (q:List Key×ej×el)=>p.1=q.1/\H q.2.1=dn (.tup<|p.1.map kV)/\RelV p.2 q.2.2) b d/\
  ∃o i I,h.get? a=dn o/\o.ExactDict/\o.data = .dict i I/\i.toList=d.map (entryOfKey<|tupleKind<|xJ P w)/\(d.map (·.1)).Nodup
 | .set S n=>h.SetOf (intKind P w) a S n
 | .ins C e fs=>H e=dn (.own a)/\fs.length<=1000/\e≠a/\h.get? a=dn (PySem.W.instObj C e)/\
  ∃mA,h.Ns1 e mA/\(∀f,u0 (fs.lookup f)<|mA f)/\PySem.Within mA (fs.map (·.1))
 | .own _=>∃o,h.get? a=dn o
 | .xd fs=>∃mA,h.Ns1 a mA/\∀f,u0 (fs.lookup f)<|mA f
 | .ly lo m=>∃t u v,h.get? a=dn {cls:= .type "range",data:= .fields #[.int lo t,.int m u,.int 1 v]}
 | .sm o u=>h.get? a=dn o/\lN H h a u
 | .DD r=>h.get? a=dn {cls:= .none,data:= .fields r}
 | .met f x=>h.get? a=dn (Tc (.ref f)<|.ref x)
 | .ext g=>g h/\(∃o,h.get? a=dn o)/\∀j k:gb,g j->(∀o,j.get? a=dn o->k.get? a=dn o)->g k
def l5(H:Hp)(h:gb):Prop:=∀a o,H a=dn o->lN P w H h a o
end
section
variable{P:i6}{w:h9}{H H':Hp}{h h':gb}{a:ej}{o:HO}
theorem lN.lt(x:lN P w H h a o):a<h.objs.size:=by
 cases o with
 | lst d=>obtain⟨_,_,_,_,e⟩:=x;exact Na e
 | tup d=>obtain⟨_,_,_,p⟩:=x;exact p.tup.lt
 | dK b=>obtain⟨_,_,_,_,o,_,_,e,_⟩:=x;exact Na e
 | dT b=>obtain⟨_,_,_,_,o,_,_,e,_⟩:=x;exact Na e
 | set S n=>obtain⟨o,_,_,_,e,_⟩:=x;exact Na e
 | ins C g fs=>obtain⟨_,_,_,e,_⟩:=x;exact Na e
 | own y=>obtain⟨_,e⟩:=x;exact Na e
 | xd fs=>obtain⟨_,⟨_,_,_,e,_⟩,_⟩:=x;exact Na e
 | ly lo i=>obtain⟨_,_,_,e⟩:=x;exact Na e
 | sm z u=>obtain⟨e,_⟩:=x;exact Na e
 | DD j=>exact Na (show h.get? a=dn _ from x)
 | met f y=>exact Na (show h.get? a=dn _ from x)
 | ext k=>obtain⟨_,⟨_,e⟩,_⟩:=x;exact Na e
theorem Paired.U1 : ∀{z:List α} {I:List β},Paired F z I->(∀a b,F a b->G a b)->Paired G z I
 | _,_,.nil,_=> .nil
 | _,_,.cons r t,f=> .cons (f _ _ r) (Paired.U1 t f)
theorem lN.Di(x:lN P w H h a o)(k : ∀b u,(b=a\/H b=dn (.own a))->h.get? b=dn u->h'.get? b=dn u)
 (Y : ∀b,H b=dn (.own a)->H' b=dn (.own a)) (J : ∀b xs,H b=dn (.tup xs)->H' b=dn (.tup xs)):lN P w H' h' a o:=by
 induction o with
 | lst xs=>obtain⟨z,U,n,r,e⟩:=x;exact⟨z,U,n,r,k _ _ (.inl rfl) e⟩
 | tup xs=>obtain⟨z,U,r,I,e,c⟩:=x;exact⟨z,U,r,I,k _ _ (.inl rfl) e,c⟩
 | dK i=>obtain⟨z,y,E,r,I,g,O,e,c⟩:=x;exact⟨z,y,E,r,I,g,O,k _ _ (.inl rfl) e,c⟩
 | dT i=>
  obtain⟨z,y,xs,r,I,g,O,e,c⟩:=x;exact⟨z,y,xs,Paired.U1 r λp q z=>⟨z.1,J _ _ z.2.1,z.2.2⟩,I,g,O,k _ _ (.inl rfl) e,c⟩
 | set S n=>obtain⟨I,g,O,t,e,c⟩:=x;exact⟨I,g,O,t,k _ _ (.inl rfl) e,c⟩
 | ins C F fs=>
  obtain⟨d,z,B,e,j,⟨l,g,O,s,c⟩,r⟩:=x;exact⟨Y _ d,z,B,k _ _ (.inl rfl) e,j,⟨l,g,O,k _ _ (.inr d) s,c⟩,r⟩
 | own y=>obtain⟨I,e⟩:=x;exact⟨I,k _ _ (.inl rfl) e⟩
 | xd fs=>obtain⟨j,⟨l,g,O,e,c⟩,r⟩:=x;exact⟨j,⟨l,g,O,k _ _ (.inl rfl) e,c⟩,r⟩
 | ly lo G=>obtain⟨t,u,v,e⟩:=x;exact⟨t,u,v,k _ _ (.inl rfl) e⟩
 | sm I u A=>obtain⟨e,q⟩:=x;exact⟨k _ _ (.inl rfl) e,A q⟩
 | DD m=>
  have e:h.get? a=dn {cls:= .none,data:= .fields m}:=x;show h'.get? a=dn {cls:= .none,data:= .fields m};exact k a _ (.inl rfl) e
 | met f y=>
  have e:h.get? a=dn (Tc (.ref f)<|.ref y):=x;show h'.get? a=dn (Tc (.ref f)<|.ref y);exact k a _ (.inl rfl) e
 | ext K=>obtain⟨p,⟨o,e⟩,st⟩:=x;exact⟨st _ _ p λo q=>k _ _ (.inl rfl) q,⟨o,k _ _ (.inl rfl) e⟩,st⟩
theorem l5.lt(x:l5 P w H h)(e:H a=dn o):a<h.objs.size:=(x a o e).lt
theorem l5.fresh(x:l5 P w H h)(e:h.objs.size<=a):H a=ed:=by
 cases q:H a with
 | none=>rfl
 | some u=>exact absurd (Ng (x.lt q) e)<|NW _
theorem l5.kept(x:l5 P w H h)(k : ∀b u,h.get? b=dn u->h'.get? b=dn u):l5 P w H h':=λa o e=>
 (x a o e).Di (λb u _ q=>k b u q) (λ_ q=>q) λ_ _ q=>q
theorem l5.laid(x:l5 P w H h)(k : ∀b u,h.get? b=dn u->h'.get? b=dn u)(I:h.objs.size<=a)(new:lN P w (upd H a o) h' a o):l5 P w (upd H a o) h':=λb u e=>by
 have d:=x.fresh I;by_cases z:b=a
 ·subst z;rw[zS]at e;cases e;exact new
 ·rw[zN z]at e
  exact(x b u e).Di (λc v _ q=>k c v q) (λc q=>by rw[zN (qv q d)];exact q) λc f q=>by rw[zN (qv q d)];exact q
end
def Rd(H:Hp)(a:ej)(u:HO):Prop:=H a=dn u\/∃o,H a=dn (.sm o u)
theorem Rd.ok(r:Rd H a u)(x:l5 P w H h):lN P w H h a u:=by
 rcases r with r | ⟨o,r⟩
 ·exact x a u r
 ·obtain⟨_,q⟩:=x a _ r
  exact q
noncomputable def D5:Option HO->Prop
 | some (.lst _)=>True
 | some (.dK _)=>True
 | some (.dT _)=>True
 | some (.set _ _)=>True
 | some (.ins _ _ _)=>True
 | some (.ext _)=>True
 | _=>False
section
variable{P:i6}{w:h9}{H:Hp}{h h':gb}{x e:ej}{o':HO}
theorem l5.write(ok:l5 P w H h)(I:D5 (H x))(C:e=x\/H e=dn (.own x))(k : ∀b u,b≠e->h.get? b=dn u->h'.get? b=dn u)(J : ∃u,h'.get? e=dn u)
 (new:lN P w (upd H x o') h' x o'):l5 P w (upd H x o') h':=λb u q=>by
 have d : ∀c y,H c=dn (.own y)->c≠x:=λc y r z=>by subst z;rw[r]at I;exact I
 have g : ∀c a,H c=dn (.tup a)->c≠x:=λc a r z=>by subst z;rw[r]at I;exact I
 by_cases O:b=x
 ·subst O;rw[zS]at q;cases q;exact new
 ·rw[zN O]at q
  by_cases U:b=e
  ·have f:H b=dn (.own x):=by
    rcases C with z | z
    ·exact absurd (U.trans z) O
    ·rw[U];exact z
   rw[q]at f;cases f;obtain⟨v,i⟩:=J;exact⟨v,by rw[U];exact i⟩
  ·refine(ok b u q).Di (λc v Y r=>k c v ?_ r) (λc r=>by rw[zN (d c b r)];exact r) λc a r=>by rw[zN (g c a r)];exact r
   rcases Y with rfl | Y
   ·exact U
   ·rintro rfl
    rcases C with z | z
    ·exact d c b Y z
    ·rw[Y]at z;cases z;exact O rfl
end
structure Un(fs ex:List ej)(H H':Hp)(h h':gb):Prop where
 keep : ∀b o,h.get? b=dn o->H b=ed->b∉fs->b∉ex->h'.get? b=dn o
 slot : ∀b o,h.get? b=dn o->H b=ed->b∈fs->b∉ex->∃sl,h'.get? b=dn {o with slots:=sl}
 free : ∀b o,h.get? b=dn o->H b=ed->b∉ex->H' b=ed
 there : ∀b o,h.get? b=dn o->b∉ex->∃o',h'.get? b=dn o'
 C4 : ∀b xs,H b=dn (.tup xs)->H' b=dn (.tup xs)
 Df : ∀b o u,H b=dn (.sm o u)->H' b=dn (.sm o u)
 DE : ∀b ps,H b=dn (.DD ps)->∃more,H' b=dn (.DD<|ps++more)
section
variable{fs L_ ex _r:List ej}{H H1 H2:Hp}{h h1 h2 h':gb}{a x e:ej}{o:HO}
theorem Un.any(u:Un fs ex H H1 h h1)(q:h.get? b=dn ob)(n:H b=ed)(hx:b∉ex) : ∃C,h1.get? b=dn {ob with slots:=C}:=by
 by_cases z:b∈fs
 ·exact u.slot b ob q n z hx
 ·exact⟨ob.slots,u.keep b ob q n z hx⟩
theorem Un.kept(k : ∀b u,h.get? b=dn u->h'.get? b=dn u):Un fs ex H H h h':=
 ⟨λb z q _ _ _=>k b z q,λb z q _ _ _=>⟨z.slots,k b z q⟩,λ_ _ _ n _=>n,λb z q _=>⟨z,k b z q⟩,λ_ _ q=>q,λ_ _ _ q=>q,λ_ a q=>⟨#[],by rw[q];simp⟩⟩
theorem Un.refl:Un fs ex H H h h:=Un.kept λ_ _ q=>q
theorem Un.laid(k : ∀b u,h.get? b=dn u->h'.get? b=dn u)(z:h.objs.size<=a)(hn:H a=ed):Un fs ex H (upd H a o) h h' where
 keep:=λb u q _ _ _=>k b u q
 slot:=λb u q _ _ _=>⟨u.slots,k b u q⟩
 free:=λb u q n _=>by rw[zN (Nt<|Ng (Na q) z)];exact n
 there:=λb u q _=>⟨u,k b u q⟩
 C4:=λb xs q=>by rw[zN (qv q hn)];exact q
 Df:=λb u xs q=>by rw[zN (qv q hn)];exact q
 DE:=λb ps q=>⟨#[],by rw[zN (qv q hn),q];simp⟩
theorem Un.write(I:D5 (H x))(Y:e=x\/H e=dn (.own x))(k : ∀b u,b≠e->h.get? b=dn u->h'.get? b=dn u)(C : ∃u,h'.get? e=dn u):Un fs ex H (upd H x o) h h':=by
 have d : ∀b,H b=ed->b≠x:=λb n z=>by subst z;rw[n]at I;exact I
 have O : ∀b,H b=ed->b≠e:=λb n z=>by
  subst z;rcases Y with r | r
  ·exact d b n r
  ·rw[n]at r;cases r
 have a : ∀b u,H b=dn u->¬D5 (dn u)->b≠x:=λb u q nm z=>by subst z;rw[q]at I;exact nm I
 refine⟨λb u q n _ _=>k b u (O b n) q,λb u q n _ _=>⟨u.slots,k b u (O b n) q⟩,λb u q n _=>by rw[zN (d b n)];exact n,λb u q _=>?_,
  λb f q=>by rw[zN (a b _ q λz=>z)];exact q,λb u f q=>by rw[zN (a b _ q λz=>z)];exact q,λb g q=>⟨#[],by rw[zN (a b _ q λz=>z),q];simp⟩⟩
 by_cases U:b=e
 ·subst U;exact C
 ·exact⟨u,k b u U q⟩
end
def N0(h:gb)(H:Hp):List ej:=(MB h.objs.size).filter λa=>(H a).isSome
def oY(h:gb)(H:Hp):gb:=PySem.W.hideAll h<|N0 h H
theorem iq(h:gb)(H:Hp):(oY h H).objs.size=h.objs.size:=PySem.W.hideAll_size _ _
theorem oX(e:h.get? b=dn o)(n:H b=ed):(oY h H).get? b=dn o:=
 PySem.W.hideAll_get _ e λa=>by have q:(H b).isSome=d7:=(Np.mp a).2;rw[n]at q;simp at q
theorem uP(e:(oY h H).get? b=dn o):h.get? b=dn o/\H b=ed:=by
 have I:h.get? b=dn o:=PySem.W.of_hideAll (N0 h H) e;refine⟨I,?_⟩;cases q:H b with
 | none=>rfl
 | some x=>
  have a:b∈N0 h H:=Np.mpr ⟨MD.mpr<|Na I,by simp[q]⟩;have z:(oY h H).get? b=ed:=PySem.W.hideAll_none (N0 h H) a;rw[z]at e;cases e
noncomputable def AR(g h:gb)(L:ej):List (ej×m3):=(MB h.objs.size).filterMap λa=>if a=L\/(g.get? a).isSome=d7 then ed else (h.get? a).map λo=>(a,o)
def yd(g h:gb)(L d:ej):List (ej×m3):=(AR g h L).filter λp=>decide<|p.1≠d
structure Mod(K:MC)(mg:UZ)(base:gb):Prop where
 R9:K.In base
 glob:base.Ns s9 mg
 blt : ∃mb,base.Ns Uy mb/\∀x:Str,x ≠ "__name__"->mb x=A7 x
 nolimit:base.NoLimit
structure Cx where
 prog:i6
 w:h9
 K:MC
 mg:Str->Option el
 base:gb
 A:mu
 N:List Str
 nr:eK
 D2:Hp
 env:n6
 outer:List n6
 stack:List n6
 ex:List ej
 fn:Str->Bool
 calm:Bool
 pn:List (ej×m3)
 xe:el->eK->Prop
def u6(l:List n6):List ej:=l.filterMap (·.frame)
abbrev Cx.fs(X:Cx):List ej:=u6 X.outer
noncomputable def O6(C:ij)(x:Str):Prop:=C.names.lookup x=dn .local\/C.names.lookup x=dn .cell\/C.names.lookup x=dn .free
noncomputable def Loc(C:ij)(x:Str):Prop:=C.names.lookup x=dn .local\/C.names.lookup x=dn .cell
noncomputable def Mm(env:n6)(h:gb)(m:UZ)(x:Str)(u:el):Prop:=
 (env.kindOf x=dn .local/\m x=dn u)\/((env.kindOf x=dn .cell\/env.kindOf x=dn .free)/\∃c,env.cells.lookup x=dn c/\h.IsCell c (dn u))
structure Cx.Ok(X:Cx):Prop where
 mod:Mod X.K X.mg X.base
 kind:X.env.scope.kind = .function
 glob:X.env.globals=s9
 blt:X.env.builtins=Uy
 above:X.nr.heap.objs.size<=X.env.locals
 inj : ∀x y c,X.env.cells.lookup x=dn c->X.env.cells.lookup y=dn c->x=y
 has : ∀x,(X.env.kindOf x=dn .cell\/X.env.kindOf x=dn .free)->∃c,X.env.cells.lookup x=dn c
 E1 : ∀x c,X.fn x=d7->X.env.cells.lookup x=dn c->X.nr.heap.objs.size<=c
 hd:X.calm=d7->X.A.handled=ed
 frames:X.A.frames=dn X.stack
 M4:X.stack=X.outer\/(X.stack=X.env::X.outer/\X.env.frame=dn X.env.locals)
 I7 : ∀b∈X.ex,b≠X.env.locals/\∀x c,X.env.cells.lookup x=dn c->c≠b
 bs : ∀b o,X.base.get? b=dn o->X.nr.heap.get? b=dn o/\X.D2 b=ed
 xc:X.base.objs.size<=X.nr.heap.objs.size
 E7 : ∀b o,X.base.get? b=dn o->b∉X.ex
 E4 : ∀b∈X.ex,b∉X.fs
 sx:X.nr.heap.FunFrames X.base X.outer
 De : ∀b∈X.fs,X.D2 b=ed
structure Inv(X:Cx)(pins:UQ)(σ:List (Option V))(H:Hp)(s:eK):Prop where
 ok:X.Ok
 os:s.os=X.nr.os
 bare:C6 s.gens
 base:Un X.fs X.ex X.D2 H X.nr.heap s.heap
 loc : ∃m,s.heap.Ns X.env.locals m/\∀(i:Nat) (x:Str) (v:V),X.N[i]? = dn x->σ[i]? = dn (dn v)->O6 X.env.scope x->∃u,RelV v u/\Mm X.env s.heap m x u
 cell : ∀x c,X.env.cells.lookup x=dn c->∃v,s.heap.IsCell c v
 free:H X.env.locals=ed
 u5 : ∀x c,X.env.cells.lookup x=dn c->H c=ed
 pin : ∀p∈X.pn++pins,s.heap.get? p.1=dn p.2/\H p.1=ed/\p.1≠X.env.locals/\p.1∉X.fs/\∀v,p.2.data ≠ .cell v
 gj:l5 X.prog X.w H s.heap
 len:σ.length=X.N.length
section
variable{X:Cx}{pins:UQ}{σ:List (Option V)}{H H':Hp}{s:eK}{h':gb}
theorem Cx.Ok.U'(ok:X.Ok)(e:X.base.get? b=dn o):b∉X.fs:=λz=>by have:=(ok.sx.mem z).1;rw[e]at this;cases this
theorem Inv.bs(I:Inv X pins σ H s) : ∀b o,X.base.get? b=dn o->s.heap.get? b=dn o/\H b=ed:=λb o e=>
 ⟨I.base.keep b o (I.ok.bs b o e).1 (I.ok.bs b o e).2 (I.ok.U' e) (I.ok.E7 b o e),I.base.free b o (I.ok.bs b o e).1 (I.ok.bs b o e).2 (I.ok.E7 b o e)⟩
theorem Inv.bk(I:Inv X pins σ H s) : ∀b o,X.base.get? b=dn o->s.heap.get? b=dn o:=λb o e=>(I.bs b o e).1
theorem Inv.mod(I:Inv X pins σ H s):Mod X.K X.mg X.base:=I.ok.mod
theorem Inv.m6(I:Inv X pins σ H s):X.K.In s.heap:=I.ok.mod.R9.keeps I.bk
theorem Inv.lt(I:Inv X pins σ H s):X.env.locals<s.heap.objs.size:=let ⟨_,a,_⟩:=I.loc;a.lt
theorem Inv.sz(I:Inv X pins σ H s):X.nr.heap.objs.size<=s.heap.objs.size:=Of I.ok.above<|SM I.lt
theorem Inv.V'(I:Inv X pins σ H s)(h:s.heap.objs.size<=a):a∉X.fs:=λz=>by obtain⟨_,o,O,_⟩:=I.ok.sx.mem z;exact absurd (Ng (Na O)<|Of I.sz h)<|NW _
theorem Inv.Dy(I:Inv X pins σ H s) : ∀x c,X.env.cells.lookup x=dn c->c≠X.env.locals:=λx c e z=>by obtain⟨v,o,O,a⟩:=I.cell x c e;obtain⟨m,⟨f,d,b,U,Y,_⟩,_⟩:=I.loc;rw[z,U]at O;cases O;rw[Y]at a;cases a
theorem Inv.sx(I:Inv X pins σ H s):s.heap.FunFrames X.base X.outer:=by
 have all : ∀(l:List n6),(∀b∈u6 l,b∈X.fs)->X.nr.heap.FunFrames X.base l->s.heap.FunFrames X.base l:=by
  intro l
  induction l with
  | nil=>intro _ _;trivial
  | cons d r m=>
   intro a h;obtain⟨g,⟨L,o,O,i,j,f⟩,k⟩:=h;have U:L∈X.fs:=a L (by unfold u6;rw[SV,O];exact MX);obtain⟨n,e⟩:=I.base.slot L o j (I.ok.De L U) U λz=>I.ok.E4 L z U;exact⟨g,⟨L,_,O,i,e,f⟩,m (λb Y=>a b<|by unfold u6;rw[SV,O];exact MT _ Y) k⟩
 exact all X.outer (λ_ Y=>Y) I.ok.sx
theorem Inv.stack(I:Inv X pins σ H s):s.heap.FunFrames X.base X.stack:=by
 rcases I.ok.M4 with e | ⟨e,z⟩
 ·rw[e];exact I.sx
 ·rw[e]
  obtain⟨m,a,_⟩:=I.loc;refine .cons (by rw[I.ok.kind];decide) z a ?_ I.sx;exact Heap.get?_none_of_le<|Of I.ok.xc I.ok.above
theorem Inv.Ua(I:Inv X pins σ H s) : ∀b∈u6 X.stack,b∈X.env.locals::X.fs:=λb z=>by
 rcases I.ok.M4 with e | ⟨e,O⟩
 ·rw[e]at z;exact MT _ z
 ·rw[e]at z
  unfold u6 at z;rw[SV,O]at z;exact z
theorem Inv.b_(I:Inv X pins σ H s) : ∀b∈u6 X.stack,H b=ed:=λb O=>by
 rcases MS.mp (I.Ua b O)with e | O
 ·rw[e];exact I.free
 ·obtain⟨_,o,U,_⟩:=I.ok.sx.mem O
  exact I.base.free b o U (I.ok.De b O) λz=>I.ok.E4 b z O
theorem Inv.step{g':Array GenState}{t':Nat}{d':Drawn}{ch:List ej}(I:Inv X pins σ H s)
 (Y : ∀b∈ch,(b∈X.ex\/X.nr.heap.objs.size<=b)/\b≠X.env.locals/\(∀x c,X.env.cells.lookup x=dn c->c≠b)/\∀p∈X.pn++pins,p.1≠b)
 (keep : ∀b o,b≠X.env.locals->b∉X.fs->b∉ch->s.heap.get? b=dn o->H b=ed->h'.get? b=dn o)
 (C : ∀b o,b≠X.env.locals->b∈X.fs->b∉ch->s.heap.get? b=dn o->H b=ed->∃sl,h'.get? b=dn {o with slots:=sl}) (free : ∀b o,b∉ch->s.heap.get? b=dn o->H b=ed->H' b=ed)
 (J : ∀b o,b∉ch->s.heap.get? b=dn o->∃S,h'.get? b=dn S)
 (C4 : ∀b xs,H b=dn (.tup xs)->H' b=dn (.tup xs)) (L : ∀b o u,H b=dn (.sm o u)->H' b=dn (.sm o u)) (Z : ∀b ps,H b=dn (.DD ps)->∃more,H' b=dn (.DD<|ps++more))
 (ns : ∀m,s.heap.Ns X.env.locals m->h'.Ns X.env.locals m) (gj:l5 X.prog X.w H' h') (hg:C6 g') :
 Inv X pins σ H' {s with heap:=h',gens:=g',drawn:=d',toks:=t'}:=by
 have y : ∀b o,X.nr.heap.get? b=dn o->b≠X.env.locals:=λb o e=>Nt<|Ng (Na e) I.ok.above;have j : ∀b o,X.nr.heap.get? b=dn o->b∉X.ex->b∉ch:=λb o e a O=>by
  rcases (Y b O).1 with z | z
  ·exact a z
  ·exact absurd (Ng (Na e) z)<|NW _
 have A : ∀x c,X.env.cells.lookup x=dn c->∀v,s.heap.IsCell c v->h'.IsCell c v:=λx c e v N=>by
  obtain⟨o,U,t⟩:=N;have g:c∉ch:=λz=>(Y c z).2.2.1 x c e rfl;by_cases B:c∈X.fs
  ·obtain⟨sl,q⟩:=C c o (I.Dy x c e) B g U (I.u5 x c e)
   exact⟨_,q,t⟩
  ·exact⟨o,keep c o (I.Dy x c e) B g U<|I.u5 x c e,t⟩
 refine⟨I.ok,I.os,hg,⟨λb o e n O a=>?_,λb o e n O a=>?_,λb o e n a=>?_,λb o e a=>?_,λb xs e=>C4 b xs<|I.base.C4 b xs e,λb o xs e=>L b o xs<|I.base.Df b o xs e,λb ps e=>?_⟩,?_,λx c e=>?_,?_,λx c e=>?_,λp E=>?_,gj,I.len⟩
 ·exact keep b o (y b o e) O (j b o e a) (I.base.keep b o e n O a)<|I.base.free b o e n a
 ·obtain⟨sl,f⟩:=I.base.slot b o e n O a
  obtain⟨K,h⟩:=C b _ (y b o e) O (j b o e a) f<|I.base.free b o e n a;exact⟨K,h⟩
 ·obtain⟨S,f⟩:=I.base.there b o e a
  exact free b S (j b o e a) f<|I.base.free b o e n a
 ·obtain⟨S,f⟩:=I.base.there b o e a
  exact J b S (j b o e a) f
 ·obtain⟨R,f⟩:=I.base.DE b ps e
  obtain⟨T,h⟩:=Z b _ f;exact⟨R++T,by rw[h,Array.append_assoc]⟩
 ·obtain⟨m,Q,P⟩:=I.loc
  refine⟨m,ns m Q,λi x v f h M=>?_⟩;obtain⟨u,r,l⟩:=P i x v f h M;refine⟨u,r,?_⟩;rcases l with l | ⟨k,c,e,z⟩
  ·exact .inl l
  ·exact .inr ⟨k,c,e,A x c e _ z⟩
 ·obtain⟨v,z⟩:=I.cell x c e
  exact⟨v,A x c e v z⟩
 ·obtain⟨m,⟨o,_,_,U,_⟩,_⟩:=I.loc
  exact free _ o (λz=>(Y _ z).2.1 rfl) U I.free
 ·obtain⟨v,o,U,t⟩:=I.cell x c e
  exact free c o (λz=>(Y c z).2.2.1 x c e rfl) U<|I.u5 x c e
 ·obtain⟨e,n,F,G,d⟩:=I.pin p E
  have g:p.1∉ch:=λz=>(Y p.1 z).2.2.2 p E rfl;exact⟨keep p.1 p.2 F G g e n,free p.1 p.2 g e n,F,G,d⟩
theorem Inv.un{t':Nat}(I:Inv X pins σ H s)(u:Un X.fs [] H H' s.heap h')(C:l5 X.prog X.w H' h'):Inv X pins σ H' {s with heap:=h',toks:=t'}:=by
 obtain⟨m,⟨o,j,i,U,r⟩,_⟩:=id I.loc;obtain⟨p,f⟩:=u.any U I.free ⋯;exact I.step (g':=s.gens) (d':=s.drawn) (ch:=[]) (λ_ z=>nomatch z) (λb o _ O _ e n=>u.keep b o e n O ⋯) (λb o _ O _ e n=>u.slot b o e n O ⋯) (λb o _ e n=>u.free b o e n ⋯) (λb o _ e=>u.there b o e ⋯) u.C4 u.Df u.DE (λk g=>by obtain⟨l,a,d,Y,h⟩:=g;rw[U]at Y;cases Y;exact⟨_,a,d,f,h⟩) C I.bare
theorem Inv.call{g':Array GenState}{t':Nat}{d':Drawn}{ch:List ej}(I:Inv X pins σ H s)(u:Un (u6 X.stack) ch H H' s.heap h')(C:l5 X.prog X.w H' h')(J:C6 g')
 (Y : ∀b∈ch,(b∈X.ex\/X.nr.heap.objs.size<=b)/\b≠X.env.locals/\(∀x c,X.env.cells.lookup x=dn c->c≠b)/\∀p∈X.pn++pins,p.1≠b) :
 Inv X pins σ H' {s with heap:=h',gens:=g',drawn:=d',toks:=t'}:=by
 obtain⟨m,⟨o,l,k,d,r⟩,_⟩:=id I.loc;obtain⟨A,U⟩:=u.any d I.free λz=>(Y _ z).2.1 rfl;exact I.step (ch:=ch) Y (λb o U h O e n=>u.keep b o e n (λz=>(MS.mp<|I.Ua b z).elim U h) O) (λb o _ _ O e n=>u.any e n O) (λb o O e n=>u.free b o e n O) (λb o O e=>u.there b o e O) u.C4 u.Df u.DE (λt i=>by obtain⟨y,f,g,a,j⟩:=i;rw[d]at a;cases a;exact⟨_,f,g,U,j⟩) C J
theorem Inv.turned{t':Nat}{it:ej}(I:Inv X pins σ H s)(k : ∀b o,b≠it->s.heap.get? b=dn o->h'.get? b=dn o)(S:H it=ed)(U:it≠X.env.locals)
 (C:it∈X.ex\/X.nr.heap.objs.size<=it) (J : ∀x c,X.env.cells.lookup x=dn c->c≠it) (L : ∀p∈X.pn++pins,p.1≠it):Inv X pins σ H {s with heap:=h',toks:=t'}:=by
 have Y : ∀b u,H b=dn u->b≠it:=λb u e z=>by rw[z,S]at e;cases e
 refine I.step (g':=s.gens) (d':=s.drawn) (ch:=[it]) (λb f=>?_) (λb o _ _ O e _=>k b o (λz=>O<|by simp[z]) e) (λb o _ _ O e _=>⟨o.slots,k b o (λz=>O<|by simp[z]) e⟩) (λ_ _ _ _ n=>n)
  (λb o O e=>⟨o,k b o (λz=>O<|by simp[z]) e⟩) (λ_ _ e=>e) (λ_ _ _ e=>e) (λb i e=>⟨#[],by rw[e];simp⟩) (λm g=>?_) (λb u e=>?_) I.bare
 ·have e:b=it:=by simpa using f
  subst e;exact⟨C,U,J,L⟩
 ·obtain⟨o,d,a,h,r⟩:=g
  exact⟨o,d,a,k _ o (Ny U) h,r⟩
 ·refine(I.gj b u e).Di (λc v O q=>k c v ?_ q) (λ_ q=>q) λ_ _ q=>q
  rcases O with z | z
  ·rw[z];exact Y b u e
  ·exact Y c _ z
theorem Inv.tok(I:Inv X pins σ H s)(t:Nat):Inv X pins σ H {s with toks:=t}:=I.un (h':=s.heap) (t':=t) Un.refl I.gj
theorem Inv.kept(I:Inv X pins σ H s)(k : ∀b u,s.heap.get? b=dn u->h'.get? b=dn u):Inv X pins σ H {s with heap:=h',toks:=t'}:=I.un (Un.kept k)<|I.gj.kept k
theorem Inv.laid(I:Inv X pins σ H s)(k : ∀b u,s.heap.get? b=dn u->h'.get? b=dn u)(z:s.heap.objs.size<=a)(new:lN X.prog X.w (upd H a o) h' a o) :
 Inv X pins σ (upd H a o) {s with heap:=h',toks:=t'}:=I.un (Un.laid k z<|I.gj.fresh z)<|I.gj.laid k z new
theorem Inv.write(I:Inv X pins σ H s)(z:D5 (H x))(O:e=x\/H e=dn (.own x))(k : ∀b u,b≠e->s.heap.get? b=dn u->h'.get? b=dn u)(U : ∃u,h'.get? e=dn u)
 (new:lN X.prog X.w (upd H x o) h' x o):Inv X pins σ (upd H x o) {s with heap:=h',toks:=t'}:=I.un (Un.write z O k U)<|I.gj.write z O k U new
theorem Inv.L7(I:Inv X pins σ H s)(h : ∀p∈O,s.heap.get? p.1=dn p.2/\H p.1=ed/\p.1≠X.env.locals/\p.1∉X.fs/\∀v,p.2.data ≠ .cell v):Inv X O σ H s:=
 ⟨I.ok,I.os,I.bare,I.base,I.loc,I.cell,I.free,I.u5,λp U=>(OS.mp U).elim (λz=>I.pin p<|SO _ z) (h p),I.gj,I.len⟩
theorem aM{N:List Str}(z:N.Nodup){i j:Nat}{x:Str}(a:N[i]? = dn x)(b:N[j]? = dn x):i=j:=by obtain⟨e,d⟩:=MU.mp a;obtain⟨f,I⟩:=MU.mp b;exact(List.getElem_inj z).mp (d.trans I.symm)
theorem YH{M:Model}{A:mu}{E:EQ}{i:Nat}{x:Str}{v:V}{u:el}{Q:Unit->eK->Prop}(I:Inv X pins σ H s)(hN:X.N.Nodup)(hi:X.N[i]? = dn x)(hx:Loc X.env.scope x)(r:RelV v u)
 (h : ∀S,Inv X pins (σ.set i<|some v) H S->(∃a,PH a s.heap S.heap/\(a=X.env.locals\/X.env.cells.lookup x=dn a))->Q () S) (hf:X.fn x=d7\/X.env.scope.names.lookup x=dn .local:=by first | exact .inl rfl | exact .inr rfl | assumption):wpAny M A (storeName X.env x u) Q E s:=by
 obtain⟨m,J,hl⟩:=id I.loc;have b5:(X.env.scope.kind == .class || (X.env.scope.kind == .module && X.env.locals != X.env.globals))=eh:=by rw[I.ok.kind];rfl
 have am:i<σ.length:=by rw[I.len];exact(MU.mp hi).1
 have Dy:=I.Dy;have an : ∀{a:ej} {h':gb},(∃o,s.heap.get? a=dn o/\H a=ed)->PH a s.heap h'->l5 X.prog X.w H h':=λ{a h'} ha O b ob e=>by
  obtain⟨_,_,ap⟩:=ha;refine(I.gj b ob e).Di (λc C U q=>(O.2 c ?_).trans q) (λ_ q=>q) λ_ _ q=>q;rintro rfl;rcases U with rfl | U
  ·rw[ap]at e;cases e
  ·rw[ap]at U;cases U
 rcases hx with hk | hk
 ·refine wpAny_storeName_local hk J (λh' b7 O=>?_) b5
  obtain⟨oL,_,_,b9,_⟩:=id J;refine h _ ⟨I.ok,I.os,I.bare,⟨λb o e n g hx=>?_,λb o e n g hx=>?_,I.base.free,λb o e hx=>?_,I.base.C4,I.base.Df,I.base.DE⟩,⟨_,b7,λj y Z f Y G=>?_⟩,λy c e=>?_,I.free,I.u5,λp K=>?_,an ⟨oL,b9,I.free⟩ O,by simpa using I.len⟩ ⟨_,O,.inl rfl⟩
  ·exact(O.2 b<|Nt<|Ng (Na e) I.ok.above).trans (I.base.keep b o e n g hx)
  ·obtain⟨T,f⟩:=I.base.slot b o e n g hx
   exact⟨T,(O.2 b<|Nt<|Ng (Na e) I.ok.above).trans f⟩
  ·obtain⟨P,f⟩:=I.base.there b o e hx
   exact⟨P,(O.2 b<|Nt<|Ng (Na e) I.ok.above).trans f⟩
  ·by_cases l:j=i
   ·subst l
    rw[hi]at f;cases f;rw[Ni am]at Y;cases Y;exact⟨u,r,.inl ⟨hk,by simp⟩⟩
   ·rw[MK (Ny l)]at Y
    obtain⟨W,R,q⟩:=hl j y Z f Y G;refine⟨W,R,?_⟩;rcases q with⟨k,e⟩ | ⟨k,c,e,z⟩
    ·refine .inl ⟨k,?_⟩
     have:y≠x:=λe=>l<|aM hN f<|e ▸ hi;simp[this,e]
    ·exact .inr ⟨k,c,e,z.sameBut O<|Dy y c e⟩
  ·obtain⟨C,z⟩:=I.cell y c e
   exact⟨C,z.sameBut O<|Dy y c e⟩
  ·obtain⟨e,n,B,L,d⟩:=I.pin p K
   exact⟨(O.2 p.1 B).trans e,n,B,L,d⟩
 ·have F:X.fn x=d7:=by
   rcases hf with z | z
   ·exact z
   ·rw[z]at hk;cases hk
  obtain⟨c,U⟩:=I.ok.has x<|.inl hk;obtain⟨C,z⟩:=I.cell x c U;refine wpAny_storeName_cell I.ok.kind hk U z<|λh' ar O=>?_;obtain⟨oc,as,bb⟩:=id z;refine h {s with heap:=h'} ⟨I.ok,I.os,I.bare,⟨λb o e n g hx=>?_,λb o e n g hx=>?_,I.base.free,λb o e hx=>?_,I.base.C4,I.base.Df,I.base.DE⟩,⟨m,J.sameBut O<|Ny<|Dy x c U,λj y Z f Y G=>?_⟩,λy t e=>?_,I.free,I.u5,λp K=>?_,an ⟨oc,as,I.u5 x c U⟩ O,by simpa using I.len⟩ ⟨c,O,.inr U⟩
  ·exact(O.2 b<|Nt<|Ng (Na e)<|I.ok.E1 x c F U).trans (I.base.keep b o e n g hx)
  ·obtain⟨T,f⟩:=I.base.slot b o e n g hx
   exact⟨T,(O.2 b<|Nt<|Ng (Na e)<|I.ok.E1 x c F U).trans f⟩
  ·obtain⟨P,f⟩:=I.base.there b o e hx
   exact⟨P,(O.2 b<|Nt<|Ng (Na e)<|I.ok.E1 x c F U).trans f⟩
  ·by_cases l:j=i
   ·subst l
    rw[hi]at f;cases f;rw[Ni am]at Y;cases Y;exact⟨u,r,.inr ⟨.inl hk,c,U,ar⟩⟩
   ·rw[MK (Ny l)]at Y
    obtain⟨W,R,q⟩:=hl j y Z f Y G;refine⟨W,R,?_⟩;rcases q with q | ⟨k,t,e,z'⟩
    ·exact .inl q
    ·refine .inr ⟨k,t,e,z'.sameBut O ?_⟩
     rintro rfl;exact l<|aM hN f<|I.ok.inj _ _ _ e U ▸ hi
  ·by_cases ax:t=c
   ·subst ax;exact⟨_,ar⟩
   ·obtain⟨w2,z2⟩:=I.cell y t e
    exact⟨w2,z2.sameBut O ax⟩
  ·obtain⟨e,n,B,L,d⟩:=I.pin p K
   refine⟨(O.2 p.1 ?_).trans e,n,B,L,d⟩;intro q;rw[q,as]at e;have q':oc=p.2:=ND e;exact d C (by rw[<- q'];exact bb)
theorem ah(I:Inv X pins σ H s)(z:X.N.Nodup)(hi:X.N[i]? = dn x)(hx:Loc X.env.scope x)(r:RelV v u)
 (h : ∀C,Inv X pins (σ.set i<|some v) H C->Q () C) (O:X.fn x=d7\/X.env.scope.names.lookup x=dn .local:=by first | exact .inl rfl | exact .inr rfl | assumption):wpAny M A (storeName X.env x u) Q E s:=
 YH I z hi hx r (λC U _=>h C U) O
theorem Inv.I_(I:Inv X pins σ H s)(z:s'.os=s.os)(u:Un (u6 X.stack) ch H H' s.heap s'.heap)(C:l5 X.prog X.w H' s'.heap)(O:C6 s'.gens)
 (U : ∀b∈ch,(b∈X.ex\/X.nr.heap.objs.size<=b)/\b≠X.env.locals/\(∀x c,X.env.cells.lookup x=dn c->c≠b)/\∀p∈X.pn++pins,p.1≠b):Inv X pins σ H' s':=by
 obtain⟨h',g',d',t',a⟩:=s';have e:a=s.os:=z;subst e;exact I.call (g':=g') (t':=t') (d':=d') u C O U
end
abbrev XK:=el->Option ej->Hp->Prop
abbrev St:=List (Option V)
abbrev VK:=V->Hp->Prop
abbrev TE:=St->Hp->VK->Prop
abbrev TT:=St->Hp->(Bool->Hp->Prop)->Prop
abbrev TA:=St->Hp->(List V->Hp->Prop)->Prop
structure Ends where
 nx:St->Hp->Prop
 rt:VK
 bk:St->Hp->Prop:=λ_ _=>False
 ct:St->Hp->Prop:=λ_ _=>False
abbrev TS:=Ends->St->Hp->Prop
noncomputable def EP(X:Cx)(C:UQ)(J:St)(Q:VK)(u:el)(I:eK):Prop:=∃v a,Inv X C J a I/\RelV v u/\Q v a
noncomputable def TP(X:Cx)(C:UQ)(J:St)(Q:Bool->Hp->Prop)(b:Bool)(I:eK):Prop:=∃a,Inv X C J a I/\Q b a
noncomputable def AP(X:Cx)(C:UQ)(J:St)(Q:List V->Hp->Prop)(us:List el)(I:eK):Prop:=∃b a,Inv X C J a I/\f9 b us/\Q b a
noncomputable def SP(X:Cx)(C:UQ)(D:Ends)(f:Flow)(I:eK):Prop:=
 match f with
 | .next=>∃a b,Inv X C a b I/\D.nx a b
 | .brk=>∃a b,Inv X C a b I/\D.bk a b
 | .cont=>∃a b,Inv X C a b I/\D.ct a b
 | .ret u=>∃v a b,Inv X C a b I/\RelV v u/\D.rt v b
noncomputable def PE(X:Cx)(e:e9)(t:TE):Prop:=
 ∀(a:UQ) (s:eK) (b:St) (H:Hp) (Q:VK),Inv X a b H s->t b H Q->wpAny (fe X.prog X.w) X.A (fh e X.env) (EP X a b Q) X.xe s
noncomputable def PT(X:Cx)(e:e9)(t:TT):Prop:=
 ∀(a:UQ) (s:eK) (b:St) (H:Hp) (Q:Bool->Hp->Prop),Inv X a b H s->t b H Q->wpAny (fe X.prog X.w) X.A (Dz e X.env<|eval e X.env) (TP X a b Q) X.xe s
noncomputable def PW(X:Cx)(e:e9)(t:TT):Prop:=
 ∀(z:Sem el) (a:UQ) (s:eK) (b:St) (H:Hp) (Q:Bool->Hp->Prop),Inv X a b H s->t b H Q->wpAny (fe X.prog X.w) X.A (Dz e X.env z) (TP X a b Q) X.xe s
theorem PW.pt(h:PW X e t):PT X e t:=h _
noncomputable def PA(X:Cx)(C:List e9)(t:TA):Prop:=
 ∀(pos:hL) (a:UQ) (s:eK) (b:St) (H:Hp) (Q:List V->Hp->Prop),Inv X a b H s->t b H Q->wpAny (fe X.prog X.w) X.A (M3<|backTo pos<|starEach C X.env) (AP X a b Q) X.xe s
noncomputable def PS(X:Cx)(st:k4)(t:TS):Prop:=
 ∀(a:UQ) (s:eK) (b:St) (H:Hp) (D:Ends),Inv X a b H s->t D b H->wpAny (fe X.prog X.w) X.A (exec st X.env) (SP X a D) X.xe s
noncomputable def q5(X:Cx)(st:List k4)(t:TS):Prop:=
 ∀(a:UQ) (s:eK) (b:St) (H:Hp) (D:Ends),Inv X a b H s->t D b H->wpAny (fe X.prog X.w) X.A (execs st X.env) (SP X a D) X.xe s
theorem f6(h:wpAny M A t Q E s)(z : ∀a s,Q a s->Q' a s):wpAny M A t Q' E s:=OW h z λ_ _ x=>x
section
variable{X:Cx}
def AV(i:Nat):TE:=λa H Q=>∃v,a[i]? = dn (dn v)/\Q v H
def tC(v:V):TE:=λ_ H Q=>Q v H
theorem CH(L:X.N[i]? = dn x)(S:O6 X.env.scope x)(C:(x==("__debug__" : Str))=eh:=by decide)(J:(x==("__classdict__" : Str))=eh:=by decide):PE X (.Name x pos) (AV i):=by
 intro a s g H Q I h;obtain⟨v,e,h⟩:=h;obtain⟨m,f,b⟩:=I.loc;obtain⟨u,r,l⟩:=b i x v L e S;have O:EP X a g Q u s:=⟨v,H,I,r,h⟩;rcases l with⟨z,d⟩ | ⟨z,c,U,Y⟩
 ·exact k_ (wpAny_loadName_local I.ok.kind z f d O) C
 ·rcases z with z | z
  ·exact k_ (wpAny_loadName_cell I.ok.kind z U Y O) C
  ·exact k_ (wpAny_loadName_free I.ok.kind z U Y O J) C
theorem CS:PE X (.Constant (.int i) j pos) (tC<|.int i):=λ_ _ _ H _ I h=>wpAny_Constant_int ⟨.int i,H,I.tok _,⟨_,rfl⟩,h⟩
theorem Hc:PE X (.Constant (.bool b) j pos) (tC<|.bl b):=λ_ _ _ H _ I h=>Constant_bool ⟨.bl b,H,I,rfl,h⟩
theorem CN:PE X (.Constant .none j pos) (tC .ft):=λ_ _ _ H _ I h=>Constant_none ⟨.ft,H,I,rfl,h⟩
theorem CJ:PE X (.Constant (.str x) j pos) (tC<|.str x):=λ_ _ _ H _ I h=>Calls.Constant_str ⟨.str x,H,I.tok _,⟨_,rfl⟩,h⟩
def Gl(X:Cx)(x:Str):Prop:=X.env.kindOf x=dn .globalImplicit
theorem Wv(I:Inv X pins σ H s)(z:Gl X x)(J:X.mg x=dn u)(h:Q u s)
 (C:(x==("__debug__" : Str))=eh:=by decide):wpAny (fe X.prog X.w) X.A (fh (.Name x pos) X.env) Q E s:=
 Calls.Name_function_global I.ok.kind z (Calls.loadGlobal_global (by rw[I.ok.glob];exact I.mod.glob.keeps I.bk) J h) C
theorem yT(I:Inv X pins σ H s)(z:Gl X x)(J:X.mg x=ed)(O:A7 x=dn u)(h:Q u s)
 (L:x ≠ "__name__":=by decide) (C:(x==("__debug__" : Str))=eh:=by decide):wpAny (fe X.prog X.w) X.A (fh (.Name x pos) X.env) Q E s:=by
 obtain⟨d,a,b⟩:=I.mod.blt;exact Calls.Name_function_global I.ok.kind z (Calls.loadGlobal_builtin (by rw[I.ok.glob];exact I.mod.glob.keeps I.bk) J (by rw[I.ok.blt];exact a.keeps I.bk) ((b x L).trans O) h) C
variable{a b:e9}{ta tb:TE}{pos:hL}
noncomputable def PC(X:Cx)(z:CmpOp)(a b:e9)(t:TE):Prop:=
 ∀(d:UQ) (s:eK) (e:St) (H:Hp) (Q:VK),Inv X d e H s->t e H Q->
  wpAny (fe X.prog X.w) X.A (fh a X.env) (λv I=>wpAny (fe X.prog X.w) X.A (fh b X.env) (λu O=>wpAny (fe X.prog X.w) X.A (oe z v u) (EP X d e Q) X.xe O) X.xe I) X.xe s
theorem oC(b:e9)(h:op ≠ .In)(C:op ≠ .NotIn):u4 op b=eh:=by
 have a:(op==CmpOp.In)=eh:=by cases op<;>first | rfl | exact absurd rfl h
 have z:(op==CmpOp.NotIn)=eh:=by cases op<;>first | rfl | exact absurd rfl C
 cases b<;>simp[u4,a,z]
def tB(t:TE):TT:=λb H Q=>t b H λx a=>∃c,x = .bl c/\Q c a
theorem Cv(h:PC X op a b t)(C:u4 op b=eh:=by first | exact oC _ ⋯ ⋯ | rfl):PT X (.Compare a [op] [b] pos) (tB t):=by intro e s j H Q I i;refine _k (f6 (h e s j H _ I i) λv k C=>f6 C λu l g=>f6 g λc m z=>?_) C;obtain⟨x,f,O,U,Y⟩:=z;obtain⟨d,rfl,q⟩:=Y;cases U;exact OA ⟨f,O,q⟩
theorem Ct(h:PE X e t)(O : ∀z,Dz e X.env z=(do let v <- z;DC e.pos;sy [v] (F6 v)):=by intro _;rfl):PT X e (tB t):=by intro a s j H Q I f;refine isTrue_plain (f6 (h a s j H _ I f) λv k U=>?_)<|O _;obtain⟨x,b,Y,i,g⟩:=U;obtain⟨d,rfl,q⟩:=g;cases i;exact OA ⟨b,Y,q⟩
variable{tA M6:TT}{yd:List e9}
def LF(t u:TT):TT:=λb H Q=>t b H λc a=>if c=d7 then u b a Q else Q eh a
def _c(t u:TT):TT:=λb H Q=>t b H λc a=>if c=d7 then Q d7 a else u b a Q
def Lz(t:TT):TT:=λb H Q=>t b H λc a=>Q (!c) a
theorem ud(C:PT X a tA):PW X (.BoolOp .And [a] pos) tA:=by
 intro z b s d H Q I h;refine isTrue_and<|f6 (C b s d H Q I h) λc f e=>?_;cases c with
 | true=>exact isTrue_and_nil e
 | false=>exact e
theorem Cd(C:PT X a tA):PW X (.BoolOp .Or [a] pos) tA:=by
 intro z b s d H Q I h;refine isTrue_or<|f6 (C b s d H Q I h) λc f e=>?_;cases c with
 | false=>exact isTrue_or_nil e
 | true=>exact e
theorem Ce(C:PT X a tA)(U:PW X (.BoolOp .And (b::yd) pos) M6):PW X (.BoolOp .And (a::b::yd) pos) (LF tA M6):=by
 intro Y d s f H Q I h;refine isTrue_and<|f6 (C d s f H _ I h) λc i g=>?_;obtain⟨e,z,O⟩:=g;cases c with
 | true=>exact U Y d i f e Q z O
 | false=>exact⟨e,z,O⟩
theorem GV(C:PT X a tA)(U:PW X (.BoolOp .Or (b::yd) pos) M6):PW X (.BoolOp .Or (a::b::yd) pos) (_c tA M6):=by
 intro Y d s f H Q I h;refine isTrue_or<|f6 (C d s f H _ I h) λc i g=>?_;obtain⟨e,z,O⟩:=g;cases c with
 | true=>exact⟨e,z,O⟩
 | false=>exact U Y d i f e Q z O
theorem Cu(ha:PT X a tA):PT X (.UnaryOp .Not a pos) (Lz tA):=by intro b s e H Q I h;exact isTrue_not<|ha b s e H (λc d=>Q (!c) d) I h
noncomputable def GI(ta tb:TE):TE:=λb H Q=>ta b H λx a=>∃c,x = .bl c/\if c=d7 then tb b a Q else Q (.bl eh) a
def GC(ta:TE):TE:=λb H Q=>ta b H λx a=>∃c,x = .bl c/\Q (.bl<|!c) a
theorem CK(h:PE X a t):PE X (.BoolOp op [a] pos) t:=λb s e H Q I d=>BoolOp_one<|h b s e H Q I d
theorem CU(C:PE X a ta)(U:PE X (.BoolOp .And (b::yd) pos) tb):PE X (.BoolOp .And (a::b::yd) pos) (GI ta tb):=by
 intro d s f H Q I h;refine BoolOp_and<|f6 (C d s f H _ I h) λv i Y=>?_;obtain⟨x,e,O,g,z⟩:=Y;obtain⟨c,rfl,z⟩:=z;cases g;refine OA ?_;cases c with
 | true=>exact U d i f e Q O z
 | false=>exact⟨.bl eh,e,O,rfl,z⟩
theorem CM(C:PE X a ta):PE X (.UnaryOp .Not a pos) (GC ta):=by intro b s e H Q I h;refine UnaryOp_<|f6 (C b s e H _ I h) λv f O=>?_;obtain⟨x,d,U,Y,z⟩:=O;obtain⟨c,rfl,z⟩:=z;cases Y;exact not_of<|OA ⟨.bl<|!c,d,U,rfl,z⟩
noncomputable def Ue(t:TT)(ta tb:TE):TE:=λa H Q=>t a H λc b=>if c=d7 then ta a b Q else tb a b Q
theorem nY(U:PT X c tA)(C:PE X a ta)(Y:PE X b tb):PE X (.IfExp c a b pos) (Ue tA ta tb):=by
 intro e s f H Q I h;refine wpAny_IfExp<|f6 (U e s f H _ I h) λd i j=>?_;obtain⟨g,z,O⟩:=j;cases d with
 | true=>exact C e i f g Q z O
 | false=>exact Y e i f g Q z O
end
noncomputable def gv(K:MC)(H:Hp)(a:ej)(xs:List V):Prop:=
 Rd H a (.lst xs)\/
  ∃(o:m3) (z:Array el) (n:Nat),K.lookup a=dn o/\o.cls = .type "list"/\o.dict=ed/\o.data = .seq z n/\z.size<=gm/\f9 xs z.toList
noncomputable def hB(K:MC)(H:Hp)(a:ej)(xs:List V):Prop:=
 Rd H a (.tup xs)\/
  ∃(o:m3) (z:Array el) (n:Nat),K.lookup a=dn o/\(o.cls,o.dict)=(Ro "tuple",ed)/\o.data = .seq z n/\z.size<=gm/\f9 xs z.toList
noncomputable def Mi:el->Option V
 | .none=>dn .ft
 | .bool b=>dn (.bl b)
 | .int i _=>dn (.int i)
 | .str x _=>dn (.str x)
 | .bytes b _=>dn (.En b)
 | .float b _=>dn (.DS b)
 | .ref a=>dn (.ref a)
 | .type n=>dn (.ty n)
 | _=>ed
theorem RelV.abs(r:RelV x u):Mi u=dn x:=by
 cases x with
 | ft=>cases r;rfl
 | bl _=>cases r;rfl
 | int _=>obtain⟨t,rfl⟩:=r;rfl
 | str _=>obtain⟨t,rfl⟩:=r;rfl
 | En _=>obtain⟨t,rfl⟩:=r;rfl
 | DS _=>obtain⟨t,rfl⟩:=r;rfl
 | ref _=>cases r;rfl
 | ty _=>cases r;rfl
theorem RelV.inj(r:RelV x u)(q:RelV y u):x=y:=ND<|r.abs.symm.trans q.abs
theorem f9.inj : ∀{xs ys:List V} {us:List el},f9 xs us->f9 ys us->xs=ys
 | _,_,_,.nil,.nil=>rfl
 | _,_,_,.cons r t,.cons r' t'=>by rw[r.inj r',f9.inj t t']
section
variable{X:Cx}{pins:UQ}{σ:St}{H:Hp}{s:eK}{a:ej}{xs ys:List V}
theorem gv.of{K:MC}(h:H a=dn (.lst xs)):gv K H a xs:= .inl (.inl h)
theorem hB.of{K:MC}(h:H a=dn (.tup xs)):hB K H a xs:= .inl (.inl h)
theorem Inv.list(I:Inv X pins σ H s)(h:gv X.K H a xs) : ∃O:List el,f9 xs O/\PlainL s.heap a O.toArray/\xs.length<=gm:=by
 rcases h with h | ⟨o,O,n,U,Y,hd,hs,hz,r⟩
 ·obtain⟨z,O,n,r,e⟩:=h.ok I.gj
  exact⟨O,r,⟨_,n,e,rfl,rfl,rfl⟩,z⟩
 ·refine⟨O.toList,r,⟨o,n,I.m6 a o U,Y,hd,by simpa using hs⟩,?_⟩
  have e:=r.length;simp only[Oo]at e;omega
theorem Inv.tuple(I:Inv X pins σ H s)(h:hB X.K H a xs) : ∃O:List el,f9 xs O/\D3 s.heap a O.toArray/\xs.length<=gm:=by
 rcases h with h | ⟨o,O,n,U,Y,hs,hz,r⟩
 ·obtain⟨z,O,r,p⟩:=h.ok I.gj
  exact⟨O,r,p.tup,z⟩
 ·refine⟨O.toList,r,⟨o,I.m6 a o U,(Prod.mk.inj Y).1,n,by simpa using hs⟩,?_⟩
  have e:=r.length;simp only[Oo]at e;omega
theorem Inv.S2(I:Inv X pins σ H s)(h:gv X.K H a xs)(h':gv X.K H a ys):xs=ys:=by
 obtain⟨O,r,⟨o,n,e,_,_,d⟩,_⟩:=I.list h;obtain⟨b,g,⟨j,i,z,_,_,f⟩,_⟩:=I.list h';rw[e]at z;cases z;rw[d]at f;injection f with U _;have:O=b:=by simpa using congrArg Array.toList U
 subst this;exact r.inj g
theorem Inv.h_(I:Inv X pins σ H s)(h:hB X.K H a xs)(h':hB X.K H a ys):xs=ys:=by
 obtain⟨O,r,⟨o,e,_,n,d⟩,_⟩:=I.tuple h;obtain⟨b,g,⟨j,z,_,i,f⟩,_⟩:=I.tuple h';rw[e]at z;cases z;rw[d]at f;injection f with U _;have:O=b:=by simpa using congrArg Array.toList U
 subst this;exact r.inj g
end
abbrev Cx.zl(X:Cx)(E:EQ):Cx:={X with xe:=E}
abbrev Cx.E8(X:Cx):Cx:=X.zl λ_ _=>False
theorem Cx.Ok.zl{X:Cx}(ok:X.Ok)(E:EQ):(X.zl E).Ok:=
 ⟨ok.mod,ok.kind,ok.glob,ok.blt,ok.above,ok.inj,ok.has,ok.E1,ok.hd,ok.frames,ok.M4,ok.I7,ok.bs,ok.xc,ok.E7,ok.E4,ok.sx,ok.De⟩
theorem Cx.Ok.Dj{X:Cx}{E:EQ}(ok:(X.zl E).Ok):X.Ok:=
 ⟨ok.mod,ok.kind,ok.glob,ok.blt,ok.above,ok.inj,ok.has,ok.E1,ok.hd,ok.frames,ok.M4,ok.I7,ok.bs,ok.xc,ok.E7,ok.E4,ok.sx,ok.De⟩
section
variable{X:Cx}{pins:UQ}{σ:St}{H:Hp}{s:eK}{E:EQ}
theorem Inv.zl(I:Inv X pins σ H s)(E:EQ):Inv (X.zl E) pins σ H s:=⟨I.ok.zl E,I.os,I.bare,I.base,I.loc,I.cell,I.free,I.u5,I.pin,I.gj,I.len⟩
theorem Inv.Dj(I:Inv (X.zl E) pins σ H s):Inv X pins σ H s:=⟨I.ok.Dj,I.os,I.bare,I.base,I.loc,I.cell,I.free,I.u5,I.pin,I.gj,I.len⟩
theorem SP.Dj(h:SP (X.zl E) pins D f s'):SP X pins D f s':=by
 cases f with
 | next=>obtain⟨a,b,I,q⟩:=h;exact⟨a,b,I.Dj,q⟩
 | brk=>obtain⟨a,b,I,q⟩:=h;exact⟨a,b,I.Dj,q⟩
 | cont=>obtain⟨a,b,I,q⟩:=h;exact⟨a,b,I.Dj,q⟩
 | ret u=>obtain⟨v,a,b,I,r,q⟩:=h;exact⟨v,a,b,I.Dj,r,q⟩
theorem q5.E8{st:List k4}{t:TS}(h:q5 X.E8 st t):q5 X st t:=λpins s σ H D I a=>
 OW (h pins s σ H D (I.zl _) a) (λ_ _ q=>q.Dj) λ_ _ z=>Pc z
end
section
variable{X:Cx}{st:k4}{yd:List k4}{t u:TS}{e:e9}{te:TE}{pos:hL}
def GE:TS:=λD a H=>D.nx a H
def Lx(t u:TS):TS:=λD a H=>t {D with nx:=u D} a H
theorem uj:q5 X [] GE:=λ_ _ a H _ I h=>l_ ⟨a,H,I,h⟩
theorem nN(C:PS X st t)(J:q5 X yd u):q5 X (st::yd) (Lx t u):=by
 intro a s g H D I h;refine wpAny_execs_cons<|f6 (C a s g H {D with nx:=u D} I h) λf e q=>?_;cases f with
 | next=>
  obtain⟨b,d,z,q⟩:=q;exact J a e b d D z q
 | ret v=>exact q
 | brk=>exact q
 | cont=>exact q
theorem fP(C:PS X st t):q5 X [st] t:=by
 intro a s b H D I h;refine wpAny_execs_cons<|f6 (C a s b H D I h) λf d q=>?_;cases f with
 | next=>exact l_ q
 | ret v=>exact q
 | brk=>exact q
 | cont=>exact q
def GH:TS:=λD a H=>D.ct a H
theorem Wb:PS X (.Continue pos) GH:=λ_ _ a H _ I h=>wpAny_Continue ⟨a,H,I,h⟩
theorem Inv.quiet(I:Inv X pins σ H s):interactive X.env=eh:=by simp[interactive,I.ok.kind]
def GF(te:TE):TS:=λD a H=>te a H λ_ b=>D.nx a b
theorem fR(z:PE X e te)(O:C2 e ed pos.line X.env=pure eh:=by rfl):PS X (.Expr e pos) (GF te):=by intro a s b H D I h;exact wpAny_Expr_any (f6 (z a s b H _ I h) λv g ⟨x,d,U,f,Y⟩=>⟨b,d,U,Y⟩) I.quiet O
def Ly(te:TE):TS:=λD a H=>te a H D.rt
theorem fQ(z:PE X e te):PS X (.Return (dn e) pos) (Ly te):=by intro a s b H D I h;exact wpAny_Return_some<|f6 (z a s b H _ I h) λv f ⟨x,d,O,U,Y⟩=>⟨x,b,d,O,U,Y⟩
def LB(c:TT)(t u:TS):TS:=λD a H=>c a H λb d=>if b=d7 then t D a d else u D a d
theorem GZ(U:PT X c tc)(C:q5 X a t)(Y:q5 X b u):PS X (.If c a b pos) (LB tc t u):=by
 intro e s f H D I h;refine wpAny_If<|f6 (U e s f H _ I h) λd i j=>?_;obtain⟨g,z,O⟩:=j;cases d with
 | true=>exact C e i f g D z O
 | false=>exact Y e i f g D z O
def Bv:TS:=λ_ _ _=>False
theorem nQ:PS X st Bv:=λ_ _ _ _ _ _ h=>h.elim
end
abbrev TG:=V->St->Hp->(St->Hp->Prop)->Prop
abbrev DK:=List V->St->Hp->(St->Hp->Prop)->Prop
noncomputable def PG(X:Cx)(z:e9)(t:TG):Prop:=
 ∀(a:UQ) (s:eK) (e:St) (H:Hp) (v:V) (u:el) (Q:St->Hp->Prop),Inv X a e H s->RelV v u->t v e H Q->
  wpAny (fe X.prog X.w) X.A (t6 z X.env u) (λ_ f=>∃b d,Inv X a b d f/\Q b d) X.xe s
noncomputable def D7(X:Cx)(ts:List e9)(t:DK):Prop:=
 ∀(a:UQ) (s:eK) (g:St) (H:Hp) (f:List V) (e:List el) (Q:St->Hp->Prop),Inv X a g H s->f9 f e->t f g H Q->
  wpAny (fe X.prog X.w) X.A (assignInOrder ((xb ts X.env).map (·.2)) e) (λ_ h=>∃b d,Inv X a b d h/\Q b d) X.xe s
abbrev Lp:=V->V->V->Hp->(Hp->Prop)->Prop
noncomputable def Lq(X:Cx)(t:Lp):Prop:=
 ∀(a:UQ) (s:eK) (d:St) (H:Hp) (o i v:V) (z I u:el) (Q:Hp->Prop),Inv X a d H s->RelV o z->RelV i I->RelV v u->t o i v H Q->
  wpAny (fe X.prog X.w) X.A (T8 z I u) (λ_ e=>∃b,Inv X a d b e/\Q b) X.xe s
section
variable{X:Cx}{pos:hL}
def vg(i:Nat):TG:=λv a H Q=>Q (a.set i<|some v) H
theorem gc(z:X.N.Nodup)(hi:X.N[i]? = dn x)(hx:Loc X.env.scope x)(O:X.fn x=d7\/X.env.scope.names.lookup x=dn .local:=by first | exact .inl rfl | exact .inr rfl | assumption):PG X (.Name x pos) (vg i):=by intro a s d H v u Q I r h;exact _i<|ah I z hi hx r (λb U=>⟨_,H,U,h⟩) O
def IW:DK:=λa b H Q=>a=[]/\Q b H
def EH(t:TG)(u:DK):DK:=λd e H Q=>∃v r,d=v::r/\t v e H λa b=>u r a b Q
theorem fZ:D7 X [] IW:=by intro a s b H f d Q I r h;obtain⟨e,h⟩:=h;subst e;cases r;exact assignInOrder_nil ⟨b,H,I,h⟩
theorem wH(C:PG X e t)(J:D7 X es u)
 (z:(xb (e::es) X.env).map (·.2)=t6 e X.env::(xb es X.env).map (·.2):=by rfl):D7 X (e::es) (EH t u):=by
 intro a s j H m k Q I r h;obtain⟨v,l,f,h⟩:=h;subst f;cases r with
 | cons r O=>
  rw[z];refine assignInOrder_cons<|f6 (C a s j H _ _ _ I r h) λ_ i U=>?_;obtain⟨Y,b,d,g⟩:=U;exact J a i Y b _ _ Q d O g
noncomputable def IV(K:MC)(n:Nat)(t:DK):TG:=λv d H Q=>∃a b,v = .ref a/\hB K H a b/\b.length=n/\t b d H Q
theorem CG(O:X.calm=d7)(h:D7 X es t)
 (C:(xb es X.env).length=n:=by rfl) (U:(xb es X.env).findIdx? (·.1)=ed:=by rfl):PG X (.Tuple es k pos) (IV X.K n t):=by
 intro d s g H v u Q I r f;obtain⟨a,x,j,Y,m,f⟩:=f;subst j;cases r;obtain⟨y,z,p,A⟩:=I.tuple Y;refine assign_Tuple_tuple (I.ok.hd O) p (by simp[C,<- m,z.length]) U λl w=>?_;have i:Inv X d g H {s with heap:=l}:=I.kept (t':=s.toks) λb o e=>w b o (Nt<|Na e) e;exact h d _ g H x _ Q i (by simpa using z) f
noncomputable def Md(to z:TE)(t:Lp):TG:=λv a H Q=>to a H λo b=>z a b λi d=>t o i v d λI=>Q a I
theorem rQ(Y:PE X o to)(hi:PE X i ti)(J:Lq X t)
 (C : ∀v,t6 (.Subscript o i pos) X.env v=(do
   let z <- sy [v] (fh o X.env);let O <- sy [v,z] (fh i X.env)
   DC pos
   sy [v,z,O] (T8 z O v)
   U7 [v,z,O] []):=by intro _;rfl):PG X (.Subscript o i pos) (Md to ti t):=by
 intro a s b H v u Q I r h;rw[C];refine MA<|OV<|f6 (Y a s b H _ I h) λz A U=>?_;obtain⟨x,d,g,p,l⟩:=U;refine MA<|OV<|f6 (hi a A b d _ g l) λO B U=>?_;obtain⟨y,e,j,w,m⟩:=U;refine MA<|TC<|MA<|OV<|f6 (J a B b e x y v z O u _ j p w r m) λ_ E U=>?_;obtain⟨f,k,n⟩:=U;exact wpAny_release ⟨b,f,k,n⟩
def bX(te:TE)(g:TG):TS:=λD a H=>te a H λx b=>g x a b D.nx
theorem aG(z:PE X e te)(O:PG X tg g)(U:M5 [tg] e pos.line X.env=pure eh:=by rfl)(J:Uc [tg] e X.env=pure ed:=by rfl)
 (C:(xb [tg] X.env).map (·.2)=[t6 tg X.env]:=by rfl):PS X (.Assign [tg] e pos) (bX te g):=by
 intro a s b H D I h;refine wpAny_Assign_stores (f6 (z a s b H _ I h) λv k Y=>?_) U J;obtain⟨x,d,f,j,i⟩:=Y;rw[C];exact f6 (O a k b d x v _ f j i) λ_ l q=>q
theorem Cy(z:X.N.Nodup)(hi:X.N[i]? = dn x)(hx:Loc X.env.scope x)(O:PE X e te)(U:C2 e (dn (.Name x pos')) pos.line X.env=pure eh:=by rfl)(Y:X.fn x=d7\/X.env.scope.names.lookup x=dn .local:=by first | exact .inl rfl | exact .inr rfl | assumption) :
 PS X (.Assign [.Name x pos'] e pos) (bX te<|vg i):=by
 intro a s l H D I h;refine wpAny_Assign_Name (f6 (O a s l H _ I h) λv m g=>?_) U;obtain⟨y,b,d,k,j⟩:=g;exact ah d z hi hx k (λn f=>⟨_,b,f,j⟩) Y
end
structure It where
 go:Nat->Hp->Prop
 z4:Nat->Hp->V->Hp->Prop
 stop:Nat->Hp->Prop
noncomputable def ZO(X:Cx)(C:UQ)(H:Hp)(b:ej):Prop:=
 H b=ed/\b≠X.env.locals/\b∉X.fs/\(b∈X.ex\/X.nr.heap.objs.size<=b)/\(∀x c,X.env.cells.lookup x=dn c->c≠b)/\∀p∈X.pn++C,p.1≠b
theorem Inv.B4(I:Inv X pins σ H s)(O:s.heap.objs.size<=b)(C:H' b=ed):ZO X pins H' b:=by
 refine⟨C,OF<|Ng I.lt O,I.V' O,.inr<|Of I.sz O,λx c e z=>?_,λp U z=>?_⟩
 ·obtain⟨v,q⟩:=I.cell x c e
  exact absurd (Ng q.lt<|by rw[z];exact O)<|NW _
 ·exact absurd (Ng (Na (I.pin p U).1)<|by rw[z];exact O)<|NW _
structure Turn(P:i6)(w:h9)(K:MC)(tg:e9)(J:It)(fp:List ej)(it:ej)(tn:Nat->gb->Prop):Prop where
 mem:it∈fp
 obj : ∀i h,tn i h->∀b∈fp,∃o,h.get? b=dn o/\∀v,o.data ≠ .cell v
 keep : ∀i h h',tn i h->(∀b∈fp,∀o,h.get? b=dn o->h'.get? b=dn o)->tn i h'
 item : ∀(X:Cx),X.prog=P->X.w=w->X.K=K->X.calm=d7->∀(i:Nat) (pins:UQ) (s:eK) (σ:St) (H:Hp) (E:EQ),Inv X pins σ H s->(∀b∈fp,ZO X pins H b)->tn i s.heap->J.go i H->
  wpAny (fe P w) X.A (Dh<|.ref it) (λr s1=>∃u,r=dn u/\
   wpAny (fe P w) X.A (L0 tg (.ref it) u) (λ_ s2=>∃x H',Inv X pins σ H' s2/\RelV x u/\J.z4 i H x H'/\tn (i+1) s2.heap/\∀b∈fp,H' b=ed) E s1) E s
 done : ∀(X:Cx),X.prog=P->X.w=w->X.K=K->X.calm=d7->∀(i:Nat) (pins:UQ) (s:eK) (σ:St) (H:Hp) (E:EQ),Inv X pins σ H s->(∀b∈fp,ZO X pins H b)->tn i s.heap->J.stop i H->
  wpAny (fe P w) X.A (Dh<|.ref it) (λr s1=>r=ed/\Inv X pins σ H s1) E s
 self : ∀(A:mu) (i:Nat) (s:eK) (Q:EQ) (E:EQ),tn i s.heap->Q (.ref it) s->wpAny (fe P w) A (M0<|.ref it) Q E s
abbrev TI:=St->Hp->(It->Hp->Prop)->Prop
noncomputable def Us(X:Cx)(C:UQ)(O:St)(L:e9)(R:It->Hp->Prop)(z:el)(I:eK):Prop:=
 ∃(e:ej) (d:List ej) (f:Nat->gb->Prop) (J:It) (a:Hp),z = .ref e/\Inv X C O a I/\Turn X.prog X.w X.K L J d e f/\f 0 I.heap/\(∀b∈d,ZO X C a b)/\R J a
noncomputable def PI(X:Cx)(I C:e9)(J:TI):Prop:=
 ∀(a:UQ) (s:eK) (b:St) (H:Hp) (R:It->Hp->Prop),Inv X a b H s->J b H R->
  wpAny (fe X.prog X.w) X.A (fh C X.env) (λv d=>wpAny (fe X.prog X.w) X.A (M0 v) (Us X a b I R) X.xe d) X.xe s
theorem Ak(I:s.heap.get? it=dn o)(O:o.cls = .type n)(C:o.data = .fields vs)
 (J:["enumerate","zip","dict_itemiterator","dict_reverseitemiterator","odict_iterator","itertools.zip_longest","itertools.pairwise"].contains n=eh) (z:Q () s):wpAny M A (L0 tg (.ref it) u) Q E s:=by
 unfold L0;cases tg<;>first
  | exact MN z
  | (cases u<;>first
      | exact MN z
      | (refine MA (wpAny_load I ?_)
         rw[O,C];show wpAny M A (if (["enumerate","zip","dict_itemiterator","dict_reverseitemiterator","odict_iterator","itertools.zip_longest","itertools.pairwise"].contains n && vs[0]? == dn (xr _))=d7 then _ else _) Q E s;rw[UY (by intro h;rw[J,PY]at h;cases h)];exact MN z))
noncomputable def Up(K:MC)(a:ej):It:=
 ⟨λi H=>∃b x,gv K H a b/\b[i]? = dn x,λi H x d=>d=H/\∀b,gv K H a b->b[i]? = dn x,λi H=>∃b,gv K H a b/\b.length<=i⟩
noncomputable def Uq(K:MC)(a:ej):It:=
 ⟨λi H=>∃b x,hB K H a b/\b[i]? = dn x,λi H x d=>d=H/\∀b,hB K H a b->b[i]? = dn x,λi H=>∃b,hB K H a b/\b.length<=i⟩
def C7(lo:Int)(n:Nat):It:=⟨λi _=>i<n,λi H x a=>a=H/\x = .int (lo+i),λi _=>n<=i⟩
theorem dW{P:i6}{w:h9}{K:MC}{tg:e9}(a it:ej):Turn P w K tg (Up K a) [it] it (λi h=>h.IsListIter it a i) where
 mem:=by simp
 obj:=λi h st b O=>by
  have e:b=it:=by simpa using O
  subst e;obtain⟨o,e,c,d⟩:=st;exact⟨o,e,λv z=>by rw[d]at z;cases z⟩
 keep:=λi h h' st k=>st.at λo e=>k it ⋯ o e
 item:=by intro X hP hw hK hc i pins s σ H E I U st hg;subst hP hw hK;obtain⟨xs,x,Y,hx⟩:=hg;obtain⟨ak,rv,p,hz⟩:=I.list Y;obtain⟨u,hu,ru⟩:=rv.get hx;obtain⟨f0,f1,f2,f3,f4,f5⟩:=U it ⋯;refine wpAny_pyNext_list_item st p.isList (x:=u) (by simpa using hu) λh' ac sb=>?_;have I1:Inv X pins σ H {s with heap:=h'}:=I.turned (t':=s.toks) (λb o O e=>(sb.2 b O).trans e) f0 f1 f3 f4 f5;obtain⟨o,e,c,d⟩:=id ac;exact⟨u,rfl,Ak (s:={s with heap:=h'}) e c d ⋯ ⟨x,H,I1,ru,⟨rfl,λys hy=>by rw[I.S2 hy Y];exact hx⟩,ac,λb O=>(U b O).1⟩⟩
 done:=by intro X hP hw hK hc i pins s σ H E I U st hg;subst hP hw hK;obtain⟨xs,Y,hx⟩:=hg;obtain⟨ak,rv,p,hz⟩:=I.list Y;obtain⟨f0,f1,f2,f3,f4,f5⟩:=U it ⋯;have hl:=rv.length;exact wpAny_pyNext_list_end (I.ok.hd hc) st p.isList (by simp;omega) λh' eb=>⟨rfl,I.turned (t':=s.toks) (λb o O e=>eb b o O e) f0 f1 f3 f4 f5⟩
 self:=λ_ _ _ _ _ st h=>wpAny_pyIter_listiter st h
theorem bN{P:i6}{w:h9}{K:MC}{tg:e9}(a it:ej):Turn P w K tg (Uq K a) [it] it (λi h=>h.IsTupleIter it a i) where
 mem:=by simp
 obj:=λi h st b O=>by
  have e:b=it:=by simpa using O
  subst e;obtain⟨o,e,c,d⟩:=st;exact⟨o,e,λv z=>by rw[d]at z;cases z⟩
 keep:=λi h h' st k=>st.at λo e=>k it ⋯ o e
 item:=by intro X hP hw hK hc i pins s σ H E I U st hg;subst hP hw hK;obtain⟨xs,x,Y,hx⟩:=hg;obtain⟨a3,rv,p,hz⟩:=I.tuple Y;obtain⟨u,hu,ru⟩:=rv.get hx;obtain⟨f0,f1,f2,f3,f4,f5⟩:=U it ⋯;refine wpAny_pyNext_tuple_item st (show s.heap.IsTuple a a3.toArray from p) (x:=u) (by simpa using hu) λh' ak sb=>?_;have I1:Inv X pins σ H {s with heap:=h'}:=I.turned (t':=s.toks) (λb o O e=>(sb.2 b O).trans e) f0 f1 f3 f4 f5;obtain⟨o,e,c,d⟩:=id ak;exact⟨u,rfl,Ak (s:={s with heap:=h'}) e c d ⋯ ⟨x,H,I1,ru,⟨rfl,λys hy=>by rw[I.h_ hy Y];exact hx⟩,ak,λb O=>(U b O).1⟩⟩
 done:=by intro X hP hw hK hc i pins s σ H E I U st hg;subst hP hw hK;obtain⟨xs,Y,hx⟩:=hg;obtain⟨a3,rv,p,hz⟩:=I.tuple Y;obtain⟨f0,f1,f2,f3,f4,f5⟩:=U it ⋯;have hl:=rv.length;exact wpAny_pyNext_tuple_end (I.ok.hd hc) st (show s.heap.IsTuple a a3.toArray from p) (by simp;omega) λh' eb=>⟨rfl,I.turned (t':=s.toks) (λb o O e=>eb b o O e) f0 f1 f3 f4 f5⟩
 self:=λ_ _ _ _ _ st h=>wpAny_pyIter_tupleiter st h
theorem bO{P:i6}{w:h9}{K:MC}{tg:e9}(it:ej)(lo:Int)(n:Nat):Turn P w K tg (C7 lo n) [it] it (λi h=>IsRangeIter h it (lo+(i:Nat)*1) ((n:Int) - (i:Nat)) 1) where
 mem:=by simp
 obj:=λi h st b O=>by
  have e:b=it:=by simpa using O
  subst e;exact⟨_,st,λv z=>by have z':Data.fields _=Data.cell v:=z;cases z'⟩
 keep:=λi h h' st k=>k it ⋯ _ st
 item:=by intro X Y hw hK hc i pins s σ H E I U st hg;subst Y hw hK;obtain⟨f0,f1,f2,f3,f4,f5⟩:=U it ⋯;have W:=Walks.range (prog:=X.prog) (w:=X.w) (I.ok.hd hc) it lo 1 n;refine W.item i s _ _ hg st λv h' tk hv a9 kk=>?_;obtain⟨t,rfl⟩:=hv;have I1:Inv X pins σ H {s with heap:=h',toks:=tk}:=I.turned (λb o O e=>kk b o (by simpa using O) e) f0 f1 f3 f4 f5;refine⟨_,rfl,Ak (s:={s with heap:=h',toks:=tk}) (n:="range_iterator") a9 rfl rfl ⋯ ⟨.int (lo+i),H,I1,⟨t,?_⟩,⟨rfl,rfl⟩,a9,λb O=>(U b O).1⟩⟩;rw[RV]
 done:=by intro X Y hw hK hc i pins s σ H E I U st hg;subst Y hw hK;obtain⟨f0,f1,f2,f3,f4,f5⟩:=U it ⋯;exact wpAny_pyNext_range_end (I.ok.hd hc) st (by have:n<=i:=hg;omega) λh' eb=>⟨rfl,I.turned (t':=s.toks) (λb o O e=>eb b o O e) f0 f1 f3 f4 f5⟩
 self:=λ_ _ _ _ _ st h=>wpAny_pyIter_rangeiter st h
section
variable{X:Cx}{tg:e9}
theorem aB{C:UQ}{J:St}{H:Hp}{s:eK}{R:It->Hp->Prop}{E:EQ}{lo hi:Int}{t u v:q7}{z:Nat}(I:Inv X C J H s)(L : -(2 ^ 62)<=lo)(S:lo<2 ^ 62)(U : -(2 ^ 62)<=hi)(Y:hi<2 ^ 62)
 (q:R (C7 lo (hi - lo).toNat) H):wpAny (fe X.prog X.w) X.A (M0 (.ref s.heap.objs.size)) (Us X C J tg R) E {s with heap:=s.heap.push {cls:= .type "range",data:= .fields #[.int lo t,.int hi u,.int 1 v]},toks:=z}:=by
 refine wpAny_pyIter_range (IsRange.new ..) (small_one L S U Y) ?_;have O:Inv X C J H {s with heap:=s.heap.push {cls:= .type "range",data:= .fields #[.int lo t,.int hi u,.int 1 v]},toks:=z}:=I.kept λb o e=>ME _ e;refine⟨(s.heap.push {cls:= .type "range",data:= .fields #[.int lo t,.int hi u,.int 1 v]}).objs.size,[(s.heap.push {cls:= .type "range",data:= .fields #[.int lo t,.int hi u,.int 1 v]}).objs.size],_,_,H,rfl,
  O.kept (t':=z) λb o e=>ME _ e,bO _ lo (hi - lo).toNat,?_,λb f=>?_,q⟩
 ·have a:lo+((0:Nat):Int)*1=lo:=by simp
  have d:(((hi - lo).toNat:Nat):Int) - ((0:Nat):Int)=Builtin.Range.rangeSize lo hi 1:=by rw[rangeSize_one];split<;>omega
  show IsRangeIter _ _ (lo+((0:Nat):Int)*1) ((((hi - lo).toNat:Nat):Int) - ((0:Nat):Int)) 1;rw[a,d];exact MV _ rfl
 ·have e:b=(s.heap.push {cls:= .type "range",data:= .fields #[.int lo t,.int hi u,.int 1 v]}).objs.size:=by simpa using f
  subst e;exact O.B4 (MM _)<|O.gj.fresh<|MM _
noncomputable def Hx(C:TA):TI:=λd H R=>C d H λb a=>∃j:Int,b=[.int j]/\ -(2 ^ 62)<=j/\j<2 ^ 62/\R (C7 0 j.toNat) a
noncomputable def Hw(C:TA):TI:=λd H R=>C d H λb a=>∃i j:Int,b=[.int i,.int j]/\(-(2 ^ 62)<=i/\i<2 ^ 62/\ -(2 ^ 62)<=j/\j<2 ^ 62)/\R (C7 i (j - i).toNat) a
theorem fY{a:e9}{C:TA}{p pos:hL}(O:Gl X "range")(L:X.mg "range" = ed)(J:PA X [a] C)(U:gu [a] X.env=[(eh,fh a X.env)]:=by rfl):PI X tg (.Call (.Name "range" p) [a] [] pos) (Hx C):=by
 intro b s k H R I h;refine DH<|yT I O L boot_range<|Ob (f6 (J pos b s k H _ I h) λn m Y=>?_) U rfl;obtain⟨o,l,d,g,z⟩:=Y;obtain⟨j,e,z,f,q⟩:=z;subst e;cases g with
 | cons r i=>
  cases i;obtain⟨t,rfl⟩:=r;exact call_range_1 (aB d ⋯ ⋯ z f<|by simpa using q)
theorem fX(Y:Gl X "range")(J:X.mg "range" = ed)(C:PA X [a,b] ta)(L:gu [a,b] X.env=[(eh,fh a X.env),(eh,fh b X.env)]:=by rfl)(U:gu [b] X.env=[(eh,fh b X.env)]:=by rfl) :
 PI X tg (.Call (.Name "range" p) [a,b] [] pos) (Hw ta):=by
 intro d s u H R I h;refine DH (yT I Y J boot_range<|Ob (f6 (C pos d s u H _ I h) λA x g=>?_) (by rw[L,U])<|by rw[U];rfl);obtain⟨B,w,f,o,z⟩:=g;obtain⟨i,j,e,⟨z,k,l,m⟩,q⟩:=z;subst e;cases o with
 | cons r O=>
  cases O with
  | cons n O=>
   cases O;obtain⟨t,rfl⟩:=r;obtain⟨y,rfl⟩:=n;exact call_range_2<|aB f z k l m q
noncomputable def LC(I:TI)(g:TG)(C:TS):TS:=λD a H=>I a H λJ f=>∃W:Nat->Nat->St->Hp->Prop,(∃m,W 0 m a f)/\∀i m a H,W i m a H->
 (J.stop i H/\D.nx a H)\/(J.go i H/\∃N:St->Hp->Prop,(∀d b,N d b->∃e,e<m/\W (i+1) e d b)/\∀x b,J.z4 i H x b->g x a b λz h=>C {D with nx:=N,ct:=N,bk:=D.nx} z h)
noncomputable def YW(fp:List ej)(h:gb):List (ej×m3):=fp.filterMap λb=>(h.get? b).map λo=>(b,o)
theorem vB(z:b∈fp)(e:h.get? b=dn o):(b,o)∈YW fp h:=List.mem_filterMap.mpr ⟨b,z,by rw[e];rfl⟩
theorem gG(z:p∈YW fp h):p.1∈fp/\h.get? p.1=dn p.2:=by
 obtain⟨b,I,e⟩:=List.mem_filterMap.mp z;cases q:h.get? b with
 | none=>rw[q]at e;cases e
 | some o=>
  rw[q]at e;have O:(b,o)=p:=ND e;subst O;exact⟨I,q⟩
theorem Inv.pinned(I:Inv X pins σ H s)(Y : ∀b∈fp,ZO X pins H b)(C : ∀b∈fp,∃o,s.heap.get? b=dn o/\∀v,o.data ≠ .cell v):Inv X (pins++YW fp s.heap) σ H s:=
 I.L7 λp f=>(OS.mp f).elim (λz=>I.pin p<|Nh _ z) λz=>by obtain⟨O,e⟩:=gG z;obtain⟨a,f1,f2,_⟩:=Y p.1 O;obtain⟨o,U,d⟩:=C p.1 O;rw[e]at U;cases U;exact⟨e,a,f1,f2,d⟩
theorem Inv.F8(I:Inv X (pins++pl) σ H s):Inv X pins σ H s:=I.L7 λp z=>I.pin p<|Nh _<|SO _ z
theorem rP(C:O2 (fe X.prog X.w) X.A X.env X.xe)(hc:X.calm=d7)(hi:PI X tg iter wi)(hg:PG X tg g)(z:q5 X body tb)
 (hs : ∀x,o8 iter X.env x=pure x:=by intro _;rfl):PS X (.For tg iter body [] pos) (LC wi g tb):=by
 intro a s σ H D I h;refine wpAny_For (f6 (hi a s σ H _ I h) λv s1 h1=>f6 h1 λc6 s2 h2=>?_) hs;obtain⟨it,y,tn,J,H2,e,I2,T,b6,f2,W,⟨m0,w0⟩,b9⟩:=h2;subst e;have K : ∀{l:Hp},(∀b∈y,l b=ed)->∀b∈y,ZO X a l b:=λhn b z=>⟨hn b z,(f2 b z).2⟩;refine codeAny_forLoop_any (λn s'=>∃i j l,Inv X a j l s'/\tn i s'.heap/\(∀b∈y,l b=ed)/\W i n j l) ?_ m0 ⟨0,σ,H2,I2,b6,λb z=>(f2 b z).1,w0⟩;rintro n s3 ⟨i,k,G,S,E,Z,w3⟩;rcases b9 i n k G w3 with⟨F,qn⟩ | ⟨go,N,hN,step⟩
 ·refine Sd C (f6 (T.done X rfl rfl rfl hc i a s3 k G X.xe S (K Z) E F) λr s4 t=>?_)
  obtain⟨M,I4⟩:=t;subst M;exact l_ ⟨k,G,I4,qn⟩
 ·refine Sd C (f6 (T.item X rfl rfl rfl hc i a s3 k G X.xe S (K Z) E go) λr s4 t=>?_)
  obtain⟨u,M,h4⟩:=t;subst M;refine Sd C<|f6 h4 λ_ s5 t=>?_;obtain⟨x,R,I5,r5,y5,L,bt⟩:=t;have bv:=I5.pinned (K bt)<|T.obj _ _ L;refine Sd C<|f6 (hg _ s5 k R x u _ bv r5<|step x R y5) λ_ s6 t=>?_;obtain⟨Q,H6,I6,q6⟩:=t;refine Sd C<|f6 (z _ s6 Q H6 _ I6 q6) λf P p=>?_;have again : ∀{O:St} {U:Hp},Inv X (a++YW y s5.heap) O U P->N O U->∃m,m<n/\∃i j l,Inv X a j l P/\tn i P.heap/\(∀b∈y,l b=ed)/\W i m j l:=λ{O U} Y B=>by obtain⟨m',hm,w7⟩:=hN O U B;refine⟨m',hm,i+1,O,U,Y.F8,T.keep _ _ _ L λb z o e=>(Y.pin (b,o)<|Nh _<|Nh _<|vB z e).1,λb z=>?_,w7⟩;obtain⟨o,e,d⟩:=T.obj _ _ L b z;exact(Y.pin (b,o)<|Nh _<|Nh _<|vB z e).2.1
  cases f with
  | next=>obtain⟨O,U,Y,B⟩:=p;exact again Y B
  | cont=>obtain⟨O,U,Y,B⟩:=p;exact again Y B
  | brk=>obtain⟨O,U,Y,p⟩:=p;exact⟨O,U,Y.F8,p⟩
  | ret v=>obtain⟨x7,O,U,Y,r7,p⟩:=p;exact⟨x7,O,U,Y.F8,r7,p⟩
end
theorem Vt{lo:Int}{n:Nat}{g:TG}{Z:TS}{D:Ends}{C:St}{H:Hp}(z:Nat->St->Hp->Prop)(U:z 0 C H)
 (Y : ∀i C H,i<n->z i C H->g (.int<|lo+i) C H λI L=>Z {D with nx:=z<|i+1,ct:=z<|i+1,bk:=D.nx} I L) (hd : ∀C H,z n C H->D.nx C H) :
 ∃W:Nat->Nat->St->Hp->Prop,(∃m,W 0 m C H)/\∀i m C H,W i m C H->
  ((C7 lo n).stop i H/\D.nx C H)\/((C7 lo n).go i H/\∃N:St->Hp->Prop,(∀J H',N J H'->∃S,S<m/\W (i+1) S J H')/\∀x H',(C7 lo n).z4 i H x H'->g x C H' λI L=>Z {D with nx:=N,ct:=N,bk:=D.nx} I L):=by
 refine⟨λi m C H=>m=n - i/\i<=n/\z i C H,⟨n,by simp,NY _,U⟩,?_⟩;rintro i m C H ⟨rfl,b,p⟩;by_cases O:i<n
 ·refine .inr ⟨O,z<|i+1,λJ H' a=>⟨n - (i+1),by omega,rfl,O,a⟩,λx H' y=>?_⟩
  obtain⟨e,y⟩:=y;subst e y;exact Y i C _ O p
 ·have e:i=n:=by omega
  subst e;exact .inl ⟨MM _,hd C H p⟩
abbrev R2:=V->V->Hp->VK->Prop
noncomputable def i9(X:Cx)(f:el->el->Sem el)(r:R2):Prop:=
 ∀(a:UQ) (s:eK) (b:St) (H:Hp) (x y:V) (v u:el) (Q:VK),Inv X a b H s->RelV x v->RelV y u->r x y H Q->
  wpAny (fe X.prog X.w) X.A (f v u) (EP X a b Q) X.xe s
noncomputable def O5(X:Cx)(f:el->Sem el)(r:V->Hp->VK->Prop):Prop:=
 ∀(a:UQ) (s:eK) (b:St) (H:Hp) (x:V) (v:el) (Q:VK),Inv X a b H s->RelV x v->r x H Q->
  wpAny (fe X.prog X.w) X.A (f v) (EP X a b Q) X.xe s
noncomputable def Ja(X:Cx)(f:el)(r:List V->Hp->VK->Prop):Prop:=
 ∀(a:UQ) (s:eK) (e:St) (H:Hp) (d:List V) (b:List el) (Q:VK),Inv X a e H s->f9 d b->r d H Q->
  wpAny (fe X.prog X.w) X.A (call f b) (EP X a e Q) X.xe s
noncomputable def Mk(X:Cx)(r:V->Hp->(Bool->Hp->Prop)->Prop):Prop:=
 ∀(a:UQ) (s:eK) (b:St) (H:Hp) (x:V) (v:el) (Q:Bool->Hp->Prop),Inv X a b H s->RelV x v->r x H Q->
  wpAny (fe X.prog X.w) X.A (F6 v) (TP X a b Q) X.xe s
def F4(r:R2)(C I:TE):TE:=λa H Q=>C a H λx b=>I a b λy d=>r x y d Q
def _e(r:V->Hp->VK->Prop)(C:TE):TE:=λb H Q=>C b H λx a=>r x a Q
noncomputable def rI(C:Int->Int->Prop)(g:Int->Int->V):R2:=λx y H Q=>∃i j,x = .int i/\y = .int j/\C i j/\Q (g i j) H
def tf(g:Int->Int->V):R2:=λx y H Q=>∃i j,x = .int i/\y = .int j/\Q (g i j) H
def rU(g:Int->V):V->Hp->VK->Prop:=λx H Q=>∃i,x = .int i/\Q (g i) H
section
variable{X:Cx}{a b c:e9}{ta tb tc:TE}{pos:hL}
theorem HN(ha:PE X a ta)(O:PE X b tb){C:UQ}{s:eK}{L:St}{H:Hp}{R:V->V->Hp->Prop}(I:Inv X C L H s)
 (h:ta L H λx H1=>tb L H1 λy J=>R x y J) {Q:EQ} {f:el->el->Sem el}
 (U : ∀v u Z x y J,Inv X C L J Z->RelV x v->RelV y u->R x y J->wpAny (fe X.prog X.w) X.A (f v u) Q X.xe Z) :
 wpAny (fe X.prog X.w) X.A (fh a X.env) (λv Y=>wpAny (fe X.prog X.w) X.A (fh b X.env) (λu S=>wpAny (fe X.prog X.w) X.A (f v u) Q X.xe S) X.xe Y) X.xe s:=by
 refine f6 (ha C s L H _ I h) λv l z=>?_;obtain⟨x,H1,d,j,g⟩:=z;refine f6 (O C l L H1 _ d g) λu Z z=>?_;obtain⟨y,J,e,k,i⟩:=z;exact U v u Z x y J e j k i
theorem uE{z:Operator}{r:R2}(O:i9 X (t7 z) r)(C:PE X a ta)(U:PE X b tb):PE X (.BinOp a z b pos) (F4 r ta tb):=by intro d s j H Q I h;exact wpAny_BinOp<|HN C U I h λv u i x y e Y f g q=>O d i j e x y v u Q Y f g q
theorem Hb(z:O5 X (unaryOp op) r)(C:PE X a ta):PE X (.UnaryOp op a pos) (_e r ta):=by intro b s d H Q I h;exact UnaryOp_<|f6 (C b s d H _ I h) λv f ⟨x,e,O,U,Y⟩=>z b f d e x v Q O U Y
theorem L6{f:el->el->Sem el}{C:Int->Int->Prop}{g:Int->Int->Int}
 (rule : ∀(i j:Int) (t u:q7) (s:eK) (Q:EQ) (E:EQ),C i j->Q (.int (g i j) s.toks) {s with toks:=s.toks+1}->wpAny (fe X.prog X.w) X.A (f (.int i t)<|.int j u) Q E s) :
 i9 X f (rI C λi j=> .int (g i j)):=by
 intro a s d H x y v u Q I z O h;obtain⟨i,j,rfl,rfl,U,q⟩:=h;obtain⟨t,rfl⟩:=z;obtain⟨b,rfl⟩:=O;exact rule i j t b s _ _ U ⟨.int<|g i j,H,I.tok _,⟨_,rfl⟩,q⟩
theorem IQ{f:el->el->Sem el}{g:Int->Int->Int}
 (rule : ∀(i j:Int) (t u:q7) (s:eK) (Q:EQ) (E:EQ),Q (.int (g i j) s.toks) {s with toks:=s.toks+1}->wpAny (fe X.prog X.w) X.A (f (.int i t)<|.int j u) Q E s) :
 i9 X f (tf λi j=> .int (g i j)):=by
 intro a s d H x y v u Q I z O h;obtain⟨i,j,rfl,rfl,q⟩:=h;obtain⟨t,rfl⟩:=z;obtain⟨b,rfl⟩:=O;exact rule i j t b s _ _ ⟨.int<|g i j,H,I.tok _,⟨_,rfl⟩,q⟩
theorem Hd{f:el->el->Sem el}{g:Int->Int->Bool}
 (rule : ∀(i j:Int) (t u:q7) (s:eK) (Q:EQ) (E:EQ),Q (.bool<|g i j) s->wpAny (fe X.prog X.w) X.A (f (.int i t)<|.int j u) Q E s) :
 i9 X f (tf λi j=> .bl (g i j)):=by
 intro a s d H x y v u Q I z O h;obtain⟨i,j,rfl,rfl,q⟩:=h;obtain⟨t,rfl⟩:=z;obtain⟨b,rfl⟩:=O;exact rule i j t b s _ _ ⟨.bl<|g i j,H,I,rfl,q⟩
def Lu(i j:Int):Prop:=0<j/\j<1073741824
def Ls(i j:Int):Prop:=0<=j/\j<=1000000/\i.natAbs<2 ^ 64
def DG(i j:Int):Prop:=(-(2 ^ 64)<i/\i<2 ^ 64)\/(-(2 ^ 64)<j/\j<2 ^ 64)
theorem DG.ok(h:DG i j):IntMulOk i j:=by
 rcases h with⟨a,b⟩ | ⟨a,b⟩
 ·exact .of_left<|intBits_le_64 a b
 ·exact .of_right<|intBits_le_64 a b
theorem V_:i9 X (t7 .Add) (tf λi j=> .int (i+j)):=IQ λ_ _ _ _ _ _ _ q=>add_int q
theorem Ea:i9 X (t7 .Sub) (tf λi j=> .int (i - j)):=IQ λ_ _ _ _ _ _ _ q=>sub_int q
theorem W_:i9 X (t7 .Mult) (rI DG λi j=> .int (i*j)):=L6 λ_ _ _ _ _ _ _ z q=>mul_int q z.ok
theorem uK:i9 X (t7 .FloorDiv) (rI Lu λi j=> .int (i/j)):=L6 λi j _ _ _ _ _ z q=>by have a:(0:Int)<j:=z.1;have b:j<1073741824:=z.2;exact floordiv_int ⋯ (by rw[Int.fdiv_eq_ediv_of_nonneg i ⋯];exact q)<|.inl<|PyProof.noPylong_small ⋯
theorem Ee:i9 X (t7 .Mod) (rI (λ_ j=>0<j) λi j=> .int (i%j)):=L6 λi j _ _ _ _ _ z q=>by have a:(0:Int)<j:=z;exact mod_int' ⋯ (by rw[Int.fmod_eq_emod_of_nonneg i ⋯];exact q)
theorem Ec:i9 X (t7 .Pow) (rI Ls λi j=> .int (i ^ j.toNat)):=L6 λ_ _ _ _ _ _ _ z q=>pow_int_small z.1 z.2.1 z.2.2 q
theorem _h{f:el->Sem el}{g:Int->Int}
 (rule : ∀(i:Int) (t:q7) (s:eK) (Q:EQ) (E:EQ),Q (.int (g i) s.toks) {s with toks:=s.toks+1}->wpAny (fe X.prog X.w) X.A (f<|.int i t) Q E s) :
 O5 X f (rU λi=> .int (g i)):=by
 intro a s b H x v Q I z h;obtain⟨i,rfl,q⟩:=h;obtain⟨t,rfl⟩:=z;exact rule i t s _ _ ⟨.int<|g i,H,I.tok _,⟨_,rfl⟩,q⟩
theorem Bm:O5 X (unaryOp .USub) (rU λi=> .int (-i)):=_h λ_ _ _ _ _ q=>neg_int q
end
section
variable{X:Cx}{a b c:e9}{ta tb tc:TE}{pos:hL}
theorem EK(I:Inv X pins σ H s)(q:Q (.bl k) H)(e:k=k'):EP X pins σ Q (.bool k') s:=by subst e;exact⟨.bl k,H,I,rfl,q⟩
theorem uJ:i9 X (oe .Lt) (tf λi j=> .bl (decide<|i<j)):=Hd λ_ _ _ _ _ _ _ q=>lt_int q
theorem cJ:i9 X (oe .LtE) (tf λi j=> .bl (decide<|i<=j)):=Hd λ_ _ _ _ _ _ _ q=>le_int q
theorem Eg:i9 X (oe .Gt) (tf λi j=> .bl (decide<|j<i)):=Hd λ_ _ _ _ _ _ _ q=>gt_int q
theorem Ef:i9 X (oe .Is) (λx y H Q=>y = .ft/\Q (.bl<|decide<|x = .ft) H):=by
 intro a s b H x y v u Q I z O h;obtain⟨rfl,q⟩:=h;cases O;refine is_none_gen<|EK I q ?_;cases x<;>first
  | (cases z;rfl)
  | (obtain⟨t,rfl⟩:=z;rfl)
theorem i9.or(h:i9 X f r)(h':i9 X f r'):i9 X f (λx y H Q=>r x y H Q\/r' x y H Q):=by
 intro a s b H x y v u Q I z O q;rcases q with q | q
 ·exact h a s b H x y v u Q I z O q
 ·exact h' a s b H x y v u Q I z O q
theorem wL(b:e9)(h:op ≠ .In:=by decide)(C:op ≠ .NotIn:=by decide):u4 op b=eh:=by
 have a:(op==CmpOp.In)=eh:=by cases op<;>first | rfl | exact absurd rfl h
 have z:(op==CmpOp.NotIn)=eh:=by cases op<;>first | rfl | exact absurd rfl C
 cases b<;>simp[u4,a,z]
theorem gh{z:CmpOp}{r:R2}(O:i9 X (oe z) r)(C:PE X a ta)(U:PE X b tb)(J:u4 z b=eh):PE X (.Compare a [z] [b] pos) (F4 r ta tb):=by intro d s j H Q I h;exact wpAny_Compare1 (HN C U I h λv u i x y e Y f g q=>O d i j e x y v u Q Y f g q) J
def Bu(t:TE):TT:=λb H Q=>t b H λx a=>∃k,x = .bl k/\Q k a
theorem fO(O:i9 X (oe op) r)(C:PE X a ta)(U:PE X b tb)(J:u4 op b=eh):PT X (.Compare a [op] [b] pos) (Bu<|F4 r ta tb):=by
 intro d s f H Q I h;refine _k (f6 (C d s f H _ I h) λv B ⟨x,g,Y,t,n⟩=>f6 (U d B f g _ Y n) λu E ⟨y,i,l,w,o⟩=>
  f6 (O d E f i x y v u _ l t w o) λc F ⟨z,j,m,A,k,e,p⟩=>?_) J
 subst e;cases A;exact OA ⟨j,m,p⟩
noncomputable def rF(r C:R2)(ta tb tc:TE):TE:=λa H Q=>ta a H λx b=>tb a b λy d=>r x y d λz I=>∃k,z = .bl k/\
 (if k=d7 then tc a I λe O=>C y e O Q else Q (.bl eh) I)
theorem nZ(ho:i9 X (oe op) r)(C:i9 X (oe FG) r')(J:PE X a ta)(L:PE X b tb)(S:PE X c tc)
 (Z:Se [op,FG] [b,c]=eh:=by with_unfolding_all rfl):PE X (.Compare a [op,FG] [b,c] pos) (rF r r' ta tb tc):=by
 intro f s g H Q I h;refine Compare_chain (f6 (J f s g H _ I h) λv G ⟨x,j,n,B,t⟩=>chain_link (f6 (L f G g j _ n t) λu K ⟨y,l,o,i,w⟩=>
  f6 (ho f K g l x y v u _ o B i w) λd M ⟨z,O,U,E,k,e,Y⟩=>?_)) Z
 subst e;cases E;refine OA ?_;cases k with
 | false=>exact ite_ff ⟨.bl eh,O,U,rfl,Y⟩
 | true=>exact ite_tt<|chain_last<|f6 (S f M g O _ U Y) λP N ⟨R,m,p,F,A⟩=>C f N g m y R u P Q p i F A
theorem nM{O U:CmpOp}{r C:R2}(ho:i9 X (oe O) r)(J:i9 X (oe U) C)(L:PE X a ta)(S:PE X b tb)(Z:PE X c tc)
 (hm:Se [O,U] [b,c]=eh:=by with_unfolding_all rfl):PT X (.Compare a [O,U] [b,c] pos) (Bu<|rF r C ta tb tc):=by
 intro f s g H Q I h;refine isTrue_chain (f6 (L f s g H _ I h) λv s1 ⟨x,m,t,R,K⟩=>test_link (f6 (S f s1 g m _ t K) λu s2 ⟨y,n,w,l,M⟩=>
  f6 (ho f s2 g n x y v u _ w R l M) λd s3 ⟨z,Y,i,T,k,e,j⟩=>?_)) hm
 subst e;cases T;refine OA ?_;cases k with
 | false=>
  obtain⟨k',E,G⟩:=j;cases E;exact ite_ff ⟨Y,i,G⟩
 | true=>
  refine ite_tt<|test_last<|f6 (Z f s3 g Y _ i j) λw' s4 ⟨z',o,A,W,N⟩=>f6 (J f s4 g o y z' u w' _ A l W N) λd' s5 ⟨z2,p,B,r5,k2,F,P⟩=>?_;subst F;cases r5;exact OA ⟨p,B,P⟩
noncomputable def Lo(K:MC)(x:V)(H:Hp)(k:Bool):Prop:=
 match x with
 | .ft=>k=eh
 | .bl b=>k=b
 | .int i=>k=(i != 0)
 | .str y=>y.length<=gm/\k=((y.length:Int) != 0)
 | .En y=>y.size<=gm/\k=((y.size:Int) != 0)
 | .ref p=>(∃d,gv K H p d/\k = !d.isEmpty)\/(∃d,hB K H p d/\k = !d.isEmpty)\/∃a,H p=dn (.dK a)/\k = !a.isEmpty
 | _=>False
theorem cY(r:KV l7 vs):(!vs.isEmpty) = !l7.isEmpty:=by cases r<;>rfl
theorem X5(r:f9 xs O_):(!O_.toArray.isEmpty) = !xs.isEmpty:=by cases r<;>simp
theorem QA:(gm:Nat)<2 ^ 63:=by rw[PU];decide
theorem Bq:Mk X (λx H Q=>∃k,Lo X.K x H k/\Q k H):=by
 intro l s C H x v Q I O h;obtain⟨k,e,q⟩:=h;have A:=QA;have B:gm=16777216:=PU;cases x with
 | ft=>
  cases O;have z:k=eh:=e;subst z;exact truthy_none ⟨H,I,q⟩
 | bl b=>
  cases O;have z:k=b:=e;subst z;exact OA ⟨H,I,q⟩
 | int i=>
  obtain⟨t,rfl⟩:=O;have z:k=(i != 0):=e;subst z;exact PySem.P.truthy_int ⟨H,I,q⟩
 | str y=>
  obtain⟨t,rfl⟩:=O;obtain⟨u,z⟩:y.length<=gm/\k=((y.length:Int) != 0):=e;subst z;exact PySem.P.truthy_str ⋯ ⟨H,I.tok _,q⟩
 | En y=>
  obtain⟨t,rfl⟩:=O;obtain⟨u,z⟩:y.size<=gm/\k=((y.size:Int) != 0):=e;subst z;exact PySem.W.truthy_bytes ⋯ ⟨H,I.tok _,q⟩
 | ref p=>
  cases O;have z:(∃d,gv X.K H p d/\k = !d.isEmpty)\/(∃d,hB X.K H p d/\k = !d.isEmpty)\/∃a,H p=dn (.dK a)/\k = !a.isEmpty:=e;rcases z with⟨d,f,z⟩ | ⟨d,f,z⟩ | ⟨a,f,z⟩
  ·subst z
   obtain⟨n,r,U,Y⟩:=I.list f;have j:=r.length;exact wpAny_truthy_list U.isList (by simp only[MR];omega) ⟨H,I.tok _,by rw[X5 r];exact q⟩
  ·subst z
   obtain⟨n,r,U,Y⟩:=I.tuple f;have j:=r.length;exact truthy_tuple U (by simp only[MR];omega) ⟨H,I.tok _,by rw[X5 r];exact q⟩
  ·subst z
   obtain⟨Y,o,g,r,m⟩:a.length<=gm/\(p==C3)=eh/\∃g,KV a g/\s.heap.DictOf (xJ X.prog X.w) p g:=I.gj p _ f;have j:a.length=g.length:=Paired.length r;exact wpAny_truthy_dict o m ⋯ ⟨H,I.tok _,by rw[cY r];exact q⟩
 | _=>exact(show False from e).elim
theorem nL(J:PE X a ta)(O : ∀z,Dz a X.env z=(do let v <- z;DC a.pos;sy [v] (F6 v))) :
 PT X a (λC H Q=>ta C H λx H'=>∃k,Lo X.K x H' k/\Q k H'):=by
 intro b s C H Q I h;exact isTrue_plain (f6 (J b s C H _ I h) λv f ⟨x,d,U,Y,e⟩=>Bq b f C d x v Q U Y e)<|O _
theorem vJ(r:f9 [x] us) : ∃u,us=[u]/\RelV x u:=by
 cases r with
 | cons z a=>cases a;exact⟨_,rfl,z⟩
theorem sH(r:f9 [x,y] us) : ∃u w',us=[u,w']/\RelV x u/\RelV y w':=by
 cases r with
 | cons z a=>
  cases a with
  | cons I O=>cases O;exact⟨_,_,rfl,z,I⟩
theorem lD(O:X.calm=d7):Ja X (.builtin "max") (λxs H Q=>∃i j,xs=[.int i,.int j]/\Q (.int (if j>i then j else i)) H):=by
 intro a s g H xs e Q I r h;obtain⟨i,j,rfl,q⟩:=h;obtain⟨u,f,rfl,⟨t,rfl⟩,⟨d,rfl⟩⟩:=sH r;refine max_two_ints (I.ok.hd O) λb U k=>⟨_,H,I.kept k,?_,q⟩;by_cases z:j>i
 ·rw[UJ z,UJ z];exact⟨_,rfl⟩
 ·rw[UY z,UY z];exact⟨_,rfl⟩
theorem lB(O:X.calm=d7):Ja X (.builtin "min") (λxs H Q=>∃i j,xs=[.int i,.int j]/\Q (.int (if j<i then j else i)) H):=by
 intro a s g H xs e Q I r h;obtain⟨i,j,rfl,q⟩:=h;obtain⟨u,f,rfl,⟨t,rfl⟩,⟨d,rfl⟩⟩:=sH r;refine min_two_ints (I.ok.hd O) λb U k=>⟨_,H,I.kept k,?_,q⟩;by_cases z:j<i
 ·rw[UJ z,UJ z];exact⟨_,rfl⟩
 ·rw[UY z,UY z];exact⟨_,rfl⟩
theorem lE:Ja X (.type "int") (λxs H Q=>(∃i,xs=[.int i]/\Q (.int i) H)\/∃k,xs=[.bl k]/\Q (.int (if k then 1 else 0)) H):=by
 intro a s d H xs b Q I r h;rcases h with⟨i,rfl,q⟩ | ⟨k,rfl,q⟩
 ·obtain⟨u,rfl,t,rfl⟩:=vJ r
  exact call_int_int ⟨.int i,H,I,⟨_,rfl⟩,q⟩
 ·obtain⟨u,rfl,z⟩:=vJ r
  cases z;exact call_int_bool ⟨.int<|if k then 1 else 0,H,I.tok _,⟨_,rfl⟩,q⟩
end
structure O1(h:gb)(x dx C:ej)(mA:UZ):Prop where
 obj:h.get? x=dn (PySem.W.instObj C dx)
 ns:h.Ns1 dx mA
 ne:dx≠x
theorem gQ{h:gb}{C:ej}{J:UZ}(n:h.Ns1 C J) : ∃L,h.get? C=dn L/\∀name,PySem.W.lookIn name L=dn (J name):=by
 obtain⟨o,b,i,I,f,O,_,g⟩:=n;refine⟨o,I,λname=>?_⟩;have e:=g name;unfold nsFind findBy at e;rw[<- Array.find?_toList]at e;unfold PySem.W.lookIn;rw[f];dsimp only;split
 ·rename_i y q
  rw[q]at e;exact congrArg dn e
 ·rename_i q
  rw[q]at e;have a:b.toList.any (·.refKey)=eh:=by rw[Tt];intro y U;obtain⟨z,t,Y⟩:=O y<|Array.mem_toList_iff.mp U;simp[DictEntry.refKey,Y]
  have d : ¬b.toList.any (·.refKey)=d7:=by rw[a];exact Nq
  rw[UY d];exact congrArg dn e
theorem O1.look(I:O1 h x dx C mA) : ∃J,PySem.W.InstAt h x (PySem.W.instObj C dx) C (dn J)/\∀name,PySem.W.lookIn name J=dn (mA name):=
 let ⟨J,z,O⟩:=gQ I.ns
 ⟨J,⟨I.obj,rfl,rfl,z⟩,O⟩
theorem u0.some_of(r:u0 (dn v) o) : ∃u,o=dn u/\RelV v u:=by
 cases o with
 | none=>exact(show False from r).elim
 | some u=>exact⟨u,rfl,r⟩
section
variable{P:i6}{w:h9}{H H':Hp}{h h':gb}{a C dx:ej}{fs L_:List (Str×V)}
theorem Ae(J:l5 P w H h)(e:H a=dn (.ins C dx fs)) : ∃mA,O1 h a dx C mA/\(∀f,u0 (fs.lookup f)<|mA f)/\PySem.Within mA (fs.map (·.1))/\fs.length<=1000/\H dx=dn (.own a):=by obtain⟨d,z,b,I,mA,n,r,q⟩:=(show lN P w H h a (.ins C dx fs)from J a _ e);exact⟨mA,⟨I,n,b⟩,r,q,z,d⟩
end
structure N8(K:MC)(C:ej):Prop where
 pg:PySem.W.plainGet K C Str.empty=d7
 hd:PySem.W.hasDictIn K C=d7
 po:PySem.W.plainOver K C=d7
 sa:RT K (.ref C) "__setattr__" = dn (dn (.builtin "object.__setattr__"))
theorem N8.get{K:MC}{C:ej}(c:N8 K C)(f:Str):PySem.W.plainGet K C f=d7:=c.pg
section
variable{X:Cx}{pins:UQ}{σ:St}{H:Hp}{s:eK}{A:mu}{E:EQ}{Q:EQ}{c:el}{b:Bool}
inductive t5(K:MC)(H:Hp):V->el->Prop where
 | ft:t5 K H .ft (.type "NoneType")
 | bl (x:Bool):t5 K H (.bl x) (.type "bool")
 | int (i:Int):t5 K H (.int i) (.type "int")
 | str (x:Str):t5 K H (.str x) (.type "str")
 | DS (x:UInt64):t5 K H (.DS x) (.type "float")
 | lst {a:ej} {xs:List V} (e:H a=dn (.lst xs)):t5 K H (.ref a) (.type "list")
 | sm {a:ej} {o:m3} {xs:List V} (e:H a=dn (.sm o (.lst xs))):t5 K H (.ref a) (.type "list")
 | tup {a:ej} {xs:List V} (e:H a=dn (.tup xs)):t5 K H (.ref a) (.type "tuple")
 | dK {a:ej} {l7:List (Key×V)} (e:H a=dn (.dK l7)):t5 K H (.ref a) (.type "dict")
 | dT {a:ej} {l7:List (List Key×V)} (e:H a=dn (.dT l7)):t5 K H (.ref a) (.type "dict")
 | ins {a C dx:ej} {fs:List (Str×V)} (e:H a=dn (.ins C dx fs)) (cl:N8 K C) (ha:RT K (.ref C) "__class__" = dn (dn (.builtin "object.__class__")))
  (hn:PySem.W.specialIn K (.builtin "object.__class__") "__get__" = dn (dn (.builtin "getset_descriptor.__get__"))) (_s:PySem.W.takesIn K (.builtin "object.__class__")=dn d7)
  (hm:PySem.W.mroIn K C (.type "object")=dn d7):t5 K H (.ref a) (.ref C)
theorem ic(I:Inv X pins σ H s)(U:RelV x u)(ty:t5 X.K H x t)(e:PM X.K t c=dn b)(h : ∀S,Q (.bool b) {s with toks:=S}) :
 wpAny (fe X.prog X.w) A (call (.builtin "isinstance") [u,c]) Q E s:=by
 cases ty with
 | ft=>cases (show u=NH from U);exact NM PySem.W.kitx_none I.m6 Pu e (λz=>nomatch z) h
 | bl y=>cases (show u=Value.bool y from U);exact NM PySem.W.kitx_bool I.m6 Pu e (λz=>nomatch z) h
 | int i=>obtain⟨t,q⟩:=(show ∃t,u=Tb i t from U);cases q;exact NM PySem.W.kitx_int I.m6 Pu e (λz=>nomatch z) h
 | str y=>obtain⟨t,q⟩:=(show ∃t,u=Ta y t from U);cases q;exact NM PySem.W.kitx_str I.m6 Pu e (λz=>nomatch z) h
 | DS y=>obtain⟨t,q⟩:=(show ∃t,u=Value.float y t from U);cases q;exact NM PySem.W.kitx_float I.m6 Pu e (λz=>nomatch z) h
 | @lst a g Y=>
  cases (show u=Oy a from U);obtain⟨_,_,n,_,d⟩:=(show lN X.prog X.w H s.heap a (.lst g)from I.gj a _ Y);exact NM Td I.m6 ⟨_,d,rfl⟩ e (λz=>nomatch z) h
 | @sm a L g Y=>
  cases (show u=Oy a from U);obtain⟨_,_,_,n,_,d⟩:=(show lN X.prog X.w H s.heap a (.sm L<|.lst g)from I.gj a _ Y);exact NM Td I.m6 ⟨_,d,rfl⟩ e (λz=>nomatch z) h
 | @tup a g Y=>
  cases (show u=Oy a from U);obtain⟨_,_,_,p⟩:=(show lN X.prog X.w H s.heap a (.tup g)from I.gj a _ Y);obtain⟨o,d,j,_⟩:=p;exact NM PySem.W.kitx_tuple I.m6 ⟨o,d,(Prod.mk.inj j).1⟩ e (λz=>nomatch z) h
 | @dK a f Y=>
  cases (show u=Oy a from U);obtain⟨_,_,R,_,p⟩:=(show lN X.prog X.w H s.heap a (.dK f)from I.gj a _ Y);obtain⟨o,r,m,d,j,_⟩:=p;exact NM Te I.m6 ⟨o,d,j.1⟩ e (λz=>nomatch z) h
 | @dT a f Y=>
  cases (show u=Oy a from U);obtain⟨_,_,g,_,o,r,m,d,j,_⟩:=(show lN X.prog X.w H s.heap a (.dT f)from I.gj a _ Y);exact NM Te I.m6 ⟨o,d,j.1⟩ e (λz=>nomatch z) h
 | @ins a C M fs Y l B G k F=>
  cases (show u=Oy a from U);obtain⟨N,O,_⟩:=Ae I.gj Y;obtain⟨P,J,_⟩:=O.look;exact NM (PySem.W.kitx_own (l.get _) l.hd B G k F) I.m6 J e (λz=>nomatch z) h
end
structure m8(k:Nat)(A:mu):Prop where
 hd:A.handled=ed
 dp:A.depth+3*k+5<recursionLimit
 un:A.units+16*k+200<Dw
theorem m8.mono(r:m8 k A)(h:j<=k):m8 j A:=⟨r.hd,by have:=r.dp;omega,by have:=r.un;omega⟩
theorem m8.deeper(r:m8 (k+1) A)(env:n6):m8 k (A.deeper env):=
 ⟨r.hd,by have:=r.dp;show A.depth+1+3*k+5<_;omega,by have:=r.un;show A.units+3+16*k+200<_;omega⟩
theorem m8.in1(r:m8 (k+1) A):m8 k A.in1:=
 ⟨r.hd,by have:=r.dp;show A.depth+3*k+5<_;omega,by have:=r.un;show A.units+1+16*k+200<_;omega⟩
theorem m8.depth(r:m8 k A):A.depth<recursionLimit:=by have:=r.dp;omega
def IE:TA:=λ_ H Q=>Q [] H
def Bw(C:TE)(z:TA):TA:=λa H Q=>C a H λx b=>z a b λe d=>Q (x::e) d
section
variable{X:Cx}{e:e9}{es:List e9}{te:TE}{t:TA}{pos:hL}
theorem xj:PA X [] IE:=λ_ _ _ _ H Q I h=>Tq ⟨[],H,I,.nil,h⟩
theorem jT(C:PE X e te)(z:PA X es t)(O:gu (e::es) X.env=(eh,fh e X.env)::gu es X.env:=by rfl):PA X (e::es) (Bw te t):=by intro pos a s b H Q I h;rw[O];show wpAny _ _ (M3 ((eh,fh e X.env)::su pos (gu es X.env))) _ _ s;refine RW<|f6 (C a s b H _ I h) λu m U=>?_;obtain⟨x,d,Y,k,i⟩:=U;exact f6 (z pos a m b d _ Y i) λp o ⟨n,f,g,l,j⟩=>⟨x::n,f,g,.cons k l,j⟩
noncomputable def Lw(t:TA):TE:=λd H Q=>t d H λb a=>b.length<=gm/\∀p,a p=ed->Q (.ref p) (upd a p<|.tup b)
noncomputable def LA(t:TA):TE:=λd H Q=>t d H λb a=>b.length<=gm/\∀p,a p=ed->Q (.ref p) (upd a p<|.lst b)
theorem CI(h:PA X es t):PE X (.Tuple es x1 pos) (Lw t):=by intro a s j H Q I U;refine wpAny_Tuple_spliced<|f6 (h pos a s j H _ I U) λg d ⟨i,f,O,r,z,q⟩=>⟨by rw[<- r.length];exact z,?_⟩;have Y:f d.heap.objs.size=ed:=O.gj.fresh<|MM _;refine⟨.ref d.heap.objs.size,upd f d.heap.objs.size<|.tup i,O.laid (t':=d.toks) (λb u e=>ME _ e) (MM _) ?_,rfl,q _ Y⟩;exact⟨z,g,r,⟨_,MV _ rfl,rfl,_,rfl⟩⟩
theorem CP(h:PA X es t):PE X (.List es pos) (LA t):=by intro a s j H Q I U;refine wpAny_List_spliced<|f6 (h pos a s j H _ I U) λg d ⟨i,f,O,r,z,q⟩=>⟨by rw[<- r.length];exact z,?_⟩;have Y:f d.heap.objs.size=ed:=O.gj.fresh<|MM _;refine⟨.ref d.heap.objs.size,upd f d.heap.objs.size<|.lst i,O.laid (t':=d.toks) (λb u e=>ME _ e) (MM _) ?_,rfl,q _ Y⟩;exact⟨z,g,0,r,MV _ rfl⟩
end
abbrev Sp:=List V->Hp->VK->XK->Prop
abbrev tw:=List n6->Hp->eK->XK->el->eK->Prop
structure A4(P:i6)(w:h9)(K:MC)(mg:UZ)(base:gb)(A:mu)(outer:List n6)(s:eK)(H:Hp):Prop where
 frames:A.frames=dn outer
 mod:Mod K mg base
 bs : ∀b o,base.get? b=dn o->s.heap.get? b=dn o/\H b=ed
 xc:base.objs.size<=s.heap.objs.size
 sx:s.heap.FunFrames base outer
 De : ∀b∈u6 outer,H b=ed
 gj:l5 P w H s.heap
 bare:C6 s.gens
noncomputable def CE(outer:List n6)(P:i6)(w:h9)(H:Hp)(s:eK)(Q:VK)(u:el)(C:eK):Prop:=
 ∃v a,C.os=s.os/\C6 C.gens/\Un (u6 outer) [] H a s.heap C.heap/\l5 P w a C.heap/\RelV v u/\Q v a
noncomputable def CR(CX:tw)(outer:List n6)(P:i6)(w:h9)(H:Hp)(s:eK)(Q:VK)(E:XK)(r:Result)(C:eK):Prop:=
 match r with
 | .ok (.ret u)=>CE outer P w H s Q u C
 | .ok _=>False
 | .error e=>CX outer H s E e C
structure p6(P:i6)(w:h9)(K:MC)(mg:UZ)(base:gb)(CX:tw)(k:Nat)(f:ej)(fd:p8)(ps:List Str)(sp:Sp):Prop where
 len : ∀vs H Q E,sp vs H Q E->vs.length=ps.length
 run : ∀(A:mu) (outer:List n6) (s:eK) (H:Hp) (args:Args) (us:List el) (vs:List V) (Q:VK) (E:XK),m8 k A->A4 P w K mg base A outer s H->Gx s fd args (ps.zip us)->f9 vs us->sp vs H Q E->
  codeAny (fe P w) A (.call (.ref f) args) (CR CX outer P w H s Q E) s
theorem A4.in1{P:i6}{w:h9}{K:MC}{C:UZ}{base:gb}{A:mu}{outer:List n6}{s:eK}{H:Hp}(e:A4 P w K C base A outer s H) :
 A4 P w K C base A.in1 outer s H:=⟨e.frames,e.mod,e.bs,e.xc,e.sx,e.De,e.gj,e.bare⟩
section
variable{X:Cx}{pins:UQ}{σ:St}{H:Hp}{s s':eK}
theorem Inv.B1(I:Inv X pins σ H s):A4 X.prog X.w X.K X.mg X.base X.A X.stack s H:=
 ⟨I.ok.frames,I.ok.mod,I.bs,Of I.ok.xc I.sz,I.stack,I.b_,I.gj,I.bare⟩
theorem Inv.after(I:Inv X pins σ H s)(h:CE X.stack X.prog X.w H s Q u s'):EP X pins σ Q u s':=by obtain⟨v,f,os,a,un,e,r,q⟩:=h;obtain⟨O,g,d,t,U⟩:=s';obtain rfl:U=s.os:=os;exact⟨v,f,I.call (h':=O) (g':=g) (d':=d) (t':=t) (ch:=[]) un e a<|λb z=>absurd z ⋯,r,q⟩
end
def tu(sp:Sp)(C:List V)(E:XK)(t:TA):TE:=λd H Q=>t d H λb a=>sp (b++C) a Q E
noncomputable def Binds(K:MC)(C:p8)(ps:List Str)(ds:List el):Prop:=
 ∀(s:eK) (a:List el),K.In s.heap->(a++ds).length=ps.length->Gx s C ⟨a,[]⟩ (ps.zip<|a++ds)
theorem Binds.all{K:MC}{C:p8}{ps:List Str}(h : ∀us:List el,us.length=ps.length->Ux C ⟨us,[]⟩=pure (ps.zip us)):Binds K C ps []:=λs us _ z=>by rw[Ph]at z ⊢;exact .of_eq<|h us z
noncomputable def mi(CX:tw)(X:Cx)(E:XK):Prop:=∀(a:UQ) (d:St) (H:Hp) (s:eK) (e:el) (b:eK),Inv X a d H s->CX X.stack H s E e b->X.xe e b
section
variable{X:Cx}{CX:tw}{k:Nat}{f C:ej}{fd:p8}{ps:List Str}{sp:Sp}{DP:List V}{ds:List el}{E:XK}{x m:Str}{p pos apos:hL}{e o:e9}{es:List e9}{ta:TE}{t:TA}
theorem BP(F:p6 X.prog X.w X.K X.mg X.base CX k f fd ps sp)(O:m8 k X.A)(U:Binds X.K fd ps ds)(J:f9 DP ds)(hx:mi CX X E)
 (I:Inv X pins σ H s) (r:f9 vs us) (h:sp (vs++DP) H Q E):wpAny (fe X.prog X.w) X.A (call (.ref f) us) (EP X pins σ Q) X.xe s:=by
 have a:f9 (vs++DP) (us++ds):=r.append J;have Y:(us++ds).length=ps.length:=by rw[<- a.length];exact F.len _ _ _ _ h
 refine wpAny_call<|Ht (F.run X.A X.stack s H ⟨us,[]⟩ (us++ds) (vs++DP) Q E O I.B1 (U s us I.m6 Y) a h) λr d z=>?_;cases r with
 | error e=>exact hx pins σ H s e d I z
 | ok b=>
  cases b with
  | ret u=>exact I.after z
  | next=>exact Pc z
  | brk=>exact Pc z
  | cont=>exact Pc z
theorem gi(F:p6 X.prog X.w X.K X.mg X.base CX k f fd ps sp)(O:m8 k X.A)(U:Gl X x)(hm:X.mg x=dn (.ref f))(Y:RR X.K (.ref f)=d7)(Z:Binds X.K fd ps ds)(hd:f9 DP ds)(hx:mi CX X E)
 (S:PA X (e::es) t) (J:(x==("__debug__" : Str))=eh:=by decide) (he:gu (e::es) X.env=(eh,fh e X.env)::gu es X.env:=by rfl) (L:(su pos (gu es X.env)).any (·.1)=eh:=by rfl) :
 PE X (.Call (.Name x p) (e::es) [] pos) (tu sp DP E t):=by
 intro a s b H Q I h;refine Rx<|Wv I U hm ?_ J;refine PySem.W.callWith_K (h₀:=X.base) I.ok.mod.R9 Y (f6 (S pos a s b H _ I h) λi g ⟨j,d,z,r,q⟩=>⟨z.m6,?_⟩) he L;exact BP F O Z hd hx z r q
end
structure D1(N P:List Str)(sc:ij):Prop where
 kind:sc.kind = .function
 co:sc.isCoroutine=eh
 gen:sc.isGenerator=eh
 nd:N.Nodup
 pre:N.take P.length=P
 par : ∀x∈P,sc.names.lookup x=dn .local\/sc.names.lookup x=dn .cell
 U_ : ∀y∈sc.names,y.2 ≠ .free
theorem VD{kindOf:Str->Option uh}{x:Str} : ∀{z:List (Str×el)} {m:UZ},(∀v,(x,v)∉z)->Dv kindOf z m x=m x
 | [],_,_=>rfl
 | (n,v)::r,m,h=>by
  unfold Dv;rw[VD λw a=>h w (MT _ a)];split
  ·have:x≠n:=by rintro rfl;exact h v MX
   simp[this]
  ·rfl
theorem VG{kindOf:Str->Option uh}{x:Str} : ∀{z:List (Str×el)} {m:UZ},(∀v,(x,v)∉z)->Du kindOf z m x=m x
 | [],_,_=>rfl
 | (n,v)::r,m,h=>by
  unfold Du;rw[VG λw a=>h w (MT _ a)];split
  ·rfl
  ·have:x≠n:=by rintro rfl;exact h v MX
   simp[this]
theorem VE{kindOf:Str->Option uh}{x:Str}{v:el} : ∀{P:List Str} {vs:List el} {i:Nat} {m:UZ},P.Nodup->P[i]? = dn x->vs[i]? = dn v->kindOf x=dn .local->
 Dv kindOf (P.zip vs) m x=dn v
 | [],_,_,_,_,h,_,_=>by simp at h
 | _::_,[],_,_,_,_,h,_=>by simp at h
 | p::P,w::vs,0,m,nd,h1,h2,hk=>by simp at h1 h2;subst h1;subst h2;show Dv kindOf ((p,w)::P.zip vs) m p=_;unfold Dv;rw[VD λv z=>(Oq.mp nd).1 (List.of_mem_zip z).1,UJ hk];simp
 | p::P,w::vs,i+1,m,nd,h1,h2,hk=>by show Dv kindOf ((p,w)::P.zip vs) m x=_;unfold Dv;exact VE (i:=i) (Oq.mp nd).2 (by simpa using h1) (by simpa using h2) hk
theorem VH{kindOf:Str->Option uh}{x:Str}{v:el} : ∀{P:List Str} {vs:List el} {i:Nat} {m:UZ},P.Nodup->P[i]? = dn x->vs[i]? = dn v->kindOf x≠dn .local->
 Du kindOf (P.zip vs) m x=dn v
 | [],_,_,_,_,h,_,_=>by simp at h
 | _::_,[],_,_,_,_,h,_=>by simp at h
 | p::P,w::vs,0,m,nd,h1,h2,hk=>by simp at h1 h2;subst h1;subst h2;show Du kindOf ((p,w)::P.zip vs) m p=_;unfold Du;rw[VG λv z=>(Oq.mp nd).1 (List.of_mem_zip z).1,UY hk];simp
 | p::P,w::vs,i+1,m,nd,h1,h2,hk=>by show Du kindOf ((p,w)::P.zip vs) m x=_;unfold Du;exact VH (i:=i) (Oq.mp nd).2 (by simpa using h1) (by simpa using h2) hk
def ZT(N:List Str)(vs:List V):St:=vs.map dn++MH (N.length - vs.length) ed
noncomputable def Ax(CX:tw)(P:i6)(w:h9)(K:MC)(mg:UZ)(base:gb)(N:List Str)(qual:Str)(scope:ij)(f:ej)(z:el)(A:mu)(outer:List n6)(s:eK)(H:Hp)(E:XK):Cx where
 prog:=P
 w:=w
 K:=K
 mg:=mg
 base:=base
 A:=A.deeper<|envOfC qual scope s.heap.objs.size f z
 N:=N
 nr:=s
 D2:=H
 env:=I0 qual scope s.heap.objs.size f z
 outer:=outer
 stack:=I0 qual scope s.heap.objs.size f z::outer
 ex:=[]
 calm:=d7
 fn:=λ_=>d7
 pn:=[]
 xe:=λe s'=>wpAny (fe P w) (A.deeper<|envOfC qual scope s.heap.objs.size f z) (leaving (I0 qual scope s.heap.objs.size f z) e) (λ_ I=>CX outer H s E e I) (λO I=>CX outer H s E O I) s'
theorem bD{C:ij}{n:Nat}{x:Str}(h:C.names.lookup x=dn .cell) : ∃c,(sh n C.names []).lookup x=dn c:=by have q:=Rh C.names n [] (.inl h);exact OK.mp q
theorem ig{CX:tw}{P:i6}{w:h9}{K:MC}{C:UZ}{base:gb}{N ps:List Str}{qual:Str}{scope:ij}{f:ej}{Y:el}{A:mu}{outer:List n6}{s J:eK}{H:Hp}{E:XK}{us:List el}{vs:List V}
 (S:D1 N ps scope) (L:A.handled=ed) (I:A4 P w K C base A outer s H) (Z:vs.length=ps.length) (r:f9 vs us)
 (x:InCallC s s.heap.objs.size (Dv (I0 qual scope s.heap.objs.size f Y).kindOf (ps.zip us) λ_=>ed) (sh (s.heap.objs.size+1) scope.names []) (Du (I0 qual scope s.heap.objs.size f Y).kindOf (ps.zip us) λ_=>ed) J) :
 Inv (Ax CX P w K C base N qual scope f Y A outer s H E) [] (ZT N vs) H J:=by
 have F:ps.length<=N.length:=by have:=congrArg List.length S.pre;rw[RH]at this;omega
 obtain⟨g,M,rfl,m⟩:=x.done;have a0 : ∀b:ej,b∉(Ax CX P w K C base N qual scope f Y A outer s H E).ex:=λb z=>absurd (show b∈([]:List ej)from z) ⋯;refine⟨⟨I.mod,S.kind,rfl,rfl,MM _,λy z c g d=>?_,λy O=>?_,λy c _ h=>?_,λ_=>L,Around.frames_deeper I.frames,.inr ⟨rfl,rfl⟩,λb z=>absurd z<|a0 b,I.bs,I.xc,λb _ _=>a0 b,λb z=>absurd z<|a0 b,I.sx,I.De⟩,
  rfl,I.bare,Un.kept m,⟨_,x.toInCall.ns,λi y v g d G=>?_⟩,λy c h=>⟨_,x.cell y c h⟩,I.gj.fresh<|MM _,λy c h=>?_,λp U=>absurd (show p∈([]:UQ)from U) ⋯,I.gj.kept m,?_⟩
 ·exact name_of_addr x.apart (PZ g)<|PZ d
 ·have O:scope.names.lookup y=dn .cell\/scope.names.lookup y=dn .free:=O
  rcases O with O | O
  ·exact bD O
  ·exact absurd rfl<|S.U_ _<|PZ O
 ·exact SM<|x.above y c<|PZ h
 ·have j:i<vs.length:=by
   unfold ZT at d;by_cases j:i<vs.length
   ·exact j
   ·rw[NN (by simpa using j)]at d
    rw[Rj]at d;split at d<;>cases d
  have t:vs[i]? = dn v:=by
   unfold ZT at d;rw[Oc (by simpa using j),Nw]at d;cases e:vs[i]? with
   | none=>rw[e]at d;cases d
   | some a=>rw[e]at d;cases d;rfl
  obtain⟨u,o,B⟩:=r.get t;have U:ps[i]? = dn y:=by rw[<- S.pre,List.getElem?_take_of_lt ⋯];exact g
  have l:ps.Nodup:=by rw[<- S.pre];exact S.nd.sublist<|List.take_sublist _ _
  refine⟨u,B,?_⟩;rcases S.par y (NQ U)with k | k
  ·exact .inl ⟨k,VE l U o k⟩
  ·obtain⟨c,e⟩:=bD (n:=s.heap.objs.size+1) k
   refine .inr ⟨.inl k,c,e,?_⟩;have q:=x.cell y c e;rw[VH l U o (by show scope.names.lookup y≠_;rw[k];decide)]at q;exact q
 ·exact I.gj.fresh<|SM<|x.above y c<|PZ h
 ·unfold ZT
  show _=N.length;rw[NZ,Nf,List.length_replicate];omega
theorem HC{CX:tw}{P:i6}{w:h9}{K:MC}{mg:UZ}{base:gb}{k:Nat}{f:ej}{name qual:Str}{a0:Arguments}{L:List k4}{scope:ij}{dV kV Z pm C ct oc:el}{an od:Option ej}
 {S7:Array (Option el)} {N ps:List Str} {sp:Sp} (lk:K.lookup f=dn ⟨oc,od,.func<|Rp name qual a0 L scope dV kV Z pm an C ct,S7⟩) (a5:SE K C qual=d7) (S:D1 N ps scope)
 (len : ∀vs H Q E,sp vs H Q E->vs.length=ps.length)
 (a6 : ∀(A:mu) (outer:List n6) (s:eK) (H:Hp) (vs:List V) (Q:VK) (E:XK),m8 k (A.deeper<|envOfC qual scope s.heap.objs.size f C)->sp vs H Q E->
   ∃t,q5 (Ax CX P w K mg base N qual scope f C A outer s H E) L t/\t {nx:=λ_ H'=>Q .ft H',rt:=Q} (ZT N vs) H) :
 p6 P w K mg base CX (k+1) f (Rp name qual a0 L scope dV kV Z pm an C ct) ps sp:=by
 refine⟨len,λA outer s H j X vs Q E U O hb r h=>?_⟩;have G:=len _ _ _ _ h;have g:K.In s.heap:=O.mod.R9.keeps λb o e=>(O.bs b o e).1;have lim:s.heap.NoLimit:=O.mod.nolimit.keeps λb o e=>(O.bs b o e).1;have m : ∀y∈ps.zip X,scope.names.lookup y.1=dn .local\/(scope.names.lookup y.1=dn .cell/\((sh (s.heap.objs.size+1) scope.names []).lookup y.1).isSome=d7):=λ⟨n,v⟩ T=>by
  rcases S.par n (List.of_mem_zip T).1 with q | q
  ·exact .inl q
  ·exact .inr ⟨q,Rh _ _ _<|.inl q⟩
 refine codeAny_call_function U.depth (g _ _ lk) rfl S.co S.gen rfl (PySem.W.codeRec_of g a5)<|hb _ _ _ _ ?_;refine wpAny_newFunctionEnv_cells S.kind m λp F l x=>?_;subst F;refine⟨lim.keeps x.toInCall.keep,codeAny_func ?_⟩;obtain⟨t,R,M⟩:=a6 A outer s H vs Q E (U.deeper _) h;have I:Inv (Ax CX P w K mg base N qual scope f C A outer s H E) [] (ZT N vs) H l:=ig S U.hd O G r x;refine OW (R [] l (ZT N vs) H _ I M) (λB d z=>?_) λe d z=>z;have i : ∀{a:St} {H':Hp} {v:V} {u:el},Inv (Ax CX P w K mg base N qual scope f C A outer s H E) [] a H' d->RelV v u->Q v H'->CE outer P w H s Q u d:=
  λ{a H' v u} J Y q=>⟨v,H',J.os,J.bare,J.base,J.gj,Y,q⟩
 cases B with
 | ret u=>
  obtain⟨v,a,H',J,Y,q⟩:=z;exact i J Y q
 | next=>
  obtain⟨a,H',J,q⟩:=z;exact i (v:=V.ft) (u:=NH) J rfl q
 | brk=>
  obtain⟨_,_,_,q⟩:=z;exact Pc q
 | cont=>
  obtain⟨_,_,_,q⟩:=z;exact Pc q
section
variable{X:Cx}{x:Str}{p pos:hL}{e:e9}{es:List e9}{t:TA}{id T:String}{r:List V->Hp->VK->Prop}
def e_(r:List V->Hp->VK->Prop)(t:TA):TE:=λd H Q=>t d H λb a=>r b a Q
theorem yw(z:Ja X (.builtin id) r)(O:Gl X x)(S:X.mg x=ed)(U:A7 x=dn (.builtin id))(J:PA X (e::es) t)(Z:x ≠ "__name__":=by decide)(Y:(x==("__debug__" : Str))=eh:=by decide)
 (L:gu (e::es) X.env=(eh,fh e X.env)::gu es X.env:=by rfl) (C:(su pos<|starEach es X.env).any (·.1)=eh:=by rfl):PE X (.Call (.Name x p) (e::es) [] pos) (e_ r t):=by
 intro a s b H Q I h;refine Rx<|yT I O S U ?_ Z Y;exact SJ (f6 (J pos a s b H _ I h) λk j ⟨l,d,f,i,g⟩=>z a j b d l k Q f i g) L C
theorem JY(z:Ja X (.type T) r)(O:Gl X x)(S:X.mg x=ed)(U:A7 x=dn (.type T))(J:PA X (e::es) t)(Z:x ≠ "__name__":=by decide)(Y:(x==("__debug__" : Str))=eh:=by decide)
 (L:gu (e::es) X.env=(eh,fh e X.env)::gu es X.env:=by rfl) (C:(su pos<|starEach es X.env).any (·.1)=eh:=by rfl):PE X (.Call (.Name x p) (e::es) [] pos) (e_ r t):=by
 intro a s b H Q I h;refine Rx<|yT I O S U ?_ Z Y;exact Ob (f6 (J pos a s b H _ I h) λk j ⟨l,d,f,i,g⟩=>z a j b d l k Q f i g) L C
end
end L2
namespace HT
open PySem PyProof.Rows
section
variable{prog:i6}{w:h9}{A:mu}{E:EQ}{s:eK}
theorem HM(S:D3 s.heap t vs.toArray)(L:D3 s.heap b z.toArray)(U:vs ≠ [])
 (C:z=[]->Q (.ref t) s) (J:z ≠ []->Q (.ref s.heap.objs.size) {s with heap:=s.heap.push {cls:= .type "tuple",data:= .seq (vs++z).toArray}})
 (hsz:vs.length+z.length<=gm):wpAny (fe prog w) A (t7 .Add (.ref t)<|.ref b) Q E s:=by
 obtain⟨⟨cls,Y,data,l⟩,I,i,n,j⟩:=id S;obtain⟨⟨m,d,data2,f⟩,O,g,k,h⟩:=id L;simp only at i j g h;subst i j g h;have e:vs.toArray++z.toArray=(vs++z).toArray:=by simp
 by_cases a:z=[]
 ·exact TN ⟨_,I,rfl⟩ ⟨_,O,rfl⟩ TR X1 Sl Sh (RY _ _)
   (tuple_addW1 t b vs.toArray z.toArray n k Y d l f (by simpa using U)<|by simp[a]) ⟨I,O,C a⟩
 ·refine TN ⟨_,I,rfl⟩ ⟨_,O,rfl⟩ TR X1 Sl Sh (RY _ _)
   (tuple_addW2 t b vs.toArray z.toArray n k Y d l f (by simpa using U) (by simpa using a)<|by rw[MR,MR];exact hsz) ⟨I,O,?_⟩
  rw[e];exact J a
noncomputable def eg(n d:Nat):Option Int->Nat
 | none=>d
 | some v=>if v<0 then (v+(n:Int)).toNat else min v.toNat n
theorem BJ(n d:Nat)(C:d<=n)(o:Option Int):eg n d o<=n:=by
 cases o with
 | none=>exact C
 | some v=>
  show(if v<0 then (v+(n:Int)).toNat else min v.toNat n)<=n;by_cases z:v<0
  ·rw[UJ z];omega
  ·rw[UY z];exact Nat.min_le_right _ _
theorem lj(v:Int)(n d:Nat):(if v<0 then max (v+(n:Int)) 0 else min v (n:Int))=((eg n d (dn v):Nat):Int):=by
 show(if v<0 then max (v+(n:Int)) 0 else min v (n:Int))=(((if v<0 then (v+(n:Int)).toNat else min v.toNat n):Nat):Int);by_cases z:v<0
 ·simp only[UJ z];omega
 ·simp only[UY z];omega
theorem dA(lo hi:Option Int)(n:Nat):RF lo hi 1 (n:Int)=(((eg n 0 lo:Nat):Int),((eg n n hi:Nat):Int)):=by
 have a : ¬((1:Int)<0):=by omega
 unfold RF;simp only[a,if_false];refine Prod.ext ?_ ?_
 ·cases lo with
  | none=>rfl
  | some v=>exact lj v n 0
 ·cases hi with
  | none=>rfl
  | some v=>exact lj v n n
theorem cF(i j:Nat):Px (i:Int) (j:Int) 1=j - i:=by
 unfold Px;have a:(1:Int)>0:=by omega
 simp only[a,if_true,Int.ediv_one];split<;>omega
theorem XH(p:A5 v o)(h:Q o s):wpAny (fe prog w) A (Builtin.Slice.slicePartIndex v) Q E s:=by
 cases p with
 | none=>exact slicePart_none h
 | int i t=>exact slicePart_int h
theorem ZU{C:ej}{z I:el}{lo hi:Option Int}{n:Nat}{Q:Int×Int×Nat->eK->Prop}(Y:s.heap.IsSliceOf C z I .none)(J:A5 z lo)(L:A5 I hi)
 (h:Q (((eg n 0 lo:Nat):Int),1,eg n n hi - eg n 0 lo) s):wpAny (fe prog w) A (Builtin.Slice.sliceApplied (.ref C)<|pure (n:Int)) Q E s:=by
 obtain⟨os,O,a,U⟩:=id Y;unfold Builtin.Slice.sliceApplied Builtin.Slice.sliceFields;refine MA<|MA<|NJ O U (x:=z) rfl<|MA<|NJ O U (x:=I) rfl<|MA<|NJ O U (x:= .none) rfl<|MN ?_;refine MA<|slicePart_none ?_;show wpAny _ _ (if ((1:Int)==0)=d7 then _ else _) _ _ s;rw[UY ⋯];refine MA<|XH J<|MA<|XH L<|MA<|MN ?_;show wpAny _ _ (match RF lo hi 1 (n:Int)with | (lo,hi)=>pure (lo,(1:Int),Px lo hi 1)) _ _ s;rw[dA lo hi n];show wpAny _ _ (pure (((eg n 0 lo:Nat):Int),(1:Int),Px ((eg n 0 lo:Nat):Int) ((eg n n hi:Nat):Int) 1)) _ _ s;rw[cF];exact MN h
theorem nW(xs:Array el)(i k:Nat):((MB k).filterMap λ(m:Nat)=>xs[((i:Int)+(m:Int)*1).toNat]?).toArray=((xs.toList.drop i).take k).toArray:=by
 have e:(λ(m:Nat)=>xs[((i:Int)+(m:Int)*1).toNat]?)=λm=>xs[i+m]? :=by
  funext m;have:((i:Int)+(m:Int)*1).toNat=i+m:=by omega
  rw[this]
 rw[e];have:=pick_run xs i k;rw[List.filterMap_map]at this;have z:((λx=>xs[x]?)∘λx=>i+x)=λm=>xs[i+m]? :=rfl;rw[z]at this;rw[this]
theorem de{t C:ej}{items:Array el}{O U:el}{lo hi:Option Int}{Q:EQ}(z:D3 s.heap t items)(Y:s.heap.IsSliceOf C O U .none)(L:A5 O lo)(S:A5 U hi)
 (J : ¬(eg items.size 0 lo=0/\eg items.size items.size hi=items.size))
 (h:Q (.ref s.heap.objs.size) {s with heap:=s.heap.push {cls:= .type "tuple",data:= .seq ((items.toList.drop (eg items.size 0 lo)).take (eg items.size items.size hi - eg items.size 0 lo)).toArray}})
 (hsz:items.size<=gm):wpAny (fe prog w) A (B5 (.ref t)<|.ref C) Q E s:=by
 have I:sizeOk (.seq ((items.toList.drop<|eg items.size 0 lo).take (eg items.size items.size hi - eg items.size 0 lo)).toArray):=by show((items.toList.drop<|eg items.size 0 lo).take (eg items.size items.size hi - eg items.size 0 lo)).toArray.size<=gm;rw[MR,RH,List.length_drop,Oo];omega
 have g:eg items.size items.size hi<=items.size:=BJ _ _ (MM _) hi;obtain⟨os,a,b,f⟩:=id Y;have d:s.TypeIs (.ref C) "slice":=⟨os,a,b⟩;unfold B5
 try with_reducible refine OV ?_
 first | refine MA (MN ?_) | skip
 refine MA (_n z.typeIs ⋯ ?_);refine MA (Od (name:=NK "__getitem__") z.typeIs D6
  (Ow D6 z.typeIs entry_tuple_getitem ?_ (E_ _ _)))
 show wpAny _ _ (Builtin.Tuple.tupleItemsOf (.ref t) >>= _) _ _ s;refine MA<|SI z ?_;refine MA<|So d ?_;rw[UJ ⋯];refine MA<|ZU Y L S ?_;have e : ¬((((eg items.size 0 lo:Nat):Int)==0 && (1:Int)==1 && (eg items.size items.size hi - eg items.size 0 lo)==items.size)=d7):=by intro q;rw[MW,MW]at q;have i:((eg items.size 0 lo:Nat):Int)=0:=eq_of_beq q.1.1;have j:eg items.size items.size hi - eg items.size 0 lo=items.size:=eq_of_beq q.2;exact J ⟨by omega,by omega⟩
 show wpAny _ _ (if (((eg items.size 0 lo:Nat):Int)==0 && (1:Int)==1 && (eg items.size items.size hi - eg items.size 0 lo)==items.size)=d7 then _ else _) _ _ s;rw[UY e,nW]
 first
  | exact MA (m:=OG _)<|Ox (MN ⟨_,rfl,MN h⟩) I
  | exact MA (m:=OG _)<|Ox (MA<|MN<|MN ⟨_,rfl,MN h⟩) I
  | exact MA<|MA (m:=OG _)<|Ox (MN<|MN ⟨_,rfl,MN h⟩) I
  | exact MA<|MA (m:=OG _)<|Ox (MN ⟨_,rfl,MN h⟩) I
end
end HT
namespace L2
open PySem PySem.Spec PyProof.Rows
abbrev TO:=St->Hp->(Option Int->Hp->Prop)->Prop
noncomputable def PO(X:Cx)(e:Option e9)(t:TO):Prop:=
 ∀(a:UQ) (s:eK) (b:St) (H:Hp) (Q:Option Int->Hp->Prop),Inv X a b H s->t b H Q->
  wpAny (fe X.prog X.w) X.A (evalPart e X.env) (λu f=>∃o d,Inv X a b d f/\A5 u o/\Q o d) X.xe s
def tq:TO:=λ_ H Q=>Q ed H
def GB(t:TE):TO:=λb H Q=>t b H λx a=>∃i,x = .int i/\Q (dn i) a
section
variable{X:Cx}{e:e9}{te:TE}{lo hi:Option e9}{tl th:TO}{pos p2:hL}
theorem uu:PO X ed tq:=by intro a s b H Q I h;rw[evalPart_none];exact MN ⟨ed,H,I,.none,h⟩
theorem ur(h:PE X e te):PO X (dn e) (GB te):=by intro a s f H Q I d;rw[evalPart_some];refine f6 (h a s f H _ I d) λu g z=>?_;obtain⟨x,b,O,U,Y⟩:=z;obtain⟨i,rfl,q⟩:=Y;obtain⟨t,rfl⟩:=U;exact⟨dn i,b,O,.int i t,q⟩
noncomputable def H8(X:Cx)(r:V->Option Int->Option Int->Hp->VK->Prop):Prop:=
 ∀(a:UQ) (s:eK) (d:St) (H:Hp) (x:V) (v z I:el) (lo hi:Option Int) (b:ej) (Q:VK),Inv X a d H s->RelV x v->s.heap.IsSliceOf b z I .none->A5 z lo->A5 I hi->r x lo hi H Q->
  ∃T id,N4 (.type T) "__getitem__" = pure (dn (.builtin id))/\s.TypeIs v T/\wpAny (fe X.prog X.w) X.A (B5 v (.ref b)) (EP X a d Q) X.xe s
noncomputable def _d(r:V->Option Int->Option Int->Hp->VK->Prop)(te:TE)(tl th:TO):TE:=λa H Q=>te a H λx b=>tl a b λl d=>th a d λu z=>r x l u z Q
theorem aI(L:H8 X r)(C:PE X e te)(J:PO X lo tl)(S:PO X hi th):PE X (.Subscript e (.Slice lo hi ed p2) pos) (_d r te tl th):=by intro a s d H Q I h;refine Ut (f6 (C a s d H _ I h) λv M o=>?_);obtain⟨x,f,i,K,E⟩:=o;refine wpAny_Slice (f6 (J a M d f _ i E) λO N ⟨l,g,j,y,F⟩=>f6 (S a N d g _ j F) λU z ⟨u,Y,k,B,G⟩=>?_);rw[evalPart_none];refine MN ?_;have m:Inv X a d Y {z with heap:=z.heap.push {cls:= .type "slice",data:= .fields #[O,U,.none]}}:=k.kept (t':=z.toks) λb P q=>ME _ q;obtain⟨T,id,n,t,p⟩:=L a {z with heap:=z.heap.push {cls:= .type "slice",data:= .fields #[O,U,.none]}} d Y x v O U l u z.heap.objs.size Q m K (Heap.IsSliceOf.new ..) y B G;show wpAny (fe X.prog X.w) X.A (c_ e (.Slice lo hi ed p2) v (.ref z.heap.objs.size)) (EP X a d Q) X.xe {z with heap:=z.heap.push {cls:= .type "slice",data:= .fields #[O,U,.none]}};exact tail_any (ops:=[.ref z.heap.objs.size,v]) t n p (by with_unfolding_all rfl)
noncomputable def pC(xs:List V)(lo hi:Option Int):List V:=(xs.drop<|HT.eg xs.length 0 lo).take (HT.eg xs.length xs.length hi - HT.eg xs.length 0 lo)
theorem QW(xs:List V)(lo hi:Option Int):(pC xs lo hi).length<=xs.length:=by unfold pC;rw[RH,List.length_drop];omega
noncomputable def LN(K:MC):V->Option Int->Option Int->Hp->VK->Prop:=λx lo hi H Q=>∃a b,x = .ref a/\hB K H a b/\
 ¬(HT.eg b.length 0 lo=0/\HT.eg b.length b.length hi=b.length)/\∀p,H p=ed->Q (.ref p) (upd H p<|.tup<|pC b lo hi)
theorem BD:H8 X (LN X.K):=by
 intro e s u H x v p t lo hi n Q I Y g k l h;obtain⟨a,d,rfl,j,i,q⟩:=h;cases Y;obtain⟨f,r,O,U⟩:=I.tuple j;have z:f.toArray.size=d.length:=by rw[MR];exact r.length.symm
 refine⟨"tuple",_,D6.lookup,O.typeIs,?_⟩;refine HT.de O g k l (by rw[z];exact i) ?_ (by rw[z];exact U);rw[z];refine⟨.ref s.heap.objs.size,_,I.laid (t':=s.toks) (o:= .tup (pC d lo hi)) (λb m q=>ME _ q) (MM _) ?_,rfl,q _ (I.gj.fresh (MM _))⟩;exact⟨Of (QW d lo hi) U,_,(r.drop (HT.eg d.length 0 lo)).take (HT.eg d.length d.length hi - HT.eg d.length 0 lo),wh.new _ _⟩
theorem f9.L3(r:f9 xs us):us=[]↔xs=[]:=by
 cases r with
 | nil=>simp
 | cons _ _=>simp
end
noncomputable def DA(n:Nat)(i:Int):Option Nat:=if 0<=i then (if i<n then dn i.toNat else ed)else if -(n:Int)<=i then dn (i+n).toNat else ed
def Dc{C:Type}(xs:List C)(i:Int):Option C:=(DA xs.length i).bind λj=>xs[j]?
theorem ib(h:DA n i=dn j):seqIndex? i n=dn j/\j<n/\ -(n:Int)<=i/\i<n:=by
 unfold DA at h;by_cases z:0<=i
 ·rw[UJ z]at h
  by_cases a:i<n
  ·rw[UJ a]at h
   have e:i.toNat=j:=ND h;exact⟨by rw[U9 z a,e],by omega,by omega,a⟩
  ·rw[UY a]at h;cases h
 ·rw[UY z]at h
  by_cases a : -(n:Int)<=i
  ·rw[UJ a]at h
   have e:(i+n).toNat=j:=ND h;exact⟨by rw[U8 ⋯ a,e],by omega,a,by omega⟩
  ·rw[UY a]at h;cases h
theorem WS(h:Dc xs i=dn v) : ∃j,seqIndex? i xs.length=dn j/\xs[j]? = dn v/\j<xs.length/\ -(xs.length:Int)<=i/\i<xs.length:=by
 unfold Dc at h;cases e:DA xs.length i with
 | none=>rw[e]at h;cases h
 | some j=>
  rw[e]at h;obtain⟨a,b,z,I⟩:=ib e;exact⟨j,a,h,b,z,I⟩
def WZ(b:e9):Prop:=∀o i,Ub b eh o i=operate [o,i] (B5 o i)
noncomputable def C8(X:Cx)(r:R2):Prop:=
 ∀(b z:e9) (a:UQ) (s:eK) (d:St) (H:Hp) (x y:V) (v u:el) (Q:VK),Inv X a d H s->RelV x v->RelV y u->r x y H Q->
  Ub z eh v u=operate [v,u] (B5 v u)->wpAny (fe X.prog X.w) X.A (c_ b z v u) (EP X a d Q) X.xe s
noncomputable def Ur(X:Cx)(id:String)(r:V->List V->Hp->VK->Prop):Prop:=
 ∀(a:UQ) (s:eK) (e:St) (H:Hp) (x:V) (d:List V) (v:el) (b:List el) (Q:VK),Inv X a e H s->RelV x v->f9 d b->r x d H Q->
  wpAny (fe X.prog X.w) X.A (call (.builtin id) (v::b)) (EP X a e Q) X.xe s
section
variable{X:Cx}{a b:e9}{ta tb:TE}{pos:hL}
theorem C8.or(h:C8 X r)(h':C8 X r'):C8 X (λx y H Q=>r x y H Q\/r' x y H Q):=by
 intro a z b s d H x y v u Q I O U q Y;rcases q with q | q
 ·exact h a z b s d H x y v u Q I O U q Y
 ·exact h' a z b s d H x y v u Q I O U q Y
theorem CQ(z:C8 X r)(C:PE X a ta)(O:PE X b tb)(U:WZ b):PE X (.Subscript a b pos) (F4 r ta tb):=by intro d s j H Q I h;exact Ut<|HN C O I h λv u i x y e Y f g q=>z a b d i j e x y v u Q Y f g q<|U _ _
noncomputable def LS(K:MC):R2:=λx y H Q=>∃p a i v,x = .ref p/\y = .int i/\gv K H p a/\Dc a i=dn v/\Q v H
noncomputable def LQ(K:MC):R2:=λx y H Q=>∃p a i v,x = .ref p/\y = .int i/\hB K H p a/\Dc a i=dn v/\Q v H
noncomputable def LR:R2:=λx y H Q=>∃z i c,x = .str z/\y = .int i/\z.length<=gm/\Dc z.cps.toList i=dn c/\Q (.str ⟨#[c]⟩) H
theorem P_:C8 X (LS X.K):=by
 intro d L a s k H x y v u Q I F G h Y;obtain⟨p,R,i,z,rfl,rfl,E,B,q⟩:=h;cases F;obtain⟨t,rfl⟩:=G;obtain⟨l,r,O,P⟩:=I.list E;obtain⟨j,b,n,M,o,A⟩:=WS B;obtain⟨w,f,m⟩:=r.get n;have C:=r.length;have N:=QA;have e:EP X a k Q w s:=⟨z,H,I,m,q⟩;by_cases g:0<=i
 ·have U:i.toNat=j:=by
   rw[U9 g A]at b;exact ND b
  exact item_listR O.isList g ⋯ (by rw[U];simpa using f) e Y
 ·have U:(i+(l.toArray.size:Int)).toNat=j:=by
   rw[U8 ⋯ o]at b;rw[MR,<- C];exact ND b
  exact _b (x:=w) O.isList.typeIs slot_list_getitem.lookup
   (wpAny_getItem_list_neg (Q:=λr J=>r=w/\EP X a k Q r J) O.isList ⋯ (by rw[MR]<;>omega) ⋯ (by rw[U];simpa using f) ⟨rfl,e⟩) Y
theorem EB:C8 X (LQ X.K):=by
 intro b C a s d H x y v u Q I U Y h A;obtain⟨p,N,i,z,rfl,rfl,o,m,q⟩:=h;cases U;obtain⟨t,rfl⟩:=Y;obtain⟨E,r,O,M⟩:=I.tuple o;obtain⟨j,k,l,F,G,J⟩:=WS m;obtain⟨w,g,e⟩:=r.get l;have n:=r.length;have L:=QA;have f:EP X a d Q w s:=⟨z,H,I,e,q⟩;exact _b (x:=w) O.typeIs slot_tuple_getitem.lookup
  (getItem_tuple (j:=j) (Q:=λr B=>r=w/\EP X a d Q r B) O ⋯ ⋯ (by rw[MR,<- n];exact k) (by simpa using g) ⟨rfl,f⟩) A
theorem EC:C8 X LR:=by
 intro a o d s B H x y v u Q I O U h Y;obtain⟨z,i,c,rfl,rfl,w,m,q⟩:=h;obtain⟨t,rfl⟩:=O;obtain⟨A,rfl⟩:=U;obtain⟨j,b,g,p,k,l⟩:=WS m;have n:z.cps.toList.length=z.length:=by simp[Str.length]
 rw[n]at b k l;have r:=QA;exact tail_any (j_ s z t) slot_str_getitem.lookup (getItem_str (c:=c) (by
  have e:decide (i < -(2 ^ 63:Int))=eh:=decide_eq_false ⋯;have f:decide (i>=2 ^ 63)=eh:=decide_eq_false ⋯;rw[e,f,Bool.or_false]) (by rw[b];simpa using g) ⟨.str ⟨#[c]⟩,H,I.tok _,⟨_,rfl⟩,q⟩) Y
theorem cR(z:List el)(n j:Nat)(u:el):NC (·.setIfInBounds j u) {cls:= .type "list",data:= .seq z.toArray n} = {cls:= .type "list",data:= .seq (z.set j u).toArray n}:=by simp[NC]
theorem Inv.lst(I:Inv X pins σ H s)(h:H p=dn (.lst xs)) :
 ∃(O:List el) (n:Nat),f9 xs O/\s.heap.get? p=dn {cls:= .type "list",data:= .seq O.toArray n}/\xs.length<=gm:=by
 obtain⟨z,O,n,r,e⟩:=I.gj p _ h;exact⟨O,n,r,e,z⟩
theorem Inv.S_{C:UQ}{J:St}{H:Hp}{s:eK}{p:ej}{xs ys:List V}{z its':List el}{n n':Nat}{f:m3->m3}(I:Inv X C J H s)(h:H p=dn (.lst xs))
 (U:s.heap.get? p=dn {cls:= .type "list",data:= .seq z.toArray n}) (O:f {cls:= .type "list",data:= .seq z.toArray n} = {cls:= .type "list",data:= .seq its'.toArray n'}) (r:f9 ys its') (Y:ys.length<=gm) (t:Nat) :
 Inv X C J (upd H p<|.lst ys) {s with heap:=s.heap.update p f,toks:=t}:=by
 have e:(s.heap.update p f).get? p=dn {cls:= .type "list",data:= .seq its'.toArray n'}:=by rw[RE f U (by rw[O]<;>rfl),O]
 refine I.write (x:=p) (e:=p) (by rw[h];trivial) (.inl rfl) (λb u a q=>(Om _ _<|Ny a).trans q) ⟨_,e⟩ ?_;exact⟨Y,its',n',r,e⟩
noncomputable def GT:V->V->V->Hp->(Hp->Prop)->Prop:=λo i v H Q=>∃p a k j,o = .ref p/\i = .int k/\H p=dn (.lst a)/\DA a.length k=dn j/\Q (upd H p<|.lst<|a.set j v)
theorem aj:Lq X GT:=by
 intro a s C H o i v J G u Q I y x A h;obtain⟨p,B,k,j,rfl,rfl,Y,m,q⟩:=h;cases y;obtain⟨t,rfl⟩:=x;obtain⟨e,n,r,z,w⟩:=I.lst Y;obtain⟨b,E,g,l⟩:=ib m;have O:=r.length;have F:=QA;have d:Inv X a C (upd H p<|.lst<|B.set j v) {s with heap:=s.heap.update p (NC (·.setIfInBounds j u))}:=
  I.S_ Y z (cR e n j u) (r.set A j) (by rw[List.length_set];exact w) s.toks
 by_cases f:0<=k
 ·have U:k.toNat=j:=by
   rw[U9 f l]at b;exact ND b
  exact PySem.W.ki_setAt z f ⋯ (by rw[MR,<- O];exact l) (by rw[U];exact⟨_,d,q⟩)
 ·have U:(k+(e.toArray.size:Int)).toNat=j:=by
   rw[U8 ⋯ g]at b;rw[MR,<- O];exact ND b
  exact PySem.W.ki_setBack z ⋯ (by rw[MR,<- O];exact g) ⋯ (by rw[U];exact⟨_,d,q⟩)
theorem YM(lo hi:Option Int)(n:Nat):(sliceBounds lo hi ed n).1=((HT.eg n 0 lo:Nat):Int)/\(sliceBounds lo hi ed n).2.1=((HT.eg n n hi:Nat):Int)/\(sliceBounds lo hi ed n).2.2=1:=by
 refine⟨?_,?_,rfl⟩
 ·cases lo with
  | none=>simp[sliceBounds,HT.eg]
  | some i=>
   simp only[sliceBounds,HT.eg,Option.getD_none,show(1:Int)>0 by decide,if_true];by_cases h:i<0
   ·simp only[h,if_true]<;>omega
   ·simp only[h,if_false]<;>omega
 ·cases hi with
  | none=>simp[sliceBounds,HT.eg]
  | some i=>
   simp only[sliceBounds,HT.eg,Option.getD_none,show(1:Int)>0 by decide,if_true];by_cases h:i<0
   ·simp only[h,if_true]<;>omega
   ·simp only[h,if_false]<;>omega
theorem Kr(z:List el)(lo hi:Option Int):slicePick z.toArray lo hi ed=((z.drop<|HT.eg z.length 0 lo).take (HT.eg z.length z.length hi - HT.eg z.length 0 lo)).toArray:=by obtain⟨a,b,I⟩:=YM lo hi z.toArray.size;unfold slicePick;rw[a,b,I];simp only[sliceRange_one,pick_run,MR]<;>rfl
noncomputable def LO(K:MC):V->Option Int->Option Int->Hp->VK->Prop:=λx lo d H Q=>∃a b,x = .ref a/\gv K H a b/\∀p,H p=ed->Q (.ref p) (upd H p<|.lst<|pC b lo d)
theorem tX:H8 X (LO X.K):=by intro f s u H x v p t lo e n Q I O U Y k h;obtain⟨a,d,rfl,i,q⟩:=h;cases O;obtain⟨l,r,z,j⟩:=I.list i;have g:=r.length;refine⟨"list",_,slot_list_getitem.lookup,z.isList.typeIs,?_⟩;refine wpAny_getItem_list_slice z.isList U Y k .none ⋯ ?_ (by rw[MR]<;>omega);rw[Kr,<- g];refine⟨.ref s.heap.objs.size,_,I.laid (t':=s.toks) (o:= .lst (pC d lo e)) (λb m q=>ME _ q) (MM _) ?_,rfl,q _ (I.gj.fresh (MM _))⟩;exact⟨Of (QW d lo e) j,_,0,(r.drop (HT.eg d.length 0 lo)).take (HT.eg d.length d.length e - HT.eg d.length 0 lo),MV _ rfl⟩
def KW:V->Bool
 | .ft=>d7
 | .bl _=>d7
 | .int _=>d7
 | .str _=>d7
 | _=>eh
noncomputable def B3:V->V->Bool
 | .ft,.ft=>d7
 | .bl a,.bl b=>a==b
 | .bl a,.int b=>(if a then 1 else 0)==b
 | .int a,.bl b=>a==(if b then 1 else 0)
 | .int a,.int b=>a==b
 | .str a,.str b=>a==b
 | _,_=>eh
theorem EM(I:RelV y u)(z:RelV x v)(U:KW y=d7)(O:KW x=d7):Oh A s u v (B3 y x):=by
 cases y with
 | ft=>
  cases I;cases x with
  | ft=>cases z;exact Oh.same _
  | bl b=>cases z;exact Oh.none_bool b
  | int b=>obtain⟨t,rfl⟩:=z;exact Oh.none_int b t
  | str b=>obtain⟨t,rfl⟩:=z;exact Oh.none_str b t
  | _=>exact absurd (show eh=d7 from O) Nq
 | bl a=>
  cases I;cases x with
  | ft=>cases z;exact Oh.bool_none a
  | bl b=>cases z;exact Oh.bool_bool a b
  | int b=>obtain⟨t,rfl⟩:=z;exact Oh.bool_int a b t
  | str b=>obtain⟨t,rfl⟩:=z;exact Oh.bool_str a b t
  | _=>exact absurd (show eh=d7 from O) Nq
 | int a=>
  obtain⟨d,rfl⟩:=I;cases x with
  | ft=>cases z;exact Oh.int_none a d
  | bl b=>cases z;exact Oh.int_bool a d b
  | int b=>obtain⟨t,rfl⟩:=z;exact PX a d b t
  | str b=>obtain⟨t,rfl⟩:=z;exact Oh.int_str a d b t
  | _=>exact absurd (show eh=d7 from O) Nq
 | str a=>
  obtain⟨d,rfl⟩:=I;cases x with
  | ft=>cases z;exact Oh.str_none a d
  | bl b=>cases z;exact Oh.str_bool a d b
  | int b=>obtain⟨t,rfl⟩:=z;exact Oh.str_int a d b t
  | str b=>obtain⟨t,rfl⟩:=z;exact Oh.str_str a d b t
  | _=>exact absurd (show eh=d7 from O) Nq
 | _=>exact absurd (show eh=d7 from U) Nq
noncomputable def rn(x:V)(u:el):Bool:=match u with
 | .none=>B3 .ft x
 | .bool b=>B3 (.bl b) x
 | .int i _=>B3 (.int i) x
 | .str z _=>B3 (.str z) x
 | _=>eh
theorem si(r:RelV y u)(f:KW y=d7):rn x u=B3 y x:=by
 cases y with
 | ft=>cases r;rfl
 | bl b=>cases r;rfl
 | int i=>obtain⟨t,rfl⟩:=r;rfl
 | str z=>obtain⟨t,rfl⟩:=r;rfl
 | _=>exact absurd (show eh=d7 from f) Nq
theorem Xe : ∀{xs:List V} {us:List el},f9 xs us->xs.all KW=d7->us.any (rn x)=xs.any λy=>B3 y x
 | _,_,.nil,_=>rfl
 | y::xs,u::us,.cons r t,f=>by rw[Ss,MW]at f;rw[Sr,Sr,si r f.1,Xe t f.2]
theorem wN(I:RelV x v)(O:KW x=d7) : ∀{xs:List V} {us:List el},f9 xs us->xs.all KW=d7->∀u∈us,Oh A s u v (rn x u)
 | _,_,.nil,_=>λu z=>by cases z
 | y::xs,u::us,.cons r t,f=>λU z=>by
  rw[Ss,MW]at f;rcases MS.mp z with rfl | z
  ·rw[si r f.1];exact EM r I f.1 O
  ·exact wN I O t f.2 U z
def I9(x:V)(xs:List V):Bool:=xs.any λy=>B3 y x
noncomputable def U6(K:MC)(z:Bool):R2:=λx y H Q=>∃p a,y = .ref p/\(gv K H p a\/hB K H p a)/\KW x=d7/\a.all KW=d7/\Q (.bl<|if z then !I9 x a else I9 x a) H
theorem gw:i9 X (oe .In) (U6 X.K eh):=by
 intro d s i H x y v u Q I Y f h;obtain⟨p,g,rfl,z,b,fs,q⟩:=h;cases f;rcases z with z | z
 ·obtain⟨O,r,U,e⟩:=I.list z
  refine SeqAt.in_listAt (rn x) U.isList (λw a=>wN Y b r fs w<|by simpa using a) ⟨.bl _,H,I,rfl,?_⟩;rw[show O.toArray.any (rn x)=O.any (rn x)by simp,Xe r fs];exact q
 ·obtain⟨O,r,U,e⟩:=I.tuple z
  refine SeqAt.in_tupleAt (rn x) U (λw a=>wN Y b r fs w<|by simpa using a) ⟨.bl _,H,I,rfl,?_⟩;rw[show O.toArray.any (rn x)=O.any (rn x)by simp,Xe r fs];exact q
theorem YZ:i9 X (oe .NotIn) (U6 X.K d7):=by
 intro d s i H x y v u Q I Y f h;obtain⟨p,g,rfl,z,b,fs,q⟩:=h;cases f;rcases z with z | z
 ·obtain⟨O,r,U,e⟩:=I.list z
  refine SeqAt.notIn_listAt (rn x) U.isList (λw a=>wN Y b r fs w<|by simpa using a) ⟨.bl _,H,I,rfl,?_⟩;rw[show O.toArray.any (rn x)=O.any (rn x)by simp,Xe r fs];exact q
 ·obtain⟨O,r,U,e⟩:=I.tuple z
  refine SeqAt.notIn_tupleAt (rn x) U (λw a=>wN Y b r fs w<|by simpa using a) ⟨.bl _,H,I,rfl,?_⟩;rw[show O.toArray.any (rn x)=O.any (rn x)by simp,Xe r fs];exact q
theorem VC:Ja X (.builtin "len") (λxs H Q=>∃p ys,xs=[.ref p]/\(gv X.K H p ys\/hB X.K H p ys)/\Q (.int ys.length) H):=by
 intro b s i H xs g Q I r h;obtain⟨p,ys,rfl,z,q⟩:=h;obtain⟨u,rfl,Y⟩:=vJ r;cases Y;have f:=QA;rcases z with z | z
 ·obtain⟨d,a,O,e⟩:=I.list z
  have U:=a.length;exact Calls.call_len_list O.isList (by simp only[MR]<;>omega) ⟨.int ys.length,H,I.tok _,⟨s.toks+1,by rw[MR,U]⟩,q⟩
 ·obtain⟨d,a,O,e⟩:=I.tuple z
  have U:=a.length;exact len_tuple O (by simp only[MR]<;>omega) ⟨.int ys.length,H,I.tok _,⟨s.toks+1,by rw[MR,U]⟩,q⟩
theorem VB:Ja X (.builtin "len") (λxs H Q=>∃z,xs=[.str z]/\z.length<=gm/\Q (.int z.length) H):=by intro a s e H xs d Q I r h;obtain⟨z,rfl,O,q⟩:=h;obtain⟨u,rfl,t,rfl⟩:=vJ r;have b:=QA;exact len_str ⋯ ⟨.int z.length,H,I.tok _,⟨_,rfl⟩,q⟩
theorem VA:Ja X (.type "list") (λxs H Q=>∃p ys,xs=[.ref p]/\(gv X.K H p ys\/hB X.K H p ys)/\∀l,H l=ed->Q (.ref l) (upd H l (.lst ys))):=by
 intro g s B H xs C Q I r h;obtain⟨p,ys,rfl,U,q⟩:=h;obtain⟨u,rfl,A⟩:=vJ r;cases A;have t : ∀(z:List el),f9 ys z->ys.length<=gm->∀(a:gb) (O:Nat),(∀b x,s.heap.get? b=dn x->a.get? b=dn x)->
  a.get? s.heap.objs.size=dn {cls:= .type "list",dict:=ed,data:= .seq z.toArray O,slots:=#[]}->EP X g B Q (.ref s.heap.objs.size) {s with heap:=a}:=λz d Y a O f e=>
  ⟨.ref s.heap.objs.size,_,I.laid (t':=s.toks) f (MM _) (show lN X.prog X.w _ a _ (.lst ys)from⟨Y,z,O,d,e⟩),rfl,q _<|I.gj.fresh<|MM _⟩
 rcases U with U | U
 ·obtain⟨z,d,m,Y⟩:=I.list U
  have y:=d.length;obtain⟨o,k,i,n,j⟩:=m.isList;exact call_list_seq p (.inl rfl) k i j (λa O f e=>t z d Y a O f e) (by simp only[MR]<;>omega)
 ·obtain⟨z,d,m,Y⟩:=I.tuple U
  have y:=d.length;obtain⟨o,k,i,n,j⟩:=m;exact call_list_seq p (.inr rfl) k i j (λa O f e=>t z d Y a O f e) (by simp only[MR]<;>omega)
theorem Ya:Ja X (.type "tuple") (λxs H Q=>∃p ys,xs=[.ref p]/\((gv X.K H p ys/\∀l,H l=ed->Q (.ref l) (upd H l (.tup ys)))\/(hB X.K H p ys/\Q (.ref p) H))):=by
 intro a s i H xs t Q I r h;obtain⟨p,ys,rfl,h⟩:=h;obtain⟨u,rfl,m⟩:=vJ r;cases m;rcases h with⟨z,q⟩ | ⟨z,q⟩
 ·obtain⟨O,f,U,Y⟩:=I.list z
  have n:=f.length;refine call_tuple_list U.isList (λd k=>?_) (by simp only[MR]<;>omega);have g:Inv X a i H {s with heap:=d}:=I.kept (t':=s.toks) k;have j:Inv X a i (upd H d.objs.size (.tup ys)) {s with heap:=d.push {cls:= .type "tuple",data:= .seq O.toArray}}:=
   g.laid (t':=s.toks) (λb o e=>ME _ e) (MM _) (show lN X.prog X.w _ _ _ (.tup ys)from⟨Y,O,f,wh.new _ _⟩)
  exact⟨.ref d.objs.size,_,j,rfl,q _<|g.gj.fresh<|MM _⟩
 ·obtain⟨O,f,U,Y⟩:=I.tuple z
  exact call_tuple_same U ⟨.ref p,H,I,rfl,q⟩
noncomputable def i_(K:MC)(T:String)(x:V)(H:Hp):Prop:=match x with
 | .str _=>T = "str"
 | .int _=>T = "int"
 | .ref p=>(T = "list"/\∃b,gv K H p b)\/(T = "tuple"/\∃o,K.lookup p=dn o/\o.cls = .type "tuple"/\o.dict=ed)\/
  (T = "dict"/\((∃a,H p=dn (.dK a))\/∃a,H p=dn (.dT a)))\/(T = "set"/\∃S n,H p=dn (.set S n))
 | _=>False
theorem Bn(I:Inv X pins σ H s)(r:RelV x v)(ty:i_ X.K T x H) :
 s.TypeIs v T/\∀a,v = .ref a->∃Y,s.heap.get? a=dn Y/\Y.dict=ed:=by
 cases x with
 | str z=>
  obtain⟨t,rfl⟩:=r;cases (show T = "str" from ty);exact⟨j_ s z t,λ_ e=>nomatch e⟩
 | int i=>
  obtain⟨t,rfl⟩:=r;cases (show T = "int" from ty);exact⟨TL s i t,λ_ e=>nomatch e⟩
 | ref p=>
  cases r;rcases ty with⟨rfl,l,j⟩ | ⟨rfl,o,O,h,d⟩ | ⟨rfl,O⟩ | ⟨rfl,S,n,O⟩
  ·obtain⟨k,_,g,_⟩:=I.list j
   refine⟨g.isList.typeIs,λa e=>?_⟩;cases e;obtain⟨o,n,e,c,d,_⟩:=g;exact⟨o,e,d⟩
  ·refine⟨⟨o,I.m6 p o O,h⟩,λa e=>?_⟩
   cases e;exact⟨o,I.m6 _ o O,d⟩
  ·have z : ∃o,s.heap.get? p=dn o/\o.ExactDict:=by
    rcases O with⟨f,O⟩ | ⟨f,O⟩
    ·obtain⟨_,_,_,_,o,_,_,e,b,_⟩:=I.gj p _ O
     exact⟨o,e,b⟩
    ·obtain⟨_,_,_,_,o,_,_,e,b,_⟩:=I.gj p _ O
     exact⟨o,e,b⟩
   obtain⟨o,e,b⟩:=z;refine⟨⟨o,e,b.1⟩,λa U=>?_⟩;cases U;exact⟨o,e,b.2.1⟩
  ·obtain⟨o,_,_,_,e,b,_⟩:=I.gj p _ O
   refine⟨⟨o,e,b.1⟩,λa U=>?_⟩;cases U;exact⟨o,e,b.2.1⟩
 | _=>exact Pc ty
noncomputable def d_(K:MC)(T:String)(r:V->List V->Hp->VK->Prop)(to:TE)(t:TA):TE:=λb H Q=>to b H λx a=>i_ K T x a/\t b a λe d=>r x e d Q
variable{o e:e9}{es:List e9}{to:TE}{t:TA}{name:Str}{apos cpos:hL}{T id:String}{r:V->List V->Hp->VK->Prop}
theorem CT(Y:PlainAttrs T)(C:Slot T name id)(J:typeOf (.builtin id)=pure (.type "method_descriptor"))(hm:Ur X id r)(ho:PE X o to)(ha:PA X (e::es) t)
 (L:Uv o name X.env (fh o X.env)=fh o X.env:=by rfl)
 (S:((su cpos<|starEach (e::es) X.env).all (λx=> !x.1) && (Uw cpos<|keywordEach [] X.env).all (λx=>x.1.isSome)
   && decide ((e::es).length+([]:List D4).length+(if ([]:List D4).isEmpty then 0 else 1)<30))=d7:=by rfl)
 (Z:(apos.endLine==cpos.line)=d7:=by rfl) (hs:gu (e::es) X.env=(eh,fh e X.env)::gu es X.env:=by rfl) (a6:(su cpos<|starEach es X.env).any (·.1)=eh:=by rfl) :
 PE X (.Call (.Attribute o name apos) (e::es) [] cpos) (d_ X.K T r to t):=by
 intro a s b H Q I h;refine wpAny_Call_method_late L S Z rfl<|f6 (ho a s b H _ I h) λv p k=>?_;obtain⟨x,d,z,O,ty,l⟩:=k;obtain⟨i,j⟩:=Bn z O ty;refine⟨T,id,Y,C,J,i,j,?_⟩;have U:=ha cpos a p b d _ z l;rw[hs]at U ⊢;refine Calls.callWith_builtin (by show(eh || (su cpos<|starEach es X.env).any (·.1))=eh;rw[a6]<;>rfl)<|Calls.evalArgs_plain ?_;exact f6 U λw u ⟨y,f,g,n,m⟩=>hm a u b f x y v w Q g O n m
end
noncomputable def m_(X:Cx)(id:String)(r:V->List V->Hp->VK->Prop):Prop:=
 ∀(a:UQ) (s:eK) (e:St) (H:Hp) (x:V) (d:List V) (v:el) (b:List el) (Q:VK),Inv X a e H s->RelV x v->f9 d b->r x d H Q->
  wpAny (fe X.prog X.w) X.A (call (.builtin id) (v::b)) (EP X a e Q) X.xe s
theorem f9.one : ∀{x:V} {us:List el},f9 [x] us->∃u,us=[u]/\RelV x u
 | _,_,.cons r .nil=>⟨_,rfl,r⟩
theorem f9.dropLast(h:f9 xs us):f9 xs.dropLast us.dropLast:=by
 induction h with
 | nil=>exact .nil
 | cons r t z=>
  cases t with
  | nil=>exact .nil
  | cons q a=>exact .cons r z
theorem f9.rep(h:f9 xs us) : ∀k:Nat,f9 (MH k xs).flatten (MH k us).flatten
 | 0=> .nil
 | k+1=>by rw[OH,OH,Pf,Pf];exact f9.append h<|f9.rep h k
theorem QQ(z:List el) : ∀(k:Nat) (acc:List el),
 Tr (λx1 I=>x1++I) acc.toArray (MH k z.toArray)=(acc++(MH k z).flatten).toArray
 | 0,acc=>by simp
 | k+1,acc=>by
  have e:acc.toArray++z.toArray=(acc++z).toArray:=by simp
  have O:(acc++z)++(MH k z).flatten=acc++(MH (k+1) z).flatten:=by rw[OH,Pf,List.append_assoc]
  rw[<- O,<- QQ z k (acc++z),<- e,OH,List.foldl_cons]
section
variable{X:Cx}{pins:UQ}{σ:St}{H:Hp}{s:eK}{l b:ej}{xs ys zs:List V}
theorem Inv.U0{z its':List el}{n:Nat}{f:Array el->Array el}{t':Nat}(I:Inv X pins σ H s)(O:H l=dn (.lst xs))
 (e:s.heap.get? l=dn {cls:= .type "list",data:= .seq z.toArray n}) (U:f z.toArray=its'.toArray) (Y:f9 ys its') (C:ys.length<=gm) :
 Inv X pins σ (upd H l<|.lst ys) {s with heap:=s.heap.update l<|NC f,toks:=t'}:=by
 have q:=PySem.IsL.update e f;rw[U]at q;refine I.write (x:=l) (e:=l) (by rw[O];exact trivial) (.inl rfl) (λd u a b=>(Om s.heap (NC f)<|Ny a).trans b) ⟨_,q⟩ ?_;exact⟨C,its',_,Y,q⟩
theorem Inv.UU(I:Inv X pins σ H s)(O:f9 ys z)(U:ys.length<=gm) :
 Inv X pins σ (upd H s.heap.objs.size (.lst ys)) {s with heap:=s.heap.push {cls:= .type "list",data:= .seq z.toArray},toks:=t'}:=
 I.laid (λ_ _ q=>ME _ q) (MM _) ⟨U,z,0,O,MV _ rfl⟩
theorem Inv.fresh(I:Inv X pins σ H s):H s.heap.objs.size=ed:=I.gj.fresh<|MM _
theorem Inv.DU(I:Inv X pins σ H s)(U:H l=dn (.lst xs)):xs.length<=gm/\∃(O:List el) (n:Nat),f9 xs O/\xs.length=O.length/\s.heap.get? l=dn {cls:= .type "list",data:= .seq O.toArray n}:=by obtain⟨z,O,n,r,e⟩:=I.gj l _ U;exact⟨z,O,n,r,r.length,e⟩
theorem oB(h:n<=gm):RL n=eh:=by unfold RL;exact decide_eq_false ⋯
end
section
variable{X:Cx}
noncomputable def fE:V->List V->Hp->VK->Prop:=λx b H Q=>∃l a y,x = .ref l/\b=[y]/\H l=dn (.lst a)/\a.length<gm/\Q .ft (upd H l<|.lst<|a++[y])
theorem gI:m_ X "list.append" fE:=by intro a s m H x j v i Q I Y d h;obtain⟨l,k,y,rfl,rfl,O,g,q⟩:=h;cases Y;obtain⟨u,rfl,b⟩:=d.one;obtain⟨z,U,n,r,f,e⟩:=I.DU O;refine RJ F.slot_list_append ⟨_,e,rfl⟩ F.entry_list_append (F.args_list_append_2 _ _) (PySem.list_append l U.toArray n u (by rw[MR];omega)) ⟨e,?_⟩;refine⟨.ft,_,I.U0 (its':=U++[u]) O e ⋯ (r.append (.cons b .nil)) ?_,rfl,q⟩;rw[NZ,PD];omega
noncomputable def LP:R2:=λx y H Q=>∃l k a,x = .ref l/\y = .int k/\H l=dn (.lst a)/\ -(2 ^ 63)<=k/\k<2 ^ 63/\a.length*k.toNat<=gm/\
 ∀p,H p=ed->Q (.ref p) (upd H p<|.lst (MH k.toNat a).flatten)
theorem Wq(xs:List α)(k:Nat):(MH k xs).flatten.length=k*xs.length:=by
 induction k with
 | zero=>simp
 | succ k z=>rw[OH,Pf,NZ,z,Nat.succ_mul,Nat.add_comm]
theorem Eb:i9 X (t7 .Mult) LP:=by
 intro d s M H x y v u Q I E G h;obtain⟨l,k,L,rfl,rfl,B,w,A,b,q⟩:=h;cases E;obtain⟨t,rfl⟩:=G;obtain⟨z,O,n,r,C,e⟩:=I.DU B;have f:O.toArray.size*k.toNat<=gm:=by rw[MR,<- C];exact b
 have g : ¬O.toArray.size*k.toNat>(2 ^ 63 - 1)/8:=by
  have:(gm:Nat)<=(2 ^ 63 - 1)/8:=by decide
  omega
 have i : ¬(!Builtin.List.listFitsIndex k)=d7:=by rw[fitsIndex_both w A];exact Nq
 have j : ¬RL (O.toArray.size*k.toNat)=d7:=by rw[oB f];exact Nq
 have o:Tr (λx1 Y=>x1++Y) #[] (MH (if O.toArray.isEmpty=d7 then 0 else k.toNat) O.toArray)=(MH k.toNat O).flatten.toArray:=by
  have p : ∀m:Nat,Tr (λx1 Y=>x1++Y) #[] (MH m O.toArray)=(MH m O).flatten.toArray:=λm=>by have:=QQ O m [];rw[Ri]at this;exact this
  rw[p];cases O with
  | nil=>simp
  | cons a K=>rw[UY ⋯]
 refine _j (T:="list") (U:="int") ⋯ ⟨_,e,rfl⟩ (λJ=>TL J k t) noFill_list_mul F.fills_int_mul SS repeat_list F.slot_int_index.lookup
  (RJ SS (TL s k t) F.entry_int_rmul (F.args_int_rmul_2 _ _) (int___rmul___int_list k t l O.toArray n)
    ⟨e,rfl,⟨_,e,rfl⟩,RJ F.slot_list_mul ⟨_,e,rfl⟩ F.entry_list_mul (F.args_list_mul_2 _ _) (AutoListH.list___mul___list_int_3 l O.toArray n k t i g j) ⟨e,?_⟩⟩)
 rw[o];exact⟨.ref _,_,I.UU (t':=s.toks) (r.rep k.toNat) (by rw[Wq,SK];exact b),rfl,q _ I.fresh⟩
end
end L2
namespace Att
open PySem PySem.W PySem.Calls PyProof.Rows
theorem QH : ∀(C:List Int) (vs:List el),WellAll P h vs (C.map WData.int)->G6 vs C:=by
 intro C
 induction C with
 | nil=>
  intro vs w;rw[RD]at w;cases w;exact .nil
 | cons n C z=>
  intro vs w;rw[Nk]at w;cases w with
  | cons a b=>
   cases a;exact .cons _ _<|z _ b
theorem eV{l:OpenLaw}{n:Nat}(L:l.most=dn n){P:Params}{h:gb}{args:List WData}{O:List el}
 (U:l.row.toRowW.claim.pre args=d7) (J:WellAll P h O args) :
 ∃a vs C,O=[Oy a]/\args=[WData.list (C.map WData.int)]/\h.get? a=dn {cls:= .type "list",data:= .seq vs.toArray}/\G6 vs C/\C.length<=n:=by
 have b:WShape.hasAll [] args [.list .int]=d7:=(pre_splitW U).1;have Y:l.pre.holds [] {args:=args}=d7:=(pre_splitW U).2;obtain⟨d,r,rfl,g,i⟩:=hasAllW_cons b;obtain rfl:=hasAllW_nil i;obtain⟨s,rfl,j⟩:=hasW_list g;obtain⟨C,rfl⟩:=items_int j;have e:C.length<=n:=by
  unfold OpenLaw.pre at Y;have z:(WTm.not<|.lt (.lit<|.int (n:Int))<|.len<|.arg 0).holds [] {args:=[.list (C.map .int)]}=d7:=by have z:=(holds_andW Y).1;rw[L]at z;exact z
  have I:=condW_of z<|w_not<|w_lt w_lit<|w_len_list<|w_arg rfl;rw[Nf]at I;refine Nat.le_of_not_lt λq=>?_;have m:(n:Int)<((C.length:Nat):Int):=by omega
  first
   | (rw[decide_eq_true m]at I;exact absurd I ⋯)
   | (simp at I;omega)
 cases J with
 | cons o p=>
  cases p;cases o with
  | list k f=>exact⟨_,_,C,rfl,rfl,k,QH C _ f,e⟩
theorem fS(l:OpenLaw)(args:List WData):l.row.toRowW.claim.post args (.bool d7) args=d7:=
 postW_of (r:=l.row.toRowW) (X:=(d7==d7))
  (show WShape.has [] (.bool d7) .bool=d7 by first | rfl | decide | simp[WShape.has,WShape.arms,WShape.armsAll])
  (show(WTm.eq .res<|.lit<|.bool d7).value [] {args:=args,res:=dn (.bool d7),after:=args}=dn (.bool<|true==d7)from w_eq_bool (w_res rfl) w_lit) rfl
theorem AL{l:OpenLaw}{n:Nat}{q:i6}{O:List Str}{U:(Str->Option el)->gb->Prop}{YP:h9->gb->Prop}{d:DefRec}
 (hn:l.most=dn n) (a2:d.params.defaults=[])
 (call : ∀(w:h9) (nr z:eK) (L mb:UZ) (J:ej) (o:m3) (pm I C:el) (a:ej) (vs:List el) (S:List Int),
   Ground q O [] U w nr L mb z.heap->YP w z.heap->
   z.heap.get? J=dn o->o.data = .func (docDef d.name d.params d.body d.scope pm I C)->z.heap.CodeRec I d.name->L d.name=dn (.ref J)->
   z.heap.get? a=dn {cls:= .type "list",data:= .seq vs.toArray}->G6 vs S->S.length<=n->z.gens = #[]->
   codeAny (fe l.prog w) Dx (.call (.ref J) ⟨[.ref a],[]⟩) (λr Z=>r = .ok (.ret<|.bool d7)/\OldK z.heap Z.heap/\Z.os=z.os/\C6 Z.gens) z) :
 WalkO q O U YP l.row.toRowW d [] (λf vs=>PySem.call f vs):=by
 intro w nr z L mb G Y J o pm I C s kV E y g e h A b H as i K M j N;obtain rfl:s = .none:=Dflts.none e a2;obtain rfl:kV = .none:=Dflts.noKw e;obtain⟨a,vs,S,rfl,rfl,k,m,p⟩:=eV hn i j;refine enter_call<|Ht (call w nr z L mb J o pm I C a vs S G Y E (fd_plain y) g h k m p A) λr Z F=>?_;obtain⟨rfl,t,u,x⟩:=F;exact⟨.inl ⟨.bool d7,.bool d7,[],rfl,λ_=>rfl,.bool d7,fS l _,λ_=>⟨PK.nil,λ_ B=>(nomatch B)⟩⟩,t,u,x⟩
end Att
namespace L2
open PySem PySem.Spec PyProof.Rows
theorem we : ∀{vs:List el} {C:List Int},G6 vs C->f9 (C.map V.int) vs
 | _,_,.nil=> .nil
 | _,_,.cons n t h=> .cons ⟨t,rfl⟩ (we h)
def Gw(H:Hp):Prop:=∀b,H b=ed\/∃o a,H b=dn (.sm o<|.lst a)
theorem oN{P:i6}{w:h9}{K:MC}{J mb:UZ}{CX:tw}{k:Nat}{Z a:ej}{fd:p8}{x:Str}{sp:Sp}{I:eK}{vs:List el}{L:List Int}
 (KX:K.In I.heap) (a3:I.heap.Ns s9 J) (O:I.heap.Ns Uy mb) (ac : ∀x:Str,x ≠ "__name__"->mb x=A7 x) (ak:I.heap.NoLimit) (hg:I.gens = #[])
 (S:I.heap.get? a=dn {cls:= .type "list",data:= .seq vs.toArray}) (hi:G6 vs L) (hl:L.length<=gm) (hr:m8 k Dx)
 (F : ∀base:gb,K.In base->base.Ns s9 J->p6 P w K J base CX k Z fd [x] sp) (ap : ∀(s:eK) (u:el),Gx s fd ⟨[u],[]⟩ [(x,u)])
 (ar : ∀H:Hp,Gw H->gv K H a (L.map V.int)->sp [.ref a] H (λv _=>v = .bl d7) λ_ _ _=>False)
 (as : ∀H e C,CX [] H I (λ_ _ _=>False) e C->False) :
 codeAny (fe P w) Dx (.call (.ref Z) ⟨[.ref a],[]⟩) (λr C=>r = .ok (.ret<|.bool d7)/\OldK I.heap C.heap/\C.os=I.os/\C6 C.gens) I:=by
 have E:=we hi;have G:=hi.length;have p : ∀H:Hp,Gw H->gv K H a (L.map V.int)->l5 P w H I.heap->(∀b,H b≠ed->b=a)->(H a≠ed->K.lookup a=ed)->
  codeAny (fe P w) Dx (.call (.ref Z) ⟨[.ref a],[]⟩) (λr C=>r = .ok (.ret<|.bool d7)/\OldK I.heap C.heap/\C.os=I.os/\C6 C.gens) I:=by
  intro H B hS j A hK;have f : ∀{b:ej} {o:m3},I.heap.get? b=dn o->H b=ed->(oY I.heap H).get? b=dn o:=λe n=>oX e n;have b6 : ∀{b:ej} {o:m3} {i:Array DictEntry} {U:Nat},I.heap.get? b=dn o->o.data = .dict i U->H b=ed:=λ{b o i U} e d=>by
   cases q:H b with
   | none=>rfl
   | some u=>
    have l:b=a:=A b (by rw[q];simp);subst l;rw[S]at e;cases e;have N:Data.seq vs.toArray _=Data.dict i U:=d;cases N
  have a0 : ∀{b:ej} {m:UZ},I.heap.Ns b m->(oY I.heap H).Ns b m:=λ{b m} ⟨o,i,U,e,d,r⟩=>⟨o,i,U,f e<|b6 e d,d,r⟩;have t:K.In (oY I.heap H):=λb o e=>f (KX b o e) (by
   cases q:H b with
   | none=>rfl
   | some u=>
    have l:b=a:=A b (by rw[q];simp);subst l;rw[hK (by rw[q];simp)]at e;cases e)
  have hM:Mod K J (oY I.heap H):=⟨t,a0 a3,⟨mb,a0 O,ac⟩,let ⟨mc,W,X⟩:=ak;⟨mc,a0 W,X⟩⟩;have Q:A4 P w K J (oY I.heap H) Dx [] I H:=⟨rfl,hM,λb o e=>uP e,Nat.le_of_eq<|iq _ _,trivial,λb O=>absurd (show b∈([]:List ej)from O) ⋯,j,.of_eq hg⟩;refine Ht ((F _ t<|a0 a3).run Dx [] I H ⟨[.ref a],[]⟩ [.ref a] [.ref a] _ _ hr Q (ap I<|.ref a) (.cons rfl .nil) (ar H B hS)) λr C h=>?_;cases r with
  | error e=>exact(as H e C h).elim
  | ok T=>
   cases T with
   | next=>exact Pc h
   | brk=>exact Pc h
   | cont=>exact Pc h
   | ret u=>
    obtain⟨v,H',os,g,un,M,r',q⟩:=h;have q':v = .bl d7:=q;subst q';obtain rfl:u=Value.bool d7:=r';refine⟨rfl,OldK.of_keep λb o e=>?_,os,g⟩;cases q:H b with
    | none=>exact un.keep b o e q (by intro z;exact absurd (show b∈([]:List ej)from z) ⋯) ⋯
    | some u=>
     rcases B b with z | ⟨ob,xs,z⟩
     ·rw[q]at z;cases z
     ·have z2:=un.Df b ob _ z
      obtain⟨y,_⟩:=j b _ z;obtain⟨R,_⟩:=M b _ z2;rw[e]at y;cases y;exact R
 cases hk:K.lookup a with
 | some o=>
  have e:=KX a o hk;rw[S]at e;cases e;refine p (λ_=>ed) (λ_=> .inl rfl) (.inr ⟨_,vs.toArray,_,hk,rfl,rfl,rfl,by rw[MR,G];exact hl,by simpa using E⟩) (λb u z=>by have Y:(ed:Option HO)=dn u:=z;cases Y) (λb z=>absurd rfl z) λz=>absurd rfl z
 | none=>
  refine p (λb=>if b=a then dn (.sm {cls:= .type "list",data:= .seq vs.toArray} (.lst (L.map V.int)))else ed) (λb=>?_) (.inl (.inr ⟨{cls:= .type "list",data:= .seq vs.toArray},UJ rfl⟩)) (λb u z=>?_) (λb z=>?_) λ_=>hk
  ·by_cases O:b=a
   ·exact .inr ⟨_,_,UJ O⟩
   ·exact .inl<|UY O
  ·by_cases O:b=a
   ·have Y:=(UJ O).symm.trans z
    cases Y;subst O;exact⟨S,by rw[Nf];exact hl,vs,_,E,S⟩
   ·have Y:=(UY O).symm.trans z
    cases Y
  ·by_cases O:b=a
   ·exact O
   ·exact absurd (UY O) z
abbrev G7{K:MC}{h:gb}(_:K.In h):MC:=K
theorem sG{l:PySem.W.OpenLaw}{n k:Nat}{q:i6}{U:List Str}{XP:(Str->Option el)->gb->Prop}{z:h9->gb->Prop}{d:DefRec}{K:Params->MC}{CX:h9->tw}{sp:h9->Sp}{x:Str}
 (hn:l.most=dn n) (a1:n<=gm) (a2:d.params.defaults=[]) (hr:m8 k Dx)
 (hY : ∀(w:h9) (h:gb),z w h->(K w.params).In h)
 (F : ∀(w:h9) (C:UZ) (J:ej) (h:gb),(K w.params).In h->h.Ns s9 C->C d.name=dn (.ref J)->
   ∃S:p8,(∀(s:eK) (u:el),Gx s S ⟨[u],[]⟩ [(x,u)])/\
    ∀base:gb,(K w.params).In base->base.Ns s9 C->p6 l.prog w (K w.params) C base (CX w) k J S [x] (sp w))
 (a5 : ∀(w:h9) (H:Hp) (a:ej) (L:List Int),L.length<=n->Gw H->gv (K w.params) H a (L.map V.int)->sp w [.ref a] H (λv _=>v = .bl d7) λ_ _ _=>False)
 (a6 : ∀(w:h9) (H:Hp) (s:eK) (e:el) (Z:eK),CX w [] H s (λ_ _ _=>False) e Z->False) :
 PySem.W.WalkO q U XP z l.row.toRowW d [] (λf vs=>PySem.call f vs):=by
 refine Att.AL hn a2 λw j i C X J o pm P t a vs L G Y R Q N m p r I M=>?_;have O:=hY w _ Y;obtain⟨S,E,y⟩:=F w C J _ O G.T.g m;exact oN O G.T.g G.T.b G.T.builtins G.T.nolimit M p r (Of I a1) hr y E (λH A B=>a5 w H a L I A B) λH e Z=>a6 w H i e Z
theorem Fy{l:PySem.W.OpenLaw}{n k:Nat}{q:i6}{I:List Str}{O:(Str->Option el)->gb->Prop}{z:h9->gb->Prop}{d:DefRec}{K:Params->MC}{CX:tw}{sp:MC->Sp}{x:Str}
 (hn:l.most=dn n) (U:n<=gm) (Y:d.params.defaults=[]) (hr:m8 k Dx)
 (hY : ∀(w:h9) (h:gb),z w h->(K w.params).In h)
 (F : ∀(w:h9) (C:UZ) (S:ej) (h:gb),(K w.params).In h->h.Ns s9 C->C d.name=dn (.ref S)->
   ∃Z:p8,(∀(s:eK) (u:el),Gx s Z ⟨[u],[]⟩ [(x,u)])/\
    ∀base:gb,(K w.params).In base->base.Ns s9 C->p6 l.prog w (K w.params) C base CX k S Z [x] (sp<|K w.params))
 (a2 : ∀(K:MC) (H:Hp) (a:ej) (J:List Int),J.length<=n->Gw H->gv K H a (J.map V.int)->sp K [.ref a] H (λv _=>v = .bl d7) λ_ _ _=>False)
 (a3 : ∀(H:Hp) (s:eK) (e:el) (L:eK),CX [] H s (λ_ _ _=>False) e L->False) :
 PySem.W.WalkO q I O z l.row.toRowW d [] (λf vs=>PySem.call f vs):=
 sG (K:=K) (CX:=λ_=>CX) (sp:=λw=>sp<|K w.params) hn U Y hr hY F (λw H a J b g i=>a2 (K w.params) H a J b g i) λ_ H s e L=>a3 H s e L
noncomputable def QU(s:k4):Arguments:=match s with
 | .FunctionDef _ a _ _ _ _ _ _ _ _=>a
 | _=>{posonlyargs:=[],args:=[],vararg:=ed,kwonlyargs:=[],kw_defaults:=[],kwarg:=ed,defaults:=[]}
noncomputable def yF(s:k4):List k4:=match s with
 | .FunctionDef _ _ b _ _ _ _ _ _ _=>b
 | _=>[]
noncomputable def jY(s:k4):ij:=match s with
 | .FunctionDef _ _ _ _ _ _ a _ _ _=>a
 | _=>{kind:= .function,names:=[],isGenerator:=eh,isCoroutine:=eh}
abbrev qs:tw:=λ_ _ _ _ _ _=>False
abbrev E0:XK:=λ_ _ _=>False
theorem CY:mi qs X E0:=λ_ _ _ _ _ _ _ h=>h.elim
structure Dp(K:MC)(x qual:Str)(st:k4)(f:ej)(fd:p8):Prop where
 ex : ∃(oc:el) (od:Option ej) (kV doc pm:el) (an:Option ej) (UA ct:el) (S7:Array (Option el)),
  fd=Rp x qual (QU st) (yF st) (jY st) .none kV doc pm an UA ct/\K.lookup f=dn ⟨oc,od,.func fd,S7⟩/\SE K UA qual=d7
 kp:RR K (.ref f)=d7
section
variable{P:i6}{w:h9}{K:MC}{mg:UZ}{base:gb}
theorem Dp.ok{x qual:Str}{st:k4}{f:ej}{J:p8}{N ps:List Str}{k:Nat}{sp:Sp}(F:Dp K x qual st f J)(S:D1 N ps (jY st))(len : ∀vs H Q E,sp vs H Q E->vs.length=ps.length)
 (z : ∀(C:el) (A:mu) (outer:List n6) (s:eK) (H:Hp) (vs:List V) (Q:VK) (E:XK),m8 k (A.deeper<|envOfC qual (jY st) s.heap.objs.size f C)->sp vs H Q E->
   ∃t,q5 (Ax qs P w K mg base N qual (jY st) f C A outer s H E).E8 (yF st) t/\t {nx:=λ_ H'=>Q .ft H',rt:=Q} (ZT N vs) H):p6 P w K mg base qs (k+1) f J ps sp:=by
 obtain⟨g,i,kV,a,j,d,C,e,b,rfl,lk,I⟩:=F.ex;refine HC lk I S len λA outer s H vs Q E O U=>?_;obtain⟨t,h,q⟩:=z C A outer s H vs Q E O U;exact⟨t,h.E8,q⟩
theorem EI{x qual:Str}{st:k4}{f:ej}{S:el}{Y L:Option ej}{J:Array (Option el)}{kV I O C ct:el}(l:K.lookup f=dn ⟨S,Y,.func<|Rp x qual (QU st) (yF st) (jY st) .none kV I O L C ct,J⟩)
 (c:SE K C qual=d7) (k:RR K (.ref f)=d7):Dp K x qual st f (Rp x qual (QU st) (yF st) (jY st) .none kV I O L C ct):=⟨⟨S,Y,kV,I,O,L,C,ct,J,rfl,l,c⟩,k⟩
end
def g8(H H':Hp):Prop:=∀b o,H b=dn o->H' b=dn o
theorem g8.refl(H:Hp):g8 H H:=λ_ _ h=>h
theorem g8.trans(a:g8 H H1)(b:g8 H1 H2):g8 H H2:=λc o h=>b c o<|a c o h
theorem g8.free(e:g8 H H')(h:H' l=Option.none):H l=Option.none:=by
 cases q:H l with
 | none=>rfl
 | some o=>
  rw[e l o q]at h;cases h
theorem g8.seq{K:MC}{H H':Hp}{a:ej}{xs:List V}(e:g8 H H')(h:gv K H a xs):gv K H' a xs:=by
 rcases h with(h | ⟨o,h⟩) | h
 ·exact .inl<|.inl<|e _ _ h
 ·exact .inl<|.inr ⟨o,e _ _ h⟩
 ·exact .inr h
noncomputable def Ym(cells:List (Str×ej)):List (Str×uh)->List (Str×ej)->List (Str×ej)
 | [],acc=>acc
 | (n,k)::r,acc=>Ym cells r<|if k==NB then (match cells.lookup n with | some c=>(n,c)::acc | none=>acc)else acc
theorem vi(f:Str×uh->List (Str×ej)->Sem (ForInStep<|List<|Str×ej))
 (I : ∀name kind O,f (name,kind) O=if kind==NB then (do let a <- cellOf env name;pure (.yield ((name,a)::O)))else pure (.yield O)) :
 ∀(names:List (Str×uh)) (acc:List (Str×ej)),(∀n,(n,NB)∈names->∃c,env.cells.lookup n=dn c)->
  forIn names acc f=(pure (Ym env.cells names acc):Sem _)
 | [],acc,_=>by rw[Sb];rfl
 | (n,k)::r,acc,h=>by
  rw[RP,I];have U : ∀n,(n,NB)∈r->∃c,env.cells.lookup n=dn c:=λm d=>h m<|MT _ d;unfold Ym;by_cases z:(k==NB)=d7
  ·rw[UJ z,UJ z]
   have b:k=NB:=by simpa using z
   subst b;obtain⟨c,Y⟩:=h n MX;have e:cellOf env n=pure c:=by unfold cellOf;rw[Y]
   rw[e,Y];exact vi f I r _ U
  ·rw[UY z,UY z]
   exact vi f I r acc U
theorem K9(h : ∀n,(n,NB)∈scope.names->∃c,env.cells.lookup n=dn c) :
 closureFor scope env=pure (Ym env.cells scope.names []):=by
 simp only[closureFor];rw[vi (env:=env) _ (λb a z=>by cases hk:a==NB<;>simp[hk]) scope.names [] h];rfl
theorem k5
 (z:Q {scope:=scope,locals:=s.heap.objs.size,globals:=globals,cells:=sh (s.heap.objs.size+1) scope.names cl,qual:=qual,func:=ed,code:=env.code,frame:=env.frame,builtins:=env.builtins}
   {s with heap:=Dg (s.heap.push {cls:= .type "dict",data:= .dict #[]}) scope.names}) :
 wpAny M A (U2 scope globals cl [] qual ed .none (dn env)) Q E s:=by
 simp only[U2,Option.isSome_some,if_true];refine MA (wpAny_alloc ?_);refine MA (wpAny_layCells _ (λb a cells=>by cases O':a==Pd<;>simp[O']) _ _ _ _ ?_);rw[show({s with heap:=s.heap.push {cls:= .type "dict",data:= .dict #[]}}:eK).heap.objs.size=s.heap.objs.size+1 from Nz ..];exact MA (MN (MN z))
theorem aP : ∀{names:List (Str×uh)} {acc:List (Str×ej)},(n,c)∈Ym cells names acc->(n,c)∈acc\/((n,NB)∈names/\cells.lookup n=dn c)
 | [],acc,h=> .inl h
 | (m,k)::r,acc,h=>by
  unfold Ym at h;rcases aP h with g | ⟨h1,h2⟩
  ·clear h
   by_cases z:(k==NB)=d7
   ·rw[UJ z]at g
    have I:k=NB:=by simpa using z
    subst I;cases e:cells.lookup m with
    | none=>rw[e]at g;exact .inl g
    | some O=>
     rw[e]at g;rcases MS.mp g with g | g
     ·cases g;exact .inr ⟨MX,e⟩
     ·exact .inl g
   ·rw[UY z]at g;exact .inl g
  ·exact .inr ⟨MT _ h1,h2⟩
theorem J7 : ∀{names:List (Str×uh)} {acc:List (Str×ej)},((acc.lookup n).isSome=d7\/((n,NB)∈names/\(cells.lookup n).isSome=d7))->((Ym cells names acc).lookup n).isSome=d7
 | [],acc,h=>by
  rcases h with h | ⟨h,_⟩
  ·exact h
  ·cases h
 | (m,k)::r,acc,h=>by
  unfold Ym;apply J7;by_cases z:(k==NB)=d7
  ·rw[UJ z]
   have O:k=NB:=by simpa using z
   subst O;cases e:cells.lookup m with
   | none=>
    rcases h with h | ⟨h1,h2⟩
    ·exact .inl h
    ·rcases MS.mp h1 with h1 | h1
     ·cases h1;rw[e]at h2;cases h2
     ·exact .inr ⟨h1,h2⟩
   | some U=>
    dsimp only;by_cases I:n=m
    ·subst I;left;simp
    ·rcases h with h | ⟨h1,h2⟩
     ·left;rw[Og];split<;>simp_all
     ·rcases MS.mp h1 with h1 | h1
      ·cases h1;exact absurd rfl I
      ·exact .inr ⟨h1,h2⟩
  ·rw[UY z]
   rcases h with h | ⟨h1,h2⟩
   ·exact .inl h
   ·rcases MS.mp h1 with h1 | h1
    ·cases h1;exact absurd rfl z
    ·exact .inr ⟨h1,h2⟩
theorem kz : ∀{names:List (Str×uh)} {k:Nat} {acc:List (Str×ej)},(n,c)∈sh k names acc->(n,c)∈acc\/(k<=c/\(n,Pd)∈names)
 | [],_,_,h=> .inl h
 | (m,kd)::r,k,acc,h=>by
  unfold sh at h;split at h
  ·rename_i z
   have I:kd=Pd:=by simpa using z
   subst I;rcases kz h with h | ⟨h1,h2⟩
   ·rcases MS.mp h with h | h
    ·cases h;exact .inr ⟨MM _,MX⟩
    ·exact .inl h
   ·exact .inr ⟨by omega,MT _ h2⟩
  ·rcases kz h with h | ⟨h1,h2⟩
   ·exact .inl h
   ·exact .inr ⟨h1,MT _ h2⟩
theorem yD : ∀{names:List (Str×uh)} {k:Nat} {acc:List (Str×ej)},(∀p∈acc,∀q∈acc,p.2=q.2->p.1=q.1)->(∀p∈acc,p.2<k)->
 ∀p∈sh k names acc,∀q∈sh k names acc,p.2=q.2->p.1=q.1
 | [],_,_,h,_=>h
 | (m,kd)::r,k,acc,h,hl=>by
  unfold sh;split
  ·refine yD (λp z q I e=>?_) (λp z=>?_)
   ·rcases MS.mp z with rfl | z<;>rcases MS.mp I with rfl | I
    ·rfl
    ·have O:k=q.2:=e
     exact absurd (O ▸ hl q I)<|NW _
    ·have O:p.2=k:=e
     exact absurd (O ▸ hl p z)<|NW _
    ·exact h p z q I e
   ·rcases MS.mp z with rfl | z
    ·exact OM _
    ·exact NT<|hl p z
  ·exact yD h hl
theorem QX : ∀{names:List (Str×uh)} {h:gb} {acc:List (Str×ej)} {n:Str} {c:ej},(n,c)∈sh h.objs.size names acc->(n,c)∈acc\/(Dg h names).IsCell c ed
 | [],_,_,_,_,hm=> .inl hm
 | (m,kd)::r,h,acc,n,c,hm=>by
  unfold sh at hm;unfold Dg;split at hm
  ·rename_i z
   rw[UJ z];have e:h.objs.size+1=(h.push {cls:= .type "cell",data:= .cell ed}).objs.size:=(Nz ..).symm;rw[e]at hm;rcases QX hm with hm | hm
   ·rcases MS.mp hm with hm | hm
    ·cases hm
     have I:(h.push {cls:= .type "cell",data:= .cell ed}).IsCell h.objs.size ed:=⟨{cls:= .type "cell",data:= .cell ed},MV _ rfl,rfl⟩;exact .inr (I.keeps λb o q=>Sg _ _ b o q)
    ·exact .inl hm
   ·exact .inr hm
  ·rename_i z
   rw[UY z];exact QX hm
theorem vC{J:Type}{l:List (Str×J)}(C:(l.map (·.1)).Nodup) : ∀{n:Str} {a:J},(n,a)∈l->l.lookup n=dn a:=by
 induction l with
 | nil=>intro n a h;cases h
 | cons p r z=>
  intro n a h;obtain⟨m,b⟩:=p;rw[Nk,Oq]at C;rw[Og];rcases MS.mp h with h | h
  ·cases h;simp
  ·have I:(n==m)=eh:=by
    have:n≠m:=λe=>C.1 (by rw[<- e];exact Nb.mpr ⟨(n,a),h,rfl⟩);simpa using this
   rw[I];exact z C.2 h
theorem vN(scope:ij)(env:n6)(x:Str):(u9 scope env).names.lookup x =
 (scope.names.lookup x).map λk=>if (k==NB && env.scope.kind == .function && env.kindOf x==dn .cell)then Pd else k:=by
 unfold u9;dsimp only;generalize scope.names=l
 induction l with
 | nil=>rfl
 | cons p r I=>
  obtain⟨n,k⟩:=p;rw[Nk];cases hx:x==n with
  | true=>
   have e:x=n:=by simpa using hx
   subst e;rw[Og,Og];dsimp only;by_cases z:(k==NB && env.scope.kind == .function && env.kindOf x==dn .cell)=d7
   ·rw[UJ z,beq_self_eq_true];dsimp only[Th];rw[UJ z]
   ·rw[UY z,beq_self_eq_true];dsimp only[Th];rw[UY z]
  | false=>
   have : ∀O,List.lookup x ((n,O)::(r.map λx=>match x with | (n,k)=>if (k==NB && env.scope.kind == .function && env.kindOf n==dn .cell)=d7 then (n,Pd)else (n,k)))=List.lookup x (r.map λx=>match x with | (n,k)=>if (k==NB && env.scope.kind == .function && env.kindOf n==dn .cell)=d7 then (n,Pd)else (n,k)):=λO=>by rw[Og,hx]
   rw[Og (k:=n),hx];dsimp only;split
   ·rw[this];exact I
   ·rw[this];exact I
noncomputable def wZ(scope:ij)(env:n6)(L:ej):n6:=
 {scope:=u9 scope env,locals:=L,globals:=env.globals,cells:=sh (L+1) scope.names<|Ym env.cells scope.names [],qual:=env.qual,func:=ed,code:=env.code,frame:=env.frame,builtins:=env.builtins}
noncomputable def jJ(X:Cx)(scope:ij)(J:List Str)(fp:List ej)(C:eK)(I:Hp):Cx:=
 {X with N:=J,nr:=C,D2:=I,env:=wZ scope X.env<|C.heap.objs.size+1,outer:=X.stack,stack:=X.stack,ex:=fp,fn:=λx=>scope.names.lookup x==dn .cell,pn:=[],xe:=λ_ _=>False}
structure rr(X:Cx)(scope:ij)(fr:List (Str×Nat)):Prop where
 kind:scope.kind = .function
 nd:(scope.names.map (·.1)).Nodup
 free : ∀p∈scope.names,p.2=NB->X.env.kindOf p.1=dn .cell\/X.env.kindOf p.1=dn .free
 fr : ∀p∈fr,scope.names.lookup p.1=dn .free/\X.N[p.2]? = dn p.1
noncomputable def nJ(own:List Str)(C:List (Str×Nat))(I:St):St:=own.map (λ_=>ed)++C.map λp=>(I[p.2]?).join
abbrev Wp:m3:={cls:= .type "list",data:= .seq #[]}
abbrev sj:m3:={cls:= .type "dict",data:= .dict #[]}
theorem oU{X:Cx}{L:UQ}{Z:St}{S:Hp}{C:eK}{scope:ij}{own:List Str}{J:List (Str×Nat)}{fp:List ej}(I:Inv X L Z S C)(ok:rr X scope J)
 (a4 : ∀b∈fp,ZO X L S b) (b0 : ∀b∈fp,∃o,C.heap.get? b=dn o) :
 Inv (jJ X scope (own++J.map (·.1)) fp C S) [] (nJ own J Z) (upd S C.heap.objs.size<|.lst []) {C with heap:=Dg ((C.heap.push Wp).push sj) scope.names}:=by
 have K:(C.heap.push Wp).objs.size=C.heap.objs.size+1:=Nz ..;have z2:((C.heap.push Wp).push sj).objs.size=C.heap.objs.size+2:=by rw[Nz,K]
 have a0 : ∀n c,(n,c)∈Ym X.env.cells scope.names []->(n,NB)∈scope.names/\X.env.cells.lookup n=dn c:=λn c h=>(aP h).resolve_left ⋯;have ak : ∀n c,X.env.cells.lookup n=dn c->c<C.heap.objs.size:=λn c h=>by obtain⟨v,q⟩:=I.cell n c h;exact q.lt
 have M : ∀p∈Ym X.env.cells scope.names [],p.2<C.heap.objs.size+1+1:=λp U=>by exact NT<|NT<|ak p.1 p.2 (a0 p.1 p.2 U).2
 have hC:(wZ scope X.env<|C.heap.objs.size+1).cells=sh (C.heap.objs.size+2) scope.names (Ym X.env.cells scope.names []):=rfl;have a : ∀x c,(wZ scope X.env<|C.heap.objs.size+1).cells.lookup x=dn c->((x,NB)∈scope.names/\X.env.cells.lookup x=dn c)\/(C.heap.objs.size+2<=c/\(x,Pd)∈scope.names):=λx c h=>by
  rcases kz (mem_of_lookup h)with h | h
  ·exact .inl<|a0 x c h
  ·exact .inr h
 have B : ∀x,(x,NB)∈scope.names->∃c,X.env.cells.lookup x=dn c/\(wZ scope X.env<|C.heap.objs.size+1).cells.lookup x=dn c:=λx l=>by
  obtain⟨c,d⟩:=I.ok.has x<|ok.free (x,.free) l rfl;have t:((Ym X.env.cells scope.names []).lookup x).isSome=d7:=J7<|.inr ⟨l,by rw[d];rfl⟩;have j:=Rh scope.names (C.heap.objs.size+2) (Ym X.env.cells scope.names [])<|.inr t;obtain⟨G,E⟩:=OK.mp j;refine⟨c,d,?_⟩;rcases a x G E with⟨_,q⟩ | ⟨_,q⟩
  ·rw[d]at q;cases q;exact E
  ·exact absurd ((vC ok.nd q).symm.trans (vC ok.nd l)) ⋯
 have keep : ∀b o,C.heap.get? b=dn o->(Dg ((C.heap.push Wp).push sj) scope.names).get? b=dn o:=λb o e=>
  Sg _ _ b o (ME _<|ME _ e)
 have ar : ∀b∈fp,b<C.heap.objs.size:=λb O=>by obtain⟨o,e⟩:=b0 b O;exact Na e
 have fresh:S C.heap.objs.size=ed:=I.gj.fresh<|MM _;have as : ∀c,C.heap.objs.size<c->(upd S C.heap.objs.size<|.lst []) c=ed:=λc d=>by rw[zN (OF d)];exact I.gj.fresh<|SM d
 obtain⟨m0,N⟩ : ∃m,(Dg ((C.heap.push Wp).push sj) scope.names).Ns (C.heap.objs.size+1) m:=by have q:=(Heap.Ns.new (C.heap.push Wp) (.type "dict")).keeps (λb o e=>Sg scope.names _ b o e);rw[K]at q;exact⟨_,q⟩
 refine⟨⟨I.ok.mod,ok.kind,I.ok.glob,I.ok.blt,RU _,λx y c t j=>?_,λx l=>?_,λx c hf h=>?_,I.ok.hd,I.ok.frames,.inl rfl,λb O=>⟨?_,λx c h z=>?_⟩,λb o e=>I.bs b o e,?_,λb o e O=>?_,λb O hs=>?_,I.stack,I.b_⟩,
  rfl,I.bare,Un.laid keep (MM _) fresh,⟨m0,N,λi x v H Y e3=>?_⟩,λx c h=>?_,?_,λx c h=>?_,λp U=>?_,?_,?_⟩
 ·have q:=yD (names:=scope.names) (k:=C.heap.objs.size+2) (acc:=Ym X.env.cells scope.names []) (λp U q hq e=>I.ok.inj p.1 q.1 p.2 (a0 _ _ U).2 (by rw[e];exact(a0 _ _ hq).2)) M
  exact q (x,c) (mem_of_lookup t) (y,c) (mem_of_lookup j) rfl
 ·have f:(u9 scope X.env).names.lookup x=dn .cell\/(u9 scope X.env).names.lookup x=dn .free:=l
  have:scope.names.lookup x=dn .cell\/scope.names.lookup x=dn .free:=by
   rw[vN]at f;cases e:scope.names.lookup x with
   | none=>rw[e]at f;simp at f
   | some k=>
    rw[e]at f;cases k<;>simp at f ⊢
  rcases this with h | h
  ·exact OK.mp<|Rh scope.names _ _<|.inl h
  ·obtain⟨c,_,j⟩:=B x<|mem_of_lookup h;exact⟨c,j⟩
 ·have P:(scope.names.lookup x==dn .cell)=d7:=hf
  have Q:scope.names.lookup x=dn .cell:=by simpa using P
  rcases a x c h with⟨q,_⟩ | ⟨q,_⟩
  ·exact absurd ((vC ok.nd q).symm.trans Q) ⋯
  ·exact Of (Nv _ 2) q
 ·exact Nt<|NT<|ar b O
 ·rcases a x c h with⟨_,q⟩ | ⟨q,_⟩
  ·exact(a4 b O).2.2.2.2.1 x c q z
  ·exact absurd (Ng (ar b O)<|Of (Nv _ 2)<|z ▸ q)<|NW _
 ·exact Of I.ok.xc I.sz
 ·rcases (a4 b O).2.2.2.1 with q | q
  ·exact I.ok.E7 b o e q
  ·exact absurd (Ng (Na e)<|Of I.ok.xc q)<|NW _
 ·rcases MS.mp (I.Ua b hs)with q | q
  ·exact(a4 b O).2.1 q
  ·exact(a4 b O).2.2.1 q
 ·have hi:i<(own++J.map (·.1)).length:=(MU.mp H).1
  by_cases s:i<own.length
  ·unfold nJ at Y
   rw[Oc (by simpa using s)]at Y;simp[Nw,s]at Y
  ·have hj : ∃p,J[i - own.length]? = dn p/\p.1=x/\(Z[p.2]?).join=dn v:=by
    unfold nJ at Y;have g:(own++J.map (·.1))[i]? = dn x:=H;rw[NN ⋯,Nw]at g;rw[NN (by simpa using s),Nw,Nf]at Y;cases q:J[i - own.length]? with
    | none=>rw[q]at g;cases g
    | some p=>
     rw[q]at g Y;exact⟨p,rfl,by simpa using g,by simpa using Y⟩
   obtain⟨p,U,R,r⟩:=hj;obtain⟨g1,g2⟩:=ok.fr p<|NQ U;rw[R]at g1 g2;have w:Z[p.2]? = dn (dn v):=by
    cases q:Z[p.2]? with
    | none=>rw[q]at r;cases r
    | some o=>rw[q]at r;simpa using r
   have F:=ok.free (x,.free) (mem_of_lookup g1) rfl;obtain⟨m,hn,hl⟩:=I.loc;obtain⟨u,ru,lk⟩:=hl p.2 x v g2 w (by rcases F with k | k;exact .inr<|.inl k;exact .inr<|.inr k);refine⟨u,ru,.inr ?_⟩;obtain⟨c,T,W⟩:=B x<|mem_of_lookup g1;have bx:C.heap.IsCell c (dn u):=by
    rcases lk with⟨k,_⟩ | ⟨_,G,e,z⟩
    ·rcases F with k' | k'<;>rw[k]at k'<;>cases k'
    ·rw[T]at e;cases e;exact z
   refine⟨?_,c,W,bx.keeps keep⟩;show(u9 scope X.env).names.lookup x=dn .cell\/(u9 scope X.env).names.lookup x=dn .free;rw[vN,g1];dsimp only[Th];split
   ·exact .inl rfl
   ·exact .inr rfl
 ·rcases kz (mem_of_lookup h)with q | q
  ·obtain⟨v,A⟩:=I.cell x c (a0 x c q).2
   exact⟨v,A.keeps keep⟩
  ·have q2:=mem_of_lookup h
   have q3:(x,c)∈sh ((C.heap.push Wp).push sj).objs.size scope.names (Ym X.env.cells scope.names []):=by rw[z2];exact q2
   rcases QX q3 with q4 | q4
   ·obtain⟨v,A⟩:=I.cell x c (a0 x c q4).2
    exact⟨v,A.keeps keep⟩
   ·exact⟨ed,q4⟩
 ·exact as _<|OM _
 ·rcases a x c h with⟨_,q⟩ | ⟨q,_⟩
  ·rw[zN (Nt<|ak x c q)];exact I.u5 x c q
  ·exact as c<|Ng (NT<|OM _) q
 ·exact absurd (show p∈([]:UQ)from U) ⋯
 ·refine I.gj.laid keep (MM _) ⟨NY _,[],0,.nil,?_⟩
  exact Sg _ _ _ _<|ME _<|MV _ rfl
 ·show(nJ own J Z).length=(own++J.map (·.1)).length
  simp[nJ]
theorem vK(I:Nat->eK->Prop)
 (J : ∀n s,I n s->wpAny (fe prog w) A (Dh it) (λr z=>match r with
   | none=>R (.ok .next) z
   | some v=>wpAny (fe prog w) A (L0 target it v) (λ_ z=>wpAny (fe prog w) A (t6 target env v) (λ_ U=>
    wpAny (fe prog w) A (forIn ifs d7 λc r=>if r=d7 then do let ok <- Dz c env (fh c env);pure (Sn ok)else pure (Sn r)) (λok O=>
     if ok=d7 then wpAny (fe prog w) A (fh elt env) (λx Y=>
      wpAny (fe prog w) A (call (.builtin "list.append") [acc,x]) (λ_ C=>∃m,m<n/\I m C) (λ_ _=>False) Y) (λ_ _=>False) O
     else ∃m,m<n/\I m O) (λ_ _=>False) U) (λ_ _=>False) z) (λ_ _=>False) z) (λ_ _=>False) s)
 (n:Nat) (h:I n s) :
 codeAny (fe prog w) A (.compLoop (.ListComp elt [⟨target,iter,ifs,0⟩] scope pos) 0 it acc env) R s:=by
 refine codeAny_loop rfl I (λn s j=>?_) n h;show wpAny _ A ((compTurn (.ListComp elt [⟨target,iter,ifs,0⟩] scope pos) 0 it acc env).onRaise (λx=>do noteFrame x env;theTreesLotGoes x)) _ _ s;refine wpAny_noted ?_;rw[compTurn_list];refine MA<|TC<|MA<|OW (J n s j) (λr z b=>?_) λ_ _ a=>a.elim;cases r with
 | none=>exact MN b
 | some v=>
  refine MA<|OW b (λ_ k i=>?_) λ_ _ a=>a.elim;refine MA<|OW i (λ_ U e=>MA<|OW e (λok O d=>?_) λ_ _ a=>a.elim) λ_ _ a=>a.elim;cases ok with
  | false=>exact MN ⟨rfl,d⟩
  | true=>
   exact MA<|MA<|OW d (λx Y f=>MA<|OW f (λ_ C g=>MN<|MN ⟨rfl,g⟩) λ_ _ a=>a.elim) λ_ _ a=>a.elim
noncomputable def Bg(X:Cx)(C:List e9)(t:TT):Prop:=
 ∀(a:UQ) (s:eK) (b:St) (H:Hp) (Q:Bool->Hp->Prop),Inv X a b H s->t b H Q->
  wpAny (fe X.prog X.w) X.A (forIn C d7 λc r=>if r=d7 then do let ok <- Dz c X.env (fh c X.env);pure (Sn ok)else pure (Sn r)) (TP X a b Q) X.xe s
def GD:TT:=λ_ H Q=>Q d7 H
theorem KC:Bg X [] GD:=λ_ _ _ H _ I h=>wpAny_tests_nil ⟨H,I,h⟩
theorem aH(h:PT X c t):Bg X [c] t:=λa s b H Q I z=>wpAny_tests_one<|h a s b H Q I z
noncomputable def CW(J:It)(g:TG)(C:TT)(te:TE)(D:ej)(Q:VK)(W:Nat->Nat->List V->St->Hp->Prop):Prop:=
 ∀i m a f H,W i m a f H->H D=dn (.lst a)/\((J.stop i H/\Q (.ref D) H)\/(J.go i H/\a.length<gm/\∀x e,J.z4 i H x e->g x f e λz h=>C z h λb I=>
  if b=d7 then te z I λv O=>O D=dn (.lst a)/\∃d,d<m/\W (i+1) d (a++[v]) z (upd O D<|.lst<|a++[v])else ∃d,d<m/\W (i+1) d a z I))
noncomputable def rf(X:Cx)(C:UQ)(H:Hp)(L:ej):Prop:=
 H L=ed/\L≠X.env.locals/\X.nr.heap.objs.size<=L/\(∀x c,X.env.cells.lookup x=dn c->c≠L)/\∀p∈X.pn++C,p.1≠L
theorem pG
 (hc:X.calm=d7) (I:Inv X pins σ H2 s2) (ok:rr X scope fr) (T:Turn X.prog X.w X.K tg J fp it tn) (st:tn 0 s2.heap) (Y : ∀b∈fp,ZO X pins H2 b)
 (hg:PG (jJ X scope (own++fr.map (·.1)) fp s2 H2) tg g) (ht:Bg (jJ X scope (own++fr.map (·.1)) fp s2 H2) ifs tt) (he:PE (jJ X scope (own++fr.map (·.1)) fp s2 H2) elt te)
 (hW : ∀D,H2 D=ed->∃W:Nat->Nat->List V->St->Hp->Prop,(∃m,W 0 m [] (nJ own fr σ) (upd H2 D<|.lst []))/\CW J g tt te D Q W) :
 wpAny (fe X.prog X.w) X.A (newList []) (λacc L=>wpAny (fe X.prog X.w) X.A (U2 scope X.env.globals (Ym X.env.cells scope.names []) [] X.env.qual ed .none (dn X.env)) (λac S=>
  codeAny (fe X.prog X.w) X.A (.compStart (.ListComp elt [⟨tg,iter,ifs,0⟩] scope pos) 0 (.ref it) acc {ac with scope:=u9 scope X.env})
   (λr C=>(∃f,r = .ok f)/\∃D H',acc = .ref D/\Inv X pins σ H' C/\Q (.ref D) H'/\(∃m,C.heap.Ns ac.locals m)/\rf X pins H' ac.locals) S) E L) E s2:=by
 have b5 : ∀b∈fp,∃o,s2.heap.get? b=dn o:=λb O=>by obtain⟨o,e,_⟩:=T.obj 0 _ st b O;exact⟨o,e⟩
 have N:=oU (own:=own) I ok Y b5;obtain⟨W,⟨m0,w0⟩,cw⟩:=hW _ I.fresh;refine Ox<|k5 ?_;have z1:(s2.heap.push Wp).objs.size=s2.heap.objs.size+1:=Nz ..;show codeAny _ _ (.compStart _ 0 (.ref it) (.ref s2.heap.objs.size) {scope:=u9 scope X.env,locals:=(s2.heap.push Wp).objs.size,globals:=X.env.globals,cells:=sh ((s2.heap.push Wp).objs.size+1) scope.names<|Ym X.env.cells scope.names [],qual:=X.env.qual,func:=ed,code:=X.env.code,frame:=X.env.frame,builtins:=X.env.builtins})
  (λr C=>(∃f,r = .ok f)/\∃D H',Oy s2.heap.objs.size = .ref D/\Inv X pins σ H' C/\Q (.ref D) H'/\(∃m,C.heap.Ns (s2.heap.push Wp).objs.size m)/\rf X pins H' (s2.heap.push Wp).objs.size) {s2 with heap:=Dg ((s2.heap.push Wp).push sj) scope.names}
 rw[z1];have b6:tn 0 (Dg ((s2.heap.push Wp).push sj) scope.names):=T.keep 0 _ _ st λb _ o e=>Sg _ _ b o<|ME _<|ME _ e;have c5 : ∀b∈fp,b<s2.heap.objs.size:=λb O=>by obtain⟨o,e⟩:=b5 b O;exact Na e
 have ak : ∀{H':Hp},(∀b∈fp,H' b=ed)->∀b∈fp,ZO (jJ X scope (own++fr.map (·.1)) fp s2 H2) [] H' b:=λhn b O=>
  ⟨hn b O,(N.ok.I7 b O).1,N.ok.E4 b O,.inl O,(N.ok.I7 b O).2,λp hp=>absurd (show p∈([]:UQ)from hp) ⋯⟩
 have b7:codeAny (fe X.prog X.w) X.A (.compLoop (.ListComp elt [⟨tg,iter,ifs,0⟩] scope pos) 0 (.ref it) (.ref s2.heap.objs.size)<|wZ scope X.env<|s2.heap.objs.size+1)
  (λr C=>(∃f,r = .ok f)/\∃D H',Oy s2.heap.objs.size = .ref D/\Inv X pins σ H' C/\Q (.ref D) H'/\(∃m,C.heap.Ns (s2.heap.objs.size+1) m)/\rf X pins H' (s2.heap.objs.size+1)) {s2 with heap:=Dg ((s2.heap.push Wp).push sj) scope.names}:=by
  refine vK (λn C=>∃i y B H',Inv (jJ X scope (own++fr.map (·.1)) fp s2 H2) [] B H' C/\tn i C.heap/\(∀b∈fp,H' b=ed)/\W i n y B H') ?_ m0
   ⟨0,[],_,_,N,b6,λb O=>by rw[zN (Nt<|c5 b O)];exact(Y b O).1,w0⟩
  rintro n s3 ⟨i,y,a,H,I3,s,bb,w3⟩;obtain⟨hD,c7⟩:=cw i n y a H w3;rcases c7 with⟨t,qn⟩ | ⟨go,hz,step⟩
  ·refine f6 (T.done (jJ X scope (own++fr.map (·.1)) fp s2 H2) rfl rfl rfl hc i [] s3 a H _ I3 (ak bb) s t) λr s4 U=>?_
   obtain⟨hr,j⟩:=U;subst hr;refine⟨⟨_,rfl⟩,_,H,rfl,I.I_ (ch:=fp) j.os j.base j.gj j.bare<|λb O=>⟨(Y b O).2.2.2.1,(Y b O).2.1,(Y b O).2.2.2.2.1,(Y b O).2.2.2.2.2⟩,qn,?_,j.free,?_,?_,?_,?_⟩
   ·obtain⟨m,hn,_⟩:=j.loc
    exact⟨m,hn⟩
   ·exact OF<|NT I.lt
   ·exact Sm I.sz
   ·intro x c e z
    obtain⟨v,q⟩:=I.cell x c e;exact absurd (NT q.lt) (by rw[z];exact NW _)
   ·intro p hp z
    exact absurd (NT<|Na (I.pin p hp).1) (by rw[z];exact NW _)
  ·refine f6 (T.item (jJ X scope (own++fr.map (·.1)) fp s2 H2) rfl rfl rfl hc i [] s3 a H _ I3 (ak bb) s go) λr s4 U=>?_
   obtain⟨u,hr,h4⟩:=U;subst hr;refine f6 h4 λ_ s5 U=>?_;obtain⟨x,H5,I5,r5,y5,ap,ci⟩:=U;have cj:=I5.pinned (ak ci)<|T.obj _ _ ap;refine f6 (hg _ s5 a H5 x u _ cj r5<|step x H5 y5) λ_ s6 U=>?_;obtain⟨h,H6,I6,q6⟩:=U;refine f6 (ht _ s6 h H6 _ I6 q6) λb s7 U=>?_;obtain⟨H7,P,R⟩:=U;have after : ∀{G:St} {M:Hp} {l:eK},Inv (jJ X scope (own++fr.map (·.1)) fp s2 H2) ([]++YW fp s5.heap) G M l->tn (i+1) l.heap/\∀b∈fp,M b=ed:=λ{G M l} k=>by refine⟨T.keep _ _ _ ap λb O o e=>(k.pin (b,o)<|Nh _<|Nh _<|vB O e).1,λb O=>?_⟩;obtain⟨o,e,d⟩:=T.obj _ _ ap b O;exact(k.pin (b,o)<|Nh _<|Nh _<|vB O e).2.1
   cases b with
   | false=>
    rw[UY Nq]at R ⊢;obtain⟨m',hm,w7⟩:=R;exact⟨m',hm,i+1,y,h,H7,P.F8,(after P).1,(after P).2,w7⟩
   | true=>
    rw[UJ rfl]at R ⊢;refine f6 (he _ s7 h H7 _ P R) λv8 l U=>?_;obtain⟨x8,M,k,r8,bi,m',hm,w8⟩:=U;obtain⟨z8,bl,n8,rv,d5,e8⟩:=k.DU bi;refine RJ F.slot_list_append ⟨_,e8,rfl⟩ F.entry_list_append (F.args_list_append_2 _ _) (PySem.list_append _ bl.toArray n8 v8<|by rw[MR];omega) ⟨e8,?_⟩;have Z:=k.U0 (its':=bl++[v8]) (f:=(·.push v8)) (t':=l.toks) bi e8 ⋯ (rv.append<|.cons r8 .nil) (by rw[NZ,PD];omega);exact⟨m',hm,i+1,y++[x8],h,_,Z.F8,(after Z).1,(after Z).2,w8⟩
 exact codeAny_compStart_list b7<|T.self _ 0 _ _ _ b6 b7
noncomputable def eM(L:TI)(own:List Str)(C:List (Str×Nat))(g:TG)(I:TT)(te:TE):TE:=λb H Q=>L b H λJ a=>∀D,a D=ed->
 ∃W:Nat->Nat->List V->St->Hp->Prop,(∃m,W 0 m [] (nJ own C b) (upd a D<|.lst []))/\CW J g I te D Q W
section
variable{X:Cx}{scope:ij}{own:List Str}{fr:List (Str×Nat)}{elt tg iter:e9}{ifs:List e9}{pos:hL}{wi:TI}{g:TG}{tt:TT}{te:TE}
theorem bC
 (z:X.calm=d7) (ok:rr X scope fr) (hi:PI X tg iter wi) (O : ∀fp S C,PG (jJ X scope (own++fr.map (·.1)) fp S C) tg g)
 (U : ∀fp S C,Bg (jJ X scope (own++fr.map (·.1)) fp S C) ifs tt) (Y : ∀fp S C,PE (jJ X scope (own++fr.map (·.1)) fp S C) elt te)
 (I:Inv X pins σ H s) (h:eM wi own fr g tt te σ H Q)
 (hR : ∀D H' Z L,Inv X pins σ H' Z->Q (.ref D) H'->(∃m,Z.heap.Ns L m)->rf X pins H' L->
   compPost (fe X.prog X.w) X.A X.xe use R (.ref D) L (.ok .next) Z)
 (hs : ∀x,o8 iter X.env x=pure x:=by intro _;rfl) :
 wpAny (fe X.prog X.w) X.A (comprehension (.ListComp elt [⟨tg,iter,ifs,0⟩] scope pos) scope X.env (firstIterPos [⟨tg,iter,ifs,0⟩] pos) (newList []) eh (fh iter X.env) use) R X.xe s:=by
 refine wpAny_comprehension_free rfl hs (K9 λn a=>I.ok.has n<|ok.free (n,.free) a rfl) ok.kind (λx G e=>by rw[<- e];exact vC ok.nd<|show(x.1,x.2)∈scope.names from G) ?_;refine f6 (hi pins s σ H _ I h) λv P l=>f6 l λM S o=>?_;obtain⟨N,fp,tn,J,C,e,d,T,i,f2,B⟩:=o;subst e;refine f6 (pG (own:=own) (Q:=Q) (E:=X.xe) z d ok T i f2 (O fp S C) (U fp S C) (Y fp S C) B) λacc W p=>f6 p λj s4 t=>Ht t λr Z u=>?_;obtain⟨⟨f,F⟩,D,H',k,b,q,a,y⟩:=u;subst F;subst k;have K:=hR D H' Z j.locals b q a y;cases use<;>exact K
theorem Wd(z:X.calm=d7)(ok:rr X scope fr)(hi:PI X tg iter wi)(O : ∀fp J C,PG (jJ X scope (own++fr.map (·.1)) fp J C) tg g)
 (U : ∀fp J C,Bg (jJ X scope (own++fr.map (·.1)) fp J C) ifs tt) (Y : ∀fp J C,PE (jJ X scope (own++fr.map (·.1)) fp J C) elt te)
 (S : ∀x,o8 iter X.env x=pure x:=by intro _;rfl) :
 PE X (.ListComp elt [⟨tg,iter,ifs,0⟩] scope pos) (eM wi own fr g tt te):=by
 intro a s B H Q I h;rw[eval_ListComp];refine bC (use:=ed) z ok hi O U Y I h (λD d l L f q k y=>?_) S;obtain⟨m,j⟩:=k;obtain⟨p,r,t,u,w⟩:=y;refine⟨m,j,λA n=>⟨.ref D,d,f.turned (t':=l.toks) (it:=L) (λb o i e=>n.extBut b o i e) p r (.inr t) u w,rfl,q⟩⟩
theorem Zt(O:X.N.Nodup)(U:X.N[i]? = dn y)(Y:Loc X.env.scope y)(hf:X.fn y=d7\/X.env.scope.names.lookup y=dn .local)
 (S:X.calm=d7) (ok:rr X scope fr) (hi:PI X tg iter wi) (hg : ∀fp J C,PG (jJ X scope (own++fr.map (·.1)) fp J C) tg g)
 (ht : ∀fp J C,Bg (jJ X scope (own++fr.map (·.1)) fp J C) ifs tt) (Z : ∀fp J C,PE (jJ X scope (own++fr.map (·.1)) fp J C) elt te)
 (hs : ∀x,o8 iter X.env x=pure x:=by intro _;rfl) :
 PS X (.Assign [.Name y py] (.ListComp elt [⟨tg,iter,ifs,0⟩] scope pos) spos) (bX (eM wi own fr g tt te)<|vg i):=by
 have z : ∃b:Bool,C2 (.ListComp elt [⟨tg,iter,ifs,0⟩] scope pos) (dn (.Name y py)) spos.line X.env=pure b:=⟨_,rfl⟩;obtain⟨b,z⟩:=z;cases b with
 | false=>
  have u:M5 [.Name y py] (.ListComp elt [⟨tg,iter,ifs,0⟩] scope pos) spos.line X.env=C2 (.ListComp elt [⟨tg,iter,ifs,0⟩] scope pos) (dn (.Name y py)) spos.line X.env:=rfl;exact aG (Wd S ok hi hg ht Z hs) (gc O U Y hf) (by rw[u];exact z)
 | true=>
  intro d s W H D I h;rw[exec_Assign_Name_used _ _ _ _ z];refine MA<|TC<|MA ?_;show wpAny _ X.A (do let _ <- comprehension (.ListComp elt [⟨tg,iter,ifs,0⟩] scope pos) scope X.env _ (newList []) eh (fh iter X.env) (dn (t6 (.Name y py) X.env))) _ _ s;refine MA<|f6 (bC (R:=λ_ f=>SP X d D .next f) (use:=dn (t6 (.Name y py) X.env)) S ok hi hg ht Z I h (λj Q f L l q E P=>?_) hs) λ_ f q=>MN<|MN q;obtain⟨G,k,K,y4,M⟩:=P;obtain⟨m,B⟩:=E;show wpAny _ _ (t6 (.Name y py) X.env<|.ref j) _ _ _;refine _i<|YH l O U Y (v:= .ref j) rfl (λn p as=>?_) hf;obtain⟨a,F,w⟩:=as;have r:L≠a:=by
   rcases w with e | e
   ·rw[e];exact k
   ·exact Ny<|y4 _ _ e
  refine⟨m,B.sameBut F r,λT t=>⟨_,_,p.turned (t':=n.toks) (it:=L) (λb o z e=>t.extBut b o z e) G k (.inr K) y4 M,q⟩⟩
end
inductive Sk where
 | L | T
 deriving DecidableEq
end L2
namespace DL
open PySem L2
inductive D where
 | ft | bl (b:Bool) | int (i:Int) | str (x:Str) | tup (xs:List D) | lst (xs:List D)
 | l9 (ks vs:List D)
 | lU (ks:List (List Int)) (vs:List D)
inductive Cell where
 | no | val (d:D) | own (ds:List D) | nest (rows:List (List D))
abbrev Ctx:=List Cell
abbrev CO (a : Type) := Ctx -> Option a
def lim:Nat:=2500
def jq:D->Option (Sk×List D)
 | .tup a=>dn (.T,a)
 | .lst a=>dn (.L,a)
 | _=>ed
def zE(f:CO D)(γ:Ctx):Option (Sk×List D):=(f γ).bind jq
def j3(f:CO (List D))(γ:Ctx):Option D:=(f γ).map D.lst
def jj(f:CO (List D))(γ:Ctx):Option (Sk×List D):=(f γ).map λa=>(Sk.L,a)
def lr:Option Cell->Option D
 | some (.val d)=>dn d
 | _=>ed
noncomputable def vY:Option Cell->Option (Sk×List D)
 | some (.val d)=>jq d
 | some (.own ds)=>dn (.L,ds)
 | _=>ed
def zc(i:Nat)(γ:Ctx):Option D:=lr γ[i]?
def ze(i:Nat)(γ:Ctx):Option (Sk×List D):=vY γ[i]?
noncomputable def zq(d:D):CO D:=λ_=>dn d
noncomputable def zG(F:D->D->Option D)(C I:CO D)(γ:Ctx):Option D:=(C γ).bind λx=>(I γ).bind λy=>F x y
def ra:D->Option Bool
 | .bl b=>dn b
 | _=>ed
def ml:D->Option Int
 | .int i=>dn i
 | _=>ed
def sB(f:CO D)(γ:Ctx):Option Bool:=(f γ).bind ra
noncomputable def fv(f g:CO Bool)(γ:Ctx):Option Bool:=(f γ).bind λb=>if b=d7 then g γ else dn eh
noncomputable def vw(f g:CO Bool)(γ:Ctx):Option Bool:=(f γ).bind λb=>if b=d7 then dn d7 else g γ
def j6(f:CO Bool)(γ:Ctx):Option Bool:=(f γ).map λb=> !b
noncomputable def fw(f g:CO D)(γ:Ctx):Option D:=((f γ).bind ra).bind λb=>if b=d7 then g γ else dn (.bl eh)
noncomputable def Y_(f g:CO D)(γ:Ctx):Option D:=((f γ).bind ra).bind λb=>if b=d7 then dn (.bl d7)else g γ
def FD(f:CO D)(γ:Ctx):Option D:=((f γ).bind ra).map λb=> .bl (!b)
noncomputable def fj(c:CO Bool)(f g:CO D)(γ:Ctx):Option D:=(c γ).bind λb=>if b=d7 then f γ else g γ
def zB:CO (List D):=λ_=>dn []
noncomputable def zb(f:CO D)(g:CO (List D))(γ:Ctx):Option (List D):=(f γ).bind λx=>(g γ).map λr=>x::r
noncomputable def qA(f:CO (List D))(γ:Ctx):Option D:=(f γ).bind λa=>if a.length<=lim then dn (.tup a)else ed
noncomputable def qG(f:CO (List D))(γ:Ctx):Option (List D):=(f γ).bind λa=>if a.length<=lim then dn a else ed
inductive Res where
 | val (d:D) | own (ds:List D)
inductive Fl where
 | next (γ:Ctx) | brk (γ:Ctx) | cont (γ:Ctx) | ret (r:Res)
def qc(γ:Ctx):Option Fl:=dn (.next γ)
noncomputable def zL(F G:CO Fl):CO Fl:=λb=>(F b).bind λz=>match z with
 | .next a=>G a
 | f=>dn f
def j5(f:CO D)(γ:Ctx):Option Fl:=(f γ).map λd=> .ret (.val d)
def wz(f:CO (List D))(γ:Ctx):Option Fl:=(f γ).map λd=> .ret (.own d)
noncomputable def WM:Option Cell->Option Fl
 | some (.val d)=>dn (.ret<|.val d)
 | some (.own ds)=>dn (.ret<|.own ds)
 | _=>ed
def Xs(i:Nat)(γ:Ctx):Option Fl:=WM γ[i]?
def Mr(γ:Ctx):Option Fl:=dn (.brk γ)
def ua(γ:Ctx):Option Fl:=dn (.cont γ)
def XM:CO Fl:=λ_=>ed
noncomputable def iN(k:CO Bool)(F G:CO Fl)(γ:Ctx):Option Fl:=(k γ).bind λb=>if b=d7 then F γ else G γ
def jy(i:Nat)(f:CO D)(γ:Ctx):Option Fl:=(f γ).map λd=> .next (γ.set i<|.val d)
noncomputable def xq(i:Nat)(f:CO (List D))(γ:Ctx):Option Fl:=(f γ).map λa=> .next (γ.set i<|.own a)
def cn(f:CO D)(γ:Ctx):Option Fl:=(f γ).map λ_=> .next γ
def q8:Option Cell->Option (List D)
 | some (.own ds)=>dn ds
 | _=>ed
noncomputable def qe(i:Nat)(f:CO D)(γ:Ctx):Option Fl:=(q8 γ[i]?).bind λa=>(f γ).bind λd=>if a.length<lim then dn (.next<|γ.set i<|.own<|a++[d])else ed
def z7(n:Nat)(ds:List D):Ctx:=ds.map Cell.val++MH (n - ds.length) Cell.no
noncomputable def jk(n:Nat)(F:CO Fl)(ds:List D):Option Res:=(F<|z7 n ds).bind λz=>match z with
 | .ret r=>dn r
 | .next _=>dn (.val .ft)
 | _=>ed
def mD:Res->D
 | .val d=>d
 | .own a=> .lst a
noncomputable def zA(F:List D->Option Res)(g:CO (List D))(γ:Ctx):Option D:=(g γ).bind λa=>(F a).map mD
def BX:Res->Option (List D)
 | .own a=>dn a
 | _=>ed
noncomputable def jw(F:List D->Option Res)(g:CO (List D))(γ:Ctx):Option (List D):=(g γ).bind λa=>(F a).bind BX
def wB(lo:Int)(n:Nat):List D:=(MB n).map λ(i:Nat)=>D.int<|lo+(i:Int)
def ZR(ds C:List D):List D:=(ds.zip C).map λp=>D.tup [p.1,p.2]
def zK(f:CO (Sk×List D))(γ:Ctx):Option (List D):=(f γ).map (·.2)
def inR(i:Int):Bool:=decide<|i.natAbs<2 ^ 62
noncomputable def z6(f:CO D)(γ:Ctx):Option (List D):=((f γ).bind ml).bind λn=>if inR n=d7 then dn (wB 0 n.toNat)else ed
noncomputable def V0(f g:CO D)(γ:Ctx):Option (List D):=((f γ).bind ml).bind λm=>((g γ).bind ml).bind λn=>if inR m=d7/\inR n=d7 then dn (wB m (n - m).toNat)else ed
noncomputable def Xo(f g:CO D)(γ:Ctx):Option (List D):=((f γ).bind jq).bind λm=>((g γ).bind jq).map λn=>ZR m.2 n.2
inductive Tg where
 | nm (i:Nat) | tp (is:List Nat)
noncomputable def xp:List Nat->List D->Ctx->Ctx
 | i::is,d::ds,γ=>xp is ds<|γ.set i<|.val d
 | _,_,γ=>γ
noncomputable def ka:Tg->D->CO Ctx
 | .nm i,d,γ=>dn (γ.set i<|.val d)
 | .tp is,.tup ds,γ=>if ds.length=is.length then dn (xp is ds γ)else ed
 | _,_,_=>ed
noncomputable def qL(T:Tg)(F:CO Fl):List D->CO Fl
 | [],a=>dn (.next a)
 | d::e,a=>(ka T d a).bind λb=>(F b).bind λI=>match I with
  | .next z=>qL T F e z
  | .cont z=>qL T F e z
  | .brk z=>dn (.next z)
  | .ret r=>dn (.ret r)
noncomputable def yN(C:CO (List D))(T:Tg)(F:CO Fl)(γ:Ctx):Option Fl:=(C γ).bind λa=>qL T F a γ
def kK:Cell->Cell
 | .own _=> .no
 | .nest _=> .no
 | c=>c
noncomputable def ja(n:Nat)(C:List Nat)(γ:Ctx):Ctx:=MH n Cell.no++C.map λj=>kK<|γ[j]?.getD .no
noncomputable def zT(T:Tg)(k:CO Bool)(f:CO D)(γ:Ctx):List D->Option (List D)
 | []=>dn []
 | d::ds=>(ka T d γ).bind λa=>(k a).bind λb=>if b=d7 then (f a).bind λe=>(zT T k f γ ds).map λr=>e::r else zT T k f γ ds
noncomputable def zM(C:CO (List D))(T:Tg)(n:Nat)(I:List Nat)(k:CO Bool)(f:CO D)(γ:Ctx):Option (List D):=(C γ).bind λa=>if a.length<=lim then zT T k f (ja n I γ) a else ed
def jd:CO Bool:=λ_=>dn d7
def Tg.idx:Tg->List Nat
 | .nm i=>[i]
 | .tp is=>is
def dI(g:Int->Int->D):D->D->Option D
 | .int i,.int j=>dn (g i j)
 | _,_=>ed
noncomputable def E2(c:Int->Int->Bool)(g:Int->Int->D):D->D->Option D
 | .int i,.int j=>if c i j=d7 then dn (g i j)else ed
 | _,_=>ed
def QV:D->D->Option D:=dI λi j=> .int (i - j)
def Kb(i j:Int):Bool:=decide (i.natAbs<2 ^ 64) || decide (j.natAbs<2 ^ 64)
def EX(_ j:Int):Bool:=decide (0<j) && decide (j.natAbs<1073741824)
def K6:D->D->Option D:=E2 EX λi j=> .int (i/j)
def EW(_ j:Int):Bool:=decide<|0<j
def yh:D->D->Option D:=E2 EW λi j=> .int (i%j)
noncomputable def EV(i j:Int):Bool:=decide (0<=j) && decide (j.natAbs<=1000000) && decide (i.natAbs<2 ^ 64)
def Au:D->D->Option D:=E2 EV λi j=> .int (i ^ j.toNat)
def rh:D->D->Option D:=dI λi j=> .bl (decide<|i<j)
def lx:D->D->Option D:=dI λi j=> .bl (decide<|i<=j)
def pk:D->D->Option D:=dI λi j=> .bl (decide<|j<i)
def UB:D->D->Option D:=dI λi j=> .bl (decide<|j<=i)
noncomputable def qo:D->D->Option D
 | .int i,.int j=>dn (.int<|i+j)
 | .tup xs,.tup ys=>if xs.length+ys.length<=lim then dn (.tup<|xs++ys)else ed
 | _,_=>ed
noncomputable def yG:D->D->Option D
 | .int i,.int j=>if Kb i j=d7 then dn (.int<|i*j)else ed
 | .tup xs,.int j=>if xs.length*j.toNat<=lim/\inR j=d7 then dn (.tup (MH j.toNat xs).flatten)else ed
 | _,_=>ed
noncomputable def JP(f g:CO (Sk×List D))(γ:Ctx):Option (List D):=(f γ).bind λa=>(g γ).bind λb=>
 match a.1,b.1 with
 | .L,.L=>if a.2.length+b.2.length<=lim then dn (a.2++b.2)else ed
 | _,_=>ed
noncomputable def tZ(f:CO (Sk×List D))(g:CO D)(γ:Ctx):Option (List D):=(f γ).bind λa=>((g γ).bind ml).bind λj=>
 match a.1 with
 | .L=>if a.2.length*j.toNat<=lim/\inR j=d7 then dn (MH j.toNat a.2).flatten else ed
 | _=>ed
noncomputable def h6(n:Nat)(i:Int):Option Nat:=if 0<=i/\i<n then dn i.toNat else if i<0/\0<=i+n then dn (i+n).toNat else ed
noncomputable def eg(f:CO (Sk×List D))(g:CO D)(γ:Ctx):Option D:=(f γ).bind λa=>((g γ).bind ml).bind λi=>(h6 a.2.length i).bind λk=>a.2[k]?
noncomputable def av(i:Nat)(g f:CO D)(γ:Ctx):Option Fl:=(f γ).bind λd=>(q8 γ[i]?).bind λa=>((g γ).bind ml).bind λk=>(h6 a.length k).map λj=> .next (γ.set i<|.own<|a.set j d)
noncomputable def dq(n dflt:Nat):Option Int->Nat
 | none=>dflt
 | some i=>if i<0 then (i+n).toNat else min i.toNat n
noncomputable def iZ(xs:List D)(lo hi:Option Int):List D:=(xs.drop<|dq xs.length 0 lo).take (dq xs.length xs.length hi - dq xs.length 0 lo)
def VS:CO (Option Int):=λ_=>dn ed
def pe(f:CO D)(γ:Ctx):Option (Option Int):=((f γ).bind ml).map dn
noncomputable def au(f:CO D)(l h:CO (Option Int))(γ:Ctx):Option D:=(f γ).bind λd=>(l γ).bind λlo=>(h γ).bind λa=>match d with
 | .tup b=>dn (.tup<|iZ b lo a)
 | _=>ed
def km(f:CO (Sk×List D))(γ:Ctx):Option D:=(f γ).map λa=> .int a.2.length
inductive Ty where
 | int | bool | str | tuple | list
 deriving DecidableEq
@[simp] def sf:D->Bool
 | .int _=>d7
 | .bl _=>d7
 | _=>eh
@[simp] def ED:D->Bool
 | .bl _=>d7
 | _=>eh
@[simp] def rZ:D->Bool
 | .str _=>d7
 | _=>eh
@[simp] def rY:D->Bool
 | .tup _=>d7
 | _=>eh
@[simp] def se:D->Bool
 | .lst _=>d7
 | _=>eh
def rX:Ty->D->Bool
 | .int=>sf
 | .bool=>ED
 | .str=>rZ
 | .tuple=>rY
 | .list=>se
def o5(T:Ty)(f:CO D)(γ:Ctx):Option D:=(f γ).map λd=> .bl (rX T d)
def Hu:Ty->Sk->Bool
 | .tuple,.T=>d7
 | .list,.L=>d7
 | _,_=>eh
def Mp(T:Ty)(f:CO (Sk×List D))(γ:Ctx):Option D:=(f γ).map λa=> .bl (Hu T a.1)
@[simp] def K_:D->Bool
 | .ft=>d7
 | _=>eh
@[simp] noncomputable def eqB(a:Bool):D->Bool
 | .bl b=>a==b
 | .int b=>(if a then 1 else 0)==b
 | _=>eh
@[simp] noncomputable def UD(a:Int):D->Bool
 | .bl b=>a==(if b then 1 else 0)
 | .int b=>a==b
 | _=>eh
@[simp] def UE(a:Str):D->Bool
 | .str b=>a==b
 | _=>eh
@[simp] def _q(a:Str)(i:Option Int):D->Bool
 | _=>eh
mutual
def ji:D->D->Bool
 | .ft,y=>K_ y
 | .bl a,y=>eqB a y
 | .int a,y=>UD a y
 | .str a,y=>UE a y
 | .tup xs,y=>match y with
  | .tup e=>p9 xs e
  | _=>eh
 | .lst xs,y=>match y with
  | .lst e=>p9 xs e
  | _=>eh
 | .l9 a b,y=>match y with
  | .l9 c d=>p9 a c && p9 b d
  | _=>eh
 | .lU a b,y=>match y with
  | .lU c d=>a==c && p9 b d
  | _=>eh
def p9:List D->List D->Bool
 | [],[]=>d7
 | x::xs,y::ys=>ji x y && p9 xs ys
 | _,_=>eh
end
mutual
def deep:D->Nat
 | .tup a=>ni a+1
 | .lst a=>ni a+1
 | _=>0
def ni:List D->Nat
 | []=>0
 | x::xs=>max (deep x)<|ni xs
end
mutual
def ix:D->Bool
 | .str x=>x.cps.all (· < 0x110000)
 | .l9 _ _=>eh
 | .lU _ _=>eh
 | .tup a=>o4 a
 | .lst a=>o4 a
 | _=>d7
def o4:List D->Bool
 | []=>d7
 | x::xs=>ix x && o4 xs
end
def lp(d:D):Bool:=decide (deep d<=20) && ix d
def hG(x y:D):Option D:=if lp x=d7/\lp y=d7 then dn (.bl<|ji x y)else ed
def i0(x y:D):Option D:=if lp x=d7/\lp y=d7 then dn (.bl<|!ji x y)else ed
noncomputable def ES:D->D->Option D
 | x,.ft=>dn (.bl<|match x with | .ft=>d7 | _=>eh)
 | _,_=>ed
def zP(f:CO (Sk×List D))(γ:Ctx):Option D:=(f γ).map λa=> .tup a.2
def ff(f:CO (Sk×List D))(γ:Ctx):Option (List D):=(f γ).map λa=>a.2
def YF:List D->Option Int
 | []=>dn 0
 | .int i::r=>(YF r).map λs=>i+s
 | _::_=>ed
def JO(f:CO (Sk×List D))(γ:Ctx):Option D:=(f γ).bind λa=>(YF a.2).map D.int
def Fz:D->Option Bool
 | .ft=>dn eh
 | .bl b=>dn b
 | .int i=>dn (i != 0)
 | _=>ed
noncomputable def JE:List D->Option (List Bool)
 | []=>dn []
 | d::r=>(Fz d).bind λb=>(JE r).map λs=>b::s
noncomputable def AX(f:CO (Sk×List D))(γ:Ctx):Option D:=(f γ).bind λa=>(JE a.2).map λs=> .bl (s.all id)
noncomputable def AW(f:CO (Sk×List D))(γ:Ctx):Option D:=(f γ).bind λa=>(JE a.2).map λs=> .bl (s.any id)
noncomputable def kh(f:CO D)(γ:Ctx):Option D:=(f γ).bind λd=>match d with
 | .int i=>dn (.int i)
 | .bl b=>dn (.int<|if b then 1 else 0)
 | _=>ed
noncomputable def cg(f g:CO D)(γ:Ctx):Option D:=((f γ).bind ml).bind λi=>((g γ).bind ml).map λj=> .int (if j>i then j else i)
def tY(f:CO (Sk×List D))(γ:Ctx):Option Bool:=(f γ).map λa=> !a.2.isEmpty
def BI(f:CO D):CO D:=λa=>((f a).bind ml).map λi=> .int (-i)
noncomputable def kH(F G:D->D->Option D)(C I J:CO D):CO D:=λa=>(C a).bind λx=>(I a).bind λy=>((F x y).bind ra).bind λb=>if b=d7 then (J a).bind λz=>G y z else dn (.bl eh)
def wy(T:Tg)(f:CO D)(γ:Ctx):Option Fl:=(f γ).bind λd=>(ka T d γ).map .next
def LZ:D->Option Int
 | .tup (.int k::_)=>dn k
 | _=>ed
noncomputable def Et:List D->Option (List Int)
 | []=>dn []
 | d::r=>(LZ d).bind λk=>(Et r).map λl=>k::l
def IZ:List Int->Bool
 | a::b::r=>decide (a<b) && IZ (b::r)
 | _=>d7
noncomputable def LW(ks:List Int):Nat:=(ks.dropLast.filter λk=>decide<|k<ks.getLast?.getD 0).length
noncomputable def Ma(q:Nat)(ds:List D):List D:=ds.dropLast.take q++(ds.drop (ds.length - 1)++ds.dropLast.drop q)
noncomputable def GM(ds:List D):Option (List D):=(Et ds).bind λa=>if (1<=ds.length/\ds.length<=8)/\IZ a.dropLast=d7/\decide (a.getLast?.getD 0∈a.dropLast)=eh then dn (Ma (LW a) ds)else ed
noncomputable def GN(f:CO (Sk×List D))(γ:Ctx):Option (List D):=(f γ).bind λa=>match a.1 with
 | .L=>GM a.2
 | _=>ed
def HE:D->Bool
 | .tup _=>eh
 | .lst _=>eh
 | .l9 _ _=>eh
 | .lU _ _=>eh
 | _=>d7
end DL
namespace L2
open PySem PySem.Spec PyProof.Rows
noncomputable def iW(k:Sk)(h:gb)(i l:ej)(n:Nat):Prop:=match k with
 | .L=>h.IsListIter i l n
 | .T=>h.IsTupleIter i l n
noncomputable def k0(k:Sk)(h:gb)(l:ej)(xs:Array el):Prop:=match k with
 | .L=>h.IsList l xs
 | .T=>h.IsTuple l xs
noncomputable def h8(k:Sk)(l:ej):m3:=match k with
 | .L=>{cls:= .type "list_iterator",data:= .fields #[.ref l,.int 0 0]}
 | .T=>{cls:= .type "tuple_iterator",data:= .fields #[.ref l,.int 0 0]}
theorem iW.at(x:iW k h i l n)(e : ∀o,h.get? i=dn o->h'.get? i=dn o):iW k h' i l n:=by cases k<;>exact let ⟨o,z,r⟩:=x;⟨o,e _ z,r⟩
theorem k0.at(x:k0 k h l xs)(e : ∀o,h.get? l=dn o->h'.get? l=dn o):k0 k h' l xs:=by cases k<;>exact let ⟨o,z,r⟩:=x;⟨o,e _ z,r⟩
theorem iW.obj(x:iW k h i l n) : ∃o,h.get? i=dn o/\∀v,o.data ≠ .cell v:=by cases k<;>exact let ⟨o,I,_,d⟩:=x;⟨o,I,λv z=>by rw[d]at z;cases z⟩
theorem k0.lt(x:k0 k h l xs):l<h.objs.size:=by cases k<;>exact let ⟨o,z,_⟩:=x;Na z
theorem ZL(k:Sk)(h:gb)(l:ej):iW k (h.push<|h8 k l) h.objs.size l 0:=by cases k<;>exact⟨_,MV _ rfl,rfl,rfl⟩
section
variable{prog:i6}{w:h9}{A:mu}{E:EQ}{s:eK}
theorem QE(z:k0 k s.heap l xs)(I:Q (.ref s.heap.objs.size) {s with heap:=s.heap.push (h8 k l)}):wpAny (fe prog w) A (M0<|.ref l) Q E s:=by
 cases k
 ·exact TK z I
 ·exact Sq z I
theorem xw(O:iW k s.heap it l i)(U:k0 k s.heap l items)(hx:items[i]? = dn x)
 (Y : ∀h',iW k h' it l (i+1)->PH it s.heap h'->Q x {s with heap:=h'}):wpAny (fe prog w) A (MZ<|.ref it) Q E s:=by
 cases k with
 | L=>exact wpAny_nextOf_list_item O U hx Y
 | T=>
  have I:s.heap.IsTupleIter it l i:=O;obtain⟨o,z,e,a⟩:=id I;obtain⟨g,b,_,f,d⟩:=(show s.heap.IsTuple l items from U);unfold MZ;refine MA (Od (name:=NK "__next__") I.typeIs Sf (Ow Sf I.typeIs J_ ?_ (F' _)));refine MA (m:=field (.ref it) 0) (NJ z a (x:= .ref l) rfl ?_);show wpAny _ _ (if (Oy l==NH)=d7 then _ else _) _ _ s;rw[UY (show ¬((Oy l==NH)=d7)from Nq)];refine MA (m:=field (.ref it) 1) (NJ z a (x:= .int i 0) rfl ?_);refine MA (m:=seqItems? (.ref l)) (Oe b d ?_);simp only[Ou,hx];refine MA (wpAny_setField z a ⋯ (MN ⟨x,rfl,MN (Y _ ?_ (Su ..))⟩));show Heap.IsTupleIter _ it l (i+1);exact⟨_,RE _ z (Obj.isFreed_of_fields (To a _)),(Obj.cls_mapFields ..).trans e,by rw[To a];simp[xr]⟩
theorem vz(z:A.handled=ed)(U:iW k s.heap it l i)(Y:k0 k s.heap l items)(hx:items[i]? = ed)
 (hE : ∀h' e,Heap.ExtBut it s.heap h'->(∃o,h'.get? e=dn o/\o.cls = .type "StopIteration")->E (.ref e) {s with heap:=h'}):wpAny (fe prog w) A (MZ (.ref it)) Q E s:=by
 cases k with
 | L=>exact wpAny_nextOf_list_end z U Y hx hE
 | T=>
  have I:s.heap.IsTupleIter it l i:=U;obtain⟨o,O,g,b⟩:=id I;obtain⟨j,d,_,h,f⟩:=(show s.heap.IsTuple l items from Y);unfold MZ;refine MA (Od (name:=NK "__next__") I.typeIs Sf (Ow Sf I.typeIs J_ ?_ (F' _)));refine MA (m:=field (.ref it) 0) (NJ O b (x:= .ref l) rfl ?_);show wpAny _ _ (if (Oy l==NH)=d7 then _ else _) _ _ s;rw[UY (show ¬((Oy l==NH)=d7)from Nq)];refine MA (m:=field (.ref it) 1) (NJ O b (x:= .int i 0) rfl ?_);refine MA (m:=seqItems? (.ref l)) (Oe d f ?_);simp only[Ou,hx];refine MA (Rm (MA (wpAny_setField O b ⋯ ?_)));refine MA (m:=newExc (.type "StopIteration") []) ?_;simp only[newExc,U3];refine MA (Ox ?_ (by size_fits));refine MA (m:=P9 _ _) (wpAny_of_eq (a:=NH) (by first | rfl | (simp only[P9];rfl)) ?_);refine Ox ?_ (by size_fits);simp only[raiseNew];refine MA (wpAny_handled ?_)
  first | rw[show A.in1.handled=ed from z] | rw[z]
  exact MA<|MN<|wpAny_throw<|hE _ _ (((Su ..).extBut.push _).push _) ⟨_,MV _ rfl,rfl⟩
theorem dG{k1 k2:Sk}{z TI TO C J S Z:ej}{n1 n2:Nat}{xs ys:Array el}{x y a b:el}{Q:EQ}(D:O8 z TI TO C J S Z)
 (L:m7 s.heap z TI TO .none) (bd:n9 s.heap TI (.ref C) (.ref J)) (be:n9 s.heap TO a b)
 (h1:iW k1 s.heap C S n1) (h2:iW k2 s.heap J Z n2) (bf:k0 k1 s.heap S xs) (bg:k0 k2 s.heap Z ys) (hx:xs[n1]? = dn x) (hy:ys[n2]? = dn y)
 (hQ : ∀h',m7 h' z TI TO (xr s.heap.objs.size)->n9 h' TO x y->iW k1 h' C S (n1+1)->iW k2 h' J Z (n2+1)->n9 h' s.heap.objs.size x y->h'.objs.size=s.heap.objs.size+1->
   (∀c o,c≠z->c≠TO->c≠C->c≠J->s.heap.get? c=dn o->h'.get? c=dn o)->Q (.ref s.heap.objs.size) {s with heap:=h'}) :
 wpAny (fe prog w) A (n5.«zip.__next__» ⟨[.ref z],[]⟩) (λbm s'=>∃v,bm = .done (.ret v)/\Q v s') E s:=by
 refine MA (m:=field (.ref z) 2)<|NJ L rfl (x:= .bool eh) rfl ?_;refine MA (m:=field (.ref z) 3)<|NJ L rfl (x:= .ref TI) rfl ?_;refine MA<|Oe bd rfl ?_;refine MA (m:=Nn<|.ref z) ?_;unfold Nn;refine MA<|NJ L rfl (x:= .none) rfl<|MN ?_;simp only[if_true];refine MA<|Rm<|MA<|NJ L rfl (x:= .ref TO) rfl ?_;refine MA<|NP L ⋯ λg1 p O=>?_;replace p:m7 g1 z TI TO .ellipsis:=p;refine MA ?_;simp only[Sy,SF,RP,Sb];refine MA<|MA<|Pb ?_;refine MA (m:=MZ<|.ref C)<|xw (h1.at λo e=>O.extBut _ _ D.i1z e) (bf.at λo e=>O.extBut _ _ D.l1z e) hx λg2 R Y=>MN ?_;have G:n9 g2 TO a b:=Y.extBut _ _ D.TOi1<|O.extBut _ _ D.TOz be;refine MA<|Oe G rfl<|MA<|Tn G λg3 r d=>?_;replace r:n9 g3 TO x b:=r;refine MA<|PR<|MN<|MA<|MA<|Pb ?_;refine MA (m:=MZ<|.ref J)<|xw (h2.at λo e=>d.extBut _ _ D.TOi2.symm<|Y.extBut _ _ D.i12.symm<|O.extBut _ _ D.i2z e) (bg.at λo e=>d.extBut _ _ D.l2TO<|Y.extBut _ _ D.l2i1<|O.extBut _ _ D.l2z e) hy λg4 T f=>MN ?_;have H:n9 g4 TO x b:=f.extBut _ _ D.TOi2 r;refine MA<|Oe H rfl<|MA<|Tn H λI j g=>?_;replace j:n9 I TO x y:=j;refine MA<|PR<|MN<|MN<|MA<|Oe j rfl<|MA<|Sw ?_;have i:I.objs.size=s.heap.objs.size:=by rw[g.1,f.1,d.1,Y.1,O.1]
 have K:m7 I z TI TO .ellipsis:=g.extBut _ _ D.TOz.symm (f.extBut _ _ D.i2z.symm (d.extBut _ _ D.TOz.symm (Y.extBut _ _ D.i1z.symm p)));have c5 : ∀c o,c≠z->c≠TO->c≠C->c≠J->s.heap.get? c=dn o->I.get? c=dn o:=λc o U l B F e=>g.extBut _ _ l (f.extBut _ _ F (d.extBut _ _ l (Y.extBut _ _ B (O.extBut _ _ U e))));have W:iW k1 I C S (n1+1):=R.at λo e=>g.extBut _ _ D.TOi1.symm (f.extBut _ _ D.i12 (d.extBut _ _ D.TOi1.symm e));have X:iW k2 I J Z (n2+1):=T.at λo e=>g.extBut _ _ D.TOi2.symm e;have M:z<I.objs.size:=Na K;refine MA (m:=Oa (.ref z) (.ref I.objs.size)) ?_;unfold Oa;have c8:m7 (I.push {cls:= .type "tuple",data:= .seq #[x,y]}) z TI TO .ellipsis:=ME _ K;refine MA (NP c8 ⋯ λg7 as t=>?_);replace as:m7 g7 z TI TO (xr I.objs.size):=as;refine NP as ⋯ λh k u=>?_;replace k:m7 h z TI TO (xr I.objs.size):=k;have n : ∀c o,c≠z->I.get? c=dn o->h.get? c=dn o:=λc o U e=>u.extBut _ _ U (t.extBut _ _ U (ME _ e));have N:n9 h I.objs.size x y:=u.extBut _ _ (OF M) (t.extBut _ _ (OF M) (MV _ rfl));have P:h.objs.size=I.objs.size+1:=by rw[u.1,t.1,Nz]
 rw[i]at k N P;refine MN ⟨_,rfl,?_⟩;show Q (.ref I.objs.size) _;rw[i];exact hQ h k (n _ _ D.TOz j) (W.at λo e=>n _ o D.i1z e) (X.at λo e=>n _ o D.i2z e) N P λc o U l B F e=>n c o U<|c5 c o U l B F e
theorem mJ{k1 k2:Sk}{z TI TO C J S Z:ej}{n1 n2:Nat}{xs ys:Array el}{a b:el}{Q:Fin->eK->Prop}(hh:A.handled=ed)(D:O8 z TI TO C J S Z)
 (L:m7 s.heap z TI TO .none) (b0:n9 s.heap TI (.ref C) (.ref J)) (b5:n9 s.heap TO a b)
 (h1:iW k1 s.heap C S n1) (h2:iW k2 s.heap J Z n2) (an:k0 k1 s.heap S xs) (b6:k0 k2 s.heap Z ys) (b7:xs[n1]? = ed\/ys[n2]? = ed)
 (hE : ∀h' e,(∀c o,c≠z->c≠TO->c≠C->c≠J->s.heap.get? c=dn o->h'.get? c=dn o)->(∃o,h'.get? e=dn o/\o.cls = .type "StopIteration")->E (.ref e) {s with heap:=h'}) :
 wpAny (fe prog w) A (n5.«zip.__next__» ⟨[.ref z],[]⟩) Q E s:=by
 refine MA (m:=field (.ref z) 2) (NJ L rfl (x:= .bool eh) rfl ?_);refine MA (m:=field (.ref z) 3) (NJ L rfl (x:= .ref TI) rfl ?_);refine MA (Oe b0 rfl ?_);refine MA (m:=Nn (.ref z)) ?_;unfold Nn;refine MA (NJ L rfl (x:= .none) rfl (MN ?_));simp only[if_true];refine MA (Rm (MA (NJ L rfl (x:= .ref TO) rfl ?_)));refine MA (NP L ⋯ λg1 k I=>?_);replace k:m7 g1 z TI TO .ellipsis:=k;refine MA ?_;simp only[Sy,SF,RP,Sb];refine MA (MA (Pb ?_));have r : ∀{g e:_} {i:m3},m7 g z TI TO .ellipsis->(∀c o,c≠z->c≠TO->c≠C->c≠J->s.heap.get? c=dn o->g.get? c=dn o)->g.get? e=dn i->i.cls = .type "StopIteration"->
  wpAny (fe prog w) A (T7 (.ref z) 0 .none) (λ_ B=>E (.ref e) B) E {s with heap:=g}:=λ{g e i} o9 hk U d=>by
  have u:e≠z:=λq=>by subst q;rw[o9]at U;cases U;simp at d
  exact NP o9 ⋯ λg3 _ Y=>hE g3 e (λc o f l j n q=>Y.extBut _ _ f<|hk c o f l j n q) ⟨i,Y.extBut _ _ u U,d⟩
 cases hx:xs[n1]? with
 | none=>
  refine MA (m:=MZ<|.ref C)<|vz hh (h1.at λo e=>I.extBut _ _ D.i1z e) (an.at λo e=>I.extBut _ _ D.l1z e) hx λg2 e O p=>?_;obtain⟨i,U,d⟩:=p;exact r (O _ _ D.i1z.symm k) (λc o f _ j _ q=>O _ _ j<|I.extBut _ _ f q) U d
 | some x=>
  have y:ys[n2]? = ed:=by rcases b7 with h | h;rw[hx]at h;cases h;exact h
  refine MA (m:=MZ<|.ref C)<|xw (h1.at λo e=>I.extBut _ _ D.i1z e) (an.at λo e=>I.extBut _ _ D.l1z e) hx λg2 F O=>MN ?_;have as:n9 g2 TO a b:=O.extBut _ _ D.TOi1<|I.extBut _ _ D.TOz b5;refine MA<|Oe as rfl<|MA<|Tn as λg3 G Y=>?_;refine MA<|PR<|MN<|MA<|MA<|Pb ?_;refine MA (m:=MZ<|.ref J)<|vz hh (h2.at λo e=>Y.extBut _ _ D.TOi2.symm<|O.extBut _ _ D.i12.symm<|I.extBut _ _ D.i2z e) (b6.at λo e=>Y.extBut _ _ D.l2TO<|O.extBut _ _ D.l2i1<|I.extBut _ _ D.l2z e) y λH e t p=>?_;obtain⟨i,U,d⟩:=p;exact r (t _ _ D.i2z.symm<|Y.extBut _ _ D.TOz.symm<|O.extBut _ _ D.i1z.symm k) (λc o f l j n q=>t _ _ n<|Y.extBut _ _ l<|O.extBut _ _ j<|I.extBut _ _ f q) U d
end
def Zu(a b:el):m3:={cls:= .type "tuple",data:= .seq #[a,b]}
noncomputable def AU(TI TO:ej):m3:={cls:= .type "zip",data:= .fields #[.none,.bool eh,.bool eh,.ref TI,.ref TO]}
noncomputable def Xp(z I:Sk)(h:gb)(C J:ej):gb:=
 Nd (Nd (Nd (Nd (Nd h<|h8 z C)<|h8 I J)<|Zu (.ref h.objs.size)<|.ref<|h.objs.size+1)<|Zu .none .none) (AU (h.objs.size+2)<|h.objs.size+3)
theorem mI(z I:Sk)(C J:ej)(xs ys:Array el) :
 DI (n5.«zip.__new__» ⟨[.type "zip",.ref C,.ref J],[]⟩) (λ_ R s=>k0 z s.heap C xs/\k0 I s.heap J ys/\
  R (.ok<|.ret<|.ref<|s.heap.objs.size+4) {s with heap:=Xp z I s.heap C J}):=
 .of_wp λa w A R s h=>by
  obtain⟨O,g,d,U,os⟩:=s;obtain⟨Y,b,h⟩:=h;have j:=sub_zip;have f:k0 z (Sj ⟨O,g,d,U,os⟩) C xs:=Y;have i:k0 I (Sj ⟨O.push<|h8 z C,g,d,U,os⟩) J ys:=b.at λo e=>ME _ e
  wp_walk using QE f,QE i
  refine⟨_,rfl,?_⟩;simp only[Xp,Zu,AU,Nz]at h ⊢;exact h
section
variable{X:Cx}{pins:UQ}{σ:St}{H:Hp}{s:eK}{h':gb}
theorem Inv.N1{t':Nat}{fp:List ej}{a:ej}{o:HO}(I:Inv X pins σ H s)(k : ∀b u,b∉fp->s.heap.get? b=dn u->h'.get? b=dn u)(Y : ∀b∈fp,ZO X pins H b)
 (C:s.heap.objs.size<=a) (new:lN X.prog X.w (upd H a o) h' a o):Inv X pins σ (upd H a o) {s with heap:=h',toks:=t'}:=by
 have d:H a=ed:=I.gj.fresh C;have g : ∀b u,H b=dn u->b∉fp:=λb u e z=>by rw[(Y b z).1]at e;cases e
 have i : ∀b u,s.heap.get? b=dn u->b≠a:=λb u e=>Nt<|Ng (Na e) C;refine I.step (g':=s.gens) (d':=s.drawn) (ch:=fp) (λb O=>⟨(Y b O).2.2.2.1,(Y b O).2.1,(Y b O).2.2.2.2.1,(Y b O).2.2.2.2.2⟩) (λb u _ _ U e _=>k b u U e) (λb u _ _ U e _=>⟨u.slots,k b u U e⟩)
  (λb u _ e n=>by rw[zN (i b u e)];exact n) (λb u U e=>⟨u,k b u U e⟩) (λb h e=>by rw[zN (qv e d)];exact e) (λb f h e=>by rw[zN (qv e d)];exact e)
  (λb x e=>⟨#[],by rw[zN (qv e d),e];simp⟩) (λm p=>?_) (λb u e=>?_) I.bare
 ·obtain⟨f,l,j,t,r⟩:=p
  refine⟨f,l,j,k _ f (λz=>(Y _ z).2.1 rfl) t,r⟩
 ·by_cases O:b=a
  ·subst O;rw[zS]at e;cases e;exact new
  ·rw[zN O]at e
   refine(I.gj b u e).Di (λc v U q=>k c v ?_ q) (λc q=>by rw[zN (qv q d)];exact q) λc h q=>by rw[zN (qv q d)];exact q
   rcases U with z | z
   ·rw[z];exact g b u e
   ·exact g c _ z
theorem Inv.C5{t':Nat}{fp:List ej}(I:Inv X pins σ H s)(k : ∀b u,b∉fp->s.heap.get? b=dn u->h'.get? b=dn u)(U : ∀b∈fp,ZO X pins H b):Inv X pins σ H {s with heap:=h',toks:=t'}:=by
 have d : ∀b u,H b=dn u->b∉fp:=λb u e z=>by rw[(U b z).1]at e;cases e
 refine I.step (g':=s.gens) (d':=s.drawn) (ch:=fp) (λb Y=>⟨(U b Y).2.2.2.1,(U b Y).2.1,(U b Y).2.2.2.2.1,(U b Y).2.2.2.2.2⟩) (λb u _ _ O e _=>k b u O e) (λb u _ _ O e _=>⟨u.slots,k b u O e⟩)
  (λb u _ e n=>n) (λb u O e=>⟨u,k b u O e⟩) (λb f e=>e) (λb a f e=>e)
  (λb l e=>⟨#[],by rw[e];simp⟩) (λm i=>?_) (λb u e=>?_) I.bare
 ·obtain⟨a,h,g,j,r⟩:=i
  refine⟨a,h,g,k _ a (λz=>(U _ z).2.1 rfl) j,r⟩
 ·refine(I.gj b u e).Di (λc v O q=>k c v ?_ q) (λc q=>q) λc f q=>q
  rcases O with z | z
  ·rw[z];exact d b u e
  ·exact d c _ z
end
noncomputable def i7(k:Sk)(K:MC)(H:Hp)(a:ej)(xs:List V):Prop:=match k with
 | .L=>gv K H a xs
 | .T=>hB K H a xs
theorem Inv.sq(I:Inv X pins σ H s)(h:i7 k X.K H a xs) :
 ∃O:List el,f9 xs O/\k0 k s.heap a O.toArray/\xs.length<=gm:=by
 cases k with
 | L=>obtain⟨O,r,p,z⟩:=I.list h;exact⟨O,r,p.isList,z⟩
 | T=>obtain⟨O,r,p,z⟩:=I.tuple h;exact⟨O,r,p,z⟩
theorem Inv.DY(I:Inv X pins σ H s)(h:i7 k X.K H a xs)(h':i7 k X.K H a ys):xs=ys:=by
 cases k with
 | L=>exact I.S2 h h'
 | T=>exact I.h_ h h'
noncomputable def O0(z I:Sk)(K:MC)(a b:ej):It:=
 ⟨λi H=>∃d e,i7 z K H a d/\i7 I K H b e/\i<d.length/\i<e.length,
  λi H x f=>∃p u v,x = .ref p/\H p=ed/\f=upd H p (.tup [u,v])/\(∀d,i7 z K H a d->d[i]? = dn u)/\(∀e,i7 I K H b e->e[i]? = dn v),
  λi H=>∃d e,i7 z K H a d/\i7 I K H b e/\(d.length<=i\/e.length<=i)⟩
theorem mQ{P:i6}{w:h9}{K:MC}{elts:List e9}{x1:Nat}{tr:hL}(k1 k2:Sk){z TI TO i1 i2 a b:ej}(D:O8 z TI TO i1 i2 a b) :
 Turn P w K (.Tuple elts x1 tr) (O0 k1 k2 K a b) [z,TI,TO,i1,i2] z (λi h=>m7 h z TI TO .none/\n9 h TI (.ref i1) (.ref i2)/\(∃c d,n9 h TO c d)/\iW k1 h i1 a i/\iW k2 h i2 b i) where
 mem:=by simp
 obj:=λi h ⟨U,a0,⟨c,d,a8⟩,h1,h2⟩ y hy=>by
  simp only[MS,Nu,or_false]at hy;rcases hy with rfl | rfl | rfl | rfl | rfl
  ·exact⟨_,U,λv q=>by cases q⟩
  ·exact⟨_,a0,λv q=>by cases q⟩
  ·exact⟨_,a8,λv q=>by cases q⟩
  ·exact h1.obj
  ·exact h2.obj
 keep:=λi h h' ⟨U,a0,⟨c,d,a8⟩,h1,h2⟩ k=>
  ⟨k z ⋯ _ U,k TI ⋯ _ a0,⟨c,d,k TO ⋯ _ a8⟩,h1.at λo e=>k i1 ⋯ o e,h2.at λo e=>k i2 ⋯ o e⟩
 item:=by
  rintro X hP hw hK hc i pins s σ H E I hf ⟨U,a0,⟨c,d,a8⟩,h1,h2⟩ ⟨xs,ys,an,ap,bd,be⟩;subst hP hw hK;obtain⟨bf,ax,p1,z1⟩:=I.sq an;obtain⟨bi,b5,p2,z2⟩:=I.sq ap;have hx:xs[i]? = dn xs[i]:=MF bd;have hy:ys[i]? = dn ys[i]:=MF be;obtain⟨u1,bm,bn⟩:=ax.get hx;obtain⟨u2,bt,bv⟩:=b5.get hy;have hT:s.TypeIs (.ref z) "zip":=⟨_,U,rfl⟩;unfold Dh;refine MA (Rw (Od (name:=NK "__next__") hT Dt (Ow Dt hT SH
   (dG D U a0 a8 h1 h2 p1 p2 (x:=u1) (y:=u2) (by simpa using bm) (by simpa using bt) λg a1 a2 a3 a4 a5 a6 a7=>MN ⟨_,rfl,?_⟩) (SD _))))
  refine _m a1 λg2 o9 a9=>?_;have lt : ∀{c o},s.heap.get? c=dn o->s.heap.objs.size≠c:=λe=>OF<|Na e;have c4:n9 g2 s.heap.objs.size u1 u2:=a9.extBut _ _ (lt U) a5;have kk : ∀Y u,Y ∉ [z,TI,TO,i1,i2]->s.heap.get? Y=dn u->g2.get? Y=dn u:=λY u O e=>by simp only[MS,Nu,or_false,not_or]at O;exact a9.extBut _ _ O.1<|a7 Y u O.1 O.2.2.1 O.2.2.2.1 O.2.2.2.2 e
  have I1:Inv X pins σ (upd H s.heap.objs.size<|.tup [xs[i],ys[i]]) {s with heap:=g2,toks:=s.toks}:=
   I.N1 (fp:=[z,TI,TO,i1,i2]) kk hf (MM _) ⟨by show 2<=gm;decide,[u1,u2],.cons bn<|.cons bv .nil,⟨_,c4,rfl,_,rfl⟩⟩
  have c6:H s.heap.objs.size=ed:=I.fresh;refine⟨.ref s.heap.objs.size,_,I1,rfl,⟨_,_,_,rfl,c6,rfl,λce b6=>by rw[I.DY b6 an];exact hx,λch b6=>by rw[I.DY b6 ap];exact hy⟩,?_,λY O=>?_⟩
  ·exact⟨o9,a9.extBut _ _ D.TIz<|a7 _ _ D.TIz D.TITO D.TIi1 D.TIi2 a0,⟨_,_,a9.extBut _ _ D.TOz a2⟩,a3.at λo e=>a9.extBut _ _ D.i1z e,a4.at λo e=>a9.extBut _ _ D.i2z e⟩
  ·have c7:Y≠s.heap.objs.size:=by
    simp only[MS,Nu,or_false]at O;rcases O with rfl | rfl | rfl | rfl | rfl
    ·exact(lt U).symm
    ·exact(lt a0).symm
    ·exact(lt a8).symm
    ·obtain⟨o,e,_⟩:=h1.obj;exact(lt e).symm
    ·obtain⟨o,e,_⟩:=h2.obj;exact(lt e).symm
   rw[zN c7];exact(hf Y O).1
 done:=by
  rintro X hP hw hK hc i pins s σ H E I hf ⟨U,a0,⟨c,d,a8⟩,h1,h2⟩ ⟨xs,ys,an,ap,hi⟩;subst hP hw hK;obtain⟨bf,ax,p1,z1⟩:=I.sq an;obtain⟨bi,b5,p2,z2⟩:=I.sq ap;have hT:s.TypeIs (.ref z) "zip":=⟨_,U,rfl⟩;have l1:=ax.length;have l2:=b5.length;unfold Dh;refine MA (Rw (Od (name:=NK "__next__") hT Dt (Ow Dt hT SH
   (mJ (show X.A.handled=ed from I.ok.hd hc) D U a0 a8 h1 h2 p1 p2 (by rcases hi with q | q;left;simp;omega;right;simp;omega) λg e hk he=>?_) (SD _))))
  obtain⟨o,ho,cb⟩:=he;refine MA (TQ (T:="StopIteration") (b:=d7) ⟨o,ho,cb⟩ UM (MN ⟨rfl,?_⟩));refine I.C5 (t':=s.toks) (fp:=[z,TI,TO,i1,i2]) (λY u O e=>?_) hf;simp only[MS,Nu,or_false,not_or]at O;exact hk Y u O.1 O.2.2.1 O.2.2.2.1 O.2.2.2.2 e
 self:=λ_ _ _ _ _ st h=>SN st.1 h
noncomputable def Mb(K:MC)(C:TA):TI:=λh H R=>C h H λe d=>∃z I a b,e=[.ref a,.ref b]/\(∃f,i7 z K d a f)/\(∃g,i7 I K d b g)/\R (O0 z I K a b) d
theorem CF{X:Cx}{L U:e9}{Z:TA}{p pos:hL}{C:List e9}{x1:Nat}{J:hL}(hg:Gl X "zip")(hm:X.mg "zip" = ed)(ha:PA X [L,U] Z)
 (hv:A7 "zip" = dn (.type "zip")) (hs:gu [L,U] X.env=[(eh,fh L X.env),(eh,fh U X.env)]:=by rfl) (S:gu [U] X.env=[(eh,fh U X.env)]:=by rfl) :
 PI X (.Tuple C x1 J) (.Call (.Name "zip" p) [L,U] [] pos) (Mb X.K Z):=by
 intro g s B H R I h;refine DH (yT I hg hm hv<|Ob (f6 (ha pos g s B H _ I h) λus d W=>?_) (by rw[hs,S])<|by rw[S];rfl);obtain⟨vs,l,Y,r1,q1⟩:=W;obtain⟨z,O,a,b,e,⟨xs,as⟩,⟨ys,G⟩,q⟩:=q1;subst e;obtain⟨w1,w2,T,M,N⟩:=sH r1;subst T;cases M;cases N;obtain⟨P,bm,u,z1⟩:=Y.sq as;obtain⟨Q,bt,w,z2⟩:=Y.sq G;have la:=u.lt;have lb:=w.lt;refine Uz F.called_zip ⋯ (F.typeCall_zip_2 _ _) (F.newCall_zip_2 _ _) (λobj=>F.args_object_init_3 obj _ _) F.entry_zip_new (mI z O a b P.toArray Q.toArray) ⟨u,w,?_⟩;have keep : ∀c o,d.heap.get? c=dn o->(Xp z O d.heap a b).get? c=dn o:=λc o e=>
  ME _ (ME _<|ME _<|ME _<|ME _ e)
 have x:(Nd d.heap<|h8 z a).objs.size=d.heap.objs.size+1:=Nz ..;have y:(Nd (Nd d.heap<|h8 z a)<|h8 O b).objs.size=d.heap.objs.size+2:=by rw[Nz,x]
 have A:(Nd (Nd (Nd d.heap<|h8 z a)<|h8 O b)<|Zu (.ref d.heap.objs.size)<|.ref<|d.heap.objs.size+1).objs.size=d.heap.objs.size+3:=by rw[Nz,y]
 have y4:(Nd (Nd (Nd (Nd d.heap<|h8 z a)<|h8 O b)<|Zu (.ref d.heap.objs.size)<|.ref<|d.heap.objs.size+1)<|Zu .none .none).objs.size=d.heap.objs.size+4:=by rw[Nz,A]
 have g0:iW z (Xp z O d.heap a b) d.heap.objs.size a 0:=(ZL z d.heap a).at λo e=>ME _<|ME _<|ME _<|ME _ e;have g1:iW O (Xp z O d.heap a b) (d.heap.objs.size+1) b 0:=by have q:=ZL O (Nd d.heap<|h8 z a) b;rw[x]at q;exact q.at λo e=>ME _<|ME _<|ME _ e
 have g2:n9 (Xp z O d.heap a b) (d.heap.objs.size+2) (.ref d.heap.objs.size) (.ref<|d.heap.objs.size+1):=by have q:_=dn (Zu (.ref d.heap.objs.size)<|.ref<|d.heap.objs.size+1):=MV (Nd (Nd d.heap<|h8 z a)<|h8 O b) (o:=Zu (.ref d.heap.objs.size)<|.ref<|d.heap.objs.size+1) rfl;rw[y]at q;exact ME _<|ME _ q
 have g3:n9 (Xp z O d.heap a b) (d.heap.objs.size+3) .none .none:=by have q:_=dn (Zu .none .none):=MV (Nd (Nd (Nd d.heap<|h8 z a)<|h8 O b)<|Zu (.ref d.heap.objs.size)<|.ref<|d.heap.objs.size+1) (o:=Zu .none .none) rfl;rw[A]at q;exact ME _ q
 have k:m7 (Xp z O d.heap a b) (d.heap.objs.size+4) (d.heap.objs.size+2) (d.heap.objs.size+3) .none:=by have q:=MV (Nd (Nd (Nd (Nd d.heap<|h8 z a)<|h8 O b)<|Zu (.ref d.heap.objs.size)<|.ref<|d.heap.objs.size+1)<|Zu .none .none) (o:=AU (d.heap.objs.size+2)<|d.heap.objs.size+3) rfl;rw[y4]at q;exact q
 refine⟨⟨_,k,rfl⟩,SN (s:={d with heap:=Xp z O d.heap a b}) k ?_⟩;have E:Inv X g B l {d with heap:=Xp z O d.heap a b,toks:=d.toks}:=Y.kept keep;have nn : ∀m:Nat,d.heap.objs.size≠d.heap.objs.size+m+1:=λm=>by omega
 have i : ∀m:Nat,a≠d.heap.objs.size+m:=λm=>Nt<|Ng la<|Nv _ m;have j : ∀m:Nat,b≠d.heap.objs.size+m:=λm=>Nt<|Ng lb<|Nv _ m;have f : ∀m n:Nat,m≠n->(d.heap.objs.size+m:Nat)≠d.heap.objs.size+n:=λm n h=>by omega
 have D:O8 (d.heap.objs.size+4) (d.heap.objs.size+2) (d.heap.objs.size+3) d.heap.objs.size (d.heap.objs.size+1) a b:=
  ⟨f 2 4 ⋯,f 3 4 ⋯,f 0 4 ⋯,f 1 4 ⋯,f 2 3 ⋯,f 2 0 ⋯,f 2 1 ⋯,f 3 0 ⋯,f 3 1 ⋯,f 0 1 ⋯,
   i 4,i 3,i 0,i 1,j 4,j 3,j 0,j 1⟩
 refine⟨_,[d.heap.objs.size+4,d.heap.objs.size+2,d.heap.objs.size+3,d.heap.objs.size,d.heap.objs.size+1],_,_,l,rfl,E,mQ z O D,⟨k,g2,⟨_,_,g3⟩,g0,g1⟩,λc t=>?_,q⟩;have r:d.heap.objs.size<=c:=by
  simp only[MS,Nu,or_false]at t;rcases t with rfl | rfl | rfl | rfl | rfl
  ·exact Nv _ _
  ·exact Nv _ _
  ·exact Nv _ _
  ·exact MM _
  ·exact Nv _ _
 exact Y.B4 r<|Y.gj.fresh r
def Uo(k:Sk)(K:MC)(a:ej):It:=match k with
 | .L=>Up K a
 | .T=>Uq K a
noncomputable def Mc(K:MC)(C:TE):TI:=λe H R=>C e H λx b=>∃a k,x = .ref a/\(∃d,i7 k K b a d)/\R (Uo k K a) b
theorem fW(U:PE X l tl):PI X tg l (Mc X.K tl):=by
 intro d s r H R I h;refine f6 (U d s r H _ I h) λv f Y=>?_;obtain⟨x,g,z,n,m⟩:=Y;obtain⟨a,k,e,⟨y,j⟩,q⟩:=m;subst e;cases n;have O : ∀b ∈ [f.heap.objs.size],ZO X d g b:=λb i=>by
  have e:b=f.heap.objs.size:=by simpa using i
  subst e;exact z.B4 (MM _)<|z.gj.fresh<|MM _
 obtain⟨t,w,p,u⟩:=z.sq j;cases k with
 | L=>exact TK p ⟨f.heap.objs.size,[f.heap.objs.size],_,_,g,rfl,z.kept (t':=f.toks) λb o e=>ME _ e,dW a _,⟨_,MV _ rfl,rfl,rfl⟩,O,q⟩
 | T=>exact Sq p ⟨f.heap.objs.size,[f.heap.objs.size],_,_,g,rfl,z.kept (t':=f.toks) λb o e=>ME _ e,bN a _,⟨_,MV _ rfl,rfl,rfl⟩,O,q⟩
section
variable{κ:Type} [DecidableEq κ]
def W5(C:List (κ×V))(k:κ):Option V:=(C.find? λz=>decide<|z.1=k).map (·.2)
noncomputable def dE(C:List (κ×V))(k:κ)(v:V):List (κ×V):=
 if (C.any λz=>decide<|z.1=k)=d7 then C.map (λz=>if z.1=k then (z.1,v)else z)else C++[(k,v)]
theorem Kj{p:κ×V}{r:List (κ×V)}{k:κ}(e:p.1=k):W5 (p::r) k=dn p.2:=by simp[W5,Pg,e]
theorem W4{p:κ×V}{r:List (κ×V)}{k:κ}(e : ¬p.1=k):W5 (p::r) k=W5 r k:=by simp[W5,Pg,e]
theorem QB(C:List (κ×V))(k:κ)(v:V):(dE C k v).length<=C.length+1:=by
 unfold dE;split
 ·rw[Nf];omega
 ·rw[NZ,MY,Nj];omega
theorem u0.UL(r:u0 o u):o.isSome=u.isSome:=by
 cases o with
 | none=>cases u with
  | none=>rfl
  | some _=>exact(show False from r).elim
 | some _=>cases u with
  | none=>exact(show False from r).elim
  | some _=>rfl
theorem KV.val{C:List (κ×V)}{vs:List (κ×el)}(r:KV C vs)(k:κ):u0 (W5 C k) (D0 vs k):=by
 unfold KV at r
 induction r with
 | nil=>exact Pu
 | @cons p q f I h t U=>
  obtain⟨a,d⟩:=h;by_cases e:p.1=k
  ·have O:q.1=k:=a.symm.trans e
   have b:D0 (q::I) k=dn q.2:=by simp[D0,Pg,O]
   rw[Kj e,b];exact d
  ·have O : ¬q.1=k:=λz=>e (a.trans z)
   have b:D0 (q::I) k=D0 I k:=by simp[D0,Pg,O]
   rw[W4 e,b];exact U
theorem KV.any(r:KV l7 vs)(k:κ):(l7.any λz=>decide<|z.1=k)=vs.any λz=>decide (z.1=k):=by
 unfold KV at r
 induction r with
 | nil=>rfl
 | cons h t I=>rw[Sr,Sr,I,h.1]
theorem KV.X_(r:KV l7 vs)(k:κ)(O:RelV y u) :
 KV (l7.map λI=>if I.1=k then (I.1,y)else I) (vs.map λI=>if I.1=k then (I.1,u)else I):=by
 unfold KV at r ⊢
 induction r with
 | nil=>exact .nil
 | @cons p q d Y h t U=>
  rw[Nk,Nk];refine .cons ?_ U;obtain⟨a,b⟩:=h;by_cases e:p.1=k
  ·rw[UJ e,UJ (a.symm.trans e)];exact⟨a,O⟩
  ·rw[UY e,UY (λz=>e<|a.trans z)];exact⟨a,b⟩
theorem KV.put(r:KV l7 vs)(k:κ)(z:RelV y u):KV (dE l7 k y) (stored vs k u):=by
 unfold dE stored;rw[r.any k];by_cases e:(vs.any λI=>decide<|I.1=k)=d7
 ·rw[UJ e,UJ e];exact r.X_ k z
 ·rw[UY e,UY e];exact Paired.snoc r ⟨rfl,z⟩
theorem KV.length(r:KV l7 vs):l7.length=vs.length:=Paired.length r
end
theorem oP(r:RelV (kV k) u):(xJ P w).is k u=d7:=by
 cases k with
 | inl i=>obtain⟨t,e⟩:=(show ∃t,u=Tb i t from r);subst e;exact Wo P w i t
 | inr x=>obtain⟨t,e⟩:=(show ∃t,u=Ta x t from r);subst e;exact Wn P w x t
theorem Vm : ∀{ks:List Key} {us:List el},f9 (ks.map kV) us->ItemsAre (xJ P w) ks us
 | [],_,r=>by rw[RD]at r;cases r;exact .nil
 | k::ks,_,r=>by
  rw[Nk]at r;cases r with
  | cons h t=>exact .cons (oP h)<|Vm t
abbrev KT(H:Hp):List (List Key×V)->List (List Key×ej×el)->Prop:=Paired λp q=>p.1=q.1/\H q.2.1=dn (.tup (p.1.map kV))/\RelV p.2 q.2.2
theorem KT.val{H:Hp}{C:List (List Key×V)}{xs:List (List Key×ej×el)}(r:KT H C xs)(k:List Key):u0 (W5 C k) ((DN xs k).map (·.2)):=by
 induction r with
 | nil=>exact Pu
 | @cons p q f I h t U=>
  obtain⟨a,_,d⟩:=h;by_cases e:p.1=k
  ·have O:q.1=k:=a.symm.trans e
   have b:DN (q::I) k=dn q.2:=by simp[DN,Pg,O]
   rw[Kj e,b];exact d
  ·have O : ¬q.1=k:=λz=>e (a.trans z)
   have b:DN (q::I) k=DN I k:=by simp[DN,Pg,O]
   rw[W4 e,b];exact U
section
variable{P:i6}{w:h9}{H:Hp}{h:gb}{a:ej}
theorem BZ(ok:l5 P w H h)(e:Rd H a u):lN P w H h a u:=e.ok ok
theorem pj(ok:l5 P w H h)(e:Rd H a (.dK l7)):l7.length<=gm/\(a==C3)=eh/\∃vs,KV l7 vs/\h.DictOf (xJ P w) a vs:=
 show lN P w H h a (.dK l7)from BZ ok e
theorem HH(ok:l5 P w H h)(e:H a=dn (.dK l7)):l7.length<=gm/\(a==C3)=eh/\∃vs,KV l7 vs/\h.DictOf (xJ P w) a vs:=pj ok<|.inl e
theorem gW(ok:l5 P w H h)(e:H a=dn (.tup<|ks.map kV)):(g_<|xJ P w).is h ks a:=by obtain⟨_,z,r,o,b,d,n,I⟩:=(show lN P w H h a (.tup<|ks.map kV)from ok a _ e);exact⟨o,z.toArray,n,b,(Prod.mk.inj d).1,I,by simpa using Vm r⟩
theorem Aq(ok:l5 P w H h)(e:Rd H a (.dT l7)):l7.length<=gm/\(a==C3)=eh/\
 ∃xs,KT H l7 xs/\h.DictOfH (g_<|xJ P w) a xs:=by
 obtain⟨z,y,xs,r,o,b,O,d,f,U,Y,g⟩:=(show lN P w H h a (.dT l7)from BZ ok e);refine⟨z,y,xs,r,o,b,O,d,f,U,Y,λx hx=>?_,g⟩;have all : ∀{l:List (List Key×V)} {m:List (List Key×ej×el)},KT H l m->∀x∈m,(g_<|xJ P w).is h x.1 x.2.1:=by
  intro l m q
  induction q with
  | nil=>intro x hx;exact nomatch hx
  | @cons p q j k I t i=>
   intro x hx;rcases MS.mp hx with e | hx
   ·subst e
    exact gW ok (by rw[<- I.1];exact I.2.1)
   ·exact i x hx
 exact all r x hx
end
noncomputable def Fv(H:Hp)(a:ej)(y:V)(r:Option V):Prop:=
 (∃d k,Rd H a (.dK d)/\y=kV k/\r=W5 d k)\/∃d k b,Rd H a (.dT d)/\y = .ref b/\H b=dn (.tup<|k.map kV)/\r=W5 d k
section
variable{X:Cx}{pins:UQ}{σ:St}{H:Hp}{s:eK}{a:ej}{y v:V}{u r:el}{o:Option V}{A:mu}{E:EQ}
theorem Inv.big(I:Inv X pins σ H s):C3<s.heap.objs.size:=by have h:s9<s.heap.objs.size:=(I.mod.glob.keeps I.bk).lt;exact Nat.lt_trans ⋯ h
theorem iR(L:A.units+1<Dw)(I:Inv X pins σ H s)(g:Fv H a y (dn v))(C:RelV y u)(h : ∀w' J,Inv X pins σ H J->RelV v w'->Q w' J) :
 wpAny (fe X.prog X.w) A (B5 (.ref a) u) Q E s:=by
 rcases g with⟨i,k,e,O,l⟩ | ⟨i,k,b,e,O,m,l⟩
 ·subst O
  obtain⟨z,n,t,U,Y⟩:=pj I.gj e;obtain⟨w',f,d⟩:=u0.some_of (v:=v) (o:=D0 t k) (by rw[l];exact U.val k);exact wpAny_getItem_of (oP C) Y.mapOf f<|h w' _ (I.tok _) d
 ·subst O
  cases (show u=Oy b from C);obtain⟨z,n,x,U,Y⟩:=Aq I.gj e;obtain⟨w',f,d⟩:=u0.some_of (v:=v) (o:=(DN x k).map (·.2)) (by rw[l];exact U.val k);obtain⟨p,r,j⟩:=Option.map_eq_some_iff.mp f;refine wpAny_getItem_heap (_g L) (gW I.gj m) Y r ?_;rw[j];exact h w' _ (I.tok _) d
theorem Me(L:A.units+1<Dw)(I:Inv X pins σ H s)(g:Fv H a y o)(C:RelV y u)(h : ∀J,Inv X pins σ H J->Q (.bool o.isSome) J) :
 wpAny (fe X.prog X.w) A (oe .In u<|.ref a) Q E s:=by
 rcases g with⟨f,k,e,O,l⟩ | ⟨f,k,b,e,O,i,l⟩
 ·subst O
  obtain⟨z,d,j,U,Y⟩:=pj I.gj e;refine wpAny_in_of (oP C) d Y.mapOf ?_;rw[<- (U.val k).UL,<- l];exact h _<|I.tok _
 ·subst O
  cases (show u=Oy b from C);obtain⟨z,d,m,U,Y⟩:=Aq I.gj e;refine wpAny_in_heap (_g L) (gW I.gj i) d Y ?_;have q:=(U.val k).UL;rw[Option.isSome_map]at q;rw[<- q,<- l];exact h _<|I.tok _
theorem As(I:Inv X pins σ H s)(O:D5 (H a))(U:PH a s.heap h')(Y : ∃q,h'.get? a=dn q)(new:lN X.prog X.w (upd H a ob) h' a ob) :
 Inv X pins σ (upd H a ob) {s with heap:=h',toks:=t'}:=
 I.write (x:=a) (e:=a) O (.inl rfl) (λb q d z=>(U.2 b d).trans z) Y new
theorem EO(z:l7.length<=gm)(C:(a==C3)=eh)(I:KV l7 vs)(O:h'.DictOf (xJ P w) a vs) :
 lN P w H' h' a (.dK l7):=⟨z,C,vs,I,O⟩
end
def Iy(i:e9):Prop:=∀z I,Ub i eh z I=operate [z,I] (B5 z I)
theorem tF{prog:i6}{w:h9}{A:mu}{E:EQ}{s:eK}{env:n6}{C z:e9}{pos:hL}{T id:String}{Q:EQ}
 (J:N4 (.type T) "__getitem__" = pure (dn (.builtin id))) (L:Iy z)
 (h:wpAny (fe prog w) A (fh C env) (λo Y=>wpAny (fe prog w) A (fh z env) (λi I=>I.TypeIs o T/\wpAny (fe prog w) A (B5 o i) Q E I) E Y) E s) :
 wpAny (fe prog w) A (fh (.Subscript C z pos) env) Q E s:=by
 refine Ut<|OW h (λo Y b=>OW b (λi I O=>?_) λ_ _ x=>x) λ_ _ x=>x;obtain⟨e,O⟩:=O;unfold c_;refine MA ?_;rw[getitemInPython_of_ne e.not_modules];refine MA<|wpAny_specialOf e J ?_;have U:wpAny (fe prog w) A (Ub z eh o i) (λr a=>wpAny (fe prog w) A (letTemporaryGo C o r >>= λ_=>pure r) Q E a) E I:=by rw[L o i];exact wpAny_operating<|OW O (λr a d=>MA<|wpAny_letTemporaryGo<|MN d) λ_ _ x=>x
 first
  | exact MN<|MA U
  | exact MA<|MN<|MA U
  | exact MA U
theorem WJ(I:Inv X pins σ H s)(g:Fv H a y o):s.TypeIs (.ref a) "dict":=by
 rcases g with⟨d,k,e,_,_⟩ | ⟨d,k,b,e,_,_,_⟩
 ·obtain⟨_,_,f,_,z⟩:=pj I.gj e
  exact z.typeIs
 ·obtain⟨_,_,h,_,z⟩:=Aq I.gj e
  exact z.typeIs
noncomputable def GG(C ty:TE):TE:=λd H Q=>C d H λx e=>ty d e λy b=>∃a v,x = .ref a/\Fv b a y (dn v)/\Q v b
noncomputable def LD(ty C:TE):TE:=λd H Q=>ty d H λy e=>C d e λx b=>∃a o,x = .ref a/\Fv b a y o/\Q (.bl o.isSome) b
section
variable{X:Cx}{o i e value:e9}{pos pos' tr:hL}{td ty tv:TE}
theorem uF(O:X.A.units+1<Dw)(U:PE X o td)(hi:PE X i ty)(Y:Iy i):PE X (.Subscript o i pos) (GG td ty):=by intro b s d H Q I h;refine tF PySem.F.slot_dict_getitem.lookup Y<|f6 (U b s d H _ I h) λu w ⟨x,e,j,r,n⟩=>f6 (hi b w d e _ j n) λB C ⟨y,f,z,t,a,v,m,g,p⟩=>?_;subst m;obtain rfl:u=Oy a:=r;exact⟨WJ z g,iR O z g t λG E k l=>⟨v,f,k,l,p⟩⟩
theorem CV(z:X.A.units+1<Dw)(hi:PE X i ty)(O:PE X o td):PC X .In i o (LD ty td):=by intro b s d H Q I h;refine f6 (hi b s d H _ I h) λw t ⟨y,e,U,Y,n⟩=>f6 (O b t d e _ U n) λu B ⟨x,f,j,r,a,m,l,g,p⟩=>?_;subst l;obtain rfl:u=Oy a:=r;exact Me z j g Y λC k=>⟨.bl m.isSome,f,k,rfl,p⟩
end
theorem pq(h:gb)(z:C3<h.objs.size):lN P w H (h.push {cls:= .type "dict",data:= .dict #[]}) h.objs.size (.dK []):=
 ⟨NY _,beq_eq_false_iff_ne.mpr<|Ny<|Nt z,[],.nil,Heap.DictOf.new h⟩
end L2
namespace DL
open PySem PySem.Spec PyProof.Rows L2
noncomputable def N6:List Str:=["NoPrime","Nought","NoTable","NoWidths","NoRow","Unlike","TooMany","NoTurn","NoLine","Nothing","NoArrow","NoText","NoRoom"]
noncomputable def Bh(K:MC)(c:Str):Option ej:=match PySem.W.nsIn K s9 c with
 | some (dn (.ref C))=>dn C
 | _=>ed
noncomputable def Lv(K:MC)(C:ej):Bool:=
 ["int","bool","str","tuple","list"].all (λt=>PM K (.ref C) (.type t)==dn eh) && PM K (.ref C) (.type "ValueError")==dn d7 &&
 RT K (.ref C) "__getattribute__" == dn (dn (.builtin "BaseException.__getattribute__")) && RT K (.ref C) "__getattr__" == dn ed &&
 RT K (.ref C) "__class__" == dn (dn (.builtin "object.__class__")) && PySem.W.mroIn K C (.type "object")==dn d7 && PySem.W.mroIn K C (.type "BaseException")==dn d7 &&
 PySem.W.specialIn K (.builtin "object.__class__") "__get__" == dn (dn (.builtin "getset_descriptor.__get__")) && PySem.W.takesIn K (.builtin "object.__class__")==dn d7 &&
 (PySem.W.clsIn K C).any (λz=> !z.hasDel) && PySem.W.typeIn K (.ref C)==dn (.type "type")
noncomputable def IC(K:MC):Bool:=match Bh K "SplitError" with
 | some S=>N6.all λc=>match Bh K c with
  | some C=>Lv K C && PM K (.ref C) (.ref S)==dn d7 && N6.all λz=>match Bh K z with
   | some I=>PM K (.ref C) (.ref I)==dn (c==z)
   | none=>eh
  | none=>eh
 | none=>eh
noncomputable def Mj(h:gb)(a:ej)(C:ej):Prop:=∃o b,h.get? a=dn o/\o.cls = .ref C/\o.data = .fields b
structure O7(K:MC)(H:Hp)(c:Str)(n:Option Int)(a:ej):Prop where
 all:IC K=d7
 mem:c∈N6
 ex : ∃C φ,Bh K c=dn C/\H a=dn (.ext φ)/\(∀h,φ h->Mj h a C)/\
  match n with
  | none=>True
  | some i=>∃d,(∀h,φ h->∃o,h.get? a=dn o/\o.dict=dn d)/\H d=dn (.xd [(if c==("NoRoom" : Str)then "room" else "at",.int i)])
theorem O7.mono{K:MC}{H H':Hp}{c:Str}{n:Option Int}{a:ej}(e : ∀b o,H b=dn o->H' b=dn o)(h:O7 K H c n a):O7 K H' c n a:=by
 obtain⟨f,g,C,j,I,g2,O,z⟩:=h;refine⟨f,g,C,j,I,e _ _ g2,O,?_⟩;cases n with
 | none=>exact z
 | some i=>obtain⟨d,U,Y⟩:=z;exact⟨d,U,e _ _ Y⟩
abbrev St:=L2.St
def Ez:D->Option Key
 | .int i=>dn (.inl i)
 | .str x=>dn (.inr x)
 | _=>ed
noncomputable def Vh:List D->Option (List Key)
 | []=>dn []
 | d::ds=>(Ez d).bind λk=>(Vh ds).map λr=>k::r
noncomputable def Dn(H:Hp)(a:ej)(ks:List D)(xs:List V):Prop:=∃b,Vh ks=dn b/\b.length=xs.length/\H a=dn (.dK<|b.zip xs)
def GA(k:List Int):Int:=reduceHash<|Builtin.Tuple.tupleHashOf<|k.map hashInt
noncomputable def Mn(o:m3)(xs:List (List Int×ej×el)):Prop:=o.ExactDict/\∃a z,o.data = .dict a z/\a.toList=xs.map (λx=>⟨GA x.1,.ref x.2.1,x.2.2⟩)/\(xs.map (·.1)).Nodup
def Uu(a:ej)(o:m3):HO:= .ext λh=>h.get? a=dn o
noncomputable def G5(K:MC)(H:Hp)(a:ej)(ks:List (List Int))(ys:List V):Prop:=
 (a==C3)=eh/\∃o b,H a=dn (Uu a o)/\Mn o b/\b.map (·.1)=ks/\b.length<=gm/\(∀x∈b,hB K H x.2.1<|x.1.map V.int)/\f9 ys (b.map (·.2.2))
mutual
def Rep(K:MC)(H:Hp):D->V->Prop
 | .ft,v=>v = .ft
 | .bl b,v=>v = .bl b
 | .int i,v=>v = .int i
 | .str x,v=>v = .str x
 | .tup ds,v=>∃a d,v = .ref a/\hB K H a d/\eA K H ds d
 | .lst ds,v=>∃a d,v = .ref a/\gv K H a d/\eA K H ds d
 | .l9 ks vs,v=>∃a d,v = .ref a/\Dn H a ks d/\eA K H vs d
 | .lU ks vs,v=>∃a d,v = .ref a/\G5 K H a ks d/\eA K H vs d
def eA(K:MC)(H:Hp):List D->List V->Prop
 | [],xs=>xs=[]
 | d::ds,xs=>∃x r,xs=x::r/\Rep K H d x/\eA K H ds r
end
theorem nf{K:MC}{H H':Hp}{a:ej}{xs:List V}(e:g8 H H')(h:hB K H a xs):hB K H' a xs:=by
 rcases h with(h | ⟨o,h⟩) | h
 ·exact .inl<|.inl<|e _ _ h
 ·exact .inl<|.inr ⟨o,e _ _ h⟩
 ·exact .inr h
theorem k9{k:Sk}{K:MC}{H H':Hp}{a:ej}{xs:List V}(e:g8 H H')(h:i7 k K H a xs):i7 k K H' a xs:=by
 cases k
 ·exact e.seq h
 ·exact nf e h
mutual
theorem Rep.mono{K:MC}{H H':Hp}(e:g8 H H') : ∀{d:D} {v:V},Rep K H d v->Rep K H' d v
 | .ft,_,h=>h
 | .bl _,_,h=>h
 | .int _,_,h=>h
 | .str _,_,h=>h
 | .tup ds,v,h=>by obtain⟨a,b,f,i,g⟩:=(show ∃a b,v = .ref a/\hB K H a b/\eA K H ds b from h);exact(show ∃a b,v = .ref a/\hB K H' a b/\eA K H' ds b from⟨a,b,f,nf e i,eA.mono e g⟩)
 | .lst ds,v,h=>by obtain⟨a,b,f,i,g⟩:=(show ∃a b,v = .ref a/\gv K H a b/\eA K H ds b from h);exact(show ∃a b,v = .ref a/\gv K H' a b/\eA K H' ds b from⟨a,b,f,e.seq i,eA.mono e g⟩)
 | .l9 ks vs,v,h=>by obtain⟨a,b,f,⟨k,z,g2,I⟩,g⟩:=(show ∃a b,v = .ref a/\Dn H a ks b/\eA K H vs b from h);exact(show ∃a b,v = .ref a/\Dn H' a ks b/\eA K H' vs b from⟨a,b,f,⟨k,z,g2,e _ _ I⟩,eA.mono e g⟩)
 | .lU ks vs,v,h=>by obtain⟨a,b,f,⟨z,o,l,g2,I,O,U,g6,Y⟩,g⟩:=(show ∃a b,v = .ref a/\G5 K H a ks b/\eA K H vs b from h);exact(show ∃a b,v = .ref a/\G5 K H' a ks b/\eA K H' vs b from⟨a,b,f,⟨z,o,l,e _ _ g2,I,O,U,λx j=>nf e<|g6 x j,Y⟩,eA.mono e g⟩)
theorem eA.mono{K:MC}{H H':Hp}(e:g8 H H') : ∀{ds:List D} {xs:List V},eA K H ds xs->eA K H' ds xs
 | [],_,h=>h
 | d::ds,xs,h=>by obtain⟨x,r,a,b,f⟩:=(show ∃x r,xs=x::r/\Rep K H d x/\eA K H ds r from h);exact(show ∃x r,xs=x::r/\Rep K H' d x/\eA K H' ds r from⟨x,r,a,Rep.mono e b,eA.mono e f⟩)
end
section
variable{K:MC}{H:Hp}
theorem eA.nil:eA K H [] []:=(show([]:List V)=[]from rfl)
theorem eA.cons(h:Rep K H d x)(t:eA K H ds xs):eA K H (d::ds) (x::xs):=⟨x,xs,rfl,h,t⟩
theorem eA.p5(h:eA K H [] xs):xs=[]:=h
theorem eA.m9(h:eA K H (d::ds) xs) : ∃x r,xs=x::r/\Rep K H d x/\eA K H ds r:=h
theorem eA.length : ∀{ds:List D} {xs:List V},eA K H ds xs->xs.length=ds.length
 | [],xs,h=>by rw[h.p5];rfl
 | d::ds,xs,h=>by obtain⟨x,r,e,_,t⟩:=h.m9;rw[e,MY,MY,eA.length t]
theorem eA.get : ∀{ds:List D} {xs:List V} {i:Nat} {d:D},eA K H ds xs->ds[i]? = dn d->∃x,xs[i]? = dn x/\Rep K H d x
 | [],_,_,_,_,e=>by simp at e
 | c::ds,xs,0,d,h,e=>by obtain⟨x,r,a,b,_⟩:=h.m9;simp at e;subst e;exact⟨x,by rw[a];rfl,b⟩
 | c::ds,xs,i+1,d,h,e=>by obtain⟨x,r,a,_,t⟩:=h.m9;obtain⟨y,z,g2⟩:=eA.get (i:=i) (d:=d) t (by simpa using e);exact⟨y,by rw[a];simpa using z,g2⟩
theorem eA.xg{ds:List D}{xs:List V}{i:Nat}{x:V}(h:eA K H ds xs)(e:xs[i]? = dn x) : ∃d,ds[i]? = dn d/\Rep K H d x:=by
 have b:i<ds.length:=by rw[<- h.length];exact(MU.mp e).1
 obtain⟨y,a,r⟩:=h.get<|MF b;rw[e]at a;cases a;exact⟨_,MF b,r⟩
theorem eA.append : ∀{ds C:List D} {xs ys:List V},eA K H ds xs->eA K H C ys->eA K H (ds++C) (xs++ys)
 | [],_,xs,_,h,g=>by rw[h.p5];exact g
 | d::ds,C,xs,ys,h,g=>by obtain⟨x,r,e,a,t⟩:=h.m9;rw[e];exact eA.cons a<|eA.append t g
theorem eA.drop : ∀{ds:List D} {xs:List V} (n:Nat),eA K H ds xs->eA K H (ds.drop n) (xs.drop n)
 | _,_,0,h=>h
 | [],xs,n+1,h=>by rw[h.p5];exact eA.nil
 | d::ds,xs,n+1,h=>by obtain⟨x,r,e,_,t⟩:=h.m9;rw[e];exact eA.drop n t
theorem eA.take : ∀{ds:List D} {xs:List V} (n:Nat),eA K H ds xs->eA K H (ds.take n) (xs.take n)
 | _,_,0,h=>by simp;exact eA.nil
 | [],xs,n+1,h=>by rw[h.p5];exact eA.nil
 | d::ds,xs,n+1,h=>by obtain⟨x,r,e,a,t⟩:=h.m9;rw[e];exact eA.cons a<|eA.take n t
theorem eA.set : ∀{ds:List D} {xs:List V} {d:D} {x:V} (i:Nat),eA K H ds xs->Rep K H d x->eA K H (ds.set i d) (xs.set i x)
 | [],xs,_,_,_,h,_=>by rw[h.p5];exact eA.nil
 | c::ds,xs,d,x,0,h,g=>by obtain⟨y,r,e,_,t⟩:=h.m9;rw[e];exact eA.cons g t
 | c::ds,xs,d,x,i+1,h,g=>by obtain⟨y,r,e,a,t⟩:=h.m9;rw[e];exact eA.cons a<|eA.set i t g
end
structure Ext(H0 H vu H':Hp):Prop where
 s0:g8 H0 vu
 s1:g8 H H'
 sub:g8 vu H'
 new : ∀a,H0 a=ed->H a≠ed->vu a=ed
theorem Ext.refl(s:g8 H0 H):Ext H0 H H0 H:=⟨g8.refl _,g8.refl _,s,λ_ h _=>h⟩
theorem Ext.trans(a:Ext H0 H H1 G1)(b:Ext H1 G1 H2 G2):Ext H0 H H2 G2:=
 ⟨a.s0.trans b.s0,a.s1.trans b.s1,b.sub,λc e d=>b.new c (a.new c e d) (by
  cases q:H c with
  | none=>exact absurd q d
  | some o=>rw[a.s1 c o q];simp)⟩
theorem jr(h:H p=ed)(o:HO):g8 H (upd H p o):=λb u q=>by rw[zN (qv q h)];exact q
theorem jA(s:g8 H0 H)(h:H p=ed):H0 p=ed:=s.free h
theorem eX(s:g8 H0 H):g8 (upd H0 p o) (upd H p o):=λb u q=>by
 by_cases e:b=p
 ·subst e;rw[zS]at q ⊢;exact q
 ·rw[zN e]at q ⊢;exact s b u q
theorem Ext.alloc(s:g8 H0 H)(h:H p=ed)(o:HO):Ext H0 H (upd H0 p o) (upd H p o):=
 ⟨jr (jA s h) o,jr h o,eX s,λa b d=>by rw[zN (λe=>d<|by rw[e];exact h)];exact b⟩
theorem Ext.hide(s:g8 H0 H)(h:H p=ed)(o:HO):Ext H0 H H0 (upd H p o):=
 ⟨g8.refl _,jr h o,s.trans<|jr h o,λa b _=>b⟩
theorem Ext.show(e:Ext H0 H vu H')(C:H a=ed)(J:vu a=ed)(O:H' a=dn o)(s:g8 H0 H):Ext H0 H (upd vu a o) H':=
 ⟨e.s0.trans<|jr J o,e.s1,λb u q=>by
  by_cases z:b=a
  ·subst z;rw[zS]at q;rw[O];exact q
  ·rw[zN z]at q;exact e.sub b u q,λb U I=>by
  rw[zN (λz=>I<|by rw[z];exact C)];exact e.new b U I⟩
structure uw(K:MC)(H0 H:Hp)(rows:List (List D))(a:ej)(bs:List ej):Prop where
 a0:H0 a=ed
 ha:H a=dn (.lst<|bs.map V.ref)
 nd:(a::bs).Nodup
 len:bs.length=rows.length
 row : ∀(k:Nat) b row,bs[k]? = dn b->rows[k]? = dn row->H0 b=ed/\∃xs,H b=dn (.lst xs)/\eA K H0 row xs
theorem uw.at{K:MC}{H0 H:Hp}{C:List (List D)}{a:ej}{bs:List ej}(n:uw K H0 H C a bs){b:ej}(z:b∈a::bs):H0 b=ed/\∃xs,H b=dn (.lst xs):=by
 rcases MS.mp z with rfl | z
 ·exact⟨n.a0,_,n.ha⟩
 ·obtain⟨k,I⟩:=SQ z
  have O:=(MU.mp I).1;rw[n.len]at O;obtain⟨d,xs,e,_⟩:=n.row k b _ I<|MF O;exact⟨d,xs,e⟩
theorem uw.move{K:MC}{H0 H J H':Hp}{C:List (List D)}{a:ej}{bs:List ej}(n:uw K H0 H C a bs)(s:g8 H0 J)(z : ∀b∈a::bs,J b=ed)(h : ∀b∈a::bs,H' b=H b):uw K J H' C a bs:=
 ⟨z a MX,by rw[h a MX];exact n.ha,n.nd,n.len,λk b row I U=>by obtain⟨_,e,d,Y⟩:=n.row k b row I U;have O:b∈a::bs:=MT _<|NQ I;exact⟨z b O,e,by rw[h b O];exact d,Y.mono s⟩⟩
noncomputable def o6(K:MC)(H0 H:Hp)(C:St)(γ:Ctx):Prop:=
 (∀(i:Nat) b,γ[i]? = dn (.nest b)->∃a bs,C[i]? = dn (dn (.ref a))/\uw K H0 H b a bs/\∀(j:Nat) d c,γ[j]? = dn (.own d)->C[j]? = dn (dn (.ref c))->c∉a::bs)/\
 ∀(i j:Nat) z e,γ[i]? = dn (.nest z)->γ[j]? = dn (.nest e)->i=j
theorem o6.DW{K:MC}{H0 H:Hp}{I:St}{γ:Ctx}(h : ∀(i:Nat) C,γ[i]? ≠ dn (.nest C)):o6 K H0 H I γ:=⟨λi C e=>absurd e<|h i C,λi j z a e=>absurd e<|h i z⟩
theorem o6.move{K:MC}{H0 H J H':Hp}{L:St}{γ:Ctx}(n:o6 K H0 H L γ)(s:g8 H0 J)(h : ∀(i:Nat) C a bs,γ[i]? = dn (.nest C)->L[i]? = dn (dn (.ref a))->uw K H0 H C a bs->(∀(j:Nat) ds c,γ[j]? = dn (.own ds)->L[j]? = dn (dn (.ref c))->c∉a::bs)->∀b∈a::bs,J b=ed/\H' b=H b):o6 K J H' L γ:=
 ⟨λi C e=>by obtain⟨a,bs,d,f,z⟩:=n.1 i C e;exact⟨a,bs,d,f.move s (λb I=>(h i C a bs e d f z b I).1)<|λb I=>(h i C a bs e d f z b I).2,z⟩,n.2⟩
theorem o6.ext{K:MC}{H0 H C H':Hp}{J:St}{γ:Ctx}(n:o6 K H0 H J γ)(e:Ext H0 H C H'):o6 K C H' J γ:=
 n.move e.s0 λi d a bs _ _ f _ b z=>by obtain⟨I,g,g2⟩:=f.at z;exact⟨e.new b I (by rw[g2];simp),by rw[e.s1 b _ g2,g2]⟩
structure RC(K:MC)(H0 H:Hp)(σ:St)(γ:Ctx):Prop where
 sub:g8 H0 H
 len:σ.length=γ.length
 val : ∀(i:Nat) d,γ[i]? = dn (.val d)->∃v,σ[i]? = dn (dn v)/\Rep K H0 d v
 own : ∀(i:Nat) ds,γ[i]? = dn (.own ds)->∃a xs,σ[i]? = dn (dn (.ref a))/\H0 a=ed/\H a=dn (.lst xs)/\eA K H0 ds xs
 ne : ∀(i j:Nat) a ds es,γ[i]? = dn (.own ds)->γ[j]? = dn (.own es)->σ[i]? = dn (dn (.ref a))->σ[j]? = dn (dn (.ref a))->i=j
 nj:o6 K H0 H σ γ
theorem RC.ext{K:MC}{H0 H C H':Hp}{J:St}{γ:Ctx}(r:RC K H0 H J γ)(e:Ext H0 H C H'):RC K C H' J γ:=
 ⟨e.sub,r.len,λi d h=>let ⟨v,b,f⟩:=r.val i d h;⟨v,b,f.mono e.s0⟩,
  λi g h=>let ⟨a,j,b,f,z,I⟩:=r.own i g h;⟨a,j,b,e.new a f (by rw[z];simp),e.s1 _ _ z,I.mono e.s0⟩,r.ne,r.nj.ext e⟩
noncomputable def tV(K:MC)(f:CO D):TE:=λh H Q=>∃e g d,RC K e H h g/\f g=dn d/\∀v b a,Ext e H a b->Rep K a d v->Q v b
noncomputable def tQ(K:MC)(f:CO (Sk×List D)):TE:=λj H Q=>∃g i k h,RC K g H j i/\f i=dn (k,h)/\∀a e d b,Ext g H b d->i7 k K d a e->(k = .T->hB K b a e)->eA K b h e->Q (.ref a) d
noncomputable def tO(K:MC)(f:CO (List D)):TE:=λj H Q=>∃e i g,RC K e H j i/\f i=dn g/\
 ∀a h d b,Ext e H b d->H a=ed->b a=ed->d a=dn (.lst h)->eA K b g h->Q (.ref a) d
noncomputable def tT(K:MC)(f:CO Bool):TT:=λh H Q=>∃e g b,RC K e H h g/\f g=dn b/\∀d a,Ext e H a d->Q b d
noncomputable def tA(K:MC)(f:CO (List D)):TA:=λi H Q=>∃d h e,RC K d H i h/\f h=dn e/\∀g b a,Ext d H a b->eA K a e g->Q g b
abbrev PV(X:Cx)(e:e9)(f:CO D):Prop:=PE X e (tV X.K f)
abbrev PQ(X:Cx)(e:e9)(f:CO (Sk×List D)):Prop:=PE X e (tQ X.K f)
abbrev PO(X:Cx)(e:e9)(f:CO (List D)):Prop:=PE X e (tO X.K f)
abbrev m4(X:Cx)(e:e9)(f:CO Bool):Prop:=PT X e (tT X.K f)
abbrev Ds(X:Cx)(e:e9)(f:CO Bool):Prop:=PW X e (tT X.K f)
abbrev A6(X:Cx)(es:List e9)(f:CO (List D)):Prop:=PA X es (tA X.K f)
theorem qD(h:PE X e t)(i : ∀C H Q,t' C H Q->t C H Q):PE X e t':=λa s C H Q I q=>h a s C H Q I<|i C H Q q
theorem Wa(h:PT X e t)(i : ∀C H Q,t' C H Q->t C H Q):PT X e t':=λa s C H Q I q=>h a s C H Q I<|i C H Q q
theorem Cf(h:PW X e t)(i : ∀C H Q,t' C H Q->t C H Q):PW X e t':=λz a s C H Q I q=>h z a s C H Q I<|i C H Q q
theorem CZ(h:PA X es t)(i : ∀C H Q,t' C H Q->t C H Q):PA X es t':=λpos a s C H Q I q=>h pos a s C H Q I<|i C H Q q
theorem ye{X:Cx}{st:k4}{t t':TS}(h:PS X st t)(i : ∀D C H,t' D C H->t D C H):PS X st t':=λa s C H D I q=>h a s C H D I<|i D C H q
theorem rO{X:Cx}{st:List k4}{t t':TS}(h:q5 X st t)(i : ∀D C H,t' D C H->t D C H):q5 X st t':=λa s C H D I q=>h a s C H D I<|i D C H q
theorem KD(h:PI X tg e t)(i : ∀C H R,t' C H R->t C H R):PI X tg e t':=λa s C H R I q=>h a s C H R I<|i C H R q
theorem yC(h:n<=lim):n<=gm:=Of h ⋯
section
variable{X:Cx}{e a b c:e9}{pos:hL}
theorem PV.q(h:PV X e f):PQ X e (zE f):=qD h λs H Q Y=>by
 obtain⟨p,o,k,i,rc,I,q⟩:=Y;unfold zE at I;cases e1:f o with
 | none=>rw[e1]at I;cases I
 | some d=>
  rw[e1]at I;refine⟨p,o,d,rc,e1,λv n b ext r=>?_⟩;cases d with
  | tup l=>
   obtain⟨O,U⟩:k = .T/\i=l:=by simp[jq]at I;exact⟨I.1.symm,I.2.symm⟩
   subst O U;obtain⟨a,g,rfl,j,m⟩:=(show ∃a g,v = .ref a/\hB X.K b a g/\eA X.K b i g from r);exact q a g n b ext (nf ext.sub j) (λ_=>j) m
  | lst l=>
   obtain⟨O,U⟩:k = .L/\i=l:=by simp[jq]at I;exact⟨I.1.symm,I.2.symm⟩
   subst O U;obtain⟨a,g,rfl,j,m⟩:=(show ∃a g,v = .ref a/\gv X.K b a g/\eA X.K b i g from r);exact q a g n b ext (ext.sub.seq j) (λz=>nomatch z) m
  | _=>simp[jq]at I
theorem PO.v(h:PO X e f):PV X e (j3 f):=qD h λo H Q U=>by
 obtain⟨j,i,d,rc,z,q⟩:=U;unfold j3 at z;cases e1:f i with
 | none=>rw[e1]at z;cases z
 | some b=>
  rw[e1]at z;cases z;refine⟨j,i,b,rc,e1,λa m n k ext l g Y r=>?_⟩;exact q _ _ _ (ext.show l g Y rc.sub) (show ∃I O,V.ref a = .ref I/\gv X.K _ I O/\eA X.K _ b O from⟨a,m,rfl,gv.of zS,r.mono<|jr g _⟩)
theorem PO.q(h:PO X e f):PQ X e (jj f):=qD h λp H Q O=>by
 obtain⟨i,d,k,l,rc,I,q⟩:=O;unfold jj at I;cases e1:f d with
 | none=>rw[e1]at I;cases I
 | some m=>
  rw[e1]at I;cases I;exact⟨i,d,_,rc,e1,λa j g b ext n o U r=>q a j g b ext (gv.of U) (λz=>nomatch z) r⟩
theorem Cg(i:Nat)(h:PE X e (AV i)):PV X e (zc i):=qD h λm H Q I=>by
 obtain⟨b,j,d,rc,z,q⟩:=I;unfold zc at z;cases e1:j[i]? with
 | none=>rw[e1]at z;cases z
 | some c=>
  rw[e1]at z;cases c with
  | val k=>
   cases z;obtain⟨v,f,g⟩:=rc.val i d e1;exact⟨v,f,q v H b (Ext.refl rc.sub) g⟩
  | no=>cases z
  | own l=>cases z
  | nest a=>cases z
theorem CA(i:Nat)(h:PE X e (AV i)):PQ X e (ze i):=qD h λt H Q r=>by
 obtain⟨f,s,k,g,rc,I,q⟩:=r;unfold ze at I;cases e1:s[i]? with
 | none=>rw[e1]at I;cases I
 | some c=>
  rw[e1]at I;cases c with
  | no=>cases I
  | nest n=>cases I
  | own j=>
   cases I;obtain⟨a,b,l,m,o,p⟩:=rc.own i g e1;exact⟨_,l,q a b H f (Ext.refl rc.sub) (gv.of o) (λz=>nomatch z) p⟩
  | val d=>
   obtain⟨v,l,m⟩:=rc.val i d e1;refine⟨v,l,?_⟩;cases d with
   | tup j=>
    obtain⟨U,Y⟩:k = .T/\g=j:=by simp[vY,jq]at I;exact⟨I.1.symm,I.2.symm⟩
    subst U Y;obtain⟨a,b,rfl,O,g2⟩:=(show ∃a b,v = .ref a/\hB X.K f a b/\eA X.K f g b from m);exact q a b H f (Ext.refl rc.sub) (nf rc.sub O) (λ_=>O) g2
   | lst j=>
    obtain⟨U,Y⟩:k = .L/\g=j:=by simp[vY,jq]at I;exact⟨I.1.symm,I.2.symm⟩
    subst U Y;obtain⟨a,b,rfl,O,g2⟩:=(show ∃a b,v = .ref a/\gv X.K f a b/\eA X.K f g b from m);exact q a b H f (Ext.refl rc.sub) (rc.sub.seq O) (λz=>nomatch z) g2
   | _=>simp[vY,jq]at I
theorem Jg(h:PE X e (tC v))(r : ∀H,Rep X.K H d v):PV X e (zq d):=qD h λg H Q z=>by obtain⟨a,f,b,rc,I,q⟩:=z;cases I;exact q v H a (Ext.refl rc.sub)<|r a
theorem zk:PV X (.Constant (.int i) j pos) (zq<|.int i):=Jg CS λ_=>(show V.int i = .int i from rfl)
theorem nH:PV X (.Constant (.bool x) j pos) (zq<|.bl x):=Jg Hc λ_=>(show V.bl x = .bl x from rfl)
theorem YS:PV X (.Constant .none j pos) (zq .ft):=Jg CN λ_=>(show V.ft = .ft from rfl)
theorem yP:PV X (.Constant (.str x) j pos) (zq<|.str x):=Jg CJ λ_=>(show V.str x = .str x from rfl)
noncomputable def n7(K:MC)(r:R2)(F:D->D->Option D):Prop:=∀b H x y f z d Q,g8 b H->Rep K b f x->Rep K b z y->F f z=dn d->(∀v e a,Ext b H a e->Rep K a d v->Q v e)->r x y H Q
theorem zf(h:o.bind f=dn y) : ∃x,o=dn x/\f x=dn y:=by
 cases o with
 | none=>cases h
 | some x=>exact⟨x,rfl,h⟩
theorem We{K:MC}{r:R2}{F:D->D->Option D}{J L:CO D}(O:n7 K r F) : ∀C H Q,tV K (zG F J L) C H Q->F4 r (tV K J) (tV K L) C H Q:=λC H Q U=>by obtain⟨f,b,d,rc,z,q⟩:=U;obtain⟨x,j,z⟩:=zf z;obtain⟨y,Y,z⟩:=zf z;refine⟨f,b,x,rc,j,λn p h x1 k=>⟨h,b,y,rc.ext x1,Y,λo g i I l=>?_⟩⟩;exact O i g n o x y d Q I.sub (k.mono I.s0) l z λv e a x3 m=>q v e a (x1.trans<|I.trans x3) m
theorem XN(z:i9 X (t7 op) r)(I:n7 X.K r F)(C:PV X a fa)(O:PV X b fb):PV X (.BinOp a op b pos) (zG F fa fb):=
 qD (uE z C O) (We I)
theorem fL(z:i9 X (oe op) r)(I:n7 X.K r F)(C:PV X a fa)(O:PV X b fb)(J:u4 op b=eh):PV X (.Compare a [op] [b] pos) (zG F fa fb):=
 qD (gh z C O J) (We I)
theorem Jt{d:D}{b:Bool}(h:ra d=dn b):d = .bl b:=by cases d<;>simp[ra]at h;rw[h]
theorem Zs(I:i9 X (oe op) r)(O:n7 X.K r F)(C:PV X a fa)(U:PV X b fb)(J:u4 op b=eh):m4 X (.Compare a [op] [b] pos) (sB<|zG F fa fb):=
 Wa (fO I C U J) λj H Q Y=>by obtain⟨g,i,k,rc,z,q⟩:=Y;obtain⟨d,h,z⟩:=zf z;refine We O j H _ ⟨g,i,d,rc,h,λv f e x r=>?_⟩;rw[Jt z]at r;exact⟨k,r,q f e x⟩
theorem qQ{f:CO D}(h:PV X e f)(O : ∀I,Dz e X.env I=(do let v <- I;DC e.pos;sy [v] (F6 v)):=by intro _;rfl):m4 X e (sB f):=
 Wa (Ct h O) λl H Q U=>by obtain⟨g,j,k,rc,z,q⟩:=U;obtain⟨d,i,z⟩:=zf z;refine⟨g,j,d,rc,i,λv b a x r=>?_⟩;rw[Jt z]at r;exact⟨k,r,q b a x⟩
theorem Jf(h:m4 X a f):Ds X (.BoolOp .And [a] pos) f:=ud h
theorem V6(h:m4 X a f):Ds X (.BoolOp .Or [a] pos) f:=Cd h
theorem Kx{f g:CO Bool}{yd:List e9}(C:m4 X a f)(I:Ds X (.BoolOp .And (b::yd) pos) g):Ds X (.BoolOp .And (a::b::yd) pos) (fv f g):=
 Cf (Ce C I) λm H Q O=>by
  obtain⟨i,e,k,rc,z,q⟩:=O;obtain⟨c,l,z⟩:=zf z;refine⟨i,e,c,rc,l,λh d x=>?_⟩;cases c with
  | true=>rw[UJ rfl]at z ⊢;exact⟨d,e,k,rc.ext x,z,λj U Y=>q j U<|x.trans Y⟩
  | false=>rw[UY Nq]at z ⊢;cases z;exact q h d x
theorem fF{f g:CO Bool}{yd:List e9}(C:m4 X a f)(I:Ds X (.BoolOp .Or (b::yd) pos) g):Ds X (.BoolOp .Or (a::b::yd) pos) (vw f g):=
 Cf (GV C I) λm H Q O=>by
  obtain⟨i,e,k,rc,z,q⟩:=O;obtain⟨c,l,z⟩:=zf z;refine⟨i,e,c,rc,l,λh d x=>?_⟩;cases c with
  | true=>rw[UJ rfl]at z ⊢;cases z;exact q h d x
  | false=>rw[UY Nq]at z ⊢;exact⟨d,e,k,rc.ext x,z,λj U Y=>q j U<|x.trans Y⟩
theorem Zr(C:m4 X a f):m4 X (.UnaryOp .Not a pos) (j6 f):=
 Wa (Cu C) λh H Q I=>by
  obtain⟨g,d,k,rc,z,q⟩:=I;unfold j6 at z;cases e1:f d with
  | none=>rw[e1]at z;cases z
  | some c=>rw[e1]at z;cases z;exact⟨g,d,c,rc,e1,λe b x=>q e b x⟩
theorem V9(h:Ds X e f):m4 X e f:=h.pt
theorem fH(h:PV X a f):PV X (.BoolOp op [a] pos) f:=CK h
theorem fM{f g:CO D}{yd:List e9}(C:PV X a f)(I:PV X (.BoolOp .And (b::yd) pos) g):PV X (.BoolOp .And (a::b::yd) pos) (fw f g):=
 qD (CU C I) λs H Q O=>by
  obtain⟨k,i,d,rc,z,q⟩:=O;obtain⟨c,h,z⟩:=zf z;obtain⟨U,Y,h⟩:=zf h;refine⟨k,i,U,rc,Y,λv j e x r=>?_⟩;rw[Jt h]at r;refine⟨c,r,?_⟩;cases c with
  | true=>rw[UJ rfl]at z ⊢;exact⟨e,i,d,rc.ext x,z,λo l m p n=>q o l m (x.trans p) n⟩
  | false=>rw[UY Nq]at z ⊢;cases z;exact q _ j e x (show V.bl eh = .bl eh from rfl)
theorem Ci(C:PV X a f):PV X (.UnaryOp .Not a pos) (FD f):=
 qD (CM C) λi H Q O=>by
  obtain⟨h,e,d,rc,z,q⟩:=O;unfold FD at z;cases e1:f e with
  | none=>rw[e1]at z;cases z
  | some I=>
   rw[e1]at z;refine⟨h,e,I,rc,e1,λv g b x r=>?_⟩;cases I with
   | bl c=>cases z;exact⟨c,r,q _ g b x<|show V.bl (!c) = .bl (!c)from rfl⟩
   | _=>cases z
theorem kx(Y:m4 X c k)(C:PV X a f)(J:PV X b g):PV X (.IfExp c a b pos) (fj k f g):=
 qD (nY Y C J) λp H Q n=>by
  obtain⟨l,j,d,rc,z,q⟩:=n;obtain⟨t,m,z⟩:=zf z;refine⟨l,j,t,rc,m,λo e x=>?_⟩;cases t with
  | true=>rw[UJ rfl]at z ⊢;exact⟨e,j,d,rc.ext x,z,λI h O U i=>q I h O (x.trans U) i⟩
  | false=>rw[UY Nq]at z ⊢;exact⟨e,j,d,rc.ext x,z,λI h O U i=>q I h O (x.trans U) i⟩
theorem uH:A6 X [] zB:=CZ xj λe H Q z=>by obtain⟨a,d,b,rc,I,q⟩:=z;cases I;exact q [] H a (Ext.refl rc.sub) eA.nil
theorem oi(C:PV X e f)(U:A6 X es g)(Y:gu (e::es) X.env=(eh,fh e X.env)::gu es X.env:=by rfl):A6 X (e::es) (zb f g):=
 CZ (jT C U Y) λs H Q k=>by
  obtain⟨b,a,p,rc,z,q⟩:=k;obtain⟨x,j,z⟩:=zf z;cases I:g a with
  | none=>rw[I]at z;cases z
  | some r=>
   rw[I]at z;cases z;exact⟨b,a,x,rc,j,λv o h x1 l=>⟨h,a,r,rc.ext x1,I,λn d i O m=>q (v::n) d i (x1.trans O)<|eA.cons (l.mono O.s0) m⟩⟩
theorem jI(h:A6 X es f):PV X (.Tuple es x1 pos) (qA f):=
 qD (CI h) λn H Q Y=>by
  obtain⟨g,k,d,rc,z,q⟩:=Y;obtain⟨b,i,z⟩:=zf z;by_cases I:b.length<=lim
  ·rw[UJ I]at z;cases z
   refine⟨g,k,b,rc,i,λj l m x1 O=>⟨yC (by rw[O.length];exact I),λp U=>?_⟩⟩;exact q _ _ _ (x1.trans<|Ext.alloc x1.sub U _) (show ∃a e,V.ref p = .ref a/\hB X.K _ a e/\eA X.K _ b e from⟨p,j,rfl,hB.of zS,O.mono<|jr (jA x1.sub U) _⟩)
  ·rw[UY I]at z;cases z
theorem ko(h:A6 X es f):PO X (.List es pos) (qG f):=
 qD (CP h) λm H Q i=>by
  obtain⟨a,k,d,rc,I,q⟩:=i;obtain⟨e,g,I⟩:=zf I;by_cases U:e.length<=lim
  ·rw[UJ U]at I;cases I
   refine⟨a,k,_,rc,g,λj l b x1 Y=>⟨yC (by rw[Y.length];exact U),λp O=>?_⟩⟩;exact q p j _ b (x1.trans<|Ext.hide x1.sub O _) (by
    cases z:H p with
    | none=>rfl
    | some o=>rw[x1.s1 p o z]at O;cases O) (jA x1.sub O) zS Y
  ·rw[UY U]at I;cases I
end
noncomputable def nI(C:List (Key×V))(ps:List (Key×V)):List (Key×V):=ps.foldl (λacc z=>dE acc z.1 z.2) C
theorem vh:entryFor table "dict.update.loop" = dn n5.«dict.update.loop» :=entryFor_of_tree (by kernel_rfl)
theorem y8(args:Args):(Code.builtin "dict.update.loop" args).quiet=d7:=Code.quiet_builtin _ ⋯
noncomputable def Ms(i:Nat)(f:CO D)(γ:Ctx):Option D:=(q8 γ[i]?).bind λa=>(f<|γ.set i<|.val<|.lst a).bind λd=>if HE d=d7 then dn d else ed
noncomputable def LM(i:Nat)(f:CO Bool)(γ:Ctx):Option Bool:=(q8 γ[i]?).bind λa=>f<|γ.set i<|.val<|.lst a
def II(i:Nat)(γ:Ctx):Option Fl:=(q8 γ[i]?).map λ_=> .next (γ.set i<|.own [])
noncomputable def xG(ds:List D):List D:=(MB ds.length).map λ(i:Nat)=>D.tup [.int i,ds[i]?.getD .ft]
noncomputable def ck(f:CO D)(γ:Ctx):Option (List D):=(f γ).bind λd=>match d with
 | .tup a=>dn (xG a)
 | _=>ed
noncomputable def KR:List D->Option (List Int)
 | []=>dn []
 | .int i::r=>(KR r).map λl=>i::l
 | _::_=>ed
noncomputable def GP(f:CO D)(g:CO (Sk×List D))(γ:Ctx):Option D:=(f γ).bind λd=>(g γ).bind λa=>(ml d).bind λi=>(KR a.2).map λl=> .bl (decide<|i∈l)
noncomputable def iz(k:Int):List Int->Option Nat
 | []=>ed
 | i::r=>if i=k then dn 0 else (iz k r).map (· + 1)
noncomputable def Mq(f g:CO D)(γ:Ctx):Option D:=(f γ).bind λd=>((g γ).bind ml).bind λk=>match d with
 | .tup a=>(KR a).bind λl=>(iz k l).map λ(j:Nat)=>D.int (j:Int)
 | _=>ed
noncomputable def vX(T:Tg)(f:CO (List D))(γ:Ctx):List D->Option (List<|List D)
 | []=>dn []
 | d::ds=>(ka T d γ).bind λa=>(f a).bind λe=>(vX T f γ ds).map λr=>e::r
noncomputable def ay(C:CO (List D))(T:Tg)(n:Nat)(I:List Nat)(f:CO (List D))(γ:Ctx):Option (List<|List D):=(C γ).bind λa=>if a.length<=lim then vX T f (ja n I γ) a else ed
def X4:Cell->Bool
 | .nest _=>d7
 | _=>eh
noncomputable def ny(i:Nat)(f:CO (List<|List D)):CO Fl:=λb=>(f b).bind λa=>if b.any X4=eh then dn (.next<|b.set i<|.nest a)else ed
def w5:Option Cell->Option (List<|List D)
 | some (.nest rows)=>dn rows
 | _=>ed
def yZ(γ:Ctx)(j i:Nat)(r:List D):Ctx:=(γ.set j .no).set i (.own r)
noncomputable def kW(j i:Nat)(g f:CO D)(γ:Ctx):List (List D)->Option (List<|List D)
 | []=>dn []
 | r::rs=>(f<|yZ γ j i r).bind λd=>((g<|yZ γ j i r).bind ml).bind λk=>(h6 r.length k).bind λm=>(kW j i g f γ rs).map λt=>r.set m d::t
noncomputable def fm(j i:Nat)(g f:CO D)(γ:Ctx):Option Fl:=(w5 γ[j]?).bind λa=>if i=j\/γ.length<=i then ed else (kW j i g f γ a).map λz=> .next ((γ.set j<|.nest z).set i .no)
noncomputable def mC(i:Nat)(F:CO Fl)(γ:Ctx):Option Fl:=(q8 γ[i]?).bind λa=>F<|γ.set i<|.val<|.lst a
noncomputable def nz(i:Nat)(F:CO Fl)(γ:Ctx):Option Fl:=(w5 γ[i]?).bind λa=>F<|γ.set i<|.val<|.lst<|a.map D.lst
noncomputable def IG(is:List Nat)(f:CO D)(γ:Ctx):Option Fl:=(f γ).bind λd=>match d with
 | .lst a=>if a.length=is.length then dn (.next<|xp is a γ)else ed
 | _=>ed
noncomputable def Kp:List D->Option (List Str)
 | []=>dn []
 | .str x::r=>(Kp r).map λl=>x::l
 | _::_=>ed
def qb(x:Str):Bool:=decide<|x.length<=1000
noncomputable def fi(f:CO D)(g:CO (Sk×List D))(γ:Ctx):Option D:=(f γ).bind λd=>(g γ).bind λa=>match d,a.1 with
 | .str sep,.L=>(Kp a.2).bind λl=>if l.length<=lim/\l.all qb=d7/\qb sep=d7 then dn (.str<|TJ sep l)else ed
 | _,_=>ed
noncomputable def ya(f g:CO D)(γ:Ctx):Option D:=(f γ).bind λd=>((g γ).bind ml).bind λi=>match d with
 | .str z=>if qb z=d7 then (h6 z.cps.toList.length i).bind λk=>z.cps.toList[k]?.map λc=> .str ⟨#[c]⟩else ed
 | _=>ed
noncomputable def yX(f:CO D)(γ:Ctx):Option D:=(f γ).bind λd=>match d with
 | .str z=>if qb z=d7 then dn (.int z.length)else ed
 | _=>ed
noncomputable def LK(z O I U:Str)(f:CO D)(γ:Ctx):Option D:=(f γ).bind λd=>match d with
 | .str x=>if z=I then ed else if x=z then dn (.str O)else if x=I then dn (.str U)else ed
 | _=>ed
noncomputable def V1(f g:CO D)(γ:Ctx):Option D:=((f γ).bind ml).bind λi=>((g γ).bind ml).map λj=> .int (if j<i then j else i)
abbrev Xn:=Str×Option Int
def Dl:CO Xn:=λ_=>ed
def sC(c:Str):CO Xn:=λ_=>dn (c,ed)
noncomputable def Dk(k:CO Bool)(G H:CO Xn):CO Xn:=λa=>(k a).bind λb=>if b=d7 then G a else H a
noncomputable def Fx(G:CO Xn)(F:CO Fl)(H:CO Xn):CO Xn:=λb=>match G b with
 | some c=>dn c
 | none=>(F b).bind λz=>match z with
  | .next a=>H a
  | _=>ed
def ZS(G:List D->Option Xn)(g:CO (List D)):CO Xn:=λa=>(g a).bind G
def fz(n:Nat)(G:CO Xn)(ds:List D):Option Xn:=G<|z7 n ds
def Mf(c:Str):Str:=if c==("NoRoom" : Str)then "room" else "at"
noncomputable def Ku(f:CO D)(g:CO (Sk×List D)):CO D:=λb=>(f b).bind λd=>(g b).bind λa=>(ml d).bind λi=>(KR a.2).map λl=> .bl (!decide (i∈l))
end DL
namespace DL
open PySem L2
open PySem.W (KasT kas_sort)
def XI(z:Str):List D:=z.cps.toList.map λc=>D.str ⟨#[c]⟩
noncomputable def BH(f:CO D)(γ:Ctx):Option (List D):=(f γ).bind λd=>match d with
 | .str z=>if qb z=d7 then dn (XI z)else ed
 | _=>ed
noncomputable def fu(f:CO D)(γ:Ctx):Option (List D):=(f γ).bind λd=>match d with
 | .str z=>if qb z=d7 then dn (xG<|XI z)else ed
 | _=>ed
noncomputable def aw(f:CO D)(γ:Ctx):Option (List D):=(f γ).bind λd=>match d with
 | .lst a=>dn (xG a)
 | _=>ed
noncomputable def LI(f:CO D)(g:CO (Sk×List D))(γ:Ctx):Option D:=(f γ).bind λd=>(g γ).bind λa=>match d with
 | .str x=>(Kp a.2).map λl=> .bl (l.any λy=>y==x)
 | _=>ed
noncomputable def GR(f g:CO D)(γ:Ctx):Option D:=(f γ).bind λd=>(g γ).bind λe=>match d,e with
 | .str x,.str y=>if qb x=d7/\qb y=d7 then dn (.str<|x++y)else ed
 | _,_=>ed
noncomputable def Mo(f:CO D)(l h:CO (Option Int))(γ:Ctx):Option D:=(f γ).bind λd=>(l γ).bind λlo=>(h γ).bind λa=>match d with
 | .str z=>if qb z=d7 then dn (.str<|Txt.slice z lo a)else ed
 | _=>ed
noncomputable def FF(f:CO (Sk×List D))(γ:Ctx):Option (List D):=(f γ).bind λa=>match a.1 with
 | .L=>if a.2.length<=lim then dn a.2.reverse else ed
 | _=>ed
def oh:D->Option (Int×Int)
 | .tup [.int a,.int b]=>dn (a,b)
 | _=>ed
noncomputable def ZK:List D->Option (List<|Int×Int)
 | []=>dn []
 | d::r=>(oh d).bind λp=>(ZK r).map λl=>p::l
def vO(x y:Int×Int):Bool:=if x.1=y.1 then decide (x.2<y.2)else decide (x.1<y.1)
noncomputable def ku{C:Type}(lt:Nat->Nat->Bool):KasT C->C
 | .ret a=>a
 | .ask i j k=>ku lt<|k<|lt i j
noncomputable def qu(ps:List (Int×Int)):List Nat:=if ps.length<2 then MB ps.length else (ku (λi j=>vO (ps.getD i (0,0))<|ps.getD j (0,0))<|kas_sort ps.length).toList
noncomputable def eP(ds:List D):Option (List D):=(ZK ds).bind λa=>if ds.length<64 then dn ((qu a).map λi=>ds.getD i .ft)else ed
noncomputable def YN(f:CO (Sk×List D))(γ:Ctx):Option (List D):=(f γ).bind λa=>match a.1 with
 | .L=>eP a.2
 | _=>ed
end DL
namespace DL
open PySem L2
noncomputable def GQ(i:Nat)(f:CO (List D))(γ:Ctx):Option Fl:=(q8 γ[i]?).bind λa=>(f γ).bind λb=>if a.length+b.length<=lim then dn (.next<|γ.set i<|.own<|a++b)else ed
noncomputable def BM(F G:List D->Option Res)(g:CO (List D))(γ:Ctx):Option (List D):=(g γ).bind λl=>match l with
 | [p,.str z,t,b]=>((if z=("r" : Str)then F else G) [p,t,b]).bind BX
 | _=>ed
noncomputable def Xz:List D->Option (List Int)
 | []=>dn []
 | .int i::r=>(Xz r).map λl=>i::l
 | _::_=>ed
noncomputable def pw(ds C:List D):Option D:=match Xz ds with
 | some a=>if ds.length=C.length/\a.Nodup/\ds.length<=lim then dn (.l9 ds C)else ed
 | none=>ed
noncomputable def bh:List D->List D->Int->Option D
 | k::ks,v::vs,i=>match k with
  | .int j=>if j=i then dn v else bh ks vs i
  | _=>bh ks vs i
 | _,_,_=>ed
open PySem.Spec PyProof.Rows
structure RS(K:MC)(E0 E H0 H:Hp)(σ:St)(γ:Ctx):Prop where
 rc:RC K H0 H σ γ
 ext:Ext E0 E H0 H
 fresh : ∀(i:Nat) ds a,γ[i]? = dn (.own ds)->σ[i]? = dn (dn (.ref a))->E a=ed
 t8 : ∀(i:Nat) rows a xs,γ[i]? = dn (.nest rows)->σ[i]? = dn (dn (.ref a))->H a=dn (.lst xs)->E a=ed/\∀b,V.ref b∈xs->E b=ed
noncomputable def Sat(K:MC)(E0 E:Hp)(D:Ends):Fl->Prop
 | .next f=>∀e H b,RS K E0 E b H e f->D.nx e H
 | .brk f=>∀e H b,RS K E0 E b H e f->D.bk e H
 | .cont f=>∀e H b,RS K E0 E b H e f->D.ct e H
 | .ret (.val d)=>∀v H b,Ext E0 E b H->Rep K b d v->D.rt v H
 | .ret (.own es)=>∀a g H b,Ext E0 E b H->E a=ed->b a=ed->H a=dn (.lst g)->eA K b es g->D.rt (.ref a) H
noncomputable def tS(K:MC)(F:CO Fl):TS:=λD d H=>∃E0 E b a z,RS K E0 E b H d a/\F a=dn z/\Sat K E0 E D z
abbrev md(X:Cx)(st:k4)(F:CO Fl):Prop:=PS X st (tS X.K F)
abbrev mj(X:Cx)(_a:List k4)(F:CO Fl):Prop:=q5 X _a (tS X.K F)
section
variable{K:MC}{E0 E H0 H vu H':Hp}{σ:St}{γ:Ctx}
theorem RS.step(r:RS K E0 E H0 H σ γ)(e:Ext H0 H vu H'):RS K E0 E vu H' σ γ:=⟨r.rc.ext e,r.ext.trans e,r.fresh,λi b a g d f I=>by obtain⟨O,bs,z,g2,_⟩:=r.rc.nj.1 i b d;rw[f]at z;cases z;have:=e.s1 a _ g2.ha;rw[I]at this;cases this;exact r.t8 i b a _ d f g2.ha⟩
theorem zI{C:Type}{l:List C}{i j:Nat}{x y:C}(h:(l.set i x)[j]? = dn y):(j=i/\y=x/\i<l.length)\/(j≠i/\l[j]? = dn y):=by
 by_cases e:i=j
 ·subst e
  by_cases z:i<l.length
  ·rw[Ni z]at h;cases h;exact .inl ⟨rfl,rfl,z⟩
  ·rw[List.set_eq_of_length_le ⋯]at h
   exact absurd (MU.mp h).1 z
 ·rw[MK e]at h;exact .inr ⟨Ny e,h⟩
theorem o6.yg{i:Nat}{d:D}{v:V}(n:o6 K H0 H σ γ):o6 K H0 H (σ.set i<|some v) (γ.set i<|.val d):=
 ⟨λj b e=>by
  rcases zI e with⟨_,z,_⟩ | ⟨U,z⟩
  ·cases z
  ·obtain⟨a,bs,h,l,Y⟩:=n.1 j b z
   refine⟨a,bs,by rw[MK (Ny U)];exact h,l,λk g c f I=>?_⟩;rcases zI f with⟨_,z,_⟩ | ⟨m,O⟩
   ·cases z
   ·rw[MK (Ny m)]at I;exact Y k g c O I,
 λj k o p f I=>by
  rcases zI f with⟨_,z,_⟩ | ⟨_,O⟩
  ·cases z
  ·rcases zI I with⟨_,z,_⟩ | ⟨_,r⟩
   ·cases z
   ·exact n.2 j k o p O r⟩
theorem RC.yg{i:Nat}{d:D}{v:V}(r:RC K H0 H σ γ)(h:Rep K H0 d v):RC K H0 H (σ.set i<|some v) (γ.set i<|.val d):=by
 refine⟨r.sub,by simp[r.len],λj g e=>?_,λj b e=>?_,λj k a b n l m U Y=>?_,r.nj.yg⟩
 ·rcases zI e with⟨rfl,z,f⟩ | ⟨I,z⟩
  ·cases z;exact⟨v,Ni (by rw[r.len];exact f),h⟩
  ·obtain⟨p,O,g2⟩:=r.val j g z
   exact⟨p,by rw[MK (Ny I)];exact O,g2⟩
 ·rcases zI e with⟨rfl,z,f⟩ | ⟨I,z⟩
  ·cases z
  ·obtain⟨a,s,O,g2⟩:=r.own j b z
   exact⟨a,s,by rw[MK (Ny I)];exact O,g2⟩
 ·rcases zI l with⟨_,z,_⟩ | ⟨I,t⟩
  ·cases z
  ·rcases zI m with⟨_,z,_⟩ | ⟨o,u⟩
   ·cases z
   ·rw[MK (Ny I)]at U
    rw[MK (Ny o)]at Y;exact r.ne j k a b n t u U Y
theorem RS.yg{i:Nat}{d:D}{v:V}(r:RS K E0 E H0 H σ γ)(h:Rep K H0 d v):RS K E0 E H0 H (σ.set i<|some v) (γ.set i<|.val d):=
 ⟨r.rc.yg h,r.ext,λj f a e I=>by
  rcases zI e with⟨_,z,_⟩ | ⟨O,z⟩
  ·cases z
  ·rw[MK (Ny O)]at I;exact r.fresh j f a z I,
 λj b a g e I U=>by
  rcases zI e with⟨_,z,_⟩ | ⟨O,z⟩
  ·cases z
  ·rw[MK (Ny O)]at I;exact r.t8 j b a g z I U⟩
theorem yB : ∀{z bs:List ej},z.map V.ref=bs.map V.ref->z=bs
 | [],[],_=>rfl
 | [],_::_,h=>by cases h
 | _::_,[],h=>by cases h
 | a::z,b::bs,h=>by rw[Nk,Nk]at h;injection h with h1 h2;injection h1 with h1;rw[h1,yB h2]
theorem RS.Z_{i:Nat}{L:List D}{a:ej}{xs:List V}{J G:Hp}(r:RS K E0 E J G σ γ)(e:Ext J G H0 H)(C:G a=ed)(S:H0 a=ed)(Z:H a=dn (.lst xs))(h4:eA K H0 L xs) :
 RS K E0 E H0 H (σ.set i<|some (.ref a)) (γ.set i<|.own L):=by
 have rc:=r.rc.ext e;have no : ∀(j:Nat) f,γ[j]? = dn (.own f)->¬σ[j]? = dn (dn (.ref a)):=λj f g z=>by obtain⟨b,u,I,g2,g3,_⟩:=r.rc.own j f g;rw[z]at I;cases I;rw[C]at g3;cases g3
 refine⟨⟨rc.sub,by simp[rc.len],λj x g=>?_,λj f g=>?_,λj k b f fs t Y h l=>?_,⟨λj d g=>?_,λj k F M I g2=>?_⟩⟩,r.ext.trans e,λj f b I g2=>?_,λj d b xs I g2 g3=>?_⟩
 ·rcases zI g with⟨_,z,_⟩ | ⟨O,z⟩
  ·cases z
  ·obtain⟨N,I,g2⟩:=rc.val j x z
   exact⟨N,by rw[MK (Ny O)];exact I,g2⟩
 ·rcases zI g with⟨rfl,z,U⟩ | ⟨O,z⟩
  ·cases z;exact⟨a,xs,Ni (by rw[rc.len];exact U),S,Z,h4⟩
  ·obtain⟨b,u,I,g2⟩:=rc.own j f z
   exact⟨b,u,by rw[MK (Ny O)];exact I,g2⟩
 ·rcases zI t with⟨rfl,z,U⟩ | ⟨O,m⟩
  ·rcases zI Y with⟨rfl,_,_⟩ | ⟨n,p⟩
   ·rfl
   ·rw[Ni (by rw[rc.len];exact U)]at h
    rw[MK (Ny n)]at l;cases h;exact absurd l<|no k fs p
  ·rcases zI Y with⟨rfl,z,U⟩ | ⟨n,p⟩
   ·rw[Ni (by rw[rc.len];exact U)]at l
    rw[MK (Ny O)]at h;cases l;exact absurd h<|no j f m
   ·rw[MK (Ny O)]at h
    rw[MK (Ny n)]at l;exact rc.ne j k b f fs m p h l
 ·rcases zI g with⟨_,z,_⟩ | ⟨O,z⟩
  ·cases z
  ·obtain⟨b,bs,I,g2,g3⟩:=r.rc.nj.1 j d z
   obtain⟨Q,s,f1,f2,A⟩:=rc.nj.1 j d z;rw[I]at f1;cases f1;have y:s.map V.ref=bs.map V.ref:=by have:=e.s1 b _ g2.ha;rw[f2.ha]at this;injection this with this;injection this
   have w:s=bs:=yB y;subst w;refine⟨b,s,by rw[MK (Ny O)];exact I,f2,λk f c t Y=>?_⟩;rcases zI t with⟨rfl,_,U⟩ | ⟨n,m⟩
   ·rw[Ni (by rw[rc.len];exact U)]at Y;cases Y
    intro B;obtain⟨_,P,q⟩:=g2.at B;rw[C]at q;cases q
   ·rw[MK (Ny n)]at Y;exact A k f c m Y
 ·rcases zI I with⟨_,z,_⟩ | ⟨_,m⟩
  ·cases z
  ·rcases zI g2 with⟨_,z,_⟩ | ⟨_,p⟩
   ·cases z
   ·exact rc.nj.2 j k F M m p
 ·rcases zI I with⟨rfl,z,U⟩ | ⟨O,z⟩
  ·rw[Ni (by rw[rc.len];exact U)]at g2;cases g2
   cases q:E a with
   | none=>rfl
   | some o=>rw[r.ext.s1 a o q]at C;cases C
  ·rw[MK (Ny O)]at g2;exact r.fresh j f b z g2
 ·rcases zI I with⟨_,z,_⟩ | ⟨O,z⟩
  ·cases z
  ·rw[MK (Ny O)]at g2;exact(r.step e).t8 j d b xs z g2 g3
theorem RS.rewrite{i:Nat}{ds C:List D}{a:ej}{xs ys:List V}(r:RS K E0 E H0 H σ γ)(hi:γ[i]? = dn (.own ds))(U:σ[i]? = dn (dn (.ref a)))(J:eA K H0 C ys) :
 RS K E0 E H0 (upd H a<|.lst ys) σ (γ.set i<|.own C):=by
 obtain⟨L,M,g1,g2,g3,Q⟩:=r.rc.own i ds hi;rw[U]at g1;cases g1;have P:i<γ.length:=(MU.mp hi).1;refine⟨⟨λb o q=>?_,by simp[r.rc.len],λj y g=>?_,λj fs g=>?_,λj k b fs gs e I m A=>?_,⟨λj d g=>?_,λj k F G e I=>?_⟩⟩,⟨r.ext.s0,λb o q=>?_,λb o q=>?_,r.ext.new⟩,λj fs b e I=>?_,λj d b t e I m=>?_⟩
 ·rw[zN (λz=>by rw[z,g2]at q;cases q)];exact r.rc.sub b o q
 ·rcases zI g with⟨_,z,_⟩ | ⟨n,z⟩
  ·cases z
  ·exact r.rc.val j y z
 ·rcases zI g with⟨rfl,z,R⟩ | ⟨n,z⟩
  ·cases z;exact⟨a,ys,U,g2,zS,J⟩
  ·obtain⟨b,t,O,Y,h,B⟩:=r.rc.own j fs z
   refine⟨b,t,O,Y,?_,B⟩;rw[zN (λq=>n<|r.rc.ne j i a fs ds z hi (by rw[O,q]) U)];exact h
 ·have w : ∃f,γ[j]? = dn (.own f):=by
   rcases zI e with⟨q,_,_⟩ | ⟨_,z⟩
   ·exact⟨ds,by rw[q];exact hi⟩
   ·exact⟨fs,z⟩
  have x : ∃f,γ[k]? = dn (.own f):=by
   rcases zI I with⟨q,_,_⟩ | ⟨_,z⟩
   ·exact⟨ds,by rw[q];exact hi⟩
   ·exact⟨gs,z⟩
  obtain⟨O,l⟩:=w;obtain⟨Y,s⟩:=x;exact r.rc.ne j k b O Y l s m A
 ·rcases zI g with⟨_,z,_⟩ | ⟨n,z⟩
  ·cases z
  ·obtain⟨b,bs,O,Y,h⟩:=r.rc.nj.1 j d z
   have u:=h i ds a hi U;refine⟨b,bs,O,Y.move (g8.refl _) (λc p=>(Y.at p).1)<|λc p=>zN λq=>u<|q ▸ p,λk fs c e I=>?_⟩;rcases zI e with⟨q,_,_⟩ | ⟨_,l⟩
   ·rw[q,U]at I;cases I;exact u
   ·exact h k fs c l I
 ·rcases zI e with⟨_,z,_⟩ | ⟨_,l⟩
  ·cases z
  ·rcases zI I with⟨_,z,_⟩ | ⟨_,s⟩
   ·cases z
   ·exact r.rc.nj.2 j k F G l s
 ·rw[zN (λz=>by rw[z,r.fresh i ds a hi U]at q;cases q)];exact r.ext.s1 b o q
 ·rw[zN (λz=>by rw[z,g2]at q;cases q)];exact r.ext.sub b o q
 ·rcases zI e with⟨q,_,_⟩ | ⟨_,z⟩
  ·rw[q]at I;exact r.fresh i ds b hi I
  ·exact r.fresh j fs b z I
 ·rcases zI e with⟨_,z,_⟩ | ⟨n,z⟩
  ·cases z
  ·obtain⟨N,bs,O,Y,h⟩:=r.rc.nj.1 j d z
   rw[I]at O;cases O;rw[zN (show b≠a from λq=>h i ds a hi U<|by rw[q];exact MX)]at m;exact r.t8 j d b t z I m
end
section
variable{X:Cx}{e a b c:e9}{pos:hL}{st:k4}{yd:List k4}
theorem jP:mj X [] qc:=rO uj λD b H z=>by obtain⟨E0,E,a,d,Y,I,O,U⟩:=z;cases O;exact U b H a I
theorem zh{F G:CO Fl}(C:md X st F)(J:mj X yd G):mj X (st::yd) (zL F G):=rO (nN C J) λD k H U=>by
 obtain⟨E0,E,d,h,Y,g,z,I⟩:=U;obtain⟨O,f,z⟩:=zf z;refine⟨E0,E,d,h,O,g,f,?_⟩;cases O with
 | next a=>exact λi j b e=>⟨E0,E,b,a,Y,e,z,I⟩
 | brk a=>cases z;exact I
 | cont a=>cases z;exact I
 | ret r=>cases z;cases r<;>exact I
theorem zu(C:md X st F):mj X [st] F:=fP C
theorem zF(h:o.map f=dn y) : ∃x,o=dn x/\f x=y:=by
 cases o with
 | none=>cases h
 | some x=>exact⟨x,rfl,by simpa using h⟩
theorem zU{f:CO D}(h:PV X e f):md X (.Return (dn e) pos) (j5 f):=ye (fQ h) λD k H O=>by obtain⟨E0,E,g,j,Y,I,z,U⟩:=O;obtain⟨d,i,z⟩:=zF z;subst z;exact⟨g,j,d,I.rc,i,λv b a x r=>U v b a (I.ext.trans x) r⟩
theorem xR{f:CO (List D)}(h:PO X e f):md X (.Return (dn e) pos) (wz f):=ye (fQ h) λD s H O=>by
 obtain⟨E0,E,i,n,p,z,I,U⟩:=O;obtain⟨j,k,I⟩:=zF I;subst I;refine⟨i,n,j,z.rc,k,λa m g b x d l Y r=>U a m g b (z.ext.trans x) ?_ l Y r⟩;cases q:E a with
 | none=>rfl
 | some o=>rw[z.ext.s1 a o q]at d;cases d
theorem wG(i:Nat)(h:PE X e (AV i)):md X (.Return (dn e) pos) (Xs i):=ye (fQ h) λD r H U=>by
 obtain⟨E0,E,j,o,p,I,z,O⟩:=U;unfold Xs at z;cases b:o[i]? with
 | none=>rw[b]at z;cases z
 | some c=>
  rw[b]at z;cases c with
  | no=>cases z
  | val d=>
   cases z;obtain⟨v,f,g⟩:=I.rc.val i d b;exact⟨v,f,O v H j I.ext g⟩
  | nest l=>cases z
  | own k=>
   cases z;obtain⟨a,n,f,g,Y,m⟩:=I.rc.own i k b;exact⟨_,f,O a n H j I.ext (I.fresh i k a b f) g Y m⟩
theorem YV:md X (.Continue pos) ua:=ye Wb λD b H ⟨E0,E,a,d,U,z,I,O⟩=>by cases I;exact O b H a z
theorem JS:md X st XM:=ye nQ λD d H ⟨E0,E,a,b,I,O,z,U⟩=>by cases z
theorem qT{k:CO Bool}{F G:CO Fl}{x y:List k4}(Y:m4 X c k)(C:mj X x F)(J:mj X y G):md X (.If c x y pos) (iN k F G):=ye (GZ Y C J) λD h H f=>by
 obtain⟨E0,E,d,b,O,I,z,U⟩:=f;obtain⟨t,e,z⟩:=zf z;refine⟨d,b,t,I.rc,e,λg a x=>?_⟩;cases t with
 | true=>rw[UJ rfl]at z ⊢;exact⟨E0,E,a,b,O,I.step x,z,U⟩
 | false=>rw[UY Nq]at z ⊢;exact⟨E0,E,a,b,O,I.step x,z,U⟩
theorem uk(i:Nat){f:CO D}(h:PS X st (bX (tV X.K f)<|vg i)):md X st (jy i f):=ye h λD k H O=>by obtain⟨E0,E,b,g,Y,I,z,U⟩:=O;obtain⟨d,e,z⟩:=zF z;subst z;exact⟨b,g,d,I.rc,e,λv j a x r=>U _ _ a<|(I.step x).yg r⟩
theorem aF(i:Nat){f:CO (List D)}(h:PS X st (bX (tO X.K f)<|vg i)):md X st (xq i f):=ye h λD p H O=>by obtain⟨E0,E,d,l,n,I,z,U⟩:=O;obtain⟨e,g,z⟩:=zF z;subst z;exact⟨d,l,e,I.rc,g,λa o m b x j k Y r=>U _ _ b<|I.Z_ x j k Y r⟩
theorem vj(h:q8 o=dn ds):o=dn (.own ds):=by
 cases o with
 | none=>cases h
 | some c=>cases c<;>simp[q8]at h;rw[h]
theorem cC(i:Nat){f:CO D}(h:PE X e (d_ X.K "list" fE (AV i) (Bw (tV X.K f) IE)))(C:C2 e ed pos.line X.env=pure eh:=by rfl):md X (.Expr e pos) (qe i f):=
 ye (fR h C) λD A H s=>by
  obtain⟨E0,E,l,t,w,I,z,m⟩:=s;obtain⟨j,b,z⟩:=zf z;obtain⟨d,p,z⟩:=zf z;have b:=vj b;by_cases O:j.length<lim
  ·rw[UJ O]at z;cases z
   obtain⟨a,xs,k,y,U,Y⟩:=I.rc.own i j b;refine⟨_,k,.inl ⟨rfl,_,gv.of U⟩,l,t,d,I.rc,p,λv u g x r=>?_⟩;have n:=I.step x;have o:=x.s1 _ _ U;refine⟨a,xs,v,rfl,rfl,o,?_,?_⟩
   ·exact Ng (by rw[Y.length];exact O)<|yC<|MM _
   ·exact m _ _ g<|n.rewrite (xs:=xs) b k<|(Y.mono x.s0).append (eA.cons r eA.nil)
  ·rw[UY O]at z;cases z
end
noncomputable def Ml(K:MC)(H0 H:Hp)(Q:VK):Res->Prop
 | .val d=>∀v e b,Ext H0 H b e->Rep K b d v->Q v e
 | .own g=>∀a f e b,Ext H0 H b e->H a=ed->b a=ed->e a=dn (.lst f)->eA K b g f->Q (.ref a) e
noncomputable def rp(K:MC)(n:Nat)(F:List D->Option Res):Sp:=λd H Q _=>∃a b r,g8 a H/\eA K a b d/\b.length=n/\F b=dn r/\Ml K a H Q r
theorem rp.len{K:MC}{n:Nat}{F:List D->Option Res}{ps:List Str}(C:ps.length=n) : ∀vs H Q E,rp K n F vs H Q E->vs.length=ps.length:=λvs H Q E h=>by obtain⟨d,e,r,_,a,b,_⟩:=h;rw[a.length,b,C]
section
variable{P:i6}{w:h9}{K:MC}{mg:UZ}{base:gb}
theorem nD(s:g8 H0 H)(h:eA K H0 ds vs)(C:ds.length<=N.length):RS K H0 H H0 H (ZT N vs) (z7 N.length ds):=by
 have z:=h.length;refine⟨⟨s,by simp[L2.ZT,z7,z],λi d e=>?_,λi g e=>?_,λi j a g fs e _ _ _=>?_,o6.DW λi f e=>?_⟩,Ext.refl s,λi g a e _=>?_,λi f a l e _ _=>?_⟩
 all_goals unfold z7 at e
 ·by_cases b:i<ds.length
  ·rw[Oc (by simpa using b),Nw]at e
   cases e1:ds[i]? with
   | none=>rw[e1]at e;cases e
   | some k=>
    rw[e1]at e;cases e;obtain⟨x,I,g2⟩:=h.get e1;refine⟨x,?_,g2⟩;unfold L2.ZT;rw[Oc (by simp;omega),Nw,I];rfl
  ·rw[NN (by simpa using b),Rj]at e
   split at e<;>cases e
 all_goals
  by_cases b:i<ds.length
  ·rw[Oc (by simpa using b),Nw]at e
   cases e1:ds[i]? with
   | none=>rw[e1]at e;cases e
   | some k=>rw[e1]at e;cases e
  ·rw[NN (by simpa using b),Rj]at e
   split at e<;>cases e
theorem EJ{x qual:Str}{st:k4}{f:ej}{J:p8}{N ps:List Str}{k:Nat}{F:CO Fl}(U:L2.Dp K x qual st f J)(S:D1 N ps (jY st))
 (Y : ∀(C:el) (A:mu) (outer:List n6) (s:eK) (H:Hp) (E:XK),m8 k (A.deeper<|envOfC qual (jY st) s.heap.objs.size f C)->mj (Ax qs P w K mg base N qual (jY st) f C A outer s H E).E8 (yF st) F) :
 p6 P w K mg base qs (k+1) f J ps (rp K ps.length<|jk N.length F):=by
 refine U.ok S (rp.len rfl)<|λC A outer s H B Q E m h=>⟨_,Y C A outer s H E m,?_⟩;obtain⟨b,g,r,o,j,u,l,I⟩:=h;obtain⟨O,i,z⟩:=zf l;have t:ps.length<=N.length:=by have:=congrArg List.length S.pre;rw[RH]at this;omega
 refine⟨b,H,b,z7 N.length g,O,nD o j ⋯,i,?_⟩;cases O with
 | ret y=>cases z;cases r<;>exact I
 | next d=>cases z;exact λp e a n=>I .ft e a n.ext (show V.ft = .ft from rfl)
 | brk d=>cases z
 | cont d=>cases z
end
section
variable{X:Cx}{es:List e9}{pos p:hL}{k:Nat}{f:ej}{fd:p8}{ps:List Str}{x:Str}{F:List D->Option Res}{g:CO (List D)}
theorem ue{A0:List e9}(G:p6 X.prog X.w X.K X.mg X.base qs k f fd ps (rp X.K ps.length F))(C:A6 X es g)(Y : ∀γ ds,g γ=dn ds->ds.length=ps.length)
 (J : ∀{t:TA},PA X es t->PE X (.Call (.Name x p) es [] pos) (tu (rp X.K ps.length F) [] E0 t)):PV X (.Call (.Name x p) es [] pos) (zA F g):=
 qD (J C) λL H Q u=>by
  obtain⟨l,γ,d,rc,z,q⟩:=u;obtain⟨ds,i,z⟩:=zf z;obtain⟨r,n,z⟩:=zF z;refine⟨l,γ,ds,rc,i,λE B m x1 y=>⟨m,ds,r,x1.sub,by simpa using y,Y γ ds i,n,?_⟩⟩;subst z;cases r with
  | val d=>exact λv e b I h=>q v e b (x1.trans I) h
  | own fs=>
   refine λa A e b I o j s h=>q _ e _ (x1.trans<|I.show o j s x1.sub) ?_;exact(show ∃O U,V.ref a = .ref O/\gv X.K _ O U/\eA X.K _ fs U from⟨a,A,rfl,gv.of zS,h.mono<|jr j _⟩)
theorem uy(G:p6 X.prog X.w X.K X.mg X.base qs k f fd ps (rp X.K ps.length F))(C:A6 X es g)(O : ∀γ ds,g γ=dn ds->ds.length=ps.length)
 (U : ∀{t:TA},PA X es t->PE X (.Call (.Name x p) es [] pos) (tu (rp X.K ps.length F) [] E0 t)):PO X (.Call (.Name x p) es [] pos) (jw F g):=
 qD (U C) λL H Q Y=>by
  obtain⟨j,γ,fs,rc,I,q⟩:=Y;obtain⟨ds,e,I⟩:=zf I;obtain⟨r,m,I⟩:=zf I;refine⟨j,γ,ds,rc,e,λJ E l x1 u=>⟨l,ds,r,x1.sub,by simpa using u,O γ ds e,m,?_⟩⟩;cases r with
  | val d=>cases I
  | own gs=>
   cases I;exact λa B i b A h n s y=>q a B i b (x1.trans A) (by
    cases z:H a with
    | none=>rfl
    | some o=>rw[x1.s1 a o z]at h;cases h) n s y
end
structure Walk(K:MC)(H0 Hs:Hp)(J:It)(ds:List D):Prop where
 go : ∀i H1,g8 Hs H1->i<ds.length->J.go i H1
 stop : ∀H1,g8 Hs H1->J.stop ds.length H1
 z4 : ∀i H1 x Um,g8 Hs H1->i<ds.length->J.z4 i H1 x Um->∃d,ds[i]? = dn d/\∀G0,g8 H0 G0->g8 G0 H1->∃Ul,Ext G0 H1 Ul Um/\Rep K Ul d x
theorem Walk.weak{K:MC}{H0 C z:Hp}{J:It}{ds:List D}(w:Walk K H0 C J ds)(s:g8 C z):Walk K H0 z J ds:=
 ⟨λi a h=>w.go i a<|s.trans h,λa h=>w.stop a<|s.trans h,λi a x b h=>w.z4 i a x b<|s.trans h⟩
theorem Ki{k:Sk}{K:MC}{H0 C:Hp}{a:ej}{xs:List V}{ds:List D}(h:i7 k K C a xs)(r:eA K H0 ds xs):Walk K H0 C (Uo k K a) ds:=by
 have O:=r.length;refine⟨λi b s n=>?_,λb s=>?_,λi b x f s n y=>?_⟩
 ·have g:i<xs.length:=by omega
  cases k with
  | L=>exact⟨xs,xs[i],s.seq h,MF g⟩
  | T=>exact⟨xs,xs[i],nf s h,MF g⟩
 ·cases k with
  | L=>exact⟨xs,s.seq h,by omega⟩
  | T=>exact⟨xs,nf s h,by omega⟩
 ·have e:f=b/\xs[i]? = dn x:=by
   cases k with
   | L=>exact⟨y.1,y.2 xs<|s.seq h⟩
   | T=>exact⟨y.1,y.2 xs<|nf s h⟩
  obtain⟨l,z⟩:=e;subst l;obtain⟨d,m,I⟩:=r.xg z;exact⟨d,m,λj o p=>⟨j,Ext.refl p,I.mono o⟩⟩
theorem Zq(lo:Int)(n:Nat):(wB lo n).length=n:=by simp[wB]
theorem XC{K:MC}{H0 C:Hp}(lo:Int)(n:Nat):Walk K H0 C (C7 lo n) (wB lo n):=by
 refine⟨λi b s a=>?_,λb s=>?_,λi b x e s a y=>?_⟩
 ·rw[Zq]at a;exact a
 ·rw[Zq];exact MM _
 ·rw[Zq]at a
  obtain⟨f,z⟩:=y;subst f z;exact⟨.int<|lo+i,by simp[wB,a],λd h g=>⟨d,Ext.refl g,(show V.int (lo+i) = .int (lo+i)from rfl)⟩⟩
theorem mM{I O:Sk}{K:MC}{H0 J:Hp}{a b:ej}{xs ys:List V}{ds C:List D}(L:i7 I K J a xs)(U:eA K H0 ds xs)(S:i7 O K J b ys)(Z:eA K H0 C ys) :
 Walk K H0 J (O0 I O K a b) (ZR ds C):=by
 have E:=U.length;have F:=Z.length;have B:(ZR ds C).length=min ds.length C.length:=by simp[ZR]
 refine⟨λi f s w=>?_,λf s=>?_,λi f x k s w y=>?_⟩
 ·exact⟨xs,ys,k9 s L,k9 s S,by omega,by omega⟩
 ·refine⟨xs,ys,k9 s L,k9 s S,?_⟩
  rw[B];omega
 ·obtain⟨p,u,v,n,z,o,g1,g2⟩:=y
  obtain⟨d,t,A⟩:=U.xg<|g1 xs<|k9 s L;obtain⟨c,r,l⟩:=Z.xg<|g2 ys<|k9 s S;refine⟨.tup [d,c],?_,λj h e=>⟨upd j p<|.tup [u,v],?_,?_⟩⟩
  ·have m:(ds.zip C)[i]? = dn (d,c):=Sa.mpr ⟨t,r⟩
   simp[ZR,m]
  ·rw[o];exact Ext.alloc e z _
  ·rw[n]
   exact(show ∃Y g,V.ref p = .ref Y/\hB K _ Y g/\eA K _ [d,c] g from⟨p,[u,v],rfl,hB.of zS,eA.cons ((A.mono h).mono (jr (jA e z) _))<|eA.cons ((l.mono h).mono (jr (jA e z) _)) eA.nil⟩)
noncomputable def Ud(K:MC)(C:CO (List D)):TI:=λg H R=>∃d f e,RC K d H g f/\C f=dn e/\∀J b a,Ext d H a b->Walk K a b J e->R J b
noncomputable def Ue(K:MC)(C:CO (List D)):TI:=λg H R=>∃d f e,RC K d H g f/\C f=dn e/\∀J b a,Ext d H a b->Walk K a a J e->R J b
abbrev r6(X:Cx)(tg e:e9)(src:CO (List D)):Prop:=PI X tg e (Ud X.K src)
abbrev i5(X:Cx)(tg e:e9)(src:CO (List D)):Prop:=PI X tg e (Ue X.K src)
section
variable{X:Cx}{tg e a b:e9}{pos p:hL}
theorem i5.c(h:i5 X tg e src):r6 X tg e src:=KD h λi H R ⟨d,g,f,rc,z,q⟩=>⟨d,g,f,rc,z,λJ b a x w=>q J b a x<|w.weak x.sub⟩
theorem jm(h:PQ X e f):r6 X tg e (zK f):=KD (fW h) λp H R z=>by obtain⟨i,n,o,rc,I,q⟩:=z;obtain⟨⟨k,l⟩,j,O⟩:=zF I;subst O;exact⟨i,n,k,l,rc,j,λa m g b x d _ r=>⟨a,k,rfl,⟨m,d⟩,q _ g b x<|Ki d r⟩⟩
theorem JX(h:PV X e f):i5 X tg e (zK<|zE f):=KD (fW h) λt H R O=>by
 obtain⟨o,p,s,rc,U,q⟩:=O;obtain⟨⟨k,l⟩,g,z⟩:=zF U;subst z;obtain⟨d,Y,g⟩:=zf g;refine⟨o,p,d,rc,Y,λv n b x r=>?_⟩;cases d with
 | tup fs=>
  obtain⟨z,I⟩:k = .T/\l=fs:=by simp[jq]at g;exact⟨g.1.symm,g.2.symm⟩
  subst z I;obtain⟨a,i,rfl,j,m⟩:=(show ∃a i,v = .ref a/\hB X.K b a i/\eA X.K b l i from r);exact⟨a,.T,rfl,⟨i,nf x.sub j⟩,q _ n b x<|Ki (k:= .T) j m⟩
 | lst fs=>
  obtain⟨z,I⟩:k = .L/\l=fs:=by simp[jq]at g;exact⟨g.1.symm,g.2.symm⟩
  subst z I;obtain⟨a,i,rfl,j,m⟩:=(show ∃a i,v = .ref a/\gv X.K b a i/\eA X.K b l i from r);exact⟨a,.L,rfl,⟨i,x.sub.seq j⟩,q _ n b x<|Ki (k:= .L) j m⟩
 | _=>simp[jq]at g
theorem j1(h:ml d=dn i):d = .int i:=by cases d<;>simp[ml]at h;rw[h]
theorem QK(h:inR i=d7) : -(2 ^ 62)<=i/\i<2 ^ 62:=by unfold inR at h;have h:=of_decide_eq_true h;omega
theorem cH(O:Gl X "range")(J:X.mg "range" = ed)(C:PV X a f)(I:gu [a] X.env=[(eh,fh a X.env)]:=by rfl):i5 X tg (.Call (.Name "range" p) [a] [] pos) (z6 f):=
 KD (fY O J (jT C xj I) I) λo H R U=>by
  obtain⟨i,l,m,rc,z,q⟩:=U;obtain⟨n,e,z⟩:=zf z;obtain⟨d,Y,e⟩:=zf e;by_cases g:inR n=d7
  ·rw[UJ g]at z;cases z
   refine⟨i,l,d,rc,Y,λv h b x r=>?_⟩;rw[j1 e]at r;obtain⟨j,k⟩:=QK g;exact⟨n,by rw[show v = .int n from r],j,k,q _ h b x<|XC 0 n.toNat⟩
  ·rw[UY g]at z;cases z
theorem cG(Y:Gl X "range")(S:X.mg "range" = ed)(J:PV X a f)(L:PV X b g)(U:gu [a,b] X.env=[(eh,fh a X.env),(eh,fh b X.env)]:=by rfl)(I:gu [b] X.env=[(eh,fh b X.env)]:=by rfl) :
 i5 X tg (.Call (.Name "range" p) [a,b] [] pos) (V0 f g):=
 KD (fX Y S (jT J (jT L xj I)<|by rw[U,I]) U I) λM H R C=>by
  obtain⟨l,k,K,rc,z,q⟩:=C;obtain⟨m,i,z⟩:=zf z;obtain⟨d,t,i⟩:=zf i;obtain⟨n,O,z⟩:=zf z;obtain⟨c,u,O⟩:=zf O;by_cases e:inR m=d7/\inR n=d7
  ·rw[UJ e]at z;cases z
   refine⟨l,k,d,rc,t,λv G h x r=>⟨h,k,c,rc.ext x,u,λE o s F j=>?_⟩⟩;rw[j1 i]at r;rw[j1 O]at j;obtain⟨w,y⟩:=QK e.1;obtain⟨A,B⟩:=QK e.2;exact⟨m,n,by rw[show v = .int m from r,show E = .int n from j],⟨w,y,A,B⟩,q _ o s (x.trans F)<|XC m (n - m).toNat⟩
  ·rw[UY e]at z;cases z
theorem JN{K:MC}{H:Hp}{d:D}{v:V}{k:Sk}{ds:List D}(r:Rep K H d v)(e:jq d=dn (k,ds)) : ∃a xs,v = .ref a/\i7 k K H a xs/\eA K H ds xs:=by
 cases d with
 | tup fs=>simp[jq]at e;obtain⟨b,z⟩:=e;subst b z;exact r
 | lst fs=>simp[jq]at e;obtain⟨b,z⟩:=e;subst b z;exact r
 | _=>simp[jq]at e
theorem uA{f g:CO D}{C:List e9}{x1:Nat}{J:hL}(Z:Gl X "zip")(hm:X.mg "zip" = ed)(L:PV X a f)(S:PV X b g)(Y:gu [a,b] X.env=[(eh,fh a X.env),(eh,fh b X.env)]:=by rfl)(O:gu [b] X.env=[(eh,fh b X.env)]:=by rfl) :
 i5 X (.Tuple C x1 J) (.Call (.Name "zip" p) [a,b] [] pos) (Xo f g):=
 KD (CF Z hm (jT L (jT S xj O)<|by rw[Y,O]) PyProof.Rows.boot_zip Y O) λP H R y=>by obtain⟨j,i,M,rc,z,q⟩:=y;obtain⟨⟨A,m⟩,h,z⟩:=zf z;obtain⟨d,t,h⟩:=zf h;obtain⟨⟨B,n⟩,U,z⟩:=zF z;obtain⟨c,u,U⟩:=zf U;subst z;refine⟨j,i,d,rc,t,λv K e x r=>⟨e,i,c,rc.ext x,u,λN k s I E=>?_⟩⟩;obtain⟨l,F,rfl,g1,g2⟩:=JN (r.mono I.s0) h;obtain⟨o,G,rfl,g3,w⟩:=JN E U;exact⟨A,B,l,o,rfl,⟨F,k9 I.sub g1⟩,⟨G,k9 I.sub g3⟩,q _ k s (x.trans I)<|mM g1 g2 g3 w⟩
end
noncomputable def ao:List Nat->List V->St->St
 | i::is,v::vs,σ=>ao is vs<|σ.set i<|some v
 | _,_,σ=>σ
def gs:List Nat->DK
 | []=>IW
 | i::is=>EH (vg i)<|gs is
def qq(K:MC):Tg->TG
 | .nm i=>vg i
 | .tp is=>IV K is.length<|gs is
theorem ir : ∀{is:List Nat} {vs:List V} {C:St} {H:Hp} {Q:St->Hp->Prop},vs.length=is.length->Q (ao is vs C) H->gs is vs C H Q
 | [],[],_,_,_,_,q=>⟨rfl,q⟩
 | i::is,v::vs,C,H,Q,hl,q=>⟨v,vs,rfl,ir (by simpa using hl) q⟩
 | [],_::_,_,_,_,hl,_=>by simp at hl
 | _::_,[],_,_,_,hl,_=>by simp at hl
theorem RS.F3{K:MC}{E0 E H0 H:Hp} : ∀{is:List Nat} {ds:List D} {vs:List V} {C:St} {γ:Ctx},RS K E0 E H0 H C γ->eA K H0 ds vs->RS K E0 E H0 H (ao is vs C) (xp is ds γ)
 | [],ds,vs,C,γ,r,h=>by cases ds<;>cases vs<;>exact r
 | i::is,[],vs,C,γ,r,h=>by rw[h.p5];exact r
 | i::is,d::ds,vs,C,γ,r,h=>by obtain⟨x,t,e,a,b⟩:=h.m9;subst e;show RS K E0 E H0 H (DL.ao is t<|C.set i<|some x) (xp is ds<|γ.set i<|.val d);exact RS.F3 (r.yg a) b
theorem RC.F3{K:MC}{H0 H:Hp} : ∀{is:List Nat} {ds:List D} {vs:List V} {C:St} {γ:Ctx},RC K H0 H C γ->eA K H0 ds vs->RC K H0 H (ao is vs C) (xp is ds γ)
 | [],ds,vs,C,γ,r,h=>by cases ds<;>cases vs<;>exact r
 | i::is,[],vs,C,γ,r,h=>by rw[h.p5];exact r
 | i::is,d::ds,vs,C,γ,r,h=>by obtain⟨x,t,e,a,b⟩:=h.m9;subst e;show RC K H0 H (DL.ao is t<|C.set i<|some x) (xp is ds<|γ.set i<|.val d);exact RC.F3 (r.yg a) b
theorem w9{K:MC}{H0 H:Hp}{T:Tg}{d:D}{v:V}{C:St}{γ γ1:Ctx}{Q:St->Hp->Prop}(s:g8 H0 H)(h:Rep K H0 d v)(e:ka T d γ=dn γ1)
 (q : ∀z,(RC K H0 H C γ->RC K H0 H z γ1)->(∀E0 E,RS K E0 E H0 H C γ->RS K E0 E H0 H z γ1)->Q z H):qq K T v C H Q:=by
 cases T with
 | nm i=>cases e;exact q _ (λr=>r.yg h) λE0 E r=>r.yg h
 | tp is=>
  cases d with
  | tup g=>
   simp only[ka]at e;by_cases I:g.length=is.length
   ·rw[UJ I]at e;cases e
    obtain⟨a,b,rfl,k,f⟩:=(show ∃a b,v = .ref a/\hB K H0 a b/\eA K H0 g b from h);have j:b.length=is.length:=by rw[f.length,I]
    exact⟨a,b,rfl,nf s k,j,ir j<|q _ (λr=>r.F3 f) λE0 E r=>r.F3 f⟩
   ·rw[UY I]at e;cases e
  | _=>simp[ka]at e
theorem Ext.rebase{E0 E z H0 H B:Hp}(e:Ext E0 E z B)(x:Ext z E H0 H):Ext E0 E H0 H:=
 ⟨e.s0.trans x.s0,x.s1,x.sub,λa d b=>x.new a (e.new a d b) b⟩
theorem Ext.base{E0 E z B:Hp}(e:Ext E0 E z B):Ext z E z B:=⟨g8.refl _,e.s1,e.sub,λa h _=>h⟩
theorem Sat.rebase{K:MC}{E0 E I B:Hp}{D:Ends}{z:Fl}(e:Ext E0 E I B)(h:Sat K E0 E D z):Sat K I E D z:=by
 cases z with
 | next g=>exact λf H b r=>h f H b ⟨r.rc,e.rebase r.ext,r.fresh,r.t8⟩
 | brk g=>exact λf H b r=>h f H b ⟨r.rc,e.rebase r.ext,r.fresh,r.t8⟩
 | cont g=>exact λf H b r=>h f H b ⟨r.rc,e.rebase r.ext,r.fresh,r.t8⟩
 | ret r=>
  cases r with
  | val d=>exact λv H b x q=>h v H b (e.rebase x) q
  | own l=>exact λa k H b x i j O q=>h a k H b (e.rebase x) i j O q
section
variable{X:Cx}{tg iter:e9}{body:List k4}{pos:hL}
theorem um{C:CO (List D)}{T:Tg}{F:CO Fl}(hp:O2 (fe X.prog X.w) X.A X.env X.xe)(hc:X.calm=d7)(hi:i5 X tg iter C)(hg:PG X tg (qq X.K T))(hb:mj X body F)
 (hs : ∀x,o8 iter X.env x=pure x:=by intro _;rfl):md X (.For tg iter body [] pos) (yN C T F):=
 ye (rP hp hc hi hg hb hs) λD j H hZ=>by
  obtain⟨E0,E,g,b,I,O,z,Y⟩:=hZ;obtain⟨a,S,z⟩:=zf z;refine⟨g,b,a,O.rc,S,λJ H1 U x1 s=>?_⟩;have k:=O.step x1;have G:=k.ext;refine⟨λi m j H=>m=a.length - i/\i<=a.length/\∃g b I,RS X.K U E g H j b/\qL T F (a.drop i) b=dn I/\Sat X.K U E D I,⟨_,rfl,NY _,U,b,I,⟨k.rc,G.base,k.fresh,k.t8⟩,z,Y.rebase G⟩,?_⟩;rintro i m j H ⟨rfl,hi,g,b,I,O,z,Y⟩;have l:g8 U H:=O.ext.s0.trans O.ext.sub;by_cases h:i<a.length
  ·refine .inr ⟨s.go i H l h,λj H=>i+1<=a.length/\∃g b I,RS X.K U E g H j b/\qL T F (a.drop<|i+1) b=dn I/\Sat X.K U E D I,λ_p B n=>⟨a.length - (i+1),by omega,rfl,n.1,n.2⟩,λx B y=>?_⟩
   obtain⟨d,L,hx⟩:=s.z4 i H x B l h y;obtain⟨N,M,rg⟩:=hx g O.ext.s0 O.rc.sub;have Q:a.drop i=d::a.drop (i+1):=by
    have as:d=a[i]:=by rw[MF h]at L;exact(ND L).symm
    rw[as];exact Pa h
   rw[Q]at z;simp only[qL]at z;obtain⟨t,Z,z⟩:=zf z;obtain⟨f1,W,z⟩:=zf z;refine w9 M.sub rg Z λN7 _ R=>⟨U,E,N,t,f1,R U E<|O.step M,W,?_⟩;cases f1 with
   | next f=>exact λu P o p=>⟨h,o,f,I,p,z,Y⟩
   | cont f=>exact λu P o p=>⟨h,o,f,I,p,z,Y⟩
   | brk f=>cases z;exact Y
   | ret r=>cases z;cases r<;>exact Y
  ·have e:i=a.length:=by omega
   subst e;rw[RI]at z;cases z;exact .inl ⟨s.stop H l,Y j H g O⟩
end
theorem qS(h:(ja n fr γ)[i]? = dn c):c = .no\/(∃d j,c = .val d/\n<=i/\fr[i - n]? = dn j/\γ[j]? = dn (.val d)):=by
 unfold ja at h;by_cases b:i<n
 ·rw[Oc (by simpa using b),Rj,UJ b]at h
  exact .inl (ND h).symm
 ·rw[NN (by simpa using b),Nw,List.length_replicate]at h
  cases e:fr[i - n]? with
  | none=>rw[e]at h;cases h
  | some j=>
   rw[e]at h;have a:kK (γ[j]?.getD .no)=c:=by simpa using h
   cases e2:γ[j]? with
   | none=>rw[e2]at a;exact .inl a.symm
   | some z=>
    rw[e2]at a;cases z with
    | no=>exact .inl a.symm
    | own g=>exact .inl a.symm
    | nest f=>exact .inl a.symm
    | val d=>exact .inr ⟨d,j,a.symm,by omega,rfl,e2⟩
theorem RC.pull{K:MC}{H0 H:Hp}{J:St}{γ:Ctx}{own:List Str}{C:List (Str×Nat)}(r:RC K H0 H J γ):RC K H0 H (L2.nJ own C J) (ja own.length (C.map (·.2)) γ):=by
 refine⟨r.sub,by simp[L2.nJ,ja],λi d h=>?_,λi e h=>?_,λi j a e k h _ _ _=>?_,o6.DW λi b h=>?_⟩
 ·rcases qS h with z | ⟨d',j,z,hi,I,O⟩
  ·cases z
  ·cases z
   obtain⟨v,f,g⟩:=r.val j d O;refine⟨v,?_,g⟩;rw[Nw]at I;cases q:C[i - own.length]? with
   | none=>rw[q]at I;cases I
   | some p=>
    rw[q]at I;have U:p.2=j:=by simpa using I
    unfold L2.nJ;rw[NN (by simpa using hi),Nw,Nf,q];simp[U,f]
 ·rcases qS h with z | ⟨d',j,z,_⟩<;>cases z
 ·rcases qS h with z | ⟨d',j,z,_⟩<;>cases z
 ·rcases qS h with z | ⟨d',j,z,_⟩<;>cases z
theorem RC.weak{K:MC}{H0 H:Hp}{J:St}{γ γ':Ctx}(r:RC K H0 H J γ)(I:γ'.length=γ.length)(O : ∀(i:Nat) d,γ'[i]? = dn (.val d)->γ[i]? = dn (.val d))(z : ∀(i:Nat) ds,γ'[i]? ≠ dn (.own ds))(U : ∀(i:Nat) C,γ'[i]? ≠ dn (.nest C)):RC K H0 H J γ':=
 ⟨r.sub,by rw[I];exact r.len,λi d h=>r.val i d<|O i d h,λi ds h=>absurd h<|z i ds,λi j a ds b h _ _ _=>absurd h<|z i ds,o6.DW U⟩
theorem RC.upd{K:MC}{H0 H:Hp}{J:St}{γ:Ctx}{D:ej}{o:HO}(r:RC K H0 H J γ)(O:H0 D=ed)(I : ∀(i:Nat) ds,γ[i]? ≠ dn (.own ds))(U : ∀(i:Nat) C,γ[i]? ≠ dn (.nest C)):RC K H0 (upd H D o) J γ:=
 ⟨λb u q=>by rw[zN (λz=>by rw[z,O]at q;cases q)];exact r.sub b u q,r.len,r.val,λi ds h=>absurd h<|I i ds,λi j a ds d h _ _ _=>absurd h<|I i ds,o6.DW U⟩
theorem JL : ∀{is:List Nat} {ds:List D} {γ:Ctx},(xp is ds γ).length=γ.length
 | [],ds,γ=>by cases ds<;>rfl
 | i::is,[],γ=>rfl
 | i::is,d::ds,γ=>by show(xp is ds<|γ.set i<|.val d).length=_;rw[JL];simp
theorem JM : ∀{is:List Nat} {ds:List D} {γ:Ctx} {i:Nat},i∉is->(xp is ds γ)[i]? = γ[i]?
 | [],ds,γ,i,_=>by cases ds<;>rfl
 | j::is,[],γ,i,_=>rfl
 | j::is,d::ds,γ,i,h=>by show(xp is ds<|γ.set j<|.val d)[i]? = _;rw[JM (λz=>h<|MT _ z),MK (λz=>h<|by rw[<- z];exact MX)]
theorem VF(h:ka T d γ=dn γ1):γ1.length=γ.length/\∀i,i∉T.idx->γ1[i]? = γ[i]? :=by
 cases T with
 | nm j=>cases h;exact⟨by simp,λi a=>MK<|λz=>a<|by simp[Tg.idx,z]⟩
 | tp is=>
  cases d with
  | tup b=>
   simp only[ka]at h;by_cases I:b.length=is.length
   ·rw[UJ I]at h;cases h;exact⟨JL,λi a=>JM a⟩
   ·rw[UY I]at h;cases h
  | _=>simp[ka]at h
section
variable{K:MC}{own:List Str}{fr:List (Str×Nat)}{src:CO (List D)}{T:Tg}{k:CO Bool}{f:CO D}
theorem wY(hT : ∀i∈T.idx,i<own.length)(bt : ∀C H Q,tT K k C H Q->tt C H Q) : ∀C H Q,tO K (zM src T own.length (fr.map (·.2)) k f) C H Q->eM (Ud K src) own fr (qq K T) tt (tV K f) C H Q:=λC H Q hZ=>by
 obtain⟨H0,t,ds,rc,U,q⟩:=hZ;obtain⟨a,e1,U⟩:=zf U;by_cases hl:a.length<=lim
 ·rw[UJ hl]at U
  refine⟨H0,t,a,rc,e1,λJ H1 P x1 wk D A=>?_⟩;have R : ∀(i:Nat) es,(ja own.length (fr.map (·.2)) t)[i]? ≠ dn (.own es):=λi es h=>by rcases qS h with z | ⟨d',j,z,_⟩<;>cases z
  have S : ∀(i:Nat) B,(ja own.length (fr.map (·.2)) t)[i]? ≠ dn (.nest B):=λi es h=>by rcases qS h with z | ⟨d',j,z,_⟩<;>cases z
  have b0:P D=ed:=jA x1.sub A;have bx:H D=ed:=by
   cases z:H D with
   | none=>rfl
   | some o=>rw[x1.s1 D o z]at A;cases A
  refine⟨λi m n F l=>m=a.length - i/\i<=a.length/\n.length<=i/\l D=dn (.lst n)/\∃g u L,RC K g l F (ja own.length (fr.map (·.2)) t)/\g D=ed/\Ext P H1 g l/\eA K g u n/\zT T k f (ja own.length (fr.map (·.2)) t) (a.drop i)=dn L/\ds=u++L,
   ⟨_,rfl,NY _,MM _,zS,P,[],ds,((rc.ext x1).pull).upd b0 R S,b0,Ext.hide x1.sub A _,eA.nil,U,rfl⟩,?_⟩
  rintro i m n F l ⟨rfl,hi,hy,M,g,u,L,W,b5,Y,r',I,rfl⟩;refine⟨M,?_⟩;by_cases s:i<a.length
  ·refine .inr ⟨wk.go i l Y.s1 s,?_,λx X y=>?_⟩
   ·have:=yC<|MM lim;omega
   obtain⟨d,hd,hx⟩:=wk.z4 i l x X Y.s1 s y;obtain⟨G0,O,rg⟩:=hx g Y.s0 W.sub;have c1:a.drop i=d::a.drop (i+1):=by
    have c2:d=a[i]:=by rw[MF s]at hd;exact(ND hd).symm
    rw[c2];exact Pa s
   rw[c1]at I;simp only[zT]at I;obtain⟨p,eb,I⟩:=zf I;obtain⟨b,ek,I⟩:=zf I;have c4:G0 D=ed:=O.new D b5 (by rw[M];simp);have b7:X D=dn (.lst n):=O.s1 _ _ M;obtain⟨bl,bg⟩:=VF eb;have b8 : ∀{G:St} {G2 H2:Hp},RC K G2 H2 G p->RC K G2 H2 G (ja own.length (fr.map (·.2)) t):=λr=>r.weak bl.symm (λj d' hj=>by
    by_cases hm:j∈T.idx
    ·rcases qS hj with z | ⟨d2,j2,_,hn,_⟩
     ·cases z
     ·exact absurd (hT j hm) ⋯
    ·rw[bg j hm];exact hj) R S
   refine w9 O.sub rg eb λN7 be _=>bt N7 X _ ⟨G0,p,b,be<|W.ext O,ek,λH3 Z x3=>?_⟩;have ap:=(be<|W.ext O).ext x3;have xa:=Y.trans<|O.trans x3;have bi:Z D=ed:=x3.new D c4 (by rw[b7];simp);have ar:H3 D=dn (.lst n):=x3.s1 _ _ b7;cases b with
   | true=>
    dsimp only;rw[UJ rfl]at I ⊢;obtain⟨e,ee,I⟩:=zf I;obtain⟨yd,er,I⟩:=zF I;refine⟨Z,p,e,ap,ee,λv H4 bm E r4=>?_⟩;have as:bm D=ed:=E.new D bi (by rw[ar];simp);have cb:H4 D=dn (.lst n):=E.s1 _ _ ar;have N:=xa.trans E;refine⟨cb,a.length - (i+1),by omega,rfl,s,by rw[NZ,PD];omega,zS,bm,u++[e],yd,(b8<|ap.ext E).upd as R S,as,?_,(r'.mono<|(O.trans<|x3.trans E).s0).append (eA.cons r4 eA.nil),er,?_⟩
    ·exact⟨N.s0,λc o z=>by rw[zN (λw=>by rw[w,A]at z;cases z)];exact N.s1 c o z,λc o z=>by rw[zN (λw=>by rw[w,as]at z;cases z)];exact N.sub c o z,N.new⟩
    ·rw[<- I];simp
   | false=>
    dsimp only;rw[UY Nq]at I ⊢;exact⟨a.length - (i+1),by omega,rfl,s,by omega,ar,Z,u,L,b8 ap,bi,xa,r'.mono<|(O.trans x3).s0,I,rfl⟩
  ·have e:i=a.length:=by omega
   subst e;rw[RI]at I;cases I;rw[Ph]at q;exact .inl ⟨wk.stop l Y.s1,q D n l g (x1.trans Y) bx b5 M r'⟩
 ·rw[UY hl]at U;cases U
end
section
variable{X:Cx}{scope:ij}{own:List Str}{fr:List (Str×Nat)}{elt tg iter c:e9}{pos:hL}{src:CO (List D)}{T:Tg}{k:CO Bool}{f:CO D}
theorem ux(z:X.calm=d7)(ok:rr X scope fr)(I : ∀i∈T.idx,i<own.length)(hi:r6 X tg iter src)(O : ∀fp J C,PG (jJ X scope (own++fr.map (·.1)) fp J C) tg<|qq X.K T)
 (U : ∀fp J C,PV (jJ X scope (own++fr.map (·.1)) fp J C) elt f) (Y : ∀x,o8 iter X.env x=pure x:=by intro _;rfl) :
 PO X (.ListComp elt [⟨tg,iter,[],0⟩] scope pos) (zM src T own.length (fr.map (·.2)) jd f):=
 qD (Wd z ok hi O (λ_ _ _=>KC) U Y) (wY I λg H Q ⟨a,e,b,rc,d,q⟩=>by cases d;exact q H a<|Ext.refl rc.sub)
theorem fU(z:X.calm=d7)(ok:rr X scope fr)(I : ∀i∈T.idx,i<own.length)(hi:r6 X tg iter src)(O : ∀fp J C,PG (jJ X scope (own++fr.map (·.1)) fp J C) tg<|qq X.K T)
 (U : ∀fp J C,m4 (jJ X scope (own++fr.map (·.1)) fp J C) c k) (Y : ∀fp J C,PV (jJ X scope (own++fr.map (·.1)) fp J C) elt f) (L : ∀x,o8 iter X.env x=pure x:=by intro _;rfl) :
 PO X (.ListComp elt [⟨tg,iter,[c],0⟩] scope pos) (zM src T own.length (fr.map (·.2)) k f):=
 qD (Wd z ok hi O (λfp J C=>aH<|U fp J C) Y L) (wY I λa H Q h=>h)
theorem nR(z:X.N.Nodup)(I:X.N[i]? = dn y)(O:Loc X.env.scope y)(U:X.fn y=d7\/X.env.scope.names.lookup y=dn .local)
 (Y:X.calm=d7) (ok:rr X scope fr) (L : ∀i∈T.idx,i<own.length) (hi:r6 X tg iter src) (Z : ∀fp J C,PG (jJ X scope (own++fr.map (·.1)) fp J C) tg<|qq X.K T)
 (S : ∀fp J C,PV (jJ X scope (own++fr.map (·.1)) fp J C) elt f) (hs : ∀x,o8 iter X.env x=pure x:=by intro _;rfl) :
 PS X (.Assign [.Name y py] (.ListComp elt [⟨tg,iter,[],0⟩] scope pos) spos) (bX (tO X.K<|zM src T own.length (fr.map (·.2)) jd f)<|vg i):=
 ye (Zt z I O U Y ok hi Z (λ_ _ _=>KC) S hs) λD a H h=>wY L (λa H Q g=>by obtain⟨d,j,b,rc,e,q⟩:=g;cases e;exact q H d<|Ext.refl rc.sub) a H _ h
theorem cD(z:X.N.Nodup)(I:X.N[i]? = dn y)(O:Loc X.env.scope y)(U:X.fn y=d7\/X.env.scope.names.lookup y=dn .local)
 (Y:X.calm=d7) (ok:rr X scope fr) (L : ∀i∈T.idx,i<own.length) (hi:r6 X tg iter src) (Z : ∀fp J C,PG (jJ X scope (own++fr.map (·.1)) fp J C) tg<|qq X.K T)
 (hk : ∀fp J C,m4 (jJ X scope (own++fr.map (·.1)) fp J C) c k) (S : ∀fp J C,PV (jJ X scope (own++fr.map (·.1)) fp J C) elt f) (hs : ∀x,o8 iter X.env x=pure x:=by intro _;rfl) :
 PS X (.Assign [.Name y py] (.ListComp elt [⟨tg,iter,[c],0⟩] scope pos) spos) (bX (tO X.K<|zM src T own.length (fr.map (·.2)) k f)<|vg i):=
 ye (Zt z I O U Y ok hi Z (λfp J C=>aH<|hk fp J C) S hs) λD a H h=>wY L (λa H Q h=>h) a H _ h
end
theorem jF{K:MC}{H:Hp}{i:Int}{v:V}(h:Rep K H (.int i) v):v = .int i:=h
theorem nu{K:MC}{g:Int->Int->D}{z:Int->Int->V}(O : ∀H i j,Rep K H (g i j)<|z i j):n7 K (tf z) (dI g):=λa H x y b U d Q s Y e I q=>by cases b<;>cases U<;>simp[dI]at I;subst I;exact⟨_,_,jF Y,jF e,q _ H a (Ext.refl s)<|O a _ _⟩
theorem eT{K:MC}{C:Int->Int->Prop}{c:Int->Int->Bool}{g:Int->Int->D}{z:Int->Int->V}(O : ∀i j,c i j=d7->C i j)(U : ∀H i j,Rep K H (g i j)<|z i j):n7 K (rI C z) (E2 c g):=λa H x y b Y d Q s h k I q=>by cases b<;>cases Y<;>simp[E2]at I;obtain⟨e,f⟩:=I;subst f;exact⟨_,_,jF h,jF k,O _ _ e,q _ H a (Ext.refl s)<|U a _ _⟩
theorem tI{K:MC}:n7 K (tf λi j=> .int (i - j)) QV:=nu λ_ _ _=>rfl
theorem pI(h:Kb i j=d7):DG i j:=by unfold Kb at h;rw[tx,decide_eq_true_eq,decide_eq_true_eq]at h;unfold DG;omega
theorem tR{K:MC}:n7 K (rI Lu λi j=> .int (i/j)) K6:=eT (λi j h=>by unfold EX at h;rw[MW,decide_eq_true_eq,decide_eq_true_eq]at h;exact⟨h.1,by omega⟩) λ_ _ _=>rfl
theorem tM{K:MC}:n7 K (rI (λ_ j=>0<j) λi j=> .int (i%j)) yh:=eT (λi j h=>by unfold EW at h;exact of_decide_eq_true h) λ_ _ _=>rfl
theorem tJ{K:MC}:n7 K (rI Ls λi j=> .int (i ^ j.toNat)) Au:=eT (λi j h=>by unfold EV at h;rw[MW,MW,decide_eq_true_eq,decide_eq_true_eq,decide_eq_true_eq]at h;exact⟨h.1.1,by omega,h.2⟩) λ_ _ _=>rfl
theorem eQ{K:MC}:n7 K (tf λi j=> .bl (decide<|i<j)) rh:=nu λ_ _ _=>rfl
theorem XG{K:MC}:n7 K (tf λi j=> .bl (decide<|i<=j)) lx:=nu λ_ _ _=>rfl
theorem rH{K:MC}:n7 K (tf λi j=> .bl (decide<|j<i)) pk:=nu λ_ _ _=>rfl
section
variable{X:Cx}
noncomputable def rL(K:MC):R2:=λx y H Q=>∃a b d e,x = .ref a/\y = .ref b/\hB K H a d/\hB K H b e/\d.length+e.length<=gm/\
 (d=[]->Q (.ref b) H)/\(e=[]->Q (.ref a) H)/\∀p,H p=ed->Q (.ref p) (upd H p<|.tup<|d++e)
theorem oj:i9 X (t7 .Add) (rL X.K):=by
 intro w s σ H x y v u Q I R S h;obtain⟨a,b,A,W,rfl,rfl,G,J,Y,M,N,P⟩:=h;cases R;cases S;obtain⟨O,r,t,z1⟩:=I.tuple G;obtain⟨B,e,f,z2⟩:=I.tuple J;by_cases U:A=[]
 ·have d:O=[]:=(r.L3).mpr U
  obtain⟨⟨E,F,k,T⟩,p,l,n,m⟩:=id t;obtain⟨⟨Z,C,data2,as⟩,g,i,L,j⟩:=id f;simp only at l m i j;subst l m i j;exact TN ⟨_,p,rfl⟩ ⟨_,g,rfl⟩ TR X1 Sl Sh (RY _ _)
   (tuple_addW0 a b O.toArray B.toArray n L F C T as<|by simp[d]) ⟨p,g,⟨.ref b,H,I,rfl,M U⟩⟩
 ·have d:O ≠ []:=λz=>U ((r.L3).mp z)
  refine HT.HM t f d (λz=>⟨.ref a,H,I,rfl,N<|(e.L3).mp z⟩) (λ_=>?_) (by rw[<- r.length,<- e.length];exact Y);refine⟨.ref s.heap.objs.size,_,I.laid (t':=s.toks) (o:= .tup (A++W)) (λc ob q=>ME _ q) (MM _) ?_,rfl,P _<|I.gj.fresh<|MM _⟩;exact⟨by rw[NZ];exact Y,_,r.append e,wh.new _ _⟩
noncomputable def Cc(K:MC):R2:=λx y H Q=>∃l b a d,x = .ref l/\y = .ref b/\gv K H l a/\gv K H b d/\a.length+d.length<=gm/\∀p,H p=ed->Q (.ref p) (upd H p<|.lst<|a++d)
theorem om:i9 X (t7 .Add) (Cc X.K):=by
 intro a s L H x y v u Q I E G h;obtain⟨l,b,Z,zs,rfl,rfl,A,w,S,q⟩:=h;cases E;cases G;obtain⟨z,r,⟨o,n,e,U,Y,d⟩,z1⟩:=I.list A;obtain⟨O,k,⟨C,B,j,f,g,i⟩,z2⟩:=I.list w;have T:=r.length;have W:=k.length;obtain⟨cls,lU,R,J⟩:=o;obtain⟨M,N,P,m⟩:=C;simp only at U Y d f g i;subst U Y d f g i;have p:EP X a L Q (.ref s.heap.objs.size) {s with heap:=s.heap.push {cls:= .type "list",data:= .seq (z++O).toArray}}:=
  ⟨.ref _,_,I.UU (t':=s.toks) (r.append k) (by rw[NZ];omega),rfl,q _ I.fresh⟩
 have t:z.toArray++O.toArray=(z++O).toArray:=by simp
 refine TN ⟨_,e,rfl⟩ ⟨_,j,rfl⟩ noFill_list_add seq_list_add PySem.F.slot_list_add PySem.F.entry_list_add (PySem.F.args_list_add_2 _ _)
  (list_addW l b z.toArray O.toArray n B ed ed J m<|by rw[MR,MR];omega) ⟨e,j,?_⟩
 rw[t];exact p
end
noncomputable def yv(scope C:ij):ij:={scope with names:=scope.names.map λp=>if p.2==NB && C.kind == .function && C.names.lookup p.1==dn .cell then (p.1,Pd)else (p.1,p.2)}
theorem cp(scope:ij)(env:n6):u9 scope env=yv scope env.scope:=by unfold u9 yv;rfl
structure SX(X:Cx)(sc:ij)(N T:List Str)(k:Nat):Prop where
 DR:X.env.scope=sc
 eN:X.N=N
 nd:N.Nodup
 calm:X.calm=d7
 room:m8 k X.A
 fn : ∀x∈T,X.fn x=d7\/sc.names.lookup x=dn .local
noncomputable def Yp(C:ij)(N:List Str)(i:Nat)(x:Str):Bool:=
 decide (N[i]? = dn x) && (decide (C.names.lookup x=dn .local) || decide (C.names.lookup x=dn .cell) || decide (C.names.lookup x=dn .free)) && !(x==("__debug__" : Str)) && !(x==("__classdict__" : Str))
noncomputable def yU(C:ij)(N T:List Str)(i:Nat)(x:Str):Bool:=decide (x∈T) && decide (N[i]? = dn x) && (decide (C.names.lookup x=dn .local) || decide (C.names.lookup x=dn .cell))
noncomputable def vQ(C:ij)(x:Str):Bool:=decide (C.names.lookup x=dn .globalImplicit) && !(x==("__name__" : Str)) && !(x==("__debug__" : Str))
section
variable{X:Cx}{sc:ij}{N T:List Str}{k:Nat}{i:Nat}{x:Str}{pos:hL}
theorem SX.var(h:SX X sc N T k)(c:Yp sc N i x=d7):PE X (.Name x pos) (AV i):=by
 unfold Yp at c;simp only[MW,tx,decide_eq_true_eq,OR]at c;obtain⟨⟨⟨a,h2⟩,z⟩,I⟩:=c;refine CH (by rw[h.eN];exact a) ?_ z I;unfold O6;rw[h.DR];rcases h2 with(h2 | h2) | h2
 ·exact .inl h2
 ·exact .inr<|.inl h2
 ·exact .inr<|.inr h2
theorem SX.loc(h:SX X sc N T k)(c:yU sc N T i x=d7):X.N[i]? = dn x/\L2.Loc X.env.scope x/\(X.fn x=d7\/X.env.scope.names.lookup x=dn .local):=by
 unfold yU at c;simp only[MW,tx,decide_eq_true_eq]at c;refine⟨by rw[h.eN];exact c.1.2,?_,?_⟩
 ·unfold L2.Loc;rw[h.DR];exact c.2
 ·rw[h.DR];exact h.fn x c.1.1
theorem SX.E5(h:SX X sc N T k):X.N.Nodup:=by rw[h.eN];exact h.nd
theorem SX.DF(h:SX X sc N T k)(i:Nat)(c:yU sc N T i x=d7):PG X (.Name x pos) (vg i):=by obtain⟨a,b,z⟩:=h.loc c;exact gc h.E5 a b z
theorem SX.f_(h:SX X sc N T k)(g:D7 X es (gs is))(C:(xb es X.env).length=is.length:=by rfl)(z:(xb es X.env).findIdx? (·.1)=ed:=by rfl):PG X (.Tuple es j pos) (qq X.K<|.tp is):=
 CG h.calm g C z
theorem SX.set(h:SX X sc N T k)(i:Nat)(c:yU sc N T i x=d7)(z:PE X e te)(I:C2 e (dn (.Name x pos')) pos.line X.env=pure eh:=by rfl):PS X (.Assign [.Name x pos'] e pos) (bX te<|vg i):=by obtain⟨a,b,O⟩:=h.loc c;exact Cy h.E5 a b z I O
theorem SX.gl(h:SX X sc N T k)(c:vQ sc x=d7):Gl X x/\x ≠ "__name__"/\(x==("__debug__" : Str))=eh:=by
 unfold vQ at c;simp only[MW,decide_eq_true_eq,OR]at c;refine⟨?_,?_,c.2⟩
 ·show X.env.scope.names.lookup x=_
  rw[h.DR];exact c.1.1
 ·intro e;rw[e]at c;simp at c
noncomputable def WK(sc scope:ij)(N:List Str)(C:List (Str×Nat)):Bool:=
 decide (scope.kind = .function) && decide ((scope.names.map (·.1)).Nodup) && scope.names.all (λp=> !(p.2==NB) || decide (sc.names.lookup p.1=dn .cell) || decide (sc.names.lookup p.1=dn .free)) &&
 C.all λp=>decide (scope.names.lookup p.1=dn .free) && decide (N[p.2]? = dn p.1)
noncomputable def GK(own:List Str)(scope:ij)(C:List (Str×Nat)):Bool:=decide ((own++C.map (·.1)).Nodup) && own.all (λx=>decide (scope.names.lookup x=dn .local) || decide (scope.names.lookup x=dn .cell))
theorem SX.J'(h:SX X sc N T k)(c:WK sc scope N fr=d7):rr X scope fr:=by
 unfold WK at c;simp only[MW,decide_eq_true_eq,Ot,tx,OR]at c;obtain⟨⟨⟨O,U⟩,Y⟩,I⟩:=c;refine⟨O,U,λp z a=>?_,λp z=>⟨(I p z).1,by rw[h.eN];exact(I p z).2⟩⟩;have e:X.env.kindOf p.1=sc.names.lookup p.1:=by show X.env.scope.names.lookup p.1=_;rw[h.DR]
 rw[e];rcases Y p z with(q | q) | q
 ·rw[a]at q;exact absurd q ⋯
 ·exact .inl q
 ·exact .inr q
theorem J6(scope sc:ij)(x:Str):(yv scope sc).names.lookup x=(scope.names.lookup x).map λk=>if (k==NB && sc.kind == .function && sc.names.lookup x==dn .cell)then Pd else k:=by
 unfold yv;dsimp only;generalize scope.names=l
 induction l with
 | nil=>rfl
 | cons p r I=>
  obtain⟨n,O⟩:=p;rw[Nk];cases hx:x==n with
  | true=>
   have e:x=n:=by simpa using hx
   subst e;dsimp only;split
   ·rename_i z;rw[Og,Og,beq_self_eq_true];dsimp only[Th];rw[UJ z]
   ·rename_i z;rw[Og,Og,beq_self_eq_true];dsimp only[Th];rw[UY z]
  | false=>
   dsimp only;split
   ·rw[Og,Og,hx];exact I
   ·rw[Og,Og,hx];exact I
theorem SX.comp(h:SX X sc N T k)(c:GK own scope fr=d7) :
 SX (jJ X scope (own++fr.map (·.1)) fp s2 H2) (yv scope sc) (own++fr.map (·.1)) own k:=by
 unfold GK at c;simp only[MW,decide_eq_true_eq,Ot,tx]at c;refine⟨?_,rfl,c.1,h.calm,h.room,λx a=>?_⟩
 ·show u9 scope X.env=_
  rw[cp,h.DR]
 ·rcases c.2 x a with q | q
  ·right;rw[J6,q];rfl
  ·left
   show(scope.names.lookup x==dn .cell)=d7;rw[q];rfl
end
mutual
def l8:D->PyData
 | .ft=> .none
 | .bl b=> .bool b
 | .int i=> .int i
 | .str x=> .str x
 | .tup a=> .tuple (rq a)
 | .lst a=> .list (rq a)
 | .l9 _ _=> .none
 | .lU _ _=> .none
def rq:List D->List PyData
 | []=>[]
 | d::ds=>l8 d::rq ds
end
theorem C0(h:ix (.l9 ks vs)=d7):False:=by simp[ix]at h
theorem B9(h:ix (.lU ks vs)=d7):False:=by simp[ix]at h
mutual
theorem P7 : ∀x y:D,ix x=d7->ix y=d7->Rn (l8 x) (l8 y)=ji x y
 | .ft,y,_,h=>by cases y<;>first | exact(C0 h).elim | exact(B9 h).elim | simp[l8,Rn,ji]
 | .bl a,y,_,h=>by cases y<;>first | exact(C0 h).elim | exact(B9 h).elim | simp[l8,Rn,ji]
 | .int a,y,_,h=>by cases y<;>first | exact(C0 h).elim | exact(B9 h).elim | simp[l8,Rn,ji]
 | .str a,y,_,h=>by cases y<;>first | exact(C0 h).elim | exact(B9 h).elim | simp[l8,Rn,ji]
 | .l9 c n,y,h,_=>(C0 h).elim
 | .lU c n,y,h,_=>(B9 h).elim
 | .tup xs,y,h1,h2=>by
  cases y with
  | tup b=>simp only[ix]at h1 h2;simp only[l8,Rn,ji];exact P8 xs b h1 h2
  | l9 c n=>exact(C0 h2).elim
  | lU c n=>exact(B9 h2).elim
  | _=>simp[l8,Rn,ji]
 | .lst xs,y,h1,h2=>by
  cases y with
  | lst b=>simp only[ix]at h1 h2;simp only[l8,Rn,ji];exact P8 xs b h1 h2
  | l9 c n=>exact(C0 h2).elim
  | lU c n=>exact(B9 h2).elim
  | _=>simp[l8,Rn,ji]
theorem P8 : ∀xs ys:List D,o4 xs=d7->o4 ys=d7->SU (rq xs) (rq ys)=p9 xs ys
 | [],ys,_,_=>by cases ys<;>simp[rq,SU,p9]
 | x::xs,ys,h1,h2=>by
  cases ys with
  | nil=>simp[rq,SU,p9]
  | cons y ys=>
   simp only[o4,MW]at h1 h2;simp only[rq,SU,p9];rw[P7 x y h1.1 h2.1,P8 xs ys h1.2 h2.2]
end
mutual
theorem US : ∀x:D,ix x=d7->(l8 x).canLay0=d7
 | .ft,_=>by simp[l8,Rq]
 | .bl a,_=>by simp[l8,Rq]
 | .int a,_=>by simp[l8,Rq]
 | .str a,h=>by simpa[l8,Rq,ix,PyData.strOk]using h
 | .tup xs,h=>by simp only[ix]at h;simp only[l8,Rq];exact S0 xs h
 | .lst xs,h=>by simp only[ix]at h;simp only[l8,Rq];exact S0 xs h
 | .l9 c n,h=>(C0 h).elim
 | .lU c n,h=>(B9 h).elim
theorem S0 : ∀xs:List D,o4 xs=d7->Tf (rq xs)=d7
 | [],_=>by simp[rq,Tf]
 | x::xs,h=>by simp only[o4,MW]at h;simp only[rq,Tf];rw[US x h.1,S0 xs h.2];rfl
end
mutual
theorem UC : ∀x:D,(l8 x).depth=deep x
 | .ft=>by simp[l8,Ra,deep]
 | .bl a=>by simp[l8,Ra,deep]
 | .int a=>by simp[l8,Ra,deep]
 | .str a=>by simp[l8,Ra,deep]
 | .l9 c n=>by simp[l8,Ra,deep]
 | .lU c n=>by simp[l8,Ra,deep]
 | .tup b=>by simp only[l8,Ra,deep];rw[P6 b]
 | .lst b=>by simp only[l8,Ra,deep];rw[P6 b]
theorem P6 : ∀xs:List D,PyData.depthAll (rq xs)=ni xs
 | []=>by simp[rq,PyData.depthAll,ni]
 | x::xs=>by simp only[rq,PyData.depthAll,ni];rw[UC x,P6 xs]
end
theorem ve(h:lp d=d7):ix d=d7:=by unfold lp at h;rw[MW]at h;exact h.2
theorem wx(h:lp d=d7):SeqAt.shaped (l8 d)=d7:=by unfold lp at h;rw[MW,decide_eq_true_eq]at h;unfold SeqAt.shaped;rw[US d h.2,RM,UC];exact decide_eq_true ⋯
section
variable{X:Cx}{pins:UQ}{σ:St}{H0 H:Hp}{s:eK}
mutual
theorem F2(I:Inv X pins σ H s)(sub:g8 H0 H) : ∀{d:D} {v:V} {u:el},ix d=d7->Rep X.K H0 d v->RelV v u->∃z,Reads s.heap u (l8 d) z
 | .ft,v,u,_,h,r=>by cases (show v = .ft from h);cases r;exact⟨_,.none⟩
 | .bl b,v,u,_,h,r=>by cases (show v = .bl b from h);cases r;exact⟨_,.bool b⟩
 | .int i,v,u,_,h,r=>by cases (show v = .int i from h);obtain⟨t,rfl⟩:=r;exact⟨_,.int i t⟩
 | .str x,v,u,_,h,r=>by cases (show v = .str x from h);obtain⟨t,rfl⟩:=r;exact⟨_,.str x t⟩
 | .l9 c n,v,u,o,_,_=>(C0 o).elim
 | .lU c n,v,u,o,_,_=>(B9 o).elim
 | .tup ds,v,u,o,h,r=>by obtain⟨a,e,rfl,f,g⟩:=(show ∃a e,v = .ref a/\hB X.K H0 a e/\eA X.K H0 ds e from h);cases r;simp only[ix]at o;obtain⟨l,O,⟨w,U,Y,n,j⟩,m⟩:=I.tuple<|nf sub f;obtain⟨z,k⟩:=TY I sub o g O;exact⟨z,.tuple U Y j<|by simpa using k⟩
 | .lst ds,v,u,o,h,r=>by obtain⟨a,e,rfl,f,g⟩:=(show ∃a e,v = .ref a/\gv X.K H0 a e/\eA X.K H0 ds e from h);cases r;simp only[ix]at o;obtain⟨l,O,p,m⟩:=I.list<|sub.seq f;obtain⟨w,U,Y,n,j⟩:=p.isList;obtain⟨z,k⟩:=TY I sub o g O;exact⟨_,.list U Y j<|by simpa using k⟩
theorem TY(I:Inv X pins σ H s)(sub:g8 H0 H) : ∀{ds:List D} {xs:List V} {us:List el},o4 ds=d7->eA X.K H0 ds xs->f9 xs us->∃z,ReadsAll s.heap us (rq ds) z
 | [],xs,us,_,h,r=>by rw[h.p5]at r;cases r;exact⟨_,.nil⟩
 | d::ds,xs,us,o,h,r=>by
  obtain⟨x,t,e,a,b⟩:=h.m9;subst e;simp only[o4,MW]at o;cases r with
  | cons O f=>
   obtain⟨z,U⟩:=F2 I sub o.1 a O;obtain⟨bs,Y⟩:=TY I sub o.2 b f;exact⟨_,.cons U Y⟩
end
end
noncomputable def IK(K:MC):R2:=λx y H Q=>∃a b z,g8 a H/\Rep K a b x/\Rep K a z y/\lp b=d7/\lp z=d7/\Q (.bl<|ji b z) H
noncomputable def IJ(K:MC):R2:=λx y H Q=>∃a b z,g8 a H/\Rep K a b x/\Rep K a z y/\lp b=d7/\lp z=d7/\Q (.bl<|!ji b z) H
theorem rS(U:X.A.units+64<Dw):i9 X (oe .Eq) (IK X.K):=by intro a s l H x y v u Q I Y g h;obtain⟨i,j,k,sub,b,d,z,O,q⟩:=h;obtain⟨as,e⟩:=F2 I sub (ve z) b Y;obtain⟨bs,f⟩:=F2 I sub (ve O) d g;exact eq_dataH e f (wx z) (wx O) U ⟨.bl _,H,I,by rw[P7 _ _ (ve z) (ve O)];rfl,q⟩
theorem Ed(U:X.A.units+64<Dw):i9 X (oe .NotEq) (IJ X.K):=by intro a s l H x y v u Q I Y g h;obtain⟨i,j,k,sub,b,d,z,O,q⟩:=h;obtain⟨as,e⟩:=F2 I sub (ve z) b Y;obtain⟨bs,f⟩:=F2 I sub (ve O) d g;exact ne_dataH e f (wx z) (wx O) U ⟨.bl _,H,I,by rw[P7 _ _ (ve z) (ve O)];rfl,q⟩
theorem eU{K:MC}:n7 K (IK K) hG:=λa H x y b I d Q s O U z q=>by
 unfold hG at z;split at z
 ·rename_i h;cases z;exact⟨a,b,I,s,O,U,h.1,h.2,q _ H a (Ext.refl s) rfl⟩
 ·cases z
theorem tK{K:MC}:n7 K (IJ K) i0:=λa H x y b I d Q s O U z q=>by
 unfold i0 at z;split at z
 ·rename_i h;cases z;exact⟨a,b,I,s,O,U,h.1,h.2,q _ H a (Ext.refl s) rfl⟩
 ·cases z
theorem SX.F7(h:SX X sc N T k):X.A.units+64<Dw:=by have:=h.room.un;omega
section
variable{X:Cx}{sc:ij}{N T:List Str}{k:Nat}{a b c:e9}{pos p:hL}{fa fb fc:CO D}
theorem yO(C:PV X a fa)(z:PV X b fb):PV X (.BinOp a .Sub b pos) (zG QV fa fb):=XN Ea tI C z
theorem vL(C:PV X a fa)(z:PV X b fb):PV X (.BinOp a .FloorDiv b pos) (zG K6 fa fb):=XN uK tR C z
theorem qJ(C:PV X a fa)(z:PV X b fb):PV X (.BinOp a .Mod b pos) (zG yh fa fb):=XN Ee tM C z
theorem fG(C:PV X a fa)(z:PV X b fb):PV X (.BinOp a .Pow b pos) (zG Au fa fb):=XN Ec tJ C z
theorem Ck(C:PV X a fa)(z:PV X b fb):PV X (.Compare a [.Lt] [b] pos) (zG rh fa fb):=fL uJ eQ C z<|wL b
theorem Co(C:PV X a fa)(z:PV X b fb):PV X (.Compare a [.Gt] [b] pos) (zG pk fa fb):=fL Eg rH C z<|wL b
theorem V8(h:SX X sc N T k)(C:PV X a fa)(z:PV X b fb):PV X (.Compare a [.Eq] [b] pos) (zG hG fa fb):=fL (rS h.F7) eU C z<|wL b
theorem Cr(C:PV X a fa)(z:PV X b fb):m4 X (.Compare a [.Lt] [b] pos) (sB<|zG rh fa fb):=Zs uJ eQ C z<|wL b
theorem Cs(C:PV X a fa)(z:PV X b fb):m4 X (.Compare a [.LtE] [b] pos) (sB<|zG lx fa fb):=Zs cJ XG C z<|wL b
theorem XQ(C:PV X a fa)(z:PV X b fb):m4 X (.Compare a [.Gt] [b] pos) (sB<|zG pk fa fb):=Zs Eg rH C z<|wL b
theorem yQ(h:SX X sc N T k)(C:PV X a fa)(z:PV X b fb):m4 X (.Compare a [.Eq] [b] pos) (sB<|zG hG fa fb):=Zs (rS h.F7) eU C z<|wL b
theorem YT(h:SX X sc N T k)(C:PV X a fa)(z:PV X b fb):m4 X (.Compare a [.NotEq] [b] pos) (sB<|zG i0 fa fb):=Zs (Ed h.F7) tK C z<|wL b
theorem V4{K:MC}{H:Hp}{d:D}(h:Rep K H d .ft):d = .ft:=by
 cases d with
 | ft=>rfl
 | bl b=>exact V.noConfusion (show V.ft = .bl b from h)
 | int b=>exact V.noConfusion (show V.ft = .int b from h)
 | str b=>exact V.noConfusion (show V.ft = .str b from h)
 | tup b=>obtain⟨a,f,e,_⟩:=h;cases e
 | lst b=>obtain⟨a,f,e,_⟩:=h;cases e
 | l9 c n=>obtain⟨a,f,e,_⟩:=h;cases e
 | lU c n=>obtain⟨a,f,e,_⟩:=h;cases e
theorem tP{K:MC}:n7 K (λx y H Q=>y = .ft/\Q (.bl<|decide<|x = .ft) H) ES:=λa H x y b O d Q s z U I q=>by
 cases O with
 | ft=>
  refine⟨U,?_⟩;cases b with
  | ft=>cases I;rw[show x=V.ft from z];exact q _ H a (Ext.refl s) (by simp;rfl)
  | _=>
   cases I;refine q _ H a (Ext.refl s) ?_;have : ¬x=V.ft:=λe=>by rw[e]at z;exact D.noConfusion<|V4 z
   rw[decide_eq_false this];rfl
 | _=>cases b<;>cases I
theorem ug(C:PV X a fa)(z:PV X b fb):m4 X (.Compare a [.Is] [b] pos) (sB<|zG ES fa fb):=Zs Ef tP C z<|wL b
theorem yq{K:MC}{H:Hp}{ds:List D}{v:V}(h:Rep K H (.tup ds) v) : ∃a xs,v = .ref a/\hB K H a xs/\eA K H ds xs:=h
theorem gO{K:MC}{H:Hp}{ds:List D}{v:V}(h:Rep K H (.lst ds) v) : ∃a xs,v = .ref a/\gv K H a xs/\eA K H ds xs:=h
theorem ki{K:MC}{H:Hp}{ds:List D}{a:ej}{xs:List V}(C:hB K H a xs)(I:eA K H ds xs):Rep K H (.tup ds) (.ref a):=⟨a,xs,rfl,C,I⟩
theorem JR{K:MC}{H:Hp}{ds:List D}{a:ej}{xs:List V}(C:gv K H a xs)(I:eA K H ds xs):Rep K H (.lst ds) (.ref a):=⟨a,xs,rfl,C,I⟩
theorem tU{K:MC}:n7 K (λx y H Q=>tf (λi j=> .int (i+j)) x y H Q\/rL K x y H Q) qo:=λg H x y n o d Q s U Y I q=>by
 cases n<;>cases o<;>simp[qo]at I
 ·subst I;exact .inl ⟨_,_,jF U,jF Y,q _ H g (Ext.refl s) rfl⟩
 ·rename_i m r
  obtain⟨t,rfl⟩:=I;obtain⟨a,u,rfl,h,f⟩:=yq U;obtain⟨b,w,rfl,k,z⟩:=yq Y;refine .inr ⟨a,b,u,w,rfl,rfl,nf s h,nf s k,yC (by rw[f.length,z.length];exact t),λe=>?_,λe=>?_,λp l=>?_⟩
  ·have O:m=[]:=by
    have:=f.length;rw[e]at this;exact NL this.symm
   subst O;exact q _ H g (Ext.refl s)<|ki k z
  ·have O:r=[]:=by
    have:=z.length;rw[e]at this;exact NL this.symm
   subst O;exact q _ H g (Ext.refl s) (by rw[Ph];exact ki h f)
  ·exact q _ _ _ (Ext.alloc s l _)<|ki (hB.of zS)<|(f.append z).mono (jr (jA s l) _)
theorem j4(C:PV X a fa)(z:PV X b fb):PV X (.BinOp a .Add b pos) (zG qo fa fb):=XN (V_.or oj) tU C z
end
theorem W3(O:A.handled=ed)(k:Sk)(I z:ej)(U:z≠I)(items:Array el) :
 Walks P w A I [I,z] [I] items.size (λi v=>items[i]? = dn v) (λi h=>iW k h I z i/\k0 k h z items):=by
 cases k
 ·exact Walks.list O I z U items
 ·exact Walks.tuple O I z U items
theorem JU(C:List Int) : ∀n,TX (λi=>C.getD i 0) n=(C.take n).sum
 | 0=>by simp[TX]
 | n+1=>by
  have z:=JU C n;simp only[TX,z];by_cases h:n<C.length
  ·rw[List.take_succ_eq_append_getElem h,List.sum_append]
   simp[h]
  ·rw[Rr ⋯,Rr ⋯]
   simp[h]
section
variable{X:Cx}{pins:UQ}{σ:St}{H:Hp}{s:eK}
theorem lA(J:X.calm=d7):Ja X (.builtin "sum") (λxs H Q=>∃p k ys C,xs=[.ref p]/\i7 k X.K H p ys/\ys=(C:List Int).map V.int/\Q (.int C.sum) H):=by
 intro pins s σ H F E Q I n h;obtain⟨p,k,ys,C,rfl,l,rfl,q⟩:=h;obtain⟨u,rfl,O⟩:=vJ n;cases O;obtain⟨z,r,U,B⟩:=I.sq l;have lt:=U.lt;have Y:=r.length;rw[Nf]at Y;refine call_sum_walkG<|QE U ⟨_,[_,p],[_],z.toArray.size,_,_,λi=>C.getD i 0,rfl,W3 (A:=X.A.in1) (I.ok.hd J) k _ p (Nt lt) z.toArray,⟨ZL k _ p,U.at λo e=>ME _ e⟩,?_,?_,?_⟩
 ·intro b f
  rw[Nz];simp only[MS,Nu,or_false]at f;rcases f with rfl | rfl
  ·exact OM _
  ·exact NT lt
 ·intro i v m
  have a:z[i]? = dn v:=by simpa using m
  have g:i<C.length:=by rw[Y];exact(MU.mp a).1
  obtain⟨u,d,O⟩:=r.get (i:=i) (x:= .int C[i]) (by simp[g]);rw[a]at d;cases d;obtain⟨t,rfl⟩:=O;exact⟨t,by simp[g]⟩
 ·intro y w t' j
  have e:TX (λi=>C.getD i 0) z.toArray.size=C.sum:=by rw[JU,Rr (by rw[MR,Y];exact MM _)]
  refine⟨.int C.sum,H,I.kept (t':=w)<|λb u e=>j b u ?_ (ME _ e),⟨t',by rw[e]⟩,q⟩;simp only[MS,Nu,or_false];exact Nt<|Na e
def Br:V->Option Bool
 | .ft=>dn eh
 | .bl b=>dn b
 | .int i=>dn (i != 0)
 | _=>ed
theorem mS(r:RelV x u)(e:Br x=dn b)(q:Q b s):wpAny (fe P w) A (F6 u) Q E s:=by
 cases x with
 | ft=>cases r;cases e;exact λ_ _ _=>q
 | bl c=>cases r;cases e;exact OA q
 | int i=>obtain⟨t,rfl⟩:=r;cases e;exact PyProof.Rows.truthy_int q
 | _=>cases e
noncomputable def ez:List V->Option (List Bool)
 | []=>dn []
 | x::r=>(Br x).bind λb=>(ez r).map λl=>b::l
theorem Yy : ∀{xs:List V} {bs:List Bool},ez xs=dn bs->bs.length=xs.length/\∀(i:Nat) x,xs[i]? = dn x->Br x=dn (bs.getD i eh)
 | [],bs,h=>by cases h;exact⟨rfl,λi x e=>by simp at e⟩
 | y::xs,bs,h=>by
  obtain⟨b,a,h⟩:=zf h;obtain⟨l,z,h⟩:=zF h;subst h;obtain⟨d,f⟩:=Yy z;refine⟨by simp[d],λi x e=>?_⟩;cases i with
  | zero=>simp at e;subst e;simpa using a
  | succ i=>simpa using f i x (by simpa using e)
theorem me(bs:List Bool):(MB bs.length).any (λi=>bs.getD i eh)=bs.any id:=by
 rw[OU];simp only[Tx,MD,id_eq];constructor
 ·rintro⟨i,a,h⟩
  rw[MI,MF a]at h;exact⟨_,Po a,h⟩
 ·rintro⟨b,z,h⟩
  obtain⟨i,a,e⟩:=List.mem_iff_getElem.mp z;refine⟨i,a,?_⟩;rw[MI,MF a,RB,e];exact h
theorem lF(C:X.calm=d7):Ja X (.builtin "any") (λxs H Q=>∃p k ys bs,xs=[.ref p]/\i7 k X.K H p ys/\ez ys=dn bs/\Q (.bl (bs.any id)) H):=by
 intro pins s σ H N M Q I y h;obtain⟨p,k,ys,bs,rfl,n,t,q⟩:=h;obtain⟨u,rfl,O⟩:=vJ y;cases O;obtain⟨z,r,U,J⟩:=I.sq n;have lt:=U.lt;have Y:=r.length;obtain⟨g,j⟩:=Yy t;refine call_any_walk<|QE U ⟨_,[_,p],[_],z.toArray.size,_,_,λi=>bs.getD i eh,rfl,W3 (A:=X.A.in1) (I.ok.hd C) k _ p (Nt lt) z.toArray,⟨ZL k _ p,U.at λo e=>ME _ e⟩,?_,?_⟩
 ·intro i v L F E w l
  have a:z[i]? = dn v:=by simpa using w
  have f:i<ys.length:=by rw[Y];exact(MU.mp a).1
  obtain⟨u,d,O⟩:=r.get (i:=i) (x:=ys[i]) (by simp[f]);rw[a]at d;cases d;exact mS O (j i ys[i] (by simp[f])) l
 ·intro G B m
  have e:(MB z.toArray.size).any (λi=>bs.getD i eh)=bs.any id:=by rw[MR,<- Y,<- g];exact me bs
  refine⟨.bl<|bs.any id,H,I.kept (t':=B)<|λb u e=>m b u ?_ (ME _ e),by rw[e];rfl,q⟩;simp only[MS,Nu,or_false];exact Nt<|Na e
end
section
variable{X:Cx}{sc:ij}{N T:List Str}{k:Nat}{e a b c:e9}{pos p p2:hL}{f g:CO D}{fq:CO (Sk×List D)}
theorem BC{K:MC}{H:Hp}{k:Sk}{a:ej}{xs:List V}(h:i7 k K H a xs):gv K H a xs\/hB K H a xs:=by
 cases k
 ·exact .inl h
 ·exact .inr h
theorem kT(h:SX X sc N T k)(c:vQ sc "len" = d7)(z:X.mg "len" = ed)(O:PQ X e fq)(I:gu [e] X.env=[(eh,fh e X.env)]:=by rfl):PV X (.Call (.Name "len" p) [e] [] pos) (km fq):=
 qD (yw VC (h.gl c).1 z PySem.boot_len (jT O xj I) ⋯ ⋯ I rfl) λu H Q U=>by obtain⟨j,s,d,rc,Y,q⟩:=U;obtain⟨⟨o,f⟩,l,m⟩:=zF Y;subst m;refine⟨j,s,o,f,rc,l,λa g i b ext n t r=>⟨a,g,rfl,BC n,?_⟩⟩;exact q _ i b ext (show V.int g.length = .int f.length by rw[r.length])
theorem qt(h:SX X sc N T k)(c:vQ sc "tuple" = d7)(z:X.mg "tuple" = ed)(U:PQ X e fq)(I:gu [e] X.env=[(eh,fh e X.env)]:=by rfl):PV X (.Call (.Name "tuple" p) [e] [] pos) (zP fq):=
 qD (JY Ya (h.gl c).1 z PyProof.Rows.boot_tuple (jT U xj I) ⋯ ⋯ I rfl) λx H Q Y=>by
  obtain⟨j,w,d,rc,s,q⟩:=Y;obtain⟨⟨g,m⟩,n,o⟩:=zF s;subst o;refine⟨j,w,g,m,rc,n,λa u i b ext f t r=>⟨a,u,rfl,?_⟩⟩;cases g with
  | L=>exact .inl ⟨f,λl O=>q _ _ _ (ext.trans<|Ext.alloc ext.sub O _)<|ki (hB.of zS)<|r.mono<|jr (jA ext.sub O) _⟩
  | T=>exact .inr ⟨f,q _ i b ext (ki (t rfl) r)⟩
theorem kJ{H H':Hp}(s:g8 H H'){a:ej}(h:H' a=ed):H a=ed:=by
 cases z:H a with
 | none=>rfl
 | some o=>rw[s a o z]at h;cases h
theorem uv(h:SX X sc N T k)(c:vQ sc "list" = d7)(z:X.mg "list" = ed)(U:PQ X e fq)(O:gu [e] X.env=[(eh,fh e X.env)]:=by rfl):PO X (.Call (.Name "list" p) [e] [] pos) (ff fq):=
 qD (JY VA (h.gl c).1 z PyProof.Rows.boot_list (jT U xj O) ⋯ ⋯ O rfl) λx H Q Y=>by obtain⟨g,t,d,rc,n,q⟩:=Y;obtain⟨⟨s,i⟩,j,m⟩:=zF n;subst m;refine⟨g,t,s,i,rc,j,λa f u b ext o w r=>⟨a,f,rfl,BC o,λl I=>?_⟩⟩;exact q l f _ b (ext.trans<|Ext.hide ext.sub I _) (kJ ext.s1 I) (jA ext.sub I) zS r
theorem YE : ∀{ds:List D} {n:Int},YF ds=dn n->∃C:List Int,ds=C.map D.int/\n=C.sum
 | [],n,h=>by cases h;exact⟨[],rfl,rfl⟩
 | d::ds,n,h=>by
  cases d with
  | int i=>
   obtain⟨s,e,h⟩:=zF h;obtain⟨C,rfl,rfl⟩:=YE e;exact⟨i::C,rfl,by rw[<- h];simp⟩
  | _=>cases h
theorem YQ{K:MC}{H:Hp} : ∀{C:List Int} {xs:List V},eA K H (C.map D.int) xs->xs=C.map V.int
 | [],xs,h=>h.p5
 | z::C,xs,h=>by obtain⟨x,r,e,a,b⟩:=eA.m9 h;rw[e,jF a,YQ b];rfl
theorem wC(h:SX X sc N T k)(c:vQ sc "sum" = d7)(z:X.mg "sum" = ed)(Y:PQ X e fq)(U:gu [e] X.env=[(eh,fh e X.env)]:=by rfl):PV X (.Call (.Name "sum" p) [e] [] pos) (JO fq):=
 qD (yw (lA h.calm) (h.gl c).1 z PyProof.Rows.boot_sum (jT Y xj U) ⋯ ⋯ U rfl) λA H Q u=>by obtain⟨j,x,d,rc,I,q⟩:=u;obtain⟨⟨f,l⟩,m,I⟩:=zf I;obtain⟨n,o,s⟩:=zF I;subst s;obtain⟨g,O,rfl⟩:=YE o;have O:l=g.map D.int:=O;subst O;exact⟨j,x,f,_,rc,m,λa w i b ext t y r=>⟨a,f,w,g,rfl,t,YQ r,q _ i b ext rfl⟩⟩
theorem sS{K:MC}{H:Hp}{d:D}{x:V}{b:Bool}(h:Rep K H d x)(e:Fz d=dn b):Br x=dn b:=by
 cases d with
 | ft=>cases (show x = .ft from h);exact e
 | bl c=>cases (show x = .bl c from h);exact e
 | int i=>cases (show x = .int i from h);exact e
 | _=>cases e
theorem aa{K:MC}{H:Hp} : ∀{ds:List D} {xs:List V} {bs:List Bool},eA K H ds xs->JE ds=dn bs->ez xs=dn bs
 | [],xs,bs,h,e=>by rw[h.p5];exact e
 | d::ds,xs,bs,h,e=>by obtain⟨x,r,z,f,g⟩:=h.m9;obtain⟨b,a,e⟩:=zf e;obtain⟨l,I,e⟩:=zF e;subst z e;show(Br x).bind _=_;rw[sS f a];show((ez r).map λl=>b::l)=_;rw[aa g I];rfl
theorem rM(h:SX X sc N T k)(c:vQ sc "any" = d7)(z:X.mg "any" = ed)(U:PQ X e fq)(O:gu [e] X.env=[(eh,fh e X.env)]:=by rfl):PV X (.Call (.Name "any" p) [e] [] pos) (AW fq):=
 qD (yw (lF h.calm) (h.gl c).1 z PyProof.Rows.boot_any (jT U xj O) ⋯ ⋯ O rfl) λw H Q Y=>by obtain⟨i,s,d,rc,I,q⟩:=Y;obtain⟨⟨f,t⟩,j,I⟩:=zf I;obtain⟨bs,l,m⟩:=zF I;subst m;exact⟨i,s,f,_,rc,j,λa o g b ext n u r=>⟨a,f,o,bs,rfl,n,aa r l,q _ g b ext rfl⟩⟩
theorem V7(h:SX X sc N T k)(c:vQ sc "int" = d7)(z:X.mg "int" = ed)(Y:PV X e f)(O:gu [e] X.env=[(eh,fh e X.env)]:=by rfl):PV X (.Call (.Name "int" p) [e] [] pos) (kh f):=
 qD (JY lE (h.gl c).1 z PyProof.Rows.boot_int (jT Y xj O) ⋯ ⋯ O rfl) λo H Q m=>by
  obtain⟨j,n,d,rc,I,q⟩:=m;obtain⟨U,l,I⟩:=zf I;refine⟨j,n,U,rc,l,λv g a ext r=>?_⟩;cases U with
  | int i=>cases I;exact .inl ⟨i,by rw[jF r],q _ g a ext rfl⟩
  | bl b=>cases I;exact .inr ⟨b,by rw[show v = .bl b from r],q _ g a ext rfl⟩
  | _=>cases I
theorem fI(h:SX X sc N T k)(c:vQ sc "max" = d7)(z:X.mg "max" = ed)(C:PV X a f)(J:PV X b g)(Y:gu [a,b] X.env=[(eh,fh a X.env),(eh,fh b X.env)]:=by rfl)(O:gu [b] X.env=[(eh,fh b X.env)]:=by rfl) :
 PV X (.Call (.Name "max" p) [a,b] [] pos) (cg f g):=
 qD (yw (lD h.calm) (h.gl c).1 z PyProof.Rows.boot_max (jT C (jT J xj O)<|by rw[Y,O]) ⋯ ⋯ (by rw[Y,O]) (by rw[O];rfl)) λK H Q B=>by obtain⟨o,n,d,rc,I,q⟩:=B;obtain⟨i,l,I⟩:=zf I;obtain⟨u,y,l⟩:=zf l;obtain⟨j,U,I⟩:=zF I;obtain⟨w,A,U⟩:=zf U;subst I;refine⟨o,n,u,rc,y,λv F e x r=>⟨e,n,w,rc.ext x,A,λG s t E m=>⟨i,j,?_,q _ s t (x.trans E) rfl⟩⟩⟩;rw[j1 l]at r;rw[j1 U]at m;rw[jF r,jF m]
end
section
variable{X:Cx}{sc:ij}{N T:List Str}{k:Nat}{e a b c:e9}{pos p p2:hL}{f g:CO D}{fq:CO (Sk×List D)}
theorem aY(h:h6 n i=dn j):DA n i=dn j:=by
 unfold h6 at h;unfold DA;split at h
 ·rename_i a;rw[UJ a.1,UJ a.2];exact h
 ·split at h
  ·rename_i a b;rw[UY ⋯,UJ ⋯];exact h
  ·cases h
theorem zC(C:PQ X a fq)(J:PV X b g)(S:WZ b:=by intro _ _;rfl):PV X (.Subscript a b pos) (eg fq g):=
 qD (CQ (P_.or EB) C J S) λN H Q B=>by
  obtain⟨n,m,d,rc,z,q⟩:=B;obtain⟨⟨l,u⟩,w,z⟩:=zf z;obtain⟨i,O,z⟩:=zf z;obtain⟨t,y,O⟩:=zf O;obtain⟨j,A,z⟩:=zf z;refine⟨n,m,l,u,rc,w,λp h G e ext k K r=>⟨e,m,t,rc.ext ext,y,λM o s I f=>?_⟩⟩;rw[j1 O]at f;obtain⟨x,E,F⟩:=r.get z;have U:Dc h i=dn x:=by unfold Dc;rw[r.length,aY A];exact E
  have Y:=q x o s (ext.trans I)<|F.mono I.s0;cases l with
  | L=>exact .inl ⟨p,h,i,x,rfl,jF f,I.s1.seq k,U,Y⟩
  | T=>exact .inr ⟨p,h,i,x,rfl,jF f,nf I.s1 k,U,Y⟩
theorem ZE{P:i6}{w:h9}{A:mu}{E:EQ}{s:eK}{t C:ej}{items:Array el}{I O:el}{lo hi:Option Int}{Q:EQ}(z:D3 s.heap t items)(U:s.heap.IsSliceOf C I O .none)(Y:A5 I lo)(L:A5 O hi)
 (J:HT.eg items.size 0 lo=0/\HT.eg items.size items.size hi=items.size) (h:Q (.ref t) s):wpAny (fe P w) A (B5 (.ref t)<|.ref C) Q E s:=by
 obtain⟨os,a,b,f⟩:=id U;have d:s.TypeIs (.ref C) "slice":=⟨os,a,b⟩;unfold B5
 try with_reducible refine OV ?_
 first | refine MA (MN ?_) | skip
 refine MA (_n z.typeIs ⋯ ?_);refine MA (Od (name:=NK "__getitem__") z.typeIs D6
  (Ow D6 z.typeIs entry_tuple_getitem ?_ (E_ _ _)))
 show wpAny _ _ (Builtin.Tuple.tupleItemsOf (.ref t) >>= _) _ _ s;refine MA<|SI z ?_;refine MA<|So d ?_;rw[UJ ⋯];refine MA<|HT.ZU U Y L ?_;have e:(((HT.eg items.size 0 lo:Nat):Int)==0 && (1:Int)==1 && (HT.eg items.size items.size hi - HT.eg items.size 0 lo)==items.size)=d7:=by rw[J.1,J.2];simp
 show wpAny _ _ (if (((HT.eg items.size 0 lo:Nat):Int)==0 && (1:Int)==1 && (HT.eg items.size items.size hi - HT.eg items.size 0 lo)==items.size)=d7 then _ else _) _ _ s;rw[UJ e];refine MA (m:=Pq _) ?_;unfold Pq;refine MA<|So z.typeIs<|MN ?_;rw[UJ ⋯];exact MA<|Rm<|MN ⟨_,rfl,MN h⟩
noncomputable def GS(K:MC):V->Option Int->Option Int->Hp->VK->Prop:=λx lo d H Q=>∃a b,x = .ref a/\hB K H a b/\(HT.eg b.length 0 lo=0/\HT.eg b.length b.length d=b.length->Q (.ref a) H)/\∀p,H p=ed->Q (.ref p) (upd H p<|.tup<|pC b lo d)
theorem tW:H8 X (GS X.K):=by
 intro d s t H x v o p lo f n Q I z O U Y h;obtain⟨a,b,rfl,i,l,m⟩:=h;by_cases e:HT.eg b.length 0 lo=0/\HT.eg b.length b.length f=b.length
 ·cases z
  obtain⟨j,r,g,u⟩:=I.tuple i;have k:j.toArray.size=b.length:=by rw[MR];exact r.length.symm
  refine⟨"tuple",_,D6.lookup,g.typeIs,?_⟩;exact ZE g O U Y (by rw[k];exact e) ⟨.ref a,H,I,rfl,l e⟩
 ·exact BD d s t H (.ref a) v o p lo f n Q I z O U Y ⟨a,b,rfl,i,e,m⟩
theorem Jo(n d:Nat)(o:Option Int):dq n d o=HT.eg n d o:=by cases o<;>rfl
theorem aA{K:MC}{H:Hp}{ds:List D}{xs:List V}(r:eA K H ds xs)(lo hi:Option Int):eA K H (iZ ds lo hi) (pC xs lo hi):=by unfold iZ pC;rw[<- Jo,<- Jo,r.length];exact(r.drop _).take _
theorem iY{ds:List D}{lo hi:Option Int}(h:HT.eg ds.length 0 lo=0/\HT.eg ds.length ds.length hi=ds.length):iZ ds lo hi=ds:=by unfold iZ;rw[Jo,Jo,h.1,h.2];simp
noncomputable def tB(K:MC)(f:CO (Option Int)):TO:=λg H Q=>∃d e o,RC K d H g e/\f e=dn o/\∀b a,Ext d H a b->Q o b
theorem J0:L2.PO X ed (tB X.K VS):=λa s d H Q I ⟨b,e,o,rc,z,q⟩=>uu a s d H Q I (by cases z;exact q H b<|Ext.refl rc.sub)
theorem JZ(h:PV X e f):L2.PO X (dn e) (tB X.K<|pe f):=λa s m H Q I ⟨k,l,o,rc,z,q⟩=>ur h a s m H Q I (by
 obtain⟨i,g,O⟩:=zF z;obtain⟨d,U,g⟩:=zf g;subst O;refine⟨k,l,d,rc,U,λv j b x r=>?_⟩;rw[j1 g]at r;exact⟨i,jF r,q j b x⟩)
theorem aC{lo hi:Option e9}{O U:CO (Option Int)}(J:PV X a f)(S:L2.PO X lo (tB X.K O))(L:L2.PO X hi (tB X.K U)):PV X (.Subscript a (.Slice lo hi ed p2) pos) (au f O U):=
 qD (aI tW J S L) λN H Q C=>by
  obtain⟨m,g,d,rc,z,q⟩:=C;obtain⟨Y,y,z⟩:=zf z;obtain⟨l,A,z⟩:=zf z;obtain⟨u,B,z⟩:=zf z;refine⟨m,g,Y,rc,y,λv F b x r=>⟨b,g,l,rc.ext x,A,λG s I=>⟨s,g,u,(rc.ext x).ext I,B,λn t x3=>?_⟩⟩⟩;have k:=x.trans<|I.trans x3;cases Y with
  | tup M=>
   cases z;obtain⟨o,E,rfl,h,e⟩:=yq<|r.mono (I.trans x3).s0;have w:=e.length;refine⟨o,E,rfl,nf x3.sub h,λj=>?_,λp i=>?_⟩
   ·rw[w]at j
    exact q _ n t k (by rw[iY j];exact ki h e)
   ·exact q _ _ _ (k.trans<|Ext.alloc x3.sub i _)<|ki (hB.of zS)<|(aA e _ _).mono (jr (jA x3.sub i) _)
  | _=>cases z
theorem Kw{K:MC}{H:Hp}{ds:List D}{xs:List V}(r:eA K H ds xs) : ∀n:Nat,eA K H (MH n ds).flatten (MH n xs).flatten
 | 0=>eA.nil
 | n+1=>by rw[OH,OH,Pf,Pf];exact r.append<|Kw r n
theorem JV(C:PQ X a fq)(J:PQ X b gq):PO X (.BinOp a .Add b pos) (JP fq gq):=
 qD (uE om C J) λG H Q u=>by
  obtain⟨j,i,B,rc,z,q⟩:=u;obtain⟨⟨w,Y⟩,o,z⟩:=zf z;obtain⟨⟨x,d⟩,r,z⟩:=zf z;cases w<;>cases x<;>try (simp at z;done)
  dsimp only at z;by_cases O:Y.length+d.length<=lim
  ·rw[UJ O]at z;cases z
   refine⟨j,i,.L,Y,rc,o,λk g y m x1 s E e=>⟨m,i,.L,d,rc.ext x1,r,λl h A n I t F f=>⟨k,l,g,h,rfl,rfl,I.s1.seq s,t,yC (by rw[e.length,f.length];exact O),λp U=>?_⟩⟩⟩;exact q p (g++h) _ n (x1.trans<|I.trans<|Ext.hide I.sub U _) (kJ (x1.trans I).s1 U) (jA I.sub U) zS<|(e.mono I.s0).append f
  ·rw[UY O]at z;cases z
theorem CC(C:PO X a gn)(J:PV X b g):PO X (.BinOp a .Mult b pos) (tZ (jj gn) g):=
 qD (uE Eb C J) λM H Q u=>by
  obtain⟨k,i,B,rc,z,q⟩:=u;obtain⟨⟨G,e⟩,d,z⟩:=zf z;obtain⟨A,r,d⟩:=zF d;cases d;obtain⟨j,U,z⟩:=zf z;obtain⟨o,s,U⟩:=zf U;dsimp only at z;by_cases O:e.length*j.toNat<=lim/\inR j=d7
  ·rw[UJ O]at z;cases z
   refine⟨k,i,e,rc,r,λl w x m x1 E F t f=>⟨m,i,o,rc.ext x1,s,λv y n I h=>?_⟩⟩;rw[j1 U]at h;obtain⟨K,L⟩:=QK O.2;refine⟨l,j,w,rfl,jF h,I.s1 _ _ t,by omega,by omega,yC (by rw[f.length];exact O.1),λp Y=>?_⟩;exact q p _ _ n (x1.trans<|I.trans<|Ext.hide I.sub Y _) (kJ (x1.trans I).s1 Y) (jA I.sub Y) zS<|(Kw f _).mono I.s0
  ·rw[UY O]at z;cases z
theorem Ep{K:MC}{t c:String}{b:Bool}(h:(if ((Ro t) == .type c)=d7 then dn d7 else if PySem.W.kitMeta c=d7 then (fastBuiltinMro t).map (·.contains (.type c))else ed)=dn b):PM K (.type t) (.type c)=dn b:=h
noncomputable def N3:Ty->String
 | .int=>"int"
 | .bool=>"bool"
 | .str=>"str"
 | .tuple=>"tuple"
 | .list=>"list"
noncomputable def Er:D->String
 | .ft=>"NoneType"
 | .bl _=>"bool"
 | .int _=>"int"
 | .str _=>"str"
 | .tup _=>"tuple"
 | .lst _=>"list"
 | .l9 _ _=>"dict"
 | .lU _ _=>"dict"
theorem Vg{K:MC}(T:Ty)(d:D):PM K (.type<|Er d) (.type<|N3 T)=dn (rX T d):=by cases d<;>cases T<;>(dsimp only[Er,N3,rX,sf,ED,rZ,rY,se];exact Ep ⋯)
theorem oT{C:UQ}{L:St}{H0 H:Hp}{s:eK}{A:mu}{E:EQ}{Q:EQ}{d:D}{x:V}{u:el}(I:Inv X C L H s)(sub:g8 H0 H)(O:RelV x u)(r:Rep X.K H0 d x)(T:Ty)
 (h : ∀J,Q (.bool (rX T d)) {s with toks:=J}):wpAny (fe X.prog X.w) A (call (.builtin "isinstance") [u,.type (N3 T)]) Q E s:=by
 cases d with
 | ft=>have e:=Vg (K:=X.K) T .ft;cases (show x = .ft from r);cases (show u=NH from O);exact NM PySem.W.kitx_none I.m6 Pu e (λz=>nomatch z) h
 | bl y=>have e:=Vg (K:=X.K) T<|.bl y;cases (show x = .bl y from r);cases (show u=Value.bool y from O);exact NM PySem.W.kitx_bool I.m6 Pu e (λz=>nomatch z) h
 | int i=>have e:=Vg (K:=X.K) T<|.int i;cases (show x = .int i from r);obtain⟨t,q⟩:=(show ∃t,u=Tb i t from O);cases q;exact NM PySem.W.kitx_int I.m6 Pu e (λz=>nomatch z) h
 | str y=>have e:=Vg (K:=X.K) T<|.str y;cases (show x = .str y from r);obtain⟨t,q⟩:=(show ∃t,u=Ta y t from O);cases q;exact NM PySem.W.kitx_str I.m6 Pu e (λz=>nomatch z) h
 | tup k=>
  have e:=Vg (K:=X.K) T<|.tup k;obtain⟨a,b,rfl,f,l⟩:=yq r;cases (show u=Oy a from O);obtain⟨m,B,⟨o,U,Y,_⟩,n⟩:=I.tuple<|nf sub f;exact NM PySem.W.kitx_tuple I.m6 ⟨o,U,Y⟩ e (λz=>nomatch z) h
 | lst k=>
  have e:=Vg (K:=X.K) T<|.lst k;obtain⟨a,b,rfl,f,l⟩:=gO r;cases (show u=Oy a from O);obtain⟨m,B,p,n⟩:=I.list<|sub.seq f;obtain⟨o,U,Y,_⟩:=p.isList;exact NM Td I.m6 ⟨o,U,Y⟩ e (λz=>nomatch z) h
 | l9 g j=>
  have e:=Vg (K:=X.K) T<|.l9 g j;obtain⟨a,b,rfl,⟨F,_,_,f⟩,_⟩:=(show ∃a b,x = .ref a/\Dn H0 a g b/\eA X.K H0 j b from r);exact ic I O (.dK<|sub _ _ f) e h
 | lU g j=>
  have e:=Vg (K:=X.K) T<|.lU g j;obtain⟨a,b,rfl,⟨_,o,G,f,l,_⟩,_⟩:=(show ∃a b,x = .ref a/\G5 X.K H0 a g b/\eA X.K H0 j b from r);cases (show u=Oy a from O);obtain⟨U,_⟩:=(show lN X.prog X.w H s.heap a (Uu a o)from I.gj a _<|sub _ _ f);exact NM Te I.m6 ⟨o,U,l.1.1⟩ e (λz=>nomatch z) h
theorem Cm(T:Ty)(h:SX X sc N L k)(c:vQ sc "isinstance" = d7)(z:X.mg "isinstance" = ed)(O:vQ sc ty=d7)(S:X.mg ty=ed)(J:A7 ty=dn (.type (N3 T)))(C:PV X a f)
 (Y:gu [a,.Name ty p2] X.env=[(eh,fh a X.env),(eh,fh (.Name ty p2) X.env)]:=by rfl):PV X (.Call (.Name "isinstance" p) [a,.Name ty p2] [] pos) (o5 T f):=by
 intro e s G H Q I ⟨i,F,d,rc,t,q⟩;obtain⟨l,n,o⟩:=zF t;subst o;refine Rx<|yT I (h.gl c).1 z PyProof.Rows.boot_isinstance ?_ ⋯ ⋯;refine SJ ?_ (by rw[Y];rfl) rfl;rw[Y];show wpAny _ _ (M3 ((eh,fh a X.env)::su pos [(eh,fh (.Name ty p2) X.env)])) _ _ s;refine RW<|f6 (C e s G H _ I ⟨i,F,l,rc,n,λv g b x r=>(show(λv g=>∃b,Ext i H b g/\Rep X.K b l v) v g from⟨b,x,r⟩)⟩) λu B w=>?_;obtain⟨x,j,U,y,m,x1,A⟩:=w;show wpAny _ _ (M3 ((eh,fh (.Name ty p2) X.env)::[])) _ _ B;refine RW<|yT U (h.gl O).1 S J ?_ (h.gl O).2.1 (h.gl O).2.2;refine Tq ?_;exact oT U x1.sub y A T λE=>⟨.bl _,j,U.tok E,rfl,q _ j m x1 rfl⟩
end
section
variable{X:Cx}{sc:ij}{N L:List Str}{k:Nat}{e a b c:e9}{pos p p2:hL}{f g:CO D}{fq:CO (Sk×List D)}
theorem jG(h:SX X sc N L k)(c:vQ sc "range" = d7)(z:X.mg "range" = ed)(C:PV X a f)(I:gu [a] X.env=[(eh,fh a X.env)]:=by rfl):i5 X tg (.Call (.Name "range" p) [a] [] pos) (z6 f):=cH (h.gl c).1 z C I
theorem nV(h:SX X sc N L k)(c:vQ sc "range" = d7)(z:X.mg "range" = ed)(C:PV X a f)(I:PV X b g)(O:gu [a,b] X.env=[(eh,fh a X.env),(eh,fh b X.env)]:=by rfl)(U:gu [b] X.env=[(eh,fh b X.env)]:=by rfl) :
 i5 X tg (.Call (.Name "range" p) [a,b] [] pos) (V0 f g):=cG (h.gl c).1 z C I O U
theorem vM(h:SX X sc N L k)(c:vQ sc "zip" = d7)(z:X.mg "zip" = ed)(C:PV X a f)(I:PV X b g)(O:gu [a,b] X.env=[(eh,fh a X.env),(eh,fh b X.env)]:=by rfl)(U:gu [b] X.env=[(eh,fh b X.env)]:=by rfl) :
 i5 X (.Tuple elts x1 tr) (.Call (.Name "zip" p) [a,b] [] pos) (Xo f g):=uA (h.gl c).1 z C I O U
theorem fK(h:SX X sc N L k)(c:vQ sc "isinstance" = d7)(z:X.mg "isinstance" = ed)(I:vQ sc "int" = d7)(O:X.mg "int" = ed)(C:PV X a f)
 (U:gu [a,.Name "int" p2] X.env=[(eh,fh a X.env),(eh,fh (.Name "int" p2) X.env)]:=by rfl):PV X (.Call (.Name "isinstance" p) [a,.Name "int" p2] [] pos) (o5 .int f):=Cm .int h c z I O PyProof.Rows.boot_int C U
theorem cu(h:SX X sc N L k)(c:vQ sc "isinstance" = d7)(z:X.mg "isinstance" = ed)(I:vQ sc "bool" = d7)(O:X.mg "bool" = ed)(C:PV X a f)
 (U:gu [a,.Name "bool" p2] X.env=[(eh,fh a X.env),(eh,fh (.Name "bool" p2) X.env)]:=by rfl):PV X (.Call (.Name "isinstance" p) [a,.Name "bool" p2] [] pos) (o5 .bool f):=Cm .bool h c z I O PyProof.Rows.boot_bool C U
theorem nK(C:PQ X a fq)(I : ∀z,Dz a X.env z=(do let v <- z;DC a.pos;sy [v] (F6 v)):=by intro _;rfl):m4 X a (tY fq):=
 Wa (nL C I) λn H Q O=>by
  obtain⟨j,l,t,rc,U,q⟩:=O;obtain⟨⟨h,b⟩,k,Y⟩:=zF U;subst Y;refine⟨j,l,h,b,rc,k,λp d i f ext g m r=>⟨!b.isEmpty,?_,q i f ext⟩⟩;have e:d.isEmpty=b.isEmpty:=by have:=r.length;cases d<;>cases b<;>simp_all
  rw[<- e];cases h with
  | L=>exact .inl ⟨d,g,rfl⟩
  | T=>exact .inr<|.inl ⟨d,g,rfl⟩
theorem Cj(C:PV X a f):PV X (.UnaryOp .USub a pos) (BI f):=
 qD (Hb Bm C) λk H Q z=>by obtain⟨h,j,d,rc,I,q⟩:=z;obtain⟨i,e,O⟩:=zF I;obtain⟨U,Y,e⟩:=zf e;subst O;refine⟨h,j,U,rc,Y,λv g b x r=>?_⟩;rw[j1 e]at r;exact⟨i,jF r,q _ g b x rfl⟩
theorem y9(i:Nat)(h:SX X sc N L k)(c:Yp sc N i x=d7)(C:PV X a f)(z:gu [a] X.env=[(eh,fh a X.env)]:=by rfl)
 (I:Uv (.Name x np) "append" X.env (fh (.Name x np) X.env)=fh (.Name x np) X.env:=by rfl)
 (O:((su cpos<|starEach [a] X.env).all (λx=> !x.1) && (Uw cpos<|keywordEach [] X.env).all (λx=>x.1.isSome)
   && decide ([a].length+([]:List D4).length+(if ([]:List D4).isEmpty then 0 else 1)<30))=d7:=by rfl)
 (U:(apos.endLine==cpos.line)=d7:=by rfl) (Y:C2 (.Call (.Attribute (.Name x np) "append" apos) [a] [] cpos) ed pos.line X.env=pure eh:=by rfl) :
 md X (.Expr (.Call (.Attribute (.Name x np) "append" apos) [a] [] cpos) pos) (qe i f):=
 cC i (CT PySem.F.plainAttrs_list PySem.F.slot_list_append PySem.F.type_list_append gI (h.var c) (jT C xj z) I O U z rfl) Y
theorem j7(i:Nat){st:k4}{f:CO (List D)}(h:PS X st (bX (tO X.K f)<|vg i)):md X st (jy i<|j3 f):=ye h λD t H O=>by obtain⟨E0,E,g,n,p,z,I,U⟩:=O;obtain⟨d,b,I⟩:=zF I;obtain⟨k,Y,b⟩:=zF b;subst I b;exact⟨g,n,k,z.rc,Y,λa s o j x l e m r=>U _ _ _<|(z.step<|x.show l e m z.rc.sub).yg (JR (gv.of zS)<|r.mono<|jr e _)⟩
theorem X'(i:Nat)(h:SX X sc N L k)(c:yU sc N L i y=d7)
 (z:X.calm=d7) (ok:rr X scope fr) (I : ∀i∈T.idx,i<own.length) (hi:r6 X tg iter src) (O : ∀fp J C,PG (jJ X scope (own++fr.map (·.1)) fp J C) tg<|qq X.K T)
 (U : ∀fp J C,PV (jJ X scope (own++fr.map (·.1)) fp J C) elt f) (Y : ∀x,o8 iter X.env x=pure x:=by intro _;rfl) :
 PS X (.Assign [.Name y py] (.ListComp elt [⟨tg,iter,[],0⟩] scope cpos) spos) (bX (tO X.K<|zM src T own.length (fr.map (·.2)) jd f)<|vg i):=by
 obtain⟨a,b,d⟩:=h.loc c;exact nR h.E5 a b d z ok I hi O U Y
theorem GY(i:Nat)(h:SX X sc N L k)(c:yU sc N L i y=d7)
 (z:X.calm=d7) (ok:rr X scope fr) (I : ∀i∈T.idx,i<own.length) (hi:r6 X tg iter src) (O : ∀fp J C,PG (jJ X scope (own++fr.map (·.1)) fp J C) tg<|qq X.K T)
 (U : ∀fp J C,m4 (jJ X scope (own++fr.map (·.1)) fp J C) DO kk) (Y : ∀fp J C,PV (jJ X scope (own++fr.map (·.1)) fp J C) elt f) (S : ∀x,o8 iter X.env x=pure x:=by intro _;rfl) :
 PS X (.Assign [.Name y py] (.ListComp elt [⟨tg,iter,[DO],0⟩] scope cpos) spos) (bX (tO X.K<|zM src T own.length (fr.map (·.2)) kk f)<|vg i):=by
 obtain⟨a,b,d⟩:=h.loc c;exact cD h.E5 a b d z ok I hi O U Y S
theorem YU(i:Nat)(h:SX X sc N L k)(c:Yp sc N i x=d7)(hi:PV X b g)(Z:PV X e f)
 (S : ∀v,t6 (.Subscript (.Name x np) b p) X.env v=(do
   let I <- sy [v] (fh (.Name x np) X.env);let Y <- sy [v,I] (fh b X.env)
   DC p
   sy [v,I,Y] (T8 I Y v)
   U7 [v,I,Y] []):=by intro _;rfl)
 (hs:M5 [.Subscript (.Name x np) b p] e pos.line X.env=pure eh:=by rfl) (hw:Uc [.Subscript (.Name x np) b p] e X.env=pure ed:=by rfl)
 (C:(xb [.Subscript (.Name x np) b p] X.env).map (·.2)=[t6 (.Subscript (.Name x np) b p) X.env]:=by rfl) :
 md X (.Assign [.Subscript (.Name x np) b p] e pos) (av i g f):=
 ye (aG Z (rQ (h.var c) hi aj S) hs hw C) λD σ H Q=>by obtain⟨E0,E,w,u,fl,t,z,y⟩:=Q;obtain⟨d,J,z⟩:=zf z;obtain⟨G,O,z⟩:=zf z;obtain⟨R,n,z⟩:=zf z;obtain⟨F,K,n⟩:=zf n;obtain⟨j,M,z⟩:=zF z;subst z;have O:=vj O;refine⟨w,u,d,t.rc,J,λv T l x r=>?_⟩;have m:=t.step x;obtain⟨a,xs,C,h2,P,o⟩:=m.rc.own i G O;refine⟨_,C,l,u,F,m.rc,K,λv2 W A U s=>?_⟩;rw[j1 n]at s;have B:=m.step U;refine⟨a,xs,R,j,rfl,jF s,U.s1 _ _ P,by rw[o.length];exact aY M,?_⟩;exact y _ _ A<|B.rewrite (xs:=xs) O C<|(o.mono U.s0).set j (r.mono U.s0)
theorem wF(O:PG X tg (qq X.K T))(U:PV X e f)(Y:M5 [tg] e pos.line X.env=pure eh:=by rfl)(J:Uc [tg] e X.env=pure ed:=by rfl)
 (C:(xb [tg] X.env).map (·.2)=[t6 tg X.env]:=by rfl):md X (.Assign [tg] e pos) (wy T f):=
 ye (aG U O Y J C) λD p H l=>by obtain⟨E0,E,h,m,o,I,z,i⟩:=l;obtain⟨d,j,z⟩:=zf z;obtain⟨n,k,z⟩:=zF z;subst z;refine⟨h,m,d,I.rc,j,λv g a x r=>?_⟩;exact w9 x.sub r k λb _ a4=>i b g a<|a4 E0 E<|I.step x
end
structure gR(P:i6)(w:h9)(K:MC)(mg:UZ)(base:gb)(k:Nat)(x:Str)(n:Nat)(F:List D->Option Res):Prop where
 ex : ∃(f:ej) (fd:p8) (ps:List Str),ps.length=n/\p6 P w K mg base qs k f fd ps (rp K ps.length F)/\mg x=dn (.ref f)/\RR K (.ref f)=d7/\Binds K fd ps []
structure hH(K:MC)(mg:UZ)(x:Str)(st:k4)(ps:List Str):Prop where
 ex : ∃(f:ej) (fd:p8),L2.Dp K x x st f fd/\(∀us:List el,us.length=ps.length->Ux fd ⟨us,[]⟩=pure (ps.zip us))/\mg x=dn (.ref f)
noncomputable def C9(X:Cx)(C:List e9)(n:Nat)(g:CO (List D)):Prop:=A6 X C g/\∀b a,g b=dn a->a.length=n
section
variable{X:Cx}{sc:ij}{N L:List Str}{k:Nat}{e:e9}{es:List e9}{f:CO D}{g:CO (List D)}{n:Nat}{pos p:hL}{x:Str}
theorem zm:C9 X [] 0 zB:=⟨uH,λb a h=>by cases h;rfl⟩
theorem za(C:PV X e f)(z:C9 X es n g)(I:gu (e::es) X.env=(eh,fh e X.env)::gu es X.env:=by rfl):C9 X (e::es) (n+1) (zb f g):=
 ⟨oi C z.1 I,λa b h=>by obtain⟨y,d,h⟩:=zf h;obtain⟨r,O,h⟩:=zF h;subst h;rw[MY,z.2 a r O]⟩
variable{j:Nat}{F:List D->Option Res}
theorem GX(z:gR X.prog X.w X.K X.mg X.base j x n F)(I:j<=k)(h:SX X sc N L k)(c:vQ sc x=d7)(C:C9 X (e::es) n g)
 (O:gu (e::es) X.env=(eh,fh e X.env)::gu es X.env:=by rfl) (U:(su pos<|starEach es X.env).any (·.1)=eh:=by rfl):PV X (.Call (.Name x p) (e::es) [] pos) (zA F g):=by
 obtain⟨i,l,m,f,G,d,Y,b⟩:=z.ex;subst f;exact ue (A0:=[]) G C.1 C.2 λ{t} a=>gi G (h.room.mono I) (h.gl c).1 d Y b .nil CY a (h.gl c).2.2 O U
theorem Ha(z:gR X.prog X.w X.K X.mg X.base j x n F)(I:j<=k)(h:SX X sc N L k)(c:vQ sc x=d7)(C:C9 X (e::es) n g)
 (O:gu (e::es) X.env=(eh,fh e X.env)::gu es X.env:=by rfl) (U:(su pos<|starEach es X.env).any (·.1)=eh:=by rfl):PO X (.Call (.Name x p) (e::es) [] pos) (jw F g):=by
 obtain⟨i,l,m,f,G,d,Y,b⟩:=z.ex;subst f;exact uy G C.1 C.2 λ{t} a=>gi G (h.room.mono I) (h.gl c).1 d Y b .nil CY a (h.gl c).2.2 O U
end
section
variable{P:i6}{w:h9}{K:MC}{mg:UZ}{base:gb}
noncomputable def px(N ps:List Str)(st:k4):Bool:=
 decide ((jY st).kind = .function) && decide ((jY st).isCoroutine=eh) && decide ((jY st).isGenerator=eh) && decide N.Nodup && decide (N.take ps.length=ps) &&
 ps.all (λx=>decide ((jY st).names.lookup x=dn .local) || decide ((jY st).names.lookup x=dn .cell)) && (jY st).names.all (λy=> !(y.2==NB))
theorem aq{N ps:List Str}{st:k4}(h:px N ps st=d7):D1 N ps (jY st):=by unfold px at h;simp only[MW,decide_eq_true_eq,Ot,tx,OR]at h;obtain⟨⟨⟨⟨⟨⟨a,b⟩,z⟩,I⟩,O⟩,U⟩,Y⟩:=h;exact⟨a,b,z,I,O,U,λy d e=>by have:=Y y d;rw[e]at this;exact absurd this ⋯⟩
theorem rR{X:Cx}(hx:X.xe=λ_ _=>False):O2 (fe X.prog X.w) X.A X.env X.xe:=by rw[hx];exact PassesOwn.never
theorem xT{x:Str}{st:k4}{N ps:List Str}{k:Nat}{F:CO Fl}(A:hH K mg x st ps)(C:px N ps st=d7)
 (I : ∀X:Cx,X.prog=P->X.w=w->X.K=K->X.mg=mg->X.base=base->SX X (jY st) N N k->X.xe=(λ_ _=>False)->mj X (yF st) F) :
 gR P w K mg base (k+1) x ps.length (jk N.length F):=by
 obtain⟨f,d,z,O,e⟩:=A.ex;have S:=aq C;refine⟨f,d,ps,rfl,EJ z S λb A a s H E U=>?_,e,z.kp,.all O⟩;exact I _ rfl rfl rfl rfl rfl ⟨rfl,rfl,S.nd,rfl,U,λ_ _=> .inl rfl⟩ rfl
theorem IY{h:gb}{x:Str}{st:k4}{ps:List Str}{f:ej}{Y:el}{Z J:Option ej}{O:Array (Option el)}{kV I L C ct:el}(z:K.In h)(G:h.Ns s9 mg)
 (a:PySem.W.nsIn K s9 x=dn (dn (.ref f))) (l:K.lookup f=dn ⟨Y,Z,.func<|Rp x x (QU st) (yF st) (jY st) .none kV I L J C ct,O⟩)
 (c:SE K C x=d7) (S:RR K (.ref f)=d7)
 (b : ∀(kV I L:el) (J:Option ej) (C ct:el) (us:List el),us.length=ps.length->Ux (Rp x x (QU st) (yF st) (jY st) .none kV I L J C ct) ⟨us,[]⟩=pure (ps.zip us)):hH K mg x st ps:=
 ⟨f,_,EI l c S,b kV I L J C ct,PySem.W.mg_of z G a⟩
theorem HD{x:Str}{st:k4}{f:ej}{C:p8}{N ps:List Str}{k:Nat}{F:CO Fl}(z:L2.Dp K x x st f C)(J:px N ps st=d7)
 (I : ∀X:Cx,X.prog=P->X.w=w->X.K=K->X.mg=mg->X.base=base->SX X (jY st) N N k->X.xe=(λ_ _=>False)->mj X (yF st) F) :
 p6 P w K mg base qs (k+1) f C ps (rp K ps.length<|jk N.length F):=by
 have S:=aq J;exact EJ z S λb A a s H E O=>I _ rfl rfl rfl rfl rfl ⟨rfl,rfl,S.nd,rfl,O,λ_ _=> .inl rfl⟩ rfl
theorem Gc{F:List D->Option Res}{H:Hp}{a:ej}{C:List Int}(z:gv K H a (C.map V.int))(I:F [.lst (C.map D.int)]=dn (.val<|.bl d7)) :
 rp K 1 F [.ref a] H (λv _=>v = .bl d7) λ_ _ _=>False:=by
 refine⟨H,[.lst (C.map D.int)],.val<|.bl d7,g8.refl _,eA.cons (JR z ?_) eA.nil,rfl,I,λv d b _ r=>r⟩;clear I z
 induction C with
 | nil=>exact eA.nil
 | cons n C O=>exact eA.cons rfl O
end
end DL
namespace DL
open PySem PySem.Spec PyProof.Rows L2
open PySem.W (KasT kas_sort kas_ask kat_run kat_snds kat_lt kat_cons kat_no kat_kind KatTups KatGo)
noncomputable def Fp(h:gb)(v:el)(k:Int):Prop:=∃x o a m t,v = .ref x/\h.get? x=dn o/\o.cls = .type "tuple"/\o.data = .seq a m/\a[0]? = dn (.int k t)
theorem gZ : ∀{vs:List el} {ks:Nat->Int},(∀i (hi:i<vs.length),Fp h vs[i] (ks i))->∃fs,KatTups h vs fs/\fs.length=vs.length/\∀f∈fs,∃k t,f=Tb k t
 | [],ks,_=>⟨[],KatTups.nil,rfl,λf z=>by cases z⟩
 | v::vs,ks,H=>by
  obtain⟨fs,d,e,I⟩:=gZ (vs:=vs) (ks:=λi=>ks<|i+1) λi hi=>H (i+1) (by simpa using hi);obtain⟨x,o,g,m,t,a,O,U,Y,b⟩:=H 0 ⋯;have a:v = .ref x:=a;subst a;exact⟨.int (ks 0) t::fs,KatTups.cons O U Y b d,by simp[e],λf z=>by
   rcases MS.mp z with rfl | z
   ·exact⟨_,_,rfl⟩
   ·exact I f z⟩
end DL
namespace DL
open PySem PySem.Spec PyProof.Rows L2
open AutoSeq1 (wpAny_loadPart')
theorem ZW:fillsNumberSlot (.type "tuple") "mul" = pure eh:=
 PySem.fillsNumberSlot_seq (id:="tuple.__mul__") (r:=dn (.builtin "tuple.__rmul__")) RN.lookup ⋯ F.slot_tuple_rmul.lookup ⋯
theorem YR:seqRepeat? (.type "tuple")=pure (dn (.builtin "tuple.__mul__")):=by unfold seqRepeat?;rw[PySem.seqSlot_of (T:="tuple") (name:="__mul__") (id:="tuple.__mul__") RN.lookup ⋯,PySem.seqSlot_of (T:="tuple") (name:="__rmul__") (id:="tuple.__rmul__") F.slot_tuple_rmul.lookup ⋯];rfl
theorem Xy(a:Int)(t:q7)(l:ej)(items:Array el)(n:Nat)(z:Option ej)(C:Array (Option el)) :
 DI (n5.«int.__rmul__» ⟨[.int a t,.ref l],[]⟩) (λ_ R s=>s.heap.get? l=dn {cls:= .type "tuple",dict:=z,data:= .seq items n,slots:=C}/\R (.ok (.ret Value.notImplemented)) s):=
 .of_wp λb w A R s h=>by obtain⟨I,g,d,O,os⟩:=s;obtain⟨U,h⟩:=h;wp_walk;exact⟨_,rfl,h⟩
theorem Km(a:Int)(t:q7)(l:ej)(items:Array el)(n:Nat)(I:Option ej)(S:Array (Option el))(C : ¬(decide (a < -(2 ^ 63)) || decide (a>=2 ^ 63))=d7)(J : ¬(items.isEmpty || a==1)=d7)
 (O : ¬(decide (a<=0) || items.isEmpty)=d7) (U : ¬((items.size:Int)*a>(2 ^ 63 - 1)/8)) (Y : ¬Builtin.Tuple.tupleTooMany ((items.size:Int)*a)=d7) (L:((MH a.toNat items).foldl (· ++ ·) #[]).size<=gm) :
 DI (n5.«tuple.__mul__» ⟨[.ref l,.int a t],[]⟩) (λ_ R s=>s.heap.get? l=dn {cls:= .type "tuple",dict:=I,data:= .seq items n,slots:=S}/\
  R (.ok (.ret (.ref s.heap.objs.size))) {s with heap:=s.heap.push {cls:= .type "tuple",data:= .seq ((MH a.toNat items).foldl (· ++ ·) #[])}}):=
 .of_wp λb w A R s h=>by
  obtain⟨e,g,d,f,os⟩:=s;obtain⟨z,h⟩:=h
  wp_walk using OX z
  rw[UY C];refine MA<|SI (s:=⟨e,g,d,f,os⟩) ⟨_,z,rfl,n,rfl⟩ ?_;dsimp only;rw[UY J,UY O,UY U,UY Y];refine MA (m:=OG _)<|Ox ?_ L;exact MN ⟨_,rfl,h⟩
theorem Xr(a:Int)(t:q7)(l:ej)(items:Array el)(n:Nat)(I:Option ej)(L:Array (Option el))(C : ¬(decide (a < -(2 ^ 63)) || decide (a>=2 ^ 63))=d7)(J : ¬(items.isEmpty || a==1)=d7)
 (O:(decide (a<=0) || items.isEmpty)=d7) :
 DI (n5.«tuple.__mul__» ⟨[.ref l,.int a t],[]⟩) (λ_ R s=>s.heap.get? l=dn {cls:= .type "tuple",dict:=I,data:= .seq items n,slots:=L}/\
  R (.ok (.ret (.ref s.heap.objs.size))) {s with heap:=s.heap.push {cls:= .type "tuple",data:= .seq #[]}}):=
 .of_wp λb w A R s h=>by
  obtain⟨U,g,d,Y,os⟩:=s;obtain⟨z,h⟩:=h
  wp_walk using OX z
  rw[UY C];refine MA<|SI (s:=⟨U,g,d,Y,os⟩) ⟨_,z,rfl,n,rfl⟩ ?_;dsimp only;rw[UY J,UJ O];refine MA (m:=OG _)<|Ox ?_ (NY _);exact MN ⟨_,rfl,h⟩
theorem Xq(a:Int)(t:q7)(l:ej)(items:Array el)(n:Nat)(I:Option ej)(L:Array (Option el))(C : ¬(decide (a < -(2 ^ 63)) || decide (a>=2 ^ 63))=d7)(J:(items.isEmpty || a==1)=d7) :
 DI (n5.«tuple.__mul__» ⟨[.ref l,.int a t],[]⟩) (λ_ R s=>s.heap.get? l=dn {cls:= .type "tuple",dict:=I,data:= .seq items n,slots:=L}/\R (.ok (.ret (.ref l))) s):=
 .of_wp λb w A R s h=>by
  obtain⟨O,g,d,U,os⟩:=s;obtain⟨z,h⟩:=h
  wp_walk using OX z
  rw[UY C];refine MA (SI (s:=⟨O,g,d,U,os⟩) ⟨_,z,rfl,n,rfl⟩ ?_);dsimp only;rw[UJ J];refine MA (m:=Pq _) ?_;unfold Pq;refine MA (So (T:="tuple") ⟨_,z,rfl⟩ (MN ?_));rw[UJ ⋯];exact MA (Rm (MN ⟨_,rfl,h⟩))
section
variable{X:Cx}
noncomputable def Cb(K:MC):R2:=λx y H Q=>∃l k a,x = .ref l/\y = .int k/\hB K H l a/\ -(2 ^ 62)<=k/\k<2 ^ 62/\a.length*k.toNat<=gm/\(a=[]\/k=1->Q (.ref l) H)/\
 ∀p,H p=ed->Q (.ref p) (upd H p<|.tup (MH k.toNat a).flatten)
theorem uI:i9 X (t7 .Mult) (Cb X.K):=by
 intro E s σ H x y v u Q I rx ry h;obtain⟨l,k,J,rfl,rfl,R,h1,h2,C,Z,G⟩:=h;cases rx;obtain⟨t,rfl⟩:=ry;obtain⟨z,r,S,z1⟩:=I.tuple R;obtain⟨⟨P,a,j,b⟩,O,w,n,A⟩:=id S;simp only at w A;subst w A;have L:=r.length;have g1 : ¬(decide (k < -(2 ^ 63)) || decide (k>=2 ^ 63))=d7:=by simp;omega
 refine _j (T:="tuple") (U:="int") ⋯ ⟨_,O,rfl⟩ (λs'=>TL s' k t) ZW F.fills_int_mul SS YR F.slot_int_index.lookup
  (RJ SS (TL s k t) F.entry_int_rmul (F.args_int_rmul_2 _ _) (Xy k t l z.toArray n a b) ⟨O,rfl,⟨_,O,rfl⟩,?_⟩)
 have p : ∀m:Nat,Tr (λx1 i=>x1++i) #[] (MH m z.toArray)=(MH m z).flatten.toArray:=λm=>by have:=QQ z m [];rw[Ri]at this;exact this
 by_cases g2:(z.toArray.isEmpty || k==1)=d7
 ·refine RJ RN ⟨_,O,rfl⟩ TH (Tw _ _) (Xq k t l z.toArray n a b g1 g2) ⟨O,⟨.ref l,H,I,rfl,Z ?_⟩⟩
  rw[tx]at g2;rcases g2 with g | g
  ·left
   have:z=[]:=by simpa using g
   exact(r.L3).mp this
  ·right;simpa using g
 ·have d:=g2
  simp only[tx,not_or]at d;have M:z ≠ []:=by intro e;exact d.1 (by rw[e];rfl)
  have b5:0<z.length:=List.length_pos_iff.mpr M;by_cases Y:(decide (k<=0) || z.toArray.isEmpty)=d7
  ·have B:k.toNat=0:=by
    rw[tx]at Y;rcases Y with g | g
    ·have:=of_decide_eq_true g;omega
    ·exact absurd g d.1
   refine RJ RN ⟨_,O,rfl⟩ TH (Tw _ _) (Xr k t l z.toArray n a b g1 g2 Y) ⟨O,?_⟩;refine⟨.ref s.heap.objs.size,_,I.laid (t':=s.toks) (o:= .tup (MH k.toNat J).flatten) (λc W q=>ME _ q) (MM _) ?_,rfl,G _<|I.gj.fresh<|MM _⟩;rw[B];exact⟨NY _,[],.nil,wh.new _ _⟩
  ·have B : ¬k<=0:=by intro g;exact Y (by rw[tx];exact .inl<|decide_eq_true g)
   have f:z.length*k.toNat<=gm:=by rw[<- L];exact C
   have b6:((z.toArray.size:Nat):Int)*k<=(gm:Int):=by
    rw[MR];have e:((z.length*k.toNat:Nat):Int)=(z.length:Int)*k:=by rw[Int.natCast_mul,G9 ⋯]
    omega
   have b7:gm=16777216:=PU;have N:(Tr (λx1 i=>x1++i) #[] (MH k.toNat z.toArray)).size<=gm:=by rw[p,MR,Wq,SK];exact f
   refine RJ RN ⟨_,O,rfl⟩ TH (Tw _ _) (Km k t l z.toArray n a b g1 g2 Y ⋯ (by unfold Builtin.Tuple.tupleTooMany;simp only[decide_eq_true_eq];omega) N) ⟨O,?_⟩;rw[p];refine⟨.ref s.heap.objs.size,_,I.laid (t':=s.toks) (o:= .tup (MH k.toNat J).flatten) (λc W q=>ME _ q) (MM _) ?_,rfl,G _<|I.gj.fresh<|MM _⟩;exact⟨by rw[Wq,SK];exact C,_,r.rep k.toNat,wh.new _ _⟩
theorem tL{K:MC}:n7 K (λx y H Q=>rI DG (λi j=> .int (i*j)) x y H Q\/Cb K x y H Q) yG:=λh H x y k l d Q s O U z q=>by
 cases k<;>cases l<;>simp[yG]at z
 ·obtain⟨m,I⟩:=z
  subst I;exact .inl ⟨_,_,jF O,jF U,pI m,q _ H h (Ext.refl s) rfl⟩
 ·rename_i f j
  obtain⟨⟨o,n⟩,rfl⟩:=z;obtain⟨a,u,rfl,g,b⟩:=yq O;obtain⟨r,t⟩:=QK n;refine .inr ⟨a,j,u,rfl,jF U,nf s g,r,t,yC (by rw[b.length];exact o),λe=>?_,λp Y=>?_⟩
  ·refine q _ H h (Ext.refl s) ?_
   rcases e with e | e
   ·have I:f=[]:=by
     have:=b.length;rw[e]at this;exact NL this.symm
    subst I;rw[show(MH j.toNat ([]:List D)).flatten=[]by simp];exact ki g b
   ·subst e
    rw[show(MH (1:Int).toNat f).flatten=f by simp];exact ki g b
  ·exact q _ _ _ (Ext.alloc s Y _)<|ki (hB.of zS)<|(Kw b _).mono (jr (jA s Y) _)
theorem xH(C:PV X a fa)(z:PV X b fb):PV X (.BinOp a .Mult b pos) (zG yG fa fb):=XN (W_.or uI) tL C z
end
end DL
namespace DL
open PySem PySem.Spec PyProof.Rows L2
theorem RC.R_{K:MC}{H0 H:Hp}{L:St}{γ:Ctx}{i:Nat}{ds:List D}{a:ej}{xs:List V}(r:RC K H0 H L γ)(e:γ[i]? = dn (.own ds))(J:L[i]? = dn (dn (.ref a)))(C:H0 a=ed)(S:H a=dn (.lst xs))(Z:eA K H0 ds xs):RC K (L2.upd H0 a<|.lst xs) H L (γ.set i<|.val<|.lst ds):=by
 refine⟨λb o q=>?_,by simp[r.len],λj d g=>?_,λj l g=>?_,λj k b l fs f I t u=>?_,⟨λj h g=>?_,λj k x y f I=>?_⟩⟩
 ·by_cases z:b=a
  ·subst z;rw[zS]at q;rw[S];exact q
  ·rw[zN z]at q;exact r.sub b o q
 ·rcases zI g with⟨rfl,z,E⟩ | ⟨U,z⟩
  ·cases z;exact⟨_,J,JR (gv.of zS)<|Z.mono<|jr C _⟩
  ·obtain⟨v,Y,g2⟩:=r.val j d z
   exact⟨v,Y,g2.mono<|jr C _⟩
 ·rcases zI g with⟨_,z,_⟩ | ⟨U,z⟩
  ·cases z
  ·obtain⟨b,A,Y,g2,g3,w⟩:=r.own j l z
   refine⟨b,A,Y,?_,g3,w.mono<|jr C _⟩;rw[zN (λq=>U<|r.ne j i a l ds z e (by rw[Y,q]) J)];exact g2
 ·rcases zI f with⟨_,z,_⟩ | ⟨U,O⟩
  ·cases z
  ·rcases zI I with⟨_,z,_⟩ | ⟨B,n⟩
   ·cases z
   ·exact r.ne j k b l fs O n t u
 ·rcases zI g with⟨_,z,_⟩ | ⟨U,z⟩
  ·cases z
  ·obtain⟨b,bs,f1,f2,p⟩:=r.nj.1 j h z
   have s:=p i ds a e J;refine⟨b,bs,f1,f2.move (jr C _) (λc m=>by rw[zN (λq=>s<|by rw[<- q];exact m)];exact(f2.at m).1)<|λc m=>rfl,λk fs c f I=>?_⟩;rcases zI f with⟨_,z,_⟩ | ⟨_,O⟩
   ·cases z
   ·exact p k fs c O I
 ·rcases zI f with⟨_,z,_⟩ | ⟨_,O⟩
  ·cases z
  ·rcases zI I with⟨_,z,_⟩ | ⟨_,n⟩
   ·cases z
   ·exact r.nj.2 j k x y O n
end DL
namespace L2
open PySem PySem.Spec PyProof.Rows
open AutoSeq1 (wpAny_loadPart')
section
variable{prog:i6}{w:h9}{A:mu}{E:EQ}{s:eK}
theorem dg{z it l:ej}{n:Nat}{xs:Array el}{x U:el}{Q:EQ}(J:uf s.heap z it n U)(S:iW .T s.heap it l n)(hl:k0 .T s.heap l xs)(hx:xs[n]? = dn x)(C:z≠it)
 (Z : ∀g,N9 g z it ((n:Int)+1) x s.heap.objs.size->iW .T g it l (n+1)->n9 g s.heap.objs.size (.int n s.toks) x->g.objs.size=s.heap.objs.size+1->
   (∀c o,c≠z->c≠it->s.heap.get? c=dn o->g.get? c=dn o)->Q (.ref s.heap.objs.size) {s with heap:=g,toks:=s.toks+1}) :
 wpAny (fe prog w) A (n5.«enumerate.__next__» ⟨[.ref z],[]⟩) (λL s'=>∃v,L = .done (.ret v)/\Q v s') E s:=by
 refine MA (m:=field (.ref z) 2) (NJ J rfl (x:= .ref it) rfl ?_);refine MA (m:=MZ (.ref it)) (xw S hl hx λg1 K f=>?_);have h:uf g1 z it n U:=f.extBut _ _ C J;refine MA (m:=field (.ref z) 3) (NJ h rfl (x:=xr n) rfl ?_);refine MA (m:=field (.ref z) 4) (NJ h rfl (x:= .none) rfl ?_);refine MA (m:=mkInt n) (wpAny_mkInt ?_);refine MA (m:=T7 (.ref z) 3 (xr ((n:Int)+1))) (NP h ⋯ λg2 o9 i=>?_);replace o9:uf g2 z it ((n:Int)+1) U:=o9;refine MA (m:=T7 (.ref z) 4 .none) (NP o9 ⋯ λY j k=>?_);replace j:uf Y z it ((n:Int)+1) U:=j;refine MA (m:=U3 [.int n s.toks,x]) (Sw ?_);have d:uf (Y.push {cls:= .type "tuple",data:= .seq #[.int n s.toks,x]}) z it ((n:Int)+1) U:=ME _ j;generalize a3:Y.push {cls:= .type "tuple",data:= .seq #[.int n s.toks,x]}=O at d;have y1:g1.objs.size=s.heap.objs.size:=f.1;have y2:g2.objs.size=g1.objs.size:=i.1;have y3:Y.objs.size=g2.objs.size:=k.1;have a:Y.objs.size=s.heap.objs.size:=by rw[y3,y2,y1]
 have M:z<s.heap.objs.size:=Na J;have N:n9 O s.heap.objs.size (.int n s.toks) x:=by show O.get? _=_;rw[<- a3,<- a];exact MV _ rfl
 have y4:O.objs.size=s.heap.objs.size+1:=by rw[<- a3,Nz,a]
 have bl : ∀c o,c≠z->c≠it->s.heap.get? c=dn o->O.get? c=dn o:=λc o I u e=>by rw[<- a3];exact ME _<|k.extBut _ _ I<|i.extBut _ _ I<|f.extBut _ _ u e
 have P:iW .T O it l (n+1):=K.at λo e=>by rw[<- a3];exact ME _<|k.extBut _ _ C.symm<|i.extBut _ _ C.symm e
 refine MA (m:=Nn<|.ref z) ?_;unfold Nn;refine MA<|NJ d rfl (x:= .none) rfl<|MN ?_;simp only[if_true];refine MA<|Rm<|MA<|NJ d rfl (x:=U) rfl ?_;refine MA<|NP d ⋯ λy p F=>?_;replace p:uf y z it ((n:Int)+1) x:=p;rw[a];refine MA (m:=Oa (.ref z)<|.ref s.heap.objs.size) ?_;unfold Oa;refine MA<|NP p ⋯ λg6 r G=>?_;replace r:N9 g6 z it ((n:Int)+1) x s.heap.objs.size:=r;refine NP r ⋯ λb t H=>?_;replace t:N9 b z it ((n:Int)+1) x s.heap.objs.size:=t;have B : ∀c o,c≠z->O.get? c=dn o->b.get? c=dn o:=λc o I e=>H.extBut _ _ I<|G.extBut _ _ I<|F.extBut _ _ I e;have y7:b.objs.size=s.heap.objs.size+1:=by have R:y.objs.size=O.objs.size:=F.1;have W:g6.objs.size=y.objs.size:=G.1;have X:b.objs.size=g6.objs.size:=H.1;rw[X,W,R,y4]
 exact MA<|PR<|MN ⟨_,rfl,Z b t (P.at λo e=>B _ o C.symm e) (B _ _ (OF M) N) y7 λc o I u e=>B c o I<|bl c o I u e⟩
theorem iG{z it l:ej}{n:Nat}{xs:Array el}{I:el}{Q:Fin->eK->Prop}(O:A.handled=ed)(U:uf s.heap z it n I)(C:iW .T s.heap it l n)(Y:k0 .T s.heap l xs)(hx:xs[n]? = ed)
 (J : ∀g e,Heap.ExtBut it s.heap g->(∃o,g.get? e=dn o/\o.cls = .type "StopIteration")->E (.ref e) {s with heap:=g}) :
 wpAny (fe prog w) A (n5.«enumerate.__next__» ⟨[.ref z],[]⟩) Q E s:=
 MA (m:=field (.ref z) 2) (NJ U rfl (x:= .ref it) rfl<|MA (m:=MZ<|.ref it)<|vz O C Y hx J)
end
noncomputable def Ap(i:ej):m3:={cls:= .type "enumerate",data:= .fields #[.none,.bool eh,.ref i,xr 0,.none,.none]}
def QT(h:gb)(l:ej):gb:=Nd (Nd h<|h8 .T l)<|Ap h.objs.size
theorem iF(l:ej)(xs:Array el) :
 DI (n5.«enumerate.__new__» ⟨[.type "enumerate",.ref l],[]⟩) (λ_ R s=>k0 .T s.heap l xs/\R (.ok (.ret (.ref (s.heap.objs.size+1)))) {s with heap:=QT s.heap l}):=
 .of_wp λb w A R s h=>by
  obtain⟨U,g,d,Y,os⟩:=s;obtain⟨f,h⟩:=h;have i:=sub_enumerate;have z:Heap.IsTuple (Sj ⟨U,g,d,Y,os⟩) l xs:=f;obtain⟨o,I,O,m,a⟩:=id z;obtain⟨e,lU,j,k⟩:=o;simp only at O a;subst O a;simp only[QT,Ap,h8,Nz]at h
  wp_walk using OX I
  refine wpAny_stack_any λst=>MN ?_;split
  ·rename_i c _ _ _ _ _
   cases (c==Ro "enumerate")<;>(wp_walk using OX I,Sq z;exact⟨_,rfl,by simpa[Nz,RX]using h⟩)
  ·wp_walk using OX I,Sq z
   exact⟨_,rfl,by simpa[Nz,RX]using h⟩
noncomputable def Ol(K:MC)(a:ej):It:=
 ⟨λi H=>∃b,i7 .T K H a b/\i<b.length,
  λi H x d=>∃p u,x = .ref p/\H p=ed/\d=upd H p (.tup [.int i,u])/\(∀b,i7 .T K H a b->b[i]? = dn u),
  λi H=>∃b,i7 .T K H a b/\b.length<=i⟩
theorem wW(U:uf s.heap z it n old)(h:Q (.ref z) s):wpAny (fe prog w) A (M0 (.ref z)) Q E s:=by have I:s.TypeIs (.ref z) "enumerate":=⟨_,U,rfl⟩;refine wpAny_pyIter_slot I F.slot_enumerate_iter (Ow F.slot_enumerate_iter I F.entry_enumerate_iter ?_ (F.args_enumerate_iter_1 _));have O:wpAny (fe prog w) A.in1 (ret (.ref z)) (λO a=>∃v,O = .done (.ret v)/\∃T m,a.TypeIs v T/\N4 (.type T) "__next__" = pure (dn m)/\Q v a) E s:=MN ⟨_,rfl,"enumerate",_,I,G8.lookup,h⟩;exact O
theorem dX{P:i6}{w:h9}{K:MC}{elts:List e9}{x1:Nat}{tr:hL}{z it a:ej}(ap:z≠it) :
 Turn P w K (.Tuple elts x1 tr) (Ol K a) [z,it] z (λi h=>(∃a0,uf h z it i a0)/\iW .T h it a i) where
 mem:=by simp
 obj:=λi h ⟨⟨a0,O⟩,h1⟩ y hy=>by
  simp only[MS,Nu,or_false]at hy;rcases hy with rfl | rfl
  ·exact⟨_,O,λv q=>by cases q⟩
  ·exact h1.obj
 keep:=λi h h' ⟨⟨a0,O⟩,h1⟩ k=>⟨⟨a0,k z ⋯ _ O⟩,h1.at λo e=>k it ⋯ o e⟩
 item:=by
  rintro X hP hw hK hc i pins s σ H E I hf ⟨⟨a0,O⟩,h1⟩ ⟨xs,a8,ax⟩;subst hP hw hK;obtain⟨b0,ak,p1,z1⟩:=I.sq a8;have hx:xs[i]? = dn xs[i]:=MF ax;obtain⟨u1,b6,b7⟩:=ak.get hx;have hT:s.TypeIs (.ref z) "enumerate":=⟨_,O,rfl⟩;unfold Dh;refine MA (Rw (Od (name:=NK "__next__") hT G8 (Ow G8 hT F.entry_enumerate_next
   (dg O h1 p1 (x:=u1) (by simpa using b6) ap λg a1 a2 a3 a4 a5=>MN ⟨_,rfl,?_⟩) (F.args_enumerate_next_1 _))))
  refine _l a1 λg2 o9 an=>?_;have lt : ∀{c o},s.heap.get? c=dn o->s.heap.objs.size≠c:=λe=>OF<|Na e;have be:n9 g2 s.heap.objs.size (.int i s.toks) u1:=an.extBut _ _ (lt O) a3;have kk : ∀Y u,Y ∉ [z,it]->s.heap.get? Y=dn u->g2.get? Y=dn u:=λY u U e=>by simp only[MS,Nu,or_false,not_or]at U;exact an.extBut _ _ U.1<|a5 Y u U.1 U.2 e
  have I1:Inv X pins σ (upd H s.heap.objs.size<|.tup [.int i,xs[i]]) {s with heap:=g2,toks:=s.toks+1}:=
   I.N1 (fp:=[z,it]) kk hf (MM _) ⟨by show 2<=gm;decide,[.int i s.toks,u1],.cons ⟨_,rfl⟩<|.cons b7 .nil,⟨_,be,rfl,_,rfl⟩⟩
  have bg:H s.heap.objs.size=ed:=I.fresh;refine⟨.ref s.heap.objs.size,_,I1,rfl,⟨_,_,rfl,bg,rfl,λc0 bi=>by rw[I.DY bi a8];exact hx⟩,?_,λY U=>?_⟩
  ·exact⟨⟨_,by have:=o9;rwa [show((i:Int)+1)=((i+1:Nat):Int)by omega]at this⟩,a2.at λo e=>an.extBut _ _ ap.symm e⟩
  ·have bl:Y≠s.heap.objs.size:=by
    simp only[MS,Nu,or_false]at U;rcases U with rfl | rfl
    ·exact(lt O).symm
    ·obtain⟨o,e,_⟩:=h1.obj;exact(lt e).symm
   rw[zN bl];exact(hf Y U).1
 done:=by
  rintro X hP hw hK hc i pins s σ H E I hf ⟨⟨a0,O⟩,h1⟩ ⟨xs,a8,hi⟩;subst hP hw hK;obtain⟨b0,ak,p1,z1⟩:=I.sq a8;have hT:s.TypeIs (.ref z) "enumerate":=⟨_,O,rfl⟩;have l1:=ak.length;unfold Dh;refine MA (Rw (Od (name:=NK "__next__") hT G8 (Ow G8 hT F.entry_enumerate_next
   (iG (show X.A.handled=ed from I.ok.hd hc) O h1 p1 (by simp;omega) λg e hk he=>?_) (F.args_enumerate_next_1 _))))
  obtain⟨o,ho,bv⟩:=he;refine MA (TQ (T:="StopIteration") (b:=d7) ⟨o,ho,bv⟩ UM (MN ⟨rfl,?_⟩));refine I.C5 (t':=s.toks) (fp:=[z,it]) (λY u U e=>?_) hf;simp only[MS,Nu,or_false,not_or]at U;exact hk Y u U.2 e
 self:=λ_ _ _ _ _ st h=>wW st.1.choose_spec h
noncomputable def Hy(K:MC)(C:TA):TI:=λf H R=>C f H λd b=>∃a,d=[.ref a]/\(∃e,i7 .T K b a e)/\R (Ol K a) b
theorem uD{X:Cx}{L:e9}{S:TA}{p pos:hL}{C:List e9}{x1:Nat}{J:hL}(hg:Gl X "enumerate")(hm:X.mg "enumerate" = ed)(Z:PA X [L] S)
 (hv:A7 "enumerate" = dn (.type "enumerate")) (hs:gu [L] X.env=[(eh,fh L X.env)]:=by rfl) :
 PI X (.Tuple C x1 J) (.Call (.Name "enumerate" p) [L] [] pos) (Hy X.K S):=by
 intro d s i H R I h;refine DH<|yT I hg hm hv<|Ob (f6 (Z pos d s i H _ I h) λA b r=>?_) (by rw[hs];rfl) rfl;obtain⟨B,f,z,u,t⟩:=r;obtain⟨a,e,⟨G,k⟩,q⟩:=t;subst e;obtain⟨E,n,l⟩:=vJ u;subst n;cases l;obtain⟨m,x,U,M⟩:=z.sq k;have y:=U.lt;refine Uz F.called_enumerate ⋯ (F.typeCall_enumerate_1 _) (F.newCall_enumerate_1 _) (λobj=>F.args_object_init_2 obj _) F.entry_enumerate_new (iF a m.toArray) ⟨U,?_⟩;have keep : ∀c o,b.heap.get? c=dn o->(QT b.heap a).get? c=dn o:=λc o e=>ME _<|ME _ e;have w:(Nd b.heap<|h8 .T a).objs.size=b.heap.objs.size+1:=Nz ..;have g0:iW .T (QT b.heap a) b.heap.objs.size a 0:=(ZL .T b.heap a).at λo e=>ME _ e;have O:uf (QT b.heap a) (b.heap.objs.size+1) b.heap.objs.size 0 .none:=by have q:=MV (Nd b.heap<|h8 .T a) (o:=Ap b.heap.objs.size) rfl;rw[w]at q;exact q
 refine⟨⟨_,O,rfl⟩,wW (s:={b with heap:=QT b.heap a}) O ?_⟩;have j:Inv X d i f {b with heap:=QT b.heap a,toks:=b.toks}:=z.kept keep;refine⟨_,[b.heap.objs.size+1,b.heap.objs.size],_,_,f,rfl,j,dX<|OF<|OM _,⟨⟨_,O⟩,g0⟩,λc Y=>?_,q⟩;have g:b.heap.objs.size<=c:=by
  simp only[MS,Nu,or_false]at Y;rcases Y with rfl | rfl
  ·exact Nv _ _
  ·exact MM _
 exact z.B4 g<|z.gj.fresh g
end L2
namespace DL
open PySem PySem.Spec PyProof.Rows L2
theorem QG{K:MC}{H:Hp} : ∀{ds:List D} {xs:List V} {l:List Int},eA K H ds xs->KR ds=dn l->xs=l.map V.int
 | [],xs,l,r,e=>by cases e;rw[show xs=[]from r];rfl
 | d::ds,xs,l,r,e=>by
  obtain⟨x,g,rfl,z,b⟩:=(show ∃x r,xs=x::r/\Rep K H d x/\eA K H ds r from r);cases d with
  | int i=>
   obtain⟨f,a,rfl⟩:=zF (show(KR ds).map (λl=>i::l)=dn l from e);rw[QG b a,show x = .int i from z];rfl
  | _=>cases e
theorem QR : ∀l:List Int,(l.map V.int).all KW=d7
 | []=>rfl
 | i::l=>by simp only[Nk,Ss,QR l,Sv];rfl
theorem Wz(i:Int) : ∀l:List Int,I9 (.int i) (l.map V.int)=decide (i∈l)
 | []=>rfl
 | j::l=>by
  have z:=Wz i l;unfold I9 at z ⊢;rw[Nk,Sr,z];have e:B3 (.int j) (.int i)=(j==i):=rfl;rw[e];by_cases h:i=j
  ·subst h
   rw[beq_self_eq_true,Bool.true_or];exact(decide_eq_true MX).symm
  ·rw[beq_false_of_ne (Ny h),Bool.false_or]
   exact decide_eq_decide.mpr ⟨λq=>MT _ q,λq=>(MS.mp q).resolve_left h⟩
theorem dM{K:MC}{H0 C:Hp}{a:ej}{xs:List V}{ds:List D}(h:hB K C a xs)(r:eA K H0 ds xs):Walk K H0 C (Ol K a) (xG ds):=by
 have n:=r.length;have o:(xG ds).length=ds.length:=by simp[xG]
 refine⟨λi b s l=>?_,λb s=>?_,λi b x g s l y=>?_⟩
 ·exact⟨xs,nf s h,by omega⟩
 ·exact⟨xs,nf s h,by omega⟩
 ·obtain⟨p,u,j,z,I,O⟩:=y
  obtain⟨d,k,U⟩:=r.xg<|O xs<|nf s h;refine⟨.tup [.int i,d],?_,λf m e=>⟨upd f p<|.tup [.int i,u],?_,?_⟩⟩
  ·have Y:i<ds.length:=by omega
   unfold xG;rw[Nw,OT Y,MP,k];rfl
  ·rw[I];exact Ext.alloc e z _
  ·rw[j]
   exact ki (hB.of zS)<|eA.cons (show V.int i = .int i from rfl)<|eA.cons ((U.mono m).mono (jr (jA e z) _)) eA.nil
section
variable{X:Cx}{sc:ij}{N L:List Str}{k:Nat}{a b c:e9}{pos p:hL}{f fa fb fc:CO D}
theorem fV(h:SX X sc N L k)(c:vQ sc "enumerate" = d7)(z:X.mg "enumerate" = ed)(C:PV X a f)(O:gu [a] X.env=[(eh,fh a X.env)]:=by rfl) :
 i5 X (.Tuple elts x1 tr) (.Call (.Name "enumerate" p) [a] [] pos) (ck f):=
 KD (uD (h.gl c).1 z (jT C xj O) F_ O) λs H R Y=>by
  obtain⟨g,m,n,rc,I,q⟩:=Y;obtain⟨d,j,I⟩:=zf I;cases d with
  | tup o=>
   cases I;refine⟨g,m,_,rc,j,λv e b x r=>?_⟩;obtain⟨i,l,rfl,U,g2⟩:=yq r;exact⟨i,rfl,⟨l,nf x.sub U⟩,q _ e b x<|dM U g2⟩
  | _=>cases I
theorem aE(ho:i9 X (oe op) r)(C:i9 X (oe FG) r')(s1:n7 X.K r F)(s2:n7 X.K r' G)(S:PV X a fa)(Z:PV X b fb)(hc:PV X c fc)
 (hm:Se [op,FG] [b,c]=eh:=by with_unfolding_all rfl):PV X (.Compare a [op,FG] [b,c] pos) (kH F G fa fb fc):=
 qD (nZ ho C S Z hc hm) λσ H Q M=>by
  obtain⟨j,e,d,rc,I,q⟩:=M;obtain⟨x,w,I⟩:=zf I;obtain⟨y,A,I⟩:=zf I;obtain⟨k,B,I⟩:=zf I;obtain⟨Y,E,g⟩:=zf B;refine⟨j,e,x,rc,w,λW H1 p x1 N=>⟨p,e,y,rc.ext x1,A,λi l s O h=>s1 s l W i x y Y _ O.sub (N.mono O.s0) h E λv3 m f x3 P=>?_⟩⟩;cases Y with
  | bl k'=>
   cases g;refine⟨k,show v3 = .bl k from P,?_⟩;cases k with
   | true=>
    rw[UJ rfl];rw[UJ rfl]at I;obtain⟨z,J,L⟩:=zf I;exact⟨f,e,z,((rc.ext x1).ext O).ext x3,J,λv4 n t U R=>s2 t n i v4 y z d _ U.sub ((h.mono x3.s0).mono U.s0) R L λv5 o u x5 T=>q v5 o u (((x1.trans O).trans x3).trans (U.trans x5)) T⟩
   | false=>
    rw[UY ⋯];rw[UY ⋯]at I;cases I;exact q _ m f ((x1.trans O).trans x3) rfl
  | _=>cases g
theorem Cn(C:PV X a fa){g:CO (Sk×List D)}(U:PQ X b g)(J:u4 .In b=eh:=by with_unfolding_all rfl):PV X (.Compare a [.In] [b] pos) (GP fa g):=
 qD (gh gw C U J) λM H Q Y=>by
  obtain⟨k,j,d,rc,z,q⟩:=Y;obtain⟨x,s,z⟩:=zf z;obtain⟨⟨h,o⟩,t,z⟩:=zf z;obtain⟨i,u,z⟩:=zf z;obtain⟨l,w,rfl⟩:=zF z;refine⟨k,j,x,rc,s,λO E m x1 I=>⟨m,j,h,o,rc.ext x1,t,λp G e n B f F r=>?_⟩⟩;rw[j1 u]at I;have y:=QG r w;subst y;have A:gv X.K e p (l.map V.int)\/hB X.K e p (l.map V.int):=by
   cases h with
   | L=>exact .inl f
   | T=>exact .inr f
  refine⟨p,_,rfl,A,by rw[show O = .int i from I];rfl,QR l,?_⟩;rw[show O = .int i from I,Wz];exact q _ e n (x1.trans B) rfl
end
theorem we : ∀{l:List Int} {us:List el},f9 (l.map V.int) us->∀i,i<us.toArray.size->∃z u,us.toArray[i]? = dn (.int z u)/\l[i]? = dn z
 | [],us,r,i,hi=>by cases r;exact absurd hi<|Nx _
 | z::l,u::us,.cons r t,i,hi=>by
  cases i with
  | zero=>
   obtain⟨I,rfl⟩:=r;exact⟨z,I,by simp,by simp⟩
  | succ i=>
   obtain⟨O,U,a,Y⟩:=we t i (by simpa using hi);exact⟨O,U,by simpa using a,by simpa using Y⟩
theorem w4(h:w5 o=dn rows):o=dn (.nest rows):=by
 cases o with
 | none=>cases h
 | some c=>cases c<;>first | cases h;rfl | cases h
noncomputable def tN(K:MC)(f:CO (List<|List D)):TE:=λj H Q=>∃h i d,RC K h H j i/\f i=dn d/\
 ∀a bs g e,Ext h H e g->(∀b∈a::bs,H b=ed)->uw K e g d a bs->Q (.ref a) g
noncomputable def t4(K:MC)(H0 H:Hp)(C:List (List D))(bs:List ej):Prop:=bs.length=C.length/\∀(k:Nat) b row,bs[k]? = dn b->C[k]? = dn row->H0 b=ed/\∃a,H b=dn (.lst a)/\eA K H0 row a
theorem t4.at{K:MC}{H0 H:Hp}{C:List (List D)}{bs:List ej}(n:t4 K H0 H C bs){b:ej}(O:b∈bs):H0 b=ed/\∃xs,H b=dn (.lst xs):=by obtain⟨k,z⟩:=SQ O;have I:=(MU.mp z).1;rw[n.1]at I;obtain⟨a,xs,d,_⟩:=n.2 k b _ z<|MF I;exact⟨a,xs,d⟩
theorem t4.ext{K:MC}{H0 H J H':Hp}{C:List (List D)}{bs:List ej}(n:t4 K H0 H C bs)(e:Ext H0 H J H'):t4 K J H' C bs:=
 ⟨n.1,λk b row a d=>by obtain⟨z,f,g2,I⟩:=n.2 k b row a d;exact⟨e.new b z (by rw[g2];simp),f,e.s1 _ _ g2,I.mono e.s0⟩⟩
theorem t4.add{K:MC}{H0 H:Hp}{C:List (List D)}{bs:List ej}{b:ej}{row:List D}{xs:List V}(n:t4 K H0 H C bs)(J:H0 b=ed)(L:H b=dn (.lst xs))(U:eA K H0 row xs):t4 K H0 H (C++[row]) (bs++[b]):=
 ⟨by simp[n.1],λk c r a I=>by
  rcases Nc k bs.length with z | z
  ·rw[Oc z]at a
   rw[Oc (by rw[<- n.1];exact z)]at I;exact n.2 k c r a I
  ·rw[NN z]at a
   rw[NN (by rw[<- n.1];exact z)]at I;have O:k - bs.length=0:=by have:=(MU.mp a).1;simp at this;omega
   rw[O]at a;rw[<- n.1,O]at I;cases a;cases I;exact⟨J,xs,L,U⟩⟩
theorem t4.hide{K:MC}{H0 H:Hp}{C:List (List D)}{bs:List ej}{z:ej}{o:HO}(n:t4 K H0 H C bs)(h:z∉bs):t4 K H0 (upd H z o) C bs:=
 ⟨n.1,λk b row a d=>by obtain⟨I,e,g2,O⟩:=n.2 k b row a d;exact⟨I,e,by rw[zN (λq=>h<|by rw[<- q];exact NQ a)];exact g2,O⟩⟩
section
variable{K:MC}{own:List Str}{fr:List (Str×Nat)}{src:CO (List D)}{T:Tg}{f:CO (List D)}
theorem dr(hT : ∀i∈T.idx,i<own.length){tt:TT}(c4 : ∀C H Q,tT K jd C H Q->tt C H Q) : ∀C H Q,tN K (ay src T own.length (fr.map (·.2)) f) C H Q->eM (Ud K src) own fr (qq K T) tt (tO K f) C H Q:=λC H Q hZ=>by
 obtain⟨H0,u,n,rc,s,q⟩:=hZ;obtain⟨a,e1,s⟩:=zf s;by_cases hl:a.length<=lim
 ·rw[UJ hl]at s
  refine⟨H0,u,a,rc,e1,λJ A am x1 wk D P=>?_⟩;have ap : ∀(i:Nat) E,(ja own.length (fr.map (·.2)) u)[i]? ≠ dn (.own E):=λi E h=>by rcases qS h with z | ⟨d',j,z,_⟩<;>cases z
  have ar : ∀(i:Nat) E,(ja own.length (fr.map (·.2)) u)[i]? ≠ dn (.nest E):=λi E h=>by rcases qS h with z | ⟨d',j,z,_⟩<;>cases z
  have b7:am D=ed:=jA x1.sub P;have b8 : ∀c,A c=ed->H c=ed:=λc R=>by
   cases z:H c with
   | none=>rfl
   | some o=>rw[x1.s1 c o z]at R;cases R
  refine⟨λi m Z G l=>m=a.length - i/\i<=a.length/\Z.length<=i/\l D=dn (.lst Z)/\∃g bs W r2,Z=bs.map V.ref/\RC K g l G (ja own.length (fr.map (·.2)) u)/\g D=ed/\Ext am A g l/\t4 K g l W bs/\(D::bs).Nodup/\(∀b∈bs,A b=ed)/\vX T f (ja own.length (fr.map (·.2)) u) (a.drop i)=dn r2/\n=W++r2,
   ⟨_,rfl,NY _,MM _,zS,am,[],[],n,rfl,((rc.ext x1).pull).upd b7 ap ar,b7,Ext.hide x1.sub P _,⟨rfl,λk b row h=>by simp at h⟩,by simp,λb U=>by simp at U,s,rfl⟩,?_⟩
  rintro i m Z G l ⟨rfl,hi,hy,M,g,bs,W,r2,c6,as,b9,t,N,nd,bb,I,rfl⟩;subst c6;refine⟨M,?_⟩;by_cases B:i<a.length
  ·refine .inr ⟨wk.go i l t.s1 B,?_,λx ax y=>?_⟩
   ·have:=yC<|MM lim;omega
   obtain⟨d,hd,hx⟩:=wk.z4 i l x ax t.s1 B y;obtain⟨G0,O,rg⟩:=hx g t.s0 as.sub;have c8:a.drop i=d::a.drop (i+1):=by
    have c9:d=a[i]:=by rw[MF B]at hd;exact(ND hd).symm
    rw[c9];exact Pa B
   rw[c8]at I;simp only[vX]at I;obtain⟨p,eb,I⟩:=zf I;obtain⟨e,ee,I⟩:=zf I;obtain⟨yd,er,I⟩:=zF I;have cd:G0 D=ed:=O.new D b9 (by rw[M];simp);have be:ax D=dn (.lst<|bs.map V.ref):=O.s1 _ _ M;obtain⟨bl,bg⟩:=VF eb;have ce : ∀{L:St} {G2 H2:Hp},RC K G2 H2 L p->RC K G2 H2 L (ja own.length (fr.map (·.2)) u):=λr=>r.weak bl.symm (λj d' hj=>by
    by_cases S:j∈T.idx
    ·rcases qS hj with z | ⟨d2,j2,_,hn,_⟩
     ·cases z
     ·exact absurd (hT j S) ⋯
    ·rw[bg j S];exact hj) ap ar
   refine w9 O.sub rg eb λN7 bn _=>c4 N7 ax _ ⟨G0,p,d7,bn<|as.ext O,rfl,λH3 bt x3=>?_⟩;have bv:=(bn<|as.ext O).ext x3;have xa:=t.trans<|O.trans x3;have cj:bt D=ed:=x3.new D cd (by rw[be];simp);have b0:H3 D=dn (.lst<|bs.map V.ref):=x3.s1 _ _ be;dsimp only;rw[UJ rfl];refine⟨bt,p,e,bv,ee,λY d4 H4 c0 F g1 g2 g3 g4=>?_⟩;have b5:c0 D=ed:=F.new D cj (by rw[b0];simp);have cq:H4 D=dn (.lst<|bs.map V.ref):=F.s1 _ _ b0;have X:=xa.trans F;have cr:=((N.ext O).ext x3).ext F;have cs:=(N.ext O).ext x3;have c1:D∉bs:=(Oq.mp nd).1;have c2:D≠Y:=λz=>by rw[<- z,b0]at g1;cases g1
   have ct:Y∉bs:=λS=>by obtain⟨_,d5,z⟩:=cs.at S;rw[g1]at z;cases z
   have cw:A Y=ed:=by
    cases z:A Y with
    | none=>rfl
    | some o=>rw[xa.s1 _ _ z]at g1;cases g1
   refine⟨cq,a.length - (i+1),by omega,rfl,B,by rw[NZ,PD];omega,zS,c0,bs++[Y],W++[e],yd,by simp,(ce<|bv.ext F).upd b5 ap ar,b5,?_,?_,?_,?_,er,?_⟩
   ·exact⟨X.s0,λc o z=>by rw[zN (λw=>by rw[w,P]at z;cases z)];exact X.s1 c o z,λc o z=>by rw[zN (λw=>by rw[w,b5]at z;cases z)];exact X.sub c o z,X.new⟩
   ·exact(cr.add g2 g3 g4).hide (by simp[c1,c2])
   ·refine Oq.mpr ⟨by simp[c1,c2],List.nodup_append.mpr ⟨(Oq.mp nd).2,by simp,λc R c' cz=>?_⟩⟩
    have:c'=Y:=by simpa using cz
    subst this;exact λz=>ct (by rw[<- z];exact R)
   ·intro b U
    rcases OS.mp U with z | z
    ·exact bb b z
    ·have:b=Y:=by simpa using z
     subst this;exact cw
   ·rw[<- I];simp
  ·have e:i=a.length:=by omega
   subst e;rw[RI]at I;cases I;rw[Ph]at q;refine .inl ⟨wk.stop l t.s1,q D bs l g (x1.trans t) (λb U=>?_) ⟨b9,M,nd,N.1,N.2⟩⟩;rcases MS.mp U with rfl | U
   ·exact b8 _ P
   ·exact b8 b<|bb b U
 ·rw[UY hl]at s;cases s
end
section
variable{K:MC}{E0 E H0 H:Hp}{σ:St}{γ:Ctx}
theorem Jw(h:γ.any X4=eh)(i:Nat)(C:List (List D)):γ[i]? ≠ dn (.nest C):=λe=>by have a:Cell.nest C∈γ:=NQ e;have:=Tt.mp h _ a;exact this rfl
theorem RS.Z'(r:RS K E0 E G0 G σ γ)(e:Ext G0 G H0 H)(J : ∀b∈a::bs,G b=ed)(n:uw K H0 H rows a bs)(C:γ.any X4=eh) :
 RS K E0 E H0 H (σ.set i<|some (.ref a)) (γ.set i<|.nest rows):=by
 have rc:=r.rc.ext e;have x : ∀b∈a::bs,E b=ed:=λb m=>by
  cases q:E b with
  | none=>rfl
  | some o=>have:=J b m;rw[r.ext.s1 b o q]at this;cases this
 refine⟨⟨rc.sub,by simp[rc.len],λj A g=>?_,λj d g=>?_,λj k b d fs l f u w=>?_,⟨λj h g=>?_,λj k L M I g2=>?_⟩⟩,r.ext.trans e,λj d b I g2=>?_,λj h b Q I g2 O=>?_⟩
 ·rcases zI g with⟨_,z,_⟩ | ⟨U,z⟩
  ·cases z
  ·obtain⟨N,I,g2⟩:=rc.val j A z
   exact⟨N,by rw[MK (Ny U)];exact I,g2⟩
 ·rcases zI g with⟨_,z,_⟩ | ⟨U,z⟩
  ·cases z
  ·obtain⟨b,y,I,g2⟩:=rc.own j d z
   exact⟨b,y,by rw[MK (Ny U)];exact I,g2⟩
 ·rcases zI l with⟨_,z,_⟩ | ⟨U,Y⟩
  ·cases z
  ·rcases zI f with⟨_,z,_⟩ | ⟨p,t⟩
   ·cases z
   ·rw[MK (Ny U)]at u
    rw[MK (Ny p)]at w;exact rc.ne j k b d fs Y t u w
 ·rcases zI g with⟨rfl,z,s⟩ | ⟨U,z⟩
  ·cases z
   refine⟨a,bs,Ni (by rw[rc.len];exact s),n,λk d c l f=>?_⟩;rcases zI l with⟨_,z,_⟩ | ⟨p,Y⟩
   ·cases z
   ·rw[MK (Ny p)]at f
    obtain⟨P,y,I,g2,O,_⟩:=r.rc.own k d Y;rw[f]at I;cases I;intro F;rw[J c F]at O;cases O
  ·exact absurd z<|Jw C j h
 ·rcases zI I with⟨rfl,_,_⟩ | ⟨_,Y⟩
  ·rcases zI g2 with⟨rfl,_,_⟩ | ⟨_,t⟩
   ·rfl
   ·exact absurd t<|Jw C k M
  ·exact absurd Y<|Jw C j L
 ·rcases zI I with⟨_,z,_⟩ | ⟨U,z⟩
  ·cases z
  ·rw[MK (Ny U)]at g2;exact r.fresh j d b z g2
 ·rcases zI I with⟨rfl,z,s⟩ | ⟨U,z⟩
  ·rw[Ni (by rw[rc.len];exact s)]at g2;cases g2
   rw[n.ha]at O;injection O with O;injection O with O;subst O;refine⟨x a MX,λb m=>?_⟩;obtain⟨c,B,q⟩:=Nb.mp m;cases q;exact x b<|MT _ B
  ·exact absurd z<|Jw C j h
theorem RS.forget(r:RS K E0 E H0 H σ γ):RS K E0 E H0 H (σ.set i v) (γ.set i .no):=by
 have Y : ∀{j:Nat} {e:List D} {b:ej},(γ.set i .no)[j]? = dn (.own e)->γ[j]? = dn (.own e)/\(σ.set i v)[j]? = σ[j]? :=λ{j e b} g=>by
  rcases zI g with⟨_,z,_⟩ | ⟨f,z⟩
  ·cases z
  ·exact⟨z,MK<|Ny f⟩
 have l : ∀{j:Nat} {d:List (List D)},(γ.set i .no)[j]? = dn (.nest d)->γ[j]? = dn (.nest d)/\(σ.set i v)[j]? = σ[j]? :=λ{j d} g=>by
  rcases zI g with⟨_,z,_⟩ | ⟨f,z⟩
  ·cases z
  ·exact⟨z,MK<|Ny f⟩
 refine⟨⟨r.rc.sub,by simp[r.rc.len],λj t g=>?_,λj e g=>?_,λj k b e fs m h p s=>?_,⟨λj d g=>?_,λj k y A U g2=>r.rc.nj.2 j k y A (l U).1 (l g2).1⟩⟩,r.ext,λj e b U g2=>?_,λj d b C U g2 g3=>?_⟩
 ·rcases zI g with⟨_,z,_⟩ | ⟨f,z⟩
  ·cases z
  ·obtain⟨B,U,g2⟩:=r.rc.val j t z
   exact⟨B,by rw[MK (Ny f)];exact U,g2⟩
 ·obtain⟨I,O⟩:=Y (b:=0) g
  rw[O];exact r.rc.own j e I
 ·obtain⟨I,O⟩:=Y (b:=0) m
  obtain⟨n,o⟩:=Y (b:=0) h;rw[O]at p;rw[o]at s;exact r.rc.ne j k b e fs I n p s
 ·obtain⟨I,O⟩:=l g
  obtain⟨a,bs,u,w,x⟩:=r.rc.nj.1 j d I;refine⟨a,bs,by rw[O];exact u,w,λk e c m h=>?_⟩;obtain⟨n,o⟩:=Y (b:=0) m;rw[o]at h;exact x k e c n h
 ·obtain⟨I,O⟩:=Y (b:=0) U
  rw[O]at g2;exact r.fresh j e b I g2
 ·obtain⟨I,O⟩:=l U
  rw[O]at g2;exact r.t8 j d b C I g2 g3
theorem Y9 : ∀{l:List ej} {m t:Nat} {b:ej},l.Nodup->l[m]? = dn b->l[t]? = dn b->m=t
 | [],m,t,b,_,h,_=>by simp at h
 | c::l,m,t,b,nd,h1,h2=>by
  obtain⟨a,I⟩:=Oq.mp nd;cases m with
  | zero=>
   cases t with
   | zero=>rfl
   | succ t=>
    have e1:c=b:=by simpa using h1
    have z:l[t]? = dn b:=by simpa using h2
    exact absurd (NQ z)<|e1 ▸ a
  | succ m=>
   cases t with
   | zero=>
    have e1:c=b:=by simpa using h2
    have z:l[m]? = dn b:=by simpa using h1
    exact absurd (NQ z)<|e1 ▸ a
   | succ t=>exact congrArg (· + 1) (Y9 (b:=b) I (by simpa using h1)<|by simpa using h2)
theorem RC.row{j i t:Nat}{R:List (List D)}{a b:ej}{bs:List ej}{row:List D}(r:RC K H0 H σ γ)(J:γ[j]? = dn (.nest R))(Z:σ[j]? = dn (dn (.ref a)))(L:uw K H0 H R a bs)
 (a2 : ∀(k:Nat) ds c,γ[k]? = dn (.own ds)->σ[k]? = dn (dn (.ref c))->c∉a::bs) (C:bs[t]? = dn b) (S:R[t]? = dn row) (hi:i<γ.length) :
 RC K H0 H (σ.set i<|some (.ref b)) ((γ.set j .no).set i (.own row)):=by
 obtain⟨s,x,b1,b2⟩:=L.row t b row C S;have n:b∈a::bs:=MT _<|NQ C;have Y : ∀{k:Nat} {c:Cell},c ≠ .no->(γ.set j .no)[k]? = dn c->γ[k]? = dn c/\k≠j:=λ{k c} w g=>by
  rcases zI g with⟨_,z,_⟩ | ⟨O,z⟩
  ·exact absurd z w
  ·exact⟨z,O⟩
 refine⟨r.sub,by simp[r.len],λk d g=>?_,λk ds g=>?_,λk m c ds p u o e f=>?_,o6.DW λk h g=>?_⟩
 ·rcases zI g with⟨_,z,_⟩ | ⟨O,z⟩
  ·cases z
  ·obtain⟨I,_⟩:=Y ⋯ z
   rw[MK (Ny O)];exact r.val k d I
 ·rcases zI g with⟨rfl,z,y⟩ | ⟨O,z⟩
  ·cases z
   exact⟨b,x,Ni (by rw[r.len];exact hi),s,b1,b2⟩
  ·obtain⟨I,_⟩:=Y ⋯ z
   rw[MK (Ny O)];exact r.own k ds I
 ·rcases zI u with⟨rfl,_,_⟩ | ⟨O,I⟩
  ·rcases zI o with⟨rfl,_,_⟩ | ⟨l,U⟩
   ·rfl
   ·obtain⟨U,_⟩:=Y ⋯ U
    rw[Ni (by rw[r.len];exact hi)]at e;rw[MK (Ny l)]at f;cases e;exact absurd n<|a2 m p b U f
  ·obtain⟨I,_⟩:=Y ⋯ I
   rcases zI o with⟨rfl,_,_⟩ | ⟨l,U⟩
   ·rw[Ni (by rw[r.len];exact hi)]at f
    rw[MK (Ny O)]at e;cases f;exact absurd n<|a2 k ds b I e
   ·obtain⟨U,_⟩:=Y ⋯ U
    rw[MK (Ny O)]at e;rw[MK (Ny l)]at f;exact r.ne k m c ds p I U e f
 ·rcases zI g with⟨_,z,_⟩ | ⟨O,z⟩
  ·cases z
  ·obtain⟨I,U⟩:=Y ⋯ z
   exact U<|r.nj.2 k j h R I J
theorem RS.T_(r:RS K E0 E H0 H σ γ)(O:γ[j]? = dn (.nest R))(L:σ[j]? = dn (dn (.ref a)))(C:uw K H0 H R a bs)
 (S : ∀(k:Nat) ds c,γ[k]? = dn (.own ds)->σ[k]? = dn (dn (.ref c))->c∉a::bs) (J:bs[t]? = dn b) (Z:eA K H0 row' ys) :
 RS K E0 E H0 (upd H b<|.lst ys) σ (γ.set j<|.nest<|R.set t row'):=by
 have A:j<γ.length:=(MU.mp O).1;have i:b∈bs:=NQ J;have x:b≠a:=λq=>(Oq.mp C.nd).1 (by rw[<- q];exact i);obtain⟨s,_⟩:=C.at<|MT a i;obtain⟨P,y⟩:=r.t8 j R a _ O L C.ha;have Q:E b=ed:=y b<|Nb.mpr ⟨b,i,rfl⟩;have U : ∀{k:Nat} {c:Cell},(∀e,c ≠ .nest e)->(γ.set j<|.nest<|R.set t row')[k]? = dn c->γ[k]? = dn c:=λ{k c} Y g=>by
  rcases zI g with⟨_,z,_⟩ | ⟨l,z⟩
  ·exact absurd z<|Y _
  ·exact z
 refine⟨⟨λc o q=>?_,by simp[r.rc.len],λk d g=>r.rc.val k d<|U ⋯ g,λk ds g=>?_,λk m c ds T F G M N=>r.rc.ne k m c ds T (U ⋯ F) (U ⋯ G) M N,⟨λk e g=>?_,λk m r1 r2 I g2=>?_⟩⟩,⟨r.ext.s0,λc o q=>?_,λc o q=>?_,r.ext.new⟩,λk ds c I g2=>r.fresh k ds c (U ⋯ I) g2,λk e c p I g2 g3=>?_⟩
 ·rw[zN (λz=>by rw[z,s]at q;cases q)];exact r.rc.sub c o q
 ·have z:=U ⋯ g
  obtain⟨c,p,f,h,u,W⟩:=r.rc.own k ds z;refine⟨c,p,f,h,?_,W⟩;rw[zN (λq=>S k ds c z f<|by rw[q];exact MT _ i)];exact u
 ·have l:k=j:=by
   rcases zI g with⟨z,_,_⟩ | ⟨_,z⟩
   ·exact z
   ·exact r.rc.nj.2 k j e R z O
  subst l;rw[Ni A]at g;cases g;refine⟨a,bs,L,⟨C.a0,by rw[zN (Ny x)];exact C.ha,C.nd,by simp[C.len],λm c row Y n=>?_⟩,λm ds c I g2=>S m ds c (U ⋯ I) g2⟩;by_cases w:m=t
  ·subst w
   rw[J]at Y;cases Y;have:m<R.length:=by rw[<- C.len];exact(MU.mp J).1
   rw[Ni this]at n;cases n;exact⟨s,ys,zS,Z⟩
  ·rw[MK (Ny w)]at n
   obtain⟨f,p,h,u⟩:=C.row m c row Y n;have B:c≠b:=λq=>by subst q;have X:=(Oq.mp C.nd).2;exact w<|Y9 X Y J
   exact⟨f,p,by rw[zN B];exact h,u⟩
 ·have f:k=j:=by
   rcases zI I with⟨z,_,_⟩ | ⟨_,z⟩
   ·exact z
   ·exact r.rc.nj.2 k j r1 R z O
  have h:m=j:=by
   rcases zI g2 with⟨z,_,_⟩ | ⟨_,z⟩
   ·exact z
   ·exact r.rc.nj.2 m j r2 R z O
  rw[f,h]
 ·rw[zN (λz=>by rw[z,Q]at q;cases q)];exact r.ext.s1 c o q
 ·rw[zN (λz=>by rw[z,s]at q;cases q)];exact r.ext.sub c o q
 ·have l:k=j:=by
   rcases zI I with⟨z,_,_⟩ | ⟨_,z⟩
   ·exact z
   ·exact r.rc.nj.2 k j e R z O
  subst l;rw[L]at g2;cases g2;rw[zN (Ny x),C.ha]at g3;injection g3 with g3;injection g3 with g3;subst g3;exact⟨P,y⟩
end
section
variable{K:MC}{E0 E H0 H:Hp}{σ:St}{γ:Ctx}
theorem RS.freeze(r:RS K E0 E H0 H σ γ)(e:γ[i]? = dn (.own ds)) : ∃C,RS K E0 E C H σ (γ.set i<|.val<|.lst ds):=by
 obtain⟨a,o,f,g,Y,l⟩:=r.rc.own i ds e;have h:=r.fresh i ds a e f;obtain⟨C,n,U⟩ : ∃C,C=upd H0 a (.lst o)/\RC K C H σ (γ.set i<|.val<|.lst ds):=by refine⟨_,rfl,?_⟩;exact RC.R_ r.rc e f g Y l
 subst n;refine⟨_,U,⟨r.ext.s0.trans<|jr g _,r.ext.s1,U.sub,λc m I=>?_⟩,λj k b O g2=>?_,λj d b p O g2 g3=>?_⟩
 ·rw[zN (λz=>by rw[z,h]at I;exact I rfl)];exact r.ext.new c m I
 ·rcases zI O with⟨_,z,_⟩ | ⟨_,z⟩
  ·cases z
  ·exact r.fresh j k b z g2
 ·rcases zI O with⟨_,z,_⟩ | ⟨_,z⟩
  ·cases z
  ·exact r.t8 j d b p z g2 g3
open Classical in
def Ww(H0 H:Hp)(L:List ej):Hp:=λc=>if c∈L then H c else H0 c
theorem KP(h:c∈L):Ww H0 H L c=H c:=by unfold Ww;rw[UJ h]
theorem wU(h:c∉L):Ww H0 H L c=H0 c:=by unfold Ww;rw[UY h]
theorem YO : ∀{C:List (List D)} {bs:List ej},bs.length=C.length->(∀(k:Nat) b row,bs[k]? = dn b->C[k]? = dn row->∃xs,G b=dn (.lst xs)/\eA K G row xs)->eA K G (C.map D.lst) (bs.map V.ref)
 | [],[],_,_=>eA.nil
 | [],_::_,h,_=>by simp at h
 | _::_,[],h,_=>by simp at h
 | row::C,b::bs,h,f=>by obtain⟨xs,z,g2⟩:=f 0 b row rfl rfl;exact eA.cons (JR (gv.of z) g2) (YO (by simpa using h) λk c r a I=>f (k+1) c r (by simpa using a)<|by simpa using I)
theorem RS.L'(r:RS K E0 E H0 H σ γ)(e:γ[i]? = dn (.nest rows)) : ∃C,RS K E0 E C H σ (γ.set i<|.val<|.lst<|rows.map D.lst):=by
 obtain⟨a,bs,s,l,w⟩:=r.rc.nj.1 i rows e;obtain⟨F,G⟩:=r.t8 i rows a _ e s l.ha;have ef : ∀b∈a::bs,E b=ed:=λb hb=>by
  rcases MS.mp hb with rfl | hb
  ·exact F
  ·exact G b<|Nb.mpr ⟨b,hb,rfl⟩
 have m:g8 H0 (Ww H0 H (a::bs)):=λc o q=>by rw[wU (λh=>by rw[(l.at h).1]at q;cases q)];exact q
 have sub:g8 (Ww H0 H (a::bs)) H:=λc o q=>by
  by_cases h:c∈a::bs
  ·rw[KP h]at q;exact q
  ·rw[wU h]at q;exact r.rc.sub c o q
 have M:Rep K (Ww H0 H (a::bs)) (.lst<|rows.map D.lst) (.ref a):=JR (gv.of<|by rw[KP MX];exact l.ha) (YO l.len λk b row I g2=>by obtain⟨_,N,p,Y⟩:=l.row k b row I g2;exact⟨N,by rw[KP (MT _<|NQ I)];exact p,Y.mono m⟩)
 have t : ∀{j:Nat} {O:List (List D)},(γ.set i<|.val<|.lst<|rows.map D.lst)[j]? ≠ dn (.nest O):=λ{j O} g=>by
  rcases zI g with⟨_,z,_⟩ | ⟨n,z⟩
  ·cases z
  ·exact n<|r.rc.nj.2 j i O rows z e
 have U : ∀{j:Nat} {f:List D},(γ.set i<|.val<|.lst<|rows.map D.lst)[j]? = dn (.own f)->γ[j]? = dn (.own f):=λ{j f} g=>by
  rcases zI g with⟨_,z,_⟩ | ⟨n,z⟩
  ·cases z
  ·exact z
 refine⟨_,⟨sub,by simp[r.rc.len],λj d g=>?_,λj f g=>?_,λj k c f J x y A B=>r.rc.ne j k c f J (U x) (U y) A B,o6.DW λj O=>t⟩,⟨r.ext.s0.trans m,r.ext.s1,sub,λc p Y=>?_⟩,λj f b I g2=>r.fresh j f b (U I) g2,λj O b u I=>absurd I t⟩
 ·rcases zI g with⟨rfl,z,P⟩ | ⟨n,z⟩
  ·cases z;exact⟨_,s,M⟩
  ·obtain⟨v,I,g2⟩:=r.rc.val j d z
   exact⟨v,I,g2.mono m⟩
 ·obtain⟨b,u,I,g2,g3,L⟩:=r.rc.own j f (U g)
  exact⟨b,u,I,by rw[wU (w j f b (U g) I)];exact g2,g3,L.mono m⟩
 ·rw[wU (λh=>Y<|ef c h)];exact r.ext.new c p Y
end
section
variable{X:Cx}{st:k4}{F:CO Fl}
theorem JT(i:Nat)(h:md X st F):md X st (mC i F):=ye h λD j H I=>by obtain⟨E0,E,e,g,O,U,z,Y⟩:=I;obtain⟨f,d,z⟩:=zf z;obtain⟨a,b⟩:=U.freeze<|vj d;exact⟨E0,E,a,_,O,b,z,Y⟩
theorem nP(i:Nat)(h:md X st F):md X st (nz i F):=ye h λD j H I=>by obtain⟨E0,E,f,g,O,U,z,Y⟩:=I;obtain⟨b,e,z⟩:=zf z;obtain⟨a,d⟩:=U.L'<|w4 e;exact⟨E0,E,a,_,O,d,z,Y⟩
end
section
variable{X:Cx}{sc:ij}{N L:List Str}{k:Nat}
theorem nO(i:Nat)(h:SX X sc N L k)(c:yU sc N L i y=d7)
 (Y:X.calm=d7) (ok:rr X scope fr) (S : ∀i∈T.idx,i<own.length) (hi:r6 X tg iter src) (hg : ∀fp J C,PG (jJ X scope (own++fr.map (·.1)) fp J C) tg<|qq X.K T)
 (Z : ∀fp J C,PO (jJ X scope (own++fr.map (·.1)) fp J C) elt f) (hs : ∀x,o8 iter X.env x=pure x:=by intro _;rfl) :
 md X (.Assign [.Name y py] (.ListComp elt [⟨tg,iter,[],0⟩] scope cpos) spos) (ny i<|ay src T own.length (fr.map (·.2)) f):=by
 obtain⟨p,r,s⟩:=h.loc c;refine ye (Zt (te:=tO X.K f) h.E5 p r s Y ok hi hg (λ_ _ _=>KC) Z hs) λD l H I=>?_;obtain⟨E0,E,e,j,w,U,z,m⟩:=I;obtain⟨d,o,z⟩:=zf z;by_cases O:j.any X4=eh
 ·rw[UJ O]at z;cases z
  exact dr S (λl H Q I=>by obtain⟨e,j,b,rc,z,q⟩:=I;cases z;exact q H e<|Ext.refl rc.sub) l H _ ⟨e,j,d,U.rc,o,λa bs u g x t n=>m _ _ g<|U.Z' x t n O⟩
 ·rw[UY O]at z;cases z
theorem fD(z:i≠j)(c:Cell)(r:List D):((((γ.set j c).set i .no).set j .no).set i (.own r))=yZ γ j i r:=by
 unfold yZ;apply OI;intro m;simp only[Pe,List.length_set];by_cases a:i=m
 ·subst a;simp
 ·by_cases b:j=m
  ·subst b;simp[a]
  ·simp[a,b]
theorem Wj{γ:Ctx}{j i:Nat}(z:i≠j)(c I:Cell):(((γ.set j c).set i .no).set j I)=(γ.set j I).set i .no:=by rw[List.set_comm _ _ (Ny z),List.set_set,List.set_comm _ _ z]
theorem cx(j i:Nat){x y:Str}{bi C bl:hL}{Y e:e9}{g f:CO D}{p pos c9:hL}(hp:O2 (fe X.prog X.w) X.A X.env X.xe)(hc:X.calm=d7)(h:SX X sc N L k)(cj:Yp sc N j x=d7)(ci:Yp sc N i y=d7)
 (hg:PG X (.Name y bi) (vg i)) (hi:PV X Y g) (he:PV X e f)
 (ha : ∀v,t6 (.Subscript (.Name y C) Y p) X.env v=(do
   let ov <- sy [v] (fh (.Name y C) X.env);let iv <- sy [v,ov] (fh Y X.env)
   DC p
   sy [v,ov,iv] (T8 ov iv v)
   U7 [v,ov,iv] []):=by intro _;rfl)
 (hs:M5 [.Subscript (.Name y C) Y p] e pos.line X.env=pure eh:=by rfl) (hw:Uc [.Subscript (.Name y C) Y p] e X.env=pure ed:=by rfl)
 (h1:(xb [.Subscript (.Name y C) Y p] X.env).map (·.2)=[t6 (.Subscript (.Name y C) Y p) X.env]:=by rfl)
 (hf : ∀z,o8 (.Name x bl) X.env z=pure z:=by intro _;rfl) :
 md X (.For (.Name y bi) (.Name x bl) [.Assign [.Subscript (.Name y C) Y p] e pos] [] c9) (fm j i g f):=
 ye (rP hp hc (fW<|h.var cj) hg (fP<|aG he (rQ (h.var ci) hi aj ha) hs hw h1) hf) λD B H hZ=>by
  obtain⟨E0,E,H0,o,fl,rs,u,bm⟩:=hZ;obtain⟨l,e1,u⟩:=zf u;have e1:=w4 e1;by_cases as:i=j\/o.length<=i
  ·rw[UJ as]at u;cases u
  rw[UY as]at u;have F:i≠j:=λz=>as<|.inl z;have R:i<o.length:=by
   rcases Nc i o.length with z | z
   ·exact z
   ·exact absurd (.inr z) as
  have bn:j<o.length:=(MU.mp e1).1;obtain⟨b6,e2,u⟩:=zF u;subst u;obtain⟨a,bs,g1,hn,e6⟩:=rs.rc.nj.1 j l e1;refine⟨_,g1,a,.L,rfl,⟨_,gv.of hn.ha⟩,?_⟩;refine⟨λt m M H'=>m=l.length - t/\t<=l.length/\∃(r:Hp) (I yd:List (List DL.D)) (U:L2.St),I.length=t/\U[j]? = dn (dn (V.ref a))/\(∃v,M=U.set i v)/\H' a=dn (.lst<|bs.map V.ref)/\RS X.K E0 E r H' M ((o.set j<|.nest<|I++l.drop t).set i .no)/\kW j i g f o (l.drop t)=dn yd/\b6=I++yd,
   ⟨_,rfl,NY _,H0,[],b6,B,rfl,g1,⟨B[i]?.getD ed,?_⟩,hn.ha,?_,e2,rfl⟩,?_⟩
  ·apply OI
   intro m;rw[Pe];by_cases z:i=m
   ·subst z
    have:i<B.length:=by rw[rs.rc.len];exact R
    simp[this]
   ·simp[z]
  ·have:=rs.forget (i:=i) (v:=B[i]?.getD ed)
   have es:B.set i (B[i]?.getD ed)=B:=by
    apply OI;intro m;rw[Pe];by_cases z:i=m
    ·subst z
     have:i<B.length:=by rw[rs.rc.len];exact R
     simp[this]
    ·simp[z]
   rw[es]at this;have ec:o.set j (.nest l)=o:=by
    apply OI;intro m;rw[Pe];by_cases z:j=m
    ·subst z;rw[UJ rfl,UJ bn,e1]
    ·simp[z]
   simpa[ec]using this
  rintro t m M H' ⟨rfl,ht,r,I,yd,U,bv,S,⟨v0,rfl⟩,T,W,O,er⟩;have ax:((o.set j<|.nest<|I++l.drop t).set i .no)[j]? = dn (.nest<|I++l.drop t):=by rw[MK F,Ni bn]
  obtain⟨a',s,q1,b7,cw⟩:=W.rc.nj.1 j _ ax;rw[MK F,S]at q1;cases q1;have cy:s=bs:=by have:=b7.ha;rw[T]at this;injection this with this;injection this with this;exact(yB this).symm
  subst cy;have cz:s.length=l.length:=by rw[b7.len];simp;omega
  by_cases c2:t<l.length
  ·have Q:s[t]? = dn (s[t]'⋯):=MF ⋯
   generalize s[t]'⋯=b at Q;have b8:l.drop t=l[t]::l.drop (t+1):=Pa c2;refine .inr ⟨⟨_,.ref b,gv.of T,by rw[Nw,Q];rfl⟩,λP H2=>t+1<=l.length/\∃(r:Hp) (I yd:List (List DL.D)) (U:L2.St),I.length=t+1/\U[j]? = dn (dn (V.ref a))/\(∃v,P=U.set i v)/\H2 a=dn (.lst<|s.map V.ref)/\RS X.K E0 E r H2 P ((o.set j<|.nest<|I++l.drop (t+1)).set i .no)/\kW j i g f o (l.drop<|t+1)=dn yd/\b6=I++yd,λP H2 n=>⟨l.length - (t+1),by omega,rfl,n.1,n.2⟩,λxv H2 yl=>?_⟩;obtain⟨rfl,yl⟩:=yl;have d1:xv = .ref b:=by have:=yl _<|gv.of T;rw[Nw,Q]at this;exact(ND this).symm
   subst d1;rw[b8]at O;simp only[kW]at O;obtain⟨d,f1,O⟩:=zf O;obtain⟨kk,f2,O⟩:=zf O;obtain⟨dk,f3,f2⟩:=zf f2;obtain⟨J,f4,O⟩:=zf O;obtain⟨d6,f5,O⟩:=zF O;have d8:(I++l.drop t)[t]? = dn l[t]:=by rw[b8,NN ⋯,bv];simp
   have G:(U.set i v0).set i (dn (.ref b))=U.set i (dn (.ref b)):=List.set_set ..;have b0:=W.rc.row (i:=i) ax (by rw[MK F];exact S) b7 cw Q d8 (by simp;exact R);rw[fD F,G]at b0;show ∃_,_;refine⟨r,yZ o j i l[t],d,?_,f1,λv H3 d9 x3 r3=>?_⟩
   ·rw[G];exact b0
   have c3:=b0.ext x3;obtain⟨Z,xs,p1,p2,p3,p4⟩:=c3.own i l[t] (by unfold yZ;rw[Ni (by simpa using R)]);have di:Z=b:=by
    rw[Ni (by
     have:=b0.len;simp[yZ]at this;rw[this];exact R)]at p1
    cases p1;rfl
   subst di;refine⟨_,by rw[G];exact p1,d9,yZ o j i l[t],dk,by rw[G];exact c3,f3,λv2 H4 dl x4 r4=>?_⟩;rw[j1 f2]at r4;refine⟨Z,xs,kk,J,rfl,jF r4,x4.s1 _ _ p3,by rw[p4.length];exact aY f4,?_⟩;have dp:=(W.step x3).step x4;have bf:=dp.forget (i:=i) (v:=dn (.ref Z));have dt:(((o.set j<|.nest<|I++l.drop t).set i .no).set i .no)=((o.set j<|.nest<|I++l.drop t).set i .no):=List.set_set ..;rw[dt,G]at bf;obtain⟨a2,jn,w1,bg,dv⟩:=bf.rc.nj.1 j _ ax;rw[MK F,S]at w1;cases w1;have c7:H4 a=dn (.lst<|s.map V.ref):=x4.s1 _ _<|x3.s1 _ _ T;have dy:jn=s:=by have:=bg.ha;rw[c7]at this;injection this with this;injection this with this;exact(yB this).symm
   subst dy;have c8:=bf.T_ (t:=t) (row':=l[t].set J d) (ys:=xs.set J v) ax (by rw[MK F];exact S) bg dv Q<|(p4.mono x4.s0).set J (r3.mono x4.s0);have e0:a≠Z:=λq=>(Oq.mp bg.nd).1 (by rw[q];exact NQ Q);refine⟨c2,dl,I++[l[t].set J d],d6,U,by simp[bv],S,⟨dn (.ref Z),G⟩,by rw[zN e0];exact c7,?_,f5,by rw[er,<- O];simp⟩;rw[G];have eR:(I++l.drop t).set t (l[t].set J d)=(I++[l[t].set J d])++l.drop (t+1):=by rw[b8,List.set_append_right _ _ ⋯,show t - I.length=0 by omega,List.append_assoc];rfl
   rw[eR,Wj F]at c8;exact c8
  ·have et:t=l.length:=by omega
   subst et;rw[RI]at O;cases O;rw[RI]at W;refine .inl ⟨⟨_,gv.of T,by simp[cz]⟩,?_⟩;rw[er]at bm;exact bm _ _ r W
end
end DL
namespace L2
open PySem PySem.Spec PyProof.Rows
noncomputable def GU(K:MC):V->List V->Hp->VK->Prop:=λx d H Q=>∃z p b,x = .str z/\d=[.ref p]/\gv K H p (b.map V.str)/\Builtin.Str.tooLong (b.toArray.foldl (λa p=>a+p.length+z.length) 0)=eh/\Q (.str<|TJ z b) H
theorem Yq : ∀{C:List Str} {us:List el},f9 (C.map V.str) us->∃l:List (Str×q7),strValues l=us/\l.map (·.1)=C
 | [],us,r=>by cases r;exact⟨[],rfl,rfl⟩
 | z::C,u::us,.cons r t=>by obtain⟨I,rfl⟩:=r;obtain⟨l,rfl,h⟩:=Yq t;exact⟨(z,I)::l,rfl,by simp[h]⟩
theorem uU{X:Cx}:Ur X "str.join" (GU X.K):=by intro a s w H x m v j Q I U Y h;obtain⟨z,p,u,rfl,rfl,d,O,q⟩:=h;obtain⟨t,rfl⟩:=U;obtain⟨n,rfl,rw⟩:=vJ Y;cases rw;obtain⟨g,r,f,i⟩:=I.list d;obtain⟨l,rfl,e⟩:=Yq r;subst e;refine RJ F.slot_str_join (j_ _ _ _) F.entry_str_join (F.args_str_join_2 _ _) (meets_str_join_list z t p l O) ⟨f.isList,post_join l ⟨joinFit_length O,λt' k=>?_⟩⟩;refine⟨.str (TJ z (l.map (·.1))),H,(I.kept (h':=s.heap) (t':=k) λb o e=>e),⟨t',?_⟩,q⟩;show Ta (Builtin.Str.glued z (l.map (·.1))) t'=_;rw[StrLaws.glued_eq_join]
end L2
namespace DL
open PySem PySem.Spec PyProof.Rows L2
theorem YG{K:MC}{H:Hp} : ∀{ds:List D} {xs:List V} {l:List Str},eA K H ds xs->Kp ds=dn l->xs=l.map V.str
 | [],xs,l,r,e=>by cases e;rw[show xs=[]from r];rfl
 | d::ds,xs,l,r,e=>by
  obtain⟨x,g,rfl,z,b⟩:=(show ∃x r,xs=x::r/\Rep K H d x/\eA K H ds r from r);cases d with
  | str i=>
   obtain⟨f,a,rfl⟩:=zF (show(Kp ds).map (λl=>i::l)=dn l from e);rw[YG b a,show x = .str i from z];rfl
  | _=>cases e
section
variable{X:Cx}{sc:ij}{N L:List Str}{k:Nat}{o e a b:e9}{apos cpos pos p:hL}{f g:CO D}{q:CO (Sk×List D)}
theorem Ks(h:qb x=d7):x.length<=1000:=of_decide_eq_true h
theorem XJ(h:qb x=d7):x.length<=gm:=Of (Ks h) ⋯
theorem fJ(Y:PV X o f)(Z:PQ X e q)(C:Uv o "join" X.env (fh o X.env)=fh o X.env:=by rfl)
 (J:((su cpos<|starEach [e] X.env).all (λx=> !x.1) && (Uw cpos<|keywordEach [] X.env).all (λx=>x.1.isSome) && decide ([e].length+([]:List D4).length+(if ([]:List D4).isEmpty then 0 else 1)<30))=d7:=by rfl)
 (S:(apos.endLine==cpos.line)=d7:=by rfl) (U:gu [e] X.env=[(eh,fh e X.env)]:=by rfl):PV X (.Call (.Attribute o "join" apos) [e] [] cpos) (fi f q):=
 qD (CT PySem.F.plainAttrs_str PySem.F.slot_str_join PySem.F.type_str_join uU Y (jT Z xj U) C J S U rfl) λσ H Q A=>by
  obtain⟨h,g,d,rc,z,K⟩:=A;obtain⟨k,n,z⟩:=zf z;obtain⟨⟨G,m⟩,p,z⟩:=zf z;cases k with
  | str O=>
   cases G with
   | L=>
    obtain⟨l,s,z⟩:=zf z;by_cases I:l.length<=lim/\l.all qb=d7/\qb O=d7
    ·rw[UJ I]at z;cases z
     refine⟨h,g,_,rc,n,λv P b x r=>?_⟩;rw[show v = .str O from r];refine⟨rfl,b,g,.L,m,rc.ext x,p,λa xs i j N u R M=>?_⟩;have t:=YG M s;subst t;refine⟨O,a,l,rfl,rfl,u,StrLaws.joinFits (B:=1000) (λy E=>Ks<|Ot.mp I.2.1 y E) ?_,K _ i j (x.trans N) rfl⟩;have W:=I.1;have:lim=2500:=rfl;have w:=Ks I.2.2;have:l.length*O.length<=2500*1000:=Nat.mul_le_mul ⋯ w;omega
    ·rw[UY I]at z;cases z
   | T=>cases z
  | _=>cases z
theorem wD(C:PV X a f)(Y:PV X b g)(J:WZ b:=by intro _ _;rfl):PV X (.Subscript a b pos) (ya f g):=
 qD (CQ EC C Y J) λG H Q A=>by
  obtain⟨m,l,d,rc,I,q⟩:=A;obtain⟨p,t,I⟩:=zf I;obtain⟨i,O,I⟩:=zf I;obtain⟨s,u,O⟩:=zf O;cases p with
  | str z=>
   by_cases U:qb z=d7
   ·have I:(if qb z=d7 then (h6 z.cps.toList.length i).bind λk=>z.cps.toList[k]?.map λc=>D.str ⟨#[c]⟩else ed)=dn d:=I
    rw[UJ U]at I;obtain⟨j,w,I⟩:=zf I;obtain⟨c,y,rfl⟩:=zF I;refine⟨m,l,_,rc,t,λv E e x r=>⟨e,l,s,rc.ext x,u,λF n o B h=>?_⟩⟩;rw[j1 O]at h;refine⟨z,i,c,r,jF h,XJ U,?_,q _ n o (x.trans B) rfl⟩;unfold Dc;rw[aY w];exact y
   ·have I:(if qb z=d7 then (h6 z.cps.toList.length i).bind λk=>z.cps.toList[k]?.map λc=>D.str ⟨#[c]⟩else ed)=dn d:=I
    rw[UY U]at I;cases I
  | _=>cases I
theorem Ky(h:SX X sc N L k)(c:vQ sc "len" = d7)(z:X.mg "len" = ed)(C:PV X e f)(U:gu [e] X.env=[(eh,fh e X.env)]:=by rfl):PV X (.Call (.Name "len" p) [e] [] pos) (yX f):=
 qD (yw VB (h.gl c).1 z PySem.boot_len (jT C xj U) ⋯ ⋯ U rfl) λm H Q Y=>by
  obtain⟨g,l,d,rc,I,q⟩:=Y;obtain⟨i,j,I⟩:=zf I;cases i with
  | str z=>
   by_cases O:qb z=d7
   ·have I:(if qb z=d7 then dn (D.int z.length)else ed)=dn d:=I
    rw[UJ O]at I;cases I;refine⟨g,l,_,rc,j,λv b a x r=>⟨z,by rw[show v = .str z from r],XJ O,q _ b a x rfl⟩⟩
   ·have I:(if qb z=d7 then dn (D.int z.length)else ed)=dn d:=I
    rw[UY O]at I;cases I
  | _=>cases I
end
section
variable{X:Cx}{sc:ij}{N L:List Str}{k:Nat}{b:e9}{f:CO D}
theorem aD(h:SX X sc N L k)(c:vQ sc "min" = d7)(z:X.mg "min" = ed)(C:PV X a f)(J:PV X b g)(Y:gu [a,b] X.env=[(eh,fh a X.env),(eh,fh b X.env)]:=by rfl)(O:gu [b] X.env=[(eh,fh b X.env)]:=by rfl) :
 PV X (.Call (.Name "min" p) [a,b] [] pos) (V1 f g):=
 qD (yw (lB h.calm) (h.gl c).1 z PyProof.Rows.boot_min (jT C (jT J xj O)<|by rw[Y,O]) ⋯ ⋯ (by rw[Y,O]) (by rw[O];rfl)) λK H Q B=>by obtain⟨o,n,d,rc,I,q⟩:=B;obtain⟨i,l,I⟩:=zf I;obtain⟨u,y,l⟩:=zf l;obtain⟨j,U,I⟩:=zF I;obtain⟨w,A,U⟩:=zf U;subst I;refine⟨o,n,u,rc,y,λv F e x r=>⟨e,n,w,rc.ext x,A,λG s t E m=>⟨i,j,?_,q _ s t (x.trans E) rfl⟩⟩⟩;rw[j1 l]at r;rw[j1 U]at m;rw[jF r,jF m]
end
noncomputable def He(c:Xn)(C:Option ej)(H0:Hp):Prop:=match c.2 with
 | none=>C=ed
 | some i=>∃d,C=dn d/\H0 d=dn (.xd [(Mf c.1,.int i)])
noncomputable def X2(K:MC)(n:Nat)(G:List D->Option Xn):Sp:=λg H _ E=>∃b d c,g8 b H/\eA K b d g/\d.length=n/\G d=dn c/\
 ∀C e a f,IC K=d7->c.1∈N6->Bh K c.1=dn C->He c f a->Ext b H a e->E (.ref C) f e
section ap
variable(γ:Ctx)
@[simp] def vF:=@zE.eq_1
@[simp] def yo:=@j3.eq_1
@[simp] def xy:=@jj.eq_1
@[simp] def qr:=@zc.eq_1
@[simp] def jL:=@ze.eq_1
@[simp] theorem xA(d):zq d γ=dn d:=rfl
@[simp] def kY:=@zG.eq_1
@[simp] def bJ:=@sB.eq_1
@[simp] def Iw:=@fv.eq_1
@[simp] def VO:=@vw.eq_1
@[simp] def Yb:=@j6.eq_1
@[simp] def Fm:=@fw.eq_1
@[simp] def Mg:=@Y_.eq_1
@[simp] def Le:=@FD.eq_1
@[simp] def sv:=@fj.eq_1
@[simp] theorem xl:zB γ=dn []:=rfl
@[simp] def jb:=@zb.eq_1
@[simp] def ym:=@qA.eq_1
@[simp] def Ie:=@qG.eq_1
@[simp] def HZ:=@qc.eq_1
@[simp] def yn:=@j5.eq_1
@[simp] def WW:=@wz.eq_1
@[simp] def HX:=@Xs.eq_1
@[simp] def Ll:=@Mr.eq_1
@[simp] def Iq:=@ua.eq_1
@[simp] def v9:=@iN.eq_1
@[simp] def Zi:=@jy.eq_1
@[simp] def HV:=@xq.eq_1
@[simp] def lZ:=@cn.eq_1
@[simp] def qV:=@qe.eq_1
@[simp] def xM:=@zA.eq_1
@[simp] def Yc:=@jw.eq_1
@[simp] def xV:=@zK.eq_1
@[simp] def vk:=@z6.eq_1
@[simp] def Ff:=@V0.eq_1
@[simp] def lT:=@Xo.eq_1
@[simp] def Zj:=@yN.eq_1
@[simp] def jM:=@zM.eq_1
@[simp] theorem Lb:jd γ=dn d7:=rfl
@[simp] def Iu:=@JP.eq_1
@[simp] def HY:=@tZ.eq_1
@[simp] def kc:=@eg.eq_1
@[simp] def Gm:=@av.eq_1
@[simp] theorem Lf:VS γ=dn ed:=rfl
@[simp] def Mh:=@pe.eq_1
@[simp] def Lc:=@au.eq_1
@[simp] def lV:=@km.eq_1
@[simp] def Ij:=@o5.eq_1
@[simp] def Lg:=@Mp.eq_1
@[simp] def xk:=@zP.eq_1
@[simp] def Fg:=@ff.eq_1
@[simp] def ZM:=@JO.eq_1
@[simp] def Fn:=@AX.eq_1
@[simp] def Ln:=@AW.eq_1
@[simp] def lY:=@kh.eq_1
@[simp] def Ic:=@cg.eq_1
@[simp] def HR:=@tY.eq_1
theorem jg(F G):zL F G γ=(F γ).bind λz=>match z with
 | .next a=>G a
 | f=>dn f:=rfl
end ap
@[simp] theorem Fc(ds):jq (.tup ds)=dn (.T,ds):=rfl
@[simp] theorem Fd(ds):jq (.lst ds)=dn (.L,ds):=rfl
@[simp] theorem zO(d):lr (dn (.val d))=dn d:=rfl
@[simp] theorem zW(d):vY (dn (.val d))=jq d:=rfl
@[simp] theorem QY(d):vY (dn (.own d))=dn (.L,d):=rfl
@[simp] theorem WN(d):q8 (dn (.own d))=dn d:=rfl
@[simp] theorem AC(d):WM (dn (.val d))=dn (.ret<|.val d):=rfl
@[simp] theorem AD(d):WM (dn (.own d))=dn (.ret<|.own d):=rfl
@[simp] theorem Kd(b):ra (.bl b)=dn b:=rfl
@[simp] theorem jU(b):ml (.int b)=dn b:=rfl
@[simp] theorem FJ(d):mD (.val d)=d:=rfl
@[simp] theorem FK(d):mD (.own d) = .lst d:=rfl
@[simp] theorem nF(d):BX (.own d)=dn d:=rfl
@[simp] theorem Gd(i j):QV (.int i) (.int j)=dn (.int<|i - j):=rfl
@[simp] theorem pA(i j):qo (.int i) (.int j)=dn (.int<|i+j):=rfl
@[simp] theorem Gg(i j):yh (.int i) (.int j)=if 0<j then dn (.int<|i%j)else ed:=by show(if EW i j=d7 then _ else _)=_;simp[EW]
@[simp] theorem Gh(i j):K6 (.int i) (.int j)=if 0<j/\j<1073741824 then dn (.int<|i/j)else ed:=by
 show(if EX i j=d7 then _ else _)=_;have e:(EX i j=d7)=(0<j/\j<1073741824):=by unfold EX;rw[MW,decide_eq_true_eq,decide_eq_true_eq];apply propext;constructor<;>intro h<;>exact⟨h.1,by omega⟩
 simp only[e]
@[simp] theorem Gf(i j):yG (.int i) (.int j)=if Kb i j=d7 then dn (.int<|i*j)else ed:=rfl
@[simp] theorem Ge(i j):Au (.int i) (.int j)=if EV i j=d7 then dn (.int<|i ^ j.toNat)else ed:=rfl
@[simp] theorem Av(i j):rh (.int i) (.int j)=dn (.bl<|decide<|i<j):=rfl
@[simp] theorem Aw(i j):lx (.int i) (.int j)=dn (.bl<|decide<|i<=j):=rfl
@[simp] theorem HJ(i j):pk (.int i) (.int j)=dn (.bl<|decide<|j<i):=rfl
@[simp] theorem HK(i j):UB (.int i) (.int j)=dn (.bl<|decide<|j<=i):=rfl
@[simp] theorem HL(i j):hG (.int i) (.int j)=dn (.bl<|decide<|i=j):=by unfold hG;rw[UJ ⟨rfl,rfl⟩];exact congrArg (λb=>dn (D.bl b)) (by rw[OU];simp[ji])
@[simp] theorem HI(i j):i0 (.int i) (.int j)=dn (.bl<|!decide (i=j)):=by unfold i0;rw[UJ ⟨rfl,rfl⟩];exact congrArg (λb=>dn (D.bl !b)) (by rw[OU];simp[ji])
@[simp] theorem BF(i is d ds γ):xp (i::is) (d::ds) γ=xp is ds (γ.set i<|.val d):=rfl
@[simp] theorem BE(ds γ):xp [] ds γ=γ:=by cases ds<;>rfl
@[simp] theorem Jr(i d γ):ka (.nm i) d γ=dn (γ.set i<|.val d):=rfl
@[simp] theorem Fb(i j a b γ):ka (.tp [i,j]) (.tup [a,b]) γ=dn ((γ.set i<|.val a).set j (.val b)):=rfl
@[simp] theorem Kt(γ:Ctx)(G:CO Fl):(dn (Fl.next γ)).bind (λz=>match z with
 | .next γ'=>G γ'
 | f=>dn f)=G γ:=rfl
theorem bF(i j:Int)(C : -(2 ^ 64)<j)(I:j<2 ^ 64):Kb i j=d7:=by unfold Kb;rw[tx];right;exact decide_eq_true ⋯
theorem w6(i j:Int)(C : -(2 ^ 64)<i)(I:i<2 ^ 64):Kb i j=d7:=by unfold Kb;rw[tx];left;exact decide_eq_true ⋯
theorem Vp(C : -(2 ^ 62)<i)(I:i<2 ^ 62):inR i=d7:=by unfold inR;exact decide_eq_true ⋯
@[simp] theorem qh(n k:Nat):h6 n (k:Int)=if k<n then dn k else ed:=by
 unfold h6;by_cases h:k<n
 ·rw[UJ ⟨Int.natCast_nonneg k,by omega⟩,UJ h];simp
 ·rw[UY ⋯,UY ⋯,UY h]
theorem js:lim=2500:=rfl
@[simp] theorem Gb:0<=lim:=NY _
@[simp] theorem Ga:1<=lim:=by decide
@[simp] theorem FZ:2<=lim:=by decide
@[simp] theorem FY:3<=lim:=by decide
@[simp] theorem FX:4<=lim:=by decide
@[simp] theorem FW:5<=lim:=by decide
@[simp] theorem FV:6<=lim:=by decide
@[simp] theorem FU:7<=lim:=by decide
@[simp] theorem FT:8<=lim:=by decide
@[simp] theorem FR:0<lim:=by decide
@[simp] theorem ZC(h:n<=lim):inR (n:Int)=d7:=Vp ⋯ (by have:=js;omega)
@[simp] theorem _t(n:Nat):h6 (n+1) 0=dn 0:=qh (n+1) 0 ▸ rfl
@[simp] theorem _u(n:Nat):h6 (n+2) 1=dn 1:=by have:=qh (n+2) 1;simpa using this
@[simp] theorem P'(n:Nat):h6 (n+3) 2=dn 2:=by have:=qh (n+3) 2;simpa using this
theorem zv(r:α->D) : ∀(l:List α),(∀x∈l,zT T k f γ [g x]=dn [r x])->zT T k f γ (l.map g)=dn (l.map r)
 | [],_=>rfl
 | x::l,h=>by
  have a:=h x MX;have i:=zv r l λy z=>h y<|MT _ z;simp only[Nk,zT]at a ⊢;cases e1:ka T (g x) γ with
  | none=>rw[e1]at a;simp at a
  | some d=>
   rw[e1]at a;simp only[MG]at a ⊢;cases e2:k d with
   | none=>rw[e2]at a;simp at a
   | some b=>
    rw[e2]at a;simp only[MG]at a ⊢;cases b with
    | false=>simp at a
    | true=>
     simp only[UJ]at a ⊢;cases e3:f d with
     | none=>rw[e3]at a;simp at a
     | some e=>
      rw[e3]at a;simp at a;rw[i];simp[a]
theorem zx(C:ka T d γ=dn γ1)(I:k γ1=dn d7)(z:f γ1=dn e):zT T k f γ [d]=dn [e]:=by simp[zT,C,I,z]
theorem ju(T F d ds γ):qL T F (d::ds) γ=(ka T d γ).bind λγ1=>(F γ1).bind λI=>match I with
 | .next z=>qL T F ds z
 | .cont z=>qL T F ds z
 | .brk z=>dn (.next z)
 | .ret r=>dn (.ret r):=rfl
theorem QP(P:Nat->Ctx->Prop) : ∀(ds:List D) (k:Nat) (γ:Ctx),P k γ->(∀i d γ,ds[i]? = dn d->P (k+i) γ->∃γ',((ka T d γ).bind F=dn (.next γ')\/(ka T d γ).bind F=dn (.cont γ'))/\P (k+i+1) γ')->
 ∃γ',qL T F ds γ=dn (.next γ')/\P (k+ds.length) γ'
 | [],k,γ,h,_=>⟨γ,rfl,h⟩
 | d::ds,k,γ,h,step=>by
  obtain⟨a,e,f⟩:=step 0 d γ rfl h;obtain⟨γ',z,g⟩:=QP P ds (k+1) a (by simpa using f) (λi b I j O=>by have:=step (i+1) b I (by simpa using j) (by rw[show k+(i+1)=k+1+i by omega];exact O);rw[show k+(i+1)+1=k+1+i+1 by omega]at this;exact this)
  refine⟨γ',?_,by rw[show k+(d::ds).length=k+1+ds.length by simp;omega];exact g⟩;rw[ju];cases eb:ka T d γ with
  | none=>rw[eb]at e;simp at e
  | some U=>
   rw[eb]at e;simp only[MG]at e ⊢;rcases e with e | e<;>rw[e]<;>exact z
def zD(n:Nat)(f:Nat->Int):List D:=(MB n).map λi=>D.int<|f i
theorem z5(n f):zD n f=(MB n).map λi=>D.int (f i):=rfl
def zZ(h w:Nat)(f:UV):List D:=(MB h).map λi=>D.tup<|zD w<|f i
def jf(h w:Nat)(f:UV):D:= .tup [.int h,.int w,.tup (zZ h w f)]
@[simp] theorem Jl(n f):(zD n f).length=n:=by simp[zD]
@[simp] theorem pf(h w f):(zZ h w f).length=h:=by simp[zZ]
@[simp] theorem HF(f)(h:i<(zD n f).length):(zD n f)[i] = .int (f i):=by simp[zD]
theorem vD(f)(h:i<n):(zD n f)[i]? = dn (.int<|f i):=by simp[zD,h]
@[simp] theorem HG(f)(hi:i<(zZ h w f).length):(zZ h w f)[i] = .tup (zD w<|f i):=by simp[zZ]
theorem qZ(h : ∀i,i<n->f i=g i):zD n f=zD n g:=by unfold zD;apply MQ;intro i a;rw[h i (MD.mp a)]
theorem K4(e : ∀i j,i<h->j<w->f i j=g i j):zZ h w f=zZ h w g:=by unfold zZ;apply MQ;intro i a;rw[qZ λj z=>e i j (MD.mp a) z]
theorem K3{h w:Nat}{f g:UV}(e : ∀i j,i<h->j<w->f i j=g i j):jf h w f=jf h w g:=by unfold jf;rw[K4 e]
theorem jX(n:Nat):wB 0 n=zD n λi=>(i:Int):=by simp[wB,zD]
theorem wa(n:Nat)(f g:Nat->Int):ZR (zD n f) (zD n g)=(MB n).map λi=>D.tup [.int (f i),.int (g i)]:=by unfold ZR zD;rw[OP];simp
theorem mG(n w:Nat)(f g:UV):ZR (zZ n w f) (zZ n w g)=(MB n).map λi=>D.tup [.tup (zD w<|f i),.tup (zD w<|g i)]:=by unfold ZR zZ;rw[OP];simp
def zg(f:Nat->Int):Nat->Int
 | 0=>0
 | n+1=>zg f n+f n
theorem JF : ∀(xs:List Int) (y:Int),YF (xs.map D.int++[.int y])=(YF<|xs.map D.int).map λs=>s+y
 | [],y=>by simp[YF]
 | x::xs,y=>by simp only[Nk,O3,YF];rw[JF xs y];cases e:YF (xs.map D.int)<;>simp[Int.add_assoc]
theorem x6(f:Nat->Int) : ∀n,YF (zD n f)=dn (zg f n)
 | 0=>rfl
 | n+1=>by
  have z:=x6 f n;have e : ∀m,zD m f=((MB m).map f).map D.int:=λm=>by simp[zD]
  rw[e]at z ⊢;rw[OJ,NR,NR,Ti,Ti,JF,z];simp[zg]
def kj:=jk 2<|j5<|zP<|jj<|zM (zK<|ze 1) (.nm 0) 1 [0] jd (zG yh (zc 0)<|zc 1)
noncomputable def dC:=jk 3<|j5<|zA kj<|zb (zc 0)<|zb (j3<|zM (zK<|zE<|eg (ze 1)<|zq<|.int 2) (.nm 0) 1 [2] jd (JO<|jj<|zM (Xo (zc 0)<|zc 1) (.tp [0,1]) 2 [] jd (zG yG (zc 0)<|zc 1))) zB
noncomputable def qM:=jk 2<|zL (jy 1<|j3<|zM (z6<|eg (ze 0)<|zq<|.int 1) (.nm 0) 1 [0] jd (zP<|jj<|zM (zK<|zE<|eg (ze 1)<|zq<|.int 2) (.nm 0) 1 [0] jd (eg (ze 0)<|zc 1)))<|j5<|qA<|zb (eg (ze 0)<|zq<|.int 1)<|zb (eg (ze 0)<|zq<|.int 0)<|zb (zP<|ze 1) zB
noncomputable def qx:=jk 2<|zL (jy 1<|j3<|zM (z6<|zc 0) (.nm 0) 1 [0] jd (zP<|jj<|zM (z6<|zc 1) (.nm 0) 1 [0] jd (fj (sB<|zG hG (zc 1)<|zc 0) (zq<|.int 1)<|zq<|.int 0)))<|j5<|qA<|zb (zc 0)<|zb (zc 0)<|zb (zP<|ze 1) zB
noncomputable def xX:=jk 2<|j5<|qA<|zb (zc 0)<|zb (zc 1)<|zb (zG yG (qA<|zb (zG yG (qA<|zb (zq<|.int 0) zB)<|zc 1) zB)<|zc 0) zB
def jt:=jk 1<|j5<|fw (o5 .int<|zc 0)<|FD<|o5 .bool<|zc 0
noncomputable def Zm:=jk 3<|zL (yN (V0 (zq<|.int 1)<|zc 0) (.nm 2)<|iN (sB<|zG hG (zG yh (zG yG (zc 1)<|zc 2)<|zc 0)<|zq<|.int 1) (Xs 2) qc) XM
noncomputable def qX:=jk 5<|zL (jy 4<|eg (ze 1)<|zc 3)<|zL (iN (sB<|zG hG (zc 4)<|zq<|.int 0) (Xs 1) qc)<|j5<|zA kj<|zb (zc 0)<|zb (j3<|zM (Xo (zc 1)<|zc 2) (.tp [0,1]) 2 [4] jd (zG QV (zc 0)<|zG yG (zc 2)<|zc 1)) zB
noncomputable def qY:=jk 9<|zL (jy 3<|j3<|zM (zK<|ze 2) (.nm 0) 1 [0] jd (zA kj<|zb (zc 1)<|zb (zc 0) zB))<|zL (xq 4<|qG zB)<|zL (yN (z6<|zc 1) (.nm 5)<|zL (jy 6<|j3<|zM (zK<|ze 3) (.nm 0) 1 [5] (sB<|zG i0 (eg (ze 0)<|zc 1)<|zq<|.int 0) (zc 0))<|zL (iN (j6<|tY<|ze 6) ua qc)<|zL (jy 7<|zA Zm<|zb (zc 0)<|zb (eg (zE<|eg (ze 6)<|zq<|.int 0)<|zc 5) zB)<|zL (jy 8<|zA kj<|zb (zc 0)<|zb (j3<|zM (zK<|zE<|eg (ze 6)<|zq<|.int 0) (.nm 0) 1 [7] jd (zG yG (zc 1)<|zc 0)) zB)<|zL (jy 3<|j3<|zM (zK<|ze 3) (.nm 0) 1 [0,5,8] jd (zA qX<|zb (zc 1)<|zb (zc 0)<|zb (zc 3)<|zb (zc 2) zB))<|xq 4<|JP (jj<|zM (zK<|ze 4) (.nm 0) 1 [0,5,8] jd (zA qX<|zb (zc 1)<|zb (zc 0)<|zb (zc 3)<|zb (zc 2) zB))<|jj<|qG<|zb (zc 8) zB)<|Xs 4
noncomputable def qk:=jk 2<|wz<|zM (zK<|ze 1) (.nm 0) 1 [0] (j6<|sB<|AW<|zE<|au (zc 0) VS<|pe<|zc 1) (au (zc 0) (pe<|zc 1) VS)
noncomputable def xO:=jk 5<|zL (jy 3<|j3<|zM (Xo (eg (zE<|zA qM<|zb (zc 1) zB)<|zq<|.int 2)<|eg (zE<|zA qx<|zb (eg (ze 1)<|zq<|.int 1) zB)<|zq<|.int 2) (.tp [0,1]) 2 [] jd (zG qo (zc 0)<|zc 1))<|zL (jy 4<|j3<|zM (zK<|ze 2) (.nm 0) 1 [1] jd (zG qo (zc 0)<|zG yG (qA<|zb (zq<|.int 0) zB)<|eg (ze 1)<|zq<|.int 1))<|wz<|jw qk<|zb (eg (ze 1)<|zq<|.int 0)<|zb (j3<|jw qY<|zb (zc 0)<|zb (zG qo (eg (ze 1)<|zq<|.int 0)<|eg (ze 1)<|zq<|.int 1)<|zb (j3<|JP (ze 3)<|ze 4) zB) zB
def vH:=jk 2<|wz<|jw xO<|zb (zc 0)<|zb (zc 1)<|zb (j3<|qG zB) zB
noncomputable def ZI:=jk 2<|wz<|jw qY<|zb (zc 0)<|zb (eg (ze 1)<|zq<|.int 0)<|zb (eg (zE<|zA qM<|zb (zc 1) zB)<|zq<|.int 2) zB
section
variable(γ:Ctx)
@[simp] def Lm:=@Ms.eq_1
@[simp] def Iv:=@LM.eq_1
@[simp] def Gs:=@II.eq_1
end
noncomputable def qW:=jk 1<|j5<|eg (jj<|zM (ck<|zc 0) (.tp [0,1]) 2 [] (sB<|zG i0 (zc 1)<|zq<|.int 0) (zc 0))<|zq<|.int 0
noncomputable def vG:=jk 7<|zL (jy 3<|eg (ze 1)<|zq<|.int 1)<|zL (xq 4<|tZ (jj<|qG<|zb (zq<|.int 0) zB)<|zc 3)<|zL (yN (zK<|zE<|j3<|jw qY<|zb (zc 0)<|zb (zG qo (zc 3)<|zq<|.int 1)<|zb (j3<|zM (Xo (eg (ze 1)<|zq<|.int 2)<|zc 2) (.tp [0,1]) 2 [] jd (zG qo (zc 0)<|qA<|zb (zc 1) zB)) zB) (.nm 5)<|zL (jy 6<|zA qW<|zb (zc 5) zB)<|zL (iN (sB<|zG hG (zc 6)<|zc 3) (j5<|zq .ft) qc)<|av 4 (zc 6)<|eg (ze 5)<|zc 3)<|j5<|zP<|ze 4
section
variable(γ:Ctx)
@[simp] def Im:=@ck.eq_1
@[simp] def Fh:=@GP.eq_1
@[simp] def Li:=@Mq.eq_1
@[simp] theorem pY(F G a b c):kH F G a b c γ=(a γ).bind λx=>(b γ).bind λy=>((F x y).bind ra).bind λk=>if k=d7 then (c γ).bind λz=>G y z else dn (.bl eh):=rfl
@[simp] def HU:=@wy.eq_1
end
noncomputable def kP:=jk 5<|zL (jy 2<|eg (ze 1)<|zq<|.int 0)<|zL (iN (sB<|zG i0 (eg (ze 1)<|zq<|.int 1)<|zc 2) (j5<|zq .ft) qc)<|zL (jy 3<|eg (zE<|zA qx<|zb (zc 2) zB)<|zq<|.int 2)<|zL (jy 4<|j3<|jw qY<|zb (zc 0)<|zb (zG qo (zc 2)<|zc 2)<|zb (j3<|zM (Xo (eg (ze 1)<|zq<|.int 2)<|zc 3) (.tp [0,1]) 2 [] jd (zG qo (zc 0)<|zc 1)) zB)<|zL (iN (sB<|zG i0 (j3<|zM (zK<|ze 4) (.nm 0) 1 [2] jd (au (zc 0) VS<|pe<|zc 1))<|j3<|ff<|ze 3) (j5<|zq .ft) qc)<|j5<|qA<|zb (zc 2)<|zb (zc 2)<|zb (zP<|jj<|zM (zK<|ze 4) (.nm 0) 1 [2] jd (au (zc 0) (pe<|zc 1) VS)) zB
section
variable(γ:Ctx)
@[simp] theorem HW(i f):ny i f γ=(f γ).bind λC=>if γ.any X4=eh then dn (.next<|γ.set i<|.nest C)else ed:=rfl
@[simp] def Gr:=@ay.eq_1
@[simp] def Fi:=@fm.eq_1
@[simp] def Lj:=@mC.eq_1
@[simp] def Il:=@nz.eq_1
@[simp] def Gk:=@IG.eq_1
end
@[simp] theorem pH(r):w5 (dn (.nest r))=dn r:=rfl
section
variable(γ:Ctx)
@[simp] def Zh:=@ya.eq_1
@[simp] def AO:=@yX.eq_1
@[simp] def Ip:=@LK.eq_1
@[simp] def lX:=@fi.eq_1
end
def GO(f:CO D):CO D:=λa=>(f a).map λd=> .bl (rX .list d || rX .tuple d)
def dD:=jk 1<|j5<|fw (o5 .int<|zc 0)<|FD<|o5 .bool<|zc 0
def VQ:=jk 2<|j5<|fw (zA dD<|zb (zc 1) zB)<|kH lx rh (zq<|.int 0) (zc 1)<|zc 0
def W1:=jk 2<|j5<|fw (GO<|zc 0)<|zG hG (km<|ze 0)<|zc 1
noncomputable def FC(f:CO (Sk×List D))(l h:CO (Option Int)):CO (List D):=λb=>(f b).bind λa=>(l b).bind λlo=>(h b).bind λd=>match a.1 with
 | .L=>dn (iZ a.2 lo d)
 | .T=>ed
noncomputable def kL:=jk 1 (j5 (fi (zq (.str "")) (jj (zM (zK (zE (eg (ze 0) (zq (.int 2))))) (.nm 0) 1 [] jd (eg (ze 0) (zq (.int 0)))))))
noncomputable def kE:=jk 2<|j5<|fw (zG hG (eg (ze 0)<|zq<|.int 0)<|eg (ze 1)<|zq<|.int 0)<|zG hG (zA kL<|zb (zc 0) zB)<|zA kL<|zb (zc 1) zB
def j8:=jk 2<|iN (j6<|sB<|zA kE<|zb (zc 0)<|zb (zc 1) zB) XM qc
noncomputable def xW:List D->Option Xn:=fz 2 (Dk (j6 (sB (zA kE (zb (zc 0) (zb (zc 1) zB))))) (sC "Unlike") Dl)
section
variable{X:Cx}{sc:ij}{N L:List Str}{k:Nat}{a e:e9}{es:List e9}{f:CO D}{g:CO (List D)}{pos p p2:hL}
theorem Kz(O:PV X e f)(U:C2 e ed pos.line X.env=pure eh:=by rfl):md X (.Expr e pos) (cn f):=ye (fR O U) λD k H Y=>by obtain⟨E0,E,g,j,l,I,z,h⟩:=Y;obtain⟨d,i,z⟩:=zF z;subst z;exact⟨g,j,d,I.rc,i,λv b a x r=>h k b a<|I.step x⟩
structure GL(K:MC)(mg:UZ)(x:Str)(d:D):Prop where
 ex : ∃u v,mg x=dn u/\RelV v u/\∀H,Rep K H d v
theorem GW{x:Str}{d:D}(h:SX X sc N L k)(c:vQ sc x=d7)(z:GL X.K X.mg x d):PV X (.Name x pos) (zq d):=by intro b s j H Q I ⟨a,i,g,rc,O,q⟩;cases O;obtain⟨u,v,e,f,U⟩:=z.ex;exact Wv I (h.gl c).1 e ⟨v,H,I,f,q v H a (Ext.refl rc.sub)<|U a⟩ (h.gl c).2.2
theorem CB{lo hi:Option e9}{C:CO (Sk×List D)}{U Y:CO (Option Int)}(J:PQ X a C)(Z:L2.PO X lo (tB X.K U))(S:L2.PO X hi (tB X.K Y)):PO X (.Subscript a (.Slice lo hi ed p2) pos) (FC C U Y):=
 qD (aI tX J Z S) λE H Q o=>by
  obtain⟨g,e,A,rc,z,q⟩:=o;obtain⟨⟨p,es⟩,j,z⟩:=zf z;obtain⟨l,k,z⟩:=zf z;obtain⟨u,m,z⟩:=zf z;cases p with
  | T=>cases z
  | L=>
   cases z;refine⟨g,e,.L,es,rc,j,λb s t d x n B r=>⟨d,e,l,rc.ext x,k,λw h I=>⟨h,e,u,(rc.ext x).ext I,m,λy i x3=>?_⟩⟩⟩;have f:=x.trans<|I.trans x3;refine⟨b,s,rfl,(I.trans x3).s1.seq n,λpp O=>?_⟩;exact q pp _ _ i (f.trans<|Ext.hide x3.sub O _) (kJ f.s1 O) (jA x3.sub O) zS<|aA (r.mono (I.trans x3).s0) _ _
end
section
variable{K:MC}{mg:UZ}{h:gb}
theorem IT{x:Str}{n:Int}{t:q7}(z:K.In h)(G:h.Ns s9 mg)(a:PySem.W.nsIn K s9 x=dn (dn (.int n t))):GL K mg x (.int n):=
 ⟨_,.int n,PySem.W.mg_of z G a,⟨t,rfl⟩,λ_=>(show V.int n = .int n from rfl)⟩
end
theorem x9(h:C9 X es n g):A6 X es g:=h.1
section
variable{K:MC}{E0 E H0 H:Hp}{σ:St}{γ:Ctx}
theorem eA.dropLast : ∀{ds:List D} {xs:List V},eA K H ds xs->eA K H ds.dropLast xs.dropLast
 | [],xs,r=>by rw[r.p5];exact eA.nil
 | [d],xs,r=>by obtain⟨x,b,e,_,a⟩:=r.m9;rw[e,a.p5];exact eA.nil
 | d::d2::ds,xs,r=>by obtain⟨x,b,e,z,a⟩:=r.m9;obtain⟨O,U,I,_,_⟩:=a.m9;subst e I;exact eA.cons z<|eA.dropLast a
end
section
variable{X:Cx}{sc:ij}{N L:List Str}{k:Nat}{a b e:e9}{pos p p2:hL}{f g:CO D}
theorem cv{c:e9}{C:CO D}(J:PV X a C){O:CO (Sk×List D)}(Y:PQ X c O)(S:u4 .NotIn c=eh:=by with_unfolding_all rfl):m4 X (.Compare a [.NotIn] [c] pos) (sB<|Ku C O):=
 Wa (fO YZ J Y S) λP H Q A=>by
  obtain⟨h,g,d,rc,z,q⟩:=A;obtain⟨G,n,w⟩:=zf z;obtain⟨x,o,z⟩:=zf n;obtain⟨⟨f,m⟩,s,z⟩:=zf z;obtain⟨i,t,z⟩:=zf z;obtain⟨l,u,rfl⟩:=zF z;cases w;refine⟨h,g,x,rc,o,λU F j x1 I=>⟨j,g,f,m,rc.ext x1,s,λp N b k E e M r=>?_⟩⟩;rw[j1 t]at I;have y:=QG r u;subst y;have B:gv X.K b p (l.map V.int)\/hB X.K b p (l.map V.int):=by
   cases f with
   | L=>exact .inl e
   | T=>exact .inr e
  refine⟨p,_,rfl,B,by rw[show U = .int i from I];rfl,QR l,?_⟩;rw[show U = .int i from I,Wz];exact⟨_,rfl,q b k<|x1.trans E⟩
end
end DL
namespace L2
open PySem PySem.Spec PyProof.Rows
theorem pd{X:Cx}{C:UQ}{σ:St}{H:Hp}{s:eK}{E:EQ}{z it:ej}{i Y:Nat}{x:el}{v:V}{g:gb}{J:List e9}{x1:Nat}{L:hL}{Q:Unit->eK->Prop}
 (I:Inv X C σ H s) (S : ∀b ∈ [z,it],ZO X C H b) (Z:z<s.heap.objs.size) (hi:it<s.heap.objs.size) (a1:N9 g z it ((i:Int)+1) x s.heap.objs.size)
 (a3:n9 g s.heap.objs.size (.int i Y) x) (a5 : ∀b o,b≠z->b≠it->s.heap.get? b=dn o->g.get? b=dn o) (rx:RelV v x)
 (ac : ∀g2,uf g2 z it ((i+1:Nat):Int) x->PH z g g2->Inv X C σ (upd H s.heap.objs.size<|.tup [.int i,v]) {s with heap:=g2,toks:=Y+1}->H s.heap.objs.size=ed->
   (∀b ∈ [z,it],upd H s.heap.objs.size (.tup [.int i,v]) b=ed)->Q () {s with heap:=g2,toks:=Y+1}) :
 wpAny (fe X.prog X.w) X.A (L0 (.Tuple J x1 L) (.ref z)<|.ref s.heap.objs.size) Q E {s with heap:=g,toks:=Y+1}:=by
 refine _l a1 λg2 o9 a=>?_;have d:n9 g2 s.heap.objs.size (.int i Y) x:=a.extBut _ _ (OF Z) a3;have h : ∀O u,O ∉ [z,it]->s.heap.get? O=dn u->g2.get? O=dn u:=λO u U e=>by simp only[MS,Nu,or_false,not_or]at U;exact a.extBut _ _ U.1<|a5 O u U.1 U.2 e
 refine ac g2 (by have:=o9;rwa [show((i:Int)+1)=((i+1:Nat):Int)by omega]at this) a (I.N1 (fp:=[z,it]) h S (MM _) ⟨by show 2<=gm;decide,[.int i Y,x],.cons ⟨_,rfl⟩<|.cons rx .nil,⟨_,d,rfl,_,rfl⟩⟩) I.fresh λO U=>?_;have f:O≠s.heap.objs.size:=by
  simp only[MS,Nu,or_false]at U;rcases U with rfl | rfl
  ·exact Nt Z
  ·exact Nt hi
 rw[zN f];exact(S O U).1
noncomputable def IB(K:MC)(a:ej):It:=
 ⟨λi H=>∃b,gv K H a b/\i<b.length,
  λi H x d=>∃p u,x = .ref p/\H p=ed/\d=upd H p (.tup [.int i,u])/\(∀b,gv K H a b->b[i]? = dn u),
  λi H=>∃b,gv K H a b/\b.length=i⟩
theorem bP{P:i6}{w:h9}{K:MC}{elts:List e9}{x1:Nat}{tr:hL}{z it a:ej}(ak:z≠it) :
 Turn P w K (.Tuple elts x1 tr) (IB K a) [z,it] z (λi h=>(∃Y,uf h z it i Y)/\h.IsListIter it a i) where
 mem:=by simp
 obj:=λi h ⟨⟨Y,O⟩,h1⟩ y hy=>by
  simp only[MS,Nu,or_false]at hy;rcases hy with rfl | rfl
  ·exact⟨_,O,λv q=>by cases q⟩
  ·obtain⟨o,e,c,d⟩:=h1
   exact⟨o,e,λv q=>by rw[d]at q;cases q⟩
 keep:=λi h h' ⟨⟨Y,O⟩,h1⟩ k=>⟨⟨Y,k z ⋯ _ O⟩,h1.at λo e=>k it ⋯ o e⟩
 item:=by
  rintro X rfl rfl rfl hc i pins s σ H E I hf ⟨⟨Y,O⟩,h1⟩ ⟨xs,a7,b7⟩;obtain⟨a8,a9,p1,z1⟩:=I.list a7;have hl:=p1.isList;have hx:xs[i]? = dn xs[i]:=MF b7;have l1:=a9.length;have ar:a≠it:=λe=>by obtain⟨o,e1,U,_⟩:=hl;obtain⟨o2,e2,c2,_⟩:=h1;rw[e,e2]at e1;cases e1;rw[c2]at U;exact absurd U ⋯
  have b9:z≠a:=λe=>by obtain⟨o,e1,U,_⟩:=hl;have b5:s.heap.get? z=dn _:=O;rw[e,e1]at b5;cases b5;exact absurd U ⋯
  have bb:it<s.heap.objs.size:=by obtain⟨o2,e2,_⟩:=h1;exact Na e2
  have Dr:=Draws.list (prog:=X.prog) (w:=X.w) (A:=X.A.in1) (show X.A.in1.handled=ed from I.ok.hd hc) it a ar a8.toArray;refine wpAny_pyNext_enum_itemD Dr O ⟨h1,hl⟩ (by simp;omega) ak (by simp;exact⟨ak,b9⟩) λx g tk hP a1 a2 a3 a4 a5=>⟨_,rfl,?_⟩;obtain⟨u1,bl,bm⟩:=a9.get hx;obtain rfl:u1=x:=by have:=hP;simp[bl]at this;exact this
  refine pd I hf (Na O) bb a1 a3 a5 bm λg2 b1 b2 I1 bt hn=>⟨.ref s.heap.objs.size,_,I1,rfl,⟨_,_,rfl,bt,rfl,λc6 bv=>by rw[I.S2 bv a7];exact hx⟩,⟨⟨_,b1⟩,a2.1.at λo e=>b2.extBut _ _ ak.symm e⟩,hn⟩
 done:=by
  rintro X rfl rfl rfl hc i pins s σ H E I hf ⟨⟨Y,O⟩,h1⟩ ⟨xs,a7,hi⟩;obtain⟨a8,a9,p1,z1⟩:=I.list a7;have hl:=p1.isList;have l1:=a9.length;have ar:a≠it:=λe=>by obtain⟨o,e1,U,_⟩:=hl;obtain⟨o2,e2,c2,_⟩:=h1;rw[e,e2]at e1;cases e1;rw[c2]at U;exact absurd U ⋯
  have Dr:=Draws.list (prog:=X.prog) (w:=X.w) (A:=X.A.in1) (show X.A.in1.handled=ed from I.ok.hd hc) it a ar a8.toArray;have en:a8.toArray.size=i:=by simp;omega
  rw[en]at Dr;refine wpAny_pyNext_enum_endD Dr O ⟨h1,hl⟩ λg hk=>⟨rfl,?_⟩;refine I.C5 (t':=s.toks) (fp:=[z,it]) (λb' u hb e=>?_) hf;simp only[MS,Nu,or_false,not_or]at hb;exact hk b' u hb.2 e
 self:=λ_ _ _ _ _ st h=>wW st.1.choose_spec h
noncomputable def EG(K:MC)(C:TA):TI:=λf H R=>C f H λd b=>∃a,d=[.ref a]/\(∃e,gv K b a e)/\R (IB K a) b
section
variable{X:Cx}{e1:e9}{ta:TA}{p pos:hL}{elts:List e9}{x1:Nat}{tr:hL}
theorem nX(Y:Gl X "enumerate")(J:X.mg "enumerate" = ed)(C:PA X [e1] ta)
 (S:A7 "enumerate" = dn (.type "enumerate")) (L:gu [e1] X.env=[(eh,fh e1 X.env)]:=by rfl) :
 PI X (.Tuple elts x1 tr) (.Call (.Name "enumerate" p) [e1] [] pos) (EG X.K ta):=by
 intro b s n H R I h;refine DH<|yT I Y J S<|Ob (f6 (C pos b s n H _ I h) λt d j=>?_) (by rw[L];rfl) rfl;obtain⟨u,e,z,m,l⟩:=j;obtain⟨a,rfl,⟨x,f⟩,q⟩:=l;obtain⟨w,rfl,i⟩:=vJ m;cases i;obtain⟨o,r,k,y⟩:=z.list f;refine call_enumerate_list k.isList λg b1 b2 b3 b4=>wW (s:={d with heap:=g}) b1 ?_;refine⟨_,[d.heap.objs.size+1,d.heap.objs.size],_,_,e,rfl,z.kept (t':=d.toks) b4,bP<|OF<|OM _,⟨⟨_,b1⟩,b2⟩,λc O=>?_,q⟩;have U:d.heap.objs.size<=c:=by
  simp only[MS,Nu,or_false]at O;rcases O with rfl | rfl
  ·exact Nv _ _
  ·exact MM _
 exact z.B4 U<|z.gj.fresh U
end
end L2
namespace DL
open PySem PySem.Spec PyProof.Rows L2
theorem bM{K:MC}{H0 C:Hp}{a:ej}{xs:List V}{ds:List D}(h:gv K C a xs)(r:eA K H0 ds xs):Walk K H0 C (IB K a) (xG ds):=by
 have U:=r.length;have Y:(xG ds).length=ds.length:=by simp[xG]
 refine⟨λi b s k=>?_,λb s=>?_,λi b x g s k y=>?_⟩
 ·exact⟨xs,s.seq h,by omega⟩
 ·exact⟨xs,s.seq h,by omega⟩
 ·obtain⟨p,u,rfl,z,rfl,I⟩:=y
  obtain⟨d,j,O⟩:=r.xg<|I xs<|s.seq h;refine⟨.tup [.int i,d],?_,λf l e=>⟨upd f p<|.tup [.int i,u],Ext.alloc e z _,?_⟩⟩
  ·unfold xG
   rw[Nw,OT ⋯,MP,j];rfl
  ·exact ki (hB.of zS)<|eA.cons (show V.int i = .int i from rfl)<|eA.cons ((O.mono l).mono (jr (jA e z) _)) eA.nil
section
variable{X:Cx}{sc:ij}{N L:List Str}{k:Nat}{a b e:e9}{pos p p2:hL}{f fa fb:CO D}
theorem uB(h:SX X sc N L k)(c:vQ sc "enumerate" = d7)(z:X.mg "enumerate" = ed)(C:PV X a f)(O:gu [a] X.env=[(eh,fh a X.env)]:=by rfl) :
 i5 X (.Tuple elts x1 tr) (.Call (.Name "enumerate" p) [a] [] pos) (aw f):=
 KD (nX (h.gl c).1 z (jT C xj O) F_ O) λs H R Y=>by
  obtain⟨g,m,n,rc,I,q⟩:=Y;obtain⟨d,j,I⟩:=zf I;cases d with
  | lst o=>
   cases I;refine⟨g,m,_,rc,j,λv e b x r=>?_⟩;obtain⟨i,l,rfl,U,g2⟩:=gO r;exact⟨i,rfl,⟨l,x.sub.seq U⟩,q _ e b x<|bM U g2⟩
  | _=>cases I
end
end DL
namespace DL
open PySem L2 PyProof.Rows
open PySem.W (KasT kas_sort kas_asc kas_desc kas_tail3 kas_descPart kas_count kas_place kas_bin kas_rev)
noncomputable def Good{C:Type}(n:Nat)(P:C->Prop):KasT C->Prop
 | .ret a=>P a
 | .ask i j k=>i<n/\j<n/\∀b,Good n P<|k b
theorem Good.mono{C:Type}{n:Nat}{P z:C->Prop}(h : ∀a,P a->z a) : ∀{t:KasT C},Good n P t->Good n z t
 | .ret a,g=>h a g
 | .ask i j k,g=>⟨g.1,g.2.1,λb=>(g.2.2 b).mono h⟩
theorem Good.bind{C β:Type}{n:Nat}{P:C->Prop}{z:β->Prop}{f:C->KasT β}(I : ∀a,P a->Good n z (f a)) : ∀{t:KasT C},Good n P t->Good n z (t.bind f)
 | .ret a,g=>I a g
 | .ask i j k,g=>⟨g.1,g.2.1,λb=>(g.2.2 b).bind I⟩
theorem Good.run : ∀{t:KasT α},Good n P t->P (ku lt t)
 | .ret a,g=>g
 | .ask i j k,g=>(g.2.2 _).run
def Pm(n:Nat)(p:Array Nat):Prop:=p.toList.Perm<|MB n
theorem Pm.lt(h:Pm n p)(C:0<n)(i:Nat):p.getD i 0<n:=by
 by_cases a:i<p.size
 ·have e:p.getD i 0=p[i]:=by simp[Array.getD,a]
  rw[e];exact MD.mp<|h.mem_iff.mp ⋯
 ·have e:p.getD i 0=0:=by simp[Array.getD,a]
  rw[e];exact C
theorem Pm.rev(h:Pm n p)(i j:Nat):Pm n (kas_rev p i j):=(Array.perm_iff_toList_perm.mp<|mirror_perm p i j _).trans h
theorem Pm.G_(h:Pm n p)(i j:Nat):Pm n (bubble p i j):=(Array.perm_iff_toList_perm.mp<|bubble_perm p i j).trans h
theorem KS(h:Pm n p)(C:0<n) : ∀f m,Good n (λ_=>True) (kas_asc p f m)
 | 0,m=>trivial
 | f+1,m=>⟨h.lt C _,h.lt C _,λb=>by
  cases b with
  | true=>exact trivial
  | false=>exact KS h C f<|m+1⟩
theorem wX(C:0<n) : ∀f p m q,Pm n p->Good n (λr=>Pm n r.1) (kas_desc f p m q)
 | 0,p,m,q,h=>h
 | f+1,p,m,q,h=>⟨h.lt C _,h.lt C _,λb=>by
  cases b with
  | true=>
   show Good n _ (if q>0 then _ else _);split
   ·exact wX C f _ _ _<|h.rev _ _
   ·exact wX C f _ _ _ h
  | false=>exact⟨h.lt C _,h.lt C _,λd=>by
   cases d with
   | true=>exact h
   | false=>exact wX C f _ _ _ h⟩⟩
theorem Vq{n:Nat}(C:0<n)(m r:Nat){p:Array Nat}(h:Pm n p):Good n (λr=>Pm n r.2) (kas_tail3 m r p):=by unfold kas_tail3;refine Good.bind (P:=λ_=>True) (λa _=>?_)<|KS (h.rev _ _) C _ _;exact(show Pm n (kas_rev p 0 m)from h.rev _ _)
theorem Vr{n:Nat}(C:0<n)(m r:Nat){p:Array Nat}(h:Pm n p):Good n (λr=>Pm n r.2) (kas_descPart m r p):=
 (wX C _ _ _ _ h).bind λa b=>by
   show Good n _ (if a.2.2>0 then _ else _);split
   ·exact Vq C _ _<|Pm.rev b _ _
   ·exact Vq C _ _ b
theorem dc{n:Nat}(C:0<n)(r:Nat){p:Array Nat}(h:Pm n p):Good n (λr=>Pm n r.2) (kas_count r p):=
 (KS h C _ _).bind λm _=>by
   show Good n _ (if (m==r)=d7 then _ else if m>1 then _ else _);split
   ·exact h
   ·split
    ·exact⟨h.lt C _,h.lt C _,λc=>by
      cases c with
      | true=>exact h
      | false=>exact Vr C _ _<|h.rev _ _⟩
    ·exact Vr C _ _ h
theorem ZD(C:0<n)(h:Pm n p)(k:Nat) : ∀f l r,Good n (λ_=>True) (kas_place p k f l r)
 | 0,l,r=>trivial
 | f+1,l,r=>by
  show Good n _ (if l>=r then _ else _);split
  ·exact trivial
  ·exact⟨h.lt C _,h.lt C _,λc=>by
    cases c with
    | true=>exact ZD C h k f _ _
    | false=>exact ZD C h k f _ _⟩
theorem ba{n:Nat}(C:0<n) : ∀f p k,Pm n p->Good n (Pm n) (kas_bin f p k)
 | 0,p,k,h=>h
 | f+1,p,k,h=>(ZD C h k k 0 k).bind λl _=>ba C f _ _<|h.G_ _ _
theorem QM{n:Nat}(C:0<n):Good n (Pm n) (kas_sort n):=
 (dc C n<|show Pm n (PB<|MB n)from List.Perm.refl _).bind λr z=>by
   show Good n _ (if r.1<n then _ else _);split
   ·exact ba C _ _ _ z
   ·exact z
theorem qa(ps:List (Int×Int)):(qu ps).Perm (MB ps.length):=by
 unfold qu;split
 ·exact List.Perm.refl _
 ·exact(QM ⋯).run
theorem YX : ∀{ds:List D} {ps:List (Int×Int)},ZK ds=dn ps->ps.length=ds.length
 | [],ps,h=>by cases h;rfl
 | d::ds,ps,h=>by
  unfold ZK at h;cases e1:oh d with
  | none=>rw[e1]at h;cases h
  | some x=>
   cases e2:ZK ds with
   | none=>rw[e1,e2]at h;cases h
   | some l=>rw[e1,e2]at h;cases h;simp[YX e2]
theorem je(d:α) : ∀ds:List α,(MB ds.length).map (λi=>ds.getD i d)=ds:=λds=>by
 apply OI;intro i;by_cases a:i<ds.length
 ·simp[a]
 ·simp[a,Nat.not_lt.mp a]
end DL
namespace DL
open PySem PySem.Spec PyProof.Rows L2
open PySem.W (KasT kas_sort kas_ask kat_run kat_snds kat_lt kat_cons kat_no kat_yes kat_nil kat_go kat_one kat_kind KatTups KatGo)
theorem WA(z : ∀i j C,i<n->j<n->C (lt i j) s->cmp i j C s) :
 ∀{t:KasT α},Good n P t->Q (ku lt t) s->t.kasWp cmp Q s
 | .ret _,_,q=>q
 | .ask i j k,g,q=>z i j _ g.1 g.2.1<|WA z (g.2.2 _) q
noncomputable def wo(h:gb)(v:el)(k l:Int):Prop:=∃x o a m t u,v = .ref x/\h.get? x=dn o/\o.cls = .type "tuple"/\o.data = .seq a m/\a.toList=[.int k t,.int l u]
theorem wo.keep{h h':gb}{v:el}{k l:Int}(a:wo h v k l)(e : ∀b o,h.get? b=dn o->o.cls = .type "tuple"->h'.get? b=dn o):wo h' v k l:=by obtain⟨x,o,g,m,t,u,d,f,z,I,O⟩:=a;exact⟨x,o,g,m,t,u,d,e x o f z,z,I,O⟩
theorem wo.one(a:wo h v k l):Fp h v k:=by obtain⟨x,o,e,m,t,u,b,d,z,I,O⟩:=a;exact⟨x,o,e,m,t,b,d,z,I,by rw[<- Array.getElem?_toList,O];rfl⟩
section
variable{prog:i6}{w:h9}{A:mu}{E:EQ}{s:eK}
theorem J8{a:ej}{vs:List el}{ps:List (Int×Int)}{n:Nat}{P:PySem.Fin->eK->Prop}(J:s.heap.get? a=dn (g5 "list" vs.toArray n))(L:ps.length=vs.length)(as:vs.length<64)
 (hT : ∀i (hi:i<vs.length),wo s.heap vs[i] (ps.getD i (0,0)).1 (ps.getD i (0,0)).2)
 (h:P (.done<|.ret .none) {s with heap:=sortedHeap s.heap a vs (PB<|(qu ps).map λi=>vs.getD i NH)}) :
 wpAny (fe prog w) A (n5.«list.sort» ⟨[.ref a],[]⟩) P E s:=by
 rw[list_sort_plain];have ha:a<s.heap.objs.size:=Na J;have K:vs.length<=gm:=by rw[PU];omega
 refine MA (S' J rfl ?_);refine MA (Ry J rfl ?_ (by rw[MR];exact K) (NY _));obtain⟨f,R⟩ : ∃f,(s.heap.update a (NC λ_=>#[])).get? a=dn (g5 "list" #[] f):=⟨_,SY J (λ_=>#[])⟩;refine MA (Tu R rfl ?_);refine MA (Sw ?_ (by show vs.length<=_;exact K));refine MA (TF ?_ (NY _));refine OV ?_;have d:(((s.heap.update a (NC λ_=>#[])).push (g5 "tuple" vs.toArray 0)).push (g5 "list" #[] 0)).get? a=dn (g5 "list" #[] f):=by rw[PL _ _ _ (by rw[TM,Pp];exact Nt (NT ha)),PL _ _ _ (by rw[Pp];exact Nt ha)];exact R
 show wpAny (fe prog w) A _ P E {s with heap:=((s.heap.update a (NC λ_=>#[])).push (g5 "tuple" vs.toArray 0)).push (g5 "list" #[] 0)};dsimp only;have l:vs.toArray.size=vs.length:=by simp
 by_cases F:vs.toArray.size<2
 ·rw[UJ F,UJ F]
  refine MA<|MN ?_;rw[StateT.run_pure];refine MA<|MN ?_;dsimp only;refine MA<|Tu d rfl ?_;have Z:Array.map (λx=>x.snd) (D9<|SortSt.mk' general' (vs.toArray.zip vs.toArray) #[] 7 ed)=vs.toArray:=by show Array.map (λx=>x.snd) (vs.toArray.zip vs.toArray)=_;apply Array.ext';simp[Array.toList_map,Array.toList_zip];rw[List.map_snd_zip (MM _)]
  have ev:(qu ps).map (λi=>vs.getD i NH)=vs:=by unfold qu;rw[UJ ⋯,L];exact je _ _
  rw[ev]at h;refine MA (Ry d rfl ?_ (NY _) (by rw[Z,l];exact Sm K));simp only[bne_self_eq_false,OE,if_false];have e8:({s with heap:=(((s.heap.update a (NC λx=>#[])).push (g5 "tuple" vs.toArray 0)).push (g5 "list" #[] 0)).update a (NC λx=>Array.map (λx=>x.snd) (D9 (SortSt.mk' general' (vs.toArray.zip vs.toArray) #[] 7 ed)))}:eK) = {s with heap:=sortedHeap s.heap a vs vs.toArray}:=by rw[Z];rfl
  refine MN ?_;rw[<- e8]at h;exact h
 ·rw[UY F,UY F]
  have n2:2<=vs.length:=by rw[<- l];omega
  have keep : ∀b o,s.heap.get? b=dn o->o.cls = .type "tuple"->(((s.heap.update a (NC λ_=>#[])).push (g5 "tuple" vs.toArray 0)).push (g5 "list" #[] 0)).get? b=dn o:=λb o e hc=>by
   have b8:b≠a:=λz=>by rw[z,J]at e;cases e;exact absurd hc (by show ¬(Ro "list" = Ro "tuple");decide)
   exact ME _<|ME _<|(SW _ _ _ _ b8).trans e
  generalize hg:((s.heap.update a (NC λ_=>#[])).push (g5 "tuple" vs.toArray 0)).push (g5 "list" #[] 0)=g at d keep ⊢;have M : ∀i (hi:i<vs.length),wo g vs[i] (ps.getD i (0,0)).1 (ps.getD i (0,0)).2:=λi hi=>(hT i hi).keep keep;obtain⟨fs,f1,f2,f3⟩:=gZ (ks:=λi=>(ps.getD i (0,0)).1) λi hi=>(M i hi).one;refine MA (kat_kind (T:=Ro "int") (s:={s with heap:=g}) f1 ⋯ (λv hv=>?_) ⋯ ?_)
  ·obtain⟨k,t,rfl⟩:=f3 v hv
   exact PySem.W.Looks.of_pure rfl
  have ep:(ku (λi j=>vO (ps.getD i (0,0))<|ps.getD j (0,0))<|kas_sort vs.length).toList=qu ps:=by unfold qu;rw[UY ⋯,L]
  refine MA (OW (kat_run (E:=E) (ks:=vs) (Q:=λB r=>∃p:Array Nat,D9 B=p.map (PySem.W.kas_item<|vs.toArray.zip vs.toArray)/\failedOf B=ed/\p.toList=qu ps/\r = {s with heap:=g})
   (G:=λp r=>p.toList=qu ps/\r = {s with heap:=g})
   rfl n2 as (λp B r a1 a2 a3 N=>⟨p,a2,a3,N.1,N.2⟩) (WA (lt:=λi j=>vO (ps.getD i (0,0))<|ps.getD j (0,0)) (λi j C hi hj I=>?_) (QM ⋯) ⟨ep,rfl⟩)) ?_ λ_ _ e=>e)
  ·show wpAny _ _ (keyLt' _ (vs.getD i NH)<|vs.getD j NH) C _ _
   rw[show vs.getD i NH=vs[i]by simp[hi],show vs.getD j NH=vs[j]by simp[hj]];obtain⟨x,ox,xs,m,t,u,f,e2,e3,e4,X⟩:=M i hi;obtain⟨y,oy,ys,m',t',u',d1,d2,d3,d4,S⟩:=M j hj;rw[f,d1];refine kat_lt e2 e4 d2 d4 ?_;have c0:xs.size=2:=by rw[<- Oo,X];rfl
   have c1:ys.size=2:=by rw[<- Oo,S];rfl
   rw[X,S,c0,c1,Pw,Pw];unfold vO at I;generalize ps.getD i (0,0)=U at I ⊢;generalize ps.getD j (0,0)=Y at I ⊢;refine kat_cons<|PX U.1 t Y.1 t' _ _ _ _ ?_;refine kat_go (λO=>?_) λO=>?_
   ·have O:U.1=Y.1:=by simpa using O
    rw[UJ O]at I;refine kat_yes<|kat_cons<|PX U.2 u Y.2 u' _ _ _ _<|kat_go (λH=>?_) λH=>?_
    ·have H:U.2=Y.2:=by simpa using H
     refine kat_yes<|kat_nil ?_;rw[show decide (U.2<Y.2)=eh by rw[H];simp]at I;exact I
    ·exact kat_no<|kat_one _ _<|lt_int I
   ·have O:U.1≠Y.1:=by simpa using O
    rw[UY O]at I;exact kat_no<|oneLt_int I
  rintro⟨⟨⟩,B⟩ r ⟨p,c2,hf,hp,rfl⟩;dsimp only;have c5:=kat_snds rfl c2;have c6:((qu ps).map λi=>vs.getD i NH).length=vs.length:=by rw[Nf,(qa ps).length_eq,NI,L]
  rw[c5,hp];refine MA<|Tu d rfl ?_;refine MA<|Ry d rfl ?_ (NY _) (by rw[MR];show((qu ps).map λi=>vs.getD i NH).length<=_;rw[c6];exact Sm K);rw[hf];simp only[bne_self_eq_false,OE,if_false];subst hg;exact MN h
theorem YJ{l:ej}{vs:List el}{ps:List (Int×Int)}{Q:EQ}(U:s.heap.IsList l vs.toArray)(Y:ps.length=vs.length)(C:vs.length<64)
 (J : ∀i (hi:i<vs.length),wo s.heap vs[i] (ps.getD i (0,0)).1 (ps.getD i (0,0)).2)
 (h:Q (.ref<|s.heap.objs.size+1) {s with heap:=sortedAll s.heap vs (PB<|(qu ps).map λi=>vs.getD i NH)}) :
 wpAny (fe prog w) A (call (.builtin "sorted") [.ref l]) Q E s:=by
 have I:vs.length<=gm:=by rw[PU];omega
 refine Calls.call_function_entry kind_sorted plain_sorted entry_sorted (args_sorted1 _) ?_;unfold n5.«sorted»;refine MA (m:=checkCount "sorted" 1 1 _) (MN ?_);refine MA (collect_list U ?_ I);refine MA (TF ?_ I);have a:((s.heap.push (g5 "list" #[] 0)).update s.heap.objs.size (NC (· ++ vs.toArray))).objs.size=s.heap.objs.size+1:=by rw[Pp,TM]
 have O:(((s.heap.push (g5 "list" #[] 0)).update s.heap.objs.size (NC (· ++ vs.toArray))).push (g5 "list" vs.toArray 0)).get? (s.heap.objs.size+1)=dn (g5 "list" vs.toArray 0):=by rw[<- a];exact MV _ rfl
 have keep : ∀b o,s.heap.get? b=dn o->(((s.heap.push (g5 "list" #[] 0)).update s.heap.objs.size (NC (· ++ vs.toArray))).push (g5 "list" vs.toArray 0)).get? b=dn o:=λb o q=>by have z:b<s.heap.objs.size:=Na q;rw[PL _ _ _ (by rw[a];exact Nt (NT z)),SW _ _ _ _ (Nt z),PL _ _ _ (Nt z)];exact q
 show wpAny _ _ _ _ _ {s with heap:=((s.heap.push (g5 "list" #[] 0)).update s.heap.objs.size (NC (· ++ vs.toArray))).push (g5 "list" vs.toArray 0)};rw[a];refine MA (OV (Ow slot_list_sort ⟨_,O,rfl⟩ entry_list_sort (J8 (s:={s with heap:=((s.heap.push (g5 "list" #[] 0)).update s.heap.objs.size (NC (· ++ vs.toArray))).push (g5 "list" vs.toArray 0)}) O Y C (λi hi=>(J i hi).keep λb o e _=>keep b o e) ⟨_,rfl,?_⟩) (args_list_sort _)));exact MN ⟨_,rfl,h⟩
end
section
variable{X:Cx}
noncomputable def Ca(K:MC):List V->Hp->VK->Prop:=λe H Q=>∃l b d,e=[.ref l]/\gv K H l b/\d.length=b.length/\b.length<64/\
 (∀i (f:i<b.length),∃a,b[i]=V.ref a/\hB K H a [.int ((d:List (Int×Int)).getD i (0,0)).1,.int (d.getD i (0,0)).2])/\∀p,H p=ed->Q (.ref p) (upd H p<|.lst<|(qu d).map λi=>b.getD i .ft)
theorem Vz:Ja X (.builtin "sorted") (Ca X.K):=by
 intro A s σ H vs us Q I rv h;obtain⟨l,f,ps,rfl,P,p,b7,G,B⟩:=h;obtain⟨u,rfl,ru⟩:=vJ rv;cases ru;obtain⟨z,r,W,S⟩:=I.list P;have b8:=r.length;refine YJ (ps:=ps) W.isList ⋯ ⋯ (λi d=>?_) ?_
 ·obtain⟨a,E,F⟩:=G i ⋯
  obtain⟨v,O,g2⟩:=r.get (i:=i) (x:=V.ref a) (by rw[MF ⋯,E]);have R:z[i]=v:=by rw[MF d]at O;exact ND O
  rw[R];cases g2;obtain⟨C,r2,⟨o,N,J,n,L⟩,_⟩:=I.tuple F;obtain⟨U,Y,rfl,k,m⟩ : ∃U Y,C=U::Y/\RelV (.int (ps.getD i (0,0)).1) U/\f9 [.int (ps.getD i (0,0)).2] Y:=by
   cases r2 with
   | cons k m=>exact⟨_,_,rfl,k,m⟩
  obtain⟨v2,rfl,Z⟩:=vJ m;obtain⟨t,rfl⟩:=k;obtain⟨u,rfl⟩:=Z;exact⟨a,o,_,n,t,u,rfl,N,J,L,rfl⟩
 ·obtain⟨e,y⟩:=sortedAll_at s.heap z (PB<|(qu ps).map λi=>z.getD i NH)
  have w:((qu ps).map λi=>f.getD i V.ft).length=f.length:=by rw[Nf,(qa ps).length_eq,NI,p]
  refine⟨.ref<|s.heap.objs.size+1,_,I.laid (t':=s.toks) (o:= .lst ((qu ps).map λi=>f.getD i .ft)) (λb o q=>sortedAll_old q) (RU _) ?_,rfl,B _<|I.gj.fresh<|RU _⟩;refine⟨by rw[w];exact S,(qu ps).map λi=>z.getD i NH,e,?_,y⟩;have g : ∀i∈qu ps,i<f.length:=λi d=>by have:=(qa ps).mem_iff.mp d;rw[p]at this;exact MD.mp this
  generalize qu ps=o at g;clear w y
  induction o with
  | nil=>exact .nil
  | cons i o T=>
   have d:=g i MX;refine .cons ?_ (T λj M=>g j<|MT _ M);obtain⟨v,O,g2⟩:=r.get (i:=i) (x:=f[i])<|MF d;show RelV (f.getD i V.ft) (z.getD i NH);rw[MI,MI,MF d,O];exact g2
theorem aJ : ∀{ds:List D} {ps:List (Int×Int)},ZK ds=dn ps->∀(i:Nat) d,ds[i]? = dn d->d = .tup [.int (ps.getD i (0,0)).1,.int (ps.getD i (0,0)).2]
 | [],ps,h,i,d,hd=>by simp at hd
 | c::ds,ps,h,i,d,hd=>by
  obtain⟨k,a,h⟩:=zf h;obtain⟨l,z,h⟩:=zF h;subst h;cases i with
  | zero=>
   simp at hd;subst hd;unfold oh at a;split at a
   ·cases a;rfl
   ·cases a
  | succ i=>simpa using aJ z i d (by simpa using hd)
theorem JQ{K:MC}{H:Hp}{ds:List D}{xs:List V}(r:eA K H ds xs) : ∀(o:List Nat),(∀i∈o,i<xs.length)->eA K H (o.map λi=>ds.getD i .ft) (o.map λi=>xs.getD i .ft)
 | [],_=>eA.nil
 | i::o,h=>by have a:=h i MX;obtain⟨d,b,z⟩:=r.xg<|MF a;refine eA.cons ?_ (JQ r o λj I=>h j<|MT _ I);show Rep K H (ds.getD i .ft) (xs.getD i .ft);rw[MI,MI,MF a,b];exact z
theorem nT{J:ij}{N L:List Str}{k:Nat}{e:e9}{pos p:hL}{C:CO (Sk×List D)}(h:SX X J N L k)(c:vQ J "sorted" = d7)(z:X.mg "sorted" = ed)(Z:PQ X e C)(U:gu [e] X.env=[(eh,fh e X.env)]:=by rfl) :
 PO X (.Call (.Name "sorted" p) [e] [] pos) (YN C):=
 qD (yw Vz (h.gl c).1 z ⋯ (jT Z xj U) ⋯ ⋯ U rfl) λσ H Q R=>by
  obtain⟨t,γ,u,rc,I,q⟩:=R;obtain⟨⟨W,g⟩,w,I⟩:=zf I;cases W with
  | T=>cases I
  | L=>
   have I:eP g=dn u:=I;unfold eP at I;obtain⟨s,Y,I⟩:=zf I;by_cases o:g.length<64
   ·rw[UJ o]at I
    cases I;have ap:=YX Y;refine⟨t,γ,.L,g,rc,w,λa xs H' f ext E h2 r=>?_⟩;have ar:=r.length;refine⟨a,xs,s,rfl,E,by omega,by omega,λi j=>?_,λl O=>?_⟩
    ·obtain⟨d,S,rd⟩:=r.xg (MF j)
     have B:=aJ Y i d S;subst B;obtain⟨b,zs,A,n,F⟩:=yq rd;refine⟨b,A,?_⟩;obtain⟨y,yr,x,G,K⟩:=F.m9;obtain⟨y2,b0,m,M,P⟩:=K.m9;rw[P.p5]at m;rw[x,m,jF G,jF M]at n;exact nf ext.sub n
    ·refine q l _ _ f (ext.trans<|Ext.hide ext.sub O _) (kJ ext.s1 O) (jA ext.sub O) zS ?_
     refine JQ r _ λi j=>?_;have:=(qa s).mem_iff.mp j;have:=MD.mp this;omega
   ·rw[UY o]at I;cases I
end
section
variable{X:Cx}{a b c:e9}{pos:hL}{fa fb fc:CO D}
theorem fN{U Y:CmpOp}{r C:R2}{F G:D->D->Option D}(ho:i9 X (oe U) r)(J:i9 X (oe Y) C)(s1:n7 X.K r F)(s2:n7 X.K C G)(ha:PV X a fa)(hb:PV X b fb)(hc:PV X c fc)
 (hm:Se [U,Y] [b,c]=eh:=by with_unfolding_all rfl):m4 X (.Compare a [U,Y] [b,c] pos) (sB<|kH F G fa fb fc):=
 Wa (nM ho J ha hb hc hm) λσ H Q hZ=>by
  obtain⟨i,h,kq,rc,A,q0⟩:=hZ;obtain⟨d,I,Z⟩:=zf A;have q : ∀v f e,Ext i H e f->Rep X.K e d v->∃k,v = .bl k/\Q k f:=λv f e x o=>by rw[Jt Z]at o;exact⟨kq,o,q0 f e x⟩
  obtain⟨x,N,I⟩:=zf I;obtain⟨y,P,I⟩:=zf I;obtain⟨k,R,I⟩:=zf I;obtain⟨l,S,m⟩:=zf R;refine⟨i,h,x,rc,N,λv1 H1 B x1 r1=>⟨B,h,y,rc.ext x1,P,λp s E O n=>s1 E s v1 p x y l _ O.sub (r1.mono O.s0) n S λv3 t j x3 r3=>?_⟩⟩;cases l with
  | bl k'=>
   cases m;refine⟨k,show v3 = .bl k from r3,?_⟩;cases k with
   | true=>
    rw[UJ rfl];rw[UJ rfl]at I;obtain⟨z,T,W⟩:=zf I;exact⟨j,h,z,((rc.ext x1).ext O).ext x3,T,λv4 u L g r4=>s2 L u p v4 y z d _ g.sub ((n.mono x3.s0).mono g.s0) r4 W λv5 w M x5 r5=>q v5 w M (((x1.trans O).trans x3).trans (g.trans x5)) r5⟩
   | false=>
    rw[UY ⋯];rw[UY ⋯]at I;cases I;exact q _ t j ((x1.trans O).trans x3) rfl
  | _=>cases m
end
end DL
namespace DL
open PySem PySem.Spec PyProof.Rows L2
theorem dR{H:Hp}{x:ej}{o C:HO}:upd (upd H x o) x C=upd H x C:=by
 funext b;by_cases h:b=x
 ·subst h;rw[zS,zS]
 ·rw[zN h,zN h,zN h]
theorem X7 : ∀{ds:List D} {C:List Int},Xz ds=dn C->Vh ds=dn (C.map OQ)
 | [],C,e=>by cases e;rfl
 | d::ds,C,e=>by
  cases d with
  | int i=>
   obtain⟨l,a,z⟩:=zF e;subst z;show((Ez<|.int i).bind λk=>(Vh ds).map λr=>k::r)=_;rw[X7 a];rfl
  | _=>cases e
theorem XO : ∀(ps acc:List (Key×V)),((acc++ps).map (·.1)).Nodup->nI acc ps=acc++ps
 | [],acc,_=>by simp[nI]
 | (k,v)::ps,acc,h=>by
  have d : ¬((acc.any λz=>decide<|z.1=k)=d7):=λq=>by obtain⟨z,a,b⟩:=Tx.mp q;rw[NR,Nk]at h;have:=(List.nodup_append.mp h).2.2 z.1 (Nb.mpr ⟨z,a,rfl⟩) k ⋯;exact this<|of_decide_eq_true b
  show nI (dE acc k v) ps=_;rw[show dE acc k v=acc++[(k,v)]by unfold dE;rw[UY d]];rw[XO ps (acc++[(k,v)]) (by simpa using h)];simp
theorem Y8 : ∀{C:List Int},C.Nodup->(C.map<|OQ (β:=Str)).Nodup
 | [],_=>by simp
 | n::C,h=>by simp only[Nk,Oq,Nb,OQ.injEq,exists_eq_right]at h ⊢;exact⟨h.1,Y8 h.2⟩
theorem KU{K:MC}{H:Hp}{i:Int} : ∀{ks vs:List D} {C:List Key} {xs:List V},Vh ks=dn C->C.length=xs.length->eA K H vs xs->
 (∀d,bh ks vs i=dn d->∃v,W5 (C.zip xs) (OQ i)=dn v/\Rep K H d v)/\(bh ks vs i=ed->W5 (C.zip xs) (OQ i)=ed)
 | [],vs,C,xs,e,l,r=>by cases e;exact⟨(λd q=>by cases q),λ_=>rfl⟩
 | k::ks,[],C,xs,e,l,r=>by rw[r.p5]at l ⊢;rw[List.length_eq_zero_iff.mp l];exact⟨(λd q=>by cases q),λ_=>rfl⟩
 | k::ks,v::vs,C,xs,e,l,r=>by
  obtain⟨I,a,f⟩:=zf e;obtain⟨O,g,h⟩:=zF f;subst h;obtain⟨x,U,rfl,n,o⟩:=r.m9;have Y:=KU (i:=i) g (by simpa using l) o;have step:I≠OQ i->W5 ((I::O).zip (x::U)) (OQ i)=W5 (O.zip U) (OQ i):=λb=>by rw[Pw];simp[W5,Pg,b]
  cases k with
  | int j=>
   cases a;by_cases z:j=i
   ·subst z
    refine⟨λd q=>⟨x,?_,?_⟩,λq=>?_⟩
    ·rw[Pw];exact Kj rfl
    ·have:v=d:=by simpa[bh]using q
     exact this ▸ n
    ·simp[bh]at q
   ·have b:(OQ j:Key)≠OQ i:=λq=>z (OQ.inj q)
    rw[step b];have m:bh (.int j::ks) (v::vs) i=bh ks vs i:=by simp[bh,z]
    rw[m];exact Y
  | str y=>
   cases a;rw[step (λq=>by cases q)];exact Y
  | _=>cases a
noncomputable def Kv(F G J:D->D->Option D)(C L O S:CO D):CO D:=λa=>(C a).bind λx=>(L a).bind λy=>((F x y).bind ra).bind λb=>if b=d7 then (O a).bind λz=>((G y z).bind ra).bind λI=>if I=d7 then (S a).bind λw=>J z w else dn (.bl eh)else dn (.bl eh)
@[simp] theorem ma(F G J a b c d):Kv F G J a b c d γ=(a γ).bind λx=>(b γ).bind λy=>((F x y).bind ra).bind λk=>if k=d7 then (c γ).bind λz=>((G y z).bind ra).bind λI=>if I=d7 then (d γ).bind λw=>J z w else dn (.bl eh)else dn (.bl eh):=rfl
noncomputable def FE(f:CO D)(γ:Ctx):Option (List D):=((f γ).bind ml).bind λn=>if inR n=d7/\n.toNat<=lim then dn (wB 0 n.toNat)else ed
@[simp] def Be:=@FE.eq_1
end DL
namespace L2
open PySem PySem.Spec PyProof.Rows
theorem Kk(a b c:el):checkTypeCall "zip" ⟨[a,b,c],[]⟩=pure ():=by kernel_rfl
theorem Vd(a b c:el):checkBuiltinCall "zip.__new__" ⟨[.type "zip",a,b,c],[]⟩=pure ():=by kernel_rfl
abbrev kR(h:gb)(T:ej)(a b c:el):Prop:=h.get? T=dn {cls:= .type "tuple",data:= .seq #[a,b,c]}
structure H9(z TI TO i1 i2 i3 l1 l2 l3:ej):Prop where
 TIz:TI≠z
 TOz:TO≠z
 i1z:i1≠z
 i2z:i2≠z
 DT:i3≠z
 TITO:TI≠TO
 TIi1:TI≠i1
 TIi2:TI≠i2
 E':TI≠i3
 TOi1:TO≠i1
 TOi2:TO≠i2
 DM:TO≠i3
 i12:i1≠i2
 R7:i1≠i3
 R8:i2≠i3
 l1z:l1≠z
 l2z:l2≠z
 l2TO:l2≠TO
 l2i1:l2≠i1
 UR:l3≠z
 K1:l3≠TO
 UO:l3≠i1
 UP:l3≠i2
section
variable{prog:i6}{w:h9}{A:mu}{E:EQ}{s:eK}
theorem Yt{T:ej}{a b c x:el}{k:Nat}{Q:Unit->eK->Prop}(z:kR s.heap T a b c)
 (h : ∀h',h'.get? T=dn {cls:= .type "tuple",data:= .seq ((#[a,b,c]:Array el).setIfInBounds k x)}->PH T s.heap h'->Q () {s with heap:=h'}) :
 wpAny (fe prog w) A (updateSeq T (·.setIfInBounds k x)) Q E s:=by
 have q:=RE (NC λ(t:Array el)=>t.setIfInBounds k x) z rfl;exact wpAny_updateSeq z rfl<|h _ (by rw[q];simp[NC])<|Su ..
theorem dH{k1 k2 k3:Sk}{z TI TO C J L S Z l3:ej}{n1 n2 n3:Nat}{xs ys zs:Array el}{x y v a b c:el}{Q:EQ}(D:H9 z TI TO C J L S Z l3)
 (Y:m7 s.heap z TI TO .none) (c0:kR s.heap TI (.ref C) (.ref J) (.ref L)) (c6:kR s.heap TO a b c)
 (h1:iW k1 s.heap C S n1) (h2:iW k2 s.heap J Z n2) (h3:iW k3 s.heap L l3 n3) (c8:k0 k1 s.heap S xs) (c9:k0 k2 s.heap Z ys) (ca:k0 k3 s.heap l3 zs) (hx:xs[n1]? = dn x) (hy:ys[n2]? = dn y) (hv:zs[n3]? = dn v)
 (hQ : ∀h',m7 h' z TI TO (xr s.heap.objs.size)->kR h' TO x y v->iW k1 h' C S (n1+1)->iW k2 h' J Z (n2+1)->iW k3 h' L l3 (n3+1)->kR h' s.heap.objs.size x y v->h'.objs.size=s.heap.objs.size+1->
   (∀c o,c≠z->c≠TO->c≠C->c≠J->c≠L->s.heap.get? c=dn o->h'.get? c=dn o)->Q (.ref s.heap.objs.size) {s with heap:=h'}) :
 wpAny (fe prog w) A (n5.«zip.__next__» ⟨[.ref z],[]⟩) (λch s'=>∃v,ch = .done (.ret v)/\Q v s') E s:=by
 refine MA (m:=field (.ref z) 2)<|NJ Y rfl (x:= .bool eh) rfl ?_;refine MA (m:=field (.ref z) 3)<|NJ Y rfl (x:= .ref TI) rfl ?_;refine MA<|Oe c0 rfl ?_;refine MA (m:=Nn<|.ref z) ?_;unfold Nn;refine MA<|NJ Y rfl (x:= .none) rfl<|MN ?_;simp only[if_true];refine MA<|Rm<|MA<|NJ Y rfl (x:= .ref TO) rfl ?_;refine MA<|NP Y ⋯ λg1 as d=>?_;replace as:m7 g1 z TI TO .ellipsis:=as;refine MA ?_;simp only[Sy,SF,RP,Sb];refine MA<|MA<|Pb ?_;refine MA (m:=MZ<|.ref C)<|xw (h1.at λo e=>d.extBut _ _ D.i1z e) (c8.at λo e=>d.extBut _ _ D.l1z e) hx λg2 cj k=>MN ?_;have W:kR g2 TO a b c:=k.extBut _ _ D.TOi1<|d.extBut _ _ D.TOz c6;refine MA<|Oe W rfl<|MA<|Yt W λg3 t l=>?_;replace t:kR g3 TO x b c:=t;have a1 : ∀c o,c≠z->c≠C->c≠TO->s.heap.get? c=dn o->g3.get? c=dn o:=λc o O U h e=>l.extBut _ _ h<|k.extBut _ _ U<|d.extBut _ _ O e;refine MA<|PR<|MN<|MA<|MA<|Pb ?_;refine MA (m:=MZ<|.ref J)<|xw (h2.at λo e=>a1 _ o D.i2z D.i12.symm D.TOi2.symm e) (c9.at λo e=>a1 _ o D.l2z D.l2i1 D.l2TO e) hy λg4 cm u=>MN ?_;have bl:kR g4 TO x b c:=u.extBut _ _ D.TOi2 t;refine MA<|Oe bl rfl<|MA<|Yt bl λT B F=>?_;replace B:kR T TO x y c:=B;have f : ∀c o,c≠J->c≠TO->g3.get? c=dn o->T.get? c=dn o:=λc o O U e=>F.extBut _ _ U<|u.extBut _ _ O e;refine MA<|PR<|MN<|MA<|MA<|Pb ?_;refine MA (m:=MZ<|.ref L)<|xw (h3.at λo e=>f _ o D.R8.symm D.DM.symm<|a1 _ o D.DT D.R7.symm D.DM.symm e) (ca.at λo e=>f _ o D.UP D.K1<|a1 _ o D.UR D.UO D.K1 e) hv λg6 co G=>MN ?_;have X:kR g6 TO x y c:=G.extBut _ _ D.DM B;refine MA<|Oe X rfl<|MA<|Yt X λI n H=>?_;replace n:kR I TO x y v:=n;have p : ∀c o,c≠L->c≠TO->T.get? c=dn o->I.get? c=dn o:=λc o O U e=>H.extBut _ _ U<|G.extBut _ _ O e;refine MA<|PR<|MN<|MN<|MA<|Oe n rfl<|MA<|Sw ?_;have i:I.objs.size=s.heap.objs.size:=by rw[H.1,G.1,F.1,u.1,l.1,k.1,d.1]
 have bn:m7 I z TI TO .ellipsis:=p _ _ D.DT.symm D.TOz.symm (f _ _ D.i2z.symm D.TOz.symm (l.extBut _ _ D.TOz.symm (k.extBut _ _ D.i1z.symm as)));have cq : ∀c o,c≠z->c≠TO->c≠C->c≠J->c≠L->s.heap.get? c=dn o->I.get? c=dn o:=λc o O U h P R e=>p c o R U (f c o P U (a1 c o O h U e));have cr:iW k1 I C S (n1+1):=cj.at λo e=>p _ o D.R7 D.TOi1.symm (f _ o D.i12 D.TOi1.symm (l.extBut _ _ D.TOi1.symm e));have cs:iW k2 I J Z (n2+1):=cm.at λo e=>p _ o D.R8 D.TOi2.symm (F.extBut _ _ D.TOi2.symm e);have ct:iW k3 I L l3 (n3+1):=co.at λo e=>H.extBut _ _ D.DM.symm e;have bt:z<I.objs.size:=Na bn;refine MA (m:=Oa (.ref z) (.ref I.objs.size)) ?_;unfold Oa;have cw:m7 (I.push {cls:= .type "tuple",data:= .seq #[x,y,v]}) z TI TO .ellipsis:=ME _ bn;refine MA (NP cw ⋯ λg9 K M=>?_);replace K:m7 g9 z TI TO (xr I.objs.size):=K;refine NP K ⋯ λg r N=>?_;replace r:m7 g z TI TO (xr I.objs.size):=r;have j : ∀c o,c≠z->I.get? c=dn o->g.get? c=dn o:=λc o O e=>N.extBut _ _ O (M.extBut _ _ O (ME _ e));have bv:kR g I.objs.size x y v:=N.extBut _ _ (OF bt) (M.extBut _ _ (OF bt) (MV _ rfl));have bx:g.objs.size=I.objs.size+1:=by rw[N.1,M.1,Nz]
 rw[i]at r bv bx;refine MN ⟨_,rfl,?_⟩;show Q (.ref I.objs.size) _;rw[i];exact hQ g r (j _ _ D.TOz n) (cr.at λo e=>j _ o D.i1z e) (cs.at λo e=>j _ o D.i2z e) (ct.at λo e=>j _ o D.DT e) bv bx λc o O U h P R e=>j c o O<|cq c o O U h P R e
theorem mL{k1 k2 k3:Sk}{z TI TO C J L l1 l2 l3:ej}{n1 n2 n3:Nat}{xs ys zs:Array el}{a b c:el}{Q:Fin->eK->Prop}(Z:A.handled=ed)(D:H9 z TI TO C J L l1 l2 l3)
 (S:m7 s.heap z TI TO .none) (bg:kR s.heap TI (.ref C) (.ref J) (.ref L)) (bi:kR s.heap TO a b c)
 (h1:iW k1 s.heap C l1 n1) (h2:iW k2 s.heap J l2 n2) (h3:iW k3 s.heap L l3 n3) (b7:k0 k1 s.heap l1 xs) (b8:k0 k2 s.heap l2 ys) (bm:k0 k3 s.heap l3 zs) (bn:xs[n1]? = ed\/ys[n2]? = ed\/zs[n3]? = ed)
 (hE : ∀h' e,(∀c o,c≠z->c≠TO->c≠C->c≠J->c≠L->s.heap.get? c=dn o->h'.get? c=dn o)->(∃o,h'.get? e=dn o/\o.cls = .type "StopIteration")->E (.ref e) {s with heap:=h'}) :
 wpAny (fe prog w) A (n5.«zip.__next__» ⟨[.ref z],[]⟩) Q E s:=by
 refine MA (m:=field (.ref z) 2) (NJ S rfl (x:= .bool eh) rfl ?_);refine MA (m:=field (.ref z) 3) (NJ S rfl (x:= .ref TI) rfl ?_);refine MA (Oe bg rfl ?_);refine MA (m:=Nn (.ref z)) ?_;unfold Nn;refine MA (NJ S rfl (x:= .none) rfl (MN ?_));simp only[if_true];refine MA (Rm (MA (NJ S rfl (x:= .ref TO) rfl ?_)));refine MA (NP S ⋯ λg1 r f=>?_);replace r:m7 g1 z TI TO .ellipsis:=r;refine MA ?_;simp only[Sy,SF,RP,Sb];refine MA (MA (Pb ?_));have as : ∀{g e:_} {i:m3},m7 g z TI TO .ellipsis->(∀c o,c≠z->c≠TO->c≠C->c≠J->c≠L->s.heap.get? c=dn o->g.get? c=dn o)->g.get? e=dn i->i.cls = .type "StopIteration"->
  wpAny (fe prog w) A (T7 (.ref z) 0 .none) (λ_ T=>E (.ref e) T) E {s with heap:=g}:=λ{g e i} o9 hk U d=>by
  have M:e≠z:=λq=>by subst q;rw[o9]at U;cases U;simp at d
  exact NP o9 ⋯ λg3 _ k=>hE g3 e (λc o I O Y n u q=>k.extBut _ _ I<|hk c o I O Y n u q) ⟨i,k.extBut _ _ M U,d⟩
 cases hx:xs[n1]? with
 | none=>
  refine MA (m:=MZ<|.ref C)<|vz Z (h1.at λo e=>f.extBut _ _ D.i1z e) (b7.at λo e=>f.extBut _ _ D.l1z e) hx λg2 e j p=>?_;obtain⟨i,U,d⟩:=p;exact as (j _ _ D.i1z.symm r) (λc o I _ Y _ _ q=>j _ _ Y<|f.extBut _ _ I q) U d
 | some x=>
  refine MA (m:=MZ<|.ref C)<|xw (h1.at λo e=>f.extBut _ _ D.i1z e) (b7.at λo e=>f.extBut _ _ D.l1z e) hx λg2 W j=>MN ?_;have B:kR g2 TO a b c:=j.extBut _ _ D.TOi1<|f.extBut _ _ D.TOz bi;refine MA<|Oe B rfl<|MA<|Yt B λg3 t k=>?_;replace t:kR g3 TO x b c:=t;have a1 : ∀c o,c≠z->c≠C->c≠TO->s.heap.get? c=dn o->g3.get? c=dn o:=λc o I O Y e=>k.extBut _ _ Y<|j.extBut _ _ O<|f.extBut _ _ I e;have F:m7 g3 z TI TO .ellipsis:=k.extBut _ _ D.TOz.symm<|j.extBut _ _ D.i1z.symm r;refine MA<|PR<|MN<|MA<|MA<|Pb ?_;cases hy:ys[n2]? with
  | none=>
   refine MA (m:=MZ<|.ref J)<|vz Z (h2.at λo e=>a1 _ o D.i2z D.i12.symm D.TOi2.symm e) (b8.at λo e=>a1 _ o D.l2z D.l2i1 D.l2TO e) hy λK e l p=>?_;obtain⟨i,U,d⟩:=p;exact as (l _ _ D.i2z.symm F) (λc o I O Y n _ q=>l _ _ n<|a1 c o I Y O q) U d
  | some y=>
   have R:zs[n3]? = ed:=by
    rcases bn with h | h | h
    ·rw[hx]at h;cases h
    ·rw[hy]at h;cases h
    ·exact h
   refine MA (m:=MZ<|.ref J)<|xw (h2.at λo e=>a1 _ o D.i2z D.i12.symm D.TOi2.symm e) (b8.at λo e=>a1 _ o D.l2z D.l2i1 D.l2TO e) hy λK X l=>MN ?_;have G:kR K TO x b c:=l.extBut _ _ D.TOi2 t;refine MA<|Oe G rfl<|MA<|Yt G λP cb N=>?_;have am : ∀c o,c≠J->c≠TO->g3.get? c=dn o->P.get? c=dn o:=λc o I O e=>N.extBut _ _ O<|l.extBut _ _ I e;refine MA<|PR<|MN<|MA<|MA<|Pb ?_;refine MA (m:=MZ<|.ref L)<|vz Z (h3.at λo e=>am _ o D.R8.symm D.DM.symm<|a1 _ o D.DT D.R7.symm D.DM.symm e) (bm.at λo e=>am _ o D.UP D.K1<|a1 _ o D.UR D.UO D.K1 e) R λg6 e H p=>?_;obtain⟨i,U,d⟩:=p;exact as (H _ _ D.DT.symm<|am _ _ D.i2z.symm D.TOz.symm F) (λc o I O Y n u q=>H _ _ u<|am c o n O<|a1 c o I Y O q) U d
end
def bQ(a b c:el):m3:={cls:= .type "tuple",data:= .seq #[a,b,c]}
noncomputable def yV(z I O:Sk)(h:gb)(C J L:ej):gb:=
 Nd (Nd (Nd (Nd (Nd (Nd h<|h8 z C)<|h8 I J)<|h8 O L)<|bQ (.ref h.objs.size) (.ref<|h.objs.size+1)<|.ref<|h.objs.size+2)<|bQ .none .none .none) (AU (h.objs.size+3)<|h.objs.size+4)
theorem mK(z I O:Sk)(C J L:ej)(xs ys S:Array el) :
 DI (n5.«zip.__new__» ⟨[.type "zip",.ref C,.ref J,.ref L],[]⟩) (λ_ R s=>k0 z s.heap C xs/\k0 I s.heap J ys/\k0 O s.heap L S/\
  R (.ok<|.ret<|.ref<|s.heap.objs.size+5) {s with heap:=yV z I O s.heap C J L}):=
 .of_wp λa w A R s h=>by
  obtain⟨U,g,d,Y,os⟩:=s;obtain⟨b,f,i,h⟩:=h;have m:=sub_zip;have j:k0 z (Sj ⟨U,g,d,Y,os⟩) C xs:=b;have k:k0 I (Sj ⟨U.push<|h8 z C,g,d,Y,os⟩) J ys:=f.at λo e=>ME _ e;have l:k0 O (Sj ⟨(U.push<|h8 z C).push (h8 I J),g,d,Y,os⟩) L S:=i.at λo e=>ME _<|ME _ e
  wp_walk using QE j,QE k,QE l
  refine⟨_,rfl,?_⟩;simp only[yV,bQ,AU,Nz]at h ⊢;exact h
theorem ip(a b c d:el):argsOk "object.__init__" ⟨[a,b,c,d],[]⟩:=by
 unfold argsOk;have e:=signature?_of (id:="object.__init__") (n:=['_','_','t','i','n','i','_','_']) (o:=['t','c','e','j','b','o']) (by kernel_rfl) F.owner_object;rw[e]
 kernel_rfl
noncomputable def IA(z I O:Sk)(K:MC)(a b c:ej):It:=
 ⟨λi H=>∃d e f,i7 z K H a d/\i7 I K H b e/\i7 O K H c f/\i<d.length/\i<e.length/\i<f.length,
  λi H x g=>∃p u v t,x = .ref p/\H p=ed/\g=upd H p (.tup [u,v,t])/\(∀d,i7 z K H a d->d[i]? = dn u)/\(∀e,i7 I K H b e->e[i]? = dn v)/\(∀f,i7 O K H c f->f[i]? = dn t),
  λi H=>∃d e f,i7 z K H a d/\i7 I K H b e/\i7 O K H c f/\(d.length<=i\/e.length<=i\/f.length<=i)⟩
theorem dU{P:i6}{w:h9}{K:MC}{elts:List e9}{x1:Nat}{tr:hL}(k1 k2 k3:Sk){z TI TO i1 i2 i3 a b c:ej}(D:H9 z TI TO i1 i2 i3 a b c) :
 Turn P w K (.Tuple elts x1 tr) (IA k1 k2 k3 K a b c) [z,TI,TO,i1,i2,i3] z (λi h=>m7 h z TI TO .none/\kR h TI (.ref i1) (.ref i2) (.ref i3)/\(∃c d e,kR h TO c d e)/\iW k1 h i1 a i/\iW k2 h i2 b i/\iW k3 h i3 c i) where
 mem:=by simp
 obj:=λi h b5 y hy=>by
  obtain⟨U,a0,⟨c,d,e,a8⟩,h1,h2,h3⟩:=b5;simp only[MS,Nu,or_false]at hy;rcases hy with rfl | rfl | rfl | rfl | rfl | rfl
  ·exact⟨_,U,λv q=>by cases q⟩
  ·exact⟨_,a0,λv q=>by cases q⟩
  ·exact⟨_,a8,λv q=>by cases q⟩
  ·exact h1.obj
  ·exact h2.obj
  ·exact h3.obj
 keep:=λi h h' b5 k=>by obtain⟨U,a0,⟨c,d,e,a8⟩,h1,h2,h3⟩:=b5;exact⟨k z ⋯ _ U,k TI ⋯ _ a0,⟨c,d,e,k TO ⋯ _ a8⟩,h1.at λo e=>k i1 ⋯ o e,h2.at λo e=>k i2 ⋯ o e,h3.at λo e=>k i3 ⋯ o e⟩
 item:=by
  rintro X hP hw hK hc i pins s σ H E I hf ⟨U,a0,⟨c,d,e,a8⟩,h1,h2,h3⟩ ⟨xs,ys,zs,as,ax,b0,bt,bv,bx⟩;subst hP hw hK;obtain⟨c0,b8,p1,z1⟩:=I.sq as;obtain⟨c2,bb,p2,z2⟩:=I.sq ax;obtain⟨c4,bd,p3,z3⟩:=I.sq b0;have hx:xs[i]? = dn xs[i]:=MF bt;have hy:ys[i]? = dn ys[i]:=MF bv;have hv:zs[i]? = dn zs[i]:=MF bx;obtain⟨u1,c6,c7⟩:=b8.get hx;obtain⟨u2,c8,c9⟩:=bb.get hy;obtain⟨u3,ca,cb⟩:=bd.get hv;have hT:s.TypeIs (.ref z) "zip":=⟨_,U,rfl⟩;unfold Dh;refine MA (Rw (Od (name:=NK "__next__") hT Dt (Ow Dt hT SH
   (dH D U a0 a8 h1 h2 h3 p1 p2 p3 (x:=u1) (y:=u2) (v:=u3) (by simpa using c6) (by simpa using c8) (by simpa using ca) λg a1 a2 a3 a4 a9 a5 a6 a7=>MN ⟨_,rfl,?_⟩) (SD _))))
  refine _m a1 λg2 o9 ak=>?_;have lt : ∀{c o},s.heap.get? c=dn o->s.heap.objs.size≠c:=λe=>OF<|Na e;have cm:kR g2 s.heap.objs.size u1 u2 u3:=ak.extBut _ _ (lt U) a5;have kk : ∀Y u,Y ∉ [z,TI,TO,i1,i2,i3]->s.heap.get? Y=dn u->g2.get? Y=dn u:=λY u O e=>by simp only[MS,Nu,or_false,not_or]at O;exact ak.extBut _ _ O.1<|a7 Y u O.1 O.2.2.1 O.2.2.2.1 O.2.2.2.2.1 O.2.2.2.2.2 e
  have I1:Inv X pins σ (upd H s.heap.objs.size<|.tup [xs[i],ys[i],zs[i]]) {s with heap:=g2,toks:=s.toks}:=
   I.N1 (fp:=[z,TI,TO,i1,i2,i3]) kk hf (MM _) ⟨by show 3<=gm;decide,[u1,u2,u3],.cons c7<|.cons c9<|.cons cb .nil,⟨_,cm,rfl,_,rfl⟩⟩
  have cq:H s.heap.objs.size=ed:=I.fresh;refine⟨.ref s.heap.objs.size,_,I1,rfl,⟨_,_,_,_,rfl,cq,rfl,λd0 ap=>by rw[I.DY ap as];exact hx,λd1 ap=>by rw[I.DY ap ax];exact hy,λd2 ap=>by rw[I.DY ap b0];exact hv⟩,?_,λY O=>?_⟩
  ·exact⟨o9,ak.extBut _ _ D.TIz<|a7 _ _ D.TIz D.TITO D.TIi1 D.TIi2 D.E' a0,⟨_,_,_,ak.extBut _ _ D.TOz a2⟩,a3.at λo e=>ak.extBut _ _ D.i1z e,a4.at λo e=>ak.extBut _ _ D.i2z e,a9.at λo e=>ak.extBut _ _ D.DT e⟩
  ·have cr:Y≠s.heap.objs.size:=by
    simp only[MS,Nu,or_false]at O;rcases O with rfl | rfl | rfl | rfl | rfl | rfl
    ·exact(lt U).symm
    ·exact(lt a0).symm
    ·exact(lt a8).symm
    ·obtain⟨o,e,_⟩:=h1.obj;exact(lt e).symm
    ·obtain⟨o,e,_⟩:=h2.obj;exact(lt e).symm
    ·obtain⟨o,e,_⟩:=h3.obj;exact(lt e).symm
   rw[zN cr];exact(hf Y O).1
 done:=by
  rintro X hP hw hK hc i pins s σ H E I hf ⟨U,a0,⟨c,d,e,a8⟩,h1,h2,h3⟩ ⟨xs,ys,zs,as,ax,b0,hi⟩;subst hP hw hK;obtain⟨c0,b8,p1,z1⟩:=I.sq as;obtain⟨c2,bb,p2,z2⟩:=I.sq ax;obtain⟨c4,bd,p3,z3⟩:=I.sq b0;have hT:s.TypeIs (.ref z) "zip":=⟨_,U,rfl⟩;have l1:=b8.length;have l2:=bb.length;have l3:=bd.length;unfold Dh;refine MA (Rw (Od (name:=NK "__next__") hT Dt (Ow Dt hT SH
   (mL (show X.A.handled=ed from I.ok.hd hc) D U a0 a8 h1 h2 h3 p1 p2 p3 (by
     rcases hi with q | q | q
     ·left;simp;omega
     ·right;left;simp;omega
     ·right;right;simp;omega) λg e hk he=>?_) (SD _))))
  obtain⟨o,ho,cy⟩:=he;refine MA (TQ (T:="StopIteration") (b:=d7) ⟨o,ho,cy⟩ UM (MN ⟨rfl,?_⟩));refine I.C5 (t':=s.toks) (fp:=[z,TI,TO,i1,i2,i3]) (λY u O e=>?_) hf;simp only[MS,Nu,or_false,not_or]at O;exact hk Y u O.1 O.2.2.1 O.2.2.2.1 O.2.2.2.2.1 O.2.2.2.2.2 e
 self:=λ_ _ _ _ _ st h=>SN st.1 h
theorem Gy{x y z:V}{us:List el}(r:f9 [x,y,z] us) : ∃u w' t,us=[u,w',t]/\RelV x u/\RelV y w'/\RelV z t:=by
 cases r with
 | cons I a=>
  cases a with
  | cons O U=>
   cases U with
   | cons Y b=>cases b;exact⟨_,_,_,rfl,I,O,Y⟩
noncomputable def Hv(K:MC)(C:TA):TI:=λi H R=>C i H λe d=>∃z I O a b c,e=[.ref a,.ref b,.ref c]/\(∃f,i7 z K d a f)/\(∃g,i7 I K d b g)/\(∃h,i7 O K d c h)/\R (IA z I O K a b c) d
theorem uC{X:Cx}{S Y C:e9}{ta:TA}{p pos:hL}{J:List e9}{x1:Nat}{L:hL}(hg:Gl X "zip")(hm:X.mg "zip" = ed)(ha:PA X [S,Y,C] ta)
 (hv:A7 "zip" = dn (.type "zip")) (hs:gu [S,Y,C] X.env=[(eh,fh S X.env),(eh,fh Y X.env),(eh,fh C X.env)]:=by rfl) (Z:gu [Y,C] X.env=[(eh,fh Y X.env),(eh,fh C X.env)]:=by rfl) :
 PI X (.Tuple J x1 L) (.Call (.Name "zip" p) [S,Y,C] [] pos) (Hv X.K ta):=by
 intro g s P H R I h;refine DH (yT I hg hm hv<|Ob (f6 (ha pos g s P H _ I h) λus d hZ=>?_) (by rw[hs,Z])<|by rw[Z];rfl);obtain⟨vs,t,i,r1,q1⟩:=hZ;obtain⟨z,O,U,a,b,c,e,⟨xs,T⟩,⟨ys,W⟩,⟨zs,b9⟩,q⟩:=q1;subst e;obtain⟨w1,w2,w3,eu,bd,be,bf⟩:=Gy r1;subst eu;cases bd;cases be;cases bf;obtain⟨bg,c6,y,z1⟩:=i.sq T;obtain⟨bi,c8,A,z2⟩:=i.sq W;obtain⟨bl,ca,B,z3⟩:=i.sq b9;have la:=y.lt;have lb:=A.lt;have lc:=B.lt;refine Uz F.called_zip ⋯ (Kk _ _ _) (Vd _ _ _) (λobj=>ip obj _ _ _) F.entry_zip_new (mK z O U a b c bg.toArray bi.toArray bl.toArray) ⟨y,A,B,?_⟩;have ps : ∀(h:gb) (o:m3) (c:ej) (u:m3),h.get? c=dn u->(h.push o).get? c=dn u:=λh o c u e=>ME _ e;have keep : ∀j o,d.heap.get? j=dn o->(yV z O U d.heap a b c).get? j=dn o:=λj o e=>ps _ _ _ _<|ps _ _ _ _<|ps _ _ _ _<|ps _ _ _ _<|ps _ _ _ _<|ps _ _ _ _ e;have E:(Nd d.heap<|h8 z a).objs.size=d.heap.objs.size+1:=Nz ..;have G:(Nd (Nd d.heap<|h8 z a)<|h8 O b).objs.size=d.heap.objs.size+2:=by rw[Nz,E]
 have M:(Nd (Nd (Nd d.heap<|h8 z a)<|h8 O b)<|h8 U c).objs.size=d.heap.objs.size+3:=by rw[Nz,G]
 have N:(Nd (Nd (Nd (Nd d.heap<|h8 z a)<|h8 O b)<|h8 U c)<|bQ (.ref d.heap.objs.size) (.ref<|d.heap.objs.size+1)<|.ref<|d.heap.objs.size+2).objs.size=d.heap.objs.size+4:=by rw[Nz,M]
 have y5:(Nd (Nd (Nd (Nd (Nd d.heap<|h8 z a)<|h8 O b)<|h8 U c)<|bQ (.ref d.heap.objs.size) (.ref<|d.heap.objs.size+1)<|.ref<|d.heap.objs.size+2)<|bQ .none .none .none).objs.size=d.heap.objs.size+5:=by rw[Nz,N]
 have g0:iW z (yV z O U d.heap a b c) d.heap.objs.size a 0:=(ZL z d.heap a).at λo e=>ps _ _ _ _<|ps _ _ _ _<|ps _ _ _ _<|ps _ _ _ _<|ps _ _ _ _ e;have g1:iW O (yV z O U d.heap a b c) (d.heap.objs.size+1) b 0:=by have q:=ZL O (Nd d.heap<|h8 z a) b;rw[E]at q;exact q.at λo e=>ps _ _ _ _<|ps _ _ _ _<|ps _ _ _ _<|ps _ _ _ _ e
 have bx:iW U (yV z O U d.heap a b c) (d.heap.objs.size+2) c 0:=by have q:=ZL U (Nd (Nd d.heap<|h8 z a)<|h8 O b) c;rw[G]at q;exact q.at λo e=>ps _ _ _ _<|ps _ _ _ _<|ps _ _ _ _ e
 have g2:kR (yV z O U d.heap a b c) (d.heap.objs.size+3) (.ref d.heap.objs.size) (.ref<|d.heap.objs.size+1) (.ref<|d.heap.objs.size+2):=by have q:_=dn (bQ (.ref d.heap.objs.size) (.ref<|d.heap.objs.size+1)<|.ref<|d.heap.objs.size+2):=MV (Nd (Nd (Nd d.heap<|h8 z a)<|h8 O b)<|h8 U c) (o:=bQ (.ref d.heap.objs.size) (.ref<|d.heap.objs.size+1)<|.ref<|d.heap.objs.size+2) rfl;rw[M]at q;exact ps _ _ _ _<|ps _ _ _ _ q
 have g3:kR (yV z O U d.heap a b c) (d.heap.objs.size+4) .none .none .none:=by have q:_=dn (bQ .none .none .none):=MV (Nd (Nd (Nd (Nd d.heap<|h8 z a)<|h8 O b)<|h8 U c)<|bQ (.ref d.heap.objs.size) (.ref<|d.heap.objs.size+1)<|.ref<|d.heap.objs.size+2) (o:=bQ .none .none .none) rfl;rw[N]at q;exact ps _ _ _ _ q
 have r:m7 (yV z O U d.heap a b c) (d.heap.objs.size+5) (d.heap.objs.size+3) (d.heap.objs.size+4) .none:=by have q:=MV (Nd (Nd (Nd (Nd (Nd d.heap<|h8 z a)<|h8 O b)<|h8 U c)<|bQ (.ref d.heap.objs.size) (.ref<|d.heap.objs.size+1)<|.ref<|d.heap.objs.size+2)<|bQ .none .none .none) (o:=AU (d.heap.objs.size+3)<|d.heap.objs.size+4) rfl;rw[y5]at q;exact q
 refine⟨⟨_,r,rfl⟩,SN (s:={d with heap:=yV z O U d.heap a b c}) r ?_⟩;have Q:Inv X g P t {d with heap:=yV z O U d.heap a b c,toks:=d.toks}:=i.kept keep;have c2 : ∀m:Nat,a≠d.heap.objs.size+m:=λm=>Nt<|Ng la<|Nv _ m;have l : ∀m:Nat,b≠d.heap.objs.size+m:=λm=>Nt<|Ng lb<|Nv _ m;have k : ∀m:Nat,c≠d.heap.objs.size+m:=λm=>Nt<|Ng lc<|Nv _ m;have f : ∀m n:Nat,m≠n->(d.heap.objs.size+m:Nat)≠d.heap.objs.size+n:=λm n h=>by omega
 have D:H9 (d.heap.objs.size+5) (d.heap.objs.size+3) (d.heap.objs.size+4) d.heap.objs.size (d.heap.objs.size+1) (d.heap.objs.size+2) a b c:=
  ⟨f 3 5 ⋯,f 4 5 ⋯,f 0 5 ⋯,f 1 5 ⋯,f 2 5 ⋯,f 3 4 ⋯,f 3 0 ⋯,f 3 1 ⋯,f 3 2 ⋯,f 4 0 ⋯,f 4 1 ⋯,f 4 2 ⋯,f 0 1 ⋯,f 0 2 ⋯,f 1 2 ⋯,
   c2 5,l 5,l 4,l 0,k 5,k 4,k 0,k 1⟩
 refine⟨_,[d.heap.objs.size+5,d.heap.objs.size+3,d.heap.objs.size+4,d.heap.objs.size,d.heap.objs.size+1,d.heap.objs.size+2],_,_,t,rfl,Q,dU z O U D,⟨r,g2,⟨_,_,_,g3⟩,g0,g1,bx⟩,λj x=>?_,q⟩;have w:d.heap.objs.size<=j:=by
  simp only[MS,Nu,or_false]at x;rcases x with rfl | rfl | rfl | rfl | rfl | rfl
  ·exact Nv _ _
  ·exact Nv _ _
  ·exact Nv _ _
  ·exact MM _
  ·exact Nv _ _
  ·exact Nv _ _
 exact i.B4 w<|i.gj.fresh w
end L2
namespace DL
open PySem L2
noncomputable def Kh(ds C fs:List D):List D:=(ds.zip<|C.zip fs).map λp=>D.tup [p.1,p.2.1,p.2.2]
noncomputable def eY(f g h:CO D)(γ:Ctx):Option (List D):=((f γ).bind jq).bind λm=>((g γ).bind jq).bind λn=>((h γ).bind jq).map λo=>Kh m.2 n.2 o.2
@[simp] def AN:=@eY.eq_1
open PySem.Spec PyProof.Rows
theorem dJ{U Y k3:Sk}{K:MC}{H0 L:Hp}{a b c:ej}{xs ys J:List V}{ds C fs:List D}(S:i7 U K L a xs)(r1:eA K H0 ds xs)(Z:i7 Y K L b ys)(r2:eA K H0 C ys)(z:i7 k3 K L c J)(r3:eA K H0 fs J) :
 Walk K H0 L (IA U Y k3 K a b c) (Kh ds C fs):=by
 have Q:=r1.length;have R:=r2.length;have T:=r3.length;have N:(Kh ds C fs).length=min ds.length (min C.length fs.length):=by simp[Kh]
 refine⟨λi e s H=>?_,λe s=>?_,λi e x m s H y=>?_⟩
 ·exact⟨xs,ys,J,k9 s S,k9 s Z,k9 s z,by omega,by omega,by omega⟩
 ·refine⟨xs,ys,J,k9 s S,k9 s Z,k9 s z,?_⟩
  rw[N];omega
 ·obtain⟨p,u,v,t,A,j,B,g1,g2,g3⟩:=y
  obtain⟨d,F,M⟩:=r1.xg<|g1 xs<|k9 s S;obtain⟨I,E,n⟩:=r2.xg<|g2 ys<|k9 s Z;obtain⟨f,G,o⟩:=r3.xg<|g3 J<|k9 s z;refine⟨.tup [d,I,f],?_,λl P k=>⟨upd l p<|.tup [u,v,t],?_,?_⟩⟩
  ·have w:(ds.zip<|C.zip fs)[i]? = dn (d,(I,f)):=Sa.mpr ⟨F,Sa.mpr ⟨E,G⟩⟩
   simp[Kh,w]
  ·rw[B];exact Ext.alloc k j _
  ·rw[A]
   have O:=λ{q:D} {y:V} (r:Rep K H0 q y)=>(r.mono P).mono (jr (jA k j)<|.tup [u,v,t]);exact(show ∃g h,V.ref p = .ref g/\hB K _ g h/\eA K _ [d,I,f] h from⟨p,[u,v,t],rfl,hB.of zS,eA.cons (O M)<|eA.cons (O n)<|eA.cons (O o) eA.nil⟩)
section
variable{X:Cx}{sc:ij}{N L:List Str}{k:Nat}{a b c:e9}{p pos:hL}{f g h:CO D}
theorem uz{C:List e9}{x1:Nat}{J:hL}(hS:SX X sc N L k)(cz:vQ sc "zip" = d7)(z:X.mg "zip" = ed)(ha:PV X a f)(hb:PV X b g)(hc:PV X c h)
 (Z:gu [a,b,c] X.env=[(eh,fh a X.env),(eh,fh b X.env),(eh,fh c X.env)]:=by rfl) (O:gu [b,c] X.env=[(eh,fh b X.env),(eh,fh c X.env)]:=by rfl) (S:gu [c] X.env=[(eh,fh c X.env)]:=by rfl) :
 i5 X (.Tuple C x1 J) (.Call (.Name "zip" p) [a,b,c] [] pos) (eY f g h):=
 KD (uC (hS.gl cz).1 z (jT ha (jT hb (jT hc xj S)<|by rw[O,S])<|by rw[Z,O]) PyProof.Rows.boot_zip Z O) λσ H R T=>by obtain⟨u,l,ds,rc,I,q⟩:=T;obtain⟨⟨W,m⟩,i,I⟩:=zf I;obtain⟨d,K,i⟩:=zf i;obtain⟨⟨k2,n⟩,U,I⟩:=zf I;obtain⟨G,M,U⟩:=zf U;obtain⟨⟨k3,o⟩,Y,I⟩:=zF I;obtain⟨t,P,Y⟩:=zf Y;subst I;refine⟨u,l,d,rc,K,λv H' e x r=>⟨e,l,G,rc.ext x,M,λv2 H2 E j r2=>⟨E,l,t,(rc.ext x).ext j,P,λv3 w F x3 r3=>?_⟩⟩⟩;obtain⟨y,xs,rfl,g1,g2⟩:=JN ((r.mono j.s0).mono x3.s0) i;obtain⟨A,ys,rfl,g3,Q⟩:=JN (r2.mono x3.s0) U;obtain⟨B,zs,rfl,s,g6⟩:=JN r3 Y;exact⟨W,k2,k3,y,A,B,rfl,⟨xs,k9 x3.sub g1⟩,⟨ys,k9 x3.sub g3⟩,⟨zs,k9 x3.sub s⟩,q _ w F ((x.trans j).trans x3)<|dJ g1 g2 g3 Q s g6⟩
end
noncomputable def IH(f g:CO D)(γ:Ctx):Option (List D):=((f γ).bind jq).bind λm=>((g γ).bind jq).bind λn=>if m.2.length<=lim then dn (ZR m.2 n.2)else ed
@[simp] def Gn:=@IH.eq_1
theorem Ve:N4 (.type "list") "keys" = pure ed:=by rw[typeLookup_type,H_];kernel_rfl
theorem XA:entryFor table "list.__getattribute__" = dn n5.«object.__getattribute__» :=
 entryFor_alias (id':="object.__getattribute__") (by kernel_rfl) (by first | rfl | decide +kernel) ⋯ (by kernel_rfl)
section
variable{prog:i6}{w:h9}{A:mu}{E:EQ}{h:gb}{g:Array GenState}{d:Drawn}{t:Nat}{os:OsState}{a:ej}{o:m3}
theorem J9(hx:h.get? a=dn ⟨.type "list",ed,.seq vs nk,sl⟩)(Y:A.handled=ed)
 (hE : ∀h' e t',(∀b u,h.get? b=dn u->h'.get? b=dn u)->(∃O,h'.get? e=dn O/\O.cls = .type "AttributeError")->E (.ref e) ⟨h',g,d,t',os⟩) :
 wpAny (fe prog w) A (n5.«object.__getattribute__» ⟨[.ref a,.str "keys" tk],[]⟩) Q E ⟨h,g,d,t,os⟩:=by
 have n:(⟨h,g,d,t,os⟩:eK).TypeIs (.ref a) "list":=⟨_,hx,rfl⟩;have k:=Ve
 repeat (any_goals (first | assumption | wp_step))
 unfold raiseAttrError;have f:((NK (toString "'" ++ toString ((Manifest.find? "list").elim "list" λx=>x.tpName)++toString "' object has no attribute '")++NK "keys" ++ NK "'"):Str).length<=gm:=by decide +kernel
 generalize (NK (toString "'" ++ toString ((Manifest.find? "list").elim "list" λx=>x.tpName)++toString "' object has no attribute '")++NK "keys" ++ NK "'")=z at f ⊢;refine MA (wpAny_mkStr (hx:=f) ?_);refine MA ?_;unfold newExc U3;refine MA (Ox ?_ (by size_fits));refine MA (m:=P9 _ _) (wpAny_of_eq (a:=NH) (by first | rfl | (simp only[P9];rfl)) ?_);refine Ox ?_ (by size_fits);simp only[Nz];have I:((h.push {cls:= .type "tuple",data:= .seq #[.str z t]}).push {cls:= .type "AttributeError",data:= .fields (#[.ref h.objs.size,.none,.none,.none,.bool eh,.none]++S8 (.type "AttributeError") [.str z t])}).get? (h.objs.size+1) =
  dn {cls:= .type "AttributeError",data:= .fields (#[.ref h.objs.size,.none,.none,.none,.bool eh,.none]++S8 (.type "AttributeError") [.str z t])}:=by heap_get
 have U : ∀b u,h.get? b=dn u->((h.push {cls:= .type "tuple",data:= .seq #[.str z t]}).push {cls:= .type "AttributeError",data:= .fields (#[.ref h.objs.size,.none,.none,.none,.bool eh,.none]++S8 (.type "AttributeError") [.str z t])}).get? b=dn u:=λb u e=>ME _ (ME _ e);have i:h.get? (h.objs.size+1)=ed:=Heap.get?_none_of_le (RU _);generalize ((h.push {cls:= .type "tuple",data:= .seq #[.str z t]}).push {cls:= .type "AttributeError",data:= .fields (#[.ref h.objs.size,.none,.none,.none,.bool eh,.none]++S8 (.type "AttributeError") [.str z t])})=h2 at I U ⊢;refine MA (wpAny_mkText ?_);unfold noteAttr lacksNameAndObj;have j:(⟨h2,g,d,t+1+1,os⟩:eK).TypeIs (.ref (h.objs.size+1)) "AttributeError":=⟨_,I,rfl⟩;have l:isSubtype (.type "AttributeError") (.type "AttributeError")=pure d7:=by rw[isSubtype_type];kernel_rfl
 repeat (any_goals (first | assumption | with_reducible refine wpAny_loadPart_at I ?_ | with_reducible refine wpAny_load I ?_ | wp_step))
 refine wpAny_raiseNew_none Y<|hE _ _ _ (λb u e=>?_) ⟨_,RE _ I<|Obj.isFreed_of_fields<|To rfl _,Obj.cls_mapFields ..⟩;rw[Om _ _ (λq=>by rw[<- q]at e;rw[i]at e;cases e)];exact U b u e
theorem Xw(hx:h.get? a=dn ⟨.type "list",ed,.seq vs nk,sl⟩)(I:A.handled=ed)
 (O : ∀h' e t',(∀b u,h.get? b=dn u->h'.get? b=dn u)->(∃z,h'.get? e=dn z/\z.cls = .type "AttributeError")->R (.error (.ref e)) ⟨h',g,d,t',os⟩) :
 codeAny (fe prog w) A (.call (.builtin "list.__getattribute__") ⟨[.ref a,.str "keys" tk],[]⟩) R ⟨h,g,d,t,os⟩:=
 codeAny_call_builtin Rl.plain XA (Rl.check _ _ _ _ _ _ _ _ (show(⟨h,g,d,t,os⟩:eK).TypeIs (.ref a) "list" from⟨_,hx,rfl⟩) (F.args_list_getattribute_2 _ _) (J9 hx I O))
theorem cU:N4 (.type "list") "__getattr__" = pure ed:=by rw[typeLookup_type,H_];kernel_rfl
theorem gT(hx:h.get? a=dn ⟨.type "list",ed,.seq vs nk,sl⟩)(I:A.handled=ed)
 (O : ∀h' t',(∀b u,h.get? b=dn u->h'.get? b=dn u)->Q ed ⟨h',g,d,t',os⟩):wpAny (fe prog w) A (getAttr? (.ref a) "keys") Q E ⟨h,g,d,t,os⟩:=by
 have n:(⟨h,g,d,t+1,os⟩:eK).TypeIs (.ref a) "list":=⟨_,hx,rfl⟩;have f2:=Rl.lookup;have k:=Rl.bind (.ref a);have l:=cU;have m:isSubtype (.type "AttributeError") (.type "AttributeError")=pure d7:=by rw[isSubtype_type];kernel_rfl
 unfold getAttr? getAttrBy? getAttrBy
 repeat (any_goals (first | assumption | wp_step))
 refine Xw (g:=g) (d:=d) (os:=os) hx I λh' e t' U z=>?_;obtain⟨Y,z,f⟩:=z;have i:(⟨h',g,d,t',os⟩:eK).TypeIs (.ref e) "AttributeError":=⟨Y,z,f⟩;have j:=O h' t' U;show wpAny _ _ (M' _ _ _ _ _ _ _) _ _ _;unfold M' hookOrError attributeErrorLeaves
 repeat (any_goals (first | assumption | wp_step))
end
noncomputable def wg:List D->Option (List D×List D)
 | []=>dn ([],[])
 | d::r=>match d with
  | .tup a=>match a with
   | [k,v]=>(wg r).map λp=>(k::p.1,v::p.2)
   | _=>ed
  | _=>ed
noncomputable def rJ(f:CO (List D))(γ:Ctx):Option D:=(f γ).bind λa=>(wg a).bind λp=>pw p.1 p.2
@[simp] def Gq:=@rJ.eq_1
noncomputable def FH(C I:CO D):CO D:=λa=>(C a).bind λd=>(I a).bind λk=>match d with
 | .l9 b e=>(ml k).bind λi=>bh b e i
 | _=>ed
noncomputable def BL(I C:CO D):CO D:=λa=>(I a).bind λk=>(C a).bind λd=>match d with
 | .l9 b e=>(ml k).map λi=> .bl (bh b e i).isSome
 | _=>ed
section
variable{X:Cx}{pins:UQ}{σ:St}{A:mu}{R:Result->eK->Prop}{H0:Hp}{l it d:ej}{ks:List Key}{ys xs:List V}
theorem dm(hh:A.handled=ed)(hx:xs.length=ks.length)(hy:ys.length=ks.length)(hp : ∀(n:Nat) (h1:n<xs.length) (h2:n<ks.length) (h3:n<ys.length),∃p,xs[n] = .ref p/\hB X.K H0 p [kV ks[n],ys[n]])(S:H0 d=ed)(Z:l≠d) : ∀(m n:Nat) (s:eK) (H:Hp) (C:List (Key×V)) (i:Int) (t:q7),n+m=ks.length->
 Inv X pins σ H s->g8 H0 H->H l=dn (.lst xs)->s.heap.IsListIter it l n->ZO X pins H it->H d=dn (.dK C)->C.length+m<=gm->
 (∀J,Inv X pins σ (upd H d<|.dK<|nI C<|(ks.zip ys).drop n) J->R (.ok<|.ret .none) J)->
 codeAny (fe X.prog X.w) A (.builtin "dict.update.loop" ⟨[.ref d,.ref it,.int i t,.none],[]⟩) R s:=by
 intro m
 induction m with
 | zero=>
  intro n s H C i t hn I sub U st O a hz Y;obtain⟨z1,g,c,M,ll,h⟩:=I.DU U;refine codeAny_builtin vh ?_;unfold n5.«dict.update.loop»;have j:s.heap.IsList l g.toArray:=⟨_,h,rfl,_,rfl⟩;refine MA<|wpAny_pyNext_list_end (s:=s) hh st j (by simp;omega) λh' eb=>?_;refine MA<|MN ?_;have e0:upd H d (.dK<|nI C<|(ks.zip ys).drop n)=H:=by
   rw[List.drop_eq_nil_of_le (by simp;omega)];funext c;by_cases q:c=d
   ·rw[q,zS,a];rfl
   ·rw[zN q]
  rw[e0]at Y;exact MN (Y _<|I.C5 (t':=s.toks) (fp:=[it]) (λb o z e=>eb b o (by simpa using z) e)<|λb z=>by rw[OD.mp z];exact O)
 | succ m ih=>
  intro n s H C i t hn I sub U st O a hz Y;obtain⟨z1,g,c,M,ll,h⟩:=I.DU U;have j:s.heap.IsList l g.toArray:=⟨_,h,rfl,_,rfl⟩;have Q:n<ks.length:=by omega
  obtain⟨p,ep,T⟩:=hp n ⋯ Q ⋯;obtain⟨u,hu,L⟩:=M.get (MF<|show n<xs.length by omega);rw[ep]at L;have eu:u = .ref p:=L;subst eu;refine codeAny_builtin vh ?_;unfold n5.«dict.update.loop»;refine MA<|wpAny_pyNext_list_item (s:=s) st j (x:= .ref p) (by simpa using hu) λh' W sb=>?_;have f:=I.C5 (h':=h') (t':=s.toks) (fp:=[it]) (λb o z e=>(sb.2 b<|by simpa using z).trans e) (λb z=>by rw[OD.mp z];exact O);obtain⟨ts,rt,⟨o,E,co,nn,bi⟩,zt⟩:=f.tuple<|nf sub T;obtain⟨u1,r,rfl,bl,k⟩ : ∃u1 r,ts=u1::r/\RelV (kV ks[n]) u1/\f9 [ys[n]] r:=by
   cases rt with
   | cons q1 k=>exact⟨_,_,rfl,q1,k⟩
  obtain⟨u2,rfl,bn⟩:=vJ k;have bt:({s with heap:=h'}:eK).TypeIs (.ref p) "tuple":=⟨_,E,co⟩;refine MA (OV (MA (wpAny_tryCatch ?_)));unfold Builtin.Dict.pairItems;refine MA (So bt ?_);rw[UJ ⋯];refine MA (Oe E bi (MN ?_));show wpAny _ _ (sy [u1,u2] (dictSet d u1 u2)) _ _ _;obtain⟨zz,bx,vs,y,dd⟩:=HH f.gj a;have c1:vs.length<=gm:=by rw[<- y.length];exact zz
  have c2:(dE C ks[n] ys[n]).length<=gm:=by have:=QB C ks[n] ys[n];omega
  refine OV<|wpAny_dictSet_pairs (hsz:=c1) (oP bl) dd λc3 B F=>?_;have he : ∃q,c3.get? d=dn q:=let ⟨q,_,_,hq,_⟩:=B;⟨q,hq⟩;have N:=As (t':=s.toks+1) f (by rw[a];exact Pu) F he<|EO c2 bx (y.put ks[n] bn) B;have G:it≠d:=λq=>by have:=O.1;rw[q,a]at this;cases this
  refine MN ⟨y8 _,ih (n+1) _ _ (dE C ks[n] ys[n]) (i+1) 0 ⋯ N (λc o e=>?_) (by rw[zN Z];exact U) (W.at λo q=>(F.2 it G).trans q) ⟨by rw[zN G];exact O.1,O.2⟩ zS (by have:=QB C ks[n] ys[n];omega) λJ P=>Y J ?_⟩
  ·rw[zN (λq=>by rw[q,S]at e;cases e)];exact sub _ _ e
  ·have c8:n<(ks.zip ys).length:=by simp;omega
   have e1:(ks.zip ys).drop n=(ks[n],ys[n])::(ks.zip ys).drop (n+1):=by rw[Pa c8];simp
   have e2:upd (upd H d<|.dK<|dE C ks[n] ys[n]) d (.dK<|nI (dE C ks[n] ys[n])<|(ks.zip ys).drop (n+1))=upd H d (.dK<|nI C<|(ks.zip ys).drop n):=by
    funext c;by_cases q:c=d
    ·rw[q,zS,zS,e1];rfl
    ·rw[zN q,zN q,zN q]
   rw[<- e2];exact P
theorem du(I:Inv X pins σ H s)(J:X.A.handled=ed)(sub:g8 H0 H)(z:H l=dn (.lst xs))(hx:xs.length=ks.length)(Z:ys.length=ks.length)
 (S : ∀(n:Nat) (h1:n<xs.length) (h2:n<ks.length) (h3:n<ys.length),∃p,xs[n] = .ref p/\hB X.K H0 p [kV ks[n],ys[n]]) (hz:ks.length<=gm)
 (L : ∀C p,H p=ed->Inv X pins σ (upd H p (.dK (nI [] (ks.zip ys)))) C->Q (.ref p) C):wpAny (fe X.prog X.w) X.A (call (.type "dict") [.ref l]) Q X.xe s:=by
 have O:H s.heap.objs.size=ed:=I.fresh;have x:H0 s.heap.objs.size=ed:=jA sub O;have i:l≠s.heap.objs.size:=λq=>by rw[q,O]at z;cases z
 refine callType_codes (Q₁:=λobj f=>obj = .ref s.heap.objs.size/\f = {s with heap:=s.heap.push {cls:= .type "dict",data:= .dict #[]}}) F.kt_called_dict (F.kt_typeCall_dict_1 _) F.entry_dict_init (kt_code_dict_new _ ⟨rfl,rfl⟩) ?_;rintro obj f ⟨rfl,rfl⟩;have r:=I.laid (a:=s.heap.objs.size) (o:= .dK []) (t':=s.toks) (λ_ _ q=>ME {cls:= .type "dict",data:= .dict #[]} q) (MM _) (pq s.heap I.big);have j:({s with heap:=s.heap.push {cls:= .type "dict",data:= .dict #[]}}:eK).TypeIs (.ref s.heap.objs.size) "dict":=⟨_,MV _ rfl,rfl⟩;obtain⟨P,m,c,N,M,B⟩:=I.DU z;have U:(s.heap.push {cls:= .type "dict",data:= .dict #[]}).get? l=dn {cls:= .type "list",data:= .seq m.toArray c}:=ME _ B;refine⟨j,F.args_dict_init_2 _ _,?_⟩;unfold n5.«dict.__init__»;refine MA ?_;unfold Builtin.Dict.selfAndRest;refine MA (wpAny_notOrdered_dict j ?_);show wpAny _ _ (pure (s.heap.objs.size,[Oy l])) _ _ _;refine MN ?_;show wpAny _ _ (Builtin.Dict.updateFrom "dict.__init__" s.heap.objs.size (.ref l) [] .none) _ _ _;unfold Builtin.Dict.updateFrom;refine MA (So (T:="list") ⟨_,U,rfl⟩ ?_);rw[UJ ⋯];refine MA (gT (g:=s.gens) (d:=s.drawn) (t:=s.toks) (os:=s.os) U (show X.A.in1.in1.handled=ed from J) λh' t' k=>?_);have Y:Inv X pins σ (upd H s.heap.objs.size (.dK [])) {s with heap:=h',toks:=t'}:=r.kept k;have y:=k _ _ U;simp only[Option.isNone_none,if_true];refine MA (Rm (MA (TK (items:=m.toArray) ⟨_,y,rfl,_,rfl⟩ ?_)));refine MN ⟨y8 _,?_⟩;have u:=Y.kept (h':=h'.push {cls:= .type "list_iterator",data:= .fields #[.ref l,.int 0 0]}) (t':=t') λb o e=>ME _ e;have G:s.heap.objs.size<h'.objs.size:=by have:=Na (k _ _ (MV s.heap (o:={cls:= .type "dict",data:= .dict #[]}) rfl));exact this
 have E:=Y.B4 (b:=h'.objs.size) (H':=upd H s.heap.objs.size<|.dK []) (MM _) Y.fresh;refine dm (H0:=H0) (l:=l) (it:=h'.objs.size) (ks:=ks) (ys:=ys) (xs:=xs) (show X.A.in1.handled=ed from J) hx Z S x i ks.length 0 _ (upd H s.heap.objs.size<|.dK []) [] 0 0 (NA _) u (sub.trans<|jr O _) (by rw[zN i];exact z) ⟨_,MV _ rfl,rfl,rfl⟩ E zS (by simpa using hz) λC h=>?_;rw[dR,List.drop_zero]at h;exact⟨rfl,L C _ O h⟩
end
theorem Yv : ∀{ps ks vs:List D},wg ps=dn (ks,vs)->ks.length=ps.length/\vs.length=ps.length
 | [],ks,vs,h=>by cases h;exact⟨rfl,rfl⟩
 | d::r,ks,vs,h=>by
  unfold wg at h;split at h
  ·split at h
   ·obtain⟨⟨a,b⟩,e,z⟩:=zF h
    cases z;obtain⟨f,g⟩:=Yv e;exact⟨by simp[f],by simp[g]⟩
   ·cases h
  ·cases h
theorem XD{K:MC}{H:Hp} : ∀{ps ks vs:List D} {xs:List V} {C:List Int},wg ps=dn (ks,vs)->eA K H ps xs->Xz ks=dn C->
 ∃ys,eA K H vs ys/\ys.length=C.length/\xs.length=C.length/\∀(n:Nat) (J:n<xs.length) (L:n<C.length) (z:n<ys.length),∃p,xs[n] = .ref p/\hB K H p [.int C[n],ys[n]]
 | [],ks,vs,xs,C,h,r,hi=>by cases h;cases hi;rw[r.p5];exact⟨[],eA.nil,rfl,rfl,λn J=>by cases J⟩
 | d::ps,ks,vs,xs,C,h,r,hi=>by
  unfold wg at h;split at h
  ·split at h
   ·rename_i k v
    obtain⟨⟨a,b⟩,e,I⟩:=zF h;cases I;obtain⟨x,A,rfl,J,L⟩:=r.m9;cases k with
    | int j=>
     obtain⟨y,O,U⟩:=zF hi;subst U;obtain⟨ys,o,s,t,Y⟩:=XD e L O;obtain⟨q,F,rfl,z,f⟩:=yq J;obtain⟨B,E,rfl,g,i⟩:=f.m9;obtain⟨u,w,rfl,l,m⟩:=i.m9;rw[m.p5,jF g]at z;refine⟨u::ys,eA.cons l o,by simp[s],by simp[t],λn g1 g2 g3=>?_⟩;cases n with
     | zero=>exact⟨q,rfl,z⟩
     | succ n=>exact Y n (by simpa using g1) (by simpa using g2) (by simpa using g3)
    | _=>cases hi
   ·cases h
  ·cases h
section
variable{X:Cx}{sc:ij}{N L:List Str}{k:Nat}{a o i:e9}{f:CO (List D)}{fd fk:CO D}{p pos:hL}
theorem nG(h:SX X sc N L k)(J:vQ sc "dict" = d7)(zd:X.mg "dict" = ed)(S:PO X a f)(C:gu [a] X.env=[(eh,fh a X.env)]:=by rfl) :
 PV X (.Call (.Name "dict" p) [a] [] pos) (rJ f):=by
 intro g s σ H Q I m;obtain⟨H0,γ,d,rc,z,q⟩:=m;obtain⟨x,F,z⟩:=zf z;obtain⟨⟨b,j⟩,w,z⟩:=zf z;have R:X.A.handled=ed:=I.ok.hd h.calm;unfold pw at z;cases hi:Xz b with
 | none=>rw[show(b,j).1=b from rfl,hi]at z;cases z
 | some e=>
  rw[show(b,j).1=b from rfl,hi]at z;dsimp only at z;by_cases o:b.length=j.length/\e.Nodup/\b.length<=lim
  ·rw[UJ o]at z
   cases z;refine DH<|yT I (h.gl J).1 zd PyProof.Rows.boot_dict (Ob ?_ (by rw[C];rfl) rfl);rw[C];show wpAny _ _ (M3 ((eh,fh a X.env)::[])) _ _ s;refine RW<|f6 (S g s σ H (λv i=>∃l xs O,v = .ref l/\Ext H0 H O i/\O l=ed/\i l=dn (.lst xs)/\eA X.K O x xs) I ⟨H0,γ,x,rc,F,λl xs i O x1 g1 g2 g3 U=>⟨l,xs,O,rfl,x1,g2,g3,U⟩⟩) λv s1 m=>?_;obtain⟨y,i,B,ry,l,xs,O,rfl,x1,g2,g3,U⟩:=m;cases ry;refine Tq ?_;obtain⟨ys,T,W,Z,r4⟩:=XD w U hi;have r:(e.map<|OQ (β:=Str)).length=e.length:=by simp
   have nl:e.length=b.length:=by have:=(Yv w).1;have:=U.length;omega
   refine du (H0:=O) (ks:=e.map OQ) (ys:=ys) (xs:=xs) B R x1.sub g3 (by rw[r];exact Z) (by rw[r];exact W) (λn G M P=>?_) ?_ λs' p Y u=>?_
   ·obtain⟨t,t1,t2⟩:=r4 n G (by simpa using M) P
    refine⟨t,t1,?_⟩;simpa[kV]using t2
   ·have:lim<=gm:=by decide
    rw[r];omega
   ·have E:nI [] ((e.map<|OQ (β:=Str)).zip ys)=(e.map OQ).zip ys:=by
     rw[XO _ []]
     ·simp
     ·rw[Ri,List.map_fst_zip ⋯]
      exact Y8 o.2.1
    rw[E]at u;exact⟨.ref p,_,u,rfl,q (.ref p) _ _ ((x1.trans<|Ext.hide x1.sub Y _).show (kJ x1.s1 Y) (jA x1.sub Y) zS rc.sub)
     (show ∃a xs,V.ref p = .ref a/\Dn (upd O p _) a b xs/\eA X.K (upd O p _) j xs from⟨p,ys,rfl,⟨_,X7 hi,by omega,zS⟩,T.mono<|jr (jA x1.sub Y) _⟩)⟩
  ·rw[UY o]at z;cases z
theorem Cp(h:SX X sc N L k)(Y:PV X o fd)(hi:PV X i fk)(J:Iy i:=by intro _ _;rfl):PV X (.Subscript o i pos) (FH fd fk):=
 qD (uF (by have:=h.F7;omega) Y hi J) λS H Q C=>by
  obtain⟨g,f,d,rc,z,q⟩:=C;obtain⟨s,t,z⟩:=zf z;obtain⟨P,u,z⟩:=zf z;cases s with
  | l9 F G=>
   obtain⟨j,w,A⟩:=zf z;refine⟨g,f,_,rc,t,λv M I x r=>⟨I,f,_,rc.ext x,u,λy l m O e=>?_⟩⟩;obtain⟨ad,b,rfl,⟨R,g1,g2,g3⟩,B⟩:=(show ∃a b,v = .ref a/\Dn I a F b/\eA X.K I G b from r);rw[j1 w]at e;have E:y = .int j:=e;obtain⟨U,n,p⟩:=(KU (i:=j) g1 g2<|B.mono O.s0).1 d A;refine⟨ad,U,rfl,?_,q U l m (x.trans O) p⟩;rw[E,<- n];exact .inl ⟨_,OQ j,.inl<|O.s1 _ _<|x.sub _ _ g3,rfl,rfl⟩
  | _=>cases z
theorem ui(h:SX X sc N L k)(hi:PV X i fk)(Z:PV X o fd)(S:u4 .In o=eh:=by with_unfolding_all rfl):m4 X (.Compare i [.In] [o] pos) (sB<|BL fk fd):=
 Wa (Cv (CV (by have:=h.F7;omega) hi Z) S) λσ H Q P=>by
  obtain⟨n,m,b,rc,z,q⟩:=P;obtain⟨db,B,J⟩:=zf z;obtain⟨k1,C,z⟩:=zf B;obtain⟨w,E,z⟩:=zf z;cases w with
  | l9 g l=>
   obtain⟨j,F,G⟩:=zF z;subst G;cases J;refine⟨n,m,_,rc,C,λy T p x U=>⟨p,m,_,rc.ext x,E,λv e I O r=>?_⟩⟩;obtain⟨ad,d,rfl,⟨kk,g1,g2,Y⟩,M⟩:=(show ∃a d,v = .ref a/\Dn I a g d/\eA X.K I l d from r);rw[j1 F]at U;have f:y = .int j:=U;obtain⟨s,t⟩:=KU (i:=j) g1 g2 M;cases hv:bh g l j with
   | none=>
    refine⟨ad,ed,rfl,?_,_,rfl,?_⟩
    ·rw[f,<- t hv]
     exact .inl ⟨_,OQ j,.inl<|O.sub _ _ Y,rfl,rfl⟩
    ·rw[hv]at q;exact q e I<|x.trans O
   | some A=>
    obtain⟨R,u,W⟩:=s A hv;refine⟨ad,dn R,rfl,?_,_,rfl,?_⟩
    ·rw[f,<- u]
     exact .inl ⟨_,OQ j,.inl<|O.sub _ _ Y,rfl,rfl⟩
    ·rw[hv]at q;exact q e I<|x.trans O
  | _=>cases z
end
def Hr:D->Option (List Int)
 | .tup a=>Xz a
 | _=>ed
noncomputable def Es:List D->Option (List<|List Int)
 | []=>dn []
 | d::ds=>(Hr d).bind λk=>(Es ds).map λr=>k::r
noncomputable def BK(f:CO (List D))(γ:Ctx):Option D:=(f γ).bind λb=>(wg b).bind λp=>(Es p.1).bind λa=>if a.Nodup/\a.length<=lim then dn (.lU a p.2)else ed
noncomputable def HB:List (List Int)->List D->List Int->Option D
 | k::ks,v::vs,i=>if k=i then dn v else HB ks vs i
 | _,_,_=>ed
noncomputable def LL(C I:CO D)(γ:Ctx):Option D:=(C γ).bind λd=>(I γ).bind λk=>match d with
 | .lU a b=>(Hr k).bind λi=>HB a b i
 | _=>ed
noncomputable def HA(d k x:D):Option D:=match d with
 | .lU a b=>(Hr k).map λi=>(HB a b i).getD x
 | _=>ed
noncomputable def LJ(C I z:CO D)(γ:Ctx):Option D:=(C γ).bind λd=>(I γ).bind λk=>(z γ).bind λx=>HA d k x
noncomputable def LH(f:CO D)(γ:Ctx):Option (List D):=(f γ).bind λd=>match d with
 | .lU a _=>dn (a.map λk=> .tup (k.map .int))
 | _=>ed
section
variable(γ:Ctx)
@[simp] def Gp:=@BK.eq_1
@[simp] def Io:=@LL.eq_1
@[simp] def Ik:=@LJ.eq_1
@[simp] def Ii:=@LH.eq_1
end
noncomputable def IU:List (List Int)->List Int->List Int->Option Int
 | k::ks,n::ns,i=>if k=i then dn n else IU ks ns i
 | _,_,_=>ed
noncomputable def eqT(ks:List (List Int))(C:List Int)(z:List (List Int))(I:List Int):Bool:=decide (ks.length=z.length) && (ks.zip C).all λx=>decide<|IU z I x.1=dn x.2
noncomputable def IX(d e:D):Option Bool:=match d with
 | .lU a f=>match e with
  | .lU z I=>(Xz f).bind λb=>(Xz I).map λO=>eqT a b z O
  | _=>ed
 | _=>ed
@[simp] def Mz(d e:D):Option D:=(IX d e).map D.bl
@[simp] def My(d e:D):Option D:=(IX d e).map λb=>D.bl<|!b
noncomputable def LG(f:CO D)(γ:Ctx):Option D:=(f γ).bind λd=>match d with
 | .lU a _=>dn (.int a.length)
 | _=>ed
@[simp] def Ih:=@LG.eq_1
abbrev TT:=List (List (List Int))
inductive Pl where
 | out | tab (k:Nat) | row (k m:Nat)
deriving DecidableEq
section
variable{K:MC}{al:List (Nat×Pl)}{E0 E H0 H vu H':Hp}{σ _p:St}{γ γ':Ctx}{Z:TT}{ad:Pl->ej}
open Classical in
end
open Classical in
section
variable{H:Hp}{Z:TT}{ad:Pl->ej}
end
end DL
namespace DL
open PySem PySem.Spec PyProof.Rows L2
open PySem.W (KasT kas_sort kas_ask kat_run kat_snds kat_lt kat_cons kat_no kat_yes kat_nil kat_go kat_one kat_kind KatTups KatGo)
section
variable{prog:i6}{w:h9}{A:mu}{E:EQ}{s:eK}
theorem aX{a kS:ej}{I:List el}{out:List el}{e C:Nat}{P:PySem.Fin->eK->Prop}{st:SortSt}(O:s.heap.get? kS=dn (g5 "list" I.toArray e))(L:s.heap.get? a=dn (g5 "list" #[] C))(U:kS≠a)(Y:I.length<=gm)(J:out.length<=gm)
 (Z:(D9 st).map (·.2)=out.toArray) (S:failedOf st=ed)
 (h : ∀h' c,h'.objs.size=s.heap.objs.size->(∀b o,b≠a->b≠kS->s.heap.get? b=dn o->h'.get? b=dn o)->h'.get? a=dn (g5 "list" out.toArray c)->P (.done (.ret .none)) {s with heap:=h'}) :
 wpAny (fe prog w) A (ksk_tail a eh C (.ref kS) st) P E s:=by
 unfold ksk_tail;refine MA (Ry O rfl ?_ (by rw[MR];exact Y) (NY _));refine MA (PR ?_);have z:(s.heap.update kS (NC λ_=>(#[]:Array el))).get? a=dn (g5 "list" #[] C):=(Om _ _ U).trans L;refine MA (Tu z rfl ?_);simp only[OE,if_false];rw[Z];refine MA (Ry z rfl ?_ (NY _) (by show out.toArray.size<=_;rw[MR];exact Sm J));rw[S];simp only[bne_self_eq_false,OE,if_false];obtain⟨c,g⟩ : ∃c,((s.heap.update kS (NC λ_=>(#[]:Array el))).update a (NC λ_=>out.toArray)).get? a=dn (g5 "list" out.toArray c):=⟨_,SY z λ_=>out.toArray⟩;refine MN (h _ c (by rw[Pp,Pp]) (λb o d f q=>?_) g);exact(Om _ _ (Ny d)).trans ((Om _ _ (Ny f)).trans q)
theorem uZ{a kS:ej}{vs z:List el}{ps:List (Int×Int)}{e J:Nat}{P:PySem.Fin->eK->Prop}(hk:s.heap.get? kS=dn (g5 "list" z.toArray e))(ha:s.heap.get? a=dn (g5 "list" #[] J))(Z:kS≠a)(a9:z.length=vs.length)(L:ps.length=vs.length)(as:vs.length<64)
 (S : ∀i (hi:i<z.length),wo s.heap z[i] (ps.getD i (0,0)).1 (ps.getD i (0,0)).2)
 (h : ∀h' c,h'.objs.size=s.heap.objs.size->(∀b o,b≠a->b≠kS->s.heap.get? b=dn o->h'.get? b=dn o)->h'.get? a=dn (g5 "list" (PB ((qu ps).map λi=>vs.getD i NH)) c)->P (.done (.ret .none)) {s with heap:=h'}) :
 wpAny (fe prog w) A (ksk_end a eh vs.toArray J (.ref kS) z.toArray) P E s:=by
 have hz:vs.length<=gm:=by rw[PU];omega
 have n:vs.toArray.size=vs.length:=by simp
 have c3:((qu ps).map λi=>vs.getD i NH).length=vs.length:=by rw[Nf,(qa ps).length_eq,NI,L]
 have step : ∀t:Sem PySem.Fin,wpAny (fe prog w) A t P E s->wpAny (fe prog w) A (if eh=d7 then (do let _ <- rule "list.sort.reverse";t)else t) P E s:=λt ht=>ht;unfold ksk_end
 try dsimp only
 refine step _ ?_;by_cases g:vs.toArray.size<2
 ·rw[UJ g,UJ g]
  refine MA<|MN ?_;rw[StateT.run_pure];refine MA<|MN ?_;dsimp only;have ev:(qu ps).map (λi=>vs.getD i NH)=vs:=by unfold qu;rw[UJ ⋯,L];exact je _ _
  have e7:Array.map (λx=>x.snd) (D9<|SortSt.mk' general' (z.toArray.zip vs.toArray) #[] 7 ed)=((qu ps).map (λi=>vs.getD i NH)).toArray:=by show Array.map (λx=>x.snd) (z.toArray.zip vs.toArray)=_;rw[ev];apply Array.ext';simp[Array.toList_map,Array.toList_zip];rw[List.map_snd_zip ⋯]
  exact aX hk ha Z ⋯ ⋯ e7 rfl h
 ·rw[UY g,UY g]
  have n2:2<=vs.length:=by rw[<- n];omega
  obtain⟨fs,f1,f2,f3⟩:=gZ (ks:=λi=>(ps.getD i (0,0)).1) λi hi=>(S i hi).one;refine MA (kat_kind (T:=Ro "int") f1 ⋯ (λv hv=>?_) ⋯ ?_)
  ·obtain⟨k,t,rfl⟩:=f3 v hv
   exact PySem.W.Looks.of_pure rfl
  have ep:(ku (λi j=>vO (ps.getD i (0,0))<|ps.getD j (0,0))<|kas_sort vs.length).toList=qu ps:=by unfold qu;rw[UY ⋯,L]
  refine MA (OW (kat_run (E:=E) (ks:=z) (Q:=λf d=>∃p:Array Nat,D9 f=p.map (PySem.W.kas_item<|z.toArray.zip vs.toArray)/\failedOf f=ed/\p.toList=qu ps/\d=s)
   (G:=λp d=>p.toList=qu ps/\d=s)
   a9 n2 as (λp f d a1 N R r=>⟨p,N,R,r.1,r.2⟩) (WA (lt:=λi j=>vO (ps.getD i (0,0))<|ps.getD j (0,0)) (λi j C hi hj I=>?_) (QM ⋯) ⟨ep,rfl⟩)) ?_ λ_ _ e=>e)
  ·show wpAny _ _ (keyLt' _ (z.getD i NH)<|z.getD j NH) C _ _
   have B:i<z.length:=by omega
   have F:j<z.length:=by omega
   rw[show z.getD i NH=z[i]by simp[B],show z.getD j NH=z[j]by simp[F]];obtain⟨x,ox,xs,m,t,u,J,e2,e3,e4,M⟩:=S i B;obtain⟨y,oy,ys,m',t',u',d1,d2,d3,d4,K⟩:=S j F;rw[J,d1];refine kat_lt e2 e4 d2 d4 ?_;have X:xs.size=2:=by rw[<- Oo,M];rfl
   have bv:ys.size=2:=by rw[<- Oo,K];rfl
   rw[M,K,X,bv,Pw,Pw];unfold vO at I;generalize ps.getD i (0,0)=U at I ⊢;generalize ps.getD j (0,0)=Y at I ⊢;refine kat_cons<|PX U.1 t Y.1 t' _ _ _ _ ?_;refine kat_go (λO=>?_) λO=>?_
   ·have O:U.1=Y.1:=by simpa using O
    rw[UJ O]at I;refine kat_yes<|kat_cons<|PX U.2 u Y.2 u' _ _ _ _<|kat_go (λl=>?_) λl=>?_
    ·have l:U.2=Y.2:=by simpa using l
     refine kat_yes<|kat_nil ?_;rw[show decide (U.2<Y.2)=eh by rw[l];simp]at I;exact I
    ·exact kat_no<|kat_one _ _<|lt_int I
   ·have O:U.1≠Y.1:=by simpa using O
    rw[UY O]at I;exact kat_no<|oneLt_int I
  rintro⟨⟨⟩,f⟩ d ⟨p,bx,hf,hp,rfl⟩;dsimp only;have H:=kat_snds a9 bx;rw[hp]at H;exact aX hk ha Z ⋯ ⋯ H hf h
end
end DL
namespace DL
open PySem PySem.Spec PyProof.Rows L2
section
variable{X:Cx}{pins:UQ}{σ:St}{H:Hp}{s:eK}{a:ej}{o:HO}
theorem ie(I:Inv X pins σ H s)(f:ZO X pins H a)(new:lN X.prog X.w (upd H a o) s.heap a o):Inv X pins σ (upd H a o) s:=by
 obtain⟨f1,f2,y,j,k,l⟩:=f;have d : ∀b u,H b=dn u->b≠a:=λb u q z=>by rw[z,f1]at q;cases q
 refine⟨I.ok,I.os,I.bare,⟨I.base.keep,I.base.slot,λb U q n h=>?_,I.base.there,λb i q=>?_,λb U u q=>?_,λb t q=>?_⟩,I.loc,I.cell,?_,λx c e=>?_,λp g=>?_,λb u e=>?_,I.len⟩
 ·have O:b≠a:=λz=>by
   rcases j with Y | Y
   ·exact h<|z ▸ Y
   ·have:=Na q
    rw[z]at this;exact absurd this<|Nat.not_lt_of_le Y
  rw[zN O];exact I.base.free b U q n h
 ·have:=I.base.C4 b i q
  rw[zN (d b _ this)];exact this
 ·have:=I.base.Df b U u q
  rw[zN (d b _ this)];exact this
 ·obtain⟨m,this⟩:=I.base.DE b t q
  exact⟨m,by rw[zN (d b _ this)];exact this⟩
 ·rw[zN (Ny f2)];exact I.free
 ·rw[zN (k x c e)];exact I.u5 x c e
 ·obtain⟨e,n,r⟩:=I.pin p g
  exact⟨e,by rw[zN (l p g)];exact n,r⟩
 ·by_cases O:b=a
  ·subst O;rw[zS]at e;cases e;exact new
  ·rw[zN O]at e
   exact(I.gj b u e).Di (λ_ _ _ q=>q) (λc q=>by rw[zN (d c _ q)];exact q) λc i q=>by rw[zN (d c _ q)];exact q
theorem ub{A:mu}{Q:VK}{us:List el}{vs:List V}{CX:tw}{k:Nat}{f:ej}{C:p8}{ps:List Str}{sp:Sp}(F:p6 X.prog X.w X.K X.mg X.base qs k f C ps sp)(O:m8 k A)(U:A4 X.prog X.w X.K X.mg X.base A X.stack s H)(Y:Binds X.K C ps [])
 (I:Inv X pins σ H s) (r:f9 vs us) (h:sp vs H Q E0):wpAny (fe X.prog X.w) A (call (.ref f) us) (EP X pins σ Q) (λ_ _=>False) s:=by
 have b:us.length=ps.length:=by rw[<- r.length];exact F.len _ _ _ _ h
 refine wpAny_call<|Ht (F.run A X.stack s H ⟨us,[]⟩ us vs Q E0 O U (by simpa using Y s us I.m6 (by simpa using b)) r h) λr d z=>?_;cases r with
 | error e=>exact z.elim
 | ok a=>
  cases a with
  | ret u=>exact I.after z
  | next=>exact Pc z
  | brk=>exact Pc z
  | cont=>exact Pc z
theorem BY(I:Inv X pins σ H s)(J:ZO X pins H kS)(C:ZO X pins H a)(O:s.heap.get? kS=dn ok)(L:s.heap.get? a=dn oa)(U : ∀v,ok.data ≠ .cell v)(Y : ∀v,oa.data ≠ .cell v):Inv X (pins++[(kS,ok),(a,oa)]) σ H s:=
 I.L7 λp z=>by
  rcases OS.mp z with z | z
  ·exact I.pin p<|Nh _ z
  ·rcases MS.mp z with rfl | z
   ·exact⟨O,J.1,J.2.1,J.2.2.1,U⟩
   ·rw[OD.mp z];exact⟨L,C.1,C.2.1,C.2.2.1,Y⟩
theorem Bl(I:Inv X (pins++more) σ H s):Inv X pins σ H s:=I.L7 λp z=>I.pin p<|Nh _<|SO _ z
end
def YY(ps:List (Int×Int)):List D:=ps.map λp=>D.tup [.int p.1,.int p.2]
section
variable{X:Cx}{pins:UQ}{σ:St}{F:List D->Option Res}{k:Nat}{f:ej}{fd:p8}{pr:List Str}{A:mu}{E:EQ}
theorem sR(I:Inv X pins σ H s)(sub:g8 H0 H)(r:Rep X.K H0 (.tup [.int i,.int j]) v)(C:RelV v u):wo s.heap u i j:=by
 obtain⟨b,L,rfl,d,g⟩:=yq r;obtain⟨y,J,f,h,k⟩:=g.m9;obtain⟨G,E,a,l,m⟩:=k.m9;rw[m.p5]at a;rw[f,a,jF h,jF l]at d;cases C;obtain⟨e,B,⟨o,x,p,n,w⟩,_⟩:=I.tuple<|nf sub d;obtain⟨z,O,rfl,U,Y⟩ : ∃z O,e=z::O/\RelV (.int i) z/\f9 [.int j] O:=by
  cases B with
  | cons U Y=>exact⟨_,_,rfl,U,Y⟩
 obtain⟨F,rfl,A⟩:=vJ Y;obtain⟨t,rfl⟩:=U;obtain⟨u,rfl⟩:=A;exact⟨b,o,_,n,t,u,rfl,x,p,w,rfl⟩
theorem oO{a kS:ej}{vs:List el}{xs:List V}{ds:List D}{ps:List (Int×Int)}{L:Nat}{P:PySem.Fin->eK->Prop}{H0 H:Hp}{s:eK}
 (G:p6 X.prog X.w X.K X.mg X.base qs k f fd pr (rp X.K pr.length F)) (h1:pr.length=1) (hr:m8 k A) (bf:A.frames=dn X.stack) (O:Binds X.K fd pr [])
 (I:Inv X pins σ H s) (sub:g8 H0 H) (rv:f9 xs vs) (rd:eA X.K H0 ds xs) (ax:ps.length=vs.length) (bg:vs.length<64)
 (hF : ∀(i:Nat) d p,ds[i]? = dn d->ps[i]? = dn p->F [d]=dn (.val<|.tup [.int p.1,.int p.2]))
 (hk:s.heap.get? kS=dn (g5 "list" #[] 0)) (ha:s.heap.get? a=dn (g5 "list" #[] L)) (b0:kS≠a) (fk:ZO X pins H kS) (fa:ZO X pins H a)
 (h : ∀J H' C c,Inv X pins σ H' J->Ext H0 H C H'->J.heap.get? a=dn (g5 "list" (PB ((qu ps).map λi=>vs.getD i NH)) c)->ZO X pins H' a->P (.done (.ret .none)) J) :
 wpAny (fe X.prog X.w) A (ksk_rest a (.ref f) eh vs.toArray L<|.ref kS) P E s:=by
 have ca:=rv.length;have cb:=rd.length;have hz:vs.length<=gm:=by rw[PU];omega
 unfold ksk_rest;refine MA (Rm ?_);rw[List.forIn_toArray];refine MA (ksk_fold (λj J=>∃l n U e,Inv X (pins++[(kS,g5 "list" U e),(a,g5 "list" #[] L)]) σ l J/\Ext H0 H n l/\∃g:List V,f9 g U.toList/\eA X.K n (YY (ps.take j)) g) vs 0 s
  ⟨H,H0,#[],0,BY I fk fa hk ha (λv z=>by cases z) (λv z=>by cases z),Ext.refl sub,[],.nil,eA.nil⟩ ?step ?done)
 case step=>
  rintro j x J hx ⟨l,n,U,e,Y,x1,g,B,m⟩;simp only[NA]at m ⊢;have hj:j<vs.length:=(MU.mp hx).1;have hp:ps[j]? = dn ps[j]:=MF ⋯;have hd:ds[j]? = dn ds[j]:=MF ⋯;have b6:xs[j]? = dn xs[j]:=MF ⋯;obtain⟨u',b7,bl⟩:=rv.get b6;rw[hx]at b7;cases b7;obtain⟨x',b8,bm⟩:=rd.get hd;rw[b6]at b8;cases b8;have env:A4 X.prog X.w X.K X.mg X.base A X.stack J l:=⟨bf,Y.B1.mod,Y.B1.bs,Y.B1.xc,Y.B1.sx,Y.B1.De,Y.B1.gj,Y.B1.bare⟩;refine MA (Rw (OW (ub (CX:=qs) (Q:=λv H'=>∃C,Ext n l C H'/\Rep X.K C (.tup [.int ps[j].1,.int ps[j].2]) v) G hr env O Y (vs:=[xs[j]]) (us:=[x]) (.cons bl .nil)
   ⟨n,[ds[j]],_,x1.sub,eA.cons (bm.mono x1.s0) eA.nil,by rw[h1];rfl,hF j _ _ hd hp,λv H' C S r2=>⟨C,S,r2⟩⟩) (λv M he=>?_) λ_ _ hF=>hF.elim))
  obtain⟨vv,T,t,bv,bx,S,r2⟩:=he
  try dsimp only
  obtain⟨r,W,_⟩:=t.pin (kS,g5 "list" U e) (Nh _ (Nh _ (.head _)));obtain⟨na,Z,_⟩:=t.pin (a,g5 "list" #[] L) (Nh _ (Nh _ (.tail _ (.head _))));have c0:=Bl t;have N:ZO X pins T kS:=⟨W,fk.2⟩;have R:ZO X pins T a:=⟨Z,fa.2⟩;have kl:U.size=j:=by have:=B.length;have:=m.length;simp only[YY,Nf,RH,Oo]at *;omega
  refine MA (Ry r rfl ?_ (by rw[kl,PU];omega) (Of (Nat.le_of_eq (Array.size_push ..)) (by rw[kl,PU];omega)));obtain⟨c2,c1⟩ : ∃c2,(M.heap.update kS (NC (·.push v))).get? kS=dn (g5 "list" (U.push v) c2):=⟨_,SY r (·.push v)⟩;have I3:=c0.C5 (h':=M.heap.update kS (NC (·.push v))) (t':=M.toks) (fp:=[kS]) (λb o O q=>(Om _ _ (λz=>O (by rw[z];exact List.mem_singleton_self _))).trans q) (λb O=>by rw[OD.mp O];exact N);have c4:(M.heap.update kS (NC (·.push v))).get? a=dn (g5 "list" #[] L):=(Om _ _ b0).trans na;refine MN ⟨rfl,T,bx,U.push v,c2,BY I3 N R c1 c4 (λv z=>by cases z) (λv z=>by cases z),x1.trans S,g++[vv],?_,?_⟩
  ·rw[Array.toList_push];exact B.append<|.cons bv .nil
  ·have ek:ps.take (j+1)=ps.take j++[ps[j]]:=by rw[List.take_add_one,hp];simp
   rw[ek];unfold YY at m ⊢;rw[NR];exact(m.mono S.s0).append (eA.cons r2 eA.nil)
 case done=>
  rintro J ⟨l,n,U,e,Y,x1,g,B,m⟩;rw[NA,<- ax,List.take_length]at m;obtain⟨r,W,_⟩:=Y.pin (kS,g5 "list" U e) (Nh _ (Nh _ (.head _)));obtain⟨na,Z,_⟩:=Y.pin (a,g5 "list" #[] L) (Nh _ (Nh _ (.tail _ (.head _))));have bb:=Bl Y;have N:ZO X pins l kS:=⟨W,fk.2⟩;have R:ZO X pins l a:=⟨Z,fa.2⟩
  try dsimp only
  refine MA<|listItems_at r rfl ?_;have l1:=B.length;have l2:=m.length;simp only[YY,Nf]at l2;have ek:U=U.toList.toArray:=by simp
  rw[ek]at r ⊢;refine uZ r na b0 ⋯ ax bg (λi hi=>?_) λh' c hsz kp hA=>?_
  ·have c6:i<ps.length:=by omega
   obtain⟨y,ey,ry⟩:=m.get (i:=i) (d:= .tup [.int (ps.getD i (0,0)).1,.int (ps.getD i (0,0)).2]) (by unfold YY;simp[c6]);obtain⟨u,hu,ru⟩:=B.get ey;have:U.toList[i]=u:=by rw[MF hi]at hu;exact ND hu
   rw[this];exact sR bb x1.sub ry ru
  ·have t:=bb.C5 (h':=h') (t':=J.toks) (fp:=[a,kS]) (λb o O q=>kp b o (λz=>O<|by rw[z];simp) (λz=>O<|by rw[z];simp) q) (λb O=>by
    rcases MS.mp O with rfl | O
    ·exact R
    ·rw[OD.mp O];exact N)
   exact h _ l n c t x1 hA R
end
noncomputable def uG:Res->Option (Int×Int)
 | .val d=>match d with
  | .tup a=>match a with
   | [x,y]=>(ml x).bind λi=>(ml y).map λj=>(i,j)
   | _=>ed
  | _=>ed
 | .own _=>ed
noncomputable def Vj(F:List D->Option Res):List D->Option (List<|Int×Int)
 | []=>dn []
 | d::r=>((F [d]).bind uG).bind λp=>(Vj F r).map λl=>p::l
noncomputable def eZ(F:List D->Option Res)(f:CO (Sk×List D)):CO (List D):=λd=>(f d).bind λa=>match a.1 with
 | .L=>(Vj F a.2).bind λb=>if a.2.length<64 then dn ((qu b).map λi=>a.2.getD i .ft)else ed
 | _=>ed
theorem Yr(z:f9 xs vs) : ∀(o:List Nat),(∀i∈o,i<xs.length)->f9 (o.map λi=>xs.getD i .ft) (o.map λi=>vs.getD i NH)
 | [],_=> .nil
 | i::o,h=>by have a:=h i MX;refine .cons ?_ (Yr z o λj I=>h j<|MT _ I);obtain⟨v,O,g2⟩:=z.get (i:=i) (x:=xs[i])<|MF a;show RelV (xs.getD i V.ft) (vs.getD i NH);rw[MI,MI,MF a,O];exact g2
section
variable{X:Cx}{pins:UQ}{σ:St}{F:List D->Option Res}{k:Nat}{f:ej}{fd:p8}{pr:List Str}
theorem cW
 (G:p6 X.prog X.w X.K X.mg X.base qs k f fd pr (rp X.K pr.length F)) (h1:pr.length=1) (hr:m8 (k+1+1) X.A) (O:Binds X.K fd pr [])
 (I:Inv X pins σ H s) (sub:g8 H0 H) (hl:s.heap.IsList l vs.toArray) (L:f9 xs vs) (rd:eA X.K H0 ds xs) (S:ps.length=vs.length) (Z:vs.length<64)
 (hF : ∀(i:Nat) d p,ds[i]? = dn d->ps[i]? = dn p->F [d]=dn (.val<|.tup [.int p.1,.int p.2]))
 (h : ∀J H' C D,H D=ed->H' D=ed->Ext H0 H C H'->Inv X pins σ (upd H' D<|.lst<|(qu ps).map λi=>xs.getD i .ft) J->Q (.ref D) J) :
 wpAny (fe X.prog X.w) X.A (call (.builtin "sorted") [.ref l] [(NK "key",.ref f)]) Q E s:=by
 have b0:=L.length;have U:vs.length<=gm:=by rw[PU];omega
 refine call_function_entry_kw kind_sorted plain_sorted entry_sorted (ksk_s1 _ _) ?_;unfold n5.«sorted»;refine MA (m:=checkCount "sorted" 1 1 _) (MN ?_);refine MA (collect_list hl ?_ U);refine MA (TF ?_ U);have a:((s.heap.push (g5 "list" #[] 0)).update s.heap.objs.size (NC (· ++ vs.toArray))).objs.size=s.heap.objs.size+1:=by rw[Pp,TM]
 have Y:(((s.heap.push (g5 "list" #[] 0)).update s.heap.objs.size (NC (· ++ vs.toArray))).push (g5 "list" vs.toArray 0)).get? (s.heap.objs.size+1)=dn (g5 "list" vs.toArray 0):=by rw[<- a];exact MV _ rfl
 have keep : ∀b o,s.heap.get? b=dn o->(((s.heap.push (g5 "list" #[] 0)).update s.heap.objs.size (NC (· ++ vs.toArray))).push (g5 "list" vs.toArray 0)).get? b=dn o:=λb o q=>by have e:b<s.heap.objs.size:=Na q;rw[PL _ _ _ (by rw[a];exact Nt (NT e)),SW _ _ _ _ (Nt e),PL _ _ _ (Nt e)];exact q
 have j:(((s.heap.push (g5 "list" #[] 0)).update s.heap.objs.size (NC (· ++ vs.toArray))).push (g5 "list" vs.toArray 0)).objs.size=s.heap.objs.size+2:=by rw[TM,a]
 show wpAny _ _ _ _ _ {s with heap:=((s.heap.push (g5 "list" #[] 0)).update s.heap.objs.size (NC (· ++ vs.toArray))).push (g5 "list" vs.toArray 0)};rw[a];generalize ((s.heap.push (g5 "list" #[] 0)).update s.heap.objs.size (NC (· ++ vs.toArray))).push (g5 "list" vs.toArray 0)=g at Y keep j ⊢;have N:Inv X pins σ H {s with heap:=g}:=I.kept (t':=s.toks) keep;have u:ZO X pins H (s.heap.objs.size+1):=I.B4 (RU _) (I.gj.fresh (RU _));refine MA (OV (wpAny_call_entry_kw slot_list_sort ⟨_,Y,rfl⟩ entry_list_sort ?body (ksk_l1 _ _)))
 case body=>
  show wpAny (fe X.prog X.w) X.A.in1.in1 (n5.«list.sort» ⟨[.ref (s.heap.objs.size+1)],[(NK "key",.ref f)]⟩) _ _ _;rw[ksk_t1];unfold ksk_tree;refine MA (S' Y rfl ?_);refine MA (Ry Y rfl ?_ (by rw[MR];exact U) (NY _));obtain⟨r,n⟩ : ∃r,(g.update (s.heap.objs.size+1) (NC λ_=>(#[]:Array el))).get? (s.heap.objs.size+1)=dn (g5 "list" #[] r):=⟨_,SY Y λ_=>#[]⟩;refine MA (Tu n rfl ?_);refine MA (Sw ?_ (by show vs.length<=_;exact U));refine MA (TF ?_ (NY _));refine OV ?_;have y:=N.C5 (h':=g.update (s.heap.objs.size+1) (NC λ_=>(#[]:Array el))) (t':=s.toks) (fp:=[s.heap.objs.size+1]) (λb o O q=>(Om _ _ (λz=>O (by rw[z];exact List.mem_singleton_self _))).trans q) (λb O=>by rw[OD.mp O];exact u);have B:=y.kept (h':=((g.update (s.heap.objs.size+1) (NC λ_=>(#[]:Array el))).push (g5 "tuple" vs.toArray 0)).push (g5 "list" #[] 0)) (t':=s.toks) (λb o q=>ME _ (ME _ q));have x:((g.update (s.heap.objs.size+1) (NC λ_=>(#[]:Array el))).push (g5 "tuple" vs.toArray 0)).objs.size=s.heap.objs.size+3:=by rw[TM,Pp,j]
  have R:ZO X pins H (s.heap.objs.size+3):=I.B4 (Nv _ _) (I.gj.fresh (Nv _ _));refine oO (A:=X.A.in1.in1) (ps:=ps) (xs:=xs) (ds:=ds) (H0:=H0) (H:=H) (s:={s with heap:=((g.update (s.heap.objs.size+1) (NC λ_=>(#[]:Array el))).push (g5 "tuple" vs.toArray 0)).push (g5 "list" #[] 0)}) (kS:=((g.update (s.heap.objs.size+1) (NC λ_=>(#[]:Array el))).push (g5 "tuple" vs.toArray 0)).objs.size)
   G h1 hr.in1.in1 I.B1.in1.in1.frames O B sub L rd S Z hF (MV _ rfl) (ME _<|ME _ n) (by rw[x];exact λz=>absurd (Nat.add_left_cancel z) ⋯) (by rw[x];exact R) u λJ H' C c M x3 T t=>⟨_,rfl,?_⟩
  refine MN ⟨_,rfl,h J H' C _ (I.gj.fresh<|RU _) t.1 x3<|ie M t ?_⟩;have as : ∀i∈qu ps,i<xs.length:=λi W=>by have:=(qa ps).mem_iff.mp W;have:=MD.mp this;omega
  have P:((qu ps).map λi=>xs.getD i V.ft).length=vs.length:=by rw[Nf,(qa ps).length_eq,NI,S]
  exact⟨by rw[P];exact U,(qu ps).map λi=>vs.getD i NH,c,Yr L _ as,T⟩
end
theorem Vi : ∀{ds:List D} {ps:List (Int×Int)},Vj F ds=dn ps->ps.length=ds.length
 | [],ps,h=>by cases h;rfl
 | d::r,ps,h=>by obtain⟨p,_,a⟩:=zf h;obtain⟨l,z,I⟩:=zF a;subst I;simp[Vi z]
theorem cI(h:uG r=dn p):r = .val (.tup [.int p.1,.int p.2]):=by
 unfold uG at h;split at h
 ·split at h
  ·split at h
   ·obtain⟨i,a,b⟩:=zf h
    obtain⟨j,z,I⟩:=zF b;subst I;rw[j1 a,j1 z]
   ·cases h
  ·cases h
 ·cases h
theorem aW : ∀{ds:List D} {ps:List (Int×Int)},Vj F ds=dn ps->∀(i:Nat) d p,ds[i]? = dn d->ps[i]? = dn p->F [d]=dn (.val<|.tup [.int p.1,.int p.2])
 | [],ps,h,i,d,p,hd,hp=>by simp at hd
 | c::r,ps,h,i,d,p,hd,hp=>by
  obtain⟨q,b,e⟩:=zf h;obtain⟨l,z,I⟩:=zF e;subst I;cases i with
  | zero=>
   simp at hd hp;subst hd hp;obtain⟨U,a,O⟩:=zf b;rw[a,cI O]
  | succ i=>exact aW z i d p (by simpa using hd) (by simpa using hp)
section
variable{X:Cx}{sc:ij}{N L:List Str}{k j:Nat}{e:e9}{fq:CO (Sk×List D)}{F:List D->Option Res}{x:Str}{p p2 pos Q_:hL}
theorem nU(S:gR X.prog X.w X.K X.mg X.base j x 1 F)(h:SX X sc N L k)(Z:j+1+1<=k)(c:vQ sc "sorted" = d7)(z:X.mg "sorted" = ed)(J:vQ sc x=d7)(hq:PQ X e fq)
 (C:gu [e] X.env=[(eh,fh e X.env)]:=by rfl) :
 PO X (.Call (.Name "sorted" p) [e] [⟨dn "key",.Name x p2,Q_⟩] pos) (eZ F fq):=by
 intro b s σ H Q I m;obtain⟨H0,γ,out,rc,O,q⟩:=m;obtain⟨⟨kk,ds⟩,E,O⟩:=zf O;obtain⟨M,fd,pr,hn,G,hm,hk,R⟩:=S.ex;cases kk with
 | T=>cases O
 | L=>
  have O:((Vj F ds).bind λps=>if ds.length<64 then dn ((qu ps).map λi=>ds.getD i .ft)else ed)=dn out:=O;obtain⟨ps,o,O⟩:=zf O;by_cases t:ds.length<64
  ·rw[UJ t]at O
   cases O;refine Rx (yT (u:= .builtin "sorted") I (h.gl c).1 z ⋯ (callWith_kw ?_ (by rw[C];rfl) (by rw[C];rfl)) ⋯ ⋯);refine f6 ((jT hq xj C) pos b s σ H (λvs d=>∃a xs U,vs=[.ref a]/\Ext H0 H U d/\gv X.K d a xs/\eA X.K U ds xs) I ⟨H0,γ,.L,ds,rc,E,λa xs d U x1 g1 g2 Y=>⟨a,xs,U,rfl,x1,g1,Y⟩⟩) λus y m=>?_;obtain⟨vs,d,l,rv,a,xs,U,rfl,x1,g1,Y⟩:=m;obtain⟨u,rfl,ru⟩:=vJ rv;cases ru;show wpAny _ _ (evalAll ((do let v <- fh (.Name x p2) X.env;DC pos;pure v)::[])) _ _ y;refine wpAny_evalAll_cons (MA (Wv l (h.gl J).1 hm (MA (TC (MN ?_))) (h.gl J).2.2));refine wpAny_evalAll_nil ?_;obtain⟨B,r,pl,hz⟩:=l.list g1;have l1:=r.length;have l2:=Y.length;have l3:=Vi o;show wpAny _ _ (call (.builtin "sorted") [.ref a] [(NK "key",.ref M)]) _ _ y;refine cW (H0:=U) (ps:=ps) (xs:=xs) (ds:=ds) (vs:=B) (F:=F) G hn (h.room.mono Z) R l x1.sub pl.isList r Y ⋯ ⋯ (aW o) λs' H' g D P n f A=>?_;refine⟨.ref D,_,A,rfl,q D _ _ g (x1.trans (f.trans (Ext.hide f.sub n _))) (kJ x1.s1 P) (jA f.sub n) zS ?_⟩;refine JQ (Y.mono f.s0) _ λi W=>?_;have:=(qa ps).mem_iff.mp W;have:=MD.mp this;omega
  ·rw[UY t]at O;cases O
end
section
variable{X:Cx}{sc:ij}{N L:List Str}{k j n i:Nat}{a b c e:e9}{es:List e9}{f:CO D}{g:CO (List D)}{p pos:hL}{x:Str}{st _v _w:k4}{yd:List k4}{F:List D->Option Res}
open Classical in
def B7(H:Hp)(p:ej):Hp:=λc=>if c=p then ed else H c
theorem K2{H:Hp}{p c:ej}(h:c≠p):B7 H p c=H c:=UY h
end
mutual
def S4:D->Bool
 | .tup a=>E6 a
 | .lst a=>E6 a
 | .l9 _ _=>eh
 | .lU _ _=>eh
 | _=>d7
def E6:List D->Bool
 | []=>d7
 | x::xs=>S4 x && E6 xs
end
mutual
theorem Rep.less{K:MC}{H:Hp}{p:ej}{C:gb->Prop}(I:H p=dn (.ext C)) : ∀{d:D} {v:V},S4 d=d7->Rep K H d v->Rep K (B7 H p) d v
 | .ft,_,_,h=>h
 | .bl _,_,_,h=>h
 | .int _,_,_,h=>h
 | .str _,_,_,h=>h
 | .tup ds,v,n,h=>by
  obtain⟨a,b,f,g,i⟩:=(show ∃a b,v = .ref a/\hB K H a b/\eA K H ds b from h);refine(show ∃a b,v = .ref a/\hB K (B7 H p) a b/\eA K (B7 H p) ds b from⟨a,b,f,?_,eA.less I n i⟩);have z : ∀{u:HO},(∀C,u ≠ .ext C)->H a=dn u->a≠p:=λO q e=>by rw[e,I]at q;exact O _ (ND q).symm
  rcases g with(hq | ⟨o',hq⟩) | hq
  ·exact .inl (.inl<|by rw[K2 (z (λ_=>by simp) hq)];exact hq)
  ·exact .inl<|.inr ⟨o',by rw[K2 (z (λ_=>by simp) hq)];exact hq⟩
  ·exact .inr hq
 | .lst ds,v,n,h=>by
  obtain⟨a,b,f,g,i⟩:=(show ∃a b,v = .ref a/\gv K H a b/\eA K H ds b from h);refine(show ∃a b,v = .ref a/\gv K (B7 H p) a b/\eA K (B7 H p) ds b from⟨a,b,f,?_,eA.less I n i⟩);have z : ∀{u:HO},(∀C,u ≠ .ext C)->H a=dn u->a≠p:=λO q e=>by rw[e,I]at q;exact O _ (ND q).symm
  rcases g with(hq | ⟨o',hq⟩) | hq
  ·exact .inl (.inl<|by rw[K2 (z (λ_=>by simp) hq)];exact hq)
  ·exact .inl<|.inr ⟨o',by rw[K2 (z (λ_=>by simp) hq)];exact hq⟩
  ·exact .inr hq
 | .l9 _ _,_,n,_=>nomatch n
 | .lU _ _,_,n,_=>nomatch n
theorem eA.less{K:MC}{H:Hp}{p:ej}{C:gb->Prop}(z:H p=dn (.ext C)) : ∀{ds:List D} {xs:List V},E6 ds=d7->eA K H ds xs->eA K (B7 H p) ds xs
 | [],_,_,h=>h
 | d::ds,xs,n,h=>by obtain⟨x,r,a,b,e⟩:=(show ∃x r,xs=x::r/\Rep K H d x/\eA K H ds r from h);have n:(S4 d && E6 ds)=d7:=n;rw[MW]at n;exact(show ∃x r,xs=x::r/\Rep K (B7 H p) d x/\eA K (B7 H p) ds r from⟨x,r,a,Rep.less z n.1 b,eA.less z n.2 e⟩)
end
def B8(e:e9):Str:=match e with | .Name x _=>x | _=>""
def y0(e:e9):List Str:=match e with | .Tuple a _ _=>a.map B8 | e=>[B8 e]
def Dd(N:List Str)(fs:List Nat):List (Str×Nat):=fs.map λi=>(N.getD i "",i)
theorem QO(N:List Str)(fs:List Nat):(Dd N fs).map (·.2)=fs:=by unfold Dd;rw[Nm];exact List.map_id fs
def sd(e:e9):Bool:=match e with | .Name _ _=>d7 | _=>eh
theorem cP{e:e9}(h:sd e=d7) : ∃p,e = .Name (B8 e) p:=by
 unfold sd at h;split at h
 ·exact⟨_,rfl⟩
 ·cases h
noncomputable def ID(C:ij)(N L:List Str)(is:List Nat)(I:List e9):Bool:=match is with
 | [i,j]=>(match I with | [a,b]=>sd a && (yU C N L i (B8 a) && (sd b && yU C N L j (B8 b))) | _=>eh)
 | [i,j,l]=>(match I with | [a,b,c]=>sd a && (yU C N L i (B8 a) && (sd b && (yU C N L j (B8 b) && (sd c && yU C N L l (B8 c))))) | _=>eh)
 | _=>eh
noncomputable def F5(C:ij)(N L:List Str)(e:e9)(T:Tg):Bool:=match T with
 | .nm i=>sd e && yU C N L i (B8 e)
 | .tp is=>(match e with | .Tuple a _ _=>ID C N L is a | _=>eh)
theorem sW{X:Cx}{C:ij}{N L:List Str}{k:Nat}(h:SX X C N L k){e:e9}{T:Tg}(c:F5 C N L e T=d7):PG X e (qq X.K T):=by
 cases T with
 | nm i=>
  have c:=Bool.and_eq_true_iff.mp c;obtain⟨p,q⟩:=cP c.1;rw[q];exact h.DF _ c.2
 | tp is=>
  unfold F5 at c;dsimp only at c;split at c
  ·next d j pos=>
   unfold ID at c;split at c
   ·split at c
    ·simp only[MW]at c
     obtain⟨z,I,b1,b2⟩:=c;obtain⟨p,q⟩:=cP z;obtain⟨a,O⟩:=cP b1;rw[q,O];exact h.f_<|wH (h.DF _ I)<|wH (h.DF _ b2) fZ
    ·cases c
   ·split at c
    ·simp only[MW]at c
     obtain⟨z,I,b1,b2,U,Y⟩:=c;obtain⟨p,q⟩:=cP z;obtain⟨a,O⟩:=cP b1;obtain⟨f,b⟩:=cP U;rw[q,O,b];exact h.f_<|wH (h.DF _ I)<|wH (h.DF _ b2)<|wH (h.DF _ Y) fZ
    ·cases c
   ·cases c
  ·cases c
noncomputable def cB(I scope:ij)(N:List Str)(C:e9)(T:Tg)(n:Nat)(fs:List Nat):Bool:=
 WK I scope N (Dd N fs) && (GK (y0 C) scope (Dd N fs) && (decide (∀i∈T.idx,i<(y0 C).length) && (decide ((y0 C).length=n) && F5 (yv scope I) (y0 C++(Dd N fs).map (·.1)) (y0 C) C T)))
abbrev B0(X:Cx)(scope:ij)(N:List Str)(tg:e9)(fs:List Nat):=jJ X scope (y0 tg++(Dd N fs).map (·.1))
abbrev SA(X:Cx)(sc scope:ij)(N:List Str)(tg:e9)(fs:List Nat)(k:Nat)(fp:List ej)(s2:eK)(H2:Hp):Prop:=SX (B0 X scope N tg fs fp s2 H2) (yv scope sc) (y0 tg++(Dd N fs).map (·.1)) (y0 tg) k
section
variable{X:Cx}{sc scope:ij}{N L:List Str}{k n i:Nat}{fs:List Nat}{T:Tg}{e elt tg iter DO:e9}{es:List e9}{pos p py spos cpos:hL}{x y:Str}{f g:CO D}{fo:CO (List D)}{src gl:CO (List D)}{kk:CO Bool}
theorem cA(h:SX X sc N L k)(c:cB sc scope N tg T n fs=d7):rr X scope (Dd N fs)/\(∀i∈T.idx,i<(y0 tg).length)/\(y0 tg).length=n/\(∀fp J C,SA X sc scope N tg fs k fp J C)/\∀fp J C,PG (B0 X scope N tg fs fp J C) tg (qq X.K T):=by unfold cB at c;simp only[MW,decide_eq_true_eq]at c;obtain⟨z,I,O,U,a⟩:=c;have s : ∀fp J C,SA X sc scope N tg fs k fp J C:=λfp J C=>h.comp I;exact⟨h.J' z,O,U,s,λfp J C=>sW (s fp J C) a⟩
theorem qU(h:SX X sc N L k)(hi:r6 X tg iter src)(z : ∀fp J C,SA X sc scope N tg fs k fp J C->PV (B0 X scope N tg fs fp J C) elt f)(c:cB sc scope N tg T n fs=d7:=by decide +kernel)(I : ∀x,o8 iter X.env x=pure x:=by intro _;rfl) :
 PO X (.ListComp elt [⟨tg,iter,[],0⟩] scope pos) (zM src T n fs jd f):=by
 obtain⟨a,b,d,s,q⟩:=cA h c;have r:=ux (pos:=pos) h.calm a b hi q (λfp J C=>z fp J C<|s fp J C) I;rw[d,QO]at r;exact r
theorem cE(h:SX X sc N L k)(hi:r6 X tg iter src)(z : ∀fp J C,SA X sc scope N tg fs k fp J C->m4 (B0 X scope N tg fs fp J C) DO kk)(I : ∀fp J C,SA X sc scope N tg fs k fp J C->PV (B0 X scope N tg fs fp J C) elt f)(c:cB sc scope N tg T n fs=d7:=by decide +kernel)(O : ∀x,o8 iter X.env x=pure x:=by intro _;rfl) :
 PO X (.ListComp elt [⟨tg,iter,[DO],0⟩] scope pos) (zM src T n fs kk f):=by
 obtain⟨a,b,d,s,q⟩:=cA h c;have r:=fU (pos:=pos) h.calm a b hi q (λfp J C=>z fp J C<|s fp J C) (λfp J C=>I fp J C<|s fp J C) O;rw[d,QO]at r;exact r
theorem vb(h:SX X sc N L k)(hi:r6 X tg iter src)(z : ∀fp J C,SA X sc scope N tg fs k fp J C->PV (B0 X scope N tg fs fp J C) elt f)(ct:yU sc N L i y=d7:=by decide +kernel)(c:cB sc scope N tg T n fs=d7:=by decide +kernel)(I : ∀x,o8 iter X.env x=pure x:=by intro _;rfl) :
 PS X (.Assign [.Name y py] (.ListComp elt [⟨tg,iter,[],0⟩] scope cpos) spos) (bX (tO X.K<|zM src T n fs jd f)<|vg i):=by
 obtain⟨a,b,d,s,q⟩:=cA h c;have r:=X' (cpos:=cpos) (spos:=spos) (py:=py) i h ct h.calm a b hi q (λfp J C=>z fp J C<|s fp J C) I;rw[d,QO]at r;exact r
theorem uo(h:SX X sc N L k)(hi:r6 X tg iter src)(z : ∀fp J C,SA X sc scope N tg fs k fp J C->m4 (B0 X scope N tg fs fp J C) DO kk)(I : ∀fp J C,SA X sc scope N tg fs k fp J C->PV (B0 X scope N tg fs fp J C) elt f)(ct:yU sc N L i y=d7:=by decide +kernel)(c:cB sc scope N tg T n fs=d7:=by decide +kernel)(O : ∀x,o8 iter X.env x=pure x:=by intro _;rfl) :
 PS X (.Assign [.Name y py] (.ListComp elt [⟨tg,iter,[DO],0⟩] scope cpos) spos) (bX (tO X.K<|zM src T n fs kk f)<|vg i):=by
 obtain⟨a,b,d,s,q⟩:=cA h c;have r:=GY (cpos:=cpos) (spos:=spos) (py:=py) i h ct h.calm a b hi q (λfp J C=>z fp J C<|s fp J C) (λfp J C=>I fp J C<|s fp J C) O;rw[d,QO]at r;exact r
theorem Cw(h:SX X sc N L k)(hi:r6 X tg iter src)(z : ∀fp J C,SA X sc scope N tg fs k fp J C->PO (B0 X scope N tg fs fp J C) elt fo)(ct:yU sc N L i y=d7:=by decide +kernel)(c:cB sc scope N tg T n fs=d7:=by decide +kernel)(I : ∀x,o8 iter X.env x=pure x:=by intro _;rfl) :
 md X (.Assign [.Name y py] (.ListComp elt [⟨tg,iter,[],0⟩] scope cpos) spos) (ny i<|ay src T n fs fo):=by
 obtain⟨a,b,d,s,q⟩:=cA h c;have r:=nO (cpos:=cpos) (spos:=spos) (py:=py) i h ct h.calm a b hi q (λfp J C=>z fp J C<|s fp J C) I;rw[d,QO]at r;exact r
theorem zy(h:SX X sc N L k)(c:Yp sc N i x=d7:=by decide +kernel):PV X (.Name x pos) (zc i):=Cg i<|h.var c
theorem zY(h:SX X sc N L k)(c:Yp sc N i x=d7:=by decide +kernel):PQ X (.Name x pos) (ze i):=CA i<|h.var c
theorem Bs(h:SX X sc N L k)(c:F5 sc N L e T=d7:=by decide +kernel):PG X e (qq X.K T):=sW h c
theorem j9(h:SX X sc N L k)(z:PV X e f)(c:yU sc N L i x=d7:=by decide +kernel)(I:C2 e (dn (.Name x py)) pos.line X.env=pure eh:=by rfl):md X (.Assign [.Name x py] e pos) (jy i f):=uk i<|h.set i c z I
theorem va(h:SX X sc N L k)(z:PO X e fo)(c:yU sc N L i x=d7:=by decide +kernel)(I:C2 e (dn (.Name x py)) pos.line X.env=pure eh:=by rfl):md X (.Assign [.Name x py] e pos) (xq i fo):=aF i<|h.set i c z I
theorem kn{C:List k4}{F:CO Fl}(hx:X.xe=λ_ _=>False)(h:SX X sc N L k)(hi:i5 X tg iter src)(z:mj X C F)(c:F5 sc N L tg T=d7:=by decide +kernel)(I : ∀x,o8 iter X.env x=pure x:=by intro _;rfl):md X (.For tg iter C [] pos) (yN src T F):=um (rR hx) h.calm hi (sW h c) z I
variable{j:Nat}{F:List D->Option Res}
theorem jh(z:gR X.prog X.w X.K X.mg X.base j x n F)(h:SX X sc N L k)(C:C9 X (e::es) n gl)(I:j<=k:=by decide)(c:vQ sc x=d7:=by decide +kernel)
 (O:gu (e::es) X.env=(eh,fh e X.env)::gu es X.env:=by rfl) (U:(su pos<|starEach es X.env).any (·.1)=eh:=by rfl):PV X (.Call (.Name x p) (e::es) [] pos) (zA F gl):=GX z I h c C O U
theorem k6(z:gR X.prog X.w X.K X.mg X.base j x n F)(h:SX X sc N L k)(C:C9 X (e::es) n gl)(I:j<=k:=by decide)(c:vQ sc x=d7:=by decide +kernel)
 (O:gu (e::es) X.env=(eh,fh e X.env)::gu es X.env:=by rfl) (U:(su pos<|starEach es X.env).any (·.1)=eh:=by rfl):PO X (.Call (.Name x p) (e::es) [] pos) (jw F gl):=Ha z I h c C O U
end
noncomputable def Kg:=jk 1 (zL (iN (vw (j6 (sB (o5 .str (zc 0)))) (sB (zG UB (yX (zc 0)) (zq (.int 6))))) (j5 (zq (.bl eh))) qc) (j5 (AX (jj (zM (BH (zc 0)) (.nm 0) 1 [] jd (LI (zc 0) (zE (zq (.tup [.str "r",.str "l"])))))))))
noncomputable def ZP:=jk 2<|zL (iN (vw (j6<|sB<|zA W1<|zb (zc 1)<|zb (zq<|.int 2) zB)<|vw (j6<|sB<|zA VQ<|zb (zc 0)<|zb (eg (ze 1)<|zq<|.int 0) zB)<|j6<|sB<|zA VQ<|zb (zc 0)<|zb (eg (ze 1)<|zq<|.int 1) zB) (j5<|zq<|.bl eh) qc)<|j5<|zG lx (eg (ze 1)<|zq<|.int 0)<|eg (ze 1)<|zq<|.int 1
noncomputable def Xm:=jk 2<|wz<|zM (aw<|zc 0) (.tp [0,1]) 2 [1] (sB<|kH lx lx (eg (ze 1)<|zq<|.int 0) (zc 2)<|eg (ze 1)<|zq<|.int 1) (zc 0)
noncomputable def jO:=jk 5<|zL (iN (fv (sB<|zG pk (km<|ze 0)<|zq<|.int 1)<|sB<|zG hG (zG yh (eg (ze 0)<|zq<|.int 0)<|zq<|.int 2)<|zq<|.int 1) (zL (jy 2<|eg (ze 0)<|zG qo (zq<|.int 1)<|zG yh (zc 1)<|zG QV (km<|ze 0)<|zq<|.int 1)<|zL (yN (z6<|V1 (zq<|.int 60)<|zG K6 (zc 1)<|zG QV (km<|ze 0)<|zq<|.int 1) (.nm 3)<|jy 2<|zG K6 (zc 2)<|zG Au (zq<|.int 10)<|zq<|.int 9)<|j5<|zG yh (zc 2)<|zG Au (zq<|.int 10)<|zq<|.int 9) qc)<|zL (jy 4<|zc 1)<|zL (iN (sB<|zG pk (km<|ze 0)<|zq<|.int 0) (jy 4<|eg (ze 0)<|zG yh (zc 1)<|km<|ze 0) qc)<|j5<|zG yh (zG yG (zG yh (zG qo (zG qo (zG qo (zG yG (zG yh (zc 4)<|zG Au (zq<|.int 10)<|zq<|.int 30)<|zq<|.int 48271)<|zG yG (zG yG (zq<|.int 7)<|zc 1)<|zc 1)<|zG yG (zq<|.int 13)<|zc 1)<|zq<|.int 5)<|zq<|.int 2147483647)<|zq<|.int 69621)<|zq<|.int 1000000007
noncomputable def jz:=jk 2<|wz<|zM (aw<|zc 0) (.tp [0,1]) 2 [1] (sB<|kH lx lx (eg (ze 1)<|zq<|.int 0) (zc 2)<|eg (ze 1)<|zq<|.int 1) (zc 0)
noncomputable def cS:=(zL (jy 7 (zG qo (zc 5) (kh (zG hG (zc 6) (zq (.str "l")))))) (zL (jy 8 (zG qo (zc 5) (kh (zG hG (zc 6) (zq (.str "r")))))) (zL (jy 9 (j3 (zM (zK (jj (jw jz (zb (zc 2) (zb (zc 8) zB))))) (.nm 0) 1 [2,7] jd (zP (jj (zM (zK (jj (jw jz (zb (zc 1) (zb (zc 2) zB))))) (.nm 0) 1 [0] jd (kh (zG hG (zc 1) (zc 0))))))))) (qe 4 (qA (zb (zc 6) (zb (qA (zb (eg (ze 3) (zc 8)) (zb (eg (ze 3) (zc 7)) (zb (zP (ze 9)) zB)))) zB)))))))
noncomputable def yJ:=jk 10<|zL (jy 3<|j3<|zM (z6<|zG qo (yX<|zc 1)<|zq<|.int 1) (.nm 0) 1 [2] jd (km<|jj<|jw jz<|zb (zc 1)<|zb (zc 0) zB))<|zL (xq 4<|qG zB)<|zL (yN (fu<|zc 1) (.tp [5,6]) cS)<|j5<|qA<|zb (zc 0)<|zb (zP<|ze 3)<|zb (zP<|ze 4) zB
noncomputable def qf:=jk 5<|zL (jy 3<|j3<|zM (Xo (eg (ze 0)<|zq<|.int 2)<|eg (ze 2)<|zq<|.int 2) (.tp [0,1]) 2 [] jd (zG qo (zc 0)<|zc 1))<|zL (jy 4<|j3<|zM (zK<|zE<|eg (ze 1)<|zq<|.int 2) (.nm 0) 1 [0] jd (zG qo (zG yG (qA<|zb (zq<|.int 0) zB)<|eg (ze 1)<|zq<|.int 1)<|zc 0))<|j5<|qA<|zb (zG qo (eg (ze 0)<|zq<|.int 0)<|eg (ze 1)<|zq<|.int 0)<|zb (zG qo (eg (ze 0)<|zq<|.int 1)<|eg (ze 1)<|zq<|.int 1)<|zb (zP<|zE<|j3<|JP (ze 3)<|ze 4) zB
noncomputable def xC:=jk 2<|j5<|zA xX<|zb (eg (ze 0)<|zq<|.int 0)<|zb (eg (ze 1)<|zq<|.int 1) zB
noncomputable def ZH:=jk 2<|j5<|zA qf<|zb (zc 0)<|zb (zc 1)<|zb (zA xC<|zb (zc 0)<|zb (zc 1) zB) zB
noncomputable def rA:=jk 3<|wz<|jw qY<|zb (zc 0)<|zb (eg (ze 1)<|zq<|.int 0)<|zb (j3<|zM (zK<|ze 2) (.nm 0) 1 [0,1] jd (zA dC<|zb (zc 1)<|zb (zc 2)<|zb (zc 0) zB)) zB
noncomputable def Fs:=jk 6<|zL (jy 3<|zA qx<|zb (eg (zE<|eg (ze 0)<|zq<|.int 1)<|zc 1) zB)<|zL (xq 4<|zM (zK<|zE<|eg (ze 3)<|zq<|.int 2) (.nm 0) 1 [] jd (zG qo (zc 0)<|zc 0))<|zL (yN (zK<|zE<|au (eg (ze 0)<|zq<|.int 2) (pe<|zc 1)<|pe<|zc 2) (.nm 5)<|mC 4<|xq 4<|BM rA xO<|zb (eg (ze 0)<|zq<|.int 0)<|zb (eg (ze 5)<|zq<|.int 0)<|zb (zA ZH<|zb (zc 3)<|zb (eg (ze 5)<|zq<|.int 1) zB)<|zb (zc 4) zB)<|Xs 4
noncomputable def ke:=jk 3 (zL (iN (sB (zG hG (eg (ze 1) (zq (.int 0))) (eg (ze 2) (zq (.int 0))))) (j5 (zq (.bl d7))) qc) (j5 (zG hG (ya (zc 0) (zG QV (cg (eg (ze 1) (zq (.int 0))) (eg (ze 2) (zq (.int 0)))) (zq (.int 1)))) (fj (sB (zG rh (eg (ze 1) (zq (.int 0))) (eg (ze 2) (zq (.int 0))))) (zq (.str "l")) (zq (.str "r"))))))
noncomputable def xB:=jk 3 (zL (iN (sB (zG hG (eg (ze 1) (zq (.int 1))) (eg (ze 2) (zq (.int 1))))) (j5 (zq (.bl d7))) qc) (j5 (zG hG (ya (zc 0) (V1 (eg (ze 1) (zq (.int 1))) (eg (ze 2) (zq (.int 1))))) (fj (sB (zG pk (eg (ze 1) (zq (.int 1))) (eg (ze 2) (zq (.int 1))))) (zq (.str "r")) (zq (.str "l"))))))
noncomputable def kF:=jk 3<|zL (iN (sB<|zG pk (cg (eg (ze 1)<|zq<|.int 0)<|eg (ze 2)<|zq<|.int 0)<|V1 (eg (ze 1)<|zq<|.int 1)<|eg (ze 2)<|zq<|.int 1) (j5<|zq<|.int 0) qc)<|j5<|fj (fv (sB<|zA ke<|zb (zc 0)<|zb (zc 1)<|zb (zc 2) zB)<|sB<|zA xB<|zb (zc 0)<|zb (zc 1)<|zb (zc 2) zB) (zq<|.int 1)<|zq<|.int 0
noncomputable def qi:=jk 2 (zL (iN (sB (zG hG (ya (zc 0) (zc 1)) (zq (.str "r")))) (j5 (qA (zb (zc 1) (zb (zG qo (zc 1) (zq (.int 1))) zB)))) qc) (j5 (qA (zb (zG qo (zc 1) (zq (.int 1))) (zb (zc 1) zB)))))
noncomputable def qK:=jk 8<|zL (xq 4<|qG zB)<|zL (yN (z6<|zc 2) (.nm 5)<|zL (jy 6<|zA jO<|zb (zc 0)<|zb (zG qo (zc 1)<|zc 5) zB)<|zL (jy 7<|zG yh (zc 6)<|zc 3)<|qe 4<|qA<|zb (zc 7)<|zb (zG qo (zc 7)<|zG yh (zG K6 (zc 6)<|zc 3)<|zG QV (zc 3)<|zc 7) zB)<|wz<|YN<|ze 4
noncomputable def xY:=jk 2 (j5 (fi (zq (.str "")) (jj (zM (z6 (zG QV (zc 1) (zq (.int 1)))) (.nm 0) 1 [0] jd (ya (zq (.str "rl")) (zG yh (zG K6 (zc 1) (eg (jj (qG (zb (zq (.int 1)) (zb (zq (.int 2)) (zb (zq (.int 4)) (zb (zq (.int 8)) (zb (zq (.int 16)) zB))))))) (zc 0))) (zq (.int 2))))))))
def xZ:=jk 1<|iN (sB<|zG pk (JO<|ze 0)<|zq<|.int 30) XM qc
noncomputable def qw:=jk 3<|zL (jy 2<|zP<|jj<|zM (Xo (eg (ze 0)<|zq<|.int 1)<|eg (ze 1)<|zq<|.int 1) (.tp [0,1]) 2 [] jd (zG qo (zc 0)<|zc 1))<|zL (cn<|zA xZ<|zb (zc 2) zB)<|Xs 2
noncomputable def Jy:=jk 5<|zL (jy 3<|zA qw<|zb (zc 0)<|zb (zc 1) zB)<|zL (jy 4<|j3<|zM (eY (eg (ze 0)<|zq<|.int 2) (eg (ze 1)<|zq<|.int 2)<|zc 2) (.tp [0,1,2]) 3 [] jd (qA<|zb (eg (ze 0)<|zq<|.int 0)<|zb (zA qf<|zb (eg (ze 0)<|zq<|.int 1)<|zb (eg (ze 1)<|zq<|.int 1)<|zb (zc 2) zB) zB))<|j5<|qA<|zb (eg (ze 0)<|zq<|.int 0)<|zb (zc 3)<|zb (zP<|ze 4) zB
noncomputable def xD:=jk 10<|zL (wy (.tp [3,4])<|zc 2)<|zL (xq 5<|qG zB)<|zL (yN (z6<|yX<|zc 1) (.nm 6)<|zL (wy (.tp [7,8])<|zA qi<|zb (zc 1)<|zb (zc 6) zB)<|zL (jy 9<|zP<|jj<|zM (zK<|zE<|eg (ze 4)<|zc 6) (.nm 0) 1 [] jd (zP<|ze 0))<|qe 5<|qA<|zb (ya (zc 1)<|zc 6)<|zb (qA<|zb (eg (ze 3)<|zc 8)<|zb (eg (ze 3)<|zc 7)<|zb (zc 9) zB) zB)<|j5<|qA<|zb (zc 0)<|zb (zP<|ze 3)<|zb (zP<|ze 5) zB
noncomputable def Em:=(jy 3<|j3<|zM (z6<|eg (ze 2)<|zq<|.int 1) (.nm 0) 1 [2] jd (j3<|zM (zK<|zE<|eg (ze 1)<|zq<|.int 2) (.nm 0) 1 [0] jd (eg (ze 0)<|zc 1)))
def Hm:=(xq 4<|qG zB)
noncomputable def Hl:=(yN (zK<|zE<|eg (ze 1)<|zq<|.int 2) (.nm 5)<|qe 4<|zP<|jj<|zM (zK<|ze 3) (.nm 0) 1 [0,5] jd (zG yh (JO<|jj<|zM (Xo (zc 2)<|zc 0) (.tp [0,1]) 2 [] jd (zG yG (zc 0)<|zc 1))<|zc 1))
noncomputable def FS:=(j5<|qA<|zb (eg (ze 1)<|zq<|.int 0)<|zb (eg (ze 2)<|zq<|.int 1)<|zb (zP<|ze 4) zB)
def jR:=jk 6<|zL Em<|zL Hm<|zL Hl FS
noncomputable def kB:=jk 1<|j5<|qA<|zb (zc 0)<|zb (zc 0)<|zb (zP<|jj<|zM (z6<|zc 0) (.nm 0) 1 [0] jd (zP<|jj<|zM (z6<|zc 1) (.nm 0) 1 [0] jd (kh<|zG hG (zc 1)<|zc 0))) zB
def Hk:=(wy (.tp [3,4,5])<|zc 0)
def Hj:=(xq 6<|qG zB)
noncomputable def Hi:=(yN (ck (zc 5)) (.tp [7,8]) (zL (jy 9 (zG qo (zc 7) (kh (zG hG (eg (ze 8) (zq (.int 0))) (zq (.str "l")))))) (zL (jy 10 (zG qo (zc 7) (kh (zG hG (eg (ze 8) (zq (.int 0))) (zq (.str "r")))))) (qe 6 (qA (zb (eg (ze 8) (zq (.int 0))) (zb (zA jR (zb (zc 3) (zb (zA jR (zb (zc 3) (zb (eg (ze 1) (zc 10)) (zb (eg (ze 8) (zq (.int 1))) zB)))) (zb (eg (ze 2) (zc 9)) zB)))) zB)))))))
def FQ:=(j5<|qA<|zb (zc 3)<|zb (zc 4)<|zb (zP<|ze 6) zB)
def xQ:=jk 11<|zL Hk<|zL Hj<|zL Hi FQ
noncomputable def Ho:=(iN (vw (j6<|sB<|o5 .tuple<|zc 1)<|vw (sB<|zG i0 (km<|ze 1)<|zq<|.int 3)<|vw (j6<|sB<|zA jt<|zb (eg (ze 1)<|zq<|.int 0) zB)<|j6<|sB<|zA jt<|zb (eg (ze 1)<|zq<|.int 1) zB) (j5<|zq<|.bl eh) qc)
noncomputable def Bb:=(iN (vw (sB<|zG i0 (au (zc 1) VS<|pe<|zq<|.int 2)<|qA<|zb (zc 2)<|zb (zc 3) zB)<|vw (j6<|sB<|o5 .tuple<|eg (ze 1)<|zq<|.int 2)<|sB<|zG i0 (km<|zE<|eg (ze 1)<|zq<|.int 2)<|zc 2) (j5<|zq<|.bl eh) qc)
noncomputable def Hn:=(yN (zK<|zE<|eg (ze 1)<|zq<|.int 2) (.nm 4)<|zL (iN (vw (j6<|sB<|o5 .tuple<|zc 4)<|sB<|zG i0 (km<|ze 4)<|zc 3) (j5<|zq<|.bl eh) qc)<|iN (j6<|sB<|AX<|jj<|zM (zK<|ze 4) (.nm 0) 1 [0] jd (fw (zA jt<|zb (zc 0) zB)<|kH lx rh (zq<|.int 0) (zc 0)<|zc 1)) (j5<|zq<|.bl eh) qc)
def IS:=(j5<|zq<|.bl d7)
def jv:=jk 5<|zL Ho<|zL Bb<|zL Hn IS
def S9:=(wy (.tp [2,3,4])<|zc 0)
noncomputable def TU:=(iN (vw (j6<|sB<|o5 .tuple<|zc 1)<|vw (sB<|zG i0 (km<|ze 1)<|zq<|.int 3)<|j6<|sB<|AX<|jj<|zM (zK<|ze 1) (.nm 0) 1 [] jd (o5 .list<|zc 0)) (j5<|zq<|.bl eh) qc)
def TV:=(wy (.tp [5,6,7])<|zc 1)
noncomputable def F0:=(yN (zK<|zE<|zc 5) (.nm 8)<|zL (iN (vw (j6<|sB<|o5 .tuple<|zc 8)<|vw (sB<|zG i0 (km<|ze 8)<|zq<|.int 2)<|vw (j6<|sB<|zA jt<|zb (eg (ze 8)<|zq<|.int 0) zB)<|j6<|sB<|zA jt<|zb (eg (ze 8)<|zq<|.int 1) zB) (j5<|zq<|.bl eh) qc)<|iN (j6<|sB<|Kv lx lx rh (zq<|.int 0) (eg (ze 8)<|zq<|.int 0) (eg (ze 8)<|zq<|.int 1)<|km<|ze 3) (j5<|zq<|.bl eh) qc)
noncomputable def L8:=(iN (vw (sB<|zG i0 (zc 5)<|j3<|YN<|ze 5)<|vw (sB<|zG i0 (km<|ze 6)<|km<|ze 3)<|sB<|zG i0 (km<|ze 7)<|km<|ze 3) (j5<|zq<|.bl eh) qc)
noncomputable def F1:=(yN (eY (zc 3) (zc 6)<|zc 7) (.tp [9,10,11])<|zL (iN (vw (j6<|sB<|zA jv<|zb (zc 2)<|zb (zc 10)<|zb (zc 9)<|zb (zc 9) zB)<|j6<|sB<|zA jv<|zb (zc 2)<|zb (zc 11)<|zb (zc 9)<|zb (zc 9) zB) (j5<|zq<|.bl eh) qc)<|iN (sB<|zG i0 (zA jR<|zb (zc 2)<|zb (zc 10)<|zb (zc 11) zB)<|zA kB<|zb (zc 9) zB) (j5<|zq<|.bl eh) qc)
noncomputable def L9:=(j5 (zG hG (zA xQ (zb (zc 0) (zb (zc 6) (zb (zc 7) zB)))) (zA yJ (zb (zc 2) (zb (fi (zq (.str "")) (jj (zM (zK (ze 4)) (.nm 0) 1 [] jd (eg (ze 0) (zq (.int 0)))))) (zb (zc 5) zB))))))
def xP:=jk 12<|zL S9<|zL TU<|zL TV<|zL F0<|zL L8<|zL F1 L9
noncomputable def qp:List D->Option Xn:=fz 1 (Dk (sB (zG pk (JO (ze 0)) (zq (.int 30)))) (sC "TooMany") Dl)
noncomputable def jN:List D->Option Xn:=fz 3<|Fx Dl (jy 2<|zP<|jj<|zM (Xo (eg (ze 0)<|zq<|.int 1)<|eg (ze 1)<|zq<|.int 1) (.tp [0,1]) 2 [] jd (zG qo (zc 0)<|zc 1))<|ZS qp<|zb (zc 2) zB
def Yf:List D->Option Xn:=fz 5<|ZS jN<|zb (zc 0)<|zb (zc 1) zB
noncomputable def vI:=jk 2<|zL (cn<|zA j8<|zb (zc 0)<|zb (zc 1) zB)<|j5<|zA Jy<|zb (zc 0)<|zb (zc 1)<|zb (j3<|zM (Xo (eg (ze 0)<|zq<|.int 2)<|eg (ze 1)<|zq<|.int 2) (.tp [0,1]) 2 [] jd (zA xC<|zb (eg (ze 0)<|zq<|.int 1)<|zb (eg (ze 1)<|zq<|.int 1) zB)) zB
noncomputable def Jx:List D->Option Xn:=fz 2<|Fx (ZS xW<|zb (zc 0)<|zb (zc 1) zB) (cn<|zA j8<|zb (zc 0)<|zb (zc 1) zB)<|ZS Yf<|zb (zc 0)<|zb (zc 1)<|zb (j3<|zM (Xo (eg (ze 0)<|zq<|.int 2)<|eg (ze 1)<|zq<|.int 2) (.tp [0,1]) 2 [] jd (zA xC<|zb (eg (ze 0)<|zq<|.int 1)<|zb (eg (ze 1)<|zq<|.int 1) zB)) zB
noncomputable def qm:=jk 1<|j5<|qA<|zb (eg (ze 0)<|zq<|.int 0)<|zb (zG QV (zG qo (eg (ze 0)<|zq<|.int 0)<|km<|zE<|eg (ze 0)<|zq<|.int 1)<|zq<|.int 1) zB
noncomputable def qj:=jk 2<|j5<|kH lx rh (eg (ze 0)<|zq<|.int 0) (zc 1)<|zG qo (eg (ze 0)<|zq<|.int 0)<|km<|zE<|eg (ze 0)<|zq<|.int 1
noncomputable def xm:=jk 2<|wz<|zM (zK<|ze 0) (.nm 0) 1 [1] (sB<|zA qj<|zb (zc 0)<|zb (zc 1) zB) (eg (zE<|eg (ze 0)<|zq<|.int 1)<|zG QV (zc 1)<|eg (ze 0)<|zq<|.int 0)
def kO:=jk 2<|j5<|zA qM<|zb (qA<|zb (km<|ze 1)<|zb (zc 0)<|zb (zP<|ze 1) zB) zB
noncomputable def kZ:=jk 5<|zL (jy 4<|j3<|zM (Xo (zc 2)<|zc 1) (.tp [0,1]) 2 [3] (sB<|zA qj<|zb (zc 1)<|zb (zc 2) zB) (zc 0))<|j5<|zA dC<|zb (eg (ze 0)<|zq<|.int 0)<|zb (zA kO<|zb (eg (zE<|eg (ze 0)<|zq<|.int 1)<|zc 3)<|zb (j3<|jw xm<|zb (zc 1)<|zb (zc 3) zB) zB)<|zb (zc 4) zB
noncomputable def Yh:=jk 5<|zL (jy 3<|eg (ze 1)<|zA qW<|zb (zc 2) zB)<|zL (jy 4<|j3<|zM (z6<|km<|zE<|eg (ze 3)<|zq<|.int 1) (.nm 0) 1 [0,1,2,3] jd (zA kZ<|zb (zc 1)<|zb (zc 2)<|zb (zc 3)<|zb (zG qo (eg (ze 4)<|zq<|.int 0)<|zc 0) zB))<|j5<|qA<|zb (eg (ze 3)<|zq<|.int 0)<|zb (zP<|ze 4) zB
def TZ:=(jy 3<|eg (zE<|eg (zE<|eg (ze 0)<|zq<|.int 2)<|zc 1)<|zq<|.int 0)
def T3:=(jy 4<|eg (zE<|eg (zE<|eg (ze 0)<|zq<|.int 2)<|zc 1)<|zq<|.int 1)
noncomputable def M1:=(jy 5 (fj (sB (zG hG (zc 3) (zq (.str "r")))) (j3 (jw vH (zb (eg (ze 0) (zq (.int 0))) (zb (zc 4) zB)))) (j3 (jw ZI (zb (eg (ze 0) (zq (.int 0))) (zb (zc 4) zB))))))
noncomputable def T4:=(jy 6<|j3<|jw xO<|zb (eg (ze 0)<|zq<|.int 0)<|zb (zA kO<|zb (eg (zE<|eg (ze 0)<|zq<|.int 1)<|zc 1)<|zb (j3<|jw xm<|zb (zc 2)<|zb (zc 1) zB) zB)<|zb (zc 5) zB)
noncomputable def T5:=(jy 7<|rJ<|zM (zK<|ze 6) (.nm 0) 1 [] jd (qA<|zb (zA qW<|zb (zc 0) zB)<|zb (zc 0) zB))
noncomputable def T6:=(wz<|zM (aw<|zc 2) (.tp [0,1]) 2 [0,2,7] jd (fj (sB<|BL (zc 0)<|zc 4) (zA Yh<|zb (zc 2)<|zb (zc 3)<|zb (FH (zc 4)<|zc 0) zB)<|zc 1))
def Zk:=jk 8<|zL TZ<|zL T3<|zL M1<|zL T4<|zL T5 T6
noncomputable def DX:=(iN (sB (zG hG (eg (ze 1) (zq (.int 0))) (zq (.str "l")))) (j5 (zA vG (zb (zc 0) (zb (eg (ze 1) (zq (.int 1))) (zb (zc 2) zB))))) qc)
def L4:=(jy 3<|zA dC<|zb (zc 0)<|zb (eg (ze 1)<|zq<|.int 1)<|zb (zc 2) zB)
def L5:=(j5<|fj (sB<|AW<|ze 3) (zc 3)<|zq .ft)
def xN:=jk 4<|zL DX<|zL L4 L5
noncomputable def Ug:=(jy 3<|zA xN<|zb (zc 0)<|zb (zc 1)<|zb (eg (zE<|eg (ze 2)<|zq<|.int 1)<|BI<|zq<|.int 1) zB)
noncomputable def M7:=(j5<|fj (sB<|zG ES (zc 3)<|zq .ft) (zc 2)<|qA<|zb (eg (ze 2)<|zq<|.int 0)<|zb (zG qo (eg (ze 2)<|zq<|.int 1)<|qA<|zb (zc 3) zB) zB)
def yp:=jk 4<|zL Ug M7
noncomputable def E9:=(iN (sB (zG hG (eg (ze 1) (zq (.int 0))) (zq (.str "l")))) (wz (jw vH (zb (zc 0) (zb (eg (ze 1) (zq (.int 1))) zB)))) qc)
noncomputable def S5:=(jy 2<|j3<|zM (zK<|jj<|jw ZI<|zb (zc 0)<|zb (eg (ze 1)<|zq<|.int 1) zB) (.nm 0) 1 [] jd (zA qW<|zb (zc 0) zB))
noncomputable def S6:=(wz<|zM (ck<|eg (zE<|zA qx<|zb (eg (zE<|eg (ze 1)<|zq<|.int 1)<|zq<|.int 0) zB)<|zq<|.int 2) (.tp [0,1]) 2 [2] (sB<|Ku (zc 0)<|ze 2) (zc 1))
def yI:=jk 3<|zL E9<|zL S5 S6
def R0:=(jy 3<|eg (ze 0)<|zq<|.int 0)
def R1:=(jy 4<|eg (zE<|eg (ze 0)<|zq<|.int 2)<|zc 1)
noncomputable def R3:=(jy 5<|j3<|zM (zK<|ze 2) (.nm 0) 1 [1] (j6<|sB<|zA qj<|zb (zc 0)<|zb (zc 1) zB) (zc 0))
noncomputable def R4:=(jy 6<|j3<|jw Zk<|zb (zc 0)<|zb (zc 1)<|zb (j3<|zM (zK<|ze 2) (.nm 0) 1 [1] (sB<|zA qj<|zb (zc 0)<|zb (zc 1) zB) (zc 0)) zB)
noncomputable def R5:=(jy 7<|j3<|zM (zK<|ze 6) (.nm 0) 1 [3,4] jd (zA yp<|zb (zc 1)<|zb (zc 2)<|zb (zc 0) zB))
noncomputable def R6:=(jy 8<|j3<|zM (zK<|jj<|jw yI<|zb (zc 3)<|zb (zc 4) zB) (.nm 0) 1 [1] jd (qA<|zb (zG qo (zc 1)<|zq<|.int 1)<|zb (qA<|zb (zc 0) zB) zB))
noncomputable def I8:=(j5 (j3 (JP (ze 5) (zE (fj (sB (zG hG (eg (ze 4) (zq (.int 0))) (zq (.str "r")))) (j3 (JP (ze 8) (ze 7))) (j3 (JP (ze 7) (ze 8))))))))
def Xk:=jk 9<|zL R0<|zL R1<|zL R3<|zL R4<|zL R5<|zL R6 I8
noncomputable def Ig:=(jy 1<|j3<|zM (zK<|zE<|eg (zE<|zA qx<|zb (eg (zE<|eg (ze 0)<|zq<|.int 1)<|zq<|.int 0) zB)<|zq<|.int 2) (.nm 0) 1 [] jd (qA<|zb (zq<|.int 0)<|zb (qA<|zb (zc 0) zB) zB))
noncomputable def O9:=(yN (z6<|km<|zE<|eg (ze 0)<|zq<|.int 2) (.nm 2)<|jy 1<|zA Xk<|zb (zc 0)<|zb (zc 2)<|zb (zc 1) zB)
def Pt:=(wz<|eZ qm<|ze 1)
def yM:=jk 3<|zL Ig<|zL O9 Pt
def Pz:=(jy 1<|j3<|jw yM<|zb (zc 0) zB)
noncomputable def P0:=(jy 2<|j3<|zM (ck<|eg (ze 0)<|zq<|.int 1) (.tp [0,1]) 2 [1] jd (zA kO<|zb (zc 1)<|zb (j3<|jw xm<|zb (zc 2)<|zb (zc 0) zB) zB))
noncomputable def P1:=(jy 3<|j3<|zM (zK<|ze 2) (.nm 0) 1 [0] jd (zA kP<|zb (eg (ze 1)<|zq<|.int 0)<|zb (zc 0) zB))
noncomputable def P2:=(j5<|qA<|zb (j3<|zM (zK<|ze 1) (.nm 0) 1 [] jd (zA qm<|zb (zc 0) zB))<|zb (zc 3)<|zb (zc 2) zB)
def qI:=jk 4<|zL Pz<|zL P0<|zL P1 P2
noncomputable def Ft:=jk 7<|zL (jy 3<|j3<|jw Fs<|zb (zc 0)<|zb (zc 1)<|zb (zc 2) zB)<|zL (jy 4<|eg (zE<|eg (ze 0)<|zq<|.int 1)<|zc 1)<|zL (jy 5<|eg (zE<|eg (ze 0)<|zq<|.int 1)<|zc 2)<|zL (jy 6<|j3<|jw qY<|zb (eg (ze 0)<|zq<|.int 0)<|zb (zG qo (zc 5)<|zc 4)<|zb (j3<|zM (zK<|ze 3) (.nm 0) 1 [4] jd (zG qo (au (zc 0) (pe<|zc 1) VS)<|au (zc 0) VS<|pe<|zc 1)) zB)<|j5<|zG QV (zG QV (km<|ze 3)<|km<|jj<|jw qk<|zb (zc 5)<|zb (zc 6) zB)<|km<|jj<|jw qk<|zb (zc 4)<|zb (zc 3) zB
noncomputable def kM:=jk 3<|j5<|JO<|jj<|zM (zK<|ze 1) (.nm 0) 1 [0,2] jd (zA kF<|zb (zc 1)<|zb (zc 0)<|zb (zc 2) zB)
noncomputable def xn:=jk 3<|zL (cn<|zA j8<|zb (zc 0)<|zb (zc 1) zB)<|zL (jy 2<|eg (zE<|zA qI<|zb (zc 0) zB)<|zq<|.int 0)<|j5<|JO<|jj<|zM (zK<|zE<|eg (zE<|zA qI<|zb (zc 1) zB)<|zq<|.int 0) (.nm 0) 1 [0,2] jd (zA kM<|zb (zA kL<|zb (zc 1) zB)<|zb (zc 2)<|zb (zc 0) zB)
noncomputable def lG:CO (List D):=zM (z6<|km<|ze 1) (.nm 0) 1 [1,3] (sB<|kH lx lx (eg (zE<|eg (ze 1)<|zc 0)<|zq<|.int 0) (zc 2)<|eg (zE<|eg (ze 1)<|zc 0)<|zq<|.int 1) (zc 0)
noncomputable def AE:CO D:=j3<|zM (zK<|zE<|eg (ze 1)<|zc 2) (.nm 0) 1 [0] jd (kh<|zG hG (zc 1)<|zc 0)
def AF:CO (List D):=zM (zK<|zE<|eg (ze 2)<|zc 7) (.nm 0) 1 [2,6] jd AE
def pL:=zL (wy (.tp [6,7])<|zA qi<|zb (zc 0)<|zb (zc 5) zB)<|qe 4<|j3 AF
noncomputable def AG:=mC 4<|j5<|qA<|zb (j3<|zM (zK<|ze 2) (.nm 0) 1 [] jd (km<|ze 0))<|zb (zc 4) zB
noncomputable def qE:=jk 8<|zL (xq 2<|qG zB)<|zL (yN (z6<|zG qo (yX<|zc 0)<|zq<|.int 1) (.nm 3)<|qe 2<|j3 lG)<|zL (mC 2<|xq 4<|qG zB)<|zL (yN (z6<|yX<|zc 0) (.nm 5) pL) AG
noncomputable def sV:CO (List D):=zM (z6<|km<|ze 3) (.nm 0) 1 [0,2,3] jd (zG yG (eg (ze 3)<|zc 0)<|eg (zE<|eg (ze 2)<|zc 0)<|zc 1)
noncomputable def bR:CO (List D):=zM (z6<|zc 3) (.nm 0) 1 [0,2,5] jd (zG yh (JO<|jj sV)<|zc 1)
noncomputable def jQ:=jk 6<|zL (xq 4<|qG zB)<|zL (yN (zK<|zE<|zc 1) (.nm 5)<|qe 4<|j3 bR)<|Xs 4
noncomputable def M8:=(xq 4<|zM (z6<|zc 3) (.nm 0) 1 [3] jd (j3<|zM (z6<|zc 1) (.nm 0) 1 [0] jd (kh<|zG hG (zc 1)<|zc 0)))
noncomputable def M9:=(ny 5<|ay (z6<|zc 3) (.nm 0) 1 [3] (zM (z6<|zc 1) (.nm 0) 1 [0] jd (kh<|zG hG (zc 1)<|zc 0)))
noncomputable def GJ:=zL (av 4 (zc 8)<|j3<|zM (Xo (eg (ze 4)<|zc 8)<|eg (ze 4)<|zc 9) (.tp [0,1]) 2 [2,10] jd (zG yh (zG qo (zc 0)<|zG yG (zc 3)<|zc 1)<|zc 2))<|fm 5 11 (zc 9)<|zG yh (zG QV (eg (ze 11)<|zc 9)<|zG yG (zc 10)<|eg (ze 11)<|zc 8)<|zc 2
noncomputable def IF:=zL (jy 7<|zA jO<|zb (zc 0)<|zb (zG qo (zc 1)<|zc 6) zB)<|zL (jy 8<|zG yh (zc 7)<|zc 3)<|zL (jy 9<|zG yh (zG qo (zG qo (zc 8)<|zq<|.int 1)<|zG yh (zG K6 (zc 7)<|zq<|.int 8)<|zG QV (zc 3)<|zq<|.int 1)<|zc 3)<|zL (jy 10<|zG yh (zG K6 (zc 7)<|zq<|.int 64)<|zc 2) GJ
def mZ:=yN (z6<|zG QV (zG yG (zq<|.int 2)<|zc 3)<|zq<|.int 2) (.nm 6) IF
def Bx:=nz 5<|mC 4<|j5<|qA<|zb (zc 4)<|zb (zc 5) zB
def qz:=jk 12<|zL M8<|zL M9<|zL mZ Bx
noncomputable def nA:=qe 7<|zA qz<|zb (zc 0)<|zb (zG qo (zc 1)<|zG yG (zq<|.int 9)<|zc 8)<|zb (zc 2)<|zb (eg (ze 5)<|zc 8) zB
noncomputable def BO:=jy 12<|j3<|jw jQ<|zb (zc 2)<|zb (eg (ze 6)<|zc 8)<|zb (eg (zE<|eg (ze 7)<|zc 10)<|zq<|.int 1)<|zb (eg (ze 5)<|zc 10) zB
noncomputable def BN:=qe 9<|j3<|jw jQ<|zb (zc 2)<|zb (eg (zE<|eg (ze 7)<|zc 11)<|zq<|.int 0)<|zb (zc 12)<|zb (eg (ze 5)<|zc 10) zB
def nC:=zL (wy (.tp [10,11])<|zA qi<|zb (zc 3)<|zb (zc 8) zB)<|zL BO BN
noncomputable def kf:=jk 13<|zL (wy (.tp [5,6])<|zA qE<|zb (zc 3)<|zb (zc 4) zB)<|zL (xq 7<|qG zB)<|zL (yN (z6<|km<|ze 5) (.nm 8) nA)<|zL (xq 9<|qG zB)<|zL (yN (z6<|yX<|zc 3) (.nm 8) nC)<|mC 9<|j5<|qA<|zb (zc 5)<|zb (zc 9) zB
noncomputable def AI:CO D:=fw (GP (eg (zE<|zA qi<|zb (zc 0)<|zb (zc 5) zB)<|zq<|.int 0)<|jj<|qG<|zb (zc 3)<|zb (zc 4) zB)<|kH lx lx (zc 3) (eg (zE<|zA qi<|zb (zc 0)<|zb (zc 5) zB)<|zq<|.int 0)<|zc 4
noncomputable def vZ:=iN (vw (sB<|zc 6)<|sB<|zc 7) (zL (jy 8 AI)<|iN (vw (fv (sB<|zc 6)<|j6<|sB<|zc 8)<|fv (sB<|zc 7)<|sB<|zc 8) (j5<|zq<|.int 0) qc) qc
noncomputable def pR:CO (List D):=zK<|zE<|j3<|qG<|zb (qA<|zb (zG QV (zc 3)<|zq<|.int 1)<|zb (zG rh (eg (ze 1)<|zq<|.int 0)<|zc 3)<|zb (zG rh (eg (ze 2)<|zq<|.int 0)<|zc 3) zB)<|zb (qA<|zb (zc 4)<|zb (zG pk (eg (ze 1)<|zq<|.int 1)<|zc 4)<|zb (zG pk (eg (ze 2)<|zq<|.int 1)<|zc 4) zB) zB
noncomputable def jE:=jk 9<|zL (jy 3<|cg (eg (ze 1)<|zq<|.int 0)<|eg (ze 2)<|zq<|.int 0)<|zL (jy 4<|V1 (eg (ze 1)<|zq<|.int 1)<|eg (ze 2)<|zq<|.int 1)<|zL (iN (sB<|zG pk (zc 3)<|zc 4) (j5<|zq<|.int 0) qc)<|zL (yN pR (.tp [5,6,7]) vZ)<|j5<|zq<|.int 1
noncomputable def kN:=jk 3<|j5<|JO<|jj<|zM (zK<|ze 1) (.nm 0) 1 [0,2] jd (JO<|jj<|zM (zK<|ze 2) (.nm 0) 1 [0,1] jd (zA jE<|zb (zc 2)<|zb (zc 1)<|zb (zc 0) zB))
noncomputable def dP:=zL (jy 14<|zA xn<|zb (zc 10)<|zb (zc 12) zB)<|iN (vw (j6<|sB<|zA jt<|zb (zc 14) zB)<|sB<|zG i0 (zc 14)<|zA kN<|zb (zc 4)<|zb (zc 11)<|zb (zc 13) zB) (j5<|zq<|.bl eh) qc
def dO:=yN (zK<|zE<|j3<|FC (ze 9) VS<|pe<|zq<|.int 2) (.tp [12,13]) dP
def sQ:=jy 1<|zA jO<|zb (zc 0)<|zb (zq<|.int 0) zB
noncomputable def sP:=jy 2<|eg (jj<|qG<|zb (zq<|.int 2)<|zb (zq<|.int 3)<|zb (zq<|.int 5)<|zb (zq<|.int 7) zB)<|zG yh (zc 1)<|zq<|.int 4
def sO:=jy 3<|zG qo (zq<|.int 1)<|zG yh (zG K6 (zc 1)<|zq<|.int 4)<|zq<|.int 5
def sN:=jy 4<|zA xY<|zb (zG K6 (zc 1)<|zq<|.int 20)<|zb (zc 3) zB
noncomputable def sM:=jy 5<|j3<|jw qK<|zb (zc 0)<|zb (zq<|.int 1)<|zb (zG yh (zG K6 (zc 1)<|zq<|.int 1000)<|zq<|.int 5)<|zb (zc 3) zB
noncomputable def sL:=jy 6<|j3<|jw qK<|zb (zc 0)<|zb (zq<|.int 8)<|zb (zG yh (zG K6 (zc 1)<|zq<|.int 7000)<|zq<|.int 5)<|zb (zc 3) zB
noncomputable def mO:=jy 7<|zA xD<|zb (zc 2)<|zb (zc 4)<|zb (zA kf<|zb (zc 0)<|zb (zq<|.int 16)<|zb (zc 2)<|zb (zc 4)<|zb (zc 5) zB) zB
noncomputable def mN:=jy 8<|zA xD<|zb (zc 2)<|zb (zc 4)<|zb (zA kf<|zb (zc 0)<|zb (zq<|.int 70)<|zb (zc 2)<|zb (zc 4)<|zb (zc 6) zB) zB
noncomputable def sJ:=xq 9<|qG<|zb (qA<|zb (zc 7)<|zb (zc 5) zB)<|zb (qA<|zb (zc 8)<|zb (zc 6) zB) zB
noncomputable def Ys:=iN (sB<|zG lx (zG qo (JO<|zE<|eg (ze 7)<|zq<|.int 1)<|JO<|zE<|eg (ze 8)<|zq<|.int 1)<|zq<|.int 30) (qe 9<|qA<|zb (zA vI<|zb (zc 7)<|zb (zc 8) zB)<|zb (j3<|JP (ze 5)<|ze 6) zB) qc
def dQ:=mC 9<|yN (zK<|zE<|zc 9) (.tp [10,11]) dO
def rC:=j5<|zq<|.bl d7
noncomputable def Xj:=jk 15<|zL sQ<|zL sP<|zL sO<|zL sN<|zL sM<|zL sL<|zL mO<|zL mN<|zL sJ<|zL Ys<|zL dQ rC
abbrev ri(k:Sk)(xs:List D):D:=match k with | .T=>D.tup xs | .L=>D.lst xs
@[simp] theorem La(k xs):jq (ri k xs)=dn (k,xs):=by cases k<;>rfl
theorem Ke(k:Sk)(f:Nat->Int)(z:0<p)(C:n<=lim) :
 kj [.int p,ri k (zD n f)]=dn (.val<|.tup<|zD n λi=>f i%p):=by
 simp[kj,jk,z7,ja,C,kK];unfold zD;rw[zv (r:=λi=>D.int<|f i%p)]
 ·simp
 ·intro i a
  refine zx rfl rfl ?_;simp[z]
theorem mw(f:Nat->Int)(z:0<p)(C:n<=lim) :
 kj [.int p,.tup (zD n f)]=dn (.val<|.tup<|zD n λi=>f i%p):=Ke .T f z C
theorem Xi(f:Nat->Int)(z:0<p)(C:n<=lim) :
 kj [.int p,.lst (zD n f)]=dn (.val<|.tup<|zD n λi=>f i%p):=Ke .L f z C
theorem bK(k:Sk)(f:UV)(g:Nat->Int)(I:0<p)(z:h<=lim)(C:w<=lim)(O : ∀i j,i<h->j<w->0<=f i j/\f i j<100) :
 dC [.int p,jf h w f,ri k (zD w g)]=dn (.val<|.tup<|zD h λi=>zg (λj=>f i j*g j) w%p):=by
 simp[dC,jk,z7,ja,z,kK,jf,MH];unfold zZ;rw[zv (r:=λi=>D.int<|zg (λj=>f i j*g j) w)]
 ·simp
  rw[show(List.map (λi=>D.int<|zg (λj=>f i j*g j) w)<|MB h)=zD h λi=>zg (λj=>f i j*g j) w from rfl,Xi _ I z];rfl
 ·intro i a
  refine zx rfl rfl ?_;simp[ja,wa,C];rw[zv (r:=λj=>D.int<|f i j*g j)]
  ·simp
   rw[show(List.map (λj=>D.int<|f i j*g j)<|MB w)=zD w λj=>f i j*g j from rfl,x6]
  ·intro j U
   refine zx rfl rfl ?_;have:=O i j (MD.mp a)<|MD.mp U;simp[w6 (f i j) (g j) ⋯ ⋯]
theorem Zl(f:UV)(z:h<=lim)(C:w<=lim):qM [jf h w f]=dn (.val<|jf w h λi j=>f j i):=by
 simp[qM,jk,z7,ja,z,C,kK,jf,MH,jg,jX];rw[z5 w λi=>(i:Int)];rw[zv (r:=λj=>D.tup<|zD h λi=>f i j)]
 ·simp
  rfl
 ·intro j I
  refine zx rfl rfl ?_;simp[ja,z,kK];unfold zZ;rw[zv (r:=λi=>D.int<|f i j)]
  ·simp
   rfl
  ·intro i b
   refine zx rfl rfl ?_;have a:=MD.mp I;simp[a,vD _ a]
theorem vn(C:n<=lim):qx [.int n]=dn (.val<|jf n n λi j=>if i=j then 1 else 0):=by
 simp[qx,jk,z7,jg,C,ja,kK,MH,jX];rw[z5 n λi=>(i:Int)];rw[zv (r:=λi=>D.tup<|zD n λj=>if i=j then 1 else 0)]
 ·simp
  rfl
 ·intro i a
  refine zx rfl rfl ?_;simp[C,ja,MH,jX,kK];rw[z5 n λi=>(i:Int)];rw[zv (r:=λj=>D.int<|if i=j then 1 else 0)]
  ·simp
   rfl
  ·intro j z
   refine zx rfl rfl ?_;simp;by_cases e:i=j
   ·simp[e]
   ·rw[UY ⋯,UY e]
theorem y6(d:D)(w:Nat):MH w d=(MB w).map λ_=>d:=by
 induction w with
 | zero=>rfl
 | succ n z=>rw[List.replicate_succ',z,OJ,NR];simp
theorem W0(z:h<=lim)(C:w<=lim):xX [.int h,.int w]=dn (.val<|jf h w λ_ _=>0):=by simp[xX,jk,z7,jg,yG,z,C];rw[y6,y6];rfl
def XB(C:List Int):D:= .lst (C.map D.int)
mutual
theorem E3 : ∀d:D,ji d d=d7
 | .ft=>rfl
 | .bl b=>by simp[ji]
 | .int i=>by simp[ji]
 | .str x=>by simp[ji]
 | .tup e=>by simp only[ji];exact DQ e
 | .lst e=>by simp only[ji];exact DQ e
 | .l9 a b=>by simp only[ji];rw[DQ a,DQ b];rfl
 | .lU a b=>by simp only[ji];rw[DQ b];simp
theorem DQ : ∀ds:List D,p9 ds ds=d7
 | []=>rfl
 | d::ds=>by simp only[p9,E3 d,DQ ds,Bool.and_self]
end
theorem xU : ∀{l:List D} {n:Nat},(∀d∈l,deep d<=n)->ni l<=n
 | [],n,_=>NY n
 | d::ds,n,h=>by simp only[ni];exact Nat.max_le.mpr ⟨h d MX,xU λe z=>h e<|MT _ z⟩
theorem bq(n f):deep (.tup<|zD n f)<=1:=by
 simp only[deep];have:ni (zD n f)<=0:=xU λd a=>by simp[zD]at a;obtain⟨i,_,rfl⟩:=a;exact MM _
 omega
theorem bu(h w f):deep (.tup<|zZ h w f)<=2:=by
 simp only[deep];have:ni (zZ h w f)<=1:=xU λd a=>by simp[zZ]at a;obtain⟨i,_,rfl⟩:=a;exact bq _ _
 omega
theorem br(h w f):deep (jf h w f)<=3:=by
 unfold jf;simp only[deep];have:ni [D.int h,D.int w,D.tup (zZ h w f)]<=2:=xU λd a=>by
  simp at a;rcases a with rfl | rfl | rfl
  ·exact NY _
  ·exact NY _
  ·exact bu _ _ _
 omega
theorem yA : ∀{l:List D},(∀d∈l,ix d=d7)->o4 l=d7
 | [],_=>rfl
 | d::ds,h=>by simp only[o4,h d MX,yA λe z=>h e<|MT _ z,Bool.and_self]
theorem XT(h:deep d<=n)(I:n<=20)(C:ix d=d7):lp d=d7:=by unfold lp;rw[C,Sv];exact decide_eq_true<|Of h I
theorem gE(n f):ix (.tup<|zD n f)=d7:=by
 simp only[ix];exact yA λd a=>by simp[zD]at a;obtain⟨i,_,rfl⟩:=a;rfl
theorem gF(h w f):ix (.tup<|zZ h w f)=d7:=by
 simp only[ix];exact yA λd a=>by simp[zZ]at a;obtain⟨i,_,rfl⟩:=a;exact gE _ _
theorem uM(h w f):ix (jf h w f)=d7:=by unfold jf;simp only[ix,o4];have:=gF h w f;simp only[ix]at this;rw[this];rfl
theorem Wi(h w f):lp (jf h w f)=d7:=XT (br h w f) ⋯<|uM h w f
theorem bw{d:D}(h:lp d=d7):i0 d d=dn (.bl eh):=by unfold i0;rw[UJ ⟨h,h⟩,E3];rfl
theorem Xg(i:Int):jt [.int i]=dn (.val<|.bl d7):=by simp[jt,jk,z7,rX]
theorem dZ{C:Type}(l:List C):JE (l.map λ_=>D.bl d7)=dn (l.map λ_=>d7):=by
 induction l with
 | nil=>rfl
 | cons a l z=>simp[JE,Fz,z]
theorem XW(k:Int)(z:0<k) : ∃n:Nat,m%k=n/\(n:Int)<k:=by have a:=NG m (show k≠0 by omega);have d:=Nr m z;obtain⟨n,b⟩:=Pk a;exact⟨n,b,by omega⟩
def gB(b:Bool):Nat:=if b then 108 else 114
def xu(c:Nat):Str:=⟨#[c]⟩
theorem X0 : ∀(l:List Nat),(TJ "" (l.map xu)).cps.toList=l
 | []=>rfl
 | [c]=>rfl
 | c::d::l=>by
  have z:=X0 (d::l);show((xu c++("" : Str))++TJ "" ((d::l).map xu)).cps.toList=_;have e : ∀a b:Str,(a++b).cps.toList=a.cps.toList++b.cps.toList:=λa b=>by show(a.cps++b.cps).toList=_;simp
  rw[e,e,z];rfl
def jW(m:Nat)(w:UK):Str:=TJ "" ((MB m).map λk=>xu (gB (w k)))
theorem kC(m w):(jW m w).cps.toList=(MB m).map λk=>gB (w k):=by have:=X0<|(MB m).map λk=>gB<|w k;rw[Nm]at this;exact this
theorem wc(m w):(jW m w).length=m:=by show(jW m w).cps.size=m;rw[<- Oo,kC];simp
theorem k8{m:Nat}(w)(C:m<=1000):qb (jW m w)=d7:=decide_eq_true (by rw[wc];exact C)
theorem Jd{C:Type}(g:C->Str) : ∀l:List C,Kp (l.map λx=>D.str<|g x)=dn (l.map g)
 | []=>rfl
 | a::l=>by simp[Kp,Jd g l]
def fy(w:UK)(wd:UX)(k:Nat):Nat:=if w k then wd k else wd (k+1)
def fA(w:UK)(wd:UX)(k:Nat):Nat:=if w k then wd (k+1)else wd k
noncomputable def qH(w:UK)(wd:UX)(T:UW)(k:Nat):D:= .tup [.str (xu<|gB<|w k),jf (fy w wd k) (fA w wd k) (T k)]
def jD(m:Nat)(w:UK)(wd:UX)(T:UW):List D:=(MB m).map (qH w wd T)
noncomputable def z9(p:Int)(m:Nat)(w:UK)(wd:UX)(T:UW):D:= .tup [.int p,.tup<|zD (m+1) λk=>(wd k:Int),.tup (jD m w wd T)]
@[simp] theorem Zf(m w wd T):(jD m w wd T).length=m:=by simp[jD]
theorem wq{m k:Nat}(w)(C:m<=1000)(z:k<m)(γ:Ctx)(f g:CO D)(I:f γ=dn (.str<|jW m w))(O:g γ=dn (.int k)):ya f g γ=dn (.str<|xu<|gB<|w k):=by rw[Zh,I,O];simp only[MG,jU];rw[UJ (k8 w C),kC];simp[z,xu]
theorem bo(b:Bool):hG (.str (xu (gB b))) (.str "l")=dn (.bl b):=by
 have e : ∀b:Bool,(xu (gB b)==(NK "l"))=b:=by decide +kernel
 have z : ∀b:Bool,lp (.str<|xu<|gB b)=d7:=by decide +kernel
 have I:lp (.str (NK "l"))=d7:=by decide +kernel
 unfold hG;rw[UJ ⟨z b,I⟩];show dn (D.bl (xu (gB b)==NK "l"))=_;rw[e]
theorem gy(b:Bool):lp (.str<|xu<|gB b)=d7:=by cases b<;>decide +kernel
theorem KY(b:Bool):hG (.str (xu (gB b))) (.str "r")=dn (.bl (!b)):=by
 have e : ∀b:Bool,(xu (gB b)==(NK "r")) = !b:=by decide +kernel
 have z:lp (.str (NK "r"))=d7:=by decide +kernel
 unfold hG;rw[UJ ⟨gy b,z⟩];show dn (D.bl (xu (gB b)==NK "r"))=_;rw[e]
theorem pU{w w':UK}{wd wd':UX}{T T':UW}{k:Nat}(C:w k=w' k)(J:wd k=wd' k)(z:wd (k+1)=wd' (k+1))(I : ∀i j,i<fy w wd k->j<fA w wd k->T k i j=T' k i j):qH w wd T k=qH w' wd' T' k:=by
 have a:fy w wd k=fy w' wd' k:=by unfold fy;rw[C,J,z]
 have O:fA w wd k=fA w' wd' k:=by unfold fA;rw[C,J,z]
 unfold qH;rw[C,<- a,<- O,K3 I]
theorem nE{p:Int}{m:Nat}{w w':UK}{wd wd':UX}{T T':UW}(J : ∀k,k<m->w k=w' k)(C : ∀k,k<m+1->wd k=wd' k)(I : ∀k i j,k<m->i<fy w wd k->j<fA w wd k->T k i j=T' k i j):z9 p m w wd T=z9 p m w' wd' T':=by unfold z9 jD;rw[qZ (f:=λk=>((wd k:Nat):Int)) (g:=λk=>((wd' k:Nat):Int)) λk z=>by rw[C k z]];rw[MQ λk z=>pU (J k<|MD.mp z) (C k (by have:=MD.mp z;omega)) (C (k+1) (by have:=MD.mp z;omega)) λi j a O=>I k i j (MD.mp z) a O]
theorem uN(w wd T k):ix (qH w wd T k)=d7:=by have a:=Wi (fy w wd k) (fA w wd k)<|T k;have b:=gy<|w k;simp only[lp,MW]at a b;show(ix _ && (ix _ && d7))=d7;rw[a.2,b.2];rfl
theorem pz(w wd T k):deep (qH w wd T k)<=4:=by have:=br (fy w wd k) (fA w wd k)<|T k;simp[qH,deep,ni];omega
theorem uO(p m w wd T):lp (z9 p m w wd T)=d7:=by
 have e:ni (jD m w wd T)<=4:=xU λd a=>by obtain⟨k,_,rfl⟩:=Nb.mp a;exact pz w wd T k
 have b:o4 (jD m w wd T)=d7:=yA λd a=>by obtain⟨k,_,rfl⟩:=Nb.mp a;exact uN w wd T k
 have I:=bq (m+1) λk=>(wd k:Int);have z:=gE (m+1) λk=>(wd k:Int);refine XT (n:=10) ?_ ⋯ ?_
 ·simp only[z9,deep,ni]at I ⊢
  omega
 ·simp only[z9,ix,o4]at z ⊢
  simp[b,z]
theorem zw : ∀{n:Nat},(∀k,k<n->f k=g k)->zg f n=zg g n
 | 0,_=>rfl
 | n+1,h=>by simp only[zg];rw[zw (n:=n) λk z=>h k ⋯,h n ⋯]
theorem zR(n:Nat):zg (λ_=>0) n=0:=by
 induction n with
 | zero=>rfl
 | succ n z=>simp[zg,z]
theorem zV(hi:i<n)(h : ∀k,k<n->k≠i->f k=0):zg f n=f i:=by
 induction n with
 | zero=>omega
 | succ n z=>
  simp only[zg];by_cases e:i=n
  ·subst e
   rw[zw (g:=λ_=>0) (λk I=>h k ⋯ ⋯),zR];omega
  ·rw[z ⋯ λk I=>h k ⋯,h n ⋯ ⋯]
   omega
theorem jH(f g:Nat->Int)(n:Nat):zg (λk=>f k+g k) n=zg f n+zg g n:=by
 induction n with
 | zero=>rfl
 | succ n z=>simp only[zg,z];omega
theorem xf(f:Nat->Int)(c:Int)(n:Nat):zg (λk=>f k*c) n=zg f n*c:=by
 induction n with
 | zero=>simp[zg]
 | succ n z=>simp only[zg,z,D8]
theorem jK(f:Nat->Int)(c:Int)(n:Nat):zg (λk=>c*f k) n=c*zg f n:=by
 induction n with
 | zero=>simp[zg]
 | succ n z=>simp only[zg,z,Rf]
theorem q9(f:UV)(n m:Nat):zg (λi=>zg (λj=>f i j) m) n=zg (λj=>zg (λi=>f i j) n) m:=by
 induction n with
 | zero=>simp[zg,zR]
 | succ n z=>simp only[zg];rw[z,<- jH]
theorem zQ : ∀{n:Nat},(∀k,k<n->f k%p=g k%p)->zg f n%p=zg g n%p
 | 0,_=>rfl
 | n+1,h=>by simp only[zg];rw[NO,zQ (n:=n)<|λk z=>h k ⋯,h n ⋯,<- NO]
theorem gJ(p x y:Int):(x%p*y)%p=(x*y)%p:=by rw[MO,Nl,<- MO]
theorem wM(p x y:Int):(x*(y%p))%p=(x*y)%p:=by rw[MO,Nl,<- MO]
theorem wm(p:Int)(a b c:UV)(m w i j:Nat) :
 zg (λk=>a i k*(zg (λl=>b k l*c l j) w%p)) m%p=zg (λl=>(zg (λk=>a i k*b k l) m%p)*c l j) w%p:=by
 rw[zQ (g:=λk=>zg (λl=>a i k*(b k l*c l j)) w) (λk _=>by rw[wM,jK]),
  zQ (f:=λl=>(zg (λk=>a i k*b k l) m%p)*c l j) (g:=λl=>zg (λk=>a i k*(b k l*c l j)) m) (λl _=>by rw[gJ,<- xf];exact congrArg (· % p)<|zw λk _=>Ov _ _ _),q9]
abbrev Vc:=Nat->Int
def Pr(p:Int):Prop:=p=2\/p=3\/p=5\/p=7
theorem Pr.pos(h:Pr p):0<p:=by unfold Pr at h;omega
theorem Pr.two(h:Pr p):2<=p:=by unfold Pr at h;omega
theorem Pr.le(h:Pr p):p<=7:=by unfold Pr at h;omega
theorem Pr.one(h:Pr p):(1:Int)%p=1:=NU ⋯ (by have:=h.two;omega)
inductive Span(p:Int)(n:Nat)(G:Vc->Prop):Vc->Prop where
 | zero {v:Vc}:(∀i,i<n->v i%p=0)->Span p n G v
 | step {v w g:Vc} {c:Int}:G g->Span p n G w->(∀i,i<n->v i%p=(w i+c*g i)%p)->Span p n G v
section
variable{p:Int}{n:Nat}{G G':Vc->Prop}
theorem Span.congr(h:Span p n G v)(e : ∀i,i<n->v' i%p=v i%p):Span p n G v':=by
 cases h with
 | zero h=>exact .zero λi a=>by rw[e i a,h i a]
 | step z b h=>exact .step z b λi a=>by rw[e i a,h i a]
theorem Span.gen(h:G g):Span p n G g:= .step (c:=1) h (.zero (v:=λ_=>0) λi _=>by simp) λi _=>by simp
theorem Span.add(I:Span p n G v)(C:Span p n G w) : ∀c:Int,Span p n G λi=>w i+c*v i:=by
 induction I with
 | zero h=>
  intro c;refine C.congr λi a=>?_;rw[NO,MO,h i a];simp
 | @step v b g z O Y h U=>
  intro c;refine .step (c:=c*z) O (U c) λi a=>?_;have e:(c*v i)%p=(c*(b i+z*g i))%p:=by rw[MO,h i a,<- MO]
  rw[NO,e,<- NO];congr 1;rw[Rf,<- Ov,Int.add_assoc]
theorem Span.smul(z:Span p n G v)(c:Int):Span p n G λi=>c*v i:=
 (z.add (w:=λ_=>0) (.zero λi _=>by simp) c).congr λi _=>by simp
theorem Span.le(h:Span p n G v)(z : ∀g,G g->Span p n G' g):Span p n G' v:=by
 induction h with
 | zero h=>exact .zero h
 | step I a h O=>exact((z _ I).add O _).congr h
end
structure h7(p:Int)(n r:Nat)(B:Nat->Vc)(l:UX):Prop where
 lt : ∀k,k<r->l k<n
 mono : ∀k m,k<m->m<r->l k<l m
 one : ∀k,k<r->B k (l k)=1
 l6 : ∀k j,k<r->j<l k->B k j=0
 pb : ∀k m,k<r->m<r->m≠k->B k (l m)=0
 ly : ∀k i,k<r->i<n->0<=B k i/\B k i<p
def eF(r:Nat)(B:Nat->Vc):Vc->Prop:=λv=>∃k,k<r/\v=B k
section
variable{p:Int}{n r r':Nat}{B B':Nat->Vc}{l l':UX}
theorem ZX(I:h7 p n r B l)(h:Span p n (eF r B) v) : ∀i,i<n->v i%p=zg (λk=>v (l k)*B k i) r%p:=by
 induction h with
 | @zero v h=>
  intro i a;rw[h i a];have:zg (λk=>v (l k)*B k i) r%p=zg (λ_=>0) r%p:=zQ λk z=>by rw[MO,h _ (I.lt k z)];simp
  rw[this,zR];rfl
 | @step v w g c O f h U=>
  intro i a;obtain⟨m,b,rfl⟩:=O;rw[h i a];have e:zg (λk=>v (l k)*B k i) r%p=zg (λk=>w (l k)*B k i+c*B m (l k)*B k i) r%p:=zQ λk z=>by rw[MO,h _<|I.lt k z,<- MO,D8]
  have Y:zg (λk=>c*B m (l k)*B k i) r=c*B m i:=by rw[zV (i:=m) b λk z d=>by rw[I.pb m k b z d];simp,I.one m b];simp
  rw[e,jH,Y,NO,U i a,<- NO]
theorem Wu(z:h7 p n r B l)(h:Span p n (eF r B) v)(O:j<n)(U:v j%p≠0)(Y : ∀i,i<j->v i%p=0) : ∃k,k<r/\l k=j:=by
 apply Oj;intro a;apply U;rw[ZX z h j O];have:zg (λk=>v (l k)*B k j) r%p=zg (λ_=>0) r%p:=zQ λk I=>by
  have b:l k≠j:=λe=>a ⟨k,I,e⟩;rcases Nc (l k) j with q | q
  ·rw[MO,Y _ q];simp
  ·rw[z.l6 k j I ⋯];simp
 rw[this,zR];rfl
theorem aT(O : ∀k m,k<m->m<r->l k<l m)(U : ∀k m,k<m->m<r'->l' k<l' m)(C : ∀k,k<r->∃m,m<r'/\l' m=l k)(J : ∀k,k<r'->∃m,m<r/\l m=l' k) :
 ∀k,k<r->k<r'/\l k=l' k:=by
 intro k
 induction k using Nat.strongRecOn with
 | ind k Y=>
  intro a;obtain⟨m,b,em⟩:=C k a;have e:k<=m:=by
   rcases Nc m k with q | q
   ·have:=(Y m q ⋯).2
    have:=O m k q a;omega
   ·exact q
  have I:k<r':=by omega
  refine⟨I,?_⟩;obtain⟨q,d,eq⟩:=J k I;have f:k<=q:=by
   rcases Nc q k with z | z
   ·have:=(Y q z ⋯).2
    have:=U q k z I;omega
   ·exact z
  rcases Nc k m with z | z
  ·have g:=U k m z b
   have h:l k<=l q:=by
    rcases Nc k q with y | y
    ·exact SM<|O k q y d
    ·have:k=q:=by omega
     subst this;exact MM _
   omega
  ·have:m=k:=by omega
   subst this;exact em.symm
theorem Xa(L:Pr p)(I:h7 p n r B l)(O:h7 p n r' B' l')(C : ∀v,Span p n (eF r B) v->Span p n (eF r' B') v)(J : ∀v,Span p n (eF r' B') v->Span p n (eF r B) v) :
 r=r'/\(∀k,k<r->l k=l' k)/\∀k i,k<r->i<n->B k i=B' k i:=by
 have one:=L.one;have e : ∀k,k<r->∃m,m<r'/\l' m=l k:=λk z=>Wu O (C _<|.gen ⟨k,z,rfl⟩) (I.lt k z) (by rw[I.one k z,one];decide) λi a=>by rw[I.l6 k i z a];simp
 have f : ∀k,k<r'->∃m,m<r/\l m=l' k:=λk z=>Wu I (J _<|.gen ⟨k,z,rfl⟩) (O.lt k z) (by rw[O.one k z,one];decide) λi a=>by rw[O.l6 k i z a];simp
 have b:=aT I.mono O.mono e f;have h:=aT O.mono I.mono f e;have j:r=r':=by
  rcases Rz r r' with q | q | q
  ·exact absurd (h r q).1 (NW _)
  ·exact q
  ·exact absurd (b r' q).1 (NW _)
 subst j;refine⟨rfl,λk z=>(b k z).2,λk i z a=>?_⟩;have c:=ZX O (C _<|.gen ⟨k,z,rfl⟩) i a;rw[zV (i:=k) z λm d g=>by rw[<- (b m d).2,I.pb k m z d g];simp,<- (b k z).2,I.one k z,Int.one_mul]at c;have U:=I.ly k i z a;have Y:=O.ly k i z a;rw[NU U.1 U.2,NU Y.1 Y.2]at c;exact c
end
theorem jB(q:α->Bool)(r:α->D) : ∀(l:List α),(∀x∈l,∃γ1,ka T (g x) γ=dn γ1/\k γ1=dn (q x)/\(q x=d7->f γ1=dn (r x)))->
 zT T k f γ (l.map g)=dn ((l.filter q).map r)
 | [],_=>rfl
 | x::l,h=>by
  obtain⟨γ1,a,b,I⟩:=h x MX;have z:=jB q r l λy O=>h y<|MT _ O;simp only[Nk,zT,a,b,MG];cases e:q x with
  | true=>simp[I e,z,e]
  | false=>simp[z,e]
theorem EE(z:Pr p)(I:0<x)(C:x<p) : ∃y:Nat,1<=y/\(y:Int)<p/\(y:Int)*x%p=1:=by
 rcases z with rfl | rfl | rfl | rfl
 ·obtain rfl:x=1:=by omega
  exact⟨1,by decide,by decide,by decide⟩
 ·rcases (show x=1\/x=2 by omega)with rfl | rfl
  ·exact⟨1,by decide,by decide,by decide⟩
  ·exact⟨2,by decide,by decide,by decide⟩
 ·rcases (show x=1\/x=2\/x=3\/x=4 by omega)with rfl | rfl | rfl | rfl
  ·exact⟨1,by decide,by decide,by decide⟩
  ·exact⟨3,by decide,by decide,by decide⟩
  ·exact⟨2,by decide,by decide,by decide⟩
  ·exact⟨4,by decide,by decide,by decide⟩
 ·rcases (show x=1\/x=2\/x=3\/x=4\/x=5\/x=6 by omega)with rfl | rfl | rfl | rfl | rfl | rfl
  ·exact⟨1,by decide,by decide,by decide⟩
  ·exact⟨4,by decide,by decide,by decide⟩
  ·exact⟨5,by decide,by decide,by decide⟩
  ·exact⟨2,by decide,by decide,by decide⟩
  ·exact⟨3,by decide,by decide,by decide⟩
  ·exact⟨6,by decide,by decide,by decide⟩
theorem Vv{q:UK}{n a:Nat}{yd:List Nat}(h:(MB n).filter q=a::yd):a<n/\q a=d7/\∀i,i<a->q i=eh:=by
 have b:a∈(MB n).filter q:=by rw[h];exact MX
 refine⟨MD.mp (Np.mp b).1,(Np.mp b).2,λi d=>?_⟩;apply Oj;intro z;have I:q i=d7:=by simpa using z
 have O:i∈a::yd:=by rw[<- h];exact Np.mpr ⟨MD.mpr (by have:=MD.mp (Np.mp b).1;omega),I⟩
 have U:(a::yd).Pairwise (· < ·):=by rw[<- h];exact Si _ Rt
 rcases MS.mp O with e | e
 ·omega
 ·have:=(List.pairwise_cons.mp U).1 i e;omega
theorem gH(h:(MB n).filter q=[]) : ∀i,i<n->q i=eh:=λi a=>by apply Oj;intro z;have:i∈(MB n).filter q:=Np.mpr ⟨MD.mpr a,by simpa using z⟩;rw[h]at this;simp at this
theorem VR(z:Pr p)(I:0<x)(C:x<p) : ∃y,Zm [.int p,.int x]=dn (.val<|.int y)/\1<=y/\y<p/\x*y%p=1:=by
 rcases z with rfl | rfl | rfl | rfl
 ·have:x=1:=by omega
  subst this;exact⟨1,rfl,by decide,by decide,by decide⟩
 ·have:x=1\/x=2:=by omega
  rcases this with rfl | rfl
  ·exact⟨1,rfl,by decide,by decide,by decide⟩
  ·exact⟨2,rfl,by decide,by decide,by decide⟩
 ·have:x=1\/x=2\/x=3\/x=4:=by omega
  rcases this with rfl | rfl | rfl | rfl
  ·exact⟨1,rfl,by decide,by decide,by decide⟩
  ·exact⟨3,rfl,by decide,by decide,by decide⟩
  ·exact⟨2,rfl,by decide,by decide,by decide⟩
  ·exact⟨4,rfl,by decide,by decide,by decide⟩
 ·have:x=1\/x=2\/x=3\/x=4\/x=5\/x=6:=by omega
  rcases this with rfl | rfl | rfl | rfl | rfl | rfl
  ·exact⟨1,rfl,by decide,by decide,by decide⟩
  ·exact⟨4,rfl,by decide,by decide,by decide⟩
  ·exact⟨5,rfl,by decide,by decide,by decide⟩
  ·exact⟨2,rfl,by decide,by decide,by decide⟩
  ·exact⟨3,rfl,by decide,by decide,by decide⟩
  ·exact⟨6,rfl,by decide,by decide,by decide⟩
theorem ZQ(I:Pr p)(J:n<=lim)(z:t<n)(w P:Nat->Int)(C : ∀i,i<n->0<=w i/\w i<p) :
 qX [.int p,.tup<|zD n w,.tup<|zD n P,.int t]=dn (.val<|.tup<|zD n λi=>(w i - w t*P i)%p):=by
 have Y:=C t z;have b:=I.le;have U : ∀x,Kb (w t) x=d7:=λx=>w6 _ _ ⋯ ⋯;by_cases O:w t=0
 ·simp[qX,jk,z7,jg,z,O]
  apply qZ;intro i a;rw[NU (C i a).1 (C i a).2]
 ·simp[qX,jk,z7,jg,z,O,wa,J,ja,kK,MH]
  rw[zv (r:=λi=>D.int<|w i - w t*P i)]
  ·rw[<- z5]
   simp[Xi _ I.pos J]
  ·intro i a
   refine zx rfl rfl ?_;simp[U]
theorem Wl{l:UX}{r t:Nat}(C : ∀k m,k<m->m<r->l k<l m)(z : ∀k,k<r->l k<t):r<=t:=by
 have a : ∀k,k<r->k<=l k:=by
  intro k
  induction k with
  | zero=>intro _;exact NY _
  | succ k I=>
   intro O;have b:=I ⋯;have d:=C k (k+1) ⋯ O;omega
 cases r with
 | zero=>exact NY _
 | succ r=>
  have b:=a r ⋯;have d:=z r ⋯;omega
noncomputable def Jq:=(zL (jy 6<|j3<|zM (zK<|ze 3) (.nm 0) 1 [5] (sB<|zG i0 (eg (ze 0)<|zc 1)<|zq<|.int 0) (zc 0))<|zL (iN (j6<|tY<|ze 6) ua qc)<|zL (jy 7<|zA Zm<|zb (zc 0)<|zb (eg (zE<|eg (ze 6)<|zq<|.int 0)<|zc 5) zB)<|zL (jy 8<|zA kj<|zb (zc 0)<|zb (j3<|zM (zK<|zE<|eg (ze 6)<|zq<|.int 0) (.nm 0) 1 [7] jd (zG yG (zc 1)<|zc 0)) zB)<|zL (jy 3<|j3<|zM (zK<|ze 3) (.nm 0) 1 [0,5,8] jd (zA qX<|zb (zc 1)<|zb (zc 0)<|zb (zc 3)<|zb (zc 2) zB))<|xq 4<|JP (jj<|zM (zK<|ze 4) (.nm 0) 1 [0,5,8] jd (zA qX<|zb (zc 1)<|zb (zc 0)<|zb (zc 3)<|zb (zc 2) zB))<|jj<|qG<|zb (zc 8) zB)
def Un(r:Nat)(B:Nat->Vc)(m:Nat)(W:Nat->Vc):Vc->Prop:=λv=>eF r B v\/eF m W v
structure A1(p:Int)(n m:Nat)(W:Nat->Vc)(t r:Nat)(B:Nat->Vc)(l:UX)(Wt:Nat->Vc):Prop where
 ly : ∀j i,j<m->i<n->0<=Wt j i/\Wt j i<p
 Dm : ∀j i,j<m->i<t->Wt j i=0
 B6:h7 p n r B l
 lt : ∀k,k<r->l k<t
 span : ∀v,Span p n (Un r B m Wt) v↔Span p n (eF m W) v
section
variable{p:Int}{n m:Nat}{W:Nat->Vc}{t r:Nat}{B:Nat->Vc}{l:UX}{Wt:Nat->Vc}
theorem A1.skip(h:A1 p n m W t r B l Wt)(I : ∀j,j<m->Wt j t=0):A1 p n m W (t+1) r B l Wt:=
 ⟨h.ly,λj i z a=>by
  rcases Nc i t with q | q
  ·exact h.Dm j i z q
  ·have:i=t:=by omega
   subst this;exact I j z,h.B6,λk O=>NT<|h.lt k O,h.span⟩
def kr(p:Int)(P:Vc)(t:Nat)(w:Vc):Vc:=λi=>(w i - w t*P i)%p
noncomputable def cQ(p:Int)(P:Vc)(t r:Nat)(B:Nat->Vc):Nat->Vc:=λk=>if k<r then kr p P t (B k)else P
def rV(t r:Nat)(l:UX):Nat->Nat:=λk=>if k<r then l k else t
theorem Jp(z:Span p n G P)(C:Span p n G w):Span p n G (kr p P t w):=
 (z.add C (-(w t))).congr λi _=>by unfold kr;rw[Nl];congr 1;rw[Int.neg_mul];omega
theorem W8(z:Span p n G P)(C:Span p n G (kr p P t w)):Span p n G w:=
 (z.add C<|w t).congr λi _=>by unfold kr;rw[NO,Nl,<- NO];congr 1;omega
theorem A1.next(C:Pr p)(h:A1 p n m W t r B l Wt)(L:t<n)(J:j0<m)(Z:Wt j0 t*y%p=1)(Y : ∀i,i<n->P i=y*Wt j0 i%p) :
 A1 p n m W (t+1) (r+1) (cQ p P t r B) (rV t r l) (λj=>kr p P t<|Wt j):=by
 have K:=C.pos;have one:=C.one;have A:P t=1:=by rw[Y t L,NX];exact Z
 have f : ∀i,i<t->P i=0:=λi a=>by rw[Y i ⋯,h.Dm j0 i J a];simp
 have M : ∀i,i<n->0<=P i/\P i<p:=λi a=>by rw[Y i a];exact⟨NG _ ⋯,Nr _ K⟩
 have F : ∀(w:Vc) i,0<=kr p P t w i/\kr p P t w i<p:=λw i=>⟨NG _ ⋯,Nr _ K⟩;have b : ∀(w:Vc) i,i<t->0<=w i->w i<p->kr p P t w i=w i:=λw i a Q R=>by unfold kr;rw[f i a,Pj,Int.sub_zero];exact NU Q R
 have H : ∀w:Vc,kr p P t w t=0:=λw=>by unfold kr;rw[A,RV,Int.sub_self];simp
 refine⟨λj i O a=>F _ _,λj i O a=>?_,⟨λk I=>?_,λk q as S=>?_,λk I=>?_,λk j I O=>?_,λk q I S N=>?_,λk i I a=>?_⟩,λk I=>?_,λv=>?_⟩
 ·rcases Nc i t with q | q
  ·have e:=h.Dm j i O q
   rw[b _ i q ⋯ ⋯];exact e
  ·have:i=t:=by omega
   subst this;exact H _
 ·unfold rV;split
  ·rename_i q;exact h.B6.lt k q
  ·exact L
 ·unfold rV
  have I:k<r:=by omega
  rw[UJ I];split
  ·rename_i z;exact h.B6.mono k q as z
  ·exact h.lt k I
 ·unfold rV cQ;split
  ·rename_i q
   have e:=h.B6.one k q;have d:=h.lt k q;rw[b _ _ d ⋯ (by have:=C.two;omega)];exact e
  ·exact A
 ·unfold cQ;unfold rV at O;split at O
  ·rename_i q
   have e:=h.B6.l6 k j q O;have d:=h.lt k q;rw[UJ q,b _ _ ⋯ ⋯ ⋯];exact e
  ·rename_i q
   rw[UY q];exact f j O
 ·unfold cQ rV
  by_cases x:k<r
  ·rw[UJ x]
   by_cases U:q<r
   ·rw[UJ U]
    have e:=h.B6.pb k q x U N;have d:=h.lt q U;rw[b _ _ d ⋯ ⋯];exact e
   ·rw[UY U];exact H _
  ·rw[UY x]
   have U:q<r:=by omega
   rw[UJ U];exact f _<|h.lt q U
 ·unfold cQ;split
  ·exact F _ _
  ·exact M i a
 ·unfold rV;split
  ·rename_i q;exact NT<|h.lt k q
  ·exact OM _
 ·rw[<- h.span v]
  have o:Span p n (Un r B m Wt) P:=((Span.gen (p:=p) (n:=n) (G:=Un r B m Wt) (g:=Wt j0)<|.inr ⟨j0,J,rfl⟩).smul y).congr λi a=>by rw[Y i a,Nl]
  have E:Span p n (Un (r+1) (cQ p P t r B) m λj=>kr p P t<|Wt j) P:= .gen (.inl ⟨r,OM r,by unfold cQ;rw[UY (NW r)]⟩);constructor
  ·refine λu=>u.le λg s=>?_
   rcases s with⟨k,I,rfl⟩ | ⟨j,O,rfl⟩
   ·unfold cQ;split
    ·rename_i q;exact Jp o<|.gen<|.inl ⟨k,q,rfl⟩
    ·exact o
   ·exact Jp o<|.gen<|.inr ⟨j,O,rfl⟩
  ·refine λu=>u.le λg s=>?_
   rcases s with⟨k,I,rfl⟩ | ⟨j,O,rfl⟩
   ·refine W8 (t:=t) E (.gen<|.inl ⟨k,NT I,?_⟩)
    unfold cQ;rw[UJ I]
   ·exact W8 (t:=t) E<|.gen<|.inr ⟨j,O,rfl⟩
theorem A1.done(h:A1 p n m W n r B l Wt)(v:Vc):Span p n (eF r B) v↔Span p n (eF m W) v:=by
 rw[<- h.span v];constructor
 ·exact λI=>I.le λg z=> .gen (.inl z)
 ·refine λI=>I.le λg z=>?_
  rcases z with z | ⟨j,O,rfl⟩
  ·exact .gen z
  ·exact .zero λi a=>by rw[h.Dm j i O a];simp
theorem iL(I:True)(P:Vc):zZ (r+1) n (cQ p P t r B)=zZ r n (λk=>kr p P t<|B k)++[.tup (zD n P)]:=by
 unfold zZ;rw[OJ,NR];congr 1
 ·apply MQ
  intro k z;have:=MD.mp z;simp[cQ,this]
 ·simp[cQ]
end
theorem kg{p:Int}(C:Pr p){n m:Nat}(hn:n<=100)(L:m<=lim)(J:Sk)(W:Nat->Vc) :
 ∃r B l,qY [.int p,.int n,ri J (zZ m n W)]=dn (.own<|zZ r n B)/\h7 p n r B l/\∀v,Span p n (eF r B) v↔Span p n (eF m W) v:=by
 have hl:=js;have a:n<=lim:=by omega
 have H:=C.pos;have E:=QP (T:= .nm 5) (F:=Jq)
  (λt Q=>∃r B l Wt o s f h,Q=[.val (.int p),.val<|.int n,.val<|ri J<|zZ m n W,.val<|.lst<|zZ m n Wt,.own<|zZ r n B,o,s,f,h]/\A1 p n m W t r B l Wt)
  ((MB n).map λ(i:Nat)=>D.int i) 0 [.val (.int p),.val<|.int n,.val<|ri J<|zZ m n W,.val<|.lst<|zZ m n λj i=>W j i%p,.own [],.no,.no,.no,.no]
  ⟨0,λ_ _=>0,λ_=>0,λj i=>W j i%p,.no,.no,.no,.no,rfl,λj i _ _=>⟨NG _ ⋯,Nr _ H⟩,λj i _ b=>absurd b<|Nx _,
   ⟨λk I=>absurd I<|Nx _,λk q _ I=>absurd I<|Nx _,λk I=>absurd I<|Nx _,λk j I=>absurd I<|Nx _,λk q I=>absurd I<|Nx _,λk i I=>absurd I<|Nx _⟩,
   λk I=>absurd I<|Nx _,λv=>⟨λA=>A.le λg w=>by
    rcases w with⟨k,I,_⟩ | ⟨j,U,rfl⟩
    ·exact absurd I<|Nx _
    ·exact(Span.gen (p:=p) (n:=n) (G:=eF m W) (g:=W j) ⟨j,U,rfl⟩).congr λi _=>Nl _ _,λA=>A.le λg w=>by
    obtain⟨j,U,rfl⟩:=w;exact(Span.gen (p:=p) (n:=n) (G:=Un 0 (λ_ _=>0) m λj i=>W j i%p) (g:=λi=>W j i%p)<|.inr ⟨j,U,rfl⟩).congr λi _=>(Nl _ _).symm⟩⟩ (by
   rintro t d Q u ⟨r,B,l,Wt,o,s,f,h,rfl,O⟩;rw[NA]at O ⊢;have Y:t<n:=by have:=(MU.mp u).1;simpa using this
   have R:d = .int t:=by simp[Y]at u;exact u.symm
   subst R;have e:zT (.nm 0) (sB<|zG i0 (eg (ze 0)<|zc 1)<|zq<|.int 0) (zc 0) [Cell.no,Cell.val (.int t)] (zZ m n Wt)=dn (((MB m).filter λj=> !decide (Wt j t=0)).map λj=>D.tup<|zD n<|Wt j):=by unfold zZ;refine jB _ _ _ λj U=>⟨_,rfl,?_,λ_=>rfl⟩;simp[Y]
   have hr:r<=t:=Wl O.B6.mono O.lt;have S:r<=lim:=by omega
   cases hf:(MB m).filter λj=> !decide (Wt j t=0)with
   | nil=>
    have hz : ∀j,j<m->Wt j t=0:=λj U=>by apply Oj;intro K;have:j∈(MB m).filter λj=> !decide (Wt j t=0):=Np.mpr ⟨MD.mpr U,by simp[K]⟩;rw[hf]at this;simp at this
    rw[hf]at e;refine⟨_,.inr ?_,r,B,l,Wt,.val<|.int t,.val<|.lst [],f,h,rfl,O.skip hz⟩;simp only[Jr,MG,OC,OB,Jq];rw[jg];simp[jg,ja,kK,MH,e,L]
   | cons z yd=>
    have M:z∈(MB m).filter λj=> !decide (Wt j t=0):=by rw[hf];exact MX
    have N:z<m:=MD.mp (Np.mp M).1;have K:Wt z t≠0:=by simpa using (Np.mp M).2
    have X:=O.ly z t N Y;obtain⟨y,ey,y1,y2,yy⟩:=VR C (x:=Wt z t) ⋯ X.2;rw[hf]at e;have nx:=O.next C Y N yy (P:=λi=>y*Wt z i%p) λi _=>rfl;refine⟨_,.inl ?_,r+1,cQ p (λi=>y*Wt z i%p) t r B,rV t r l,λj=>kr p (λi=>y*Wt z i%p) t<|Wt j,.val<|.int t,.val<|.lst<|(z::yd).map λj=>D.tup<|zD n<|Wt j,.val<|.int y,.val<|.tup<|zD n λi=>y*Wt z i%p,rfl,nx⟩;have be:=C.le;have cy : ∀x,Kb y x=d7:=λx=>w6 _ _ ⋯ ⋯;have as:zT (.nm 0) jd (zG yG (zc 1)<|zc 0) [Cell.no,Cell.val (.int y)] (zD n<|Wt z)=dn (zD n λi=>y*Wt z i):=by rw[z5,z5];refine zv _ _ λi b=>zx rfl rfl ?_;simp[cy]
    have Z:zT (.nm 0) jd (zA qX<|zb (zc 1)<|zb (zc 0)<|zb (zc 3)<|zb (zc 2) zB) [Cell.no,Cell.val<|.int p,Cell.val<|.int t,Cell.val (.tup<|zD n λi=>y*Wt z i%p)] (zZ m n Wt)=dn (zZ m n λj=>kr p (λi=>y*Wt z i%p) t<|Wt j):=by unfold zZ;refine zv _ _ λj U=>zx rfl rfl ?_;simp[ZQ C a Y (Wt j) (λi=>y*Wt z i%p) λi b=>O.ly j i (MD.mp U) b];rfl
    have b0:zT (.nm 0) jd (zA qX<|zb (zc 1)<|zb (zc 0)<|zb (zc 3)<|zb (zc 2) zB) [Cell.no,Cell.val<|.int p,Cell.val<|.int t,Cell.val (.tup<|zD n λi=>y*Wt z i%p)] (zZ r n B)=dn (zZ r n λj=>kr p (λi=>y*Wt z i%p) t<|B j):=by unfold zZ;refine zv _ _ λj U=>zx rfl rfl ?_;simp[ZQ C a Y (B j) (λi=>y*Wt z i%p) λi b=>O.B6.ly j i (MD.mp U) b];rfl
    have b5:r+1<=lim:=by omega
    rw[iL trivial];simp only[Jr,MG,OC,OB,Jq];rw[jg];simp[jg,ja,kK,MH,e,L,a,Y,ey,as,Xi _ H a,Z,b0,S,b5])
 obtain⟨γ',e1,r,B,l,Wt,o,s,f,h,rfl,O⟩:=E;simp only[Nf,NI,NA]at O;refine⟨r,B,l,?_,O.B6,O.done⟩;have b6:zT (.nm 0) jd (zA kj<|zb (zc 1)<|zb (zc 0) zB) [Cell.no,Cell.val (.int p)] (zZ m n W)=dn (zZ m n λj i=>W j i%p):=by unfold zZ;refine zv _ _ λj U=>zx rfl rfl ?_;simp[mw _ H a]
 have e0:qY [.int p,.int n,ri J (zZ m n W)]=jk 9 (zL (jy 3<|j3<|zM (zK<|ze 2) (.nm 0) 1 [0] jd (zA kj<|zb (zc 1)<|zb (zc 0) zB))<|zL (xq 4<|qG zB)<|zL (yN (z6<|zc 1) (.nm 5) Jq)<|Xs 4) [.int p,.int n,ri J (zZ m n W)]:=rfl;rw[e0];simp[jk,z7,jg,L,ja,kK,MH,b6,a,jX];rw[z5 n λi=>(i:Int),e1];simp
@[simp] def Fe:=@GN.eq_1
noncomputable def QI{C:Type}(q:Nat)(x:C)(f:Nat->C):Nat->C:=λk=>if k<q then f k else if k=q then x else f (k - 1)
def ZY(l:UX)(r x:Nat):Nat:=((MB r).filter λk=>decide<|l k<x).length
theorem K7 : ∀{r:Nat},(∀k m,k<m->m<r->l k<l m)->(∀k,k<r->l k≠x)->ZY l r x<=r/\(∀k,k<ZY l r x->l k<x)/\∀k,ZY l r x<=k->k<r->x<l k
 | 0,_,_=>⟨MM _,λk I=>absurd I (by simp[ZY]),λk _ I=>absurd I<|Nx _⟩
 | r+1,hm,UH=>by
  obtain⟨g,d,O⟩:=K7 (r:=r) (x:=x) (λk m a b=>hm k m a ⋯) λk I=>UH k ⋯;have e:ZY l (r+1) x=ZY l r x+if l r<x then 1 else 0:=by unfold ZY;rw[OJ,RZ,NZ];by_cases q:l r<x<;>simp[q]
  by_cases q:l r<x
  ·rw[e,UJ q]
   have U:ZY l r x=r:=by
    rcases Nc (ZY l r x) r with z | z
    ·have Y:=O (ZY l r x) (MM _) z
     have f:=hm (ZY l r x) r z<|OM r;omega
    ·omega
   rw[U];refine⟨MM _,λk I=>?_,λk a b=>absurd b ⋯⟩;rcases Nc k r with z | z
   ·exact d k ⋯
   ·have:k=r:=by omega
    subst this;exact q
  ·rw[e,UY q,Nat.add_zero]
   refine⟨by omega,d,λk a b=>?_⟩;rcases Nc k r with z | z
   ·exact O k a z
   ·have:k=r:=by omega
    subst this;have:=UH k b;omega
section
variable{p:Int}{n r:Nat}{B:Nat->Vc}{l:UX}{w:Vc}
structure DJ(p:Int)(n r:Nat)(B:Nat->Vc)(l:UX)(w:Vc)(k:Nat)(R:Vc):Prop where
 ly : ∀i,i<n->0<=R i/\R i<p
 Dm : ∀q,q<k->R (l q)=0
 eqv : ∀G,(∀k,k<r->Span p n G (B k))->(Span p n G w↔Span p n G R)
theorem DJ.next(C:Pr p)(Y:h7 p n r B l)(h:DJ p n r B l w k R)(I:k<r):DJ p n r B l w (k+1) (kr p (B k) (l k) R):=by
 have a:=C.pos;refine⟨λi _=>⟨NG _ ⋯,Nr _ a⟩,λq b=>?_,λG O=>?_⟩
 ·unfold kr
  rcases Nc q k with z | z
  ·rw[h.Dm q z,Y.pb k q I ⋯ ⋯];simp
  ·have:q=k:=by omega
   subst this;rw[Y.one q I];simp
 ·rw[h.eqv G O]
  exact⟨λU=>Jp (O k I) U,λU=>W8 (O k I) U⟩
theorem Vo(O:q<=r)(U:k<r+1):(k=q/\QI q x f k=x)\/∃I,I<r/\QI q x f k=f I/\((k<q/\I=k)\/(q<k/\I+1=k)):=by
 unfold QI;rcases Rz k q with z | z | z
 ·right;exact⟨k,by omega,by rw[UJ z],.inl ⟨z,rfl⟩⟩
 ·left;subst z;exact⟨rfl,by rw[UY (NW _),UJ rfl]⟩
 ·right;exact⟨k - 1,by omega,by rw[UY ⋯,UY ⋯],.inr ⟨z,by omega⟩⟩
theorem UI:QI q x f q=x:=by unfold QI;rw[UY (NW _),UJ rfl]
theorem Ac : ∃I,(I<q/\I=k\/q<I/\I=k+1)/\QI q x f I=f k:=by
 rcases Nc k q with z | z
 ·exact⟨k,.inl ⟨z,rfl⟩,by unfold QI;rw[UJ z]⟩
 ·exact⟨k+1,.inr ⟨by omega,rfl⟩,by unfold QI;rw[UY ⋯,UY ⋯];rfl⟩
theorem Ad(S:Pr p)(C:h7 p n r B l)(ha:a<n)(J:R a=1)(Z : ∀i,i<a->R i=0)(L : ∀k,k<r->R (l k)=0)(hR : ∀i,i<n->0<=R i/\R i<p) :
 h7 p n (r+1) (QI (ZY l r a) R λk=>kr p R a<|B k) (QI (ZY l r a) a l):=by
 have T:=S.pos;have G : ∀k,k<r->l k≠a:=λk O e=>by have:=L k O;rw[e,J]at this;omega
 obtain⟨Q,W,X⟩:=K7 C.mono G;have M : ∀(w:Vc) i,0<=kr p R a w i/\kr p R a w i<p:=λw i=>⟨NG _ ⋯,Nr _ T⟩;have H : ∀w:Vc,kr p R a w a=0:=λw=>by unfold kr;rw[J,RV,Int.sub_self];simp
 have A : ∀(w:Vc) k,k<r->0<=w (l k)->w (l k)<p->kr p R a w (l k)=w (l k):=λw k O J N=>by unfold kr;rw[L k O,Pj,Int.sub_zero];exact NU J N
 have K : ∀k j,k<r->j<l k->kr p R a (B k) j=0:=λk j O s=>by
  unfold kr;rw[C.l6 k j O s];rcases Nc a (l k)with z | z
  ·rw[C.l6 k a O z];simp
  ·rw[Z j ⋯];simp
 have two:=S.two;have Y : ∀k,k<r+1->(k=ZY l r a/\QI (ZY l r a) R (λk=>kr p R a<|B k) k=R/\QI (ZY l r a) a l k=a)\/
  ∃I,I<r/\QI (ZY l r a) R (λk=>kr p R a<|B k) k=kr p R a (B I)/\QI (ZY l r a) a l k=l I/\((k<ZY l r a/\I=k)\/(ZY l r a<k/\I+1=k)):=by
  intro k O;rcases Vo (x:=R) (f:=λk=>kr p R a<|B k) Q O with⟨b,t⟩ | ⟨I,U,b,t⟩
  ·left;refine⟨b,t,?_⟩;subst b;exact UI
  ·right
   refine⟨I,U,b,?_,t⟩;rcases t with⟨E,F⟩ | ⟨E,F⟩
   ·unfold QI;rw[UJ E,F]
   ·unfold QI;rw[UY ⋯,UY ⋯];congr 1;omega
 refine⟨λk O=>?_,λk m b6 u=>?_,λk O=>?_,λk j O s=>?_,λk m O u b7=>?_,λk i O P=>?_⟩
 ·rcases Y k O with⟨_,_,e⟩ | ⟨I,U,_,e,_⟩
  ·rw[e];exact ha
  ·rw[e];exact C.lt I U
 ·rcases Y k ⋯with⟨z,_,e⟩ | ⟨I,U,_,e,z⟩<;>rcases Y m u with⟨y,_,h⟩ | ⟨g,d,_,h,y⟩<;>rw[e,h]
  ·omega
  ·exact X g ⋯ d
  ·exact W I ⋯
  ·exact C.mono I g ⋯ d
 ·rcases Y k O with⟨_,b,e⟩ | ⟨I,U,b,e,_⟩<;>rw[b,e]
  ·exact J
  ·have o:=C.one I U
   rw[A _ I U ⋯ ⋯];exact o
 ·rcases Y k O with⟨_,b,e⟩ | ⟨I,U,b,e,_⟩<;>rw[b]<;>rw[e]at s
  ·exact Z j s
  ·exact K I j U s
 ·rcases Y k O with⟨z,b,_⟩ | ⟨I,U,b,_,z⟩<;>rcases Y m u with⟨y,_,h⟩ | ⟨g,d,_,h,y⟩<;>rw[b,h]
  ·omega
  ·exact L g d
  ·exact H _
  ·have o:=C.pb I g U d ⋯
   rw[A _ g d ⋯ ⋯];exact o
 ·rcases Y k O with⟨_,b,_⟩ | ⟨I,U,b,_,_⟩<;>rw[b]
  ·exact hR i P
  ·exact M _ _
theorem Af(z:q<=r)(I:Span p n G R)(O : ∀k,k<r->Span p n G (F k)) : ∀g,eF (r+1) (QI q R F) g->Span p n G g:=by
 rintro g ⟨k,U,rfl⟩;rcases Vo (x:=R) (f:=F) z U with⟨_,e⟩ | ⟨Y,a,e,_⟩<;>rw[e]
 ·exact I
 ·exact O Y a
theorem uV(I:q<=r):eF (r+1) (QI q R F) R/\∀k,k<r->eF (r+1) (QI q R F) (F k):=by refine⟨⟨q,by omega,UI.symm⟩,λk O=>?_⟩;obtain⟨z,h,e⟩:=Ac (q:=q) (x:=R) (f:=F) (k:=k);exact⟨z,by omega,e.symm⟩
theorem oV(hp:Pr p)(Z:h7 p n r B l)(S:a<n)(U : ∀v,Span p n (eF r B) v↔Span p n (eF j W) v)(Y:DJ p n r B l (W j) r R)(L:y*R a%p=1)(C : ∀i,i<n->R' i=y*R i%p)(J:ZY l r a<=r)(v:Vc) :
 Span p n (eF (r+1)<|QI (ZY l r a) R' λk=>kr p R' a<|B k) v↔Span p n (eF (j+1) W) v:=by
 have w : ∀v,Span p n (eF j W) v->Span p n (eF (j+1) W) v:=λv O=>O.le λg ⟨i,b,e⟩=> .gen ⟨i,by omega,e⟩;have a2 : ∀k,k<r->Span p n (eF (j+1) W) (B k):=λk I=>w _<|(U _).mp (.gen ⟨k,I,rfl⟩);have m:Span p n (eF (j+1) W) R:=(Y.eqv _ a2).mp (.gen ⟨j,by omega,rfl⟩);have d:Span p n (eF (j+1) W) R':=(m.smul y).congr λi b=>by rw[C i b,Nl]
 obtain⟨u,m2⟩:=uV (R:=R') (F:=λk=>kr p R' a<|B k) J;have f:Span p n (eF (r+1)<|QI (ZY l r a) R' λk=>kr p R' a<|B k) R':= .gen u;have h : ∀k,k<r->Span p n (eF (r+1)<|QI (ZY l r a) R' λk=>kr p R' a<|B k) (B k):=λk I=>W8 (t:=a) f<|.gen<|m2 k I;have o:Span p n (eF (r+1)<|QI (ZY l r a) R' λk=>kr p R' a<|B k) R:=(f.smul<|R a).congr λi b=>by rw[C i b,wM,<- Ov,NX (R a) y,MO,L,Int.one_mul,Nl]
 constructor
 ·exact λO=>O.le<|Af J d λk I=>Jp d<|a2 k I
 ·refine λO=>O.le ?_
  rintro g ⟨i,b,rfl⟩;rcases Nc i j with z | z
  ·exact((U _).mpr (.gen ⟨i,z,rfl⟩)).le λg s=>by obtain⟨k,I,e⟩:=s;rw[e];exact h k I
  ·have:i=j:=by omega
   subst this;exact(Y.eqv _ h).mpr o
theorem eW(O : ∀v,Span p n (eF r B) v↔Span p n (eF j W) v)(U:DJ p n r B l (W j) r R)(Y : ∀i,i<n->R i=0)(v:Vc):Span p n (eF r B) v↔Span p n (eF (j+1) W) v:=by
 constructor
 ·exact λI=>((O v).mp I).le λg ⟨i,a,e⟩=> .gen ⟨i,by omega,e⟩
 ·refine λI=>I.le ?_
  rintro g ⟨i,a,rfl⟩;rcases Nc i j with z | z
  ·exact(O _).mpr (.gen ⟨i,z,rfl⟩)
  ·have:i=j:=by omega
   subst this;exact(U.eqv _ λk b=> .gen ⟨k,b,rfl⟩).mpr (.zero λi a=>by rw[Y i a];simp)
end
section
variable{p:Int}{n m r:Nat}{G:Vc->Prop}
theorem Span.sum{u:Nat->Vc}(c:Nat->Int) : ∀{m:Nat},(∀k,k<m->Span p n G (u k))->Span p n G λi=>zg (λk=>c k*u k i) m
 | 0,_=> .zero λi _=>by simp[zg]
 | m+1,h=>(((h m ⋯).add (Span.sum c (m:=m) λk z=>h k ⋯) (c m))).congr λi _=>by simp[zg]
noncomputable def Rk(p:Int)(n m:Nat)(W:Nat->Vc)(r:Nat):Prop:=∃B l,h7 p n r B l/\∀v,Span p n (eF r B) v↔Span p n (eF m W) v
theorem vR(U:Pr p)(h:Rk p n m W r)(h':Rk p n m W r'):r=r':=by obtain⟨B,l,Y,I⟩:=h;obtain⟨b,d,a,O⟩:=h';exact(Xa U Y a (λv z=>(O v).mpr ((I v).mp z))<|λv z=>(I v).mpr ((O v).mp z)).1
theorem az(z:Pr p)(I:h7 p n r B l)(C : ∀i,i<n->0<=w i/\w i<p) : ∀k,k<=r->∃R,DJ p n r B l w k R
 | 0,_=>⟨w,C,λq O=>absurd O<|Nx _,λG _=>Iff.rfl⟩
 | k+1,h=>by obtain⟨R,U⟩:=az z I C k ⋯;exact⟨_,U.next z I ⋯⟩
theorem bj : ∀(n:Nat) (R:Vc),(∀i,i<n->R i=0)\/∃a,a<n/\R a≠0/\∀i,i<a->R i=0
 | 0,R=> .inl λi b=>absurd b<|Nx _
 | n+1,R=>by
  rcases bj n R with h | ⟨a,h1,h2,I⟩
  ·by_cases e:R n=0
   ·exact .inl λi b=>by rcases Nc i n with z | z;exact h i z;rw[show i=n by omega];exact e
   ·exact .inr ⟨n,by omega,e,h⟩
  ·exact .inr ⟨a,by omega,h2,I⟩
theorem rK(I:Pr p)(W:Nat->Vc)(C : ∀j i,0<=W j i/\W j i<p) : ∀m,∃r,r<=m/\Rk p n m W r
 | 0=>⟨0,MM _,λ_ _=>0,λ_=>0,⟨λk z=>absurd z<|Nx _,λk q _ z=>absurd z<|Nx _,λk z=>absurd z<|Nx _,λk j z=>absurd z<|Nx _,λk q z=>absurd z<|Nx _,λk i z=>absurd z<|Nx _⟩,
  λv=>⟨λY=>Y.le λg ⟨k,z,_⟩=>absurd z<|Nx _,λY=>Y.le λg ⟨k,z,_⟩=>absurd z<|Nx _⟩⟩
 | m+1=>by
  obtain⟨r,t,B,l,O,b⟩:=rK I W C m;have s:=I.pos;obtain⟨R,U⟩:=az I O (w:=W m) (λi _=>C m i) r<|MM _;rcases bj n R with h0 | ⟨a,ha,a5,a6⟩
  ·exact⟨r,by omega,B,l,O,eW b U h0⟩
  ·have f:=U.ly a ha
   obtain⟨y,_,_,d⟩:=EE I (x:=R a) ⋯ f.2;have h : ∀k,k<r->l k≠a:=λk z e=>by have:=U.Dm k z;rw[e]at this;exact a5 this
   exact⟨r+1,by omega,_,_,Ad I O (R:=λi=>(y:Int)*R i%p) ha d (λi o=>by rw[a6 i o];simp) (λk z=>by rw[U.Dm k z];simp) λi _=>⟨NG _ ⋯,Nr _ s⟩,
    oV I (R':=λi=>(y:Int)*R i%p) O ha b U d (λi _=>rfl) (K7 O.mono h).1⟩
theorem wA(z:Pr p)(m:Nat)(W:Nat->Vc) : ∃r,r<=m/\Rk p n m W r:=by
 obtain⟨r,O,B,l,U,Y⟩:=rK (n:=n) z (λj i=>W j i%p) (λj i=>⟨NG _ (by have:=z.pos;omega),Nr _ z.pos⟩) m;refine⟨r,O,B,l,U,λv=>(Y v).trans ⟨λh=>h.le λg ⟨k,I,e⟩=>?_,λh=>h.le λg ⟨k,I,e⟩=>?_⟩⟩
 ·subst e;exact(Span.gen (g:=W k) ⟨k,I,rfl⟩).congr λi _=>by rw[Nl]
 ·subst e;exact(Span.gen (g:=λi=>W k i%p) ⟨k,I,rfl⟩).congr λi _=>by rw[Nl]
theorem uc(z:Pr p)(_:n<=100)(_:m<=8)(W:Nat->Vc) : ∃r,r<=m/\Rk p n m W r:=wA z m W
theorem BW(C:Pr p)(h:Rk p n m W r)(h':Rk p n m' W' r')(J : ∀j,j<m->Span p n (eF m' W') (W j)):r<=r':=by
 obtain⟨B,l,U,x⟩:=h;obtain⟨E,f,Y,s⟩:=h';have o : ∀k,k<r->∃q,q<r'/\f q=l k:=λk I=>Wu Y ((s _).mpr (((x _).mp (.gen ⟨k,I,rfl⟩)).le λg ⟨j,w,e⟩=>e ▸ J j w)) (U.lt k I) (by rw[U.one k I,C.one];decide) λi u=>by rw[U.l6 k i I u];simp
 have a : ∀k,k<r->∀q,q<r'->f q=l k->k<=q:=by
  intro k
  induction k with
  | zero=>intro _ q _ _;exact NY _
  | succ k A=>
   intro I q d e;obtain⟨O,b,t⟩:=o k ⋯;have F:=A ⋯ O b t;have G:=U.mono k (k+1) ⋯ I;rcases Nc O q with z | z
   ·omega
   ·rcases Nc q O with y | y
    ·have:=Y.mono q O y b
     omega
    ·have:q=O:=by omega
     subst this;omega
 rcases Nat.eq_zero_or_pos r with z | z
 ·omega
 ·obtain⟨q,d,e⟩:=o (r - 1) ⋯
  have:=a (r - 1) ⋯ q d e;omega
end
theorem iQ(h w f):deep (.lst<|zZ h w f)<=2:=bu h w f
theorem oA(h w f):ix (.lst<|zZ h w f)=d7:=gF h w f
theorem aL(h w f):lp (.lst<|zZ h w f)=d7:=XT (iQ h w f) ⋯<|oA h w f
section
variable{p:Int}{n m r h w:Nat}
theorem Je{l:UX}(h:Nat) : ∀{r:Nat},(∀k m,k<m->m<r->l k<l m)->∃s,s<=r/\(∀k,k<s->l k<h)/\∀k,s<=k->k<r->h<=l k
 | 0,_=>⟨0,MM _,λk I=>absurd I<|Nx _,λk _ I=>absurd I<|Nx _⟩
 | r+1,hm=>by
  obtain⟨s,b,a,O⟩:=Je h (r:=r) λk m I U=>hm k m I ⋯;by_cases e:l r<h
  ·refine⟨r+1,MM _,λk I=>?_,λk b a=>by omega⟩
   rcases Nc k r with z | z
   ·have:=hm k r z ⋯;omega
   ·have:k=r:=by omega
    subst this;exact e
  ·refine⟨s,by omega,a,λk I Y=>?_⟩
   rcases Nc k r with z | z
   ·exact O k I z
   ·have:k=r:=by omega
    subst this;omega
theorem WC(O:s<=r)(C : ∀k,k<s->q k=eh)(J : ∀k,s<=k->k<r->q k=d7):(MB r).filter q=(MB<|r - s).map (s + ·):=by
 obtain⟨d,rfl⟩ : ∃d,r=s+d:=⟨r - s,by omega⟩;rw[RA,RZ];have a:(MB s).filter q=[]:=List.filter_eq_nil_iff.mpr λk z=>by rw[C k (MD.mp z)];decide
 have I:((MB d).map (s + ·)).filter q=(MB d).map (s + ·):=List.filter_eq_self.mpr λk z=>by obtain⟨i,b,rfl⟩:=Nb.mp z;exact J _ ⋯ (by have:=MD.mp b;omega)
 rw[a,I,NF];rfl
def qN(h:Nat)(u v:Vc):Vc:=λi=>if i<h then u i else v (i - h)
def qg(j:Nat):Vc:=λk=>if j=k then 1 else 0
theorem jo(hi:i<h):qN h u v i=u i:=UJ hi
theorem jC(i:Nat):qN h u v (h+i)=v i:=by unfold qN;rw[UY ⋯,NF]
theorem vE(h w:Nat)(u v:Vc):zD h u++zD w v=zD (h+w) (qN h u v):=by
 unfold zD;rw[RA,NR];congr 1
 ·exact MQ λi a=>by rw[jo (MD.mp a)]
 ·rw[Nm]
  exact MQ λi _=>by simp only[SR];rw[jC]
theorem iI(h w:Nat)(v:Vc):(zD (h+w) v).take h=zD h v:=by unfold zD;rw[<- List.map_take,List.take_range,O4 (Nv h w)]
theorem iJ(h w:Nat)(v:Vc):(zD (h+w) v).drop h=zD w λj=>v (h+j):=by unfold zD;rw[RA,NR,List.drop_append_of_le_length ⋯,List.drop_eq_nil_of_le ⋯,Nm];rfl
theorem bA(h w:Nat)(v:Vc):iZ (zD (h+w) v) ed (dn (h:Int))=zD h v:=by
 have c : ¬((h:Int)<0):=by omega
 have e:min h (h+w)=h:=O4<|Nv h w;simp[iZ,dq,c,e,iI]
theorem bz(h w:Nat)(v:Vc):iZ (zD (h+w) v) (dn (h:Int)) ed=zD w λj=>v (h+j):=by
 have c : ¬((h:Int)<0):=by omega
 have e:min h (h+w)=h:=O4<|Nv h w;have t : ∀g:Vc,(zD w g).take w=zD w g:=λg=>Rr ⋯;simp[iZ,dq,c,e,iJ,t]
theorem W9(v:Vc) : ∀n,JE (zD n v)=dn ((MB n).map λi=>v i != 0)
 | 0=>rfl
 | n+1=>by
  have b : ∀l:List Nat,JE (l.map λi=>D.int<|v i)=dn (l.map λi=>v i != 0):=by
   intro l
   induction l with
   | nil=>rfl
   | cons a l z=>simp[JE,Fz,z]
  exact b _
theorem Xl(I:h7 p (h+w) r B l)(O:r<=lim)(U:s<=r)(C : ∀k,k<s->l k<h)(h2 : ∀k,s<=k->k<r->h<=l k) :
 qk [.int h,.lst (zZ r (h+w) B)]=dn (.own<|zZ (r - s) w λk j=>B (s+k)<|h+j):=by
 have d:zT (.nm 0) (j6<|sB<|AW<|zE<|au (zc 0) VS<|pe<|zc 1) (au (zc 0) (pe<|zc 1) VS) [Cell.no,Cell.val (.int h)] (zZ r (h+w) B)=dn (((MB r).filter λk=>decide<|h<=l k).map λk=>D.tup<|zD w λj=>B k<|h+j):=by
  unfold zZ;refine jB (λk=>decide<|h<=l k) _ _ λk z=>⟨_,rfl,?_,λY=>?_⟩
  ·have z:=MD.mp z
   simp[bA,W9];by_cases e:h<=l k
   ·simp[e]
    intro i f;have:=I.l6 k i z ⋯;simp[this]
   ·simp[e]
    exact⟨l k,by omega,by rw[I.one k z];decide⟩
  ·simp[bz]
 rw[WC U (λk z=>decide_eq_false (by have:=C k z;omega)) (λk a b=>decide_eq_true<|h2 k a b)]at d;simp[qk,jk,z7,O,ja,kK,MH,d];unfold zZ;rfl
def Dq(p:Int)(h w:Nat)(f:UV)(v:Vc):Prop:=∀i,i<h->zg (λj=>f i j*v j) w%p=0
theorem og{f:UV}{v:Vc}(O:Span p (h+w) (eF w λj=>qN h (λi=>f i j)<|qg j) v) : ∀i,i<h->v i%p=zg (λj=>f i j*v (h+j)) w%p:=by
 induction O with
 | @zero v z=>
  intro i a;rw[z i ⋯];have:zg (λj=>f i j*v (h+j)) w%p=zg (λ_=>0) w%p:=zQ λj U=>by rw[MO,z (h+j) ⋯];simp
  rw[this,zR];rfl
 | @step v u g c Y l I k=>
  intro i a;obtain⟨m,e,rfl⟩:=Y;rw[I i ⋯,NO,k i a,<- NO];have d:zg (λj=>f i j*v (h+j)) w%p=zg (λj=>f i j*u (h+j)+c*(f i j*qg m j)) w%p:=zQ λj U=>by rw[MO,I (h+j) ⋯,<- MO];simp only[jC];rw[Rf,PN]
  rw[d,jH,jK,zV (f:=λj=>f i j*qg m j) e λj _ b=>by simp[qg,Ny b]];simp[qg,jo a]
theorem W7(I:Pr p)(w:Nat):h7 p w w qg id where
 lt:=λk z=>z
 mono:=λk m z _=>z
 one:=λk _=>UJ rfl
 l6:=λk j _ O=>UY (by simp only[id]at O;omega)
 pb:=λk m _ _ U=>UY (by simp only[id];omega)
 ly:=λk i _ _=>by have:=I.two;unfold qg;split<;>omega
theorem Span.map(t:UX)(z : ∀i,i<n'->t i<n)(I : ∀g,G g->Span p n' G' λi=>g<|t i)(O:Span p n G v):Span p n' G' λi=>v (t i):=by
 induction O with
 | @zero v U=>exact .zero λi a=>U _<|z i a
 | @step v u g c Y e b d=>exact((I _ Y).add d c).congr λi a=>b _<|z i a
theorem yK(C:Pr p)(hh:h<=20)(hw:w<=20)(f:UV) :
 ∃q K l s,vH [.int p,jf h w f]=dn (.own<|zZ q w K)/\h7 p w q K l/\(∀v,Span p w (eF q K) v↔Dq p h w f v)/\Rk p h w (λj i=>f i j) s/\q+s=w:=by
 have hl:=js;have S:h<=lim:=by omega
 have y:w<=lim:=by omega
 have X:h+w<=lim:=by omega
 obtain⟨r,B,l,e,O,x⟩:=kg C (show h+w<=100 by omega) y .L λj=>qN h (λi=>f i j)<|qg j;have Z : ∀v,Span p (h+w) (eF r B) v->∀i,i<h->v i%p=zg (λj=>f i j*v (h+j)) w%p:=λv Y=>og<|(x v).mp Y;have am:r<=w:=by obtain⟨r',E,G⟩:=wA C (n:=h+w) w λj=>qN h (λi=>f i j)<|qg j;rw[vR C ⟨B,l,O,x⟩ G];exact E
 have an:w<=r:=by obtain⟨r',E,G⟩:=wA C (n:=w) r λk j=>B k<|h+j;refine Of (BW C (m:=w) (W:=qg) ⟨qg,id,W7 C w,λv=>Iff.rfl⟩ G λj U=>?_) E;have:=Span.map (n':=w) (G':=eF r λk j=>B k<|h+j) (λi=>h+i) (λi a=>by omega) (λg ⟨k,I,b⟩=> .gen ⟨k,I,by rw[b]⟩)<|(x<|qN h (λi=>f i j)<|qg j).mpr (.gen ⟨j,U,rfl⟩);exact this.congr λi _=>by rw[jC]
 have er:r=w:=Nat.le_antisymm am an;subst er;obtain⟨s,hs,N,o⟩:=Je h O.mono;have eb:=Xl O y hs N o;have ax:h7 p r (r - s) (λk j=>B (s+k)<|h+j) (λk=>l (s+k) - h):={
  lt:=λk I=>by have:=O.lt (s+k) ⋯;have:=o (s+k) ⋯ ⋯;omega
  mono:=λk m I H=>by have:=O.mono (s+k) (s+m) ⋯ ⋯;have:=o (s+k) ⋯ ⋯;omega
  one:=λk I=>by have:=o (s+k) ⋯ ⋯;rw[show h+(l (s+k) - h)=l (s+k)by omega];exact O.one _ ⋯
  l6:=λk j I U=>O.l6 _ _ ⋯ ⋯
  pb:=λk m I H A=>by have:=o (s+m) ⋯ ⋯;rw[show h+(l (s+m) - h)=l (s+m)by omega];exact O.pb _ _ ⋯ ⋯ ⋯
  ly:=λk i I a=>O.ly _ _ ⋯ ⋯}
 refine⟨r - s,_,_,s,?_,ax,λv=>⟨λY=>?_,λY=>?_⟩,?_,by omega⟩
 ·have Q:=Zl f S y
  have R:=vn (n:=r) y;have M:zT (.tp [0,1]) jd (zG qo (zc 0)<|zc 1) [Cell.no,Cell.no] ((MB r).map λj=>D.tup [.tup (zD h λi=>f i j),.tup (zD r λk=>if j=k then 1 else 0)])=dn (zZ r (h+r) λj=>qN h (λi=>f i j)<|qg j):=by unfold zZ;refine zv _ _ λj U=>zx rfl rfl ?_;simp[qo,X,vE];rfl
  have zp:ZR (zZ r h λi j=>f j i) (zZ r r λi j=>if i=j then 1 else 0)=(MB r).map λj=>D.tup [.tup (zD h λi=>f i j),.tup (zD r λk=>if j=k then 1 else 0)]:=by unfold ZR zZ;rw[OP];simp
  have c1:((h:Int)+(r:Int))=((h+r:Nat):Int):=by omega
  simp only[ri]at e;rw[<- c1]at e;unfold jf at Q R ⊢;have nl : ∀T t f γ,zT T t f γ []=dn []:=λ_ _ _ _=>rfl;simp[vH,xO,jk,z7,jg,Q,R,zp,y,ja,MH,M,nl,e,eb]
 ·intro i a
  induction Y with
  | @zero v hz=>
   have:zg (λj=>f i j*v j) r%p=zg (λ_=>0) r%p:=zQ λj U=>by rw[MO,hz j U];simp
   rw[this,zR];rfl
  | @step v u g c hg hu he J=>
   obtain⟨k,I,rfl⟩:=hg;have e1:zg (λj=>f i j*v j) r%p=zg (λj=>f i j*u j+c*(f i j*B (s+k) (h+j))) r%p:=zQ λj U=>by rw[MO,he j U,<- MO,Rf,PN]
   have P:=Z (B<|s+k) (.gen ⟨s+k,by omega,rfl⟩) i a;have e3:B (s+k) i=0:=O.l6 _ _ ⋯ (by have:=o (s+k) ⋯ ⋯;omega);rw[e3]at P;rw[e1,jH,jK,NO,J,MO,<- P];simp
 ·
  have bd:Span p (h+r) (eF r B) (qN h (λ_=>0) v):=by
   refine(x _).mpr ((Span.sum (u:=λj=>qN h (λi=>f i j)<|qg j) v (m:=r) λj U=> .gen ⟨j,U,rfl⟩).congr λi a=>?_);rcases Nc i h with z | z
   ·simp only[jo z]
    rw[zw (g:=λj=>f i j*v j) λj _=>NX _ _,Y i z];simp
   ·obtain⟨k,rfl⟩ : ∃k,i=h+k:=⟨i - h,by omega⟩
    simp only[jC];rw[zV (f:=λj=>v j*qg j k) (i:=k) ⋯ λj _ A=>by simp[qg,A]];simp[qg]
  have co:=ZX O bd;refine(Span.sum (u:=λk j=>B (s+k)<|h+j) (λk=>qN h (λ_=>0) v<|l<|s+k) (m:=r - s) λk I=> .gen ⟨k,I,rfl⟩).congr λj U=>?_;have:=co (h+j) ⋯;rw[jC]at this;rw[this];obtain⟨d,rfl⟩ : ∃d,r=s+d:=⟨r - s,by omega⟩;rw[NF];have sp : ∀(F:Nat->Int) (d:Nat),(∀k,k<s->F k=0)->zg F (s+d)=zg (λk=>F<|s+k) d:=by
   intro F d hF
   induction d with
   | zero=>
    show zg F s=0;rw[zw (g:=λ_=>0) hF,zR]
   | succ d J=>rw[<- Sx];simp only[zg];rw[J]
  rw[sp _ d λk I=>by rw[jo (N k I)];simp]
 ·
  refine⟨λk i=>B k i,l,⟨λk I=>N k I,λk m I H=>O.mono k m I ⋯,λk I=>O.one k ⋯,λk j I U=>O.l6 k j ⋯ U,λk m I H A=>O.pb k m ⋯ ⋯ A,λk i I a=>O.ly k i ⋯ ⋯⟩,λv=>⟨λY=>Y.le λg ⟨k,I,b⟩=>?_,λY=>Y.le λg ⟨j,U,b⟩=>?_⟩⟩
  ·subst b
   exact Span.map (n':=h) (G':=eF r λj i=>f i j) (λi=>i) (λi a=>by omega) (λg ⟨j,U,b⟩=>(Span.gen (g:=λi=>f i j) ⟨j,U,rfl⟩).congr λi a=>by rw[b];simp only[jo a])<|(x<|B k).mp (.gen ⟨k,by omega,rfl⟩)
  ·subst b
   have:=Span.map (n':=h) (G':=eF s λk i=>B k i) (λi=>i) (λi a=>by omega) (λg hZ=>by
    obtain⟨k,I,b⟩:=hZ;subst b;rcases Nc k s with z | z
    ·exact .gen ⟨k,z,rfl⟩
    ·exact .zero λi a=>by rw[O.l6 k i I (by have:=o k z I;omega)];simp) ((x<|qN h (λi=>f i j)<|qg j).mpr (.gen ⟨j,U,rfl⟩))
   exact this.congr λi a=>by rw[jo a]
end
@[simp] def Ib:=@V1.eq_1
theorem sE{a b:Bool}(h:gB a=gB b):a=b:=by cases a<;>cases b<;>first | rfl | exact absurd h ⋯
def rl(m C:Nat)(w w':UK):Prop:=m=C/\∀k,k<m->w k=w' k
instance (m m':Nat) (w w':UK):Decidable (rl m m' w w'):=inferInstanceAs (Decidable (m=m'/\∀k,k<m->w k=w' k))
theorem sF{m C:Nat}{w w':UK}:jW m w=jW C w'↔rl m C w w':=by
 constructor
 ·intro h
  have a:=kC m w;rw[h,kC]at a;have I:m=C:=by have:=congrArg List.length a;simpa using this.symm
  subst I;refine⟨rfl,λk z=>?_⟩;have:=congrArg (λl=>l[k]?) a;simp[z]at this;exact(sE this).symm
 ·rintro⟨rfl,h⟩
  unfold jW;rw[MQ λk z=>by rw[h k (MD.mp z)]]
theorem gD(m w):lp (.str<|jW m w)=d7:=by refine XT (n:=0) (by simp[deep]) ⋯ ?_;show(jW m w).cps.all (· < 0x110000)=d7;rw[<- Array.all_toList,kC];simp only[Ot];intro c z;obtain⟨k,_,rfl⟩:=Nb.mp z;unfold gB;split<;>decide
section
variable{p p':Int}{m m':Nat}{w w':UK}{wd wd':UX}{T T':UW}
theorem V2:jq (z9 p m w wd T)=dn (.T,[.int p,.tup<|zD (m+1) λk=>(wd k:Int),.tup (jD m w wd T)]):=rfl
theorem AM(k):jq (qH w wd T k)=dn (.T,[.str (xu<|gB<|w k),jf (fy w wd k) (fA w wd k) (T k)]):=rfl
theorem Yo:zT (.nm 0) jd (eg (ze 0)<|zq<|.int 0) [Cell.no] (jD m w wd T)=dn ((MB m).map λk=>D.str<|xu<|gB<|w k):=by unfold jD;refine zv _ _ λk z=>zx rfl rfl ?_;simp[AM]
theorem vm(C:m<=900):kL [z9 p m w wd T]=dn (.val<|.str<|jW m w):=by
 have O:=js;have z:m<=lim:=by omega
 have st:Kp ((MB m).map λk=>D.str<|xu<|gB<|w k)=dn ((MB m).map λk=>xu<|gB<|w k):=Jd _ _;have I:((MB m).map λk=>xu<|gB<|w k).all qb=d7:=by simp only[Ot];intro x a;obtain⟨k,_,rfl⟩:=Nb.mp a;unfold gB;split<;>decide
 have b:qb "" = d7:=by decide +kernel
 simp only[kL,jk,z7];simp only[yn,lX,xA,xy,jM,xV,vF,kc,jL,Nk,RD,MY,Nj,MH,Ph,MJ,zW,V2,MG,MP,jU,P',ML,Fc,Nat.sub_self,NA];rw[Zf,UJ z,show ja 1 [] [Cell.val (z9 p m w wd T)]=[Cell.no]from rfl,Yo];simp only[MP,MG,st];rw[UJ ⟨by simpa using z,I,b⟩];rfl
theorem Yg(C:m<=900)(I:m'<=900):kE [z9 p m w wd T,z9 p' m' w' wd' T']=dn (.val<|.bl<|decide<|p=p'/\rl m m' w w'):=by
 have z:=vm (p:=p) (wd:=wd) (T:=T) (w:=w) C;have O:=vm (p:=p') (wd:=wd') (T:=T') (w:=w') I;have d:hG (.str<|jW m w) (.str<|jW m' w')=dn (.bl<|decide<|rl m m' w w'):=by unfold hG;rw[UJ ⟨gD m w,gD m' w'⟩];congr 2;rw[OU];simp only[ji,UE,beq_iff_eq,decide_eq_true_eq];exact sF
 by_cases q:p=p'
 ·simp[kE,jk,z7,V2,q,z,O,d]
  subst q;simp[z,d]
 ·simp[kE,jk,z7,V2,q]
end
theorem lq(xs:List D)(n:Nat)(C:xs.length=n)(J : ∀i (h:i<n),∃z,xs[i]'(C ▸ h) = .int z)(bg:n<=63)(k:Int)(L:0<=k)(bi:k<100000) :
 ∃m,jO [.lst xs,.int k]=dn (.val<|.int m)/\0<=m/\m<1000000007:=by
 have O : ∀x:Int,Kb x 48271=d7:=λx=>bF _ _ ⋯ ⋯;have U : ∀x:Int,Kb 7 x=d7:=λx=>w6 _ _ ⋯ ⋯;have Y : ∀x:Int,Kb 13 x=d7:=λx=>w6 _ _ ⋯ ⋯;have e : ∀x:Int,Kb x 69621=d7:=λx=>bF _ _ ⋯ ⋯;have f:Kb (7*k) k=d7:=bF _ _ ⋯ ⋯;have I:EV 10 9=d7:=by decide
 have b:EV 10 30=d7:=by decide
 have hl:lim=2500:=rfl;by_cases G:n=0
 ·subst G
  have g:xs=[]:=NL C;subst g;simp[jO,jk,z7,jg,O,U,Y,e,f,I,b];omega
 ·have l:0<n:=by omega
  obtain⟨i,Q⟩:=Pk (NG k<|show(n:Int)≠0 by omega);have r:i<n:=by have:=Nr k (show(0:Int)<n by omega);omega
  obtain⟨zi,A⟩:=J i r;have W:h6 n (i:Int)=dn i:=by rw[qh,UJ r]
  by_cases N:n=1
  ·subst N
   have o:i=0:=by omega
   subst o;have k1:k%1=0:=by omega
   simp[jO,jk,z7,jg,O,U,Y,e,f,I,b,C,A];omega
  ·obtain⟨z0,g⟩:=J 0 l
   have o:h6 n 0=dn 0:=by have:=qh n 0;rw[UJ l]at this;exact this
   have E:(0:Int)<(n:Int) - 1:=by omega
   have F:(1:Int)<(n:Int):=by omega
   have y:1<n:=by omega
   have Z:(n:Int) - 1<1073741824:=by omega
   have q4:(0:Int)<(n:Int):=by omega
   obtain⟨j,R⟩:=Pk (NG k<|show(n:Int) - 1≠0 by omega);have u:1+j<n:=by have:=Nr k E;omega
   obtain⟨zj,M⟩:=J (1+j) u;have X:h6 n (1+(j:Int))=dn (1+j):=by have:=qh n<|1+j;rw[UJ u]at this;rw[<- this];congr 1
   have P:0<=k/((n:Int) - 1)/\k/((n:Int) - 1)<=k:=⟨Int.ediv_nonneg L ⋯,Int.ediv_le_self _ L⟩;obtain⟨t,S⟩:=Pk P.1;by_cases B:z0%2=1
   ·obtain⟨a,H,bt⟩ : ∃a:Nat,(if (t:Int)<60 then (t:Int)else 60)=a/\a<=60:=by
     split
     ·exact⟨t,rfl,by omega⟩
     ·exact⟨60,rfl,by omega⟩
    have K:inR (a:Int)=d7:=Vp ⋯ ⋯;simp[jO,jk,z7,jg,O,U,Y,e,f,C,l,u,F,y,g,o,E,Z,B,R,X,M,S,I,b];rw[H,UJ K];simp only[MG,jX,Ou];rw[z5 a λi=>(i:Int)];have w : ∀(m s:Nat) (v:Int) (c:Cell),∃p d,qL (.nm 3) (jy 2<|zG K6 (zc 2)<|zG Au (zq<|D.int 10)<|zq<|D.int 9) ((Ru s m).map λ(i:Nat)=>D.int i) [.val (.lst xs),.val<|.int k,.val<|.int v,c,.no] =
     dn (.next [.val (.lst xs),.val<|.int k,.val<|.int p,d,.no]):=by
     intro m
     induction m with
     | zero=>intro s v c;exact⟨v,c,rfl⟩
     | succ m T=>
      intro s v c;rw[Pn,Nk,ju];obtain⟨p,d,h⟩:=T (s+1) (v/10 ^ 9)<|.val<|.int s;refine⟨p,d,?_⟩;rw[<- h];simp[I]
    obtain⟨p,d,h⟩:=w a 0 zj .no;rw[<- ON]at h;rw[h];simp[I];omega
   ·simp[jO,jk,z7,jg,O,U,Y,e,f,C,F,y,q4,l,g,o,B,Q,A,r,W,I,b]
    omega
theorem AB(C:List Int)(J:C.length<=63)(k:Int)(z:0<=k)(I:k<100000) : ∃m,jO [XB C,.int k]=dn (.val<|.int m)/\0<=m/\m<1000000007:=
 lq (C.map D.int) C.length ⋯ (λi a=>⟨C[i],by simp⟩) J k z I
noncomputable def yi(C:List Int)(k:Int):Int:=match jO [XB C,.int k]with
 | some (.val<|.int m)=>m
 | _=>0
theorem WL(C:ns.length<=63)(z:0<=k)(I:k<100000):jO [XB ns,.int k]=dn (.val<|.int<|yi ns k)/\0<=yi ns k/\yi ns k<1000000007:=by
 obtain⟨m,h,a,b⟩:=AB ns C k z I;have e:yi ns k=m:=by unfold yi;rw[h]
 rw[e];exact⟨h,a,b⟩
def zH(bs:List (Int×Int)):List D:=bs.map λb=>D.tup [.int b.1,.int b.2]
@[simp] theorem Xb(bs):(zH bs).length=bs.length:=by simp[zH]
theorem XR : ∀bs,ZK (zH bs)=dn bs
 | []=>rfl
 | b::bs=>by have z:=XR bs;unfold zH at z;simp[zH,ZK,oh,z]
def kQ(bs:List (Int×Int)):List (Int×Int):=(qu bs).map λi=>bs.getD i (0,0)
theorem kD(bs):(kQ bs).Perm bs:=by have:=(qa bs).map λi=>bs.getD i (0,0);rw[je]at this;exact this
theorem YL{bs:List (Int×Int)}(h:bs.length<64):eP (zH bs)=dn (zH<|kQ bs):=by unfold eP;rw[XR];show(if (zH bs).length<64 then dn ((qu bs).map λi=>(zH bs).getD i .ft)else ed)=_;rw[Xb,UJ h];unfold kQ;congr 1;unfold zH;rw[Nm];refine MQ λi a=>?_;have a:i<bs.length:=MD.mp<|(qa bs).mem_iff.mp a;simp[a]
def ZN(n:Int)(b:Int×Int):Prop:=0<=b.1/\b.1<=b.2/\b.2<n
@[simp] def pV:=@YN.eq_1
section ap
variable(γ:Ctx)
@[simp] def Gj:=@BH.eq_1
@[simp] def pW:=@fu.eq_1
@[simp] def pX:=@aw.eq_1
@[simp] def Lh:=@LI.eq_1
end ap
def dF(b:Int×Int)(r:Int):Bool:=decide (b.1<=r) && decide (r<=b.2)
noncomputable def jc(bs:List (Int×Int))(r:Int):List Nat:=(MB bs.length).filter λi=>dF (bs.getD i (0,0)) r
def XX(l:List Nat):List D:=l.map λ(i:Nat)=>D.int i
@[simp] theorem Ji(l):(XX l).length=l.length:=by simp[XX]
theorem JW(bs r):(jc bs r).length<=bs.length:=by have:=PF (λi=>dF (bs.getD i (0,0)) r)<|MB bs.length;simpa[jc]using this
theorem iE(bs:List (Int×Int)):xG (zH bs)=(MB bs.length).map λ(i:Nat)=>D.tup [.int i,.tup [.int (bs.getD i (0,0)).1,.int (bs.getD i (0,0)).2]]:=by unfold xG;rw[Xb];refine MQ λi a=>?_;have a:=MD.mp a;simp[zH,a]
theorem vp{bs:List (Int×Int)}(z:bs.length<=lim)(r:Int):Xm [.lst (zH bs),.int r]=dn (.own<|XX<|jc bs r):=by
 have a:zT (.tp [0,1]) (sB<|kH lx lx (eg (ze 1)<|zq<|.int 0) (zc 2)<|eg (ze 1)<|zq<|.int 1) (zc 0) [Cell.no,Cell.no,Cell.val (.int r)] ((MB bs.length).map λ(i:Nat)=>D.tup [.int i,.tup [.int (bs.getD i (0,0)).1,.int (bs.getD i (0,0)).2]]) =
  dn (((MB bs.length).filter λi=>dF (bs.getD i (0,0)) r).map λ(i:Nat)=>D.int i):=by
  refine jB (λi=>dF (bs.getD i (0,0)) r) (λ(i:Nat)=>D.int i) _ λi d=>⟨_,rfl,?_,λ_=>rfl⟩;generalize bs.getD i (0,0)=b;by_cases h:b.1<=r
  ·simp[dF,h]
  ·simp[dF,h]
 have I:(xG<|zH bs).length=bs.length:=by simp[xG]
 simp only[Xm,jk,z7,WW,jM,pX,qr,Nk,RD,MY,Nj,MH,Ph,O3,Ri,MJ,zO,MG,I,z,if_true];rw[show ja 2 [1] (Cell.val (D.lst<|zH bs)::Cell.val (D.int r)::MH (2 - (0+1+1)) Cell.no)=[Cell.no,Cell.no,Cell.val (.int r)]from rfl,iE,a];rfl
theorem wb:jz=Xm:=rfl
noncomputable def tj(e b:List Nat):D:= .tup [.int e.length,.int b.length,.tup (e.map λx=>D.tup<|b.map λy=>D.int<|if x=y then 1 else 0)]
def iU(i j:Nat):Int:=if i=j then 1 else 0
noncomputable def Ye(p:Int)(n:Nat)(f g:UV):Prop:=∀i j,i<n->j<n->zg (λk=>f i k*g k j) n%p=iU i j%p
theorem J5{p x y X Y:Int}(C:x%p=X%p)(I:y%p=Y%p):(x*y)%p=(X*Y)%p:=by rw[MO,C,I,<- MO]
section
variable{p:Int}{n:Nat}{f g f' g':UV}
theorem mP{t:Int}{u o:Nat}(hu:u<n)(Z:o<n)(J:u≠o)(C:Ye p n f g)(L : ∀i k,i<n->k<n->f' i k%p=(f i k+(if i=u then t else 0)*f o k)%p)(hg : ∀k j,k<n->j<n->g' k j%p=(g k j+(if j=o then -t else 0)*g k u)%p):Ye p n f' g':=by
 intro i j m I;generalize ea:(if i=u then t else 0)=a at L;have s : ∀k,k<n->f' i k%p=(f i k+(if i=u then t else 0)*f o k)%p:=λk z=>by have:=L i k m z;exact this
 rw[zQ (g:=λk=>f i k*g k j+(if j=o then -t else 0)*(f i k*g k u)+((if i=u then t else 0)*(f o k*g k j)+((if i=u then t else 0)*(if j=o then -t else 0))*(f o k*g k u))) λk z=>by
  rw[J5 (s k z) (hg k j z I)];congr 1;generalize (if i=u then t else 0)=a;generalize (if j=o then -t else 0)=b;rw[D8,Rf,Rf];congr 1
  ·congr 1;rw[PN]
  ·congr 1
   ·rw[Ov]
   ·rw[Ov,Ov];congr 1;rw[PN]]
 rw[jH,jH,jH,jK,jK,jK];have A:=C i j m I;have B:=C i u m hu;have E:=C o j Z I;have F:=C o u Z hu;have O : ∀c S d:Int,S%p=d%p->(c*S)%p=(c*d)%p:=λc S d h=>J5 rfl h;have ad : ∀x y X Y:Int,x%p=X%p->y%p=Y%p->(x+y)%p=(X+Y)%p:=λx y X Y a b=>by rw[NO,a,b,<- NO]
 rw[ad _ _ _ _ (ad _ _ _ _ A<|O _ _ _ B) (ad _ _ _ _ (O _ _ _ E)<|O _ _ _ F)];congr 1;unfold iU;have r : ¬o=u:=λe=>J e.symm;by_cases l:i=u
 ·by_cases U:j=o
  ·subst l U;simp[J,r];omega
  ·have w : ¬o=j:=λe=>U e.symm
   simp[l,U,w,r]
 ·simp[l]
theorem dS{t:Int}{u o:Nat}(U:u<n)(Y:o<n)(C:u≠o)(J:Ye p n g f)(L : ∀i k,i<n->k<n->f' i k%p=(f i k+(if i=u then t else 0)*f o k)%p)(S : ∀k j,k<n->j<n->g' k j%p=(g k j+(if j=o then -t else 0)*g k u)%p):Ye p n g' f':=by
 intro i j b O;rw[<- J i j b O];rw[zQ (g:=λk=>g i k*f k j+((if k=u then t*(g i u*f o j)else 0)+(if k=o then -t*(g i u*f o j)else 0))) λk z=>by
  rw[J5 (S i k b z) (L k j z O)];congr 1;by_cases a:k=u
  ·subst a
   have I : ¬k=o:=C;simp only[UY I,if_true,PJ,OY,Rf];rw[PN]
  ·by_cases I:k=o
   ·subst I
    simp only[UY a,if_true,PJ,OY,Tz,D8];rw[Ov]
   ·simp only[UY a,UY I,PJ,OY]]
 rw[jH,jH,zV (f:=λk=>if k=u then t*(g i u*f o j)else 0) U λk _ z=>UY z,zV (f:=λk=>if k=o then -t*(g i u*f o j)else 0) Y λk _ z=>UY z];simp only[if_true];congr 1;rw[Int.neg_mul];omega
end
def jx(n:Nat)(f:UV):List D:=(MB n).map λi=>D.lst<|zD n<|f i
def xt(n:Nat)(f:UV):List (List D):=(MB n).map λi=>zD n<|f i
theorem fB(n f):(xt n f).map D.lst=jx n f:=by simp[xt,jx]
@[simp] theorem BS(n f):(jx n f).length=n:=by simp[jx]
@[simp] theorem FI(f)(hi:i<(jx n f).length):(jx n f)[i] = .lst (zD n<|f i):=by simp[jx]
@[simp] theorem Ba(r):kK (.nest r) = .no:=rfl
@[simp] theorem Ej(r):kK (.own r) = .no:=rfl
@[simp] theorem Ei(d):kK (.val d) = .val d:=rfl
@[simp] theorem FP:kK .no = .no:=rfl
theorem WH(J:a<n)(v z:Vc)(x:Int)(C:z a=x)(I : ∀i,i<n->i≠a->z i=v i):(zD n v).set a (.int x)=zD n z:=by
 apply OI;intro i;rw[Pe];by_cases b:i<n
 ·by_cases e:a=i
  ·subst e;simp[J,zD,C]
  ·have:=I i b (Ny e)
   simp[e,zD,b,this]
 ·have d:(zD n v)[i]? = ed:=by simp[zD];omega
  have f:(zD n z)[i]? = ed:=by simp[zD];omega
  rw[d,f,UY ⋯]
theorem fC(I:u<n)(f C:UV)(v:Vc)(J : ∀j,j<n->C u j=v j)(L : ∀i j,i<n->i≠u->j<n->C i j=f i j):(jx n f).set u (.lst<|zD n v)=jx n C:=by
 apply OI;intro i;rw[Pe];by_cases a:i<n
 ·by_cases e:u=i
  ·subst e;simp[I,jx];exact qZ λj z=>(J j z).symm
  ·simp[e,jx,a];exact qZ λj z=>(L i j a (Ny e) z).symm
 ·have b:(jx n f)[i]? = ed:=by simp[jx];omega
  have d:(jx n C)[i]? = ed:=by simp[jx];omega
  rw[b,d,UY ⋯]
theorem X8 : ∀(l:List Nat),(∀k∈l,∃d C m,fx (yZ γ j i<|R k)=dn d/\gx (yZ γ j i<|R k)=dn (.int C)/\h6 (R k).length C=dn m/\(R k).set m d=R' k)->kW j i gx fx γ (l.map R)=dn (l.map R')
 | [],_=>rfl
 | k::l,h=>by obtain⟨d,C,m,a,b,z,I⟩:=h k MX;have O:=X8 l λx e=>h x<|MT _ e;simp[kW,a,b,z,I,O]
theorem Vy : ∀(l:List Nat),(∀k∈l,∃γ1,ka T (g k) γ=dn γ1/\f γ1=dn (R k))->vX T f γ (l.map g)=dn (l.map R)
 | [],_=>rfl
 | k::l,h=>by obtain⟨γ1,a,b⟩:=h k MX;have z:=Vy l λx d=>h x<|MT _ d;simp[vX,a,b,z]
section
variable{p:Int}{n:Nat}
structure Pair(p:Int)(n:Nat)(f g:UV):Prop where
 bf : ∀i j,i<n->j<n->0<=f i j/\f i j<p
 bg : ∀i j,i<n->j<n->0<=g i j/\g i j<p
 fg:Ye p n f g
 gf:Ye p n g f
end
@[simp] theorem BQ(n f):(xt n f).length=n:=by simp[xt]
def zJ(w:UK)(k:Nat):Nat:=if w k then k+1 else k
def zX(w:UK)(k:Nat):Nat:=if w k then k else k+1
theorem QL(w:UK)(wd:UX)(k):fy w wd k=wd (zX w k):=by unfold fy zX;split<;>rfl
theorem Jz(w:UK)(wd:UX)(k):fA w wd k=wd (zJ w k):=by unfold fA zJ;split<;>rfl
theorem QZ(w:UK)(h:k<m):zJ w k<m+1:=by unfold zJ;split<;>omega
theorem K0(w:UK)(h:k<m):zX w k<m+1:=by unfold zX;split<;>omega
def xF(m:Nat)(wd:UX)(f:UW):List D:=(MB m).map λk=>jf (wd k) (wd k)<|f k
@[simp] theorem eH(m wd f):(xF m wd f).length=m:=by simp[xF]
@[simp] theorem FA(wd f)(h:k<(xF m wd f).length):(xF m wd f)[k]=jf (wd k) (wd k) (f k):=by simp[xF]
noncomputable def jS(p:Int)(w:UK)(wd:UX)(f g T:UW)(k i j:Nat):Int:=
 zg (λb=>g (zJ w k) b j*(zg (λa=>T k a b*f (zX w k) i a) (wd<|zX w k)%p)) (wd<|zJ w k)%p
section
variable{p:Int}{m:Nat}{w:UK}{wd:UX}{f g T:UW}
theorem df(m:Nat)(F:Nat->D):xG ((MB m).map F)=(MB m).map λ(k:Nat)=>D.tup [.int k,F k]:=by unfold xG;rw[Nf,NI];apply MQ;intro k z;have z:=MD.mp z;simp[z]
theorem VU(k i j:Nat):zg (λa=>f (zX w k) i a*(zg (λb=>T k a b*g (zJ w k) b j) (wd<|zJ w k)%p)) (wd<|zX w k)%p=jS p w wd f g T k i j:=by unfold jS;rw[wm];refine congrArg (· % p)<|zw λb _=>?_;rw[NX,zw (g:=λa=>T k a b*f (zX w k) i a) λa _=>NX _ _]
end
def b1:=(iN (j6<|sB<|zA Kg<|zb (zc 1) zB) XM qc)
def b2:=(jy 3<|zG qo (yX<|zc 1)<|zq<|.int 1)
noncomputable def b3:=(iN (j6<|sB<|AX<|jj<|zM (zK<|ze 2) (.nm 0) 1 [3] jd (zA ZP<|zb (zc 1)<|zb (zc 0) zB)) XM qc)
def b4:=(jy 4<|j3<|YN<|ze 2)
def x1:CO Xn:=(Dk (j6 (sB (zA Kg (zb (zc 1) zB)))) (sC "NoRow") Dl)
noncomputable def x3:CO Xn:=(Dk (j6 (sB (AX (jj (zM (zK (ze 2)) (.nm 0) 1 [3] jd (zA ZP (zb (zc 1) (zb (zc 0) zB)))))))) (sC "NoRow") Dl)
def x7:CO Xn:=(Dk (sB (zG pk (JO (ze 6)) (zq (.int 30)))) (sC "TooMany") Dl)
theorem iC(m:Nat)(w:UK):xG (XI<|jW m w)=(MB m).map λ(k:Nat)=>D.tup [.int k,.str (xu<|gB<|w k)]:=by
 have e:XI (jW m w)=(MB m).map λk=>D.str (xu<|gB<|w k):=by unfold XI;rw[kC,Nm];rfl
 unfold xG;rw[e];simp only[Nf,NI];refine MQ λk z=>?_;simp[MD.mp z]
def FB(n:Int)(b:Int×Int):Bool:=decide<|0<=b.1/\b.1<n/\0<=b.2/\b.2<n/\b.1<=b.2
noncomputable def BV(m:Nat)(bs:List (Int×Int)):List D:=(MB<|m+1).map λ(r:Nat)=>D.lst<|XX<|jc bs r
def qO(m:Nat)(bs:List (Int×Int)):List D:=zD (m+1) λr=>((jc bs r).length:Int)
noncomputable def v7(m:Nat)(w:UK)(bs:List (Int×Int)):List D:=(MB m).map λk=>D.tup [.str (xu<|gB<|w k),tj (jc bs<|zX w k) (jc bs<|zJ w k)]
noncomputable def BR(p:Int)(m:Nat)(w:UK)(bs:List (Int×Int)):D:= .tup [.int p,.tup<|qO m bs,.tup (v7 m w bs)]
section
variable{p:Int}{m:Nat}{w:UK}{bs:List (Int×Int)}
abbrev g0(p:Int)(z:Str)(bs:List (Int×Int)):Ctx:=[.val (.int p),.val (.str z),.val (.lst (zH bs)),.no,.no,.no,.no,.no]
abbrev g2(p:Int)(z:Str)(m:Nat)(bs:List (Int×Int)):Ctx:=[.val (.int p),.val (.str z),.val (.lst (zH bs)),.val (.int ((m+1:Nat):Int)),.no,.no,.no,.no]
abbrev g6(p:Int)(z:Str)(m:Nat)(bs:List (Int×Int)):Ctx:=[.val (.int p),.val (.str z),.val (.lst (zH bs)),.val (.int ((m+1:Nat):Int)),.val (.lst (zH (kQ bs))),.val (.lst (BV m (kQ bs))),.val (.tup (qO m (kQ bs))),.no]
theorem VT:(qO m bs).length=m+1:=by simp[qO]
end
theorem WV(G F H)(γ:Ctx):Fx G F H γ=match G γ with
 | some c=>dn c
 | none=>(F γ).bind λz=>match z with
  | .next a=>H a
  | _=>ed:=rfl
theorem QD:yJ=jk 10 (zL (jy 3<|j3<|zM (z6<|zG qo (yX<|zc 1)<|zq<|.int 1) (.nm 0) 1 [2] jd (km<|jj<|jw jz<|zb (zc 1)<|zb (zc 0) zB))<|zL (xq 4<|qG zB)<|zL (yN (fu<|zc 1) (.tp [5,6]) cS)<|j5<|qA<|zb (zc 0)<|zb (zP<|ze 3)<|zb (zP<|ze 4) zB):=rfl
section
variable{p:Int}{m:Nat}{w:UK}{bs:List (Int×Int)}
theorem lM(w:UK)(k:Nat):((k:Int)+if w k=d7 then 1 else 0)=((zJ w k:Nat):Int):=by unfold zJ;split<;>omega
theorem iH(w:UK)(k:Nat):((k:Int)+if (!w k)=d7 then 1 else 0)=((zX w k:Nat):Int):=by unfold zX;cases w k<;>simp
theorem ik{b:List Nat}(x:Nat):zT (.nm 0) jd (kh<|zG hG (zc 1)<|zc 0) [Cell.no,Cell.val (.int x)] (XX b)=dn (b.map λy=>D.int<|if x=y then 1 else 0):=by
 unfold XX;refine zv _ _ λy z=>zx rfl rfl ?_;by_cases h:x=y
 ·simp[h]
 ·have a : ¬((x:Int)=(y:Int)):=by omega
  simp[h,a]
abbrev lc(p:Int)(m:Nat)(w:UK)(bs:List (Int×Int))(acc:List D)(c5 c6 c7 c8 c9:Cell):Ctx:=[.val (.int p),.val (.str (jW m w)),.val (.lst (zH bs)),.val (.lst (qO m bs)),.own acc,c5,c6,c7,c8,c9]
noncomputable def bI(w:UK)(bs:List (Int×Int))(k:Nat):D:=D.tup [.str (xu<|gB<|w k),tj (jc bs<|zX w k) (jc bs<|zJ w k)]
theorem gP(hm:m<=5)(hb:bs.length<64){k:Nat}(z:k<m)(acc:List D)(Z:acc.length<lim)(J L C:Cell) : ∃U Y S,cS (lc p m w bs acc (.val<|.int k) (.val<|.str<|xu<|gB<|w k) J L C)=dn (.next<|lc p m w bs (acc++[bI w bs k]) (.val<|.int k) (.val<|.str<|xu<|gB<|w k) U Y S):=by
 have B:=js;have I:bs.length<=lim:=by omega
 have d:=K0 w z;have e:=QZ w z;have O : ∀r:Int,(jc bs r).length<=lim:=λr=>by have:=JW bs r;omega
 have j:=bo (w k);have l:=KY (w k);have f:=lM w k;have g:=iH w k;refine⟨.val (.int ((zJ w k:Nat):Int)),.val (.int ((zX w k:Nat):Int)),.val (.lst ((jc bs (zX w k)).map λx=>D.tup ((jc bs (zJ w k)).map λy=>D.int (if x=y then 1 else 0)))),?_⟩;have o:(jy 7 (zG qo (zc 5) (kh (zG hG (zc 6) (zq (.str "l")))))) (lc p m w bs acc (.val (.int k)) (.val (.str (xu (gB (w k))))) J L C)=dn (.next (lc p m w bs acc (.val (.int k)) (.val (.str (xu (gB (w k))))) (.val (.int ((zJ w k:Nat):Int))) L C)):=by rw[<- f];simp[lc,j]
 have s : ∀J,(jy 8 (zG qo (zc 5) (kh (zG hG (zc 6) (zq (.str "r")))))) (lc p m w bs acc (.val (.int k)) (.val (.str (xu (gB (w k))))) J L C)=dn (.next (lc p m w bs acc (.val (.int k)) (.val (.str (xu (gB (w k))))) J (.val (.int ((zX w k:Nat):Int))) C)):=λJ=>by rw[<- g];simp[lc,l]
 have a:zT (.nm 0) jd (zP<|jj<|zM (zK<|jj<|jw jz<|zb (zc 1)<|zb (zc 2) zB) (.nm 0) 1 [0] jd (kh<|zG hG (zc 1)<|zc 0)) [Cell.no,Cell.val<|.lst<|zH bs,Cell.val (.int ((zJ w k:Nat):Int))] (XX<|jc bs<|zX w k)=dn ((jc bs<|zX w k).map λx=>D.tup<|(jc bs<|zJ w k).map λy=>D.int<|if x=y then 1 else 0):=by rw[XX];refine zv _ _ λx E=>zx rfl rfl ?_;have:=ik (b:=jc bs<|zJ w k) x;simp[wb,vp I,O,ja,kK,MH,this]
 have t:(jy 9<|j3<|zM (zK<|jj<|jw jz<|zb (zc 2)<|zb (zc 8) zB) (.nm 0) 1 [2,7] jd (zP<|jj<|zM (zK<|jj<|jw jz<|zb (zc 1)<|zb (zc 2) zB) (.nm 0) 1 [0] jd (kh<|zG hG (zc 1)<|zc 0))) (lc p m w bs acc (.val<|.int k) (.val<|.str<|xu<|gB<|w k) (.val<|.int ((zJ w k:Nat):Int)) (.val<|.int ((zX w k:Nat):Int)) C) =
  dn (.next<|lc p m w bs acc (.val<|.int k) (.val<|.str<|xu<|gB<|w k) (.val<|.int ((zJ w k:Nat):Int)) (.val<|.int ((zX w k:Nat):Int))<|.val<|.lst<|(jc bs<|zX w k).map λx=>D.tup<|(jc bs<|zJ w k).map λy=>D.int<|if x=y then 1 else 0):=by
  rw[Zi,yo,jM,xV,xy,Yc];simp only[lc,jb,xl,qr,MJ,ML,zO,MG,MP,wb,vp I,nF,Ji,O,if_true];rw[show ja 1 [2,7] [Cell.val (D.int p),Cell.val<|D.str<|jW m w,Cell.val<|D.lst<|zH bs,Cell.val<|D.lst<|qO m bs,Cell.own acc,Cell.val<|D.int (k:Int),Cell.val<|D.str<|xu<|gB<|w k,Cell.val<|D.int ((zJ w k:Nat):Int),Cell.val<|D.int ((zX w k:Nat):Int),C]=[Cell.no,Cell.val<|.lst<|zH bs,Cell.val (.int ((zJ w k:Nat):Int))]from rfl];rw[wb]at a;rw[a];rfl
 have wl:(qO m bs).length=m+1:=VT;have h:h6 (m+1) ((zX w k:Nat):Int)=dn (zX w k):=by rw[qh,UJ d]
 have i:h6 (m+1) ((zJ w k:Nat):Int)=dn (zJ w k):=by rw[qh,UJ e]
 have u:(qO m bs)[zX w k]? = dn (.int ((jc bs<|zX w k).length:Int)):=vD (n:=m+1) (λr=>((jc bs r).length:Int)) d;have A:(qO m bs)[zJ w k]? = dn (.int ((jc bs<|zJ w k).length:Int)):=vD (n:=m+1) (λr=>((jc bs r).length:Int)) e;unfold cS;rw[jg,o];show zL _ _ _=_;rw[jg,s];show zL _ _ _=_;rw[jg,t,Kt];simp only[qV,lc,ym,jb,xl,qr,kc,jL,xk,MJ,ML,zO,zW,WN,Fd,MG,MP,jU,wl,h,i,u,A,MY,Nj,Z,if_true];rfl
theorem ZZ(L:m<=5)(J:bs.length<64):yJ [.int p,.str<|jW m w,.lst (zH bs)]=dn (.val<|BR p m w bs):=by
 have Q:=js;have n:bs.length<=lim:=by omega
 have z:m+1<=lim:=by omega
 have I:=k8 w (show m<=1000 by omega);have M:zT (.nm 0) jd (km<|jj<|jw jz<|zb (zc 1)<|zb (zc 0) zB) [Cell.no,Cell.val (.lst<|zH bs)] (zD (m+1) λi=>(i:Int))=dn (qO m bs):=by unfold qO;rw[z5,z5];refine zv _ _ λr R=>zx rfl rfl ?_;simp[wb,vp n]
 have G:(jy 3<|j3<|zM (z6<|zG qo (yX<|zc 1)<|zq<|.int 1) (.nm 0) 1 [2] jd (km<|jj<|jw jz<|zb (zc 1)<|zb (zc 0) zB)) (z7 10 [.int p,.str<|jW m w,.lst (zH bs)])=dn (.next [.val (.int p),.val<|.str<|jW m w,.val<|.lst<|zH bs,.val<|.lst<|qO m bs,.no,.no,.no,.no,.no,.no]):=by rw[Zi,yo,jM,vk,show z7 10 [D.int p,.str<|jW m w,.lst (zH bs)]=[.val (.int p),.val<|.str<|jW m w,.val<|.lst<|zH bs,.no,.no,.no,.no,.no,.no,.no]from rfl];simp only[kY,AO,qr,xA,MJ,ML,zO,MG,I,if_true,wc,pA,jU];rw[show((m:Int)+1)=((m+1:Nat):Int)by omega];simp only[ZC z,if_true,Ou,MG,jX,Jl,z];rw[show ja 1 [2] [Cell.val (D.int p),Cell.val<|D.str<|jW m w,Cell.val<|D.lst<|zH bs,Cell.no,Cell.no,Cell.no,Cell.no,Cell.no,Cell.no,Cell.no]=[Cell.no,Cell.val (.lst<|zH bs)]from rfl,M];rfl
 have j : ∀(k s:Nat) (f g a b d:Cell),s+k=m->∃o t u x y,qL (.tp [5,6]) cS ((Ru s k).map λ(k:Nat)=>D.tup [.int k,.str (xu<|gB<|w k)]) (lc p m w bs ((MB s).map (bI w bs)) f g a b d)=dn (.next<|lc p m w bs ((MB m).map (bI w bs)) o t u x y):=by
  intro k
  induction k with
  | zero=>
   intro s f g a b d h;obtain rfl:s=m:=by omega
   exact⟨f,g,a,b,d,rfl⟩
  | succ k K=>
   intro s f g a b d h;obtain⟨O,U,Y,e⟩:=gP (p:=p) (w:=w) L J (show s<m by omega) ((MB s).map (bI w bs)) (by simp;omega) a b d;obtain⟨A,B,C,E,F,l⟩:=K (s+1) (.val<|.int s) (.val<|.str<|xu<|gB<|w s) O U Y ⋯;refine⟨A,B,C,E,F,?_⟩;rw[Pn,Nk,ju];show((cS<|lc p m w bs _ (.val<|.int s) (.val<|.str<|xu<|gB<|w s) a b d).bind _)=_;rw[e];rw[OJ,NR,Ti]at l;exact l
 obtain⟨N,P,O,U,Y,e⟩:=j m 0 .no .no .no .no .no ⋯;rw[<- ON]at e;have H:qb (jW m w)=d7:=I;rw[QD];unfold jk;rw[jg,G];show(zL _ _ _).bind _=_;rw[jg];show(zL _ _<|lc p m w bs [] .no .no .no .no .no).bind _=_;rw[jg,Zj,pW];simp only[lc,qr,MJ,ML,zO,MG,H,if_true,iC];simp only[lc,List.range_zero,RD]at e;rw[e];simp[BR];rfl
end
section
variable{p:Int}{m:Nat}{w:UK}{bs:List (Int×Int)}
def AY(b:List Nat)(x:Nat):D:=D.tup<|b.map λy=>D.int<|if x=y then 1 else 0
theorem af(e b:List Nat):tj e b = .tup [.int e.length,.int b.length,.tup (e.map<|AY b)]:=rfl
theorem iP(b x):deep (AY b x)<=1:=by
 have:ni (b.map λy=>D.int<|if x=y then 1 else 0)<=0:=xU λd a=>by obtain⟨y,_,rfl⟩:=Nb.mp a;simp[deep]
 unfold AY;simp only[deep];omega
theorem iO(e b):deep (tj e b)<=3:=by
 have:ni (e.map<|AY b)<=1:=xU λd a=>by obtain⟨y,_,rfl⟩:=Nb.mp a;exact iP b y
 rw[af];simp only[deep,ni];omega
theorem oz(b x):ix (AY b x)=d7:=by
 unfold AY;simp only[ix];exact yA λd a=>by obtain⟨y,_,rfl⟩:=Nb.mp a;simp[ix]
theorem ot(e b):ix (tj e b)=d7:=by
 rw[af];simp only[ix,o4,RM,Sv];exact yA λd a=>by obtain⟨y,_,rfl⟩:=Nb.mp a;exact oz b y
theorem Eh:lp (BR p m w bs)=d7:=by
 refine XT (n:=6) ?_ ⋯ ?_
 ·have b:ni (qO m bs)<=0:=xU λd a=>by
   unfold qO zD at a;obtain⟨y,_,rfl⟩:=Nb.mp a;simp[deep]
  have e:ni (v7 m w bs)<=4:=xU λd a=>by unfold v7 at a;obtain⟨k,_,rfl⟩:=Nb.mp a;have:=iO (jc bs<|zX w k)<|jc bs<|zJ w k;simp only[deep,ni];omega
  unfold BR;simp only[deep,ni];omega
 ·have b:o4 (qO m bs)=d7:=yA λd a=>by
   unfold qO zD at a;obtain⟨y,_,rfl⟩:=Nb.mp a;simp[ix]
  have e:o4 (v7 m w bs)=d7:=yA λd a=>by unfold v7 at a;obtain⟨k,_,rfl⟩:=Nb.mp a;have O:=ot (jc bs<|zX w k)<|jc bs<|zJ w k;have z:=gy<|w k;simp only[lp,MW]at z;simp only[ix,o4,Sv,MW];have I:=z.2;simp only[ix]at I;exact⟨I,O⟩
  unfold BR;simp[ix,o4,b,e]
end
theorem zo(h:F γ=dn (.next γ'))(g:G γ'=r):zL F G γ=r:=by rw[jg,h];exact g
theorem jl(h:F (z7 n ds)=dn (.ret r)):jk n F ds=dn r:=by show(F<|z7 n ds).bind _=_;rw[h];rfl
theorem Vt{T:Tg}{F:CO Fl}(P:Nat->Ctx->Prop)(n:Nat){γ:Ctx}(O:P 0 γ)(step : ∀s,s<n->∀γ,P s γ->∃γ1 z,ka T (.int (s:Int)) γ=dn γ1/\F γ1=dn (.next z)/\P (s+1) z) :
 ∃γ',qL T F ((MB n).map λ(i:Nat)=>D.int (i:Int)) γ=dn (.next γ')/\P n γ':=by
 have a : ∀(k s:Nat) (γ:Ctx),s+k=n->P s γ->∃γ',qL T F ((Ru s k).map λ(i:Nat)=>D.int (i:Int)) γ=dn (.next γ')/\P n γ':=by
  intro k
  induction k with
  | zero=>
   intro s γ e I;obtain rfl:s=n:=by omega
   exact⟨γ,rfl,I⟩
  | succ k U=>
   intro s γ e I;obtain⟨γ1,z,b,Y,d⟩:=step s ⋯ γ I;obtain⟨γ',f,g⟩:=U (s+1) z ⋯ d;refine⟨γ',?_,g⟩;rw[Pn,Nk,ju,b];simp only[MG,Y];exact f
 have:=a n 0 γ ⋯ O;rw[<- ON]at this;exact this
theorem xK(P:Nat->Ctx->Prop)(n:Nat)(C:n<=lim)(I:f γ=dn (.int (n:Int)))(O:P 0 γ)(step : ∀s,s<n->∀γ,P s γ->∃γ1 z,ka T (.int (s:Int)) γ=dn γ1/\F γ1=dn (.next z)/\P (s+1) z) :
 ∃γ',yN (z6 f) T F γ=dn (.next γ')/\P n γ':=by
 obtain⟨γ',e,U⟩:=Vt P n O step;refine⟨γ',?_,U⟩;have Y:=js;have r:inR (n:Int)=d7:=Vp ⋯ ⋯;rw[Zj,vk,I];simp only[MG,jU,r,if_true,Ou,jX];rw[z5 n λi=>(i:Int)];exact e
end DL
namespace DL
open PySem L2 PySem.W PyProof.Rows
def l0(x y:Int×Int):Prop:=vO y x=eh
theorem wQ(x):l0 x x:=by unfold l0 vO;simp
theorem KN:l0 x y↔x.1<y.1\/(x.1=y.1/\x.2<=y.2):=by
 unfold l0 vO;by_cases h:y.1=x.1
 ·rw[UJ h,decide_eq_false_iff_not];omega
 ·rw[UY h,decide_eq_false_iff_not];omega
theorem gN:vO x y=d7↔x.1<y.1\/(x.1=y.1/\x.2<y.2):=by
 unfold vO;by_cases h:x.1=y.1
 ·rw[UJ h,decide_eq_true_iff];omega
 ·rw[UY h,decide_eq_true_iff];omega
theorem wO(a:l0 x y)(b:l0 y z):l0 x z:=by rw[KN]at *;omega
theorem wR(a:vO x y=d7):l0 x y:=by rw[gN]at a;rw[KN];omega
theorem Eo(a:vO x y=d7)(b:l0 y z):vO x z=d7:=by rw[gN]at *;rw[KN]at b;omega
theorem KO(a:l0 x y)(b:l0 y x):x=y:=by rw[KN]at *;obtain⟨x1,z⟩:=x;obtain⟨I,O⟩:=y;simp only[Prod.mk.injEq]at *;omega
section
variable(key:Nat->Int×Int)
def vA(p:Array Nat)(i:Nat):Int×Int:=key<|p.getD i 0
def kv(i j:Nat):Bool:=vO (key i)<|key j
def r9(p:Array Nat)(n:Nat):Prop:=∀i j,i<=j->j<n->l0 (vA key p i) (vA key p j)
def Dec(p:Array Nat)(n:Nat):Prop:=∀i j,i<=j->j<n->l0 (vA key p j) (vA key p i)
variable{key}
theorem yb(f:α->KasT β) : ∀t:KasT α,ku lt (t.bind f)=ku lt (f<|ku lt t)
 | .ret a=>rfl
 | .ask i j k=>yb f<|k<|lt i j
theorem yu(p:Array Nat)(i j):(kas_rev p i j).size=p.size:=mirror_size _ _ _ _
theorem Gz(p:Array Nat)(i:Nat):vA key p i=key (p[i]?.getD 0):=by unfold vA;rw[Py]
theorem dN(z:j<=p.size)(k:Nat):vA key (kas_rev p i j) k=if i<=k/\k<j then vA key p (i+j - 1 - k)else vA key p k:=by have:=getElem?_mirror_all (xs:=p) (i:=i) z k;unfold vA kas_rev;rw[Py,this];split<;>rw[Py]
theorem JA(I:j<=p.size)(z : ∀k,i<=k->k<j->vA key p k=vA key p (j - 1))(k:Nat):vA key (kas_rev p i j) k=vA key p k:=by
 rw[dN I];split
 ·rename_i h
  rw[z _ ⋯ ⋯,z k h.1 h.2]
 ·rfl
theorem rB(z:k<p.size)(I:l<=k)(i:Nat):vA key (bubble p k<|k - l) i=if i=l then vA key p k else if l<i/\i<=k then vA key p (i - 1)else vA key p i:=by
 have:=getElem?_bubble (xs:=p) z (k - l) ⋯ i;rw[show k - (k - l)=l by omega]at this;simp only[Gz];rw[this];split
 ·rfl
 ·split<;>rfl
theorem ng(C:1<=n)(z:r9 key p n)(h:l0 (vA key p<|n - 1) (vA key p n)):r9 key p (n+1):=λi j I U=>by
 by_cases e:j=n
 ·subst e
  by_cases O:i=j
  ·subst O;exact wQ _
  ·exact wO (z i (j - 1) ⋯ ⋯) h
 ·exact z i j I ⋯
theorem Jm(C:1<=n)(z:Dec key p n)(h:l0 (vA key p n) (vA key p<|n - 1)):Dec key p (n+1):=λi j I U=>by
 by_cases e:j=n
 ·subst e
  by_cases O:i=j
  ·subst O;exact wQ _
  ·exact wO h<|z i (j - 1) ⋯ ⋯
 ·exact z i j I ⋯
theorem lR(p:Array Nat) : ∀(f n:Nat),1<=n->r9 key p n->n<=ku (kv key) (kas_asc p f n)/\ku (kv key) (kas_asc p f n)<=n+f/\r9 key p (ku (kv key)<|kas_asc p f n)/\(ku (kv key) (kas_asc p f n)=n+f\/vO (vA key p<|ku (kv key)<|kas_asc p f n) (vA key p<|ku (kv key) (kas_asc p f n) - 1)=d7)
 | 0,n,hn,hs=>⟨MM _,MM _,hs,.inl rfl⟩
 | f+1,n,hn,hs=>by
  have e:ku (kv key) (kas_asc p (f+1) n)=ku (kv key) (if vO (vA key p n) (vA key p<|n - 1)=d7 then .ret n else kas_asc p f (n+1)):=rfl;rw[e];by_cases c:vO (vA key p n) (vA key p<|n - 1)=d7
  ·rw[UJ c]
   exact⟨MM _,by show n<=n+(f+1);omega,hs,.inr c⟩
  ·rw[UY c]
   obtain⟨O,U,z,I⟩:=lR p f (n+1) ⋯ (ng hn hs<|by unfold l0;simpa using c);exact⟨by omega,by omega,z,I.imp (λh=>by omega) id⟩
noncomputable def G4(key:Nat->Int×Int)(p:Array Nat)(n q:Nat):Prop:=q+1<=n/\∀i,n - (q+1)<=i->i<n->vA key p i=vA key p (n - 1)
theorem WO(p:Array Nat)(C:1<=n):G4 key p n 0:=⟨C,λi a b=>by rw[show i=n - 1 by omega]⟩
theorem K5 : ∀(f:Nat) (p:Array Nat) (n q:Nat),Dec key p n->G4 key p n q->n+f<=p.size->
 ∃p' n' z,ku (kv key) (kas_desc f p n q)=(p',n',z)/\p'.size=p.size/\n<=n'/\n'<=n+f/\Dec key p' n'/\G4 key p' n' z
 | 0,p,n,q,hd,hb,_=>⟨p,n,q,rfl,rfl,MM _,MM _,hd,hb⟩
 | f+1,p,n,q,hd,hb,hs=>by
  have b:1<=n:=by have:=hb.1;omega
  have e:ku (kv key) (kas_desc (f+1) p n q)=ku (kv key) (if vO (vA key p n) (vA key p<|n - 1)=d7 then (if q>0 then kas_desc f (kas_rev p (n - (q+1)) n) (n+1) 0 else kas_desc f p (n+1) 0)
   else .ask (p.getD (n - 1) 0) (p.getD n 0) λd=>if d=d7 then .ret (p,n,q)else kas_desc f p (n+1) (q+1)):=rfl
  rw[e];by_cases c:vO (vA key p n) (vA key p<|n - 1)=d7
  ·rw[UJ c]
   by_cases Y:q>0
   ·rw[UJ Y]
    have k:=JA (key:=key) (p:=p) (i:=n - (q+1)) (j:=n) ⋯ hb.2;have m:Dec key (kas_rev p (n - (q+1)) n) (n+1):=λi j o u=>by rw[k,k];exact Jm b hd (wR c) i j o u
    obtain⟨p',n',z,a,I,g,h,O,U⟩:=K5 f (kas_rev p (n - (q+1)) n) (n+1) 0 m (WO _ ⋯) (by rw[yu];omega);exact⟨p',n',z,a,by rw[I,yu],by omega,by omega,O,U⟩
   ·rw[UY Y]
    obtain⟨p',n',z,a,I,g,h,O,U⟩:=K5 f p (n+1) 0 (Jm b hd<|wR c) (WO _ ⋯) ⋯;exact⟨p',n',z,a,I,by omega,by omega,O,U⟩
  ·rw[UY c]
   have s:ku (kv key) (.ask (p.getD (n - 1) 0) (p.getD n 0) λd=>if d=d7 then .ret (p,n,q)else kas_desc f p (n+1) (q+1))=ku (kv key) (if vO (vA key p<|n - 1) (vA key p n)=d7 then .ret (p,n,q)else kas_desc f p (n+1) (q+1)):=rfl;rw[s];by_cases d:vO (vA key p<|n - 1) (vA key p n)=d7
   ·rw[UJ d]
    exact⟨p,n,q,rfl,rfl,MM _,by omega,hd,hb⟩
   ·rw[UY d]
    have w:l0 (vA key p<|n - 1) (vA key p n):=by unfold l0;simpa using c
    have l:l0 (vA key p n) (vA key p<|n - 1):=by unfold l0;simpa using d
    have eq:=KO w l;have r:G4 key p (n+1) (q+1):=⟨by have:=hb.1;omega,λi x y=>by
     rw[Nat.add_sub_cancel];by_cases t:i=n
     ·rw[t]
     ·rw[hb.2 i ⋯ ⋯,eq]⟩
    obtain⟨p',n',z,a,I,g,h,O,U⟩:=K5 f p (n+1) (q+1) (Jm b hd l) r ⋯;exact⟨p',n',z,a,I,by omega,by omega,O,U⟩
noncomputable def mz(key:Nat->Int×Int)(C nrem:Nat)(r:Nat×Array Nat):Prop:=1<=r.1/\r.1<=nrem/\r.2.size=C/\r9 key r.2 r.1
theorem ae(J:1<=n)(O:n<=nrem)(U:nrem<=p.size)(C:Dec key p n):mz key p.size nrem (ku (kv key)<|kas_tail3 n nrem p):=by
 have z:r9 key (kas_rev p 0 n) n:=λi j Y d=>by rw[dN ⋯,dN ⋯,UJ ⟨by omega,by omega⟩,UJ ⟨by omega,by omega⟩];exact C _ _ ⋯ ⋯
 obtain⟨a,b,I,_⟩:=lR (kas_rev p 0 n) (nrem - n) n J z;unfold kas_tail3;rw[yb];exact⟨by show 1<=ku _ _;omega,by show ku _ _<=nrem;omega,yu _ _ _,I⟩
theorem gk(J:1<=n)(L:n<nrem)(S:nrem<=p.size)(O : ∀i,i<n->vA key p i=vA key p (n - 1))(C:vO (vA key p n) (vA key p<|n - 1)=d7):mz key p.size nrem (ku (kv key)<|kas_descPart n nrem p):=by
 have h:Dec key p n:=λi j U I=>by rw[O i ⋯,O j I];exact wQ _
 obtain⟨b,a,z,f,Y,k,l,d,g⟩:=K5 (nrem - (n+1)) p (n+1) 0 (Jm J h<|wR C) (WO _ ⋯) ⋯;unfold kas_descPart;rw[yb,f];show mz key p.size nrem (ku (kv key)<|if z>0 then kas_tail3 a nrem (kas_rev b (a - (z+1)) a)else kas_tail3 a nrem b);split
 ·have e:=JA (key:=key) (p:=b) (i:=a - (z+1)) (j:=a) ⋯ g.2
  have:=ae (p:=kas_rev b (a - (z+1)) a) (n:=a) (nrem:=nrem) ⋯ ⋯ (by rw[yu];omega) (λi j U I=>by rw[e,e];exact d i j U I);rw[yu,Y]at this;exact this
 ·have:=ae (p:=b) (n:=a) (nrem:=nrem) ⋯ ⋯ ⋯ d
  rw[Y]at this;exact this
theorem pD(J:1<=nrem)(C:nrem<=p.size):mz key p.size nrem (ku (kv key)<|kas_count nrem p):=by
 have f:r9 key p 1:=λi j m r=>by rw[show i=j by omega];exact wQ _
 obtain⟨z,d,I,U⟩:=lR p (nrem - 1) 1 (MM _) f;unfold kas_count;rw[yb];generalize ku (kv key) (kas_asc p (nrem - 1) 1)=n at z d I U;show mz key p.size nrem (ku (kv key)<|if (n==nrem)=d7 then .ret (n,p)else if n>1 then .ask (p.getD 0 0) (p.getD (n - 1) 0) λc=>if c=d7 then .ret (n,p)else kas_descPart n nrem (kas_rev p 0 n)else kas_descPart n nrem p);split
 ·rename_i h
  have:=eq_of_beq h;exact⟨z,by show n<=nrem;omega,rfl,I⟩
 ·rename_i h
  have o:n≠nrem:=λe=>h (by rw[e];exact beq_self_eq_true _);have Y:vO (vA key p n) (vA key p<|n - 1)=d7:=U.resolve_left ⋯;split
  ·have e:ku (kv key) (.ask (p.getD 0 0) (p.getD (n - 1) 0) λc=>if c=d7 then .ret (n,p)else kas_descPart n nrem (kas_rev p 0 n))=ku (kv key) (if vO (vA key p 0) (vA key p<|n - 1)=d7 then .ret (n,p)else kas_descPart n nrem (kas_rev p 0 n)):=rfl
   rw[e];split
   ·exact⟨z,by show n<=nrem;omega,rfl,I⟩
   ·rename_i c
    have l:l0 (vA key p<|n - 1) (vA key p 0):=by unfold l0;simpa using c
    have b : ∀i,i<n->vA key p i=vA key p (n - 1):=λi a=>KO (I i (n - 1) ⋯ ⋯)<|wO l<|I 0 i ⋯ a;have O:=JA (key:=key) (p:=p) (i:=0) (j:=n) ⋯<|λk _ g=>b k g;have:=gk (key:=key) (p:=kas_rev p 0 n) (n:=n) (nrem:=nrem) z ⋯ (by rw[yu];omega) (λi a=>by rw[O,O];exact b i a) (by rw[O,O];exact Y);rw[yu]at this;exact this
  ·exact gk z ⋯ C (λi a=>by rw[show i=n - 1 by omega]) Y
theorem KB(I:r9 key p k) : ∀(f l r:Nat),l<=r->r<=k->r - l<=f->(∀i,i<l->l0 (vA key p i) (vA key p k))->(∀i,r<=i->i<k->vO (vA key p k) (vA key p i)=d7)->
 ku (kv key) (kas_place p k f l r)<=k/\(∀i,i<ku (kv key) (kas_place p k f l r)->l0 (vA key p i) (vA key p k))/\∀i,ku (kv key) (kas_place p k f l r)<=i->i<k->vO (vA key p k) (vA key p i)=d7
 | 0,l,r,h1,h2,h3,h4,h5=>⟨by show l<=k;omega,h4,λi a z=>h5 i (by have:l<=i:=a;omega) z⟩
 | f+1,l,r,h1,h2,h3,h4,h5=>by
  have e:ku (kv key) (kas_place p k (f+1) l r)=ku (kv key) (if l>=r then .ret l else .ask (p.getD k 0) (p.getD ((l+r)/2) 0) λc=>if c=d7 then kas_place p k f l ((l+r)/2)else kas_place p k f ((l+r)/2+1) r):=rfl;rw[e];by_cases O:l>=r
  ·rw[UJ O]
   exact⟨by show l<=k;omega,h4,λi a z=>h5 i (by have:l<=i:=a;omega) z⟩
  ·rw[UY O]
   have U:ku (kv key) (.ask (p.getD k 0) (p.getD ((l+r)/2) 0) λc=>if c=d7 then kas_place p k f l ((l+r)/2)else kas_place p k f ((l+r)/2+1) r)=ku (kv key) (if vO (vA key p k) (vA key p<|(l+r)/2)=d7 then kas_place p k f l ((l+r)/2)else kas_place p k f ((l+r)/2+1) r):=rfl;rw[U];by_cases c:vO (vA key p k) (vA key p<|(l+r)/2)=d7
   ·rw[UJ c]
    exact KB I f l ((l+r)/2) ⋯ ⋯ ⋯ h4 λi a z=>Eo c<|I _ _ a z
   ·rw[UY c]
    have b:l0 (vA key p<|(l+r)/2) (vA key p k):=by unfold l0;simpa using c
    exact KB I f ((l+r)/2+1) r ⋯ h2 ⋯ (λi a=>wO (I i ((l+r)/2) ⋯ ⋯) b) h5
theorem Cq(O:k<p.size)(U:l<=k)(I:r9 key p k)(C : ∀i,i<l->l0 (vA key p i) (vA key p k))(h2 : ∀i,l<=i->i<k->vO (vA key p k) (vA key p i)=d7):r9 key (bubble p k<|k - l) (k+1):=λi j d e=>by
 rw[rB O U,rB O U];by_cases b:i=l
 ·subst b
  rw[UJ rfl];by_cases z:j=i
  ·rw[UJ z];exact wQ _
  ·rw[UY z,UJ ⟨by omega,by omega⟩]
   exact wR<|h2 _ ⋯ ⋯
 ·rw[UY b]
  by_cases Y:l<i/\i<=k
  ·rw[UJ Y,UY (show ¬j=l by omega),UJ ⟨by omega,by omega⟩]
   exact I _ _ ⋯ ⋯
  ·rw[UY Y]
   by_cases z:j=l
   ·rw[UJ z];exact C i ⋯
   ·rw[UY z]
    by_cases a:l<j/\j<=k
    ·rw[UJ a];exact I _ _ ⋯ ⋯
    ·rw[UY a];exact I _ _ d ⋯
theorem sr : ∀(f:Nat) (p:Array Nat) (k n:Nat),k+f=n->p.size=n->r9 key p k->r9 key (ku (kv key)<|kas_bin f p k) n/\(ku (kv key)<|kas_bin f p k).size=n
 | 0,p,k,n,h1,h2,hs=>by
  obtain rfl:k=n:=by omega
  exact⟨hs,h2⟩
 | f+1,p,k,n,h1,h2,hs=>by obtain⟨z,I,O⟩:=KB hs k 0 k ⋯ (MM _) ⋯ (λi a=>by omega) (λi U Y=>by omega);unfold kas_bin;rw[yb];exact sr f _ (k+1) n ⋯ (by rw[bubble_size];exact h2)<|Cq ⋯ z hs I O
theorem tH(C:1<=n):r9 key (ku (kv key)<|kas_sort n) n/\(ku (kv key)<|kas_sort n).size=n:=by
 have a:(PB<|MB n).size=n:=by simp
 obtain⟨I,O,U,z⟩:=pD (key:=key) (p:=PB<|MB n) (nrem:=n) C ⋯;unfold kas_sort;rw[yb];generalize ku (kv key) (kas_count n<|PB<|MB n)=r at I O U z;show r9 key (ku (kv key)<|if r.1<n then kas_bin (n - max r.1 1) r.2 (max r.1 1)else .ret r.2) n/\(ku (kv key)<|if r.1<n then kas_bin (n - max r.1 1) r.2 (max r.1 1)else .ret r.2).size=n;rw[show max r.1 1=r.1 by omega];split
 ·exact sr (n - r.1) r.2 r.1 n ⋯ ⋯ z
 ·have:r.1=n:=by omega
  rw[this]at z;exact⟨z,by show r.2.size=n;omega⟩
end
theorem ZJ(bs:List (Int×Int)):(kQ bs).Pairwise l0:=by
 unfold kQ qu;by_cases h:bs.length<2
 ·rw[UJ h]
  rcases bs with _ | ⟨a,_ | ⟨b,bs⟩⟩
  ·exact PK.nil
  ·exact List.pairwise_singleton _ _
  ·simp only[MY]at h;omega
 ·rw[UY h]
  obtain⟨f,g⟩:=tH (key:=λi=>bs.getD i (0,0)) (n:=bs.length) ⋯;have e:(ku (λi j=>vO (bs.getD i (0,0))<|bs.getD j (0,0))<|kas_sort bs.length)=ku (kv λi=>bs.getD i (0,0)) (kas_sort bs.length):=rfl;rw[e];generalize ku (kv λi=>bs.getD i (0,0)) (kas_sort bs.length)=p at f g;rw[OZ];intro i j d z I;simp only[Nf,Oo]at d z;have:=f i j ⋯ ⋯;unfold vA at this;simp only[Py,Array.getElem?_eq_getElem d,Array.getElem?_eq_getElem z,RB]at this;simpa using this
theorem JI : ∀{a b:List (Int×Int)},a.Perm b->a.Pairwise l0->b.Pairwise l0->a=b
 | [],b,h,_,_=>by rw[h.nil_eq]
 | x::a,[],h,_,_=>by have:=h.length_eq;simp at this
 | x::a,y::b,h,ha,hb=>by
  have d:x∈y::b:=h.mem_iff.mp MX;have I:y∈x::a:=h.mem_iff.mpr MX;have e:x=y:=by
   rcases MS.mp d with e | e
   ·exact e
   ·rcases MS.mp I with z | z
    ·exact z.symm
    ·exact KO (List.rel_of_pairwise_cons ha z)<|List.rel_of_pairwise_cons hb e
  subst e;rw[JI (List.Perm.cons_inv h) ha.of_cons hb.of_cons]
theorem JK(h:a.Perm b):kQ a=kQ b:=
 JI ((kD a).trans (h.trans (kD b).symm)) (ZJ a) (ZJ b)
end DL
namespace DL
open PySem L2
section
variable{p:Int}
def iM(h w:Nat)(f:UV):List D:=(MB h).map λi=>D.lst<|zD w<|f i
@[simp] theorem EN(h w f):(iM h w f).length=h:=by simp[iM]
end
@[simp] theorem Bc(h w f):(iM h w f).length=h:=by simp[iM]
section
variable{p:Int}{h w q r:Nat}
def app(f:UV)(w:Nat)(v:Vc):Vc:=λi=>zg (λj=>f i j*v j) w
theorem WU(z : ∀j,j<w->v j%p=(u j+c*g j)%p)(i:Nat):app f w v i%p=(app f w u i+c*app f w g i)%p:=by
 unfold app;have e:zg (λj=>f i j*v j) w%p=zg (λj=>f i j*u j+c*(f i j*g j)) w%p:=zQ λj I=>by rw[MO,z j I,<- MO,Rf,PN]
 rw[e,jH,jK]
theorem Ju(z : ∀j,j<w->v j%p=0)(i:Nat):app f w v i%p=0:=by
 unfold app;have:zg (λj=>f i j*v j) w%p=zg (λ_=>0) w%p:=zQ λj I=>by rw[MO,z j I];simp
 rw[this,zR];rfl
theorem jV(z : ∀j,j<w->v j%p=u j%p)(i:Nat):app f w v i%p=app f w u i%p:=by unfold app;exact zQ λj I=>by rw[MO,z j I,<- MO]
theorem bU(O:h7 p (h+w) r B l)(L:s<=r)(J : ∀k,k<s->l k<h)(C : ∀k,s<=k->k<r->h<=l k) :
 h7 p w (r - s) (λk j=>B (s+k)<|h+j) (λk=>l (s+k) - h)/\∀v,Span p w (eF (r - s) λk j=>B (s+k)<|h+j) v↔Span p (h+w) (eF r B) (qN h (λ_=>0) v):=by
 refine⟨{
  lt:=λk I=>by have:=O.lt (s+k) ⋯;have:=C (s+k) ⋯ ⋯;omega
  mono:=λk m I t=>by have:=O.mono (s+k) (s+m) ⋯ ⋯;have:=C (s+k) ⋯ ⋯;omega
  one:=λk I=>by have:=C (s+k) ⋯ ⋯;rw[show h+(l (s+k) - h)=l (s+k)by omega];exact O.one _ ⋯
  l6:=λk j I o=>O.l6 _ _ ⋯ ⋯
  pb:=λk m I t A=>by have:=C (s+m) ⋯ ⋯;rw[show h+(l (s+m) - h)=l (s+m)by omega];exact O.pb _ _ ⋯ ⋯ ⋯
  ly:=λk i I a=>O.ly _ _ ⋯ ⋯},λv=>⟨λU=>?_,λU=>?_⟩⟩
 ·induction U with
  | @zero v x=>
   refine .zero λi a=>?_;rcases Nc i h with z | z
   ·rw[jo z];simp
   ·obtain⟨k,rfl⟩ : ∃k,i=h+k:=⟨i - h,by omega⟩
    rw[jC];exact x k ⋯
  | @step v u g c n E f Y=>
   obtain⟨k,I,rfl⟩:=n;refine .step (g:=B<|s+k) (c:=c) ⟨s+k,by omega,rfl⟩ Y λi a=>?_;rcases Nc i h with z | z
   ·rw[jo z,jo z,O.l6 (s+k) i ⋯ (by have:=C (s+k) ⋯ ⋯;omega)];simp
   ·obtain⟨j,rfl⟩ : ∃k,i=h+k:=⟨i - h,by omega⟩
    rw[jC,jC];exact f j ⋯
 ·have b:=ZX O U
  refine(Span.sum (u:=λk j=>B (s+k)<|h+j) (λk=>qN h (λ_=>0) v<|l<|s+k) (m:=r - s) λk I=> .gen ⟨k,I,rfl⟩).congr λj o=>?_;have:=b (h+j) ⋯;rw[jC]at this;rw[this];obtain⟨d,rfl⟩ : ∃d,r=s+d:=⟨r - s,by omega⟩;rw[NF];have y : ∀(F:Nat->Int) (d:Nat),(∀k,k<s->F k=0)->zg F (s+d)=zg (λk=>F<|s+k) d:=by
   intro F d e
   induction d with
   | zero=>
    show zg F s=0;rw[zw (g:=λ_=>0) e,zR]
   | succ d Y=>rw[<- Sx];simp only[zg];rw[Y]
  rw[y _ d λk I=>by rw[jo (J k I)];simp]
end
section
variable{p:Int}{h w q:Nat}
noncomputable def xo(h w:Nat)(f:UV)(g:Nat->Vc):Nat->Vc:=λm=>if m<w then qN h (λi=>f i m) (qg m)else qN h (g<|m - w) (λ_=>0)
theorem iK(f:UV)(g:Nat->Vc):zZ w (h+w) (λj=>qN h (λi=>f i j)<|qg j)++zZ q (h+w) (λk=>qN h (g k) λ_=>0)=zZ (w+q) (h+w) (xo h w f g):=by
 unfold zZ;rw[RA,NR,Nm];congr 1
 ·refine MQ λm a=>?_
  unfold xo;rw[UJ (MD.mp a)]
 ·refine MQ λm a=>?_
  simp only[SR];unfold xo;rw[UY ⋯,NF]
theorem Zg(f:UV)(z:j<w)(i:Nat):app f w (qg j) i=f i j:=by unfold app;rw[zV (f:=λk=>f i k*qg j k) z λk _ I=>by simp[qg,Ny I]];simp[qg]
theorem gp(I:Span p (h+w) (eF (w+q)<|xo h w f g) z):Span p h (eF q g) λi=>z i - app f w (λj=>z<|h+j) i:=by
 induction I with
 | @zero z I=>
  refine .zero λi a=>?_;rw[OL,I i ⋯,Ju (p:=p) (λj l=>I (h+j) ⋯) i];simp
 | @step z u n c k r Y d=>
  obtain⟨m,o,rfl⟩:=k;have e:=λi=>WU (p:=p) (w:=w) (f:=f) (u:=λj=>u<|h+j) (g:=λj=>xo h w f g m<|h+j) (v:=λj=>z<|h+j) (c:=c) (λj l=>Y (h+j) ⋯) i;have b : ∀i,i<h->(z i - app f w (λj=>z<|h+j) i)%p=((u i - app f w (λj=>u<|h+j) i)+c*(xo h w f g m i - app f w (λj=>xo h w f g m<|h+j) i))%p:=λi a=>by rw[OL,Y i ⋯,e i,<- OL];congr 1;rw[Int.mul_sub];omega
  rcases Nc m w with O | O
  ·refine d.congr λi a=>?_
   rw[b i a];have t:app f w (λj=>xo h w f g m<|h+j) i=f i m:=by
    have:(λj=>xo h w f g m<|h+j)=qg m:=by funext j;unfold xo;rw[UJ O,jC]
    rw[this,Zg f O]
   have U:xo h w f g m i=f i m:=by unfold xo;rw[UJ O,jo a]
   rw[t,U];simp
  ·refine .step (g:=g<|m - w) (c:=c) ⟨m - w,by omega,rfl⟩ d λi a=>?_
   rw[b i a];have t:app f w (λj=>xo h w f g m<|h+j) i=0:=by
    have:(λj=>xo h w f g m<|h+j)=λ_=>0:=by funext j;unfold xo;rw[UY ⋯,jC]
    rw[this];unfold app;simp[zR]
   have U:xo h w f g m i=g (m - w) i:=by unfold xo;rw[UY ⋯,jo a]
   rw[t,U];simp
theorem Am(I:Span p h (eF q g) y):Span p (h+w) (eF (w+q)<|xo h w f g) (qN h y λ_=>0):=by
 induction I with
 | @zero y O=>
  refine .zero λi a=>?_;rcases Nc i h with z | z
  ·rw[jo z];exact O i z
  ·obtain⟨k,rfl⟩ : ∃k,i=h+k:=⟨i - h,by omega⟩
   rw[jC];simp
 | @step y u d c U m Y b=>
  obtain⟨k,l,rfl⟩:=U;refine .step (g:=xo h w f g<|w+k) (c:=c) ⟨w+k,by omega,rfl⟩ b λi a=>?_;have e:xo h w f g (w+k)=qN h (g k) λ_=>0:=by unfold xo;rw[UY ⋯,NF]
  rw[e];rcases Nc i h with z | z
  ·rw[jo z,jo z,jo z];exact Y i z
  ·obtain⟨j,rfl⟩ : ∃k,i=h+k:=⟨i - h,by omega⟩
   rw[jC,jC,jC];simp
theorem Yi(hp:Pr p)(hh:h<=20)(hw:w<=20)(hq:q<=100)(f:UV)(g:Nat->Vc) :
 ∃r B l,xO [.int p,jf h w f,.lst (zZ q h g)]=dn (.own<|zZ r w B)/\h7 p w r B l/\∀v,Span p w (eF r B) v↔Span p h (eF q g) (app f w v):=by
 have hl:=js;have S:h<=lim:=by omega
 have I:w<=lim:=by omega
 have U:h+w<=lim:=by omega
 have W:q<=lim:=by omega
 have Y:w+q<=lim:=by omega
 obtain⟨r,B,l,e,O,F⟩:=kg hp (show h+w<=100 by omega) Y .L<|xo h w f g;have X:r<=h+w:=Wl O.mono O.lt;obtain⟨s,t,A,C⟩:=Je h O.mono;have K:=Xl O ⋯ t A C;obtain⟨H,Q⟩:=bU O t A C;refine⟨r - s,_,_,?_,H,λv=>(Q v).trans ((F _).trans ⟨λx=>?_,λx=>?_⟩)⟩
 ·have y:=Zl f S I
  have E:=vn (n:=w) I;have d:zT (.tp [0,1]) jd (zG qo (zc 0)<|zc 1) [Cell.no,Cell.no] ((MB w).map λj=>D.tup [.tup (zD h λi=>f i j),.tup (zD w λk=>if j=k then 1 else 0)])=dn (zZ w (h+w) λj=>qN h (λi=>f i j)<|qg j):=by unfold zZ;refine zv _ _ λj o=>zx rfl rfl ?_;simp[qo,U,vE];rfl
  have R:ZR (zZ w h λi j=>f j i) (zZ w w λi j=>if i=j then 1 else 0)=(MB w).map λj=>D.tup [.tup (zD h λi=>f i j),.tup (zD w λk=>if j=k then 1 else 0)]:=by unfold ZR zZ;rw[OP];simp
  have J:inR (w:Int)=d7:=ZC I;have zr:yG (.tup [.int 0]) (.int w)=dn (.tup<|zD w λ_=>0):=by
   show(if [D.int 0].length*(w:Int).toNat<=lim/\inR (w:Int)=d7 then dn (D.tup (MH (w:Int).toNat [D.int 0]).flatten)else ed)=_;rw[UJ ⟨by simpa using I,J⟩];congr 2;rw[Ou];clear d R E y K H Q F O e J Y U I hw hq A C t X
   induction w with
   | zero=>rfl
   | succ w ih=>rw[List.replicate_succ',List.flatten_append,ih];unfold zD;rw[OJ,NR];rfl
  have M:zT (.nm 0) jd (zG qo (zc 0)<|zG yG (qA<|zb (zq<|.int 0) zB)<|eg (ze 1)<|zq<|.int 1) [Cell.no,Cell.val (jf h w f)] (zZ q h g)=dn (zZ q (h+w) λk=>qN h (g k) λ_=>0):=by unfold zZ;refine zv _ _ λk P=>zx rfl rfl ?_;have sq:jq (jf h w f)=dn (.T,[.int h,.int w,.tup (zZ h w f)]):=rfl;simp[sq,zr,qo,U,vE]
  have c1:((h:Int)+(w:Int))=((h+w:Nat):Int):=by omega
  simp only[ri]at e;rw[<- c1,<- iK]at e;have sq:jq (jf h w f)=dn (.T,[.int h,.int w,.tup (zZ h w f)]):=rfl;unfold jf at y E M ⊢;simp[xO,jk,z7,jg,y,E,R,I,W,Y,ja,kK,MH,d,M,e,K]
 ·have:=gp x
  refine(this.smul (-1)).congr λi N=>?_;congr 1;show app f w v i = -1*(qN h (λ_=>0) v i - app f w (λj=>qN h (λ_=>0) v<|h+j) i);rw[jo N,show(λj=>qN h (λ_=>0) v<|h+j)=v from funext λj=>jC j];omega
 ·have a:=Span.sum (p:=p) (n:=h+w) (G:=eF (w+q)<|xo h w f g) (u:=λj=>xo h w f g j) v (m:=w) λj o=> .gen ⟨j,by omega,rfl⟩
  have b:=Am (w:=w) (f:=f) x;refine(b.add a (-1)).congr λi N=>?_;congr 1;rcases Nc i h with z | z
  ·rw[jo z,jo z]
   have:zg (λk=>v k*xo h w f g k i) w=app f w v i:=by unfold app;exact zw λk P=>by unfold xo;rw[UJ P,jo z,NX]
   rw[this];omega
  ·obtain⟨k,rfl⟩ : ∃k,i=h+k:=⟨i - h,by omega⟩
   rw[jC,jC];have:zg (λj=>v j*xo h w f g j (h+k)) w=v k:=by rw[zV (f:=λj=>v j*xo h w f g j (h+k)) (i:=k) ⋯ λj o Z=>by unfold xo;rw[UJ o,jC];simp[qg,Z]];unfold xo;rw[UJ (show k<w by omega),jC];simp[qg]
   rw[this];simp
end
noncomputable def lJ(h w:Nat)(f g:UV)(i:Nat):Vc:=if i<h then qN w (f i) (λ_=>0)else qN w (λ_=>0) (g<|i - h)
theorem ph(h h' w:Nat)(f g F:UV)(C : ∀i j,i<h->j<w->F i j=f i j)(I : ∀i j,i<h'->j<w->F (h+i) j=g i j):zZ h w f++zZ h' w g=zZ (h+h') w F:=by
 unfold zZ;rw[RA,NR,Nm];congr 1
 ·exact MQ λi a=>by rw[qZ λj z=>(C i j (MD.mp a) z).symm]
 ·exact MQ λi a=>by simp only[SR];rw[qZ λj z=>(I i j (MD.mp a) z).symm]
theorem uQ(n:Nat):(MH n [D.int 0]).flatten=zD n λ_=>0:=by
 induction n with
 | zero=>rfl
 | succ n z=>
  rw[OH,Pf,z];unfold zD;rw[<- y6,<- y6];rfl
section
variable{p p':Int}{m m':Nat}{w w':UK}{wd wd':UX}{T T':UW}
noncomputable def Gi(p:Int)(m:Nat)(w:UK)(wd wd':UX)(T T':UW):D:=z9 p m w (λk=>wd k+wd' k) λk=>lJ (fy w wd k) (fA w wd k) (T k)<|T' k
theorem lH:zg (λk=>(wd k:Int)+(wd' k:Int)) (m+1)=zg (λk=>(wd k:Int)) (m+1)+zg (λk=>(wd' k:Int)) (m+1):=by rw[jH]
theorem VM(C:m<=900):xW [z9 p m w wd T,z9 p m w wd' T']=ed/\j8 [z9 p m w wd T,z9 p m w wd' T']=dn (.val .ft):=by
 have z:=Yg (p:=p) (p':=p) (w:=w) (w':=w) (wd:=wd) (wd':=wd') (T:=T) (T':=T') C C;rw[decide_eq_true ⟨rfl,rfl,λ_ _=>rfl⟩]at z;constructor
 ·simp[xW,fz,z7,Fx,Dk,sC,Dl,z,MH]
 ·simp[j8,jk,z7,z,MH]
end
@[simp] def Gv:=@BM.eq_1
section
variable{p:Int}{m:Nat}{w:UK}{wd:UX}{T:UW}{a:Nat}
theorem wj(F:Nat->Int)(s:Nat) : ∀d,zg F (s+d)=zg F s+zg (λk=>F<|s+k) d
 | 0=>by simp[zg]
 | d+1=>by rw[<- Sx];simp only[zg];rw[wj F s d];omega
abbrev lk(p:Int)(m:Nat)(w:UK)(wd:UX)(T:UW)(i j:Int)(a:Nat)(ds:List D)(c:Cell):Ctx:=[.val (z9 p m w wd T),.val (.int i),.val (.int j),.val (jf a a λi j=>if i=j then 1 else 0),.own ds,c]
end
@[simp] def Fj:=@GQ.eq_1
section
variable{p:Int}{m:Nat}{w:UK}{wd:UX}{T:UW}
theorem yY:jq (z9 p m w wd T)=dn (.T,[.int p,.tup<|zD (m+1) λk=>(wd k:Int),.tup (jD m w wd T)]):=rfl
end
@[simp] theorem Fk(γ:Ctx)(f):fu f γ=(f γ).bind λd=>match d with
 | .str z=>if qb z=d7 then dn (xG<|XI z)else ed
 | _=>ed:=rfl
@[simp] theorem Gu(γ:Ctx)(f g):GR f g γ=(f γ).bind λd=>(g γ).bind λe=>match d,e with
 | .str x,.str y=>if qb x=d7/\qb y=d7 then dn (.str<|x++y)else ed
 | _,_=>ed:=rfl
def pr(a b:Nat):D:= .tup [.int a,.int b]
@[simp] theorem IL(a b):jq (pr a b)=dn (.T,[.int (a:Int),.int (b:Int)]):=rfl
theorem KM(a c:Nat):(if a<c then (c:Int)else (a:Int))=((max a c:Nat):Int):=by
 by_cases h:c>a
 ·rw[UJ h,Nat.max_eq_right ⋯]
 ·rw[UY h,Nat.max_eq_left ⋯]
theorem KL(a c:Nat):(if c<a then (c:Int)else (a:Int))=((min a c:Nat):Int):=by
 by_cases h:c<a
 ·rw[UJ h,Nat.min_eq_right ⋯]
 ·rw[UY h,O4 ⋯]
def u7(w:UK)(a c:Nat):Bool:=decide (a=c) || (w (max a c - 1)==decide (a<c))
def vl(w:UK)(b d:Nat):Bool:=decide (b=d) || (w (min b d)==decide (b<d))
section
variable{m a b c d:Nat}{w:UK}
theorem mx(J:m<=5)(C:a<=m)(I:c<=m):ke [.str (jW m w),pr a b,pr c d]=dn (.val<|.bl<|u7 w a c):=by
 by_cases q:a=c
 ·subst q
  simp[ke,jk,z7,jg,u7]
 ·have z : ¬((a:Int)=(c:Int)):=by omega
  have e:ya (zc 0) (zG QV (cg (eg (ze 1)<|zq<|.int 0)<|eg (ze 2)<|zq<|.int 0)<|zq<|.int 1) [Cell.val (.str<|jW m w),Cell.val<|pr a b,Cell.val (pr c d)]=dn (.str<|xu<|gB<|w<|max a c - 1):=by refine wq w ⋯ ⋯ _ _ _ rfl ?_;simp[KM];omega
  simp only[ke,jk,z7,jg,MH,MY,Nj];simp[-Zh,z,e];by_cases l:a<c
  ·have f:(a:Int)<c:=by omega
   simp[l,bo,u7,q]
  ·simp[l,KY,u7,q]
theorem dB(J:m<=5)(C:b<=m)(I:d<=m):xB [.str (jW m w),pr a b,pr c d]=dn (.val<|.bl<|vl w b d):=by
 by_cases q:b=d
 ·subst q
  simp[xB,jk,z7,jg,vl]
 ·have z : ¬((b:Int)=(d:Int)):=by omega
  have f:ya (zc 0) (V1 (eg (ze 1)<|zq<|.int 1)<|eg (ze 2)<|zq<|.int 1) [Cell.val (.str<|jW m w),Cell.val<|pr a b,Cell.val (pr c d)]=dn (.str<|xu<|gB<|w<|min b d):=by refine wq w ⋯ ⋯ _ _ _ rfl ?_;simp[KL]
  simp only[xB,jk,z7,jg,MH,MY,Nj];simp[-Zh,z,f];by_cases l:d<b
  ·have e : ¬b<d:=by omega
   simp[l,e,KY,vl,q]
  ·have e:b<d:=by omega
   simp[l,e,bo,vl,q]
noncomputable def A8(w:UK)(a b c d:Nat):Bool:=decide (max a c<=min b d) && (u7 w a c && vl w b d)
theorem Yj(C:m<=5)(J:a<=m)(I:b<=m)(O:c<=m)(L:d<=m):kF [.str (jW m w),pr a b,pr c d]=dn (.val<|.int<|if A8 w a b c d=d7 then 1 else 0):=by
 have e:=mx (b:=b) (d:=d) (w:=w) C J O;have U:=dB (a:=a) (c:=c) (w:=w) C I L;simp only[kF,jk,z7,jg,MH,MY,Nj];by_cases q:max a c<=min b d
 ·have z : ¬((min b d:Nat):Int)<((max a c:Nat):Int):=by omega
  simp[KM,KL,z,e,A8,q];cases h1:u7 w a c
  ·simp[h1]
  ·simp[h1,U]
   cases h2:vl w b d<;>simp[h2]
 ·have z:((min b d:Nat):Int)<((max a c:Nat):Int):=by omega
  simp[KM,KL,z,A8,q]
theorem yL(C:m<=5){k:Nat}(z:k<m):qi [.str (jW m w),.int k]=dn (.val<|.tup [.int ((zJ w k:Nat):Int),.int ((zX w k:Nat):Int)]):=by have a:ya (zc 0) (zc 1) [Cell.val (.str<|jW m w),Cell.val (.int k)]=dn (.str<|xu<|gB<|w k):=wq w ⋯ z _ _ _ rfl rfl;simp only[qi,jk,z7,jg,MH,MY,Nj];simp[-Zh,a,KY];cases h:w k<;>simp[h,zJ,zX]
end
def mk(lo:Nat)(ch:List Int)(r:Nat):Int:=if lo<=r then ch.getD (r - lo) 0 else 0
def T9:=jy 4<|j3<|qG<|zb (j3<|qG zB) zB
theorem JG{C:List Int}(J:C.length<=63){r n:Nat}{t:Int}(ht:0<=t)(S:t<1000)(L:0<r)(Z:r<=6)(am:n<=60) : ∃bs,qK [XB C,.int t,.int n,.int r]=dn (.own<|zH bs)/\(∀b∈bs,ZN r b)/\bs.length=n:=by
 have H:=js;have l:n<=lim:=by omega
 have g : ∀(k s:Nat) (acc:List (Int×Int)) (a d f:Cell),s+k=n->acc.length=s->(∀b∈acc,ZN r b)->∃bs I O U,
  qL (.nm 5) (zL (jy 6<|zA jO<|zb (zc 0)<|zb (zG qo (zc 1)<|zc 5) zB)<|zL (jy 7<|zG yh (zc 6)<|zc 3)<|qe 4<|qA<|zb (zc 7)<|zb (zG qo (zc 7)<|zG yh (zG K6 (zc 6)<|zc 3)<|zG QV (zc 3)<|zc 7) zB) ((Ru s k).map λ(i:Nat)=>D.int i)
   [.val (XB C),.val<|.int t,.val<|.int n,.val<|.int r,.own<|zH acc,a,d,f]=dn (.next [.val (XB C),.val<|.int t,.val<|.int n,.val<|.int r,.own<|zH bs,I,O,U])/\(∀b∈bs,ZN r b)/\bs.length=n:=by
  intro k
  induction k with
  | zero=>intro s acc a d f x j Y;exact⟨acc,a,d,f,rfl,Y,by omega⟩
  | succ k y=>
   intro s acc a d f x j Y;obtain⟨w,F,G⟩:=WL J (k:=t+(s:Int)) ⋯ ⋯;have m:=NG (yi C<|t+(s:Int)) (show(r:Int)≠0 by omega);have o:=Nr (yi C<|t+(s:Int)) (show(0:Int)<r by omega);have as:=NG (yi C (t+(s:Int))/r) (show(r:Int) - yi C (t+(s:Int))%r≠0 by omega);have E:=Nr (yi C (t+(s:Int))/r) (show(0:Int)<(r:Int) - yi C (t+(s:Int))%r by omega);obtain⟨bs,I,O,U,h,g1,g2⟩:=y (s+1) (acc++[(yi C (t+(s:Int))%r,yi C (t+(s:Int))%r+yi C (t+(s:Int))/r%((r:Int) - yi C (t+(s:Int))%r))]) (.val<|.int s) (.val<|.int<|yi C<|t+(s:Int)) (.val<|.int<|yi C (t+(s:Int))%r) ⋯ (by simp[j]) (λb z=>by
    rcases OS.mp z with z | z
    ·exact Y b z
    ·have e:b=_:=OD.mp z
     subst e;exact⟨m,by show _<=_+_;omega,by show _+_<_;omega⟩)
   refine⟨bs,I,O,U,?_,g1,g2⟩;rw[<- h,Pn,Nk,ju];have p:acc.length<lim:=by omega
   have B:(0:Int)<r:=by omega
   have K:(0:Int)<(r:Int) - yi C (t+(s:Int))%r:=by omega
   have A:(r:Int)<1073741824:=by omega
   simp[jg,w,B,L,o,p,A];simp[zH]
 obtain⟨bs,I,O,U,h,g1,g2⟩:=g n 0 [] .no .no .no ⋯ rfl ⋯;refine⟨kQ bs,?_,λb z=>g1 b<|(kD bs).mem_iff.mp z,by rw[(kD bs).length_eq,g2]⟩;rw[<- ON]at h;simp[qK,jk,z7,jg,l,jX,MH];rw[z5 n λi=>(i:Int)];have u:(zH []:List D)=[]:=rfl;rw[u]at h;rw[h];simp[YL (show bs.length<64 by omega)]
theorem Bk{c:Int}(C:0<=c){m:Nat}(J:m<=5) : ∃w,xY [.int c,.int (1+(m:Int))]=dn (.val<|.str<|jW m w):=by
 have d:=js;have z:m<=lim:=by omega
 refine⟨λk=>decide (c/2 ^ k%2=1),?_⟩;have a:zT (.nm 0) jd (ya (zq (.str "rl")) (zG yh (zG K6 (zc 1) (eg (jj (qG (zb (zq (.int 1)) (zb (zq (.int 2)) (zb (zq (.int 4)) (zb (zq (.int 8)) (zb (zq (.int 16)) zB))))))) (zc 0))) (zq (.int 2)))) [Cell.no,Cell.val (.int c)] ((MB m).map λi:Nat=>D.int (i:Int)) =
  dn ((MB m).map λ(k:Nat)=>D.str<|xu<|gB<|decide<|c/2 ^ k%2=1):=by
  refine zv _ _ λk I=>zx rfl rfl ?_;have I:=MD.mp I;have O:zG yh (zG K6 (zc 1)<|eg (jj<|qG<|zb (zq<|.int 1)<|zb (zq<|.int 2)<|zb (zq<|.int 4)<|zb (zq<|.int 8)<|zb (zq<|.int 16) zB)<|zc 0) (zq<|.int 2) [Cell.val (.int k),Cell.val (.int c)]=dn (.int<|c/2 ^ k%2):=by
   have U:k=0\/k=1\/k=2\/k=3\/k=4:=by omega
   rcases U with rfl | rfl | rfl | rfl | rfl<;>simp[jq,h6]
  show ya _ _ [Cell.val (.int k),Cell.val (.int c)]=_;rw[Zh,O];have q:c/2 ^ k%2=0\/c/2 ^ k%2=1:=by omega
  rcases q with q | q
  ·rw[q];rfl
  ·rw[q];rfl
 have all1:((MB m).map λ(k:Nat)=>xu<|gB<|decide<|c/2 ^ k%2=1).all qb=d7:=by
  rw[List.all_map];exact Ot.mpr λk _=>by show qb (xu _)=d7;rfl
 have Y:qb ("" : Str)=d7:=rfl;have b:(1:Int)+(m:Int) - 1=(m:Int):=by omega
 simp[xY,jk,z7,jg,b,z,jX,ja,kK,MH];rw[z5 m λi=>(i:Int)];rw[a];simp only[MP,MG,SR];rw[Jd];simp only[MG];rw[UJ ⟨by simpa using z,Ot.mp all1,Y⟩];rfl
def qF(h w:Nat)(f:UV):List D:=(MB h).map λi=>D.lst<|zD w<|f i
@[simp] theorem Jj(h w f):(qF h w f).length=h:=by simp[qF]
theorem xx(ds:List D):jq (.lst ds)=dn (.L,ds):=rfl
theorem jZ(ds:List D):jq (.tup ds)=dn (.T,ds):=rfl
theorem yt(s:Nat)(f:Nat->α):(MB<|s+1).map f=(MB s).map f++[f s]:=by rw[OJ,NR];rfl
theorem vW(w:UK)(wd:UX)(k:Nat):wd (zX w k)=fy w wd k:=by unfold zX fy;split<;>rfl
theorem Zn(w:UK)(wd:UX)(k:Nat):wd (zJ w k)=fA w wd k:=by unfold zJ fA;split<;>rfl
theorem WG{w:UK}{k m:Nat}(h:k<m):zX w k<m+1:=by unfold zX;split<;>omega
theorem WQ{w:UK}{k m:Nat}(h:k<m):zJ w k<m+1:=by unfold zJ;split<;>omega
noncomputable def qP(m:Nat)(w:UK)(wd:UX)(T:UW):List D:=(MB m).map λk=>D.lst<|qF (fy w wd k) (fA w wd k)<|T k
noncomputable def yx(m:Nat)(w:UK)(wd:UX)(T:UW):D:= .tup [.lst (zD (m+1) λk=>(wd k:Int)),.lst (qP m w wd T)]
noncomputable def Vk(m:Nat)(w:UK)(wd wd':UX)(J:UW):List D:=(MB m).map λk=>jf (fy w wd k) (fA w wd' k)<|J k
theorem Bp(h w:Nat)(z:h<=lim)(f:UV)(γ:Ctx):zT (.nm 0) jd (zP<|ze 0) [Cell.no] (qF h w f)=dn (zZ h w f):=by unfold qF zZ;exact zv _ _ λk I=>zx rfl rfl rfl
theorem Bj{m k:Nat}(h:k<m+1)(wd:UX):(zD (m+1) λk=>(wd k:Int))[k]? = dn (.int (wd k:Int)):=by unfold zD;simp[h]
theorem Bi(m:Nat)(wd:UX):(zD (m+1) λk=>(wd k:Int)).length=m+1:=by simp[zD]
theorem mX(m w wd T):(qP m w wd T).length=m:=by simp[qP]
theorem sY{m k:Nat}(h:k<m)(w wd T):(qP m w wd T)[k]? = dn (.lst<|qF (fy w wd k) (fA w wd k)<|T k):=by unfold qP;simp[h]
theorem VN(s w wd T):jD (s+1) w wd T=jD s w wd T++[qH w wd T s]:=yt _ _
noncomputable def Hz:=(zL (wy (.tp [7,8])<|zA qi<|zb (zc 1)<|zb (zc 6) zB)<|zL (jy 9<|zP<|jj<|zM (zK<|zE<|eg (ze 4)<|zc 6) (.nm 0) 1 [] jd (zP<|ze 0))<|qe 5<|qA<|zb (ya (zc 1)<|zc 6)<|zb (qA<|zb (eg (ze 3)<|zc 8)<|zb (eg (ze 3)<|zc 7)<|zb (zc 9) zB) zB)
theorem aZ{p:Int}{m:Nat}(L:m<=4)(w:UK){wd:UX}(C : ∀k,wd k<=9)(T:UW) :
 xD [.int p,.str<|jW m w,yx m w wd T]=dn (.val<|z9 p m w wd T):=by
 have J:=js;have Y : ∀k,fy w wd k<=10:=λk=>by rw[<- vW];have:=C<|zX w k;omega
 have wl:=wc m w;have j:=k8 w (show m<=1000 by omega);have x:(wy (.tp [3,4])<|zc 2) (z7 10 [.int p,.str<|jW m w,yx m w wd T])=dn (.next [.val (.int p),.val<|.str<|jW m w,.val<|yx m w wd T,.val<|.lst<|zD (m+1) λk=>(wd k:Int),.val<|.lst<|qP m w wd T,.no,.no,.no,.no,.no]):=rfl;have y:(xq 5<|qG zB) [.val (.int p),.val<|.str<|jW m w,.val<|yx m w wd T,.val<|.lst<|zD (m+1) λk=>(wd k:Int),.val<|.lst<|qP m w wd T,.no,.no,.no,.no,.no]=dn (.next [.val (.int p),.val<|.str<|jW m w,.val<|yx m w wd T,.val<|.lst<|zD (m+1) λk=>(wd k:Int),.val<|.lst<|qP m w wd T,.own [],.no,.no,.no,.no]):=rfl;obtain⟨H,A,⟨e,b,d,a,rfl⟩⟩:=xK (T:= .nm 6) (F:=Hz) (f:=yX<|zc 1) (γ:=[.val (.int p),.val<|.str<|jW m w,.val<|yx m w wd T,.val<|.lst<|zD (m+1) λk=>(wd k:Int),.val<|.lst<|qP m w wd T,.own [],.no,.no,.no,.no])
  (λs γ=>∃e b d a,γ=[.val (.int p),.val<|.str<|jW m w,.val<|yx m w wd T,.val<|.lst<|zD (m+1) λk=>(wd k:Int),.val<|.lst<|qP m w wd T,.own<|jD s w wd T,e,b,d,a]) m ⋯ (by simp[wl,j]) ⟨_,_,_,_,rfl⟩ (by
    rintro s z γ ⟨e,b,d,a,rfl⟩;refine⟨_,[.val (.int p),.val<|.str<|jW m w,.val<|yx m w wd T,.val<|.lst<|zD (m+1) λk=>(wd k:Int),.val<|.lst<|qP m w wd T,.own<|jD (s+1) w wd T,.val<|.int (s:Int),.val<|.int ((zJ w s:Nat):Int),.val<|.int ((zX w s:Nat):Int),.val (.tup<|zZ (fy w wd s) (fA w wd s)<|T s)],rfl,?_,⟨_,_,_,_,rfl⟩⟩;have t:=yL (w:=w) (show m<=5 by omega) z;have h:=WG (w:=w) z;have i:=WQ (w:=w) z;have r:s<lim:=by omega
    have g:3<=lim:=by omega
    have o:2<=lim:=by omega
    have I:fy w wd s<=lim:=by have:=Y s;omega
    have u:(qF (fy w wd s) (fA w wd s)<|T s).length<=lim:=by rw[Jj];exact I
    have tp:=Bp (fy w wd s) (fA w wd s) I (T s) [];have O:=Bj h wd;have U:=Bj i wd;rw[vW w wd]at O;rw[Zn w wd]at U;have G:=sY z w wd T;have l:(wy (.tp [7,8])<|zA qi<|zb (zc 1)<|zb (zc 6) zB) [.val (.int p),.val<|.str<|jW m w,.val<|yx m w wd T,.val<|.lst<|zD (m+1) λk=>(wd k:Int),.val<|.lst<|qP m w wd T,.own<|jD s w wd T,.val<|.int (s:Int),b,d,a]=dn (.next [.val (.int p),.val<|.str<|jW m w,.val<|yx m w wd T,.val<|.lst<|zD (m+1) λk=>(wd k:Int),.val<|.lst<|qP m w wd T,.own<|jD s w wd T,.val<|.int (s:Int),.val<|.int ((zJ w s:Nat):Int),.val<|.int ((zX w s:Nat):Int),a]):=by simp[t]
    refine zo l ?_;have n:(jy 9<|zP<|jj<|zM (zK<|zE<|eg (ze 4)<|zc 6) (.nm 0) 1 [] jd (zP<|ze 0)) [.val (.int p),.val<|.str<|jW m w,.val<|yx m w wd T,.val<|.lst<|zD (m+1) λk=>(wd k:Int),.val<|.lst<|qP m w wd T,.own<|jD s w wd T,.val<|.int (s:Int),.val<|.int ((zJ w s:Nat):Int),.val<|.int ((zX w s:Nat):Int),a]=dn (.next [.val (.int p),.val<|.str<|jW m w,.val<|yx m w wd T,.val<|.lst<|zD (m+1) λk=>(wd k:Int),.val<|.lst<|qP m w wd T,.own<|jD s w wd T,.val<|.int (s:Int),.val<|.int ((zJ w s:Nat):Int),.val<|.int ((zX w s:Nat):Int),.val (.tup<|zZ (fy w wd s) (fA w wd s)<|T s)]):=by simp only[Zi,xk,xy,jM,xV,vF,kc,jL,qr,MJ,ML,zO,zW,MG,MP,xx,jU,mX,qh,z,if_true,G,u,ja,MH,RD,Ph,tp,OC,OB]
    refine zo n ?_;have E:=wq w (show m<=1000 by omega) z [.val (.int p),.val<|.str<|jW m w,.val<|yx m w wd T,.val<|.lst<|zD (m+1) λk=>(wd k:Int),.val<|.lst<|qP m w wd T,.own<|jD s w wd T,.val<|.int (s:Int),.val<|.int ((zJ w s:Nat):Int),.val<|.int ((zX w s:Nat):Int),.val (.tup<|zZ (fy w wd s) (fA w wd s)<|T s)] (zc 1) (zc 6) rfl rfl;rw[VN,qV,ym,jb,E];simp only[ym,jb,xl,qr,kc,jL,MJ,ML,MY,Nj,NA,NV,zO,zW,q8,MG,MP,xx,jU,Bi,qh,h,i,O,U,if_true,g,o,Zf,r,OC,OB];rfl)
 have B:(j5<|qA<|zb (zc 0)<|zb (zP<|ze 3)<|zb (zP<|ze 5) zB) [.val (.int p),.val<|.str<|jW m w,.val<|yx m w wd T,.val<|.lst<|zD (m+1) λk=>(wd k:Int),.val<|.lst<|qP m w wd T,.own<|jD m w wd T,e,b,d,a]=dn (.ret<|.val<|z9 p m w wd T):=by
  have g:3<=lim:=by omega
  simp[xx,g,z9]
 exact jl<|zo x<|zo y<|zo A B
noncomputable def Wx(h w:Nat)(f g j:UV)(i:Nat):Vc:=if i<h then qN w (f i) (j i)else qN w (λ_=>0) (g<|i - h)
theorem hV{h w h' w':Nat}(f g j:UV):zZ h (w+w') (λi=>qN w (f i)<|j i)++zZ h' (w+w') (λi=>qN w (λ_=>0)<|g i)=zZ (h+h') (w+w') (Wx h w f g j):=
 ph h h' _ _ _ _ (λi j a _=>by unfold Wx;rw[UJ a]) λi j a _=>by unfold Wx;rw[UY ⋯,NF]
theorem hU{h w h' w':Nat}(f g j:UV)(L:h<=400)(S:w<=400)(C:h'<=400)(J:w'<=400) :
 qf [jf h w f,jf h' w' g,jf h w' j]=dn (.val<|jf (h+h') (w+w')<|Wx h w f g j):=by
 have m:=js;have a:h<=lim:=by omega
 have b:w<=lim:=by omega
 have k:h'<=lim:=by omega
 have I:w+w'<=lim:=by omega
 have U:h+h'<=lim:=by omega
 have O : ∀(h w:Nat) (f:UV),jq (jf h w f)=dn (.T,[.int h,.int w,.tup (zZ h w f)]):=λ_ _ _=>rfl;have Y:yG (.tup [.int 0]) (.int w)=dn (.tup<|zD w λ_=>0):=by show(if ([D.int 0]).length*(w:Int).toNat<=lim/\inR (w:Int)=d7 then _ else _)=_;rw[UJ ⟨by simpa using b,ZC b⟩,Ou,uQ]
 have g1:zT (.tp [0,1]) jd (zG qo (zc 0)<|zc 1) [Cell.no,Cell.no] (ZR (zZ h w f)<|zZ h w' j)=dn (zZ h (w+w') λi=>qN w (f i)<|j i):=by
  have z:ZR (zZ h w f) (zZ h w' j)=(MB h).map λi=>D.tup [.tup (zD w<|f i),.tup (zD w'<|j i)]:=by unfold ZR zZ;rw[OP];simp
  rw[z];unfold zZ;refine zv _ _ λi d=>zx rfl rfl ?_;have e:qo (.tup<|zD w<|f i) (.tup<|zD w'<|j i)=dn (.tup<|zD (w+w')<|qN w (f i)<|j i):=by show(if (zD w<|f i).length+(zD w'<|j i).length<=lim then _ else _)=_;rw[UJ (by simpa using I),vE]
  show zG _ _ _ [Cell.val (.tup<|zD w<|f i),Cell.val (.tup<|zD w'<|j i)]=_;simp[e]
 have g2:zT (.nm 0) jd (zG qo (zG yG (qA<|zb (zq<|.int 0) zB)<|eg (ze 1)<|zq<|.int 1)<|zc 0) [Cell.no,Cell.val (jf h w f)] (zZ h' w' g)=dn (zZ h' (w+w') λi=>qN w (λ_=>0)<|g i):=by
  unfold zZ;refine zv _ _ λi d=>zx rfl rfl ?_;have e:qo (.tup<|zD w λ_=>0) (.tup<|zD w'<|g i)=dn (.tup<|zD (w+w')<|qN w (λ_=>0)<|g i):=by show(if (zD w λ_=>0).length+(zD w'<|g i).length<=lim then _ else _)=_;rw[UJ (by simpa using I),vE]
  simp[O,Y,e]
 have l:(ZR (zZ h w f)<|zZ h w' j).length<=lim:=by unfold ZR zZ;simp;exact a
 simp[qf,jk,z7,jg,O,a,k,U,l,ja,kK,MH,g1,g2];rw[hV];simp[jf]
section
variable{p:Int}{m:Nat}{w:UK}{wd wd':UX}{T T' J:UW}
theorem yc(p m w wd T):jq (z9 p m w wd T)=dn (.T,[.int p,.tup<|zD (m+1) λk=>(wd k:Int),.tup (jD m w wd T)]):=rfl
theorem Ai(w:UK)(wd wd':UX)(k:Nat):fy w (λk=>wd k+wd' k) k=fy w wd k+fy w wd' k:=by unfold fy;split<;>rfl
theorem sD(w:UK)(wd wd':UX)(k:Nat):fA w (λk=>wd k+wd' k) k=fA w wd k+fA w wd' k:=by unfold fA;split<;>rfl
end
section
variable{p:Int}{m:Nat}{w:UK}{bs:List (Int×Int)}
def iy(n:Int)(bs:List (Int×Int)):Bool:=bs.all<|FB n
def wu(bs:List (Int×Int)):Bool:=decide<|bs=kQ bs
theorem Ka(a b c d:Int):ji (.tup [.int a,.int b]) (.tup [.int c,.int d])=(a==c && b==d):=by simp[ji,p9,UD]
theorem Vw : ∀a b:List (Int×Int),p9 (zH a) (zH b)=decide (a=b)
 | [],[]=>rfl
 | [],_::_=>rfl
 | _::_,[]=>rfl
 | (x1,x2)::a,(y1,y2)::b=>by have z:=Vw a b;show(ji (.tup [.int x1,.int x2]) (.tup [.int y1,.int y2]) && p9 (zH a) (zH b))=_;rw[z,Ka];by_cases d:x1=y1<;>by_cases e:x2=y2<;>by_cases I:a=b<;>simp[d,e,I]
end
section
variable{p:Int}{m:Nat}{w:UK}{wd:UX}{f g T:UW}
theorem gM{n:Nat}{a:Nat->Int}{x:Nat->Int}{i:Nat}(hi:i<n)(C : ∀k,k<n->a k%p=iU i k%p):zg (λk=>a k*x k) n%p=x i%p:=by rw[zQ (g:=λk=>iU i k*x k) λk z=>J5 (C k z) rfl,zV hi λk _ I=>by simp[iU,Ny I]];simp[iU]
theorem gK{n:Nat}{a:Nat->Int}{x:Nat->Int}{i:Nat}(hi:i<n)(ha : ∀k,k<n->a k%p=iU k i%p):zg (λk=>x k*a k) n%p=x i%p:=by rw[zQ (g:=λk=>x k*iU k i) λk z=>J5 rfl<|ha k z,zV hi λk _ I=>by simp[iU,I]];simp[iU]
theorem dY(I : ∀k,k<m+1->Pair p (wd k) (f k) (g k)){k i j:Nat}(O:k<m)(hi:i<wd (zX w k))(U:j<wd (zJ w k))(Y:0<=T k i j/\T k i j<p):jS p w wd g f (jS p w wd f g T) k i j=T k i j:=by
 have n:=I _<|K0 w O;have h:=I _<|QZ w O;have o : ∀a b,jS p w wd f g T k a b=zg (λc=>f (zX w k) a c*(zg (λd=>T k c d*g (zJ w k) d b) (wd<|zJ w k)%p)) (wd<|zX w k)%p:=λa b=>(VU k a b).symm;have r : ∀b,b<wd (zJ w k)->zg (λa=>jS p w wd f g T k a b*g (zX w k) i a) (wd<|zX w k)%p=zg (λd=>T k i d*g (zJ w k) d b) (wd<|zJ w k)%p:=λb e=>by rw[zw (g:=λa=>g (zX w k) i a*(zg (λc=>f (zX w k) a c*(zg (λd=>T k c d*g (zJ w k) d b) (wd<|zJ w k)%p)) (wd<|zX w k)%p)) λa _=>by rw[o,NX]];rw[wm p (g<|zX w k) (f<|zX w k) (λc b=>zg (λd=>T k c d*g (zJ w k) d b) (wd<|zJ w k)%p) (wd<|zX w k) (wd<|zX w k) i b];rw[gM (i:=i) hi λl z=>by rw[Nl];exact n.gf i l hi z];rw[Nl]
 show zg (λb=>f (zJ w k) b j*(zg (λa=>jS p w wd f g T k a b*g (zX w k) i a) (wd<|zX w k)%p)) (wd<|zJ w k)%p=_;rw[zw (g:=λb=>(zg (λd=>T k i d*g (zJ w k) d b) (wd<|zJ w k)%p)*f (zJ w k) b j) λb e=>by rw[r b e,NX]];rw[<- wm p (T k) (g<|zJ w k) (f<|zJ w k) (wd<|zJ w k) (wd<|zJ w k) i j];rw[gK (i:=j) U λl z=>by rw[Nl];exact h.gf l j z U];exact NU Y.1 Y.2
end
section
variable{p:Int}{m:Nat}{w:UK}{wd wd':UX}{T T' J:UW}
theorem VW(h w f):jq (jf h w f)=dn (.T,[.int (h:Int),.int (w:Int),.tup (zZ h w f)]):=rfl
theorem ZF(h w f):(zZ h w f).length=h:=by simp[zZ]
theorem WI(s w:Nat)(f:UV):zZ (s+1) w f=zZ s w f++[.tup (zD w<|f s)]:=yt _ _
end
theorem uX:jR=jk 6 (zL Em<|zL Hm<|zL Hl FS):=rfl
theorem uY:jv=jk 5 (zL Ho<|zL Bb<|zL Hn IS):=rfl
theorem uW:xQ=jk 11 (zL Hk<|zL Hj<|zL Hi FQ):=rfl
noncomputable def ltB:=(qe 4<|zP<|jj<|zM (zK<|ze 3) (.nm 0) 1 [0,5] jd (zG yh (JO<|jj<|zM (Xo (zc 2)<|zc 0) (.tp [0,1]) 2 [] jd (zG yG (zc 0)<|zc 1))<|zc 1))
theorem VV(f g:UV)(C:0<p)(Z:h<=400)(hm:m<=400)(hw:w<=400)(J : ∀i j,i<m->j<w->0<=g i j/\g i j<100) :
 jR [.int p,jf h m f,jf m w g]=dn (.val<|jf h w λi j=>zg (λk=>f i k*g k j) m%p):=by
 have X:=js;have l1:h<=lim:=by omega
 have r:m<=lim:=by omega
 have t:w<=lim:=by omega
 have u:=VW h m f;have U:=VW m w g;have A:h6 3 0=dn 0:=rfl;have n:h6 3 1=dn 1:=rfl;have o:h6 3 2=dn 2:=rfl;have E : ∀j:Nat,j<w->zT (.nm 0) jd (eg (ze 0)<|zc 1) [Cell.no,Cell.val (.int (j:Int))] (zZ m w g)=dn (zD m λk=>g k j):=λj I=>by
  rw[z5];unfold zZ;refine zv _ _ λi W=>zx rfl rfl ?_;show eg _ _ [Cell.val (.tup<|zD w<|g i),Cell.val (.int (j:Int))]=_;have e:(zD w<|g i)[j]? = dn (.int<|g i j):=by unfold zD;simp[I]
  have y:(zD w<|g i).length=w:=by simp[zD]
  simp only[kc,jL,qr,MJ,ML,zW,zO,jZ,MG,jU,y,qh,I,if_true,e]
 have F:zT (.nm 0) jd (j3<|zM (zK<|zE<|eg (ze 1)<|zq<|.int 2) (.nm 0) 1 [0] jd (eg (ze 0)<|zc 1)) [Cell.no,Cell.val (jf m w g)] (zD w λi=>(i:Int))=dn (qF w m λj k=>g k j):=by
  rw[z5 w λi=>(i:Int)];unfold qF;refine zv _ _ λj I=>zx rfl rfl ?_;have I:=MD.mp I;have dl:(zZ m w g).length<=lim:=by rw[ZF];exact r
  show j3 _ [Cell.val (.int (j:Int)),Cell.val (jf m w g)]=_;simp only[yo,jM,xV,vF,kc,jL,xA,MJ,ML,MY,Nj,NA,NV,zW,MG,MP,U,jU,o,jZ,dl,if_true];rw[show ja 1 [0] [Cell.val (.int (j:Int)),Cell.val (jf m w g)]=[Cell.no,Cell.val (.int (j:Int))]from rfl,E j I];rfl
 have L:Em (z7 6 [.int p,jf h m f,jf m w g])=dn (.next [.val (.int p),.val<|jf h m f,.val<|jf m w g,.val<|.lst<|qF w m λj k=>g k j,.no,.no]):=by
  have x:inR (w:Int)=d7:=Vp ⋯ ⋯;have dl:(zD w λi=>(i:Int)).length<=lim:=by simp[zD];exact t
  show Em [.val (.int p),.val<|jf h m f,.val<|jf m w g,.no,.no,.no]=_;unfold Em;simp only[Zi,yo,jM,vk,kc,jL,xA,MJ,ML,MY,Nj,NA,NV,zW,MG,MP,U,jU,n,x,if_true,Ou,jX,dl];rw[show ja 1 [2] [.val (.int p),.val<|jf h m f,.val<|jf m w g,.no,.no,.no]=[Cell.no,Cell.val (jf m w g)]from rfl,F];rfl
 have M:Hm [.val (.int p),.val<|jf h m f,.val<|jf m w g,.val<|.lst<|qF w m λj k=>g k j,.no,.no]=dn (.next [.val (.int p),.val<|jf h m f,.val<|jf m w g,.val<|.lst<|qF w m λj k=>g k j,.own [],.no]):=rfl;have G : ∀i:Nat,zT (.nm 0) jd (zG yh (JO<|jj<|zM (Xo (zc 2)<|zc 0) (.tp [0,1]) 2 [] jd (zG yG (zc 0)<|zc 1))<|zc 1) [Cell.no,Cell.val<|.int p,Cell.val (.tup<|zD m<|f i)] (qF w m λj k=>g k j)=dn (zD w λj=>zg (λk=>f i k*g k j) m%p):=λi=>by
  rw[z5 w];unfold qF;refine zv _ _ λj I=>zx rfl rfl ?_;have I:=MD.mp I;have z:=wa m (f i) λk=>g k j;have H:zT (.tp [0,1]) jd (zG yG (zc 0)<|zc 1) [Cell.no,Cell.no] ((MB m).map λk=>D.tup [.int (f i k),.int (g k j)])=dn (zD m λk=>f i k*g k j):=by rw[z5 m λk=>f i k*g k j];refine zv _ _ λk Y=>zx rfl rfl ?_;have Y:=MD.mp Y;have b:=J k j Y I;have c:Kb (f i k) (g k j)=d7:=bF _ _ ⋯ ⋯;show zG _ _ _ [Cell.val (.int<|f i k),Cell.val (.int<|g k j)]=_;simp[c]
  have S:((MB m).map λk=>D.tup [.int (f i k),.int (g k j)]).length<=lim:=by simpa using r
  have R:=x6 (λk=>f i k*g k j) m;have T:EW 0 p=d7:=decide_eq_true C;show zG _ _ _ [Cell.val (.lst<|zD m λk=>g k j),Cell.val<|.int p,Cell.val (.tup<|zD m<|f i)]=_;simp only[kY,ZM,xy,jM,lT,qr,MJ,ML,zO,MG,MP,xx,jZ,z,S,if_true];rw[show ja 2 [] [Cell.val (.lst<|zD m λk=>g k j),Cell.val<|.int p,Cell.val (.tup<|zD m<|f i)]=[Cell.no,Cell.no]from rfl,H];simp only[MP,MG,R];simp[C]
 obtain⟨d,q,⟨a,rfl⟩⟩ : ∃d,qL (.nm 5) ltB (zZ h m f) [.val (.int p),.val<|jf h m f,.val<|jf m w g,.val<|.lst<|qF w m λj k=>g k j,.own [],.no]=dn (.next d)/\∃a,d=[.val (.int p),.val<|jf h m f,.val<|jf m w g,.val<|.lst<|qF w m λj k=>g k j,.own<|zZ h w λi j=>zg (λk=>f i k*g k j) m%p,a]:=by
  have l : ∀(k s:Nat) (a:Cell),s+k=h->∃O,qL (.nm 5) ltB ((Ru s k).map λi=>D.tup<|zD m<|f i) [.val (.int p),.val<|jf h m f,.val<|jf m w g,.val<|.lst<|qF w m λj k=>g k j,.own<|zZ s w λi j=>zg (λk=>f i k*g k j) m%p,a]=dn (.next [.val (.int p),.val<|jf h m f,.val<|jf m w g,.val<|.lst<|qF w m λj k=>g k j,.own<|zZ h w λi j=>zg (λk=>f i k*g k j) m%p,O]):=by
   intro k
   induction k with
   | zero=>
    intro s a e;obtain rfl:s=h:=by omega
    exact⟨a,rfl⟩
   | succ k B=>
    intro s a e;obtain⟨O,q⟩:=B (s+1) (.val<|.tup<|zD m<|f s) ⋯;refine⟨O,?_⟩;rw[<- q,Pn,Nk,ju,WI];have Q:s<lim:=by omega
    have K:(qF w m λj k=>g k j).length<=lim:=by rw[Jj];exact t
    simp only[Jr,MG,ltB,qV,xk,xy,jM,xV,jL,OC,OB,MJ,ML,q8,zW,xx,MP,K,if_true];rw[show ja 1 [0,5] [Cell.val (.int p),Cell.val<|jf h m f,Cell.val<|jf m w g,Cell.val<|.lst<|qF w m λj k=>g k j,Cell.own<|zZ s w λi j=>zg (λk=>f i k*g k j) m%p,Cell.val (.tup<|zD m<|f s)]=[Cell.no,Cell.val<|.int p,Cell.val (.tup<|zD m<|f s)]from rfl,G s];simp only[MP,MG,ZF,Q,if_true]
  obtain⟨O,q⟩:=l h 0 .no ⋯;rw[<- ON]at q;exact⟨_,q,O,rfl⟩
 have N:Hl [.val (.int p),.val<|jf h m f,.val<|jf m w g,.val<|.lst<|qF w m λj k=>g k j,.own [],.no]=dn (.next [.val (.int p),.val<|jf h m f,.val<|jf m w g,.val<|.lst<|qF w m λj k=>g k j,.own<|zZ h w λi j=>zg (λk=>f i k*g k j) m%p,a]):=by show yN _ _ ltB _=_;rw[Zj];simp only[xV,vF,kc,jL,xA,MJ,ML,MY,Nj,NA,NV,zW,MG,MP,u,jU,o,jZ];exact q
 have P:FS [.val (.int p),.val<|jf h m f,.val<|jf m w g,.val<|.lst<|qF w m λj k=>g k j,.own<|zZ h w λi j=>zg (λk=>f i k*g k j) m%p,a]=dn (.ret<|.val<|jf h w λi j=>zg (λk=>f i k*g k j) m%p):=by
  have as:3<=lim:=by omega
  unfold FS;simp only[yn,ym,jb,xl,kc,jL,xA,xk,MJ,ML,MY,Nj,NA,NV,zW,QY,MG,MP,u,U,jU,A,n,as,if_true];rfl
 rw[uX];exact jl<|zo L<|zo M<|zo N P
def wl(l:List Bool):Str:=⟨⟨l.map gB⟩⟩
noncomputable def Hg(n k:Nat)(u:Nat->Int):Int:=if 0<k then (if k+1<n then u (k - 1)+(u (k+1)+0)else u (k - 1)+0)else if k+1<n then u (k+1)+0 else 0
def mv(n k:Nat)(u:Nat->Int)(i:Nat):Int:=if i=k then Hg n k u - u k else u i
def Y'(n:Nat)(ks:List Nat)(u:Nat->Int):Nat->Int:=ks.foldl (λu k=>mv n k u) u
noncomputable def UN(n:Nat)(ks:List Nat)(u:Nat->Int):Nat->Nat->Int
 | 0=>u
 | j+1=>Y' n ks<|UN n ks u j
noncomputable def acc(n:Nat)(ks:List Nat)(u:Nat->Int):Nat->Nat->Int
 | 0=>λ_=>0
 | j+1=>λi=>acc n ks u j i+UN n ks u j i
theorem BG{n:Nat}(C:n<=400):kB [.int n]=dn (.val<|jf n n λi j=>if i=j then 1 else 0):=by
 have U:=js;have a:n<=lim:=by omega
 have z:inR (n:Int)=d7:=Vp ⋯ ⋯;have dl:(zD n λi=>(i:Int)).length<=lim:=by simp[zD];exact a
 have I : ∀i:Nat,zT (.nm 0) jd (kh<|zG hG (zc 1)<|zc 0) [Cell.no,Cell.val (.int (i:Int))] (zD n λi=>(i:Int))=dn (zD n λj=>if i=j then 1 else 0):=λi=>by
  rw[z5 n λi=>(i:Int),z5 n λj=>if i=j then (1:Int)else 0];refine zv _ _ λj Y=>zx rfl rfl ?_;show kh _ [Cell.val (.int (j:Int)),Cell.val (.int (i:Int))]=_;by_cases h:i=j
  ·simp[h]
  ·have : ¬((i:Int)=(j:Int)):=by omega
   simp[h,this]
 have O:zT (.nm 0) jd (zP<|jj<|zM (z6<|zc 1) (.nm 0) 1 [0] jd (kh<|zG hG (zc 1)<|zc 0)) [Cell.no,Cell.val (.int (n:Int))] (zD n λi=>(i:Int))=dn (zZ n n λi j=>if i=j then 1 else 0):=by have e:=I;rw[z5 n λi=>(i:Int)];unfold zZ;refine zv _ _ λi d=>zx rfl rfl ?_;show zP _ [Cell.val (.int (i:Int)),Cell.val (.int (n:Int))]=_;simp only[xk,xy,jM,vk,qr,MJ,ML,zO,MG,jU,z,if_true,Ou,jX,dl];rw[show ja 1 [0] [Cell.val (.int (i:Int)),Cell.val (.int (n:Int))]=[Cell.no,Cell.val (.int (i:Int))]from rfl,I i];rfl
 have b:3<=lim:=by omega
 refine jl ?_;show j5 _ [Cell.val (.int (n:Int))]=_;simp only[yn,ym,jb,xl,xk,xy,jM,vk,qr,MJ,MY,Nj,NA,NV,zO,MG,MP,jU,z,if_true,Ou,jX,dl];rw[show ja 1 [0] [Cell.val (.int (n:Int))]=[Cell.no,Cell.val (.int (n:Int))]from rfl,O];simp only[MP,MG,b,if_true];rfl
noncomputable def S1:=(zL (iN (vw (j6<|sB<|o5 .tuple<|zc 4)<|sB<|zG i0 (km<|ze 4)<|zc 3) (j5<|zq<|.bl eh) qc)<|iN (j6<|sB<|AX<|jj<|zM (zK<|ze 4) (.nm 0) 1 [0] jd (fw (zA jt<|zb (zc 0) zB)<|kH lx rh (zq<|.int 0) (zc 0)<|zc 1)) (j5<|zq<|.bl eh) qc)
theorem uT(a b c d:Int):i0 (.tup [.int a,.int b]) (.tup [.int c,.int d])=dn (.bl<|!(a==c && b==d)):=by have o : ∀a b:Int,lp (.tup [.int a,.int b])=d7:=λa b=>rfl;unfold i0;rw[UJ ⟨o a b,o c d⟩,Ka]
theorem X3{p:Int}{h w:Nat}(f:UV)(S:h<=400)(Z:w<=400)(C : ∀i j,i<h->j<w->0<=f i j/\f i j<p)(a b:Nat) :
 jv [.int p,jf h w f,.int a,.int b]=dn (.val<|.bl<|decide<|h=a/\w=b):=by
 have M:=js;have G:w<=lim:=by omega
 have x:=VW h w f;have u:Ho (z7 5 [.int p,jf h w f,.int a,.int b])=dn (.next [.val (.int p),.val<|jf h w f,.val<|.int a,.val<|.int b,.no]):=rfl;have m:au (zc 1) VS (pe<|zq<|.int 2) [.val (.int p),.val<|jf h w f,.val<|.int a,.val<|.int b,.no]=dn (.tup [.int (h:Int),.int (w:Int)]):=rfl;have o:h6 3 2=dn 2:=rfl;have r:2<=lim:=by omega
 have t:=uT (h:Int) (w:Int) (a:Int) (b:Int);rw[uY];by_cases O:h=a/\w=b
 ·obtain⟨rfl,rfl⟩:=O
  have l:Bb [.val (.int p),.val<|jf h w f,.val<|.int h,.val<|.int w,.no]=dn (.next [.val (.int p),.val<|jf h w f,.val<|.int h,.val<|.int w,.no]):=by
   have U:i0 (.tup [.int (h:Int),.int (w:Int)]) (.tup [.int (h:Int),.int (w:Int)])=dn (.bl eh):=by rw[t];simp
   have H:i0 (.int (h:Int)) (.int (h:Int))=dn (.bl eh):=bw rfl;unfold Bb;rw[v9,VO,bJ,kY,m];simp only[ym,jb,xl,qr,VO,Yb,bJ,kY,Ij,lV,vF,kc,jL,xA,MJ,ML,MY,Nj,NA,NV,zO,zW,MG,MP,r,if_true,U,Kd,OE,if_false,x,jU,o,jZ,ZF,H];rfl
  have step : ∀i:Nat,i<h->S1 [.val (.int p),.val<|jf h w f,.val<|.int h,.val<|.int w,.val (.tup<|zD w<|f i)]=dn (.next [.val (.int p),.val<|jf h w f,.val<|.int h,.val<|.int w,.val (.tup<|zD w<|f i)]):=λi B=>by
   have d:zT (.nm 0) jd (fw (zA jt<|zb (zc 0) zB)<|kH lx rh (zq<|.int 0) (zc 0)<|zc 1) [Cell.no,Cell.val (.int p)] (zD w<|f i)=dn ((MB w).map λ_=>D.bl d7):=by rw[z5];refine zv _ _ λj E=>zx rfl rfl ?_;have q:=C i j B<|MD.mp E;show fw _ _ [Cell.val (.int<|f i j),Cell.val (.int p)]=_;simp[Xg,q.1,q.2]
   have dl:(zD w<|f i).length=w:=by simp[zD]
   have J:i0 (.int (w:Int)) (.int (w:Int))=dn (.bl eh):=bw rfl;have ty:rX Ty.tuple (.tup<|zD w<|f i)=d7:=rfl;have y:(iN (vw (j6<|sB<|o5 .tuple<|zc 4)<|sB<|zG i0 (km<|ze 4)<|zc 3) (j5<|zq<|.bl eh) qc) [.val (.int p),.val<|jf h w f,.val<|.int h,.val<|.int w,.val (.tup<|zD w<|f i)]=dn (.next [.val (.int p),.val<|jf h w f,.val<|.int h,.val<|.int w,.val (.tup<|zD w<|f i)]):=by simp[ty,jZ,dl,J]
   refine zo y ?_;have A:(zD w<|f i).length<=lim:=by rw[dl];exact G
   simp only[v9,Yb,bJ,Fn,xy,jM,xV,jL,MJ,ML,zW,jZ,MG,MP,A,if_true];rw[show ja 1 [0] [Cell.val (.int p),Cell.val<|jf h w f,Cell.val<|.int (h:Int),Cell.val<|.int (w:Int),Cell.val (.tup<|zD w<|f i)]=[Cell.no,Cell.val (.int p)]from rfl,d];simp[dZ]
  have g : ∀(k s:Nat) (c:Cell),s+k=h->∃I,qL (.nm 4) S1 ((Ru s k).map λi=>D.tup<|zD w<|f i) [.val (.int p),.val<|jf h w f,.val<|.int h,.val<|.int w,c]=dn (.next [.val (.int p),.val<|jf h w f,.val<|.int h,.val<|.int w,I]):=by
   intro k
   induction k with
   | zero=>intro s c _;exact⟨c,rfl⟩
   | succ k F=>
    intro s c e;obtain⟨I,q⟩:=F (s+1) (.val<|.tup<|zD w<|f s) ⋯;refine⟨I,?_⟩;rw[Pn,Nk,ju];simp only[Jr,MG,OC,OB,step s ⋯];exact q
  obtain⟨I,q⟩:=g h 0 .no ⋯;rw[<- ON]at q;have K:Hn [.val (.int p),.val<|jf h w f,.val<|.int h,.val<|.int w,.no]=dn (.next [.val (.int p),.val<|jf h w f,.val<|.int h,.val<|.int w,I]):=by show yN _ _ S1 _=_;rw[Zj];simp only[xV,vF,kc,jL,xA,MJ,ML,MY,Nj,NA,NV,zW,MG,MP,x,jU,o,jZ];exact q
  rw[decide_eq_true (show h=h/\w=w from⟨rfl,rfl⟩)];exact jl<|zo u<|zo l<|zo K rfl
 ·have l:Bb [.val (.int p),.val<|jf h w f,.val<|.int a,.val<|.int b,.no]=dn (.ret<|.val<|.bl eh):=by
   have U:i0 (.tup [.int (h:Int),.int (w:Int)]) (.tup [.int (a:Int),.int (b:Int)])=dn (.bl d7):=by
    rw[t];by_cases n:h=a
    ·have L : ¬w=b:=λz=>O ⟨n,z⟩
     have Y : ¬((w:Int)=(b:Int)):=by omega
     simp[n,Y]
    ·have Y : ¬((h:Int)=(a:Int)):=by omega
     simp[Y]
   unfold Bb;rw[v9,VO,bJ,kY,m];simp only[ym,jb,xl,qr,MJ,ML,MY,Nj,NA,NV,zO,MG,MP,r,if_true,U,Kd];rfl
  rw[decide_eq_false O];exact jl (zo u<|by rw[jg,l];rfl)
theorem QS(b:Bool):hG (.str (xu (gB b))) (.str "r")=dn (.bl (!b)):=by cases b<;>kernel_rfl
noncomputable def S3:=(zL (jy 9 (zG qo (zc 7) (kh (zG hG (eg (ze 8) (zq (.int 0))) (zq (.str "l")))))) (zL (jy 10 (zG qo (zc 7) (kh (zG hG (eg (ze 8) (zq (.int 0))) (zq (.str "r")))))) (qe 6 (qA (zb (eg (ze 8) (zq (.int 0))) (zb (zA jR (zb (zc 3) (zb (zA jR (zb (zc 3) (zb (eg (ze 1) (zc 10)) (zb (eg (ze 8) (zq (.int 1))) zB)))) (zb (eg (ze 2) (zc 9)) zB)))) zB))))))
section
variable{p:Int}{m:Nat}{w:UK}{wd:UX}{T f g:UW}
abbrev ow(p:Int)(m:Nat)(w:UK)(wd:UX)(T f g:UW)(c6 c7 c8 c9 P5:Cell):Ctx:=[.val (z9 p m w wd T),.val (.lst (xF (m+1) wd f)),.val (.lst (xF (m+1) wd g)),.val (.int p),.val (.tup (zD (m+1) λk=>(wd k:Int))),.val (.tup (jD m w wd T)),c6,c7,c8,c9,P5]
theorem Yz(h:k<n)(wd:UX)(f:UW):(xF n wd f)[k]? = dn (jf (wd k) (wd k)<|f k):=by unfold xF;simp[h]
theorem cZ(L:0<p)(p7:p<=7)(hm:m<=5)(J : ∀k,wd k<=60)(Z : ∀k i j,k<m->i<fy w wd k->j<fA w wd k->0<=T k i j/\T k i j<p)(hg : ∀k i j,k<m+1->i<wd k->j<wd k->0<=g k i j/\g k i j<p) :
 xQ [z9 p m w wd T,.lst<|xF (m+1) wd f,.lst (xF (m+1) wd g)]=dn (.val<|z9 p m w wd<|jS p w wd f g T):=by
 have hl:=js;have s1:Hk (z7 11 [z9 p m w wd T,.lst<|xF (m+1) wd f,.lst (xF (m+1) wd g)])=dn (.next<|ow p m w wd T f g .no .no .no .no .no):=rfl;have s2:Hj (ow p m w wd T f g .no .no .no .no .no)=dn (.next<|ow p m w wd T f g (.own []) .no .no .no .no):=rfl;have step : ∀s,s<m->∀l d:Cell,∃z I,S3 (ow p m w wd T f g (.own<|jD s w wd<|jS p w wd f g T) (.val<|.int (s:Int)) (.val<|qH w wd T s) l d)=dn (.next<|ow p m w wd T f g (.own<|jD (s+1) w wd<|jS p w wd f g T) (.val<|.int (s:Int)) (.val<|qH w wd T s) z I):=λs O l d=>by
  have G:=K0 w O;have x:=QZ w O;have r:jq (qH w wd T s)=dn (.T,[.str (xu<|gB<|w s),jf (fy w wd s) (fA w wd s) (T s)]):=rfl;have U:h6 2 0=dn 0:=rfl;have i1:h6 2 1=dn 1:=rfl;have R:=bo<|w s;have S:=QS<|w s;have b1:((s:Int)+if w s=d7 then 1 else 0)=((zJ w s:Nat):Int):=lM w s;have b2:((s:Int)+if (!w s)=d7 then 1 else 0)=((zX w s:Nat):Int):=iH w s;have ta:=Yz G wd f;have tb:=Yz x wd g;have l2:2<=lim:=by omega
  have sl:s<lim:=by omega
  refine⟨.val (.int ((zJ w s:Nat):Int)),.val (.int ((zX w s:Nat):Int)),?_⟩;have q1:(jy 9 (zG qo (zc 7) (kh (zG hG (eg (ze 8) (zq (.int 0))) (zq (.str "l")))))) (ow p m w wd T f g (.own (jD s w wd (jS p w wd f g T))) (.val (.int (s:Int))) (.val (qH w wd T s)) l d)=dn (.next (ow p m w wd T f g (.own (jD s w wd (jS p w wd f g T))) (.val (.int (s:Int))) (.val (qH w wd T s)) (.val (.int ((zJ w s:Nat):Int))) d)):=by rw[<- b1];simp only[ow,Zi,kY,qr,lY,kc,jL,xA,MJ,ML,MY,Nj,NA,NV,zO,zW,MG,MP,r,jU,U,R,OC,OB];cases w s<;>simp
  have Y:(jy 10 (zG qo (zc 7) (kh (zG hG (eg (ze 8) (zq (.int 0))) (zq (.str "r")))))) (ow p m w wd T f g (.own (jD s w wd (jS p w wd f g T))) (.val (.int (s:Int))) (.val (qH w wd T s)) (.val (.int ((zJ w s:Nat):Int))) d)=dn (.next (ow p m w wd T f g (.own (jD s w wd (jS p w wd f g T))) (.val (.int (s:Int))) (.val (qH w wd T s)) (.val (.int ((zJ w s:Nat):Int))) (.val (.int ((zX w s:Nat):Int))))):=by rw[<- b2];simp only[ow,Zi,kY,qr,lY,kc,jL,xA,MJ,ML,MY,Nj,NA,NV,zO,zW,MG,MP,r,jU,U,S,OC,OB];cases w s<;>simp
  refine zo q1<|zo Y ?_;have bE:=J<|zX w s;have bB:=J<|zJ w s;have K : ∀i j,i<wd (zX w s)->j<wd (zJ w s)->0<=T s i j/\T s i j<100:=λi j y A=>by have:=Z s i j O (by rw[QL];exact y) (by rw[Jz];exact A);omega
  have M : ∀i j,i<wd (zJ w s)->j<wd (zJ w s)->0<=g (zJ w s) i j/\g (zJ w s) i j<100:=λi j y A=>by have:=hg (zJ w s) i j x y A;omega
  have m1:=VV (p:=p) (h:=wd<|zX w s) (m:=wd<|zX w s) (w:=wd<|zJ w s) (f<|zX w s) (T s) L ⋯ ⋯ ⋯ K;have H:=VV (p:=p) (h:=wd<|zX w s) (m:=wd<|zJ w s) (w:=wd<|zJ w s) (λi b=>zg (λa=>f (zX w s) i a*T s a b) (wd<|zX w s)%p) (g<|zJ w s) L ⋯ ⋯ ⋯ M;have E:fy w wd s=wd (zX w s):=QL w wd s;have F:fA w wd s=wd (zJ w s):=Jz w wd s;have W:(λi j=>zg (λb=>(zg (λa=>f (zX w s) i a*T s a b) (wd<|zX w s)%p)*g (zJ w s) b j) (wd<|zJ w s)%p)=jS p w wd f g T s:=by funext i j;unfold jS;congr 1;congr 1;funext b;rw[NX];congr 1;congr 1;congr 1;funext a;rw[NX]
  rw[W]at H;have N:qH w wd (jS p w wd f g T) s = .tup [.str (xu<|gB<|w s),jf (wd<|zX w s) (wd<|zJ w s) (jS p w wd f g T s)]:=by unfold qH;rw[E,F]
  rw[VN,N];simp only[ow,qV,ym,jb,xl,xM,qr,kc,jL,xA,MJ,ML,MY,Nj,NA,NV,zO,zW,q8,MG,MP,r,jU,U,i1,xx,eH,qh,G,x,if_true,ta,tb,E,F,m1,H,mD,l2,Zf,sl,OC,OB]
 have B : ∀(k s:Nat) (n o l d:Cell),s+k=m->∃t u z I,qL (.tp [7,8]) S3 ((Ru s k).map λ(k:Nat)=>D.tup [.int k,qH w wd T k]) (ow p m w wd T f g (.own<|jD s w wd<|jS p w wd f g T) n o l d)=dn (.next<|ow p m w wd T f g (.own<|jD m w wd<|jS p w wd f g T) t u z I):=by
  intro k
  induction k with
  | zero=>
   intro s n o l d e;obtain rfl:s=m:=by omega
   exact⟨n,o,l,d,rfl⟩
  | succ k ih=>
   intro s n o l d e;obtain⟨Q,P,q⟩:=step s ⋯ l d;obtain⟨t,u,z,I,Y⟩:=ih (s+1) (.val<|.int (s:Int)) (.val<|qH w wd T s) Q P ⋯;refine⟨t,u,z,I,?_⟩;rw[<- Y,Pn,Nk,ju];have X:ka (.tp [7,8]) (.tup [.int (s:Int),qH w wd T s]) (ow p m w wd T f g (.own<|jD s w wd<|jS p w wd f g T) n o l d)=dn (ow p m w wd T f g (.own<|jD s w wd<|jS p w wd f g T) (.val<|.int (s:Int)) (.val<|qH w wd T s) l d):=rfl;rw[X];simp only[MG,q]
 obtain⟨n,o,l,d,q⟩:=B m 0 .no .no .no .no ⋯;rw[<- ON]at q;have s3:Hi (ow p m w wd T f g (.own []) .no .no .no .no)=dn (.next<|ow p m w wd T f g (.own<|jD m w wd<|jS p w wd f g T) n o l d):=by
  show yN _ _ S3 _=_;have C:ck (zc 5) (ow p m w wd T f g (.own []) .no .no .no .no)=dn ((MB m).map λ(k:Nat)=>D.tup [.int k,qH w wd T k]):=by show dn (xG<|jD m w wd T)=_;rw[show jD m w wd T=(MB m).map (qH w wd T)from rfl,df]
  rw[Zj,C];exact q
 have s4:FQ (ow p m w wd T f g (.own<|jD m w wd<|jS p w wd f g T) n o l d)=dn (.ret<|.val<|z9 p m w wd<|jS p w wd f g T):=by
  have l3:3<=lim:=by omega
  unfold FQ;simp only[ow,yn,ym,jb,xl,qr,xk,jL,MJ,ML,MY,Nj,NA,NV,zO,QY,MG,MP,l3,if_true];rfl
 rw[uW];exact jl<|zo s1<|zo s2<|zo s3 s4
end
abbrev TB:=Nat×Nat×(Nat->Nat->Int)
def tD(t:TB):D:=jf t.1 t.2.1 t.2.2
structure vr(p:Int)(t:TB):Prop where
 h:t.1<=60
 w:t.2.1<=60
 e : ∀i j,i<t.1->j<t.2.1->0<=t.2.2 i j/\t.2.2 i j<p
def VZ(n:Nat):D:=jf n n λi j=>if i=j then 1 else 0
def uq(p:Int)(n:Nat)(t u:TB):D:=jf n n λi j=>zg (λk=>t.2.2 i k*u.2.2 k j) n%p
noncomputable def sX(p:Int)(n:Nat)(t u:TB):Bool:=decide (t.1=n/\t.2.1=n/\u.1=n/\u.2.1=n) && ji (uq p n t u) (VZ n)
theorem ET{x y:D}(hx:lp x=d7)(z:lp y=d7):hG x y=dn (.bl<|ji x y):=by unfold hG;rw[UJ ⟨hx,z⟩]
theorem iT{x y:D}(hx:lp x=d7)(z:lp y=d7):i0 x y=dn (.bl<|!ji x y):=by unfold i0;rw[UJ ⟨hx,z⟩]
theorem XU(bs):lp (.lst<|zH bs)=d7:=XT (n:=2) (by
 simp only[deep];have:ni (zH bs)<=1:=xU λd a=>by simp only[zH,Nb]at a;obtain⟨b,_,rfl⟩:=a;simp[deep,ni]
 omega) ⋯ (by
 simp only[ix];exact yA λd a=>by simp only[zH,Nb]at a;obtain⟨b,_,rfl⟩:=a;rfl)
def nh:TB:=(0,0,λ_ _=>0)
def QC(m:Nat)(ts us:List TB):Bool:=decide<|ts.length=m+1/\us.length=m+1
noncomputable def pZ(p:Int)(m:Nat)(wd:UX)(ts us:List TB):Bool:=(MB<|m+1).all λk=>sX p (wd k) (ts.getD k nh)<|us.getD k nh
noncomputable def xi(bs:List (Int×Int))(ts us:List TB):D:= .tup [.lst (zH bs),.lst<|ts.map tD,.lst (us.map tD)]
theorem Jc{n:Nat}{ts:List TB}(h:ts.length=n):ts.map tD=(MB n).map λk=>tD (ts.getD k nh):=by
 conv=>lhs;rw[<- je nh ts]
 rw[Nm,h];rfl
theorem QN{p:Int}{ts:List TB}(h : ∀t∈ts,vr p t){k:Nat}(z:k<ts.length):vr p (ts.getD k nh):=by rw[MI,MF z];exact h _<|Po z
section
variable{p:Int}{m:Nat}{w:UK}{wd:UX}{T:UW}{bs:List (Int×Int)}{ts us:List TB}
def fT(ts:List TB)(k:Nat):Nat->Nat->Int:=(ts.getD k nh).2.2
theorem WY(h:pZ p m wd ts us=d7){k:Nat}(z:k<m+1):sX p (wd k) (ts.getD k nh) (us.getD k nh)=d7:=Ot.mp h k<|MD.mpr z
theorem QF{n:Nat}{t u:TB}(h:sX p n t u=d7):t.1=n/\t.2.1=n/\u.1=n/\u.2.1=n:=by unfold sX at h;rw[MW]at h;exact of_decide_eq_true h.1
theorem bV(O:QC m ts us=d7)(h:pZ p m wd ts us=d7):ts.map tD=xF (m+1) wd (fT ts)/\us.map tD=xF (m+1) wd (fT us):=by
 have I:ts.length=m+1/\us.length=m+1:=of_decide_eq_true O;rw[Jc I.1,Jc I.2];unfold xF;refine⟨MQ λk z=>?_,MQ λk z=>?_⟩
 ·have q:=QF (WY h<|MD.mp z)
  show jf _ _ _=_;rw[q.1,q.2.1];rfl
 ·have q:=QF (WY h<|MD.mp z)
  show jf _ _ _=_;rw[q.2.2.1,q.2.2.2];rfl
theorem An(z:QC m ts us=d7)(h:pZ p m wd ts us=d7)(I : ∀t∈us,vr p t) : ∀k i j,k<m+1->i<wd k->j<wd k->0<=fT us k i j/\fT us k i j<p:=λk i j O a U=>by have Y:ts.length=m+1/\us.length=m+1:=of_decide_eq_true z;have q:=QF<|WY h O;have g:=QN I (k:=k) ⋯;exact g.e i j (by rw[q.2.2.1];exact a) (by rw[q.2.2.2];exact U)
noncomputable def nv(p:Int)(m:Nat)(w:UK)(wd:UX)(T:UW)(bs:List (Int×Int))(ts us:List TB):Bool:=
 (iy ((m+1:Nat):Int) bs && wu bs) && (QC m ts us && pZ p m wd ts us) && ji (z9 p m w wd<|jS p w wd (fT ts) (fT us) T) (BR p m w bs)
end
theorem Cz:xP=jk 12 (zL S9<|zL TU<|zL TV<|zL F0<|zL L8<|zL F1 L9):=rfl
noncomputable def IP:=(zL (iN (vw (j6<|sB<|o5 .tuple<|zc 8)<|vw (sB<|zG i0 (km<|ze 8)<|zq<|.int 2)<|vw (j6<|sB<|zA jt<|zb (eg (ze 8)<|zq<|.int 0) zB)<|j6<|sB<|zA jt<|zb (eg (ze 8)<|zq<|.int 1) zB) (j5<|zq<|.bl eh) qc)<|iN (j6<|sB<|Kv lx lx rh (zq<|.int 0) (eg (ze 8)<|zq<|.int 0) (eg (ze 8)<|zq<|.int 1)<|km<|ze 3) (j5<|zq<|.bl eh) qc)
noncomputable def AZ:=(iN (vw (j6<|sB<|zA jv<|zb (zc 2)<|zb (zc 10)<|zb (zc 9)<|zb (zc 9) zB)<|j6<|sB<|zA jv<|zb (zc 2)<|zb (zc 11)<|zb (zc 9)<|zb (zc 9) zB) (j5<|zq<|.bl eh) qc)
noncomputable def FO:=(iN (sB<|zG i0 (zA jR<|zb (zc 2)<|zb (zc 10)<|zb (zc 11) zB)<|zA kB<|zb (zc 9) zB) (j5<|zq<|.bl eh) qc)
def IM:=zL AZ FO
theorem WB{C:Type}{T:Tg}{F:CO Fl}{g:C->D}{t:C->Bool}{r:Res}(P:Ctx->Prop) : ∀(l:List C) {γ:Ctx},P γ->
 (∀a∈l,∀γ,P γ->∃γ1,ka T (g a) γ=dn γ1/\((t a=d7->∃I,F γ1=dn (.next I)/\P I)/\(t a=eh->F γ1=dn (.ret r))))->
 (l.all t=d7->∃γ',qL T F (l.map g) γ=dn (.next γ')/\P γ')/\(l.all t=eh->qL T F (l.map g) γ=dn (.ret r))
 | [],γ,hp,_=>⟨λ_=>⟨γ,rfl,hp⟩,λh=>by cases h⟩
 | a::l,γ,hp,h=>by
  obtain⟨γ1,d,f,i⟩:=h a (MX ..) γ hp;cases ht:t a with
  | true=>
   obtain⟨I,O,U⟩:=f ht;have Y:=WB P l U λb j=>h b<|MT _ j;have e:qL T F ((a::l).map g) γ=qL T F (l.map g) I:=by rw[Nk,ju,d];simp only[MG,O]
   rw[e,Ss,ht,RM];exact Y
  | false=>
   refine⟨λz=>?_,λ_=>?_⟩
   ·rw[Ss,ht,PY]at z;cases z
   ·rw[Nk,ju,d]
    simp only[MG,i ht]
section
variable{p:Int}{m:Nat}{w:UK}{wd:UX}{T:UW}{bs:List (Int×Int)}{ts us:List TB}
abbrev i8(p:Int)(m:Nat)(w:UK)(wd:UX)(T:UW)(bs:List (Int×Int))(ts us:List TB)(c8 c9 P5 I':Cell):Ctx:=[.val (z9 p m w wd T),.val (xi bs ts us),.val (.int p),.val (.tup (zD (m+1) λk=>(wd k:Int))),.val (.tup (jD m w wd T)),.val (.lst (zH bs)),.val (.lst (ts.map tD)),.val (.lst (us.map tD)),c8,c9,P5,I']
theorem FN:S9 (z7 12 [z9 p m w wd T,xi bs ts us])=dn (.next [.val (z9 p m w wd T),.val<|xi bs ts us,.val<|.int p,.val<|.tup<|zD (m+1) λk=>(wd k:Int),.val<|.tup<|jD m w wd T,.no,.no,.no,.no,.no,.no,.no]):=rfl
theorem FM:TU [.val (z9 p m w wd T),.val<|xi bs ts us,.val<|.int p,.val<|.tup<|zD (m+1) λk=>(wd k:Int),.val<|.tup<|jD m w wd T,.no,.no,.no,.no,.no,.no,.no]=dn (.next [.val (z9 p m w wd T),.val<|xi bs ts us,.val<|.int p,.val<|.tup<|zD (m+1) λk=>(wd k:Int),.val<|.tup<|jD m w wd T,.no,.no,.no,.no,.no,.no,.no]):=rfl
theorem FL:TV [.val (z9 p m w wd T),.val<|xi bs ts us,.val<|.int p,.val<|.tup<|zD (m+1) λk=>(wd k:Int),.val<|.tup<|jD m w wd T,.no,.no,.no,.no,.no,.no,.no]=dn (.next<|i8 p m w wd T bs ts us .no .no .no .no):=rfl
theorem U5:(iy ((m+1:Nat):Int) bs=d7->∃C,F0 (i8 p m w wd T bs ts us .no .no .no .no)=dn (.next<|i8 p m w wd T bs ts us C .no .no .no))/\(iy ((m+1:Nat):Int) bs=eh->F0 (i8 p m w wd T bs ts us .no .no .no .no)=dn (.ret<|.val<|.bl eh)):=by
 have q:=WB (T:= .nm 8) (F:=IP) (g:=λb:Int×Int=>D.tup [.int b.1,.int b.2]) (t:=FB ((m+1:Nat):Int)) (r:= .val (.bl eh)) (λγ=>∃C,γ=i8 p m w wd T bs ts us C .no .no .no) bs (γ:=i8 p m w wd T bs ts us .no .no .no .no) ⟨_,rfl⟩ (by
  rintro⟨a,b⟩ _ γ ⟨C,rfl⟩;refine⟨i8 p m w wd T bs ts us (.val<|.tup [.int a,.int b]) .no .no .no,rfl,?_⟩;have Y:(iN (vw (j6<|sB<|o5 .tuple<|zc 8)<|vw (sB<|zG i0 (km<|ze 8)<|zq<|.int 2)<|vw (j6<|sB<|zA jt<|zb (eg (ze 8)<|zq<|.int 0) zB)<|j6<|sB<|zA jt<|zb (eg (ze 8)<|zq<|.int 1) zB) (j5<|zq<|.bl eh) qc) (i8 p m w wd T bs ts us (.val<|.tup [.int a,.int b]) .no .no .no)=dn (.next<|i8 p m w wd T bs ts us (.val<|.tup [.int a,.int b]) .no .no .no):=rfl;have wl:(zD (m+1) λk=>(wd k:Int)).length=m+1:=by simp[zD]
  have l:h6 2 0=dn 0:=rfl;have n:h6 2 1=dn 1:=rfl;have i:j6 (sB<|Kv lx lx rh (zq<|.int 0) (eg (ze 8)<|zq<|.int 0) (eg (ze 8)<|zq<|.int 1)<|km<|ze 3) (i8 p m w wd T bs ts us (.val<|.tup [.int a,.int b]) .no .no .no)=dn (!FB ((m+1:Nat):Int) (a,b)):=by
   simp only[i8,Yb,bJ,ma,xA,kc,jL,lV,MJ,ML,MY,Nj,NA,NV,zW,jZ,MG,MP,jU,l,n,wl,Aw,Av,Kd];unfold FB;by_cases d:0<=a
   ·by_cases f:a<=b
    ·by_cases O:b<((m+1:Nat):Int)
     ·have I:0<=a/\a<((m+1:Nat):Int)/\0<=b/\b<((m+1:Nat):Int)/\a<=b:=⟨d,by omega,by omega,O,f⟩
      rw[decide_eq_true d,decide_eq_true f,decide_eq_true O,decide_eq_true I];rfl
     ·have I : ¬(0<=a/\a<((m+1:Nat):Int)/\0<=b/\b<((m+1:Nat):Int)/\a<=b):=λz=>O z.2.2.2.1
      rw[decide_eq_true d,decide_eq_true f,decide_eq_false O,decide_eq_false I];rfl
    ·have I : ¬(0<=a/\a<((m+1:Nat):Int)/\0<=b/\b<((m+1:Nat):Int)/\a<=b):=λz=>f z.2.2.2.2
     rw[decide_eq_true d,decide_eq_false f,decide_eq_false I];rfl
   ·have I : ¬(0<=a/\a<((m+1:Nat):Int)/\0<=b/\b<((m+1:Nat):Int)/\a<=b):=λz=>d z.1
    rw[decide_eq_false d,decide_eq_false I];rfl
  refine⟨λU=>⟨i8 p m w wd T bs ts us (.val<|.tup [.int a,.int b]) .no .no .no,?_,_,rfl⟩,λU=>?_⟩
  ·refine zo Y ?_
   rw[v9,i,U];rfl
  ·refine zo Y ?_
   rw[v9,i,U];rfl)
 have e:F0 (i8 p m w wd T bs ts us .no .no .no .no)=qL (.nm 8) IP (bs.map λb:Int×Int=>D.tup [.int b.1,.int b.2]) (i8 p m w wd T bs ts us .no .no .no .no):=rfl;rw[e];refine⟨λh=>?_,λh=>q.2 h⟩;obtain⟨o,j,C,rfl⟩:=q.1 h;exact⟨C,j⟩
theorem LV(I:bs.length<64)(C:Cell):L8 (i8 p m w wd T bs ts us C .no .no .no)=if (wu bs && QC m ts us)=d7 then dn (.next<|i8 p m w wd T bs ts us C .no .no .no)else dn (.ret<|.val<|.bl eh):=by
 have O:=YL I;have q:=iT (XU bs)<|XU<|kQ bs;have U:i0 (.lst<|zH bs) (.lst<|zH<|kQ bs)=dn (.bl<|!wu bs):=by rw[q,show ji (.lst<|zH bs) (.lst<|zH<|kQ bs)=p9 (zH bs) (zH<|kQ bs)from rfl,Vw];rfl
 have wl:(zD (m+1) λk=>(wd k:Int)).length=m+1:=by simp[zD]
 have Y : ∀a b:Int,i0 (.int a) (.int b)=dn (.bl<|!(a==b)):=λa b=>by rw[iT rfl rfl];rfl
 have d:(vw (sB<|zG i0 (zc 5)<|j3<|YN<|ze 5)<|vw (sB<|zG i0 (km<|ze 6)<|km<|ze 3)<|sB<|zG i0 (km<|ze 7)<|km<|ze 3) (i8 p m w wd T bs ts us C .no .no .no)=dn (!(wu bs && QC m ts us)):=by
  simp only[i8,VO,bJ,kY,yo,pV,lV,jL,qr,MJ,ML,zW,zO,xx,jZ,MG,MP,Nf,O,U,Y,Kd,wl];unfold QC;cases wu bs with
  | false=>rfl
  | true=>
   by_cases e:ts.length=m+1<;>by_cases f:us.length=m+1<;>simp[e,f,Int.natCast_inj]
   ·intro z;omega
   ·intro z;omega
   ·intro z;omega
 unfold L8;rw[v9,d];cases wu bs && QC m ts us<;>rfl
theorem LU(p0:0<p)(p7:p<=7)(hm:m<=5)(Z : ∀k,wd k<=60)(ht : ∀t∈ts,vr p t)(hu : ∀t∈us,vr p t)(hl:QC m ts us=d7)(C:Cell):(pZ p m wd ts us=d7->∃S J L,F1 (i8 p m w wd T bs ts us C .no .no .no)=dn (.next<|i8 p m w wd T bs ts us C S J L))/\(pZ p m wd ts us=eh->F1 (i8 p m w wd T bs ts us C .no .no .no)=dn (.ret<|.val<|.bl eh)):=by
 have G:ts.length=m+1/\us.length=m+1:=of_decide_eq_true hl;have q:=WB (T:= .tp [9,10,11]) (F:=IM) (g:=λk:Nat=>D.tup [.int (wd k:Int),tD<|ts.getD k nh,tD (us.getD k nh)]) (t:=λk=>sX p (wd k) (ts.getD k nh)<|us.getD k nh) (r:= .val (.bl eh)) (λγ=>∃S J L,γ=i8 p m w wd T bs ts us C S J L) (MB<|m+1) (γ:=i8 p m w wd T bs ts us C .no .no .no) ⟨_,_,_,rfl⟩ (by
  rintro k H γ ⟨S,J,L,rfl⟩;have H:=MD.mp H;have y:=QN ht (k:=k) ⋯;have d:=QN hu (k:=k) ⋯;have P:=Z k;refine⟨i8 p m w wd T bs ts us C (.val<|.int (wd k:Int)) (.val<|tD<|ts.getD k nh)<|.val<|tD<|us.getD k nh,rfl,?_⟩;generalize ts.getD k nh=t at y ⊢;generalize us.getD k nh=u at d ⊢;generalize wd k=n at P ⊢;obtain⟨a,U,I⟩:=t;obtain⟨Y,b,O⟩:=u;have W:a<=60:=y.h;have X:U<=60:=y.w;have b6:Y<=60:=d.h;have b7:b<=60:=d.w;have b1:=X3 (p:=p) I (show a<=400 by omega) (show U<=400 by omega) y.e n n;have b2:=X3 (p:=p) O (show Y<=400 by omega) (show b<=400 by omega) d.e n n;have b3:=VV (p:=p) (h:=n) (m:=n) (w:=n) I O p0 ⋯ ⋯ ⋯;have b4:=BG (n:=n) ⋯;show(sX p n (a,U,I) (Y,b,O)=d7->_)/\(sX p n (a,U,I) (Y,b,O)=eh->_);have B:(vw (j6<|sB<|zA jv<|zb (zc 2)<|zb (zc 10)<|zb (zc 9)<|zb (zc 9) zB)<|j6<|sB<|zA jv<|zb (zc 2)<|zb (zc 11)<|zb (zc 9)<|zb (zc 9) zB) (i8 p m w wd T bs ts us C (.val<|.int (n:Int)) (.val<|jf a U I)<|.val<|jf Y b O)=dn (!decide (a=n/\U=n/\Y=n/\b=n)):=by simp only[i8,VO,Yb,bJ,xM,jb,xl,qr,MJ,ML,zO,MG,MP,b1,b2,mD,Kd];by_cases f:a=n<;>by_cases l:U=n<;>by_cases o:Y=n<;>by_cases s:b=n<;>simp[f,l,o,s]
  by_cases A:a=n/\U=n/\Y=n/\b=n
  ·have x:AZ (i8 p m w wd T bs ts us C (.val<|.int (n:Int)) (.val<|jf a U I)<|.val<|jf Y b O)=dn (.next<|i8 p m w wd T bs ts us C (.val<|.int (n:Int)) (.val<|jf a U I)<|.val<|jf Y b O):=by
    unfold AZ;rw[v9,B,decide_eq_true A];rfl
   obtain⟨f,l,o,s⟩:=A;replace f:=f.symm;replace l:=l.symm;replace o:=o.symm;replace s:=s.symm;subst f l o s;have b3:=b3 (λi j M N=>by have:=d.e i j M N;simp only at this;omega);have Q:=iT (Wi n n λi j=>zg (λk=>I i k*O k j) n%p)<|Wi n n λi j=>if i=j then 1 else 0;have E:sB (zG i0 (zA jR<|zb (zc 2)<|zb (zc 10)<|zb (zc 11) zB)<|zA kB<|zb (zc 9) zB) (i8 p m w wd T bs ts us C (.val<|.int (n:Int)) (.val<|jf n n I)<|.val<|jf n n O)=dn (!sX p n (n,n,I) (n,n,O)):=by simp only[i8,bJ,kY,xM,jb,xl,qr,MJ,ML,zO,MG,MP,b3,b4,mD,Q,Kd,sX,uq,VZ,and_self,decide_true,RM]
   refine⟨λz=>⟨i8 p m w wd T bs ts us C (.val<|.int (n:Int)) (.val<|jf n n I)<|.val<|jf n n O,?_,_,_,_,rfl⟩,λz=>?_⟩
   ·refine zo x ?_
    unfold FO;rw[v9,E,z];rfl
   ·refine zo x ?_
    unfold FO;rw[v9,E,z];rfl
  ·have e:sX p n (a,U,I) (Y,b,O)=eh:=by
    unfold sX;rw[decide_eq_false A];rfl
   have x:AZ (i8 p m w wd T bs ts us C (.val<|.int (n:Int)) (.val<|jf a U I)<|.val<|jf Y b O)=dn (.ret<|.val<|.bl eh):=by unfold AZ;rw[v9,B,decide_eq_false A];rfl
   refine⟨λz=>?_,λ_=>?_⟩
   ·rw[e]at z;cases z
   ·show zL AZ FO (i8 p m w wd T bs ts us C (.val<|.int (n:Int)) (.val<|jf a U I)<|.val<|jf Y b O)=_
    rw[jg,x];rfl)
 have z:Kh (zD (m+1) λk=>(wd k:Int)) (ts.map tD) (us.map tD)=(MB<|m+1).map λk=>D.tup [.int (wd k:Int),tD<|ts.getD k nh,tD (us.getD k nh)]:=by rw[Jc G.1,Jc G.2];unfold Kh zD;rw[OP,OP,Nm];rfl
 have e:F1 (i8 p m w wd T bs ts us C .no .no .no)=qL (.tp [9,10,11]) IM ((MB<|m+1).map λk=>D.tup [.int (wd k:Int),tD<|ts.getD k nh,tD (us.getD k nh)]) (i8 p m w wd T bs ts us C .no .no .no):=by rw[<- z];rfl
 rw[e];refine⟨λh=>?_,λh=>q.2 h⟩;obtain⟨R,K,S,J,L,rfl⟩:=q.1 h;exact⟨S,J,L,K⟩
theorem Xt(Y:0<p)(Z:p<=7)(C:m<=5)(J : ∀k,wd k<=60)(hT : ∀k i j,k<m->i<fy w wd k->j<fA w wd k->0<=T k i j/\T k i j<p)(L:bs.length<64)(ht : ∀t∈ts,vr p t)(S : ∀t∈us,vr p t) :
 xP [z9 p m w wd T,xi bs ts us]=dn (.val<|.bl<|nv p m w wd T bs ts us):=by
 have E:=js;rw[Cz];unfold nv;cases g1:iy ((m+1:Nat):Int) bs with
 | false=>
  simp only[PY];exact jl (zo FN<|zo FM<|zo FL<|by rw[jg,U5.2 g1];rfl)
 | true=>
  obtain⟨d,U⟩:=(U5 (p:=p) (w:=w) (wd:=wd) (T:=T) (ts:=ts) (us:=us)).1 g1;have z:=LV (p:=p) (m:=m) (w:=w) (wd:=wd) (T:=T) (ts:=ts) (us:=us) L d;cases g2:(wu bs && QC m ts us)with
  | false=>
   rw[g2,UY ⋯]at z;have e:(d7 && wu bs && (QC m ts us && pZ p m wd ts us) && ji (z9 p m w wd<|jS p w wd (fT ts) (fT us) T) (BR p m w bs))=eh:=by rw[RM,<- Bool.and_assoc,g2,PY,PY]
   rw[e];exact jl (zo FN<|zo FM<|zo FL<|zo U<|by rw[jg,z];rfl)
  | true=>
   rw[g2,UJ rfl]at z;rw[MW]at g2;obtain⟨g2,I⟩:=g2;have O:=LU (w:=w) (T:=T) (bs:=bs) Y Z C J ht S I d;cases g4:pZ p m wd ts us with
   | false=>
    simp only[Bool.and_false,PY];exact jl (zo FN<|zo FM<|zo FL<|zo U<|zo z<|by rw[jg,O.2 g4];rfl)
   | true=>
    obtain⟨g,a,b,O⟩:=O.1 g4;rw[g2,I];simp only[RM,Sv];obtain⟨A,B⟩:=bV I g4;have l:=cZ (f:=fT ts) Y Z C J hT (An I g4 S);rw[<- A,<- B]at l;have r:=ZZ (p:=p) (w:=w) C L;have q:=ET (uO p m w wd (jS p w wd (fT ts) (fT us) T)) (Eh (p:=p) (m:=m) (w:=w) (bs:=bs));have o:fi (zq (.str "")) (jj (zM (zK (ze 4)) (.nm 0) 1 [] jd (eg (ze 0) (zq (.int 0))))) (i8 p m w wd T bs ts us d g a b)=dn (.str (jW m w)):=by
     have h:m<=lim:=by omega
     have st:Kp ((MB m).map λk=>D.str<|xu<|gB<|w k)=dn ((MB m).map λk=>xu<|gB<|w k):=Jd _ _;have y:((MB m).map λk=>xu<|gB<|w k).all qb=d7:=by simp only[Ot];intro x n;obtain⟨k,_,rfl⟩:=Nb.mp n;unfold gB;split<;>decide
     have s:qb "" = d7:=by decide +kernel
     simp only[i8,lX,xA,xy,jM,xV,jL,MJ,ML,zW,jZ,MG,MP];rw[Zf,UJ h,show ja 1 [] (i8 p m w wd T bs ts us d g a b)=[Cell.no]from rfl,Yo];simp only[MP,MG,st];rw[UJ ⟨by simpa using h,y,s⟩];rfl
    have u:L9 (i8 p m w wd T bs ts us d g a b)=dn (.ret<|.val<|.bl<|ji (z9 p m w wd<|jS p w wd (fT ts) (fT us) T)<|BR p m w bs):=by unfold L9;rw[yn,kY,xM,xM,jb,jb,jb,xl,jb,jb,jb,xl,o];simp only[i8,qr,MJ,ML,zO,MG,MP,l,r,mD,q]
    exact jl<|zo FN<|zo FM<|zo FL<|zo U<|zo z<|zo O u
end
theorem tE:qz=jk 12 (zL M8<|zL M9<|zL mZ Bx):=rfl
section
variable{p:Int}{n:Nat}
theorem mY(hp:Pr p)(Z:n<=60){f g:UV}(h:Pair p n f g){u o:Nat}{tm:Int}(I:u<n)(O:o<n)(hc : ¬u=o)(ht:0<=tm/\tm<p)(C Y J L ak:Cell) :
 ∃f' g' S,Pair p n f' g'/\GJ [C,Y,.val<|.int p,.val<|.int n,.own<|jx n f,.nest<|xt n g,J,L,.val<|.int o,.val<|.int u,.val<|.int tm,ak]=dn (.next [C,Y,.val<|.int p,.val<|.int n,.own<|jx n f',.nest<|xt n g',J,L,.val<|.int o,.val<|.int u,.val<|.int tm,S]):=by
 have B:=js;have Z:n<=lim:=by omega
 have l:=hp.pos;have E:=hp.le;have r : ∀z:Int,0<=z%p/\z%p<p:=λz=>⟨NG _ ⋯,Nr _ l⟩;have m : ∀x,Kb tm x=d7:=λx=>w6 _ _ ⋯ ⋯;refine⟨λi j=>if i=o then (f o j+tm*f u j)%p else f i j,λi j=>if j=u then (g i u - tm*g i o)%p else g i j,.no,⟨λi j d U=>?_,λi j d U=>?_,?_,?_⟩,?_⟩
 ·by_cases e:i=o
  ·simp only[UJ e];exact r _
  ·simp only[UY e];exact h.bf i j d U
 ·by_cases e:j=u
  ·simp only[UJ e];exact r _
  ·simp only[UY e];exact h.bg i j d U
 ·refine mP (t:=tm) (u:=o) (o:=u) O I (Ny hc) h.fg (λi k _ _=>?_) (λk j _ _=>?_)
  ·by_cases e:i=o
   ·simp only[UJ e];rw[Nl,e]
   ·simp only[UY e,PJ,OY]
  ·by_cases e:j=u
   ·simp only[UJ e];rw[Nl,e,Int.neg_mul];rfl
   ·simp only[UY e,PJ,OY]
 ·refine dS (t:=tm) (u:=o) (o:=u) O I (Ny hc) h.gf (λi k _ _=>?_) (λk j _ _=>?_)
  ·by_cases e:i=o
   ·simp only[UJ e];rw[Nl,e]
   ·simp only[UY e,PJ,OY]
  ·by_cases e:j=u
   ·simp only[UJ e];rw[Nl,e,Int.neg_mul];rfl
   ·simp only[UY e,PJ,OY]
 ·have s:zT (.tp [0,1]) jd (zG yh (zG qo (zc 0)<|zG yG (zc 3)<|zc 1)<|zc 2) [Cell.no,Cell.no,Cell.val<|.int p,Cell.val (.int tm)] ((MB n).map λj=>D.tup [.int (f o j),.int (f u j)])=dn (zD n λj=>(f o j+tm*f u j)%p):=by
   rw[z5];refine zv _ _ λj U=>zx rfl rfl ?_;simp[m,l]
  have y:=fC O f (λi j=>if i=o then (f o j+tm*f u j)%p else f i j) (λj=>(f o j+tm*f u j)%p) (λj _=>by simp) (λi j _ b _=>by simp[b]);have w : ∀a:Cell,kW 5 11 (zc 9) (zG yh (zG QV (eg (ze 11)<|zc 9)<|zG yG (zc 10)<|eg (ze 11)<|zc 8)<|zc 2) [C,Y,.val<|.int p,.val<|.int n,a,.nest<|xt n g,J,L,.val<|.int o,.val<|.int u,.val<|.int tm,ak] (xt n g)=dn (xt n λi j=>if j=u then (g i u - tm*g i o)%p else g i j):=λa=>by
   unfold xt;refine X8 _ λk A=>⟨.int<|(g k u - tm*g k o)%p,u,u,?_,rfl,?_,WH I _ _ _ ⋯ λi _ b=>by simp[b]⟩
   ·simp[yZ,I,O,m,l]
   ·simp[I]
  simp[GJ,jg,I,O,Z,ja,MH,wa,s,y,w]
theorem Bo{C:List Int}(S:C.length<=63)(O:Pr p)(hn:n<=60){a:Int}(h0:0<=a)(h1:a<=10000) :
 ∃f g,Pair p n f g/\qz [XB C,.int a,.int p,.int n]=dn (.val<|.tup [.lst (jx n f),.lst (jx n g)]):=by
 have hl:=js;have z:n<=lim:=by omega
 have L:=O.pos;have two:=O.two;have p7:=O.le;have B : ∀i:Nat,zT (.nm 0) jd (kh<|zG hG (zc 1)<|zc 0) [Cell.no,Cell.val (.int i)] ((MB n).map λ(j:Nat)=>D.int j)=dn (zD n<|iU i):=λi=>by
  rw[z5];refine zv _ _ λj hj=>zx rfl rfl ?_;by_cases e:i=j
  ·subst e;simp[iU]
  ·have e' : ¬((i:Int)=(j:Int)):=by omega
   simp[iU,e,e']
 have R:zT (.nm 0) jd (j3<|zM (z6<|zc 1) (.nm 0) 1 [0] jd (kh<|zG hG (zc 1)<|zc 0)) [Cell.no,Cell.val (.int n)] ((MB n).map λ(j:Nat)=>D.int j)=dn (jx n iU):=by unfold jx;refine zv _ _ λi A=>zx rfl rfl ?_;simp[z,jX,ja,MH];rw[z5 n λi=>(i:Int),B]
 have W:vX (.nm 0) (zM (z6<|zc 1) (.nm 0) 1 [0] jd (kh<|zG hG (zc 1)<|zc 0)) [Cell.no,Cell.val (.int n)] ((MB n).map λ(j:Nat)=>D.int j)=dn (xt n iU):=by unfold xt;refine Vy _ λi A=>⟨_,rfl,?_⟩;simp[z,jX,ja,MH];rw[z5 n λi=>(i:Int),B]
 have ZT:Pair p n iU iU:=by
  have b : ∀i j:Nat,i<n->j<n->0<=iU i j/\iU i j<p:=λi j _ _=>by unfold iU;split<;>omega
  have u:Ye p n iU iU:=λi j A hj=>by rw[zV (i:=i) A λk _ X=>by unfold iU;rw[UY (Ny X)];simp];simp[iU]
  exact⟨b,b,u,u⟩
 let γ:Cell->Cell->Cell->Cell->Cell->Cell->Cell->Cell->Ctx:=λc4 c5 x w s r h d=>[.val (XB C),.val<|.int a,.val<|.int p,.val<|.int n,c4,c5,x,w,s,r,h,d];have s1:M8 (γ .no .no .no .no .no .no .no .no)=dn (.next<|γ (.own<|jx n iU) .no .no .no .no .no .no .no):=by unfold M8;simp[γ,z,jX,ja,MH];rw[z5 n λi=>(i:Int),R]
 have s2:M9 (γ (.own<|jx n iU) .no .no .no .no .no .no .no)=dn (.next<|γ (.own<|jx n iU) (.nest<|xt n iU) .no .no .no .no .no .no):=by unfold M9;simp[γ,z,jX,ja,MH];rw[z5 n λi=>(i:Int),W];simp[X4,z]
 obtain⟨f,g,x,w,s,r,h,d,I,U⟩ : ∃f g x w s r h d,Pair p n f g/\mZ (γ (.own<|jx n iU) (.nest<|xt n iU) .no .no .no .no .no .no)=dn (.next<|γ (.own<|jx n f) (.nest<|xt n g) x w s r h d):=by
  have cm:Kb 2 (n:Int)=d7:=w6 _ _ ⋯ ⋯;by_cases n0:n=0
  ·refine⟨iU,iU,.no,.no,.no,.no,.no,.no,ZT,?_⟩
   have e:z6 (zG QV (zG yG (zq<|.int 2)<|zc 3)<|zq<|.int 2) (γ (.own<|jx n iU) (.nest<|xt n iU) .no .no .no .no .no .no)=dn []:=by subst n0;rfl
   unfold mZ;rw[Zj,e];rfl
  obtain⟨γ',U,f,g,x,w,s,r,h,d,I,rfl⟩:=xK (T:= .nm 6) (F:=IF) (f:=zG QV (zG yG (zq<|.int 2)<|zc 3)<|zq<|.int 2)
   (λt y=>∃f g x w s r h d,Pair p n f g/\y=γ (.own<|jx n f) (.nest<|xt n g) x w s r h d)
   (2*n - 2) ⋯ (γ:=γ (.own<|jx n iU) (.nest<|xt n iU) .no .no .no .no .no .no) (by
     have:((2*n - 2:Nat):Int)=2*(n:Int) - 2:=by omega
     rw[this];simp[γ,cm]) ⟨iU,iU,.no,.no,.no,.no,.no,.no,ZT,rfl⟩ (by
     rintro t ht y ⟨f,g,x,w,s,r,h,d,I,rfl⟩;have bx:2<=n:=by omega
     obtain⟨G,M,b1⟩:=WL S (k:=a+(t:Int)) ⋯ ⋯;generalize yi C (a+(t:Int))=cell at G M b1;obtain⟨o,eo,ho⟩:=XW (m:=cell) (n:Int) ⋯;have x1:=NG (cell/8) (show(n:Int) - 1≠0 by omega);have x2:=Nr (cell/8) (show 0<(n:Int) - 1 by omega);obtain⟨u,Y,hu⟩:=XW (m:=(o:Int)+1+cell/8%((n:Int) - 1)) (n:Int) ⋯;have Z : ¬u=o:=λe=>by
      by_cases l:(o:Int)+1+cell/8%((n:Int) - 1)<n
      ·rw[NU ⋯ l]at Y
       omega
      ·have e3:((o:Int)+1+cell/8%((n:Int) - 1))%n=((o:Int)+1+cell/8%((n:Int) - 1) - n)%n:=(Int.sub_emod_right _ _).symm
       rw[e3,NU ⋯ ⋯]at Y;omega
     have t1:=NG (cell/64) (show p≠0 by omega);have t2:=Nr (cell/64) L;obtain⟨H,J,bb,bd,es⟩:=mY O hn I (u:=u) (o:=o) (tm:=cell/64%p) ⋯ ⋯ Z ⟨t1,t2⟩ (.val<|XB C) (.val<|.int a) (.val<|.int t) (.val<|.int cell) d;refine⟨γ (.own<|jx n f) (.nest<|xt n g) (.val<|.int t) w s r h d,γ (.own<|jx n H) (.nest<|xt n J) (.val<|.int t) (.val<|.int cell) (.val<|.int o) (.val<|.int u) (.val<|.int<|cell/64%p) bb,rfl,?_,H,J,_,_,_,_,_,_,bd,rfl⟩;have E:(0:Int)<(n:Int):=by omega
     have K:0<n:=by omega
     have nm:0<(n:Int) - 1:=by omega
     have be:1<n:=by omega
     have N:(jy 7<|zA jO<|zb (zc 0)<|zb (zG qo (zc 1)<|zc 6) zB) (γ (.own<|jx n f) (.nest<|xt n g) (.val<|.int t) w s r h d)=dn (.next<|γ (.own<|jx n f) (.nest<|xt n g) (.val<|.int t) (.val<|.int cell) s r h d):=by simp[γ,G]
     have P:(jy 8<|zG yh (zc 7)<|zc 3) (γ (.own<|jx n f) (.nest<|xt n g) (.val<|.int t) (.val<|.int cell) s r h d)=dn (.next<|γ (.own<|jx n f) (.nest<|xt n g) (.val<|.int t) (.val<|.int cell) (.val<|.int o) r h d):=by simp[γ,E,K,eo]
     have Q:(jy 9<|zG yh (zG qo (zG qo (zc 8)<|zq<|.int 1)<|zG yh (zG K6 (zc 7)<|zq<|.int 8)<|zG QV (zc 3)<|zq<|.int 1)<|zc 3) (γ (.own<|jx n f) (.nest<|xt n g) (.val<|.int t) (.val<|.int cell) (.val<|.int o) r h d)=dn (.next<|γ (.own<|jx n f) (.nest<|xt n g) (.val<|.int t) (.val<|.int cell) (.val<|.int o) (.val<|.int u) h d):=by
      have U4:(1:Int)<(n:Int):=by omega
      simp[γ,E,K,nm,be,U4,Y]
     have bl:(jy 10<|zG yh (zG K6 (zc 7)<|zq<|.int 64)<|zc 2) (γ (.own<|jx n f) (.nest<|xt n g) (.val<|.int t) (.val<|.int cell) (.val<|.int o) (.val<|.int u) h d)=dn (.next<|γ (.own<|jx n f) (.nest<|xt n g) (.val<|.int t) (.val<|.int cell) (.val<|.int o) (.val<|.int u) (.val<|.int<|cell/64%p) d):=by simp[γ,L]
     exact zo N<|zo P<|zo Q<|zo bl es)
  exact⟨f,g,x,w,s,r,h,d,I,U⟩
 refine⟨f,g,I,?_⟩;rw[tE];refine jl<|zo s1<|zo s2<|zo U ?_;show nz 5 _ (γ (.own<|jx n f) (.nest<|xt n g) x w s r h d)=_;have l2:2<=lim:=by omega
 rw[<- fB n g];simp[nz,mC,γ,w5,q8,l2]
end
structure f7 where
 s:Nat
 n:Nat
 v:Nat->Vc
def f7.has(b:f7)(r:Nat):Bool:=decide (b.s<=r) && decide (r<b.s+b.n)
theorem kA{b:f7}{r:Nat}:b.has r=d7↔b.s<=r/\r<b.s+b.n:=by simp[f7.has]
def mB:f7:=⟨0,0,λ_ _=>0⟩
structure n4(p:Int)(w:UK)(wd:UX)(T:UW)(k:Nat)(b:f7):Prop where
 n1:1<=b.n
 le:b.s+b.n<=k+1
 ly : ∀r i,b.has r=d7->i<wd r->0<=b.v r i/\b.v r i<p
 arr : ∀j,j<k->b.has (zJ w j)=d7->∀i,i<wd (zX w j)->app (T j) (wd<|zJ w j) (b.v<|zJ w j) i%p=(if b.has (zX w j)=d7 then b.v (zX w j) i else 0)%p
noncomputable def Ord(w:UK)(a b:f7):Prop:=(a.s<b.s->w (b.s - 1)=d7)/\(b.s<a.s->w (a.s - 1)=eh)
def Lr(C:List f7)(r:Nat):Vc->Prop:=λg=>∃b,b∈C/\b.has r=d7/\g=b.v r
noncomputable def o1(p:Int)(A:Nat->f7)(N:Nat)(t:Vc)(r:Nat):Vc:=λc=>zg (λj=>if (A j).has r=d7 then t j*(A j).v r c else 0) N%p
def DV(p:Int)(A:Nat->f7)(N:Nat)(t:Vc)(i:Nat):f7:=⟨(A i).s,(A i).n,o1 p A N t⟩
section
variable{p:Int}{w:UK}{wd:UX}{T:UW}{k N:Nat}{A:Nat->f7}
theorem yH(f:UV)(h:Nat)(t:Vc)(u:Nat->Vc)(n:Nat)(i:Nat):app f h (λc=>zg (λj=>t j*u j c) n) i=zg (λj=>t j*app f h (u j) i) n:=by
 unfold app;have e:zg (λj=>f i j*zg (λk=>t k*u k j) n) h=zg (λj=>zg (λk=>t k*(f i j*u k j)) n) h:=zw λj _=>by rw[<- jK];exact zw λk _=>by rw[<- Ov,<- Ov,NX (f i j)]
 rw[e,q9];exact zw λj _=>jK ..
theorem Aa(c:Prop) [Decidable c](x y:Int):(if c then x*y else 0)=x*(if c then y else 0):=by split<;>simp
theorem lS(f:UV)(h r:Nat)(t:Vc)(i:Nat):app f h (o1 p A N t r) i%p=zg (λj=>t j*(if (A j).has r=d7 then app f h ((A j).v r) i else 0)) N%p:=by
 have e:app f h (o1 p A N t r) i%p=app f h (λc=>zg (λj=>t j*(if (A j).has r=d7 then (A j).v r c else 0)) N) i%p:=jV (λc _=>by unfold o1;rw[Nl];congr 1;exact zw λj _=>Aa ..) i
 rw[e,yH];congr 1;refine zw λj _=>?_;congr 1;by_cases z:(A j).has r=d7
 ·simp only[UJ z]
 ·simp only[UY z]
  unfold app;simp[zR]
theorem El(L:0<p)(C : ∀j,j<N->n4 p w wd T k (A j))(hk : ∀j,j<N->(A j).has k=d7){t:Vc}{i:Nat}(hi:i<N)(J : ∀c,i<c->c<N->Ord w (A i) (A c))(tz : ∀c,c<i->t c=0) :
 n4 p w wd T k (DV p A N t i):=by
 refine⟨(C i hi).n1,(C i hi).le,λr c _ _=>⟨NG _ ⋯,Nr _ L⟩,λj l O c h=>?_⟩;have O:(A i).has (zJ w j)=d7:=O;show app (T j) (wd<|zJ w j) (o1 p A N t<|zJ w j) c%p=(if (A i).has (zX w j)=d7 then o1 p A N t (zX w j) c else 0)%p;rw[lS];have g : ∀I,I<N->t I≠0->((A i).has (zX w j)=d7->(A I).has (zX w j)=d7->(A I).has (zJ w j)=d7)/\((A i).has (zX w j)=eh->(A I).has (zJ w j)=d7->(A I).has (zX w j)=eh):=λI U d=>by
  have y:=kA.mp<|hk i hi;have B:=kA.mp<|hk I U;have Y:i<=I:=Nat.not_lt.mp λz=>d<|tz I z;rcases Nat.lt_or_eq_of_le Y with Y | Y
  ·obtain⟨u,x⟩:=J I Y U
   have O:=kA.mp O;cases hw:w j with
   | false=>
    have b:zJ w j=j:=by unfold zJ;rw[hw];rfl
    have e:zX w j=j+1:=by unfold zX;rw[hw];rfl
    rw[b]at O;rw[b,e];refine⟨λ_ q=>kA.mpr ?_,λq _=>?_⟩
    ·have q:=kA.mp q
     refine⟨Nat.not_lt.mp λz=>?_,by omega⟩;have f:(A I).s=j+1:=by omega
     have:=u ⋯;rw[f]at this;simp[hw]at this
    ·exfalso
     have:(A i).has (j+1)=d7:=kA.mpr ⋯;rw[this]at q;cases q
   | true=>
    have b:zJ w j=j+1:=by unfold zJ;rw[hw];rfl
    have e:zX w j=j:=by unfold zX;rw[hw];rfl
    rw[b]at O;rw[b,e];refine⟨λ_ q=>kA.mpr ?_,λq _=>?_⟩
    ·have q:=kA.mp q
     omega
    ·cases a:(A I).has j with
     | false=>rfl
     | true=>
      exfalso;have a:=kA.mp a;have f:(A i).s=j+1:=by
       have : ¬((A i).s<=j):=λz=>by have:(A i).has j=d7:=kA.mpr ⋯;rw[this]at q;cases q
       omega
      have:=x ⋯;rw[f]at this;simp[hw]at this
  ·subst Y
   exact⟨λ_ _=>O,λq _=>q⟩
 have m:zg (λI=>t I*(if (A I).has (zJ w j)=d7 then app (T j) (wd<|zJ w j) ((A I).v (zJ w j)) c else 0)) N%p
  = zg (λI=>if (A i).has (zX w j)=d7 then (if (A I).has (zX w j)=d7 then t I*(A I).v (zX w j) c else 0)else 0) N%p:=zQ λI U=>by
  by_cases d:t I=0
  ·simp[d]
  obtain⟨n,o⟩:=g I U d;cases a:(A i).has (zX w j)with
  | false=>
   cases hy:(A I).has (zJ w j)with
   | false=>simp
   | true=>
    have q:=(C I U).arr j l hy c h;rw[o a hy]at q;simp only[if_true];rw[MO,q];simp
  | true=>
   cases hy:(A I).has (zJ w j)with
   | false=>
    cases hz:(A I).has (zX w j)with
    | false=>simp
    | true=>rw[n a hz]at hy;cases hy
   | true=>
    have q:=(C I U).arr j l hy c h;simp only[if_true];rw[MO,q,<- MO];congr 1;cases hz:(A I).has (zX w j)<;>simp
 rw[m];cases a:(A i).has (zX w j)with
 | false=>simp[zR]
 | true=>
  simp only[if_true];unfold o1;rw[Nl]
theorem oH{G':Vc->Prop}{r n:Nat}{A':Nat->f7}(t:Nat->Vc)(C : ∀i,i<N->t i i=1)(S : ∀i c,i<N->c<i->t i c=0)
 (J : ∀i,i<N->(A i).has r=d7->Span p n G' ((A' i).v r)) (L : ∀i,i<N->(A i).has r=d7->∀c,c<n->(A' i).v r c%p=o1 p A N (t i) r c%p) :
 ∀i,i<N->(A i).has r=d7->Span p n G' ((A i).v r):=by
 have f : ∀d i,N - i<=d->i<N->(A i).has r=d7->Span p n G' ((A i).v r):=by
  intro d
  induction d with
  | zero=>intro i e a;omega
  | succ d w=>
   intro i e a O;have u:Span p n G' λc=>zg (λj=>(if j=i then 0 else if (A j).has r=d7 then t i j else 0)*(A j).v r c) N:=by
    have gen : ∀M,M<=N->Span p n G' λc=>zg (λj=>(if j=i then 0 else if (A j).has r=d7 then t i j else 0)*(A j).v r c) M:=by
     intro M
     induction M with
     | zero=>intro _;exact .zero λc _=>by simp[zg]
     | succ M g=>
      intro x;have q:=g ⋯;by_cases I:M=i\/¬((A M).has r=d7)\/M<i
      ·refine q.congr λc _=>?_
       show(zg _ M+_)%p=_;rcases I with I | I | I
       ·simp[I]
       ·simp[I]
       ·have z:=S i M a I;simp only[z];simp
      ·have h:M≠i/\(A M).has r=d7/\¬M<i:=by
        refine⟨λz=>I<|.inl z,?_,λz=>I<|.inr<|.inr z⟩;cases b:(A M).has r with
        | true=>rfl
        | false=>exact absurd (.inr<|.inl<|by rw[b];decide) I
       exact((w M ⋯ ⋯ h.2.1).add q (if M=i then 0 else if (A M).has r=d7 then t i M else 0)).congr λc _=>rfl
    exact gen N<|MM _
   have o:=u.add (J i a O) (-1);refine o.congr λc I=>?_;have l:zg (λj=>if (A j).has r=d7 then t i j*(A j).v r c else 0) N=(A i).v r c+zg (λj=>(if j=i then 0 else if (A j).has r=d7 then t i j else 0)*(A j).v r c) N:=by
    have m:(A i).v r c=zg (λj=>if j=i then (A i).v r c else 0) N:=by rw[zV a λk _ s=>by simp[s]];simp
    rw[m,<- jH];refine zw λj y=>?_;by_cases Y:j=i
    ·subst Y;simp[O,C j a]
    ·simp only[UY Y]
     by_cases b:(A j).has r=d7
     ·simp[b]
     ·simp[b]
   have U:=L i a O c I;unfold o1 at U;rw[Nl,l]at U;rw[NO,U,<- NO];congr 1;omega
 exact λi e a=>f N i ⋯ e a
end
section
variable{p:Int}{n m N h r r2 q:Nat}{B B2 K:Nat->Vc}{l l2 lK:UX}{M f:UV}
theorem wt(z:Span p n (eF m U) v) : ∃t:Vc,∀i,i<n->v i%p=zg (λj=>t j*U j i) m%p:=by
 induction z with
 | zero h=>exact⟨λ_=>0,λi a=>by rw[h i a];simp[zR]⟩
 | @step v w g c I o O Y=>
  obtain⟨t,l⟩:=Y;obtain⟨k,d,rfl⟩:=I;refine⟨λj=>t j+if j=k then c else 0,λi a=>?_⟩;rw[O i a,NO,l i a,<- NO];congr 1;have e:zg (λj=>(t j+if j=k then c else 0)*U j i) m=zg (λj=>t j*U j i) m+zg (λj=>(if j=k then c else 0)*U j i) m:=by rw[<- jH];exact zw λj _=>D8 ..
  rw[e,zV (f:=λj=>(if j=k then c else 0)*U j i) d λj _ b=>by simp[b]];simp
theorem xh(a b:Nat->Int)(n:Nat):zg (λj=>a j*b j) n=zg (λj=>b j*a j) n:=zw λj _=>NX ..
theorem A9:Span p h (eF N λj i=>M i j) u ↔ ∃x:Vc,∀i,i<h->u i%p=app M N x i%p:=by
 constructor
 ·intro q
  obtain⟨t,z⟩:=wt q;exact⟨t,λi a=>by rw[z i a];unfold app;rw[xh]⟩
 ·rintro⟨x,b⟩
  refine(Span.sum (u:=λj i=>M i j) x (m:=N) λj I=> .gen ⟨j,I,rfl⟩).congr λi a=>?_;rw[b i a];unfold app;rw[xh]
theorem Vs(n:Nat)(v:Vc):Span p n (eF n qg) v:=by refine(Span.sum (u:=qg) v (m:=n) λj z=> .gen ⟨j,z,rfl⟩).congr λi a=>?_;rw[zV (f:=λk=>v k*qg k i) a λk _ I=>by simp[qg,I]];simp[qg]
theorem vV(z:Pr p)(C:N<=8)(O : ∀v:Vc,∃t,∀i,i<N->v i%p=app f N t i%p)(U : ∀i,i<N->app f N t i%p=0) : ∀j,j<N->t j%p=0:=by
 obtain⟨q,K,l,s,_,m,I,Y,g⟩:=yK z (h:=N) (w:=N) ⋯ ⋯ f;have a:Rk p N N (λj i=>f i j) N:=⟨qg,id,W7 z N,λv=>⟨λ_=>A9.mpr<|O v,λ_=>Vs N v⟩⟩;have:=vR z Y a;have e:q=0:=by omega
 subst e;have:=(I t).mpr λi d=>by have:=U i d;unfold app at this;exact this
 cases this with
 | zero h=>exact h
 | step b _ _=>obtain⟨k,I,_⟩:=b;omega
def Xx(r:Nat)(B:Nat->Vc)(l:UX)(t:Vc):Vc:=λi=>t i - zg (λj=>t (l j)*B j i) r
theorem XY(I:h7 p N r B l)(t:Vc)(z:j<r):Xx r B l t (l j)=0:=by unfold Xx;rw[zV (f:=λO=>t (l O)*B O (l j)) z λk U Y=>by rw[I.pb k j U z (Ny Y)];simp];rw[I.one j z];omega
theorem aS(t:Vc):Span p N (eF r B) λi=>zg (λj=>t (l j)*B j i) r:=Span.sum (u:=B) (λj=>t<|l j) λj z=> .gen ⟨j,z,rfl⟩
theorem Ah(z:h7 p N r B l)(h:Span p N (eF r B) t)(I : ∀j,j<r->t (l j)%p=0) : ∀i,i<N->t i%p=0:=λi a=>by
 rw[ZX z h i a];have e:zg (λk=>t (l k)*B k i) r%p=zg (λ_=>0) r%p:=zQ λk O=>by rw[MO,I k O];simp
 rw[e,zR];simp
theorem W6(z:Pr p)(I:h7 p N r B l)(hi:i<N)(hn : ∀j,j<r->l j≠i) : ¬Span p N (eF r B) (qg i):=λh=>by have:=Ah I h (λj O=>by unfold qg;rw[UY (Ny<|hn j O)];simp) i hi;unfold qg at this;rw[UJ rfl,z.one]at this;omega
theorem Xd(g:UV)(w:Nat)(u v:Vc)(i:Nat):app g w (λj=>u j - v j) i=app g w u i - app g w v i:=by
 have e:app g w u i=app g w (λj=>u j - v j) i+app g w v i:=by unfold app;rw[<- jH];exact zw λj _=>by dsimp only;rw[<- Rf];congr 1;omega
 omega
def Wc(M f:UV)(N:Nat):Nat->Nat->Int:=λi j=>zg (λk=>M i k*f k j) N
theorem Jv(t:Vc)(i:Nat):app (Wc M f N) N t i=app M N (app f N t) i:=by
 unfold app Wc;have e:zg (λj=>zg (λk=>M i k*f k j) N*t j) N=zg (λj=>zg (λk=>M i k*(f k j*t j)) N) N:=zw λj _=>by rw[<- xf];exact zw λk _=>Ov ..
 rw[e,q9];exact zw λk _=>jK ..
theorem Bz(C:Pr p)(hN:N<=8)(hh:h<=8)(Z : ∀v:Vc,∃t,∀i,i<N->v i%p=app f N t i%p)(J:h7 p N r B l)(Y : ∀t,Span p N (eF r B) t↔Dq p h N M (app f N t))
 (L:h7 p h r2 B2 l2) (S : ∀v,Span p h (eF r2 B2) v↔Span p h (eF N λj i=>M i j) v) :
 (∀j,j<r->∀i,i<h->app M N (app f N<|B j) i%p=0)/\(∀c,c<N->(∀j,j<r->l j≠c)->∃i,i<h/\app M N (λa=>f a c) i%p≠0)/\r+r2=N/\
   ∀U:Vc->Prop,(∀c,c<N->(∀j,j<r->l j≠c)->Span p h U (app M N λa=>f a c))->(∀c,c<h->(∀j,j<r2->l2 j≠c)->Span p h U (qg c))->∀v,Span p h U v:=by
 have k : ∀t:Vc,Dq p h N M (app f N t) ↔ ∀i,i<h->app M N (app f N t) i%p=0:=λt=>Iff.rfl;have s : ∀(c:Nat),c<N->∀i,app M N (λa=>f a c) i%p=app M N (app f N<|qg c) i%p:=λc I i=>jV (λa _=>by rw[Zg f I]) i;refine⟨λj O=>(k _).mp ((Y<|B j).mp (.gen ⟨j,O,rfl⟩)),λc I T=>?_,?_,λU P Q v=>?_⟩
 ·refine Oj λz=>W6 C J I T ((Y _).mpr ((k _).mpr λi b=>?_))
  rw[<- s c I i];exact Oj λy=>z ⟨i,b,y⟩
 ·obtain⟨q',K',l',s',_,A,o,E,bb⟩:=yK C (h:=h) (w:=N) ⋯ ⋯ (Wc M f N)
  have e1:q'=r:=(Xa C A J (λv m=>(Y v).mpr λi b=>by
   have:=(o v).mp m i b;rw[show zg (λj=>Wc M f N i j*v j) N=app (Wc M f N) N v i from rfl,Jv]at this;exact this) λv m=>(o v).mpr λi b=>by
   have:=(Y v).mp m i b;rw[show zg (λj=>Wc M f N i j*v j) N=app (Wc M f N) N v i from rfl,Jv];exact this).1
  have e2:s'=r2:=by
   refine vR C E ⟨B2,l2,L,λv=>(S v).trans ⟨λz=>?_,λz=>?_⟩⟩
   ·obtain⟨x,n⟩:=A9.mp z
    obtain⟨t,d⟩:=Z x;refine A9.mpr ⟨t,λi b=>?_⟩;rw[n i b,Jv];exact jV d i
   ·obtain⟨t,d⟩:=A9.mp z
    exact A9.mpr ⟨app f N t,λi b=>by rw[d i b,Jv]⟩
  omega
 ·
  have im : ∀t:Vc,Span p h U (app M N<|app f N t):=λt=>by
   have X:=(k _).mp ((Y _).mp (aS (p:=p) (N:=N) (B:=B) (r:=r) (l:=l) t));have e : ∀i,i<h->app M N (app f N t) i%p=app M N (app f N<|Xx r B l t) i%p:=λi b=>by
    have G:app M N (app f N<|Xx r B l t) i=app M N (app f N t) i - app M N (app f N λi=>zg (λj=>t (l j)*B j i) r) i:=by rw[<- Xd];congr 1;funext a;exact Xd ..
    rw[G,OL,X i b];simp
   refine Span.congr ?_ e;have H : ∀i,app M N (app f N<|Xx r B l t) i=zg (λc=>Xx r B l t c*app M N (λa=>f a c) i) N:=λi=>by rw[<- yH];congr 1;funext a;unfold app;exact xh ..
   have s1 : ∀K,K<=N->Span p h U λi=>zg (λc=>Xx r B l t c*app M N (λa=>f a c) i) K:=by
    intro K
    induction K with
    | zero=>intro _;exact .zero λi _=>by simp[zg]
    | succ K g=>
     intro R;by_cases I : ∃j,j<r/\l j=K
     ·obtain⟨j,O,rfl⟩:=I
      refine(g ⋯).congr λi _=>?_;show(zg _ (l j)+_)%p=_;have z:=XY J t O;simp only[z];simp
     ·exact((P K ⋯ λj O z=>I ⟨j,O,z⟩).add (g ⋯) _).congr λi _=>rfl
   exact(s1 N<|MM _).congr λi _=>by rw[H]
  have F : ∀u,Span p h (eF r2 B2) u->Span p h U u:=λu W=>by obtain⟨x,n⟩:=A9.mp<|(S u).mp W;obtain⟨t,d⟩:=Z x;exact(im t).congr λi b=>by rw[n i b];exact jV d i
  have s2 : ∀K,K<=h->Span p h U λi=>zg (λc=>Xx r2 B2 l2 v c*qg c i) K:=by
   intro K
   induction K with
   | zero=>intro _;exact .zero λi _=>by simp[zg]
   | succ K g=>
    intro R;by_cases I : ∃j,j<r2/\l2 j=K
    ·obtain⟨j,O,rfl⟩:=I
     refine(g ⋯).congr λi _=>?_;show(zg _ (l2 j)+_)%p=_;have z:=XY L v O;simp only[z];simp
    ·exact((Q K ⋯ λj O z=>I ⟨j,O,z⟩).add (g ⋯) _).congr λi _=>rfl
  refine((F _<|aS (B:=B2) (r:=r2) (l:=l2) v).add (s2 h<|MM _) 1).congr λi b=>?_;congr 1;rw[zV (f:=λc=>Xx r2 B2 l2 v c*qg c i) b λc _ I=>by simp[qg,I]];simp only[qg,if_true,Xx];omega
theorem BA(O:Pr p)(hN:N<=8)(hh:h<=8)(Z : ∀v:Vc,∃t,∀i,i<N->v i%p=app f N t i%p)(L:h7 p N r B l)(S : ∀t,Span p N (eF r B) t↔Span p N (eF h λj i=>M i j) (app f N t))
 (hk : ∀v,Span p h (eF q K) v↔Dq p N h M v) (hr:Rk p N h (λj i=>M i j) s) (bl:q+s=h) :
 (∀j,j<r->∃y:Vc,∀i,i<N->app M h y i%p=app f N (B j) i%p)/\(∀c,c<N->(∀j,j<r->l j≠c)->¬∃y:Vc,∀i,i<N->app M h y i%p=f i c%p)/\r+q=h/\
   ∀(J:Vc->Prop) (x:Nat->Vc),(∀j,j<r->Span p h J (x j)/\∀i,i<N->app M h (x j) i%p=app f N (B j) i%p)->(∀j,j<q->Span p h J (K j))->∀v,Span p h J v:=by
 have o : ∀t,Span p N (eF r B) t ↔ ∃y:Vc,∀i,i<N->app f N t i%p=app M h y i%p:=λt=>(S t).trans A9;have inj : ∀{t:Vc},(∀i,i<N->app f N t i%p=0)->∀j,j<N->t j%p=0:=λY=>vV O hN Z Y;refine⟨λj I=>?_,λc T hn z=>?_,?_,λJ x Q h2 v=>?_⟩
 ·obtain⟨y,d⟩:=(o<|B j).mp (.gen ⟨j,I,rfl⟩)
  exact⟨y,λi b=>(d i b).symm⟩
 ·obtain⟨y,d⟩:=z
  exact W6 O L T hn<|(o _).mpr ⟨y,λi b=>by rw[Zg f T,d i b]⟩
 ·have as:s<=8/\r<=8:=by
   obtain⟨E,bm,b6⟩:=uc O (n:=N) (m:=h) ⋯ hh λj i=>M i j;refine⟨by rw[vR O hr b6];omega,?_⟩;have : ∀A,A<=r->A<=N:=by
    intro A;have mono : ∀k,k<r->k<=l k:=by
     intro k
     induction k with
     | zero=>intro _;omega
     | succ k ih=>intro hk;have:=ih ⋯;have:=L.mono k (k+1) ⋯ hk;omega
    intro bn;cases A with
    | zero=>omega
    | succ P=>have:=mono P ⋯;have:=L.lt P ⋯;omega
   have:=this r<|MM _;omega
  have bt:s<=r:=by
   obtain⟨E,a1,F⟩:=uc O (n:=N) (m:=r) ⋯ as.2 λj=>app f N<|B j;have e:s=E:=by
    obtain⟨C,lC,H,w⟩:=hr;refine vR O (m:=h) (W:=λj i=>M i j) ⟨C,lC,H,w⟩ ?_;obtain⟨X,bb,bd,be⟩:=F;refine⟨X,bb,bd,λv=>(be v).trans ⟨λz=>?_,λz=>?_⟩⟩
    ·exact z.le λg U=>by obtain⟨j,I,rfl⟩:=U;exact(S<|B j).mp (.gen ⟨j,I,rfl⟩)
    ·obtain⟨y,d⟩:=A9.mp z
     obtain⟨t,Y⟩:=Z v;have G:Span p N (eF r B) t:=(o t).mpr ⟨y,λi b=>by rw[<- Y i b,d i b]⟩;refine(Span.sum (u:=λj=>app f N<|B j) (λj=>t<|l j) (m:=r) λj I=> .gen ⟨j,I,rfl⟩).congr λi b=>?_;rw[Y i b,<- yH];exact jV (λj I=>ZX L G j I) i
   omega
  have bv:r<=s:=by
   obtain⟨C,lC,H,w⟩:=hr;have ex : ∀j,∃t:Vc,∀i,i<N->C j i%p=app f N t i%p:=λj=>Z<|C j;have g:Nat->Vc:=λj=>Classical.choose<|ex j;have U : ∃g:Nat->Vc,∀j i,i<N->C j i%p=app f N (g j) i%p:=⟨λj=>Classical.choose<|ex j,λj=>Classical.choose_spec<|ex j⟩;obtain⟨g,U⟩:=U;obtain⟨E,a1,F⟩:=uc O (n:=N) (m:=s) ⋯ as.1 g;have e:r=E:=by
    refine vR O (m:=s) (W:=g) ⟨B,l,L,λv=>⟨λz=>?_,λz=>?_⟩⟩ F
    ·have hv:=(w _).mpr ((S v).mp z)
     refine(Span.sum (u:=g) (λj=>app f N v<|lC j) (m:=s) λj I=> .gen ⟨j,I,rfl⟩).congr λi b=>?_;have z0 : ∀a,a<N->app f N (λi=>v i - zg (λj=>app f N v (lC j)*g j i) s) a%p=0:=λa R=>by
      rw[Xd,yH,OL,ZX H hv a R];have e:zg (λk=>app f N v (lC k)*C k a) s%p=zg (λk=>app f N v (lC k)*app f N (g k) a) s%p:=zQ λk _=>by rw[MO,U k a R,<- MO]
      rw[e];simp
     have:=inj z0 i b;have q2:=Int.emod_emod_of_dvd;exact(Int.emod_emod_of_dvd _<|Int.dvd_refl p).symm.trans (by
      rw[Nl];have:(v i - zg (λj=>app f N v (lC j)*g j i) s)%p=0:=this;exact OO.mpr this)
    ·refine z.le λu hu=>?_
     obtain⟨j,I,rfl⟩:=hu;refine(S _).mpr (((w<|C j).mp (.gen ⟨j,I,rfl⟩)).congr λi b=>(U j i b).symm)
   omega
  omega
 ·obtain⟨t,Y⟩:=Z (app M h v)
  have G:Span p N (eF r B) t:=(o t).mpr ⟨v,λi b=>(Y i b).symm⟩;have hx:Span p h J λc=>zg (λj=>t (l j)*x j c) r:=Span.sum (u:=x) (λj=>t<|l j) λj I=>(Q j I).1;have hd:Span p h J λc=>v c - zg (λj=>t (l j)*x j c) r:=by
   refine((hk _).mpr λi b=>?_).le λg U=>by obtain⟨j,I,rfl⟩:=U;exact h2 j I
   show app M h (λc=>v c - zg (λj=>t (l j)*x j c) r) i%p=0;rw[Xd,yH,OL];have e:zg (λj=>t (l j)*app M h (x j) i) r%p=app M h v i%p:=by rw[Y i b,jV (λj I=>ZX L G j I) i,yH];exact zQ λj I=>by rw[MO,(Q j I).2 i b,<- MO]
   rw[e];simp
  refine(hx.add hd 1).congr λc _=>?_;congr 1;omega
end
structure A3(p:Int)(w:UK)(wd:UX)(T:UW)(k:Nat)(m5:List f7):Prop where
 ok : ∀b,b∈m5->n4 p w wd T k b
 sp : ∀r,r<=k->∀v,Span p (wd r) (Lr m5 r) v
 ct : ∀r,r<=k->m5.countP (λb=>b.has r)=wd r
 od:(m5.filter λb=>b.has k).Pairwise (Ord w)
def mr(r:Nat)(l:UX)(i:Nat):Option Nat:=(MB r).find? λj=>l j==i
theorem xS(h:mr r l i=dn j):j<r/\l j=i:=by have a:=List.find?_some h;have b:=List.mem_of_find?_eq_some h;exact⟨MD.mp b,by simpa using a⟩
theorem Jk(h:mr r l i=ed) : ∀j,j<r->l j≠i:=λj z=>by have:=List.find?_eq_none.mp h j<|MD.mpr z;simpa using this
noncomputable def iS(p:Int)(A:Nat->f7)(N r:Nat)(B:Nat->Vc)(l:UX)(i:Nat):f7:=match mr r l i with
 | some j=>DV p A N (B j) i
 | none=>A i
noncomputable def lW(k:Nat)(b:f7):Option Vc->f7
 | none=>b
 | some y=>⟨b.s,b.n+1,λr=>if r=k+1 then y else b.v r⟩
def pa(k:Nat)(y:Vc):f7:=⟨k+1,1,λ_=>y⟩
noncomputable def DZ(r:Nat)(B:Nat->Vc)(l:UX)(i:Nat):Vc:=match mr r l i with
 | some j=>B j
 | none=>qg i
theorem eO(p A N r B l i):(iS p A N r B l i).s=(A i).s:=by unfold iS;split<;>rfl
theorem BB(p A N r B l i):(iS p A N r B l i).n=(A i).n:=by unfold iS;split<;>rfl
theorem VX(p A N r B l i rm):(iS p A N r B l i).has rm=(A i).has rm:=by unfold f7.has;rw[eO,BB]
theorem ZA:(pa k y).has r=decide (r=k+1):=by
 unfold pa f7.has;by_cases h:r=k+1
 ·simp[h]
 ·simp[h];intro;omega
section
variable{p:Int}{w:UK}{wd:UX}{T:UW}{k N r:Nat}{A:Nat->f7}{B:Nat->Vc}{l:UX}
theorem rE(z:h7 p N r B l)(hi:i<N):DZ r B l i i=1/\∀c,c<i->DZ r B l i c=0:=by
 unfold DZ;cases hj:mr r l i with
 | some j=>
  obtain⟨a,b⟩:=xS hj;subst b;exact⟨z.one j a,λc I=>z.l6 j c a I⟩
 | none=>exact⟨by simp[qg],λc I=>by simp only[qg];rw[UY ⋯]⟩
theorem tG(hi:i<N)(I:(A i).has rm=d7):(iS p A N r B l i).v rm c%p=o1 p A N (DZ r B l i) rm c%p:=by
 unfold iS DZ;cases z:mr r l i with
 | some j=>rfl
 | none=>
  show(A i).v rm c%p=_;unfold o1;rw[Nl];congr 1;rw[zV (f:=λj=>if (A j).has rm=d7 then qg i j*(A j).v rm c else 0) hi λj _ z=>by unfold qg;rw[UY (Ny z)];simp];simp[qg,I]
theorem rG(I:0<p)(O:h7 p N r B l)(z : ∀j,j<N->n4 p w wd T k (A j))(U : ∀j,j<N->(A j).has k=d7)(Y : ∀i c,i<c->c<N->Ord w (A i) (A c))(hi:i<N):n4 p w wd T k (iS p A N r B l i):=by
 unfold iS;split
 ·next j e=>
  obtain⟨a,b⟩:=xS e;subst b;exact El I z U hi (λc a b=>Y _ c a b) λc d=>O.l6 j c a d
 ·exact z i hi
theorem X9(z:rm<=k)(I:b.s+b.n=k+1):(lW k b o).has rm=b.has rm/\(lW k b o).v rm=b.v rm:=by
 cases o with
 | none=>exact⟨rfl,rfl⟩
 | some y=>
  refine⟨?_,by simp only[lW];rw[UY ⋯]⟩;unfold lW f7.has;simp only;congr 1;exact decide_eq_decide.mpr ⋯
theorem WD(z:b.s+b.n=k+1):(lW k b o).has (k+1)=o.isSome:=by
 cases o with
 | none=>unfold lW f7.has;simp;omega
 | some y=>unfold lW f7.has;simp;omega
theorem Ao(k b o):(lW k b o).s=b.s:=by cases o<;>rfl
theorem EL(p0:0<p)(O:b.s+b.n=k+1)(C:n4 p w wd T k b)(Z : ∀y,o=dn y->∀c,c<wd (k+1)->0<=y c/\y c<p)
 (J:o=ed->w k=eh->∀c,c<wd (k+1)->app (T k) (wd k) (b.v k) c%p=0) (L : ∀y,o=dn y->w k=eh->∀c,c<wd (k+1)->app (T k) (wd k) (b.v k) c%p=y c%p)
 (S : ∀y,o=dn y->w k=d7->∀c,c<wd k->app (T k) (wd<|k+1) y c%p=b.v k c%p):n4 p w wd T (k+1) (lW k b o):=by
 have x:=C.n1;refine⟨?_,?_,λU c h z=>?_,λj A d c z=>?_⟩
 ·cases o with
  | none=>exact C.n1
  | some y=>show 1<=b.n+1;omega
 ·cases o with
  | none=>show b.s+b.n<=k+1+1;omega
  | some y=>show b.s+(b.n+1)<=k+1+1;omega
 ·by_cases m:U<=k
  ·obtain⟨a,I⟩:=X9 (o:=o) m O
   rw[a]at h;rw[I];exact C.ly U c h z
  ·have i:=kA.mp h
   cases o with
   | none=>exact absurd i.2 (by show ¬(U<b.s+b.n);omega)
   | some y=>
    have:U=k+1:=by have:U<b.s+(b.n+1):=i.2;omega
    subst this;have e:(lW k b<|some y).v (k+1)=y:=by simp[lW]
    rw[e];exact Z y rfl c z
 ·by_cases g:j<k
  ·have g1:zJ w j<=k:=by unfold zJ;split<;>omega
   have g2:zX w j<=k:=by unfold zX;split<;>omega
   obtain⟨a,I⟩:=X9 (o:=o) g1 O;obtain⟨t,u⟩:=X9 (o:=o) g2 O;rw[a]at d;rw[I,t,u];exact C.arr j g d c z
  ·have g:j=k:=by omega
   subst g;obtain⟨a,I⟩:=X9 (o:=o) (MM j) O;have l:=WD (k:=j) (o:=o) O;have r:b.has j=d7:=kA.mpr ⋯;cases hw:w j with
   | false=>
    have f:zJ w j=j:=by unfold zJ;rw[hw];rfl
    have Y:zX w j=j+1:=by unfold zX;rw[hw];rfl
    rw[Y]at z;rw[f,Y,I,l];cases o with
    | none=>rw[J rfl hw c z];simp
    | some y=>rw[L y rfl hw c z];simp[lW]
   | true=>
    have f:zJ w j=j+1:=by unfold zJ;rw[hw];rfl
    have Y:zX w j=j:=by unfold zX;rw[hw];rfl
    rw[Y]at z;rw[f,l]at d;rw[f,Y,a,I,r];cases o with
    | none=>cases d
    | some y=>
     have e:(lW j b<|some y).v (j+1)=y:=by simp[lW]
     rw[e,S y rfl hw c z];simp
theorem Ek(J : ∀c,c<wd (k+1)->0<=y c/\y c<p)(C:w k=d7->∀c,c<wd k->app (T k) (wd<|k+1) y c%p=0):n4 p w wd T (k+1) (pa k y):=by
 refine⟨MM _,by show k+1+1<=k+1+1;omega,λe c O z=>?_,λj d I c z=>?_⟩
 ·rw[ZA]at O
  have:=of_decide_eq_true O;subst this;exact J c z
 ·rw[ZA]at I
  have I:=of_decide_eq_true I;cases hw:w j with
  | false=>
   have U:zJ w j=j:=by unfold zJ;rw[hw];rfl
   omega
  | true=>
   have U:zJ w j=j+1:=by unfold zJ;rw[hw];rfl
   have Y:zX w j=j:=by unfold zX;rw[hw];rfl
   have a:j=k:=by omega
   subst a;rw[Y]at z;have b:(pa j y).has (zX w j)=eh:=by rw[ZA,Y];simp
   rw[b,U];show app (T j) (wd<|j+1) y c%p=_;rw[C hw c z];simp
noncomputable def vP(p:Int)(k:Nat)(w:UK)(C:List f7)(A:Nat->f7)(N r:Nat)(B:Nat->Vc)(l:UX)(nx:Nat->Option Vc)(z:List Vc):List f7:=
 (C.filter λb=> !b.has k)++(if w k then (MB N).map (λi=>lW k (iS p A N r B l i)<|nx i)++z.map (pa k)else z.map (pa k)++(MB N).map λi=>lW k (iS p A N r B l i)<|nx i)
theorem iu(p0:0<p)(I:A3 p w wd T k m5)(hN:(m5.filter λb=>b.has k).length=N)(Y : ∀j,A j=(m5.filter λb=>b.has k).getD j mB)(O:h7 p N r B l)
 (c1 : ∀i y,i<N->nx i=dn y->∀c,c<wd (k+1)->0<=y c/\y c<p) (c2 : ∀y,y∈news->∀c,c<wd (k+1)->0<=y c/\y c<p)
   (d0 : ∀i,i<N->nx i=ed->w k=eh->∀c,c<wd (k+1)->app (T k) (wd k) ((iS p A N r B l i).v k) c%p=0)
   (d1 : ∀i y,i<N->nx i=dn y->w k=eh->∀c,c<wd (k+1)->app (T k) (wd k) ((iS p A N r B l i).v k) c%p=y c%p)
   (d2 : ∀i y,i<N->nx i=dn y->w k=d7->∀c,c<wd k->app (T k) (wd<|k+1) y c%p=(iS p A N r B l i).v k c%p)
   (d3 : ∀y,y∈news->w k=d7->∀c,c<wd k->app (T k) (wd<|k+1) y c%p=0)
   (s1 : ∀v,Span p (wd<|k+1) (λg=>(∃i,i<N/\nx i=dn g)\/g∈news) v) (n1:(MB N).countP (λi=>(nx i).isSome)+news.length=wd (k+1)) :
   A3 p w wd T (k+1) (vP p k w m5 A N r B l nx news):=by
  have G : ∀j,j<N->A j∈m5/\(A j).has k=d7:=λj E=>by
   have:A j∈m5.filter λb=>b.has k:=by rw[Y j,MI,MF ⋯];exact Po _
   have:=Np.mp this;exact⟨this.1,by simpa using this.2⟩
  have W : ∀j,j<N->n4 p w wd T k (A j):=λj E=>I.ok _ (G j E).1;have Z : ∀i c,i<c->c<N->Ord w (A i) (A c):=λi c m u=>by have:=OZ.mp I.od i c ⋯ ⋯ m;rw[Y i,Y c,MI,MF ⋯,MI,MF ⋯];exact this
  have ix : ∀i,i<N->n4 p w wd T k (iS p A N r B l i):=λi d=>rG p0 O W (λj E=>(G j E).2) Z d;have a1 : ∀i,i<N->(iS p A N r B l i).s+(iS p A N r B l i).n=k+1:=λi d=>by rw[eO,BB];have m:=kA.mp (G i d).2;have u:=(W i d).le;omega
  have H : ∀b,b∈m5->b.has k=eh->b.s+b.n<=k:=λb O R=>by have m:=(I.ok b O).le;have u:=(I.ok b O).n1;refine Nat.not_lt.mp λz=>?_;have:b.has k=d7:=kA.mpr ⋯;rw[this]at R;cases R
  have x : ∀b,b∈vP p k w m5 A N r B l nx news↔(b∈m5/\b.has k=eh)\/(∃i,i<N/\b=lW k (iS p A N r B l i) (nx i))\/∃y,y∈news/\b=pa k y:=λb=>by
   unfold vP;rw[OS,Np];refine or_congr ⋯ ?_;cases w k<;>simp only[OE,if_false,if_true,OS,Nb,MD]
   ·constructor
    ·rintro(⟨y,m,u⟩ | ⟨i,m,u⟩)
     ·exact .inr ⟨y,m,u.symm⟩
     ·exact .inl ⟨i,m,u.symm⟩
    ·rintro(⟨i,m,u⟩ | ⟨y,m,u⟩)
     ·exact .inr ⟨i,m,u.symm⟩
     ·exact .inl ⟨y,m,u.symm⟩
   ·constructor
    ·rintro(⟨i,m,u⟩ | ⟨y,m,u⟩)
     ·exact .inl ⟨i,m,u.symm⟩
     ·exact .inr ⟨y,m,u.symm⟩
    ·rintro(⟨i,m,u⟩ | ⟨y,m,u⟩)
     ·exact .inl ⟨i,m,u.symm⟩
     ·exact .inr ⟨y,m,u.symm⟩
  have cnt : ∀P:f7->Bool,(vP p k w m5 A N r B l nx news).countP P=(m5.filter λb=> !b.has k).countP P+(MB N).countP (λi=>P<|lW k (iS p A N r B l i)<|nx i)+(news.map<|pa k).countP P:=λP=>by
   unfold vP;rw[Tj];cases w k<;>simp only[OE,if_false,if_true,Tj,SG (f:=λi=>lW k (iS p A N r B l i)<|nx i)]
   ·rw[Sx,Nat.add_comm (List.countP P<|List.map (pa k) news)];rfl
   ·rw[Sx];rfl
  refine⟨λb bf=>?_,λU hr v=>?_,λU hr=>?_,?_⟩
  ·rcases (x b).mp bf with⟨m,u⟩ | ⟨i,d,rfl⟩ | ⟨y,hy,rfl⟩
   ·have R:=H b m u
    have S:=I.ok b m;refine⟨S.n1,by omega,S.ly,λj E X c M=>?_⟩;have bn:=kA.mp X;refine S.arr j ?_ X c M;have:zJ w j>=j:=by unfold zJ;split<;>omega
    omega
   ·exact EL p0 (a1 i d) (ix i d) (λy e=>c1 i y d e) (λe=>d0 i d e) (λy e=>d1 i y d e) λy e=>d2 i y d e
   ·exact Ek (c2 y hy)<|d3 y hy
  ·by_cases C:U<=k
   ·refine(I.sp U C v).le λg hg=>?_
    obtain⟨b,m,u,rfl⟩:=hg;cases UG:b.has k with
    | false=>exact .gen ⟨b,(x b).mpr (.inl ⟨m,UG⟩),u,rfl⟩
    | true=>
     have bi:b∈m5.filter λb=>b.has k:=Np.mpr ⟨m,by simpa using UG⟩;obtain⟨i,d,e⟩:=RO bi;have ei:A i=b:=by rw[Y i,MI,MF d];exact e
     rw[<- ei]at u ⊢;refine oH (A:=A) (A':=λi=>iS p A N r B l i) (t:=λi=>DZ r B l i) (λi d=>(rE O d).1) (λi c d M=>(rE O d).2 c M) (λi d Q=>?_) (λi d Q c _=>tG d Q) i ⋯ u;obtain⟨x1,x2⟩:=X9 (o:=nx i) C<|a1 i d;exact .gen ⟨_,(x _).mpr (.inr<|.inl ⟨i,d,rfl⟩),by rw[x1,VX];exact Q,by rw[x2]⟩
   ·have:U=k+1:=by omega
    subst this;refine(s1 v).le λg hg=>?_;rcases hg with⟨i,d,e⟩ | hg
    ·refine .gen ⟨_,(x _).mpr (.inr<|.inl ⟨i,d,rfl⟩),?_,?_⟩
     ·rw[WD (a1 i d),e];rfl
     ·rw[e];simp[lW]
    ·exact .gen ⟨_,(x _).mpr (.inr<|.inr ⟨g,hg,rfl⟩),by rw[ZA];simp,rfl⟩
  ·rw[cnt]
   by_cases C:U<=k
   ·have K:(news.map<|pa k).countP (λb=>b.has U)=0:=Rc.mpr λb O=>by
     obtain⟨y,_,rfl⟩:=Nb.mp O;rw[ZA];simp;omega
    have L:(MB N).countP (λi=>(lW k (iS p A N r B l i)<|nx i).has U)=(m5.filter λb=>b.has k).countP λb=>b.has U:=by
     have:(m5.filter λb=>b.has k)=(MB N).map A:=by rw[<- je mB (m5.filter λb=>b.has k),hN];exact MQ λj _=>(Y j).symm
     rw[this,SG];refine Oz λi d=>?_;have d:=MD.mp d;rw[(X9 (o:=nx i) C<|a1 i d).1,VX];rfl
    rw[K,L,<- I.ct U C,List.countP_eq_countP_filter_add m5 (λb=>b.has U) λb=>b.has k];omega
   ·have:U=k+1:=by omega
    subst this;have J:(m5.filter λb=> !b.has k).countP (λb=>b.has<|k+1)=0:=Rc.mpr λb O=>by obtain⟨m,u⟩:=Np.mp O;have:=H b m (by simpa using u);intro z;have:=kA.mp z;omega
    have K:(news.map<|pa k).countP (λb=>b.has<|k+1)=news.length:=by rw[List.countP_eq_length.mpr λb O=>?_,Nf];obtain⟨y,_,rfl⟩:=Nb.mp O;rw[ZA];simp
    have L:(MB N).countP (λi=>(lW k (iS p A N r B l i)<|nx i).has (k+1))=(MB N).countP λi=>(nx i).isSome:=Oz λi d=>by rw[WD (a1 i<|MD.mp d)]
    rw[J,K,L];omega
  ·have J:((m5.filter λb=> !b.has k).filter λb=>b.has<|k+1)=[]:=List.filter_eq_nil_iff.mpr λb O=>by
    obtain⟨m,u⟩:=Np.mp O;have:=H b m (by simpa using u);intro z;have:=kA.mp z;omega
   have pO:((MB N).map λi=>lW k (iS p A N r B l i)<|nx i).Pairwise (Ord w):=by rw[Rv];refine RK (λ{a b} F O h=>?_)<|Rt (n:=N);have:=Z a b h<|MD.mp O;unfold Ord;rw[Ao,Ao,eO,eO];exact this
   have pN:(news.map<|pa k).Pairwise (Ord w):=by
    rw[Rv];refine OZ.mpr λ_ _ _ _ _=>⟨λz=>?_,λz=>?_⟩
    ·exact absurd z<|NW<|k+1
    ·exact absurd z<|NW<|k+1
   have so : ∀b,b∈(MB N).map (λi=>lW k (iS p A N r B l i)<|nx i)->b.s<=k:=λb O=>by obtain⟨i,d,rfl⟩:=Nb.mp O;have d:=MD.mp d;rw[Ao,eO];exact(kA.mp (G i d).2).1
   have sn : ∀b,b∈news.map (pa k)->b.s=k+1:=λb O=>by obtain⟨y,_,rfl⟩:=Nb.mp O;rfl
   unfold vP;rw[RZ,J,Ri];refine Si _ ?_;cases hw:w k with
   | false=>
    simp only[OE,if_false];refine List.pairwise_append.mpr ⟨pN,pO,λa F b O=>?_⟩;have m:=sn a F;have u:=so b O;exact⟨λz=>by omega,λ_=>by rw[m];exact hw⟩
   | true=>
    simp only[if_true];refine List.pairwise_append.mpr ⟨pO,pN,λa F b O=>?_⟩;have m:=sn b O;have u:=so a F;exact⟨λ_=>by rw[m];exact hw,λz=>by omega⟩
end
theorem Kf(z:Pr p)(I:h<=100)(C:w<=lim)(f:UV) :
 ∃r B l,ZI [.int p,jf h w f]=dn (.own<|zZ r h B)/\h7 p h r B l/\∀v,Span p h (eF r B) v↔Span p h (eF w λj i=>f i j) v:=by
 obtain⟨r,B,l,e,O,U⟩:=kg z I C .T λj i=>f i j;have Y:=js;refine⟨r,B,l,?_,O,U⟩;simp only[ri]at e;have o:=Zl f (show h<=lim by omega) C;unfold jf at o ⊢;simp[ZI,jk,z7,o,e]
theorem Vu(P:Nat->Ctx->Prop) : ∀(ds C:List D) (k:Nat) (γ:Ctx),P k γ->(∀i d γ,ds[i]? = dn d->P (k+i) γ->∃γ',(ka T d γ).bind F=dn (.next γ')/\P (k+i+1) γ')->
 ∃γ',P (k+ds.length) γ'/\qL T F (ds++C) γ=qL T F C γ'
 | [],C,k,γ,h,_=>⟨γ,h,rfl⟩
 | d::ds,C,k,γ,h,step=>by
  obtain⟨a,e,f⟩:=step 0 d γ rfl h;obtain⟨γ',g,z⟩:=Vu P ds C (k+1) a (by simpa using f) (λi b I j O=>by have:=step (i+1) b I (by simpa using j) (by rw[show k+(i+1)=k+1+i by omega];exact O);rw[show k+(i+1)+1=k+1+i+1 by omega]at this;exact this)
  refine⟨γ',by rw[show k+(d::ds).length=k+1+ds.length by simp;omega];exact g,?_⟩;rw[O3,ju];cases eb:ka T d γ with
  | none=>rw[eb]at e;simp at e
  | some U=>
   rw[eb]at e;simp only[MG]at e ⊢;rw[e];exact z
theorem bp(n:Nat)(v:Vc):xG (zD n v)=(MB n).map λ(i:Nat)=>D.tup [.int i,.int (v i)]:=by unfold xG;rw[Jl];refine MQ λi a=>?_;have:=MD.mp a;simp[zD,this]
theorem vo(L:n<=lim)(v:Vc)(J:a<n)(I : ∀i,i<a->v i=0)(C:v a≠0):qW [.tup (zD n v)]=dn (.val<|.int a):=by
 have d:zT (.tp [0,1]) (sB<|zG i0 (zc 1)<|zq<|.int 0) (zc 0) [Cell.no,Cell.no] ((MB n).map λ(i:Nat)=>D.tup [.int i,.int (v i)])=dn (((MB n).filter λi=> !decide (v i=0)).map λ(i:Nat)=>D.int i):=by refine jB _ _ _ λi f=>⟨_,rfl,?_,λ_=>rfl⟩;simp
 cases hf:(MB n).filter λi=> !decide (v i=0)with
 | nil=>exact absurd (by have:=gH hf a J;simpa using this) C
 | cons b yd=>
  obtain⟨Y,O,U⟩:=Vv hf;have e:b=a:=by
   rcases Rz a b with z | z | z
   ·exact absurd (by have:=U a z;simpa using this) C
   ·exact z.symm
   ·exact absurd (I b z) (by simpa using O)
  subst e;rw[hf]at d;simp[qW,jk,z7,bp,L,ja,MH,d]
theorem dh(J:a<n)(v z:Vc)(x:Int)(C:z a=x)(I : ∀i,i<n->i≠a->z i=v i):(zD n v).set a (.int x)=zD n z:=by
 apply OI;intro i;rw[Pe];by_cases b:i<n
 ·by_cases e:a=i
  ·subst e;simp[J,zD,C]
  ·have:=I i b (Ny e)
   simp[e,zD,b,this]
 ·have d:(zD n v)[i]? = ed:=by simp[zD];omega
  have f:(zD n z)[i]? = ed:=by simp[zD];omega
  rw[d,f,UY ⋯]
noncomputable def WX(w:Nat)(B:Nat->Vc)(l:UX)(r:Nat):Vc:=λj=>zg (λk=>if l k=j then B k w else 0) r
noncomputable def yj:=(zL (jy 6<|zA qW<|zb (zc 5) zB)<|zL (iN (sB<|zG hG (zc 6)<|zc 3) (j5<|zq .ft) qc)<|av 4 (zc 6)<|eg (ze 5)<|zc 3)
section
variable{p:Int}{h w r:Nat}
theorem aO{l:UX}(C : ∀k m,k<m->m<r->l k<l m){k m:Nat}(I:k<r)(O:m<r)(e:l k=l m):k=m:=by
 rcases Rz k m with z | z | z
 ·have:=C k m z O;omega
 ·exact z
 ·have:=C m k z I;omega
def aug(w:Nat)(f:UV)(b:Vc):Nat->Vc:=λi j=>if j<w then f i j else b i
theorem bZ(Z:w+1<=lim)(O:h7 p (w+1) r B l)(hs:s<=r)(h1 : ∀k,k<s->l k<w)(S:List D)(L z I:Cell) :
 ∃C J,qL (.nm 5) yj (zZ s (w+1) B++S) [L,z,I,.val<|.int w,.own<|zD w λ_=>0,.no,.no]=qL (.nm 5) yj S [L,z,I,.val<|.int w,.own<|zD w<|WX w B l s,C,J]:=by
 obtain⟨E,⟨C,J,rfl⟩,e⟩:=Vu (T:= .nm 5) (F:=yj) (λt n=>∃C J,n=[L,z,I,.val<|.int w,.own<|zD w<|WX w B l t,C,J]) (zZ s (w+1) B) S 0 [L,z,I,.val<|.int w,.own<|zD w λ_=>0,.no,.no]
  ⟨.no,.no,by rw[qZ (f:=WX w B l 0) (g:=λ_=>0) λi _=>rfl]⟩ (by
   rintro k d n a ⟨C,J,rfl⟩;rw[NA];have j:k<s:=by have:=(MU.mp a).1;simpa using this
   have o:d = .tup (zD (w+1)<|B k):=by simp[j]at a;exact a.symm
   subst o;have U:k<r:=by omega
   have b:=h1 k j;have le:=vo Z (B k) (show l k<w+1 by omega) (λi h=>O.l6 k i U h) (by rw[O.one k U];decide);refine⟨_,?_,.val<|.tup<|zD (w+1)<|B k,.val<|.int<|l k,rfl⟩;have Y : ¬((l k:Int)=(w:Int)):=by omega
   have u : ¬l k=w:=by omega
   have A:w<w+1:=by omega
   have x:=dh b (WX w B l k) (WX w B l<|k+1) (B k w) (by
    unfold WX;simp only[zg,if_true];rw[zw (g:=λ_=>0) λm y=>by rw[UY λe=>by have:=O.mono m k y U;omega],zR]
    omega) (λi h Y=>by
    unfold WX;simp only[zg];rw[UY (Ny Y)];omega)
   simp[yj,jg,le,Y,u,b,A,x])
 rw[pf]at e;refine⟨C,J,?_⟩;rw[e];rw[NA]
theorem AK(w:Nat)(f:UV)(b:Vc)(i:Nat):zD w (f i)++[.int (b i)]=zD (w+1) (aug w f b i):=by
 unfold zD;rw[OJ,NR];congr 1
 ·exact MQ λj z=>by simp[aug,MD.mp z]
 ·simp[aug]
theorem Xh(J:Pr p)(S:h<=90)(Z:w<=90)(f:UV)(b:Vc) :
 ∃r B l s,h7 p (w+1) r B l/\(∀v,Span p (w+1) (eF r B) v↔Span p (w+1) (eF h<|aug w f b) v)/\s<=r/\(∀k,k<s->l k<w)/\(∀k,s<=k->k<r->w<=l k)/\
  vG [.int p,jf h w f,.tup (zD h b)]=dn (.val<|if s<r then .ft else .tup (zD w<|WX w B l s)):=by
 have W:=js;have U:h<=lim:=by omega
 have m:w<=lim:=by omega
 have O:w+1<=lim:=by omega
 obtain⟨r,B,l,e,I,n⟩:=kg J (show w+1<=100 by omega) U .L<|aug w f b;obtain⟨s,Y,j,g⟩:=Je w I.mono;refine⟨r,B,l,s,I,n,Y,j,g,?_⟩;have a:zT (.tp [0,1]) jd (zG qo (zc 0)<|qA<|zb (zc 1) zB) [Cell.no,Cell.no] ((MB h).map λi=>D.tup [.tup (zD w<|f i),.int (b i)])=dn (zZ h (w+1)<|aug w f b):=by unfold zZ;refine zv _ _ λi E=>zx rfl rfl ?_;simp[qo,O,AK]
 have K:ZR (zZ h w f) (zD h b)=(MB h).map λi=>D.tup [.tup (zD w<|f i),.int (b i)]:=by unfold ZR zZ zD;rw[OP];simp
 have o:MH w (D.int 0)=zD w λ_=>0:=by rw[y6];rfl
 have y:((w+1:Nat):Int)=(w:Int)+1:=by omega
 simp only[ri]at e;rw[y]at e;obtain⟨d,C⟩ : ∃d,r=s+d:=⟨r - s,by omega⟩;have G:zZ r (w+1) B=zZ s (w+1) B++zZ d (w+1) λk=>B (s+k):=by unfold zZ;rw[C,RA,NR,Nm];rfl
 obtain⟨M,N,F⟩:=bZ O I Y j (zZ d (w+1) λk=>B<|s+k) (.val<|.int p) (.val<|jf h w f)<|.val<|.tup<|zD h b;have H:jq (jf h w f)=dn (.T,[.int h,.int w,.tup (zZ h w f)]):=rfl;have A:vG=jk 7 (zL (jy 3<|eg (ze 1)<|zq<|.int 1)<|zL (xq 4<|tZ (jj<|qG<|zb (zq<|.int 0) zB)<|zc 3)<|zL (yN (zK<|zE<|j3<|jw qY<|zb (zc 0)<|zb (zG qo (zc 3)<|zq<|.int 1)<|zb (j3<|zM (Xo (eg (ze 1)<|zq<|.int 2)<|zc 2) (.tp [0,1]) 2 [] jd (zG qo (zc 0)<|qA<|zb (zc 1) zB)) zB) (.nm 5) yj)<|j5<|zP<|ze 4):=rfl;rw[A];simp[jk,z7,jg,H,m,K,U,ja,MH,a,e];rw[o,G,F];by_cases z:s<r
 ·
  have t:d=1:=by
   rcases Nc 1 d with q | q
   ·have P:=I.mono s (s+1) ⋯ ⋯
    have Q:=g s (MM _) z;have R:=I.lt (s+1) ⋯;omega
   ·omega
  subst t;have u:l s=w:=by have:=g s (MM _) z;have:=I.lt s z;omega
  have le:=vo O (B s) (show w<w+1 by omega) (λi E=>I.l6 s i z ⋯) (by have:=I.one s z;rw[u]at this;rw[this];decide);have one:zZ 1 (w+1) (λk=>B<|s+k)=[.tup (zD (w+1)<|B s)]:=rfl;rw[one,ju];simp[yj,jg,le,z]
 ·have x:d=0:=by omega
  subst x;have zero:zZ 0 (w+1) (λk=>B<|s+k)=[]:=rfl;rw[zero];simp[qL,z]
end
theorem AQ(h : ∀k,k<r->l k≠j):WX w B l r j=0:=by unfold WX;rw[zw (g:=λ_=>0) λk z=>UY<|h k z,zR]
theorem Fo{p:Int}{w n r:Nat}{B:Nat->Vc}{l:UX}(I:h7 p n r B l){k:Nat}(z:k<r):WX w B l r (l k)=B k w:=by unfold WX;rw[zV z λm a O=>UY λe=>O<|aO I.mono a z e,UJ rfl]
theorem nq{p:Int}{h w:Nat}{f:UV}{b y:Vc}(U : ∀i,i<h->zg (λj=>f i j*y j) w%p=b i%p){v:Vc}(Y:Span p (w+1) (eF h<|aug w f b) v):(v w - zg (λj=>v j*y j) w)%p=0:=by
 induction Y with
 | @zero v I=>
  have e:zg (λj=>v j*y j) w%p=zg (λ_=>0) w%p:=zQ λj O=>by rw[MO,I j ⋯];simp
  rw[OL,e,I w ⋯,zR];simp
 | @step v z g c n s a r=>
  obtain⟨i,o,rfl⟩:=n;have d:zg (λj=>v j*y j) w%p=(zg (λj=>z j*y j) w+c*zg (λj=>f i j*y j) w)%p:=by
   rw[<- jK,<- jH];refine zQ λj O=>?_;rw[MO,a j ⋯,<- MO];have:aug w f b i j=f i j:=by simp[aug,O]
   rw[this,D8,Ov]
  have k:v w%p=(z w+c*b i)%p:=by
   rw[a w ⋯];have:aug w f b i w=b i:=by simp[aug]
   rw[this]
  have l:(c*zg (λj=>f i j*y j) w)%p=(c*b i)%p:=by rw[MO,U i o,<- MO]
  rw[OL,d,k,<- OL];have m:(z w+c*b i - (zg (λj=>z j*y j) w+c*zg (λj=>f i j*y j) w))=(z w - zg (λj=>z j*y j) w)+(c*b i - c*zg (λj=>f i j*y j) w):=by omega
  rw[m,NO,r,OL,l];simp
theorem nt(Y:Pr p)(J:h<=90)(L:w<=90)(f:UV)(b y:Vc)(U : ∀i,i<h->0<=b i/\b i<p)(S : ∀i,i<h->zg (λj=>f i j*y j) w%p=b i) :
 ∃x:Vc,vG [.int p,jf h w f,.tup (zD h b)]=dn (.val<|.tup<|zD w x)/\(∀j,0<=x j/\x j<p)/\∀i,i<h->zg (λj=>f i j*x j) w%p=b i:=by
 have M:=Y.pos;obtain⟨r,B,l,s,O,d,T,t,N,m⟩:=Xh Y J L f b;have u : ¬s<r:=λz=>by
  have Q:=O.lt s z;have R:=N s (MM _) z;have F:l s=w:=by omega
  have P:=(d<|B s).mp (.gen ⟨s,z,rfl⟩);have q:=nq (y:=y) (λi a=>by rw[S i a,NU (U i a).1 (U i a).2]) P;have o:=O.one s z;rw[F]at o;have H:zg (λj=>B s j*y j) w=0:=by rw[zw (g:=λ_=>0) λj K=>by rw[O.l6 s j z ⋯];simp];exact zR _
  rw[o,H,Int.sub_zero,Y.one]at q;omega
 rw[UY u]at m;have G:s=r:=by omega
 subst G;refine⟨_,m,λj=>?_,λi a=>?_⟩
 ·by_cases e : ∃k,k<s/\l k=j
  ·obtain⟨k,I,rfl⟩:=e
   rw[Fo O I];exact O.ly k w I ⋯
  ·rw[AQ λk I E=>e ⟨k,I,E⟩];exact⟨Int.le_refl _,M⟩
 ·have n:=ZX O ((d<|aug w f b i).mpr (.gen ⟨i,a,rfl⟩)) w ⋯
  have A:aug w f b i w=b i:=by simp[aug]
  rw[A,NU (U i a).1 (U i a).2]at n;rw[n];congr 1;unfold WX;rw[zw (g:=λj=>zg (λk=>f i j*(if l k=j then B k w else 0)) s) λj _=>(jK _ _ _).symm,q9];refine zw λk I=>?_;rw[zV (i:=l k) (t k I) λj K C=>by rw[UY (Ny C)];simp,UJ rfl];simp only[aug,UJ (t k I)]
def kU(wd:UX)(b:f7):List D:=(MB b.n).map λi=>D.tup<|zD (wd<|b.s+i)<|b.v<|b.s+i
def qB(wd:UX)(b:f7):D:= .tup [.int b.s,.tup (kU wd b)]
@[simp] theorem cT(wd b):(kU wd b).length=b.n:=by simp[kU]
theorem aR(h:i<b.n):(kU wd b)[i]? = dn (.tup<|zD (wd<|b.s+i)<|b.v<|b.s+i):=by simp[kU,h]
@[simp] theorem HP(wd b):jq (qB wd b)=dn (.T,[.int b.s,.tup (kU wd b)]):=rfl
section
variable{wd:UX}{b:f7}{m5:List f7}
theorem XF(C:1<=b.n)(I:b.s+b.n<=100):qm [qB wd b]=dn (.val<|.tup [.int b.s,.int ((b.s+b.n - 1:Nat):Int)]):=by
 have e:((b.s:Int)+(b.n:Int) - 1)=((b.s+b.n - 1:Nat):Int):=by omega
 simp[qm,jk,z7,qB,MH];omega
theorem yE(C:b.s+b.n<=100)(r:Nat):qj [qB wd b,.int r]=dn (.val<|.bl<|b.has r):=by
 by_cases h:b.s<=r
 ·by_cases a:r<b.s+b.n
  ·have:(r:Int)<(b.s:Int)+b.n:=by omega
   simp[qj,jk,z7,qB,MH,f7.has,h,a,this]
  ·have : ¬((r:Int)<(b.s:Int)+b.n):=by omega
   simp[qj,jk,z7,qB,MH,f7.has,h,a,this]
 ·simp[qj,jk,z7,qB,MH,f7.has,h]
theorem vU{N:Nat}{A:Nat->f7}(z : ∀j,j<N->(A j).s+(A j).n<=100)(I:N<=lim)(r:Nat) :
 xm [.lst ((MB N).map λj=>qB wd<|A j),.int r]=dn (.own<|((MB N).filter λj=>(A j).has r).map λj=>D.tup<|zD (wd r)<|(A j).v r):=by
 simp only[xm,jk,z7,WW,jM,xV,jL,Nk,RD,MY,Nj,MH,Ph,O3,Ri,MJ,vY,jq,MP,MG,Nf,NI,I,if_true];rw[jB (λj=>(A j).has r) (λj=>D.tup<|zD (wd r)<|(A j).v r) (MB N) λj O=>⟨_,rfl,?_,λY=>?_⟩]
 ·rfl
 ·have e:=yE (wd:=wd) (z j<|MD.mp O) r
  simp[ja,e]
 ·obtain⟨b,g⟩:=kA.mp Y
  obtain⟨i,rfl⟩:=Nat.exists_eq_add_of_le b;have a:i<(A j).n:=by omega
  have f:(((A j).s+i:Nat):Int) - ((A j).s:Int)=(i:Int):=by omega
  have U:=aR (wd:=wd) a;have I:=js;have d:=z j<|MD.mp O;simp[ja,qB,a,U];rw[show((A j).s:Int)+(i:Int) - ((A j).s:Int)=(i:Int)by omega,qh,UJ a];exact U
theorem ZG(g:Nat->Vc)(z:q<=lim)(I:h<=lim):kO [.int h,.lst (zZ q h g)]=dn (.val<|jf h q λi j=>g j i):=by have e:=Zl (h:=q) (w:=h) g z I;unfold jf at e;simp[kO,jk,z7,MH,z,e];rfl
theorem aQ(h:Nat)(u:Nat->Vc)(L:List Nat):(L.map λj=>D.tup<|zD h<|u j)=zZ L.length h λi=>u (L.getD i 0):=by
 unfold zZ
 conv=>lhs;rw[<- je 0 L]
 rw[Nm];rfl
theorem oI(u:Nat->Int)(L:List Nat):(L.map λj=>D.int<|u j)=zD L.length λi=>u (L.getD i 0):=by
 unfold zD
 conv=>lhs;rw[<- je 0 L]
 rw[Nm];rfl
theorem vq(P:UK)(g:Nat->Int) : ∀N,zg (λi=>g<|((MB N).filter P).getD i 0) ((MB N).filter P).length=zg (λj=>if P j=d7 then g j else 0) N
 | 0=>rfl
 | N+1=>by
  have z:=vq P g N;rw[OJ,RZ];show _=zg _ N+_;rw[<- z];cases hP:P N with
  | false=>simp[hP]
  | true=>
   have e:([N].filter P)=[N]:=by simp[hP]
   rw[e,NZ,PD];show zg _ _+_=_;simp only[if_true];congr 1
   ·refine zw λi a=>?_
    simp[MI,Oc a]
   ·simp[MI,hP]
end
section
variable{wd:UX}{N m:Nat}{A:Nat->f7}{p:Int}{w:UK}{T:UW}{t:Vc}
theorem mH:ZR (zD N t) ((MB N).map λj=>qB wd<|A j)=(MB N).map λj=>D.tup [.int (t j),qB wd (A j)]:=by
 unfold ZR zD;rw[List.zip_map,Nm];have e:(MB N).zip (MB N)=(MB N).map λi=>(i,i):=by rw[List.zip_eq_zipWith,List.zipWith_self]
 rw[e,Nm];rfl
theorem KJ(U:Pr p)(Y : ∀j,j<N->(A j).s+(A j).n<=100)(S:N<=60)(Z:m<=5)(C : ∀k,wd k<=60)(hr:r<=m)(J : ∀j i,j<N->(A j).has r=d7->i<wd r->0<=(A j).v r i/\(A j).v r i<p) :
 kZ [z9 p m w wd T,.lst<|(MB N).map λj=>qB wd<|A j,.tup<|zD N t,.int r]=dn (.val<|.tup<|zD (wd r)<|o1 p A N t r):=by
 have E:=js;have G:=U.le;have B:=C r;have a:=vU (wd:=wd) Y (show N<=lim by omega) r;rw[aQ (wd r) (λj=>(A j).v r)]at a;have F:((MB N).filter λj=>(A j).has r).length<=N:=by have:=PF (λj=>(A j).has r)<|MB N;simpa using this
 have g:=ZG (q:=((MB N).filter λj=>(A j).has r).length) (h:=wd r) (λi=>(A<|((MB N).filter λj=>(A j).has r).getD i 0).v r) ⋯ ⋯;have I:=bK (p:=p) (h:=wd r) (w:=((MB N).filter λj=>(A j).has r).length) .L (λi j=>(A<|((MB N).filter λj=>(A j).has r).getD j 0).v r i) (λi=>t<|((MB N).filter λj=>(A j).has r).getD i 0) U.pos ⋯ ⋯ (λi j y O=>by
  have b:((MB N).filter λj=>(A j).has r).getD j 0∈(MB N).filter λj=>(A j).has r:=by rw[MI,MF O];exact Po _
  obtain⟨u,x⟩:=Np.mp b;have:=J _ i (MD.mp u) (by simpa using x) y;omega)
 have l:(zD (wd r) λi=>zg (λj=>(A<|((MB N).filter λj=>(A j).has r).getD j 0).v r i*t (((MB N).filter λj=>(A j).has r).getD j 0)) ((MB N).filter λj=>(A j).has r).length%p)=zD (wd r) (o1 p A N t r):=qZ λi _=>by unfold o1;rw[vq (λj=>(A j).has r) (λj=>(A j).v r i*t j) N];congr 1;refine zw λj _=>?_;rw[NX]
 rw[l]at I;have o:zT (.tp [0,1]) (sB<|zA qj<|zb (zc 1)<|zb (zc 2) zB) (zc 0) [.no,.no,.val (.int r)] ((MB N).map λj=>D.tup [.int (t j),qB wd (A j)])=dn (zD ((MB N).filter λj=>(A j).has r).length λi=>t<|((MB N).filter λj=>(A j).has r).getD i 0):=by rw[<- oI];refine jB (λj=>(A j).has r) (λj=>D.int<|t j) _ λj O=>⟨_,rfl,?_,λ_=>rfl⟩;have e:=yE (wd:=wd) (Y j<|MD.mp O) r;simp[e]
 have d:r<m+1:=by omega
 have z:=mH (N:=N) (wd:=wd) (t:=t) (A:=A);simp only[ri]at I;have f:N<=lim:=by omega
 refine jl<|zo (γ':=[.val (z9 p m w wd T),.val<|.lst<|(MB N).map λj=>qB wd<|A j,.val<|.tup<|zD N t,.val<|.int r,.val (.lst<|zD ((MB N).filter λj=>(A j).has r).length λi=>t<|((MB N).filter λj=>(A j).has r).getD i 0)]) ?_ ?_
 ·simp[-MI,z7,ja,MH,z,o,f]
 ·simp[-MI,z9,a,g,I,d]
theorem oG(U:Pr p)(I : ∀j,j<N->(A j).s+(A j).n<=m+1)(Y:N<=60)(L:m<=5)(J : ∀k,wd k<=60)(S : ∀j r i,j<N->(A j).has r=d7->i<wd r->0<=(A j).v r i/\(A j).v r i<p)(C:a<N)(Z : ∀i,i<a->t i=0)(t1:t a≠0) :
 Yh [z9 p m w wd T,.lst<|(MB N).map λj=>qB wd<|A j,.tup (zD N t)]=dn (.val<|qB wd<|DV p A N t a):=by
 have E:=js;have f:N<=lim:=by omega
 have h:=vo f t C Z t1;have B:=I a C;have l:zT (.nm 0) jd (zA kZ<|zb (zc 1)<|zb (zc 2)<|zb (zc 3)<|zb (zG qo (eg (ze 4)<|zq<|.int 0)<|zc 0) zB) [.no,.val<|z9 p m w wd T,.val<|.lst<|(MB N).map λj=>qB wd<|A j,.val<|.tup<|zD N t,.val (qB wd<|A a)] ((MB (A a).n).map λ(i:Nat)=>D.int i)=dn (kU wd<|DV p A N t a):=by
  unfold kU;refine zv _ _ λi b=>zx rfl rfl ?_;have b:=MD.mp b;have e:=KJ (T:=T) (w:=w) (t:=t) U (λj z=>by have:=I j z;omega) Y L J (r:=(A a).s+i) (by have:i<(A a).n:=b;omega) λj c z x u=>S j _ c z x u;have o:(((A a).s+i:Nat):Int)=((A a).s:Int)+(i:Int):=by omega
  rw[o]at e;have F:inR (((A a).s:Int)+(i:Int))=d7:=decide_eq_true (by have:i<(A a).n:=b;omega);simp[e];rfl
 have d:(A a).n<=lim:=by omega
 have y:inR ((A a).n:Int)=d7:=decide_eq_true ⋯;refine jl<|zo (γ':=[.val (z9 p m w wd T),.val<|.lst<|(MB N).map λj=>qB wd<|A j,.val<|.tup<|zD N t,.val<|qB wd<|A a,.no]) ?_ (zo (γ':=[.val (z9 p m w wd T),.val<|.lst<|(MB N).map λj=>qB wd<|A j,.val<|.tup<|zD N t,.val<|qB wd<|A a,.val (.lst<|kU wd<|DV p A N t a)]) ?_ ?_)
 ·simp[z7,MH,h,C]
 ·have O:=l
  rw[show((MB (A a).n).map λ(i:Nat)=>D.int i)=zD (A a).n λi=>(i:Int)from rfl]at O;simp[ja,jX,y,d,O]
 ·have g:(DV p A N t a).n<=lim:=d
  simp[cT,g];rfl
end
section
variable{wd:UX}{N m k r:Nat}{A:Nat->f7}{p:Int}{w:UK}{T:UW}{B:Nat->Vc}{l:UX}
theorem bc(l:UX)(g:Nat->D)(i:Nat) : ∀(L:List Nat),bh (L.map λj=>D.int ((l j:Nat):Int)) (L.map g) (i:Int)=(L.find? λj=>l j==i).map g
 | []=>rfl
 | j::L=>by
  have z:=bc l g i L;simp only[Nk,bh,Pg];by_cases h:l j=i
  ·simp[h]
  ·have a : ¬((l j:Nat):Int)=(i:Int):=by omega
   rw[UY a,z];have:(l j==i)=eh:=by simpa using h
   rw[this]
theorem Vn(l:UX) : ∀L:List Nat,Xz (L.map λj=>D.int ((l j:Nat):Int))=dn (L.map λj=>((l j:Nat):Int))
 | []=>rfl
 | j::L=>by simp[Xz,Vn l L]
theorem cV(z:h7 p N r B l)(I:r<=lim):pw ((MB r).map λj=>D.int ((l j:Nat):Int)) ((MB r).map λj=>D.tup<|zD N<|B j)=dn (.l9 ((MB r).map λj=>D.int ((l j:Nat):Int))<|(MB r).map λj=>D.tup<|zD N<|B j):=by unfold pw;rw[Vn];dsimp only;rw[UJ];refine⟨by simp,?_,by simpa using I⟩;rw[List.nodup_iff_pairwise_ne,Rv];refine RK (λ{a b} d O h=>?_)<|Rt (n:=r);have:=z.mono a b h<|MD.mp O;omega
theorem Yu(f g:Nat->D) : ∀L:List Nat,wg (L.map λj=>D.tup [f j,g j])=dn (L.map f,L.map g)
 | []=>rfl
 | j::L=>by simp[wg,Yu f g L]
theorem Xc(h:k<(jD m w wd T).length):(jD m w wd T)[k]=qH w wd T k:=by simp[jD]
theorem yk(w wd T k):jq (qH w wd T k)=dn (.T,[.str (xu<|gB<|w k),jf (fy w wd k) (fA w wd k) (T k)]):=rfl
theorem WE:xG ((MB N).map λj=>qB wd<|A j)=(MB N).map λ(i:Nat)=>D.tup [.int i,qB wd (A i)]:=by unfold xG;simp only[Nf,NI];refine MQ λi a=>?_;have a:=MD.mp a;simp[a]
noncomputable def AS(p:Int)(w:UK)(wd:UX)(T:UW)(k:Nat)(u:Vc):Prop:=if w k=d7 then Span p (wd k) (eF (wd<|k+1) λj i=>T k i j) u else Dq p (wd<|k+1) (wd k) (T k) u
theorem bY(U:Pr p)(Y : ∀k,wd k<=8)(w)(T)(k:Nat) : ∃q g,q<=100/\(∀u,Span p (wd k) (eF q g) u↔AS p w wd T k u)/\
 (if w k=d7 then ZI [.int p,jf (fy w wd k) (fA w wd k) (T k)]=dn (.own<|zZ q (wd k) g)else vH [.int p,jf (fy w wd k) (fA w wd k) (T k)]=dn (.own<|zZ q (wd k) g)):=by
 have m:=js;have f:=Y k;have j:=Y<|k+1;have b : ∀{r n:Nat} {B:Nat->Vc} {l:UX},h7 p n r B l->r<=n:=λ{r n B l} z=>by
  have mono : ∀k,k<r->k<=l k:=by
   intro k
   induction k with
   | zero=>intro _;omega
   | succ k i=>intro f;have:=i ⋯;have:=z.mono k (k+1) ⋯ f;omega
  cases r with
  | zero=>omega
  | succ d=>have:=mono d ⋯;have:=z.lt d ⋯;omega
 cases hw:w k with
 | true=>
  have a:fy w wd k=wd k:=by unfold fy;rw[hw];rfl
  have I:fA w wd k=wd (k+1):=by unfold fA;rw[hw];rfl
  obtain⟨r,B,l,e,z,O⟩:=Kf U (h:=wd k) (w:=wd<|k+1) ⋯ ⋯<|T k;refine⟨r,B,by have:=b z;omega,λu=>by unfold AS;rw[hw,UJ rfl];exact O u,?_⟩;rw[UJ rfl,a,I];exact e
 | false=>
  have a:fy w wd k=wd (k+1):=by unfold fy;rw[hw];rfl
  have I:fA w wd k=wd k:=by unfold fA;rw[hw];rfl
  obtain⟨q,K,l,s,e,z,O,_⟩:=yK U (h:=wd<|k+1) (w:=wd k) ⋯ ⋯<|T k;refine⟨q,K,by have:=b z;omega,λu=>by unfold AS;rw[hw,UY ⋯];exact O u,?_⟩;rw[UY ⋯,a,I];exact e
theorem VY:Zk=jk 8 (zL TZ<|zL T3<|zL M1<|zL T4<|zL T5 T6):=rfl
theorem cf(S:Pr p)(hb : ∀j,j<N->(A j).s+(A j).n<=m+1)(J : ∀j,j<N->(A j).has k=d7)(Z:k<m)(hN:N<=8)(hm:m<=5)(C : ∀k,wd k<=8)(hv : ∀j r i,j<N->(A j).has r=d7->i<wd r->0<=(A j).v r i/\(A j).v r i<p) :
 ∃r B l,h7 p N r B l/\(∀t,Span p N (eF r B) t↔AS p w wd T k (app (λi j=>(A j).v k i) N t))/\
  Zk [z9 p m w wd T,.int k,.lst ((MB N).map λj=>qB wd<|A j)]=dn (.own<|(MB N).map λi=>qB wd<|iS p A N r B l i):=by
 have hl:=js;obtain⟨q,g,hq,y,U⟩:=bY S C w T k;have bd:=C k;obtain⟨r,B,l,H,z,hs⟩:=Yi S (h:=wd k) (w:=N) (q:=q) ⋯ ⋯ hq (λi j=>(A j).v k i) g;refine⟨r,B,l,z,λt=>(hs t).trans (y _),?_⟩;have Y:N<=lim:=by omega
 have E:k<m+1:=by omega
 have rN:r<=N:=by
  have mono : ∀k,k<r->k<=l k:=by
   intro k
   induction k with
   | zero=>intro _;omega
   | succ k ih=>intro J;have:=ih ⋯;have:=z.mono k (k+1) ⋯ J;omega
  cases r with
  | zero=>omega
  | succ f=>have:=mono f ⋯;have:=z.lt f ⋯;omega
 have o:r<=lim:=by omega
 have u:=vU (wd:=wd) (A:=A) (N:=N) (λj I=>by have:=hb j I;omega) Y k;have W:((MB N).filter λj=>(A j).has k)=MB N:=List.filter_eq_self.mpr λj I=>J j<|MD.mp I;rw[W]at u;have K:=ZG (q:=N) (h:=wd k) (λj=>(A j).v k) Y ⋯;have F:xm [.lst ((MB N).map λj=>qB wd<|A j),.int k]=dn (.own<|zZ N (wd k) λj=>(A j).v k):=u;have M:zT (.nm 0) jd (qA<|zb (zA qW<|zb (zc 0) zB)<|zb (zc 0) zB) [.no] (zZ r N B)=dn ((MB r).map λj=>D.tup [.int ((l j:Nat):Int),.tup (zD N<|B j)]):=by unfold zZ;refine zv _ _ λj I=>zx rfl rfl ?_;have I:=MD.mp I;have e:=vo Y (B j) (z.lt j I) (λi b=>z.l6 j i I b) (by rw[z.one j I];decide);simp[e]
 have P:=cV z o;have Q:=Yu (λj=>D.int ((l j:Nat):Int)) (λj=>D.tup<|zD N<|B j)<|MB r;let d:D:= .l9 ((MB r).map λj=>D.int ((l j:Nat):Int)) ((MB r).map λj=>D.tup<|zD N<|B j);let L:D:= .lst ((MB N).map λj=>qB wd<|A j);have R:zT (.tp [0,1]) jd (fj (sB<|BL (zc 0)<|zc 4) (zA Yh<|zb (zc 2)<|zb (zc 3)<|zb (FH (zc 4)<|zc 0) zB)<|zc 1) [.no,.no,.val<|z9 p m w wd T,.val L,.val d] ((MB N).map λ(i:Nat)=>D.tup [.int i,qB wd (A i)])=dn ((MB N).map λi=>qB wd<|iS p A N r B l i):=by
  refine zv _ _ λi b=>zx rfl rfl ?_;have b:=MD.mp b;have O:=bc l (λj=>D.tup<|zD N<|B j) i<|MB r;have G:(MB r).find? (λj=>l j==i)=mr r l i:=rfl;rw[G]at O;unfold iS;cases hx:mr r l i with
  | none=>
   rw[hx]at O;simp[d,BL,O]
  | some j=>
   rw[hx]at O;obtain⟨x,X⟩:=xS hx;have e:=oG (T:=T) (w:=w) (t:=B j) S hb ⋯ hm (λk=>by have:=C k;omega) hv (a:=i) b (λc hc=>z.l6 j c x ⋯) (by rw[<- X,z.one j x];decide);simp[d,BL,FH,O,L,e]
 rw[VY];refine jl (zo (γ':=[.val (z9 p m w wd T),.val<|.int k,.val L,.val<|.str<|xu<|gB<|w k,.no,.no,.no,.no]) ?_
  (zo (γ':=[.val (z9 p m w wd T),.val<|.int k,.val L,.val<|.str<|xu<|gB<|w k,.val<|jf (fy w wd k) (fA w wd k)<|T k,.no,.no,.no]) ?_
  (zo (γ':=[.val (z9 p m w wd T),.val<|.int k,.val L,.val<|.str<|xu<|gB<|w k,.val<|jf (fy w wd k) (fA w wd k)<|T k,.val<|.lst<|zZ q (wd k) g,.no,.no]) ?_
  (zo (γ':=[.val (z9 p m w wd T),.val<|.int k,.val L,.val<|.str<|xu<|gB<|w k,.val<|jf (fy w wd k) (fA w wd k)<|T k,.val<|.lst<|zZ q (wd k) g,.val<|.lst<|zZ r N B,.no]) ?_
  (zo (γ':=[.val (z9 p m w wd T),.val<|.int k,.val L,.val<|.str<|xu<|gB<|w k,.val<|jf (fy w wd k) (fA w wd k)<|T k,.val<|.lst<|zZ q (wd k) g,.val<|.lst<|zZ r N B,.val d]) ?_ ?_)))))
 ·simp[TZ,z7,MH,yY,yk,Xc,Z];rfl
 ·simp[T3,yY,yk,Xc,Z]
 ·cases hw:w k with
  | true=>
   rw[hw,UJ rfl]at U;have eq:=QS d7;simp[M1,yY,eq,U]
  | false=>
   rw[hw,UY ⋯]at U;have eq:=QS eh;simp[M1,yY,eq,U]
 ·simp[T4,yY,E,L,F,K,H]
 ·simp[T5,ja,M,o,Q,P];rfl
 ·simp[T6,ja,L,WE,Y,R]
end
def oD(n:Nat):Option Vc->D
 | none=> .ft
 | some y=> .tup (zD n y)
theorem cc(U:Pr p)(Y:h<=90)(C:w<=90)(f:UV)(b:Vc)(O : ∀i,i<h->0<=b i/\b i<p) :
 ∃o:Option Vc,vG [.int p,jf h w f,.tup (zD h b)]=dn (.val<|oD w o)/\(∀x,o=dn x->(∀j,0<=x j/\x j<p)/\∀i,i<h->app f w x i%p=b i%p)/\(o=ed->¬∃y:Vc,∀i,i<h->app f w y i%p=b i%p):=by
 have n : ∀i,i<h->b i%p=b i:=λi a=>NU (O i a).1 (O i a).2;by_cases I : ∃y:Vc,∀i,i<h->app f w y i%p=b i%p
 ·obtain⟨y,I⟩:=I
  obtain⟨x,e,K,L⟩:=nt U Y C f b y O λi a=>by rw[<- n i a,<- I i a];rfl
  refine⟨dn x,e,λR H=>?_,λz=>by cases z⟩;cases H;exact⟨K,λi a=>by rw[n i a];exact L i a⟩
 ·obtain⟨r,B,l,s,M,E,P,A,Q,d⟩:=Xh U Y C f b
  have m:s<r:=by
   refine Oj λm=>I ?_;have J:s=r:=by omega
   subst J;refine⟨WX w B l s,λi a=>?_⟩;have t:=ZX M ((E<|aug w f b i).mpr (.gen ⟨i,a,rfl⟩)) w ⋯;have F:aug w f b i w=b i:=by simp[aug]
   rw[F]at t;rw[t];congr 1;unfold app WX;rw[zw (g:=λj=>zg (λk=>f i j*(if l k=j then B k w else 0)) s) λj _=>(jK _ _ _).symm,q9];refine zw λk u=>?_;rw[zV (i:=l k) (A k u) λj N G=>by rw[UY (Ny G)];simp,UJ rfl];simp only[aug,UJ (A k u)]
  rw[UJ m]at d;exact⟨ed,d,nofun,λ_=>I⟩
section
variable{wd:UX}{m k:Nat}{p:Int}{w:UK}{T:UW}
theorem oE:xN=jk 4 (zL DX<|zL L4 L5):=rfl
theorem KZ(b:Bool):hG (.str (xu (gB b))) (.str "l")=dn (.bl b):=by cases b<;>kernel_rfl
theorem Va(I:Pr p)(C : ∀k,wd k<=8)(J : ∀i j,i<fy w wd k->j<fA w wd k->0<=T k i j/\T k i j<p)(u:Vc)(L : ∀i,i<wd k->0<=u i/\u i<p) :
 ∃o:Option Vc,xN [.int p,qH w wd T k,.tup (zD (wd k) u)]=dn (.val<|oD (wd<|k+1) o)/\(∀y,o=dn y->∀c,c<wd (k+1)->0<=y c/\y c<p)/\
  (w k=eh->(o=ed->∀c,c<wd (k+1)->app (T k) (wd k) u c%p=0)/\∀y,o=dn y->(∀c,c<wd (k+1)->app (T k) (wd k) u c%p=y c%p)/\∃c,c<wd (k+1)/\y c%p≠0)/\
  (w k=d7->(o=ed->¬∃y:Vc,∀c,c<wd k->app (T k) (wd<|k+1) y c%p=u c%p)/\∀y,o=dn y->∀c,c<wd k->app (T k) (wd<|k+1) y c%p=u c%p):=by
 have F:=js;have G:=I.le;have E:=C k;have B:=C<|k+1;rw[oE];cases hw:w k with
 | true=>
  have b:fy w wd k=wd k:=by unfold fy;rw[hw];rfl
  have O:fA w wd k=wd (k+1):=by unfold fA;rw[hw];rfl
  obtain⟨o,r,a,d⟩:=cc I (h:=wd k) (w:=wd<|k+1) ⋯ ⋯ (T k) u L;refine⟨o,?_,λy e c _=>(a y e).1 c,nofun,λ_=>⟨d,λy e=>(a y e).2⟩⟩;refine jl ?_;have U:=KZ d7;have t:DX (z7 4 [.int p,qH w wd T k,.tup (zD (wd k) u)])=dn (.ret<|.val<|oD (wd<|k+1) o):=by simp[DX,z7,MH,yk,hw,U,b,O,r]
  rw[jg,t];rfl
 | false=>
  have b:fy w wd k=wd (k+1):=by unfold fy;rw[hw];rfl
  have O:fA w wd k=wd k:=by unfold fA;rw[hw];rfl
  rw[b,O]at J;have g:=bK (p:=p) (h:=wd<|k+1) (w:=wd k) .T (T k) u I.pos ⋯ ⋯ λi j x A=>by have:=J i j x A;omega
  simp only[ri]at g;have U:=KZ eh;have n:=W9 (λi=>zg (λj=>T k i j*u j) (wd k)%p)<|wd<|k+1;by_cases Y : ∃c,c<wd (k+1)/\zg (λj=>T k c j*u j) (wd k)%p≠0
  ·refine⟨dn λi=>zg (λj=>T k i j*u j) (wd k)%p,?_,(λy e c _=>by cases e;exact⟨NG _ (by have:=I.pos;omega),Nr _ I.pos⟩),λ_=>⟨nofun,(λy e=>by cases e;exact⟨(λc _=>by rw[Nl];rfl),(by obtain⟨c,a,d⟩:=Y;exact⟨c,a,(by rw[Nl];exact d)⟩)⟩)⟩,nofun⟩
   refine jl<|zo (γ':=[.val (.int p),.val<|qH w wd T k,.val<|.tup<|zD (wd k) u,.no]) ?_ (zo (γ':=[.val (.int p),.val<|qH w wd T k,.val<|.tup<|zD (wd k) u,.val (.tup<|zD (wd<|k+1) λi=>zg (λj=>T k i j*u j) (wd k)%p)]) ?_ ?_)
   ·simp[DX,z7,MH,yk,hw,U]
   ·simp[L4,yk,b,O,g]
   ·have f:(MB<|wd<|k+1).any (λi=>(zg (λj=>T k i j*u j) (wd k)%p) != 0)=d7:=by
     obtain⟨c,a,d⟩:=Y;exact Tx.mpr ⟨c,MD.mpr a,by simpa using d⟩
    have l:AW (ze 3) [.val (.int p),.val<|qH w wd T k,.val<|.tup<|zD (wd k) u,.val (.tup<|zD (wd<|k+1) λi=>zg (λj=>T k i j*u j) (wd k)%p)]=dn (.bl d7):=by show((JE _).map λs=>D.bl<|s.any id)=_;rw[n];show dn (D.bl<|((MB<|wd<|k+1).map λi=>(zg (λj=>T k i j*u j) (wd k)%p) != 0).any id)=_;rw[List.any_map];rw[show(id∘λi=>(zg (λj=>T k i j*u j) (wd k)%p) != 0)=λi=>(zg (λj=>T k i j*u j) (wd k)%p) != 0 from rfl,f]
    unfold L5;simp only[yn,sv,bJ,l];rfl
  ·refine⟨ed,?_,nofun,λ_=>⟨λ_ c m=>Oj λz=>Y ⟨c,m,z⟩,nofun⟩,nofun⟩
   refine jl<|zo (γ':=[.val (.int p),.val<|qH w wd T k,.val<|.tup<|zD (wd k) u,.no]) ?_ (zo (γ':=[.val (.int p),.val<|qH w wd T k,.val<|.tup<|zD (wd k) u,.val (.tup<|zD (wd<|k+1) λi=>zg (λj=>T k i j*u j) (wd k)%p)]) ?_ ?_)
   ·simp[DX,z7,MH,yk,hw,U]
   ·simp[L4,yk,b,O,g]
   ·have f:(MB<|wd<|k+1).any (λi=>(zg (λj=>T k i j*u j) (wd k)%p) != 0)=eh:=Tt.mpr λc m z=>Y ⟨c,MD.mp m,by simpa using z⟩
    have l:AW (ze 3) [.val (.int p),.val<|qH w wd T k,.val<|.tup<|zD (wd k) u,.val (.tup<|zD (wd<|k+1) λi=>zg (λj=>T k i j*u j) (wd k)%p)]=dn (.bl eh):=by show((JE _).map λs=>D.bl<|s.any id)=_;rw[n];show dn (D.bl<|((MB<|wd<|k+1).map λi=>(zg (λj=>T k i j*u j) (wd k)%p) != 0).any id)=_;rw[List.any_map];rw[show(id∘λi=>(zg (λj=>T k i j*u j) (wd k)%p) != 0)=λi=>(zg (λj=>T k i j*u j) (wd k)%p) != 0 from rfl,f]
    unfold L5;simp only[yn,sv,bJ,l];rfl
end
section
variable{wd:UX}{m k:Nat}{p:Int}{w:UK}{T:UW}
theorem oS(h:1<=n):h6 n (-1)=dn (n - 1):=by unfold h6;rw[UY ⋯,UJ ⋯];congr 1;omega
theorem gS(z:b.s+b.n=k+1)(y:Vc):kU wd (lW k b<|some y)=kU wd b++[D.tup (zD (wd<|k+1) y)]:=by
 unfold kU lW;dsimp only;rw[OJ,NR];congr 1
 ·refine MQ λi a=>?_
  have a:=MD.mp a;rw[UY ⋯]
 ·simp[z]
theorem eE:yp=jk 4 (zL Ug M7):=rfl
theorem mW(C:1<=b.n)(I:b.s+b.n=k+1)(Y:k<=20)(e:xN [.int p,qH w wd T k,.tup (zD (wd k)<|b.v k)]=dn (.val<|oD (wd<|k+1) o)) :
 yp [.int p,qH w wd T k,qB wd b]=dn (.val<|qB wd<|lW k b o):=by
 have j:=js;have f:=oS C;have z:=aR (wd:=wd) (b:=b) (i:=b.n - 1) ⋯;rw[show b.s+(b.n - 1)=k by omega]at z;have h:b.n - 1<b.n:=by omega
 rw[eE];refine jl<|zo (γ':=[.val (.int p),.val<|qH w wd T k,.val<|qB wd b,.val (oD (wd<|k+1) o)]) ?_ ?_
 ·unfold Ug
  have a:eg (zE<|eg (ze 2)<|zq<|.int 1) (BI<|zq<|.int 1) (z7 4 [.int p,qH w wd T k,qB wd b])=dn (.tup<|zD (wd k)<|b.v k):=by have O : ∀g:Ctx,BI (zq<|.int 1) g=dn (.int (-1)):=λ_=>rfl;simp[z7,MH,f,O];exact z
  simp only[Zi,xM,jb,xl,a];simp[z7,MH,e]
 ·cases o with
  | none=>simp[M7,oD,ES,lW]
  | some y=>
   have d:b.n+1<=lim:=by omega
   have U:=gS (wd:=wd) I y;simp[M7,oD,ES,d,qo];unfold qB;rw[U];rfl
noncomputable def mn(p:Int)(w:UK)(wd:UX)(T:UW)(k:Nat)(L:List Vc):Prop:=
 if w k=d7 then ∃q K l s,L=(MB q).map K/\h7 p (wd<|k+1) q K l/\(∀v,Span p (wd<|k+1) (eF q K) v↔Dq p (wd k) (wd<|k+1) (T k) v)/\Rk p (wd k) (wd<|k+1) (λj i=>T k i j) s/\q+s=wd (k+1)
 else ∃r B l,h7 p (wd<|k+1) r B l/\(∀v,Span p (wd<|k+1) (eF r B) v↔Span p (wd<|k+1) (eF (wd k) λj i=>T k i j) v)/\L=((MB<|wd<|k+1).filter λ(c:Nat)=> !decide ((c:Int)∈(MB r).map λj=>((l j:Nat):Int))).map qg
theorem uS:yI=jk 3 (zL E9<|zL S5 S6):=rfl
theorem X6(l:UX) : ∀L:List Nat,KR (L.map λj=>D.int ((l j:Nat):Int))=dn (L.map λj=>((l j:Nat):Int))
 | []=>rfl
 | j::L=>by simp[KR,X6 l L]
theorem V5(z:h7 p n r B l):r<=n:=by
 have mono : ∀k,k<r->k<=l k:=by
  intro k
  induction k with
  | zero=>intro _;omega
  | succ k O=>intro U;have:=O ⋯;have:=z.mono k (k+1) ⋯ U;omega
 cases r with
 | zero=>omega
 | succ I=>have:=mono I ⋯;have:=z.lt I ⋯;omega
theorem iD(n:Nat):xG (zZ n n λi j=>if i=j then 1 else 0)=(MB n).map λ(i:Nat)=>D.tup [.int i,.tup (zD n<|qg i)]:=by unfold xG zZ;simp only[Nf,NI];refine MQ λi a=>?_;have a:=MD.mp a;simp[a];rfl
theorem Vb(J:Pr p)(C : ∀k,wd k<=8) : ∃L:List Vc,mn p w wd T k L/\yI [.int p,qH w wd T k]=dn (.own<|L.map λy=>D.tup<|zD (wd<|k+1) y):=by
 have M:=js;have H:=C k;have G:=C<|k+1;rw[uS];unfold mn;cases hw:w k with
 | true=>
  have a:fy w wd k=wd k:=by unfold fy;rw[hw];rfl
  have O:fA w wd k=wd (k+1):=by unfold fA;rw[hw];rfl
  obtain⟨q,K,l,s,e,z,U,E,t⟩:=yK J (h:=wd k) (w:=wd<|k+1) ⋯ ⋯<|T k;refine⟨(MB q).map K,by rw[UJ rfl];exact⟨q,K,l,s,rfl,z,U,E,t⟩,jl ?_⟩;have Y:=KZ d7;have d:E9 (z7 3 [.int p,qH w wd T k])=dn (.ret<|.own<|zZ q (wd<|k+1) K):=by simp[E9,z7,MH,yk,hw,Y,a,O,e]
  rw[jg,d,Nm];rfl
 | false=>
  have a:fy w wd k=wd (k+1):=by unfold fy;rw[hw];rfl
  have O:fA w wd k=wd k:=by unfold fA;rw[hw];rfl
  obtain⟨r,B,l,e,z,U⟩:=Kf J (h:=wd<|k+1) (w:=wd k) ⋯ ⋯<|T k;have N:=V5 z;have u:r<=lim:=by omega
  have b:wd (k+1)<=lim:=by omega
  refine⟨_,by rw[UY ⋯];exact⟨r,B,l,z,U,rfl⟩,?_⟩;have Y:=KZ eh;have x:zT (.nm 0) jd (zA qW<|zb (zc 0) zB) [.no] (zZ r (wd<|k+1) B)=dn ((MB r).map λj=>D.int ((l j:Nat):Int)):=by unfold zZ;refine zv _ _ λj I=>zx rfl rfl ?_;have I:=MD.mp I;have e:=vo b (B j) (z.lt j I) (λi f=>z.l6 j i I f) (by rw[z.one j I];decide);simp[e]
  have A:zT (.tp [0,1]) (sB<|Ku (zc 0)<|ze 2) (zc 1) [.no,.no,.val (.lst<|(MB r).map λj=>D.int ((l j:Nat):Int))] ((MB<|wd<|k+1).map λ(i:Nat)=>D.tup [.int i,.tup (zD (wd<|k+1)<|qg i)]) =
   dn (((MB<|wd<|k+1).filter λ(c:Nat)=> !decide ((c:Int)∈(MB r).map λj=>((l j:Nat):Int))).map λ(i:Nat)=>D.tup<|zD (wd<|k+1)<|qg i):=by
   refine jB (λ(c:Nat)=> !decide ((c:Int)∈(MB r).map λj=>((l j:Nat):Int))) (λ(i:Nat)=>D.tup<|zD (wd<|k+1)<|qg i) _ λi f=>⟨_,rfl,?_,λ_=>rfl⟩;have F:=X6 l<|MB r;show(Ku (zc 0) (ze 2) [.val (.int i),_,.val (.lst<|(MB r).map λj=>D.int ((l j:Nat):Int))]).bind ra=_;show((KR<|(MB r).map λj=>D.int ((l j:Nat):Int)).map λl=>D.bl<|!decide ((i:Int)∈l)).bind ra=_;rw[F];rfl
  have d:=vn (n:=wd<|k+1) b;refine jl<|zo (γ':=[.val (.int p),.val<|qH w wd T k,.no]) ?_ (zo (γ':=[.val (.int p),.val<|qH w wd T k,.val (.lst<|(MB r).map λj=>D.int ((l j:Nat):Int))]) ?_ ?_)
  ·simp[E9,z7,MH,yk,hw,Y]
  ·simp[S5,ja,yk,a,O,e,u,x]
  ·have g:jq (jf (fy w wd k) (fA w wd k)<|T k)=dn (.T,[.int (wd (k+1):Nat),.int (wd k:Nat),.tup (zZ (wd<|k+1) (wd k)<|T k)]):=by rw[a,O];rfl
   have m:jq (jf (wd<|k+1) (wd<|k+1) λi j=>if i=j then 1 else 0)=dn (.T,[.int (wd (k+1):Nat),.int (wd (k+1):Nat),.tup (zZ (wd<|k+1) (wd<|k+1) λi j=>if i=j then 1 else 0)]):=rfl;have o:=iD<|wd<|k+1;simp[S6,ja,yk,g,d,m,o,b];rw[A];exact congrArg dn (congrArg (List.map _)<|Ts λc _=>by simp)
end
section
variable{wd:UX}{m k r N:Nat}{p:Int}{w:UK}{T:UW}{B:Nat->Vc}{l:UX}{A:Nat->f7}
theorem rW(I:h7 p N r B l){j:Nat}(z:j<r):mr r l (l j)=dn j:=by
 cases h:mr r l (l j)with
 | none=>exact absurd rfl<|Jk h j z
 | some i=>
  obtain⟨a,b⟩:=xS h;rw[aO I.mono a z b]
theorem Wr{a b:List Nat}(C:a.Nodup)(z:b.Nodup)(h : ∀x,x∈a↔x∈b):a.length=b.length:=((List.perm_ext_iff_of_nodup C z).mpr h).length_eq
theorem K8(z:h7 p N r B l):(MB N).countP (λi=>(mr r l i).isSome)=r:=by
 rw[NS];have e:((MB N).filter λi=>(mr r l i).isSome).length=((MB r).map l).length:=by
  refine Wr (Sz.sublist RQ) ?_ λx=>?_
  ·rw[List.nodup_iff_pairwise_ne,Rv]
   refine RK (λ{a b} g I h=>?_)<|Rt (n:=r);have:=z.mono a b h<|MD.mp I;omega
  ·rw[Np,Nb]
   constructor
   ·rintro⟨d,f⟩
    obtain⟨j,O⟩:=OK.mp f;obtain⟨U,Y⟩:=xS O;exact⟨j,MD.mpr U,Y⟩
   ·rintro⟨j,d,f⟩
    have d:=MD.mp d;subst f;exact⟨MD.mpr<|z.lt j d,by rw[rW z d];rfl⟩
 rw[e];simp
theorem lg(q:UK)(N:Nat):(MB N).countP q+(MB N).countP (λi=> !q i)=N:=by
 have:=Tp q (l:=MB N);rw[NI]at this;rw[this];congr 1
 ·rw[<- this]
 ·rw[<- this]
  exact Oz λi _=>by simp
theorem Hh(z : ∀j,j<N->(A j).has k=d7)(t:Vc)(c:Nat):o1 p A N t k c%p=app (λi j=>(A j).v k i) N t c%p:=by unfold o1 app;rw[Nl];congr 1;exact zw λj I=>by rw[UJ (z j I),NX]
theorem Zp(z : ∀j,j<N->(A j).has k=d7)(h:mr r l i=dn j)(c:Nat):(iS p A N r B l i).v k c%p=app (λi j=>(A j).v k i) N (B j) c%p:=by unfold iS;rw[h];exact Hh z (B j) c
theorem Kq(h:mr r l i=ed):iS p A N r B l i=A i:=by unfold iS;rw[h]
theorem da(hp:Pr p)(S : ∀k,wd k<=8)(Z : ∀j,j<wd k->(A j).has k=d7)(hs : ∀v:Vc,∃t,∀i,i<wd k->v i%p=app (λi j=>(A j).v k i) (wd k) t i%p)
 (L:h7 p (wd k) r B l) (hW : ∀t,Span p (wd k) (eF r B) t↔AS p w wd T k (app (λi j=>(A j).v k i) (wd k) t)) {J:List Vc} (C:mn p w wd T k J) {nx:Nat->Option Vc}
 (hr : ∀i,i<wd k->w k=eh->(nx i=ed->∀c,c<wd (k+1)->app (T k) (wd k) ((iS p A (wd k) r B l i).v k) c%p=0)/\∀y,nx i=dn y->(∀c,c<wd (k+1)->app (T k) (wd k) ((iS p A (wd k) r B l i).v k) c%p=y c%p)/\∃c,c<wd (k+1)/\y c%p≠0)
 (hl : ∀i,i<wd k->w k=d7->(nx i=ed->¬∃y:Vc,∀c,c<wd k->app (T k) (wd<|k+1) y c%p=(iS p A (wd k) r B l i).v k c%p)/\∀y,nx i=dn y->∀c,c<wd k->app (T k) (wd<|k+1) y c%p=(iS p A (wd k) r B l i).v k c%p) :
 (∀y,y∈J->∀c,c<wd (k+1)->0<=y c/\y c<p)/\(∀y,y∈J->w k=d7->∀c,c<wd k->app (T k) (wd<|k+1) y c%p=0)/\
   (∀v,Span p (wd<|k+1) (λg=>(∃i,i<wd k/\nx i=dn g)\/g∈J) v)/\(MB<|wd k).countP (λi=>(nx i).isSome)+J.length=wd (k+1):=by
 have two:=hp.two;cases hw:w k with
 | false=>
  have u : ∀t,Span p (wd k) (eF r B) t↔Dq p (wd<|k+1) (wd k) (T k) (app (λi j=>(A j).v k i) (wd k) t):=λt=>by have:=hW t;unfold AS at this;rw[hw,UY ⋯]at this;exact this
  unfold mn at C;rw[hw,UY ⋯]at C;obtain⟨o,B2,n,as,hI,U⟩:=C;obtain⟨g1,g2,g3,G⟩:=Bz hp (S k) (S<|k+1) hs L u as hI;have b7 : ∀c,c<wd (k+1)->(∀j,j<o->n j≠c)->qg c∈J:=λc O C=>by rw[U];refine Nb.mpr ⟨c,Np.mpr ⟨MD.mpr O,?_⟩,rfl⟩;simp only[OR,decide_eq_false_iff_not,Nb,MD];rintro⟨j,f,h⟩;exact C j f ⋯
  have on : ∀i,i<wd k->(nx i).isSome=(mr r l i).isNone:=λi d=>by
   cases b:mr r l i with
   | none=>
    obtain⟨c,f,h⟩:=g2 i d<|Jk b;cases I:nx i with
    | some y=>rfl
    | none=>
     have:=(hr i d hw).1 I c f;rw[Kq b]at this;exact absurd this h
   | some j=>
    obtain⟨f,h⟩:=xS b;cases I:nx i with
    | none=>rfl
    | some y=>
     obtain⟨e,c,M,h4⟩:=(hr i d hw).2 y I;have z:=g1 j f c M;rw[<- jV (λa _=>Zp (B:=B) (r:=r) (l:=l) Z b a) c,e c M]at z;exact absurd z h4
  refine⟨λy I c O=>?_,(λy I z=>by cases z),λv=>G _ (λc O x=>?_) (λc O x=> .gen (.inr<|b7 c O x)) v,?_⟩
  ·rw[U]at I
   obtain⟨i,_,rfl⟩:=Nb.mp I;unfold qg;split<;>omega
  ·have b:mr r l c=ed:=by
    cases b:mr r l c with
    | none=>rfl
    | some j=>exact absurd (xS b).2 (x j (xS b).1)
   have m:=on c O;rw[b]at m;obtain⟨y,I⟩:=OK.mp m;refine(Span.gen<|.inl ⟨c,O,I⟩).congr λi d=>?_;have:=((hr c O hw).2 y I).1 i d;rw[Kq b]at this;exact this
  ·have F:(MB<|wd k).countP (λi=>(nx i).isSome)=(MB<|wd k).countP λi=> !(mr r l i).isSome:=Oz λi d=>by
    rw[on i (MD.mp d)];cases mr r l i<;>simp
   have W:=lg (λi=>(mr r l i).isSome)<|wd k;rw[K8 L]at W;have X:=lg (λi=>(mr o n i).isSome)<|wd<|k+1;rw[K8 as]at X;have e4:J.length=(MB<|wd<|k+1).countP λi=> !(mr o n i).isSome:=by
    rw[U,Nf,<- NS];refine Oz λi d=>?_;cases b:mr o n i with
    | none=>
     have:=Jk b;simp only[OR,decide_eq_false_iff_not,Nb,MD];constructor
     ·intro _;rfl
     ·rintro _ ⟨j,f,h⟩
      exact this j f ⋯
    | some j=>
     obtain⟨f,h⟩:=xS b;simp only[OR,decide_eq_false_iff_not,Nb,MD];constructor
     ·intro z;exact absurd ⟨j,f,by rw[h]⟩ z
     ·intro z;cases z
   rw[F,e4];omega
 | true=>
  have u : ∀t,Span p (wd k) (eF r B) t↔Span p (wd k) (eF (wd<|k+1) λj i=>T k i j) (app (λi j=>(A j).v k i) (wd k) t):=λt=>by have:=hW t;unfold AS at this;rw[hw,UJ rfl]at this;exact this
  unfold mn at C;rw[hw,UJ rfl]at C;obtain⟨q,K,lK,s,U,N,H,P,Q⟩:=C;obtain⟨g1,g2,g3,G⟩:=BA hp (S k) (S<|k+1) hs L u H P Q;have on : ∀i,i<wd k->(nx i).isSome=(mr r l i).isSome:=λi d=>by
   cases b:mr r l i with
   | none=>
    cases I:nx i with
    | none=>rfl
    | some y=>
     have:=(hl i d hw).2 y I;rw[Kq b]at this;exact absurd ⟨y,this⟩<|g2 i d<|Jk b
   | some j=>
    obtain⟨f,h⟩:=xS b;cases I:nx i with
    | some y=>rfl
    | none=>
     obtain⟨y,R⟩:=g1 j f;exact absurd ⟨y,λc O=>by rw[R c O,Zp Z b c]⟩<|(hl i d hw).1 I
  refine⟨λy I c O=>?_,λy I _ c O=>?_,λv=>G _ (λj=>(nx<|l j).getD λ_=>0) (λj Y=>?_) (λj Y=>?_) v,?_⟩
  ·rw[U]at I
   obtain⟨j,Y,rfl⟩:=Nb.mp I;exact N.ly j c (MD.mp Y) O
  ·rw[U]at I
   obtain⟨j,Y,rfl⟩:=Nb.mp I;exact(H<|K j).mp (.gen ⟨j,MD.mp Y,rfl⟩) c O
  ·have b:=rW L Y
   have E:=L.lt j Y;have m:=on (l j) E;rw[b]at m;obtain⟨y,I⟩:=OK.mp m;rw[I];refine⟨.gen<|.inl ⟨l j,E,I⟩,λc O=>?_⟩;have:=(hl (l j) E hw).2 y I c O;rw[Zp Z b c]at this;exact this
  ·refine .gen (.inr ?_)
   rw[U];exact Nb.mpr ⟨j,MD.mpr Y,rfl⟩
  ·have F:(MB<|wd k).countP (λi=>(nx i).isSome)=(MB<|wd k).countP λi=>(mr r l i).isSome:=Oz λi d=>by
    rw[on i (MD.mp d)]
   rw[F,K8 L,U,Nf,NI];omega
end
section
variable{wd:UX}{m k:Nat}{p:Int}{w:UK}{T:UW}
theorem iw:Xk=jk 9 (zL R0<|zL R1<|zL R3<|zL R4<|zL R5<|zL R6 I8):=rfl
theorem Hf(y:Vc):qB wd (pa k y) = .tup [.int ((k:Int)+1),.tup [.tup (zD (wd<|k+1) y)]]:=by unfold qB pa kU;simp
theorem oZ(J:Pr p)(O : ∀k,wd k<=8)(hm:m<=5)(Z:k<m)(hT : ∀i j,i<fy w wd k->j<fA w wd k->0<=T k i j/\T k i j<p){C:List f7}(I:A3 p w wd T k C)(b5:C.length<=100) :
 ∃S,A3 p w wd T (k+1) S/\S.length<=C.length+8/\Xk [z9 p m w wd T,.int k,.lst (C.map<|qB wd)]=dn (.val<|.lst<|S.map<|qB wd):=by
 have hl:=js;have X:=J.pos;have P:C.length<=lim:=by omega
 have G:(C.filter λb=>b.has k).length=wd k:=by rw[<- NS];exact I.ct k<|MM _
 let A:Nat->f7:=λj=>(C.filter λb=>b.has k).getD j mB;have R:(C.filter λb=>b.has k)=(MB<|wd k).map A:=by rw[<- G];exact(je mB _).symm
 have W : ∀j,j<wd k->A j∈C/\(A j).has k=d7:=λj U=>by
  have:A j∈C.filter λb=>b.has k:=by show(C.filter λb=>b.has k).getD j mB∈_;rw[MI,MF ⋯];exact Po _
  have:=Np.mp this;exact⟨this.1,by simpa using this.2⟩
 have H : ∀j,j<wd k->n4 p w wd T k (A j):=λj U=>I.ok _ (W j U).1;have hO : ∀i c,i<c->c<wd k->Ord w (A i) (A c):=λi c d u=>by have:=OZ.mp I.od i c ⋯ ⋯ d;show Ord w ((C.filter λb=>b.has k).getD i mB) ((C.filter λb=>b.has k).getD c mB);rw[MI,MF ⋯,MI,MF ⋯];exact this
 have F : ∀j,j<wd k->(A j).has k=d7:=λj U=>(W j U).2;obtain⟨r,B,l,K,hW,eS⟩:=cf (T:=T) (w:=w) (A:=A) (N:=wd k) (k:=k) J (λj U=>by have:=(H j U).le;omega) F Z (O k) hm O λj rm i U hh a=>(H j U).ly rm i hh a;have ix : ∀i,i<wd k->n4 p w wd T k (iS p A (wd k) r B l i):=λi a=>rG X K H F hO a;have as : ∀i,i<wd k->(iS p A (wd k) r B l i).has k=d7:=λi a=>by rw[VX];exact F i a
 have ex : ∀i,∃o:Option Vc,i<wd k->(xN [.int p,qH w wd T k,.tup (zD (wd k)<|(iS p A (wd k) r B l i).v k)]=dn (.val<|oD (wd<|k+1) o)/\(∀y,o=dn y->∀c,c<wd (k+1)->0<=y c/\y c<p)/\
  (w k=eh->(o=ed->∀c,c<wd (k+1)->app (T k) (wd k) ((iS p A (wd k) r B l i).v k) c%p=0)/\∀y,o=dn y->(∀c,c<wd (k+1)->app (T k) (wd k) ((iS p A (wd k) r B l i).v k) c%p=y c%p)/\∃c,c<wd (k+1)/\y c%p≠0)/\
  (w k=d7->(o=ed->¬∃y:Vc,∀c,c<wd k->app (T k) (wd<|k+1) y c%p=(iS p A (wd k) r B l i).v k c%p)/\∀y,o=dn y->∀c,c<wd k->app (T k) (wd<|k+1) y c%p=(iS p A (wd k) r B l i).v k c%p)):=λi=>by
  by_cases a:i<wd k
  ·obtain⟨o,h⟩:=Va (T:=T) (w:=w) (k:=k) J O hT ((iS p A (wd k) r B l i).v k) λc hc=>(ix i a).ly k c (as i a) hc
   exact⟨o,λ_=>h⟩
  ·exact⟨ed,λz=>absurd z a⟩
 obtain⟨nx,s⟩:=Rb ex;obtain⟨Y,hN,eN⟩:=Vb (T:=T) (w:=w) (k:=k) J O;have hs : ∀v:Vc,∃t,∀i,i<wd k->v i%p=app (λi j=>(A j).v k i) (wd k) t i%p:=λv=>by
  have hv:Span p (wd k) (eF (wd k) λj=>(A j).v k) v:=(I.sp k (MM _) v).le λg hg=>by obtain⟨b,d,u,rfl⟩:=hg;have Q:b∈C.filter λb=>b.has k:=Np.mpr ⟨d,by simpa using u⟩;rw[R]at Q;obtain⟨j,U,rfl⟩:=Nb.mp Q;exact .gen ⟨j,MD.mp U,rfl⟩
  obtain⟨t,ht⟩:=wt hv;exact⟨t,λi a=>by rw[ht i a];unfold app;rw[xh]⟩
 obtain⟨f1,f2,f3,f4⟩:=da (T:=T) (w:=w) (A:=A) J O F hs K hW hN (nx:=nx) (λi a=>(s i a).2.2.1) λi a=>(s i a).2.2.2;refine⟨vP p k w C A (wd k) r B l nx Y,iu X I G (λ_=>rfl) K (λi y a e=>(s i a).2.1 y e) f1 (λi a e f=>((s i a).2.2.1 f).1 e) (λi y a e f=>(((s i a).2.2.1 f).2 y e).1) (λi y a e f=>((s i a).2.2.2 f).2 y e) f2 f3 f4,?_,?_⟩
 ·have d:(C.filter λb=> !b.has k).length+wd k=C.length:=by
   have:=Tp (λb:f7=>b.has k) (l:=C);rw[<- G,<- NS,<- NS,this];have e:C.countP (λb=> !b.has k)=C.countP λb=>decide (¬b.has k=d7):=Oz λb _=>by simp
   rw[e];omega
  have u:=O<|k+1;unfold vP;rw[NZ];cases w k<;>simp<;>omega
 ·
  let L:D:= .lst (C.map<|qB wd);have e3:zT (.nm 0) (j6<|sB<|zA qj<|zb (zc 0)<|zb (zc 1) zB) (zc 0) [.no,.val (.int k)] (C.map<|qB wd)=dn ((C.filter λb=> !b.has k).map (qB wd)):=by refine jB (g:=qB wd) (λb=> !b.has k) (qB wd) C λb M=>⟨[.val (qB wd b),.val (.int k)],rfl,?_,λ_=>by rfl⟩;have e:=yE (wd:=wd) (b:=b) (by have:=(I.ok b M).le;omega) k;simp[e]
  have e4:zT (.nm 0) (sB<|zA qj<|zb (zc 0)<|zb (zc 1) zB) (zc 0) [.no,.val (.int k)] (C.map<|qB wd)=dn ((MB<|wd k).map λj=>qB wd<|A j):=by
   have:((C.filter λb=>b.has k).map (qB wd))=(MB<|wd k).map λj=>qB wd (A j):=by rw[R,Nm];rfl
   rw[<- this];refine jB (g:=qB wd) (λb=>b.has k) (qB wd) C λb M=>⟨[.val (qB wd b),.val (.int k)],rfl,?_,λ_=>by rfl⟩;have e:=yE (wd:=wd) (b:=b) (by have:=(I.ok b M).le;omega) k;simp[e]
  have e5:zT (.nm 0) jd (zA yp<|zb (zc 1)<|zb (zc 2)<|zb (zc 0) zB) [.no,.val<|.int p,.val (qH w wd T k)] ((MB<|wd k).map λi=>qB wd<|iS p A (wd k) r B l i)=dn ((MB<|wd k).map λi=>qB wd<|lW k (iS p A (wd k) r B l i)<|nx i):=by refine zv _ _ λi a=>zx rfl rfl ?_;have a:=MD.mp a;have d:=kA.mp<|as i a;have e:=mW (p:=p) (ix i a).n1 (by have:=(ix i a).le;omega) (show k<=20 by omega) (s i a).1;simp[e]
  have e6:zT (.nm 0) jd (qA<|zb (zG qo (zc 1)<|zq<|.int 1)<|zb (qA<|zb (zc 0) zB) zB) [.no,.val (.int k)] (Y.map λy=>D.tup<|zD (wd<|k+1) y)=dn ((Y.map<|pa k).map (qB wd)):=by rw[Nm];refine zv _ _ λy hy=>zx rfl rfl ?_;show _=dn (qB wd<|pa k y);rw[Hf];rfl
  have c3:Y.length<=lim:=by have:=O<|k+1;omega
  have c4:wd k<=lim:=by have:=O k;omega
  let n:D:= .lst ((C.filter λb=> !b.has k).map (qB wd));let E:D:= .lst ((MB<|wd k).map λi=>qB wd<|iS p A (wd k) r B l i);let x:D:= .lst ((MB<|wd k).map λi=>qB wd<|lW k (iS p A (wd k) r B l i)<|nx i);let Ne:D:= .lst ((Y.map<|pa k).map (qB wd));rw[iw];refine jl (zo (γ':=[.val (z9 p m w wd T),.val<|.int k,.val L,.val<|.int p,.no,.no,.no,.no,.no]) ?_
   (zo (γ':=[.val (z9 p m w wd T),.val<|.int k,.val L,.val<|.int p,.val<|qH w wd T k,.no,.no,.no,.no]) ?_
   (zo (γ':=[.val (z9 p m w wd T),.val<|.int k,.val L,.val<|.int p,.val<|qH w wd T k,.val n,.no,.no,.no]) ?_
   (zo (γ':=[.val (z9 p m w wd T),.val<|.int k,.val L,.val<|.int p,.val<|qH w wd T k,.val n,.val E,.no,.no]) ?_
   (zo (γ':=[.val (z9 p m w wd T),.val<|.int k,.val L,.val<|.int p,.val<|qH w wd T k,.val n,.val E,.val x,.no]) ?_
   (zo (γ':=[.val (z9 p m w wd T),.val<|.int k,.val L,.val<|.int p,.val<|qH w wd T k,.val n,.val E,.val x,.val Ne]) ?_ ?_))))))
  ·simp[R0,z7,MH,yY,L]
  ·simp[R1,yY,Xc,Z]
  ·simp[R3,ja,L,P,e3,n]
  ·simp[R4,ja,L,P,e4,eS,E]
  ·simp[R5,ja,E,c4,e5,x]
  ·simp[R6,ja,eN,c3]
   rw[e6];simp[Ne]
  ·have c7:(C.filter λb=> !b.has k).length<=100:=Of (PF _ _) b5
   have q1:=O k;have q2:=O<|k+1;cases f:w k with
   | false=>
    have eq:=QS eh;have d:Y.length+wd k<=lim:=by omega
    have u:(C.filter λb=> !b.has k).length+(Y.length+wd k)<=lim:=by omega
    simp[I8,yk,f,eq,n,x,Ne,vP,d,u]
   | true=>
    have eq:=QS d7;have d:wd k+Y.length<=lim:=by omega
    have u:(C.filter λb=> !b.has k).length+(wd k+Y.length)<=lim:=by omega
    simp[I8,yk,f,eq,n,x,Ne,vP,d,u]
end
section
variable{wd:UX}{m k:Nat}{p:Int}{w:UK}{T:UW}
def mF(c:Nat):f7:=⟨0,1,λ_=>qg c⟩
theorem Al(Y:Pr p):A3 p w wd T 0 ((MB<|wd 0).map mF):=by
 have two:=Y.two;have a : ∀b,b∈(MB<|wd 0).map mF ↔ ∃c,c<wd 0/\b=mF c:=λb=>by rw[Nb];exact⟨λ⟨c,d,e⟩=>⟨c,MD.mp d,e.symm⟩,λ⟨c,d,e⟩=>⟨c,MD.mpr d,e.symm⟩⟩
 have U : ∀c,(mF c).has 0=d7:=λc=>kA.mpr ⟨MM _,by show 0<0+1;omega⟩;refine⟨λb I=>?_,λr h v=>?_,λr h=>?_,?_⟩
 ·obtain⟨c,O,rfl⟩:=(a b).mp I
  exact⟨MM _,by show 0+1<=0+1;omega,λr i _ _=>by show 0<=qg c i/\qg c i<p;unfold qg;split<;>omega,λj k=>by omega⟩
 ·have:r=0:=by omega
  subst this;refine(Vs (wd 0) v).le λg f=>?_;obtain⟨c,O,rfl⟩:=f;exact .gen ⟨mF c,(a _).mpr ⟨c,O,rfl⟩,U c,rfl⟩
 ·have:r=0:=by omega
  subst this;rw[List.countP_eq_length.mpr λb I=>?_]
  ·simp
  ·obtain⟨c,O,rfl⟩:=(a b).mp I
   exact U c
 ·refine Si _ ?_
  rw[Rv];exact OZ.mpr λ_ _ _ _ _=>⟨λz=>absurd z<|NW 0,λz=>absurd z<|NW 0⟩
theorem Yd:yM=jk 3 (zL Ig<|zL O9 Pt):=rfl
def Yl(b:f7):Int×Int:=((b.s:Int),((b.s+b.n - 1:Nat):Int))
theorem gU : ∀C:List f7,(∀b,b∈C->1<=b.n/\b.s+b.n<=100)->Vj qm (C.map<|qB wd)=dn (C.map Yl)
 | [],_=>rfl
 | b::C,h=>by have a:=h b MX;have e:=XF (wd:=wd) a.1 a.2;have z:=gU C λb I=>h b<|MT _ I;simp only[Nk,Vj,e,z,MG];rfl
def kG(C:List f7):List f7:=(qu<|C.map Yl).map λi=>C.getD i mB
theorem JJ(C:List f7):(kG C).Perm C:=by have h:=qa<|C.map Yl;rw[Nf]at h;have:=h.map λi=>C.getD i mB;rw[je]at this;exact this
theorem YK(C:List f7):(kG C).map Yl=kQ (C.map Yl):=by unfold kG kQ;rw[Nm];refine MQ λi a=>?_;have h:=qa<|C.map Yl;have a:=MD.mp<|h.mem_iff.mp a;rw[Nf]at a;simp[a]
theorem VP(z:Pr p)(O : ∀k,wd k<=8)(L:m<=5)(J : ∀k i j,k<m->i<fy w wd k->j<fA w wd k->0<=T k i j/\T k i j<p) :
 ∃C,A3 p w wd T m C/\C.length<=48/\yM [z9 p m w wd T]=dn (.own<|(kG C).map (qB wd)):=by
 have N:=js;have M:=O 0;have U:wd 0<=lim:=by omega
 have B:=vn (n:=wd 0) U;have r:jq (jf (wd 0) (wd 0) λi j=>if i=j then 1 else 0)=dn (.T,[.int (wd 0:Nat),.int (wd 0:Nat),.tup (zZ (wd 0) (wd 0) λi j=>if i=j then 1 else 0)]):=rfl;have x:zT (.nm 0) jd (qA<|zb (zq<|.int 0)<|zb (qA<|zb (zc 0) zB) zB) [.no] (zZ (wd 0) (wd 0) λi j=>if i=j then 1 else 0)=dn (((MB<|wd 0).map mF).map (qB wd)):=by rw[Nm];unfold zZ;refine zv _ _ λi a=>zx rfl rfl ?_;show dn _=dn (qB wd<|mF i);unfold qB mF kU;simp;rfl
 have x1:Ig (z7 3 [z9 p m w wd T])=dn (.next [.val (z9 p m w wd T),.val<|.lst<|((MB<|wd 0).map mF).map (qB wd),.no]):=by simp[Ig,z7,MH,yY,B,r,ja,U];rw[x];simp
 obtain⟨H,G,C,c,I,t,rfl⟩:=xK (T:= .nm 2) (F:=jy 1<|zA Xk<|zb (zc 0)<|zb (zc 2)<|zb (zc 1) zB) (f:=km<|zE<|eg (ze 0)<|zq<|.int 2)
  (λj γ=>∃C c,A3 p w wd T j C/\C.length<=8*(j+1)/\γ=[.val (z9 p m w wd T),.val<|.lst<|C.map<|qB wd,c]) m ⋯ (γ:=[.val (z9 p m w wd T),.val<|.lst<|((MB<|wd 0).map mF).map (qB wd),.no])
  (by simp[yY]) ⟨_,_,Al z,by simp;omega,rfl⟩ λs Y γ d=>by obtain⟨C,c,I,t,rfl⟩:=d;obtain⟨g,o,K,e⟩:=oZ (T:=T) (w:=w) (k:=s) z O L Y (J s · · Y) I ⋯;refine⟨_,[.val (z9 p m w wd T),.val<|.lst<|g.map<|qB wd,.val (.int s)],rfl,?_,g,_,o,by omega,rfl⟩;simp[e]
 refine⟨C,I,by omega,?_⟩;have A:=gU (wd:=wd) C λb l=>⟨(I.ok b l).n1,by have:=(I.ok b l).le;omega⟩;rw[Yd];refine jl<|zo x1<|zo (show O9 _=_ from G) ?_;have u:C.length<64:=by omega
 unfold Pt;have y:eZ qm (ze 1) [.val (z9 p m w wd T),.val<|.lst<|C.map<|qB wd,c]=dn ((kG C).map (qB wd)):=by show((Vj qm<|C.map<|qB wd).bind λE=>if (C.map<|qB wd).length<64 then dn ((qu E).map λi=>(C.map<|qB wd).getD i .ft)else ed)=_;rw[A];simp only[MG,Nf,u,if_true];congr 1;unfold kG;rw[Nm];refine MQ λi a=>?_;have h:=qa<|C.map Yl;have a:=MD.mp<|h.mem_iff.mp a;rw[Nf]at a;simp[a]
 rw[WW,y];rfl
theorem A3.perm(h:P4.Perm m5)(I:A3 p w wd T k m5):(∀b,b∈P4->n4 p w wd T k b)/\(∀r,r<=k->∀v,Span p (wd r) (Lr P4 r) v)/\∀r,r<=k->P4.countP (λb=>b.has r)=wd r:=by
 refine⟨λb O=>I.ok b<|h.mem_iff.mp O,λr z v=>(I.sp r z v).le λg U=>?_,λr z=>?_⟩
 ·obtain⟨b,a,d,Y⟩:=U
  exact .gen ⟨b,h.mem_iff.mpr a,d,Y⟩
 ·rw[h.countP_eq];exact I.ct r z
end
def il(bs:List (Int×Int))(k:Nat):Nat:=(jc bs k).length
noncomputable def rb(w:UK)(bs:List (Int×Int))(k i j:Nat):Int:=if (jc bs<|zX w k).getD i 0=(jc bs<|zJ w k).getD j 0 then 1 else 0
theorem eJ(e b:List Nat):tj e b=jf e.length b.length λi j=>if e.getD i 0=b.getD j 0 then 1 else 0:=by
 have h : ∀{a:Type} (g:Nat->a) (l:List Nat),l.map g=(MB l.length).map λi=>g (l.getD i 0):=λg l=>by
  conv=>lhs;rw[<- je 0 l]
  rw[Nm];rfl
 unfold tj jf zZ zD;rw[h (λx=>D.tup<|b.map λy=>D.int<|if x=y then 1 else 0) e];simp only[h (λy=>D.int _) b]
theorem Fw(p:Int)(m:Nat)(w:UK)(bs:List (Int×Int)):BR p m w bs=z9 p m w (il bs) (rb w bs):=by
 have e:v7 m w bs=jD m w (il bs) (rb w bs):=by unfold v7 jD;refine MQ λk _=>?_;rw[eJ];unfold qH;rw[QL,Jz];rfl
 unfold BR z9;rw[e];rfl
theorem EZ{p:Int}(two:2<=p)(w:UK)(bs:List (Int×Int))(k i j:Nat):0<=rb w bs k i j/\rb w bs k i j<p:=by unfold rb;split<;>omega
theorem Kl(z:0<p)(w:UK)(wd:UX)(f g T:UW)(k i j:Nat):0<=jS p w wd f g T k i j/\jS p w wd f g T k i j<p:=
 ⟨NG _ ⋯,Nr _ z⟩
def xE(m:Nat)(wd:UX)(f:UW):List TB:=(MB<|m+1).map λk=>(wd k,wd k,f k)
theorem eG(m wd f):(xE m wd f).map tD=xF (m+1) wd f:=by unfold xE xF;rw[Nm];rfl
theorem Kn{m k:Nat}(wd f)(h:k<m+1):(xE m wd f).getD k nh=(wd k,wd k,f k):=by unfold xE;simp[MI,h]
theorem YA(m wd f):(xE m wd f).length=m+1:=by simp[xE]
theorem iB{m k:Nat}(wd f)(h:k<m+1):fT (xE m wd f) k=f k:=by unfold fT;rw[Kn wd f h]
section
variable{p:Int}{m:Nat}{w:UK}{wd:UX}{f g T:UW}{bs:List (Int×Int)}
theorem XE(I : ∀k,wd k<=60)(U : ∀k i j,k<m+1->i<wd k->j<wd k->0<=f k i j/\f k i j<p) : ∀t∈xE m wd f,vr p t:=λt O=>by unfold xE at O;obtain⟨k,z,rfl⟩:=Nb.mp O;have z:=MD.mp z;exact⟨I k,I k,λi j a Y=>U k i j z a Y⟩
theorem V3(O:Pr p)(Y : ∀b∈bs,ZN ((m+1:Nat):Int) b)(C:kQ bs=bs)(U : ∀k,k<m+1->Pair p (il bs k) (f k) (g k)) :
 nv p m w (il bs) (jS p w (il bs) f g<|rb w bs) bs (xE m (il bs) g) (xE m (il bs) f)=d7:=by
 have o:=O.pos;have two:=O.two;have g1:iy ((m+1:Nat):Int) bs=d7:=Ot.mpr λb h=>by have q:=Y b h;unfold ZN at q;exact decide_eq_true ⋯
 have g2:wu bs=d7:=decide_eq_true C.symm;have g3:QC m (xE m (il bs) g) (xE m (il bs) f)=d7:=decide_eq_true ⟨YA ..,YA ..⟩;have l:pZ p m (il bs) (xE m (il bs) g) (xE m (il bs) f)=d7:=Ot.mpr λk z=>by
  have z:=MD.mp z;show sX p (il bs k) ((xE m (il bs) g).getD k nh) ((xE m (il bs) f).getD k nh)=d7;rw[Kn _ _ z,Kn _ _ z];unfold sX;have e:uq p (il bs k) (il bs k,il bs k,g k) (il bs k,il bs k,f k)=VZ (il bs k):=K3 λi j d I=>by
   have q:=(U k z).gf i j d I;show zg (λa=>g k i a*f k a j) (il bs k)%p=_;rw[q];unfold iU;split
   ·exact NU ⋯ ⋯
   ·exact NU ⋯ ⋯
  rw[e,E3];simp
 have n:z9 p m w (il bs) (jS p w (il bs) (fT<|xE m (il bs) g) (fT<|xE m (il bs) f)<|jS p w (il bs) f g<|rb w bs)=BR p m w bs:=by rw[Fw];refine nE (λ_ _=>rfl) (λ_ _=>rfl) λk i j z d I=>?_;have q:=dY (w:=w) (T:=rb w bs) U z (QL w (il bs) k ▸ d) (Jz w (il bs) k ▸ I)<|EZ two w bs k i j;rw[<- q];show jS p w (il bs) (fT<|xE m (il bs) g) (fT<|xE m (il bs) f) _ k i j=_;unfold jS;rw[iB _ _ (K0 w z),iB _ _ (QZ w z)]
 unfold nv;rw[g1,g2,g3,l,n,E3];rfl
end
section
variable{p:Int}{n:Nat}
theorem my(C:Pr p)(J:n<=20)(f:UV) : ∃r B l,h7 p (n+n) r B l/\(∀v,Span p (n+n) (eF r B) v↔Span p (n+n) (eF n λi=>qN n (f i)<|qg i) v)/\
 kP [.int p,jf n n f]=dn (.val<|if ji (.lst<|zZ r n B) (.lst<|zZ n n qg)=d7 then .tup [.int n,.int n,.tup (zZ r n λk j=>B k<|n+j)]else .ft):=by
 have A:=js;have z:n<=lim:=by omega
 have m:n+n<=lim:=by omega
 obtain⟨r,B,l,e,I,o⟩:=kg C (show n+n<=100 by omega) z .L λi=>qN n (f i)<|qg i;refine⟨r,B,l,I,o,?_⟩;have O:r<=lim:=by have:r<=n+n:=Wl I.mono I.lt;omega
 have U:=vn (n:=n) z;have a:zT (.tp [0,1]) jd (zG qo (zc 0)<|zc 1) [Cell.no,Cell.no] ((MB n).map λi=>D.tup [.tup (zD n<|f i),.tup (zD n λk=>if i=k then 1 else 0)])=dn (zZ n (n+n) λi=>qN n (f i)<|qg i):=by unfold zZ;refine zv _ _ λj y=>zx rfl rfl ?_;simp[qo,m,vE];rfl
 have Y:=mG n n f λi j=>if i=j then 1 else 0;have t:((n:Int)+(n:Int))=((n+n:Nat):Int):=by omega
 simp only[ri]at e;rw[<- t]at e;have d:zT (.nm 0) jd (au (zc 0) VS<|pe<|zc 1) [Cell.no,Cell.val (.int n)] (zZ r (n+n) B)=dn (zZ r n B):=by unfold zZ;refine zv _ _ λk u=>zx rfl rfl ?_;simp[bA]
 have s:zT (.nm 0) jd (au (zc 0) (pe<|zc 1) VS) [Cell.no,Cell.val (.int n)] (zZ r (n+n) B)=dn (zZ r n λk j=>B k<|n+j):=by unfold zZ;refine zv _ _ λk u=>zx rfl rfl ?_;simp[bz]
 have b:i0 (.lst<|zZ r n B) (.lst<|zZ n n λi j=>if i=j then 1 else 0)=dn (.bl<|!ji (.lst<|zZ r n B) (.lst<|zZ n n qg)):=by unfold i0;rw[UJ ⟨aL _ _ _,aL _ _ _⟩];rfl
 have g : ∀(h w:Nat) (f:UV),jq (jf h w f)=dn (.T,[.int h,.int w,.tup (zZ h w f)]):=λ_ _ _=>rfl;by_cases q:ji (.lst<|zZ r n B) (.lst<|zZ n n qg)=d7
 ·rw[q]at b
  rw[UJ q];simp[kP,jk,z7,jg,g,U,Y,z,O,ja,kK,MH,a,e,d,s,b]
 ·have x:ji (.lst<|zZ r n B) (.lst<|zZ n n qg)=eh:=by simpa using q
  rw[x]at b;rw[UY q];simp[kP,jk,z7,jg,g,U,Y,z,O,ja,kK,MH,a,e,d,b]
theorem W2(U:Pr p)(S:n<=20)(J:Ye p n f g)(L:Ye p n g f)(C : ∀i j,i<n->j<n->0<=g i j/\g i j<p):kP [.int p,jf n n f]=dn (.val<|jf n n g):=by
 obtain⟨r,B,l,E,o,e⟩:=my U S f;have two:=U.two;have one:=U.one;have x:h7 p (n+n) n (λk=>qN n (qg k)<|g k) id:={
  lt:=λk I=>by simp only[id];omega
  mono:=λk m I _=>I
  one:=λk I=>by simp only[id];rw[jo I];exact UJ rfl
  l6:=λk j I Y=>by simp only[id]at Y;rw[jo ⋯];exact UY ⋯
  pb:=λk m I F b=>by simp only[id];rw[jo F];exact UY ⋯
  ly:=λk i I a=>by
   rcases Nc i n with z | z
   ·rw[jo z];unfold qg;split<;>omega
   ·obtain⟨j,rfl⟩ : ∃j,i=n+j:=⟨i - n,by omega⟩
    rw[jC];exact C k j I ⋯}
 have t : ∀v,Span p (n+n) (eF n λk=>qN n (qg k)<|g k) v->Span p (n+n) (eF n λi=>qN n (f i)<|qg i) v:=λv O=>O.le λs h=>by
  obtain⟨k,I,d⟩:=h;subst d;refine(Span.sum (u:=λi=>qN n (f i)<|qg i) (λi=>g k i) (m:=n) λi a=> .gen ⟨i,a,rfl⟩).congr λj Y=>?_;rcases Nc j n with z | z
  ·simp only[jo z]
   exact(L k j I z).symm
  ·obtain⟨m,rfl⟩ : ∃m,j=n+m:=⟨j - n,by omega⟩
   simp only[jC];rw[zV (i:=m) ⋯ λi _ b=>by simp[qg,b]];simp[qg]
 have w : ∀v,Span p (n+n) (eF n λi=>qN n (f i)<|qg i) v->Span p (n+n) (eF n λk=>qN n (qg k)<|g k) v:=λv O=>O.le λs h=>by
  obtain⟨i,a,d⟩:=h;subst d;refine(Span.sum (u:=λk=>qN n (qg k)<|g k) (λk=>f i k) (m:=n) λk I=> .gen ⟨k,I,rfl⟩).congr λj Y=>?_;rcases Nc j n with z | z
  ·simp only[jo z]
   rw[zV (i:=j) z λk _ b=>by simp[qg,b]];simp[qg]
  ·obtain⟨m,rfl⟩ : ∃m,j=n+m:=⟨j - n,by omega⟩
   simp only[jC];exact(J i m a ⋯).symm
 obtain⟨rfl,_,u⟩:=Xa U E x (λv O=>w v<|(o v).mp O)<|λv O=>(o v).mpr (t v O);have y:zZ r r B=zZ r r qg:=K4 λk i I a=>by rw[u k i I ⋯,jo a]
 have A:zZ r r (λk j=>B k<|r+j)=zZ r r g:=K4 λk j I Y=>by rw[u k (r+j) I ⋯,jC]
 rw[e,y,UJ<|E3 _,A];rfl
end
section
variable{wd:UX}{m k N:Nat}{p:Int}{w:UK}{T:UW}{A:Nat->f7}
def i4(A:Nat->f7)(N r:Nat):List Nat:=(MB N).filter λj=>(A j).has r
def qR(A:Nat->f7)(N r:Nat):Nat->Nat->Int:=λi j=>(A<|(i4 A N r).getD j 0).v r i
theorem Wy{r j:Nat}(h:j<(i4 A N r).length):(i4 A N r).getD j 0<N/\(A<|(i4 A N r).getD j 0).has r=d7:=by
 have d:(i4 A N r).getD j 0∈i4 A N r:=by rw[MI,MF h];exact Po _
 obtain⟨a,b⟩:=Np.mp d;exact⟨MD.mp a,by simpa using b⟩
theorem Yw(I:Pr p)(C:n<=8)(O : ∀v:Vc,∃t,∀i,i<n->v i%p=app f n t i%p) : ∃g:UV,Ye p n f g/\Ye p n g f/\∀i j,0<=g i j/\g i j<p:=by
 have s:=I.pos;obtain⟨t,U⟩:=Rb λj=>O<|qg j;refine⟨λi j=>t j i%p,?_,?_,λi j=>⟨NG _ ⋯,Nr _ s⟩⟩
 ·intro i j d Y
  have e:zg (λk=>f i k*(t j k%p)) n%p=app f n (t j) i%p:=zQ λk _=>wM p _ _;rw[e,<- U j i d];unfold qg iU;simp only[eq_comm]
 ·intro i j d Y
  have z : ∀a,a<n->app f n (λb=>zg (λk=>(t k b%p)*f k j) n - qg j b) a%p=0:=λa h=>by
   rw[Xd,Zg f Y,OL];have e:app f n (λb=>zg (λk=>(t k b%p)*f k j) n) a%p=f a j%p:=by
    have l:app f n (λb=>zg (λk=>(t k b%p)*f k j) n) a=zg (λk=>f k j*app f n (λb=>t k b%p) a) n:=by rw[<- yH];congr 1;funext b;exact xh ..
    rw[l];have m:zg (λk=>f k j*app f n (λb=>t k b%p) a) n%p=zg (λk=>f k j*qg k a) n%p:=zQ λk _=>by rw[MO,jV (u:=t k) (λb _=>Nl _ _) a,<- U k a h,<- MO]
    rw[m,zV (f:=λk=>f k j*qg k a) h λk _ r=>by simp[qg,r]];simp[qg]
   rw[e];simp
  have:=vV I C O z i d;have o:(zg (λk=>(t k i%p)*f k j) n)%p=qg j i%p:=OO.mpr this;show zg (λk=>(t k i%p)*f k j) n%p=iU i j%p;rw[o];unfold qg iU;simp only[eq_comm]
theorem dz:qI=jk 4 (zL Pz<|zL P0<|zL P1 P2):=rfl
theorem lP(J:Pr p)(C : ∀k,wd k<=8)(hm:m<=5)(hT : ∀k i j,k<m->i<fy w wd k->j<fA w wd k->0<=T k i j/\T k i j<p) :
 ∃(N:Nat) (A:Nat->f7) (g:UW),N<=48/\(∀j,j<N->n4 p w wd T m (A j))/\(∀r,r<=m->(i4 A N r).length=wd r)/\(∀r,r<=m->Ye p (wd r) (qR A N r) (g r)/\Ye p (wd r) (g r) (qR A N r)/\∀i j,0<=g r i j/\g r i j<p)/\
  kQ ((MB N).map λj=>Yl<|A j)=((MB N).map λj=>Yl<|A j)/\
  qI [z9 p m w wd T]=dn (.val<|xi ((MB N).map λj=>Yl<|A j) (xE m wd g)<|xE m wd λr=>qR A N r):=by
 have hl:=js;obtain⟨a,I,H,F⟩:=VP (T:=T) (w:=w) J C hm hT;obtain⟨ok,sp,S⟩:=I.perm<|JJ a;have K:(kG a).length=a.length:=(JJ a).length_eq;let A:Nat->f7:=λj=>(kG a).getD j mB;have Y:kG a=(MB a.length).map A:=by rw[<- K];exact(je mB _).symm
 have l : ∀j,j<a.length->n4 p w wd T m (A j):=λj U=>ok _ (by
  rw[Y];exact Nb.mpr ⟨j,MD.mpr U,rfl⟩)
 have cnt : ∀r,r<=m->(i4 A a.length r).length=wd r:=λr O=>by have:=S r O;rw[Y,SG,NS]at this;exact this
 have M : ∀r,r<=m->∀v:Vc,∃t,∀i,i<wd r->v i%p=app (qR A a.length r) (wd r) t i%p:=λr O v=>by
  have hv:Span p (wd r) (eF (wd r) λj i=>qR A a.length r i j) v:=(sp r O v).le λgg f=>by obtain⟨b,d,u,rfl⟩:=f;rw[Y]at d;obtain⟨j,U,rfl⟩:=Nb.mp d;have P:j∈i4 A a.length r:=Np.mpr ⟨U,by simpa using u⟩;obtain⟨i,G,e⟩:=RO P;refine .gen ⟨i,by rw[<- cnt r O];exact G,?_⟩;funext c;show(A j).v r c=(A<|(i4 A a.length r).getD i 0).v r c;rw[MI,MF G];simp[e]
  exact A9.mp hv
 have Q : ∀r,∃g:UV,r<=m->Ye p (wd r) (qR A a.length r) g/\Ye p (wd r) g (qR A a.length r)/\∀i j,0<=g i j/\g i j<p:=λr=>by
  by_cases O:r<=m
  ·obtain⟨g,h⟩:=Yw J (C r) (M r O)
   exact⟨g,λ_=>h⟩
  ·exact⟨λ_ _=>0,λz=>absurd z O⟩
 obtain⟨g,f⟩:=Rb Q;have Z:(kG a).map Yl=(MB a.length).map λj=>Yl (A j):=by
  conv=>lhs;rw[Y,Nm]
  rfl
 refine⟨a.length,A,g,H,l,cnt,f,?_,?_⟩
 ·rw[<- Z,YK]
  refine JK ?_;have:=(JJ a).map Yl;rw[YK]at this;exact this
 ·have x:a.length<=lim:=by omega
  have eL:((kG a).map (qB wd))=(MB a.length).map λj=>qB wd (A j):=by
   conv=>lhs;rw[Y,Nm]
   rfl
  rw[eL]at F;let L:D:= .lst ((MB a.length).map λj=>qB wd<|A j);have y : ∀j,j<a.length->(A j).s+(A j).n<=100:=λj U=>by have:=(l j U).le;omega
  have W:zT (.tp [0,1]) jd (zA kO<|zb (zc 1)<|zb (j3<|jw xm<|zb (zc 2)<|zb (zc 0) zB) zB) [.no,.no,.val L] ((MB<|m+1).map λ(i:Nat)=>D.tup [.int i,.int (wd i:Nat)])=dn (xF (m+1) wd λr=>qR A a.length r):=by unfold xF;refine zv _ _ λr O=>zx rfl rfl ?_;have O:=MD.mp O;have E:=vU (wd:=wd) y x r;rw[aQ (wd r) (λj=>(A j).v r),show((MB a.length).filter λj=>(A j).has r)=i4 A a.length r from rfl,cnt r ⋯]at E;have bd:=C r;have o:=ZG (q:=wd r) (h:=wd r) (λi=>(A<|(i4 A a.length r).getD i 0).v r) ⋯ ⋯;simp[-MI,L,E,o];rfl
  have o:zT (.nm 0) jd (zA kP<|zb (eg (ze 1)<|zq<|.int 0)<|zb (zc 0) zB) [.no,.val (z9 p m w wd T)] (xF (m+1) wd λr=>qR A a.length r)=dn (xF (m+1) wd g):=by unfold xF;refine zv _ _ λr O=>zx rfl rfl ?_;have O:=MD.mp O;obtain⟨d,u,h3⟩:=f r ⋯;have e:=W2 J (n:=wd r) (by have:=C r;omega) d u λi j _ _=>h3 i j;simp[yY,e]
  have X:zT (.nm 0) jd (zA qm<|zb (zc 0) zB) [.no] ((MB a.length).map λj=>qB wd<|A j)=dn (zH<|(MB a.length).map λj=>Yl<|A j):=by unfold zH;rw[Nm];refine zv _ _ λj U=>zx rfl rfl ?_;have U:=MD.mp U;have e:=XF (wd:=wd) (l j U).n1 (y j U);simp[e];exact⟨rfl,rfl⟩
  have ew:xG (zD (m+1) λk=>(wd k:Int))=(MB<|m+1).map λ(i:Nat)=>D.tup [.int i,.int (wd i:Nat)]:=bp _ _;have B:m+1<=lim:=by omega
  have R : ∀g:UW,(xF (m+1) wd g).length=m+1:=λg=>by simp[xF]
  rw[dz];refine jl<|zo (γ':=[.val (z9 p m w wd T),.val L,.no,.no]) ?_ (zo (γ':=[.val (z9 p m w wd T),.val L,.val<|.lst<|xF (m+1) wd λr=>qR A a.length r,.no]) ?_ (zo (γ':=[.val (z9 p m w wd T),.val L,.val<|.lst<|xF (m+1) wd λr=>qR A a.length r,.val (.lst<|xF (m+1) wd g)]) ?_ ?_))
  ·simp[Pz,z7,MH,F,L]
  ·simp[P0,ja,yY,ew,B,W]
  ·simp[P1,ja,R,B,o]
  ·unfold xi
   rw[eG,eG];simp[P2,ja,L,x,X]
end
section
variable{wd:UX}{m k N:Nat}{p:Int}{w:UK}{T:UW}{A:Nat->f7}{g:UW}
def ql(A:Nat->f7)(N:Nat):List (Int×Int):=(MB N).map λj=>Yl<|A j
theorem Aj{b:f7}(C:1<=b.n)(r:Nat):dF (Yl b) (r:Int)=b.has r:=by
 unfold dF Yl f7.has;dsimp only;congr 1
 ·exact decide_eq_decide.mpr ⋯
 ·exact decide_eq_decide.mpr ⋯
theorem yf(C : ∀j,j<N->1<=(A j).n)(r:Nat):jc (ql A N) (r:Int)=i4 A N r:=by unfold jc i4 ql;simp only[Nf,NI];refine Ts λj z=>?_;have z:=MD.mp z;rw[MI,Nw,OT z];exact Aj (C j z) r
theorem Vl(A N r):(i4 A N r).Nodup:=Sz.sublist RQ
theorem cO{L:List Nat}(h:L.Nodup){a b:Nat}(C:a<L.length)(z:b<L.length)(e:L.getD a 0=L.getD b 0):a=b:=by rw[MI,MI,MF C,MF z]at e;exact(List.getElem_inj h).mp e
theorem oW(O : ∀j,j<N->n4 p w wd T m (A j))(U:k<m){i b:Nat}(hi:i<wd (zX w k))(Y:b<(i4 A N<|zJ w k).length) :
 zg (λa=>(if (i4 A N<|zX w k).getD a 0=(i4 A N<|zJ w k).getD b 0 then (1:Int)else 0)*qR A N (zX w k) i a) (i4 A N<|zX w k).length%p=app (T k) (wd<|zJ w k) (λc=>qR A N (zJ w k) c b) i%p:=by
 obtain⟨h,s⟩:=Wy Y;have q:=(O _ h).arr k U s i hi;show _=app (T k) (wd<|zJ w k) ((A<|(i4 A N<|zJ w k).getD b 0).v (zJ w k)) i%p;rw[q];congr 1;cases hx:(A<|(i4 A N<|zJ w k).getD b 0).has (zX w k)with
 | true=>
  have n:(i4 A N<|zJ w k).getD b 0∈i4 A N (zX w k):=Np.mpr ⟨MD.mpr h,by simpa using hx⟩;obtain⟨l,I,r⟩:=RO n;have d:(i4 A N<|zX w k).getD l 0=(i4 A N<|zJ w k).getD b 0:=by rw[<- r,MI,MF I];rfl
  rw[zV (f:=λa=>(if (i4 A N<|zX w k).getD a 0=(i4 A N<|zJ w k).getD b 0 then (1:Int)else 0)*qR A N (zX w k) i a) I λa e o=>by rw[UY λz=>o (cO (Vl A N _) e I<|z.trans d.symm)];simp]
  rw[UJ d,UJ rfl];unfold qR;rw[d];simp
 | false=>
  rw[UY ⋯];rw[zw (g:=λ_=>0) λa e=>by
   rw[UY λz=>by have:=(Wy e).2;rw[z,hx]at this;cases this]
   simp]
  exact zR _
theorem rk(L:Pr p)(O : ∀j,j<N->n4 p w wd T m (A j))(cnt : ∀r,r<=m->(i4 A N r).length=wd r)(C : ∀r,r<=m->Ye p (wd r) (qR A N r) (g r))(J:k<m){i j:Nat}(hi:i<wd (zX w k))(z:j<wd (zJ w k))(U:0<=T k i j/\T k i j<p) :
 T k i j=jS p w (il<|ql A N) (λr=>qR A N r) g (rb w<|ql A N) k i j:=by
 have d : ∀j,j<N->1<=(A j).n:=λj z=>(O j z).n1;have I:zJ w k<=m:=by unfold zJ;split<;>omega
 have Y:zX w k<=m:=by unfold zX;split<;>omega
 unfold jS;have l:il (ql A N) (zJ w k)=wd (zJ w k):=by unfold il;rw[yf d,cnt _ I]
 have o:il (ql A N) (zX w k)=wd (zX w k):=by unfold il;rw[yf d,cnt _ Y]
 rw[l,o];have e:zg (λb=>g (zJ w k) b j*(zg (λa=>rb w (ql A N) k a b*qR A N (zX w k) i a) (wd<|zX w k)%p)) (wd<|zJ w k)%p
  = zg (λb=>g (zJ w k) b j*app (T k) (wd<|zJ w k) (λc=>qR A N (zJ w k) c b) i) (wd<|zJ w k)%p:=zQ λb s=>by
  have:=oW (T:=T) (k:=k) O J hi (b:=b) (by rw[cnt _ I];exact s);rw[cnt _ Y]at this;have f:zg (λa=>rb w (ql A N) k a b*qR A N (zX w k) i a) (wd<|zX w k)=zg (λa=>(if (i4 A N<|zX w k).getD a 0=(i4 A N<|zJ w k).getD b 0 then (1:Int)else 0)*qR A N (zX w k) i a) (wd<|zX w k):=zw λa _=>by unfold rb;rw[yf d,yf d]
  rw[f,this,wM]
 have h:zg (λb=>g (zJ w k) b j*app (T k) (wd<|zJ w k) (λc=>qR A N (zJ w k) c b) i) (wd<|zJ w k)=app (T k) (wd<|zJ w k) (λc=>zg (λb=>qR A N (zJ w k) c b*g (zJ w k) b j)<|wd<|zJ w k) i:=by rw[<- yH];congr 1;funext c;exact xh ..
 rw[show(zg (λb=>g (zJ w k) b j*(zg (λa=>rb w (ql A N) k a b*(λr=>qR A N r) (zX w k) i a) (wd<|zX w k)%p)) (wd<|zJ w k)%p)=_ from e,h,
  jV (u:=qg j) (λc t=>by rw[C _ I c j t z];unfold iU qg;simp only[eq_comm]) i,Zg (T k) z]
 exact(NU U.1 U.2).symm
end
structure l4(p:Int)(w:UK)(wd:UX)(T:UW)(m N:Nat)(A:Nat->f7):Prop where
 ok : ∀j,j<N->n4 p w wd T m (A j)
 sp : ∀r,r<=m->∀v:Vc,∃t:Vc,∀i,i<wd r->v i%p=zg (λj=>if (A j).has r=d7 then t j*(A j).v r i else 0) N%p
 inj : ∀r,r<=m->∀t:Vc,(∀i,i<wd r->zg (λj=>if (A j).has r=d7 then t j*(A j).v r i else 0) N%p=0)->∀j,j<N->(A j).has r=d7->t j%p=0
 cnt : ∀r,r<=m->(i4 A N r).length=wd r
noncomputable def Lk(p:Int)(w:UK)(wd:UX)(T:UW)(k:Nat)(y z:Vc):Prop:=
 if w k=d7 then ∀i,i<wd k->y i%p=app (T k) (wd<|k+1) z i%p else ∀i,i<wd (k+1)->z i%p=app (T k) (wd k) y i%p
noncomputable def Wk(p:Int)(w:UK)(wd:UX)(T:UW)(d:Nat):Nat->Vc->Vc->Prop
 | 0,u,z=>∀i,i<wd d->u i%p=z i%p
 | n+1,u,z=>∃y,Wk p w wd T d n u y/\Lk p w wd T (d+n) y z
section
variable{p:Int}{w:UK}{wd:UX}{T:UW}{m N N':Nat}{A A':Nat->f7}{d:Nat}
theorem Wm(C:a%p=b%p)(I:a'%p=b'%p):(a+c*a')%p=(b+c*b')%p:=by rw[NO,C,MO,I,<- MO,<- NO]
theorem Fq(c:Int)(h:Lk p w wd T k y z)(h':Lk p w wd T k y' z'):Lk p w wd T k (λi=>y i+c*y' i) λi=>z i+c*z' i:=by
 unfold Lk at *;split
 ·next b=>
  rw[UJ b]at h h';intro i a;rw[Wm (h i a) (h' i a)];exact(WU (λ_ _=>rfl) i).symm
 ·next b=>
  rw[UY b]at h h';intro i a;rw[Wm (h i a) (h' i a)];exact(WU (λ_ _=>rfl) i).symm
theorem mh : ∀(n:Nat) {u z I O:Vc} (c:Int),Wk p w wd T d n u z->Wk p w wd T d n I O->Wk p w wd T d n (λi=>u i+c*I i) λi=>z i+c*O i
 | 0,u,z,I,O,c,h,h'=>λi a=>Wm (h i a)<|h' i a
 | n+1,u,z,I,O,c,⟨y,h1,h2⟩,⟨y',M_,N_⟩=>⟨_,mh n c h1 M_,Fq c h2 N_⟩
theorem mq(k:Nat):Lk p w wd T k (λ_=>0) λ_=>0:=by unfold Lk;split<;>exact λi _=>by rw[Ju (λ_ _=>by simp) i];simp
theorem Xf : ∀n,Wk p w wd T d n (λ_=>0) λ_=>0
 | 0=>λ_ _=>rfl
 | n+1=>⟨_,Xf n,mq _⟩
theorem rz(h:Lk p w wd T k y z)(I : ∀i,i<wd (k+1)->z' i%p=z i%p):Lk p w wd T k y z':=by
 unfold Lk at *;split
 ·next b=>rw[UJ b]at h;intro i a;rw[h i a];exact(jV I i).symm
 ·next b=>rw[UY b]at h;intro i a;rw[I i a,h i a]
theorem mf : ∀{n:Nat} {u z I:Vc},Wk p w wd T d n u z->(∀i,i<wd (d+n)->I i%p=z i%p)->Wk p w wd T d n u I
 | 0,u,z,I,h,hz=>λi a=>by rw[h i a,hz i a]
 | n+1,u,z,I,⟨y,h1,h2⟩,hz=>⟨y,h1,rz h2 hz⟩
theorem rj : ∀{n:Nat} {u I z:Vc},Wk p w wd T d n u z->(∀i,i<wd d->I i%p=u i%p)->Wk p w wd T d n I z
 | 0,u,I,z,h,hu=>λi a=>by rw[hu i a,h i a]
 | n+1,u,I,z,⟨y,h1,h2⟩,hu=>⟨y,rj h1 hu,h2⟩
theorem sA(t:Vc)(u z:Nat->Vc) : ∀K,(∀j,j<K->Wk p w wd T d n (u j) (z j))->Wk p w wd T d n (λi=>zg (λj=>t j*u j i) K) λi=>zg (λj=>t j*z j i) K
 | 0,_=>Xf n
 | K+1,h=>mh n (t K) (sA t u z K λj I=>h j ⋯)<|h K ⋯
theorem pT(O:n4 p w wd T m b)(U:k<m)(C:b.has k=d7)(J:b.has (k+1)=d7):Lk p w wd T k (b.v k) (b.v<|k+1):=by
 unfold Lk;cases hw:w k with
 | true=>
  have z:zJ w k=k+1:=by unfold zJ;rw[hw];rfl
  have I:zX w k=k:=by unfold zX;rw[hw];rfl
  rw[UJ rfl];intro i a;have:=O.arr k U (by rw[z];exact J) i (by rw[I];exact a);rw[z,I,C,UJ rfl]at this;exact this.symm
 | false=>
  have z:zJ w k=k:=by unfold zJ;rw[hw];rfl
  have I:zX w k=k+1:=by unfold zX;rw[hw];rfl
  rw[UY ⋯];intro i a;have:=O.arr k U (by rw[z];exact C) i (by rw[I];exact a);rw[z,I,J,UJ rfl]at this;exact this.symm
theorem Js(z:n4 p w wd T m b)(C:b.has d=d7) : ∀n,d+n<=m->b.has (d+n)=d7->Wk p w wd T d n (b.v d) (b.v<|d+n)
 | 0,_,_=>λ_ _=>rfl
 | n+1,hn,h2=>by have I:b.has (d+n)=d7:=kA.mpr (by have:=kA.mp C;have:=kA.mp h2;omega);exact⟨_,Js z C n ⋯ I,pT z ⋯ I h2⟩
theorem WR(I:n4 p w wd T m b)(J:b.has d=d7)(C:w (b.s+b.n - 1)=eh) : ∀n,d+n<=m->b.has (d+n)=eh->Wk p w wd T d n (b.v d) λ_=>0
 | 0,_,h2=>by rw[Nat.add_zero,J]at h2;cases h2
 | n+1,hn,h2=>by
  cases h3:b.has (d+n)with
  | false=>exact⟨_,WR I J C n ⋯ h3,mq _⟩
  | true=>
   refine⟨_,Js I J n ⋯ h3,?_⟩;have f:=kA.mp h3;have e : ¬(d+n+1<b.s+b.n):=λz=>by have:b.has (d+(n+1))=d7:=kA.mpr ⋯;rw[this]at h2;cases h2
   have O:b.s+b.n - 1=d+n:=by omega
   rw[O]at C;have U:zJ w (d+n)=d+n:=by unfold zJ;rw[C];rfl
   have Y:zX w (d+n)=d+n+1:=by unfold zX;rw[C];rfl
   have:=I.arr (d+n) ⋯;rw[U,Y]at this;unfold Lk;rw[C,UY ⋯];intro i a;rw[this h3 i a,show b.has (d+n+1)=eh from h2];simp
theorem Zo(D:l4 p w wd T m N A) : ∀n,d+n<=m->∀{u z:Vc},Wk p w wd T d n u z->∀{a b:Vc},(∀i,i<wd d->u i%p=zg (λj=>if (A j).has d=d7 then a j*(A j).v d i else 0) N%p)->(∀i,i<wd (d+n)->z i%p=zg (λj=>if (A j).has (d+n)=d7 then b j*(A j).v (d+n) i else 0) N%p)->
 ∀j,j<N->(A j).has d=d7->((A j).has (d+n)=d7->a j%p=b j%p)/\((A j).has (d+n)=eh->w ((A j).s+(A j).n - 1)=d7->a j%p=0):=by
 have x : ∀r,r<=m->∀{v:Vc} {a b:Vc},(∀i,i<wd r->v i%p=zg (λj=>if (A j).has r=d7 then a j*(A j).v r i else 0) N%p)->(∀i,i<wd r->v i%p=zg (λj=>if (A j).has r=d7 then b j*(A j).v r i else 0) N%p)->∀j,j<N->(A j).has r=d7->a j%p=b j%p:=λr X v a b F l j O U=>by
  have:=D.inj r X (λj=>a j - b j) (λi f=>by
   have e:zg (λj=>if (A j).has r=d7 then (a j - b j)*(A j).v r i else 0) N=zg (λj=>if (A j).has r=d7 then a j*(A j).v r i else 0) N+zg (λj=>(if (A j).has r=d7 then b j*(A j).v r i else 0)*(-1)) N:=by
    rw[<- jH];refine zw λj _=>?_;split
    ·rw[Int.sub_mul];omega
    ·simp
   rw[e,xf,NO,<- F i f,MO,<- l i f,<- MO,<- NO,show v i+v i * -1=0 by omega];simp) j O U
  exact OO.mpr this
 have K : ∀k,k<m->∀(c:Vc) (r o:Nat),r=zJ w k->o=zX w k->∀i,i<wd o->app (T k) (wd r) (o1 p A N c r) i%p=zg (λj=>if (A j).has o=d7 then (if (A j).has r=d7 then c j else 0)*(A j).v o i else 0) N%p:=λk S c r o L M i f=>by
  rw[lS];refine zQ λj O=>?_;cases hx:(A j).has r with
  | false=>simp
  | true=>
   have q:=(D.ok j O).arr k S (by rw[<- L];exact hx) i (by rw[<- M];exact f);rw[<- L,<- M]at q;simp only[if_true];rw[MO,q,<- MO];cases hy:(A j).has o<;>simp
 intro n
 induction n with
 | zero=>
  intro W u z B a b G t j O U;refine⟨λ_=>x d ⋯ G (λi f=>by rw[B i f];exact t i f) j O U,λh=>?_⟩;rw[Nat.add_zero,U]at h;cases h
 | succ n Z=>
  intro W u z B a b G t j O U;obtain⟨y,F,l⟩:=B;obtain⟨c,H⟩:=D.sp (d+n) ⋯ y;obtain⟨J,P⟩:=Z ⋯ F G H j O U;have Q : ∀i,i<wd (d+n)->y i%p=o1 p A N c (d+n) i%p:=λi f=>by rw[H i f];unfold o1;rw[Nl]
  have R : ∀i,i<wd (d+n+1)->z i%p=o1 p A N b (d+n+1) i%p:=λi f=>by rw[t i f];unfold o1;rw[Nl];rfl
  have qd:=kA.mp U;cases hw:w (d+n)with
  | false=>
   have C:zJ w (d+n)=d+n:=by unfold zJ;rw[hw];rfl
   have E:zX w (d+n)=d+n+1:=by unfold zX;rw[hw];rfl
   unfold Lk at l;rw[hw,UY ⋯]at l;have g:=x (d+n+1) ⋯ (v:=z) t (b:=λj=>if (A j).has (d+n)=d7 then c j else 0) λi f=>by rw[l i f,jV Q i];exact K (d+n) ⋯ c (d+n) (d+n+1) C.symm E.symm i f
   refine⟨λh=>?_,λh Y=>?_⟩
   ·have I:(A j).has (d+n)=d7:=kA.mpr (by have:=kA.mp h;omega)
    have:=g j O h;rw[I,UJ rfl]at this;rw[J I,this]
   ·cases I:(A j).has (d+n)with
    | false=>exact P I Y
    | true=>
     have q3:=kA.mp I;have q2 : ¬(d+n+1<(A j).s+(A j).n):=λz=>by have:(A j).has (d+(n+1))=d7:=kA.mpr ⋯;rw[this]at h;cases h
     rw[show(A j).s+(A j).n - 1=d+n by omega,hw]at Y;cases Y
  | true=>
   have C:zJ w (d+n)=d+n+1:=by unfold zJ;rw[hw];rfl
   have E:zX w (d+n)=d+n:=by unfold zX;rw[hw];rfl
   unfold Lk at l;rw[hw,UJ rfl]at l;have g:=x (d+n) ⋯ (v:=y) H (b:=λj=>if (A j).has (d+n+1)=d7 then b j else 0) λi f=>by rw[l i f,jV R i];exact K (d+n) ⋯ b (d+n+1) (d+n) C.symm E.symm i f
   refine⟨λh=>?_,λh Y=>?_⟩
   ·have I:(A j).has (d+n)=d7:=kA.mpr (by have:=kA.mp h;omega)
    have:=g j O I;rw[show(A j).has (d+n+1)=d7 from h,UJ rfl]at this;rw[J I,this]
   ·cases I:(A j).has (d+n)with
    | false=>exact P I Y
    | true=>
     have:=g j O I;rw[show(A j).has (d+n+1)=eh from h,UY ⋯]at this;rw[J I,this];simp
end
section
variable{p:Int}{n:Nat}
theorem sg{l:UX} : ∀{r:Nat},(∀k m,k<m->m<r->l k<l m)->∃j,j<=r/\∀k,k<r->l k≠j
 | 0,_=>⟨0,MM _,λk I=>absurd I<|Nx _⟩
 | r+1,h=>by
  obtain⟨j,f,d⟩:=sg (r:=r) λk m a b=>h k m a ⋯;by_cases e:l r=j
  ·refine⟨r+1,MM _,λk I=>?_⟩
   rcases Nc k r with z | z
   ·have:=h k r z ⋯;omega
   ·rw[show k=r by omega];omega
  ·refine⟨j,by omega,λk I=>?_⟩
   rcases Nc k r with z | z
   ·exact d k z
   ·rw[show k=r by omega];exact e
theorem EF(C:Pr p){h N:Nat}{f:UV}(inj : ∀t:Vc,(∀i,i<h->app f N t i%p=0)->∀j,j<N->t j%p=0):N<=h:=by
 rcases Nc h N with ac | a8
 ·exfalso
  obtain⟨r,A,B,l,b,x⟩:=wA (n:=N) C h f;obtain⟨O,y,a4⟩:=sg b.mono;have o:O<N:=by omega
  let t:Vc:=λj=>if j=O then 1 else zg (λk=>if l k=j then B k O*(-1)else 0) r;have u:t O=1:=UJ rfl;have E : ∀k,k<r->t (l k)=B k O*(-1):=λk U=>by
   show(if l k=O then _ else _)=_;rw[UY (a4 k U),zV (f:=λI=>if l I=l k then B I O*(-1)else 0) U λI Y a=>by
    rw[UY λe=>a (by
     rcases Rz I k with z | z | z
     ·have:=b.mono I k z U;omega
     ·exact z
     ·have:=b.mono k I z Y;omega)]]
   rw[UJ rfl]
  have m : ∀k,k<r->zg (λj=>B k j*t j) N=0:=λk U=>by
   have e:zg (λj=>B k j*t j) N=zg (λj=>(if j=O then B k O else 0)+zg (λI=>if l I=j then B k (l I)*(B I O*(-1))else 0) r) N:=zw λj s=>by
    by_cases z:j=O
    ·subst z
     rw[u,UJ rfl,zw (g:=λ_=>0) λI Y=>UY<|a4 I Y,zR];simp
    ·show B k j*(if j=O then _ else _)=_
     rw[UY z,UY z,Tz,NX,<- xf];refine zw λI Y=>?_;by_cases e:l I=j
     ·rw[UJ e,UJ e,<- e,NX]
     ·rw[UY e,UY e];simp
   rw[e,jH,zV (f:=λj=>if j=O then B k O else 0) o<|λj _ a=>UY a,UJ rfl,q9];have d:zg (λI=>zg (λj=>if l I=j then B k (l I)*(B I O*(-1))else 0) N) r=zg (λI=>B k (l I)*(B I O*(-1))) r:=zw λI Y=>by rw[zV (f:=λj=>if l I=j then B k (l I)*(B I O*(-1))else 0) (b.lt I Y) λj _ a=>UY<|Ny a,UJ rfl]
   rw[d,zV (f:=λI=>B k (l I)*(B I O*(-1))) U λI Y a=>by rw[b.pb k I U Y a];simp];rw[b.one k U];omega
  have:=inj t (λi w=>by
   have c:=ZX b<|(x<|f i).mpr (.gen ⟨i,w,rfl⟩);unfold app;have e:zg (λj=>f i j*t j) N%p=zg (λj=>zg (λk=>f i (l k)*B k j) r*t j) N%p:=zQ λj s=>by rw[MO,c j s,<- MO]
   rw[e];have d:zg (λj=>zg (λk=>f i (l k)*B k j) r*t j) N=zg (λk=>f i (l k)*zg (λj=>B k j*t j) N) r:=by rw[zw (g:=λj=>zg (λk=>f i (l k)*B k j*t j) r) λj _=>(xf _ _ _).symm,q9];refine zw λk _=>?_;rw[<- jK];exact zw λj _=>Ov _ _ _
   rw[d,zw (g:=λ_=>0) λk U=>by rw[m k U,Pj],zR];simp) O o
  rw[u,C.one]at this;cases this
 ·exact a8
theorem Ko(W:Nat->Vc)(t:Vc):Span p n (eF m W) λi=>zg (λj=>t j*W j i) m:=Span.sum (u:=W) t λj z=> .gen ⟨j,z,rfl⟩
theorem ER(z:Pr p)(I:h7 p n s B l)(sp : ∀v,Span p n (eF s B) v↔Span p n (eF m W) v)(O : ∀t:Vc,(∀i,i<n->zg (λj=>t j*W j i) m%p=0)->∀j,j<m->t j%p=0):m=s:=by
 have d:s<=m:=by obtain⟨r,g,U⟩:=wA (n:=n) z m W;have:=vR z (m:=m) (W:=W) ⟨B,l,I,sp⟩ U;omega
 have h:s<=n:=V5 I;have e:m<=s:=EF z (f:=λi j=>W j<|l i) λt Y=>O t λi a=>by
  have c:=ZX I ((sp _).mpr (Ko (n:=n) W t)) i a;rw[c];have:zg (λk=>zg (λj=>t j*W j (l k)) m*B k i) s%p=zg (λ_=>0) s%p:=zQ λk b=>by have:=Y k b;unfold app at this;rw[xh]at this;rw[MO,this];simp
  rw[this,zR];simp
 omega
theorem pv(hp:Pr p){s q c:Nat}{B C V:Nat->Vc}{l J:UX}(hX:h7 p n s B l)(U:h7 p n q C J)(S : ∀j,j<c->Span p n (eF s B) (V j))(L : ∀v,Span p n (eF q C) v->Span p n (eF s B) v)
 (X2 : ∀v,Span p n (eF s B) v->∃t:Vc,Span p n (eF q C) λi=>v i - zg (λj=>t j*V j i) c) (Z : ∀t:Vc,Span p n (eF q C) (λi=>zg (λj=>t j*V j i) c)->∀j,j<c->t j%p=0):q+c=s:=by
 let W:Nat->Vc:=λj=>if j<q then C j else V (j - q);have Y : ∀j,j<q->W j=C j:=λj I=>UJ I;have o : ∀j,W (q+j)=V j:=λj=>by show(if q+j<q then _ else _)=_;rw[UY ⋯,NF]
 have w : ∀t:Vc,∀i,zg (λj=>t j*W j i) (q+c)=zg (λj=>t j*C j i) q+zg (λj=>t (q+j)*V j i) c:=λt i=>by
  rw[wj];congr 1
  ·exact zw λj I=>by rw[Y j I]
  ·exact zw λj I=>by rw[o j]
 refine ER hp hX (W:=W) (λv=>⟨λm=>?_,λm=>m.le λg b=>?_⟩) λt r=>?_
 ·obtain⟨t,h⟩:=X2 v m
  have a:Span p n (eF (q+c) W) λi=>v i - zg (λj=>t j*V j i) c:=h.le λg b=>by obtain⟨k,O,rfl⟩:=b;rw[<- Y k O];exact .gen ⟨k,by omega,rfl⟩
  have A:Span p n (eF (q+c) W) λi=>zg (λj=>t j*V j i) c:=Span.sum t λj I=>by rw[<- o j];exact .gen ⟨q+j,by omega,rfl⟩
  exact(A.add a 1).congr λi _=>by rw[Int.one_mul,Int.sub_add_cancel]
 ·obtain⟨k,O,rfl⟩:=b
  rcases Nc k q with z | z
  ·rw[Y k z];exact L _<|.gen ⟨k,z,rfl⟩
  ·obtain⟨j,rfl⟩ : ∃j,k=q+j:=⟨k - q,by omega⟩
   rw[o j];exact S j ⋯
 ·have u : ∀j,j<c->t (q+j)%p=0:=Z (λj=>t<|q+j) ((Ko (n:=n) C λj=> -1*t j).congr λi d=>by
   have:=r i d;rw[w]at this;have e:zg (λj=> -1*t j*C j i) q=zg (λj=>t j*C j i) q * -1:=by rw[<- xf];exact zw λj _=>by rw[NX (-1),Ov,NX (-1),Ov]
   rw[e];refine OO.mpr ?_;rw[<- this];congr 1;omega)
  intro j I;rcases Nc j q with z | z
  ·have y : ∀i,i<n->zg (λj=>t j*C j i) q%p=0:=λi d=>by
    have:=r i d;rw[w,NO]at this;have e:zg (λj=>t (q+j)*V j i) c%p=zg (λ_=>0) c%p:=zQ λj I=>by rw[MO,u j I];simp
    rw[e,zR]at this;simpa using this
   have a:=y (J j)<|U.lt j z;rw[zV (f:=λk=>t k*C k (J j)) z λk O x=>by rw[U.pb k j O z (Ny x)];simp]at a;rw[U.one j z,RV]at a;exact a
  ·obtain⟨k,rfl⟩ : ∃k,j=q+k:=⟨j - q,by omega⟩
   exact u k ⋯
end
noncomputable def o3(A:Nat->f7)(N d e:Nat):List Nat:=(MB N).filter λj=>(A j).has d && (A j).has e
section
variable{p:Int}{w:UK}{wd:UX}{T:UW}{m N n:Nat}{A:Nat->f7}{d:Nat}
theorem iX(z:k<(o3 A N d e).length):(o3 A N d e).getD k 0<N/\(A<|(o3 A N d e).getD k 0).has d=d7/\(A<|(o3 A N d e).getD k 0).has e=d7:=by
 have f:(o3 A N d e).getD k 0∈o3 A N d e:=by rw[MI,MF z];exact Po _
 obtain⟨b,a⟩:=Np.mp f;simp only[MW]at a;exact⟨MD.mp b,a.1,a.2⟩
theorem EU(D:l4 p w wd T m N A)(C:d<=m)(e:Nat):(o3 A N d e).length<=wd d:=by rw[<- D.cnt d C];unfold o3 i4;rw[<- NS,<- NS];exact List.countP_mono_left λj _ h=>by simp only[MW]at h;exact h.1
theorem pB(d e:Nat)(t:Vc) : ∃a:Vc,∀k,k<(o3 A N d e).length->a ((o3 A N d e).getD k 0)=t k:=by refine⟨λj=>t<|(o3 A N d e).idxOf j,λk z=>?_⟩;have b:(o3 A N d e).Nodup:=Sz.sublist RQ;show t _=_;rw[MI,MF z,RB,b.idxOf_getElem _ z]
theorem iV(d e:Nat)(a:Vc)(i:Nat):zg (λk=>a ((o3 A N d e).getD k 0)*(A<|(o3 A N d e).getD k 0).v d i) (o3 A N d e).length=zg (λj=>if (A j).has d=d7 then (if (A j).has e=d7 then a j else 0)*(A j).v d i else 0) N:=by have:=vq (λj=>(A j).has d && (A j).has e) (λj=>a j*(A j).v d i) N;refine this.trans<|zw λj _=>?_;cases (A j).has d<;>cases (A j).has e<;>simp
theorem wV(Z:Pr p)(D:l4 p w wd T m N A)(C:d+n<=m){s q:Nat}{B J:Nat->Vc}{l l2:UX}(S:h7 p (wd d) s B l)(U : ∀u,Span p (wd d) (eF s B) u ↔ ∃z,Wk p w wd T d n u z)
 (L:h7 p (wd d) q J l2) (Y : ∀u,Span p (wd d) (eF q J) u↔Wk p w wd T d n u λ_=>0):q+(o3 A N d<|d+n).length=s:=by
 have Q:=EU D (show d<=m by omega)<|d+n;have R:=V5 L;refine pv Z S L (V:=λk=>(A<|(o3 A N d<|d+n).getD k 0).v d) (λk I=>?_) (λv y=>(U v).mpr ⟨_,(Y v).mp y⟩) (λv y=>?_) λt M=>?_
 ·obtain⟨f,g,O⟩:=iX I
  exact(U _).mpr ⟨_,Js (D.ok _ f) g n C O⟩
 ·obtain⟨z,E⟩:=(U v).mp y
  obtain⟨a,o⟩:=D.sp d ⋯ v;obtain⟨b,H⟩:=D.sp (d+n) C z;have r:=Zo D n C E o H;refine⟨λk=>a<|(o3 A N d<|d+n).getD k 0,(Y _).mpr ?_⟩;let u:Nat->Vc:=λj=>if (A j).has d=d7/\(A j).has (d+n)=eh/\w ((A j).s+(A j).n - 1)=eh then (A j).v d else λ_=>0;have P : ∀j,j<N->Wk p w wd T d n (u j) λ_=>0:=λj x=>by
   show Wk p w wd T d n (if _ then _ else _) _;split
   ·next h=>exact WR (D.ok j x) h.1 h.2.2 n C h.2.1
   ·exact Xf n
  have K:=sA a u (λ_ _=>0) N P;refine mf (rj K λi F=>?_) λi _=>by simp[zR]
  rw[iV d (d+n) a i];rw[OL,o i F,<- OL];have e:zg (λj=>if (A j).has d=d7 then a j*(A j).v d i else 0) N - zg (λj=>if (A j).has d=d7 then (if (A j).has (d+n)=d7 then a j else 0)*(A j).v d i else 0) N=zg (λj=>(if (A j).has d=d7 then a j*(A j).v d i else 0)+(if (A j).has d=d7 then (if (A j).has (d+n)=d7 then a j else 0)*(A j).v d i else 0) * -1) N:=by rw[jH,xf];omega
  rw[e];refine zQ λj x=>?_;show _=a j*(if _ then (A j).v d else λ_=>0) i%p;cases f:(A j).has d with
  | false=>simp
  | true=>
   cases g:(A j).has (d+n)with
   | true=>
    have G:a j*(A j).v d i+a j*(A j).v d i * -1=0:=by omega
    simp only[if_true,G,Bool.true_eq_false,false_and,and_false,if_false,Pj]
   | false=>
    cases O:w ((A j).s+(A j).n - 1)with
    | false=>simp
    | true=>
     have:=(r j x f).2 g O;simp only[if_true,OE,if_false,PJ,OY,Pj,Bool.true_eq_false,and_false];rw[MO,this];simp
 ·obtain⟨a,o⟩:=pB (A:=A) (N:=N) d (d+n) t
  have E:=(Y _).mp M;have r:=Zo D n C E (a:=λj=>if (A j).has (d+n)=d7 then a j else 0) (b:=λ_=>0) (λi F=>by
   rw[<- iV d (d+n) a i];congr 1;exact zw λk I=>by rw[o k I]) (λi _=>by
   have:zg (λj=>if (A j).has (d+n)=d7 then 0*(A j).v (d+n) i else 0) N=zg (λ_=>0) N:=zw λj _=>by simp
   rw[this,zR])
  intro k I;obtain⟨f,g,O⟩:=iX I;have:=(r _ f g).1 O;rw[O,UJ rfl,o k I]at this;simpa using this
end
section
variable{p:Int}{w:UK}{wd:UX}{T:UW}{m N:Nat}{A:Nat->f7}
theorem oR(r:Nat)(t:Vc) : ∃a:Vc,∀k,k<(i4 A N r).length->a ((i4 A N r).getD k 0)=t k:=by refine⟨λj=>t<|(i4 A N r).idxOf j,λk z=>?_⟩;show t _=_;rw[MI,MF z,RB,(Vl A N r).idxOf_getElem _ z]
theorem ia(r:Nat)(a:Vc)(i:Nat):zg (λj=>if (A j).has r=d7 then a j*(A j).v r i else 0) N=app (qR A N r) (i4 A N r).length (λk=>a<|(i4 A N r).getD k 0) i:=by have:=vq (λj=>(A j).has r) (λj=>a j*(A j).v r i) N;rw[<- this];unfold app;rw[xh];rfl
theorem EA(z:j<N)(I:(A j).has r=d7) : ∃k,k<(i4 A N r).length/\(i4 A N r).getD k 0=j:=by have O:j∈i4 A N r:=Np.mpr ⟨MD.mpr z,by simpa using I⟩;obtain⟨i,a,e⟩:=RO O;exact⟨i,a,by rw[MI,MF a];simpa using e⟩
theorem Ar(Y:Pr p)(a0 : ∀k,wd k<=8)(ok : ∀j,j<N->n4 p w wd T m (A j))(cnt : ∀r,r<=m->(i4 A N r).length=wd r)(U : ∀r,r<=m->∀v:Vc,∃t,∀i,i<wd r->v i%p=app (qR A N r) (wd r) t i%p):l4 p w wd T m N A where
 ok:=ok
 cnt:=cnt
 sp:=λr z v=>by obtain⟨t,I⟩:=U r z v;obtain⟨a,ha⟩:=oR (A:=A) (N:=N) r t;refine⟨a,λi hi=>?_⟩;rw[I i hi,ia,cnt r z];unfold app;congr 1;exact zw λk O=>by show _=_*a _;rw[ha k (by rw[cnt r z];exact O)]
 inj:=λr z t I j hj hh=>by
  obtain⟨k,O,e⟩:=EA hj hh;have:=vV Y (a0 r) (U r z) (t:=λk=>t<|(i4 A N r).getD k 0) (λi hi=>by have:=I i hi;rw[ia,cnt r z]at this;exact this) k (by rw[<- cnt r z];exact O)
  rw[e]at this;exact this
end
section
variable{p:Int}{w:UK}{wd:UX}{T f g:UW}{m N:Nat}{A:Nat->f7}
theorem WT(F G:UV)(n k:Nat)(u:Vc)(i:Nat):app F n (app G k u) i=zg (λj=>zg (λb=>F i b*G b j) n*u j) k:=by
 unfold app;have e:zg (λb=>F i b*zg (λj=>G b j*u j) k) n=zg (λb=>zg (λj=>F i b*G b j*u j) k) n:=zw λb _=>by rw[<- jK];exact zw λj _=>(Ov _ _ _).symm
 rw[e,q9];exact zw λj _=>xf _ _ _
theorem Jb(h:Ye p n F G)(u:Vc)(hi:i<n):app F n (app G n u) i%p=u i%p:=by
 rw[WT];have e:zg (λj=>zg (λb=>F i b*G b j) n*u j) n%p=zg (λj=>iU i j*u j) n%p:=zQ λj z=>by rw[MO,h i j hi z,<- MO]
 rw[e,zV (f:=λj=>iU i j*u j) hi λj _ I=>by unfold iU;rw[UY (Ny I),PJ]];unfold iU;rw[UJ rfl,Int.one_mul]
theorem mR(k:Nat)(u:Vc)(i:Nat):app (jS p w wd f g T k) (wd<|zJ w k) u i%p=app (f<|zX w k) (wd<|zX w k) (app (T k) (wd<|zJ w k)<|app (g<|zJ w k) (wd<|zJ w k) u) i%p:=by
 rw[WT];show _=app (λi b=>zg (λa=>f (zX w k) i a*T k a b)<|wd<|zX w k) (wd<|zJ w k) (app (g<|zJ w k) (wd<|zJ w k) u) i%p;rw[WT];have e:app (jS p w wd f g T k) (wd<|zJ w k) u i%p=zg (λj=>zg (λb=>zg (λa=>f (zX w k) i a*T k a b) (wd<|zX w k)*g (zJ w k) b j) (wd<|zJ w k)*u j) (wd<|zJ w k)%p:=by
  unfold app;refine zQ λj _=>?_;rw[MO];have z:jS p w wd f g T k i j%p=zg (λb=>zg (λa=>f (zX w k) i a*T k a b) (wd<|zX w k)*g (zJ w k) b j) (wd<|zJ w k)%p:=by unfold jS;rw[Nl];refine zQ λb _=>?_;rw[MO,Nl,<- MO,NX,zw (g:=λa=>f (zX w k) i a*T k a b) λa _=>NX _ _]
  rw[z,<- MO]
 exact e
noncomputable def JD(p:Int)(wd:UX)(f:UW)(x:f7):f7:=⟨x.s,x.n,λr i=>app (f r) (wd r) (x.v r) i%p⟩
theorem JC(x:f7)(r i:Nat):(JD p wd f x).v r i%p=app (f r) (wd r) (x.v r) i%p:=Nl _ _
theorem By(q:UK)(t:Vc)(F:UV)(n r i:Nat)(X:Nat->f7):zg (λj=>if q j=d7 then t j*app F n ((X j).v r) i else 0) N=app F n (λi=>zg (λj=>if q j=d7 then t j*(X j).v r i else 0) N) i:=by
 have a:(λi=>zg (λj=>if q j=d7 then t j*(X j).v r i else 0) N)=λi=>zg (λj=>(if q j=d7 then t j else 0)*(X j).v r i) N:=by funext i;exact zw λj _=>by split<;>simp
 rw[a,yH F n (λj=>if q j=d7 then t j else 0) (λj=>(X j).v r) N i];exact zw λj _=>by split<;>simp
theorem Yx(L:0<p)(J : ∀r,r<=m->Ye p (wd r) (f r) (g r))(C : ∀r,r<=m->Ye p (wd r) (g r) (f r))(D:l4 p w wd T m N A):l4 p w wd (jS p w wd f g T) m N λj=>JD p wd f (A j):=by
 have B : ∀z:Int,0<=z%p/\z%p<p:=λz=>⟨NG _ ⋯,Nr _ L⟩;have h : ∀r i (t:Vc),zg (λj=>if (A j).has r=d7 then t j*(JD p wd f<|A j).v r i else 0) N%p=app (f r) (wd r) (λi=>zg (λj=>if (A j).has r=d7 then t j*(A j).v r i else 0) N) i%p:=λr i t=>by
  rw[<- By (λj=>(A j).has r) t (f r) (wd r) r i A];refine zQ λj _=>?_;split
  ·rw[MO,JC,<- MO]
  ·rfl
 refine⟨λj O=>?_,λr I v=>?_,λr I t U j O Y=>?_,D.cnt⟩
 ·have b:=D.ok j O
  refine⟨b.n1,b.le,λr i _ _=>B _,λk l Y i d=>?_⟩;have n:zJ w k<=m:=by have:=QZ w l;omega
  have e:(A j).has (zJ w k)=d7:=Y;rw[mR];have o : ∀x,x<wd (zJ w k)->app (g<|zJ w k) (wd<|zJ w k) ((JD p wd f<|A j).v (zJ w k)) x%p=(A j).v (zJ w k) x%p:=λx a=>by rw[jV (u:=app (f<|zJ w k) (wd<|zJ w k)<|(A j).v (zJ w k)) (λy _=>JC _ _ _),Jb (C _ n) _ a]
  have s : ∀x,x<wd (zX w k)->app (T k) (wd<|zJ w k) (app (g<|zJ w k) (wd<|zJ w k)<|(JD p wd f<|A j).v (zJ w k)) x%p=(if (A j).has (zX w k)=d7 then (A j).v (zX w k) x else 0)%p:=λx a=>by rw[jV (u:=(A j).v (zJ w k)) o];exact b.arr k l e x a
  rw[jV s];show _=(if (A j).has (zX w k)=d7 then (JD p wd f<|A j).v (zX w k) i else 0)%p;by_cases a:(A j).has (zX w k)=d7
  ·simp only[a,if_true]
   exact(JC _ _ _).symm
  ·simp only[a,if_false]
   rw[Ju (λ_ _=>by simp) i];simp
 ·obtain⟨t,U⟩:=D.sp r I (app (g r) (wd r) v)
  refine⟨t,λi d=>?_⟩;show _=zg (λj=>if (A j).has r=d7 then t j*(JD p wd f<|A j).v r i else 0) N%p;rw[h,<- Jb (J r I) v d];exact jV U i
 ·have e:(A j).has r=d7:=Y
  refine D.inj r I t (λi d=>?_) j O e;have z : ∀x,x<wd r->app (f r) (wd r) (λi=>zg (λj=>if (A j).has r=d7 then t j*(A j).v r i else 0) N) x%p=0:=λx a=>by rw[<- h];exact U x a
  rw[<- Jb (C r I) (λi=>zg (λj=>if (A j).has r=d7 then t j*(A j).v r i else 0) N) d];exact Ju z i
end
def gV(p:Int)(a b:Nat)(c:Int)(v:Vc):Vc:=λi=>if i=b then (v b+c*v a)%p else v i
def LX(S E:UX)(j:Nat):f7:=⟨S j,E j - S j+1,λ_ _=>0⟩
def qC(S E:UX)(N r:Nat):List Nat:=i4 (LX S E) N r
noncomputable def Vf(S E:UX)(N j:Nat):f7:=⟨S j,E j - S j+1,λr i=>if (qC S E N r).getD i N=j then 1 else 0⟩
def mE(S E:UX)(N r:Nat):Nat:=(qC S E N r).length
noncomputable def oM(w:UK)(S E:UX)(N k i j:Nat):Int:=if (qC S E N<|zX w k).getD i N=(qC S E N<|zJ w k).getD j (N+1)then 1 else 0
section
variable{S E:UX}{N r:Nat}{w:UK}{p:Int}{m:Nat}
theorem nc:(qC S E N r).Nodup:=List.Nodup.sublist RQ Sz
theorem a_{j:Nat}:j∈qC S E N r↔j<N/\(Vf S E N j).has r=d7:=by unfold qC i4;rw[Np,MD];rfl
theorem ai{j:Nat}(h:j<N)(I:(Vf S E N j).has r=d7) : ∃c,c<mE S E N r/\(qC S E N r)[c]? = dn j:=by obtain⟨c,z⟩:=SQ<|a_.mpr ⟨h,I⟩;exact⟨c,(MU.mp z).1,z⟩
theorem JH{c d:Nat}(h:c<mE S E N r) : ∃j,(qC S E N r)[c]? = dn j/\(qC S E N r).getD c d=j/\j<N/\(Vf S E N j).has r=d7:=by have e:=MF (l:=qC S E N r) h;obtain⟨a,b⟩:=a_.mp<|NQ e;exact⟨_,e,by rw[MI,e];rfl,a,b⟩
theorem YI{c z j:Nat}(C:(qC S E N r)[c]? = dn j)(I:(qC S E N r)[z]? = dn j):c=z:=by exact(List.getElem?_inj (MU.mp C).1 nc).mp (C.trans I.symm)
theorem XZ{c j:Nat}(h:c<mE S E N r):(Vf S E N j).v r c=if (qC S E N r)[c]? = dn j then 1 else 0:=by
 obtain⟨I,a,O,_⟩:=JH (d:=N) h;show(if (qC S E N r).getD c N=j then (1:Int)else 0)=_;rw[a,O];by_cases z:I=j
 ·rw[UJ z,UJ (by rw[z])]
 ·rw[UY z,UY (λq=>z<|ND q)]
theorem aV(J:Pr p)(C : ∀j,j<N->S j<=E j/\E j<=m):l4 p w (mE S E N) (oM w S E N) m N (Vf S E N):=by
 have two:=J.two;refine⟨λj O=>⟨by show 1<=_+1;omega,by show S j+(E j - S j+1)<=m+1;have:=C j O;omega,λr i _ _=>?_,λk G h i b=>?_⟩,λr s v=>?_,λr s t A j O h=>?_,λr s=>rfl⟩
 ·show 0<=(if _ then (1:Int)else 0)/\(if _ then (1:Int)else 0)<p
  split<;>omega
 ·obtain⟨U,Y,a⟩:=ai O h
  obtain⟨y,g,u,x,n⟩:=JH (d:=N) b;have e:app (oM w S E N k) (mE S E N<|zJ w k) ((Vf S E N j).v (zJ w k)) i=oM w S E N k i U:=by
   unfold app;rw[zV (f:=λc=>oM w S E N k i c*(Vf S E N j).v (zJ w k) c) Y λc o I=>by rw[XZ o,UY<|λq=>I<|YI q a,Pj]]
   rw[XZ Y,UJ a,RV]
  rw[e];congr 1;unfold oM;rw[show(qC S E N<|zJ w k).getD U (N+1)=j by rw[MI,a];rfl];by_cases l:(Vf S E N j).has (zX w k)=d7
  ·rw[UJ l];rfl
  ·rw[UY l,u,UY (λz=>l<|by rw[<- z];exact n)]
 ·refine⟨λj=>zg (λc=>if (qC S E N r)[c]? = dn j then v c else 0)<|mE S E N r,λi b=>?_⟩
  obtain⟨y,g,u,x,n⟩:=JH (d:=N) b;rw[zV (f:=λj=>if (Vf S E N j).has r=d7 then zg (λc=>if (qC S E N r)[c]? = dn j then v c else 0) (mE S E N r)*(Vf S E N j).v r i else 0) x λj O I=>by rw[XZ b,show(if (qC S E N r)[i]? = dn j then (1:Int)else 0)=0 from UY<|λq=>I<|ND<|q.symm.trans g,Pj,ite_self]]
  rw[UJ n,XZ b,UJ g,RV,zV (f:=λc=>if (qC S E N r)[c]? = dn y then v c else 0) b λc o I=>UY λq=>I<|YI q g,UJ g]
 ·obtain⟨U,Y,a⟩:=ai O h
  have:=A U Y;rw[zV (f:=λj=>if (Vf S E N j).has r=d7 then t j*(Vf S E N j).v r U else 0) O λB F I=>by rw[XZ Y,show(if (qC S E N r)[U]? = dn B then (1:Int)else 0)=0 from UY<|λq=>I<|ND<|q.symm.trans a,Pj,ite_self]]at this
  rw[UJ h,XZ Y,UJ a,RV]at this;exact this
theorem oK(z:Pr p) : ∀k x y,0<=oM w S E N k x y/\oM w S E N k x y<p:=λk x y=>by have:=z.two;unfold oM;split<;>omega
end
section
variable{p:Int}{m:Nat}{w:UK}{wd:UX}{T:UW}
noncomputable def eI(w:UK)(wd:UX)(T:UW)(m:Nat):List D:=(MB m).map λk=>D.lst<|iM (fy w wd k) (fA w wd k)<|T k
@[simp] theorem Bt(m):(eI w wd T m).length=m:=by simp[eI]
abbrev rc(p:Int)(m:Nat)(w:UK)(wd:UX)(T:UW)(acc:List D)(c5 c6 c7 c8:Cell):Ctx:=[.val (.int p),.val (.str (jW m w)),.val (.lst (zD (m+1) λk=>(wd k:Int))),.val (.lst (eI w wd T m)),.own acc,c5,c6,c7,c8]
end
def stN(M:Nat):List (Nat×Nat):=(MB M).flatMap λi=>(Ru i<|M - i).map λj=>(i,j)
theorem L1:s∈stN M↔s.1<=s.2/\s.2<M:=by
 unfold stN;simp only[List.mem_flatMap,MD,Nb,List.mem_range'_1];constructor
 ·rintro⟨i,a,j,z,rfl⟩
  exact⟨z.1,by show j<M;omega⟩
 ·intro h
  exact⟨s.1,by omega,s.2,⟨h.1,by omega⟩,rfl⟩
noncomputable def U4:=jy 2<|BK<|zM (zK<|ze 1) (.tp [0,1]) 2 [0] jd (qA<|zb (qA<|zb (zc 0)<|zb (zc 1) zB)<|zb (zA Ft<|zb (zc 2)<|zb (zc 0)<|zb (zc 1) zB) zB)
def vt:List Int->Int
 | []=>0
 | x::r=>x+vt r
theorem yW : ∀L:List Int,YF (L.map D.int)=dn (vt L)
 | []=>rfl
 | x::L=>by show(YF<|L.map D.int).map _=_;rw[yW L];rfl
noncomputable def mm(K:List (Nat×Nat))(a b:Int):Nat:=K.countP λx=>decide ((x.1:Int)<=a) && decide (b<=(x.2:Int))
def ro(K:List (Nat×Nat))(s:Nat×Nat):Nat:=K.countP λx=>decide<|x=s
theorem Jn(x:Nat×Nat)(K:List (Nat×Nat))(a b:Int):(mm (x::K) a b:Int)=(mm K a b:Int)+if (x.1:Int)<=a/\b<=(x.2:Int)then 1 else 0:=by
 unfold mm;rw[List.countP_cons];by_cases d:(x.1:Int)<=a
 ·by_cases e:b<=(x.2:Int)
  ·rw[UJ (show(decide ((x.1:Int)<=a) && decide (b<=(x.2:Int)))=d7 by simp only[decide_eq_true d,decide_eq_true e];rfl),UJ ⟨d,e⟩];rfl
  ·rw[UY (show ¬(decide ((x.1:Int)<=a) && decide (b<=(x.2:Int)))=d7 by simp only[decide_eq_false e,Bool.and_false];decide),UY λz=>e z.2];rfl
 ·rw[UY (show ¬(decide ((x.1:Int)<=a) && decide (b<=(x.2:Int)))=d7 by simp only[decide_eq_false d,PY];decide),UY λz=>d z.1];rfl
theorem oF(x s:Nat×Nat)(K:List (Nat×Nat)):(ro (x::K) s:Int)=(ro K s:Int)+if (x.1=s.1/\x.2=s.2)then 1 else 0:=by
 unfold ro;rw[List.countP_cons];by_cases h:x=s
 ·rw[UJ (decide_eq_true h),UJ (by rw[h];exact⟨rfl,rfl⟩)];rfl
 ·rw[UY (by simpa using h),UY λz=>h (Prod.ext z.1 z.2)];rfl
theorem QJ(s:Nat×Nat) : ∀K:List (Nat×Nat),(mm K s.1 s.2:Int) - ((mm K ((s.1:Int) - 1) s.2:Int)+(mm K s.1 ((s.2:Int)+1):Int))+(mm K ((s.1:Int) - 1) ((s.2:Int)+1):Int)=(ro K s:Int)
 | []=>rfl
 | x::K=>by
  have z:=QJ s K;rw[Jn,Jn,Jn,Jn,oF];generalize (mm K s.1 s.2:Int)=I at *;generalize (mm K ((s.1:Int) - 1) s.2:Int)=O at *;generalize (mm K s.1 ((s.2:Int)+1):Int)=U at *;generalize (mm K ((s.1:Int) - 1) ((s.2:Int)+1):Int)=Y at *;generalize (ro K s:Int)=c5 at *
  repeat' split
  all_goals omega
section
variable{p:Int}{w:UK}{wd:UX}{T:UW}{m N:Nat}{A:Nat->f7}
noncomputable def KQ(A:Nat->f7)(N:Nat):List (Nat×Nat):=(MB N).map λj=>((A j).s,(A j).s+(A j).n - 1)
theorem vf(D:l4 p w wd T m N A) : ∀x,x∈KQ A N->x∈stN (m+1):=λx a=>by obtain⟨j,z,rfl⟩:=Nb.mp a;have b:=(D.ok j<|MD.mp z).n1;have d:=(D.ok j<|MD.mp z).le;exact L1.mpr (by show(A j).s<=(A j).s+(A j).n - 1/\(A j).s+(A j).n - 1<m+1;omega)
theorem Vx(D:l4 p w wd T m N A)(I:i<=j):(o3 A N i j).length=mm (KQ A N) i j:=by unfold o3 mm KQ;rw[<- NS,SG];refine Oz λk z=>?_;have a:=(D.ok k<|MD.mp z).n1;simp only[MW,Function.comp_def,decide_eq_true_eq];rw[kA,kA];omega
end
def u1:=(jy 1<|zA jO<|zb (zc 0)<|zb (zq<|.int 0) zB)
noncomputable def u2:=(jy 2<|eg (jj<|qG<|zb (zq<|.int 2)<|zb (zq<|.int 3)<|zb (zq<|.int 5)<|zb (zq<|.int 7) zB)<|zG yh (zc 1)<|zq<|.int 4)
noncomputable def u3:=(wy (.tp [3,4])<|eg (jj<|qG<|zb (qA<|zb (zq<|.int 4)<|zb (zq<|.int 2) zB)<|zb (qA<|zb (zq<|.int 3)<|zb (zq<|.int 2) zB)<|zb (qA<|zb (zq<|.int 2)<|zb (zq<|.int 2) zB)<|zb (qA<|zb (zq<|.int 2)<|zb (zq<|.int 2) zB)<|zb (qA<|zb (zq<|.int 6)<|zb (zq<|.int 1) zB)<|zb (qA<|zb (zq<|.int 5)<|zb (zq<|.int 1) zB)<|zb (qA<|zb (zq<|.int 4)<|zb (zq<|.int 1) zB)<|zb (qA<|zb (zq<|.int 3)<|zb (zq<|.int 1) zB) zB)<|zG yh (zc 1)<|zq<|.int 8)
theorem CD{c:Int}(h:0<=c) : ∃q:Nat,Pr (q:Int)/\([D.int 2,.int 3,.int 5,.int 7])[(c%4).toNat]? = dn (.int q)/\h6 4 (c%4)=dn (c%4).toNat:=by
 have a:=NG c (show(4:Int)≠0 by decide);have b:=Nr c (show(0:Int)<4 by decide);obtain⟨r,z⟩:=Pk a;rw[z];have I:r<4:=by omega
 rw[qh,UJ I,Ou];rcases (by omega:r=0\/r=1\/r=2\/r=3)with e | e | e | e<;>subst e
 ·exact⟨2,.inl rfl,rfl,rfl⟩
 ·exact⟨3,.inr<|.inl rfl,rfl,rfl⟩
 ·exact⟨5,.inr<|.inr<|.inl rfl,rfl,rfl⟩
 ·exact⟨7,.inr<|.inr<|.inr rfl,rfl,rfl⟩
def bS(bs:List (Int×Int))(j:Nat):Nat:=(bs.getD j (0,0)).1.toNat
def bE(bs:List (Int×Int))(j:Nat):Nat:=(bs.getD j (0,0)).2.toNat
abbrev bW(bs:List (Int×Int)):Nat->Nat:=mE (bS bs) (bE bs) bs.length
abbrev bT(w:UK)(bs:List (Int×Int)):Nat->Nat->Nat->Int:=oM w (bS bs) (bE bs) bs.length
abbrev bL(bs:List (Int×Int))(r:Nat):List Nat:=qC (bS bs) (bE bs) bs.length r
section
variable{bs:List (Int×Int)}{m:Nat}{w:UK}
theorem lQ(h : ∀b∈bs,ZN ((m+1:Nat):Int) b){j:Nat}(z:j<bs.length):bs[j]? = dn ((bS bs j:Int),(bE bs j:Int))/\bS bs j<=bE bs j/\bE bs j<=m:=by have e:=MF z;have I:=h _<|NQ e;obtain⟨a,d,O⟩:=I;unfold bS bE;rw[MI,e,RB];refine⟨?_,by omega,by omega⟩;congr 1;exact Prod.ext (by dsimp only;omega) (by dsimp only;omega)
end
section
variable{bs:List (Int×Int)}{m:Nat}
theorem AJ(h : ∀b∈bs,ZN ((m+1:Nat):Int) b):bs=(MB bs.length).map λj=>((bS bs j:Int),(bE bs j:Int)):=by
 apply OI;intro j;by_cases z:j<bs.length
 ·rw[(lQ h z).1];simp[z]
 ·rw[List.getElem?_eq_none ⋯,List.getElem?_eq_none (by simpa using z)]
end
section
variable{p:Int}{w:UK}{wd:UX}{T:UW}{m N:Nat}{A:Nat->f7}
theorem aN{M:Nat}{K I:List (Nat×Nat)}(C : ∀x,x∈K->x∈stN M)(J : ∀x,x∈I->x∈stN M)(h : ∀a b:Nat,a<=b->b<M->mm K a b=mm I a b){s:Nat×Nat}(S:s.1<=s.2):ro K s=ro I s:=by
 have z : ∀{L:List (Nat×Nat)} {a b:Int},(∀x,x∈L->x∈stN M)->a<0\/(M:Int)<=b->mm L a b=0:=λ{L a b} U Y=>by unfold mm;rw[Rc];intro x d q;have:=L1.mp<|U x d;simp only[MW,decide_eq_true_eq]at q;omega
 have O : ∀{a b:Int},a<=b->mm K a b=mm I a b:=λ{a b} Y=>by
  by_cases c:a<0\/(M:Int)<=b
  ·rw[z C c,z J c]
  ·have:=h a.toNat b.toNat ⋯ ⋯
   rw[G9 ⋯,G9 ⋯]at this;exact this
 have e:=QJ s K;have f:=QJ s I;rw[O ⋯,O ⋯,O ⋯,O ⋯]at e;omega
end
section
variable{p:Int}{w:UK}{wd:UX}{T:UW}{m N N':Nat}{A A':Nat->f7}{d n:Nat}
noncomputable def DB(w:UK)(A:Nat->f7)(d n:Nat)(z:Bool)(j:Nat):Bool:=(A j).has d && ((!z && (A j).has (d+n)) || (!(A j).has (d+n) && !w ((A j).s+(A j).n - 1)))
noncomputable def C1(w:UK)(A:Nat->f7)(d n:Nat)(z:Bool)(j:Nat):Vc:=if DB w A d n z j=d7 then (A j).v d else λ_=>0
theorem uL(D:l4 p w wd T m N A)(C:d+n<=m){z:Bool}{j:Nat}(O:j<N) : ∃y:Vc,Wk p w wd T d n (C1 w A d n z j) y/\(z=d7->∀i,y i=0):=by
 unfold C1;by_cases h:DB w A d n z j=d7
 ·rw[UJ h]
  unfold DB at h;simp only[MW,tx,OR]at h;obtain⟨a,b⟩:=h;rcases b with⟨U,I⟩ | ⟨I,Y⟩
  ·exact⟨_,Js (D.ok j O) a n C I,λq=>by rw[q]at U;cases U⟩
  ·exact⟨_,WR (D.ok j O) a Y n C I,λ_ _=>rfl⟩
 ·rw[UY h];exact⟨_,Xf n,λ_ _=>rfl⟩
theorem KF(D:l4 p w wd T m N A)(C:d+n<=m)(z:Bool)(u:Vc):Span p (wd d) (eF N<|C1 w A d n z) u ↔ ∃y:Vc,Wk p w wd T d n u y/\(z=d7->∀i,y i%p=0):=by
 constructor
 ·intro h
  induction h with
  | zero h=>exact⟨_,rj (Xf n) λi l=>by rw[h i l];simp,λ_ _=>by simp⟩
  | step x _ e B=>
   obtain⟨y,f,k⟩:=B;obtain⟨j,U,rfl⟩:=x;obtain⟨G,g1,g2⟩:=uL D C (z:=z) U;refine⟨_,rj (mh n _ f g1) e,λq i=>?_⟩;rw[g2 q i,Pj,OY];exact k q i
 ·rintro⟨y,f,k⟩
  obtain⟨a,o⟩:=D.sp d ⋯ u;obtain⟨b,Y,r⟩ : ∃b:Vc,(∀i,i<wd (d+n)->y i%p=zg (λj=>if (A j).has (d+n)=d7 then b j*(A j).v (d+n) i else 0) N%p)/\(z=d7->∀j,b j=0):=by
   cases z with
   | false=>
    obtain⟨b,Y⟩:=D.sp (d+n) C y;exact⟨b,Y,λq=>nomatch q⟩
   | true=>exact⟨λ_=>0,λi _=>by rw[k rfl i,zw (g:=λ_=>0) λj _=>by simp,zR];simp,λ_ _=>rfl⟩
  have t:=Zo D n C f o Y;refine(Span.sum (u:=C1 w A d n z) a (m:=N) λj U=> .gen ⟨j,U,rfl⟩).congr λi l=>?_;rw[o i l];refine zQ λj U=>?_;unfold C1;by_cases O:(A j).has d=d7
  ·obtain⟨E,F⟩:=t j U O
   rw[UJ O];by_cases I:DB w A d n z j=d7
   ·rw[UJ I]
   ·rw[UY I,Pj]
    have:a j%p=0:=by
     unfold DB at I;rw[O]at I;cases h4:(A j).has (d+n)with
     | true=>
      rw[h4]at I;cases z with
      | true=>rw[E h4,r rfl j];simp
      | false=>simp at I
     | false=>
      rw[h4]at I;cases h5:w ((A j).s+(A j).n - 1)with
      | true=>exact F h4 h5
      | false=>rw[h5]at I;simp at I
    rw[MO,this];simp
  ·have:DB w A d n z j=eh:=by unfold DB;rw[Bool.not_eq_true]at O;rw[O];rfl
   rw[UY O,this];simp
theorem Ay(I:Pr p)(D:l4 p w wd T m N A)(U:l4 p w wd T m N' A'){a b:Nat}(Y:a<=b)(O:b<=m):mm (KQ A N) a b=mm (KQ A' N') a b:=by obtain⟨n,rfl⟩ : ∃n,b=a+n:=⟨b - a,by omega⟩;obtain⟨s,_,B,l,e,r⟩:=wA (n:=wd a) I N<|C1 w A a n eh;obtain⟨q,_,j,C,d,o⟩:=wA (n:=wd a) I N<|C1 w A a n d7;have g : ∀u,Span p (wd a) (eF s B) u ↔ ∃z,Wk p w wd T a n u z:=λu=>(r u).trans ((KF D O eh u).trans ⟨λ⟨y,h,_⟩=>⟨y,h⟩,λ⟨y,h⟩=>⟨y,h,λq=>nomatch q⟩⟩);have f : ∀u,Span p (wd a) (eF q j) u↔Wk p w wd T a n u λ_=>0:=λu=>(o u).trans ((KF D O d7 u).trans ⟨λ⟨y,h,k⟩=>mf h λi _=>by rw[k rfl i];simp,λh=>⟨_,h,λ_ _=>by simp⟩⟩);have t:=wV I D O e g d f;have x:=wV I U O e g d f;rw[<- Vx D Y,<- Vx U Y];omega
theorem gd(U:Pr p)(D:l4 p w wd T m N A)(I:l4 p w wd T m N' A'):(KQ A N).Perm (KQ A' N'):=by
 refine List.perm_iff_count.mpr λs=>?_;have e : ∀K:List (Nat×Nat),K.count s=ro K s:=λK=>by unfold ro List.count;exact Oz λx _=>by simp
 rw[e,e];by_cases O:s.1<=s.2
 ·exact aN (M:=m+1) (vf D) (vf I) (λa b d g=>Ay U D I d ⋯) O
 ·have z : ∀K:List (Nat×Nat),(∀x,x∈K->x∈stN (m+1))->ro K s=0:=λK h=>by
   unfold ro;rw[Rc];intro x f q;have:=(L1.mp<|h x f).1;have q:=of_decide_eq_true q;rw[q]at this;exact O this
  rw[z _ (vf D),z _ (vf I)]
theorem Kc(U:Pr p)(C : ∀k,wd k<=8)(L:m<=5)(J : ∀k i j,k<m->i<fy w wd k->j<fA w wd k->0<=T k i j/\T k i j<p) :
 ∃(N:Nat) (A:Nat->f7) (ts us:List TB),N<=48/\l4 p w wd T m N A/\kQ (ql A N)=ql A N/\(∀b∈ql A N,ZN ((m+1:Nat):Int) b)/\(∀r,r<=m->il (ql A N) r=wd r)/\(∀t∈ts,vr p t)/\(∀t∈us,vr p t)/\qI [z9 p m w wd T]=dn (.val<|xi (ql A N) ts us)/\xP [z9 p m w wd T,xi (ql A N) ts us]=dn (.val<|.bl d7):=by
 obtain⟨N,A,g,R,Y,cnt,h,o,K⟩:=lP (T:=T) (w:=w) U C L J;have W : ∀j,j<N->1<=(A j).n:=λj z=>(Y j z).n1;have d : ∀r,r<=m->il (ql A N) r=wd r:=λr I=>by unfold il;rw[yf W,cnt _ I]
 have X:(ql A N).length=N:=by simp[ql]
 have E:l4 p w wd T m N A:=Ar U C Y cnt λr I v=>⟨app (g r) (wd r) v,λi a=>(Jb (h r I).1 v a).symm⟩;have e : ∀f:UW,xE m wd f=xE m (il<|ql A N) f:=λf=>by unfold xE;refine MQ λr I=>?_;have I:=MD.mp I;rw[d r ⋯]
 have P:z9 p m w wd T=z9 p m w (il<|ql A N) (jS p w (il<|ql A N) (λr=>qR A N r) g<|rb w<|ql A N):=by
  unfold z9;congr 1;have Q:(zD (m+1) λk=>(wd k:Int))=zD (m+1) λk=>(il (ql A N) k:Int):=qZ λr I=>by rw[d r ⋯]
  have H:jD m w wd T=jD m w (il<|ql A N) (jS p w (il<|ql A N) (λr=>qR A N r) g<|rb w<|ql A N):=by
   unfold jD;refine MQ λk O=>?_;have O:=MD.mp O;have G:zJ w k<=m:=by unfold zJ;split<;>omega
   have M:zX w k<=m:=by unfold zX;split<;>omega
   unfold qH;rw[QL,Jz,QL,Jz,d _ G,d _ M];congr 2;congr 1;exact K3 λi j a z=>rk U Y cnt (λr I=>(h r I).1) O a z (J k i j O (by rw[QL];exact a)<|by rw[Jz];exact z)
  rw[Q,H]
 have l : ∀k,il (ql A N) k<=60:=λk=>by have:=JW (ql A N) (k:Int);unfold il;omega
 have pr : ∀k,k<m+1->Pair p (il (ql A N) k) (qR A N k) (g k):=λk O=>by
  obtain⟨u1,u2,u3⟩:=h k ⋯;rw[d k ⋯];refine⟨λi j a z=>?_,λi j _ _=>u3 i j,u1,u2⟩;have F:j<(i4 A N k).length:=by rw[cnt k ⋯];exact z
  obtain⟨x,y⟩:=Wy F;exact(Y _ x).ly k i y a
 have B : ∀b∈ql A N,ZN ((m+1:Nat):Int) b:=λb S=>by obtain⟨j,z,rfl⟩:=Nb.mp S;have z:=MD.mp z;have x:=(Y j z).n1;have y:=(Y j z).le;unfold ZN Yl;dsimp only;omega
 have u:=XE (f:=g) l λk i j O a z=>(pr k O).bg i j a z;have s:=XE (f:=λr=>qR A N r) l λk i j O a z=>(pr k O).bf i j a z;refine⟨N,A,xE m wd g,xE m wd λr=>qR A N r,R,E,o,B,d,by rw[e g];exact u,by rw[e λr=>qR A N r];exact s,K,?_⟩;rw[P,e g,e λr=>qR A N r];rw[Xt U.pos U.le L l (λk i j _ _ _=>Kl U.pos _ _ _ _ _ _ _ _) ⋯ u s,V3 U B o pr]
theorem KA{bs:List (Int×Int)}(h : ∀b∈bs,ZN ((m+1:Nat):Int) b)(r:Nat):jc bs (r:Int)=bL bs r:=by
 unfold jc bL qC i4;refine Ts λj z=>?_;have z:=MD.mp z;obtain⟨e,a,d⟩:=lQ h z;have I:bs.getD j (0,0)=((bS bs j:Int),(bE bs j:Int)):=by rw[MI,e];rfl
 rw[I];show dF _ _=(decide (bS bs j<=r) && decide (r<bS bs j+(bE bs j - bS bs j+1)));unfold dF;dsimp only;congr 1
 ·exact decide_eq_decide.mpr ⋯
 ·exact decide_eq_decide.mpr ⋯
end
theorem pJ:qE=jk 8 (zL (xq 2<|qG zB)<|zL (yN (z6<|zG qo (yX<|zc 0)<|zq<|.int 1) (.nm 3)<|qe 2<|j3 lG)<|zL (mC 2<|xq 4<|qG zB)<|zL (yN (z6<|yX<|zc 0) (.nm 5) pL) AG):=rfl
section
variable{p:Int}{m:Nat}{w:UK}{bs:List (Int×Int)}
theorem sZ(h : ∀b∈bs,ZN ((m+1:Nat):Int) b)(k:Nat):((jc bs<|zX w k).map λx=>D.lst<|(jc bs<|zJ w k).map λy=>D.int<|if x=y then 1 else 0)=qF (fy w (bW bs) k) (fA w (bW bs) k) (bT w bs k):=by
 rw[KA h,KA h];unfold qF;rw[<- vW,<- Zn]
 conv=>lhs;rw[<- je bs.length (bL bs<|zX w k),Nm]
 refine MQ λi a=>?_;show D.lst ((bL bs<|zJ w k).map λy=>D.int<|if (bL bs<|zX w k).getD i bs.length=y then 1 else 0)=D.lst (zD _ _);congr 1;rw[z5]
 conv=>lhs;rw[<- je (bs.length+1) (bL bs<|zJ w k),Nm]
 rfl
theorem VL(S:m<=5)(hb:bs.length<64)(h : ∀b∈bs,ZN ((m+1:Nat):Int) b):qE [.str (jW m w),.lst (zH bs)]=dn (.val<|yx m w (bW bs)<|bT w bs):=by
 have hl:=js;have G:m<=lim:=by omega
 have p:bs.length<=lim:=by omega
 have wl:=wc m w;have t:=k8 w (show m<=1000 by omega);have E : ∀r:Int,(jc bs r).length<=lim:=λr=>by have:=JW bs r;omega
 let N:Nat->List D:=λs=>(MB s).map λ(r:Nat)=>D.lst<|XX<|jc bs (r:Int);let γ:Cell->Cell->Cell->Cell->Cell->Cell->Ctx:=λI z K j a d=>[.val (.str<|jW m w),.val<|.lst<|zH bs,I,z,K,j,a,d];have one : ∀(s:Nat) I,lG (γ I (.val<|.int (s:Int)) .no .no .no .no)=dn (XX<|jc bs (s:Int)):=λs I=>by
  have o:zT (.nm 0) (sB<|kH lx lx (eg (zE<|eg (ze 1)<|zc 0)<|zq<|.int 0) (zc 2)<|eg (zE<|eg (ze 1)<|zc 0)<|zq<|.int 1) (zc 0) [Cell.no,.val<|.lst<|zH bs,.val (.int (s:Int))] ((MB bs.length).map λ(i:Nat)=>D.int i)=dn (((MB bs.length).filter λi=>dF (bs.getD i (0,0)) s).map λ(i:Nat)=>D.int i):=by
   refine jB _ _ _ λi n=>⟨_,rfl,?_,λ_=>rfl⟩;have n:=MD.mp n;have e:(zH bs)[i]? = dn (D.tup [.int (bs.getD i (0,0)).1,.int (bs.getD i (0,0)).2]):=by unfold zH;rw[Nw,MI,MF n];rfl
   have C:zE (eg (ze 1)<|zc 0) [Cell.val (D.int (i:Int)),.val<|.lst<|zH bs,.val (.int (s:Int))]=dn (.T,[.int (bs.getD i (0,0)).1,.int (bs.getD i (0,0)).2]):=by rw[show zE (eg (ze 1)<|zc 0) [Cell.val (D.int (i:Int)),.val<|.lst<|zH bs,.val (.int (s:Int))]=((h6 (zH bs).length (i:Int)).bind λk=>(zH bs)[k]?).bind jq from rfl,Xb,qh,UJ n];show((zH bs)[i]?).bind jq=_;rw[e];rfl
   show sB (kH lx lx (eg (zE<|eg (ze 1)<|zc 0)<|zq<|.int 0) (zc 2)<|eg (zE<|eg (ze 1)<|zc 0)<|zq<|.int 1) [Cell.val (D.int (i:Int)),.val<|.lst<|zH bs,.val (.int (s:Int))]=_;have u:eg (zE<|eg (ze 1)<|zc 0) (zq<|.int 0) [Cell.val (D.int (i:Int)),.val<|.lst<|zH bs,.val (.int (s:Int))]=dn (.int (bs.getD i (0,0)).1):=by rw[kc,C];rfl
   have A:eg (zE<|eg (ze 1)<|zc 0) (zq<|.int 1) [Cell.val (D.int (i:Int)),.val<|.lst<|zH bs,.val (.int (s:Int))]=dn (.int (bs.getD i (0,0)).2):=by rw[kc,C];rfl
   generalize bs.getD i (0,0)=b at u A;simp[-kc,u,A,dF];by_cases q:b.1<=(s:Int)<;>simp[q]
  unfold lG;rw[jM,show z6 (km<|ze 1) (γ I (.val<|.int (s:Int)) .no .no .no .no)=dn ((MB bs.length).map λ(i:Nat)=>D.int i)by
   have r:inR (bs.length:Int)=d7:=ZC p;simp[γ,r,jX];rw[z5]]
  simp only[MG,Nf,NI,p,if_true];exact o
 obtain⟨γ1,X,z,rfl⟩:=xK (T:= .nm 3) (F:=qe 2<|j3 lG) (f:=zG qo (yX<|zc 0)<|zq<|.int 1)
  (λs γ'=>∃z,γ'=γ (.own<|N s) z .no .no .no .no) (m+1) ⋯ (γ:=γ (.own []) .no .no .no .no .no) (by simp[γ,wl,t]) ⟨.no,rfl⟩ (by
    rintro s U γ' ⟨z,rfl⟩;refine⟨γ (.own<|N s) (.val<|.int (s:Int)) .no .no .no .no,γ (.own<|N<|s+1) (.val<|.int (s:Int)) .no .no .no .no,rfl,?_,_,rfl⟩;have Y:(N s).length<lim:=by simp[N];omega
    rw[qV,yo,one];show(if (N s).length<lim then _ else ed)=_;rw[UJ Y];show dn (Fl.next<|γ (.own<|N s++[D.lst (XX<|jc bs (s:Int))]) _ _ _ _ _)=_;rw[<- yt s λ(r:Nat)=>D.lst (XX<|jc bs (r:Int))])
 have Y:(N<|m+1).length=m+1:=by simp[N]
 have W : ∀{r:Nat},r<m+1->(N<|m+1)[r]? = dn (D.lst<|XX<|jc bs (r:Int)):=λ{r} O=>by show((MB<|m+1).map _)[r]? = _;rw[Nw,OT O];rfl
 have B : ∀{r:Nat},r<m+1->((h6 (N<|m+1).length (r:Int)).bind λk=>(N<|m+1)[k]?).bind jq=dn (.L,XX<|jc bs (r:Int)):=λ{r} O=>by rw[Y,qh,UJ O];show((N<|m+1)[r]?).bind jq=_;rw[W O];rfl
 obtain⟨_o,Z,j,a,d,rfl⟩:=xK (T:= .nm 5) (F:=pL) (f:=yX<|zc 0)
  (λs γ'=>∃j a d,γ'=γ (.val<|.lst<|N<|m+1) z (.own<|qP s w (bW bs)<|bT w bs) j a d) m G (γ:=γ (.val<|.lst<|N<|m+1) z (.own []) .no .no .no) (by simp[γ,wl,t]) ⟨.no,.no,.no,rfl⟩ (by
    rintro s U γ' ⟨j,a,d,rfl⟩;have P:=yL (w:=w) S U;have Q:=WG (w:=w) U;have R:=WQ (w:=w) U;let g:=γ (.val<|.lst<|N<|m+1) z (.own<|qP s w (bW bs)<|bT w bs) (.val<|.int (s:Int)) (.val<|.int (zJ w s:Nat))<|.val<|.int (zX w s:Nat);refine⟨γ (.val<|.lst<|N<|m+1) z (.own<|qP s w (bW bs)<|bT w bs) (.val<|.int (s:Int)) a d,γ (.val<|.lst<|N<|m+1) z (.own<|qP (s+1) w (bW bs)<|bT w bs) (.val<|.int (s:Int)) (.val<|.int (zJ w s:Nat))<|.val<|.int (zX w s:Nat),rfl,?_,_,_,_,rfl⟩;unfold pL;refine zo (γ':=g) (by simp[g,γ,P]) ?_;have lt:(qP s w (bW bs)<|bT w bs).length<lim:=by simp[qP];omega
    have o:zT (.nm 0) jd AE [Cell.no,.val<|.lst<|N<|m+1,.val (.int (zJ w s:Nat))] (XX<|jc bs (zX w s:Nat))=dn ((jc bs (zX w s:Nat)).map λx=>D.lst<|(jc bs (zJ w s:Nat)).map λy=>D.int<|if x=y then 1 else 0):=by
     unfold XX;refine zv _ _ λx hx=>zx (γ1:=[.val (.int (x:Int)),.val<|.lst<|N<|m+1,.val (.int (zJ w s:Nat))]) rfl rfl ?_;unfold AE;have l:zK (zE<|eg (ze 1)<|zc 2) [Cell.val (.int (x:Int)),.val<|.lst<|N<|m+1,.val (.int (zJ w s:Nat))]=dn (XX<|jc bs (zJ w s:Nat)):=by show(((h6 (N<|m+1).length ((zJ w s:Nat):Int)).bind λk=>(N<|m+1)[k]?).bind jq).map (·.2)=_;rw[B R];rfl
     rw[yo,jM,l];simp only[MG,Ji,E,if_true];rw[show ja 1 [0] [Cell.val (.int (x:Int)),.val<|.lst<|N<|m+1,.val (.int (zJ w s:Nat))]=[Cell.no,.val (.int (x:Int))]from rfl,ik];rfl
    have M:AF g=dn ((jc bs (zX w s:Nat)).map λx=>D.lst<|(jc bs (zJ w s:Nat)).map λy=>D.int<|if x=y then 1 else 0):=by
     unfold AF;have l:zK (zE<|eg (ze 2)<|zc 7) g=dn (XX<|jc bs (zX w s:Nat)):=by show(((h6 (N<|m+1).length ((zX w s:Nat):Int)).bind λk=>(N<|m+1)[k]?).bind jq).map (·.2)=_;rw[B Q];rfl
     rw[jM,l];simp only[MG,Ji,E,if_true];exact o
    rw[qV,yo,M,sZ h];show(if (qP s w (bW bs)<|bT w bs).length<lim then _ else ed)=_;rw[UJ lt];show dn (Fl.next<|γ _ _ (.own<|qP s w (bW bs) (bT w bs)++[D.lst (qF (fy w (bW bs) s) (fA w (bW bs) s)<|bT w bs s)]) _ _ _)=_;unfold qP;rw[<- yt s λk=>D.lst (qF (fy w (bW bs) k) (fA w (bW bs) k)<|bT w bs k)])
 rw[pJ];refine jl<|zo (γ':=γ (.own []) .no .no .no .no .no) rfl<|zo X<|zo (γ':=γ (.val<|.lst<|N<|m+1) z (.own []) .no .no .no) rfl<|zo Z ?_;have H:zT (.nm 0) jd (km<|ze 0) [Cell.no] (N<|m+1)=dn (zD (m+1) λk=>(bW bs k:Int)):=by
  rw[z5];refine zv _ _ λr O=>zx (γ1:=[.val (D.lst<|XX<|jc bs (r:Int))]) rfl rfl ?_;have e:(jc bs (r:Int)).length=bW bs r:=by rw[KA h];rfl
  show dn (D.int ((XX<|jc bs (r:Int)).length:Int))=_;rw[Ji,e]
 have J:m+1<=lim:=by omega
 have l2:2<=lim:=by omega
 unfold AG;show j5 _ (γ (.val<|.lst<|N<|m+1) z (.val<|.lst<|qP m w (bW bs)<|bT w bs) j a d)=_;have v:zM (zK<|ze 2) (.nm 0) 1 [] jd (km<|ze 0) (γ (.val<|.lst<|N<|m+1) z (.val<|.lst<|qP m w (bW bs)<|bT w bs) j a d)=dn (zD (m+1) λk=>(bW bs k:Int)):=by rw[jM,show zK (ze 2) (γ (.val<|.lst<|N<|m+1) z (.val<|.lst<|qP m w (bW bs)<|bT w bs) j a d)=dn (N<|m+1)from rfl];simp only[MG,Y,J,if_true];exact H
 rw[yn,ym,jb,yo,v];simp[γ,yx]
end
theorem mV:jQ=jk 6 (zL (xq 4<|qG zB)<|zL (yN (zK<|zE<|zc 1) (.nm 5)<|qe 4<|j3 bR)<|Xs 4):=rfl
theorem oJ{h w:Nat}{f g:UV}(e : ∀i j,i<h->j<w->f i j=g i j):qF h w f=qF h w g:=by unfold qF;refine MQ λi a=>?_;rw[qZ λj z=>e i j (MD.mp a) z]
section
variable{p:Int}{h n w:Nat}{f g:UV}
theorem eD(L:0<p)(p7:p<=7)(S:h<=60)(Z:n<=60)(hw:w<=60)(J : ∀i k,i<h->k<n->0<=f i k/\f i k<p):jQ [.int p,.lst<|qF h n f,.lst<|qF n w g,.int (w:Int)]=dn (.own<|qF h w λi j=>zg (λk=>f i k*g k j) n%p):=by
 have N:=js;have U:n<=lim:=by omega
 have Y:w<=lim:=by omega
 have E : ∀i j:Nat,i<h->j<w->sV [.val (.int (j:Int)),.val<|.int p,.val<|.lst<|qF n w g,.val (.lst<|zD n<|f i)]=dn (zD n λk=>f i k*g k j):=λi j u O=>by
  have l:z6 (km<|ze 3) [Cell.val (.int (j:Int)),.val<|.int p,.val<|.lst<|qF n w g,.val (.lst<|zD n<|f i)]=dn ((MB n).map λ(k:Nat)=>D.int (k:Int)):=by have r:inR (n:Int)=d7:=ZC U;simp[r,jX];rw[z5]
  unfold sV;rw[jM,l];simp only[MG,Nf,NI,U,if_true];rw[show ja 1 [0,2,3] [Cell.val (.int (j:Int)),.val<|.int p,.val<|.lst<|qF n w g,.val (.lst<|zD n<|f i)]=[Cell.no,.val<|.int (j:Int),.val<|.lst<|qF n w g,.val (.lst<|zD n<|f i)]from rfl,z5];refine zv _ _ λk z=>zx (γ1:=[.val (.int (k:Int)),.val<|.int (j:Int),.val<|.lst<|qF n w g,.val (.lst<|zD n<|f i)]) rfl rfl ?_;have z:=MD.mp z;have B:eg (ze 3) (zc 0) [Cell.val (.int (k:Int)),.val<|.int (j:Int),.val<|.lst<|qF n w g,.val (.lst<|zD n<|f i)]=dn (.int<|f i k):=by show((h6 (zD n<|f i).length (k:Int)).bind λx=>(zD n<|f i)[x]?)=_;rw[Jl,qh,UJ z];exact vD _ z
  have C:eg (zE<|eg (ze 2)<|zc 0) (zc 1) [Cell.val (.int (k:Int)),.val<|.int (j:Int),.val<|.lst<|qF n w g,.val (.lst<|zD n<|f i)]=dn (.int<|g k j):=by
   show((((h6 (qF n w g).length (k:Int)).bind λx=>(qF n w g)[x]?).bind jq).bind λa=>((dn (D.int (j:Int))).bind ml).bind λi=>(h6 a.2.length i).bind λx=>a.2[x]?)=_;have e:(qF n w g)[k]? = dn (D.lst<|zD w<|g k):=by unfold qF;rw[Nw,OT z];rfl
   rw[Jj,qh,UJ z];show((((qF n w g)[k]?).bind jq).bind _)=_;rw[e];show((h6 (zD w<|g k).length (j:Int)).bind λx=>(zD w<|g k)[x]?)=_;rw[Jl,qh,UJ O];exact vD _ O
  have b:=J i k u z;have c:Kb (f i k) (g k j)=d7:=w6 _ _ ⋯ ⋯;rw[kY,B,C];simp[c]
 have row : ∀i:Nat,i<h->∀I,bR [.val (.int p),.val<|.lst<|qF h n f,.val<|.lst<|qF n w g,.val<|.int (w:Int),I,.val (.lst<|zD n<|f i)]=dn (zD w λj=>zg (λk=>f i k*g k j) n%p):=λi u I=>by
  have l:z6 (zc 3) [.val (.int p),.val<|.lst<|qF h n f,.val<|.lst<|qF n w g,.val<|.int (w:Int),I,.val (.lst<|zD n<|f i)]=dn ((MB w).map λ(k:Nat)=>D.int (k:Int)):=by have r:inR (w:Int)=d7:=ZC Y;simp[r,jX];rw[z5]
  unfold bR;rw[jM,l];simp only[MG,Nf,NI,Y,if_true];rw[show ja 1 [0,2,5] [Cell.val (.int p),.val<|.lst<|qF h n f,.val<|.lst<|qF n w g,.val<|.int (w:Int),I,.val (.lst<|zD n<|f i)]=[Cell.no,.val<|.int p,.val<|.lst<|qF n w g,.val (.lst<|zD n<|f i)]from rfl,z5];refine zv _ _ λj O=>zx (γ1:=[.val (.int (j:Int)),.val<|.int p,.val<|.lst<|qF n w g,.val (.lst<|zD n<|f i)]) rfl rfl ?_;have e:=E i j u<|MD.mp O;rw[kY,ZM,xy,e];simp[x6,L]
 let m:Cell->Cell->Ctx:=λI o=>[.val (.int p),.val<|.lst<|qF h n f,.val<|.lst<|qF n w g,.val<|.int (w:Int),I,o];obtain⟨γ1,e,o,rfl⟩:=QP (T:= .nm 5) (F:=qe 4<|j3 bR) (λs γ'=>∃o,γ'=m (.own<|(MB s).map λi=>D.lst<|zD w λj=>zg (λk=>f i k*g k j) n%p) o) (qF h n f) 0 (m (.own []) .no) ⟨.no,rfl⟩ (by
  rintro s d γ' t ⟨o,rfl⟩;rw[NA]at *;obtain⟨G,rfl⟩:s<h/\d=D.lst (zD n<|f s):=by unfold qF at t;rw[Nw]at t;obtain⟨P,K,M⟩:=Option.map_eq_some_iff.mp t;obtain⟨y,A⟩:=MU.mp K;rw[NI]at y;rw[List.getElem_range]at A;subst A;exact⟨y,M.symm⟩
  refine⟨m (.own<|(MB<|s+1).map λi=>D.lst<|zD w λj=>zg (λk=>f i k*g k j) n%p)<|.val<|.lst<|zD n<|f s,.inl ?_,_,rfl⟩;show qe 4 (j3 bR) (m (.own<|(MB s).map λi=>D.lst<|zD w λj=>zg (λk=>f i k*g k j) n%p)<|.val<|.lst<|zD n<|f s)=_;have H:((MB s).map λi=>D.lst<|zD w λj=>zg (λk=>f i k*g k j) n%p).length<lim:=by simp;omega
  rw[qV,yo,row s G];show(if _<lim then _ else ed)=_;rw[UJ H,yt s λi=>D.lst (zD w λj=>zg (λk=>f i k*g k j) n%p)];rfl)
 rw[mV];refine jl<|zo (γ':=m (.own []) .no) rfl<|zo (γ':=m (.own<|qF h w λi j=>zg (λk=>f i k*g k j) n%p) o) ?_ rfl;rw[Zj,show zK (zE<|zc 1) (m (.own []) .no)=dn (qF h n f)from rfl];rw[NA,Jj]at e;exact e
end
theorem nB:kf=jk 13 (zL (wy (.tp [5,6])<|zA qE<|zb (zc 3)<|zb (zc 4) zB)<|zL (xq 7<|qG zB)<|zL (yN (z6<|km<|ze 5) (.nm 8) nA)<|zL (xq 9<|qG zB)<|zL (yN (z6<|yX<|zc 3) (.nm 8) nC)<|mC 9<|j5<|qA<|zb (zc 5)<|zb (zc 9) zB):=rfl
section
variable{ns:List Int}{p:Int}{m:Nat}{w:UK}{bs:List (Int×Int)}
theorem BU(ak:ns.length<=63)(J:Pr p)(hm:m<=5)(hb:bs.length<=16)(h : ∀b∈bs,ZN ((m+1:Nat):Int) b){a:Int}(h0:0<=a)(S:a<=1000) :
 ∃f g:UW,(∀k,k<m+1->Pair p (bW bs k) (f k) (g k))/\kf [XB ns,.int a,.int p,.str<|jW m w,.lst (zH bs)]=dn (.val<|yx m w (bW bs)<|jS p w (bW bs) f g<|bT w bs):=by
 have hl:=js;have am:m+1<=lim:=by omega
 have p0:=J.pos;have p7:=J.le;have L : ∀k,bW bs k<=16:=λk=>by
  have:bW bs k<=bs.length:=by unfold bW mE qC;exact Of (PF _ _) ⋯
  omega
 have hT : ∀k i j,0<=bT w bs k i j/\bT w bs k i j<p:=λk i j=>oK J k i j;have bt:=VL (w:=w) hm (show bs.length<64 by omega) h;generalize bW bs=o at *;generalize bT w bs=T at *;have ar : ∀k:Nat,∃E:(Nat->Nat->Int)×(Nat->Nat->Int),k<m+1->Pair p (o k) E.1 E.2/\qz [XB ns,.int<|a+9*(k:Int),.int p,.int (o k:Nat)]=dn (.val<|.tup [.lst (jx (o k) E.1),.lst (jx (o k) E.2)]):=λk=>by
  by_cases Y:k<m+1
  ·obtain⟨f,g,S,h2⟩:=Bo ak J (n:=o k) (by have:=L k;omega) (show(0:Int)<=a+9*(k:Int)by omega) ⋯
   exact⟨(f,g),λ_=>⟨S,h2⟩⟩
  ·exact⟨(λ_ _=>0,λ_ _=>0),λh=>absurd h Y⟩
 obtain⟨z,G⟩:=Rb ar;refine⟨λk=>(z k).1,λk=>(z k).2,λk Y=>(G k Y).1,?_⟩;let W:List D:=zD (m+1) λk=>(o k:Int);let A:List D:=qP m w o T;let U:Nat->List D:=λs=>(MB s).map λk=>D.tup [.lst (jx (o k) (z k).1),.lst (jx (o k) (z k).2)];let Z:Nat->List D:=λs=>qP s w o<|jS p w o (λk=>(z k).1) (λk=>(z k).2) T;let γ:Cell->Cell->Cell->Cell->Cell->Cell->Ctx:=λc7 y K t u I=>[.val (XB ns),.val<|.int a,.val<|.int p,.val<|.str<|jW m w,.val<|.lst<|zH bs,.val<|.lst W,.val<|.lst A,c7,y,K,t,u,I];have wl:=wc m w;have as:=k8 w (show m<=1000 by omega);have X:W.length=m+1:=by simp[W]
 have M : ∀{r:Nat},r<m+1->((h6 W.length (r:Int)).bind λk=>W[k]?)=dn (.int (o r:Int)):=λ{r} C=>by rw[X,qh,UJ C];exact vD _ C
 have R : ∀s,(U s).length=s:=λs=>by simp[U]
 have Q : ∀{r:Nat},r<m+1->((h6 (U<|m+1).length (r:Int)).bind λk=>(U<|m+1)[k]?).bind jq=dn (.T,[.lst (jx (o r) (z r).1),.lst (jx (o r) (z r).2)]):=λ{r} C=>by
  rw[R,qh,UJ C];show((U<|m+1)[r]?).bind jq=_;rw[show(U<|m+1)[r]? = dn (D.tup [.lst (jx (o r) (z r).1),.lst (jx (o r) (z r).2)])by
   show((MB<|m+1).map _)[r]? = _;rw[Nw,OT C];rfl]
  rfl
 have iA : ∀{k:Nat},k<m->((h6 A.length (k:Int)).bind λx=>A[x]?)=dn (.lst<|qF (o<|zX w k) (o<|zJ w k)<|T k):=λ{k} Y=>by rw[show A.length=m by simp[A,qP],qh,UJ Y,vW w o k,Zn w o k];show((MB m).map _)[k]? = _;rw[Nw,OT Y];rfl
 obtain⟨γ1,s3,y,rfl⟩:=xK (T:= .nm 8) (F:=nA) (f:=km<|ze 5) (λs γ'=>∃y,γ'=γ (.own<|U s) y .no .no .no .no) (m+1) am (γ:=γ (.own []) .no .no .no .no .no) (by
  show dn (D.int (W.length:Int))=_;rw[X]) ⟨.no,rfl⟩ (by
  rintro s B γ' ⟨y,rfl⟩;refine⟨γ (.own<|U s) (.val<|.int (s:Int)) .no .no .no .no,γ (.own<|U<|s+1) (.val<|.int (s:Int)) .no .no .no .no,rfl,?_,_,rfl⟩;have e:=(G s B).2;have K:Kb 9 (s:Int)=d7:=w6 _ _ ⋯ ⋯;have lu:(U s).length<lim:=by rw[R];omega
  have v:zA qz (zb (zc 0)<|zb (zG qo (zc 1)<|zG yG (zq<|.int 9)<|zc 8)<|zb (zc 2)<|zb (eg (ze 5)<|zc 8) zB) (γ (.own<|U s) (.val<|.int (s:Int)) .no .no .no .no)=dn (.tup [.lst (jx (o s) (z s).1),.lst (jx (o s) (z s).2)]):=by
   have i:eg (ze 5) (zc 8) (γ (.own<|U s) (.val<|.int (s:Int)) .no .no .no .no)=dn (.int (o s:Int)):=M B;have j:zG qo (zc 1) (zG yG (zq<|.int 9)<|zc 8) (γ (.own<|U s) (.val<|.int (s:Int)) .no .no .no .no)=dn (.int<|a+9*(s:Int)):=by simp[γ,K]
   rw[xM,jb,jb,jb,jb,i,j];show(qz [XB ns,.int<|a+9*(s:Int),.int p,.int (o s:Int)]).map mD=_;rw[e];rfl
  unfold nA;rw[qV,v];show(if (U s).length<lim then _ else ed)=_;rw[UJ lu];show dn (Fl.next<|γ (.own<|U s++[D.tup [.lst (jx (o s) (z s).1),.lst (jx (o s) (z s).2)]]) _ _ _ _ _)=_;rw[<- yt s λk=>D.tup [.lst (jx (o k) (z k).1),.lst (jx (o k) (z k).2)]])
 obtain⟨_o,s5,y,t,u,I,rfl⟩:=xK (T:= .nm 8) (F:=nC) (f:=yX<|zc 3) (λs γ'=>∃y t u I,γ'=γ (.own<|U<|m+1) y (.own<|Z s) t u I) m ⋯ (γ:=γ (.own<|U<|m+1) y (.own []) .no .no .no) (by simp[γ,wl,as]) ⟨y,.no,.no,.no,rfl⟩ (by
  rintro s B γ' ⟨y,t,u,I,rfl⟩;have en:=yL (w:=w) hm B;have r1:=WG (w:=w) B;have N:=WQ (w:=w) B;let O:Cell->Ctx:=λI=>γ (.own<|U<|m+1) (.val<|.int (s:Int)) (.own<|Z s) (.val<|.int (zJ w s:Nat)) (.val<|.int (zX w s:Nat)) I;let H:Nat->Nat->Int:=λi j=>zg (λk=>T s i k*(z<|zJ w s).2 k j) (o<|zJ w s)%p;refine⟨γ (.own<|U<|m+1) (.val<|.int (s:Int)) (.own<|Z s) t u I,γ (.own<|U<|m+1) (.val<|.int (s:Int)) (.own<|Z<|s+1) (.val<|.int (zJ w s:Nat)) (.val<|.int (zX w s:Nat))<|.val<|.lst<|qF (o<|zX w s) (o<|zJ w s) H,rfl,?_,_,_,_,_,rfl⟩;have q1:=L<|zX w s;have q2:=L<|zJ w s;have b8:=eD (h:=o<|zX w s) (n:=o<|zJ w s) (w:=o<|zJ w s) (f:=T s) (g:=(z<|zJ w s).2) p0 p7 ⋯ ⋯ ⋯<|λi k _ _=>hT s i k;have b9:=eD (h:=o<|zX w s) (n:=o<|zX w s) (w:=o<|zJ w s) (f:=(z<|zX w s).1) (g:=H) p0 p7 ⋯ ⋯ ⋯<|λi k hi Y=>(G _ r1).1.bf i k hi Y;unfold nC;refine zo (γ':=O I) (by simp[O,γ,en])<|zo (γ':=O<|.val<|.lst<|qF (o<|zX w s) (o<|zJ w s) H) ?_ ?_
  ·have x1:eg (ze 6) (zc 8) (O I)=dn (.lst<|qF (o<|zX w s) (o<|zJ w s)<|T s):=iA B
   have x2:eg (zE<|eg (ze 7)<|zc 10) (zq<|.int 1) (O I)=dn (.lst<|jx (o<|zJ w s) (z<|zJ w s).2):=by rw[kc,show zE (eg (ze 7)<|zc 10) (O I)=_ from Q N];rfl
   have x3:eg (ze 5) (zc 10) (O I)=dn (.int (o (zJ w s):Int)):=M N;unfold BO;rw[Zi,yo,Yc,jb,jb,jb,jb,x1,x2,x3];show((((jQ [.int p,.lst<|qF (o<|zX w s) (o<|zJ w s)<|T s,.lst<|jx (o<|zJ w s) (z<|zJ w s).2,.int (o (zJ w s):Int)]).bind BX).map D.lst).map λd=>Fl.next<|(O I).set 12 (.val d))=_;rw[show jQ [.int p,.lst<|qF (o<|zX w s) (o<|zJ w s)<|T s,.lst<|jx (o<|zJ w s) (z<|zJ w s).2,.int (o (zJ w s):Int)]=dn (.own<|qF (o<|zX w s) (o<|zJ w s) H)from b8];rfl
  ·have x1:eg (zE<|eg (ze 7)<|zc 11) (zq<|.int 0) (O<|.val<|.lst<|qF (o<|zX w s) (o<|zJ w s) H)=dn (.lst<|jx (o<|zX w s) (z<|zX w s).1):=by
    rw[kc,show zE (eg (ze 7)<|zc 11) (O<|.val<|.lst<|qF (o<|zX w s) (o<|zJ w s) H)=_ from Q r1];rfl
   have x3:eg (ze 5) (zc 10) (O<|.val<|.lst<|qF (o<|zX w s) (o<|zJ w s) H)=dn (.int (o (zJ w s):Int)):=M N;have lz:(Z s).length<lim:=by simp[Z,qP];omega
   have be:(qF (o<|zX w s) (o<|zJ w s) λi j=>zg (λk=>(z<|zX w s).1 i k*H k j) (o<|zX w s)%p)=qF (fy w o s) (fA w o s) (jS p w o (λk=>(z k).1) (λk=>(z k).2) T s):=by rw[<- vW w o s,<- Zn w o s];refine oJ λi j _ _=>?_;show zg (λk=>(z<|zX w s).1 i k*(zg (λl=>T s k l*(z<|zJ w s).2 l j) (o<|zJ w s)%p)) (o<|zX w s)%p=_;rw[wm p (z<|zX w s).1 (T s) (z<|zJ w s).2 (o<|zX w s) (o<|zJ w s) i j];unfold jS;congr 2;funext b;rw[NX];congr 3;funext k;exact NX _ _
   unfold BN;rw[qV,yo,Yc,jb,jb,jb,jb,x1,x3];show(q8<|some (Cell.own<|Z s)).bind (λP=>(((jQ [.int p,.lst<|jx (o<|zX w s) (z<|zX w s).1,.lst<|qF (o<|zX w s) (o<|zJ w s) H,.int (o (zJ w s):Int)]).bind BX).map D.lst).bind λd=>if P.length<lim then dn (Fl.next<|(O<|.val<|.lst<|qF (o<|zX w s) (o<|zJ w s) H).set 9 (.own<|P++[d]))else ed)=_;rw[show jQ [.int p,.lst<|jx (o<|zX w s) (z<|zX w s).1,.lst<|qF (o<|zX w s) (o<|zJ w s) H,.int (o (zJ w s):Int)]=_ from b9,be];show(if (Z s).length<lim then dn (Fl.next<|γ _ _ (.own<|Z s++[D.lst (qF (fy w o s) (fA w o s)<|jS p w o (λk=>(z k).1) (λk=>(z k).2) T s)]) _ _ _)else ed)=_;rw[UJ lz,show Z s++[D.lst (qF (fy w o s) (fA w o s)<|jS p w o (λk=>(z k).1) (λk=>(z k).2) T s)]=Z (s+1)from(yt s _).symm])
 rw[nB];refine jl<|zo (γ':=γ .no .no .no .no .no .no) (by simp[z7,bt,yx,γ,W,A])<|zo (γ':=γ (.own []) .no .no .no .no .no) rfl<|zo s3<|zo (γ':=γ (.own<|U<|m+1) _ (.own []) .no .no .no) rfl<|zo s5 ?_;have l2:2<=lim:=by omega
 show j5 (qA<|zb (zc 5)<|zb (zc 9) zB) (γ (.own<|U<|m+1) y (.val<|.lst<|Z m) t u I)=_;simp[γ,W,Z,yx]
end
section
variable{p:Int}{m:Nat}{w:UK}{bs:List (Int×Int)}
abbrev o9(p:Int)(z:Str)(m:Nat)(bs:List (Int×Int)):Ctx:=[.val (.int p),.val (.str z),.val (.lst (zH bs)),.val (.int ((m+1:Nat):Int))]
end
section
variable{α β:Type}
theorem YD(f g:α->Int) : ∀L:List α,vt (L.map λx=>f x+g x)=vt (L.map f)+vt (L.map g)
 | []=>rfl
 | x::L=>by simp only[Nk,vt,YD f g L];omega
theorem ag : ∀L:List α,vt (L.map λ_=>(0:Int))=0
 | []=>rfl
 | x::L=>by simp only[Nk,vt,ag L];omega
theorem YB(f:α->β->Int) : ∀(K:List α) (L:List β),vt (K.map λa=>vt<|L.map λb=>f a b)=vt (L.map λb=>vt<|K.map λa=>f a b)
 | [],L=>(ag L).symm
 | a::K,L=>by simp only[Nk,vt];rw[YB f K L,YD]
theorem YC{K L:List Int}(h:K.Perm L):vt K=vt L:=by
 induction h with
 | nil=>rfl
 | cons x _ z=>simp only[vt,z]
 | swap x y l=>simp only[vt];omega
 | trans _ _ a b=>exact a.trans b
end
noncomputable def o7(w:UK)(b c:Int×Int):Int:=if A8 w b.1.toNat b.2.toNat c.1.toNat c.2.toNat=d7 then 1 else 0
theorem nS{n:Int}{b:Int×Int}(h:ZN n b):D.tup [.int b.1,.int b.2]=pr b.1.toNat b.2.toNat:=by obtain⟨a,d,_⟩:=h;unfold pr;rw[G9 a,G9 ⋯]
section
variable{p:Int}{m:Nat}{w:UK}{F9 N5:UX}{T1 T2:UW}{bs lh jn:List (Int×Int)}{c:Int×Int}{Uh Ui Uj Uk:List TB}
theorem HQ(C:m<=5){b:Int×Int}(z:ZN ((m+1:Nat):Int) b)(I:ZN ((m+1:Nat):Int) c):kF [.str (jW m w),.tup [.int b.1,.int b.2],.tup [.int c.1,.int c.2]]=dn (.val<|.int<|o7 w b c):=by rw[nS z,nS I];obtain⟨a,d,O⟩:=z;obtain⟨U,g2,Y⟩:=I;exact Yj C ⋯ ⋯ ⋯ ⋯
theorem Ab(C:m<=5)(h : ∀b∈bs,ZN ((m+1:Nat):Int) b)(z:bs.length<=lim)(I:ZN ((m+1:Nat):Int) c):kM [.str (jW m w),.lst<|zH bs,.tup [.int c.1,.int c.2]]=dn (.val<|.int<|vt<|bs.map λb=>o7 w b c):=by
 have d:zT (.nm 0) jd (zA kF<|zb (zc 1)<|zb (zc 0)<|zb (zc 2) zB) [Cell.no,.val<|.str<|jW m w,.val (.tup [.int c.1,.int c.2])] (zH bs)=dn (bs.map λb=>D.int<|o7 w b c):=by unfold zH;exact zv _ _ λb O=>zx (γ1:=[.val (.tup [.int b.1,.int b.2]),.val<|.str<|jW m w,.val (.tup [.int c.1,.int c.2])]) rfl rfl (by simp[HQ C (h b O) I])
 have U:(zH bs).length<=lim:=by simpa using z
 have Y:YF (bs.map λb=>D.int<|o7 w b c)=dn (vt<|bs.map λb=>o7 w b c):=by rw[<- yW,Nm];rfl
 unfold kM;refine jl ?_;have a:zK (ze 1) [Cell.val (.str<|jW m w),.val<|.lst<|zH bs,.val (.tup [.int c.1,.int c.2])]=dn (zH bs):=rfl;show j5 _ [Cell.val (.str<|jW m w),.val<|.lst<|zH bs,.val (.tup [.int c.1,.int c.2])]=_;rw[yn,ZM,xy,jM,a];simp only[MG,U,if_true];rw[show ja 1 [0,2] [Cell.val (.str<|jW m w),.val<|.lst<|zH bs,.val (.tup [.int c.1,.int c.2])]=[Cell.no,.val<|.str<|jW m w,.val (.tup [.int c.1,.int c.2])]from rfl,d];simp[Y]
theorem pF(S:m<=5)(J : ∀b∈lh,ZN ((m+1:Nat):Int) b)(L : ∀b∈jn,ZN ((m+1:Nat):Int) b)(Z:lh.length<=lim)(l2:jn.length<=lim)(C:qI [z9 p m w F9 T1]=dn (.val<|xi lh Uh Uj))(I:qI [z9 p m w N5 T2]=dn (.val<|xi jn Ui Uk)) :
 xn [z9 p m w F9 T1,z9 p m w N5 T2]=dn (.val<|.int<|vt<|jn.map λc=>vt<|lh.map λb=>o7 w b c):=by
 have O:=(VM (p:=p) (w:=w) (wd:=F9) (T:=T1) (wd':=N5) (T':=T2)<|show m<=900 by omega).2;have U:=vm (p:=p) (w:=w) (wd:=F9) (T:=T1) (show m<=900 by omega);let z:=z9 p m w F9 T1;let R2:=z9 p m w N5 T2;have f:zT (.nm 0) jd (zA kM<|zb (zA kL<|zb (zc 1) zB)<|zb (zc 2)<|zb (zc 0) zB) [Cell.no,.val z,.val (.lst<|zH lh)] (zH jn)=dn (jn.map λc=>D.int<|vt<|lh.map λb=>o7 w b c):=by
  conv=>lhs;unfold zH
  exact zv _ _ λc Y=>zx (γ1:=[.val (.tup [.int c.1,.int c.2]),.val z,.val (.lst<|zH lh)]) rfl rfl (by simp[z,U,Ab S J Z (L c Y)])
 have d:(zH jn).length<=lim:=by simpa using l2
 have i:YF (jn.map λc=>D.int<|vt<|lh.map λb=>o7 w b c)=dn (vt<|jn.map λc=>vt<|lh.map λb=>o7 w b c):=by rw[<- yW,Nm];rfl
 have g:qI [z]=dn (.val<|xi lh Uh Uj):=C;have h:qI [R2]=dn (.val<|xi jn Ui Uk):=I;have e:j8 [z,R2]=dn (.val .ft):=O;show xn [z,R2]=_
 clear_value z R2
 unfold xn;refine jl<|zo (γ':=[.val z,.val R2,.no]) (by simp[z7,e])<|zo (γ':=[.val z,.val R2,.val (.lst<|zH lh)]) (by simp[g,xi,h6]) ?_;have a:zK (zE<|eg (zE<|zA qI<|zb (zc 1) zB)<|zq<|.int 0) [Cell.val z,.val R2,.val (.lst<|zH lh)]=dn (zH jn):=by simp[h,xi,h6]
 rw[yn,ZM,xy,jM,a];simp only[MG,d,if_true];rw[show ja 1 [0,2] [Cell.val z,.val R2,.val (.lst<|zH lh)]=[Cell.no,.val z,.val (.lst<|zH lh)]from rfl,f];simp[i]
end
section
variable{p:Int}{m N:Nat}{w:UK}{wd:UX}{T:UW}{A:Nat->f7}{bs:List (Int×Int)}{b c:Int×Int}
theorem lO(z:Pr p)(I : ∀k,wd k<=8)(C:m<=5)(O : ∀k i j,0<=T k i j/\T k i j<p)(D:l4 p w wd T m N A) : ∃ts us,qI [z9 p m w wd T]=dn (.val<|xi (kQ<|ql A N) ts us):=by
 obtain⟨b,a,ts,us,_,U,T9,_,_,_,_,Y,_⟩:=Kc (w:=w) (wd:=wd) (T:=T) (m:=m) z I C λk i j _ _ _=>O k i j;refine⟨ts,us,?_⟩;have e : ∀(X:Nat->f7) (M:Nat),ql X M=(KQ X M).map λs=>((s.1:Int),(s.2:Int)):=λX M=>by unfold ql KQ;rw[Nm];rfl
 have d:(ql a b).Perm (ql A N):=by rw[e,e];exact(gd z U D).map _
 rw[Y,<- T9,JK d]
theorem aU(h : ∀b∈bs,ZN ((m+1:Nat):Int) b):ql (Vf (bS bs) (bE bs) bs.length) bs.length=bs:=by
 conv=>rhs;rw[AJ h]
 unfold ql;refine MQ λj z=>?_;have:=(lQ h<|MD.mp z).2.1;show((bS bs j:Int),((bS bs j+(bE bs j - bS bs j+1) - 1:Nat):Int))=_;rw[show bS bs j+(bE bs j - bS bs j+1) - 1=bE bs j by omega]
theorem EY(bs:List (Int×Int))(k:Nat):bW bs k<=bs.length:=by unfold bW mE qC;exact Of (PF _ _) ⋯
end
theorem pS:jE=jk 9 (zL (jy 3<|cg (eg (ze 1)<|zq<|.int 0)<|eg (ze 2)<|zq<|.int 0)<|zL (jy 4<|V1 (eg (ze 1)<|zq<|.int 1)<|eg (ze 2)<|zq<|.int 1)<|zL (iN (sB<|zG pk (zc 3)<|zc 4) (j5<|zq<|.int 0) qc)<|zL (yN pR (.tp [5,6,7]) vZ)<|j5<|zq<|.int 1):=rfl
section
variable{m a b c d:Nat}{w:UK}
theorem VI(L:m<=5){lo hi k:Nat}(J:k<m)(x y:Bool)(S:(x || y)=d7)(I O C:Cell) :
 vZ [.val (.str<|jW m w),I,O,.val<|.int (lo:Int),.val<|.int (hi:Int),.val<|.int (k:Int),.val<|.bl x,.val<|.bl y,C]=(let o:=decide (zJ w k=lo\/zJ w k=hi) && (decide (lo<=zJ w k) && decide (zJ w k<=hi));if ((x && !o) || (y && o))=d7 then dn (.ret<|.val<|.int 0)else dn (.next [.val (.str<|jW m w),I,O,.val<|.int (lo:Int),.val<|.int (hi:Int),.val<|.int (k:Int),.val<|.bl x,.val<|.bl y,.val (.bl o)])):=by
 have U:=yL (w:=w) L J;generalize zJ w k=z at U;have v:AI [.val (.str<|jW m w),I,O,.val<|.int (lo:Int),.val<|.int (hi:Int),.val<|.int (k:Int),.val<|.bl x,.val<|.bl y,C]=dn (.bl<|decide (z=lo\/z=hi) && (decide (lo<=z) && decide (z<=hi))):=by
  have Y:eg (zE<|zA qi<|zb (zc 0)<|zb (zc 5) zB) (zq<|.int 0) [.val (.str<|jW m w),I,O,.val<|.int (lo:Int),.val<|.int (hi:Int),.val<|.int (k:Int),.val<|.bl x,.val<|.bl y,C]=dn (.int (z:Int)):=by simp[U]
  unfold AI;have i:GP (eg (zE<|zA qi<|zb (zc 0)<|zb (zc 5) zB)<|zq<|.int 0) (jj<|qG<|zb (zc 3)<|zb (zc 4) zB) [.val (.str<|jW m w),I,O,.val<|.int (lo:Int),.val<|.int (hi:Int),.val<|.int (k:Int),.val<|.bl x,.val<|.bl y,C]=dn (.bl<|decide<|z=lo\/z=hi):=by rw[Fh,Y];show dn (D.bl<|decide<|(z:Int) ∈ [(lo:Int),(hi:Int)])=_;congr 2;rw[OU];simp;omega
  rw[Fm,i,pY,Y];by_cases q:z=lo\/z=hi
  ·by_cases a:lo<=z
   ·simp[q,a]
   ·simp[q,a]
  ·simp[q]
 unfold vZ;rw[v9];have t:vw (sB<|zc 6) (sB<|zc 7) [.val (.str<|jW m w),I,O,.val<|.int (lo:Int),.val<|.int (hi:Int),.val<|.int (k:Int),.val<|.bl x,.val<|.bl y,C]=dn d7:=by cases x<;>cases y<;>simp_all
 rw[t];show zL _ _ _=_;rw[jg,Zi,v];generalize (decide (z=lo\/z=hi) && (decide (lo<=z) && decide (z<=hi)))=o;cases x<;>cases y<;>cases o<;>rfl
theorem VJ{lo hi:Int}(k:Int)(z I C:Cell)(s:Str):vZ [.val (.str s),z,I,.val<|.int lo,.val<|.int hi,.val<|.int k,.val<|.bl eh,.val<|.bl eh,C]=dn (.next [.val (.str s),z,I,.val<|.int lo,.val<|.int hi,.val<|.int k,.val<|.bl eh,.val<|.bl eh,C]):=rfl
theorem sT(J:m<=5)(L:a<=m)(S:c<=m)(q:max a c<=min b d)(z I C:Cell) :
 (u7 w a c=d7/\∃O,vZ [.val (.str<|jW m w),z,I,.val<|.int ((max a c:Nat):Int),.val<|.int ((min b d:Nat):Int),.val<|.int<|((max a c:Nat):Int) - 1,.val<|.bl<|decide<|a<max a c,.val<|.bl<|decide<|c<max a c,C]=dn (.next [.val (.str<|jW m w),z,I,.val<|.int ((max a c:Nat):Int),.val<|.int ((min b d:Nat):Int),.val<|.int<|((max a c:Nat):Int) - 1,.val<|.bl<|decide<|a<max a c,.val<|.bl<|decide<|c<max a c,O]))\/
 (u7 w a c=eh/\vZ [.val (.str<|jW m w),z,I,.val<|.int ((max a c:Nat):Int),.val<|.int ((min b d:Nat):Int),.val<|.int<|((max a c:Nat):Int) - 1,.val<|.bl<|decide<|a<max a c,.val<|.bl<|decide<|c<max a c,C]=dn (.ret<|.val<|.int 0)):=by
 by_cases h:a=c
 ·subst h
  rw[show decide (a<max a a)=eh from decide_eq_false ⋯];exact .inl ⟨by simp[u7],C,VJ _ _ _ _ _⟩
 ·obtain⟨k,e⟩ : ∃k:Nat,max a c=k+1:=⟨max a c - 1,by omega⟩
  have U:(((max a c:Nat):Int) - 1)=(k:Int):=by omega
  have st:=VI (w:=w) J (lo:=max a c) (hi:=min b d) (k:=k) ⋯ (decide<|a<max a c) (decide<|c<max a c) (by simp;omega) z I C;rw[U];have g:decide (a=c)=eh:=decide_eq_false h;have Y:decide (c<max a c) = !decide (a<c):=by rw[OU];simp;omega
  have j:decide (a<max a c)=decide (a<c):=by rw[OU];simp;omega
  have f:u7 w a c=(w k==decide (a<c)):=by unfold u7;rw[g,show max a c - 1=k by omega];rfl
  have o:(decide (zJ w k=max a c\/zJ w k=min b d) && (decide (max a c<=zJ w k) && decide (zJ w k<=min b d)))=w k:=by
   unfold zJ;cases w k
   ·have : ¬max a c<=k:=by omega
    simp[this]
   ·have i:k+1=max a c:=e.symm
    simp[i];omega
  rw[st,o,f,Y,j];cases w k<;>cases decide (a<c)
  ·exact .inl ⟨rfl,_,rfl⟩
  ·exact .inr ⟨rfl,rfl⟩
  ·exact .inr ⟨rfl,rfl⟩
  ·exact .inl ⟨rfl,_,rfl⟩
theorem sU(J:m<=5)(L:b<=m)(S:d<=m)(q:max a c<=min b d)(z I C:Cell) :
 (vl w b d=d7/\∃O,vZ [.val (.str<|jW m w),z,I,.val<|.int ((max a c:Nat):Int),.val<|.int ((min b d:Nat):Int),.val<|.int ((min b d:Nat):Int),.val<|.bl<|decide<|min b d<b,.val<|.bl<|decide<|min b d<d,C]=dn (.next [.val (.str<|jW m w),z,I,.val<|.int ((max a c:Nat):Int),.val<|.int ((min b d:Nat):Int),.val<|.int ((min b d:Nat):Int),.val<|.bl<|decide<|min b d<b,.val<|.bl<|decide<|min b d<d,O]))\/
 (vl w b d=eh/\vZ [.val (.str<|jW m w),z,I,.val<|.int ((max a c:Nat):Int),.val<|.int ((min b d:Nat):Int),.val<|.int ((min b d:Nat):Int),.val<|.bl<|decide<|min b d<b,.val<|.bl<|decide<|min b d<d,C]=dn (.ret<|.val<|.int 0)):=by
 by_cases h:b=d
 ·subst h
  rw[show decide (min b b<b)=eh from decide_eq_false ⋯];exact .inl ⟨by simp[vl],C,VJ _ _ _ _ _⟩
 ·have st:=VI (w:=w) J (lo:=max a c) (hi:=min b d) (k:=min b d) ⋯ (decide<|min b d<b) (decide<|min b d<d) (by simp;omega) z I C
  have e:decide (b=d)=eh:=decide_eq_false h;have U:decide (min b d<d)=decide (b<d):=by rw[OU];simp;omega
  have Y:decide (min b d<b) = !decide (b<d):=by rw[OU];simp;omega
  have f:vl w b d=(w (min b d)==decide (b<d)):=by unfold vl;rw[e];rfl
  have o:(decide (zJ w (min b d)=max a c\/zJ w (min b d)=min b d) && (decide (max a c<=zJ w (min b d)) && decide (zJ w (min b d)<=min b d))) = !w (min b d):=by
   unfold zJ;cases w (min b d)
   ·simp
    omega
   ·have : ¬min b d+1<=min b d:=by omega
    simp[this]
  rw[st,o,f,U,Y];cases w (min b d)<;>cases decide (b<d)
  ·exact .inl ⟨rfl,_,rfl⟩
  ·exact .inr ⟨rfl,rfl⟩
  ·exact .inr ⟨rfl,rfl⟩
  ·exact .inl ⟨rfl,_,rfl⟩
theorem mU(C:m<=5)(O:a<=b)(U:b<=m)(Y:c<=d)(J:d<=m):jE [.str (jW m w),pr a b,pr c d]=dn (.val<|.int<|if A8 w a b c d=d7 then 1 else 0):=by
 let lo:=max a c;let f:=min b d;let γ:Cell->Cell->Cell->Cell->Ctx:=λk l n g=>[.val (.str<|jW m w),.val<|pr a b,.val<|pr c d,.val<|.int (lo:Int),.val<|.int (f:Int),k,l,n,g];rw[pS];refine jl<|zo (γ':=[.val (.str<|jW m w),.val<|pr a b,.val<|pr c d,.val<|.int (lo:Int),.no,.no,.no,.no,.no]) (by simp[z7,KM,h6,lo])<|zo (γ':=γ .no .no .no .no) (by simp[γ,KL,h6,f]) ?_;by_cases q:lo<=f
 ·have r : ¬((f:Nat):Int)<((lo:Nat):Int):=by omega
  refine zo (γ':=γ .no .no .no .no) (by rw[v9,bJ,show zG pk (zc 3) (zc 4) (γ .no .no .no .no)=dn (.bl eh)by simp[γ];omega];rfl) ?_;have j:pR (γ .no .no .no .no)=dn [.tup [.int ((lo:Int) - 1),.bl<|decide<|a<lo,.bl (decide<|c<lo)],.tup [.int (f:Int),.bl<|decide<|f<b,.bl (decide<|f<d)]]:=by simp[pR,γ,h6]
  have o:=sT (w:=w) C (a:=a) (b:=b) (c:=c) (d:=d) ⋯ ⋯ q (.val<|pr a b) (.val<|pr c d) .no;rw[jg,Zj,j,MG,ju];show((vZ<|γ (.val<|.int<|(lo:Int) - 1) (.val<|.bl<|decide<|a<lo) (.val<|.bl<|decide<|c<lo) .no).bind _).bind _=_;rcases o with⟨h,g,e⟩ | ⟨h,e⟩
  ·rw[show vZ (γ (.val<|.int<|(lo:Int) - 1) (.val<|.bl<|decide<|a<lo) (.val<|.bl<|decide<|c<lo) .no)=_ from e,MG]
   show(qL _ _ _ _).bind _=_;rw[ju];show((vZ<|γ (.val<|.int (f:Int)) (.val<|.bl<|decide<|f<b) (.val<|.bl<|decide<|f<d) g).bind _).bind _=_;rcases sU (w:=w) C (a:=a) (b:=b) (c:=c) (d:=d) ⋯ ⋯ q (.val<|pr a b) (.val<|pr c d) g with⟨i,p,z⟩ | ⟨i,z⟩
   ·rw[show vZ (γ (.val<|.int (f:Int)) (.val<|.bl<|decide<|f<b) (.val<|.bl<|decide<|f<d) g)=_ from z]
    have I:max a c<=min b d:=q;simp[A8,h,i,I,qL]
   ·rw[show vZ (γ (.val<|.int (f:Int)) (.val<|.bl<|decide<|f<b) (.val<|.bl<|decide<|f<d) g)=_ from z]
    simp[A8,i]
  ·rw[show vZ (γ (.val<|.int<|(lo:Int) - 1) (.val<|.bl<|decide<|a<lo) (.val<|.bl<|decide<|c<lo) .no)=_ from e]
   simp[A8,h]
 ·rw[jg,v9,bJ,show zG pk (zc 3) (zc 4) (γ .no .no .no .no)=dn (.bl d7)by simp[γ];omega]
  have I : ¬max a c<=min b d:=q;simp[A8,I]
end
theorem oQ{h w h' w':Nat}(f g:UV):jf (h+h') (w+w') (Wx h w f g λ_ _=>0)=jf (h+h') (w+w') (lJ h w f g):=by
 have:zZ (h+h') (w+w') (Wx h w f g λ_ _=>0)=zZ (h+h') (w+w') (lJ h w f g):=by unfold zZ;refine MQ λi a=>?_;rw[qZ λj z=>?_];unfold Wx lJ;split<;>rfl
 unfold jf;rw[this]
section
variable{p p':Int}{m m':Nat}{w w':UK}{wd wd':UX}{T T':UW}
abbrev Yk(m:Nat)(wd wd':UX):D:= .tup (zD (m+1) λk=>((wd k+wd' k:Nat):Int))
theorem eC(C:m<=900):(jy 2<|zP<|jj<|zM (Xo (eg (ze 0)<|zq<|.int 1)<|eg (ze 1)<|zq<|.int 1) (.tp [0,1]) 2 [] jd (zG qo (zc 0)<|zc 1)) (z7 3 [z9 p m w wd T,z9 p m w wd' T'])=dn (.next [.val (z9 p m w wd T),.val<|z9 p m w wd' T',.val (Yk m wd wd')]):=by
 have U:=js;have z:m+1<=lim:=by omega
 have I:=yc p m w wd T;have x1:=yc p m w wd' T';have b:zT (.tp [0,1]) jd (zG qo (zc 0)<|zc 1) [Cell.no,Cell.no] ((MB<|m+1).map λi=>D.tup [.int (wd i:Int),.int (wd' i:Int)])=dn (zD (m+1) λk=>((wd k+wd' k:Nat):Int)):=by rw[z5 (m+1) λk=>((wd k+wd' k:Nat):Int)];refine zv _ _ λk Y=>zx rfl rfl ?_;show zG _ _ _ [Cell.val (.int (wd k:Int)),Cell.val (.int (wd' k:Int))]=_;simp
 have f:h6 3 1=dn 1:=rfl;have d:Xo (eg (ze 0)<|zq<|.int 1) (eg (ze 1)<|zq<|.int 1) [.val (z9 p m w wd T),.val<|z9 p m w wd' T',.no]=dn ((MB<|m+1).map λi=>D.tup [.int (wd i:Int),.int (wd' i:Int)]):=by rw[<- wa (m+1) (λk=>(wd k:Int)) λk=>(wd' k:Int)];simp only[lT,kc,jL,xA,MJ,ML,MY,Nj,NA,NV,zW,MG,MP,I,x1,jU,f,jZ]
 have O:((MB<|m+1).map λi=>D.tup [.int (wd i:Int),.int (wd' i:Int)]).length<=lim:=by simpa using z
 show(((zM _ _ _ _ _ _ [.val (z9 p m w wd T),.val<|z9 p m w wd' T',.no]).map λe=>(Sk.L,e)).map λa=>D.tup a.2).map _=_;rw[jM,d];simp only[MG];rw[UJ O,show ja 2 [] [.val (z9 p m w wd T),.val<|z9 p m w wd' T',.no]=[Cell.no,Cell.no]from rfl,b];rfl
theorem eB:YF (zD (m+1) λk=>((wd k+wd' k:Nat):Int))=dn (zg (λk=>(wd k:Int)) (m+1)+zg (λk=>(wd' k:Int)) (m+1)):=by rw[x6,<- lH];congr 1
theorem ab:YF (zD (m+1) λk=>(wd k:Int)+(wd' k:Int))=dn (zg (λk=>(wd k:Int)) (m+1)+zg (λk=>(wd' k:Int)) (m+1)):=by rw[x6,<- lH]
theorem rD(C:m<=900)(h : ¬(30<zg (λk=>(wd k:Int)) (m+1)+zg (λk=>(wd' k:Int)) (m+1))):qw [z9 p m w wd T,z9 p m w wd' T']=dn (.val<|Yk m wd wd')/\jN [z9 p m w wd T,z9 p m w wd' T']=ed:=by
 have z:=eB (m:=m) (wd:=wd) (wd':=wd');have I:=ab (m:=m) (wd:=wd) (wd':=wd');have b:xZ [Yk m wd wd']=dn (.val .ft):=by simp[xZ,jk,z7,MH,jq,Yk,z,I,h]
 have O:qp [Yk m wd wd']=ed:=by simp[qp,fz,z7,MH,jq,Yk,z,I,h,Dk,Dl]
 have a:=eC (p:=p) (w:=w) (wd:=wd) (wd':=wd') (T:=T) (T':=T') C;constructor
 ·refine jl (zo a<|zo (γ':=[.val (z9 p m w wd T),.val<|z9 p m w wd' T',.val (Yk m wd wd')]) ?_ rfl)
  simp only[lZ,xM,jb,xl,qr,MJ,ML,zO,MG,MP,b]
 ·unfold jN fz
  rw[WV,a];show(ZS qp<|zb (zc 2) zB) [.val (z9 p m w wd T),.val<|z9 p m w wd' T',.val (Yk m wd wd')]=ed;simp[ZS,O]
theorem mT(C:m<=900)(h:30<zg (λk=>(wd k:Int)) (m+1)+zg (λk=>(wd' k:Int)) (m+1)):jN [z9 p m w wd T,z9 p m w wd' T']=dn ((("TooMany" : Str),ed):Xn):=by
 have z:=eB (m:=m) (wd:=wd) (wd':=wd');have I:=ab (m:=m) (wd:=wd) (wd':=wd');have O:qp [Yk m wd wd']=dn ((("TooMany" : Str),ed):Xn):=by simp[qp,fz,z7,MH,jq,Yk,z,I,h,Dk,sC]
 have a:=eC (p:=p) (w:=w) (wd:=wd) (wd':=wd') (T:=T) (T':=T') C;unfold jN fz;rw[WV,a];show(ZS qp<|zb (zc 2) zB) [.val (z9 p m w wd T),.val<|z9 p m w wd' T',.val (Yk m wd wd')]=_;simp[ZS,O]
abbrev t9(m:Nat)(w:UK)(wd wd':UX):D:= .lst (Vk m w wd wd' λ_ _ _=>0)
theorem hJ(C:m<=900)(U : ∀k,wd k<=400)(Y : ∀k,wd' k<=400)(h : ¬(30<zg (λk=>(wd k:Int)) (m+1)+zg (λk=>(wd' k:Int)) (m+1))):Jy [z9 p m w wd T,z9 p m w wd' T',t9 m w wd wd']=dn (.val<|Gi p m w wd wd' T T'):=by
 have E:=js;have i:m<=lim:=by omega
 have e:=yc p m w wd T;have x1:=yc p m w wd' T';have r:2<=lim:=by omega
 have s:3<=lim:=by omega
 have A:=(rD (p:=p) (w:=w) (T:=T) (T':=T') C h).1;have I : ∀(u:UX),(∀k,u k<=400)->∀k,fy w u k<=400/\fA w u k<=400:=λu d k=>by rw[<- vW,<- Zn];have:=d<|zX w k;have:=d<|zJ w k;omega
 have a:zT (.tp [0,1,2]) jd (qA<|zb (eg (ze 0)<|zq<|.int 0)<|zb (zA qf<|zb (eg (ze 0)<|zq<|.int 1)<|zb (eg (ze 1)<|zq<|.int 1)<|zb (zc 2) zB) zB) [Cell.no,Cell.no,Cell.no] ((MB m).map λk=>D.tup [qH w wd T k,qH w wd' T' k,jf (fy w wd k) (fA w wd' k) λ_ _=>0])=dn (jD m w (λk=>wd k+wd' k) λk=>lJ (fy w wd k) (fA w wd k) (T k)<|T' k):=by unfold jD;refine zv _ _ λk B=>zx rfl rfl ?_;have j:=hU (h:=fy w wd k) (w:=fA w wd k) (h':=fy w wd' k) (w':=fA w wd' k) (T k) (T' k) (λ_ _=>0) (I wd U k).1 (I wd U k).2 (I wd' Y k).1 (I wd' Y k).2;rw[oQ]at j;have f:jq (qH w wd T k)=dn (.T,[.str (xu<|gB<|w k),jf (fy w wd k) (fA w wd k) (T k)]):=rfl;have g:jq (qH w wd' T' k)=dn (.T,[.str (xu<|gB<|w k),jf (fy w wd' k) (fA w wd' k) (T' k)]):=rfl;have O:h6 2 0=dn 0:=rfl;have n:h6 2 1=dn 1:=rfl;show qA _ [Cell.val (qH w wd T k),Cell.val<|qH w wd' T' k,Cell.val (jf (fy w wd k) (fA w wd' k) λ_ _=>0)]=_;simp only[ym,jb,xl,kc,jL,qr,xA,xM,MJ,ML,MY,Nj,NA,NV,zO,zW,MG,MP,f,g,jU,O,n,j,mD,r,if_true];unfold qH;rw[Ai,sD]
 have t:(jy 3<|zA qw<|zb (zc 0)<|zb (zc 1) zB) (z7 5 [z9 p m w wd T,z9 p m w wd' T',t9 m w wd wd'])=dn (.next [.val (z9 p m w wd T),.val<|z9 p m w wd' T',.val<|t9 m w wd wd',.val<|Yk m wd wd',.no]):=by show(((zA qw _) [.val (z9 p m w wd T),.val<|z9 p m w wd' T',.val<|t9 m w wd wd',.no,.no]).map _)=_;simp only[xM,jb,xl,qr,MJ,ML,zO,MG,MP,A];rfl
 have o:h6 3 2=dn 2:=rfl;have x:(jy 4<|j3<|zM (eY (eg (ze 0)<|zq<|.int 2) (eg (ze 1)<|zq<|.int 2)<|zc 2) (.tp [0,1,2]) 3 [] jd (qA<|zb (eg (ze 0)<|zq<|.int 0)<|zb (zA qf<|zb (eg (ze 0)<|zq<|.int 1)<|zb (eg (ze 1)<|zq<|.int 1)<|zb (zc 2) zB) zB)) [.val (z9 p m w wd T),.val<|z9 p m w wd' T',.val<|t9 m w wd wd',.val<|Yk m wd wd',.no]=dn (.next [.val (z9 p m w wd T),.val<|z9 p m w wd' T',.val<|t9 m w wd wd',.val<|Yk m wd wd',.val (.lst<|jD m w (λk=>wd k+wd' k) λk=>lJ (fy w wd k) (fA w wd k) (T k)<|T' k)]):=by
  have z:Kh (jD m w wd T) (jD m w wd' T') (Vk m w wd wd' λ_ _ _=>0)=(MB m).map λk=>D.tup [qH w wd T k,qH w wd' T' k,jf (fy w wd k) (fA w wd' k) λ_ _=>0]:=by unfold Kh jD Vk;rw[OP,OP,Nm];rfl
  have b:eY (eg (ze 0)<|zq<|.int 2) (eg (ze 1)<|zq<|.int 2) (zc 2) [.val (z9 p m w wd T),.val<|z9 p m w wd' T',.val<|t9 m w wd wd',.val<|Yk m wd wd',.no]=dn ((MB m).map λk=>D.tup [qH w wd T k,qH w wd' T' k,jf (fy w wd k) (fA w wd' k) λ_ _=>0]):=by rw[<- z];simp only[AN,kc,jL,qr,xA,MJ,ML,MY,Nj,NA,NV,zW,zO,MG,MP,e,x1,jU,o,jZ,xx]
  have l:((MB m).map λk=>D.tup [qH w wd T k,qH w wd' T' k,jf (fy w wd k) (fA w wd' k) λ_ _=>0]).length<=lim:=by simpa using i
  show((zM _ _ _ _ _ _ [.val (z9 p m w wd T),.val<|z9 p m w wd' T',.val<|t9 m w wd wd',.val<|Yk m wd wd',.no]).map D.lst).map _=_;rw[jM,b];simp only[MG];rw[UJ l,show ja 3 [] [.val (z9 p m w wd T),.val<|z9 p m w wd' T',.val<|t9 m w wd wd',.val<|Yk m wd wd',.no]=[Cell.no,Cell.no,Cell.no]from rfl,a];rfl
 have y:(j5<|qA<|zb (eg (ze 0)<|zq<|.int 0)<|zb (zc 3)<|zb (zP<|ze 4) zB) [.val (z9 p m w wd T),.val<|z9 p m w wd' T',.val<|t9 m w wd wd',.val<|Yk m wd wd',.val (.lst<|jD m w (λk=>wd k+wd' k) λk=>lJ (fy w wd k) (fA w wd k) (T k)<|T' k)]=dn (.ret<|.val<|Gi p m w wd wd' T T'):=by have O:h6 3 0=dn 0:=rfl;simp only[yn,ym,jb,xl,kc,jL,qr,xA,xk,MJ,ML,MY,Nj,NA,NV,zW,zO,MG,MP,e,jU,O,xx,s,if_true];rfl
 exact jl<|zo t<|zo x y
theorem uR(C:m<=900)(U : ∀k,wd k<=400)(Y : ∀k,wd' k<=400):(zb (zc 0)<|zb (zc 1)<|zb (j3<|zM (Xo (eg (ze 0)<|zq<|.int 2)<|eg (ze 1)<|zq<|.int 2) (.tp [0,1]) 2 [] jd (zA xC<|zb (eg (ze 0)<|zq<|.int 1)<|zb (eg (ze 1)<|zq<|.int 1) zB)) zB) [.val (z9 p m w wd T),.val (z9 p m w wd' T')]=dn [z9 p m w wd T,z9 p m w wd' T',t9 m w wd wd']:=by
 have s:=js;have e:m<=lim:=by omega
 have n:=yc p m w wd T;have x1:=yc p m w wd' T';have I : ∀(u:UX),(∀k,u k<=400)->∀k,fy w u k<=400/\fA w u k<=400:=λu O k=>by rw[<- vW,<- Zn];have:=O<|zX w k;have:=O<|zJ w k;omega
 have j:h6 3 2=dn 2:=rfl;have a:zT (.tp [0,1]) jd (zA xC<|zb (eg (ze 0)<|zq<|.int 1)<|zb (eg (ze 1)<|zq<|.int 1) zB) [Cell.no,Cell.no] ((MB m).map λk=>D.tup [qH w wd T k,qH w wd' T' k])=dn (Vk m w wd wd' λ_ _ _=>0):=by
  unfold Vk;refine zv _ _ λk r=>zx rfl rfl ?_;have b:jq (qH w wd T k)=dn (.T,[.str (xu<|gB<|w k),jf (fy w wd k) (fA w wd k) (T k)]):=rfl;have d:jq (qH w wd' T' k)=dn (.T,[.str (xu<|gB<|w k),jf (fy w wd' k) (fA w wd' k) (T' k)]):=rfl;have i:h6 2 1=dn 1:=rfl;have l:xC [jf (fy w wd k) (fA w wd k) (T k),jf (fy w wd' k) (fA w wd' k) (T' k)]=dn (.val<|jf (fy w wd k) (fA w wd' k) λ_ _=>0):=by
   have b1:fy w wd k<=lim:=by have:=(I wd U k).1;omega
   have b2:fA w wd' k<=lim:=by have:=(I wd' Y k).2;omega
   have o : ∀(h w:Nat) (f:UV),jq (jf h w f)=dn (.T,[.int h,.int w,.tup (zZ h w f)]):=λ_ _ _=>rfl;simp[xC,jk,z7,o,W0 b1 b2]
  show zA _ _ [Cell.val (qH w wd T k),Cell.val (qH w wd' T' k)]=_;simp only[jb,xl,kc,jL,qr,xA,xM,MJ,ML,MY,Nj,NA,NV,zO,zW,MG,MP,b,d,jU,i,l,mD]
 have z:ZR (jD m w wd T) (jD m w wd' T')=(MB m).map λk=>D.tup [qH w wd T k,qH w wd' T' k]:=by unfold ZR jD;rw[OP];simp
 have g:((MB m).map λk=>D.tup [qH w wd T k,qH w wd' T' k]).length<=lim:=by simpa using e
 simp only[jb,xl,qr,yo,jM,lT,kc,jL,xA,MJ,ML,MY,Nj,NA,NV,zO,zW,MG,MP,n,x1,jU,j,jZ,z,g,if_true];rw[show ja 2 [] [.val (z9 p m w wd T),.val (z9 p m w wd' T')]=[Cell.no,Cell.no]from rfl,a];rfl
theorem pP(C:m<=900)(z : ∀k,wd k<=400)(I : ∀k,wd' k<=400) :
 (zg (λk=>(wd k:Int)) (m+1)+zg (λk=>(wd' k:Int)) (m+1)<=30->vI [z9 p m w wd T,z9 p m w wd' T']=dn (.val<|Gi p m w wd wd' T T')/\Jx [z9 p m w wd T,z9 p m w wd' T']=ed)/\
 (¬zg (λk=>(wd k:Int)) (m+1)+zg (λk=>(wd' k:Int)) (m+1)<=30->Jx [z9 p m w wd T,z9 p m w wd' T']=dn ((("TooMany" : Str),ed):Xn)):=by
 obtain⟨e,f⟩:=VM (p:=p) (w:=w) (wd:=wd) (wd':=wd') (T:=T) (T':=T') C;have b:z7 2 [z9 p m w wd T,z9 p m w wd' T']=[.val (z9 p m w wd T),.val (z9 p m w wd' T')]:=rfl;have O:=uR (p:=p) (w:=w) (T:=T) (T':=T') C z I;have U:(zb (zc 0)<|zb (zc 1) zB) [.val (z9 p m w wd T),.val (z9 p m w wd' T')]=dn [z9 p m w wd T,z9 p m w wd' T']:=rfl;have a:(cn<|zA j8<|zb (zc 0)<|zb (zc 1) zB) [.val (z9 p m w wd T),.val (z9 p m w wd' T')]=dn (.next [.val (z9 p m w wd T),.val (z9 p m w wd' T')]):=by simp only[lZ,xM,U,MG,MP,f]
 have d:Yf [z9 p m w wd T,z9 p m w wd' T',t9 m w wd wd']=jN [z9 p m w wd T,z9 p m w wd' T']:=rfl;have Y:Jx [z9 p m w wd T,z9 p m w wd' T']=jN [z9 p m w wd T,z9 p m w wd' T']:=by
  unfold Jx fz;rw[b,WV];have:ZS xW (zb (zc 0)<|zb (zc 1) zB) [.val (z9 p m w wd T),.val (z9 p m w wd' T')]=ed:=by unfold ZS;rw[U];exact e
  rw[this,a];show(ZS Yf _) [.val (z9 p m w wd T),.val (z9 p m w wd' T')]=_;unfold ZS;rw[O];exact d
 refine⟨λh=>⟨?_,?_⟩,λh=>?_⟩
 ·have j:=hJ (p:=p) (w:=w) (T:=T) (T':=T') C z I ⋯
  have g:(j5<|zA Jy<|zb (zc 0)<|zb (zc 1)<|zb (j3<|zM (Xo (eg (ze 0)<|zq<|.int 2)<|eg (ze 1)<|zq<|.int 2) (.tp [0,1]) 2 [] jd (zA xC<|zb (eg (ze 0)<|zq<|.int 1)<|zb (eg (ze 1)<|zq<|.int 1) zB)) zB) [.val (z9 p m w wd T),.val (z9 p m w wd' T')]=dn (.ret<|.val<|Gi p m w wd wd' T T'):=by rw[yn,xM,O];simp[j]
  exact jl<|zo a g
 ·rw[Y];exact(rD C ⋯).2
 ·rw[Y];exact mT C ⋯
end
section
variable{p:Int}{n n':Nat}
noncomputable def dw(n s:Nat)(B C:Nat->Vc):Nat->Vc:=λk=>if k<s then qN n (B k) (λ_=>0)else qN n (λ_=>0) (C<|k - s)
def Bd(n s:Nat)(l C:UX):Nat->Nat:=λk=>if k<s then l k else n+C (k - s)
theorem lI{s s':Nat}{B B':Nat->Vc}{l l':UX}(h:h7 p n s B l)(h':h7 p n' s' B' l')(p0:0<p):h7 p (n+n') (s+s') (dw n s B B') (Bd n s l l') where
 lt:=λk U=>by
  unfold Bd;split
  ·next q=>have:=h.lt k q;omega
  ·next q=>have:=h'.lt (k - s) ⋯;omega
 mono:=λk m U hm=>by
  unfold Bd;by_cases O:k<s
  ·rw[UJ O]
   by_cases I:m<s
   ·rw[UJ I];exact h.mono k m U I
   ·rw[UY I];have:=h.lt k O;omega
  ·rw[UY O,UY ⋯]
   have:=h'.mono (k - s) (m - s) ⋯ ⋯;omega
 one:=λk U=>by
  unfold Bd dw;by_cases q:k<s
  ·rw[UJ q,UJ q,jo (h.lt k q)];exact h.one k q
  ·rw[UY q,UY q,jC];exact h'.one (k - s) ⋯
 l6:=λk j U Y=>by
  unfold Bd at Y;unfold dw;by_cases q:k<s
  ·rw[UJ q]at Y
   rw[UJ q,jo (by have:=h.lt k q;omega)];exact h.l6 k j q Y
  ·rw[UY q]at Y
   rw[UY q];rcases Nc j n with z | z
   ·rw[jo z]
   ·obtain⟨c,rfl⟩ : ∃c,j=n+c:=⟨j - n,by omega⟩
    rw[jC];exact h'.l6 (k - s) c ⋯ ⋯
 pb:=λk m U hm a0=>by
  unfold Bd dw;by_cases O:k<s
  ·rw[UJ O]
   by_cases I:m<s
   ·rw[UJ I,jo (h.lt m I)];exact h.pb k m O I a0
   ·rw[UY I,jC]
  ·rw[UY O]
   by_cases I:m<s
   ·rw[UJ I,jo (h.lt m I)]
   ·rw[UY I,jC];exact h'.pb (k - s) (m - s) ⋯ ⋯ ⋯
 ly:=λk i U hi=>by
  unfold dw;by_cases q:k<s
  ·rw[UJ q]
   rcases Nc i n with z | z
   ·rw[jo z];exact h.ly k i q z
   ·obtain⟨c,rfl⟩ : ∃c,i=n+c:=⟨i - n,by omega⟩
    rw[jC];omega
  ·rw[UY q]
   rcases Nc i n with z | z
   ·rw[jo z];omega
   ·obtain⟨c,rfl⟩ : ∃c,i=n+c:=⟨i - n,by omega⟩
    rw[jC];exact h'.ly (k - s) c ⋯ ⋯
theorem bG{s J:Nat}{B C:Nat->Vc}(u:Vc):Span p (n+n') (eF (s+J)<|dw n s B C) u↔Span p n (eF s B) u/\Span p n' (eF J C) λi=>u (n+i):=by
 constructor
 ·intro h
  constructor
  ·refine(h.map (n':=n) (G':=eF s B) (λi=>i) (λi a=>by omega) λg O=>?_)
   obtain⟨k,I,rfl⟩:=O;unfold dw;split
   ·next q=>exact(Span.gen (g:=B k) ⟨k,q,rfl⟩).congr λi a=>by rw[jo a]
   ·exact .zero λi a=>by rw[jo a];simp
  ·refine(h.map (n':=n') (G':=eF J C) (λi=>n+i) (λi a=>by omega) λg O=>?_)
   obtain⟨k,I,rfl⟩:=O;unfold dw;split
   ·exact .zero λi a=>by rw[jC];simp
   ·next q=>exact(Span.gen (g:=C<|k - s) ⟨k - s,by omega,rfl⟩).congr λi a=>by rw[jC]
 ·rintro⟨j,l⟩
  obtain⟨t,o⟩:=wt j;obtain⟨b,d⟩:=wt l;refine(Ko (n:=n+n') (m:=s+J) (dw n s B C) λk=>if k<s then t k else b (k - s)).congr λi a=>?_;rw[wj];have e:zg (λk=>(if k<s then t k else b (k - s))*dw n s B C k i) s=zg (λk=>t k*qN n (B k) (λ_=>0) i) s:=zw λk I=>by unfold dw;rw[UJ I,UJ I]
  have f:zg (λk=>(if s+k<s then t (s+k)else b (s+k - s))*dw n s B C (s+k) i) J=zg (λk=>b k*qN n (λ_=>0) (C k) i) J:=zw λk I=>by unfold dw;rw[UY ⋯,UY ⋯,NF]
  rw[e,f];rcases Nc i n with z | z
  ·have U:zg (λk=>b k*qN n (λ_=>0) (C k) i) J=zg (λ_=>0) J:=zw λk _=>by rw[jo z];simp
   have Y:zg (λk=>t k*qN n (B k) (λ_=>0) i) s=zg (λk=>t k*B k i) s:=zw λk _=>by rw[jo z]
   rw[U,Y,zR,OY];exact o i z
  ·obtain⟨c,rfl⟩ : ∃c,i=n+c:=⟨i - n,by omega⟩
   have U:zg (λk=>t k*qN n (B k) (λ_=>0) (n+c)) s=zg (λ_=>0) s:=zw λk _=>by rw[jC];simp
   have Y:zg (λk=>b k*qN n (λ_=>0) (C k) (n+c)) J=zg (λk=>b k*C k c) J:=zw λk _=>by rw[jC]
   rw[U,Y,zR,Tz];exact d c ⋯
end
theorem kX{h c I:Nat}{f g:UV}(z:Vc)(i:Nat):app (lJ h c f g) (c+I) z i=if i<h then app f c z i else app g I (λj=>z<|c+j) (i - h):=by
 unfold app;rw[wj];unfold lJ;by_cases q:i<h
 ·have a:zg (λj=>(if i<h then qN c (f i) (λ_=>0)else qN c (λ_=>0) (g<|i - h)) j*z j) c=zg (λj=>f i j*z j) c:=zw λj O=>by rw[UJ q,jo O]
  have U:zg (λj=>(if i<h then qN c (f i) (λ_=>0)else qN c (λ_=>0) (g<|i - h)) (c+j)*z (c+j)) I=zg (λ_=>0) I:=zw λj O=>by rw[UJ q,jC];simp
  rw[a,U,zR,OY,UJ q]
 ·have a:zg (λj=>(if i<h then qN c (f i) (λ_=>0)else qN c (λ_=>0) (g<|i - h)) j*z j) c=zg (λ_=>0) c:=zw λj O=>by rw[UY q,jo O];simp
  have U:zg (λj=>(if i<h then qN c (f i) (λ_=>0)else qN c (λ_=>0) (g<|i - h)) (c+j)*z (c+j)) I=zg (λj=>g (i - h) j*z (c+j)) I:=zw λj O=>by rw[UY q,jC]
  rw[a,U,zR,Tz,UY q]
section
variable{p:Int}{w:UK}{wd wd':UX}{T T':UW}{m N N' N2:Nat}{A A' A2:Nat->f7}
noncomputable def lL(w:UK)(wd:UX)(T T':UW):Nat->Nat->Nat->Int:=λk=>lJ (fy w wd k) (fA w wd k) (T k)<|T' k
theorem JB{a b:Nat}{u v:Vc}:(∀i,i<a+b->u i%p=v i%p)↔(∀i,i<a->u i%p=v i%p)/\∀i,i<b->u (a+i)%p=v (a+i)%p:=
 ⟨λh=>⟨λi d=>h i ⋯,λi d=>h (a+i) ⋯⟩,λh i d=>by
  rcases Nc i a with z | z
  ·exact h.1 i z
  ·obtain⟨c,rfl⟩ : ∃c,i=a+c:=⟨i - a,by omega⟩
   exact h.2 c ⋯⟩
theorem UT{k:Nat}{y z:Vc}:Lk p w (λk=>wd k+wd' k) (lL w wd T T') k y z↔Lk p w wd T k y z/\Lk p w wd' T' k (λi=>y<|wd k+i) λi=>z (wd (k+1)+i):=by
 unfold Lk lL;cases hw:w k with
 | true=>
  have I:fA w wd k=wd (k+1):=by unfold fA;rw[hw];rfl
  have O:fy w wd k=wd k:=by unfold fy;rw[hw];rfl
  rw[I,O,UJ rfl,UJ rfl,UJ rfl,JB];refine and_congr ⟨λh i a=>?_,λh i a=>?_⟩ ⟨λh i a=>?_,λh i a=>?_⟩
  ·have:=h i a;rw[kX,UJ a]at this;exact this
  ·rw[kX,UJ a];exact h i a
  ·have:=h i a;rw[kX,UY ⋯,NF]at this;exact this
  ·rw[kX,UY ⋯,NF];exact h i a
 | false=>
  have I:fA w wd k=wd k:=by unfold fA;rw[hw];rfl
  have O:fy w wd k=wd (k+1):=by unfold fy;rw[hw];rfl
  rw[I,O,UY Nq,UY Nq,UY Nq,JB];refine and_congr ⟨λh i a=>?_,λh i a=>?_⟩ ⟨λh i a=>?_,λh i a=>?_⟩
  ·have:=h i a;rw[kX,UJ a]at this;exact this
  ·rw[kX,UJ a];exact h i a
  ·have:=h i a;rw[kX,UY ⋯,NF]at this;exact this
  ·rw[kX,UY ⋯,NF];exact h i a
theorem Iz{k:Nat}{y I z:Vc}(h:Lk p w wd T k y z)(O : ∀i,i<wd k->I i%p=y i%p):Lk p w wd T k I z:=by
 unfold Lk at *;split
 ·next b=>rw[UJ b]at h;intro i a;rw[O i a,h i a]
 ·next b=>rw[UY b]at h;intro i a;rw[h i a];exact(jV O i).symm
theorem Yn(d:Nat) : ∀(n:Nat) {u z:Vc},Wk p w (λk=>wd k+wd' k) (lL w wd T T') d n u z↔Wk p w wd T d n u z/\Wk p w wd' T' d n (λi=>u<|wd d+i) λi=>z (wd (d+n)+i)
 | 0,u,z=>JB
 | n+1,u,z=>by
  constructor
  ·rintro⟨y,b,e⟩
   obtain⟨O,U⟩:=(Yn d n).mp b;obtain⟨b1,b2⟩:=UT.mp e;exact⟨⟨y,O,b1⟩,⟨_,U,b2⟩⟩
  ·rintro⟨⟨y,O,b1⟩,⟨I,U,b2⟩⟩
   refine⟨qN (wd<|d+n) y I,(Yn d n).mpr ⟨mf O λi a=>by rw[jo a],?_⟩,UT.mpr ⟨Iz b1 λi a=>by rw[jo a],?_⟩⟩
   ·rw[show(λi=>qN (wd<|d+n) y I<|wd (d+n)+i)=I from funext λi=>jC i]
    exact U
   ·rw[show(λi=>qN (wd<|d+n) y I<|wd (d+n)+i)=I from funext λi=>jC i]
    exact b2
theorem Az(K z:List (Nat×Nat))(a b:Int):mm (K++z) a b=mm K a b+mm z a b:=Tj ..
end
section
variable{p:Int}{w:UK}{wd wd':UX}{T T':UW}{m N N' N2:Nat}{A A' A2:Nat->f7}
theorem bH(I:Pr p)(D:l4 p w wd T m N A){a n:Nat}(O:a+n<=m) : ∃(s q:Nat) (B C:Nat->Vc) (l J:UX),h7 p (wd a) s B l/\(∀u,Span p (wd a) (eF s B) u ↔ ∃z,Wk p w wd T a n u z)/\h7 p (wd a) q C J/\∀u,Span p (wd a) (eF q C) u↔Wk p w wd T a n u λ_=>0:=by obtain⟨s,_,B,l,U,Y⟩:=wA (n:=wd a) I N<|C1 w A a n eh;obtain⟨q,_,C,J,b,e⟩:=wA (n:=wd a) I N<|C1 w A a n d7;exact⟨s,q,B,C,l,J,U,λu=>(Y u).trans ((KF D O eh u).trans ⟨λ⟨y,h,_⟩=>⟨y,h⟩,λ⟨y,h⟩=>⟨y,h,λq=>nomatch q⟩⟩),b,λu=>(e u).trans ((KF D O d7 u).trans ⟨λ⟨y,h,d⟩=>mf h λi _=>by rw[d rfl i];simp,λh=>⟨_,h,λ_ _=>by simp⟩⟩)⟩
theorem AH(I:Pr p)(D:l4 p w wd T m N A)(O:l4 p w wd' T' m N' A')(J:l4 p w (λk=>wd k+wd' k) (lL w wd T T') m N2 A2){a b:Nat}(U:a<=b)(L:b<=m) :
 mm (KQ A2 N2) a b=mm (KQ A N) a b+mm (KQ A' N') a b:=by
 obtain⟨s,q,B,E,l,K,f1,f2,f,g⟩:=bH I D (a:=a) (n:=b - a) ⋯;obtain⟨P,M,C,F,H,G,g1,g2,g3,h⟩:=bH I O (a:=a) (n:=b - a) ⋯;have j:=wV I D (n:=b - a) ⋯ f1 f2 f g;have o:=wV I O (n:=b - a) ⋯ g1 g2 g3 h;have r:=wV I J (d:=a) (n:=b - a) ⋯ (lI f1 g1 I.pos) (λu=>by
  rw[bG,f2,g2];constructor
  ·rintro⟨⟨z,Y⟩,⟨e,t⟩⟩
   refine⟨qN (wd<|a+(b - a)) z e,(Yn a<|b - a).mpr ⟨mf Y λi x=>by rw[jo x],?_⟩⟩;rw[show(λi=>qN (wd<|a+(b - a)) z e<|wd (a+(b - a))+i)=e from funext λi=>jC i];exact t
  ·rintro⟨z,Y⟩
   obtain⟨x1,y⟩:=(Yn a<|b - a).mp Y;exact⟨⟨z,x1⟩,⟨_,y⟩⟩) (lI f g3 I.pos) λu=>by
  rw[bG,g,h];exact(Yn a<|b - a).symm
 rw[show a+(b - a)=b by omega]at j o r;rw[Vx D U]at j;rw[Vx O U]at o;rw[Vx J U]at r;omega
theorem pM(C:Pr p)(D:l4 p w wd T m N A)(O:l4 p w wd' T' m N' A')(I:l4 p w (λk=>wd k+wd' k) (lL w wd T T') m N2 A2):(KQ A2 N2).Perm (KQ A N++KQ A' N'):=by
 have U : ∀x,x∈KQ A N++KQ A' N'->x∈stN (m+1):=λx d=>by
  rcases OS.mp d with z | z
  ·exact vf D x z
  ·exact vf O x z
 refine List.perm_iff_count.mpr λs=>?_;have e : ∀K:List (Nat×Nat),K.count s=ro K s:=λK=>by unfold ro List.count;exact Oz λx _=>by simp
 rw[e,e];by_cases Y:s.1<=s.2
 ·exact aN (M:=m+1) (vf I) U (λa b f g=>by rw[Az];exact AH C D O I f ⋯) Y
 ·have z : ∀K:List (Nat×Nat),(∀x,x∈K->x∈stN (m+1))->ro K s=0:=λK h=>by
   unfold ro;rw[Rc];intro x d q;have:=(L1.mp<|h x d).1;have q:=of_decide_eq_true q;rw[q]at this;exact Y this
  rw[z _ (vf I),z _ U]
theorem pQ(z:Pr p)(I : ∀k,wd k+wd' k<=8)(C:m<=5)(O : ∀k i j,0<=T k i j/\T k i j<p)(U : ∀k i j,0<=T' k i j/\T' k i j<p)(D:l4 p w wd T m N A)(Y:l4 p w wd' T' m N' A') : ∃ts us K,qI [z9 p m w (λk=>wd k+wd' k) (lL w wd T T')]=dn (.val<|xi K ts us)/\K.Perm (ql A N++ql A' N')/\(∀b∈K,ZN ((m+1:Nat):Int) b):=by
 have h:=z.pos;have g : ∀k i j,0<=lL w wd T T' k i j/\lL w wd T T' k i j<p:=λk i j=>by unfold lL lJ qN;split<;>dsimp only<;>split<;>first | exact O _ _ _ | exact U _ _ _ | exact⟨Int.le_refl _,h⟩
 obtain⟨N2,A2,ts,us,_,a,T9,d,_,_,_,f,_⟩:=Kc (w:=w) (wd:=λk=>wd k+wd' k) (T:=lL w wd T T') (m:=m) z I C λk i j _ _ _=>g k i j;refine⟨ts,us,ql A2 N2,f,?_,d⟩;have e : ∀(X:Nat->f7) (M:Nat),ql X M=(KQ X M).map λs=>((s.1:Int),(s.2:Int)):=λX M=>by unfold ql KQ;rw[Nm];rfl
 rw[e,e,e,<- NR];exact(pM z D Y a).map _
end
section ap
variable(γ:Ctx)
@[simp] def Ir:=@GR.eq_1
@[simp] def Ld:=@Mo.eq_1
@[simp] theorem Ia(f):BI f γ=((f γ).bind ml).map λi=> .int (-i):=rfl
@[simp] theorem HS(f l h):FC f l h γ=(f γ).bind λa=>(l γ).bind λlo=>(h γ).bind λhi=>match a.1 with
 | .L=>dn (iZ a.2 lo hi)
 | .T=>ed:=rfl
@[simp] def Bf:=@FF.eq_1
end ap
theorem sI:Xj=jk 15 (zL sQ<|zL sP<|zL sO<|zL sN<|zL sM<|zL sL<|zL mO<|zL mN<|zL sJ<|zL Ys<|zL dQ rC):=rfl
section
variable{p:Int}{m:Nat}{w:UK}{bs lh jn:List (Int×Int)}{c:Int×Int}
theorem AA(L:m<=5)(C : ∀b∈lh,ZN ((m+1:Nat):Int) b)(J : ∀b∈jn,ZN ((m+1:Nat):Int) b)(S:lh.length<=lim)(Z:jn.length<=lim):kN [.str (jW m w),.lst<|zH lh,.lst (zH jn)]=dn (.val<|.int<|vt<|lh.map λb=>vt<|jn.map λc=>o7 w b c):=by
 have d : ∀b∈lh,∀c∈jn,jE [.str (jW m w),.tup [.int b.1,.int b.2],.tup [.int c.1,.int c.2]]=dn (.val<|.int<|o7 w b c):=λb z c I=>by rw[nS (C b z),nS (J c I)];obtain⟨x1,e,x3⟩:=C b z;obtain⟨f,g,h⟩:=J c I;exact mU L ⋯ ⋯ ⋯ ⋯
 have U:(zH lh).length<=lim:=by simpa using S
 have Y:(zH jn).length<=lim:=by simpa using Z
 have a0 : ∀b∈lh,JO (jj<|zM (zK<|ze 2) (.nm 0) 1 [0,1] jd (zA jE<|zb (zc 2)<|zb (zc 1)<|zb (zc 0) zB)) [.val (.tup [.int b.1,.int b.2]),.val<|.str<|jW m w,.val (.lst<|zH jn)]=dn (.int<|vt<|jn.map λc=>o7 w b c):=λb z=>by
  have a:zT (.nm 0) jd (zA jE<|zb (zc 2)<|zb (zc 1)<|zb (zc 0) zB) [Cell.no,.val<|.tup [.int b.1,.int b.2],.val (.str<|jW m w)] (zH jn)=dn (jn.map λc=>D.int<|o7 w b c):=by unfold zH;exact zv _ _ λc I=>zx (γ1:=[.val (.tup [.int c.1,.int c.2]),.val<|.tup [.int b.1,.int b.2],.val (.str<|jW m w)]) rfl rfl (by simp[d b z c I])
  have O:YF (jn.map λc=>D.int<|o7 w b c)=dn (vt<|jn.map λc=>o7 w b c):=by rw[<- yW,Nm];rfl
  rw[ZM,xy,jM,show zK (ze 2) [Cell.val (.tup [.int b.1,.int b.2]),.val<|.str<|jW m w,.val (.lst<|zH jn)]=dn (zH jn)from rfl];simp only[MG,Y,if_true];rw[show ja 1 [0,1] [Cell.val (.tup [.int b.1,.int b.2]),.val<|.str<|jW m w,.val (.lst<|zH jn)]=[Cell.no,.val<|.tup [.int b.1,.int b.2],.val (.str<|jW m w)]from rfl,a];simp[O]
 have a:zT (.nm 0) jd (JO<|jj<|zM (zK<|ze 2) (.nm 0) 1 [0,1] jd (zA jE<|zb (zc 2)<|zb (zc 1)<|zb (zc 0) zB)) [Cell.no,.val<|.str<|jW m w,.val (.lst<|zH jn)] (zH lh)=dn (lh.map λb=>D.int<|vt<|jn.map λc=>o7 w b c):=by
  conv=>lhs;rw[show zH lh=lh.map (λb=>D.tup [.int b.1,.int b.2])from rfl]
  exact zv _ _ λb z=>zx (γ1:=[.val (.tup [.int b.1,.int b.2]),.val<|.str<|jW m w,.val (.lst<|zH jn)]) rfl rfl<|a0 b z
 have O:YF (lh.map λb=>D.int<|vt<|jn.map λc=>o7 w b c)=dn (vt<|lh.map λb=>vt<|jn.map λc=>o7 w b c):=by rw[<- yW,Nm];rfl
 unfold kN;refine jl ?_;show j5 _ [Cell.val (.str<|jW m w),.val<|.lst<|zH lh,.val (.lst<|zH jn)]=_;rw[yn,ZM,xy,jM,show zK (ze 1) [Cell.val (.str<|jW m w),.val<|.lst<|zH lh,.val (.lst<|zH jn)]=dn (zH lh)from rfl];simp only[MG,U,if_true];rw[show ja 1 [0,2] [Cell.val (.str<|jW m w),.val<|.lst<|zH lh,.val (.lst<|zH jn)]=[Cell.no,.val<|.str<|jW m w,.val (.lst<|zH jn)]from rfl,a];simp[O]
structure r0(p:Int)(m:Nat)(w:UK)(x:D×List (Int×Int)):Prop where
 st : ∀b∈x.2,ZN ((m+1:Nat):Int) b
 le:x.2.length<=60
 ex : ∃wd T K ts us,x.1=z9 p m w wd T/\qI [x.1]=dn (.val<|xi K ts us)/\K.Perm x.2
theorem pE{x y:D×List (Int×Int)}(C:m<=5)(hx:r0 p m w x)(J:r0 p m w y) : ∃v,xn [x.1,y.1]=dn (.val<|.int v)/\kN [.str (jW m w),.lst<|zH x.2,.lst (zH y.2)]=dn (.val<|.int v):=by have u:=js;obtain⟨X,t⟩:=x;obtain⟨Y,s⟩:=y;obtain⟨O,A,j,o,l,f,h,d,f1,z⟩:=hx;obtain⟨U,B,k,r,n,g,i,e,f2,a⟩:=J;dsimp only at *;subst d e;refine⟨_,pF C (λb I=>O b<|z.mem_iff.mp I) (λb I=>U b<|a.mem_iff.mp I) (by rw[z.length_eq];omega) (by rw[a.length_eq];omega) f1 f2,?_⟩;rw[AA C O U ⋯ ⋯,YB,YC (a.map _)];congr 3;refine congrArg vt<|MQ λc _=>(YC<|z.map _).symm
abbrev xI(x:D×List (Int×Int)):D:= .tup [x.1,.lst (zH x.2)]
theorem sk{x y:D×List (Int×Int)}(hm:m<=5)(hx:r0 p m w x)(Y:r0 p m w y)(z I O U C J L S Z a0:Cell) : ∃a1,dP [z,I,O,U,.val<|.str<|jW m w,C,J,L,S,Z,.val x.1,.val<|.lst<|zH x.2,.val y.1,.val<|.lst<|zH y.2,a0]=dn (.next [z,I,O,U,.val<|.str<|jW m w,C,J,L,S,Z,.val x.1,.val<|.lst<|zH x.2,.val y.1,.val<|.lst<|zH y.2,a1]):=by obtain⟨v,a,b⟩:=pE hm hx Y;refine⟨.val<|.int v,?_⟩;have d:=Xg v;unfold dP;refine zo (γ':=[z,I,O,U,.val<|.str<|jW m w,C,J,L,S,Z,.val x.1,.val<|.lst<|zH x.2,.val y.1,.val<|.lst<|zH y.2,.val (.int v)]) (by simp[a]) ?_;simp[d,b]
theorem Ag{x O I:D×List (Int×Int)}{r:List D}(hm:m<=5)(hx:r0 p m w x)(h1:r0 p m w O)(h2:r0 p m w I)(hr:r.length<=1)(U Y C J L S Z c8 a3 a4 a2:Cell) : ∃a7 a8 a9,dO [U,Y,C,J,.val<|.str<|jW m w,L,S,Z,c8,.val<|.lst (xI O::xI I::r),.val x.1,.val<|.lst<|zH x.2,a3,a4,a2]=dn (.next [U,Y,C,J,.val<|.str<|jW m w,L,S,Z,c8,.val<|.lst (xI O::xI I::r),.val x.1,.val<|.lst<|zH x.2,a7,a8,a9]):=by
 have g:=js;have a:zK (zE<|j3<|FC (ze 9) VS<|pe<|zq<|.int 2) [U,Y,C,J,.val<|.str<|jW m w,L,S,Z,c8,.val<|.lst (xI O::xI I::r),.val x.1,.val<|.lst<|zH x.2,a3,a4,a2]=dn [xI O,xI I]:=by
  match r,hr with
  | [],_=>rfl
  | [z],_=>rfl
 obtain⟨b,e⟩:=sk hm hx h1 U Y C J L S Z c8 (.val<|.lst (xI O::xI I::r)) a2;obtain⟨d,f⟩:=sk hm hx h2 U Y C J L S Z c8 (.val<|.lst (xI O::xI I::r)) b;refine⟨.val I.1,.val<|.lst<|zH I.2,d,?_⟩;unfold dO;rw[Zj,a,MG,ju];show((dP [U,Y,C,J,.val<|.str<|jW m w,L,S,Z,c8,.val<|.lst (xI O::xI I::r),.val x.1,.val<|.lst<|zH x.2,.val O.1,.val<|.lst<|zH O.2,a2]).bind _)=_;rw[e,MG];show qL _ _ _ _=_;rw[ju];show((dP [U,Y,C,J,.val<|.str<|jW m w,L,S,Z,c8,.val<|.lst (xI O::xI I::r),.val x.1,.val<|.lst<|zH x.2,.val I.1,.val<|.lst<|zH I.2,b]).bind _)=_;rw[f];rfl
theorem gr{y1 y2:D×List (Int×Int)}{r:List D}(hm:m<=5)(h1:r0 p m w y1)(h2:r0 p m w y2)(hr:r.length<=1)(U Y S Z c5 c6 c7 c8:Cell) : ∀(L:List (D×List (Int×Int))) (C J z I O:Cell),(∀x∈L,r0 p m w x)->∃a5 a6 a7 a8 a9,qL (.tp [10,11]) dO (L.map xI) [U,Y,S,Z,.val<|.str<|jW m w,c5,c6,c7,c8,.val<|.lst (xI y1::xI y2::r),C,J,z,I,O]=dn (.next [U,Y,S,Z,.val<|.str<|jW m w,c5,c6,c7,c8,.val<|.lst (xI y1::xI y2::r),a5,a6,a7,a8,a9])
 | [],C,J,z,I,O,_=>⟨C,J,z,I,O,rfl⟩
 | x::L,C,J,z,I,O,h=>by obtain⟨a,b,d,e⟩:=Ag hm (h x MX) h1 h2 hr U Y S Z c5 c6 c7 c8 z I O;obtain⟨f,g,i,as,j,k⟩:=gr hm h1 h2 hr U Y S Z c5 c6 c7 c8 L (.val x.1) (.val<|.lst<|zH x.2) a b d λy l=>h y<|MT _ l;refine⟨f,g,i,as,j,?_⟩;rw[Nk,ju];show((dO [U,Y,S,Z,.val<|.str<|jW m w,c5,c6,c7,c8,.val<|.lst (xI y1::xI y2::r),.val x.1,.val<|.lst<|zH x.2,z,I,O]).bind _)=_;rw[e];exact k
end
theorem Hq(C:List Int)(U:C.length<=63):Xj [XB C]=dn (.val<|.bl d7):=by
 have hl:=js;obtain⟨e1,R,b1⟩:=WL U (k:=0) ⋯ ⋯;generalize yi C 0=c at e1 R b1;obtain⟨q,O,ep,bm⟩:=CD R;have y:=O.pos;obtain⟨m,em,hm⟩ : ∃m:Nat,1+c/4%5=1+(m:Int)/\m<=4:=⟨(c/4%5).toNat,by omega,by omega⟩;obtain⟨n1,bt,db⟩ : ∃n:Nat,c/1000%5=(n:Int)/\n<=4:=⟨(c/1000%5).toNat,by omega,by omega⟩;obtain⟨n2,bx,dd⟩ : ∃n:Nat,c/7000%5=(n:Int)/\n<=4:=⟨(c/7000%5).toNat,by omega,by omega⟩;obtain⟨w,ew⟩:=Bk (c:=c/20) ⋯ (m:=m) ⋯;have c1:((m+1:Nat):Int)=1+(m:Int):=by omega
 obtain⟨d,r1,Y,l1⟩:=JG U (t:=1) ⋯ ⋯ (r:=m+1) (n:=n1) ⋯ ⋯ ⋯;obtain⟨e,r2,o,u⟩:=JG U (t:=8) ⋯ ⋯ (r:=m+1) (n:=n2) ⋯ ⋯ ⋯;rw[c1]at r1 r2;obtain⟨f1,g1,S,cb⟩:=BU (w:=w) U O (show m<=5 by omega) (show d.length<=16 by omega) Y (a:=16) ⋯ ⋯;obtain⟨f2,g2,as,cd⟩:=BU (w:=w) U O (show m<=5 by omega) (show e.length<=16 by omega) o (a:=70) ⋯ ⋯;have A : ∀k,bW d k<=4:=λk=>by have:=EY d k;omega
 have B : ∀k,bW e k<=4:=λk=>by have:=EY e k;omega
 let g:=jS (q:Int) w (bW d) f1 g1<|bT w d;let h:=jS (q:Int) w (bW e) f2 g2<|bT w e;have X : ∀k i j,0<=g k i j/\g k i j<(q:Int):=λk i j=>Kl y w (bW d) f1 g1 (bT w d) k i j;have Z : ∀k i j,0<=h k i j/\h k i j<(q:Int):=λk i j=>Kl y w (bW e) f2 g2 (bT w e) k i j;have N:l4 (q:Int) w (bW d) g m d.length λj=>JD q (bW d) f1 (Vf (bS d) (bE d) d.length j):=Yx y (λr s=>(S r ⋯).fg) (λr s=>(S r ⋯).gf)<|aV (p:=(q:Int)) (w:=w) (m:=m) O λj J=>(lQ Y J).2;have Q:l4 (q:Int) w (bW e) h m e.length λj=>JD q (bW e) f2 (Vf (bS e) (bE e) e.length j):=Yx y (λr s=>(as r ⋯).fg) (λr s=>(as r ⋯).gf)<|aV (p:=(q:Int)) (w:=w) (m:=m) O λj J=>(lQ o J).2;have k1:ql (λj=>JD (q:Int) (bW d) f1<|Vf (bS d) (bE d) d.length j) d.length=d:=aU Y;have k2:ql (λj=>JD (q:Int) (bW e) f2<|Vf (bS e) (bE e) e.length j) e.length=e:=aU o;obtain⟨Uh,Uj,b9⟩:=lO O (λk=>by have:=A k;omega) (show m<=5 by omega) X N;obtain⟨Ui,Uk,bd⟩:=lO O (λk=>by have:=B k;omega) (show m<=5 by omega) Z Q;rw[k1]at b9;rw[k2]at bd;obtain⟨di,dj,K,ce,pK,sK⟩:=pQ O (λk=>by have:=A k;have:=B k;omega) (show m<=5 by omega) X Z N Q;rw[k1,k2]at pK;let z:=z9 (q:Int) m w (bW d) g;let R2:=z9 (q:Int) m w (bW e) h;let l:=z9 (q:Int) m w (λk=>bW d k+bW e k)<|lL w (bW d) g h;have E:r0 (q:Int) m w (z,d):=⟨Y,by show d.length<=60;omega,_,_,_,_,_,rfl,b9,kD d⟩;have F:r0 (q:Int) m w (R2,e):=⟨o,by show e.length<=60;omega,_,_,_,_,_,rfl,bd,kD e⟩;have G3:r0 (q:Int) m w (l,d++e):=⟨λb hb=>(OS.mp hb).elim (Y b) (o b),by show(d++e).length<=60;rw[NZ];omega,_,_,_,_,_,rfl,ce,pK⟩;have cj:=aZ (p:=(q:Int)) hm w (wd:=bW d) (λk=>by have:=A k;omega) g;have cl:=aZ (p:=(q:Int)) hm w (wd:=bW e) (λk=>by have:=B k;omega) h;have bb:=(pP (p:=(q:Int)) (m:=m) (w:=w) (wd:=bW d) (wd':=bW e) (T:=g) (T':=h) ⋯ (λk=>by have:=A k;omega) (λk=>by have:=B k;omega)).1;have co:JO (zE<|eg (ze 7)<|zq<|.int 1) [.val (XB C),.val<|.int c,.val<|.int q,.val<|.int<|1+(m:Int),.val<|.str<|jW m w,.val<|.lst<|zH d,.val<|.lst<|zH e,.val z,.val R2,.own [xI (z,d),xI (R2,e)],.no,.no,.no,.no,.no]=dn (.int<|zg (λk=>(bW d k:Int))<|m+1):=by rw[ZM,show zE (eg (ze 7)<|zq<|.int 1) [.val (XB C),.val<|.int c,.val<|.int q,.val<|.int<|1+(m:Int),.val<|.str<|jW m w,.val<|.lst<|zH d,.val<|.lst<|zH e,.val z,.val R2,.own [xI (z,d),xI (R2,e)],.no,.no,.no,.no,.no]=dn (.T,zD (m+1) λk=>(bW d k:Int))from rfl];simp[x6]
 have cq:JO (zE<|eg (ze 8)<|zq<|.int 1) [.val (XB C),.val<|.int c,.val<|.int q,.val<|.int<|1+(m:Int),.val<|.str<|jW m w,.val<|.lst<|zH d,.val<|.lst<|zH e,.val z,.val R2,.own [xI (z,d),xI (R2,e)],.no,.no,.no,.no,.no]=dn (.int<|zg (λk=>(bW e k:Int))<|m+1):=by rw[ZM,show zE (eg (ze 8)<|zq<|.int 1) [.val (XB C),.val<|.int c,.val<|.int q,.val<|.int<|1+(m:Int),.val<|.str<|jW m w,.val<|.lst<|zH d,.val<|.lst<|zH e,.val z,.val R2,.own [xI (z,d),xI (R2,e)],.no,.no,.no,.no,.no]=dn (.T,zD (m+1) λk=>(bW e k:Int))from rfl];simp[x6]
 let γ:Cell->Cell->Cell->Cell->Cell->Cell->Cell->Cell->Ctx:=λc2 c3 c4 c5 c6 c7 c8 c9=>[.val (XB C),.val<|.int c,c2,c3,c4,c5,c6,c7,c8,c9,.no,.no,.no,.no,.no];let P:=Cell.val<|.int q;let M:=Cell.val<|.int<|1+(m:Int);let W:=Cell.val<|.str<|jW m w;let I:=Cell.val<|.lst<|zH d;let f:=Cell.val<|.lst<|zH e;obtain⟨L,r,cw,eL,s,gL⟩ : ∃(L:List (D×List (Int×Int))) (r:List D),Ys (γ P M W I f (.val z) (.val R2)<|.own [xI (z,d),xI (R2,e)])=dn (.next<|γ P M W I f (.val z) (.val R2)<|.own<|L.map xI)/\L.map xI=xI (z,d)::xI (R2,e)::r/\r.length<=1/\∀x∈L,r0 (q:Int) m w x:=by
  have bg:zG lx (zG qo (JO<|zE<|eg (ze 7)<|zq<|.int 1)<|JO<|zE<|eg (ze 8)<|zq<|.int 1) (zq<|.int 30) (γ P M W I f (.val z) (.val R2)<|.own [xI (z,d),xI (R2,e)])=dn (.bl<|decide<|zg (λk=>(bW d k:Int)) (m+1)+zg (λk=>(bW e k:Int)) (m+1)<=30):=by rw[kY,kY,show JO (zE<|eg (ze 7)<|zq<|.int 1) (γ P M W I f (.val z) (.val R2)<|.own [xI (z,d),xI (R2,e)])=_ from co,show JO (zE<|eg (ze 8)<|zq<|.int 1) (γ P M W I f (.val z) (.val R2)<|.own [xI (z,d),xI (R2,e)])=_ from cq];simp
  by_cases t:zg (λk=>(bW d k:Int)) (m+1)+zg (λk=>(bW e k:Int)) (m+1)<=30
  ·refine⟨[(z,d),(R2,e),(l,d++e)],[xI (l,d++e)],?_,rfl,MM _,λx hx=>?_⟩
   ·have be:vI [z,R2]=dn (.val l):=(bb t).1
    have lc:(zH d).length+(zH e).length<=lim:=by simp;omega
    have ca:j3 (JP (ze 5)<|ze 6) (γ P M W I f (.val z) (.val R2)<|.own [xI (z,d),xI (R2,e)])=dn (.lst<|zH<|d++e):=by rw[show zH (d++e)=zH d++zH e from NR ..];simp[γ,I,f,P,M,W];omega
    have u:2<lim:=by omega
    unfold Ys;rw[v9,bJ,bg,decide_eq_true t];show qe 9 (qA<|zb (zA vI<|zb (zc 7)<|zb (zc 8) zB)<|zb (j3<|JP (ze 5)<|ze 6) zB) (γ P M W I f (.val z) (.val R2)<|.own [xI (z,d),xI (R2,e)])=_;rw[qV,ym,jb,jb,ca,show zA vI (zb (zc 7)<|zb (zc 8) zB) (γ P M W I f (.val z) (.val R2)<|.own [xI (z,d),xI (R2,e)])=dn l by simp[γ,be]];show(if 2<lim then _ else ed)=_;rw[UJ u];rfl
   ·rcases MS.mp hx with rfl | hx
    ·exact E
    ·rcases MS.mp hx with rfl | hx
     ·exact F
     ·rw[OD.mp hx];exact G3
  ·refine⟨[(z,d),(R2,e)],[],?_,rfl,by simp,λx hx=>?_⟩
   ·unfold Ys
    rw[v9,bJ,bg,decide_eq_false t];rfl
   ·rcases MS.mp hx with rfl | hx
    ·exact E
    ·rw[OD.mp hx];exact F
 obtain⟨G,H,d2,d3,d4,ou⟩:=gr (show m<=5 by omega) E F s (.val<|XB C) (.val<|.int c) P M I f (.val z) (.val R2) L .no .no .no .no .no gL;have d6:dQ (γ P M W I f (.val z) (.val R2)<|.own<|L.map xI)=dn (.next [.val (XB C),.val<|.int c,P,M,W,I,f,.val z,.val R2,.val<|.lst (xI (z,d)::xI (R2,e)::r),G,H,d2,d3,d4]):=by rw[<- ou,eL];rfl
 rw[sI];have s7:mO (γ P M W I f .no .no .no)=dn (.next<|γ P M W I f (.val z) .no .no):=by simp[mO,γ,P,M,W,I,f,cb];exact⟨_,cj,rfl⟩
 have s8:mN (γ P M W I f (.val z) .no .no)=dn (.next<|γ P M W I f (.val z) (.val R2) .no):=by simp[mN,γ,P,M,W,I,f,cd];exact⟨_,cl,rfl⟩
 refine jl<|zo (γ':=γ .no .no .no .no .no .no .no .no) (by simp[sQ,z7,e1,γ])<|zo (γ':=γ P .no .no .no .no .no .no .no) (by simp[sP,γ,bm,ep,P])<|zo (γ':=γ P M .no .no .no .no .no .no) (by simp[sO,γ,em,P,M])<|zo (γ':=γ P M W .no .no .no .no .no) (by simp[sN,γ,ew,W,P,M])<|zo (γ':=γ P M W I .no .no .no .no) (by simp[sM,γ,bt,r1,I,P,M,W])<|zo (γ':=γ P M W I f .no .no .no) (by simp[sL,γ,bx,r2,f,I,P,M,W])<|zo s7<|zo s8<|zo (γ':=γ P M W I f (.val z) (.val R2)<|.own [xI (z,d),xI (R2,e)]) ?_ (zo cw<|zo d6 rfl);have u:2<=lim:=by omega
 simp[sJ,γ,I,f,u]
open PySem.Spec PyProof.Rows
noncomputable def top(i:Nat):PySem.Stmt:=PySem.Challenge.pw_barsplit_k39_ways_counted.main.body.getD i<|.Pass ⟨0,0,0,0⟩
section
variable{CR CL:PySem.Addr}{P:PySem.Program}{w:PySem.World}{K:MC}{mg:PySem.Str->Option PySem.Value}{base:PySem.Heap}
theorem Ws(h:us.length=n+1) : ∃a t,us=a::t/\t.length=n:=by
 cases us with
 | nil=>exact absurd h<|Nat.zero_ne_add_one n
 | cons a t=>exact⟨a,t,rfl,Nat.succ.inj h⟩
theorem Mx(h:us.length=1) : ∃a,us=[a]:=by obtain⟨a,I,rfl,z⟩:=Ws h;rw[NL z];exact⟨a,rfl⟩
theorem Mw(h:us.length=2) : ∃a b,us=[a,b]:=by obtain⟨a,I,rfl,z⟩:=Ws h;obtain⟨b,O,rfl,d⟩:=Ws z;rw[NL d];exact⟨a,b,rfl⟩
theorem Mv(h:us.length=3) : ∃a b c,us=[a,b,c]:=by obtain⟨a,I,rfl,z⟩:=Ws h;obtain⟨b,O,rfl,d⟩:=Ws z;obtain⟨c,U,rfl,e⟩:=Ws d;rw[NL e];exact⟨a,b,c,rfl⟩
theorem Mu(h:us.length=4) : ∃a b c d,us=[a,b,c,d]:=by obtain⟨a,O,rfl,z⟩:=Ws h;obtain⟨b,U,rfl,e⟩:=Ws z;obtain⟨c,Y,rfl,f⟩:=Ws e;obtain⟨d,g,rfl,I⟩:=Ws f;rw[NL I];exact⟨a,b,c,d,rfl⟩
theorem Mt{C:Type}{us:List C}(h:us.length=5) : ∃a b c d e,us=[a,b,c,d,e]:=by obtain⟨a,U,rfl,z⟩:=Ws h;obtain⟨b,Y,rfl,f⟩:=Ws z;obtain⟨c,i,rfl,g⟩:=Ws f;obtain⟨d,j,rfl,I⟩:=Ws g;obtain⟨e,k,rfl,O⟩:=Ws I;rw[NL O];exact⟨a,b,c,d,e,rfl⟩
structure E0(K:MC)(mg:PySem.Str->Option PySem.Value):Prop where
 Q0:hH K mg "_law_cell" (top 55) ["_law_script","_law_k"]
 Q1:hH K mg "_law_ways" (top 59) ["_law_cell_here","_law_rooms"]
 Q2:hH K mg "_law_stretches" (top 58) ["_law_script","_law_at","_law_many","_law_rooms"]
 Q3:hH K mg "_law_ends" (top 57) ["_law_ways_here","_law_k"]
 Q4:hH K mg "_law_handed" (top 64) ["_law_p","_law_ways_here","_law_row_here"]
 Q5:hH K mg "_law_bar_tables" (top 61) ["_law_ways_here","_law_bars"]
 Q6:hH K mg "_law_times" (top 60) ["_law_p","_law_one","_law_other","_law_wide"]
 Q7:hH K mg "_law_turn" (top 62) ["_law_script","_law_at","_law_p","_law_size"]
 Q8:hH K mg "_law_row" (top 63) ["_law_script","_law_at","_law_p","_law_ways_here","_law_bars"]
 Q9:hH K mg "ways_of" (top 38) ["row"]
 Qa:hH K mg "one_kind" (top 39) ["one","other"]
 Qb:hH K mg "ask_one_kind" (top 40) ["one","other"]
 Qc:hH K mg "behind_noughts" (top 16) ["many","base"]
 Qd:hH K mg "rests" (top 6) ["p","numbers"]
 Qe:hH K mg "inverse" (top 7) ["p","x"]
 Qf:hH K mg "cleared" (top 14) ["p","load","pivot","place"]
 Qg:hH K mg "base_of" (top 15) ["p","long","loads"]
 Qh:hH K mg "turned_over" (top 9) ["table"]
 Qi:hH K mg "same_table" (top 10) ["many"]
 Qj:hH K mg "led_into" (top 17) ["p","table","base"]
 Qk:hH K mg "kernel" (top 18) ["p","table"]
 Ql:hH K mg "image" (top 19) ["p","table"]
 Qm:hH K mg "columns" (top 26) ["high","loads"]
 Qn:hH K mg "has_room" (top 24) ["bar","room"]
 Qo:hH K mg "loads_in" (top 25) ["bars","room"]
 Qp:hH K mg "lead_of" (top 13) ["load"]
 Qq:hH K mg "led" (top 8) ["p","table","load"]
 Qr:hH K mg "mixed_load" (top 27) ["row","bars","times","room"]
 Qs:hH K mg "mixed" (top 28) ["row","bars","times"]
 Qt:hH K mg "settled" (top 29) ["row","k","bars"]
 Qu:hH K mg "solved" (top 20) ["p","table","load"]
 Qv:hH K mg "next_load" (top 30) ["p","arrow","load"]
 Qw:hH K mg "taken_on" (top 31) ["p","arrow","bar"]
 Qx:hH K mg "new_loads" (top 32) ["p","arrow"]
 Qy:hH K mg "grown" (top 33) ["row","k","bars"]
 Qz:hH K mg "stretch_of" (top 23) ["bar"]
 n_:hH K mg "all_grown" (top 34) ["row"]
 o_:hH K mg "back_of" (top 21) ["p","table"]
 p_:hH K mg "barred" (top 35) ["row"]
 q_:hH K mg "left_holds" (top 43) ["ways","one","other"]
 r_:hH K mg "right_holds" (top 44) ["ways","one","other"]
 s_:hH K mg "bar_ways" (top 45) ["ways","one","other"]
 t_:hH K mg "ways_into" (top 46) ["ways","bars","bar"]
 u_:hH K mg "count_ways" (top 47) ["one","other"]
 v_:hH K mg "ask_together" (top 41) ["widths"]
 w_:hH K mg "widths_together" (top 51) ["one","other"]
 x_:hH K mg "tables_joined" (top 49) ["one","other","join"]
 y_:hH K mg "joined" (top 52) ["one","other","joins"]
 z_:hH K mg "nought_table" (top 11) ["high","wide"]
 A_:hH K mg "no_join" (top 50) ["one","other"]
 B_:hH K mg "beside" (top 53) ["one","other"]
 C':hH K mg "_law_whole" (top 56) ["_law_found"]
 C_:hH K mg "_law_bar_to_bar" (top 65) ["_law_ways_here","_law_one","_law_other"]
 D':hH K mg "_law_count" (top 66) ["_law_ways_here","_law_ones","_law_others"]
 D_:hH K mg "law" (top 67) ["_law_script"]
 Z0:mg "len" = ed
 Z1:mg "min" = ed
 Z2:mg "range" = ed
 Z3:mg "sorted" = ed
 Z4:mg "tuple" = ed
 Z5:mg "int" = ed
 Z6:mg "sum" = ed
 Z7:mg "zip" = ed
 Z8:mg "any" = ed
 Z9:mg "enumerate" = ed
 Za:mg "dict" = ed
 Zb:mg "list" = ed
 Zc:mg "max" = ed
 Zd:mg "bool" = ed
 Ze:mg "isinstance" = ed
 G0:GL K mg "MOST_TOGETHER" (.int 30)
theorem vT(E:E0 K mg):gR P w K mg base 1 "_law_cell" 2 jO:=
 xT (N:=["_law_script","_law_k","_law_cell_here","_law_turn_here","_law_given"]) E.Q0 ⋯ λX I b O a U z d=>by subst I b O a U;exact by refine zh (qT (V9 (Kx (XQ (kT z ⋯ E.Z0 (zY z)) zk) (Jf (yQ z (qJ (zC (zY z) zk) zk) zk)))) (by refine zh (j9 z (zC (zY z) (j4 zk (qJ (zy z) (yO (kT z ⋯ E.Z0 (zY z)) zk))))) ?_;refine zh (kn d z (jG z ⋯ E.Z2 (aD z ⋯ E.Z1 zk (vL (zy z) (yO (kT z ⋯ E.Z0 (zY z)) zk)))) (zu (j9 z (vL (zy z) (fG zk zk))))) ?_;exact(zu (zU (qJ (zy z) (fG zk zk))))) jP) ?_;refine zh (j9 z (zy z)) ?_;refine zh (qT (XQ (kT z ⋯ E.Z0 (zY z)) zk) (zu (j9 z (zC (zY z) (qJ (zy z) (kT z ⋯ E.Z0 (zY z)))))) jP) ?_;exact(zu (zU (qJ (xH (qJ (j4 (j4 (j4 (xH (qJ (zy z) (fG zk zk)) zk) (xH (xH zk (zy z)) (zy z))) (xH zk (zy z))) zk) zk) zk) zk)))
theorem J3(E:E0 K mg):gR P w K mg base 1 "_law_ways" 2 xY:=
 xT (N:=["_law_cell_here","_law_rooms"]) E.Q1 ⋯ λX I d O b U z e=>by subst I d O b U;exact zu (zU (fJ yP (PO.q (qU z (i5.c (jG z ⋯ E.Z2 (yO (zy z) zk))) (λ_ _ _ a=>wD yP (qJ (vL (zy a) (zC (PO.q (ko (x9 (za zk (za zk (za zk (za zk (za zk zm)))))))) (zy a))) zk))))))
theorem yR(E:E0 K mg):gR P w K mg base 2 "_law_stretches" 4 qK:=
 xT (N:=["_law_script","_law_at","_law_many","_law_rooms","_law_some","_law_k","_law_cell_here","_law_i"]) E.Q2 ⋯ λX I b O a U z d=>by subst I b O a U;exact by refine zh (va z (ko (x9 zm))) ?_;refine zh (kn d z (jG z ⋯ E.Z2 (zy z)) (by refine zh (j9 z (jh (vT E) z (za (zy z) (za (j4 (zy z) (zy z)) zm)))) ?_;refine zh (j9 z (qJ (zy z) (zy z))) ?_;exact(zu (y9 4 z ⋯ (jI (x9 (za (zy z) (za (j4 (zy z) (qJ (vL (zy z) (zy z)) (yO (zy z) (zy z)))) zm)))))))) ?_;exact(zu (xR (nT z ⋯ E.Z3 (zY z))))
theorem kI(E:E0 K mg):gR P w K mg base 1 "_law_ends" 2 qi:=
 xT (N:=["_law_ways_here","_law_k"]) E.Q3 ⋯ λX I b O a U z d=>by subst I b O a U;exact by refine zh (qT (yQ z (wD (zy z) (zy z)) yP) (zu (zU (jI (x9 (za (zy z) (za (j4 (zy z) zk) zm)))))) jP) ?_;exact(zu (zU (jI (x9 (za (j4 (zy z) zk) (za (zy z) zm))))))
theorem yS(E:E0 K mg):gR P w K mg base 2 "_law_handed" 3 xD:=
 xT (N:=["_law_p","_law_ways_here","_law_row_here","_law_widths","_law_tables","_law_arrows","_law_k","_law_begin","_law_end","_law_rows"]) E.Q4 ⋯ λX I d O b U z e=>by subst I d O b U;exact by refine zh (wF (Bs z) (zy z)) ?_;refine zh (va z (ko (x9 zm))) ?_;refine zh (kn e z (jG z ⋯ E.Z2 (Ky z ⋯ E.Z0 (zy z))) (by refine zh (wF (Bs z) (jh (kI E) z (za (zy z) (za (zy z) zm)))) ?_;refine zh (j9 z (qt z ⋯ E.Z4 (PO.q (qU z (jm (PV.q (zC (zY z) (zy z)))) (λ_ _ _ a=>qt a ⋯ E.Z4 (zY a)))))) ?_;exact(zu (y9 5 z ⋯ (jI (x9 (za (wD (zy z) (zy z)) (za (jI (x9 (za (zC (zY z) (zy z)) (za (zC (zY z) (zy z)) (za (zy z) zm))))) zm)))))))) ?_;exact(zu (zU (jI (x9 (za (zy z) (za (qt z ⋯ E.Z4 (zY z)) (za (qt z ⋯ E.Z4 (zY z)) zm)))))))
theorem Zx(E:E0 K mg):gR P w K mg base 2 "_law_bar_tables" 2 qE:=
 xT (N:=["_law_ways_here","_law_bars","_law_numbered","_law_room","_law_tables","_law_k","_law_begin","_law_end"]) E.Q5 ⋯ λX I f O e U z d=>by subst I f O e U;exact by refine zh (va z (ko (x9 zm))) ?_;refine zh (kn d z (jG z ⋯ E.Z2 (j4 (Ky z ⋯ E.Z0 (zy z)) zk)) (zu (y9 2 z ⋯ (PO.v (cE z (i5.c (jG z ⋯ E.Z2 (kT z ⋯ E.Z0 (zY z)))) (λ_ _ _ a=>fN cJ cJ XG XG (zC (PV.q (zC (zY a) (zy a))) zk) (zy a) (zC (PV.q (zC (zY a) (zy a))) zk)) (λ_ _ _ a=>zy a)))))) ?_;exact(by refine zh (JT 2 (va z (ko (x9 zm)))) ?_;exact(by refine zh (kn d z (jG z ⋯ E.Z2 (Ky z ⋯ E.Z0 (zy z))) (by refine zh (wF (Bs z) (jh (kI E) z (za (zy z) (za (zy z) zm)))) ?_;exact(zu (y9 4 z ⋯ (PO.v (qU z (jm (PV.q (zC (zY z) (zy z)))) (λ_ _ _ a=>PO.v (qU a (jm (PV.q (zC (zY a) (zy a)))) (λ_ _ _ b=>V7 b ⋯ E.Z5 (V8 b (zy b) (zy b))))))))))) ?_;exact(zu (JT 4 (zU (jI (x9 (za (PO.v (qU z (jm (zY z)) (λ_ _ _ a=>kT a ⋯ E.Z0 (zY a)))) (za (zy z) zm)))))))))
theorem vc(E:E0 K mg):gR P w K mg base 1 "_law_times" 4 jQ:=
 xT (N:=["_law_p","_law_one","_law_other","_law_wide","_law_rows","_law_row_here"]) E.Q6 ⋯ λX I e O d U z f=>by subst I e O d U;exact by refine zh (va z (ko (x9 zm))) ?_;refine zh (kn f z (JX (zy z)) (zu (y9 4 z ⋯ (PO.v (qU z (i5.c (jG z ⋯ E.Z2 (zy z))) (λ_ _ _ a=>qJ (wC a ⋯ E.Z6 (PO.q (qU a (i5.c (jG a ⋯ E.Z2 (kT a ⋯ E.Z0 (zY a)))) (λ_ _ _ b=>xH (zC (zY b) (zy b)) (zC (PV.q (zC (zY b) (zy b))) (zy b)))))) (zy a))))))) ?_;exact(zu (wG 4 (z.var ⋯)))
theorem Xv(E:E0 K mg):gR P w K mg base 2 "_law_turn" 4 qz:=
 xT (N:=["_law_script","_law_at","_law_p","_law_size","_law_turn_here","_law_back","_law_k","_law_cell_here","_law_i","_law_j","_law_times_here","_law_row_here"]) E.Q7 ⋯ λX I f O e U z d=>by subst I f O e U;exact by refine zh (aF 4 (vb z (i5.c (jG z ⋯ E.Z2 (zy z))) (λ_ _ _ a=>PO.v (qU a (i5.c (jG a ⋯ E.Z2 (zy a))) (λ_ _ _ b=>V7 b ⋯ E.Z5 (V8 b (zy b) (zy b))))))) ?_;refine zh (Cw z (i5.c (jG z ⋯ E.Z2 (zy z))) (λ_ _ _ a=>qU a (i5.c (jG a ⋯ E.Z2 (zy a))) (λ_ _ _ b=>V7 b ⋯ E.Z5 (V8 b (zy b) (zy b))))) ?_;refine zh (kn d z (jG z ⋯ E.Z2 (yO (xH zk (zy z)) zk)) (by refine zh (j9 z (jh (vT E) z (za (zy z) (za (j4 (zy z) (zy z)) zm)))) ?_;refine zh (j9 z (qJ (zy z) (zy z))) ?_;refine zh (j9 z (qJ (j4 (j4 (zy z) zk) (qJ (vL (zy z) zk) (yO (zy z) zk))) (zy z))) ?_;refine zh (j9 z (qJ (vL (zy z) zk) (zy z))) ?_;refine zh (YU 4 z ⋯ (zy z) (PO.v (qU z (i5.c (vM z ⋯ E.Z7 (zC (zY z) (zy z)) (zC (zY z) (zy z)))) (λ_ _ _ a=>qJ (j4 (zy a) (xH (zy a) (zy a))) (zy a))))) ?_;exact(zu (cx 5 11 (rR d) z.calm z ⋯ ⋯ (z.DF 11 ⋯) (zy z) (qJ (yO (zC (zY z) (zy z)) (xH (zy z) (zC (zY z) (zy z)))) (zy z)))))) ?_;exact(zu (nP 5 (JT 4 (zU (jI (x9 (za (zy z) (za (zy z) zm))))))))
theorem wK(E:E0 K mg):gR P w K mg base 3 "_law_row" 5 kf:=
 xT (N:=["_law_script","_law_at","_law_p","_law_ways_here","_law_bars","_law_widths","_law_tables","_law_turns","_law_k","_law_made","_law_begin","_law_end","_law_half"]) E.Q8 ⋯ λX I d O b U z a=>by subst I d O b U;exact by refine zh (wF (Bs z) (jh (Zx E) z (za (zy z) (za (zy z) zm)))) ?_;refine zh (va z (ko (x9 zm))) ?_;refine zh (kn a z (jG z ⋯ E.Z2 (kT z ⋯ E.Z0 (zY z))) (zu (y9 7 z ⋯ (jh (Xv E) z (za (zy z) (za (j4 (zy z) (xH zk (zy z))) (za (zy z) (za (zC (zY z) (zy z)) zm)))))))) ?_;refine zh (va z (ko (x9 zm))) ?_;refine zh (kn a z (jG z ⋯ E.Z2 (Ky z ⋯ E.Z0 (zy z))) (by refine zh (wF (Bs z) (jh (kI E) z (za (zy z) (za (zy z) zm)))) ?_;refine zh (j9 z (PO.v (k6 (vc E) z (za (zy z) (za (zC (zY z) (zy z)) (za (zC (PV.q (zC (zY z) (zy z))) zk) (za (zC (zY z) (zy z)) zm))))))) ?_;exact(zu (y9 9 z ⋯ (PO.v (k6 (vc E) z (za (zy z) (za (zC (PV.q (zC (zY z) (zy z))) zk) (za (zy z) (za (zC (zY z) (zy z)) zm)))))))))) ?_;exact(zu (JT 9 (zU (jI (x9 (za (zy z) (za (zy z) zm)))))))
theorem Zv(E:E0 K mg):gR P w K mg base 1 "ways_of" 1 kL:=
 xT (N:=["row"]) E.Q9 ⋯ λX I d O b U z e=>by subst I d O b U;exact zu (zU (fJ yP (PO.q (qU z (jm (PV.q (zC (zY z) zk))) (λ_ _ _ a=>zC (zY a) zk)))))
theorem Wg(E:E0 K mg):gR P w K mg base 2 "one_kind" 2 kE:=
 xT (N:=["one","other"]) E.Qa ⋯ λX I b O a U z d=>by subst I b O a U;exact zu (zU (fM (V8 z (zC (zY z) zk) (zC (zY z) zk)) (fH (V8 z (jh (Zv E) z (za (zy z) zm)) (jh (Zv E) z (za (zy z) zm))))))
theorem vd(E:E0 K mg):gR P w K mg base 3 "ask_one_kind" 2 j8:=
 xT (N:=["one","other"]) E.Qb ⋯ λX I b O a U z d=>by subst I b O a U;exact zu (qT (Zr (qQ (jh (Wg E) z (za (zy z) (za (zy z) zm))))) (zu JS) jP)
theorem Zz(E:E0 K mg):gR P w K mg base 1 "behind_noughts" 2 qk:=
 xT (N:=["many","base"]) E.Qc ⋯ λX I d O b U z e=>by subst I d O b U;exact zu (xR (cE z (jm (zY z)) (λ_ _ _ a=>Zr (qQ (rM a ⋯ E.Z8 (PV.q (aC (zy a) J0 (JZ (zy a))))))) (λ_ _ _ a=>aC (zy a) (JZ (zy a)) J0)))
theorem Jh(E:E0 K mg):gR P w K mg base 1 "rests" 2 kj:=
 xT (N:=["p","numbers"]) E.Qd ⋯ λX I d O b U z e=>by subst I d O b U;exact zu (zU (qt z ⋯ E.Z4 (PO.q (qU z (jm (zY z)) (λ_ _ _ a=>qJ (zy a) (zy a))))))
theorem cM(E:E0 K mg):gR P w K mg base 1 "inverse" 2 Zm:=
 xT (N:=["p","x","y"]) E.Qe ⋯ λX I b O a U z d=>by subst I b O a U;exact by refine zh (kn d z (nV z ⋯ E.Z2 zk (zy z)) (zu (qT (yQ z (qJ (xH (zy z) (zy z)) (zy z)) zk) (zu (wG 2 (z.var ⋯))) jP))) ?_;exact(zu JS)
theorem XS(E:E0 K mg):gR P w K mg base 2 "cleared" 4 qX:=
 xT (N:=["p","load","pivot","place","much"]) E.Qf ⋯ λX I d O b U z e=>by subst I d O b U;exact by refine zh (j9 z (zC (zY z) (zy z))) ?_;refine zh (qT (yQ z (zy z) zk) (zu (wG 1 (z.var ⋯))) jP) ?_;exact(zu (zU (jh (Jh E) z (za (zy z) (za (PO.v (qU z (i5.c (vM z ⋯ E.Z7 (zy z) (zy z))) (λ_ _ _ a=>yO (zy a) (xH (zy a) (zy a))))) zm)))))
theorem vy(E:E0 K mg):gR P w K mg base 3 "base_of" 3 qY:=
 xT (N:=["p","long","loads","left","base","place","leading","times","pivot"]) E.Qg ⋯ λX I d O b U z e=>by subst I d O b U;exact by refine zh (j7 3 (vb z (jm (zY z)) (λ_ _ _ a=>jh (Jh E) a (za (zy a) (za (zy a) zm))))) ?_;refine zh (va z (ko (x9 zm))) ?_;refine zh (kn e z (jG z ⋯ E.Z2 (zy z)) (by refine zh (j7 6 (uo z (jm (zY z)) (λ_ _ _ a=>YT a (zC (zY a) (zy a)) zk) (λ_ _ _ a=>zy a))) ?_;refine zh (qT (Zr (nK (zY z))) (zu YV) jP) ?_;refine zh (j9 z (jh (cM E) z (za (zy z) (za (zC (PV.q (zC (zY z) zk)) (zy z)) zm)))) ?_;refine zh (j9 z (jh (Jh E) z (za (zy z) (za (PO.v (qU z (jm (PV.q (zC (zY z) zk))) (λ_ _ _ a=>xH (zy a) (zy a)))) zm)))) ?_;refine zh (j7 3 (vb z (jm (zY z)) (λ_ _ _ a=>jh (XS E) a (za (zy a) (za (zy a) (za (zy a) (za (zy a) zm))))))) ?_;exact(zu (va z (JV (PO.q (qU z (jm (zY z)) (λ_ _ _ a=>jh (XS E) a (za (zy a) (za (zy a) (za (zy a) (za (zy a) zm))))))) (PO.q (ko (x9 (za (zy z) zm))))))))) ?_;exact(zu (wG 4 (z.var ⋯)))
theorem k7(E:E0 K mg):gR P w K mg base 1 "turned_over" 1 qM:=
 xT (N:=["table","columns"]) E.Qh ⋯ λX I e O d U z f=>by subst I e O d U;exact by refine zh (j7 1 (vb z (i5.c (jG z ⋯ E.Z2 (zC (zY z) zk))) (λ_ _ _ a=>qt a ⋯ E.Z4 (PO.q (qU a (jm (PV.q (zC (zY a) zk))) (λ_ _ _ b=>zC (zY b) (zy b))))))) ?_;exact(zu (zU (jI (x9 (za (zC (zY z) zk) (za (zC (zY z) zk) (za (qt z ⋯ E.Z4 (zY z)) zm)))))))
theorem ky(E:E0 K mg):gR P w K mg base 1 "same_table" 1 qx:=
 xT (N:=["many","rows"]) E.Qi ⋯ λX I e O d U z f=>by subst I e O d U;exact by refine zh (j7 1 (vb z (i5.c (jG z ⋯ E.Z2 (zy z))) (λ_ _ _ a=>qt a ⋯ E.Z4 (PO.q (qU a (i5.c (jG a ⋯ E.Z2 (zy a))) (λ_ _ _ b=>kx (yQ b (zy b) (zy b)) zk zk)))))) ?_;exact(zu (zU (jI (x9 (za (zy z) (za (zy z) (za (qt z ⋯ E.Z4 (zY z)) zm)))))))
theorem J2(E:E0 K mg):gR P w K mg base 4 "led_into" 3 xO:=
 xT (N:=["p","table","base","pairs","free"]) E.Qj ⋯ λX I d O b U z e=>by subst I d O b U;exact by refine zh (j7 3 (vb z (i5.c (vM z ⋯ E.Z7 (zC (PV.q (jh (k7 E) z (za (zy z) zm))) zk) (zC (PV.q (jh (ky E) z (za (zC (zY z) zk) zm))) zk))) (λ_ _ _ a=>j4 (zy a) (zy a)))) ?_;refine zh (j7 4 (vb z (jm (zY z)) (λ_ _ _ a=>j4 (zy a) (xH (jI (x9 (za zk zm))) (zC (zY a) zk))))) ?_;exact(zu (xR (k6 (Zz E) z (za (zC (zY z) zk) (za (PO.v (k6 (vy E) z (za (zy z) (za (j4 (zC (zY z) zk) (zC (zY z) zk)) (za (PO.v (JV (zY z) (zY z))) zm))))) zm)))))
theorem Y5(E:E0 K mg):gR P w K mg base 5 "kernel" 2 vH:=
 xT (N:=["p","table"]) E.Qk ⋯ λX I b O a U z d=>by subst I b O a U;exact zu (xR (k6 (J2 E) z (za (zy z) (za (zy z) (za (PO.v (ko (x9 zm))) zm)))))
theorem aK(E:E0 K mg):gR P w K mg base 4 "image" 2 ZI:=
 xT (N:=["p","table"]) E.Ql ⋯ λX I b O a U z d=>by subst I b O a U;exact zu (xR (k6 (vy E) z (za (zy z) (za (zC (zY z) zk) (za (zC (PV.q (jh (k7 E) z (za (zy z) zm))) zk) zm)))))
theorem Zy(E:E0 K mg):gR P w K mg base 2 "columns" 2 kO:=
 xT (N:=["high","loads"]) E.Qm ⋯ λX I b O a U z d=>by subst I b O a U;exact zu (zU (jh (k7 E) z (za (jI (x9 (za (kT z ⋯ E.Z0 (zY z)) (za (zy z) (za (qt z ⋯ E.Z4 (zY z)) zm))))) zm)))
theorem yz(E:E0 K mg):gR P w K mg base 1 "has_room" 2 qj:=
 xT (N:=["bar","room"]) E.Qn ⋯ λX I b O a U z d=>by subst I b O a U;exact zu (zU (aE cJ uJ XG eQ (zC (zY z) zk) (zy z) (j4 (zC (zY z) zk) (kT z ⋯ E.Z0 (PV.q (zC (zY z) zk))))))
theorem vS(E:E0 K mg):gR P w K mg base 2 "loads_in" 2 xm:=
 xT (N:=["bars","room"]) E.Qo ⋯ λX I d O b U z e=>by subst I d O b U;exact zu (xR (cE z (jm (zY z)) (λ_ _ _ a=>qQ (jh (yz E) a (za (zy a) (za (zy a) zm)))) (λ_ _ _ a=>zC (PV.q (zC (zY a) zk)) (yO (zy a) (zC (zY a) zk)))))
theorem vx(E:E0 K mg):gR P w K mg base 1 "lead_of" 1 qW:=
 xT (N:=["load"]) E.Qp ⋯ λX I d O b U z e=>by subst I d O b U;exact zu (zU (zC (PO.q (cE z (i5.c (fV z ⋯ E.Z9 (zy z))) (λ_ _ _ a=>YT a (zy a) zk) (λ_ _ _ a=>zy a))) zk))
theorem rT(E:E0 K mg):gR P w K mg base 2 "led" 3 dC:=
 xT (N:=["p","table","load"]) E.Qq ⋯ λX I e O d U z f=>by subst I e O d U;exact zu (zU (jh (Jh E) z (za (zy z) (za (PO.v (qU z (jm (PV.q (zC (zY z) zk))) (λ_ _ _ a=>wC a ⋯ E.Z6 (PO.q (qU a (i5.c (vM a ⋯ E.Z7 (zy a) (zy a))) (λ_ _ _ b=>xH (zy b) (zy b))))))) zm))))
theorem KG(E:E0 K mg):gR P w K mg base 3 "mixed_load" 4 kZ:=
 xT (N:=["row","bars","times","room","there"]) E.Qr ⋯ λX I d O b U z e=>by subst I d O b U;exact by refine zh (j7 4 (uo z (i5.c (vM z ⋯ E.Z7 (zy z) (zy z))) (λ_ _ _ a=>qQ (jh (yz E) a (za (zy a) (za (zy a) zm)))) (λ_ _ _ a=>zy a))) ?_;exact(zu (zU (jh (rT E) z (za (zC (zY z) zk) (za (jh (Zy E) z (za (zC (PV.q (zC (zY z) zk)) (zy z)) (za (PO.v (k6 (vS E) z (za (zy z) (za (zy z) zm)))) zm))) (za (zy z) zm))))))
theorem oo(E:E0 K mg):gR P w K mg base 4 "mixed" 3 Yh:=
 xT (N:=["row","bars","times","first","loads"]) E.Qs ⋯ λX I d O b U z e=>by subst I d O b U;exact by refine zh (j9 z (zC (zY z) (jh (vx E) z (za (zy z) zm)))) ?_;refine zh (j7 4 (vb z (i5.c (jG z ⋯ E.Z2 (kT z ⋯ E.Z0 (PV.q (zC (zY z) zk))))) (λ_ _ _ a=>jh (KG E) a (za (zy a) (za (zy a) (za (zy a) (za (j4 (zC (zY a) zk) (zy a)) zm))))))) ?_;exact(zu (zU (jI (x9 (za (zC (zY z) zk) (za (qt z ⋯ E.Z4 (zY z)) zm))))))
theorem cK(E:E0 K mg):gR P w K mg base 6 "settled" 3 Zk:=
 xT (N:=["row","k","bars","way","table","special","base","leads"]) E.Qt ⋯ λX I d O b U z e=>by subst I d O b U;exact by refine zh (j9 z (zC (PV.q (zC (PV.q (zC (zY z) zk)) (zy z))) zk)) ?_;refine zh (j9 z (zC (PV.q (zC (PV.q (zC (zY z) zk)) (zy z))) zk)) ?_;refine zh (j9 z (kx (yQ z (zy z) yP) (PO.v (k6 (Y5 E) z (za (zC (zY z) zk) (za (zy z) zm)))) (PO.v (k6 (aK E) z (za (zC (zY z) zk) (za (zy z) zm)))))) ?_;refine zh (j9 z (PO.v (k6 (J2 E) z (za (zC (zY z) zk) (za (jh (Zy E) z (za (zC (PV.q (zC (zY z) zk)) (zy z)) (za (PO.v (k6 (vS E) z (za (zy z) (za (zy z) zm)))) zm))) (za (zy z) zm)))))) ?_;refine zh (j9 z (nG z ⋯ E.Za (qU z (jm (zY z)) (λ_ _ _ a=>jI (x9 (za (jh (vx E) a (za (zy a) zm)) (za (zy a) zm))))))) ?_;exact(zu (xR (qU z (i5.c (uB z ⋯ E.Z9 (zy z))) (λ_ _ _ a=>kx (ui a (zy a) (zy a)) (jh (oo E) a (za (zy a) (za (zy a) (za (Cp a (zy a) (zy a)) zm)))) (zy a)))))
theorem gz(E:E0 K mg):gR P w K mg base 4 "solved" 3 vG:=
 xT (N:=["p","table","load","wide","answer","line","place"]) E.Qu ⋯ λX I d O b U z e=>by subst I d O b U;exact by refine zh (j9 z (zC (zY z) zk)) ?_;refine zh (va z (CC (ko (x9 (za zk zm))) (zy z))) ?_;refine zh (kn e z (JX (PO.v (k6 (vy E) z (za (zy z) (za (j4 (zy z) zk) (za (PO.v (qU z (i5.c (vM z ⋯ E.Z7 (zC (zY z) zk) (zy z))) (λ_ _ _ a=>j4 (zy a) (jI (x9 (za (zy a) zm)))))) zm)))))) (by refine zh (j9 z (jh (vx E) z (za (zy z) zm))) ?_;refine zh (qT (yQ z (zy z) (zy z)) (zu (zU YS)) jP) ?_;exact(zu (YU 4 z ⋯ (zy z) (zC (zY z) (zy z)))))) ?_;exact(zu (zU (qt z ⋯ E.Z4 (zY z))))
theorem Y1(E:E0 K mg):gR P w K mg base 5 "next_load" 3 xN:=
 xT (N:=["p","arrow","load","there"]) E.Qv ⋯ λX I b O a U z d=>by subst I b O a U;exact by refine zh (qT (yQ z (zC (zY z) zk) yP) (zu (zU (jh (gz E) z (za (zy z) (za (zC (zY z) zk) (za (zy z) zm)))))) jP) ?_;refine zh (j9 z (jh (rT E) z (za (zy z) (za (zC (zY z) zk) (za (zy z) zm))))) ?_;exact(zu (zU (kx (qQ (rM z ⋯ E.Z8 (zY z))) (zy z) YS)))
theorem Wf(E:E0 K mg):gR P w K mg base 6 "taken_on" 3 yp:=
 xT (N:=["p","arrow","bar","load"]) E.Qw ⋯ λX I b O a U z d=>by subst I b O a U;exact by refine zh (j9 z (jh (Y1 E) z (za (zy z) (za (zy z) (za (zC (PV.q (zC (zY z) zk)) (Cj zk)) zm))))) ?_;exact(zu (zU (kx (ug (zy z) YS) (zy z) (jI (x9 (za (zC (zY z) zk) (za (j4 (zC (zY z) zk) (jI (x9 (za (zy z) zm)))) zm)))))))
theorem Y2(E:E0 K mg):gR P w K mg base 6 "new_loads" 2 yI:=
 xT (N:=["p","arrow","leads"]) E.Qx ⋯ λX I d O b U z e=>by subst I d O b U;exact by refine zh (qT (yQ z (zC (zY z) zk) yP) (zu (xR (k6 (Y5 E) z (za (zy z) (za (zC (zY z) zk) zm))))) jP) ?_;refine zh (j7 2 (vb z (jm (PO.q (k6 (aK E) z (za (zy z) (za (zC (zY z) zk) zm))))) (λ_ _ _ a=>jh (vx E) a (za (zy a) zm)))) ?_;exact(zu (xR (cE z (i5.c (fV z ⋯ E.Z9 (zC (PV.q (jh (ky E) z (za (zC (PV.q (zC (zY z) zk)) zk) zm))) zk))) (λ_ _ _ a=>cv (zy a) (zY a)) (λ_ _ _ a=>zy a))))
theorem oq(E:E0 K mg):gR P w K mg base 7 "grown" 3 Xk:=
 xT (N:=["row","k","bars","p","arrow","ended","here","old","new"]) E.Qy ⋯ λX I d O b U z e=>by subst I d O b U;exact by refine zh (j9 z (zC (zY z) zk)) ?_;refine zh (j9 z (zC (PV.q (zC (zY z) zk)) (zy z))) ?_;refine zh (j7 5 (uo z (jm (zY z)) (λ_ _ _ a=>Zr (qQ (jh (yz E) a (za (zy a) (za (zy a) zm))))) (λ_ _ _ a=>zy a))) ?_;refine zh (j9 z (PO.v (k6 (cK E) z (za (zy z) (za (zy z) (za (PO.v (cE z (jm (zY z)) (λ_ _ _ a=>qQ (jh (yz E) a (za (zy a) (za (zy a) zm)))) (λ_ _ _ a=>zy a))) zm)))))) ?_;refine zh (j7 7 (vb z (jm (zY z)) (λ_ _ _ a=>jh (Wf E) a (za (zy a) (za (zy a) (za (zy a) zm)))))) ?_;refine zh (j7 8 (vb z (jm (PO.q (k6 (Y2 E) z (za (zy z) (za (zy z) zm))))) (λ_ _ _ a=>jI (x9 (za (j4 (zy a) zk) (za (jI (x9 (za (zy a) zm))) zm)))))) ?_;exact(zu (zU (PO.v (JV (zY z) (PV.q (kx (yQ z (zC (zY z) zk) yP) (PO.v (JV (zY z) (zY z))) (PO.v (JV (zY z) (zY z)))))))))
theorem wJ(E:E0 K mg):gR P w K mg base 1 "stretch_of" 1 qm:=
 xT (N:=["bar"]) E.Qz ⋯ λX I b O a U z d=>by subst I b O a U;exact zu (zU (jI (x9 (za (zC (zY z) zk) (za (yO (j4 (zC (zY z) zk) (kT z ⋯ E.Z0 (PV.q (zC (zY z) zk)))) zk) zm)))))
theorem Y7(E:E0 K mg):gR P w K mg base 9 "all_grown" 1 yM:=
 xT (N:=["row","bars","k"]) E.n_ ⋯ λX I d O b U z e=>by subst I d O b U;exact by refine zh (j7 1 (vb z (jm (PV.q (zC (PV.q (jh (ky E) z (za (zC (PV.q (zC (zY z) zk)) zk) zm))) zk))) (λ_ _ _ a=>jI (x9 (za zk (za (jI (x9 (za (zy a) zm))) zm)))))) ?_;refine zh (kn e z (jG z ⋯ E.Z2 (kT z ⋯ E.Z0 (PV.q (zC (zY z) zk)))) (zu (j9 z (jh (oq E) z (za (zy z) (za (zy z) (za (zy z) zm))))))) ?_;exact(zu (xR (nU (wJ E) z ⋯ ⋯ E.Z3 ⋯ (zY z))))
theorem cN(E:E0 K mg):gR P w K mg base 4 "back_of" 2 kP:=
 xT (N:=["p","table","many","same","base"]) E.o_ ⋯ λX I d O b U z e=>by subst I d O b U;exact by refine zh (j9 z (zC (zY z) zk)) ?_;refine zh (qT (YT z (zC (zY z) zk) (zy z)) (zu (zU YS)) jP) ?_;refine zh (j9 z (zC (PV.q (jh (ky E) z (za (zy z) zm))) zk)) ?_;refine zh (j9 z (PO.v (k6 (vy E) z (za (zy z) (za (j4 (zy z) (zy z)) (za (PO.v (qU z (i5.c (vM z ⋯ E.Z7 (zC (zY z) zk) (zy z))) (λ_ _ _ a=>j4 (zy a) (zy a)))) zm)))))) ?_;refine zh (qT (YT z (PO.v (qU z (jm (zY z)) (λ_ _ _ a=>aC (zy a) J0 (JZ (zy a))))) (PO.v (uv z ⋯ E.Zb (zY z)))) (zu (zU YS)) jP) ?_;exact(zu (zU (jI (x9 (za (zy z) (za (zy z) (za (qt z ⋯ E.Z4 (PO.q (qU z (jm (zY z)) (λ_ _ _ a=>aC (zy a) (JZ (zy a)) J0)))) zm)))))))
theorem Y6(E:E0 K mg):gR P w K mg base 10 "barred" 1 qI:=
 xT (N:=["row","bars","backs","turns"]) E.p_ ⋯ λX I d O b U z e=>by subst I d O b U;exact by refine zh (j9 z (PO.v (k6 (Y7 E) z (za (zy z) zm)))) ?_;refine zh (j7 2 (vb z (i5.c (fV z ⋯ E.Z9 (zC (zY z) zk))) (λ_ _ _ a=>jh (Zy E) a (za (zy a) (za (PO.v (k6 (vS E) a (za (zy a) (za (zy a) zm)))) zm))))) ?_;refine zh (j7 3 (vb z (jm (zY z)) (λ_ _ _ a=>jh (cN E) a (za (zC (zY a) zk) (za (zy a) zm))))) ?_;exact(zu (zU (jI (x9 (za (PO.v (qU z (jm (zY z)) (λ_ _ _ a=>jh (wJ E) a (za (zy a) zm)))) (za (zy z) (za (zy z) zm)))))))
theorem KH(E:E0 K mg):gR P w K mg base 1 "left_holds" 3 ke:=
 xT (N:=["ways","one","other"]) E.q_ ⋯ λX I b O a U z d=>by subst I b O a U;exact by refine zh (qT (yQ z (zC (zY z) zk) (zC (zY z) zk)) (zu (zU nH)) jP) ?_;exact(zu (zU (V8 z (wD (zy z) (yO (fI z ⋯ E.Zc (zC (zY z) zk) (zC (zY z) zk)) zk)) (kx (Cr (zC (zY z) zk) (zC (zY z) zk)) yP yP))))
theorem Xu(E:E0 K mg):gR P w K mg base 1 "right_holds" 3 xB:=
 xT (N:=["ways","one","other"]) E.r_ ⋯ λX I b O a U z d=>by subst I b O a U;exact by refine zh (qT (yQ z (zC (zY z) zk) (zC (zY z) zk)) (zu (zU nH)) jP) ?_;exact(zu (zU (V8 z (wD (zy z) (aD z ⋯ E.Z1 (zC (zY z) zk) (zC (zY z) zk))) (kx (XQ (zC (zY z) zk) (zC (zY z) zk)) yP yP))))
theorem Wh(E:E0 K mg):gR P w K mg base 2 "bar_ways" 3 kF:=
 xT (N:=["ways","one","other"]) E.s_ ⋯ λX I b O a U z d=>by subst I b O a U;exact by refine zh (qT (XQ (fI z ⋯ E.Zc (zC (zY z) zk) (zC (zY z) zk)) (aD z ⋯ E.Z1 (zC (zY z) zk) (zC (zY z) zk))) (zu (zU zk)) jP) ?_;exact(zu (zU (kx (V9 (Kx (qQ (jh (KH E) z (za (zy z) (za (zy z) (za (zy z) zm))))) (Jf (qQ (jh (Xu E) z (za (zy z) (za (zy z) (za (zy z) zm)))))))) zk zk)))
theorem Y0(E:E0 K mg):gR P w K mg base 3 "ways_into" 3 kM:=
 xT (N:=["ways","bars","bar"]) E.t_ ⋯ λX I d O b U z e=>by subst I d O b U;exact zu (zU (wC z ⋯ E.Z6 (PO.q (qU z (jm (zY z)) (λ_ _ _ a=>jh (Wh E) a (za (zy a) (za (zy a) (za (zy a) zm))))))))
theorem KI(E:E0 K mg):gR P w K mg base 11 "count_ways" 2 xn:=
 xT (N:=["one","other","bars"]) E.u_ ⋯ λX I d O b U z e=>by subst I d O b U;exact by refine zh (Kz (jh (vd E) z (za (zy z) (za (zy z) zm)))) ?_;refine zh (j9 z (zC (PV.q (jh (Y6 E) z (za (zy z) zm))) zk)) ?_;exact(zu (zU (wC z ⋯ E.Z6 (PO.q (qU z (jm (PV.q (zC (PV.q (jh (Y6 E) z (za (zy z) zm))) zk))) (λ_ _ _ a=>jh (Y0 E) a (za (jh (Zv E) a (za (zy a) zm)) (za (zy a) (za (zy a) zm)))))))))
theorem J4(E:E0 K mg):gR P w K mg base 1 "ask_together" 1 xZ:=
 xT (N:=["widths"]) E.v_ ⋯ λX I b O a U z d=>by subst I b O a U;exact zu (qT (XQ (wC z ⋯ E.Z6 (zY z)) (GW z ⋯ E.G0)) (zu JS) jP)
theorem wI(E:E0 K mg):gR P w K mg base 2 "widths_together" 2 qw:=
 xT (N:=["one","other","widths"]) E.w_ ⋯ λX I d O b U z e=>by subst I d O b U;exact by refine zh (j9 z (qt z ⋯ E.Z4 (PO.q (qU z (i5.c (vM z ⋯ E.Z7 (zC (zY z) zk) (zC (zY z) zk))) (λ_ _ _ a=>j4 (zy a) (zy a)))))) ?_;refine zh (Kz (jh (J4 E) z (za (zy z) zm))) ?_;exact(zu (wG 2 (z.var ⋯)))
theorem ZV(E:E0 K mg):gR P w K mg base 1 "tables_joined" 3 qf:=
 xT (N:=["one","other","join","first","second"]) E.x_ ⋯ λX I d O b U z e=>by subst I d O b U;exact by refine zh (j7 3 (vb z (i5.c (vM z ⋯ E.Z7 (zC (zY z) zk) (zC (zY z) zk))) (λ_ _ _ a=>j4 (zy a) (zy a)))) ?_;refine zh (j7 4 (vb z (jm (PV.q (zC (zY z) zk))) (λ_ _ _ a=>j4 (xH (jI (x9 (za zk zm))) (zC (zY a) zk)) (zy a)))) ?_;exact(zu (zU (jI (x9 (za (j4 (zC (zY z) zk) (zC (zY z) zk)) (za (j4 (zC (zY z) zk) (zC (zY z) zk)) (za (qt z ⋯ E.Z4 (PV.q (PO.v (JV (zY z) (zY z))))) zm)))))))
theorem gA(E:E0 K mg):gR P w K mg base 3 "joined" 3 Jy:=
 xT (N:=["one","other","joins","widths","arrows"]) E.y_ ⋯ λX I d O b U z e=>by subst I d O b U;exact by refine zh (j9 z (jh (wI E) z (za (zy z) (za (zy z) zm)))) ?_;refine zh (j7 4 (vb z (i5.c (uz z ⋯ E.Z7 (zC (zY z) zk) (zC (zY z) zk) (zy z))) (λ_ _ _ a=>jI (x9 (za (zC (zY a) zk) (za (jh (ZV E) a (za (zC (zY a) zk) (za (zC (zY a) zk) (za (zy a) zm)))) zm)))))) ?_;exact(zu (zU (jI (x9 (za (zC (zY z) zk) (za (zy z) (za (qt z ⋯ E.Z4 (zY z)) zm)))))))
theorem J1(E:E0 K mg):gR P w K mg base 1 "nought_table" 2 xX:=
 xT (N:=["high","wide"]) E.z_ ⋯ λX I b O a U z d=>by subst I b O a U;exact zu (zU (jI (x9 (za (zy z) (za (zy z) (za (xH (jI (x9 (za (xH (jI (x9 (za zk zm))) (zy z)) zm))) (zy z)) zm))))))
theorem cL(E:E0 K mg):gR P w K mg base 2 "no_join" 2 xC:=
 xT (N:=["one","other"]) E.A_ ⋯ λX I b O a U z d=>by subst I b O a U;exact zu (zU (jh (J1 E) z (za (zC (zY z) zk) (za (zC (zY z) zk) zm))))
theorem gC(E:E0 K mg):gR P w K mg base 4 "beside" 2 vI:=
 xT (N:=["one","other"]) E.B_ ⋯ λX I d O b U z e=>by subst I d O b U;exact by refine zh (Kz (jh (vd E) z (za (zy z) (za (zy z) zm)))) ?_;exact(zu (zU (jh (gA E) z (za (zy z) (za (zy z) (za (PO.v (qU z (i5.c (vM z ⋯ E.Z7 (zC (zY z) zk) (zC (zY z) zk))) (λ_ _ _ a=>jh (cL E) a (za (zC (zY a) zk) (za (zC (zY a) zk) zm))))) zm))))))
theorem Y3(E:E0 K mg):gR P w K mg base 1 "_law_whole" 1 jt:=
 xT (N:=["_law_found"]) E.C' ⋯ λX I b O a U z d=>by subst I b O a U;exact zu (zU (fM (fK z ⋯ E.Ze ⋯ E.Z5 (zy z)) (fH (Ci (cu z ⋯ E.Ze ⋯ E.Zd (zy z))))))
theorem Zw(E:E0 K mg):gR P w K mg base 2 "_law_bar_to_bar" 3 jE:=
 xT (N:=["_law_ways_here","_law_one","_law_other","_law_low","_law_high","_law_k","_law_here","_law_there","_law_out"]) E.C_ ⋯ λX I b O a U z d=>by subst I b O a U;exact by refine zh (j9 z (fI z ⋯ E.Zc (zC (zY z) zk) (zC (zY z) zk))) ?_;refine zh (j9 z (aD z ⋯ E.Z1 (zC (zY z) zk) (zC (zY z) zk))) ?_;refine zh (qT (XQ (zy z) (zy z)) (zu (zU zk)) jP) ?_;refine zh (kn d z (JX (PO.v (ko (x9 (za (jI (x9 (za (yO (zy z) zk) (za (Ck (zC (zY z) zk) (zy z)) (za (Ck (zC (zY z) zk) (zy z)) zm))))) (za (jI (x9 (za (zy z) (za (Co (zC (zY z) zk) (zy z)) (za (Co (zC (zY z) zk) (zy z)) zm))))) zm)))))) (zu (qT (V9 (fF (qQ (zy z)) (V6 (qQ (zy z))))) (by refine zh (j9 z (fM (Cn (zC (PV.q (jh (kI E) z (za (zy z) (za (zy z) zm)))) zk) (PO.q (ko (x9 (za (zy z) (za (zy z) zm)))))) (fH (aE cJ cJ XG XG (zy z) (zC (PV.q (jh (kI E) z (za (zy z) (za (zy z) zm)))) zk) (zy z))))) ?_;exact(zu (qT (V9 (fF (V9 (Kx (qQ (zy z)) (Jf (Zr (qQ (zy z)))))) (V6 (V9 (Kx (qQ (zy z)) (Jf (qQ (zy z)))))))) (zu (zU zk)) jP))) jP))) ?_;exact(zu (zU zk))
theorem Y4(E:E0 K mg):gR P w K mg base 3 "_law_count" 3 kN:=
 xT (N:=["_law_ways_here","_law_ones","_law_others"]) E.D' ⋯ λX I e O d U z f=>by subst I e O d U;exact zu (zU (wC z ⋯ E.Z6 (PO.q (qU z (jm (zY z)) (λ_ _ _ b=>wC b ⋯ E.Z6 (PO.q (qU b (jm (zY b)) (λ_ _ _ a=>jh (Zw E) a (za (zy a) (za (zy a) (za (zy a) zm)))))))))))
theorem IR(D:L2.Dp K "law" "law" (top 67) f fd)(E:E0 K mg):p6 P w K mg base qs 12 f fd ["_law_script"] (rp K 1 Xj):=
 HD (N:=["_law_script","_law_cell_here","_law_p","_law_rooms","_law_ways_here","_law_ones","_law_others","_law_one","_law_other","_law_some","_law_first","_law_here","_law_second","_law_there","_law_found"]) D ⋯ λX I d O b U z a=>by subst I d O b U;exact by refine zh (j9 z (jh (vT E) z (za (zy z) (za zk zm)))) ?_;refine zh (j9 z (zC (PO.q (ko (x9 (za zk (za zk (za zk (za zk zm))))))) (qJ (zy z) zk))) ?_;refine zh (j9 z (j4 zk (qJ (vL (zy z) zk) zk))) ?_;refine zh (j9 z (jh (J3 E) z (za (vL (zy z) zk) (za (zy z) zm)))) ?_;refine zh (j9 z (PO.v (k6 (yR E) z (za (zy z) (za zk (za (qJ (vL (zy z) zk) zk) (za (zy z) zm))))))) ?_;refine zh (j9 z (PO.v (k6 (yR E) z (za (zy z) (za zk (za (qJ (vL (zy z) zk) zk) (za (zy z) zm))))))) ?_;refine zh (j9 z (jh (yS E) z (za (zy z) (za (zy z) (za (jh (wK E) z (za (zy z) (za zk (za (zy z) (za (zy z) (za (zy z) zm)))))) zm))))) ?_;refine zh (j9 z (jh (yS E) z (za (zy z) (za (zy z) (za (jh (wK E) z (za (zy z) (za zk (za (zy z) (za (zy z) (za (zy z) zm)))))) zm))))) ?_;refine zh (va z (ko (x9 (za (jI (x9 (za (zy z) (za (zy z) zm)))) (za (jI (x9 (za (zy z) (za (zy z) zm)))) zm))))) ?_;refine zh (qT (Cs (j4 (wC z ⋯ E.Z6 (PV.q (zC (zY z) zk))) (wC z ⋯ E.Z6 (PV.q (zC (zY z) zk)))) zk) (zu (y9 9 z ⋯ (jI (x9 (za (jh (gC E) z (za (zy z) (za (zy z) zm))) (za (PO.v (JV (zY z) (zY z))) zm)))))) jP) ?_;refine zh (JT 9 (kn a z (JX (zy z)) (zu (kn a z (JX (PO.v (CB (zY z) J0 (JZ zk)))) (by refine zh (j9 z (jh (KI E) z (za (zy z) (za (zy z) zm)))) ?_;exact(zu (qT (V9 (fF (Zr (qQ (jh (Y3 E) z (za (zy z) zm)))) (V6 (YT z (zy z) (jh (Y4 E) z (za (zy z) (za (zy z) (za (zy z) zm)))))))) (zu (zU nH)) jP))))))) ?_;exact(zu (zU nH))
end
end DL
namespace PySem.W.Fast
def tw11917413935574202735:=0
def tw7720838329053712294:=0
def tw5561341314895624040:=0
def tw15904998441495165483:=0
def tw2576828168141428338:=0
def tw8292594586312275963:=0
def tw1032628969563315833:=0
def tw1148801865983975205:=0
def tw14740072484526280516:=0
def tw16875957989727573523:=0
def tw1285236825289685550:=0
def tw12542296182387473292:=0
def tw3534102885476501291:=0
def tw345573071899561376:=0
def tw7698775487250010292:=0
def tw5096981038080794780:=0
def tw7811587618856947535:=0
def tw15956262637992590391:=0
def tw16038550588175224077:=0
def tw11169507933469552327:=0
def tw8574358171489129665:=0
def tw8721126749486246755:=0
def tw12971044269176026152:=0
def tw17135147241889259956:=0
def tw10326657029456303712:=0
def tw18111910189487181563:=0
def tw8796563155232188328:=0
def tw10381812656535629540:=0
def tw10534637099076308482:=0
def tw5388850048989014595:=0
def tw12976925866504166701:=0
def tw9436159629238714728:=0
def tw7763596656614779199:=0
def tw2563310391167766406:=0
def tw13496806353382225723:=0
def tw16613953178830324914:=0
def tw16229025514072990293:=0
def tw14620633105693789237:=0
def tw939267015885746034:=0
def tw2364583976254706280:=0
def tw6640572673191802546:=0
def tw8725239655973224778:=0
def tw4112286365030783044:=0
def tw7819219561176773177:=0
def tw14649883106417729868:=0
def tw49618424916894268:=0
def tw4629336732779785011:=0
def tw4871147979458255189:=0
def tw979125350406307277:=0
def tw2585915931911987675:=0
def tw17247612885154865586:=0
def tw4448872528770832935:=0
def tw8977452794509899106:=0
def tw3127348179321404147:=0
def tw12243264228963432712:=0
def tw17700664293958388456:=0
def tw6309947046013094163:=0
def tw8691053517182722094:=0
def tw11550129284507713590:=0
def tw13371095429347477179:=0
def tw8950091236201409064:=0
def tw2029601521935071132:=0
def tw13467109629359228325:=0
def tw6547232790634639214:=0
def tw2375695059745872404:=0
def tw7372950382519077712:=0
def tw17621940430021176425:=0
def tw12205655572797735906:=0
def tw14888851703895870478:=0
def tw15565383313692239005:=0
def tw13573692411344090662:=0
def tw16183140550230160580:=0
def tw11889103235062779319:=0
def tw1312444919396940843:=0
def tw3279004686773606093:=0
def tw8753057903891499038:=0
def tw9559421894994010217:=0
def tw6745099929590929897:=0
def tw6874743245518845590:=0
def tw9598853047270566925:=0
def tw2795988535609402011:=0
def tw10360932851285325678:=0
def tw16166978829888263808:=0
def tw11282250331930648474:=0
def tw10934208060072333992:=0
def tw15625841250321803878:=0
def tw10510874868912751757:=0
def tw1381103157451663028:=0
def tw1907225371211572244:=0
def tw8539648628016987213:=0
def tw9634711303359525390:=0
def tw11728953650461435418:=0
def tw14069049540480986189:=0
def tw10218886697496543441:=0
def tw7933961687004010535:=0
def tw5479539630045168379:=0
def tw6104750458741917474:=0
def tw16446692672273034090:=0
def tw6358520167141365669:=0
def tw16607860585039893247:=0
def tw8451763115521921295:=0
def tw6749314684841290555:=0
def tw5228223933984455506:=0
def tw14276840234783159105:=0
def tw9238667111856021619:=0
def tw12182629487648482250:=0
def tw13311659688332183664:=0
def tw6734053983234813789:=0
def tw31042587313667645:=0
def tw1268910063025510718:=0
def tw6573453961030912622:=0
def tw15258735053368061000:=0
def tw5712499484328798470:=0
def tw18239051549122416699:=0
def tw10082923729478263579:=0
def tw3867419271733624709:=0
def tw11015265259547238677:=0
def tw15654402483841911306:=0
def tw4629985224485603461:=0
def tw17262150317308956887:=0
def tw5868449647804740071:=0
def tw5383862019498867899:=0
def tw14562519823448992423:=0
def tw4924731572498896520:=0
def tw2311794078440559040:=0
def tw14500477299402973977:=0
def tw9398537603030919496:=0
def tw16296091515968598703:=0
def tw11022492679958882090:=0
def tw14646531999442235703:=0
def tw16414330027295677047:=0
def tw3713731017821633946:=0
def tw17408272375053078718:=0
def tw1868780141704036641:=0
def tw3955446491054481868:=0
def tw10378981838607266568:=0
def tw490928656404816711:=0
def tw977811503570453502:=0
def tw2693887677022287210:=0
def tw1130541851581496694:=0
def tw17765442450130827773:=0
def tw2324063908931131686:=0
def tw16062702192031478742:=0
def tw18020045542425201618:=0
def tw12451533123980130064:=0
def tw12446408255811986515:=0
def tw5052089018396538867:=0
def tw7633465402206632037:=0
def tw13622545996410839691:=0
def tw6973084572138472911:=0
def tw17604262863403882431:=0
def tw488632254284995626:=0
def tw6076215732939299725:=0
def tw11518893974449360205:=0
def tw7409899021456349456:=0
def tw8378993589566349578:=0
def tw4679262759450143003:=0
def tw6222354842563040142:=0
end PySem.W.Fast
open PySem PySem.W PyProof.Rows
set_option maxRecDepth 100000 in
set_option maxHeartbeats 0 in
theorem PySem.Challenge.cw_barsplit_k39_ways_counted_holds : PySem.Challenge.rw_barsplit_k39_ways_counted.Holds := by
 w_on;o_law;k_head;(case hw=>w_witness2)
 k_fill
 refine L2.Fy (l:=RG) (n:=63) (k:=12) (x:="_law_script") (CX:=L2.qs) (sp:=λK=>DL.rp K 1 DL.Xj) rfl ⋯ rfl ⟨rfl,by decide,by decide⟩ (λw h Y=>PySem.W.kIn_of Y) ?F ?S ?C
 case S=>exact λK H a ns I hO U=>DL.Gc U (DL.Hq ns I)
 case C=>exact λ_ _ _ _ z=>z
 case F=>
  intro w mg fa h O G a0;have a5:DL.GL (L2.G7 O) mg "MOST_TOGETHER" (.int 30):=by
   dsimp only[L2.G7];refine' DL.IT O G ?a
   (case a=>k_is)
  have E:DL.E0 (L2.G7 O) mg:=by
   constructor
   all_goals first
    | assumption
    | exact PySem.W.mg_none_of O G (by k_is)
    | (dsimp only[L2.G7];refine' DL.IY O G ?a ?l ?c ?k ?b;(case a=>k_is);(case l=>k_is);(case c=>k_is);(case k=>k_is);(case b=>intro _ _ _ _ _ _ us I;first | (obtain⟨_,rfl⟩:=DL.Mx I;rfl) | (obtain⟨_,_,rfl⟩:=DL.Mw I;rfl) | (obtain⟨_,_,_,rfl⟩:=DL.Mv I;rfl) | (obtain⟨_,_,_,_,rfl⟩:=DL.Mu I;rfl) | (obtain⟨_,_,_,_,_,rfl⟩:=DL.Mt I;rfl)))
  obtain⟨f,fd,Fu,hb,hm⟩:=E.D_.ex;have e0:=a0.symm.trans hm;cases e0;refine⟨fd,λs u=> .of_eq (hb [u] rfl),λbase kb nb=>?_⟩;exact DL.IR Fu E
