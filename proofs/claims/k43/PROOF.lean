import PyProof.Rows.All
import Wide.All
import OpenK.AllK
import Wide.FinOn
import Lean
import PyProof.EqAt
import PyProof.EqKinds
import PyProof.TupleCall
import PySem.Str
import PyProof.ZipIter
import PyProof.IsiBase
import KE.KItemsList
import KE.KIsAll
import OpenK.KOwn
import KE.KSortAsk
import PyProof.StrBlockI
import PyProof.Rows.EqDataRows
import PyProof.Rows.InDataRows
import PyProof.SumWalkG
import PyProof.ConsumeWalk
import PyProof.WalksMore
import KE.KSortTup
import PyProof.ListMulRoad
import PyProof.EnumFor
import PyProof.Rows.EnumRows
import PyProof.StrBlockL
import PyProof.JoinWalk
import PyProof.NsDelKeeps
import KE.KTryDeep
import PyProof.InstStoreFacts
import PyProof.NsCount
import PyProof.ExcClass2
import PyProof.Rows.FStr
import PyProof.StationsW
import PyProof.Rows.Catch
import KE.KRevIter
import PyProof.CollectIter
import PyProof.TupleOfGen
import PyProof.Rows.Tup
import PyProof.Draws
import PyProof.EnumMake
import PyProof.StrWalks
import PyProof.SliceStr2
import PyProof.ListNew
import KE.KDictOf
import PyProof.ListRange
import PyProof.Rows.GenSrcRange
import PyProof.ListCopy
import PyProof.AttrMissHeap
import PyProof.DictWalks
import PyProof.FactsDict
import KE.KSortKey
import PyProof.TableCode
import PyProof.Rows.KernelRfl
import PySem.Challenge.RW_barsplit_k43_whole_ways_by_bars_and_squa
open List renaming range → MO,mem_range → MR,getElem?_eq_getElem → MS,getD_eq_getElem?_getD → MU,replicate → MV,size_toArray → MZ,mem_cons → Nc,mem_filter → Nd,length_map → Nf,getElem?_eq_some_iff → Ng,getElem?_set_ne → Ni,map_congr_left → Nj,mem_cons_self → Nk,mem_append_right → Nl,mem_cons_of_mem → Np,mem_map → Nq,map_cons → Nt,length_range → Nu,map_map → NB,getElem?_map → NC,not_mem_nil → ND,map_append → NF,eq_nil_of_length_eq_zero → NG,countP_eq_length_filter → NJ,getElem?_cons_zero → NL,length_append → NO,getElem?_cons_succ → NR,range_succ → NT,length_cons → NW,count_eq_zero_of_not_mem → NX,lookup_cons → Oc,getElem_mem → Od,getElem?_append_right → Oj,getElem?_append_left → Dk,getElem?_set_self → Ov,range' → OB,getElem?_eq_none → OM,countP_congr → ON,all_eq_true → OQ,replicate_succ → Pb,length_nil → Pc,getElem?_range → Pd,length_take → Pe,mem_singleton → Pf,pairwise_iff_getElem → G7,find?_cons → Po,take_of_length_le → PJ,zip_map' → Dl,mem_range'_1 → PR,flatten_cons → PU,ext_getElem? → PX,Pairwise → PY,range_eq_range' → Rb,mem_of_getElem? → Rc,nodup_range → Rh,getElem_of_mem → Ri,set_cons_zero → Rm,set_cons_succ → Rn,nodup_cons → Ro,getElem?_replicate → Rp,filter_append → Rq,countP_map → Rr,append_nil → Rt,pairwise_lt_range → RA,pairwise_map → RB,length_singleton → RG,range'_succ → RK,perm_iff_count → RP,nil_append → RQ,mem_append → RR,idxOf_lt_length_of_mem → RT,filter_sublist → RU,countP_eq_zero → RV,zip_cons_cons → Sf,toArray → Sg,range_add → Sm,drop_eq_getElem_cons → Sn,any_cons → G9,length_drop → SD,countP_cons → SE,map_nil → SN,length_filter_le → SO,mem_append_left → Td,getElem?_of_mem → Te,filterMap_cons → Tj,getElem_idxOf → Tu,find?_eq_none → Tv,all_cons → Tw,length_eq_countP_add_countP → TC,getElem?_set → TH,foldl → TJ,filter_congr → TK,cons_append → TR,any_eq_true → TU
open PySem.W renaming Frag → MP,kia_one → NQ,kitOne → PZ,cellsFrom_some → Rl,fnOf → Ry,keepIn → RW,findIn → RX,codeIn → SM,methodObj → Tp,kitx_list → Tq,kitx_dict → Tr
open PySem renaming wpAny_bind → MQ,wpAny_pure → Na,wpAny_field → Oq,wpAny_truthy_bool → OF,wpAny_newObj_type → OG,wpAny_callSpecial?_slot → OH,wpAny_setField_rec → OJ,wpAny_loadPart' → OX,wpAny_call_entry → OY,wpAny_mono → Pj,wpAny_seqItems → Pp,call_meets → Px,wpAny_holding → PK,mem_of_lookup → Rf,Builtin → Rj,wpAny_Call_Name_kw → RD,sizeLine_eq → RL,wpAny_rule → Si,wpAny_passesOwn → So,pushCells_keeps → Sr,wpAny_typeOf → Sx,wpAny_pyIter_tuple → Sy,wpAny_attempt → SR,codeAny_mono → Tn,wpAny_updateSeq_pair → Tx,wpAny_letGo → TL,wpAny_standAt → TX,wpAny_onRaise → TY,wpAny_pyIter_list → Ug,typeIs_int → Uh,concat_meets → Ui,noFill_tuple_add → Uj,Addr → di,Value → dj,Expr → dt,eval → dv,Shared → dy,model → d6,Heap → eg,sizeLine → ej,starEach → el,Pos → fh,Scope → fA,World → f9,Program → hG,Stmt → iQ,Around → l7,compareOp → ml,Env → m4,Obj → m5,IsPair → m7,Builtin → n5,backTo → n6,FuncData → oe,foldedSetIterable → pf,cellsFrom → p8,Keyword → qs,binaryOp → ro,swapsWith → r9,IsEnum → sf,IsZip → sh,NameKind → sm,mainGlobals → tr,relabel → t7,assign → u6,behindInMarks → u7,holding → vk,IsPart → xr,assignEach → x6,cLine → yg,getItem → A5,sysModules → B0,bootBuiltins → C1,pushCells → C8,bindC → Dn,bindL → Dp,callerA → Dq,isTrue → Dt,rawInt → Dx,atKey → DD,attributeBase → DE,backToKw → DF,pyNext → DR,standAt → DT,valueAt → DX,Meets → D3,truthy → F7,BindsTo → Gx,letOwnedTupleGo → L4,pyIter → M3,spliced → M6,typeLookup → N2,IsEnumOut → N7,ZipApart → O5,firstArgMember → P4,lastMarks → R3,ownMembersOf → S0,subscripted → Ta,swapsWithSole → Tb,PassesOwn → Um,builtinsNs → Ur,newFunctionEnv → UH,seqIndex_neg → UL,seqIndex_of → UM,seq_tuple_add → UN,setItem → UO,swappedStores → U3,tupleKind → Vs,typeIs_str → a_,wpAny_Name → e',wpAny_execs_nil → e_,builtinLookup_eq_fast → E_,getattributeRaised → K_,tupleKind_room_in1 → _a,wpAny_assign_Name → _d,wpAny_binaryOp_repeat_ref → _e,wpAny_isTrue_Compare1 → _g,wpAny_letOwnedTupleGo_enum → _h,wpAny_sequenceKey → _i
open PySem.Heap renaming get?_push_of_some → MT,lt_size → Nh,get?_push_size → Nm,size_push → NV,push → Og,get?_update_other → Ow,SameBut → RH,size_update → SH,get?_update_self → SQ
open Option renaming bind_some → MW,map_some → OA,some → OE,isSome_iff_exists → OV,getD_some → RF,map → Sj,map_eq_some_iff → Sz,some → bQ
open Int renaming mul_emod → MX,emod_lt_of_pos → Nx,add_emod → Ny,emod_eq_of_lt → Nz,mul_zero → NK,emod_nonneg → NM,emod_emod → NP,emod_eq_emod_iff_emod_sub_eq_zero → Oe,emod_emod_of_dvd → Of,toNat_natCast → Oi,mul_comm → Om,mul_one → OL,mul_assoc → OP,sub_emod → OW,mul_left_comm → Pu,dvd_refl → Pw,toNat_of_nonneg → PD,eq_ofNat_of_zero_le → Rx,natCast_mul → RY,mul_add → RZ,one_mul → SF,add_mul → SG,zero_mul → Ht,sub_self → TV
open Nat renaming le_refl → MY,lt_or_ge → Nn,lt_of_lt_of_le → Nr,not_lt_zero → Nv,ne_of_lt → NI,lt_irrefl → NU,le_add_right → NY,le_trans → NZ,lt_succ_of_lt → Oh,add_sub_cancel_left → B8,zero_le → OD,zero_add → OO,lt_succ_self → OR,ne_of_gt → Pg,mul_comm → Ph,lt_trichotomy → RE,add_assoc → RN,add_zero → Sl,le_succ → D6,succ_mul → SV,min_eq_left → SW,le_of_lt → SY,add_left_cancel → Ts,add_comm → TQ,mod_eq_of_lt → Ub,div_eq_of_lt → Uc
open Bool renaming and_eq_true → Nb,false_ne_true → Nw,or_eq_true → OC,false_eq_true → OI,not_eq_true' → Pa,false_or → Rv,eq_iff_iff → Rw,true → bX,false → cE
open PySem.NameKind renaming free → NA,cell → Pn
open PySem.Builtin.SmallTypes renaming nextOf → NH,ownedTupleIsFree → Ob,ownedTupleHandOut → OT,ownedTupleFields → Sb
open Option.some renaming inj → NN
open PySem.Str renaming ofString → NS,join → Ue
open Ne renaming symm → Oa
open Classical renaming byContradiction → Oo,axiomOfChoice → Sh
open PySem.Obj renaming mapSeq → Ot,data_mapFields → Tz
open PyProof.Rows renaming callWith_type1 → Ou,slot_tuple_getitem → Oz,slot_tupleiter_next → Sq,tupleItemsOf_ → SS,callWith_builtin1 → SU,listUpdate_at → TZ,seqObj → h8,AllBare → B5,Call_ → DZ,IsTup → D2,IntsAre → G5,envOfC → Ig,Subscript_ → Up,subscriptTail → U0,args_tuple_getitem → D',args_tupleiter_next → D_,entry_tupleiter_next → I_,subscriptTail_builtinR → Y'
open PySem.Value renaming none → Ox,ref → OK,int → SJ,type → SK,str → To
open PySem.SeqAt renaming EqAt → Oy
open PySem.Builtin.Tuple renaming tupleExact → OS,tupleIsExact → PF
open Array renaming length_toList → OU,getD_eq_getD_getElem? → PM
open Sum renaming inl → OZ,inr → TM
open False renaming elim → Pk
open PySem.F renaming plainAttrs_list → Pq,slot_enumerate_next → Ra,slot_list_getattribute → Ru,slot_tuple_mul → RO,args_tuple_add_2 → Sd,entry_tuple_add → Ss,slot_tuple_add → Sv,slot_zip_next → Tf,slot_int_rmul → Th,args_tuple_mul_2 → TN,entry_tuple_mul → Ud
open PySem.PyData renaming eqv → Py,depth → Rg,canLay0 → Rz,depthAll → SI,eqvAll → Ti,canLayAll0 → Tt
open True renaming intro → PH
open PySem.Builtin.Slice renaming slicePlaces → PL,sliceAdjust → RJ
open PySem.Builtin.List renaming listTooLong → PN
open PySem.Challenge renaming rw_barsplit_k43_whole_ways_by_bars_and_squa → _k
open List.Pairwise renaming imp_of_mem → RM,filter → Su
open PySem.Calls renaming spliced_cons → Sa,spliced_nil → TF
open ForInStep renaming yield → Sw
open PySem.SeqAt.EqAt renaming int_int → Uo
open Prod renaming ext → Ua
local macro_rules | `(⋯) => `(by first | decide +kernel | omega | simp)
set_option autoImplicit true
noncomputable section
set_option Elab.async false
set_option linter.all false
set_option maxRecDepth 100000
set_option maxHeartbeats 4000000
abbrev EQ:=PySem.Value->PySem.Shared->Prop
abbrev UQ:=List (PySem.Addr×PySem.Obj)
abbrev UW:=Nat->Nat->Nat->Int
abbrev UV:=Nat->Nat->Int
abbrev UK:=Nat->Bool
abbrev UX:=Nat->Nat
abbrev UZ:=PySem.Str->Option PySem.Value
theorem UJ{c:Prop}{h:Decidable c}(z:c){α}{a b:α}:ite c a b=a:=if_pos z
theorem UY{c:Prop}{h:Decidable c}(z:¬c){α}{a b:α}:ite c a b=b:=if_neg z
namespace L2
open PySem PySem.Spec PyProof.Rows
abbrev Key:=Sum Int Str
noncomputable def cu:Key->dj->Bool
 | .inl k,v=>Value.isInt k v
 | .inr x,v=>Value.isStrOf x v
noncomputable def Mh(w:f9):Key->Int
 | .inl k=>hashInt k
 | .inr x=>hashStr w x
theorem qw : ∀{k:Key} {v:dj},cu k v=bX->(∃i t,k=OZ i/\v=SJ i t)\/(∃x t,k=TM x/\v=To x t)
 | .inl i,v,h=>by obtain⟨t,e⟩:=Value.isInt_shape (k:=i) (v:=v) h;exact .inl ⟨i,t,rfl,e⟩
 | .inr x,v,h=>by obtain⟨t,e⟩:=Value.isStrOf_shape (x:=x) (v:=v) h;exact .inr ⟨x,t,rfl,e⟩
theorem gk(i:Int)(t:Tok):cu (.inl i) (.int i t)=bX:=by simp[cu,Value.isInt]
theorem gj(x:Str)(t:Tok):cu (.inr x) (.str x t)=bX:=by simp[cu,Value.isStrOf]
theorem CJ(a b:Int):decide ((OZ a:Key)=OZ b)=(a==b):=by
 by_cases e:a=b
 ·subst e;simp
 ·have h : ¬(OZ a:Key)=OZ b:=λq=>e (OZ.inj q)
  rw[decide_eq_false h];exact(beq_eq_false_iff_ne.mpr e).symm
theorem CG(a b:Str):decide ((TM a:Key)=TM b)=decide (a=b):=by
 by_cases e:a=b
 ·subst e;simp
 ·have h : ¬(TM a:Key)=TM b:=λq=>e (TM.inj q)
  rw[decide_eq_false h,decide_eq_false e]
theorem CI(a:Int)(b:Str):decide ((OZ a:Key)=TM b)=cE:=decide_eq_false<|λq=>nomatch q
theorem CH(a:Str)(b:Int):decide ((TM a:Key)=OZ b)=cE:=decide_eq_false<|λq=>nomatch q
noncomputable def xO(prog:hG)(w:f9):PySem.KeyKind prog w Key where
 is:=cu
 hash:=Mh w
 inj:=λv a b ha I=>by
  rcases qw ha with⟨i,t,rfl,rfl⟩ | ⟨x,t,rfl,rfl⟩
  ·rcases qw I with⟨j,u,rfl,e⟩ | ⟨y,u,rfl,e⟩
   ·injection e with e1 _;rw[e1]
   ·exact nomatch e
  ·rcases qw I with⟨j,u,rfl,e⟩ | ⟨y,u,rfl,e⟩
   ·exact nomatch e
   ·injection e with e1 _;rw[e1]
 byValue:=λk v h=>by rcases qw h with⟨i,t,rfl,rfl⟩ | ⟨x,t,rfl,rfl⟩<;>rfl
 pyHash:=λz h=>by
  rcases qw z with⟨i,t,rfl,rfl⟩ | ⟨x,t,rfl,rfl⟩
  ·exact wpAny_pyHash_int h
  ·exact wpAny_pyHash_str h
 eqBool:=λO z h=>by
  rcases qw O with⟨i,t,rfl,rfl⟩ | ⟨x,t,rfl,rfl⟩
  ·rcases qw z with⟨j,u,rfl,rfl⟩ | ⟨y,u,rfl,rfl⟩
   ·rw[CJ]at h;exact wpAny_eqBool_int h
   ·rw[CI]at h;exact Oy.int_str i t y u _ _ _ _ h
  ·rcases qw z with⟨j,u,rfl,rfl⟩ | ⟨y,u,rfl,rfl⟩
   ·rw[CH]at h;exact Oy.str_int x t j u _ _ _ _ h
   ·rw[CG]at h;exact wpAny_eqBool_str h
 «strs» :=λk x t v h=>by
  rcases qw h with⟨i,u,rfl,e⟩ | ⟨y,u,rfl,e⟩
  ·exact nomatch e
  ·injection e with e1 _
   subst e1;cases v<;>rfl
theorem VZ(prog:hG)(w:f9)(i:Int)(t:Tok):(xO prog w).is (.inl i) (.int i t)=bX:=gk i t
theorem VY(prog:hG)(w:f9)(x:Str)(t:Tok):(xO prog w).is (.inr x) (.str x t)=bX:=gj x t
inductive V where
 | d7 | bl (b:Bool) | int (i:Int) | str (x:Str) | D7 (b:Array UInt8) | DM (b:UInt64) | ref (a:di) | ty (n:String)
 deriving DecidableEq
noncomputable def RelV:V->dj->Prop
 | .d7,u=>u=Ox
 | .bl b,u=>u=Value.bool b
 | .int i,u=>∃t,u=SJ i t
 | .str x,u=>∃t,u=To x t
 | .D7 b,u=>∃t,u=Value.bytes b t
 | .DM b,u=>∃t,u=Value.float b t
 | .ref a,u=>u=OK a
 | .ty n,u=>u=SK n
abbrev d9:List V->List dj->Prop:=Paired RelV
theorem d9.length(r:d9 xs us):xs.length=us.length:=Paired.length r
theorem d9.get : ∀{xs:List V} {us:List dj} {i:Nat} {x:V},d9 xs us->xs[i]? = bQ x->∃u,us[i]? = bQ u/\RelV x u
 | _,_,_,_,.nil,e=>by simp at e
 | _,_,0,_,.cons r _,e=>by simp at e;subst e;exact⟨_,rfl,r⟩
 | _,_,i+1,x,.cons _ t,e=>by obtain⟨u,a,b⟩:=d9.get (i:=i) (x:=x) t (by simpa using e);exact⟨u,by simpa using a,b⟩
theorem d9.set(r:RelV x u) : ∀{xs:List V} {us:List dj} (i:Nat),d9 xs us->d9 (xs.set i x) (us.set i u)
 | _,_,_,.nil=> .nil
 | _,_,0,.cons _ t=> .cons r t
 | _,_,i+1,.cons q t=> .cons q (d9.set r i t)
theorem d9.append : ∀{xs ys:List V} {us ws:List dj},d9 xs us->d9 ys ws->d9 (xs++ys) (us++ws)
 | _,_,_,_,.nil,s=>s
 | _,_,_,_,.cons r t,s=> .cons r (d9.append t s)
theorem d9.take : ∀{xs:List V} {us:List dj} (n:Nat),d9 xs us->d9 (xs.take n) (us.take n)
 | _,_,0,_=> .nil
 | _,_,_+1,.nil=> .nil
 | _,_,n+1,.cons r t=> .cons r (d9.take n t)
theorem d9.drop : ∀{xs:List V} {us:List dj} (n:Nat),d9 xs us->d9 (xs.drop n) (us.drop n)
 | _,_,0,r=>r
 | _,_,_+1,.nil=> .nil
 | _,_,n+1,.cons _ t=>d9.drop n t
noncomputable def sx:Option V->Option dj->Prop
 | some v,bQ u=>RelV v u
 | none,none=>True
 | _,_=>False
noncomputable def KV{C:Type}:List (C×V)->List (C×dj)->Prop:=Paired λ(p:C×V) (q:C×dj)=>p.1=q.1/\RelV p.2 q.2
noncomputable def kV:Key->V
 | .inl i=> .int i
 | .inr x=> .str x
inductive HO where
 | lst (xs:List V)
 | tup (xs:List V)
 | dK (ji:List (Key×V)) | dT (ji:List (List Key×V))
 | set (S:Int->Bool) (n:Nat)
 | ins (C dx:di) (fs:List (Str×V))
 | own (x:di)
 | xd (fs:List (Str×V))
 | met (f x:di)
 | h9 (lo hi:Int)
 | qi (o:m5) (u:HO)
 | Dy (ps:Array dj)
 | ext (φ:eg->Prop)
abbrev Hp:=di->Option HO
noncomputable def upd(H:Hp)(a:di)(o:HO):Hp:=λb=>if b=a then bQ o else H b
theorem zW:upd H a o a=bQ o:=by unfold upd;rw[UJ rfl]
theorem zV(h:b≠a):upd H a o b=H b:=by unfold upd;rw[UY h]
theorem dc{H:Hp}{a:di}{o u:HO}:upd (upd H a o) a u=upd H a u:=by funext b;unfold upd;split<;>rfl
theorem qm{H:Hp}{a b:di}{o:HO}(h:H a=bQ o)(h':H b=none):a≠b:=by intro e;subst e;rw[h]at h';cases h'
noncomputable def u4(h:eg)(a:di)(items:Array dj):Prop:=∃o,h.get? a=bQ o/\(o.cls,o.dict)=(SK "tuple",none)/\∃n,o.data = .seq items n
theorem u4.new(h:eg)(items:Array dj):u4 (h.push {cls:= .type "tuple",data:= .seq items}) h.objs.size items:=⟨_,Nm _ rfl,rfl,_,rfl⟩
theorem u4.tup(x:u4 h a items):D2 h a items:=let ⟨o,e,c,r⟩:=x;⟨o,e,(Prod.mk.inj c).1,r⟩
section
variable(P:hG)(w:f9)
noncomputable def i5(H:Hp)(h:eg)(a:di):HO->Prop
 | .lst d=>d.length<=ej/\∃(z:List dj) (n:Nat),d9 d z/\h.get? a=bQ {cls:= .type "list",data:= .seq z.toArray n}
 | .tup d=>d.length<=ej/\∃z:List dj,d9 d z/\u4 h a z.toArray
 | .dK b=>b.length<=ej/\(a==B0)=cE/\∃l,KV b l/\h.DictOf (xO P w) a l
 | .dT b=>b.length<=ej/\(a==B0)=cE/\∃d:List (List Key×di×dj),
  Paired (λ(p:List Key×V) (q:List Key×di×dj)=>p.1=q.1/\H q.2.1=bQ (.tup<|p.1.map kV)/\RelV p.2 q.2.2) b d/\
  ∃o i I,h.get? a=bQ o/\o.ExactDict/\o.data = .dict i I/\i.toList=d.map (entryOfKey<|tupleKind<|xO P w)/\(d.map (·.1)).Nodup
 | .set S n=>h.SetOf (intKind P w) a S n
 | .ins C e fs=>H e=bQ (.own a)/\fs.length<=1000/\e≠a/\h.get? a=bQ (PySem.W.instObj C e)/\
  ∃mA,h.Ns1 e mA/\(∀f,sx (fs.lookup f)<|mA f)/\PySem.Within mA (fs.map (·.1))
 | .own _=>∃o,h.get? a=bQ o
 | .xd fs=>∃mA,h.Ns1 a mA/\∀f,sx (fs.lookup f)<|mA f
 | .h9 lo m=>∃t u v,h.get? a=bQ {cls:= .type "range",data:= .fields #[.int lo t,.int m u,.int 1 v]}
 | .qi o u=>h.get? a=bQ o/\i5 H h a u
 | .Dy r=>h.get? a=bQ {cls:= .none,data:= .fields r}
 | .met f x=>h.get? a=bQ (Tp (.ref f)<|.ref x)
 | .ext g=>g h/\(∃o,h.get? a=bQ o)/\∀j k:eg,g j->(∀o,j.get? a=bQ o->k.get? a=bQ o)->g k
noncomputable def i7(H:Hp)(h:eg):Prop:=∀a o,H a=bQ o->i5 P w H h a o
end
section
variable{P:hG}{w:f9}{H H':Hp}{h h':eg}{a:di}{o:HO}
theorem i5.lt(x:i5 P w H h a o):a<h.objs.size:=by
 cases o with
 | lst d=>obtain⟨_,_,_,_,e⟩:=x;exact Nh e
 | tup d=>obtain⟨_,_,_,p⟩:=x;exact p.tup.lt
 | dK b=>obtain⟨_,_,_,_,o,_,_,e,_⟩:=x;exact Nh e
 | dT b=>obtain⟨_,_,_,_,o,_,_,e,_⟩:=x;exact Nh e
 | set S n=>obtain⟨o,_,_,_,e,_⟩:=x;exact Nh e
 | ins C g fs=>obtain⟨_,_,_,e,_⟩:=x;exact Nh e
 | own y=>obtain⟨_,e⟩:=x;exact Nh e
 | xd fs=>obtain⟨_,⟨_,_,_,e,_⟩,_⟩:=x;exact Nh e
 | h9 lo i=>obtain⟨_,_,_,e⟩:=x;exact Nh e
 | qi z u=>obtain⟨e,_⟩:=x;exact Nh e
 | Dy j=>exact Nh (show h.get? a=bQ _ from x)
 | met f y=>exact Nh (show h.get? a=bQ _ from x)
 | ext k=>obtain⟨_,⟨_,e⟩,_⟩:=x;exact Nh e
theorem Paired.UG : ∀{z:List α} {I:List β},Paired F z I->(∀a b,F a b->G a b)->Paired G z I
 | _,_,.nil,_=> .nil
 | _,_,.cons r t,f=> .cons (f _ _ r) (Paired.UG t f)
theorem i5.C9(x:i5 P w H h a o)(k : ∀b u,(b=a\/H b=bQ (.own a))->h.get? b=bQ u->h'.get? b=bQ u)
 (J : ∀b,H b=bQ (.own a)->H' b=bQ (.own a)) (L : ∀b xs,H b=bQ (.tup xs)->H' b=bQ (.tup xs)):i5 P w H' h' a o:=by
 induction o with
 | lst xs=>obtain⟨z,U,n,r,e⟩:=x;exact⟨z,U,n,r,k _ _ (.inl rfl) e⟩
 | tup xs=>obtain⟨z,U,r,I,e,c⟩:=x;exact⟨z,U,r,I,k _ _ (.inl rfl) e,c⟩
 | dK i=>obtain⟨z,y,E,r,I,g,O,e,c⟩:=x;exact⟨z,y,E,r,I,g,O,k _ _ (.inl rfl) e,c⟩
 | dT i=>
  obtain⟨z,y,xs,r,I,g,O,e,c⟩:=x;exact⟨z,y,xs,Paired.UG r λp q z=>⟨z.1,L _ _ z.2.1,z.2.2⟩,I,g,O,k _ _ (.inl rfl) e,c⟩
 | set S n=>obtain⟨I,g,O,t,e,c⟩:=x;exact⟨I,g,O,t,k _ _ (.inl rfl) e,c⟩
 | ins C F fs=>
  obtain⟨d,z,B,e,j,⟨l,g,O,s,c⟩,r⟩:=x;exact⟨J _ d,z,B,k _ _ (.inl rfl) e,j,⟨l,g,O,k _ _ (.inr d) s,c⟩,r⟩
 | own y=>obtain⟨I,e⟩:=x;exact⟨I,k _ _ (.inl rfl) e⟩
 | xd fs=>obtain⟨j,⟨l,g,O,e,c⟩,r⟩:=x;exact⟨j,⟨l,g,O,k _ _ (.inl rfl) e,c⟩,r⟩
 | h9 lo G=>obtain⟨t,u,v,e⟩:=x;exact⟨t,u,v,k _ _ (.inl rfl) e⟩
 | qi I u A=>obtain⟨e,q⟩:=x;exact⟨k _ _ (.inl rfl) e,A q⟩
 | Dy m=>
  have e:h.get? a=bQ {cls:= .none,data:= .fields m}:=x;show h'.get? a=bQ {cls:= .none,data:= .fields m};exact k a _ (.inl rfl) e
 | met f y=>
  have e:h.get? a=bQ (Tp (.ref f)<|.ref y):=x;show h'.get? a=bQ (Tp (.ref f)<|.ref y);exact k a _ (.inl rfl) e
 | ext K=>obtain⟨p,⟨o,e⟩,st⟩:=x;exact⟨st _ _ p λo q=>k _ _ (.inl rfl) q,⟨o,k _ _ (.inl rfl) e⟩,st⟩
theorem i7.lt(x:i7 P w H h)(e:H a=bQ o):a<h.objs.size:=(x a o e).lt
theorem i7.fresh(x:i7 P w H h)(e:h.objs.size<=a):H a=none:=by
 cases q:H a with
 | none=>rfl
 | some u=>exact absurd (Nr (x.lt q) e)<|NU _
theorem i7.kept(x:i7 P w H h)(k : ∀b u,h.get? b=bQ u->h'.get? b=bQ u):i7 P w H h':=λa o e=>
 (x a o e).C9 (λb u _ q=>k b u q) (λ_ q=>q) λ_ _ q=>q
theorem i7.laid(x:i7 P w H h)(k : ∀b u,h.get? b=bQ u->h'.get? b=bQ u)(I:h.objs.size<=a)(new:i5 P w (upd H a o) h' a o):i7 P w (upd H a o) h':=λb u e=>by
 have d:=x.fresh I;by_cases z:b=a
 ·subst z;rw[zW]at e;cases e;exact new
 ·rw[zV z]at e
  exact(x b u e).C9 (λc v _ q=>k c v q) (λc q=>by rw[zV (qm q d)];exact q) λc f q=>by rw[zV (qm q d)];exact q
end
noncomputable def Rd(H:Hp)(a:di)(u:HO):Prop:=H a=bQ u\/∃o,H a=bQ (.qi o u)
theorem Rd.ok(r:Rd H a u)(x:i7 P w H h):i5 P w H h a u:=by
 rcases r with r | ⟨o,r⟩
 ·exact x a u r
 ·obtain⟨_,q⟩:=x a _ r
  exact q
noncomputable def D4:Option HO->Prop
 | some (.lst _)=>True
 | some (.dK _)=>True
 | some (.dT _)=>True
 | some (.set _ _)=>True
 | some (.ins _ _ _)=>True
 | some (.ext _)=>True
 | _=>False
section
variable{P:hG}{w:f9}{H:Hp}{h h':eg}{x e:di}{o':HO}
theorem i7.write(ok:i7 P w H h)(I:D4 (H x))(C:e=x\/H e=bQ (.own x))(k : ∀b u,b≠e->h.get? b=bQ u->h'.get? b=bQ u)(J : ∃u,h'.get? e=bQ u)
 (new:i5 P w (upd H x o') h' x o'):i7 P w (upd H x o') h':=λb u q=>by
 have d : ∀c y,H c=bQ (.own y)->c≠x:=λc y r z=>by subst z;rw[r]at I;exact I
 have g : ∀c a,H c=bQ (.tup a)->c≠x:=λc a r z=>by subst z;rw[r]at I;exact I
 by_cases O:b=x
 ·subst O;rw[zW]at q;cases q;exact new
 ·rw[zV O]at q
  by_cases U:b=e
  ·have f:H b=bQ (.own x):=by
    rcases C with z | z
    ·exact absurd (U.trans z) O
    ·rw[U];exact z
   rw[q]at f;cases f;obtain⟨v,i⟩:=J;exact⟨v,by rw[U];exact i⟩
  ·refine(ok b u q).C9 (λc v hc r=>k c v ?_ r) (λc r=>by rw[zV (d c b r)];exact r) λc a r=>by rw[zV (g c a r)];exact r
   rcases hc with rfl | hc
   ·exact U
   ·rintro rfl
    rcases C with z | z
    ·exact d c b hc z
    ·rw[hc]at z;cases z;exact O rfl
end
structure Un(fs ex:List di)(H H':Hp)(h h':eg):Prop where
 keep : ∀b o,h.get? b=bQ o->H b=none->b∉fs->b∉ex->h'.get? b=bQ o
 slot : ∀b o,h.get? b=bQ o->H b=none->b∈fs->b∉ex->∃sl,h'.get? b=bQ {o with slots:=sl}
 free : ∀b o,h.get? b=bQ o->H b=none->b∉ex->H' b=none
 there : ∀b o,h.get? b=bQ o->b∉ex->∃o',h'.get? b=bQ o'
 B3 : ∀b xs,H b=bQ (.tup xs)->H' b=bQ (.tup xs)
 C7 : ∀b o u,H b=bQ (.qi o u)->H' b=bQ (.qi o u)
 Dz : ∀b ps,H b=bQ (.Dy ps)->∃more,H' b=bQ (.Dy<|ps++more)
section
variable{fs J_ ex _m:List di}{H H1 H2:Hp}{h h1 h2 h':eg}{a x e:di}{o:HO}
theorem Un.any(u:Un fs ex H H1 h h1)(q:h.get? b=bQ ob)(n:H b=none)(hx:b∉ex) : ∃C,h1.get? b=bQ {ob with slots:=C}:=by
 by_cases z:b∈fs
 ·exact u.slot b ob q n z hx
 ·exact⟨ob.slots,u.keep b ob q n z hx⟩
theorem Un.kept(k : ∀b u,h.get? b=bQ u->h'.get? b=bQ u):Un fs ex H H h h':=
 ⟨λb z q _ _ _=>k b z q,λb z q _ _ _=>⟨z.slots,k b z q⟩,λ_ _ _ n _=>n,λb z q _=>⟨z,k b z q⟩,λ_ _ q=>q,λ_ _ _ q=>q,λ_ a q=>⟨#[],by rw[q];simp⟩⟩
theorem Un.refl:Un fs ex H H h h:=Un.kept λ_ _ q=>q
theorem Un.laid(k : ∀b u,h.get? b=bQ u->h'.get? b=bQ u)(z:h.objs.size<=a)(hn:H a=none):Un fs ex H (upd H a o) h h' where
 keep:=λb u q _ _ _=>k b u q
 slot:=λb u q _ _ _=>⟨u.slots,k b u q⟩
 free:=λb u q n _=>by rw[zV (NI<|Nr (Nh q) z)];exact n
 there:=λb u q _=>⟨u,k b u q⟩
 B3:=λb xs q=>by rw[zV (qm q hn)];exact q
 C7:=λb u xs q=>by rw[zV (qm q hn)];exact q
 Dz:=λb ps q=>⟨#[],by rw[zV (qm q hn),q];simp⟩
theorem Un.write(I:D4 (H x))(J:e=x\/H e=bQ (.own x))(k : ∀b u,b≠e->h.get? b=bQ u->h'.get? b=bQ u)(C : ∃u,h'.get? e=bQ u):Un fs ex H (upd H x o) h h':=by
 have d : ∀b,H b=none->b≠x:=λb n z=>by subst z;rw[n]at I;exact I
 have O : ∀b,H b=none->b≠e:=λb n z=>by
  subst z;rcases J with r | r
  ·exact d b n r
  ·rw[n]at r;cases r
 have a : ∀b u,H b=bQ u->¬D4 (bQ u)->b≠x:=λb u q nm z=>by subst z;rw[q]at I;exact nm I
 refine⟨λb u q n _ _=>k b u (O b n) q,λb u q n _ _=>⟨u.slots,k b u (O b n) q⟩,λb u q n _=>by rw[zV (d b n)];exact n,λb u q _=>?_,
  λb f q=>by rw[zV (a b _ q λz=>z)];exact q,λb u f q=>by rw[zV (a b _ q λz=>z)];exact q,λb g q=>⟨#[],by rw[zV (a b _ q λz=>z),q];simp⟩⟩
 by_cases U:b=e
 ·subst U;exact C
 ·exact⟨u,k b u U q⟩
end
noncomputable def N0(h:eg)(H:Hp):List di:=(MO h.objs.size).filter λa=>(H a).isSome
noncomputable def nQ(h:eg)(H:Hp):eg:=PySem.W.hideAll h<|N0 h H
theorem gF(h:eg)(H:Hp):(nQ h H).objs.size=h.objs.size:=PySem.W.hideAll_size _ _
theorem nP(e:h.get? b=bQ o)(n:H b=none):(nQ h H).get? b=bQ o:=
 PySem.W.hideAll_get _ e λa=>by have q:(H b).isSome=bX:=(Nd.mp a).2;rw[n]at q;simp at q
theorem uh(e:(nQ h H).get? b=bQ o):h.get? b=bQ o/\H b=none:=by
 have I:h.get? b=bQ o:=PySem.W.of_hideAll (N0 h H) e;refine⟨I,?_⟩;cases q:H b with
 | none=>rfl
 | some x=>
  have a:b∈N0 h H:=Nd.mpr ⟨MR.mpr<|Nh I,by simp[q]⟩;have z:(nQ h H).get? b=none:=PySem.W.hideAll_none (N0 h H) a;rw[z]at e;cases e
noncomputable def Ae(g h:eg)(L:di):List (di×m5):=(MO h.objs.size).filterMap λa=>if a=L\/(g.get? a).isSome=bX then none else (h.get? a).map λo=>(a,o)
noncomputable def wj(g h:eg)(L d:di):List (di×m5):=(Ae g h L).filter λp=>decide<|p.1≠d
structure Mod(K:MP)(mg:UZ)(base:eg):Prop where
 R1:K.In base
 glob:base.Ns tr mg
 blt : ∃mb,base.Ns Ur mb/\∀x:Str,x ≠ "__name__"->mb x=C1 x
 nolimit:base.NoLimit
structure Cx where
 prog:hG
 w:f9
 K:MP
 mg:Str->Option dj
 base:eg
 A:l7
 N:List Str
 m1:dy
 D1:Hp
 env:m4
 outer:List m4
 stack:List m4
 ex:List di
 fn:Str->Bool
 calm:Bool
 pn:List (di×m5)
 xe:dj->dy->Prop
noncomputable def s8(l:List m4):List di:=l.filterMap (·.frame)
abbrev Cx.fs(X:Cx):List di:=s8 X.outer
noncomputable def O3(C:fA)(x:Str):Prop:=C.names.lookup x=bQ .local\/C.names.lookup x=bQ .cell\/C.names.lookup x=bQ .free
noncomputable def Loc(C:fA)(x:Str):Prop:=C.names.lookup x=bQ .local\/C.names.lookup x=bQ .cell
noncomputable def Mx(env:m4)(h:eg)(m:UZ)(x:Str)(u:dj):Prop:=
 (env.kindOf x=bQ .local/\m x=bQ u)\/((env.kindOf x=bQ .cell\/env.kindOf x=bQ .free)/\∃c,env.cells.lookup x=bQ c/\h.IsCell c (bQ u))
structure Cx.Ok(X:Cx):Prop where
 mod:Mod X.K X.mg X.base
 kind:X.env.scope.kind = .function
 glob:X.env.globals=tr
 blt:X.env.builtins=Ur
 above:X.m1.heap.objs.size<=X.env.locals
 inj : ∀x y c,X.env.cells.lookup x=bQ c->X.env.cells.lookup y=bQ c->x=y
 has : ∀x,(X.env.kindOf x=bQ .cell\/X.env.kindOf x=bQ .free)->∃c,X.env.cells.lookup x=bQ c
 E2 : ∀x c,X.fn x=bX->X.env.cells.lookup x=bQ c->X.m1.heap.objs.size<=c
 hd:X.calm=bX->X.A.handled=none
 frames:X.A.frames=bQ X.stack
 M7:X.stack=X.outer\/(X.stack=X.env::X.outer/\X.env.frame=bQ X.env.locals)
 I8 : ∀b∈X.ex,b≠X.env.locals/\∀x c,X.env.cells.lookup x=bQ c->c≠b
 bs : ∀b o,X.base.get? b=bQ o->X.m1.heap.get? b=bQ o/\X.D1 b=none
 u9:X.base.objs.size<=X.m1.heap.objs.size
 E8 : ∀b o,X.base.get? b=bQ o->b∉X.ex
 E4 : ∀b∈X.ex,b∉X.fs
 qt:X.m1.heap.FunFrames X.base X.outer
 C6 : ∀b∈X.fs,X.D1 b=none
structure Inv(X:Cx)(pins:UQ)(σ:List (Option V))(H:Hp)(s:dy):Prop where
 ok:X.Ok
 os:s.os=X.m1.os
 bare:B5 s.gens
 base:Un X.fs X.ex X.D1 H X.m1.heap s.heap
 loc : ∃m,s.heap.Ns X.env.locals m/\∀(i:Nat) (x:Str) (v:V),X.N[i]? = bQ x->σ[i]? = bQ (bQ v)->O3 X.env.scope x->∃u,RelV v u/\Mx X.env s.heap m x u
 cell : ∀x c,X.env.cells.lookup x=bQ c->∃v,s.heap.IsCell c v
 free:H X.env.locals=none
 sX : ∀x c,X.env.cells.lookup x=bQ c->H c=none
 pin : ∀p∈X.pn++pins,s.heap.get? p.1=bQ p.2/\H p.1=none/\p.1≠X.env.locals/\p.1∉X.fs/\∀v,p.2.data ≠ .cell v
 eo:i7 X.prog X.w H s.heap
 len:σ.length=X.N.length
section
variable{X:Cx}{pins:UQ}{σ:List (Option V)}{H H':Hp}{s:dy}{h':eg}
theorem Cx.Ok.P_(ok:X.Ok)(e:X.base.get? b=bQ o):b∉X.fs:=λz=>by have:=(ok.qt.mem z).1;rw[e]at this;cases this
theorem Inv.bs(I:Inv X pins σ H s) : ∀b o,X.base.get? b=bQ o->s.heap.get? b=bQ o/\H b=none:=λb o e=>
 ⟨I.base.keep b o (I.ok.bs b o e).1 (I.ok.bs b o e).2 (I.ok.P_ e) (I.ok.E8 b o e),I.base.free b o (I.ok.bs b o e).1 (I.ok.bs b o e).2 (I.ok.E8 b o e)⟩
theorem Inv.bk(I:Inv X pins σ H s) : ∀b o,X.base.get? b=bQ o->s.heap.get? b=bQ o:=λb o e=>(I.bs b o e).1
theorem Inv.mod(I:Inv X pins σ H s):Mod X.K X.mg X.base:=I.ok.mod
theorem Inv.l6(I:Inv X pins σ H s):X.K.In s.heap:=I.ok.mod.R1.keeps I.bk
theorem Inv.lt(I:Inv X pins σ H s):X.env.locals<s.heap.objs.size:=let ⟨_,a,_⟩:=I.loc;a.lt
theorem Inv.sz(I:Inv X pins σ H s):X.m1.heap.objs.size<=s.heap.objs.size:=NZ I.ok.above<|SY I.lt
theorem Inv.R_(I:Inv X pins σ H s)(h:s.heap.objs.size<=a):a∉X.fs:=λz=>by obtain⟨_,o,O,_⟩:=I.ok.qt.mem z;exact absurd (Nr (Nh O)<|NZ I.sz h)<|NU _
theorem Inv.Ds(I:Inv X pins σ H s) : ∀x c,X.env.cells.lookup x=bQ c->c≠X.env.locals:=λx c e z=>by obtain⟨v,o,O,a⟩:=I.cell x c e;obtain⟨m,⟨g,f,d,U,b,_⟩,_⟩:=I.loc;rw[z,U]at O;cases O;rw[b]at a;cases a
theorem Inv.qt(I:Inv X pins σ H s):s.heap.FunFrames X.base X.outer:=by
 have all : ∀(l:List m4),(∀b∈s8 l,b∈X.fs)->X.m1.heap.FunFrames X.base l->s.heap.FunFrames X.base l:=by
  intro l
  induction l with
  | nil=>intro _ _;trivial
  | cons f r n=>
   intro d i;obtain⟨h,⟨L,o,O,j,k,g⟩,m⟩:=i;have U:L∈X.fs:=d L (by unfold s8;rw[Tj,O];exact Nk);obtain⟨p,e⟩:=I.base.slot L o k (I.ok.C6 L U) U λz=>I.ok.E4 L z U;exact⟨h,⟨L,_,O,j,e,g⟩,n (λb a=>d b<|by unfold s8;rw[Tj,O];exact Np _ a) m⟩
 exact all X.outer (λ_ a=>a) I.ok.qt
theorem Inv.stack(I:Inv X pins σ H s):s.heap.FunFrames X.base X.stack:=by
 rcases I.ok.M7 with e | ⟨e,z⟩
 ·rw[e];exact I.qt
 ·rw[e]
  obtain⟨m,a,_⟩:=I.loc;refine .cons (by rw[I.ok.kind];decide) z a ?_ I.qt;exact Heap.get?_none_of_le<|NZ I.ok.u9 I.ok.above
theorem Inv.S9(I:Inv X pins σ H s) : ∀b∈s8 X.stack,b∈X.env.locals::X.fs:=λb z=>by
 rcases I.ok.M7 with e | ⟨e,O⟩
 ·rw[e]at z;exact Np _ z
 ·rw[e]at z
  unfold s8 at z;rw[Tj,O]at z;exact z
theorem Inv.UU(I:Inv X pins σ H s) : ∀b∈s8 X.stack,H b=none:=λb O=>by
 rcases Nc.mp (I.S9 b O)with e | O
 ·rw[e];exact I.free
 ·obtain⟨_,o,U,_⟩:=I.ok.qt.mem O
  exact I.base.free b o U (I.ok.C6 b O) λz=>I.ok.E4 b z O
theorem Inv.step{g':Array GenState}{t':Nat}{d':Drawn}{ch:List di}(I:Inv X pins σ H s)
 (L : ∀b∈ch,(b∈X.ex\/X.m1.heap.objs.size<=b)/\b≠X.env.locals/\(∀x c,X.env.cells.lookup x=bQ c->c≠b)/\∀p∈X.pn++pins,p.1≠b)
 (keep : ∀b o,b≠X.env.locals->b∉X.fs->b∉ch->s.heap.get? b=bQ o->H b=none->h'.get? b=bQ o)
 (C : ∀b o,b≠X.env.locals->b∈X.fs->b∉ch->s.heap.get? b=bQ o->H b=none->∃sl,h'.get? b=bQ {o with slots:=sl}) (free : ∀b o,b∉ch->s.heap.get? b=bQ o->H b=none->H' b=none)
 (J : ∀b o,b∉ch->s.heap.get? b=bQ o->∃Y,h'.get? b=bQ Y)
 (B3 : ∀b xs,H b=bQ (.tup xs)->H' b=bQ (.tup xs)) (S : ∀b o u,H b=bQ (.qi o u)->H' b=bQ (.qi o u)) (Z : ∀b ps,H b=bQ (.Dy ps)->∃more,H' b=bQ (.Dy<|ps++more))
 (ns : ∀m,s.heap.Ns X.env.locals m->h'.Ns X.env.locals m) (eo:i7 X.prog X.w H' h') (hg:B5 g') :
 Inv X pins σ H' {s with heap:=h',gens:=g',drawn:=d',toks:=t'}:=by
 have y : ∀b o,X.m1.heap.get? b=bQ o->b≠X.env.locals:=λb o e=>NI<|Nr (Nh e) I.ok.above;have j : ∀b o,X.m1.heap.get? b=bQ o->b∉X.ex->b∉ch:=λb o e a O=>by
  rcases (L b O).1 with z | z
  ·exact a z
  ·exact absurd (Nr (Nh e) z)<|NU _
 have A : ∀x c,X.env.cells.lookup x=bQ c->∀v,s.heap.IsCell c v->h'.IsCell c v:=λx c e v N=>by
  obtain⟨o,U,t⟩:=N;have g:c∉ch:=λz=>(L c z).2.2.1 x c e rfl;by_cases B:c∈X.fs
  ·obtain⟨sl,q⟩:=C c o (I.Ds x c e) B g U (I.sX x c e)
   exact⟨_,q,t⟩
  ·exact⟨o,keep c o (I.Ds x c e) B g U<|I.sX x c e,t⟩
 refine⟨I.ok,I.os,hg,⟨λb o e n O a=>?_,λb o e n O a=>?_,λb o e n a=>?_,λb o e a=>?_,λb xs e=>B3 b xs<|I.base.B3 b xs e,λb o xs e=>S b o xs<|I.base.C7 b o xs e,λb ps e=>?_⟩,?_,λx c e=>?_,?_,λx c e=>?_,λp E=>?_,eo,I.len⟩
 ·exact keep b o (y b o e) O (j b o e a) (I.base.keep b o e n O a)<|I.base.free b o e n a
 ·obtain⟨sl,f⟩:=I.base.slot b o e n O a
  obtain⟨K,h⟩:=C b _ (y b o e) O (j b o e a) f<|I.base.free b o e n a;exact⟨K,h⟩
 ·obtain⟨Y,f⟩:=I.base.there b o e a
  exact free b Y (j b o e a) f<|I.base.free b o e n a
 ·obtain⟨Y,f⟩:=I.base.there b o e a
  exact J b Y (j b o e a) f
 ·obtain⟨R,f⟩:=I.base.Dz b ps e
  obtain⟨T,h⟩:=Z b _ f;exact⟨R++T,by rw[h,Array.append_assoc]⟩
 ·obtain⟨m,Q,P⟩:=I.loc
  refine⟨m,ns m Q,λi x v f h M=>?_⟩;obtain⟨u,r,l⟩:=P i x v f h M;refine⟨u,r,?_⟩;rcases l with l | ⟨k,c,e,z⟩
  ·exact .inl l
  ·exact .inr ⟨k,c,e,A x c e _ z⟩
 ·obtain⟨v,z⟩:=I.cell x c e
  exact⟨v,A x c e v z⟩
 ·obtain⟨m,⟨o,_,_,U,_⟩,_⟩:=I.loc
  exact free _ o (λz=>(L _ z).2.1 rfl) U I.free
 ·obtain⟨v,o,U,t⟩:=I.cell x c e
  exact free c o (λz=>(L c z).2.2.1 x c e rfl) U<|I.sX x c e
 ·obtain⟨e,n,F,G,d⟩:=I.pin p E
  have g:p.1∉ch:=λz=>(L p.1 z).2.2.2 p E rfl;exact⟨keep p.1 p.2 F G g e n,free p.1 p.2 g e n,F,G,d⟩
theorem Inv.un{t':Nat}(I:Inv X pins σ H s)(u:Un X.fs [] H H' s.heap h')(C:i7 X.prog X.w H' h'):Inv X pins σ H' {s with heap:=h',toks:=t'}:=by
 obtain⟨m,⟨o,k,j,U,r⟩,_⟩:=id I.loc;obtain⟨t,g⟩:=u.any U I.free ⋯;exact I.step (g':=s.gens) (d':=s.drawn) (ch:=[]) (λ_ z=>nomatch z) (λb o _ O _ e n=>u.keep b o e n O ⋯) (λb o _ O _ e n=>u.slot b o e n O ⋯) (λb o _ e n=>u.free b o e n ⋯) (λb o _ e=>u.there b o e ⋯) u.B3 u.C7 u.Dz (λl h=>by obtain⟨p,d,f,a,i⟩:=h;rw[U]at a;cases a;exact⟨_,d,f,g,i⟩) C I.bare
theorem Inv.call{g':Array GenState}{t':Nat}{d':Drawn}{ch:List di}(I:Inv X pins σ H s)(u:Un (s8 X.stack) ch H H' s.heap h')(C:i7 X.prog X.w H' h')(L:B5 g')
 (J : ∀b∈ch,(b∈X.ex\/X.m1.heap.objs.size<=b)/\b≠X.env.locals/\(∀x c,X.env.cells.lookup x=bQ c->c≠b)/\∀p∈X.pn++pins,p.1≠b) :
 Inv X pins σ H' {s with heap:=h',gens:=g',drawn:=d',toks:=t'}:=by
 obtain⟨m,⟨o,l,k,d,r⟩,_⟩:=id I.loc;obtain⟨A,U⟩:=u.any d I.free λz=>(J _ z).2.1 rfl;exact I.step (ch:=ch) J (λb o U h O e n=>u.keep b o e n (λz=>(Nc.mp<|I.S9 b z).elim U h) O) (λb o _ _ O e n=>u.any e n O) (λb o O e n=>u.free b o e n O) (λb o O e=>u.there b o e O) u.B3 u.C7 u.Dz (λt i=>by obtain⟨y,f,g,a,j⟩:=i;rw[d]at a;cases a;exact⟨_,f,g,U,j⟩) C L
theorem Inv.turned{t':Nat}{it:di}(I:Inv X pins σ H s)(k : ∀b o,b≠it->s.heap.get? b=bQ o->h'.get? b=bQ o)(S:H it=none)(U:it≠X.env.locals)
 (C:it∈X.ex\/X.m1.heap.objs.size<=it) (J : ∀x c,X.env.cells.lookup x=bQ c->c≠it) (L : ∀p∈X.pn++pins,p.1≠it):Inv X pins σ H {s with heap:=h',toks:=t'}:=by
 have a : ∀b u,H b=bQ u->b≠it:=λb u e z=>by rw[z,S]at e;cases e
 refine I.step (g':=s.gens) (d':=s.drawn) (ch:=[it]) (λb g=>?_) (λb o _ _ O e _=>k b o (λz=>O<|by simp[z]) e) (λb o _ _ O e _=>⟨o.slots,k b o (λz=>O<|by simp[z]) e⟩) (λ_ _ _ _ n=>n)
  (λb o O e=>⟨o,k b o (λz=>O<|by simp[z]) e⟩) (λ_ _ e=>e) (λ_ _ _ e=>e) (λb j e=>⟨#[],by rw[e];simp⟩) (λm h=>?_) (λb u e=>?_) I.bare
 ·have e:b=it:=by simpa using g
  subst e;exact⟨C,U,J,L⟩
 ·obtain⟨o,f,d,i,r⟩:=h
  exact⟨o,f,d,k _ o (Oa U) i,r⟩
 ·refine(I.eo b u e).C9 (λc v O q=>k c v ?_ q) (λ_ q=>q) λ_ _ q=>q
  rcases O with z | z
  ·rw[z];exact a b u e
  ·exact a c _ z
theorem Inv.tok(I:Inv X pins σ H s)(t:Nat):Inv X pins σ H {s with toks:=t}:=I.un (h':=s.heap) (t':=t) Un.refl I.eo
theorem Inv.kept(I:Inv X pins σ H s)(k : ∀b u,s.heap.get? b=bQ u->h'.get? b=bQ u):Inv X pins σ H {s with heap:=h',toks:=t'}:=I.un (Un.kept k)<|I.eo.kept k
theorem Inv.laid(I:Inv X pins σ H s)(k : ∀b u,s.heap.get? b=bQ u->h'.get? b=bQ u)(z:s.heap.objs.size<=a)(new:i5 X.prog X.w (upd H a o) h' a o) :
 Inv X pins σ (upd H a o) {s with heap:=h',toks:=t'}:=I.un (Un.laid k z<|I.eo.fresh z)<|I.eo.laid k z new
theorem Inv.write(I:Inv X pins σ H s)(z:D4 (H x))(O:e=x\/H e=bQ (.own x))(k : ∀b u,b≠e->s.heap.get? b=bQ u->h'.get? b=bQ u)(U : ∃u,h'.get? e=bQ u)
 (new:i5 X.prog X.w (upd H x o) h' x o):Inv X pins σ (upd H x o) {s with heap:=h',toks:=t'}:=I.un (Un.write z O k U)<|I.eo.write z O k U new
theorem Inv.M1(I:Inv X pins σ H s)(h : ∀p∈O,s.heap.get? p.1=bQ p.2/\H p.1=none/\p.1≠X.env.locals/\p.1∉X.fs/\∀v,p.2.data ≠ .cell v):Inv X O σ H s:=
 ⟨I.ok,I.os,I.bare,I.base,I.loc,I.cell,I.free,I.sX,λp U=>(RR.mp U).elim (λz=>I.pin p<|Td _ z) (h p),I.eo,I.len⟩
theorem aa{N:List Str}(z:N.Nodup){i j:Nat}{x:Str}(a:N[i]? = bQ x)(b:N[j]? = bQ x):i=j:=by obtain⟨e,d⟩:=Ng.mp a;obtain⟨f,I⟩:=Ng.mp b;exact(List.getElem_inj z).mp (d.trans I.symm)
theorem Yq{M:Model}{A:l7}{E:EQ}{i:Nat}{x:Str}{v:V}{u:dj}{Q:Unit->dy->Prop}(I:Inv X pins σ H s)(hN:X.N.Nodup)(C:X.N[i]? = bQ x)(hx:Loc X.env.scope x)(r:RelV v u)
 (h : ∀Y,Inv X pins (σ.set i<|some v) H Y->(∃a,RH a s.heap Y.heap/\(a=X.env.locals\/X.env.cells.lookup x=bQ a))->Q () Y) (hf:X.fn x=bX\/X.env.scope.names.lookup x=bQ .local:=by first | exact .inl rfl | exact .inr rfl | assumption):wpAny M A (storeName X.env x u) Q E s:=by
 obtain⟨m,L,hl⟩:=id I.loc;have b0:(X.env.scope.kind == .class || (X.env.scope.kind == .module && X.env.locals != X.env.globals))=cE:=by rw[I.ok.kind];rfl
 have ae:i<σ.length:=by rw[I.len];exact(Ng.mp C).1
 have Ds:=I.Ds;have ak : ∀{a:di} {h':eg},(∃o,s.heap.get? a=bQ o/\H a=none)->RH a s.heap h'->i7 X.prog X.w H h':=λ{a h'} ha f b ob e=>by
  obtain⟨_,_,am⟩:=ha;refine(I.eo b ob e).C9 (λc G O q=>(f.2 c ?_).trans q) (λ_ q=>q) λ_ _ q=>q;rintro rfl;rcases O with rfl | O
  ·rw[am]at e;cases e
  ·rw[am]at O;cases O
 rcases hx with hk | hk
 ·refine wpAny_storeName_local hk L (λh' b6 f=>?_) b0
  obtain⟨oL,_,_,b8,_⟩:=id L;refine h _ ⟨I.ok,I.os,I.bare,⟨λb o e n l hx=>?_,λb o e n l hx=>?_,I.base.free,λb o e hx=>?_,I.base.B3,I.base.C7,I.base.Dz⟩,⟨_,b6,λj y v' g U K=>?_⟩,λy c e=>?_,I.free,I.sX,λp P=>?_,ak ⟨oL,b8,I.free⟩ f,by simpa using I.len⟩ ⟨_,f,.inl rfl⟩
  ·exact(f.2 b<|NI<|Nr (Nh e) I.ok.above).trans (I.base.keep b o e n l hx)
  ·obtain⟨W,g⟩:=I.base.slot b o e n l hx
   exact⟨W,(f.2 b<|NI<|Nr (Nh e) I.ok.above).trans g⟩
  ·obtain⟨S,g⟩:=I.base.there b o e hx
   exact⟨S,(f.2 b<|NI<|Nr (Nh e) I.ok.above).trans g⟩
  ·by_cases t:j=i
   ·subst t
    rw[C]at g;cases g;rw[Ov ae]at U;cases U;exact⟨u,r,.inl ⟨hk,by simp⟩⟩
   ·rw[Ni (Oa t)]at U
    obtain⟨Z,T,q⟩:=hl j y v' g U K;refine⟨Z,T,?_⟩;rcases q with⟨k,e⟩ | ⟨k,c,e,z⟩
    ·refine .inl ⟨k,?_⟩
     have:y≠x:=λe=>t<|aa hN g<|e ▸ C;simp[this,e]
    ·exact .inr ⟨k,c,e,z.sameBut f<|Ds y c e⟩
  ·obtain⟨G,z⟩:=I.cell y c e
   exact⟨G,z.sameBut f<|Ds y c e⟩
  ·obtain⟨e,n,F,R,d⟩:=I.pin p P
   exact⟨(f.2 p.1 F).trans e,n,F,R,d⟩
 ·have J:X.fn x=bX:=by
   rcases hf with z | z
   ·exact z
   ·rw[z]at hk;cases hk
  obtain⟨c,O⟩:=I.ok.has x<|.inl hk;obtain⟨G,z⟩:=I.cell x c O;refine wpAny_storeName_cell I.ok.kind hk O z<|λh' an f=>?_;obtain⟨oc,ap,b9⟩:=id z;refine h {s with heap:=h'} ⟨I.ok,I.os,I.bare,⟨λb o e n l hx=>?_,λb o e n l hx=>?_,I.base.free,λb o e hx=>?_,I.base.B3,I.base.C7,I.base.Dz⟩,⟨m,L.sameBut f<|Oa<|Ds x c O,λj y v' g U K=>?_⟩,λy B e=>?_,I.free,I.sX,λp P=>?_,ak ⟨oc,ap,I.sX x c O⟩ f,by simpa using I.len⟩ ⟨c,f,.inr O⟩
  ·exact(f.2 b<|NI<|Nr (Nh e)<|I.ok.E2 x c J O).trans (I.base.keep b o e n l hx)
  ·obtain⟨W,g⟩:=I.base.slot b o e n l hx
   exact⟨W,(f.2 b<|NI<|Nr (Nh e)<|I.ok.E2 x c J O).trans g⟩
  ·obtain⟨S,g⟩:=I.base.there b o e hx
   exact⟨S,(f.2 b<|NI<|Nr (Nh e)<|I.ok.E2 x c J O).trans g⟩
  ·by_cases t:j=i
   ·subst t
    rw[C]at g;cases g;rw[Ov ae]at U;cases U;exact⟨u,r,.inr ⟨.inl hk,c,O,an⟩⟩
   ·rw[Ni (Oa t)]at U
    obtain⟨Z,T,q⟩:=hl j y v' g U K;refine⟨Z,T,?_⟩;rcases q with q | ⟨k,B,e,z'⟩
    ·exact .inl q
    ·refine .inr ⟨k,B,e,z'.sameBut f ?_⟩
     rintro rfl;exact t<|aa hN g<|I.ok.inj _ _ _ e O ▸ C
  ·by_cases as:B=c
   ·subst as;exact⟨_,an⟩
   ·obtain⟨w2,z2⟩:=I.cell y B e
    exact⟨w2,z2.sameBut f as⟩
  ·obtain⟨e,n,F,R,d⟩:=I.pin p P
   refine⟨(f.2 p.1 ?_).trans e,n,F,R,d⟩;intro q;rw[q,ap]at e;have q':oc=p.2:=NN e;exact d G (by rw[<- q'];exact b9)
theorem WN(I:Inv X pins σ H s)(z:X.N.Nodup)(J:X.N[i]? = bQ x)(hx:Loc X.env.scope x)(r:RelV v u)
 (h : ∀C,Inv X pins (σ.set i<|some v) H C->Q () C) (O:X.fn x=bX\/X.env.scope.names.lookup x=bQ .local:=by first | exact .inl rfl | exact .inr rfl | assumption):wpAny M A (storeName X.env x u) Q E s:=
 Yq I z J hx r (λC U _=>h C U) O
theorem Inv.G_(I:Inv X pins σ H s)(z:s'.os=s.os)(u:Un (s8 X.stack) ch H H' s.heap s'.heap)(C:i7 X.prog X.w H' s'.heap)(O:B5 s'.gens)
 (U : ∀b∈ch,(b∈X.ex\/X.m1.heap.objs.size<=b)/\b≠X.env.locals/\(∀x c,X.env.cells.lookup x=bQ c->c≠b)/\∀p∈X.pn++pins,p.1≠b):Inv X pins σ H' s':=by
 obtain⟨h',g',d',t',a⟩:=s';have e:a=s.os:=z;subst e;exact I.call (g':=g') (t':=t') (d':=d') u C O U
end
abbrev XK:=dj->Option di->Hp->Prop
abbrev St:=List (Option V)
abbrev VK:=V->Hp->Prop
abbrev TE:=St->Hp->VK->Prop
abbrev TT:=St->Hp->(Bool->Hp->Prop)->Prop
abbrev TA:=St->Hp->(List V->Hp->Prop)->Prop
structure Ends where
 nx:St->Hp->Prop
 rt:VK
 bk:St->Hp->Prop:=λ_ _=>False
 ct:St->Hp->Prop:=λ_ _=>False
abbrev TS:=Ends->St->Hp->Prop
noncomputable def EP(X:Cx)(C:UQ)(J:St)(Q:VK)(u:dj)(I:dy):Prop:=∃v a,Inv X C J a I/\RelV v u/\Q v a
noncomputable def TP(X:Cx)(C:UQ)(J:St)(Q:Bool->Hp->Prop)(b:Bool)(I:dy):Prop:=∃a,Inv X C J a I/\Q b a
noncomputable def AP(X:Cx)(C:UQ)(J:St)(Q:List V->Hp->Prop)(us:List dj)(I:dy):Prop:=∃b a,Inv X C J a I/\d9 b us/\Q b a
noncomputable def SP(X:Cx)(C:UQ)(D:Ends)(f:Flow)(I:dy):Prop:=
 match f with
 | .next=>∃a b,Inv X C a b I/\D.nx a b
 | .brk=>∃a b,Inv X C a b I/\D.bk a b
 | .cont=>∃a b,Inv X C a b I/\D.ct a b
 | .ret u=>∃v a b,Inv X C a b I/\RelV v u/\D.rt v b
noncomputable def PE(X:Cx)(e:dt)(t:TE):Prop:=
 ∀(a:UQ) (s:dy) (b:St) (H:Hp) (Q:VK),Inv X a b H s->t b H Q->wpAny (d6 X.prog X.w) X.A (dv e X.env) (EP X a b Q) X.xe s
noncomputable def PT(X:Cx)(e:dt)(t:TT):Prop:=
 ∀(a:UQ) (s:dy) (b:St) (H:Hp) (Q:Bool->Hp->Prop),Inv X a b H s->t b H Q->wpAny (d6 X.prog X.w) X.A (Dt e X.env<|eval e X.env) (TP X a b Q) X.xe s
noncomputable def PW(X:Cx)(e:dt)(t:TT):Prop:=
 ∀(z:Sem dj) (a:UQ) (s:dy) (b:St) (H:Hp) (Q:Bool->Hp->Prop),Inv X a b H s->t b H Q->wpAny (d6 X.prog X.w) X.A (Dt e X.env z) (TP X a b Q) X.xe s
theorem PW.pt(h:PW X e t):PT X e t:=h _
noncomputable def PA(X:Cx)(C:List dt)(t:TA):Prop:=
 ∀(pos:fh) (a:UQ) (s:dy) (b:St) (H:Hp) (Q:List V->Hp->Prop),Inv X a b H s->t b H Q->wpAny (d6 X.prog X.w) X.A (M6<|backTo pos<|starEach C X.env) (AP X a b Q) X.xe s
noncomputable def PS(X:Cx)(st:iQ)(t:TS):Prop:=
 ∀(a:UQ) (s:dy) (b:St) (H:Hp) (D:Ends),Inv X a b H s->t D b H->wpAny (d6 X.prog X.w) X.A (exec st X.env) (SP X a D) X.xe s
noncomputable def o8(X:Cx)(st:List iQ)(t:TS):Prop:=
 ∀(a:UQ) (s:dy) (b:St) (H:Hp) (D:Ends),Inv X a b H s->t D b H->wpAny (d6 X.prog X.w) X.A (execs st X.env) (SP X a D) X.xe s
theorem ea(h:wpAny M A t Q E s)(z : ∀a s,Q a s->Q' a s):wpAny M A t Q' E s:=Pj h z λ_ _ x=>x
section
variable{X:Cx}
noncomputable def Ak(i:Nat):TE:=λa H Q=>∃v,a[i]? = bQ (bQ v)/\Q v H
noncomputable def tC(v:V):TE:=λ_ H Q=>Q v H
theorem BU(L:X.N[i]? = bQ x)(S:O3 X.env.scope x)(C:(x==("__debug__" : Str))=cE:=by decide)(J:(x==("__classdict__" : Str))=cE:=by decide):PE X (.Name x pos) (Ak i):=by
 intro a s j H Q I h;obtain⟨v,e,h⟩:=h;obtain⟨m,g,d⟩:=I.loc;obtain⟨u,r,l⟩:=d i x v L e S;have O:EP X a j Q u s:=⟨v,H,I,r,h⟩;rcases l with⟨z,f⟩ | ⟨z,c,U,b⟩
 ·exact e' (wpAny_loadName_local I.ok.kind z g f O) C
 ·rcases z with z | z
  ·exact e' (wpAny_loadName_cell I.ok.kind z U b O) C
  ·exact e' (wpAny_loadName_free I.ok.kind z U b O J) C
theorem Cc:PE X (.Constant (.int i) j pos) (tC<|.int i):=λ_ _ _ H _ I h=>wpAny_Constant_int ⟨.int i,H,I.tok _,⟨_,rfl⟩,h⟩
theorem GT:PE X (.Constant (.bool b) j pos) (tC<|.bl b):=λ_ _ _ H _ I h=>Constant_bool ⟨.bl b,H,I,rfl,h⟩
theorem BZ:PE X (.Constant .none j pos) (tC .d7):=λ_ _ _ H _ I h=>Constant_none ⟨.d7,H,I,rfl,h⟩
theorem BW:PE X (.Constant (.str x) j pos) (tC<|.str x):=λ_ _ _ H _ I h=>Calls.Constant_str ⟨.str x,H,I.tok _,⟨_,rfl⟩,h⟩
noncomputable def Gl(X:Cx)(x:Str):Prop:=X.env.kindOf x=bQ .globalImplicit
theorem fZ(I:Inv X pins σ H s)(z:Gl X x)(J:X.mg x=bQ u)(h:Q u s)
 (C:(x==("__debug__" : Str))=cE:=by decide):wpAny (d6 X.prog X.w) X.A (dv (.Name x pos) X.env) Q E s:=
 Calls.Name_function_global I.ok.kind z (Calls.loadGlobal_global (by rw[I.ok.glob];exact I.mod.glob.keeps I.bk) J h) C
theorem vy(I:Inv X pins σ H s)(z:Gl X x)(J:X.mg x=none)(O:C1 x=bQ u)(h:Q u s)
 (L:x ≠ "__name__":=by decide) (C:(x==("__debug__" : Str))=cE:=by decide):wpAny (d6 X.prog X.w) X.A (dv (.Name x pos) X.env) Q E s:=by
 obtain⟨d,a,b⟩:=I.mod.blt;exact Calls.Name_function_global I.ok.kind z (Calls.loadGlobal_builtin (by rw[I.ok.glob];exact I.mod.glob.keeps I.bk) J (by rw[I.ok.blt];exact a.keeps I.bk) ((b x L).trans O) h) C
variable{a b:dt}{ta tb:TE}{pos:fh}
noncomputable def PC(X:Cx)(z:CmpOp)(a b:dt)(t:TE):Prop:=
 ∀(d:UQ) (s:dy) (e:St) (H:Hp) (Q:VK),Inv X d e H s->t e H Q->
  wpAny (d6 X.prog X.w) X.A (dv a X.env) (λv I=>wpAny (d6 X.prog X.w) X.A (dv b X.env) (λu O=>wpAny (d6 X.prog X.w) X.A (ml z v u) (EP X d e Q) X.xe O) X.xe I) X.xe s
theorem nj(b:dt)(h:op ≠ .In)(C:op ≠ .NotIn):u7 op b=cE:=by
 have a:(op==CmpOp.In)=cE:=by cases op<;>first | rfl | exact absurd rfl h
 have z:(op==CmpOp.NotIn)=cE:=by cases op<;>first | rfl | exact absurd rfl C
 cases b<;>simp[u7,a,z]
noncomputable def tB(t:TE):TT:=λb H Q=>t b H λx a=>∃c,x = .bl c/\Q c a
theorem BJ(h:PC X op a b t)(C:u7 op b=cE:=by first | exact nj _ ⋯ ⋯ | rfl):PT X (.Compare a [op] [b] pos) (tB t):=by intro e s k H Q I i;refine _g (ea (h e s k H _ I i) λv l C=>ea C λu m g=>ea g λc n z=>?_) C;obtain⟨x,f,O,U,j⟩:=z;obtain⟨d,rfl,q⟩:=j;cases U;exact OF ⟨f,O,q⟩
theorem BH(h:PE X e t)(O : ∀z,Dt e X.env z=(do let v <- z;DT e.pos;vk [v] (F7 v)):=by intro _;rfl):PT X e (tB t):=by intro a s k H Q I g;refine isTrue_plain (ea (h a s k H _ I g) λv l U=>?_)<|O _;obtain⟨x,b,f,j,i⟩:=U;obtain⟨d,rfl,q⟩:=i;cases j;exact OF ⟨b,f,q⟩
variable{tA M8:TT}{wj:List dt}
noncomputable def LP(t u:TT):TT:=λb H Q=>t b H λc a=>if c=bX then u b a Q else Q cE a
noncomputable def Y_(t u:TT):TT:=λb H Q=>t b H λc a=>if c=bX then Q bX a else u b a Q
noncomputable def LK(t:TT):TT:=λb H Q=>t b H λc a=>Q (!c) a
theorem sZ(C:PT X a tA):PW X (.BoolOp .And [a] pos) tA:=by
 intro z b s d H Q I h;refine isTrue_and<|ea (C b s d H Q I h) λc f e=>?_;cases c with
 | true=>exact isTrue_and_nil e
 | false=>exact e
theorem By(C:PT X a tA):PW X (.BoolOp .Or [a] pos) tA:=by
 intro z b s d H Q I h;refine isTrue_or<|ea (C b s d H Q I h) λc f e=>?_;cases c with
 | false=>exact isTrue_or_nil e
 | true=>exact e
theorem Bz(C:PT X a tA)(U:PW X (.BoolOp .And (b::wj) pos) M8):PW X (.BoolOp .And (a::b::wj) pos) (LP tA M8):=by
 intro j d s f H Q I h;refine isTrue_and<|ea (C d s f H _ I h) λc i g=>?_;obtain⟨e,z,O⟩:=g;cases c with
 | true=>exact U j d i f e Q z O
 | false=>exact⟨e,z,O⟩
theorem GM(C:PT X a tA)(U:PW X (.BoolOp .Or (b::wj) pos) M8):PW X (.BoolOp .Or (a::b::wj) pos) (Y_ tA M8):=by
 intro j d s f H Q I h;refine isTrue_or<|ea (C d s f H _ I h) λc i g=>?_;obtain⟨e,z,O⟩:=g;cases c with
 | true=>exact⟨e,z,O⟩
 | false=>exact U j d i f e Q z O
theorem BI(ha:PT X a tA):PT X (.UnaryOp .Not a pos) (LK tA):=by intro b s e H Q I h;exact isTrue_not<|ha b s e H (λc d=>Q (!c) d) I h
noncomputable def Gb(ta tb:TE):TE:=λb H Q=>ta b H λx a=>∃c,x = .bl c/\if c=bX then tb b a Q else Q (.bl cE) a
noncomputable def FV(ta:TE):TE:=λb H Q=>ta b H λx a=>∃c,x = .bl c/\Q (.bl<|!c) a
theorem BX(h:PE X a t):PE X (.BoolOp op [a] pos) t:=λb s e H Q I d=>BoolOp_one<|h b s e H Q I d
theorem Cd(C:PE X a ta)(U:PE X (.BoolOp .And (b::wj) pos) tb):PE X (.BoolOp .And (a::b::wj) pos) (Gb ta tb):=by
 intro d s f H Q I h;refine BoolOp_and<|ea (C d s f H _ I h) λv j g=>?_;obtain⟨x,e,O,i,z⟩:=g;obtain⟨c,rfl,z⟩:=z;cases i;refine OF ?_;cases c with
 | true=>exact U d j f e Q O z
 | false=>exact⟨.bl cE,e,O,rfl,z⟩
theorem BY(C:PE X a ta):PE X (.UnaryOp .Not a pos) (FV ta):=by intro b s f H Q I h;refine UnaryOp_<|ea (C b s f H _ I h) λv g O=>?_;obtain⟨x,d,U,e,z⟩:=O;obtain⟨c,rfl,z⟩:=z;cases e;exact not_of<|OF ⟨.bl<|!c,d,U,rfl,z⟩
noncomputable def Tc(t:TT)(ta tb:TE):TE:=λa H Q=>t a H λc b=>if c=bX then ta a b Q else tb a b Q
theorem mP(U:PT X c tA)(C:PE X a ta)(J:PE X b tb):PE X (.IfExp c a b pos) (Tc tA ta tb):=by
 intro e s f H Q I h;refine wpAny_IfExp<|ea (U e s f H _ I h) λd i j=>?_;obtain⟨g,z,O⟩:=j;cases d with
 | true=>exact C e i f g Q z O
 | false=>exact J e i f g Q z O
end
noncomputable def eU(K:MP)(H:Hp)(a:di)(xs:List V):Prop:=
 Rd H a (.lst xs)\/
  ∃(o:m5) (z:Array dj) (n:Nat),K.lookup a=bQ o/\o.cls = .type "list"/\o.dict=none/\o.data = .seq z n/\z.size<=ej/\d9 xs z.toList
noncomputable def ft(K:MP)(H:Hp)(a:di)(xs:List V):Prop:=
 Rd H a (.tup xs)\/
  ∃(o:m5) (z:Array dj) (n:Nat),K.lookup a=bQ o/\(o.cls,o.dict)=(SK "tuple",none)/\o.data = .seq z n/\z.size<=ej/\d9 xs z.toList
noncomputable def Mt:dj->Option V
 | .none=>bQ .d7
 | .bool b=>bQ (.bl b)
 | .int i _=>bQ (.int i)
 | .str x _=>bQ (.str x)
 | .bytes b _=>bQ (.D7 b)
 | .float b _=>bQ (.DM b)
 | .ref a=>bQ (.ref a)
 | .type n=>bQ (.ty n)
 | _=>none
theorem RelV.abs(r:RelV x u):Mt u=bQ x:=by
 cases x with
 | d7=>cases r;rfl
 | bl _=>cases r;rfl
 | int _=>obtain⟨t,rfl⟩:=r;rfl
 | str _=>obtain⟨t,rfl⟩:=r;rfl
 | D7 _=>obtain⟨t,rfl⟩:=r;rfl
 | DM _=>obtain⟨t,rfl⟩:=r;rfl
 | ref _=>cases r;rfl
 | ty _=>cases r;rfl
theorem RelV.inj(r:RelV x u)(q:RelV y u):x=y:=NN<|r.abs.symm.trans q.abs
theorem d9.inj : ∀{xs ys:List V} {us:List dj},d9 xs us->d9 ys us->xs=ys
 | _,_,_,.nil,.nil=>rfl
 | _,_,_,.cons r t,.cons r' t'=>by rw[r.inj r',d9.inj t t']
section
variable{X:Cx}{pins:UQ}{σ:St}{H:Hp}{s:dy}{a:di}{xs ys:List V}
theorem eU.of{K:MP}(h:H a=bQ (.lst xs)):eU K H a xs:= .inl (.inl h)
theorem ft.of{K:MP}(h:H a=bQ (.tup xs)):ft K H a xs:= .inl (.inl h)
theorem Inv.list(I:Inv X pins σ H s)(h:eU X.K H a xs) : ∃O:List dj,d9 xs O/\PlainL s.heap a O.toArray/\xs.length<=ej:=by
 rcases h with h | ⟨o,O,n,U,hc,hd,hs,hz,r⟩
 ·obtain⟨z,O,n,r,e⟩:=h.ok I.eo
  exact⟨O,r,⟨_,n,e,rfl,rfl,rfl⟩,z⟩
 ·refine⟨O.toList,r,⟨o,n,I.l6 a o U,hc,hd,by simpa using hs⟩,?_⟩
  have e:=r.length;simp only[OU]at e;omega
theorem Inv.tuple(I:Inv X pins σ H s)(h:ft X.K H a xs) : ∃O:List dj,d9 xs O/\D2 s.heap a O.toArray/\xs.length<=ej:=by
 rcases h with h | ⟨o,O,n,U,hc,hs,hz,r⟩
 ·obtain⟨z,O,r,p⟩:=h.ok I.eo
  exact⟨O,r,p.tup,z⟩
 ·refine⟨O.toList,r,⟨o,I.l6 a o U,(Prod.mk.inj hc).1,n,by simpa using hs⟩,?_⟩
  have e:=r.length;simp only[OU]at e;omega
theorem Inv.R5(I:Inv X pins σ H s)(h:eU X.K H a xs)(h':eU X.K H a ys):xs=ys:=by
 obtain⟨O,r,⟨o,n,e,_,_,d⟩,_⟩:=I.list h;obtain⟨b,g,⟨j,i,z,_,_,f⟩,_⟩:=I.list h';rw[e]at z;cases z;rw[d]at f;injection f with U _;have:O=b:=by simpa using congrArg Array.toList U
 subst this;exact r.inj g
theorem Inv.Wi(I:Inv X pins σ H s)(h:ft X.K H a xs)(h':ft X.K H a ys):xs=ys:=by
 obtain⟨O,r,⟨o,e,_,n,d⟩,_⟩:=I.tuple h;obtain⟨b,g,⟨j,z,_,i,f⟩,_⟩:=I.tuple h';rw[e]at z;cases z;rw[d]at f;injection f with U _;have:O=b:=by simpa using congrArg Array.toList U
 subst this;exact r.inj g
end
abbrev Cx.wh(X:Cx)(E:EQ):Cx:={X with xe:=E}
abbrev Cx.E9(X:Cx):Cx:=X.wh λ_ _=>False
theorem Cx.Ok.wh{X:Cx}(ok:X.Ok)(E:EQ):(X.wh E).Ok:=
 ⟨ok.mod,ok.kind,ok.glob,ok.blt,ok.above,ok.inj,ok.has,ok.E2,ok.hd,ok.frames,ok.M7,ok.I8,ok.bs,ok.u9,ok.E8,ok.E4,ok.qt,ok.C6⟩
theorem Cx.Ok.Dd{X:Cx}{E:EQ}(ok:(X.wh E).Ok):X.Ok:=
 ⟨ok.mod,ok.kind,ok.glob,ok.blt,ok.above,ok.inj,ok.has,ok.E2,ok.hd,ok.frames,ok.M7,ok.I8,ok.bs,ok.u9,ok.E8,ok.E4,ok.qt,ok.C6⟩
section
variable{X:Cx}{pins:UQ}{σ:St}{H:Hp}{s:dy}{E:EQ}
theorem Inv.wh(I:Inv X pins σ H s)(E:EQ):Inv (X.wh E) pins σ H s:=⟨I.ok.wh E,I.os,I.bare,I.base,I.loc,I.cell,I.free,I.sX,I.pin,I.eo,I.len⟩
theorem Inv.Dd(I:Inv (X.wh E) pins σ H s):Inv X pins σ H s:=⟨I.ok.Dd,I.os,I.bare,I.base,I.loc,I.cell,I.free,I.sX,I.pin,I.eo,I.len⟩
theorem SP.Dd(h:SP (X.wh E) pins D f s'):SP X pins D f s':=by
 cases f with
 | next=>obtain⟨a,b,I,q⟩:=h;exact⟨a,b,I.Dd,q⟩
 | brk=>obtain⟨a,b,I,q⟩:=h;exact⟨a,b,I.Dd,q⟩
 | cont=>obtain⟨a,b,I,q⟩:=h;exact⟨a,b,I.Dd,q⟩
 | ret u=>obtain⟨v,a,b,I,r,q⟩:=h;exact⟨v,a,b,I.Dd,r,q⟩
theorem o8.E9{st:List iQ}{t:TS}(h:o8 X.E9 st t):o8 X st t:=λpins s σ H D I a=>
 Pj (h pins s σ H D (I.wh _) a) (λ_ _ q=>q.Dd) λ_ _ z=>Pk z
end
section
variable{X:Cx}{st:iQ}{wj:List iQ}{t u:TS}{e:dt}{te:TE}{pos:fh}
noncomputable def FX:TS:=λD a H=>D.nx a H
noncomputable def LI(t u:TS):TS:=λD a H=>t {D with nx:=u D} a H
theorem tw:o8 X [] FX:=λ_ _ a H _ I h=>e_ ⟨a,H,I,h⟩
theorem mD(C:PS X st t)(J:o8 X wj u):o8 X (st::wj) (LI t u):=by
 intro a s g H D I h;refine wpAny_execs_cons<|ea (C a s g H {D with nx:=u D} I h) λf e q=>?_;cases f with
 | next=>
  obtain⟨b,d,z,q⟩:=q;exact J a e b d D z q
 | ret v=>exact q
 | brk=>exact q
 | cont=>exact q
theorem tu(C:PS X st t):o8 X [st] t:=by
 intro a s b H D I h;refine wpAny_execs_cons<|ea (C a s b H D I h) λf d q=>?_;cases f with
 | next=>exact e_ q
 | ret v=>exact q
 | brk=>exact q
 | cont=>exact q
noncomputable def Ga:TS:=λD a H=>D.ct a H
theorem VM:PS X (.Continue pos) Ga:=λ_ _ a H _ I h=>wpAny_Continue ⟨a,H,I,h⟩
theorem Inv.quiet(I:Inv X pins σ H s):interactive X.env=cE:=by simp[interactive,I.ok.kind]
noncomputable def FY(te:TE):TS:=λD a H=>te a H λ_ b=>D.nx a b
theorem Kl(z:PE X e te)(hs:r9 e none pos.line X.env=pure cE:=by rfl):PS X (.Expr e pos) (FY te):=by intro a s b H D I h;exact wpAny_Expr_any (ea (z a s b H _ I h) λv g ⟨x,d,O,f,U⟩=>⟨b,d,O,U⟩) I.quiet hs
noncomputable def LJ(te:TE):TS:=λD a H=>te a H D.rt
theorem eV(z:PE X e te):PS X (.Return (bQ e) pos) (LJ te):=by intro a s b H D I h;exact wpAny_Return_some<|ea (z a s b H _ I h) λv g ⟨x,d,O,U,f⟩=>⟨x,b,d,O,U,f⟩
noncomputable def LM(c:TT)(t u:TS):TS:=λD a H=>c a H λb d=>if b=bX then t D a d else u D a d
theorem GQ(U:PT X c tc)(C:o8 X a t)(J:o8 X b u):PS X (.If c a b pos) (LM tc t u):=by
 intro e s f H D I h;refine wpAny_If<|ea (U e s f H _ I h) λd i j=>?_;obtain⟨g,z,O⟩:=j;cases d with
 | true=>exact C e i f g D z O
 | false=>exact J e i f g D z O
noncomputable def AN:TS:=λ_ _ _=>False
theorem mE:PS X st AN:=λ_ _ _ _ _ _ h=>h.elim
end
abbrev TG:=V->St->Hp->(St->Hp->Prop)->Prop
abbrev DC:=List V->St->Hp->(St->Hp->Prop)->Prop
noncomputable def PG(X:Cx)(z:dt)(t:TG):Prop:=
 ∀(a:UQ) (s:dy) (e:St) (H:Hp) (v:V) (u:dj) (Q:St->Hp->Prop),Inv X a e H s->RelV v u->t v e H Q->
  wpAny (d6 X.prog X.w) X.A (u6 z X.env u) (λ_ f=>∃b d,Inv X a b d f/\Q b d) X.xe s
noncomputable def D5(X:Cx)(z:List dt)(t:DC):Prop:=
 ∀(a:UQ) (s:dy) (g:St) (H:Hp) (f:List V) (e:List dj) (Q:St->Hp->Prop),Inv X a g H s->d9 f e->t f g H Q->
  wpAny (d6 X.prog X.w) X.A (assignInOrder ((x6 z X.env).map (·.2)) e) (λ_ h=>∃b d,Inv X a b d h/\Q b d) X.xe s
abbrev Lz:=V->V->V->Hp->(Hp->Prop)->Prop
noncomputable def LA(X:Cx)(t:Lz):Prop:=
 ∀(a:UQ) (s:dy) (d:St) (H:Hp) (o i v:V) (z I u:dj) (Q:Hp->Prop),Inv X a d H s->RelV o z->RelV i I->RelV v u->t o i v H Q->
  wpAny (d6 X.prog X.w) X.A (UO z I u) (λ_ e=>∃b,Inv X a d b e/\Q b) X.xe s
section
variable{X:Cx}{pos:fh}
noncomputable def vB(i:Nat):TG:=λv a H Q=>Q (a.set i<|some v) H
theorem fw(z:X.N.Nodup)(C:X.N[i]? = bQ x)(hx:Loc X.env.scope x)(O:X.fn x=bX\/X.env.scope.names.lookup x=bQ .local:=by first | exact .inl rfl | exact .inr rfl | assumption):PG X (.Name x pos) (vB i):=by intro a s d H v u Q I r h;exact _d<|WN I z C hx r (λb U=>⟨_,H,U,h⟩) O
noncomputable def IZ:DC:=λa b H Q=>a=[]/\Q b H
noncomputable def Eb(t:TG)(u:DC):DC:=λd e H Q=>∃v r,d=v::r/\t v e H λa b=>u r a b Q
theorem fv:D5 X [] IZ:=by intro a s b H f d Q I r h;obtain⟨e,h⟩:=h;subst e;cases r;exact assignInOrder_nil ⟨b,H,I,h⟩
theorem wX(C:PG X e t)(J:D5 X es u)
 (hs:(x6 (e::es) X.env).map (·.2)=u6 e X.env::(x6 es X.env).map (·.2):=by rfl):D5 X (e::es) (Eb t u):=by
 intro a s j H m k Q I r h;obtain⟨v,l,f,h⟩:=h;subst f;cases r with
 | cons r z=>
  rw[hs];refine assignInOrder_cons<|ea (C a s j H _ _ _ I r h) λ_ i O=>?_;obtain⟨U,b,d,g⟩:=O;exact J a i U b _ _ Q d z g
noncomputable def IY(K:MP)(n:Nat)(t:DC):TG:=λv d H Q=>∃a b,v = .ref a/\ft K H a b/\b.length=n/\t b d H Q
theorem BR(O:X.calm=bX)(h:D5 X es t)
 (C:(x6 es X.env).length=n:=by rfl) (U:(x6 es X.env).findIdx? (·.1)=none:=by rfl):PG X (.Tuple es k pos) (IY X.K n t):=by
 intro d s g H v u Q I r f;obtain⟨a,y,j,p,m,f⟩:=f;subst j;cases r;obtain⟨A,z,w,B⟩:=I.tuple p;refine assign_Tuple_tuple (I.ok.hd O) w (by simp[C,<- m,z.length]) U λl x=>?_;have i:Inv X d g H {s with heap:=l}:=I.kept (t':=s.toks) λb o e=>x b o (NI<|Nh e) e;exact h d _ g H y _ Q i (by simpa using z) f
noncomputable def Mm(to z:TE)(t:Lz):TG:=λv a H Q=>to a H λo b=>z a b λi d=>t o i v d λI=>Q a I
theorem BS(L:PE X o to)(J:PE X i ti)(hs:LA X t)
 (C : ∀v,u6 (.Subscript o i pos) X.env v=(do
   let z <- vk [v] (dv o X.env);let O <- vk [v,z] (dv i X.env)
   DT pos
   vk [v,z,O] (UO z O v)
   release [v,z,O] []):=by intro _;rfl):PG X (.Subscript o i pos) (Mm to ti t):=by
 intro a s b H v u Q I r h;rw[C];refine MQ<|PK<|ea (L a s b H _ I h) λz A U=>?_;obtain⟨x,d,g,p,l⟩:=U;refine MQ<|PK<|ea (J a A b d _ g l) λO B U=>?_;obtain⟨y,e,j,w,m⟩:=U;refine MQ<|TX<|MQ<|PK<|ea (hs a B b e x y v z O u _ j p w r m) λ_ E U=>?_;obtain⟨f,k,n⟩:=U;exact wpAny_release ⟨b,f,k,n⟩
noncomputable def WK(C:TE)(g:TG):TS:=λD a H=>C a H λx b=>g x a b D.nx
theorem eW(z:PE X e te)(O:PG X tg g)(hs:Tb [tg] e pos.line X.env=pure cE:=by rfl)(J:U3 [tg] e X.env=pure none:=by rfl)
 (C:(x6 [tg] X.env).map (·.2)=[u6 tg X.env]:=by rfl):PS X (.Assign [tg] e pos) (WK te g):=by
 intro a s b H D I h;refine wpAny_Assign_stores (ea (z a s b H _ I h) λv k U=>?_) hs J;obtain⟨x,d,f,j,i⟩:=U;rw[C];exact ea (O a k b d x v _ f j i) λ_ l q=>q
theorem BK(z:X.N.Nodup)(C:X.N[i]? = bQ x)(hx:Loc X.env.scope x)(O:PE X e te)(hs:r9 e (bQ (.Name x pos')) pos.line X.env=pure cE:=by rfl)(U:X.fn x=bX\/X.env.scope.names.lookup x=bQ .local:=by first | exact .inl rfl | exact .inr rfl | assumption) :
 PS X (.Assign [.Name x pos'] e pos) (WK te<|vB i):=by
 intro a s l H D I h;refine wpAny_Assign_Name (ea (O a s l H _ I h) λv m g=>?_) hs;obtain⟨y,b,d,k,j⟩:=g;exact WN d z C hx k (λn f=>⟨_,b,f,j⟩) U
end
structure It where
 go:Nat->Hp->Prop
 B4:Nat->Hp->V->Hp->Prop
 stop:Nat->Hp->Prop
noncomputable def Jd(X:Cx)(C:UQ)(H:Hp)(b:di):Prop:=
 H b=none/\b≠X.env.locals/\b∉X.fs/\(b∈X.ex\/X.m1.heap.objs.size<=b)/\(∀x c,X.env.cells.lookup x=bQ c->c≠b)/\∀p∈X.pn++C,p.1≠b
theorem Inv.C4(I:Inv X pins σ H s)(O:s.heap.objs.size<=b)(C:H' b=none):Jd X pins H' b:=by
 refine⟨C,Pg<|Nr I.lt O,I.R_ O,.inr<|NZ I.sz O,λx c e z=>?_,λp U z=>?_⟩
 ·obtain⟨v,q⟩:=I.cell x c e
  exact absurd (Nr q.lt<|by rw[z];exact O)<|NU _
 ·exact absurd (Nr (Nh (I.pin p U).1)<|by rw[z];exact O)<|NU _
structure Turn(P:hG)(w:f9)(K:MP)(tg:dt)(J:It)(fp:List di)(it:di)(tn:Nat->eg->Prop):Prop where
 mem:it∈fp
 obj : ∀i h,tn i h->∀b∈fp,∃o,h.get? b=bQ o/\∀v,o.data ≠ .cell v
 keep : ∀i h h',tn i h->(∀b∈fp,∀o,h.get? b=bQ o->h'.get? b=bQ o)->tn i h'
 item : ∀(X:Cx),X.prog=P->X.w=w->X.K=K->X.calm=bX->∀(i:Nat) (pins:UQ) (s:dy) (σ:St) (H:Hp) (E:EQ),Inv X pins σ H s->(∀b∈fp,Jd X pins H b)->tn i s.heap->J.go i H->
  wpAny (d6 P w) X.A (DR<|.ref it) (λr s1=>∃u,r=bQ u/\
   wpAny (d6 P w) X.A (L4 tg (.ref it) u) (λ_ s2=>∃x H',Inv X pins σ H' s2/\RelV x u/\J.B4 i H x H'/\tn (i+1) s2.heap/\∀b∈fp,H' b=none) E s1) E s
 done : ∀(X:Cx),X.prog=P->X.w=w->X.K=K->X.calm=bX->∀(i:Nat) (pins:UQ) (s:dy) (σ:St) (H:Hp) (E:EQ),Inv X pins σ H s->(∀b∈fp,Jd X pins H b)->tn i s.heap->J.stop i H->
  wpAny (d6 P w) X.A (DR<|.ref it) (λr s1=>r=none/\Inv X pins σ H s1) E s
 self : ∀(A:l7) (i:Nat) (s:dy) (Q:EQ) (E:EQ),tn i s.heap->Q (.ref it) s->wpAny (d6 P w) A (M3<|.ref it) Q E s
abbrev TI:=St->Hp->(It->Hp->Prop)->Prop
noncomputable def Ul(X:Cx)(C:UQ)(O:St)(L:dt)(R:It->Hp->Prop)(z:dj)(I:dy):Prop:=
 ∃(e:di) (d:List di) (f:Nat->eg->Prop) (J:It) (a:Hp),z = .ref e/\Inv X C O a I/\Turn X.prog X.w X.K L J d e f/\f 0 I.heap/\(∀b∈d,Jd X C a b)/\R J a
noncomputable def PI(X:Cx)(I C:dt)(J:TI):Prop:=
 ∀(a:UQ) (s:dy) (b:St) (H:Hp) (R:It->Hp->Prop),Inv X a b H s->J b H R->
  wpAny (d6 X.prog X.w) X.A (dv C X.env) (λv d=>wpAny (d6 X.prog X.w) X.A (M3 v) (Ul X a b I R) X.xe d) X.xe s
theorem uB(I:s.heap.get? it=bQ o)(O:o.cls = .type n)(C:o.data = .fields vs)
 (J:["enumerate","zip","dict_itemiterator","dict_reverseitemiterator","odict_iterator","itertools.zip_longest","itertools.pairwise"].contains n=cE) (z:Q () s):wpAny M A (L4 tg (.ref it) u) Q E s:=by
 unfold L4;cases tg<;>first
  | exact Na z
  | (cases u<;>first
      | exact Na z
      | (refine MQ (wpAny_load I ?_)
         rw[O,C];show wpAny M A (if (["enumerate","zip","dict_itemiterator","dict_reverseitemiterator","odict_iterator","itertools.zip_longest","itertools.pairwise"].contains n && vs[0]? == bQ (Dx _))=bX then _ else _) Q E s;rw[UY (by intro h;rw[J,Bool.false_and]at h;cases h)];exact Na z))
noncomputable def T8(K:MP)(a:di):It:=
 ⟨λi H=>∃b x,eU K H a b/\b[i]? = bQ x,λi H x d=>d=H/\∀b,eU K H a b->b[i]? = bQ x,λi H=>∃b,eU K H a b/\b.length<=i⟩
noncomputable def T9(K:MP)(a:di):It:=
 ⟨λi H=>∃b x,ft K H a b/\b[i]? = bQ x,λi H x d=>d=H/\∀b,ft K H a b->b[i]? = bQ x,λi H=>∃b,ft K H a b/\b.length<=i⟩
noncomputable def B6(lo:Int)(n:Nat):It:=⟨λi _=>i<n,λi H x a=>a=H/\x = .int (lo+i),λi _=>n<=i⟩
theorem dg{P:hG}{w:f9}{K:MP}{tg:dt}(a it:di):Turn P w K tg (T8 K a) [it] it (λi h=>h.IsListIter it a i) where
 mem:=by simp
 obj:=λi h st b O=>by
  have e:b=it:=by simpa using O
  subst e;obtain⟨o,e,c,d⟩:=st;exact⟨o,e,λv z=>by rw[d]at z;cases z⟩
 keep:=λi h h' st k=>st.at λo e=>k it ⋯ o e
 item:=by intro X hP hw hK hc i pins s σ H E I U st hg;subst hP hw hK;obtain⟨xs,x,hq,hx⟩:=hg;obtain⟨ae,rv,p,hz⟩:=I.list hq;obtain⟨u,hu,ru⟩:=rv.get hx;obtain⟨f0,f1,f2,f3,f4,f5⟩:=U it ⋯;refine wpAny_pyNext_list_item st p.isList (x:=u) (by simpa using hu) λh' ac sb=>?_;have I1:Inv X pins σ H {s with heap:=h'}:=I.turned (t':=s.toks) (λb o O e=>(sb.2 b O).trans e) f0 f1 f3 f4 f5;obtain⟨o,e,c,d⟩:=id ac;exact⟨u,rfl,uB (s:={s with heap:=h'}) e c d ⋯ ⟨x,H,I1,ru,⟨rfl,λys hy=>by rw[I.R5 hy hq];exact hx⟩,ac,λb O=>(U b O).1⟩⟩
 done:=by intro X hP hw hK hc i pins s σ H E I U st hg;subst hP hw hK;obtain⟨xs,hq,hx⟩:=hg;obtain⟨ae,rv,p,hz⟩:=I.list hq;obtain⟨f0,f1,f2,f3,f4,f5⟩:=U it ⋯;have hl:=rv.length;exact wpAny_pyNext_list_end (I.ok.hd hc) st p.isList (by simp;omega) λh' eb=>⟨rfl,I.turned (t':=s.toks) (λb o O e=>eb b o O e) f0 f1 f3 f4 f5⟩
 self:=λ_ _ _ _ _ st h=>wpAny_pyIter_listiter st h
theorem aW{P:hG}{w:f9}{K:MP}{tg:dt}(a it:di):Turn P w K tg (T9 K a) [it] it (λi h=>h.IsTupleIter it a i) where
 mem:=by simp
 obj:=λi h st b O=>by
  have e:b=it:=by simpa using O
  subst e;obtain⟨o,e,c,d⟩:=st;exact⟨o,e,λv z=>by rw[d]at z;cases z⟩
 keep:=λi h h' st k=>st.at λo e=>k it ⋯ o e
 item:=by intro X hP hw hK hc i pins s σ H E I U st hg;subst hP hw hK;obtain⟨xs,x,hq,hx⟩:=hg;obtain⟨a4,rv,p,hz⟩:=I.tuple hq;obtain⟨u,hu,ru⟩:=rv.get hx;obtain⟨f0,f1,f2,f3,f4,f5⟩:=U it ⋯;refine wpAny_pyNext_tuple_item st (show s.heap.IsTuple a a4.toArray from p) (x:=u) (by simpa using hu) λh' ae sb=>?_;have I1:Inv X pins σ H {s with heap:=h'}:=I.turned (t':=s.toks) (λb o O e=>(sb.2 b O).trans e) f0 f1 f3 f4 f5;obtain⟨o,e,c,d⟩:=id ae;exact⟨u,rfl,uB (s:={s with heap:=h'}) e c d ⋯ ⟨x,H,I1,ru,⟨rfl,λys hy=>by rw[I.Wi hy hq];exact hx⟩,ae,λb O=>(U b O).1⟩⟩
 done:=by intro X hP hw hK hc i pins s σ H E I U st hg;subst hP hw hK;obtain⟨xs,hq,hx⟩:=hg;obtain⟨a4,rv,p,hz⟩:=I.tuple hq;obtain⟨f0,f1,f2,f3,f4,f5⟩:=U it ⋯;have hl:=rv.length;exact wpAny_pyNext_tuple_end (I.ok.hd hc) st (show s.heap.IsTuple a a4.toArray from p) (by simp;omega) λh' eb=>⟨rfl,I.turned (t':=s.toks) (λb o O e=>eb b o O e) f0 f1 f3 f4 f5⟩
 self:=λ_ _ _ _ _ st h=>wpAny_pyIter_tupleiter st h
theorem aX{P:hG}{w:f9}{K:MP}{tg:dt}(it:di)(lo:Int)(n:Nat):Turn P w K tg (B6 lo n) [it] it (λi h=>IsRangeIter h it (lo+(i:Nat)*1) ((n:Int) - (i:Nat)) 1) where
 mem:=by simp
 obj:=λi h st b O=>by
  have e:b=it:=by simpa using O
  subst e;exact⟨_,st,λv z=>by have z':Data.fields _=Data.cell v:=z;cases z'⟩
 keep:=λi h h' st k=>k it ⋯ _ st
 item:=by intro X hP hw hK hc i pins s σ H E I U st hg;subst hP hw hK;obtain⟨f0,f1,f2,f3,f4,f5⟩:=U it ⋯;have W:=Walks.range (prog:=X.prog) (w:=X.w) (I.ok.hd hc) it lo 1 n;refine W.item i s _ _ hg st λv h' tk hv ab kk=>?_;obtain⟨t,rfl⟩:=hv;have I1:Inv X pins σ H {s with heap:=h',toks:=tk}:=I.turned (λb o O e=>kk b o (by simpa using O) e) f0 f1 f3 f4 f5;refine⟨_,rfl,uB (s:={s with heap:=h',toks:=tk}) (n:="range_iterator") ab rfl rfl ⋯ ⟨.int (lo+i),H,I1,⟨t,?_⟩,⟨rfl,rfl⟩,ab,λb O=>(U b O).1⟩⟩;rw[OL]
 done:=by intro X hP hw hK hc i pins s σ H E I U st hg;subst hP hw hK;obtain⟨f0,f1,f2,f3,f4,f5⟩:=U it ⋯;exact wpAny_pyNext_range_end (I.ok.hd hc) st (by have:n<=i:=hg;omega) λh' eb=>⟨rfl,I.turned (t':=s.toks) (λb o O e=>eb b o O e) f0 f1 f3 f4 f5⟩
 self:=λ_ _ _ _ _ st h=>wpAny_pyIter_rangeiter st h
section
variable{X:Cx}{tg:dt}
theorem WV{J:UQ}{L:St}{H:Hp}{s:dy}{R:It->Hp->Prop}{E:EQ}{lo C:Int}{t u v:Tok}{z:Nat}(I:Inv X J L H s)(S : -(2 ^ 62)<=lo)(Y:lo<2 ^ 62)(U : -(2 ^ 62)<=C)(Z:C<2 ^ 62)
 (q:R (B6 lo (C - lo).toNat) H):wpAny (d6 X.prog X.w) X.A (M3 (.ref s.heap.objs.size)) (Ul X J L tg R) E {s with heap:=s.heap.push {cls:= .type "range",data:= .fields #[.int lo t,.int C u,.int 1 v]},toks:=z}:=by
 refine wpAny_pyIter_range (IsRange.new ..) (small_one S Y U Z) ?_;have O:Inv X J L H {s with heap:=s.heap.push {cls:= .type "range",data:= .fields #[.int lo t,.int C u,.int 1 v]},toks:=z}:=I.kept λb o e=>MT _ e;refine⟨(s.heap.push {cls:= .type "range",data:= .fields #[.int lo t,.int C u,.int 1 v]}).objs.size,[(s.heap.push {cls:= .type "range",data:= .fields #[.int lo t,.int C u,.int 1 v]}).objs.size],_,_,H,rfl,
  O.kept (t':=z) λb o e=>MT _ e,aX _ lo (C - lo).toNat,?_,λb f=>?_,q⟩
 ·have a:lo+((0:Nat):Int)*1=lo:=by simp
  have d:(((C - lo).toNat:Nat):Int) - ((0:Nat):Int)=Builtin.Range.rangeSize lo C 1:=by rw[rangeSize_one];split<;>omega
  show IsRangeIter _ _ (lo+((0:Nat):Int)*1) ((((C - lo).toNat:Nat):Int) - ((0:Nat):Int)) 1;rw[a,d];exact Nm _ rfl
 ·have e:b=(s.heap.push {cls:= .type "range",data:= .fields #[.int lo t,.int C u,.int 1 v]}).objs.size:=by simpa using f
  subst e;exact O.C4 (MY _)<|O.eo.fresh<|MY _
noncomputable def Hk(C:TA):TI:=λd H R=>C d H λb a=>∃j:Int,b=[.int j]/\ -(2 ^ 62)<=j/\j<2 ^ 62/\R (B6 0 j.toNat) a
noncomputable def Hj(C:TA):TI:=λd H R=>C d H λb a=>∃i j:Int,b=[.int i,.int j]/\(-(2 ^ 62)<=i/\i<2 ^ 62/\ -(2 ^ 62)<=j/\j<2 ^ 62)/\R (B6 i (j - i).toNat) a
theorem fu{a:dt}{C:TA}{p pos:fh}(O:Gl X "range")(L:X.mg "range" = none)(J:PA X [a] C)(hs:el [a] X.env=[(cE,dv a X.env)]:=by rfl):PI X tg (.Call (.Name "range" p) [a] [] pos) (Hk C):=by
 intro b s k H R I h;refine DZ<|vy I O L boot_range<|Ou (ea (J pos b s k H _ I h) λn m U=>?_) hs rfl;obtain⟨o,l,d,g,z⟩:=U;obtain⟨j,e,z,f,q⟩:=z;subst e;cases g with
 | cons r i=>
  cases i;obtain⟨t,rfl⟩:=r;exact call_range_1 (WV d ⋯ ⋯ z f<|by simpa using q)
theorem fm(J:Gl X "range")(L:X.mg "range" = none)(C:PA X [a,b] ta)(hs:el [a,b] X.env=[(cE,dv a X.env),(cE,dv b X.env)]:=by rfl)(U:el [b] X.env=[(cE,dv b X.env)]:=by rfl) :
 PI X tg (.Call (.Name "range" p) [a,b] [] pos) (Hj ta):=by
 intro d s u H R I h;refine DZ (vy I J L boot_range<|Ou (ea (C pos d s u H _ I h) λA x g=>?_) (by rw[hs,U])<|by rw[U];rfl);obtain⟨B,w,f,o,z⟩:=g;obtain⟨i,j,e,⟨z,k,l,m⟩,q⟩:=z;subst e;cases o with
 | cons r O=>
  cases O with
  | cons n O=>
   cases O;obtain⟨t,rfl⟩:=r;obtain⟨y,rfl⟩:=n;exact call_range_2<|WV f z k l m q
noncomputable def LN(I:TI)(g:TG)(C:TS):TS:=λD a H=>I a H λJ f=>∃W:Nat->Nat->St->Hp->Prop,(∃m,W 0 m a f)/\∀i m a H,W i m a H->
 (J.stop i H/\D.nx a H)\/(J.go i H/\∃N:St->Hp->Prop,(∀d b,N d b->∃e,e<m/\W (i+1) e d b)/\∀x b,J.B4 i H x b->g x a b λz h=>C {D with nx:=N,ct:=N,bk:=D.nx} z h)
noncomputable def YF(fp:List di)(h:eg):List (di×m5):=fp.filterMap λb=>(h.get? b).map λo=>(b,o)
theorem vR(z:b∈fp)(e:h.get? b=bQ o):(b,o)∈YF fp h:=List.mem_filterMap.mpr ⟨b,z,by rw[e];rfl⟩
theorem fL(z:p∈YF fp h):p.1∈fp/\h.get? p.1=bQ p.2:=by
 obtain⟨b,I,e⟩:=List.mem_filterMap.mp z;cases q:h.get? b with
 | none=>rw[q]at e;cases e
 | some o=>
  rw[q]at e;have O:(b,o)=p:=NN e;subst O;exact⟨I,q⟩
theorem Inv.pinned(I:Inv X pins σ H s)(C : ∀b∈fp,Jd X pins H b)(J : ∀b∈fp,∃o,s.heap.get? b=bQ o/\∀v,o.data ≠ .cell v):Inv X (pins++YF fp s.heap) σ H s:=
 I.M1 λp f=>(RR.mp f).elim (λz=>I.pin p<|Nl _ z) λz=>by obtain⟨O,e⟩:=fL z;obtain⟨a,f1,f2,_⟩:=C p.1 O;obtain⟨o,U,d⟩:=J p.1 O;rw[e]at U;cases U;exact⟨e,a,f1,f2,d⟩
theorem Inv.F8(I:Inv X (pins++pl) σ H s):Inv X pins σ H s:=I.M1 λp z=>I.pin p<|Nl _<|Td _ z
theorem BL(C:Um (d6 X.prog X.w) X.A X.env X.xe)(hc:X.calm=bX)(hi:PI X tg iter wi)(hg:PG X tg g)(z:o8 X body tb)
 (hs : ∀x,pf iter X.env x=pure x:=by intro _;rfl):PS X (.For tg iter body [] pos) (LN wi g tb):=by
 intro a s σ H D I h;refine wpAny_For (ea (hi a s σ H _ I h) λv s1 h1=>ea h1 λc5 s2 h2=>?_) hs;obtain⟨it,B,tn,J,H2,e,I2,T,b5,f2,W,⟨m0,w0⟩,b8⟩:=h2;subst e;have L : ∀{p:Hp},(∀b∈B,p b=none)->∀b∈B,Jd X a p b:=λhn b z=>⟨hn b z,(f2 b z).2⟩;refine codeAny_forLoop_any (λn s'=>∃i k p,Inv X a k p s'/\tn i s'.heap/\(∀b∈B,p b=none)/\W i n k p) ?_ m0 ⟨0,σ,H2,I2,b5,λb z=>(f2 b z).1,w0⟩;rintro n s3 ⟨i,l,K,Y,F,Z,w3⟩;rcases b8 i n l K w3 with⟨G,qn⟩ | ⟨go,N,hN,step⟩
 ·refine So C (ea (T.done X rfl rfl rfl hc i a s3 l K X.xe Y (L Z) F G) λr s4 y=>?_)
  obtain⟨P,I4⟩:=y;subst P;exact e_ ⟨l,K,I4,qn⟩
 ·refine So C (ea (T.item X rfl rfl rfl hc i a s3 l K X.xe Y (L Z) F go) λr s4 y=>?_)
  obtain⟨u,P,h4⟩:=y;subst P;refine So C<|ea h4 λ_ s5 y=>?_;obtain⟨x,S,I5,r5,y5,M,bm⟩:=y;have bn:=I5.pinned (L bm)<|T.obj _ _ M;refine So C<|ea (hg _ s5 l S x u _ bn r5<|step x S y5) λ_ s6 y=>?_;obtain⟨R,H6,I6,q6⟩:=y;refine So C<|ea (z _ s6 R H6 _ I6 q6) λf Q t=>?_;have again : ∀{O:St} {U:Hp},Inv X (a++YF B s5.heap) O U Q->N O U->∃m,m<n/\∃i k p,Inv X a k p Q/\tn i Q.heap/\(∀b∈B,p b=none)/\W i m k p:=λ{O U} j E=>by obtain⟨m',hm,w7⟩:=hN O U E;refine⟨m',hm,i+1,O,U,j.F8,T.keep _ _ _ M λb z o e=>(j.pin (b,o)<|Nl _<|Nl _<|vR z e).1,λb z=>?_,w7⟩;obtain⟨o,e,d⟩:=T.obj _ _ M b z;exact(j.pin (b,o)<|Nl _<|Nl _<|vR z e).2.1
  cases f with
  | next=>obtain⟨O,U,j,E⟩:=t;exact again j E
  | cont=>obtain⟨O,U,j,E⟩:=t;exact again j E
  | brk=>obtain⟨O,U,j,t⟩:=t;exact⟨O,U,j.F8,t⟩
  | ret v=>obtain⟨x7,O,U,j,r7,t⟩:=t;exact⟨x7,O,U,j.F8,r7,t⟩
end
theorem Vf{lo:Int}{n:Nat}{g:TG}{Y:TS}{D:Ends}{C:St}{H:Hp}(z:Nat->St->Hp->Prop)(U:z 0 C H)
 (hs : ∀i C H,i<n->z i C H->g (.int<|lo+i) C H λI L=>Y {D with nx:=z<|i+1,ct:=z<|i+1,bk:=D.nx} I L) (Z : ∀C H,z n C H->D.nx C H) :
 ∃W:Nat->Nat->St->Hp->Prop,(∃m,W 0 m C H)/\∀i m C H,W i m C H->
  ((B6 lo n).stop i H/\D.nx C H)\/((B6 lo n).go i H/\∃N:St->Hp->Prop,(∀J H',N J H'->∃S,S<m/\W (i+1) S J H')/\∀x H',(B6 lo n).B4 i H x H'->g x C H' λI L=>Y {D with nx:=N,ct:=N,bk:=D.nx} I L):=by
 refine⟨λi m C H=>m=n - i/\i<=n/\z i C H,⟨n,by simp,OD _,U⟩,?_⟩;rintro i m C H ⟨rfl,b,p⟩;by_cases O:i<n
 ·refine .inr ⟨O,z<|i+1,λJ H' a=>⟨n - (i+1),by omega,rfl,O,a⟩,λx H' y=>?_⟩
  obtain⟨e,y⟩:=y;subst e y;exact hs i C _ O p
 ·have e:i=n:=by omega
  subst e;exact .inl ⟨MY _,Z C H p⟩
abbrev R2:=V->V->Hp->VK->Prop
noncomputable def gB(X:Cx)(f:dj->dj->Sem dj)(r:R2):Prop:=
 ∀(a:UQ) (s:dy) (b:St) (H:Hp) (x y:V) (v u:dj) (Q:VK),Inv X a b H s->RelV x v->RelV y u->r x y H Q->
  wpAny (d6 X.prog X.w) X.A (f v u) (EP X a b Q) X.xe s
noncomputable def O2(X:Cx)(f:dj->Sem dj)(r:V->Hp->VK->Prop):Prop:=
 ∀(a:UQ) (s:dy) (b:St) (H:Hp) (x:V) (v:dj) (Q:VK),Inv X a b H s->RelV x v->r x H Q->
  wpAny (d6 X.prog X.w) X.A (f v) (EP X a b Q) X.xe s
noncomputable def ZV(X:Cx)(f:dj)(r:List V->Hp->VK->Prop):Prop:=
 ∀(a:UQ) (s:dy) (e:St) (H:Hp) (d:List V) (b:List dj) (Q:VK),Inv X a e H s->d9 d b->r d H Q->
  wpAny (d6 X.prog X.w) X.A (call f b) (EP X a e Q) X.xe s
noncomputable def Mv(X:Cx)(r:V->Hp->(Bool->Hp->Prop)->Prop):Prop:=
 ∀(a:UQ) (s:dy) (b:St) (H:Hp) (x:V) (v:dj) (Q:Bool->Hp->Prop),Inv X a b H s->RelV x v->r x H Q->
  wpAny (d6 X.prog X.w) X.A (F7 v) (TP X a b Q) X.xe s
noncomputable def F5(r:R2)(C I:TE):TE:=λa H Q=>C a H λx b=>I a b λy d=>r x y d Q
noncomputable def Z_(r:V->Hp->VK->Prop)(C:TE):TE:=λb H Q=>C b H λx a=>r x a Q
noncomputable def rI(C:Int->Int->Prop)(g:Int->Int->V):R2:=λx y H Q=>∃i j,x = .int i/\y = .int j/\C i j/\Q (g i j) H
noncomputable def pk(g:Int->Int->V):R2:=λx y H Q=>∃i j,x = .int i/\y = .int j/\Q (g i j) H
noncomputable def rU(g:Int->V):V->Hp->VK->Prop:=λx H Q=>∃i,x = .int i/\Q (g i) H
section
variable{X:Cx}{a b c:dt}{ta tb tc:TE}{pos:fh}
theorem HG(ha:PE X a ta)(O:PE X b tb){C:UQ}{s:dy}{L:St}{H:Hp}{R:V->V->Hp->Prop}(I:Inv X C L H s)
 (h:ta L H λx H1=>tb L H1 λy J=>R x y J) {Q:EQ} {f:dj->dj->Sem dj}
 (U : ∀v u Z x y J,Inv X C L J Z->RelV x v->RelV y u->R x y J->wpAny (d6 X.prog X.w) X.A (f v u) Q X.xe Z) :
 wpAny (d6 X.prog X.w) X.A (dv a X.env) (λv S=>wpAny (d6 X.prog X.w) X.A (dv b X.env) (λu Y=>wpAny (d6 X.prog X.w) X.A (f v u) Q X.xe Y) X.xe S) X.xe s:=by
 refine ea (ha C s L H _ I h) λv l z=>?_;obtain⟨x,H1,d,j,g⟩:=z;refine ea (O C l L H1 _ d g) λu Z z=>?_;obtain⟨y,J,e,k,i⟩:=z;exact U v u Z x y J e j k i
theorem tR{z:Operator}{r:R2}(O:gB X (ro z) r)(C:PE X a ta)(U:PE X b tb):PE X (.BinOp a z b pos) (F5 r ta tb):=by intro d s k H Q I h;exact wpAny_BinOp<|HG C U I h λv u j x y e f g i q=>O d j k e x y v u Q f g i q
theorem GS(z:O2 X (unaryOp op) r)(C:PE X a ta):PE X (.UnaryOp op a pos) (Z_ r ta):=by intro b s d H Q I h;exact UnaryOp_<|ea (C b s d H _ I h) λv g ⟨x,e,O,U,f⟩=>z b g d e x v Q O U f
theorem M0{f:dj->dj->Sem dj}{C:Int->Int->Prop}{g:Int->Int->Int}
 (rule : ∀(i j:Int) (t u:Tok) (s:dy) (Q:EQ) (E:EQ),C i j->Q (.int (g i j) s.toks) {s with toks:=s.toks+1}->wpAny (d6 X.prog X.w) X.A (f (.int i t)<|.int j u) Q E s) :
 gB X f (rI C λi j=> .int (g i j)):=by
 intro a s d H x y v u Q I z O h;obtain⟨i,j,rfl,rfl,U,q⟩:=h;obtain⟨t,rfl⟩:=z;obtain⟨b,rfl⟩:=O;exact rule i j t b s _ _ U ⟨.int<|g i j,H,I.tok _,⟨_,rfl⟩,q⟩
theorem IT{f:dj->dj->Sem dj}{g:Int->Int->Int}
 (rule : ∀(i j:Int) (t u:Tok) (s:dy) (Q:EQ) (E:EQ),Q (.int (g i j) s.toks) {s with toks:=s.toks+1}->wpAny (d6 X.prog X.w) X.A (f (.int i t)<|.int j u) Q E s) :
 gB X f (pk λi j=> .int (g i j)):=by
 intro a s d H x y v u Q I z O h;obtain⟨i,j,rfl,rfl,q⟩:=h;obtain⟨t,rfl⟩:=z;obtain⟨b,rfl⟩:=O;exact rule i j t b s _ _ ⟨.int<|g i j,H,I.tok _,⟨_,rfl⟩,q⟩
theorem Fg{f:dj->dj->Sem dj}{g:Int->Int->Bool}
 (rule : ∀(i j:Int) (t u:Tok) (s:dy) (Q:EQ) (E:EQ),Q (.bool<|g i j) s->wpAny (d6 X.prog X.w) X.A (f (.int i t)<|.int j u) Q E s) :
 gB X f (pk λi j=> .bl (g i j)):=by
 intro a s d H x y v u Q I z O h;obtain⟨i,j,rfl,rfl,q⟩:=h;obtain⟨t,rfl⟩:=z;obtain⟨b,rfl⟩:=O;exact rule i j t b s _ _ ⟨.bl<|g i j,H,I,rfl,q⟩
noncomputable def LD(i j:Int):Prop:=0<j/\j<1073741824
noncomputable def LC(i j:Int):Prop:=0<=j/\j<=1000000/\i.natAbs<2 ^ 64
noncomputable def DA(i j:Int):Prop:=(-(2 ^ 64)<i/\i<2 ^ 64)\/(-(2 ^ 64)<j/\j<2 ^ 64)
theorem DA.ok(h:DA i j):IntMulOk i j:=by
 rcases h with⟨a,b⟩ | ⟨a,b⟩
 ·exact .of_left<|intBits_le_64 a b
 ·exact .of_right<|intBits_le_64 a b
theorem S':gB X (ro .Add) (pk λi j=> .int (i+j)):=IT λ_ _ _ _ _ _ _ q=>add_int q
theorem Cm:gB X (ro .Sub) (pk λi j=> .int (i - j)):=IT λ_ _ _ _ _ _ _ q=>sub_int q
theorem S_:gB X (ro .Mult) (rI DA λi j=> .int (i*j)):=M0 λ_ _ _ _ _ _ _ z q=>mul_int q z.ok
theorem ue:gB X (ro .FloorDiv) (rI LD λi j=> .int (i/j)):=M0 λi j _ _ _ _ _ z q=>by have a:(0:Int)<j:=z.1;have b:j<1073741824:=z.2;exact floordiv_int ⋯ (by rw[Int.fdiv_eq_ediv_of_nonneg i ⋯];exact q)<|.inl<|PyProof.noPylong_small ⋯
theorem Cp:gB X (ro .Mod) (rI (λ_ j=>0<j) λi j=> .int (i%j)):=M0 λi j _ _ _ _ _ z q=>by have a:(0:Int)<j:=z;exact mod_int' ⋯ (by rw[Int.fmod_eq_emod_of_nonneg i ⋯];exact q)
theorem Co:gB X (ro .Pow) (rI LC λi j=> .int (i ^ j.toNat)):=M0 λ_ _ _ _ _ _ _ z q=>pow_int_small z.1 z.2.1 z.2.2 q
theorem _c{f:dj->Sem dj}{g:Int->Int}
 (rule : ∀(i:Int) (t:Tok) (s:dy) (Q:EQ) (E:EQ),Q (.int (g i) s.toks) {s with toks:=s.toks+1}->wpAny (d6 X.prog X.w) X.A (f<|.int i t) Q E s) :
 O2 X f (rU λi=> .int (g i)):=by
 intro a s b H x v Q I z h;obtain⟨i,rfl,q⟩:=h;obtain⟨t,rfl⟩:=z;exact rule i t s _ _ ⟨.int<|g i,H,I.tok _,⟨_,rfl⟩,q⟩
theorem AC:O2 X (unaryOp .USub) (rU λi=> .int (-i)):=_c λ_ _ _ _ _ q=>neg_int q
end
section
variable{X:Cx}{a b c:dt}{ta tb tc:TE}{pos:fh}
theorem Ef(I:Inv X pins σ H s)(q:Q (.bl k) H)(e:k=k'):EP X pins σ Q (.bool k') s:=by subst e;exact⟨.bl k,H,I,rfl,q⟩
theorem ud:gB X (ml .Lt) (pk λi j=> .bl (decide<|i<j)):=Fg λ_ _ _ _ _ _ _ q=>lt_int q
theorem VR:gB X (ml .LtE) (pk λi j=> .bl (decide<|i<=j)):=Fg λ_ _ _ _ _ _ _ q=>le_int q
theorem GV:gB X (ml .Gt) (pk λi j=> .bl (decide<|j<i)):=Fg λ_ _ _ _ _ _ _ q=>gt_int q
theorem GW:gB X (ml .GtE) (pk λi j=> .bl (decide<|j<=i)):=Fg λ_ _ _ _ _ _ _ q=>ge_int q
theorem Cq:gB X (ml .Is) (λx y H Q=>y = .d7/\Q (.bl<|decide<|x = .d7) H):=by
 intro a s b H x y v u Q I z O h;obtain⟨rfl,q⟩:=h;cases O;refine is_none_gen<|Ef I q ?_;cases x<;>first
  | (cases z;rfl)
  | (obtain⟨t,rfl⟩:=z;rfl)
theorem gB.or(h:gB X f r)(h':gB X f r'):gB X f (λx y H Q=>r x y H Q\/r' x y H Q):=by
 intro a s b H x y v u Q I z O q;rcases q with q | q
 ·exact h a s b H x y v u Q I z O q
 ·exact h' a s b H x y v u Q I z O q
theorem ZY(b:dt)(h:op ≠ .In:=by decide)(C:op ≠ .NotIn:=by decide):u7 op b=cE:=by
 have a:(op==CmpOp.In)=cE:=by cases op<;>first | rfl | exact absurd rfl h
 have z:(op==CmpOp.NotIn)=cE:=by cases op<;>first | rfl | exact absurd rfl C
 cases b<;>simp[u7,a,z]
theorem tW{z:CmpOp}{r:R2}(O:gB X (ml z) r)(C:PE X a ta)(U:PE X b tb)(J:u7 z b=cE):PE X (.Compare a [z] [b] pos) (F5 r ta tb):=by intro d s k H Q I h;exact wpAny_Compare1 (HG C U I h λv u j x y e f g i q=>O d j k e x y v u Q f g i q) J
noncomputable def AM(t:TE):TT:=λb H Q=>t b H λx a=>∃k,x = .bl k/\Q k a
theorem eQ(O:gB X (ml op) r)(C:PE X a ta)(U:PE X b tb)(J:u7 op b=cE):PT X (.Compare a [op] [b] pos) (AM<|F5 r ta tb):=by
 intro d s f H Q I h;refine _g (ea (C d s f H _ I h) λv E ⟨x,g,l,w,o⟩=>ea (U d E f g _ l o) λu F ⟨y,i,m,A,p⟩=>
  ea (O d F f i x y v u _ m w A p) λc G ⟨z,j,n,B,k,e,t⟩=>?_) J
 subst e;cases B;exact OF ⟨j,n,t⟩
noncomputable def AQ(r C:R2)(ta tb tc:TE):TE:=λa H Q=>ta a H λx b=>tb a b λy d=>r x y d λz I=>∃k,z = .bl k/\
 (if k=bX then tc a I λe O=>C y e O Q else Q (.bl cE) I)
theorem mQ(Z:gB X (ml op) r)(C:gB X (ml F3) r')(J:PE X a ta)(L:PE X b tb)(S:PE X c tc)
 (Y:R3 [op,F3] [b,c]=cE:=by with_unfolding_all rfl):PE X (.Compare a [op,F3] [b,c] pos) (AQ r r' ta tb tc):=by
 intro f s g H Q I h;refine Compare_chain (ea (J f s g H _ I h) λv K ⟨x,l,o,E,w⟩=>chain_link (ea (L f K g l _ o w) λu M ⟨y,m,p,j,A⟩=>
  ea (Z f M g m x y v u _ p E j A) λd N ⟨z,O,U,F,k,e,i⟩=>?_)) Y
 subst e;cases F;refine OF ?_;cases k with
 | false=>exact ite_ff ⟨.bl cE,O,U,rfl,i⟩
 | true=>exact ite_tt<|chain_last<|ea (S f N g O _ U i) λR P ⟨T,n,t,G,B⟩=>C f P g n y T u R Q t j G B
noncomputable def Ly(K:MP)(x:V)(H:Hp)(k:Bool):Prop:=
 match x with
 | .d7=>k=cE
 | .bl b=>k=b
 | .int i=>k=(i != 0)
 | .str y=>y.length<=ej/\k=((y.length:Int) != 0)
 | .D7 y=>y.size<=ej/\k=((y.size:Int) != 0)
 | .ref p=>(∃d,eU K H p d/\k = !d.isEmpty)\/(∃d,ft K H p d/\k = !d.isEmpty)\/∃a,H p=bQ (.dK a)/\k = !a.isEmpty
 | _=>False
theorem cx(r:KV ji vs):(!vs.isEmpty) = !ji.isEmpty:=by cases r<;>rfl
theorem XH(r:d9 xs M_):(!M_.toArray.isEmpty) = !xs.isEmpty:=by cases r<;>simp
theorem J7:(ej:Nat)<2 ^ 63:=by rw[RL];decide
theorem AG:Mv X (λx H Q=>∃k,Ly X.K x H k/\Q k H):=by
 intro n s E H x v Q I O h;obtain⟨k,e,q⟩:=h;have B:=J7;have C:ej=16777216:=RL;cases x with
 | d7=>
  cases O;have z:k=cE:=e;subst z;exact truthy_none ⟨H,I,q⟩
 | bl b=>
  cases O;have z:k=b:=e;subst z;exact OF ⟨H,I,q⟩
 | int i=>
  obtain⟨t,rfl⟩:=O;have z:k=(i != 0):=e;subst z;exact PySem.P.truthy_int ⟨H,I,q⟩
 | str y=>
  obtain⟨t,rfl⟩:=O;obtain⟨A,z⟩:y.length<=ej/\k=((y.length:Int) != 0):=e;subst z;exact PySem.P.truthy_str ⋯ ⟨H,I.tok _,q⟩
 | D7 y=>
  obtain⟨t,rfl⟩:=O;obtain⟨A,z⟩:y.size<=ej/\k=((y.size:Int) != 0):=e;subst z;exact PySem.W.truthy_bytes ⋯ ⟨H,I.tok _,q⟩
 | ref p=>
  cases O;have z:(∃d,eU X.K H p d/\k = !d.isEmpty)\/(∃d,ft X.K H p d/\k = !d.isEmpty)\/∃a,H p=bQ (.dK a)/\k = !a.isEmpty:=e;rcases z with⟨d,f,z⟩ | ⟨d,f,z⟩ | ⟨a,f,z⟩
  ·subst z
   obtain⟨o,r,U,l⟩:=I.list f;have j:=r.length;exact wpAny_truthy_list U.isList (by simp only[MZ];omega) ⟨H,I.tok _,by rw[XH r];exact q⟩
  ·subst z
   obtain⟨o,r,U,l⟩:=I.tuple f;have j:=r.length;exact truthy_tuple U (by simp only[MZ];omega) ⟨H,I.tok _,by rw[XH r];exact q⟩
  ·subst z
   obtain⟨l,u,g,r,m⟩:a.length<=ej/\(p==B0)=cE/\∃g,KV a g/\s.heap.DictOf (xO X.prog X.w) p g:=I.eo p _ f;have j:a.length=g.length:=Paired.length r;exact wpAny_truthy_dict u m ⋯ ⟨H,I.tok _,by rw[cx r];exact q⟩
 | _=>exact(show False from e).elim
theorem mC(J:PE X a ta)(O : ∀z,Dt a X.env z=(do let v <- z;DT a.pos;vk [v] (F7 v))) :
 PT X a (λC H Q=>ta C H λx H'=>∃k,Ly X.K x H' k/\Q k H'):=by
 intro b s C H Q I h;exact isTrue_plain (ea (J b s C H _ I h) λv g ⟨x,d,U,f,e⟩=>AG b g C d x v Q U f e)<|O _
theorem vf(r:d9 [x] us) : ∃u,us=[u]/\RelV x u:=by
 cases r with
 | cons z a=>cases a;exact⟨_,rfl,z⟩
theorem rk(r:d9 [x,y] us) : ∃u w',us=[u,w']/\RelV x u/\RelV y w':=by
 cases r with
 | cons z a=>
  cases a with
  | cons I O=>cases O;exact⟨_,_,rfl,z,I⟩
theorem iu(O:X.calm=bX):ZV X (.builtin "max") (λxs H Q=>∃i j,xs=[.int i,.int j]/\Q (.int (if j>i then j else i)) H):=by
 intro a s g H xs e Q I r h;obtain⟨i,j,rfl,q⟩:=h;obtain⟨u,f,rfl,⟨t,rfl⟩,⟨d,rfl⟩⟩:=rk r;refine max_two_ints (I.ok.hd O) λb U k=>⟨_,H,I.kept k,?_,q⟩;by_cases z:j>i
 ·rw[UJ z,UJ z];exact⟨_,rfl⟩
 ·rw[UY z,UY z];exact⟨_,rfl⟩
theorem iq(O:X.calm=bX):ZV X (.builtin "min") (λxs H Q=>∃i j,xs=[.int i,.int j]/\Q (.int (if j<i then j else i)) H):=by
 intro a s g H xs e Q I r h;obtain⟨i,j,rfl,q⟩:=h;obtain⟨u,f,rfl,⟨t,rfl⟩,⟨d,rfl⟩⟩:=rk r;refine min_two_ints (I.ok.hd O) λb U k=>⟨_,H,I.kept k,?_,q⟩;by_cases z:j<i
 ·rw[UJ z,UJ z];exact⟨_,rfl⟩
 ·rw[UY z,UY z];exact⟨_,rfl⟩
theorem iw:ZV X (.type "int") (λxs H Q=>(∃i,xs=[.int i]/\Q (.int i) H)\/∃k,xs=[.bl k]/\Q (.int (if k then 1 else 0)) H):=by
 intro a s d H xs b Q I r h;rcases h with⟨i,rfl,q⟩ | ⟨k,rfl,q⟩
 ·obtain⟨u,rfl,t,rfl⟩:=vf r
  exact call_int_int ⟨.int i,H,I,⟨_,rfl⟩,q⟩
 ·obtain⟨u,rfl,z⟩:=vf r
  cases z;exact call_int_bool ⟨.int<|if k then 1 else 0,H,I.tok _,⟨_,rfl⟩,q⟩
end
structure O0(h:eg)(x dx C:di)(mA:UZ):Prop where
 obj:h.get? x=bQ (PySem.W.instObj C dx)
 ns:h.Ns1 dx mA
 ne:dx≠x
theorem fV{h:eg}{C:di}{J:UZ}(n:h.Ns1 C J) : ∃L,h.get? C=bQ L/\∀name,PySem.W.lookIn name L=bQ (J name):=by
 obtain⟨o,b,j,I,g,O,_,i⟩:=n;refine⟨o,I,λname=>?_⟩;have e:=i name;unfold nsFind findBy at e;rw[<- Array.find?_toList]at e;unfold PySem.W.lookIn;rw[g];dsimp only;split
 ·rename_i y q
  rw[q]at e;exact congrArg bQ e
 ·rename_i q
  rw[q]at e;have a:b.toList.any (·.refKey)=cE:=by rw[List.any_eq_false];intro y U;obtain⟨z,t,f⟩:=O y<|Array.mem_toList_iff.mp U;simp[DictEntry.refKey,f]
  have d : ¬b.toList.any (·.refKey)=bX:=by rw[a];exact Nw
  rw[UY d];exact congrArg bQ e
theorem O0.look(I:O0 h x dx C mA) : ∃J,PySem.W.InstAt h x (PySem.W.instObj C dx) C (bQ J)/\∀name,PySem.W.lookIn name J=bQ (mA name):=
 let ⟨J,z,O⟩:=fV I.ns
 ⟨J,⟨I.obj,rfl,rfl,z⟩,O⟩
theorem sx.some_of(r:sx (bQ v) o) : ∃u,o=bQ u/\RelV v u:=by
 cases o with
 | none=>exact(show False from r).elim
 | some u=>exact⟨u,rfl,r⟩
section
variable{P:hG}{w:f9}{H H':Hp}{h h':eg}{a C dx:di}{fs J_:List (Str×V)}
theorem uw(J:i7 P w H h)(e:H a=bQ (.ins C dx fs)) : ∃mA,O0 h a dx C mA/\(∀f,sx (fs.lookup f)<|mA f)/\PySem.Within mA (fs.map (·.1))/\fs.length<=1000/\H dx=bQ (.own a):=by obtain⟨d,z,b,I,mA,n,r,q⟩:=(show i5 P w H h a (.ins C dx fs)from J a _ e);exact⟨mA,⟨I,n,b⟩,r,q,z,d⟩
end
structure N6(K:MP)(C:di):Prop where
 pg:PySem.W.plainGet K C Str.empty=bX
 hd:PySem.W.hasDictIn K C=bX
 po:PySem.W.plainOver K C=bX
 sa:RX K (.ref C) "__setattr__" = bQ (bQ (.builtin "object.__setattr__"))
theorem N6.get{K:MP}{C:di}(c:N6 K C)(f:Str):PySem.W.plainGet K C f=bX:=c.pg
section
variable{X:Cx}{pins:UQ}{σ:St}{H:Hp}{s:dy}{A:l7}{E:EQ}{Q:EQ}{c:dj}{b:Bool}
inductive rn(K:MP)(H:Hp):V->dj->Prop where
 | d7:rn K H .d7 (.type "NoneType")
 | bl (x:Bool):rn K H (.bl x) (.type "bool")
 | int (i:Int):rn K H (.int i) (.type "int")
 | str (x:Str):rn K H (.str x) (.type "str")
 | DM (x:UInt64):rn K H (.DM x) (.type "float")
 | lst {a:di} {xs:List V} (e:H a=bQ (.lst xs)):rn K H (.ref a) (.type "list")
 | qi {a:di} {o:m5} {xs:List V} (e:H a=bQ (.qi o (.lst xs))):rn K H (.ref a) (.type "list")
 | tup {a:di} {xs:List V} (e:H a=bQ (.tup xs)):rn K H (.ref a) (.type "tuple")
 | dK {a:di} {ji:List (Key×V)} (e:H a=bQ (.dK ji)):rn K H (.ref a) (.type "dict")
 | dT {a:di} {ji:List (List Key×V)} (e:H a=bQ (.dT ji)):rn K H (.ref a) (.type "dict")
 | ins {a C dx:di} {fs:List (Str×V)} (e:H a=bQ (.ins C dx fs)) (cl:N6 K C) (ha:RX K (.ref C) "__class__" = bQ (bQ (.builtin "object.__class__")))
  (hn:PySem.W.specialIn K (.builtin "object.__class__") "__get__" = bQ (bQ (.builtin "getset_descriptor.__get__"))) (_n:PySem.W.takesIn K (.builtin "object.__class__")=bQ bX)
  (hm:PySem.W.mroIn K C (.type "object")=bQ bX):rn K H (.ref a) (.ref C)
theorem gx(I:Inv X pins σ H s)(U:RelV x u)(ty:rn X.K H x t)(e:PZ X.K t c=bQ b)(h : ∀S,Q (.bool b) {s with toks:=S}) :
 wpAny (d6 X.prog X.w) A (call (.builtin "isinstance") [u,c]) Q E s:=by
 cases ty with
 | d7=>cases (show u=Ox from U);exact NQ PySem.W.kitx_none I.l6 PH e (λz=>nomatch z) h
 | bl y=>cases (show u=Value.bool y from U);exact NQ PySem.W.kitx_bool I.l6 PH e (λz=>nomatch z) h
 | int i=>obtain⟨t,q⟩:=(show ∃t,u=SJ i t from U);cases q;exact NQ PySem.W.kitx_int I.l6 PH e (λz=>nomatch z) h
 | str y=>obtain⟨t,q⟩:=(show ∃t,u=To y t from U);cases q;exact NQ PySem.W.kitx_str I.l6 PH e (λz=>nomatch z) h
 | DM y=>obtain⟨t,q⟩:=(show ∃t,u=Value.float y t from U);cases q;exact NQ PySem.W.kitx_float I.l6 PH e (λz=>nomatch z) h
 | @lst a j d=>
  cases (show u=OK a from U);obtain⟨_,_,n,_,f⟩:=(show i5 X.prog X.w H s.heap a (.lst j)from I.eo a _ d);exact NQ Tq I.l6 ⟨_,f,rfl⟩ e (λz=>nomatch z) h
 | @qi a M j d=>
  cases (show u=OK a from U);obtain⟨_,_,_,n,_,f⟩:=(show i5 X.prog X.w H s.heap a (.qi M<|.lst j)from I.eo a _ d);exact NQ Tq I.l6 ⟨_,f,rfl⟩ e (λz=>nomatch z) h
 | @tup a j d=>
  cases (show u=OK a from U);obtain⟨_,_,_,p⟩:=(show i5 X.prog X.w H s.heap a (.tup j)from I.eo a _ d);obtain⟨o,f,k,_⟩:=p;exact NQ PySem.W.kitx_tuple I.l6 ⟨o,f,(Prod.mk.inj k).1⟩ e (λz=>nomatch z) h
 | @dK a g d=>
  cases (show u=OK a from U);obtain⟨_,_,T,_,p⟩:=(show i5 X.prog X.w H s.heap a (.dK g)from I.eo a _ d);obtain⟨o,B,r,f,k,_⟩:=p;exact NQ Tr I.l6 ⟨o,f,k.1⟩ e (λz=>nomatch z) h
 | @dT a g d=>
  cases (show u=OK a from U);obtain⟨_,_,j,_,o,B,r,f,k,_⟩:=(show i5 X.prog X.w H s.heap a (.dT g)from I.eo a _ d);exact NQ Tr I.l6 ⟨o,f,k.1⟩ e (λz=>nomatch z) h
 | @ins a C N fs d m F L l G=>
  cases (show u=OK a from U);obtain⟨P,O,_⟩:=uw I.eo d;obtain⟨R,J,_⟩:=O.look;exact NQ (PySem.W.kitx_own (m.get _) m.hd F L l G) I.l6 J e (λz=>nomatch z) h
end
structure l8(k:Nat)(A:l7):Prop where
 hd:A.handled=none
 dp:A.depth+3*k+5<recursionLimit
 un:A.units+16*k+200<yg
theorem l8.mono(r:l8 k A)(h:j<=k):l8 j A:=⟨r.hd,by have:=r.dp;omega,by have:=r.un;omega⟩
theorem l8.deeper(r:l8 (k+1) A)(env:m4):l8 k (A.deeper env):=
 ⟨r.hd,by have:=r.dp;show A.depth+1+3*k+5<_;omega,by have:=r.un;show A.units+3+16*k+200<_;omega⟩
theorem l8.in1(r:l8 (k+1) A):l8 k A.in1:=
 ⟨r.hd,by have:=r.dp;show A.depth+3*k+5<_;omega,by have:=r.un;show A.units+1+16*k+200<_;omega⟩
theorem l8.depth(r:l8 k A):A.depth<recursionLimit:=by have:=r.dp;omega
noncomputable def IB:TA:=λ_ H Q=>Q [] H
noncomputable def AO(C:TE)(z:TA):TA:=λa H Q=>C a H λx b=>z a b λe d=>Q (x::e) d
section
variable{X:Cx}{e:dt}{es:List dt}{te:TE}{t:TA}{pos:fh}
theorem qR:PA X [] IB:=λ_ _ _ _ H Q I h=>TF ⟨[],H,I,.nil,h⟩
theorem jv(C:PE X e te)(z:PA X es t)(hs:el (e::es) X.env=(cE,dv e X.env)::el es X.env:=by rfl):PA X (e::es) (AO te t):=by intro pos a s b H Q I h;rw[hs];show wpAny _ _ (M6 ((cE,dv e X.env)::n6 pos (el es X.env))) _ _ s;refine Sa<|ea (C a s b H _ I h) λu m O=>?_;obtain⟨x,d,U,k,i⟩:=O;exact ea (z pos a m b d _ U i) λp o ⟨n,f,g,l,j⟩=>⟨x::n,f,g,.cons k l,j⟩
noncomputable def LH(t:TA):TE:=λd H Q=>t d H λb a=>b.length<=ej/\∀p,a p=none->Q (.ref p) (upd a p<|.tup b)
noncomputable def LL(t:TA):TE:=λd H Q=>t d H λb a=>b.length<=ej/\∀p,a p=none->Q (.ref p) (upd a p<|.lst b)
theorem BV(h:PA X es t):PE X (.Tuple es x1 pos) (LH t):=by intro a s k H Q I U;refine wpAny_Tuple_spliced<|ea (h pos a s k H _ I U) λi d ⟨j,f,O,r,z,q⟩=>⟨by rw[<- r.length];exact z,?_⟩;have g:f d.heap.objs.size=none:=O.eo.fresh<|MY _;refine⟨.ref d.heap.objs.size,upd f d.heap.objs.size<|.tup j,O.laid (t':=d.toks) (λb u e=>MT _ e) (MY _) ?_,rfl,q _ g⟩;exact⟨z,i,r,⟨_,Nm _ rfl,rfl,_,rfl⟩⟩
theorem Ca(h:PA X es t):PE X (.List es pos) (LL t):=by intro a s k H Q I U;refine wpAny_List_spliced<|ea (h pos a s k H _ I U) λi d ⟨j,f,O,r,z,q⟩=>⟨by rw[<- r.length];exact z,?_⟩;have g:f d.heap.objs.size=none:=O.eo.fresh<|MY _;refine⟨.ref d.heap.objs.size,upd f d.heap.objs.size<|.lst j,O.laid (t':=d.toks) (λb u e=>MT _ e) (MY _) ?_,rfl,q _ g⟩;exact⟨z,i,0,r,Nm _ rfl⟩
end
abbrev Sp:=List V->Hp->VK->XK->Prop
abbrev rb:=List m4->Hp->dy->XK->dj->dy->Prop
structure xb(P:hG)(w:f9)(K:MP)(mg:UZ)(base:eg)(A:l7)(outer:List m4)(s:dy)(H:Hp):Prop where
 frames:A.frames=bQ outer
 mod:Mod K mg base
 bs : ∀b o,base.get? b=bQ o->s.heap.get? b=bQ o/\H b=none
 u9:base.objs.size<=s.heap.objs.size
 qt:s.heap.FunFrames base outer
 C6 : ∀b∈s8 outer,H b=none
 eo:i7 P w H s.heap
 bare:B5 s.gens
noncomputable def CE(outer:List m4)(P:hG)(w:f9)(H:Hp)(s:dy)(Q:VK)(u:dj)(C:dy):Prop:=
 ∃v a,C.os=s.os/\B5 C.gens/\Un (s8 outer) [] H a s.heap C.heap/\i7 P w a C.heap/\RelV v u/\Q v a
noncomputable def CR(CX:rb)(outer:List m4)(P:hG)(w:f9)(H:Hp)(s:dy)(Q:VK)(E:XK)(r:Result)(C:dy):Prop:=
 match r with
 | .ok (.ret u)=>CE outer P w H s Q u C
 | .ok _=>False
 | .error e=>CX outer H s E e C
structure n9(P:hG)(w:f9)(K:MP)(mg:UZ)(base:eg)(CX:rb)(k:Nat)(f:di)(fd:oe)(ps:List Str)(sp:Sp):Prop where
 len : ∀vs H Q E,sp vs H Q E->vs.length=ps.length
 run : ∀(A:l7) (outer:List m4) (s:dy) (H:Hp) (args:Args) (us:List dj) (vs:List V) (Q:VK) (E:XK),l8 k A->xb P w K mg base A outer s H->Gx s fd args (ps.zip us)->d9 vs us->sp vs H Q E->
  codeAny (d6 P w) A (.call (.ref f) args) (CR CX outer P w H s Q E) s
theorem xb.in1{P:hG}{w:f9}{K:MP}{C:UZ}{base:eg}{A:l7}{outer:List m4}{s:dy}{H:Hp}(e:xb P w K C base A outer s H) :
 xb P w K C base A.in1 outer s H:=⟨e.frames,e.mod,e.bs,e.u9,e.qt,e.C6,e.eo,e.bare⟩
section
variable{X:Cx}{pins:UQ}{σ:St}{H:Hp}{s s':dy}
theorem Inv.y0(I:Inv X pins σ H s):xb X.prog X.w X.K X.mg X.base X.A X.stack s H:=
 ⟨I.ok.frames,I.ok.mod,I.bs,NZ I.ok.u9 I.sz,I.stack,I.UU,I.eo,I.bare⟩
theorem Inv.after(I:Inv X pins σ H s)(h:CE X.stack X.prog X.w H s Q u s'):EP X pins σ Q u s':=by obtain⟨v,f,os,a,un,e,r,q⟩:=h;obtain⟨O,g,d,t,U⟩:=s';obtain rfl:U=s.os:=os;exact⟨v,f,I.call (h':=O) (g':=g) (d':=d) (t':=t) (ch:=[]) un e a<|λb z=>absurd z ⋯,r,q⟩
end
noncomputable def rT(sp:Sp)(C:List V)(E:XK)(t:TA):TE:=λd H Q=>t d H λb a=>sp (b++C) a Q E
noncomputable def Binds(K:MP)(C:oe)(ps:List Str)(ds:List dj):Prop:=
 ∀(s:dy) (a:List dj),K.In s.heap->(a++ds).length=ps.length->Gx s C ⟨a,[]⟩ (ps.zip<|a++ds)
theorem Binds.all{K:MP}{C:oe}{ps:List Str}(h : ∀us:List dj,us.length=ps.length->bindArgs C ⟨us,[]⟩=pure (ps.zip us)):Binds K C ps []:=λs us _ z=>by rw[Rt]at z ⊢;exact .of_eq<|h us z
noncomputable def iS(CX:rb)(X:Cx)(E:XK):Prop:=∀(a:UQ) (d:St) (H:Hp) (s:dy) (e:dj) (b:dy),Inv X a d H s->CX X.stack H s E e b->X.xe e b
section
variable{X:Cx}{CX:rb}{k:Nat}{f C:di}{fd:oe}{ps:List Str}{sp:Sp}{DI:List V}{ds:List dj}{E:XK}{x m:Str}{p pos apos:fh}{e o:dt}{es:List dt}{ta:TE}{t:TA}
theorem Bm(F:n9 X.prog X.w X.K X.mg X.base CX k f fd ps sp)(O:l8 k X.A)(U:Binds X.K fd ps ds)(J:d9 DI ds)(hx:iS CX X E)
 (I:Inv X pins σ H s) (r:d9 vs us) (h:sp (vs++DI) H Q E):wpAny (d6 X.prog X.w) X.A (call (.ref f) us) (EP X pins σ Q) X.xe s:=by
 have a:d9 (vs++DI) (us++ds):=r.append J;have d:(us++ds).length=ps.length:=by rw[<- a.length];exact F.len _ _ _ _ h
 refine wpAny_call<|Tn (F.run X.A X.stack s H ⟨us,[]⟩ (us++ds) (vs++DI) Q E O I.y0 (U s us I.l6 d) a h) λr g z=>?_;cases r with
 | error e=>exact hx pins σ H s e g I z
 | ok b=>
  cases b with
  | ret u=>exact I.after z
  | next=>exact Pk z
  | brk=>exact Pk z
  | cont=>exact Pk z
theorem fB(F:n9 X.prog X.w X.K X.mg X.base CX k f fd ps sp)(O:l8 k X.A)(U:Gl X x)(hm:X.mg x=bQ (.ref f))(hk:RW X.K (.ref f)=bX)(Y:Binds X.K fd ps ds)(Z:d9 DI ds)(hx:iS CX X E)
 (S:PA X (e::es) t) (J:(x==("__debug__" : Str))=cE:=by decide) (he:el (e::es) X.env=(cE,dv e X.env)::el es X.env:=by rfl) (L:(n6 pos (el es X.env)).any (·.1)=cE:=by rfl) :
 PE X (.Call (.Name x p) (e::es) [] pos) (rT sp DI E t):=by
 intro a s b H Q I h;refine RD<|fZ I U hm ?_ J;refine PySem.W.callWith_K (h₀:=X.base) I.ok.mod.R1 hk (ea (S pos a s b H _ I h) λi g ⟨j,d,z,r,q⟩=>⟨z.l6,?_⟩) he L;exact Bm F O Y Z hx z r q
end
structure D0(N P:List Str)(sc:fA):Prop where
 kind:sc.kind = .function
 co:sc.isCoroutine=cE
 gen:sc.isGenerator=cE
 nd:N.Nodup
 pre:N.take P.length=P
 par : ∀x∈P,sc.names.lookup x=bQ .local\/sc.names.lookup x=bQ .cell
 Q_ : ∀y∈sc.names,y.2 ≠ .free
theorem Vo{kindOf:Str->Option sm}{x:Str} : ∀{z:List (Str×dj)} {m:UZ},(∀v,(x,v)∉z)->Dp kindOf z m x=m x
 | [],_,_=>rfl
 | (n,v)::r,m,h=>by
  unfold Dp;rw[Vo λw a=>h w (Np _ a)];split
  ·have:x≠n:=by rintro rfl;exact h v Nk
   simp[this]
  ·rfl
theorem Vq{kindOf:Str->Option sm}{x:Str} : ∀{z:List (Str×dj)} {m:UZ},(∀v,(x,v)∉z)->Dn kindOf z m x=m x
 | [],_,_=>rfl
 | (n,v)::r,m,h=>by
  unfold Dn;rw[Vq λw a=>h w (Np _ a)];split
  ·rfl
  ·have:x≠n:=by rintro rfl;exact h v Nk
   simp[this]
theorem Vp{kindOf:Str->Option sm}{x:Str}{v:dj} : ∀{P:List Str} {vs:List dj} {i:Nat} {m:UZ},P.Nodup->P[i]? = bQ x->vs[i]? = bQ v->kindOf x=bQ .local->
 Dp kindOf (P.zip vs) m x=bQ v
 | [],_,_,_,_,h,_,_=>by simp at h
 | _::_,[],_,_,_,_,h,_=>by simp at h
 | p::P,w::vs,0,m,nd,h1,h2,hk=>by simp at h1 h2;subst h1;subst h2;show Dp kindOf ((p,w)::P.zip vs) m p=_;unfold Dp;rw[Vo λv z=>(Ro.mp nd).1 (List.of_mem_zip z).1,UJ hk];simp
 | p::P,w::vs,i+1,m,nd,h1,h2,hk=>by show Dp kindOf ((p,w)::P.zip vs) m x=_;unfold Dp;exact Vp (i:=i) (Ro.mp nd).2 (by simpa using h1) (by simpa using h2) hk
theorem Vr{kindOf:Str->Option sm}{x:Str}{v:dj} : ∀{P:List Str} {vs:List dj} {i:Nat} {m:UZ},P.Nodup->P[i]? = bQ x->vs[i]? = bQ v->kindOf x≠bQ .local->
 Dn kindOf (P.zip vs) m x=bQ v
 | [],_,_,_,_,h,_,_=>by simp at h
 | _::_,[],_,_,_,_,h,_=>by simp at h
 | p::P,w::vs,0,m,nd,h1,h2,hk=>by simp at h1 h2;subst h1;subst h2;show Dn kindOf ((p,w)::P.zip vs) m p=_;unfold Dn;rw[Vq λv z=>(Ro.mp nd).1 (List.of_mem_zip z).1,UY hk];simp
 | p::P,w::vs,i+1,m,nd,h1,h2,hk=>by show Dn kindOf ((p,w)::P.zip vs) m x=_;unfold Dn;exact Vr (i:=i) (Ro.mp nd).2 (by simpa using h1) (by simpa using h2) hk
noncomputable def Ka(N:List Str)(vs:List V):St:=vs.map bQ++MV (N.length - vs.length) none
noncomputable def uL(CX:rb)(P:hG)(w:f9)(K:MP)(mg:UZ)(base:eg)(N:List Str)(qual:Str)(scope:fA)(f:di)(z:dj)(A:l7)(outer:List m4)(s:dy)(H:Hp)(E:XK):Cx where
 prog:=P
 w:=w
 K:=K
 mg:=mg
 base:=base
 A:=A.deeper<|envOfC qual scope s.heap.objs.size f z
 N:=N
 m1:=s
 D1:=H
 env:=Ig qual scope s.heap.objs.size f z
 outer:=outer
 stack:=Ig qual scope s.heap.objs.size f z::outer
 ex:=[]
 calm:=bX
 fn:=λ_=>bX
 pn:=[]
 xe:=λe s'=>wpAny (d6 P w) (A.deeper<|envOfC qual scope s.heap.objs.size f z) (leaving (Ig qual scope s.heap.objs.size f z) e) (λ_ I=>CX outer H s E e I) (λO I=>CX outer H s E O I) s'
theorem aP{C:fA}{n:Nat}{x:Str}(h:C.names.lookup x=bQ .cell) : ∃c,(p8 n C.names []).lookup x=bQ c:=by have q:=Rl C.names n [] (.inl h);exact OV.mp q
theorem gz{CX:rb}{P:hG}{w:f9}{K:MP}{J:UZ}{base:eg}{N ps:List Str}{qual:Str}{scope:fA}{f:di}{C:dj}{A:l7}{outer:List m4}{s L:dy}{H:Hp}{E:XK}{us:List dj}{vs:List V}
 (S:D0 N ps scope) (Y:A.handled=none) (I:xb P w K J base A outer s H) (Z:vs.length=ps.length) (r:d9 vs us)
 (x:InCallC s s.heap.objs.size (Dp (Ig qual scope s.heap.objs.size f C).kindOf (ps.zip us) λ_=>none) (p8 (s.heap.objs.size+1) scope.names []) (Dn (Ig qual scope s.heap.objs.size f C).kindOf (ps.zip us) λ_=>none) L) :
 Inv (uL CX P w K J base N qual scope f C A outer s H E) [] (Ka N vs) H L:=by
 have F:ps.length<=N.length:=by have:=congrArg List.length S.pre;rw[Pe]at this;omega
 obtain⟨g,M,rfl,m⟩:=x.done;have a1 : ∀b:di,b∉(uL CX P w K J base N qual scope f C A outer s H E).ex:=λb z=>absurd (show b∈([]:List di)from z) ⋯;refine⟨⟨I.mod,S.kind,rfl,rfl,MY _,λy z c g d=>?_,λy O=>?_,λy c _ h=>?_,λ_=>Y,Around.frames_deeper I.frames,.inr ⟨rfl,rfl⟩,λb z=>absurd z<|a1 b,I.bs,I.u9,λb _ _=>a1 b,λb z=>absurd z<|a1 b,I.qt,I.C6⟩,
  rfl,I.bare,Un.kept m,⟨_,x.toInCall.ns,λi y v g d G=>?_⟩,λy c h=>⟨_,x.cell y c h⟩,I.eo.fresh<|MY _,λy c h=>?_,λp U=>absurd (show p∈([]:UQ)from U) ⋯,I.eo.kept m,?_⟩
 ·exact name_of_addr x.apart (Rf g)<|Rf d
 ·have O:scope.names.lookup y=bQ .cell\/scope.names.lookup y=bQ .free:=O
  rcases O with O | O
  ·exact aP O
  ·exact absurd rfl<|S.Q_ _<|Rf O
 ·exact SY<|x.above y c<|Rf h
 ·have j:i<vs.length:=by
   unfold Ka at d;by_cases j:i<vs.length
   ·exact j
   ·rw[Oj (by simpa using j)]at d
    rw[Rp]at d;split at d<;>cases d
  have t:vs[i]? = bQ v:=by
   unfold Ka at d;rw[Dk (by simpa using j),NC]at d;cases e:vs[i]? with
   | none=>rw[e]at d;cases d
   | some a=>rw[e]at d;cases d;rfl
  obtain⟨u,o,B⟩:=r.get t;have U:ps[i]? = bQ y:=by rw[<- S.pre,List.getElem?_take_of_lt ⋯];exact g
  have l:ps.Nodup:=by rw[<- S.pre];exact S.nd.sublist<|List.take_sublist _ _
  refine⟨u,B,?_⟩;rcases S.par y (Rc U)with k | k
  ·exact .inl ⟨k,Vp l U o k⟩
  ·obtain⟨c,e⟩:=aP (n:=s.heap.objs.size+1) k
   refine .inr ⟨.inl k,c,e,?_⟩;have q:=x.cell y c e;rw[Vr l U o (by show scope.names.lookup y≠_;rw[k];decide)]at q;exact q
 ·exact I.eo.fresh<|SY<|x.above y c<|Rf h
 ·unfold Ka
  show _=N.length;rw[NO,Nf,List.length_replicate];omega
theorem Hq{CX:rb}{P:hG}{w:f9}{K:MP}{Z:UZ}{base:eg}{k:Nat}{f:di}{name qual:Str}{a0:Arguments}{L:List iQ}{scope:fA}{dV kV Y pm C ct oc:dj}{an od:Option di}
 {Se:Array (Option dj)} {N ps:List Str} {sp:Sp} (lk:K.lookup f=bQ ⟨oc,od,.func<|Ry name qual a0 L scope dV kV Y pm an C ct,Se⟩) (a5:SM K C qual=bX) (S:D0 N ps scope)
 (len : ∀vs H Q E,sp vs H Q E->vs.length=ps.length)
 (a6 : ∀(A:l7) (outer:List m4) (s:dy) (H:Hp) (vs:List V) (Q:VK) (E:XK),l8 k (A.deeper<|envOfC qual scope s.heap.objs.size f C)->sp vs H Q E->
   ∃t,o8 (uL CX P w K Z base N qual scope f C A outer s H E) L t/\t {nx:=λ_ H'=>Q .d7 H',rt:=Q} (Ka N vs) H) :
 n9 P w K Z base CX (k+1) f (Ry name qual a0 L scope dV kV Y pm an C ct) ps sp:=by
 refine⟨len,λA outer s H l us vs Q E O z hb r i=>?_⟩;have M:=len _ _ _ _ i;have h:K.In s.heap:=z.mod.R1.keeps λb o e=>(z.bs b o e).1;have lim:s.heap.NoLimit:=z.mod.nolimit.keeps λb o e=>(z.bs b o e).1;have p : ∀y∈ps.zip us,scope.names.lookup y.1=bQ .local\/(scope.names.lookup y.1=bQ .cell/\((p8 (s.heap.objs.size+1) scope.names []).lookup y.1).isSome=bX):=λ⟨n,v⟩ X=>by
  rcases S.par n (List.of_mem_zip X).1 with q | q
  ·exact .inl q
  ·exact .inr ⟨q,Rl _ _ _<|.inl q⟩
 refine codeAny_call_function O.depth (h _ _ lk) rfl S.co S.gen rfl (PySem.W.codeRec_of h a5)<|hb _ _ _ _ ?_;refine wpAny_newFunctionEnv_cells S.kind p λB G m x=>?_;subst G;refine⟨lim.keeps x.toInCall.keep,codeAny_func ?_⟩;obtain⟨t,T,R⟩:=a6 A outer s H vs Q E (O.deeper _) i;have I:Inv (uL CX P w K Z base N qual scope f C A outer s H E) [] (Ka N vs) H m:=gz S O.hd z M r x;refine Pj (T [] m (Ka N vs) H _ I R) (λF g d=>?_) λe g d=>d;have j : ∀{a:St} {H':Hp} {v:V} {u:dj},Inv (uL CX P w K Z base N qual scope f C A outer s H E) [] a H' g->RelV v u->Q v H'->CE outer P w H s Q u g:=
  λ{a H' v u} J U q=>⟨v,H',J.os,J.bare,J.base,J.eo,U,q⟩
 cases F with
 | ret u=>
  obtain⟨v,a,H',J,U,q⟩:=d;exact j J U q
 | next=>
  obtain⟨a,H',J,q⟩:=d;exact j (v:=V.d7) (u:=Ox) J rfl q
 | brk=>
  obtain⟨_,_,_,q⟩:=d;exact Pk q
 | cont=>
  obtain⟨_,_,_,q⟩:=d;exact Pk q
section
variable{X:Cx}{x:Str}{p pos:fh}{e:dt}{es:List dt}{t:TA}{id T:String}{r:List V->Hp->VK->Prop}
noncomputable def U5(r:List V->Hp->VK->Prop)(t:TA):TE:=λd H Q=>t d H λb a=>r b a Q
theorem yb(z:ZV X (.builtin id) r)(O:Gl X x)(Y:X.mg x=none)(U:C1 x=bQ (.builtin id))(L:PA X (e::es) t)(Z:x ≠ "__name__":=by decide)(C:(x==("__debug__" : Str))=cE:=by decide)
 (S:el (e::es) X.env=(cE,dv e X.env)::el es X.env:=by rfl) (J:(n6 pos<|starEach es X.env).any (·.1)=cE:=by rfl):PE X (.Call (.Name x p) (e::es) [] pos) (U5 r t):=by
 intro a s b H Q I h;refine RD<|vy I O Y U ?_ Z C;exact SU (ea (L pos a s b H _ I h) λk j ⟨l,d,f,i,g⟩=>z a j b d l k Q f i g) S J
theorem JY(z:ZV X (.type T) r)(O:Gl X x)(Y:X.mg x=none)(U:C1 x=bQ (.type T))(L:PA X (e::es) t)(Z:x ≠ "__name__":=by decide)(C:(x==("__debug__" : Str))=cE:=by decide)
 (S:el (e::es) X.env=(cE,dv e X.env)::el es X.env:=by rfl) (J:(n6 pos<|starEach es X.env).any (·.1)=cE:=by rfl):PE X (.Call (.Name x p) (e::es) [] pos) (U5 r t):=by
 intro a s b H Q I h;refine RD<|vy I O Y U ?_ Z C;exact Ou (ea (L pos a s b H _ I h) λk j ⟨l,d,f,i,g⟩=>z a j b d l k Q f i g) S J
end
end L2
namespace HT
open PySem PyProof.Rows
section
variable{prog:hG}{w:f9}{A:l7}{E:EQ}{s:dy}
theorem HE(S:D2 s.heap t vs.toArray)(L:D2 s.heap b ws.toArray)(O:vs ≠ [])
 (C:ws=[]->Q (.ref t) s) (J:ws ≠ []->Q (.ref s.heap.objs.size) {s with heap:=s.heap.push {cls:= .type "tuple",data:= .seq (vs++ws).toArray}})
 (hsz:vs.length+ws.length<=ej):wpAny (d6 prog w) A (ro .Add (.ref t)<|.ref b) Q E s:=by
 obtain⟨⟨cls,U,data,l⟩,z,i,n,j⟩:=id S;obtain⟨⟨m,d,data2,f⟩,I,g,k,h⟩:=id L;simp only at i j g h;subst i j g h;have e:vs.toArray++ws.toArray=(vs++ws).toArray:=by simp
 by_cases a:ws=[]
 ·exact Ui ⟨_,z,rfl⟩ ⟨_,I,rfl⟩ Uj UN Sv Ss (Sd _ _)
   (tuple_addW1 t b vs.toArray ws.toArray n k U d l f (by simpa using O)<|by simp[a]) ⟨z,I,C a⟩
 ·refine Ui ⟨_,z,rfl⟩ ⟨_,I,rfl⟩ Uj UN Sv Ss (Sd _ _)
   (tuple_addW2 t b vs.toArray ws.toArray n k U d l f (by simpa using O) (by simpa using a)<|by rw[MZ,MZ];exact hsz) ⟨z,I,?_⟩
  rw[e];exact J a
noncomputable def cq(n d:Nat):Option Int->Nat
 | none=>d
 | some v=>if v<0 then (v+(n:Int)).toNat else min v.toNat n
theorem Bj(n d:Nat)(C:d<=n)(o:Option Int):cq n d o<=n:=by
 cases o with
 | none=>exact C
 | some v=>
  show(if v<0 then (v+(n:Int)).toNat else min v.toNat n)<=n;by_cases z:v<0
  ·rw[UJ z];omega
  ·rw[UY z];exact Nat.min_le_right _ _
theorem ic(v:Int)(n d:Nat):(if v<0 then max (v+(n:Int)) 0 else min v (n:Int))=((cq n d (bQ v):Nat):Int):=by
 show(if v<0 then max (v+(n:Int)) 0 else min v (n:Int))=(((if v<0 then (v+(n:Int)).toNat else min v.toNat n):Nat):Int);by_cases z:v<0
 ·simp only[UJ z];omega
 ·simp only[UY z];omega
theorem cN(lo C:Option Int)(n:Nat):RJ lo C 1 (n:Int)=(((cq n 0 lo:Nat):Int),((cq n n C:Nat):Int)):=by
 have a : ¬((1:Int)<0):=by omega
 unfold RJ;simp only[a,if_false];refine Ua ?_ ?_
 ·cases lo with
  | none=>rfl
  | some v=>exact ic v n 0
 ·cases C with
  | none=>rfl
  | some v=>exact ic v n n
theorem bG(i j:Nat):PL (i:Int) (j:Int) 1=j - i:=by
 unfold PL;have a:(1:Int)>0:=by omega
 simp only[a,if_true,Int.ediv_one];split<;>omega
theorem Xr(p:xr v o)(h:Q o s):wpAny (d6 prog w) A (Builtin.Slice.slicePartIndex v) Q E s:=by
 cases p with
 | none=>exact slicePart_none h
 | int i t=>exact slicePart_int h
theorem Jh{J:di}{z I:dj}{lo C:Option Int}{n:Nat}{Q:Int×Int×Nat->dy->Prop}(hs:s.heap.IsSliceOf J z I .none)(L:xr z lo)(S:xr I C)
 (h:Q (((cq n 0 lo:Nat):Int),1,cq n n C - cq n 0 lo) s):wpAny (d6 prog w) A (Builtin.Slice.sliceApplied (.ref J)<|pure (n:Int)) Q E s:=by
 obtain⟨os,O,a,U⟩:=id hs;unfold Builtin.Slice.sliceApplied Builtin.Slice.sliceFields;refine MQ<|MQ<|Oq O U (x:=z) rfl<|MQ<|Oq O U (x:=I) rfl<|MQ<|Oq O U (x:= .none) rfl<|Na ?_;refine MQ<|slicePart_none ?_;show wpAny _ _ (if ((1:Int)==0)=bX then _ else _) _ _ s;rw[UY ⋯];refine MQ<|Xr L<|MQ<|Xr S<|MQ<|Na ?_;show wpAny _ _ (match RJ lo C 1 (n:Int)with | (lo,C)=>pure (lo,(1:Int),PL lo C 1)) _ _ s;rw[cN lo C n];show wpAny _ _ (pure (((cq n 0 lo:Nat):Int),(1:Int),PL ((cq n 0 lo:Nat):Int) ((cq n n C:Nat):Int) 1)) _ _ s;rw[bG];exact Na h
theorem mL(xs:Array dj)(i k:Nat):((MO k).filterMap λ(m:Nat)=>xs[((i:Int)+(m:Int)*1).toNat]?).toArray=((xs.toList.drop i).take k).toArray:=by
 have e:(λ(m:Nat)=>xs[((i:Int)+(m:Int)*1).toNat]?)=λm=>xs[i+m]? :=by
  funext m;have:((i:Int)+(m:Int)*1).toNat=i+m:=by omega
  rw[this]
 rw[e];have:=pick_run xs i k;rw[List.filterMap_map]at this;have z:((λx=>xs[x]?)∘λx=>i+x)=λm=>xs[i+m]? :=rfl;rw[z]at this;rw[this]
theorem cD{t J:di}{items:Array dj}{O U:dj}{lo C:Option Int}{Q:EQ}(z:D2 s.heap t items)(hs:s.heap.IsSliceOf J O U .none)(S:xr O lo)(Y:xr U C)
 (L : ¬(cq items.size 0 lo=0/\cq items.size items.size C=items.size))
 (h:Q (.ref s.heap.objs.size) {s with heap:=s.heap.push {cls:= .type "tuple",data:= .seq ((items.toList.drop (cq items.size 0 lo)).take (cq items.size items.size C - cq items.size 0 lo)).toArray}})
 (hsz:items.size<=ej):wpAny (d6 prog w) A (A5 (.ref t)<|.ref J) Q E s:=by
 have I:sizeOk (.seq ((items.toList.drop<|cq items.size 0 lo).take (cq items.size items.size C - cq items.size 0 lo)).toArray):=by show((items.toList.drop<|cq items.size 0 lo).take (cq items.size items.size C - cq items.size 0 lo)).toArray.size<=ej;rw[MZ,Pe,SD,OU];omega
 have g:cq items.size items.size C<=items.size:=Bj _ _ (MY _) C;obtain⟨os,a,b,f⟩:=id hs;have d:s.TypeIs (.ref J) "slice":=⟨os,a,b⟩;unfold A5
 try with_reducible refine PK ?_
 first | refine MQ (Na ?_) | skip
 refine MQ (_i z.typeIs ⋯ ?_);refine MQ (OH (name:=NS "__getitem__") z.typeIs Oz
  (OY Oz z.typeIs entry_tuple_getitem ?_ (D' _ _)))
 show wpAny _ _ (Builtin.Tuple.tupleItemsOf (.ref t) >>= _) _ _ s;refine MQ<|SS z ?_;refine MQ<|Sx d ?_;rw[UJ ⋯];refine MQ<|Jh hs S Y ?_;have e : ¬((((cq items.size 0 lo:Nat):Int)==0 && (1:Int)==1 && (cq items.size items.size C - cq items.size 0 lo)==items.size)=bX):=by intro q;rw[Nb,Nb]at q;have i:((cq items.size 0 lo:Nat):Int)=0:=eq_of_beq q.1.1;have j:cq items.size items.size C - cq items.size 0 lo=items.size:=eq_of_beq q.2;exact L ⟨by omega,by omega⟩
 show wpAny _ _ (if (((cq items.size 0 lo:Nat):Int)==0 && (1:Int)==1 && (cq items.size items.size C - cq items.size 0 lo)==items.size)=bX then _ else _) _ _ s;rw[UY e,mL]
 first
  | exact MQ (m:=OS _)<|OG (Na ⟨_,rfl,Na h⟩) I
  | exact MQ (m:=OS _)<|OG (MQ<|Na<|Na ⟨_,rfl,Na h⟩) I
  | exact MQ<|MQ (m:=OS _)<|OG (Na<|Na ⟨_,rfl,Na h⟩) I
  | exact MQ<|MQ (m:=OS _)<|OG (Na ⟨_,rfl,Na h⟩) I
end
end HT
namespace L2
open PySem PySem.Spec PyProof.Rows
abbrev TO:=St->Hp->(Option Int->Hp->Prop)->Prop
noncomputable def PO(X:Cx)(e:Option dt)(t:TO):Prop:=
 ∀(a:UQ) (s:dy) (b:St) (H:Hp) (Q:Option Int->Hp->Prop),Inv X a b H s->t b H Q->
  wpAny (d6 X.prog X.w) X.A (evalPart e X.env) (λu f=>∃o d,Inv X a b d f/\xr u o/\Q o d) X.xe s
noncomputable def rR:TO:=λ_ H Q=>Q none H
noncomputable def FU(t:TE):TO:=λb H Q=>t b H λx a=>∃i,x = .int i/\Q (bQ i) a
section
variable{X:Cx}{e:dt}{te:TE}{lo hi:Option dt}{tl th:TO}{pos p2:fh}
theorem tJ:PO X none rR:=by intro a s b H Q I h;rw[evalPart_none];exact Na ⟨none,H,I,.none,h⟩
theorem tI(h:PE X e te):PO X (bQ e) (FU te):=by intro a s g H Q I d;rw[evalPart_some];refine ea (h a s g H _ I d) λu j z=>?_;obtain⟨x,b,O,U,f⟩:=z;obtain⟨i,rfl,q⟩:=f;obtain⟨t,rfl⟩:=U;exact⟨bQ i,b,O,.int i t,q⟩
noncomputable def O1(X:Cx)(r:V->Option Int->Option Int->Hp->VK->Prop):Prop:=
 ∀(a:UQ) (s:dy) (d:St) (H:Hp) (x:V) (v z I:dj) (lo hi:Option Int) (b:di) (Q:VK),Inv X a d H s->RelV x v->s.heap.IsSliceOf b z I .none->xr z lo->xr I hi->r x lo hi H Q->
  ∃T id,N2 (.type T) "__getitem__" = pure (bQ (.builtin id))/\s.TypeIs v T/\wpAny (d6 X.prog X.w) X.A (A5 v (.ref b)) (EP X a d Q) X.xe s
noncomputable def Z'(r:V->Option Int->Option Int->Hp->VK->Prop)(te:TE)(tl th:TO):TE:=λa H Q=>te a H λx b=>tl a b λl d=>th a d λu z=>r x l u z Q
theorem mO(L:O1 X r)(C:PE X e te)(J:PO X lo tl)(S:PO X hi th):PE X (.Subscript e (.Slice lo hi none p2) pos) (Z' r te tl th):=by intro a s d H Q I h;refine Up (ea (C a s d H _ I h) λv N p=>?_);obtain⟨x,g,j,M,F⟩:=p;refine wpAny_Slice (ea (J a N d g _ j F) λO P ⟨l,i,k,B,G⟩=>ea (S a P d i _ k G) λU z ⟨u,f,m,E,K⟩=>?_);rw[evalPart_none];refine Na ?_;have n:Inv X a d f {z with heap:=z.heap.push {cls:= .type "slice",data:= .fields #[O,U,.none]}}:=m.kept (t':=z.toks) λb R q=>MT _ q;obtain⟨T,id,o,y,t⟩:=L a {z with heap:=z.heap.push {cls:= .type "slice",data:= .fields #[O,U,.none]}} d f x v O U l u z.heap.objs.size Q n M (Heap.IsSliceOf.new ..) B E K;show wpAny (d6 X.prog X.w) X.A (U0 e (.Slice lo hi none p2) v (.ref z.heap.objs.size)) (EP X a d Q) X.xe {z with heap:=z.heap.push {cls:= .type "slice",data:= .fields #[O,U,.none]}};exact tail_any (ops:=[.ref z.heap.objs.size,v]) y o t (by with_unfolding_all rfl)
noncomputable def uN(xs:List V)(lo hi:Option Int):List V:=(xs.drop<|HT.cq xs.length 0 lo).take (HT.cq xs.length xs.length hi - HT.cq xs.length 0 lo)
theorem Wj(xs:List V)(lo hi:Option Int):(uN xs lo hi).length<=xs.length:=by unfold uN;rw[Pe,SD];omega
noncomputable def Ma(K:MP):V->Option Int->Option Int->Hp->VK->Prop:=λx lo hi H Q=>∃a b,x = .ref a/\ft K H a b/\
 ¬(HT.cq b.length 0 lo=0/\HT.cq b.length b.length hi=b.length)/\∀p,H p=none->Q (.ref p) (upd H p<|.tup<|uN b lo hi)
theorem Bc:O1 X (Ma X.K):=by
 intro e s w H x v t u lo hi p Q I m g k l h;obtain⟨a,d,rfl,j,i,q⟩:=h;cases m;obtain⟨f,r,O,U⟩:=I.tuple j;have z:f.toArray.size=d.length:=by rw[MZ];exact r.length.symm
 refine⟨"tuple",_,Oz.lookup,O.typeIs,?_⟩;refine HT.cD O g k l (by rw[z];exact i) ?_ (by rw[z];exact U);rw[z];refine⟨.ref s.heap.objs.size,_,I.laid (t':=s.toks) (o:= .tup (uN d lo hi)) (λb n q=>MT _ q) (MY _) ?_,rfl,q _ (I.eo.fresh (MY _))⟩;exact⟨NZ (Wj d lo hi) U,_,(r.drop (HT.cq d.length 0 lo)).take (HT.cq d.length d.length hi - HT.cq d.length 0 lo),u4.new _ _⟩
theorem d9.L7(r:d9 xs us):us=[]↔xs=[]:=by
 cases r with
 | nil=>simp
 | cons _ _=>simp
end
noncomputable def Du(n:Nat)(i:Int):Option Nat:=if 0<=i then (if i<n then bQ i.toNat else none)else if -(n:Int)<=i then bQ (i+n).toNat else none
noncomputable def C0{C:Type}(xs:List C)(i:Int):Option C:=(Du xs.length i).bind λj=>xs[j]?
theorem gu(h:Du n i=bQ j):seqIndex? i n=bQ j/\j<n/\ -(n:Int)<=i/\i<n:=by
 unfold Du at h;by_cases z:0<=i
 ·rw[UJ z]at h
  by_cases a:i<n
  ·rw[UJ a]at h
   have e:i.toNat=j:=NN h;exact⟨by rw[UM z a,e],by omega,by omega,a⟩
  ·rw[UY a]at h;cases h
 ·rw[UY z]at h
  by_cases a : -(n:Int)<=i
  ·rw[UJ a]at h
   have e:(i+n).toNat=j:=NN h;exact⟨by rw[UL ⋯ a,e],by omega,a,by omega⟩
  ·rw[UY a]at h;cases h
theorem Wr(h:C0 xs i=bQ v) : ∃j,seqIndex? i xs.length=bQ j/\xs[j]? = bQ v/\j<xs.length/\ -(xs.length:Int)<=i/\i<xs.length:=by
 unfold C0 at h;cases e:Du xs.length i with
 | none=>rw[e]at h;cases h
 | some j=>
  rw[e]at h;obtain⟨a,b,z,I⟩:=gu e;exact⟨j,a,h,b,z,I⟩
noncomputable def Ww(b:dt):Prop:=∀o i,Ta b cE o i=operate [o,i] (A5 o i)
noncomputable def B7(X:Cx)(r:R2):Prop:=
 ∀(b z:dt) (a:UQ) (s:dy) (d:St) (H:Hp) (x y:V) (v u:dj) (Q:VK),Inv X a d H s->RelV x v->RelV y u->r x y H Q->
  Ta z cE v u=operate [v,u] (A5 v u)->wpAny (d6 X.prog X.w) X.A (U0 b z v u) (EP X a d Q) X.xe s
noncomputable def Ol(X:Cx)(id:String)(r:V->List V->Hp->VK->Prop):Prop:=
 ∀(a:UQ) (s:dy) (e:St) (H:Hp) (x:V) (d:List V) (v:dj) (b:List dj) (Q:VK),Inv X a e H s->RelV x v->d9 d b->r x d H Q->
  wpAny (d6 X.prog X.w) X.A (call (.builtin id) (v::b)) (EP X a e Q) X.xe s
section
variable{X:Cx}{a b:dt}{ta tb:TE}{pos:fh}
theorem B7.or(h:B7 X r)(h':B7 X r'):B7 X (λx y H Q=>r x y H Q\/r' x y H Q):=by
 intro a z b s e H x y v u Q I O U q d;rcases q with q | q
 ·exact h a z b s e H x y v u Q I O U q d
 ·exact h' a z b s e H x y v u Q I O U q d
theorem Cb(z:B7 X r)(C:PE X a ta)(O:PE X b tb)(hs:Ww b):PE X (.Subscript a b pos) (F5 r ta tb):=by intro d s j H Q I h;exact Up<|HG C O I h λv u i x y e U f g q=>z a b d i j e x y v u Q U f g q<|hs _ _
noncomputable def Me(K:MP):R2:=λx y H Q=>∃p a i v,x = .ref p/\y = .int i/\eU K H p a/\C0 a i=bQ v/\Q v H
noncomputable def Mc(K:MP):R2:=λx y H Q=>∃p a i v,x = .ref p/\y = .int i/\ft K H p a/\C0 a i=bQ v/\Q v H
noncomputable def Md:R2:=λx y H Q=>∃z i c,x = .str z/\y = .int i/\z.length<=ej/\C0 z.cps.toList i=bQ c/\Q (.str ⟨#[c]⟩) H
theorem O':B7 X (Me X.K):=by
 intro d M a s l H x y v u Q I G J h k;obtain⟨p,S,i,z,rfl,rfl,F,C,q⟩:=h;cases G;obtain⟨t,rfl⟩:=J;obtain⟨m,r,O,R⟩:=I.list F;obtain⟨j,b,o,N,A,B⟩:=Wr C;obtain⟨w,f,n⟩:=r.get o;have E:=r.length;have P:=J7;have e:EP X a l Q w s:=⟨z,H,I,n,q⟩;by_cases g:0<=i
 ·have U:i.toNat=j:=by
   rw[UM g B]at b;exact NN b
  exact item_listR O.isList g ⋯ (by rw[U];simpa using f) e k
 ·have U:(i+(m.toArray.size:Int)).toNat=j:=by
   rw[UL ⋯ A]at b;rw[MZ,<- E];exact NN b
  exact Y' (x:=w) O.isList.typeIs slot_list_getitem.lookup
   (wpAny_getItem_list_neg (Q:=λr L=>r=w/\EP X a l Q r L) O.isList ⋯ (by rw[MZ]<;>omega) ⋯ (by rw[U];simpa using f) ⟨rfl,e⟩) k
theorem CS:B7 X (Mc X.K):=by
 intro b E a s d H x y v u Q I U B h A;obtain⟨p,P,i,z,rfl,rfl,o,m,q⟩:=h;cases U;obtain⟨t,rfl⟩:=B;obtain⟨F,r,O,N⟩:=I.tuple o;obtain⟨j,k,l,G,J,L⟩:=Wr m;obtain⟨w,g,e⟩:=r.get l;have n:=r.length;have M:=J7;have f:EP X a d Q w s:=⟨z,H,I,e,q⟩;exact Y' (x:=w) O.typeIs slot_tuple_getitem.lookup
  (getItem_tuple (j:=j) (Q:=λr C=>r=w/\EP X a d Q r C) O ⋯ ⋯ (by rw[MZ,<- n];exact k) (by simpa using g) ⟨rfl,f⟩) A
theorem CT:B7 X Md:=by
 intro a p d s C H x y v u Q I O U h o;obtain⟨z,i,c,rfl,rfl,A,m,q⟩:=h;obtain⟨t,rfl⟩:=O;obtain⟨B,rfl⟩:=U;obtain⟨j,b,g,r,k,l⟩:=Wr m;have n:z.cps.toList.length=z.length:=by simp[Str.length]
 rw[n]at b k l;have w:=J7;exact tail_any (a_ s z t) slot_str_getitem.lookup (getItem_str (c:=c) (by
  have e:decide (i < -(2 ^ 63:Int))=cE:=decide_eq_false ⋯;have f:decide (i>=2 ^ 63)=cE:=decide_eq_false ⋯;rw[e,f,Bool.or_false]) (by rw[b];simpa using g) ⟨.str ⟨#[c]⟩,H,I.tok _,⟨_,rfl⟩,q⟩) o
theorem bZ(z:List dj)(n j:Nat)(u:dj):Ot (·.setIfInBounds j u) {cls:= .type "list",data:= .seq z.toArray n} = {cls:= .type "list",data:= .seq (z.set j u).toArray n}:=by simp[Ot]
theorem Inv.lst(I:Inv X pins σ H s)(h:H p=bQ (.lst xs)) :
 ∃(O:List dj) (n:Nat),d9 xs O/\s.heap.get? p=bQ {cls:= .type "list",data:= .seq O.toArray n}/\xs.length<=ej:=by
 obtain⟨z,O,n,r,e⟩:=I.eo p _ h;exact⟨O,n,r,e,z⟩
theorem Inv.P'{C:UQ}{J:St}{H:Hp}{s:dy}{p:di}{xs ys:List V}{z its':List dj}{n n':Nat}{f:m5->m5}(I:Inv X C J H s)(h:H p=bQ (.lst xs))
 (U:s.heap.get? p=bQ {cls:= .type "list",data:= .seq z.toArray n}) (O:f {cls:= .type "list",data:= .seq z.toArray n} = {cls:= .type "list",data:= .seq its'.toArray n'}) (r:d9 ys its') (L:ys.length<=ej) (t:Nat) :
 Inv X C J (upd H p<|.lst ys) {s with heap:=s.heap.update p f,toks:=t}:=by
 have e:(s.heap.update p f).get? p=bQ {cls:= .type "list",data:= .seq its'.toArray n'}:=by rw[SQ f U (by rw[O]<;>rfl),O]
 refine I.write (x:=p) (e:=p) (by rw[h];trivial) (.inl rfl) (λb u a q=>(Ow _ _<|Oa a).trans q) ⟨_,e⟩ ?_;exact⟨L,its',n',r,e⟩
noncomputable def GK:V->V->V->Hp->(Hp->Prop)->Prop:=λo i v H Q=>∃p a k j,o = .ref p/\i = .int k/\H p=bQ (.lst a)/\Du a.length k=bQ j/\Q (upd H p<|.lst<|a.set j v)
theorem lY:LA X GK:=by
 intro a s E H o i v K J u Q I A y B h;obtain⟨p,C,k,j,rfl,rfl,m,w,q⟩:=h;cases A;obtain⟨t,rfl⟩:=y;obtain⟨e,n,r,z,x⟩:=I.lst m;obtain⟨b,F,g,l⟩:=gu w;have O:=r.length;have G:=J7;have d:Inv X a E (upd H p<|.lst<|C.set j v) {s with heap:=s.heap.update p (Ot (·.setIfInBounds j u))}:=
  I.P' m z (bZ e n j u) (r.set B j) (by rw[List.length_set];exact x) s.toks
 by_cases f:0<=k
 ·have U:k.toNat=j:=by
   rw[UM f l]at b;exact NN b
  exact PySem.W.ki_setAt z f ⋯ (by rw[MZ,<- O];exact l) (by rw[U];exact⟨_,d,q⟩)
 ·have U:(k+(e.toArray.size:Int)).toNat=j:=by
   rw[UL ⋯ g]at b;rw[MZ,<- O];exact NN b
  exact PySem.W.ki_setBack z ⋯ (by rw[MZ,<- O];exact g) ⋯ (by rw[U];exact⟨_,d,q⟩)
noncomputable def KH:V->Bool
 | .d7=>bX
 | .bl _=>bX
 | .int _=>bX
 | .str _=>bX
 | _=>cE
noncomputable def A3:V->V->Bool
 | .d7,.d7=>bX
 | .bl a,.bl b=>a==b
 | .bl a,.int b=>(if a then 1 else 0)==b
 | .int a,.bl b=>a==(if b then 1 else 0)
 | .int a,.int b=>a==b
 | .str a,.str b=>a==b
 | _,_=>cE
theorem Ei(I:RelV y u)(z:RelV x v)(O:KH y=bX)(fx:KH x=bX):Oy A s u v (A3 y x):=by
 cases y with
 | d7=>
  cases I;cases x with
  | d7=>cases z;exact Oy.same _
  | bl b=>cases z;exact Oy.none_bool b
  | int b=>obtain⟨t,rfl⟩:=z;exact Oy.none_int b t
  | str b=>obtain⟨t,rfl⟩:=z;exact Oy.none_str b t
  | _=>exact absurd (show cE=bX from fx) Nw
 | bl a=>
  cases I;cases x with
  | d7=>cases z;exact Oy.bool_none a
  | bl b=>cases z;exact Oy.bool_bool a b
  | int b=>obtain⟨t,rfl⟩:=z;exact Oy.bool_int a b t
  | str b=>obtain⟨t,rfl⟩:=z;exact Oy.bool_str a b t
  | _=>exact absurd (show cE=bX from fx) Nw
 | int a=>
  obtain⟨d,rfl⟩:=I;cases x with
  | d7=>cases z;exact Oy.int_none a d
  | bl b=>cases z;exact Oy.int_bool a d b
  | int b=>obtain⟨t,rfl⟩:=z;exact Uo a d b t
  | str b=>obtain⟨t,rfl⟩:=z;exact Oy.int_str a d b t
  | _=>exact absurd (show cE=bX from fx) Nw
 | str a=>
  obtain⟨d,rfl⟩:=I;cases x with
  | d7=>cases z;exact Oy.str_none a d
  | bl b=>cases z;exact Oy.str_bool a d b
  | int b=>obtain⟨t,rfl⟩:=z;exact Oy.str_int a d b t
  | str b=>obtain⟨t,rfl⟩:=z;exact Oy.str_str a d b t
  | _=>exact absurd (show cE=bX from fx) Nw
 | _=>exact absurd (show cE=bX from O) Nw
noncomputable def zc(x:V)(u:dj):Bool:=match u with
 | .none=>A3 .d7 x
 | .bool b=>A3 (.bl b) x
 | .int i _=>A3 (.int i) x
 | .str z _=>A3 (.str z) x
 | _=>cE
theorem pK(r:RelV y u)(f:KH y=bX):zc x u=A3 y x:=by
 cases y with
 | d7=>cases r;rfl
 | bl b=>cases r;rfl
 | int i=>obtain⟨t,rfl⟩:=r;rfl
 | str z=>obtain⟨t,rfl⟩:=r;rfl
 | _=>exact absurd (show cE=bX from f) Nw
theorem Wu : ∀{xs:List V} {us:List dj},d9 xs us->xs.all KH=bX->us.any (zc x)=xs.any λy=>A3 y x
 | _,_,.nil,_=>rfl
 | y::xs,u::us,.cons r t,f=>by rw[Tw,Nb]at f;rw[G9,G9,pK r f.1,Wu t f.2]
theorem Kv(I:RelV x v)(fx:KH x=bX) : ∀{xs:List V} {us:List dj},d9 xs us->xs.all KH=bX->∀u∈us,Oy A s u v (zc x u)
 | _,_,.nil,_=>λu z=>by cases z
 | y::xs,u::us,.cons r t,f=>λO z=>by
  rw[Tw,Nb]at f;rcases Nc.mp z with rfl | z
  ·rw[pK r f.1];exact Ei r I f.1 fx
  ·exact Kv I fx t f.2 O z
noncomputable def L0(x:V)(xs:List V):Bool:=xs.any λy=>A3 y x
noncomputable def U'(K:MP)(z:Bool):R2:=λx y H Q=>∃p a,y = .ref p/\(eU K H p a\/ft K H p a)/\KH x=bX/\a.all KH=bX/\Q (.bl<|if z then !L0 x a else L0 x a) H
theorem YJ:gB X (ml .NotIn) (U' X.K bX):=by
 intro b s i H x y v u Q I d f h;obtain⟨p,g,rfl,z,fx,fs,q⟩:=h;cases f;rcases z with z | z
 ·obtain⟨O,r,U,e⟩:=I.list z
  refine SeqAt.notIn_listAt (zc x) U.isList (λw a=>Kv d fx r fs w<|by simpa using a) ⟨.bl _,H,I,rfl,?_⟩;rw[show O.toArray.any (zc x)=O.any (zc x)by simp,Wu r fs];exact q
 ·obtain⟨O,r,U,e⟩:=I.tuple z
  refine SeqAt.notIn_tupleAt (zc x) U (λw a=>Kv d fx r fs w<|by simpa using a) ⟨.bl _,H,I,rfl,?_⟩;rw[show O.toArray.any (zc x)=O.any (zc x)by simp,Wu r fs];exact q
theorem Vn:ZV X (.builtin "len") (λxs H Q=>∃p ys,xs=[.ref p]/\(eU X.K H p ys\/ft X.K H p ys)/\Q (.int ys.length) H):=by
 intro b s j H xs i Q I r h;obtain⟨p,ys,rfl,z,q⟩:=h;obtain⟨u,rfl,f⟩:=vf r;cases f;have g:=J7;rcases z with z | z
 ·obtain⟨d,a,O,e⟩:=I.list z
  have U:=a.length;exact Calls.call_len_list O.isList (by simp only[MZ]<;>omega) ⟨.int ys.length,H,I.tok _,⟨s.toks+1,by rw[MZ,U]⟩,q⟩
 ·obtain⟨d,a,O,e⟩:=I.tuple z
  have U:=a.length;exact len_tuple O (by simp only[MZ]<;>omega) ⟨.int ys.length,H,I.tok _,⟨s.toks+1,by rw[MZ,U]⟩,q⟩
theorem Vm:ZV X (.builtin "len") (λxs H Q=>∃z,xs=[.str z]/\z.length<=ej/\Q (.int z.length) H):=by intro a s e H xs d Q I r h;obtain⟨z,rfl,O,q⟩:=h;obtain⟨u,rfl,t,rfl⟩:=vf r;have b:=J7;exact len_str ⋯ ⟨.int z.length,H,I.tok _,⟨_,rfl⟩,q⟩
theorem Vl:ZV X (.type "list") (λxs H Q=>∃p ys,xs=[.ref p]/\(eU X.K H p ys\/ft X.K H p ys)/\∀l,H l=none->Q (.ref l) (upd H l (.lst ys))):=by
 intro i s C H xs E Q I r h;obtain⟨p,ys,rfl,U,q⟩:=h;obtain⟨u,rfl,B⟩:=vf r;cases B;have x : ∀(z:List dj),d9 ys z->ys.length<=ej->∀(a:eg) (O:Nat),(∀b y,s.heap.get? b=bQ y->a.get? b=bQ y)->
  a.get? s.heap.objs.size=bQ {cls:= .type "list",dict:=none,data:= .seq z.toArray O,slots:=#[]}->EP X i C Q (.ref s.heap.objs.size) {s with heap:=a}:=λz d f a O g e=>
  ⟨.ref s.heap.objs.size,_,I.laid (t':=s.toks) g (MY _) (show i5 X.prog X.w _ a _ (.lst ys)from⟨f,z,O,d,e⟩),rfl,q _<|I.eo.fresh<|MY _⟩
 rcases U with U | U
 ·obtain⟨z,d,t,f⟩:=I.list U
  have A:=d.length;obtain⟨o,m,j,n,k⟩:=t.isList;exact call_list_seq p (.inl rfl) m j k (λa O g e=>x z d f a O g e) (by simp only[MZ]<;>omega)
 ·obtain⟨z,d,t,f⟩:=I.tuple U
  have A:=d.length;obtain⟨o,m,j,n,k⟩:=t;exact call_list_seq p (.inr rfl) m j k (λa O g e=>x z d f a O g e) (by simp only[MZ]<;>omega)
theorem KS:ZV X (.type "tuple") (λxs H Q=>∃p ys,xs=[.ref p]/\((eU X.K H p ys/\∀l,H l=none->Q (.ref l) (upd H l (.tup ys)))\/(ft X.K H p ys/\Q (.ref p) H))):=by
 intro a s j H xs x Q I r h;obtain⟨p,ys,rfl,h⟩:=h;obtain⟨u,rfl,n⟩:=vf r;cases n;rcases h with⟨z,q⟩ | ⟨z,q⟩
 ·obtain⟨O,f,U,i⟩:=I.list z
  have t:=f.length;refine call_tuple_list U.isList (λd m=>?_) (by simp only[MZ]<;>omega);have g:Inv X a j H {s with heap:=d}:=I.kept (t':=s.toks) m;have k:Inv X a j (upd H d.objs.size (.tup ys)) {s with heap:=d.push {cls:= .type "tuple",data:= .seq O.toArray}}:=
   g.laid (t':=s.toks) (λb o e=>MT _ e) (MY _) (show i5 X.prog X.w _ _ _ (.tup ys)from⟨i,O,f,u4.new _ _⟩)
  exact⟨.ref d.objs.size,_,k,rfl,q _<|g.eo.fresh<|MY _⟩
 ·obtain⟨O,f,U,i⟩:=I.tuple z
  exact call_tuple_same U ⟨.ref p,H,I,rfl,q⟩
noncomputable def Xk(K:MP)(T:String)(x:V)(H:Hp):Prop:=match x with
 | .str _=>T = "str"
 | .int _=>T = "int"
 | .ref p=>(T = "list"/\∃b,eU K H p b)\/(T = "tuple"/\∃o,K.lookup p=bQ o/\o.cls = .type "tuple"/\o.dict=none)\/
  (T = "dict"/\((∃a,H p=bQ (.dK a))\/∃a,H p=bQ (.dT a)))\/(T = "set"/\∃S n,H p=bQ (.set S n))
 | _=>False
theorem AE(I:Inv X pins σ H s)(r:RelV x v)(ty:Xk X.K T x H) :
 s.TypeIs v T/\∀a,v = .ref a->∃C,s.heap.get? a=bQ C/\C.dict=none:=by
 cases x with
 | str z=>
  obtain⟨t,rfl⟩:=r;cases (show T = "str" from ty);exact⟨a_ s z t,λ_ e=>nomatch e⟩
 | int i=>
  obtain⟨t,rfl⟩:=r;cases (show T = "int" from ty);exact⟨Uh s i t,λ_ e=>nomatch e⟩
 | ref p=>
  cases r;rcases ty with⟨rfl,l,j⟩ | ⟨rfl,o,O,h,d⟩ | ⟨rfl,O⟩ | ⟨rfl,S,n,O⟩
  ·obtain⟨k,_,g,_⟩:=I.list j
   refine⟨g.isList.typeIs,λa e=>?_⟩;cases e;obtain⟨o,n,e,c,d,_⟩:=g;exact⟨o,e,d⟩
  ·refine⟨⟨o,I.l6 p o O,h⟩,λa e=>?_⟩
   cases e;exact⟨o,I.l6 _ o O,d⟩
  ·have z : ∃o,s.heap.get? p=bQ o/\o.ExactDict:=by
    rcases O with⟨f,O⟩ | ⟨f,O⟩
    ·obtain⟨_,_,_,_,o,_,_,e,b,_⟩:=I.eo p _ O
     exact⟨o,e,b⟩
    ·obtain⟨_,_,_,_,o,_,_,e,b,_⟩:=I.eo p _ O
     exact⟨o,e,b⟩
   obtain⟨o,e,b⟩:=z;refine⟨⟨o,e,b.1⟩,λa U=>?_⟩;cases U;exact⟨o,e,b.2.1⟩
  ·obtain⟨o,_,_,_,e,b,_⟩:=I.eo p _ O
   refine⟨⟨o,e,b.1⟩,λa U=>?_⟩;cases U;exact⟨o,e,b.2.1⟩
 | _=>exact Pk ty
noncomputable def U4(K:MP)(T:String)(r:V->List V->Hp->VK->Prop)(to:TE)(t:TA):TE:=λb H Q=>to b H λx a=>Xk K T x a/\t b a λe d=>r x e d Q
variable{o e:dt}{es:List dt}{to:TE}{t:TA}{name:Str}{apos cpos:fh}{T id:String}{r:V->List V->Hp->VK->Prop}
theorem bJ(pa:PlainAttrs T)(C:Slot T name id)(J:typeOf (.builtin id)=pure (.type "method_descriptor"))(hm:Ol X id r)(ho:PE X o to)(ha:PA X (e::es) t)
 (L:DE o name X.env (dv o X.env)=dv o X.env:=by rfl)
 (S:((n6 cpos<|starEach (e::es) X.env).all (λx=> !x.1) && (DF cpos<|keywordEach [] X.env).all (λx=>x.1.isSome)
   && decide ((e::es).length+([]:List qs).length+(if ([]:List qs).isEmpty then 0 else 1)<30))=bX:=by rfl)
 (Y:(apos.endLine==cpos.line)=bX:=by rfl) (hs:el (e::es) X.env=(cE,dv e X.env)::el es X.env:=by rfl) (Z:(n6 cpos<|starEach es X.env).any (·.1)=cE:=by rfl) :
 PE X (.Call (.Attribute o name apos) (e::es) [] cpos) (U4 X.K T r to t):=by
 intro a s b H Q I h;refine wpAny_Call_method_late L S Y rfl<|ea (ho a s b H _ I h) λv p k=>?_;obtain⟨x,d,z,O,ty,l⟩:=k;obtain⟨i,j⟩:=AE z O ty;refine⟨T,id,pa,C,J,i,j,?_⟩;have U:=ha cpos a p b d _ z l;rw[hs]at U ⊢;refine Calls.callWith_builtin (by show(cE || (n6 cpos<|starEach es X.env).any (·.1))=cE;rw[Z]<;>rfl)<|Calls.evalArgs_plain ?_;exact ea U λw u ⟨y,f,g,n,m⟩=>hm a u b f x y v w Q g O n m
end
noncomputable def G6(X:Cx)(id:String)(r:V->List V->Hp->VK->Prop):Prop:=
 ∀(a:UQ) (s:dy) (e:St) (H:Hp) (x:V) (d:List V) (v:dj) (b:List dj) (Q:VK),Inv X a e H s->RelV x v->d9 d b->r x d H Q->
  wpAny (d6 X.prog X.w) X.A (call (.builtin id) (v::b)) (EP X a e Q) X.xe s
theorem d9.one : ∀{x:V} {us:List dj},d9 [x] us->∃u,us=[u]/\RelV x u
 | _,_,.cons r .nil=>⟨_,rfl,r⟩
theorem d9.two : ∀{x y:V} {us:List dj},d9 [x,y] us->∃u v,us=[u,v]/\RelV x u/\RelV y v
 | _,_,_,.cons r (.cons q .nil)=>⟨_,_,rfl,r,q⟩
theorem d9.dropLast(h:d9 xs us):d9 xs.dropLast us.dropLast:=by
 induction h with
 | nil=>exact .nil
 | cons r t z=>
  cases t with
  | nil=>exact .nil
  | cons q a=>exact .cons r z
theorem d9.eraseIdx : ∀{xs:List V} {us:List dj} (i:Nat),d9 xs us->d9 (xs.eraseIdx i) (us.eraseIdx i)
 | _,_,_,.nil=> .nil
 | _,_,0,.cons _ t=>t
 | _,_,i+1,.cons r t=> .cons r (d9.eraseIdx i t)
theorem d9.rep(h:d9 xs us) : ∀k:Nat,d9 (MV k xs).flatten (MV k us).flatten
 | 0=> .nil
 | k+1=>by rw[Pb,Pb,PU,PU];exact d9.append h<|d9.rep h k
theorem YW{C:Type} : ∀(l:List C) (i:Nat),(l.eraseIdx i).length<=l.length
 | [],_=>MY _
 | _::_,0=>D6 _
 | _::r,i+1=>Nat.succ_le_succ<|YW r i
theorem QE(z:List dj) : ∀(k:Nat) (acc:List dj),
 TJ (λx1 I=>x1++I) acc.toArray (MV k z.toArray)=(acc++(MV k z).flatten).toArray
 | 0,acc=>by simp
 | k+1,acc=>by
  have e:acc.toArray++z.toArray=(acc++z).toArray:=by simp
  have O:(acc++z)++(MV k z).flatten=acc++(MV (k+1) z).flatten:=by rw[Pb,PU,List.append_assoc]
  rw[<- O,<- QE z k (acc++z),<- e,Pb,List.foldl_cons]
section
variable{X:Cx}{pins:UQ}{σ:St}{H:Hp}{s:dy}{l b:di}{xs ys zs:List V}
theorem Inv.E6{z its':List dj}{n:Nat}{f:Array dj->Array dj}{t':Nat}(I:Inv X pins σ H s)(O:H l=bQ (.lst xs))
 (e:s.heap.get? l=bQ {cls:= .type "list",data:= .seq z.toArray n}) (U:f z.toArray=its'.toArray) (C:d9 ys its') (J:ys.length<=ej) :
 Inv X pins σ (upd H l<|.lst ys) {s with heap:=s.heap.update l<|Ot f,toks:=t'}:=by
 have q:=PySem.IsL.update e f;rw[U]at q;refine I.write (x:=l) (e:=l) (by rw[O];exact trivial) (.inl rfl) (λd u a b=>(Ow s.heap (Ot f)<|Oa a).trans b) ⟨_,q⟩ ?_;exact⟨J,its',_,C,q⟩
theorem Inv.UE(I:Inv X pins σ H s)(O:d9 ys z)(U:ys.length<=ej) :
 Inv X pins σ (upd H s.heap.objs.size (.lst ys)) {s with heap:=s.heap.push {cls:= .type "list",data:= .seq z.toArray},toks:=t'}:=
 I.laid (λ_ _ q=>MT _ q) (MY _) ⟨U,z,0,O,Nm _ rfl⟩
theorem Inv.fresh(I:Inv X pins σ H s):H s.heap.objs.size=none:=I.eo.fresh<|MY _
theorem Inv.vr(I:Inv X pins σ H s)(U:H l=bQ (.lst xs)):xs.length<=ej/\∃(O:List dj) (n:Nat),d9 xs O/\xs.length=O.length/\s.heap.get? l=bQ {cls:= .type "list",data:= .seq O.toArray n}:=by obtain⟨z,O,n,r,e⟩:=I.eo l _ U;exact⟨z,O,n,r,r.length,e⟩
theorem W9(h:n<=ej):PN n=cE:=by unfold PN;exact decide_eq_false ⋯
end
section
variable{X:Cx}
noncomputable def eB:V->List V->Hp->VK->Prop:=λx b H Q=>∃l a y,x = .ref l/\b=[y]/\H l=bQ (.lst a)/\a.length<ej/\Q .d7 (upd H l<|.lst<|a++[y])
theorem fQ:G6 X "list.append" eB:=by intro a s o H x k v j Q I f d h;obtain⟨l,m,y,rfl,rfl,O,i,q⟩:=h;cases f;obtain⟨u,rfl,b⟩:=d.one;obtain⟨z,U,n,r,g,e⟩:=I.vr O;refine Px F.slot_list_append ⟨_,e,rfl⟩ F.entry_list_append (F.args_list_append_2 _ _) (PySem.list_append l U.toArray n u (by rw[MZ];omega)) ⟨e,?_⟩;refine⟨.d7,_,I.E6 (its':=U++[u]) O e ⋯ (r.append (.cons b .nil)) ?_,rfl,q⟩;rw[NO,RG];omega
noncomputable def sW:V->List V->Hp->VK->Prop:=λx e H Q=>∃l b a d,x = .ref l/\e=[.ref b]/\H l=bQ (.lst a)/\H b=bQ (.lst d)/\a.length+d.length<=ej/\Q .d7 (upd H l<|.lst<|a++d)
theorem fO:G6 X "list.extend" sW:=by
 intro f s K H x C v B Q I t p h;obtain⟨l,b,E,J,rfl,rfl,d,j,A,q⟩:=h;cases t;obtain⟨u,rfl,o⟩:=p.one;cases o;obtain⟨z,O,n,r,y,e⟩:=I.vr d;obtain⟨G,U,k,m,w,i⟩:=I.vr j;have a:O.toArray.size+U.toArray.size<=ej:=by rw[MZ,MZ];omega
 have g : ¬(!O.toArray.isEmpty && PN (O.toArray.size+U.toArray.size))=bX:=by rw[W9 a,Bool.and_false];exact Nw
 refine Px F.slot_list_extend ⟨_,e,rfl⟩ F.entry_list_extend (F.args_list_extend_2 _ _)
  (AutoSeq1.list_extend_list_list_0 l O.toArray n b U.toArray k g (by rw[MZ];omega) ⋯) ⟨e,i,?_⟩
 refine⟨.d7,_,I.E6 (its':=O++U) d e ⋯ (r.append m) ?_,rfl,q⟩;rw[NO];omega
noncomputable def Bw:V->List V->Hp->VK->Prop:=λx b H Q=>∃l a i k y,x = .ref l/\b=[.int i]/\H l=bQ (.lst a)/\ -(2 ^ 63)<=i/\i<2 ^ 63/\seqIndex? i a.length=bQ k/\a[k]? = bQ y/\Q y (upd H l<|.lst<|a.eraseIdx k)
theorem ny:G6 X "list.pop" Bw:=by
 intro a s J H x G v E Q I B A h;obtain⟨l,C,i,k,y,rfl,rfl,U,d,f,g,o,q⟩:=h;cases B;obtain⟨u,rfl,p⟩:=A.one;obtain⟨t,rfl⟩:=p;obtain⟨z,O,n,r,j,e⟩:=I.vr U;obtain⟨w,m,b⟩:=r.get o;refine Px F.slot_list_pop ⟨_,e,rfl⟩ F.entry_list_pop (F.args_list_pop_2 _ _)
  (MeetsSeq.list_pop_at l O.toArray n i t k w (fitsIndex_both d f) (by rw[MZ,<- j];exact g) (by rw[<- Array.getElem?_toList];exact m)<|by rw[MZ];omega) ⟨e,?_⟩
 refine⟨y,_,I.E6 (its':=O.eraseIdx k) U e ?_ (r.eraseIdx k) ?_,b,q⟩
 ·show O.toArray.eraseIdxIfInBounds k=(O.eraseIdx k).toArray
  rw[List.eraseIdxIfInBounds_toArray]
 ·have:=YW C k
  omega
noncomputable def Mb:R2:=λx y H Q=>∃l k a,x = .ref l/\y = .int k/\H l=bQ (.lst a)/\ -(2 ^ 63)<=k/\k<2 ^ 63/\a.length*k.toNat<=ej/\
 ∀p,H p=none->Q (.ref p) (upd H p<|.lst (MV k.toNat a).flatten)
theorem V5(xs:List α)(k:Nat):(MV k xs).flatten.length=k*xs.length:=by
 induction k with
 | zero=>simp
 | succ k z=>rw[Pb,PU,NO,z,SV,TQ]
theorem Cn:gB X (ro .Mult) Mb:=by
 intro f s N H x y v u Q I G J h;obtain⟨l,k,M,rfl,rfl,C,A,B,d,q⟩:=h;cases G;obtain⟨t,rfl⟩:=J;obtain⟨z,O,n,r,E,e⟩:=I.vr C;have g:O.toArray.size*k.toNat<=ej:=by rw[MZ,<- E];exact d
 have i : ¬O.toArray.size*k.toNat>(2 ^ 63 - 1)/8:=by
  have:(ej:Nat)<=(2 ^ 63 - 1)/8:=by decide
  omega
 have j : ¬(!Builtin.List.listFitsIndex k)=bX:=by rw[fitsIndex_both A B];exact Nw
 have o : ¬PN (O.toArray.size*k.toNat)=bX:=by rw[W9 g];exact Nw
 have p:TJ (λx1 b=>x1++b) #[] (MV (if O.toArray.isEmpty=bX then 0 else k.toNat) O.toArray)=(MV k.toNat O).flatten.toArray:=by
  have w : ∀m:Nat,TJ (λx1 b=>x1++b) #[] (MV m O.toArray)=(MV m O).flatten.toArray:=λm=>by have:=QE O m [];rw[RQ]at this;exact this
  rw[w];cases O with
  | nil=>simp
  | cons a L=>rw[UY ⋯]
 refine _e (T:="list") (U:="int") ⋯ ⟨_,e,rfl⟩ (λK=>Uh K k t) noFill_list_mul F.fills_int_mul Th repeat_list F.slot_int_index.lookup
  (Px Th (Uh s k t) F.entry_int_rmul (F.args_int_rmul_2 _ _) (int___rmul___int_list k t l O.toArray n)
    ⟨e,rfl,⟨_,e,rfl⟩,Px F.slot_list_mul ⟨_,e,rfl⟩ F.entry_list_mul (F.args_list_mul_2 _ _) (AutoListH.list___mul___list_int_3 l O.toArray n k t j i o) ⟨e,?_⟩⟩)
 rw[p];exact⟨.ref _,_,I.UE (t':=s.toks) (r.rep k.toNat) (by rw[V5,Ph];exact d),rfl,q _ I.fresh⟩
end
end L2
namespace Att
open PySem PySem.W PySem.Calls PyProof.Rows
theorem QA : ∀(C:List Int) (vs:List dj),WellAll P h vs (C.map WData.int)->G5 vs C:=by
 intro C
 induction C with
 | nil=>
  intro vs w;rw[SN]at w;cases w;exact .nil
 | cons n C z=>
  intro vs w;rw[Nt]at w;cases w with
  | cons a b=>
   cases a;exact .cons _ _<|z _ b
theorem dM{l:OpenLaw}{n:Nat}(L:l.most=bQ n){P:Params}{h:eg}{args:List WData}{O:List dj}
 (U:l.row.toRowW.claim.pre args=bX) (J:WellAll P h O args) :
 ∃a vs C,O=[OK a]/\args=[WData.list (C.map WData.int)]/\h.get? a=bQ {cls:= .type "list",data:= .seq vs.toArray}/\G5 vs C/\C.length<=n:=by
 have e:WShape.hasAll [] args [.list .int]=bX:=(pre_splitW U).1;have b:l.pre.holds [] {args:=args}=bX:=(pre_splitW U).2;obtain⟨d,r,rfl,i,j⟩:=hasAllW_cons e;obtain rfl:=hasAllW_nil j;obtain⟨t,rfl,k⟩:=hasW_list i;obtain⟨C,rfl⟩:=items_int k;have f:C.length<=n:=by
  unfold OpenLaw.pre at b;have z:(WTm.not<|.lt (.lit<|.int (n:Int))<|.len<|.arg 0).holds [] {args:=[.list (C.map .int)]}=bX:=by have z:=(holds_andW b).1;rw[L]at z;exact z
  have I:=condW_of z<|w_not<|w_lt w_lit<|w_len_list<|w_arg rfl;rw[Nf]at I;refine Nat.le_of_not_lt λq=>?_;have o:(n:Int)<((C.length:Nat):Int):=by omega
  first
   | (rw[decide_eq_true o]at I;exact absurd I ⋯)
   | (simp at I;omega)
 cases J with
 | cons p s=>
  cases s;cases p with
  | list m g=>exact⟨_,_,C,rfl,rfl,m,QA C _ g,f⟩
theorem eZ(l:OpenLaw)(args:List WData):l.row.toRowW.claim.post args (.bool bX) args=bX:=
 postW_of (r:=l.row.toRowW) (X:=(bX==bX))
  (show WShape.has [] (.bool bX) .bool=bX by first | rfl | decide | simp[WShape.has,WShape.arms,WShape.armsAll])
  (show(WTm.eq .res<|.lit<|.bool bX).value [] {args:=args,res:=bQ (.bool bX),after:=args}=bQ (.bool<|true==bX)from w_eq_bool (w_res rfl) w_lit) rfl
theorem uW{l:OpenLaw}{n:Nat}{q:hG}{O:List Str}{U:(Str->Option dj)->eg->Prop}{YP:f9->eg->Prop}{d:DefRec}
 (hn:l.most=bQ n) (a2:d.params.defaults=[])
 (call : ∀(w:f9) (m1 z:dy) (L mb:UZ) (J:di) (o:m5) (pm I C:dj) (a:di) (vs:List dj) (S:List Int),
   Ground q O [] U w m1 L mb z.heap->YP w z.heap->
   z.heap.get? J=bQ o->o.data = .func (docDef d.name d.params d.body d.scope pm I C)->z.heap.CodeRec I d.name->L d.name=bQ (.ref J)->
   z.heap.get? a=bQ {cls:= .type "list",data:= .seq vs.toArray}->G5 vs S->S.length<=n->z.gens = #[]->
   codeAny (d6 l.prog w) Dq (.call (.ref J) ⟨[.ref a],[]⟩) (λr Z=>r = .ok (.ret<|.bool bX)/\OldK z.heap Z.heap/\Z.os=z.os/\B5 Z.gens) z) :
 WalkO q O U YP l.row.toRowW d [] (λf vs=>PySem.call f vs):=by
 intro w m1 z L mb G Y J o pm I C s kV E y g e h A b H as i K M j N;obtain rfl:s = .none:=Dflts.none e a2;obtain rfl:kV = .none:=Dflts.noKw e;obtain⟨a,vs,S,rfl,rfl,k,m,p⟩:=dM hn i j;refine enter_call<|Tn (call w m1 z L mb J o pm I C a vs S G Y E (fd_plain y) g h k m p A) λr Z F=>?_;obtain⟨rfl,t,u,x⟩:=F;exact⟨.inl ⟨.bool bX,.bool bX,[],rfl,λ_=>rfl,.bool bX,eZ l _,λ_=>⟨PY.nil,λ_ B=>(nomatch B)⟩⟩,t,u,x⟩
end Att
namespace L2
open PySem PySem.Spec PyProof.Rows
theorem wL : ∀{vs:List dj} {C:List Int},G5 vs C->d9 (C.map V.int) vs
 | _,_,.nil=> .nil
 | _,_,.cons n t h=> .cons ⟨t,rfl⟩ (wL h)
noncomputable def FO(H:Hp):Prop:=∀b,H b=none\/∃o a,H b=bQ (.qi o<|.lst a)
theorem nF{P:hG}{w:f9}{K:MP}{J Z:UZ}{CX:rb}{k:Nat}{Y a:di}{fd:oe}{x:Str}{sp:Sp}{I:dy}{vs:List dj}{L:List Int}
 (KX:K.In I.heap) (a4:I.heap.Ns tr J) (O:I.heap.Ns Ur Z) (ac : ∀x:Str,x ≠ "__name__"->Z x=C1 x) (ae:I.heap.NoLimit) (hg:I.gens = #[])
 (S:I.heap.get? a=bQ {cls:= .type "list",data:= .seq vs.toArray}) (hi:G5 vs L) (hl:L.length<=ej) (hr:l8 k Dq)
 (F : ∀base:eg,K.In base->base.Ns tr J->n9 P w K J base CX k Y fd [x] sp) (an : ∀(s:dy) (u:dj),Gx s fd ⟨[u],[]⟩ [(x,u)])
 (ap : ∀H:Hp,FO H->eU K H a (L.map V.int)->sp [.ref a] H (λv _=>v = .bl bX) λ_ _ _=>False)
 (as : ∀H e C,CX [] H I (λ_ _ _=>False) e C->False) :
 codeAny (d6 P w) Dq (.call (.ref Y) ⟨[.ref a],[]⟩) (λr C=>r = .ok (.ret<|.bool bX)/\OldK I.heap C.heap/\C.os=I.os/\B5 C.gens) I:=by
 have G:=wL hi;have M:=hi.length;have t : ∀H:Hp,FO H->eU K H a (L.map V.int)->i7 P w H I.heap->(∀b,H b≠none->b=a)->(H a≠none->K.lookup a=none)->
  codeAny (d6 P w) Dq (.call (.ref Y) ⟨[.ref a],[]⟩) (λr C=>r = .ok (.ret<|.bool bX)/\OldK I.heap C.heap/\C.os=I.os/\B5 C.gens) I:=by
  intro H E hS j B hK;have f : ∀{b:di} {o:m5},I.heap.get? b=bQ o->H b=none->(nQ I.heap H).get? b=bQ o:=λe n=>nP e n;have b6 : ∀{b:di} {o:m5} {i:Array DictEntry} {U:Nat},I.heap.get? b=bQ o->o.data = .dict i U->H b=none:=λ{b o i U} e d=>by
   cases q:H b with
   | none=>rfl
   | some u=>
    have p:b=a:=B b (by rw[q];simp);subst p;rw[S]at e;cases e;have Q:Data.seq vs.toArray _=Data.dict i U:=d;cases Q
  have a1 : ∀{b:di} {m:UZ},I.heap.Ns b m->(nQ I.heap H).Ns b m:=λ{b m} ⟨o,i,U,e,d,r⟩=>⟨o,i,U,f e<|b6 e d,d,r⟩;have y:K.In (nQ I.heap H):=λb o e=>f (KX b o e) (by
   cases q:H b with
   | none=>rfl
   | some u=>
    have p:b=a:=B b (by rw[q];simp);subst p;rw[hK (by rw[q];simp)]at e;cases e)
  have hM:Mod K J (nQ I.heap H):=⟨y,a1 a4,⟨Z,a1 O,ac⟩,let ⟨mc,X,h2⟩:=ae;⟨mc,a1 X,h2⟩⟩;have R:xb P w K J (nQ I.heap H) Dq [] I H:=⟨rfl,hM,λb o e=>uh e,Nat.le_of_eq<|gF _ _,trivial,λb O=>absurd (show b∈([]:List di)from O) ⋯,j,.of_eq hg⟩;refine Tn ((F _ y<|a1 a4).run Dq [] I H ⟨[.ref a],[]⟩ [.ref a] [.ref a] _ _ hr R (an I<|.ref a) (.cons rfl .nil) (ap H E hS)) λr C h=>?_;cases r with
  | error e=>exact(as H e C h).elim
  | ok W=>
   cases W with
   | next=>exact Pk h
   | brk=>exact Pk h
   | cont=>exact Pk h
   | ret u=>
    obtain⟨v,H',os,g,un,N,r',q⟩:=h;have q':v = .bl bX:=q;subst q';obtain rfl:u=Value.bool bX:=r';refine⟨rfl,OldK.of_keep λb o e=>?_,os,g⟩;cases q:H b with
    | none=>exact un.keep b o e q (by intro z;exact absurd (show b∈([]:List di)from z) ⋯) ⋯
    | some u=>
     rcases E b with z | ⟨ob,xs,z⟩
     ·rw[q]at z;cases z
     ·have z2:=un.C7 b ob _ z
      obtain⟨A,_⟩:=j b _ z;obtain⟨T,_⟩:=N b _ z2;rw[e]at A;cases A;exact T
 cases hk:K.lookup a with
 | some o=>
  have e:=KX a o hk;rw[S]at e;cases e;refine t (λ_=>none) (λ_=> .inl rfl) (.inr ⟨_,vs.toArray,_,hk,rfl,rfl,rfl,by rw[MZ,M];exact hl,by simpa using G⟩) (λb u z=>by have l:(none:Option HO)=bQ u:=z;cases l) (λb z=>absurd rfl z) λz=>absurd rfl z
 | none=>
  refine t (λb=>if b=a then bQ (.qi {cls:= .type "list",data:= .seq vs.toArray} (.lst (L.map V.int)))else none) (λb=>?_) (.inl (.inr ⟨{cls:= .type "list",data:= .seq vs.toArray},UJ rfl⟩)) (λb u z=>?_) (λb z=>?_) λ_=>hk
  ·by_cases O:b=a
   ·exact .inr ⟨_,_,UJ O⟩
   ·exact .inl<|UY O
  ·by_cases O:b=a
   ·have l:=(UJ O).symm.trans z
    cases l;subst O;exact⟨S,by rw[Nf];exact hl,vs,_,G,S⟩
   ·have l:=(UY O).symm.trans z
    cases l
  ·by_cases O:b=a
   ·exact O
   ·exact absurd (UY O) z
abbrev Uk{K:MP}{h:eg}(_:K.In h):MP:=K
theorem rj{l:PySem.W.OpenLaw}{n k:Nat}{q:hG}{U:List Str}{XP:(Str->Option dj)->eg->Prop}{z:f9->eg->Prop}{d:DefRec}{K:Params->MP}{CX:f9->rb}{sp:f9->Sp}{x:Str}
 (hn:l.most=bQ n) (a1:n<=ej) (a2:d.params.defaults=[]) (hr:l8 k Dq)
 (hY : ∀(w:f9) (h:eg),z w h->(K w.params).In h)
 (F : ∀(w:f9) (C:UZ) (J:di) (h:eg),(K w.params).In h->h.Ns tr C->C d.name=bQ (.ref J)->
   ∃S:oe,(∀(s:dy) (u:dj),Gx s S ⟨[u],[]⟩ [(x,u)])/\
    ∀base:eg,(K w.params).In base->base.Ns tr C->n9 l.prog w (K w.params) C base (CX w) k J S [x] (sp w))
 (a5 : ∀(w:f9) (H:Hp) (a:di) (L:List Int),L.length<=n->FO H->eU (K w.params) H a (L.map V.int)->sp w [.ref a] H (λv _=>v = .bl bX) λ_ _ _=>False)
 (a6 : ∀(w:f9) (H:Hp) (s:dy) (e:dj) (Z:dy),CX w [] H s (λ_ _ _=>False) e Z->False) :
 PySem.W.WalkO q U XP z l.row.toRowW d [] (λf vs=>PySem.call f vs):=by
 refine Att.uW hn a2 λw j i C X J o pm P t a vs L G Y R Q N m p r I M=>?_;have O:=hY w _ Y;obtain⟨S,E,y⟩:=F w C J _ O G.T.g m;exact nF O G.T.g G.T.b G.T.builtins G.T.nolimit M p r (NZ I a1) hr y E (λH A B=>a5 w H a L I A B) λH e Z=>a6 w H i e Z
theorem EO{l:PySem.W.OpenLaw}{n k:Nat}{q:hG}{I:List Str}{O:(Str->Option dj)->eg->Prop}{z:f9->eg->Prop}{d:DefRec}{K:Params->MP}{CX:rb}{sp:MP->Sp}{x:Str}
 (hn:l.most=bQ n) (U:n<=ej) (Z:d.params.defaults=[]) (hr:l8 k Dq)
 (hY : ∀(w:f9) (h:eg),z w h->(K w.params).In h)
 (F : ∀(w:f9) (C:UZ) (S:di) (h:eg),(K w.params).In h->h.Ns tr C->C d.name=bQ (.ref S)->
   ∃Y:oe,(∀(s:dy) (u:dj),Gx s Y ⟨[u],[]⟩ [(x,u)])/\
    ∀base:eg,(K w.params).In base->base.Ns tr C->n9 l.prog w (K w.params) C base CX k S Y [x] (sp<|K w.params))
 (a3 : ∀(K:MP) (H:Hp) (a:di) (J:List Int),J.length<=n->FO H->eU K H a (J.map V.int)->sp K [.ref a] H (λv _=>v = .bl bX) λ_ _ _=>False)
 (a4 : ∀(H:Hp) (s:dy) (e:dj) (L:dy),CX [] H s (λ_ _ _=>False) e L->False) :
 PySem.W.WalkO q I O z l.row.toRowW d [] (λf vs=>PySem.call f vs):=
 rj (K:=K) (CX:=λ_=>CX) (sp:=λw=>sp<|K w.params) hn U Z hr hY F (λw H a J b g i=>a3 (K w.params) H a J b g i) λ_ H s e L=>a4 H s e L
noncomputable def QG(s:iQ):Arguments:=match s with
 | .FunctionDef _ a _ _ _ _ _ _ _ _=>a
 | _=>{posonlyargs:=[],args:=[],vararg:=none,kwonlyargs:=[],kw_defaults:=[],kwarg:=none,defaults:=[]}
noncomputable def yW(s:iQ):List iQ:=match s with
 | .FunctionDef _ _ b _ _ _ _ _ _ _=>b
 | _=>[]
noncomputable def jL(s:iQ):fA:=match s with
 | .FunctionDef _ _ _ _ _ _ a _ _ _=>a
 | _=>{kind:= .function,names:=[],isGenerator:=cE,isCoroutine:=cE}
abbrev o6:rb:=λ_ _ _ _ _ _=>False
abbrev E0:XK:=λ_ _ _=>False
theorem Cg:iS o6 X E0:=λ_ _ _ _ _ _ _ h=>h.elim
structure Dh(K:MP)(x qual:Str)(st:iQ)(f:di)(fd:oe):Prop where
 ex : ∃(oc:dj) (od:Option di) (kV doc pm:dj) (an:Option di) (Us ct:dj) (Se:Array (Option dj)),
  fd=Ry x qual (QG st) (yW st) (jL st) .none kV doc pm an Us ct/\K.lookup f=bQ ⟨oc,od,.func fd,Se⟩/\SM K Us qual=bX
 kp:RW K (.ref f)=bX
section
variable{P:hG}{w:f9}{K:MP}{mg:UZ}{base:eg}
theorem Dh.ok{x qual:Str}{st:iQ}{f:di}{J:oe}{N ps:List Str}{k:Nat}{sp:Sp}(F:Dh K x qual st f J)(S:D0 N ps (jL st))(len : ∀vs H Q E,sp vs H Q E->vs.length=ps.length)
 (z : ∀(C:dj) (A:l7) (outer:List m4) (s:dy) (H:Hp) (vs:List V) (Q:VK) (E:XK),l8 k (A.deeper<|envOfC qual (jL st) s.heap.objs.size f C)->sp vs H Q E->
   ∃t,o8 (uL o6 P w K mg base N qual (jL st) f C A outer s H E).E9 (yW st) t/\t {nx:=λ_ H'=>Q .d7 H',rt:=Q} (Ka N vs) H):n9 P w K mg base o6 (k+1) f J ps sp:=by
 obtain⟨g,i,kV,a,j,d,C,e,b,rfl,lk,I⟩:=F.ex;refine Hq lk I S len λA outer s H vs Q E O U=>?_;obtain⟨t,h,q⟩:=z C A outer s H vs Q E O U;exact⟨t,h.E9,q⟩
theorem Ec{x qual:Str}{st:iQ}{f:di}{S:dj}{Y L:Option di}{J:Array (Option dj)}{kV I O C ct:dj}(l:K.lookup f=bQ ⟨S,Y,.func<|Ry x qual (QG st) (yW st) (jL st) .none kV I O L C ct,J⟩)
 (c:SM K C qual=bX) (k:RW K (.ref f)=bX):Dh K x qual st f (Ry x qual (QG st) (yW st) (jL st) .none kV I O L C ct):=⟨⟨S,Y,kV,I,O,L,C,ct,J,rfl,l,c⟩,k⟩
end
noncomputable def eM(H H':Hp):Prop:=∀b o,H b=bQ o->H' b=bQ o
theorem eM.refl(H:Hp):eM H H:=λ_ _ h=>h
theorem eM.trans(a:eM H H1)(b:eM H1 H2):eM H H2:=λc o h=>b c o<|a c o h
theorem eM.free(e:eM H H')(h:H' l=Option.none):H l=Option.none:=by
 cases q:H l with
 | none=>rfl
 | some o=>
  rw[e l o q]at h;cases h
theorem eM.seq{K:MP}{H H':Hp}{a:di}{xs:List V}(e:eM H H')(h:eU K H a xs):eU K H' a xs:=by
 rcases h with(h | ⟨o,h⟩) | h
 ·exact .inl<|.inl<|e _ _ h
 ·exact .inl<|.inr ⟨o,e _ _ h⟩
 ·exact .inr h
noncomputable def K7(cells:List (Str×di)):List (Str×sm)->List (Str×di)->List (Str×di)
 | [],acc=>acc
 | (n,k)::r,acc=>K7 cells r<|if k==NA then (match cells.lookup n with | some c=>(n,c)::acc | none=>acc)else acc
theorem vE(f:Str×sm->List (Str×di)->Sem (ForInStep<|List<|Str×di))
 (I : ∀name kind O,f (name,kind) O=if kind==NA then (do let a <- cellOf env name;pure (.yield ((name,a)::O)))else pure (.yield O)) :
 ∀(names:List (Str×sm)) (acc:List (Str×di)),(∀n,(n,NA)∈names->∃c,env.cells.lookup n=bQ c)->
  forIn names acc f=(pure (K7 env.cells names acc):Sem _)
 | [],acc,_=>by rw[List.forIn_nil];rfl
 | (n,k)::r,acc,h=>by
  rw[List.forIn_cons,I];have U : ∀n,(n,NA)∈r->∃c,env.cells.lookup n=bQ c:=λm g=>h m<|Np _ g;unfold K7;by_cases z:(k==NA)=bX
  ·rw[UJ z,UJ z]
   have d:k=NA:=by simpa using z
   subst d;obtain⟨c,b⟩:=h n Nk;have e:cellOf env n=pure c:=by unfold cellOf;rw[b]
   rw[e,b];exact vE f I r _ U
  ·rw[UY z,UY z]
   exact vE f I r acc U
theorem KP(h : ∀n,(n,NA)∈scope.names->∃c,env.cells.lookup n=bQ c) :
 closureFor scope env=pure (K7 env.cells scope.names []):=by
 simp only[closureFor];rw[vE (env:=env) _ (λb a z=>by cases hk:a==NA<;>simp[hk]) scope.names [] h];rfl
theorem yn
 (z:Q {scope:=scope,locals:=s.heap.objs.size,globals:=globals,cells:=p8 (s.heap.objs.size+1) scope.names cl,qual:=qual,func:=none,code:=env.code,frame:=env.frame,builtins:=env.builtins}
   {s with heap:=C8 (s.heap.push {cls:= .type "dict",data:= .dict #[]}) scope.names}) :
 wpAny M A (UH scope globals cl [] qual none .none (bQ env)) Q E s:=by
 simp only[UH,Option.isSome_some,if_true];refine MQ (wpAny_alloc ?_);refine MQ (wpAny_layCells _ (λb a cells=>by cases M':a==Pn<;>simp[M']) _ _ _ _ ?_);rw[show({s with heap:=s.heap.push {cls:= .type "dict",data:= .dict #[]}}:dy).heap.objs.size=s.heap.objs.size+1 from NV ..];exact MQ (Na (Na z))
theorem ag : ∀{names:List (Str×sm)} {acc:List (Str×di)},(n,c)∈K7 cells names acc->(n,c)∈acc\/((n,NA)∈names/\cells.lookup n=bQ c)
 | [],acc,h=> .inl h
 | (m,k)::r,acc,h=>by
  unfold K7 at h;rcases ag h with g | ⟨h1,h2⟩
  ·clear h
   by_cases z:(k==NA)=bX
   ·rw[UJ z]at g
    have I:k=NA:=by simpa using z
    subst I;cases e:cells.lookup m with
    | none=>rw[e]at g;exact .inl g
    | some O=>
     rw[e]at g;rcases Nc.mp g with g | g
     ·cases g;exact .inr ⟨Nk,e⟩
     ·exact .inl g
   ·rw[UY z]at g;exact .inl g
  ·exact .inr ⟨Np _ h1,h2⟩
theorem J5 : ∀{names:List (Str×sm)} {acc:List (Str×di)},((acc.lookup n).isSome=bX\/((n,NA)∈names/\(cells.lookup n).isSome=bX))->((K7 cells names acc).lookup n).isSome=bX
 | [],acc,h=>by
  rcases h with h | ⟨h,_⟩
  ·exact h
  ·cases h
 | (m,k)::r,acc,h=>by
  unfold K7;apply J5;by_cases z:(k==NA)=bX
  ·rw[UJ z]
   have O:k=NA:=by simpa using z
   subst O;cases e:cells.lookup m with
   | none=>
    rcases h with h | ⟨h1,h2⟩
    ·exact .inl h
    ·rcases Nc.mp h1 with h1 | h1
     ·cases h1;rw[e]at h2;cases h2
     ·exact .inr ⟨h1,h2⟩
   | some U=>
    dsimp only;by_cases I:n=m
    ·subst I;left;simp
    ·rcases h with h | ⟨h1,h2⟩
     ·left;rw[Oc];split<;>simp_all
     ·rcases Nc.mp h1 with h1 | h1
      ·cases h1;exact absurd rfl I
      ·exact .inr ⟨h1,h2⟩
  ·rw[UY z]
   rcases h with h | ⟨h1,h2⟩
   ·exact .inl h
   ·rcases Nc.mp h1 with h1 | h1
    ·cases h1;exact absurd rfl z
    ·exact .inr ⟨h1,h2⟩
theorem kC : ∀{names:List (Str×sm)} {k:Nat} {acc:List (Str×di)},(n,c)∈p8 k names acc->(n,c)∈acc\/(k<=c/\(n,Pn)∈names)
 | [],_,_,h=> .inl h
 | (m,kd)::r,k,acc,h=>by
  unfold p8 at h;split at h
  ·rename_i z
   have I:kd=Pn:=by simpa using z
   subst I;rcases kC h with h | ⟨h1,h2⟩
   ·rcases Nc.mp h with h | h
    ·cases h;exact .inr ⟨MY _,Nk⟩
    ·exact .inl h
   ·exact .inr ⟨by omega,Np _ h2⟩
  ·rcases kC h with h | ⟨h1,h2⟩
   ·exact .inl h
   ·exact .inr ⟨h1,Np _ h2⟩
theorem yT : ∀{names:List (Str×sm)} {k:Nat} {acc:List (Str×di)},(∀p∈acc,∀q∈acc,p.2=q.2->p.1=q.1)->(∀p∈acc,p.2<k)->
 ∀p∈p8 k names acc,∀q∈p8 k names acc,p.2=q.2->p.1=q.1
 | [],_,_,h,_=>h
 | (m,kd)::r,k,acc,h,hl=>by
  unfold p8;split
  ·refine yT (λp z q I e=>?_) (λp z=>?_)
   ·rcases Nc.mp z with rfl | z<;>rcases Nc.mp I with rfl | I
    ·rfl
    ·have O:k=q.2:=e
     exact absurd (O ▸ hl q I)<|NU _
    ·have O:p.2=k:=e
     exact absurd (O ▸ hl p z)<|NU _
    ·exact h p z q I e
   ·rcases Nc.mp z with rfl | z
    ·exact OR _
    ·exact Oh<|hl p z
  ·exact yT h hl
theorem QH : ∀{names:List (Str×sm)} {h:eg} {acc:List (Str×di)} {n:Str} {c:di},(n,c)∈p8 h.objs.size names acc->(n,c)∈acc\/(C8 h names).IsCell c none
 | [],_,_,_,_,hm=> .inl hm
 | (m,kd)::r,h,acc,n,c,hm=>by
  unfold p8 at hm;unfold C8;split at hm
  ·rename_i z
   rw[UJ z];have e:h.objs.size+1=(h.push {cls:= .type "cell",data:= .cell none}).objs.size:=(NV ..).symm;rw[e]at hm;rcases QH hm with hm | hm
   ·rcases Nc.mp hm with hm | hm
    ·cases hm
     have I:(h.push {cls:= .type "cell",data:= .cell none}).IsCell h.objs.size none:=⟨{cls:= .type "cell",data:= .cell none},Nm _ rfl,rfl⟩;exact .inr (I.keeps λb o q=>Sr _ _ b o q)
    ·exact .inl hm
   ·exact .inr hm
  ·rename_i z
   rw[UY z];exact QH hm
theorem vS{J:Type}{l:List (Str×J)}(C:(l.map (·.1)).Nodup) : ∀{n:Str} {a:J},(n,a)∈l->l.lookup n=bQ a:=by
 induction l with
 | nil=>intro n a h;cases h
 | cons p r z=>
  intro n a h;obtain⟨m,b⟩:=p;rw[Nt,Ro]at C;rw[Oc];rcases Nc.mp h with h | h
  ·cases h;simp
  ·have I:(n==m)=cE:=by
    have:n≠m:=λe=>C.1 (by rw[<- e];exact Nq.mpr ⟨(n,a),h,rfl⟩);simpa using this
   rw[I];exact z C.2 h
theorem wt(scope:fA)(env:m4)(x:Str):(t7 scope env).names.lookup x =
 (scope.names.lookup x).map λk=>if (k==NA && env.scope.kind == .function && env.kindOf x==bQ .cell)then Pn else k:=by
 unfold t7;dsimp only;generalize scope.names=l
 induction l with
 | nil=>rfl
 | cons p r I=>
  obtain⟨n,k⟩:=p;rw[Nt];cases hx:x==n with
  | true=>
   have e:x=n:=by simpa using hx
   subst e;rw[Oc,Oc];dsimp only;by_cases z:(k==NA && env.scope.kind == .function && env.kindOf x==bQ .cell)=bX
   ·rw[UJ z,beq_self_eq_true];dsimp only[Sj];rw[UJ z]
   ·rw[UY z,beq_self_eq_true];dsimp only[Sj];rw[UY z]
  | false=>
   have : ∀a,List.lookup x ((n,a)::(r.map λx=>match x with | (n,k)=>if (k==NA && env.scope.kind == .function && env.kindOf n==bQ .cell)=bX then (n,Pn)else (n,k)))=List.lookup x (r.map λx=>match x with | (n,k)=>if (k==NA && env.scope.kind == .function && env.kindOf n==bQ .cell)=bX then (n,Pn)else (n,k)):=λa=>by rw[Oc,hx]
   rw[Oc (k:=n),hx];dsimp only;split
   ·rw[this];exact I
   ·rw[this];exact I
noncomputable def Zq(scope:fA)(env:m4)(L:di):m4:=
 {scope:=t7 scope env,locals:=L,globals:=env.globals,cells:=p8 (L+1) scope.names<|K7 env.cells scope.names [],qual:=env.qual,func:=none,code:=env.code,frame:=env.frame,builtins:=env.builtins}
noncomputable def jH(X:Cx)(scope:fA)(J:List Str)(fp:List di)(C:dy)(I:Hp):Cx:=
 {X with N:=J,m1:=C,D1:=I,env:=Zq scope X.env<|C.heap.objs.size+1,outer:=X.stack,stack:=X.stack,ex:=fp,fn:=λx=>scope.names.lookup x==bQ .cell,pn:=[],xe:=λ_ _=>False}
structure qq(X:Cx)(scope:fA)(fr:List (Str×Nat)):Prop where
 kind:scope.kind = .function
 nd:(scope.names.map (·.1)).Nodup
 free : ∀p∈scope.names,p.2=NA->X.env.kindOf p.1=bQ .cell\/X.env.kindOf p.1=bQ .free
 fr : ∀p∈fr,scope.names.lookup p.1=bQ .free/\X.N[p.2]? = bQ p.1
noncomputable def oY(own:List Str)(C:List (Str×Nat))(I:St):St:=own.map (λ_=>none)++C.map λp=>(I[p.2]?).join
abbrev V3:m5:={cls:= .type "list",data:= .seq #[]}
abbrev pP:m5:={cls:= .type "dict",data:= .dict #[]}
theorem nM{X:Cx}{L:UQ}{Y:St}{S:Hp}{C:dy}{scope:fA}{own:List Str}{J:List (Str×Nat)}{fp:List di}(I:Inv X L Y S C)(ok:qq X scope J)
 (Z : ∀b∈fp,Jd X L S b) (ax : ∀b∈fp,∃o,C.heap.get? b=bQ o) :
 Inv (jH X scope (own++J.map (·.1)) fp C S) [] (oY own J Y) (upd S C.heap.objs.size<|.lst []) {C with heap:=C8 ((C.heap.push V3).push pP) scope.names}:=by
 have M:(C.heap.push V3).objs.size=C.heap.objs.size+1:=NV ..;have z2:((C.heap.push V3).push pP).objs.size=C.heap.objs.size+2:=by rw[NV,M]
 have a1 : ∀n c,(n,c)∈K7 X.env.cells scope.names []->(n,NA)∈scope.names/\X.env.cells.lookup n=bQ c:=λn c h=>(ag h).resolve_left ⋯;have ac : ∀n c,X.env.cells.lookup n=bQ c->c<C.heap.objs.size:=λn c h=>by obtain⟨v,q⟩:=I.cell n c h;exact q.lt
 have N : ∀p∈K7 X.env.cells scope.names [],p.2<C.heap.objs.size+1+1:=λp U=>by exact Oh<|Oh<|ac p.1 p.2 (a1 p.1 p.2 U).2
 have hC:(Zq scope X.env<|C.heap.objs.size+1).cells=p8 (C.heap.objs.size+2) scope.names (K7 X.env.cells scope.names []):=rfl;have a : ∀x c,(Zq scope X.env<|C.heap.objs.size+1).cells.lookup x=bQ c->((x,NA)∈scope.names/\X.env.cells.lookup x=bQ c)\/(C.heap.objs.size+2<=c/\(x,Pn)∈scope.names):=λx c h=>by
  rcases kC (mem_of_lookup h)with h | h
  ·exact .inl<|a1 x c h
  ·exact .inr h
 have E : ∀x,(x,NA)∈scope.names->∃c,X.env.cells.lookup x=bQ c/\(Zq scope X.env<|C.heap.objs.size+1).cells.lookup x=bQ c:=λx r=>by
  obtain⟨c,f⟩:=I.ok.has x<|ok.free (x,.free) r rfl;have w:((K7 X.env.cells scope.names []).lookup x).isSome=bX:=J5<|.inr ⟨r,by rw[f];rfl⟩;have l:=Rl scope.names (C.heap.objs.size+2) (K7 X.env.cells scope.names [])<|.inr w;obtain⟨H,F⟩:=OV.mp l;refine⟨c,f,?_⟩;rcases a x H F with⟨_,q⟩ | ⟨_,q⟩
  ·rw[f]at q;cases q;exact F
  ·exact absurd ((vS ok.nd q).symm.trans (vS ok.nd r)) ⋯
 have keep : ∀b o,C.heap.get? b=bQ o->(C8 ((C.heap.push V3).push pP) scope.names).get? b=bQ o:=λb o e=>
  Sr _ _ b o (MT _<|MT _ e)
 have an : ∀b∈fp,b<C.heap.objs.size:=λb O=>by obtain⟨o,e⟩:=ax b O;exact Nh e
 have fresh:S C.heap.objs.size=none:=I.eo.fresh<|MY _;have G : ∀c,C.heap.objs.size<c->(upd S C.heap.objs.size<|.lst []) c=none:=λc f=>by rw[zV (Pg f)];exact I.eo.fresh<|SY f
 obtain⟨m0,P⟩ : ∃m,(C8 ((C.heap.push V3).push pP) scope.names).Ns (C.heap.objs.size+1) m:=by have q:=(Heap.Ns.new (C.heap.push V3) (.type "dict")).keeps (λb o e=>Sr scope.names _ b o e);rw[M]at q;exact⟨_,q⟩
 refine⟨⟨I.ok.mod,ok.kind,I.ok.glob,I.ok.blt,D6 _,λx y c w l=>?_,λx r=>?_,λx c hf h=>?_,I.ok.hd,I.ok.frames,.inl rfl,λb O=>⟨?_,λx c h z=>?_⟩,λb o e=>I.bs b o e,?_,λb o e O=>?_,λb O hs=>?_,I.stack,I.UU⟩,
  rfl,I.bare,Un.laid keep (MY _) fresh,⟨m0,P,λi x v K d e3=>?_⟩,λx c h=>?_,?_,λx c h=>?_,λp U=>?_,?_,?_⟩
 ·have q:=yT (names:=scope.names) (k:=C.heap.objs.size+2) (acc:=K7 X.env.cells scope.names []) (λp U q hq e=>I.ok.inj p.1 q.1 p.2 (a1 _ _ U).2 (by rw[e];exact(a1 _ _ hq).2)) N
  exact q (x,c) (mem_of_lookup w) (y,c) (mem_of_lookup l) rfl
 ·have g:(t7 scope X.env).names.lookup x=bQ .cell\/(t7 scope X.env).names.lookup x=bQ .free:=r
  have:scope.names.lookup x=bQ .cell\/scope.names.lookup x=bQ .free:=by
   rw[wt]at g;cases e:scope.names.lookup x with
   | none=>rw[e]at g;simp at g
   | some k=>
    rw[e]at g;cases k<;>simp at g ⊢
  rcases this with h | h
  ·exact OV.mp<|Rl scope.names _ _<|.inl h
  ·obtain⟨c,_,l⟩:=E x<|mem_of_lookup h;exact⟨c,l⟩
 ·have Q:(scope.names.lookup x==bQ .cell)=bX:=hf
  have R:scope.names.lookup x=bQ .cell:=by simpa using Q
  rcases a x c h with⟨q,_⟩ | ⟨q,_⟩
  ·exact absurd ((vS ok.nd q).symm.trans R) ⋯
  ·exact NZ (NY _ 2) q
 ·exact NI<|Oh<|an b O
 ·rcases a x c h with⟨_,q⟩ | ⟨q,_⟩
  ·exact(Z b O).2.2.2.2.1 x c q z
  ·exact absurd (Nr (an b O)<|NZ (NY _ 2)<|z ▸ q)<|NU _
 ·exact NZ I.ok.u9 I.sz
 ·rcases (Z b O).2.2.2.1 with q | q
  ·exact I.ok.E8 b o e q
  ·exact absurd (Nr (Nh e)<|NZ I.ok.u9 q)<|NU _
 ·rcases Nc.mp (I.S9 b hs)with q | q
  ·exact(Z b O).2.1 q
  ·exact(Z b O).2.2.1 q
 ·have hi:i<(own++J.map (·.1)).length:=(Ng.mp K).1
  by_cases t:i<own.length
  ·unfold oY at d
   rw[Dk (by simpa using t)]at d;simp[NC,t]at d
  ·have hj : ∃p,J[i - own.length]? = bQ p/\p.1=x/\(Y[p.2]?).join=bQ v:=by
    unfold oY at d;have j:(own++J.map (·.1))[i]? = bQ x:=K;rw[Oj ⋯,NC]at j;rw[Oj (by simpa using t),NC,Nf]at d;cases q:J[i - own.length]? with
    | none=>rw[q]at j;cases j
    | some p=>
     rw[q]at j d;exact⟨p,rfl,by simpa using j,by simpa using d⟩
   obtain⟨p,U,T,s⟩:=hj;obtain⟨g1,g2⟩:=ok.fr p<|Rc U;rw[T]at g1 g2;have A:Y[p.2]? = bQ (bQ v):=by
    cases q:Y[p.2]? with
    | none=>rw[q]at s;cases s
    | some o=>rw[q]at s;simpa using s
   have as:=ok.free (x,.free) (mem_of_lookup g1) rfl;obtain⟨m,hn,hl⟩:=I.loc;obtain⟨u,ru,lk⟩:=hl p.2 x v g2 A (by rcases as with k | k;exact .inr<|.inl k;exact .inr<|.inr k);refine⟨u,ru,.inr ?_⟩;obtain⟨c,bl,W⟩:=E x<|mem_of_lookup g1;have bn:C.heap.IsCell c (bQ u):=by
    rcases lk with⟨k,_⟩ | ⟨_,H,e,z⟩
    ·rcases as with k' | k'<;>rw[k]at k'<;>cases k'
    ·rw[bl]at e;cases e;exact z
   refine⟨?_,c,W,bn.keeps keep⟩;show(t7 scope X.env).names.lookup x=bQ .cell\/(t7 scope X.env).names.lookup x=bQ .free;rw[wt,g1];dsimp only[Sj];split
   ·exact .inl rfl
   ·exact .inr rfl
 ·rcases kC (mem_of_lookup h)with q | q
  ·obtain⟨v,B⟩:=I.cell x c (a1 x c q).2
   exact⟨v,B.keeps keep⟩
  ·have q2:=mem_of_lookup h
   have q3:(x,c)∈p8 ((C.heap.push V3).push pP).objs.size scope.names (K7 X.env.cells scope.names []):=by rw[z2];exact q2
   rcases QH q3 with q4 | q4
   ·obtain⟨v,B⟩:=I.cell x c (a1 x c q4).2
    exact⟨v,B.keeps keep⟩
   ·exact⟨none,q4⟩
 ·exact G _<|OR _
 ·rcases a x c h with⟨_,q⟩ | ⟨q,_⟩
  ·rw[zV (NI<|ac x c q)];exact I.sX x c q
  ·exact G c<|Nr (Oh<|OR _) q
 ·exact absurd (show p∈([]:UQ)from U) ⋯
 ·refine I.eo.laid keep (MY _) ⟨OD _,[],0,.nil,?_⟩
  exact Sr _ _ _ _<|MT _<|Nm _ rfl
 ·show(oY own J Y).length=(own++J.map (·.1)).length
  simp[oY]
theorem wg(I:Nat->dy->Prop)
 (L : ∀n s,I n s->wpAny (d6 prog w) A (DR it) (λr z=>match r with
   | none=>R (.ok .next) z
   | some v=>wpAny (d6 prog w) A (L4 target it v) (λ_ z=>wpAny (d6 prog w) A (u6 target env v) (λ_ U=>
    wpAny (d6 prog w) A (forIn ifs bX λc r=>if r=bX then do let ok <- Dt c env (dv c env);pure (Sw ok)else pure (Sw r)) (λok O=>
     if ok=bX then wpAny (d6 prog w) A (dv elt env) (λx C=>
      wpAny (d6 prog w) A (call (.builtin "list.append") [acc,x]) (λ_ J=>∃m,m<n/\I m J) (λ_ _=>False) C) (λ_ _=>False) O
     else ∃m,m<n/\I m O) (λ_ _=>False) U) (λ_ _=>False) z) (λ_ _=>False) z) (λ_ _=>False) s)
 (n:Nat) (h:I n s) :
 codeAny (d6 prog w) A (.compLoop (.ListComp elt [⟨target,iter,ifs,0⟩] scope pos) 0 it acc env) R s:=by
 refine codeAny_loop rfl I (λn s j=>?_) n h;show wpAny _ A ((compTurn (.ListComp elt [⟨target,iter,ifs,0⟩] scope pos) 0 it acc env).onRaise (λx=>do noteFrame x env;theTreesLotGoes x)) _ _ s;refine wpAny_noted ?_;rw[compTurn_list];refine MQ<|TX<|MQ<|Pj (L n s j) (λr z b=>?_) λ_ _ a=>a.elim;cases r with
 | none=>exact Na b
 | some v=>
  refine MQ<|Pj b (λ_ k i=>?_) λ_ _ a=>a.elim;refine MQ<|Pj i (λ_ U e=>MQ<|Pj e (λok O d=>?_) λ_ _ a=>a.elim) λ_ _ a=>a.elim;cases ok with
  | false=>exact Na ⟨rfl,d⟩
  | true=>
   exact MQ<|MQ<|Pj d (λx C f=>MQ<|Pj f (λ_ J g=>Na<|Na ⟨rfl,g⟩) λ_ _ a=>a.elim) λ_ _ a=>a.elim
noncomputable def Av(X:Cx)(C:List dt)(t:TT):Prop:=
 ∀(a:UQ) (s:dy) (b:St) (H:Hp) (Q:Bool->Hp->Prop),Inv X a b H s->t b H Q->
  wpAny (d6 X.prog X.w) X.A (forIn C bX λc r=>if r=bX then do let ok <- Dt c X.env (dv c X.env);pure (Sw ok)else pure (Sw r)) (TP X a b Q) X.xe s
noncomputable def FW:TT:=λ_ H Q=>Q bX H
theorem W3:Av X [] FW:=λ_ _ _ H _ I h=>wpAny_tests_nil ⟨H,I,h⟩
theorem W2(h:PT X c t):Av X [c] t:=λa s b H Q I z=>wpAny_tests_one<|h a s b H Q I z
noncomputable def CW(J:It)(g:TG)(L:TT)(C:TE)(D:di)(Q:VK)(W:Nat->Nat->List V->St->Hp->Prop):Prop:=
 ∀i m a f H,W i m a f H->H D=bQ (.lst a)/\((J.stop i H/\Q (.ref D) H)\/(J.go i H/\a.length<ej/\∀x e,J.B4 i H x e->g x f e λz h=>L z h λb I=>
  if b=bX then C z I λv O=>O D=bQ (.lst a)/\∃d,d<m/\W (i+1) d (a++[v]) z (upd O D<|.lst<|a++[v])else ∃d,d<m/\W (i+1) d a z I))
noncomputable def oC(X:Cx)(C:UQ)(H:Hp)(L:di):Prop:=
 H L=none/\L≠X.env.locals/\X.m1.heap.objs.size<=L/\(∀x c,X.env.cells.lookup x=bQ c->c≠L)/\∀p∈X.pn++C,p.1≠L
theorem ou
 (hc:X.calm=bX) (I:Inv X pins σ H2 s2) (ok:qq X scope fr) (T:Turn X.prog X.w X.K tg J fp it tn) (st:tn 0 s2.heap) (L : ∀b∈fp,Jd X pins H2 b)
 (hg:PG (jH X scope (own++fr.map (·.1)) fp s2 H2) tg g) (ht:Av (jH X scope (own++fr.map (·.1)) fp s2 H2) ifs tt) (he:PE (jH X scope (own++fr.map (·.1)) fp s2 H2) elt te)
 (hW : ∀D,H2 D=none->∃W:Nat->Nat->List V->St->Hp->Prop,(∃m,W 0 m [] (oY own fr σ) (upd H2 D<|.lst []))/\CW J g tt te D Q W) :
 wpAny (d6 X.prog X.w) X.A (newList []) (λacc S=>wpAny (d6 X.prog X.w) X.A (UH scope X.env.globals (K7 X.env.cells scope.names []) [] X.env.qual none .none (bQ X.env)) (λac Y=>
  codeAny (d6 X.prog X.w) X.A (.compStart (.ListComp elt [⟨tg,iter,ifs,0⟩] scope pos) 0 (.ref it) acc {ac with scope:=t7 scope X.env})
   (λr C=>(∃f,r = .ok f)/\∃D H',acc = .ref D/\Inv X pins σ H' C/\Q (.ref D) H'/\(∃m,C.heap.Ns ac.locals m)/\oC X pins H' ac.locals) Y) E S) E s2:=by
 have b5 : ∀b∈fp,∃o,s2.heap.get? b=bQ o:=λb O=>by obtain⟨o,e,_⟩:=T.obj 0 _ st b O;exact⟨o,e⟩
 have N:=nM (own:=own) I ok L b5;obtain⟨W,⟨m0,w0⟩,cw⟩:=hW _ I.fresh;refine OG<|yn ?_;have z1:(s2.heap.push V3).objs.size=s2.heap.objs.size+1:=NV ..;show codeAny _ _ (.compStart _ 0 (.ref it) (.ref s2.heap.objs.size) {scope:=t7 scope X.env,locals:=(s2.heap.push V3).objs.size,globals:=X.env.globals,cells:=p8 ((s2.heap.push V3).objs.size+1) scope.names<|K7 X.env.cells scope.names [],qual:=X.env.qual,func:=none,code:=X.env.code,frame:=X.env.frame,builtins:=X.env.builtins})
  (λr C=>(∃f,r = .ok f)/\∃D H',OK s2.heap.objs.size = .ref D/\Inv X pins σ H' C/\Q (.ref D) H'/\(∃m,C.heap.Ns (s2.heap.push V3).objs.size m)/\oC X pins H' (s2.heap.push V3).objs.size) {s2 with heap:=C8 ((s2.heap.push V3).push pP) scope.names}
 rw[z1];have b6:tn 0 (C8 ((s2.heap.push V3).push pP) scope.names):=T.keep 0 _ _ st λb _ o e=>Sr _ _ b o<|MT _<|MT _ e;have c5 : ∀b∈fp,b<s2.heap.objs.size:=λb O=>by obtain⟨o,e⟩:=b5 b O;exact Nh e
 have ae : ∀{H':Hp},(∀b∈fp,H' b=none)->∀b∈fp,Jd (jH X scope (own++fr.map (·.1)) fp s2 H2) [] H' b:=λhn b O=>
  ⟨hn b O,(N.ok.I8 b O).1,N.ok.E4 b O,.inl O,(N.ok.I8 b O).2,λp hp=>absurd (show p∈([]:UQ)from hp) ⋯⟩
 have b7:codeAny (d6 X.prog X.w) X.A (.compLoop (.ListComp elt [⟨tg,iter,ifs,0⟩] scope pos) 0 (.ref it) (.ref s2.heap.objs.size)<|Zq scope X.env<|s2.heap.objs.size+1)
  (λr C=>(∃f,r = .ok f)/\∃D H',OK s2.heap.objs.size = .ref D/\Inv X pins σ H' C/\Q (.ref D) H'/\(∃m,C.heap.Ns (s2.heap.objs.size+1) m)/\oC X pins H' (s2.heap.objs.size+1)) {s2 with heap:=C8 ((s2.heap.push V3).push pP) scope.names}:=by
  refine wg (λn C=>∃i y B H',Inv (jH X scope (own++fr.map (·.1)) fp s2 H2) [] B H' C/\tn i C.heap/\(∀b∈fp,H' b=none)/\W i n y B H') ?_ m0
   ⟨0,[],_,_,N,b6,λb O=>by rw[zV (NI<|c5 b O)];exact(L b O).1,w0⟩
  rintro n s3 ⟨i,y,a,H,I3,s,bb,w3⟩;obtain⟨hD,c7⟩:=cw i n y a H w3;rcases c7 with⟨t,qn⟩ | ⟨go,hz,step⟩
  ·refine ea (T.done (jH X scope (own++fr.map (·.1)) fp s2 H2) rfl rfl rfl hc i [] s3 a H _ I3 (ae bb) s t) λr s4 U=>?_
   obtain⟨hr,j⟩:=U;subst hr;refine⟨⟨_,rfl⟩,_,H,rfl,I.G_ (ch:=fp) j.os j.base j.eo j.bare<|λb O=>⟨(L b O).2.2.2.1,(L b O).2.1,(L b O).2.2.2.2.1,(L b O).2.2.2.2.2⟩,qn,?_,j.free,?_,?_,?_,?_⟩
   ·obtain⟨m,hn,_⟩:=j.loc
    exact⟨m,hn⟩
   ·exact Pg<|Oh I.lt
   ·exact Nat.le_succ_of_le I.sz
   ·intro x c e z
    obtain⟨v,q⟩:=I.cell x c e;exact absurd (Oh q.lt) (by rw[z];exact NU _)
   ·intro p hp z
    exact absurd (Oh<|Nh (I.pin p hp).1) (by rw[z];exact NU _)
  ·refine ea (T.item (jH X scope (own++fr.map (·.1)) fp s2 H2) rfl rfl rfl hc i [] s3 a H _ I3 (ae bb) s go) λr s4 U=>?_
   obtain⟨u,hr,h4⟩:=U;subst hr;refine ea h4 λ_ s5 U=>?_;obtain⟨x,H5,I5,r5,y5,an,ci⟩:=U;have cj:=I5.pinned (ae ci)<|T.obj _ _ an;refine ea (hg _ s5 a H5 x u _ cj r5<|step x H5 y5) λ_ s6 U=>?_;obtain⟨h,H6,I6,q6⟩:=U;refine ea (ht _ s6 h H6 _ I6 q6) λb s7 U=>?_;obtain⟨H7,P,R⟩:=U;have after : ∀{G:St} {M:Hp} {l:dy},Inv (jH X scope (own++fr.map (·.1)) fp s2 H2) ([]++YF fp s5.heap) G M l->tn (i+1) l.heap/\∀b∈fp,M b=none:=λ{G M l} k=>by refine⟨T.keep _ _ _ an λb O o e=>(k.pin (b,o)<|Nl _<|Nl _<|vR O e).1,λb O=>?_⟩;obtain⟨o,e,d⟩:=T.obj _ _ an b O;exact(k.pin (b,o)<|Nl _<|Nl _<|vR O e).2.1
   cases b with
   | false=>
    rw[UY Nw]at R ⊢;obtain⟨m',hm,w7⟩:=R;exact⟨m',hm,i+1,y,h,H7,P.F8,(after P).1,(after P).2,w7⟩
   | true=>
    rw[UJ rfl]at R ⊢;refine ea (he _ s7 h H7 _ P R) λv8 l U=>?_;obtain⟨x8,M,k,r8,bg,m',hm,w8⟩:=U;obtain⟨z8,bi,n8,rv,d5,e8⟩:=k.vr bg;refine Px F.slot_list_append ⟨_,e8,rfl⟩ F.entry_list_append (F.args_list_append_2 _ _) (PySem.list_append _ bi.toArray n8 v8<|by rw[MZ];omega) ⟨e8,?_⟩;have Z:=k.E6 (its':=bi++[v8]) (f:=(·.push v8)) (t':=l.toks) bg e8 ⋯ (rv.append<|.cons r8 .nil) (by rw[NO,RG];omega);exact⟨m',hm,i+1,y++[x8],h,_,Z.F8,(after Z).1,(after Z).2,w8⟩
 exact codeAny_compStart_list b7<|T.self _ 0 _ _ _ b6 b7
noncomputable def lR(O:TI)(own:List Str)(C:List (Str×Nat))(g:TG)(L:TT)(I:TE):TE:=λb H Q=>O b H λJ a=>∀D,a D=none->
 ∃W:Nat->Nat->List V->St->Hp->Prop,(∃m,W 0 m [] (oY own C b) (upd a D<|.lst []))/\CW J g L I D Q W
section
variable{X:Cx}{scope:fA}{own:List Str}{fr:List (Str×Nat)}{elt tg iter:dt}{ifs:List dt}{pos:fh}{wi:TI}{g:TG}{tt:TT}{te:TE}
theorem aN
 (z:X.calm=bX) (ok:qq X scope fr) (hi:PI X tg iter wi) (O : ∀fp S C,PG (jH X scope (own++fr.map (·.1)) fp S C) tg g)
 (U : ∀fp S C,Av (jH X scope (own++fr.map (·.1)) fp S C) ifs tt) (Z : ∀fp S C,PE (jH X scope (own++fr.map (·.1)) fp S C) elt te)
 (I:Inv X pins σ H s) (h:lR wi own fr g tt te σ H Q)
 (hR : ∀D H' Y L,Inv X pins σ H' Y->Q (.ref D) H'->(∃m,Y.heap.Ns L m)->oC X pins H' L->
   compPost (d6 X.prog X.w) X.A X.xe use R (.ref D) L (.ok .next) Y)
 (hs : ∀x,pf iter X.env x=pure x:=by intro _;rfl) :
 wpAny (d6 X.prog X.w) X.A (comprehension (.ListComp elt [⟨tg,iter,ifs,0⟩] scope pos) scope X.env (firstIterPos [⟨tg,iter,ifs,0⟩] pos) (newList []) cE (dv iter X.env) use) R X.xe s:=by
 refine wpAny_comprehension_free rfl hs (KP λn a=>I.ok.has n<|ok.free (n,.free) a rfl) ok.kind (λx G e=>by rw[<- e];exact vS ok.nd<|show(x.1,x.2)∈scope.names from G) ?_;refine ea (hi pins s σ H _ I h) λv P l=>ea l λM S o=>?_;obtain⟨N,fp,tn,J,C,e,d,T,i,f2,B⟩:=o;subst e;refine ea (ou (own:=own) (Q:=Q) (E:=X.xe) z d ok T i f2 (O fp S C) (U fp S C) (Z fp S C) B) λacc W p=>ea p λj s4 t=>Tn t λr Y u=>?_;obtain⟨⟨f,F⟩,D,H',k,b,q,a,y⟩:=u;subst F;subst k;have K:=hR D H' Y j.locals b q a y;cases use<;>exact K
theorem VP(z:X.calm=bX)(ok:qq X scope fr)(Y:PI X tg iter wi)(O : ∀fp J C,PG (jH X scope (own++fr.map (·.1)) fp J C) tg g)
 (U : ∀fp J C,Av (jH X scope (own++fr.map (·.1)) fp J C) ifs tt) (S : ∀fp J C,PE (jH X scope (own++fr.map (·.1)) fp J C) elt te)
 (hs : ∀x,pf iter X.env x=pure x:=by intro _;rfl) :
 PE X (.ListComp elt [⟨tg,iter,ifs,0⟩] scope pos) (lR wi own fr g tt te):=by
 intro a s B H Q I h;rw[eval_ListComp];refine aN (use:=none) z ok Y O U S I h (λD d l L f q k y=>?_) hs;obtain⟨m,j⟩:=k;obtain⟨p,r,t,u,w⟩:=y;refine⟨m,j,λA n=>⟨.ref D,d,f.turned (t':=l.toks) (it:=L) (λb o i e=>n.extBut b o i e) p r (.inr t) u w,rfl,q⟩⟩
theorem Xx(O:X.N.Nodup)(U:X.N[i]? = bQ y)(hy:Loc X.env.scope y)(Z:X.fn y=bX\/X.env.scope.names.lookup y=bQ .local)
 (S:X.calm=bX) (ok:qq X scope fr) (hi:PI X tg iter wi) (hg : ∀fp J C,PG (jH X scope (own++fr.map (·.1)) fp J C) tg g)
 (ht : ∀fp J C,Av (jH X scope (own++fr.map (·.1)) fp J C) ifs tt) (Y : ∀fp J C,PE (jH X scope (own++fr.map (·.1)) fp J C) elt te)
 (hs : ∀x,pf iter X.env x=pure x:=by intro _;rfl) :
 PS X (.Assign [.Name y py] (.ListComp elt [⟨tg,iter,ifs,0⟩] scope pos) spos) (WK (lR wi own fr g tt te)<|vB i):=by
 have z : ∃b:Bool,r9 (.ListComp elt [⟨tg,iter,ifs,0⟩] scope pos) (bQ (.Name y py)) spos.line X.env=pure b:=⟨_,rfl⟩;obtain⟨b,z⟩:=z;cases b with
 | false=>
  have w:Tb [.Name y py] (.ListComp elt [⟨tg,iter,ifs,0⟩] scope pos) spos.line X.env=r9 (.ListComp elt [⟨tg,iter,ifs,0⟩] scope pos) (bQ (.Name y py)) spos.line X.env:=rfl;exact eW (VP S ok hi hg ht Y hs) (fw O U hy Z) (by rw[w];exact z)
 | true=>
  intro d s σ H D I h;rw[exec_Assign_Name_used _ _ _ _ z];refine MQ<|TX<|MQ ?_;show wpAny _ X.A (do let _ <- comprehension (.ListComp elt [⟨tg,iter,ifs,0⟩] scope pos) scope X.env _ (newList []) cE (dv iter X.env) (bQ (u6 (.Name y py) X.env))) _ _ s;refine MQ<|ea (aN (R:=λ_ f=>SP X d D .next f) (use:=bQ (u6 (.Name y py) X.env)) S ok hi hg ht Y I h (λj T f L l q F Q=>?_) hs) λ_ f q=>Na<|Na q;obtain⟨K,k,M,y4,P⟩:=Q;obtain⟨m,E⟩:=F;show wpAny _ _ (u6 (.Name y py) X.env<|.ref j) _ _ _;refine _d<|Yq l O U hy (v:= .ref j) rfl (λn p r=>?_) Z;obtain⟨a,G,B⟩:=r;have t:L≠a:=by
   rcases B with e | e
   ·rw[e];exact k
   ·exact Oa<|y4 _ _ e
  refine⟨m,E.sameBut G t,λW u=>⟨_,_,p.turned (t':=n.toks) (it:=L) (λb o z e=>u.extBut b o z e) K k (.inr M) y4 P,q⟩⟩
end
inductive Sk where
 | L | T
 deriving DecidableEq
end L2
namespace DL
open PySem L2
inductive D where
 | d7 | bl (b:Bool) | int (i:Int) | str (x:Str) | tup (xs:List D) | lst (xs:List D)
 | i8 (ks vs:List D)
 | i0 (ks:List (List Int)) (vs:List D)
inductive Cell where
 | no | val (d:D) | own (ds:List D) | nest (rows:List (List D))
abbrev Ctx:=List Cell
abbrev CO (a : Type) := Ctx -> Option a
noncomputable def lim:Nat:=2500
noncomputable def jj:D->Option (Sk×List D)
 | .tup a=>bQ (.T,a)
 | .lst a=>bQ (.L,a)
 | _=>none
noncomputable def zG(f:CO D)(γ:Ctx):Option (Sk×List D):=(f γ).bind jj
noncomputable def qh(f:CO (List D))(γ:Ctx):Option D:=(f γ).map D.lst
noncomputable def js(f:CO (List D))(γ:Ctx):Option (Sk×List D):=(f γ).map λa=>(Sk.L,a)
noncomputable def ik:Option Cell->Option D
 | some (.val d)=>bQ d
 | _=>none
noncomputable def wI:Option Cell->Option (Sk×List D)
 | some (.val d)=>jj d
 | some (.own ds)=>bQ (.L,ds)
 | _=>none
noncomputable def zf(i:Nat)(γ:Ctx):Option D:=ik γ[i]?
noncomputable def zh(i:Nat)(γ:Ctx):Option (Sk×List D):=wI γ[i]?
noncomputable def zy(d:D):CO D:=λ_=>bQ d
noncomputable def zK(F:D->D->Option D)(C I:CO D)(γ:Ctx):Option D:=(C γ).bind λx=>(I γ).bind λy=>F x y
noncomputable def nz:D->Option Bool
 | .bl b=>bQ b
 | _=>none
noncomputable def ix:D->Option Int
 | .int i=>bQ i
 | _=>none
noncomputable def sB(f:CO D)(γ:Ctx):Option Bool:=(f γ).bind nz
noncomputable def mi(f g:CO Bool)(γ:Ctx):Option Bool:=(f γ).bind λb=>if b=bX then g γ else bQ cE
noncomputable def wK(f g:CO Bool)(γ:Ctx):Option Bool:=(f γ).bind λb=>if b=bX then bQ bX else g γ
noncomputable def jX(f:CO Bool)(γ:Ctx):Option Bool:=(f γ).map λb=> !b
noncomputable def cT(f g:CO D)(γ:Ctx):Option D:=((f γ).bind nz).bind λb=>if b=bX then g γ else bQ (.bl cE)
noncomputable def V_(f g:CO D)(γ:Ctx):Option D:=((f γ).bind nz).bind λb=>if b=bX then bQ (.bl bX)else g γ
noncomputable def EV(f:CO D)(γ:Ctx):Option D:=((f γ).bind nz).map λb=> .bl (!b)
noncomputable def dU(c:CO Bool)(f g:CO D)(γ:Ctx):Option D:=(c γ).bind λb=>if b=bX then f γ else g γ
noncomputable def zI:CO (List D):=λ_=>bQ []
noncomputable def zb(f:CO D)(g:CO (List D))(γ:Ctx):Option (List D):=(f γ).bind λx=>(g γ).map λr=>x::r
noncomputable def xH(f:CO (List D))(γ:Ctx):Option D:=(f γ).bind λa=>if a.length<=lim then bQ (.tup a)else none
noncomputable def j3(f:CO (List D))(γ:Ctx):Option (List D):=(f γ).bind λa=>if a.length<=lim then bQ a else none
inductive Res where
 | val (d:D) | own (ds:List D)
inductive Fl where
 | next (γ:Ctx) | brk (γ:Ctx) | cont (γ:Ctx) | ret (r:Res)
noncomputable def jU(γ:Ctx):Option Fl:=bQ (.next γ)
noncomputable def zR(F G:CO Fl):CO Fl:=λb=>(F b).bind λz=>match z with
 | .next a=>G a
 | f=>bQ f
noncomputable def jR(f:CO D)(γ:Ctx):Option Fl:=(f γ).map λd=> .ret (.val d)
noncomputable def ZD(f:CO (List D))(γ:Ctx):Option Fl:=(f γ).map λd=> .ret (.own d)
noncomputable def Wn:Option Cell->Option Fl
 | some (.val d)=>bQ (.ret<|.val d)
 | some (.own ds)=>bQ (.ret<|.own ds)
 | _=>none
noncomputable def v9(i:Nat)(γ:Ctx):Option Fl:=Wn γ[i]?
noncomputable def ME(γ:Ctx):Option Fl:=bQ (.brk γ)
noncomputable def sN(γ:Ctx):Option Fl:=bQ (.cont γ)
noncomputable def Yw:CO Fl:=λ_=>none
noncomputable def fy(k:CO Bool)(F G:CO Fl)(γ:Ctx):Option Fl:=(k γ).bind λb=>if b=bX then F γ else G γ
noncomputable def jF(i:Nat)(f:CO D)(γ:Ctx):Option Fl:=(f γ).map λd=> .next (γ.set i<|.val d)
noncomputable def xB(i:Nat)(f:CO (List D))(γ:Ctx):Option Fl:=(f γ).map λa=> .next (γ.set i<|.own a)
noncomputable def sM(f:CO D)(γ:Ctx):Option Fl:=(f γ).map λ_=> .next γ
noncomputable def qz:Option Cell->Option (List D)
 | some (.own ds)=>bQ ds
 | _=>none
noncomputable def qv(i:Nat)(f:CO D)(γ:Ctx):Option Fl:=(qz γ[i]?).bind λa=>(f γ).bind λd=>if a.length<lim then bQ (.next<|γ.set i<|.own<|a++[d])else none
noncomputable def z9(n:Nat)(ds:List D):Ctx:=ds.map Cell.val++MV (n - ds.length) Cell.no
noncomputable def jo(n:Nat)(F:CO Fl)(ds:List D):Option Res:=(F<|z9 n ds).bind λz=>match z with
 | .ret r=>bQ r
 | .next _=>bQ (.val .d7)
 | _=>none
noncomputable def Ff:Res->D
 | .val d=>d
 | .own a=> .lst a
noncomputable def zE(F:List D->Option Res)(g:CO (List D))(γ:Ctx):Option D:=(g γ).bind λa=>(F a).map Ff
noncomputable def oT:Res->Option (List D)
 | .own a=>bQ a
 | _=>none
noncomputable def jJ(F:List D->Option Res)(g:CO (List D))(γ:Ctx):Option (List D):=(g γ).bind λa=>(F a).bind oT
noncomputable def q8(lo:Int)(n:Nat):List D:=(MO n).map λ(i:Nat)=>D.int<|lo+(i:Int)
noncomputable def Jg(ds C:List D):List D:=(ds.zip C).map λp=>D.tup [p.1,p.2]
noncomputable def zT(f:CO (Sk×List D))(γ:Ctx):Option (List D):=(f γ).map (·.2)
noncomputable def inR(i:Int):Bool:=decide<|i.natAbs<2 ^ 62
noncomputable def zS(f:CO D)(γ:Ctx):Option (List D):=((f γ).bind ix).bind λn=>if inR n=bX then bQ (q8 0 n.toNat)else none
noncomputable def kg(f g:CO D)(γ:Ctx):Option (List D):=((f γ).bind ix).bind λm=>((g γ).bind ix).bind λn=>if inR m=bX/\inR n=bX then bQ (q8 m (n - m).toNat)else none
noncomputable def K6(f g:CO D)(γ:Ctx):Option (List D):=((f γ).bind jj).bind λm=>((g γ).bind jj).map λn=>Jg m.2 n.2
inductive Tg where
 | nm (i:Nat) | tp (is:List Nat)
noncomputable def xA:List Nat->List D->Ctx->Ctx
 | i::is,d::ds,γ=>xA is ds<|γ.set i<|.val d
 | _,_,γ=>γ
noncomputable def xC:Tg->D->CO Ctx
 | .nm i,d,γ=>bQ (γ.set i<|.val d)
 | .tp is,.tup ds,γ=>if ds.length=is.length then bQ (xA is ds γ)else none
 | _,_,_=>none
noncomputable def k7(T:Tg)(F:CO Fl):List D->CO Fl
 | [],a=>bQ (.next a)
 | d::e,a=>(xC T d a).bind λb=>(F b).bind λI=>match I with
  | .next z=>k7 T F e z
  | .cont z=>k7 T F e z
  | .brk z=>bQ (.next z)
  | .ret r=>bQ (.ret r)
noncomputable def yB(C:CO (List D))(T:Tg)(F:CO Fl)(γ:Ctx):Option Fl:=(C γ).bind λa=>k7 T F a γ
noncomputable def kX:Cell->Cell
 | .own _=> .no
 | .nest _=> .no
 | c=>c
noncomputable def jn(n:Nat)(C:List Nat)(γ:Ctx):Ctx:=MV n Cell.no++C.map λj=>kX<|γ[j]?.getD .no
noncomputable def zX(T:Tg)(k:CO Bool)(f:CO D)(γ:Ctx):List D->Option (List D)
 | []=>bQ []
 | d::ds=>(xC T d γ).bind λa=>(k a).bind λb=>if b=bX then (f a).bind λe=>(zX T k f γ ds).map λr=>e::r else zX T k f γ ds
noncomputable def zU(C:CO (List D))(T:Tg)(n:Nat)(I:List Nat)(k:CO Bool)(f:CO D)(γ:Ctx):Option (List D):=(C γ).bind λa=>if a.length<=lim then zX T k f (jn n I γ) a else none
noncomputable def jz:CO Bool:=λ_=>bQ bX
noncomputable def Tg.idx:Tg->List Nat
 | .nm i=>[i]
 | .tp is=>is
noncomputable def dI(g:Int->Int->D):D->D->Option D
 | .int i,.int j=>bQ (g i j)
 | _,_=>none
noncomputable def E3(c:Int->Int->Bool)(g:Int->Int->D):D->D->Option D
 | .int i,.int j=>if c i j=bX then bQ (g i j)else none
 | _,_=>none
noncomputable def Xi:D->D->Option D:=dI λi j=> .int (i - j)
noncomputable def ZT(i j:Int):Bool:=decide (i.natAbs<2 ^ 64) || decide (j.natAbs<2 ^ 64)
noncomputable def Ep(_ j:Int):Bool:=decide (0<j) && decide (j.natAbs<1073741824)
noncomputable def Jv:D->D->Option D:=E3 Ep λi j=> .int (i/j)
noncomputable def Fz(_ j:Int):Bool:=decide<|0<j
noncomputable def yv:D->D->Option D:=E3 Fz λi j=> .int (i%j)
noncomputable def Eo(i j:Int):Bool:=decide (0<=j) && decide (j.natAbs<=1000000) && decide (i.natAbs<2 ^ 64)
noncomputable def uK:D->D->Option D:=E3 Eo λi j=> .int (i ^ j.toNat)
noncomputable def sG:D->D->Option D:=dI λi j=> .bl (decide<|i<j)
noncomputable def lp:D->D->Option D:=dI λi j=> .bl (decide<|i<=j)
noncomputable def C3:D->D->Option D:=dI λi j=> .bl (decide<|j<i)
noncomputable def DH:D->D->Option D:=dI λi j=> .bl (decide<|j<=i)
noncomputable def qu:D->D->Option D
 | .int i,.int j=>bQ (.int<|i+j)
 | .tup xs,.tup ys=>if xs.length+ys.length<=lim then bQ (.tup<|xs++ys)else none
 | _,_=>none
noncomputable def yD:D->D->Option D
 | .int i,.int j=>if ZT i j=bX then bQ (.int<|i*j)else none
 | .tup xs,.int j=>if xs.length*j.toNat<=lim/\inR j=bX then bQ (.tup (MV j.toNat xs).flatten)else none
 | _,_=>none
noncomputable def Kf(f g:CO (Sk×List D))(γ:Ctx):Option (List D):=(f γ).bind λa=>(g γ).bind λb=>
 match a.1,b.1 with
 | .L,.L=>if a.2.length+b.2.length<=lim then bQ (a.2++b.2)else none
 | _,_=>none
noncomputable def dQ(f:CO (Sk×List D))(g:CO D)(γ:Ctx):Option (List D):=(f γ).bind λa=>((g γ).bind ix).bind λj=>
 match a.1 with
 | .L=>if a.2.length*j.toNat<=lim/\inR j=bX then bQ (MV j.toNat a.2).flatten else none
 | _=>none
noncomputable def ec(n:Nat)(i:Int):Option Nat:=if 0<=i/\i<n then bQ i.toNat else if i<0/\0<=i+n then bQ (i+n).toNat else none
noncomputable def cq(f:CO (Sk×List D))(g:CO D)(γ:Ctx):Option D:=(f γ).bind λa=>((g γ).bind ix).bind λi=>(ec a.2.length i).bind λk=>a.2[k]?
noncomputable def Xt(i:Nat)(g f:CO D)(γ:Ctx):Option Fl:=(f γ).bind λd=>(qz γ[i]?).bind λa=>((g γ).bind ix).bind λk=>(ec a.length k).map λj=> .next (γ.set i<|.own<|a.set j d)
noncomputable def cJ(n dflt:Nat):Option Int->Nat
 | none=>dflt
 | some i=>if i<0 then (i+n).toNat else min i.toNat n
noncomputable def oq(xs:List D)(lo C:Option Int):List D:=(xs.drop<|cJ xs.length 0 lo).take (cJ xs.length xs.length C - cJ xs.length 0 lo)
noncomputable def lq:CO (Option Int):=λ_=>bQ none
noncomputable def vu(f:CO D)(γ:Ctx):Option (Option Int):=((f γ).bind ix).map bQ
noncomputable def ma(f:CO D)(l h:CO (Option Int))(γ:Ctx):Option D:=(f γ).bind λd=>(l γ).bind λlo=>(h γ).bind λa=>match d with
 | .tup b=>bQ (.tup<|oq b lo a)
 | _=>none
noncomputable def xY(f:CO (Sk×List D))(γ:Ctx):Option D:=(f γ).map λa=> .int a.2.length
inductive Ty where
 | int | bool | str | tuple | list
 deriving DecidableEq
@[simp] noncomputable def pH:D->Bool
 | .int _=>bX
 | .bl _=>bX
 | _=>cE
@[simp] noncomputable def CU:D->Bool
 | .bl _=>bX
 | _=>cE
@[simp] noncomputable def pE:D->Bool
 | .str _=>bX
 | _=>cE
@[simp] noncomputable def pD:D->Bool
 | .tup _=>bX
 | _=>cE
@[simp] noncomputable def pG:D->Bool
 | .lst _=>bX
 | _=>cE
noncomputable def aw:Ty->D->Bool
 | .int=>pH
 | .bool=>CU
 | .str=>pE
 | .tuple=>pD
 | .list=>pG
noncomputable def lr(T:Ty)(f:CO D)(γ:Ctx):Option D:=(f γ).map λd=> .bl (aw T d)
noncomputable def Hi:Ty->Sk->Bool
 | .tuple,.T=>bX
 | .list,.L=>bX
 | _,_=>cE
noncomputable def MA(T:Ty)(f:CO (Sk×List D))(γ:Ctx):Option D:=(f γ).map λa=> .bl (Hi T a.1)
@[simp] noncomputable def J':D->Bool
 | .d7=>bX
 | _=>cE
@[simp] noncomputable def eqB(a:Bool):D->Bool
 | .bl b=>a==b
 | .int b=>(if a then 1 else 0)==b
 | _=>cE
@[simp] noncomputable def Uu(a:Int):D->Bool
 | .bl b=>a==(if b then 1 else 0)
 | .int b=>a==b
 | _=>cE
@[simp] noncomputable def Uv(a:Str):D->Bool
 | .str b=>a==b
 | _=>cE
@[simp] noncomputable def _l(a:Str)(i:Option Int):D->Bool
 | _=>cE
mutual
def g9:D->D->Bool
 | .d7,y=>J' y
 | .bl a,y=>eqB a y
 | .int a,y=>Uu a y
 | .str a,y=>Uv a y
 | .tup xs,y=>match y with
  | .tup e=>o4 xs e
  | _=>cE
 | .lst xs,y=>match y with
  | .lst e=>o4 xs e
  | _=>cE
 | .i8 a b,y=>match y with
  | .i8 c d=>o4 a c && o4 b d
  | _=>cE
 | .i0 a b,y=>match y with
  | .i0 c d=>a==c && o4 b d
  | _=>cE
def o4:List D->List D->Bool
 | [],[]=>bX
 | x::xs,y::ys=>g9 x y && o4 xs ys
 | _,_=>cE
end
mutual
def deep:D->Nat
 | .tup a=>p9 a+1
 | .lst a=>p9 a+1
 | _=>0
def p9:List D->Nat
 | []=>0
 | x::xs=>max (deep x)<|p9 xs
end
mutual
def hX:D->Bool
 | .str x=>x.cps.all (· < 0x110000)
 | .i8 _ _=>cE
 | .i0 _ _=>cE
 | .tup a=>m6 a
 | .lst a=>m6 a
 | _=>bX
def m6:List D->Bool
 | []=>bX
 | x::xs=>hX x && m6 xs
end
noncomputable def i4(d:D):Bool:=decide (deep d<=20) && hX d
noncomputable def gm(x y:D):Option D:=if i4 x=bX/\i4 y=bX then bQ (.bl<|g9 x y)else none
noncomputable def eK(x y:D):Option D:=if i4 x=bX/\i4 y=bX then bQ (.bl<|!g9 x y)else none
noncomputable def El:D->D->Option D
 | x,.d7=>bQ (.bl<|match x with | .d7=>bX | _=>cE)
 | _,_=>none
noncomputable def ju(f:CO (Sk×List D))(γ:Ctx):Option D:=(f γ).map λa=> .tup a.2
noncomputable def Ke(f:CO (Sk×List D))(γ:Ctx):Option (List D):=(f γ).map λa=>a.2
noncomputable def bj:List D->Option Int
 | []=>bQ 0
 | .int i::r=>(bj r).map λs=>i+s
 | _::_=>none
noncomputable def Am(f:CO (Sk×List D))(γ:Ctx):Option D:=(f γ).bind λa=>(bj a.2).map D.int
noncomputable def ER:D->Option Bool
 | .d7=>bQ cE
 | .bl b=>bQ b
 | .int i=>bQ (i != 0)
 | _=>none
noncomputable def JF:List D->Option (List Bool)
 | []=>bQ []
 | d::r=>(ER d).bind λb=>(JF r).map λs=>b::s
noncomputable def lu(f:CO (Sk×List D))(γ:Ctx):Option D:=(f γ).bind λa=>(JF a.2).map λs=> .bl (s.all id)
noncomputable def An(f:CO (Sk×List D))(γ:Ctx):Option D:=(f γ).bind λa=>(JF a.2).map λs=> .bl (s.any id)
noncomputable def bu(f:CO D)(γ:Ctx):Option D:=(f γ).bind λd=>match d with
 | .int i=>bQ (.int i)
 | .bl b=>bQ (.int<|if b then 1 else 0)
 | _=>none
noncomputable def mf(f g:CO D)(γ:Ctx):Option D:=((f γ).bind ix).bind λi=>((g γ).bind ix).map λj=> .int (if j>i then j else i)
noncomputable def sH(f:CO (Sk×List D))(γ:Ctx):Option Bool:=(f γ).map λa=> !a.2.isEmpty
noncomputable def dR(f:CO D):CO D:=λa=>((f a).bind ix).map λi=> .int (-i)
noncomputable def y8(F G:D->D->Option D)(C I J:CO D):CO D:=λa=>(C a).bind λx=>(I a).bind λy=>((F x y).bind nz).bind λb=>if b=bX then (J a).bind λz=>G y z else bQ (.bl cE)
noncomputable def wA(T:Tg)(f:CO D)(γ:Ctx):Option Fl:=(f γ).bind λd=>(xC T d γ).map .next
noncomputable def Mi:D->Option Int
 | .tup (.int k::_)=>bQ k
 | _=>none
noncomputable def CF:List D->Option (List Int)
 | []=>bQ []
 | d::r=>(Mi d).bind λk=>(CF r).map λl=>k::l
noncomputable def Lc:List Int->Bool
 | a::b::r=>decide (a<b) && Lc (b::r)
 | _=>bX
noncomputable def Mg(ks:List Int):Nat:=(ks.dropLast.filter λk=>decide<|k<ks.getLast?.getD 0).length
noncomputable def Mj(q:Nat)(ds:List D):List D:=ds.dropLast.take q++(ds.drop (ds.length - 1)++ds.dropLast.drop q)
noncomputable def Gp(ds:List D):Option (List D):=(CF ds).bind λa=>if (1<=ds.length/\ds.length<=8)/\Lc a.dropLast=bX/\decide (a.getLast?.getD 0∈a.dropLast)=cE then bQ (Mj (Mg a) ds)else none
noncomputable def Gq(f:CO (Sk×List D))(γ:Ctx):Option (List D):=(f γ).bind λa=>match a.1 with
 | .L=>Gp a.2
 | _=>none
noncomputable def Wa:D->Bool
 | .tup _=>cE
 | .lst _=>cE
 | .i8 _ _=>cE
 | .i0 _ _=>cE
 | _=>bX
end DL
namespace L2
open PySem PySem.Spec PyProof.Rows
noncomputable def j1(k:Sk)(h:eg)(i l:di)(n:Nat):Prop:=match k with
 | .L=>h.IsListIter i l n
 | .T=>h.IsTupleIter i l n
noncomputable def m8(k:Sk)(h:eg)(l:di)(xs:Array dj):Prop:=match k with
 | .L=>h.IsList l xs
 | .T=>h.IsTuple l xs
noncomputable def mu(k:Sk)(l:di):m5:=match k with
 | .L=>{cls:= .type "list_iterator",data:= .fields #[.ref l,.int 0 0]}
 | .T=>{cls:= .type "tuple_iterator",data:= .fields #[.ref l,.int 0 0]}
theorem j1.at(x:j1 k h i l n)(e : ∀o,h.get? i=bQ o->h'.get? i=bQ o):j1 k h' i l n:=by cases k<;>exact let ⟨o,z,r⟩:=x;⟨o,e _ z,r⟩
theorem m8.at(x:m8 k h l xs)(e : ∀o,h.get? l=bQ o->h'.get? l=bQ o):m8 k h' l xs:=by cases k<;>exact let ⟨o,z,r⟩:=x;⟨o,e _ z,r⟩
theorem j1.obj(x:j1 k h i l n) : ∃o,h.get? i=bQ o/\∀v,o.data ≠ .cell v:=by cases k<;>exact let ⟨o,I,_,d⟩:=x;⟨o,I,λv z=>by rw[d]at z;cases z⟩
theorem m8.lt(x:m8 k h l xs):l<h.objs.size:=by cases k<;>exact let ⟨o,z,_⟩:=x;Nh z
theorem XG(k:Sk)(h:eg)(l:di):j1 k (h.push<|mu k l) h.objs.size l 0:=by cases k<;>exact⟨_,Nm _ rfl,rfl,rfl⟩
section
variable{prog:hG}{w:f9}{A:l7}{E:EQ}{s:dy}
theorem Y5(z:m8 k s.heap l xs)(I:Q (.ref s.heap.objs.size) {s with heap:=s.heap.push (mu k l)}):wpAny (d6 prog w) A (M3<|.ref l) Q E s:=by
 cases k
 ·exact Ug z I
 ·exact Sy z I
theorem w9(O:j1 k s.heap it l i)(U:m8 k s.heap l items)(hx:items[i]? = bQ x)
 (C : ∀h',j1 k h' it l (i+1)->RH it s.heap h'->Q x {s with heap:=h'}):wpAny (d6 prog w) A (NH<|.ref it) Q E s:=by
 cases k with
 | L=>exact wpAny_nextOf_list_item O U hx C
 | T=>
  have I:s.heap.IsTupleIter it l i:=O;obtain⟨o,z,e,a⟩:=id I;obtain⟨g,b,_,f,d⟩:=(show s.heap.IsTuple l items from U);unfold NH;refine MQ (OH (name:=NS "__next__") I.typeIs Sq (OY Sq I.typeIs I_ ?_ (D_ _)));refine MQ (m:=field (.ref it) 0) (Oq z a (x:= .ref l) rfl ?_);show wpAny _ _ (if (OK l==Ox)=bX then _ else _) _ _ s;rw[UY (show ¬((OK l==Ox)=bX)from Nw)];refine MQ (m:=field (.ref it) 1) (Oq z a (x:= .int i 0) rfl ?_);refine MQ (m:=seqItems? (.ref l)) (Pp b d ?_);simp only[Oi,hx];refine MQ (wpAny_setField z a ⋯ (Na ⟨x,rfl,Na (C _ ?_ (RH.update ..))⟩));show Heap.IsTupleIter _ it l (i+1);exact⟨_,SQ _ z (Obj.isFreed_of_fields (Tz a _)),(Obj.cls_mapFields ..).trans e,by rw[Tz a];simp[Dx]⟩
theorem Kt(z:A.handled=none)(U:j1 k s.heap it l i)(C:m8 k s.heap l items)(hx:items[i]? = none)
 (hE : ∀h' e,Heap.ExtBut it s.heap h'->(∃o,h'.get? e=bQ o/\o.cls = .type "StopIteration")->E (.ref e) {s with heap:=h'}):wpAny (d6 prog w) A (NH (.ref it)) Q E s:=by
 cases k with
 | L=>exact wpAny_nextOf_list_end z U C hx hE
 | T=>
  have I:s.heap.IsTupleIter it l i:=U;obtain⟨o,O,g,b⟩:=id I;obtain⟨j,d,_,h,f⟩:=(show s.heap.IsTuple l items from C);unfold NH;refine MQ (OH (name:=NS "__next__") I.typeIs Sq (OY Sq I.typeIs I_ ?_ (D_ _)));refine MQ (m:=field (.ref it) 0) (Oq O b (x:= .ref l) rfl ?_);show wpAny _ _ (if (OK l==Ox)=bX then _ else _) _ _ s;rw[UY (show ¬((OK l==Ox)=bX)from Nw)];refine MQ (m:=field (.ref it) 1) (Oq O b (x:= .int i 0) rfl ?_);refine MQ (m:=seqItems? (.ref l)) (Pp d f ?_);simp only[Oi,hx];refine MQ (Si (MQ (wpAny_setField O b ⋯ ?_)));refine MQ (m:=newExc (.type "StopIteration") []) ?_;simp only[newExc,newTuple];refine MQ (OG ?_ (by size_fits));refine MQ (m:=P4 _ _) (wpAny_of_eq (a:=Ox) (by first | rfl | (simp only[P4];rfl)) ?_);refine OG ?_ (by size_fits);simp only[raiseNew];refine MQ (wpAny_handled ?_)
  first | rw[show A.in1.handled=none from z] | rw[z]
  exact MQ<|Na<|wpAny_throw<|hE _ _ (((RH.update ..).extBut.push _).push _) ⟨_,Nm _ rfl,rfl⟩
theorem cW{S Y:Sk}{z TI TO O U J L:di}{n1 n2:Nat}{xs ys:Array dj}{x y a b:dj}{Q:EQ}(D:O5 z TI TO O U J L)
 (C:sh s.heap z TI TO .none) (Z:m7 s.heap TI (.ref O) (.ref U)) (bd:m7 s.heap TO a b)
 (h1:j1 S s.heap O J n1) (h2:j1 Y s.heap U L n2) (be:m8 S s.heap J xs) (bf:m8 Y s.heap L ys) (hx:xs[n1]? = bQ x) (hy:ys[n2]? = bQ y)
 (hQ : ∀h',sh h' z TI TO (Dx s.heap.objs.size)->m7 h' TO x y->j1 S h' O J (n1+1)->j1 Y h' U L (n2+1)->m7 h' s.heap.objs.size x y->h'.objs.size=s.heap.objs.size+1->
   (∀c o,c≠z->c≠TO->c≠O->c≠U->s.heap.get? c=bQ o->h'.get? c=bQ o)->Q (.ref s.heap.objs.size) {s with heap:=h'}) :
 wpAny (d6 prog w) A (n5.«zip.__next__» ⟨[.ref z],[]⟩) (λbl s'=>∃v,bl = .done (.ret v)/\Q v s') E s:=by
 refine MQ (m:=field (.ref z) 2)<|Oq C rfl (x:= .bool cE) rfl ?_;refine MQ (m:=field (.ref z) 3)<|Oq C rfl (x:= .ref TI) rfl ?_;refine MQ<|Pp Z rfl ?_;refine MQ (m:=Ob<|.ref z) ?_;unfold Ob;refine MQ<|Oq C rfl (x:= .none) rfl<|Na ?_;simp only[if_true];refine MQ<|Si<|MQ<|Oq C rfl (x:= .ref TO) rfl ?_;refine MQ<|OJ C ⋯ λg1 u d=>?_;replace u:sh g1 z TI TO .ellipsis:=u;refine MQ ?_;simp only[List.zipIdx_cons,List.zipIdx_nil,List.forIn_cons,List.forIn_nil];refine MQ<|MQ<|TY ?_;refine MQ (m:=NH<|.ref O)<|w9 (h1.at λo e=>d.extBut _ _ D.i1z e) (be.at λo e=>d.extBut _ _ D.l1z e) hx λg2 X g=>Na ?_;have M:m7 g2 TO a b:=g.extBut _ _ D.TOi1<|d.extBut _ _ D.TOz bd;refine MQ<|Pp M rfl<|MQ<|Tx M λg3 B h=>?_;replace B:m7 g3 TO x b:=B;refine MQ<|TL<|Na<|MQ<|MQ<|TY ?_;refine MQ (m:=NH<|.ref U)<|w9 (h2.at λo e=>h.extBut _ _ D.TOi2.symm<|g.extBut _ _ D.i12.symm<|d.extBut _ _ D.i2z e) (bf.at λo e=>h.extBut _ _ D.l2TO<|g.extBut _ _ D.l2i1<|d.extBut _ _ D.l2z e) hy λg4 c0 i=>Na ?_;have N:m7 g4 TO x b:=i.extBut _ _ D.TOi2 B;refine MQ<|Pp N rfl<|MQ<|Tx N λI n j=>?_;replace n:m7 I TO x y:=n;refine MQ<|TL<|Na<|Na<|MQ<|Pp n rfl<|MQ<|wpAny_newTuple ?_;have l:I.objs.size=s.heap.objs.size:=by rw[j.1,i.1,h.1,g.1,d.1]
 have P:sh I z TI TO .ellipsis:=j.extBut _ _ D.TOz.symm (i.extBut _ _ D.i2z.symm (h.extBut _ _ D.TOz.symm (g.extBut _ _ D.i1z.symm u)));have c5 : ∀c o,c≠z->c≠TO->c≠O->c≠U->s.heap.get? c=bQ o->I.get? c=bQ o:=λc o f r H K e=>j.extBut _ _ r (i.extBut _ _ K (h.extBut _ _ r (g.extBut _ _ H (d.extBut _ _ f e))));have c6:j1 S I O J (n1+1):=X.at λo e=>j.extBut _ _ D.TOi1.symm (i.extBut _ _ D.i12 (h.extBut _ _ D.TOi1.symm e));have c7:j1 Y I U L (n2+1):=c0.at λo e=>j.extBut _ _ D.TOi2.symm e;have R:z<I.objs.size:=Nh P;refine MQ (m:=OT (.ref z) (.ref I.objs.size)) ?_;unfold OT;have c8:sh (I.push {cls:= .type "tuple",data:= .seq #[x,y]}) z TI TO .ellipsis:=MT _ P;refine MQ (OJ c8 ⋯ λg7 as F=>?_);replace as:sh g7 z TI TO (Dx I.objs.size):=as;refine OJ as ⋯ λk p G=>?_;replace p:sh k z TI TO (Dx I.objs.size):=p;have t : ∀c o,c≠z->I.get? c=bQ o->k.get? c=bQ o:=λc o f e=>G.extBut _ _ f (F.extBut _ _ f (MT _ e));have T:m7 k I.objs.size x y:=G.extBut _ _ (Pg R) (F.extBut _ _ (Pg R) (Nm _ rfl));have W:k.objs.size=I.objs.size+1:=by rw[G.1,F.1,NV]
 rw[l]at p T W;refine Na ⟨_,rfl,?_⟩;show Q (.ref I.objs.size) _;rw[l];exact hQ k p (t _ _ D.TOz n) (c6.at λo e=>t _ o D.i1z e) (c7.at λo e=>t _ o D.i2z e) T W λc o f r H K e=>t c o f<|c5 c o f r H K e
theorem lF{k1 k2:Sk}{z TI TO U C L S:di}{n1 n2:Nat}{xs ys:Array dj}{a b:dj}{Q:Fin->dy->Prop}(hh:A.handled=none)(D:O5 z TI TO U C L S)
 (J:sh s.heap z TI TO .none) (b0:m7 s.heap TI (.ref U) (.ref C)) (b5:m7 s.heap TO a b)
 (Z:j1 k1 s.heap U L n1) (h2:j1 k2 s.heap C S n2) (Y:m8 k1 s.heap L xs) (b6:m8 k2 s.heap S ys) (b7:xs[n1]? = none\/ys[n2]? = none)
 (hE : ∀h' e,(∀c o,c≠z->c≠TO->c≠U->c≠C->s.heap.get? c=bQ o->h'.get? c=bQ o)->(∃o,h'.get? e=bQ o/\o.cls = .type "StopIteration")->E (.ref e) {s with heap:=h'}) :
 wpAny (d6 prog w) A (n5.«zip.__next__» ⟨[.ref z],[]⟩) Q E s:=by
 refine MQ (m:=field (.ref z) 2) (Oq J rfl (x:= .bool cE) rfl ?_);refine MQ (m:=field (.ref z) 3) (Oq J rfl (x:= .ref TI) rfl ?_);refine MQ (Pp b0 rfl ?_);refine MQ (m:=Ob (.ref z)) ?_;unfold Ob;refine MQ (Oq J rfl (x:= .none) rfl (Na ?_));simp only[if_true];refine MQ (Si (MQ (Oq J rfl (x:= .ref TO) rfl ?_)));refine MQ (OJ J ⋯ λg1 n I=>?_);replace n:sh g1 z TI TO .ellipsis:=n;refine MQ ?_;simp only[List.zipIdx_cons,List.zipIdx_nil,List.forIn_cons,List.forIn_nil];refine MQ (MQ (TY ?_));have u : ∀{g e:_} {k:m5},sh g z TI TO .ellipsis->(∀c o,c≠z->c≠TO->c≠U->c≠C->s.heap.get? c=bQ o->g.get? c=bQ o)->g.get? e=bQ k->k.cls = .type "StopIteration"->
  wpAny (d6 prog w) A (setField (.ref z) 0 .none) (λ_ G=>E (.ref e) G) E {s with heap:=g}:=λ{g e k} q5 hk d i=>by
  have B:e≠z:=λq=>by subst q;rw[q5]at d;cases d;simp at i
  exact OJ q5 ⋯ λg3 _ f=>hE g3 e (λc o j p l r q=>f.extBut _ _ j<|hk c o j p l r q) ⟨k,f.extBut _ _ B d,i⟩
 cases hx:xs[n1]? with
 | none=>
  refine MQ (m:=NH<|.ref U)<|Kt hh (Z.at λo e=>I.extBut _ _ D.i1z e) (Y.at λo e=>I.extBut _ _ D.l1z e) hx λg2 e O t=>?_;obtain⟨k,d,i⟩:=t;exact u (O _ _ D.i1z.symm n) (λc o j _ l _ q=>O _ _ l<|I.extBut _ _ j q) d i
 | some x=>
  have F:ys[n2]? = none:=by rcases b7 with h | h;rw[hx]at h;cases h;exact h
  refine MQ (m:=NH<|.ref U)<|w9 (Z.at λo e=>I.extBut _ _ D.i1z e) (Y.at λo e=>I.extBut _ _ D.l1z e) hx λg2 H O=>Na ?_;have as:m7 g2 TO a b:=O.extBut _ _ D.TOi1<|I.extBut _ _ D.TOz b5;refine MQ<|Pp as rfl<|MQ<|Tx as λg3 K f=>?_;refine MQ<|TL<|Na<|MQ<|MQ<|TY ?_;refine MQ (m:=NH<|.ref C)<|Kt hh (h2.at λo e=>f.extBut _ _ D.TOi2.symm<|O.extBut _ _ D.i12.symm<|I.extBut _ _ D.i2z e) (b6.at λo e=>f.extBut _ _ D.l2TO<|O.extBut _ _ D.l2i1<|I.extBut _ _ D.l2z e) F λM e y t=>?_;obtain⟨k,d,i⟩:=t;exact u (y _ _ D.i2z.symm<|f.extBut _ _ D.TOz.symm<|O.extBut _ _ D.i1z.symm n) (λc o j p l r q=>y _ _ r<|f.extBut _ _ p<|O.extBut _ _ l<|I.extBut _ _ j q) d i
end
noncomputable def ZG(a b:dj):m5:={cls:= .type "tuple",data:= .seq #[a,b]}
noncomputable def FQ(TI TO:di):m5:={cls:= .type "zip",data:= .fields #[.none,.bool cE,.bool cE,.ref TI,.ref TO]}
noncomputable def QW(z I:Sk)(h:eg)(O C:di):eg:=
 Og (Og (Og (Og (Og h<|mu z O)<|mu I C)<|ZG (.ref h.objs.size)<|.ref<|h.objs.size+1)<|ZG .none .none) (FQ (h.objs.size+2)<|h.objs.size+3)
theorem lE(I O:Sk)(z C:di)(xs ys:Array dj) :
 D3 (n5.«zip.__new__» ⟨[.type "zip",.ref z,.ref C],[]⟩) (λ_ R s=>m8 I s.heap z xs/\m8 O s.heap C ys/\
  R (.ok<|.ret<|.ref<|s.heap.objs.size+4) {s with heap:=QW I O s.heap z C}):=
 .of_wp λa w A R s h=>by
  obtain⟨U,g,d,b,os⟩:=s;obtain⟨f,i,h⟩:=h;have l:=sub_zip;have j:m8 I (Shared.heap ⟨U,g,d,b,os⟩) z xs:=f;have k:m8 O (Shared.heap ⟨U.push<|mu I z,g,d,b,os⟩) C ys:=i.at λo e=>MT _ e
  wp_walk using Y5 j,Y5 k
  refine⟨_,rfl,?_⟩;simp only[QW,ZG,FQ,NV]at h ⊢;exact h
section
variable{X:Cx}{pins:UQ}{σ:St}{H:Hp}{s:dy}{h':eg}
theorem Inv.T4{t':Nat}{fp:List di}{a:di}{o:HO}(I:Inv X pins σ H s)(k : ∀b u,b∉fp->s.heap.get? b=bQ u->h'.get? b=bQ u)(C : ∀b∈fp,Jd X pins H b)
 (J:s.heap.objs.size<=a) (new:i5 X.prog X.w (upd H a o) h' a o):Inv X pins σ (upd H a o) {s with heap:=h',toks:=t'}:=by
 have d:H a=none:=I.eo.fresh J;have g : ∀b u,H b=bQ u->b∉fp:=λb u e z=>by rw[(C b z).1]at e;cases e
 have i : ∀b u,s.heap.get? b=bQ u->b≠a:=λb u e=>NI<|Nr (Nh e) J;refine I.step (g':=s.gens) (d':=s.drawn) (ch:=fp) (λb O=>⟨(C b O).2.2.2.1,(C b O).2.1,(C b O).2.2.2.2.1,(C b O).2.2.2.2.2⟩) (λb u _ _ U e _=>k b u U e) (λb u _ _ U e _=>⟨u.slots,k b u U e⟩)
  (λb u _ e n=>by rw[zV (i b u e)];exact n) (λb u U e=>⟨u,k b u U e⟩) (λb h e=>by rw[zV (qm e d)];exact e) (λb f h e=>by rw[zV (qm e d)];exact e)
  (λb x e=>⟨#[],by rw[zV (qm e d),e];simp⟩) (λm p=>?_) (λb u e=>?_) I.bare
 ·obtain⟨f,l,j,t,r⟩:=p
  refine⟨f,l,j,k _ f (λz=>(C _ z).2.1 rfl) t,r⟩
 ·by_cases O:b=a
  ·subst O;rw[zW]at e;cases e;exact new
  ·rw[zV O]at e
   refine(I.eo b u e).C9 (λc v U q=>k c v ?_ q) (λc q=>by rw[zV (qm q d)];exact q) λc h q=>by rw[zV (qm q d)];exact q
   rcases U with z | z
   ·rw[z];exact g b u e
   ·exact g c _ z
theorem Inv.Dc{t':Nat}{fp:List di}(I:Inv X pins σ H s)(k : ∀b u,b∉fp->s.heap.get? b=bQ u->h'.get? b=bQ u)(U : ∀b∈fp,Jd X pins H b):Inv X pins σ H {s with heap:=h',toks:=t'}:=by
 have f : ∀b u,H b=bQ u->b∉fp:=λb u e z=>by rw[(U b z).1]at e;cases e
 refine I.step (g':=s.gens) (d':=s.drawn) (ch:=fp) (λb a=>⟨(U b a).2.2.2.1,(U b a).2.1,(U b a).2.2.2.2.1,(U b a).2.2.2.2.2⟩) (λb u _ _ O e _=>k b u O e) (λb u _ _ O e _=>⟨u.slots,k b u O e⟩)
  (λb u _ e n=>n) (λb u O e=>⟨u,k b u O e⟩) (λb g e=>e) (λb d g e=>e)
  (λb o e=>⟨#[],by rw[e];simp⟩) (λm j=>?_) (λb u e=>?_) I.bare
 ·obtain⟨d,i,h,l,r⟩:=j
  refine⟨d,i,h,k _ d (λz=>(U _ z).2.1 rfl) l,r⟩
 ·refine(I.eo b u e).C9 (λc v O q=>k c v ?_ q) (λc q=>q) λc g q=>q
  rcases O with z | z
  ·rw[z];exact f b u e
  ·exact f c _ z
end
noncomputable def kr(k:Sk)(K:MP)(H:Hp)(a:di)(xs:List V):Prop:=match k with
 | .L=>eU K H a xs
 | .T=>ft K H a xs
theorem Inv.sq(I:Inv X pins σ H s)(h:kr k X.K H a xs) :
 ∃O:List dj,d9 xs O/\m8 k s.heap a O.toArray/\xs.length<=ej:=by
 cases k with
 | L=>obtain⟨O,r,p,z⟩:=I.list h;exact⟨O,r,p.isList,z⟩
 | T=>obtain⟨O,r,p,z⟩:=I.tuple h;exact⟨O,r,p,z⟩
theorem Inv.S8(I:Inv X pins σ H s)(h:kr k X.K H a xs)(h':kr k X.K H a ys):xs=ys:=by
 cases k with
 | L=>exact I.R5 h h'
 | T=>exact I.Wi h h'
noncomputable def N9(z I:Sk)(K:MP)(a b:di):It:=
 ⟨λi H=>∃d e,kr z K H a d/\kr I K H b e/\i<d.length/\i<e.length,
  λi H x f=>∃p u v,x = .ref p/\H p=none/\f=upd H p (.tup [u,v])/\(∀d,kr z K H a d->d[i]? = bQ u)/\(∀e,kr I K H b e->e[i]? = bQ v),
  λi H=>∃d e,kr z K H a d/\kr I K H b e/\(d.length<=i\/e.length<=i)⟩
theorem lM{P:hG}{w:f9}{K:MP}{elts:List dt}{x1:Nat}{t9:fh}(k1 k2:Sk){z TI TO i1 i2 a b:di}(D:O5 z TI TO i1 i2 a b) :
 Turn P w K (.Tuple elts x1 t9) (N9 k1 k2 K a b) [z,TI,TO,i1,i2] z (λi h=>sh h z TI TO .none/\m7 h TI (.ref i1) (.ref i2)/\(∃c d,m7 h TO c d)/\j1 k1 h i1 a i/\j1 k2 h i2 b i) where
 mem:=by simp
 obj:=λi h ⟨U,a8,⟨c,d,ac⟩,h1,h2⟩ y hy=>by
  simp only[Nc,ND,or_false]at hy;rcases hy with rfl | rfl | rfl | rfl | rfl
  ·exact⟨_,U,λv q=>by cases q⟩
  ·exact⟨_,a8,λv q=>by cases q⟩
  ·exact⟨_,ac,λv q=>by cases q⟩
  ·exact h1.obj
  ·exact h2.obj
 keep:=λi h h' ⟨U,a8,⟨c,d,ac⟩,h1,h2⟩ k=>
  ⟨k z ⋯ _ U,k TI ⋯ _ a8,⟨c,d,k TO ⋯ _ ac⟩,h1.at λo e=>k i1 ⋯ o e,h2.at λo e=>k i2 ⋯ o e⟩
 item:=by
  rintro X hP hw hK hc i pins s σ H E I hf ⟨U,a8,⟨c,d,ac⟩,h1,h2⟩ ⟨xs,ys,ap,as,be,bf⟩;subst hP hw hK;obtain⟨bg,b5,p1,z1⟩:=I.sq ap;obtain⟨bl,b7,p2,z2⟩:=I.sq as;have hx:xs[i]? = bQ xs[i]:=MS be;have hy:ys[i]? = bQ ys[i]:=MS bf;obtain⟨u1,bn,br⟩:=b5.get hx;obtain⟨u2,bv,c0⟩:=b7.get hy;have hT:s.TypeIs (.ref z) "zip":=⟨_,U,rfl⟩;unfold DR;refine MQ (SR (OH (name:=NS "__next__") hT Tf (OY Tf hT F.entry_zip_next
   (cW D U a8 ac h1 h2 p1 p2 (x:=u1) (y:=u2) (by simpa using bn) (by simpa using bv) λg a1 a2 a3 a4 a5 a6 a7=>Na ⟨_,rfl,?_⟩) (F.args_zip_next_1 _))))
  refine wpAny_letOwnedTupleGo_zip a1 λg2 q5 ae=>?_;have lt : ∀{c o},s.heap.get? c=bQ o->s.heap.objs.size≠c:=λe=>Pg<|Nh e;have c6:m7 g2 s.heap.objs.size u1 u2:=ae.extBut _ _ (lt U) a5;have kk : ∀b' u,b' ∉ [z,TI,TO,i1,i2]->s.heap.get? b'=bQ u->g2.get? b'=bQ u:=λb' u O e=>by simp only[Nc,ND,or_false,not_or]at O;exact ae.extBut _ _ O.1<|a7 b' u O.1 O.2.2.1 O.2.2.2.1 O.2.2.2.2 e
  have I1:Inv X pins σ (upd H s.heap.objs.size<|.tup [xs[i],ys[i]]) {s with heap:=g2,toks:=s.toks}:=
   I.T4 (fp:=[z,TI,TO,i1,i2]) kk hf (MY _) ⟨by show 2<=ej;decide,[u1,u2],.cons br<|.cons c0 .nil,⟨_,c6,rfl,_,rfl⟩⟩
  have c8:H s.heap.objs.size=none:=I.fresh;refine⟨.ref s.heap.objs.size,_,I1,rfl,⟨_,_,_,rfl,c8,rfl,λci b8=>by rw[I.S8 b8 ap];exact hx,λcj b8=>by rw[I.S8 b8 as];exact hy⟩,?_,λb' O=>?_⟩
  ·exact⟨q5,ae.extBut _ _ D.TIz<|a7 _ _ D.TIz D.TITO D.TIi1 D.TIi2 a8,⟨_,_,ae.extBut _ _ D.TOz a2⟩,a3.at λo e=>ae.extBut _ _ D.i1z e,a4.at λo e=>ae.extBut _ _ D.i2z e⟩
  ·have c9:b'≠s.heap.objs.size:=by
    simp only[Nc,ND,or_false]at O;rcases O with rfl | rfl | rfl | rfl | rfl
    ·exact(lt U).symm
    ·exact(lt a8).symm
    ·exact(lt ac).symm
    ·obtain⟨o,e,_⟩:=h1.obj;exact(lt e).symm
    ·obtain⟨o,e,_⟩:=h2.obj;exact(lt e).symm
   rw[zV c9];exact(hf b' O).1
 done:=by
  rintro X hP hw hK hc i pins s σ H E I hf ⟨U,a8,⟨c,d,ac⟩,h1,h2⟩ ⟨xs,ys,ap,as,hi⟩;subst hP hw hK;obtain⟨bg,b5,p1,z1⟩:=I.sq ap;obtain⟨bl,b7,p2,z2⟩:=I.sq as;have hT:s.TypeIs (.ref z) "zip":=⟨_,U,rfl⟩;have l1:=b5.length;have l2:=b7.length;unfold DR;refine MQ (SR (OH (name:=NS "__next__") hT Tf (OY Tf hT F.entry_zip_next
   (lF (show X.A.handled=none from I.ok.hd hc) D U a8 ac h1 h2 p1 p2 (by rcases hi with q | q;left;simp;omega;right;simp;omega) λg e hk he=>?_) (F.args_zip_next_1 _))))
  obtain⟨o,ho,ce⟩:=he;refine MQ (wpAny_isInstance (T:="StopIteration") (b:=bX) ⟨o,ho,ce⟩ isSubtype_stop (Na ⟨rfl,?_⟩));refine I.Dc (t':=s.toks) (fp:=[z,TI,TO,i1,i2]) (λb' u O e=>?_) hf;simp only[Nc,ND,or_false,not_or]at O;exact hk b' u O.1 O.2.2.1 O.2.2.2.1 O.2.2.2.2 e
 self:=λ_ _ _ _ _ st h=>wpAny_pyIter_zip st.1 h
noncomputable def Mk(K:MP)(C:TA):TI:=λh H R=>C h H λe d=>∃z I a b,e=[.ref a,.ref b]/\(∃f,kr z K d a f)/\(∃g,kr I K d b g)/\R (N9 z I K a b) d
theorem BQ{X:Cx}{L U:dt}{Y:TA}{p pos:fh}{C:List dt}{x1:Nat}{J:fh}(hg:Gl X "zip")(hm:X.mg "zip" = none)(ha:PA X [L,U] Y)
 (hv:C1 "zip" = bQ (.type "zip")) (hs:el [L,U] X.env=[(cE,dv L X.env),(cE,dv U X.env)]:=by rfl) (S:el [U] X.env=[(cE,dv U X.env)]:=by rfl) :
 PI X (.Tuple C x1 J) (.Call (.Name "zip" p) [L,U] [] pos) (Mk X.K Y):=by
 intro g s E H R I h;refine DZ (vy I hg hm hv<|Ou (ea (ha pos g s E H _ I h) λus d Z=>?_) (by rw[hs,S])<|by rw[S];rfl);obtain⟨vs,r,i,r1,q1⟩:=Z;obtain⟨z,O,a,b,e,⟨xs,M⟩,⟨ys,as⟩,q⟩:=q1;subst e;obtain⟨w1,w2,W,N,P⟩:=rk r1;subst W;cases N;cases P;obtain⟨Q,bi,w,z1⟩:=i.sq M;obtain⟨T,bm,x,z2⟩:=i.sq as;have la:=w.lt;have lb:=x.lt;refine callType_new F.called_zip ⋯ (F.typeCall_zip_2 _ _) (F.newCall_zip_2 _ _) (λobj=>F.args_object_init_3 obj _ _) F.entry_zip_new (lE z O a b Q.toArray T.toArray) ⟨w,x,?_⟩;have keep : ∀c o,d.heap.get? c=bQ o->(QW z O d.heap a b).get? c=bQ o:=λc o e=>
  MT _ (MT _<|MT _<|MT _<|MT _ e)
 have y:(Og d.heap<|mu z a).objs.size=d.heap.objs.size+1:=NV ..;have A:(Og (Og d.heap<|mu z a)<|mu O b).objs.size=d.heap.objs.size+2:=by rw[NV,y]
 have B:(Og (Og (Og d.heap<|mu z a)<|mu O b)<|ZG (.ref d.heap.objs.size)<|.ref<|d.heap.objs.size+1).objs.size=d.heap.objs.size+3:=by rw[NV,A]
 have y4:(Og (Og (Og (Og d.heap<|mu z a)<|mu O b)<|ZG (.ref d.heap.objs.size)<|.ref<|d.heap.objs.size+1)<|ZG .none .none).objs.size=d.heap.objs.size+4:=by rw[NV,B]
 have g0:j1 z (QW z O d.heap a b) d.heap.objs.size a 0:=(XG z d.heap a).at λo e=>MT _<|MT _<|MT _<|MT _ e;have g1:j1 O (QW z O d.heap a b) (d.heap.objs.size+1) b 0:=by have q:=XG O (Og d.heap<|mu z a) b;rw[y]at q;exact q.at λo e=>MT _<|MT _<|MT _ e
 have g2:m7 (QW z O d.heap a b) (d.heap.objs.size+2) (.ref d.heap.objs.size) (.ref<|d.heap.objs.size+1):=by have q:_=bQ (ZG (.ref d.heap.objs.size)<|.ref<|d.heap.objs.size+1):=Nm (Og (Og d.heap<|mu z a)<|mu O b) (o:=ZG (.ref d.heap.objs.size)<|.ref<|d.heap.objs.size+1) rfl;rw[A]at q;exact MT _<|MT _ q
 have g3:m7 (QW z O d.heap a b) (d.heap.objs.size+3) .none .none:=by have q:_=bQ (ZG .none .none):=Nm (Og (Og (Og d.heap<|mu z a)<|mu O b)<|ZG (.ref d.heap.objs.size)<|.ref<|d.heap.objs.size+1) (o:=ZG .none .none) rfl;rw[B]at q;exact MT _ q
 have l:sh (QW z O d.heap a b) (d.heap.objs.size+4) (d.heap.objs.size+2) (d.heap.objs.size+3) .none:=by have q:=Nm (Og (Og (Og (Og d.heap<|mu z a)<|mu O b)<|ZG (.ref d.heap.objs.size)<|.ref<|d.heap.objs.size+1)<|ZG .none .none) (o:=FQ (d.heap.objs.size+2)<|d.heap.objs.size+3) rfl;rw[y4]at q;exact q
 refine⟨⟨_,l,rfl⟩,wpAny_pyIter_zip (s:={d with heap:=QW z O d.heap a b}) l ?_⟩;have G:Inv X g E r {d with heap:=QW z O d.heap a b,toks:=d.toks}:=i.kept keep;have nn : ∀m:Nat,d.heap.objs.size≠d.heap.objs.size+m+1:=λm=>by omega
 have j : ∀m:Nat,a≠d.heap.objs.size+m:=λm=>NI<|Nr la<|NY _ m;have k : ∀m:Nat,b≠d.heap.objs.size+m:=λm=>NI<|Nr lb<|NY _ m;have f : ∀m n:Nat,m≠n->(d.heap.objs.size+m:Nat)≠d.heap.objs.size+n:=λm n h=>by omega
 have D:O5 (d.heap.objs.size+4) (d.heap.objs.size+2) (d.heap.objs.size+3) d.heap.objs.size (d.heap.objs.size+1) a b:=
  ⟨f 2 4 ⋯,f 3 4 ⋯,f 0 4 ⋯,f 1 4 ⋯,f 2 3 ⋯,f 2 0 ⋯,f 2 1 ⋯,f 3 0 ⋯,f 3 1 ⋯,f 0 1 ⋯,
   j 4,j 3,j 0,j 1,k 4,k 3,k 0,k 1⟩
 refine⟨_,[d.heap.objs.size+4,d.heap.objs.size+2,d.heap.objs.size+3,d.heap.objs.size,d.heap.objs.size+1],_,_,r,rfl,G,lM z O D,⟨l,g2,⟨_,_,g3⟩,g0,g1⟩,λc u=>?_,q⟩;have t:d.heap.objs.size<=c:=by
  simp only[Nc,ND,or_false]at u;rcases u with rfl | rfl | rfl | rfl | rfl
  ·exact NY _ _
  ·exact NY _ _
  ·exact NY _ _
  ·exact MY _
  ·exact NY _ _
 exact i.C4 t<|i.eo.fresh t
noncomputable def T7(k:Sk)(K:MP)(a:di):It:=match k with
 | .L=>T8 K a
 | .T=>T9 K a
noncomputable def Ml(K:MP)(C:TE):TI:=λe H R=>C e H λx b=>∃a k,x = .ref a/\(∃d,kr k K b a d)/\R (T7 k K a) b
theorem pb(U:PE X l tl):PI X tg l (Ml X.K tl):=by
 intro d s t H R I h;refine ea (U d s t H _ I h) λv f i=>?_;obtain⟨x,g,z,r,n⟩:=i;obtain⟨a,k,e,⟨A,m⟩,q⟩:=n;subst e;cases r;have O : ∀b ∈ [f.heap.objs.size],Jd X d g b:=λb j=>by
  have e:b=f.heap.objs.size:=by simpa using j
  subst e;exact z.C4 (MY _)<|z.eo.fresh<|MY _
 obtain⟨u,y,p,w⟩:=z.sq m;cases k with
 | L=>exact Ug p ⟨f.heap.objs.size,[f.heap.objs.size],_,_,g,rfl,z.kept (t':=f.toks) λb o e=>MT _ e,dg a _,⟨_,Nm _ rfl,rfl,rfl⟩,O,q⟩
 | T=>exact Sy p ⟨f.heap.objs.size,[f.heap.objs.size],_,_,g,rfl,z.kept (t':=f.toks) λb o e=>MT _ e,aW a _,⟨_,Nm _ rfl,rfl,rfl⟩,O,q⟩
section
variable{κ:Type} [DecidableEq κ]
noncomputable def WB(C:List (κ×V))(k:κ):Option V:=(C.find? λz=>decide<|z.1=k).map (·.2)
noncomputable def cU(C:List (κ×V))(k:κ)(v:V):List (κ×V):=
 if (C.any λz=>decide<|z.1=k)=bX then C.map (λz=>if z.1=k then (z.1,v)else z)else C++[(k,v)]
theorem X3{p:κ×V}{r:List (κ×V)}{k:κ}(e:p.1=k):WB (p::r) k=bQ p.2:=by simp[WB,Po,e]
theorem WA{p:κ×V}{r:List (κ×V)}{k:κ}(e : ¬p.1=k):WB (p::r) k=WB r k:=by simp[WB,Po,e]
theorem J8(C:List (κ×V))(k:κ)(v:V):(cU C k v).length<=C.length+1:=by
 unfold cU;split
 ·rw[Nf];omega
 ·rw[NO,NW,Pc];omega
theorem sx.UA(r:sx o u):o.isSome=u.isSome:=by
 cases o with
 | none=>cases u with
  | none=>rfl
  | some _=>exact(show False from r).elim
 | some _=>cases u with
  | none=>exact(show False from r).elim
  | some _=>rfl
theorem KV.val{C:List (κ×V)}{vs:List (κ×dj)}(r:KV C vs)(k:κ):sx (WB C k) (DX vs k):=by
 unfold KV at r
 induction r with
 | nil=>exact PH
 | @cons p q f I h t U=>
  obtain⟨a,d⟩:=h;by_cases e:p.1=k
  ·have O:q.1=k:=a.symm.trans e
   have b:DX (q::I) k=bQ q.2:=by simp[DX,Po,O]
   rw[X3 e,b];exact d
  ·have O : ¬q.1=k:=λz=>e (a.trans z)
   have b:DX (q::I) k=DX I k:=by simp[DX,Po,O]
   rw[WA e,b];exact U
theorem KV.any(r:KV ji vs)(k:κ):(ji.any λz=>decide<|z.1=k)=vs.any λz=>decide (z.1=k):=by
 unfold KV at r
 induction r with
 | nil=>rfl
 | cons h t I=>rw[G9,G9,I,h.1]
theorem KV.U_(r:KV ji vs)(k:κ)(O:RelV y u) :
 KV (ji.map λI=>if I.1=k then (I.1,y)else I) (vs.map λI=>if I.1=k then (I.1,u)else I):=by
 unfold KV at r ⊢
 induction r with
 | nil=>exact .nil
 | @cons p q d f h t U=>
  rw[Nt,Nt];refine .cons ?_ U;obtain⟨a,b⟩:=h;by_cases e:p.1=k
  ·rw[UJ e,UJ (a.symm.trans e)];exact⟨a,O⟩
  ·rw[UY e,UY (λz=>e<|a.trans z)];exact⟨a,b⟩
theorem KV.put(r:KV ji vs)(k:κ)(z:RelV y u):KV (cU ji k y) (stored vs k u):=by
 unfold cU stored;rw[r.any k];by_cases e:(vs.any λI=>decide<|I.1=k)=bX
 ·rw[UJ e,UJ e];exact r.U_ k z
 ·rw[UY e,UY e];exact Paired.snoc r ⟨rfl,z⟩
theorem KV.length(r:KV ji vs):ji.length=vs.length:=Paired.length r
end
theorem nI(r:RelV (kV k) u):(xO P w).is k u=bX:=by
 cases k with
 | inl i=>obtain⟨t,e⟩:=(show ∃t,u=SJ i t from r);subst e;exact VZ P w i t
 | inr x=>obtain⟨t,e⟩:=(show ∃t,u=To x t from r);subst e;exact VY P w x t
theorem Y6 : ∀{ks:List Key} {us:List dj},d9 (ks.map kV) us->ItemsAre (xO P w) ks us
 | [],_,r=>by rw[SN]at r;cases r;exact .nil
 | k::ks,_,r=>by
  rw[Nt]at r;cases r with
  | cons h t=>exact .cons (nI h)<|Y6 t
abbrev KT(H:Hp):List (List Key×V)->List (List Key×di×dj)->Prop:=Paired λp q=>p.1=q.1/\H q.2.1=bQ (.tup (p.1.map kV))/\RelV p.2 q.2.2
theorem KT.val{H:Hp}{C:List (List Key×V)}{xs:List (List Key×di×dj)}(r:KT H C xs)(k:List Key):sx (WB C k) ((DD xs k).map (·.2)):=by
 induction r with
 | nil=>exact PH
 | @cons p q f I h t U=>
  obtain⟨a,_,d⟩:=h;by_cases e:p.1=k
  ·have O:q.1=k:=a.symm.trans e
   have b:DD (q::I) k=bQ q.2:=by simp[DD,Po,O]
   rw[X3 e,b];exact d
  ·have O : ¬q.1=k:=λz=>e (a.trans z)
   have b:DD (q::I) k=DD I k:=by simp[DD,Po,O]
   rw[WA e,b];exact U
section
variable{P:hG}{w:f9}{H:Hp}{h:eg}{a:di}
theorem Bt(ok:i7 P w H h)(e:Rd H a u):i5 P w H h a u:=e.ok ok
theorem nW(ok:i7 P w H h)(e:Rd H a (.dK ji)):ji.length<=ej/\(a==B0)=cE/\∃vs,KV ji vs/\h.DictOf (xO P w) a vs:=
 show i5 P w H h a (.dK ji)from Bt ok e
theorem Hw(ok:i7 P w H h)(e:H a=bQ (.dK ji)):ji.length<=ej/\(a==B0)=cE/\∃vs,KV ji vs/\h.DictOf (xO P w) a vs:=nW ok<|.inl e
theorem gi(ok:i7 P w H h)(e:H a=bQ (.tup<|ks.map kV)):(Vs<|xO P w).is h ks a:=by obtain⟨_,z,r,o,b,d,n,I⟩:=(show i5 P w H h a (.tup<|ks.map kV)from ok a _ e);exact⟨o,z.toArray,n,b,(Prod.mk.inj d).1,I,by simpa using Y6 r⟩
theorem uH(ok:i7 P w H h)(e:Rd H a (.dT ji)):ji.length<=ej/\(a==B0)=cE/\
 ∃xs,KT H ji xs/\h.DictOfH (Vs<|xO P w) a xs:=by
 obtain⟨z,y,xs,r,o,b,O,d,f,U,g,i⟩:=(show i5 P w H h a (.dT ji)from Bt ok e);refine⟨z,y,xs,r,o,b,O,d,f,U,g,λx hx=>?_,i⟩;have all : ∀{l:List (List Key×V)} {m:List (List Key×di×dj)},KT H l m->∀x∈m,(Vs<|xO P w).is h x.1 x.2.1:=by
  intro l m q
  induction q with
  | nil=>intro x hx;exact nomatch hx
  | @cons p q k n I t j=>
   intro x hx;rcases Nc.mp hx with e | hx
   ·subst e
    exact gi ok (by rw[<- I.1];exact I.2.1)
   ·exact j x hx
 exact all r x hx
end
noncomputable def EN(H:Hp)(a:di)(y:V)(r:Option V):Prop:=
 (∃d k,Rd H a (.dK d)/\y=kV k/\r=WB d k)\/∃d k b,Rd H a (.dT d)/\y = .ref b/\H b=bQ (.tup<|k.map kV)/\r=WB d k
section
variable{X:Cx}{pins:UQ}{σ:St}{H:Hp}{s:dy}{a:di}{y v:V}{u r:dj}{o:Option V}{A:l7}{E:EQ}
theorem Inv.big(I:Inv X pins σ H s):B0<s.heap.objs.size:=by have h:tr<s.heap.objs.size:=(I.mod.glob.keeps I.bk).lt;exact Nat.lt_trans ⋯ h
theorem gZ(L:A.units+1<yg)(I:Inv X pins σ H s)(g:EN H a y (bQ v))(C:RelV y u)(h : ∀w' J,Inv X pins σ H J->RelV v w'->Q w' J) :
 wpAny (d6 X.prog X.w) A (A5 (.ref a) u) Q E s:=by
 rcases g with⟨j,k,e,O,l⟩ | ⟨j,k,b,e,O,n,l⟩
 ·subst O
  obtain⟨z,r,x,U,f⟩:=nW I.eo e;obtain⟨w',i,d⟩:=sx.some_of (v:=v) (o:=DX x k) (by rw[l];exact U.val k);exact wpAny_getItem_of (nI C) f.mapOf i<|h w' _ (I.tok _) d
 ·subst O
  cases (show u=OK b from C);obtain⟨z,r,B,U,f⟩:=uH I.eo e;obtain⟨w',i,d⟩:=sx.some_of (v:=v) (o:=(DD B k).map (·.2)) (by rw[l];exact U.val k);obtain⟨p,t,m⟩:=Sz.mp i;refine wpAny_getItem_heap (_a L) (gi I.eo n) f t ?_;rw[m];exact h w' _ (I.tok _) d
theorem Mn(L:A.units+1<yg)(I:Inv X pins σ H s)(g:EN H a y o)(C:RelV y u)(h : ∀J,Inv X pins σ H J->Q (.bool o.isSome) J) :
 wpAny (d6 X.prog X.w) A (ml .In u<|.ref a) Q E s:=by
 rcases g with⟨i,k,e,O,l⟩ | ⟨i,k,b,e,O,j,l⟩
 ·subst O
  obtain⟨z,f,m,U,d⟩:=nW I.eo e;refine wpAny_in_of (nI C) f d.mapOf ?_;rw[<- (U.val k).UA,<- l];exact h _<|I.tok _
 ·subst O
  cases (show u=OK b from C);obtain⟨z,f,n,U,d⟩:=uH I.eo e;refine wpAny_in_heap (_a L) (gi I.eo j) f d ?_;have q:=(U.val k).UA;rw[Option.isSome_map]at q;rw[<- q,<- l];exact h _<|I.tok _
theorem uJ(I:Inv X pins σ H s)(O:D4 (H a))(hs:RH a s.heap h')(U : ∃q,h'.get? a=bQ q)(new:i5 X.prog X.w (upd H a ob) h' a ob) :
 Inv X pins σ (upd H a ob) {s with heap:=h',toks:=t'}:=
 I.write (x:=a) (e:=a) O (.inl rfl) (λb q d z=>(hs.2 b d).trans z) U new
theorem Ek(z:ji.length<=ej)(C:(a==B0)=cE)(I:KV ji vs)(O:h'.DictOf (xO P w) a vs) :
 i5 P w H' h' a (.dK ji):=⟨z,C,vs,I,O⟩
end
noncomputable def Iv(i:dt):Prop:=∀z I,Ta i cE z I=operate [z,I] (A5 z I)
theorem rV{prog:hG}{w:f9}{A:l7}{E:EQ}{s:dy}{env:m4}{C z:dt}{pos:fh}{T id:String}{Q:EQ}
 (L:N2 (.type T) "__getitem__" = pure (bQ (.builtin id))) (hs:Iv z)
 (h:wpAny (d6 prog w) A (dv C env) (λo J=>wpAny (d6 prog w) A (dv z env) (λi I=>I.TypeIs o T/\wpAny (d6 prog w) A (A5 o i) Q E I) E J) E s) :
 wpAny (d6 prog w) A (dv (.Subscript C z pos) env) Q E s:=by
 refine Up<|Pj h (λo J b=>Pj b (λi I O=>?_) λ_ _ x=>x) λ_ _ x=>x;obtain⟨e,O⟩:=O;unfold U0;refine MQ ?_;rw[getitemInPython_of_ne e.not_modules];refine MQ<|wpAny_specialOf e L ?_;have U:wpAny (d6 prog w) A (Ta z cE o i) (λr a=>wpAny (d6 prog w) A (letTemporaryGo C o r >>= λ_=>pure r) Q E a) E I:=by rw[hs o i];exact wpAny_operating<|Pj O (λr a d=>MQ<|wpAny_letTemporaryGo<|Na d) λ_ _ x=>x
 first
  | exact Na<|MQ U
  | exact MQ<|Na<|MQ U
  | exact MQ U
theorem Wg(I:Inv X pins σ H s)(g:EN H a y o):s.TypeIs (.ref a) "dict":=by
 rcases g with⟨d,k,e,_,_⟩ | ⟨d,k,b,e,_,_,_⟩
 ·obtain⟨_,_,f,_,z⟩:=nW I.eo e
  exact z.typeIs
 ·obtain⟨_,_,h,_,z⟩:=uH I.eo e
  exact z.typeIs
noncomputable def FZ(C ty:TE):TE:=λd H Q=>C d H λx e=>ty d e λy b=>∃a v,x = .ref a/\EN b a y (bQ v)/\Q v b
noncomputable def LO(ty C:TE):TE:=λd H Q=>ty d H λy e=>C d e λx b=>∃a o,x = .ref a/\EN b a y o/\Q (.bl o.isSome) b
section
variable{X:Cx}{o i e value:dt}{pos pos' t9:fh}{td ty tv:TE}
theorem tU(O:X.A.units+1<yg)(U:PE X o td)(C:PE X i ty)(hs:Iv i):PE X (.Subscript o i pos) (FZ td ty):=by intro b s d H Q I h;refine rV PySem.F.slot_dict_getitem.lookup hs<|ea (U b s d H _ I h) λu w ⟨x,e,j,r,n⟩=>ea (C b w d e _ j n) λB E ⟨y,f,z,t,a,v,m,g,p⟩=>?_;subst m;obtain rfl:u=OK a:=r;exact⟨Wg z g,gZ O z g t λJ G k l=>⟨v,f,k,l,p⟩⟩
theorem Ce(z:X.A.units+1<yg)(C:PE X i ty)(O:PE X o td):PC X .In i o (LO ty td):=by intro b s d H Q I h;refine ea (C b s d H _ I h) λB w ⟨y,e,U,t,n⟩=>ea (O b w d e _ U n) λu E ⟨x,f,j,r,a,m,l,g,p⟩=>?_;subst l;obtain rfl:u=OK a:=r;exact Mn z j g t λF k=>⟨.bl m.isSome,f,k,rfl,p⟩
end
theorem nX(h:eg)(z:B0<h.objs.size):i5 P w H (h.push {cls:= .type "dict",data:= .dict #[]}) h.objs.size (.dK []):=
 ⟨OD _,beq_eq_false_iff_ne.mpr<|Oa<|NI z,[],.nil,Heap.DictOf.new h⟩
end L2
namespace DL
open PySem PySem.Spec PyProof.Rows L2
noncomputable def N5:List Str:=["NoPrime","Nought","NoTable","NoWidths","NoRow","Unlike","TooMany","NoTurn","NoLine","Nothing","NoArrow","NoText","NoRoom"]
noncomputable def Ax(K:MP)(c:Str):Option di:=match PySem.W.nsIn K tr c with
 | some (bQ (.ref C))=>bQ C
 | _=>none
noncomputable def LG(K:MP)(C:di):Bool:=
 ["int","bool","str","tuple","list"].all (λt=>PZ K (.ref C) (.type t)==bQ cE) && PZ K (.ref C) (.type "ValueError")==bQ bX &&
 RX K (.ref C) "__getattribute__" == bQ (bQ (.builtin "BaseException.__getattribute__")) && RX K (.ref C) "__getattr__" == bQ none &&
 RX K (.ref C) "__class__" == bQ (bQ (.builtin "object.__class__")) && PySem.W.mroIn K C (.type "object")==bQ bX && PySem.W.mroIn K C (.type "BaseException")==bQ bX &&
 PySem.W.specialIn K (.builtin "object.__class__") "__get__" == bQ (bQ (.builtin "getset_descriptor.__get__")) && PySem.W.takesIn K (.builtin "object.__class__")==bQ bX &&
 (PySem.W.clsIn K C).any (λz=> !z.hasDel) && PySem.W.typeIn K (.ref C)==bQ (.type "type")
noncomputable def Iy(K:MP):Bool:=match Ax K "SplitError" with
 | some S=>N5.all λc=>match Ax K c with
  | some C=>LG K C && PZ K (.ref C) (.ref S)==bQ bX && N5.all λz=>match Ax K z with
   | some I=>PZ K (.ref C) (.ref I)==bQ (c==z)
   | none=>cE
  | none=>cE
 | none=>cE
noncomputable def Mu(h:eg)(a:di)(C:di):Prop:=∃o b,h.get? a=bQ o/\o.cls = .ref C/\o.data = .fields b
structure O4(K:MP)(H:Hp)(c:Str)(n:Option Int)(a:di):Prop where
 all:Iy K=bX
 mem:c∈N5
 ex : ∃C φ,Ax K c=bQ C/\H a=bQ (.ext φ)/\(∀h,φ h->Mu h a C)/\
  match n with
  | none=>True
  | some i=>∃d,(∀h,φ h->∃o,h.get? a=bQ o/\o.dict=bQ d)/\H d=bQ (.xd [(if c==("NoRoom" : Str)then "room" else "at",.int i)])
theorem O4.mono{K:MP}{H H':Hp}{c:Str}{n:Option Int}{a:di}(e : ∀b o,H b=bQ o->H' b=bQ o)(h:O4 K H c n a):O4 K H' c n a:=by
 obtain⟨f,g,C,j,I,g2,O,z⟩:=h;refine⟨f,g,C,j,I,e _ _ g2,O,?_⟩;cases n with
 | none=>exact z
 | some i=>obtain⟨d,U,f2⟩:=z;exact⟨d,U,e _ _ f2⟩
abbrev St:=L2.St
noncomputable def CM:D->Option Key
 | .int i=>bQ (.inl i)
 | .str x=>bQ (.inr x)
 | _=>none
noncomputable def YY:List D->Option (List Key)
 | []=>bQ []
 | d::ds=>(CM d).bind λk=>(YY ds).map λr=>k::r
noncomputable def Df(H:Hp)(a:di)(ks:List D)(xs:List V):Prop:=∃b,YY ks=bQ b/\b.length=xs.length/\H a=bQ (.dK<|b.zip xs)
noncomputable def FT(k:List Int):Int:=reduceHash<|Builtin.Tuple.tupleHashOf<|k.map hashInt
noncomputable def My(o:m5)(xs:List (List Int×di×dj)):Prop:=o.ExactDict/\∃a z,o.data = .dict a z/\a.toList=xs.map (λx=>⟨FT x.1,.ref x.2.1,x.2.2⟩)/\(xs.map (·.1)).Nodup
noncomputable def Uq(a:di)(o:m5):HO:= .ext λh=>h.get? a=bQ o
noncomputable def G4(K:MP)(H:Hp)(a:di)(ks:List (List Int))(ys:List V):Prop:=
 (a==B0)=cE/\∃o b,H a=bQ (Uq a o)/\My o b/\b.map (·.1)=ks/\b.length<=ej/\(∀x∈b,ft K H x.2.1<|x.1.map V.int)/\d9 ys (b.map (·.2.2))
mutual
def Rep(K:MP)(H:Hp):D->V->Prop
 | .d7,v=>v = .d7
 | .bl b,v=>v = .bl b
 | .int i,v=>v = .int i
 | .str x,v=>v = .str x
 | .tup ds,v=>∃a d,v = .ref a/\ft K H a d/\dk K H ds d
 | .lst ds,v=>∃a d,v = .ref a/\eU K H a d/\dk K H ds d
 | .i8 ks vs,v=>∃a d,v = .ref a/\Df H a ks d/\dk K H vs d
 | .i0 ks vs,v=>∃a d,v = .ref a/\G4 K H a ks d/\dk K H vs d
def dk(K:MP)(H:Hp):List D->List V->Prop
 | [],xs=>xs=[]
 | d::ds,xs=>∃x r,xs=x::r/\Rep K H d x/\dk K H ds r
end
theorem my{K:MP}{H H':Hp}{a:di}{xs:List V}(e:eM H H')(h:ft K H a xs):ft K H' a xs:=by
 rcases h with(h | ⟨o,h⟩) | h
 ·exact .inl<|.inl<|e _ _ h
 ·exact .inl<|.inr ⟨o,e _ _ h⟩
 ·exact .inr h
theorem Yv{k:Sk}{K:MP}{H H':Hp}{a:di}{xs:List V}(e:eM H H')(h:kr k K H a xs):kr k K H' a xs:=by
 cases k
 ·exact e.seq h
 ·exact my e h
mutual
theorem Rep.mono{K:MP}{H H':Hp}(e:eM H H') : ∀{d:D} {v:V},Rep K H d v->Rep K H' d v
 | .d7,_,h=>h
 | .bl _,_,h=>h
 | .int _,_,h=>h
 | .str _,_,h=>h
 | .tup ds,v,h=>by obtain⟨a,b,f,i,g⟩:=(show ∃a b,v = .ref a/\ft K H a b/\dk K H ds b from h);exact(show ∃a b,v = .ref a/\ft K H' a b/\dk K H' ds b from⟨a,b,f,my e i,dk.mono e g⟩)
 | .lst ds,v,h=>by obtain⟨a,b,f,i,g⟩:=(show ∃a b,v = .ref a/\eU K H a b/\dk K H ds b from h);exact(show ∃a b,v = .ref a/\eU K H' a b/\dk K H' ds b from⟨a,b,f,e.seq i,dk.mono e g⟩)
 | .i8 ks vs,v,h=>by obtain⟨a,b,f,⟨l,z,g2,I⟩,g⟩:=(show ∃a b,v = .ref a/\Df H a ks b/\dk K H vs b from h);exact(show ∃a b,v = .ref a/\Df H' a ks b/\dk K H' vs b from⟨a,b,f,⟨l,z,g2,e _ _ I⟩,dk.mono e g⟩)
 | .i0 ks vs,v,h=>by obtain⟨a,b,f,⟨z,o,m,g2,I,O,U,g6,j⟩,g⟩:=(show ∃a b,v = .ref a/\G4 K H a ks b/\dk K H vs b from h);exact(show ∃a b,v = .ref a/\G4 K H' a ks b/\dk K H' vs b from⟨a,b,f,⟨z,o,m,e _ _ g2,I,O,U,λx k=>my e<|g6 x k,j⟩,dk.mono e g⟩)
theorem dk.mono{K:MP}{H H':Hp}(e:eM H H') : ∀{ds:List D} {xs:List V},dk K H ds xs->dk K H' ds xs
 | [],_,h=>h
 | d::ds,xs,h=>by obtain⟨x,r,a,b,f⟩:=(show ∃x r,xs=x::r/\Rep K H d x/\dk K H ds r from h);exact(show ∃x r,xs=x::r/\Rep K H' d x/\dk K H' ds r from⟨x,r,a,Rep.mono e b,dk.mono e f⟩)
end
section
variable{K:MP}{H:Hp}
theorem dk.nil:dk K H [] []:=(show([]:List V)=[]from rfl)
theorem dk.cons(h:Rep K H d x)(t:dk K H ds xs):dk K H (d::ds) (x::xs):=⟨x,xs,rfl,h,t⟩
theorem dk.n0(h:dk K H [] xs):xs=[]:=h
theorem dk.l5(h:dk K H (d::ds) xs) : ∃x r,xs=x::r/\Rep K H d x/\dk K H ds r:=h
theorem dk.length : ∀{ds:List D} {xs:List V},dk K H ds xs->xs.length=ds.length
 | [],xs,h=>by rw[h.n0];rfl
 | d::ds,xs,h=>by obtain⟨x,r,e,_,t⟩:=h.l5;rw[e,NW,NW,dk.length t]
theorem dk.get : ∀{ds:List D} {xs:List V} {i:Nat} {d:D},dk K H ds xs->ds[i]? = bQ d->∃x,xs[i]? = bQ x/\Rep K H d x
 | [],_,_,_,_,e=>by simp at e
 | c::ds,xs,0,d,h,e=>by obtain⟨x,r,a,b,_⟩:=h.l5;simp at e;subst e;exact⟨x,by rw[a];rfl,b⟩
 | c::ds,xs,i+1,d,h,e=>by obtain⟨x,r,a,_,t⟩:=h.l5;obtain⟨y,z,g2⟩:=dk.get (i:=i) (d:=d) t (by simpa using e);exact⟨y,by rw[a];simpa using z,g2⟩
theorem dk.DN{ds:List D}{xs:List V}{i:Nat}{x:V}(h:dk K H ds xs)(e:xs[i]? = bQ x) : ∃d,ds[i]? = bQ d/\Rep K H d x:=by
 have b:i<ds.length:=by rw[<- h.length];exact(Ng.mp e).1
 obtain⟨y,a,r⟩:=h.get<|MS b;rw[e]at a;cases a;exact⟨_,MS b,r⟩
theorem dk.append : ∀{ds C:List D} {xs ys:List V},dk K H ds xs->dk K H C ys->dk K H (ds++C) (xs++ys)
 | [],_,xs,_,h,g=>by rw[h.n0];exact g
 | d::ds,C,xs,ys,h,g=>by obtain⟨x,r,e,a,t⟩:=h.l5;rw[e];exact dk.cons a<|dk.append t g
theorem dk.drop : ∀{ds:List D} {xs:List V} (n:Nat),dk K H ds xs->dk K H (ds.drop n) (xs.drop n)
 | _,_,0,h=>h
 | [],xs,n+1,h=>by rw[h.n0];exact dk.nil
 | d::ds,xs,n+1,h=>by obtain⟨x,r,e,_,t⟩:=h.l5;rw[e];exact dk.drop n t
theorem dk.take : ∀{ds:List D} {xs:List V} (n:Nat),dk K H ds xs->dk K H (ds.take n) (xs.take n)
 | _,_,0,h=>by simp;exact dk.nil
 | [],xs,n+1,h=>by rw[h.n0];exact dk.nil
 | d::ds,xs,n+1,h=>by obtain⟨x,r,e,a,t⟩:=h.l5;rw[e];exact dk.cons a<|dk.take n t
theorem dk.set : ∀{ds:List D} {xs:List V} {d:D} {x:V} (i:Nat),dk K H ds xs->Rep K H d x->dk K H (ds.set i d) (xs.set i x)
 | [],xs,_,_,_,h,_=>by rw[h.n0];exact dk.nil
 | c::ds,xs,d,x,0,h,g=>by obtain⟨y,r,e,_,t⟩:=h.l5;rw[e];exact dk.cons g t
 | c::ds,xs,d,x,i+1,h,g=>by obtain⟨y,r,e,a,t⟩:=h.l5;rw[e];exact dk.cons a<|dk.set i t g
end
structure Ext(H0 H u0 H':Hp):Prop where
 s0:eM H0 u0
 s1:eM H H'
 sub:eM u0 H'
 new : ∀a,H0 a=none->H a≠none->u0 a=none
theorem Ext.refl(s:eM H0 H):Ext H0 H H0 H:=⟨eM.refl _,eM.refl _,s,λ_ h _=>h⟩
theorem Ext.trans(a:Ext H0 H H1 G1)(b:Ext H1 G1 H2 G2):Ext H0 H H2 G2:=
 ⟨a.s0.trans b.s0,a.s1.trans b.s1,b.sub,λc e d=>b.new c (a.new c e d) (by
  cases q:H c with
  | none=>exact absurd q d
  | some o=>rw[a.s1 c o q];simp)⟩
theorem jm(h:H p=none)(o:HO):eM H (upd H p o):=λb u q=>by rw[zV (qm q h)];exact q
theorem jQ(s:eM H0 H)(h:H p=none):H0 p=none:=s.free h
theorem dO(s:eM H0 H):eM (upd H0 p o) (upd H p o):=λb u q=>by
 by_cases e:b=p
 ·subst e;rw[zW]at q ⊢;exact q
 ·rw[zV e]at q ⊢;exact s b u q
theorem Ext.alloc(s:eM H0 H)(h:H p=none)(o:HO):Ext H0 H (upd H0 p o) (upd H p o):=
 ⟨jm (jQ s h) o,jm h o,dO s,λa b d=>by rw[zV (λe=>d<|by rw[e];exact h)];exact b⟩
theorem Ext.hide(s:eM H0 H)(h:H p=none)(o:HO):Ext H0 H H0 (upd H p o):=
 ⟨eM.refl _,jm h o,s.trans<|jm h o,λa b _=>b⟩
theorem Ext.show(e:Ext H0 H u0 H')(C:H a=none)(J:u0 a=none)(O:H' a=bQ o)(s:eM H0 H):Ext H0 H (upd u0 a o) H':=
 ⟨e.s0.trans<|jm J o,e.s1,λb u q=>by
  by_cases z:b=a
  ·subst z;rw[zW]at q;rw[O];exact q
  ·rw[zV z]at q;exact e.sub b u q,λb U I=>by
  rw[zV (λz=>I<|by rw[z];exact C)];exact e.new b U I⟩
structure Dj(K:MP)(H0 H:Hp)(rows:List (List D))(a:di)(bs:List di):Prop where
 a0:H0 a=none
 ha:H a=bQ (.lst<|bs.map V.ref)
 nd:(a::bs).Nodup
 len:bs.length=rows.length
 row : ∀(k:Nat) b row,bs[k]? = bQ b->rows[k]? = bQ row->H0 b=none/\∃xs,H b=bQ (.lst xs)/\dk K H0 row xs
theorem Dj.at{K:MP}{H0 H:Hp}{C:List (List D)}{a:di}{bs:List di}(n:Dj K H0 H C a bs){b:di}(z:b∈a::bs):H0 b=none/\∃xs,H b=bQ (.lst xs):=by
 rcases Nc.mp z with rfl | z
 ·exact⟨n.a0,_,n.ha⟩
 ·obtain⟨k,I⟩:=Te z
  have O:=(Ng.mp I).1;rw[n.len]at O;obtain⟨d,xs,e,_⟩:=n.row k b _ I<|MS O;exact⟨d,xs,e⟩
theorem Dj.move{K:MP}{H0 H J H':Hp}{C:List (List D)}{a:di}{bs:List di}(n:Dj K H0 H C a bs)(s:eM H0 J)(z : ∀b∈a::bs,J b=none)(h : ∀b∈a::bs,H' b=H b):Dj K J H' C a bs:=
 ⟨z a Nk,by rw[h a Nk];exact n.ha,n.nd,n.len,λk b row I U=>by obtain⟨_,f,d,e⟩:=n.row k b row I U;have O:b∈a::bs:=Np _<|Rc I;exact⟨z b O,f,by rw[h b O];exact d,e.mono s⟩⟩
noncomputable def ov(K:MP)(H0 H:Hp)(C:St)(γ:Ctx):Prop:=
 (∀(i:Nat) b,γ[i]? = bQ (.nest b)->∃a bs,C[i]? = bQ (bQ (.ref a))/\Dj K H0 H b a bs/\∀(j:Nat) d c,γ[j]? = bQ (.own d)->C[j]? = bQ (bQ (.ref c))->c∉a::bs)/\
 ∀(i j:Nat) z e,γ[i]? = bQ (.nest z)->γ[j]? = bQ (.nest e)->i=j
theorem ov.L6{K:MP}{H0 H:Hp}{I:St}{γ:Ctx}(h : ∀(i:Nat) C,γ[i]? ≠ bQ (.nest C)):ov K H0 H I γ:=⟨λi C e=>absurd e<|h i C,λi j z a e=>absurd e<|h i z⟩
theorem ov.move{K:MP}{H0 H J H':Hp}{L:St}{γ:Ctx}(n:ov K H0 H L γ)(s:eM H0 J)(h : ∀(i:Nat) C a bs,γ[i]? = bQ (.nest C)->L[i]? = bQ (bQ (.ref a))->Dj K H0 H C a bs->(∀(j:Nat) ds c,γ[j]? = bQ (.own ds)->L[j]? = bQ (bQ (.ref c))->c∉a::bs)->∀b∈a::bs,J b=none/\H' b=H b):ov K J H' L γ:=
 ⟨λi C e=>by obtain⟨a,bs,d,f,z⟩:=n.1 i C e;exact⟨a,bs,d,f.move s (λb I=>(h i C a bs e d f z b I).1)<|λb I=>(h i C a bs e d f z b I).2,z⟩,n.2⟩
theorem ov.ext{K:MP}{H0 H C H':Hp}{J:St}{γ:Ctx}(n:ov K H0 H J γ)(e:Ext H0 H C H'):ov K C H' J γ:=
 n.move e.s0 λi d a bs _ _ f _ b z=>by obtain⟨I,g,g2⟩:=f.at z;exact⟨e.new b I (by rw[g2];simp),by rw[e.s1 b _ g2,g2]⟩
structure RC(K:MP)(H0 H:Hp)(σ:St)(γ:Ctx):Prop where
 sub:eM H0 H
 len:σ.length=γ.length
 val : ∀(i:Nat) d,γ[i]? = bQ (.val d)->∃v,σ[i]? = bQ (bQ v)/\Rep K H0 d v
 own : ∀(i:Nat) ds,γ[i]? = bQ (.own ds)->∃a xs,σ[i]? = bQ (bQ (.ref a))/\H0 a=none/\H a=bQ (.lst xs)/\dk K H0 ds xs
 ne : ∀(i j:Nat) a ds es,γ[i]? = bQ (.own ds)->γ[j]? = bQ (.own es)->σ[i]? = bQ (bQ (.ref a))->σ[j]? = bQ (bQ (.ref a))->i=j
 t5:ov K H0 H σ γ
theorem RC.ext{K:MP}{H0 H C H':Hp}{J:St}{γ:Ctx}(r:RC K H0 H J γ)(e:Ext H0 H C H'):RC K C H' J γ:=
 ⟨e.sub,r.len,λi d h=>let ⟨v,b,f⟩:=r.val i d h;⟨v,b,f.mono e.s0⟩,
  λi g h=>let ⟨a,j,b,f,z,I⟩:=r.own i g h;⟨a,j,b,e.new a f (by rw[z];simp),e.s1 _ _ z,I.mono e.s0⟩,r.ne,r.t5.ext e⟩
noncomputable def tV(K:MP)(f:CO D):TE:=λh H Q=>∃e g d,RC K e H h g/\f g=bQ d/\∀v b a,Ext e H a b->Rep K a d v->Q v b
noncomputable def tQ(K:MP)(f:CO (Sk×List D)):TE:=λj H Q=>∃g i k h,RC K g H j i/\f i=bQ (k,h)/\∀a e d b,Ext g H b d->kr k K d a e->(k = .T->ft K b a e)->dk K b h e->Q (.ref a) d
noncomputable def tO(K:MP)(f:CO (List D)):TE:=λj H Q=>∃e i g,RC K e H j i/\f i=bQ g/\
 ∀a h d b,Ext e H b d->H a=none->b a=none->d a=bQ (.lst h)->dk K b g h->Q (.ref a) d
noncomputable def tT(K:MP)(f:CO Bool):TT:=λh H Q=>∃e g b,RC K e H h g/\f g=bQ b/\∀d a,Ext e H a d->Q b d
noncomputable def tA(K:MP)(f:CO (List D)):TA:=λi H Q=>∃d h e,RC K d H i h/\f h=bQ e/\∀g b a,Ext d H a b->dk K a e g->Q g b
abbrev PV(X:Cx)(e:dt)(f:CO D):Prop:=PE X e (tV X.K f)
abbrev PQ(X:Cx)(e:dt)(f:CO (Sk×List D)):Prop:=PE X e (tQ X.K f)
abbrev PO(X:Cx)(e:dt)(f:CO (List D)):Prop:=PE X e (tO X.K f)
abbrev l0(X:Cx)(e:dt)(f:CO Bool):Prop:=PT X e (tT X.K f)
abbrev Dm(X:Cx)(e:dt)(f:CO Bool):Prop:=PW X e (tT X.K f)
abbrev x4(X:Cx)(es:List dt)(f:CO (List D)):Prop:=PA X es (tA X.K f)
theorem qG(h:PE X e t)(i : ∀C H Q,t' C H Q->t C H Q):PE X e t':=λa s C H Q I q=>h a s C H Q I<|i C H Q q
theorem VL(h:PT X e t)(i : ∀C H Q,t' C H Q->t C H Q):PT X e t':=λa s C H Q I q=>h a s C H Q I<|i C H Q q
theorem BA(h:PW X e t)(i : ∀C H Q,t' C H Q->t C H Q):PW X e t':=λz a s C H Q I q=>h z a s C H Q I<|i C H Q q
theorem Ci(h:PA X es t)(i : ∀C H Q,t' C H Q->t C H Q):PA X es t':=λpos a s C H Q I q=>h pos a s C H Q I<|i C H Q q
theorem yp{X:Cx}{st:iQ}{t t':TS}(h:PS X st t)(i : ∀D C H,t' D C H->t D C H):PS X st t':=λa s C H D I q=>h a s C H D I<|i D C H q
theorem oZ{X:Cx}{st:List iQ}{t t':TS}(h:o8 X st t)(i : ∀D C H,t' D C H->t D C H):o8 X st t':=λa s C H D I q=>h a s C H D I<|i D C H q
theorem YG(h:PI X tg e t)(i : ∀C H R,t' C H R->t C H R):PI X tg e t':=λa s C H R I q=>h a s C H R I<|i C H R q
theorem yS(h:n<=lim):n<=ej:=NZ h ⋯
section
variable{X:Cx}{e a b c:dt}{pos:fh}
theorem PV.q(h:PV X e f):PQ X e (zG f):=qG h λt H Q s=>by
 obtain⟨p,o,k,i,rc,I,q⟩:=s;unfold zG at I;cases e1:f o with
 | none=>rw[e1]at I;cases I
 | some d=>
  rw[e1]at I;refine⟨p,o,d,rc,e1,λv n b ext r=>?_⟩;cases d with
  | tup l=>
   obtain⟨O,U⟩:k = .T/\i=l:=by simp[jj]at I;exact⟨I.1.symm,I.2.symm⟩
   subst O U;obtain⟨a,g,rfl,j,m⟩:=(show ∃a g,v = .ref a/\ft X.K b a g/\dk X.K b i g from r);exact q a g n b ext (my ext.sub j) (λ_=>j) m
  | lst l=>
   obtain⟨O,U⟩:k = .L/\i=l:=by simp[jj]at I;exact⟨I.1.symm,I.2.symm⟩
   subst O U;obtain⟨a,g,rfl,j,m⟩:=(show ∃a g,v = .ref a/\eU X.K b a g/\dk X.K b i g from r);exact q a g n b ext (ext.sub.seq j) (λz=>nomatch z) m
  | _=>simp[jj]at I
theorem PO.v(h:PO X e f):PV X e (qh f):=qG h λp H Q U=>by
 obtain⟨j,i,d,rc,z,q⟩:=U;unfold qh at z;cases e1:f i with
 | none=>rw[e1]at z;cases z
 | some b=>
  rw[e1]at z;cases z;refine⟨j,i,b,rc,e1,λa n o k ext l g m r=>?_⟩;exact q _ _ _ (ext.show l g m rc.sub) (show ∃I O,V.ref a = .ref I/\eU X.K _ I O/\dk X.K _ b O from⟨a,n,rfl,eU.of zW,r.mono<|jm g _⟩)
theorem PO.q(h:PO X e f):PQ X e (js f):=qG h λp H Q O=>by
 obtain⟨i,d,k,l,rc,I,q⟩:=O;unfold js at I;cases e1:f d with
 | none=>rw[e1]at I;cases I
 | some m=>
  rw[e1]at I;cases I;exact⟨i,d,_,rc,e1,λa j g b ext n o U r=>q a j g b ext (eU.of U) (λz=>nomatch z) r⟩
theorem BB(i:Nat)(h:PE X e (Ak i)):PV X e (zf i):=qG h λm H Q I=>by
 obtain⟨b,j,d,rc,z,q⟩:=I;unfold zf at z;cases e1:j[i]? with
 | none=>rw[e1]at z;cases z
 | some c=>
  rw[e1]at z;cases c with
  | val k=>
   cases z;obtain⟨v,f,g⟩:=rc.val i d e1;exact⟨v,f,q v H b (Ext.refl rc.sub) g⟩
  | no=>cases z
  | own l=>cases z
  | nest a=>cases z
theorem BO(i:Nat)(h:PE X e (Ak i)):PQ X e (zh i):=qG h λu H Q s=>by
 obtain⟨f,t,k,g,rc,I,q⟩:=s;unfold zh at I;cases e1:t[i]? with
 | none=>rw[e1]at I;cases I
 | some c=>
  rw[e1]at I;cases c with
  | no=>cases I
  | nest o=>cases I
  | own j=>
   cases I;obtain⟨a,b,m,n,p,r⟩:=rc.own i g e1;exact⟨_,m,q a b H f (Ext.refl rc.sub) (eU.of p) (λz=>nomatch z) r⟩
  | val d=>
   obtain⟨v,m,n⟩:=rc.val i d e1;refine⟨v,m,?_⟩;cases d with
   | tup j=>
    obtain⟨U,l⟩:k = .T/\g=j:=by simp[wI,jj]at I;exact⟨I.1.symm,I.2.symm⟩
    subst U l;obtain⟨a,b,rfl,O,g2⟩:=(show ∃a b,v = .ref a/\ft X.K f a b/\dk X.K f g b from n);exact q a b H f (Ext.refl rc.sub) (my rc.sub O) (λ_=>O) g2
   | lst j=>
    obtain⟨U,l⟩:k = .L/\g=j:=by simp[wI,jj]at I;exact⟨I.1.symm,I.2.symm⟩
    subst U l;obtain⟨a,b,rfl,O,g2⟩:=(show ∃a b,v = .ref a/\eU X.K f a b/\dk X.K f g b from n);exact q a b H f (Ext.refl rc.sub) (rc.sub.seq O) (λz=>nomatch z) g2
   | _=>simp[wI,jj]at I
theorem Jo(h:PE X e (tC v))(r : ∀H,Rep X.K H d v):PV X e (zy d):=qG h λg H Q z=>by obtain⟨a,f,b,rc,I,q⟩:=z;cases I;exact q v H a (Ext.refl rc.sub)<|r a
theorem zm:PV X (.Constant (.int i) j pos) (zy<|.int i):=Jo Cc λ_=>(show V.int i = .int i from rfl)
theorem yO:PV X (.Constant (.bool x) j pos) (zy<|.bl x):=Jo GT λ_=>(show V.bl x = .bl x from rfl)
theorem YA:PV X (.Constant .none j pos) (zy .d7):=Jo BZ λ_=>(show V.d7 = .d7 from rfl)
theorem kn:PV X (.Constant (.str x) j pos) (zy<|.str x):=Jo BW λ_=>(show V.str x = .str x from rfl)
noncomputable def l9(K:MP)(r:R2)(F:D->D->Option D):Prop:=∀b H x y f z d Q,eM b H->Rep K b f x->Rep K b z y->F f z=bQ d->(∀v e a,Ext b H a e->Rep K a d v->Q v e)->r x y H Q
theorem zk(h:o.bind f=bQ y) : ∃x,o=bQ x/\f x=bQ y:=by
 cases o with
 | none=>cases h
 | some x=>exact⟨x,rfl,h⟩
theorem VQ{K:MP}{r:R2}{F:D->D->Option D}{J L:CO D}(hs:l9 K r F) : ∀C H Q,tV K (zK F J L) C H Q->F5 r (tV K J) (tV K L) C H Q:=λC H Q O=>by obtain⟨f,b,d,rc,z,q⟩:=O;obtain⟨x,j,z⟩:=zk z;obtain⟨y,U,z⟩:=zk z;refine⟨f,b,x,rc,j,λn p h x1 k=>⟨h,b,y,rc.ext x1,U,λo g i I l=>?_⟩⟩;exact hs i g n o x y d Q I.sub (k.mono I.s0) l z λv e a x3 m=>q v e a (x1.trans<|I.trans x3) m
theorem Xu(z:gB X (ro op) r)(hs:l9 X.K r F)(C:PV X a fa)(I:PV X b fb):PV X (.BinOp a op b pos) (zK F fa fb):=
 qG (tR z C I) (VQ hs)
theorem eO(z:gB X (ml op) r)(hs:l9 X.K r F)(C:PV X a fa)(I:PV X b fb)(J:u7 op b=cE):PV X (.Compare a [op] [b] pos) (zK F fa fb):=
 qG (tW z C I J) (VQ hs)
theorem vV{d:D}{b:Bool}(h:nz d=bQ b):d = .bl b:=by cases d<;>simp[nz]at h;rw[h]
theorem JV(I:gB X (ml op) r)(hs:l9 X.K r F)(C:PV X a fa)(O:PV X b fb)(J:u7 op b=cE):l0 X (.Compare a [op] [b] pos) (sB<|zK F fa fb):=
 VL (eQ I C O J) λj H Q U=>by obtain⟨g,i,k,rc,z,q⟩:=U;obtain⟨d,h,z⟩:=zk z;refine VQ hs j H _ ⟨g,i,d,rc,h,λv f e x r=>?_⟩;rw[vV z]at r;exact⟨k,r,q f e x⟩
theorem jY{f:CO D}(h:PV X e f)(O : ∀I,Dt e X.env I=(do let v <- I;DT e.pos;vk [v] (F7 v)):=by intro _;rfl):l0 X e (sB f):=
 VL (BH h O) λl H Q U=>by obtain⟨g,j,k,rc,z,q⟩:=U;obtain⟨d,i,z⟩:=zk z;refine⟨g,j,d,rc,i,λv b a x r=>?_⟩;rw[vV z]at r;exact⟨k,r,q b a x⟩
theorem WW(h:l0 X a f):Dm X (.BoolOp .And [a] pos) f:=sZ h
theorem yN(h:l0 X a f):Dm X (.BoolOp .Or [a] pos) f:=By h
theorem eC{f g:CO Bool}{wj:List dt}(C:l0 X a f)(I:Dm X (.BoolOp .And (b::wj) pos) g):Dm X (.BoolOp .And (a::b::wj) pos) (mi f g):=
 BA (Bz C I) λn H Q O=>by
  obtain⟨i,e,k,rc,z,q⟩:=O;obtain⟨c,l,z⟩:=zk z;refine⟨i,e,c,rc,l,λh d x=>?_⟩;cases c with
  | true=>rw[UJ rfl]at z ⊢;exact⟨d,e,k,rc.ext x,z,λj U m=>q j U<|x.trans m⟩
  | false=>rw[UY Nw]at z ⊢;cases z;exact q h d x
theorem km{f g:CO Bool}{wj:List dt}(C:l0 X a f)(I:Dm X (.BoolOp .Or (b::wj) pos) g):Dm X (.BoolOp .Or (a::b::wj) pos) (wK f g):=
 BA (GM C I) λn H Q O=>by
  obtain⟨i,e,k,rc,z,q⟩:=O;obtain⟨c,l,z⟩:=zk z;refine⟨i,e,c,rc,l,λh d x=>?_⟩;cases c with
  | true=>rw[UJ rfl]at z ⊢;cases z;exact q h d x
  | false=>rw[UY Nw]at z ⊢;exact⟨d,e,k,rc.ext x,z,λj U m=>q j U<|x.trans m⟩
theorem qL(C:l0 X a f):l0 X (.UnaryOp .Not a pos) (jX f):=
 VL (BI C) λh H Q I=>by
  obtain⟨g,d,k,rc,z,q⟩:=I;unfold jX at z;cases e1:f d with
  | none=>rw[e1]at z;cases z
  | some c=>rw[e1]at z;cases z;exact⟨g,d,c,rc,e1,λe b x=>q e b x⟩
theorem JU(h:Dm X e f):l0 X e f:=h.pt
theorem eE(h:PV X a f):PV X (.BoolOp op [a] pos) f:=BX h
theorem eP{f g:CO D}{wj:List dt}(C:PV X a f)(I:PV X (.BoolOp .And (b::wj) pos) g):PV X (.BoolOp .And (a::b::wj) pos) (cT f g):=
 qG (Cd C I) λt H Q O=>by
  obtain⟨k,i,d,rc,z,q⟩:=O;obtain⟨c,h,z⟩:=zk z;obtain⟨U,n,h⟩:=zk h;refine⟨k,i,U,rc,n,λv j e x r=>?_⟩;rw[vV h]at r;refine⟨c,r,?_⟩;cases c with
  | true=>rw[UJ rfl]at z ⊢;exact⟨e,i,d,rc.ext x,z,λp l m s o=>q p l m (x.trans s) o⟩
  | false=>rw[UY Nw]at z ⊢;cases z;exact q _ j e x (show V.bl cE = .bl cE from rfl)
theorem BC(C:PV X a f):PV X (.UnaryOp .Not a pos) (EV f):=
 qG (BY C) λi H Q O=>by
  obtain⟨h,e,d,rc,z,q⟩:=O;unfold EV at z;cases e1:f e with
  | none=>rw[e1]at z;cases z
  | some I=>
   rw[e1]at z;refine⟨h,e,I,rc,e1,λv g b x r=>?_⟩;cases I with
   | bl c=>cases z;exact⟨c,r,q _ g b x<|show V.bl (!c) = .bl (!c)from rfl⟩
   | _=>cases z
theorem kz(L:l0 X c k)(C:PV X a f)(J:PV X b g):PV X (.IfExp c a b pos) (dU k f g):=
 qG (mP L C J) λp H Q n=>by
  obtain⟨l,j,d,rc,z,q⟩:=n;obtain⟨t,m,z⟩:=zk z;refine⟨l,j,t,rc,m,λo e x=>?_⟩;cases t with
  | true=>rw[UJ rfl]at z ⊢;exact⟨e,j,d,rc.ext x,z,λI h O U i=>q I h O (x.trans U) i⟩
  | false=>rw[UY Nw]at z ⊢;exact⟨e,j,d,rc.ext x,z,λI h O U i=>q I h O (x.trans U) i⟩
theorem ua:x4 X [] zI:=Ci qR λe H Q z=>by obtain⟨a,d,b,rc,I,q⟩:=z;cases I;exact q [] H a (Ext.refl rc.sub) dk.nil
theorem mS(C:PV X e f)(U:x4 X es g)(hs:el (e::es) X.env=(cE,dv e X.env)::el es X.env:=by rfl):x4 X (e::es) (zb f g):=
 Ci (jv C U hs) λs H Q k=>by
  obtain⟨b,a,p,rc,z,q⟩:=k;obtain⟨x,j,z⟩:=zk z;cases I:g a with
  | none=>rw[I]at z;cases z
  | some r=>
   rw[I]at z;cases z;exact⟨b,a,x,rc,j,λv o h x1 l=>⟨h,a,r,rc.ext x1,I,λn d i O m=>q (v::n) d i (x1.trans O)<|dk.cons (l.mono O.s0) m⟩⟩
theorem qa(h:x4 X es f):PV X (.Tuple es x1 pos) (xH f):=
 qG (BV h) λo H Q j=>by
  obtain⟨g,l,d,rc,z,q⟩:=j;obtain⟨b,i,z⟩:=zk z;by_cases I:b.length<=lim
  ·rw[UJ I]at z;cases z
   refine⟨g,l,b,rc,i,λk m n x1 O=>⟨yS (by rw[O.length];exact I),λp U=>?_⟩⟩;exact q _ _ _ (x1.trans<|Ext.alloc x1.sub U _) (show ∃a e,V.ref p = .ref a/\ft X.K _ a e/\dk X.K _ b e from⟨p,k,rfl,ft.of zW,O.mono<|jm (jQ x1.sub U) _⟩)
  ·rw[UY I]at z;cases z
theorem xc(h:x4 X es f):PO X (.List es pos) (j3 f):=
 qG (Ca h) λn H Q j=>by
  obtain⟨b,l,d,rc,I,q⟩:=j;obtain⟨g,i,I⟩:=zk I;by_cases U:g.length<=lim
  ·rw[UJ U]at I;cases I
   refine⟨b,l,_,rc,i,λk m e x1 a=>⟨yS (by rw[a.length];exact U),λp O=>?_⟩⟩;exact q p k _ e (x1.trans<|Ext.hide x1.sub O _) (by
    cases z:H p with
    | none=>rfl
    | some o=>rw[x1.s1 p o z]at O;cases O) (jQ x1.sub O) zW a
  ·rw[UY U]at I;cases I
end
noncomputable def mz(C:List (Key×V))(ps:List (Key×V)):List (Key×V):=ps.foldl (λacc z=>cU acc z.1 z.2) C
theorem vD:entryFor table "dict.update.loop" = bQ n5.«dict.update.loop» :=entryFor_of_tree (by kernel_rfl)
theorem vm(args:Args):(Code.builtin "dict.update.loop" args).quiet=bX:=Code.quiet_builtin _ ⋯
noncomputable def MF(i:Nat)(f:CO D)(γ:Ctx):Option D:=(qz γ[i]?).bind λa=>(f<|γ.set i<|.val<|.lst a).bind λd=>if Wa d=bX then bQ d else none
noncomputable def LZ(i:Nat)(f:CO Bool)(γ:Ctx):Option Bool:=(qz γ[i]?).bind λa=>f<|γ.set i<|.val<|.lst a
noncomputable def IJ(i:Nat)(γ:Ctx):Option Fl:=(qz γ[i]?).map λ_=> .next (γ.set i<|.own [])
noncomputable def yV(ds:List D):List D:=(MO ds.length).map λ(i:Nat)=>D.tup [.int i,ds[i]?.getD .d7]
noncomputable def mh(f:CO D)(γ:Ctx):Option (List D):=(f γ).bind λd=>match d with
 | .tup a=>bQ (yV a)
 | _=>none
noncomputable def wc:List D->Option (List Int)
 | []=>bQ []
 | .int i::r=>(wc r).map λl=>i::l
 | _::_=>none
noncomputable def MC(f:CO D)(g:CO (Sk×List D))(γ:Ctx):Option D:=(f γ).bind λd=>(g γ).bind λa=>(ix d).bind λi=>(wc a.2).map λl=> .bl (decide<|i∈l)
noncomputable def gK(k:Int):List Int->Option Nat
 | []=>none
 | i::r=>if i=k then bQ 0 else (gK k r).map (· + 1)
noncomputable def MD(f g:CO D)(γ:Ctx):Option D:=(f γ).bind λd=>((g γ).bind ix).bind λk=>match d with
 | .tup a=>(wc a).bind λl=>(gK k l).map λ(j:Nat)=>D.int (j:Int)
 | _=>none
noncomputable def ia(T:Tg)(f:CO (List D))(γ:Ctx):List D->Option (List<|List D)
 | []=>bQ []
 | d::ds=>(xC T d γ).bind λa=>(f a).bind λe=>(ia T f γ ds).map λr=>e::r
noncomputable def II(C:CO (List D))(T:Tg)(n:Nat)(I:List Nat)(f:CO (List D))(γ:Ctx):Option (List<|List D):=(C γ).bind λa=>if a.length<=lim then ia T f (jn n I γ) a else none
noncomputable def KR:Option Cell->Option (List<|List D)
 | some (.nest rows)=>bQ rows
 | _=>none
noncomputable def oQ(γ:Ctx)(j i:Nat)(r:List D):Ctx:=(γ.set j .no).set i (.own r)
noncomputable def aD(j i:Nat)(g f:CO D)(γ:Ctx):List (List D)->Option (List<|List D)
 | []=>bQ []
 | r::rs=>(f<|oQ γ j i r).bind λd=>((g<|oQ γ j i r).bind ix).bind λk=>(ec r.length k).bind λm=>(aD j i g f γ rs).map λt=>r.set m d::t
noncomputable def Gw(j i:Nat)(g f:CO D)(γ:Ctx):Option Fl:=(KR γ[j]?).bind λa=>if i=j\/γ.length<=i then none else (aD j i g f γ a).map λz=> .next ((γ.set j<|.nest z).set i .no)
noncomputable def cS(i:Nat)(F:CO Fl)(γ:Ctx):Option Fl:=(qz γ[i]?).bind λa=>F<|γ.set i<|.val<|.lst a
noncomputable def LX(i:Nat)(F:CO Fl)(γ:Ctx):Option Fl:=(KR γ[i]?).bind λa=>F<|γ.set i<|.val<|.lst<|a.map D.lst
noncomputable def IF(is:List Nat)(f:CO D)(γ:Ctx):Option Fl:=(f γ).bind λd=>match d with
 | .lst a=>if a.length=is.length then bQ (.next<|xA is a γ)else none
 | _=>none
noncomputable def Yo:List D->Option (List Str)
 | []=>bQ []
 | .str x::r=>(Yo r).map λl=>x::l
 | _::_=>none
noncomputable def qg(x:Str):Bool:=decide<|x.length<=1000
noncomputable def sJ(f:CO D)(g:CO (Sk×List D))(γ:Ctx):Option D:=(f γ).bind λd=>(g γ).bind λa=>match d,a.1 with
 | .str sep,.L=>(Yo a.2).bind λl=>if l.length<=lim/\l.all qg=bX/\qg sep=bX then bQ (.str<|Ue sep l)else none
 | _,_=>none
noncomputable def yA(f g:CO D)(γ:Ctx):Option D:=(f γ).bind λd=>((g γ).bind ix).bind λi=>match d with
 | .str z=>if qg z=bX then (ec z.cps.toList.length i).bind λk=>z.cps.toList[k]?.map λc=> .str ⟨#[c]⟩else none
 | _=>none
noncomputable def xw(f:CO D)(γ:Ctx):Option D:=(f γ).bind λd=>match d with
 | .str z=>if qg z=bX then bQ (.int z.length)else none
 | _=>none
noncomputable def LY(z O I U:Str)(f:CO D)(γ:Ctx):Option D:=(f γ).bind λd=>match d with
 | .str x=>if z=I then none else if x=z then bQ (.str O)else if x=I then bQ (.str U)else none
 | _=>none
noncomputable def dS(f g:CO D)(γ:Ctx):Option D:=((f γ).bind ix).bind λi=>((g γ).bind ix).map λj=> .int (if j<i then j else i)
abbrev Xn:=Str×Option Int
noncomputable def Gs:CO Xn:=λ_=>none
noncomputable def Aw(c:Str):CO Xn:=λ_=>bQ (c,none)
noncomputable def F9(k:CO Bool)(G H:CO Xn):CO Xn:=λa=>(k a).bind λb=>if b=bX then G a else H a
noncomputable def LF(G:CO Xn)(F:CO Fl)(H:CO Xn):CO Xn:=λb=>match G b with
 | some c=>bQ c
 | none=>(F b).bind λz=>match z with
  | .next a=>H a
  | _=>none
noncomputable def IL(n:Nat)(G:CO Xn)(ds:List D):Option Xn:=G<|z9 n ds
noncomputable def Mp(c:Str):Str:=if c==("NoRoom" : Str)then "room" else "at"
noncomputable def yK(f:CO D)(g:CO (Sk×List D)):CO D:=λb=>(f b).bind λd=>(g b).bind λa=>(ix d).bind λi=>(wc a.2).map λl=> .bl (!decide (i∈l))
end DL
namespace DL
open PySem L2
open PySem.W (KasT kas_sort)
noncomputable def dH(z:Str):List D:=z.cps.toList.map λc=>D.str ⟨#[c]⟩
noncomputable def Bh(f:CO D)(γ:Ctx):Option (List D):=(f γ).bind λd=>match d with
 | .str z=>if qg z=bX then bQ (dH z)else none
 | _=>none
noncomputable def Bk(f:CO D)(γ:Ctx):Option (List D):=(f γ).bind λd=>match d with
 | .str z=>if qg z=bX then bQ (yV<|dH z)else none
 | _=>none
noncomputable def oO(f:CO D)(γ:Ctx):Option (List D):=(f γ).bind λd=>match d with
 | .lst a=>bQ (yV a)
 | _=>none
noncomputable def LW(f:CO D)(g:CO (Sk×List D))(γ:Ctx):Option D:=(f γ).bind λd=>(g γ).bind λa=>match d with
 | .str x=>(Yo a.2).map λl=> .bl (l.any λy=>y==x)
 | _=>none
noncomputable def Gz(f g:CO D)(γ:Ctx):Option D:=(f γ).bind λd=>(g γ).bind λe=>match d,e with
 | .str x,.str y=>if qg x=bX/\qg y=bX then bQ (.str<|x++y)else none
 | _,_=>none
noncomputable def Mz(f:CO D)(l h:CO (Option Int))(γ:Ctx):Option D:=(f γ).bind λd=>(l γ).bind λlo=>(h γ).bind λa=>match d with
 | .str z=>if qg z=bX then bQ (.str<|Txt.slice z lo a)else none
 | _=>none
noncomputable def EX(f:CO (Sk×List D))(γ:Ctx):Option (List D):=(f γ).bind λa=>match a.1 with
 | .L=>if a.2.length<=lim then bQ a.2.reverse else none
 | _=>none
noncomputable def GU:D->Option (Int×Int)
 | .tup [.int a,.int b]=>bQ (a,b)
 | _=>none
noncomputable def pd:List D->Option (List<|Int×Int)
 | []=>bQ []
 | d::r=>(GU d).bind λp=>(pd r).map λl=>p::l
noncomputable def Zh(x y:Int×Int):Bool:=if x.1=y.1 then decide (x.2<y.2)else decide (x.1<y.1)
noncomputable def kF{C:Type}(lt:Nat->Nat->Bool):KasT C->C
 | .ret a=>a
 | .ask i j k=>kF lt<|k<|lt i j
noncomputable def kP(ps:List (Int×Int)):List Nat:=if ps.length<2 then MO ps.length else (kF (λi j=>Zh (ps.getD i (0,0))<|ps.getD j (0,0))<|kas_sort ps.length).toList
noncomputable def Gn(ds:List D):Option (List D):=(pd ds).bind λa=>if ds.length<64 then bQ ((kP a).map λi=>ds.getD i .d7)else none
noncomputable def Bi(f:CO (Sk×List D))(γ:Ctx):Option (List D):=(f γ).bind λa=>match a.1 with
 | .L=>Gn a.2
 | _=>none
end DL
namespace DL
open PySem L2
noncomputable def dW(i:Nat)(f:CO (List D))(γ:Ctx):Option Fl:=(qz γ[i]?).bind λa=>(f γ).bind λb=>if a.length+b.length<=lim then bQ (.next<|γ.set i<|.own<|a++b)else none
noncomputable def IK(F G:List D->Option Res)(g:CO (List D))(γ:Ctx):Option (List D):=(g γ).bind λl=>match l with
 | [p,.str z,t,b]=>((if z=("r" : Str)then F else G) [p,t,b]).bind oT
 | _=>none
noncomputable def Xg:List D->Option (List Int)
 | []=>bQ []
 | .int i::r=>(Xg r).map λl=>i::l
 | _::_=>none
noncomputable def nZ(ds C:List D):Option D:=match Xg ds with
 | some a=>if ds.length=C.length/\a.Nodup/\ds.length<=lim then bQ (.i8 ds C)else none
 | none=>none
noncomputable def aB:List D->List D->Int->Option D
 | k::ks,v::vs,i=>match k with
  | .int j=>if j=i then bQ v else aB ks vs i
  | _=>aB ks vs i
 | _,_,_=>none
open PySem.Spec PyProof.Rows
structure RS(K:MP)(E0 E H0 H:Hp)(σ:St)(γ:Ctx):Prop where
 rc:RC K H0 H σ γ
 ext:Ext E0 E H0 H
 fresh : ∀(i:Nat) ds a,γ[i]? = bQ (.own ds)->σ[i]? = bQ (bQ (.ref a))->E a=none
 A4 : ∀(i:Nat) rows a xs,γ[i]? = bQ (.nest rows)->σ[i]? = bQ (bQ (.ref a))->H a=bQ (.lst xs)->E a=none/\∀b,V.ref b∈xs->E b=none
noncomputable def Sat(K:MP)(E0 E:Hp)(D:Ends):Fl->Prop
 | .next f=>∀e H b,RS K E0 E b H e f->D.nx e H
 | .brk f=>∀e H b,RS K E0 E b H e f->D.bk e H
 | .cont f=>∀e H b,RS K E0 E b H e f->D.ct e H
 | .ret (.val d)=>∀v H b,Ext E0 E b H->Rep K b d v->D.rt v H
 | .ret (.own es)=>∀a g H b,Ext E0 E b H->E a=none->b a=none->H a=bQ (.lst g)->dk K b es g->D.rt (.ref a) H
noncomputable def tS(K:MP)(F:CO Fl):TS:=λD d H=>∃E0 E b a z,RS K E0 E b H d a/\F a=bQ z/\Sat K E0 E D z
abbrev kA(X:Cx)(st:iQ)(F:CO Fl):Prop:=PS X st (tS X.K F)
abbrev iT(X:Cx)(X_:List iQ)(F:CO Fl):Prop:=o8 X X_ (tS X.K F)
section
variable{K:MP}{E0 E H0 H u0 H':Hp}{σ:St}{γ:Ctx}
theorem RS.step(r:RS K E0 E H0 H σ γ)(e:Ext H0 H u0 H'):RS K E0 E u0 H' σ γ:=⟨r.rc.ext e,r.ext.trans e,r.fresh,λi b a g d f I=>by obtain⟨O,bs,z,g2,_⟩:=r.rc.t5.1 i b d;rw[f]at z;cases z;have:=e.s1 a _ g2.ha;rw[I]at this;cases this;exact r.A4 i b a _ d f g2.ha⟩
theorem z5{C:Type}{l:List C}{i j:Nat}{x y:C}(h:(l.set i x)[j]? = bQ y):(j=i/\y=x/\i<l.length)\/(j≠i/\l[j]? = bQ y):=by
 by_cases e:i=j
 ·subst e
  by_cases z:i<l.length
  ·rw[Ov z]at h;cases h;exact .inl ⟨rfl,rfl,z⟩
  ·rw[List.set_eq_of_length_le ⋯]at h
   exact absurd (Ng.mp h).1 z
 ·rw[Ni e]at h;exact .inr ⟨Oa e,h⟩
theorem ov.rr{i:Nat}{d:D}{v:V}(n:ov K H0 H σ γ):ov K H0 H (σ.set i<|some v) (γ.set i<|.val d):=
 ⟨λj b e=>by
  rcases z5 e with⟨_,z,_⟩ | ⟨U,z⟩
  ·cases z
  ·obtain⟨a,bs,h,l,m⟩:=n.1 j b z
   refine⟨a,bs,by rw[Ni (Oa U)];exact h,l,λk g c f I=>?_⟩;rcases z5 f with⟨_,z,_⟩ | ⟨o,O⟩
   ·cases z
   ·rw[Ni (Oa o)]at I;exact m k g c O I,
 λj k p r f I=>by
  rcases z5 f with⟨_,z,_⟩ | ⟨_,O⟩
  ·cases z
  ·rcases z5 I with⟨_,z,_⟩ | ⟨_,s⟩
   ·cases z
   ·exact n.2 j k p r O s⟩
theorem RC.rr{i:Nat}{d:D}{v:V}(r:RC K H0 H σ γ)(h:Rep K H0 d v):RC K H0 H (σ.set i<|some v) (γ.set i<|.val d):=by
 refine⟨r.sub,by simp[r.len],λj l e=>?_,λj b e=>?_,λj k a b o m n U f=>?_,r.t5.rr⟩
 ·rcases z5 e with⟨rfl,z,g⟩ | ⟨I,z⟩
  ·cases z;exact⟨v,Ov (by rw[r.len];exact g),h⟩
  ·obtain⟨s,O,g2⟩:=r.val j l z
   exact⟨s,by rw[Ni (Oa I)];exact O,g2⟩
 ·rcases z5 e with⟨rfl,z,g⟩ | ⟨I,z⟩
  ·cases z
  ·obtain⟨a,t,O,g2⟩:=r.own j b z
   exact⟨a,t,by rw[Ni (Oa I)];exact O,g2⟩
 ·rcases z5 m with⟨_,z,_⟩ | ⟨I,u⟩
  ·cases z
  ·rcases z5 n with⟨_,z,_⟩ | ⟨p,w⟩
   ·cases z
   ·rw[Ni (Oa I)]at U
    rw[Ni (Oa p)]at f;exact r.ne j k a b o u w U f
theorem RS.rr{i:Nat}{d:D}{v:V}(r:RS K E0 E H0 H σ γ)(h:Rep K H0 d v):RS K E0 E H0 H (σ.set i<|some v) (γ.set i<|.val d):=
 ⟨r.rc.rr h,r.ext,λj f a e I=>by
  rcases z5 e with⟨_,z,_⟩ | ⟨O,z⟩
  ·cases z
  ·rw[Ni (Oa O)]at I;exact r.fresh j f a z I,
 λj b a g e I U=>by
  rcases z5 e with⟨_,z,_⟩ | ⟨O,z⟩
  ·cases z
  ·rw[Ni (Oa O)]at I;exact r.A4 j b a g z I U⟩
theorem J3 : ∀{z bs:List di},z.map V.ref=bs.map V.ref->z=bs
 | [],[],_=>rfl
 | [],_::_,h=>by cases h
 | _::_,[],h=>by cases h
 | a::z,b::bs,h=>by rw[Nt,Nt]at h;injection h with h1 h2;injection h1 with h1;rw[h1,J3 h2]
theorem RS.W_{i:Nat}{L:List D}{a:di}{xs:List V}{J G:Hp}(r:RS K E0 E J G σ γ)(e:Ext J G H0 H)(C:G a=none)(S:H0 a=none)(Y:H a=bQ (.lst xs))(Z:dk K H0 L xs) :
 RS K E0 E H0 H (σ.set i<|some (.ref a)) (γ.set i<|.own L):=by
 have rc:=r.rc.ext e;have no : ∀(j:Nat) f,γ[j]? = bQ (.own f)->¬σ[j]? = bQ (bQ (.ref a)):=λj f g z=>by obtain⟨b,w,I,g2,g3,_⟩:=r.rc.own j f g;rw[z]at I;cases I;rw[C]at g3;cases g3
 refine⟨⟨rc.sub,by simp[rc.len],λj y g=>?_,λj f g=>?_,λj k b f fs u h l m=>?_,⟨λj d g=>?_,λj k M N I g2=>?_⟩⟩,r.ext.trans e,λj f b I g2=>?_,λj d b xs I g2 g3=>?_⟩
 ·rcases z5 g with⟨_,z,_⟩ | ⟨O,z⟩
  ·cases z
  ·obtain⟨P,I,g2⟩:=rc.val j y z
   exact⟨P,by rw[Ni (Oa O)];exact I,g2⟩
 ·rcases z5 g with⟨rfl,z,U⟩ | ⟨O,z⟩
  ·cases z;exact⟨a,xs,Ov (by rw[rc.len];exact U),S,Y,Z⟩
  ·obtain⟨b,w,I,g2⟩:=rc.own j f z
   exact⟨b,w,by rw[Ni (Oa O)];exact I,g2⟩
 ·rcases z5 u with⟨rfl,z,U⟩ | ⟨O,n⟩
  ·rcases z5 h with⟨rfl,_,_⟩ | ⟨p,s⟩
   ·rfl
   ·rw[Ov (by rw[rc.len];exact U)]at l
    rw[Ni (Oa p)]at m;cases l;exact absurd m<|no k fs s
  ·rcases z5 h with⟨rfl,z,U⟩ | ⟨p,s⟩
   ·rw[Ov (by rw[rc.len];exact U)]at m
    rw[Ni (Oa O)]at l;cases m;exact absurd l<|no j f n
   ·rw[Ni (Oa O)]at l
    rw[Ni (Oa p)]at m;exact rc.ne j k b f fs n s l m
 ·rcases z5 g with⟨_,z,_⟩ | ⟨O,z⟩
  ·cases z
  ·obtain⟨b,bs,I,g2,g3⟩:=r.rc.t5.1 j d z
   obtain⟨Q,t,f1,f2,B⟩:=rc.t5.1 j d z;rw[I]at f1;cases f1;have A:t.map V.ref=bs.map V.ref:=by have:=e.s1 b _ g2.ha;rw[f2.ha]at this;injection this with this;injection this
   have x:t=bs:=J3 A;subst x;refine⟨b,t,by rw[Ni (Oa O)];exact I,f2,λk f c u h=>?_⟩;rcases z5 u with⟨rfl,_,U⟩ | ⟨p,n⟩
   ·rw[Ov (by rw[rc.len];exact U)]at h;cases h
    intro F;obtain⟨_,as,q⟩:=g2.at F;rw[C]at q;cases q
   ·rw[Ni (Oa p)]at h;exact B k f c n h
 ·rcases z5 I with⟨_,z,_⟩ | ⟨_,n⟩
  ·cases z
  ·rcases z5 g2 with⟨_,z,_⟩ | ⟨_,s⟩
   ·cases z
   ·exact rc.t5.2 j k M N n s
 ·rcases z5 I with⟨rfl,z,U⟩ | ⟨O,z⟩
  ·rw[Ov (by rw[rc.len];exact U)]at g2;cases g2
   cases q:E a with
   | none=>rfl
   | some o=>rw[r.ext.s1 a o q]at C;cases C
  ·rw[Ni (Oa O)]at g2;exact r.fresh j f b z g2
 ·rcases z5 I with⟨_,z,_⟩ | ⟨O,z⟩
  ·cases z
  ·rw[Ni (Oa O)]at g2;exact(r.step e).A4 j d b xs z g2 g3
theorem RS.rewrite{i:Nat}{ds J:List D}{a:di}{xs ys:List V}(r:RS K E0 E H0 H σ γ)(C:γ[i]? = bQ (.own ds))(hs:σ[i]? = bQ (bQ (.ref a)))(L:dk K H0 J ys) :
 RS K E0 E H0 (upd H a<|.lst ys) σ (γ.set i<|.own J):=by
 obtain⟨M,N,g1,g2,g3,R⟩:=r.rc.own i ds C;rw[hs]at g1;cases g1;have P:i<γ.length:=(Ng.mp C).1;refine⟨⟨λb o q=>?_,by simp[r.rc.len],λj y g=>?_,λj fs g=>?_,λj k b fs gs e I m A=>?_,⟨λj d g=>?_,λj k F G e I=>?_⟩⟩,⟨r.ext.s0,λb o q=>?_,λb o q=>?_,r.ext.new⟩,λj fs b e I=>?_,λj d b t e I m=>?_⟩
 ·rw[zV (λz=>by rw[z,g2]at q;cases q)];exact r.rc.sub b o q
 ·rcases z5 g with⟨_,z,_⟩ | ⟨n,z⟩
  ·cases z
  ·exact r.rc.val j y z
 ·rcases z5 g with⟨rfl,z,S⟩ | ⟨n,z⟩
  ·cases z;exact⟨a,ys,hs,g2,zW,L⟩
  ·obtain⟨b,t,O,U,h,B⟩:=r.rc.own j fs z
   refine⟨b,t,O,U,?_,B⟩;rw[zV (λq=>n<|r.rc.ne j i a fs ds z C (by rw[O,q]) hs)];exact h
 ·have w : ∃f,γ[j]? = bQ (.own f):=by
   rcases z5 e with⟨q,_,_⟩ | ⟨_,z⟩
   ·exact⟨ds,by rw[q];exact C⟩
   ·exact⟨fs,z⟩
  have x : ∃f,γ[k]? = bQ (.own f):=by
   rcases z5 I with⟨q,_,_⟩ | ⟨_,z⟩
   ·exact⟨ds,by rw[q];exact C⟩
   ·exact⟨gs,z⟩
  obtain⟨O,l⟩:=w;obtain⟨U,s⟩:=x;exact r.rc.ne j k b O U l s m A
 ·rcases z5 g with⟨_,z,_⟩ | ⟨n,z⟩
  ·cases z
  ·obtain⟨b,bs,O,U,h⟩:=r.rc.t5.1 j d z
   have u:=h i ds a C hs;refine⟨b,bs,O,U.move (eM.refl _) (λc p=>(U.at p).1)<|λc p=>zV λq=>u<|q ▸ p,λk fs c e I=>?_⟩;rcases z5 e with⟨q,_,_⟩ | ⟨_,l⟩
   ·rw[q,hs]at I;cases I;exact u
   ·exact h k fs c l I
 ·rcases z5 e with⟨_,z,_⟩ | ⟨_,l⟩
  ·cases z
  ·rcases z5 I with⟨_,z,_⟩ | ⟨_,s⟩
   ·cases z
   ·exact r.rc.t5.2 j k F G l s
 ·rw[zV (λz=>by rw[z,r.fresh i ds a C hs]at q;cases q)];exact r.ext.s1 b o q
 ·rw[zV (λz=>by rw[z,g2]at q;cases q)];exact r.ext.sub b o q
 ·rcases z5 e with⟨q,_,_⟩ | ⟨_,z⟩
  ·rw[q]at I;exact r.fresh i ds b C I
  ·exact r.fresh j fs b z I
 ·rcases z5 e with⟨_,z,_⟩ | ⟨n,z⟩
  ·cases z
  ·obtain⟨Q,bs,O,U,h⟩:=r.rc.t5.1 j d z
   rw[I]at O;cases O;rw[zV (show b≠a from λq=>h i ds a C hs<|by rw[q];exact Nk)]at m;exact r.A4 j d b t z I m
end
section
variable{X:Cx}{e a b c:dt}{pos:fh}{st:iQ}{wj:List iQ}
theorem zZ:iT X [] jU:=oZ tw λD b H z=>by obtain⟨E0,E,a,e,d,I,O,U⟩:=z;cases O;exact U b H a I
theorem ze{F G:CO Fl}(C:kA X st F)(J:iT X wj G):iT X (st::wj) (zR F G):=oZ (mD C J) λD l H U=>by
 obtain⟨E0,E,d,i,g,h,z,I⟩:=U;obtain⟨O,f,z⟩:=zk z;refine⟨E0,E,d,i,O,h,f,?_⟩;cases O with
 | next a=>exact λj k b e=>⟨E0,E,b,a,g,e,z,I⟩
 | brk a=>cases z;exact I
 | cont a=>cases z;exact I
 | ret r=>cases z;cases r<;>exact I
theorem zu(C:kA X st F):iT X [st] F:=tu C
theorem zF(h:o.map f=bQ y) : ∃x,o=bQ x/\f x=y:=by
 cases o with
 | none=>cases h
 | some x=>exact⟨x,rfl,by simpa using h⟩
theorem zJ{f:CO D}(h:PV X e f):kA X (.Return (bQ e) pos) (jR f):=yp (eV h) λD l H O=>by obtain⟨E0,E,g,j,k,I,z,U⟩:=O;obtain⟨d,i,z⟩:=zF z;subst z;exact⟨g,j,d,I.rc,i,λv b a x r=>U v b a (I.ext.trans x) r⟩
theorem xT{f:CO (List D)}(h:PO X e f):kA X (.Return (bQ e) pos) (ZD f):=yp (eV h) λD t H O=>by
 obtain⟨E0,E,i,p,s,z,I,U⟩:=O;obtain⟨j,k,I⟩:=zF I;subst I;refine⟨i,p,j,z.rc,k,λa n g b x d l m r=>U a n g b (z.ext.trans x) ?_ l m r⟩;cases q:E a with
 | none=>rfl
 | some o=>rw[z.ext.s1 a o q]at d;cases d
theorem k9(i:Nat)(h:PE X e (Ak i)):kA X (.Return (bQ e) pos) (v9 i):=yp (eV h) λD s H U=>by
 obtain⟨E0,E,j,p,r,I,z,O⟩:=U;unfold v9 at z;cases b:p[i]? with
 | none=>rw[b]at z;cases z
 | some c=>
  rw[b]at z;cases c with
  | no=>cases z
  | val d=>
   cases z;obtain⟨v,f,g⟩:=I.rc.val i d b;exact⟨v,f,O v H j I.ext g⟩
  | nest l=>cases z
  | own k=>
   cases z;obtain⟨a,o,f,g,m,n⟩:=I.rc.own i k b;exact⟨_,f,O a o H j I.ext (I.fresh i k a b f) g m n⟩
theorem YD:kA X (.Continue pos) sN:=yp VM λD b H ⟨E0,E,a,d,U,z,I,O⟩=>by cases I;exact O b H a z
theorem YC:kA X st Yw:=yp mE λD d H ⟨E0,E,a,b,I,O,z,U⟩=>by cases z
theorem jP{k:CO Bool}{F G:CO Fl}{x y:List iQ}(L:l0 X c k)(C:iT X x F)(J:iT X y G):kA X (.If c x y pos) (fy k F G):=yp (GQ L C J) λD h H f=>by
 obtain⟨E0,E,d,b,O,I,z,U⟩:=f;obtain⟨t,e,z⟩:=zk z;refine⟨d,b,t,I.rc,e,λg a x=>?_⟩;cases t with
 | true=>rw[UJ rfl]at z ⊢;exact⟨E0,E,a,b,O,I.step x,z,U⟩
 | false=>rw[UY Nw]at z ⊢;exact⟨E0,E,a,b,O,I.step x,z,U⟩
theorem tx(i:Nat){f:CO D}(h:PS X st (WK (tV X.K f)<|vB i)):kA X st (jF i f):=yp h λD l H O=>by obtain⟨E0,E,b,g,k,I,z,U⟩:=O;obtain⟨d,e,z⟩:=zF z;subst z;exact⟨b,g,d,I.rc,e,λv j a x r=>U _ _ a<|(I.step x).rr r⟩
theorem W0(i:Nat){f:CO (List D)}(h:PS X st (WK (tO X.K f)<|vB i)):kA X st (xB i f):=yp h λD s H O=>by obtain⟨E0,E,d,m,o,I,z,U⟩:=O;obtain⟨e,g,z⟩:=zF z;subst z;exact⟨d,m,e,I.rc,g,λa p n b x j k l r=>U _ _ b<|I.W_ x j k l r⟩
theorem qW(h:qz o=bQ ds):o=bQ (.own ds):=by
 cases o with
 | none=>cases h
 | some c=>cases c<;>simp[qz]at h;rw[h]
theorem bC(i:Nat){f:CO D}(h:PE X e (U4 X.K "list" eB (Ak i) (AO (tV X.K f) IB)))(hs:r9 e none pos.line X.env=pure cE:=by rfl):kA X (.Expr e pos) (qv i f):=
 yp (Kl h hs) λD B H t=>by
  obtain⟨E0,E,m,u,y,I,z,n⟩:=t;obtain⟨j,b,z⟩:=zk z;obtain⟨d,s,z⟩:=zk z;have b:=qW b;by_cases O:j.length<lim
  ·rw[UJ O]at z;cases z
   obtain⟨a,xs,k,A,U,l⟩:=I.rc.own i j b;refine⟨_,k,.inl ⟨rfl,_,eU.of U⟩,m,u,d,I.rc,s,λv w g x r=>?_⟩;have o:=I.step x;have p:=x.s1 _ _ U;refine⟨a,xs,v,rfl,rfl,p,?_,?_⟩
   ·exact Nr (by rw[l.length];exact O)<|yS<|MY _
   ·exact n _ _ g<|o.rewrite (xs:=xs) b k<|(l.mono x.s0).append (dk.cons r dk.nil)
  ·rw[UY O]at z;cases z
end
noncomputable def Mw(K:MP)(H0 H:Hp)(Q:VK):Res->Prop
 | .val d=>∀v e b,Ext H0 H b e->Rep K b d v->Q v e
 | .own g=>∀a f e b,Ext H0 H b e->H a=none->b a=none->e a=bQ (.lst f)->dk K b g f->Q (.ref a) e
noncomputable def p3(K:MP)(n:Nat)(F:List D->Option Res):Sp:=λd H Q _=>∃a b r,eM a H/\dk K a b d/\b.length=n/\F b=bQ r/\Mw K a H Q r
theorem p3.len{K:MP}{n:Nat}{F:List D->Option Res}{ps:List Str}(C:ps.length=n) : ∀vs H Q E,p3 K n F vs H Q E->vs.length=ps.length:=λvs H Q E h=>by obtain⟨d,e,r,_,a,b,_⟩:=h;rw[a.length,b,C]
section
variable{P:hG}{w:f9}{K:MP}{mg:UZ}{base:eg}
theorem mj(s:eM H0 H)(h:dk K H0 ds vs)(C:ds.length<=N.length):RS K H0 H H0 H (Ka N vs) (z9 N.length ds):=by
 have z:=h.length;refine⟨⟨s,by simp[L2.Ka,z9,z],λi d e=>?_,λi g e=>?_,λi j a g fs e _ _ _=>?_,ov.L6 λi f e=>?_⟩,Ext.refl s,λi g a e _=>?_,λi f a l e _ _=>?_⟩
 all_goals unfold z9 at e
 ·by_cases b:i<ds.length
  ·rw[Dk (by simpa using b),NC]at e
   cases e1:ds[i]? with
   | none=>rw[e1]at e;cases e
   | some k=>
    rw[e1]at e;cases e;obtain⟨x,I,g2⟩:=h.get e1;refine⟨x,?_,g2⟩;unfold L2.Ka;rw[Dk (by simp;omega),NC,I];rfl
  ·rw[Oj (by simpa using b),Rp]at e
   split at e<;>cases e
 all_goals
  by_cases b:i<ds.length
  ·rw[Dk (by simpa using b),NC]at e
   cases e1:ds[i]? with
   | none=>rw[e1]at e;cases e
   | some k=>rw[e1]at e;cases e
  ·rw[Oj (by simpa using b),Rp]at e
   split at e<;>cases e
theorem Ee{x qual:Str}{st:iQ}{f:di}{J:oe}{N ps:List Str}{k:Nat}{F:CO Fl}(U:L2.Dh K x qual st f J)(S:D0 N ps (jL st))
 (L : ∀(C:dj) (A:l7) (outer:List m4) (s:dy) (H:Hp) (E:XK),l8 k (A.deeper<|envOfC qual (jL st) s.heap.objs.size f C)->iT (uL o6 P w K mg base N qual (jL st) f C A outer s H E).E9 (yW st) F) :
 n9 P w K mg base o6 (k+1) f J ps (p3 K ps.length<|jo N.length F):=by
 refine U.ok S (p3.len rfl)<|λC A outer s H B Q E m h=>⟨_,L C A outer s H E m,?_⟩;obtain⟨b,g,r,o,j,u,l,I⟩:=h;obtain⟨O,i,z⟩:=zk l;have t:ps.length<=N.length:=by have:=congrArg List.length S.pre;rw[Pe]at this;omega
 refine⟨b,H,b,z9 N.length g,O,mj o j ⋯,i,?_⟩;cases O with
 | ret y=>cases z;cases r<;>exact I
 | next d=>cases z;exact λp e a n=>I .d7 e a n.ext (show V.d7 = .d7 from rfl)
 | brk d=>cases z
 | cont d=>cases z
end
section
variable{X:Cx}{es:List dt}{pos p:fh}{k:Nat}{f:di}{fd:oe}{ps:List Str}{x:Str}{F:List D->Option Res}{g:CO (List D)}
theorem tj{A0:List dt}(G:n9 X.prog X.w X.K X.mg X.base o6 k f fd ps (p3 X.K ps.length F))(C:x4 X es g)(L : ∀γ ds,g γ=bQ ds->ds.length=ps.length)
 (J : ∀{t:TA},PA X es t->PE X (.Call (.Name x p) es [] pos) (rT (p3 X.K ps.length F) [] E0 t)):PV X (.Call (.Name x p) es [] pos) (zE F g):=
 qG (J C) λM H Q u=>by
  obtain⟨l,γ,d,rc,z,q⟩:=u;obtain⟨ds,i,z⟩:=zk z;obtain⟨r,n,z⟩:=zF z;refine⟨l,γ,ds,rc,i,λE B m x1 y=>⟨m,ds,r,x1.sub,by simpa using y,L γ ds i,n,?_⟩⟩;subst z;cases r with
  | val d=>exact λv e b I h=>q v e b (x1.trans I) h
  | own fs=>
   refine λa A e b I o j s h=>q _ e _ (x1.trans<|I.show o j s x1.sub) ?_;exact(show ∃O U,V.ref a = .ref O/\eU X.K _ O U/\dk X.K _ fs U from⟨a,A,rfl,eU.of zW,h.mono<|jm j _⟩)
theorem tL(G:n9 X.prog X.w X.K X.mg X.base o6 k f fd ps (p3 X.K ps.length F))(C:x4 X es g)(O : ∀γ ds,g γ=bQ ds->ds.length=ps.length)
 (U : ∀{t:TA},PA X es t->PE X (.Call (.Name x p) es [] pos) (rT (p3 X.K ps.length F) [] E0 t)):PO X (.Call (.Name x p) es [] pos) (jJ F g):=
 qG (U C) λM H Q u=>by
  obtain⟨j,γ,fs,rc,I,q⟩:=u;obtain⟨ds,e,I⟩:=zk I;obtain⟨r,m,I⟩:=zk I;refine⟨j,γ,ds,rc,e,λL J l x1 y=>⟨l,ds,r,x1.sub,by simpa using y,O γ ds e,m,?_⟩⟩;cases r with
  | val d=>cases I
  | own gs=>
   cases I;exact λa E i b B h n s A=>q a E i b (x1.trans B) (by
    cases z:H a with
    | none=>rfl
    | some o=>rw[x1.s1 a o z]at h;cases h) n s A
end
structure Walk(K:MP)(H0 Hs:Hp)(J:It)(ds:List D):Prop where
 go : ∀i H1,eM Hs H1->i<ds.length->J.go i H1
 stop : ∀H1,eM Hs H1->J.stop ds.length H1
 B4 : ∀i H1 x T6,eM Hs H1->i<ds.length->J.B4 i H1 x T6->∃d,ds[i]? = bQ d/\∀G0,eM H0 G0->eM G0 H1->∃T5,Ext G0 H1 T5 T6/\Rep K T5 d x
theorem Walk.weak{K:MP}{H0 C z:Hp}{J:It}{ds:List D}(w:Walk K H0 C J ds)(s:eM C z):Walk K H0 z J ds:=
 ⟨λi a h=>w.go i a<|s.trans h,λa h=>w.stop a<|s.trans h,λi a x b h=>w.B4 i a x b<|s.trans h⟩
theorem XZ{k:Sk}{K:MP}{H0 C:Hp}{a:di}{xs:List V}{ds:List D}(h:kr k K C a xs)(r:dk K H0 ds xs):Walk K H0 C (T7 k K a) ds:=by
 have O:=r.length;refine⟨λi b s n=>?_,λb s=>?_,λi b x f s n y=>?_⟩
 ·have g:i<xs.length:=by omega
  cases k with
  | L=>exact⟨xs,xs[i],s.seq h,MS g⟩
  | T=>exact⟨xs,xs[i],my s h,MS g⟩
 ·cases k with
  | L=>exact⟨xs,s.seq h,by omega⟩
  | T=>exact⟨xs,my s h,by omega⟩
 ·have e:f=b/\xs[i]? = bQ x:=by
   cases k with
   | L=>exact⟨y.1,y.2 xs<|s.seq h⟩
   | T=>exact⟨y.1,y.2 xs<|my s h⟩
  obtain⟨l,z⟩:=e;subst l;obtain⟨d,m,I⟩:=r.DN z;exact⟨d,m,λj o p=>⟨j,Ext.refl p,I.mono o⟩⟩
theorem ZF(lo:Int)(n:Nat):(q8 lo n).length=n:=by simp[q8]
theorem Xj{K:MP}{H0 C:Hp}(lo:Int)(n:Nat):Walk K H0 C (B6 lo n) (q8 lo n):=by
 refine⟨λi b s a=>?_,λb s=>?_,λi b x e s a y=>?_⟩
 ·rw[ZF]at a;exact a
 ·rw[ZF];exact MY _
 ·rw[ZF]at a
  obtain⟨f,z⟩:=y;subst f z;exact⟨.int<|lo+i,by simp[q8,a],λd h g=>⟨d,Ext.refl g,(show V.int (lo+i) = .int (lo+i)from rfl)⟩⟩
theorem lG{I O:Sk}{K:MP}{H0 J:Hp}{a b:di}{xs ys:List V}{ds C:List D}(L:kr I K J a xs)(U:dk K H0 ds xs)(S:kr O K J b ys)(Y:dk K H0 C ys) :
 Walk K H0 J (N9 I O K a b) (Jg ds C):=by
 have F:=U.length;have G:=Y.length;have E:(Jg ds C).length=min ds.length C.length:=by simp[Jg]
 refine⟨λi f s A=>?_,λf s=>?_,λi f x l s A y=>?_⟩
 ·exact⟨xs,ys,Yv s L,Yv s S,by omega,by omega⟩
 ·refine⟨xs,ys,Yv s L,Yv s S,?_⟩
  rw[E];omega
 ·obtain⟨p,u,v,o,z,r,g1,g2⟩:=y
  obtain⟨d,w,B⟩:=U.DN<|g1 xs<|Yv s L;obtain⟨c,t,m⟩:=Y.DN<|g2 ys<|Yv s S;refine⟨.tup [d,c],?_,λk j e=>⟨upd k p<|.tup [u,v],?_,?_⟩⟩
  ·have n:(ds.zip C)[i]? = bQ (d,c):=List.getElem?_zip_eq_some.mpr ⟨w,t⟩
   simp[Jg,n]
  ·rw[r];exact Ext.alloc e z _
  ·rw[o]
   exact(show ∃g h,V.ref p = .ref g/\ft K _ g h/\dk K _ [d,c] h from⟨p,[u,v],rfl,ft.of zW,dk.cons ((B.mono j).mono (jm (jQ e z) _))<|dk.cons ((m.mono j).mono (jm (jQ e z) _)) dk.nil⟩)
noncomputable def U6(K:MP)(C:CO (List D)):TI:=λg H R=>∃d f e,RC K d H g f/\C f=bQ e/\∀J b a,Ext d H a b->Walk K a b J e->R J b
noncomputable def Tc(K:MP)(C:CO (List D)):TI:=λg H R=>∃d f e,RC K d H g f/\C f=bQ e/\∀J b a,Ext d H a b->Walk K a a J e->R J b
abbrev rh(X:Cx)(tg e:dt)(src:CO (List D)):Prop:=PI X tg e (U6 X.K src)
abbrev g5(X:Cx)(tg e:dt)(src:CO (List D)):Prop:=PI X tg e (Tc X.K src)
section
variable{X:Cx}{tg e a b:dt}{pos p:fh}
theorem g5.c(h:g5 X tg e src):rh X tg e src:=YG h λi H R ⟨d,g,f,rc,z,q⟩=>⟨d,g,f,rc,z,λJ b a x w=>q J b a x<|w.weak x.sub⟩
theorem jk(h:PQ X e f):rh X tg e (zT f):=YG (pb h) λp H R z=>by obtain⟨i,n,o,rc,I,q⟩:=z;obtain⟨⟨k,l⟩,j,O⟩:=zF I;subst O;exact⟨i,n,k,l,rc,j,λa m g b x d _ r=>⟨a,k,rfl,⟨m,d⟩,q _ g b x<|XZ d r⟩⟩
theorem VO(h:PV X e f):g5 X tg e (zT<|zG f):=YG (pb h) λu H R O=>by
 obtain⟨o,s,t,rc,U,q⟩:=O;obtain⟨⟨k,l⟩,g,z⟩:=zF U;subst z;obtain⟨d,p,g⟩:=zk g;refine⟨o,s,d,rc,p,λv n b x r=>?_⟩;cases d with
 | tup fs=>
  obtain⟨z,I⟩:k = .T/\l=fs:=by simp[jj]at g;exact⟨g.1.symm,g.2.symm⟩
  subst z I;obtain⟨a,i,rfl,j,m⟩:=(show ∃a i,v = .ref a/\ft X.K b a i/\dk X.K b l i from r);exact⟨a,.T,rfl,⟨i,my x.sub j⟩,q _ n b x<|XZ (k:= .T) j m⟩
 | lst fs=>
  obtain⟨z,I⟩:k = .L/\l=fs:=by simp[jj]at g;exact⟨g.1.symm,g.2.symm⟩
  subst z I;obtain⟨a,i,rfl,j,m⟩:=(show ∃a i,v = .ref a/\eU X.K b a i/\dk X.K b l i from r);exact⟨a,.L,rfl,⟨i,x.sub.seq j⟩,q _ n b x<|XZ (k:= .L) j m⟩
 | _=>simp[jj]at g
theorem jM(h:ix d=bQ i):d = .int i:=by cases d<;>simp[ix]at h;rw[h]
theorem QD(h:inR i=bX) : -(2 ^ 62)<=i/\i<2 ^ 62:=by unfold inR at h;have h:=of_decide_eq_true h;omega
theorem bI(I:Gl X "range")(J:X.mg "range" = none)(C:PV X a f)(hs:el [a] X.env=[(cE,dv a X.env)]:=by rfl):g5 X tg (.Call (.Name "range" p) [a] [] pos) (zS f):=
 YG (fu I J (jv C qR hs) hs) λo H R O=>by
  obtain⟨i,l,m,rc,z,q⟩:=O;obtain⟨n,e,z⟩:=zk z;obtain⟨d,U,e⟩:=zk e;by_cases g:inR n=bX
  ·rw[UJ g]at z;cases z
   refine⟨i,l,d,rc,U,λv h b x r=>?_⟩;rw[jM e]at r;obtain⟨j,k⟩:=QD g;exact⟨n,by rw[show v = .int n from r],j,k,q _ h b x<|Xj 0 n.toNat⟩
  ·rw[UY g]at z;cases z
theorem bH(U:Gl X "range")(S:X.mg "range" = none)(J:PV X a f)(L:PV X b g)(hs:el [a,b] X.env=[(cE,dv a X.env),(cE,dv b X.env)]:=by rfl)(I:el [b] X.env=[(cE,dv b X.env)]:=by rfl) :
 g5 X tg (.Call (.Name "range" p) [a,b] [] pos) (kg f g):=
 YG (fm U S (jv J (jv L qR I)<|by rw[hs,I]) hs I) λM H R C=>by
  obtain⟨l,k,K,rc,z,q⟩:=C;obtain⟨m,i,z⟩:=zk z;obtain⟨d,t,i⟩:=zk i;obtain⟨n,O,z⟩:=zk z;obtain⟨c,u,O⟩:=zk O;by_cases e:inR m=bX/\inR n=bX
  ·rw[UJ e]at z;cases z
   refine⟨l,k,d,rc,t,λv G h x r=>⟨h,k,c,rc.ext x,u,λE o s F j=>?_⟩⟩;rw[jM i]at r;rw[jM O]at j;obtain⟨w,y⟩:=QD e.1;obtain⟨A,B⟩:=QD e.2;exact⟨m,n,by rw[show v = .int m from r,show E = .int n from j],⟨w,y,A,B⟩,q _ o s (x.trans F)<|Xj m (n - m).toNat⟩
  ·rw[UY e]at z;cases z
theorem dJ{K:MP}{H:Hp}{d:D}{v:V}{k:Sk}{ds:List D}(r:Rep K H d v)(e:jj d=bQ (k,ds)) : ∃a xs,v = .ref a/\kr k K H a xs/\dk K H ds xs:=by
 cases d with
 | tup fs=>simp[jj]at e;obtain⟨b,z⟩:=e;subst b z;exact r
 | lst fs=>simp[jj]at e;obtain⟨b,z⟩:=e;subst b z;exact r
 | _=>simp[jj]at e
theorem tM{f g:CO D}{C:List dt}{x1:Nat}{J:fh}(Y:Gl X "zip")(Z:X.mg "zip" = none)(L:PV X a f)(S:PV X b g)(hs:el [a,b] X.env=[(cE,dv a X.env),(cE,dv b X.env)]:=by rfl)(O:el [b] X.env=[(cE,dv b X.env)]:=by rfl) :
 g5 X (.Tuple C x1 J) (.Call (.Name "zip" p) [a,b] [] pos) (K6 f g):=
 YG (BQ Y Z (jv L (jv S qR O)<|by rw[hs,O]) PyProof.Rows.boot_zip hs O) λP H R y=>by obtain⟨j,i,M,rc,z,q⟩:=y;obtain⟨⟨A,m⟩,h,z⟩:=zk z;obtain⟨d,t,h⟩:=zk h;obtain⟨⟨B,n⟩,U,z⟩:=zF z;obtain⟨c,u,U⟩:=zk U;subst z;refine⟨j,i,d,rc,t,λv K e x r=>⟨e,i,c,rc.ext x,u,λN k s I E=>?_⟩⟩;obtain⟨l,F,rfl,g1,g2⟩:=dJ (r.mono I.s0) h;obtain⟨o,G,rfl,g3,w⟩:=dJ E U;exact⟨A,B,l,o,rfl,⟨F,Yv I.sub g1⟩,⟨G,Yv I.sub g3⟩,q _ k s (x.trans I)<|lG g1 g2 g3 w⟩
end
noncomputable def WR:List Nat->List V->St->St
 | i::is,v::vs,σ=>WR is vs<|σ.set i<|some v
 | _,_,σ=>σ
noncomputable def gs:List Nat->DC
 | []=>IZ
 | i::is=>Eb (vB i)<|gs is
noncomputable def ql(K:MP):Tg->TG
 | .nm i=>vB i
 | .tp is=>IY K is.length<|gs is
theorem gG : ∀{is:List Nat} {vs:List V} {C:St} {H:Hp} {Q:St->Hp->Prop},vs.length=is.length->Q (WR is vs C) H->gs is vs C H Q
 | [],[],_,_,_,_,q=>⟨rfl,q⟩
 | i::is,v::vs,C,H,Q,hl,q=>⟨v,vs,rfl,gG (by simpa using hl) q⟩
 | [],_::_,_,_,_,hl,_=>by simp at hl
 | _::_,[],_,_,_,hl,_=>by simp at hl
theorem RS.F4{K:MP}{E0 E H0 H:Hp} : ∀{is:List Nat} {ds:List D} {vs:List V} {C:St} {γ:Ctx},RS K E0 E H0 H C γ->dk K H0 ds vs->RS K E0 E H0 H (WR is vs C) (xA is ds γ)
 | [],ds,vs,C,γ,r,h=>by cases ds<;>cases vs<;>exact r
 | i::is,[],vs,C,γ,r,h=>by rw[h.n0];exact r
 | i::is,d::ds,vs,C,γ,r,h=>by obtain⟨x,t,e,a,b⟩:=h.l5;subst e;show RS K E0 E H0 H (DL.WR is t<|C.set i<|some x) (xA is ds<|γ.set i<|.val d);exact RS.F4 (r.rr a) b
theorem RC.F4{K:MP}{H0 H:Hp} : ∀{is:List Nat} {ds:List D} {vs:List V} {C:St} {γ:Ctx},RC K H0 H C γ->dk K H0 ds vs->RC K H0 H (WR is vs C) (xA is ds γ)
 | [],ds,vs,C,γ,r,h=>by cases ds<;>cases vs<;>exact r
 | i::is,[],vs,C,γ,r,h=>by rw[h.n0];exact r
 | i::is,d::ds,vs,C,γ,r,h=>by obtain⟨x,t,e,a,b⟩:=h.l5;subst e;show RC K H0 H (DL.WR is t<|C.set i<|some x) (xA is ds<|γ.set i<|.val d);exact RC.F4 (r.rr a) b
theorem QI{K:MP}{H0 H:Hp}{T:Tg}{d:D}{v:V}{C:St}{γ γ1:Ctx}{Q:St->Hp->Prop}(s:eM H0 H)(h:Rep K H0 d v)(e:xC T d γ=bQ γ1)
 (q : ∀z,(RC K H0 H C γ->RC K H0 H z γ1)->(∀E0 E,RS K E0 E H0 H C γ->RS K E0 E H0 H z γ1)->Q z H):ql K T v C H Q:=by
 cases T with
 | nm i=>cases e;exact q _ (λr=>r.rr h) λE0 E r=>r.rr h
 | tp is=>
  cases d with
  | tup g=>
   simp only[xC]at e;by_cases I:g.length=is.length
   ·rw[UJ I]at e;cases e
    obtain⟨a,b,rfl,k,f⟩:=(show ∃a b,v = .ref a/\ft K H0 a b/\dk K H0 g b from h);have j:b.length=is.length:=by rw[f.length,I]
    exact⟨a,b,rfl,my s k,j,gG j<|q _ (λr=>r.F4 f) λE0 E r=>r.F4 f⟩
   ·rw[UY I]at e;cases e
  | _=>simp[xC]at e
theorem Ext.rebase{E0 E z H0 H B:Hp}(e:Ext E0 E z B)(x:Ext z E H0 H):Ext E0 E H0 H:=
 ⟨e.s0.trans x.s0,x.s1,x.sub,λa d b=>x.new a (e.new a d b) b⟩
theorem Ext.base{E0 E z B:Hp}(e:Ext E0 E z B):Ext z E z B:=⟨eM.refl _,e.s1,e.sub,λa h _=>h⟩
theorem Sat.rebase{K:MP}{E0 E I B:Hp}{D:Ends}{z:Fl}(e:Ext E0 E I B)(h:Sat K E0 E D z):Sat K I E D z:=by
 cases z with
 | next g=>exact λf H b r=>h f H b ⟨r.rc,e.rebase r.ext,r.fresh,r.A4⟩
 | brk g=>exact λf H b r=>h f H b ⟨r.rc,e.rebase r.ext,r.fresh,r.A4⟩
 | cont g=>exact λf H b r=>h f H b ⟨r.rc,e.rebase r.ext,r.fresh,r.A4⟩
 | ret r=>
  cases r with
  | val d=>exact λv H b x q=>h v H b (e.rebase x) q
  | own l=>exact λa k H b x i j O q=>h a k H b (e.rebase x) i j O q
section
variable{X:Cx}{tg iter:dt}{body:List iQ}{pos:fh}
theorem tG{C:CO (List D)}{T:Tg}{F:CO Fl}(hp:Um (d6 X.prog X.w) X.A X.env X.xe)(hc:X.calm=bX)(S:g5 X tg iter C)(hg:PG X tg (ql X.K T))(hb:iT X body F)
 (hs : ∀x,pf iter X.env x=pure x:=by intro _;rfl):kA X (.For tg iter body [] pos) (yB C T F):=
 yp (BL hp hc S hg hb hs) λD k H hZ=>by
  obtain⟨E0,E,g,b,I,O,z,h⟩:=hZ;obtain⟨a,Y,z⟩:=zk z;refine⟨g,b,a,O.rc,Y,λJ H1 U x1 t=>?_⟩;have l:=O.step x1;have L:=l.ext;refine⟨λi m k H=>m=a.length - i/\i<=a.length/\∃g b I,RS X.K U E g H k b/\k7 T F (a.drop i) b=bQ I/\Sat X.K U E D I,⟨_,rfl,OD _,U,b,I,⟨l.rc,L.base,l.fresh,l.A4⟩,z,h.rebase L⟩,?_⟩;rintro i m k H ⟨rfl,S,g,b,I,O,z,h⟩;have o:eM U H:=O.ext.s0.trans O.ext.sub;by_cases j:i<a.length
  ·refine .inr ⟨t.go i H o j,λk H=>i+1<=a.length/\∃g b I,RS X.K U E g H k b/\k7 T F (a.drop<|i+1) b=bQ I/\Sat X.K U E D I,λ_j G n=>⟨a.length - (i+1),by omega,rfl,n.1,n.2⟩,λx G y=>?_⟩
   obtain⟨d,M,hx⟩:=t.B4 i H x G o j y;obtain⟨P,N,rg⟩:=hx g O.ext.s0 O.rc.sub;have R:a.drop i=d::a.drop (i+1):=by
    have W:d=a[i]:=by rw[MS j]at M;exact(NN M).symm
    rw[W];exact Sn j
   rw[R]at z;simp only[k7]at z;obtain⟨u,eb,z⟩:=zk z;obtain⟨f1,Z,z⟩:=zk z;refine QI N.sub rg eb λf_ _ as=>⟨U,E,P,u,f1,as U E<|O.step N,Z,?_⟩;cases f1 with
   | next f=>exact λB Q p s=>⟨j,p,f,I,s,z,h⟩
   | cont f=>exact λB Q p s=>⟨j,p,f,I,s,z,h⟩
   | brk f=>cases z;exact h
   | ret r=>cases z;cases r<;>exact h
  ·have e:i=a.length:=by omega
   subst e;rw[List.drop_length]at z;cases z;exact .inl ⟨t.stop H o,h k H g O⟩
end
theorem kN(h:(jn n fr γ)[i]? = bQ c):c = .no\/(∃d j,c = .val d/\n<=i/\fr[i - n]? = bQ j/\γ[j]? = bQ (.val d)):=by
 unfold jn at h;by_cases b:i<n
 ·rw[Dk (by simpa using b),Rp,UJ b]at h
  exact .inl (NN h).symm
 ·rw[Oj (by simpa using b),NC,List.length_replicate]at h
  cases e:fr[i - n]? with
  | none=>rw[e]at h;cases h
  | some j=>
   rw[e]at h;have a:kX (γ[j]?.getD .no)=c:=by simpa using h
   cases e2:γ[j]? with
   | none=>rw[e2]at a;exact .inl a.symm
   | some z=>
    rw[e2]at a;cases z with
    | no=>exact .inl a.symm
    | own g=>exact .inl a.symm
    | nest f=>exact .inl a.symm
    | val d=>exact .inr ⟨d,j,a.symm,by omega,rfl,e2⟩
theorem RC.pull{K:MP}{H0 H:Hp}{J:St}{γ:Ctx}{own:List Str}{C:List (Str×Nat)}(r:RC K H0 H J γ):RC K H0 H (L2.oY own C J) (jn own.length (C.map (·.2)) γ):=by
 refine⟨r.sub,by simp[L2.oY,jn],λi d h=>?_,λi e h=>?_,λi j a e k h _ _ _=>?_,ov.L6 λi b h=>?_⟩
 ·rcases kN h with z | ⟨d',j,z,hi,I,O⟩
  ·cases z
  ·cases z
   obtain⟨v,f,g⟩:=r.val j d O;refine⟨v,?_,g⟩;rw[NC]at I;cases q:C[i - own.length]? with
   | none=>rw[q]at I;cases I
   | some p=>
    rw[q]at I;have U:p.2=j:=by simpa using I
    unfold L2.oY;rw[Oj (by simpa using hi),NC,Nf,q];simp[U,f]
 ·rcases kN h with z | ⟨d',j,z,_⟩<;>cases z
 ·rcases kN h with z | ⟨d',j,z,_⟩<;>cases z
 ·rcases kN h with z | ⟨d',j,z,_⟩<;>cases z
theorem RC.weak{K:MP}{H0 H:Hp}{J:St}{γ γ':Ctx}(r:RC K H0 H J γ)(I:γ'.length=γ.length)(O : ∀(i:Nat) d,γ'[i]? = bQ (.val d)->γ[i]? = bQ (.val d))(z : ∀(i:Nat) ds,γ'[i]? ≠ bQ (.own ds))(U : ∀(i:Nat) C,γ'[i]? ≠ bQ (.nest C)):RC K H0 H J γ':=
 ⟨r.sub,by rw[I];exact r.len,λi d h=>r.val i d<|O i d h,λi ds h=>absurd h<|z i ds,λi j a ds b h _ _ _=>absurd h<|z i ds,ov.L6 U⟩
theorem RC.upd{K:MP}{H0 H:Hp}{J:St}{γ:Ctx}{D:di}{o:HO}(r:RC K H0 H J γ)(O:H0 D=none)(I : ∀(i:Nat) ds,γ[i]? ≠ bQ (.own ds))(U : ∀(i:Nat) C,γ[i]? ≠ bQ (.nest C)):RC K H0 (upd H D o) J γ:=
 ⟨λb u q=>by rw[zV (λz=>by rw[z,O]at q;cases q)];exact r.sub b u q,r.len,r.val,λi ds h=>absurd h<|I i ds,λi j a ds d h _ _ _=>absurd h<|I i ds,ov.L6 U⟩
theorem JQ : ∀{is:List Nat} {ds:List D} {γ:Ctx},(xA is ds γ).length=γ.length
 | [],ds,γ=>by cases ds<;>rfl
 | i::is,[],γ=>rfl
 | i::is,d::ds,γ=>by show(xA is ds<|γ.set i<|.val d).length=_;rw[JQ];simp
theorem JR : ∀{is:List Nat} {ds:List D} {γ:Ctx} {i:Nat},i∉is->(xA is ds γ)[i]? = γ[i]?
 | [],ds,γ,i,_=>by cases ds<;>rfl
 | j::is,[],γ,i,_=>rfl
 | j::is,d::ds,γ,i,h=>by show(xA is ds<|γ.set j<|.val d)[i]? = _;rw[JR (λz=>h<|Np _ z),Ni (λz=>h<|by rw[<- z];exact Nk)]
theorem iB(h:xC T d γ=bQ γ1):γ1.length=γ.length/\∀i,i∉T.idx->γ1[i]? = γ[i]? :=by
 cases T with
 | nm j=>cases h;exact⟨by simp,λi a=>Ni<|λz=>a<|by simp[Tg.idx,z]⟩
 | tp is=>
  cases d with
  | tup b=>
   simp only[xC]at h;by_cases I:b.length=is.length
   ·rw[UJ I]at h;cases h;exact⟨JQ,λi a=>JR a⟩
   ·rw[UY I]at h;cases h
  | _=>simp[xC]at h
section
variable{K:MP}{own:List Str}{fr:List (Str×Nat)}{src:CO (List D)}{T:Tg}{k:CO Bool}{f:CO D}
theorem Zp(hT : ∀i∈T.idx,i<own.length)(bi : ∀C H Q,tT K k C H Q->tt C H Q) : ∀C H Q,tO K (zU src T own.length (fr.map (·.2)) k f) C H Q->lR (U6 K src) own fr (ql K T) tt (tV K f) C H Q:=λC H Q hZ=>by
 obtain⟨H0,u,ds,rc,U,q⟩:=hZ;obtain⟨a,e1,U⟩:=zk U;by_cases hl:a.length<=lim
 ·rw[UJ hl]at U
  refine⟨H0,u,a,rc,e1,λJ H1 R x1 wk D B=>?_⟩;have S : ∀(i:Nat) es,(jn own.length (fr.map (·.2)) u)[i]? ≠ bQ (.own es):=λi es h=>by rcases kN h with z | ⟨d',j,z,_⟩<;>cases z
  have W : ∀(i:Nat) E,(jn own.length (fr.map (·.2)) u)[i]? ≠ bQ (.nest E):=λi es h=>by rcases kN h with z | ⟨d',j,z,_⟩<;>cases z
  have b0:R D=none:=jQ x1.sub B;have bn:H D=none:=by
   cases z:H D with
   | none=>rfl
   | some o=>rw[x1.s1 D o z]at B;cases B
  refine⟨λi m n G l=>m=a.length - i/\i<=a.length/\n.length<=i/\l D=bQ (.lst n)/\∃g A M,RC K g l G (jn own.length (fr.map (·.2)) u)/\g D=none/\Ext R H1 g l/\dk K g A n/\zX T k f (jn own.length (fr.map (·.2)) u) (a.drop i)=bQ M/\ds=A++M,
   ⟨_,rfl,OD _,MY _,zW,R,[],ds,((rc.ext x1).pull).upd b0 S W,b0,Ext.hide x1.sub B _,dk.nil,U,rfl⟩,?_⟩
  rintro i m n G l ⟨rfl,hi,hy,N,g,A,M,X,b5,t,r',I,rfl⟩;refine⟨N,?_⟩;by_cases s:i<a.length
  ·refine .inr ⟨wk.go i l t.s1 s,?_,λx Y y=>?_⟩
   ·have:=yS<|MY lim;omega
   obtain⟨d,hd,hx⟩:=wk.B4 i l x Y t.s1 s y;obtain⟨G0,O,rg⟩:=hx g t.s0 X.sub;have br:a.drop i=d::a.drop (i+1):=by
    have bv:d=a[i]:=by rw[MS s]at hd;exact(NN hd).symm
    rw[bv];exact Sn s
   rw[br]at I;simp only[zX]at I;obtain⟨p,eb,I⟩:=zk I;obtain⟨b,ek,I⟩:=zk I;have c1:G0 D=none:=O.new D b5 (by rw[N];simp);have b6:Y D=bQ (.lst n):=O.s1 _ _ N;obtain⟨bl,bg⟩:=iB eb;have b7 : ∀{L:St} {G2 H2:Hp},RC K G2 H2 L p->RC K G2 H2 L (jn own.length (fr.map (·.2)) u):=λr=>r.weak bl.symm (λj d' hj=>by
    by_cases hm:j∈T.idx
    ·rcases kN hj with z | ⟨d2,j2,_,hn,_⟩
     ·cases z
     ·exact absurd (hT j hm) ⋯
    ·rw[bg j hm];exact hj) S W
   refine QI O.sub rg eb λf_ bb _=>bi f_ Y _ ⟨G0,p,b,bb<|X.ext O,ek,λH3 Z x3=>?_⟩;have an:=(bb<|X.ext O).ext x3;have xa:=t.trans<|O.trans x3;have bd:Z D=none:=x3.new D c1 (by rw[b6];simp);have ap:H3 D=bQ (.lst n):=x3.s1 _ _ b6;cases b with
   | true=>
    dsimp only;rw[UJ rfl]at I ⊢;obtain⟨e,ee,I⟩:=zk I;obtain⟨wj,er,I⟩:=zF I;refine⟨Z,p,e,an,ee,λv H4 be F r4=>?_⟩;have as:be D=none:=F.new D bd (by rw[ap];simp);have c8:H4 D=bQ (.lst n):=F.s1 _ _ ap;have P:=xa.trans F;refine⟨c8,a.length - (i+1),by omega,rfl,s,by rw[NO,RG];omega,zW,be,A++[e],wj,(b7<|an.ext F).upd as S W,as,?_,(r'.mono<|(O.trans<|x3.trans F).s0).append (dk.cons r4 dk.nil),er,?_⟩
    ·exact⟨P.s0,λc o z=>by rw[zV (λw=>by rw[w,B]at z;cases z)];exact P.s1 c o z,λc o z=>by rw[zV (λw=>by rw[w,as]at z;cases z)];exact P.sub c o z,P.new⟩
    ·rw[<- I];simp
   | false=>
    dsimp only;rw[UY Nw]at I ⊢;exact⟨a.length - (i+1),by omega,rfl,s,by omega,ap,Z,A,M,b7 an,bd,xa,r'.mono<|(O.trans x3).s0,I,rfl⟩
  ·have e:i=a.length:=by omega
   subst e;rw[List.drop_length]at I;cases I;rw[Rt]at q;exact .inl ⟨wk.stop l t.s1,q D n l g (x1.trans t) bn b5 N r'⟩
 ·rw[UY hl]at U;cases U
end
section
variable{X:Cx}{scope:fA}{own:List Str}{fr:List (Str×Nat)}{elt tg iter c:dt}{pos:fh}{src:CO (List D)}{T:Tg}{k:CO Bool}{f:CO D}
theorem tK(z:X.calm=bX)(ok:qq X scope fr)(I : ∀i∈T.idx,i<own.length)(L:rh X tg iter src)(O : ∀fp J C,PG (jH X scope (own++fr.map (·.1)) fp J C) tg<|ql X.K T)
 (U : ∀fp J C,PV (jH X scope (own++fr.map (·.1)) fp J C) elt f) (hs : ∀x,pf iter X.env x=pure x:=by intro _;rfl) :
 PO X (.ListComp elt [⟨tg,iter,[],0⟩] scope pos) (zU src T own.length (fr.map (·.2)) jz f):=
 qG (VP z ok L O (λ_ _ _=>W3) U hs) (Zp I λg H Q ⟨a,e,b,rc,d,q⟩=>by cases d;exact q H a<|Ext.refl rc.sub)
theorem fi(z:X.calm=bX)(ok:qq X scope fr)(I : ∀i∈T.idx,i<own.length)(S:rh X tg iter src)(O : ∀fp J C,PG (jH X scope (own++fr.map (·.1)) fp J C) tg<|ql X.K T)
 (U : ∀fp J C,l0 (jH X scope (own++fr.map (·.1)) fp J C) c k) (L : ∀fp J C,PV (jH X scope (own++fr.map (·.1)) fp J C) elt f) (hs : ∀x,pf iter X.env x=pure x:=by intro _;rfl) :
 PO X (.ListComp elt [⟨tg,iter,[c],0⟩] scope pos) (zU src T own.length (fr.map (·.2)) k f):=
 qG (VP z ok S O (λfp J C=>W2<|U fp J C) L hs) (Zp I λa H Q h=>h)
theorem mG(z:X.N.Nodup)(I:X.N[i]? = bQ y)(O:Loc X.env.scope y)(U:X.fn y=bX\/X.env.scope.names.lookup y=bQ .local)
 (S:X.calm=bX) (ok:qq X scope fr) (L : ∀i∈T.idx,i<own.length) (hi:rh X tg iter src) (Z : ∀fp J C,PG (jH X scope (own++fr.map (·.1)) fp J C) tg<|ql X.K T)
 (Y : ∀fp J C,PV (jH X scope (own++fr.map (·.1)) fp J C) elt f) (hs : ∀x,pf iter X.env x=pure x:=by intro _;rfl) :
 PS X (.Assign [.Name y py] (.ListComp elt [⟨tg,iter,[],0⟩] scope pos) spos) (WK (tO X.K<|zU src T own.length (fr.map (·.2)) jz f)<|vB i):=
 yp (Xx z I O U S ok hi Z (λ_ _ _=>W3) Y hs) λD a H h=>Zp L (λa H Q g=>by obtain⟨d,j,b,rc,e,q⟩:=g;cases e;exact q H d<|Ext.refl rc.sub) a H _ h
theorem bF(z:X.N.Nodup)(I:X.N[i]? = bQ y)(O:Loc X.env.scope y)(U:X.fn y=bX\/X.env.scope.names.lookup y=bQ .local)
 (S:X.calm=bX) (ok:qq X scope fr) (L : ∀i∈T.idx,i<own.length) (hi:rh X tg iter src) (Z : ∀fp J C,PG (jH X scope (own++fr.map (·.1)) fp J C) tg<|ql X.K T)
 (hk : ∀fp J C,l0 (jH X scope (own++fr.map (·.1)) fp J C) c k) (Y : ∀fp J C,PV (jH X scope (own++fr.map (·.1)) fp J C) elt f) (hs : ∀x,pf iter X.env x=pure x:=by intro _;rfl) :
 PS X (.Assign [.Name y py] (.ListComp elt [⟨tg,iter,[c],0⟩] scope pos) spos) (WK (tO X.K<|zU src T own.length (fr.map (·.2)) k f)<|vB i):=
 yp (Xx z I O U S ok hi Z (λfp J C=>W2<|hk fp J C) Y hs) λD a H h=>Zp L (λa H Q h=>h) a H _ h
end
theorem jA{K:MP}{H:Hp}{i:Int}{v:V}(h:Rep K H (.int i) v):v = .int i:=h
theorem dF{K:MP}{g:Int->Int->D}{z:Int->Int->V}(O : ∀H i j,Rep K H (g i j)<|z i j):l9 K (pk z) (dI g):=λa H x y b U d Q s e f I q=>by cases b<;>cases U<;>simp[dI]at I;subst I;exact⟨_,_,jA e,jA f,q _ H a (Ext.refl s)<|O a _ _⟩
theorem dE{K:MP}{C:Int->Int->Prop}{c:Int->Int->Bool}{g:Int->Int->D}{z:Int->Int->V}(O : ∀i j,c i j=bX->C i j)(U : ∀H i j,Rep K H (g i j)<|z i j):l9 K (rI C z) (E3 c g):=λa H x y b e d Q s k l I q=>by cases b<;>cases e<;>simp[E3]at I;obtain⟨f,h⟩:=I;subst h;exact⟨_,_,jA k,jA l,O _ _ f,q _ H a (Ext.refl s)<|U a _ _⟩
theorem su{K:MP}:l9 K (pk λi j=> .int (i - j)) Xi:=dF λ_ _ _=>rfl
theorem oz(h:ZT i j=bX):DA i j:=by unfold ZT at h;rw[OC,decide_eq_true_eq,decide_eq_true_eq]at h;unfold DA;omega
theorem sD{K:MP}:l9 K (rI LD λi j=> .int (i/j)) Jv:=dE (λi j h=>by unfold Ep at h;rw[Nb,decide_eq_true_eq,decide_eq_true_eq]at h;exact⟨h.1,by omega⟩) λ_ _ _=>rfl
theorem sA{K:MP}:l9 K (rI (λ_ j=>0<j) λi j=> .int (i%j)) yv:=dE (λi j h=>by unfold Fz at h;exact of_decide_eq_true h) λ_ _ _=>rfl
theorem sv{K:MP}:l9 K (rI LC λi j=> .int (i ^ j.toNat)) uK:=dE (λi j h=>by unfold Eo at h;rw[Nb,Nb,decide_eq_true_eq,decide_eq_true_eq,decide_eq_true_eq]at h;exact⟨h.1.1,by omega,h.2⟩) λ_ _ _=>rfl
theorem dD{K:MP}:l9 K (pk λi j=> .bl (decide<|i<j)) sG:=dF λ_ _ _=>rfl
theorem JP{K:MP}:l9 K (pk λi j=> .bl (decide<|i<=j)) lp:=dF λ_ _ _=>rfl
theorem Ba{K:MP}:l9 K (pk λi j=> .bl (decide<|j<i)) C3:=dF λ_ _ _=>rfl
theorem Bb{K:MP}:l9 K (pk λi j=> .bl (decide<|j<=i)) DH:=dF λ_ _ _=>rfl
section
variable{X:Cx}
noncomputable def oU(K:MP):R2:=λx y H Q=>∃a b d e,x = .ref a/\y = .ref b/\ft K H a d/\ft K H b e/\d.length+e.length<=ej/\
 (d=[]->Q (.ref b) H)/\(e=[]->Q (.ref a) H)/\∀p,H p=none->Q (.ref p) (upd H p<|.tup<|d++e)
theorem mW:gB X (ro .Add) (oU X.K):=by
 intro A s σ H x y v u Q I S T h;obtain⟨a,b,B,Y,rfl,rfl,J,L,w,N,P,R⟩:=h;cases S;cases T;obtain⟨O,r,t,z1⟩:=I.tuple J;obtain⟨C,e,f,z2⟩:=I.tuple L;by_cases U:B=[]
 ·have d:O=[]:=(r.L7).mpr U
  obtain⟨⟨F,G,k,W⟩,p,l,n,m⟩:=id t;obtain⟨⟨Z,E,data2,as⟩,g,i,M,j⟩:=id f;simp only at l m i j;subst l m i j;exact Ui ⟨_,p,rfl⟩ ⟨_,g,rfl⟩ Uj UN Sv Ss (Sd _ _)
   (tuple_addW0 a b O.toArray C.toArray n M G E W as<|by simp[d]) ⟨p,g,⟨.ref b,H,I,rfl,N U⟩⟩
 ·have d:O ≠ []:=λz=>U ((r.L7).mp z)
  refine HT.HE t f d (λz=>⟨.ref a,H,I,rfl,P<|(e.L7).mp z⟩) (λ_=>?_) (by rw[<- r.length,<- e.length];exact w);refine⟨.ref s.heap.objs.size,_,I.laid (t':=s.toks) (o:= .tup (B++Y)) (λc ob q=>MT _ q) (MY _) ?_,rfl,R _<|I.eo.fresh<|MY _⟩;exact⟨by rw[NO];exact w,_,r.append e,u4.new _ _⟩
noncomputable def Bx(K:MP):R2:=λx y H Q=>∃l b a d,x = .ref l/\y = .ref b/\eU K H l a/\eU K H b d/\a.length+d.length<=ej/\∀p,H p=none->Q (.ref p) (upd H p<|.lst<|a++d)
theorem mX:gB X (ro .Add) (Bx X.K):=by
 intro a s M H x y v u Q I G J h;obtain⟨l,b,Z,zs,rfl,rfl,B,A,T,q⟩:=h;cases G;cases J;obtain⟨z,r,⟨o,n,e,U,d,f⟩,z1⟩:=I.list B;obtain⟨O,m,⟨E,C,k,g,i,j⟩,z2⟩:=I.list A;have W:=r.length;have Y:=m.length;obtain⟨cls,i0,S,L⟩:=o;obtain⟨N,P,R,p⟩:=E;simp only at U d f g i j;subst U d f g i j;have t:EP X a M Q (.ref s.heap.objs.size) {s with heap:=s.heap.push {cls:= .type "list",data:= .seq (z++O).toArray}}:=
  ⟨.ref _,_,I.UE (t':=s.toks) (r.append m) (by rw[NO];omega),rfl,q _ I.fresh⟩
 have w:z.toArray++O.toArray=(z++O).toArray:=by simp
 refine Ui ⟨_,e,rfl⟩ ⟨_,k,rfl⟩ noFill_list_add seq_list_add PySem.F.slot_list_add PySem.F.entry_list_add (PySem.F.args_list_add_2 _ _)
  (list_addW l b z.toArray O.toArray n C none none L p<|by rw[MZ,MZ];omega) ⟨e,k,?_⟩
 rw[w];exact t
end
noncomputable def yM(scope C:fA):fA:={scope with names:=scope.names.map λp=>if p.2==NA && C.kind == .function && C.names.lookup p.1==bQ .cell then (p.1,Pn)else (p.1,p.2)}
theorem bw(scope:fA)(env:m4):t7 scope env=yM scope env.scope:=by unfold t7 yM;rfl
structure SX(X:Cx)(sc:fA)(N T:List Str)(k:Nat):Prop where
 DK:X.env.scope=sc
 eN:X.N=N
 nd:N.Nodup
 calm:X.calm=bX
 room:l8 k X.A
 fn : ∀x∈T,X.fn x=bX\/sc.names.lookup x=bQ .local
noncomputable def X0(C:fA)(N:List Str)(i:Nat)(x:Str):Bool:=
 decide (N[i]? = bQ x) && (decide (C.names.lookup x=bQ .local) || decide (C.names.lookup x=bQ .cell) || decide (C.names.lookup x=bQ .free)) && !(x==("__debug__" : Str)) && !(x==("__classdict__" : Str))
noncomputable def vh(C:fA)(N T:List Str)(i:Nat)(x:Str):Bool:=decide (x∈T) && decide (N[i]? = bQ x) && (decide (C.names.lookup x=bQ .local) || decide (C.names.lookup x=bQ .cell))
noncomputable def vz(C:fA)(x:Str):Bool:=decide (C.names.lookup x=bQ .globalImplicit) && !(x==("__name__" : Str)) && !(x==("__debug__" : Str))
section
variable{X:Cx}{sc:fA}{N T:List Str}{k:Nat}{i:Nat}{x:Str}{pos:fh}
theorem SX.var(h:SX X sc N T k)(c:X0 sc N i x=bX):PE X (.Name x pos) (Ak i):=by
 unfold X0 at c;simp only[Nb,OC,decide_eq_true_eq,Pa]at c;obtain⟨⟨⟨a,h2⟩,z⟩,I⟩:=c;refine BU (by rw[h.eN];exact a) ?_ z I;unfold O3;rw[h.DK];rcases h2 with(h2 | h2) | h2
 ·exact .inl h2
 ·exact .inr<|.inl h2
 ·exact .inr<|.inr h2
theorem SX.loc(h:SX X sc N T k)(c:vh sc N T i x=bX):X.N[i]? = bQ x/\L2.Loc X.env.scope x/\(X.fn x=bX\/X.env.scope.names.lookup x=bQ .local):=by
 unfold vh at c;simp only[Nb,OC,decide_eq_true_eq]at c;refine⟨by rw[h.eN];exact c.1.2,?_,?_⟩
 ·unfold L2.Loc;rw[h.DK];exact c.2
 ·rw[h.DK];exact h.fn x c.1.1
theorem SX.L5(h:SX X sc N T k):X.N.Nodup:=by rw[h.eN];exact h.nd
theorem SX.DV(h:SX X sc N T k)(i:Nat)(c:vh sc N T i x=bX):PG X (.Name x pos) (vB i):=by obtain⟨a,b,z⟩:=h.loc c;exact fw h.L5 a b z
theorem SX.U7(h:SX X sc N T k)(g:D5 X es (gs is))(C:(x6 es X.env).length=is.length:=by rfl)(z:(x6 es X.env).findIdx? (·.1)=none:=by rfl):PG X (.Tuple es j pos) (ql X.K<|.tp is):=
 BR h.calm g C z
theorem SX.set(h:SX X sc N T k)(i:Nat)(c:vh sc N T i x=bX)(z:PE X e te)(hs:r9 e (bQ (.Name x pos')) pos.line X.env=pure cE:=by rfl):PS X (.Assign [.Name x pos'] e pos) (WK te<|vB i):=by obtain⟨a,b,I⟩:=h.loc c;exact BK h.L5 a b z hs I
theorem SX.gl(h:SX X sc N T k)(c:vz sc x=bX):Gl X x/\x ≠ "__name__"/\(x==("__debug__" : Str))=cE:=by
 unfold vz at c;simp only[Nb,decide_eq_true_eq,Pa]at c;refine⟨?_,?_,c.2⟩
 ·show X.env.scope.names.lookup x=_
  rw[h.DK];exact c.1.1
 ·intro e;rw[e]at c;simp at c
noncomputable def Wl(sc scope:fA)(N:List Str)(C:List (Str×Nat)):Bool:=
 decide (scope.kind = .function) && decide ((scope.names.map (·.1)).Nodup) && scope.names.all (λp=> !(p.2==NA) || decide (sc.names.lookup p.1=bQ .cell) || decide (sc.names.lookup p.1=bQ .free)) &&
 C.all λp=>decide (scope.names.lookup p.1=bQ .free) && decide (N[p.2]? = bQ p.1)
noncomputable def Gc(own:List Str)(scope:fA)(C:List (Str×Nat)):Bool:=decide ((own++C.map (·.1)).Nodup) && own.all (λx=>decide (scope.names.lookup x=bQ .local) || decide (scope.names.lookup x=bQ .cell))
theorem SX.H_(h:SX X sc N T k)(c:Wl sc scope N fr=bX):qq X scope fr:=by
 unfold Wl at c;simp only[Nb,decide_eq_true_eq,OQ,OC,Pa]at c;obtain⟨⟨⟨I,O⟩,b⟩,a⟩:=c;refine⟨I,O,λp z U=>?_,λp z=>⟨(a p z).1,by rw[h.eN];exact(a p z).2⟩⟩;have e:X.env.kindOf p.1=sc.names.lookup p.1:=by show X.env.scope.names.lookup p.1=_;rw[h.DK]
 rw[e];rcases b p z with(q | q) | q
 ·rw[U]at q;exact absurd q ⋯
 ·exact .inl q
 ·exact .inr q
theorem J4(scope sc:fA)(x:Str):(yM scope sc).names.lookup x=(scope.names.lookup x).map λk=>if (k==NA && sc.kind == .function && sc.names.lookup x==bQ .cell)then Pn else k:=by
 unfold yM;dsimp only;generalize scope.names=l
 induction l with
 | nil=>rfl
 | cons p r I=>
  obtain⟨n,O⟩:=p;rw[Nt];cases hx:x==n with
  | true=>
   have e:x=n:=by simpa using hx
   subst e;dsimp only;split
   ·rename_i z;rw[Oc,Oc,beq_self_eq_true];dsimp only[Sj];rw[UJ z]
   ·rename_i z;rw[Oc,Oc,beq_self_eq_true];dsimp only[Sj];rw[UY z]
  | false=>
   dsimp only;split
   ·rw[Oc,Oc,hx];exact I
   ·rw[Oc,Oc,hx];exact I
theorem SX.comp(h:SX X sc N T k)(c:Gc own scope fr=bX) :
 SX (jH X scope (own++fr.map (·.1)) fp s2 H2) (yM scope sc) (own++fr.map (·.1)) own k:=by
 unfold Gc at c;simp only[Nb,decide_eq_true_eq,OQ,OC]at c;refine⟨?_,rfl,c.1,h.calm,h.room,λx a=>?_⟩
 ·show t7 scope X.env=_
  rw[bw,h.DK]
 ·rcases c.2 x a with q | q
  ·right;rw[J4,q];rfl
  ·left
   show(scope.names.lookup x==bQ .cell)=bX;rw[q];rfl
end
mutual
def iA:D->PyData
 | .d7=> .none
 | .bl b=> .bool b
 | .int i=> .int i
 | .str x=> .str x
 | .tup a=> .tuple (nt a)
 | .lst a=> .list (nt a)
 | .i8 _ _=> .none
 | .i0 _ _=> .none
def nt:List D->List PyData
 | []=>[]
 | d::ds=>iA d::nt ds
end
theorem Be(h:hX (.i8 ks vs)=bX):False:=by simp[hX]at h
theorem A9(h:hX (.i0 ks vs)=bX):False:=by simp[hX]at h
mutual
theorem I7 : ∀x y:D,hX x=bX->hX y=bX->Py (iA x) (iA y)=g9 x y
 | .d7,y,_,h=>by cases y<;>first | exact(Be h).elim | exact(A9 h).elim | simp[iA,Py,g9]
 | .bl a,y,_,h=>by cases y<;>first | exact(Be h).elim | exact(A9 h).elim | simp[iA,Py,g9]
 | .int a,y,_,h=>by cases y<;>first | exact(Be h).elim | exact(A9 h).elim | simp[iA,Py,g9]
 | .str a,y,_,h=>by cases y<;>first | exact(Be h).elim | exact(A9 h).elim | simp[iA,Py,g9]
 | .i8 c n,y,h,_=>(Be h).elim
 | .i0 c n,y,h,_=>(A9 h).elim
 | .tup xs,y,h1,h2=>by
  cases y with
  | tup b=>simp only[hX]at h1 h2;simp only[iA,Py,g9];exact P2 xs b h1 h2
  | i8 c n=>exact(Be h2).elim
  | i0 c n=>exact(A9 h2).elim
  | _=>simp[iA,Py,g9]
 | .lst xs,y,h1,h2=>by
  cases y with
  | lst b=>simp only[hX]at h1 h2;simp only[iA,Py,g9];exact P2 xs b h1 h2
  | i8 c n=>exact(Be h2).elim
  | i0 c n=>exact(A9 h2).elim
  | _=>simp[iA,Py,g9]
theorem P2 : ∀xs ys:List D,m6 xs=bX->m6 ys=bX->Ti (nt xs) (nt ys)=o4 xs ys
 | [],ys,_,_=>by cases ys<;>simp[nt,Ti,o4]
 | x::xs,ys,h1,h2=>by
  cases ys with
  | nil=>simp[nt,Ti,o4]
  | cons y ys=>
   simp only[m6,Nb]at h1 h2;simp only[nt,Ti,o4];rw[I7 x y h1.1 h2.1,P2 xs ys h1.2 h2.2]
end
mutual
theorem R4 : ∀x:D,hX x=bX->(iA x).canLay0=bX
 | .d7,_=>by simp[iA,Rz]
 | .bl a,_=>by simp[iA,Rz]
 | .int a,_=>by simp[iA,Rz]
 | .str a,h=>by simpa[iA,Rz,hX,PyData.strOk]using h
 | .tup xs,h=>by simp only[hX]at h;simp only[iA,Rz];exact L1 xs h
 | .lst xs,h=>by simp only[hX]at h;simp only[iA,Rz];exact L1 xs h
 | .i8 c n,h=>(Be h).elim
 | .i0 c n,h=>(A9 h).elim
theorem L1 : ∀xs:List D,m6 xs=bX->Tt (nt xs)=bX
 | [],_=>by simp[nt,Tt]
 | x::xs,h=>by simp only[m6,Nb]at h;simp only[nt,Tt];rw[R4 x h.1,L1 xs h.2];rfl
end
mutual
theorem Ut : ∀x:D,(iA x).depth=deep x
 | .d7=>by simp[iA,Rg,deep]
 | .bl a=>by simp[iA,Rg,deep]
 | .int a=>by simp[iA,Rg,deep]
 | .str a=>by simp[iA,Rg,deep]
 | .i8 c n=>by simp[iA,Rg,deep]
 | .i0 c n=>by simp[iA,Rg,deep]
 | .tup b=>by simp only[iA,Rg,deep];rw[P1 b]
 | .lst b=>by simp only[iA,Rg,deep];rw[P1 b]
theorem P1 : ∀xs:List D,SI (nt xs)=p9 xs
 | []=>by simp[nt,SI,p9]
 | x::xs=>by simp only[nt,SI,p9];rw[Ut x,P1 xs]
end
theorem kU(h:i4 d=bX):hX d=bX:=by unfold i4 at h;rw[Nb]at h;exact h.2
theorem vi(h:i4 d=bX):SeqAt.shaped (iA d)=bX:=by unfold i4 at h;rw[Nb,decide_eq_true_eq]at h;unfold SeqAt.shaped;rw[R4 d h.2,Bool.true_and,Ut];exact decide_eq_true ⋯
section
variable{X:Cx}{pins:UQ}{σ:St}{H0 H:Hp}{s:dy}
mutual
theorem DS(I:Inv X pins σ H s)(sub:eM H0 H) : ∀{d:D} {v:V} {u:dj},hX d=bX->Rep X.K H0 d v->RelV v u->∃z,Reads s.heap u (iA d) z
 | .d7,v,u,_,h,r=>by cases (show v = .d7 from h);cases r;exact⟨_,.none⟩
 | .bl b,v,u,_,h,r=>by cases (show v = .bl b from h);cases r;exact⟨_,.bool b⟩
 | .int i,v,u,_,h,r=>by cases (show v = .int i from h);obtain⟨t,rfl⟩:=r;exact⟨_,.int i t⟩
 | .str x,v,u,_,h,r=>by cases (show v = .str x from h);obtain⟨t,rfl⟩:=r;exact⟨_,.str x t⟩
 | .i8 c n,v,u,o,_,_=>(Be o).elim
 | .i0 c n,v,u,o,_,_=>(A9 o).elim
 | .tup ds,v,u,o,h,r=>by obtain⟨a,e,rfl,f,g⟩:=(show ∃a e,v = .ref a/\ft X.K H0 a e/\dk X.K H0 ds e from h);cases r;simp only[hX]at o;obtain⟨m,O,⟨y,U,j,n,k⟩,w⟩:=I.tuple<|my sub f;obtain⟨z,l⟩:=M4 I sub o g O;exact⟨z,.tuple U j k<|by simpa using l⟩
 | .lst ds,v,u,o,h,r=>by obtain⟨a,e,rfl,f,g⟩:=(show ∃a e,v = .ref a/\eU X.K H0 a e/\dk X.K H0 ds e from h);cases r;simp only[hX]at o;obtain⟨m,O,p,w⟩:=I.list<|sub.seq f;obtain⟨y,U,j,n,k⟩:=p.isList;obtain⟨z,l⟩:=M4 I sub o g O;exact⟨_,.list U j k<|by simpa using l⟩
theorem M4(I:Inv X pins σ H s)(sub:eM H0 H) : ∀{ds:List D} {xs:List V} {us:List dj},m6 ds=bX->dk X.K H0 ds xs->d9 xs us->∃z,ReadsAll s.heap us (nt ds) z
 | [],xs,us,_,h,r=>by rw[h.n0]at r;cases r;exact⟨_,.nil⟩
 | d::ds,xs,us,o,h,r=>by
  obtain⟨x,t,e,a,b⟩:=h.l5;subst e;simp only[m6,Nb]at o;cases r with
  | cons O f=>
   obtain⟨z,U⟩:=DS I sub o.1 a O;obtain⟨bs,g⟩:=M4 I sub o.2 b f;exact⟨_,.cons U g⟩
end
end
noncomputable def IR(K:MP):R2:=λx y H Q=>∃a b z,eM a H/\Rep K a b x/\Rep K a z y/\i4 b=bX/\i4 z=bX/\Q (.bl<|g9 b z) H
noncomputable def IQ(K:MP):R2:=λx y H Q=>∃a b z,eM a H/\Rep K a b x/\Rep K a z y/\i4 b=bX/\i4 z=bX/\Q (.bl<|!g9 b z) H
theorem ph(U:X.A.units+64<yg):gB X (ml .Eq) (IR X.K):=by intro a s m H x y v u Q I g i h;obtain⟨j,k,l,sub,b,d,z,O,q⟩:=h;obtain⟨as,e⟩:=DS I sub (kU z) b g;obtain⟨bs,f⟩:=DS I sub (kU O) d i;exact eq_dataH e f (vi z) (vi O) U ⟨.bl _,H,I,by rw[I7 _ _ (kU z) (kU O)];rfl,q⟩
theorem pe(U:X.A.units+64<yg):gB X (ml .NotEq) (IQ X.K):=by intro a s m H x y v u Q I g i h;obtain⟨j,k,l,sub,b,d,z,O,q⟩:=h;obtain⟨as,e⟩:=DS I sub (kU z) b g;obtain⟨bs,f⟩:=DS I sub (kU O) d i;exact ne_dataH e f (vi z) (vi O) U ⟨.bl _,H,I,by rw[I7 _ _ (kU z) (kU O)];rfl,q⟩
theorem dG{K:MP}:l9 K (IR K) gm:=λa H x y b I d Q s O U z q=>by
 unfold gm at z;split at z
 ·rename_i h;cases z;exact⟨a,b,I,s,O,U,h.1,h.2,q _ H a (Ext.refl s) rfl⟩
 ·cases z
theorem dC{K:MP}:l9 K (IQ K) eK:=λa H x y b I d Q s O U z q=>by
 unfold eK at z;split at z
 ·rename_i h;cases z;exact⟨a,b,I,s,O,U,h.1,h.2,q _ H a (Ext.refl s) rfl⟩
 ·cases z
theorem SX.DW(h:SX X sc N T k):X.A.units+64<yg:=by have:=h.room.un;omega
section
variable{X:Cx}{sc:fA}{N T:List Str}{k:Nat}{a b c:dt}{pos p:fh}{fa fb fc:CO D}
theorem wm(C:PV X a fa)(z:PV X b fb):PV X (.BinOp a .Sub b pos) (zK Xi fa fb):=Xu Cm su C z
theorem y9(C:PV X a fa)(z:PV X b fb):PV X (.BinOp a .FloorDiv b pos) (zK Jv fa fb):=Xu ue sD C z
theorem qE(C:PV X a fa)(z:PV X b fb):PV X (.BinOp a .Mod b pos) (zK yv fa fb):=Xu Cp sA C z
theorem eD(C:PV X a fa)(z:PV X b fb):PV X (.BinOp a .Pow b pos) (zK uK fa fb):=Xu Co sv C z
theorem GN(C:PV X a fa)(z:PV X b fb):PV X (.Compare a [.GtE] [b] pos) (zK DH fa fb):=eO GW Bb C z<|ZY b
theorem eJ(h:SX X sc N T k)(C:PV X a fa)(z:PV X b fb):PV X (.Compare a [.Eq] [b] pos) (zK gm fa fb):=eO (ph h.DW) dG C z<|ZY b
theorem BD(h:SX X sc N T k)(C:PV X a fa)(z:PV X b fb):PV X (.Compare a [.NotEq] [b] pos) (zK eK fa fb):=eO (pe h.DW) dC C z<|ZY b
theorem BG(C:PV X a fa)(z:PV X b fb):l0 X (.Compare a [.Lt] [b] pos) (sB<|zK sG fa fb):=JV ud dD C z<|ZY b
theorem WZ(C:PV X a fa)(z:PV X b fb):l0 X (.Compare a [.Gt] [b] pos) (sB<|zK C3 fa fb):=JV GV Ba C z<|ZY b
theorem kO(h:SX X sc N T k)(C:PV X a fa)(z:PV X b fb):l0 X (.Compare a [.Eq] [b] pos) (sB<|zK gm fa fb):=JV (ph h.DW) dG C z<|ZY b
theorem qU(h:SX X sc N T k)(C:PV X a fa)(z:PV X b fb):l0 X (.Compare a [.NotEq] [b] pos) (sB<|zK eK fa fb):=JV (pe h.DW) dC C z<|ZY b
theorem VH{K:MP}{H:Hp}{d:D}(h:Rep K H d .d7):d = .d7:=by
 cases d with
 | d7=>rfl
 | bl b=>exact V.noConfusion (show V.d7 = .bl b from h)
 | int b=>exact V.noConfusion (show V.d7 = .int b from h)
 | str b=>exact V.noConfusion (show V.d7 = .str b from h)
 | tup b=>obtain⟨a,f,e,_⟩:=h;cases e
 | lst b=>obtain⟨a,f,e,_⟩:=h;cases e
 | i8 c n=>obtain⟨a,f,e,_⟩:=h;cases e
 | i0 c n=>obtain⟨a,f,e,_⟩:=h;cases e
theorem sC{K:MP}:l9 K (λx y H Q=>y = .d7/\Q (.bl<|decide<|x = .d7) H) El:=λa H x y b O d Q s z U I q=>by
 cases O with
 | d7=>
  refine⟨U,?_⟩;cases b with
  | d7=>cases I;rw[show x=V.d7 from z];exact q _ H a (Ext.refl s) (by simp;rfl)
  | _=>
   cases I;refine q _ H a (Ext.refl s) ?_;have : ¬x=V.d7:=λe=>by rw[e]at z;exact D.noConfusion<|VH z
   rw[decide_eq_false this];rfl
 | _=>cases b<;>cases I
theorem tm(C:PV X a fa)(z:PV X b fb):l0 X (.Compare a [.Is] [b] pos) (sB<|zK El fa fb):=JV Cq sC C z<|ZY b
theorem vg{K:MP}{H:Hp}{ds:List D}{v:V}(h:Rep K H (.tup ds) v) : ∃a xs,v = .ref a/\ft K H a xs/\dk K H ds xs:=h
theorem fU{K:MP}{H:Hp}{ds:List D}{v:V}(h:Rep K H (.lst ds) v) : ∃a xs,v = .ref a/\eU K H a xs/\dk K H ds xs:=h
theorem kh{K:MP}{H:Hp}{ds:List D}{a:di}{xs:List V}(C:ft K H a xs)(I:dk K H ds xs):Rep K H (.tup ds) (.ref a):=⟨a,xs,rfl,C,I⟩
theorem Kj{K:MP}{H:Hp}{ds:List D}{a:di}{xs:List V}(C:eU K H a xs)(I:dk K H ds xs):Rep K H (.lst ds) (.ref a):=⟨a,xs,rfl,C,I⟩
theorem sE{K:MP}:l9 K (λx y H Q=>pk (λi j=> .int (i+j)) x y H Q\/oU K x y H Q) qu:=λg H x y o r d Q s U m I q=>by
 cases o<;>cases r<;>simp[qu]at I
 ·subst I;exact .inl ⟨_,_,jA U,jA m,q _ H g (Ext.refl s) rfl⟩
 ·rename_i n t
  obtain⟨u,rfl⟩:=I;obtain⟨a,w,rfl,h,f⟩:=vg U;obtain⟨b,A,rfl,k,z⟩:=vg m;refine .inr ⟨a,b,w,A,rfl,rfl,my s h,my s k,yS (by rw[f.length,z.length];exact u),λe=>?_,λe=>?_,λp l=>?_⟩
  ·have O:n=[]:=by
    have:=f.length;rw[e]at this;exact NG this.symm
   subst O;exact q _ H g (Ext.refl s)<|kh k z
  ·have O:t=[]:=by
    have:=z.length;rw[e]at this;exact NG this.symm
   subst O;exact q _ H g (Ext.refl s) (by rw[Rt];exact kh h f)
  ·exact q _ _ _ (Ext.alloc s l _)<|kh (ft.of zW)<|(f.append z).mono (jm (jQ s l) _)
theorem jE(C:PV X a fa)(z:PV X b fb):PV X (.BinOp a .Add b pos) (zK qu fa fb):=Xu (S'.or mW) sE C z
end
theorem XY(O:A.handled=none)(k:Sk)(I z:di)(U:z≠I)(items:Array dj) :
 Walks P w A I [I,z] [I] items.size (λi v=>items[i]? = bQ v) (λi h=>j1 k h I z i/\m8 k h z items):=by
 cases k
 ·exact Walks.list O I z U items
 ·exact Walks.tuple O I z U items
theorem JX(C:List Int) : ∀n,preSum (λi=>C.getD i 0) n=(C.take n).sum
 | 0=>by simp[preSum]
 | n+1=>by
  have z:=JX C n;simp only[preSum,z];by_cases h:n<C.length
  ·rw[List.take_succ_eq_append_getElem h,List.sum_append]
   simp[h]
  ·rw[PJ ⋯,PJ ⋯]
   simp[h]
section
variable{X:Cx}{pins:UQ}{σ:St}{H:Hp}{s:dy}
theorem ip(J:X.calm=bX):ZV X (.builtin "sum") (λxs H Q=>∃p k ys C,xs=[.ref p]/\kr k X.K H p ys/\ys=(C:List Int).map V.int/\Q (.int C.sum) H):=by
 intro pins s σ H G F Q I w h;obtain⟨p,k,ys,C,rfl,m,rfl,q⟩:=h;obtain⟨u,rfl,O⟩:=vf w;cases O;obtain⟨z,r,a,E⟩:=I.sq m;have lt:=a.lt;have U:=r.length;rw[Nf]at U;refine call_sum_walkG<|Y5 a ⟨_,[_,p],[_],z.toArray.size,_,_,λi=>C.getD i 0,rfl,XY (A:=X.A.in1) (I.ok.hd J) k _ p (NI lt) z.toArray,⟨XG k _ p,a.at λo e=>MT _ e⟩,?_,?_,?_⟩
 ·intro b g
  rw[NV];simp only[Nc,ND,or_false]at g;rcases g with rfl | rfl
  ·exact OR _
  ·exact Oh lt
 ·intro i v n
  have d:z[i]? = bQ v:=by simpa using n
  have j:i<C.length:=by rw[U];exact(Ng.mp d).1
  obtain⟨u,f,O⟩:=r.get (i:=i) (x:= .int C[i]) (by simp[j]);rw[d]at f;cases f;obtain⟨t,rfl⟩:=O;exact⟨t,by simp[j]⟩
 ·intro B y t' l
  have e:preSum (λi=>C.getD i 0) z.toArray.size=C.sum:=by rw[JX,PJ (by rw[MZ,U];exact MY _)]
  refine⟨.int C.sum,H,I.kept (t':=y)<|λb u e=>l b u ?_ (MT _ e),⟨t',by rw[e]⟩,q⟩;simp only[Nc,ND,or_false];exact NI<|Nh e
noncomputable def AH:V->Option Bool
 | .d7=>bQ cE
 | .bl b=>bQ b
 | .int i=>bQ (i != 0)
 | _=>none
theorem WH(r:RelV x u)(e:AH x=bQ b)(q:Q b s):wpAny (d6 P w) A (F7 u) Q E s:=by
 cases x with
 | d7=>cases r;cases e;exact λ_ _ _=>q
 | bl c=>cases r;cases e;exact OF q
 | int i=>obtain⟨t,rfl⟩:=r;cases e;exact PyProof.Rows.truthy_int q
 | _=>cases e
noncomputable def aZ:List V->Option (List Bool)
 | []=>bQ []
 | x::r=>(AH x).bind λb=>(aZ r).map λl=>b::l
theorem JG : ∀{xs:List V} {bs:List Bool},aZ xs=bQ bs->bs.length=xs.length/\∀(i:Nat) x,xs[i]? = bQ x->AH x=bQ (bs.getD i cE)
 | [],bs,h=>by cases h;exact⟨rfl,λi x e=>by simp at e⟩
 | y::xs,bs,h=>by
  obtain⟨b,a,h⟩:=zk h;obtain⟨l,z,h⟩:=zF h;subst h;obtain⟨d,f⟩:=JG z;refine⟨by simp[d],λi x e=>?_⟩;cases i with
  | zero=>simp at e;subst e;simpa using a
  | succ i=>simpa using f i x (by simpa using e)
theorem iP(bs:List Bool):(MO bs.length).all (λi=>bs.getD i cE)=bs.all id:=by
 rw[Rw];simp only[OQ,MR,id_eq];constructor
 ·intro h b z
  obtain⟨i,a,e⟩:=List.mem_iff_getElem.mp z;have:=h i a;rw[MU,MS a]at this;rw[<- e];exact this
 ·intro h i a
  rw[MU,MS a];exact h _<|Od a
theorem iO(bs:List Bool):(MO bs.length).any (λi=>bs.getD i cE)=bs.any id:=by
 rw[Rw];simp only[TU,MR,id_eq];constructor
 ·rintro⟨i,a,h⟩
  rw[MU,MS a]at h;exact⟨_,Od a,h⟩
 ·rintro⟨b,z,h⟩
  obtain⟨i,a,e⟩:=List.mem_iff_getElem.mp z;refine⟨i,a,?_⟩;rw[MU,MS a,RF,e];exact h
theorem iz(C:X.calm=bX):ZV X (.builtin "all") (λxs H Q=>∃p k ys bs,xs=[.ref p]/\kr k X.K H p ys/\aZ ys=bQ bs/\Q (.bl (bs.all id)) H):=by
 intro pins s σ H P N Q I B h;obtain⟨p,k,ys,bs,rfl,t,w,q⟩:=h;obtain⟨u,rfl,O⟩:=vf B;cases O;obtain⟨z,r,a,L⟩:=I.sq t;have lt:=a.lt;have U:=r.length;obtain⟨j,l⟩:=JG w;refine call_all_walk<|Y5 a ⟨_,[_,p],[_],z.toArray.size,_,_,λi=>bs.getD i cE,rfl,XY (A:=X.A.in1) (I.ok.hd C) k _ p (NI lt) z.toArray,⟨XG k _ p,a.at λo e=>MT _ e⟩,?_,?_⟩
 ·intro i v M G F y m
  have d:z[i]? = bQ v:=by simpa using y
  have g:i<ys.length:=by rw[U];exact(Ng.mp d).1
  obtain⟨u,f,O⟩:=r.get (i:=i) (x:=ys[i]) (by simp[g]);rw[d]at f;cases f;exact WH O (l i ys[i] (by simp[g])) m
 ·intro J E n
  have e:(MO z.toArray.size).all (λi=>bs.getD i cE)=bs.all id:=by rw[MZ,<- U,<- j];exact iP bs
  refine⟨.bl<|bs.all id,H,I.kept (t':=E)<|λb u e=>n b u ?_ (MT _ e),by rw[e];rfl,q⟩;simp only[Nc,ND,or_false];exact NI<|Nh e
theorem iy(C:X.calm=bX):ZV X (.builtin "any") (λxs H Q=>∃p k ys bs,xs=[.ref p]/\kr k X.K H p ys/\aZ ys=bQ bs/\Q (.bl (bs.any id)) H):=by
 intro pins s σ H P N Q I B h;obtain⟨p,k,ys,bs,rfl,t,w,q⟩:=h;obtain⟨u,rfl,O⟩:=vf B;cases O;obtain⟨z,r,a,L⟩:=I.sq t;have lt:=a.lt;have U:=r.length;obtain⟨j,l⟩:=JG w;refine call_any_walk<|Y5 a ⟨_,[_,p],[_],z.toArray.size,_,_,λi=>bs.getD i cE,rfl,XY (A:=X.A.in1) (I.ok.hd C) k _ p (NI lt) z.toArray,⟨XG k _ p,a.at λo e=>MT _ e⟩,?_,?_⟩
 ·intro i v M G F y m
  have d:z[i]? = bQ v:=by simpa using y
  have g:i<ys.length:=by rw[U];exact(Ng.mp d).1
  obtain⟨u,f,O⟩:=r.get (i:=i) (x:=ys[i]) (by simp[g]);rw[d]at f;cases f;exact WH O (l i ys[i] (by simp[g])) m
 ·intro J E n
  have e:(MO z.toArray.size).any (λi=>bs.getD i cE)=bs.any id:=by rw[MZ,<- U,<- j];exact iO bs
  refine⟨.bl<|bs.any id,H,I.kept (t':=E)<|λb u e=>n b u ?_ (MT _ e),by rw[e];rfl,q⟩;simp only[Nc,ND,or_false];exact NI<|Nh e
end
section
variable{X:Cx}{sc:fA}{N T:List Str}{k:Nat}{e a b c:dt}{pos p p2:fh}{f g:CO D}{fq:CO (Sk×List D)}
theorem AV{K:MP}{H:Hp}{k:Sk}{a:di}{xs:List V}(h:kr k K H a xs):eU K H a xs\/ft K H a xs:=by
 cases k
 ·exact .inl h
 ·exact .inr h
theorem qF(h:SX X sc N T k)(c:vz sc "len" = bX)(z:X.mg "len" = none)(I:PQ X e fq)(hs:el [e] X.env=[(cE,dv e X.env)]:=by rfl):PV X (.Call (.Name "len" p) [e] [] pos) (xY fq):=
 qG (yb Vn (h.gl c).1 z PySem.boot_len (jv I qR hs) ⋯ ⋯ hs rfl) λu H Q O=>by obtain⟨j,s,d,rc,U,q⟩:=O;obtain⟨⟨o,f⟩,l,m⟩:=zF U;subst m;refine⟨j,s,o,f,rc,l,λa g i b ext n t r=>⟨a,g,rfl,AV n,?_⟩⟩;exact q _ i b ext (show V.int g.length = .int f.length by rw[r.length])
theorem qP(h:SX X sc N T k)(c:vz sc "tuple" = bX)(z:X.mg "tuple" = none)(O:PQ X e fq)(hs:el [e] X.env=[(cE,dv e X.env)]:=by rfl):PV X (.Call (.Name "tuple" p) [e] [] pos) (ju fq):=
 qG (JY KS (h.gl c).1 z PyProof.Rows.boot_tuple (jv O qR hs) ⋯ ⋯ hs rfl) λx H Q U=>by
  obtain⟨j,w,d,rc,s,q⟩:=U;obtain⟨⟨g,m⟩,n,o⟩:=zF s;subst o;refine⟨j,w,g,m,rc,n,λa u i b ext f t r=>⟨a,u,rfl,?_⟩⟩;cases g with
  | L=>exact .inl ⟨f,λl I=>q _ _ _ (ext.trans<|Ext.alloc ext.sub I _)<|kh (ft.of zW)<|r.mono<|jm (jQ ext.sub I) _⟩
  | T=>exact .inr ⟨f,q _ i b ext (kh (t rfl) r)⟩
theorem kW{H H':Hp}(s:eM H H'){a:di}(h:H' a=none):H a=none:=by
 cases z:H a with
 | none=>rfl
 | some o=>rw[s a o z]at h;cases h
theorem ff(h:SX X sc N T k)(c:vz sc "list" = bX)(z:X.mg "list" = none)(O:PQ X e fq)(hs:el [e] X.env=[(cE,dv e X.env)]:=by rfl):PO X (.Call (.Name "list" p) [e] [] pos) (Ke fq):=
 qG (JY Vl (h.gl c).1 z PyProof.Rows.boot_list (jv O qR hs) ⋯ ⋯ hs rfl) λx H Q U=>by obtain⟨g,t,d,rc,n,q⟩:=U;obtain⟨⟨s,i⟩,j,m⟩:=zF n;subst m;refine⟨g,t,s,i,rc,j,λa f u b ext o w r=>⟨a,f,rfl,AV o,λl I=>?_⟩⟩;exact q l f _ b (ext.trans<|Ext.hide ext.sub I _) (kW ext.s1 I) (jQ ext.sub I) zW r
theorem Ym : ∀{ds:List D} {n:Int},bj ds=bQ n->∃C:List Int,ds=C.map D.int/\n=C.sum
 | [],n,h=>by cases h;exact⟨[],rfl,rfl⟩
 | d::ds,n,h=>by
  cases d with
  | int i=>
   obtain⟨s,e,h⟩:=zF h;obtain⟨C,rfl,rfl⟩:=Ym e;exact⟨i::C,rfl,by rw[<- h];simp⟩
  | _=>cases h
theorem Yy{K:MP}{H:Hp} : ∀{C:List Int} {xs:List V},dk K H (C.map D.int) xs->xs=C.map V.int
 | [],xs,h=>h.n0
 | z::C,xs,h=>by obtain⟨x,r,e,a,b⟩:=dk.l5 h;rw[e,jA a,Yy b];rfl
theorem WX(h:SX X sc N T k)(c:vz sc "sum" = bX)(z:X.mg "sum" = none)(U:PQ X e fq)(hs:el [e] X.env=[(cE,dv e X.env)]:=by rfl):PV X (.Call (.Name "sum" p) [e] [] pos) (Am fq):=
 qG (yb (ip h.calm) (h.gl c).1 z PyProof.Rows.boot_sum (jv U qR hs) ⋯ ⋯ hs rfl) λA H Q u=>by obtain⟨j,x,d,rc,I,q⟩:=u;obtain⟨⟨f,l⟩,m,I⟩:=zk I;obtain⟨n,o,s⟩:=zF I;subst s;obtain⟨g,O,rfl⟩:=Ym o;have O:l=g.map D.int:=O;subst O;exact⟨j,x,f,_,rc,m,λa w i b ext t y r=>⟨a,f,w,g,rfl,t,Yy r,q _ i b ext rfl⟩⟩
theorem rJ{K:MP}{H:Hp}{d:D}{x:V}{b:Bool}(h:Rep K H d x)(e:ER d=bQ b):AH x=bQ b:=by
 cases d with
 | d7=>cases (show x = .d7 from h);exact e
 | bl c=>cases (show x = .bl c from h);exact e
 | int i=>cases (show x = .int i from h);exact e
 | _=>cases e
theorem X6{K:MP}{H:Hp} : ∀{ds:List D} {xs:List V} {bs:List Bool},dk K H ds xs->JF ds=bQ bs->aZ xs=bQ bs
 | [],xs,bs,h,e=>by rw[h.n0];exact e
 | d::ds,xs,bs,h,e=>by obtain⟨x,r,z,f,g⟩:=h.l5;obtain⟨b,a,e⟩:=zk e;obtain⟨l,I,e⟩:=zF e;subst z e;show(AH x).bind _=_;rw[rJ f a];show((aZ r).map λl=>b::l)=_;rw[X6 g I];rfl
theorem oX(h:SX X sc N T k)(c:vz sc "all" = bX)(z:X.mg "all" = none)(O:PQ X e fq)(hs:el [e] X.env=[(cE,dv e X.env)]:=by rfl):PV X (.Call (.Name "all" p) [e] [] pos) (lu fq):=
 qG (yb (iz h.calm) (h.gl c).1 z PyProof.Rows.boot_all (jv O qR hs) ⋯ ⋯ hs rfl) λw H Q U=>by obtain⟨i,s,d,rc,I,q⟩:=U;obtain⟨⟨f,t⟩,j,I⟩:=zk I;obtain⟨bs,l,m⟩:=zF I;subst m;exact⟨i,s,f,_,rc,j,λa o g b ext n u r=>⟨a,f,o,bs,rfl,n,X6 r l,q _ g b ext rfl⟩⟩
theorem oW(h:SX X sc N T k)(c:vz sc "any" = bX)(z:X.mg "any" = none)(O:PQ X e fq)(hs:el [e] X.env=[(cE,dv e X.env)]:=by rfl):PV X (.Call (.Name "any" p) [e] [] pos) (An fq):=
 qG (yb (iy h.calm) (h.gl c).1 z PyProof.Rows.boot_any (jv O qR hs) ⋯ ⋯ hs rfl) λw H Q U=>by obtain⟨i,s,d,rc,I,q⟩:=U;obtain⟨⟨f,t⟩,j,I⟩:=zk I;obtain⟨bs,l,m⟩:=zF I;subst m;exact⟨i,s,f,_,rc,j,λa o g b ext n u r=>⟨a,f,o,bs,rfl,n,X6 r l,q _ g b ext rfl⟩⟩
theorem VJ(h:SX X sc N T k)(c:vz sc "int" = bX)(z:X.mg "int" = none)(U:PV X e f)(hs:el [e] X.env=[(cE,dv e X.env)]:=by rfl):PV X (.Call (.Name "int" p) [e] [] pos) (bu f):=
 qG (JY iw (h.gl c).1 z PyProof.Rows.boot_int (jv U qR hs) ⋯ ⋯ hs rfl) λo H Q m=>by
  obtain⟨j,n,d,rc,I,q⟩:=m;obtain⟨O,l,I⟩:=zk I;refine⟨j,n,O,rc,l,λv g a ext r=>?_⟩;cases O with
  | int i=>cases I;exact .inl ⟨i,by rw[jA r],q _ g a ext rfl⟩
  | bl b=>cases I;exact .inr ⟨b,by rw[show v = .bl b from r],q _ g a ext rfl⟩
  | _=>cases I
theorem oV(h:SX X sc N T k)(c:vz sc "max" = bX)(z:X.mg "max" = none)(C:PV X a f)(J:PV X b g)(hs:el [a,b] X.env=[(cE,dv a X.env),(cE,dv b X.env)]:=by rfl)(O:el [b] X.env=[(cE,dv b X.env)]:=by rfl) :
 PV X (.Call (.Name "max" p) [a,b] [] pos) (mf f g):=
 qG (yb (iu h.calm) (h.gl c).1 z PyProof.Rows.boot_max (jv C (jv J qR O)<|by rw[hs,O]) ⋯ ⋯ (by rw[hs,O]) (by rw[O];rfl)) λK H Q B=>by obtain⟨o,n,d,rc,I,q⟩:=B;obtain⟨i,l,I⟩:=zk I;obtain⟨u,y,l⟩:=zk l;obtain⟨j,U,I⟩:=zF I;obtain⟨w,A,U⟩:=zk U;subst I;refine⟨o,n,u,rc,y,λv F e x r=>⟨e,n,w,rc.ext x,A,λG s t E m=>⟨i,j,?_,q _ s t (x.trans E) rfl⟩⟩⟩;rw[jM l]at r;rw[jM U]at m;rw[jA r,jA m]
end
section
variable{X:Cx}{sc:fA}{N T:List Str}{k:Nat}{e a b c:dt}{pos p p2:fh}{f g:CO D}{fq:CO (Sk×List D)}
theorem gw(h:ec n i=bQ j):Du n i=bQ j:=by
 unfold ec at h;unfold Du;split at h
 ·rename_i a;rw[UJ a.1,UJ a.2];exact h
 ·split at h
  ·rename_i a b;rw[UY ⋯,UJ ⋯];exact h
  ·cases h
theorem zA(J:PQ X a fq)(S:PV X b g)(hs:Ww b:=by intro _ _;rfl):PV X (.Subscript a b pos) (cq fq g):=
 qG (Cb (O'.or CS) J S hs) λN H Q C=>by
  obtain⟨o,n,d,rc,z,q⟩:=C;obtain⟨⟨m,w⟩,y,z⟩:=zk z;obtain⟨i,O,z⟩:=zk z;obtain⟨u,A,O⟩:=zk O;obtain⟨j,B,z⟩:=zk z;refine⟨o,n,m,w,rc,y,λp h G e ext l K r=>⟨e,n,u,rc.ext ext,A,λM s t I f=>?_⟩⟩;rw[jM O]at f;obtain⟨x,E,F⟩:=r.get z;have U:C0 h i=bQ x:=by unfold C0;rw[r.length,gw B];exact E
  have k:=q x s t (ext.trans I)<|F.mono I.s0;cases m with
  | L=>exact .inl ⟨p,h,i,x,rfl,jA f,I.s1.seq l,U,k⟩
  | T=>exact .inr ⟨p,h,i,x,rfl,jA f,my I.s1 l,U,k⟩
theorem ZQ{P:hG}{w:f9}{A:l7}{E:EQ}{s:dy}{t J:di}{items:Array dj}{I O:dj}{lo C:Option Int}{Q:EQ}(z:D2 s.heap t items)(hs:s.heap.IsSliceOf J I O .none)(U:xr I lo)(S:xr O C)
 (L:HT.cq items.size 0 lo=0/\HT.cq items.size items.size C=items.size) (h:Q (.ref t) s):wpAny (d6 P w) A (A5 (.ref t)<|.ref J) Q E s:=by
 obtain⟨os,a,b,f⟩:=id hs;have d:s.TypeIs (.ref J) "slice":=⟨os,a,b⟩;unfold A5
 try with_reducible refine PK ?_
 first | refine MQ (Na ?_) | skip
 refine MQ (_i z.typeIs ⋯ ?_);refine MQ (OH (name:=NS "__getitem__") z.typeIs Oz
  (OY Oz z.typeIs entry_tuple_getitem ?_ (D' _ _)))
 show wpAny _ _ (Builtin.Tuple.tupleItemsOf (.ref t) >>= _) _ _ s;refine MQ<|SS z ?_;refine MQ<|Sx d ?_;rw[UJ ⋯];refine MQ<|HT.Jh hs U S ?_;have e:(((HT.cq items.size 0 lo:Nat):Int)==0 && (1:Int)==1 && (HT.cq items.size items.size C - HT.cq items.size 0 lo)==items.size)=bX:=by rw[L.1,L.2];simp
 show wpAny _ _ (if (((HT.cq items.size 0 lo:Nat):Int)==0 && (1:Int)==1 && (HT.cq items.size items.size C - HT.cq items.size 0 lo)==items.size)=bX then _ else _) _ _ s;rw[UJ e];refine MQ (m:=PF _) ?_;unfold PF;refine MQ<|Sx z.typeIs<|Na ?_;rw[UJ ⋯];exact MQ<|Si<|Na ⟨_,rfl,Na h⟩
noncomputable def GJ(K:MP):V->Option Int->Option Int->Hp->VK->Prop:=λx lo d H Q=>∃a b,x = .ref a/\ft K H a b/\(HT.cq b.length 0 lo=0/\HT.cq b.length b.length d=b.length->Q (.ref a) H)/\∀p,H p=none->Q (.ref p) (upd H p<|.tup<|uN b lo d)
theorem sF:O1 X (GJ X.K):=by
 intro d s u H x v p t lo f o Q I z g O U h;obtain⟨a,b,rfl,j,m,n⟩:=h;by_cases e:HT.cq b.length 0 lo=0/\HT.cq b.length b.length f=b.length
 ·cases z
  obtain⟨k,r,i,w⟩:=I.tuple j;have l:k.toArray.size=b.length:=by rw[MZ];exact r.length.symm
  refine⟨"tuple",_,Oz.lookup,i.typeIs,?_⟩;exact ZQ i g O U (by rw[l];exact e) ⟨.ref a,H,I,rfl,m e⟩
 ·exact Bc d s u H (.ref a) v p t lo f o Q I z g O U ⟨a,b,rfl,j,e,n⟩
theorem Jy(n d:Nat)(o:Option Int):cJ n d o=HT.cq n d o:=by cases o<;>rfl
theorem mq{K:MP}{H:Hp}{ds:List D}{xs:List V}(r:dk K H ds xs)(lo C:Option Int):dk K H (oq ds lo C) (uN xs lo C):=by unfold oq uN;rw[<- Jy,<- Jy,r.length];exact(r.drop _).take _
theorem hV{ds:List D}{lo C:Option Int}(h:HT.cq ds.length 0 lo=0/\HT.cq ds.length ds.length C=ds.length):oq ds lo C=ds:=by unfold oq;rw[Jy,Jy,h.1,h.2];simp
noncomputable def tB(K:MP)(f:CO (Option Int)):TO:=λg H Q=>∃d e o,RC K d H g e/\f e=bQ o/\∀b a,Ext d H a b->Q o b
theorem Ko:L2.PO X none (tB X.K lq):=λa s d H Q I ⟨b,e,o,rc,z,q⟩=>tJ a s d H Q I (by cases z;exact q H b<|Ext.refl rc.sub)
theorem Kn(h:PV X e f):L2.PO X (bQ e) (tB X.K<|vu f):=λa s m H Q I ⟨k,l,o,rc,z,q⟩=>tI h a s m H Q I (by
 obtain⟨i,g,O⟩:=zF z;obtain⟨d,U,g⟩:=zk g;subst O;refine⟨k,l,d,rc,U,λv j b x r=>?_⟩;rw[jM g]at r;exact⟨i,jA r,q j b x⟩)
theorem WY{lo C:Option dt}{O U:CO (Option Int)}(J:PV X a f)(S:L2.PO X lo (tB X.K O))(L:L2.PO X C (tB X.K U)):PV X (.Subscript a (.Slice lo C none p2) pos) (ma f O U):=
 qG (mO sF J S L) λR H Q F=>by
  obtain⟨n,g,d,rc,z,q⟩:=F;obtain⟨h,A,z⟩:=zk z;obtain⟨l,B,z⟩:=zk z;obtain⟨u,E,z⟩:=zk z;refine⟨n,g,h,rc,A,λv M b x r=>⟨b,g,l,rc.ext x,B,λN t I=>⟨t,g,u,(rc.ext x).ext I,E,λo w x3=>?_⟩⟩⟩;have m:=x.trans<|I.trans x3;cases h with
  | tup P=>
   cases z;obtain⟨s,G,rfl,i,e⟩:=vg<|r.mono (I.trans x3).s0;have y:=e.length;refine⟨s,G,rfl,my x3.sub i,λk=>?_,λp j=>?_⟩
   ·rw[y]at k
    exact q _ o w m (by rw[hV k];exact kh i e)
   ·exact q _ _ _ (m.trans<|Ext.alloc x3.sub j _)<|kh (ft.of zW)<|(mq e _ _).mono (jm (jQ x3.sub j) _)
  | _=>cases z
theorem Ki{K:MP}{H:Hp}{ds:List D}{xs:List V}(r:dk K H ds xs) : ∀n:Nat,dk K H (MV n ds).flatten (MV n xs).flatten
 | 0=>dk.nil
 | n+1=>by rw[Pb,Pb,PU,PU];exact r.append<|Ki r n
theorem Xy(C:PQ X a fq)(J:PQ X b gq):PO X (.BinOp a .Add b pos) (Kf fq gq):=
 qG (tR mX C J) λK H Q w=>by
  obtain⟨k,j,E,rc,z,q⟩:=w;obtain⟨⟨x,d⟩,r,z⟩:=zk z;obtain⟨⟨y,e⟩,s,z⟩:=zk z;cases x<;>cases y<;>try (simp at z;done)
  dsimp only at z;by_cases O:d.length+e.length<=lim
  ·rw[UJ O]at z;cases z
   refine⟨k,j,.L,d,rc,r,λl h A n x1 t F f=>⟨n,j,.L,e,rc.ext x1,s,λm i B o I u G g=>⟨l,m,h,i,rfl,rfl,I.s1.seq t,u,yS (by rw[f.length,g.length];exact O),λp U=>?_⟩⟩⟩;exact q p (h++i) _ o (x1.trans<|I.trans<|Ext.hide I.sub U _) (kW (x1.trans I).s1 U) (jQ I.sub U) zW<|(f.mono I.s0).append g
  ·rw[UY O]at z;cases z
theorem fe(C:PO X a gn)(J:PV X b g):PO X (.BinOp a .Mult b pos) (dQ (js gn) g):=
 qG (tR Cn C J) λN H Q w=>by
  obtain⟨l,k,E,rc,z,q⟩:=w;obtain⟨⟨K,f⟩,d,z⟩:=zk z;obtain⟨B,s,d⟩:=zF d;cases d;obtain⟨j,U,z⟩:=zk z;obtain⟨r,t,U⟩:=zk U;dsimp only at z;by_cases O:f.length*j.toNat<=lim/\inR j=bX
  ·rw[UJ O]at z;cases z
   refine⟨l,k,f,rc,s,λm x y n x1 F G u h=>⟨n,k,r,rc.ext x1,t,λv A o I i=>?_⟩⟩;rw[jM U]at i;obtain⟨L,M⟩:=QD O.2;refine⟨m,j,x,rfl,jA i,I.s1 _ _ u,by omega,by omega,yS (by rw[h.length];exact O.1),λp e=>?_⟩;exact q p _ _ o (x1.trans<|I.trans<|Ext.hide I.sub e _) (kW (x1.trans I).s1 e) (jQ I.sub e) zW<|(Ki h _).mono I.s0
  ·rw[UY O]at z;cases z
theorem CB{K:MP}{t c:String}{b:Bool}(h:(if ((SK t) == .type c)=bX then bQ bX else if PySem.W.kitMeta c=bX then (fastBuiltinMro t).map (·.contains (.type c))else none)=bQ b):PZ K (.type t) (.type c)=bQ b:=h
noncomputable def N1:Ty->String
 | .int=>"int"
 | .bool=>"bool"
 | .str=>"str"
 | .tuple=>"tuple"
 | .list=>"list"
noncomputable def CC:D->String
 | .d7=>"NoneType"
 | .bl _=>"bool"
 | .int _=>"int"
 | .str _=>"str"
 | .tup _=>"tuple"
 | .lst _=>"list"
 | .i8 _ _=>"dict"
 | .i0 _ _=>"dict"
theorem YX{K:MP}(T:Ty)(d:D):PZ K (.type<|CC d) (.type<|N1 T)=bQ (aw T d):=by cases d<;>cases T<;>(dsimp only[CC,N1,aw,pH,CU,pE,pD,pG];exact CB ⋯)
theorem nL{C:UQ}{L:St}{H0 H:Hp}{s:dy}{A:l7}{E:EQ}{Q:EQ}{d:D}{x:V}{u:dj}(I:Inv X C L H s)(sub:eM H0 H)(O:RelV x u)(r:Rep X.K H0 d x)(T:Ty)
 (h : ∀J,Q (.bool (aw T d)) {s with toks:=J}):wpAny (d6 X.prog X.w) A (call (.builtin "isinstance") [u,.type (N1 T)]) Q E s:=by
 cases d with
 | d7=>have e:=YX (K:=X.K) T .d7;cases (show x = .d7 from r);cases (show u=Ox from O);exact NQ PySem.W.kitx_none I.l6 PH e (λz=>nomatch z) h
 | bl y=>have e:=YX (K:=X.K) T<|.bl y;cases (show x = .bl y from r);cases (show u=Value.bool y from O);exact NQ PySem.W.kitx_bool I.l6 PH e (λz=>nomatch z) h
 | int i=>have e:=YX (K:=X.K) T<|.int i;cases (show x = .int i from r);obtain⟨t,q⟩:=(show ∃t,u=SJ i t from O);cases q;exact NQ PySem.W.kitx_int I.l6 PH e (λz=>nomatch z) h
 | str y=>have e:=YX (K:=X.K) T<|.str y;cases (show x = .str y from r);obtain⟨t,q⟩:=(show ∃t,u=To y t from O);cases q;exact NQ PySem.W.kitx_str I.l6 PH e (λz=>nomatch z) h
 | tup k=>
  have e:=YX (K:=X.K) T<|.tup k;obtain⟨a,b,rfl,f,l⟩:=vg r;cases (show u=OK a from O);obtain⟨n,F,⟨o,U,m,_⟩,B⟩:=I.tuple<|my sub f;exact NQ PySem.W.kitx_tuple I.l6 ⟨o,U,m⟩ e (λz=>nomatch z) h
 | lst k=>
  have e:=YX (K:=X.K) T<|.lst k;obtain⟨a,b,rfl,f,l⟩:=fU r;cases (show u=OK a from O);obtain⟨n,F,p,B⟩:=I.list<|sub.seq f;obtain⟨o,U,m,_⟩:=p.isList;exact NQ Tq I.l6 ⟨o,U,m⟩ e (λz=>nomatch z) h
 | i8 g j=>
  have e:=YX (K:=X.K) T<|.i8 g j;obtain⟨a,b,rfl,⟨G,_,_,f⟩,_⟩:=(show ∃a b,x = .ref a/\Df H0 a g b/\dk X.K H0 j b from r);exact gx I O (.dK<|sub _ _ f) e h
 | i0 g j=>
  have e:=YX (K:=X.K) T<|.i0 g j;obtain⟨a,b,rfl,⟨_,o,M,f,l,_⟩,_⟩:=(show ∃a b,x = .ref a/\G4 X.K H0 a g b/\dk X.K H0 j b from r);cases (show u=OK a from O);obtain⟨U,_⟩:=(show i5 X.prog X.w H s.heap a (Uq a o)from I.eo a _<|sub _ _ f);exact NQ Tr I.l6 ⟨o,U,l.1.1⟩ e (λz=>nomatch z) h
theorem mr(T:Ty)(h:SX X sc N L k)(c:vz sc "isinstance" = bX)(z:X.mg "isinstance" = none)(O:vz sc ty=bX)(S:X.mg ty=none)(J:C1 ty=bQ (.type (N1 T)))(C:PV X a f)
 (hs:el [a,.Name ty p2] X.env=[(cE,dv a X.env),(cE,dv (.Name ty p2) X.env)]:=by rfl):PV X (.Call (.Name "isinstance" p) [a,.Name ty p2] [] pos) (lr T f):=by
 intro e s G H Q I ⟨i,F,d,rc,t,q⟩;obtain⟨l,n,o⟩:=zF t;subst o;refine RD<|vy I (h.gl c).1 z PyProof.Rows.boot_isinstance ?_ ⋯ ⋯;refine SU ?_ (by rw[hs];rfl) rfl;rw[hs];show wpAny _ _ (M6 ((cE,dv a X.env)::n6 pos [(cE,dv (.Name ty p2) X.env)])) _ _ s;refine Sa<|ea (C e s G H _ I ⟨i,F,l,rc,n,λv g b x r=>(show(λv g=>∃b,Ext i H b g/\Rep X.K b l v) v g from⟨b,x,r⟩)⟩) λu B w=>?_;obtain⟨x,j,U,y,m,x1,A⟩:=w;show wpAny _ _ (M6 ((cE,dv (.Name ty p2) X.env)::[])) _ _ B;refine Sa<|vy U (h.gl O).1 S J ?_ (h.gl O).2.1 (h.gl O).2.2;refine TF ?_;exact nL U x1.sub y A T λE=>⟨.bl _,j,U.tok E,rfl,q _ j m x1 rfl⟩
end
section
variable{X:Cx}{sc:fA}{N L:List Str}{k:Nat}{e a b c:dt}{pos p p2:fh}{f g:CO D}{fq:CO (Sk×List D)}
theorem jb(h:SX X sc N L k)(c:vz sc "range" = bX)(z:X.mg "range" = none)(C:PV X a f)(hs:el [a] X.env=[(cE,dv a X.env)]:=by rfl):g5 X tg (.Call (.Name "range" p) [a] [] pos) (zS f):=bI (h.gl c).1 z C hs
theorem wW(h:SX X sc N L k)(c:vz sc "range" = bX)(z:X.mg "range" = none)(C:PV X a f)(I:PV X b g)(hs:el [a,b] X.env=[(cE,dv a X.env),(cE,dv b X.env)]:=by rfl)(O:el [b] X.env=[(cE,dv b X.env)]:=by rfl) :
 g5 X tg (.Call (.Name "range" p) [a,b] [] pos) (kg f g):=bH (h.gl c).1 z C I hs O
theorem wV(h:SX X sc N L k)(c:vz sc "zip" = bX)(z:X.mg "zip" = none)(C:PV X a f)(I:PV X b g)(hs:el [a,b] X.env=[(cE,dv a X.env),(cE,dv b X.env)]:=by rfl)(O:el [b] X.env=[(cE,dv b X.env)]:=by rfl) :
 g5 X (.Tuple elts x1 t9) (.Call (.Name "zip" p) [a,b] [] pos) (K6 f g):=tM (h.gl c).1 z C I hs O
theorem eI(h:SX X sc N L k)(c:vz sc "isinstance" = bX)(z:X.mg "isinstance" = none)(I:vz sc "int" = bX)(O:X.mg "int" = none)(C:PV X a f)
 (hs:el [a,.Name "int" p2] X.env=[(cE,dv a X.env),(cE,dv (.Name "int" p2) X.env)]:=by rfl):PV X (.Call (.Name "isinstance" p) [a,.Name "int" p2] [] pos) (lr .int f):=mr .int h c z I O PyProof.Rows.boot_int C hs
theorem bA(h:SX X sc N L k)(c:vz sc "isinstance" = bX)(z:X.mg "isinstance" = none)(I:vz sc "bool" = bX)(O:X.mg "bool" = none)(C:PV X a f)
 (hs:el [a,.Name "bool" p2] X.env=[(cE,dv a X.env),(cE,dv (.Name "bool" p2) X.env)]:=by rfl):PV X (.Call (.Name "isinstance" p) [a,.Name "bool" p2] [] pos) (lr .bool f):=mr .bool h c z I O PyProof.Rows.boot_bool C hs
theorem kM(h:SX X sc N L k)(c:vz sc "isinstance" = bX)(z:X.mg "isinstance" = none)(I:vz sc "tuple" = bX)(O:X.mg "tuple" = none)(C:PV X a f)
 (hs:el [a,.Name "tuple" p2] X.env=[(cE,dv a X.env),(cE,dv (.Name "tuple" p2) X.env)]:=by rfl):PV X (.Call (.Name "isinstance" p) [a,.Name "tuple" p2] [] pos) (lr .tuple f):=mr .tuple h c z I O PyProof.Rows.boot_tuple C hs
theorem bz(h:SX X sc N L k)(c:vz sc "isinstance" = bX)(z:X.mg "isinstance" = none)(I:vz sc "list" = bX)(O:X.mg "list" = none)(C:PV X a f)
 (hs:el [a,.Name "list" p2] X.env=[(cE,dv a X.env),(cE,dv (.Name "list" p2) X.env)]:=by rfl):PV X (.Call (.Name "isinstance" p) [a,.Name "list" p2] [] pos) (lr .list f):=mr .list h c z I O PyProof.Rows.boot_list C hs
theorem mB(C:PQ X a fq)(I : ∀z,Dt a X.env z=(do let v <- z;DT a.pos;vk [v] (F7 v)):=by intro _;rfl):l0 X a (sH fq):=
 VL (mC C I) λo H Q O=>by
  obtain⟨j,m,t,rc,U,q⟩:=O;obtain⟨⟨h,b⟩,k,l⟩:=zF U;subst l;refine⟨j,m,h,b,rc,k,λp d i f ext g n r=>⟨!b.isEmpty,?_,q i f ext⟩⟩;have e:d.isEmpty=b.isEmpty:=by have:=r.length;cases d<;>cases b<;>simp_all
  rw[<- e];cases h with
  | L=>exact .inl ⟨d,g,rfl⟩
  | T=>exact .inr<|.inl ⟨d,g,rfl⟩
theorem YB(C:PV X a f):PV X (.UnaryOp .USub a pos) (dR f):=
 qG (GS AC C) λl H Q z=>by obtain⟨h,k,d,rc,I,q⟩:=z;obtain⟨i,e,O⟩:=zF I;obtain⟨U,j,e⟩:=zk e;subst O;refine⟨h,k,U,rc,j,λv g b x r=>?_⟩;rw[jM e]at r;exact⟨i,jA r,q _ g b x rfl⟩
theorem yP(i:Nat)(h:SX X sc N L k)(c:X0 sc N i x=bX)(C:PV X a f)(hs:el [a] X.env=[(cE,dv a X.env)]:=by rfl)
 (z:DE (.Name x np) "append" X.env (dv (.Name x np) X.env)=dv (.Name x np) X.env:=by rfl)
 (I:((n6 cpos<|starEach [a] X.env).all (λx=> !x.1) && (DF cpos<|keywordEach [] X.env).all (λx=>x.1.isSome)
   && decide ([a].length+([]:List qs).length+(if ([]:List qs).isEmpty then 0 else 1)<30))=bX:=by rfl)
 (O:(apos.endLine==cpos.line)=bX:=by rfl) (U:r9 (.Call (.Attribute (.Name x np) "append" apos) [a] [] cpos) none pos.line X.env=pure cE:=by rfl) :
 kA X (.Expr (.Call (.Attribute (.Name x np) "append" apos) [a] [] cpos) pos) (qv i f):=
 bC i (bJ Pq PySem.F.slot_list_append PySem.F.type_list_append fQ (h.var c) (jv C qR hs) z I O hs rfl) U
theorem jK(i:Nat){st:iQ}{f:CO (List D)}(h:PS X st (WK (tO X.K f)<|vB i)):kA X st (jF i<|qh f):=yp h λD u H O=>by obtain⟨E0,E,g,o,s,z,I,U⟩:=O;obtain⟨d,b,I⟩:=zF I;obtain⟨k,l,b⟩:=zF b;subst I b;exact⟨g,o,k,z.rc,l,λa t p j x m e n r=>U _ _ _<|(z.step<|x.show m e n z.rc.sub).rr (Kj (eU.of zW)<|r.mono<|jm e _)⟩
theorem T_(i:Nat)(h:SX X sc N L k)(c:vh sc N L i y=bX)
 (z:X.calm=bX) (ok:qq X scope fr) (I : ∀i∈T.idx,i<own.length) (S:rh X tg iter src) (O : ∀fp J C,PG (jH X scope (own++fr.map (·.1)) fp J C) tg<|ql X.K T)
 (U : ∀fp J C,PV (jH X scope (own++fr.map (·.1)) fp J C) elt f) (hs : ∀x,pf iter X.env x=pure x:=by intro _;rfl) :
 PS X (.Assign [.Name y py] (.ListComp elt [⟨tg,iter,[],0⟩] scope cpos) spos) (WK (tO X.K<|zU src T own.length (fr.map (·.2)) jz f)<|vB i):=by
 obtain⟨a,b,d⟩:=h.loc c;exact mG h.L5 a b d z ok I S O U hs
theorem GP(i:Nat)(h:SX X sc N L k)(c:vh sc N L i y=bX)
 (z:X.calm=bX) (ok:qq X scope fr) (I : ∀i∈T.idx,i<own.length) (Y:rh X tg iter src) (O : ∀fp J C,PG (jH X scope (own++fr.map (·.1)) fp J C) tg<|ql X.K T)
 (U : ∀fp J C,l0 (jH X scope (own++fr.map (·.1)) fp J C) DG kk) (S : ∀fp J C,PV (jH X scope (own++fr.map (·.1)) fp J C) elt f) (hs : ∀x,pf iter X.env x=pure x:=by intro _;rfl) :
 PS X (.Assign [.Name y py] (.ListComp elt [⟨tg,iter,[DG],0⟩] scope cpos) spos) (WK (tO X.K<|zU src T own.length (fr.map (·.2)) kk f)<|vB i):=by
 obtain⟨a,b,d⟩:=h.loc c;exact bF h.L5 a b d z ok I Y O U S hs
theorem wU(i:Nat)(h:SX X sc N L k)(c:X0 sc N i x=bX)(Z:PV X b g)(Y:PV X e f)
 (S : ∀v,u6 (.Subscript (.Name x np) b p) X.env v=(do
   let I <- vk [v] (dv (.Name x np) X.env);let iv <- vk [v,I] (dv b X.env)
   DT p
   vk [v,I,iv] (UO I iv v)
   release [v,I,iv] []):=by intro _;rfl)
 (hs:Tb [.Subscript (.Name x np) b p] e pos.line X.env=pure cE:=by rfl) (hw:U3 [.Subscript (.Name x np) b p] e X.env=pure none:=by rfl)
 (C:(x6 [.Subscript (.Name x np) b p] X.env).map (·.2)=[u6 (.Subscript (.Name x np) b p) X.env]:=by rfl) :
 kA X (.Assign [.Subscript (.Name x np) b p] e pos) (Xt i g f):=
 yp (eW Y (BS (h.var c) Z lY S) hs hw C) λD σ H Q=>by obtain⟨E0,E,w,u,fl,t,z,y⟩:=Q;obtain⟨d,J,z⟩:=zk z;obtain⟨G,O,z⟩:=zk z;obtain⟨R,n,z⟩:=zk z;obtain⟨F,K,n⟩:=zk n;obtain⟨j,M,z⟩:=zF z;subst z;have O:=qW O;refine⟨w,u,d,t.rc,J,λv T l x r=>?_⟩;have m:=t.step x;obtain⟨a,xs,C,h2,P,o⟩:=m.rc.own i G O;refine⟨_,C,l,u,F,m.rc,K,λv2 W A U s=>?_⟩;rw[jM n]at s;have B:=m.step U;refine⟨a,xs,R,j,rfl,jA s,U.s1 _ _ P,by rw[o.length];exact gw M,?_⟩;exact y _ _ A<|B.rewrite (xs:=xs) O C<|(o.mono U.s0).set j (r.mono U.s0)
theorem k8(O:PG X tg (ql X.K T))(U:PV X e f)(hs:Tb [tg] e pos.line X.env=pure cE:=by rfl)(J:U3 [tg] e X.env=pure none:=by rfl)
 (C:(x6 [tg] X.env).map (·.2)=[u6 tg X.env]:=by rfl):kA X (.Assign [tg] e pos) (wA T f):=
 yp (eW U O hs J C) λD p H l=>by obtain⟨E0,E,h,m,o,I,z,i⟩:=l;obtain⟨d,j,z⟩:=zk z;obtain⟨n,k,z⟩:=zF z;subst z;refine⟨h,m,d,I.rc,j,λv g a x r=>?_⟩;exact QI x.sub r k λb _ a4=>i b g a<|a4 E0 E<|I.step x
end
structure eA(P:hG)(w:f9)(K:MP)(mg:UZ)(base:eg)(k:Nat)(x:Str)(n:Nat)(F:List D->Option Res):Prop where
 ex : ∃(f:di) (fd:oe) (ps:List Str),ps.length=n/\n9 P w K mg base o6 k f fd ps (p3 K ps.length F)/\mg x=bQ (.ref f)/\RW K (.ref f)=bX/\Binds K fd ps []
structure eF(K:MP)(mg:UZ)(x:Str)(st:iQ)(ps:List Str):Prop where
 ex : ∃(f:di) (fd:oe),L2.Dh K x x st f fd/\(∀us:List dj,us.length=ps.length->bindArgs fd ⟨us,[]⟩=pure (ps.zip us))/\mg x=bQ (.ref f)
noncomputable def B9(X:Cx)(C:List dt)(n:Nat)(g:CO (List D)):Prop:=x4 X C g/\∀b a,g b=bQ a->a.length=n
section
variable{X:Cx}{sc:fA}{N L:List Str}{k:Nat}{e:dt}{es:List dt}{f:CO D}{g:CO (List D)}{n:Nat}{pos p:fh}{x:Str}
theorem zo:B9 X [] 0 zI:=⟨ua,λb a h=>by cases h;rfl⟩
theorem za(C:PV X e f)(z:B9 X es n g)(hs:el (e::es) X.env=(cE,dv e X.env)::el es X.env:=by rfl):B9 X (e::es) (n+1) (zb f g):=
 ⟨mS C z.1 hs,λa b h=>by obtain⟨y,d,h⟩:=zk h;obtain⟨r,I,h⟩:=zF h;subst h;rw[NW,z.2 a r I]⟩
variable{j:Nat}{F:List D->Option Res}
theorem GO(z:eA X.prog X.w X.K X.mg X.base j x n F)(I:j<=k)(h:SX X sc N L k)(c:vz sc x=bX)(C:B9 X (e::es) n g)
 (O:el (e::es) X.env=(cE,dv e X.env)::el es X.env:=by rfl) (U:(n6 pos<|starEach es X.env).any (·.1)=cE:=by rfl):PV X (.Call (.Name x p) (e::es) [] pos) (zE F g):=by
 obtain⟨l,m,o,i,G,f,d,b⟩:=z.ex;subst i;exact tj (A0:=[]) G C.1 C.2 λ{t} a=>fB G (h.room.mono I) (h.gl c).1 f d b .nil Cg a (h.gl c).2.2 O U
theorem GR(z:eA X.prog X.w X.K X.mg X.base j x n F)(I:j<=k)(h:SX X sc N L k)(c:vz sc x=bX)(C:B9 X (e::es) n g)
 (O:el (e::es) X.env=(cE,dv e X.env)::el es X.env:=by rfl) (U:(n6 pos<|starEach es X.env).any (·.1)=cE:=by rfl):PO X (.Call (.Name x p) (e::es) [] pos) (jJ F g):=by
 obtain⟨l,m,o,i,G,f,d,b⟩:=z.ex;subst i;exact tL G C.1 C.2 λ{t} a=>fB G (h.room.mono I) (h.gl c).1 f d b .nil Cg a (h.gl c).2.2 O U
end
section
variable{P:hG}{w:f9}{K:MP}{mg:UZ}{base:eg}
noncomputable def og(N ps:List Str)(st:iQ):Bool:=
 decide ((jL st).kind = .function) && decide ((jL st).isCoroutine=cE) && decide ((jL st).isGenerator=cE) && decide N.Nodup && decide (N.take ps.length=ps) &&
 ps.all (λx=>decide ((jL st).names.lookup x=bQ .local) || decide ((jL st).names.lookup x=bQ .cell)) && (jL st).names.all (λy=> !(y.2==NA))
theorem WS{N ps:List Str}{st:iQ}(h:og N ps st=bX):D0 N ps (jL st):=by unfold og at h;simp only[Nb,decide_eq_true_eq,OQ,OC,Pa]at h;obtain⟨⟨⟨⟨⟨⟨a,b⟩,z⟩,I⟩,O⟩,U⟩,d⟩:=h;exact⟨a,b,z,I,O,U,λy f e=>by have:=d y f;rw[e]at this;exact absurd this ⋯⟩
theorem Cf{X:Cx}(hx:X.xe=λ_ _=>False):Um (d6 X.prog X.w) X.A X.env X.xe:=by rw[hx];exact PassesOwn.never
theorem xy{x:Str}{st:iQ}{N ps:List Str}{k:Nat}{F:CO Fl}(A:eF K mg x st ps)(C:og N ps st=bX)
 (I : ∀X:Cx,X.prog=P->X.w=w->X.K=K->X.mg=mg->X.base=base->SX X (jL st) N N k->X.xe=(λ_ _=>False)->iT X (yW st) F) :
 eA P w K mg base (k+1) x ps.length (jo N.length F):=by
 obtain⟨f,d,z,O,e⟩:=A.ex;have S:=WS C;refine⟨f,d,ps,rfl,Ee z S λb A a s H E U=>?_,e,z.kp,.all O⟩;exact I _ rfl rfl rfl rfl rfl ⟨rfl,rfl,S.nd,rfl,U,λ_ _=> .inl rfl⟩ rfl
theorem Lb{h:eg}{x:Str}{st:iQ}{ps:List Str}{f:di}{Y:dj}{Z J:Option di}{O:Array (Option dj)}{kV I L C ct:dj}(z:K.In h)(G:h.Ns tr mg)
 (a:PySem.W.nsIn K tr x=bQ (bQ (.ref f))) (l:K.lookup f=bQ ⟨Y,Z,.func<|Ry x x (QG st) (yW st) (jL st) .none kV I L J C ct,O⟩)
 (c:SM K C x=bX) (S:RW K (.ref f)=bX)
 (b : ∀(kV I L:dj) (J:Option di) (C ct:dj) (us:List dj),us.length=ps.length->bindArgs (Ry x x (QG st) (yW st) (jL st) .none kV I L J C ct) ⟨us,[]⟩=pure (ps.zip us)):eF K mg x st ps:=
 ⟨f,_,Ec l c S,b kV I L J C ct,PySem.W.mg_of z G a⟩
theorem Hr{x:Str}{st:iQ}{f:di}{C:oe}{N ps:List Str}{k:Nat}{F:CO Fl}(z:L2.Dh K x x st f C)(J:og N ps st=bX)
 (I : ∀X:Cx,X.prog=P->X.w=w->X.K=K->X.mg=mg->X.base=base->SX X (jL st) N N k->X.xe=(λ_ _=>False)->iT X (yW st) F) :
 n9 P w K mg base o6 (k+1) f C ps (p3 K ps.length<|jo N.length F):=by
 have S:=WS J;exact Ee z S λb A a s H E O=>I _ rfl rfl rfl rfl rfl ⟨rfl,rfl,S.nd,rfl,O,λ_ _=> .inl rfl⟩ rfl
theorem Fw{F:List D->Option Res}{H:Hp}{a:di}{C:List Int}(z:eU K H a (C.map V.int))(I:F [.lst (C.map D.int)]=bQ (.val<|.bl bX)) :
 p3 K 1 F [.ref a] H (λv _=>v = .bl bX) λ_ _ _=>False:=by
 refine⟨H,[.lst (C.map D.int)],.val<|.bl bX,eM.refl _,dk.cons (Kj z ?_) dk.nil,rfl,I,λv d b _ r=>r⟩;clear I z
 induction C with
 | nil=>exact dk.nil
 | cons n C O=>exact dk.cons rfl O
end
end DL
namespace DL
open PySem PySem.Spec PyProof.Rows L2
open PySem.W (KasT kas_sort kas_ask kat_run kat_snds kat_lt kat_cons kat_no kat_kind KatTups KatGo)
noncomputable def EL(h:eg)(v:dj)(k:Int):Prop:=∃x o a m t,v = .ref x/\h.get? x=bQ o/\o.cls = .type "tuple"/\o.data = .seq a m/\a[0]? = bQ (.int k t)
theorem pC : ∀{vs:List dj} {ks:Nat->Int},(∀i (C:i<vs.length),EL h vs[i] (ks i))->∃fs,KatTups h vs fs/\fs.length=vs.length/\∀f∈fs,∃k t,f=SJ k t
 | [],ks,_=>⟨[],KatTups.nil,rfl,λf z=>by cases z⟩
 | v::vs,ks,H=>by
  obtain⟨fs,e,g,I⟩:=pC (vs:=vs) (ks:=λi=>ks<|i+1) λi C=>H (i+1) (by simpa using C);obtain⟨x,o,j,m,t,a,O,U,b,d⟩:=H 0 ⋯;have a:v = .ref x:=a;subst a;exact⟨.int (ks 0) t::fs,KatTups.cons O U b d e,by simp[g],λf z=>by
   rcases Nc.mp z with rfl | z
   ·exact⟨_,_,rfl⟩
   ·exact I f z⟩
end DL
namespace DL
open PySem PySem.Spec PyProof.Rows L2
open AutoSeq1 (wpAny_loadPart')
theorem Jj:fillsNumberSlot (.type "tuple") "mul" = pure cE:=
 PySem.fillsNumberSlot_seq (id:="tuple.__mul__") (r:=bQ (.builtin "tuple.__rmul__")) RO.lookup ⋯ F.slot_tuple_rmul.lookup ⋯
theorem Yz:seqRepeat? (.type "tuple")=pure (bQ (.builtin "tuple.__mul__")):=by unfold seqRepeat?;rw[PySem.seqSlot_of (T:="tuple") (name:="__mul__") (id:="tuple.__mul__") RO.lookup ⋯,PySem.seqSlot_of (T:="tuple") (name:="__rmul__") (id:="tuple.__rmul__") F.slot_tuple_rmul.lookup ⋯];rfl
theorem Xf(a:Int)(t:Tok)(l:di)(items:Array dj)(n:Nat)(z:Option di)(C:Array (Option dj)) :
 D3 (n5.«int.__rmul__» ⟨[.int a t,.ref l],[]⟩) (λ_ R s=>s.heap.get? l=bQ {cls:= .type "tuple",dict:=z,data:= .seq items n,slots:=C}/\R (.ok (.ret Value.notImplemented)) s):=
 .of_wp λb w A R s h=>by obtain⟨I,g,d,O,os⟩:=s;obtain⟨U,h⟩:=h;wp_walk;exact⟨_,rfl,h⟩
theorem X5(a:Int)(t:Tok)(l:di)(items:Array dj)(n:Nat)(I:Option di)(Y:Array (Option dj))(C : ¬(decide (a < -(2 ^ 63)) || decide (a>=2 ^ 63))=bX)(J : ¬(items.isEmpty || a==1)=bX)
 (O : ¬(decide (a<=0) || items.isEmpty)=bX) (U : ¬((items.size:Int)*a>(2 ^ 63 - 1)/8)) (L : ¬Builtin.Tuple.tupleTooMany ((items.size:Int)*a)=bX) (S:((MV a.toNat items).foldl (· ++ ·) #[]).size<=ej) :
 D3 (n5.«tuple.__mul__» ⟨[.ref l,.int a t],[]⟩) (λ_ R s=>s.heap.get? l=bQ {cls:= .type "tuple",dict:=I,data:= .seq items n,slots:=Y}/\
  R (.ok (.ret (.ref s.heap.objs.size))) {s with heap:=s.heap.push {cls:= .type "tuple",data:= .seq ((MV a.toNat items).foldl (· ++ ·) #[])}}):=
 .of_wp λb w A R s h=>by
  obtain⟨e,g,d,f,os⟩:=s;obtain⟨z,h⟩:=h
  wp_walk using OX z
  rw[UY C];refine MQ<|SS (s:=⟨e,g,d,f,os⟩) ⟨_,z,rfl,n,rfl⟩ ?_;dsimp only;rw[UY J,UY O,UY U,UY L];refine MQ (m:=OS _)<|OG ?_ S;exact Na ⟨_,rfl,h⟩
theorem QY(a:Int)(t:Tok)(l:di)(items:Array dj)(n:Nat)(I:Option di)(L:Array (Option dj))(C : ¬(decide (a < -(2 ^ 63)) || decide (a>=2 ^ 63))=bX)(J : ¬(items.isEmpty || a==1)=bX)
 (O:(decide (a<=0) || items.isEmpty)=bX) :
 D3 (n5.«tuple.__mul__» ⟨[.ref l,.int a t],[]⟩) (λ_ R s=>s.heap.get? l=bQ {cls:= .type "tuple",dict:=I,data:= .seq items n,slots:=L}/\
  R (.ok (.ret (.ref s.heap.objs.size))) {s with heap:=s.heap.push {cls:= .type "tuple",data:= .seq #[]}}):=
 .of_wp λb w A R s h=>by
  obtain⟨U,g,d,e,os⟩:=s;obtain⟨z,h⟩:=h
  wp_walk using OX z
  rw[UY C];refine MQ<|SS (s:=⟨U,g,d,e,os⟩) ⟨_,z,rfl,n,rfl⟩ ?_;dsimp only;rw[UY J,UJ O];refine MQ (m:=OS _)<|OG ?_ (OD _);exact Na ⟨_,rfl,h⟩
theorem QX(a:Int)(t:Tok)(l:di)(items:Array dj)(n:Nat)(I:Option di)(L:Array (Option dj))(C : ¬(decide (a < -(2 ^ 63)) || decide (a>=2 ^ 63))=bX)(J:(items.isEmpty || a==1)=bX) :
 D3 (n5.«tuple.__mul__» ⟨[.ref l,.int a t],[]⟩) (λ_ R s=>s.heap.get? l=bQ {cls:= .type "tuple",dict:=I,data:= .seq items n,slots:=L}/\R (.ok (.ret (.ref l))) s):=
 .of_wp λb w A R s h=>by
  obtain⟨O,g,d,U,os⟩:=s;obtain⟨z,h⟩:=h
  wp_walk using OX z
  rw[UY C];refine MQ (SS (s:=⟨O,g,d,U,os⟩) ⟨_,z,rfl,n,rfl⟩ ?_);dsimp only;rw[UJ J];refine MQ (m:=PF _) ?_;unfold PF;refine MQ (Sx (T:="tuple") ⟨_,z,rfl⟩ (Na ?_));rw[UJ ⋯];exact MQ (Si (Na ⟨_,rfl,h⟩))
section
variable{X:Cx}
noncomputable def Bv(K:MP):R2:=λx y H Q=>∃l k a,x = .ref l/\y = .int k/\ft K H l a/\ -(2 ^ 62)<=k/\k<2 ^ 62/\a.length*k.toNat<=ej/\(a=[]\/k=1->Q (.ref l) H)/\
 ∀p,H p=none->Q (.ref p) (upd H p<|.tup (MV k.toNat a).flatten)
theorem uc:gB X (ro .Mult) (Bv X.K):=by
 intro E s σ H x y v u Q I Z ry h;obtain⟨l,k,J,rfl,rfl,R,h1,h2,C,Y,G⟩:=h;cases Z;obtain⟨t,rfl⟩:=ry;obtain⟨z,r,S,z1⟩:=I.tuple R;obtain⟨⟨P,a,j,b⟩,O,w,n,A⟩:=id S;simp only at w A;subst w A;have L:=r.length;have g1 : ¬(decide (k < -(2 ^ 63)) || decide (k>=2 ^ 63))=bX:=by simp;omega
 refine _e (T:="tuple") (U:="int") ⋯ ⟨_,O,rfl⟩ (λs'=>Uh s' k t) Jj F.fills_int_mul Th Yz F.slot_int_index.lookup
  (Px Th (Uh s k t) F.entry_int_rmul (F.args_int_rmul_2 _ _) (Xf k t l z.toArray n a b) ⟨O,rfl,⟨_,O,rfl⟩,?_⟩)
 have p : ∀m:Nat,TJ (λx1 i=>x1++i) #[] (MV m z.toArray)=(MV m z).flatten.toArray:=λm=>by have:=QE z m [];rw[RQ]at this;exact this
 by_cases g2:(z.toArray.isEmpty || k==1)=bX
 ·refine Px RO ⟨_,O,rfl⟩ Ud (TN _ _) (QX k t l z.toArray n a b g1 g2) ⟨O,⟨.ref l,H,I,rfl,Y ?_⟩⟩
  rw[OC]at g2;rcases g2 with g | g
  ·left
   have:z=[]:=by simpa using g
   exact(r.L7).mp this
  ·right;simpa using g
 ·have d:=g2
  simp only[OC,not_or]at d;have M:z ≠ []:=by intro e;exact d.1 (by rw[e];rfl)
  have b5:0<z.length:=List.length_pos_iff.mpr M;by_cases g3:(decide (k<=0) || z.toArray.isEmpty)=bX
  ·have B:k.toNat=0:=by
    rw[OC]at g3;rcases g3 with g | g
    ·have:=of_decide_eq_true g;omega
    ·exact absurd g d.1
   refine Px RO ⟨_,O,rfl⟩ Ud (TN _ _) (QY k t l z.toArray n a b g1 g2 g3) ⟨O,?_⟩;refine⟨.ref s.heap.objs.size,_,I.laid (t':=s.toks) (o:= .tup (MV k.toNat J).flatten) (λc W q=>MT _ q) (MY _) ?_,rfl,G _<|I.eo.fresh<|MY _⟩;rw[B];exact⟨OD _,[],.nil,u4.new _ _⟩
  ·have B : ¬k<=0:=by intro g;exact g3 (by rw[OC];exact .inl<|decide_eq_true g)
   have f:z.length*k.toNat<=ej:=by rw[<- L];exact C
   have b6:((z.toArray.size:Nat):Int)*k<=(ej:Int):=by
    rw[MZ];have e:((z.length*k.toNat:Nat):Int)=(z.length:Int)*k:=by rw[RY,PD ⋯]
    omega
   have b7:ej=16777216:=RL;have N:(TJ (λx1 i=>x1++i) #[] (MV k.toNat z.toArray)).size<=ej:=by rw[p,MZ,V5,Ph];exact f
   refine Px RO ⟨_,O,rfl⟩ Ud (TN _ _) (X5 k t l z.toArray n a b g1 g2 g3 ⋯ (by unfold Builtin.Tuple.tupleTooMany;simp only[decide_eq_true_eq];omega) N) ⟨O,?_⟩;rw[p];refine⟨.ref s.heap.objs.size,_,I.laid (t':=s.toks) (o:= .tup (MV k.toNat J).flatten) (λc W q=>MT _ q) (MY _) ?_,rfl,G _<|I.eo.fresh<|MY _⟩;exact⟨by rw[V5,Ph];exact C,_,r.rep k.toNat,u4.new _ _⟩
theorem sy{K:MP}:l9 K (λx y H Q=>rI DA (λi j=> .int (i*j)) x y H Q\/Bv K x y H Q) yD:=λh H x y l m d Q s O U z q=>by
 cases l<;>cases m<;>simp[yD]at z
 ·obtain⟨n,I⟩:=z
  subst I;exact .inl ⟨_,_,jA O,jA U,oz n,q _ H h (Ext.refl s) rfl⟩
 ·rename_i f j
  obtain⟨⟨r,o⟩,rfl⟩:=z;obtain⟨a,w,rfl,g,b⟩:=vg O;obtain⟨t,u⟩:=QD o;refine .inr ⟨a,j,w,rfl,jA U,my s g,t,u,yS (by rw[b.length];exact r),λe=>?_,λp k=>?_⟩
  ·refine q _ H h (Ext.refl s) ?_
   rcases e with e | e
   ·have I:f=[]:=by
     have:=b.length;rw[e]at this;exact NG this.symm
    subst I;rw[show(MV j.toNat ([]:List D)).flatten=[]by simp];exact kh g b
   ·subst e
    rw[show(MV (1:Int).toNat f).flatten=f by simp];exact kh g b
  ·exact q _ _ _ (Ext.alloc s k _)<|kh (ft.of zW)<|(Ki b _).mono (jm (jQ s k) _)
theorem q9(C:PV X a fa)(z:PV X b fb):PV X (.BinOp a .Mult b pos) (zK yD fa fb):=Xu (S_.or uc) sy C z
end
end DL
namespace DL
open PySem PySem.Spec PyProof.Rows L2
theorem RC.UD{K:MP}{H0 H:Hp}{L:St}{γ:Ctx}{i:Nat}{ds:List D}{a:di}{xs:List V}(r:RC K H0 H L γ)(e:γ[i]? = bQ (.own ds))(J:L[i]? = bQ (bQ (.ref a)))(C:H0 a=none)(S:H a=bQ (.lst xs))(Y:dk K H0 ds xs):RC K (L2.upd H0 a<|.lst xs) H L (γ.set i<|.val<|.lst ds):=by
 refine⟨λb o q=>?_,by simp[r.len],λj d g=>?_,λj l g=>?_,λj k b l fs f I t u=>?_,⟨λj h g=>?_,λj k x y f I=>?_⟩⟩
 ·by_cases z:b=a
  ·subst z;rw[zW]at q;rw[S];exact q
  ·rw[zV z]at q;exact r.sub b o q
 ·rcases z5 g with⟨rfl,z,E⟩ | ⟨U,z⟩
  ·cases z;exact⟨_,J,Kj (eU.of zW)<|Y.mono<|jm C _⟩
  ·obtain⟨v,g1,g2⟩:=r.val j d z
   exact⟨v,g1,g2.mono<|jm C _⟩
 ·rcases z5 g with⟨_,z,_⟩ | ⟨U,z⟩
  ·cases z
  ·obtain⟨b,A,g1,g2,g3,w⟩:=r.own j l z
   refine⟨b,A,g1,?_,g3,w.mono<|jm C _⟩;rw[zV (λq=>U<|r.ne j i a l ds z e (by rw[g1,q]) J)];exact g2
 ·rcases z5 f with⟨_,z,_⟩ | ⟨U,O⟩
  ·cases z
  ·rcases z5 I with⟨_,z,_⟩ | ⟨B,n⟩
   ·cases z
   ·exact r.ne j k b l fs O n t u
 ·rcases z5 g with⟨_,z,_⟩ | ⟨U,z⟩
  ·cases z
  ·obtain⟨b,bs,f1,f2,p⟩:=r.t5.1 j h z
   have s:=p i ds a e J;refine⟨b,bs,f1,f2.move (jm C _) (λc m=>by rw[zV (λq=>s<|by rw[<- q];exact m)];exact(f2.at m).1)<|λc m=>rfl,λk fs c f I=>?_⟩;rcases z5 f with⟨_,z,_⟩ | ⟨_,O⟩
   ·cases z
   ·exact p k fs c O I
 ·rcases z5 f with⟨_,z,_⟩ | ⟨_,O⟩
  ·cases z
  ·rcases z5 I with⟨_,z,_⟩ | ⟨_,n⟩
   ·cases z
   ·exact r.t5.2 j k x y O n
theorem RC.lend{K:MP}{H0 H:Hp}{J:St}{γ:Ctx}{i:Nat}{ds:List D}(r:RC K H0 H J γ)(e:γ[i]? = bQ (.own ds)) : ∃C,eM H0 C/\RC K C H J (γ.set i<|.val<|.lst ds):=by obtain⟨a,f,d,b,z,I⟩:=r.own i ds e;exact⟨_,jm b _,r.UD e d b z I⟩
theorem nS{K:MP}{H H':Hp}{d:D}{v:V}(h:Rep K H d v)(f:Wa d=bX):Rep K H' d v:=by
 cases d with
 | tup a=>cases f
 | lst a=>cases f
 | i8 c n=>cases f
 | i0 c n=>cases f
 | d7=>exact h
 | bl b=>exact h
 | int b=>exact h
 | str b=>exact h
theorem nT{H0 H C z H':Hp}(s:eM H0 C)(x:Ext C H z H'):Ext H0 H H0 H':=⟨eM.refl _,x.s1,s.trans<|x.s0.trans x.sub,λ_ h _=>h⟩
end DL
namespace L2
open PySem PySem.Spec PyProof.Rows
open AutoSeq1 (wpAny_loadPart')
section
variable{prog:hG}{w:f9}{A:l7}{E:EQ}{s:dy}
theorem cF{z it l:di}{n:Nat}{xs:Array dj}{x U:dj}{Q:EQ}(J:sf s.heap z it n U)(S:j1 .T s.heap it l n)(Z:m8 .T s.heap l xs)(hx:xs[n]? = bQ x)(C:z≠it)
 (Y : ∀g,N7 g z it ((n:Int)+1) x s.heap.objs.size->j1 .T g it l (n+1)->m7 g s.heap.objs.size (.int n s.toks) x->g.objs.size=s.heap.objs.size+1->
   (∀c o,c≠z->c≠it->s.heap.get? c=bQ o->g.get? c=bQ o)->Q (.ref s.heap.objs.size) {s with heap:=g,toks:=s.toks+1}) :
 wpAny (d6 prog w) A (n5.«enumerate.__next__» ⟨[.ref z],[]⟩) (λL s'=>∃v,L = .done (.ret v)/\Q v s') E s:=by
 refine MQ (m:=field (.ref z) 2) (Oq J rfl (x:= .ref it) rfl ?_);refine MQ (m:=NH (.ref it)) (w9 S Z hx λg1 K f=>?_);have h:sf g1 z it n U:=f.extBut _ _ C J;refine MQ (m:=field (.ref z) 3) (Oq h rfl (x:=Dx n) rfl ?_);refine MQ (m:=field (.ref z) 4) (Oq h rfl (x:= .none) rfl ?_);refine MQ (m:=mkInt n) (wpAny_mkInt ?_);refine MQ (m:=setField (.ref z) 3 (Dx ((n:Int)+1))) (OJ h ⋯ λg2 q5 i=>?_);replace q5:sf g2 z it ((n:Int)+1) U:=q5;refine MQ (m:=setField (.ref z) 4 .none) (OJ q5 ⋯ λg3 j k=>?_);replace j:sf g3 z it ((n:Int)+1) U:=j;refine MQ (m:=newTuple [.int n s.toks,x]) (wpAny_newTuple ?_);have d:sf (g3.push {cls:= .type "tuple",data:= .seq #[.int n s.toks,x]}) z it ((n:Int)+1) U:=MT _ j;generalize a4:g3.push {cls:= .type "tuple",data:= .seq #[.int n s.toks,x]}=O at d;have X:g1.objs.size=s.heap.objs.size:=f.1;have y2:g2.objs.size=g1.objs.size:=i.1;have y3:g3.objs.size=g2.objs.size:=k.1;have a:g3.objs.size=s.heap.objs.size:=by rw[y3,y2,X]
 have M:z<s.heap.objs.size:=Nh J;have N:m7 O s.heap.objs.size (.int n s.toks) x:=by show O.get? _=_;rw[<- a4,<- a];exact Nm _ rfl
 have y4:O.objs.size=s.heap.objs.size+1:=by rw[<- a4,NV,a]
 have bi : ∀c o,c≠z->c≠it->s.heap.get? c=bQ o->O.get? c=bQ o:=λc o I u e=>by rw[<- a4];exact MT _<|k.extBut _ _ I<|i.extBut _ _ I<|f.extBut _ _ u e
 have bl:j1 .T O it l (n+1):=K.at λo e=>by rw[<- a4];exact MT _<|k.extBut _ _ C.symm<|i.extBut _ _ C.symm e
 refine MQ (m:=Ob<|.ref z) ?_;unfold Ob;refine MQ<|Oq d rfl (x:= .none) rfl<|Na ?_;simp only[if_true];refine MQ<|Si<|MQ<|Oq d rfl (x:=U) rfl ?_;refine MQ<|OJ d ⋯ λy p F=>?_;replace p:sf y z it ((n:Int)+1) x:=p;rw[a];refine MQ (m:=OT (.ref z)<|.ref s.heap.objs.size) ?_;unfold OT;refine MQ<|OJ p ⋯ λg6 r G=>?_;replace r:N7 g6 z it ((n:Int)+1) x s.heap.objs.size:=r;refine OJ r ⋯ λb t H=>?_;replace t:N7 b z it ((n:Int)+1) x s.heap.objs.size:=t;have B : ∀c o,c≠z->O.get? c=bQ o->b.get? c=bQ o:=λc o I e=>H.extBut _ _ I<|G.extBut _ _ I<|F.extBut _ _ I e;have y7:b.objs.size=s.heap.objs.size+1:=by have P:y.objs.size=O.objs.size:=F.1;have R:g6.objs.size=y.objs.size:=G.1;have W:b.objs.size=g6.objs.size:=H.1;rw[W,R,P,y4]
 exact MQ<|TL<|Na ⟨_,rfl,Y b t (bl.at λo e=>B _ o C.symm e) (B _ _ (Pg M) N) y7 λc o I u e=>B c o I<|bi c o I u e⟩
theorem gN{z it l:di}{n:Nat}{xs:Array dj}{I:dj}{Q:Fin->dy->Prop}(O:A.handled=none)(U:sf s.heap z it n I)(C:j1 .T s.heap it l n)(L:m8 .T s.heap l xs)(hx:xs[n]? = none)
 (J : ∀g e,Heap.ExtBut it s.heap g->(∃o,g.get? e=bQ o/\o.cls = .type "StopIteration")->E (.ref e) {s with heap:=g}) :
 wpAny (d6 prog w) A (n5.«enumerate.__next__» ⟨[.ref z],[]⟩) Q E s:=
 MQ (m:=field (.ref z) 2) (Oq U rfl (x:= .ref it) rfl<|MQ (m:=NH<|.ref it)<|Kt O C L hx J)
end
noncomputable def uG(i:di):m5:={cls:= .type "enumerate",data:= .fields #[.none,.bool cE,.ref i,Dx 0,.none,.none]}
noncomputable def QF(h:eg)(l:di):eg:=Og (Og h<|mu .T l)<|uG h.objs.size
theorem gM(l:di)(xs:Array dj) :
 D3 (n5.«enumerate.__new__» ⟨[.type "enumerate",.ref l],[]⟩) (λ_ R s=>m8 .T s.heap l xs/\R (.ok (.ret (.ref (s.heap.objs.size+1)))) {s with heap:=QF s.heap l}):=
 .of_wp λb w A R s h=>by
  obtain⟨U,g,d,i,os⟩:=s;obtain⟨f,h⟩:=h;have j:=sub_enumerate;have z:Heap.IsTuple (Shared.heap ⟨U,g,d,i,os⟩) l xs:=f;obtain⟨o,I,O,m,a⟩:=id z;obtain⟨e,i0,k,n⟩:=o;simp only at O a;subst O a;simp only[QF,uG,mu,NV]at h
  wp_walk using OX I
  refine wpAny_stack_any λst=>Na ?_;split
  ·rename_i c _ _ _ _ _
   cases (c==SK "enumerate")<;>(wp_walk using OX I,Sy z;exact⟨_,rfl,by simpa[NV,Sb]using h⟩)
  ·wp_walk using OX I,Sy z
   exact⟨_,rfl,by simpa[NV,Sb]using h⟩
noncomputable def N8(K:MP)(a:di):It:=
 ⟨λi H=>∃b,kr .T K H a b/\i<b.length,
  λi H x d=>∃p u,x = .ref p/\H p=none/\d=upd H p (.tup [.int i,u])/\(∀b,kr .T K H a b->b[i]? = bQ u),
  λi H=>∃b,kr .T K H a b/\b.length<=i⟩
theorem Zl(U:sf s.heap z it n old)(h:Q (.ref z) s):wpAny (d6 prog w) A (M3 (.ref z)) Q E s:=by have I:s.TypeIs (.ref z) "enumerate":=⟨_,U,rfl⟩;refine wpAny_pyIter_slot I F.slot_enumerate_iter (OY F.slot_enumerate_iter I F.entry_enumerate_iter ?_ (F.args_enumerate_iter_1 _));have O:wpAny (d6 prog w) A.in1 (ret (.ref z)) (λO a=>∃v,O = .done (.ret v)/\∃T m,a.TypeIs v T/\N2 (.type T) "__next__" = pure (bQ m)/\Q v a) E s:=Na ⟨_,rfl,"enumerate",_,I,Ra.lookup,h⟩;exact O
theorem dh{P:hG}{w:f9}{K:MP}{elts:List dt}{x1:Nat}{t9:fh}{z it a:di}(an:z≠it) :
 Turn P w K (.Tuple elts x1 t9) (N8 K a) [z,it] z (λi h=>(∃a6,sf h z it i a6)/\j1 .T h it a i) where
 mem:=by simp
 obj:=λi h ⟨⟨a6,O⟩,h1⟩ y hy=>by
  simp only[Nc,ND,or_false]at hy;rcases hy with rfl | rfl
  ·exact⟨_,O,λv q=>by cases q⟩
  ·exact h1.obj
 keep:=λi h h' ⟨⟨a6,O⟩,h1⟩ k=>⟨⟨a6,k z ⋯ _ O⟩,h1.at λo e=>k it ⋯ o e⟩
 item:=by
  rintro X hP hw hK hc i pins s σ H E I hf ⟨⟨a6,O⟩,h1⟩ ⟨xs,a9,ax⟩;subst hP hw hK;obtain⟨b0,ae,p1,z1⟩:=I.sq a9;have hx:xs[i]? = bQ xs[i]:=MS ax;obtain⟨u1,b6,b7⟩:=ae.get hx;have hT:s.TypeIs (.ref z) "enumerate":=⟨_,O,rfl⟩;unfold DR;refine MQ (SR (OH (name:=NS "__next__") hT Ra (OY Ra hT F.entry_enumerate_next
   (cF O h1 p1 (x:=u1) (by simpa using b6) an λg a1 a2 a3 a4 a5=>Na ⟨_,rfl,?_⟩) (F.args_enumerate_next_1 _))))
  refine _h a1 λg2 q5 am=>?_;have lt : ∀{c o},s.heap.get? c=bQ o->s.heap.objs.size≠c:=λe=>Pg<|Nh e;have bd:m7 g2 s.heap.objs.size (.int i s.toks) u1:=am.extBut _ _ (lt O) a3;have kk : ∀b' u,b' ∉ [z,it]->s.heap.get? b'=bQ u->g2.get? b'=bQ u:=λb' u U e=>by simp only[Nc,ND,or_false,not_or]at U;exact am.extBut _ _ U.1<|a5 b' u U.1 U.2 e
  have I1:Inv X pins σ (upd H s.heap.objs.size<|.tup [.int i,xs[i]]) {s with heap:=g2,toks:=s.toks+1}:=
   I.T4 (fp:=[z,it]) kk hf (MY _) ⟨by show 2<=ej;decide,[.int i s.toks,u1],.cons ⟨_,rfl⟩<|.cons b7 .nil,⟨_,bd,rfl,_,rfl⟩⟩
  have bf:H s.heap.objs.size=none:=I.fresh;refine⟨.ref s.heap.objs.size,_,I1,rfl,⟨_,_,rfl,bf,rfl,λc0 bg=>by rw[I.S8 bg a9];exact hx⟩,?_,λb' U=>?_⟩
  ·exact⟨⟨_,by have:=q5;rwa [show((i:Int)+1)=((i+1:Nat):Int)by omega]at this⟩,a2.at λo e=>am.extBut _ _ an.symm e⟩
  ·have bi:b'≠s.heap.objs.size:=by
    simp only[Nc,ND,or_false]at U;rcases U with rfl | rfl
    ·exact(lt O).symm
    ·obtain⟨o,e,_⟩:=h1.obj;exact(lt e).symm
   rw[zV bi];exact(hf b' U).1
 done:=by
  rintro X hP hw hK hc i pins s σ H E I hf ⟨⟨a6,O⟩,h1⟩ ⟨xs,a9,hi⟩;subst hP hw hK;obtain⟨b0,ae,p1,z1⟩:=I.sq a9;have hT:s.TypeIs (.ref z) "enumerate":=⟨_,O,rfl⟩;have l1:=ae.length;unfold DR;refine MQ (SR (OH (name:=NS "__next__") hT Ra (OY Ra hT F.entry_enumerate_next
   (gN (show X.A.handled=none from I.ok.hd hc) O h1 p1 (by simp;omega) λg e hk he=>?_) (F.args_enumerate_next_1 _))))
  obtain⟨o,ho,br⟩:=he;refine MQ (wpAny_isInstance (T:="StopIteration") (b:=bX) ⟨o,ho,br⟩ isSubtype_stop (Na ⟨rfl,?_⟩));refine I.Dc (t':=s.toks) (fp:=[z,it]) (λb' u U e=>?_) hf;simp only[Nc,ND,or_false,not_or]at U;exact hk b' u U.2 e
 self:=λ_ _ _ _ _ st h=>Zl st.1.choose_spec h
noncomputable def Hl(K:MP)(C:TA):TI:=λf H R=>C f H λd b=>∃a,d=[.ref a]/\(∃e,kr .T K b a e)/\R (N8 K a) b
theorem tP{X:Cx}{L:dt}{S:TA}{p pos:fh}{C:List dt}{x1:Nat}{J:fh}(Z:Gl X "enumerate")(hm:X.mg "enumerate" = none)(Y:PA X [L] S)
 (hv:C1 "enumerate" = bQ (.type "enumerate")) (hs:el [L] X.env=[(cE,dv L X.env)]:=by rfl) :
 PI X (.Tuple C x1 J) (.Call (.Name "enumerate" p) [L] [] pos) (Hl X.K S):=by
 intro d s j H R I h;refine DZ<|vy I Z hm hv<|Ou (ea (Y pos d s j H _ I h) λB b t=>?_) (by rw[hs];rfl) rfl;obtain⟨E,f,z,w,u⟩:=t;obtain⟨a,e,⟨M,l⟩,q⟩:=u;subst e;obtain⟨G,r,m⟩:=vf w;subst r;cases m;obtain⟨n,y,U,N⟩:=z.sq l;have A:=U.lt;refine callType_new F.called_enumerate ⋯ (F.typeCall_enumerate_1 _) (F.newCall_enumerate_1 _) (λobj=>F.args_object_init_2 obj _) F.entry_enumerate_new (gM a n.toArray) ⟨U,?_⟩;have keep : ∀c o,b.heap.get? c=bQ o->(QF b.heap a).get? c=bQ o:=λc o e=>MT _<|MT _ e;have x:(Og b.heap<|mu .T a).objs.size=b.heap.objs.size+1:=NV ..;have g0:j1 .T (QF b.heap a) b.heap.objs.size a 0:=(XG .T b.heap a).at λo e=>MT _ e;have O:sf (QF b.heap a) (b.heap.objs.size+1) b.heap.objs.size 0 .none:=by have q:=Nm (Og b.heap<|mu .T a) (o:=uG b.heap.objs.size) rfl;rw[x]at q;exact q
 refine⟨⟨_,O,rfl⟩,Zl (s:={b with heap:=QF b.heap a}) O ?_⟩;have k:Inv X d j f {b with heap:=QF b.heap a,toks:=b.toks}:=z.kept keep;refine⟨_,[b.heap.objs.size+1,b.heap.objs.size],_,_,f,rfl,k,dh<|Pg<|OR _,⟨⟨_,O⟩,g0⟩,λc i=>?_,q⟩;have g:b.heap.objs.size<=c:=by
  simp only[Nc,ND,or_false]at i;rcases i with rfl | rfl
  ·exact NY _ _
  ·exact MY _
 exact z.C4 g<|z.eo.fresh g
end L2
namespace DL
open PySem PySem.Spec PyProof.Rows L2
theorem J9{K:MP}{H:Hp} : ∀{ds:List D} {xs:List V} {l:List Int},dk K H ds xs->wc ds=bQ l->xs=l.map V.int
 | [],xs,l,r,e=>by cases e;rw[show xs=[]from r];rfl
 | d::ds,xs,l,r,e=>by
  obtain⟨x,g,rfl,z,b⟩:=(show ∃x r,xs=x::r/\Rep K H d x/\dk K H ds r from r);cases d with
  | int i=>
   obtain⟨f,a,rfl⟩:=zF (show(wc ds).map (λl=>i::l)=bQ l from e);rw[J9 b a,show x = .int i from z];rfl
  | _=>cases e
theorem Vi : ∀l:List Int,(l.map V.int).all KH=bX
 | []=>rfl
 | i::l=>by simp only[Nt,Tw,Vi l,Bool.and_true];rfl
theorem gC(i:Int) : ∀l:List Int,L0 (.int i) (l.map V.int)=decide (i∈l)
 | []=>rfl
 | j::l=>by
  have z:=gC i l;unfold L0 at z ⊢;rw[Nt,G9,z];have e:A3 (.int j) (.int i)=(j==i):=rfl;rw[e];by_cases h:i=j
  ·subst h
   rw[beq_self_eq_true,Bool.true_or];exact(decide_eq_true Nk).symm
  ·rw[beq_false_of_ne (Oa h),Rv]
   exact decide_eq_decide.mpr ⟨λq=>Np _ q,λq=>(Nc.mp q).resolve_left h⟩
theorem cY{K:MP}{H0 C:Hp}{a:di}{xs:List V}{ds:List D}(h:ft K C a xs)(r:dk K H0 ds xs):Walk K H0 C (N8 K a) (yV ds):=by
 have o:=r.length;have t:(yV ds).length=ds.length:=by simp[yV]
 refine⟨λi b s m=>?_,λb s=>?_,λi b x g s m y=>?_⟩
 ·exact⟨xs,my s h,by omega⟩
 ·exact⟨xs,my s h,by omega⟩
 ·obtain⟨p,u,k,z,I,O⟩:=y
  obtain⟨d,l,U⟩:=r.DN<|O xs<|my s h;refine⟨.tup [.int i,d],?_,λf n e=>⟨upd f p<|.tup [.int i,u],?_,?_⟩⟩
  ·have j:i<ds.length:=by omega
   unfold yV;rw[NC,Pd j,OA,l];rfl
  ·rw[I];exact Ext.alloc e z _
  ·rw[k]
   exact kh (ft.of zW)<|dk.cons (show V.int i = .int i from rfl)<|dk.cons ((U.mono n).mono (jm (jQ e z) _)) dk.nil
section
variable{X:Cx}{sc:fA}{N L:List Str}{k:Nat}{a b c:dt}{pos p:fh}{f fa fb fc:CO D}
theorem fj(h:SX X sc N L k)(c:vz sc "enumerate" = bX)(z:X.mg "enumerate" = none)(C:PV X a f)(hs:el [a] X.env=[(cE,dv a X.env)]:=by rfl) :
 g5 X (.Tuple elts x1 t9) (.Call (.Name "enumerate" p) [a] [] pos) (mh f):=
 YG (tP (h.gl c).1 z (jv C qR hs) boot_enumerate hs) λs H R U=>by
  obtain⟨g,m,n,rc,I,q⟩:=U;obtain⟨d,j,I⟩:=zk I;cases d with
  | tup o=>
   cases I;refine⟨g,m,_,rc,j,λv e b x r=>?_⟩;obtain⟨i,l,rfl,O,g2⟩:=vg r;exact⟨i,rfl,⟨l,my x.sub O⟩,q _ e b x<|cY O g2⟩
  | _=>cases I
theorem Kk(ho:gB X (ml op) r)(C:gB X (ml F3) r')(s1:l9 X.K r F)(s2:l9 X.K r' G)(S:PV X a fa)(Y:PV X b fb)(Z:PV X c fc)
 (hm:R3 [op,F3] [b,c]=cE:=by with_unfolding_all rfl):PV X (.Compare a [op,F3] [b,c] pos) (y8 F G fa fb fc):=
 qG (mQ ho C S Y Z hm) λσ H Q N=>by
  obtain⟨l,e,d,rc,I,q⟩:=N;obtain⟨x,A,I⟩:=zk I;obtain⟨y,B,I⟩:=zk I;obtain⟨k,E,I⟩:=zk I;obtain⟨g,J,h⟩:=zk E;refine⟨l,e,x,rc,A,λv1 H1 s x1 P=>⟨s,e,y,rc.ext x1,B,λj m t O i=>s1 t m v1 j x y g _ O.sub (P.mono O.s0) i J λv3 n f x3 R=>?_⟩⟩;cases g with
  | bl k'=>
   cases h;refine⟨k,show v3 = .bl k from R,?_⟩;cases k with
   | true=>
    rw[UJ rfl];rw[UJ rfl]at I;obtain⟨z,L,M⟩:=zk I;exact⟨f,e,z,((rc.ext x1).ext O).ext x3,L,λv4 o u U T=>s2 u o j v4 y z d _ U.sub ((i.mono x3.s0).mono U.s0) T M λv5 p w x5 W=>q v5 p w (((x1.trans O).trans x3).trans (U.trans x5)) W⟩
   | false=>
    rw[UY ⋯];rw[UY ⋯]at I;cases I;exact q _ n f ((x1.trans O).trans x3) rfl
  | _=>cases h
end
theorem wL : ∀{l:List Int} {us:List dj},d9 (l.map V.int) us->∀i,i<us.toArray.size->∃z u,us.toArray[i]? = bQ (.int z u)/\l[i]? = bQ z
 | [],us,r,i,hi=>by cases r;exact absurd hi<|Nv _
 | z::l,u::us,.cons r t,i,hi=>by
  cases i with
  | zero=>
   obtain⟨I,rfl⟩:=r;exact⟨z,I,by simp,by simp⟩
  | succ i=>
   obtain⟨O,U,a,b⟩:=wL t i (by simpa using hi);exact⟨O,U,by simpa using a,by simpa using b⟩
section
variable{K:MP}{E0 E H0 H:Hp}{σ:St}{γ:Ctx}
theorem RS.freeze(r:RS K E0 E H0 H σ γ)(e:γ[i]? = bQ (.own ds)) : ∃C,RS K E0 E C H σ (γ.set i<|.val<|.lst ds):=by
 obtain⟨a,p,f,g,l,m⟩:=r.rc.own i ds e;have h:=r.fresh i ds a e f;obtain⟨C,o,U⟩ : ∃C,C=upd H0 a (.lst p)/\RC K C H σ (γ.set i<|.val<|.lst ds):=by refine⟨_,rfl,?_⟩;exact RC.UD r.rc e f g l m
 subst o;refine⟨_,U,⟨r.ext.s0.trans<|jm g _,r.ext.s1,U.sub,λc n I=>?_⟩,λj k b O g2=>?_,λj d b s O g2 g3=>?_⟩
 ·rw[zV (λz=>by rw[z,h]at I;exact I rfl)];exact r.ext.new c n I
 ·rcases z5 O with⟨_,z,_⟩ | ⟨_,z⟩
  ·cases z
  ·exact r.fresh j k b z g2
 ·rcases z5 O with⟨_,z,_⟩ | ⟨_,z⟩
  ·cases z
  ·exact r.A4 j d b s z g2 g3
open Classical in
end
section
variable{X:Cx}{st:iQ}{F:CO Fl}
theorem JW(i:Nat)(h:kA X st F):kA X st (cS i F):=yp h λD k H I=>by obtain⟨E0,E,f,j,O,U,z,b⟩:=I;obtain⟨g,e,z⟩:=zk z;obtain⟨a,d⟩:=U.freeze<|qW e;exact⟨E0,E,a,_,O,d,z,b⟩
end
end DL
namespace L2
open PySem PySem.Spec PyProof.Rows
noncomputable def GL(K:MP):V->List V->Hp->VK->Prop:=λx d H Q=>∃z p b,x = .str z/\d=[.ref p]/\eU K H p (b.map V.str)/\Builtin.Str.tooLong (b.toArray.foldl (λa p=>a+p.length+z.length) 0)=cE/\Q (.str<|Ue z b) H
theorem K9 : ∀{C:List Str} {us:List dj},d9 (C.map V.str) us->∃l:List (Str×Tok),strValues l=us/\l.map (·.1)=C
 | [],us,r=>by cases r;exact⟨[],rfl,rfl⟩
 | z::C,u::us,.cons r t=>by obtain⟨I,rfl⟩:=r;obtain⟨l,rfl,h⟩:=K9 t;exact⟨(z,I)::l,rfl,by simp[h]⟩
theorem uk{X:Cx}:Ol X "str.join" (GL X.K):=by intro a s y H x n v m Q I U g h;obtain⟨z,p,w,rfl,rfl,d,O,q⟩:=h;obtain⟨t,rfl⟩:=U;obtain⟨u,rfl,rw⟩:=vf g;cases rw;obtain⟨i,r,f,j⟩:=I.list d;obtain⟨l,rfl,e⟩:=K9 r;subst e;refine Px F.slot_str_join (a_ _ _ _) F.entry_str_join (F.args_str_join_2 _ _) (meets_str_join_list z t p l O) ⟨f.isList,post_join l ⟨joinFit_length O,λt' k=>?_⟩⟩;refine⟨.str (Ue z (l.map (·.1))),H,(I.kept (h':=s.heap) (t':=k) λb o e=>e),⟨t',?_⟩,q⟩;show To (Builtin.Str.glued z (l.map (·.1))) t'=_;rw[StrLaws.glued_eq_join]
end L2
namespace DL
open PySem PySem.Spec PyProof.Rows L2
theorem Yn{K:MP}{H:Hp} : ∀{ds:List D} {xs:List V} {l:List Str},dk K H ds xs->Yo ds=bQ l->xs=l.map V.str
 | [],xs,l,r,e=>by cases e;rw[show xs=[]from r];rfl
 | d::ds,xs,l,r,e=>by
  obtain⟨x,g,rfl,z,b⟩:=(show ∃x r,xs=x::r/\Rep K H d x/\dk K H ds r from r);cases d with
  | str i=>
   obtain⟨f,a,rfl⟩:=zF (show(Yo ds).map (λl=>i::l)=bQ l from e);rw[Yn b a,show x = .str i from z];rfl
  | _=>cases e
section
variable{X:Cx}{sc:fA}{N L:List Str}{k:Nat}{o e a b:dt}{apos cpos pos p:fh}{f g:CO D}{q:CO (Sk×List D)}
theorem Kd(h:qg x=bX):x.length<=1000:=of_decide_eq_true h
theorem Xs(h:qg x=bX):x.length<=ej:=NZ (Kd h) ⋯
theorem eH(U:PV X o f)(Y:PQ X e q)(C:DE o "join" X.env (dv o X.env)=dv o X.env:=by rfl)
 (J:((n6 cpos<|starEach [e] X.env).all (λx=> !x.1) && (DF cpos<|keywordEach [] X.env).all (λx=>x.1.isSome) && decide ([e].length+([]:List qs).length+(if ([]:List qs).isEmpty then 0 else 1)<30))=bX:=by rfl)
 (S:(apos.endLine==cpos.line)=bX:=by rfl) (hs:el [e] X.env=[(cE,dv e X.env)]:=by rfl):PV X (.Call (.Attribute o "join" apos) [e] [] cpos) (sJ f q):=
 qG (bJ PySem.F.plainAttrs_str PySem.F.slot_str_join PySem.F.type_str_join uk U (jv Y qR hs) C J S hs rfl) λσ H Q A=>by
  obtain⟨h,g,d,rc,z,K⟩:=A;obtain⟨k,n,z⟩:=zk z;obtain⟨⟨G,m⟩,p,z⟩:=zk z;cases k with
  | str O=>
   cases G with
   | L=>
    obtain⟨l,s,z⟩:=zk z;by_cases I:l.length<=lim/\l.all qg=bX/\qg O=bX
    ·rw[UJ I]at z;cases z
     refine⟨h,g,_,rc,n,λv P b x r=>?_⟩;rw[show v = .str O from r];refine⟨rfl,b,g,.L,m,rc.ext x,p,λa Z i j N u R M=>?_⟩;have t:=Yn M s;subst t;refine⟨O,a,l,rfl,rfl,u,StrLaws.joinFits (B:=1000) (λy E=>Kd<|OQ.mp I.2.1 y E) ?_,K _ i j (x.trans N) rfl⟩;have W:=I.1;have:lim=2500:=rfl;have w:=Kd I.2.2;have:l.length*O.length<=2500*1000:=Nat.mul_le_mul ⋯ w;omega
    ·rw[UY I]at z;cases z
   | T=>cases z
  | _=>cases z
theorem wQ(C:PV X a f)(J:PV X b g)(hs:Ww b:=by intro _ _;rfl):PV X (.Subscript a b pos) (yA f g):=
 qG (Cb CT C J hs) λG H Q A=>by
  obtain⟨m,l,d,rc,I,q⟩:=A;obtain⟨p,t,I⟩:=zk I;obtain⟨i,O,I⟩:=zk I;obtain⟨s,u,O⟩:=zk O;cases p with
  | str z=>
   by_cases U:qg z=bX
   ·have I:(if qg z=bX then (ec z.cps.toList.length i).bind λk=>z.cps.toList[k]?.map λc=>D.str ⟨#[c]⟩else none)=bQ d:=I
    rw[UJ U]at I;obtain⟨j,w,I⟩:=zk I;obtain⟨c,y,rfl⟩:=zF I;refine⟨m,l,_,rc,t,λv E e x r=>⟨e,l,s,rc.ext x,u,λF n o B h=>?_⟩⟩;rw[jM O]at h;refine⟨z,i,c,r,jA h,Xs U,?_,q _ n o (x.trans B) rfl⟩;unfold C0;rw[gw w];exact y
   ·have I:(if qg z=bX then (ec z.cps.toList.length i).bind λk=>z.cps.toList[k]?.map λc=>D.str ⟨#[c]⟩else none)=bQ d:=I
    rw[UY U]at I;cases I
  | _=>cases I
theorem yo(h:SX X sc N L k)(c:vz sc "len" = bX)(z:X.mg "len" = none)(C:PV X e f)(hs:el [e] X.env=[(cE,dv e X.env)]:=by rfl):PV X (.Call (.Name "len" p) [e] [] pos) (xw f):=
 qG (yb Vm (h.gl c).1 z PySem.boot_len (jv C qR hs) ⋯ ⋯ hs rfl) λm H Q U=>by
  obtain⟨g,l,d,rc,I,q⟩:=U;obtain⟨i,j,I⟩:=zk I;cases i with
  | str z=>
   by_cases O:qg z=bX
   ·have I:(if qg z=bX then bQ (D.int z.length)else none)=bQ d:=I
    rw[UJ O]at I;cases I;refine⟨g,l,_,rc,j,λv b a x r=>⟨z,by rw[show v = .str z from r],Xs O,q _ b a x rfl⟩⟩
   ·have I:(if qg z=bX then bQ (D.int z.length)else none)=bQ d:=I
    rw[UY O]at I;cases I
  | _=>cases I
end
section
variable{X:Cx}{sc:fA}{N L:List Str}{k:Nat}{b:dt}{f:CO D}
theorem eG(h:SX X sc N L k)(c:vz sc "min" = bX)(z:X.mg "min" = none)(C:PV X a f)(J:PV X b g)(hs:el [a,b] X.env=[(cE,dv a X.env),(cE,dv b X.env)]:=by rfl)(O:el [b] X.env=[(cE,dv b X.env)]:=by rfl) :
 PV X (.Call (.Name "min" p) [a,b] [] pos) (dS f g):=
 qG (yb (iq h.calm) (h.gl c).1 z PyProof.Rows.boot_min (jv C (jv J qR O)<|by rw[hs,O]) ⋯ ⋯ (by rw[hs,O]) (by rw[O];rfl)) λK H Q B=>by obtain⟨o,n,d,rc,I,q⟩:=B;obtain⟨i,l,I⟩:=zk I;obtain⟨u,y,l⟩:=zk l;obtain⟨j,U,I⟩:=zF I;obtain⟨w,A,U⟩:=zk U;subst I;refine⟨o,n,u,rc,y,λv F e x r=>⟨e,n,w,rc.ext x,A,λG s t E m=>⟨i,j,?_,q _ s t (x.trans E) rfl⟩⟩⟩;rw[jM l]at r;rw[jM U]at m;rw[jA r,jA m]
end
noncomputable def GX(c:Xn)(C:Option di)(H0:Hp):Prop:=match c.2 with
 | none=>C=none
 | some i=>∃d,C=bQ d/\H0 d=bQ (.xd [(Mp c.1,.int i)])
noncomputable def US(K:MP)(n:Nat)(G:List D->Option Xn):Sp:=λg H _ E=>∃b d c,eM b H/\dk K b d g/\d.length=n/\G d=bQ c/\
 ∀C e a f,Iy K=bX->c.1∈N5->Ax K c.1=bQ C->GX c f a->Ext b H a e->E (.ref C) f e
section ap
variable(γ:Ctx)
@[simp] noncomputable def KW:=@zG.eq_1
@[simp] noncomputable def yh:=@qh.eq_1
@[simp] noncomputable def xQ:=@js.eq_1
@[simp] noncomputable def vI:=@zf.eq_1
@[simp] noncomputable def xD:=@zh.eq_1
@[simp] theorem iM(d):zy d γ=bQ d:=rfl
@[simp] noncomputable def yi:=@zK.eq_1
@[simp] noncomputable def pV:=@sB.eq_1
@[simp] noncomputable def Ir:=@mi.eq_1
@[simp] noncomputable def Vv:=@wK.eq_1
@[simp] noncomputable def iL:=@jX.eq_1
@[simp] noncomputable def Lw:=@cT.eq_1
@[simp] noncomputable def Mq:=@V_.eq_1
@[simp] noncomputable def Ll:=@EV.eq_1
@[simp] noncomputable def pT:=@dU.eq_1
@[simp] theorem Vw:zI γ=bQ []:=rfl
@[simp] noncomputable def jx:=@zb.eq_1
@[simp] noncomputable def aS:=@xH.eq_1
@[simp] noncomputable def HY:=@j3.eq_1
@[simp] noncomputable def HU:=@jU.eq_1
@[simp] noncomputable def Ja:=@jR.eq_1
@[simp] noncomputable def iJ:=@ZD.eq_1
@[simp] noncomputable def HS:=@v9.eq_1
@[simp] noncomputable def Ls:=@ME.eq_1
@[simp] noncomputable def Io:=@sN.eq_1
@[simp] noncomputable def QO:=@fy.eq_1
@[simp] noncomputable def yf:=@jF.eq_1
@[simp] noncomputable def iI:=@xB.eq_1
@[simp] noncomputable def Ik:=@sM.eq_1
@[simp] noncomputable def yI:=@qv.eq_1
@[simp] noncomputable def iN:=@zE.eq_1
@[simp] noncomputable def Zv:=@jJ.eq_1
@[simp] noncomputable def Zu:=@zT.eq_1
@[simp] noncomputable def kZ:=@zS.eq_1
@[simp] noncomputable def QN:=@kg.eq_1
@[simp] noncomputable def Lg:=@K6.eq_1
@[simp] noncomputable def Jb:=@yB.eq_1
@[simp] noncomputable def j7:=@zU.eq_1
@[simp] theorem Lh:jz γ=bQ bX:=rfl
@[simp] noncomputable def Ac:=@Kf.eq_1
@[simp] noncomputable def iK:=@dQ.eq_1
@[simp] noncomputable def yx:=@cq.eq_1
@[simp] noncomputable def KU:=@Xt.eq_1
@[simp] theorem Lm:lq γ=bQ none:=rfl
@[simp] noncomputable def Ms:=@vu.eq_1
@[simp] noncomputable def Li:=@ma.eq_1
@[simp] noncomputable def pS:=@xY.eq_1
@[simp] noncomputable def Mr:=@lr.eq_1
@[simp] noncomputable def Ln:=@MA.eq_1
@[simp] noncomputable def cM:=@ju.eq_1
@[simp] noncomputable def Ez:=@Ke.eq_1
@[simp] noncomputable def iH:=@Am.eq_1
@[simp] noncomputable def pU:=@lu.eq_1
@[simp] noncomputable def Lv:=@An.eq_1
@[simp] noncomputable def Ie:=@bu.eq_1
@[simp] noncomputable def HX:=@mf.eq_1
@[simp] noncomputable def HQ:=@sH.eq_1
theorem jI(F G):zR F G γ=(F γ).bind λz=>match z with
 | .next a=>G a
 | f=>bQ f:=rfl
end ap
@[simp] theorem Ew(ds):jj (.tup ds)=bQ (.T,ds):=rfl
@[simp] theorem Ld(ds):jj (.lst ds)=bQ (.L,ds):=rfl
@[simp] theorem xP(d):ik (bQ (.val d))=bQ d:=rfl
@[simp] theorem qV(d):wI (bQ (.val d))=jj d:=rfl
@[simp] theorem uP(d):wI (bQ (.own d))=bQ (.L,d):=rfl
@[simp] theorem uS(d):qz (bQ (.own d))=bQ d:=rfl
@[simp] theorem uQ(d):Wn (bQ (.val d))=bQ (.ret<|.val d):=rfl
@[simp] theorem uR(d):Wn (bQ (.own d))=bQ (.ret<|.own d):=rfl
@[simp] theorem Lf(b):nz (.bl b)=bQ b:=rfl
@[simp] theorem kY(b):ix (.int b)=bQ b:=rfl
@[simp] theorem Fd(d):Ff (.val d)=d:=rfl
@[simp] theorem Fe(d):Ff (.own d) = .lst d:=rfl
@[simp] theorem Fc(d):oT (.own d)=bQ d:=rfl
@[simp] theorem oi(i j):Xi (.int i) (.int j)=bQ (.int<|i - j):=rfl
@[simp] theorem Jw(i j):qu (.int i) (.int j)=bQ (.int<|i+j):=rfl
@[simp] theorem oj(i j):yv (.int i) (.int j)=if 0<j then bQ (.int<|i%j)else none:=by show(if Fz i j=bX then _ else _)=_;simp[Fz]
@[simp] theorem Fy(i j):Jv (.int i) (.int j)=if 0<j/\j<1073741824 then bQ (.int<|i/j)else none:=by
 show(if Ep i j=bX then _ else _)=_;have e:(Ep i j=bX)=(0<j/\j<1073741824):=by unfold Ep;rw[Nb,decide_eq_true_eq,decide_eq_true_eq];apply propext;constructor<;>intro h<;>exact⟨h.1,by omega⟩
 simp only[e]
@[simp] theorem Ju(i j):yD (.int i) (.int j)=if ZT i j=bX then bQ (.int<|i*j)else none:=rfl
@[simp] theorem Fx(i j):uK (.int i) (.int j)=if Eo i j=bX then bQ (.int<|i ^ j.toNat)else none:=rfl
@[simp] theorem Hy(i j):sG (.int i) (.int j)=bQ (.bl<|decide<|i<j):=rfl
@[simp] theorem Hz(i j):lp (.int i) (.int j)=bQ (.bl<|decide<|i<=j):=rfl
@[simp] theorem HA(i j):C3 (.int i) (.int j)=bQ (.bl<|decide<|j<i):=rfl
@[simp] theorem HB(i j):DH (.int i) (.int j)=bQ (.bl<|decide<|j<=i):=rfl
@[simp] theorem HC(i j):gm (.int i) (.int j)=bQ (.bl<|decide<|i=j):=by unfold gm;rw[UJ ⟨rfl,rfl⟩];exact congrArg (λb=>bQ (D.bl b)) (by rw[Rw];simp[g9])
@[simp] theorem Hx(i j):eK (.int i) (.int j)=bQ (.bl<|!decide (i=j)):=by unfold eK;rw[UJ ⟨rfl,rfl⟩];exact congrArg (λb=>bQ (D.bl !b)) (by rw[Rw];simp[g9])
@[simp] theorem Bf(i is d ds γ):xA (i::is) (d::ds) γ=xA is ds (γ.set i<|.val d):=rfl
@[simp] theorem Bd(ds γ):xA [] ds γ=γ:=by cases ds<;>rfl
@[simp] theorem aQ(i d γ):xC (.nm i) d γ=bQ (γ.set i<|.val d):=rfl
@[simp] theorem Es(i j a b γ):xC (.tp [i,j]) (.tup [a,b]) γ=bQ ((γ.set i<|.val a).set j (.val b)):=rfl
@[simp] theorem lZ(γ:Ctx)(G:CO Fl):(bQ (Fl.next γ)).bind (λz=>match z with
 | .next γ'=>G γ'
 | f=>bQ f)=G γ:=rfl
theorem Zr(i j:Int)(C : -(2 ^ 64)<j)(I:j<2 ^ 64):ZT i j=bX:=by unfold ZT;rw[OC];right;exact decide_eq_true ⋯
theorem vG(i j:Int)(C : -(2 ^ 64)<i)(I:i<2 ^ 64):ZT i j=bX:=by unfold ZT;rw[OC];left;exact decide_eq_true ⋯
theorem kx(C : -(2 ^ 62)<i)(I:i<2 ^ 62):inR i=bX:=by unfold inR;exact decide_eq_true ⋯
@[simp] theorem j6(n k:Nat):ec n (k:Int)=if k<n then bQ k else none:=by
 unfold ec;by_cases h:k<n
 ·rw[UJ ⟨Int.natCast_nonneg k,by omega⟩,UJ h];simp
 ·rw[UY ⋯,UY ⋯,UY h]
theorem jg:lim=2500:=rfl
@[simp] theorem Fv:0<=lim:=OD _
@[simp] theorem Ft:1<=lim:=by decide
@[simp] theorem Fs:2<=lim:=by decide
@[simp] theorem Fq:3<=lim:=by decide
@[simp] theorem Fp:4<=lim:=by decide
@[simp] theorem Fo:5<=lim:=by decide
@[simp] theorem Fn:6<=lim:=by decide
@[simp] theorem Fm:7<=lim:=by decide
@[simp] theorem Fk:8<=lim:=by decide
@[simp] theorem Fj:0<lim:=by decide
@[simp] theorem KC(h:n<=lim):inR (n:Int)=bX:=kx ⋯ (by have:=jg;omega)
@[simp] theorem _o(n:Nat):ec (n+1) 0=bQ 0:=j6 (n+1) 0 ▸ rfl
@[simp] theorem _p(n:Nat):ec (n+2) 1=bQ 1:=by have:=j6 (n+2) 1;simpa using this
@[simp] theorem N_(n:Nat):ec (n+3) 2=bQ 2:=by have:=j6 (n+3) 2;simpa using this
theorem zC(r:α->D) : ∀(l:List α),(∀x∈l,zX T k f γ [g x]=bQ [r x])->zX T k f γ (l.map g)=bQ (l.map r)
 | [],_=>rfl
 | x::l,h=>by
  have a:=h x Nk;have i:=zC r l λy z=>h y<|Np _ z;simp only[Nt,zX]at a ⊢;cases e1:xC T (g x) γ with
  | none=>rw[e1]at a;simp at a
  | some d=>
   rw[e1]at a;simp only[MW]at a ⊢;cases e2:k d with
   | none=>rw[e2]at a;simp at a
   | some b=>
    rw[e2]at a;simp only[MW]at a ⊢;cases b with
    | false=>simp at a
    | true=>
     simp only[UJ]at a ⊢;cases e3:f d with
     | none=>rw[e3]at a;simp at a
     | some e=>
      rw[e3]at a;simp at a;rw[i];simp[a]
theorem zD(C:xC T d γ=bQ γ1)(I:k γ1=bQ bX)(z:f γ1=bQ e):zX T k f γ [d]=bQ [e]:=by simp[zX,C,I,z]
theorem xt(T F d ds γ):k7 T F (d::ds) γ=(xC T d γ).bind λγ1=>(F γ1).bind λI=>match I with
 | .next z=>k7 T F ds z
 | .cont z=>k7 T F ds z
 | .brk z=>bQ (.next z)
 | .ret r=>bQ (.ret r):=rfl
theorem V9{T:Tg}{F:CO Fl}{n:Nat}{g:Nat->D}(c:Nat->Ctx)(h : ∀i,i<n->(xC T (g i)<|c i).bind F=bQ (.next<|c<|i+1)):k7 T F ((MO n).map g) (c 0)=bQ (.next<|c n):=by
 have f : ∀m a,a+m=n->k7 T F ((OB a m).map g) (c a)=bQ (.next<|c n):=by
  intro m
  induction m with
  | zero=>intro a d;simp at d;subst d;rfl
  | succ m z=>
   intro a d;rw[RK,Nt,xt];have b:=h a ⋯;cases e:xC T (g a) (c a)with
   | none=>rw[e]at b;cases b
   | some j=>
    rw[e]at b;simp only[MW]at b ⊢;rw[b];exact z (a+1) ⋯
 rw[Rb];exact f n 0 ⋯
theorem vC(P:Nat->Ctx->Prop) : ∀(ds:List D) (k:Nat) (γ:Ctx),P k γ->(∀i d γ,ds[i]? = bQ d->P (k+i) γ->∃γ',((xC T d γ).bind F=bQ (.next γ')\/(xC T d γ).bind F=bQ (.cont γ'))/\P (k+i+1) γ')->
 ∃γ',k7 T F ds γ=bQ (.next γ')/\P (k+ds.length) γ'
 | [],k,γ,h,_=>⟨γ,rfl,h⟩
 | d::ds,k,γ,h,step=>by
  obtain⟨a,e,f⟩:=step 0 d γ rfl h;obtain⟨γ',z,g⟩:=vC P ds (k+1) a (by simpa using f) (λi b I j O=>by have:=step (i+1) b I (by simpa using j) (by rw[show k+(i+1)=k+1+i by omega];exact O);rw[show k+(i+1)+1=k+1+i+1 by omega]at this;exact this)
  refine⟨γ',?_,by rw[show k+(d::ds).length=k+1+ds.length by simp;omega];exact g⟩;rw[xt];cases eb:xC T d γ with
  | none=>rw[eb]at e;simp at e
  | some U=>
   rw[eb]at e;simp only[MW]at e ⊢;rcases e with e | e<;>rw[e]<;>exact z
noncomputable def zB(n:Nat)(f:Nat->Int):List D:=(MO n).map λi=>D.int<|f i
theorem jw(n f):zB n f=(MO n).map λi=>D.int (f i):=rfl
noncomputable def jc(h w:Nat)(f:UV):List D:=(MO h).map λi=>D.tup<|zB w<|f i
noncomputable def qN(h w:Nat)(f:UV):D:= .tup [.int h,.int w,.tup (jc h w f)]
@[simp] theorem KL(n f):(zB n f).length=n:=by simp[zB]
@[simp] theorem nV(h w f):(jc h w f).length=h:=by simp[jc]
@[simp] theorem Hu(f)(h:i<(zB n f).length):(zB n f)[i] = .int (f i):=by simp[zB]
theorem Zn(f)(h:i<n):(zB n f)[i]? = bQ (.int<|f i):=by simp[zB,h]
@[simp] theorem Hv(f)(C:i<(jc h w f).length):(jc h w f)[i] = .tup (zB w<|f i):=by simp[jc]
theorem Zo(h : ∀i,i<n->f i=g i):zB n f=zB n g:=by unfold zB;apply Nj;intro i a;rw[h i (MR.mp a)]
theorem aH(e : ∀i j,i<h->j<w->f i j=g i j):jc h w f=jc h w g:=by unfold jc;apply Nj;intro i a;rw[Zo λj z=>e i j (MR.mp a) z]
theorem j9(n:Nat):q8 0 n=zB n λi=>(i:Int):=by simp[q8,zB]
theorem Wz(n:Nat)(f g:Nat->Int):Jg (zB n f) (zB n g)=(MO n).map λi=>D.tup [.int (f i),.int (g i)]:=by unfold Jg zB;rw[Dl];simp
theorem lB(n w:Nat)(f g:UV):Jg (jc n w f) (jc n w g)=(MO n).map λi=>D.tup [.tup (zB w<|f i),.tup (zB w<|g i)]:=by unfold Jg jc;rw[Dl];simp
noncomputable def zg(f:Nat->Int):Nat->Int
 | 0=>0
 | n+1=>zg f n+f n
theorem JL : ∀(xs:List Int) (y:Int),bj (xs.map D.int++[.int y])=(bj<|xs.map D.int).map λs=>s+y
 | [],y=>by simp[bj]
 | x::xs,y=>by simp only[Nt,TR,bj];rw[JL xs y];cases e:bj (xs.map D.int)<;>simp[Int.add_assoc]
theorem JK(f:Nat->Int) : ∀n,bj (zB n f)=bQ (zg f n)
 | 0=>rfl
 | n+1=>by
  have z:=JK f n;have e : ∀m,zB m f=((MO m).map f).map D.int:=λm=>by simp[zB]
  rw[e]at z ⊢;rw[NT,NF,NF,List.map_singleton,List.map_singleton,JL,z];simp[zg]
noncomputable def kj:=jo 2<|jR<|ju<|js<|zU (zT<|zh 1) (.nm 0) 1 [0] jz (zK yv (zf 0)<|zf 1)
noncomputable def cP:=jo 3<|jR<|zE kj<|zb (zf 0)<|zb (qh<|zU (zT<|zG<|cq (zh 1)<|zy<|.int 2) (.nm 0) 1 [2] jz (Am<|js<|zU (K6 (zf 0)<|zf 1) (.tp [0,1]) 2 [] jz (zK yD (zf 0)<|zf 1))) zI
noncomputable def qB:=jo 2<|zR (jF 1<|qh<|zU (zS<|cq (zh 0)<|zy<|.int 1) (.nm 0) 1 [0] jz (ju<|js<|zU (zT<|zG<|cq (zh 1)<|zy<|.int 2) (.nm 0) 1 [0] jz (cq (zh 0)<|zf 1)))<|jR<|xH<|zb (cq (zh 0)<|zy<|.int 1)<|zb (cq (zh 0)<|zy<|.int 0)<|zb (ju<|zh 1) zI
noncomputable def k3:=jo 4<|zR (jF 3<|zE qB<|zb (zf 2) zI)<|jR<|xH<|zb (cq (zh 1)<|zy<|.int 0)<|zb (cq (zh 2)<|zy<|.int 1)<|zb (ju<|js<|zU (zT<|zG<|cq (zh 1)<|zy<|.int 2) (.nm 0) 1 [0,3] jz (zE cP<|zb (zf 1)<|zb (zf 2)<|zb (zf 0) zI)) zI
noncomputable def qX:=jo 2<|zR (jF 1<|qh<|zU (zS<|zf 0) (.nm 0) 1 [0] jz (ju<|js<|zU (zS<|zf 1) (.nm 0) 1 [0] jz (dU (sB<|zK gm (zf 1)<|zf 0) (zy<|.int 1)<|zy<|.int 0)))<|jR<|xH<|zb (zf 0)<|zb (zf 0)<|zb (ju<|zh 1) zI
noncomputable def jN:=jo 1<|jR<|cT (lr .int<|zf 0)<|EV<|lr .bool<|zf 0
noncomputable def Zx:=jo 3<|zR (yB (kg (zy<|.int 1)<|zf 0) (.nm 2)<|fy (sB<|zK gm (zK yv (zK yD (zf 1)<|zf 2)<|zf 0)<|zy<|.int 1) (v9 2) jU) Yw
noncomputable def xi:=jo 5<|zR (jF 4<|cq (zh 1)<|zf 3)<|zR (fy (sB<|zK gm (zf 4)<|zy<|.int 0) (v9 1) jU)<|jR<|zE kj<|zb (zf 0)<|zb (qh<|zU (K6 (zf 1)<|zf 2) (.tp [0,1]) 2 [4] jz (zK Xi (zf 0)<|zK yD (zf 2)<|zf 1)) zI
noncomputable def kf:=jo 9<|zR (jF 3<|qh<|zU (zT<|zh 2) (.nm 0) 1 [0] jz (zE kj<|zb (zf 1)<|zb (zf 0) zI))<|zR (xB 4<|j3 zI)<|zR (yB (zS<|zf 1) (.nm 5)<|zR (jF 6<|qh<|zU (zT<|zh 3) (.nm 0) 1 [5] (sB<|zK eK (cq (zh 0)<|zf 1)<|zy<|.int 0) (zf 0))<|zR (fy (jX<|sH<|zh 6) sN jU)<|zR (jF 7<|zE Zx<|zb (zf 0)<|zb (cq (zG<|cq (zh 6)<|zy<|.int 0)<|zf 5) zI)<|zR (jF 8<|zE kj<|zb (zf 0)<|zb (qh<|zU (zT<|zG<|cq (zh 6)<|zy<|.int 0) (.nm 0) 1 [7] jz (zK yD (zf 1)<|zf 0)) zI)<|zR (jF 3<|qh<|zU (zT<|zh 3) (.nm 0) 1 [0,5,8] jz (zE xi<|zb (zf 1)<|zb (zf 0)<|zb (zf 3)<|zb (zf 2) zI))<|xB 4<|Kf (js<|zU (zT<|zh 4) (.nm 0) 1 [0,5,8] jz (zE xi<|zb (zf 1)<|zb (zf 0)<|zb (zf 3)<|zb (zf 2) zI))<|js<|j3<|zb (zf 8) zI)<|v9 4
noncomputable def xk:=jo 2<|ZD<|zU (zT<|zh 1) (.nm 0) 1 [0] (jX<|sB<|An<|zG<|ma (zf 0) lq<|vu<|zf 1) (ma (zf 0) (vu<|zf 1) lq)
noncomputable def kJ:=jo 5<|zR (jF 3<|qh<|zU (K6 (cq (zG<|zE qB<|zb (zf 1) zI)<|zy<|.int 2)<|cq (zG<|zE qX<|zb (cq (zh 1)<|zy<|.int 1) zI)<|zy<|.int 2) (.tp [0,1]) 2 [] jz (zK qu (zf 0)<|zf 1))<|zR (jF 4<|qh<|zU (zT<|zh 2) (.nm 0) 1 [1] jz (zK qu (zf 0)<|zK yD (xH<|zb (zy<|.int 0) zI)<|cq (zh 1)<|zy<|.int 1))<|ZD<|jJ xk<|zb (cq (zh 1)<|zy<|.int 0)<|zb (qh<|jJ kf<|zb (zf 0)<|zb (zK qu (cq (zh 1)<|zy<|.int 0)<|cq (zh 1)<|zy<|.int 1)<|zb (qh<|Kf (zh 3)<|zh 4) zI) zI
noncomputable def vY:=jo 2<|ZD<|jJ kJ<|zb (zf 0)<|zb (zf 1)<|zb (qh<|j3 zI) zI
noncomputable def ZU:=jo 2<|ZD<|jJ kf<|zb (zf 0)<|zb (cq (zh 1)<|zy<|.int 0)<|zb (cq (zG<|zE qB<|zb (zf 1) zI)<|zy<|.int 2) zI
section
variable(γ:Ctx)
@[simp] noncomputable def Lu:=@MF.eq_1
@[simp] noncomputable def Iq:=@LZ.eq_1
@[simp] noncomputable def FK:=@IJ.eq_1
end
noncomputable def xh:=jo 1<|jR<|cq (js<|zU (mh<|zf 0) (.tp [0,1]) 2 [] (sB<|zK eK (zf 1)<|zy<|.int 0) (zf 0))<|zy<|.int 0
noncomputable def vW:=jo 7<|zR (jF 3<|cq (zh 1)<|zy<|.int 1)<|zR (xB 4<|dQ (js<|j3<|zb (zy<|.int 0) zI)<|zf 3)<|zR (yB (zT<|zG<|qh<|jJ kf<|zb (zf 0)<|zb (zK qu (zf 3)<|zy<|.int 1)<|zb (qh<|zU (K6 (cq (zh 1)<|zy<|.int 2)<|zf 2) (.tp [0,1]) 2 [] jz (zK qu (zf 0)<|xH<|zb (zf 1) zI)) zI) (.nm 5)<|zR (jF 6<|zE xh<|zb (zf 5) zI)<|zR (fy (sB<|zK gm (zf 6)<|zf 3) (jR<|zy .d7) jU)<|Xt 4 (zf 6)<|cq (zh 5)<|zf 3)<|jR<|ju<|zh 4
section
variable(γ:Ctx)
@[simp] noncomputable def Ij:=@mh.eq_1
@[simp] noncomputable def Lp:=@MC.eq_1
@[simp] noncomputable def Lq:=@MD.eq_1
@[simp] theorem FL(F G a b c):y8 F G a b c γ=(a γ).bind λx=>(b γ).bind λy=>((F x y).bind nz).bind λk=>if k=bX then (c γ).bind λz=>G y z else bQ (.bl cE):=rfl
@[simp] noncomputable def HR:=@wA.eq_1
end
noncomputable def k6:=jo 5<|zR (jF 2<|cq (zh 1)<|zy<|.int 0)<|zR (fy (sB<|zK eK (cq (zh 1)<|zy<|.int 1)<|zf 2) (jR<|zy .d7) jU)<|zR (jF 3<|cq (zG<|zE qX<|zb (zf 2) zI)<|zy<|.int 2)<|zR (jF 4<|qh<|jJ kf<|zb (zf 0)<|zb (zK qu (zf 2)<|zf 2)<|zb (qh<|zU (K6 (cq (zh 1)<|zy<|.int 2)<|zf 3) (.tp [0,1]) 2 [] jz (zK qu (zf 0)<|zf 1)) zI)<|zR (fy (sB<|zK eK (qh<|zU (zT<|zh 4) (.nm 0) 1 [2] jz (ma (zf 0) lq<|vu<|zf 1))<|qh<|Ke<|zh 3) (jR<|zy .d7) jU)<|jR<|xH<|zb (zf 2)<|zb (zf 2)<|zb (ju<|js<|zU (zT<|zh 4) (.nm 0) 1 [2] jz (ma (zf 0) (vu<|zf 1) lq)) zI
section
variable(γ:Ctx)
@[simp] noncomputable def FJ:=@II.eq_1
@[simp] noncomputable def EB:=@Gw.eq_1
@[simp] noncomputable def Lr:=@cS.eq_1
@[simp] noncomputable def Ii:=@LX.eq_1
@[simp] noncomputable def FD:=@IF.eq_1
end
@[simp] theorem ow(r):KR (bQ (.nest r))=bQ r:=rfl
section
variable(γ:Ctx)
@[simp] noncomputable def Zt:=@yA.eq_1
@[simp] noncomputable def Ia:=@xw.eq_1
@[simp] noncomputable def Im:=@LY.eq_1
@[simp] noncomputable def Ab:=@sJ.eq_1
end
noncomputable def Gu(f:CO D):CO D:=λa=>(f a).map λd=> .bl (aw .list d || aw .tuple d)
noncomputable def cQ:=jo 1<|jR<|cT (lr .int<|zf 0)<|EV<|lr .bool<|zf 0
noncomputable def Vz:=jo 2<|jR<|cT (zE cQ<|zb (zf 1) zI)<|y8 lp sG (zy<|.int 0) (zf 1)<|zf 0
noncomputable def Wx:=jo 2<|jR<|cT (Gu<|zf 0)<|zK gm (xY<|zh 0)<|zf 1
noncomputable def x9:=jo 1 (jR (sJ (zy (.str "")) (js (zU (zT (zG (cq (zh 0) (zy (.int 2))))) (.nm 0) 1 [] jz (cq (zh 0) (zy (.int 0)))))))
noncomputable def kH:=jo 2<|jR<|cT (zK gm (cq (zh 0)<|zy<|.int 0)<|cq (zh 1)<|zy<|.int 0)<|zK gm (zE x9<|zb (zf 0) zI)<|zE x9<|zb (zf 1) zI
noncomputable def qK:=jo 2<|fy (jX<|sB<|zE kH<|zb (zf 0)<|zb (zf 1) zI) Yw jU
noncomputable def wy:List D->Option Xn:=IL 2 (F9 (jX (sB (zE kH (zb (zf 0) (zb (zf 1) zI))))) (Aw "Unlike") Gs)
section
variable{X:Cx}{sc:fA}{N L:List Str}{k:Nat}{a e:dt}{es:List dt}{f:CO D}{g:CO (List D)}{pos p p2:fh}
theorem W1(O:PV X e f)(hs:r9 e none pos.line X.env=pure cE:=by rfl):kA X (.Expr e pos) (sM f):=yp (Kl O hs) λD k H U=>by obtain⟨E0,E,g,j,l,I,z,h⟩:=U;obtain⟨d,i,z⟩:=zF z;subst z;exact⟨g,j,d,I.rc,i,λv b a x r=>h k b a<|I.step x⟩
end
theorem ko(h:B9 X es n g):x4 X es g:=h.1
section
variable{K:MP}{E0 E H0 H:Hp}{σ:St}{γ:Ctx}
theorem dk.dropLast : ∀{ds:List D} {xs:List V},dk K H ds xs->dk K H ds.dropLast xs.dropLast
 | [],xs,r=>by rw[r.n0];exact dk.nil
 | [d],xs,r=>by obtain⟨x,b,e,_,a⟩:=r.l5;rw[e,a.n0];exact dk.nil
 | d::d2::ds,xs,r=>by obtain⟨x,b,e,z,a⟩:=r.l5;obtain⟨O,U,I,_,_⟩:=a.l5;subst e I;exact dk.cons z<|dk.dropLast a
end
section
variable{X:Cx}{sc:fA}{N L:List Str}{k:Nat}{a b e:dt}{pos p p2:fh}{f g:CO D}
theorem Xw{c:dt}{C:CO D}(J:PV X a C){O:CO (Sk×List D)}(S:PQ X c O)(Y:u7 .NotIn c=cE:=by with_unfolding_all rfl):l0 X (.Compare a [.NotIn] [c] pos) (sB<|yK C O):=
 VL (eQ YJ J S Y) λP H Q A=>by
  obtain⟨h,g,d,rc,z,q⟩:=A;obtain⟨G,n,w⟩:=zk z;obtain⟨x,o,z⟩:=zk n;obtain⟨⟨f,m⟩,s,z⟩:=zk z;obtain⟨i,t,z⟩:=zk z;obtain⟨l,u,rfl⟩:=zF z;cases w;refine⟨h,g,x,rc,o,λU F j x1 I=>⟨j,g,f,m,rc.ext x1,s,λp N b k E e M r=>?_⟩⟩;rw[jM t]at I;have y:=J9 r u;subst y;have B:eU X.K b p (l.map V.int)\/ft X.K b p (l.map V.int):=by
   cases f with
   | L=>exact .inl e
   | T=>exact .inr e
  refine⟨p,_,rfl,B,by rw[show U = .int i from I];rfl,Vi l,?_⟩;rw[show U = .int i from I,gC];exact⟨_,rfl,q b k<|x1.trans E⟩
end
end DL
namespace L2
open PySem PySem.Spec PyProof.Rows
theorem nU{X:Cx}{C:UQ}{σ:St}{H:Hp}{s:dy}{E:EQ}{z it:di}{i J:Nat}{x:dj}{v:V}{g:eg}{L:List dt}{x1:Nat}{S:fh}{Q:Unit->dy->Prop}
 (I:Inv X C σ H s) (Y : ∀b ∈ [z,it],Jd X C H b) (Z:z<s.heap.objs.size) (hi:it<s.heap.objs.size) (a1:N7 g z it ((i:Int)+1) x s.heap.objs.size)
 (a3:m7 g s.heap.objs.size (.int i J) x) (a5 : ∀b o,b≠z->b≠it->s.heap.get? b=bQ o->g.get? b=bQ o) (rx:RelV v x)
 (ac : ∀g2,sf g2 z it ((i+1:Nat):Int) x->RH z g g2->Inv X C σ (upd H s.heap.objs.size<|.tup [.int i,v]) {s with heap:=g2,toks:=J+1}->H s.heap.objs.size=none->
   (∀b ∈ [z,it],upd H s.heap.objs.size (.tup [.int i,v]) b=none)->Q () {s with heap:=g2,toks:=J+1}) :
 wpAny (d6 X.prog X.w) X.A (L4 (.Tuple L x1 S) (.ref z)<|.ref s.heap.objs.size) Q E {s with heap:=g,toks:=J+1}:=by
 refine _h a1 λg2 q5 a=>?_;have d:m7 g2 s.heap.objs.size (.int i J) x:=a.extBut _ _ (Pg Z) a3;have h : ∀O u,O ∉ [z,it]->s.heap.get? O=bQ u->g2.get? O=bQ u:=λO u U e=>by simp only[Nc,ND,or_false,not_or]at U;exact a.extBut _ _ U.1<|a5 O u U.1 U.2 e
 refine ac g2 (by have:=q5;rwa [show((i:Int)+1)=((i+1:Nat):Int)by omega]at this) a (I.T4 (fp:=[z,it]) h Y (MY _) ⟨by show 2<=ej;decide,[.int i J,x],.cons ⟨_,rfl⟩<|.cons rx .nil,⟨_,d,rfl,_,rfl⟩⟩) I.fresh λO U=>?_;have f:O≠s.heap.objs.size:=by
  simp only[Nc,ND,or_false]at U;rcases U with rfl | rfl
  ·exact NI Z
  ·exact NI hi
 rw[zV f];exact(Y O U).1
noncomputable def Iw(K:MP)(a:di):It:=
 ⟨λi H=>∃b,eU K H a b/\i<b.length,
  λi H x d=>∃p u,x = .ref p/\H p=none/\d=upd H p (.tup [.int i,u])/\(∀b,eU K H a b->b[i]? = bQ u),
  λi H=>∃b,eU K H a b/\b.length=i⟩
theorem aY{P:hG}{w:f9}{K:MP}{elts:List dt}{x1:Nat}{t9:fh}{z it a:di}(ae:z≠it) :
 Turn P w K (.Tuple elts x1 t9) (Iw K a) [z,it] z (λi h=>(∃a0,sf h z it i a0)/\h.IsListIter it a i) where
 mem:=by simp
 obj:=λi h ⟨⟨a0,O⟩,h1⟩ y hy=>by
  simp only[Nc,ND,or_false]at hy;rcases hy with rfl | rfl
  ·exact⟨_,O,λv q=>by cases q⟩
  ·obtain⟨o,e,c,d⟩:=h1
   exact⟨o,e,λv q=>by rw[d]at q;cases q⟩
 keep:=λi h h' ⟨⟨a0,O⟩,h1⟩ k=>⟨⟨a0,k z ⋯ _ O⟩,h1.at λo e=>k it ⋯ o e⟩
 item:=by
  rintro X rfl rfl rfl hc i pins s σ H E I hf ⟨⟨a0,O⟩,h1⟩ ⟨xs,a8,b7⟩;obtain⟨a9,ab,p1,z1⟩:=I.list a8;have hl:=p1.isList;have hx:xs[i]? = bQ xs[i]:=MS b7;have l1:=ab.length;have ap:a≠it:=λe=>by obtain⟨o,e1,U,_⟩:=hl;obtain⟨o2,e2,c2,_⟩:=h1;rw[e,e2]at e1;cases e1;rw[c2]at U;exact absurd U ⋯
  have bb:z≠a:=λe=>by obtain⟨o,e1,U,_⟩:=hl;have b5:s.heap.get? z=bQ _:=O;rw[e,e1]at b5;cases b5;exact absurd U ⋯
  have bc:it<s.heap.objs.size:=by obtain⟨o2,e2,_⟩:=h1;exact Nh e2
  have Dr:=Draws.list (prog:=X.prog) (w:=X.w) (A:=X.A.in1) (show X.A.in1.handled=none from I.ok.hd hc) it a ap a9.toArray;refine wpAny_pyNext_enum_itemD Dr O ⟨h1,hl⟩ (by simp;omega) ae (by simp;exact⟨ae,bb⟩) λx g tk hP a1 a2 a3 a4 a5=>⟨_,rfl,?_⟩;obtain⟨u1,bl,bm⟩:=ab.get hx;obtain rfl:u1=x:=by have:=hP;simp[bl]at this;exact this
  refine nU I hf (Nh O) bc a1 a3 a5 bm λg2 b1 b2 I1 br hn=>⟨.ref s.heap.objs.size,_,I1,rfl,⟨_,_,rfl,br,rfl,λc7 bv=>by rw[I.R5 bv a8];exact hx⟩,⟨⟨_,b1⟩,a2.1.at λo e=>b2.extBut _ _ ae.symm e⟩,hn⟩
 done:=by
  rintro X rfl rfl rfl hc i pins s σ H E I hf ⟨⟨a0,O⟩,h1⟩ ⟨xs,a8,hi⟩;obtain⟨a9,ab,p1,z1⟩:=I.list a8;have hl:=p1.isList;have l1:=ab.length;have ap:a≠it:=λe=>by obtain⟨o,e1,U,_⟩:=hl;obtain⟨o2,e2,c2,_⟩:=h1;rw[e,e2]at e1;cases e1;rw[c2]at U;exact absurd U ⋯
  have Dr:=Draws.list (prog:=X.prog) (w:=X.w) (A:=X.A.in1) (show X.A.in1.handled=none from I.ok.hd hc) it a ap a9.toArray;have en:a9.toArray.size=i:=by simp;omega
  rw[en]at Dr;refine wpAny_pyNext_enum_endD Dr O ⟨h1,hl⟩ λg hk=>⟨rfl,?_⟩;refine I.Dc (t':=s.toks) (fp:=[z,it]) (λb' u hb e=>?_) hf;simp only[Nc,ND,or_false,not_or]at hb;exact hk b' u hb.2 e
 self:=λ_ _ _ _ _ st h=>Zl st.1.choose_spec h
noncomputable def Ea(K:MP)(C:TA):TI:=λf H R=>C f H λd b=>∃a,d=[.ref a]/\(∃e,eU K b a e)/\R (Iw K a) b
section
variable{X:Cx}{e1:dt}{ta:TA}{p pos:fh}{elts:List dt}{x1:Nat}{t9:fh}
theorem mN(J:Gl X "enumerate")(L:X.mg "enumerate" = none)(C:PA X [e1] ta)
 (S:C1 "enumerate" = bQ (.type "enumerate")) (hs:el [e1] X.env=[(cE,dv e1 X.env)]:=by rfl) :
 PI X (.Tuple elts x1 t9) (.Call (.Name "enumerate" p) [e1] [] pos) (Ea X.K ta):=by
 intro b s n H R I h;refine DZ<|vy I J L S<|Ou (ea (C pos b s n H _ I h) λt d j=>?_) (by rw[hs];rfl) rfl;obtain⟨u,e,z,m,l⟩:=j;obtain⟨a,rfl,⟨x,f⟩,q⟩:=l;obtain⟨w,rfl,i⟩:=vf m;cases i;obtain⟨o,r,k,y⟩:=z.list f;refine call_enumerate_list k.isList λg b1 b2 b3 b4=>Zl (s:={d with heap:=g}) b1 ?_;refine⟨_,[d.heap.objs.size+1,d.heap.objs.size],_,_,e,rfl,z.kept (t':=d.toks) b4,aY<|Pg<|OR _,⟨⟨_,b1⟩,b2⟩,λc O=>?_,q⟩;have U:d.heap.objs.size<=c:=by
  simp only[Nc,ND,or_false]at O;rcases O with rfl | rfl
  ·exact NY _ _
  ·exact MY _
 exact z.C4 U<|z.eo.fresh U
end
end L2
namespace DL
open PySem PySem.Spec PyProof.Rows L2
theorem aV{K:MP}{H0 C:Hp}{a:di}{xs:List V}{ds:List D}(h:eU K C a xs)(r:dk K H0 ds xs):Walk K H0 C (Iw K a) (yV ds):=by
 have U:=r.length;have m:(yV ds).length=ds.length:=by simp[yV]
 refine⟨λi b s k=>?_,λb s=>?_,λi b x g s k y=>?_⟩
 ·exact⟨xs,s.seq h,by omega⟩
 ·exact⟨xs,s.seq h,by omega⟩
 ·obtain⟨p,u,rfl,z,rfl,I⟩:=y
  obtain⟨d,j,O⟩:=r.DN<|I xs<|s.seq h;refine⟨.tup [.int i,d],?_,λf l e=>⟨upd f p<|.tup [.int i,u],Ext.alloc e z _,?_⟩⟩
  ·unfold yV
   rw[NC,Pd ⋯,OA,j];rfl
  ·exact kh (ft.of zW)<|dk.cons (show V.int i = .int i from rfl)<|dk.cons ((O.mono l).mono (jm (jQ e z) _)) dk.nil
section
variable{X:Cx}{sc:fA}{N L:List Str}{k:Nat}{a b e:dt}{pos p p2:fh}{f fa fb:CO D}
theorem tN(h:SX X sc N L k)(c:vz sc "enumerate" = bX)(z:X.mg "enumerate" = none)(C:PV X a f)(hs:el [a] X.env=[(cE,dv a X.env)]:=by rfl) :
 g5 X (.Tuple elts x1 t9) (.Call (.Name "enumerate" p) [a] [] pos) (oO f):=
 YG (mN (h.gl c).1 z (jv C qR hs) boot_enumerate hs) λs H R U=>by
  obtain⟨g,m,n,rc,I,q⟩:=U;obtain⟨d,j,I⟩:=zk I;cases d with
  | lst o=>
   cases I;refine⟨g,m,_,rc,j,λv e b x r=>?_⟩;obtain⟨i,l,rfl,O,g2⟩:=fU r;exact⟨i,rfl,⟨l,x.sub.seq O⟩,q _ e b x<|aV O g2⟩
  | _=>cases I
end
end DL
namespace DL
open PySem L2 PyProof.Rows
open PySem.W (KasT kas_sort kas_asc kas_desc kas_tail3 kas_descPart kas_count kas_place kas_bin kas_rev)
noncomputable def Good{C:Type}(n:Nat)(P:C->Prop):KasT C->Prop
 | .ret a=>P a
 | .ask i j k=>i<n/\j<n/\∀b,Good n P<|k b
theorem Good.mono{C:Type}{n:Nat}{P z:C->Prop}(h : ∀a,P a->z a) : ∀{t:KasT C},Good n P t->Good n z t
 | .ret a,g=>h a g
 | .ask i j k,g=>⟨g.1,g.2.1,λb=>(g.2.2 b).mono h⟩
theorem Good.bind{C β:Type}{n:Nat}{P:C->Prop}{z:β->Prop}{f:C->KasT β}(I : ∀a,P a->Good n z (f a)) : ∀{t:KasT C},Good n P t->Good n z (t.bind f)
 | .ret a,g=>I a g
 | .ask i j k,g=>⟨g.1,g.2.1,λb=>(g.2.2 b).bind I⟩
theorem Good.run : ∀{t:KasT α},Good n P t->P (kF lt t)
 | .ret a,g=>g
 | .ask i j k,g=>(g.2.2 _).run
noncomputable def Pm(n:Nat)(p:Array Nat):Prop:=p.toList.Perm<|MO n
theorem Pm.lt(h:Pm n p)(C:0<n)(i:Nat):p.getD i 0<n:=by
 by_cases a:i<p.size
 ·have e:p.getD i 0=p[i]:=by simp[Array.getD,a]
  rw[e];exact MR.mp<|h.mem_iff.mp ⋯
 ·have e:p.getD i 0=0:=by simp[Array.getD,a]
  rw[e];exact C
theorem Pm.rev(h:Pm n p)(i j:Nat):Pm n (kas_rev p i j):=(Array.perm_iff_toList_perm.mp<|mirror_perm p i j _).trans h
theorem Pm.E'(h:Pm n p)(i j:Nat):Pm n (bubble p i j):=(Array.perm_iff_toList_perm.mp<|bubble_perm p i j).trans h
theorem KD(h:Pm n p)(C:0<n) : ∀f m,Good n (λ_=>True) (kas_asc p f m)
 | 0,m=>trivial
 | f+1,m=>⟨h.lt C _,h.lt C _,λb=>by
  cases b with
  | true=>exact trivial
  | false=>exact KD h C f<|m+1⟩
theorem Zm(C:0<n) : ∀f p m q,Pm n p->Good n (λr=>Pm n r.1) (kas_desc f p m q)
 | 0,p,m,q,h=>h
 | f+1,p,m,q,h=>⟨h.lt C _,h.lt C _,λb=>by
  cases b with
  | true=>
   show Good n _ (if q>0 then _ else _);split
   ·exact Zm C f _ _ _<|h.rev _ _
   ·exact Zm C f _ _ _ h
  | false=>exact⟨h.lt C _,h.lt C _,λd=>by
   cases d with
   | true=>exact h
   | false=>exact Zm C f _ _ _ h⟩⟩
theorem Va{n:Nat}(C:0<n)(m r:Nat){p:Array Nat}(h:Pm n p):Good n (λr=>Pm n r.2) (kas_tail3 m r p):=by unfold kas_tail3;refine Good.bind (P:=λ_=>True) (λa _=>?_)<|KD (h.rev _ _) C _ _;exact(show Pm n (kas_rev p 0 m)from h.rev _ _)
theorem Vd{n:Nat}(C:0<n)(m r:Nat){p:Array Nat}(h:Pm n p):Good n (λr=>Pm n r.2) (kas_descPart m r p):=
 (Zm C _ _ _ _ h).bind λa b=>by
   show Good n _ (if a.2.2>0 then _ else _);split
   ·exact Va C _ _<|Pm.rev b _ _
   ·exact Va C _ _ b
theorem cC{n:Nat}(C:0<n)(r:Nat){p:Array Nat}(h:Pm n p):Good n (λr=>Pm n r.2) (kas_count r p):=
 (KD h C _ _).bind λm _=>by
   show Good n _ (if (m==r)=bX then _ else if m>1 then _ else _);split
   ·exact h
   ·split
    ·exact⟨h.lt C _,h.lt C _,λc=>by
      cases c with
      | true=>exact h
      | false=>exact Vd C _ _<|h.rev _ _⟩
    ·exact Vd C _ _ h
theorem ZP(C:0<n)(h:Pm n p)(k:Nat) : ∀f l r,Good n (λ_=>True) (kas_place p k f l r)
 | 0,l,r=>trivial
 | f+1,l,r=>by
  show Good n _ (if l>=r then _ else _);split
  ·exact trivial
  ·exact⟨h.lt C _,h.lt C _,λc=>by
    cases c with
    | true=>exact ZP C h k f _ _
    | false=>exact ZP C h k f _ _⟩
theorem az{n:Nat}(C:0<n) : ∀f p k,Pm n p->Good n (Pm n) (kas_bin f p k)
 | 0,p,k,h=>h
 | f+1,p,k,h=>(ZP C h k k 0 k).bind λl _=>az C f _ _<|h.E' _ _
theorem Vb{n:Nat}(C:0<n):Good n (Pm n) (kas_sort n):=
 (cC C n<|show Pm n (Sg<|MO n)from List.Perm.refl _).bind λr z=>by
   show Good n _ (if r.1<n then _ else _);split
   ·exact az C _ _ _ z
   ·exact z
theorem xp(ps:List (Int×Int)):(kP ps).Perm (MO ps.length):=by
 unfold kP;split
 ·exact List.Perm.refl _
 ·exact(Vb ⋯).run
theorem jt(d:α) : ∀ds:List α,(MO ds.length).map (λi=>ds.getD i d)=ds:=λds=>by
 apply PX;intro i;by_cases a:i<ds.length
 ·simp[a]
 ·simp[a,Nat.not_lt.mp a]
end DL
namespace DL
open PySem PySem.Spec PyProof.Rows L2
open PySem.W (KasT kas_sort kas_ask kat_run kat_snds kat_lt kat_cons kat_no kat_yes kat_nil kat_go kat_one kat_kind KatTups KatGo)
theorem gJ(z : ∀i j C,i<n->j<n->C (lt i j) s->cmp i j C s) :
 ∀{t:KasT α},Good n P t->Q (kF lt t) s->t.kasWp cmp Q s
 | .ret _,_,q=>q
 | .ask i j k,g,q=>z i j _ g.1 g.2.1<|gJ z (g.2.2 _) q
noncomputable def H8(h:eg)(v:dj)(k l:Int):Prop:=∃x o a m t u,v = .ref x/\h.get? x=bQ o/\o.cls = .type "tuple"/\o.data = .seq a m/\a.toList=[.int k t,.int l u]
theorem H8.one(a:H8 h v k l):EL h v k:=by obtain⟨x,o,e,m,t,u,b,d,z,I,O⟩:=a;exact⟨x,o,e,m,t,b,d,z,I,by rw[<- Array.getElem?_toList,O];rfl⟩
section
variable{X:Cx}
theorem Yx{K:MP}{H:Hp}{ds:List D}{xs:List V}(r:dk K H ds xs) : ∀(o:List Nat),(∀i∈o,i<xs.length)->dk K H (o.map λi=>ds.getD i .d7) (o.map λi=>xs.getD i .d7)
 | [],_=>dk.nil
 | i::o,h=>by have a:=h i Nk;obtain⟨d,b,z⟩:=r.DN<|MS a;refine dk.cons ?_ (Yx r o λj I=>h j<|Np _ I);show Rep K H (ds.getD i .d7) (xs.getD i .d7);rw[MU,MU,MS a,b];exact z
end
end DL
namespace DL
open PySem PySem.Spec PyProof.Rows L2
theorem dc{H:Hp}{x:di}{o C:HO}:upd (upd H x o) x C=upd H x C:=by
 funext b;by_cases h:b=x
 ·subst h;rw[zW,zW]
 ·rw[zV h,zV h,zV h]
section
variable{X:Cx}{sc:fA}{N L:List Str}{k:Nat}{a:dt}{pos:fh}{f:CO (List D)}
theorem tH(i:Nat)(h:SX X sc N L k)(c:X0 sc N i x=bX)(Z:PO X a f)(hs:el [a] X.env=[(cE,dv a X.env)]:=by rfl)
 (C:DE (.Name x np) "extend" X.env (dv (.Name x np) X.env)=dv (.Name x np) X.env:=by rfl)
 (J:((n6 cpos<|starEach [a] X.env).all (λx=> !x.1) && (DF cpos<|keywordEach [] X.env).all (λx=>x.1.isSome)
   && decide ([a].length+([]:List qs).length+(if ([]:List qs).isEmpty then 0 else 1)<30))=bX:=by rfl)
 (S:(apos.endLine==cpos.line)=bX:=by rfl) (Y:r9 (.Call (.Attribute (.Name x np) "extend" apos) [a] [] cpos) none pos.line X.env=pure cE:=by rfl) :
 kA X (.Expr (.Call (.Attribute (.Name x np) "extend" apos) [a] [] cpos) pos) (dW i f):=
 yp (Kl (bJ Pq PySem.F.slot_list_extend PySem.F.type_list_extend fO (h.var c) (jv Z qR hs) C J S hs rfl) Y) λD M H w=>by
  obtain⟨E0,E,p,A,G,I,z,s⟩:=w;obtain⟨e,d,z⟩:=zk z;obtain⟨g,u,z⟩:=zk z;have d:=qW d;by_cases O:e.length+g.length<=lim
  ·rw[UJ O]at z;cases z
   obtain⟨l,xs,m,K,U,n⟩:=I.rc.own i e d;refine⟨_,m,.inl ⟨rfl,_,eU.of U⟩,p,A,g,I.rc,u,λb o B r x g1 g2 g3 j=>?_⟩;have y:xs.length+o.length<=ej:=by
    rw[n.length,j.length];have:lim<=ej:=by decide
    omega
   refine⟨l,b,xs,o,rfl,rfl,x.s1 _ _ U,g3,y,?_⟩;have t:=I.step x;exact s _ _ _<|t.rewrite (xs:=xs) d m<|(n.mono x.s0).append j
  ·rw[UY O]at z;cases z
end
theorem XJ : ∀{ds:List D} {C:List Int},Xg ds=bQ C->YY ds=bQ (C.map OZ)
 | [],C,e=>by cases e;rfl
 | d::ds,C,e=>by
  cases d with
  | int i=>
   obtain⟨l,a,z⟩:=zF e;subst z;show((CM<|.int i).bind λk=>(YY ds).map λr=>k::r)=_;rw[XJ a];rfl
  | _=>cases e
theorem Xv : ∀(ps acc:List (Key×V)),((acc++ps).map (·.1)).Nodup->mz acc ps=acc++ps
 | [],acc,_=>by simp[mz]
 | (k,v)::ps,acc,h=>by
  have d : ¬((acc.any λz=>decide<|z.1=k)=bX):=λq=>by obtain⟨z,a,b⟩:=TU.mp q;rw[NF,Nt]at h;have:=(List.nodup_append.mp h).2.2 z.1 (Nq.mpr ⟨z,a,rfl⟩) k ⋯;exact this<|of_decide_eq_true b
  show mz (cU acc k v) ps=_;rw[show cU acc k v=acc++[(k,v)]by unfold cU;rw[UY d]];rw[Xv ps (acc++[(k,v)]) (by simpa using h)];simp
theorem YR : ∀{C:List Int},C.Nodup->(C.map<|OZ (β:=Str)).Nodup
 | [],_=>by simp
 | n::C,h=>by simp only[Nt,Ro,Nq,OZ.injEq,exists_eq_right]at h ⊢;exact⟨h.1,YR h.2⟩
theorem KF{K:MP}{H:Hp}{i:Int} : ∀{ks vs:List D} {C:List Key} {xs:List V},YY ks=bQ C->C.length=xs.length->dk K H vs xs->
 (∀d,aB ks vs i=bQ d->∃v,WB (C.zip xs) (OZ i)=bQ v/\Rep K H d v)/\(aB ks vs i=none->WB (C.zip xs) (OZ i)=none)
 | [],vs,C,xs,e,l,r=>by cases e;exact⟨(λd q=>by cases q),λ_=>rfl⟩
 | k::ks,[],C,xs,e,l,r=>by rw[r.n0]at l ⊢;rw[List.length_eq_zero_iff.mp l];exact⟨(λd q=>by cases q),λ_=>rfl⟩
 | k::ks,v::vs,C,xs,e,l,r=>by
  obtain⟨I,a,g⟩:=zk e;obtain⟨O,h,m⟩:=zF g;subst m;obtain⟨x,U,rfl,o,p⟩:=r.l5;have f:=KF (i:=i) h (by simpa using l) p;have step:I≠OZ i->WB ((I::O).zip (x::U)) (OZ i)=WB (O.zip U) (OZ i):=λb=>by rw[Sf];simp[WB,Po,b]
  cases k with
  | int j=>
   cases a;by_cases z:j=i
   ·subst z
    refine⟨λd q=>⟨x,?_,?_⟩,λq=>?_⟩
    ·rw[Sf];exact X3 rfl
    ·have:v=d:=by simpa[aB]using q
     exact this ▸ o
    ·simp[aB]at q
   ·have b:(OZ j:Key)≠OZ i:=λq=>z (OZ.inj q)
    rw[step b];have n:aB (.int j::ks) (v::vs) i=aB ks vs i:=by simp[aB,z]
    rw[n];exact f
  | str y=>
   cases a;rw[step (λq=>by cases q)];exact f
  | _=>cases a
noncomputable def JT(F G J:D->D->Option D)(C L O S:CO D):CO D:=λa=>(C a).bind λx=>(L a).bind λy=>((F x y).bind nz).bind λb=>if b=bX then (O a).bind λz=>((G y z).bind nz).bind λI=>if I=bX then (S a).bind λw=>J z w else bQ (.bl cE)else bQ (.bl cE)
@[simp] theorem EE(F G J a b c d):JT F G J a b c d γ=(a γ).bind λx=>(b γ).bind λy=>((F x y).bind nz).bind λk=>if k=bX then (c γ).bind λz=>((G y z).bind nz).bind λC=>if C=bX then (d γ).bind λw=>J z w else bQ (.bl cE)else bQ (.bl cE):=rfl
noncomputable def xM(g:CO (Sk×List D))(C:CO D):CO D:=λb=>(g b).bind λa=>(C b).bind λx=>match a.1 with
 | .L=>if i4 x=bX/\m6 a.2=bX then bQ (.int (a.2.countP λd=>g9 d x:Nat))else none
 | .T=>none
noncomputable def rS(r C U:R2)(J L S Y:TE):TE:=λa H Q=>J a H λx e=>L a e λy f=>r x y f λz I=>∃k,z = .bl k/\
 (if k=bX then S a I λd g=>C y d g λj O=>∃b,j = .bl b/\(if b=bX then Y a O λi h=>U d i h Q else Q (.bl cE) O)else Q (.bl cE) I)
section
variable{X:Cx}{a b c d:dt}{ta tb tc td:TE}{pos:fh}
theorem eR{O U C:CmpOp}{r L J:R2}(ho:gB X (ml O) r)(Y:gB X (ml U) L)(Z:gB X (ml C) J)(ha:PE X a ta)(hb:PE X b tb)(hc:PE X c tc)(hd:PE X d td)
 (hm:R3 [O,U,C] [b,c,d]=cE:=by with_unfolding_all rfl):PT X (.Compare a [O,U,C] [b,c,d] pos) (AM<|rS r L J ta tb tc td):=by
 intro f s g H Q I h;refine isTrue_chain (ea (ha f s g H _ I h) λv s1 h1=>?_) hm;obtain⟨x,F,P,r1,q1⟩:=h1;refine test_link<|ea (hb f s1 g F _ P q1) λu s2 h2=>?_;obtain⟨y,G,R,w,q2⟩:=h2;refine ea (ho f s2 g G x y v u _ R r1 w q2) λdd s3 h3=>?_;obtain⟨z,l,n,r3,k,e,p⟩:=h3;subst e;cases r3;refine OF ?_;cases k with
 | false=>
  obtain⟨k',i,j⟩:=p;cases i;exact ite_ff ⟨l,n,j⟩
 | true=>
  refine ite_tt<|test_link<|ea (hc f s3 g l _ n p) λB s4 h4=>?_;obtain⟨E,K,S,A,q4⟩:=h4;refine ea (Y f s4 g K y E u B _ S w A q4) λd' s5 h5=>?_;obtain⟨z2,m,o,r5,k2,e2,t⟩:=h5;subst e2;cases r5;refine OF ?_;cases k2 with
  | false=>
   obtain⟨k',i,j⟩:=t;cases i;exact ite_ff ⟨m,o,j⟩
  | true=>
   refine ite_tt<|test_last<|ea (hd f s5 g m _ o t) λw3 s6 h6=>?_;obtain⟨z3,M,T,r6,q6⟩:=h6;refine ea (Z f s6 g M E z3 B w3 _ T A r6 q6) λd3 s7 h7=>?_;obtain⟨z4,N,W,r7,k4,e4,q7⟩:=h7;subst e4;cases r7;exact OF ⟨N,W,q7⟩
end
section
variable{X:Cx}{a b c d:dt}{pos:fh}{fa fb fc fd:CO D}
theorem bB{U C L:CmpOp}{r Y S:R2}{F G J:D->D->Option D}(ho:gB X (ml U) r)(as:gB X (ml C) Y)(ax:gB X (ml L) S)(s1:l9 X.K r F)(s2:l9 X.K Y G)(s3:l9 X.K S J)(ha:PV X a fa)(hb:PV X b fb)(hc:PV X c fc)(hd:PV X d fd)
 (hm:R3 [U,C,L] [b,c,d]=cE:=by with_unfolding_all rfl):l0 X (.Compare a [U,C,L] [b,c,d] pos) (sB<|JT F G J fa fb fc fd):=
 VL (eR ho as ax ha hb hc hd hm) λσ H Q hZ=>by
  obtain⟨m,g,kq,rc,b9,q0⟩:=hZ;obtain⟨p,I,e9⟩:=zk b9;have q : ∀v f e,Ext m H e f->Rep X.K e p v->∃k,v = .bl k/\Q k f:=λv f e x B=>by rw[vV e9]at B;exact⟨kq,B,q0 f e x⟩
  obtain⟨x,e1,I⟩:=zk I;obtain⟨y,e2,I⟩:=zk I;obtain⟨k,e3,I⟩:=zk I;obtain⟨bb,e4,e5⟩:=zk e3;refine⟨m,g,x,rc,e1,λv1 H1 br x1 r1=>⟨br,g,y,rc.ext x1,e2,λE P c0 O s=>s1 c0 P v1 E x y bb _ O.sub (r1.mono O.s0) s e4 λv3 R n x3 t=>?_⟩⟩;rw[vV e5]at t;refine⟨k,show v3 = .bl k from t,?_⟩;cases k with
  | false=>
   rw[UY ⋯];rw[UY ⋯]at I;cases I;exact q _ R n ((x1.trans O).trans x3) rfl
  | true=>
   rw[UJ rfl];rw[UJ rfl]at I;obtain⟨z,e6,I⟩:=zk I;obtain⟨i,e7,I⟩:=zk I;obtain⟨b2,e8,c6⟩:=zk e7;refine⟨n,g,z,((rc.ext x1).ext O).ext x3,e6,λM T c8 j u=>s2 c8 T E M y z b2 _ j.sub ((s.mono x3.s0).mono j.s0) u e8 λv5 W o N A=>?_⟩;rw[vV c6]at A;refine⟨i,show v5 = .bl i from A,?_⟩;have h:=((x1.trans O).trans x3).trans (j.trans N);cases i with
   | false=>
    rw[UY ⋯];rw[UY ⋯]at I;cases I;exact q _ W o h rfl
   | true=>
    rw[UJ rfl];rw[UJ rfl]at I;obtain⟨w,cb,cd⟩:=zk I;exact⟨o,g,w,rc.ext h,cb,λv6 Z ci l r6=>s3 ci Z M v6 z w p _ l.sub ((u.mono N.s0).mono l.s0) r6 cd λv7 H7 co x7 r7=>q v7 H7 co (h.trans<|l.trans x7) r7⟩
end
theorem bx(I:Inv X pins σ H s)(sub:eM H0 H)(O:eU X.K H p xs)(r:dk X.K H0 ds xs)(o:m6 ds=bX) : ∃z,Reads s.heap (.ref p) (.list<|nt ds) z:=by obtain⟨f,U,q,g⟩:=I.list O;obtain⟨h,d,a,n,b⟩:=q.isList;obtain⟨z,e⟩:=M4 I sub o r U;exact⟨_,.list d a b<|by simpa using e⟩
section
variable{X:Cx}{sc:fA}{N L:List Str}{k:Nat}{a b:dt}{pos:fh}{fa:CO D}{g:CO (Sk×List D)}
theorem SX._b(h:SX X sc N L k):X.A.units+66<yg:=by have:=h.room.un;omega
end
noncomputable def sY(K:MP):V->List V->Hp->VK->Prop:=λx g H Q=>∃a e v p f b,eM a H/\x = .ref p/\g=[v]/\Rep K a e v/\eU K H p f/\dk K a b f/\i4 e=bX/\m6 b=bX/\Q (.int (b.countP λd=>g9 d e:Nat)) H
theorem XS(hx:hX x=bX) : ∀ds:List D,m6 ds=bX->(nt ds).countP (λy=>Py y<|iA x)=ds.countP λd=>g9 d x
 | [],_=>by simp[nt]
 | d::ds,h=>by simp only[m6,Nb]at h;simp only[nt,SE];rw[I7 d x h.1 hx,XS hx ds h.2]
theorem fP(S:X.A.units+66<yg):Ol X "list.count" (sY X.K):=by
 intro k s Z H x W v T Q I G E h;obtain⟨L,a,y,p,Y,b,sub,rfl,rfl,u,o,w,z,O,q⟩:=h;cases G;obtain⟨J,rfl,rw⟩:=vf E;obtain⟨as,B⟩:=DS I sub (kU z) u rw;obtain⟨bs,C⟩:=bx I sub o w O;have P:=PySem.SeqAt.depth_of_shaped<|vi z;have U:=L1 b O;cases C with
 | list i l m j=>
  rename_i r g n M
  obtain⟨R,t,N,f⟩:=r;subst l m;refine Px F.slot_list_count ⟨_,i,rfl⟩ F.entry_list_count (F.args_list_count_2 _ _) (PySem.SeqAt.list_countAt p g n t f J<|λy=>Py (PySem.SeqAt.readOf s.heap y)<|iA a) ⟨i,PySem.SeqAt.items_eqAt j B U (R4 a<|kU z) ?_,?_⟩
  ·have:min (SI<|nt b) (iA a).depth<=(iA a).depth:=Nat.min_le_right _ _
   omega
  ·have e:g.toList.countP (λy=>Py (PySem.SeqAt.readOf s.heap y)<|iA a)=b.countP λd=>g9 d a:=by
    rw[<- XS (kU z) b O,<- PySem.SeqAt.readsAll_map _ _ _ U j,Rr];rfl
   rw[e];exact⟨.int _,H,I.tok _,⟨_,rfl⟩,q⟩
section
variable{X:Cx}{sc:fA}{N L:List Str}{k:Nat}{o e:dt}{apos cpos:fh}{fa:CO D}{g:CO (Sk×List D)}
theorem wR(h:SX X sc N L k)(Z:PQ X o g)(Y:PV X e fa)(C:DE o "count" X.env (dv o X.env)=dv o X.env:=by rfl)
 (J:((n6 cpos<|starEach [e] X.env).all (λx=> !x.1) && (DF cpos<|keywordEach [] X.env).all (λx=>x.1.isSome) && decide ([e].length+([]:List qs).length+(if ([]:List qs).isEmpty then 0 else 1)<30))=bX:=by rfl)
 (S:(apos.endLine==cpos.line)=bX:=by rfl) (hs:el [e] X.env=[(cE,dv e X.env)]:=by rfl):PV X (.Call (.Attribute o "count" apos) [e] [] cpos) (xM g fa):=
 qG (bJ Pq PySem.F.slot_list_count PySem.F.type_list_count (fP h._b) Z (jv Y qR hs) C J S hs rfl) λE H Q t=>by
  obtain⟨j,i,d,rc,z,q⟩:=t;obtain⟨⟨u,a⟩,s,z⟩:=zk z;obtain⟨x,n,z⟩:=zk z;cases u with
  | T=>cases z
  | L=>
   have z:(if i4 x=bX/\m6 a=bX then bQ (D.int (a.countP λd=>g9 d x:Nat))else none)=bQ d:=z;by_cases I:i4 x=bX/\m6 a=bX
   ·rw[UJ I]at z;cases z
    refine⟨j,i,.L,a,rc,s,λp f A m x1 b B r=>⟨.inl ⟨rfl,f,b⟩,m,i,x,rc.ext x1,n,λy l U O w=>?_⟩⟩;exact⟨U,x,y,p,f,a,O.sub,rfl,rfl,w,O.s1.seq b,r.mono O.s0,I.1,I.2,q _ l U (x1.trans O) rfl⟩
   ·rw[UY I]at z;cases z
end
noncomputable def EW(f:CO D)(γ:Ctx):Option (List D):=((f γ).bind ix).bind λn=>if inR n=bX/\n.toNat<=lim then bQ (q8 0 n.toNat)else none
@[simp] noncomputable def As:=@EW.eq_1
noncomputable def sO(i:Nat)(f:CO (List D)):CO (List D):=λb=>(qz b[i]?).bind λd=>(f<|b.set i<|.val<|.lst d).bind λa=>if a.all Wa=bX then bQ a else none
theorem wO{K:MP}{H:Hp} : ∀{ds:List D} {xs:List V} (j:Nat),dk K H ds xs->dk K H (ds.eraseIdx j) (xs.eraseIdx j)
 | [],xs,j,r=>by rw[r.n0];exact dk.nil
 | d::ds,xs,0,r=>by obtain⟨x,b,e,_,a⟩:=r.l5;subst e;exact a
 | d::ds,xs,j+1,r=>by obtain⟨x,b,e,z,a⟩:=r.l5;subst e;exact dk.cons z<|wO j a
end DL
namespace L2
open PySem PySem.Spec PyProof.Rows
theorem Xl : ∀{ks:List Int} {z:List dj},d9 (ks.map V.int) z->∀(i:Nat) (v:dj),z[i]? = bQ v->∃k t,ks[i]? = bQ k/\v = .int k t
 | [],_,.nil,i,v,h=>by cases h
 | k::ks,_,.cons h r,0,v,hv=>by obtain⟨t,e⟩:=h;cases hv;exact⟨k,t,rfl,e⟩
 | k::ks,_,.cons h r,i+1,v,hv=>Xl r i v hv
end L2
namespace DL
open PySem PySem.Spec PyProof.Rows L2
section
variable{X:Cx}{sc:fA}{N L:List Str}{k:Nat}{a:dt}{f:CO D}
theorem Vh{K:MP}{H H':Hp} : ∀{ds:List D} {xs:List V},dk K H ds xs->ds.all Wa=bX->dk K H' ds xs
 | [],xs,r,_=>by rw[r.n0];exact dk.nil
 | d::ds,xs,r,h=>by obtain⟨x,b,e,z,a⟩:=r.l5;rw[Tw,Nb]at h;subst e;exact dk.cons (nS z h.1)<|Vh a h.2
theorem eT(i j:Nat){st:iQ}{f:CO (List D)}(h:PS X st (WK (tO X.K f)<|vB i)):kA X st (jF i<|qh<|sO j f):=yp h λD L H u=>by
 obtain⟨E0,E,y,J,F,I,O,l⟩:=u;obtain⟨d,e,O⟩:=zF O;obtain⟨B,z,e⟩:=zF e;subst O e;obtain⟨C,o,z⟩:=zk z;obtain⟨m,p,z⟩:=zk z;by_cases U:m.all Wa=bX
 ·rw[UJ U]at z;cases z
  obtain⟨b,g,n⟩:=I.rc.lend<|qW o;exact⟨b,_,_,n,p,λa G w A x s k t r=>l _ _ _<|(I.step<|(nT g x).show s (kW (g.trans x.s0) k) t I.rc.sub).rr (Kj (eU.of zW)<|(Vh r U).mono (jm (kW (g.trans x.s0) k) _))⟩
 ·rw[UY U]at z;cases z
end
noncomputable def FR(ds C fs:List D):List D:=(ds.zip<|C.zip fs).map λp=>D.tup [p.1,p.2.1,p.2.2]
noncomputable def LS(f g h:CO D)(γ:Ctx):Option (List D):=((f γ).bind jj).bind λm=>((g γ).bind jj).bind λn=>((h γ).bind jj).map λo=>FR m.2 n.2 o.2
@[simp] noncomputable def HP:=@LS.eq_1
noncomputable def IG(f g:CO D)(γ:Ctx):Option (List D):=((f γ).bind jj).bind λm=>((g γ).bind jj).bind λn=>if m.2.length<=lim then bQ (Jg m.2 n.2)else none
@[simp] noncomputable def FE:=@IG.eq_1
theorem YV:N2 (.type "list") "keys" = pure none:=by rw[typeLookup_type,E_];kernel_rfl
theorem Xh:entryFor table "list.__getattribute__" = bQ n5.«object.__getattribute__» :=
 entryFor_alias (id':="object.__getattribute__") (by kernel_rfl) (by first | rfl | decide +kernel) ⋯ (by kernel_rfl)
section
variable{prog:hG}{w:f9}{A:l7}{E:EQ}{h:eg}{g:Array GenState}{d:Drawn}{t:Nat}{os:OsState}{a:di}{o:m5}
theorem J6(hx:h.get? a=bQ ⟨.type "list",none,.seq vs nk,sl⟩)(C:A.handled=none)
 (hE : ∀h' e t',(∀b u,h.get? b=bQ u->h'.get? b=bQ u)->(∃O,h'.get? e=bQ O/\O.cls = .type "AttributeError")->E (.ref e) ⟨h',g,d,t',os⟩) :
 wpAny (d6 prog w) A (n5.«object.__getattribute__» ⟨[.ref a,.str "keys" tk],[]⟩) Q E ⟨h,g,d,t,os⟩:=by
 have n:(⟨h,g,d,t,os⟩:dy).TypeIs (.ref a) "list":=⟨_,hx,rfl⟩;have k:=YV
 repeat (any_goals (first | assumption | wp_step))
 unfold raiseAttrError;have f:((NS (toString "'" ++ toString ((Manifest.find? "list").elim "list" λx=>x.tpName)++toString "' object has no attribute '")++NS "keys" ++ NS "'"):Str).length<=ej:=by decide +kernel
 generalize (NS (toString "'" ++ toString ((Manifest.find? "list").elim "list" λx=>x.tpName)++toString "' object has no attribute '")++NS "keys" ++ NS "'")=z at f ⊢;refine MQ (wpAny_mkStr (hx:=f) ?_);refine MQ ?_;unfold newExc newTuple;refine MQ (OG ?_ (by size_fits));refine MQ (m:=P4 _ _) (wpAny_of_eq (a:=Ox) (by first | rfl | (simp only[P4];rfl)) ?_);refine OG ?_ (by size_fits);simp only[NV];have I:((h.push {cls:= .type "tuple",data:= .seq #[.str z t]}).push {cls:= .type "AttributeError",data:= .fields (#[.ref h.objs.size,.none,.none,.none,.bool cE,.none]++S0 (.type "AttributeError") [.str z t])}).get? (h.objs.size+1) =
  bQ {cls:= .type "AttributeError",data:= .fields (#[.ref h.objs.size,.none,.none,.none,.bool cE,.none]++S0 (.type "AttributeError") [.str z t])}:=by heap_get
 have U : ∀b u,h.get? b=bQ u->((h.push {cls:= .type "tuple",data:= .seq #[.str z t]}).push {cls:= .type "AttributeError",data:= .fields (#[.ref h.objs.size,.none,.none,.none,.bool cE,.none]++S0 (.type "AttributeError") [.str z t])}).get? b=bQ u:=λb u e=>MT _ (MT _ e);have i:h.get? (h.objs.size+1)=none:=Heap.get?_none_of_le (D6 _);generalize ((h.push {cls:= .type "tuple",data:= .seq #[.str z t]}).push {cls:= .type "AttributeError",data:= .fields (#[.ref h.objs.size,.none,.none,.none,.bool cE,.none]++S0 (.type "AttributeError") [.str z t])})=h2 at I U ⊢;refine MQ (wpAny_mkText ?_);unfold noteAttr lacksNameAndObj;have j:(⟨h2,g,d,t+1+1,os⟩:dy).TypeIs (.ref (h.objs.size+1)) "AttributeError":=⟨_,I,rfl⟩;have l:isSubtype (.type "AttributeError") (.type "AttributeError")=pure bX:=by rw[isSubtype_type];kernel_rfl
 repeat (any_goals (first | assumption | with_reducible refine wpAny_loadPart_at I ?_ | with_reducible refine wpAny_load I ?_ | wp_step))
 refine wpAny_raiseNew_none C<|hE _ _ _ (λb u e=>?_) ⟨_,SQ _ I<|Obj.isFreed_of_fields<|Tz rfl _,Obj.cls_mapFields ..⟩;rw[Ow _ _ (λq=>by rw[<- q]at e;rw[i]at e;cases e)];exact U b u e
theorem Xc(hx:h.get? a=bQ ⟨.type "list",none,.seq vs nk,sl⟩)(I:A.handled=none)
 (O : ∀h' e t',(∀b u,h.get? b=bQ u->h'.get? b=bQ u)->(∃z,h'.get? e=bQ z/\z.cls = .type "AttributeError")->R (.error (.ref e)) ⟨h',g,d,t',os⟩) :
 codeAny (d6 prog w) A (.call (.builtin "list.__getattribute__") ⟨[.ref a,.str "keys" tk],[]⟩) R ⟨h,g,d,t,os⟩:=
 codeAny_call_builtin Ru.plain Xh (Ru.check _ _ _ _ _ _ _ _ (show(⟨h,g,d,t,os⟩:dy).TypeIs (.ref a) "list" from⟨_,hx,rfl⟩) (F.args_list_getattribute_2 _ _) (J6 hx I O))
theorem cf:N2 (.type "list") "__getattr__" = pure none:=by rw[typeLookup_type,E_];kernel_rfl
theorem fY(hx:h.get? a=bQ ⟨.type "list",none,.seq vs nk,sl⟩)(I:A.handled=none)
 (O : ∀h' t',(∀b u,h.get? b=bQ u->h'.get? b=bQ u)->Q none ⟨h',g,d,t',os⟩):wpAny (d6 prog w) A (getAttr? (.ref a) "keys") Q E ⟨h,g,d,t,os⟩:=by
 have o:(⟨h,g,d,t+1,os⟩:dy).TypeIs (.ref a) "list":=⟨_,hx,rfl⟩;have f2:=Ru.lookup;have l:=Ru.bind (.ref a);have m:=cf;have n:isSubtype (.type "AttributeError") (.type "AttributeError")=pure bX:=by rw[isSubtype_type];kernel_rfl
 unfold getAttr? getAttrBy? getAttrBy
 repeat (any_goals (first | assumption | wp_step))
 refine Xc (g:=g) (d:=d) (os:=os) hx I λh' e t' U z=>?_;obtain⟨i,z,f⟩:=z;have j:(⟨h',g,d,t',os⟩:dy).TypeIs (.ref e) "AttributeError":=⟨i,z,f⟩;have k:=O h' t' U;show wpAny _ _ (K_ _ _ _ _ _ _ _) _ _ _;unfold K_ hookOrError attributeErrorLeaves
 repeat (any_goals (first | assumption | wp_step))
end
noncomputable def wM:List D->Option (List D×List D)
 | []=>bQ ([],[])
 | d::r=>match d with
  | .tup a=>match a with
   | [k,v]=>(wM r).map λp=>(k::p.1,v::p.2)
   | _=>none
  | _=>none
noncomputable def oP(f:CO (List D))(γ:Ctx):Option D:=(f γ).bind λa=>(wM a).bind λp=>nZ p.1 p.2
@[simp] noncomputable def FI:=@oP.eq_1
noncomputable def EY(C I:CO D):CO D:=λa=>(C a).bind λd=>(I a).bind λk=>match d with
 | .i8 b e=>(ix k).bind λi=>aB b e i
 | _=>none
noncomputable def Bl(I C:CO D):CO D:=λa=>(I a).bind λk=>(C a).bind λd=>match d with
 | .i8 b e=>(ix k).map λi=> .bl (aB b e i).isSome
 | _=>none
section
variable{X:Cx}{pins:UQ}{σ:St}{A:l7}{R:Result->dy->Prop}{H0:Hp}{l it d:di}{ks:List Key}{ys xs:List V}
theorem cI(hh:A.handled=none)(hx:xs.length=ks.length)(hy:ys.length=ks.length)(hp : ∀(n:Nat) (h1:n<xs.length) (h2:n<ks.length) (h3:n<ys.length),∃p,xs[n] = .ref p/\ft X.K H0 p [kV ks[n],ys[n]])(S:H0 d=none)(Y:l≠d) : ∀(m n:Nat) (s:dy) (H:Hp) (C:List (Key×V)) (i:Int) (t:Tok),n+m=ks.length->
 Inv X pins σ H s->eM H0 H->H l=bQ (.lst xs)->s.heap.IsListIter it l n->Jd X pins H it->H d=bQ (.dK C)->C.length+m<=ej->
 (∀J,Inv X pins σ (upd H d<|.dK<|mz C<|(ks.zip ys).drop n) J->R (.ok<|.ret .none) J)->
 codeAny (d6 X.prog X.w) A (.builtin "dict.update.loop" ⟨[.ref d,.ref it,.int i t,.none],[]⟩) R s:=by
 intro m
 induction m with
 | zero=>
  intro n s H C i t hn I sub U st O a hz hR;obtain⟨z1,g,c,M,ll,h⟩:=I.vr U;refine codeAny_builtin vD ?_;unfold n5.«dict.update.loop»;have j:s.heap.IsList l g.toArray:=⟨_,h,rfl,_,rfl⟩;refine MQ<|wpAny_pyNext_list_end (s:=s) hh st j (by simp;omega) λh' eb=>?_;refine MQ<|Na ?_;have e0:upd H d (.dK<|mz C<|(ks.zip ys).drop n)=H:=by
   rw[List.drop_eq_nil_of_le (by simp;omega)];funext c;by_cases q:c=d
   ·rw[q,zW,a];rfl
   ·rw[zV q]
  rw[e0]at hR;exact Na (hR _<|I.Dc (t':=s.toks) (fp:=[it]) (λb o z e=>eb b o (by simpa using z) e)<|λb z=>by rw[Pf.mp z];exact O)
 | succ m ih=>
  intro n s H C i t hn I sub U st O a hz hR;obtain⟨z1,g,c,M,ll,h⟩:=I.vr U;have j:s.heap.IsList l g.toArray:=⟨_,h,rfl,_,rfl⟩;have Q:n<ks.length:=by omega
  obtain⟨p,ep,T⟩:=hp n ⋯ Q ⋯;obtain⟨u,hu,L⟩:=M.get (MS<|show n<xs.length by omega);rw[ep]at L;have eu:u = .ref p:=L;subst eu;refine codeAny_builtin vD ?_;unfold n5.«dict.update.loop»;refine MQ<|wpAny_pyNext_list_item (s:=s) st j (x:= .ref p) (by simpa using hu) λh' W sb=>?_;have f:=I.Dc (h':=h') (t':=s.toks) (fp:=[it]) (λb o z e=>(sb.2 b<|by simpa using z).trans e) (λb z=>by rw[Pf.mp z];exact O);obtain⟨ts,rt,⟨o,E,co,nn,Z⟩,zt⟩:=f.tuple<|my sub T;obtain⟨u1,r,rfl,bf,k⟩ : ∃u1 r,ts=u1::r/\RelV (kV ks[n]) u1/\d9 [ys[n]] r:=by
   cases rt with
   | cons q1 k=>exact⟨_,_,rfl,q1,k⟩
  obtain⟨u2,rfl,bi⟩:=vf k;have bl:({s with heap:=h'}:dy).TypeIs (.ref p) "tuple":=⟨_,E,co⟩;refine MQ (PK (MQ (wpAny_tryCatch ?_)));unfold Builtin.Dict.pairItems;refine MQ (Sx bl ?_);rw[UJ ⋯];refine MQ (Pp E Z (Na ?_));show wpAny _ _ (vk [u1,u2] (dictSet d u1 u2)) _ _ _;obtain⟨zz,bn,vs,y,dd⟩:=Hw f.eo a;have bv:vs.length<=ej:=by rw[<- y.length];exact zz
  have c0:(cU C ks[n] ys[n]).length<=ej:=by have:=J8 C ks[n] ys[n];omega
  refine PK<|wpAny_dictSet_pairs (hsz:=bv) (nI bf) dd λc1 B F=>?_;have he : ∃q,c1.get? d=bQ q:=let ⟨q,_,_,hq,_⟩:=B;⟨q,hq⟩;have N:=uJ (t':=s.toks+1) f (by rw[a];exact PH) F he<|Ek c0 bn (y.put ks[n] bi) B;have G:it≠d:=λq=>by have:=O.1;rw[q,a]at this;cases this
  refine Na ⟨vm _,ih (n+1) _ _ (cU C ks[n] ys[n]) (i+1) 0 ⋯ N (λc o e=>?_) (by rw[zV Y];exact U) (W.at λo q=>(F.2 it G).trans q) ⟨by rw[zV G];exact O.1,O.2⟩ zW (by have:=J8 C ks[n] ys[n];omega) λJ P=>hR J ?_⟩
  ·rw[zV (λq=>by rw[q,S]at e;cases e)];exact sub _ _ e
  ·have c6:n<(ks.zip ys).length:=by simp;omega
   have e1:(ks.zip ys).drop n=(ks[n],ys[n])::(ks.zip ys).drop (n+1):=by rw[Sn c6];simp
   have e2:upd (upd H d<|.dK<|cU C ks[n] ys[n]) d (.dK<|mz (cU C ks[n] ys[n])<|(ks.zip ys).drop (n+1))=upd H d (.dK<|mz C<|(ks.zip ys).drop n):=by
    funext c;by_cases q:c=d
    ·rw[q,zW,zW,e1];rfl
    ·rw[zV q,zV q,zV q]
   rw[<- e2];exact P
theorem cK(I:Inv X pins σ H s)(J:X.A.handled=none)(sub:eM H0 H)(z:H l=bQ (.lst xs))(hx:xs.length=ks.length)(Y:ys.length=ks.length)
 (S : ∀(n:Nat) (h1:n<xs.length) (h2:n<ks.length) (h3:n<ys.length),∃p,xs[n] = .ref p/\ft X.K H0 p [kV ks[n],ys[n]]) (Z:ks.length<=ej)
 (L : ∀C p,H p=none->Inv X pins σ (upd H p (.dK (mz [] (ks.zip ys)))) C->Q (.ref p) C):wpAny (d6 X.prog X.w) X.A (call (.type "dict") [.ref l]) Q X.xe s:=by
 have O:H s.heap.objs.size=none:=I.fresh;have y:H0 s.heap.objs.size=none:=jQ sub O;have j:l≠s.heap.objs.size:=λq=>by rw[q,O]at z;cases z
 refine callType_codes (Q₁:=λobj f=>obj = .ref s.heap.objs.size/\f = {s with heap:=s.heap.push {cls:= .type "dict",data:= .dict #[]}}) F.kt_called_dict (F.kt_typeCall_dict_1 _) F.entry_dict_init (kt_code_dict_new _ ⟨rfl,rfl⟩) ?_;rintro obj f ⟨rfl,rfl⟩;have u:=I.laid (a:=s.heap.objs.size) (o:= .dK []) (t':=s.toks) (λ_ _ q=>MT {cls:= .type "dict",data:= .dict #[]} q) (MY _) (nX s.heap I.big);have m:({s with heap:=s.heap.push {cls:= .type "dict",data:= .dict #[]}}:dy).TypeIs (.ref s.heap.objs.size) "dict":=⟨_,Nm _ rfl,rfl⟩;obtain⟨R,r,c,P,N,E⟩:=I.vr z;have U:(s.heap.push {cls:= .type "dict",data:= .dict #[]}).get? l=bQ {cls:= .type "list",data:= .seq r.toArray c}:=MT _ E;refine⟨m,F.args_dict_init_2 _ _,?_⟩;unfold n5.«dict.__init__»;refine MQ ?_;unfold Builtin.Dict.selfAndRest;refine MQ (wpAny_notOrdered_dict m ?_);show wpAny _ _ (pure (s.heap.objs.size,[OK l])) _ _ _;refine Na ?_;show wpAny _ _ (Builtin.Dict.updateFrom "dict.__init__" s.heap.objs.size (.ref l) [] .none) _ _ _;unfold Builtin.Dict.updateFrom;refine MQ (Sx (T:="list") ⟨_,U,rfl⟩ ?_);rw[UJ ⋯];refine MQ (fY (g:=s.gens) (d:=s.drawn) (t:=s.toks) (os:=s.os) U (show X.A.in1.in1.handled=none from J) λh' t' k=>?_);have h:Inv X pins σ (upd H s.heap.objs.size (.dK [])) {s with heap:=h',toks:=t'}:=u.kept k;have B:=k _ _ U;simp only[Option.isNone_none,if_true];refine MQ (Si (MQ (Ug (items:=r.toArray) ⟨_,B,rfl,_,rfl⟩ ?_)));refine Na ⟨vm _,?_⟩;have x:=h.kept (h':=h'.push {cls:= .type "list_iterator",data:= .fields #[.ref l,.int 0 0]}) (t':=t') λb o e=>MT _ e;have M:s.heap.objs.size<h'.objs.size:=by have:=Nh (k _ _ (Nm s.heap (o:={cls:= .type "dict",data:= .dict #[]}) rfl));exact this
 have G:=h.C4 (b:=h'.objs.size) (H':=upd H s.heap.objs.size<|.dK []) (MY _) h.fresh;refine cI (H0:=H0) (l:=l) (it:=h'.objs.size) (ks:=ks) (ys:=ys) (xs:=xs) (show X.A.in1.handled=none from J) hx Y S y j ks.length 0 _ (upd H s.heap.objs.size<|.dK []) [] 0 0 (OO _) x (sub.trans<|jm O _) (by rw[zV j];exact z) ⟨_,Nm _ rfl,rfl,rfl⟩ G zW (by simpa using Z) λC i=>?_;rw[dc,List.drop_zero]at i;exact⟨rfl,L C _ O i⟩
end
theorem Yc : ∀{ps ks vs:List D},wM ps=bQ (ks,vs)->ks.length=ps.length/\vs.length=ps.length
 | [],ks,vs,h=>by cases h;exact⟨rfl,rfl⟩
 | d::r,ks,vs,h=>by
  unfold wM at h;split at h
  ·split at h
   ·obtain⟨⟨a,b⟩,e,z⟩:=zF h
    cases z;obtain⟨I,O⟩:=Yc e;exact⟨by simp[I],by simp[O]⟩
   ·cases h
  ·cases h
theorem Xm{K:MP}{H:Hp} : ∀{ps ks vs:List D} {xs:List V} {C:List Int},wM ps=bQ (ks,vs)->dk K H ps xs->Xg ks=bQ C->
 ∃ys,dk K H vs ys/\ys.length=C.length/\xs.length=C.length/\∀(n:Nat) (J:n<xs.length) (L:n<C.length) (z:n<ys.length),∃p,xs[n] = .ref p/\ft K H p [.int C[n],ys[n]]
 | [],ks,vs,xs,C,h,r,hi=>by cases h;cases hi;rw[r.n0];exact⟨[],dk.nil,rfl,rfl,λn J=>by cases J⟩
 | d::ps,ks,vs,xs,C,h,r,hi=>by
  unfold wM at h;split at h
  ·split at h
   ·rename_i k v
    obtain⟨⟨a,b⟩,e,I⟩:=zF h;cases I;obtain⟨x,B,rfl,J,L⟩:=r.l5;cases k with
    | int j=>
     obtain⟨A,O,U⟩:=zF hi;subst U;obtain⟨ys,o,s,t,u⟩:=Xm e L O;obtain⟨q,G,rfl,z,f⟩:=vg J;obtain⟨E,F,rfl,g,i⟩:=f.l5;obtain⟨w,y,rfl,l,m⟩:=i.l5;rw[m.n0,jA g]at z;refine⟨w::ys,dk.cons l o,by simp[s],by simp[t],λn g1 g2 g3=>?_⟩;cases n with
     | zero=>exact⟨q,rfl,z⟩
     | succ n=>exact u n (by simpa using g1) (by simpa using g2) (by simpa using g3)
    | _=>cases hi
   ·cases h
  ·cases h
section
variable{X:Cx}{sc:fA}{N L:List Str}{k:Nat}{a o i:dt}{f:CO (List D)}{fd fk:CO D}{p pos:fh}
theorem mw(h:SX X sc N L k)(J:vz sc "dict" = bX)(zd:X.mg "dict" = none)(S:PO X a f)(hs:el [a] X.env=[(cE,dv a X.env)]:=by rfl) :
 PV X (.Call (.Name "dict" p) [a] [] pos) (oP f):=by
 intro g s σ H Q I o;obtain⟨H0,γ,d,rc,z,q⟩:=o;obtain⟨B,F,z⟩:=zk z;obtain⟨⟨b,j⟩,x,z⟩:=zk z;have R:X.A.handled=none:=I.ok.hd h.calm;unfold nZ at z;cases hi:Xg b with
 | none=>rw[show(b,j).1=b from rfl,hi]at z;cases z
 | some e=>
  rw[show(b,j).1=b from rfl,hi]at z;dsimp only at z;by_cases r:b.length=j.length/\e.Nodup/\b.length<=lim
  ·rw[UJ r]at z
   cases z;refine DZ<|vy I (h.gl J).1 zd PyProof.Rows.boot_dict (Ou ?_ (by rw[hs];rfl) rfl);rw[hs];show wpAny _ _ (M6 ((cE,dv a X.env)::[])) _ _ s;refine Sa<|ea (S g s σ H (λv i=>∃l xs O,v = .ref l/\Ext H0 H O i/\O l=none/\i l=bQ (.lst xs)/\dk X.K O B xs) I ⟨H0,γ,B,rc,F,λl xs i O x1 g1 g2 g3 U=>⟨l,xs,O,rfl,x1,g2,g3,U⟩⟩) λv s1 o=>?_;obtain⟨y,i,C,ry,l,xs,O,rfl,x1,g2,g3,U⟩:=o;cases ry;refine TF ?_;obtain⟨ys,T,W,Y,Z⟩:=Xm x U hi;have u:(e.map<|OZ (β:=Str)).length=e.length:=by simp
   have nl:e.length=b.length:=by have:=(Yc x).1;have:=U.length;omega
   refine cK (H0:=O) (ks:=e.map OZ) (ys:=ys) (xs:=xs) C R x1.sub g3 (by rw[u];exact Y) (by rw[u];exact W) (λn G M P=>?_) ?_ λs' p m w=>?_
   ·obtain⟨t,t1,t2⟩:=Z n G (by simpa using M) P
    refine⟨t,t1,?_⟩;simpa[kV]using t2
   ·have:lim<=ej:=by decide
    rw[u];omega
   ·have E:mz [] ((e.map<|OZ (β:=Str)).zip ys)=(e.map OZ).zip ys:=by
     rw[Xv _ []]
     ·simp
     ·rw[RQ,List.map_fst_zip ⋯]
      exact YR r.2.1
    rw[E]at w;exact⟨.ref p,_,w,rfl,q (.ref p) _ _ ((x1.trans<|Ext.hide x1.sub m _).show (kW x1.s1 m) (jQ x1.sub m) zW rc.sub)
     (show ∃a xs,V.ref p = .ref a/\Df (upd O p _) a b xs/\dk X.K (upd O p _) j xs from⟨p,ys,rfl,⟨_,XJ hi,by omega,zW⟩,T.mono<|jm (jQ x1.sub m) _⟩)⟩
  ·rw[UY r]at z;cases z
theorem BE(h:SX X sc N L k)(S:PV X o fd)(J:PV X i fk)(hs:Iv i:=by intro _ _;rfl):PV X (.Subscript o i pos) (EY fd fk):=
 qG (tU (by have:=h.DW;omega) S J hs) λT H Q C=>by
  obtain⟨g,f,d,rc,z,q⟩:=C;obtain⟨s,t,z⟩:=zk z;obtain⟨P,u,z⟩:=zk z;cases s with
  | i8 F G=>
   obtain⟨j,w,A⟩:=zk z;refine⟨g,f,_,rc,t,λv M I x r=>⟨I,f,_,rc.ext x,u,λy l m O e=>?_⟩⟩;obtain⟨ad,b,rfl,⟨R,g1,g2,g3⟩,B⟩:=(show ∃a b,v = .ref a/\Df I a F b/\dk X.K I G b from r);rw[jM w]at e;have E:y = .int j:=e;obtain⟨U,n,p⟩:=(KF (i:=j) g1 g2<|B.mono O.s0).1 d A;refine⟨ad,U,rfl,?_,q U l m (x.trans O) p⟩;rw[E,<- n];exact .inl ⟨_,OZ j,.inl<|O.s1 _ _<|x.sub _ _ g3,rfl,rfl⟩
  | _=>cases z
theorem tq(h:SX X sc N L k)(S:PV X i fk)(Z:PV X o fd)(Y:u7 .In o=cE:=by with_unfolding_all rfl):l0 X (.Compare i [.In] [o] pos) (sB<|Bl fk fd):=
 VL (BJ (Ce (by have:=h.DW;omega) S Z) Y) λσ H Q P=>by
  obtain⟨n,m,b,rc,z,q⟩:=P;obtain⟨db,B,J⟩:=zk z;obtain⟨k1,C,z⟩:=zk B;obtain⟨w,E,z⟩:=zk z;cases w with
  | i8 g l=>
   obtain⟨j,F,G⟩:=zF z;subst G;cases J;refine⟨n,m,_,rc,C,λy T p x U=>⟨p,m,_,rc.ext x,E,λv e I O r=>?_⟩⟩;obtain⟨ad,d,rfl,⟨kk,g1,g2,g3⟩,M⟩:=(show ∃a d,v = .ref a/\Df I a g d/\dk X.K I l d from r);rw[jM F]at U;have f:y = .int j:=U;obtain⟨s,t⟩:=KF (i:=j) g1 g2 M;cases hv:aB g l j with
   | none=>
    refine⟨ad,none,rfl,?_,_,rfl,?_⟩
    ·rw[f,<- t hv]
     exact .inl ⟨_,OZ j,.inl<|O.sub _ _ g3,rfl,rfl⟩
    ·rw[hv]at q;exact q e I<|x.trans O
   | some A=>
    obtain⟨R,u,W⟩:=s A hv;refine⟨ad,bQ R,rfl,?_,_,rfl,?_⟩
    ·rw[f,<- u]
     exact .inl ⟨_,OZ j,.inl<|O.sub _ _ g3,rfl,rfl⟩
    ·rw[hv]at q;exact q e I<|x.trans O
  | _=>cases z
end
noncomputable def Hh:D->Option (List Int)
 | .tup a=>Xg a
 | _=>none
noncomputable def CD:List D->Option (List<|List Int)
 | []=>bQ []
 | d::ds=>(Hh d).bind λk=>(CD ds).map λr=>k::r
noncomputable def IH(f:CO (List D))(γ:Ctx):Option D:=(f γ).bind λb=>(wM b).bind λp=>(CD p.1).bind λa=>if a.Nodup/\a.length<=lim then bQ (.i0 a p.2)else none
noncomputable def Ho:List (List Int)->List D->List Int->Option D
 | k::ks,v::vs,i=>if k=i then bQ v else Ho ks vs i
 | _,_,_=>none
noncomputable def Gy(C I:CO D)(γ:Ctx):Option D:=(C γ).bind λd=>(I γ).bind λk=>match d with
 | .i0 a b=>(Hh k).bind λi=>Ho a b i
 | _=>none
noncomputable def Hn(d k x:D):Option D:=match d with
 | .i0 a b=>(Hh k).map λi=>(Ho a b i).getD x
 | _=>none
noncomputable def sL(C I fx:CO D)(γ:Ctx):Option D:=(C γ).bind λd=>(I γ).bind λk=>(fx γ).bind λx=>Hn d k x
noncomputable def LV(f:CO D)(γ:Ctx):Option (List D):=(f γ).bind λd=>match d with
 | .i0 a _=>bQ (a.map λk=> .tup (k.map .int))
 | _=>none
section
variable(γ:Ctx)
@[simp] noncomputable def FH:=@IH.eq_1
@[simp] noncomputable def Il:=@Gy.eq_1
@[simp] noncomputable def Ih:=@sL.eq_1
@[simp] noncomputable def Ib:=@LV.eq_1
end
noncomputable def IX:List (List Int)->List Int->List Int->Option Int
 | k::ks,n::ns,i=>if k=i then bQ n else IX ks ns i
 | _,_,_=>none
noncomputable def eqT(ks:List (List Int))(C:List Int)(z:List (List Int))(I:List Int):Bool:=decide (ks.length=z.length) && (ks.zip C).all λx=>decide<|IX z I x.1=bQ x.2
noncomputable def La(d e:D):Option Bool:=match d with
 | .i0 a f=>match e with
  | .i0 z I=>(Xg f).bind λb=>(Xg I).map λO=>eqT a b z O
  | _=>none
 | _=>none
@[simp] noncomputable def MN(d e:D):Option D:=(La d e).map D.bl
@[simp] noncomputable def MM(d e:D):Option D:=(La d e).map λb=>D.bl<|!b
noncomputable def LU(f:CO D)(γ:Ctx):Option D:=(f γ).bind λd=>match d with
 | .i0 a _=>bQ (.int a.length)
 | _=>none
@[simp] noncomputable def HZ:=@LU.eq_1
abbrev TT:=List (List (List Int))
inductive Pl where
 | out | tab (k:Nat) | row (k m:Nat)
deriving DecidableEq
section
variable{K:MP}{al:List (Nat×Pl)}{E0 E H0 H u0 H':Hp}{σ _j:St}{γ γ':Ctx}{Z:TT}{ad:Pl->di}
open Classical in
end
open Classical in
section
variable{H:Hp}{Z:TT}{ad:Pl->di}
end
end DL
namespace DL
open PySem PySem.Spec PyProof.Rows L2
open PySem.W (KasT kas_sort kas_ask kat_run kat_snds kat_lt kat_cons kat_no kat_yes kat_nil kat_go kat_one kat_kind KatTups KatGo)
section
variable{prog:hG}{w:f9}{A:l7}{E:EQ}{s:dy}
theorem au{a kS:di}{I:List dj}{out:List dj}{e C:Nat}{P:PySem.Fin->dy->Prop}{st:SortSt}(O:s.heap.get? kS=bQ (h8 "list" I.toArray e))(S:s.heap.get? a=bQ (h8 "list" #[] C))(U:kS≠a)(J:I.length<=ej)(L:out.length<=ej)
 (Z:(arrOf st).map (·.2)=out.toArray) (Y:failedOf st=none)
 (h : ∀h' c,h'.objs.size=s.heap.objs.size->(∀b o,b≠a->b≠kS->s.heap.get? b=bQ o->h'.get? b=bQ o)->h'.get? a=bQ (h8 "list" out.toArray c)->P (.done (.ret .none)) {s with heap:=h'}) :
 wpAny (d6 prog w) A (ksk_tail a cE C (.ref kS) st) P E s:=by
 unfold ksk_tail;refine MQ (TZ O rfl ?_ (by rw[MZ];exact J) (OD _));refine MQ (TL ?_);have z:(s.heap.update kS (Ot λ_=>(#[]:Array dj))).get? a=bQ (h8 "list" #[] C):=(Ow _ _ U).trans S;refine MQ (seqEpoch_at z rfl ?_);simp only[OI,if_false];rw[Z];refine MQ (TZ z rfl ?_ (OD _) (by show out.toArray.size<=_;rw[MZ];exact Nat.le_succ_of_le L));rw[Y];simp only[bne_self_eq_false,OI,if_false];obtain⟨c,g⟩ : ∃c,((s.heap.update kS (Ot λ_=>(#[]:Array dj))).update a (Ot λ_=>out.toArray)).get? a=bQ (h8 "list" out.toArray c):=⟨_,get?_update_seq z λ_=>out.toArray⟩;refine Na (h _ c (by rw[SH,SH]) (λb o d f q=>?_) g);exact(Ow _ _ (Oa d)).trans ((Ow _ _ (Oa f)).trans q)
theorem uo{a kS:di}{vs z:List dj}{ps:List (Int×Int)}{e J:Nat}{P:PySem.Fin->dy->Prop}(hk:s.heap.get? kS=bQ (h8 "list" z.toArray e))(ha:s.heap.get? a=bQ (h8 "list" #[] J))(Z:kS≠a)(ab:z.length=vs.length)(L:ps.length=vs.length)(as:vs.length<64)
 (S : ∀i (Y:i<z.length),H8 s.heap z[i] (ps.getD i (0,0)).1 (ps.getD i (0,0)).2)
 (h : ∀h' c,h'.objs.size=s.heap.objs.size->(∀b o,b≠a->b≠kS->s.heap.get? b=bQ o->h'.get? b=bQ o)->h'.get? a=bQ (h8 "list" (Sg ((kP ps).map λi=>vs.getD i Ox)) c)->P (.done (.ret .none)) {s with heap:=h'}) :
 wpAny (d6 prog w) A (ksk_end a cE vs.toArray J (.ref kS) z.toArray) P E s:=by
 have hz:vs.length<=ej:=by rw[RL];omega
 have n:vs.toArray.size=vs.length:=by simp
 have c2:((kP ps).map λi=>vs.getD i Ox).length=vs.length:=by rw[Nf,(xp ps).length_eq,Nu,L]
 have step : ∀t:Sem PySem.Fin,wpAny (d6 prog w) A t P E s->wpAny (d6 prog w) A (if cE=bX then (do let _ <- rule "list.sort.reverse";t)else t) P E s:=λt ht=>ht;unfold ksk_end
 try dsimp only
 refine step _ ?_;by_cases g:vs.toArray.size<2
 ·rw[UJ g,UJ g]
  refine MQ<|Na ?_;rw[StateT.run_pure];refine MQ<|Na ?_;dsimp only;have ev:(kP ps).map (λi=>vs.getD i Ox)=vs:=by unfold kP;rw[UJ ⋯,L];exact jt _ _
  have e7:Array.map (λx=>x.snd) (arrOf<|SortSt.mk' general' (z.toArray.zip vs.toArray) #[] 7 none)=((kP ps).map (λi=>vs.getD i Ox)).toArray:=by show Array.map (λx=>x.snd) (z.toArray.zip vs.toArray)=_;rw[ev];apply Array.ext';simp[Array.toList_map,Array.toList_zip];rw[List.map_snd_zip ⋯]
  exact au hk ha Z ⋯ ⋯ e7 rfl h
 ·rw[UY g,UY g]
  have n2:2<=vs.length:=by rw[<- n];omega
  obtain⟨fs,f1,f2,f3⟩:=pC (ks:=λi=>(ps.getD i (0,0)).1) λi Y=>(S i Y).one;refine MQ (kat_kind (T:=SK "int") f1 ⋯ (λv hv=>?_) ⋯ ?_)
  ·obtain⟨k,t,rfl⟩:=f3 v hv
   exact PySem.W.Looks.of_pure rfl
  have ep:(kF (λi j=>Zh (ps.getD i (0,0))<|ps.getD j (0,0))<|kas_sort vs.length).toList=kP ps:=by unfold kP;rw[UY ⋯,L]
  refine MQ (Pj (kat_run (E:=E) (ks:=z) (Q:=λf d=>∃p:Array Nat,arrOf f=p.map (PySem.W.kas_item<|z.toArray.zip vs.toArray)/\failedOf f=none/\p.toList=kP ps/\d=s)
   (G:=λp d=>p.toList=kP ps/\d=s)
   ab n2 as (λp f d a1 N R r=>⟨p,N,R,r.1,r.2⟩) (gJ (lt:=λi j=>Zh (ps.getD i (0,0))<|ps.getD j (0,0)) (λi j C Y hj I=>?_) (Vb ⋯) ⟨ep,rfl⟩)) ?_ λ_ _ e=>e)
  ·show wpAny _ _ (keyLt' _ (z.getD i Ox)<|z.getD j Ox) C _ _
   have B:i<z.length:=by omega
   have F:j<z.length:=by omega
   rw[show z.getD i Ox=z[i]by simp[B],show z.getD j Ox=z[j]by simp[F]];obtain⟨x,ox,xs,m,t,u,J,e2,e3,e4,M⟩:=S i B;obtain⟨y,oy,ys,m',t',u',d1,d2,d3,d4,K⟩:=S j F;rw[J,d1];refine kat_lt e2 e4 d2 d4 ?_;have X:xs.size=2:=by rw[<- OU,M];rfl
   have bn:ys.size=2:=by rw[<- OU,K];rfl
   rw[M,K,X,bn,Sf,Sf];unfold Zh at I;generalize ps.getD i (0,0)=U at I ⊢;generalize ps.getD j (0,0)=X2 at I ⊢;refine kat_cons<|Uo U.1 t X2.1 t' _ _ _ _ ?_;refine kat_go (λO=>?_) λO=>?_
   ·have O:U.1=X2.1:=by simpa using O
    rw[UJ O]at I;refine kat_yes<|kat_cons<|Uo U.2 u X2.2 u' _ _ _ _<|kat_go (λl=>?_) λl=>?_
    ·have l:U.2=X2.2:=by simpa using l
     refine kat_yes<|kat_nil ?_;rw[show decide (U.2<X2.2)=cE by rw[l];simp]at I;exact I
    ·exact kat_no<|kat_one _ _<|lt_int I
   ·have O:U.1≠X2.1:=by simpa using O
    rw[UY O]at I;exact kat_no<|oneLt_int I
  rintro⟨⟨⟩,f⟩ d ⟨p,br,hf,hp,rfl⟩;dsimp only;have H:=kat_snds ab br;rw[hp]at H;exact au hk ha Z ⋯ ⋯ H hf h
end
end DL
namespace DL
open PySem PySem.Spec PyProof.Rows L2
section
variable{X:Cx}{pins:UQ}{σ:St}{H:Hp}{s:dy}{a:di}{o:HO}
theorem gy(I:Inv X pins σ H s)(f:Jd X pins H a)(new:i5 X.prog X.w (upd H a o) s.heap a o):Inv X pins σ (upd H a o) s:=by
 obtain⟨f1,f2,y,j,k,l⟩:=f;have d : ∀b u,H b=bQ u->b≠a:=λb u q z=>by rw[z,f1]at q;cases q
 refine⟨I.ok,I.os,I.bare,⟨I.base.keep,I.base.slot,λb U q n h=>?_,I.base.there,λb i q=>?_,λb U u q=>?_,λb t q=>?_⟩,I.loc,I.cell,?_,λx c e=>?_,λp g=>?_,λb u e=>?_,I.len⟩
 ·have O:b≠a:=λz=>by
   rcases j with z1 | z1
   ·exact h<|z ▸ z1
   ·have:=Nh q
    rw[z]at this;exact absurd this<|Nat.not_lt_of_le z1
  rw[zV O];exact I.base.free b U q n h
 ·have:=I.base.B3 b i q
  rw[zV (d b _ this)];exact this
 ·have:=I.base.C7 b U u q
  rw[zV (d b _ this)];exact this
 ·obtain⟨m,this⟩:=I.base.Dz b t q
  exact⟨m,by rw[zV (d b _ this)];exact this⟩
 ·rw[zV (Oa f2)];exact I.free
 ·rw[zV (k x c e)];exact I.sX x c e
 ·obtain⟨e,n,r⟩:=I.pin p g
  exact⟨e,by rw[zV (l p g)];exact n,r⟩
 ·by_cases O:b=a
  ·subst O;rw[zW]at e;cases e;exact new
  ·rw[zV O]at e
   exact(I.eo b u e).C9 (λ_ _ _ q=>q) (λc q=>by rw[zV (d c _ q)];exact q) λc i q=>by rw[zV (d c _ q)];exact q
theorem sQ{A:l7}{Q:VK}{us:List dj}{vs:List V}{CX:rb}{k:Nat}{f:di}{C:oe}{ps:List Str}{sp:Sp}(F:n9 X.prog X.w X.K X.mg X.base o6 k f C ps sp)(O:l8 k A)(U:xb X.prog X.w X.K X.mg X.base A X.stack s H)(J:Binds X.K C ps [])
 (I:Inv X pins σ H s) (r:d9 vs us) (h:sp vs H Q E0):wpAny (d6 X.prog X.w) A (call (.ref f) us) (EP X pins σ Q) (λ_ _=>False) s:=by
 have b:us.length=ps.length:=by rw[<- r.length];exact F.len _ _ _ _ h
 refine wpAny_call<|Tn (F.run A X.stack s H ⟨us,[]⟩ us vs Q E0 O U (by simpa using J s us I.l6 (by simpa using b)) r h) λr d z=>?_;cases r with
 | error e=>exact z.elim
 | ok a=>
  cases a with
  | ret u=>exact I.after z
  | next=>exact Pk z
  | brk=>exact Pk z
  | cont=>exact Pk z
theorem Bs(I:Inv X pins σ H s)(J:Jd X pins H kS)(C:Jd X pins H a)(O:s.heap.get? kS=bQ ok)(L:s.heap.get? a=bQ oa)(U : ∀v,ok.data ≠ .cell v)(S : ∀v,oa.data ≠ .cell v):Inv X (pins++[(kS,ok),(a,oa)]) σ H s:=
 I.M1 λp z=>by
  rcases RR.mp z with z | z
  ·exact I.pin p<|Nl _ z
  ·rcases Nc.mp z with rfl | z
   ·exact⟨O,J.1,J.2.1,J.2.2.1,U⟩
   ·rw[Pf.mp z];exact⟨L,C.1,C.2.1,C.2.2.1,S⟩
theorem AB(I:Inv X (pins++more) σ H s):Inv X pins σ H s:=I.M1 λp z=>I.pin p<|Nl _<|Td _ z
end
noncomputable def YI(ps:List (Int×Int)):List D:=ps.map λp=>D.tup [.int p.1,.int p.2]
section
variable{X:Cx}{pins:UQ}{σ:St}{F:List D->Option Res}{k:Nat}{f:di}{fd:oe}{pr:List Str}{A:l7}{E:EQ}
theorem rH(I:Inv X pins σ H s)(sub:eM H0 H)(r:Rep X.K H0 (.tup [.int i,.int j]) v)(J:RelV v u):H8 s.heap u i j:=by
 obtain⟨b,M,rfl,e,h⟩:=vg r;obtain⟨y,L,g,k,l⟩:=h.l5;obtain⟨G,E,d,m,p⟩:=l.l5;rw[p.n0]at d;rw[g,d,jA k,jA m]at e;cases J;obtain⟨f,C,⟨o,A,w,n,x⟩,_⟩:=I.tuple<|my sub e;obtain⟨z,O,rfl,U,a⟩ : ∃z O,f=z::O/\RelV (.int i) z/\d9 [.int j] O:=by
  cases C with
  | cons U a=>exact⟨_,_,rfl,U,a⟩
 obtain⟨F,rfl,B⟩:=vf a;obtain⟨t,rfl⟩:=U;obtain⟨u,rfl⟩:=B;exact⟨b,o,_,n,t,u,rfl,A,w,x,rfl⟩
theorem nG{a kS:di}{vs:List dj}{xs:List V}{ds:List D}{ps:List (Int×Int)}{L:Nat}{P:PySem.Fin->dy->Prop}{H0 H:Hp}{s:dy}
 (G:n9 X.prog X.w X.K X.mg X.base o6 k f fd pr (p3 X.K pr.length F)) (h1:pr.length=1) (hr:l8 k A) (be:A.frames=bQ X.stack) (O:Binds X.K fd pr [])
 (I:Inv X pins σ H s) (sub:eM H0 H) (rv:d9 xs vs) (rd:dk X.K H0 ds xs) (ax:ps.length=vs.length) (bf:vs.length<64)
 (hF : ∀(i:Nat) d p,ds[i]? = bQ d->ps[i]? = bQ p->F [d]=bQ (.val<|.tup [.int p.1,.int p.2]))
 (hk:s.heap.get? kS=bQ (h8 "list" #[] 0)) (ha:s.heap.get? a=bQ (h8 "list" #[] L)) (b0:kS≠a) (fk:Jd X pins H kS) (fa:Jd X pins H a)
 (h : ∀J H' C c,Inv X pins σ H' J->Ext H0 H C H'->J.heap.get? a=bQ (h8 "list" (Sg ((kP ps).map λi=>vs.getD i Ox)) c)->Jd X pins H' a->P (.done (.ret .none)) J) :
 wpAny (d6 X.prog X.w) A (ksk_rest a (.ref f) cE vs.toArray L<|.ref kS) P E s:=by
 have ca:=rv.length;have cb:=rd.length;have hz:vs.length<=ej:=by rw[RL];omega
 unfold ksk_rest;refine MQ (Si ?_);rw[List.forIn_toArray];refine MQ (ksk_fold (λj J=>∃m r U e,Inv X (pins++[(kS,h8 "list" U e),(a,h8 "list" #[] L)]) σ m J/\Ext H0 H r m/\∃l:List V,d9 l U.toList/\dk X.K r (YI (ps.take j)) l) vs 0 s
  ⟨H,H0,#[],0,Bs I fk fa hk ha (λv z=>by cases z) (λv z=>by cases z),Ext.refl sub,[],.nil,dk.nil⟩ ?step ?done)
 case step=>
  rintro j x J hx ⟨m,r,U,e,g,x1,l,M,n⟩;simp only[OO]at n ⊢;have hj:j<vs.length:=(Ng.mp hx).1;have hp:ps[j]? = bQ ps[j]:=MS ⋯;have hd:ds[j]? = bQ ds[j]:=MS ⋯;have b6:xs[j]? = bQ xs[j]:=MS ⋯;obtain⟨u',b7,bi⟩:=rv.get b6;rw[hx]at b7;cases b7;obtain⟨x',b8,bl⟩:=rd.get hd;rw[b6]at b8;cases b8;have env:xb X.prog X.w X.K X.mg X.base A X.stack J m:=⟨be,g.y0.mod,g.y0.bs,g.y0.u9,g.y0.qt,g.y0.C6,g.y0.eo,g.y0.bare⟩;refine MQ (SR (Pj (sQ (CX:=o6) (Q:=λv H'=>∃C,Ext r m C H'/\Rep X.K C (.tup [.int ps[j].1,.int ps[j].2]) v) G hr env O g (vs:=[xs[j]]) (us:=[x]) (.cons bi .nil)
   ⟨r,[ds[j]],_,x1.sub,dk.cons (bl.mono x1.s0) dk.nil,by rw[h1];rfl,hF j _ _ hd hp,λv H' C T r2=>⟨C,T,r2⟩⟩) (λv N he=>?_) λ_ _ hF=>hF.elim))
  obtain⟨vv,W,B,br,bv,T,r2⟩:=he
  try dsimp only
  obtain⟨t,Y,_⟩:=B.pin (kS,h8 "list" U e) (Nl _ (Nl _ (.head _)));obtain⟨na,Z,_⟩:=B.pin (a,h8 "list" #[] L) (Nl _ (Nl _ (.tail _ (.head _))));have c0:=AB B;have R:Jd X pins W kS:=⟨Y,fk.2⟩;have S:Jd X pins W a:=⟨Z,fa.2⟩;have kl:U.size=j:=by have:=M.length;have:=n.length;simp only[YI,Nf,Pe,OU]at *;omega
  refine MQ (TZ t rfl ?_ (by rw[kl,RL];omega) (NZ (Nat.le_of_eq (Array.size_push ..)) (by rw[kl,RL];omega)));obtain⟨c2,c1⟩ : ∃c2,(N.heap.update kS (Ot (·.push v))).get? kS=bQ (h8 "list" (U.push v) c2):=⟨_,get?_update_seq t (·.push v)⟩;have I3:=c0.Dc (h':=N.heap.update kS (Ot (·.push v))) (t':=N.toks) (fp:=[kS]) (λb o O q=>(Ow _ _ (λz=>O (by rw[z];exact List.mem_singleton_self _))).trans q) (λb O=>by rw[Pf.mp O];exact R);have c4:(N.heap.update kS (Ot (·.push v))).get? a=bQ (h8 "list" #[] L):=(Ow _ _ b0).trans na;refine Na ⟨rfl,W,bv,U.push v,c2,Bs I3 R S c1 c4 (λv z=>by cases z) (λv z=>by cases z),x1.trans T,l++[vv],?_,?_⟩
  ·rw[Array.toList_push];exact M.append<|.cons br .nil
  ·have ek:ps.take (j+1)=ps.take j++[ps[j]]:=by rw[List.take_add_one,hp];simp
   rw[ek];unfold YI at n ⊢;rw[NF];exact(n.mono T.s0).append (dk.cons r2 dk.nil)
 case done=>
  rintro J ⟨m,r,U,e,g,x1,l,M,n⟩;rw[OO,<- ax,List.take_length]at n;obtain⟨t,Y,_⟩:=g.pin (kS,h8 "list" U e) (Nl _ (Nl _ (.head _)));obtain⟨na,Z,_⟩:=g.pin (a,h8 "list" #[] L) (Nl _ (Nl _ (.tail _ (.head _))));have bb:=AB g;have R:Jd X pins m kS:=⟨Y,fk.2⟩;have S:Jd X pins m a:=⟨Z,fa.2⟩
  try dsimp only
  refine MQ<|listItems_at t rfl ?_;have l1:=M.length;have l2:=n.length;simp only[YI,Nf]at l2;have ek:U=U.toList.toArray:=by simp
  rw[ek]at t ⊢;refine uo t na b0 ⋯ ax bf (λi hi=>?_) λh' c hsz kp hA=>?_
  ·have c6:i<ps.length:=by omega
   obtain⟨y,ey,ry⟩:=n.get (i:=i) (d:= .tup [.int (ps.getD i (0,0)).1,.int (ps.getD i (0,0)).2]) (by unfold YI;simp[c6]);obtain⟨u,hu,ru⟩:=M.get ey;have:U.toList[i]=u:=by rw[MS hi]at hu;exact NN hu
   rw[this];exact rH bb x1.sub ry ru
  ·have B:=bb.Dc (h':=h') (t':=J.toks) (fp:=[a,kS]) (λb o O q=>kp b o (λz=>O<|by rw[z];simp) (λz=>O<|by rw[z];simp) q) (λb O=>by
    rcases Nc.mp O with rfl | O
    ·exact S
    ·rw[Pf.mp O];exact R)
   exact h _ m r c B x1 hA S
end
noncomputable def tZ:Res->Option (Int×Int)
 | .val d=>match d with
  | .tup a=>match a with
   | [x,y]=>(ix x).bind λi=>(ix y).map λj=>(i,j)
   | _=>none
  | _=>none
 | .own _=>none
noncomputable def Y0(F:List D->Option Res):List D->Option (List<|Int×Int)
 | []=>bQ []
 | d::r=>((F [d]).bind tZ).bind λp=>(Y0 F r).map λl=>p::l
noncomputable def dP(F:List D->Option Res)(f:CO (Sk×List D)):CO (List D):=λd=>(f d).bind λa=>match a.1 with
 | .L=>(Y0 F a.2).bind λb=>if a.2.length<64 then bQ ((kP b).map λi=>a.2.getD i .d7)else none
 | _=>none
theorem Ya(z:d9 xs vs) : ∀(o:List Nat),(∀i∈o,i<xs.length)->d9 (o.map λi=>xs.getD i .d7) (o.map λi=>vs.getD i Ox)
 | [],_=> .nil
 | i::o,h=>by have a:=h i Nk;refine .cons ?_ (Ya z o λj I=>h j<|Np _ I);obtain⟨v,O,g2⟩:=z.get (i:=i) (x:=xs[i])<|MS a;show RelV (xs.getD i V.d7) (vs.getD i Ox);rw[MU,MU,MS a,O];exact g2
section
variable{X:Cx}{pins:UQ}{σ:St}{F:List D->Option Res}{k:Nat}{f:di}{fd:oe}{pr:List Str}
theorem cn
 (G:n9 X.prog X.w X.K X.mg X.base o6 k f fd pr (p3 X.K pr.length F)) (Z:pr.length=1) (hr:l8 (k+1+1) X.A) (O:Binds X.K fd pr [])
 (I:Inv X pins σ H s) (sub:eM H0 H) (hl:s.heap.IsList l vs.toArray) (L:d9 xs vs) (rd:dk X.K H0 ds xs) (S:ps.length=vs.length) (Y:vs.length<64)
 (hF : ∀(i:Nat) d p,ds[i]? = bQ d->ps[i]? = bQ p->F [d]=bQ (.val<|.tup [.int p.1,.int p.2]))
 (h : ∀J H' C D,H D=none->H' D=none->Ext H0 H C H'->Inv X pins σ (upd H' D<|.lst<|(kP ps).map λi=>xs.getD i .d7) J->Q (.ref D) J) :
 wpAny (d6 X.prog X.w) X.A (call (.builtin "sorted") [.ref l] [(NS "key",.ref f)]) Q E s:=by
 have b0:=L.length;have U:vs.length<=ej:=by rw[RL];omega
 refine call_function_entry_kw kind_sorted plain_sorted entry_sorted (ksk_s1 _ _) ?_;unfold n5.«sorted»;refine MQ (m:=checkCount "sorted" 1 1 _) (Na ?_);refine MQ (collect_list hl ?_ U);refine MQ (wpAny_newList ?_ U);have a:((s.heap.push (h8 "list" #[] 0)).update s.heap.objs.size (Ot (· ++ vs.toArray))).objs.size=s.heap.objs.size+1:=by rw[SH,size_push']
 have e:(((s.heap.push (h8 "list" #[] 0)).update s.heap.objs.size (Ot (· ++ vs.toArray))).push (h8 "list" vs.toArray 0)).get? (s.heap.objs.size+1)=bQ (h8 "list" vs.toArray 0):=by rw[<- a];exact Nm _ rfl
 have keep : ∀b o,s.heap.get? b=bQ o->(((s.heap.push (h8 "list" #[] 0)).update s.heap.objs.size (Ot (· ++ vs.toArray))).push (h8 "list" vs.toArray 0)).get? b=bQ o:=λb o q=>by have j:b<s.heap.objs.size:=Nh q;rw[Heap.get?_push_ne _ _ _ (by rw[a];exact NI (Oh j)),Heap.get?_update_ne _ _ _ _ (NI j),Heap.get?_push_ne _ _ _ (NI j)];exact q
 have n:(((s.heap.push (h8 "list" #[] 0)).update s.heap.objs.size (Ot (· ++ vs.toArray))).push (h8 "list" vs.toArray 0)).objs.size=s.heap.objs.size+2:=by rw[size_push',a]
 show wpAny _ _ _ _ _ {s with heap:=((s.heap.push (h8 "list" #[] 0)).update s.heap.objs.size (Ot (· ++ vs.toArray))).push (h8 "list" vs.toArray 0)};rw[a];generalize ((s.heap.push (h8 "list" #[] 0)).update s.heap.objs.size (Ot (· ++ vs.toArray))).push (h8 "list" vs.toArray 0)=g at e keep n ⊢;have P:Inv X pins σ H {s with heap:=g}:=I.kept (t':=s.toks) keep;have x:Jd X pins H (s.heap.objs.size+1):=I.C4 (D6 _) (I.eo.fresh (D6 _));refine MQ (PK (wpAny_call_entry_kw slot_list_sort ⟨_,e,rfl⟩ entry_list_sort ?body (ksk_l1 _ _)))
 case body=>
  show wpAny (d6 X.prog X.w) X.A.in1.in1 (n5.«list.sort» ⟨[.ref (s.heap.objs.size+1)],[(NS "key",.ref f)]⟩) _ _ _;rw[ksk_t1];unfold ksk_tree;refine MQ (listItems_at e rfl ?_);refine MQ (TZ e rfl ?_ (by rw[MZ];exact U) (OD _));obtain⟨t,r⟩ : ∃t,(g.update (s.heap.objs.size+1) (Ot λ_=>(#[]:Array dj))).get? (s.heap.objs.size+1)=bQ (h8 "list" #[] t):=⟨_,get?_update_seq e λ_=>#[]⟩;refine MQ (seqEpoch_at r rfl ?_);refine MQ (wpAny_newTuple ?_ (by show vs.length<=_;exact U));refine MQ (wpAny_newList ?_ (OD _));refine PK ?_;have B:=P.Dc (h':=g.update (s.heap.objs.size+1) (Ot λ_=>(#[]:Array dj))) (t':=s.toks) (fp:=[s.heap.objs.size+1]) (λb o O q=>(Ow _ _ (λz=>O (by rw[z];exact List.mem_singleton_self _))).trans q) (λb O=>by rw[Pf.mp O];exact x);have M:=B.kept (h':=((g.update (s.heap.objs.size+1) (Ot λ_=>(#[]:Array dj))).push (h8 "tuple" vs.toArray 0)).push (h8 "list" #[] 0)) (t':=s.toks) (λb o q=>MT _ (MT _ q));have y:((g.update (s.heap.objs.size+1) (Ot λ_=>(#[]:Array dj))).push (h8 "tuple" vs.toArray 0)).objs.size=s.heap.objs.size+3:=by rw[size_push',SH,n]
  have T:Jd X pins H (s.heap.objs.size+3):=I.C4 (NY _ _) (I.eo.fresh (NY _ _));refine nG (A:=X.A.in1.in1) (ps:=ps) (xs:=xs) (ds:=ds) (H0:=H0) (H:=H) (s:={s with heap:=((g.update (s.heap.objs.size+1) (Ot λ_=>(#[]:Array dj))).push (h8 "tuple" vs.toArray 0)).push (h8 "list" #[] 0)}) (kS:=((g.update (s.heap.objs.size+1) (Ot λ_=>(#[]:Array dj))).push (h8 "tuple" vs.toArray 0)).objs.size)
   G Z hr.in1.in1 I.y0.in1.in1.frames O M sub L rd S Y hF (Nm _ rfl) (MT _<|MT _ r) (by rw[y];exact λz=>absurd (Ts z) ⋯) (by rw[y];exact T) x λJ H' C c N x3 W u=>⟨_,rfl,?_⟩
  refine Na ⟨_,rfl,h J H' C _ (I.eo.fresh<|D6 _) u.1 x3<|gy N u ?_⟩;have as : ∀i∈kP ps,i<xs.length:=λi hi=>by have:=(xp ps).mem_iff.mp hi;have:=MR.mp this;omega
  have R:((kP ps).map λi=>xs.getD i V.d7).length=vs.length:=by rw[Nf,(xp ps).length_eq,Nu,S]
  exact⟨by rw[R];exact U,(kP ps).map λi=>vs.getD i Ox,c,Ya L _ as,W⟩
end
theorem YZ : ∀{ds:List D} {ps:List (Int×Int)},Y0 F ds=bQ ps->ps.length=ds.length
 | [],ps,h=>by cases h;rfl
 | d::r,ps,h=>by obtain⟨p,_,a⟩:=zk h;obtain⟨l,z,I⟩:=zF a;subst I;simp[YZ z]
theorem bM(h:tZ r=bQ p):r = .val (.tup [.int p.1,.int p.2]):=by
 unfold tZ at h;split at h
 ·split at h
  ·split at h
   ·obtain⟨i,a,b⟩:=zk h
    obtain⟨j,z,I⟩:=zF b;subst I;rw[jM a,jM z]
   ·cases h
  ·cases h
 ·cases h
theorem ar : ∀{ds:List D} {ps:List (Int×Int)},Y0 F ds=bQ ps->∀(i:Nat) d p,ds[i]? = bQ d->ps[i]? = bQ p->F [d]=bQ (.val<|.tup [.int p.1,.int p.2])
 | [],ps,h,i,d,p,hd,hp=>by simp at hd
 | c::r,ps,h,i,d,p,hd,hp=>by
  obtain⟨q,b,e⟩:=zk h;obtain⟨l,z,I⟩:=zF e;subst I;cases i with
  | zero=>
   simp at hd hp;subst hd hp;obtain⟨U,a,O⟩:=zk b;rw[a,bM O]
  | succ i=>exact ar z i d p (by simpa using hd) (by simpa using hp)
section
variable{X:Cx}{sc:fA}{N L:List Str}{k j:Nat}{e:dt}{fq:CO (Sk×List D)}{F:List D->Option Res}{x:Str}{p p2 pos O_:fh}
theorem mH(S:eA X.prog X.w X.K X.mg X.base j x 1 F)(h:SX X sc N L k)(Y:j+1+1<=k)(c:vz sc "sorted" = bX)(z:X.mg "sorted" = none)(C:vz sc x=bX)(hq:PQ X e fq)
 (hs:el [e] X.env=[(cE,dv e X.env)]:=by rfl) :
 PO X (.Call (.Name "sorted" p) [e] [⟨bQ "key",.Name x p2,O_⟩] pos) (dP F fq):=by
 intro b s σ H Q I m;obtain⟨H0,γ,out,rc,O,q⟩:=m;obtain⟨⟨kk,ds⟩,E,O⟩:=zk O;obtain⟨J,fd,pr,Z,G,W,hk,P⟩:=S.ex;cases kk with
 | T=>cases O
 | L=>
  have O:((Y0 F ds).bind λps=>if ds.length<64 then bQ ((kP ps).map λi=>ds.getD i .d7)else none)=bQ out:=O;obtain⟨ps,o,O⟩:=zk O;by_cases t:ds.length<64
  ·rw[UJ t]at O
   cases O;refine RD (vy (u:= .builtin "sorted") I (h.gl c).1 z ⋯ (callWith_kw ?_ (by rw[hs];rfl) (by rw[hs];rfl)) ⋯ ⋯);refine ea ((jv hq qR hs) pos b s σ H (λvs d=>∃a xs U,vs=[.ref a]/\Ext H0 H U d/\eU X.K d a xs/\dk X.K U ds xs) I ⟨H0,γ,.L,ds,rc,E,λa xs d U x1 g1 g2 g3=>⟨a,xs,U,rfl,x1,g1,g3⟩⟩) λus y m=>?_;obtain⟨vs,d,l,rv,a,xs,U,rfl,x1,g1,g3⟩:=m;obtain⟨u,rfl,ru⟩:=vf rv;cases ru;show wpAny _ _ (evalAll ((do let v <- dv (.Name x p2) X.env;DT pos;pure v)::[])) _ _ y;refine wpAny_evalAll_cons (MQ (fZ l (h.gl C).1 W (MQ (TX (Na ?_))) (h.gl C).2.2));refine wpAny_evalAll_nil ?_;obtain⟨B,r,pl,hz⟩:=l.list g1;have l1:=r.length;have l2:=g3.length;have l3:=YZ o;show wpAny _ _ (call (.builtin "sorted") [.ref a] [(NS "key",.ref J)]) _ _ y;refine cn (H0:=U) (ps:=ps) (xs:=xs) (ds:=ds) (vs:=B) (F:=F) G Z (h.room.mono Y) P l x1.sub pl.isList r g3 ⋯ ⋯ (ar o) λs' H' g D M n f A=>?_;refine⟨.ref D,_,A,rfl,q D _ _ g (x1.trans (f.trans (Ext.hide f.sub n _))) (kW x1.s1 M) (jQ f.sub n) zW ?_⟩;refine Yx (g3.mono f.s0) _ λi R=>?_;have:=(xp ps).mem_iff.mp R;have:=MR.mp this;omega
  ·rw[UY t]at O;cases O
end
section
variable{X:Cx}{sc:fA}{N L:List Str}{k j n i:Nat}{a b c e:dt}{es:List dt}{f:CO D}{g:CO (List D)}{p pos:fh}{x:Str}{st _q _r:iQ}{wj:List iQ}{F:List D->Option Res}
open Classical in
noncomputable def A7(H:Hp)(p:di):Hp:=λc=>if c=p then none else H c
theorem L3{H:Hp}{p c:di}(h:c≠p):A7 H p c=H c:=UY h
end
mutual
def R7:D->Bool
 | .tup a=>E7 a
 | .lst a=>E7 a
 | .i8 _ _=>cE
 | .i0 _ _=>cE
 | _=>bX
def E7:List D->Bool
 | []=>bX
 | x::xs=>R7 x && E7 xs
end
mutual
theorem Rep.less{K:MP}{H:Hp}{p:di}{C:eg->Prop}(I:H p=bQ (.ext C)) : ∀{d:D} {v:V},R7 d=bX->Rep K H d v->Rep K (A7 H p) d v
 | .d7,_,_,h=>h
 | .bl _,_,_,h=>h
 | .int _,_,_,h=>h
 | .str _,_,_,h=>h
 | .tup ds,v,n,h=>by
  obtain⟨a,b,f,g,i⟩:=(show ∃a b,v = .ref a/\ft K H a b/\dk K H ds b from h);refine(show ∃a b,v = .ref a/\ft K (A7 H p) a b/\dk K (A7 H p) ds b from⟨a,b,f,?_,dk.less I n i⟩);have z : ∀{u:HO},(∀C,u ≠ .ext C)->H a=bQ u->a≠p:=λO q e=>by rw[e,I]at q;exact O _ (NN q).symm
  rcases g with(hq | ⟨o',hq⟩) | hq
  ·exact .inl (.inl<|by rw[L3 (z (λ_=>by simp) hq)];exact hq)
  ·exact .inl<|.inr ⟨o',by rw[L3 (z (λ_=>by simp) hq)];exact hq⟩
  ·exact .inr hq
 | .lst ds,v,n,h=>by
  obtain⟨a,b,f,g,i⟩:=(show ∃a b,v = .ref a/\eU K H a b/\dk K H ds b from h);refine(show ∃a b,v = .ref a/\eU K (A7 H p) a b/\dk K (A7 H p) ds b from⟨a,b,f,?_,dk.less I n i⟩);have z : ∀{u:HO},(∀C,u ≠ .ext C)->H a=bQ u->a≠p:=λO q e=>by rw[e,I]at q;exact O _ (NN q).symm
  rcases g with(hq | ⟨o',hq⟩) | hq
  ·exact .inl (.inl<|by rw[L3 (z (λ_=>by simp) hq)];exact hq)
  ·exact .inl<|.inr ⟨o',by rw[L3 (z (λ_=>by simp) hq)];exact hq⟩
  ·exact .inr hq
 | .i8 _ _,_,n,_=>nomatch n
 | .i0 _ _,_,n,_=>nomatch n
theorem dk.less{K:MP}{H:Hp}{p:di}{C:eg->Prop}(z:H p=bQ (.ext C)) : ∀{ds:List D} {xs:List V},E7 ds=bX->dk K H ds xs->dk K (A7 H p) ds xs
 | [],_,_,h=>h
 | d::ds,xs,n,h=>by obtain⟨x,r,a,b,e⟩:=(show ∃x r,xs=x::r/\Rep K H d x/\dk K H ds r from h);have n:(R7 d && E7 ds)=bX:=n;rw[Nb]at n;exact(show ∃x r,xs=x::r/\Rep K (A7 H p) d x/\dk K (A7 H p) ds r from⟨x,r,a,Rep.less z n.1 b,dk.less z n.2 e⟩)
end
noncomputable def Gr(j i:Nat)(f:CO D):CO Fl:=λb=>(qz b[i]?).bind λa=>((f b).bind ix).bind λk=>if (0<=k/\k<a.length)/\a.length<=lim then (a[k.toNat]?).map λd=> .next ((b.set i<|.own<|a.eraseIdx k.toNat).set j (.val d))else none
noncomputable def Gv(i:Nat)(f g:CO D):CO Fl:=λb=>(qz b[i]?).bind λa=>((f b).bind ix).bind λk=>(g b).bind λd=>if (0<=k/\k<=a.length)/\a.length<lim then bQ (.next<|b.set i<|.own (a.take k.toNat++d::a.drop k.toNat))else none
theorem Ey(j i:Nat)(f:CO D)(γ:Ctx):Gr j i f γ=(qz γ[i]?).bind λds=>((f γ).bind ix).bind λk=>if (0<=k/\k<ds.length)/\ds.length<=lim then (ds[k.toNat]?).map λd=> .next ((γ.set i<|.own<|ds.eraseIdx k.toNat).set j (.val d))else none:=rfl
theorem EA(i:Nat)(f g:CO D)(γ:Ctx):Gv i f g γ=(qz γ[i]?).bind λds=>((f γ).bind ix).bind λk=>(g γ).bind λd=>if (0<=k/\k<=ds.length)/\ds.length<lim then bQ (.next<|γ.set i<|.own (ds.take k.toNat++d::ds.drop k.toNat))else none:=rfl
noncomputable def sI(g:CO (Sk×List D)):CO D:=λd=>(g d).bind λa=>match a.1 with
 | .L=>(wc a.2).bind λb=>b.max?.map D.int
 | .T=>none
theorem Aa(g:CO (Sk×List D))(γ:Ctx):sI g γ=(g γ).bind λks=>match ks.1 with
 | .L=>(wc ks.2).bind λa=>a.max?.map D.int
 | .T=>none:=rfl
noncomputable def VF(i g:Nat):CO D:=cq (zG<|cq (zh i)<|zy<|.int 0)<|zf g
noncomputable def Al(i a b:Nat):CO D:=cq (zG<|cq (zG<|cq (zG<|cq (zh i)<|zy<|.int 1)<|zf 8)<|zf a)<|zf b
noncomputable def rX:CO D:=cq (zh 4)<|dR<|zy<|.int 1
end DL
namespace L2
open PySem PySem.Spec PyProof.Rows
noncomputable def Mf:V->List V->Hp->VK->Prop:=λx b H Q=>∃l a,∃i:Int,∃y,x = .ref l/\b=[.int i,y]/\H l=bQ (.lst a)/\0<=i/\i.toNat<=a.length/\a.length<ej/\i<2 ^ 63/\Q .d7 (upd H l<|.lst (a.take i.toNat++y::a.drop i.toNat))
theorem Cw{X:Cx}:G6 X "list.insert" Mf:=by
 intro b s J H x E v C Q I m k h;obtain⟨l,G,i,y,rfl,rfl,U,o,p,B,f,q⟩:=h;cases m;obtain⟨u,w,rfl,j,d⟩:=k.two;obtain⟨t,rfl⟩:=j;obtain⟨z,O,n,r,A,e⟩:=I.vr U;have g : ¬(!Builtin.List.listFitsIndex i)=bX:=by rw[fitsIndex_both ⋯ f];decide
 refine Px F.slot_list_insert ⟨_,e,rfl⟩ F.entry_list_insert (F.args_list_insert_3 _ _ _) (PySem.AutoSeq1.list_insert_list_int_val_1 l O.toArray n i t w g<|by rw[MZ];omega) ⟨e,?_⟩;refine⟨.d7,_,I.E6 (its':=O.take i.toNat++w::O.drop i.toNat) U e ?_ ((r.take _).append (.cons d<|r.drop _)) ?_,rfl,q⟩
 ·show(let a:=if i<0 then (i+((O.toArray.size:Nat):Int)).toNat else min i.toNat O.toArray.size;(O.toArray.extract 0 a).push w++O.toArray.extract a)=_
  rw[UY ⋯,MZ,show min i.toNat O.length=i.toNat by omega];apply Array.ext';simp;exact PJ ⋯
 ·rw[NO,NW,Pe,SD]
  omega
end L2
namespace DL
open PySem PySem.Spec PyProof.Rows L2
section
variable{X:Cx}{sc:fA}{N L:List Str}{k:Nat}{a b:dt}{f g:CO D}
theorem tE(j i:Nat){x y:Str}{C cpos I pos pos':fh}(h:SX X sc N L k)(cj:vh sc N L j y=bX)(c:X0 sc N i x=bX)(ha:PV X a f)(hs:el [a] X.env=[(cE,dv a X.env)]:=by rfl)
 (J:DE (.Name x I) "pop" X.env (dv (.Name x I) X.env)=dv (.Name x I) X.env:=by rfl)
 (S:((n6 cpos<|starEach [a] X.env).all (λx=> !x.1) && (DF cpos<|keywordEach [] X.env).all (λx=>x.1.isSome)
   && decide ([a].length+([]:List qs).length+(if ([]:List qs).isEmpty then 0 else 1)<30))=bX:=by rfl)
 (Y:(C.endLine==cpos.line)=bX:=by rfl) (Z:r9 (.Call (.Attribute (.Name x I) "pop" C) [a] [] cpos) (bQ (.Name y pos')) pos.line X.env=pure cE:=by rfl) :
 kA X (.Assign [.Name y pos'] (.Call (.Attribute (.Name x I) "pop" C) [a] [] cpos) pos) (Gr j i f):=
 yp (h.set j cj (bJ Pq PySem.F.slot_list_pop PySem.F.type_list_pop ny (h.var c) (jv ha qR hs) J S Y hs rfl) Z) λD σ H G=>by
  obtain⟨E0,E,s,Q,fl,O,z,t⟩:=G;obtain⟨g,b,z⟩:=zk z;obtain⟨n,U,z⟩:=zk z;obtain⟨d,U,A⟩:=zk U;have b:=qW b;by_cases p:(0<=n/\n<g.length)/\g.length<=lim
  ·rw[UJ p]at z
   obtain⟨W,B,z⟩:=zF z;subst z;obtain⟨a,xs,m,h2,o,l⟩:=O.rc.own i g b;refine⟨_,m,.inl ⟨rfl,_,eU.of o⟩,s,Q,d,O.rc,U,λv R e x r=>?_⟩;rw[jM A]at r;have u:=O.step x;have w:=x.s1 _ _ o;obtain⟨P,K,M⟩:=l.get B;have as:=l.length;have T:lim<2 ^ 62:=by decide +kernel
   refine⟨a,xs,n,n.toNat,P,rfl,by rw[jA r],w,by omega,by omega,?_,K,?_⟩
   ·unfold seqIndex?
    rw[as];simp;omega
   ·exact t _ _ e<|(u.rewrite (xs:=xs) b m<|wO _<|l.mono x.s0).rr (M.mono x.s0)
  ·rw[UY p]at z;cases z
theorem tF(i:Nat){x:Str}{C cpos I pos:fh}(h:SX X sc N L k)(c:X0 sc N i x=bX)(ha:PV X a f)(hb:PV X b g)(hs:el [a,b] X.env=(cE,dv a X.env)::el [b] X.env:=by rfl)(J:el [b] X.env=[(cE,dv b X.env)]:=by rfl)
 (S:DE (.Name x I) "insert" X.env (dv (.Name x I) X.env)=dv (.Name x I) X.env:=by rfl)
 (Y:((n6 cpos<|starEach [a,b] X.env).all (λx=> !x.1) && (DF cpos<|keywordEach [] X.env).all (λx=>x.1.isSome)
   && decide ([a,b].length+([]:List qs).length+(if ([]:List qs).isEmpty then 0 else 1)<30))=bX:=by rfl)
 (Z:(C.endLine==cpos.line)=bX:=by rfl) (a9:r9 (.Call (.Attribute (.Name x I) "insert" C) [a,b] [] cpos) none pos.line X.env=pure cE:=by rfl) :
 kA X (.Expr (.Call (.Attribute (.Name x I) "insert" C) [a,b] [] cpos) pos) (Gv i f g):=
 yp (Kl (bJ Pq PySem.F.slot_list_insert PySem.F.type_list_insert Cw (h.var c) (jv ha (jv hb qR J) hs) S Y Z hs<|by rw[J];rfl) a9) λD σ H P=>by
  obtain⟨E0,E,w,u,fl,O,z,y⟩:=P;obtain⟨l,e,z⟩:=zk z;obtain⟨n,m,z⟩:=zk z;obtain⟨G,M,z⟩:=zk z;obtain⟨d,m,K⟩:=zk m;have e:=qW e;by_cases p:(0<=n/\n<=l.length)/\l.length<lim
  ·rw[UJ p]at z;cases z
   obtain⟨a,xs,s,h2,t,o⟩:=O.rc.own i l e;refine⟨_,s,.inl ⟨rfl,_,eU.of t⟩,w,u,d,O.rc,m,λv T j x r=>⟨j,u,G,O.rc.ext x,M,λR W A U Q=>?_⟩⟩;rw[jM K]at r;have as:=O.step<|x.trans U;have B:=(x.trans U).s1 _ _ t;have b5:=o.length;have b6:=yS<|MY lim;have b7:lim<2 ^ 62:=by decide +kernel
   refine⟨a,xs,n,R,rfl,by rw[jA r],B,p.1.1,by omega,by omega,by omega,?_⟩;exact y _ _ A<|as.rewrite (xs:=xs) e s<|((o.mono (x.trans U).s0).take _).append (dk.cons Q<|(o.mono (x.trans U).s0).drop _)
  ·rw[UY p]at z;cases z
end
theorem ir{X:Cx}(L:X.calm=bX):ZV X (.builtin "max") (λxs H Q=>∃p C,∃M:Int,xs=[.ref p]/\eU X.K H p ((C:List Int).map V.int)/\M∈C/\(∀a,a∈C->a<=M)/\Q (.int M) H):=by
 intro y s σ H vs us Q I W h;obtain⟨p,C,M,rfl,P,w,J,q⟩:=h;obtain⟨u,rfl,T⟩:=vf W;cases T;obtain⟨z,r,R,U⟩:=I.list P;have g:=λi v=>Xl r i v;have A:AllInts z.toArray:=λv O=>by rw[List.mem_toArray]at O;obtain⟨i,b⟩:=Te O;obtain⟨k,t,_,e⟩:=g i v b;exact⟨k,t,e⟩
 obtain⟨xs,f⟩:=A.items;have B:=r.length;rw[Nf]at B;have S:xs.size=z.length:=by have:=congrArg Array.size f;simpa[intItems]using this.symm
 have E:0<xs.size:=by have:=List.length_pos_of_mem w;omega
 have x:=R.isList;rw[f]at x;have l : ∀i,i<xs.size->∃b:i<C.length,numAt xs i=C[i]:=λi b=>by
  have m:i<z.length:=by omega
  obtain⟨k,t,n,d⟩:=g i z[i] (MS m);have U:i<C.length:=by omega
  rw[MS U]at n;cases n;refine⟨U,?_⟩;have F:(intItems xs)[i]? = bQ z[i]:=by rw[<- f];simp[m]
  obtain⟨t',o⟩:=intItems_at F;rw[d]at o;exact(SJ.inj o).1.symm
 refine max_intList (I.ok.hd L) x E λv Z tk O N=>?_;obtain⟨t,rfl⟩:=intItems_at O;obtain⟨b1,b2⟩:=argBest_gt (numAt xs)<|xs.size - 1;obtain⟨b,e⟩:=l (argBest (λi j=>decide<|numAt xs i>numAt xs j)<|xs.size - 1) ⋯;have G:numAt xs (argBest (λi j=>decide<|numAt xs i>numAt xs j)<|xs.size - 1)=M:=by refine Int.le_antisymm (by rw[e];exact J _<|Od b) ?_;obtain⟨j,hj,rfl⟩:=Ri w;obtain⟨Y,d⟩:=l j ⋯;rw[<- d];exact b2 j ⋯
 rw[G];exact⟨.int M,H,I.kept N,⟨_,rfl⟩,q⟩
section
variable{X:Cx}{sc:fA}{N T:List Str}{k:Nat}{e:dt}{fq:CO (Sk×List D)}{p pos:fh}
theorem tf(h:SX X sc N T k)(c:vz sc "max" = bX)(z:X.mg "max" = none)(O:PQ X e fq)(hs:el [e] X.env=[(cE,dv e X.env)]:=by rfl):PV X (.Call (.Name "max" p) [e] [] pos) (sI fq):=
 qG (yb (ir h.calm) (h.gl c).1 z PyProof.Rows.boot_max (jv O qR hs) ⋯ ⋯ hs rfl) λB H Q U=>by
  obtain⟨g,w,d,rc,I,q⟩:=U;obtain⟨⟨o,x⟩,i,I⟩:=zk I;cases o with
  | T=>cases I
  | L=>
   obtain⟨u,j,I⟩:=zk I;obtain⟨M,l,rfl⟩:=zF I;obtain⟨s,t⟩:=List.max?_eq_some_iff.mp l;refine⟨g,w,.L,_,rc,i,λa A f b ext n y r=>?_⟩;have m:=J9 r j;subst m;exact⟨a,u,M,rfl,n,s,t,q _ f b ext rfl⟩
end
noncomputable def A8(e:dt):Str:=match e with | .Name x _=>x | _=>""
noncomputable def we(e:dt):List Str:=match e with | .Tuple a _ _=>a.map A8 | e=>[A8 e]
noncomputable def C5(N:List Str)(fs:List Nat):List (Str×Nat):=fs.map λi=>(N.getD i "",i)
theorem KG(N:List Str)(fs:List Nat):(C5 N fs).map (·.2)=fs:=by unfold C5;rw[NB];exact List.map_id fs
noncomputable def pF(e:dt):Bool:=match e with | .Name _ _=>bX | _=>cE
theorem bV{e:dt}(h:pF e=bX) : ∃p,e = .Name (A8 e) p:=by
 unfold pF at h;split at h
 ·exact⟨_,rfl⟩
 ·cases h
noncomputable def Iz(C:fA)(N L:List Str)(is:List Nat)(I:List dt):Bool:=match is with
 | [i,j]=>(match I with | [a,b]=>pF a && (vh C N L i (A8 a) && (pF b && vh C N L j (A8 b))) | _=>cE)
 | [i,j,l]=>(match I with | [a,b,c]=>pF a && (vh C N L i (A8 a) && (pF b && (vh C N L j (A8 b) && (pF c && vh C N L l (A8 c))))) | _=>cE)
 | _=>cE
noncomputable def F6(C:fA)(N L:List Str)(e:dt)(T:Tg):Bool:=match T with
 | .nm i=>pF e && vh C N L i (A8 e)
 | .tp is=>(match e with | .Tuple a _ _=>Iz C N L is a | _=>cE)
theorem rM{X:Cx}{C:fA}{N L:List Str}{k:Nat}(h:SX X C N L k){e:dt}{T:Tg}(c:F6 C N L e T=bX):PG X e (ql X.K T):=by
 cases T with
 | nm i=>
  have c:=Bool.and_eq_true_iff.mp c;obtain⟨p,q⟩:=bV c.1;rw[q];exact h.DV _ c.2
 | tp is=>
  unfold F6 at c;dsimp only at c;split at c
  ·next f j pos=>
   unfold Iz at c;split at c
   ·split at c
    ·simp only[Nb]at c
     obtain⟨z,I,b1,b2⟩:=c;obtain⟨p,q⟩:=bV z;obtain⟨b,O⟩:=bV b1;rw[q,O];exact h.U7<|wX (h.DV _ I)<|wX (h.DV _ b2) fv
    ·cases c
   ·split at c
    ·simp only[Nb]at c
     obtain⟨z,I,b1,b2,U,a⟩:=c;obtain⟨p,q⟩:=bV z;obtain⟨b,O⟩:=bV b1;obtain⟨g,d⟩:=bV U;rw[q,O,d];exact h.U7<|wX (h.DV _ I)<|wX (h.DV _ b2)<|wX (h.DV _ a) fv
    ·cases c
   ·cases c
  ·cases c
noncomputable def cB(I scope:fA)(N:List Str)(C:dt)(T:Tg)(n:Nat)(fs:List Nat):Bool:=
 Wl I scope N (C5 N fs) && (Gc (we C) scope (C5 N fs) && (decide (∀i∈T.idx,i<(we C).length) && (decide ((we C).length=n) && F6 (yM scope I) (we C++(C5 N fs).map (·.1)) (we C) C T)))
abbrev C2(X:Cx)(scope:fA)(N:List Str)(tg:dt)(fs:List Nat):=jH X scope (we tg++(C5 N fs).map (·.1))
abbrev SA(X:Cx)(sc scope:fA)(N:List Str)(tg:dt)(fs:List Nat)(k:Nat)(fp:List di)(s2:dy)(H2:Hp):Prop:=SX (C2 X scope N tg fs fp s2 H2) (yM scope sc) (we tg++(C5 N fs).map (·.1)) (we tg) k
section
variable{X:Cx}{sc scope:fA}{N L:List Str}{k n i:Nat}{fs:List Nat}{T:Tg}{e elt tg iter DG:dt}{es:List dt}{pos p py spos cpos:fh}{x y:Str}{f g:CO D}{fo:CO (List D)}{src gl:CO (List D)}{kk:CO Bool}
theorem cA(h:SX X sc N L k)(c:cB sc scope N tg T n fs=bX):qq X scope (C5 N fs)/\(∀i∈T.idx,i<(we tg).length)/\(we tg).length=n/\(∀fp J C,SA X sc scope N tg fs k fp J C)/\∀fp J C,PG (C2 X scope N tg fs fp J C) tg (ql X.K T):=by unfold cB at c;simp only[Nb,decide_eq_true_eq]at c;obtain⟨z,I,a,b,d⟩:=c;have s : ∀fp J C,SA X sc scope N tg fs k fp J C:=λfp J C=>h.comp I;exact⟨h.H_ z,a,b,s,λfp J C=>rM (s fp J C) d⟩
theorem xn(h:SX X sc N L k)(J:rh X tg iter src)(z : ∀fp I C,SA X sc scope N tg fs k fp I C->PV (C2 X scope N tg fs fp I C) elt f)(c:cB sc scope N tg T n fs=bX:=by decide +kernel)(hs : ∀x,pf iter X.env x=pure x:=by intro _;rfl) :
 PO X (.ListComp elt [⟨tg,iter,[],0⟩] scope pos) (zU src T n fs jz f):=by
 obtain⟨a,b,d,s,q⟩:=cA h c;have r:=tK (pos:=pos) h.calm a b J q (λfp I C=>z fp I C<|s fp I C) hs;rw[d,KG]at r;exact r
theorem YE(h:SX X sc N L k)(O:rh X tg iter src)(z : ∀fp J C,SA X sc scope N tg fs k fp J C->l0 (C2 X scope N tg fs fp J C) DG kk)(I : ∀fp J C,SA X sc scope N tg fs k fp J C->PV (C2 X scope N tg fs fp J C) elt f)(c:cB sc scope N tg T n fs=bX:=by decide +kernel)(hs : ∀x,pf iter X.env x=pure x:=by intro _;rfl) :
 PO X (.ListComp elt [⟨tg,iter,[DG],0⟩] scope pos) (zU src T n fs kk f):=by
 obtain⟨a,b,d,s,q⟩:=cA h c;have r:=fi (pos:=pos) h.calm a b O q (λfp J C=>z fp J C<|s fp J C) (λfp J C=>I fp J C<|s fp J C) hs;rw[d,KG]at r;exact r
theorem vd(h:SX X sc N L k)(J:rh X tg iter src)(z : ∀fp I C,SA X sc scope N tg fs k fp I C->PV (C2 X scope N tg fs fp I C) elt f)(ct:vh sc N L i y=bX:=by decide +kernel)(c:cB sc scope N tg T n fs=bX:=by decide +kernel)(hs : ∀x,pf iter X.env x=pure x:=by intro _;rfl) :
 PS X (.Assign [.Name y py] (.ListComp elt [⟨tg,iter,[],0⟩] scope cpos) spos) (WK (tO X.K<|zU src T n fs jz f)<|vB i):=by
 obtain⟨a,b,d,s,q⟩:=cA h c;have r:=T_ (cpos:=cpos) (spos:=spos) (py:=py) i h ct h.calm a b J q (λfp I C=>z fp I C<|s fp I C) hs;rw[d,KG]at r;exact r
theorem mF(h:SX X sc N L k)(O:rh X tg iter src)(z : ∀fp J C,SA X sc scope N tg fs k fp J C->l0 (C2 X scope N tg fs fp J C) DG kk)(I : ∀fp J C,SA X sc scope N tg fs k fp J C->PV (C2 X scope N tg fs fp J C) elt f)(ct:vh sc N L i y=bX:=by decide +kernel)(c:cB sc scope N tg T n fs=bX:=by decide +kernel)(hs : ∀x,pf iter X.env x=pure x:=by intro _;rfl) :
 PS X (.Assign [.Name y py] (.ListComp elt [⟨tg,iter,[DG],0⟩] scope cpos) spos) (WK (tO X.K<|zU src T n fs kk f)<|vB i):=by
 obtain⟨a,b,d,s,q⟩:=cA h c;have r:=GP (cpos:=cpos) (spos:=spos) (py:=py) i h ct h.calm a b O q (λfp J C=>z fp J C<|s fp J C) (λfp J C=>I fp J C<|s fp J C) hs;rw[d,KG]at r;exact r
theorem zx(h:SX X sc N L k)(c:X0 sc N i x=bX:=by decide +kernel):PV X (.Name x pos) (zf i):=BB i<|h.var c
theorem zQ(h:SX X sc N L k)(c:X0 sc N i x=bX:=by decide +kernel):PQ X (.Name x pos) (zh i):=BO i<|h.var c
theorem oI(h:SX X sc N L k)(c:F6 sc N L e T=bX:=by decide +kernel):PG X e (ql X.K T):=rM h c
theorem jB(h:SX X sc N L k)(z:PV X e f)(c:vh sc N L i x=bX:=by decide +kernel)(hs:r9 e (bQ (.Name x py)) pos.line X.env=pure cE:=by rfl):kA X (.Assign [.Name x py] e pos) (jF i f):=tx i<|h.set i c z hs
theorem ya(h:SX X sc N L k)(z:PO X e fo)(c:vh sc N L i x=bX:=by decide +kernel)(hs:r9 e (bQ (.Name x py)) pos.line X.env=pure cE:=by rfl):kA X (.Assign [.Name x py] e pos) (xB i fo):=W0 i<|h.set i c z hs
theorem qQ{C:List iQ}{F:CO Fl}(hx:X.xe=λ_ _=>False)(h:SX X sc N L k)(I:g5 X tg iter src)(z:iT X C F)(c:F6 sc N L tg T=bX:=by decide +kernel)(hs : ∀x,pf iter X.env x=pure x:=by intro _;rfl):kA X (.For tg iter C [] pos) (yB src T F):=tG (Cf hx) h.calm I (rM h c) z hs
variable{j:Nat}{F:List D->Option Res}
theorem zY(z:eA X.prog X.w X.K X.mg X.base j x n F)(h:SX X sc N L k)(C:B9 X (e::es) n gl)(I:j<=k:=by decide)(c:vz sc x=bX:=by decide +kernel)
 (O:el (e::es) X.env=(cE,dv e X.env)::el es X.env:=by rfl) (U:(n6 pos<|starEach es X.env).any (·.1)=cE:=by rfl):PV X (.Call (.Name x p) (e::es) [] pos) (zE F gl):=GO z I h c C O U
theorem xZ(z:eA X.prog X.w X.K X.mg X.base j x n F)(h:SX X sc N L k)(C:B9 X (e::es) n gl)(I:j<=k:=by decide)(c:vz sc x=bX:=by decide +kernel)
 (O:el (e::es) X.env=(cE,dv e X.env)::el es X.env:=by rfl) (U:(n6 pos<|starEach es X.env).any (·.1)=cE:=by rfl):PO X (.Call (.Name x p) (e::es) [] pos) (jJ F gl):=GR z I h c C O U
end
noncomputable def XX:=jo 1 (zR (fy (wK (jX (sB (lr .str (zf 0)))) (sB (zK DH (xw (zf 0)) (zy (.int 6))))) (jR (zy (.bl cE))) jU) (jR (lu (js (zU (Bh (zf 0)) (.nm 0) 1 [] jz (LW (zf 0) (zG (zy (.tup [.str "r",.str "l"])))))))))
noncomputable def Je:=jo 2<|zR (fy (wK (jX<|sB<|zE Wx<|zb (zf 1)<|zb (zy<|.int 2) zI)<|wK (jX<|sB<|zE Vz<|zb (zf 0)<|zb (cq (zh 1)<|zy<|.int 0) zI)<|jX<|sB<|zE Vz<|zb (zf 0)<|zb (cq (zh 1)<|zy<|.int 1) zI) (jR<|zy<|.bl cE) jU)<|jR<|zK lp (cq (zh 1)<|zy<|.int 0)<|cq (zh 1)<|zy<|.int 1
noncomputable def jy:=jo 5<|zR (fy (mi (sB<|zK C3 (xY<|zh 0)<|zy<|.int 1)<|sB<|zK gm (zK yv (cq (zh 0)<|zy<|.int 0)<|zy<|.int 2)<|zy<|.int 1) (zR (jF 2<|cq (zh 0)<|zK qu (zy<|.int 1)<|zK yv (zf 1)<|zK Xi (xY<|zh 0)<|zy<|.int 1)<|zR (yB (zS<|dS (zy<|.int 60)<|zK Jv (zf 1)<|zK Xi (xY<|zh 0)<|zy<|.int 1) (.nm 3)<|jF 2<|zK Jv (zf 2)<|zK uK (zy<|.int 10)<|zy<|.int 9)<|jR<|zK yv (zf 2)<|zK uK (zy<|.int 10)<|zy<|.int 9) jU)<|zR (jF 4<|zf 1)<|zR (fy (sB<|zK C3 (xY<|zh 0)<|zy<|.int 0) (jF 4<|cq (zh 0)<|zK yv (zf 1)<|xY<|zh 0) jU)<|jR<|zK yv (zK yD (zK yv (zK qu (zK qu (zK qu (zK yD (zK yv (zf 4)<|zK uK (zy<|.int 10)<|zy<|.int 30)<|zy<|.int 48271)<|zK yD (zK yD (zy<|.int 7)<|zf 1)<|zf 1)<|zK yD (zy<|.int 13)<|zf 1)<|zy<|.int 5)<|zy<|.int 2147483647)<|zy<|.int 69621)<|zy<|.int 1000000007
noncomputable def ka:=jo 3 (zR (fy (sB (zK gm (cq (zh 1) (zy (.int 0))) (cq (zh 2) (zy (.int 0))))) (jR (zy (.bl bX))) jU) (jR (zK gm (yA (zf 0) (zK Xi (mf (cq (zh 1) (zy (.int 0))) (cq (zh 2) (zy (.int 0)))) (zy (.int 1)))) (dU (sB (zK sG (cq (zh 1) (zy (.int 0))) (cq (zh 2) (zy (.int 0))))) (zy (.str "l")) (zy (.str "r"))))))
noncomputable def xE:=jo 3 (zR (fy (sB (zK gm (cq (zh 1) (zy (.int 1))) (cq (zh 2) (zy (.int 1))))) (jR (zy (.bl bX))) jU) (jR (zK gm (yA (zf 0) (dS (cq (zh 1) (zy (.int 1))) (cq (zh 2) (zy (.int 1))))) (dU (sB (zK C3 (cq (zh 1) (zy (.int 1))) (cq (zh 2) (zy (.int 1))))) (zy (.str "r")) (zy (.str "l"))))))
noncomputable def kK:=jo 3<|zR (fy (sB<|zK C3 (mf (cq (zh 1)<|zy<|.int 0)<|cq (zh 2)<|zy<|.int 0)<|dS (cq (zh 1)<|zy<|.int 1)<|cq (zh 2)<|zy<|.int 1) (jR<|zy<|.int 0) jU)<|jR<|dU (mi (sB<|zE ka<|zb (zf 0)<|zb (zf 1)<|zb (zf 2) zI)<|sB<|zE xE<|zb (zf 0)<|zb (zf 1)<|zb (zf 2) zI) (zy<|.int 1)<|zy<|.int 0
noncomputable def jW:=jo 2 (zR (fy (sB (zK gm (yA (zf 0) (zf 1)) (zy (.str "r")))) (jR (xH (zb (zf 1) (zb (zK qu (zf 1) (zy (.int 1))) zI)))) jU) (jR (xH (zb (zK qu (zf 1) (zy (.int 1))) (zb (zf 1) zI)))))
noncomputable def xX:=jo 2 (jR (sJ (zy (.str "")) (js (zU (zS (zK Xi (zf 1) (zy (.int 1)))) (.nm 0) 1 [0] jz (yA (zy (.str "rl")) (zK yv (zK Jv (zf 1) (cq (js (j3 (zb (zy (.int 1)) (zb (zy (.int 2)) (zb (zy (.int 4)) (zb (zy (.int 8)) (zb (zy (.int 16)) zI))))))) (zf 0))) (zy (.int 2))))))))
noncomputable def qJ:=jo 3<|zR (xB 1<|j3 zI)<|zR (yB (zS<|zf 0) (.nm 2)<|dW 1<|zU (kg (zf 2)<|zf 0) (.nm 0) 1 [2] jz (xH<|zb (zf 1)<|zb (zf 0) zI))<|v9 1
noncomputable def xG:=jo 10<|zR (wA (.tp [3,4])<|zf 2)<|zR (xB 5<|j3 zI)<|zR (yB (zS<|xw<|zf 1) (.nm 6)<|zR (wA (.tp [7,8])<|zE jW<|zb (zf 1)<|zb (zf 6) zI)<|zR (jF 9<|ju<|js<|zU (zT<|zG<|cq (zh 4)<|zf 6) (.nm 0) 1 [] jz (ju<|zh 0))<|qv 5<|xH<|zb (yA (zf 1)<|zf 6)<|zb (xH<|zb (cq (zh 3)<|zf 8)<|zb (cq (zh 3)<|zf 7)<|zb (zf 9) zI) zI)<|jR<|xH<|zb (zf 0)<|zb (ju<|zh 3)<|zb (ju<|zh 5) zI
noncomputable def qp:=jo 5<|zR (fy (wK (jX<|sB<|lr .tuple<|zf 0)<|wK (sB<|zK eK (xY<|zh 0)<|zy<|.int 3)<|wK (jX<|sB<|zE jN<|zb (cq (zh 0)<|zy<|.int 0) zI)<|jX<|sB<|zE jN<|zb (cq (zh 0)<|zy<|.int 1) zI) (jR<|zy<|.bl cE) jU)<|zR (fy (wK (sB<|zK eK (cq (zh 0)<|zy<|.int 0)<|zf 2)<|wK (sB<|zK eK (cq (zh 0)<|zy<|.int 1)<|zf 3)<|wK (jX<|sB<|lr .tuple<|cq (zh 0)<|zy<|.int 2)<|sB<|zK eK (xY<|zG<|cq (zh 0)<|zy<|.int 2)<|zf 2) (jR<|zy<|.bl cE) jU)<|zR (yB (zT<|zG<|cq (zh 0)<|zy<|.int 2) (.nm 4)<|zR (fy (wK (jX<|sB<|lr .tuple<|zf 4)<|sB<|zK eK (xY<|zh 4)<|zf 3) (jR<|zy<|.bl cE) jU)<|fy (jX<|sB<|lu<|js<|zU (zT<|zh 4) (.nm 0) 1 [1] jz (cT (zE jN<|zb (zf 0) zI)<|y8 lp sG (zy<|.int 0) (zf 0)<|zf 1)) (jR<|zy<|.bl cE) jU)<|jR<|zy<|.bl bX
noncomputable def jC:=jo 4<|zR (fy (wK (jX<|sB<|lr .list<|zf 0)<|sB<|zK eK (xY<|zh 0)<|xY<|zh 2) (jR<|zy<|.bl cE) jU)<|jR<|lu<|js<|zU (zS<|xY<|zh 2) (.nm 0) 1 [0,1,2,3] jz (zE qp<|zb (cq (zh 1)<|zf 0)<|zb (zf 2)<|zb (cq (zh 3)<|zf 0)<|zb (cq (zh 4)<|zf 0) zI)
noncomputable def qb:=jo 1<|jR<|xH<|zb (cq (zh 0)<|zy<|.int 0)<|zb (zK Xi (zK qu (cq (zh 0)<|zy<|.int 0)<|xY<|zG<|cq (zh 0)<|zy<|.int 1)<|zy<|.int 1) zI
noncomputable def j8:=jo 2<|jR<|y8 lp sG (cq (zh 0)<|zy<|.int 0) (zf 1)<|zK qu (cq (zh 0)<|zy<|.int 0)<|xY<|zG<|cq (zh 0)<|zy<|.int 1
noncomputable def xu:=jo 2<|ZD<|zU (zT<|zh 0) (.nm 0) 1 [1] (sB<|zE j8<|zb (zf 0)<|zb (zf 1) zI) (cq (zG<|cq (zh 0)<|zy<|.int 1)<|zK Xi (zf 1)<|cq (zh 0)<|zy<|.int 0)
noncomputable def k5:=jo 2<|jR<|zE qB<|zb (xH<|zb (xY<|zh 1)<|zb (zf 0)<|zb (ju<|zh 1) zI) zI
noncomputable def yl:=jo 5<|zR (jF 4<|qh<|zU (K6 (zf 2)<|zf 1) (.tp [0,1]) 2 [3] (sB<|zE j8<|zb (zf 1)<|zb (zf 2) zI) (zf 0))<|jR<|zE cP<|zb (cq (zh 0)<|zy<|.int 0)<|zb (zE k5<|zb (cq (zG<|cq (zh 0)<|zy<|.int 1)<|zf 3)<|zb (qh<|jJ xu<|zb (zf 1)<|zb (zf 3) zI) zI)<|zb (zf 4) zI
noncomputable def K0:=jo 5<|zR (jF 3<|cq (zh 1)<|zE xh<|zb (zf 2) zI)<|zR (jF 4<|qh<|zU (zS<|xY<|zG<|cq (zh 3)<|zy<|.int 1) (.nm 0) 1 [0,1,2,3] jz (zE yl<|zb (zf 1)<|zb (zf 2)<|zb (zf 3)<|zb (zK qu (cq (zh 4)<|zy<|.int 0)<|zf 0) zI))<|jR<|xH<|zb (cq (zh 3)<|zy<|.int 0)<|zb (ju<|zh 4) zI
noncomputable def S3:=(jF 3<|cq (zG<|cq (zG<|cq (zh 0)<|zy<|.int 2)<|zf 1)<|zy<|.int 0)
noncomputable def S4:=(jF 4<|cq (zG<|cq (zG<|cq (zh 0)<|zy<|.int 2)<|zf 1)<|zy<|.int 1)
noncomputable def M5:=(jF 5 (dU (sB (zK gm (zf 3) (zy (.str "r")))) (qh (jJ vY (zb (cq (zh 0) (zy (.int 0))) (zb (zf 4) zI)))) (qh (jJ ZU (zb (cq (zh 0) (zy (.int 0))) (zb (zf 4) zI))))))
noncomputable def S5:=(jF 6<|qh<|jJ kJ<|zb (cq (zh 0)<|zy<|.int 0)<|zb (zE k5<|zb (cq (zG<|cq (zh 0)<|zy<|.int 1)<|zf 1)<|zb (qh<|jJ xu<|zb (zf 2)<|zb (zf 1) zI) zI)<|zb (zf 5) zI)
noncomputable def S6:=(jF 7<|oP<|zU (zT<|zh 6) (.nm 0) 1 [] jz (xH<|zb (zE xh<|zb (zf 0) zI)<|zb (zf 0) zI))
noncomputable def S7:=(ZD<|zU (oO<|zf 2) (.tp [0,1]) 2 [0,2,7] jz (dU (sB<|Bl (zf 0)<|zf 4) (zE K0<|zb (zf 2)<|zb (zf 3)<|zb (EY (zf 4)<|zf 0) zI)<|zf 1))
noncomputable def Zw:=jo 8<|zR S3<|zR S4<|zR M5<|zR S5<|zR S6 S7
noncomputable def DQ:=(fy (sB (zK gm (cq (zh 1) (zy (.int 0))) (zy (.str "l")))) (jR (zE vW (zb (zf 0) (zb (cq (zh 1) (zy (.int 1))) (zb (zf 2) zI))))) jU)
noncomputable def L8:=(jF 3<|zE cP<|zb (zf 0)<|zb (cq (zh 1)<|zy<|.int 1)<|zb (zf 2) zI)
noncomputable def L9:=(jR<|dU (sB<|An<|zh 3) (zf 3)<|zy .d7)
noncomputable def xR:=jo 4<|zR DQ<|zR L8 L9
noncomputable def T3:=(jF 3<|zE xR<|zb (zf 0)<|zb (zf 1)<|zb (cq (zG<|cq (zh 2)<|zy<|.int 1)<|dR<|zy<|.int 1) zI)
noncomputable def M9:=(jR<|dU (sB<|zK El (zf 3)<|zy .d7) (zf 2)<|xH<|zb (cq (zh 2)<|zy<|.int 0)<|zb (zK qu (cq (zh 2)<|zy<|.int 1)<|xH<|zb (zf 3) zI) zI)
noncomputable def yJ:=jo 4<|zR T3 M9
noncomputable def F0:=(fy (sB (zK gm (cq (zh 1) (zy (.int 0))) (zy (.str "l")))) (ZD (jJ vY (zb (zf 0) (zb (cq (zh 1) (zy (.int 1))) zI)))) jU)
noncomputable def R8:=(jF 2<|qh<|zU (zT<|js<|jJ ZU<|zb (zf 0)<|zb (cq (zh 1)<|zy<|.int 1) zI) (.nm 0) 1 [] jz (zE xh<|zb (zf 0) zI))
noncomputable def R9:=(ZD<|zU (mh<|cq (zG<|zE qX<|zb (cq (zG<|cq (zh 1)<|zy<|.int 1)<|zy<|.int 0) zI)<|zy<|.int 2) (.tp [0,1]) 2 [2] (sB<|yK (zf 0)<|zh 2) (zf 1))
noncomputable def yX:=jo 3<|zR F0<|zR R8 R9
noncomputable def P5:=(jF 3<|cq (zh 0)<|zy<|.int 0)
noncomputable def P6:=(jF 4<|cq (zG<|cq (zh 0)<|zy<|.int 2)<|zf 1)
noncomputable def P7:=(jF 5<|qh<|zU (zT<|zh 2) (.nm 0) 1 [1] (jX<|sB<|zE j8<|zb (zf 0)<|zb (zf 1) zI) (zf 0))
noncomputable def P8:=(jF 6<|qh<|jJ Zw<|zb (zf 0)<|zb (zf 1)<|zb (qh<|zU (zT<|zh 2) (.nm 0) 1 [1] (sB<|zE j8<|zb (zf 0)<|zb (zf 1) zI) (zf 0)) zI)
noncomputable def P9:=(jF 7<|qh<|zU (zT<|zh 6) (.nm 0) 1 [3,4] jz (zE yJ<|zb (zf 1)<|zb (zf 2)<|zb (zf 0) zI))
noncomputable def R0:=(jF 8<|qh<|zU (zT<|js<|jJ yX<|zb (zf 3)<|zb (zf 4) zI) (.nm 0) 1 [1] jz (xH<|zb (zK qu (zf 1)<|zy<|.int 1)<|zb (xH<|zb (zf 0) zI) zI))
noncomputable def I9:=(jR (qh (Kf (zh 5) (zG (dU (sB (zK gm (cq (zh 4) (zy (.int 0))) (zy (.str "r")))) (qh (Kf (zh 8) (zh 7))) (qh (Kf (zh 7) (zh 8))))))))
noncomputable def QT:=jo 9<|zR P5<|zR P6<|zR P7<|zR P8<|zR P9<|zR R0 I9
noncomputable def H9:=(jF 1<|qh<|zU (zT<|zG<|cq (zG<|zE qX<|zb (cq (zG<|cq (zh 0)<|zy<|.int 1)<|zy<|.int 0) zI)<|zy<|.int 2) (.nm 0) 1 [] jz (xH<|zb (zy<|.int 0)<|zb (xH<|zb (zf 0) zI) zI))
noncomputable def O6:=(yB (zS<|xY<|zG<|cq (zh 0)<|zy<|.int 2) (.nm 2)<|jF 1<|zE QT<|zb (zf 0)<|zb (zf 2)<|zb (zf 1) zI)
noncomputable def O7:=(ZD<|dP qb<|zh 1)
noncomputable def yZ:=jo 3<|zR H9<|zR O6 O7
noncomputable def O8:=(jF 1<|qh<|jJ yZ<|zb (zf 0) zI)
noncomputable def O9:=(jF 2<|qh<|zU (mh<|cq (zh 0)<|zy<|.int 1) (.tp [0,1]) 2 [1] jz (zE k5<|zb (zf 1)<|zb (qh<|jJ xu<|zb (zf 2)<|zb (zf 0) zI) zI))
noncomputable def Pt:=(jF 3<|qh<|zU (zT<|zh 2) (.nm 0) 1 [0] jz (zE k6<|zb (cq (zh 1)<|zy<|.int 0)<|zb (zf 0) zI))
noncomputable def Pz:=(jR<|xH<|zb (qh<|zU (zT<|zh 1) (.nm 0) 1 [] jz (zE qb<|zb (zf 0) zI))<|zb (zf 3)<|zb (zf 2) zI)
noncomputable def qc:=jo 4<|zR O8<|zR O9<|zR Pt Pz
noncomputable def qA:=jo 3<|jR<|Am<|js<|zU (zT<|zh 1) (.nm 0) 1 [0,2] jz (zE kK<|zb (zf 1)<|zb (zf 0)<|zb (zf 2) zI)
noncomputable def xv:=jo 3<|zR (sM<|zE qK<|zb (zf 0)<|zb (zf 1) zI)<|zR (jF 2<|cq (zG<|zE qc<|zb (zf 0) zI)<|zy<|.int 0)<|jR<|Am<|js<|zU (zT<|zG<|cq (zG<|zE qc<|zb (zf 1) zI)<|zy<|.int 0) (.nm 0) 1 [0,2] jz (zE qA<|zb (zE x9<|zb (zf 1) zI)<|zb (zf 2)<|zb (zf 0) zI)
noncomputable def rL:CO (List D):=zU (zS<|xY<|zh 3) (.nm 0) 1 [0,2,3] jz (zK yD (cq (zh 3)<|zf 0)<|cq (zG<|cq (zh 2)<|zf 0)<|zf 1)
noncomputable def ba:CO (List D):=zU (zS<|zf 3) (.nm 0) 1 [0,2,5] jz (zK yv (Am<|js rL)<|zf 1)
noncomputable def jG:=jo 6<|zR (xB 4<|j3 zI)<|zR (yB (zT<|zG<|zf 1) (.nm 5)<|qv 4<|qh ba)<|v9 4
noncomputable def Cj:=jF 9<|qh<|jJ jG<|zb (zf 0)<|zb (cq (zG<|cq (zh 4)<|zf 7)<|zy<|.int 2)<|zb (cq (zG<|cq (zh 2)<|zy<|.int 1)<|zf 5)<|zb (zf 8) zI
noncomputable def ub:CO D:=qh<|jJ jG<|zb (zf 0)<|zb (cq (zG<|cq (zh 3)<|zy<|.int 1)<|zf 5)<|zb (cq (zG<|cq (zh 4)<|zf 6)<|zy<|.int 2)<|zb (zf 8) zI
noncomputable def mU:=zR (wA (.tp [6,7])<|zE jW<|zb (zf 1)<|zb (zf 5) zI)<|zR (jF 8<|cq (zG<|cq (zh 2)<|zy<|.int 0)<|zf 6)<|zR Cj<|fy (sB<|zK eK (zf 9) ub) (jR<|zy<|.bl cE) jU
noncomputable def qY:=jo 10<|zR (yB (zS<|xw<|zf 1) (.nm 5) mU)<|jR<|zy<|.bl bX
noncomputable def xf:=jo 3<|ZD<|zU (K6 (zf 1)<|zf 2) (.tp [0,1]) 2 [0] jz (zE k3<|zb (zf 2)<|zb (zf 0)<|zb (zf 1) zI)
noncomputable def xl:=jo 4<|jR<|zK eK (zE qA<|zb (zf 0)<|zb (zf 1)<|zb (zf 3) zI)<|zE qA<|zb (zf 0)<|zb (zf 2)<|zb (zf 3) zI
noncomputable def EJ:CO Bool:=sB<|zK eK (xM (zh 1)<|zf 0)<|xM (zh 2)<|zf 0
noncomputable def EI:CO Bool:=sB<|zE xl<|zb (zf 1)<|zb (zf 2)<|zb (zf 3)<|zb (zf 0) zI
noncomputable def QV:=jo 6 (zR (jF 3 (qh (jJ qJ (zb (zK qu (xw (zf 0)) (zy (.int 1))) zI)))) (zR (jF 4 (cq (js (zU (zT (zh 3)) (.nm 0) 1 [1,2] EJ (zf 0))) (zy (.int 0)))) (zR (jF 5 (cq (js (zU (zT (zh 3)) (.nm 0) 1 [0,1,2] EI (zf 0))) (zy (.int 0)))) (jR (xH (zb (zy (.str "apart")) (zb (zf 4) (zb (xM (zh 1) (zf 4)) (zb (xM (zh 2) (zf 4)) (zb (zf 5) zI))))))))))
noncomputable def y6:=jo 6 (zR (sM (zE qK (zb (zf 0) (zb (zf 1) zI)))) (zR (jF 2 (zE qc (zb (zf 0) zI))) (zR (jF 3 (zE qc (zb (zf 1) zI))) (zR (fy (sB (zK eK (cq (zh 2) (zy (.int 0))) (cq (zh 3) (zy (.int 0))))) (jR (zE QV (zb (zE x9 (zb (zf 0) zI)) (zb (cq (zh 2) (zy (.int 0))) (zb (cq (zh 3) (zy (.int 0))) zI))))) jU) (zR (jF 4 (qh (jJ xf (zb (cq (zh 0) (zy (.int 0))) (zb (cq (zh 3) (zy (.int 2))) (zb (cq (zh 2) (zy (.int 1))) zI)))))) (zR (jF 5 (qh (jJ xf (zb (cq (zh 0) (zy (.int 0))) (zb (cq (zh 2) (zy (.int 2))) (zb (cq (zh 3) (zy (.int 1))) zI)))))) (jR (xH (zb (zy (.str "alike")) (zb (zf 4) (zb (zf 5) zI)))))))))))
noncomputable def qf:=jo 11<|zR (xB 6<|j3 zI)<|zR (yB (zS<|zf 3) (.nm 7)<|zR (xB 8<|j3 zI)<|zR (yB (zS<|zf 4) (.nm 9)<|zR (jF 10<|zE jy<|zb (zf 0)<|zb (zK qu (zK qu (zf 1)<|zK yD (zf 4)<|zf 7)<|zf 9) zI)<|qv 8<|zK yD (zK yv (zK Jv (zf 10)<|zy<|.int 7)<|zf 2)<|bu<|zK DH (zK yv (zK Jv (zf 10)<|zy<|.int 64)<|zy<|.int 3)<|zf 5)<|cS 8<|qv 6<|zf 8)<|v9 6
noncomputable def ym:=jo 11<|zR (jF 6<|qh<|zU (zS<|zK qu (xw<|zf 3)<|zy<|.int 1) (.nm 0) 1 [0,1,4] jz (zK yv (zK Jv (zE jy<|zb (zf 1)<|zb (zK qu (zf 2)<|zf 0) zI)<|zy<|.int 3)<|zK qu (zf 3)<|zy<|.int 1))<|zR (xB 7<|j3 zI)<|zR (yB (zS<|xw<|zf 3) (.nm 8)<|zR (wA (.tp [9,10])<|zE jW<|zb (zf 3)<|zb (zf 8) zI)<|qv 7<|qh<|jJ qf<|zb (zf 0)<|zb (zK qu (zK qu (zf 1)<|zy<|.int 5)<|zK yD (zy<|.int 9)<|zf 8)<|zb (zf 2)<|zb (cq (zh 6)<|zf 10)<|zb (cq (zh 6)<|zf 9)<|zb (zf 5) zI)<|cS 7<|jR<|xH<|zb (zf 6)<|zb (zf 7) zI
noncomputable def EU:=xB 4<|j3<|zb (zy<|.int 0) zI
noncomputable def ET:=yB (K6 (cq (zh 2)<|zy<|.int 0)<|cq (zh 3)<|zy<|.int 0) (.tp [5,6])<|qv 4<|zK qu (cq (zh 4)<|dR<|zy<|.int 1)<|zK yD (zf 5)<|zf 6
noncomputable def Gi:=xB 7<|j3 zI
noncomputable def Gm:=xB 13<|dQ (js<|j3<|zb (zy<|.int 0) zI) rX
noncomputable def Gk:=jF 14<|zK qu (cq (zh 4)<|zf 10)<|zK yD (zf 11)<|VF 2 10
noncomputable def rZ:=Xt 13 (zK qu (zf 14)<|zf 15)<|Al 2 15 12
noncomputable def LR:=yB (zS<|VF 2 10) (.nm 15) rZ
noncomputable def Gj:=jF 14<|zK qu (cq (zh 4)<|zf 9)<|zf 12
noncomputable def AZ:=zR (jF 16<|Al 3 11 15)<|Xt 13 (zK qu (zf 14)<|zK yD (zf 15)<|VF 2 9)<|zK yv (zK Xi (zy<|.int 0)<|zf 16)<|zf 0
noncomputable def LQ:=yB (zS<|VF 3 9) (.nm 15) AZ
noncomputable def IE:=cS 13<|qv 7<|zf 13
noncomputable def Gf:=zR Gm<|zR Gk<|zR LR<|zR Gj<|zR LQ IE
noncomputable def AW:=yB (zS<|VF 2 9) (.nm 12) Gf
noncomputable def Gg:=yB (zS<|VF 3 10) (.nm 11) AW
noncomputable def Gh:=wA (.tp [9,10])<|zE jW<|zb (zf 1)<|zb (zf 8) zI
noncomputable def Ge:=zR Gh Gg
noncomputable def ID:=cS 7<|jR<|xH<|zb rX<|zb (zf 7) zI
noncomputable def xj:=jo 17<|zR EU<|zR ET<|zR Gi<|zR (yB (zS<|xw<|zf 1) (.nm 8) Ge) ID
noncomputable def EZ:=xB 1<|zU (zT<|zh 1) (.nm 0) 1 [] jz (qh<|Ke<|zh 0)
noncomputable def GI:=jF 2<|zy<|.int 0
noncomputable def Ao:CO D:=sI<|js<|Kf (js<|j3<|zb (zy<|.int 0) zI)<|js<|zU (zT<|zh 1) (.nm 0) 1 [] jz (xY<|zh 0)
noncomputable def Bq:CO Bool:=sB<|zK eK (zK yv (cq (zG<|cq (zh 2)<|zf 0)<|zf 3)<|zf 1)<|zy<|.int 0
noncomputable def GH:=jF 4<|qh<|sO 1<|zU (kg (zf 2)<|xY<|zh 1) (.nm 0) 1 [0,1,3] Bq (zf 0)
noncomputable def GG:=Gr 5 1<|cq (zh 4)<|zy<|.int 0
noncomputable def sT:CO Bool:=sB<|zK gm (zK yv (zK yD (zf 0)<|cq (zh 3)<|zf 2)<|zf 1)<|zy<|.int 1
noncomputable def GF:=jF 6<|cq (js<|zU (kg (zy<|.int 1)<|zf 0) (.nm 0) 1 [0,3,5] sT (zf 0))<|zy<|.int 0
noncomputable def GE:=jF 5<|qh<|zU (zT<|zh 5) (.nm 0) 1 [0,6] jz (zK yv (zK yD (zf 0)<|zf 2)<|zf 1)
noncomputable def GD:=Gv 1 (zf 2)<|zf 5
noncomputable def dZ:=jF 8<|cq (zG<|cq (zh 1)<|zf 7)<|zf 3
noncomputable def dY:=Xt 1 (zf 7)<|qh<|zU (K6 (cq (zh 1)<|zf 7)<|zf 5) (.tp [0,1]) 2 [0,8] jz (zK yv (zK Xi (zf 0)<|zK yD (zf 3)<|zf 1)<|zf 2)
noncomputable def GC:=yB (kg (zK qu (zf 2)<|zy<|.int 1)<|xY<|zh 1) (.nm 7)<|zR dZ dY
noncomputable def GB:=jF 2<|zK qu (zf 2)<|zy<|.int 1
noncomputable def IP:=zR GG<|zR GF<|zR GE<|zR GD<|zR GC GB
noncomputable def Fb:=zR GH<|fy (sB<|zK eK (zf 4)<|qh<|j3 zI) IP jU
noncomputable def vX:=jo 9<|zR EZ<|zR GI<|zR (yB (zS Ao) (.nm 3) Fb)<|v9 2
noncomputable def rF:CO D:=qh<|zU (zS<|cq (zh 1)<|zf 2) (.nm 0) 1 [0] jz (bu<|zK gm (zf 1)<|zf 0)
noncomputable def AD:=jF 5<|qh<|zU (zS<|cq (zh 1)<|zf 4) (.nm 0) 1 [1,4] jz rF
noncomputable def rG:CO D:=qh<|jJ jG<|zb (zf 0)<|zb (cq (zG<|cq (zh 2)<|zf 4)<|zy<|.int 2)<|zb (cq (zG<|cq (zh 3)<|zf 4)<|zy<|.int 2)<|zb (cq (zh 1)<|zf 4) zI
noncomputable def lL:=zR AD<|fy (sB<|zK eK rG<|zf 5) (jR<|zy<|.bl cE) jU
noncomputable def xF:=jo 6<|zR (yB (zS<|xY<|zh 1) (.nm 4) lL)<|jR<|zy<|.bl bX
noncomputable def HM:CO D:=bu<|y8 lp lp (cq (zh 1)<|zy<|.int 0) (zf 0)<|cq (zh 1)<|zy<|.int 1
noncomputable def FA:=jF 2<|qh<|zU (zS<|zK qu (xw<|zf 0)<|zy<|.int 1) (.nm 0) 1 [1] jz HM
noncomputable def HK:CO D:=qh<|dQ (js<|j3<|zb (zy<|.int 1) zI)<|cq (zh 1)<|zf 2
noncomputable def HL:CO (List D):=zU (zS<|cq (zh 2)<|zf 6) (.nm 0) 1 [2,5] jz HK
noncomputable def HN:=zR (wA (.tp [5,6])<|zE jW<|zb (zf 0)<|zb (zf 4) zI)<|qv 3<|qh HL
noncomputable def kc:=jo 7<|zR FA<|zR (xB 3<|j3 zI)<|zR (yB (zS<|xw<|zf 0) (.nm 4) HN)<|cS 3<|jR<|xH<|zb (zf 2)<|zb (zf 3) zI
noncomputable def qC:=jo 6<|zR (wA (.tp [4,5])<|zE xj<|zb (zf 0)<|zb (zf 1)<|zb (zf 2)<|zb (zf 3) zI)<|jR<|zK Xi (zf 4)<|zE vX<|zb (zf 0)<|zb (zf 5) zI
noncomputable def jS:=jo 7 (zR (fy (wK (jX (sB (lr .tuple (zf 0)))) (sB (yK (xY (zh 0)) (js (j3 (zb (zy (.int 3)) (zb (zy (.int 5)) zI))))))) (jR (zy (.bl cE))) jU) (zR (fy (sB (zK gm (cq (zh 0) (zy (.int 0))) (zy (.str "apart")))) (zR (jF 5 (cq (zh 0) (dR (zy (.int 1))))) (zR (fy (wK (sB (zK eK (xY (zh 0)) (zy (.int 5)))) (wK (jX (sB (lr .tuple (zf 5)))) (wK (sB (zK eK (xY (zh 5)) (zy (.int 2)))) (jX (sB (JT lp lp lp (zy (.int 0)) (cq (zh 5) (zy (.int 0))) (cq (zh 5) (zy (.int 1))) (xw (zf 2)))))))) (jR (zy (.bl cE))) jU) (zR (jF 6 (zE kc (zb (zf 2) (zb (zf 5) zI)))) (jR (zK eK (zE qC (zb (zf 1) (zb (zf 2) (zb (zf 3) (zb (zf 6) zI))))) (zE qC (zb (zf 1) (zb (zf 2) (zb (zf 4) (zb (zf 6) zI)))))))))) jU) (zR (fy (wK (sB (zK eK (cq (zh 0) (zy (.int 0))) (zy (.str "alike")))) (wK (sB (zK eK (xY (zh 0)) (zy (.int 3)))) (sB (zK eK (cq (zh 3) (zy (.int 0))) (cq (zh 4) (zy (.int 0))))))) (jR (zy (.bl cE))) jU) (zR (fy (wK (jX (sB (zE jC (zb (cq (zh 0) (zy (.int 1))) (zb (zf 1) (zb (cq (zh 4) (zy (.int 0))) (zb (cq (zh 3) (zy (.int 0))) zI))))))) (jX (sB (zE jC (zb (cq (zh 0) (zy (.int 2))) (zb (zf 1) (zb (cq (zh 3) (zy (.int 0))) (zb (cq (zh 4) (zy (.int 0))) zI)))))))) (jR (zy (.bl cE))) jU) (zR (fy (wK (jX (sB (zE qY (zb (zf 1) (zb (zf 2) (zb (zf 3) (zb (zf 4) (zb (cq (zh 0) (zy (.int 1))) zI)))))))) (jX (sB (zE qY (zb (zf 1) (zb (zf 2) (zb (zf 4) (zb (zf 3) (zb (cq (zh 0) (zy (.int 2))) zI))))))))) (jR (zy (.bl cE))) jU) (jR (zE xF (zb (zf 1) (zb (cq (zh 3) (zy (.int 0))) (zb (cq (zh 0) (zy (.int 1))) (zb (cq (zh 0) (zy (.int 2))) zI)))))))))))
noncomputable def kE:=jo 6<|zR (jF 4<|zE xG<|zb (zf 0)<|zb (zf 1)<|zb (zf 2) zI)<|zR (jF 5<|zE xG<|zb (zf 0)<|zb (zf 1)<|zb (zf 3) zI)<|zR (fy (sB<|zK eK (zE xv<|zb (zf 4)<|zb (zf 5) zI)<|zE qC<|zb (zf 0)<|zb (zf 1)<|zb (zf 2)<|zb (zf 3) zI) (jR<|zy<|.bl cE) jU)<|zR (fy (sB<|zK eK (zE xv<|zb (zf 5)<|zb (zf 4) zI)<|zE qC<|zb (zf 0)<|zb (zf 1)<|zb (zf 3)<|zb (zf 2) zI) (jR<|zy<|.bl cE) jU)<|jR<|zE jS<|zb (zE y6<|zb (zf 4)<|zb (zf 5) zI)<|zb (zf 0)<|zb (zf 1)<|zb (zf 2)<|zb (zf 3) zI
noncomputable def GA:=zR (wA (.tp [7,8])<|zE jW<|zb (zf 2)<|zb (zf 6) zI)<|qv 5<|qh<|jJ qf<|zb (zf 0)<|zb (zK qu (zy<|.int 55)<|zK yD (zy<|.int 9)<|zf 6)<|zb (zf 1)<|zb (cq (zh 3)<|zf 8)<|zb (cq (zh 3)<|zf 7)<|zb (zf 4) zI
noncomputable def qj:=jo 9<|zR (xB 5<|j3 zI)<|zR (yB (zS<|xw<|zf 2) (.nm 6) GA)<|v9 5
noncomputable def rE:=jF 1<|zE jy<|zb (zf 0)<|zb (zy<|.int 0) zI
noncomputable def rD:=jF 2<|cq (js<|j3<|zb (zy<|.int 2)<|zb (zy<|.int 3)<|zb (zy<|.int 5)<|zb (zy<|.int 7) zI)<|zK yv (zf 1)<|zy<|.int 4
noncomputable def rC:=jF 3<|zE xX<|zb (zK Jv (zf 1)<|zy<|.int 16)<|zb (zK qu (zy<|.int 1)<|zK yv (zK Jv (zf 1)<|zy<|.int 4)<|zy<|.int 4) zI
noncomputable def rB:=jF 4<|zE ym<|zb (zf 0)<|zb (zy<|.int 1)<|zb (zf 2)<|zb (zf 3)<|zb (zy<|.int 3)<|zb (zK yv (zK Jv (zf 1)<|zy<|.int 512)<|zy<|.int 3) zI
noncomputable def rA:=jF 5<|zE ym<|zb (zf 0)<|zb (zy<|.int 50)<|zb (zf 2)<|zb (zf 3)<|zb (zy<|.int 3)<|zb (zK yv (zK Jv (zf 1)<|zy<|.int 512)<|zy<|.int 3) zI
noncomputable def da:=fy (sB<|zK gm (zK yv (zK Jv (zf 1)<|zy<|.int 4096)<|zy<|.int 2)<|zy<|.int 1) (jF 5<|xH<|zb (cq (zh 4)<|zy<|.int 0)<|zb (qh<|jJ qj<|zb (zf 0)<|zb (zf 2)<|zb (zf 3)<|zb (cq (zh 4)<|zy<|.int 0)<|zb (zK yv (zK Jv (zf 1)<|zy<|.int 512)<|zy<|.int 3) zI) zI) jU
noncomputable def rz:=jR<|zE kE<|zb (zf 2)<|zb (zf 3)<|zb (zf 4)<|zb (zf 5) zI
noncomputable def QS:=jo 6<|zR rE<|zR rD<|zR rC<|zR rB<|zR rA<|zR da rz
abbrev o9(k:Sk)(xs:List D):D:=match k with | .T=>D.tup xs | .L=>D.lst xs
@[simp] theorem Le(k xs):jj (o9 k xs)=bQ (k,xs):=by cases k<;>rfl
theorem XU(k:Sk)(f:Nat->Int)(z:0<p)(C:n<=lim) :
 kj [.int p,o9 k (zB n f)]=bQ (.val<|.tup<|zB n λi=>f i%p):=by
 simp[kj,jo,z9,jn,C,kX];unfold zB;rw[zC (r:=λi=>D.int<|f i%p)]
 ·simp
 ·intro i a
  refine zD rfl rfl ?_;simp[z]
theorem iX(f:Nat->Int)(z:0<p)(C:n<=lim) :
 kj [.int p,.tup (zB n f)]=bQ (.val<|.tup<|zB n λi=>f i%p):=XU .T f z C
theorem QR(f:Nat->Int)(z:0<p)(C:n<=lim) :
 kj [.int p,.lst (zB n f)]=bQ (.val<|.tup<|zB n λi=>f i%p):=XU .L f z C
theorem K4(k:Sk)(f:UV)(g:Nat->Int)(I:0<p)(z:h<=lim)(C:w<=lim)(O : ∀i j,i<h->j<w->0<=f i j/\f i j<100) :
 cP [.int p,qN h w f,o9 k (zB w g)]=bQ (.val<|.tup<|zB h λi=>zg (λj=>f i j*g j) w%p):=by
 simp[cP,jo,z9,jn,z,kX,qN,MV];unfold jc;rw[zC (r:=λi=>D.int<|zg (λj=>f i j*g j) w)]
 ·simp
  rw[show(List.map (λi=>D.int<|zg (λj=>f i j*g j) w)<|MO h)=zB h λi=>zg (λj=>f i j*g j) w from rfl,QR _ I z];rfl
 ·intro i a
  refine zD rfl rfl ?_;simp[jn,Wz,C];rw[zC (r:=λj=>D.int<|f i j*g j)]
  ·simp
   rw[show(List.map (λj=>D.int<|f i j*g j)<|MO w)=zB w λj=>f i j*g j from rfl,JK]
  ·intro j U
   refine zD rfl rfl ?_;have:=O i j (MR.mp a)<|MR.mp U;simp[vG (f i j) (g j) ⋯ ⋯]
theorem vK(f:UV)(z:h<=lim)(C:w<=lim):qB [qN h w f]=bQ (.val<|qN w h λi j=>f j i):=by
 simp[qB,jo,z9,jn,z,C,kX,qN,MV,jI,j9];rw[jw w λi=>(i:Int)];rw[zC (r:=λj=>D.tup<|zB h λi=>f i j)]
 ·simp
  rfl
 ·intro j I
  refine zD rfl rfl ?_;simp[jn,z,kX];unfold jc;rw[zC (r:=λi=>D.int<|f i j)]
  ·simp
   rfl
  ·intro i b
   refine zD rfl rfl ?_;have a:=MR.mp I;simp[a,Zn _ a]
theorem Vy{p:Int}{h m w:Nat}(f g:UV)(z:0<p)(I:h<=lim)(C:m<=lim)(J:w<=lim)(O : ∀i j,i<m->j<w->0<=g i j/\g i j<100) :
 k3 [.int p,qN h m f,qN m w g]=bQ (.val<|qN h w λi j=>zg (λk=>g k j*f i k) m%p):=by
 simp[k3,jo,z9,jI,vK g C J];simp[jn,I,C,J,kX,qN];rw[show jc h m f=(MO h).map λi=>D.tup (zB m<|f i)from rfl];rw[zC (r:=λi=>D.tup<|zB w λj=>zg (λk=>g k j*f i k) m%p)]
 ·simp
  rfl
 ·intro i l
  refine zD rfl rfl ?_;have e:=K4 .T (λi j=>g j i) (f i) z J C<|λa b d U=>O b a U d;simp[qN]at e ⊢;rw[e];simp
theorem vJ(C:n<=lim):qX [.int n]=bQ (.val<|qN n n λi j=>if i=j then 1 else 0):=by
 simp[qX,jo,z9,jI,C,jn,kX,MV,j9];rw[jw n λi=>(i:Int)];rw[zC (r:=λi=>D.tup<|zB n λj=>if i=j then 1 else 0)]
 ·simp
  rfl
 ·intro i a
  refine zD rfl rfl ?_;simp[C,jn,MV,j9,kX];rw[jw n λi=>(i:Int)];rw[zC (r:=λj=>D.int<|if i=j then 1 else 0)]
  ·simp
   rfl
  ·intro j z
   refine zD rfl rfl ?_;simp;by_cases e:i=j
   ·simp[e]
   ·rw[UY ⋯,UY e]
theorem ed(d:D)(w:Nat):MV w d=(MO w).map λ_=>d:=by
 induction w with
 | zero=>rfl
 | succ n z=>rw[List.replicate_succ',z,NT,NF];simp
noncomputable def yd(C:List Int):D:= .lst (C.map D.int)
mutual
theorem I0 : ∀d:D,g9 d d=bX
 | .d7=>rfl
 | .bl b=>by simp[g9]
 | .int i=>by simp[g9]
 | .str x=>by simp[g9]
 | .tup e=>by simp only[g9];exact DJ e
 | .lst e=>by simp only[g9];exact DJ e
 | .i8 a b=>by simp only[g9];rw[DJ a,DJ b];rfl
 | .i0 a b=>by simp only[g9];rw[DJ b];simp
theorem DJ : ∀ds:List D,o4 ds ds=bX
 | []=>rfl
 | d::ds=>by simp only[o4,I0 d,DJ ds,Bool.and_self]
end
theorem vT : ∀{l:List D} {n:Nat},(∀d∈l,deep d<=n)->p9 l<=n
 | [],n,_=>OD n
 | d::ds,n,h=>by simp only[p9];exact Nat.max_le.mpr ⟨h d Nk,vT λe z=>h e<|Np _ z⟩
theorem aI(n f):deep (.tup<|zB n f)<=1:=by
 simp only[deep];have:p9 (zB n f)<=0:=vT λd a=>by simp[zB]at a;obtain⟨i,_,rfl⟩:=a;exact MY _
 omega
theorem oh(h w f):deep (.tup<|jc h w f)<=2:=by
 simp only[deep];have:p9 (jc h w f)<=1:=vT λd a=>by simp[jc]at a;obtain⟨i,_,rfl⟩:=a;exact aI _ _
 omega
theorem ZL : ∀{l:List D},(∀d∈l,hX d=bX)->m6 l=bX
 | [],_=>rfl
 | d::ds,h=>by simp only[m6,h d Nk,ZL λe z=>h e<|Np _ z,Bool.and_self]
theorem YQ(h:deep d<=n)(I:n<=20)(C:hX d=bX):i4 d=bX:=by unfold i4;rw[C,Bool.and_true];exact decide_eq_true<|NZ h I
theorem fJ(n f):hX (.tup<|zB n f)=bX:=by
 simp only[hX];exact ZL λd a=>by simp[zB]at a;obtain⟨i,_,rfl⟩:=a;rfl
theorem ug(h w f):hX (.tup<|jc h w f)=bX:=by
 simp only[hX];exact ZL λd a=>by simp[jc]at a;obtain⟨i,_,rfl⟩:=a;exact fJ _ _
theorem om(h:i4 d=bX):gm d d=bQ (.bl bX):=by unfold gm;rw[UJ ⟨h,h⟩,I0]
theorem ye{d:D}(h:i4 d=bX):eK d d=bQ (.bl cE):=by unfold eK;rw[UJ ⟨h,h⟩,I0];rfl
theorem wJ(i:Int):jN [.int i]=bQ (.val<|.bl bX):=by simp[jN,jo,z9,aw]
theorem Ye{C:Type}(l:List C):JF (l.map λ_=>D.bl bX)=bQ (l.map λ_=>bX):=by
 induction l with
 | nil=>rfl
 | cons a l z=>simp[JF,ER,z]
theorem aT{C:Type}(l:List C):((l.map λ_=>bX).all id)=bX:=by
 induction l with
 | nil=>rfl
 | cons a l z=>simp[z]
noncomputable def ij(b:Bool):Nat:=if b then 108 else 114
noncomputable def vN(c:Nat):Str:=⟨#[c]⟩
theorem XF : ∀(l:List Nat),(Ue "" (l.map vN)).cps.toList=l
 | []=>rfl
 | [c]=>rfl
 | c::d::l=>by
  have z:=XF (d::l);show((vN c++("" : Str))++Ue "" ((d::l).map vN)).cps.toList=_;have e : ∀a b:Str,(a++b).cps.toList=a.cps.toList++b.cps.toList:=λa b=>by show(a.cps++b.cps).toList=_;simp
  rw[e,e,z];rfl
noncomputable def j5(m:Nat)(w:UK):Str:=Ue "" ((MO m).map λk=>vN (ij (w k)))
theorem yz(m w):(j5 m w).cps.toList=(MO m).map λk=>ij (w k):=by have:=XF<|(MO m).map λk=>ij<|w k;rw[NB]at this;exact this
theorem ky(m w):(j5 m w).length=m:=by show(j5 m w).cps.size=m;rw[<- OU,yz];simp
theorem qZ{m:Nat}(w)(C:m<=1000):qg (j5 m w)=bX:=decide_eq_true (by rw[ky];exact C)
theorem X9{C:Type}(g:C->Str) : ∀l:List C,Yo (l.map λx=>D.str<|g x)=bQ (l.map g)
 | []=>rfl
 | a::l=>by simp[Yo,X9 g l]
noncomputable def eh(w:UK)(wd:UX)(k:Nat):Nat:=if w k then wd k else wd (k+1)
noncomputable def d8(w:UK)(wd:UX)(k:Nat):Nat:=if w k then wd (k+1)else wd k
noncomputable def Zy(w:UK)(wd:UX)(T:UW)(k:Nat):D:= .tup [.str (vN<|ij<|w k),qN (eh w wd k) (d8 w wd k) (T k)]
noncomputable def yG(m:Nat)(w:UK)(wd:UX)(T:UW):List D:=(MO m).map (Zy w wd T)
noncomputable def qO(p:Int)(m:Nat)(w:UK)(wd:UX)(T:UW):D:= .tup [.int p,.tup<|zB (m+1) λk=>(wd k:Int),.tup (yG m w wd T)]
@[simp] theorem Vu(m w wd T):(yG m w wd T).length=m:=by simp[yG]
theorem wN{m k:Nat}(w)(C:m<=1000)(z:k<m)(γ:Ctx)(f g:CO D)(I:f γ=bQ (.str<|j5 m w))(O:g γ=bQ (.int k)):yA f g γ=bQ (.str<|vN<|ij<|w k):=by rw[Zt,I,O];simp only[MW,kY];rw[UJ (qZ w C),yz];simp[z,vN]
theorem pJ(b:Bool):gm (.str (vN (ij b))) (.str "l")=bQ (.bl b):=by
 have e : ∀b:Bool,(vN (ij b)==(NS "l"))=b:=by decide +kernel
 have z : ∀b:Bool,i4 (.str<|vN<|ij b)=bX:=by decide +kernel
 have I:i4 (.str (NS "l"))=bX:=by decide +kernel
 unfold gm;rw[UJ ⟨z b,I⟩];show bQ (D.bl (vN (ij b)==NS "l"))=_;rw[e]
theorem Cs(b:Bool):i4 (.str<|vN<|ij b)=bX:=by cases b<;>decide +kernel
theorem Wd(b:Bool):gm (.str (vN (ij b))) (.str "r")=bQ (.bl (!b)):=by
 have e : ∀b:Bool,(vN (ij b)==(NS "r")) = !b:=by decide +kernel
 have z:i4 (.str (NS "r"))=bX:=by decide +kernel
 unfold gm;rw[UJ ⟨Cs b,z⟩];show bQ (D.bl (vN (ij b)==NS "r"))=_;rw[e]
theorem zw : ∀{n:Nat},(∀k,k<n->f k=g k)->zg f n=zg g n
 | 0,_=>rfl
 | n+1,h=>by simp only[zg];rw[zw (n:=n) λk z=>h k ⋯,h n ⋯]
theorem zH(n:Nat):zg (λ_=>0) n=0:=by
 induction n with
 | zero=>rfl
 | succ n z=>simp[zg,z]
theorem zN(C:i<n)(h : ∀k,k<n->k≠i->f k=0):zg f n=f i:=by
 induction n with
 | zero=>omega
 | succ n z=>
  simp only[zg];by_cases e:i=n
  ·subst e
   rw[zw (g:=λ_=>0) (λk I=>h k ⋯ ⋯),zH];omega
  ·rw[z ⋯ λk I=>h k ⋯,h n ⋯ ⋯]
   omega
theorem jO(f g:Nat->Int)(n:Nat):zg (λk=>f k+g k) n=zg f n+zg g n:=by
 induction n with
 | zero=>rfl
 | succ n z=>simp only[zg,z];omega
theorem qI(f:Nat->Int)(c:Int)(n:Nat):zg (λk=>f k*c) n=zg f n*c:=by
 induction n with
 | zero=>simp[zg]
 | succ n z=>simp only[zg,z,SG]
theorem ja(f:Nat->Int)(c:Int)(n:Nat):zg (λk=>c*f k) n=c*zg f n:=by
 induction n with
 | zero=>simp[zg]
 | succ n z=>simp only[zg,z,RZ]
theorem jT(f:UV)(n m:Nat):zg (λi=>zg (λj=>f i j) m) n=zg (λj=>zg (λi=>f i j) n) m:=by
 induction n with
 | zero=>simp[zg,zH]
 | succ n z=>simp only[zg];rw[z,<- jO]
theorem zL : ∀{n:Nat},(∀k,k<n->f k%p=g k%p)->zg f n%p=zg g n%p
 | 0,_=>rfl
 | n+1,h=>by simp only[zg];rw[Ny,zL (n:=n)<|λk z=>h k ⋯,h n ⋯,<- Ny]
theorem fR(p x y:Int):(x%p*y)%p=(x*y)%p:=by rw[MX,NP,<- MX]
theorem Zg(p x y:Int):(x*(y%p))%p=(x*y)%p:=by rw[MX,NP,<- MX]
theorem du(p:Int)(a b c:UV)(m w i j:Nat) :
 zg (λk=>a i k*(zg (λl=>b k l*c l j) w%p)) m%p=zg (λl=>(zg (λk=>a i k*b k l) m%p)*c l j) w%p:=by
 rw[zL (g:=λk=>zg (λl=>a i k*(b k l*c l j)) w) (λk _=>by rw[Zg,ja]),
  zL (f:=λl=>(zg (λk=>a i k*b k l) m%p)*c l j) (g:=λl=>zg (λk=>a i k*(b k l*c l j)) m) (λl _=>by rw[fR,<- qI];exact congrArg (· % p)<|zw λk _=>OP _ _ _),jT]
abbrev Vc:=Nat->Int
noncomputable def Pr(p:Int):Prop:=p=2\/p=3\/p=5\/p=7
theorem Pr.pos(h:Pr p):0<p:=by unfold Pr at h;omega
theorem Pr.two(h:Pr p):2<=p:=by unfold Pr at h;omega
theorem Pr.le(h:Pr p):p<=7:=by unfold Pr at h;omega
theorem Pr.one(h:Pr p):(1:Int)%p=1:=Nz ⋯ (by have:=h.two;omega)
inductive Span(p:Int)(n:Nat)(G:Vc->Prop):Vc->Prop where
 | zero {v:Vc}:(∀i,i<n->v i%p=0)->Span p n G v
 | step {v w g:Vc} {c:Int}:G g->Span p n G w->(∀i,i<n->v i%p=(w i+c*g i)%p)->Span p n G v
section
variable{p:Int}{n:Nat}{G G':Vc->Prop}
theorem Span.congr(h:Span p n G v)(e : ∀i,i<n->v' i%p=v i%p):Span p n G v':=by
 cases h with
 | zero h=>exact .zero λi a=>by rw[e i a,h i a]
 | step z b h=>exact .step z b λi a=>by rw[e i a,h i a]
theorem Span.gen(h:G g):Span p n G g:= .step (c:=1) h (.zero (v:=λ_=>0) λi _=>by simp) λi _=>by simp
theorem Span.add(I:Span p n G v)(C:Span p n G w) : ∀c:Int,Span p n G λi=>w i+c*v i:=by
 induction I with
 | zero h=>
  intro c;refine C.congr λi a=>?_;rw[Ny,MX,h i a];simp
 | @step v b g z O d h U=>
  intro c;refine .step (c:=c*z) O (U c) λi a=>?_;have e:(c*v i)%p=(c*(b i+z*g i))%p:=by rw[MX,h i a,<- MX]
  rw[Ny,e,<- Ny];congr 1;rw[RZ,<- OP,Int.add_assoc]
theorem Span.smul(z:Span p n G v)(c:Int):Span p n G λi=>c*v i:=
 (z.add (w:=λ_=>0) (.zero λi _=>by simp) c).congr λi _=>by simp
theorem Span.le(h:Span p n G v)(z : ∀g,G g->Span p n G' g):Span p n G' v:=by
 induction h with
 | zero h=>exact .zero h
 | step I a h O=>exact((z _ I).add O _).congr h
end
structure f7(p:Int)(n r:Nat)(B:Nat->Vc)(l:UX):Prop where
 lt : ∀k,k<r->l k<n
 mono : ∀k m,k<m->m<r->l k<l m
 one : ∀k,k<r->B k (l k)=1
 k0 : ∀k j,k<r->j<l k->B k j=0
 o5 : ∀k m,k<r->m<r->m≠k->B k (l m)=0
 h9 : ∀k i,k<r->i<n->0<=B k i/\B k i<p
noncomputable def dr(r:Nat)(B:Nat->Vc):Vc->Prop:=λv=>∃k,k<r/\v=B k
section
variable{p:Int}{n r r':Nat}{B B':Nat->Vc}{l l':UX}
theorem Jk(I:f7 p n r B l)(h:Span p n (dr r B) v) : ∀i,i<n->v i%p=zg (λk=>v (l k)*B k i) r%p:=by
 induction h with
 | @zero v h=>
  intro i a;rw[h i a];have:zg (λk=>v (l k)*B k i) r%p=zg (λ_=>0) r%p:=zL λk z=>by rw[MX,h _ (I.lt k z)];simp
  rw[this,zH];rfl
 | @step v w g c O j h U=>
  intro i a;obtain⟨m,b,rfl⟩:=O;rw[h i a];have e:zg (λk=>v (l k)*B k i) r%p=zg (λk=>w (l k)*B k i+c*B m (l k)*B k i) r%p:=zL λk z=>by rw[MX,h _<|I.lt k z,<- MX,SG]
  have f:zg (λk=>c*B m (l k)*B k i) r=c*B m i:=by rw[zN (i:=m) b λk z d=>by rw[I.o5 m k b z d];simp,I.one m b];simp
  rw[e,jO,f,Ny,U i a,<- Ny]
theorem V7(z:f7 p n r B l)(h:Span p n (dr r B) v)(O:j<n)(U:v j%p≠0)(C : ∀i,i<j->v i%p=0) : ∃k,k<r/\l k=j:=by
 apply Oo;intro a;apply U;rw[Jk z h j O];have:zg (λk=>v (l k)*B k j) r%p=zg (λ_=>0) r%p:=zL λk I=>by
  have b:l k≠j:=λe=>a ⟨k,I,e⟩;rcases Nn (l k) j with q | q
  ·rw[MX,C _ q];simp
  ·rw[z.k0 k j I ⋯];simp
 rw[this,zH];rfl
theorem aq(O : ∀k m,k<m->m<r->l k<l m)(U : ∀k m,k<m->m<r'->l' k<l' m)(C : ∀k,k<r->∃m,m<r'/\l' m=l k)(J : ∀k,k<r'->∃m,m<r/\l m=l' k) :
 ∀k,k<r->k<r'/\l k=l' k:=by
 intro k
 induction k using Nat.strongRecOn with
 | ind k b=>
  intro a;obtain⟨m,d,em⟩:=C k a;have f:k<=m:=by
   rcases Nn m k with q | q
   ·have:=(b m q ⋯).2
    have:=O m k q a;omega
   ·exact q
  have I:k<r':=by omega
  refine⟨I,?_⟩;obtain⟨q,e,eq⟩:=J k I;have g:k<=q:=by
   rcases Nn q k with z | z
   ·have:=(b q z ⋯).2
    have:=U q k z I;omega
   ·exact z
  rcases Nn k m with z | z
  ·have h:=U k m z d
   have i:l k<=l q:=by
    rcases Nn k q with y | y
    ·exact SY<|O k q y e
    ·have:k=q:=by omega
     subst this;exact MY _
   omega
  ·have:m=k:=by omega
   subst this;exact em.symm
theorem QJ(L:Pr p)(I:f7 p n r B l)(O:f7 p n r' B' l')(C : ∀v,Span p n (dr r B) v->Span p n (dr r' B') v)(J : ∀v,Span p n (dr r' B') v->Span p n (dr r B) v) :
 r=r'/\(∀k,k<r->l k=l' k)/\∀k i,k<r->i<n->B k i=B' k i:=by
 have one:=L.one;have f : ∀k,k<r->∃m,m<r'/\l' m=l k:=λk z=>V7 O (C _<|.gen ⟨k,z,rfl⟩) (I.lt k z) (by rw[I.one k z,one];decide) λi a=>by rw[I.k0 k i z a];simp
 have g : ∀k,k<r'->∃m,m<r/\l m=l' k:=λk z=>V7 I (J _<|.gen ⟨k,z,rfl⟩) (O.lt k z) (by rw[O.one k z,one];decide) λi a=>by rw[O.k0 k i z a];simp
 have b:=aq I.mono O.mono f g;have j:=aq O.mono I.mono g f;have o:r=r':=by
  rcases RE r r' with q | q | q
  ·exact absurd (j r q).1 (NU _)
  ·exact q
  ·exact absurd (b r' q).1 (NU _)
 subst o;refine⟨rfl,λk z=>(b k z).2,λk i z a=>?_⟩;have c:=Jk O (C _<|.gen ⟨k,z,rfl⟩) i a;rw[zN (i:=k) z λm d h=>by rw[<- (b m d).2,I.o5 k m z d h];simp,<- (b k z).2,I.one k z,SF]at c;have U:=I.h9 k i z a;have e:=O.h9 k i z a;rw[Nz U.1 U.2,Nz e.1 e.2]at c;exact c
end
theorem jh(q:α->Bool)(r:α->D) : ∀(l:List α),(∀x∈l,∃γ1,xC T (g x) γ=bQ γ1/\k γ1=bQ (q x)/\(q x=bX->f γ1=bQ (r x)))->
 zX T k f γ (l.map g)=bQ ((l.filter q).map r)
 | [],_=>rfl
 | x::l,h=>by
  obtain⟨γ1,a,b,I⟩:=h x Nk;have z:=jh q r l λy O=>h y<|Np _ O;simp only[Nt,zX,a,b,MW];cases e:q x with
  | true=>simp[I e,z,e]
  | false=>simp[z,e]
theorem CV(z:Pr p)(I:0<x)(C:x<p) : ∃y:Nat,1<=y/\(y:Int)<p/\(y:Int)*x%p=1:=by
 rcases z with rfl | rfl | rfl | rfl
 ·obtain rfl:x=1:=by omega
  exact⟨1,by decide,by decide,by decide⟩
 ·rcases (show x=1\/x=2 by omega)with rfl | rfl
  ·exact⟨1,by decide,by decide,by decide⟩
  ·exact⟨2,by decide,by decide,by decide⟩
 ·rcases (show x=1\/x=2\/x=3\/x=4 by omega)with rfl | rfl | rfl | rfl
  ·exact⟨1,by decide,by decide,by decide⟩
  ·exact⟨3,by decide,by decide,by decide⟩
  ·exact⟨2,by decide,by decide,by decide⟩
  ·exact⟨4,by decide,by decide,by decide⟩
 ·rcases (show x=1\/x=2\/x=3\/x=4\/x=5\/x=6 by omega)with rfl | rfl | rfl | rfl | rfl | rfl
  ·exact⟨1,by decide,by decide,by decide⟩
  ·exact⟨4,by decide,by decide,by decide⟩
  ·exact⟨5,by decide,by decide,by decide⟩
  ·exact⟨2,by decide,by decide,by decide⟩
  ·exact⟨3,by decide,by decide,by decide⟩
  ·exact⟨6,by decide,by decide,by decide⟩
theorem Vj{q:UK}{n a:Nat}{wj:List Nat}(h:(MO n).filter q=a::wj):a<n/\q a=bX/\∀i,i<a->q i=cE:=by
 have b:a∈(MO n).filter q:=by rw[h];exact Nk
 refine⟨MR.mp (Nd.mp b).1,(Nd.mp b).2,λi f=>?_⟩;apply Oo;intro z;have I:q i=bX:=by simpa using z
 have O:i∈a::wj:=by rw[<- h];exact Nd.mpr ⟨MR.mpr (by have:=MR.mp (Nd.mp b).1;omega),I⟩
 have d:(a::wj).Pairwise (· < ·):=by rw[<- h];exact Su _ RA
 rcases Nc.mp O with e | e
 ·omega
 ·have:=(List.pairwise_cons.mp d).1 i e;omega
theorem fN(h:(MO n).filter q=[]) : ∀i,i<n->q i=cE:=λi a=>by apply Oo;intro z;have:i∈(MO n).filter q:=Nd.mpr ⟨MR.mpr a,by simpa using z⟩;rw[h]at this;simp at this
theorem VA(z:Pr p)(I:0<x)(C:x<p) : ∃y,Zx [.int p,.int x]=bQ (.val<|.int y)/\1<=y/\y<p/\x*y%p=1:=by
 rcases z with rfl | rfl | rfl | rfl
 ·have:x=1:=by omega
  subst this;exact⟨1,rfl,by decide,by decide,by decide⟩
 ·have:x=1\/x=2:=by omega
  rcases this with rfl | rfl
  ·exact⟨1,rfl,by decide,by decide,by decide⟩
  ·exact⟨2,rfl,by decide,by decide,by decide⟩
 ·have:x=1\/x=2\/x=3\/x=4:=by omega
  rcases this with rfl | rfl | rfl | rfl
  ·exact⟨1,rfl,by decide,by decide,by decide⟩
  ·exact⟨3,rfl,by decide,by decide,by decide⟩
  ·exact⟨2,rfl,by decide,by decide,by decide⟩
  ·exact⟨4,rfl,by decide,by decide,by decide⟩
 ·have:x=1\/x=2\/x=3\/x=4\/x=5\/x=6:=by omega
  rcases this with rfl | rfl | rfl | rfl | rfl | rfl
  ·exact⟨1,rfl,by decide,by decide,by decide⟩
  ·exact⟨4,rfl,by decide,by decide,by decide⟩
  ·exact⟨5,rfl,by decide,by decide,by decide⟩
  ·exact⟨2,rfl,by decide,by decide,by decide⟩
  ·exact⟨3,rfl,by decide,by decide,by decide⟩
  ·exact⟨6,rfl,by decide,by decide,by decide⟩
theorem Jf(I:Pr p)(J:n<=lim)(z:t<n)(w P:Nat->Int)(C : ∀i,i<n->0<=w i/\w i<p) :
 xi [.int p,.tup<|zB n w,.tup<|zB n P,.int t]=bQ (.val<|.tup<|zB n λi=>(w i - w t*P i)%p):=by
 have b:=C t z;have d:=I.le;have U : ∀x,ZT (w t) x=bX:=λx=>vG _ _ ⋯ ⋯;by_cases O:w t=0
 ·simp[xi,jo,z9,jI,z,O]
  apply Zo;intro i a;rw[Nz (C i a).1 (C i a).2]
 ·simp[xi,jo,z9,jI,z,O,Wz,J,jn,kX,MV]
  rw[zC (r:=λi=>D.int<|w i - w t*P i)]
  ·rw[<- jw]
   simp[QR _ I.pos J]
  ·intro i a
   refine zD rfl rfl ?_;simp[U]
theorem VW{l:UX}{r t:Nat}(C : ∀k m,k<m->m<r->l k<l m)(z : ∀k,k<r->l k<t):r<=t:=by
 have a : ∀k,k<r->k<=l k:=by
  intro k
  induction k with
  | zero=>intro _;exact OD _
  | succ k I=>
   intro O;have b:=I ⋯;have d:=C k (k+1) ⋯ O;omega
 cases r with
 | zero=>exact OD _
 | succ r=>
  have b:=a r ⋯;have d:=z r ⋯;omega
noncomputable def JB:=(zR (jF 6<|qh<|zU (zT<|zh 3) (.nm 0) 1 [5] (sB<|zK eK (cq (zh 0)<|zf 1)<|zy<|.int 0) (zf 0))<|zR (fy (jX<|sH<|zh 6) sN jU)<|zR (jF 7<|zE Zx<|zb (zf 0)<|zb (cq (zG<|cq (zh 6)<|zy<|.int 0)<|zf 5) zI)<|zR (jF 8<|zE kj<|zb (zf 0)<|zb (qh<|zU (zT<|zG<|cq (zh 6)<|zy<|.int 0) (.nm 0) 1 [7] jz (zK yD (zf 1)<|zf 0)) zI)<|zR (jF 3<|qh<|zU (zT<|zh 3) (.nm 0) 1 [0,5,8] jz (zE xi<|zb (zf 1)<|zb (zf 0)<|zb (zf 3)<|zb (zf 2) zI))<|xB 4<|Kf (js<|zU (zT<|zh 4) (.nm 0) 1 [0,5,8] jz (zE xi<|zb (zf 1)<|zb (zf 0)<|zb (zf 3)<|zb (zf 2) zI))<|js<|j3<|zb (zf 8) zI)
noncomputable def Un(r:Nat)(B:Nat->Vc)(m:Nat)(W:Nat->Vc):Vc->Prop:=λv=>dr r B v\/dr m W v
structure wo(p:Int)(n m:Nat)(W:Nat->Vc)(t r:Nat)(B:Nat->Vc)(l:UX)(Wt:Nat->Vc):Prop where
 h9 : ∀j i,j<m->i<n->0<=Wt j i/\Wt j i<p
 De : ∀j i,j<m->i<t->Wt j i=0
 A6:f7 p n r B l
 lt : ∀k,k<r->l k<t
 span : ∀v,Span p n (Un r B m Wt) v↔Span p n (dr m W) v
section
variable{p:Int}{n m:Nat}{W:Nat->Vc}{t r:Nat}{B:Nat->Vc}{l:UX}{Wt:Nat->Vc}
theorem wo.skip(h:wo p n m W t r B l Wt)(I : ∀j,j<m->Wt j t=0):wo p n m W (t+1) r B l Wt:=
 ⟨h.h9,λj i z a=>by
  rcases Nn i t with q | q
  ·exact h.De j i z q
  ·have:i=t:=by omega
   subst this;exact I j z,h.A6,λk O=>Oh<|h.lt k O,h.span⟩
noncomputable def hH(p:Int)(P:Vc)(t:Nat)(w:Vc):Vc:=λi=>(w i - w t*P i)%p
noncomputable def bY(p:Int)(P:Vc)(t r:Nat)(B:Nat->Vc):Nat->Vc:=λk=>if k<r then hH p P t (B k)else P
noncomputable def pq(t r:Nat)(l:UX):Nat->Nat:=λk=>if k<r then l k else t
theorem JA(z:Span p n G P)(C:Span p n G w):Span p n G (hH p P t w):=
 (z.add C (-(w t))).congr λi _=>by unfold hH;rw[NP];congr 1;rw[Int.neg_mul];omega
theorem WE(z:Span p n G P)(C:Span p n G (hH p P t w)):Span p n G w:=
 (z.add C<|w t).congr λi _=>by unfold hH;rw[Ny,NP,<- Ny];congr 1;omega
theorem wo.next(J:Pr p)(h:wo p n m W t r B l Wt)(S:t<n)(L:j0<m)(Y:Wt j0 t*y%p=1)(C : ∀i,i<n->P i=y*Wt j0 i%p) :
 wo p n m W (t+1) (r+1) (bY p P t r B) (pq t r l) (λj=>hH p P t<|Wt j):=by
 have K:=J.pos;have one:=J.one;have A:P t=1:=by rw[C t S,Om];exact Y
 have f : ∀i,i<t->P i=0:=λi a=>by rw[C i ⋯,h.De j0 i L a];simp
 have M : ∀i,i<n->0<=P i/\P i<p:=λi a=>by rw[C i a];exact⟨NM _ ⋯,Nx _ K⟩
 have F : ∀(w:Vc) i,0<=hH p P t w i/\hH p P t w i<p:=λw i=>⟨NM _ ⋯,Nx _ K⟩;have b : ∀(w:Vc) i,i<t->0<=w i->w i<p->hH p P t w i=w i:=λw i a Q R=>by unfold hH;rw[f i a,NK,Int.sub_zero];exact Nz Q R
 have H : ∀w:Vc,hH p P t w t=0:=λw=>by unfold hH;rw[A,OL,TV];simp
 refine⟨λj i O a=>F _ _,λj i O a=>?_,⟨λk I=>?_,λk q as T=>?_,λk I=>?_,λk j I O=>?_,λk q I T N=>?_,λk i I a=>?_⟩,λk I=>?_,λv=>?_⟩
 ·rcases Nn i t with q | q
  ·have e:=h.De j i O q
   rw[b _ i q ⋯ ⋯];exact e
  ·have:i=t:=by omega
   subst this;exact H _
 ·unfold pq;split
  ·rename_i q;exact h.A6.lt k q
  ·exact S
 ·unfold pq
  have I:k<r:=by omega
  rw[UJ I];split
  ·rename_i z;exact h.A6.mono k q as z
  ·exact h.lt k I
 ·unfold pq bY;split
  ·rename_i q
   have e:=h.A6.one k q;have d:=h.lt k q;rw[b _ _ d ⋯ (by have:=J.two;omega)];exact e
  ·exact A
 ·unfold bY;unfold pq at O;split at O
  ·rename_i q
   have e:=h.A6.k0 k j q O;have d:=h.lt k q;rw[UJ q,b _ _ ⋯ ⋯ ⋯];exact e
  ·rename_i q
   rw[UY q];exact f j O
 ·unfold bY pq
  by_cases x:k<r
  ·rw[UJ x]
   by_cases U:q<r
   ·rw[UJ U]
    have e:=h.A6.o5 k q x U N;have d:=h.lt q U;rw[b _ _ d ⋯ ⋯];exact e
   ·rw[UY U];exact H _
  ·rw[UY x]
   have U:q<r:=by omega
   rw[UJ U];exact f _<|h.lt q U
 ·unfold bY;split
  ·exact F _ _
  ·exact M i a
 ·unfold pq;split
  ·rename_i q;exact Oh<|h.lt k q
  ·exact OR _
 ·rw[<- h.span v]
  have o:Span p n (Un r B m Wt) P:=((Span.gen (p:=p) (n:=n) (G:=Un r B m Wt) (g:=Wt j0)<|.inr ⟨j0,L,rfl⟩).smul y).congr λi a=>by rw[C i a,NP]
  have E:Span p n (Un (r+1) (bY p P t r B) m λj=>hH p P t<|Wt j) P:= .gen (.inl ⟨r,OR r,by unfold bY;rw[UY (NU r)]⟩);constructor
  ·refine λu=>u.le λg s=>?_
   rcases s with⟨k,I,rfl⟩ | ⟨j,O,rfl⟩
   ·unfold bY;split
    ·rename_i q;exact JA o<|.gen<|.inl ⟨k,q,rfl⟩
    ·exact o
   ·exact JA o<|.gen<|.inr ⟨j,O,rfl⟩
  ·refine λu=>u.le λg s=>?_
   rcases s with⟨k,I,rfl⟩ | ⟨j,O,rfl⟩
   ·refine WE (t:=t) E (.gen<|.inl ⟨k,Oh I,?_⟩)
    unfold bY;rw[UJ I]
   ·exact WE (t:=t) E<|.gen<|.inr ⟨j,O,rfl⟩
theorem wo.done(h:wo p n m W n r B l Wt)(v:Vc):Span p n (dr r B) v↔Span p n (dr m W) v:=by
 rw[<- h.span v];constructor
 ·exact λI=>I.le λg z=> .gen (.inl z)
 ·refine λI=>I.le λg z=>?_
  rcases z with z | ⟨j,O,rfl⟩
  ·exact .gen z
  ·exact .zero λi a=>by rw[h.De j i O a];simp
theorem gT(I:True)(P:Vc):jc (r+1) n (bY p P t r B)=jc r n (λk=>hH p P t<|B k)++[.tup (zB n P)]:=by
 unfold jc;rw[NT,NF];congr 1
 ·apply Nj
  intro k z;have:=MR.mp z;simp[bY,this]
 ·simp[bY]
end
theorem ke{p:Int}(C:Pr p){n m:Nat}(hn:n<=100)(L:m<=lim)(J:Sk)(W:Nat->Vc) :
 ∃r B l,kf [.int p,.int n,o9 J (jc m n W)]=bQ (.own<|jc r n B)/\f7 p n r B l/\∀v,Span p n (dr r B) v↔Span p n (dr m W) v:=by
 have hl:=jg;have b:n<=lim:=by omega
 have K:=C.pos;have H:=vC (T:= .nm 5) (F:=JB)
  (λt R=>∃r B l Wt s u h o,R=[.val (.int p),.val<|.int n,.val<|o9 J<|jc m n W,.val<|.lst<|jc m n Wt,.own<|jc r n B,s,u,h,o]/\wo p n m W t r B l Wt)
  ((MO n).map λ(i:Nat)=>D.int i) 0 [.val (.int p),.val<|.int n,.val<|o9 J<|jc m n W,.val<|.lst<|jc m n λj i=>W j i%p,.own [],.no,.no,.no,.no]
  ⟨0,λ_ _=>0,λ_=>0,λj i=>W j i%p,.no,.no,.no,.no,rfl,λj i _ _=>⟨NM _ ⋯,Nx _ K⟩,λj i _ e=>absurd e<|Nv _,
   ⟨λk I=>absurd I<|Nv _,λk q _ I=>absurd I<|Nv _,λk I=>absurd I<|Nv _,λk j I=>absurd I<|Nv _,λk q I=>absurd I<|Nv _,λk i I=>absurd I<|Nv _⟩,
   λk I=>absurd I<|Nv _,λv=>⟨λE=>E.le λg A=>by
    rcases A with⟨k,I,_⟩ | ⟨j,U,rfl⟩
    ·exact absurd I<|Nv _
    ·exact(Span.gen (p:=p) (n:=n) (G:=dr m W) (g:=W j) ⟨j,U,rfl⟩).congr λi _=>NP _ _,λE=>E.le λg A=>by
    obtain⟨j,U,rfl⟩:=A;exact(Span.gen (p:=p) (n:=n) (G:=Un 0 (λ_ _=>0) m λj i=>W j i%p) (g:=λi=>W j i%p)<|.inr ⟨j,U,rfl⟩).congr λi _=>(NP _ _).symm⟩⟩ (by
   rintro t d R w ⟨r,B,l,Wt,s,u,h,o,rfl,O⟩;rw[OO]at O ⊢;have a:t<n:=by have:=(Ng.mp w).1;simpa using this
   have S:d = .int t:=by simp[a]at w;exact w.symm
   subst S;have f:zX (.nm 0) (sB<|zK eK (cq (zh 0)<|zf 1)<|zy<|.int 0) (zf 0) [Cell.no,Cell.val (.int t)] (jc m n Wt)=bQ (((MO m).filter λj=> !decide (Wt j t=0)).map λj=>D.tup<|zB n<|Wt j):=by unfold jc;refine jh _ _ _ λj U=>⟨_,rfl,?_,λ_=>rfl⟩;simp[a]
   have hr:r<=t:=VW O.A6.mono O.lt;have X:r<=lim:=by omega
   cases hf:(MO m).filter λj=> !decide (Wt j t=0)with
   | nil=>
    have hz : ∀j,j<m->Wt j t=0:=λj U=>by apply Oo;intro M;have:j∈(MO m).filter λj=> !decide (Wt j t=0):=Nd.mpr ⟨MR.mpr U,by simp[M]⟩;rw[hf]at this;simp at this
    rw[hf]at f;refine⟨_,.inr ?_,r,B,l,Wt,.val<|.int t,.val<|.lst [],h,o,rfl,O.skip hz⟩;simp only[aQ,MW,Rn,Rm,JB];rw[jI];simp[jI,jn,kX,MV,f,L]
   | cons z wj=>
    have N:z∈(MO m).filter λj=> !decide (Wt j t=0):=by rw[hf];exact Nk
    have Q:z<m:=MR.mp (Nd.mp N).1;have M:Wt z t≠0:=by simpa using (Nd.mp N).2
    have Y:=O.h9 z t Q a;obtain⟨y,ey,y1,y2,yy⟩:=VA C (x:=Wt z t) ⋯ Y.2;rw[hf]at f;have nx:=O.next C a Q yy (P:=λi=>y*Wt z i%p) λi _=>rfl;refine⟨_,.inl ?_,r+1,bY p (λi=>y*Wt z i%p) t r B,pq t r l,λj=>hH p (λi=>y*Wt z i%p) t<|Wt j,.val<|.int t,.val<|.lst<|(z::wj).map λj=>D.tup<|zB n<|Wt j,.val<|.int y,.val<|.tup<|zB n λi=>y*Wt z i%p,rfl,nx⟩;have bd:=C.le;have cy : ∀x,ZT y x=bX:=λx=>vG _ _ ⋯ ⋯;have as:zX (.nm 0) jz (zK yD (zf 1)<|zf 0) [Cell.no,Cell.val (.int y)] (zB n<|Wt z)=bQ (zB n λi=>y*Wt z i):=by rw[jw,jw];refine zC _ _ λi e=>zD rfl rfl ?_;simp[cy]
    have Z:zX (.nm 0) jz (zE xi<|zb (zf 1)<|zb (zf 0)<|zb (zf 3)<|zb (zf 2) zI) [Cell.no,Cell.val<|.int p,Cell.val<|.int t,Cell.val (.tup<|zB n λi=>y*Wt z i%p)] (jc m n Wt)=bQ (jc m n λj=>hH p (λi=>y*Wt z i%p) t<|Wt j):=by unfold jc;refine zC _ _ λj U=>zD rfl rfl ?_;simp[Jf C b a (Wt j) (λi=>y*Wt z i%p) λi e=>O.h9 j i (MR.mp U) e];rfl
    have b0:zX (.nm 0) jz (zE xi<|zb (zf 1)<|zb (zf 0)<|zb (zf 3)<|zb (zf 2) zI) [Cell.no,Cell.val<|.int p,Cell.val<|.int t,Cell.val (.tup<|zB n λi=>y*Wt z i%p)] (jc r n B)=bQ (jc r n λj=>hH p (λi=>y*Wt z i%p) t<|B j):=by unfold jc;refine zC _ _ λj U=>zD rfl rfl ?_;simp[Jf C b a (B j) (λi=>y*Wt z i%p) λi e=>O.A6.h9 j i (MR.mp U) e];rfl
    have b5:r+1<=lim:=by omega
    rw[gT trivial];simp only[aQ,MW,Rn,Rm,JB];rw[jI];simp[jI,jn,kX,MV,f,L,b,a,ey,as,QR _ K b,Z,b0,X,b5])
 obtain⟨γ',e1,r,B,l,Wt,s,u,h,o,rfl,O⟩:=H;simp only[Nf,Nu,OO]at O;refine⟨r,B,l,?_,O.A6,O.done⟩;have b6:zX (.nm 0) jz (zE kj<|zb (zf 1)<|zb (zf 0) zI) [Cell.no,Cell.val (.int p)] (jc m n W)=bQ (jc m n λj i=>W j i%p):=by unfold jc;refine zC _ _ λj U=>zD rfl rfl ?_;simp[iX _ K b]
 have e0:kf [.int p,.int n,o9 J (jc m n W)]=jo 9 (zR (jF 3<|qh<|zU (zT<|zh 2) (.nm 0) 1 [0] jz (zE kj<|zb (zf 1)<|zb (zf 0) zI))<|zR (xB 4<|j3 zI)<|zR (yB (zS<|zf 1) (.nm 5) JB)<|v9 4) [.int p,.int n,o9 J (jc m n W)]:=rfl;rw[e0];simp[jo,z9,jI,L,jn,kX,MV,b6,b,j9];rw[jw n λi=>(i:Int),e1];simp
@[simp] noncomputable def Ex:=@Gq.eq_1
noncomputable def QB{C:Type}(q:Nat)(x:C)(f:Nat->C):Nat->C:=λk=>if k<q then f k else if k=q then x else f (k - 1)
noncomputable def Jl(l:UX)(r x:Nat):Nat:=((MO r).filter λk=>decide<|l k<x).length
theorem KN : ∀{r:Nat},(∀k m,k<m->m<r->l k<l m)->(∀k,k<r->l k≠x)->Jl l r x<=r/\(∀k,k<Jl l r x->l k<x)/\∀k,Jl l r x<=k->k<r->x<l k
 | 0,_,_=>⟨MY _,λk I=>absurd I (by simp[Jl]),λk _ I=>absurd I<|Nv _⟩
 | r+1,hm,Uy=>by
  obtain⟨h,d,O⟩:=KN (r:=r) (x:=x) (λk m a b=>hm k m a ⋯) λk I=>Uy k ⋯;have e:Jl l (r+1) x=Jl l r x+if l r<x then 1 else 0:=by unfold Jl;rw[NT,Rq,NO];by_cases q:l r<x<;>simp[q]
  by_cases q:l r<x
  ·rw[e,UJ q]
   have U:Jl l r x=r:=by
    rcases Nn (Jl l r x) r with z | z
    ·have f:=O (Jl l r x) (MY _) z
     have g:=hm (Jl l r x) r z<|OR r;omega
    ·omega
   rw[U];refine⟨MY _,λk I=>?_,λk a b=>absurd b ⋯⟩;rcases Nn k r with z | z
   ·exact d k ⋯
   ·have:k=r:=by omega
    subst this;exact q
  ·rw[e,UY q,Sl]
   refine⟨by omega,d,λk a b=>?_⟩;rcases Nn k r with z | z
   ·exact O k a z
   ·have:k=r:=by omega
    subst this;have:=Uy k b;omega
section
variable{p:Int}{n r:Nat}{B:Nat->Vc}{l:UX}{w:Vc}
structure DB(p:Int)(n r:Nat)(B:Nat->Vc)(l:UX)(w:Vc)(k:Nat)(R:Vc):Prop where
 h9 : ∀i,i<n->0<=R i/\R i<p
 De : ∀q,q<k->R (l q)=0
 eqv : ∀G,(∀k,k<r->Span p n G (B k))->(Span p n G w↔Span p n G R)
theorem DB.next(J:Pr p)(C:f7 p n r B l)(h:DB p n r B l w k R)(I:k<r):DB p n r B l w (k+1) (hH p (B k) (l k) R):=by
 have a:=J.pos;refine⟨λi _=>⟨NM _ ⋯,Nx _ a⟩,λq b=>?_,λG O=>?_⟩
 ·unfold hH
  rcases Nn q k with z | z
  ·rw[h.De q z,C.o5 k q I ⋯ ⋯];simp
  ·have:q=k:=by omega
   subst this;rw[C.one q I];simp
 ·rw[h.eqv G O]
  exact⟨λU=>JA (O k I) U,λU=>WE (O k I) U⟩
theorem Y8(I:q<=r)(O:k<r+1):(k=q/\QB q x f k=x)\/∃C,C<r/\QB q x f k=f C/\((k<q/\C=k)\/(q<k/\C+1=k)):=by
 unfold QB;rcases RE k q with z | z | z
 ·right;exact⟨k,by omega,by rw[UJ z],.inl ⟨z,rfl⟩⟩
 ·left;subst z;exact⟨rfl,by rw[UY (NU _),UJ rfl]⟩
 ·right;exact⟨k - 1,by omega,by rw[UY ⋯,UY ⋯],.inr ⟨z,by omega⟩⟩
theorem Uz:QB q x f q=x:=by unfold QB;rw[UY (NU _),UJ rfl]
theorem uu : ∃C,(C<q/\C=k\/q<C/\C=k+1)/\QB q x f C=f k:=by
 rcases Nn k q with z | z
 ·exact⟨k,.inl ⟨z,rfl⟩,by unfold QB;rw[UJ z]⟩
 ·exact⟨k+1,.inr ⟨by omega,rfl⟩,by unfold QB;rw[UY ⋯,UY ⋯];rfl⟩
theorem uv(S:Pr p)(C:f7 p n r B l)(Z:a<n)(J:R a=1)(Y : ∀i,i<a->R i=0)(L : ∀k,k<r->R (l k)=0)(hR : ∀i,i<n->0<=R i/\R i<p) :
 f7 p n (r+1) (QB (Jl l r a) R λk=>hH p R a<|B k) (QB (Jl l r a) a l):=by
 have W:=S.pos;have H : ∀k,k<r->l k≠a:=λk I e=>by have:=L k I;rw[e,J]at this;omega
 obtain⟨T,X,q2⟩:=KN C.mono H;have N : ∀(w:Vc) i,0<=hH p R a w i/\hH p R a w i<p:=λw i=>⟨NM _ ⋯,Nx _ W⟩;have K : ∀w:Vc,hH p R a w a=0:=λw=>by unfold hH;rw[J,OL,TV];simp
 have E : ∀(w:Vc) k,k<r->0<=w (l k)->w (l k)<p->hH p R a w (l k)=w (l k):=λw k I J P=>by unfold hH;rw[L k I,NK,Int.sub_zero];exact Nz J P
 have M : ∀k j,k<r->j<l k->hH p R a (B k) j=0:=λk j I t=>by
  unfold hH;rw[C.k0 k j I t];rcases Nn a (l k)with z | z
  ·rw[C.k0 k a I z];simp
  ·rw[Y j ⋯];simp
 have two:=S.two;have U : ∀k,k<r+1->(k=Jl l r a/\QB (Jl l r a) R (λk=>hH p R a<|B k) k=R/\QB (Jl l r a) a l k=a)\/
  ∃b,b<r/\QB (Jl l r a) R (λk=>hH p R a<|B k) k=hH p R a (B b)/\QB (Jl l r a) a l k=l b/\((k<Jl l r a/\b=k)\/(Jl l r a<k/\b+1=k)):=by
  intro k I;rcases Y8 (x:=R) (f:=λk=>hH p R a<|B k) T I with⟨d,u⟩ | ⟨b,O,d,u⟩
  ·left;refine⟨d,u,?_⟩;subst d;exact Uz
  ·right
   refine⟨b,O,d,?_,u⟩;rcases u with⟨F,G⟩ | ⟨F,G⟩
   ·unfold QB;rw[UJ F,G]
   ·unfold QB;rw[UY ⋯,UY ⋯];congr 1;omega
 refine⟨λk I=>?_,λk m b0 y=>?_,λk I=>?_,λk j I t=>?_,λk m I y b5=>?_,λk i I Q=>?_⟩
 ·rcases U k I with⟨_,_,e⟩ | ⟨b,O,_,e,_⟩
  ·rw[e];exact Z
  ·rw[e];exact C.lt b O
 ·rcases U k ⋯with⟨z,_,e⟩ | ⟨b,O,_,e,z⟩<;>rcases U m y with⟨A,_,s⟩ | ⟨h,g,_,s,A⟩<;>rw[e,s]
  ·omega
  ·exact q2 h ⋯ g
  ·exact X b ⋯
  ·exact C.mono b h ⋯ g
 ·rcases U k I with⟨_,d,e⟩ | ⟨b,O,d,e,_⟩<;>rw[d,e]
  ·exact J
  ·have o:=C.one b O
   rw[E _ b O ⋯ ⋯];exact o
 ·rcases U k I with⟨_,d,e⟩ | ⟨b,O,d,e,_⟩<;>rw[d]<;>rw[e]at t
  ·exact Y j t
  ·exact M b j O t
 ·rcases U k I with⟨z,d,_⟩ | ⟨b,O,d,_,z⟩<;>rcases U m y with⟨A,_,s⟩ | ⟨h,g,_,s,A⟩<;>rw[d,s]
  ·omega
  ·exact L h g
  ·exact K _
  ·have o:=C.o5 b h O g ⋯
   rw[E _ h g ⋯ ⋯];exact o
 ·rcases U k I with⟨_,d,_⟩ | ⟨b,O,d,_,_⟩<;>rw[d]
  ·exact hR i Q
  ·exact N _ _
theorem ux(z:q<=r)(hR:Span p n G R)(I : ∀k,k<r->Span p n G (F k)) : ∀g,dr (r+1) (QB q R F) g->Span p n G g:=by
 rintro g ⟨k,O,rfl⟩;rcases Y8 (x:=R) (f:=F) z O with⟨_,e⟩ | ⟨a,U,e,_⟩<;>rw[e]
 ·exact hR
 ·exact I a U
theorem um(z:q<=r):dr (r+1) (QB q R F) R/\∀k,k<r->dr (r+1) (QB q R F) (F k):=by refine⟨⟨q,by omega,Uz.symm⟩,λk I=>?_⟩;obtain⟨a,h,e⟩:=uu (q:=q) (x:=R) (f:=F) (k:=k);exact⟨a,by omega,e.symm⟩
theorem nN(Z:Pr p)(Y:f7 p n r B l)(S:a<n)(hs : ∀v,Span p n (dr r B) v↔Span p n (dr j W) v)(U:DB p n r B l (W j) r R)(L:y*R a%p=1)(C : ∀i,i<n->R' i=y*R i%p)(J:Jl l r a<=r)(v:Vc) :
 Span p n (dr (r+1)<|QB (Jl l r a) R' λk=>hH p R' a<|B k) v↔Span p n (dr (j+1) W) v:=by
 have u : ∀v,Span p n (dr j W) v->Span p n (dr (j+1) W) v:=λv O=>O.le λg ⟨i,b,e⟩=> .gen ⟨i,by omega,e⟩;have a2 : ∀k,k<r->Span p n (dr (j+1) W) (B k):=λk I=>u _<|(hs _).mp (.gen ⟨k,I,rfl⟩);have m:Span p n (dr (j+1) W) R:=(U.eqv _ a2).mp (.gen ⟨j,by omega,rfl⟩);have d:Span p n (dr (j+1) W) R':=(m.smul y).congr λi b=>by rw[C i b,NP]
 obtain⟨s,m2⟩:=um (R:=R') (F:=λk=>hH p R' a<|B k) J;have f:Span p n (dr (r+1)<|QB (Jl l r a) R' λk=>hH p R' a<|B k) R':= .gen s;have h : ∀k,k<r->Span p n (dr (r+1)<|QB (Jl l r a) R' λk=>hH p R' a<|B k) (B k):=λk I=>WE (t:=a) f<|.gen<|m2 k I;have gR:Span p n (dr (r+1)<|QB (Jl l r a) R' λk=>hH p R' a<|B k) R:=(f.smul<|R a).congr λi b=>by rw[C i b,Zg,<- OP,Om (R a) y,MX,L,SF,NP]
 constructor
 ·exact λO=>O.le<|ux J d λk I=>JA d<|a2 k I
 ·refine λO=>O.le ?_
  rintro g ⟨i,b,rfl⟩;rcases Nn i j with z | z
  ·exact((hs _).mpr (.gen ⟨i,z,rfl⟩)).le λg o=>by obtain⟨k,I,e⟩:=o;rw[e];exact h k I
  ·have:i=j:=by omega
   subst this;exact(U.eqv _ h).mpr gR
theorem dN(hs : ∀v,Span p n (dr r B) v↔Span p n (dr j W) v)(O:DB p n r B l (W j) r R)(U : ∀i,i<n->R i=0)(v:Vc):Span p n (dr r B) v↔Span p n (dr (j+1) W) v:=by
 constructor
 ·exact λI=>((hs v).mp I).le λg ⟨i,a,e⟩=> .gen ⟨i,by omega,e⟩
 ·refine λI=>I.le ?_
  rintro g ⟨i,a,rfl⟩;rcases Nn i j with z | z
  ·exact(hs _).mpr (.gen ⟨i,z,rfl⟩)
  ·have:i=j:=by omega
   subst this;exact(O.eqv _ λk b=> .gen ⟨k,b,rfl⟩).mpr (.zero λi a=>by rw[U i a];simp)
end
section
variable{p:Int}{n m r:Nat}{G:Vc->Prop}
theorem Span.sum{u:Nat->Vc}(c:Nat->Int) : ∀{m:Nat},(∀k,k<m->Span p n G (u k))->Span p n G λi=>zg (λk=>c k*u k i) m
 | 0,_=> .zero λi _=>by simp[zg]
 | m+1,h=>(((h m ⋯).add (Span.sum c (m:=m) λk z=>h k ⋯) (c m))).congr λi _=>by simp[zg]
noncomputable def Rk(p:Int)(n m:Nat)(W:Nat->Vc)(r:Nat):Prop:=∃B l,f7 p n r B l/\∀v,Span p n (dr r B) v↔Span p n (dr m W) v
theorem wC(O:Pr p)(h:Rk p n m W r)(h':Rk p n m W r'):r=r':=by obtain⟨B,l,U,a⟩:=h;obtain⟨d,e,b,I⟩:=h';exact(QJ O U b (λv z=>(I v).mpr ((a v).mp z))<|λv z=>(a v).mpr ((I v).mp z)).1
theorem WU(z:Pr p)(I:f7 p n r B l)(C : ∀i,i<n->0<=w i/\w i<p) : ∀k,k<=r->∃R,DB p n r B l w k R
 | 0,_=>⟨w,C,λq O=>absurd O<|Nv _,λG _=>Iff.rfl⟩
 | k+1,h=>by obtain⟨R,hR⟩:=WU z I C k ⋯;exact⟨_,hR.next z I ⋯⟩
theorem aE : ∀(n:Nat) (R:Vc),(∀i,i<n->R i=0)\/∃a,a<n/\R a≠0/\∀i,i<a->R i=0
 | 0,R=> .inl λi b=>absurd b<|Nv _
 | n+1,R=>by
  rcases aE n R with h | ⟨a,h1,h2,I⟩
  ·by_cases e:R n=0
   ·exact .inl λi b=>by rcases Nn i n with z | z;exact h i z;rw[show i=n by omega];exact e
   ·exact .inr ⟨n,by omega,e,h⟩
  ·exact .inr ⟨a,by omega,h2,I⟩
theorem oS(I:Pr p)(W:Nat->Vc)(C : ∀j i,0<=W j i/\W j i<p) : ∀m,∃r,r<=m/\Rk p n m W r
 | 0=>⟨0,MY _,λ_ _=>0,λ_=>0,⟨λk z=>absurd z<|Nv _,λk q _ z=>absurd z<|Nv _,λk z=>absurd z<|Nv _,λk j z=>absurd z<|Nv _,λk q z=>absurd z<|Nv _,λk i z=>absurd z<|Nv _⟩,
  λv=>⟨λb=>b.le λg ⟨k,z,_⟩=>absurd z<|Nv _,λb=>b.le λg ⟨k,z,_⟩=>absurd z<|Nv _⟩⟩
 | m+1=>by
  obtain⟨r,u,B,l,O,d⟩:=oS I W C m;have t:=I.pos;obtain⟨R,U⟩:=WU I O (w:=W m) (λi _=>C m i) r<|MY _;rcases aE n R with h0 | ⟨a,ha,a5,a6⟩
  ·exact⟨r,by omega,B,l,O,dN d U h0⟩
  ·have h:=U.h9 a ha
   obtain⟨y,_,_,f⟩:=CV I (x:=R a) ⋯ h.2;have o : ∀k,k<r->l k≠a:=λk z e=>by have:=U.De k z;rw[e]at this;exact a5 this
   exact⟨r+1,by omega,_,_,uv I O (R:=λi=>(y:Int)*R i%p) ha f (λi s=>by rw[a6 i s];simp) (λk z=>by rw[U.De k z];simp) λi _=>⟨NM _ ⋯,Nx _ t⟩,
    nN I (R':=λi=>(y:Int)*R i%p) O ha d U f (λi _=>rfl) (KN O.mono o).1⟩
theorem ZX(z:Pr p)(m:Nat)(W:Nat->Vc) : ∃r,r<=m/\Rk p n m W r:=by
 obtain⟨r,O,B,l,U,a⟩:=oS (n:=n) z (λj i=>W j i%p) (λj i=>⟨NM _ (by have:=z.pos;omega),Nx _ z.pos⟩) m;refine⟨r,O,B,l,U,λv=>(a v).trans ⟨λh=>h.le λg ⟨k,I,e⟩=>?_,λh=>h.le λg ⟨k,I,e⟩=>?_⟩⟩
 ·subst e;exact(Span.gen (g:=W k) ⟨k,I,rfl⟩).congr λi _=>by rw[NP]
 ·subst e;exact(Span.gen (g:=λi=>W k i%p) ⟨k,I,rfl⟩).congr λi _=>by rw[NP]
theorem sU(z:Pr p)(_:n<=100)(_:m<=8)(W:Nat->Vc) : ∃r,r<=m/\Rk p n m W r:=ZX z m W
theorem Bo(C:Pr p)(h:Rk p n m W r)(h':Rk p n m' W' r')(J : ∀j,j<m->Span p n (dr m' W') (W j)):r<=r':=by
 obtain⟨B,l,U,A⟩:=h;obtain⟨F,o,b,t⟩:=h';have s : ∀k,k<r->∃q,q<r'/\o q=l k:=λk I=>V7 b ((t _).mpr (((A _).mp (.gen ⟨k,I,rfl⟩)).le λg ⟨j,x,e⟩=>e ▸ J j x)) (U.lt k I) (by rw[U.one k I,C.one];decide) λi w=>by rw[U.k0 k i I w];simp
 have a : ∀k,k<r->∀q,q<r'->o q=l k->k<=q:=by
  intro k
  induction k with
  | zero=>intro _ q _ _;exact OD _
  | succ k E=>
   intro I q f e;obtain⟨O,d,u⟩:=s k ⋯;have G:=E ⋯ O d u;have H:=U.mono k (k+1) ⋯ I;rcases Nn O q with z | z
   ·omega
   ·rcases Nn q O with y | y
    ·have:=b.mono q O y d
     omega
    ·have:q=O:=by omega
     subst this;omega
 rcases Nat.eq_zero_or_pos r with z | z
 ·omega
 ·obtain⟨q,f,e⟩:=s (r - 1) ⋯
  have:=a (r - 1) ⋯ q f e;omega
end
theorem gY(h w f):deep (.lst<|jc h w f)<=2:=oh h w f
theorem ni(h w f):hX (.lst<|jc h w f)=bX:=ug h w f
theorem W7(h w f):i4 (.lst<|jc h w f)=bX:=YQ (gY h w f) ⋯<|ni h w f
section
variable{p:Int}{n m r h w:Nat}
theorem Jn{l:UX}(h:Nat) : ∀{r:Nat},(∀k m,k<m->m<r->l k<l m)->∃s,s<=r/\(∀k,k<s->l k<h)/\∀k,s<=k->k<r->h<=l k
 | 0,_=>⟨0,MY _,λk I=>absurd I<|Nv _,λk _ I=>absurd I<|Nv _⟩
 | r+1,hm=>by
  obtain⟨s,b,a,O⟩:=Jn h (r:=r) λk m I U=>hm k m I ⋯;by_cases e:l r<h
  ·refine⟨r+1,MY _,λk I=>?_,λk b a=>by omega⟩
   rcases Nn k r with z | z
   ·have:=hm k r z ⋯;omega
   ·have:k=r:=by omega
    subst this;exact e
  ·refine⟨s,by omega,a,λk I d=>?_⟩
   rcases Nn k r with z | z
   ·exact O k I z
   ·have:k=r:=by omega
    subst this;omega
theorem Wb(hs:s<=r)(C : ∀k,k<s->q k=cE)(J : ∀k,s<=k->k<r->q k=bX):(MO r).filter q=(MO<|r - s).map (s + ·):=by
 obtain⟨d,rfl⟩ : ∃d,r=s+d:=⟨r - s,by omega⟩;rw[Sm,Rq];have a:(MO s).filter q=[]:=List.filter_eq_nil_iff.mpr λk z=>by rw[C k (MR.mp z)];decide
 have I:((MO d).map (s + ·)).filter q=(MO d).map (s + ·):=List.filter_eq_self.mpr λk z=>by obtain⟨i,b,rfl⟩:=Nq.mp z;exact J _ ⋯ (by have:=MR.mp b;omega)
 rw[a,I,B8];rfl
noncomputable def ve(h:Nat)(u v:Vc):Vc:=λi=>if i<h then u i else v (i - h)
noncomputable def jD(j:Nat):Vc:=λk=>if j=k then 1 else 0
theorem qo(C:i<h):ve h u v i=u i:=UJ C
theorem qT(i:Nat):ve h u v (h+i)=v i:=by unfold ve;rw[UY ⋯,B8]
theorem Js(h w:Nat)(u v:Vc):zB h u++zB w v=zB (h+w) (ve h u v):=by
 unfold zB;rw[Sm,NF];congr 1
 ·exact Nj λi a=>by rw[qo (MR.mp a)]
 ·rw[NB]
  exact Nj λi _=>by simp only[Function.comp];rw[qT]
theorem gO(h w:Nat)(v:Vc):(zB (h+w) v).take h=zB h v:=by unfold zB;rw[<- List.map_take,List.take_range,SW (NY h w)]
theorem gP(h w:Nat)(v:Vc):(zB (h+w) v).drop h=zB w λj=>v (h+j):=by unfold zB;rw[Sm,NF,List.drop_append_of_le_length ⋯,List.drop_eq_nil_of_le ⋯,NB];rfl
theorem aK(h w:Nat)(v:Vc):oq (zB (h+w) v) none (bQ (h:Int))=zB h v:=by
 have c : ¬((h:Int)<0):=by omega
 have e:min h (h+w)=h:=SW<|NY h w;simp[oq,cJ,c,e,gO]
theorem aJ(h w:Nat)(v:Vc):oq (zB (h+w) v) (bQ (h:Int)) none=zB w λj=>v (h+j):=by
 have c : ¬((h:Int)<0):=by omega
 have e:min h (h+w)=h:=SW<|NY h w;have t : ∀g:Vc,(zB w g).take w=zB w g:=λg=>PJ ⋯;simp[oq,cJ,c,e,gP,t]
theorem WI(v:Vc) : ∀n,JF (zB n v)=bQ ((MO n).map λi=>v i != 0)
 | 0=>rfl
 | n+1=>by
  have b : ∀l:List Nat,JF (l.map λi=>D.int<|v i)=bQ (l.map λi=>v i != 0):=by
   intro l
   induction l with
   | nil=>rfl
   | cons a l z=>simp[JF,ER,z]
  exact b _
theorem QU(I:f7 p (h+w) r B l)(O:r<=lim)(hs:s<=r)(C : ∀k,k<s->l k<h)(h2 : ∀k,s<=k->k<r->h<=l k) :
 xk [.int h,.lst (jc r (h+w) B)]=bQ (.own<|jc (r - s) w λk j=>B (s+k)<|h+j):=by
 have d:zX (.nm 0) (jX<|sB<|An<|zG<|ma (zf 0) lq<|vu<|zf 1) (ma (zf 0) (vu<|zf 1) lq) [Cell.no,Cell.val (.int h)] (jc r (h+w) B)=bQ (((MO r).filter λk=>decide<|h<=l k).map λk=>D.tup<|zB w λj=>B k<|h+j):=by
  unfold jc;refine jh (λk=>decide<|h<=l k) _ _ λk z=>⟨_,rfl,?_,λU=>?_⟩
  ·have z:=MR.mp z
   simp[aK,WI];by_cases e:h<=l k
   ·simp[e]
    intro i f;have:=I.k0 k i z ⋯;simp[this]
   ·simp[e]
    exact⟨l k,by omega,by rw[I.one k z];decide⟩
  ·simp[aJ]
 rw[Wb hs (λk z=>decide_eq_false (by have:=C k z;omega)) (λk a b=>decide_eq_true<|h2 k a b)]at d;simp[xk,jo,z9,O,jn,kX,MV,d];unfold jc;rfl
noncomputable def Di(p:Int)(h w:Nat)(f:UV)(v:Vc):Prop:=∀i,i<h->zg (λj=>f i j*v j) w%p=0
theorem mR{f:UV}{v:Vc}(O:Span p (h+w) (dr w λj=>ve h (λi=>f i j)<|jD j) v) : ∀i,i<h->v i%p=zg (λj=>f i j*v (h+j)) w%p:=by
 induction O with
 | @zero v z=>
  intro i a;rw[z i ⋯];have:zg (λj=>f i j*v (h+j)) w%p=zg (λ_=>0) w%p:=zL λj U=>by rw[MX,z (h+j) ⋯];simp
  rw[this,zH];rfl
 | @step v u g c e n I l=>
  intro i a;obtain⟨m,k,rfl⟩:=e;rw[I i ⋯,Ny,l i a,<- Ny];have d:zg (λj=>f i j*v (h+j)) w%p=zg (λj=>f i j*u (h+j)+c*(f i j*jD m j)) w%p:=zL λj U=>by rw[MX,I (h+j) ⋯,<- MX];simp only[qT];rw[RZ,Pu]
  rw[d,jO,ja,zN (f:=λj=>f i j*jD m j) k λj _ b=>by simp[jD,Oa b]];simp[jD,qo a]
theorem X4(I:Pr p)(w:Nat):f7 p w w jD id where
 lt:=λk z=>z
 mono:=λk m z _=>z
 one:=λk _=>UJ rfl
 k0:=λk j _ O=>UY (by simp only[id]at O;omega)
 o5:=λk m _ _ U=>UY (by simp only[id];omega)
 h9:=λk i _ _=>by have:=I.two;unfold jD;split<;>omega
theorem Span.map(t:UX)(z : ∀i,i<n'->t i<n)(I : ∀g,G g->Span p n' G' λi=>g<|t i)(O:Span p n G v):Span p n' G' λi=>v (t i):=by
 induction O with
 | @zero v U=>exact .zero λi a=>U _<|z i a
 | @step v u g c d f b e=>exact((I _ d).add e c).congr λi a=>b _<|z i a
theorem yY(C:Pr p)(hh:h<=20)(hw:w<=20)(f:UV) :
 ∃q K l s,vY [.int p,qN h w f]=bQ (.own<|jc q w K)/\f7 p w q K l/\(∀v,Span p w (dr q K) v↔Di p h w f v)/\Rk p h w (λj i=>f i j) s/\q+s=w:=by
 have hl:=jg;have X:h<=lim:=by omega
 have A:w<=lim:=by omega
 have Y:h+w<=lim:=by omega
 obtain⟨r,B,l,e,O,y⟩:=ke C (show h+w<=100 by omega) A .L λj=>ve h (λi=>f i j)<|jD j;have Z : ∀v,Span p (h+w) (dr r B) v->∀i,i<h->v i%p=zg (λj=>f i j*v (h+j)) w%p:=λv o=>mR<|(y v).mp o;have ak:r<=w:=by obtain⟨r',G,H⟩:=ZX C (n:=h+w) w λj=>ve h (λi=>f i j)<|jD j;rw[wC C ⟨B,l,O,y⟩ H];exact G
 have am:w<=r:=by obtain⟨r',G,H⟩:=ZX C (n:=w) r λk j=>B k<|h+j;refine NZ (Bo C (m:=w) (W:=jD) ⟨jD,id,X4 C w,λv=>Iff.rfl⟩ H λj U=>?_) G;have:=Span.map (n':=w) (G':=dr r λk j=>B k<|h+j) (λi=>h+i) (λi a=>by omega) (λg ⟨k,I,b⟩=> .gen ⟨k,I,by rw[b]⟩)<|(y<|ve h (λi=>f i j)<|jD j).mpr (.gen ⟨j,U,rfl⟩);exact this.congr λi _=>by rw[qT]
 have er:r=w:=Nat.le_antisymm ak am;subst er;obtain⟨s,hs,P,x⟩:=Jn h O.mono;have eb:=QU O A hs P x;have ap:f7 p r (r - s) (λk j=>B (s+k)<|h+j) (λk=>l (s+k) - h):={
  lt:=λk I=>by have:=O.lt (s+k) ⋯;have:=x (s+k) ⋯ ⋯;omega
  mono:=λk m I J=>by have:=O.mono (s+k) (s+m) ⋯ ⋯;have:=x (s+k) ⋯ ⋯;omega
  one:=λk I=>by have:=x (s+k) ⋯ ⋯;rw[show h+(l (s+k) - h)=l (s+k)by omega];exact O.one _ ⋯
  k0:=λk j I U=>O.k0 _ _ ⋯ ⋯
  o5:=λk m I J E=>by have:=x (s+m) ⋯ ⋯;rw[show h+(l (s+m) - h)=l (s+m)by omega];exact O.o5 _ _ ⋯ ⋯ ⋯
  h9:=λk i I a=>O.h9 _ _ ⋯ ⋯}
 refine⟨r - s,_,_,s,?_,ap,λv=>⟨λo=>?_,λo=>?_⟩,?_,by omega⟩
 ·have R:=vK f X A
  have S:=vJ (n:=r) A;have N:zX (.tp [0,1]) jz (zK qu (zf 0)<|zf 1) [Cell.no,Cell.no] ((MO r).map λj=>D.tup [.tup (zB h λi=>f i j),.tup (zB r λk=>if j=k then 1 else 0)])=bQ (jc r (h+r) λj=>ve h (λi=>f i j)<|jD j):=by unfold jc;refine zC _ _ λj U=>zD rfl rfl ?_;simp[qu,Y,Js];rfl
  have zp:Jg (jc r h λi j=>f j i) (jc r r λi j=>if i=j then 1 else 0)=(MO r).map λj=>D.tup [.tup (zB h λi=>f i j),.tup (zB r λk=>if j=k then 1 else 0)]:=by unfold Jg jc;rw[Dl];simp
  have c1:((h:Int)+(r:Int))=((h+r:Nat):Int):=by omega
  simp only[o9]at e;rw[<- c1]at e;unfold qN at R S ⊢;have nl : ∀T t f γ,zX T t f γ []=bQ []:=λ_ _ _ _=>rfl;simp[vY,kJ,jo,z9,jI,R,S,zp,A,jn,MV,N,nl,e,eb]
 ·intro i a
  induction o with
  | @zero v hz=>
   have:zg (λj=>f i j*v j) r%p=zg (λ_=>0) r%p:=zL λj U=>by rw[MX,hz j U];simp
   rw[this,zH];rfl
  | @step v u g c hg hu he M=>
   obtain⟨k,I,rfl⟩:=hg;have e1:zg (λj=>f i j*v j) r%p=zg (λj=>f i j*u j+c*(f i j*B (s+k) (h+j))) r%p:=zL λj U=>by rw[MX,he j U,<- MX,RZ,Pu]
   have Q:=Z (B<|s+k) (.gen ⟨s+k,by omega,rfl⟩) i a;have e3:B (s+k) i=0:=O.k0 _ _ ⋯ (by have:=x (s+k) ⋯ ⋯;omega);rw[e3]at Q;rw[e1,jO,ja,Ny,M,MX,<- Q];simp
 ·
  have b9:Span p (h+r) (dr r B) (ve h (λ_=>0) v):=by
   refine(y _).mpr ((Span.sum (u:=λj=>ve h (λi=>f i j)<|jD j) v (m:=r) λj U=> .gen ⟨j,U,rfl⟩).congr λi a=>?_);rcases Nn i h with z | z
   ·simp only[qo z]
    rw[zw (g:=λj=>f i j*v j) λj _=>Om _ _,o i z];simp
   ·obtain⟨k,rfl⟩ : ∃k,i=h+k:=⟨i - h,by omega⟩
    simp only[qT];rw[zN (f:=λj=>v j*jD j k) (i:=k) ⋯ λj _ E=>by simp[jD,E]];simp[jD]
  have co:=Jk O b9;refine(Span.sum (u:=λk j=>B (s+k)<|h+j) (λk=>ve h (λ_=>0) v<|l<|s+k) (m:=r - s) λk I=> .gen ⟨k,I,rfl⟩).congr λj U=>?_;have:=co (h+j) ⋯;rw[qT]at this;rw[this];obtain⟨d,rfl⟩ : ∃d,r=s+d:=⟨r - s,by omega⟩;rw[B8];have sp : ∀(F:Nat->Int) (d:Nat),(∀k,k<s->F k=0)->zg F (s+d)=zg (λk=>F<|s+k) d:=by
   intro F d hF
   induction d with
   | zero=>
    show zg F s=0;rw[zw (g:=λ_=>0) hF,zH]
   | succ d M=>rw[<- RN];simp only[zg];rw[M]
  rw[sp _ d λk I=>by rw[qo (P k I)];simp]
 ·
  refine⟨λk i=>B k i,l,⟨λk I=>P k I,λk m I J=>O.mono k m I ⋯,λk I=>O.one k ⋯,λk j I U=>O.k0 k j ⋯ U,λk m I J E=>O.o5 k m ⋯ ⋯ E,λk i I a=>O.h9 k i ⋯ ⋯⟩,λv=>⟨λo=>o.le λg ⟨k,I,b⟩=>?_,λo=>o.le λg ⟨j,U,b⟩=>?_⟩⟩
  ·subst b
   exact Span.map (n':=h) (G':=dr r λj i=>f i j) (λi=>i) (λi a=>by omega) (λg ⟨j,U,b⟩=>(Span.gen (g:=λi=>f i j) ⟨j,U,rfl⟩).congr λi a=>by rw[b];simp only[qo a])<|(y<|B k).mp (.gen ⟨k,by omega,rfl⟩)
  ·subst b
   have:=Span.map (n':=h) (G':=dr s λk i=>B k i) (λi=>i) (λi a=>by omega) (λg hZ=>by
    obtain⟨k,I,b⟩:=hZ;subst b;rcases Nn k s with z | z
    ·exact .gen ⟨k,z,rfl⟩
    ·exact .zero λi a=>by rw[O.k0 k i I (by have:=x k z I;omega)];simp) ((y<|ve h (λi=>f i j)<|jD j).mpr (.gen ⟨j,U,rfl⟩))
   exact this.congr λi a=>by rw[qo a]
end
@[simp] noncomputable def HW:=@dS.eq_1
theorem pY{a b:Bool}(h:ij a=ij b):a=b:=by cases a<;>cases b<;>first | rfl | exact absurd h ⋯
noncomputable def oF(m C:Nat)(w w':UK):Prop:=m=C/\∀k,k<m->w k=w' k
instance (m m':Nat) (w w':UK):Decidable (oF m m' w w'):=inferInstanceAs (Decidable (m=m'/\∀k,k<m->w k=w' k))
theorem pZ{m C:Nat}{w w':UK}:j5 m w=j5 C w'↔oF m C w w':=by
 constructor
 ·intro h
  have a:=yz m w;rw[h,yz]at a;have I:m=C:=by have:=congrArg List.length a;simpa using this.symm
  subst I;refine⟨rfl,λk z=>?_⟩;have:=congrArg (λl=>l[k]?) a;simp[z]at this;exact(pY this).symm
 ·rintro⟨rfl,h⟩
  unfold j5;rw[Nj λk z=>by rw[h k (MR.mp z)]]
theorem fI(m w):i4 (.str<|j5 m w)=bX:=by refine YQ (n:=0) (by simp[deep]) ⋯ ?_;show(j5 m w).cps.all (· < 0x110000)=bX;rw[<- Array.all_toList,yz];simp only[OQ];intro c z;obtain⟨k,_,rfl⟩:=Nq.mp z;unfold ij;split<;>decide
section
variable{p p':Int}{m m':Nat}{w w':UK}{wd wd':UX}{T T':UW}
theorem Kg:jj (qO p m w wd T)=bQ (.T,[.int p,.tup<|zB (m+1) λk=>(wd k:Int),.tup (yG m w wd T)]):=rfl
theorem uX(k):jj (Zy w wd T k)=bQ (.T,[.str (vN<|ij<|w k),qN (eh w wd k) (d8 w wd k) (T k)]):=rfl
theorem cX:zX (.nm 0) jz (cq (zh 0)<|zy<|.int 0) [Cell.no] (yG m w wd T)=bQ ((MO m).map λk=>D.str<|vN<|ij<|w k):=by unfold yG;refine zC _ _ λk z=>zD rfl rfl ?_;simp[uX]
theorem yk(C:m<=900):x9 [qO p m w wd T]=bQ (.val<|.str<|j5 m w):=by
 have O:=jg;have z:m<=lim:=by omega
 have st:Yo ((MO m).map λk=>D.str<|vN<|ij<|w k)=bQ ((MO m).map λk=>vN<|ij<|w k):=X9 _ _;have I:((MO m).map λk=>vN<|ij<|w k).all qg=bX:=by simp only[OQ];intro x a;obtain⟨k,_,rfl⟩:=Nq.mp a;unfold ij;split<;>decide
 have b:qg "" = bX:=by decide +kernel
 simp only[x9,jo,z9];simp only[Ja,Ab,iM,xQ,j7,Zu,KW,yx,xD,Nt,SN,NW,Pc,MV,Rt,NL,qV,Kg,MW,OA,kY,N_,NR,Ew,Nat.sub_self,OO];rw[Vu,UJ z,show jn 1 [] [Cell.val (qO p m w wd T)]=[Cell.no]from rfl,cX];simp only[OA,MW,st];rw[UJ ⟨by simpa using z,I,b⟩];rfl
theorem KZ(C:m<=900)(I:m'<=900):kH [qO p m w wd T,qO p' m' w' wd' T']=bQ (.val<|.bl<|decide<|p=p'/\oF m m' w w'):=by
 have z:=yk (p:=p) (wd:=wd) (T:=T) (w:=w) C;have O:=yk (p:=p') (wd:=wd') (T:=T') (w:=w') I;have d:gm (.str<|j5 m w) (.str<|j5 m' w')=bQ (.bl<|decide<|oF m m' w w'):=by unfold gm;rw[UJ ⟨fI m w,fI m' w'⟩];congr 2;rw[Rw];simp only[g9,Uv,beq_iff_eq,decide_eq_true_eq];exact pZ
 by_cases q:p=p'
 ·simp[kH,jo,z9,Kg,q,z,O,d]
  subst q;simp[z,d]
 ·simp[kH,jo,z9,Kg,q]
end
theorem ig(xs:List D)(n:Nat)(C:xs.length=n)(J : ∀i (h:i<n),∃z,xs[i]'(C ▸ h) = .int z)(bd:n<=63)(k:Int)(L:0<=k)(be:k<100000) :
 ∃m,jy [.lst xs,.int k]=bQ (.val<|.int m)/\0<=m/\m<1000000007:=by
 have O : ∀x:Int,ZT x 48271=bX:=λx=>Zr _ _ ⋯ ⋯;have U : ∀x:Int,ZT 7 x=bX:=λx=>vG _ _ ⋯ ⋯;have e : ∀x:Int,ZT 13 x=bX:=λx=>vG _ _ ⋯ ⋯;have f : ∀x:Int,ZT x 69621=bX:=λx=>Zr _ _ ⋯ ⋯;have g:ZT (7*k) k=bX:=Zr _ _ ⋯ ⋯;have I:Eo 10 9=bX:=by decide
 have b:Eo 10 30=bX:=by decide
 have hl:lim=2500:=rfl;by_cases H:n=0
 ·subst H
  have l:xs=[]:=NG C;subst l;simp[jy,jo,z9,jI,O,U,e,f,g,I,b];omega
 ·have o:0<n:=by omega
  obtain⟨i,R⟩:=Rx (NM k<|show(n:Int)≠0 by omega);have u:i<n:=by have:=Nx k (show(0:Int)<n by omega);omega
  obtain⟨zi,B⟩:=J i u;have X:ec n (i:Int)=bQ i:=by rw[j6,UJ u]
  by_cases P:n=1
  ·subst P
   have p:i=0:=by omega
   subst p;have k1:k%1=0:=by omega
   simp[jy,jo,z9,jI,O,U,e,f,g,I,b,C,B];omega
  ·obtain⟨z0,l⟩:=J 0 o
   have p:ec n 0=bQ 0:=by have:=j6 n 0;rw[UJ o]at this;exact this
   have F:(0:Int)<(n:Int) - 1:=by omega
   have G:(1:Int)<(n:Int):=by omega
   have A:1<n:=by omega
   have Z:(n:Int) - 1<1073741824:=by omega
   have q4:(0:Int)<(n:Int):=by omega
   obtain⟨j,S⟩:=Rx (NM k<|show(n:Int) - 1≠0 by omega);have w:1+j<n:=by have:=Nx k F;omega
   obtain⟨zj,N⟩:=J (1+j) w;have Y:ec n (1+(j:Int))=bQ (1+j):=by have:=j6 n<|1+j;rw[UJ w]at this;rw[<- this];congr 1
   have Q:0<=k/((n:Int) - 1)/\k/((n:Int) - 1)<=k:=⟨Int.ediv_nonneg L ⋯,Int.ediv_le_self _ L⟩;obtain⟨t,T⟩:=Rx Q.1;by_cases E:z0%2=1
   ·obtain⟨a,K,bl⟩ : ∃a:Nat,(if (t:Int)<60 then (t:Int)else 60)=a/\a<=60:=by
     split
     ·exact⟨t,rfl,by omega⟩
     ·exact⟨60,rfl,by omega⟩
    have M:inR (a:Int)=bX:=kx ⋯ ⋯;simp[jy,jo,z9,jI,O,U,e,f,g,C,o,w,G,A,l,p,F,Z,E,S,Y,N,T,I,b];rw[K,UJ M];simp only[MW,j9,Oi];rw[jw a λi=>(i:Int)];have y : ∀(m s:Nat) (v:Int) (c:Cell),∃r d,k7 (.nm 3) (jF 2<|zK Jv (zf 2)<|zK uK (zy<|D.int 10)<|zy<|D.int 9) ((OB s m).map λ(i:Nat)=>D.int i) [.val (.lst xs),.val<|.int k,.val<|.int v,c,.no] =
     bQ (.next [.val (.lst xs),.val<|.int k,.val<|.int r,d,.no]):=by
     intro m
     induction m with
     | zero=>intro s v c;exact⟨v,c,rfl⟩
     | succ m W=>
      intro s v c;rw[RK,Nt,xt];obtain⟨r,d,h⟩:=W (s+1) (v/10 ^ 9)<|.val<|.int s;refine⟨r,d,?_⟩;rw[<- h];simp[I]
    obtain⟨r,d,h⟩:=y a 0 zj .no;rw[<- Rb]at h;rw[h];simp[I];omega
   ·simp[jy,jo,z9,jI,O,U,e,f,g,C,G,A,q4,o,l,p,E,R,B,u,X,I,b]
    omega
theorem uO(C:List Int)(J:C.length<=63)(k:Int)(z:0<=k)(I:k<100000) : ∃m,jy [yd C,.int k]=bQ (.val<|.int m)/\0<=m/\m<1000000007:=
 ig (C.map D.int) C.length ⋯ (λi a=>⟨C[i],by simp⟩) J k z I
noncomputable def vF(C:List Int)(k:Int):Int:=match jy [yd C,.int k]with
 | some (.val<|.int m)=>m
 | _=>0
theorem Wm(C:ns.length<=63)(z:0<=k)(I:k<100000):jy [yd ns,.int k]=bQ (.val<|.int<|vF ns k)/\0<=vF ns k/\vF ns k<1000000007:=by
 obtain⟨m,h,a,b⟩:=uO ns C k z I;have e:vF ns k=m:=by unfold vF;rw[h]
 rw[e];exact⟨h,a,b⟩
noncomputable def z6(bs:List (Int×Int)):List D:=bs.map λb=>D.tup [.int b.1,.int b.2]
@[simp] theorem Eu(bs):(z6 bs).length=bs.length:=by simp[z6]
noncomputable def vZ(bs:List (Int×Int)):List (Int×Int):=(kP bs).map λi=>bs.getD i (0,0)
theorem ZC(bs):(vZ bs).Perm bs:=by have:=(xp bs).map λi=>bs.getD i (0,0);rw[jt]at this;exact this
noncomputable def yj(n:Int)(b:Int×Int):Prop:=0<=b.1/\b.1<=b.2/\b.2<n
@[simp] noncomputable def FC:=@Bi.eq_1
section ap
variable(γ:Ctx)
@[simp] noncomputable def FB:=@Bh.eq_1
@[simp] noncomputable def FF:=@Bk.eq_1
@[simp] noncomputable def FG:=@oO.eq_1
@[simp] noncomputable def Lo:=@LW.eq_1
end ap
noncomputable def Aq(b:Int×Int)(r:Int):Bool:=decide (b.1<=r) && decide (r<=b.2)
noncomputable def qr(bs:List (Int×Int))(r:Int):List Nat:=(MO bs.length).filter λi=>Aq (bs.getD i (0,0)) r
noncomputable def Ha(l:List Nat):List D:=l.map λ(i:Nat)=>D.int i
@[simp] theorem Fi(l):(Ha l).length=l.length:=by simp[Ha]
noncomputable def i3(i j:Nat):Int:=if i=j then 1 else 0
noncomputable def Jc(p:Int)(n:Nat)(f g:UV):Prop:=∀i j,i<n->j<n->zg (λk=>f i k*g k j) n%p=i3 i j%p
@[simp] theorem Ap(r):kX (.nest r) = .no:=rfl
@[simp] theorem Cu(r):kX (.own r) = .no:=rfl
@[simp] theorem Ct(d):kX (.val d) = .val d:=rfl
@[simp] theorem Fh:kX .no = .no:=rfl
section
variable{p:Int}{n:Nat}
structure Pair(p:Int)(n:Nat)(f g:UV):Prop where
 bf : ∀i j,i<n->j<n->0<=f i j/\f i j<p
 bg : ∀i j,i<n->j<n->0<=g i j/\g i j<p
 fg:Jc p n f g
 gf:Jc p n g f
end
noncomputable def zM(w:UK)(k:Nat):Nat:=if w k then k+1 else k
noncomputable def zO(w:UK)(k:Nat):Nat:=if w k then k else k+1
noncomputable def jr(m:Nat)(wd:UX)(f:UW):List D:=(MO m).map λk=>qN (wd k) (wd k)<|f k
@[simp] theorem Yf(m wd f):(jr m wd f).length=m:=by simp[jr]
@[simp] theorem ES(wd f)(h:k<(jr m wd f).length):(jr m wd f)[k]=qN (wd k) (wd k) (f k):=by simp[jr]
noncomputable def lN(p:Int)(w:UK)(wd:UX)(f g T:UW)(k i j:Nat):Int:=
 zg (λb=>g (zM w k) b j*(zg (λa=>T k a b*f (zO w k) i a) (wd<|zO w k)%p)) (wd<|zM w k)%p
noncomputable def b1:=(fy (jX<|sB<|zE XX<|zb (zf 1) zI) Yw jU)
noncomputable def b2:=(jF 3<|zK qu (xw<|zf 1)<|zy<|.int 1)
noncomputable def b3:=(fy (jX<|sB<|lu<|js<|zU (zT<|zh 2) (.nm 0) 1 [3] jz (zE Je<|zb (zf 1)<|zb (zf 0) zI)) Yw jU)
noncomputable def b4:=(jF 4<|qh<|Bi<|zh 2)
noncomputable def x1:CO Xn:=(F9 (jX (sB (zE XX (zb (zf 1) zI)))) (Aw "NoRow") Gs)
noncomputable def x3:CO Xn:=(F9 (jX (sB (lu (js (zU (zT (zh 2)) (.nm 0) 1 [3] jz (zE Je (zb (zf 1) (zb (zf 0) zI)))))))) (Aw "NoRow") Gs)
noncomputable def x7:CO Xn:=(F9 (sB (zK C3 (Am (zh 6)) (zy (.int 30)))) (Aw "TooMany") Gs)
noncomputable def Bn(m:Nat)(bs:List (Int×Int)):List D:=(MO<|m+1).map λ(r:Nat)=>D.lst<|Ha<|qr bs r
noncomputable def pX(m:Nat)(bs:List (Int×Int)):List D:=zB (m+1) λr=>((qr bs r).length:Int)
section
variable{p:Int}{m:Nat}{w:UK}{bs:List (Int×Int)}
abbrev g0(p:Int)(z:Str)(bs:List (Int×Int)):Ctx:=[.val (.int p),.val (.str z),.val (.lst (z6 bs)),.no,.no,.no,.no,.no]
abbrev g2(p:Int)(z:Str)(m:Nat)(bs:List (Int×Int)):Ctx:=[.val (.int p),.val (.str z),.val (.lst (z6 bs)),.val (.int ((m+1:Nat):Int)),.no,.no,.no,.no]
abbrev g6(p:Int)(z:Str)(m:Nat)(bs:List (Int×Int)):Ctx:=[.val (.int p),.val (.str z),.val (.lst (z6 bs)),.val (.int ((m+1:Nat):Int)),.val (.lst (z6 (vZ bs))),.val (.lst (Bn m (vZ bs))),.val (.tup (pX m (vZ bs))),.no]
end
theorem zv(h:F γ=bQ (.next γ'))(g:G γ'=r):zR F G γ=r:=by rw[jI,h];exact g
theorem je(h:F (z9 n ds)=bQ (.ret r)):jo n F ds=bQ r:=by show(F<|z9 n ds).bind _=_;rw[h];rfl
theorem Vf{T:Tg}{F:CO Fl}(P:Nat->Ctx->Prop)(n:Nat){γ:Ctx}(O:P 0 γ)(step : ∀s,s<n->∀γ,P s γ->∃γ1 z,xC T (.int (s:Int)) γ=bQ γ1/\F γ1=bQ (.next z)/\P (s+1) z) :
 ∃γ',k7 T F ((MO n).map λ(i:Nat)=>D.int (i:Int)) γ=bQ (.next γ')/\P n γ':=by
 have a : ∀(k s:Nat) (γ:Ctx),s+k=n->P s γ->∃γ',k7 T F ((OB s k).map λ(i:Nat)=>D.int (i:Int)) γ=bQ (.next γ')/\P n γ':=by
  intro k
  induction k with
  | zero=>
   intro s γ e I;obtain rfl:s=n:=by omega
   exact⟨γ,rfl,I⟩
  | succ k U=>
   intro s γ e I;obtain⟨γ1,z,b,d,f⟩:=step s ⋯ γ I;obtain⟨γ',g,h⟩:=U (s+1) z ⋯ f;refine⟨γ',?_,h⟩;rw[RK,Nt,xt,b];simp only[MW,d];exact g
 have:=a n 0 γ ⋯ O;rw[<- Rb]at this;exact this
theorem jV(P:Nat->Ctx->Prop)(n:Nat)(C:n<=lim)(I:f γ=bQ (.int (n:Int)))(O:P 0 γ)(step : ∀s,s<n->∀γ,P s γ->∃γ1 z,xC T (.int (s:Int)) γ=bQ γ1/\F γ1=bQ (.next z)/\P (s+1) z) :
 ∃γ',yB (zS f) T F γ=bQ (.next γ')/\P n γ':=by
 obtain⟨γ',e,U⟩:=Vf P n O step;refine⟨γ',?_,U⟩;have a:=jg;have r:inR (n:Int)=bX:=kx ⋯ ⋯;rw[Jb,kZ,I];simp only[MW,kY,r,if_true,Oi,j9];rw[jw n λi=>(i:Int)];exact e
end DL
namespace DL
open PySem L2 PySem.W PyProof.Rows
noncomputable def iW(x y:Int×Int):Prop:=Zh y x=cE
theorem Zj(x):iW x x:=by unfold iW Zh;simp
theorem Ky:iW x y↔x.1<y.1\/(x.1=y.1/\x.2<=y.2):=by
 unfold iW Zh;by_cases h:y.1=x.1
 ·rw[UJ h,decide_eq_false_iff_not];omega
 ·rw[UY h,decide_eq_false_iff_not];omega
theorem fT:Zh x y=bX↔x.1<y.1\/(x.1=y.1/\x.2<y.2):=by
 unfold Zh;by_cases h:x.1=y.1
 ·rw[UJ h,decide_eq_true_iff];omega
 ·rw[UY h,decide_eq_true_iff];omega
theorem Zi(a:iW x y)(b:iW y z):iW x z:=by rw[Ky]at *;omega
theorem Zk(a:Zh x y=bX):iW x y:=by rw[fT]at a;rw[Ky];omega
theorem Cz(a:Zh x y=bX)(b:iW y z):Zh x z=bX:=by rw[fT]at *;rw[Ky]at b;omega
theorem Kz(a:iW x y)(b:iW y x):x=y:=by rw[Ky]at *;obtain⟨x1,z⟩:=x;obtain⟨I,O⟩:=y;simp only[Prod.mk.injEq]at *;omega
section
variable(key:Nat->Int×Int)
noncomputable def vA(p:Array Nat)(i:Nat):Int×Int:=key<|p.getD i 0
noncomputable def hL(i j:Nat):Bool:=Zh (key i)<|key j
noncomputable def p6(p:Array Nat)(n:Nat):Prop:=∀i j,i<=j->j<n->iW (vA key p i) (vA key p j)
noncomputable def Dec(p:Array Nat)(n:Nat):Prop:=∀i j,i<=j->j<n->iW (vA key p j) (vA key p i)
variable{key}
theorem yC(f:α->KasT β) : ∀t:KasT α,kF lt (t.bind f)=kF lt (f<|kF lt t)
 | .ret a=>rfl
 | .ask i j k=>yC f<|k<|lt i j
theorem yL(p:Array Nat)(i j):(kas_rev p i j).size=p.size:=mirror_size _ _ _ _
theorem FS(p:Array Nat)(i:Nat):vA key p i=key (p[i]?.getD 0):=by unfold vA;rw[PM]
theorem cZ(z:j<=p.size)(k:Nat):vA key (kas_rev p i j) k=if i<=k/\k<j then vA key p (i+j - 1 - k)else vA key p k:=by have:=getElem?_mirror_all (xs:=p) (i:=i) z k;unfold vA kas_rev;rw[PM,this];split<;>rw[PM]
theorem JE(I:j<=p.size)(z : ∀k,i<=k->k<j->vA key p k=vA key p (j - 1))(k:Nat):vA key (kas_rev p i j) k=vA key p k:=by
 rw[cZ I];split
 ·rename_i h
  rw[z _ ⋯ ⋯,z k h.1 h.2]
 ·rfl
theorem oH(z:k<p.size)(I:l<=k)(i:Nat):vA key (bubble p k<|k - l) i=if i=l then vA key p k else if l<i/\i<=k then vA key p (i - 1)else vA key p i:=by
 have:=getElem?_bubble (xs:=p) z (k - l) ⋯ i;rw[show k - (k - l)=l by omega]at this;simp only[FS];rw[this];split
 ·rfl
 ·split<;>rfl
theorem lU(C:1<=n)(hs:p6 key p n)(h:iW (vA key p<|n - 1) (vA key p n)):p6 key p (n+1):=λi j z O=>by
 by_cases e:j=n
 ·subst e
  by_cases I:i=j
  ·subst I;exact Zj _
  ·exact Zi (hs i (j - 1) ⋯ ⋯) h
 ·exact hs i j z ⋯
theorem Jt(C:1<=n)(hs:Dec key p n)(h:iW (vA key p n) (vA key p<|n - 1)):Dec key p (n+1):=λi j z O=>by
 by_cases e:j=n
 ·subst e
  by_cases I:i=j
  ·subst I;exact Zj _
  ·exact Zi h<|hs i (j - 1) ⋯ ⋯
 ·exact hs i j z ⋯
theorem iE(p:Array Nat) : ∀(f n:Nat),1<=n->p6 key p n->n<=kF (hL key) (kas_asc p f n)/\kF (hL key) (kas_asc p f n)<=n+f/\p6 key p (kF (hL key)<|kas_asc p f n)/\(kF (hL key) (kas_asc p f n)=n+f\/Zh (vA key p<|kF (hL key)<|kas_asc p f n) (vA key p<|kF (hL key) (kas_asc p f n) - 1)=bX)
 | 0,n,hn,hs=>⟨MY _,MY _,hs,.inl rfl⟩
 | f+1,n,hn,hs=>by
  have e:kF (hL key) (kas_asc p (f+1) n)=kF (hL key) (if Zh (vA key p n) (vA key p<|n - 1)=bX then .ret n else kas_asc p f (n+1)):=rfl;rw[e];by_cases c:Zh (vA key p n) (vA key p<|n - 1)=bX
  ·rw[UJ c]
   exact⟨MY _,by show n<=n+(f+1);omega,hs,.inr c⟩
  ·rw[UY c]
   obtain⟨O,U,z,I⟩:=iE p f (n+1) ⋯ (lU hn hs<|by unfold iW;simpa using c);exact⟨by omega,by omega,z,I.imp (λh=>by omega) id⟩
noncomputable def G3(key:Nat->Int×Int)(p:Array Nat)(n q:Nat):Prop:=q+1<=n/\∀i,n - (q+1)<=i->i<n->vA key p i=vA key p (n - 1)
theorem Wo(p:Array Nat)(C:1<=n):G3 key p n 0:=⟨C,λi a b=>by rw[show i=n - 1 by omega]⟩
theorem KM : ∀(f:Nat) (p:Array Nat) (n q:Nat),Dec key p n->G3 key p n q->n+f<=p.size->
 ∃p' n' z,kF (hL key) (kas_desc f p n q)=(p',n',z)/\p'.size=p.size/\n<=n'/\n'<=n+f/\Dec key p' n'/\G3 key p' n' z
 | 0,p,n,q,hd,hb,_=>⟨p,n,q,rfl,rfl,MY _,MY _,hd,hb⟩
 | f+1,p,n,q,hd,hb,hs=>by
  have b:1<=n:=by have:=hb.1;omega
  have e:kF (hL key) (kas_desc (f+1) p n q)=kF (hL key) (if Zh (vA key p n) (vA key p<|n - 1)=bX then (if q>0 then kas_desc f (kas_rev p (n - (q+1)) n) (n+1) 0 else kas_desc f p (n+1) 0)
   else .ask (p.getD (n - 1) 0) (p.getD n 0) λd=>if d=bX then .ret (p,n,q)else kas_desc f p (n+1) (q+1)):=rfl
  rw[e];by_cases c:Zh (vA key p n) (vA key p<|n - 1)=bX
  ·rw[UJ c]
   by_cases l:q>0
   ·rw[UJ l]
    have k:=JE (key:=key) (p:=p) (i:=n - (q+1)) (j:=n) ⋯ hb.2;have o:Dec key (kas_rev p (n - (q+1)) n) (n+1):=λi j r w=>by rw[k,k];exact Jt b hd (Zk c) i j r w
    obtain⟨p',n',z,a,I,g,h,O,U⟩:=KM f (kas_rev p (n - (q+1)) n) (n+1) 0 o (Wo _ ⋯) (by rw[yL];omega);exact⟨p',n',z,a,by rw[I,yL],by omega,by omega,O,U⟩
   ·rw[UY l]
    obtain⟨p',n',z,a,I,g,h,O,U⟩:=KM f p (n+1) 0 (Jt b hd<|Zk c) (Wo _ ⋯) ⋯;exact⟨p',n',z,a,I,by omega,by omega,O,U⟩
  ·rw[UY c]
   have t:kF (hL key) (.ask (p.getD (n - 1) 0) (p.getD n 0) λd=>if d=bX then .ret (p,n,q)else kas_desc f p (n+1) (q+1))=kF (hL key) (if Zh (vA key p<|n - 1) (vA key p n)=bX then .ret (p,n,q)else kas_desc f p (n+1) (q+1)):=rfl;rw[t];by_cases d:Zh (vA key p<|n - 1) (vA key p n)=bX
   ·rw[UJ d]
    exact⟨p,n,q,rfl,rfl,MY _,by omega,hd,hb⟩
   ·rw[UY d]
    have x:iW (vA key p<|n - 1) (vA key p n):=by unfold iW;simpa using c
    have m:iW (vA key p n) (vA key p<|n - 1):=by unfold iW;simpa using d
    have eq:=Kz x m;have s:G3 key p (n+1) (q+1):=⟨by have:=hb.1;omega,λi y A=>by
     rw[Nat.add_sub_cancel];by_cases u:i=n
     ·rw[u]
     ·rw[hb.2 i ⋯ ⋯,eq]⟩
    obtain⟨p',n',z,a,I,g,h,O,U⟩:=KM f p (n+1) (q+1) (Jt b hd m) s ⋯;exact⟨p',n',z,a,I,by omega,by omega,O,U⟩
noncomputable def lg(key:Nat->Int×Int)(C nrem:Nat)(r:Nat×Array Nat):Prop:=1<=r.1/\r.1<=nrem/\r.2.size=C/\p6 key r.2 r.1
theorem WJ(J:1<=n)(O:n<=nrem)(hs:nrem<=p.size)(C:Dec key p n):lg key p.size nrem (kF (hL key)<|kas_tail3 n nrem p):=by
 have z:p6 key (kas_rev p 0 n) n:=λi j U d=>by rw[cZ ⋯,cZ ⋯,UJ ⟨by omega,by omega⟩,UJ ⟨by omega,by omega⟩];exact C _ _ ⋯ ⋯
 obtain⟨a,b,I,_⟩:=iE (kas_rev p 0 n) (nrem - n) n J z;unfold kas_tail3;rw[yC];exact⟨by show 1<=kF _ _;omega,by show kF _ _<=nrem;omega,yL _ _ _,I⟩
theorem fC(J:1<=n)(L:n<nrem)(hs:nrem<=p.size)(O : ∀i,i<n->vA key p i=vA key p (n - 1))(C:Zh (vA key p n) (vA key p<|n - 1)=bX):lg key p.size nrem (kF (hL key)<|kas_descPart n nrem p):=by
 have k:Dec key p n:=λi j U I=>by rw[O i ⋯,O j I];exact Zj _
 obtain⟨b,a,z,g,d,l,m,e,h⟩:=KM (nrem - (n+1)) p (n+1) 0 (Jt J k<|Zk C) (Wo _ ⋯) ⋯;unfold kas_descPart;rw[yC,g];show lg key p.size nrem (kF (hL key)<|if z>0 then kas_tail3 a nrem (kas_rev b (a - (z+1)) a)else kas_tail3 a nrem b);split
 ·have f:=JE (key:=key) (p:=b) (i:=a - (z+1)) (j:=a) ⋯ h.2
  have:=WJ (p:=kas_rev b (a - (z+1)) a) (n:=a) (nrem:=nrem) ⋯ ⋯ (by rw[yL];omega) (λi j U I=>by rw[f,f];exact e i j U I);rw[yL,d]at this;exact this
 ·have:=WJ (p:=b) (n:=a) (nrem:=nrem) ⋯ ⋯ ⋯ e
  rw[d]at this;exact this
theorem ot(C:1<=nrem)(hs:nrem<=p.size):lg key p.size nrem (kF (hL key)<|kas_count nrem p):=by
 have g:p6 key p 1:=λi j o s=>by rw[show i=j by omega];exact Zj _
 obtain⟨z,f,I,U⟩:=iE p (nrem - 1) 1 (MY _) g;unfold kas_count;rw[yC];generalize kF (hL key) (kas_asc p (nrem - 1) 1)=n at z f I U;show lg key p.size nrem (kF (hL key)<|if (n==nrem)=bX then .ret (n,p)else if n>1 then .ask (p.getD 0 0) (p.getD (n - 1) 0) λc=>if c=bX then .ret (n,p)else kas_descPart n nrem (kas_rev p 0 n)else kas_descPart n nrem p);split
 ·rename_i h
  have:=eq_of_beq h;exact⟨z,by show n<=nrem;omega,rfl,I⟩
 ·rename_i h
  have r:n≠nrem:=λe=>h (by rw[e];exact beq_self_eq_true _);have b:Zh (vA key p n) (vA key p<|n - 1)=bX:=U.resolve_left ⋯;split
  ·have e:kF (hL key) (.ask (p.getD 0 0) (p.getD (n - 1) 0) λc=>if c=bX then .ret (n,p)else kas_descPart n nrem (kas_rev p 0 n))=kF (hL key) (if Zh (vA key p 0) (vA key p<|n - 1)=bX then .ret (n,p)else kas_descPart n nrem (kas_rev p 0 n)):=rfl
   rw[e];split
   ·exact⟨z,by show n<=nrem;omega,rfl,I⟩
   ·rename_i c
    have l:iW (vA key p<|n - 1) (vA key p 0):=by unfold iW;simpa using c
    have d : ∀i,i<n->vA key p i=vA key p (n - 1):=λi a=>Kz (I i (n - 1) ⋯ ⋯)<|Zi l<|I 0 i ⋯ a;have O:=JE (key:=key) (p:=p) (i:=0) (j:=n) ⋯<|λk _ m=>d k m;have:=fC (key:=key) (p:=kas_rev p 0 n) (n:=n) (nrem:=nrem) z ⋯ (by rw[yL];omega) (λi a=>by rw[O,O];exact d i a) (by rw[O,O];exact b);rw[yL]at this;exact this
  ·exact fC z ⋯ hs (λi a=>by rw[show i=n - 1 by omega]) b
theorem Km(hs:p6 key p k) : ∀(f l r:Nat),l<=r->r<=k->r - l<=f->(∀i,i<l->iW (vA key p i) (vA key p k))->(∀i,r<=i->i<k->Zh (vA key p k) (vA key p i)=bX)->
 kF (hL key) (kas_place p k f l r)<=k/\(∀i,i<kF (hL key) (kas_place p k f l r)->iW (vA key p i) (vA key p k))/\∀i,kF (hL key) (kas_place p k f l r)<=i->i<k->Zh (vA key p k) (vA key p i)=bX
 | 0,l,r,h1,h2,h3,h4,h5=>⟨by show l<=k;omega,h4,λi a z=>h5 i (by have:l<=i:=a;omega) z⟩
 | f+1,l,r,h1,h2,h3,h4,h5=>by
  have e:kF (hL key) (kas_place p k (f+1) l r)=kF (hL key) (if l>=r then .ret l else .ask (p.getD k 0) (p.getD ((l+r)/2) 0) λc=>if c=bX then kas_place p k f l ((l+r)/2)else kas_place p k f ((l+r)/2+1) r):=rfl;rw[e];by_cases I:l>=r
  ·rw[UJ I]
   exact⟨by show l<=k;omega,h4,λi a z=>h5 i (by have:l<=i:=a;omega) z⟩
  ·rw[UY I]
   have O:kF (hL key) (.ask (p.getD k 0) (p.getD ((l+r)/2) 0) λc=>if c=bX then kas_place p k f l ((l+r)/2)else kas_place p k f ((l+r)/2+1) r)=kF (hL key) (if Zh (vA key p k) (vA key p<|(l+r)/2)=bX then kas_place p k f l ((l+r)/2)else kas_place p k f ((l+r)/2+1) r):=rfl;rw[O];by_cases c:Zh (vA key p k) (vA key p<|(l+r)/2)=bX
   ·rw[UJ c]
    exact Km hs f l ((l+r)/2) ⋯ ⋯ ⋯ h4 λi a z=>Cz c<|hs _ _ a z
   ·rw[UY c]
    have U:iW (vA key p<|(l+r)/2) (vA key p k):=by unfold iW;simpa using c
    exact Km hs f ((l+r)/2+1) r ⋯ h2 ⋯ (λi a=>Zi (hs i ((l+r)/2) ⋯ ⋯) U) h5
theorem BF(I:k<p.size)(O:l<=k)(hs:p6 key p k)(C : ∀i,i<l->iW (vA key p i) (vA key p k))(h2 : ∀i,l<=i->i<k->Zh (vA key p k) (vA key p i)=bX):p6 key (bubble p k<|k - l) (k+1):=λi j d e=>by
 rw[oH I O,oH I O];by_cases b:i=l
 ·subst b
  rw[UJ rfl];by_cases z:j=i
  ·rw[UJ z];exact Zj _
  ·rw[UY z,UJ ⟨by omega,by omega⟩]
   exact Zk<|h2 _ ⋯ ⋯
 ·rw[UY b]
  by_cases U:l<i/\i<=k
  ·rw[UJ U,UY (show ¬j=l by omega),UJ ⟨by omega,by omega⟩]
   exact hs _ _ ⋯ ⋯
  ·rw[UY U]
   by_cases z:j=l
   ·rw[UJ z];exact C i ⋯
   ·rw[UY z]
    by_cases a:l<j/\j<=k
    ·rw[UJ a];exact hs _ _ ⋯ ⋯
    ·rw[UY a];exact hs _ _ d ⋯
theorem pR : ∀(f:Nat) (p:Array Nat) (k n:Nat),k+f=n->p.size=n->p6 key p k->p6 key (kF (hL key)<|kas_bin f p k) n/\(kF (hL key)<|kas_bin f p k).size=n
 | 0,p,k,n,h1,h2,hs=>by
  obtain rfl:k=n:=by omega
  exact⟨hs,h2⟩
 | f+1,p,k,n,h1,h2,hs=>by obtain⟨z,I,O⟩:=Km hs k 0 k ⋯ (MY _) ⋯ (λi b=>by omega) (λi U a=>by omega);unfold kas_bin;rw[yC];exact pR f _ (k+1) n ⋯ (by rw[bubble_size];exact h2)<|BF ⋯ z hs I O
theorem sr(C:1<=n):p6 key (kF (hL key)<|kas_sort n) n/\(kF (hL key)<|kas_sort n).size=n:=by
 have d:(Sg<|MO n).size=n:=by simp
 obtain⟨z,I,b,a⟩:=ot (key:=key) (p:=Sg<|MO n) (nrem:=n) C ⋯;unfold kas_sort;rw[yC];generalize kF (hL key) (kas_count n<|Sg<|MO n)=r at z I b a;show p6 key (kF (hL key)<|if r.1<n then kas_bin (n - max r.1 1) r.2 (max r.1 1)else .ret r.2) n/\(kF (hL key)<|if r.1<n then kas_bin (n - max r.1 1) r.2 (max r.1 1)else .ret r.2).size=n;rw[show max r.1 1=r.1 by omega];split
 ·exact pR (n - r.1) r.2 r.1 n ⋯ ⋯ a
 ·have:r.1=n:=by omega
  rw[this]at a;exact⟨a,by show r.2.size=n;omega⟩
end
theorem ZW(bs:List (Int×Int)):(vZ bs).Pairwise iW:=by
 unfold vZ kP;by_cases h:bs.length<2
 ·rw[UJ h]
  rcases bs with _ | ⟨a,_ | ⟨b,bs⟩⟩
  ·exact PY.nil
  ·exact List.pairwise_singleton _ _
  ·simp only[NW]at h;omega
 ·rw[UY h]
  obtain⟨f,g⟩:=sr (key:=λi=>bs.getD i (0,0)) (n:=bs.length) ⋯;have e:(kF (λi j=>Zh (bs.getD i (0,0))<|bs.getD j (0,0))<|kas_sort bs.length)=kF (hL λi=>bs.getD i (0,0)) (kas_sort bs.length):=rfl;rw[e];generalize kF (hL λi=>bs.getD i (0,0)) (kas_sort bs.length)=p at f g;rw[G7];intro i j d z I;simp only[Nf,OU]at d z;have:=f i j ⋯ ⋯;unfold vA at this;simp only[PM,Array.getElem?_eq_getElem d,Array.getElem?_eq_getElem z,RF]at this;simpa using this
theorem JN : ∀{a b:List (Int×Int)},a.Perm b->a.Pairwise iW->b.Pairwise iW->a=b
 | [],b,h,_,_=>by rw[h.nil_eq]
 | x::a,[],h,_,_=>by have:=h.length_eq;simp at this
 | x::a,y::b,h,ha,hb=>by
  have d:x∈y::b:=h.mem_iff.mp Nk;have I:y∈x::a:=h.mem_iff.mpr Nk;have e:x=y:=by
   rcases Nc.mp d with e | e
   ·exact e
   ·rcases Nc.mp I with z | z
    ·exact z.symm
    ·exact Kz (List.rel_of_pairwise_cons ha z)<|List.rel_of_pairwise_cons hb e
  subst e;rw[JN (List.Perm.cons_inv h) ha.of_cons hb.of_cons]
theorem wz(h:a.Perm b):vZ a=vZ b:=
 JN ((ZC a).trans (h.trans (ZC b).symm)) (ZW a) (ZW b)
end DL
namespace DL
open PySem L2
section
variable{p:Int}
noncomputable def gW(h w:Nat)(f:UV):List D:=(MO h).map λi=>D.lst<|zB w<|f i
@[simp] theorem Ej(h w f):(gW h w f).length=h:=by simp[gW]
end
@[simp] theorem Ar(h w f):(gW h w f).length=h:=by simp[gW]
section
variable{p:Int}{h w q r:Nat}
noncomputable def app(f:UV)(w:Nat)(v:Vc):Vc:=λi=>zg (λj=>f i j*v j) w
theorem Ws(z : ∀j,j<w->v j%p=(u j+c*g j)%p)(i:Nat):app f w v i%p=(app f w u i+c*app f w g i)%p:=by
 unfold app;have e:zg (λj=>f i j*v j) w%p=zg (λj=>f i j*u j+c*(f i j*g j)) w%p:=zL λj I=>by rw[MX,z j I,<- MX,RZ,Pu]
 rw[e,jO,ja]
theorem aR(z : ∀j,j<w->v j%p=0)(i:Nat):app f w v i%p=0:=by
 unfold app;have:zg (λj=>f i j*v j) w%p=zg (λ_=>0) w%p:=zL λj I=>by rw[MX,z j I];simp
 rw[this,zH];rfl
theorem qH(z : ∀j,j<w->v j%p=u j%p)(i:Nat):app f w v i%p=app f w u i%p:=by unfold app;exact zL λj I=>by rw[MX,z j I,<- MX]
theorem bh(O:f7 p (h+w) r B l)(hs:s<=r)(J : ∀k,k<s->l k<h)(C : ∀k,s<=k->k<r->h<=l k) :
 f7 p w (r - s) (λk j=>B (s+k)<|h+j) (λk=>l (s+k) - h)/\∀v,Span p w (dr (r - s) λk j=>B (s+k)<|h+j) v↔Span p (h+w) (dr r B) (ve h (λ_=>0) v):=by
 refine⟨{
  lt:=λk I=>by have:=O.lt (s+k) ⋯;have:=C (s+k) ⋯ ⋯;omega
  mono:=λk m I x=>by have:=O.mono (s+k) (s+m) ⋯ ⋯;have:=C (s+k) ⋯ ⋯;omega
  one:=λk I=>by have:=C (s+k) ⋯ ⋯;rw[show h+(l (s+k) - h)=l (s+k)by omega];exact O.one _ ⋯
  k0:=λk j I t=>O.k0 _ _ ⋯ ⋯
  o5:=λk m I x E=>by have:=C (s+m) ⋯ ⋯;rw[show h+(l (s+m) - h)=l (s+m)by omega];exact O.o5 _ _ ⋯ ⋯ ⋯
  h9:=λk i I b=>O.h9 _ _ ⋯ ⋯},λv=>⟨λU=>?_,λU=>?_⟩⟩
 ·induction U with
  | @zero v y=>
   refine .zero λi b=>?_;rcases Nn i h with z | z
   ·rw[qo z];simp
   ·obtain⟨k,rfl⟩ : ∃k,i=h+k:=⟨i - h,by omega⟩
    rw[qT];exact y k ⋯
  | @step v u g c o G n a=>
   obtain⟨k,I,rfl⟩:=o;refine .step (g:=B<|s+k) (c:=c) ⟨s+k,by omega,rfl⟩ a λi b=>?_;rcases Nn i h with z | z
   ·rw[qo z,qo z,O.k0 (s+k) i ⋯ (by have:=C (s+k) ⋯ ⋯;omega)];simp
   ·obtain⟨j,rfl⟩ : ∃k,i=h+k:=⟨i - h,by omega⟩
    rw[qT,qT];exact n j ⋯
 ·have e:=Jk O U
  refine(Span.sum (u:=λk j=>B (s+k)<|h+j) (λk=>ve h (λ_=>0) v<|l<|s+k) (m:=r - s) λk I=> .gen ⟨k,I,rfl⟩).congr λj t=>?_;have:=e (h+j) ⋯;rw[qT]at this;rw[this];obtain⟨d,rfl⟩ : ∃d,r=s+d:=⟨r - s,by omega⟩;rw[B8];have A : ∀(F:Nat->Int) (d:Nat),(∀k,k<s->F k=0)->zg F (s+d)=zg (λk=>F<|s+k) d:=by
   intro F d f
   induction d with
   | zero=>
    show zg F s=0;rw[zw (g:=λ_=>0) f,zH]
   | succ d a=>rw[<- RN];simp only[zg];rw[a]
  rw[A _ d λk I=>by rw[qo (J k I)];simp]
end
section
variable{p:Int}{h w q:Nat}
noncomputable def xx(h w:Nat)(f:UV)(g:Nat->Vc):Nat->Vc:=λm=>if m<w then ve h (λi=>f i m) (jD m)else ve h (g<|m - w) (λ_=>0)
theorem gS(f:UV)(g:Nat->Vc):jc w (h+w) (λj=>ve h (λi=>f i j)<|jD j)++jc q (h+w) (λk=>ve h (g k) λ_=>0)=jc (w+q) (h+w) (xx h w f g):=by
 unfold jc;rw[Sm,NF,NB];congr 1
 ·refine Nj λm a=>?_
  unfold xx;rw[UJ (MR.mp a)]
 ·refine Nj λm a=>?_
  simp only[Function.comp];unfold xx;rw[UY ⋯,B8]
theorem Zs(f:UV)(z:j<w)(i:Nat):app f w (jD j) i=f i j:=by unfold app;rw[zN (f:=λk=>f i k*jD j k) z λk _ I=>by simp[jD,Oa I]];simp[jD]
theorem fE(I:Span p (h+w) (dr (w+q)<|xx h w f g) z):Span p h (dr q g) λi=>z i - app f w (λj=>z<|h+j) i:=by
 induction I with
 | @zero z I=>
  refine .zero λi a=>?_;rw[OW,I i ⋯,aR (p:=p) (λj n=>I (h+j) ⋯) i];simp
 | @step z u o c l s d e=>
  obtain⟨m,r,rfl⟩:=l;have k:=λi=>Ws (p:=p) (w:=w) (f:=f) (u:=λj=>u<|h+j) (g:=λj=>xx h w f g m<|h+j) (v:=λj=>z<|h+j) (c:=c) (λj n=>d (h+j) ⋯) i;have b : ∀i,i<h->(z i - app f w (λj=>z<|h+j) i)%p=((u i - app f w (λj=>u<|h+j) i)+c*(xx h w f g m i - app f w (λj=>xx h w f g m<|h+j) i))%p:=λi a=>by rw[OW,d i ⋯,k i,<- OW];congr 1;rw[Int.mul_sub];omega
  rcases Nn m w with O | O
  ·refine e.congr λi a=>?_
   rw[b i a];have t:app f w (λj=>xx h w f g m<|h+j) i=f i m:=by
    have:(λj=>xx h w f g m<|h+j)=jD m:=by funext j;unfold xx;rw[UJ O,qT]
    rw[this,Zs f O]
   have U:xx h w f g m i=f i m:=by unfold xx;rw[UJ O,qo a]
   rw[t,U];simp
  ·refine .step (g:=g<|m - w) (c:=c) ⟨m - w,by omega,rfl⟩ e λi a=>?_
   rw[b i a];have t:app f w (λj=>xx h w f g m<|h+j) i=0:=by
    have:(λj=>xx h w f g m<|h+j)=λ_=>0:=by funext j;unfold xx;rw[UY ⋯,qT]
    rw[this];unfold app;simp[zH]
   have U:xx h w f g m i=g (m - w) i:=by unfold xx;rw[UY ⋯,qo a]
   rw[t,U];simp
theorem uD(I:Span p h (dr q g) y):Span p (h+w) (dr (w+q)<|xx h w f g) (ve h y λ_=>0):=by
 induction I with
 | @zero y O=>
  refine .zero λi b=>?_;rcases Nn i h with z | z
  ·rw[qo z];exact O i z
  ·obtain⟨k,rfl⟩ : ∃k,i=h+k:=⟨i - h,by omega⟩
   rw[qT];simp
 | @step y u l c U n a d=>
  obtain⟨k,m,rfl⟩:=U;refine .step (g:=xx h w f g<|w+k) (c:=c) ⟨w+k,by omega,rfl⟩ d λi b=>?_;have e:xx h w f g (w+k)=ve h (g k) λ_=>0:=by unfold xx;rw[UY ⋯,B8]
  rw[e];rcases Nn i h with z | z
  ·rw[qo z,qo z,qo z];exact a i z
  ·obtain⟨j,rfl⟩ : ∃k,i=h+k:=⟨i - h,by omega⟩
   rw[qT,qT,qT];simp
theorem K3(hp:Pr p)(hh:h<=20)(hw:w<=20)(hq:q<=100)(f:UV)(g:Nat->Vc) :
 ∃r B l,kJ [.int p,qN h w f,.lst (jc q h g)]=bQ (.own<|jc r w B)/\f7 p w r B l/\∀v,Span p w (dr r B) v↔Span p h (dr q g) (app f w v):=by
 have hl:=jg;have W:h<=lim:=by omega
 have I:w<=lim:=by omega
 have U:h+w<=lim:=by omega
 have X:q<=lim:=by omega
 have o:w+q<=lim:=by omega
 obtain⟨r,B,l,e,O,H⟩:=ke hp (show h+w<=100 by omega) o .L<|xx h w f g;have Y:r<=h+w:=VW O.mono O.lt;obtain⟨s,x,C,E⟩:=Jn h O.mono;have M:=QU O ⋯ x C E;obtain⟨J,R⟩:=bh O x C E;refine⟨r - s,_,_,?_,J,λv=>(R v).trans ((H _).trans ⟨λy=>?_,λy=>?_⟩)⟩
 ·have A:=vK f W I
  have F:=vJ (n:=w) I;have d:zX (.tp [0,1]) jz (zK qu (zf 0)<|zf 1) [Cell.no,Cell.no] ((MO w).map λj=>D.tup [.tup (zB h λi=>f i j),.tup (zB w λk=>if j=k then 1 else 0)])=bQ (jc w (h+w) λj=>ve h (λi=>f i j)<|jD j):=by unfold jc;refine zC _ _ λj t=>zD rfl rfl ?_;simp[qu,U,Js];rfl
  have S:Jg (jc w h λi j=>f j i) (jc w w λi j=>if i=j then 1 else 0)=(MO w).map λj=>D.tup [.tup (zB h λi=>f i j),.tup (zB w λk=>if j=k then 1 else 0)]:=by unfold Jg jc;rw[Dl];simp
  have K:inR (w:Int)=bX:=KC I;have zr:yD (.tup [.int 0]) (.int w)=bQ (.tup<|zB w λ_=>0):=by
   show(if [D.int 0].length*(w:Int).toNat<=lim/\inR (w:Int)=bX then bQ (D.tup (MV (w:Int).toNat [D.int 0]).flatten)else none)=_;rw[UJ ⟨by simpa using I,K⟩];congr 2;rw[Oi];clear d S F A M J R H O e K o U I hw hq C E x Y
   induction w with
   | zero=>rfl
   | succ w ih=>rw[List.replicate_succ',List.flatten_append,ih];unfold zB;rw[NT,NF];rfl
  have N:zX (.nm 0) jz (zK qu (zf 0)<|zK yD (xH<|zb (zy<|.int 0) zI)<|cq (zh 1)<|zy<|.int 1) [Cell.no,Cell.val (qN h w f)] (jc q h g)=bQ (jc q (h+w) λk=>ve h (g k) λ_=>0):=by unfold jc;refine zC _ _ λk Q=>zD rfl rfl ?_;have sq:jj (qN h w f)=bQ (.T,[.int h,.int w,.tup (jc h w f)]):=rfl;simp[sq,zr,qu,U,Js]
  have c1:((h:Int)+(w:Int))=((h+w:Nat):Int):=by omega
  simp only[o9]at e;rw[<- c1,<- gS]at e;have sq:jj (qN h w f)=bQ (.T,[.int h,.int w,.tup (jc h w f)]):=rfl;unfold qN at A F N ⊢;simp[kJ,jo,z9,jI,A,F,S,I,X,o,jn,kX,MV,d,N,e,M]
 ·have:=fE y
  refine(this.smul (-1)).congr λi P=>?_;congr 1;show app f w v i = -1*(ve h (λ_=>0) v i - app f w (λj=>ve h (λ_=>0) v<|h+j) i);rw[qo P,show(λj=>ve h (λ_=>0) v<|h+j)=v from funext λj=>qT j];omega
 ·have a:=Span.sum (p:=p) (n:=h+w) (G:=dr (w+q)<|xx h w f g) (u:=λj=>xx h w f g j) v (m:=w) λj t=> .gen ⟨j,by omega,rfl⟩
  have b:=uD (w:=w) (f:=f) y;refine(b.add a (-1)).congr λi P=>?_;congr 1;rcases Nn i h with z | z
  ·rw[qo z,qo z]
   have:zg (λk=>v k*xx h w f g k i) w=app f w v i:=by unfold app;exact zw λk Q=>by unfold xx;rw[UJ Q,qo z,Om]
   rw[this];omega
  ·obtain⟨k,rfl⟩ : ∃k,i=h+k:=⟨i - h,by omega⟩
   rw[qT,qT];have:zg (λj=>v j*xx h w f g j (h+k)) w=v k:=by rw[zN (f:=λj=>v j*xx h w f g j (h+k)) (i:=k) ⋯ λj t Z=>by unfold xx;rw[UJ t,qT];simp[jD,Z]];unfold xx;rw[UJ (show k<w by omega),qT];simp[jD]
   rw[this];simp
end
section
variable{p p':Int}{m m':Nat}{w w':UK}{wd wd':UX}{T T':UW}
theorem QK(C:m<=900):wy [qO p m w wd T,qO p m w wd' T']=none/\qK [qO p m w wd T,qO p m w wd' T']=bQ (.val .d7):=by
 have z:=KZ (p:=p) (p':=p) (w:=w) (w':=w) (wd:=wd) (wd':=wd') (T:=T) (T':=T') C C;rw[decide_eq_true ⟨rfl,rfl,λ_ _=>rfl⟩]at z;constructor
 ·simp[wy,IL,z9,LF,F9,Aw,Gs,z,MV]
 ·simp[qK,jo,z9,z,MV]
end
@[simp] noncomputable def FN:=@IK.eq_1
section
variable{p:Int}{m:Nat}{w:UK}{wd:UX}{T:UW}{a:Nat}
theorem Yg(F:Nat->Int)(s:Nat) : ∀d,zg F (s+d)=zg F s+zg (λk=>F<|s+k) d
 | 0=>by simp[zg]
 | d+1=>by rw[<- RN];simp only[zg];rw[Yg F s d];omega
abbrev lk(p:Int)(m:Nat)(w:UK)(wd:UX)(T:UW)(i j:Int)(a:Nat)(ds:List D)(c:Cell):Ctx:=[.val (qO p m w wd T),.val (.int i),.val (.int j),.val (qN a a λi j=>if i=j then 1 else 0),.own ds,c]
end
@[simp] noncomputable def EC:=@dW.eq_1
section
variable{p:Int}{m:Nat}{w:UK}{wd:UX}{T:UW}
theorem vj:jj (qO p m w wd T)=bQ (.T,[.int p,.tup<|zB (m+1) λk=>(wd k:Int),.tup (yG m w wd T)]):=rfl
end
@[simp] theorem ED(γ:Ctx)(f):Bk f γ=(f γ).bind λd=>match d with
 | .str z=>if qg z=bX then bQ (yV<|dH z)else none
 | _=>none:=rfl
@[simp] theorem FM(γ:Ctx)(f g):Gz f g γ=(f γ).bind λd=>(g γ).bind λe=>match d,e with
 | .str x,.str y=>if qg x=bX/\qg y=bX then bQ (.str<|x++y)else none
 | _,_=>none:=rfl
noncomputable def pr(a b:Nat):D:= .tup [.int a,.int b]
@[simp] theorem IS(a b):jj (pr a b)=bQ (.T,[.int (a:Int),.int (b:Int)]):=rfl
theorem V1(a c:Nat):(if a<c then (c:Int)else (a:Int))=((max a c:Nat):Int):=by
 by_cases h:c>a
 ·rw[UJ h,Nat.max_eq_right ⋯]
 ·rw[UY h,Nat.max_eq_left ⋯]
theorem V0(a c:Nat):(if c<a then (c:Int)else (a:Int))=((min a c:Nat):Int):=by
 by_cases h:c<a
 ·rw[UJ h,Nat.min_eq_right ⋯]
 ·rw[UY h,SW ⋯]
noncomputable def s9(w:UK)(a c:Nat):Bool:=decide (a=c) || (w (max a c - 1)==decide (a<c))
noncomputable def t8(w:UK)(b d:Nat):Bool:=decide (b=d) || (w (min b d)==decide (b<d))
section
variable{m a b c d:Nat}{w:UK}
theorem iY(J:m<=5)(C:a<=m)(I:c<=m):ka [.str (j5 m w),pr a b,pr c d]=bQ (.val<|.bl<|s9 w a c):=by
 by_cases q:a=c
 ·subst q
  simp[ka,jo,z9,jI,s9]
 ·have z : ¬((a:Int)=(c:Int)):=by omega
  have e:yA (zf 0) (zK Xi (mf (cq (zh 1)<|zy<|.int 0)<|cq (zh 2)<|zy<|.int 0)<|zy<|.int 1) [Cell.val (.str<|j5 m w),Cell.val<|pr a b,Cell.val (pr c d)]=bQ (.str<|vN<|ij<|w<|max a c - 1):=by refine wN w ⋯ ⋯ _ _ _ rfl ?_;simp[V1];omega
  simp only[ka,jo,z9,jI,MV,NW,Pc];simp[-Zt,z,e];by_cases l:a<c
  ·have f:(a:Int)<c:=by omega
   simp[l,pJ,s9,q]
  ·simp[l,Wd,s9,q]
theorem cO(J:m<=5)(C:b<=m)(I:d<=m):xE [.str (j5 m w),pr a b,pr c d]=bQ (.val<|.bl<|t8 w b d):=by
 by_cases q:b=d
 ·subst q
  simp[xE,jo,z9,jI,t8]
 ·have z : ¬((b:Int)=(d:Int)):=by omega
  have f:yA (zf 0) (dS (cq (zh 1)<|zy<|.int 1)<|cq (zh 2)<|zy<|.int 1) [Cell.val (.str<|j5 m w),Cell.val<|pr a b,Cell.val (pr c d)]=bQ (.str<|vN<|ij<|w<|min b d):=by refine wN w ⋯ ⋯ _ _ _ rfl ?_;simp[V0]
  simp only[xE,jo,z9,jI,MV,NW,Pc];simp[-Zt,z,f];by_cases l:d<b
  ·have e : ¬b<d:=by omega
   simp[l,e,Wd,t8,q]
  ·have e:b<d:=by omega
   simp[l,e,pJ,t8,q]
noncomputable def o3(w:UK)(a b c d:Nat):Bool:=decide (max a c<=min b d) && (s9 w a c && t8 w b d)
theorem K5(C:m<=5)(J:a<=m)(I:b<=m)(O:c<=m)(L:d<=m):kK [.str (j5 m w),pr a b,pr c d]=bQ (.val<|.int<|if o3 w a b c d=bX then 1 else 0):=by
 have e:=iY (b:=b) (d:=d) (w:=w) C J O;have U:=cO (a:=a) (c:=c) (w:=w) C I L;simp only[kK,jo,z9,jI,MV,NW,Pc];by_cases q:max a c<=min b d
 ·have z : ¬((min b d:Nat):Int)<((max a c:Nat):Int):=by omega
  simp[V1,V0,z,e,o3,q];cases h1:s9 w a c
  ·simp[h1]
  ·simp[h1,U]
   cases h2:t8 w b d<;>simp[h2]
 ·have z:((min b d:Nat):Int)<((max a c:Nat):Int):=by omega
  simp[V1,V0,z,o3,q]
theorem xS(C:m<=5){k:Nat}(z:k<m):jW [.str (j5 m w),.int k]=bQ (.val<|.tup [.int ((zM w k:Nat):Int),.int ((zO w k:Nat):Int)]):=by have a:yA (zf 0) (zf 1) [Cell.val (.str<|j5 m w),Cell.val (.int k)]=bQ (.str<|vN<|ij<|w k):=wN w ⋯ z _ _ _ rfl rfl;simp only[jW,jo,z9,jI,MV,NW,Pc];simp[-Zt,a,Wd];cases h:w k<;>simp[h,zM,zO]
end
noncomputable def mk(lo:Nat)(ch:List Int)(r:Nat):Int:=if lo<=r then ch.getD (r - lo) 0 else 0
noncomputable def UP:=jF 3<|qh<|zU (zS<|zK qu (xw<|zf 0)<|zy<|.int 1) (.nm 0) 1 [1,2] (mi (sB<|y8 lp lp (cq (zh 1)<|zy<|.int 0) (zf 0)<|cq (zh 1)<|zy<|.int 1)<|sB<|y8 lp lp (cq (zh 2)<|zy<|.int 0) (zf 0)<|cq (zh 2)<|zy<|.int 1) (zf 0)
noncomputable def UR:=jF 4<|qh<|j3<|zb (qh<|j3 zI) zI
section
variable{m a b c d:Nat}{w:UK}
noncomputable def sg(m:Nat)(w:UK)(a b c d:Nat)(C I J L:Cell):Ctx:=[.val (.str<|j5 m w),.val<|pr a b,.val<|pr c d,C,I,J,L]
end
theorem AA{c:Int}(C:0<=c){m:Nat}(J:m<=5) : ∃w,xX [.int c,.int (1+(m:Int))]=bQ (.val<|.str<|j5 m w):=by
 have e:=jg;have z:m<=lim:=by omega
 refine⟨λk=>decide (c/2 ^ k%2=1),?_⟩;have a:zX (.nm 0) jz (yA (zy (.str "rl")) (zK yv (zK Jv (zf 1) (cq (js (j3 (zb (zy (.int 1)) (zb (zy (.int 2)) (zb (zy (.int 4)) (zb (zy (.int 8)) (zb (zy (.int 16)) zI))))))) (zf 0))) (zy (.int 2)))) [Cell.no,Cell.val (.int c)] ((MO m).map λi:Nat=>D.int (i:Int)) =
  bQ ((MO m).map λ(k:Nat)=>D.str<|vN<|ij<|decide<|c/2 ^ k%2=1):=by
  refine zC _ _ λk I=>zD rfl rfl ?_;have I:=MR.mp I;have O:zK yv (zK Jv (zf 1)<|cq (js<|j3<|zb (zy<|.int 1)<|zb (zy<|.int 2)<|zb (zy<|.int 4)<|zb (zy<|.int 8)<|zb (zy<|.int 16) zI)<|zf 0) (zy<|.int 2) [Cell.val (.int k),Cell.val (.int c)]=bQ (.int<|c/2 ^ k%2):=by
   have U:k=0\/k=1\/k=2\/k=3\/k=4:=by omega
   rcases U with rfl | rfl | rfl | rfl | rfl<;>simp[jj,ec]
  show yA _ _ [Cell.val (.int k),Cell.val (.int c)]=_;rw[Zt,O];have q:c/2 ^ k%2=0\/c/2 ^ k%2=1:=by omega
  rcases q with q | q
  ·rw[q];rfl
  ·rw[q];rfl
 have all1:((MO m).map λ(k:Nat)=>vN<|ij<|decide<|c/2 ^ k%2=1).all qg=bX:=by
  rw[List.all_map];exact OQ.mpr λk _=>by show qg (vN _)=bX;rfl
 have d:qg ("" : Str)=bX:=rfl;have b:(1:Int)+(m:Int) - 1=(m:Int):=by omega
 simp[xX,jo,z9,jI,b,z,j9,jn,kX,MV];rw[jw m λi=>(i:Int)];rw[a];simp only[OA,MW,Function.comp];rw[X9];simp only[MW];rw[UJ ⟨by simpa using z,OQ.mp all1,d⟩];rfl
noncomputable def jl(h w:Nat)(f:UV):List D:=(MO h).map λi=>D.lst<|zB w<|f i
@[simp] theorem qS(h w f):(jl h w f).length=h:=by simp[jl]
theorem yF(ds:List D):jj (.lst ds)=bQ (.L,ds):=rfl
theorem vU(ds:List D):jj (.tup ds)=bQ (.T,ds):=rfl
theorem Kh(s:Nat)(f:Nat->α):(MO<|s+1).map f=(MO s).map f++[f s]:=by rw[NT,NF];rfl
theorem qe(w:UK)(wd:UX)(k:Nat):wd (zO w k)=eh w wd k:=by unfold zO eh;split<;>rfl
theorem qk(w:UK)(wd:UX)(k:Nat):wd (zM w k)=d8 w wd k:=by unfold zM d8;split<;>rfl
theorem yt{w:UK}{k m:Nat}(h:k<m):zO w k<m+1:=by unfold zO;split<;>omega
theorem yw{w:UK}{k m:Nat}(h:k<m):zM w k<m+1:=by unfold zM;split<;>omega
noncomputable def jd(m:Nat)(w:UK)(wd:UX)(T:UW):List D:=(MO m).map λk=>D.lst<|jl (eh w wd k) (d8 w wd k)<|T k
noncomputable def jf(m:Nat)(w:UK)(wd:UX)(T:UW):D:= .tup [.lst (zB (m+1) λk=>(wd k:Int)),.lst (jd m w wd T)]
noncomputable def CP(m:Nat)(w:UK)(wd wd':UX)(J:UW):List D:=(MO m).map λk=>qN (eh w wd k) (d8 w wd' k)<|J k
theorem AF(h w:Nat)(z:h<=lim)(f:UV)(γ:Ctx):zX (.nm 0) jz (ju<|zh 0) [Cell.no] (jl h w f)=bQ (jc h w f):=by unfold jl jc;exact zC _ _ λk I=>zD rfl rfl rfl
theorem Az{m k:Nat}(h:k<m+1)(wd:UX):(zB (m+1) λk=>(wd k:Int))[k]? = bQ (.int (wd k:Int)):=by unfold zB;simp[h]
theorem Ay(m:Nat)(wd:UX):(zB (m+1) λk=>(wd k:Int)).length=m+1:=by simp[zB]
theorem lQ(m w wd T):(jd m w wd T).length=m:=by simp[jd]
theorem rP{m k:Nat}(h:k<m)(w wd T):(jd m w wd T)[k]? = bQ (.lst<|jl (eh w wd k) (d8 w wd k)<|T k):=by unfold jd;simp[h]
theorem yR{h i:Nat}(C:i<h)(w f):(jl h w f)[i]? = bQ (.lst<|zB w<|f i):=by unfold jl;simp[C]
theorem iF(s w wd T):yG (s+1) w wd T=yG s w wd T++[Zy w wd T s]:=Kh _ _
noncomputable def Hm:=(zR (wA (.tp [7,8])<|zE jW<|zb (zf 1)<|zb (zf 6) zI)<|zR (jF 9<|ju<|js<|zU (zT<|zG<|cq (zh 4)<|zf 6) (.nm 0) 1 [] jz (ju<|zh 0))<|qv 5<|xH<|zb (yA (zf 1)<|zf 6)<|zb (xH<|zb (cq (zh 3)<|zf 8)<|zb (cq (zh 3)<|zf 7)<|zb (zf 9) zI) zI)
theorem ay{p:Int}{m:Nat}(L:m<=4)(w:UK){wd:UX}(C : ∀k,wd k<=9)(T:UW) :
 xG [.int p,.str<|j5 m w,jf m w wd T]=bQ (.val<|qO p m w wd T):=by
 have J:=jg;have Kc : ∀k,eh w wd k<=10:=λk=>by rw[<- qe];have:=C<|zO w k;omega
 have wl:=ky m w;have n:=qZ w (show m<=1000 by omega);have x:(wA (.tp [3,4])<|zf 2) (z9 10 [.int p,.str<|j5 m w,jf m w wd T])=bQ (.next [.val (.int p),.val<|.str<|j5 m w,.val<|jf m w wd T,.val<|.lst<|zB (m+1) λk=>(wd k:Int),.val<|.lst<|jd m w wd T,.no,.no,.no,.no,.no]):=rfl;have y:(xB 5<|j3 zI) [.val (.int p),.val<|.str<|j5 m w,.val<|jf m w wd T,.val<|.lst<|zB (m+1) λk=>(wd k:Int),.val<|.lst<|jd m w wd T,.no,.no,.no,.no,.no]=bQ (.next [.val (.int p),.val<|.str<|j5 m w,.val<|jf m w wd T,.val<|.lst<|zB (m+1) λk=>(wd k:Int),.val<|.lst<|jd m w wd T,.own [],.no,.no,.no,.no]):=rfl;obtain⟨H,A,⟨g,d,e,a,rfl⟩⟩:=jV (T:= .nm 6) (F:=Hm) (f:=xw<|zf 1) (γ:=[.val (.int p),.val<|.str<|j5 m w,.val<|jf m w wd T,.val<|.lst<|zB (m+1) λk=>(wd k:Int),.val<|.lst<|jd m w wd T,.own [],.no,.no,.no,.no])
  (λs γ=>∃g d e a,γ=[.val (.int p),.val<|.str<|j5 m w,.val<|jf m w wd T,.val<|.lst<|zB (m+1) λk=>(wd k:Int),.val<|.lst<|jd m w wd T,.own<|yG s w wd T,g,d,e,a]) m ⋯ (by simp[wl,n]) ⟨_,_,_,_,rfl⟩ (by
    rintro s b γ ⟨g,d,e,a,rfl⟩;refine⟨_,[.val (.int p),.val<|.str<|j5 m w,.val<|jf m w wd T,.val<|.lst<|zB (m+1) λk=>(wd k:Int),.val<|.lst<|jd m w wd T,.own<|yG (s+1) w wd T,.val<|.int (s:Int),.val<|.int ((zM w s:Nat):Int),.val<|.int ((zO w s:Nat):Int),.val (.tup<|jc (eh w wd s) (d8 w wd s)<|T s)],rfl,?_,⟨_,_,_,_,rfl⟩⟩;have t:=xS (w:=w) (show m<=5 by omega) b;have I:=yt (w:=w) b;have i:=yw (w:=w) b;have r:s<lim:=by omega
    have z:3<=lim:=by omega
    have o:2<=lim:=by omega
    have O:eh w wd s<=lim:=by have:=Kc s;omega
    have u:(jl (eh w wd s) (d8 w wd s)<|T s).length<=lim:=by rw[qS];exact O
    have tp:=AF (eh w wd s) (d8 w wd s) O (T s) [];have U:=Az I wd;have h:=Az i wd;rw[qe w wd]at U;rw[qk w wd]at h;have G:=rP b w wd T;have j:(wA (.tp [7,8])<|zE jW<|zb (zf 1)<|zb (zf 6) zI) [.val (.int p),.val<|.str<|j5 m w,.val<|jf m w wd T,.val<|.lst<|zB (m+1) λk=>(wd k:Int),.val<|.lst<|jd m w wd T,.own<|yG s w wd T,.val<|.int (s:Int),d,e,a]=bQ (.next [.val (.int p),.val<|.str<|j5 m w,.val<|jf m w wd T,.val<|.lst<|zB (m+1) λk=>(wd k:Int),.val<|.lst<|jd m w wd T,.own<|yG s w wd T,.val<|.int (s:Int),.val<|.int ((zM w s:Nat):Int),.val<|.int ((zO w s:Nat):Int),a]):=by simp[t]
    refine zv j ?_;have l:(jF 9<|ju<|js<|zU (zT<|zG<|cq (zh 4)<|zf 6) (.nm 0) 1 [] jz (ju<|zh 0)) [.val (.int p),.val<|.str<|j5 m w,.val<|jf m w wd T,.val<|.lst<|zB (m+1) λk=>(wd k:Int),.val<|.lst<|jd m w wd T,.own<|yG s w wd T,.val<|.int (s:Int),.val<|.int ((zM w s:Nat):Int),.val<|.int ((zO w s:Nat):Int),a]=bQ (.next [.val (.int p),.val<|.str<|j5 m w,.val<|jf m w wd T,.val<|.lst<|zB (m+1) λk=>(wd k:Int),.val<|.lst<|jd m w wd T,.own<|yG s w wd T,.val<|.int (s:Int),.val<|.int ((zM w s:Nat):Int),.val<|.int ((zO w s:Nat):Int),.val (.tup<|jc (eh w wd s) (d8 w wd s)<|T s)]):=by simp only[yf,cM,xQ,j7,Zu,KW,yx,xD,vI,NL,NR,xP,qV,MW,OA,yF,kY,lQ,j6,b,if_true,G,u,jn,MV,SN,Rt,tp,Rn,Rm]
    refine zv l ?_;have E:=wN w (show m<=1000 by omega) b [.val (.int p),.val<|.str<|j5 m w,.val<|jf m w wd T,.val<|.lst<|zB (m+1) λk=>(wd k:Int),.val<|.lst<|jd m w wd T,.own<|yG s w wd T,.val<|.int (s:Int),.val<|.int ((zM w s:Nat):Int),.val<|.int ((zO w s:Nat):Int),.val (.tup<|jc (eh w wd s) (d8 w wd s)<|T s)] (zf 1) (zf 6) rfl rfl;rw[iF,yI,aS,jx,E];simp only[aS,jx,Vw,vI,yx,xD,NL,NR,NW,Pc,OO,Nat.reduceAdd,xP,qV,qz,MW,OA,yF,kY,Ay,j6,I,i,U,h,if_true,z,o,Vu,r,Rn,Rm];rfl)
 have B:(jR<|xH<|zb (zf 0)<|zb (ju<|zh 3)<|zb (ju<|zh 5) zI) [.val (.int p),.val<|.str<|j5 m w,.val<|jf m w wd T,.val<|.lst<|zB (m+1) λk=>(wd k:Int),.val<|.lst<|jd m w wd T,.own<|yG m w wd T,g,d,e,a]=bQ (.ret<|.val<|qO p m w wd T):=by
  have z:3<=lim:=by omega
  simp[yF,z,qO]
 exact je<|zv x<|zv y<|zv A B
section
variable{p:Int}{m:Nat}{w:UK}{bs:List (Int×Int)}
theorem XN(a b c d:Int):g9 (.tup [.int a,.int b]) (.tup [.int c,.int d])=(a==c && b==d):=by simp[g9,o4,Uu]
theorem Vk : ∀a b:List (Int×Int),o4 (z6 a) (z6 b)=decide (a=b)
 | [],[]=>rfl
 | [],_::_=>rfl
 | _::_,[]=>rfl
 | (x1,x2)::a,(y1,y2)::b=>by have z:=Vk a b;show(g9 (.tup [.int x1,.int x2]) (.tup [.int y1,.int y2]) && o4 (z6 a) (z6 b))=_;rw[z,XN];by_cases d:x1=y1<;>by_cases e:x2=y2<;>by_cases I:a=b<;>simp[d,e,I]
end
section
variable{p:Int}{m:Nat}{w:UK}{wd wd':UX}{T T' J:UW}
theorem rQ(h w f):jj (qN h w f)=bQ (.T,[.int (h:Int),.int (w:Int),.tup (jc h w f)]):=rfl
theorem gU{h i:Nat}(C:i<h)(w:Nat)(f:UV):(jc h w f)[i]? = bQ (.tup<|zB w<|f i):=by unfold jc;simp[C]
theorem XR(h w f):(jc h w f).length=h:=by simp[jc]
end
noncomputable def wl(l:List Bool):Str:=⟨⟨l.map ij⟩⟩
noncomputable def GZ(n k:Nat)(u:Nat->Int):Int:=if 0<k then (if k+1<n then u (k - 1)+(u (k+1)+0)else u (k - 1)+0)else if k+1<n then u (k+1)+0 else 0
noncomputable def mv(n k:Nat)(u:Nat->Int)(i:Nat):Int:=if i=k then GZ n k u - u k else u i
noncomputable def V'(n:Nat)(ks:List Nat)(u:Nat->Int):Nat->Int:=ks.foldl (λu k=>mv n k u) u
noncomputable def UC(n:Nat)(ks:List Nat)(u:Nat->Int):Nat->Nat->Int
 | 0=>u
 | j+1=>V' n ks<|UC n ks u j
noncomputable def acc(n:Nat)(ks:List Nat)(u:Nat->Int):Nat->Nat->Int
 | 0=>λ_=>0
 | j+1=>λi=>acc n ks u j i+UC n ks u j i
theorem W8(n f):i4 (.lst<|zB n f)=bX:=YQ (by
 have:=aI n f;simp only[deep]at this ⊢;exact this) ⋯ (by
 have:=fJ n f;simp only[hX]at this ⊢;exact this)
theorem KI(b:Bool):gm (.str (vN (ij b))) (.str "r")=bQ (.bl (!b)):=by cases b<;>kernel_rfl
abbrev TB:=Nat×Nat×(Nat->Nat->Int)
noncomputable def tD(t:TB):D:=qN t.1 t.2.1 t.2.2
theorem ZM(bs):i4 (.lst<|z6 bs)=bX:=YQ (n:=2) (by
 simp only[deep];have:p9 (z6 bs)<=1:=vT λd a=>by simp only[z6,Nq]at a;obtain⟨b,_,rfl⟩:=a;simp[deep,p9]
 omega) ⋯ (by
 simp only[hX];exact ZL λd a=>by simp only[z6,Nq]at a;obtain⟨b,_,rfl⟩:=a;rfl)
noncomputable def kQ(bs:List (Int×Int))(z us:List TB):D:= .tup [.lst (z6 bs),.lst<|z.map tD,.lst (us.map tD)]
structure ef where
 s:Nat
 n:Nat
 v:Nat->Vc
noncomputable def ef.has(b:ef)(r:Nat):Bool:=decide (b.s<=r) && decide (r<b.s+b.n)
theorem il{b:ef}{r:Nat}:b.has r=bX↔b.s<=r/\r<b.s+b.n:=by simp[ef.has]
noncomputable def lh:ef:=⟨0,0,λ_ _=>0⟩
structure m3(p:Int)(w:UK)(wd:UX)(T:UW)(k:Nat)(b:ef):Prop where
 n1:1<=b.n
 le:b.s+b.n<=k+1
 h9 : ∀r i,b.has r=bX->i<wd r->0<=b.v r i/\b.v r i<p
 arr : ∀j,j<k->b.has (zM w j)=bX->∀i,i<wd (zO w j)->app (T j) (wd<|zM w j) (b.v<|zM w j) i%p=(if b.has (zO w j)=bX then b.v (zO w j) i else 0)%p
noncomputable def Ord(w:UK)(a b:ef):Prop:=(a.s<b.s->w (b.s - 1)=bX)/\(b.s<a.s->w (a.s - 1)=cE)
noncomputable def LB(C:List ef)(r:Nat):Vc->Prop:=λg=>∃b,b∈C/\b.has r=bX/\g=b.v r
noncomputable def nf(p:Int)(A:Nat->ef)(N:Nat)(t:Vc)(r:Nat):Vc:=λc=>zg (λj=>if (A j).has r=bX then t j*(A j).v r c else 0) N%p
noncomputable def DP(p:Int)(A:Nat->ef)(N:Nat)(t:Vc)(i:Nat):ef:=⟨(A i).s,(A i).n,nf p A N t⟩
section
variable{p:Int}{w:UK}{wd:UX}{T:UW}{k N:Nat}{A:Nat->ef}
theorem vH(f:UV)(h:Nat)(t:Vc)(u:Nat->Vc)(n:Nat)(i:Nat):app f h (λc=>zg (λj=>t j*u j c) n) i=zg (λj=>t j*app f h (u j) i) n:=by
 unfold app;have e:zg (λj=>f i j*zg (λk=>t k*u k j) n) h=zg (λj=>zg (λk=>t k*(f i j*u k j)) n) h:=zw λj _=>by rw[<- ja];exact zw λk _=>by rw[<- OP,<- OP,Om (f i j)]
 rw[e,jT];exact zw λj _=>ja ..
theorem uq(c:Prop) [Decidable c](x y:Int):(if c then x*y else 0)=x*(if c then y else 0):=by split<;>simp
theorem iG(f:UV)(h r:Nat)(t:Vc)(i:Nat):app f h (nf p A N t r) i%p=zg (λj=>t j*(if (A j).has r=bX then app f h ((A j).v r) i else 0)) N%p:=by
 have e:app f h (nf p A N t r) i%p=app f h (λc=>zg (λj=>t j*(if (A j).has r=bX then (A j).v r c else 0)) N) i%p:=qH (λc _=>by unfold nf;rw[NP];congr 1;exact zw λj _=>uq ..) i
 rw[e,vH];congr 1;refine zw λj _=>?_;congr 1;by_cases z:(A j).has r=bX
 ·simp only[UJ z]
 ·simp only[UY z]
  unfold app;simp[zH]
theorem Cy(S:0<p)(C : ∀j,j<N->m3 p w wd T k (A j))(hk : ∀j,j<N->(A j).has k=bX){t:Vc}{i:Nat}(J:i<N)(L : ∀c,i<c->c<N->Ord w (A i) (A c))(tz : ∀c,c<i->t c=0) :
 m3 p w wd T k (DP p A N t i):=by
 refine⟨(C i J).n1,(C i J).le,λr c _ _=>⟨NM _ ⋯,Nx _ S⟩,λj l O c h=>?_⟩;have O:(A i).has (zM w j)=bX:=O;show app (T j) (wd<|zM w j) (nf p A N t<|zM w j) c%p=(if (A i).has (zO w j)=bX then nf p A N t (zO w j) c else 0)%p;rw[iG];have g : ∀I,I<N->t I≠0->((A i).has (zO w j)=bX->(A I).has (zO w j)=bX->(A I).has (zM w j)=bX)/\((A i).has (zO w j)=cE->(A I).has (zM w j)=bX->(A I).has (zO w j)=cE):=λI U d=>by
  have y:=il.mp<|hk i J;have B:=il.mp<|hk I U;have a0:i<=I:=Nat.not_lt.mp λz=>d<|tz I z;rcases Nat.lt_or_eq_of_le a0 with a0 | a0
  ·obtain⟨u,x⟩:=L I a0 U
   have O:=il.mp O;cases hw:w j with
   | false=>
    have b:zM w j=j:=by unfold zM;rw[hw];rfl
    have e:zO w j=j+1:=by unfold zO;rw[hw];rfl
    rw[b]at O;rw[b,e];refine⟨λ_ q=>il.mpr ?_,λq _=>?_⟩
    ·have q:=il.mp q
     refine⟨Nat.not_lt.mp λz=>?_,by omega⟩;have f:(A I).s=j+1:=by omega
     have:=u ⋯;rw[f]at this;simp[hw]at this
    ·exfalso
     have:(A i).has (j+1)=bX:=il.mpr ⋯;rw[this]at q;cases q
   | true=>
    have b:zM w j=j+1:=by unfold zM;rw[hw];rfl
    have e:zO w j=j:=by unfold zO;rw[hw];rfl
    rw[b]at O;rw[b,e];refine⟨λ_ q=>il.mpr ?_,λq _=>?_⟩
    ·have q:=il.mp q
     omega
    ·cases a:(A I).has j with
     | false=>rfl
     | true=>
      exfalso;have a:=il.mp a;have f:(A i).s=j+1:=by
       have : ¬((A i).s<=j):=λz=>by have:(A i).has j=bX:=il.mpr ⋯;rw[this]at q;cases q
       omega
      have:=x ⋯;rw[f]at this;simp[hw]at this
  ·subst a0
   exact⟨λ_ _=>O,λq _=>q⟩
 have m:zg (λI=>t I*(if (A I).has (zM w j)=bX then app (T j) (wd<|zM w j) ((A I).v (zM w j)) c else 0)) N%p
  = zg (λI=>if (A i).has (zO w j)=bX then (if (A I).has (zO w j)=bX then t I*(A I).v (zO w j) c else 0)else 0) N%p:=zL λI U=>by
  by_cases d:t I=0
  ·simp[d]
  obtain⟨n,o⟩:=g I U d;cases a:(A i).has (zO w j)with
  | false=>
   cases hy:(A I).has (zM w j)with
   | false=>simp
   | true=>
    have q:=(C I U).arr j l hy c h;rw[o a hy]at q;simp only[if_true];rw[MX,q];simp
  | true=>
   cases hy:(A I).has (zM w j)with
   | false=>
    cases hz:(A I).has (zO w j)with
    | false=>simp
    | true=>rw[n a hz]at hy;cases hy
   | true=>
    have q:=(C I U).arr j l hy c h;simp only[if_true];rw[MX,q,<- MX];congr 1;cases hz:(A I).has (zO w j)<;>simp
 rw[m];cases a:(A i).has (zO w j)with
 | false=>simp[zH]
 | true=>
  simp only[if_true];unfold nf;rw[NP]
theorem nB{G':Vc->Prop}{r n:Nat}{A':Nat->ef}(t:Nat->Vc)(C : ∀i,i<N->t i i=1)(S : ∀i c,i<N->c<i->t i c=0)
 (J : ∀i,i<N->(A i).has r=bX->Span p n G' ((A' i).v r)) (L : ∀i,i<N->(A i).has r=bX->∀c,c<n->(A' i).v r c%p=nf p A N (t i) r c%p) :
 ∀i,i<N->(A i).has r=bX->Span p n G' ((A i).v r):=by
 have f : ∀d i,N - i<=d->i<N->(A i).has r=bX->Span p n G' ((A i).v r):=by
  intro d
  induction d with
  | zero=>intro i e a;omega
  | succ d x=>
   intro i e a O;have w:Span p n G' λc=>zg (λj=>(if j=i then 0 else if (A j).has r=bX then t i j else 0)*(A j).v r c) N:=by
    have gen : ∀M,M<=N->Span p n G' λc=>zg (λj=>(if j=i then 0 else if (A j).has r=bX then t i j else 0)*(A j).v r c) M:=by
     intro M
     induction M with
     | zero=>intro _;exact .zero λc _=>by simp[zg]
     | succ M h=>
      intro y;have q:=h ⋯;by_cases I:M=i\/¬((A M).has r=bX)\/M<i
      ·refine q.congr λc _=>?_
       show(zg _ M+_)%p=_;rcases I with I | I | I
       ·simp[I]
       ·simp[I]
       ·have z:=S i M a I;simp only[z];simp
      ·have l:M≠i/\(A M).has r=bX/\¬M<i:=by
        refine⟨λz=>I<|.inl z,?_,λz=>I<|.inr<|.inr z⟩;cases b:(A M).has r with
        | true=>rfl
        | false=>exact absurd (.inr<|.inl<|by rw[b];decide) I
       exact((x M ⋯ ⋯ l.2.1).add q (if M=i then 0 else if (A M).has r=bX then t i M else 0)).congr λc _=>rfl
    exact gen N<|MY _
   have s:=w.add (J i a O) (-1);refine s.congr λc I=>?_;have m:zg (λj=>if (A j).has r=bX then t i j*(A j).v r c else 0) N=(A i).v r c+zg (λj=>(if j=i then 0 else if (A j).has r=bX then t i j else 0)*(A j).v r c) N:=by
    have o:(A i).v r c=zg (λj=>if j=i then (A i).v r c else 0) N:=by rw[zN a λk _ u=>by simp[u]];simp
    rw[o,<- jO];refine zw λj B=>?_;by_cases g:j=i
    ·subst g;simp[O,C j a]
    ·simp only[UY g]
     by_cases b:(A j).has r=bX
     ·simp[b]
     ·simp[b]
   have U:=L i a O c I;unfold nf at U;rw[NP,m]at U;rw[Ny,U,<- Ny];congr 1;omega
 exact λi e a=>f N i ⋯ e a
end
section
variable{p:Int}{n m N h r r2 q:Nat}{B B2 K:Nat->Vc}{l l2 lK:UX}{M f:UV}
theorem Ys(z:Span p n (dr m U) v) : ∃t:Vc,∀i,i<n->v i%p=zg (λj=>t j*U j i) m%p:=by
 induction z with
 | zero h=>exact⟨λ_=>0,λi a=>by rw[h i a];simp[zH]⟩
 | @step v w g c I r O o=>
  obtain⟨t,l⟩:=o;obtain⟨k,d,rfl⟩:=I;refine⟨λj=>t j+if j=k then c else 0,λi a=>?_⟩;rw[O i a,Ny,l i a,<- Ny];congr 1;have e:zg (λj=>(t j+if j=k then c else 0)*U j i) m=zg (λj=>t j*U j i) m+zg (λj=>(if j=k then c else 0)*U j i) m:=by rw[<- jO];exact zw λj _=>SG ..
  rw[e,zN (f:=λj=>(if j=k then c else 0)*U j i) d λj _ b=>by simp[b]];simp
theorem xo(a b:Nat->Int)(n:Nat):zg (λj=>a j*b j) n=zg (λj=>b j*a j) n:=zw λj _=>Om ..
theorem yr:Span p h (dr N λj i=>M i j) u ↔ ∃x:Vc,∀i,i<h->u i%p=app M N x i%p:=by
 constructor
 ·intro q
  obtain⟨t,z⟩:=Ys q;exact⟨t,λi a=>by rw[z i a];unfold app;rw[xo]⟩
 ·rintro⟨x,b⟩
  refine(Span.sum (u:=λj i=>M i j) x (m:=N) λj I=> .gen ⟨j,I,rfl⟩).congr λi a=>?_;rw[b i a];unfold app;rw[xo]
theorem Ve(n:Nat)(v:Vc):Span p n (dr n jD) v:=by refine(Span.sum (u:=jD) v (m:=n) λj z=> .gen ⟨j,z,rfl⟩).congr λi a=>?_;rw[zN (f:=λk=>v k*jD k i) a λk _ I=>by simp[jD,I]];simp[jD]
theorem wH(z:Pr p)(C:N<=8)(hs : ∀v:Vc,∃t,∀i,i<N->v i%p=app f N t i%p)(O : ∀i,i<N->app f N t i%p=0) : ∀j,j<N->t j%p=0:=by
 obtain⟨q,K,l,s,_,m,I,U,g⟩:=yY z (h:=N) (w:=N) ⋯ ⋯ f;have a:Rk p N N (λj i=>f i j) N:=⟨jD,id,X4 z N,λv=>⟨λ_=>yr.mpr<|hs v,λ_=>Ve N v⟩⟩;have:=wC z U a;have e:q=0:=by omega
 subst e;have:=(I t).mpr λi d=>by have:=O i d;unfold app at this;exact this
 cases this with
 | zero h=>exact h
 | step b _ _=>obtain⟨k,I,_⟩:=b;omega
noncomputable def Xd(r:Nat)(B:Nat->Vc)(l:UX)(t:Vc):Vc:=λi=>t i - zg (λj=>t (l j)*B j i) r
theorem XC(I:f7 p N r B l)(t:Vc)(z:j<r):Xd r B l t (l j)=0:=by unfold Xd;rw[zN (f:=λO=>t (l O)*B O (l j)) z λk U a=>by rw[I.o5 k j U z (Oa a)];simp];rw[I.one j z];omega
theorem ao(t:Vc):Span p N (dr r B) λi=>zg (λj=>t (l j)*B j i) r:=Span.sum (u:=B) (λj=>t<|l j) λj z=> .gen ⟨j,z,rfl⟩
theorem uy(z:f7 p N r B l)(h:Span p N (dr r B) t)(I : ∀j,j<r->t (l j)%p=0) : ∀i,i<N->t i%p=0:=λi a=>by
 rw[Jk z h i a];have e:zg (λk=>t (l k)*B k i) r%p=zg (λ_=>0) r%p:=zL λk O=>by rw[MX,I k O];simp
 rw[e,zH];simp
theorem WD(z:Pr p)(I:f7 p N r B l)(C:i<N)(hn : ∀j,j<r->l j≠i) : ¬Span p N (dr r B) (jD i):=λh=>by have:=uy I h (λj O=>by unfold jD;rw[UY (Oa<|hn j O)];simp) i C;unfold jD at this;rw[UJ rfl,z.one]at this;omega
theorem QM(g:UV)(w:Nat)(u v:Vc)(i:Nat):app g w (λj=>u j - v j) i=app g w u i - app g w v i:=by
 have e:app g w u i=app g w (λj=>u j - v j) i+app g w v i:=by unfold app;rw[<- jO];exact zw λj _=>by dsimp only;rw[<- RZ];congr 1;omega
 omega
noncomputable def VN(M f:UV)(N:Nat):Nat->Nat->Int:=λi j=>zg (λk=>M i k*f k j) N
theorem JD(t:Vc)(i:Nat):app (VN M f N) N t i=app M N (app f N t) i:=by
 unfold app VN;have e:zg (λj=>zg (λk=>M i k*f k j) N*t j) N=zg (λj=>zg (λk=>M i k*(f k j*t j)) N) N:=zw λj _=>by rw[<- qI];exact zw λk _=>OP ..
 rw[e,jT];exact zw λk _=>ja ..
theorem AR(J:Pr p)(hN:N<=8)(hh:h<=8)(hs : ∀v:Vc,∃t,∀i,i<N->v i%p=app f N t i%p)(L:f7 p N r B l)(C : ∀t,Span p N (dr r B) t↔Di p h N M (app f N t))
 (S:f7 p h r2 B2 l2) (Y : ∀v,Span p h (dr r2 B2) v↔Span p h (dr N λj i=>M i j) v) :
 (∀j,j<r->∀i,i<h->app M N (app f N<|B j) i%p=0)/\(∀c,c<N->(∀j,j<r->l j≠c)->∃i,i<h/\app M N (λa=>f a c) i%p≠0)/\r+r2=N/\
   ∀U:Vc->Prop,(∀c,c<N->(∀j,j<r->l j≠c)->Span p h U (app M N λa=>f a c))->(∀c,c<h->(∀j,j<r2->l2 j≠c)->Span p h U (jD c))->∀v,Span p h U v:=by
 have k : ∀t:Vc,Di p h N M (app f N t) ↔ ∀i,i<h->app M N (app f N t) i%p=0:=λt=>Iff.rfl;have s : ∀(c:Nat),c<N->∀i,app M N (λa=>f a c) i%p=app M N (app f N<|jD c) i%p:=λc I i=>qH (λa _=>by rw[Zs f I]) i;refine⟨λj O=>(k _).mp ((C<|B j).mp (.gen ⟨j,O,rfl⟩)),λc I T=>?_,?_,λU P Q v=>?_⟩
 ·refine Oo λz=>WD J L I T ((C _).mpr ((k _).mpr λi b=>?_))
  rw[<- s c I i];exact Oo λy=>z ⟨i,b,y⟩
 ·obtain⟨q',K',l',s',_,A,o,E,b9⟩:=yY J (h:=h) (w:=N) ⋯ ⋯ (VN M f N)
  have e1:q'=r:=(QJ J A L (λv m=>(C v).mpr λi b=>by
   have:=(o v).mp m i b;rw[show zg (λj=>VN M f N i j*v j) N=app (VN M f N) N v i from rfl,JD]at this;exact this) λv m=>(o v).mpr λi b=>by
   have:=(C v).mp m i b;rw[show zg (λj=>VN M f N i j*v j) N=app (VN M f N) N v i from rfl,JD];exact this).1
  have e2:s'=r2:=by
   refine wC J E ⟨B2,l2,S,λv=>(Y v).trans ⟨λz=>?_,λz=>?_⟩⟩
   ·obtain⟨x,n⟩:=yr.mp z
    obtain⟨t,d⟩:=hs x;refine yr.mpr ⟨t,λi b=>?_⟩;rw[n i b,JD];exact qH d i
   ·obtain⟨t,d⟩:=yr.mp z
    exact yr.mpr ⟨app f N t,λi b=>by rw[d i b,JD]⟩
  omega
 ·
  have Z : ∀t:Vc,Span p h U (app M N<|app f N t):=λt=>by
   have X:=(k _).mp ((C _).mp (ao (p:=p) (N:=N) (B:=B) (r:=r) (l:=l) t));have e : ∀i,i<h->app M N (app f N t) i%p=app M N (app f N<|Xd r B l t) i%p:=λi b=>by
    have G:app M N (app f N<|Xd r B l t) i=app M N (app f N t) i - app M N (app f N λi=>zg (λj=>t (l j)*B j i) r) i:=by rw[<- QM];congr 1;funext a;exact QM ..
    rw[G,OW,X i b];simp
   refine Span.congr ?_ e;have H : ∀i,app M N (app f N<|Xd r B l t) i=zg (λc=>Xd r B l t c*app M N (λa=>f a c) i) N:=λi=>by rw[<- vH];congr 1;funext a;unfold app;exact xo ..
   have s1 : ∀K,K<=N->Span p h U λi=>zg (λc=>Xd r B l t c*app M N (λa=>f a c) i) K:=by
    intro K
    induction K with
    | zero=>intro _;exact .zero λi _=>by simp[zg]
    | succ K g=>
     intro R;by_cases I : ∃j,j<r/\l j=K
     ·obtain⟨j,O,rfl⟩:=I
      refine(g ⋯).congr λi _=>?_;show(zg _ (l j)+_)%p=_;have z:=XC L t O;simp only[z];simp
     ·exact((P K ⋯ λj O z=>I ⟨j,O,z⟩).add (g ⋯) _).congr λi _=>rfl
   exact(s1 N<|MY _).congr λi _=>by rw[H]
  have F : ∀u,Span p h (dr r2 B2) u->Span p h U u:=λu W=>by obtain⟨x,n⟩:=yr.mp<|(Y u).mp W;obtain⟨t,d⟩:=hs x;exact(Z t).congr λi b=>by rw[n i b];exact qH d i
  have s2 : ∀K,K<=h->Span p h U λi=>zg (λc=>Xd r2 B2 l2 v c*jD c i) K:=by
   intro K
   induction K with
   | zero=>intro _;exact .zero λi _=>by simp[zg]
   | succ K g=>
    intro R;by_cases I : ∃j,j<r2/\l2 j=K
    ·obtain⟨j,O,rfl⟩:=I
     refine(g ⋯).congr λi _=>?_;show(zg _ (l2 j)+_)%p=_;have z:=XC S v O;simp only[z];simp
    ·exact((Q K ⋯ λj O z=>I ⟨j,O,z⟩).add (g ⋯) _).congr λi _=>rfl
  refine((F _<|ao (B:=B2) (r:=r2) (l:=l2) v).add (s2 h<|MY _) 1).congr λi b=>?_;congr 1;rw[zN (f:=λc=>Xd r2 B2 l2 v c*jD c i) b λc _ I=>by simp[jD,I]];simp only[jD,if_true,Xd];omega
theorem AS(O:Pr p)(hN:N<=8)(hh:h<=8)(hs : ∀v:Vc,∃t,∀i,i<N->v i%p=app f N t i%p)(L:f7 p N r B l)(S : ∀t,Span p N (dr r B) t↔Span p N (dr h λj i=>M i j) (app f N t))
 (Y : ∀v,Span p h (dr q K) v↔Di p N h M v) (Z:Rk p N h (λj i=>M i j) s) (bg:q+s=h) :
 (∀j,j<r->∃y:Vc,∀i,i<N->app M h y i%p=app f N (B j) i%p)/\(∀c,c<N->(∀j,j<r->l j≠c)->¬∃y:Vc,∀i,i<N->app M h y i%p=f i c%p)/\r+q=h/\
   ∀(J:Vc->Prop) (x:Nat->Vc),(∀j,j<r->Span p h J (x j)/\∀i,i<N->app M h (x j) i%p=app f N (B j) i%p)->(∀j,j<q->Span p h J (K j))->∀v,Span p h J v:=by
 have w : ∀t,Span p N (dr r B) t ↔ ∃y:Vc,∀i,i<N->app f N t i%p=app M h y i%p:=λt=>(S t).trans yr;have inj : ∀{t:Vc},(∀i,i<N->app f N t i%p=0)->∀j,j<N->t j%p=0:=λd=>wH O hN hs d;refine⟨λj I=>?_,λc X hn z=>?_,?_,λJ x R h2 v=>?_⟩
 ·obtain⟨y,o⟩:=(w<|B j).mp (.gen ⟨j,I,rfl⟩)
  exact⟨y,λi b=>(o i b).symm⟩
 ·obtain⟨y,o⟩:=z
  exact WD O L X hn<|(w _).mpr ⟨y,λi b=>by rw[Zs f X,o i b]⟩
 ·have Q:s<=8/\r<=8:=by
   obtain⟨F,bi,b5⟩:=sU O (n:=N) (m:=h) ⋯ hh λj i=>M i j;refine⟨by rw[wC O Z b5];omega,?_⟩;have : ∀E,E<=r->E<=N:=by
    intro E;have mono : ∀k,k<r->k<=l k:=by
     intro k
     induction k with
     | zero=>intro _;omega
     | succ k ih=>intro Y;have:=ih ⋯;have:=L.mono k (k+1) ⋯ Y;omega
    intro bl;cases E with
    | zero=>omega
    | succ as=>have:=mono as ⋯;have:=L.lt as ⋯;omega
   have:=this r<|MY _;omega
  have bm:s<=r:=by
   obtain⟨F,a1,G⟩:=sU O (n:=N) (m:=r) ⋯ Q.2 λj=>app f N<|B j;have e:s=F:=by
    obtain⟨C,lC,P,A⟩:=Z;refine wC O (m:=h) (W:=λj i=>M i j) ⟨C,lC,P,A⟩ ?_;obtain⟨C',b9,bb,bc⟩:=G;refine⟨C',b9,bb,λv=>(bc v).trans ⟨λz=>?_,λz=>?_⟩⟩
    ·exact z.le λg U=>by obtain⟨j,I,rfl⟩:=U;exact(S<|B j).mp (.gen ⟨j,I,rfl⟩)
    ·obtain⟨y,o⟩:=yr.mp z
     obtain⟨t,d⟩:=hs v;have H:Span p N (dr r B) t:=(w t).mpr ⟨y,λi b=>by rw[<- d i b,o i b]⟩;refine(Span.sum (u:=λj=>app f N<|B j) (λj=>t<|l j) (m:=r) λj I=> .gen ⟨j,I,rfl⟩).congr λi b=>?_;rw[d i b,<- vH];exact qH (λj I=>Jk L H j I) i
   omega
  have bn:r<=s:=by
   obtain⟨C,lC,P,A⟩:=Z;have ex : ∀j,∃t:Vc,∀i,i<N->C j i%p=app f N t i%p:=λj=>hs<|C j;have g:Nat->Vc:=λj=>Classical.choose<|ex j;have U : ∃g:Nat->Vc,∀j i,i<N->C j i%p=app f N (g j) i%p:=⟨λj=>Classical.choose<|ex j,λj=>Classical.choose_spec<|ex j⟩;obtain⟨g,U⟩:=U;obtain⟨F,a1,G⟩:=sU O (n:=N) (m:=s) ⋯ Q.1 g;have e:r=F:=by
    refine wC O (m:=s) (W:=g) ⟨B,l,L,λv=>⟨λz=>?_,λz=>?_⟩⟩ G
    ·have hv:=(A _).mpr ((S v).mp z)
     refine(Span.sum (u:=g) (λj=>app f N v<|lC j) (m:=s) λj I=> .gen ⟨j,I,rfl⟩).congr λi b=>?_;have z0 : ∀a,a<N->app f N (λi=>v i - zg (λj=>app f N v (lC j)*g j i) s) a%p=0:=λa T=>by
      rw[QM,vH,OW,Jk P hv a T];have e:zg (λk=>app f N v (lC k)*C k a) s%p=zg (λk=>app f N v (lC k)*app f N (g k) a) s%p:=zL λk _=>by rw[MX,U k a T,<- MX]
      rw[e];simp
     have:=inj z0 i b;have q2:=Of;exact(Of _<|Pw p).symm.trans (by
      rw[NP];have:(v i - zg (λj=>app f N v (lC j)*g j i) s)%p=0:=this;exact Oe.mpr this)
    ·refine z.le λu hu=>?_
     obtain⟨j,I,rfl⟩:=hu;refine(S _).mpr (((A<|C j).mp (.gen ⟨j,I,rfl⟩)).congr λi b=>(U j i b).symm)
   omega
  omega
 ·obtain⟨t,d⟩:=hs (app M h v)
  have H:Span p N (dr r B) t:=(w t).mpr ⟨v,λi b=>(d i b).symm⟩;have hx:Span p h J λc=>zg (λj=>t (l j)*x j c) r:=Span.sum (u:=x) (λj=>t<|l j) λj I=>(R j I).1;have hd:Span p h J λc=>v c - zg (λj=>t (l j)*x j c) r:=by
   refine((Y _).mpr λi b=>?_).le λg U=>by obtain⟨j,I,rfl⟩:=U;exact h2 j I
   show app M h (λc=>v c - zg (λj=>t (l j)*x j c) r) i%p=0;rw[QM,vH,OW];have e:zg (λj=>t (l j)*app M h (x j) i) r%p=app M h v i%p:=by rw[d i b,qH (λj I=>Jk L H j I) i,vH];exact zL λj I=>by rw[MX,(R j I).2 i b,<- MX]
   rw[e];simp
  refine(hx.add hd 1).congr λc _=>?_;congr 1;omega
end
structure wx(p:Int)(w:UK)(wd:UX)(T:UW)(k:Nat)(l4:List ef):Prop where
 ok : ∀b,b∈l4->m3 p w wd T k b
 sp : ∀r,r<=k->∀v,Span p (wd r) (LB l4 r) v
 ct : ∀r,r<=k->l4.countP (λb=>b.has r)=wd r
 od:(l4.filter λb=>b.has k).Pairwise (Ord w)
noncomputable def kv(r:Nat)(l:UX)(i:Nat):Option Nat:=(MO r).find? λj=>l j==i
theorem xW(h:kv r l i=bQ j):j<r/\l j=i:=by have a:=List.find?_some h;have b:=List.mem_of_find?_eq_some h;exact⟨MR.mp b,by simpa using a⟩
theorem Jr(h:kv r l i=none) : ∀j,j<r->l j≠i:=λj z=>by have:=Tv.mp h j<|MR.mpr z;simpa using this
noncomputable def gh(p:Int)(A:Nat->ef)(N r:Nat)(B:Nat->Vc)(l:UX)(i:Nat):ef:=match kv r l i with
 | some j=>DP p A N (B j) i
 | none=>A i
noncomputable def i6(k:Nat)(b:ef):Option Vc->ef
 | none=>b
 | some y=>⟨b.s,b.n+1,λr=>if r=k+1 then y else b.v r⟩
noncomputable def n3(k:Nat)(y:Vc):ef:=⟨k+1,1,λ_=>y⟩
noncomputable def DU(r:Nat)(B:Nat->Vc)(l:UX)(i:Nat):Vc:=match kv r l i with
 | some j=>B j
 | none=>jD i
theorem dz(p A N r B l i):(gh p A N r B l i).s=(A i).s:=by unfold gh;split<;>rfl
theorem AU(p A N r B l i):(gh p A N r B l i).n=(A i).n:=by unfold gh;split<;>rfl
theorem VE(p A N r B l i rm):(gh p A N r B l i).has rm=(A i).has rm:=by unfold ef.has;rw[dz,AU]
theorem ZN:(n3 k y).has r=decide (r=k+1):=by
 unfold n3 ef.has;by_cases h:r=k+1
 ·simp[h]
 ·simp[h];intro;omega
section
variable{p:Int}{w:UK}{wd:UX}{T:UW}{k N r:Nat}{A:Nat->ef}{B:Nat->Vc}{l:UX}
theorem oJ(z:f7 p N r B l)(C:i<N):DU r B l i i=1/\∀c,c<i->DU r B l i c=0:=by
 unfold DU;cases hj:kv r l i with
 | some j=>
  obtain⟨a,b⟩:=xW hj;subst b;exact⟨z.one j a,λc I=>z.k0 j c a I⟩
 | none=>exact⟨by simp[jD],λc I=>by simp only[jD];rw[UY ⋯]⟩
theorem rW(C:i<N)(I:(A i).has rm=bX):(gh p A N r B l i).v rm c%p=nf p A N (DU r B l i) rm c%p:=by
 unfold gh DU;cases z:kv r l i with
 | some j=>rfl
 | none=>
  show(A i).v rm c%p=_;unfold nf;rw[NP];congr 1;rw[zN (f:=λj=>if (A j).has rm=bX then jD i j*(A j).v rm c else 0) C λj _ z=>by unfold jD;rw[UY (Oa z)];simp];simp[jD,I]
theorem oN(I:0<p)(O:f7 p N r B l)(z : ∀j,j<N->m3 p w wd T k (A j))(U : ∀j,j<N->(A j).has k=bX)(J : ∀i c,i<c->c<N->Ord w (A i) (A c))(C:i<N):m3 p w wd T k (gh p A N r B l i):=by
 unfold gh;split
 ·next j e=>
  obtain⟨a,b⟩:=xW e;subst b;exact Cy I z U C (λc a b=>J _ c a b) λc d=>O.k0 j c a d
 ·exact z i C
theorem XM(z:rm<=k)(I:b.s+b.n=k+1):(i6 k b o).has rm=b.has rm/\(i6 k b o).v rm=b.v rm:=by
 cases o with
 | none=>exact⟨rfl,rfl⟩
 | some y=>
  refine⟨?_,by simp only[i6];rw[UY ⋯]⟩;unfold i6 ef.has;simp only;congr 1;exact decide_eq_decide.mpr ⋯
theorem Wc(z:b.s+b.n=k+1):(i6 k b o).has (k+1)=o.isSome:=by
 cases o with
 | none=>unfold i6 ef.has;simp;omega
 | some y=>unfold i6 ef.has;simp;omega
theorem uE(k b o):(i6 k b o).s=b.s:=by cases o<;>rfl
theorem Eg(Z:0<p)(O:b.s+b.n=k+1)(C:m3 p w wd T k b)(Y : ∀y,o=bQ y->∀c,c<wd (k+1)->0<=y c/\y c<p)
 (J:o=none->w k=cE->∀c,c<wd (k+1)->app (T k) (wd k) (b.v k) c%p=0) (L : ∀y,o=bQ y->w k=cE->∀c,c<wd (k+1)->app (T k) (wd k) (b.v k) c%p=y c%p)
 (S : ∀y,o=bQ y->w k=bX->∀c,c<wd k->app (T k) (wd<|k+1) y c%p=b.v k c%p):m3 p w wd T (k+1) (i6 k b o):=by
 have A:=C.n1;refine⟨?_,?_,λU c i z=>?_,λj B f c z=>?_⟩
 ·cases o with
  | none=>exact C.n1
  | some y=>show 1<=b.n+1;omega
 ·cases o with
  | none=>show b.s+b.n<=k+1+1;omega
  | some y=>show b.s+(b.n+1)<=k+1+1;omega
 ·by_cases r:U<=k
  ·obtain⟨a,I⟩:=XM (o:=o) r O
   rw[a]at i;rw[I];exact C.h9 U c i z
  ·have l:=il.mp i
   cases o with
   | none=>exact absurd l.2 (by show ¬(U<b.s+b.n);omega)
   | some y=>
    have:U=k+1:=by have:U<b.s+(b.n+1):=l.2;omega
    subst this;have e:(i6 k b<|some y).v (k+1)=y:=by simp[i6]
    rw[e];exact Y y rfl c z
 ·by_cases h:j<k
  ·have g1:zM w j<=k:=by unfold zM;split<;>omega
   have g2:zO w j<=k:=by unfold zO;split<;>omega
   obtain⟨a,I⟩:=XM (o:=o) g1 O;obtain⟨u,x⟩:=XM (o:=o) g2 O;rw[a]at f;rw[I,u,x];exact C.arr j h f c z
  ·have h:j=k:=by omega
   subst h;obtain⟨a,I⟩:=XM (o:=o) (MY j) O;have m:=Wc (k:=j) (o:=o) O;have t:b.has j=bX:=il.mpr ⋯;cases hw:w j with
   | false=>
    have g:zM w j=j:=by unfold zM;rw[hw];rfl
    have d:zO w j=j+1:=by unfold zO;rw[hw];rfl
    rw[d]at z;rw[g,d,I,m];cases o with
    | none=>rw[J rfl hw c z];simp
    | some y=>rw[L y rfl hw c z];simp[i6]
   | true=>
    have g:zM w j=j+1:=by unfold zM;rw[hw];rfl
    have d:zO w j=j:=by unfold zO;rw[hw];rfl
    rw[d]at z;rw[g,m]at f;rw[g,d,a,I,t];cases o with
    | none=>cases f
    | some y=>
     have e:(i6 j b<|some y).v (j+1)=y:=by simp[i6]
     rw[e,S y rfl hw c z];simp
theorem Cv(J : ∀c,c<wd (k+1)->0<=y c/\y c<p)(C:w k=bX->∀c,c<wd k->app (T k) (wd<|k+1) y c%p=0):m3 p w wd T (k+1) (n3 k y):=by
 refine⟨MY _,by show k+1+1<=k+1+1;omega,λf c O z=>?_,λj e I c z=>?_⟩
 ·rw[ZN]at O
  have:=of_decide_eq_true O;subst this;exact J c z
 ·rw[ZN]at I
  have I:=of_decide_eq_true I;cases hw:w j with
  | false=>
   have a:zM w j=j:=by unfold zM;rw[hw];rfl
   omega
  | true=>
   have a:zM w j=j+1:=by unfold zM;rw[hw];rfl
   have U:zO w j=j:=by unfold zO;rw[hw];rfl
   have b:j=k:=by omega
   subst b;rw[U]at z;have d:(n3 j y).has (zO w j)=cE:=by rw[ZN,U];simp
   rw[d,a];show app (T j) (wd<|j+1) y c%p=_;rw[C hw c z];simp
noncomputable def wu(p:Int)(k:Nat)(w:UK)(C:List ef)(A:Nat->ef)(N r:Nat)(B:Nat->Vc)(l:UX)(nx:Nat->Option Vc)(z:List Vc):List ef:=
 (C.filter λb=> !b.has k)++(if w k then (MO N).map (λi=>i6 k (gh p A N r B l i)<|nx i)++z.map (n3 k)else z.map (n3 k)++(MO N).map λi=>i6 k (gh p A N r B l i)<|nx i)
theorem gH(p0:0<p)(I:wx p w wd T k l4)(hN:(l4.filter λb=>b.has k).length=N)(J : ∀j,A j=(l4.filter λb=>b.has k).getD j lh)(O:f7 p N r B l)
 (c1 : ∀i y,i<N->nx i=bQ y->∀c,c<wd (k+1)->0<=y c/\y c<p) (c2 : ∀y,y∈news->∀c,c<wd (k+1)->0<=y c/\y c<p)
   (d0 : ∀i,i<N->nx i=none->w k=cE->∀c,c<wd (k+1)->app (T k) (wd k) ((gh p A N r B l i).v k) c%p=0)
   (d1 : ∀i y,i<N->nx i=bQ y->w k=cE->∀c,c<wd (k+1)->app (T k) (wd k) ((gh p A N r B l i).v k) c%p=y c%p)
   (d2 : ∀i y,i<N->nx i=bQ y->w k=bX->∀c,c<wd k->app (T k) (wd<|k+1) y c%p=(gh p A N r B l i).v k c%p)
   (d3 : ∀y,y∈news->w k=bX->∀c,c<wd k->app (T k) (wd<|k+1) y c%p=0)
   (s1 : ∀v,Span p (wd<|k+1) (λg=>(∃i,i<N/\nx i=bQ g)\/g∈news) v) (n1:(MO N).countP (λi=>(nx i).isSome)+news.length=wd (k+1)) :
   wx p w wd T (k+1) (wu p k w l4 A N r B l nx news):=by
  have G : ∀j,j<N->A j∈l4/\(A j).has k=bX:=λj E=>by
   have:A j∈l4.filter λb=>b.has k:=by rw[J j,MU,MS ⋯];exact Od _
   have:=Nd.mp this;exact⟨this.1,by simpa using this.2⟩
  have X : ∀j,j<N->m3 p w wd T k (A j):=λj E=>I.ok _ (G j E).1;have Z : ∀i c,i<c->c<N->Ord w (A i) (A c):=λi c m u=>by have:=G7.mp I.od i c ⋯ ⋯ m;rw[J i,J c,MU,MS ⋯,MU,MS ⋯];exact this
  have hX : ∀i,i<N->m3 p w wd T k (gh p A N r B l i):=λi d=>oN p0 O X (λj E=>(G j E).2) Z d;have a2 : ∀i,i<N->(gh p A N r B l i).s+(gh p A N r B l i).n=k+1:=λi d=>by rw[dz,AU];have m:=il.mp (G i d).2;have u:=(X i d).le;omega
  have H : ∀b,b∈l4->b.has k=cE->b.s+b.n<=k:=λb O S=>by have m:=(I.ok b O).le;have u:=(I.ok b O).n1;refine Nat.not_lt.mp λz=>?_;have:b.has k=bX:=il.mpr ⋯;rw[this]at S;cases S
  have x : ∀b,b∈wu p k w l4 A N r B l nx news↔(b∈l4/\b.has k=cE)\/(∃i,i<N/\b=i6 k (gh p A N r B l i) (nx i))\/∃y,y∈news/\b=n3 k y:=λb=>by
   unfold wu;rw[RR,Nd];refine or_congr ⋯ ?_;cases w k<;>simp only[OI,if_false,if_true,RR,Nq,MR]
   ·constructor
    ·rintro(⟨y,m,u⟩ | ⟨i,m,u⟩)
     ·exact .inr ⟨y,m,u.symm⟩
     ·exact .inl ⟨i,m,u.symm⟩
    ·rintro(⟨i,m,u⟩ | ⟨y,m,u⟩)
     ·exact .inr ⟨i,m,u.symm⟩
     ·exact .inl ⟨y,m,u.symm⟩
   ·constructor
    ·rintro(⟨i,m,u⟩ | ⟨y,m,u⟩)
     ·exact .inl ⟨i,m,u.symm⟩
     ·exact .inr ⟨y,m,u.symm⟩
    ·rintro(⟨i,m,u⟩ | ⟨y,m,u⟩)
     ·exact .inl ⟨i,m,u.symm⟩
     ·exact .inr ⟨y,m,u.symm⟩
  have cnt : ∀P:ef->Bool,(wu p k w l4 A N r B l nx news).countP P=(l4.filter λb=> !b.has k).countP P+(MO N).countP (λi=>P<|i6 k (gh p A N r B l i)<|nx i)+(news.map<|n3 k).countP P:=λP=>by
   unfold wu;rw[List.countP_append];cases w k<;>simp only[OI,if_false,if_true,List.countP_append,Rr (f:=λi=>i6 k (gh p A N r B l i)<|nx i)]
   ·rw[RN,TQ (List.countP P<|List.map (n3 k) news)];rfl
   ·rw[RN];rfl
  refine⟨λb be=>?_,λU hr v=>?_,λU hr=>?_,?_⟩
  ·rcases (x b).mp be with⟨m,u⟩ | ⟨i,d,rfl⟩ | ⟨y,hy,rfl⟩
   ·have S:=H b m u
    have W:=I.ok b m;refine⟨W.n1,by omega,W.h9,λj E Y c Q=>?_⟩;have bm:=il.mp Y;refine W.arr j ?_ Y c Q;have:zM w j>=j:=by unfold zM;split<;>omega
    omega
   ·exact Eg p0 (a2 i d) (hX i d) (λy e=>c1 i y d e) (λe=>d0 i d e) (λy e=>d1 i y d e) λy e=>d2 i y d e
   ·exact Cv (c2 y hy)<|d3 y hy
  ·by_cases C:U<=k
   ·refine(I.sp U C v).le λg hg=>?_
    obtain⟨b,m,u,rfl⟩:=hg;cases Uw:b.has k with
    | false=>exact .gen ⟨b,(x b).mpr (.inl ⟨m,Uw⟩),u,rfl⟩
    | true=>
     have bg:b∈l4.filter λb=>b.has k:=Nd.mpr ⟨m,by simpa using Uw⟩;obtain⟨i,d,e⟩:=Ri bg;have ei:A i=b:=by rw[J i,MU,MS d];exact e
     rw[<- ei]at u ⊢;refine nB (A:=A) (A':=λi=>gh p A N r B l i) (t:=λi=>DU r B l i) (λi d=>(oJ O d).1) (λi c d Q=>(oJ O d).2 c Q) (λi d R=>?_) (λi d R c _=>rW d R) i ⋯ u;obtain⟨x1,x2⟩:=XM (o:=nx i) C<|a2 i d;exact .gen ⟨_,(x _).mpr (.inr<|.inl ⟨i,d,rfl⟩),by rw[x1,VE];exact R,by rw[x2]⟩
   ·have:U=k+1:=by omega
    subst this;refine(s1 v).le λg hg=>?_;rcases hg with⟨i,d,e⟩ | hg
    ·refine .gen ⟨_,(x _).mpr (.inr<|.inl ⟨i,d,rfl⟩),?_,?_⟩
     ·rw[Wc (a2 i d),e];rfl
     ·rw[e];simp[i6]
    ·exact .gen ⟨_,(x _).mpr (.inr<|.inr ⟨g,hg,rfl⟩),by rw[ZN];simp,rfl⟩
  ·rw[cnt]
   by_cases C:U<=k
   ·have L:(news.map<|n3 k).countP (λb=>b.has U)=0:=RV.mpr λb O=>by
     obtain⟨y,_,rfl⟩:=Nq.mp O;rw[ZN];simp;omega
    have M:(MO N).countP (λi=>(i6 k (gh p A N r B l i)<|nx i).has U)=(l4.filter λb=>b.has k).countP λb=>b.has U:=by
     have:(l4.filter λb=>b.has k)=(MO N).map A:=by rw[<- jt lh (l4.filter λb=>b.has k),hN];exact Nj λj _=>(J j).symm
     rw[this,Rr];refine ON λi d=>?_;have d:=MR.mp d;rw[(XM (o:=nx i) C<|a2 i d).1,VE];rfl
    rw[L,M,<- I.ct U C,List.countP_eq_countP_filter_add l4 (λb=>b.has U) λb=>b.has k];omega
   ·have:U=k+1:=by omega
    subst this;have K:(l4.filter λb=> !b.has k).countP (λb=>b.has<|k+1)=0:=RV.mpr λb O=>by obtain⟨m,u⟩:=Nd.mp O;have:=H b m (by simpa using u);intro z;have:=il.mp z;omega
    have L:(news.map<|n3 k).countP (λb=>b.has<|k+1)=news.length:=by rw[List.countP_eq_length.mpr λb O=>?_,Nf];obtain⟨y,_,rfl⟩:=Nq.mp O;rw[ZN];simp
    have M:(MO N).countP (λi=>(i6 k (gh p A N r B l i)<|nx i).has (k+1))=(MO N).countP λi=>(nx i).isSome:=ON λi d=>by rw[Wc (a2 i<|MR.mp d)]
    rw[K,L,M];omega
  ·have K:((l4.filter λb=> !b.has k).filter λb=>b.has<|k+1)=[]:=List.filter_eq_nil_iff.mpr λb O=>by
    obtain⟨m,u⟩:=Nd.mp O;have:=H b m (by simpa using u);intro z;have:=il.mp z;omega
   have pO:((MO N).map λi=>i6 k (gh p A N r B l i)<|nx i).Pairwise (Ord w):=by rw[RB];refine RM (λ{a b} F O h=>?_)<|RA (n:=N);have:=Z a b h<|MR.mp O;unfold Ord;rw[uE,uE,dz,dz];exact this
   have pN:(news.map<|n3 k).Pairwise (Ord w):=by
    rw[RB];refine G7.mpr λ_ _ _ _ _=>⟨λz=>?_,λz=>?_⟩
    ·exact absurd z<|NU<|k+1
    ·exact absurd z<|NU<|k+1
   have so : ∀b,b∈(MO N).map (λi=>i6 k (gh p A N r B l i)<|nx i)->b.s<=k:=λb O=>by obtain⟨i,d,rfl⟩:=Nq.mp O;have d:=MR.mp d;rw[uE,dz];exact(il.mp (G i d).2).1
   have sn : ∀b,b∈news.map (n3 k)->b.s=k+1:=λb O=>by obtain⟨y,_,rfl⟩:=Nq.mp O;rfl
   unfold wu;rw[Rq,K,RQ];refine Su _ ?_;cases hw:w k with
   | false=>
    simp only[OI,if_false];refine List.pairwise_append.mpr ⟨pN,pO,λa F b O=>?_⟩;have m:=sn a F;have u:=so b O;exact⟨λz=>by omega,λ_=>by rw[m];exact hw⟩
   | true=>
    simp only[if_true];refine List.pairwise_append.mpr ⟨pO,pN,λa F b O=>?_⟩;have m:=sn b O;have u:=so a F;exact⟨λ_=>by rw[m];exact hw,λz=>by omega⟩
end
theorem XW(z:Pr p)(I:h<=100)(C:w<=lim)(f:UV) :
 ∃r B l,ZU [.int p,qN h w f]=bQ (.own<|jc r h B)/\f7 p h r B l/\∀v,Span p h (dr r B) v↔Span p h (dr w λj i=>f i j) v:=by
 obtain⟨r,B,l,e,O,a⟩:=ke z I C .T λj i=>f i j;have U:=jg;refine⟨r,B,l,?_,O,a⟩;simp only[o9]at e;have o:=vK f (show h<=lim by omega) C;unfold qN at o ⊢;simp[ZU,jo,z9,o,e]
theorem Vg(P:Nat->Ctx->Prop) : ∀(ds C:List D) (k:Nat) (γ:Ctx),P k γ->(∀i d γ,ds[i]? = bQ d->P (k+i) γ->∃γ',(xC T d γ).bind F=bQ (.next γ')/\P (k+i+1) γ')->
 ∃γ',P (k+ds.length) γ'/\k7 T F (ds++C) γ=k7 T F C γ'
 | [],C,k,γ,h,_=>⟨γ,h,rfl⟩
 | d::ds,C,k,γ,h,step=>by
  obtain⟨a,e,f⟩:=step 0 d γ rfl h;obtain⟨γ',g,z⟩:=Vg P ds C (k+1) a (by simpa using f) (λi b I j O=>by have:=step (i+1) b I (by simpa using j) (by rw[show k+(i+1)=k+1+i by omega];exact O);rw[show k+(i+1)+1=k+1+i+1 by omega]at this;exact this)
  refine⟨γ',by rw[show k+(d::ds).length=k+1+ds.length by simp;omega];exact g,?_⟩;rw[TR,xt];cases eb:xC T d γ with
  | none=>rw[eb]at e;simp at e
  | some U=>
   rw[eb]at e;simp only[MW]at e ⊢;rw[e];exact z
theorem aF(n:Nat)(v:Vc):yV (zB n v)=(MO n).map λ(i:Nat)=>D.tup [.int i,.int (v i)]:=by unfold yV;rw[KL];refine Nj λi a=>?_;have:=MR.mp a;simp[zB,this]
theorem vL(L:n<=lim)(v:Vc)(J:a<n)(I : ∀i,i<a->v i=0)(C:v a≠0):xh [.tup (zB n v)]=bQ (.val<|.int a):=by
 have d:zX (.tp [0,1]) (sB<|zK eK (zf 1)<|zy<|.int 0) (zf 0) [Cell.no,Cell.no] ((MO n).map λ(i:Nat)=>D.tup [.int i,.int (v i)])=bQ (((MO n).filter λi=> !decide (v i=0)).map λ(i:Nat)=>D.int i):=by refine jh _ _ _ λi g=>⟨_,rfl,?_,λ_=>rfl⟩;simp
 cases hf:(MO n).filter λi=> !decide (v i=0)with
 | nil=>exact absurd (by have:=fN hf a J;simpa using this) C
 | cons b wj=>
  obtain⟨f,O,U⟩:=Vj hf;have e:b=a:=by
   rcases RE a b with z | z | z
   ·exact absurd (by have:=U a z;simpa using this) C
   ·exact z.symm
   ·exact absurd (I b z) (by simpa using O)
  subst e;rw[hf]at d;simp[xh,jo,z9,aF,L,jn,MV,d]
theorem cG(L:a<n)(v z:Vc)(x:Int)(C:z a=x)(J : ∀i,i<n->i≠a->z i=v i):(zB n v).set a (.int x)=zB n z:=by
 apply PX;intro i;rw[TH];by_cases b:i<n
 ·by_cases e:a=i
  ·subst e;simp[L,zB,C]
  ·have:=J i b (Oa e)
   simp[e,zB,b,this]
 ·have I:(zB n v)[i]? = none:=by simp[zB];omega
  have d:(zB n z)[i]? = none:=by simp[zB];omega
  rw[I,d,UY ⋯]
noncomputable def Wv(w:Nat)(B:Nat->Vc)(l:UX)(r:Nat):Vc:=λj=>zg (λk=>if l k=j then B k w else 0) r
noncomputable def yE:=(zR (jF 6<|zE xh<|zb (zf 5) zI)<|zR (fy (sB<|zK gm (zf 6)<|zf 3) (jR<|zy .d7) jU)<|Xt 4 (zf 6)<|cq (zh 5)<|zf 3)
section
variable{p:Int}{h w r:Nat}
theorem af{l:UX}(C : ∀k m,k<m->m<r->l k<l m){k m:Nat}(I:k<r)(O:m<r)(e:l k=l m):k=m:=by
 rcases RE k m with z | z | z
 ·have:=C k m z O;omega
 ·exact z
 ·have:=C m k z I;omega
noncomputable def aug(w:Nat)(f:UV)(b:Vc):Nat->Vc:=λi j=>if j<w then f i j else b i
theorem bp(Y:w+1<=lim)(O:f7 p (w+1) r B l)(hs:s<=r)(Z : ∀k,k<s->l k<w)(S:List D)(L z I:Cell) :
 ∃C J,k7 (.nm 5) yE (jc s (w+1) B++S) [L,z,I,.val<|.int w,.own<|zB w λ_=>0,.no,.no]=k7 (.nm 5) yE S [L,z,I,.val<|.int w,.own<|zB w<|Wv w B l s,C,J]:=by
 obtain⟨G,⟨C,J,rfl⟩,e⟩:=Vg (T:= .nm 5) (F:=yE) (λt o=>∃C J,o=[L,z,I,.val<|.int w,.own<|zB w<|Wv w B l t,C,J]) (jc s (w+1) B) S 0 [L,z,I,.val<|.int w,.own<|zB w λ_=>0,.no,.no]
  ⟨.no,.no,by rw[Zo (f:=Wv w B l 0) (g:=λ_=>0) λi _=>rfl]⟩ (by
   rintro k d o b ⟨C,J,rfl⟩;rw[OO];have n:k<s:=by have:=(Ng.mp b).1;simpa using this
   have u:d = .tup (zB (w+1)<|B k):=by simp[n]at b;exact b.symm
   subst u;have U:k<r:=by omega
   have h:=Z k n;have le:=vL Y (B k) (show l k<w+1 by omega) (λi j=>O.k0 k i U j) (by rw[O.one k U];decide);refine⟨_,?_,.val<|.tup<|zB (w+1)<|B k,.val<|.int<|l k,rfl⟩;have a : ¬((l k:Int)=(w:Int)):=by omega
   have x : ¬l k=w:=by omega
   have E:w<w+1:=by omega
   have y:=cG h (Wv w B l k) (Wv w B l<|k+1) (B k w) (by
    unfold Wv;simp only[zg,if_true];rw[zw (g:=λ_=>0) λm A=>by rw[UY λe=>by have:=O.mono m k A U;omega],zH]
    omega) (λi j a=>by
    unfold Wv;simp only[zg];rw[UY (Oa a)];omega)
   simp[yE,jI,le,a,x,h,E,y])
 rw[nV]at e;refine⟨C,J,?_⟩;rw[e];rw[OO]
theorem uV(w:Nat)(f:UV)(b:Vc)(i:Nat):zB w (f i)++[.int (b i)]=zB (w+1) (aug w f b i):=by
 unfold zB;rw[NT,NF];congr 1
 ·exact Nj λj z=>by simp[aug,MR.mp z]
 ·simp[aug]
theorem QQ(J:Pr p)(Y:h<=90)(Z:w<=90)(f:UV)(b:Vc) :
 ∃r B l s,f7 p (w+1) r B l/\(∀v,Span p (w+1) (dr r B) v↔Span p (w+1) (dr h<|aug w f b) v)/\s<=r/\(∀k,k<s->l k<w)/\(∀k,s<=k->k<r->w<=l k)/\
  vW [.int p,qN h w f,.tup (zB h b)]=bQ (.val<|if s<r then .d7 else .tup (zB w<|Wv w B l s)):=by
 have W:=jg;have U:h<=lim:=by omega
 have n:w<=lim:=by omega
 have O:w+1<=lim:=by omega
 obtain⟨r,B,l,e,I,o⟩:=ke J (show w+1<=100 by omega) U .L<|aug w f b;obtain⟨s,j,m,g⟩:=Jn w I.mono;refine⟨r,B,l,s,I,o,j,m,g,?_⟩;have a:zX (.tp [0,1]) jz (zK qu (zf 0)<|xH<|zb (zf 1) zI) [Cell.no,Cell.no] ((MO h).map λi=>D.tup [.tup (zB w<|f i),.int (b i)])=bQ (jc h (w+1)<|aug w f b):=by unfold jc;refine zC _ _ λi F=>zD rfl rfl ?_;simp[qu,O,uV]
 have M:Jg (jc h w f) (zB h b)=(MO h).map λi=>D.tup [.tup (zB w<|f i),.int (b i)]:=by unfold Jg jc zB;rw[Dl];simp
 have t:MV w (D.int 0)=zB w λ_=>0:=by rw[ed];rfl
 have A:((w+1:Nat):Int)=(w:Int)+1:=by omega
 simp only[o9]at e;rw[A]at e;obtain⟨d,E⟩ : ∃d,r=s+d:=⟨r - s,by omega⟩;have H:jc r (w+1) B=jc s (w+1) B++jc d (w+1) λk=>B (s+k):=by unfold jc;rw[E,Sm,NF,NB];rfl
 obtain⟨N,P,G⟩:=bp O I j m (jc d (w+1) λk=>B<|s+k) (.val<|.int p) (.val<|qN h w f)<|.val<|.tup<|zB h b;have K:jj (qN h w f)=bQ (.T,[.int h,.int w,.tup (jc h w f)]):=rfl;have C:vW=jo 7 (zR (jF 3<|cq (zh 1)<|zy<|.int 1)<|zR (xB 4<|dQ (js<|j3<|zb (zy<|.int 0) zI)<|zf 3)<|zR (yB (zT<|zG<|qh<|jJ kf<|zb (zf 0)<|zb (zK qu (zf 3)<|zy<|.int 1)<|zb (qh<|zU (K6 (cq (zh 1)<|zy<|.int 2)<|zf 2) (.tp [0,1]) 2 [] jz (zK qu (zf 0)<|xH<|zb (zf 1) zI)) zI) (.nm 5) yE)<|jR<|ju<|zh 4):=rfl;rw[C];simp[jo,z9,jI,K,n,M,U,jn,MV,a,e];rw[t,H,G];by_cases z:s<r
 ·
  have u:d=1:=by
   rcases Nn 1 d with q | q
   ·have Q:=I.mono s (s+1) ⋯ ⋯
    have R:=g s (MY _) z;have S:=I.lt (s+1) ⋯;omega
   ·omega
  subst u;have x:l s=w:=by have:=g s (MY _) z;have:=I.lt s z;omega
  have le:=vL O (B s) (show w<w+1 by omega) (λi F=>I.k0 s i z ⋯) (by have:=I.one s z;rw[x]at this;rw[this];decide);have one:jc 1 (w+1) (λk=>B<|s+k)=[.tup (zB (w+1)<|B s)]:=rfl;rw[one,xt];simp[yE,jI,le,z]
 ·have y:d=0:=by omega
  subst y;have zero:jc 0 (w+1) (λk=>B<|s+k)=[]:=rfl;rw[zero];simp[k7,z]
end
noncomputable def off(hs ws:UX):Nat->Nat
 | 0=>0
 | k+1=>off hs ws k+hs k*ws k
noncomputable def DY(hs ws:UX)(T:UW):Nat->Nat->Int
 | 0,_=>0
 | k+1,x=>if x<off hs ws k then DY hs ws T k x else T k ((x - off hs ws k)/ws k) ((x - off hs ws k)%ws k)
noncomputable def p5(n:Nat)(hs ws:UX)(T:UW):List D:=(MO n).map λk=>qN (hs k) (ws k)<|T k
section
variable{hs ws:UX}{T:UW}
theorem Jq{a b:Nat}(h:a<=b):off hs ws a<=off hs ws b:=by
 induction b with
 | zero=>
  obtain rfl:a=0:=by omega
  exact MY _
 | succ b z=>
  by_cases e:a=b+1
  ·subst e;exact MY _
  ·have:=z ⋯
   show _<=off hs ws b+hs b*ws b;omega
theorem KQ{h w i j:Nat}(C:i<h)(z:j<w):i*w+j<h*w:=by have:(i+1)*w<=h*w:=Nat.mul_le_mul_right w C;rw[SV]at this;omega
theorem Wq{n k i j:Nat}(I:k<n)(C:i<hs k)(z:j<ws k):off hs ws k+i*ws k+j<off hs ws n:=by have a:=Jq (hs:=hs) (ws:=ws) (show k+1<=n by omega);have b:=KQ C z;have:off hs ws (k+1)=off hs ws k+hs k*ws k:=rfl;omega
theorem pL{w i j:Nat}(z:j<w):(i*w+j)/w=i/\(i*w+j)%w=j:=by
 have a:0<w:=by omega
 constructor
 ·rw[TQ,Nat.add_mul_div_right _ _ a,Uc z,OO]
 ·rw[TQ,Nat.add_mul_mod_self_right,Ub z]
theorem K8{k i j:Nat}(C:i<hs k)(z:j<ws k) : ∀n,k<n->DY hs ws T n (off hs ws k+i*ws k+j)=T k i j
 | 0,h=>by omega
 | n+1,h=>by
  unfold DY;by_cases e:k=n
  ·subst e
   rw[UY ⋯];have:off hs ws k+i*ws k+j - off hs ws k=i*ws k+j:=by omega
   rw[this,(pL z).1,(pL z).2]
  ·have:=Wq (hs:=hs) (ws:=ws) (show k<n by omega) C z
   rw[UJ this];exact K8 C z n ⋯
theorem mJ : ∀(n x:Nat),x<off hs ws n->∃k i j,k<n/\i<hs k/\j<ws k/\x=off hs ws k+i*ws k+j
 | 0,x,h=>by simp[off]at h
 | n+1,x,h=>by
  by_cases e:x<off hs ws n
  ·obtain⟨k,i,j,d,a,I,O⟩:=mJ n x e
   exact⟨k,i,j,by omega,a,I,O⟩
  ·have h:x<off hs ws n+hs n*ws n:=h
   have b:0<ws n:=by apply Nat.pos_of_ne_zero;intro z;rw[z,Nat.mul_zero]at h;omega
   refine⟨n,(x - off hs ws n)/ws n,(x - off hs ws n)%ws n,by omega,Nat.div_lt_of_lt_mul ?_,Nat.mod_lt _ b,?_⟩
   ·rw[Ph];omega
   ·have:=Nat.div_add_mod (x - off hs ws n) (ws n)
    rw[Ph]at this;omega
theorem ZR(n f):(zB n f).length=n:=by simp[zB]
theorem rO(n hs ws T):(p5 n hs ws T).length=n:=by simp[p5]
theorem AK{n k:Nat}(h:k<n):(p5 n hs ws T)[k]? = bQ (qN (hs k) (ws k)<|T k):=by unfold p5;simp[h]
noncomputable def cV(hs ws:UX)(u:Nat->Int)(k i j:Nat):Int:=u<|off hs ws k+i*ws k+j
end
section
variable{p:Int}{m:Nat}{w:UK}{wd wd':UX}{T T' S:UW}
noncomputable def xm(c x:Nat):Int:=if c=x then 1 else 0
theorem Ux(C : ∀k,wd k<=9)(k):eh w wd k<=100:=by rw[<- qe];have:=C<|zO w k;omega
theorem d_(C : ∀k,wd k<=9)(k):d8 w wd k<=100:=by rw[<- qk];have:=C<|zM w k;omega
end
theorem Ad(h : ∀k,k<r->l k≠j):Wv w B l r j=0:=by unfold Wv;rw[zw (g:=λ_=>0) λk z=>UY<|h k z,zH]
theorem EH{p:Int}{w n r:Nat}{B:Nat->Vc}{l:UX}(I:f7 p n r B l){k:Nat}(z:k<r):Wv w B l r (l k)=B k w:=by unfold Wv;rw[zN z λm a O=>UY λe=>O<|af I.mono a z e,UJ rfl]
theorem lV{p:Int}{h w:Nat}{f:UV}{b y:Vc}(U : ∀i,i<h->zg (λj=>f i j*y j) w%p=b i%p){v:Vc}(C:Span p (w+1) (dr h<|aug w f b) v):(v w - zg (λj=>v j*y j) w)%p=0:=by
 induction C with
 | @zero v I=>
  have e:zg (λj=>v j*y j) w%p=zg (λ_=>0) w%p:=zL λj O=>by rw[MX,I j ⋯];simp
  rw[OW,e,I w ⋯,zH];simp
 | @step v z g c n s a r=>
  obtain⟨i,o,rfl⟩:=n;have d:zg (λj=>v j*y j) w%p=(zg (λj=>z j*y j) w+c*zg (λj=>f i j*y j) w)%p:=by
   rw[<- ja,<- jO];refine zL λj O=>?_;rw[MX,a j ⋯,<- MX];have:aug w f b i j=f i j:=by simp[aug,O]
   rw[this,SG,OP]
  have k:v w%p=(z w+c*b i)%p:=by
   rw[a w ⋯];have:aug w f b i w=b i:=by simp[aug]
   rw[this]
  have l:(c*zg (λj=>f i j*y j) w)%p=(c*b i)%p:=by rw[MX,U i o,<- MX]
  rw[OW,d,k,<- OW];have m:(z w+c*b i - (zg (λj=>z j*y j) w+c*zg (λj=>f i j*y j) w))=(z w - zg (λj=>z j*y j) w)+(c*b i - c*zg (λj=>f i j*y j) w):=by omega
  rw[m,Ny,r,OW,l];simp
theorem lX(C:Pr p)(L:h<=90)(S:w<=90)(f:UV)(b y:Vc)(U : ∀i,i<h->0<=b i/\b i<p)(Y : ∀i,i<h->zg (λj=>f i j*y j) w%p=b i) :
 ∃x:Vc,vW [.int p,qN h w f,.tup (zB h b)]=bQ (.val<|.tup<|zB w x)/\(∀j,0<=x j/\x j<p)/\∀i,i<h->zg (λj=>f i j*x j) w%p=b i:=by
 have M:=C.pos;obtain⟨r,B,l,s,O,d,T,t,N,m⟩:=QQ C L S f b;have u : ¬s<r:=λz=>by
  have Q:=O.lt s z;have R:=N s (MY _) z;have G:l s=w:=by omega
  have P:=(d<|B s).mp (.gen ⟨s,z,rfl⟩);have q:=lV (y:=y) (λi a=>by rw[Y i a,Nz (U i a).1 (U i a).2]) P;have o:=O.one s z;rw[G]at o;have J:zg (λj=>B s j*y j) w=0:=by rw[zw (g:=λ_=>0) λj K=>by rw[O.k0 s j z ⋯];simp];exact zH _
  rw[o,J,Int.sub_zero,C.one]at q;omega
 rw[UY u]at m;have H:s=r:=by omega
 subst H;refine⟨_,m,λj=>?_,λi a=>?_⟩
 ·by_cases e : ∃k,k<s/\l k=j
  ·obtain⟨k,I,rfl⟩:=e
   rw[EH O I];exact O.h9 k w I ⋯
  ·rw[Ad λk I F=>e ⟨k,I,F⟩];exact⟨Int.le_refl _,M⟩
 ·have n:=Jk O ((d<|aug w f b i).mpr (.gen ⟨i,a,rfl⟩)) w ⋯
  have A:aug w f b i w=b i:=by simp[aug]
  rw[A,Nz (U i a).1 (U i a).2]at n;rw[n];congr 1;unfold Wv;rw[zw (g:=λj=>zg (λk=>f i j*(if l k=j then B k w else 0)) s) λj _=>(ja _ _ _).symm,jT];refine zw λk I=>?_;rw[zN (i:=l k) (t k I) λj K E=>by rw[UY (Oa E)];simp,UJ rfl];simp only[aug,UJ (t k I)]
theorem WC{n N:Nat}(a:Nat->Int)(idx:UX)(x:Nat->Int)(z : ∀t,t<n->idx t<N):zg (λc=>zg (λt=>a t*xm c (idx t)) n*x c) N=zg (λt=>a t*x (idx t)) n:=by rw[zw (g:=λc=>zg (λt=>a t*xm c (idx t)*x c) n) λc _=>(qI _ _ _).symm,jT];refine zw λt I=>?_;rw[zN (i:=idx t) (z t I) λc U O=>by unfold xm;rw[UY O];simp];unfold xm;rw[UJ rfl,OL]
noncomputable def yc(wd:UX)(b:ef):List D:=(MO b.n).map λi=>D.tup<|zB (wd<|b.s+i)<|b.v<|b.s+i
noncomputable def qD(wd:UX)(b:ef):D:= .tup [.int b.s,.tup (yc wd b)]
@[simp] theorem cc(wd b):(yc wd b).length=b.n:=by simp[yc]
theorem ai(h:i<b.n):(yc wd b)[i]? = bQ (.tup<|zB (wd<|b.s+i)<|b.v<|b.s+i):=by simp[yc,h]
@[simp] theorem HH(wd b):jj (qD wd b)=bQ (.T,[.int b.s,.tup (yc wd b)]):=rfl
section
variable{wd:UX}{b:ef}{l4:List ef}
theorem Xq(C:1<=b.n)(I:b.s+b.n<=100):qb [qD wd b]=bQ (.val<|.tup [.int b.s,.int ((b.s+b.n - 1:Nat):Int)]):=by
 have e:((b.s:Int)+(b.n:Int) - 1)=((b.s+b.n - 1:Nat):Int):=by omega
 simp[qb,jo,z9,qD,MV];omega
theorem yU(C:b.s+b.n<=100)(r:Nat):j8 [qD wd b,.int r]=bQ (.val<|.bl<|b.has r):=by
 by_cases h:b.s<=r
 ·by_cases a:r<b.s+b.n
  ·have:(r:Int)<(b.s:Int)+b.n:=by omega
   simp[j8,jo,z9,qD,MV,ef.has,h,a,this]
  ·have : ¬((r:Int)<(b.s:Int)+b.n):=by omega
   simp[j8,jo,z9,qD,MV,ef.has,h,a,this]
 ·simp[j8,jo,z9,qD,MV,ef.has,h]
theorem wG{N:Nat}{A:Nat->ef}(z : ∀j,j<N->(A j).s+(A j).n<=100)(I:N<=lim)(r:Nat) :
 xu [.lst ((MO N).map λj=>qD wd<|A j),.int r]=bQ (.own<|((MO N).filter λj=>(A j).has r).map λj=>D.tup<|zB (wd r)<|(A j).v r):=by
 simp only[xu,jo,z9,iJ,j7,Zu,xD,Nt,SN,NW,Pc,MV,Rt,TR,RQ,NL,wI,jj,OA,MW,Nf,Nu,I,if_true];rw[jh (λj=>(A j).has r) (λj=>D.tup<|zB (wd r)<|(A j).v r) (MO N) λj O=>⟨_,rfl,?_,λd=>?_⟩]
 ·rfl
 ·have e:=yU (wd:=wd) (z j<|MR.mp O) r
  simp[jn,e]
 ·obtain⟨b,h⟩:=il.mp d
  obtain⟨i,rfl⟩:=Nat.exists_eq_add_of_le b;have a:i<(A j).n:=by omega
  have g:(((A j).s+i:Nat):Int) - ((A j).s:Int)=(i:Int):=by omega
  have U:=ai (wd:=wd) a;have I:=jg;have f:=z j<|MR.mp O;simp[jn,qD,a,U];rw[show((A j).s:Int)+(i:Int) - ((A j).s:Int)=(i:Int)by omega,j6,UJ a];exact U
theorem ZS(g:Nat->Vc)(z:q<=lim)(I:h<=lim):k5 [.int h,.lst (jc q h g)]=bQ (.val<|qN h q λi j=>g j i):=by have e:=vK (h:=q) (w:=h) g z I;unfold qN at e;simp[k5,jo,z9,MV,z,e];rfl
theorem ah(h:Nat)(u:Nat->Vc)(L:List Nat):(L.map λj=>D.tup<|zB h<|u j)=jc L.length h λi=>u (L.getD i 0):=by
 unfold jc
 conv=>lhs;rw[<- jt 0 L]
 rw[NB];rfl
theorem nC(u:Nat->Int)(L:List Nat):(L.map λj=>D.int<|u j)=zB L.length λi=>u (L.getD i 0):=by
 unfold zB
 conv=>lhs;rw[<- jt 0 L]
 rw[NB];rfl
theorem vM(P:UK)(g:Nat->Int) : ∀N,zg (λi=>g<|((MO N).filter P).getD i 0) ((MO N).filter P).length=zg (λj=>if P j=bX then g j else 0) N
 | 0=>rfl
 | N+1=>by
  have z:=vM P g N;rw[NT,Rq];show _=zg _ N+_;rw[<- z];cases hP:P N with
  | false=>simp[hP]
  | true=>
   have e:([N].filter P)=[N]:=by simp[hP]
   rw[e,NO,RG];show zg _ _+_=_;simp only[if_true];congr 1
   ·refine zw λi a=>?_
    simp[MU,Dk a]
   ·simp[MU,hP]
end
section
variable{wd:UX}{N m:Nat}{A:Nat->ef}{p:Int}{w:UK}{T:UW}{t:Vc}
theorem lD:Jg (zB N t) ((MO N).map λj=>qD wd<|A j)=(MO N).map λj=>D.tup [.int (t j),qD wd (A j)]:=by
 unfold Jg zB;rw[List.zip_map,NB];have e:(MO N).zip (MO N)=(MO N).map λi=>(i,i):=by rw[List.zip_eq_zipWith,List.zipWith_self]
 rw[e,NB];rfl
theorem Ku(U:Pr p)(C : ∀j,j<N->(A j).s+(A j).n<=100)(Y:N<=60)(Z:m<=5)(J : ∀k,wd k<=60)(hr:r<=m)(S : ∀j i,j<N->(A j).has r=bX->i<wd r->0<=(A j).v r i/\(A j).v r i<p) :
 yl [qO p m w wd T,.lst<|(MO N).map λj=>qD wd<|A j,.tup<|zB N t,.int r]=bQ (.val<|.tup<|zB (wd r)<|nf p A N t r):=by
 have E:=jg;have G:=U.le;have B:=J r;have a:=wG (wd:=wd) C (show N<=lim by omega) r;rw[ah (wd r) (λj=>(A j).v r)]at a;have F:((MO N).filter λj=>(A j).has r).length<=N:=by have:=SO (λj=>(A j).has r)<|MO N;simpa using this
 have g:=ZS (q:=((MO N).filter λj=>(A j).has r).length) (h:=wd r) (λi=>(A<|((MO N).filter λj=>(A j).has r).getD i 0).v r) ⋯ ⋯;have I:=K4 (p:=p) (h:=wd r) (w:=((MO N).filter λj=>(A j).has r).length) .L (λi j=>(A<|((MO N).filter λj=>(A j).has r).getD j 0).v r i) (λi=>t<|((MO N).filter λj=>(A j).has r).getD i 0) U.pos ⋯ ⋯ (λi j y O=>by
  have b:((MO N).filter λj=>(A j).has r).getD j 0∈(MO N).filter λj=>(A j).has r:=by rw[MU,MS O];exact Od _
  obtain⟨u,x⟩:=Nd.mp b;have:=S _ i (MR.mp u) (by simpa using x) y;omega)
 have l:(zB (wd r) λi=>zg (λj=>(A<|((MO N).filter λj=>(A j).has r).getD j 0).v r i*t (((MO N).filter λj=>(A j).has r).getD j 0)) ((MO N).filter λj=>(A j).has r).length%p)=zB (wd r) (nf p A N t r):=Zo λi _=>by unfold nf;rw[vM (λj=>(A j).has r) (λj=>(A j).v r i*t j) N];congr 1;refine zw λj _=>?_;rw[Om]
 rw[l]at I;have o:zX (.tp [0,1]) (sB<|zE j8<|zb (zf 1)<|zb (zf 2) zI) (zf 0) [.no,.no,.val (.int r)] ((MO N).map λj=>D.tup [.int (t j),qD wd (A j)])=bQ (zB ((MO N).filter λj=>(A j).has r).length λi=>t<|((MO N).filter λj=>(A j).has r).getD i 0):=by rw[<- nC];refine jh (λj=>(A j).has r) (λj=>D.int<|t j) _ λj O=>⟨_,rfl,?_,λ_=>rfl⟩;have e:=yU (wd:=wd) (C j<|MR.mp O) r;simp[e]
 have d:r<m+1:=by omega
 have z:=lD (N:=N) (wd:=wd) (t:=t) (A:=A);simp only[o9]at I;have f:N<=lim:=by omega
 refine je<|zv (γ':=[.val (qO p m w wd T),.val<|.lst<|(MO N).map λj=>qD wd<|A j,.val<|.tup<|zB N t,.val<|.int r,.val (.lst<|zB ((MO N).filter λj=>(A j).has r).length λi=>t<|((MO N).filter λj=>(A j).has r).getD i 0)]) ?_ ?_
 ·simp[-MU,z9,jn,MV,z,o,f]
 ·simp[-MU,qO,a,g,I,d]
theorem nA(U:Pr p)(I : ∀j,j<N->(A j).s+(A j).n<=m+1)(L:N<=60)(S:m<=5)(J : ∀k,wd k<=60)(Y : ∀j r i,j<N->(A j).has r=bX->i<wd r->0<=(A j).v r i/\(A j).v r i<p)(C:a<N)(Z : ∀i,i<a->t i=0)(t1:t a≠0) :
 K0 [qO p m w wd T,.lst<|(MO N).map λj=>qD wd<|A j,.tup (zB N t)]=bQ (.val<|qD wd<|DP p A N t a):=by
 have E:=jg;have f:N<=lim:=by omega
 have h:=vL f t C Z t1;have B:=I a C;have l:zX (.nm 0) jz (zE yl<|zb (zf 1)<|zb (zf 2)<|zb (zf 3)<|zb (zK qu (cq (zh 4)<|zy<|.int 0)<|zf 0) zI) [.no,.val<|qO p m w wd T,.val<|.lst<|(MO N).map λj=>qD wd<|A j,.val<|.tup<|zB N t,.val (qD wd<|A a)] ((MO (A a).n).map λ(i:Nat)=>D.int i)=bQ (yc wd<|DP p A N t a):=by
  unfold yc;refine zC _ _ λi b=>zD rfl rfl ?_;have b:=MR.mp b;have e:=Ku (T:=T) (w:=w) (t:=t) U (λj z=>by have:=I j z;omega) L S J (r:=(A a).s+i) (by have:i<(A a).n:=b;omega) λj c z x u=>Y j _ c z x u;have o:(((A a).s+i:Nat):Int)=((A a).s:Int)+(i:Int):=by omega
  rw[o]at e;have F:inR (((A a).s:Int)+(i:Int))=bX:=decide_eq_true (by have:i<(A a).n:=b;omega);simp[e];rfl
 have d:(A a).n<=lim:=by omega
 have y:inR ((A a).n:Int)=bX:=decide_eq_true ⋯;refine je<|zv (γ':=[.val (qO p m w wd T),.val<|.lst<|(MO N).map λj=>qD wd<|A j,.val<|.tup<|zB N t,.val<|qD wd<|A a,.no]) ?_ (zv (γ':=[.val (qO p m w wd T),.val<|.lst<|(MO N).map λj=>qD wd<|A j,.val<|.tup<|zB N t,.val<|qD wd<|A a,.val (.lst<|yc wd<|DP p A N t a)]) ?_ ?_)
 ·simp[z9,MV,h,C]
 ·have O:=l
  rw[show((MO (A a).n).map λ(i:Nat)=>D.int i)=zB (A a).n λi=>(i:Int)from rfl]at O;simp[jn,j9,y,d,O]
 ·have g:(DP p A N t a).n<=lim:=d
  simp[cc,g];rfl
end
section
variable{wd:UX}{N m k r:Nat}{A:Nat->ef}{p:Int}{w:UK}{T:UW}{B:Nat->Vc}{l:UX}
theorem aA(l:UX)(g:Nat->D)(i:Nat) : ∀(L:List Nat),aB (L.map λj=>D.int ((l j:Nat):Int)) (L.map g) (i:Int)=(L.find? λj=>l j==i).map g
 | []=>rfl
 | j::L=>by
  have z:=aA l g i L;simp only[Nt,aB,Po];by_cases h:l j=i
  ·simp[h]
  ·have a : ¬((l j:Nat):Int)=(i:Int):=by omega
   rw[UY a,z];have:(l j==i)=cE:=by simpa using h
   rw[this]
theorem Y7(l:UX) : ∀L:List Nat,Xg (L.map λj=>D.int ((l j:Nat):Int))=bQ (L.map λj=>((l j:Nat):Int))
 | []=>rfl
 | j::L=>by simp[Xg,Y7 l L]
theorem cg(z:f7 p N r B l)(I:r<=lim):nZ ((MO r).map λj=>D.int ((l j:Nat):Int)) ((MO r).map λj=>D.tup<|zB N<|B j)=bQ (.i8 ((MO r).map λj=>D.int ((l j:Nat):Int))<|(MO r).map λj=>D.tup<|zB N<|B j):=by unfold nZ;rw[Y7];dsimp only;rw[UJ];refine⟨by simp,?_,by simpa using I⟩;rw[List.nodup_iff_pairwise_ne,RB];refine RM (λ{a b} d O h=>?_)<|RA (n:=r);have:=z.mono a b h<|MR.mp O;omega
theorem Yb(f g:Nat->D) : ∀L:List Nat,wM (L.map λj=>D.tup [f j,g j])=bQ (L.map f,L.map g)
 | []=>rfl
 | j::L=>by simp[wM,Yb f g L]
theorem QL(h:k<(yG m w wd T).length):(yG m w wd T)[k]=Zy w wd T k:=by simp[yG]
theorem yH(w wd T k):jj (Zy w wd T k)=bQ (.T,[.str (vN<|ij<|w k),qN (eh w wd k) (d8 w wd k) (T k)]):=rfl
theorem We:yV ((MO N).map λj=>qD wd<|A j)=(MO N).map λ(i:Nat)=>D.tup [.int i,qD wd (A i)]:=by unfold yV;simp only[Nf,Nu];refine Nj λi a=>?_;have a:=MR.mp a;simp[a]
noncomputable def Ai(p:Int)(w:UK)(wd:UX)(T:UW)(k:Nat)(u:Vc):Prop:=if w k=bX then Span p (wd k) (dr (wd<|k+1) λj i=>T k i j) u else Di p (wd<|k+1) (wd k) (T k) u
theorem bo(O:Pr p)(U : ∀k,wd k<=8)(w)(T)(k:Nat) : ∃q g,q<=100/\(∀u,Span p (wd k) (dr q g) u↔Ai p w wd T k u)/\
 (if w k=bX then ZU [.int p,qN (eh w wd k) (d8 w wd k) (T k)]=bQ (.own<|jc q (wd k) g)else vY [.int p,qN (eh w wd k) (d8 w wd k) (T k)]=bQ (.own<|jc q (wd k) g)):=by
 have o:=jg;have i:=U k;have m:=U<|k+1;have d : ∀{r n:Nat} {B:Nat->Vc} {l:UX},f7 p n r B l->r<=n:=λ{r n B l} z=>by
  have mono : ∀k,k<r->k<=l k:=by
   intro k
   induction k with
   | zero=>intro _;omega
   | succ k j=>intro i;have:=j ⋯;have:=z.mono k (k+1) ⋯ i;omega
  cases r with
  | zero=>omega
  | succ f=>have:=mono f ⋯;have:=z.lt f ⋯;omega
 cases hw:w k with
 | true=>
  have a:eh w wd k=wd k:=by unfold eh;rw[hw];rfl
  have I:d8 w wd k=wd (k+1):=by unfold d8;rw[hw];rfl
  obtain⟨r,B,l,e,z,b⟩:=XW O (h:=wd k) (w:=wd<|k+1) ⋯ ⋯<|T k;refine⟨r,B,by have:=d z;omega,λu=>by unfold Ai;rw[hw,UJ rfl];exact b u,?_⟩;rw[UJ rfl,a,I];exact e
 | false=>
  have a:eh w wd k=wd (k+1):=by unfold eh;rw[hw];rfl
  have I:d8 w wd k=wd k:=by unfold d8;rw[hw];rfl
  obtain⟨q,K,l,s,e,z,b,_⟩:=yY O (h:=wd<|k+1) (w:=wd k) ⋯ ⋯<|T k;refine⟨q,K,by have:=d z;omega,λu=>by unfold Ai;rw[hw,UY ⋯];exact b u,?_⟩;rw[UY ⋯,a,I];exact e
theorem VG:Zw=jo 8 (zR S3<|zR S4<|zR M5<|zR S5<|zR S6 S7):=rfl
theorem bt(S:Pr p)(Z : ∀j,j<N->(A j).s+(A j).n<=m+1)(J : ∀j,j<N->(A j).has k=bX)(Y:k<m)(hN:N<=8)(hm:m<=5)(C : ∀k,wd k<=8)(hv : ∀j r i,j<N->(A j).has r=bX->i<wd r->0<=(A j).v r i/\(A j).v r i<p) :
 ∃r B l,f7 p N r B l/\(∀t,Span p N (dr r B) t↔Ai p w wd T k (app (λi j=>(A j).v k i) N t))/\
  Zw [qO p m w wd T,.int k,.lst ((MO N).map λj=>qD wd<|A j)]=bQ (.own<|(MO N).map λi=>qD wd<|gh p A N r B l i):=by
 have hl:=jg;obtain⟨q,g,hq,E,U⟩:=bo S C w T k;have bb:=C k;obtain⟨r,B,l,H,z,hs⟩:=K3 S (h:=wd k) (w:=N) (q:=q) ⋯ ⋯ hq (λi j=>(A j).v k i) g;refine⟨r,B,l,z,λt=>(hs t).trans (E _),?_⟩;have d:N<=lim:=by omega
 have F:k<m+1:=by omega
 have rN:r<=N:=by
  have mono : ∀k,k<r->k<=l k:=by
   intro k
   induction k with
   | zero=>intro _;omega
   | succ k ih=>intro J;have:=ih ⋯;have:=z.mono k (k+1) ⋯ J;omega
  cases r with
  | zero=>omega
  | succ o=>have:=mono o ⋯;have:=z.lt o ⋯;omega
 have u:r<=lim:=by omega
 have x:=wG (wd:=wd) (A:=A) (N:=N) (λj I=>by have:=Z j I;omega) d k;have W:((MO N).filter λj=>(A j).has k)=MO N:=List.filter_eq_self.mpr λj I=>J j<|MR.mp I;rw[W]at x;have K:=ZS (q:=N) (h:=wd k) (λj=>(A j).v k) d ⋯;have as:xu [.lst ((MO N).map λj=>qD wd<|A j),.int k]=bQ (.own<|jc N (wd k) λj=>(A j).v k):=x;have M:zX (.nm 0) jz (xH<|zb (zE xh<|zb (zf 0) zI)<|zb (zf 0) zI) [.no] (jc r N B)=bQ ((MO r).map λj=>D.tup [.int ((l j:Nat):Int),.tup (zB N<|B j)]):=by unfold jc;refine zC _ _ λj I=>zD rfl rfl ?_;have I:=MR.mp I;have e:=vL d (B j) (z.lt j I) (λi b=>z.k0 j i I b) (by rw[z.one j I];decide);simp[e]
 have P:=cg z u;have Q:=Yb (λj=>D.int ((l j:Nat):Int)) (λj=>D.tup<|zB N<|B j)<|MO r;let f:D:= .i8 ((MO r).map λj=>D.int ((l j:Nat):Int)) ((MO r).map λj=>D.tup<|zB N<|B j);let L:D:= .lst ((MO N).map λj=>qD wd<|A j);have R:zX (.tp [0,1]) jz (dU (sB<|Bl (zf 0)<|zf 4) (zE K0<|zb (zf 2)<|zb (zf 3)<|zb (EY (zf 4)<|zf 0) zI)<|zf 1) [.no,.no,.val<|qO p m w wd T,.val L,.val f] ((MO N).map λ(i:Nat)=>D.tup [.int i,qD wd (A i)])=bQ ((MO N).map λi=>qD wd<|gh p A N r B l i):=by
  refine zC _ _ λi b=>zD rfl rfl ?_;have b:=MR.mp b;have O:=aA l (λj=>D.tup<|zB N<|B j) i<|MO r;have G:(MO r).find? (λj=>l j==i)=kv r l i:=rfl;rw[G]at O;unfold gh;cases hx:kv r l i with
  | none=>
   rw[hx]at O;simp[f,Bl,O]
  | some j=>
   rw[hx]at O;obtain⟨y,X⟩:=xW hx;have e:=nA (T:=T) (w:=w) (t:=B j) S Z ⋯ hm (λk=>by have:=C k;omega) hv (a:=i) b (λc hc=>z.k0 j c y ⋯) (by rw[<- X,z.one j y];decide);simp[f,Bl,EY,O,L,e]
 rw[VG];refine je (zv (γ':=[.val (qO p m w wd T),.val<|.int k,.val L,.val<|.str<|vN<|ij<|w k,.no,.no,.no,.no]) ?_
  (zv (γ':=[.val (qO p m w wd T),.val<|.int k,.val L,.val<|.str<|vN<|ij<|w k,.val<|qN (eh w wd k) (d8 w wd k)<|T k,.no,.no,.no]) ?_
  (zv (γ':=[.val (qO p m w wd T),.val<|.int k,.val L,.val<|.str<|vN<|ij<|w k,.val<|qN (eh w wd k) (d8 w wd k)<|T k,.val<|.lst<|jc q (wd k) g,.no,.no]) ?_
  (zv (γ':=[.val (qO p m w wd T),.val<|.int k,.val L,.val<|.str<|vN<|ij<|w k,.val<|qN (eh w wd k) (d8 w wd k)<|T k,.val<|.lst<|jc q (wd k) g,.val<|.lst<|jc r N B,.no]) ?_
  (zv (γ':=[.val (qO p m w wd T),.val<|.int k,.val L,.val<|.str<|vN<|ij<|w k,.val<|qN (eh w wd k) (d8 w wd k)<|T k,.val<|.lst<|jc q (wd k) g,.val<|.lst<|jc r N B,.val f]) ?_ ?_)))))
 ·simp[S3,z9,MV,vj,yH,QL,Y];rfl
 ·simp[S4,vj,yH,QL,Y]
 ·cases hw:w k with
  | true=>
   rw[hw,UJ rfl]at U;have eq:=KI bX;simp[M5,vj,eq,U]
  | false=>
   rw[hw,UY ⋯]at U;have eq:=KI cE;simp[M5,vj,eq,U]
 ·simp[S5,vj,F,L,as,K,H]
 ·simp[S6,jn,M,u,Q,P];rfl
 ·simp[S7,jn,L,We,d,R]
end
noncomputable def oD(n:Nat):Option Vc->D
 | none=> .d7
 | some y=> .tup (zB n y)
theorem bq(U:Pr p)(C:h<=90)(J:w<=90)(f:UV)(b:Vc)(O : ∀i,i<h->0<=b i/\b i<p) :
 ∃o:Option Vc,vW [.int p,qN h w f,.tup (zB h b)]=bQ (.val<|oD w o)/\(∀x,o=bQ x->(∀j,0<=x j/\x j<p)/\∀i,i<h->app f w x i%p=b i%p)/\(o=none->¬∃y:Vc,∀i,i<h->app f w y i%p=b i%p):=by
 have n : ∀i,i<h->b i%p=b i:=λi a=>Nz (O i a).1 (O i a).2;by_cases I : ∃y:Vc,∀i,i<h->app f w y i%p=b i%p
 ·obtain⟨y,I⟩:=I
  obtain⟨x,e,L,M⟩:=lX U C J f b y O λi a=>by rw[<- n i a,<- I i a];rfl
  refine⟨bQ x,e,λS H=>?_,λz=>by cases z⟩;cases H;exact⟨L,λi a=>by rw[n i a];exact M i a⟩
 ·obtain⟨r,B,l,s,N,E,Q,A,R,d⟩:=QQ U C J f b
  have m:s<r:=by
   refine Oo λm=>I ?_;have K:s=r:=by omega
   subst K;refine⟨Wv w B l s,λi a=>?_⟩;have t:=Jk N ((E<|aug w f b i).mpr (.gen ⟨i,a,rfl⟩)) w ⋯;have F:aug w f b i w=b i:=by simp[aug]
   rw[F]at t;rw[t];congr 1;unfold app Wv;rw[zw (g:=λj=>zg (λk=>f i j*(if l k=j then B k w else 0)) s) λj _=>(ja _ _ _).symm,jT];refine zw λk u=>?_;rw[zN (i:=l k) (A k u) λj P G=>by rw[UY (Oa G)];simp,UJ rfl];simp only[aug,UJ (A k u)]
  rw[UJ m]at d;exact⟨none,d,nofun,λ_=>I⟩
section
variable{wd:UX}{m k:Nat}{p:Int}{w:UK}{T:UW}
theorem nq:xR=jo 4 (zR DQ<|zR L8 L9):=rfl
theorem KJ(b:Bool):gm (.str (vN (ij b))) (.str "l")=bQ (.bl b):=by cases b<;>kernel_rfl
theorem YS(I:Pr p)(C : ∀k,wd k<=8)(J : ∀i j,i<eh w wd k->j<d8 w wd k->0<=T k i j/\T k i j<p)(u:Vc)(L : ∀i,i<wd k->0<=u i/\u i<p) :
 ∃o:Option Vc,xR [.int p,Zy w wd T k,.tup (zB (wd k) u)]=bQ (.val<|oD (wd<|k+1) o)/\(∀y,o=bQ y->∀c,c<wd (k+1)->0<=y c/\y c<p)/\
  (w k=cE->(o=none->∀c,c<wd (k+1)->app (T k) (wd k) u c%p=0)/\∀y,o=bQ y->(∀c,c<wd (k+1)->app (T k) (wd k) u c%p=y c%p)/\∃c,c<wd (k+1)/\y c%p≠0)/\
  (w k=bX->(o=none->¬∃y:Vc,∀c,c<wd k->app (T k) (wd<|k+1) y c%p=u c%p)/\∀y,o=bQ y->∀c,c<wd k->app (T k) (wd<|k+1) y c%p=u c%p):=by
 have G:=jg;have H:=I.le;have F:=C k;have E:=C<|k+1;rw[nq];cases hw:w k with
 | true=>
  have b:eh w wd k=wd k:=by unfold eh;rw[hw];rfl
  have O:d8 w wd k=wd (k+1):=by unfold d8;rw[hw];rfl
  obtain⟨o,t,a,d⟩:=bq I (h:=wd k) (w:=wd<|k+1) ⋯ ⋯ (T k) u L;refine⟨o,?_,λy e c _=>(a y e).1 c,nofun,λ_=>⟨d,λy e=>(a y e).2⟩⟩;refine je ?_;have U:=KJ bX;have x:DQ (z9 4 [.int p,Zy w wd T k,.tup (zB (wd k) u)])=bQ (.ret<|.val<|oD (wd<|k+1) o):=by simp[DQ,z9,MV,yH,hw,U,b,O,t]
  rw[jI,x];rfl
 | false=>
  have b:eh w wd k=wd (k+1):=by unfold eh;rw[hw];rfl
  have O:d8 w wd k=wd k:=by unfold d8;rw[hw];rfl
  rw[b,O]at J;have l:=K4 (p:=p) (h:=wd<|k+1) (w:=wd k) .T (T k) u I.pos ⋯ ⋯ λi j A B=>by have:=J i j A B;omega
  simp only[o9]at l;have U:=KJ cE;have r:=WI (λi=>zg (λj=>T k i j*u j) (wd k)%p)<|wd<|k+1;by_cases f : ∃c,c<wd (k+1)/\zg (λj=>T k c j*u j) (wd k)%p≠0
  ·refine⟨bQ λi=>zg (λj=>T k i j*u j) (wd k)%p,?_,(λy e c _=>by cases e;exact⟨NM _ (by have:=I.pos;omega),Nx _ I.pos⟩),λ_=>⟨nofun,(λy e=>by cases e;exact⟨(λc _=>by rw[NP];rfl),(by obtain⟨c,a,d⟩:=f;exact⟨c,a,(by rw[NP];exact d)⟩)⟩)⟩,nofun⟩
   refine je<|zv (γ':=[.val (.int p),.val<|Zy w wd T k,.val<|.tup<|zB (wd k) u,.no]) ?_ (zv (γ':=[.val (.int p),.val<|Zy w wd T k,.val<|.tup<|zB (wd k) u,.val (.tup<|zB (wd<|k+1) λi=>zg (λj=>T k i j*u j) (wd k)%p)]) ?_ ?_)
   ·simp[DQ,z9,MV,yH,hw,U]
   ·simp[L8,yH,b,O,l]
   ·have g:(MO<|wd<|k+1).any (λi=>(zg (λj=>T k i j*u j) (wd k)%p) != 0)=bX:=by
     obtain⟨c,a,d⟩:=f;exact TU.mpr ⟨c,MR.mpr a,by simpa using d⟩
    have m:An (zh 3) [.val (.int p),.val<|Zy w wd T k,.val<|.tup<|zB (wd k) u,.val (.tup<|zB (wd<|k+1) λi=>zg (λj=>T k i j*u j) (wd k)%p)]=bQ (.bl bX):=by show((JF _).map λs=>D.bl<|s.any id)=_;rw[r];show bQ (D.bl<|((MO<|wd<|k+1).map λi=>(zg (λj=>T k i j*u j) (wd k)%p) != 0).any id)=_;rw[List.any_map];rw[show(id∘λi=>(zg (λj=>T k i j*u j) (wd k)%p) != 0)=λi=>(zg (λj=>T k i j*u j) (wd k)%p) != 0 from rfl,g]
    unfold L9;simp only[Ja,pT,pV,m];rfl
  ·refine⟨none,?_,nofun,λ_=>⟨λ_ c n=>Oo λz=>f ⟨c,n,z⟩,nofun⟩,nofun⟩
   refine je<|zv (γ':=[.val (.int p),.val<|Zy w wd T k,.val<|.tup<|zB (wd k) u,.no]) ?_ (zv (γ':=[.val (.int p),.val<|Zy w wd T k,.val<|.tup<|zB (wd k) u,.val (.tup<|zB (wd<|k+1) λi=>zg (λj=>T k i j*u j) (wd k)%p)]) ?_ ?_)
   ·simp[DQ,z9,MV,yH,hw,U]
   ·simp[L8,yH,b,O,l]
   ·have g:(MO<|wd<|k+1).any (λi=>(zg (λj=>T k i j*u j) (wd k)%p) != 0)=cE:=List.any_eq_false.mpr λc n z=>f ⟨c,MR.mp n,by simpa using z⟩
    have m:An (zh 3) [.val (.int p),.val<|Zy w wd T k,.val<|.tup<|zB (wd k) u,.val (.tup<|zB (wd<|k+1) λi=>zg (λj=>T k i j*u j) (wd k)%p)]=bQ (.bl cE):=by show((JF _).map λs=>D.bl<|s.any id)=_;rw[r];show bQ (D.bl<|((MO<|wd<|k+1).map λi=>(zg (λj=>T k i j*u j) (wd k)%p) != 0).any id)=_;rw[List.any_map];rw[show(id∘λi=>(zg (λj=>T k i j*u j) (wd k)%p) != 0)=λi=>(zg (λj=>T k i j*u j) (wd k)%p) != 0 from rfl,g]
    unfold L9;simp only[Ja,pT,pV,m];rfl
end
section
variable{wd:UX}{m k:Nat}{p:Int}{w:UK}{T:UW}
theorem nK(h:1<=n):ec n (-1)=bQ (n - 1):=by unfold ec;rw[UY ⋯,UJ ⋯];congr 1;omega
theorem fW(z:b.s+b.n=k+1)(y:Vc):yc wd (i6 k b<|some y)=yc wd b++[D.tup (zB (wd<|k+1) y)]:=by
 unfold yc i6;dsimp only;rw[NT,NF];congr 1
 ·refine Nj λi a=>?_
  have a:=MR.mp a;rw[UY ⋯]
 ·simp[z]
theorem dm:yJ=jo 4 (zR T3 M9):=rfl
theorem lP(C:1<=b.n)(I:b.s+b.n=k+1)(J:k<=20)(e:xR [.int p,Zy w wd T k,.tup (zB (wd k)<|b.v k)]=bQ (.val<|oD (wd<|k+1) o)) :
 yJ [.int p,Zy w wd T k,qD wd b]=bQ (.val<|qD wd<|i6 k b o):=by
 have j:=jg;have O:=nK C;have z:=ai (wd:=wd) (b:=b) (i:=b.n - 1) ⋯;rw[show b.s+(b.n - 1)=k by omega]at z;have h:b.n - 1<b.n:=by omega
 rw[dm];refine je<|zv (γ':=[.val (.int p),.val<|Zy w wd T k,.val<|qD wd b,.val (oD (wd<|k+1) o)]) ?_ ?_
 ·unfold T3
  have d:cq (zG<|cq (zh 2)<|zy<|.int 1) (dR<|zy<|.int 1) (z9 4 [.int p,Zy w wd T k,qD wd b])=bQ (.tup<|zB (wd k)<|b.v k):=by have U : ∀g:Ctx,dR (zy<|.int 1) g=bQ (.int (-1)):=λ_=>rfl;simp[z9,MV,O,U];exact z
  simp only[yf,iN,jx,Vw,d];simp[z9,MV,e]
 ·cases o with
  | none=>simp[M9,oD,El,i6]
  | some y=>
   have f:b.n+1<=lim:=by omega
   have a:=fW (wd:=wd) I y;simp[M9,oD,El,f,qu];unfold qD;rw[a];rfl
noncomputable def iU(p:Int)(w:UK)(wd:UX)(T:UW)(k:Nat)(L:List Vc):Prop:=
 if w k=bX then ∃q K l s,L=(MO q).map K/\f7 p (wd<|k+1) q K l/\(∀v,Span p (wd<|k+1) (dr q K) v↔Di p (wd k) (wd<|k+1) (T k) v)/\Rk p (wd k) (wd<|k+1) (λj i=>T k i j) s/\q+s=wd (k+1)
 else ∃r B l,f7 p (wd<|k+1) r B l/\(∀v,Span p (wd<|k+1) (dr r B) v↔Span p (wd<|k+1) (dr (wd k) λj i=>T k i j) v)/\L=((MO<|wd<|k+1).filter λ(c:Nat)=> !decide ((c:Int)∈(MO r).map λj=>((l j:Nat):Int))).map jD
theorem uj:yX=jo 3 (zR F0<|zR R8 R9):=rfl
theorem XI(l:UX) : ∀L:List Nat,wc (L.map λj=>D.int ((l j:Nat):Int))=bQ (L.map λj=>((l j:Nat):Int))
 | []=>rfl
 | j::L=>by simp[wc,XI l L]
theorem VI(z:f7 p n r B l):r<=n:=by
 have mono : ∀k,k<r->k<=l k:=by
  intro k
  induction k with
  | zero=>intro _;omega
  | succ k O=>intro U;have:=O ⋯;have:=z.mono k (k+1) ⋯ U;omega
 cases r with
 | zero=>omega
 | succ I=>have:=mono I ⋯;have:=z.lt I ⋯;omega
theorem gL(n:Nat):yV (jc n n λi j=>if i=j then 1 else 0)=(MO n).map λ(i:Nat)=>D.tup [.int i,.tup (zB n<|jD i)]:=by unfold yV jc;simp only[Nf,Nu];refine Nj λi a=>?_;have a:=MR.mp a;simp[a];rfl
theorem YT(J:Pr p)(C : ∀k,wd k<=8) : ∃L:List Vc,iU p w wd T k L/\yX [.int p,Zy w wd T k]=bQ (.own<|L.map λy=>D.tup<|zB (wd<|k+1) y):=by
 have M:=jg;have H:=C k;have as:=C<|k+1;rw[uj];unfold iU;cases hw:w k with
 | true=>
  have a:eh w wd k=wd k:=by unfold eh;rw[hw];rfl
  have O:d8 w wd k=wd (k+1):=by unfold d8;rw[hw];rfl
  obtain⟨q,K,l,s,e,z,f,F,u⟩:=yY J (h:=wd k) (w:=wd<|k+1) ⋯ ⋯<|T k;refine⟨(MO q).map K,by rw[UJ rfl];exact⟨q,K,l,s,rfl,z,f,F,u⟩,je ?_⟩;have U:=KJ bX;have d:F0 (z9 3 [.int p,Zy w wd T k])=bQ (.ret<|.own<|jc q (wd<|k+1) K):=by simp[F0,z9,MV,yH,hw,U,a,O,e]
  rw[jI,d,NB];rfl
 | false=>
  have a:eh w wd k=wd (k+1):=by unfold eh;rw[hw];rfl
  have O:d8 w wd k=wd k:=by unfold d8;rw[hw];rfl
  obtain⟨r,B,l,e,z,f⟩:=XW J (h:=wd<|k+1) (w:=wd k) ⋯ ⋯<|T k;have N:=VI z;have x:r<=lim:=by omega
  have b:wd (k+1)<=lim:=by omega
  refine⟨_,by rw[UY ⋯];exact⟨r,B,l,z,f,rfl⟩,?_⟩;have U:=KJ cE;have A:zX (.nm 0) jz (zE xh<|zb (zf 0) zI) [.no] (jc r (wd<|k+1) B)=bQ ((MO r).map λj=>D.int ((l j:Nat):Int)):=by unfold jc;refine zC _ _ λj I=>zD rfl rfl ?_;have I:=MR.mp I;have e:=vL b (B j) (z.lt j I) (λi g=>z.k0 j i I g) (by rw[z.one j I];decide);simp[e]
  have E:zX (.tp [0,1]) (sB<|yK (zf 0)<|zh 2) (zf 1) [.no,.no,.val (.lst<|(MO r).map λj=>D.int ((l j:Nat):Int))] ((MO<|wd<|k+1).map λ(i:Nat)=>D.tup [.int i,.tup (zB (wd<|k+1)<|jD i)]) =
   bQ (((MO<|wd<|k+1).filter λ(c:Nat)=> !decide ((c:Int)∈(MO r).map λj=>((l j:Nat):Int))).map λ(i:Nat)=>D.tup<|zB (wd<|k+1)<|jD i):=by
   refine jh (λ(c:Nat)=> !decide ((c:Int)∈(MO r).map λj=>((l j:Nat):Int))) (λ(i:Nat)=>D.tup<|zB (wd<|k+1)<|jD i) _ λi g=>⟨_,rfl,?_,λ_=>rfl⟩;have G:=XI l<|MO r;show(yK (zf 0) (zh 2) [.val (.int i),_,.val (.lst<|(MO r).map λj=>D.int ((l j:Nat):Int))]).bind nz=_;show((wc<|(MO r).map λj=>D.int ((l j:Nat):Int)).map λl=>D.bl<|!decide ((i:Int)∈l)).bind nz=_;rw[G];rfl
  have d:=vJ (n:=wd<|k+1) b;refine je<|zv (γ':=[.val (.int p),.val<|Zy w wd T k,.no]) ?_ (zv (γ':=[.val (.int p),.val<|Zy w wd T k,.val (.lst<|(MO r).map λj=>D.int ((l j:Nat):Int))]) ?_ ?_)
  ·simp[F0,z9,MV,yH,hw,U]
  ·simp[R8,jn,yH,a,O,e,x,A]
  ·have m:jj (qN (eh w wd k) (d8 w wd k)<|T k)=bQ (.T,[.int (wd (k+1):Nat),.int (wd k:Nat),.tup (jc (wd<|k+1) (wd k)<|T k)]):=by rw[a,O];rfl
   have o:jj (qN (wd<|k+1) (wd<|k+1) λi j=>if i=j then 1 else 0)=bQ (.T,[.int (wd (k+1):Nat),.int (wd (k+1):Nat),.tup (jc (wd<|k+1) (wd<|k+1) λi j=>if i=j then 1 else 0)]):=rfl;have t:=gL<|wd<|k+1;simp[R9,jn,yH,m,d,o,t,b];rw[E];exact congrArg bQ (congrArg (List.map _)<|TK λc _=>by simp)
end
section
variable{wd:UX}{m k r N:Nat}{p:Int}{w:UK}{T:UW}{B:Nat->Vc}{l:UX}{A:Nat->ef}
theorem pA(I:f7 p N r B l){j:Nat}(z:j<r):kv r l (l j)=bQ j:=by
 cases h:kv r l (l j)with
 | none=>exact absurd rfl<|Jr h j z
 | some i=>
  obtain⟨a,b⟩:=xW h;rw[af I.mono a z b]
theorem V6{a b:List Nat}(C:a.Nodup)(z:b.Nodup)(h : ∀x,x∈a↔x∈b):a.length=b.length:=((List.perm_ext_iff_of_nodup C z).mpr h).length_eq
theorem KO(z:f7 p N r B l):(MO N).countP (λi=>(kv r l i).isSome)=r:=by
 rw[NJ];have e:((MO N).filter λi=>(kv r l i).isSome).length=((MO r).map l).length:=by
  refine V6 (Rh.sublist RU) ?_ λx=>?_
  ·rw[List.nodup_iff_pairwise_ne,RB]
   refine RM (λ{a b} k I h=>?_)<|RA (n:=r);have:=z.mono a b h<|MR.mp I;omega
  ·rw[Nd,Nq]
   constructor
   ·rintro⟨d,f⟩
    obtain⟨j,O⟩:=OV.mp f;obtain⟨U,g⟩:=xW O;exact⟨j,MR.mpr U,g⟩
   ·rintro⟨j,d,f⟩
    have d:=MR.mp d;subst f;exact⟨MR.mpr<|z.lt j d,by rw[pA z d];rfl⟩
 rw[e];simp
theorem ib(q:UK)(N:Nat):(MO N).countP q+(MO N).countP (λi=> !q i)=N:=by
 have:=TC q (l:=MO N);rw[Nu]at this;rw[this];congr 1
 ·rw[<- this]
 ·rw[<- this]
  exact ON λi _=>by simp
theorem Hc(z : ∀j,j<N->(A j).has k=bX)(t:Vc)(c:Nat):nf p A N t k c%p=app (λi j=>(A j).v k i) N t c%p:=by unfold nf app;rw[NP];congr 1;exact zw λj I=>by rw[UJ (z j I),Om]
theorem ZA(z : ∀j,j<N->(A j).has k=bX)(h:kv r l i=bQ j)(c:Nat):(gh p A N r B l i).v k c%p=app (λi j=>(A j).v k i) N (B j) c%p:=by unfold gh;rw[h];exact Hc z (B j) c
theorem Kb(h:kv r l i=none):gh p A N r B l i=A i:=by unfold gh;rw[h]
theorem cz(hp:Pr p)(S : ∀k,wd k<=8)(Y : ∀j,j<wd k->(A j).has k=bX)(hs : ∀v:Vc,∃t,∀i,i<wd k->v i%p=app (λi j=>(A j).v k i) (wd k) t i%p)
 (L:f7 p (wd k) r B l) (hW : ∀t,Span p (wd k) (dr r B) t↔Ai p w wd T k (app (λi j=>(A j).v k i) (wd k) t)) {J:List Vc} (C:iU p w wd T k J) {nx:Nat->Option Vc}
 (hr : ∀i,i<wd k->w k=cE->(nx i=none->∀c,c<wd (k+1)->app (T k) (wd k) ((gh p A (wd k) r B l i).v k) c%p=0)/\∀y,nx i=bQ y->(∀c,c<wd (k+1)->app (T k) (wd k) ((gh p A (wd k) r B l i).v k) c%p=y c%p)/\∃c,c<wd (k+1)/\y c%p≠0)
 (Z : ∀i,i<wd k->w k=bX->(nx i=none->¬∃y:Vc,∀c,c<wd k->app (T k) (wd<|k+1) y c%p=(gh p A (wd k) r B l i).v k c%p)/\∀y,nx i=bQ y->∀c,c<wd k->app (T k) (wd<|k+1) y c%p=(gh p A (wd k) r B l i).v k c%p) :
 (∀y,y∈J->∀c,c<wd (k+1)->0<=y c/\y c<p)/\(∀y,y∈J->w k=bX->∀c,c<wd k->app (T k) (wd<|k+1) y c%p=0)/\
   (∀v,Span p (wd<|k+1) (λg=>(∃i,i<wd k/\nx i=bQ g)\/g∈J) v)/\(MO<|wd k).countP (λi=>(nx i).isSome)+J.length=wd (k+1):=by
 have two:=hp.two;cases hw:w k with
 | false=>
  have x : ∀t,Span p (wd k) (dr r B) t↔Di p (wd<|k+1) (wd k) (T k) (app (λi j=>(A j).v k i) (wd k) t):=λt=>by have:=hW t;unfold Ai at this;rw[hw,UY ⋯]at this;exact this
  unfold iU at C;rw[hw,UY ⋯]at C;obtain⟨u,B2,o,M,hI,U⟩:=C;obtain⟨g1,g2,g3,H⟩:=AR hp (S k) (S<|k+1) hs L x M hI;have b6 : ∀c,c<wd (k+1)->(∀j,j<u->o j≠c)->jD c∈J:=λc O C=>by rw[U];refine Nq.mpr ⟨c,Nd.mpr ⟨MR.mpr O,?_⟩,rfl⟩;simp only[Pa,decide_eq_false_iff_not,Nq,MR];rintro⟨j,f,m⟩;exact C j f ⋯
  have on : ∀i,i<wd k->(nx i).isSome=(kv r l i).isNone:=λi d=>by
   cases b:kv r l i with
   | none=>
    obtain⟨c,f,m⟩:=g2 i d<|Jr b;cases I:nx i with
    | some y=>rfl
    | none=>
     have:=(hr i d hw).1 I c f;rw[Kb b]at this;exact absurd this m
   | some j=>
    obtain⟨f,m⟩:=xW b;cases I:nx i with
    | none=>rfl
    | some y=>
     obtain⟨e,c,P,h4⟩:=(hr i d hw).2 y I;have z:=g1 j f c P;rw[<- qH (λa _=>ZA (B:=B) (r:=r) (l:=l) Y b a) c,e c P]at z;exact absurd z h4
  refine⟨λy I c O=>?_,(λy I z=>by cases z),λv=>H _ (λc O E=>?_) (λc O E=> .gen (.inr<|b6 c O E)) v,?_⟩
  ·rw[U]at I
   obtain⟨i,_,rfl⟩:=Nq.mp I;unfold jD;split<;>omega
  ·have b:kv r l c=none:=by
    cases b:kv r l c with
    | none=>rfl
    | some j=>exact absurd (xW b).2 (E j (xW b).1)
   have n:=on c O;rw[b]at n;obtain⟨y,I⟩:=OV.mp n;refine(Span.gen<|.inl ⟨c,O,I⟩).congr λi d=>?_;have:=((hr c O hw).2 y I).1 i d;rw[Kb b]at this;exact this
  ·have G:(MO<|wd k).countP (λi=>(nx i).isSome)=(MO<|wd k).countP λi=> !(kv r l i).isSome:=ON λi d=>by
    rw[on i (MR.mp d)];cases kv r l i<;>simp
   have e2:=ib (λi=>(kv r l i).isSome)<|wd k;rw[KO L]at e2;have e3:=ib (λi=>(kv u o i).isSome)<|wd<|k+1;rw[KO M]at e3;have e4:J.length=(MO<|wd<|k+1).countP λi=> !(kv u o i).isSome:=by
    rw[U,Nf,<- NJ];refine ON λi d=>?_;cases b:kv u o i with
    | none=>
     have:=Jr b;simp only[Pa,decide_eq_false_iff_not,Nq,MR];constructor
     ·intro _;rfl
     ·rintro _ ⟨j,f,m⟩
      exact this j f ⋯
    | some j=>
     obtain⟨f,m⟩:=xW b;simp only[Pa,decide_eq_false_iff_not,Nq,MR];constructor
     ·intro z;exact absurd ⟨j,f,by rw[m]⟩ z
     ·intro z;cases z
   rw[G,e4];omega
 | true=>
  have x : ∀t,Span p (wd k) (dr r B) t↔Span p (wd k) (dr (wd<|k+1) λj i=>T k i j) (app (λi j=>(A j).v k i) (wd k) t):=λt=>by have:=hW t;unfold Ai at this;rw[hw,UJ rfl]at this;exact this
  unfold iU at C;rw[hw,UJ rfl]at C;obtain⟨q,K,lK,s,U,Q,N,R,W⟩:=C;obtain⟨g1,g2,g3,H⟩:=AS hp (S k) (S<|k+1) hs L x N R W;have on : ∀i,i<wd k->(nx i).isSome=(kv r l i).isSome:=λi d=>by
   cases b:kv r l i with
   | none=>
    cases I:nx i with
    | none=>rfl
    | some y=>
     have:=(Z i d hw).2 y I;rw[Kb b]at this;exact absurd ⟨y,this⟩<|g2 i d<|Jr b
   | some j=>
    obtain⟨f,m⟩:=xW b;cases I:nx i with
    | some y=>rfl
    | none=>
     obtain⟨y,X⟩:=g1 j f;exact absurd ⟨y,λc O=>by rw[X c O,ZA Y b c]⟩<|(Z i d hw).1 I
  refine⟨λy I c O=>?_,λy I _ c O=>?_,λv=>H _ (λj=>(nx<|l j).getD λ_=>0) (λj h=>?_) (λj h=>?_) v,?_⟩
  ·rw[U]at I
   obtain⟨j,h,rfl⟩:=Nq.mp I;exact Q.h9 j c (MR.mp h) O
  ·rw[U]at I
   obtain⟨j,h,rfl⟩:=Nq.mp I;exact(N<|K j).mp (.gen ⟨j,MR.mp h,rfl⟩) c O
  ·have b:=pA L h
   have F:=L.lt j h;have n:=on (l j) F;rw[b]at n;obtain⟨y,I⟩:=OV.mp n;rw[I];refine⟨.gen<|.inl ⟨l j,F,I⟩,λc O=>?_⟩;have:=(Z (l j) F hw).2 y I c O;rw[ZA Y b c]at this;exact this
  ·refine .gen (.inr ?_)
   rw[U];exact Nq.mpr ⟨j,MR.mpr h,rfl⟩
  ·have G:(MO<|wd k).countP (λi=>(nx i).isSome)=(MO<|wd k).countP λi=>(kv r l i).isSome:=ON λi d=>by
    rw[on i (MR.mp d)]
   rw[G,KO L,U,Nf,Nu];omega
end
section
variable{wd:UX}{m k:Nat}{p:Int}{w:UK}{T:UW}
theorem gI:QT=jo 9 (zR P5<|zR P6<|zR P7<|zR P8<|zR P9<|zR R0 I9):=rfl
theorem GY(y:Vc):qD wd (n3 k y) = .tup [.int ((k:Int)+1),.tup [.tup (zB (wd<|k+1) y)]]:=by unfold qD n3 yc;simp
theorem nR(J:Pr p)(O : ∀k,wd k<=8)(hm:m<=5)(Y:k<m)(hT : ∀i j,i<eh w wd k->j<d8 w wd k->0<=T k i j/\T k i j<p){C:List ef}(I:wx p w wd T k C)(b5:C.length<=100) :
 ∃S,wx p w wd T (k+1) S/\S.length<=C.length+8/\QT [qO p m w wd T,.int k,.lst (C.map<|qD wd)]=bQ (.val<|.lst<|S.map<|qD wd):=by
 have hl:=jg;have Z:=J.pos;have Q:C.length<=lim:=by omega
 have H:(C.filter λb=>b.has k).length=wd k:=by rw[<- NJ];exact I.ct k<|MY _
 let A:Nat->ef:=λj=>(C.filter λb=>b.has k).getD j lh;have W:(C.filter λb=>b.has k)=(MO<|wd k).map A:=by rw[<- H];exact(jt lh _).symm
 have X : ∀j,j<wd k->A j∈C/\(A j).has k=bX:=λj U=>by
  have:A j∈C.filter λb=>b.has k:=by show(C.filter λb=>b.has k).getD j lh∈_;rw[MU,MS ⋯];exact Od _
  have:=Nd.mp this;exact⟨this.1,by simpa using this.2⟩
 have K : ∀j,j<wd k->m3 p w wd T k (A j):=λj U=>I.ok _ (X j U).1;have hO : ∀i c,i<c->c<wd k->Ord w (A i) (A c):=λi c f x=>by have:=G7.mp I.od i c ⋯ ⋯ f;show Ord w ((C.filter λb=>b.has k).getD i lh) ((C.filter λb=>b.has k).getD c lh);rw[MU,MS ⋯,MU,MS ⋯];exact this
 have G : ∀j,j<wd k->(A j).has k=bX:=λj U=>(X j U).2;obtain⟨r,B,l,M,hW,eS⟩:=bt (T:=T) (w:=w) (A:=A) (N:=wd k) (k:=k) J (λj U=>by have:=(K j U).le;omega) G Y (O k) hm O λj rm i U hh a=>(K j U).h9 rm i hh a;have hX : ∀i,i<wd k->m3 p w wd T k (gh p A (wd k) r B l i):=λi a=>oN Z M K G hO a;have as : ∀i,i<wd k->(gh p A (wd k) r B l i).has k=bX:=λi a=>by rw[VE];exact G i a
 have ex : ∀i,∃o:Option Vc,i<wd k->(xR [.int p,Zy w wd T k,.tup (zB (wd k)<|(gh p A (wd k) r B l i).v k)]=bQ (.val<|oD (wd<|k+1) o)/\(∀y,o=bQ y->∀c,c<wd (k+1)->0<=y c/\y c<p)/\
  (w k=cE->(o=none->∀c,c<wd (k+1)->app (T k) (wd k) ((gh p A (wd k) r B l i).v k) c%p=0)/\∀y,o=bQ y->(∀c,c<wd (k+1)->app (T k) (wd k) ((gh p A (wd k) r B l i).v k) c%p=y c%p)/\∃c,c<wd (k+1)/\y c%p≠0)/\
  (w k=bX->(o=none->¬∃y:Vc,∀c,c<wd k->app (T k) (wd<|k+1) y c%p=(gh p A (wd k) r B l i).v k c%p)/\∀y,o=bQ y->∀c,c<wd k->app (T k) (wd<|k+1) y c%p=(gh p A (wd k) r B l i).v k c%p)):=λi=>by
  by_cases a:i<wd k
  ·obtain⟨o,h⟩:=YS (T:=T) (w:=w) (k:=k) J O hT ((gh p A (wd k) r B l i).v k) λc hc=>(hX i a).h9 k c (as i a) hc
   exact⟨o,λ_=>h⟩
  ·exact⟨none,λz=>absurd z a⟩
 obtain⟨nx,u⟩:=Sh ex;obtain⟨d,hN,eN⟩:=YT (T:=T) (w:=w) (k:=k) J O;have hs : ∀v:Vc,∃t,∀i,i<wd k->v i%p=app (λi j=>(A j).v k i) (wd k) t i%p:=λv=>by
  have hv:Span p (wd k) (dr (wd k) λj=>(A j).v k) v:=(I.sp k (MY _) v).le λg hg=>by obtain⟨b,f,x,rfl⟩:=hg;have R:b∈C.filter λb=>b.has k:=Nd.mpr ⟨f,by simpa using x⟩;rw[W]at R;obtain⟨j,U,rfl⟩:=Nq.mp R;exact .gen ⟨j,MR.mp U,rfl⟩
  obtain⟨t,ht⟩:=Ys hv;exact⟨t,λi a=>by rw[ht i a];unfold app;rw[xo]⟩
 obtain⟨f1,f2,f3,f4⟩:=cz (T:=T) (w:=w) (A:=A) J O G hs M hW hN (nx:=nx) (λi a=>(u i a).2.2.1) λi a=>(u i a).2.2.2;refine⟨wu p k w C A (wd k) r B l nx d,gH Z I H (λ_=>rfl) M (λi y a e=>(u i a).2.1 y e) f1 (λi a e n=>((u i a).2.2.1 n).1 e) (λi y a e n=>(((u i a).2.2.1 n).2 y e).1) (λi y a e n=>((u i a).2.2.2 n).2 y e) f2 f3 f4,?_,?_⟩
 ·have f:(C.filter λb=> !b.has k).length+wd k=C.length:=by
   have:=TC (λb:ef=>b.has k) (l:=C);rw[<- H,<- NJ,<- NJ,this];have e:C.countP (λb=> !b.has k)=C.countP λb=>decide (¬b.has k=bX):=ON λb _=>by simp
   rw[e];omega
  have x:=O<|k+1;unfold wu;rw[NO];cases w k<;>simp<;>omega
 ·
  let L:D:= .lst (C.map<|qD wd);have e3:zX (.nm 0) (jX<|sB<|zE j8<|zb (zf 0)<|zb (zf 1) zI) (zf 0) [.no,.val (.int k)] (C.map<|qD wd)=bQ ((C.filter λb=> !b.has k).map (qD wd)):=by refine jh (g:=qD wd) (λb=> !b.has k) (qD wd) C λb P=>⟨[.val (qD wd b),.val (.int k)],rfl,?_,λ_=>by rfl⟩;have e:=yU (wd:=wd) (b:=b) (by have:=(I.ok b P).le;omega) k;simp[e]
  have e4:zX (.nm 0) (sB<|zE j8<|zb (zf 0)<|zb (zf 1) zI) (zf 0) [.no,.val (.int k)] (C.map<|qD wd)=bQ ((MO<|wd k).map λj=>qD wd<|A j):=by
   have:((C.filter λb=>b.has k).map (qD wd))=(MO<|wd k).map λj=>qD wd (A j):=by rw[W,NB];rfl
   rw[<- this];refine jh (g:=qD wd) (λb=>b.has k) (qD wd) C λb P=>⟨[.val (qD wd b),.val (.int k)],rfl,?_,λ_=>by rfl⟩;have e:=yU (wd:=wd) (b:=b) (by have:=(I.ok b P).le;omega) k;simp[e]
  have e5:zX (.nm 0) jz (zE yJ<|zb (zf 1)<|zb (zf 2)<|zb (zf 0) zI) [.no,.val<|.int p,.val (Zy w wd T k)] ((MO<|wd k).map λi=>qD wd<|gh p A (wd k) r B l i)=bQ ((MO<|wd k).map λi=>qD wd<|i6 k (gh p A (wd k) r B l i)<|nx i):=by refine zC _ _ λi a=>zD rfl rfl ?_;have a:=MR.mp a;have f:=il.mp<|as i a;have e:=lP (p:=p) (hX i a).n1 (by have:=(hX i a).le;omega) (show k<=20 by omega) (u i a).1;simp[e]
  have e6:zX (.nm 0) jz (xH<|zb (zK qu (zf 1)<|zy<|.int 1)<|zb (xH<|zb (zf 0) zI) zI) [.no,.val (.int k)] (d.map λy=>D.tup<|zB (wd<|k+1) y)=bQ ((d.map<|n3 k).map (qD wd)):=by rw[NB];refine zC _ _ λy hy=>zD rfl rfl ?_;show _=bQ (qD wd<|n3 k y);rw[GY];rfl
  have c2:d.length<=lim:=by have:=O<|k+1;omega
  have c3:wd k<=lim:=by have:=O k;omega
  let s:D:= .lst ((C.filter λb=> !b.has k).map (qD wd));let F:D:= .lst ((MO<|wd k).map λi=>qD wd<|gh p A (wd k) r B l i);let E:D:= .lst ((MO<|wd k).map λi=>qD wd<|i6 k (gh p A (wd k) r B l i)<|nx i);let Ne:D:= .lst ((d.map<|n3 k).map (qD wd));rw[gI];refine je (zv (γ':=[.val (qO p m w wd T),.val<|.int k,.val L,.val<|.int p,.no,.no,.no,.no,.no]) ?_
   (zv (γ':=[.val (qO p m w wd T),.val<|.int k,.val L,.val<|.int p,.val<|Zy w wd T k,.no,.no,.no,.no]) ?_
   (zv (γ':=[.val (qO p m w wd T),.val<|.int k,.val L,.val<|.int p,.val<|Zy w wd T k,.val s,.no,.no,.no]) ?_
   (zv (γ':=[.val (qO p m w wd T),.val<|.int k,.val L,.val<|.int p,.val<|Zy w wd T k,.val s,.val F,.no,.no]) ?_
   (zv (γ':=[.val (qO p m w wd T),.val<|.int k,.val L,.val<|.int p,.val<|Zy w wd T k,.val s,.val F,.val E,.no]) ?_
   (zv (γ':=[.val (qO p m w wd T),.val<|.int k,.val L,.val<|.int p,.val<|Zy w wd T k,.val s,.val F,.val E,.val Ne]) ?_ ?_))))))
  ·simp[P5,z9,MV,vj,L]
  ·simp[P6,vj,QL,Y]
  ·simp[P7,jn,L,Q,e3,s]
  ·simp[P8,jn,L,Q,e4,eS,F]
  ·simp[P9,jn,F,c3,e5,E]
  ·simp[R0,jn,eN,c2]
   rw[e6];simp[Ne]
  ·have c6:(C.filter λb=> !b.has k).length<=100:=NZ (SO _ _) b5
   have q1:=O k;have q2:=O<|k+1;cases n:w k with
   | false=>
    have eq:=KI cE;have f:d.length+wd k<=lim:=by omega
    have x:(C.filter λb=> !b.has k).length+(d.length+wd k)<=lim:=by omega
    simp[I9,yH,n,eq,s,E,Ne,wu,f,x]
   | true=>
    have eq:=KI bX;have f:wd k+d.length<=lim:=by omega
    have x:(C.filter λb=> !b.has k).length+(wd k+d.length)<=lim:=by omega
    simp[I9,yH,n,eq,s,E,Ne,wu,f,x]
end
section
variable{wd:UX}{m k:Nat}{p:Int}{w:UK}{T:UW}
noncomputable def lz(c:Nat):ef:=⟨0,1,λ_=>jD c⟩
theorem uC(C:Pr p):wx p w wd T 0 ((MO<|wd 0).map lz):=by
 have two:=C.two;have a : ∀b,b∈(MO<|wd 0).map lz ↔ ∃c,c<wd 0/\b=lz c:=λb=>by rw[Nq];exact⟨λ⟨c,d,e⟩=>⟨c,MR.mp d,e.symm⟩,λ⟨c,d,e⟩=>⟨c,MR.mpr d,e.symm⟩⟩
 have U : ∀c,(lz c).has 0=bX:=λc=>il.mpr ⟨MY _,by show 0<0+1;omega⟩;refine⟨λb I=>?_,λr h v=>?_,λr h=>?_,?_⟩
 ·obtain⟨c,O,rfl⟩:=(a b).mp I
  exact⟨MY _,by show 0+1<=0+1;omega,λr i _ _=>by show 0<=jD c i/\jD c i<p;unfold jD;split<;>omega,λj k=>by omega⟩
 ·have:r=0:=by omega
  subst this;refine(Ve (wd 0) v).le λg f=>?_;obtain⟨c,O,rfl⟩:=f;exact .gen ⟨lz c,(a _).mpr ⟨c,O,rfl⟩,U c,rfl⟩
 ·have:r=0:=by omega
  subst this;rw[List.countP_eq_length.mpr λb I=>?_]
  ·simp
  ·obtain⟨c,O,rfl⟩:=(a b).mp I
   exact U c
 ·refine Su _ ?_
  rw[RB];exact G7.mpr λ_ _ _ _ _=>⟨λz=>absurd z<|NU 0,λz=>absurd z<|NU 0⟩
theorem KY:yZ=jo 3 (zR H9<|zR O6 O7):=rfl
noncomputable def Y3(b:ef):Int×Int:=((b.s:Int),((b.s+b.n - 1:Nat):Int))
theorem gd : ∀C:List ef,(∀b,b∈C->1<=b.n/\b.s+b.n<=100)->Y0 qb (C.map<|qD wd)=bQ (C.map Y3)
 | [],_=>rfl
 | b::C,h=>by have a:=h b Nk;have e:=Xq (wd:=wd) a.1 a.2;have z:=gd C λb I=>h b<|Np _ I;simp only[Nt,Y0,e,z,MW];rfl
noncomputable def kL(C:List ef):List ef:=(kP<|C.map Y3).map λi=>C.getD i lh
theorem JO(C:List ef):(kL C).Perm C:=by have h:=xp<|C.map Y3;rw[Nf]at h;have:=h.map λi=>C.getD i lh;rw[jt]at this;exact this
theorem Yt(C:List ef):(kL C).map Y3=vZ (C.map Y3):=by unfold kL vZ;rw[NB];refine Nj λi a=>?_;have h:=xp<|C.map Y3;have a:=MR.mp<|h.mem_iff.mp a;rw[Nf]at a;simp[a]
theorem Vx(z:Pr p)(O : ∀k,wd k<=8)(L:m<=5)(J : ∀k i j,k<m->i<eh w wd k->j<d8 w wd k->0<=T k i j/\T k i j<p) :
 ∃C,wx p w wd T m C/\C.length<=48/\yZ [qO p m w wd T]=bQ (.own<|(kL C).map (qD wd)):=by
 have P:=jg;have N:=O 0;have U:wd 0<=lim:=by omega
 have E:=vJ (n:=wd 0) U;have t:jj (qN (wd 0) (wd 0) λi j=>if i=j then 1 else 0)=bQ (.T,[.int (wd 0:Nat),.int (wd 0:Nat),.tup (jc (wd 0) (wd 0) λi j=>if i=j then 1 else 0)]):=rfl;have y:zX (.nm 0) jz (xH<|zb (zy<|.int 0)<|zb (xH<|zb (zf 0) zI) zI) [.no] (jc (wd 0) (wd 0) λi j=>if i=j then 1 else 0)=bQ (((MO<|wd 0).map lz).map (qD wd)):=by rw[NB];unfold jc;refine zC _ _ λi a=>zD rfl rfl ?_;show bQ _=bQ (qD wd<|lz i);unfold qD lz yc;simp;rfl
 have x1:H9 (z9 3 [qO p m w wd T])=bQ (.next [.val (qO p m w wd T),.val<|.lst<|((MO<|wd 0).map lz).map (qD wd),.no]):=by simp[H9,z9,MV,vj,E,t,jn,U];rw[y];simp
 obtain⟨K,H,C,c,I,u,rfl⟩:=jV (T:= .nm 2) (F:=jF 1<|zE QT<|zb (zf 0)<|zb (zf 2)<|zb (zf 1) zI) (f:=xY<|zG<|cq (zh 0)<|zy<|.int 2)
  (λj γ=>∃C c,wx p w wd T j C/\C.length<=8*(j+1)/\γ=[.val (qO p m w wd T),.val<|.lst<|C.map<|qD wd,c]) m ⋯ (γ:=[.val (qO p m w wd T),.val<|.lst<|((MO<|wd 0).map lz).map (qD wd),.no])
  (by simp[vj]) ⟨_,_,uC z,by simp;omega,rfl⟩ λs o γ d=>by obtain⟨C,c,I,u,rfl⟩:=d;obtain⟨g,r,M,e⟩:=nR (T:=T) (w:=w) (k:=s) z O L o (J s · · o) I ⋯;refine⟨_,[.val (qO p m w wd T),.val<|.lst<|g.map<|qD wd,.val (.int s)],rfl,?_,g,_,r,by omega,rfl⟩;simp[e]
 refine⟨C,I,by omega,?_⟩;have B:=gd (wd:=wd) C λb l=>⟨(I.ok b l).n1,by have:=(I.ok b l).le;omega⟩;rw[KY];refine je<|zv x1<|zv (show O6 _=_ from H) ?_;have x:C.length<64:=by omega
 unfold O7;have A:dP qb (zh 1) [.val (qO p m w wd T),.val<|.lst<|C.map<|qD wd,c]=bQ ((kL C).map (qD wd)):=by show((Y0 qb<|C.map<|qD wd).bind λG=>if (C.map<|qD wd).length<64 then bQ ((kP G).map λi=>(C.map<|qD wd).getD i .d7)else none)=_;rw[B];simp only[MW,Nf,x,if_true];congr 1;unfold kL;rw[NB];refine Nj λi a=>?_;have h:=xp<|C.map Y3;have a:=MR.mp<|h.mem_iff.mp a;rw[Nf]at a;simp[a]
 rw[iJ,A];rfl
theorem wx.perm(h:PB.Perm l4)(I:wx p w wd T k l4):(∀b,b∈PB->m3 p w wd T k b)/\(∀r,r<=k->∀v,Span p (wd r) (LB PB r) v)/\∀r,r<=k->PB.countP (λb=>b.has r)=wd r:=by
 refine⟨λb O=>I.ok b<|h.mem_iff.mp O,λr z v=>(I.sp r z v).le λg U=>?_,λr z=>?_⟩
 ·obtain⟨b,a,d,e⟩:=U
  exact .gen ⟨b,h.mem_iff.mpr a,d,e⟩
 ·rw[h.countP_eq];exact I.ct r z
end
noncomputable def md(bs:List (Int×Int))(k:Nat):Nat:=(qr bs k).length
noncomputable def oR(w:UK)(bs:List (Int×Int))(k i j:Nat):Int:=if (qr bs<|zO w k).getD i 0=(qr bs<|zM w k).getD j 0 then 1 else 0
noncomputable def vc(m:Nat)(wd:UX)(f:UW):List TB:=(MO<|m+1).map λk=>(wd k,wd k,f k)
theorem X8(m wd f):(vc m wd f).map tD=jr (m+1) wd f:=by unfold vc jr;rw[NB];rfl
section
variable{p:Int}{n:Nat}
theorem iZ(C:Pr p)(J:n<=20)(f:UV) : ∃r B l,f7 p (n+n) r B l/\(∀v,Span p (n+n) (dr r B) v↔Span p (n+n) (dr n λi=>ve n (f i)<|jD i) v)/\
 k6 [.int p,qN n n f]=bQ (.val<|if g9 (.lst<|jc r n B) (.lst<|jc n n jD)=bX then .tup [.int n,.int n,.tup (jc r n λk j=>B k<|n+j)]else .d7):=by
 have E:=jg;have z:n<=lim:=by omega
 have o:n+n<=lim:=by omega
 obtain⟨r,B,l,e,I,s⟩:=ke C (show n+n<=100 by omega) z .L λi=>ve n (f i)<|jD i;refine⟨r,B,l,I,s,?_⟩;have O:r<=lim:=by have:r<=n+n:=VW I.mono I.lt;omega
 have U:=vJ (n:=n) z;have a:zX (.tp [0,1]) jz (zK qu (zf 0)<|zf 1) [Cell.no,Cell.no] ((MO n).map λi=>D.tup [.tup (zB n<|f i),.tup (zB n λk=>if i=k then 1 else 0)])=bQ (jc n (n+n) λi=>ve n (f i)<|jD i):=by unfold jc;refine zC _ _ λj A=>zD rfl rfl ?_;simp[qu,o,Js];rfl
 have m:=lB n n f λi j=>if i=j then 1 else 0;have u:((n:Int)+(n:Int))=((n+n:Nat):Int):=by omega
 simp only[o9]at e;rw[<- u]at e;have d:zX (.nm 0) jz (ma (zf 0) lq<|vu<|zf 1) [Cell.no,Cell.val (.int n)] (jc r (n+n) B)=bQ (jc r n B):=by unfold jc;refine zC _ _ λk x=>zD rfl rfl ?_;simp[aK]
 have t:zX (.nm 0) jz (ma (zf 0) (vu<|zf 1) lq) [Cell.no,Cell.val (.int n)] (jc r (n+n) B)=bQ (jc r n λk j=>B k<|n+j):=by unfold jc;refine zC _ _ λk x=>zD rfl rfl ?_;simp[aJ]
 have b:eK (.lst<|jc r n B) (.lst<|jc n n λi j=>if i=j then 1 else 0)=bQ (.bl<|!g9 (.lst<|jc r n B) (.lst<|jc n n jD)):=by unfold eK;rw[UJ ⟨W7 _ _ _,W7 _ _ _⟩];rfl
 have g : ∀(h w:Nat) (f:UV),jj (qN h w f)=bQ (.T,[.int h,.int w,.tup (jc h w f)]):=λ_ _ _=>rfl;by_cases q:g9 (.lst<|jc r n B) (.lst<|jc n n jD)=bX
 ·rw[q]at b
  rw[UJ q];simp[k6,jo,z9,jI,g,U,m,z,O,jn,kX,MV,a,e,d,t,b]
 ·have y:g9 (.lst<|jc r n B) (.lst<|jc n n jD)=cE:=by simpa using q
  rw[y]at b;rw[UY q];simp[k6,jo,z9,jI,g,U,m,z,O,jn,kX,MV,a,e,d,b]
theorem Wy(U:Pr p)(S:n<=20)(J:Jc p n f g)(L:Jc p n g f)(C : ∀i j,i<n->j<n->0<=g i j/\g i j<p):k6 [.int p,qN n n f]=bQ (.val<|qN n n g):=by
 obtain⟨r,B,l,F,t,e⟩:=iZ U S f;have two:=U.two;have one:=U.one;have y:f7 p (n+n) n (λk=>ve n (jD k)<|g k) id:={
  lt:=λk I=>by simp only[id];omega
  mono:=λk m I _=>I
  one:=λk I=>by simp only[id];rw[qo I];exact UJ rfl
  k0:=λk j I d=>by simp only[id]at d;rw[qo ⋯];exact UY ⋯
  o5:=λk m I G b=>by simp only[id];rw[qo G];exact UY ⋯
  h9:=λk i I a=>by
   rcases Nn i n with z | z
   ·rw[qo z];unfold jD;split<;>omega
   ·obtain⟨j,rfl⟩ : ∃j,i=n+j:=⟨i - n,by omega⟩
    rw[qT];exact C k j I ⋯}
 have w : ∀v,Span p (n+n) (dr n λk=>ve n (jD k)<|g k) v->Span p (n+n) (dr n λi=>ve n (f i)<|jD i) v:=λv O=>O.le λs o=>by
  obtain⟨k,I,h⟩:=o;subst h;refine(Span.sum (u:=λi=>ve n (f i)<|jD i) (λi=>g k i) (m:=n) λi a=> .gen ⟨i,a,rfl⟩).congr λj d=>?_;rcases Nn j n with z | z
  ·simp only[qo z]
   exact(L k j I z).symm
  ·obtain⟨m,rfl⟩ : ∃m,j=n+m:=⟨j - n,by omega⟩
   simp only[qT];rw[zN (i:=m) ⋯ λi _ b=>by simp[jD,b]];simp[jD]
 have x : ∀v,Span p (n+n) (dr n λi=>ve n (f i)<|jD i) v->Span p (n+n) (dr n λk=>ve n (jD k)<|g k) v:=λv O=>O.le λs o=>by
  obtain⟨i,a,h⟩:=o;subst h;refine(Span.sum (u:=λk=>ve n (jD k)<|g k) (λk=>f i k) (m:=n) λk I=> .gen ⟨k,I,rfl⟩).congr λj d=>?_;rcases Nn j n with z | z
  ·simp only[qo z]
   rw[zN (i:=j) z λk _ b=>by simp[jD,b]];simp[jD]
  ·obtain⟨m,rfl⟩ : ∃m,j=n+m:=⟨j - n,by omega⟩
   simp only[qT];exact(J i m a ⋯).symm
 obtain⟨rfl,_,u⟩:=QJ U F y (λv O=>x v<|(t v).mp O)<|λv O=>(t v).mpr (w v O);have A:jc r r B=jc r r jD:=aH λk i I a=>by rw[u k i I ⋯,qo a]
 have E:jc r r (λk j=>B k<|r+j)=jc r r g:=aH λk j I d=>by rw[u k (r+j) I ⋯,qT]
 rw[e,A,UJ<|I0 _,E];rfl
end
section
variable{wd:UX}{m k N:Nat}{p:Int}{w:UK}{T:UW}{A:Nat->ef}
noncomputable def f6(A:Nat->ef)(N r:Nat):List Nat:=(MO N).filter λj=>(A j).has r
noncomputable def xI(A:Nat->ef)(N r:Nat):Nat->Nat->Int:=λi j=>(A<|(f6 A N r).getD j 0).v r i
theorem KB{r j:Nat}(h:j<(f6 A N r).length):(f6 A N r).getD j 0<N/\(A<|(f6 A N r).getD j 0).has r=bX:=by
 have d:(f6 A N r).getD j 0∈f6 A N r:=by rw[MU,MS h];exact Od _
 obtain⟨a,b⟩:=Nd.mp d;exact⟨MR.mp a,by simpa using b⟩
theorem Yd(I:Pr p)(C:n<=8)(hs : ∀v:Vc,∃t,∀i,i<n->v i%p=app f n t i%p) : ∃g:UV,Jc p n f g/\Jc p n g f/\∀i j,0<=g i j/\g i j<p:=by
 have s:=I.pos;obtain⟨t,O⟩:=Sh λj=>hs<|jD j;refine⟨λi j=>t j i%p,?_,?_,λi j=>⟨NM _ ⋯,Nx _ s⟩⟩
 ·intro i j d U
  have e:zg (λk=>f i k*(t j k%p)) n%p=app f n (t j) i%p:=zL λk _=>Zg p _ _;rw[e,<- O j i d];unfold jD i3;simp only[eq_comm]
 ·intro i j d U
  have z : ∀a,a<n->app f n (λb=>zg (λk=>(t k b%p)*f k j) n - jD j b) a%p=0:=λa h=>by
   rw[QM,Zs f U,OW];have e:app f n (λb=>zg (λk=>(t k b%p)*f k j) n) a%p=f a j%p:=by
    have l:app f n (λb=>zg (λk=>(t k b%p)*f k j) n) a=zg (λk=>f k j*app f n (λb=>t k b%p) a) n:=by rw[<- vH];congr 1;funext b;exact xo ..
    rw[l];have m:zg (λk=>f k j*app f n (λb=>t k b%p) a) n%p=zg (λk=>f k j*jD k a) n%p:=zL λk _=>by rw[MX,qH (u:=t k) (λb _=>NP _ _) a,<- O k a h,<- MX]
    rw[m,zN (f:=λk=>f k j*jD k a) h λk _ r=>by simp[jD,r]];simp[jD]
   rw[e];simp
  have:=wH I C hs z i d;have o:(zg (λk=>(t k i%p)*f k j) n)%p=jD j i%p:=Oe.mpr this;show zg (λk=>(t k i%p)*f k j) n%p=i3 i j%p;rw[o];unfold jD i3;simp only[eq_comm]
theorem cL:qc=jo 4 (zR O8<|zR O9<|zR Pt Pz):=rfl
theorem Vt(J:Pr p)(C : ∀k,wd k<=8)(hm:m<=5)(hT : ∀k i j,k<m->i<eh w wd k->j<d8 w wd k->0<=T k i j/\T k i j<p) :
 ∃(N:Nat) (A:Nat->ef) (g:UW),N<=48/\(∀j,j<N->m3 p w wd T m (A j))/\(∀r,r<=m->(f6 A N r).length=wd r)/\(∀r,r<=m->Jc p (wd r) (xI A N r) (g r)/\Jc p (wd r) (g r) (xI A N r)/\∀i j,0<=g r i j/\g r i j<p)/\
  vZ ((MO N).map λj=>Y3<|A j)=((MO N).map λj=>Y3<|A j)/\
  qc [qO p m w wd T]=bQ (.val<|kQ ((MO N).map λj=>Y3<|A j) (vc m wd g)<|vc m wd λr=>xI A N r):=by
 have hl:=jg;obtain⟨a,I,K,G⟩:=Vx (T:=T) (w:=w) J C hm hT;obtain⟨ok,sp,W⟩:=I.perm<|JO a;have M:(kL a).length=a.length:=(JO a).length_eq;let A:Nat->ef:=λj=>(kL a).getD j lh;have d:kL a=(MO a.length).map A:=by rw[<- M];exact(jt lh _).symm
 have o : ∀j,j<a.length->m3 p w wd T m (A j):=λj U=>ok _ (by
  rw[d];exact Nq.mpr ⟨j,MR.mpr U,rfl⟩)
 have cnt : ∀r,r<=m->(f6 A a.length r).length=wd r:=λr O=>by have:=W r O;rw[d,Rr,NJ]at this;exact this
 have P : ∀r,r<=m->∀v:Vc,∃t,∀i,i<wd r->v i%p=app (xI A a.length r) (wd r) t i%p:=λr O v=>by
  have hv:Span p (wd r) (dr (wd r) λj i=>xI A a.length r i j) v:=(sp r O v).le λgg l=>by obtain⟨b,f,x,rfl⟩:=l;rw[d]at f;obtain⟨j,U,rfl⟩:=Nq.mp f;have Q:j∈f6 A a.length r:=Nd.mpr ⟨U,by simpa using x⟩;obtain⟨i,H,e⟩:=Ri Q;refine .gen ⟨i,by rw[<- cnt r O];exact H,?_⟩;funext c;show(A j).v r c=(A<|(f6 A a.length r).getD i 0).v r c;rw[MU,MS H];simp[e]
  exact yr.mp hv
 have R : ∀r,∃g:UV,r<=m->Jc p (wd r) (xI A a.length r) g/\Jc p (wd r) g (xI A a.length r)/\∀i j,0<=g i j/\g i j<p:=λr=>by
  by_cases O:r<=m
  ·obtain⟨g,h⟩:=Yd J (C r) (P r O)
   exact⟨g,λ_=>h⟩
  ·exact⟨λ_ _=>0,λz=>absurd z O⟩
 obtain⟨g,l⟩:=Sh R;have Z:(kL a).map Y3=(MO a.length).map λj=>Y3 (A j):=by
  conv=>lhs;rw[d,NB]
  rfl
 refine⟨a.length,A,g,K,o,cnt,l,?_,?_⟩
 ·rw[<- Z,Yt]
  refine wz ?_;have:=(JO a).map Y3;rw[Yt]at this;exact this
 ·have y:a.length<=lim:=by omega
  have eL:((kL a).map (qD wd))=(MO a.length).map λj=>qD wd (A j):=by
   conv=>lhs;rw[d,NB]
   rfl
  rw[eL]at G;let L:D:= .lst ((MO a.length).map λj=>qD wd<|A j);have B : ∀j,j<a.length->(A j).s+(A j).n<=100:=λj U=>by have:=(o j U).le;omega
  have X:zX (.tp [0,1]) jz (zE k5<|zb (zf 1)<|zb (qh<|jJ xu<|zb (zf 2)<|zb (zf 0) zI) zI) [.no,.no,.val L] ((MO<|m+1).map λ(i:Nat)=>D.tup [.int i,.int (wd i:Nat)])=bQ (jr (m+1) wd λr=>xI A a.length r):=by unfold jr;refine zC _ _ λr O=>zD rfl rfl ?_;have O:=MR.mp O;have F:=wG (wd:=wd) B y r;rw[ah (wd r) (λj=>(A j).v r),show((MO a.length).filter λj=>(A j).has r)=f6 A a.length r from rfl,cnt r ⋯]at F;have bc:=C r;have u:=ZS (q:=wd r) (h:=wd r) (λi=>(A<|(f6 A a.length r).getD i 0).v r) ⋯ ⋯;simp[-MU,L,F,u];rfl
  have u:zX (.nm 0) jz (zE k6<|zb (cq (zh 1)<|zy<|.int 0)<|zb (zf 0) zI) [.no,.val (qO p m w wd T)] (jr (m+1) wd λr=>xI A a.length r)=bQ (jr (m+1) wd g):=by unfold jr;refine zC _ _ λr O=>zD rfl rfl ?_;have O:=MR.mp O;obtain⟨f,x,h3⟩:=l r ⋯;have e:=Wy J (n:=wd r) (by have:=C r;omega) f x λi j _ _=>h3 i j;simp[vj,e]
  have Y:zX (.nm 0) jz (zE qb<|zb (zf 0) zI) [.no] ((MO a.length).map λj=>qD wd<|A j)=bQ (z6<|(MO a.length).map λj=>Y3<|A j):=by unfold z6;rw[NB];refine zC _ _ λj U=>zD rfl rfl ?_;have U:=MR.mp U;have e:=Xq (wd:=wd) (o j U).n1 (B j U);simp[e];exact⟨rfl,rfl⟩
  have ew:yV (zB (m+1) λk=>(wd k:Int))=(MO<|m+1).map λ(i:Nat)=>D.tup [.int i,.int (wd i:Nat)]:=aF _ _;have E:m+1<=lim:=by omega
  have S : ∀g:UW,(jr (m+1) wd g).length=m+1:=λg=>by simp[jr]
  rw[cL];refine je<|zv (γ':=[.val (qO p m w wd T),.val L,.no,.no]) ?_ (zv (γ':=[.val (qO p m w wd T),.val L,.val<|.lst<|jr (m+1) wd λr=>xI A a.length r,.no]) ?_ (zv (γ':=[.val (qO p m w wd T),.val L,.val<|.lst<|jr (m+1) wd λr=>xI A a.length r,.val (.lst<|jr (m+1) wd g)]) ?_ ?_))
  ·simp[O8,z9,MV,G,L]
  ·simp[O9,jn,vj,ew,E,X]
  ·simp[Pt,jn,S,E,u]
  ·unfold kQ
   rw[X8,X8];simp[Pz,jn,L,y,Y]
end
section
variable{wd:UX}{m k N:Nat}{p:Int}{w:UK}{T:UW}{A:Nat->ef}{g:UW}
noncomputable def ki(A:Nat->ef)(N:Nat):List (Int×Int):=(MO N).map λj=>Y3<|A j
theorem uA{b:ef}(C:1<=b.n)(r:Nat):Aq (Y3 b) (r:Int)=b.has r:=by
 unfold Aq Y3 ef.has;dsimp only;congr 1
 ·exact decide_eq_decide.mpr ⋯
 ·exact decide_eq_decide.mpr ⋯
theorem kG(C : ∀j,j<N->1<=(A j).n)(r:Nat):qr (ki A N) (r:Int)=f6 A N r:=by unfold qr f6 ki;simp only[Nf,Nu];refine TK λj z=>?_;have z:=MR.mp z;rw[MU,NC,Pd z];exact uA (C j z) r
theorem Y4(A N r):(f6 A N r).Nodup:=Rh.sublist RU
theorem bU{L:List Nat}(h:L.Nodup){a b:Nat}(C:a<L.length)(z:b<L.length)(e:L.getD a 0=L.getD b 0):a=b:=by rw[MU,MU,MS C,MS z]at e;exact(List.getElem_inj h).mp e
theorem nO(O : ∀j,j<N->m3 p w wd T m (A j))(U:k<m){i b:Nat}(J:i<wd (zO w k))(C:b<(f6 A N<|zM w k).length) :
 zg (λa=>(if (f6 A N<|zO w k).getD a 0=(f6 A N<|zM w k).getD b 0 then (1:Int)else 0)*xI A N (zO w k) i a) (f6 A N<|zO w k).length%p=app (T k) (wd<|zM w k) (λc=>xI A N (zM w k) c b) i%p:=by
 obtain⟨h,s⟩:=KB C;have q:=(O _ h).arr k U s i J;show _=app (T k) (wd<|zM w k) ((A<|(f6 A N<|zM w k).getD b 0).v (zM w k)) i%p;rw[q];congr 1;cases hx:(A<|(f6 A N<|zM w k).getD b 0).has (zO w k)with
 | true=>
  have n:(f6 A N<|zM w k).getD b 0∈f6 A N (zO w k):=Nd.mpr ⟨MR.mpr h,by simpa using hx⟩;obtain⟨l,I,r⟩:=Ri n;have d:(f6 A N<|zO w k).getD l 0=(f6 A N<|zM w k).getD b 0:=by rw[<- r,MU,MS I];rfl
  rw[zN (f:=λa=>(if (f6 A N<|zO w k).getD a 0=(f6 A N<|zM w k).getD b 0 then (1:Int)else 0)*xI A N (zO w k) i a) I λa e o=>by rw[UY λz=>o (bU (Y4 A N _) e I<|z.trans d.symm)];simp]
  rw[UJ d,UJ rfl];unfold xI;rw[d];simp
 | false=>
  rw[UY ⋯];rw[zw (g:=λ_=>0) λa e=>by
   rw[UY λz=>by have:=(KB e).2;rw[z,hx]at this;cases this]
   simp]
  exact zH _
theorem aU(S:Pr p)(O : ∀j,j<N->m3 p w wd T m (A j))(cnt : ∀r,r<=m->(f6 A N r).length=wd r)(C : ∀r,r<=m->Jc p (wd r) (xI A N r) (g r))(J:k<m){i j:Nat}(L:i<wd (zO w k))(z:j<wd (zM w k))(U:0<=T k i j/\T k i j<p) :
 T k i j=lN p w (md<|ki A N) (λr=>xI A N r) g (oR w<|ki A N) k i j:=by
 have d : ∀j,j<N->1<=(A j).n:=λj z=>(O j z).n1;have I:zM w k<=m:=by unfold zM;split<;>omega
 have e:zO w k<=m:=by unfold zO;split<;>omega
 unfold lN;have o:md (ki A N) (zM w k)=wd (zM w k):=by unfold md;rw[kG d,cnt _ I]
 have s:md (ki A N) (zO w k)=wd (zO w k):=by unfold md;rw[kG d,cnt _ e]
 rw[o,s];have f:zg (λb=>g (zM w k) b j*(zg (λa=>oR w (ki A N) k a b*xI A N (zO w k) i a) (wd<|zO w k)%p)) (wd<|zM w k)%p
  = zg (λb=>g (zM w k) b j*app (T k) (wd<|zM w k) (λc=>xI A N (zM w k) c b) i) (wd<|zM w k)%p:=zL λb t=>by
  have:=nO (T:=T) (k:=k) O J L (b:=b) (by rw[cnt _ I];exact t);rw[cnt _ e]at this;have h:zg (λa=>oR w (ki A N) k a b*xI A N (zO w k) i a) (wd<|zO w k)=zg (λa=>(if (f6 A N<|zO w k).getD a 0=(f6 A N<|zM w k).getD b 0 then (1:Int)else 0)*xI A N (zO w k) i a) (wd<|zO w k):=zw λa _=>by unfold oR;rw[kG d,kG d]
  rw[h,this,Zg]
 have l:zg (λb=>g (zM w k) b j*app (T k) (wd<|zM w k) (λc=>xI A N (zM w k) c b) i) (wd<|zM w k)=app (T k) (wd<|zM w k) (λc=>zg (λb=>xI A N (zM w k) c b*g (zM w k) b j)<|wd<|zM w k) i:=by rw[<- vH];congr 1;funext c;exact xo ..
 rw[show(zg (λb=>g (zM w k) b j*(zg (λa=>oR w (ki A N) k a b*(λr=>xI A N r) (zO w k) i a) (wd<|zO w k)%p)) (wd<|zM w k)%p)=_ from f,l,
  qH (u:=jD j) (λc x=>by rw[C _ I c j x z];unfold i3 jD;simp only[eq_comm]) i,Zs (T k) z]
 exact(Nz U.1 U.2).symm
end
structure o7(p:Int)(w:UK)(wd:UX)(T:UW)(m N:Nat)(A:Nat->ef):Prop where
 ok : ∀j,j<N->m3 p w wd T m (A j)
 sp : ∀r,r<=m->∀v:Vc,∃t:Vc,∀i,i<wd r->v i%p=zg (λj=>if (A j).has r=bX then t j*(A j).v r i else 0) N%p
 inj : ∀r,r<=m->∀t:Vc,(∀i,i<wd r->zg (λj=>if (A j).has r=bX then t j*(A j).v r i else 0) N%p=0)->∀j,j<N->(A j).has r=bX->t j%p=0
 cnt : ∀r,r<=m->(f6 A N r).length=wd r
noncomputable def Lk(p:Int)(w:UK)(wd:UX)(T:UW)(k:Nat)(y z:Vc):Prop:=
 if w k=bX then ∀i,i<wd k->y i%p=app (T k) (wd<|k+1) z i%p else ∀i,i<wd (k+1)->z i%p=app (T k) (wd k) y i%p
noncomputable def Wk(p:Int)(w:UK)(wd:UX)(T:UW)(d:Nat):Nat->Vc->Vc->Prop
 | 0,u,z=>∀i,i<wd d->u i%p=z i%p
 | n+1,u,z=>∃y,Wk p w wd T d n u y/\Lk p w wd T (d+n) y z
section
variable{p:Int}{w:UK}{wd:UX}{T:UW}{m N N':Nat}{A A':Nat->ef}{d:Nat}
theorem VX(C:a%p=b%p)(I:a'%p=b'%p):(a+c*a')%p=(b+c*b')%p:=by rw[Ny,C,MX,I,<- MX,<- Ny]
theorem EM(c:Int)(h:Lk p w wd T k y z)(h':Lk p w wd T k y' z'):Lk p w wd T k (λi=>y i+c*y' i) λi=>z i+c*z' i:=by
 unfold Lk at *;split
 ·next b=>
  rw[UJ b]at h h';intro i a;rw[VX (h i a) (h' i a)];exact(Ws (λ_ _=>rfl) i).symm
 ·next b=>
  rw[UY b]at h h';intro i a;rw[VX (h i a) (h' i a)];exact(Ws (λ_ _=>rfl) i).symm
theorem iR : ∀(n:Nat) {u z I O:Vc} (c:Int),Wk p w wd T d n u z->Wk p w wd T d n I O->Wk p w wd T d n (λi=>u i+c*I i) λi=>z i+c*O i
 | 0,u,z,I,O,c,h,h'=>λi a=>VX (h i a)<|h' i a
 | n+1,u,z,I,O,c,⟨y,h1,h2⟩,⟨y',L',L_⟩=>⟨_,iR n c h1 L',EM c h2 L_⟩
theorem iV(k:Nat):Lk p w wd T k (λ_=>0) λ_=>0:=by unfold Lk;split<;>exact λi _=>by rw[aR (λ_ _=>by simp) i];simp
theorem QP : ∀n,Wk p w wd T d n (λ_=>0) λ_=>0
 | 0=>λ_ _=>rfl
 | n+1=>⟨_,QP n,iV _⟩
theorem oG(h:Lk p w wd T k y z)(I : ∀i,i<wd (k+1)->z' i%p=z i%p):Lk p w wd T k y z':=by
 unfold Lk at *;split
 ·next b=>rw[UJ b]at h;intro i a;rw[h i a];exact(qH I i).symm
 ·next b=>rw[UY b]at h;intro i a;rw[I i a,h i a]
theorem EK : ∀{n:Nat} {u z I:Vc},Wk p w wd T d n u z->(∀i,i<wd (d+n)->I i%p=z i%p)->Wk p w wd T d n u I
 | 0,u,z,I,h,hz=>λi a=>by rw[h i a,hz i a]
 | n+1,u,z,I,⟨y,h1,h2⟩,hz=>⟨y,h1,oG h2 hz⟩
theorem oE : ∀{n:Nat} {u I z:Vc},Wk p w wd T d n u z->(∀i,i<wd d->I i%p=u i%p)->Wk p w wd T d n I z
 | 0,u,I,z,h,hu=>λi a=>by rw[hu i a,h i a]
 | n+1,u,I,z,⟨y,h1,h2⟩,hu=>⟨y,oE h1 hu,h2⟩
theorem pW(t:Vc)(u z:Nat->Vc) : ∀K,(∀j,j<K->Wk p w wd T d n (u j) (z j))->Wk p w wd T d n (λi=>zg (λj=>t j*u j i) K) λi=>zg (λj=>t j*z j i) K
 | 0,_=>QP n
 | K+1,h=>iR n (t K) (pW t u z K λj I=>h j ⋯)<|h K ⋯
theorem oB(I:m3 p w wd T m b)(O:k<m)(C:b.has k=bX)(J:b.has (k+1)=bX):Lk p w wd T k (b.v k) (b.v<|k+1):=by
 unfold Lk;cases hw:w k with
 | true=>
  have a:zM w k=k+1:=by unfold zM;rw[hw];rfl
  have z:zO w k=k:=by unfold zO;rw[hw];rfl
  rw[UJ rfl];intro i d;have:=I.arr k O (by rw[a];exact J) i (by rw[z];exact d);rw[a,z,C,UJ rfl]at this;exact this.symm
 | false=>
  have a:zM w k=k:=by unfold zM;rw[hw];rfl
  have z:zO w k=k+1:=by unfold zO;rw[hw];rfl
  rw[UY ⋯];intro i d;have:=I.arr k O (by rw[a];exact C) i (by rw[z];exact d);rw[a,z,J,UJ rfl]at this;exact this.symm
theorem JC(z:m3 p w wd T m b)(C:b.has d=bX) : ∀n,d+n<=m->b.has (d+n)=bX->Wk p w wd T d n (b.v d) (b.v<|d+n)
 | 0,_,_=>λ_ _=>rfl
 | n+1,hn,h2=>by have I:b.has (d+n)=bX:=il.mpr (by have:=il.mp C;have:=il.mp h2;omega);exact⟨_,JC z C n ⋯ I,oB z ⋯ I h2⟩
theorem Wp(I:m3 p w wd T m b)(J:b.has d=bX)(C:w (b.s+b.n - 1)=cE) : ∀n,d+n<=m->b.has (d+n)=cE->Wk p w wd T d n (b.v d) λ_=>0
 | 0,_,h2=>by rw[Sl,J]at h2;cases h2
 | n+1,hn,h2=>by
  cases h3:b.has (d+n)with
  | false=>exact⟨_,Wp I J C n ⋯ h3,iV _⟩
  | true=>
   refine⟨_,JC I J n ⋯ h3,?_⟩;have g:=il.mp h3;have f : ¬(d+n+1<b.s+b.n):=λz=>by have:b.has (d+(n+1))=bX:=il.mpr ⋯;rw[this]at h2;cases h2
   have O:b.s+b.n - 1=d+n:=by omega
   rw[O]at C;have a:zM w (d+n)=d+n:=by unfold zM;rw[C];rfl
   have U:zO w (d+n)=d+n+1:=by unfold zO;rw[C];rfl
   have:=I.arr (d+n) ⋯;rw[a,U]at this;unfold Lk;rw[C,UY ⋯];intro i e;rw[this h3 i e,show b.has (d+n+1)=cE from h2];simp
theorem Zz(D:o7 p w wd T m N A) : ∀n,d+n<=m->∀{u z:Vc},Wk p w wd T d n u z->∀{a b:Vc},(∀i,i<wd d->u i%p=zg (λj=>if (A j).has d=bX then a j*(A j).v d i else 0) N%p)->(∀i,i<wd (d+n)->z i%p=zg (λj=>if (A j).has (d+n)=bX then b j*(A j).v (d+n) i else 0) N%p)->
 ∀j,j<N->(A j).has d=bX->((A j).has (d+n)=bX->a j%p=b j%p)/\((A j).has (d+n)=cE->w ((A j).s+(A j).n - 1)=bX->a j%p=0):=by
 have B : ∀r,r<=m->∀{v:Vc} {a b:Vc},(∀i,i<wd r->v i%p=zg (λj=>if (A j).has r=bX then a j*(A j).v r i else 0) N%p)->(∀i,i<wd r->v i%p=zg (λj=>if (A j).has r=bX then b j*(A j).v r i else 0) N%p)->∀j,j<N->(A j).has r=bX->a j%p=b j%p:=λr Y v a b G l j O U=>by
  have:=D.inj r Y (λj=>a j - b j) (λi f=>by
   have e:zg (λj=>if (A j).has r=bX then (a j - b j)*(A j).v r i else 0) N=zg (λj=>if (A j).has r=bX then a j*(A j).v r i else 0) N+zg (λj=>(if (A j).has r=bX then b j*(A j).v r i else 0)*(-1)) N:=by
    rw[<- jO];refine zw λj _=>?_;split
    ·rw[Int.sub_mul];omega
    ·simp
   rw[e,qI,Ny,<- G i f,MX,<- l i f,<- MX,<- Ny,show v i+v i * -1=0 by omega];simp) j O U
  exact Oe.mpr this
 have L : ∀k,k<m->∀(c:Vc) (r o:Nat),r=zM w k->o=zO w k->∀i,i<wd o->app (T k) (wd r) (nf p A N c r) i%p=zg (λj=>if (A j).has o=bX then (if (A j).has r=bX then c j else 0)*(A j).v o i else 0) N%p:=λk W c r o M P i f=>by
  rw[iG];refine zL λj O=>?_;cases hx:(A j).has r with
  | false=>simp
  | true=>
   have q:=(D.ok j O).arr k W (by rw[<- M];exact hx) i (by rw[<- P];exact f);rw[<- M,<- P]at q;simp only[if_true];rw[MX,q,<- MX];cases hy:(A j).has o<;>simp
 intro n
 induction n with
 | zero=>
  intro X u z C a b H x j O U;refine⟨λ_=>B d ⋯ H (λi f=>by rw[C i f];exact x i f) j O U,λh=>?_⟩;rw[Sl,U]at h;cases h
 | succ n Z=>
  intro X u z C a b H x j O U;obtain⟨y,G,l⟩:=C;obtain⟨c,J⟩:=D.sp (d+n) ⋯ y;obtain⟨K,Q⟩:=Z ⋯ G H J j O U;have R : ∀i,i<wd (d+n)->y i%p=nf p A N c (d+n) i%p:=λi f=>by rw[J i f];unfold nf;rw[NP]
  have S : ∀i,i<wd (d+n+1)->z i%p=nf p A N b (d+n+1) i%p:=λi f=>by rw[x i f];unfold nf;rw[NP];rfl
  have qd:=il.mp U;cases hw:w (d+n)with
  | false=>
   have E:zM w (d+n)=d+n:=by unfold zM;rw[hw];rfl
   have F:zO w (d+n)=d+n+1:=by unfold zO;rw[hw];rfl
   unfold Lk at l;rw[hw,UY ⋯]at l;have g:=B (d+n+1) ⋯ (v:=z) x (b:=λj=>if (A j).has (d+n)=bX then c j else 0) λi f=>by rw[l i f,qH R i];exact L (d+n) ⋯ c (d+n) (d+n+1) E.symm F.symm i f
   refine⟨λh=>?_,λh t=>?_⟩
   ·have I:(A j).has (d+n)=bX:=il.mpr (by have:=il.mp h;omega)
    have:=g j O h;rw[I,UJ rfl]at this;rw[K I,this]
   ·cases I:(A j).has (d+n)with
    | false=>exact Q I t
    | true=>
     have q3:=il.mp I;have q2 : ¬(d+n+1<(A j).s+(A j).n):=λz=>by have:(A j).has (d+(n+1))=bX:=il.mpr ⋯;rw[this]at h;cases h
     rw[show(A j).s+(A j).n - 1=d+n by omega,hw]at t;cases t
  | true=>
   have E:zM w (d+n)=d+n+1:=by unfold zM;rw[hw];rfl
   have F:zO w (d+n)=d+n:=by unfold zO;rw[hw];rfl
   unfold Lk at l;rw[hw,UJ rfl]at l;have g:=B (d+n) ⋯ (v:=y) J (b:=λj=>if (A j).has (d+n+1)=bX then b j else 0) λi f=>by rw[l i f,qH S i];exact L (d+n) ⋯ b (d+n+1) (d+n) E.symm F.symm i f
   refine⟨λh=>?_,λh t=>?_⟩
   ·have I:(A j).has (d+n)=bX:=il.mpr (by have:=il.mp h;omega)
    have:=g j O I;rw[show(A j).has (d+n+1)=bX from h,UJ rfl]at this;rw[K I,this]
   ·cases I:(A j).has (d+n)with
    | false=>exact Q I t
    | true=>
     have:=g j O I;rw[show(A j).has (d+n+1)=cE from h,UY ⋯]at this;rw[K I,this];simp
end
section
variable{p:Int}{n:Nat}
theorem pI{l:UX} : ∀{r:Nat},(∀k m,k<m->m<r->l k<l m)->∃j,j<=r/\∀k,k<r->l k≠j
 | 0,_=>⟨0,MY _,λk I=>absurd I<|Nv _⟩
 | r+1,h=>by
  obtain⟨j,f,d⟩:=pI (r:=r) λk m a b=>h k m a ⋯;by_cases e:l r=j
  ·refine⟨r+1,MY _,λk I=>?_⟩
   rcases Nn k r with z | z
   ·have:=h k r z ⋯;omega
   ·rw[show k=r by omega];omega
  ·refine⟨j,by omega,λk I=>?_⟩
   rcases Nn k r with z | z
   ·exact d k z
   ·rw[show k=r by omega];exact e
theorem CZ(C:Pr p){h N:Nat}{f:UV}(inj : ∀t:Vc,(∀i,i<h->app f N t i%p=0)->∀j,j<N->t j%p=0):N<=h:=by
 rcases Nn h N with a9 | a8
 ·exfalso
  obtain⟨r,E,B,l,d,y⟩:=ZX (n:=N) C h f;obtain⟨I,A,a4⟩:=pI d.mono;have s:I<N:=by omega
  let t:Vc:=λj=>if j=I then 1 else zg (λk=>if l k=j then B k I*(-1)else 0) r;have w:t I=1:=UJ rfl;have F : ∀k,k<r->t (l k)=B k I*(-1):=λk O=>by
   show(if l k=I then _ else _)=_;rw[UY (a4 k O),zN (f:=λa=>if l a=l k then B a I*(-1)else 0) O λa U b=>by
    rw[UY λe=>b (by
     rcases RE a k with z | z | z
     ·have:=d.mono a k z O;omega
     ·exact z
     ·have:=d.mono k a z U;omega)]]
   rw[UJ rfl]
  have o : ∀k,k<r->zg (λj=>B k j*t j) N=0:=λk O=>by
   have e:zg (λj=>B k j*t j) N=zg (λj=>(if j=I then B k I else 0)+zg (λa=>if l a=j then B k (l a)*(B a I*(-1))else 0) r) N:=zw λj u=>by
    by_cases z:j=I
    ·subst z
     rw[w,UJ rfl,zw (g:=λ_=>0) λa U=>UY<|a4 a U,zH];simp
    ·show B k j*(if j=I then _ else _)=_
     rw[UY z,UY z,Int.zero_add,Om,<- qI];refine zw λa U=>?_;by_cases e:l a=j
     ·rw[UJ e,UJ e,<- e,Om]
     ·rw[UY e,UY e];simp
   rw[e,jO,zN (f:=λj=>if j=I then B k I else 0) s<|λj _ b=>UY b,UJ rfl,jT];have m:zg (λa=>zg (λj=>if l a=j then B k (l a)*(B a I*(-1))else 0) N) r=zg (λa=>B k (l a)*(B a I*(-1))) r:=zw λa U=>by rw[zN (f:=λj=>if l a=j then B k (l a)*(B a I*(-1))else 0) (d.lt a U) λj _ b=>UY<|Oa b,UJ rfl]
   rw[m,zN (f:=λa=>B k (l a)*(B a I*(-1))) O λa U b=>by rw[d.o5 k a O U b];simp];rw[d.one k O];omega
  have:=inj t (λi x=>by
   have c:=Jk d<|(y<|f i).mpr (.gen ⟨i,x,rfl⟩);unfold app;have e:zg (λj=>f i j*t j) N%p=zg (λj=>zg (λk=>f i (l k)*B k j) r*t j) N%p:=zL λj u=>by rw[MX,c j u,<- MX]
   rw[e];have m:zg (λj=>zg (λk=>f i (l k)*B k j) r*t j) N=zg (λk=>f i (l k)*zg (λj=>B k j*t j) N) r:=by rw[zw (g:=λj=>zg (λk=>f i (l k)*B k j*t j) r) λj _=>(qI _ _ _).symm,jT];refine zw λk _=>?_;rw[<- ja];exact zw λj _=>OP _ _ _
   rw[m,zw (g:=λ_=>0) λk O=>by rw[o k O,NK],zH];simp) I s
  rw[w,C.one]at this;cases this
 ·exact a8
theorem Jm(W:Nat->Vc)(t:Vc):Span p n (dr m W) λi=>zg (λj=>t j*W j i) m:=Span.sum (u:=W) t λj z=> .gen ⟨j,z,rfl⟩
theorem gX(z:Pr p)(I:f7 p n s B l)(sp : ∀v,Span p n (dr s B) v↔Span p n (dr m W) v)(ind : ∀t:Vc,(∀i,i<n->zg (λj=>t j*W j i) m%p=0)->∀j,j<m->t j%p=0):m=s:=by
 have b:s<=m:=by obtain⟨r,e,hR⟩:=ZX (n:=n) z m W;have:=wC z (m:=m) (W:=W) ⟨B,l,I,sp⟩ hR;omega
 have g:s<=n:=VI I;have d:m<=s:=CZ z (f:=λi j=>W j<|l i) λt O=>ind t λi a=>by
  have c:=Jk I ((sp _).mpr (Jm (n:=n) W t)) i a;rw[c];have:zg (λk=>zg (λj=>t j*W j (l k)) m*B k i) s%p=zg (λ_=>0) s%p:=zL λk U=>by have:=O k U;unfold app at this;rw[xo]at this;rw[MX,this];simp
  rw[this,zH];simp
 omega
theorem nY(Y:Pr p){s q c:Nat}{B B2 V:Nat->Vc}{l C:UX}(S:f7 p n s B l)(U:f7 p n q B2 C)(L : ∀j,j<c->Span p n (dr s B) (V j))(J : ∀v,Span p n (dr q B2) v->Span p n (dr s B) v)
 (US : ∀v,Span p n (dr s B) v->∃t:Vc,Span p n (dr q B2) λi=>v i - zg (λj=>t j*V j i) c) (ind : ∀t:Vc,Span p n (dr q B2) (λi=>zg (λj=>t j*V j i) c)->∀j,j<c->t j%p=0):q+c=s:=by
 let W:Nat->Vc:=λj=>if j<q then B2 j else V (j - q);have o : ∀j,j<q->W j=B2 j:=λj I=>UJ I;have r : ∀j,W (q+j)=V j:=λj=>by show(if q+j<q then _ else _)=_;rw[UY ⋯,B8]
 have x : ∀t:Vc,∀i,zg (λj=>t j*W j i) (q+c)=zg (λj=>t j*B2 j i) q+zg (λj=>t (q+j)*V j i) c:=λt i=>by
  rw[Yg];congr 1
  ·exact zw λj I=>by rw[o j I]
  ·exact zw λj I=>by rw[r j]
 refine gX Y S (W:=W) (λv=>⟨λm=>?_,λm=>m.le λg b=>?_⟩) λt u=>?_
 ·obtain⟨t,h⟩:=US v m
  have a:Span p n (dr (q+c) W) λi=>v i - zg (λj=>t j*V j i) c:=h.le λg b=>by obtain⟨k,O,rfl⟩:=b;rw[<- o k O];exact .gen ⟨k,by omega,rfl⟩
  have E:Span p n (dr (q+c) W) λi=>zg (λj=>t j*V j i) c:=Span.sum t λj I=>by rw[<- r j];exact .gen ⟨q+j,by omega,rfl⟩
  exact(E.add a 1).congr λi _=>by rw[SF,Int.sub_add_cancel]
 ·obtain⟨k,O,rfl⟩:=b
  rcases Nn k q with z | z
  ·rw[o k z];exact J _<|.gen ⟨k,z,rfl⟩
  ·obtain⟨j,rfl⟩ : ∃j,k=q+j:=⟨k - q,by omega⟩
   rw[r j];exact L j ⋯
 ·have w : ∀j,j<c->t (q+j)%p=0:=ind (λj=>t<|q+j) ((Jm (n:=n) B2 λj=> -1*t j).congr λi d=>by
   have:=u i d;rw[x]at this;have e:zg (λj=> -1*t j*B2 j i) q=zg (λj=>t j*B2 j i) q * -1:=by rw[<- qI];exact zw λj _=>by rw[Om (-1),OP,Om (-1),OP]
   rw[e];refine Oe.mpr ?_;rw[<- this];congr 1;omega)
  intro j I;rcases Nn j q with z | z
  ·have A : ∀i,i<n->zg (λj=>t j*B2 j i) q%p=0:=λi d=>by
    have:=u i d;rw[x,Ny]at this;have e:zg (λj=>t (q+j)*V j i) c%p=zg (λ_=>0) c%p:=zL λj I=>by rw[MX,w j I];simp
    rw[e,zH]at this;simpa using this
   have a:=A (C j)<|U.lt j z;rw[zN (f:=λk=>t k*B2 k (C j)) z λk O y=>by rw[U.o5 k j O z (Oa y)];simp]at a;rw[U.one j z,OL]at a;exact a
  ·obtain⟨k,rfl⟩ : ∃k,j=q+k:=⟨j - q,by omega⟩
   exact w k ⋯
end
noncomputable def nh(A:Nat->ef)(N d e:Nat):List Nat:=(MO N).filter λj=>(A j).has d && (A j).has e
section
variable{p:Int}{w:UK}{wd:UX}{T:UW}{m N n:Nat}{A:Nat->ef}{d:Nat}
theorem hU(z:k<(nh A N d e).length):(nh A N d e).getD k 0<N/\(A<|(nh A N d e).getD k 0).has d=bX/\(A<|(nh A N d e).getD k 0).has e=bX:=by
 have f:(nh A N d e).getD k 0∈nh A N d e:=by rw[MU,MS z];exact Od _
 obtain⟨b,a⟩:=Nd.mp f;simp only[Nb]at a;exact⟨MR.mp b,a.1,a.2⟩
theorem Em(D:o7 p w wd T m N A)(C:d<=m)(e:Nat):(nh A N d e).length<=wd d:=by rw[<- D.cnt d C];unfold nh f6;rw[<- NJ,<- NJ];exact List.countP_mono_left λj _ h=>by simp only[Nb]at h;exact h.1
theorem oo(d e:Nat)(t:Vc) : ∃a:Vc,∀k,k<(nh A N d e).length->a ((nh A N d e).getD k 0)=t k:=by refine⟨λj=>t<|(nh A N d e).idxOf j,λk z=>?_⟩;have b:(nh A N d e).Nodup:=Rh.sublist RU;show t _=_;rw[MU,MS z,RF,b.idxOf_getElem _ z]
theorem hJ(d e:Nat)(a:Vc)(i:Nat):zg (λk=>a ((nh A N d e).getD k 0)*(A<|(nh A N d e).getD k 0).v d i) (nh A N d e).length=zg (λj=>if (A j).has d=bX then (if (A j).has e=bX then a j else 0)*(A j).v d i else 0) N:=by have:=vM (λj=>(A j).has d && (A j).has e) (λj=>a j*(A j).v d i) N;refine this.trans<|zw λj _=>?_;cases (A j).has d<;>cases (A j).has e<;>simp
theorem av(Y:Pr p)(D:o7 p w wd T m N A)(C:d+n<=m){s q:Nat}{B B2:Nat->Vc}{l Z:UX}(S:f7 p (wd d) s B l)(U : ∀u,Span p (wd d) (dr s B) u ↔ ∃z,Wk p w wd T d n u z)
 (L:f7 p (wd d) q B2 Z) (J : ∀u,Span p (wd d) (dr q B2) u↔Wk p w wd T d n u λ_=>0):q+(nh A N d<|d+n).length=s:=by
 have Q:=Em D (show d<=m by omega)<|d+n;have R:=VI L;refine nY Y S L (V:=λk=>(A<|(nh A N d<|d+n).getD k 0).v d) (λk I=>?_) (λv y=>(U v).mpr ⟨_,(J v).mp y⟩) (λv y=>?_) λt M=>?_
 ·obtain⟨f,g,O⟩:=hU I
  exact(U _).mpr ⟨_,JC (D.ok _ f) g n C O⟩
 ·obtain⟨z,E⟩:=(U v).mp y
  obtain⟨a,o⟩:=D.sp d ⋯ v;obtain⟨b,H⟩:=D.sp (d+n) C z;have r:=Zz D n C E o H;refine⟨λk=>a<|(nh A N d<|d+n).getD k 0,(J _).mpr ?_⟩;let u:Nat->Vc:=λj=>if (A j).has d=bX/\(A j).has (d+n)=cE/\w ((A j).s+(A j).n - 1)=cE then (A j).v d else λ_=>0;have P : ∀j,j<N->Wk p w wd T d n (u j) λ_=>0:=λj x=>by
   show Wk p w wd T d n (if _ then _ else _) _;split
   ·next h=>exact Wp (D.ok j x) h.1 h.2.2 n C h.2.1
   ·exact QP n
  have K:=pW a u (λ_ _=>0) N P;refine EK (oE K λi F=>?_) λi _=>by simp[zH]
  rw[hJ d (d+n) a i];rw[OW,o i F,<- OW];have e:zg (λj=>if (A j).has d=bX then a j*(A j).v d i else 0) N - zg (λj=>if (A j).has d=bX then (if (A j).has (d+n)=bX then a j else 0)*(A j).v d i else 0) N=zg (λj=>(if (A j).has d=bX then a j*(A j).v d i else 0)+(if (A j).has d=bX then (if (A j).has (d+n)=bX then a j else 0)*(A j).v d i else 0) * -1) N:=by rw[jO,qI];omega
  rw[e];refine zL λj x=>?_;show _=a j*(if _ then (A j).v d else λ_=>0) i%p;cases f:(A j).has d with
  | false=>simp
  | true=>
   cases g:(A j).has (d+n)with
   | true=>
    have G:a j*(A j).v d i+a j*(A j).v d i * -1=0:=by omega
    simp only[if_true,G,Bool.true_eq_false,false_and,and_false,if_false,NK]
   | false=>
    cases O:w ((A j).s+(A j).n - 1)with
    | false=>simp
    | true=>
     have:=(r j x f).2 g O;simp only[if_true,OI,if_false,Ht,Int.add_zero,NK,Bool.true_eq_false,and_false];rw[MX,this];simp
 ·obtain⟨a,o⟩:=oo (A:=A) (N:=N) d (d+n) t
  have E:=(J _).mp M;have r:=Zz D n C E (a:=λj=>if (A j).has (d+n)=bX then a j else 0) (b:=λ_=>0) (λi F=>by
   rw[<- hJ d (d+n) a i];congr 1;exact zw λk I=>by rw[o k I]) (λi _=>by
   have:zg (λj=>if (A j).has (d+n)=bX then 0*(A j).v (d+n) i else 0) N=zg (λ_=>0) N:=zw λj _=>by simp
   rw[this,zH])
  intro k I;obtain⟨f,g,O⟩:=hU I;have:=(r _ f g).1 O;rw[O,UJ rfl,o k I]at this;simpa using this
end
section
variable{p:Int}{w:UK}{wd:UX}{T:UW}{m N:Nat}{A:Nat->ef}
theorem nJ(r:Nat)(t:Vc) : ∃a:Vc,∀k,k<(f6 A N r).length->a ((f6 A N r).getD k 0)=t k:=by refine⟨λj=>t<|(f6 A N r).idxOf j,λk z=>?_⟩;show t _=_;rw[MU,MS z,RF,(Y4 A N r).idxOf_getElem _ z]
theorem gr(r:Nat)(a:Vc)(i:Nat):zg (λj=>if (A j).has r=bX then a j*(A j).v r i else 0) N=app (xI A N r) (f6 A N r).length (λk=>a<|(f6 A N r).getD k 0) i:=by have:=vM (λj=>(A j).has r) (λj=>a j*(A j).v r i) N;rw[<- this];unfold app;rw[xo];rfl
theorem CQ(z:j<N)(I:(A j).has r=bX) : ∃k,k<(f6 A N r).length/\(f6 A N r).getD k 0=j:=by have O:j∈f6 A N r:=Nd.mpr ⟨MR.mpr z,by simpa using I⟩;obtain⟨i,a,e⟩:=Ri O;exact⟨i,a,by rw[MU,MS a];simpa using e⟩
theorem uI(hp:Pr p)(a1 : ∀k,wd k<=8)(ok : ∀j,j<N->m3 p w wd T m (A j))(cnt : ∀r,r<=m->(f6 A N r).length=wd r)(U : ∀r,r<=m->∀v:Vc,∃t,∀i,i<wd r->v i%p=app (xI A N r) (wd r) t i%p):o7 p w wd T m N A where
 ok:=ok
 cnt:=cnt
 sp:=λr z v=>by obtain⟨t,I⟩:=U r z v;obtain⟨a,ha⟩:=nJ (A:=A) (N:=N) r t;refine⟨a,λi hi=>?_⟩;rw[I i hi,gr,cnt r z];unfold app;congr 1;exact zw λk O=>by show _=_*a _;rw[ha k (by rw[cnt r z];exact O)]
 inj:=λr z t I j hj hh=>by
  obtain⟨k,O,e⟩:=CQ hj hh;have:=wH hp (a1 r) (U r z) (t:=λk=>t<|(f6 A N r).getD k 0) (λi hi=>by have:=I i hi;rw[gr,cnt r z]at this;exact this) k (by rw[<- cnt r z];exact O)
  rw[e]at this;exact this
end
section
variable{p:Int}{w:UK}{wd:UX}{T f g:UW}{m N:Nat}{A:Nat->ef}
theorem uY(F G:UV)(n k:Nat)(u:Vc)(i:Nat):app F n (app G k u) i=zg (λj=>zg (λb=>F i b*G b j) n*u j) k:=by
 unfold app;have e:zg (λb=>F i b*zg (λj=>G b j*u j) k) n=zg (λb=>zg (λj=>F i b*G b j*u j) k) n:=zw λb _=>by rw[<- ja];exact zw λj _=>(OP _ _ _).symm
 rw[e,jT];exact zw λj _=>qI _ _ _
theorem lI(h:Jc p n F G)(u:Vc)(C:i<n):app F n (app G n u) i%p=u i%p:=by
 rw[uY];have e:zg (λj=>zg (λb=>F i b*G b j) n*u j) n%p=zg (λj=>i3 i j*u j) n%p:=zL λj z=>by rw[MX,h i j C z,<- MX]
 rw[e,zN (f:=λj=>i3 i j*u j) C λj _ I=>by unfold i3;rw[UY (Oa I),Ht]];unfold i3;rw[UJ rfl,SF]
end
noncomputable def gV(p:Int)(a b:Nat)(c:Int)(v:Vc):Vc:=λi=>if i=b then (v b+c*v a)%p else v i
noncomputable def IW(S E:UX)(j:Nat):ef:=⟨S j,E j - S j+1,λ_ _=>0⟩
noncomputable def j4(S E:UX)(N r:Nat):List Nat:=f6 (IW S E) N r
noncomputable def ck(S E:UX)(N j:Nat):ef:=⟨S j,E j - S j+1,λr i=>if (j4 S E N r).getD i N=j then 1 else 0⟩
noncomputable def gb(S E:UX)(N r:Nat):Nat:=(j4 S E N r).length
noncomputable def pB(w:UK)(S E:UX)(N k i j:Nat):Int:=if (j4 S E N<|zO w k).getD i N=(j4 S E N<|zM w k).getD j (N+1)then 1 else 0
section
variable{S E:UX}{N r:Nat}{w:UK}{p:Int}{m:Nat}
theorem lS:(j4 S E N r).Nodup:=List.Nodup.sublist RU Rh
theorem UT{j:Nat}:j∈j4 S E N r↔j<N/\(ck S E N j).has r=bX:=by unfold j4 f6;rw[Nd,MR];rfl
theorem WO{j:Nat}(h:j<N)(I:(ck S E N j).has r=bX) : ∃c,c<gb S E N r/\(j4 S E N r)[c]? = bQ j:=by obtain⟨c,z⟩:=Te<|UT.mpr ⟨h,I⟩;exact⟨c,(Ng.mp z).1,z⟩
theorem JM{c d:Nat}(h:c<gb S E N r) : ∃j,(j4 S E N r)[c]? = bQ j/\(j4 S E N r).getD c d=j/\j<N/\(ck S E N j).has r=bX:=by have e:=MS (l:=j4 S E N r) h;obtain⟨a,b⟩:=UT.mp<|Rc e;exact⟨_,e,by rw[MU,e];rfl,a,b⟩
theorem Yr{c z j:Nat}(C:(j4 S E N r)[c]? = bQ j)(I:(j4 S E N r)[z]? = bQ j):c=z:=by exact(List.getElem?_inj (Ng.mp C).1 lS).mp (C.trans I.symm)
theorem XE{c j:Nat}(h:c<gb S E N r):(ck S E N j).v r c=if (j4 S E N r)[c]? = bQ j then 1 else 0:=by
 obtain⟨I,a,O,_⟩:=JM (d:=N) h;show(if (j4 S E N r).getD c N=j then (1:Int)else 0)=_;rw[a,O];by_cases z:I=j
 ·rw[UJ z,UJ (by rw[z])]
 ·rw[UY z,UY (λq=>z<|NN q)]
theorem nE(J:Pr p)(C : ∀j,j<N->S j<=E j/\E j<=m):o7 p w (gb S E N) (pB w S E N) m N (ck S E N):=by
 have two:=J.two;refine⟨λj O=>⟨by show 1<=_+1;omega,by show S j+(E j - S j+1)<=m+1;have:=C j O;omega,λr i _ _=>?_,λk H l i g=>?_⟩,λr u v=>?_,λr u t B j O l=>?_,λr u=>rfl⟩
 ·show 0<=(if _ then (1:Int)else 0)/\(if _ then (1:Int)else 0)<p
  split<;>omega
 ·obtain⟨U,a,b⟩:=WO O l
  obtain⟨A,h,x,y,o⟩:=JM (d:=N) g;have e:app (pB w S E N k) (gb S E N<|zM w k) ((ck S E N j).v (zM w k)) i=pB w S E N k i U:=by
   unfold app;rw[zN (f:=λc=>pB w S E N k i c*(ck S E N j).v (zM w k) c) a λc s I=>by rw[XE s,UY<|λq=>I<|Yr q b,NK]]
   rw[XE a,UJ b,OL]
  rw[e];congr 1;unfold pB;rw[show(j4 S E N<|zM w k).getD U (N+1)=j by rw[MU,b];rfl];by_cases n:(ck S E N j).has (zO w k)=bX
  ·rw[UJ n];rfl
  ·rw[UY n,x,UY (λz=>n<|by rw[<- z];exact o)]
 ·refine⟨λj=>zg (λc=>if (j4 S E N r)[c]? = bQ j then v c else 0)<|gb S E N r,λi g=>?_⟩
  obtain⟨A,h,x,y,o⟩:=JM (d:=N) g;rw[zN (f:=λj=>if (ck S E N j).has r=bX then zg (λc=>if (j4 S E N r)[c]? = bQ j then v c else 0) (gb S E N r)*(ck S E N j).v r i else 0) y λj O I=>by rw[XE g,show(if (j4 S E N r)[i]? = bQ j then (1:Int)else 0)=0 from UY<|λq=>I<|NN<|q.symm.trans h,NK,ite_self]]
  rw[UJ o,XE g,UJ h,OL,zN (f:=λc=>if (j4 S E N r)[c]? = bQ A then v c else 0) g λc s I=>UY λq=>I<|Yr q h,UJ h]
 ·obtain⟨U,a,b⟩:=WO O l
  have:=B U a;rw[zN (f:=λj=>if (ck S E N j).has r=bX then t j*(ck S E N j).v r U else 0) O λF G I=>by rw[XE a,show(if (j4 S E N r)[U]? = bQ F then (1:Int)else 0)=0 from UY<|λq=>I<|NN<|q.symm.trans b,NK,ite_self]]at this
  rw[UJ l,XE a,UJ b,OL]at this;exact this
end
section
variable{p:Int}{m:Nat}{w:UK}{wd:UX}{T:UW}
noncomputable def dn(w:UK)(wd:UX)(T:UW)(m:Nat):List D:=(MO m).map λk=>D.lst<|gW (eh w wd k) (d8 w wd k)<|T k
@[simp] theorem AL(m):(dn w wd T m).length=m:=by simp[dn]
abbrev rc(p:Int)(m:Nat)(w:UK)(wd:UX)(T:UW)(acc:List D)(c5 c6 c7 c8:Cell):Ctx:=[.val (.int p),.val (.str (j5 m w)),.val (.lst (zB (m+1) λk=>(wd k:Int))),.val (.lst (dn w wd T m)),.own acc,c5,c6,c7,c8]
end
noncomputable def stN(M:Nat):List (Nat×Nat):=(MO M).flatMap λi=>(OB i<|M - i).map λj=>(i,j)
noncomputable def kI(s:Nat×Nat):List Int:=[(s.1:Int),(s.2:Int)]
noncomputable def kD(s:Nat×Nat):D:= .tup [.int s.1,.int s.2]
theorem DO:s∈stN M↔s.1<=s.2/\s.2<M:=by
 unfold stN;simp only[List.mem_flatMap,MR,Nq,PR];constructor
 ·rintro⟨i,a,j,z,rfl⟩
  exact⟨z.1,by show j<M;omega⟩
 ·intro h
  exact⟨s.1,by omega,s.2,⟨h.1,by omega⟩,rfl⟩
theorem lT : ∀M:Fin 7,(stN M.val).Nodup/\((stN M.val).map kI).Nodup/\(stN M.val).length<=21:=by decide +kernel
theorem Gd : ∀M:Fin 7,qJ [.int (M.val:Int)]=bQ (.own<|(stN M.val).map kD)
 | ⟨0,_⟩=>by kernel_rfl
 | ⟨1,_⟩=>by kernel_rfl
 | ⟨2,_⟩=>by kernel_rfl
 | ⟨3,_⟩=>by kernel_rfl
 | ⟨4,_⟩=>by kernel_rfl
 | ⟨5,_⟩=>by kernel_rfl
 | ⟨6,_⟩=>by kernel_rfl
noncomputable def UI:=jF 3<|zK qu (sL (zf 0) (xH<|zb (zK Xi (zf 1)<|zy<|.int 1)<|zb (zf 2) zI)<|zy<|.int 0)<|sL (zf 0) (xH<|zb (zf 1)<|zb (zK qu (zf 2)<|zy<|.int 1) zI)<|zy<|.int 0
noncomputable def R6:=jR<|zK qu (zK Xi (Gy (zf 0)<|xH<|zb (zf 1)<|zb (zf 2) zI)<|zf 3)<|sL (zf 0) (xH<|zb (zK Xi (zf 1)<|zy<|.int 1)<|zb (zK qu (zf 2)<|zy<|.int 1) zI)<|zy<|.int 0
noncomputable def xK:List Int->Int
 | []=>0
 | x::r=>x+xK r
theorem JJ : ∀L:List Int,bj (L.map D.int)=bQ (xK L)
 | []=>rfl
 | x::L=>by show(bj<|L.map D.int).map _=_;rw[JJ L];rfl
noncomputable def m9(K:List (Nat×Nat))(a b:Int):Nat:=K.countP λx=>decide ((x.1:Int)<=a) && decide (b<=(x.2:Int))
noncomputable def t4(K:List (Nat×Nat))(s:Nat×Nat):Nat:=K.countP λx=>decide<|x=s
theorem Jx(x:Nat×Nat)(K:List (Nat×Nat))(a b:Int):(m9 (x::K) a b:Int)=(m9 K a b:Int)+if (x.1:Int)<=a/\b<=(x.2:Int)then 1 else 0:=by
 unfold m9;rw[SE];by_cases d:(x.1:Int)<=a
 ·by_cases e:b<=(x.2:Int)
  ·rw[UJ (show(decide ((x.1:Int)<=a) && decide (b<=(x.2:Int)))=bX by simp only[decide_eq_true d,decide_eq_true e];rfl),UJ ⟨d,e⟩];rfl
  ·rw[UY (show ¬(decide ((x.1:Int)<=a) && decide (b<=(x.2:Int)))=bX by simp only[decide_eq_false e,Bool.and_false];decide),UY λz=>e z.2];rfl
 ·rw[UY (show ¬(decide ((x.1:Int)<=a) && decide (b<=(x.2:Int)))=bX by simp only[decide_eq_false d,Bool.false_and];decide),UY λz=>d z.1];rfl
theorem nv(x s:Nat×Nat)(K:List (Nat×Nat)):(t4 (x::K) s:Int)=(t4 K s:Int)+if (x.1=s.1/\x.2=s.2)then 1 else 0:=by
 unfold t4;rw[SE];by_cases h:x=s
 ·rw[UJ (decide_eq_true h),UJ (by rw[h];exact⟨rfl,rfl⟩)];rfl
 ·rw[UY (by simpa using h),UY λz=>h (Ua z.1 z.2)];rfl
theorem QC(s:Nat×Nat) : ∀K:List (Nat×Nat),(m9 K s.1 s.2:Int) - ((m9 K ((s.1:Int) - 1) s.2:Int)+(m9 K s.1 ((s.2:Int)+1):Int))+(m9 K ((s.1:Int) - 1) ((s.2:Int)+1):Int)=(t4 K s:Int)
 | []=>rfl
 | x::K=>by
  have z:=QC s K;rw[Jx,Jx,Jx,Jx,nv];generalize (m9 K s.1 s.2:Int)=I at *;generalize (m9 K ((s.1:Int) - 1) s.2:Int)=O at *;generalize (m9 K s.1 ((s.2:Int)+1):Int)=c3 at *;generalize (m9 K ((s.1:Int) - 1) ((s.2:Int)+1):Int)=c4 at *;generalize (t4 K s:Int)=c5 at *
  repeat' split
  all_goals omega
section
variable{p:Int}{w:UK}{wd:UX}{T:UW}{m N:Nat}{A:Nat->ef}
noncomputable def nH(A:Nat->ef)(N:Nat):List (Nat×Nat):=(MO N).map λj=>((A j).s,(A j).s+(A j).n - 1)
theorem KA(D:o7 p w wd T m N A) : ∀x,x∈nH A N->x∈stN (m+1):=λx a=>by obtain⟨j,z,rfl⟩:=Nq.mp a;have b:=(D.ok j<|MR.mp z).n1;have d:=(D.ok j<|MR.mp z).le;exact DO.mpr (by show(A j).s<=(A j).s+(A j).n - 1/\(A j).s+(A j).n - 1<m+1;omega)
theorem pQ(D:o7 p w wd T m N A)(I:i<=j):(nh A N i j).length=m9 (nH A N) i j:=by unfold nh m9 nH;rw[<- NJ,Rr];refine ON λk z=>?_;have a:=(D.ok k<|MR.mp z).n1;simp only[Nb,Function.comp_def,decide_eq_true_eq];rw[il,il];omega
end
noncomputable def u1:=(jF 1<|zE jy<|zb (zf 0)<|zb (zy<|.int 0) zI)
noncomputable def u2:=(jF 2<|cq (js<|j3<|zb (zy<|.int 2)<|zb (zy<|.int 3)<|zb (zy<|.int 5)<|zb (zy<|.int 7) zI)<|zK yv (zf 1)<|zy<|.int 4)
noncomputable def u3:=(wA (.tp [3,4])<|cq (js<|j3<|zb (xH<|zb (zy<|.int 4)<|zb (zy<|.int 2) zI)<|zb (xH<|zb (zy<|.int 3)<|zb (zy<|.int 2) zI)<|zb (xH<|zb (zy<|.int 2)<|zb (zy<|.int 2) zI)<|zb (xH<|zb (zy<|.int 2)<|zb (zy<|.int 2) zI)<|zb (xH<|zb (zy<|.int 6)<|zb (zy<|.int 1) zI)<|zb (xH<|zb (zy<|.int 5)<|zb (zy<|.int 1) zI)<|zb (xH<|zb (zy<|.int 4)<|zb (zy<|.int 1) zI)<|zb (xH<|zb (zy<|.int 3)<|zb (zy<|.int 1) zI) zI)<|zK yv (zf 1)<|zy<|.int 8)
theorem BP{c:Int}(h:0<=c) : ∃q:Nat,Pr (q:Int)/\([D.int 2,.int 3,.int 5,.int 7])[(c%4).toNat]? = bQ (.int q)/\ec 4 (c%4)=bQ (c%4).toNat:=by
 have a:=NM c (show(4:Int)≠0 by decide);have b:=Nx c (show(0:Int)<4 by decide);obtain⟨r,z⟩:=Rx a;rw[z];have I:r<4:=by omega
 rw[j6,UJ I,Oi];rcases (by omega:r=0\/r=1\/r=2\/r=3)with e | e | e | e<;>subst e
 ·exact⟨2,.inl rfl,rfl,rfl⟩
 ·exact⟨3,.inr<|.inl rfl,rfl,rfl⟩
 ·exact⟨5,.inr<|.inr<|.inl rfl,rfl,rfl⟩
 ·exact⟨7,.inr<|.inr<|.inr rfl,rfl,rfl⟩
noncomputable def bS(bs:List (Int×Int))(j:Nat):Nat:=(bs.getD j (0,0)).1.toNat
noncomputable def bE(bs:List (Int×Int))(j:Nat):Nat:=(bs.getD j (0,0)).2.toNat
abbrev bW(bs:List (Int×Int)):Nat->Nat:=gb (bS bs) (bE bs) bs.length
abbrev bT(w:UK)(bs:List (Int×Int)):Nat->Nat->Nat->Int:=pB w (bS bs) (bE bs) bs.length
abbrev bL(bs:List (Int×Int))(r:Nat):List Nat:=j4 (bS bs) (bE bs) bs.length r
section
variable{bs:List (Int×Int)}{m:Nat}{w:UK}
theorem iD(h : ∀b∈bs,yj ((m+1:Nat):Int) b){j:Nat}(z:j<bs.length):bs[j]? = bQ ((bS bs j:Int),(bE bs j:Int))/\bS bs j<=bE bs j/\bE bs j<=m:=by have e:=MS z;have I:=h _<|Rc e;obtain⟨a,d,O⟩:=I;unfold bS bE;rw[MU,e,RF];refine⟨?_,by omega,by omega⟩;congr 1;exact Ua (by dsimp only;omega) (by dsimp only;omega)
end
section
variable{bs:List (Int×Int)}{m:Nat}
theorem iC(h : ∀b∈bs,yj ((m+1:Nat):Int) b):bs=(MO bs.length).map λj=>((bS bs j:Int),(bE bs j:Int)):=by
 apply PX;intro j;by_cases z:j<bs.length
 ·rw[(iD h z).1];simp[z]
 ·rw[OM ⋯,OM (by simpa using z)]
end
theorem YO : ∀bs:List (Int×Int),m6 (z6 bs)=bX
 | []=>rfl
 | b::bs=>by have z:=YO bs;unfold z6 at z ⊢;rw[Nt];show(hX _ && m6 _)=bX;rw[z];rfl
section
variable{p:Int}{w:UK}{wd:UX}{T:UW}{m N:Nat}{A:Nat->ef}
theorem nu{M:Nat}{K I:List (Nat×Nat)}(C : ∀x,x∈K->x∈stN M)(J : ∀x,x∈I->x∈stN M)(h : ∀a b:Nat,a<=b->b<M->m9 K a b=m9 I a b){s:Nat×Nat}(hs:s.1<=s.2):t4 K s=t4 I s:=by
 have z : ∀{L:List (Nat×Nat)} {a b:Int},(∀x,x∈L->x∈stN M)->a<0\/(M:Int)<=b->m9 L a b=0:=λ{L a b} U d=>by unfold m9;rw[RV];intro x e q;have:=DO.mp<|U x e;simp only[Nb,decide_eq_true_eq]at q;omega
 have O : ∀{a b:Int},a<=b->m9 K a b=m9 I a b:=λ{a b} d=>by
  by_cases c:a<0\/(M:Int)<=b
  ·rw[z C c,z J c]
  ·have:=h a.toNat b.toNat ⋯ ⋯
   rw[PD ⋯,PD ⋯]at this;exact this
 have f:=QC s K;have g:=QC s I;rw[O ⋯,O ⋯,O ⋯,O ⋯]at f;omega
end
section
variable{p:Int}{w:UK}{wd:UX}{T:UW}{m N N':Nat}{A A':Nat->ef}{d n:Nat}
noncomputable def Dv(w:UK)(A:Nat->ef)(d n:Nat)(z:Bool)(j:Nat):Bool:=(A j).has d && ((!z && (A j).has (d+n)) || (!(A j).has (d+n) && !w ((A j).s+(A j).n - 1)))
noncomputable def Dw(w:UK)(A:Nat->ef)(d n:Nat)(z:Bool)(j:Nat):Vc:=if Dv w A d n z j=bX then (A j).v d else λ_=>0
theorem uf(D:o7 p w wd T m N A)(C:d+n<=m){z:Bool}{j:Nat}(O:j<N) : ∃y:Vc,Wk p w wd T d n (Dw w A d n z j) y/\(z=bX->∀i,y i=0):=by
 unfold Dw;by_cases h:Dv w A d n z j=bX
 ·rw[UJ h]
  unfold Dv at h;simp only[Nb,OC,Pa]at h;obtain⟨a,b⟩:=h;rcases b with⟨U,I⟩ | ⟨I,e⟩
  ·exact⟨_,JC (D.ok j O) a n C I,λq=>by rw[q]at U;cases U⟩
  ·exact⟨_,Wp (D.ok j O) a e n C I,λ_ _=>rfl⟩
 ·rw[UY h];exact⟨_,QP n,λ_ _=>rfl⟩
theorem fF(D:o7 p w wd T m N A)(C:d+n<=m)(z:Bool)(u:Vc):Span p (wd d) (dr N<|Dw w A d n z) u ↔ ∃y:Vc,Wk p w wd T d n u y/\(z=bX->∀i,y i%p=0):=by
 constructor
 ·intro h
  induction h with
  | zero h=>exact⟨_,oE (QP n) λi o=>by rw[h i o];simp,λ_ _=>by simp⟩
  | step B _ e E=>
   obtain⟨y,f,k⟩:=E;obtain⟨j,U,rfl⟩:=B;obtain⟨H,g1,g2⟩:=uf D C (z:=z) U;refine⟨_,oE (iR n _ f g1) e,λq i=>?_⟩;rw[g2 q i,NK,Int.add_zero];exact k q i
 ·rintro⟨y,f,k⟩
  obtain⟨a,r⟩:=D.sp d ⋯ u;obtain⟨b,l,t⟩ : ∃b:Vc,(∀i,i<wd (d+n)->y i%p=zg (λj=>if (A j).has (d+n)=bX then b j*(A j).v (d+n) i else 0) N%p)/\(z=bX->∀j,b j=0):=by
   cases z with
   | false=>
    obtain⟨b,l⟩:=D.sp (d+n) C y;exact⟨b,l,λq=>nomatch q⟩
   | true=>exact⟨λ_=>0,λi _=>by rw[k rfl i,zw (g:=λ_=>0) λj _=>by simp,zH];simp,λ_ _=>rfl⟩
  have x:=Zz D n C f r l;refine(Span.sum (u:=Dw w A d n z) a (m:=N) λj U=> .gen ⟨j,U,rfl⟩).congr λi o=>?_;rw[r i o];refine zL λj U=>?_;unfold Dw;by_cases O:(A j).has d=bX
  ·obtain⟨F,G⟩:=x j U O
   rw[UJ O];by_cases I:Dv w A d n z j=bX
   ·rw[UJ I]
   ·rw[UY I,NK]
    have:a j%p=0:=by
     unfold Dv at I;rw[O]at I;cases h4:(A j).has (d+n)with
     | true=>
      rw[h4]at I;cases z with
      | true=>rw[F h4,t rfl j];simp
      | false=>simp at I
     | false=>
      rw[h4]at I;cases h5:w ((A j).s+(A j).n - 1)with
      | true=>exact G h4 h5
      | false=>rw[h5]at I;simp at I
    rw[MX,this];simp
  ·have:Dv w A d n z j=cE:=by unfold Dv;rw[Bool.not_eq_true]at O;rw[O];rfl
   rw[UY O,this];simp
theorem uM(I:Pr p)(D:o7 p w wd T m N A)(U:o7 p w wd T m N' A'){a b:Nat}(C:a<=b)(O:b<=m):m9 (nH A N) a b=m9 (nH A' N') a b:=by obtain⟨n,rfl⟩ : ∃n,b=a+n:=⟨b - a,by omega⟩;obtain⟨s,_,B,l,e,r⟩:=ZX (n:=wd a) I N<|Dw w A a n cE;obtain⟨q,_,j,E,d,o⟩:=ZX (n:=wd a) I N<|Dw w A a n bX;have g : ∀u,Span p (wd a) (dr s B) u ↔ ∃z,Wk p w wd T a n u z:=λu=>(r u).trans ((fF D O cE u).trans ⟨λ⟨y,h,_⟩=>⟨y,h⟩,λ⟨y,h⟩=>⟨y,h,λq=>nomatch q⟩⟩);have f : ∀u,Span p (wd a) (dr q j) u↔Wk p w wd T a n u λ_=>0:=λu=>(o u).trans ((fF D O bX u).trans ⟨λ⟨y,h,k⟩=>EK h λi _=>by rw[k rfl i];simp,λh=>⟨_,h,λ_ _=>by simp⟩⟩);have t:=av I D O e g d f;have x:=av I U O e g d f;rw[<- pQ D C,<- pQ U C];omega
theorem fz(O:Pr p)(D:o7 p w wd T m N A)(I:o7 p w wd T m N' A'):(nH A N).Perm (nH A' N'):=by
 refine RP.mpr λs=>?_;have e : ∀K:List (Nat×Nat),K.count s=t4 K s:=λK=>by unfold t4 List.count;exact ON λx _=>by simp
 rw[e,e];by_cases d:s.1<=s.2
 ·exact nu (M:=m+1) (KA D) (KA I) (λa b f i=>uM O D I f ⋯) d
 ·have z : ∀K:List (Nat×Nat),(∀x,x∈K->x∈stN (m+1))->t4 K s=0:=λK h=>by
   unfold t4;rw[RV];intro x g q;have:=(DO.mp<|h x g).1;have q:=of_decide_eq_true q;rw[q]at this;exact d this
  rw[z _ (KA D),z _ (KA I)]
theorem mI{bs:List (Int×Int)}(h : ∀b∈bs,yj ((m+1:Nat):Int) b)(r:Nat):qr bs (r:Int)=bL bs r:=by
 unfold qr bL j4 f6;refine TK λj z=>?_;have z:=MR.mp z;obtain⟨e,a,d⟩:=iD h z;have I:bs.getD j (0,0)=((bS bs j:Int),(bE bs j:Int)):=by rw[MU,e];rfl
 rw[I];show Aq _ _=(decide (bS bs j<=r) && decide (r<bS bs j+(bE bs j - bS bs j+1)));unfold Aq;dsimp only;congr 1
 ·exact decide_eq_decide.mpr ⋯
 ·exact decide_eq_decide.mpr ⋯
end
theorem lO:jG=jo 6 (zR (xB 4<|j3 zI)<|zR (yB (zT<|zG<|zf 1) (.nm 5)<|qv 4<|qh ba)<|v9 4):=rfl
theorem Kx{h w:Nat}{f g:UV}(e : ∀i j,i<h->j<w->f i j=g i j):jl h w f=jl h w g:=by unfold jl;refine Nj λi a=>?_;rw[Zo λj z=>e i j (MR.mp a) z]
noncomputable def FP(h n:Nat)(f:UV)(X:D):Prop:=∃(a:Sk) (r:Nat->D),jj X=bQ (a,(MO h).map r)/\∀i,i<h->∃z,jj (r i)=bQ (z,zB n<|f i)
theorem fS(h n:Nat)(f:UV):FP h n f (.lst<|jl h n f):=⟨.L,λi=>D.lst<|zB n<|f i,rfl,λi _=>⟨.L,rfl⟩⟩
theorem Kw(h n:Nat)(f:UV):FP h n f (.tup<|jc h n f):=⟨.T,λi=>D.tup<|zB n<|f i,rfl,λi _=>⟨.T,rfl⟩⟩
section
variable{p:Int}{h n w:Nat}{f g:UV}{X Y:D}
theorem X7(p0:0<p)(p7:p<=7)(hh:h<=60)(hn:n<=60)(hw:w<=60)(S:FP h n f X)(Z:FP n w g Y)(L : ∀i k,i<h->k<n->0<=f i k/\f i k<p):jG [.int p,X,Y,.int (w:Int)]=bQ (.own<|jl h w λi j=>zg (λk=>f i k*g k j) n%p):=by
 have hl:=jg;have U:n<=lim:=by omega
 have y:w<=lim:=by omega
 obtain⟨κ,r,M,Q⟩:=S;obtain⟨_w,r',N,J⟩:=Z;have K : ∀i j:Nat,i<h->j<w->rL [.val (.int (j:Int)),.val<|.int p,.val Y,.val (r i)]=bQ (zB n λk=>f i k*g k j):=λi j u O=>by
  obtain⟨_x,A⟩:=Q i u;have l:zS (xY<|zh 3) [Cell.val (.int (j:Int)),.val<|.int p,.val Y,.val (r i)]=bQ ((MO n).map λ(k:Nat)=>D.int (k:Int)):=by have z:inR (n:Int)=bX:=KC U;simp[A,z,j9];rw[jw]
  unfold rL;rw[j7,l];simp only[MW,Nf,Nu,U,if_true];rw[show jn 1 [0,2,3] [Cell.val (.int (j:Int)),.val<|.int p,.val Y,.val (r i)]=[Cell.no,.val<|.int (j:Int),.val Y,.val (r i)]from rfl,jw];refine zC _ _ λk I=>zD (γ1:=[.val (.int (k:Int)),.val<|.int (j:Int),.val Y,.val (r i)]) rfl rfl ?_;have I:=MR.mp I;obtain⟨_y,P⟩:=J k I;have G:cq (zh 3) (zf 0) [Cell.val (.int (k:Int)),.val<|.int (j:Int),.val Y,.val (r i)]=bQ (.int<|f i k):=by show((jj<|r i).bind λa=>(ec a.2.length (k:Int)).bind λx=>a.2[x]?)=_;rw[A];show((ec (zB n<|f i).length (k:Int)).bind λx=>(zB n<|f i)[x]?)=_;rw[KL,j6,UJ I];exact Zn _ I
  have H:cq (zG<|cq (zh 2)<|zf 0) (zf 1) [Cell.val (.int (k:Int)),.val<|.int (j:Int),.val Y,.val (r i)]=bQ (.int<|g k j):=by show((((jj Y).bind λa=>(ec a.2.length (k:Int)).bind λx=>a.2[x]?).bind jj).bind λa=>((bQ (D.int (j:Int))).bind ix).bind λi=>(ec a.2.length i).bind λx=>a.2[x]?)=_;rw[N];show(((ec ((MO n).map r').length (k:Int)).bind λx=>((MO n).map r')[x]?).bind jj).bind _=_;rw[Nf,Nu,j6,UJ I];show((((MO n).map r')[k]?).bind jj).bind _=_;rw[NC,Pd I];show(jj<|r' k).bind _=_;rw[P];show((ec (zB w<|g k).length (j:Int)).bind λx=>(zB w<|g k)[x]?)=_;rw[KL,j6,UJ O];exact Zn _ O
  have b:=L i k u I;have c:ZT (f i k) (g k j)=bX:=vG _ _ ⋯ ⋯;rw[yi,G,H];simp[c]
 have row : ∀i:Nat,i<h->∀o,ba [.val (.int p),.val X,.val Y,.val<|.int (w:Int),o,.val (r i)]=bQ (zB w λj=>zg (λk=>f i k*g k j) n%p):=λi u o=>by
  have l:zS (zf 3) [.val (.int p),.val X,.val Y,.val<|.int (w:Int),o,.val (r i)]=bQ ((MO w).map λ(k:Nat)=>D.int (k:Int)):=by have z:inR (w:Int)=bX:=KC y;simp[z,j9];rw[jw]
  unfold ba;rw[j7,l];simp only[MW,Nf,Nu,y,if_true];rw[show jn 1 [0,2,5] [Cell.val (.int p),.val X,.val Y,.val<|.int (w:Int),o,.val (r i)]=[Cell.no,.val<|.int p,.val Y,.val (r i)]from rfl,jw];refine zC _ _ λj O=>zD (γ1:=[.val (.int (j:Int)),.val<|.int p,.val Y,.val (r i)]) rfl rfl ?_;have e:=K i j u<|MR.mp O;rw[yi,iH,xQ,e];simp[JK,p0]
 let m:Cell->Cell->Ctx:=λo t=>[.val (.int p),.val X,.val Y,.val<|.int (w:Int),o,t];obtain⟨γ1,e,t,rfl⟩:=vC (T:= .nm 5) (F:=qv 4<|qh ba) (λs γ'=>∃t,γ'=m (.own<|(MO s).map λi=>D.lst<|zB w λj=>zg (λk=>f i k*g k j) n%p) t) ((MO h).map r) 0 (m (.own []) .no) ⟨.no,rfl⟩ (by
  rintro s d γ' B ⟨t,rfl⟩;rw[OO]at *;obtain⟨R,rfl⟩:s<h/\d=r s:=by rw[NC]at B;obtain⟨k',q1,q2⟩:=Sz.mp B;obtain⟨C,E⟩:=Ng.mp q1;rw[Nu]at C;rw[List.getElem_range]at E;subst E;exact⟨C,q2.symm⟩
  refine⟨m (.own<|(MO<|s+1).map λi=>D.lst<|zB w λj=>zg (λk=>f i k*g k j) n%p)<|.val<|r s,.inl ?_,_,rfl⟩;show qv 4 (qh ba) (m (.own<|(MO s).map λi=>D.lst<|zB w λj=>zg (λk=>f i k*g k j) n%p)<|.val<|r s)=_;have W:((MO s).map λi=>D.lst<|zB w λj=>zg (λk=>f i k*g k j) n%p).length<lim:=by simp;omega
  rw[yI,yh,row s R];show(if _<lim then _ else none)=_;rw[UJ W,Kh s λi=>D.lst (zB w λj=>zg (λk=>f i k*g k j) n%p)];rfl)
 rw[lO];refine je<|zv (γ':=m (.own []) .no) rfl<|zv (γ':=m (.own<|jl h w λi j=>zg (λk=>f i k*g k j) n%p) t) ?_ rfl;rw[Jb,show zT (zG<|zf 1) (m (.own []) .no)=bQ ((MO h).map r)by
  show(jj X).map (·.2)=_;rw[M];rfl]
 rw[OO,Nf,Nu]at e;exact e
end
noncomputable def mM(p:Int)(n:Nat)(f g:UV):Nat->Nat->Int:=λi j=>zg (λk=>f i k*g k j) n%p
section
variable{p:Int}{n:Nat}{f f' g g':UV}{i j:Nat}
theorem jZ(p:Int)(n w:Nat)(a b c:UV)(i j:Nat):mM p n a (mM p w b c) i j=mM p w (mM p n a b) c i j:=du p a b c n w i j
theorem jq(C : ∀k,k<n->f i k=f' i k)(I : ∀k,k<n->g k j=g' k j):mM p n f g i j=mM p n f' g' i j:=by unfold mM;rw[zw λk z=>by rw[C k z,I k z]]
theorem V2(z:0<p)(n:Nat)(f g:UV)(i j:Nat):0<=mM p n f g i j/\mM p n f g i j<p:=⟨NM _ ⋯,Nx _ z⟩
theorem XB(z:j<n)(f:UV)(i:Nat):mM p n f i3 i j=f i j%p:=by unfold mM;rw[zN (i:=j) z λk _ I=>by unfold i3;rw[UY I];simp];simp[i3]
theorem Cr(C:i<n)(g:UV)(j:Nat):mM p n i3 g i j=g i j%p:=by unfold mM;rw[zN (i:=i) C λk _ z=>by unfold i3;rw[UY (Oa z)];simp];simp[i3]
theorem vx(two:2<=p)(u:Jc p n f g)(C:i<n)(z:j<n):mM p n f g i j=i3 i j:=by have:=u i j C z;unfold mM;rw[this];unfold i3;split<;>first | exact Nz ⋯ ⋯ | rfl
theorem WG(p:Int)(w:UK)(wd:UX)(f g T:UW)(k i j:Nat):lN p w wd f g T k i j=mM p (wd<|zM w k) (mM p (wd<|zO w k) (f<|zO w k)<|T k) (g<|zM w k) i j:=by unfold lN mM;congr 2;funext b;rw[Om];congr 3;funext a;exact Om _ _
theorem YH(two:2<=p){z I:Nat}{S J O L Y C B T1 T2:UV}(u1:Jc p z J S)(u2:Jc p I Y L)(b2 : ∀i k,i<z->k<z->0<=O i k/\O i k<p)(e1 : ∀i j,i<z->j<I->T1 i j=mM p I (mM p z S B) C i j)(e2 : ∀i j,i<z->j<I->T2 i j=mM p I (mM p z O B) Y i j)(Z:i<z)(hj:j<I) :
 mM p z (mM p z O J) T1 i j=mM p I T2 (mM p I L C) i j:=by
 have d:0<p:=by omega
 have l:mM p z (mM p z O J) T1 i j=mM p I (mM p z O B) C i j:=by rw[jq (f':=mM p z O J) (g':=mM p I (mM p z S B) C) (λ_ _=>rfl) (λk U=>e1 k j U hj),jZ];refine jq (λc a=>?_) λ_ _=>rfl;rw[jZ];refine jq (λk U=>?_) λ_ _=>rfl;rw[<- jZ,jq (f':=O) (g':=i3) (λ_ _=>rfl)<|λx b=>vx two u1 b U,XB U,Nz (b2 i k Z U).1 (b2 i k Z U).2]
 have r:mM p I T2 (mM p I L C) i j=mM p I (mM p z O B) C i j:=by rw[jq (f':=mM p I (mM p z O B) Y) (g':=mM p I L C) (λk U=>e2 i k Z U) (λ_ _=>rfl),jZ];refine jq (λc a=>?_) λ_ _=>rfl;rw[<- jZ,jq (f':=mM p z O B) (g':=i3) (λ_ _=>rfl)<|λx b=>vx two u2 b a,XB a];have:=V2 d z O B i c;exact Nz this.1 this.2
 rw[l,r]
theorem VC(two:2<=p){O S C J:UV}(u1:Jc p n S O)(u2:Jc p n C J)(b2 : ∀i k,i<n->k<n->0<=C i k/\C i k<p)(L:i<n)(I:j<n):mM p n (mM p n C S) (mM p n O J) i j=i3 i j:=by
 rw[jZ,jq (f':=C) (g':=J) (λk z=>?_) λ_ _=>rfl]
 ·exact vx two u2 L I
 ·rw[<- jZ,jq (f':=C) (g':=i3) (λ_ _=>rfl)<|λx a=>vx two u1 a z,XB z,Nz (b2 i k L z).1 (b2 i k L z).2]
end
section
variable{p:Int}{m:Nat}{w:UK}{wd:UX}{f g T1 T2 F1 G1 F2 G2:UW}{bs:List (Int×Int)}
theorem lA(n:Nat)(f g:Nat->D):Jg ((MO n).map f) ((MO n).map g)=(MO n).map λi=>D.tup [f i,g i]:=by unfold Jg;rw[Dl,NB];rfl
theorem dX(I:0<p)(J:p<=7)(C:m<=60)(O : ∀k,wd k<=60)(U : ∀k i j,k<m->i<wd k->j<wd k->0<=g k i j/\g k i j<p):xf [.int p,.lst<|jr m wd f,.lst (jr m wd g)]=bQ (.own<|jr m wd λk=>mM p (wd k) (f k)<|g k):=by
 have s:=jg;have b:m<=lim:=by omega
 have n:zX (.tp [0,1]) jz (zE k3<|zb (zf 2)<|zb (zf 0)<|zb (zf 1) zI) [Cell.no,.no,.val (.int p)] ((MO m).map λk=>D.tup [qN (wd k) (wd k) (f k),qN (wd k) (wd k) (g k)])=bQ (jr m wd λk=>mM p (wd k) (f k)<|g k):=by
  unfold jr;refine zC _ _ λk z=>zD (γ1:=[.val (qN (wd k) (wd k)<|f k),.val<|qN (wd k) (wd k)<|g k,.val (.int p)]) rfl rfl ?_;have z:=MR.mp z;have t:=O k;have e:=Vy (p:=p) (h:=wd k) (m:=wd k) (w:=wd k) (f k) (g k) I ⋯ ⋯ ⋯ (λi j o r=>by have:=U k i j z o r;omega);have l:(qN (wd k) (wd k) λi j=>zg (λx=>g k x j*f k i x) (wd k)%p)=qN (wd k) (wd k) (mM p (wd k) (f k)<|g k):=by congr 1;funext i j;unfold mM;rw[zw λx _=>Om _ _]
  rw[l]at e;simp[e]
 unfold xf;refine je ?_;show ZD _ [Cell.val (.int p),.val<|.lst<|jr m wd f,.val (.lst<|jr m wd g)]=_;have a:K6 (zf 1) (zf 2) [Cell.val (.int p),.val<|.lst<|jr m wd f,.val (.lst<|jr m wd g)]=bQ ((MO m).map λk=>D.tup [qN (wd k) (wd k) (f k),qN (wd k) (wd k) (g k)]):=by show bQ (Jg (jr m wd f)<|jr m wd g)=_;unfold jr;rw[lA]
 rw[show ZD (zU (K6 (zf 1)<|zf 2) (.tp [0,1]) 2 [0] jz (zE k3<|zb (zf 2)<|zb (zf 0)<|zb (zf 1) zI)) [Cell.val (.int p),.val<|.lst<|jr m wd f,.val (.lst<|jr m wd g)]=(zU (K6 (zf 1)<|zf 2) (.tp [0,1]) 2 [0] jz (zE k3<|zb (zf 2)<|zb (zf 0)<|zb (zf 1) zI) [Cell.val (.int p),.val<|.lst<|jr m wd f,.val (.lst<|jr m wd g)]).map (λd=>Fl.ret<|.own d)from rfl,j7,a];simp only[MW,Nf,Nu,b,if_true];rw[show jn 2 [0] [Cell.val (.int p),.val<|.lst<|jr m wd f,.val (.lst<|jr m wd g)]=[Cell.no,.no,.val (.int p)]from rfl,n];rfl
theorem Ag(L:0<p)(S:p<=7)(Y:m<=50)(J : ∀k,wd k<=60)(b1 : ∀k i j,k<m+1->i<wd k->j<wd k->0<=G1 k i j/\G1 k i j<p)(b2 : ∀k i j,k<m+1->i<wd k->j<wd k->0<=G2 k i j/\G2 k i j<p)
 (C:qc [qO p m w wd T1]=bQ (.val<|kQ bs (vc m wd G1)<|vc m wd F1)) (U:qc [qO p m w wd T2]=bQ (.val<|kQ bs (vc m wd G2)<|vc m wd F2)) :
 y6 [qO p m w wd T1,qO p m w wd T2]=bQ (.val (.tup [.str "alike",.lst (jr (m+1) wd λk=>mM p (wd k) (F2 k) (G1 k)),.lst (jr (m+1) wd λk=>mM p (wd k) (F1 k) (G2 k))])):=by
 have n:=jg;have b:=(QK (p:=p) (w:=w) (wd:=wd) (T:=T1) (wd':=wd) (T':=T2)<|show m<=900 by omega).2;have h:=dX (f:=F2) (g:=G1) L S (show m+1<=60 by omega) J b1;have l:=dX (f:=F1) (g:=G2) L S (show m+1<=60 by omega) J b2;unfold kQ at C U;rw[X8,X8]at C U;have a:=Kg (p:=p) (m:=m) (w:=w) (wd:=wd) (T:=T1);generalize qO p m w wd T1=O at *;generalize qO p m w wd T2=R2 at *;have e:eK (.lst<|z6 bs) (.lst<|z6 bs)=bQ (.bl cE):=ye<|ZM bs;have d:3<=lim:=by omega
 unfold y6;let z:D:= .tup [.lst (z6 bs),.lst<|jr (m+1) wd G1,.lst (jr (m+1) wd F1)];let I:D:= .tup [.lst (z6 bs),.lst<|jr (m+1) wd G2,.lst (jr (m+1) wd F2)];refine je<|zv (γ':=[.val O,.val R2,.no,.no,.no,.no]) (by simp[z9,b])<|zv (γ':=[.val O,.val R2,.val z,.no,.no,.no]) (by simp[C,z])<|zv (γ':=[.val O,.val R2,.val z,.val I,.no,.no]) (by simp[U,I])<|zv (γ':=[.val O,.val R2,.val z,.val I,.no,.no]) (by simp[z,I,ec,e])<|zv (γ':=[.val O,.val R2,.val z,.val I,.val<|.lst<|jr (m+1) wd λk=>mM p (wd k) (F2 k)<|G1 k,.no]) (by simp[z,I,ec,a,h])<|zv (γ':=[.val O,.val R2,.val z,.val I,.val<|.lst<|jr (m+1) wd λk=>mM p (wd k) (F2 k)<|G1 k,.val (.lst<|jr (m+1) wd λk=>mM p (wd k) (F1 k)<|G2 k)]) (by simp[z,I,ec,a,l]) ?_;simp[d]
end
theorem gQ{n i:Nat}(h:i<n)(f:Nat->Int):(zB n f)[i]? = bQ (.int<|f i):=by unfold zB;simp[h]
theorem cv{p:Int}{h w:Nat}(J:h<=100)(L:w<=100){f:UV}(C : ∀i j,0<=f i j/\f i j<p):qp [qN h w f,.int p,.int (h:Int),.int (w:Int)]=bQ (.val<|.bl bX):=by
 have G:=jg;have k:w<=lim:=by omega
 have z:=rQ h w f;have I:ec 3 0=bQ 0:=rfl;have O:ec 3 1=bQ 1:=rfl;have U:ec 3 2=bQ 2:=rfl;have y:=wJ (h:Int);have A:=wJ (w:Int);have l:aw Ty.tuple (qN h w f)=bX:=rfl;have m:aw Ty.tuple (.tup<|jc h w f)=bX:=rfl;have r:eK (.int ((3:Nat):Int)) (.int 3)=bQ (.bl cE):=rfl;have s:eK (.int (h:Int)) (.int (h:Int))=bQ (.bl cE):=ye rfl;have g:eK (.int (w:Int)) (.int (w:Int))=bQ (.bl cE):=ye rfl;have t:(fy (wK (jX<|sB<|lr .tuple<|zf 0)<|wK (sB<|zK eK (xY<|zh 0)<|zy<|.int 3)<|wK (jX<|sB<|zE jN<|zb (cq (zh 0)<|zy<|.int 0) zI)<|jX<|sB<|zE jN<|zb (cq (zh 0)<|zy<|.int 1) zI) (jR<|zy<|.bl cE) jU) (z9 5 [qN h w f,.int p,.int (h:Int),.int (w:Int)])=bQ (.next [.val (qN h w f),.val<|.int p,.val<|.int (h:Int),.val<|.int (w:Int),.no]):=by show fy _ _ _ [.val (qN h w f),.val<|.int p,.val<|.int (h:Int),.val<|.int (w:Int),.no]=_;simp[z,l,I,O,y,A,r]
 have u:(fy (wK (sB<|zK eK (cq (zh 0)<|zy<|.int 0)<|zf 2)<|wK (sB<|zK eK (cq (zh 0)<|zy<|.int 1)<|zf 3)<|wK (jX<|sB<|lr .tuple<|cq (zh 0)<|zy<|.int 2)<|sB<|zK eK (xY<|zG<|cq (zh 0)<|zy<|.int 2)<|zf 2) (jR<|zy<|.bl cE) jU) [.val (qN h w f),.val<|.int p,.val<|.int (h:Int),.val<|.int (w:Int),.no]=bQ (.next [.val (qN h w f),.val<|.int p,.val<|.int (h:Int),.val<|.int (w:Int),.no]):=by simp[z,m,I,O,U,s,g,vU,XR]
 have ln : ∀i,zX (.nm 0) jz (cT (zE jN<|zb (zf 0) zI)<|y8 lp sG (zy<|.int 0) (zf 0)<|zf 1) [Cell.no,.val (.int p)] (zB w<|f i)=bQ ((MO w).map λ_=>D.bl bX):=λi=>by rw[jw];refine zC _ _ λj E=>zD rfl rfl ?_;have B:=wJ<|f i j;have:=C i j;show cT _ _ [Cell.val (.int<|f i j),.val (.int p)]=_;simp[B,this.1,this.2]
 obtain⟨γ',q,a,e⟩:=vC (T:= .nm 4) (F:=(zR (fy (wK (jX<|sB<|lr .tuple<|zf 4)<|sB<|zK eK (xY<|zh 4)<|zf 3) (jR<|zy<|.bl cE) jU)<|fy (jX<|sB<|lu<|js<|zU (zT<|zh 4) (.nm 0) 1 [1] jz (cT (zE jN<|zb (zf 0) zI)<|y8 lp sG (zy<|.int 0) (zf 0)<|zf 1)) (jR<|zy<|.bl cE) jU)) (λ_ γ=>∃a,γ=[.val (qN h w f),.val<|.int p,.val<|.int (h:Int),.val<|.int (w:Int),a]) (jc h w f) 0 [.val (qN h w f),.val<|.int p,.val<|.int (h:Int),.val<|.int (w:Int),.no] ⟨_,rfl⟩ (by
  rintro i d γ b ⟨a,rfl⟩;have o:i<h:=by have:=(Ng.mp b).1;rwa [XR]at this
  rw[gU o]at b;cases b;refine⟨[.val (qN h w f),.val<|.int p,.val<|.int (h:Int),.val<|.int (w:Int),.val (.tup<|zB w<|f i)],.inl ?_,_,rfl⟩;have ty:aw Ty.tuple (.tup<|zB w<|f i)=bX:=rfl;refine zv (F:=(fy (wK (jX<|sB<|lr .tuple<|zf 4)<|sB<|zK eK (xY<|zh 4)<|zf 3) (jR<|zy<|.bl cE) jU)) (γ:=[.val (qN h w f),.val<|.int p,.val<|.int (h:Int),.val<|.int (w:Int),.val (.tup<|zB w<|f i)]) (γ':=[.val (qN h w f),.val<|.int p,.val<|.int (h:Int),.val<|.int (w:Int),.val (.tup<|zB w<|f i)]) ?_ ?_
  ·simp[ty,vU,g]
  ·rw[QO]
   have n:(jX<|sB<|lu<|js<|zU (zT<|zh 4) (.nm 0) 1 [1] jz (cT (zE jN<|zb (zf 0) zI)<|y8 lp sG (zy<|.int 0) (zf 0)<|zf 1)) [.val (qN h w f),.val<|.int p,.val<|.int (h:Int),.val<|.int (w:Int),.val (.tup<|zB w<|f i)]=bQ cE:=by rw[iL,pV,pU,xQ,j7];simp only[Zu,xD,NL,NR,qV,vU,OA,MW,ZR,k,if_true];rw[show jn 1 [1] [.val (qN h w f),.val<|.int p,.val<|.int (h:Int),.val<|.int (w:Int),.val (.tup<|zB w<|f i)]=[Cell.no,.val (.int p)]from rfl,ln i];simp[Ye,aT]
   rw[n];rfl)
 subst e;have x:(yB (zT<|zG<|cq (zh 0)<|zy<|.int 2) (.nm 4)<|zR (fy (wK (jX<|sB<|lr .tuple<|zf 4)<|sB<|zK eK (xY<|zh 4)<|zf 3) (jR<|zy<|.bl cE) jU)<|fy (jX<|sB<|lu<|js<|zU (zT<|zh 4) (.nm 0) 1 [1] jz (cT (zE jN<|zb (zf 0) zI)<|y8 lp sG (zy<|.int 0) (zf 0)<|zf 1)) (jR<|zy<|.bl cE) jU) [.val (qN h w f),.val<|.int p,.val<|.int (h:Int),.val<|.int (w:Int),.no]=bQ (.next [.val (qN h w f),.val<|.int p,.val<|.int (h:Int),.val<|.int (w:Int),a]):=by rw[Jb];simp only[Zu,KW,yx,xD,iM,NL,NR,NW,Pc,OO,Nat.reduceAdd,qV,MW,OA,z,kY,U,vU];exact q
 exact je<|zv t<|zv u<|zv x rfl
theorem ZZ{p:Int}{n:Nat}(J:n<=100){hs ws:UX}(I : ∀k,hs k<=100)(C : ∀k,ws k<=100){X:UW}(O : ∀k i j,0<=X k i j/\X k i j<p) :
 jC [.lst (p5 n hs ws X),.int p,.lst<|zB n λk=>(hs k:Int),.lst (zB n λk=>(ws k:Int))]=bQ (.val<|.bl bX):=by
 have m:=jg;have U:n<=lim:=by omega
 have f:inR (n:Int)=bX:=kx ⋯ ⋯;have a:=rO n hs ws X;have ty:aw Ty.list (.lst<|p5 n hs ws X)=bX:=rfl;have e:eK (.int (n:Int)) (.int (n:Int))=bQ (.bl cE):=ye rfl;have g:(fy (wK (jX<|sB<|lr .list<|zf 0)<|sB<|zK eK (xY<|zh 0)<|xY<|zh 2) (jR<|zy<|.bl cE) jU) (z9 4 [.lst (p5 n hs ws X),.int p,.lst<|zB n λk=>(hs k:Int),.lst (zB n λk=>(ws k:Int))])=bQ (.next [.val (.lst<|p5 n hs ws X),.val<|.int p,.val<|.lst<|zB n λk=>(hs k:Int),.val (.lst<|zB n λk=>(ws k:Int))]):=by show fy _ _ _ [.val (.lst<|p5 n hs ws X),.val<|.int p,.val<|.lst<|zB n λk=>(hs k:Int),.val (.lst<|zB n λk=>(ws k:Int))]=_;simp[ty,a,yF,e]
 have d:zX (.nm 0) jz (zE qp<|zb (cq (zh 1)<|zf 0)<|zb (zf 2)<|zb (cq (zh 3)<|zf 0)<|zb (cq (zh 4)<|zf 0) zI) [Cell.no,.val<|.lst<|p5 n hs ws X,.val<|.int p,.val<|.lst<|zB n λk=>(hs k:Int),.val (.lst<|zB n λk=>(ws k:Int))] ((MO n).map λi:Nat=>D.int (i:Int))=bQ ((MO n).map λ_=>D.bl bX):=by refine zC _ _ λk z=>zD rfl rfl ?_;have z:=MR.mp z;have b:=cv (p:=p) (I k) (C k)<|O k;have l:=AK (hs:=hs) (ws:=ws) (T:=X) z;show zE _ _ [Cell.val (.int (k:Int)),.val<|.lst<|p5 n hs ws X,.val<|.int p,.val<|.lst<|zB n λk=>(hs k:Int),.val (.lst<|zB n λk=>(ws k:Int))]=_;simp only[iN,jx,Vw,yx,xD,vI,NL,NR,qV,xP,yF,MW,OA,kY,a,ZR,j6,z,if_true,l,gQ z,b,Ff]
 have h:(jR<|lu<|js<|zU (zS<|xY<|zh 2) (.nm 0) 1 [0,1,2,3] jz (zE qp<|zb (cq (zh 1)<|zf 0)<|zb (zf 2)<|zb (cq (zh 3)<|zf 0)<|zb (cq (zh 4)<|zf 0) zI)) [.val (.lst<|p5 n hs ws X),.val<|.int p,.val<|.lst<|zB n λk=>(hs k:Int),.val (.lst<|zB n λk=>(ws k:Int))]=bQ (.ret<|.val<|.bl bX):=by rw[Ja,pU,xQ,j7];simp only[kZ,pS,xD,NL,NR,qV,yF,OA,MW,kY,ZR,f,if_true,Oi,j9,U];rw[jw n λi=>(i:Int),show jn 1 [0,1,2,3] [.val (.lst<|p5 n hs ws X),.val<|.int p,.val<|.lst<|zB n λk=>(hs k:Int),.val (.lst<|zB n λk=>(ws k:Int))]=[Cell.no,.val<|.lst<|p5 n hs ws X,.val<|.int p,.val<|.lst<|zB n λk=>(hs k:Int),.val (.lst<|zB n λk=>(ws k:Int))]from rfl,d];simp[Ye,aT]
 exact je<|zv g h
theorem mT:qY=jo 10 (zR (yB (zS<|xw<|zf 1) (.nm 5) mU)<|jR<|zy<|.bl bX):=rfl
section
variable{p:Int}{m:Nat}{w:UK}{wd:UX}{T1 T2 Q Q':UW}
theorem Wh(n:Nat)(f:Nat->Int):p9 (zB n f)<=1:=vT λd a=>by unfold zB at a;obtain⟨i,_,rfl⟩:=Nq.mp a;simp[deep]
theorem XA{h n:Nat}(f:UV):i4 (.lst<|jl h n f)=bX:=YQ (n:=3) (by
 simp only[deep];have:p9 (jl h n f)<=2:=vT λd a=>by unfold jl at a;obtain⟨i,_,rfl⟩:=Nq.mp a;have:=Wh n<|f i;simp only[deep];omega
 omega) ⋯ (by
 simp only[hX];exact ZL λd a=>by
  unfold jl at a;obtain⟨i,_,rfl⟩:=Nq.mp a;simp only[hX];exact ZL λd a=>by unfold zB at a;obtain⟨j,_,rfl⟩:=Nq.mp a;rfl)
theorem W4(J:0<p)(L:p<=7)(Z:m<=5)(C : ∀k,wd k<=60)(Y : ∀k i j,0<=Q k i j/\Q k i j<p)(b2 : ∀k i j,0<=T2 k i j/\T2 k i j<p)
 (eq : ∀k,k<m->∀i j,i<wd (zO w k)->j<wd (zM w k)->mM p (wd<|zO w k) (Q<|zO w k) (T1 k) i j=mM p (wd<|zM w k) (T2 k) (Q<|zM w k) i j) :
 qY [.int p,.str<|j5 m w,jf m w wd T1,jf m w wd T2,.lst (jr (m+1) wd Q)]=bQ (.val<|.bl bX):=by
 have hl:=jg;have wl:=ky m w;have M:=qZ w (show m<=1000 by omega);let W:List D:=zB (m+1) λk=>(wd k:Int);have lW:W.length=m+1:=by simp[W]
 have X : ∀{r:Nat},r<m+1->((ec W.length (r:Int)).bind λk=>W[k]?)=bQ (.int (wd r:Int)):=λ{r} U=>by rw[lW,j6,UJ U];exact Zn _ U
 have E : ∀(T:UW) {k:Nat},k<m->((ec (jd m w wd T).length (k:Int)).bind λx=>(jd m w wd T)[x]?)=bQ (.lst<|jl (wd<|zO w k) (wd<|zM w k)<|T k):=λT {k} B=>by rw[show(jd m w wd T).length=m by simp[jd],j6,UJ B,qe w wd k,qk w wd k];show((MO m).map _)[k]? = _;rw[NC,Pd B];rfl
 have G : ∀{r:Nat},r<m+1->((ec (jr (m+1) wd Q).length (r:Int)).bind λx=>(jr (m+1) wd Q)[x]?).bind jj=bQ (.T,[.int (wd r:Nat),.int (wd r:Nat),.tup (jc (wd r) (wd r)<|Q r)]):=λ{r} U=>by rw[Yf,j6,UJ U];show((MO<|m+1).map _)[r]?.bind jj=_;rw[NC,Pd U];rfl
 let γ:Cell->Cell->Cell->Cell->Cell->Ctx:=λt e l b a=>[.val (.int p),.val<|.str<|j5 m w,.val<|jf m w wd T1,.val<|jf m w wd T2,.val<|.lst<|jr (m+1) wd Q,t,e,l,b,a];obtain⟨γ1,s1,t,e,l,b,a,rfl⟩:=jV (T:= .nm 5) (F:=mU) (f:=xw<|zf 1) (λ_ γ'=>∃t e l b a,γ'=γ t e l b a) m ⋯ (γ:=γ .no .no .no .no .no) (by simp[γ,wl,M]) ⟨.no,.no,.no,.no,.no,rfl⟩ (by
  rintro s o γ' ⟨t,e,l,b,a,rfl⟩;have N:=xS (w:=w) Z o;have r1:=yt (w:=w) o;have K:=yw (w:=w) o;have u:=C<|zO w s;have y:=C<|zM w s;let S:=Cell.val<|.int (s:Int);let z:=Cell.val<|.int (zM w s:Nat);let I:=Cell.val<|.int (zO w s:Nat);let O:=Cell.val<|.int (wd (zM w s):Int);let H:=jl (wd<|zO w s) (wd<|zM w s)<|mM p (wd<|zO w s) (Q<|zO w s)<|T1 s;refine⟨γ S e l b a,γ S z I O<|.val<|.lst H,rfl,?_,_,_,_,_,_,rfl⟩;have t1:=X7 (h:=wd<|zO w s) (n:=wd<|zO w s) (w:=wd<|zM w s) (f:=Q<|zO w s) (g:=T1 s) J L u u y (Kw _ _ _) (fS _ _ _)<|λi k _ _=>Y _ i k;have t2:=X7 (h:=wd<|zO w s) (n:=wd<|zM w s) (w:=wd<|zM w s) (f:=T2 s) (g:=Q<|zM w s) J L u y y (fS _ _ _) (Kw _ _ _)<|λi k _ _=>b2 _ i k;unfold mU;refine zv (γ':=γ S z I b a) (by simp[γ,S,z,I,N])<|zv (γ':=γ S z I O a) ?_ (zv (γ':=γ S z I O<|.val<|.lst H) ?_ ?_)
  ·have x:cq (zG<|cq (zh 2)<|zy<|.int 0) (zf 6) (γ S z I b a)=bQ (.int (wd (zM w s):Int)):=X K
   rw[yf,x];rfl
  ·have x1:cq (zG<|cq (zh 4)<|zf 7) (zy<|.int 2) (γ S z I O a)=bQ (.tup<|jc (wd<|zO w s) (wd<|zO w s)<|Q<|zO w s):=by
    rw[yx,show zG (cq (zh 4)<|zf 7) (γ S z I O a)=_ from G r1];rfl
   have A:cq (zG<|cq (zh 2)<|zy<|.int 1) (zf 5) (γ S z I O a)=bQ (.lst<|jl (wd<|zO w s) (wd<|zM w s)<|T1 s):=E T1 o;unfold Cj;rw[yf,yh,Zv,jx,jx,jx,jx,x1,A];show((((jG [.int p,.tup<|jc (wd<|zO w s) (wd<|zO w s)<|Q<|zO w s,.lst<|jl (wd<|zO w s) (wd<|zM w s)<|T1 s,.int (wd (zM w s):Int)]).bind oT).map D.lst).map λd=>Fl.next<|(γ S z I O a).set 9 (.val d))=_;rw[t1];rfl
  ·have x1:cq (zG<|cq (zh 4)<|zf 6) (zy<|.int 2) (γ S z I O<|.val<|.lst H)=bQ (.tup<|jc (wd<|zM w s) (wd<|zM w s)<|Q<|zM w s):=by
    rw[yx,show zG (cq (zh 4)<|zf 6) (γ S z I O<|.val<|.lst H)=_ from G K];rfl
   have A:cq (zG<|cq (zh 3)<|zy<|.int 1) (zf 5) (γ S z I O<|.val<|.lst H)=bQ (.lst<|jl (wd<|zO w s) (wd<|zM w s)<|T2 s):=E T2 o;have g:ub (γ S z I O<|.val<|.lst H)=bQ (.lst H):=by unfold ub;rw[yh,Zv,jx,jx,jx,jx,x1,A];show(((jG [.int p,.lst<|jl (wd<|zO w s) (wd<|zM w s)<|T2 s,.tup<|jc (wd<|zM w s) (wd<|zM w s)<|Q<|zM w s,.int (wd (zM w s):Int)]).bind oT).map D.lst)=_;rw[t2];show bQ (D.lst<|jl (wd<|zO w s) (wd<|zM w s)<|mM p (wd<|zM w s) (T2 s)<|Q<|zM w s)=_;rw[Kx λi j P R=>(eq s o i j P R).symm]
   rw[QO,pV,yi,g];show(((eK (.lst H)<|.lst H).bind nz).bind _)=_;rw[ye (XA _)];rfl)
 rw[mT];exact je<|zv s1 rfl
end
noncomputable def z7(C:List Int)(t p few:Int)(w i j:Nat):Int:=vF C (t+(w:Int)*(i:Int)+(j:Int))/7%p*(if few<=vF C (t+(w:Int)*(i:Int)+(j:Int))/64%3 then 1 else 0)
noncomputable def gA:=(zR (jF 10<|zE jy<|zb (zf 0)<|zb (zK qu (zK qu (zf 1)<|zK yD (zf 4)<|zf 7)<|zf 9) zI)<|qv 8<|zK yD (zK yv (zK Jv (zf 10)<|zy<|.int 7)<|zf 2)<|bu<|zK DH (zK yv (zK Jv (zf 10)<|zy<|.int 64)<|zy<|.int 3)<|zf 5)
noncomputable def mV:=(zR (xB 8<|j3 zI)<|zR (yB (zS<|zf 4) (.nm 9) gA)<|cS 8<|qv 6<|zf 8)
theorem dq{C:List Int}(S:C.length<=63){t p few:Int}(ht:0<=t)(Z:t<1000)(J:0<p)(ap:p<10){h w:Nat}(hh:h<=10)(Y:w<=10) :
 qf [yd C,.int t,.int p,.int h,.int w,.int few]=bQ (.own<|jl h w<|z7 C t p few w):=by
 have X:=jg;have K : ∀(i:Nat),i<10->∀(k s:Nat) (acc:Cell) (b a:Cell),s+k=w->∃z I,k7 (.nm 9) gA ((OB s k).map λ(i:Nat)=>D.int (i:Int)) [.val (yd C),.val<|.int t,.val<|.int p,.val<|.int h,.val<|.int w,.val<|.int few,acc,.val<|.int (i:Int),.own<|zB s<|z7 C t p few w i,b,a]=bQ (.next [.val (yd C),.val<|.int t,.val<|.int p,.val<|.int h,.val<|.int w,.val<|.int few,acc,.val<|.int (i:Int),.own<|zB w<|z7 C t p few w i,z,I]):=by
  intro i W k
  induction k with
  | zero=>
   intro s acc b a e;obtain rfl:s=w:=by omega
   exact⟨b,a,rfl⟩
  | succ k u=>
   intro s acc b a e;have Q:0<=(w:Int)*(i:Int)/\(w:Int)*(i:Int)<=100:=by
    have:w*i<=10*10:=Nat.mul_le_mul Y ⋯;constructor
    ·exact Int.mul_nonneg ⋯ ⋯
    ·have G:((w*i:Nat):Int)<=100:=by omega
     rw[RY]at G;exact G
   obtain⟨F,R,T⟩:=Wm S (k:=t+(w:Int)*(i:Int)+(s:Int)) ⋯ ⋯;obtain⟨z,I,q⟩:=u (s+1) acc (.val<|.int (s:Int)) (.val<|.int<|vF C<|t+(w:Int)*(i:Int)+(s:Int)) ⋯;refine⟨z,I,?_⟩;rw[<- q,RK,Nt,xt];have E:ZT (w:Int) (i:Int)=bX:=vG _ _ ⋯ ⋯;have l:s<lim:=by omega
   have r:zB (s+1) (z7 C t p few w i)=zB s (z7 C t p few w i)++[.int (z7 C t p few w i s)]:=by unfold zB;rw[NT,NF];rfl
   have m:xC (.nm 9) (.int (s:Int)) [.val (yd C),.val<|.int t,.val<|.int p,.val<|.int h,.val<|.int w,.val<|.int few,acc,.val<|.int (i:Int),.own<|zB s<|z7 C t p few w i,b,a]=bQ [.val (yd C),.val<|.int t,.val<|.int p,.val<|.int h,.val<|.int w,.val<|.int few,acc,.val<|.int (i:Int),.own<|zB s<|z7 C t p few w i,.val<|.int (s:Int),a]:=rfl;have st:gA [.val (yd C),.val<|.int t,.val<|.int p,.val<|.int h,.val<|.int w,.val<|.int few,acc,.val<|.int (i:Int),.own<|zB s<|z7 C t p few w i,.val<|.int (s:Int),a]=bQ (.next [.val (yd C),.val<|.int t,.val<|.int p,.val<|.int h,.val<|.int w,.val<|.int few,acc,.val<|.int (i:Int),.own<|zB (s+1)<|z7 C t p few w i,.val<|.int (s:Int),.val (.int<|vF C<|t+(w:Int)*(i:Int)+(s:Int))]):=by
    have dl:(zB s<|z7 C t p few w i).length=s:=by simp[zB]
    unfold gA;rw[r];by_cases g:few<=vF C (t+(w:Int)*(i:Int)+(s:Int))/64%3
    ·have L : ∀x:Int,ZT x 1=bX:=λx=>Zr _ _ ⋯ ⋯
     simp[jI,F,E,J,g,l,dl,L,z7]
    ·have M : ∀x:Int,ZT x 0=bX:=λx=>Zr _ _ ⋯ ⋯
     simp[jI,F,E,J,g,l,dl,M,z7]
   rw[m];simp only[MW,st]
 have j : ∀(k s:Nat) (f d b a:Cell),s+k=h->∃n o z I,k7 (.nm 7) mV ((OB s k).map λ(i:Nat)=>D.int (i:Int)) [.val (yd C),.val<|.int t,.val<|.int p,.val<|.int h,.val<|.int w,.val<|.int few,.own<|jl s w<|z7 C t p few w,f,d,b,a]=bQ (.next [.val (yd C),.val<|.int t,.val<|.int p,.val<|.int h,.val<|.int w,.val<|.int few,.own<|jl h w<|z7 C t p few w,n,o,z,I]):=by
  intro k
  induction k with
  | zero=>
   intro s f d b a e;obtain rfl:s=h:=by omega
   exact⟨f,d,b,a,rfl⟩
  | succ k u=>
   intro s f d b a e;obtain⟨O,U,H⟩:=K s ⋯ w 0 (.own<|jl s w<|z7 C t p few w) b a ⋯;rw[<- Rb]at H;obtain⟨n,o,z,I,q⟩:=u (s+1) (.val<|.int (s:Int)) (.val<|.lst<|zB w<|z7 C t p few w s) O U ⋯;refine⟨n,o,z,I,?_⟩;rw[<- q,RK,Nt,xt];have l:s<lim:=by omega
   have N:inR (w:Int)=bX:=kx ⋯ ⋯;have r:jl (s+1) w (z7 C t p few w)=jl s w (z7 C t p few w)++[.lst (zB w<|z7 C t p few w s)]:=by unfold jl;rw[NT,NF];rfl
   have m:xC (.nm 7) (.int (s:Int)) [.val (yd C),.val<|.int t,.val<|.int p,.val<|.int h,.val<|.int w,.val<|.int few,.own<|jl s w<|z7 C t p few w,f,d,b,a]=bQ [.val (yd C),.val<|.int t,.val<|.int p,.val<|.int h,.val<|.int w,.val<|.int few,.own<|jl s w<|z7 C t p few w,.val<|.int (s:Int),d,b,a]:=rfl;have y:(xB 8<|j3 zI) [.val (yd C),.val<|.int t,.val<|.int p,.val<|.int h,.val<|.int w,.val<|.int few,.own<|jl s w<|z7 C t p few w,.val<|.int (s:Int),d,b,a]=bQ (.next [.val (yd C),.val<|.int t,.val<|.int p,.val<|.int h,.val<|.int w,.val<|.int few,.own<|jl s w<|z7 C t p few w,.val<|.int (s:Int),.own<|zB 0<|z7 C t p few w s,b,a]):=rfl;have A:(yB (zS<|zf 4) (.nm 9) gA) [.val (yd C),.val<|.int t,.val<|.int p,.val<|.int h,.val<|.int w,.val<|.int few,.own<|jl s w<|z7 C t p few w,.val<|.int (s:Int),.own<|zB 0<|z7 C t p few w s,b,a]=bQ (.next [.val (yd C),.val<|.int t,.val<|.int p,.val<|.int h,.val<|.int w,.val<|.int few,.own<|jl s w<|z7 C t p few w,.val<|.int (s:Int),.own<|zB w<|z7 C t p few w s,O,U]):=by rw[Jb];simp only[kZ,vI,NL,NR,xP,MW,kY,N,if_true,Oi,j9];rw[jw w λi=>(i:Int)];exact H
   have B:(cS 8<|qv 6<|zf 8) [.val (yd C),.val<|.int t,.val<|.int p,.val<|.int h,.val<|.int w,.val<|.int few,.own<|jl s w<|z7 C t p few w,.val<|.int (s:Int),.own<|zB w<|z7 C t p few w s,O,U]=bQ (.next [.val (yd C),.val<|.int t,.val<|.int p,.val<|.int h,.val<|.int w,.val<|.int few,.own<|jl (s+1) w<|z7 C t p few w,.val<|.int (s:Int),.val<|.lst<|zB w<|z7 C t p few w s,O,U]):=by rw[r];simp[cS,qz,l]
   rw[m];simp only[MW];rw[show mV _=_ from zv y (zv A B)];rfl
 obtain⟨f,d,b,a,q⟩:=j h 0 .no .no .no .no ⋯;rw[<- Rb]at q;have P:inR (h:Int)=bX:=kx ⋯ ⋯;have y:(xB 6<|j3 zI) (z9 11 [yd C,.int t,.int p,.int h,.int w,.int few])=bQ (.next [.val (yd C),.val<|.int t,.val<|.int p,.val<|.int h,.val<|.int w,.val<|.int few,.own<|jl 0 w<|z7 C t p few w,.no,.no,.no,.no]):=rfl;have A:(yB (zS<|zf 3) (.nm 7) mV) [.val (yd C),.val<|.int t,.val<|.int p,.val<|.int h,.val<|.int w,.val<|.int few,.own<|jl 0 w<|z7 C t p few w,.no,.no,.no,.no]=bQ (.next [.val (yd C),.val<|.int t,.val<|.int p,.val<|.int h,.val<|.int w,.val<|.int few,.own<|jl h w<|z7 C t p few w,f,d,b,a]):=by rw[Jb];simp only[kZ,vI,NL,NR,xP,MW,kY,P,if_true,Oi,j9];rw[jw h λi=>(i:Int)];exact q
 have B:(v9 6) [.val (yd C),.val<|.int t,.val<|.int p,.val<|.int h,.val<|.int w,.val<|.int few,.own<|jl h w<|z7 C t p few w,f,d,b,a]=bQ (.ret<|.own<|jl h w<|z7 C t p few w):=rfl;rw[show qf=jo 11 (zR (xB 6<|j3 zI)<|zR (yB (zS<|zf 3) (.nm 7) mV)<|v9 6)from rfl];exact je<|zv y<|zv A B
noncomputable def EF:=(zR (wA (.tp [9,10])<|zE jW<|zb (zf 3)<|zb (zf 8) zI)<|qv 7<|qh<|jJ qf<|zb (zf 0)<|zb (zK qu (zK qu (zf 1)<|zy<|.int 5)<|zK yD (zy<|.int 9)<|zf 8)<|zb (zf 2)<|zb (cq (zh 6)<|zf 10)<|zb (cq (zh 6)<|zf 9)<|zb (zf 5) zI)
theorem Xo{C:List Int}{t p few:Int}(z:0<p){w i j:Nat}:0<=z7 C t p few w i j/\z7 C t p few w i j<p:=by unfold z7;have a:=NM (vF C (t+(w:Int)*(i:Int)+(j:Int))/7) (show p≠0 by omega);have b:=Nx (vF C (t+(w:Int)*(i:Int)+(j:Int))/7) z;split<;>omega
theorem EG{C:List Int}(J:C.length<=63){t p few:Int}(ht:0<=t)(Y:t<100)(I:0<p)(L:p<10){m:Nat}(Z:m<=4)(w:UK) :
 ∃wd T,(∀k,wd k<=3)/\(∀k i j,0<=T k i j/\T k i j<p)/\ym [yd C,.int t,.int p,.str<|j5 m w,.int 3,.int few]=bQ (.val<|jf m w wd T):=by
 have W:=jg;have u:m+1<=lim:=by omega
 obtain⟨wd,O⟩ : ∃wd:UX,∀k:Nat,(wd k:Int)=vF C (t+(k:Int))/3%4:=⟨λk=>(vF C (t+(k:Int))/3%4).toNat,λk=>by have:=NM (vF C (t+(k:Int))/3) (show(4:Int)≠0 by decide);exact PD this⟩
 have z : ∀k,wd k<=3:=λk=>by have:=Nx (vF C (t+(k:Int))/3) (show(0:Int)<4 by decide);have:=O k;omega
 have Kc : ∀k,eh w wd k<=10:=λk=>by rw[<- qe];have:=z<|zO w k;omega
 have c_ : ∀k,d8 w wd k<=10:=λk=>by rw[<- qk];have:=z<|zM w k;omega
 refine⟨wd,λk=>z7 C (t+5+9*(k:Int)) p few<|d8 w wd k,z,λk i j=>Xo I,?_⟩;have H:zX (.nm 0) jz (zK yv (zK Jv (zE jy<|zb (zf 1)<|zb (zK qu (zf 2)<|zf 0) zI)<|zy<|.int 3)<|zK qu (zf 3)<|zy<|.int 1) [Cell.no,Cell.val<|yd C,Cell.val<|.int t,Cell.val (.int 3)] ((MO<|m+1).map λi:Nat=>D.int (i:Int))=bQ ((MO<|m+1).map λk:Nat=>D.int (wd k:Int)):=by refine zC _ _ λk U=>zD rfl rfl ?_;have U:=MR.mp U;obtain⟨E,_,_⟩:=Wm J (k:=t+(k:Int)) ⋯ ⋯;show zK _ _ _ [Cell.val (.int (k:Int)),Cell.val<|yd C,Cell.val<|.int t,Cell.val (.int 3)]=_;simp[E,O]
 have wl:=ky m w;have l:=qZ w (show m<=1000 by omega);have K:(jF 6<|qh<|zU (zS<|zK qu (xw<|zf 3)<|zy<|.int 1) (.nm 0) 1 [0,1,4] jz (zK yv (zK Jv (zE jy<|zb (zf 1)<|zb (zK qu (zf 2)<|zf 0) zI)<|zy<|.int 3)<|zK qu (zf 3)<|zy<|.int 1)) (z9 11 [yd C,.int t,.int p,.str<|j5 m w,.int 3,.int few])=bQ (.next [.val (yd C),.val<|.int t,.val<|.int p,.val<|.str<|j5 m w,.val<|.int 3,.val<|.int few,.val<|.lst<|zB (m+1) λk=>(wd k:Int),.no,.no,.no,.no]):=by
  have r:inR ((m:Int)+1)=bX:=kx ⋯ ⋯;have e:((m:Int)+1).toNat=m+1:=by omega
  simp[z9,MV,wl,l,r,e,j9,jn,kX,u];rw[jw (m+1) λi=>(i:Int),H];rfl
 have M:(xB 7<|j3 zI) [.val (yd C),.val<|.int t,.val<|.int p,.val<|.str<|j5 m w,.val<|.int 3,.val<|.int few,.val<|.lst<|zB (m+1) λk=>(wd k:Int),.no,.no,.no,.no]=bQ (.next [.val (yd C),.val<|.int t,.val<|.int p,.val<|.str<|j5 m w,.val<|.int 3,.val<|.int few,.val<|.lst<|zB (m+1) λk=>(wd k:Int),.own [],.no,.no,.no]):=rfl;obtain⟨S,N,⟨d,b,a,rfl⟩⟩:=jV (T:= .nm 8) (F:=EF) (f:=xw<|zf 3) (γ:=[.val (yd C),.val<|.int t,.val<|.int p,.val<|.str<|j5 m w,.val<|.int 3,.val<|.int few,.val<|.lst<|zB (m+1) λk=>(wd k:Int),.own [],.no,.no,.no])
  (λs γ=>∃d b a,γ=[.val (yd C),.val<|.int t,.val<|.int p,.val<|.str<|j5 m w,.val<|.int 3,.val<|.int few,.val<|.lst<|zB (m+1) λk=>(wd k:Int),.own<|jd s w wd λk=>z7 C (t+5+9*(k:Int)) p few<|d8 w wd k,d,b,a]) m ⋯ (by simp[wl,l]) ⟨_,_,_,rfl⟩ (by
    rintro s h γ ⟨d,b,a,rfl⟩;refine⟨_,[.val (yd C),.val<|.int t,.val<|.int p,.val<|.str<|j5 m w,.val<|.int 3,.val<|.int few,.val<|.lst<|zB (m+1) λk=>(wd k:Int),.own<|jd (s+1) w wd λk=>z7 C (t+5+9*(k:Int)) p few<|d8 w wd k,.val<|.int (s:Int),.val<|.int ((zM w s:Nat):Int),.val (.int ((zO w s:Nat):Int))],rfl,?_,⟨_,_,_,rfl⟩⟩;have G:=xS (w:=w) (show m<=5 by omega) h;have Q:=dq J (t:=t+5+9*(s:Int)) (p:=p) (few:=few) ⋯ ⋯ I L (Kc s)<|c_ s;have n:=yt (w:=w) h;have g:=yw (w:=w) h;have x:s<lim:=by omega
    have dl:(zB (m+1) λk=>(wd k:Int)).length=m+1:=by simp[zB]
    have R:(jd s w wd λk=>z7 C (t+5+9*(k:Int)) p few<|d8 w wd k).length=s:=by simp[jd]
    have o:(wA (.tp [9,10])<|zE jW<|zb (zf 3)<|zb (zf 8) zI) [.val (yd C),.val<|.int t,.val<|.int p,.val<|.str<|j5 m w,.val<|.int 3,.val<|.int few,.val<|.lst<|zB (m+1) λk=>(wd k:Int),.own<|jd s w wd λk=>z7 C (t+5+9*(k:Int)) p few<|d8 w wd k,.val<|.int (s:Int),b,a]=bQ (.next [.val (yd C),.val<|.int t,.val<|.int p,.val<|.str<|j5 m w,.val<|.int 3,.val<|.int few,.val<|.lst<|zB (m+1) λk=>(wd k:Int),.own<|jd s w wd λk=>z7 C (t+5+9*(k:Int)) p few<|d8 w wd k,.val<|.int (s:Int),.val<|.int ((zM w s:Nat):Int),.val (.int ((zO w s:Nat):Int))]):=by simp[G]
    refine zv o ?_;have y:ZT 9 (s:Int)=bX:=vG _ _ ⋯ ⋯;have A:(zB (m+1) λk=>(wd k:Int))[zO w s]? = bQ (.int (eh w wd s:Nat)):=by rw[<- qe];unfold zB;simp[n]
    have B:(zB (m+1) λk=>(wd k:Int))[zM w s]? = bQ (.int (d8 w wd s:Nat)):=by rw[<- qk];unfold zB;simp[g]
    rw[show jd (s+1) w wd (λk=>z7 C (t+5+9*(k:Int)) p few<|d8 w wd k)=jd s w wd (λk=>z7 C (t+5+9*(k:Int)) p few<|d8 w wd k)++[D.lst (jl (eh w wd s) (d8 w wd s)<|z7 C (t+5+9*(s:Int)) p few<|d8 w wd s)]from Kh _ _];simp only[yI,yh,Zv,jx,Vw,vI,yi,iM,yx,xD,NL,NR,xP,qV,qz,MW,OA,Jw,Ju,y,if_true,jj,kY,dl,j6,n,g,A,B,Q,oT,R,x,Rn,Rm])
 have P:(cS 7<|jR<|xH<|zb (zf 6)<|zb (zf 7) zI) [.val (yd C),.val<|.int t,.val<|.int p,.val<|.str<|j5 m w,.val<|.int 3,.val<|.int few,.val<|.lst<|zB (m+1) λk=>(wd k:Int),.own<|jd m w wd λk=>z7 C (t+5+9*(k:Int)) p few<|d8 w wd k,d,b,a]=bQ (.ret<|.val<|jf m w wd λk=>z7 C (t+5+9*(k:Int)) p few<|d8 w wd k):=by
  have g:2<=lim:=by omega
  simp[cS,qz,g,jf]
 exact je<|zv K<|zv M<|zv N P
section
variable{p:Int}{m:Nat}{w:UK}{wd wd':UX}{T T' X J:UW}
abbrev fx(p:Int)(m:Nat)(w:UK)(wd wd':UX)(T T' X J:UW)(c6 c7 c8 c9 D8 D9 En E1 P0:Cell):Ctx:=
 [.val (.int p),.val<|.str<|j5 m w,.val<|jf m w wd T,.val<|jf m w wd' T',.val<|.lst<|CP m w wd wd' J,.val<|.lst<|p5 (m+1) wd wd' X,c6,c7,c8,c9,D8,D9,En,E1,P0]
end
section
variable{p:Int}{m:Nat}{w:UK}{wd wd':UX}{T T' J:UW}
theorem Kc(C : ∀k,wd k<=3)(k):eh w wd k<=3:=by rw[<- qe];exact C _
theorem c_(C : ∀k,wd k<=3)(k):d8 w wd k<=3:=by rw[<- qk];exact C _
abbrev mx(ns:List Int)(p:Int)(m:Nat)(w:UK)(wd wd':UX)(T T':UW)(c5 c6 c7 c8 c9 D8 D9 En E1:Cell):Ctx:=
 [.val (yd ns),.val<|.int p,.val<|.str<|j5 m w,.val<|jf m w wd T,.val<|jf m w wd' T',c5,c6,c7,c8,c9,D8,D9,En,E1]
end
theorem JI(f:Nat->Int)(a:Nat) : ∀b,zg f (a+b)=zg f a+zg (λx=>f<|a+x) b
 | 0=>by show zg f a=zg f a+0;omega
 | b+1=>by show zg f (a+b)+f (a+b)=zg f a+(zg (λx=>f<|a+x) b+f (a+b));rw[JI f a b];omega
theorem JH(f:Nat->Int)(w:Nat) : ∀h,zg f (h*w)=zg (λi=>zg (λj=>f<|i*w+j) w) h
 | 0=>by rw[Nat.zero_mul];rfl
 | h+1=>by rw[SV,JI,JH f w h];rfl
theorem dw(f g:Nat->Int)(n:Nat):zg (λk=>f k - g k) n=zg f n - zg g n:=by rw[zw (g:=λk=>f k+(-1)*g k) λk _=>by omega,jO,ja];omega
section
variable{p:Int}{n R r c:Nat}{M W:Nat->Vc}
theorem aG{G:Vc->Prop}{v:Vc}(h : ∀g,G g->zg (λx=>g x*v x) n%p=0){u:Vc}(z:Span p n G u):zg (λx=>u x*v x) n%p=0:=by
 induction z with
 | @zero u I=>
  have:zg (λx=>u x*v x) n%p=zg (λ_=>0) n%p:=zL λx a=>by rw[MX,I x a];simp
  rw[this,zH];rfl
 | @step u w g d O e U b=>
  have:zg (λx=>u x*v x) n%p=zg (λx=>w x*v x+d*(g x*v x)) n%p:=zL λx a=>by rw[MX,U x a,<- MX,SG,OP]
  rw[this,jO,ja,Ny,b,MX,h g O];simp
theorem df{x:Nat}(hx:x<n)(f:Vc):zg (λy=>f y*jD x y) n=f x:=by rw[zN hx λy _ z=>by unfold jD;rw[UY (Oa z),NK]];unfold jD;rw[UJ rfl,OL]
theorem de{x:Nat}(hx:x<n)(f:Vc):zg (λy=>f y*jD y x) n=f x:=by rw[zN hx λy _ z=>by unfold jD;rw[UY z,NK]];unfold jD;rw[UJ rfl,OL]
theorem ui(C:Pr p)(L:Rk p n R M r)(nr : ∀j,j<c->∀i,i<R->zg (λx=>M i x*W j x) n%p=0)
 (sp : ∀v:Vc,(∀i,i<R->zg (λx=>M i x*v x) n%p=0)->∃t:Vc,∀x,x<n->v x%p=zg (λj=>t j*W j x) c%p)
 (ind : ∀t:Vc,(∀x,x<n->zg (λj=>t j*W j x) c%p=0)->∀j,j<c->t j%p=0):c+r=n:=by
 obtain⟨B,l,f,w⟩:=L;have E : ∀v:Vc,(∀i,i<R->zg (λx=>M i x*v x) n%p=0)->∀k,k<r->zg (λx=>B k x*v x) n%p=0:=λv o k I=>by refine aG (G:=dr R M) ?_ ((w _).mp (.gen ⟨k,I,rfl⟩));rintro g ⟨i,h,rfl⟩;exact o i h
 have MB : ∀v:Vc,(∀k,k<r->zg (λx=>B k x*v x) n%p=0)->∀i,i<R->zg (λx=>M i x*v x) n%p=0:=λv o i h=>by refine aG (G:=dr r B) ?_ ((w _).mpr (.gen ⟨i,h,rfl⟩));rintro g ⟨k,I,rfl⟩;exact o k I
 let V:Nat->Vc:=λj=>if j<c then W j else jD (l<|j - c);have d : ∀(t:Vc) (x:Nat),zg (λj=>t j*V j x) (c+r)=zg (λj=>t j*W j x) c+zg (λk=>t (c+k)*jD (l k) x) r:=λt x=>by
  rw[JI];congr 1
  ·exact zw λj O=>by show _*(if j<c then W j else _) x=_;rw[UJ O]
  ·exact zw λk I=>by show _*(if c+k<c then W (c+k)else jD (l<|c+k - c)) x=_;rw[UY ⋯,B8]
 have s : ∀(t:Vc) m,m<r->zg (λx=>B m x*zg (λk=>t k*jD (l k) x) r) n=t m:=λt m b=>by
  rw[zw (g:=λx=>zg (λk=>t k*(B m x*jD (l k) x)) r) λx _=>by rw[<- ja];exact zw λk _=>Pu ..,jT,
   zw (g:=λk=>t k*B m (l k)) λk I=>by rw[ja,df (f.lt k I)],
   zN b λk I J=>by rw[f.o5 m k b I J,NK],f.one m b,OL]
 refine gX C (X4 C n) (W:=V) (λv=>⟨λ_=>?_,λ_=>?_⟩) λt U=>?_
 ·let u:Vc:=λx=>v x - zg (λk=>zg (λy=>B k y*v y) n*jD (l k) x) r
  have K : ∀k,k<r->zg (λx=>B k x*u x) n%p=0:=λk I=>by rw[zw (g:=λx=>B k x*v x - B k x*zg (λk=>zg (λy=>B k y*v y) n*jD (l k) x) r) λx _=>Int.mul_sub ..,dw,s _ k I,TV];rfl
  obtain⟨t,U⟩:=sp u<|MB u K;refine(Jm (m:=c+r) V λj=>if j<c then t j else zg (λy=>B (j - c) y*v y) n).congr λx a=>?_;have F:zg (λj=>(if j<c then t j else zg (λy=>B (j - c) y*v y) n)*W j x) c=zg (λj=>t j*W j x) c:=zw λj O=>by rw[UJ O]
  have H:zg (λk=>(if c+k<c then t (c+k)else zg (λy=>B (c+k - c) y*v y) n)*jD (l k) x) r=zg (λk=>zg (λy=>B k y*v y) n*jD (l k) x) r:=zw λk _=>by rw[UY ⋯,B8]
  rw[d,F,H,Ny,<- U x a,<- Ny];congr 1;show v x=v x - _+_;omega
 ·exact(Jm (m:=n) jD v).congr λx a=>by rw[de a]
 ·have A : ∀m,m<r->t (c+m)%p=0:=λm b=>by
   have e:zg (λx=>B m x*zg (λj=>t j*V j x) (c+r)) n%p=0:=by
    have:zg (λx=>B m x*zg (λj=>t j*V j x) (c+r)) n%p=zg (λ_=>0) n%p:=zL λx a=>by rw[MX,U x a];simp
    rw[this,zH];rfl
   rw[zw (g:=λx=>B m x*zg (λj=>t j*W j x) c+B m x*zg (λk=>t (c+k)*jD (l k) x) r) λx _=>by rw[d,RZ],jO,s (λk=>t<|c+k) m b]at e;have z:zg (λx=>B m x*zg (λj=>t j*W j x) c) n%p=0:=by
    rw[zw (g:=λx=>zg (λj=>t j*(B m x*W j x)) c) λx _=>by rw[<- ja];exact zw λk _=>Pu ..,jT];have:zg (λj=>zg (λx=>t j*(B m x*W j x)) n) c%p=zg (λ_=>0) c%p:=zL λj O=>by rw[ja,MX,E (W j) (nr j O) m b];simp
    rw[this,zH];rfl
   rw[Ny,z]at e;simpa using e
  have N:=ind t λx a=>by
   have:=U x a;rw[d,Ny]at this;have z:zg (λk=>t (c+k)*jD (l k) x) r%p=0:=by
    have:zg (λk=>t (c+k)*jD (l k) x) r%p=zg (λ_=>0) r%p:=zL λk I=>by rw[MX,A k I];simp
    rw[this,zH];rfl
   rw[z]at this;simpa using this
  intro j O;by_cases q:j<c
  ·exact N j q
  ·have:=A (j - c) ⋯
   rwa [show c+(j - c)=j by omega]at this
end
structure RI(p:Int)(n R:Nat)(f:UV)(c r:Nat)(g:UV)(l:UX):Prop where
 h9 : ∀k j,k<R->j<n->0<=g k j/\g k j<p
 sp : ∀v,Span p n (dr R g) v↔Span p n (dr R f) v
 le:r<=R
 ld : ∀k,k<r->l k<c/\l k<n/\g k (l k)=1
 Ic : ∀k k',k<k'->k'<r->g k' (l k)=0
 low : ∀k j,r<=k->k<R->j<c->j<n->g k j=0
noncomputable def hR(g:UV)(s k:Nat):Nat->Int:=g<|if k<=s then k - 1 else k
noncomputable def gR(p:Int)(g:UV)(r s c:Nat)(y:Int)(k j:Nat):Int:=if k<r then g k j else if k=r then g s j*y%p else (hR g s k j - hR g s k c*(g s j*y%p))%p
section
variable{p:Int}{n R c r s:Nat}{f g:UV}{l:UX}{y:Int}
theorem RI.done(U:Pr p)(h:RI p n R f c r g l)(J:n<=c):Rk p n R f r:=by
 obtain⟨C,_,B,y,b,i⟩:=ZX (n:=n) U R f;have e:r=C:=gX U b (W:=g) (m:=r) (λv=>?_) λt s=>?_
 ·subst e
  exact⟨B,y,b,i⟩
 ·rw[i,<- h.sp]
  constructor
  ·intro O
   refine O.le ?_;rintro _ ⟨k,I,rfl⟩;by_cases q:k<r
   ·exact .gen ⟨k,q,rfl⟩
   ·exact .zero λj z=>by rw[h.low k j ⋯ I ⋯ z];rfl
  ·intro O
   refine O.le ?_;rintro _ ⟨k,I,rfl⟩;exact .gen ⟨k,by have:=h.le;omega,rfl⟩
 ·have a : ∀m k,k<m->k<r->t k%p=0:=by
   intro m
   induction m with
   | zero=>intro k I;omega
   | succ m u=>
    intro k I d;obtain⟨_,w,x⟩:=h.ld k d;have:=s (l k) w;have e:zg (λj=>t j*g j (l k)) r%p=zg (λj=>if j=k then t k else 0) r%p:=zL λj z=>by
     by_cases q:j=k
     ·rw[UJ q,q,x,OL]
     ·rw[UY q]
      by_cases A:k<j
      ·rw[h.Ic k j A z,NK]
      ·rw[MX,u j ⋯ z];simp
    rw[e,zN d λj _ o=>UY o,UJ rfl]at this;exact this
  exact λj z=>a (j+1) j ⋯ z
theorem RI.skip(h:RI p n R f c r g l)(O : ∀k,r<=k->k<R->g k c%p=0):RI p n R f (c+1) r g l where
 h9:=h.h9
 sp:=h.sp
 le:=h.le
 ld:=λk I=>⟨by have:=(h.ld k I).1;omega,(h.ld k I).2⟩
 Ic:=h.Ic
 low:=λk j h1 h2 U z=>by
  by_cases q:j=c
  ·have:=O k h1 h2
   rw[<- q]at this;rw[Nz (h.h9 k j h2 z).1 (h.h9 k j h2 z).2]at this;exact this
  ·exact h.low k j h1 h2 ⋯ z
theorem RI.step(Y:Pr p)(h:RI p n R f c r g l)(S:c<n)(J:r<=s)(C:s<R)(Z:y*g s c%p=1):RI p n R f (c+1) (r+1) (gR p g r s c y) λk=>if k<r then l k else c:=by
 have N:=Y.pos;have G : ∀k,r<k->k<R->∃i,hR g s k=g i/\r<=i/\i<R/\(i=k\/i+1=k):=λk U I=>by
  unfold hR;by_cases q:k<=s
  ·rw[UJ q];exact⟨k - 1,rfl,by omega,by omega,by omega⟩
  ·rw[UY q];exact⟨k,rfl,by omega,I,by omega⟩
 have gl : ∀k,k<r->gR p g r s c y k=g k:=λk z=>by funext j;unfold gR;rw[UJ z]
 have O:gR p g r s c y r=λj=>g s j*y%p:=by funext j;unfold gR;rw[UY ⋯,UJ rfl]
 have t : ∀k,r<k->gR p g r s c y k=λj=>(hR g s k j - hR g s k c*(g s j*y%p))%p:=λk z=>by funext j;unfold gR;rw[UY ⋯,UY ⋯]
 have one:g s c*y%p=1:=by rw[Om];exact Z
 refine⟨λk j z M=>?_,λv=>?_,by omega,λk z=>?_,λk o z P=>?_,λk j U I Q F=>?_⟩
 ·unfold gR
  split
  ·exact h.h9 k j z M
  ·split<;>exact⟨NM _ ⋯,Nx _ N⟩
 ·rw[<- h.sp]
  have sg : ∀i,i<R->Span p n (dr R g) (g i):=λi m=> .gen ⟨i,m,rfl⟩;have A : ∀i,i<R->Span p n (dr R<|gR p g r s c y) (gR p g r s c y i):=λi m=> .gen ⟨i,m,rfl⟩;have B:Span p n (dr R g) λj=>g s j*y%p:=((sg s C).smul y).congr λj _=>by rw[Of _ (Pw p),Om]
  have E:Span p n (dr R<|gR p g r s c y) λj=>g s j*y%p:=by
   have:=A r ⋯
   rwa [O]at this
  constructor
  ·intro u
   refine u.le ?_;rintro _ ⟨k,z,rfl⟩;by_cases q:k<r
   ·rw[gl k q];exact sg k z
   ·by_cases x:k=r
    ·rw[x,O];exact B
    ·obtain⟨i,e,H,w,_⟩:=G k ⋯ z
     rw[t k ⋯];refine(B.add (sg i w) (-(hR g s k c))).congr λj _=>?_;rw[Of _ (Pw p),e];congr 1;rw[Int.neg_mul];omega
  ·intro u
   refine u.le ?_;rintro _ ⟨i,m,rfl⟩;have L:Span p n (dr R<|gR p g r s c y) (g s):=(E.smul<|g s c).congr λj _=>by rw[MX,Of _<|Pw p,<- MX,show g s c*(g s j*y)=g s j*(g s c*y)by rw[Pu],MX,one];simp
   have K : ∀k,r<k->k<R->Span p n (dr R<|gR p g r s c y) (hR g s k):=λk U I=>by have:=A k I;rw[t k U]at this;refine(E.add this<|hR g s k c).congr λj _=>?_;rw[Ny,Of _<|Pw p,<- Ny];congr 1;omega
   by_cases q:i<r
   ·have:=A i m
    rwa [gl i q]at this
   ·by_cases x:i=s
    ·rw[x];exact L
    ·by_cases T:i<s
     ·have:=K (i+1) ⋯ ⋯
      unfold hR at this;rw[UJ ⋯]at this;exact this
     ·have:=K i ⋯ m
      unfold hR at this;rw[UY ⋯]at this;exact this
 ·by_cases q:k<r
  ·rw[UJ q,gl k q]
   obtain⟨a,b,d⟩:=h.ld k q;exact⟨by omega,b,d⟩
  ·have e:k=r:=by omega
   rw[UY q,e,O];exact⟨by omega,S,one⟩
 ·rw[UJ ⋯]
  obtain⟨a,b,d⟩:=h.ld k ⋯;by_cases q:o<r
  ·rw[gl o q];exact h.Ic k o z q
  ·rw[show o=r by omega,O]
   dsimp only;rw[h.low s (l k) J C a b];simp
 ·obtain⟨i,e,H,w,_⟩:=G k ⋯ I
  rw[t k ⋯];dsimp only;rw[e];by_cases q:j=c
  ·rw[q,one,OL,TV];rfl
  ·rw[h.low i j H w ⋯ F,h.low s j J C ⋯ F]
   simp
end
theorem Bp:vX=jo 9 (zR EZ<|zR GI<|zR (yB (zS Ao) (.nm 3) Fb)<|v9 2):=rfl
section
variable{p:Int}{n R:Nat}{f g:UV}
abbrev hB(p:Int)(n R:Nat)(g:UV)(r:Nat)(c3 c4 c5 c6 c7 c8:Cell):Ctx:=[.val (.int p),.own (jl R n g),.val (.int (r:Int)),c3,c4,c5,c6,c7,c8]
theorem yu{n j:Nat}(z:j<n)(u:Nat->Int):(zB n u)[j]? = bQ (.int<|u j):=by unfold zB;simp[z]
theorem V4{h w i:Nat}{f:UV}(C:i<(jl h w f).length):(jl h w f)[i] = .lst (zB w<|f i):=by simp[jl]
theorem Wf{n j:Nat}{u:Nat->Int}(z:j<(zB n u).length):(zB n u)[j] = .int (u j):=by simp[zB]
theorem qM(n:Nat)(u:Nat->Int):(zB n u).length=n:=by simp[zB]
theorem IM(a b:Nat):q8 (a:Int) b=(OB a b).map λ(j:Nat)=>D.int j:=by unfold q8;rw[List.range'_eq_map_range,NB];exact Nj λj _=>rfl
noncomputable def BM(p:Int)(R:Nat)(g:UV)(c r:Nat):List Nat:=(OB r<|R - r).filter λk=>decide<|g k c%p≠0
theorem sV(O:0<p)(hR:R<=200)(Z:n<=200){c r:Nat}(I:c<n)(hr:r<=R)(Y C J L S:Cell):GH (hB p n R g r (.val<|.int (c:Int)) Y C J L S)=bQ (.next<|hB p n R g r (.val<|.int (c:Int)) (.val<|.lst<|(BM p R g c r).map λ(j:Nat)=>D.int j) C J L S):=by
 have s:=jg;have a:kg (zf 2) (xY<|zh 1) [.val (.int p),.val<|.lst<|jl R n g,.val<|.int (r:Int),.val<|.int (c:Int),Y,C,J,L,S]=bQ ((OB r<|R - r).map λ(j:Nat)=>D.int j):=by have U:inR (r:Int)=bX:=kx ⋯ ⋯;have m:inR (R:Int)=bX:=kx ⋯ ⋯;rw[QN];show(if inR (r:Int)=bX/\inR ((jl R n g).length:Int)=bX then bQ (q8 r (((jl R n g).length:Int) - (r:Int)).toNat)else none)=_;rw[qS,UJ ⟨U,m⟩,show((R:Int) - (r:Int)).toNat=R - r by omega,IM]
 have i:zX (.nm 0) Bq (zf 0) [Cell.no,.val<|.int p,.val<|.lst<|jl R n g,.val (.int (c:Int))] ((OB r<|R - r).map λ(j:Nat)=>D.int j)=bQ ((BM p R g c r).map λ(j:Nat)=>D.int j):=by
  refine jh _ _ _ λk z=>⟨[.val (.int (k:Int)),.val<|.int p,.val<|.lst<|jl R n g,.val (.int (c:Int))],rfl,?_,λ_=>rfl⟩;rw[PR]at z;have z:k<R:=by omega
  have e:=yR z n g;have o:=yu I<|g k;unfold Bq;simp[z,V4,Wf,I,O,qM]
 have f:(((OB r<|R - r).map λ(j:Nat)=>D.int (j:Int)).length)<=lim:=by simp;omega
 have h:((BM p R g c r).map λ(j:Nat)=>D.int (j:Int)).all Wa=bX:=by rw[OQ];intro x l;obtain⟨j,_,rfl⟩:=Nq.mp l;rfl
 unfold GH;rw[yf,yh];have d:sO 1 (zU (kg (zf 2)<|xY<|zh 1) (.nm 0) 1 [0,1,3] Bq (zf 0)) (hB p n R g r (.val<|.int (c:Int)) Y C J L S)=bQ ((BM p R g c r).map λ(j:Nat)=>D.int j):=by show(zU (kg (zf 2)<|xY<|zh 1) (.nm 0) 1 [0,1,3] Bq (zf 0) [.val (.int p),.val<|.lst<|jl R n g,.val<|.int (r:Int),.val<|.int (c:Int),Y,C,J,L,S]).bind (λb=>if b.all Wa=bX then bQ b else none)=_;rw[j7,a,MW,UJ f,show jn 1 [0,1,3] [Cell.val (.int p),.val<|.lst<|jl R n g,.val<|.int (r:Int),.val<|.int (c:Int),Y,C,J,L,S]=[Cell.no,.val<|.int p,.val<|.lst<|jl R n g,.val (.int (c:Int))]from rfl,i,MW,UJ h]
 rw[d];rfl
noncomputable def kR(p:Int)(g:UV)(r s:Nat)(y:Int)(k j:Nat):Int:=if k<r then g k j else if k=r then g s j*y%p else hR g s k j
theorem Hb{r s:Nat}(J:r<=s)(C:s<R)(y:Int):((jl R n g).eraseIdx s).take r++D.lst (zB n λj=>g s j*y%p)::((jl R n g).eraseIdx s).drop r=jl R n (kR p g r s y):=by
 have le:((jl R n g).eraseIdx s).length=R - 1:=by rw[List.length_eraseIdx,qS,UJ C]
 have z : ∀k,k<R - 1->((jl R n g).eraseIdx s)[k]? = bQ (.lst<|zB n<|g<|if k<s then k else k+1):=λk I=>by
  rw[List.getElem?_eraseIdx];by_cases q:k<s
  ·rw[UJ q,UJ q,yR ⋯]
  ·rw[UY q,UY q,yR ⋯]
 apply PX;intro k;by_cases I:k<R
 ·rw[yR I]
  have a:(((jl R n g).eraseIdx s).take r).length=r:=by rw[Pe,le];omega
  by_cases q:k<r
  ·rw[Dk ⋯,List.getElem?_take,UJ q,z k ⋯,UJ ⋯]
   have:kR p g r s y k=g k:=by funext j;unfold kR;rw[UJ q]
   rw[this]
  ·rw[Oj ⋯,a]
   by_cases O:k=r
   ·rw[O,Nat.sub_self,NL]
    have:kR p g r s y r=λj=>g s j*y%p:=by funext j;unfold kR;rw[UY ⋯,UJ rfl]
    rw[this]
   ·rw[show k - r=(k - r - 1)+1 by omega,NR,List.getElem?_drop,show r+(k - r - 1)=k - 1 by omega,z (k - 1) ⋯]
    have:kR p g r s y k=hR g s k:=by funext j;unfold kR;rw[UY q,UY O]
    rw[this];unfold hR;by_cases U:k<=s
    ·rw[UJ U,UJ ⋯]
    ·rw[UY U,UY ⋯,show k - 1+1=k by omega]
 ·rw[OM (by rw[NO,Pe,NW,SD,le];omega),OM (by rw[qS];omega)]
noncomputable def cR(p:Int)(g:UV)(r s c:Nat)(y:Int)(t k j:Nat):Int:=if r<k/\k<t then gR p g r s c y k j else kR p g r s y k j
theorem sS(hp:Pr p)(b6:R<=200)(hn:n<=200){c r s:Nat}(hc:c<n)(h1:r<=s)(h2:s<R)(rg : ∀k j,k<R->j<n->0<=g k j/\g k j<p)(y:Int)(J L Y S:Cell) : ∃Z a3,GC (hB p n R (kR p g r s y) r (.val<|.int (c:Int)) J (.val<|.lst<|zB n λj=>g s j*y%p) L Y S)=bQ (.next<|hB p n R (gR p g r s c y) r (.val<|.int (c:Int)) J (.val<|.lst<|zB n λj=>g s j*y%p) L Z a3):=by
 have hl:=jg;have l:=hp.pos;have p7:=hp.le;let I:Nat->Int:=λj=>g s j*y%p;have b2 : ∀j,0<=I j/\I j<p:=λj=>⟨NM _ ⋯,Nx _ l⟩;have d:kg (zK qu (zf 2)<|zy<|.int 1) (xY<|zh 1) (hB p n R (kR p g r s y) r (.val<|.int (c:Int)) J (.val<|.lst<|zB n I) L Y S)=bQ (q8 ((r+1:Nat):Int)<|R - (r+1)):=by have P:inR ((r:Int)+1)=bX:=kx ⋯ ⋯;have Q:inR (R:Int)=bX:=kx ⋯ ⋯;rw[QN];show(if inR ((r:Int)+1)=bX/\inR ((jl R n<|kR p g r s y).length:Int)=bX then bQ (q8 ((r:Int)+1) (((jl R n<|kR p g r s y).length:Int) - ((r:Int)+1)).toNat)else none)=_;rw[qS,UJ ⟨P,Q⟩,show((R:Int) - ((r:Int)+1)).toNat=R - (r+1)by omega];rfl
 have A:cR p g r s c y (r+1)=kR p g r s y:=by funext k j;unfold cR;rw[UY ⋯]
 have B:jl R n (cR p g r s c y R)=jl R n (gR p g r s c y):=by
  unfold jl;refine Nj λk O=>?_;have O:=MR.mp O;congr 2;funext j;unfold cR;by_cases q:r<k
  ·rw[UJ ⟨q,O⟩]
  ·rw[UY (λz=>q z.1)]
   unfold kR gR;by_cases U:k<r
   ·rw[UJ U,UJ U]
   ·rw[UY U,UY U,UJ ⋯,UJ ⋯]
 obtain⟨γ',e,Z,a3,rfl⟩:=vC (T:= .nm 7) (F:=zR dZ dY) (λt w=>∃Y S,w=hB p n R (cR p g r s c y<|r+1+t) r (.val<|.int (c:Int)) J (.val<|.lst<|zB n I) L Y S) (q8 ((r+1:Nat):Int)<|R - (r+1)) 0 (hB p n R (kR p g r s y) r (.val<|.int (c:Int)) J (.val<|.lst<|zB n I) L Y S) ⟨Y,S,by rw[Sl,A]⟩ (by
  rintro t G w a ⟨Y,S,rfl⟩;rw[OO];obtain⟨ht,rfl⟩:t<R - (r+1)/\G=D.int ((r+1+t:Nat):Int):=by unfold q8 at a;rw[NC]at a;obtain⟨k',U,N⟩:=Sz.mp a;obtain⟨m,o⟩:=Ng.mp U;rw[Nu]at m;rw[List.getElem_range]at o;subst o;exact⟨m,by rw[<- N];congr 1⟩
  generalize ek:r+1+t=k at *;have O:k<R:=by omega
  let X:=cR p g r s c y k;have f:X k=hR g s k:=by funext j;show cR p g r s c y k k j=_;unfold cR kR;rw[UY ⋯,UY ⋯,UY ⋯]
  have x : ∀j,j<n->0<=X k j/\X k j<p:=λj b=>by
   rw[f];unfold hR;split
   ·exact rg _ j ⋯ b
   ·exact rg _ j O b
  have a1:=yR O n X;have a2:=yu hc<|X k;have bc:=x c hc;let K:=Cell.val<|.int ((k:Nat):Int);let C:=Cell.val<|.int<|X k c;have W:dZ (hB p n R X r (.val<|.int (c:Int)) J (.val<|.lst<|zB n I) L K S)=bQ (.next<|hB p n R X r (.val<|.int (c:Int)) J (.val<|.lst<|zB n I) L K C):=by simp[dZ,K,C,V4,Wf,O,hc,qM]
  have H:zX (.tp [0,1]) jz (zK yv (zK Xi (zf 0)<|zK yD (zf 3)<|zf 1)<|zf 2) [Cell.no,.no,.val<|.int p,C] ((MO n).map λj=>D.tup [.int (X k j),.int (I j)])=bQ (zB n λj=>(X k j - X k c*I j)%p):=by unfold zB;refine zC _ _ λj b=>zD (γ1:=[.val (.int<|X k j),.val<|.int<|I j,.val<|.int p,C]) rfl rfl ?_;have E:ZT (X k c) (I j)=bX:=vG _ _ ⋯ ⋯;simp[C,E,l]
  have zp:Jg (zB n<|X k) (zB n I)=(MO n).map λj=>D.tup [.int (X k j),.int (I j)]:=by unfold Jg zB;rw[Dl,NB];rfl
  have M:((MO n).map λj=>D.tup [.int (X k j),.int (I j)]).length<=lim:=by simp;omega
  have comp:zU (K6 (cq (zh 1)<|zf 7)<|zf 5) (.tp [0,1]) 2 [0,8] jz (zK yv (zK Xi (zf 0)<|zK yD (zf 3)<|zf 1)<|zf 2) (hB p n R X r (.val<|.int (c:Int)) J (.val<|.lst<|zB n I) L K C)=bQ (zB n λj=>(X k j - X k c*I j)%p):=by
   have z:K6 (cq (zh 1)<|zf 7) (zf 5) (hB p n R X r (.val<|.int (c:Int)) J (.val<|.lst<|zB n I) L K C)=bQ ((MO n).map λj=>D.tup [.int (X k j),.int (I j)]):=by rw[<- zp];simp[K,V4,O]
   rw[j7,z,MW,UJ M];exact H
  have st:(jl R n X).set k (.lst<|zB n λj=>(X k j - X k c*I j)%p)=jl R n (cR p g r s c y<|k+1):=by
   apply PX;intro i;by_cases h:i<R
   ·rw[yR h,TH]
    by_cases q:k=i
    ·subst q
     rw[UJ rfl,UJ (by rw[qS];exact O)];congr 2;have:(λj=>(X k j - X k c*I j)%p)=cR p g r s c y (k+1) k:=by funext j;unfold cR gR;rw[UJ ⟨by omega,by omega⟩,UY ⋯,UY ⋯,f]
     rw[this]
    ·rw[UY q,yR h]
     congr 2;have:X i=cR p g r s c y (k+1) i:=by
      funext j;show cR p g r s c y k i j=_;unfold cR;by_cases z:r<i/\i<k
      ·rw[UJ z,UJ ⟨z.1,by omega⟩]
      ·rw[UY z,UY (λu=>z ⟨u.1,by omega⟩)]
     rw[this]
   ·rw[OM (by rw[List.length_set,qS];omega),OM (by rw[qS];omega)]
  have s2:dY (hB p n R X r (.val<|.int (c:Int)) J (.val<|.lst<|zB n I) L K C)=bQ (.next<|hB p n R (cR p g r s c y<|k+1) r (.val<|.int (c:Int)) J (.val<|.lst<|zB n I) L K C):=by unfold dY;rw[KU,yh,comp];show(ec (jl R n X).length (k:Int)).map (λj=>Fl.next<|((hB p n R X r (.val<|.int (c:Int)) J (.val<|.lst<|zB n I) L K C)).set 1 (.own<|(jl R n X).set j (.lst<|zB n λj=>(X k j - X k c*I j)%p)))=_;rw[qS,show ec R (k:Int)=bQ k by unfold ec;rw[UJ ⟨by omega,by omega⟩];rfl];show bQ (Fl.next [.val (.int p),.own<|(jl R n X).set k (.lst<|zB n λj=>(X k j - X k c*I j)%p),.val<|.int (r:Int),.val<|.int (c:Int),J,.val<|.lst<|zB n I,L,K,C])=_;rw[st]
  refine⟨_,.inl ?_,K,C,rfl⟩;show zR dZ dY (hB p n R X r (.val<|.int (c:Int)) J (.val<|.lst<|zB n I) L K S)=_;rw[show r+1+(t+1)=k+1 by omega];exact zv W s2)
 refine⟨Z,a3,?_⟩;unfold GC;rw[Jb,d,MW,e,OO,show(q8 ((r+1:Nat):Int)<|R - (r+1)).length=R - (r+1)by simp[q8],show r+1+(R - (r+1))=R by omega];show bQ (Fl.next [.val (.int p),.own<|jl R n<|cR p g r s c y R,.val<|.int (r:Int),.val<|.int (c:Int),J,.val<|.lst<|zB n I,L,Z,a3])=_;rw[B]
end
theorem AY:xj=jo 17 (zR EU<|zR ET<|zR Gi<|zR (yB (zS<|xw<|zf 1) (.nm 8) Ge) ID):=rfl
noncomputable def wa(p:Int)(w:UK)(wd1 wd2:UX)(T1 T2:UW)(k i j x:Nat):Int:=
 zg (λt=>T1 k t j*xm x (off wd2 wd1 (zO w k)+i*wd1 (zO w k)+t)) (wd1<|zO w k)+zg (λt=>((0 - T2 k i t)%p)*xm x (off wd2 wd1 (zM w k)+j+t*wd1 (zM w k))) (wd2<|zM w k)
noncomputable def wb(p:Int)(m:Nat)(w:UK)(wd1 wd2:UX)(T1 T2:UW)(e x:Nat):Int:=DY (eh w wd2) (d8 w wd1) (λk i j=>wa p w wd1 wd2 T1 T2 k i j x) m e
theorem XQ{n x:Nat}(u:Nat->Int)(a:Int):(zB n u).set x (.int a)=zB n λy=>if y=x then a else u y:=by
 apply PX;intro y;rw[TH];by_cases z:y<n
 ·rw[yu z (λy=>if y=x then a else u y),qM]
  by_cases q:x=y
  ·subst q;rw[UJ rfl,UJ z];simp
  ·rw[UY q,yu z u,UY (Oa q)]
 ·have e:(zB n λy=>if y=x then a else u y)[y]? = none:=OM (by rw[qM];omega)
  rw[e,qM];split
  ·rw[UY ⋯]
  ·exact OM (by rw[qM];omega)
theorem cH{n:Nat}{u v:Nat->Int}(h : ∀x,x<n->u x=v x):zB n u=zB n v:=by unfold zB;exact Nj λx a=>by rw[h x (MR.mp a)]
section
variable{p:Int}{m:Nat}{w:UK}{wd wd1 wd2:UX}{T T1 T2:UW}
theorem Aj{γ:Ctx}{i g r:Nat}(h:γ[i]? = bQ (.val<|jf m w wd T))(z:γ[g]? = bQ (.val<|.int (r:Int)))(I:r<m+1):VF i g γ=bQ (.int (wd r:Int)):=by
 unfold VF;rw[yx,vI,z];have e:zG (cq (zh i)<|zy<|.int 0) γ=bQ (.L,zB (m+1) λk=>(wd k:Int)):=by show((cq (zh i) (zy<|.int 0) γ).bind jj)=_;rw[yx,xD,h];rfl
 rw[e];show((ec (zB (m+1) λk=>(wd k:Int)).length (r:Int)).bind λk=>(zB (m+1) λk=>(wd k:Int))[k]?)=_;rw[qM,show ec (m+1) (r:Int)=bQ r by unfold ec;rw[UJ ⟨by omega,by omega⟩];rfl];exact yu I _
theorem IA{γ:Ctx}{i a b k t j:Nat}(h:γ[i]? = bQ (.val<|jf m w wd T))(z:γ[8]? = bQ (.val<|.int (k:Int)))(C:γ[a]? = bQ (.val<|.int (t:Int)))(I:γ[b]? = bQ (.val<|.int (j:Int)))(O:k<m)(U:t<eh w wd k)(J:j<d8 w wd k):Al i a b γ=bQ (.int<|T k t j):=by
 have d:cq (zG<|cq (zh i)<|zy<|.int 1) (zf 8) γ=bQ (.lst<|jl (eh w wd k) (d8 w wd k)<|T k):=by
  rw[yx,vI,z];have e:zG (cq (zh i)<|zy<|.int 1) γ=bQ (.L,jd m w wd T):=by show((cq (zh i) (zy<|.int 1) γ).bind jj)=_;rw[yx,xD,h];rfl
  rw[e];have g:(jd m w wd T).length=m:=by simp[jd]
  show((ec (jd m w wd T).length (k:Int)).bind λk=>(jd m w wd T)[k]?)=_;rw[g,show ec m (k:Int)=bQ k by unfold ec;rw[UJ ⟨by omega,by omega⟩];rfl];show(jd m w wd T)[k]? = _;unfold jd;simp[O]
 have f:cq (zG<|cq (zG<|cq (zh i)<|zy<|.int 1)<|zf 8) (zf a) γ=bQ (.lst<|zB (d8 w wd k)<|T k t):=by rw[yx,vI,C];rw[show zG (cq (zG<|cq (zh i)<|zy<|.int 1)<|zf 8) γ=bQ (.L,jl (eh w wd k) (d8 w wd k)<|T k)by show((cq (zG<|cq (zh i)<|zy<|.int 1) (zf 8) γ).bind jj)=_;rw[d];rfl];show((ec (jl (eh w wd k) (d8 w wd k)<|T k).length (t:Int)).bind λx=>(jl (eh w wd k) (d8 w wd k)<|T k)[x]?)=_;rw[qS,show ec (eh w wd k) (t:Int)=bQ t by unfold ec;rw[UJ ⟨by omega,by omega⟩];rfl];exact yR U _ _
 unfold Al;rw[yx,vI,I];rw[show zG (cq (zG<|cq (zG<|cq (zh i)<|zy<|.int 1)<|zf 8)<|zf a) γ=bQ (.L,zB (d8 w wd k)<|T k t)by show((cq (zG<|cq (zG<|cq (zh i)<|zy<|.int 1)<|zf 8) (zf a) γ).bind jj)=_;rw[f];rfl];show((ec (zB (d8 w wd k)<|T k t).length (j:Int)).bind λx=>(zB (d8 w wd k)<|T k t)[x]?)=_;rw[qM,show ec (d8 w wd k) (j:Int)=bQ j by unfold ec;rw[UJ ⟨by omega,by omega⟩];rfl];exact yu J _
abbrev p4(wd1 wd2:UX)(n:Nat):List D:=zB (n+1) λk=>(off wd2 wd1 k:Int)
abbrev n4(p:Int)(m:Nat)(w:UK)(wd1 wd2:UX)(T1 T2:UW)(c5 c6 c7 c8 c9 D8 D9 En E1 P0 F' F_:Cell):Ctx:=[.val (.int p),.val (.str (j5 m w)),.val (jf m w wd1 T1),.val (jf m w wd2 T2),.own (p4 wd1 wd2 (m+1)),c5,c6,c7,c8,c9,D8,D9,En,E1,P0,F',F_]
theorem IC{γ:Ctx}{g r:Nat}(h:γ[4]? = bQ (.own<|p4 wd1 wd2<|m+1))(z:γ[g]? = bQ (.val<|.int (r:Int)))(I:r<m+2):cq (zh 4) (zf g) γ=bQ (.int (off wd2 wd1 r:Int)):=by rw[yx,vI,z,xD,h];show((ec (p4 wd1 wd2<|m+1).length (r:Int)).bind λk=>(p4 wd1 wd2<|m+1)[k]?)=_;rw[qM,show ec (m+1+1) (r:Int)=bQ r by unfold ec;rw[UJ ⟨by omega,by omega⟩];rfl];exact yu I _
theorem gc{γ:Ctx}{n:Nat}(h:γ[4]? = bQ (.own<|p4 wd1 wd2 n)):rX γ=bQ (.int (off wd2 wd1 n:Int)):=by unfold rX;rw[yx,xD,h];show((ec (p4 wd1 wd2 n).length (-1)).bind λk=>(p4 wd1 wd2 n)[k]?)=_;rw[qM,show ec (n+1) (-1)=bQ n by unfold ec;rw[UY ⋯,UJ ⟨by omega,by omega⟩];congr 1;omega];exact yu ⋯ _
theorem WT{e b i j t s:Nat}(J:e≠b)(C:i<wd2 e)(z:t<wd1 e)(hs:s<wd2 b)(I:j<wd1 b):off wd2 wd1 e+i*wd1 e+t≠off wd2 wd1 b+j+s*wd1 b:=by
 have O:=KQ C z;have U:=KQ hs I;have a:off wd2 wd1 (e+1)=off wd2 wd1 e+wd2 e*wd1 e:=rfl;have d:off wd2 wd1 (b+1)=off wd2 wd1 b+wd2 b*wd1 b:=rfl;rcases Nn e b with h | h
 ·have:=Jq (hs:=wd2) (ws:=wd1) (show e+1<=b by omega)
  omega
 ·have:=Jq (hs:=wd2) (ws:=wd1) (show b+1<=e by omega)
  omega
theorem Et(w:UK)(k:Nat):zO w k≠zM w k:=by unfold zO zM;split<;>omega
end
section
variable{p:Int}{m:Nat}{w:UK}{wd1 wd2:UX}{T1 T2:UW}
theorem rY(hp:Pr p)(hm:m<=5)(h1 : ∀k,wd1 k<=9)(h2 : ∀k,wd2 k<=9)(hN:off wd2 wd1 (m+1)<=1000){k i j:Nat}(hk:k<m)(hi:i<wd2 (zO w k))(hj:j<wd1 (zM w k)){L:List D}(hr:L.length<=1000)(Z c6 Y S J C:Cell) :
 ∃ac ae ak am,Gf (n4 p m w wd1 wd2 T1 T2 Z c6 (.own L) (.val<|.int (k:Int)) (.val<|.int (zM w k:Int)) (.val<|.int (zO w k:Int)) (.val<|.int (i:Int)) (.val<|.int (j:Int)) Y S J C)=bQ (.next<|n4 p m w wd1 wd2 T1 T2 Z c6 (.own<|L++[.lst (zB (off wd2 wd1<|m+1)<|wa p w wd1 wd2 T1 T2 k i j)]) (.val<|.int (k:Int)) (.val<|.int (zM w k:Int)) (.val<|.int (zO w k:Int)) (.val<|.int (i:Int)) (.val<|.int (j:Int)) ac ae ak am):=by
 have hl:=jg;have p0:=hp.pos;have A:=yt (w:=w) hk;have o:=yw (w:=w) hk;have R:=Et w k;let N:=off wd2 wd1<|m+1;let e:=zO w k;let b:=zM w k;let Γ:Cell->Cell->Cell->Cell->Ctx:=λY S J C=>n4 p m w wd1 wd2 T1 T2 Z c6 (.own L) (.val<|.int (k:Int)) (.val<|.int (b:Int)) (.val<|.int (e:Int)) (.val<|.int (i:Int)) (.val<|.int (j:Int)) Y S J C;have X : ∀t,t<wd1 e->off wd2 wd1 e+i*wd1 e+t<N:=λt O=>Wq A hi O;have W : ∀t,t<wd2 b->off wd2 wd1 b+j+t*wd1 b<N:=λt O=>by
  have:=Wq (hs:=wd2) (ws:=wd1) o O hj;have z:off wd2 wd1 b+t*wd1 b+j=off wd2 wd1 b+j+t*wd1 b:=by omega
  rw[<- z];exact this
 have br:(wd1 e:Int)<10:=by have:=h1 e;omega
 have s1:Gm (Γ Y S J C)=bQ (.next<|Γ (.own<|zB N λ_=>0) S J C):=by
  have P:rX (Γ Y S J C)=bQ (.int (N:Int)):=gc (n:=m+1) rfl;unfold Gm;rw[iI,iK,P];have r:inR (N:Int)=bX:=kx ⋯ ⋯;have rp:MV N (D.int 0)=zB N λ_=>0:=by unfold zB;rw[List.map_const',Nu]
  have M:(1:Nat)<=lim:=by omega
  have Q:N<=lim:=by show off wd2 wd1 (m+1)<=lim;omega
  simp[r,M,Q];rw[rp];rfl
 let a:=off wd2 wd1 e+i*wd1 e;have s2:Gk (Γ (.own<|zB N λ_=>0) S J C)=bQ (.next<|Γ (.own<|zB N λ_=>0) (.val<|.int (a:Int)) J C):=by have B:cq (zh 4) (zf 10) (Γ (.own<|zB N λ_=>0) S J C)=bQ (.int (off wd2 wd1 e:Int)):=IC (m:=m) rfl rfl ⋯;have U:VF 2 10 (Γ (.own<|zB N λ_=>0) S J C)=bQ (.int (wd1 e:Int)):=Aj rfl rfl A;have u:ZT (i:Int) (wd1 e:Int)=bX:=Zr _ _ ⋯ ⋯;unfold Gk;rw[yf,yi,B,yi,U];show((yD (.int (i:Int))<|.int (wd1 e:Int)).bind λy=>qu (.int (off wd2 wd1 e:Int)) y).map _=_;simp only[Ju,u,if_true,MW,Jw];show bQ (Fl.next<|Γ (.own<|zB N λ_=>0) (.val<|.int<|(off wd2 wd1 e:Int)+(i:Int)*(wd1 e:Int)) J C)=_;rw[show((off wd2 wd1 e:Int)+(i:Int)*(wd1 e:Int))=(a:Int)by show _=((off wd2 wd1 e+i*wd1 e:Nat):Int);rw[Int.natCast_add,RY]]
 let u1:Nat->Nat->Int:=λs x=>zg (λt=>T1 k t j*xm x (a+t)) s;obtain⟨_s,s3,d,rfl⟩:=jV (T:= .nm 15) (F:=rZ) (f:=VF 2 10) (λs γ=>∃J,γ=Γ (.own<|zB N<|u1 s) (.val<|.int (a:Int)) J C) (wd1 e) (by have:=h1 e;omega) (γ:=Γ (.own<|zB N λ_=>0) (.val<|.int (a:Int)) J C) (Aj rfl rfl A) ⟨J,rfl⟩ (by
  rintro t O γ ⟨J,rfl⟩;refine⟨Γ (.own<|zB N<|u1 t) (.val<|.int (a:Int)) (.val<|.int (t:Int)) C,Γ (.own<|zB N<|u1<|t+1) (.val<|.int (a:Int)) (.val<|.int (t:Int)) C,rfl,?_,_,rfl⟩;have q:Al 2 15 12 (Γ (.own<|zB N<|u1 t) (.val<|.int (a:Int)) (.val<|.int (t:Int)) C)=bQ (.int<|T1 k t j):=IA rfl rfl rfl rfl hk (by rw[<- qe];exact O) (by rw[<- qk];exact hj);unfold rZ;rw[KU,q];show(ec (zB N<|u1 t).length ((a:Int)+(t:Int))).map (λx=>Fl.next<|Γ (.own<|(zB N<|u1 t).set x (.int<|T1 k t j)) (.val<|.int (a:Int)) (.val<|.int (t:Int)) C)=_;rw[qM,show ec N ((a:Int)+(t:Int))=bQ (a+t)by unfold ec;have:=X t O;rw[UJ ⟨by omega,by show(a:Int)+t<(N:Int);omega⟩];congr 1];show bQ (Fl.next<|Γ (.own<|(zB N<|u1 t).set (a+t) (.int<|T1 k t j)) (.val<|.int (a:Int)) (.val<|.int (t:Int)) C)=_;rw[XQ];have:(λy=>if y=a+t then T1 k t j else u1 t y)=u1 (t+1):=by
   funext y;show _=u1 t y+T1 k t j*xm y (a+t);by_cases z:y=a+t
   ·rw[UJ z,z]
    have:u1 t (a+t)=0:=by show zg _ t=0;rw[zw (g:=λ_=>0) λh l=>by unfold xm;rw[UY ⋯,NK],zH]
    rw[this];unfold xm;rw[UJ rfl];omega
   ·rw[UY z]
    unfold xm;rw[UY z];omega
  rw[this])
 let I:=off wd2 wd1 b+j;have s4:Gj (Γ (.own<|zB N<|u1<|wd1 e) (.val<|.int (a:Int)) d C)=bQ (.next<|Γ (.own<|zB N<|u1<|wd1 e) (.val<|.int (I:Int)) d C):=by have B:cq (zh 4) (zf 9) (Γ (.own<|zB N<|u1<|wd1 e) (.val<|.int (a:Int)) d C)=bQ (.int (off wd2 wd1 b:Int)):=IC (m:=m) rfl rfl ⋯;unfold Gj;rw[yf,yi,B];rfl
 let u2:Nat->Nat->Int:=λs x=>u1 (wd1 e) x+zg (λt=>((0 - T2 k i t)%p)*xm x (I+t*wd1 b)) s;obtain⟨_t,s5,E,G,rfl⟩:=jV (T:= .nm 15) (F:=AZ) (f:=VF 3 9) (λs γ=>∃J C,γ=Γ (.own<|zB N<|u2 s) (.val<|.int (I:Int)) J C) (wd2 b) (by have:=h2 b;omega) (γ:=Γ (.own<|zB N<|u1<|wd1 e) (.val<|.int (I:Int)) d C) (Aj rfl rfl o) ⟨d,C,by
  have:u2 0=u1 (wd1 e):=by funext x;show u1 (wd1 e) x+0=_;omega
  rw[this]⟩ (by
  rintro t O γ ⟨J,C,rfl⟩;let V:=Cell.val<|.int<|T2 k i t;refine⟨Γ (.own<|zB N<|u2 t) (.val<|.int (I:Int)) (.val<|.int (t:Int)) C,Γ (.own<|zB N<|u2<|t+1) (.val<|.int (I:Int)) (.val<|.int (t:Int)) V,rfl,?_,_,_,rfl⟩;have q:Al 3 11 15 (Γ (.own<|zB N<|u2 t) (.val<|.int (I:Int)) (.val<|.int (t:Int)) C)=bQ (.int<|T2 k i t):=IA rfl rfl rfl rfl hk (by rw[<- qe];exact hi) (by rw[<- qk];exact O);refine zv (γ':=Γ (.own<|zB N<|u2 t) (.val<|.int (I:Int)) (.val<|.int (t:Int)) V) (by rw[yf,q];rfl) ?_;have U:VF 2 9 (Γ (.own<|zB N<|u2 t) (.val<|.int (I:Int)) (.val<|.int (t:Int)) V)=bQ (.int (wd1 b:Int)):=Aj rfl rfl o;have c1:(wd1 b:Int)<10:=by have:=h1 b;omega
  have u:ZT (t:Int) (wd1 b:Int)=bX:=Zr _ _ ⋯ ⋯;have K:zK qu (zf 14) (zK yD (zf 15)<|VF 2 9) (Γ (.own<|zB N<|u2 t) (.val<|.int (I:Int)) (.val<|.int (t:Int)) V)=bQ (.int ((I+t*wd1 b:Nat):Int)):=by rw[yi,yi,U];show((yD (.int (t:Int))<|.int (wd1 b:Int)).bind λy=>qu (.int (I:Int)) y)=_;simp only[Ju,u,if_true,MW,Jw];congr 2
  have vl:zK yv (zK Xi (zy<|.int 0)<|zf 16) (zf 0) (Γ (.own<|zB N<|u2 t) (.val<|.int (I:Int)) (.val<|.int (t:Int)) V)=bQ (.int<|(0 - T2 k i t)%p):=by show((Xi (.int 0)<|.int<|T2 k i t).bind λx=>yv x<|.int p)=_;simp only[oi,MW,oj];rw[UJ p0]
  rw[KU,vl,K];show(ec (zB N<|u2 t).length ((I+t*wd1 b:Nat):Int)).map (λx=>Fl.next<|Γ (.own<|(zB N<|u2 t).set x (.int<|(0 - T2 k i t)%p)) (.val<|.int (I:Int)) (.val<|.int (t:Int)) V)=_;rw[qM,show ec N ((I+t*wd1 b:Nat):Int)=bQ (I+t*wd1 b)by unfold ec;have:=W t O;rw[UJ ⟨by omega,by show((I+t*wd1 b:Nat):Int)<(N:Int);omega⟩];congr 1];show bQ (Fl.next<|Γ (.own<|(zB N<|u2 t).set (I+t*wd1 b) (.int<|(0 - T2 k i t)%p)) (.val<|.int (I:Int)) (.val<|.int (t:Int)) V)=_;rw[XQ];have:(λy=>if y=I+t*wd1 b then (0 - T2 k i t)%p else u2 t y)=u2 (t+1):=by
   funext y;show _=u1 (wd1 e) y+(zg (λt=>((0 - T2 k i t)%p)*xm y (I+t*wd1 b)) t+((0 - T2 k i t)%p)*xm y (I+t*wd1 b));by_cases z:y=I+t*wd1 b
   ·rw[UJ z]
    have z1:u1 (wd1 e) y=0:=by
     show zg _ _=0;rw[zw (g:=λ_=>0) λh l=>by unfold xm;rw[UY,NK];intro q;exact WT (wd1:=wd1) (wd2:=wd2) R hi l O hj (by rw[<- z];exact q.symm),zH]
    have z2:zg (λt=>((0 - T2 k i t)%p)*xm y (I+t*wd1 b)) t=0:=by
     rw[zw (g:=λ_=>0) λh l=>by unfold xm;rw[UY,NK];intro q;have U:t*wd1 b=h*wd1 b:=Ts (show I+t*wd1 b=I+h*wd1 b by rw[<- z];exact q);have:=Nat.eq_of_mul_eq_mul_right (Nat.lt_of_le_of_lt (OD _) hj) U;omega,zH]
    rw[z1,z2];unfold xm;rw[UJ z];omega
   ·rw[UY z]
    show u1 (wd1 e) y+zg _ t=_;unfold xm;rw[UY z];omega
  rw[this])
 have H:L.length<lim:=by omega
 have s6:IE (Γ (.own<|zB N<|u2<|wd2 b) (.val<|.int (I:Int)) E G)=bQ (.next<|n4 p m w wd1 wd2 T1 T2 Z c6 (.own<|L++[.lst (zB N<|u2<|wd2 b)]) (.val<|.int (k:Int)) (.val<|.int (b:Int)) (.val<|.int (e:Int)) (.val<|.int (i:Int)) (.val<|.int (j:Int)) (.val<|.lst<|zB N<|u2<|wd2 b) (.val<|.int (I:Int)) E G):=by show(if L.length<lim then _ else none)=_;rw[UJ H];rfl
 exact⟨_,_,_,_,zv s1<|zv s2<|zv s3<|zv s4<|zv s5 s6⟩
end
noncomputable def HD(f:UX):Nat->Cell
 | 0=> .no
 | i+1=> .val (.int (f i:Int))
section
variable{p:Int}{m:Nat}{w:UK}{wd1 wd2:UX}{T1 T2:UW}
theorem fX(R N:Nat)(M:UV):jl (R+1) N M=jl R N M++[.lst (zB N<|M R)]:=by unfold jl;rw[NT,NF];rfl
theorem WQ{k i j:Nat}(z:k<m)(C:i<eh w wd2 k)(I:j<d8 w wd1 k):wb p m w wd1 wd2 T1 T2 (off (eh w wd2) (d8 w wd1) k+i*d8 w wd1 k+j)=wa p w wd1 wd2 T1 T2 k i j:=by funext x;unfold wb;exact K8 (T:=λk i j=>wa p w wd1 wd2 T1 T2 k i j x) C I m z
theorem dA(hp:Pr p)(hm:m<=5)(S : ∀k,wd1 k<=9)(h2 : ∀k,wd2 k<=9)(hN:off wd2 wd1 (m+1)<=1000)(hR:off (eh w wd2) (d8 w wd1) m<=1000) :
 xj [.int p,.str<|j5 m w,jf m w wd1 T1,jf m w wd2 T2]=bQ (.val<|.tup [.int (off wd2 wd1 (m+1):Int),.lst (jl (off (eh w wd2) (d8 w wd1) m) (off wd2 wd1<|m+1)<|wb p m w wd1 wd2 T1 T2)]):=by
 have hl:=jg;let N:=off wd2 wd1<|m+1;let M:=wb p m w wd1 wd2 T1 T2;let z:=off (eh w wd2)<|d8 w wd1;let K:=jf m w wd1 T1;let L:=jf m w wd2 T2;let r:Nat->Cell:=HD wd1;let t:Nat->Cell:=HD wd2;let Z:Nat->Ctx:=λs=>[.val (.int p),.val<|.str<|j5 m w,.val K,.val L,.own<|p4 wd1 wd2 s,r s,t s,.no,.no,.no,.no,.no,.no,.no,.no,.no,.no];have sa:EU (z9 17 [.int p,.str<|j5 m w,K,L])=bQ (.next<|Z 0):=by
  have l1:1<=lim:=by omega
  unfold EU;simp[l1,Z,z9,MV,r,t,HD];rfl
 have sb:ET (Z 0)=bQ (.next<|Z<|m+1):=by
  have R:K6 (cq (zh 2)<|zy<|.int 0) (cq (zh 3)<|zy<|.int 0) (Z 0)=bQ ((MO<|m+1).map λk=>D.tup [.int (wd1 k:Int),.int (wd2 k:Int)]):=by show bQ (Jg (zB (m+1) λk=>(wd1 k:Int))<|zB (m+1) λk=>(wd2 k:Int))=_;unfold Jg zB;rw[Dl,NB];rfl
  unfold ET;rw[Jb,R,MW];refine V9 Z λs hs=>?_;let Y:Ctx:=[.val (.int p),.val<|.str<|j5 m w,.val K,.val L,.own<|p4 wd1 wd2 s,.val<|.int (wd1 s:Int),.val<|.int (wd2 s:Int),.no,.no,.no,.no,.no,.no,.no,.no,.no,.no];have b:xC (.tp [5,6]) (D.tup [.int (wd1 s:Int),.int (wd2 s:Int)]) (Z s)=bQ Y:=rfl;rw[b,MW];have Q:cq (zh 4) (dR<|zy<|.int 1) Y=bQ (.int (off wd2 wd1 s:Int)):=gc (n:=s) rfl;have b1:=S s;have cm:ZT (wd1 s:Int) (wd2 s:Int)=bX:=vG _ _ ⋯ ⋯;have al:(p4 wd1 wd2 s).length<lim:=by rw[qM];omega
  have v:zK qu (cq (zh 4)<|dR<|zy<|.int 1) (zK yD (zf 5)<|zf 6) Y=bQ (.int (off wd2 wd1 (s+1):Int)):=by rw[yi,Q,yi];show((yD (.int (wd1 s:Int))<|.int (wd2 s:Int)).bind λy=>qu (.int (off wd2 wd1 s:Int)) y)=_;simp only[Ju,cm,if_true,MW,Jw];congr 2;show _=((off wd2 wd1 s+wd2 s*wd1 s:Nat):Int);rw[Int.natCast_add,RY,Om]
  rw[yI,v];show(if (p4 wd1 wd2 s).length<lim then bQ (Fl.next<|Y.set 4<|.own<|p4 wd1 wd2 s++[.int (off wd2 wd1 (s+1):Int)])else none)=_;rw[UJ al];have e:p4 wd1 wd2 s++[.int (off wd2 wd1 (s+1):Int)]=p4 wd1 wd2 (s+1):=by unfold p4 zB;rw[NT (n:=s+1),NF];rfl
  rw[e];rfl
 have sc:Gi (Z<|m+1)=bQ (.next<|n4 p m w wd1 wd2 T1 T2 (r<|m+1) (t<|m+1) (.own<|jl 0 N M) .no .no .no .no .no .no .no .no .no):=rfl;have wl:=ky m w;have ap:=qZ w (show m<=1000 by omega);obtain⟨γ',sd,J,x,u,o,l,a,d,g,h,rfl⟩:=jV (T:= .nm 8) (F:=Ge) (f:=xw<|zf 1) (λk γ=>∃J x u o l a d g h,γ=n4 p m w wd1 wd2 T1 T2 (r<|m+1) (t<|m+1) (.own<|jl (z k) N M) J x u o l a d g h) m ⋯ (γ:=n4 p m w wd1 wd2 T1 T2 (r<|m+1) (t<|m+1) (.own<|jl 0 N M) .no .no .no .no .no .no .no .no .no) (by simp[wl,ap]) ⟨_,_,_,_,_,_,_,_,_,rfl⟩ (by
  rintro k O γ ⟨J,x,u,o,l,a,d,g,h,rfl⟩;have en:=yt (w:=w) O;have be:=yw (w:=w) O;have ee:=xS (w:=w) hm O;let B:=Cell.val<|.int (zM w k:Int);let E:=Cell.val<|.int (zO w k:Int);let I:=Cell.val<|.int (k:Int);have se:Gh (n4 p m w wd1 wd2 T1 T2 (r<|m+1) (t<|m+1) (.own<|jl (z k) N M) I x u o l a d g h)=bQ (.next<|n4 p m w wd1 wd2 T1 T2 (r<|m+1) (t<|m+1) (.own<|jl (z k) N M) I B E o l a d g h):=by simp[Gh,ee,I,B,E]
  have o1:z (k+1)=z k+eh w wd2 k*d8 w wd1 k:=rfl;have oM:z (k+1)<=1000:=NZ (Jq<|show k+1<=m by omega) hR;obtain⟨_u,si,b8,P,U,C,G,H,rfl⟩:=jV (T:= .nm 11) (F:=AW) (f:=VF 3 10) (λi γ=>∃o l a d g h,γ=n4 p m w wd1 wd2 T1 T2 (r<|m+1) (t<|m+1) (.own<|jl (z k+i*d8 w wd1 k) N M) I B E o l a d g h) (wd2<|zO w k) (by have:=h2<|zO w k;omega) (γ:=n4 p m w wd1 wd2 T1 T2 (r<|m+1) (t<|m+1) (.own<|jl (z k) N M) I B E o l a d g h) (Aj rfl rfl en) ⟨o,l,a,d,g,h,by rw[Nat.zero_mul];rfl⟩ (by
   rintro i hi γ ⟨o,l,a,d,g,h,rfl⟩;let A:=Cell.val<|.int (i:Int);have W:i<eh w wd2 k:=by rw[<- qe];exact hi
   obtain⟨_v,sj,P,U,C,G,H,rfl⟩:=jV (T:= .nm 12) (F:=Gf) (f:=VF 2 9) (λj γ=>∃l a d g h,γ=n4 p m w wd1 wd2 T1 T2 (r<|m+1) (t<|m+1) (.own<|jl (z k+i*d8 w wd1 k+j) N M) I B E A l a d g h) (wd1<|zM w k) (by have:=S<|zM w k;omega) (γ:=n4 p m w wd1 wd2 T1 T2 (r<|m+1) (t<|m+1) (.own<|jl (z k+i*d8 w wd1 k) N M) I B E A l a d g h) (Aj rfl rfl be) ⟨_,_,_,_,_,rfl⟩ (by
    rintro j hj γ ⟨l,a,d,g,h,rfl⟩;have X:j<d8 w wd1 k:=by rw[<- qk];exact hj
    have rl:(jl (z k+i*d8 w wd1 k+j) N M).length<=1000:=by rw[qS];have:=KQ W X;omega
    obtain⟨U,C,G,H,q⟩:=rY (T1:=T1) (T2:=T2) hp hm S h2 hN O hi hj rl (r<|m+1) (t<|m+1) a d g h;refine⟨n4 p m w wd1 wd2 T1 T2 (r<|m+1) (t<|m+1) (.own<|jl (z k+i*d8 w wd1 k+j) N M) I B E A (.val<|.int (j:Int)) a d g h,_,rfl,q,.val<|.int (j:Int),U,C,G,H,?_⟩;have e:jl (z k+i*d8 w wd1 k+j) N M++[.lst (zB (off wd2 wd1<|m+1)<|wa p w wd1 wd2 T1 T2 k i j)]=jl (z k+i*d8 w wd1 k+(j+1)) N M:=by rw[show z k+i*d8 w wd1 k+(j+1)=z k+i*d8 w wd1 k+j+1 from rfl,fX];congr 3;rw[show M (z k+i*d8 w wd1 k+j)=wa p w wd1 wd2 T1 T2 k i j from WQ O W X]
    rw[e])
   refine⟨n4 p m w wd1 wd2 T1 T2 (r<|m+1) (t<|m+1) (.own<|jl (z k+i*d8 w wd1 k) N M) I B E A l a d g h,_,rfl,sj,A,P,U,C,G,H,?_⟩;rw[show z k+i*d8 w wd1 k+wd1 (zM w k)=z k+(i+1)*d8 w wd1 k by rw[qk w wd1 k,SV,RN]])
  refine⟨n4 p m w wd1 wd2 T1 T2 (r<|m+1) (t<|m+1) (.own<|jl (z k) N M) I x u o l a d g h,_,rfl,zv se si,I,B,E,b8,P,U,C,G,H,?_⟩;rw[show z k+wd2 (zO w k)*d8 w wd1 k=z (k+1)by rw[qe w wd2 k];rfl])
 rw[AY];refine je<|zv sa<|zv sb<|zv sc<|zv sd ?_;have Q:rX (n4 p m w wd1 wd2 T1 T2 (r<|m+1) (t<|m+1) (.val<|.lst<|jl (z m) N M) J x u o l a d g h)=bQ (.int (N:Int)):=gc (n:=m+1) rfl;have l2:2<=lim:=by omega
 show jR (xH<|zb rX<|zb (zf 7) zI) (n4 p m w wd1 wd2 T1 T2 (r<|m+1) (t<|m+1) (.val<|.lst<|jl (z m) N M) J x u o l a d g h)=_;rw[Ja,aS,jx,Q];rfl
theorem AX{k i j:Nat}(I:k<m)(C:i<wd2 (zO w k))(O:j<wd1 (zM w k))(v:Nat->Int):zg (λx=>wa p w wd1 wd2 T1 T2 k i j x*v x) (off wd2 wd1<|m+1)=zg (λt=>T1 k t j*v (off wd2 wd1 (zO w k)+i*wd1 (zO w k)+t)) (wd1<|zO w k)+zg (λt=>((0 - T2 k i t)%p)*v (off wd2 wd1 (zM w k)+j+t*wd1 (zM w k))) (wd2<|zM w k):=by
 have U:=yt (w:=w) I;have a:=yw (w:=w) I;unfold wa;rw[zw (g:=λx=>zg (λt=>T1 k t j*xm x (off wd2 wd1 (zO w k)+i*wd1 (zO w k)+t)) (wd1<|zO w k)*v x+zg (λt=>((0 - T2 k i t)%p)*xm x (off wd2 wd1 (zM w k)+j+t*wd1 (zM w k))) (wd2<|zM w k)*v x) λx _=>SG ..,jO,WC (N:=off wd2 wd1<|m+1) (λt=>T1 k t j) (λt=>off wd2 wd1 (zO w k)+i*wd1 (zO w k)+t) v<|λt z=>Wq U C z,WC (N:=off wd2 wd1<|m+1) (λt=>(0 - T2 k i t)%p) (λt=>off wd2 wd1 (zM w k)+j+t*wd1 (zM w k)) v λt z=>by have:=Wq (hs:=wd2) (ws:=wd1) a z O;rw[show off wd2 wd1 (zM w k)+j+t*wd1 (zM w k)=off wd2 wd1 (zM w k)+t*wd1 (zM w k)+j by omega];exact this]
end
theorem ur : ∀p ∈ [2,3,5,7],∀x:Fin 7,x.val≠0->x.val<p->∃y:Fin 7,1<=y.val/\y.val<p/\y.val*x.val%p=1:=by decide +kernel
theorem CY{p x:Int}(I:Pr p)(C:0<=x)(J:x<p)(hx:x≠0) : ∃y:Nat,1<=y/\(y:Int)<p/\(y:Int)*x%p=1:=by
 have b:=I.le;have two:=I.two;obtain⟨q,rfl⟩ : ∃q:Nat,p=(q:Int):=⟨p.toNat,by omega⟩;obtain⟨z,rfl⟩ : ∃z:Nat,x=(z:Int):=⟨x.toNat,by omega⟩;have U:q ∈ [2,3,5,7]:=by unfold Pr at I;simp;omega
 obtain⟨y,a,d,O⟩:=ur q U ⟨z,by omega⟩ (by dsimp only;omega) (by dsimp only;omega);refine⟨y.val,a,by omega,?_⟩;dsimp only at O;have:((y.val*z%q:Nat):Int)=1:=by rw[O];rfl
 rw[Int.natCast_emod,RY]at this;exact this
section
variable{p:Int}{n R:Nat}{f g:UV}
theorem JS{F G:CO Fl}{γ γ' z:Ctx}(h:F γ=bQ (.next γ'))(g:G γ'=bQ (.next z)):zR F G γ=bQ (.next z):=by rw[jI,h];exact g
theorem sR(U:Pr p)(a5:R<=200)(hn:n<=200){c r s:Nat}(hc:c<n)(h1:r<=s)(h2:s<R)(rg : ∀k j,k<R->j<n->0<=g k j/\g k j<p)(hx:g s c%p≠0)(L:List Nat)(c5 Z J Y:Cell) : ∃y a6 a7 a8 I O,y*g s c%p=1/\
 IP (hB p n R g r (.val<|.int (c:Int)) (.val<|.lst<|(s::L).map λ(j:Nat)=>D.int j) c5 Z J Y)=bQ (.next<|hB p n R (gR p g r s c y) (r+1) (.val<|.int (c:Int)) a6 a7 a8 I O):=by
 have hl:=jg;have x:=U.pos;have p7:=U.le;have b:=rg s c h2 hc;rw[Nz b.1 b.2]at hx;obtain⟨W,y1,y2,X⟩:=CY U b.1 b.2 hx;let C:=Cell.val<|.int (c:Int);let S:=Cell.val<|.lst<|(s::L).map λ(j:Nat)=>D.int j;let E:=(jl R n g).eraseIdx s;have le:E.length=R - 1:=by show((jl R n g).eraseIdx s).length=_;rw[List.length_eraseIdx,qS,UJ h2]
 have M:GG (hB p n R g r C S c5 Z J Y)=bQ (.next [.val (.int p),.own E,.val<|.int (r:Int),C,S,.val<|.lst<|zB n<|g s,Z,J,Y]):=by
  unfold GG;rw[Ey];show((bQ (jl R n g)).bind λf=>((cq (zh 4) (zy<|.int 0)<|hB p n R g r C S c5 Z J Y).bind ix).bind λk=>if (0<=k/\k<f.length)/\f.length<=lim then (f[k.toNat]?).map λd=>Fl.next (((hB p n R g r C S c5 Z J Y).set 1 (.own<|f.eraseIdx k.toNat)).set 5 (.val d))else none)=_;have F:cq (zh 4) (zy<|.int 0) (hB p n R g r C S c5 Z J Y)=bQ (.int (s:Int)):=by simp[S,ec]
  rw[F];show(if (0<=(s:Int)/\(s:Int)<((jl R n g).length:Int))/\(jl R n g).length<=lim then ((jl R n g)[(s:Int).toNat]?).map λd=>Fl.next (((hB p n R g r C S c5 Z J Y).set 1 (.own<|(jl R n g).eraseIdx (s:Int).toNat)).set 5 (.val d))else none)=_;rw[qS,UJ ⟨⟨by omega,by omega⟩,by omega⟩,Oi,yR h2];rfl
 let q:Nat->Bool:=λy=>decide<|(y:Int)*g s c%p=1;obtain⟨pn,bc⟩ : ∃pn:Nat,p=(pn:Int):=⟨p.toNat,by omega⟩;obtain⟨y,u,w⟩ : ∃y u,(OB 1<|pn - 1).filter q=y::u:=by
  have m:W∈(OB 1<|pn - 1).filter q:=Nd.mpr ⟨by rw[PR];omega,by simpa[q]using X⟩;cases e:(OB 1<|pn - 1).filter q with
  | nil=>rw[e]at m;cases m
  | cons a t=>exact⟨a,t,rfl⟩
 have G:y∈(OB 1<|pn - 1).filter q:=by rw[w];exact Nk
 obtain⟨A,B⟩:=Nd.mp G;rw[PR]at A;have yq:(y:Int)*g s c%p=1:=by simpa[q]using B
 have N:GF [.val (.int p),.own E,.val<|.int (r:Int),C,S,.val<|.lst<|zB n<|g s,Z,J,Y]=bQ (.next [.val (.int p),.own E,.val<|.int (r:Int),C,S,.val<|.lst<|zB n<|g s,.val<|.int (y:Int),J,Y]):=by
  have o:kg (zy<|.int 1) (zf 0) [.val (.int p),.own E,.val<|.int (r:Int),C,S,.val<|.lst<|zB n<|g s,Z,J,Y]=bQ ((OB 1<|pn - 1).map λ(j:Nat)=>D.int j):=by
   have H:inR 1=bX:=by decide
   have K:inR p=bX:=kx ⋯ ⋯;rw[QN];show(if inR 1=bX/\inR p=bX then bQ (q8 1 (p - 1).toNat)else none)=_;rw[UJ ⟨H,K⟩,show(p - 1).toNat=pn - 1 by omega,show(1:Int)=((1:Nat):Int)from rfl,IM]
  have i:zX (.nm 0) sT (zf 0) [Cell.no,.val<|.int p,C,.val (.lst<|zB n<|g s)] ((OB 1<|pn - 1).map λ(j:Nat)=>D.int j)=bQ (((OB 1<|pn - 1).filter q).map λ(j:Nat)=>D.int j):=by refine jh _ _ _ λk hk=>⟨[.val (.int (k:Int)),.val<|.int p,C,.val (.lst<|zB n<|g s)],rfl,?_,λ_=>rfl⟩;have h:ZT (k:Int) (g s c)=bX:=Zr _ _ ⋯ ⋯;simp[sT,C,Wf,hc,qM,h,x,q]
  have l:((OB 1<|pn - 1).map λ(j:Nat)=>D.int (j:Int)).length<=lim:=by simp;omega
  unfold GF;rw[yf,yx,xQ,j7,o,MW,UJ l,show jn 1 [0,3,5] [Cell.val (.int p),.own E,.val<|.int (r:Int),C,S,.val<|.lst<|zB n<|g s,Z,J,Y]=[Cell.no,.val<|.int p,C,.val (.lst<|zB n<|g s)]from rfl,i,w];simp[ec]
 let z:Nat->Int:=λj=>g s j*(y:Int)%p;have sg:GE [.val (.int p),.own E,.val<|.int (r:Int),C,S,.val<|.lst<|zB n<|g s,.val<|.int (y:Int),J,Y]=bQ (.next [.val (.int p),.own E,.val<|.int (r:Int),C,S,.val<|.lst<|zB n z,.val<|.int (y:Int),J,Y]):=by
  have i:zX (.nm 0) jz (zK yv (zK yD (zf 0)<|zf 2)<|zf 1) [Cell.no,.val<|.int p,.val (.int (y:Int))] (zB n<|g s)=bQ (zB n z):=by unfold zB;refine zC _ _ λj hj=>zD (γ1:=[.val (.int<|g s j),.val<|.int p,.val (.int (y:Int))]) rfl rfl ?_;have h:ZT (g s j) (y:Int)=bX:=Zr _ _ ⋯ ⋯;simp[h,x,z]
  have l:(zB n<|g s).length<=lim:=by rw[qM];omega
  unfold GE;rw[yf,yh,j7,show zT (zh 5) [.val (.int p),.own E,.val<|.int (r:Int),C,S,.val<|.lst<|zB n<|g s,.val<|.int (y:Int),J,Y]=bQ (zB n<|g s)from rfl,MW,UJ l,show jn 1 [0,6] [Cell.val (.int p),.own E,.val<|.int (r:Int),C,S,.val<|.lst<|zB n<|g s,.val<|.int (y:Int),J,Y]=[Cell.no,.val<|.int p,.val (.int (y:Int))]from rfl,i];rfl
 have P:GD [.val (.int p),.own E,.val<|.int (r:Int),C,S,.val<|.lst<|zB n z,.val<|.int (y:Int),J,Y]=bQ (.next<|hB p n R (kR p g r s y) r C S (.val<|.lst<|zB n z) (.val<|.int (y:Int)) J Y):=by unfold GD;rw[EA];show(if (0<=(r:Int)/\(r:Int)<=(E.length:Int))/\E.length<lim then bQ (Fl.next [.val (.int p),.own (E.take (r:Int).toNat++D.lst (zB n z)::E.drop (r:Int).toNat),.val<|.int (r:Int),C,S,.val<|.lst<|zB n z,.val<|.int (y:Int),J,Y])else none)=_;rw[le,UJ ⟨⟨by omega,by omega⟩,by omega⟩,Oi];have:=Hb (p:=p) (n:=n) (g:=g) h1 h2 (y:Int);rw[show E.take r++D.lst (zB n z)::E.drop r=jl R n (kR p g r s y)from this]
 obtain⟨I,O,Q⟩:=sS (n:=n) U a5 hn hc h1 h2 rg (y:Int) S (.val<|.int (y:Int)) J Y;have T:GB (hB p n R (gR p g r s c y) r C S (.val<|.lst<|zB n z) (.val<|.int (y:Int)) I O)=bQ (.next<|hB p n R (gR p g r s c y) (r+1) C S (.val<|.lst<|zB n z) (.val<|.int (y:Int)) I O):=by simp[GB]
 exact⟨y,S,.val<|.lst<|zB n z,.val<|.int (y:Int),I,O,yq,JS M<|JS N<|JS sg<|JS P<|JS Q T⟩
theorem Bu(O:Pr p)(J:R<=200)(S:n<=200)(Y : ∀k j,k<R->j<n->0<=f k j/\f k j<p) : ∃r,Rk p n R f r/\vX [.int p,.lst (jl R n f)]=bQ (.val<|.int (r:Int)):=by
 have hl:=jg;have p0:=O.pos;have two:=O.two;have K:(jl R n f).length<=lim:=by rw[qS];omega
 have M:EZ (z9 9 [.int p,.lst (jl R n f)])=bQ (.next [.val (.int p),.own<|jl R n f,.no,.no,.no,.no,.no,.no,.no]):=by
  have B:zX (.nm 0) jz (qh<|Ke<|zh 0) [Cell.no] (jl R n f)=bQ (jl R n f):=by unfold jl;exact zC _ _ λk H=>zD (γ1:=[.val (.lst<|zB n<|f k)]) rfl rfl rfl
  unfold EZ;rw[iI,j7,show zT (zh 1) (z9 9 [.int p,.lst (jl R n f)])=bQ (jl R n f)from rfl,MW,UJ K,show jn 1 [] (z9 9 [.int p,.lst (jl R n f)])=[Cell.no]from rfl,B];rfl
 have N:GI [.val (.int p),.own<|jl R n f,.no,.no,.no,.no,.no,.no,.no]=bQ (.next<|hB p n R f 0 .no .no .no .no .no .no):=rfl;have u : ∀c,c<n->∀w,(∃r g l t o b d h m,RI p n R f c r g l/\w=hB p n R g r t o b d h m)->∃γ1 x,xC (.nm 3) (.int (c:Int)) w=bQ γ1/\Fb γ1=bQ (.next x)/\∃r g l t o b d h m,RI p n R f (c+1) r g l/\x=hB p n R g r t o b d h m:=by
  rintro c G w ⟨r,g,l,t,o,b,d,h,m,I,rfl⟩;have A:=sV (n:=n) (g:=g) p0 J S G I.le o b d h m;refine⟨hB p n R g r (.val<|.int (c:Int)) o b d h m,?_⟩;cases eL:BM p R g c r with
  | nil=>
   rw[eL]at A;refine⟨_,rfl,JS A rfl,r,g,l,_,_,_,_,_,_,I.skip<|λk k1 k2=>?_,rfl⟩;have:k∉BM p R g c r:=by rw[eL];exact ND
   unfold BM at this;rw[Nd,PR]at this;exact Decidable.byContradiction λz=>this ⟨by omega,by simpa using z⟩
  | cons s L=>
   rw[eL]at A;have U:s∈BM p R g c r:=by rw[eL];exact Nk
   unfold BM at U;rw[Nd,PR]at U;have hx:g s c%p≠0:=by simpa using U.2
   obtain⟨y,Q,W,X,Z,ak,yq,st⟩:=sR (n:=n) (g:=g) O J S G U.1.1 ⋯ I.h9 hx L b d h m;refine⟨hB p n R (gR p g r s c y) (r+1) (.val<|.int (c:Int)) Q W X Z ak,rfl,JS A ?_,r+1,_,_,_,_,_,_,_,_,I.step O G U.1.1 ⋯ yq,rfl⟩;have ne:eK (.lst<|(s::L).map λ(j:Nat)=>D.int j) (.lst [])=bQ (.bl bX):=by
    have ok:i4 (.lst<|(s::L).map λ(j:Nat)=>D.int j)=bX:=by
     have:=W8 (s::L).length λi=>(((s::L).getD i 0:Nat):Int);unfold zB at this;have e:((MO (s::L).length).map λi=>D.int (((s::L).getD i 0:Nat):Int))=(s::L).map λ(j:Nat)=>D.int j:=by
      conv=>rhs;rw[<- jt 0 (s::L),NB]
      rfl
     rwa [e]at this
    unfold eK;rw[UJ ⟨ok,rfl⟩];rfl
   rw[QO,pV];have tt:zK eK (zf 4) (qh<|j3 zI) (hB p n R g r (.val<|.int (c:Int)) (.val<|.lst<|(s::L).map λ(j:Nat)=>D.int j) b d h m)=bQ (.bl bX):=by rw[yi];exact ne
   rw[tt];exact st
 have P:RI p n R f 0 0 f λ_=>0:=⟨Y,λv=>Iff.rfl,by omega,λk H=>by omega,λk k' C E=>by omega,λk j C E h3 h4=>by omega⟩;rw[Bp];by_cases r0:R=0
 ·subst r0
  refine⟨0,RI.done (c:=n) (g:=f) (l:=λ_=>0) O ⟨Y,λv=>Iff.rfl,by omega,λk H=>by omega,λk k' C E=>by omega,λk j C E h3 h4=>by omega⟩<|MY _,?_⟩;refine je<|zv M<|zv N<|zv (γ':=hB p n 0 f 0 .no .no .no .no .no .no) ?_ rfl;have mx:Ao (hB p n 0 f 0 .no .no .no .no .no .no)=bQ (.int 0):=rfl;rw[Jb,kZ,mx];rfl
 ·have mx:Ao (hB p n R f 0 .no .no .no .no .no .no)=bQ (.int (n:Int)):=by
   have B:zX (.nm 0) jz (xY<|zh 0) [Cell.no] (jl R n f)=bQ ((MO R).map λ_=>D.int (n:Int)):=by unfold jl;refine zC _ _ λk H=>zD (γ1:=[.val (.lst<|zB n<|f k)]) rfl rfl ?_;show bQ (D.int ((zB n<|f k).length:Int))=_;rw[qM]
   have cp:zU (zT<|zh 1) (.nm 0) 1 [] jz (xY<|zh 0) (hB p n R f 0 .no .no .no .no .no .no)=bQ ((MO R).map λ_=>D.int (n:Int)):=by rw[j7,show zT (zh 1) (hB p n R f 0 .no .no .no .no .no .no)=bQ (jl R n f)from rfl,MW,UJ K];exact B
   have ct:Kf (js<|j3<|zb (zy<|.int 0) zI) (js<|zU (zT<|zh 1) (.nm 0) 1 [] jz (xY<|zh 0)) (hB p n R f 0 .no .no .no .no .no .no)=bQ (D.int 0::(MO R).map λ_=>D.int (n:Int)):=by
    have l1:1<=lim:=by omega
    rw[Ac,xQ,xQ,cp];simp[l1];omega
   have ie:wc (D.int 0::(MO R).map λ_=>D.int (n:Int))=bQ (0::(MO R).map λ_=>(n:Int)):=by
    have : ∀L:List Nat,wc (L.map λ_=>D.int (n:Int))=bQ (L.map λ_=>(n:Int)):=λL=>by
     induction L with
     | nil=>rfl
     | cons a L ih=>show((ix<|.int (n:Int)).bind λi=>(wc _).map λl=>i::l)=_;rw[ih];rfl
    show((ix<|.int 0).bind λi=>(wc _).map λl=>i::l)=_;rw[this];rfl
   have me:(0::(MO R).map λ_=>(n:Int)).max? = bQ (n:Int):=by
    rw[List.max?_eq_some_iff];refine⟨Np _<|Nq.mpr ⟨0,MR.mpr ⋯,rfl⟩,λa ha=>?_⟩;rcases Nc.mp ha with rfl | ha
    ·omega
    ·obtain⟨_,_,rfl⟩:=Nq.mp ha
     exact Int.le_refl _
   unfold Ao;rw[Aa,xQ,ct];show(wc (D.int 0::(MO R).map λ_=>D.int (n:Int))).bind (λzs=>zs.max?.map D.int)=_;rw[ie,MW,me];rfl
  obtain⟨γ',e,r,g,l,t,o,b,d,h,m,I,rfl⟩:=jV (T:= .nm 3) (F:=Fb) (f:=Ao) (λc w=>∃r g l t o b d h m,RI p n R f c r g l/\w=hB p n R g r t o b d h m) n ⋯ mx ⟨0,f,λ_=>0,_,_,_,_,_,_,P,rfl⟩ u;exact⟨r,I.done O<|MY _,je<|zv M<|zv N<|zv e rfl⟩
end
section
variable{p:Int}{m:Nat}{w:UK}{bs:List (Int×Int)}
abbrev q5(p:Int)(z:Str)(m:Nat)(bs:List (Int×Int)):Ctx:=[.val (.int p),.val (.str z),.val (.lst (z6 bs)),.val (.int ((m+1:Nat):Int))]
end
section
variable{α β:Type}
theorem Yl(f g:α->Int) : ∀L:List α,xK (L.map λx=>f x+g x)=xK (L.map f)+xK (L.map g)
 | []=>rfl
 | x::L=>by simp only[Nt,xK,Yl f g L];omega
theorem WL : ∀L:List α,xK (L.map λ_=>(0:Int))=0
 | []=>rfl
 | x::L=>by simp only[Nt,xK,WL L];omega
theorem Yj(f:α->β->Int) : ∀(K:List α) (L:List β),xK (K.map λa=>xK<|L.map λb=>f a b)=xK (L.map λb=>xK<|K.map λa=>f a b)
 | [],L=>(WL L).symm
 | a::K,L=>by simp only[Nt,xK];rw[Yj f K L,Yl]
theorem Yk{K L:List Int}(h:K.Perm L):xK K=xK L:=by
 induction h with
 | nil=>rfl
 | cons x _ z=>simp only[xK,z]
 | swap x y l=>simp only[xK];omega
 | trans _ _ a b=>exact a.trans b
end
noncomputable def g8(w:UK)(b c:Int×Int):Int:=if o3 w b.1.toNat b.2.toNat c.1.toNat c.2.toNat=bX then 1 else 0
theorem BN{n:Int}{b:Int×Int}(h:yj n b):D.tup [.int b.1,.int b.2]=pr b.1.toNat b.2.toNat:=by obtain⟨a,d,_⟩:=h;unfold pr;rw[PD a,PD ⋯]
section
variable{p:Int}{m:Nat}{w:UK}{wd1 wd2:UX}{T1 T2:UW}{bs eX eY:List (Int×Int)}{c:Int×Int}{U8 U9 b_ c':List TB}
theorem HI(C:m<=5){b:Int×Int}(z:yj ((m+1:Nat):Int) b)(I:yj ((m+1:Nat):Int) c):kK [.str (j5 m w),.tup [.int b.1,.int b.2],.tup [.int c.1,.int c.2]]=bQ (.val<|.int<|g8 w b c):=by rw[BN z,BN I];obtain⟨a,d,O⟩:=z;obtain⟨U,g2,g3⟩:=I;exact K5 C ⋯ ⋯ ⋯ ⋯
theorem V8(C:m<=5)(h : ∀b∈bs,yj ((m+1:Nat):Int) b)(z:bs.length<=lim)(I:yj ((m+1:Nat):Int) c):qA [.str (j5 m w),.lst<|z6 bs,.tup [.int c.1,.int c.2]]=bQ (.val<|.int<|xK<|bs.map λb=>g8 w b c):=by
 have d:zX (.nm 0) jz (zE kK<|zb (zf 1)<|zb (zf 0)<|zb (zf 2) zI) [Cell.no,.val<|.str<|j5 m w,.val (.tup [.int c.1,.int c.2])] (z6 bs)=bQ (bs.map λb=>D.int<|g8 w b c):=by unfold z6;exact zC _ _ λb O=>zD (γ1:=[.val (.tup [.int b.1,.int b.2]),.val<|.str<|j5 m w,.val (.tup [.int c.1,.int c.2])]) rfl rfl (by simp[HI C (h b O) I])
 have U:(z6 bs).length<=lim:=by simpa using z
 have e:bj (bs.map λb=>D.int<|g8 w b c)=bQ (xK<|bs.map λb=>g8 w b c):=by rw[<- JJ,NB];rfl
 unfold qA;refine je ?_;have a:zT (zh 1) [Cell.val (.str<|j5 m w),.val<|.lst<|z6 bs,.val (.tup [.int c.1,.int c.2])]=bQ (z6 bs):=rfl;show jR _ [Cell.val (.str<|j5 m w),.val<|.lst<|z6 bs,.val (.tup [.int c.1,.int c.2])]=_;rw[Ja,iH,xQ,j7,a];simp only[MW,U,if_true];rw[show jn 1 [0,2] [Cell.val (.str<|j5 m w),.val<|.lst<|z6 bs,.val (.tup [.int c.1,.int c.2])]=[Cell.no,.val<|.str<|j5 m w,.val (.tup [.int c.1,.int c.2])]from rfl,d];simp[e]
theorem aL(S:m<=5)(J : ∀b∈eX,yj ((m+1:Nat):Int) b)(L : ∀b∈eY,yj ((m+1:Nat):Int) b)(I:eX.length<=lim)(Y:eY.length<=lim)(C:qc [qO p m w wd1 T1]=bQ (.val<|kQ eX U8 b_))(O:qc [qO p m w wd2 T2]=bQ (.val<|kQ eY U9 c')) :
 xv [qO p m w wd1 T1,qO p m w wd2 T2]=bQ (.val<|.int<|xK<|eY.map λc=>xK<|eX.map λb=>g8 w b c):=by
 have U:=(QK (p:=p) (w:=w) (wd:=wd1) (T:=T1) (wd':=wd2) (T':=T2)<|show m<=900 by omega).2;have k:=yk (p:=p) (w:=w) (wd:=wd1) (T:=T1) (show m<=900 by omega);let z:=qO p m w wd1 T1;let R2:=qO p m w wd2 T2;have f:zX (.nm 0) jz (zE qA<|zb (zE x9<|zb (zf 1) zI)<|zb (zf 2)<|zb (zf 0) zI) [Cell.no,.val z,.val (.lst<|z6 eX)] (z6 eY)=bQ (eY.map λc=>D.int<|xK<|eX.map λb=>g8 w b c):=by
  conv=>lhs;unfold z6
  exact zC _ _ λc g=>zD (γ1:=[.val (.tup [.int c.1,.int c.2]),.val z,.val (.lst<|z6 eX)]) rfl rfl (by simp[z,k,V8 S J I (L c g)])
 have d:(z6 eY).length<=lim:=by simpa using Y
 have j:bj (eY.map λc=>D.int<|xK<|eX.map λb=>g8 w b c)=bQ (xK<|eY.map λc=>xK<|eX.map λb=>g8 w b c):=by rw[<- JJ,NB];rfl
 have h:qc [z]=bQ (.val<|kQ eX U8 b_):=C;have i:qc [R2]=bQ (.val<|kQ eY U9 c'):=O;have e:qK [z,R2]=bQ (.val .d7):=U;show xv [z,R2]=_
 clear_value z R2
 unfold xv;refine je<|zv (γ':=[.val z,.val R2,.no]) (by simp[z9,e])<|zv (γ':=[.val z,.val R2,.val (.lst<|z6 eX)]) (by simp[h,kQ,ec]) ?_;have a:zT (zG<|cq (zG<|zE qc<|zb (zf 1) zI)<|zy<|.int 0) [Cell.val z,.val R2,.val (.lst<|z6 eX)]=bQ (z6 eY):=by simp[i,kQ,ec]
 rw[Ja,iH,xQ,j7,a];simp only[MW,d,if_true];rw[show jn 1 [0,2] [Cell.val z,.val R2,.val (.lst<|z6 eX)]=[Cell.no,.val z,.val (.lst<|z6 eX)]from rfl,f];simp[j]
end
noncomputable def rf(p:Int)(m:Nat)(w:UK)(wd1 wd2:UX)(T1 T2 h:UW):Prop:=
 ∀k,k<m->∀i j,i<wd2 (zO w k)->j<wd1 (zM w k)->mM p (wd1<|zO w k) (h<|zO w k) (T1 k) i j=mM p (wd2<|zM w k) (T2 k) (h<|zM w k) i j
section
variable{p:Int}{m a b c d:Nat}{w:UK}{f:Nat->Int}
abbrev i9(a b r:Nat):Prop:=a<=r/\r<=b
structure ri(p:Int)(m:Nat)(w:UK)(a b c d:Nat)(f:Nat->Int):Prop where
 zero : ∀r,¬(i9 a b r/\i9 c d r)->f r=0
 pass : ∀k,k<m->i9 c d (zO w k)->i9 a b (zM w k)->f (zO w k)%p=f (zM w k)%p
theorem ri.next(h:ri p m w a b c d f)(z:b<=m){r:Nat}(I:i9 a b r/\i9 c d r)(C:i9 a b (r+1)/\i9 c d (r+1)):f (r+1)%p=f r%p:=by
 have x:=h.pass r (by have:=C.1.2;omega);unfold zO zM at x;cases hw:w r with
 | true=>
  simp only[hw,if_true]at x;exact(x I.2 C.1).symm
 | false=>
  simp only[hw,OI,if_false]at x;exact x C.2 I.1
theorem ri.const(h:ri p m w a b c d f)(z:b<=m) : ∀s,i9 a b (max a c+s)/\i9 c d (max a c+s)->f (max a c+s)%p=f (max a c)%p
 | 0,_=>rfl
 | s+1,e=>by have g:i9 a b (max a c+s)/\i9 c d (max a c+s):=⟨⟨by omega,by have:=e.1.2;omega⟩,⟨by omega,by have:=e.2.2;omega⟩⟩;rw[<- ri.const h z s g];exact ri.next h z g e
theorem ri.all(h:ri p m w a b c d f)(I:b<=m){r:Nat}(z:i9 a b r/\i9 c d r):f r%p=f (max a c)%p:=by obtain⟨s,rfl⟩ : ∃s,r=max a c+s:=⟨r - max a c,by have:=z.1.1;have:=z.2.1;omega⟩;exact h.const I s z
theorem ri.none(h:ri p m w a b c d f)(O:a<=b)(U:c<=d)(C:b<=m)(J:d<=m)(n:o3 w a b c d=cE)(r:Nat):f r%p=0:=by
 by_cases g:i9 a b r/\i9 c d r
 ·obtain⟨⟨o,s⟩,t,u⟩:=g
  have i:max a c<=min b d:=by omega
  have e:=h.all C (r:=r) ⟨⟨o,s⟩,t,u⟩;unfold o3 at n;rw[decide_eq_true i,Bool.true_and,Bool.and_eq_false_iff]at n;rcases n with n | n
  ·rw[e]
   unfold s9 at n;rw[Bool.or_eq_false_iff]at n;have k : ¬a=c:=by simpa using n.1
   have z:=n.2;by_cases l:a<c
   ·rw[show max a c=c by omega]at z ⊢
    rw[decide_eq_true l]at z;have I:w (c - 1)=cE:=by simpa using z
    have x:=h.pass (c - 1) ⋯;unfold zO zM at x;simp only[I,OI,if_false]at x;rw[show c - 1+1=c by omega]at x;rw[x ⟨by omega,U⟩ ⟨by omega,by omega⟩,h.zero (c - 1) (λq=>by have:=q.2.1;omega)];rfl
   ·rw[show max a c=a by omega]at z ⊢
    rw[decide_eq_false l]at z;have I:w (a - 1)=bX:=by simpa using z
    have x:=h.pass (a - 1) ⋯;unfold zO zM at x;simp only[I,if_true]at x;rw[show a - 1+1=a by omega]at x;rw[<- x ⟨by omega,by omega⟩ ⟨by omega,O⟩,h.zero (a - 1) (λq=>by have:=q.1.1;omega)];rfl
  ·have j:=h.all C (r:=min b d) ⟨⟨by omega,by omega⟩,by omega,by omega⟩
   rw[e,<- j];unfold t8 at n;rw[Bool.or_eq_false_iff]at n;have k : ¬b=d:=by simpa using n.1
   have z:=n.2;by_cases l:b<d
   ·rw[show min b d=b by omega]at z ⊢
    rw[decide_eq_true l]at z;have I:w b=cE:=by simpa using z
    have x:=h.pass b ⋯;unfold zO zM at x;simp only[I,OI,if_false]at x;rw[<- x ⟨by omega,by omega⟩ ⟨O,by omega⟩,h.zero (b+1) (λq=>by have:=q.1.2;omega)];rfl
   ·rw[show min b d=d by omega]at z ⊢
    rw[decide_eq_false l]at z;have I:w d=bX:=by simpa using z
    have x:=h.pass d ⋯;unfold zO zM at x;simp only[I,if_true]at x;rw[x ⟨U,by omega⟩ ⟨by omega,by omega⟩,h.zero (d+1) (λq=>by have:=q.2.2;omega)];rfl
 ·rw[h.zero r g];rfl
theorem tY(y:o3 w a b c d=bX)(t:Int):ri p m w a b c d λr=>if i9 a b r/\i9 c d r then t else 0 where
 zero:=λr h=>UY h
 pass:=λk hk U hb=>by
  unfold o3 at y;simp only[Nb]at y;obtain⟨y1,I,O⟩:=y;have y1:=of_decide_eq_true y1;have key:(i9 a b (zO w k)/\i9 c d (zO w k))↔(i9 a b (zM w k)/\i9 c d (zM w k)):=by
   unfold s9 at I;unfold t8 at O;unfold i9 at U hb ⊢;unfold zO at U ⊢;unfold zM at hb ⊢;cases hw:w k with
   | true=>
    simp only[hw,if_true]at U hb ⊢;constructor
    ·rintro⟨q1,q2⟩
     refine⟨hb,?_⟩;have : ¬(k=d):=λe=>by
      have z:min b d=d:=by omega
      have ne : ¬b=d:=by omega
      rw[z,<- e,hw]at O;simp only[decide_eq_false_iff_not.mpr (show ¬b=k by omega),Rv]at O;simp at O;omega
     omega
    ·rintro⟨q1,q2⟩
     refine⟨?_,U⟩;have : ¬(k+1=a):=λe=>by
      have z:max a c - 1=k:=by omega
      rw[z,hw]at I;simp only[decide_eq_false_iff_not.mpr (show ¬a=c by omega),Rv]at I;simp at I;omega
     omega
   | false=>
    simp only[hw,OI,if_false]at U hb ⊢;constructor
    ·rintro⟨q1,q2⟩
     refine⟨hb,?_⟩;have : ¬(k+1=c):=λe=>by
      have z:max a c - 1=k:=by omega
      rw[z,hw]at I;simp only[decide_eq_false_iff_not.mpr (show ¬a=c by omega),Rv]at I;simp at I;omega
     omega
    ·rintro⟨q1,q2⟩
     refine⟨?_,U⟩;have : ¬(k=b):=λe=>by
      have z:min b d=b:=by omega
      rw[z,<- e,hw]at O;simp only[decide_eq_false_iff_not.mpr (show ¬k=d by omega),Rv]at O;simp at O;omega
     omega
  by_cases q:i9 a b (zO w k)/\i9 c d (zO w k)
  ·rw[UJ q,UJ (key.mp q)]
  ·rw[UY q,UY (λz=>q<|key.mpr z)]
end
section
variable{p:Int}{m:Nat}{w:UK}{K K1 K2:List (Int×Int)}{h:UW}
abbrev stK(K:List (Int×Int))(x:Nat):Nat:=(K.getD x (0,0)).1.toNat
abbrev n7(K:List (Int×Int))(x:Nat):Nat:=(K.getD x (0,0)).2.toNat
abbrev gv(K:List (Int×Int))(r a:Nat):Nat:=(qr K r).getD a 0
abbrev ra(K:List (Int×Int))(r x:Nat):Nat:=(qr K r).idxOf x
abbrev nr(K:List (Int×Int))(x r:Nat):Prop:=i9 (stK K x) (n7 K x) r
theorem Yp(z : ∀b∈K,yj ((m+1:Nat):Int) b){x:Nat}(hx:x<K.length):stK K x<=n7 K x/\n7 K x<=m/\((stK K x:Int),(n7 K x:Int))=K.getD x (0,0):=by
 have e:K.getD x (0,0)=K[x]:=by simp[hx]
 obtain⟨a,d,I⟩:=z K[x] (Od hx);unfold stK n7;rw[e];refine⟨by omega,by omega,Ua ?_ ?_⟩
 ·show((K[x].1.toNat:Nat):Int)=_;omega
 ·show((K[x].2.toNat:Nat):Int)=_;omega
theorem xq(I : ∀b∈K,yj ((m+1:Nat):Int) b){x r:Nat}:x∈qr K r↔x<K.length/\nr K x r:=by unfold qr;rw[Nd,MR];refine and_congr_right λd=>?_;obtain⟨_,_,z⟩:=Yp I d;have a:=congrArg Prod.fst z;have O:=congrArg Prod.snd z;dsimp only at a O;unfold Aq;simp only[Nb,decide_eq_true_eq];unfold nr i9;omega
theorem wq{r a:Nat}(C:a<md K r):gv K r a∈qr K r:=by unfold gv;rw[MU,MS C];exact Od C
theorem mK(K:List (Int×Int))(r:Int):(qr K r).Nodup:=Rh.filter _
theorem QZ{r x:Nat}(hx:x∈qr K r):ra K r x<md K r/\gv K r (ra K r x)=x:=by have l:(qr K r).idxOf x<(qr K r).length:=RT hx;refine⟨l,?_⟩;unfold gv ra;rw[MU,MS l];exact Tu l
theorem bD{r a:Nat}(C:a<md K r):ra K r (gv K r a)=a:=by unfold gv ra;rw[MU,MS C];exact(mK K r).idxOf_getElem a C
noncomputable def Yh(K1 K2:List (Int×Int))(h:UW)(x y r:Nat):Int:=if nr K1 x r/\nr K2 y r then h r (ra K2 r y) (ra K1 r x)else 0
theorem Iu(I : ∀b∈K1,yj ((m+1:Nat):Int) b)(J : ∀b∈K2,yj ((m+1:Nat):Int) b){r a b:Nat}(C:a<md K2 r)(z:b<md K1 r):Yh K1 K2 h (gv K1 r b) (gv K2 r a) r=h r a b:=by unfold Yh;rw[UJ ⟨((xq I).mp (wq z)).2,((xq J).mp (wq C)).2⟩,bD C,bD z]
theorem pw(C : ∀b∈K1,yj ((m+1:Nat):Int) b){f:UV}{k a b:Nat}(O:b<md K1 (zM w k)):mM p (md K1<|zO w k) f (oR w K1 k) a b=(if nr K1 (gv K1 (zM w k) b) (zO w k)then f a (ra K1 (zO w k)<|gv K1 (zM w k) b)else 0)%p:=by
 have d:=(xq C).mp (wq O);generalize ex:gv K1 (zM w k) b=x at d;unfold mM oR;have e:(qr K1<|zM w k).getD b 0=x:=ex;rw[e];by_cases q:nr K1 x (zO w k)
 ·have i:x∈qr K1 (zO w k):=(xq C).mpr ⟨d.1,q⟩
  obtain⟨l,U⟩:=QZ i;rw[UJ q,zN l λc z h=>by rw[UY,NK];intro I;have:=bD (K:=K1) (r:=zO w k) z;rw[show gv K1 (zO w k) c=x from I]at this;exact h this.symm]
  rw[show(qr K1<|zO w k).getD (ra K1 (zO w k) x) 0=x from U,UJ rfl,OL]
 ·rw[UY q,zw (g:=λ_=>0) λc z=>by rw[UY,NK];intro I;have:=(xq C).mp (wq (K:=K1) z);rw[show gv K1 (zO w k) c=x from I]at this;exact q this.2,zH]
theorem pz(C : ∀b∈K2,yj ((m+1:Nat):Int) b){f:UV}{k a b:Nat}(J:a<md K2 (zO w k)):mM p (md K2<|zM w k) (oR w K2 k) f a b=(if nr K2 (gv K2 (zO w k) a) (zM w k)then f (ra K2 (zM w k)<|gv K2 (zO w k) a) b else 0)%p:=by
 have d:=(xq C).mp (wq J);generalize ex:gv K2 (zO w k) a=x at d;unfold mM oR;have e:(qr K2<|zO w k).getD a 0=x:=ex;rw[e];by_cases q:nr K2 x (zM w k)
 ·have h:x∈qr K2 (zM w k):=(xq C).mpr ⟨d.1,q⟩
  obtain⟨l,O⟩:=QZ h;rw[UJ q,zN l λc z U=>by rw[UY,Ht];intro I;have:=bD (K:=K2) (r:=zM w k) z;rw[show gv K2 (zM w k) c=x from I.symm]at this;exact U this.symm]
  rw[show(qr K2<|zM w k).getD (ra K2 (zM w k) x) 0=x from O,UJ rfl,SF]
 ·rw[UY q,zw (g:=λ_=>0) λc z=>by rw[UY,Ht];intro I;have:=(xq C).mp (wq (K:=K2) z);rw[show gv K2 (zM w k) c=x from I.symm]at this;exact q this.2,zH]
theorem gD(C : ∀b∈K1,yj ((m+1:Nat):Int) b)(J : ∀b∈K2,yj ((m+1:Nat):Int) b):rf p m w (md K1) (md K2) (oR w K1) (oR w K2) h ↔ ∀x y,x<K1.length->y<K2.length->ri p m w (stK K1 x) (n7 K1 x) (stK K2 y) (n7 K2 y) (Yh K1 K2 h x y):=by
 constructor
 ·intro H x y u A
  refine⟨λr t=>UY t,λk g d a=>?_⟩;have mx:x∈qr K1 (zM w k):=(xq C).mpr ⟨u,a⟩;have U:y∈qr K2 (zO w k):=(xq J).mpr ⟨A,d⟩;obtain⟨l,o⟩:=QZ mx;obtain⟨n,s⟩:=QZ U;have:=H k g (ra K2 (zO w k) y) (ra K1 (zM w k) x) n l;rw[pw C l,pz J n,o,s]at this;unfold Yh;by_cases I:nr K1 x (zO w k)<;>by_cases O:nr K2 y (zM w k)
  ·rw[UJ ⟨I,d⟩,UJ ⟨a,O⟩];rw[UJ I,UJ O]at this;exact this
  ·rw[UJ ⟨I,d⟩,UY (λz=>O z.2)];rw[UJ I,UY O]at this;exact this
  ·rw[UY (λz=>I z.1),UJ ⟨a,O⟩];rw[UY I,UJ O]at this;exact this
  ·rw[UY (λz=>I z.1),UY (λz=>O z.2)]
 ·intro H k g i j e f
  rw[pw C f,pz J e];have mx:=(xq C).mp (wq f);have U:=(xq J).mp (wq e);have:=(H _ _ mx.1 U.1).pass k g U.2 mx.2;unfold Yh at this;rw[bD e,bD f]at this;by_cases I:nr K1 (gv K1 (zM w k) j) (zO w k)<;>by_cases O:nr K2 (gv K2 (zO w k) i) (zM w k)
  ·rw[UJ I,UJ O];rw[UJ ⟨I,U.2⟩,UJ ⟨mx.2,O⟩]at this;exact this
  ·rw[UJ I,UY O];rw[UJ ⟨I,U.2⟩,UY (λz=>O z.2)]at this;exact this
  ·rw[UY I,UJ O];rw[UY (λz=>I z.1),UJ ⟨mx.2,O⟩]at this;exact this
  ·rw[UY I,UY O]
end
theorem Xp(g:Nat->Int) : ∀n,xK ((MO n).map g)=zg g n
 | 0=>rfl
 | n+1=>by rw[NT,NF,Yk List.perm_append_comm];show g n+xK ((MO n).map g)=zg g n+g n;rw[Xp g n,Int.add_comm]
theorem WM(f:Int×Int->Int)(K:List (Int×Int)):xK (K.map f)=zg (λx=>f<|K.getD x (0,0)) K.length:=by
 rw[<- Xp]
 conv=>lhs;rw[<- jt (0,0) K,NB]
 rfl
theorem XD(q:UK) : ∀n,(((MO n).filter q).length:Int)=zg (λs=>if q s=bX then 1 else 0) n
 | 0=>rfl
 | n+1=>by
  rw[NT,Rq,NO];show _=zg (λs=>if q s=bX then 1 else 0) n+_;rw[<- XD q n];by_cases h:q n=bX
  ·simp[h]
  ·simp[h]
structure xg(p:Int)(m:Nat)(w:UK)(wd1 wd2:UX)(T1 T2:UW)(c:Nat)(E:Nat->Nat->Nat->Nat->Int):Prop where
 E5 : ∀s,s<c->rf p m w wd1 wd2 T1 T2 (E s)
 span : ∀h,rf p m w wd1 wd2 T1 T2 h->∃t:Nat->Int,∀r,r<=m->∀i j,i<wd2 r->j<wd1 r->h r i j%p=zg (λs=>t s*E s r i j) c%p
 ind : ∀t:Nat->Int,(∀r,r<=m->∀i j,i<wd2 r->j<wd1 r->zg (λs=>t s*E s r i j) c%p=0)->∀s,s<c->t s%p=0
theorem XO{w:UK}{m k:Nat}(h:k<m):zO w k<=m:=by unfold zO;split<;>omega
theorem XT{w:UK}{m k:Nat}(h:k<m):zM w k<=m:=by unfold zM;split<;>omega
section
variable{p:Int}{m:Nat}{w:UK}{wd1 wd2 N3 N4:UX}{T1 T2 S1 S2 A1 B1 A2 B2:UW}{K1 K2:List (Int×Int)}{h:UW}{c:Nat}{E:Nat->Nat->Nat->Nat->Int}
theorem rf.wd(C : ∀r,r<=m->wd1 r=N3 r)(I : ∀r,r<=m->wd2 r=N4 r)(H:rf p m w wd1 wd2 T1 T2 h):rf p m w N3 N4 T1 T2 h:=λk z i j b O=>by have U:=XO (w:=w) z;have a:=XT (w:=w) z;rw[<- I _ U]at b;rw[<- C _ a]at O;rw[<- C _ U,<- I _ a];exact H k z i j b O
theorem xg.wd(e1 : ∀r,r<=m->wd1 r=N3 r)(I : ∀r,r<=m->wd2 r=N4 r)(H:xg p m w wd1 wd2 T1 T2 c E):xg p m w N3 N4 T1 T2 c E where
 E5:=λs hs=>(H.E5 s hs).wd e1 I
 span:=λh hh=>by obtain⟨t,O⟩:=H.span h<|hh.wd (λr z=>(e1 r z).symm) λr z=>(I r z).symm;exact⟨t,λr z i j hi U=>O r z i j (by rw[I r z];exact hi)<|by rw[e1 r z];exact U⟩
 ind:=λt O s hs=>H.ind t (λr z i j hi U=>O r z i j (by rw[<- I r z];exact hi)<|by rw[<- e1 r z];exact U) s hs
noncomputable def xJ(w:UK)(K1 K2:List (Int×Int)):List Nat:=(MO<|K1.length*K2.length).filter λs=>o3 w (stK K1<|s/K2.length) (n7 K1<|s/K2.length) (stK K2<|s%K2.length)<|n7 K2<|s%K2.length
theorem bK:((xJ w K1 K2).length:Int)=xK (K1.map λb=>xK<|K2.map λc=>g8 w b c):=by
 unfold xJ;rw[XD,JH,WM];refine zw λx d=>?_;rw[WM];refine zw λy z=>?_;have a:(x*K2.length+y)/K2.length=x:=by rw[Ph,Nat.mul_add_div ⋯,Uc z,Sl]
 have I:(x*K2.length+y)%K2.length=y:=by rw[Ph,Nat.mul_add_mod,Ub z]
 rw[a,I];rfl
noncomputable def Dg(w:UK)(K1 K2:List (Int×Int))(s r a b:Nat):Int:=if gv K1 r b*K2.length+gv K2 r a=(xJ w K1 K2).getD s 0 then 1 else 0
theorem W5{x y N:Nat}(z:y<N):(x*N+y)/N=x/\(x*N+y)%N=y:=by
 constructor
 ·rw[Ph,Nat.mul_add_div ⋯,Uc z,Sl]
 ·rw[Ph,Nat.mul_add_mod,Ub z]
theorem YU{x y:Nat}(hx:x<K1.length)(z:y<K2.length):x*K2.length+y∈xJ w K1 K2↔o3 w (stK K1 x) (n7 K1 x) (stK K2 y) (n7 K2 y)=bX:=by
 unfold xJ;obtain⟨a,I⟩:=W5 (x:=x) z;rw[Nd,MR,a,I];have:x*K2.length+y<K1.length*K2.length:=by have:(x+1)*K2.length<=K1.length*K2.length:=Nat.mul_le_mul_right _ hx;rw[Nat.add_mul]at this;omega
 exact and_iff_right this
theorem Yi(t:Nat->Int){L:List Nat}(C:L.Nodup)(z:Nat):zg (λs=>t s*if z=L.getD s 0 then 1 else 0) L.length=if z∈L then t (L.idxOf z)else 0:=by
 by_cases h:z∈L
 ·rw[UJ h]
  have l:=RT h;rw[zN l λs a I=>by rw[UY,NK];intro e;rw[MU,MS a]at e;have:=C.idxOf_getElem s a;rw[show L[s]=z from e.symm]at this;exact I this.symm]
  rw[UJ,OL];rw[MU,MS l];exact(Tu l).symm
 ·rw[UY h,zw (g:=λ_=>0) λs a=>by rw[UY,NK];intro e;rw[MU,MS a]at e;exact h<|e ▸ Od a,zH]
theorem Kp:(xJ w K1 K2).Nodup:=Rh.filter _
theorem gE(h1 : ∀b∈K1,yj ((m+1:Nat):Int) b)(h2 : ∀b∈K2,yj ((m+1:Nat):Int) b):xg p m w (md K1) (md K2) (oR w K1) (oR w K2) (xJ w K1 K2).length (Dg w K1 K2) where
 E5:=λs hs=>(gD h1 h2).mpr λx y hx I=>by
  by_cases e:x*K2.length+y=(xJ w K1 K2).getD s 0
  ·have mem:x*K2.length+y∈xJ w K1 K2:=by
    rw[e,MU,MS hs];exact Od hs
   have P:=tY (p:=p) (m:=m) ((YU hx I).mp mem) 1;have:Yh K1 K2 (Dg w K1 K2 s) x y=λr=>if i9 (stK K1 x) (n7 K1 x) r/\i9 (stK K2 y) (n7 K2 y) r then 1 else 0:=by
    funext r;unfold Yh;by_cases q:nr K1 x r/\nr K2 y r
    ·rw[UJ q,UJ q]
     unfold Dg;rw[(QZ<|(xq h1).mpr ⟨hx,q.1⟩).2,(QZ<|(xq h2).mpr ⟨I,q.2⟩).2,UJ e]
    ·rw[UY q,UY q]
   rw[this];exact P
  ·have:Yh K1 K2 (Dg w K1 K2 s) x y=λ_=>0:=by
    funext r;unfold Yh;by_cases q:nr K1 x r/\nr K2 y r
    ·rw[UJ q]
     unfold Dg;rw[(QZ<|(xq h1).mpr ⟨hx,q.1⟩).2,(QZ<|(xq h2).mpr ⟨I,q.2⟩).2,UY e]
    ·rw[UY q]
   rw[this];exact⟨λ_ _=>rfl,λ_ _ _ _=>rfl⟩
 span:=λh hh=>by
  have H:=(gD h1 h2).mp hh;let N:=K2.length;refine⟨λs=>let z:=(xJ w K1 K2).getD s 0;Yh K1 K2 h (z/N) (z%N) (max (stK K1<|z/N)<|stK K2<|z%N),λr hr i j hi hj=>?_⟩;have mx:=(xq h1).mp (wq hj);have O:=(xq h2).mp (wq hi);have P:=H _ _ mx.1 O.1;obtain⟨x1,U,_⟩:=Yp h1 mx.1;obtain⟨y1,y2,_⟩:=Yp h2 O.1;rw[<- Iu (h:=h) h1 h2 hi hj];have d:=Yi (λs=>let z:=(xJ w K1 K2).getD s 0;Yh K1 K2 h (z/N) (z%N) (max (stK K1<|z/N)<|stK K2<|z%N)) (Kp (w:=w) (K1:=K1) (K2:=K2))<|gv K1 r j*K2.length+gv K2 r i;unfold Dg;rw[d];by_cases mem:gv K1 r j*K2.length+gv K2 r i∈xJ w K1 K2
  ·rw[UJ mem]
   have l:=RT mem;have e:(xJ w K1 K2).getD ((xJ w K1 K2).idxOf (gv K1 r j*K2.length+gv K2 r i)) 0=gv K1 r j*K2.length+gv K2 r i:=by rw[MU,MS l];exact Tu l
   obtain⟨e1,e2⟩:=W5 (x:=gv K1 r j) O.1;dsimp only;rw[e];show _=Yh K1 K2 h ((gv K1 r j*K2.length+gv K2 r i)/K2.length) ((gv K1 r j*K2.length+gv K2 r i)%K2.length) (max (stK K1<|(gv K1 r j*K2.length+gv K2 r i)/K2.length)<|stK K2<|(gv K1 r j*K2.length+gv K2 r i)%K2.length)%p;rw[e1,e2];exact P.all U ⟨mx.2,O.2⟩
  ·rw[UY mem]
   have n:o3 w (stK K1<|gv K1 r j) (n7 K1<|gv K1 r j) (stK K2<|gv K2 r i) (n7 K2<|gv K2 r i)=cE:=Bool.eq_false_iff.mpr λI=>mem<|(YU mx.1 O.1).mpr I;rw[P.none x1 y1 U y2 n r];rfl
 ind:=λt ht s hs=>by
  let z:=(xJ w K1 K2)[s];have mem:z∈xJ w K1 K2:=Od hs;have a0:=mem;unfold xJ at a0;rw[Nd,MR]at a0;obtain⟨zl,zq⟩:=a0;have n2:0<K2.length:=by
   rcases Nat.eq_zero_or_pos K2.length with e | e
   ·rw[e,Nat.mul_zero]at zl;omega
   ·exact e
  have I:z%K2.length<K2.length:=Nat.mod_lt _ n2;have hx:z/K2.length<K1.length:=Nat.div_lt_of_lt_mul (by rw[Ph];exact zl);have ez:z/K2.length*K2.length+z%K2.length=z:=by rw[Ph];exact Nat.div_add_mod z K2.length
  generalize ex:z/K2.length=x at *;generalize ey:z%K2.length=y at *;obtain⟨x1,U,_⟩:=Yp h1 hx;obtain⟨y1,y2,_⟩:=Yp h2 I;have lo:max (stK K1 x) (stK K2 y)<=min (n7 K1 x) (n7 K2 y):=by unfold o3 at zq;simp only[Nb]at zq;exact of_decide_eq_true zq.1
  let r:=max (stK K1 x)<|stK K2 y;have qx:nr K1 x r:=⟨by show _<=max _ _;omega,by show max _ _<=_;omega⟩;have qy:nr K2 y r:=⟨by show _<=max _ _;omega,by show max _ _<=_;omega⟩;obtain⟨lx,px⟩:=QZ<|(xq h1).mpr ⟨hx,qx⟩;obtain⟨ly,py⟩:=QZ<|(xq h2).mpr ⟨I,qy⟩;have g:=ht r (by show max _ _<=_;omega) _ _ ly lx;have d:=Yi t (Kp (w:=w) (K1:=K1) (K2:=K2))<|x*K2.length+y;unfold Dg at g;rw[px,py,d,ez,UJ mem]at g;have:=Kp (w:=w) (K1:=K1) (K2:=K2) |>.idxOf_getElem s hs;rw[show(xJ w K1 K2).idxOf z=s from this]at g;exact g
theorem aM(two:2<=p)(u1 : ∀r,r<=m->Jc p (wd1 r) (B1 r) (A1 r))(u2 : ∀r,r<=m->Jc p (wd2 r) (B2 r) (A2 r))
 (C : ∀k,k<m->∀i j,i<wd1 (zO w k)->j<wd1 (zM w k)->T1 k i j%p=mM p (wd1<|zM w k) (mM p (wd1<|zO w k) (A1<|zO w k)<|S1 k) (B1<|zM w k) i j)
 (J : ∀k,k<m->∀i j,i<wd2 (zO w k)->j<wd2 (zM w k)->T2 k i j%p=mM p (wd2<|zM w k) (mM p (wd2<|zO w k) (A2<|zO w k)<|S2 k) (B2<|zM w k) i j)
 (H:rf p m w wd1 wd2 S1 S2 h):rf p m w wd1 wd2 T1 T2 λr=>mM p (wd1 r) (mM p (wd2 r) (A2 r)<|h r) (B1 r):=λk b i j A B=>by
 show mM p (wd1<|zO w k) (mM p (wd1<|zO w k) (mM p (wd2<|zO w k) (A2<|zO w k)<|h<|zO w k)<|B1<|zO w k) (T1 k) i j=mM p (wd2<|zM w k) (T2 k) (mM p (wd1<|zM w k) (mM p (wd2<|zM w k) (A2<|zM w k)<|h<|zM w k)<|B1<|zM w k) i j;have o:0<p:=by omega
 have u:=XO (w:=w) b;have t:=XT (w:=w) b;have H:=H k b;have as:=u1 _ u;have s:=u2 _ t;have C:=C k b;have J:=J k b;generalize wd1 (zO w k)=ae at *;generalize wd1 (zM w k)=ab at *;generalize wd2 (zO w k)=I at *;generalize wd2 (zM w k)=cb at *;generalize A1 (zO w k)=b0 at *;generalize B1 (zO w k)=b5 at *;generalize B1 (zM w k)=a4 at *;generalize A2 (zO w k)=O at *;generalize A2 (zM w k)=a9 at *;generalize B2 (zM w k)=b6 at *;generalize h (zO w k)=he at *;generalize h (zM w k)=hb at *;have E : ∀(n:Nat) (f g g':UV) (i j:Nat),(∀x,x<n->g x j%p=g' x j)->mM p n f g i j=mM p n f g' i j:=λn f g g' i j q=>by unfold mM;exact zL λx a=>by rw[<- q x a,MX (f i x)<|g x j%p,Of _<|Pw p,<- MX]
 have F : ∀(n:Nat) (f f' g:UV) (i j:Nat),(∀x,x<n->f i x%p=f' i x)->mM p n f g i j=mM p n f' g i j:=λn f f' g i j q=>by unfold mM;exact zL λx a=>by rw[<- q x a,MX (f i x%p)<|g x j,Of _<|Pw p,<- MX]
 have e : ∀(n:Nat) (f g:UV) (i j:Nat),mM p n f g i j%p=mM p n f g i j:=λn f g i j=>Nz (V2 o n f g i j).1 (V2 o n f g i j).2;have l:mM p ae (mM p ae (mM p I O he) b5) (T1 k) i j=mM p ab (mM p I O<|mM p ae he<|S1 k) a4 i j:=by rw[E ae _ _ (mM p ab (mM p ae b0<|S1 k) a4) i j λx a=>C x j a B,jZ];refine jq (λx a=>?_) λ_ _=>rfl;rw[jZ,jq (f':=mM p I O he) (g':=S1 k) (λy U=>?_) λ_ _=>rfl,<- jZ];rw[<- jZ,jq (f':=mM p I O he) (g':=i3) (λ_ _=>rfl) λz d=>vx two as d U,XB U,e]
 have r:mM p cb (T2 k) (mM p ab (mM p cb a9 hb) a4) i j=mM p ab (mM p I O<|mM p cb (S2 k) hb) a4 i j:=by rw[jZ];refine jq (λx a=>?_) λ_ _=>rfl;rw[jZ,jZ];refine jq (λy U=>?_) λ_ _=>rfl;rw[F cb (T2 k) (mM p cb (mM p I O<|S2 k) b6) a9 i y λx a=>J i x A a,<- jZ,jq (f':=mM p I O<|S2 k) (g':=i3) (λ_ _=>rfl) λz d=>vx two s d U,XB U,e]
 rw[l,r];refine jq (λx a=>?_) λ_ _=>rfl;exact jq (λ_ _=>rfl) λy U=>H y x U a
end
section
variable{p:Int}{m N:Nat}{w:UK}{wd:UX}{T:UW}{A:Nat->ef}{bs:List (Int×Int)}{b c:Int×Int}
theorem nD(h : ∀b∈bs,yj ((m+1:Nat):Int) b):ki (ck (bS bs) (bE bs) bs.length) bs.length=bs:=by
 conv=>rhs;rw[iC h]
 unfold ki;refine Nj λj z=>?_;have:=(iD h<|MR.mp z).2.1;show((bS bs j:Int),((bS bs j+(bE bs j - bS bs j+1) - 1:Nat):Int))=_;rw[show bS bs j+(bE bs j - bS bs j+1) - 1=bE bs j by omega]
theorem HF(bs:List (Int×Int))(k:Nat):bW bs k<=bs.length:=by unfold bW gb j4;exact NZ (SO _ _) ⋯
end
section ap
variable(γ:Ctx)
@[simp] noncomputable def Ip:=@Gz.eq_1
@[simp] noncomputable def Lj:=@Mz.eq_1
@[simp] theorem HV(f):dR f γ=((f γ).bind ix).map λi=> .int (-i):=rfl
@[simp] noncomputable def Au:=@EX.eq_1
end ap
structure G8(p:Int)(m:Nat)(w:UK)(wd:UX)(K:List (Int×Int))(T F G:UW):Prop where
 pr : ∀r,r<m+1->Pair p (wd r) (F r) (G r)
 eb:qc [qO p m w wd T]=bQ (.val<|kQ K (vc m wd G)<|vc m wd F)
 et : ∀k,k<m->∀i j,i<wd (zO w k)->j<wd (zM w k)->T k i j=mM p (wd<|zM w k) (mM p (wd<|zO w k) (F<|zO w k)<|oR w K k) (G<|zM w k) i j
 rg : ∀k i j,0<=T k i j/\T k i j<p
section
variable{p:Int}{m N:Nat}{w:UK}{wd:UX}{T T1 T2 F1 G1 F2 G2:UW}{A:Nat->ef}{K:List (Int×Int)}
theorem tX(O:Pr p)(J : ∀k,wd k<=8)(S:m<=5)(C : ∀k i j,0<=T k i j/\T k i j<p)(D:o7 p w wd T m N A) : ∃F G,G8 p m w wd (vZ<|ki A N) T F G:=by
 obtain⟨b,a,g,R,U,cnt,f,t,B⟩:=Vt (T:=T) (w:=w) O J S λk i j _ _ _=>C k i j;have P : ∀j,j<b->1<=(a j).n:=λj I=>(U j I).n1;have h : ∀r,r<=m->md (ki a b) r=wd r:=λr z=>by unfold md;rw[kG P,cnt _ z]
 have o:o7 p w wd T m b a:=uI O J U cnt λr z v=>⟨app (g r) (wd r) v,λi d=>(lI (f r z).1 v d).symm⟩;have e : ∀(X:Nat->ef) (M:Nat),ki X M=(nH X M).map λs=>((s.1:Int),(s.2:Int)):=λX M=>by unfold ki nH;rw[NB];rfl
 have Q:(ki a b).Perm (ki A N):=by rw[e,e];exact(fz O o D).map _
 have u:vZ (ki a b)=ki a b:=t;have l:ki a b=vZ (ki A N):=by rw[<- u,wz Q]
 refine⟨λr=>xI a b r,g,⟨λr z=>?_,?_,λk L i j d I=>?_,C⟩⟩
 ·obtain⟨u1,u2,u3⟩:=f r ⋯
  refine⟨λi j d I=>?_,λi j _ _=>u3 i j,u1,u2⟩;have x:j<(f6 a b r).length:=by rw[cnt r ⋯];exact I
  obtain⟨H,K⟩:=KB x;exact(U _ H).h9 r i K d
 ·rw[<- l];exact B
 ·have y:zM w k<=m:=by unfold zM;split<;>omega
  have E:zO w k<=m:=by unfold zO;split<;>omega
  rw[aU O U cnt (λr z=>(f r z).1) L d I (C k i j),WG,h _ y,h _ E,l]
end
section
variable{p:Int}{n n1 n2 c i j:Nat}{A A1 B1 A2 B2 X h:UV}{E:UW}{t:Nat->Int}
theorem pv(z:0<p)(n:Nat)(f g:UV)(i j:Nat):mM p n f g i j%p=mM p n f g i j:=Nz (V2 z n f g i j).1 (V2 z n f g i j).2
theorem Hd{g g':UV}(f:UV)(q : ∀x,x<n->g x j%p=g' x j%p):mM p n f g i j=mM p n f g' i j:=by unfold mM;exact zL λx a=>by rw[MX,q x a,<- MX]
theorem ZE(two:2<=p)(u2:Jc p n2 A2 B2)(u1:Jc p n1 A1 B1)(C:i<n2)(I:j<n1):mM p n1 (mM p n2 A2<|mM p n1 (mM p n2 B2 h) A1) B1 i j=h i j%p:=by
 have U:0<p:=by omega
 have e : ∀x,x<n1->mM p n2 A2 (mM p n1 (mM p n2 B2 h) A1) i x=mM p n1 (λa b=>h a b%p) A1 i x:=λx d=>by rw[jZ];refine jq (λy f=>?_) λ_ _=>rfl;rw[jZ,jq (f':=i3) (g':=h) (λz O=>vx two u2 C O) λ_ _=>rfl,Cr C]
 rw[jq (f':=mM p n1 (λa b=>h a b%p) A1) (g':=B1) e λ_ _=>rfl,<- jZ,jq (f':=λa b=>h a b%p) (g':=i3) (λ_ _=>rfl) λx d=>vx two u1 d I,XB I];exact Of _<|Pw p
theorem VD(c:Nat)(t u:Nat->Int):zg (λs=>t s*(u s%p)) c%p=zg (λs=>t s*u s) c%p:=zL λs _=>by rw[MX,Of _<|Pw p,<- MX]
theorem He(q : ∀x,x<n->X x j%p=zg (λs=>t s*E s x j) c%p):mM p n A X i j=zg (λs=>t s*mM p n A (E s) i j) c%p:=by
 unfold mM;rw[VD];have e:zg (λk=>A i k*X k j) n%p=zg (λk=>A i k*zg (λs=>t s*E s k j) c) n%p:=zL λx a=>by rw[MX,q x a,<- MX]
 rw[e];congr 1;rw[zw (g:=λk=>zg (λs=>A i k*(t s*E s k j)) c) λk _=>by rw[ja],jT];refine zw λs _=>?_;rw[<- ja];exact zw λk _=>by rw[Pu]
theorem Hf(q : ∀x,x<n->X i x%p=zg (λs=>t s*E s i x) c%p):mM p n X A i j=zg (λs=>t s*mM p n (E s) A i j) c%p:=by
 unfold mM;rw[VD];have e:zg (λk=>X i k*A k j) n%p=zg (λk=>zg (λs=>t s*E s i k) c*A k j) n%p:=zL λx a=>by rw[MX,q x a,<- MX]
 rw[e];congr 1;rw[zw (g:=λk=>zg (λs=>t s*E s i k*A k j) c) λk _=>by rw[qI],jT];refine zw λs _=>?_;rw[<- ja];exact zw λk _=>OP ..
theorem aj(z:0<p)(q : ∀a b,a<n2->b<n1->X a b%p=zg (λs=>t s*E s a b) c%p)(A B:UV)(i j:Nat):mM p n1 (mM p n2 A X) B i j=zg (λs=>t s*mM p n1 (mM p n2 A<|E s) B i j) c%p:=
 Hf λx d=>by rw[pv z,He (t:=t) (E:=E) (c:=c) λy I=>q y x I d]
end
section
variable{p:Int}{m c:Nat}{w:UK}{wd1 wd2:UX}{T1 T2 S1 S2 A1 B1 A2 B2:UW}{h:UW}{E:Nat->Nat->Nat->Nat->Int}
theorem xg.I'(two:2<=p)(u1 : ∀r,r<=m->Jc p (wd1 r) (B1 r) (A1 r))(u2 : ∀r,r<=m->Jc p (wd2 r) (B2 r) (A2 r))(Y : ∀r,r<=m->Jc p (wd1 r) (A1 r) (B1 r))(Z : ∀r,r<=m->Jc p (wd2 r) (A2 r) (B2 r))
 (J : ∀k,k<m->∀i j,i<wd1 (zO w k)->j<wd1 (zM w k)->T1 k i j%p=mM p (wd1<|zM w k) (mM p (wd1<|zO w k) (A1<|zO w k)<|S1 k) (B1<|zM w k) i j)
 (L : ∀k,k<m->∀i j,i<wd2 (zO w k)->j<wd2 (zM w k)->T2 k i j%p=mM p (wd2<|zM w k) (mM p (wd2<|zO w k) (A2<|zO w k)<|S2 k) (B2<|zM w k) i j)
 (H:xg p m w wd1 wd2 S1 S2 c E):xg p m w wd1 wd2 T1 T2 c λs r=>mM p (wd1 r) (mM p (wd2 r) (A2 r)<|E s r) (B1 r):=by
 have U:0<p:=by omega
 have G : ∀{wd:UX} {T S A B:UW},(∀r,r<=m->Jc p (wd r) (B r) (A r))->(∀k,k<m->∀i j,i<wd (zO w k)->j<wd (zM w k)->T k i j%p=mM p (wd<|zM w k) (mM p (wd<|zO w k) (A<|zO w k)<|S k) (B<|zM w k) i j)->∀k,k<m->∀i j,i<wd (zO w k)->j<wd (zM w k)->S k i j%p=mM p (wd<|zM w k) (mM p (wd<|zO w k) (B<|zO w k)<|T k) (A<|zM w k) i j:=λ{wd T S A B} u e k o i j d O=>by rw[<- ZE (h:=S k) two (u _<|XO (w:=w) o) (u _<|XT (w:=w) o) d O];refine jq (λx N=>?_) λ_ _=>rfl;refine Hd _ λy P=>?_;rw[e k o y x P N,pv U]
 refine⟨λs C=>aM two u1 u2 J L<|H.E5 s C,λh M=>?_,λt F s C=>?_⟩
 ·have K:=aM (A1:=B1) (B1:=A1) (A2:=B2) (B2:=A2) two Y Z (G u1 J) (G u2 L) M
  obtain⟨t,F⟩:=H.span _ K;refine⟨t,λr I i j d O=>?_⟩;rw[<- ZE (h:=h r) two (Z r I) (Y r I) d O,aj U (t:=t) (E:=λs=>E s r) (c:=c) λa b f n=>F r I a b f n]
 ·refine H.ind t (λr I i j d O=>?_) s C
  have z : ∀s,mM p (wd1 r) (mM p (wd2 r) (B2 r)<|mM p (wd1 r) (mM p (wd2 r) (A2 r)<|E s r)<|B1 r) (A1 r) i j=E s r i j%p:=λs=>ZE (h:=E s r) two (u2 r I) (u1 r I) d O;have l:=aj (n1:=wd1 r) (n2:=wd2 r) (X:=λ_ _=>0) U (t:=t) (E:=λs=>mM p (wd1 r) (mM p (wd2 r) (A2 r)<|E s r)<|B1 r) (c:=c) (λa b f n=>(F r I a b f n).symm) (B2 r) (A1 r) i j;rw[zw (g:=λs=>t s*(E s r i j%p)) λs _=>by rw[z s],VD]at l;rw[<- l];have Q : ∀x,mM p (wd2 r) (B2 r) (λ_ _=>0) i x=0:=λx=>by unfold mM;rw[zw (g:=λ_=>0) λk _=>NK _,zH];rfl
  unfold mM;rw[zw (g:=λ_=>0) λk _=>by have:=Q k;unfold mM at this;rw[this,Ht],zH]
  rfl
end
structure u5(p:Int)(m:Nat)(w:UK)(wd:UX)(K:List (Int×Int))(T F G:UW):Prop where
 pp:G8 p m w wd K T F G
 st : ∀b∈K,yj ((m+1:Nat):Int) b
 br : ∀r,r<=m->md K r=wd r
 le:K.length<=48
theorem uz{p:Int}{m:Nat}{w:UK}{wd1 wd2:UX}{K1 K2:List (Int×Int)}{T1 C L T2 J S:UW}(Y:Pr p)(z:u5 p m w wd1 K1 T1 C L)(I:u5 p m w wd2 K2 T2 J S) : ∃(c:Nat) (E:Nat->Nat->Nat->Nat->Int),(c:Int)=xK (K1.map λb=>xK<|K2.map λc=>g8 w b c)/\xg p m w wd1 wd2 T1 T2 c E:=by
 have two:=Y.two;refine⟨_,_,bK,xg.I' (S1:=oR w K1) (S2:=oR w K2) (A1:=C) (B1:=L) (A2:=J) (B2:=S) two (λr O=>(z.pp.pr r ⋯).gf) (λr O=>(I.pp.pr r ⋯).gf) (λr O=>(z.pp.pr r ⋯).fg) (λr O=>(I.pp.pr r ⋯).fg) (λk U i j a d=>?_) (λk U i j a d=>?_)<|(gE (p:=p) (w:=w) z.st I.st).wd z.br I.br⟩
 ·rw[Nz (z.pp.rg k i j).1 (z.pp.rg k i j).2]
  exact z.pp.et k U i j a d
 ·rw[Nz (I.pp.rg k i j).1 (I.pp.rg k i j).2]
  exact I.pp.et k U i j a d
section
variable{p:Int}{m:Nat}{w:UK}{wd1 wd2:UX}{T1 T2:UW}{h h':UW}
theorem rf.ext(e : ∀r,r<=m->∀i j,i<wd2 r->j<wd1 r->h r i j=h' r i j)(H:rf p m w wd1 wd2 T1 T2 h):rf p m w wd1 wd2 T1 T2 h':=λk z i j a O=>by have U:=XO (w:=w) z;have b:=XT (w:=w) z;rw[jq (f':=h<|zO w k) (g':=T1 k) (λt I=>(e _ U i t a I).symm) λ_ _=>rfl,jq (f':=T2 k) (g':=h<|zM w k) (λ_ _=>rfl) λt I=>(e _ b t j I O).symm];exact H k z i j a O
theorem dB(J:0<p){k i j:Nat}(I:k<m)(C:i<wd2 (zO w k))(O:j<wd1 (zM w k))(v:Nat->Int):zg (λx=>wa p w wd1 wd2 T1 T2 k i j x*v x) (off wd2 wd1<|m+1)%p=0↔mM p (wd1<|zO w k) (cV wd2 wd1 v<|zO w k) (T1 k) i j=mM p (wd2<|zM w k) (T2 k) (cV wd2 wd1 v<|zM w k) i j:=by
 rw[AX I C O];have d:zg (λt=>T1 k t j*v (off wd2 wd1 (zO w k)+i*wd1 (zO w k)+t)) (wd1<|zO w k)=zg (λt=>cV wd2 wd1 v (zO w k) i t*T1 k t j) (wd1<|zO w k):=zw λt _=>Om ..;have U:zg (λt=>((0 - T2 k i t)%p)*v (off wd2 wd1 (zM w k)+j+t*wd1 (zM w k))) (wd2<|zM w k)%p=(-(zg (λt=>T2 k i t*cV wd2 wd1 v (zM w k) t j)<|wd2<|zM w k))%p:=by rw[show -(zg (λt=>T2 k i t*cV wd2 wd1 v (zM w k) t j)<|wd2<|zM w k)=zg (λt=>(-1)*(T2 k i t*cV wd2 wd1 v (zM w k) t j)) (wd2<|zM w k)by rw[ja];omega];refine zL λt _=>?_;rw[MX,Of _<|Pw p,<- MX];congr 1;unfold cV;rw[show off wd2 wd1 (zM w k)+j+t*wd1 (zM w k)=off wd2 wd1 (zM w k)+t*wd1 (zM w k)+j by omega,Int.zero_sub,Int.neg_mul,Int.neg_mul,SF]
 unfold mM;rw[d,Ny,U,<- Ny];generalize zg (λt=>cV wd2 wd1 v (zO w k) i t*T1 k t j) (wd1<|zO w k)=a;generalize zg (λt=>T2 k i t*cV wd2 wd1 v (zM w k) t j) (wd2<|zM w k)=b;rw[<- Int.sub_eq_add_neg];exact⟨λz=>Oe.mpr z,λz=>Oe.mp z⟩
theorem gp(O:0<p)(v:Nat->Int):(∀e,e<off (eh w wd2) (d8 w wd1) m->zg (λx=>wb p m w wd1 wd2 T1 T2 e x*v x) (off wd2 wd1<|m+1)%p=0)↔rf p m w wd1 wd2 T1 T2 (cV wd2 wd1 v):=by
 constructor
 ·intro H k z i j a I
  have U:i<eh w wd2 k:=by rw[<- qe];exact a
  have b:j<d8 w wd1 k:=by rw[<- qk];exact I
  have:=H _<|Wq z U b;rw[WQ z U b]at this;exact(dB O z a I v).mp this
 ·intro H e d
  obtain⟨k,i,j,z,a,I,rfl⟩:=mJ _ _ d;rw[WQ z a I];rw[<- qe]at a;rw[<- qk]at I;exact(dB O z a I v).mpr (H k z i j a I)
theorem Ck{r i j:Nat}(I:r<=m)(C:i<wd2 r)(z:j<wd1 r)(h:UW):cV wd2 wd1 (DY wd2 wd1 h<|m+1) r i j=h r i j:=K8 (T:=h) C z (m+1) ⋯
theorem Ed{K1 K2:List (Int×Int)}{C L J S:UW}{r:Nat}(O:Pr p)(Y:u5 p m w wd1 K1 T1 C L)(Z:u5 p m w wd2 K2 T2 J S)(hr:Rk p (off wd2 wd1<|m+1) (off (eh w wd2) (d8 w wd1) m) (wb p m w wd1 wd2 T1 T2) r) :
 xK (K1.map λb=>xK<|K2.map λc=>g8 w b c)+(r:Int)=(off wd2 wd1 (m+1):Int):=by
 have e:=O.pos;obtain⟨c,E,h,H⟩:=uz O Y Z;have:=ui (W:=λs=>DY wd2 wd1 (E s)<|m+1) (c:=c) O hr (λs d=>(gp e _).mpr ((H.E5 s d).ext λq I i j a z=>(Ck I a z<|E s).symm)) (λv f=>?_) λt U s d=>?_
 ·omega
 ·obtain⟨t,U⟩:=H.span _ ((gp e v).mp f)
  refine⟨t,λx g=>?_⟩;obtain⟨q,i,j,I,a,z,rfl⟩:=mJ _ _ g;have:=U q ⋯ i j a z;rw[show cV wd2 wd1 v q i j=v (off wd2 wd1 q+i*wd1 q+j)from rfl]at this;rw[this];exact zL λs _=>by rw[K8 (T:=E s) a z (m+1) I]
 ·refine H.ind t (λq I i j a z=>?_) s d
  have:=U _<|Wq (show q<m+1 by omega) a z;rw[<- this];exact zL λs _=>by rw[K8 (T:=E s) a z (m+1) ⋯]
end
theorem fK{hs ws:UX}{a b:Nat}(C : ∀k,hs k<=a)(h2 : ∀k,ws k<=b) : ∀n,off hs ws n<=n*(a*b)
 | 0=>OD _
 | n+1=>by have:=fK C h2 n;have:=Nat.mul_le_mul (C n)<|h2 n;show off hs ws n+hs n*ws n<=_;rw[SV];omega
noncomputable def CN(w:UK)(a:Nat):Int:=if w (a - 1)=bX then (a:Int)else -(a:Int)
noncomputable def CK(w:UK)(m b:Nat):Int:=if w b=bX then (b:Int) - m else (m:Int) - b
theorem CA{w:UK}{a c:Nat}(h:s9 w a c=bX):a=c\/CN w a<CN w c:=by
 by_cases q:a=c
 ·exact .inl q
 ·right
  unfold s9 at h;simp only[q,decide_false,Rv,beq_iff_eq]at h;unfold CN;by_cases l:a<c
  ·rw[show max a c=c by omega,decide_eq_true l]at h
   rw[UJ h];split<;>omega
  ·rw[show max a c=a by omega,decide_eq_false l]at h
   rw[UY (by rw[h];decide)];split<;>omega
theorem Br{w:UK}{m b d:Nat}(z:b<=m)(C:d<=m)(h:t8 w b d=bX):b=d\/CK w m b<CK w m d:=by
 by_cases q:b=d
 ·exact .inl q
 ·right
  unfold t8 at h;simp only[q,decide_false,Rv,beq_iff_eq]at h;unfold CK;by_cases l:b<d
  ·rw[show min b d=b by omega]at h
   rw[h];simp only[l,decide_true,if_true];split<;>omega
  ·rw[show min b d=d by omega]at h
   rw[h];simp only[l,decide_false];simp;split<;>omega
noncomputable def VB(w:UK)(m:Nat)(b:Int×Int):Int:=CN w b.1.toNat+CK w m b.2.toNat
theorem Er{w:UK}{m:Nat}{b c:Int×Int}(z:yj ((m+1:Nat):Int) b)(I:yj ((m+1:Nat):Int) c)(h:g8 w b c≠0):b=c\/VB w m b<VB w m c:=by
 obtain⟨b1,b2,b3⟩:=z;obtain⟨O,U,d⟩:=I;have a:o3 w b.1.toNat b.2.toNat c.1.toNat c.2.toNat=bX:=by
  unfold g8 at h;by_cases q:o3 w b.1.toNat b.2.toNat c.1.toNat c.2.toNat=bX
  ·exact q
  ·rw[UY q]at h;exact absurd rfl h
 unfold o3 at a;simp only[Nb]at a;have l:=CA a.2.1;have r:=Br (m:=m) ⋯ ⋯ a.2.2;unfold VB;rcases l with l | l<;>rcases r with r | r
 ·left
  refine Ua ?_ ?_<;>omega
 ·rw[l];right;omega
 ·rw[r];right;omega
 ·right;omega
theorem uT{w:UK}{n:Int}{b:Int×Int}(z:yj n b):g8 w b b=1:=by obtain⟨a,d,I⟩:=z;unfold g8 o3 s9 t8;rw[UJ];simp;omega
theorem ZO{w:UK}{m:Nat}{c:Int×Int}(I:yj ((m+1:Nat):Int) c) : ∀bs:List (Int×Int),(∀b∈bs,yj ((m+1:Nat):Int) b)->xK (bs.map λb=>g8 w b c)=(bs.count c:Int)+xK ((bs.filter λb=>decide<|VB w m b<VB w m c).map λb=>g8 w b c)
 | [],_=>rfl
 | b::bs,h=>by
  have U:=ZO (w:=w) I bs λx d=>h x<|Np _ d;have O:=h b Nk;rw[Nt];show g8 w b c+xK (bs.map λb=>g8 w b c)=_;rw[U];by_cases e:b=c
  ·subst e
   rw[List.filter_cons_of_neg ⋯,uT O,List.count_cons_self];omega
  ·rw[List.count_cons_of_ne e]
   by_cases k:VB w m b<VB w m c
   ·rw[List.filter_cons_of_pos (by simpa using k)]
    show _=_+(g8 w b c+xK _);omega
   ·rw[List.filter_cons_of_neg (by simpa using k)]
    have z:g8 w b c=0:=Decidable.byContradiction λa=>(Er O I a).elim e k;omega
theorem AJ{w:UK}{m:Nat}{C J:List (Int×Int)}(h1 : ∀b∈C,yj ((m+1:Nat):Int) b)(L : ∀b∈J,yj ((m+1:Nat):Int) b)
 (e : ∀c,yj ((m+1:Nat):Int) c->xK (C.map λb=>g8 w b c)=xK (J.map λb=>g8 w b c)):C.Perm J:=by
 have d : ∀(n:Nat) (c:Int×Int),(VB w m c+100+4*m).toNat<n->C.count c=J.count c:=by
  intro n
  induction n with
  | zero=>intro c h;omega
  | succ n O=>
   intro c f;by_cases a:yj ((m+1:Nat):Int) c
   ·have g:=ZO (w:=w) a C h1
    have i:=ZO (w:=w) a J L;have lo : ∀b,yj ((m+1:Nat):Int) b->0<=VB w m b+100+4*m:=λb z=>by obtain⟨b1,b2,b3⟩:=z;unfold VB CN CK;split<;>split<;>omega
    have U:(C.filter λb=>decide<|VB w m b<VB w m c).Perm (J.filter λb=>decide<|VB w m b<VB w m c):=by
     rw[RP];intro b;by_cases k:VB w m b<VB w m c
     ·rw[List.count_filter (by simpa using k),List.count_filter (by simpa using k)]
      by_cases I:yj ((m+1:Nat):Int) b
      ·have:=lo b I
       exact O b ⋯
      ·rw[NX λz=>I<|h1 b z,NX λz=>I (L b z)]
     ·rw[NX (by simp[k]),NX (by simp[k])]
    have:=Yk<|U.map λb=>g8 w b c;have:=e c a;omega
   ·rw[NX λz=>a<|h1 c z,NX λz=>a (L c z)]
 rw[RP];exact λc=>d _ c<|OR _
abbrev zP(s:Nat×Nat):Int×Int:=((s.1:Int),(s.2:Int))
theorem Eh(x b:Int×Int):g9 (.tup [.int x.1,.int x.2]) (.tup [.int b.1,.int b.2])=(x==b):=by rw[XN,Rw];simp[Prod.ext_iff]
theorem aO(b:Int×Int) : ∀bs:List (Int×Int),((z6 bs).countP λd=>g9 d<|.tup [.int b.1,.int b.2])=bs.count b
 | []=>rfl
 | x::bs=>by have z:=aO b bs;show((D.tup [.int x.1,.int x.2]::z6 bs).countP _)=_;rw[SE,List.count_cons,z];rw[Eh x b]
theorem Jz{γ:Ctx}{g:CO (Sk×List D)}{f:CO D}{bs:List (Int×Int)}{b:Int×Int}(C:g γ=bQ (.L,z6 bs))(I:f γ=bQ (.tup [.int b.1,.int b.2])):xM g f γ=bQ (.int (bs.count b:Nat)):=by unfold xM;rw[C,I];show(if i4 (.tup [.int b.1,.int b.2])=bX/\m6 (z6 bs)=bX then bQ (D.int ((z6 bs).countP λd=>g9 d (.tup [.int b.1,.int b.2]):Nat))else none)=_;rw[UJ ⟨rfl,YO bs⟩,aO]
noncomputable def pM(C I:List (Int×Int))(s:Nat×Nat):Bool:=decide<|C.count (zP s)≠I.count (zP s)
section
variable{m:Nat}{w:UK}{eX eY:List (Int×Int)}
theorem Y9{P:Nat×Nat->Bool}{g:Nat×Nat->D}{L:List (Nat×Nat)}{s:Nat×Nat}(h:L.find? P=bQ s):((ec ((L.filter P).map g).length 0).bind λk=>((L.filter P).map g)[k]?)=bQ (g s):=by
 rw[<- List.head?_filter]at h;obtain⟨t,e⟩ : ∃t,L.filter P=s::t:=by
  cases q:L.filter P with
  | nil=>rw[q]at h;cases h
  | cons a t=>rw[q]at h;cases h;exact⟨t,rfl⟩
 rw[e];simp[ec]
noncomputable def lj(w:UK)(eX eY:List (Int×Int))(s:Nat×Nat):Bool:=decide<|xK (eX.map λb=>g8 w b<|zP s)≠xK (eY.map λb=>g8 w b<|zP s)
noncomputable def Lx(eX eY:List (Int×Int))(s t:Nat×Nat):D:= .tup [.str "apart",kD s,.int (eX.count (zP s):Nat),.int (eY.count (zP s):Nat),kD t]
theorem oK{M:Nat}{s:Nat×Nat}(h:s∈stN M):yj (M:Int) (zP s):=by obtain⟨a,b⟩:=DO.mp h;exact⟨by show(0:Int)<=(s.1:Int);omega,by show(s.1:Int)<=(s.2:Int);omega,by show(s.2:Int)<_;omega⟩
theorem Ah:QV=jo 6 (zR (jF 3 (qh (jJ qJ (zb (zK qu (xw (zf 0)) (zy (.int 1))) zI)))) (zR (jF 4 (cq (js (zU (zT (zh 3)) (.nm 0) 1 [1,2] EJ (zf 0))) (zy (.int 0)))) (zR (jF 5 (cq (js (zU (zT (zh 3)) (.nm 0) 1 [0,1,2] EI (zf 0))) (zy (.int 0)))) (jR (xH (zb (zy (.str "apart")) (zb (zf 4) (zb (xM (zh 1) (zf 4)) (zb (xM (zh 2) (zf 4)) (zb (zf 5) zI)))))))))):=rfl
theorem rK(C:m<=5)(J : ∀b∈eX,yj ((m+1:Nat):Int) b)(L : ∀b∈eY,yj ((m+1:Nat):Int) b)(I:eX.length<=lim)(O:eY.length<=lim){s:Nat×Nat}(hs:s∈stN (m+1)):xl [.str (j5 m w),.lst<|z6 eX,.lst<|z6 eY,kD s]=bQ (.val<|.bl<|lj w eX eY s):=by
 have a:qA [.str (j5 m w),.lst<|z6 eX,kD s]=bQ (.val<|.int<|xK<|eX.map λb=>g8 w b<|zP s):=V8 (w:=w) (c:=zP s) C J I<|oK hs;have z:qA [.str (j5 m w),.lst<|z6 eY,kD s]=bQ (.val<|.int<|xK<|eY.map λb=>g8 w b<|zP s):=V8 (w:=w) (c:=zP s) C L O<|oK hs;unfold xl;refine je ?_;show jR _ [.val (.str<|j5 m w),.val<|.lst<|z6 eX,.val<|.lst<|z6 eY,.val (kD s)]=_;unfold lj;by_cases q:xK (eX.map λb=>g8 w b<|zP s)=xK (eY.map λb=>g8 w b<|zP s)
 ·simp[a,z,q]
 ·simp[a,z,q]
theorem uZ(L:m<=5)(C : ∀b∈eX,yj ((m+1:Nat):Int) b)(J : ∀b∈eY,yj ((m+1:Nat):Int) b)(Z:eX.length<=lim)(l2:eY.length<=lim){s t:Nat×Nat}(hs:(stN<|m+1).find? (pM eX eY)=bQ s)(Y:(stN<|m+1).find? (lj w eX eY)=bQ t) :
 QV [.str (j5 m w),.lst<|z6 eX,.lst (z6 eY)]=bQ (.val<|Lx eX eY s t):=by
 have u:=jg;have O:=Gd ⟨m+1,by omega⟩;have r:=(lT ⟨m+1,by omega⟩).2.2;dsimp only at O r;have U:((stN<|m+1).map kD).length<=lim:=by rw[Nf];omega
 let γ:Cell->Cell->Cell->Ctx:=λg h i=>[.val (.str<|j5 m w),.val<|.lst<|z6 eX,.val<|.lst<|z6 eY,g,h,i];let S:=Cell.val<|.lst<|(stN<|m+1).map kD;have l:jF 3 (qh<|jJ qJ<|zb (zK qu (xw<|zf 0)<|zy<|.int 1) zI) (γ .no .no .no)=bQ (.next<|γ S .no .no):=by
  have f:qJ [.int ((m:Int)+1)]=bQ (.own<|(stN<|m+1).map kD):=by rw[<- O];rfl
  have p:=qZ (m:=m) w ⋯;simp[γ,S,ky,f,p]
 have n:jF 4 (cq (js<|zU (zT<|zh 3) (.nm 0) 1 [1,2] EJ (zf 0))<|zy<|.int 0) (γ S .no .no)=bQ (.next<|γ S (.val<|kD s) .no):=by
  have a:zX (.nm 0) EJ (zf 0) [Cell.no,.val<|.lst<|z6 eX,.val (.lst<|z6 eY)] ((stN<|m+1).map kD)=bQ (((stN<|m+1).filter (pM eX eY)).map kD):=jh _ _ _ λx d=>⟨[.val (kD x),.val<|.lst<|z6 eX,.val (.lst<|z6 eY)],rfl,by
   have z:xM (zh 1) (zf 0) [.val (kD x),.val<|.lst<|z6 eX,.val (.lst<|z6 eY)]=bQ (.int (eX.count (zP x):Nat)):=Jz rfl rfl;have I:xM (zh 2) (zf 0) [.val (kD x),.val<|.lst<|z6 eX,.val (.lst<|z6 eY)]=bQ (.int (eY.count (zP x):Nat)):=Jz rfl rfl;unfold EJ pM;rw[pV,yi,z,I];by_cases q:eX.count (zP x)=eY.count (zP x)
   ·simp[q]
   ·have j : ¬((eX.count (zP x):Nat):Int)=((eY.count (zP x):Nat):Int):=by omega
    simp[q,j],λ_=>rfl⟩
  rw[yf,yx,xQ,j7,show zT (zh 3) (γ S .no .no)=bQ ((stN<|m+1).map kD)from rfl,MW,UJ U,show jn 1 [1,2] (γ S .no .no)=[Cell.no,.val<|.lst<|z6 eX,.val (.lst<|z6 eY)]from rfl,a];show Sj _ ((ec (((stN<|m+1).filter (pM eX eY)).map kD).length 0).bind λk=>(((stN<|m+1).filter (pM eX eY)).map kD)[k]?)=_;rw[Y9 hs];rfl
 have o:jF 5 (cq (js<|zU (zT<|zh 3) (.nm 0) 1 [0,1,2] EI (zf 0))<|zy<|.int 0) (γ S (.val<|kD s) .no)=bQ (.next<|γ S (.val<|kD s)<|.val<|kD t):=by
  have a:zX (.nm 0) EI (zf 0) [Cell.no,.val<|.str<|j5 m w,.val<|.lst<|z6 eX,.val (.lst<|z6 eY)] ((stN<|m+1).map kD)=bQ (((stN<|m+1).filter (lj w eX eY)).map kD):=jh _ _ _ λx d=>⟨[.val (kD x),.val<|.str<|j5 m w,.val<|.lst<|z6 eX,.val (.lst<|z6 eY)],rfl,by
   have e:=rK (w:=w) L C J Z l2 d;simp[EI,e],λ_=>rfl⟩
  rw[yf,yx,xQ,j7,show zT (zh 3) (γ S (.val<|kD s) .no)=bQ ((stN<|m+1).map kD)from rfl,MW,UJ U,show jn 1 [0,1,2] (γ S (.val<|kD s) .no)=[Cell.no,.val<|.str<|j5 m w,.val<|.lst<|z6 eX,.val (.lst<|z6 eY)]from rfl,a];show Sj _ ((ec (((stN<|m+1).filter (lj w eX eY)).map kD).length 0).bind λk=>(((stN<|m+1).filter (lj w eX eY)).map kD)[k]?)=_;rw[Y9 Y];rfl
 rw[Ah];refine je<|zv (γ':=γ S .no .no) l<|zv n<|zv o ?_;have z:xM (zh 1) (zf 4) (γ S (.val<|kD s)<|.val<|kD t)=bQ (.int (eX.count (zP s):Nat)):=Jz rfl rfl;have I:xM (zh 2) (zf 4) (γ S (.val<|kD s)<|.val<|kD t)=bQ (.int (eY.count (zP s):Nat)):=Jz rfl rfl;rw[Ja,aS,jx,jx,jx,jx,jx,Vw,z,I];rfl
end
theorem Yu{F G:CO Fl}{γ:Ctx}{r:Res}(e:F γ=bQ (.ret r)):zR F G γ=bQ (.ret r):=by rw[jI,e];rfl
section
variable{p:Int}{m:Nat}{w:UK}{bs eX eY:List (Int×Int)}
theorem oA(h : ∀b∈bs,yj ((m+1:Nat):Int) b)(k:Nat):bW bs k=bs.countP λx=>decide (x.1<=(k:Int)) && decide ((k:Int)<=x.2):=by
 conv=>rhs;rw[iC h]
 rw[Rr];unfold bW gb j4 f6;rw[<- NJ];refine ON λj z=>?_;have:=(iD h<|MR.mp z).2.1;unfold ef.has IW;simp;omega
theorem pj{c:Int×Int}(h:yj ((m+1:Nat):Int) c) : ∃s,s∈stN (m+1)/\zP s=c:=by
 obtain⟨a,b,z⟩:=h;refine⟨(c.1.toNat,c.2.toNat),DO.mpr ⟨by dsimp only;omega,by dsimp only;omega⟩,?_⟩;refine Ua ?_ ?_
 ·show((c.1.toNat:Nat):Int)=c.1;omega
 ·show((c.2.toNat:Nat):Int)=c.2;omega
theorem uF(h1 : ∀b∈eX,yj ((m+1:Nat):Int) b)(C : ∀b∈eY,yj ((m+1:Nat):Int) b)(I : ¬eX.Perm eY):(∃s,(stN<|m+1).find? (pM eX eY)=bQ s)/\∃t,(stN<|m+1).find? (lj w eX eY)=bQ t:=by
 constructor
 ·cases q:(stN<|m+1).find? (pM eX eY)with
  | some s=>exact⟨s,rfl⟩
  | none=>
   refine absurd (RP.mpr λc=>?_) I;by_cases a:yj ((m+1:Nat):Int) c
   ·obtain⟨s,d,rfl⟩:=pj a
    have:=Tv.mp q s d;simpa[pM]using this
   ·rw[NX λz=>a<|h1 c z,NX λz=>a (C c z)]
 ·cases q:(stN<|m+1).find? (lj w eX eY)with
  | some s=>exact⟨s,rfl⟩
  | none=>
   refine absurd (AJ (w:=w) h1 C λc a=>?_) I;obtain⟨s,d,rfl⟩:=pj a;have:=Tv.mp q s d;simpa[lj]using this
end
section
variable{p:Int}{m:Nat}{w:UK}{wd wd1 wd2:UX}{T1 T2 F1 G1 F2 G2:UW}{K1 K2 eX eY:List (Int×Int)}
theorem Af(S:m<=5)(C:qc [qO p m w wd1 T1]=bQ (.val<|kQ K1 (vc m wd1 G1)<|vc m wd1 F1))(U:qc [qO p m w wd2 T2]=bQ (.val<|kQ K2 (vc m wd2 G2)<|vc m wd2 F2))(L:K1≠K2){d:D}(J:QV [.str (j5 m w),.lst<|z6 K1,.lst (z6 K2)]=bQ (.val d)) :
 y6 [qO p m w wd1 T1,qO p m w wd2 T2]=bQ (.val d):=by
 have a:=(QK (p:=p) (w:=w) (wd:=wd1) (T:=T1) (wd':=wd2) (T':=T2)<|show m<=900 by omega).2;have e:=yk (p:=p) (w:=w) (wd:=wd1) (T:=T1) (show m<=900 by omega);unfold kQ at C U;generalize qO p m w wd1 T1=I at *;generalize qO p m w wd2 T2=R2 at *;have b:eK (.lst<|z6 K1) (.lst<|z6 K2)=bQ (.bl bX):=by unfold eK;rw[UJ ⟨ZM _,ZM _⟩];have:=Vk K1 K2;show bQ (D.bl<|!o4 (z6 K1) (z6 K2))=_;rw[this,decide_eq_false L];rfl
 unfold y6;generalize (vc m wd1 G1)=X1 at *;generalize (vc m wd1 F1)=Y1 at *;generalize (vc m wd2 G2)=X2 at *;generalize (vc m wd2 F2)=Y2 at *;let z:D:= .tup [.lst (z6 K1),.lst<|X1.map tD,.lst (Y1.map tD)];let O:D:= .tup [.lst (z6 K2),.lst<|X2.map tD,.lst (Y2.map tD)];refine je<|zv (γ':=[.val I,.val R2,.no,.no,.no,.no]) (by simp[z9,a])<|zv (γ':=[.val I,.val R2,.val z,.no,.no,.no]) (by simp[C,z])<|zv (γ':=[.val I,.val R2,.val z,.val O,.no,.no]) (by simp[U,O])<|Yu ?_;simp[z,O,ec,b,e,J]
end
theorem lJ:xF=jo 6 (zR (yB (zS<|xY<|zh 1) (.nm 4) lL)<|jR<|zy<|.bl bX):=rfl
section
variable{p:Int}{m n:Nat}{w:UK}{wd:UX}{T1 T2 Q Q':UW}
theorem lH(Y:0<p)(Z:p<=7)(hn:n<=60)(C : ∀k,wd k<=60)(J : ∀k i j,0<=Q k i j/\Q k i j<p)(L : ∀k,k<n->∀i j,i<wd k->j<wd k->mM p (wd k) (Q k) (Q' k) i j=i3 i j) :
 xF [.int p,.lst<|zB n λk=>(wd k:Int),.lst<|jr n wd Q,.lst (jr n wd Q')]=bQ (.val<|.bl bX):=by
 have M:=jg;let W:List D:=zB n λk=>(wd k:Int);have u:W.length=n:=by simp[W]
 have t : ∀{r:Nat},r<n->((ec W.length (r:Int)).bind λk=>W[k]?)=bQ (.int (wd r:Int)):=λ{r} O=>by rw[u,j6,UJ O];exact Zn _ O
 have o : ∀(Q:UW) {r:Nat},r<n->((ec (jr n wd Q).length (r:Int)).bind λx=>(jr n wd Q)[x]?).bind jj=bQ (.T,[.int (wd r:Nat),.int (wd r:Nat),.tup (jc (wd r) (wd r)<|Q r)]):=λQ {r} O=>by rw[Yf,j6,UJ O];show((MO n).map _)[r]?.bind jj=_;rw[NC,Pd O];rfl
 let γ:Cell->Cell->Ctx:=λb a=>[.val (.int p),.val<|.lst W,.val<|.lst<|jr n wd Q,.val<|.lst<|jr n wd Q',b,a];obtain⟨γ1,G,b,a,rfl⟩:=jV (T:= .nm 4) (F:=lL) (f:=xY<|zh 1) (λ_ γ'=>∃b a,γ'=γ b a) n ⋯ (γ:=γ .no .no) (by
  show bQ (D.int (W.length:Int))=_;rw[u]) ⟨.no,.no,rfl⟩ (by
  rintro s d γ' ⟨b,a,rfl⟩;have q:=C s;have U:wd s<=lim:=by omega
  let S:=Cell.val<|.int (s:Int);let I:=jl (wd s) (wd s) i3;refine⟨γ S a,γ S<|.val<|.lst I,rfl,?_,_,_,rfl⟩;have H:=X7 (h:=wd s) (n:=wd s) (w:=wd s) (f:=Q s) (g:=Q' s) Y Z q q q (Kw _ _ _) (Kw _ _ _)<|λi k _ _=>J _ i k;have x1 : ∀a,cq (zG<|cq (zh 2)<|zf 4) (zy<|.int 2) (γ S a)=bQ (.tup<|jc (wd s) (wd s)<|Q s):=λa=>by rw[yx,show zG (cq (zh 2)<|zf 4) (γ S a)=_ from o Q d];rfl
  have K : ∀a,cq (zG<|cq (zh 3)<|zf 4) (zy<|.int 2) (γ S a)=bQ (.tup<|jc (wd s) (wd s)<|Q' s):=λa=>by rw[yx,show zG (cq (zh 3)<|zf 4) (γ S a)=_ from o Q' d];rfl
  have x3 : ∀a,cq (zh 1) (zf 4) (γ S a)=bQ (.int (wd s:Int)):=λa=>t d;have z:inR (wd s:Int)=bX:=KC U;have A : ∀{f:CO D} {γ:Ctx},f γ=bQ (.int (wd s:Int))->zS f γ=bQ ((MO<|wd s).map λ(i:Nat)=>D.int (i:Int)):=λ{f γ} h=>by rw[kZ,h];show(if inR (wd s:Int)=bX then bQ (q8 0 (wd s:Int).toNat)else none)=_;rw[UJ z,Oi,j9,jw]
  unfold lL;refine zv (γ':=γ S<|.val<|.lst I) ?_ ?_
  ·have E:zX (.nm 0) jz rF [Cell.no,.val<|.lst W,S] ((MO<|wd s).map λ(i:Nat)=>D.int (i:Int))=bQ I:=by
    show _=bQ (jl (wd s) (wd s) i3);unfold jl;refine zC _ _ λi l=>zD (γ1:=[.val (.int (i:Int)),.val<|.lst W,S]) rfl rfl ?_;have y:cq (zh 1) (zf 2) [Cell.val (.int (i:Int)),.val<|.lst W,S]=bQ (.int (wd s:Int)):=t d;unfold rF;rw[yh,j7,A y];simp only[MW,Nf,Nu,U,if_true];rw[show jn 1 [0] [Cell.val (.int (i:Int)),.val<|.lst W,S]=[Cell.no,.val (.int (i:Int))]from rfl];rw[show zX (.nm 0) jz (bu<|zK gm (zf 1)<|zf 0) [Cell.no,.val (.int (i:Int))] ((MO<|wd s).map λ(j:Nat)=>D.int (j:Int))=bQ (zB (wd s)<|i3 i)by
     rw[jw];refine zC _ _ λj m=>zD rfl rfl ?_;by_cases e:i=j
     ·subst e;simp[i3]
     ·have B : ¬((i:Int)=(j:Int)):=by omega
      simp[i3,e,B]]
    rfl
   unfold AD;rw[yf,yh,j7,A (x3 a)];simp only[MW,Nf,Nu,U,if_true];rw[show jn 1 [1,4] (γ S a)=[Cell.no,.val<|.lst W,S]from rfl,E];rfl
  ·have g:rG (γ S<|.val<|.lst I)=bQ (.lst I):=by
    unfold rG;rw[yh,Zv,jx,jx,jx,jx,x1,K,x3];show(((jG [.int p,.tup<|jc (wd s) (wd s)<|Q s,.tup<|jc (wd s) (wd s)<|Q' s,.int (wd s:Int)]).bind oT).map D.lst)=_;rw[H];show bQ (D.lst<|jl (wd s) (wd s)<|mM p (wd s) (Q s)<|Q' s)=_;rw[Kx λi j l m=>L s d i j l m]
   rw[QO,pV,yi,g];show(((eK (.lst I)<|.lst I).bind nz).bind _)=_;rw[ye (XA _)];rfl)
 rw[lJ];exact je<|zv G rfl
end
noncomputable def wB(a b k:Nat):Nat:=if a<=k/\k<=b then 1 else 0
theorem uU:kc=jo 7 (zR FA<|zR (xB 3<|j3 zI)<|zR (yB (zS<|xw<|zf 0) (.nm 4) HN)<|cS 3<|jR<|xH<|zb (zf 2)<|zb (zf 3) zI):=rfl
theorem HJ{m:Nat}{w:UK}(C:m<=5)(a b:Nat):kc [.str (j5 m w),.tup [.int (a:Int),.int (b:Int)]]=bQ (.val<|jf m w (wB a b) λ_ _ _=>1):=by
 have Y:=jg;have wl:=ky m w;have n:=qZ w (show m<=1000 by omega);let X:D:= .tup [.int (a:Int),.int (b:Int)];let W:List D:=zB (m+1) λk=>(wB a b k:Int);let Γ:Cell->Cell->Cell->Cell->Cell->Ctx:=λt u j g h=>[.val (.str<|j5 m w),.val X,t,u,j,g,h];have O : ∀k,wB a b k<=1:=λk=>by unfold wB;split<;>omega
 have P:FA (Γ .no .no .no .no .no)=bQ (.next<|Γ (.val<|.lst W) .no .no .no .no):=by
  have d:zS (zK qu (xw<|zf 0)<|zy<|.int 1) (Γ .no .no .no .no .no)=bQ ((MO<|m+1).map λ(i:Nat)=>D.int (i:Int)):=by
   have r:inR ((m:Int)+1)=bX:=kx ⋯ ⋯;have e:((m:Int)+1).toNat=m+1:=by omega
   simp[Γ,wl,n,r,e,j9,jw]
  have l:zX (.nm 0) jz HM [Cell.no,.val X] ((MO<|m+1).map λ(i:Nat)=>D.int (i:Int))=bQ W:=by show _=bQ (zB (m+1) λk=>(wB a b k:Int));unfold zB;refine zC _ _ λk I=>zD (γ1:=[.val (.int (k:Int)),.val X]) rfl rfl ?_;unfold HM;by_cases L:a<=k<;>by_cases M:k<=b<;>simp[X,ec,L,M,wB,lp,dI]
  have U:((MO<|m+1).map λ(i:Nat)=>D.int (i:Int)).length<=lim:=by simp;omega
  unfold FA;rw[yf,yh,j7,d,MW,UJ U,show jn 1 [1] (Γ .no .no .no .no .no)=[Cell.no,.val X]from rfl,l];rfl
 have J:W.length=m+1:=qM _ _;have p : ∀{r:Nat},r<m+1->((ec W.length (r:Int)).bind λk=>W[k]?)=bQ (.int (wB a b r:Int)):=λ{r} o=>by rw[J,j6,UJ o];exact yu o _
 obtain⟨γ',Q,j,g,h,rfl⟩:=jV (T:= .nm 4) (F:=HN) (f:=xw<|zf 0) (λk γ=>∃j g h,γ=Γ (.val<|.lst W) (.own<|jd k w (wB a b) λ_ _ _=>1) j g h) m ⋯ (γ:=Γ (.val<|.lst W) (.own []) .no .no .no) (by simp[Γ,wl,n]) ⟨_,_,_,rfl⟩ (by
  rintro k I γ ⟨j,g,h,rfl⟩;have A:=yt (w:=w) I;have s:=yw (w:=w) I;have y:=xS (w:=w) C I;let B:=Cell.val<|.int (zM w k:Int);let E:=Cell.val<|.int (zO w k:Int);let z:=Cell.val<|.int (k:Int);refine⟨Γ (.val<|.lst W) (.own<|jd k w (wB a b) λ_ _ _=>1) z g h,Γ (.val<|.lst W) (.own<|jd (k+1) w (wB a b) λ_ _ _=>1) z B E,rfl,?_,_,_,_,rfl⟩;refine zv (γ':=Γ (.val<|.lst W) (.own<|jd k w (wB a b) λ_ _ _=>1) z B E) (by simp[Γ,y,z,B,E]) ?_;have d:zS (cq (zh 2)<|zf 6) (Γ (.val<|.lst W) (.own<|jd k w (wB a b) λ_ _ _=>1) z B E)=bQ ((MO<|wB a b<|zO w k).map λ(i:Nat)=>D.int (i:Int)):=by have:=O<|zO w k;have r:inR (wB a b (zO w k):Int)=bX:=kx ⋯ ⋯;rw[kZ,show cq (zh 2) (zf 6) (Γ (.val<|.lst W) (.own<|jd k w (wB a b) λ_ _ _=>1) z B E)=_ from p A];show(if inR (wB a b (zO w k):Int)=bX then bQ (q8 0 (wB a b (zO w k):Int).toNat)else none)=_;rw[UJ r,Oi,j9,jw]
  have l:zX (.nm 0) jz HK [Cell.no,.val<|.lst W,B] ((MO<|wB a b<|zO w k).map λ(i:Nat)=>D.int (i:Int))=bQ (jl (wB a b<|zO w k) (wB a b<|zM w k) λ_ _=>1):=by
   unfold jl;refine zC _ _ λi S=>zD (γ1:=[.val (.int (i:Int)),.val<|.lst W,B]) rfl rfl ?_;have G:cq (zh 1) (zf 2) [Cell.val (.int (i:Int)),.val<|.lst W,B]=bQ (.int (wB a b (zM w k):Int)):=p s;have H:1<=lim:=by omega
   have:=O<|zM w k;have r:inR (wB a b (zM w k):Int)=bX:=kx ⋯ ⋯;have K:wB a b (zM w k)<=lim:=by omega
   unfold HK;rw[yh,iK,G];have N:MV (wB a b<|zM w k) (D.int 1)=zB (wB a b<|zM w k) λ_=>1:=by unfold zB;rw[List.map_const',Nu]
   simp[r,H,K,N]
  have U:((MO<|wB a b<|zO w k).map λ(i:Nat)=>D.int (i:Int)).length<=lim:=by have:=O<|zO w k;simp;omega
  have x:HL (Γ (.val<|.lst W) (.own<|jd k w (wB a b) λ_ _ _=>1) z B E)=bQ (jl (wB a b<|zO w k) (wB a b<|zM w k) λ_ _=>1):=by unfold HL;rw[j7,d,MW,UJ U];exact l
  have R:(jd k w (wB a b) λ_ _ _=>1).length<lim:=by simp[jd];omega
  rw[yI,yh,x];show(if (jd k w (wB a b) λ_ _ _=>1).length<lim then bQ (Fl.next<|Γ (.val<|.lst W) (.own<|(jd k w (wB a b) λ_ _ _=>1)++[.lst (jl (wB a b<|zO w k) (wB a b<|zM w k) λ_ _=>1)]) z B E)else none)=_;rw[UJ R,qe w (wB a b) k,qk w (wB a b) k];have e:(jd k w (wB a b) λ_ _ _=>1)++[.lst (jl (eh w (wB a b) k) (d8 w (wB a b) k) λ_ _=>1)]=jd (k+1) w (wB a b) λ_ _ _=>1:=by unfold jd;rw[NT,NF];rfl
  rw[e])
 rw[uU];have Z:2<=lim:=by omega
 refine je<|zv (γ':=Γ (.val<|.lst W) .no .no .no .no) P<|zv (γ':=Γ (.val<|.lst W) (.own []) .no .no .no) rfl<|zv Q ?_;rfl
theorem sP:qj=jo 9 (zR (xB 5<|j3 zI)<|zR (yB (zS<|xw<|zf 2) (.nm 6) GA)<|v9 5):=rfl
theorem Bg{C:List Int}(L:C.length<=63){p few:Int}(O:0<p)(J:p<10){m:Nat}(S:m<=4)(w:UK){wd:UX}(U : ∀k,wd k<=9) : ∃T,(∀k i j,0<=T k i j/\T k i j<p)/\qj [yd C,.int p,.str<|j5 m w,.lst<|zB (m+1) λk=>(wd k:Int),.int few]=bQ (.own<|jd m w wd T):=by
 have Q:=jg;have wl:=ky m w;have n:=qZ w (show m<=1000 by omega);let T:Nat->Nat->Nat->Int:=λk=>z7 C (55+9*(k:Int)) p few<|d8 w wd k;refine⟨T,λk i j=>Xo O,?_⟩;let W:List D:=zB (m+1) λk=>(wd k:Int);let Γ:Cell->Cell->Cell->Cell->Ctx:=λs g a b=>[.val (yd C),.val<|.int p,.val<|.str<|j5 m w,.val<|.lst W,.val<|.int few,s,g,a,b];have A:W.length=m+1:=qM _ _;have l : ∀{r:Nat},r<m+1->((ec W.length (r:Int)).bind λk=>W[k]?)=bQ (.int (wd r:Int)):=λ{r} h=>by rw[A,j6,UJ h];exact yu h _
 obtain⟨γ',M,g,a,b,rfl⟩:=jV (T:= .nm 6) (F:=GA) (f:=xw<|zf 2) (λk γ=>∃g a b,γ=Γ (.own<|jd k w wd T) g a b) m ⋯ (γ:=Γ (.own []) .no .no .no) (by simp[Γ,wl,n]) ⟨_,_,_,rfl⟩ (by
  rintro k I γ ⟨g,a,b,rfl⟩;have y:=yt (w:=w) I;have o:=yw (w:=w) I;have x:=xS (w:=w) (show m<=5 by omega) I;have Ux:eh w wd k<=10:=by rw[<- qe];have:=U<|zO w k;omega
  have d_:d8 w wd k<=10:=by rw[<- qk];have:=U<|zM w k;omega
  have N:=dq L (t:=55+9*(k:Int)) (p:=p) (few:=few) ⋯ ⋯ O J Ux d_;let B:=Cell.val<|.int (zM w k:Int);let E:=Cell.val<|.int (zO w k:Int);let z:=Cell.val<|.int (k:Int);refine⟨Γ (.own<|jd k w wd T) z a b,Γ (.own<|jd (k+1) w wd T) z B E,rfl,?_,_,_,_,rfl⟩;refine zv (γ':=Γ (.own<|jd k w wd T) z B E) (by simp[Γ,x,z,B,E]) ?_;have G:cq (zh 3) (zf 8) (Γ (.own<|jd k w wd T) z B E)=bQ (.int (eh w wd k:Int)):=by rw[<- qe];exact l y
  have H:cq (zh 3) (zf 7) (Γ (.own<|jd k w wd T) z B E)=bQ (.int (d8 w wd k:Int)):=by rw[<- qk];exact l o
  have u:ZT 9 (k:Int)=bX:=vG _ _ ⋯ ⋯;have K:zK qu (zy<|.int 55) (zK yD (zy<|.int 9)<|zf 6) (Γ (.own<|jd k w wd T) z B E)=bQ (.int<|55+9*(k:Int)):=by simp[Γ,z,u]
  have P:(jd k w wd T).length<lim:=by simp[jd];omega
  rw[yI,yh,Zv,jx,jx,jx,jx,jx,jx,G,H,K];show((((qf [yd C,.int<|55+9*(k:Int),.int p,.int (eh w wd k:Int),.int (d8 w wd k:Int),.int few]).bind oT).map D.lst).bind λd=>if (jd k w wd T).length<lim then bQ (Fl.next<|Γ (.own<|jd k w wd T++[d]) z B E)else none)=_;rw[N];show(if (jd k w wd T).length<lim then bQ (Fl.next<|Γ (.own<|jd k w wd T++[.lst (jl (eh w wd k) (d8 w wd k)<|T k)]) z B E)else none)=_;rw[UJ P];have e:jd k w wd T++[.lst (jl (eh w wd k) (d8 w wd k)<|T k)]=jd (k+1) w wd T:=by unfold jd;rw[NT,NF];rfl
  rw[e])
 rw[sP];exact je<|zv (γ':=Γ (.own []) .no .no .no) rfl<|zv M rfl
section
variable{p:Int}{m:Nat}{w:UK}{wd wd1 wd2:UX}{T T1 T2:UW}{K K1 K2:List (Int×Int)}{F1 G1 F2 G2:UW}
theorem sk(C:Pr p)(L : ∀k i j,0<=T1 k i j/\T1 k i j<p){e x:Nat}(J:e<off (eh w wd2) (d8 w wd1) m)(hx:x<off wd2 wd1 (m+1)):0<=wb p m w wd1 wd2 T1 T2 e x/\wb p m w wd1 wd2 T1 T2 e x<p:=by
 have s:=C.pos;obtain⟨k,i,j,r,b,U,rfl⟩:=mJ _ _ J;rw[WQ r b U];rw[<- qe]at b;rw[<- qk]at U;have two:=C.two;unfold wa;have n : ∀z,z<wd1 (zO w k)->x=off wd2 wd1 (zO w k)+i*wd1 (zO w k)+z->zg (λt=>T1 k t j*xm x (off wd2 wd1 (zO w k)+i*wd1 (zO w k)+t)) (wd1<|zO w k)=T1 k z j:=λz O a=>by rw[zN O λt _ f=>by unfold xm;rw[UY ⋯,NK]];unfold xm;rw[UJ a,OL]
 have UI:(∀t,t<wd1 (zO w k)->x≠off wd2 wd1 (zO w k)+i*wd1 (zO w k)+t)->zg (λt=>T1 k t j*xm x (off wd2 wd1 (zO w k)+i*wd1 (zO w k)+t)) (wd1<|zO w k)=0:=λd=>by rw[zw (g:=λ_=>0) λt I=>by unfold xm;rw[UY (d t I),NK],zH]
 have o : ∀z,z<wd2 (zM w k)->x=off wd2 wd1 (zM w k)+j+z*wd1 (zM w k)->zg (λt=>((0 - T2 k i t)%p)*xm x (off wd2 wd1 (zM w k)+j+t*wd1 (zM w k))) (wd2<|zM w k)=(0 - T2 k i z)%p:=λz O a=>by
  rw[zN O λt _ f=>by unfold xm;rw[UY,NK];intro q;rw[a]at q;exact f (Nat.eq_of_mul_eq_mul_right (Nat.lt_of_le_of_lt (OD _) U) (Ts q).symm)]
  unfold xm;rw[UJ a,OL]
 have R6:(∀t,t<wd2 (zM w k)->x≠off wd2 wd1 (zM w k)+j+t*wd1 (zM w k))->zg (λt=>((0 - T2 k i t)%p)*xm x (off wd2 wd1 (zM w k)+j+t*wd1 (zM w k))) (wd2<|zM w k)=0:=λd=>by rw[zw (g:=λ_=>0) λt I=>by unfold xm;rw[UY (d t I),NK],zH]
 by_cases h : ∃t,t<wd1 (zO w k)/\x=off wd2 wd1 (zO w k)+i*wd1 (zO w k)+t
 ·obtain⟨z,O,a⟩:=h
  rw[n z O a,R6 λt I q=>WT (wd1:=wd1) (wd2:=wd2) (Et w k) b O I U (by rw[<- a];exact q),Int.add_zero];exact L k z j
 ·rw[UI λt I q=>h ⟨t,I,q⟩,Int.zero_add]
  by_cases l : ∃t,t<wd2 (zM w k)/\x=off wd2 wd1 (zM w k)+j+t*wd1 (zM w k)
  ·obtain⟨z,O,a⟩:=l
   rw[o z O a];exact⟨NM _ ⋯,Nx _ s⟩
  ·rw[R6 λt I q=>l ⟨t,I,q⟩]
   omega
theorem aC(z:Pr p)(L:m<=3)(C : ∀k,wd1 k<=4)(J : ∀k,wd2 k<=4)(I:u5 p m w wd1 K1 T1 F1 G1)(O:u5 p m w wd2 K2 T2 F2 G2):qC [.int p,.str<|j5 m w,jf m w wd1 T1,jf m w wd2 T2]=bQ (.val<|.int<|xK<|K1.map λb=>xK<|K2.map λc=>g8 w b c):=by have l:=jg;have j:off wd2 wd1 (m+1)<=64:=NZ (fK J C<|m+1) ⋯;have hR:off (eh w wd2) (d8 w wd1) m<=48:=NZ (fK (a:=4) (b:=4) (λk=>by rw[<- qe];exact J _) (λk=>by rw[<- qk];exact C _) m) ⋯;have sq:=dA (w:=w) (wd1:=wd1) (wd2:=wd2) (T1:=T1) (T2:=T2) z (show m<=5 by omega) (λk=>by have:=C k;omega) (λk=>by have:=J k;omega) ⋯ ⋯;obtain⟨r,U,d⟩:=Bu (f:=wb p m w wd1 wd2 T1 T2) z (show off (eh w wd2) (d8 w wd1) m<=200 by omega) (show off wd2 wd1 (m+1)<=200 by omega) λe x g h=>sk z I.pp.rg g h;have i:=Ed z I O U;generalize jl (off (eh w wd2) (d8 w wd1) m) (off wd2 wd1<|m+1) (wb p m w wd1 wd2 T1 T2)=X at *;generalize xK (K1.map λb=>xK<|K2.map λc=>g8 w b c)=c at *;clear I O U;generalize jf m w wd1 T1=U1 at *;generalize jf m w wd2 T2=U2 at *;unfold qC;refine je<|zv (γ':=[.val (.int p),.val<|.str<|j5 m w,.val U1,.val U2,.val<|.int (off wd2 wd1 (m+1):Int),.val (.lst X)]) (by simp[z9,sq]) ?_;simp[d];omega
noncomputable def t6(m:Nat)(wd:UX)(k:Nat):Nat:=if k<=m then wd k else 0
theorem fM:jf m w wd T=jf m w (t6 m wd) T:=by
 unfold jf;have a:(zB (m+1) λk=>(wd k:Int))=zB (m+1) λk=>(t6 m wd k:Int):=cH λx b=>by unfold t6;rw[UJ ⋯]
 have I:jd m w wd T=jd m w (t6 m wd) T:=by unfold jd;refine Nj λk z=>?_;have z:=MR.mp z;rw[<- qe,<- qk,<- qe,<- qk];unfold t6;rw[UJ (XO z),UJ (XT z)]
 rw[a,I]
theorem fD(C:Pr p)(J : ∀k,wd k<=8)(L:m<=5)(U : ∀k i j,0<=T k i j/\T k i j<p) : ∃K F G,u5 p m w wd K T F G/\vZ K=K:=by
 obtain⟨d,a,g,E,I,cnt,l,t,x⟩:=Vt (T:=T) (w:=w) C J L λk i j _ _ _=>U k i j;have B : ∀j,j<d->1<=(a j).n:=λj z=>(I j z).n1;have e : ∀r,r<=m->md (ki a d) r=wd r:=λr O=>by unfold md;rw[kG B,cnt _ O]
 refine⟨ki a d,λr=>xI a d r,g,⟨⟨λr O=>?_,x,λk h i j f z=>?_,U⟩,λb o=>?_,e,by unfold ki;rw[Nf,Nu];omega⟩,t⟩
 ·obtain⟨u1,u2,u3⟩:=l r ⋯
  refine⟨λi j f z=>?_,λi j _ _=>u3 i j,u1,u2⟩;have u:j<(f6 a d r).length:=by rw[cnt r ⋯];exact z
  obtain⟨y,A⟩:=KB u;exact(I _ y).h9 r i A f
 ·rw[aU C I cnt (λr O=>(l r O).1) h f z (U k i j),WG,e _<|XT h,e _ (XO h)]
 ·unfold ki at o
  obtain⟨j,z,rfl⟩:=Nq.mp o;have:=(I j<|MR.mp z).n1;have:=(I j<|MR.mp z).le;exact⟨by show(0:Int)<=((a j).s:Int);omega,by show((a j).s:Int)<=(((a j).s+(a j).n - 1:Nat):Int);omega,by show(((a j).s+(a j).n - 1:Nat):Int)<_;omega⟩
theorem Mo(O:Pr p)(C:m<=5){a b:Nat}(J:a<=b)(L:b<=m) : ∃wd T F G,(∀k,wd k<=1)/\jf m w (wB a b) (λ_ _ _=>1)=jf m w wd T/\u5 p m w wd [((a:Int),(b:Int))] T F G:=by
 have two:=O.two;let bs:List (Int×Int):=[((a:Int),(b:Int))];have st : ∀x∈bs,yj ((m+1:Nat):Int) x:=λx e=>by rw[Pf.mp e];exact⟨by show(0:Int)<=(a:Int);omega,by show(a:Int)<=(b:Int);omega,by show(b:Int)<_;omega⟩
 have g:wB a b=bW bs:=by
  funext k;rw[oA st];show _=List.countP _ [((a:Int),(b:Int))];rw[List.countP_singleton];unfold wB;by_cases q:a<=k/\k<=b
  ·rw[UJ q,UJ (by simp;omega)]
  ·rw[UY q,UY (by simp;omega)]
 have U : ∀k,bW bs k<=1:=λk=>HF bs k;have h : ∀k i j,0<=bT w bs k i j/\bT w bs k i j<p:=λk i j=>by unfold bT pB;split<;>omega
 obtain⟨F,G,P⟩:=tX O (λk=>by have:gb (bS bs) (bE bs) bs.length k<=1:=U k;omega) C h<|nE (p:=p) (w:=w) (m:=m) O λj I=>(iD st I).2;rw[nD st]at P;have l:vZ bs=bs:=List.perm_singleton.mp<|ZC bs;rw[l]at P;refine⟨bW bs,bT w bs,F,G,U,?_,P,st,λr o=>?_,by show 1<=48;omega⟩
 ·rw[g]
  unfold jf;congr 3;unfold jd;refine congrArg D.lst<|Nj λk n=>?_;refine congrArg D.lst ?_;refine Kx λi j f I=>?_;rw[<- qe]at f;rw[<- qk]at I;have one : ∀{r x d:Nat},x<bW bs r->(j4 (bS bs) (bE bs) bs.length r).getD x d=0:=λ{r x d} e=>by have e:x<(j4 (bS bs) (bE bs) bs.length r).length:=e;rw[MU,MS e];have:=Od e;unfold j4 f6 at this;have:=MR.mp (Nd.mp this).1;show(j4 (bS bs) (bE bs) bs.length r)[x]=0;unfold j4 f6;have z:bs.length=1:=rfl;omega
  unfold bT pB;rw[one f,one I,UJ rfl]
 ·unfold md
  rw[mI st];rfl
end
section
variable{p:Int}{m:Nat}{w:UK}{wd wd1 wd2:UX}{T T1 T2:UW}{K K1 K2:List (Int×Int)}{F1 G1 F2 G2:UW}
theorem IV : ∀(U:D) (z:List D) (γ:Ctx),jj U=bQ (.T,z)->z.length=3\/z.length=5->γ[0]? = bQ (.val U)->sB (yK (xY<|zh 0)<|js<|j3<|zb (zy<|.int 3)<|zb (zy<|.int 5) zI) γ=bQ cE:=λU z γ a b I=>by
 have d:2<=lim:=by have:=jg;omega
 have e:xY (zh 0) γ=bQ (.int (z.length:Int)):=by rw[pS,xD,I];show((jj U).map _)=_;rw[a];rfl
 have O:js (j3<|zb (zy<|.int 3)<|zb (zy<|.int 5) zI) γ=bQ (.L,[.int 3,.int 5]):=by simp[d]
 unfold yK;rw[pV];show(Option.bind (xY (zh 0) γ) _).bind nz=_;rw[e,MW,O];rcases b with q | q<;>rw[q]<;>rfl
theorem mn(L:Pr p)(S:m<=5)(U : ∀k,wd k<=60)(J:G8 p m w wd K T1 F1 G1)(C:G8 p m w wd K T2 F2 G2) : ∃d,y6 [qO p m w wd T1,qO p m w wd T2]=bQ (.val d)/\jS [d,.int p,.str<|j5 m w,jf m w wd T1,jf m w wd T2]=bQ (.val<|.bl bX):=by
 have R:=jg;have O:=L.pos;have two:=L.two;have g:=L.le;have y:=Ag O g (show m<=50 by omega) U (λk i j z b I=>(J.pr k z).bg i j b I) (λk i j z b I=>(C.pr k z).bg i j b I) J.eb C.eb;refine⟨_,y,?_⟩;let Q:Nat->Nat->Nat->Int:=λk=>mM p (wd k) (F2 k)<|G1 k;let Q':Nat->Nat->Nat->Int:=λk=>mM p (wd k) (F1 k)<|G2 k;have h : ∀k i j,0<=Q k i j/\Q k i j<p:=λk i j=>V2 O _ _ _ i j;have r : ∀k i j,0<=Q' k i j/\Q' k i j<p:=λk i j=>V2 O _ _ _ i j;have f : ∀k,wd k<=100:=λk=>by have:=U k;omega
 have N:=ZZ (p:=p) (n:=m+1) ⋯ (hs:=wd) (ws:=wd) f f (X:=Q) h;have P:=ZZ (p:=p) (n:=m+1) ⋯ (hs:=wd) (ws:=wd) f f (X:=Q') r;have t:=W4 (w:=w) (T1:=T1) (T2:=T2) (Q:=Q) O g S U h C.rg λk z i j b I=>by have e:=yt (w:=w) z;have o:=yw (w:=w) z;exact YH two (J.pr _ e).gf (C.pr _ o).gf (λi k b z=>(C.pr _ e).bf i k b z) (J.et k z) (C.et k z) b I
 have x:=W4 (w:=w) (T1:=T2) (T2:=T1) (Q:=Q') O g S U r J.rg λk z i j b I=>by have e:=yt (w:=w) z;have o:=yw (w:=w) z;exact YH two (C.pr _ e).gf (J.pr _ o).gf (λi k b z=>(J.pr _ e).bf i k b z) (C.et k z) (J.et k z) b I
 have u:=lH (n:=m+1) (wd:=wd) (Q:=Q) (Q':=Q') O g ⋯ U h (λk z i j b I=>VC two (J.pr k z).gf (C.pr k z).fg (λi F b A=>(C.pr k z).bf i F b A) b I);have B:jC [.lst (jr (m+1) wd Q),.int p,.lst (zB (m+1) λk=>(wd k:Int)),.lst (zB (m+1) λk=>(wd k:Int))]=bQ (.val (.bl bX)):=N;have as:jC [.lst (jr (m+1) wd Q'),.int p,.lst (zB (m+1) λk=>(wd k:Int)),.lst (zB (m+1) λk=>(wd k:Int))]=bQ (.val (.bl bX)):=P;show jS [.tup [.str "alike",.lst (jr (m+1) wd Q),.lst (jr (m+1) wd Q')],.int p,.str (j5 m w),jf m w wd T1,jf m w wd T2]=_;generalize jr (m+1) wd Q=X at *;generalize jr (m+1) wd Q'=X' at *;have l:jj (jf m w wd T1)=bQ (.T,[.lst (zB (m+1) λk=>(wd k:Int)),.lst (jd m w wd T1)]):=rfl;have s:jj (jf m w wd T2)=bQ (.T,[.lst (zB (m+1) λk=>(wd k:Int)),.lst (jd m w wd T2)]):=rfl;have H:eK (.str "alike") (.str "alike")=bQ (.bl cE):=ye ⋯;have E:gm (.str "alike") (.str "apart")=bQ (.bl cE):=by unfold gm;rw[UJ ⟨by decide +kernel,by decide +kernel⟩];rfl
 have M:eK (.lst (zB (m+1) λk=>(wd k:Int))) (.lst (zB (m+1) λk=>(wd k:Int)))=bQ (.bl cE):=ye (W8 _ _);generalize jf m w wd T1=U1 at *;generalize jf m w wd T2=U2 at *;let a:Ctx:=[.val (.tup [.str "alike",.lst X,.lst X']),.val (.int p),.val (.str (j5 m w)),.val U1,.val U2,.no,.no];have ty:aw Ty.tuple (.tup [.str "alike",.lst X,.lst X'])=bX:=rfl;have G:=IV (.tup [.str "alike",.lst X,.lst X']) [.str "alike",.lst X,.lst X'] a rfl (.inl rfl) rfl;unfold jS;refine je (zv (γ':=a) ?_ (zv (γ':=a) ?_ (zv (γ':=a) ?_ (zv (γ':=a) (by simp[a,ec,l,s,B,as]) (zv (γ':=a) (by simp[a,ec,t,x]) ?_)))))
 ·show fy _ _ _ a=_
  rw[QO,Vv,show jX (sB<|lr .tuple<|zf 0) a=bQ cE by simp[a,ty]];show(sB (yK (xY<|zh 0)<|js<|j3<|zb (zy<|.int 3)<|zb (zy<|.int 5) zI) a).bind _=_;rw[G];rfl
 ·rw[QO,show sB (zK gm (cq (zh 0) (zy (.int 0))) (zy (.str "apart"))) a=bQ cE by simp[a,ec,E]]
  rfl
 ·simp[a,ec,H,l,s,M]
 ·simp[a,ec,l,u]
theorem mm(O:Pr p)(C:m<=3)(J : ∀k,wd1 k<=4)(S : ∀k,wd2 k<=4)(z:u5 p m w wd1 K1 T1 F1 G1)(I:u5 p m w wd2 K2 T2 F2 G2)(Y:K1≠K2)(Z : ¬K1.Perm K2) : ∃d,y6 [qO p m w wd1 T1,qO p m w wd2 T2]=bQ (.val d)/\jS [d,.int p,.str<|j5 m w,jf m w wd1 T1,jf m w wd2 T2]=bQ (.val<|.bl bX):=by
 have R:=jg;have Q:=z.le;have iW:=I.le;obtain⟨⟨s,B⟩,t,U⟩:=uF (w:=w) z.st I.st Z;have x:=uZ (w:=w) (show m<=5 by omega) z.st I.st ⋯ ⋯ B U;refine⟨_,Af (show m<=5 by omega) z.pp.eb I.pp.eb Y x,?_⟩;have mt:=List.mem_of_find?_eq_some U;have M:=List.find?_some U;obtain⟨h,X⟩:=DO.mp mt;obtain⟨wd,T,F,G,a,u,e⟩:=Mo (w:=w) O (show m<=5 by omega) h (show t.2<=m by omega);have f:=HJ (w:=w) (show m<=5 by omega) t.1 t.2;rw[u]at f;have f1:=aC O C J (λk=>by have:=a k;omega) z e;have f2:=aC O C S (λk=>by have:=a k;omega) I e;have one : ∀L:List (Int×Int),(L.map λb=>xK<|[((t.1:Int),(t.2:Int))].map λc=>g8 w b c)=L.map λb=>g8 w b (zP t):=λL=>Nj λb _=>by show g8 w b (zP t)+0=_;omega
 rw[one]at f1 f2;have K : ¬xK (K1.map λb=>g8 w b<|zP t)=xK (K2.map λb=>g8 w b<|zP t):=by simpa[lj]using M
 generalize xK (K1.map λb=>g8 w b (zP t))=n1 at *;generalize xK (K2.map λb=>g8 w b (zP t))=n2 at *;clear e z I;generalize jf m w wd T=UB at *;generalize jf m w wd1 T1=U1 at *;generalize jf m w wd2 T2=U2 at *;let A:=Lx K1 K2 s t;let γ:Cell->Cell->Ctx:=λn o=>[.val A,.val (.int p),.val (.str (j5 m w)),.val U1,.val U2,n,o];have q:jj A=bQ (.T,[.str "apart",kD s,.int (K1.count (zP s):Nat),.int (K2.count (zP s):Nat),kD t]):=rfl;have ty:aw Ty.tuple A=bX:=rfl;have W:eK (.int ((5:Nat):Int)) (.int 5)=bQ (.bl cE):=rfl;have y:gm (.str "apart") (.str "apart")=bQ (.bl bX):=om ⋯;have E:=IV A _ (γ .no .no) q (.inr rfl) rfl;have wl:=ky m w;have i:=qZ w (show m<=1000 by omega);unfold jS;refine je (zv (γ':=γ .no .no) ?_ (Yu ?_))
 ·show fy _ _ _ (γ .no .no)=_
  rw[QO,Vv,show jX (sB<|lr .tuple<|zf 0) (γ .no .no)=bQ cE by simp[γ,ty]];show(sB (yK (xY<|zh 0)<|js<|j3<|zb (zy<|.int 3)<|zb (zy<|.int 5) zI)<|γ .no .no).bind _=_;rw[E];rfl
 ·rw[QO,show sB (zK gm (cq (zh 0) (zy (.int 0))) (zy (.str "apart"))) (γ .no .no)=bQ bX by simp[γ,q,ec,y]]
  rw[MW,UJ rfl];have H:jF 5 (cq (zh 0)<|dR<|zy<|.int 1) (γ .no .no)=bQ (.next<|γ (.val<|kD t) .no):=rfl;have g:jj (kD t)=bQ (.T,[.int (t.1:Int),.int (t.2:Int)]):=rfl;have j:aw Ty.tuple (kD t)=bX:=rfl;have g1:(0:Int)<=(t.1:Int):=by omega
  have g2:(t.1:Int)<=(t.2:Int):=by omega
  have g3:(t.2:Int)<=(m:Int):=by omega
  have r:sB (JT lp lp lp (zy<|.int 0) (cq (zh 5)<|zy<|.int 0) (cq (zh 5)<|zy<|.int 1)<|xw<|zf 2) (γ (.val<|kD t) .no)=bQ bX:=by simp[γ,g,ec,wl,i,g1,h];omega
  refine zv H<|zv (γ':=γ (.val<|kD t) .no) ?_ (zv (γ':=γ (.val<|kD t)<|.val UB) ?_ ?_)
  ·have x1:sB (zK eK (xY<|zh 0)<|zy<|.int 5) (γ (.val<|kD t) .no)=bQ cE:=by simp[γ,q]
   have N:jX (sB<|lr .tuple<|zf 5) (γ (.val<|kD t) .no)=bQ cE:=by simp[γ,j]
   have x3:sB (zK eK (xY<|zh 5)<|zy<|.int 2) (γ (.val<|kD t) .no)=bQ cE:=by simp[γ,g]
   have P:jX (sB<|JT lp lp lp (zy<|.int 0) (cq (zh 5)<|zy<|.int 0) (cq (zh 5)<|zy<|.int 1)<|xw<|zf 2) (γ (.val<|kD t) .no)=bQ cE:=by rw[iL,r];rfl
   rw[QO,Vv,x1,Vv,N,Vv,x3,P];rfl
  ·have l:kc [.str (j5 m w),kD t]=bQ (.val UB):=f
   simp[γ,l]
  ·simp[γ,f1,f2,K]
theorem AI(O:Pr p)(L:m<=3)(C : ∀k,wd1 k<=4)(J : ∀k,wd2 k<=4)(Z : ∀k,m<k->wd1 k=0)(z2 : ∀k,m<k->wd2 k=0)(S : ∀k i j,0<=T1 k i j/\T1 k i j<p)(Y : ∀k i j,0<=T2 k i j/\T2 k i j<p):kE [.int p,.str<|j5 m w,jf m w wd1 T1,jf m w wd2 T2]=bQ (.val<|.bl bX):=by
 have t:=jg;obtain⟨K1,F1,G1,z,UP⟩:=fD (w:=w) (wd:=wd1) (T:=T1) O (λk=>by have:=C k;omega) (show m<=5 by omega) S;obtain⟨K2,F2,G2,I,UR⟩:=fD (w:=w) (wd:=wd2) (T:=T2) O (λk=>by have:=J k;omega) (show m<=5 by omega) Y;have s:=z.le;have iW:=I.le;have b:=aL (show m<=5 by omega) z.st I.st ⋯ ⋯ z.pp.eb I.pp.eb;have f:=aL (show m<=5 by omega) I.st z.st ⋯ ⋯ I.pp.eb z.pp.eb;rw[Yj]at b f;have f1:=aC O L C J z I;have f2:=aC O L J C I z;obtain⟨d,x,y⟩ : ∃d,y6 [qO p m w wd1 T1,qO p m w wd2 T2]=bQ (.val d)/\jS [d,.int p,.str<|j5 m w,jf m w wd1 T1,jf m w wd2 T2]=bQ (.val<|.bl bX):=by
  by_cases e:K1=K2
  ·have o:wd1=wd2:=by
    funext k;by_cases q:k<=m
    ·rw[<- z.br k q,<- I.br k q,e]
    ·rw[Z k ⋯,z2 k ⋯]
   subst o e;exact mn O (show m<=5 by omega) (λk=>by have:=C k;omega) z.pp I.pp
  ·exact mm O L C J z I e λr=>e (by rw[<- UP,<- UR,wz r])
 have g:=ay (p:=p) (show m<=4 by omega) w (wd:=wd1) (λk=>by have:=C k;omega) T1;have h:=ay (p:=p) (show m<=4 by omega) w (wd:=wd2) (λk=>by have:=J k;omega) T2;clear z I;generalize qO p m w wd1 T1=U at *;generalize qO p m w wd2 T2=R2 at *;generalize jf m w wd1 T1=U1 at *;generalize jf m w wd2 T2=U2 at *;let a:Cell->Cell->Ctx:=λl n=>[.val (.int p),.val<|.str<|j5 m w,.val U1,.val U2,l,n];unfold kE;refine je<|zv (γ':=a (.val U) .no) (by show jF _ _ (a .no .no)=_;simp[a,g])<|zv (γ':=a (.val U)<|.val R2) (by simp[a,h])<|zv (γ':=a (.val U)<|.val R2) (by simp[a,b,f1])<|zv (γ':=a (.val U)<|.val R2) (by simp[a,f,f2]) ?_;simp[a,x,y]
end
theorem rq:QS=jo 6 (zR rE<|zR rD<|zR rC<|zR rB<|zR rA<|zR da rz):=rfl
theorem Hg(J:List Int)(C:J.length<=63):QS [yd J]=bQ (.val<|.bl bX):=by
 have X:=jg;obtain⟨l,g,b1⟩:=Wm C (k:=0) ⋯ ⋯;generalize vF J 0=c at l g b1;obtain⟨q,e,K,o⟩:=BP g;have f:=e.pos;have Z:=e.le;obtain⟨m,em,N⟩ : ∃m:Nat,1+c/4%4=1+(m:Int)/\m<=3:=⟨(c/4%4).toNat,by omega,by omega⟩;obtain⟨w,L⟩:=AA (c:=c/16) ⋯ (m:=m) ⋯;obtain⟨z,a,d,r,F⟩:=EG C (t:=1) (p:=(q:Int)) (few:=c/512%3) ⋯ ⋯ f ⋯ (show m<=4 by omega) w;obtain⟨O,U,as,s,G⟩:=EG C (t:=50) (p:=(q:Int)) (few:=c/512%3) ⋯ ⋯ f ⋯ (show m<=4 by omega) w;obtain⟨b,u,H⟩:=Bg C (p:=(q:Int)) (few:=c/512%3) f ⋯ (show m<=4 by omega) w (wd:=z) (λk=>by have:=d k;omega);let γ:Cell->Cell->Cell->Cell->Ctx:=λy A B E=>[.val (yd J),.val<|.int c,y,A,B,E];let P:=Cell.val<|.int q;let W:=Cell.val<|.str<|j5 m w;let I:=Cell.val<|jf m w z a;obtain⟨wd2,T2,M,Q,R⟩ : ∃wd2 T2,(∀k,wd2 k<=4)/\(∀k i j,0<=T2 k i j/\T2 k i j<(q:Int))/\da (γ P W I<|.val<|jf m w O U)=bQ (.next<|γ P W I<|.val<|jf m w wd2 T2):=by
  by_cases t:c/4096%2=1
  ·refine⟨z,b,λk=>by have:=d k;omega,u,?_⟩
   have sq:jj (jf m w z a)=bQ (.T,[.lst (zB (m+1) λk=>(z k:Int)),.lst (jd m w z a)]):=rfl;have Y:2<=lim:=by omega
   unfold da;rw[QO,show sB (zK gm (zK yv (zK Jv (zf 1)<|zy<|.int 4096)<|zy<|.int 2)<|zy<|.int 1) (γ P W I<|.val<|jf m w O U)=bQ bX by simp[γ,t]];show jF _ _ (γ P W I<|.val<|jf m w O U)=_;rw[show jf m w z b = .tup [.lst (zB (m+1) λk=>(z k:Int)),.lst (jd m w z b)]from rfl];have x:I = .val (jf m w z a):=rfl;simp[γ,P,W,x,sq,ec,H]
  ·refine⟨O,U,λk=>by have:=as k;omega,s,?_⟩
   unfold da;rw[QO,show sB (zK gm (zK yv (zK Jv (zf 1)<|zy<|.int 4096)<|zy<|.int 2)<|zy<|.int 1) (γ P W I<|.val<|jf m w O U)=bQ cE by simp[γ,t]];rfl
 have nb : ∀(wd:UX) k,(∀k,wd k<=4)->t6 m wd k<=4:=λwd k h=>by unfold t6;have:=h k;split<;>omega
 have n : ∀(wd:UX) k,m<k->t6 m wd k=0:=λwd k h=>by unfold t6;rw[UY ⋯]
 have g1:=AI (w:=w) (wd1:=t6 m z) (wd2:=t6 m wd2) (T1:=a) (T2:=T2) e N (λk=>nb z k λk=>by have:=d k;omega) (λk=>nb wd2 k M) (n z) (n wd2) r Q;rw[<- fM,<- fM]at g1;have S:=jf m w wd2 T2;rw[rq];refine je<|zv (γ':=γ .no .no .no .no) (by simp[rE,z9,l,γ])<|zv (γ':=γ P .no .no .no) (by simp[rD,γ,o,K,P])<|zv (γ':=γ P W .no .no) (by simp[rC,γ,em,L,P,W])<|zv (γ':=γ P W I .no) (by simp[rB,γ,F,I,P,W])<|zv (γ':=γ P W I<|.val<|jf m w O U) (by simp[rA,γ,G,P,W])<|zv R ?_;simp[rz,γ,P,W,I,g1]
open PySem.Spec PyProof.Rows
noncomputable def top(i:Nat):PySem.Stmt:=PySem.Challenge.pw_barsplit_k43_whole_ways_by_bars_and_squa.main.body.getD i<|.Pass ⟨0,0,0,0⟩
section
variable{CR CL:PySem.Addr}{P:PySem.Program}{w:PySem.World}{K:MP}{mg:PySem.Str->Option PySem.Value}{base:PySem.Heap}
theorem Xe(h:us.length=n+1) : ∃a t,us=a::t/\t.length=n:=by
 cases us with
 | nil=>exact absurd h<|Nat.zero_ne_add_one n
 | cons a t=>exact⟨a,t,rfl,Nat.succ.inj h⟩
theorem ML(h:us.length=1) : ∃a,us=[a]:=by obtain⟨a,I,rfl,z⟩:=Xe h;rw[NG z];exact⟨a,rfl⟩
theorem MK(h:us.length=2) : ∃a b,us=[a,b]:=by obtain⟨a,I,rfl,z⟩:=Xe h;obtain⟨b,O,rfl,d⟩:=Xe z;rw[NG d];exact⟨a,b,rfl⟩
theorem MJ(h:us.length=3) : ∃a b c,us=[a,b,c]:=by obtain⟨a,I,rfl,z⟩:=Xe h;obtain⟨b,O,rfl,d⟩:=Xe z;obtain⟨c,U,rfl,e⟩:=Xe d;rw[NG e];exact⟨a,b,c,rfl⟩
theorem MI(h:us.length=4) : ∃a b c d,us=[a,b,c,d]:=by obtain⟨a,O,rfl,z⟩:=Xe h;obtain⟨b,U,rfl,e⟩:=Xe z;obtain⟨c,g,rfl,f⟩:=Xe e;obtain⟨d,i,rfl,I⟩:=Xe f;rw[NG I];exact⟨a,b,c,d,rfl⟩
theorem MH{C:Type}{us:List C}(h:us.length=5) : ∃a b c d e,us=[a,b,c,d,e]:=by obtain⟨a,U,rfl,z⟩:=Xe h;obtain⟨b,i,rfl,f⟩:=Xe z;obtain⟨c,j,rfl,g⟩:=Xe f;obtain⟨d,k,rfl,I⟩:=Xe g;obtain⟨e,l,rfl,O⟩:=Xe I;rw[NG O];exact⟨a,b,c,d,e,rfl⟩
theorem MG{C:Type}{us:List C}(h:us.length=6) : ∃a b c d e f,us=[a,b,c,d,e,f]:=by obtain⟨a,j,rfl,z⟩:=Xe h;obtain⟨b,k,rfl,g⟩:=Xe z;obtain⟨c,l,rfl,i⟩:=Xe g;obtain⟨d,m,rfl,I⟩:=Xe i;obtain⟨e,n,rfl,O⟩:=Xe I;obtain⟨f,o,rfl,U⟩:=Xe O;rw[NG U];exact⟨a,b,c,d,e,f,rfl⟩
structure E0(K:MP)(mg:PySem.Str->Option PySem.Value):Prop where
 Q0:eF K mg "_law_cell" (top 53) ["_law_script","_law_k"]
 Q1:eF K mg "_law_ways" (top 57) ["_law_cell_here","_law_rooms"]
 Q2:eF K mg "_law_ends" (top 55) ["_law_ways_here","_law_k"]
 Q3:eF K mg "_law_table" (top 64) ["_law_script","_law_at","_law_p","_law_high","_law_wide","_law_few"]
 Q4:eF K mg "_law_any" (top 65) ["_law_script","_law_at","_law_p","_law_ways_here","_law_most","_law_few"]
 Q5:eF K mg "_law_handed" (top 60) ["_law_p","_law_ways_here","_law_row"]
 Q6:eF K mg "_law_times" (top 58) ["_law_p","_law_one","_law_other","_law_wide"]
 Q7:eF K mg "_law_undone" (top 69) ["_law_p","_law_widths","_law_there","_law_back"]
 Q8:eF K mg "_law_bar" (top 59) ["_law_ways_here","_law_bar_here"]
 Q9:eF K mg "_law_squares" (top 67) ["_law_p","_law_ways_here","_law_one","_law_other"]
 Qa:eF K mg "_law_rank" (top 66) ["_law_p","_law_rows"]
 Qb:eF K mg "_law_free" (top 68) ["_law_p","_law_ways_here","_law_one","_law_other"]
 Qc:eF K mg "_law_whole" (top 54) ["_law_found"]
 Qd:eF K mg "_law_is_table" (top 61) ["_law_found","_law_p","_law_high","_law_wide"]
 Qe:eF K mg "_law_are_tables" (top 62) ["_law_found","_law_p","_law_highs","_law_wides"]
 Qf:eF K mg "_law_passes" (top 63) ["_law_p","_law_ways_here","_law_one","_law_other","_law_tables"]
 Qg:eF K mg "_law_right" (top 70) ["_law_found","_law_p","_law_ways_here","_law_one","_law_other"]
 Qh:eF K mg "ways_of" (top 36) ["row"]
 Qi:eF K mg "one_kind" (top 37) ["one","other"]
 Qj:eF K mg "ask_one_kind" (top 38) ["one","other"]
 Qk:eF K mg "behind_noughts" (top 15) ["many","base"]
 Ql:eF K mg "rests" (top 5) ["p","numbers"]
 Qm:eF K mg "inverse" (top 6) ["p","x"]
 Qn:eF K mg "cleared" (top 13) ["p","load","pivot","place"]
 Qo:eF K mg "base_of" (top 14) ["p","long","loads"]
 Qp:eF K mg "turned_over" (top 9) ["table"]
 Qq:eF K mg "same_table" (top 10) ["many"]
 Qr:eF K mg "led_into" (top 16) ["p","table","base"]
 Qs:eF K mg "kernel" (top 17) ["p","table"]
 Qt:eF K mg "image" (top 18) ["p","table"]
 Qu:eF K mg "columns" (top 25) ["high","loads"]
 Qv:eF K mg "has_room" (top 23) ["bar","room"]
 Qw:eF K mg "loads_in" (top 24) ["bars","room"]
 Qx:eF K mg "lead_of" (top 12) ["load"]
 Qy:eF K mg "led" (top 7) ["p","table","load"]
 Qz:eF K mg "mixed_load" (top 26) ["row","bars","times","room"]
 g_:eF K mg "mixed" (top 27) ["row","bars","times"]
 h_:eF K mg "settled" (top 28) ["row","k","bars"]
 i':eF K mg "solved" (top 19) ["p","table","load"]
 i_:eF K mg "next_load" (top 29) ["p","arrow","load"]
 j':eF K mg "taken_on" (top 30) ["p","arrow","bar"]
 j_:eF K mg "new_loads" (top 31) ["p","arrow"]
 k_:eF K mg "grown" (top 32) ["row","k","bars"]
 l_:eF K mg "stretch_of" (top 22) ["bar"]
 m_:eF K mg "all_grown" (top 33) ["row"]
 n_:eF K mg "back_of" (top 20) ["p","table"]
 o_:eF K mg "barred" (top 34) ["row"]
 p_:eF K mg "left_holds" (top 40) ["ways","one","other"]
 q_:eF K mg "right_holds" (top 41) ["ways","one","other"]
 r_:eF K mg "bar_ways" (top 42) ["ways","one","other"]
 s_:eF K mg "ways_into" (top 43) ["ways","bars","bar"]
 t_:eF K mg "count_ways" (top 44) ["one","other"]
 u_:eF K mg "product" (top 8) ["p","one","other"]
 v_:eF K mg "room_by_room" (top 48) ["p","ones","others"]
 w_:eF K mg "stretches_of" (top 46) ["many"]
 x_:eF K mg "are_told_apart" (top 49) ["ways","ones","others","bar"]
 y_:eF K mg "apart" (top 50) ["ways","ones","others"]
 z_:eF K mg "alike" (top 51) ["one","other"]
 A_:eF K mg "_law_told" (top 72) ["_law_p","_law_ways_here","_law_one","_law_other"]
 B_:eF K mg "_law_same_widths" (top 71) ["_law_script","_law_p","_law_ways_here","_law_widths","_law_few"]
 C_:eF K mg "law" (top 73) ["_law_script"]
 Z0:mg "len" = none
 Z1:mg "min" = none
 Z2:mg "range" = none
 Z3:mg "int" = none
 Z4:mg "tuple" = none
 Z5:mg "sum" = none
 Z6:mg "zip" = none
 Z7:mg "list" = none
 Z8:mg "max" = none
 Z9:mg "bool" = none
 Za:mg "isinstance" = none
 Zb:mg "all" = none
 Zc:mg "any" = none
 Zd:mg "enumerate" = none
 Ze:mg "dict" = none
 Zf:mg "sorted" = none
theorem wF(E:E0 K mg):eA P w K mg base 1 "_law_cell" 2 jy:=
 xy (N:=["_law_script","_law_k","_law_cell_here","_law_turn","_law_given"]) E.Q0 ⋯ λX I b O a U z d=>by subst I b O a U;exact by refine ze (jP (JU (eC (WZ (qF z ⋯ E.Z0 (zQ z)) zm) (WW (kO z (qE (zA (zQ z) zm) zm) zm)))) (by refine ze (jB z (zA (zQ z) (jE zm (qE (zx z) (wm (qF z ⋯ E.Z0 (zQ z)) zm))))) ?_;refine ze (qQ d z (jb z ⋯ E.Z2 (eG z ⋯ E.Z1 zm (y9 (zx z) (wm (qF z ⋯ E.Z0 (zQ z)) zm)))) (zu (jB z (y9 (zx z) (eD zm zm))))) ?_;exact(zu (zJ (qE (zx z) (eD zm zm))))) zZ) ?_;refine ze (jB z (zx z)) ?_;refine ze (jP (WZ (qF z ⋯ E.Z0 (zQ z)) zm) (zu (jB z (zA (zQ z) (qE (zx z) (qF z ⋯ E.Z0 (zQ z)))))) zZ) ?_;exact(zu (zJ (qE (q9 (qE (jE (jE (jE (q9 (qE (zx z) (eD zm zm)) zm) (q9 (q9 zm (zx z)) (zx z))) (q9 zm (zx z))) zm) zm) zm) zm)))
theorem J1(E:E0 K mg):eA P w K mg base 1 "_law_ways" 2 xX:=
 xy (N:=["_law_cell_here","_law_rooms"]) E.Q1 ⋯ λX I d O b U z e=>by subst I d O b U;exact zu (zJ (eH kn (PO.q (xn z (g5.c (jb z ⋯ E.Z2 (wm (zx z) zm))) (λ_ _ _ a=>wQ kn (qE (y9 (zx a) (zA (PO.q (xc (ko (za zm (za zm (za zm (za zm (za zm zo)))))))) (zx a))) zm))))))
theorem xN(E:E0 K mg):eA P w K mg base 1 "_law_ends" 2 jW:=
 xy (N:=["_law_ways_here","_law_k"]) E.Q2 ⋯ λX I b O a U z d=>by subst I b O a U;exact by refine ze (jP (kO z (wQ (zx z) (zx z)) kn) (zu (zJ (qa (ko (za (zx z) (za (jE (zx z) zm) zo)))))) zZ) ?_;exact(zu (zJ (qa (ko (za (jE (zx z) zm) (za (zx z) zo))))))
theorem vq(E:E0 K mg):eA P w K mg base 2 "_law_table" 6 qf:=
 xy (N:=["_law_script","_law_at","_law_p","_law_high","_law_wide","_law_few","_law_rows","_law_i","_law_row","_law_j","_law_cell_here"]) E.Q3 ⋯ λX I d O b U z a=>by subst I d O b U;exact by refine ze (ya z (xc (ko zo))) ?_;refine ze (qQ a z (jb z ⋯ E.Z2 (zx z)) (by refine ze (ya z (xc (ko zo))) ?_;refine ze (qQ a z (jb z ⋯ E.Z2 (zx z)) (by refine ze (jB z (zY (wF E) z (za (zx z) (za (jE (jE (zx z) (q9 (zx z) (zx z))) (zx z)) zo)))) ?_;exact(zu (yP 8 z ⋯ (q9 (qE (y9 (zx z) zm) (zx z)) (VJ z ⋯ E.Z3 (GN (qE (y9 (zx z) zm) zm) (zx z)))))))) ?_;exact(zu (JW 8 (yP 6 z ⋯ (zx z)))))) ?_;exact(zu (k9 6 (z.var ⋯)))
theorem w4(E:E0 K mg):eA P w K mg base 3 "_law_any" 6 ym:=
 xy (N:=["_law_script","_law_at","_law_p","_law_ways_here","_law_most","_law_few","_law_widths","_law_tables","_law_k","_law_begin","_law_end"]) E.Q4 ⋯ λX I d O b U z e=>by subst I d O b U;exact by refine ze (jK 6 (vd z (g5.c (jb z ⋯ E.Z2 (jE (yo z ⋯ E.Z0 (zx z)) zm))) (λ_ _ _ a=>qE (y9 (zY (wF E) a (za (zx a) (za (jE (zx a) (zx a)) zo))) zm) (jE (zx a) zm)))) ?_;refine ze (ya z (xc (ko zo))) ?_;refine ze (qQ e z (jb z ⋯ E.Z2 (yo z ⋯ E.Z0 (zx z))) (by refine ze (k8 (oI z) (zY (xN E) z (za (zx z) (za (zx z) zo)))) ?_;exact(zu (yP 7 z ⋯ (PO.v (xZ (vq E) z (za (zx z) (za (jE (jE (zx z) zm) (q9 zm (zx z))) (za (zx z) (za (zA (zQ z) (zx z)) (za (zA (zQ z) (zx z)) (za (zx z) zo)))))))))))) ?_;exact(zu (JW 7 (zJ (qa (ko (za (zx z) (za (zx z) zo)))))))
theorem vb(E:E0 K mg):eA P w K mg base 2 "_law_handed" 3 xG:=
 xy (N:=["_law_p","_law_ways_here","_law_row","_law_widths","_law_tables","_law_arrows","_law_k","_law_begin","_law_end","_law_rows"]) E.Q5 ⋯ λX I d O b U z e=>by subst I d O b U;exact by refine ze (k8 (oI z) (zx z)) ?_;refine ze (ya z (xc (ko zo))) ?_;refine ze (qQ e z (jb z ⋯ E.Z2 (yo z ⋯ E.Z0 (zx z))) (by refine ze (k8 (oI z) (zY (xN E) z (za (zx z) (za (zx z) zo)))) ?_;refine ze (jB z (qP z ⋯ E.Z4 (PO.q (xn z (jk (PV.q (zA (zQ z) (zx z)))) (λ_ _ _ a=>qP a ⋯ E.Z4 (zQ a)))))) ?_;exact(zu (yP 5 z ⋯ (qa (ko (za (wQ (zx z) (zx z)) (za (qa (ko (za (zA (zQ z) (zx z)) (za (zA (zQ z) (zx z)) (za (zx z) zo))))) zo)))))))) ?_;exact(zu (zJ (qa (ko (za (zx z) (za (qP z ⋯ E.Z4 (zQ z)) (za (qP z ⋯ E.Z4 (zQ z)) zo)))))))
theorem kT(E:E0 K mg):eA P w K mg base 1 "_law_times" 4 jG:=
 xy (N:=["_law_p","_law_one","_law_other","_law_wide","_law_rows","_law_row"]) E.Q6 ⋯ λX I e O d U z f=>by subst I e O d U;exact by refine ze (ya z (xc (ko zo))) ?_;refine ze (qQ f z (VO (zx z)) (zu (yP 4 z ⋯ (PO.v (xn z (g5.c (jb z ⋯ E.Z2 (zx z))) (λ_ _ _ a=>qE (WX a ⋯ E.Z5 (PO.q (xn a (g5.c (jb a ⋯ E.Z2 (qF a ⋯ E.Z0 (zQ a)))) (λ_ _ _ b=>q9 (zA (zQ b) (zx b)) (zA (PV.q (zA (zQ b) (zx b))) (zx b)))))) (zx a))))))) ?_;exact(zu (k9 4 (z.var ⋯)))
theorem Ji(E:E0 K mg):eA P w K mg base 2 "_law_undone" 4 xF:=
 xy (N:=["_law_p","_law_widths","_law_there","_law_back","_law_k","_law_same"]) E.Q7 ⋯ λX I e O d U z f=>by subst I e O d U;exact by refine ze (qQ f z (jb z ⋯ E.Z2 (qF z ⋯ E.Z0 (zQ z))) (by refine ze (jK 5 (vd z (g5.c (jb z ⋯ E.Z2 (zA (zQ z) (zx z)))) (λ_ _ _ a=>PO.v (xn a (g5.c (jb a ⋯ E.Z2 (zA (zQ a) (zx a)))) (λ_ _ _ b=>VJ b ⋯ E.Z3 (eJ b (zx b) (zx b))))))) ?_;exact(zu (jP (qU z (PO.v (xZ (kT E) z (za (zx z) (za (zA (PV.q (zA (zQ z) (zx z))) zm) (za (zA (PV.q (zA (zQ z) (zx z))) zm) (za (zA (zQ z) (zx z)) zo)))))) (zx z)) (zu (zJ yO)) zZ)))) ?_;exact(zu (zJ yO))
theorem Ks(E:E0 K mg):eA P w K mg base 2 "_law_bar" 2 kc:=
 xy (N:=["_law_ways_here","_law_bar_here","_law_widths","_law_tables","_law_k","_law_begin","_law_end"]) E.Q8 ⋯ λX I d O b U z e=>by subst I d O b U;exact by refine ze (jK 2 (vd z (g5.c (jb z ⋯ E.Z2 (jE (yo z ⋯ E.Z0 (zx z)) zm))) (λ_ _ _ a=>VJ a ⋯ E.Z3 (Kk VR VR JP JP (zA (zQ a) zm) (zx a) (zA (zQ a) zm))))) ?_;refine ze (ya z (xc (ko zo))) ?_;refine ze (qQ e z (jb z ⋯ E.Z2 (yo z ⋯ E.Z0 (zx z))) (by refine ze (k8 (oI z) (zY (xN E) z (za (zx z) (za (zx z) zo)))) ?_;exact(zu (yP 3 z ⋯ (PO.v (xn z (g5.c (jb z ⋯ E.Z2 (zA (zQ z) (zx z)))) (λ_ _ _ a=>PO.v (fe (xc (ko (za zm zo))) (zA (zQ a) (zx a)))))))))) ?_;exact(zu (JW 3 (zJ (qa (ko (za (zx z) (za (zx z) zo)))))))
theorem ZH(E:E0 K mg):eA P w K mg base 2 "_law_squares" 4 xj:=
 xy (N:=["_law_p","_law_ways_here","_law_one","_law_other","_law_starts","_law_wide","_law_high","_law_rows","_law_k","_law_begin","_law_end","_law_i","_law_j","_law_row","_law_at","_law_t","_law_number"]) E.Q9 ⋯ λX I d O b U z a=>by subst I d O b U;exact by refine ze (ya z (xc (ko (za zm zo)))) ?_;refine ze (qQ a z (wV z ⋯ E.Z6 (zA (zQ z) zm) (zA (zQ z) zm)) (zu (yP 4 z ⋯ (jE (zA (zQ z) (YB zm)) (q9 (zx z) (zx z)))))) ?_;refine ze (ya z (xc (ko zo))) ?_;refine ze (qQ a z (jb z ⋯ E.Z2 (yo z ⋯ E.Z0 (zx z))) (by refine ze (k8 (oI z) (zY (xN E) z (za (zx z) (za (zx z) zo)))) ?_;exact(zu (qQ a z (jb z ⋯ E.Z2 (zA (PV.q (zA (zQ z) zm)) (zx z))) (zu (qQ a z (jb z ⋯ E.Z2 (zA (PV.q (zA (zQ z) zm)) (zx z))) (by refine ze (ya z (fe (xc (ko (za zm zo))) (zA (zQ z) (YB zm)))) ?_;refine ze (jB z (jE (zA (zQ z) (zx z)) (q9 (zx z) (zA (PV.q (zA (zQ z) zm)) (zx z))))) ?_;refine ze (qQ a z (jb z ⋯ E.Z2 (zA (PV.q (zA (zQ z) zm)) (zx z))) (zu (wU 13 z ⋯ (jE (zx z) (zx z)) (zA (PV.q (zA (PV.q (zA (PV.q (zA (zQ z) zm)) (zx z))) (zx z))) (zx z))))) ?_;refine ze (jB z (jE (zA (zQ z) (zx z)) (zx z))) ?_;refine ze (qQ a z (jb z ⋯ E.Z2 (zA (PV.q (zA (zQ z) zm)) (zx z))) (by refine ze (jB z (zA (PV.q (zA (PV.q (zA (PV.q (zA (zQ z) zm)) (zx z))) (zx z))) (zx z))) ?_;exact(zu (wU 13 z ⋯ (jE (zx z) (q9 (zx z) (zA (PV.q (zA (zQ z) zm)) (zx z)))) (qE (wm zm (zx z)) (zx z)))))) ?_;exact(zu (JW 13 (yP 7 z ⋯ (zx z))))))))))) ?_;exact(zu (JW 7 (zJ (qa (ko (za (zA (zQ z) (YB zm)) (za (zx z) zo)))))))
theorem VU(E:E0 K mg):eA P w K mg base 1 "_law_rank" 2 vX:=
 xy (N:=["_law_p","_law_rows","_law_found","_law_place","_law_some","_law_row","_law_over","_law_k","_law_times_here"]) E.Qa ⋯ λX I e O d U z b=>by subst I e O d U;exact by refine ze (W0 1 (vd z (jk (zQ z)) (λ_ _ _ a=>PO.v (ff a ⋯ E.Z7 (zQ a))))) ?_;refine ze (jB z zm) ?_;refine ze (qQ b z (jb z ⋯ E.Z2 (tf z ⋯ E.Z8 (PO.q (Xy (PO.q (xc (ko (za zm zo)))) (PO.q (xn z (jk (zQ z)) (λ_ _ _ a=>qF a ⋯ E.Z0 (zQ a)))))))) (by refine ze (eT 4 1 (mF z (g5.c (wW z ⋯ E.Z2 (zx z) (qF z ⋯ E.Z0 (zQ z)))) (λ_ _ _ a=>qU a (qE (zA (PV.q (zA (zQ a) (zx a))) (zx a)) (zx a)) zm) (λ_ _ _ a=>zx a))) ?_;exact(zu (jP (qU z (zx z) (PO.v (xc (ko zo)))) (by refine ze (tE 5 1 z ⋯ ⋯ (zA (zQ z) zm)) ?_;refine ze (jB z (zA (PO.q (YE z (g5.c (wW z ⋯ E.Z2 zm (zx z))) (λ_ _ _ a=>kO a (qE (q9 (zx a) (zA (zQ a) (zx a))) (zx a)) zm) (λ_ _ _ a=>zx a))) zm)) ?_;refine ze (jK 5 (vd z (jk (zQ z)) (λ_ _ _ a=>qE (q9 (zx a) (zx a)) (zx a)))) ?_;refine ze (tF 1 z ⋯ (zx z) (zx z)) ?_;refine ze (qQ b z (wW z ⋯ E.Z2 (jE (zx z) zm) (qF z ⋯ E.Z0 (zQ z))) (by refine ze (jB z (zA (PV.q (zA (zQ z) (zx z))) (zx z))) ?_;exact(zu (wU 1 z ⋯ (zx z) (PO.v (xn z (g5.c (wV z ⋯ E.Z6 (zA (zQ z) (zx z)) (zx z))) (λ_ _ _ a=>qE (wm (zx a) (q9 (zx a) (zx a))) (zx a)))))))) ?_;exact(zu (jB z (jE (zx z) zm)))) zZ)))) ?_;exact(zu (k9 2 (z.var ⋯)))
theorem xV(E:E0 K mg):eA P w K mg base 3 "_law_free" 4 qC:=
 xy (N:=["_law_p","_law_ways_here","_law_one","_law_other","_law_many","_law_rows"]) E.Qb ⋯ λX I b O a U z d=>by subst I b O a U;exact by refine ze (k8 (oI z) (zY (ZH E) z (za (zx z) (za (zx z) (za (zx z) (za (zx z) zo)))))) ?_;exact(zu (zJ (wm (zx z) (zY (VU E) z (za (zx z) (za (zx z) zo))))))
theorem vp(E:E0 K mg):eA P w K mg base 1 "_law_whole" 1 jN:=
 xy (N:=["_law_found"]) E.Qc ⋯ λX I b O a U z d=>by subst I b O a U;exact zu (zJ (eP (eI z ⋯ E.Za ⋯ E.Z3 (zx z)) (eE (BC (bA z ⋯ E.Za ⋯ E.Z9 (zx z))))))
theorem wZ(E:E0 K mg):eA P w K mg base 2 "_law_is_table" 4 qp:=
 xy (N:=["_law_found","_law_p","_law_high","_law_wide","_law_row"]) E.Qd ⋯ λX I d O b U z e=>by subst I d O b U;exact by refine ze (jP (JU (km (qL (jY (kM z ⋯ E.Za ⋯ E.Z4 (zx z)))) (km (qU z (qF z ⋯ E.Z0 (zQ z)) zm) (km (qL (jY (zY (vp E) z (za (zA (zQ z) zm) zo)))) (yN (qL (jY (zY (vp E) z (za (zA (zQ z) zm) zo))))))))) (zu (zJ yO)) zZ) ?_;refine ze (jP (JU (km (qU z (zA (zQ z) zm) (zx z)) (km (qU z (zA (zQ z) zm) (zx z)) (km (qL (jY (kM z ⋯ E.Za ⋯ E.Z4 (zA (zQ z) zm)))) (yN (qU z (qF z ⋯ E.Z0 (PV.q (zA (zQ z) zm))) (zx z))))))) (zu (zJ yO)) zZ) ?_;refine ze (qQ e z (VO (zA (zQ z) zm)) (by refine ze (jP (JU (km (qL (jY (kM z ⋯ E.Za ⋯ E.Z4 (zx z)))) (yN (qU z (qF z ⋯ E.Z0 (zQ z)) (zx z))))) (zu (zJ yO)) zZ) ?_;exact(zu (jP (qL (jY (oX z ⋯ E.Zb (PO.q (xn z (jk (zQ z)) (λ_ _ _ a=>eP (zY (vp E) a (za (zx a) zo)) (eE (Kk VR ud JP dD zm (zx a) (zx a))))))))) (zu (zJ yO)) zZ)))) ?_;exact(zu (zJ yO))
theorem ku(E:E0 K mg):eA P w K mg base 3 "_law_are_tables" 4 jC:=
 xy (N:=["_law_found","_law_p","_law_highs","_law_wides"]) E.Qe ⋯ λX I d O b U z e=>by subst I d O b U;exact by refine ze (jP (JU (km (qL (jY (bz z ⋯ E.Za ⋯ E.Z7 (zx z)))) (yN (qU z (qF z ⋯ E.Z0 (zQ z)) (qF z ⋯ E.Z0 (zQ z)))))) (zu (zJ yO)) zZ) ?_;exact(zu (zJ (oX z ⋯ E.Zb (PO.q (xn z (g5.c (jb z ⋯ E.Z2 (qF z ⋯ E.Z0 (zQ z)))) (λ_ _ _ a=>zY (wZ E) a (za (zA (zQ a) (zx a)) (za (zx a) (za (zA (zQ a) (zx a)) (za (zA (zQ a) (zx a)) zo))))))))))
theorem va(E:E0 K mg):eA P w K mg base 2 "_law_passes" 5 qY:=
 xy (N:=["_law_p","_law_ways_here","_law_one","_law_other","_law_tables","_law_k","_law_begin","_law_end","_law_wide","_law_first"]) E.Qf ⋯ λX I b O a U z d=>by subst I b O a U;exact by refine ze (qQ d z (jb z ⋯ E.Z2 (yo z ⋯ E.Z0 (zx z))) (by refine ze (k8 (oI z) (zY (xN E) z (za (zx z) (za (zx z) zo)))) ?_;refine ze (jB z (zA (PV.q (zA (zQ z) zm)) (zx z))) ?_;refine ze (jB z (PO.v (xZ (kT E) z (za (zx z) (za (zA (PV.q (zA (zQ z) (zx z))) zm) (za (zA (PV.q (zA (zQ z) zm)) (zx z)) (za (zx z) zo))))))) ?_;exact(zu (jP (qU z (zx z) (PO.v (xZ (kT E) z (za (zx z) (za (zA (PV.q (zA (zQ z) zm)) (zx z)) (za (zA (PV.q (zA (zQ z) (zx z))) zm) (za (zx z) zo))))))) (zu (zJ yO)) zZ)))) ?_;exact(zu (zJ yO))
theorem J2(E:E0 K mg):eA P w K mg base 4 "_law_right" 5 jS:=
 xy (N:=["_law_found","_law_p","_law_ways_here","_law_one","_law_other","_law_bar_here","_law_there"]) E.Qg ⋯ λX I b O a U z d=>by subst I b O a U;exact by refine ze (jP (JU (km (qL (jY (kM z ⋯ E.Za ⋯ E.Z4 (zx z)))) (yN (Xw (qF z ⋯ E.Z0 (zQ z)) (PO.q (xc (ko (za zm (za zm zo))))))))) (zu (zJ yO)) zZ) ?_;refine ze (jP (kO z (zA (zQ z) zm) kn) (by refine ze (jB z (zA (zQ z) (YB zm))) ?_;refine ze (jP (JU (km (qU z (qF z ⋯ E.Z0 (zQ z)) zm) (km (qL (jY (kM z ⋯ E.Za ⋯ E.Z4 (zx z)))) (km (qU z (qF z ⋯ E.Z0 (zQ z)) zm) (yN (qL (bB VR VR VR JP JP JP zm (zA (zQ z) zm) (zA (zQ z) zm) (yo z ⋯ E.Z0 (zx z))))))))) (zu (zJ yO)) zZ) ?_;refine ze (jB z (zY (Ks E) z (za (zx z) (za (zx z) zo)))) ?_;exact(zu (zJ (BD z (zY (xV E) z (za (zx z) (za (zx z) (za (zx z) (za (zx z) zo))))) (zY (xV E) z (za (zx z) (za (zx z) (za (zx z) (za (zx z) zo))))))))) zZ) ?_;refine ze (jP (JU (km (qU z (zA (zQ z) zm) kn) (km (qU z (qF z ⋯ E.Z0 (zQ z)) zm) (yN (qU z (zA (zQ z) zm) (zA (zQ z) zm)))))) (zu (zJ yO)) zZ) ?_;refine ze (jP (JU (km (qL (jY (zY (ku E) z (za (zA (zQ z) zm) (za (zx z) (za (zA (zQ z) zm) (za (zA (zQ z) zm) zo))))))) (yN (qL (jY (zY (ku E) z (za (zA (zQ z) zm) (za (zx z) (za (zA (zQ z) zm) (za (zA (zQ z) zm) zo)))))))))) (zu (zJ yO)) zZ) ?_;refine ze (jP (JU (km (qL (jY (zY (va E) z (za (zx z) (za (zx z) (za (zx z) (za (zx z) (za (zA (zQ z) zm) zo)))))))) (yN (qL (jY (zY (va E) z (za (zx z) (za (zx z) (za (zx z) (za (zx z) (za (zA (zQ z) zm) zo))))))))))) (zu (zJ yO)) zZ) ?_;exact(zu (zJ (zY (Ji E) z (za (zx z) (za (zA (zQ z) zm) (za (zA (zQ z) zm) (za (zA (zQ z) zm) zo)))))))
theorem vO(E:E0 K mg):eA P w K mg base 1 "ways_of" 1 x9:=
 xy (N:=["row"]) E.Qh ⋯ λX I d O b U z e=>by subst I d O b U;exact zu (zJ (eH kn (PO.q (xn z (jk (PV.q (zA (zQ z) zm))) (λ_ _ _ a=>zA (zQ a) zm)))))
theorem VT(E:E0 K mg):eA P w K mg base 2 "one_kind" 2 kH:=
 xy (N:=["one","other"]) E.Qi ⋯ λX I b O a U z d=>by subst I b O a U;exact zu (zJ (eP (eJ z (zA (zQ z) zm) (zA (zQ z) zm)) (eE (eJ z (zY (vO E) z (za (zx z) zo)) (zY (vO E) z (za (zx z) zo))))))
theorem vw(E:E0 K mg):eA P w K mg base 3 "ask_one_kind" 2 qK:=
 xy (N:=["one","other"]) E.Qj ⋯ λX I b O a U z d=>by subst I b O a U;exact zu (jP (qL (jY (zY (VT E) z (za (zx z) (za (zx z) zo))))) (zu YC) zZ)
theorem ZJ(E:E0 K mg):eA P w K mg base 1 "behind_noughts" 2 xk:=
 xy (N:=["many","base"]) E.Qk ⋯ λX I d O b U z e=>by subst I d O b U;exact zu (xT (YE z (jk (zQ z)) (λ_ _ _ a=>qL (jY (oW a ⋯ E.Zc (PV.q (WY (zx a) Ko (Kn (zx a))))))) (λ_ _ _ a=>WY (zx a) (Kn (zx a)) Ko)))
theorem Jp(E:E0 K mg):eA P w K mg base 1 "rests" 2 kj:=
 xy (N:=["p","numbers"]) E.Ql ⋯ λX I d O b U z e=>by subst I d O b U;exact zu (zJ (qP z ⋯ E.Z4 (PO.q (xn z (jk (zQ z)) (λ_ _ _ a=>qE (zx a) (zx a))))))
theorem bP(E:E0 K mg):eA P w K mg base 1 "inverse" 2 Zx:=
 xy (N:=["p","x","y"]) E.Qm ⋯ λX I b O a U z d=>by subst I b O a U;exact by refine ze (qQ d z (wW z ⋯ E.Z2 zm (zx z)) (zu (jP (kO z (qE (q9 (zx z) (zx z)) (zx z)) zm) (zu (k9 2 (z.var ⋯))) zZ))) ?_;exact(zu YC)
theorem Xz(E:E0 K mg):eA P w K mg base 2 "cleared" 4 xi:=
 xy (N:=["p","load","pivot","place","much"]) E.Qn ⋯ λX I d O b U z e=>by subst I d O b U;exact by refine ze (jB z (zA (zQ z) (zx z))) ?_;refine ze (jP (kO z (zx z) zm) (zu (k9 1 (z.var ⋯))) zZ) ?_;exact(zu (zJ (zY (Jp E) z (za (zx z) (za (PO.v (xn z (g5.c (wV z ⋯ E.Z6 (zx z) (zx z))) (λ_ _ _ a=>wm (zx a) (q9 (zx a) (zx a))))) zo)))))
theorem vQ(E:E0 K mg):eA P w K mg base 3 "base_of" 3 kf:=
 xy (N:=["p","long","loads","left","base","place","leading","times","pivot"]) E.Qo ⋯ λX I d O b U z e=>by subst I d O b U;exact by refine ze (jK 3 (vd z (jk (zQ z)) (λ_ _ _ a=>zY (Jp E) a (za (zx a) (za (zx a) zo))))) ?_;refine ze (ya z (xc (ko zo))) ?_;refine ze (qQ e z (jb z ⋯ E.Z2 (zx z)) (by refine ze (jK 6 (mF z (jk (zQ z)) (λ_ _ _ a=>qU a (zA (zQ a) (zx a)) zm) (λ_ _ _ a=>zx a))) ?_;refine ze (jP (qL (mB (zQ z))) (zu YD) zZ) ?_;refine ze (jB z (zY (bP E) z (za (zx z) (za (zA (PV.q (zA (zQ z) zm)) (zx z)) zo)))) ?_;refine ze (jB z (zY (Jp E) z (za (zx z) (za (PO.v (xn z (jk (PV.q (zA (zQ z) zm))) (λ_ _ _ a=>q9 (zx a) (zx a)))) zo)))) ?_;refine ze (jK 3 (vd z (jk (zQ z)) (λ_ _ _ a=>zY (Xz E) a (za (zx a) (za (zx a) (za (zx a) (za (zx a) zo))))))) ?_;exact(zu (ya z (Xy (PO.q (xn z (jk (zQ z)) (λ_ _ _ a=>zY (Xz E) a (za (zx a) (za (zx a) (za (zx a) (za (zx a) zo))))))) (PO.q (xc (ko (za (zx z) zo))))))))) ?_;exact(zu (k9 4 (z.var ⋯)))
theorem xU(E:E0 K mg):eA P w K mg base 1 "turned_over" 1 qB:=
 xy (N:=["table","columns"]) E.Qp ⋯ λX I e O d U z f=>by subst I e O d U;exact by refine ze (jK 1 (vd z (g5.c (jb z ⋯ E.Z2 (zA (zQ z) zm))) (λ_ _ _ a=>qP a ⋯ E.Z4 (PO.q (xn a (jk (PV.q (zA (zQ a) zm))) (λ_ _ _ b=>zA (zQ b) (zx b))))))) ?_;exact(zu (zJ (qa (ko (za (zA (zQ z) zm) (za (zA (zQ z) zm) (za (qP z ⋯ E.Z4 (zQ z)) zo)))))))
theorem kB(E:E0 K mg):eA P w K mg base 1 "same_table" 1 qX:=
 xy (N:=["many","rows"]) E.Qq ⋯ λX I e O d U z f=>by subst I e O d U;exact by refine ze (jK 1 (vd z (g5.c (jb z ⋯ E.Z2 (zx z))) (λ_ _ _ a=>qP a ⋯ E.Z4 (PO.q (xn a (g5.c (jb a ⋯ E.Z2 (zx a))) (λ_ _ _ b=>kz (kO b (zx b) (zx b)) zm zm)))))) ?_;exact(zu (zJ (qa (ko (za (zx z) (za (zx z) (za (qP z ⋯ E.Z4 (zQ z)) zo)))))))
theorem J0(E:E0 K mg):eA P w K mg base 4 "led_into" 3 kJ:=
 xy (N:=["p","table","base","pairs","free"]) E.Qr ⋯ λX I d O b U z e=>by subst I d O b U;exact by refine ze (jK 3 (vd z (g5.c (wV z ⋯ E.Z6 (zA (PV.q (zY (xU E) z (za (zx z) zo))) zm) (zA (PV.q (zY (kB E) z (za (zA (zQ z) zm) zo))) zm))) (λ_ _ _ a=>jE (zx a) (zx a)))) ?_;refine ze (jK 4 (vd z (jk (zQ z)) (λ_ _ _ a=>jE (zx a) (q9 (qa (ko (za zm zo))) (zA (zQ a) zm))))) ?_;exact(zu (xT (xZ (ZJ E) z (za (zA (zQ z) zm) (za (PO.v (xZ (vQ E) z (za (zx z) (za (jE (zA (zQ z) zm) (zA (zQ z) zm)) (za (PO.v (Xy (zQ z) (zQ z))) zo))))) zo)))))
theorem YM(E:E0 K mg):eA P w K mg base 5 "kernel" 2 vY:=
 xy (N:=["p","table"]) E.Qs ⋯ λX I b O a U z d=>by subst I b O a U;exact zu (xT (xZ (J0 E) z (za (zx z) (za (zx z) (za (PO.v (xc (ko zo))) zo)))))
theorem W6(E:E0 K mg):eA P w K mg base 4 "image" 2 ZU:=
 xy (N:=["p","table"]) E.Qt ⋯ λX I b O a U z d=>by subst I b O a U;exact zu (xT (xZ (vQ E) z (za (zx z) (za (zA (zQ z) zm) (za (zA (PV.q (zY (xU E) z (za (zx z) zo))) zm) zo)))))
theorem ZI(E:E0 K mg):eA P w K mg base 2 "columns" 2 k5:=
 xy (N:=["high","loads"]) E.Qu ⋯ λX I b O a U z d=>by subst I b O a U;exact zu (zJ (zY (xU E) z (za (qa (ko (za (qF z ⋯ E.Z0 (zQ z)) (za (zx z) (za (qP z ⋯ E.Z4 (zQ z)) zo))))) zo)))
theorem yQ(E:E0 K mg):eA P w K mg base 1 "has_room" 2 j8:=
 xy (N:=["bar","room"]) E.Qv ⋯ λX I b O a U z d=>by subst I b O a U;exact zu (zJ (Kk VR ud JP dD (zA (zQ z) zm) (zx z) (jE (zA (zQ z) zm) (qF z ⋯ E.Z0 (PV.q (zA (zQ z) zm))))))
theorem wD(E:E0 K mg):eA P w K mg base 2 "loads_in" 2 xu:=
 xy (N:=["bars","room"]) E.Qw ⋯ λX I d O b U z e=>by subst I d O b U;exact zu (xT (YE z (jk (zQ z)) (λ_ _ _ a=>jY (zY (yQ E) a (za (zx a) (za (zx a) zo)))) (λ_ _ _ a=>zA (PV.q (zA (zQ a) zm)) (wm (zx a) (zA (zQ a) zm)))))
theorem vP(E:E0 K mg):eA P w K mg base 1 "lead_of" 1 xh:=
 xy (N:=["load"]) E.Qx ⋯ λX I d O b U z e=>by subst I d O b U;exact zu (zJ (zA (PO.q (YE z (g5.c (fj z ⋯ E.Zd (zx z))) (λ_ _ _ a=>qU a (zx a) zm) (λ_ _ _ a=>zx a))) zm))
theorem fH(E:E0 K mg):eA P w K mg base 2 "led" 3 cP:=
 xy (N:=["p","table","load"]) E.Qy ⋯ λX I e O d U z f=>by subst I e O d U;exact zu (zJ (zY (Jp E) z (za (zx z) (za (PO.v (xn z (jk (PV.q (zA (zQ z) zm))) (λ_ _ _ a=>WX a ⋯ E.Z5 (PO.q (xn a (g5.c (wV a ⋯ E.Z6 (zx a) (zx a))) (λ_ _ _ b=>q9 (zx b) (zx b))))))) zo))))
theorem Kq(E:E0 K mg):eA P w K mg base 3 "mixed_load" 4 yl:=
 xy (N:=["row","bars","times","room","there"]) E.Qz ⋯ λX I d O b U z e=>by subst I d O b U;exact by refine ze (jK 4 (mF z (g5.c (wV z ⋯ E.Z6 (zx z) (zx z))) (λ_ _ _ a=>jY (zY (yQ E) a (za (zx a) (za (zx a) zo)))) (λ_ _ _ a=>zx a))) ?_;exact(zu (zJ (zY (fH E) z (za (zA (zQ z) zm) (za (zY (ZI E) z (za (zA (PV.q (zA (zQ z) zm)) (zx z)) (za (PO.v (xZ (wD E) z (za (zx z) (za (zx z) zo)))) zo))) (za (zx z) zo))))))
theorem mY(E:E0 K mg):eA P w K mg base 4 "mixed" 3 K0:=
 xy (N:=["row","bars","times","first","loads"]) E.g_ ⋯ λX I d O b U z e=>by subst I d O b U;exact by refine ze (jB z (zA (zQ z) (zY (vP E) z (za (zx z) zo)))) ?_;refine ze (jK 4 (vd z (g5.c (jb z ⋯ E.Z2 (qF z ⋯ E.Z0 (PV.q (zA (zQ z) zm))))) (λ_ _ _ a=>zY (Kq E) a (za (zx a) (za (zx a) (za (zx a) (za (jE (zA (zQ a) zm) (zx a)) zo))))))) ?_;exact(zu (zJ (qa (ko (za (zA (zQ z) zm) (za (qP z ⋯ E.Z4 (zQ z)) zo))))))
theorem bN(E:E0 K mg):eA P w K mg base 6 "settled" 3 Zw:=
 xy (N:=["row","k","bars","way","table","special","base","leads"]) E.h_ ⋯ λX I d O b U z e=>by subst I d O b U;exact by refine ze (jB z (zA (PV.q (zA (PV.q (zA (zQ z) zm)) (zx z))) zm)) ?_;refine ze (jB z (zA (PV.q (zA (PV.q (zA (zQ z) zm)) (zx z))) zm)) ?_;refine ze (jB z (kz (kO z (zx z) kn) (PO.v (xZ (YM E) z (za (zA (zQ z) zm) (za (zx z) zo)))) (PO.v (xZ (W6 E) z (za (zA (zQ z) zm) (za (zx z) zo)))))) ?_;refine ze (jB z (PO.v (xZ (J0 E) z (za (zA (zQ z) zm) (za (zY (ZI E) z (za (zA (PV.q (zA (zQ z) zm)) (zx z)) (za (PO.v (xZ (wD E) z (za (zx z) (za (zx z) zo)))) zo))) (za (zx z) zo)))))) ?_;refine ze (jB z (mw z ⋯ E.Ze (xn z (jk (zQ z)) (λ_ _ _ a=>qa (ko (za (zY (vP E) a (za (zx a) zo)) (za (zx a) zo))))))) ?_;exact(zu (xT (xn z (g5.c (tN z ⋯ E.Zd (zx z))) (λ_ _ _ a=>kz (tq a (zx a) (zx a)) (zY (mY E) a (za (zx a) (za (zx a) (za (BE a (zx a) (zx a)) zo)))) (zx a)))))
theorem fG(E:E0 K mg):eA P w K mg base 4 "solved" 3 vW:=
 xy (N:=["p","table","load","wide","answer","line","place"]) E.i' ⋯ λX I d O b U z e=>by subst I d O b U;exact by refine ze (jB z (zA (zQ z) zm)) ?_;refine ze (ya z (fe (xc (ko (za zm zo))) (zx z))) ?_;refine ze (qQ e z (VO (PO.v (xZ (vQ E) z (za (zx z) (za (jE (zx z) zm) (za (PO.v (xn z (g5.c (wV z ⋯ E.Z6 (zA (zQ z) zm) (zx z))) (λ_ _ _ a=>jE (zx a) (qa (ko (za (zx a) zo)))))) zo)))))) (by refine ze (jB z (zY (vP E) z (za (zx z) zo))) ?_;refine ze (jP (kO z (zx z) (zx z)) (zu (zJ YA)) zZ) ?_;exact(zu (wU 4 z ⋯ (zx z) (zA (zQ z) (zx z)))))) ?_;exact(zu (zJ (qP z ⋯ E.Z4 (zQ z))))
theorem YK(E:E0 K mg):eA P w K mg base 5 "next_load" 3 xR:=
 xy (N:=["p","arrow","load","there"]) E.i_ ⋯ λX I b O a U z d=>by subst I b O a U;exact by refine ze (jP (kO z (zA (zQ z) zm) kn) (zu (zJ (zY (fG E) z (za (zx z) (za (zA (zQ z) zm) (za (zx z) zo)))))) zZ) ?_;refine ze (jB z (zY (fH E) z (za (zx z) (za (zA (zQ z) zm) (za (zx z) zo))))) ?_;exact(zu (zJ (kz (jY (oW z ⋯ E.Zc (zQ z))) (zx z) YA)))
theorem VS(E:E0 K mg):eA P w K mg base 6 "taken_on" 3 yJ:=
 xy (N:=["p","arrow","bar","load"]) E.j' ⋯ λX I b O a U z d=>by subst I b O a U;exact by refine ze (jB z (zY (YK E) z (za (zx z) (za (zx z) (za (zA (PV.q (zA (zQ z) zm)) (YB zm)) zo))))) ?_;exact(zu (zJ (kz (tm (zx z) YA) (zx z) (qa (ko (za (zA (zQ z) zm) (za (jE (zA (zQ z) zm) (qa (ko (za (zx z) zo)))) zo)))))))
theorem YL(E:E0 K mg):eA P w K mg base 6 "new_loads" 2 yX:=
 xy (N:=["p","arrow","leads"]) E.j_ ⋯ λX I d O b U z e=>by subst I d O b U;exact by refine ze (jP (kO z (zA (zQ z) zm) kn) (zu (xT (xZ (YM E) z (za (zx z) (za (zA (zQ z) zm) zo))))) zZ) ?_;refine ze (jK 2 (vd z (jk (PO.q (xZ (W6 E) z (za (zx z) (za (zA (zQ z) zm) zo))))) (λ_ _ _ a=>zY (vP E) a (za (zx a) zo)))) ?_;exact(zu (xT (YE z (g5.c (fj z ⋯ E.Zd (zA (PV.q (zY (kB E) z (za (zA (PV.q (zA (zQ z) zm)) zm) zo))) zm))) (λ_ _ _ a=>Xw (zx a) (zQ a)) (λ_ _ _ a=>zx a))))
theorem mZ(E:E0 K mg):eA P w K mg base 7 "grown" 3 QT:=
 xy (N:=["row","k","bars","p","arrow","ended","here","old","new"]) E.k_ ⋯ λX I d O b U z e=>by subst I d O b U;exact by refine ze (jB z (zA (zQ z) zm)) ?_;refine ze (jB z (zA (PV.q (zA (zQ z) zm)) (zx z))) ?_;refine ze (jK 5 (mF z (jk (zQ z)) (λ_ _ _ a=>qL (jY (zY (yQ E) a (za (zx a) (za (zx a) zo))))) (λ_ _ _ a=>zx a))) ?_;refine ze (jB z (PO.v (xZ (bN E) z (za (zx z) (za (zx z) (za (PO.v (YE z (jk (zQ z)) (λ_ _ _ a=>jY (zY (yQ E) a (za (zx a) (za (zx a) zo)))) (λ_ _ _ a=>zx a))) zo)))))) ?_;refine ze (jK 7 (vd z (jk (zQ z)) (λ_ _ _ a=>zY (VS E) a (za (zx a) (za (zx a) (za (zx a) zo)))))) ?_;refine ze (jK 8 (vd z (jk (PO.q (xZ (YL E) z (za (zx z) (za (zx z) zo))))) (λ_ _ _ a=>qa (ko (za (jE (zx a) zm) (za (qa (ko (za (zx a) zo))) zo)))))) ?_;exact(zu (zJ (PO.v (Xy (zQ z) (PV.q (kz (kO z (zA (zQ z) zm) kn) (PO.v (Xy (zQ z) (zQ z))) (PO.v (Xy (zQ z) (zQ z)))))))))
theorem wY(E:E0 K mg):eA P w K mg base 1 "stretch_of" 1 qb:=
 xy (N:=["bar"]) E.l_ ⋯ λX I b O a U z d=>by subst I b O a U;exact zu (zJ (qa (ko (za (zA (zQ z) zm) (za (wm (jE (zA (zQ z) zm) (qF z ⋯ E.Z0 (PV.q (zA (zQ z) zm)))) zm) zo)))))
theorem YN(E:E0 K mg):eA P w K mg base 9 "all_grown" 1 yZ:=
 xy (N:=["row","bars","k"]) E.m_ ⋯ λX I d O b U z e=>by subst I d O b U;exact by refine ze (jK 1 (vd z (jk (PV.q (zA (PV.q (zY (kB E) z (za (zA (PV.q (zA (zQ z) zm)) zm) zo))) zm))) (λ_ _ _ a=>qa (ko (za zm (za (qa (ko (za (zx a) zo))) zo)))))) ?_;refine ze (qQ e z (jb z ⋯ E.Z2 (qF z ⋯ E.Z0 (PV.q (zA (zQ z) zm)))) (zu (jB z (zY (mZ E) z (za (zx z) (za (zx z) (za (zx z) zo))))))) ?_;exact(zu (xT (mH (wY E) z ⋯ ⋯ E.Zf ⋯ (zQ z))))
theorem bR(E:E0 K mg):eA P w K mg base 4 "back_of" 2 k6:=
 xy (N:=["p","table","many","same","base"]) E.n_ ⋯ λX I d O b U z e=>by subst I d O b U;exact by refine ze (jB z (zA (zQ z) zm)) ?_;refine ze (jP (qU z (zA (zQ z) zm) (zx z)) (zu (zJ YA)) zZ) ?_;refine ze (jB z (zA (PV.q (zY (kB E) z (za (zx z) zo))) zm)) ?_;refine ze (jB z (PO.v (xZ (vQ E) z (za (zx z) (za (jE (zx z) (zx z)) (za (PO.v (xn z (g5.c (wV z ⋯ E.Z6 (zA (zQ z) zm) (zx z))) (λ_ _ _ a=>jE (zx a) (zx a)))) zo)))))) ?_;refine ze (jP (qU z (PO.v (xn z (jk (zQ z)) (λ_ _ _ a=>WY (zx a) Ko (Kn (zx a))))) (PO.v (ff z ⋯ E.Z7 (zQ z)))) (zu (zJ YA)) zZ) ?_;exact(zu (zJ (qa (ko (za (zx z) (za (zx z) (za (qP z ⋯ E.Z4 (PO.q (xn z (jk (zQ z)) (λ_ _ _ a=>WY (zx a) (Kn (zx a)) Ko)))) zo)))))))
theorem w6(E:E0 K mg):eA P w K mg base 10 "barred" 1 qc:=
 xy (N:=["row","bars","backs","turns"]) E.o_ ⋯ λX I d O b U z e=>by subst I d O b U;exact by refine ze (jB z (PO.v (xZ (YN E) z (za (zx z) zo)))) ?_;refine ze (jK 2 (vd z (g5.c (fj z ⋯ E.Zd (zA (zQ z) zm))) (λ_ _ _ a=>zY (ZI E) a (za (zx a) (za (PO.v (xZ (wD E) a (za (zx a) (za (zx a) zo)))) zo))))) ?_;refine ze (jK 3 (vd z (jk (zQ z)) (λ_ _ _ a=>zY (bR E) a (za (zA (zQ a) zm) (za (zx a) zo))))) ?_;exact(zu (zJ (qa (ko (za (PO.v (xn z (jk (zQ z)) (λ_ _ _ a=>zY (wY E) a (za (zx a) zo)))) (za (zx z) (za (zx z) zo)))))))
theorem Kr(E:E0 K mg):eA P w K mg base 1 "left_holds" 3 ka:=
 xy (N:=["ways","one","other"]) E.p_ ⋯ λX I b O a U z d=>by subst I b O a U;exact by refine ze (jP (kO z (zA (zQ z) zm) (zA (zQ z) zm)) (zu (zJ yO)) zZ) ?_;exact(zu (zJ (eJ z (wQ (zx z) (wm (oV z ⋯ E.Z8 (zA (zQ z) zm) (zA (zQ z) zm)) zm)) (kz (BG (zA (zQ z) zm) (zA (zQ z) zm)) kn kn))))
theorem Xa(E:E0 K mg):eA P w K mg base 1 "right_holds" 3 xE:=
 xy (N:=["ways","one","other"]) E.q_ ⋯ λX I b O a U z d=>by subst I b O a U;exact by refine ze (jP (kO z (zA (zQ z) zm) (zA (zQ z) zm)) (zu (zJ yO)) zZ) ?_;exact(zu (zJ (eJ z (wQ (zx z) (eG z ⋯ E.Z1 (zA (zQ z) zm) (zA (zQ z) zm))) (kz (WZ (zA (zQ z) zm) (zA (zQ z) zm)) kn kn))))
theorem VV(E:E0 K mg):eA P w K mg base 2 "bar_ways" 3 kK:=
 xy (N:=["ways","one","other"]) E.r_ ⋯ λX I b O a U z d=>by subst I b O a U;exact by refine ze (jP (WZ (oV z ⋯ E.Z8 (zA (zQ z) zm) (zA (zQ z) zm)) (eG z ⋯ E.Z1 (zA (zQ z) zm) (zA (zQ z) zm))) (zu (zJ zm)) zZ) ?_;exact(zu (zJ (kz (JU (eC (jY (zY (Kr E) z (za (zx z) (za (zx z) (za (zx z) zo))))) (WW (jY (zY (Xa E) z (za (zx z) (za (zx z) (za (zx z) zo)))))))) zm zm)))
theorem vn(E:E0 K mg):eA P w K mg base 3 "ways_into" 3 qA:=
 xy (N:=["ways","bars","bar"]) E.s_ ⋯ λX I d O b U z e=>by subst I d O b U;exact zu (zJ (WX z ⋯ E.Z5 (PO.q (xn z (jk (zQ z)) (λ_ _ _ a=>zY (VV E) a (za (zx a) (za (zx a) (za (zx a) zo))))))))
theorem w5(E:E0 K mg):eA P w K mg base 11 "count_ways" 2 xv:=
 xy (N:=["one","other","bars"]) E.t_ ⋯ λX I d O b U z e=>by subst I d O b U;exact by refine ze (W1 (zY (vw E) z (za (zx z) (za (zx z) zo)))) ?_;refine ze (jB z (zA (PV.q (zY (w6 E) z (za (zx z) zo))) zm)) ?_;exact(zu (zJ (WX z ⋯ E.Z5 (PO.q (xn z (jk (PV.q (zA (PV.q (zY (w6 E) z (za (zx z) zo))) zm))) (λ_ _ _ a=>zY (vn E) a (za (zY (vO E) a (za (zx a) zo)) (za (zx a) (za (zx a) zo)))))))))
theorem bO(E:E0 K mg):eA P w K mg base 3 "product" 3 k3:=
 xy (N:=["p","one","other","over"]) E.u_ ⋯ λX I d O b U z e=>by subst I d O b U;exact by refine ze (jB z (zY (xU E) z (za (zx z) zo))) ?_;exact(zu (zJ (qa (ko (za (zA (zQ z) zm) (za (zA (zQ z) zm) (za (qP z ⋯ E.Z4 (PO.q (xn z (jk (PV.q (zA (zQ z) zm))) (λ_ _ _ a=>zY (fH E) a (za (zx a) (za (zx a) (za (zx a) zo))))))) zo)))))))
theorem vo(E:E0 K mg):eA P w K mg base 4 "room_by_room" 3 xf:=
 xy (N:=["p","ones","others"]) E.v_ ⋯ λX I d O b U z e=>by subst I d O b U;exact zu (xT (xn z (g5.c (wV z ⋯ E.Z6 (zx z) (zx z))) (λ_ _ _ a=>zY (bO E) a (za (zx a) (za (zx a) (za (zx a) zo))))))
theorem JZ(E:E0 K mg):eA P w K mg base 1 "stretches_of" 1 qJ:=
 xy (N:=["many","found","i"]) E.w_ ⋯ λX I d O b U z e=>by subst I d O b U;exact by refine ze (ya z (xc (ko zo))) ?_;refine ze (qQ e z (jb z ⋯ E.Z2 (zx z)) (zu (tH 1 z ⋯ (xn z (g5.c (wW z ⋯ E.Z2 (zx z) (zx z))) (λ_ _ _ a=>qa (ko (za (zx a) (za (zx a) zo)))))))) ?_;exact(zu (k9 1 (z.var ⋯)))
theorem ZK(E:E0 K mg):eA P w K mg base 4 "are_told_apart" 4 xl:=
 xy (N:=["ways","ones","others","bar"]) E.x_ ⋯ λX I b O a U z d=>by subst I b O a U;exact zu (zJ (BD z (zY (vn E) z (za (zx z) (za (zx z) (za (zx z) zo)))) (zY (vn E) z (za (zx z) (za (zx z) (za (zx z) zo))))))
theorem nc(E:E0 K mg):eA P w K mg base 5 "apart" 3 QV:=
 xy (N:=["ways","ones","others","stretches","stretch","told"]) E.y_ ⋯ λX I d O b U z e=>by subst I d O b U;exact by refine ze (jB z (PO.v (xZ (JZ E) z (za (jE (yo z ⋯ E.Z0 (zx z)) zm) zo)))) ?_;refine ze (jB z (zA (PO.q (YE z (jk (zQ z)) (λ_ _ _ a=>qU a (wR a (zQ a) (zx a)) (wR a (zQ a) (zx a))) (λ_ _ _ a=>zx a))) zm)) ?_;refine ze (jB z (zA (PO.q (YE z (jk (zQ z)) (λ_ _ _ a=>jY (zY (ZK E) a (za (zx a) (za (zx a) (za (zx a) (za (zx a) zo)))))) (λ_ _ _ a=>zx a))) zm)) ?_;exact(zu (zJ (qa (ko (za kn (za (zx z) (za (wR z (zQ z) (zx z)) (za (wR z (zQ z) (zx z)) (za (zx z) zo)))))))))
theorem ng(E:E0 K mg):eA P w K mg base 11 "alike" 2 y6:=
 xy (N:=["one","other","first","second","there","back"]) E.z_ ⋯ λX I b O a U z d=>by subst I b O a U;exact by refine ze (W1 (zY (vw E) z (za (zx z) (za (zx z) zo)))) ?_;refine ze (jB z (zY (w6 E) z (za (zx z) zo))) ?_;refine ze (jB z (zY (w6 E) z (za (zx z) zo))) ?_;refine ze (jP (qU z (zA (zQ z) zm) (zA (zQ z) zm)) (zu (zJ (zY (nc E) z (za (zY (vO E) z (za (zx z) zo)) (za (zA (zQ z) zm) (za (zA (zQ z) zm) zo)))))) zZ) ?_;refine ze (jB z (PO.v (xZ (vo E) z (za (zA (zQ z) zm) (za (zA (zQ z) zm) (za (zA (zQ z) zm) zo)))))) ?_;refine ze (jB z (PO.v (xZ (vo E) z (za (zA (zQ z) zm) (za (zA (zQ z) zm) (za (zA (zQ z) zm) zo)))))) ?_;exact(zu (zJ (qa (ko (za kn (za (zx z) (za (zx z) zo)))))))
theorem Xb(E:E0 K mg):eA P w K mg base 12 "_law_told" 4 kE:=
 xy (N:=["_law_p","_law_ways_here","_law_one","_law_other","_law_here","_law_there"]) E.A_ ⋯ λX I b O a U z d=>by subst I b O a U;exact by refine ze (jB z (zY (vb E) z (za (zx z) (za (zx z) (za (zx z) zo))))) ?_;refine ze (jB z (zY (vb E) z (za (zx z) (za (zx z) (za (zx z) zo))))) ?_;refine ze (jP (qU z (zY (w5 E) z (za (zx z) (za (zx z) zo))) (zY (xV E) z (za (zx z) (za (zx z) (za (zx z) (za (zx z) zo)))))) (zu (zJ yO)) zZ) ?_;refine ze (jP (qU z (zY (w5 E) z (za (zx z) (za (zx z) zo))) (zY (xV E) z (za (zx z) (za (zx z) (za (zx z) (za (zx z) zo)))))) (zu (zJ yO)) zZ) ?_;exact(zu (zJ (zY (J2 E) z (za (zY (ng E) z (za (zx z) (za (zx z) zo))) (za (zx z) (za (zx z) (za (zx z) (za (zx z) zo))))))))
theorem vt(E:E0 K mg):eA P w K mg base 3 "_law_same_widths" 5 qj:=
 xy (N:=["_law_script","_law_p","_law_ways_here","_law_widths","_law_few","_law_tables","_law_k","_law_begin","_law_end"]) E.B_ ⋯ λX I b O a U z d=>by subst I b O a U;exact by refine ze (ya z (xc (ko zo))) ?_;refine ze (qQ d z (jb z ⋯ E.Z2 (yo z ⋯ E.Z0 (zx z))) (by refine ze (k8 (oI z) (zY (xN E) z (za (zx z) (za (zx z) zo)))) ?_;exact(zu (yP 5 z ⋯ (PO.v (xZ (vq E) z (za (zx z) (za (jE zm (q9 zm (zx z))) (za (zx z) (za (zA (zQ z) (zx z)) (za (zA (zQ z) (zx z)) (za (zx z) zo)))))))))))) ?_;exact(zu (k9 5 (z.var ⋯)))
theorem IU(D:L2.Dh K "law" "law" (top 73) f fd)(E:E0 K mg):n9 P w K mg base o6 13 f fd ["_law_script"] (p3 K 1 QS):=
 Hr (N:=["_law_script","_law_cell_here","_law_p","_law_ways_here","_law_one","_law_other"]) D ⋯ λX I b O a U z d=>by subst I b O a U;exact by refine ze (jB z (zY (wF E) z (za (zx z) (za zm zo)))) ?_;refine ze (jB z (zA (PO.q (xc (ko (za zm (za zm (za zm (za zm zo))))))) (qE (zx z) zm))) ?_;refine ze (jB z (zY (J1 E) z (za (y9 (zx z) zm) (za (jE zm (qE (y9 (zx z) zm) zm)) zo)))) ?_;refine ze (jB z (zY (w4 E) z (za (zx z) (za zm (za (zx z) (za (zx z) (za zm (za (qE (y9 (zx z) zm) zm) zo)))))))) ?_;refine ze (jB z (zY (w4 E) z (za (zx z) (za zm (za (zx z) (za (zx z) (za zm (za (qE (y9 (zx z) zm) zm) zo)))))))) ?_;refine ze (jP (kO z (qE (y9 (zx z) zm) zm) zm) (zu (jB z (qa (ko (za (zA (zQ z) zm) (za (PO.v (xZ (vt E) z (za (zx z) (za (zx z) (za (zx z) (za (zA (zQ z) zm) (za (qE (y9 (zx z) zm) zm) zo))))))) zo)))))) zZ) ?_;exact(zu (zJ (zY (Xb E) z (za (zx z) (za (zx z) (za (zx z) (za (zx z) zo)))))))
end
end DL
namespace PySem.W.Fast
def tw7999083708056258430:=0
def tw9864805016868119243:=0
def tw9095015767039720217:=0
def tw17289152022349070349:=0
def tw9440347282590527878:=0
def tw6700334248168050657:=0
def tw12655801883580874878:=0
def tw11671007672517163546:=0
def tw1038083985330050442:=0
def tw4838321481636362837:=0
def tw4906291092317421109:=0
def tw3018275495613930965:=0
def tw2175999354699474326:=0
def tw12951102724151839738:=0
def tw9571843668328338519:=0
def tw3033061523581770722:=0
def tw12355994858060912249:=0
def tw14760813779363781237:=0
def tw7404462345980928240:=0
def tw6185301670366008144:=0
def tw16085971919278856235:=0
def tw16393868415850275529:=0
def tw10046225561921105526:=0
def tw2950362557636193070:=0
def tw14028167291059080488:=0
def tw568271239587670072:=0
def tw15687357235203383568:=0
def tw1340419327753591815:=0
def tw2436905391200240757:=0
def tw7707106142602062425:=0
def tw1690242938279395619:=0
def tw15778947629909883597:=0
def tw9561461894680259950:=0
def tw401575990257501156:=0
def tw14789494105273906739:=0
def tw11703576455399933599:=0
def tw15571478092353767552:=0
def tw2520269624605992365:=0
def tw9858674483557037567:=0
def tw63934156155575294:=0
def tw12789218091843438418:=0
def tw11792692724586450893:=0
def tw4297366911492879863:=0
def tw2038105739939278332:=0
def tw16054007768599810036:=0
def tw14004571564136591672:=0
def tw5014176145087697805:=0
def tw989134728677647426:=0
def tw875478971378207122:=0
def tw6446893968031936233:=0
def tw12947988701758042122:=0
def tw14286550575165275977:=0
def tw6035869163039241631:=0
def tw1568368799670590056:=0
def tw877747191768599571:=0
def tw18048792354284774407:=0
def tw6479414477124668063:=0
def tw18198371856667940140:=0
def tw14462737472518679665:=0
def tw17636344728834867092:=0
def tw2482448467102163094:=0
def tw252185825294778199:=0
def tw1033052498491595865:=0
def tw7606756667550738029:=0
def tw15519544323188244058:=0
def tw14122639947761359542:=0
def tw1064903070877343834:=0
def tw3990674586521139504:=0
def tw17211313359422080792:=0
def tw1283933799529926562:=0
def tw5800744717491825958:=0
def tw17574288220692039501:=0
def tw5155339698322512536:=0
def tw3773641835167222912:=0
def tw15394523475259530858:=0
def tw3935192839128743245:=0
def tw13751936241582522152:=0
def tw15851081520474552886:=0
def tw7678339468713325095:=0
def tw15848676462446564964:=0
def tw16553731403408519181:=0
def tw6164692834459836479:=0
def tw10201392664639413565:=0
def tw10671385123305083823:=0
def tw15148134861152094239:=0
def tw13168973428151648539:=0
def tw15623183835156485974:=0
def tw16996773662630153634:=0
def tw5309968237030878283:=0
def tw14997936770586011035:=0
def tw13957438917469507191:=0
def tw9388299875548626102:=0
def tw10353583670467688947:=0
def tw4272923308034803946:=0
def tw16401482125739668495:=0
def tw3025804968921287966:=0
def tw17058953475505515318:=0
def tw18191039987811436684:=0
def tw9547362219746620578:=0
def tw12931974022342411288:=0
def tw1224738649050180313:=0
def tw18232146574700503601:=0
def tw1136645842711326016:=0
def tw18166611960683498467:=0
def tw17504896859043826254:=0
def tw11372851030592050726:=0
def tw17387595079721705935:=0
def tw16397177564933082455:=0
def tw16457461838641460043:=0
def tw15312643194110225505:=0
def tw17483100832674579368:=0
def tw9616465285365577292:=0
def tw12166877043298261604:=0
def tw14122814520785555879:=0
def tw9783983441914796744:=0
def tw1440456975248054487:=0
def tw6571818784679095027:=0
def tw14675748150268804822:=0
def tw3520554028921956828:=0
def tw16316329368081961704:=0
def tw16920886521988131963:=0
def tw14524050668682473256:=0
def tw10774807905404739303:=0
def tw14924086139501778896:=0
def tw15499039455350423036:=0
def tw7954042186920095682:=0
def tw2385198431723500955:=0
def tw7780844004509417408:=0
def tw17381231071917848374:=0
def tw8852946105673144342:=0
def tw7877603383104288958:=0
def tw5907695249047754682:=0
def tw4059889463638885271:=0
def tw6949938249876761517:=0
def tw12685545763095074657:=0
def tw5801057754247529154:=0
def tw7655794270004460360:=0
def tw14813663156649727848:=0
def tw2488029773953120468:=0
def tw14388882458647937687:=0
def tw12816416697925270214:=0
def tw17296311300688302584:=0
def tw13604344546739881654:=0
def tw3858716640769415655:=0
def tw6780587811366750330:=0
def tw5787962607722285454:=0
def tw10030880095558024716:=0
def tw5207269384464827222:=0
def tw16689457120183858369:=0
def tw10334850539349694238:=0
def tw8187568601660732074:=0
def tw14227739916620004572:=0
def tw14017277524892537967:=0
def tw17610130532067017899:=0
def tw15356935347233529394:=0
def tw6344364866010501946:=0
def tw13994072270762819087:=0
def tw12733367135333214354:=0
def tw14148746069796222741:=0
def tw1861569044703392619:=0
def tw2775998608008841463:=0
def tw935356262906053670:=0
def tw493301580738446659:=0
def tw1400197503240165691:=0
def tw3787228425035776867:=0
def tw16694456720639198158:=0
def tw5471365437354361957:=0
def tw18333121114995153272:=0
def tw12607612338084229094:=0
def tw3297916556105300520:=0
def tw13244682988313210703:=0
def tw10285535680937100426:=0
def tw8390393817028949741:=0
def tw14385581427825777262:=0
def tw10867502715404097083:=0
def tw9396281519029463443:=0
end PySem.W.Fast
open PySem PySem.W PyProof.Rows
set_option maxRecDepth 100000 in
set_option maxHeartbeats 0 in
theorem PySem.Challenge.cw_barsplit_k43_whole_ways_by_bars_and_squa_holds : PySem.Challenge.rw_barsplit_k43_whole_ways_by_bars_and_squa.Holds := by
 w_on;o_law;k_head;(case hw=>w_witness2)
 k_fill
 refine L2.EO (l:=_k) (n:=63) (k:=13) (x:="_law_script") (CX:=L2.o6) (sp:=λK=>DL.p3 K 1 DL.QS) rfl ⋯ rfl ⟨rfl,by decide,by decide⟩ (λw h Y=>PySem.W.kIn_of Y) ?F ?S ?C
 case S=>exact λK H a ns I hO U=>DL.Fw U (DL.Hg ns I)
 case C=>exact λ_ _ _ _ z=>z
 case F=>
  intro w mg fa h O G a0;have E:DL.E0 (L2.Uk O) mg:=by
   constructor
   all_goals first
    | assumption
    | exact PySem.W.mg_none_of O G (by k_is)
    | (dsimp only[L2.Uk];refine' DL.Lb O G ?a ?l ?c ?k ?b;(case a=>k_is);(case l=>k_is);(case c=>k_is);(case k=>k_is);(case b=>intro _ _ _ _ _ _ us I;first | (obtain⟨_,rfl⟩:=DL.ML I;rfl) | (obtain⟨_,_,rfl⟩:=DL.MK I;rfl) | (obtain⟨_,_,_,rfl⟩:=DL.MJ I;rfl) | (obtain⟨_,_,_,_,rfl⟩:=DL.MI I;rfl) | (obtain⟨_,_,_,_,_,rfl⟩:=DL.MH I;rfl) | (obtain⟨_,_,_,_,_,_,rfl⟩:=DL.MG I;rfl)))
  obtain⟨f,fd,Fu,hb,hm⟩:=E.C_.ex;have e0:=a0.symm.trans hm;cases e0;refine⟨fd,λs u=> .of_eq (hb [u] rfl),λbase kb nb=>?_⟩;exact DL.IU Fu E
