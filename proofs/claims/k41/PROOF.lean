import PyProof.Rows.All
import Wide.All
import OpenK.AllK
import Wide.FinOn
import Lean
import PyProof.EqAt
import PyProof.EqKinds
import PyProof.TupleCall
import PySem.Str
import PyProof.ZipIter
import PyProof.IsiBase
import KE.KItemsList
import KE.KIsAll
import OpenK.KOwn
import KE.KSortAsk
import PyProof.StrBlockI
import PyProof.Rows.EqDataRows
import PyProof.Rows.InDataRows
import PyProof.SumWalkG
import PyProof.ConsumeWalk
import PyProof.WalksMore
import KE.KSortTup
import PyProof.ListMulRoad
import PyProof.EnumFor
import PyProof.Rows.EnumRows
import PyProof.StrBlockL
import PyProof.JoinWalk
import PyProof.NsDelKeeps
import KE.KTryDeep
import PyProof.InstStoreFacts
import PyProof.NsCount
import PyProof.ExcClass2
import PyProof.Rows.FStr
import PyProof.StationsW
import PyProof.Rows.Catch
import KE.KRevIter
import PyProof.CollectIter
import PyProof.TupleOfGen
import PyProof.Rows.Tup
import PyProof.Draws
import PyProof.EnumMake
import PyProof.StrWalks
import PyProof.SliceStr2
import PyProof.ListNew
import KE.KDictOf
import PyProof.ListRange
import PyProof.Rows.GenSrcRange
import PyProof.ListCopy
import PyProof.AttrMissHeap
import PyProof.DictWalks
import PyProof.FactsDict
import KE.KSortKey
import PyProof.TableCode
import PyProof.Rows.KernelRfl
import PySem.Challenge.RW_barsplit_k41_whole_alike_by_tables
open List renaming range → GH,getElem?_eq_getElem → GL,mem_range → eY,getD_eq_getElem?_getD → GN,replicate → GO,getElem?_set_ne → GP,size_toArray → iN,getElem?_eq_some_iff → GU,mem_cons → GW,mem_cons_of_mem → GX,length_map → GY,mem_cons_self → Ha,getElem?_map → Hd,mem_append_right → He,getElem?_set_self → Hf,length_range → Hi,mem_map → Hj,map_congr_left → Hk,mem_filter → Hl,not_mem_nil → Hz,map_cons → HC,map_map → HD,eq_nil_of_length_eq_zero → HF,getElem?_append_right → HH,mem_of_getElem? → HJ,countP_eq_length_filter → HK,length_append → HQ,getElem?_append_left → HR,lookup_cons → HV,getElem?_range → Ic,map_append → Ih,nodup_cons → Io,getElem?_cons_zero → Iq,getElem?_cons_succ → IB,length_cons → ID,ext_getElem? → II,countP_congr → IJ,all_eq_true → IP,replicate_succ → IV,range_succ → IW,mem_singleton → La,pairwise_iff_getElem → Lc,drop_eq_getElem_cons → Ld,getElem?_set → Lg,find?_cons → Lh,getElem_mem → Ln,zip_cons_cons → Lr,toArray → Lv,mem_append → Lw,length_singleton → Lx,length_filter_le → Ly,append_nil → Lz,flatten_cons → LD,Pairwise → LF,length_nil → LV,getElem?_replicate → LW,take_of_length_le → Mb,pairwise_lt_range → Mc,pairwise_map → Md,length_take → Mk,drop_length → Ml,zip_map' → Mn,nil_append → Mp,getElem_of_mem → Mq,filter_sublist → Mr,countP_map → Ms,countP_eq_zero → Mt,set_cons_zero → MC,set_cons_succ → MD,filter_append → ME,range_add → MG,any_cons → MT,nodup_range → MV,map_nil → MZ,range_eq_range' → Nh,mem_append_left → Ni,getElem?_of_mem → Nj,filterMap_cons → Nn,length_eq_countP_add_countP → ND,foldl → NH,filter_congr → NI,any_eq_false → NJ,range'_succ → NO,countP_cons → NP,cons_append → NQ,any_eq_true → NR
open PySem.W renaming Frag → GI,kia_one → HG,kitOne → LH,cellsFrom_some → LU,fnOf → LZ,keepIn → Mv,findIn → Mw,codeIn → MY,methodObj → Nv,kitx_list → Nw,kitx_dict → Nx
open PySem renaming wpAny_bind → GJ,wpAny_pure → GS,wpAny_field → Ii,wpAny_newObj_type → Iu,wpAny_callSpecial?_slot → Iv,wpAny_setField_rec → Iy,wpAny_truthy_bool → IA,wpAny_call_entry → IH,wpAny_holding → IX,wpAny_mono → IY,wpAny_loadPart' → IZ,wpAny_seqItems → Li,sizeLine_eq → LK,call_meets → LM,mem_of_lookup → LN,Builtin → LS,wpAny_Call_Name_kw → Me,wpAny_rule → MF,wpAny_passesOwn → MH,pushCells_keeps → MJ,wpAny_typeOf → MQ,wpAny_pyIter_tuple → MR,wpAny_attempt → Nb,codeAny_mono → Nr,wpAny_updateSeq_pair → NB,wpAny_newTuple → NG,wpAny_letGo → NK,wpAny_standAt → NS,wpAny_onRaise → NT,wpAny_newList → NU,wpAny_pyIter_list → NX,typeIs_int → NY,concat_meets → Oa,noFill_tuple_add → Ob,Addr → eg,Value → eh,Shared → el,Expr → eA,model → eK,eval → eL,Heap → fy,sizeLine → fA,starEach → f7,Pos → g8,Scope → hG,World → hH,Program → il,Stmt → i5,Around → l6,Env → m5,Obj → m6,IsPair → m9,compareOp → n3,Builtin → n6,foldedSetIterable → ow,FuncData → o5,backTo → pk,Tok → qs,cellsFrom → q7,holding → rp,assign → sh,binaryOp → sm,IsEnum → s8,IsZip → tr,NameKind → t4,mainGlobals → u0,relabel → u5,assignEach → vr,behindInMarks → vu,swapsWith → wh,IsPart → z4,Keyword → A1,cLine → A3,getItem → A9,sysModules → B5,bootBuiltins → C2,pushCells → C9,bindC → Dk,bindL → Dl,callerA → Dn,isTrue → Ds,rawInt → Dw,standAt → Dx,atKey → DE,pyNext → DP,valueAt → DT,Meets → DY,truthy → E5,BindsTo → E9,attributeBase → F5,backToKw → F6,letOwnedTupleGo → G6,pyIter → H9,spliced → I7,swapsWithSole → I9,typeLookup → L7,IsEnumOut → M3,PassesOwn → M8,ZipApart → N4,firstArgMember → Oh,lastMarks → Ou,ownMembersOf → OD,preSum → OE,setItem → OK,subscripted → ON,swappedStores → OO,bindArgs → O3,builtinsNs → O4,newFunctionEnv → Pg,newTuple → Ph,release → Pk,seqIndex_neg → Pn,seqIndex_of → Po,seq_tuple_add → Pp,setField → Pq,tupleKind → PD,typeIs_str → PJ,wpAny_Name → PK,wpAny_execs_nil → PL,builtinLookup_eq_fast → Rl,callType_new → Rn,getattributeRaised → Rv,isSubtype_stop → Rz,tupleKind_room_in1 → Sb,wpAny_assign_Name → Sf,wpAny_binaryOp_repeat_ref → Sg,wpAny_isTrue_Compare1 → Sh,wpAny_letOwnedTupleGo_enum → Si,wpAny_sequenceKey → Sj
open PySem.Heap renaming get?_push_of_some → GK,lt_size → GZ,get?_push_size → Hc,size_push → HN,push → HW,get?_update_other → Ik,size_update → Lo,get?_push_ne → LG,SameBut → Mi,get?_update_self → Na,get?_update_ne → Np
open Nat renaming le_refl → GQ,lt_or_ge → Hg,lt_of_lt_of_le → Hm,ne_of_lt → Ho,not_lt_zero → Hq,lt_succ_of_lt → HL,lt_irrefl → HM,le_add_right → HP,zero_le → HX,le_trans → Ia,add_sub_cancel_left → IC,zero_add → IE,lt_succ_self → IQ,ne_of_gt → Lb,lt_trichotomy → Mg,le_succ → Mx,le_succ_of_le → MO,add_assoc → MU,mul_comm → Nf,le_of_lt → Ng
open Int renaming mul_emod → GR,emod_lt_of_pos → Hh,emod_emod → Hn,emod_nonneg → Hw,emod_eq_of_lt → HE,add_emod → HI,mul_comm → Ib,mul_assoc → Ir,sub_emod → IL,emod_eq_emod_iff_emod_sub_eq_zero → M1,toNat_natCast → IU,mul_zero → Lj,eq_ofNat_of_zero_le → Lm,zero_mul → LA,add_zero → LB,mul_left_comm → LI,mul_add → LQ,mul_one → My,add_mul → MW,toNat_of_nonneg → Ny
open Option renaming bind_some → GV,some → HZ,map_some → Iw,isSome_iff_exists → IK,getD_some → Mh,map_eq_some_iff → MS,map → NA,some → bQ,none → dj
open Bool renaming and_eq_true → Hb,false_ne_true → Hr,or_eq_true → Ip,false_eq_true → IM,not_eq_true' → IT,eq_iff_iff → Mu,true → di,false → ed
open Ne renaming symm → Hu
open PySem.NameKind renaming free → Hv,cell → Lf
open Option.some renaming inj → Hx
open PySem.Obj renaming mapSeq → Hy,data_mapFields → NC
open PySem.Builtin.SmallTypes renaming nextOf → HA,ownedTupleIsFree → HS,ownedTupleHandOut → IG,ownedTupleFields → MA
open PySem.Value renaming none → HB,ref → Iz,type → LY,str → Nt,int → Nu
open PySem.Str renaming ofString → HU,join → NW
open PySem.SeqAt renaming EqAt → HY
open Classical renaming byContradiction → Ie,axiomOfChoice → LP
open PyProof.Rows renaming callWith_type1 → Ij,slot_tuple_getitem → Il,listUpdate_at → Mf,slot_tupleiter_next → MI,tupleItemsOf_ → Nc,callWith_builtin1 → Nd,get?_update_seq → Nq,seqEpoch_at → NL,size_push' → NZ,seqObj → gB,AllBare → B7,Call_ → DU,IsTup → DX,arrOf → D1,IntsAre → F3,envOfC → F7,Subscript_ → O1,subscriptTail → Px,args_tuple_getitem → Rg,args_tupleiter_next → Rh,boot_enumerate → Ri,entry_tupleiter_next → Rp,listItems_at → RG,subscriptTail_builtinR → R7
open Array renaming length_toList → Im,getD_eq_getD_getElem? → Lu
open PySem.Builtin.Tuple renaming tupleExact → IF,tupleIsExact → Lp
open Sum renaming inl → IS,inr → NM
open False renaming elim → Le
open PySem.PyData renaming eqv → Ll,depth → LO,canLay0 → Ma,depthAll → MX,eqvAll → Nm,canLayAll0 → Nz
open True renaming intro → Lq
open PySem.Builtin.Slice renaming slicePlaces → Ls,sliceAdjust → Mj
open PySem.Builtin.List renaming listTooLong → LC
open PySem.F renaming slot_enumerate_next → LJ,slot_list_getattribute → LX,slot_tuple_mul → Mo,args_tuple_add_2 → MB,plainAttrs_list → MK,entry_tuple_add → ML,slot_tuple_add → MN,slot_zip_next → Nk,slot_int_rmul → Nl,args_tuple_mul_2 → NN,entry_tuple_mul → NV
open PySem.SeqAt.EqAt renaming int_int → LL
open PySem.Challenge renaming rw_barsplit_k41_whole_alike_by_tables → LR
open List.Pairwise renaming imp_of_mem → Mm,filter → MM
open PySem.Calls renaming spliced_cons → Mz,spliced_nil → NF
open ForInStep renaming yield → MP
local macro_rules | `(⋯) => `(by first | decide +kernel | omega | simp)
set_option autoImplicit true
noncomputable section
set_option Elab.async false
set_option linter.all false
set_option maxRecDepth 100000
set_option maxHeartbeats 4000000
abbrev RQ:=PySem.Value->PySem.Shared->Prop
abbrev RW:=List (PySem.Addr×PySem.Obj)
abbrev RV:=Nat->Nat->Nat->Int
abbrev RK:=Nat->Nat->Int
abbrev RX:=Nat->Bool
abbrev RZ:=Nat->Nat
abbrev RJ:=PySem.Str->Option PySem.Value
theorem RY{c:Prop}{h:Decidable c}(z:c){α}{a b:α}:ite c a b=a:=if_pos z
theorem EQ{c:Prop}{h:Decidable c}(z:¬c){α}{a b:α}:ite c a b=b:=if_neg z
namespace L2
open PySem PySem.Spec PyProof.Rows
abbrev Key:=Sum Int Str
noncomputable def W5:Key->eh->Bool
 | .inl k,v=>Value.isInt k v
 | .inr x,v=>Value.isStrOf x v
noncomputable def FZ(w:hH):Key->Int
 | .inl k=>hashInt k
 | .inr x=>hashStr w x
theorem j9 : ∀{k:Key} {v:eh},W5 k v=di->(∃i t,k=IS i/\v=Nu i t)\/(∃x t,k=NM x/\v=Nt x t)
 | .inl i,v,h=>by obtain⟨t,e⟩:=Value.isInt_shape (k:=i) (v:=v) h;exact .inl ⟨i,t,rfl,e⟩
 | .inr x,v,h=>by obtain⟨t,e⟩:=Value.isStrOf_shape (x:=x) (v:=v) h;exact .inr ⟨x,t,rfl,e⟩
theorem cV(i:Int)(t:qs):W5 (.inl i) (.int i t)=di:=by simp[W5,Value.isInt]
theorem cU(x:Str)(t:qs):W5 (.inr x) (.str x t)=di:=by simp[W5,Value.isStrOf]
theorem uS(a b:Int):decide ((IS a:Key)=IS b)=(a==b):=by
 by_cases e:a=b
 ·subst e;simp
 ·have h : ¬(IS a:Key)=IS b:=λq=>e (IS.inj q)
  rw[decide_eq_false h];exact(beq_eq_false_iff_ne.mpr e).symm
theorem uP(a b:Str):decide ((NM a:Key)=NM b)=decide (a=b):=by
 by_cases e:a=b
 ·subst e;simp
 ·have h : ¬(NM a:Key)=NM b:=λq=>e (NM.inj q)
  rw[decide_eq_false h,decide_eq_false e]
theorem uR(a:Int)(b:Str):decide ((IS a:Key)=NM b)=ed:=decide_eq_false<|λq=>nomatch q
theorem uQ(a:Str)(b:Int):decide ((NM a:Key)=IS b)=ed:=decide_eq_false<|λq=>nomatch q
noncomputable def qY(prog:il)(w:hH):PySem.KeyKind prog w Key where
 is:=W5
 hash:=FZ w
 inj:=λv a b ha I=>by
  rcases j9 ha with⟨i,t,rfl,rfl⟩ | ⟨x,t,rfl,rfl⟩
  ·rcases j9 I with⟨j,u,rfl,e⟩ | ⟨y,u,rfl,e⟩
   ·injection e with e1 _;rw[e1]
   ·exact nomatch e
  ·rcases j9 I with⟨j,u,rfl,e⟩ | ⟨y,u,rfl,e⟩
   ·exact nomatch e
   ·injection e with e1 _;rw[e1]
 byValue:=λk v h=>by rcases j9 h with⟨i,t,rfl,rfl⟩ | ⟨x,t,rfl,rfl⟩<;>rfl
 pyHash:=λz h=>by
  rcases j9 z with⟨i,t,rfl,rfl⟩ | ⟨x,t,rfl,rfl⟩
  ·exact wpAny_pyHash_int h
  ·exact wpAny_pyHash_str h
 eqBool:=λO z h=>by
  rcases j9 O with⟨i,t,rfl,rfl⟩ | ⟨x,t,rfl,rfl⟩
  ·rcases j9 z with⟨j,u,rfl,rfl⟩ | ⟨y,u,rfl,rfl⟩
   ·rw[uS]at h;exact wpAny_eqBool_int h
   ·rw[uR]at h;exact HY.int_str i t y u _ _ _ _ h
  ·rcases j9 z with⟨j,u,rfl,rfl⟩ | ⟨y,u,rfl,rfl⟩
   ·rw[uQ]at h;exact HY.str_int x t j u _ _ _ _ h
   ·rw[uP]at h;exact wpAny_eqBool_str h
 «strs» :=λk x t v h=>by
  rcases j9 h with⟨i,u,rfl,e⟩ | ⟨y,u,rfl,e⟩
  ·exact nomatch e
  ·injection e with e1 _
   subst e1;cases v<;>rfl
theorem YT(prog:il)(w:hH)(i:Int)(t:qs):(qY prog w).is (.inl i) (.int i t)=di:=cV i t
theorem YS(prog:il)(w:hH)(x:Str)(t:qs):(qY prog w).is (.inr x) (.str x t)=di:=cU x t
inductive V where
 | eX | bl (b:Bool) | int (i:Int) | str (x:Str) | D2 (b:Array UInt8) | DK (b:UInt64) | ref (a:eg) | ty (n:String)
 deriving DecidableEq
noncomputable def RelV:V->eh->Prop
 | .eX,u=>u=HB
 | .bl b,u=>u=Value.bool b
 | .int i,u=>∃t,u=Nu i t
 | .str x,u=>∃t,u=Nt x t
 | .D2 b,u=>∃t,u=Value.bytes b t
 | .DK b,u=>∃t,u=Value.float b t
 | .ref a,u=>u=Iz a
 | .ty n,u=>u=LY n
abbrev fh:List V->List eh->Prop:=Paired RelV
theorem fh.length(r:fh xs us):xs.length=us.length:=Paired.length r
theorem fh.get : ∀{xs:List V} {us:List eh} {i:Nat} {x:V},fh xs us->xs[i]? = bQ x->∃u,us[i]? = bQ u/\RelV x u
 | _,_,_,_,.nil,e=>by simp at e
 | _,_,0,_,.cons r _,e=>by simp at e;subst e;exact⟨_,rfl,r⟩
 | _,_,i+1,x,.cons _ t,e=>by obtain⟨u,a,b⟩:=fh.get (i:=i) (x:=x) t (by simpa using e);exact⟨u,by simpa using a,b⟩
theorem fh.set(r:RelV x u) : ∀{xs:List V} {us:List eh} (i:Nat),fh xs us->fh (xs.set i x) (us.set i u)
 | _,_,_,.nil=> .nil
 | _,_,0,.cons _ t=> .cons r t
 | _,_,i+1,.cons q t=> .cons q (fh.set r i t)
theorem fh.append : ∀{xs ys:List V} {us ws:List eh},fh xs us->fh ys ws->fh (xs++ys) (us++ws)
 | _,_,_,_,.nil,s=>s
 | _,_,_,_,.cons r t,s=> .cons r (fh.append t s)
theorem fh.take : ∀{xs:List V} {us:List eh} (n:Nat),fh xs us->fh (xs.take n) (us.take n)
 | _,_,0,_=> .nil
 | _,_,_+1,.nil=> .nil
 | _,_,n+1,.cons r t=> .cons r (fh.take n t)
theorem fh.drop : ∀{xs:List V} {us:List eh} (n:Nat),fh xs us->fh (xs.drop n) (us.drop n)
 | _,_,0,r=>r
 | _,_,_+1,.nil=> .nil
 | _,_,n+1,.cons _ t=>fh.drop n t
noncomputable def t6:Option V->Option eh->Prop
 | some v,bQ u=>RelV v u
 | none,dj=>True
 | _,_=>False
noncomputable def KV{C:Type}:List (C×V)->List (C×eh)->Prop:=Paired λ(p:C×V) (q:C×eh)=>p.1=q.1/\RelV p.2 q.2
noncomputable def kV:Key->V
 | .inl i=> .int i
 | .inr x=> .str x
inductive HO where
 | lst (xs:List V)
 | tup (xs:List V)
 | dK (kv:List (Key×V)) | dT (kv:List (List Key×V))
 | set (S:Int->Bool) (n:Nat)
 | ins (C dx:eg) (fs:List (Str×V))
 | own (x:eg)
 | xd (fs:List (Str×V))
 | met (f x:eg)
 | lU (lo hi:Int)
 | rb (o:m6) (u:HO)
 | Dy (ps:Array eh)
 | ext (φ:fy->Prop)
abbrev Hp:=eg->Option HO
noncomputable def upd(H:Hp)(a:eg)(o:HO):Hp:=λb=>if b=a then bQ o else H b
theorem zO:upd H a o a=bQ o:=by unfold upd;rw[RY rfl]
theorem zI(h:b≠a):upd H a o b=H b:=by unfold upd;rw[EQ h]
theorem aG{H:Hp}{a:eg}{o u:HO}:upd (upd H a o) a u=upd H a u:=by funext b;unfold upd;split<;>rfl
theorem j3{H:Hp}{a b:eg}{o:HO}(h:H a=bQ o)(h':H b=dj):a≠b:=by intro e;subst e;rw[h]at h';cases h'
noncomputable def u9(h:fy)(a:eg)(items:Array eh):Prop:=∃o,h.get? a=bQ o/\(o.cls,o.dict)=(LY "tuple",dj)/\∃n,o.data = .seq items n
theorem u9.new(h:fy)(items:Array eh):u9 (h.push {cls:= .type "tuple",data:= .seq items}) h.objs.size items:=⟨_,Hc _ rfl,rfl,_,rfl⟩
theorem u9.tup(x:u9 h a items):DX h a items:=let ⟨o,e,c,r⟩:=x;⟨o,e,(Prod.mk.inj c).1,r⟩
section
variable(P:il)(w:hH)
noncomputable def i6(H:Hp)(h:fy)(a:eg):HO->Prop
 | .lst d=>d.length<=fA/\∃(z:List eh) (n:Nat),fh d z/\h.get? a=bQ {cls:= .type "list",data:= .seq z.toArray n}
 | .tup d=>d.length<=fA/\∃z:List eh,fh d z/\u9 h a z.toArray
 | .dK b=>b.length<=fA/\(a==B5)=ed/\∃l,KV b l/\h.DictOf (qY P w) a l
 | .dT b=>b.length<=fA/\(a==B5)=ed/\∃d:List (List Key×eg×eh),
  Paired (λ(p:List Key×V) (q:List Key×eg×eh)=>p.1=q.1/\H q.2.1=bQ (.tup<|p.1.map kV)/\RelV p.2 q.2.2) b d/\
  ∃o i I,h.get? a=bQ o/\o.ExactDict/\o.data = .dict i I/\i.toList=d.map (entryOfKey<|tupleKind<|qY P w)/\(d.map (·.1)).Nodup
 | .set S n=>h.SetOf (intKind P w) a S n
 | .ins C e fs=>H e=bQ (.own a)/\fs.length<=1000/\e≠a/\h.get? a=bQ (PySem.W.instObj C e)/\
  ∃mA,h.Ns1 e mA/\(∀f,t6 (fs.lookup f)<|mA f)/\PySem.Within mA (fs.map (·.1))
 | .own _=>∃o,h.get? a=bQ o
 | .xd fs=>∃mA,h.Ns1 a mA/\∀f,t6 (fs.lookup f)<|mA f
 | .lU lo m=>∃t u v,h.get? a=bQ {cls:= .type "range",data:= .fields #[.int lo t,.int m u,.int 1 v]}
 | .rb o u=>h.get? a=bQ o/\i6 H h a u
 | .Dy r=>h.get? a=bQ {cls:= .none,data:= .fields r}
 | .met f x=>h.get? a=bQ (Nv (.ref f)<|.ref x)
 | .ext g=>g h/\(∃o,h.get? a=bQ o)/\∀j k:fy,g j->(∀o,j.get? a=bQ o->k.get? a=bQ o)->g k
noncomputable def kr(H:Hp)(h:fy):Prop:=∀a o,H a=bQ o->i6 P w H h a o
end
section
variable{P:il}{w:hH}{H H':Hp}{h h':fy}{a:eg}{o:HO}
theorem i6.lt(x:i6 P w H h a o):a<h.objs.size:=by
 cases o with
 | lst d=>obtain⟨_,_,_,_,e⟩:=x;exact GZ e
 | tup d=>obtain⟨_,_,_,p⟩:=x;exact p.tup.lt
 | dK b=>obtain⟨_,_,_,_,o,_,_,e,_⟩:=x;exact GZ e
 | dT b=>obtain⟨_,_,_,_,o,_,_,e,_⟩:=x;exact GZ e
 | set S n=>obtain⟨o,_,_,_,e,_⟩:=x;exact GZ e
 | ins C g fs=>obtain⟨_,_,_,e,_⟩:=x;exact GZ e
 | own y=>obtain⟨_,e⟩:=x;exact GZ e
 | xd fs=>obtain⟨_,⟨_,_,_,e,_⟩,_⟩:=x;exact GZ e
 | lU lo i=>obtain⟨_,_,_,e⟩:=x;exact GZ e
 | rb z u=>obtain⟨e,_⟩:=x;exact GZ e
 | Dy j=>exact GZ (show h.get? a=bQ _ from x)
 | met f y=>exact GZ (show h.get? a=bQ _ from x)
 | ext k=>obtain⟨_,⟨_,e⟩,_⟩:=x;exact GZ e
theorem Paired.Pf : ∀{z:List α} {I:List β},Paired F z I->(∀a b,F a b->G a b)->Paired G z I
 | _,_,.nil,_=> .nil
 | _,_,.cons r t,f=> .cons (f _ _ r) (Paired.Pf t f)
theorem i6.Dc(x:i6 P w H h a o)(k : ∀b u,(b=a\/H b=bQ (.own a))->h.get? b=bQ u->h'.get? b=bQ u)
 (J : ∀b,H b=bQ (.own a)->H' b=bQ (.own a)) (L : ∀b xs,H b=bQ (.tup xs)->H' b=bQ (.tup xs)):i6 P w H' h' a o:=by
 induction o with
 | lst xs=>obtain⟨z,U,n,r,e⟩:=x;exact⟨z,U,n,r,k _ _ (.inl rfl) e⟩
 | tup xs=>obtain⟨z,U,r,I,e,c⟩:=x;exact⟨z,U,r,I,k _ _ (.inl rfl) e,c⟩
 | dK i=>obtain⟨z,y,E,r,I,g,O,e,c⟩:=x;exact⟨z,y,E,r,I,g,O,k _ _ (.inl rfl) e,c⟩
 | dT i=>
  obtain⟨z,y,xs,r,I,g,O,e,c⟩:=x;exact⟨z,y,xs,Paired.Pf r λp q z=>⟨z.1,L _ _ z.2.1,z.2.2⟩,I,g,O,k _ _ (.inl rfl) e,c⟩
 | set S n=>obtain⟨I,g,O,t,e,c⟩:=x;exact⟨I,g,O,t,k _ _ (.inl rfl) e,c⟩
 | ins C F fs=>
  obtain⟨d,z,B,e,j,⟨l,g,O,s,c⟩,r⟩:=x;exact⟨J _ d,z,B,k _ _ (.inl rfl) e,j,⟨l,g,O,k _ _ (.inr d) s,c⟩,r⟩
 | own y=>obtain⟨I,e⟩:=x;exact⟨I,k _ _ (.inl rfl) e⟩
 | xd fs=>obtain⟨j,⟨l,g,O,e,c⟩,r⟩:=x;exact⟨j,⟨l,g,O,k _ _ (.inl rfl) e,c⟩,r⟩
 | lU lo G=>obtain⟨t,u,v,e⟩:=x;exact⟨t,u,v,k _ _ (.inl rfl) e⟩
 | rb I u A=>obtain⟨e,q⟩:=x;exact⟨k _ _ (.inl rfl) e,A q⟩
 | Dy m=>
  have e:h.get? a=bQ {cls:= .none,data:= .fields m}:=x;show h'.get? a=bQ {cls:= .none,data:= .fields m};exact k a _ (.inl rfl) e
 | met f y=>
  have e:h.get? a=bQ (Nv (.ref f)<|.ref y):=x;show h'.get? a=bQ (Nv (.ref f)<|.ref y);exact k a _ (.inl rfl) e
 | ext K=>obtain⟨p,⟨o,e⟩,st⟩:=x;exact⟨st _ _ p λo q=>k _ _ (.inl rfl) q,⟨o,k _ _ (.inl rfl) e⟩,st⟩
theorem kr.lt(x:kr P w H h)(e:H a=bQ o):a<h.objs.size:=(x a o e).lt
theorem kr.fresh(x:kr P w H h)(e:h.objs.size<=a):H a=dj:=by
 cases q:H a with
 | none=>rfl
 | some u=>exact absurd (Hm (x.lt q) e)<|HM _
theorem kr.kept(x:kr P w H h)(k : ∀b u,h.get? b=bQ u->h'.get? b=bQ u):kr P w H h':=λa o e=>
 (x a o e).Dc (λb u _ q=>k b u q) (λ_ q=>q) λ_ _ q=>q
theorem kr.laid(x:kr P w H h)(k : ∀b u,h.get? b=bQ u->h'.get? b=bQ u)(I:h.objs.size<=a)(new:i6 P w (upd H a o) h' a o):kr P w (upd H a o) h':=λb u e=>by
 have d:=x.fresh I;by_cases z:b=a
 ·subst z;rw[zO]at e;cases e;exact new
 ·rw[zI z]at e
  exact(x b u e).Dc (λc v _ q=>k c v q) (λc q=>by rw[zI (j3 q d)];exact q) λc f q=>by rw[zI (j3 q d)];exact q
end
noncomputable def Rd(H:Hp)(a:eg)(u:HO):Prop:=H a=bQ u\/∃o,H a=bQ (.rb o u)
theorem Rd.ok(r:Rd H a u)(x:kr P w H h):i6 P w H h a u:=by
 rcases r with r | ⟨o,r⟩
 ·exact x a u r
 ·obtain⟨_,q⟩:=x a _ r
  exact q
noncomputable def DZ:Option HO->Prop
 | some (.lst _)=>True
 | some (.dK _)=>True
 | some (.dT _)=>True
 | some (.set _ _)=>True
 | some (.ins _ _ _)=>True
 | some (.ext _)=>True
 | _=>False
section
variable{P:il}{w:hH}{H:Hp}{h h':fy}{x e:eg}{o':HO}
theorem kr.write(ok:kr P w H h)(I:DZ (H x))(C:e=x\/H e=bQ (.own x))(k : ∀b u,b≠e->h.get? b=bQ u->h'.get? b=bQ u)(J : ∃u,h'.get? e=bQ u)
 (new:i6 P w (upd H x o') h' x o'):kr P w (upd H x o') h':=λb u q=>by
 have d : ∀c y,H c=bQ (.own y)->c≠x:=λc y r z=>by subst z;rw[r]at I;exact I
 have g : ∀c a,H c=bQ (.tup a)->c≠x:=λc a r z=>by subst z;rw[r]at I;exact I
 by_cases O:b=x
 ·subst O;rw[zO]at q;cases q;exact new
 ·rw[zI O]at q
  by_cases U:b=e
  ·have f:H b=bQ (.own x):=by
    rcases C with z | z
    ·exact absurd (U.trans z) O
    ·rw[U];exact z
   rw[q]at f;cases f;obtain⟨v,i⟩:=J;exact⟨v,by rw[U];exact i⟩
  ·refine(ok b u q).Dc (λc v hc r=>k c v ?_ r) (λc r=>by rw[zI (d c b r)];exact r) λc a r=>by rw[zI (g c a r)];exact r
   rcases hc with rfl | hc
   ·exact U
   ·rintro rfl
    rcases C with z | z
    ·exact d c b hc z
    ·rw[hc]at z;cases z;exact O rfl
end
structure Un(fs ex:List eg)(H H':Hp)(h h':fy):Prop where
 keep : ∀b o,h.get? b=bQ o->H b=dj->b∉fs->b∉ex->h'.get? b=bQ o
 slot : ∀b o,h.get? b=bQ o->H b=dj->b∈fs->b∉ex->∃sl,h'.get? b=bQ {o with slots:=sl}
 free : ∀b o,h.get? b=bQ o->H b=dj->b∉ex->H' b=dj
 there : ∀b o,h.get? b=bQ o->b∉ex->∃o',h'.get? b=bQ o'
 B6 : ∀b xs,H b=bQ (.tup xs)->H' b=bQ (.tup xs)
 C7 : ∀b o u,H b=bQ (.rb o u)->H' b=bQ (.rb o u)
 Dz : ∀b ps,H b=bQ (.Dy ps)->∃more,H' b=bQ (.Dy<|ps++more)
section
variable{fs Ru ex Sn:List eg}{H H1 H2:Hp}{h h1 h2 h':fy}{a x e:eg}{o:HO}
theorem Un.any(u:Un fs ex H H1 h h1)(q:h.get? b=bQ ob)(n:H b=dj)(hx:b∉ex) : ∃C,h1.get? b=bQ {ob with slots:=C}:=by
 by_cases z:b∈fs
 ·exact u.slot b ob q n z hx
 ·exact⟨ob.slots,u.keep b ob q n z hx⟩
theorem Un.kept(k : ∀b u,h.get? b=bQ u->h'.get? b=bQ u):Un fs ex H H h h':=
 ⟨λb z q _ _ _=>k b z q,λb z q _ _ _=>⟨z.slots,k b z q⟩,λ_ _ _ n _=>n,λb z q _=>⟨z,k b z q⟩,λ_ _ q=>q,λ_ _ _ q=>q,λ_ a q=>⟨#[],by rw[q];simp⟩⟩
theorem Un.refl:Un fs ex H H h h:=Un.kept λ_ _ q=>q
theorem Un.laid(k : ∀b u,h.get? b=bQ u->h'.get? b=bQ u)(z:h.objs.size<=a)(hn:H a=dj):Un fs ex H (upd H a o) h h' where
 keep:=λb u q _ _ _=>k b u q
 slot:=λb u q _ _ _=>⟨u.slots,k b u q⟩
 free:=λb u q n _=>by rw[zI (Ho<|Hm (GZ q) z)];exact n
 there:=λb u q _=>⟨u,k b u q⟩
 B6:=λb xs q=>by rw[zI (j3 q hn)];exact q
 C7:=λb u xs q=>by rw[zI (j3 q hn)];exact q
 Dz:=λb ps q=>⟨#[],by rw[zI (j3 q hn),q];simp⟩
theorem Un.write(I:DZ (H x))(J:e=x\/H e=bQ (.own x))(k : ∀b u,b≠e->h.get? b=bQ u->h'.get? b=bQ u)(C : ∃u,h'.get? e=bQ u):Un fs ex H (upd H x o) h h':=by
 have d : ∀b,H b=dj->b≠x:=λb n z=>by subst z;rw[n]at I;exact I
 have O : ∀b,H b=dj->b≠e:=λb n z=>by
  subst z;rcases J with r | r
  ·exact d b n r
  ·rw[n]at r;cases r
 have a : ∀b u,H b=bQ u->¬DZ (bQ u)->b≠x:=λb u q nm z=>by subst z;rw[q]at I;exact nm I
 refine⟨λb u q n _ _=>k b u (O b n) q,λb u q n _ _=>⟨u.slots,k b u (O b n) q⟩,λb u q n _=>by rw[zI (d b n)];exact n,λb u q _=>?_,
  λb f q=>by rw[zI (a b _ q λz=>z)];exact q,λb u f q=>by rw[zI (a b _ q λz=>z)];exact q,λb g q=>⟨#[],by rw[zI (a b _ q λz=>z),q];simp⟩⟩
 by_cases U:b=e
 ·subst U;exact C
 ·exact⟨u,k b u U q⟩
end
noncomputable def L5(h:fy)(H:Hp):List eg:=(GH h.objs.size).filter λa=>(H a).isSome
noncomputable def iT(h:fy)(H:Hp):fy:=PySem.W.hideAll h<|L5 h H
theorem df(h:fy)(H:Hp):(iT h H).objs.size=h.objs.size:=PySem.W.hideAll_size _ _
theorem iR(e:h.get? b=bQ o)(n:H b=dj):(iT h H).get? b=bQ o:=
 PySem.W.hideAll_get _ e λa=>by have q:(H b).isSome=di:=(Hl.mp a).2;rw[n]at q;simp at q
theorem pe(e:(iT h H).get? b=bQ o):h.get? b=bQ o/\H b=dj:=by
 have I:h.get? b=bQ o:=PySem.W.of_hideAll (L5 h H) e;refine⟨I,?_⟩;cases q:H b with
 | none=>rfl
 | some x=>
  have a:b∈L5 h H:=Hl.mpr ⟨eY.mpr<|GZ I,by simp[q]⟩;have z:(iT h H).get? b=dj:=PySem.W.hideAll_none (L5 h H) a;rw[z]at e;cases e
noncomputable def rE(g h:fy)(L:eg):List (eg×m6):=(GH h.objs.size).filterMap λa=>if a=L\/(g.get? a).isSome=di then dj else (h.get? a).map λo=>(a,o)
noncomputable def kh(g h:fy)(L d:eg):List (eg×m6):=(rE g h L).filter λp=>decide<|p.1≠d
structure Mod(K:GI)(mg:RJ)(base:fy):Prop where
 Ot:K.In base
 glob:base.Ns u0 mg
 blt : ∃mb,base.Ns O4 mb/\∀x:Str,x ≠ "__name__"->mb x=C2 x
 nolimit:base.NoLimit
structure Cx where
 prog:il
 w:hH
 K:GI
 mg:Str->Option eh
 base:fy
 A:l6
 N:List Str
 m3:el
 DW:Hp
 env:m5
 outer:List m5
 stack:List m5
 ex:List eg
 fn:Str->Bool
 calm:Bool
 pn:List (eg×m6)
 xe:eh->el->Prop
noncomputable def t9(l:List m5):List eg:=l.filterMap (·.frame)
abbrev Cx.fs(X:Cx):List eg:=t9 X.outer
noncomputable def N2(C:hG)(x:Str):Prop:=C.names.lookup x=bQ .local\/C.names.lookup x=bQ .cell\/C.names.lookup x=bQ .free
noncomputable def Loc(C:hG)(x:Str):Prop:=C.names.lookup x=bQ .local\/C.names.lookup x=bQ .cell
noncomputable def Gq(env:m5)(h:fy)(m:RJ)(x:Str)(u:eh):Prop:=
 (env.kindOf x=bQ .local/\m x=bQ u)\/((env.kindOf x=bQ .cell\/env.kindOf x=bQ .free)/\∃c,env.cells.lookup x=bQ c/\h.IsCell c (bQ u))
structure Cx.Ok(X:Cx):Prop where
 mod:Mod X.K X.mg X.base
 kind:X.env.scope.kind = .function
 glob:X.env.globals=u0
 blt:X.env.builtins=O4
 above:X.m3.heap.objs.size<=X.env.locals
 inj : ∀x y c,X.env.cells.lookup x=bQ c->X.env.cells.lookup y=bQ c->x=y
 has : ∀x,(X.env.kindOf x=bQ .cell\/X.env.kindOf x=bQ .free)->∃c,X.env.cells.lookup x=bQ c
 D3 : ∀x c,X.fn x=di->X.env.cells.lookup x=bQ c->X.m3.heap.objs.size<=c
 hd:X.calm=di->X.A.handled=dj
 frames:X.A.frames=bQ X.stack
 I8:X.stack=X.outer\/(X.stack=X.env::X.outer/\X.env.frame=bQ X.env.locals)
 F9 : ∀b∈X.ex,b≠X.env.locals/\∀x c,X.env.cells.lookup x=bQ c->c≠b
 bs : ∀b o,X.base.get? b=bQ o->X.m3.heap.get? b=bQ o/\X.DW b=dj
 wb:X.base.objs.size<=X.m3.heap.objs.size
 D8 : ∀b o,X.base.get? b=bQ o->b∉X.ex
 D5 : ∀b∈X.ex,b∉X.fs
 ro:X.m3.heap.FunFrames X.base X.outer
 C6 : ∀b∈X.fs,X.DW b=dj
structure Inv(X:Cx)(pins:RW)(σ:List (Option V))(H:Hp)(s:el):Prop where
 ok:X.Ok
 os:s.os=X.m3.os
 bare:B7 s.gens
 base:Un X.fs X.ex X.DW H X.m3.heap s.heap
 loc : ∃m,s.heap.Ns X.env.locals m/\∀(i:Nat) (x:Str) (v:V),X.N[i]? = bQ x->σ[i]? = bQ (bQ v)->N2 X.env.scope x->∃u,RelV v u/\Gq X.env s.heap m x u
 cell : ∀x c,X.env.cells.lookup x=bQ c->∃v,s.heap.IsCell c v
 free:H X.env.locals=dj
 t8 : ∀x c,X.env.cells.lookup x=bQ c->H c=dj
 pin : ∀p∈X.pn++pins,s.heap.get? p.1=bQ p.2/\H p.1=dj/\p.1≠X.env.locals/\p.1∉X.fs/\∀v,p.2.data ≠ .cell v
 f6:kr X.prog X.w H s.heap
 len:σ.length=X.N.length
section
variable{X:Cx}{pins:RW}{σ:List (Option V)}{H H':Hp}{s:el}{h':fy}
theorem Cx.Ok.RL(ok:X.Ok)(e:X.base.get? b=bQ o):b∉X.fs:=λz=>by have:=(ok.ro.mem z).1;rw[e]at this;cases this
theorem Inv.bs(I:Inv X pins σ H s) : ∀b o,X.base.get? b=bQ o->s.heap.get? b=bQ o/\H b=dj:=λb o e=>
 ⟨I.base.keep b o (I.ok.bs b o e).1 (I.ok.bs b o e).2 (I.ok.RL e) (I.ok.D8 b o e),I.base.free b o (I.ok.bs b o e).1 (I.ok.bs b o e).2 (I.ok.D8 b o e)⟩
theorem Inv.bk(I:Inv X pins σ H s) : ∀b o,X.base.get? b=bQ o->s.heap.get? b=bQ o:=λb o e=>(I.bs b o e).1
theorem Inv.mod(I:Inv X pins σ H s):Mod X.K X.mg X.base:=I.ok.mod
theorem Inv.l9(I:Inv X pins σ H s):X.K.In s.heap:=I.ok.mod.Ot.keeps I.bk
theorem Inv.lt(I:Inv X pins σ H s):X.env.locals<s.heap.objs.size:=let ⟨_,a,_⟩:=I.loc;a.lt
theorem Inv.sz(I:Inv X pins σ H s):X.m3.heap.objs.size<=s.heap.objs.size:=Ia I.ok.above<|Ng I.lt
theorem Inv.RN(I:Inv X pins σ H s)(h:s.heap.objs.size<=a):a∉X.fs:=λz=>by obtain⟨_,o,O,_⟩:=I.ok.ro.mem z;exact absurd (Hm (GZ O)<|Ia I.sz h)<|HM _
theorem Inv.Dp(I:Inv X pins σ H s) : ∀x c,X.env.cells.lookup x=bQ c->c≠X.env.locals:=λx c e z=>by obtain⟨v,o,O,a⟩:=I.cell x c e;obtain⟨m,⟨g,f,d,U,b,_⟩,_⟩:=I.loc;rw[z,U]at O;cases O;rw[b]at a;cases a
theorem Inv.ro(I:Inv X pins σ H s):s.heap.FunFrames X.base X.outer:=by
 have all : ∀(l:List m5),(∀b∈t9 l,b∈X.fs)->X.m3.heap.FunFrames X.base l->s.heap.FunFrames X.base l:=by
  intro l
  induction l with
  | nil=>intro _ _;trivial
  | cons f r n=>
   intro d i;obtain⟨h,⟨L,o,O,j,k,g⟩,m⟩:=i;have U:L∈X.fs:=d L (by unfold t9;rw[Nn,O];exact Ha);obtain⟨p,e⟩:=I.base.slot L o k (I.ok.C6 L U) U λz=>I.ok.D5 L z U;exact⟨h,⟨L,_,O,j,e,g⟩,n (λb a=>d b<|by unfold t9;rw[Nn,O];exact GX _ a) m⟩
 exact all X.outer (λ_ a=>a) I.ok.ro
theorem Inv.stack(I:Inv X pins σ H s):s.heap.FunFrames X.base X.stack:=by
 rcases I.ok.I8 with e | ⟨e,z⟩
 ·rw[e];exact I.ro
 ·rw[e]
  obtain⟨m,a,_⟩:=I.loc;refine .cons (by rw[I.ok.kind];decide) z a ?_ I.ro;exact Heap.get?_none_of_le<|Ia I.ok.wb I.ok.above
theorem Inv.OM(I:Inv X pins σ H s) : ∀b∈t9 X.stack,b∈X.env.locals::X.fs:=λb z=>by
 rcases I.ok.I8 with e | ⟨e,O⟩
 ·rw[e]at z;exact GX _ z
 ·rw[e]at z
  unfold t9 at z;rw[Nn,O]at z;exact z
theorem Inv.Pw(I:Inv X pins σ H s) : ∀b∈t9 X.stack,H b=dj:=λb O=>by
 rcases GW.mp (I.OM b O)with e | O
 ·rw[e];exact I.free
 ·obtain⟨_,o,U,_⟩:=I.ok.ro.mem O
  exact I.base.free b o U (I.ok.C6 b O) λz=>I.ok.D5 b z O
theorem Inv.step{g':Array GenState}{t':Nat}{d':Drawn}{ch:List eg}(I:Inv X pins σ H s)
 (L : ∀b∈ch,(b∈X.ex\/X.m3.heap.objs.size<=b)/\b≠X.env.locals/\(∀x c,X.env.cells.lookup x=bQ c->c≠b)/\∀p∈X.pn++pins,p.1≠b)
 (keep : ∀b o,b≠X.env.locals->b∉X.fs->b∉ch->s.heap.get? b=bQ o->H b=dj->h'.get? b=bQ o)
 (C : ∀b o,b≠X.env.locals->b∈X.fs->b∉ch->s.heap.get? b=bQ o->H b=dj->∃sl,h'.get? b=bQ {o with slots:=sl}) (free : ∀b o,b∉ch->s.heap.get? b=bQ o->H b=dj->H' b=dj)
 (J : ∀b o,b∉ch->s.heap.get? b=bQ o->∃Y,h'.get? b=bQ Y)
 (B6 : ∀b xs,H b=bQ (.tup xs)->H' b=bQ (.tup xs)) (S : ∀b o u,H b=bQ (.rb o u)->H' b=bQ (.rb o u)) (Z : ∀b ps,H b=bQ (.Dy ps)->∃more,H' b=bQ (.Dy<|ps++more))
 (ns : ∀m,s.heap.Ns X.env.locals m->h'.Ns X.env.locals m) (f6:kr X.prog X.w H' h') (hg:B7 g') :
 Inv X pins σ H' {s with heap:=h',gens:=g',drawn:=d',toks:=t'}:=by
 have y : ∀b o,X.m3.heap.get? b=bQ o->b≠X.env.locals:=λb o e=>Ho<|Hm (GZ e) I.ok.above;have j : ∀b o,X.m3.heap.get? b=bQ o->b∉X.ex->b∉ch:=λb o e a O=>by
  rcases (L b O).1 with z | z
  ·exact a z
  ·exact absurd (Hm (GZ e) z)<|HM _
 have A : ∀x c,X.env.cells.lookup x=bQ c->∀v,s.heap.IsCell c v->h'.IsCell c v:=λx c e v N=>by
  obtain⟨o,U,t⟩:=N;have g:c∉ch:=λz=>(L c z).2.2.1 x c e rfl;by_cases B:c∈X.fs
  ·obtain⟨sl,q⟩:=C c o (I.Dp x c e) B g U (I.t8 x c e)
   exact⟨_,q,t⟩
  ·exact⟨o,keep c o (I.Dp x c e) B g U<|I.t8 x c e,t⟩
 refine⟨I.ok,I.os,hg,⟨λb o e n O a=>?_,λb o e n O a=>?_,λb o e n a=>?_,λb o e a=>?_,λb xs e=>B6 b xs<|I.base.B6 b xs e,λb o xs e=>S b o xs<|I.base.C7 b o xs e,λb ps e=>?_⟩,?_,λx c e=>?_,?_,λx c e=>?_,λp E=>?_,f6,I.len⟩
 ·exact keep b o (y b o e) O (j b o e a) (I.base.keep b o e n O a)<|I.base.free b o e n a
 ·obtain⟨sl,f⟩:=I.base.slot b o e n O a
  obtain⟨K,h⟩:=C b _ (y b o e) O (j b o e a) f<|I.base.free b o e n a;exact⟨K,h⟩
 ·obtain⟨Y,f⟩:=I.base.there b o e a
  exact free b Y (j b o e a) f<|I.base.free b o e n a
 ·obtain⟨Y,f⟩:=I.base.there b o e a
  exact J b Y (j b o e a) f
 ·obtain⟨R,f⟩:=I.base.Dz b ps e
  obtain⟨T,h⟩:=Z b _ f;exact⟨R++T,by rw[h,Array.append_assoc]⟩
 ·obtain⟨m,Q,P⟩:=I.loc
  refine⟨m,ns m Q,λi x v f h M=>?_⟩;obtain⟨u,r,l⟩:=P i x v f h M;refine⟨u,r,?_⟩;rcases l with l | ⟨k,c,e,z⟩
  ·exact .inl l
  ·exact .inr ⟨k,c,e,A x c e _ z⟩
 ·obtain⟨v,z⟩:=I.cell x c e
  exact⟨v,A x c e v z⟩
 ·obtain⟨m,⟨o,_,_,U,_⟩,_⟩:=I.loc
  exact free _ o (λz=>(L _ z).2.1 rfl) U I.free
 ·obtain⟨v,o,U,t⟩:=I.cell x c e
  exact free c o (λz=>(L c z).2.2.1 x c e rfl) U<|I.t8 x c e
 ·obtain⟨e,n,F,G,d⟩:=I.pin p E
  have g:p.1∉ch:=λz=>(L p.1 z).2.2.2 p E rfl;exact⟨keep p.1 p.2 F G g e n,free p.1 p.2 g e n,F,G,d⟩
theorem Inv.un{t':Nat}(I:Inv X pins σ H s)(u:Un X.fs [] H H' s.heap h')(C:kr X.prog X.w H' h'):Inv X pins σ H' {s with heap:=h',toks:=t'}:=by
 obtain⟨m,⟨o,k,j,U,r⟩,_⟩:=id I.loc;obtain⟨t,g⟩:=u.any U I.free ⋯;exact I.step (g':=s.gens) (d':=s.drawn) (ch:=[]) (λ_ z=>nomatch z) (λb o _ O _ e n=>u.keep b o e n O ⋯) (λb o _ O _ e n=>u.slot b o e n O ⋯) (λb o _ e n=>u.free b o e n ⋯) (λb o _ e=>u.there b o e ⋯) u.B6 u.C7 u.Dz (λl h=>by obtain⟨p,d,f,a,i⟩:=h;rw[U]at a;cases a;exact⟨_,d,f,g,i⟩) C I.bare
theorem Inv.call{g':Array GenState}{t':Nat}{d':Drawn}{ch:List eg}(I:Inv X pins σ H s)(u:Un (t9 X.stack) ch H H' s.heap h')(C:kr X.prog X.w H' h')(L:B7 g')
 (J : ∀b∈ch,(b∈X.ex\/X.m3.heap.objs.size<=b)/\b≠X.env.locals/\(∀x c,X.env.cells.lookup x=bQ c->c≠b)/\∀p∈X.pn++pins,p.1≠b) :
 Inv X pins σ H' {s with heap:=h',gens:=g',drawn:=d',toks:=t'}:=by
 obtain⟨m,⟨o,l,k,d,r⟩,_⟩:=id I.loc;obtain⟨A,U⟩:=u.any d I.free λz=>(J _ z).2.1 rfl;exact I.step (ch:=ch) J (λb o U h O e n=>u.keep b o e n (λz=>(GW.mp<|I.OM b z).elim U h) O) (λb o _ _ O e n=>u.any e n O) (λb o O e n=>u.free b o e n O) (λb o O e=>u.there b o e O) u.B6 u.C7 u.Dz (λt i=>by obtain⟨y,f,g,a,j⟩:=i;rw[d]at a;cases a;exact⟨_,f,g,U,j⟩) C L
theorem Inv.turned{t':Nat}{it:eg}(I:Inv X pins σ H s)(k : ∀b o,b≠it->s.heap.get? b=bQ o->h'.get? b=bQ o)(S:H it=dj)(U:it≠X.env.locals)
 (C:it∈X.ex\/X.m3.heap.objs.size<=it) (J : ∀x c,X.env.cells.lookup x=bQ c->c≠it) (L : ∀p∈X.pn++pins,p.1≠it):Inv X pins σ H {s with heap:=h',toks:=t'}:=by
 have a : ∀b u,H b=bQ u->b≠it:=λb u e z=>by rw[z,S]at e;cases e
 refine I.step (g':=s.gens) (d':=s.drawn) (ch:=[it]) (λb g=>?_) (λb o _ _ O e _=>k b o (λz=>O<|by simp[z]) e) (λb o _ _ O e _=>⟨o.slots,k b o (λz=>O<|by simp[z]) e⟩) (λ_ _ _ _ n=>n)
  (λb o O e=>⟨o,k b o (λz=>O<|by simp[z]) e⟩) (λ_ _ e=>e) (λ_ _ _ e=>e) (λb j e=>⟨#[],by rw[e];simp⟩) (λm h=>?_) (λb u e=>?_) I.bare
 ·have e:b=it:=by simpa using g
  subst e;exact⟨C,U,J,L⟩
 ·obtain⟨o,f,d,i,r⟩:=h
  exact⟨o,f,d,k _ o (Hu U) i,r⟩
 ·refine(I.f6 b u e).Dc (λc v O q=>k c v ?_ q) (λ_ q=>q) λ_ _ q=>q
  rcases O with z | z
  ·rw[z];exact a b u e
  ·exact a c _ z
theorem Inv.tok(I:Inv X pins σ H s)(t:Nat):Inv X pins σ H {s with toks:=t}:=I.un (h':=s.heap) (t':=t) Un.refl I.f6
theorem Inv.kept(I:Inv X pins σ H s)(k : ∀b u,s.heap.get? b=bQ u->h'.get? b=bQ u):Inv X pins σ H {s with heap:=h',toks:=t'}:=I.un (Un.kept k)<|I.f6.kept k
theorem Inv.laid(I:Inv X pins σ H s)(k : ∀b u,s.heap.get? b=bQ u->h'.get? b=bQ u)(z:s.heap.objs.size<=a)(new:i6 X.prog X.w (upd H a o) h' a o) :
 Inv X pins σ (upd H a o) {s with heap:=h',toks:=t'}:=I.un (Un.laid k z<|I.f6.fresh z)<|I.f6.laid k z new
theorem Inv.write(I:Inv X pins σ H s)(z:DZ (H x))(O:e=x\/H e=bQ (.own x))(k : ∀b u,b≠e->s.heap.get? b=bQ u->h'.get? b=bQ u)(U : ∃u,h'.get? e=bQ u)
 (new:i6 X.prog X.w (upd H x o) h' x o):Inv X pins σ (upd H x o) {s with heap:=h',toks:=t'}:=I.un (Un.write z O k U)<|I.f6.write z O k U new
theorem Inv.H8(I:Inv X pins σ H s)(h : ∀p∈O,s.heap.get? p.1=bQ p.2/\H p.1=dj/\p.1≠X.env.locals/\p.1∉X.fs/\∀v,p.2.data ≠ .cell v):Inv X O σ H s:=
 ⟨I.ok,I.os,I.bare,I.base,I.loc,I.cell,I.free,I.t8,λp U=>(Lw.mp U).elim (λz=>I.pin p<|Ni _ z) (h p),I.f6,I.len⟩
theorem VZ{N:List Str}(z:N.Nodup){i j:Nat}{x:Str}(a:N[i]? = bQ x)(b:N[j]? = bQ x):i=j:=by obtain⟨e,d⟩:=GU.mp a;obtain⟨f,I⟩:=GU.mp b;exact(List.getElem_inj z).mp (d.trans I.symm)
theorem Kj{M:Model}{A:l6}{E:RQ}{i:Nat}{x:Str}{v:V}{u:eh}{Q:Unit->el->Prop}(I:Inv X pins σ H s)(hN:X.N.Nodup)(C:X.N[i]? = bQ x)(hx:Loc X.env.scope x)(r:RelV v u)
 (h : ∀Y,Inv X pins (σ.set i<|some v) H Y->(∃a,Mi a s.heap Y.heap/\(a=X.env.locals\/X.env.cells.lookup x=bQ a))->Q () Y) (hf:X.fn x=di\/X.env.scope.names.lookup x=bQ .local:=by first | exact .inl rfl | exact .inr rfl | assumption):wpAny M A (storeName X.env x u) Q E s:=by
 obtain⟨m,L,hl⟩:=id I.loc;have b6:(X.env.scope.kind == .class || (X.env.scope.kind == .module && X.env.locals != X.env.globals))=ed:=by rw[I.ok.kind];rfl
 have am:i<σ.length:=by rw[I.len];exact(GU.mp C).1
 have Dp:=I.Dp;have an : ∀{a:eg} {h':fy},(∃o,s.heap.get? a=bQ o/\H a=dj)->Mi a s.heap h'->kr X.prog X.w H h':=λ{a h'} ha f b ob e=>by
  obtain⟨_,_,ap⟩:=ha;refine(I.f6 b ob e).Dc (λc G O q=>(f.2 c ?_).trans q) (λ_ q=>q) λ_ _ q=>q;rintro rfl;rcases O with rfl | O
  ·rw[ap]at e;cases e
  ·rw[ap]at O;cases O
 rcases hx with hk | hk
 ·refine wpAny_storeName_local hk L (λh' b8 f=>?_) b6
  obtain⟨oL,_,_,bb,_⟩:=id L;refine h _ ⟨I.ok,I.os,I.bare,⟨λb o e n l hx=>?_,λb o e n l hx=>?_,I.base.free,λb o e hx=>?_,I.base.B6,I.base.C7,I.base.Dz⟩,⟨_,b8,λj y v' g U K=>?_⟩,λy c e=>?_,I.free,I.t8,λp P=>?_,an ⟨oL,bb,I.free⟩ f,by simpa using I.len⟩ ⟨_,f,.inl rfl⟩
  ·exact(f.2 b<|Ho<|Hm (GZ e) I.ok.above).trans (I.base.keep b o e n l hx)
  ·obtain⟨W,g⟩:=I.base.slot b o e n l hx
   exact⟨W,(f.2 b<|Ho<|Hm (GZ e) I.ok.above).trans g⟩
  ·obtain⟨S,g⟩:=I.base.there b o e hx
   exact⟨S,(f.2 b<|Ho<|Hm (GZ e) I.ok.above).trans g⟩
  ·by_cases t:j=i
   ·subst t
    rw[C]at g;cases g;rw[Hf am]at U;cases U;exact⟨u,r,.inl ⟨hk,by simp⟩⟩
   ·rw[GP (Hu t)]at U
    obtain⟨Z,T,q⟩:=hl j y v' g U K;refine⟨Z,T,?_⟩;rcases q with⟨k,e⟩ | ⟨k,c,e,z⟩
    ·refine .inl ⟨k,?_⟩
     have:y≠x:=λe=>t<|VZ hN g<|e ▸ C;simp[this,e]
    ·exact .inr ⟨k,c,e,z.sameBut f<|Dp y c e⟩
  ·obtain⟨G,z⟩:=I.cell y c e
   exact⟨G,z.sameBut f<|Dp y c e⟩
  ·obtain⟨e,n,F,R,d⟩:=I.pin p P
   exact⟨(f.2 p.1 F).trans e,n,F,R,d⟩
 ·have J:X.fn x=di:=by
   rcases hf with z | z
   ·exact z
   ·rw[z]at hk;cases hk
  obtain⟨c,O⟩:=I.ok.has x<|.inl hk;obtain⟨G,z⟩:=I.cell x c O;refine wpAny_storeName_cell I.ok.kind hk O z<|λh' as f=>?_;obtain⟨oc,ax,bd⟩:=id z;refine h {s with heap:=h'} ⟨I.ok,I.os,I.bare,⟨λb o e n l hx=>?_,λb o e n l hx=>?_,I.base.free,λb o e hx=>?_,I.base.B6,I.base.C7,I.base.Dz⟩,⟨m,L.sameBut f<|Hu<|Dp x c O,λj y v' g U K=>?_⟩,λy B e=>?_,I.free,I.t8,λp P=>?_,an ⟨oc,ax,I.t8 x c O⟩ f,by simpa using I.len⟩ ⟨c,f,.inr O⟩
  ·exact(f.2 b<|Ho<|Hm (GZ e)<|I.ok.D3 x c J O).trans (I.base.keep b o e n l hx)
  ·obtain⟨W,g⟩:=I.base.slot b o e n l hx
   exact⟨W,(f.2 b<|Ho<|Hm (GZ e)<|I.ok.D3 x c J O).trans g⟩
  ·obtain⟨S,g⟩:=I.base.there b o e hx
   exact⟨S,(f.2 b<|Ho<|Hm (GZ e)<|I.ok.D3 x c J O).trans g⟩
  ·by_cases t:j=i
   ·subst t
    rw[C]at g;cases g;rw[Hf am]at U;cases U;exact⟨u,r,.inr ⟨.inl hk,c,O,as⟩⟩
   ·rw[GP (Hu t)]at U
    obtain⟨Z,T,q⟩:=hl j y v' g U K;refine⟨Z,T,?_⟩;rcases q with q | ⟨k,B,e,z'⟩
    ·exact .inl q
    ·refine .inr ⟨k,B,e,z'.sameBut f ?_⟩
     rintro rfl;exact t<|VZ hN g<|I.ok.inj _ _ _ e O ▸ C
  ·by_cases b0:B=c
   ·subst b0;exact⟨_,as⟩
   ·obtain⟨w2,z2⟩:=I.cell y B e
    exact⟨w2,z2.sameBut f b0⟩
  ·obtain⟨e,n,F,R,d⟩:=I.pin p P
   refine⟨(f.2 p.1 ?_).trans e,n,F,R,d⟩;intro q;rw[q,ax]at e;have q':oc=p.2:=Hx e;exact d G (by rw[<- q'];exact bd)
theorem VA(I:Inv X pins σ H s)(z:X.N.Nodup)(J:X.N[i]? = bQ x)(hx:Loc X.env.scope x)(r:RelV v u)
 (h : ∀C,Inv X pins (σ.set i<|some v) H C->Q () C) (O:X.fn x=di\/X.env.scope.names.lookup x=bQ .local:=by first | exact .inl rfl | exact .inr rfl | assumption):wpAny M A (storeName X.env x u) Q E s:=
 Kj I z J hx r (λC U _=>h C U) O
theorem Inv.Rm(I:Inv X pins σ H s)(z:s'.os=s.os)(u:Un (t9 X.stack) ch H H' s.heap s'.heap)(C:kr X.prog X.w H' s'.heap)(O:B7 s'.gens)
 (U : ∀b∈ch,(b∈X.ex\/X.m3.heap.objs.size<=b)/\b≠X.env.locals/\(∀x c,X.env.cells.lookup x=bQ c->c≠b)/\∀p∈X.pn++pins,p.1≠b):Inv X pins σ H' s':=by
 obtain⟨h',g',d',t',a⟩:=s';have e:a=s.os:=z;subst e;exact I.call (g':=g') (t':=t') (d':=d') u C O U
end
abbrev XK:=eh->Option eg->Hp->Prop
abbrev St:=List (Option V)
abbrev VK:=V->Hp->Prop
abbrev TE:=St->Hp->VK->Prop
abbrev TT:=St->Hp->(Bool->Hp->Prop)->Prop
abbrev TA:=St->Hp->(List V->Hp->Prop)->Prop
structure Ends where
 nx:St->Hp->Prop
 rt:VK
 bk:St->Hp->Prop:=λ_ _=>False
 ct:St->Hp->Prop:=λ_ _=>False
abbrev TS:=Ends->St->Hp->Prop
noncomputable def EP(X:Cx)(C:RW)(J:St)(Q:VK)(u:eh)(I:el):Prop:=∃v a,Inv X C J a I/\RelV v u/\Q v a
noncomputable def TP(X:Cx)(C:RW)(J:St)(Q:Bool->Hp->Prop)(b:Bool)(I:el):Prop:=∃a,Inv X C J a I/\Q b a
noncomputable def AP(X:Cx)(C:RW)(J:St)(Q:List V->Hp->Prop)(us:List eh)(I:el):Prop:=∃b a,Inv X C J a I/\fh b us/\Q b a
noncomputable def SP(X:Cx)(C:RW)(D:Ends)(f:Flow)(I:el):Prop:=
 match f with
 | .next=>∃a b,Inv X C a b I/\D.nx a b
 | .brk=>∃a b,Inv X C a b I/\D.bk a b
 | .cont=>∃a b,Inv X C a b I/\D.ct a b
 | .ret u=>∃v a b,Inv X C a b I/\RelV v u/\D.rt v b
noncomputable def PE(X:Cx)(e:eA)(t:TE):Prop:=
 ∀(a:RW) (s:el) (b:St) (H:Hp) (Q:VK),Inv X a b H s->t b H Q->wpAny (eK X.prog X.w) X.A (eL e X.env) (EP X a b Q) X.xe s
noncomputable def PT(X:Cx)(e:eA)(t:TT):Prop:=
 ∀(a:RW) (s:el) (b:St) (H:Hp) (Q:Bool->Hp->Prop),Inv X a b H s->t b H Q->wpAny (eK X.prog X.w) X.A (Ds e X.env<|eval e X.env) (TP X a b Q) X.xe s
noncomputable def PW(X:Cx)(e:eA)(t:TT):Prop:=
 ∀(z:Sem eh) (a:RW) (s:el) (b:St) (H:Hp) (Q:Bool->Hp->Prop),Inv X a b H s->t b H Q->wpAny (eK X.prog X.w) X.A (Ds e X.env z) (TP X a b Q) X.xe s
theorem PW.pt(h:PW X e t):PT X e t:=h _
noncomputable def PA(X:Cx)(C:List eA)(t:TA):Prop:=
 ∀(pos:g8) (a:RW) (s:el) (b:St) (H:Hp) (Q:List V->Hp->Prop),Inv X a b H s->t b H Q->wpAny (eK X.prog X.w) X.A (I7<|backTo pos<|starEach C X.env) (AP X a b Q) X.xe s
noncomputable def PS(X:Cx)(st:i5)(t:TS):Prop:=
 ∀(a:RW) (s:el) (b:St) (H:Hp) (D:Ends),Inv X a b H s->t D b H->wpAny (eK X.prog X.w) X.A (exec st X.env) (SP X a D) X.xe s
noncomputable def o9(X:Cx)(st:List i5)(t:TS):Prop:=
 ∀(a:RW) (s:el) (b:St) (H:Hp) (D:Ends),Inv X a b H s->t D b H->wpAny (eK X.prog X.w) X.A (execs st X.env) (SP X a D) X.xe s
theorem e9(h:wpAny M A t Q E s)(z : ∀a s,Q a s->Q' a s):wpAny M A t Q' E s:=IY h z λ_ _ x=>x
section
variable{X:Cx}
noncomputable def rJ(i:Nat):TE:=λa H Q=>∃v,a[i]? = bQ (bQ v)/\Q v H
noncomputable def tC(v:V):TE:=λ_ H Q=>Q v H
theorem uh(L:X.N[i]? = bQ x)(S:N2 X.env.scope x)(C:(x==("__debug__" : Str))=ed:=by decide)(J:(x==("__classdict__" : Str))=ed:=by decide):PE X (.Name x pos) (rJ i):=by
 intro a s j H Q I h;obtain⟨v,e,h⟩:=h;obtain⟨m,g,d⟩:=I.loc;obtain⟨u,r,l⟩:=d i x v L e S;have O:EP X a j Q u s:=⟨v,H,I,r,h⟩;rcases l with⟨z,f⟩ | ⟨z,c,U,b⟩
 ·exact PK (wpAny_loadName_local I.ok.kind z g f O) C
 ·rcases z with z | z
  ·exact PK (wpAny_loadName_cell I.ok.kind z U b O) C
  ·exact PK (wpAny_loadName_free I.ok.kind z U b O J) C
theorem uu:PE X (.Constant (.int i) j pos) (tC<|.int i):=λ_ _ _ H _ I h=>wpAny_Constant_int ⟨.int i,H,I.tok _,⟨_,rfl⟩,h⟩
theorem Cf:PE X (.Constant (.bool b) j pos) (tC<|.bl b):=λ_ _ _ H _ I h=>Constant_bool ⟨.bl b,H,I,rfl,h⟩
theorem uo:PE X (.Constant .none j pos) (tC .eX):=λ_ _ _ H _ I h=>Constant_none ⟨.eX,H,I,rfl,h⟩
theorem uj:PE X (.Constant (.str x) j pos) (tC<|.str x):=λ_ _ _ H _ I h=>Calls.Constant_str ⟨.str x,H,I.tok _,⟨_,rfl⟩,h⟩
noncomputable def Gl(X:Cx)(x:Str):Prop:=X.env.kindOf x=bQ .globalImplicit
theorem cR(I:Inv X pins σ H s)(z:Gl X x)(J:X.mg x=bQ u)(h:Q u s)
 (C:(x==("__debug__" : Str))=ed:=by decide):wpAny (eK X.prog X.w) X.A (eL (.Name x pos) X.env) Q E s:=
 Calls.Name_function_global I.ok.kind z (Calls.loadGlobal_global (by rw[I.ok.glob];exact I.mod.glob.keeps I.bk) J h) C
theorem yo(I:Inv X pins σ H s)(z:Gl X x)(J:X.mg x=dj)(O:C2 x=bQ u)(h:Q u s)
 (L:x ≠ "__name__":=by decide) (C:(x==("__debug__" : Str))=ed:=by decide):wpAny (eK X.prog X.w) X.A (eL (.Name x pos) X.env) Q E s:=by
 obtain⟨d,a,b⟩:=I.mod.blt;exact Calls.Name_function_global I.ok.kind z (Calls.loadGlobal_builtin (by rw[I.ok.glob];exact I.mod.glob.keeps I.bk) J (by rw[I.ok.blt];exact a.keeps I.bk) ((b x L).trans O) h) C
variable{a b:eA}{ta tb:TE}{pos:g8}
noncomputable def PC(X:Cx)(z:CmpOp)(a b:eA)(t:TE):Prop:=
 ∀(d:RW) (s:el) (e:St) (H:Hp) (Q:VK),Inv X d e H s->t e H Q->
  wpAny (eK X.prog X.w) X.A (eL a X.env) (λv I=>wpAny (eK X.prog X.w) X.A (eL b X.env) (λu O=>wpAny (eK X.prog X.w) X.A (n3 z v u) (EP X d e Q) X.xe O) X.xe I) X.xe s
theorem ir(b:eA)(h:op ≠ .In)(C:op ≠ .NotIn):vu op b=ed:=by
 have a:(op==CmpOp.In)=ed:=by cases op<;>first | rfl | exact absurd rfl h
 have z:(op==CmpOp.NotIn)=ed:=by cases op<;>first | rfl | exact absurd rfl C
 cases b<;>simp[vu,a,z]
noncomputable def tB(t:TE):TT:=λb H Q=>t b H λx a=>∃c,x = .bl c/\Q c a
theorem tZ(h:PC X op a b t)(C:vu op b=ed:=by first | exact ir _ ⋯ ⋯ | rfl):PT X (.Compare a [op] [b] pos) (tB t):=by intro e s k H Q I i;refine Sh (e9 (h e s k H _ I i) λv l C=>e9 C λu m g=>e9 g λc n z=>?_) C;obtain⟨x,f,O,U,j⟩:=z;obtain⟨d,rfl,q⟩:=j;cases U;exact IA ⟨f,O,q⟩
theorem tX(h:PE X e t)(O : ∀z,Ds e X.env z=(do let v <- z;Dx e.pos;rp [v] (E5 v)):=by intro _;rfl):PT X e (tB t):=by intro a s k H Q I g;refine isTrue_plain (e9 (h a s k H _ I g) λv l U=>?_)<|O _;obtain⟨x,b,f,j,i⟩:=U;obtain⟨d,rfl,q⟩:=i;cases j;exact IA ⟨b,f,q⟩
variable{tA L0:TT}{kh:List eA}
noncomputable def FJ(t u:TT):TT:=λb H Q=>t b H λc a=>if c=di then u b a Q else Q ed a
noncomputable def R8(t u:TT):TT:=λb H Q=>t b H λc a=>if c=di then Q di a else u b a Q
noncomputable def FD(t:TT):TT:=λb H Q=>t b H λc a=>Q (!c) a
theorem ot(C:PT X a tA):PW X (.BoolOp .And [a] pos) tA:=by
 intro z b s d H Q I h;refine isTrue_and<|e9 (C b s d H Q I h) λc f e=>?_;cases c with
 | true=>exact isTrue_and_nil e
 | false=>exact e
theorem tI(C:PT X a tA):PW X (.BoolOp .Or [a] pos) tA:=by
 intro z b s d H Q I h;refine isTrue_or<|e9 (C b s d H Q I h) λc f e=>?_;cases c with
 | false=>exact isTrue_or_nil e
 | true=>exact e
theorem tJ(C:PT X a tA)(U:PW X (.BoolOp .And (b::kh) pos) L0):PW X (.BoolOp .And (a::b::kh) pos) (FJ tA L0):=by
 intro j d s f H Q I h;refine isTrue_and<|e9 (C d s f H _ I h) λc i g=>?_;obtain⟨e,z,O⟩:=g;cases c with
 | true=>exact U j d i f e Q z O
 | false=>exact⟨e,z,O⟩
theorem BY(C:PT X a tA)(U:PW X (.BoolOp .Or (b::kh) pos) L0):PW X (.BoolOp .Or (a::b::kh) pos) (R8 tA L0):=by
 intro j d s f H Q I h;refine isTrue_or<|e9 (C d s f H _ I h) λc i g=>?_;obtain⟨e,z,O⟩:=g;cases c with
 | true=>exact⟨e,z,O⟩
 | false=>exact U j d i f e Q z O
theorem tY(ha:PT X a tA):PT X (.UnaryOp .Not a pos) (FD tA):=by intro b s e H Q I h;exact isTrue_not<|ha b s e H (λc d=>Q (!c) d) I h
noncomputable def BN(ta tb:TE):TE:=λb H Q=>ta b H λx a=>∃c,x = .bl c/\if c=di then tb b a Q else Q (.bl ed) a
noncomputable def BH(ta:TE):TE:=λb H Q=>ta b H λx a=>∃c,x = .bl c/\Q (.bl<|!c) a
theorem uk(h:PE X a t):PE X (.BoolOp op [a] pos) t:=λb s e H Q I d=>BoolOp_one<|h b s e H Q I d
theorem uv(C:PE X a ta)(U:PE X (.BoolOp .And (b::kh) pos) tb):PE X (.BoolOp .And (a::b::kh) pos) (BN ta tb):=by
 intro d s f H Q I h;refine BoolOp_and<|e9 (C d s f H _ I h) λv j g=>?_;obtain⟨x,e,O,i,z⟩:=g;obtain⟨c,rfl,z⟩:=z;cases i;refine IA ?_;cases c with
 | true=>exact U d j f e Q O z
 | false=>exact⟨.bl ed,e,O,rfl,z⟩
theorem um(C:PE X a ta):PE X (.UnaryOp .Not a pos) (BH ta):=by intro b s f H Q I h;refine UnaryOp_<|e9 (C b s f H _ I h) λv g O=>?_;obtain⟨x,d,U,e,z⟩:=O;obtain⟨c,rfl,z⟩:=z;cases e;exact not_of<|IA ⟨.bl<|!c,d,U,rfl,z⟩
noncomputable def OQ(t:TT)(ta tb:TE):TE:=λa H Q=>t a H λc b=>if c=di then ta a b Q else tb a b Q
theorem gU(U:PT X c tA)(C:PE X a ta)(J:PE X b tb):PE X (.IfExp c a b pos) (OQ tA ta tb):=by
 intro e s f H Q I h;refine wpAny_IfExp<|e9 (U e s f H _ I h) λd i j=>?_;obtain⟨g,z,O⟩:=j;cases d with
 | true=>exact C e i f g Q z O
 | false=>exact J e i f g Q z O
end
noncomputable def f9(K:GI)(H:Hp)(a:eg)(xs:List V):Prop:=
 Rd H a (.lst xs)\/
  ∃(o:m6) (z:Array eh) (n:Nat),K.lookup a=bQ o/\o.cls = .type "list"/\o.dict=dj/\o.data = .seq z n/\z.size<=fA/\fh xs z.toList
noncomputable def g5(K:GI)(H:Hp)(a:eg)(xs:List V):Prop:=
 Rd H a (.tup xs)\/
  ∃(o:m6) (z:Array eh) (n:Nat),K.lookup a=bQ o/\(o.cls,o.dict)=(LY "tuple",dj)/\o.data = .seq z n/\z.size<=fA/\fh xs z.toList
noncomputable def Gk:eh->Option V
 | .none=>bQ .eX
 | .bool b=>bQ (.bl b)
 | .int i _=>bQ (.int i)
 | .str x _=>bQ (.str x)
 | .bytes b _=>bQ (.D2 b)
 | .float b _=>bQ (.DK b)
 | .ref a=>bQ (.ref a)
 | .type n=>bQ (.ty n)
 | _=>dj
theorem RelV.abs(r:RelV x u):Gk u=bQ x:=by
 cases x with
 | eX=>cases r;rfl
 | bl _=>cases r;rfl
 | int _=>obtain⟨t,rfl⟩:=r;rfl
 | str _=>obtain⟨t,rfl⟩:=r;rfl
 | D2 _=>obtain⟨t,rfl⟩:=r;rfl
 | DK _=>obtain⟨t,rfl⟩:=r;rfl
 | ref _=>cases r;rfl
 | ty _=>cases r;rfl
theorem RelV.inj(r:RelV x u)(q:RelV y u):x=y:=Hx<|r.abs.symm.trans q.abs
theorem fh.inj : ∀{xs ys:List V} {us:List eh},fh xs us->fh ys us->xs=ys
 | _,_,_,.nil,.nil=>rfl
 | _,_,_,.cons r t,.cons r' t'=>by rw[r.inj r',fh.inj t t']
section
variable{X:Cx}{pins:RW}{σ:St}{H:Hp}{s:el}{a:eg}{xs ys:List V}
theorem f9.of{K:GI}(h:H a=bQ (.lst xs)):f9 K H a xs:= .inl (.inl h)
theorem g5.of{K:GI}(h:H a=bQ (.tup xs)):g5 K H a xs:= .inl (.inl h)
theorem Inv.list(I:Inv X pins σ H s)(h:f9 X.K H a xs) : ∃O:List eh,fh xs O/\PlainL s.heap a O.toArray/\xs.length<=fA:=by
 rcases h with h | ⟨o,O,n,U,hc,hd,hs,hz,r⟩
 ·obtain⟨z,O,n,r,e⟩:=h.ok I.f6
  exact⟨O,r,⟨_,n,e,rfl,rfl,rfl⟩,z⟩
 ·refine⟨O.toList,r,⟨o,n,I.l9 a o U,hc,hd,by simpa using hs⟩,?_⟩
  have e:=r.length;simp only[Im]at e;omega
theorem Inv.tuple(I:Inv X pins σ H s)(h:g5 X.K H a xs) : ∃O:List eh,fh xs O/\DX s.heap a O.toArray/\xs.length<=fA:=by
 rcases h with h | ⟨o,O,n,U,hc,hs,hz,r⟩
 ·obtain⟨z,O,r,p⟩:=h.ok I.f6
  exact⟨O,r,p.tup,z⟩
 ·refine⟨O.toList,r,⟨o,I.l9 a o U,(Prod.mk.inj hc).1,n,by simpa using hs⟩,?_⟩
  have e:=r.length;simp only[Im]at e;omega
theorem Inv.Ow(I:Inv X pins σ H s)(h:f9 X.K H a xs)(h':f9 X.K H a ys):xs=ys:=by
 obtain⟨O,r,⟨o,n,e,_,_,d⟩,_⟩:=I.list h;obtain⟨b,g,⟨j,i,z,_,_,f⟩,_⟩:=I.list h';rw[e]at z;cases z;rw[d]at f;injection f with U _;have:O=b:=by simpa using congrArg Array.toList U
 subst this;exact r.inj g
theorem Inv.PF(I:Inv X pins σ H s)(h:g5 X.K H a xs)(h':g5 X.K H a ys):xs=ys:=by
 obtain⟨O,r,⟨o,e,_,n,d⟩,_⟩:=I.tuple h;obtain⟨b,g,⟨j,z,_,i,f⟩,_⟩:=I.tuple h';rw[e]at z;cases z;rw[d]at f;injection f with U _;have:O=b:=by simpa using congrArg Array.toList U
 subst this;exact r.inj g
end
abbrev Cx.xb(X:Cx)(E:RQ):Cx:={X with xe:=E}
abbrev Cx.D9(X:Cx):Cx:=X.xb λ_ _=>False
theorem Cx.Ok.xb{X:Cx}(ok:X.Ok)(E:RQ):(X.xb E).Ok:=
 ⟨ok.mod,ok.kind,ok.glob,ok.blt,ok.above,ok.inj,ok.has,ok.D3,ok.hd,ok.frames,ok.I8,ok.F9,ok.bs,ok.wb,ok.D8,ok.D5,ok.ro,ok.C6⟩
theorem Cx.Ok.De{X:Cx}{E:RQ}(ok:(X.xb E).Ok):X.Ok:=
 ⟨ok.mod,ok.kind,ok.glob,ok.blt,ok.above,ok.inj,ok.has,ok.D3,ok.hd,ok.frames,ok.I8,ok.F9,ok.bs,ok.wb,ok.D8,ok.D5,ok.ro,ok.C6⟩
section
variable{X:Cx}{pins:RW}{σ:St}{H:Hp}{s:el}{E:RQ}
theorem Inv.xb(I:Inv X pins σ H s)(E:RQ):Inv (X.xb E) pins σ H s:=⟨I.ok.xb E,I.os,I.bare,I.base,I.loc,I.cell,I.free,I.t8,I.pin,I.f6,I.len⟩
theorem Inv.De(I:Inv (X.xb E) pins σ H s):Inv X pins σ H s:=⟨I.ok.De,I.os,I.bare,I.base,I.loc,I.cell,I.free,I.t8,I.pin,I.f6,I.len⟩
theorem SP.De(h:SP (X.xb E) pins D f s'):SP X pins D f s':=by
 cases f with
 | next=>obtain⟨a,b,I,q⟩:=h;exact⟨a,b,I.De,q⟩
 | brk=>obtain⟨a,b,I,q⟩:=h;exact⟨a,b,I.De,q⟩
 | cont=>obtain⟨a,b,I,q⟩:=h;exact⟨a,b,I.De,q⟩
 | ret u=>obtain⟨v,a,b,I,r,q⟩:=h;exact⟨v,a,b,I.De,r,q⟩
theorem o9.D9{st:List i5}{t:TS}(h:o9 X.D9 st t):o9 X st t:=λpins s σ H D I a=>
 IY (h pins s σ H D (I.xb _) a) (λ_ _ q=>q.De) λ_ _ z=>Le z
end
section
variable{X:Cx}{st:i5}{kh:List i5}{t u:TS}{e:eA}{te:TE}{pos:g8}
noncomputable def BJ:TS:=λD a H=>D.nx a H
noncomputable def FB(t u:TS):TS:=λD a H=>t {D with nx:=u D} a H
theorem oB:o9 X [] BJ:=λ_ _ a H _ I h=>PL ⟨a,H,I,h⟩
theorem gI(C:PS X st t)(J:o9 X kh u):o9 X (st::kh) (FB t u):=by
 intro a s g H D I h;refine wpAny_execs_cons<|e9 (C a s g H {D with nx:=u D} I h) λf e q=>?_;cases f with
 | next=>
  obtain⟨b,d,z,q⟩:=q;exact J a e b d D z q
 | ret v=>exact q
 | brk=>exact q
 | cont=>exact q
theorem bO(C:PS X st t):o9 X [st] t:=by
 intro a s b H D I h;refine wpAny_execs_cons<|e9 (C a s b H D I h) λf d q=>?_;cases f with
 | next=>exact PL q
 | ret v=>exact q
 | brk=>exact q
 | cont=>exact q
noncomputable def BM:TS:=λD a H=>D.ct a H
theorem YG:PS X (.Continue pos) BM:=λ_ _ a H _ I h=>wpAny_Continue ⟨a,H,I,h⟩
theorem Inv.quiet(I:Inv X pins σ H s):interactive X.env=ed:=by simp[interactive,I.ok.kind]
noncomputable def BK(te:TE):TS:=λD a H=>te a H λ_ b=>D.nx a b
theorem YF(z:PE X e te)(hs:wh e dj pos.line X.env=pure ed:=by rfl):PS X (.Expr e pos) (BK te):=by intro a s b H D I h;exact wpAny_Expr_any (e9 (z a s b H _ I h) λv g ⟨x,d,O,f,U⟩=>⟨b,d,O,U⟩) I.quiet hs
noncomputable def FC(te:TE):TS:=λD a H=>te a H D.rt
theorem bP(z:PE X e te):PS X (.Return (bQ e) pos) (FC te):=by intro a s b H D I h;exact wpAny_Return_some<|e9 (z a s b H _ I h) λv g ⟨x,d,O,U,f⟩=>⟨x,b,d,O,U,f⟩
noncomputable def FF(c:TT)(t u:TS):TS:=λD a H=>c a H λb d=>if b=di then t D a d else u D a d
theorem Cc(U:PT X c tc)(C:o9 X a t)(J:o9 X b u):PS X (.If c a b pos) (FF tc t u):=by
 intro e s f H D I h;refine wpAny_If<|e9 (U e s f H _ I h) λd i j=>?_;obtain⟨g,z,O⟩:=j;cases d with
 | true=>exact C e i f g D z O
 | false=>exact J e i f g D z O
noncomputable def sv:TS:=λ_ _ _=>False
theorem gM:PS X st sv:=λ_ _ _ _ _ _ h=>h.elim
end
abbrev TG:=V->St->Hp->(St->Hp->Prop)->Prop
abbrev DD:=List V->St->Hp->(St->Hp->Prop)->Prop
noncomputable def PG(X:Cx)(z:eA)(t:TG):Prop:=
 ∀(a:RW) (s:el) (e:St) (H:Hp) (v:V) (u:eh) (Q:St->Hp->Prop),Inv X a e H s->RelV v u->t v e H Q->
  wpAny (eK X.prog X.w) X.A (sh z X.env u) (λ_ f=>∃b d,Inv X a b d f/\Q b d) X.xe s
noncomputable def D0(X:Cx)(z:List eA)(t:DD):Prop:=
 ∀(a:RW) (s:el) (g:St) (H:Hp) (f:List V) (e:List eh) (Q:St->Hp->Prop),Inv X a g H s->fh f e->t f g H Q->
  wpAny (eK X.prog X.w) X.A (assignInOrder ((vr z X.env).map (·.2)) e) (λ_ h=>∃b d,Inv X a b d h/\Q b d) X.xe s
abbrev Fs:=V->V->V->Hp->(Hp->Prop)->Prop
noncomputable def Ft(X:Cx)(t:Fs):Prop:=
 ∀(a:RW) (s:el) (d:St) (H:Hp) (o i v:V) (z I u:eh) (Q:Hp->Prop),Inv X a d H s->RelV o z->RelV i I->RelV v u->t o i v H Q->
  wpAny (eK X.prog X.w) X.A (OK z I u) (λ_ e=>∃b,Inv X a d b e/\Q b) X.xe s
section
variable{X:Cx}{pos:g8}
noncomputable def yq(i:Nat):TG:=λv a H Q=>Q (a.set i<|some v) H
theorem cg(z:X.N.Nodup)(C:X.N[i]? = bQ x)(hx:Loc X.env.scope x)(O:X.fn x=di\/X.env.scope.names.lookup x=bQ .local:=by first | exact .inl rfl | exact .inr rfl | assumption):PG X (.Name x pos) (yq i):=by intro a s d H v u Q I r h;exact Sf<|VA I z C hx r (λb U=>⟨_,H,U,h⟩) O
noncomputable def ER:DD:=λa b H Q=>a=[]/\Q b H
noncomputable def Ab(t:TG)(u:DD):DD:=λd e H Q=>∃v r,d=v::r/\t v e H λa b=>u r a b Q
theorem cf:D0 X [] ER:=by intro a s b H f d Q I r h;obtain⟨e,h⟩:=h;subst e;cases r;exact assignInOrder_nil ⟨b,H,I,h⟩
theorem vx(C:PG X e t)(J:D0 X es u)
 (hs:(vr (e::es) X.env).map (·.2)=sh e X.env::(vr es X.env).map (·.2):=by rfl):D0 X (e::es) (Ab t u):=by
 intro a s j H m k Q I r h;obtain⟨v,l,f,h⟩:=h;subst f;cases r with
 | cons r z=>
  rw[hs];refine assignInOrder_cons<|e9 (C a s j H _ _ _ I r h) λ_ i O=>?_;obtain⟨U,b,d,g⟩:=O;exact J a i U b _ _ Q d z g
noncomputable def EO(K:GI)(n:Nat)(t:DD):TG:=λv d H Q=>∃a b,v = .ref a/\g5 K H a b/\b.length=n/\t b d H Q
theorem ug(O:X.calm=di)(h:D0 X es t)
 (C:(vr es X.env).length=n:=by rfl) (U:(vr es X.env).findIdx? (·.1)=dj:=by rfl):PG X (.Tuple es k pos) (EO X.K n t):=by
 intro d s g H v u Q I r f;obtain⟨a,y,j,p,m,f⟩:=f;subst j;cases r;obtain⟨A,z,w,B⟩:=I.tuple p;refine assign_Tuple_tuple (I.ok.hd O) w (by simp[C,<- m,z.length]) U λl x=>?_;have i:Inv X d g H {s with heap:=l}:=I.kept (t':=s.toks) λb o e=>x b o (Ho<|GZ e) e;exact h d _ g H y _ Q i (by simpa using z) f
noncomputable def Ge(to z:TE)(t:Fs):TG:=λv a H Q=>to a H λo b=>z a b λi d=>t o i v d λI=>Q a I
theorem mx(L:PE X o to)(J:PE X i ti)(hs:Ft X t)
 (C : ∀v,sh (.Subscript o i pos) X.env v=(do
   let z <- rp [v] (eL o X.env);let O <- rp [v,z] (eL i X.env)
   Dx pos
   rp [v,z,O] (OK z O v)
   Pk [v,z,O] []):=by intro _;rfl):PG X (.Subscript o i pos) (Ge to ti t):=by
 intro a s b H v u Q I r h;rw[C];refine GJ<|IX<|e9 (L a s b H _ I h) λz A U=>?_;obtain⟨x,d,g,p,l⟩:=U;refine GJ<|IX<|e9 (J a A b d _ g l) λO B U=>?_;obtain⟨y,e,j,w,m⟩:=U;refine GJ<|NS<|GJ<|IX<|e9 (hs a B b e x y v z O u _ j p w r m) λ_ E U=>?_;obtain⟨f,k,n⟩:=U;exact wpAny_release ⟨b,f,k,n⟩
noncomputable def Wz(te:TE)(g:TG):TS:=λD a H=>te a H λx b=>g x a b D.nx
theorem VQ(z:PE X e te)(O:PG X tg g)(hs:I9 [tg] e pos.line X.env=pure ed:=by rfl)(J:OO [tg] e X.env=pure dj:=by rfl)
 (C:(vr [tg] X.env).map (·.2)=[sh tg X.env]:=by rfl):PS X (.Assign [tg] e pos) (Wz te g):=by
 intro a s b H D I h;refine wpAny_Assign_stores (e9 (z a s b H _ I h) λv k U=>?_) hs J;obtain⟨x,d,f,j,i⟩:=U;rw[C];exact e9 (O a k b d x v _ f j i) λ_ l q=>q
theorem ub(z:X.N.Nodup)(C:X.N[i]? = bQ x)(hx:Loc X.env.scope x)(O:PE X e te)(hs:wh e (bQ (.Name x pos')) pos.line X.env=pure ed:=by rfl)(U:X.fn x=di\/X.env.scope.names.lookup x=bQ .local:=by first | exact .inl rfl | exact .inr rfl | assumption) :
 PS X (.Assign [.Name x pos'] e pos) (Wz te<|yq i):=by
 intro a s l H D I h;refine wpAny_Assign_Name (e9 (O a s l H _ I h) λv m g=>?_) hs;obtain⟨y,b,d,k,j⟩:=g;exact VA d z C hx k (λn f=>⟨_,b,f,j⟩) U
end
structure It where
 go:Nat->Hp->Prop
 xg:Nat->Hp->V->Hp->Prop
 stop:Nat->Hp->Prop
noncomputable def wV(X:Cx)(C:RW)(H:Hp)(b:eg):Prop:=
 H b=dj/\b≠X.env.locals/\b∉X.fs/\(b∈X.ex\/X.m3.heap.objs.size<=b)/\(∀x c,X.env.cells.lookup x=bQ c->c≠b)/\∀p∈X.pn++C,p.1≠b
theorem Inv.C4(I:Inv X pins σ H s)(O:s.heap.objs.size<=b)(C:H' b=dj):wV X pins H' b:=by
 refine⟨C,Lb<|Hm I.lt O,I.RN O,.inr<|Ia I.sz O,λx c e z=>?_,λp U z=>?_⟩
 ·obtain⟨v,q⟩:=I.cell x c e
  exact absurd (Hm q.lt<|by rw[z];exact O)<|HM _
 ·exact absurd (Hm (GZ (I.pin p U).1)<|by rw[z];exact O)<|HM _
structure Turn(P:il)(w:hH)(K:GI)(tg:eA)(J:It)(fp:List eg)(it:eg)(tn:Nat->fy->Prop):Prop where
 mem:it∈fp
 obj : ∀i h,tn i h->∀b∈fp,∃o,h.get? b=bQ o/\∀v,o.data ≠ .cell v
 keep : ∀i h h',tn i h->(∀b∈fp,∀o,h.get? b=bQ o->h'.get? b=bQ o)->tn i h'
 item : ∀(X:Cx),X.prog=P->X.w=w->X.K=K->X.calm=di->∀(i:Nat) (pins:RW) (s:el) (σ:St) (H:Hp) (E:RQ),Inv X pins σ H s->(∀b∈fp,wV X pins H b)->tn i s.heap->J.go i H->
  wpAny (eK P w) X.A (DP<|.ref it) (λr s1=>∃u,r=bQ u/\
   wpAny (eK P w) X.A (G6 tg (.ref it) u) (λ_ s2=>∃x H',Inv X pins σ H' s2/\RelV x u/\J.xg i H x H'/\tn (i+1) s2.heap/\∀b∈fp,H' b=dj) E s1) E s
 done : ∀(X:Cx),X.prog=P->X.w=w->X.K=K->X.calm=di->∀(i:Nat) (pins:RW) (s:el) (σ:St) (H:Hp) (E:RQ),Inv X pins σ H s->(∀b∈fp,wV X pins H b)->tn i s.heap->J.stop i H->
  wpAny (eK P w) X.A (DP<|.ref it) (λr s1=>r=dj/\Inv X pins σ H s1) E s
 self : ∀(A:l6) (i:Nat) (s:el) (Q:RQ) (E:RQ),tn i s.heap->Q (.ref it) s->wpAny (eK P w) A (H9<|.ref it) Q E s
abbrev TI:=St->Hp->(It->Hp->Prop)->Prop
noncomputable def O0(X:Cx)(C:RW)(O:St)(L:eA)(R:It->Hp->Prop)(z:eh)(I:el):Prop:=
 ∃(e:eg) (d:List eg) (f:Nat->fy->Prop) (J:It) (a:Hp),z = .ref e/\Inv X C O a I/\Turn X.prog X.w X.K L J d e f/\f 0 I.heap/\(∀b∈d,wV X C a b)/\R J a
noncomputable def PI(X:Cx)(I C:eA)(J:TI):Prop:=
 ∀(a:RW) (s:el) (b:St) (H:Hp) (R:It->Hp->Prop),Inv X a b H s->J b H R->
  wpAny (eK X.prog X.w) X.A (eL C X.env) (λv d=>wpAny (eK X.prog X.w) X.A (H9 v) (O0 X a b I R) X.xe d) X.xe s
theorem pF(I:s.heap.get? it=bQ o)(O:o.cls = .type n)(C:o.data = .fields vs)
 (J:["enumerate","zip","dict_itemiterator","dict_reverseitemiterator","odict_iterator","itertools.zip_longest","itertools.pairwise"].contains n=ed) (z:Q () s):wpAny M A (G6 tg (.ref it) u) Q E s:=by
 unfold G6;cases tg<;>first
  | exact GS z
  | (cases u<;>first
      | exact GS z
      | (refine GJ (wpAny_load I ?_)
         rw[O,C];show wpAny M A (if (["enumerate","zip","dict_itemiterator","dict_reverseitemiterator","odict_iterator","itertools.zip_longest","itertools.pairwise"].contains n && vs[0]? == bQ (Dw _))=di then _ else _) Q E s;rw[EQ (by intro h;rw[J,Bool.false_and]at h;cases h)];exact GS z))
noncomputable def OW(K:GI)(a:eg):It:=
 ⟨λi H=>∃b x,f9 K H a b/\b[i]? = bQ x,λi H x d=>d=H/\∀b,f9 K H a b->b[i]? = bQ x,λi H=>∃b,f9 K H a b/\b.length<=i⟩
noncomputable def OX(K:GI)(a:eg):It:=
 ⟨λi H=>∃b x,g5 K H a b/\b[i]? = bQ x,λi H x d=>d=H/\∀b,g5 K H a b->b[i]? = bQ x,λi H=>∃b,g5 K H a b/\b.length<=i⟩
noncomputable def B8(lo:Int)(n:Nat):It:=⟨λi _=>i<n,λi H x a=>a=H/\x = .int (lo+i),λi _=>n<=i⟩
theorem aI{P:il}{w:hH}{K:GI}{tg:eA}(a it:eg):Turn P w K tg (OW K a) [it] it (λi h=>h.IsListIter it a i) where
 mem:=by simp
 obj:=λi h st b O=>by
  have e:b=it:=by simpa using O
  subst e;obtain⟨o,e,c,d⟩:=st;exact⟨o,e,λv z=>by rw[d]at z;cases z⟩
 keep:=λi h h' st k=>st.at λo e=>k it ⋯ o e
 item:=by intro X hP hw hK hc i pins s σ H E I U st hg;subst hP hw hK;obtain⟨xs,x,hq,hx⟩:=hg;obtain⟨am,rv,p,hz⟩:=I.list hq;obtain⟨u,hu,ru⟩:=rv.get hx;obtain⟨f0,f1,f2,f3,f4,f5⟩:=U it ⋯;refine wpAny_pyNext_list_item st p.isList (x:=u) (by simpa using hu) λh' ak sb=>?_;have I1:Inv X pins σ H {s with heap:=h'}:=I.turned (t':=s.toks) (λb o O e=>(sb.2 b O).trans e) f0 f1 f3 f4 f5;obtain⟨o,e,c,d⟩:=id ak;exact⟨u,rfl,pF (s:={s with heap:=h'}) e c d ⋯ ⟨x,H,I1,ru,⟨rfl,λys hy=>by rw[I.Ow hy hq];exact hx⟩,ak,λb O=>(U b O).1⟩⟩
 done:=by intro X hP hw hK hc i pins s σ H E I U st hg;subst hP hw hK;obtain⟨xs,hq,hx⟩:=hg;obtain⟨am,rv,p,hz⟩:=I.list hq;obtain⟨f0,f1,f2,f3,f4,f5⟩:=U it ⋯;have hl:=rv.length;exact wpAny_pyNext_list_end (I.ok.hd hc) st p.isList (by simp;omega) λh' eb=>⟨rfl,I.turned (t':=s.toks) (λb o O e=>eb b o O e) f0 f1 f3 f4 f5⟩
 self:=λ_ _ _ _ _ st h=>wpAny_pyIter_listiter st h
theorem Wu{P:il}{w:hH}{K:GI}{tg:eA}(a it:eg):Turn P w K tg (OX K a) [it] it (λi h=>h.IsTupleIter it a i) where
 mem:=by simp
 obj:=λi h st b O=>by
  have e:b=it:=by simpa using O
  subst e;obtain⟨o,e,c,d⟩:=st;exact⟨o,e,λv z=>by rw[d]at z;cases z⟩
 keep:=λi h h' st k=>st.at λo e=>k it ⋯ o e
 item:=by intro X hP hw hK hc i pins s σ H E I U st hg;subst hP hw hK;obtain⟨xs,x,hq,hx⟩:=hg;obtain⟨a4,rv,p,hz⟩:=I.tuple hq;obtain⟨u,hu,ru⟩:=rv.get hx;obtain⟨f0,f1,f2,f3,f4,f5⟩:=U it ⋯;refine wpAny_pyNext_tuple_item st (show s.heap.IsTuple a a4.toArray from p) (x:=u) (by simpa using hu) λh' am sb=>?_;have I1:Inv X pins σ H {s with heap:=h'}:=I.turned (t':=s.toks) (λb o O e=>(sb.2 b O).trans e) f0 f1 f3 f4 f5;obtain⟨o,e,c,d⟩:=id am;exact⟨u,rfl,pF (s:={s with heap:=h'}) e c d ⋯ ⟨x,H,I1,ru,⟨rfl,λys hy=>by rw[I.PF hy hq];exact hx⟩,am,λb O=>(U b O).1⟩⟩
 done:=by intro X hP hw hK hc i pins s σ H E I U st hg;subst hP hw hK;obtain⟨xs,hq,hx⟩:=hg;obtain⟨a4,rv,p,hz⟩:=I.tuple hq;obtain⟨f0,f1,f2,f3,f4,f5⟩:=U it ⋯;have hl:=rv.length;exact wpAny_pyNext_tuple_end (I.ok.hd hc) st (show s.heap.IsTuple a a4.toArray from p) (by simp;omega) λh' eb=>⟨rfl,I.turned (t':=s.toks) (λb o O e=>eb b o O e) f0 f1 f3 f4 f5⟩
 self:=λ_ _ _ _ _ st h=>wpAny_pyIter_tupleiter st h
theorem Wv{P:il}{w:hH}{K:GI}{tg:eA}(it:eg)(lo:Int)(n:Nat):Turn P w K tg (B8 lo n) [it] it (λi h=>IsRangeIter h it (lo+(i:Nat)*1) ((n:Int) - (i:Nat)) 1) where
 mem:=by simp
 obj:=λi h st b O=>by
  have e:b=it:=by simpa using O
  subst e;exact⟨_,st,λv z=>by have z':Data.fields _=Data.cell v:=z;cases z'⟩
 keep:=λi h h' st k=>k it ⋯ _ st
 item:=by intro X hP hw hK hc i pins s σ H E I U st hg;subst hP hw hK;obtain⟨f0,f1,f2,f3,f4,f5⟩:=U it ⋯;have W:=Walks.range (prog:=X.prog) (w:=X.w) (I.ok.hd hc) it lo 1 n;refine W.item i s _ _ hg st λv h' tk hv ac kk=>?_;obtain⟨t,rfl⟩:=hv;have I1:Inv X pins σ H {s with heap:=h',toks:=tk}:=I.turned (λb o O e=>kk b o (by simpa using O) e) f0 f1 f3 f4 f5;refine⟨_,rfl,pF (s:={s with heap:=h',toks:=tk}) (n:="range_iterator") ac rfl rfl ⋯ ⟨.int (lo+i),H,I1,⟨t,?_⟩,⟨rfl,rfl⟩,ac,λb O=>(U b O).1⟩⟩;rw[My]
 done:=by intro X hP hw hK hc i pins s σ H E I U st hg;subst hP hw hK;obtain⟨f0,f1,f2,f3,f4,f5⟩:=U it ⋯;exact wpAny_pyNext_range_end (I.ok.hd hc) st (by have:n<=i:=hg;omega) λh' eb=>⟨rfl,I.turned (t':=s.toks) (λb o O e=>eb b o O e) f0 f1 f3 f4 f5⟩
 self:=λ_ _ _ _ _ st h=>wpAny_pyIter_rangeiter st h
section
variable{X:Cx}{tg:eA}
theorem VJ{J:RW}{L:St}{H:Hp}{s:el}{R:It->Hp->Prop}{E:RQ}{lo C:Int}{t u v:qs}{z:Nat}(I:Inv X J L H s)(S : -(2 ^ 62)<=lo)(Y:lo<2 ^ 62)(U : -(2 ^ 62)<=C)(Z:C<2 ^ 62)
 (q:R (B8 lo (C - lo).toNat) H):wpAny (eK X.prog X.w) X.A (H9 (.ref s.heap.objs.size)) (O0 X J L tg R) E {s with heap:=s.heap.push {cls:= .type "range",data:= .fields #[.int lo t,.int C u,.int 1 v]},toks:=z}:=by
 refine wpAny_pyIter_range (IsRange.new ..) (small_one S Y U Z) ?_;have O:Inv X J L H {s with heap:=s.heap.push {cls:= .type "range",data:= .fields #[.int lo t,.int C u,.int 1 v]},toks:=z}:=I.kept λb o e=>GK _ e;refine⟨(s.heap.push {cls:= .type "range",data:= .fields #[.int lo t,.int C u,.int 1 v]}).objs.size,[(s.heap.push {cls:= .type "range",data:= .fields #[.int lo t,.int C u,.int 1 v]}).objs.size],_,_,H,rfl,
  O.kept (t':=z) λb o e=>GK _ e,Wv _ lo (C - lo).toNat,?_,λb f=>?_,q⟩
 ·have a:lo+((0:Nat):Int)*1=lo:=by simp
  have d:(((C - lo).toNat:Nat):Int) - ((0:Nat):Int)=Builtin.Range.rangeSize lo C 1:=by rw[rangeSize_one];split<;>omega
  show IsRangeIter _ _ (lo+((0:Nat):Int)*1) ((((C - lo).toNat:Nat):Int) - ((0:Nat):Int)) 1;rw[a,d];exact Hc _ rfl
 ·have e:b=(s.heap.push {cls:= .type "range",data:= .fields #[.int lo t,.int C u,.int 1 v]}).objs.size:=by simpa using f
  subst e;exact O.C4 (GQ _)<|O.f6.fresh<|GQ _
noncomputable def Cs(C:TA):TI:=λd H R=>C d H λb a=>∃j:Int,b=[.int j]/\ -(2 ^ 62)<=j/\j<2 ^ 62/\R (B8 0 j.toNat) a
noncomputable def Cr(C:TA):TI:=λd H R=>C d H λb a=>∃i j:Int,b=[.int i,.int j]/\(-(2 ^ 62)<=i/\i<2 ^ 62/\ -(2 ^ 62)<=j/\j<2 ^ 62)/\R (B8 i (j - i).toNat) a
theorem cc{a:eA}{C:TA}{p pos:g8}(O:Gl X "range")(L:X.mg "range" = dj)(J:PA X [a] C)(hs:f7 [a] X.env=[(ed,eL a X.env)]:=by rfl):PI X tg (.Call (.Name "range" p) [a] [] pos) (Cs C):=by
 intro b s k H R I h;refine DU<|yo I O L boot_range<|Ij (e9 (J pos b s k H _ I h) λn m U=>?_) hs rfl;obtain⟨o,l,d,g,z⟩:=U;obtain⟨j,e,z,f,q⟩:=z;subst e;cases g with
 | cons r i=>
  cases i;obtain⟨t,rfl⟩:=r;exact call_range_1 (VJ d ⋯ ⋯ z f<|by simpa using q)
theorem bZ(J:Gl X "range")(L:X.mg "range" = dj)(C:PA X [a,b] ta)(hs:f7 [a,b] X.env=[(ed,eL a X.env),(ed,eL b X.env)]:=by rfl)(U:f7 [b] X.env=[(ed,eL b X.env)]:=by rfl) :
 PI X tg (.Call (.Name "range" p) [a,b] [] pos) (Cr ta):=by
 intro d s u H R I h;refine DU (yo I J L boot_range<|Ij (e9 (C pos d s u H _ I h) λA x g=>?_) (by rw[hs,U])<|by rw[U];rfl);obtain⟨B,w,f,o,z⟩:=g;obtain⟨i,j,e,⟨z,k,l,m⟩,q⟩:=z;subst e;cases o with
 | cons r O=>
  cases O with
  | cons n O=>
   cases O;obtain⟨t,rfl⟩:=r;obtain⟨y,rfl⟩:=n;exact call_range_2<|VJ f z k l m q
noncomputable def FH(I:TI)(g:TG)(C:TS):TS:=λD a H=>I a H λJ f=>∃W:Nat->Nat->St->Hp->Prop,(∃m,W 0 m a f)/\∀i m a H,W i m a H->
 (J.stop i H/\D.nx a H)\/(J.go i H/\∃N:St->Hp->Prop,(∀d b,N d b->∃e,e<m/\W (i+1) e d b)/\∀x b,J.xg i H x b->g x a b λz h=>C {D with nx:=N,ct:=N,bk:=D.nx} z h)
noncomputable def KB(fp:List eg)(h:fy):List (eg×m6):=fp.filterMap λb=>(h.get? b).map λo=>(b,o)
theorem yI(z:b∈fp)(e:h.get? b=bQ o):(b,o)∈KB fp h:=List.mem_filterMap.mpr ⟨b,z,by rw[e];rfl⟩
theorem cE(z:p∈KB fp h):p.1∈fp/\h.get? p.1=bQ p.2:=by
 obtain⟨b,I,e⟩:=List.mem_filterMap.mp z;cases q:h.get? b with
 | none=>rw[q]at e;cases e
 | some o=>
  rw[q]at e;have O:(b,o)=p:=Hx e;subst O;exact⟨I,q⟩
theorem Inv.pinned(I:Inv X pins σ H s)(C : ∀b∈fp,wV X pins H b)(J : ∀b∈fp,∃o,s.heap.get? b=bQ o/\∀v,o.data ≠ .cell v):Inv X (pins++KB fp s.heap) σ H s:=
 I.H8 λp f=>(Lw.mp f).elim (λz=>I.pin p<|He _ z) λz=>by obtain⟨O,e⟩:=cE z;obtain⟨a,f1,f2,_⟩:=C p.1 O;obtain⟨o,U,d⟩:=J p.1 O;rw[e]at U;cases U;exact⟨e,a,f1,f2,d⟩
theorem Inv.E6(I:Inv X (pins++pl) σ H s):Inv X pins σ H s:=I.H8 λp z=>I.pin p<|He _<|Ni _ z
theorem mw(C:M8 (eK X.prog X.w) X.A X.env X.xe)(Z:X.calm=di)(hi:PI X tg iter wi)(hg:PG X tg g)(z:o9 X body tb)
 (hs : ∀x,ow iter X.env x=pure x:=by intro _;rfl):PS X (.For tg iter body [] pos) (FH wi g tb):=by
 intro a s σ H D I h;refine wpAny_For (e9 (hi a s σ H _ I h) λv s1 h1=>e9 h1 λc7 s2 h2=>?_) hs;obtain⟨it,B,tn,J,H2,e,I2,T,b7,f2,W,⟨m0,w0⟩,bb⟩:=h2;subst e;have L : ∀{p:Hp},(∀b∈B,p b=dj)->∀b∈B,wV X a p b:=λhn b z=>⟨hn b z,(f2 b z).2⟩;refine codeAny_forLoop_any (λn s'=>∃i k p,Inv X a k p s'/\tn i s'.heap/\(∀b∈B,p b=dj)/\W i n k p) ?_ m0 ⟨0,σ,H2,I2,b7,λb z=>(f2 b z).1,w0⟩;rintro n s3 ⟨i,l,K,Y,F,as,w3⟩;rcases bb i n l K w3 with⟨G,qn⟩ | ⟨go,N,hN,step⟩
 ·refine MH C (e9 (T.done X rfl rfl rfl Z i a s3 l K X.xe Y (L as) F G) λr s4 y=>?_)
  obtain⟨P,I4⟩:=y;subst P;exact PL ⟨l,K,I4,qn⟩
 ·refine MH C (e9 (T.item X rfl rfl rfl Z i a s3 l K X.xe Y (L as) F go) λr s4 y=>?_)
  obtain⟨u,P,h4⟩:=y;subst P;refine MH C<|e9 h4 λ_ s5 y=>?_;obtain⟨x,S,I5,r5,y5,M,bv⟩:=y;have bx:=I5.pinned (L bv)<|T.obj _ _ M;refine MH C<|e9 (hg _ s5 l S x u _ bx r5<|step x S y5) λ_ s6 y=>?_;obtain⟨R,H6,I6,q6⟩:=y;refine MH C<|e9 (z _ s6 R H6 _ I6 q6) λf Q t=>?_;have again : ∀{O:St} {U:Hp},Inv X (a++KB B s5.heap) O U Q->N O U->∃m,m<n/\∃i k p,Inv X a k p Q/\tn i Q.heap/\(∀b∈B,p b=dj)/\W i m k p:=λ{O U} j E=>by obtain⟨m',hm,w7⟩:=hN O U E;refine⟨m',hm,i+1,O,U,j.E6,T.keep _ _ _ M λb z o e=>(j.pin (b,o)<|He _<|He _<|yI z e).1,λb z=>?_,w7⟩;obtain⟨o,e,d⟩:=T.obj _ _ M b z;exact(j.pin (b,o)<|He _<|He _<|yI z e).2.1
  cases f with
  | next=>obtain⟨O,U,j,E⟩:=t;exact again j E
  | cont=>obtain⟨O,U,j,E⟩:=t;exact again j E
  | brk=>obtain⟨O,U,j,t⟩:=t;exact⟨O,U,j.E6,t⟩
  | ret v=>obtain⟨x7,O,U,j,r7,t⟩:=t;exact⟨x7,O,U,j.E6,r7,t⟩
end
theorem Yc{lo:Int}{n:Nat}{g:TG}{Y:TS}{D:Ends}{C:St}{H:Hp}(z:Nat->St->Hp->Prop)(U:z 0 C H)
 (hs : ∀i C H,i<n->z i C H->g (.int<|lo+i) C H λI L=>Y {D with nx:=z<|i+1,ct:=z<|i+1,bk:=D.nx} I L) (Z : ∀C H,z n C H->D.nx C H) :
 ∃W:Nat->Nat->St->Hp->Prop,(∃m,W 0 m C H)/\∀i m C H,W i m C H->
  ((B8 lo n).stop i H/\D.nx C H)\/((B8 lo n).go i H/\∃N:St->Hp->Prop,(∀J H',N J H'->∃S,S<m/\W (i+1) S J H')/\∀x H',(B8 lo n).xg i H x H'->g x C H' λI L=>Y {D with nx:=N,ct:=N,bk:=D.nx} I L):=by
 refine⟨λi m C H=>m=n - i/\i<=n/\z i C H,⟨n,by simp,HX _,U⟩,?_⟩;rintro i m C H ⟨rfl,b,p⟩;by_cases O:i<n
 ·refine .inr ⟨O,z<|i+1,λJ H' a=>⟨n - (i+1),by omega,rfl,O,a⟩,λx H' y=>?_⟩
  obtain⟨e,y⟩:=y;subst e y;exact hs i C _ O p
 ·have e:i=n:=by omega
  subst e;exact .inl ⟨GQ _,Z C H p⟩
abbrev R2:=V->V->Hp->VK->Prop
noncomputable def iQ(X:Cx)(f:eh->eh->Sem eh)(r:R2):Prop:=
 ∀(a:RW) (s:el) (b:St) (H:Hp) (x y:V) (v u:eh) (Q:VK),Inv X a b H s->RelV x v->RelV y u->r x y H Q->
  wpAny (eK X.prog X.w) X.A (f v u) (EP X a b Q) X.xe s
noncomputable def N1(X:Cx)(f:eh->Sem eh)(r:V->Hp->VK->Prop):Prop:=
 ∀(a:RW) (s:el) (b:St) (H:Hp) (x:V) (v:eh) (Q:VK),Inv X a b H s->RelV x v->r x H Q->
  wpAny (eK X.prog X.w) X.A (f v) (EP X a b Q) X.xe s
noncomputable def wL(X:Cx)(f:eh)(r:List V->Hp->VK->Prop):Prop:=
 ∀(a:RW) (s:el) (e:St) (H:Hp) (d:List V) (b:List eh) (Q:VK),Inv X a e H s->fh d b->r d H Q->
  wpAny (eK X.prog X.w) X.A (call f b) (EP X a e Q) X.xe s
noncomputable def Gn(X:Cx)(r:V->Hp->(Bool->Hp->Prop)->Prop):Prop:=
 ∀(a:RW) (s:el) (b:St) (H:Hp) (x:V) (v:eh) (Q:Bool->Hp->Prop),Inv X a b H s->RelV x v->r x H Q->
  wpAny (eK X.prog X.w) X.A (E5 v) (TP X a b Q) X.xe s
noncomputable def E3(r:R2)(C I:TE):TE:=λa H Q=>C a H λx b=>I a b λy d=>r x y d Q
noncomputable def Sa(r:V->Hp->VK->Prop)(C:TE):TE:=λb H Q=>C b H λx a=>r x a Q
noncomputable def rI(C:Int->Int->Prop)(g:Int->Int->V):R2:=λx y H Q=>∃i j,x = .int i/\y = .int j/\C i j/\Q (g i j) H
noncomputable def rr(g:Int->Int->V):R2:=λx y H Q=>∃i j,x = .int i/\y = .int j/\Q (g i j) H
noncomputable def rU(g:Int->V):V->Hp->VK->Prop:=λx H Q=>∃i,x = .int i/\Q (g i) H
section
variable{X:Cx}{a b c:eA}{ta tb tc:TE}{pos:g8}
theorem CP(ha:PE X a ta)(O:PE X b tb){C:RW}{s:el}{L:St}{H:Hp}{R:V->V->Hp->Prop}(I:Inv X C L H s)
 (h:ta L H λx H1=>tb L H1 λy J=>R x y J) {Q:RQ} {f:eh->eh->Sem eh}
 (U : ∀v u Z x y J,Inv X C L J Z->RelV x v->RelV y u->R x y J->wpAny (eK X.prog X.w) X.A (f v u) Q X.xe Z) :
 wpAny (eK X.prog X.w) X.A (eL a X.env) (λv S=>wpAny (eK X.prog X.w) X.A (eL b X.env) (λu Y=>wpAny (eK X.prog X.w) X.A (f v u) Q X.xe Y) X.xe S) X.xe s:=by
 refine e9 (ha C s L H _ I h) λv l z=>?_;obtain⟨x,H1,d,j,g⟩:=z;refine e9 (O C l L H1 _ d g) λu Z z=>?_;obtain⟨y,J,e,k,i⟩:=z;exact U v u Z x y J e j k i
theorem oQ{z:Operator}{r:R2}(O:iQ X (sm z) r)(C:PE X a ta)(U:PE X b tb):PE X (.BinOp a z b pos) (E3 r ta tb):=by intro d s k H Q I h;exact wpAny_BinOp<|CP C U I h λv u j x y e f g i q=>O d j k e x y v u Q f g i q
theorem Ce(z:N1 X (unaryOp op) r)(C:PE X a ta):PE X (.UnaryOp op a pos) (Sa r ta):=by intro b s d H Q I h;exact UnaryOp_<|e9 (C b s d H _ I h) λv g ⟨x,e,O,U,f⟩=>z b g d e x v Q O U f
theorem Ht{f:eh->eh->Sem eh}{C:Int->Int->Prop}{g:Int->Int->Int}
 (rule : ∀(i j:Int) (t u:qs) (s:el) (Q:RQ) (E:RQ),C i j->Q (.int (g i j) s.toks) {s with toks:=s.toks+1}->wpAny (eK X.prog X.w) X.A (f (.int i t)<|.int j u) Q E s) :
 iQ X f (rI C λi j=> .int (g i j)):=by
 intro a s d H x y v u Q I z O h;obtain⟨i,j,rfl,rfl,U,q⟩:=h;obtain⟨t,rfl⟩:=z;obtain⟨b,rfl⟩:=O;exact rule i j t b s _ _ U ⟨.int<|g i j,H,I.tok _,⟨_,rfl⟩,q⟩
theorem EL{f:eh->eh->Sem eh}{g:Int->Int->Int}
 (rule : ∀(i j:Int) (t u:qs) (s:el) (Q:RQ) (E:RQ),Q (.int (g i j) s.toks) {s with toks:=s.toks+1}->wpAny (eK X.prog X.w) X.A (f (.int i t)<|.int j u) Q E s) :
 iQ X f (rr λi j=> .int (g i j)):=by
 intro a s d H x y v u Q I z O h;obtain⟨i,j,rfl,rfl,q⟩:=h;obtain⟨t,rfl⟩:=z;obtain⟨b,rfl⟩:=O;exact rule i j t b s _ _ ⟨.int<|g i j,H,I.tok _,⟨_,rfl⟩,q⟩
theorem Ci{f:eh->eh->Sem eh}{g:Int->Int->Bool}
 (rule : ∀(i j:Int) (t u:qs) (s:el) (Q:RQ) (E:RQ),Q (.bool<|g i j) s->wpAny (eK X.prog X.w) X.A (f (.int i t)<|.int j u) Q E s) :
 iQ X f (rr λi j=> .bl (g i j)):=by
 intro a s d H x y v u Q I z O h;obtain⟨i,j,rfl,rfl,q⟩:=h;obtain⟨t,rfl⟩:=z;obtain⟨b,rfl⟩:=O;exact rule i j t b s _ _ ⟨.bl<|g i j,H,I,rfl,q⟩
noncomputable def Fx(i j:Int):Prop:=0<j/\j<1073741824
noncomputable def Fw(i j:Int):Prop:=0<=j/\j<=1000000/\i.natAbs<2 ^ 64
noncomputable def DB(i j:Int):Prop:=(-(2 ^ 64)<i/\i<2 ^ 64)\/(-(2 ^ 64)<j/\j<2 ^ 64)
theorem DB.ok(h:DB i j):IntMulOk i j:=by
 rcases h with⟨a,b⟩ | ⟨a,b⟩
 ·exact .of_left<|intBits_le_64 a b
 ·exact .of_right<|intBits_le_64 a b
theorem RO:iQ X (sm .Add) (rr λi j=> .int (i+j)):=EL λ_ _ _ _ _ _ _ q=>add_int q
theorem uA:iQ X (sm .Sub) (rr λi j=> .int (i - j)):=EL λ_ _ _ _ _ _ _ q=>sub_int q
theorem RP:iQ X (sm .Mult) (rI DB λi j=> .int (i*j)):=Ht λ_ _ _ _ _ _ _ z q=>mul_int q z.ok
theorem oY:iQ X (sm .FloorDiv) (rI Fx λi j=> .int (i/j)):=Ht λi j _ _ _ _ _ z q=>by have a:(0:Int)<j:=z.1;have b:j<1073741824:=z.2;exact floordiv_int ⋯ (by rw[Int.fdiv_eq_ediv_of_nonneg i ⋯];exact q)<|.inl<|PyProof.noPylong_small ⋯
theorem uD:iQ X (sm .Mod) (rI (λ_ j=>0<j) λi j=> .int (i%j)):=Ht λi j _ _ _ _ _ z q=>by have a:(0:Int)<j:=z;exact mod_int' ⋯ (by rw[Int.fmod_eq_emod_of_nonneg i ⋯];exact q)
theorem uC:iQ X (sm .Pow) (rI Fw λi j=> .int (i ^ j.toNat)):=Ht λ_ _ _ _ _ _ _ z q=>pow_int_small z.1 z.2.1 z.2.2 q
theorem Se{f:eh->Sem eh}{g:Int->Int}
 (rule : ∀(i:Int) (t:qs) (s:el) (Q:RQ) (E:RQ),Q (.int (g i) s.toks) {s with toks:=s.toks+1}->wpAny (eK X.prog X.w) X.A (f<|.int i t) Q E s) :
 N1 X f (rU λi=> .int (g i)):=by
 intro a s b H x v Q I z h;obtain⟨i,rfl,q⟩:=h;obtain⟨t,rfl⟩:=z;exact rule i t s _ _ ⟨.int<|g i,H,I.tok _,⟨_,rfl⟩,q⟩
theorem rZ:N1 X (unaryOp .USub) (rU λi=> .int (-i)):=Se λ_ _ _ _ _ q=>neg_int q
end
section
variable{X:Cx}{a b c:eA}{ta tb tc:TE}{pos:g8}
theorem Ae(I:Inv X pins σ H s)(q:Q (.bl k) H)(e:k=k'):EP X pins σ Q (.bool k') s:=by subst e;exact⟨.bl k,H,I,rfl,q⟩
theorem oX:iQ X (n3 .Lt) (rr λi j=> .bl (decide<|i<j)):=Ci λ_ _ _ _ _ _ _ q=>lt_int q
theorem ia:iQ X (n3 .LtE) (rr λi j=> .bl (decide<|i<=j)):=Ci λ_ _ _ _ _ _ _ q=>le_int q
theorem Cg:iQ X (n3 .Gt) (rr λi j=> .bl (decide<|j<i)):=Ci λ_ _ _ _ _ _ _ q=>gt_int q
theorem uE:iQ X (n3 .Is) (λx y H Q=>y = .eX/\Q (.bl<|decide<|x = .eX) H):=by
 intro a s b H x y v u Q I z O h;obtain⟨rfl,q⟩:=h;cases O;refine is_none_gen<|Ae I q ?_;cases x<;>first
  | (cases z;rfl)
  | (obtain⟨t,rfl⟩:=z;rfl)
theorem iQ.or(h:iQ X f r)(h':iQ X f r'):iQ X f (λx y H Q=>r x y H Q\/r' x y H Q):=by
 intro a s b H x y v u Q I z O q;rcases q with q | q
 ·exact h a s b H x y v u Q I z O q
 ·exact h' a s b H x y v u Q I z O q
theorem Jf(b:eA)(h:op ≠ .In:=by decide)(C:op ≠ .NotIn:=by decide):vu op b=ed:=by
 have a:(op==CmpOp.In)=ed:=by cases op<;>first | rfl | exact absurd rfl h
 have z:(op==CmpOp.NotIn)=ed:=by cases op<;>first | rfl | exact absurd rfl C
 cases b<;>simp[vu,a,z]
theorem oS{z:CmpOp}{r:R2}(O:iQ X (n3 z) r)(C:PE X a ta)(U:PE X b tb)(J:vu z b=ed):PE X (.Compare a [z] [b] pos) (E3 r ta tb):=by intro d s k H Q I h;exact wpAny_Compare1 (CP C U I h λv u j x y e f g i q=>O d j k e x y v u Q f g i q) J
noncomputable def su(t:TE):TT:=λb H Q=>t b H λx a=>∃k,x = .bl k/\Q k a
theorem bN(O:iQ X (n3 op) r)(C:PE X a ta)(U:PE X b tb)(J:vu op b=ed):PT X (.Compare a [op] [b] pos) (su<|E3 r ta tb):=by
 intro d s f H Q I h;refine Sh (e9 (C d s f H _ I h) λv E ⟨x,g,l,w,o⟩=>e9 (U d E f g _ l o) λu F ⟨y,i,m,A,p⟩=>
  e9 (O d F f i x y v u _ m w A p) λc G ⟨z,j,n,B,k,e,t⟩=>?_) J
 subst e;cases B;exact IA ⟨j,n,t⟩
noncomputable def lX(r C:R2)(ta tb tc:TE):TE:=λa H Q=>ta a H λx b=>tb a b λy d=>r x y d λz I=>∃k,z = .bl k/\
 (if k=di then tc a I λe O=>C y e O Q else Q (.bl ed) I)
theorem gW(Z:iQ X (n3 op) r)(C:iQ X (n3 E1) r')(J:PE X a ta)(L:PE X b tb)(S:PE X c tc)
 (Y:Ou [op,E1] [b,c]=ed:=by with_unfolding_all rfl):PE X (.Compare a [op,E1] [b,c] pos) (lX r r' ta tb tc):=by
 intro f s g H Q I h;refine Compare_chain (e9 (J f s g H _ I h) λv K ⟨x,l,o,E,w⟩=>chain_link (e9 (L f K g l _ o w) λu M ⟨y,m,p,j,A⟩=>
  e9 (Z f M g m x y v u _ p E j A) λd N ⟨z,O,U,F,k,e,i⟩=>?_)) Y
 subst e;cases F;refine IA ?_;cases k with
 | false=>exact ite_ff ⟨.bl ed,O,U,rfl,i⟩
 | true=>exact ite_tt<|chain_last<|e9 (S f N g O _ U i) λR P ⟨T,n,t,G,B⟩=>C f P g n y T u R Q t j G B
theorem gH{O U:CmpOp}{r C:R2}(ho:iQ X (n3 O) r)(J:iQ X (n3 U) C)(L:PE X a ta)(S:PE X b tb)(Y:PE X c tc)
 (Z:Ou [O,U] [b,c]=ed:=by with_unfolding_all rfl):PT X (.Compare a [O,U] [b,c] pos) (su<|lX r C ta tb tc):=by
 intro f s g H Q I h;refine isTrue_chain (e9 (L f s g H _ I h) λv s1 ⟨x,n,w,T,M⟩=>test_link (e9 (S f s1 g n _ w M) λu s2 ⟨y,o,A,m,N⟩=>
  e9 (ho f s2 g o x y v u _ A T m N) λd s3 ⟨z,i,j,W,k,e,l⟩=>?_)) Z
 subst e;cases W;refine IA ?_;cases k with
 | false=>
  obtain⟨k',F,K⟩:=l;cases F;exact ite_ff ⟨i,j,K⟩
 | true=>
  refine ite_tt<|test_last<|e9 (Y f s3 g i _ j l) λw' s4 ⟨z',p,B,r4,P⟩=>e9 (J f s4 g p y z' u w' _ B m r4 P) λd' s5 ⟨z2,t,E,r5,k2,G,R⟩=>?_;subst G;cases r5;exact IA ⟨t,E,R⟩
noncomputable def Fq(K:GI)(x:V)(H:Hp)(k:Bool):Prop:=
 match x with
 | .eX=>k=ed
 | .bl b=>k=b
 | .int i=>k=(i != 0)
 | .str y=>y.length<=fA/\k=((y.length:Int) != 0)
 | .D2 y=>y.size<=fA/\k=((y.size:Int) != 0)
 | .ref p=>(∃d,f9 K H p d/\k = !d.isEmpty)\/(∃d,g5 K H p d/\k = !d.isEmpty)\/∃a,H p=bQ (.dK a)/\k = !a.isEmpty
 | _=>False
theorem W7(r:KV kv vs):(!vs.isEmpty) = !kv.isEmpty:=by cases r<;>rfl
theorem QG(r:fh xs RA):(!RA.toArray.isEmpty) = !xs.isEmpty:=by cases r<;>simp
theorem Jk:(fA:Nat)<2 ^ 63:=by rw[LK];decide
theorem si:Gn X (λx H Q=>∃k,Fq X.K x H k/\Q k H):=by
 intro n s E H x v Q I O h;obtain⟨k,e,q⟩:=h;have B:=Jk;have C:fA=16777216:=LK;cases x with
 | eX=>
  cases O;have z:k=ed:=e;subst z;exact truthy_none ⟨H,I,q⟩
 | bl b=>
  cases O;have z:k=b:=e;subst z;exact IA ⟨H,I,q⟩
 | int i=>
  obtain⟨t,rfl⟩:=O;have z:k=(i != 0):=e;subst z;exact PySem.P.truthy_int ⟨H,I,q⟩
 | str y=>
  obtain⟨t,rfl⟩:=O;obtain⟨A,z⟩:y.length<=fA/\k=((y.length:Int) != 0):=e;subst z;exact PySem.P.truthy_str ⋯ ⟨H,I.tok _,q⟩
 | D2 y=>
  obtain⟨t,rfl⟩:=O;obtain⟨A,z⟩:y.size<=fA/\k=((y.size:Int) != 0):=e;subst z;exact PySem.W.truthy_bytes ⋯ ⟨H,I.tok _,q⟩
 | ref p=>
  cases O;have z:(∃d,f9 X.K H p d/\k = !d.isEmpty)\/(∃d,g5 X.K H p d/\k = !d.isEmpty)\/∃a,H p=bQ (.dK a)/\k = !a.isEmpty:=e;rcases z with⟨d,f,z⟩ | ⟨d,f,z⟩ | ⟨a,f,z⟩
  ·subst z
   obtain⟨o,r,U,l⟩:=I.list f;have j:=r.length;exact wpAny_truthy_list U.isList (by simp only[iN];omega) ⟨H,I.tok _,by rw[QG r];exact q⟩
  ·subst z
   obtain⟨o,r,U,l⟩:=I.tuple f;have j:=r.length;exact truthy_tuple U (by simp only[iN];omega) ⟨H,I.tok _,by rw[QG r];exact q⟩
  ·subst z
   obtain⟨l,u,g,r,m⟩:a.length<=fA/\(p==B5)=ed/\∃g,KV a g/\s.heap.DictOf (qY X.prog X.w) p g:=I.f6 p _ f;have j:a.length=g.length:=Paired.length r;exact wpAny_truthy_dict u m ⋯ ⟨H,I.tok _,by rw[W7 r];exact q⟩
 | _=>exact(show False from e).elim
theorem gG(J:PE X a ta)(O : ∀z,Ds a X.env z=(do let v <- z;Dx a.pos;rp [v] (E5 v))) :
 PT X a (λC H Q=>ta C H λx H'=>∃k,Fq X.K x H' k/\Q k H'):=by
 intro b s C H Q I h;exact isTrue_plain (e9 (J b s C H _ I h) λv g ⟨x,d,U,f,e⟩=>si b g C d x v Q U f e)<|O _
theorem k6(r:fh [x] us) : ∃u,us=[u]/\RelV x u:=by
 cases r with
 | cons z a=>cases a;exact⟨_,rfl,z⟩
theorem mZ(r:fh [x,y] us) : ∃u w',us=[u,w']/\RelV x u/\RelV y w':=by
 cases r with
 | cons z a=>
  cases a with
  | cons I O=>cases O;exact⟨_,_,rfl,z,I⟩
theorem dW(O:X.calm=di):wL X (.builtin "max") (λxs H Q=>∃i j,xs=[.int i,.int j]/\Q (.int (if j>i then j else i)) H):=by
 intro a s g H xs e Q I r h;obtain⟨i,j,rfl,q⟩:=h;obtain⟨u,f,rfl,⟨t,rfl⟩,⟨d,rfl⟩⟩:=mZ r;refine max_two_ints (I.ok.hd O) λb U k=>⟨_,H,I.kept k,?_,q⟩;by_cases z:j>i
 ·rw[RY z,RY z];exact⟨_,rfl⟩
 ·rw[EQ z,EQ z];exact⟨_,rfl⟩
theorem dU(O:X.calm=di):wL X (.builtin "min") (λxs H Q=>∃i j,xs=[.int i,.int j]/\Q (.int (if j<i then j else i)) H):=by
 intro a s g H xs e Q I r h;obtain⟨i,j,rfl,q⟩:=h;obtain⟨u,f,rfl,⟨t,rfl⟩,⟨d,rfl⟩⟩:=mZ r;refine min_two_ints (I.ok.hd O) λb U k=>⟨_,H,I.kept k,?_,q⟩;by_cases z:j<i
 ·rw[RY z,RY z];exact⟨_,rfl⟩
 ·rw[EQ z,EQ z];exact⟨_,rfl⟩
theorem dX:wL X (.type "int") (λxs H Q=>(∃i,xs=[.int i]/\Q (.int i) H)\/∃k,xs=[.bl k]/\Q (.int (if k then 1 else 0)) H):=by
 intro a s d H xs b Q I r h;rcases h with⟨i,rfl,q⟩ | ⟨k,rfl,q⟩
 ·obtain⟨u,rfl,t,rfl⟩:=k6 r
  exact call_int_int ⟨.int i,H,I,⟨_,rfl⟩,q⟩
 ·obtain⟨u,rfl,z⟩:=k6 r
  cases z;exact call_int_bool ⟨.int<|if k then 1 else 0,H,I.tok _,⟨_,rfl⟩,q⟩
end
structure M7(h:fy)(x dx C:eg)(mA:RJ):Prop where
 obj:h.get? x=bQ (PySem.W.instObj C dx)
 ns:h.Ns1 dx mA
 ne:dx≠x
theorem cO{h:fy}{C:eg}{J:RJ}(n:h.Ns1 C J) : ∃L,h.get? C=bQ L/\∀name,PySem.W.lookIn name L=bQ (J name):=by
 obtain⟨o,b,j,I,g,O,_,i⟩:=n;refine⟨o,I,λname=>?_⟩;have e:=i name;unfold nsFind findBy at e;rw[<- Array.find?_toList]at e;unfold PySem.W.lookIn;rw[g];dsimp only;split
 ·rename_i y q
  rw[q]at e;exact congrArg bQ e
 ·rename_i q
  rw[q]at e;have a:b.toList.any (·.refKey)=ed:=by rw[NJ];intro y U;obtain⟨z,t,f⟩:=O y<|Array.mem_toList_iff.mp U;simp[DictEntry.refKey,f]
  have d : ¬b.toList.any (·.refKey)=di:=by rw[a];exact Hr
  rw[EQ d];exact congrArg bQ e
theorem M7.look(I:M7 h x dx C mA) : ∃J,PySem.W.InstAt h x (PySem.W.instObj C dx) C (bQ J)/\∀name,PySem.W.lookIn name J=bQ (mA name):=
 let ⟨J,z,O⟩:=cO I.ns
 ⟨J,⟨I.obj,rfl,rfl,z⟩,O⟩
theorem t6.some_of(r:t6 (bQ v) o) : ∃u,o=bQ u/\RelV v u:=by
 cases o with
 | none=>exact(show False from r).elim
 | some u=>exact⟨u,rfl,r⟩
section
variable{P:il}{w:hH}{H H':Hp}{h h':fy}{a C dx:eg}{fs Ru:List (Str×V)}
theorem pB(J:kr P w H h)(e:H a=bQ (.ins C dx fs)) : ∃mA,M7 h a dx C mA/\(∀f,t6 (fs.lookup f)<|mA f)/\PySem.Within mA (fs.map (·.1))/\fs.length<=1000/\H dx=bQ (.own a):=by obtain⟨d,z,b,I,mA,n,r,q⟩:=(show i6 P w H h a (.ins C dx fs)from J a _ e);exact⟨mA,⟨I,n,b⟩,r,q,z,d⟩
end
structure M0(K:GI)(C:eg):Prop where
 pg:PySem.W.plainGet K C Str.empty=di
 hd:PySem.W.hasDictIn K C=di
 po:PySem.W.plainOver K C=di
 sa:Mw K (.ref C) "__setattr__" = bQ (bQ (.builtin "object.__setattr__"))
theorem M0.get{K:GI}{C:eg}(c:M0 K C)(f:Str):PySem.W.plainGet K C f=di:=c.pg
section
variable{X:Cx}{pins:RW}{σ:St}{H:Hp}{s:el}{A:l6}{E:RQ}{Q:RQ}{c:eh}{b:Bool}
inductive r9(K:GI)(H:Hp):V->eh->Prop where
 | eX:r9 K H .eX (.type "NoneType")
 | bl (x:Bool):r9 K H (.bl x) (.type "bool")
 | int (i:Int):r9 K H (.int i) (.type "int")
 | str (x:Str):r9 K H (.str x) (.type "str")
 | DK (x:UInt64):r9 K H (.DK x) (.type "float")
 | lst {a:eg} {xs:List V} (e:H a=bQ (.lst xs)):r9 K H (.ref a) (.type "list")
 | rb {a:eg} {o:m6} {xs:List V} (e:H a=bQ (.rb o (.lst xs))):r9 K H (.ref a) (.type "list")
 | tup {a:eg} {xs:List V} (e:H a=bQ (.tup xs)):r9 K H (.ref a) (.type "tuple")
 | dK {a:eg} {kv:List (Key×V)} (e:H a=bQ (.dK kv)):r9 K H (.ref a) (.type "dict")
 | dT {a:eg} {kv:List (List Key×V)} (e:H a=bQ (.dT kv)):r9 K H (.ref a) (.type "dict")
 | ins {a C dx:eg} {fs:List (Str×V)} (e:H a=bQ (.ins C dx fs)) (cl:M0 K C) (ha:Mw K (.ref C) "__class__" = bQ (bQ (.builtin "object.__class__")))
  (hn:PySem.W.specialIn K (.builtin "object.__class__") "__get__" = bQ (bQ (.builtin "getset_descriptor.__get__"))) (So:PySem.W.takesIn K (.builtin "object.__class__")=bQ di)
  (hm:PySem.W.mroIn K C (.type "object")=bQ di):r9 K H (.ref a) (.ref C)
theorem cZ(I:Inv X pins σ H s)(U:RelV x u)(ty:r9 X.K H x t)(e:LH X.K t c=bQ b)(h : ∀S,Q (.bool b) {s with toks:=S}) :
 wpAny (eK X.prog X.w) A (call (.builtin "isinstance") [u,c]) Q E s:=by
 cases ty with
 | eX=>cases (show u=HB from U);exact HG PySem.W.kitx_none I.l9 Lq e (λz=>nomatch z) h
 | bl y=>cases (show u=Value.bool y from U);exact HG PySem.W.kitx_bool I.l9 Lq e (λz=>nomatch z) h
 | int i=>obtain⟨t,q⟩:=(show ∃t,u=Nu i t from U);cases q;exact HG PySem.W.kitx_int I.l9 Lq e (λz=>nomatch z) h
 | str y=>obtain⟨t,q⟩:=(show ∃t,u=Nt y t from U);cases q;exact HG PySem.W.kitx_str I.l9 Lq e (λz=>nomatch z) h
 | DK y=>obtain⟨t,q⟩:=(show ∃t,u=Value.float y t from U);cases q;exact HG PySem.W.kitx_float I.l9 Lq e (λz=>nomatch z) h
 | @lst a j d=>
  cases (show u=Iz a from U);obtain⟨_,_,n,_,f⟩:=(show i6 X.prog X.w H s.heap a (.lst j)from I.f6 a _ d);exact HG Nw I.l9 ⟨_,f,rfl⟩ e (λz=>nomatch z) h
 | @rb a M j d=>
  cases (show u=Iz a from U);obtain⟨_,_,_,n,_,f⟩:=(show i6 X.prog X.w H s.heap a (.rb M<|.lst j)from I.f6 a _ d);exact HG Nw I.l9 ⟨_,f,rfl⟩ e (λz=>nomatch z) h
 | @tup a j d=>
  cases (show u=Iz a from U);obtain⟨_,_,_,p⟩:=(show i6 X.prog X.w H s.heap a (.tup j)from I.f6 a _ d);obtain⟨o,f,k,_⟩:=p;exact HG PySem.W.kitx_tuple I.l9 ⟨o,f,(Prod.mk.inj k).1⟩ e (λz=>nomatch z) h
 | @dK a g d=>
  cases (show u=Iz a from U);obtain⟨_,_,T,_,p⟩:=(show i6 X.prog X.w H s.heap a (.dK g)from I.f6 a _ d);obtain⟨o,B,r,f,k,_⟩:=p;exact HG Nx I.l9 ⟨o,f,k.1⟩ e (λz=>nomatch z) h
 | @dT a g d=>
  cases (show u=Iz a from U);obtain⟨_,_,j,_,o,B,r,f,k,_⟩:=(show i6 X.prog X.w H s.heap a (.dT g)from I.f6 a _ d);exact HG Nx I.l9 ⟨o,f,k.1⟩ e (λz=>nomatch z) h
 | @ins a C N fs d m F L l G=>
  cases (show u=Iz a from U);obtain⟨P,O,_⟩:=pB I.f6 d;obtain⟨R,J,_⟩:=O.look;exact HG (PySem.W.kitx_own (m.get _) m.hd F L l G) I.l9 J e (λz=>nomatch z) h
end
structure ml(k:Nat)(A:l6):Prop where
 hd:A.handled=dj
 dp:A.depth+3*k+5<recursionLimit
 un:A.units+16*k+200<A3
theorem ml.mono(r:ml k A)(h:j<=k):ml j A:=⟨r.hd,by have:=r.dp;omega,by have:=r.un;omega⟩
theorem ml.deeper(r:ml (k+1) A)(env:m5):ml k (A.deeper env):=
 ⟨r.hd,by have:=r.dp;show A.depth+1+3*k+5<_;omega,by have:=r.un;show A.units+3+16*k+200<_;omega⟩
theorem ml.in1(r:ml (k+1) A):ml k A.in1:=
 ⟨r.hd,by have:=r.dp;show A.depth+3*k+5<_;omega,by have:=r.un;show A.units+1+16*k+200<_;omega⟩
theorem ml.depth(r:ml k A):A.depth<recursionLimit:=by have:=r.dp;omega
noncomputable def EC:TA:=λ_ H Q=>Q [] H
noncomputable def sy(C:TE)(z:TA):TA:=λa H Q=>C a H λx b=>z a b λe d=>Q (x::e) d
section
variable{X:Cx}{e:eA}{es:List eA}{te:TE}{t:TA}{pos:g8}
theorem qy:PA X [] EC:=λ_ _ _ _ H Q I h=>NF ⟨[],H,I,.nil,h⟩
theorem jx(C:PE X e te)(z:PA X es t)(hs:f7 (e::es) X.env=(ed,eL e X.env)::f7 es X.env:=by rfl):PA X (e::es) (sy te t):=by intro pos a s b H Q I h;rw[hs];show wpAny _ _ (I7 ((ed,eL e X.env)::pk pos (f7 es X.env))) _ _ s;refine Mz<|e9 (C a s b H _ I h) λu m O=>?_;obtain⟨x,d,U,k,i⟩:=O;exact e9 (z pos a m b d _ U i) λp o ⟨n,f,g,l,j⟩=>⟨x::n,f,g,.cons k l,j⟩
noncomputable def FA(t:TA):TE:=λd H Q=>t d H λb a=>b.length<=fA/\∀p,a p=dj->Q (.ref p) (upd a p<|.tup b)
noncomputable def FE(t:TA):TE:=λd H Q=>t d H λb a=>b.length<=fA/\∀p,a p=dj->Q (.ref p) (upd a p<|.lst b)
theorem ui(h:PA X es t):PE X (.Tuple es x1 pos) (FA t):=by intro a s k H Q I U;refine wpAny_Tuple_spliced<|e9 (h pos a s k H _ I U) λi d ⟨j,f,O,r,z,q⟩=>⟨by rw[<- r.length];exact z,?_⟩;have g:f d.heap.objs.size=dj:=O.f6.fresh<|GQ _;refine⟨.ref d.heap.objs.size,upd f d.heap.objs.size<|.tup j,O.laid (t':=d.toks) (λb u e=>GK _ e) (GQ _) ?_,rfl,q _ g⟩;exact⟨z,i,r,⟨_,Hc _ rfl,rfl,_,rfl⟩⟩
theorem uq(h:PA X es t):PE X (.List es pos) (FE t):=by intro a s k H Q I U;refine wpAny_List_spliced<|e9 (h pos a s k H _ I U) λi d ⟨j,f,O,r,z,q⟩=>⟨by rw[<- r.length];exact z,?_⟩;have g:f d.heap.objs.size=dj:=O.f6.fresh<|GQ _;refine⟨.ref d.heap.objs.size,upd f d.heap.objs.size<|.lst j,O.laid (t':=d.toks) (λb u e=>GK _ e) (GQ _) ?_,rfl,q _ g⟩;exact⟨z,i,0,r,Hc _ rfl⟩
end
abbrev Sp:=List V->Hp->VK->XK->Prop
abbrev r0:=List m5->Hp->el->XK->eh->el->Prop
structure z3(P:il)(w:hH)(K:GI)(mg:RJ)(base:fy)(A:l6)(outer:List m5)(s:el)(H:Hp):Prop where
 frames:A.frames=bQ outer
 mod:Mod K mg base
 bs : ∀b o,base.get? b=bQ o->s.heap.get? b=bQ o/\H b=dj
 wb:base.objs.size<=s.heap.objs.size
 ro:s.heap.FunFrames base outer
 C6 : ∀b∈t9 outer,H b=dj
 f6:kr P w H s.heap
 bare:B7 s.gens
noncomputable def CE(outer:List m5)(P:il)(w:hH)(H:Hp)(s:el)(Q:VK)(u:eh)(C:el):Prop:=
 ∃v a,C.os=s.os/\B7 C.gens/\Un (t9 outer) [] H a s.heap C.heap/\kr P w a C.heap/\RelV v u/\Q v a
noncomputable def CR(CX:r0)(outer:List m5)(P:il)(w:hH)(H:Hp)(s:el)(Q:VK)(E:XK)(r:Result)(C:el):Prop:=
 match r with
 | .ok (.ret u)=>CE outer P w H s Q u C
 | .ok _=>False
 | .error e=>CX outer H s E e C
structure o4(P:il)(w:hH)(K:GI)(mg:RJ)(base:fy)(CX:r0)(k:Nat)(f:eg)(fd:o5)(ps:List Str)(sp:Sp):Prop where
 len : ∀vs H Q E,sp vs H Q E->vs.length=ps.length
 run : ∀(A:l6) (outer:List m5) (s:el) (H:Hp) (args:Args) (us:List eh) (vs:List V) (Q:VK) (E:XK),ml k A->z3 P w K mg base A outer s H->E9 s fd args (ps.zip us)->fh vs us->sp vs H Q E->
  codeAny (eK P w) A (.call (.ref f) args) (CR CX outer P w H s Q E) s
theorem z3.in1{P:il}{w:hH}{K:GI}{C:RJ}{base:fy}{A:l6}{outer:List m5}{s:el}{H:Hp}(e:z3 P w K C base A outer s H) :
 z3 P w K C base A.in1 outer s H:=⟨e.frames,e.mod,e.bs,e.wb,e.ro,e.C6,e.f6,e.bare⟩
section
variable{X:Cx}{pins:RW}{σ:St}{H:Hp}{s s':el}
theorem Inv.A6(I:Inv X pins σ H s):z3 X.prog X.w X.K X.mg X.base X.A X.stack s H:=
 ⟨I.ok.frames,I.ok.mod,I.bs,Ia I.ok.wb I.sz,I.stack,I.Pw,I.f6,I.bare⟩
theorem Inv.after(I:Inv X pins σ H s)(h:CE X.stack X.prog X.w H s Q u s'):EP X pins σ Q u s':=by obtain⟨v,f,os,a,un,e,r,q⟩:=h;obtain⟨O,g,d,t,U⟩:=s';obtain rfl:U=s.os:=os;exact⟨v,f,I.call (h':=O) (g':=g) (d':=d) (t':=t) (ch:=[]) un e a<|λb z=>absurd z ⋯,r,q⟩
end
noncomputable def nK(sp:Sp)(C:List V)(E:XK)(t:TA):TE:=λd H Q=>t d H λb a=>sp (b++C) a Q E
noncomputable def Binds(K:GI)(C:o5)(ps:List Str)(ds:List eh):Prop:=
 ∀(s:el) (a:List eh),K.In s.heap->(a++ds).length=ps.length->E9 s C ⟨a,[]⟩ (ps.zip<|a++ds)
theorem Binds.all{K:GI}{C:o5}{ps:List Str}(h : ∀us:List eh,us.length=ps.length->O3 C ⟨us,[]⟩=pure (ps.zip us)):Binds K C ps []:=λs us _ z=>by rw[Lz]at z ⊢;exact .of_eq<|h us z
noncomputable def eV(CX:r0)(X:Cx)(E:XK):Prop:=∀(a:RW) (d:St) (H:Hp) (s:el) (e:eh) (b:el),Inv X a d H s->CX X.stack H s E e b->X.xe e b
section
variable{X:Cx}{CX:r0}{k:Nat}{f C:eg}{fd:o5}{ps:List Str}{sp:Sp}{DH:List V}{ds:List eh}{E:XK}{x m:Str}{p pos apos:g8}{e o:eA}{es:List eA}{ta:TE}{t:TA}
theorem sY(F:o4 X.prog X.w X.K X.mg X.base CX k f fd ps sp)(O:ml k X.A)(U:Binds X.K fd ps ds)(J:fh DH ds)(hx:eV CX X E)
 (I:Inv X pins σ H s) (r:fh vs us) (h:sp (vs++DH) H Q E):wpAny (eK X.prog X.w) X.A (call (.ref f) us) (EP X pins σ Q) X.xe s:=by
 have a:fh (vs++DH) (us++ds):=r.append J;have d:(us++ds).length=ps.length:=by rw[<- a.length];exact F.len _ _ _ _ h
 refine wpAny_call<|Nr (F.run X.A X.stack s H ⟨us,[]⟩ (us++ds) (vs++DH) Q E O I.A6 (U s us I.l9 d) a h) λr g z=>?_;cases r with
 | error e=>exact hx pins σ H s e g I z
 | ok b=>
  cases b with
  | ret u=>exact I.after z
  | next=>exact Le z
  | brk=>exact Le z
  | cont=>exact Le z
theorem cn(F:o4 X.prog X.w X.K X.mg X.base CX k f fd ps sp)(O:ml k X.A)(U:Gl X x)(hm:X.mg x=bQ (.ref f))(hk:Mv X.K (.ref f)=di)(Y:Binds X.K fd ps ds)(Z:fh DH ds)(hx:eV CX X E)
 (S:PA X (e::es) t) (J:(x==("__debug__" : Str))=ed:=by decide) (he:f7 (e::es) X.env=(ed,eL e X.env)::f7 es X.env:=by rfl) (L:(pk pos (f7 es X.env)).any (·.1)=ed:=by rfl) :
 PE X (.Call (.Name x p) (e::es) [] pos) (nK sp DH E t):=by
 intro a s b H Q I h;refine Me<|cR I U hm ?_ J;refine PySem.W.callWith_K (h₀:=X.base) I.ok.mod.Ot hk (e9 (S pos a s b H _ I h) λi g ⟨j,d,z,r,q⟩=>⟨z.l9,?_⟩) he L;exact sY F O Y Z hx z r q
end
structure DV(N P:List Str)(sc:hG):Prop where
 kind:sc.kind = .function
 co:sc.isCoroutine=ed
 gen:sc.isGenerator=ed
 nd:N.Nodup
 pre:N.take P.length=P
 par : ∀x∈P,sc.names.lookup x=bQ .local\/sc.names.lookup x=bQ .cell
 RM : ∀y∈sc.names,y.2 ≠ .free
theorem Yl{kindOf:Str->Option t4}{x:Str} : ∀{z:List (Str×eh)} {m:RJ},(∀v,(x,v)∉z)->Dl kindOf z m x=m x
 | [],_,_=>rfl
 | (n,v)::r,m,h=>by
  unfold Dl;rw[Yl λw a=>h w (GX _ a)];split
  ·have:x≠n:=by rintro rfl;exact h v Ha
   simp[this]
  ·rfl
theorem Yo{kindOf:Str->Option t4}{x:Str} : ∀{z:List (Str×eh)} {m:RJ},(∀v,(x,v)∉z)->Dk kindOf z m x=m x
 | [],_,_=>rfl
 | (n,v)::r,m,h=>by
  unfold Dk;rw[Yo λw a=>h w (GX _ a)];split
  ·rfl
  ·have:x≠n:=by rintro rfl;exact h v Ha
   simp[this]
theorem Ym{kindOf:Str->Option t4}{x:Str}{v:eh} : ∀{P:List Str} {vs:List eh} {i:Nat} {m:RJ},P.Nodup->P[i]? = bQ x->vs[i]? = bQ v->kindOf x=bQ .local->
 Dl kindOf (P.zip vs) m x=bQ v
 | [],_,_,_,_,h,_,_=>by simp at h
 | _::_,[],_,_,_,_,h,_=>by simp at h
 | p::P,w::vs,0,m,nd,h1,h2,hk=>by simp at h1 h2;subst h1;subst h2;show Dl kindOf ((p,w)::P.zip vs) m p=_;unfold Dl;rw[Yl λv z=>(Io.mp nd).1 (List.of_mem_zip z).1,RY hk];simp
 | p::P,w::vs,i+1,m,nd,h1,h2,hk=>by show Dl kindOf ((p,w)::P.zip vs) m x=_;unfold Dl;exact Ym (i:=i) (Io.mp nd).2 (by simpa using h1) (by simpa using h2) hk
theorem Yp{kindOf:Str->Option t4}{x:Str}{v:eh} : ∀{P:List Str} {vs:List eh} {i:Nat} {m:RJ},P.Nodup->P[i]? = bQ x->vs[i]? = bQ v->kindOf x≠bQ .local->
 Dk kindOf (P.zip vs) m x=bQ v
 | [],_,_,_,_,h,_,_=>by simp at h
 | _::_,[],_,_,_,_,h,_=>by simp at h
 | p::P,w::vs,0,m,nd,h1,h2,hk=>by simp at h1 h2;subst h1;subst h2;show Dk kindOf ((p,w)::P.zip vs) m p=_;unfold Dk;rw[Yo λv z=>(Io.mp nd).1 (List.of_mem_zip z).1,EQ hk];simp
 | p::P,w::vs,i+1,m,nd,h1,h2,hk=>by show Dk kindOf ((p,w)::P.zip vs) m x=_;unfold Dk;exact Yp (i:=i) (Io.mp nd).2 (by simpa using h1) (by simpa using h2) hk
noncomputable def w4(N:List Str)(vs:List V):St:=vs.map bQ++GO (N.length - vs.length) dj
noncomputable def pR(CX:r0)(P:il)(w:hH)(K:GI)(mg:RJ)(base:fy)(N:List Str)(qual:Str)(scope:hG)(f:eg)(z:eh)(A:l6)(outer:List m5)(s:el)(H:Hp)(E:XK):Cx where
 prog:=P
 w:=w
 K:=K
 mg:=mg
 base:=base
 A:=A.deeper<|envOfC qual scope s.heap.objs.size f z
 N:=N
 m3:=s
 DW:=H
 env:=F7 qual scope s.heap.objs.size f z
 outer:=outer
 stack:=F7 qual scope s.heap.objs.size f z::outer
 ex:=[]
 calm:=di
 fn:=λ_=>di
 pn:=[]
 xe:=λe s'=>wpAny (eK P w) (A.deeper<|envOfC qual scope s.heap.objs.size f z) (leaving (F7 qual scope s.heap.objs.size f z) e) (λ_ I=>CX outer H s E e I) (λO I=>CX outer H s E O I) s'
theorem Wp{C:hG}{n:Nat}{x:Str}(h:C.names.lookup x=bQ .cell) : ∃c,(q7 n C.names []).lookup x=bQ c:=by have q:=LU C.names n [] (.inl h);exact IK.mp q
theorem dc{CX:r0}{P:il}{w:hH}{K:GI}{J:RJ}{base:fy}{N ps:List Str}{qual:Str}{scope:hG}{f:eg}{C:eh}{A:l6}{outer:List m5}{s L:el}{H:Hp}{E:XK}{us:List eh}{vs:List V}
 (S:DV N ps scope) (Y:A.handled=dj) (I:z3 P w K J base A outer s H) (Z:vs.length=ps.length) (r:fh vs us)
 (x:InCallC s s.heap.objs.size (Dl (F7 qual scope s.heap.objs.size f C).kindOf (ps.zip us) λ_=>dj) (q7 (s.heap.objs.size+1) scope.names []) (Dk (F7 qual scope s.heap.objs.size f C).kindOf (ps.zip us) λ_=>dj) L) :
 Inv (pR CX P w K J base N qual scope f C A outer s H E) [] (w4 N vs) H L:=by
 have F:ps.length<=N.length:=by have:=congrArg List.length S.pre;rw[Mk]at this;omega
 obtain⟨g,M,rfl,m⟩:=x.done;have a1 : ∀b:eg,b∉(pR CX P w K J base N qual scope f C A outer s H E).ex:=λb z=>absurd (show b∈([]:List eg)from z) ⋯;refine⟨⟨I.mod,S.kind,rfl,rfl,GQ _,λy z c g d=>?_,λy O=>?_,λy c _ h=>?_,λ_=>Y,Around.frames_deeper I.frames,.inr ⟨rfl,rfl⟩,λb z=>absurd z<|a1 b,I.bs,I.wb,λb _ _=>a1 b,λb z=>absurd z<|a1 b,I.ro,I.C6⟩,
  rfl,I.bare,Un.kept m,⟨_,x.toInCall.ns,λi y v g d G=>?_⟩,λy c h=>⟨_,x.cell y c h⟩,I.f6.fresh<|GQ _,λy c h=>?_,λp U=>absurd (show p∈([]:RW)from U) ⋯,I.f6.kept m,?_⟩
 ·exact name_of_addr x.apart (LN g)<|LN d
 ·have O:scope.names.lookup y=bQ .cell\/scope.names.lookup y=bQ .free:=O
  rcases O with O | O
  ·exact Wp O
  ·exact absurd rfl<|S.RM _<|LN O
 ·exact Ng<|x.above y c<|LN h
 ·have j:i<vs.length:=by
   unfold w4 at d;by_cases j:i<vs.length
   ·exact j
   ·rw[HH (by simpa using j)]at d
    rw[LW]at d;split at d<;>cases d
  have t:vs[i]? = bQ v:=by
   unfold w4 at d;rw[HR (by simpa using j),Hd]at d;cases e:vs[i]? with
   | none=>rw[e]at d;cases d
   | some a=>rw[e]at d;cases d;rfl
  obtain⟨u,o,B⟩:=r.get t;have U:ps[i]? = bQ y:=by rw[<- S.pre,List.getElem?_take_of_lt ⋯];exact g
  have l:ps.Nodup:=by rw[<- S.pre];exact S.nd.sublist<|List.take_sublist _ _
  refine⟨u,B,?_⟩;rcases S.par y (HJ U)with k | k
  ·exact .inl ⟨k,Ym l U o k⟩
  ·obtain⟨c,e⟩:=Wp (n:=s.heap.objs.size+1) k
   refine .inr ⟨.inl k,c,e,?_⟩;have q:=x.cell y c e;rw[Yp l U o (by show scope.names.lookup y≠_;rw[k];decide)]at q;exact q
 ·exact I.f6.fresh<|Ng<|x.above y c<|LN h
 ·unfold w4
  show _=N.length;rw[HQ,GY,List.length_replicate];omega
theorem Cy{CX:r0}{P:il}{w:hH}{K:GI}{Z:RJ}{base:fy}{k:Nat}{f:eg}{name qual:Str}{a0:Arguments}{L:List i5}{scope:hG}{dV kV Y pm C ct oc:eh}{an od:Option eg}
 {OC:Array (Option eh)} {N ps:List Str} {sp:Sp} (lk:K.lookup f=bQ ⟨oc,od,.func<|LZ name qual a0 L scope dV kV Y pm an C ct,OC⟩) (a5:MY K C qual=di) (S:DV N ps scope)
 (len : ∀vs H Q E,sp vs H Q E->vs.length=ps.length)
 (a6 : ∀(A:l6) (outer:List m5) (s:el) (H:Hp) (vs:List V) (Q:VK) (E:XK),ml k (A.deeper<|envOfC qual scope s.heap.objs.size f C)->sp vs H Q E->
   ∃t,o9 (pR CX P w K Z base N qual scope f C A outer s H E) L t/\t {nx:=λ_ H'=>Q .eX H',rt:=Q} (w4 N vs) H) :
 o4 P w K Z base CX (k+1) f (LZ name qual a0 L scope dV kV Y pm an C ct) ps sp:=by
 refine⟨len,λA outer s H l us vs Q E O z hb r i=>?_⟩;have M:=len _ _ _ _ i;have h:K.In s.heap:=z.mod.Ot.keeps λb o e=>(z.bs b o e).1;have lim:s.heap.NoLimit:=z.mod.nolimit.keeps λb o e=>(z.bs b o e).1;have p : ∀y∈ps.zip us,scope.names.lookup y.1=bQ .local\/(scope.names.lookup y.1=bQ .cell/\((q7 (s.heap.objs.size+1) scope.names []).lookup y.1).isSome=di):=λ⟨n,v⟩ X=>by
  rcases S.par n (List.of_mem_zip X).1 with q | q
  ·exact .inl q
  ·exact .inr ⟨q,LU _ _ _<|.inl q⟩
 refine codeAny_call_function O.depth (h _ _ lk) rfl S.co S.gen rfl (PySem.W.codeRec_of h a5)<|hb _ _ _ _ ?_;refine wpAny_newFunctionEnv_cells S.kind p λB G m x=>?_;subst G;refine⟨lim.keeps x.toInCall.keep,codeAny_func ?_⟩;obtain⟨t,T,R⟩:=a6 A outer s H vs Q E (O.deeper _) i;have I:Inv (pR CX P w K Z base N qual scope f C A outer s H E) [] (w4 N vs) H m:=dc S O.hd z M r x;refine IY (T [] m (w4 N vs) H _ I R) (λF g d=>?_) λe g d=>d;have j : ∀{a:St} {H':Hp} {v:V} {u:eh},Inv (pR CX P w K Z base N qual scope f C A outer s H E) [] a H' g->RelV v u->Q v H'->CE outer P w H s Q u g:=
  λ{a H' v u} J U q=>⟨v,H',J.os,J.bare,J.base,J.f6,U,q⟩
 cases F with
 | ret u=>
  obtain⟨v,a,H',J,U,q⟩:=d;exact j J U q
 | next=>
  obtain⟨a,H',J,q⟩:=d;exact j (v:=V.eX) (u:=HB) J rfl q
 | brk=>
  obtain⟨_,_,_,q⟩:=d;exact Le q
 | cont=>
  obtain⟨_,_,_,q⟩:=d;exact Le q
section
variable{X:Cx}{x:Str}{p pos:g8}{e:eA}{es:List eA}{t:TA}{id T:String}{r:List V->Hp->VK->Prop}
noncomputable def Pz(r:List V->Hp->VK->Prop)(t:TA):TE:=λd H Q=>t d H λb a=>r b a Q
theorem xR(z:wL X (.builtin id) r)(O:Gl X x)(Y:X.mg x=dj)(U:C2 x=bQ (.builtin id))(L:PA X (e::es) t)(Z:x ≠ "__name__":=by decide)(C:(x==("__debug__" : Str))=ed:=by decide)
 (S:f7 (e::es) X.env=(ed,eL e X.env)::f7 es X.env:=by rfl) (J:(pk pos<|starEach es X.env).any (·.1)=ed:=by rfl):PE X (.Call (.Name x p) (e::es) [] pos) (Pz r t):=by
 intro a s b H Q I h;refine Me<|yo I O Y U ?_ Z C;exact Nd (e9 (L pos a s b H _ I h) λk j ⟨l,d,f,i,g⟩=>z a j b d l k Q f i g) S J
theorem ZZ(z:wL X (.type T) r)(O:Gl X x)(Y:X.mg x=dj)(U:C2 x=bQ (.type T))(L:PA X (e::es) t)(Z:x ≠ "__name__":=by decide)(C:(x==("__debug__" : Str))=ed:=by decide)
 (S:f7 (e::es) X.env=(ed,eL e X.env)::f7 es X.env:=by rfl) (J:(pk pos<|starEach es X.env).any (·.1)=ed:=by rfl):PE X (.Call (.Name x p) (e::es) [] pos) (Pz r t):=by
 intro a s b H Q I h;refine Me<|yo I O Y U ?_ Z C;exact Ij (e9 (L pos a s b H _ I h) λk j ⟨l,d,f,i,g⟩=>z a j b d l k Q f i g) S J
end
end L2
namespace HT
open PySem PyProof.Rows
section
variable{prog:il}{w:hH}{A:l6}{E:RQ}{s:el}
theorem CM(S:DX s.heap t vs.toArray)(L:DX s.heap b ws.toArray)(O:vs ≠ [])
 (C:ws=[]->Q (.ref t) s) (J:ws ≠ []->Q (.ref s.heap.objs.size) {s with heap:=s.heap.push {cls:= .type "tuple",data:= .seq (vs++ws).toArray}})
 (hsz:vs.length+ws.length<=fA):wpAny (eK prog w) A (sm .Add (.ref t)<|.ref b) Q E s:=by
 obtain⟨⟨cls,U,data,l⟩,z,i,n,j⟩:=id S;obtain⟨⟨m,d,data2,f⟩,I,g,k,h⟩:=id L;simp only at i j g h;subst i j g h;have e:vs.toArray++ws.toArray=(vs++ws).toArray:=by simp
 by_cases a:ws=[]
 ·exact Oa ⟨_,z,rfl⟩ ⟨_,I,rfl⟩ Ob Pp MN ML (MB _ _)
   (tuple_addW1 t b vs.toArray ws.toArray n k U d l f (by simpa using O)<|by simp[a]) ⟨z,I,C a⟩
 ·refine Oa ⟨_,z,rfl⟩ ⟨_,I,rfl⟩ Ob Pp MN ML (MB _ _)
   (tuple_addW2 t b vs.toArray ws.toArray n k U d l f (by simpa using O) (by simpa using a)<|by rw[iN,iN];exact hsz) ⟨z,I,?_⟩
  rw[e];exact J a
noncomputable def dn(n d:Nat):Option Int->Nat
 | none=>d
 | some v=>if v<0 then (v+(n:Int)).toNat else min v.toNat n
theorem sP(n d:Nat)(C:d<=n)(o:Option Int):dn n d o<=n:=by
 cases o with
 | none=>exact C
 | some v=>
  show(if v<0 then (v+(n:Int)).toNat else min v.toNat n)<=n;by_cases z:v<0
  ·rw[RY z];omega
  ·rw[EQ z];exact Nat.min_le_right _ _
theorem dP(v:Int)(n d:Nat):(if v<0 then max (v+(n:Int)) 0 else min v (n:Int))=((dn n d (bQ v):Nat):Int):=by
 show(if v<0 then max (v+(n:Int)) 0 else min v (n:Int))=(((if v<0 then (v+(n:Int)).toNat else min v.toNat n):Nat):Int);by_cases z:v<0
 ·simp only[RY z];omega
 ·simp only[EQ z];omega
theorem aq(lo C:Option Int)(n:Nat):Mj lo C 1 (n:Int)=(((dn n 0 lo:Nat):Int),((dn n n C:Nat):Int)):=by
 have a : ¬((1:Int)<0):=by omega
 unfold Mj;simp only[a,if_false];refine Prod.ext ?_ ?_
 ·cases lo with
  | none=>rfl
  | some v=>exact dP v n 0
 ·cases C with
  | none=>rfl
  | some v=>exact dP v n n
theorem WN(i j:Nat):Ls (i:Int) (j:Int) 1=j - i:=by
 unfold Ls;have a:(1:Int)>0:=by omega
 simp only[a,if_true,Int.ediv_one];split<;>omega
theorem J3(p:z4 v o)(h:Q o s):wpAny (eK prog w) A (Builtin.Slice.slicePartIndex v) Q E s:=by
 cases p with
 | none=>exact slicePart_none h
 | int i t=>exact slicePart_int h
theorem w5{J:eg}{z I:eh}{lo C:Option Int}{n:Nat}{Q:Int×Int×Nat->el->Prop}(hs:s.heap.IsSliceOf J z I .none)(L:z4 z lo)(S:z4 I C)
 (h:Q (((dn n 0 lo:Nat):Int),1,dn n n C - dn n 0 lo) s):wpAny (eK prog w) A (Builtin.Slice.sliceApplied (.ref J)<|pure (n:Int)) Q E s:=by
 obtain⟨os,O,a,U⟩:=id hs;unfold Builtin.Slice.sliceApplied Builtin.Slice.sliceFields;refine GJ<|GJ<|Ii O U (x:=z) rfl<|GJ<|Ii O U (x:=I) rfl<|GJ<|Ii O U (x:= .none) rfl<|GS ?_;refine GJ<|slicePart_none ?_;show wpAny _ _ (if ((1:Int)==0)=di then _ else _) _ _ s;rw[EQ ⋯];refine GJ<|J3 L<|GJ<|J3 S<|GJ<|GS ?_;show wpAny _ _ (match Mj lo C 1 (n:Int)with | (lo,C)=>pure (lo,(1:Int),Ls lo C 1)) _ _ s;rw[aq lo C n];show wpAny _ _ (pure (((dn n 0 lo:Nat):Int),(1:Int),Ls ((dn n 0 lo:Nat):Int) ((dn n n C:Nat):Int) 1)) _ _ s;rw[WN];exact GS h
theorem gQ(xs:Array eh)(i k:Nat):((GH k).filterMap λ(m:Nat)=>xs[((i:Int)+(m:Int)*1).toNat]?).toArray=((xs.toList.drop i).take k).toArray:=by
 have e:(λ(m:Nat)=>xs[((i:Int)+(m:Int)*1).toNat]?)=λm=>xs[i+m]? :=by
  funext m;have:((i:Int)+(m:Int)*1).toNat=i+m:=by omega
  rw[this]
 rw[e];have:=pick_run xs i k;rw[List.filterMap_map]at this;have z:((λx=>xs[x]?)∘λx=>i+x)=λm=>xs[i+m]? :=rfl;rw[z]at this;rw[this]
theorem aa{t J:eg}{items:Array eh}{O U:eh}{lo C:Option Int}{Q:RQ}(z:DX s.heap t items)(hs:s.heap.IsSliceOf J O U .none)(S:z4 O lo)(Y:z4 U C)
 (L : ¬(dn items.size 0 lo=0/\dn items.size items.size C=items.size))
 (h:Q (.ref s.heap.objs.size) {s with heap:=s.heap.push {cls:= .type "tuple",data:= .seq ((items.toList.drop (dn items.size 0 lo)).take (dn items.size items.size C - dn items.size 0 lo)).toArray}})
 (hsz:items.size<=fA):wpAny (eK prog w) A (A9 (.ref t)<|.ref J) Q E s:=by
 have I:sizeOk (.seq ((items.toList.drop<|dn items.size 0 lo).take (dn items.size items.size C - dn items.size 0 lo)).toArray):=by show((items.toList.drop<|dn items.size 0 lo).take (dn items.size items.size C - dn items.size 0 lo)).toArray.size<=fA;rw[iN,Mk,List.length_drop,Im];omega
 have g:dn items.size items.size C<=items.size:=sP _ _ (GQ _) C;obtain⟨os,a,b,f⟩:=id hs;have d:s.TypeIs (.ref J) "slice":=⟨os,a,b⟩;unfold A9
 try with_reducible refine IX ?_
 first | refine GJ (GS ?_) | skip
 refine GJ (Sj z.typeIs ⋯ ?_);refine GJ (Iv (name:=HU "__getitem__") z.typeIs Il
  (IH Il z.typeIs entry_tuple_getitem ?_ (Rg _ _)))
 show wpAny _ _ (Builtin.Tuple.tupleItemsOf (.ref t) >>= _) _ _ s;refine GJ<|Nc z ?_;refine GJ<|MQ d ?_;rw[RY ⋯];refine GJ<|w5 hs S Y ?_;have e : ¬((((dn items.size 0 lo:Nat):Int)==0 && (1:Int)==1 && (dn items.size items.size C - dn items.size 0 lo)==items.size)=di):=by intro q;rw[Hb,Hb]at q;have i:((dn items.size 0 lo:Nat):Int)=0:=eq_of_beq q.1.1;have j:dn items.size items.size C - dn items.size 0 lo=items.size:=eq_of_beq q.2;exact L ⟨by omega,by omega⟩
 show wpAny _ _ (if (((dn items.size 0 lo:Nat):Int)==0 && (1:Int)==1 && (dn items.size items.size C - dn items.size 0 lo)==items.size)=di then _ else _) _ _ s;rw[EQ e,gQ]
 first
  | exact GJ (m:=IF _)<|Iu (GS ⟨_,rfl,GS h⟩) I
  | exact GJ (m:=IF _)<|Iu (GJ<|GS<|GS ⟨_,rfl,GS h⟩) I
  | exact GJ<|GJ (m:=IF _)<|Iu (GS<|GS ⟨_,rfl,GS h⟩) I
  | exact GJ<|GJ (m:=IF _)<|Iu (GS ⟨_,rfl,GS h⟩) I
end
end HT
namespace L2
open PySem PySem.Spec PyProof.Rows
abbrev TO:=St->Hp->(Option Int->Hp->Prop)->Prop
noncomputable def PO(X:Cx)(e:Option eA)(t:TO):Prop:=
 ∀(a:RW) (s:el) (b:St) (H:Hp) (Q:Option Int->Hp->Prop),Inv X a b H s->t b H Q->
  wpAny (eK X.prog X.w) X.A (evalPart e X.env) (λu f=>∃o d,Inv X a b d f/\z4 u o/\Q o d) X.xe s
noncomputable def nJ:TO:=λ_ H Q=>Q dj H
noncomputable def BG(t:TE):TO:=λb H Q=>t b H λx a=>∃i,x = .int i/\Q (bQ i) a
section
variable{X:Cx}{e:eA}{te:TE}{lo hi:Option eA}{tl th:TO}{pos p2:g8}
theorem oI:PO X dj nJ:=by intro a s b H Q I h;rw[evalPart_none];exact GS ⟨dj,H,I,.none,h⟩
theorem oH(h:PE X e te):PO X (bQ e) (BG te):=by intro a s g H Q I d;rw[evalPart_some];refine e9 (h a s g H _ I d) λu j z=>?_;obtain⟨x,b,O,U,f⟩:=z;obtain⟨i,rfl,q⟩:=f;obtain⟨t,rfl⟩:=U;exact⟨bQ i,b,O,.int i t,q⟩
noncomputable def N0(X:Cx)(r:V->Option Int->Option Int->Hp->VK->Prop):Prop:=
 ∀(a:RW) (s:el) (d:St) (H:Hp) (x:V) (v z I:eh) (lo hi:Option Int) (b:eg) (Q:VK),Inv X a d H s->RelV x v->s.heap.IsSliceOf b z I .none->z4 z lo->z4 I hi->r x lo hi H Q->
  ∃T id,L7 (.type T) "__getitem__" = pure (bQ (.builtin id))/\s.TypeIs v T/\wpAny (eK X.prog X.w) X.A (A9 v (.ref b)) (EP X a d Q) X.xe s
noncomputable def R9(r:V->Option Int->Option Int->Hp->VK->Prop)(te:TE)(tl th:TO):TE:=λa H Q=>te a H λx b=>tl a b λl d=>th a d λu z=>r x l u z Q
theorem gT(L:N0 X r)(C:PE X e te)(J:PO X lo tl)(S:PO X hi th):PE X (.Subscript e (.Slice lo hi dj p2) pos) (R9 r te tl th):=by intro a s d H Q I h;refine O1 (e9 (C a s d H _ I h) λv N p=>?_);obtain⟨x,g,j,M,F⟩:=p;refine wpAny_Slice (e9 (J a N d g _ j F) λO P ⟨l,i,k,B,G⟩=>e9 (S a P d i _ k G) λU z ⟨u,f,m,E,K⟩=>?_);rw[evalPart_none];refine GS ?_;have n:Inv X a d f {z with heap:=z.heap.push {cls:= .type "slice",data:= .fields #[O,U,.none]}}:=m.kept (t':=z.toks) λb R q=>GK _ q;obtain⟨T,id,o,y,t⟩:=L a {z with heap:=z.heap.push {cls:= .type "slice",data:= .fields #[O,U,.none]}} d f x v O U l u z.heap.objs.size Q n M (Heap.IsSliceOf.new ..) B E K;show wpAny (eK X.prog X.w) X.A (Px e (.Slice lo hi dj p2) v (.ref z.heap.objs.size)) (EP X a d Q) X.xe {z with heap:=z.heap.push {cls:= .type "slice",data:= .fields #[O,U,.none]}};exact tail_any (ops:=[.ref z.heap.objs.size,v]) y o t (by with_unfolding_all rfl)
noncomputable def pT(xs:List V)(lo hi:Option Int):List V:=(xs.drop<|HT.dn xs.length 0 lo).take (HT.dn xs.length xs.length hi - HT.dn xs.length 0 lo)
theorem Y8(xs:List V)(lo hi:Option Int):(pT xs lo hi).length<=xs.length:=by unfold pT;rw[Mk,List.length_drop];omega
noncomputable def FS(K:GI):V->Option Int->Option Int->Hp->VK->Prop:=λx lo hi H Q=>∃a b,x = .ref a/\g5 K H a b/\
 ¬(HT.dn b.length 0 lo=0/\HT.dn b.length b.length hi=b.length)/\∀p,H p=dj->Q (.ref p) (upd H p<|.tup<|pT b lo hi)
theorem sI:N0 X (FS X.K):=by
 intro e s w H x v t u lo hi p Q I m g k l h;obtain⟨a,d,rfl,j,i,q⟩:=h;cases m;obtain⟨f,r,O,U⟩:=I.tuple j;have z:f.toArray.size=d.length:=by rw[iN];exact r.length.symm
 refine⟨"tuple",_,Il.lookup,O.typeIs,?_⟩;refine HT.aa O g k l (by rw[z];exact i) ?_ (by rw[z];exact U);rw[z];refine⟨.ref s.heap.objs.size,_,I.laid (t':=s.toks) (o:= .tup (pT d lo hi)) (λb n q=>GK _ q) (GQ _) ?_,rfl,q _ (I.f6.fresh (GQ _))⟩;exact⟨Ia (Y8 d lo hi) U,_,(r.drop (HT.dn d.length 0 lo)).take (HT.dn d.length d.length hi - HT.dn d.length 0 lo),u9.new _ _⟩
theorem fh.G7(r:fh xs us):us=[]↔xs=[]:=by
 cases r with
 | nil=>simp
 | cons _ _=>simp
end
noncomputable def Dt(n:Nat)(i:Int):Option Nat:=if 0<=i then (if i<n then bQ i.toNat else dj)else if -(n:Int)<=i then bQ (i+n).toNat else dj
noncomputable def C1{C:Type}(xs:List C)(i:Int):Option C:=(Dt xs.length i).bind λj=>xs[j]?
theorem cY(h:Dt n i=bQ j):seqIndex? i n=bQ j/\j<n/\ -(n:Int)<=i/\i<n:=by
 unfold Dt at h;by_cases z:0<=i
 ·rw[RY z]at h
  by_cases a:i<n
  ·rw[RY a]at h
   have e:i.toNat=j:=Hx h;exact⟨by rw[Po z a,e],by omega,by omega,a⟩
  ·rw[EQ a]at h;cases h
 ·rw[EQ z]at h
  by_cases a : -(n:Int)<=i
  ·rw[RY a]at h
   have e:(i+n).toNat=j:=Hx h;exact⟨by rw[Pn ⋯ a,e],by omega,a,by omega⟩
  ·rw[EQ a]at h;cases h
theorem Vf(h:C1 xs i=bQ v) : ∃j,seqIndex? i xs.length=bQ j/\xs[j]? = bQ v/\j<xs.length/\ -(xs.length:Int)<=i/\i<xs.length:=by
 unfold C1 at h;cases e:Dt xs.length i with
 | none=>rw[e]at h;cases h
 | some j=>
  rw[e]at h;obtain⟨a,b,z,I⟩:=cY e;exact⟨j,a,h,b,z,I⟩
noncomputable def Vl(b:eA):Prop:=∀o i,ON b ed o i=operate [o,i] (A9 o i)
noncomputable def B9(X:Cx)(r:R2):Prop:=
 ∀(b z:eA) (a:RW) (s:el) (d:St) (H:Hp) (x y:V) (v u:eh) (Q:VK),Inv X a d H s->RelV x v->RelV y u->r x y H Q->
  ON z ed v u=operate [v,u] (A9 v u)->wpAny (eK X.prog X.w) X.A (Px b z v u) (EP X a d Q) X.xe s
noncomputable def M6(X:Cx)(id:String)(r:V->List V->Hp->VK->Prop):Prop:=
 ∀(a:RW) (s:el) (e:St) (H:Hp) (x:V) (d:List V) (v:eh) (b:List eh) (Q:VK),Inv X a e H s->RelV x v->fh d b->r x d H Q->
  wpAny (eK X.prog X.w) X.A (call (.builtin id) (v::b)) (EP X a e Q) X.xe s
section
variable{X:Cx}{a b:eA}{ta tb:TE}{pos:g8}
theorem B9.or(h:B9 X r)(h':B9 X r'):B9 X (λx y H Q=>r x y H Q\/r' x y H Q):=by
 intro a z b s e H x y v u Q I O U q d;rcases q with q | q
 ·exact h a z b s e H x y v u Q I O U q d
 ·exact h' a z b s e H x y v u Q I O U q d
theorem ur(z:B9 X r)(C:PE X a ta)(O:PE X b tb)(hs:Vl b):PE X (.Subscript a b pos) (E3 r ta tb):=by intro d s j H Q I h;exact O1<|CP C O I h λv u i x y e U f g q=>z a b d i j e x y v u Q U f g q<|hs _ _
noncomputable def FW(K:GI):R2:=λx y H Q=>∃p a i v,x = .ref p/\y = .int i/\f9 K H p a/\C1 a i=bQ v/\Q v H
noncomputable def FU(K:GI):R2:=λx y H Q=>∃p a i v,x = .ref p/\y = .int i/\g5 K H p a/\C1 a i=bQ v/\Q v H
noncomputable def FV:R2:=λx y H Q=>∃z i c,x = .str z/\y = .int i/\z.length<=fA/\C1 z.cps.toList i=bQ c/\Q (.str ⟨#[c]⟩) H
theorem RD:B9 X (FW X.K):=by
 intro d M a s l H x y v u Q I G J h k;obtain⟨p,S,i,z,rfl,rfl,F,C,q⟩:=h;cases G;obtain⟨t,rfl⟩:=J;obtain⟨m,r,O,R⟩:=I.list F;obtain⟨j,b,o,N,A,B⟩:=Vf C;obtain⟨w,f,n⟩:=r.get o;have E:=r.length;have P:=Jk;have e:EP X a l Q w s:=⟨z,H,I,n,q⟩;by_cases g:0<=i
 ·have U:i.toNat=j:=by
   rw[Po g B]at b;exact Hx b
  exact item_listR O.isList g ⋯ (by rw[U];simpa using f) e k
 ·have U:(i+(m.toArray.size:Int)).toNat=j:=by
   rw[Pn ⋯ A]at b;rw[iN,<- E];exact Hx b
  exact R7 (x:=w) O.isList.typeIs slot_list_getitem.lookup
   (wpAny_getItem_list_neg (Q:=λr L=>r=w/\EP X a l Q r L) O.isList ⋯ (by rw[iN]<;>omega) ⋯ (by rw[U];simpa using f) ⟨rfl,e⟩) k
theorem uV:B9 X (FU X.K):=by
 intro b E a s d H x y v u Q I U B h A;obtain⟨p,P,i,z,rfl,rfl,o,m,q⟩:=h;cases U;obtain⟨t,rfl⟩:=B;obtain⟨F,r,O,N⟩:=I.tuple o;obtain⟨j,k,l,G,J,L⟩:=Vf m;obtain⟨w,g,e⟩:=r.get l;have n:=r.length;have M:=Jk;have f:EP X a d Q w s:=⟨z,H,I,e,q⟩;exact R7 (x:=w) O.typeIs slot_tuple_getitem.lookup
  (getItem_tuple (j:=j) (Q:=λr C=>r=w/\EP X a d Q r C) O ⋯ ⋯ (by rw[iN,<- n];exact k) (by simpa using g) ⟨rfl,f⟩) A
theorem uW:B9 X FV:=by
 intro a p d s C H x y v u Q I O U h o;obtain⟨z,i,c,rfl,rfl,A,m,q⟩:=h;obtain⟨t,rfl⟩:=O;obtain⟨B,rfl⟩:=U;obtain⟨j,b,g,r,k,l⟩:=Vf m;have n:z.cps.toList.length=z.length:=by simp[Str.length]
 rw[n]at b k l;have w:=Jk;exact tail_any (PJ s z t) slot_str_getitem.lookup (getItem_str (c:=c) (by
  have e:decide (i < -(2 ^ 63:Int))=ed:=decide_eq_false ⋯;have f:decide (i>=2 ^ 63)=ed:=decide_eq_false ⋯;rw[e,f,Bool.or_false]) (by rw[b];simpa using g) ⟨.str ⟨#[c]⟩,H,I.tok _,⟨_,rfl⟩,q⟩) o
theorem W0(z:List eh)(n j:Nat)(u:eh):Hy (·.setIfInBounds j u) {cls:= .type "list",data:= .seq z.toArray n} = {cls:= .type "list",data:= .seq (z.set j u).toArray n}:=by simp[Hy]
theorem Inv.lst(I:Inv X pins σ H s)(h:H p=bQ (.lst xs)) :
 ∃(O:List eh) (n:Nat),fh xs O/\s.heap.get? p=bQ {cls:= .type "list",data:= .seq O.toArray n}/\xs.length<=fA:=by
 obtain⟨z,O,n,r,e⟩:=I.f6 p _ h;exact⟨O,n,r,e,z⟩
theorem Inv.RH{C:RW}{J:St}{H:Hp}{s:el}{p:eg}{xs ys:List V}{z its':List eh}{n n':Nat}{f:m6->m6}(I:Inv X C J H s)(h:H p=bQ (.lst xs))
 (U:s.heap.get? p=bQ {cls:= .type "list",data:= .seq z.toArray n}) (O:f {cls:= .type "list",data:= .seq z.toArray n} = {cls:= .type "list",data:= .seq its'.toArray n'}) (r:fh ys its') (L:ys.length<=fA) (t:Nat) :
 Inv X C J (upd H p<|.lst ys) {s with heap:=s.heap.update p f,toks:=t}:=by
 have e:(s.heap.update p f).get? p=bQ {cls:= .type "list",data:= .seq its'.toArray n'}:=by rw[Na f U (by rw[O]<;>rfl),O]
 refine I.write (x:=p) (e:=p) (by rw[h];trivial) (.inl rfl) (λb u a q=>(Ik _ _<|Hu a).trans q) ⟨_,e⟩ ?_;exact⟨L,its',n',r,e⟩
noncomputable def BW:V->V->V->Hp->(Hp->Prop)->Prop:=λo i v H Q=>∃p a k j,o = .ref p/\i = .int k/\H p=bQ (.lst a)/\Dt a.length k=bQ j/\Q (upd H p<|.lst<|a.set j v)
theorem VD:Ft X BW:=by
 intro a s E H o i v K J u Q I A y B h;obtain⟨p,C,k,j,rfl,rfl,m,w,q⟩:=h;cases A;obtain⟨t,rfl⟩:=y;obtain⟨e,n,r,z,x⟩:=I.lst m;obtain⟨b,F,g,l⟩:=cY w;have O:=r.length;have G:=Jk;have d:Inv X a E (upd H p<|.lst<|C.set j v) {s with heap:=s.heap.update p (Hy (·.setIfInBounds j u))}:=
  I.RH m z (W0 e n j u) (r.set B j) (by rw[List.length_set];exact x) s.toks
 by_cases f:0<=k
 ·have U:k.toNat=j:=by
   rw[Po f l]at b;exact Hx b
  exact PySem.W.ki_setAt z f ⋯ (by rw[iN,<- O];exact l) (by rw[U];exact⟨_,d,q⟩)
 ·have U:(k+(e.toArray.size:Int)).toNat=j:=by
   rw[Pn ⋯ g]at b;rw[iN,<- O];exact Hx b
  exact PySem.W.ki_setBack z ⋯ (by rw[iN,<- O];exact g) ⋯ (by rw[U];exact⟨_,d,q⟩)
noncomputable def XH:V->Bool
 | .eX=>di
 | .bl _=>di
 | .int _=>di
 | .str _=>di
 | _=>ed
noncomputable def A8:V->V->Bool
 | .eX,.eX=>di
 | .bl a,.bl b=>a==b
 | .bl a,.int b=>(if a then 1 else 0)==b
 | .int a,.bl b=>a==(if b then 1 else 0)
 | .int a,.int b=>a==b
 | .str a,.str b=>a==b
 | _,_=>ed
theorem Ag(I:RelV y u)(z:RelV x v)(U:XH y=di)(O:XH x=di):HY A s u v (A8 y x):=by
 cases y with
 | eX=>
  cases I;cases x with
  | eX=>cases z;exact HY.same _
  | bl b=>cases z;exact HY.none_bool b
  | int b=>obtain⟨t,rfl⟩:=z;exact HY.none_int b t
  | str b=>obtain⟨t,rfl⟩:=z;exact HY.none_str b t
  | _=>exact absurd (show ed=di from O) Hr
 | bl a=>
  cases I;cases x with
  | eX=>cases z;exact HY.bool_none a
  | bl b=>cases z;exact HY.bool_bool a b
  | int b=>obtain⟨t,rfl⟩:=z;exact HY.bool_int a b t
  | str b=>obtain⟨t,rfl⟩:=z;exact HY.bool_str a b t
  | _=>exact absurd (show ed=di from O) Hr
 | int a=>
  obtain⟨d,rfl⟩:=I;cases x with
  | eX=>cases z;exact HY.int_none a d
  | bl b=>cases z;exact HY.int_bool a d b
  | int b=>obtain⟨t,rfl⟩:=z;exact LL a d b t
  | str b=>obtain⟨t,rfl⟩:=z;exact HY.int_str a d b t
  | _=>exact absurd (show ed=di from O) Hr
 | str a=>
  obtain⟨d,rfl⟩:=I;cases x with
  | eX=>cases z;exact HY.str_none a d
  | bl b=>cases z;exact HY.str_bool a d b
  | int b=>obtain⟨t,rfl⟩:=z;exact HY.str_int a d b t
  | str b=>obtain⟨t,rfl⟩:=z;exact HY.str_str a d b t
  | _=>exact absurd (show ed=di from O) Hr
 | _=>exact absurd (show ed=di from U) Hr
noncomputable def A7(x:V)(u:eh):Bool:=match u with
 | .none=>A8 .eX x
 | .bool b=>A8 (.bl b) x
 | .int i _=>A8 (.int i) x
 | .str z _=>A8 (.str z) x
 | _=>ed
theorem mL(r:RelV y u)(f:XH y=di):A7 x u=A8 y x:=by
 cases y with
 | eX=>cases r;rfl
 | bl b=>cases r;rfl
 | int i=>obtain⟨t,rfl⟩:=r;rfl
 | str z=>obtain⟨t,rfl⟩:=r;rfl
 | _=>exact absurd (show ed=di from f) Hr
theorem Vj : ∀{xs:List V} {us:List eh},fh xs us->xs.all XH=di->us.any (A7 x)=xs.any λy=>A8 y x
 | _,_,.nil,_=>rfl
 | y::xs,u::us,.cons r t,f=>by rw[List.all_cons,Hb]at f;rw[MT,MT,mL r f.1,Vj t f.2]
theorem Xx(I:RelV x v)(O:XH x=di) : ∀{xs:List V} {us:List eh},fh xs us->xs.all XH=di->∀u∈us,HY A s u v (A7 x u)
 | _,_,.nil,_=>λu z=>by cases z
 | y::xs,u::us,.cons r t,f=>λU z=>by
  rw[List.all_cons,Hb]at f;rcases GW.mp z with rfl | z
  ·rw[mL r f.1];exact Ag r I f.1 O
  ·exact Xx I O t f.2 U z
noncomputable def G3(x:V)(xs:List V):Bool:=xs.any λy=>A8 y x
noncomputable def RT(K:GI)(z:Bool):R2:=λx y H Q=>∃p a,y = .ref p/\(f9 K H p a\/g5 K H p a)/\XH x=di/\a.all XH=di/\Q (.bl<|if z then !G3 x a else G3 x a) H
theorem KH:iQ X (n3 .NotIn) (RT X.K di):=by
 intro d s j H x y v u Q I e g h;obtain⟨p,i,rfl,z,b,fs,q⟩:=h;cases g;rcases z with z | z
 ·obtain⟨O,r,U,f⟩:=I.list z
  refine SeqAt.notIn_listAt (A7 x) U.isList (λw a=>Xx e b r fs w<|by simpa using a) ⟨.bl _,H,I,rfl,?_⟩;rw[show O.toArray.any (A7 x)=O.any (A7 x)by simp,Vj r fs];exact q
 ·obtain⟨O,r,U,f⟩:=I.tuple z
  refine SeqAt.notIn_tupleAt (A7 x) U (λw a=>Xx e b r fs w<|by simpa using a) ⟨.bl _,H,I,rfl,?_⟩;rw[show O.toArray.any (A7 x)=O.any (A7 x)by simp,Vj r fs];exact q
theorem Yk:wL X (.builtin "len") (λxs H Q=>∃p ys,xs=[.ref p]/\(f9 X.K H p ys\/g5 X.K H p ys)/\Q (.int ys.length) H):=by
 intro b s j H xs i Q I r h;obtain⟨p,ys,rfl,z,q⟩:=h;obtain⟨u,rfl,f⟩:=k6 r;cases f;have g:=Jk;rcases z with z | z
 ·obtain⟨d,a,O,e⟩:=I.list z
  have U:=a.length;exact Calls.call_len_list O.isList (by simp only[iN]<;>omega) ⟨.int ys.length,H,I.tok _,⟨s.toks+1,by rw[iN,U]⟩,q⟩
 ·obtain⟨d,a,O,e⟩:=I.tuple z
  have U:=a.length;exact len_tuple O (by simp only[iN]<;>omega) ⟨.int ys.length,H,I.tok _,⟨s.toks+1,by rw[iN,U]⟩,q⟩
theorem Yj:wL X (.builtin "len") (λxs H Q=>∃z,xs=[.str z]/\z.length<=fA/\Q (.int z.length) H):=by intro a s e H xs d Q I r h;obtain⟨z,rfl,O,q⟩:=h;obtain⟨u,rfl,t,rfl⟩:=k6 r;have b:=Jk;exact len_str ⋯ ⟨.int z.length,H,I.tok _,⟨_,rfl⟩,q⟩
theorem Yi:wL X (.type "list") (λxs H Q=>∃p ys,xs=[.ref p]/\(f9 X.K H p ys\/g5 X.K H p ys)/\∀l,H l=dj->Q (.ref l) (upd H l (.lst ys))):=by
 intro i s C H xs E Q I r h;obtain⟨p,ys,rfl,U,q⟩:=h;obtain⟨u,rfl,B⟩:=k6 r;cases B;have x : ∀(z:List eh),fh ys z->ys.length<=fA->∀(a:fy) (O:Nat),(∀b y,s.heap.get? b=bQ y->a.get? b=bQ y)->
  a.get? s.heap.objs.size=bQ {cls:= .type "list",dict:=dj,data:= .seq z.toArray O,slots:=#[]}->EP X i C Q (.ref s.heap.objs.size) {s with heap:=a}:=λz d f a O g e=>
  ⟨.ref s.heap.objs.size,_,I.laid (t':=s.toks) g (GQ _) (show i6 X.prog X.w _ a _ (.lst ys)from⟨f,z,O,d,e⟩),rfl,q _<|I.f6.fresh<|GQ _⟩
 rcases U with U | U
 ·obtain⟨z,d,t,f⟩:=I.list U
  have A:=d.length;obtain⟨o,m,j,n,k⟩:=t.isList;exact call_list_seq p (.inl rfl) m j k (λa O g e=>x z d f a O g e) (by simp only[iN]<;>omega)
 ·obtain⟨z,d,t,f⟩:=I.tuple U
  have A:=d.length;obtain⟨o,m,j,n,k⟩:=t;exact call_list_seq p (.inr rfl) m j k (λa O g e=>x z d f a O g e) (by simp only[iN]<;>omega)
theorem XR:wL X (.type "tuple") (λxs H Q=>∃p ys,xs=[.ref p]/\((f9 X.K H p ys/\∀l,H l=dj->Q (.ref l) (upd H l (.tup ys)))\/(g5 X.K H p ys/\Q (.ref p) H))):=by
 intro a s j H xs x Q I r h;obtain⟨p,ys,rfl,h⟩:=h;obtain⟨u,rfl,n⟩:=k6 r;cases n;rcases h with⟨z,q⟩ | ⟨z,q⟩
 ·obtain⟨O,f,U,i⟩:=I.list z
  have t:=f.length;refine call_tuple_list U.isList (λd m=>?_) (by simp only[iN]<;>omega);have g:Inv X a j H {s with heap:=d}:=I.kept (t':=s.toks) m;have k:Inv X a j (upd H d.objs.size (.tup ys)) {s with heap:=d.push {cls:= .type "tuple",data:= .seq O.toArray}}:=
   g.laid (t':=s.toks) (λb o e=>GK _ e) (GQ _) (show i6 X.prog X.w _ _ _ (.tup ys)from⟨i,O,f,u9.new _ _⟩)
  exact⟨.ref d.objs.size,_,k,rfl,q _<|g.f6.fresh<|GQ _⟩
 ·obtain⟨O,f,U,i⟩:=I.tuple z
  exact call_tuple_same U ⟨.ref p,H,I,rfl,q⟩
noncomputable def PH(K:GI)(T:String)(x:V)(H:Hp):Prop:=match x with
 | .str _=>T = "str"
 | .int _=>T = "int"
 | .ref p=>(T = "list"/\∃b,f9 K H p b)\/(T = "tuple"/\∃o,K.lookup p=bQ o/\o.cls = .type "tuple"/\o.dict=dj)\/
  (T = "dict"/\((∃a,H p=bQ (.dK a))\/∃a,H p=bQ (.dT a)))\/(T = "set"/\∃S n,H p=bQ (.set S n))
 | _=>False
theorem se(I:Inv X pins σ H s)(r:RelV x v)(ty:PH X.K T x H) :
 s.TypeIs v T/\∀a,v = .ref a->∃C,s.heap.get? a=bQ C/\C.dict=dj:=by
 cases x with
 | str z=>
  obtain⟨t,rfl⟩:=r;cases (show T = "str" from ty);exact⟨PJ s z t,λ_ e=>nomatch e⟩
 | int i=>
  obtain⟨t,rfl⟩:=r;cases (show T = "int" from ty);exact⟨NY s i t,λ_ e=>nomatch e⟩
 | ref p=>
  cases r;rcases ty with⟨rfl,l,j⟩ | ⟨rfl,o,O,h,d⟩ | ⟨rfl,O⟩ | ⟨rfl,S,n,O⟩
  ·obtain⟨k,_,g,_⟩:=I.list j
   refine⟨g.isList.typeIs,λa e=>?_⟩;cases e;obtain⟨o,n,e,c,d,_⟩:=g;exact⟨o,e,d⟩
  ·refine⟨⟨o,I.l9 p o O,h⟩,λa e=>?_⟩
   cases e;exact⟨o,I.l9 _ o O,d⟩
  ·have z : ∃o,s.heap.get? p=bQ o/\o.ExactDict:=by
    rcases O with⟨f,O⟩ | ⟨f,O⟩
    ·obtain⟨_,_,_,_,o,_,_,e,b,_⟩:=I.f6 p _ O
     exact⟨o,e,b⟩
    ·obtain⟨_,_,_,_,o,_,_,e,b,_⟩:=I.f6 p _ O
     exact⟨o,e,b⟩
   obtain⟨o,e,b⟩:=z;refine⟨⟨o,e,b.1⟩,λa U=>?_⟩;cases U;exact⟨o,e,b.2.1⟩
  ·obtain⟨o,_,_,_,e,b,_⟩:=I.f6 p _ O
   refine⟨⟨o,e,b.1⟩,λa U=>?_⟩;cases U;exact⟨o,e,b.2.1⟩
 | _=>exact Le ty
noncomputable def Py(K:GI)(T:String)(r:V->List V->Hp->VK->Prop)(to:TE)(t:TA):TE:=λb H Q=>to b H λx a=>PH K T x a/\t b a λe d=>r x e d Q
variable{o e:eA}{es:List eA}{to:TE}{t:TA}{name:Str}{apos cpos:g8}{T id:String}{r:V->List V->Hp->VK->Prop}
theorem gX(pa:PlainAttrs T)(C:Slot T name id)(J:typeOf (.builtin id)=pure (.type "method_descriptor"))(hm:M6 X id r)(ho:PE X o to)(ha:PA X (e::es) t)
 (L:F5 o name X.env (eL o X.env)=eL o X.env:=by rfl)
 (S:((pk cpos<|starEach (e::es) X.env).all (λx=> !x.1) && (F6 cpos<|keywordEach [] X.env).all (λx=>x.1.isSome)
   && decide ((e::es).length+([]:List A1).length+(if ([]:List A1).isEmpty then 0 else 1)<30))=di:=by rfl)
 (Y:(apos.endLine==cpos.line)=di:=by rfl) (hs:f7 (e::es) X.env=(ed,eL e X.env)::f7 es X.env:=by rfl) (Z:(pk cpos<|starEach es X.env).any (·.1)=ed:=by rfl) :
 PE X (.Call (.Attribute o name apos) (e::es) [] cpos) (Py X.K T r to t):=by
 intro a s b H Q I h;refine wpAny_Call_method_late L S Y rfl<|e9 (ho a s b H _ I h) λv p k=>?_;obtain⟨x,d,z,O,ty,l⟩:=k;obtain⟨i,j⟩:=se z O ty;refine⟨T,id,pa,C,J,i,j,?_⟩;have U:=ha cpos a p b d _ z l;rw[hs]at U ⊢;refine Calls.callWith_builtin (by show(ed || (pk cpos<|starEach es X.env).any (·.1))=ed;rw[Z]<;>rfl)<|Calls.evalArgs_plain ?_;exact e9 U λw u ⟨y,f,g,n,m⟩=>hm a u b f x y v w Q g O n m
end
noncomputable def OZ(X:Cx)(id:String)(r:V->List V->Hp->VK->Prop):Prop:=
 ∀(a:RW) (s:el) (e:St) (H:Hp) (x:V) (d:List V) (v:eh) (b:List eh) (Q:VK),Inv X a e H s->RelV x v->fh d b->r x d H Q->
  wpAny (eK X.prog X.w) X.A (call (.builtin id) (v::b)) (EP X a e Q) X.xe s
theorem fh.one : ∀{x:V} {us:List eh},fh [x] us->∃u,us=[u]/\RelV x u
 | _,_,.cons r .nil=>⟨_,rfl,r⟩
theorem fh.dropLast(h:fh xs us):fh xs.dropLast us.dropLast:=by
 induction h with
 | nil=>exact .nil
 | cons r t z=>
  cases t with
  | nil=>exact .nil
  | cons q a=>exact .cons r z
theorem fh.rep(h:fh xs us) : ∀k:Nat,fh (GO k xs).flatten (GO k us).flatten
 | 0=> .nil
 | k+1=>by rw[IV,IV,LD,LD];exact fh.append h<|fh.rep h k
theorem Js(z:List eh) : ∀(k:Nat) (acc:List eh),
 NH (λx1 I=>x1++I) acc.toArray (GO k z.toArray)=(acc++(GO k z).flatten).toArray
 | 0,acc=>by simp
 | k+1,acc=>by
  have e:acc.toArray++z.toArray=(acc++z).toArray:=by simp
  have O:(acc++z)++(GO k z).flatten=acc++(GO (k+1) z).flatten:=by rw[IV,LD,List.append_assoc]
  rw[<- O,<- Js z k (acc++z),<- e,IV,List.foldl_cons]
section
variable{X:Cx}{pins:RW}{σ:St}{H:Hp}{s:el}{l b:eg}{xs ys zs:List V}
theorem Inv.Ox{z its':List eh}{n:Nat}{f:Array eh->Array eh}{t':Nat}(I:Inv X pins σ H s)(O:H l=bQ (.lst xs))
 (e:s.heap.get? l=bQ {cls:= .type "list",data:= .seq z.toArray n}) (U:f z.toArray=its'.toArray) (C:fh ys its') (J:ys.length<=fA) :
 Inv X pins σ (upd H l<|.lst ys) {s with heap:=s.heap.update l<|Hy f,toks:=t'}:=by
 have q:=PySem.IsL.update e f;rw[U]at q;refine I.write (x:=l) (e:=l) (by rw[O];exact trivial) (.inl rfl) (λd u a b=>(Ik s.heap (Hy f)<|Hu a).trans b) ⟨_,q⟩ ?_;exact⟨J,its',_,C,q⟩
theorem Inv.Pe(I:Inv X pins σ H s)(O:fh ys z)(U:ys.length<=fA) :
 Inv X pins σ (upd H s.heap.objs.size (.lst ys)) {s with heap:=s.heap.push {cls:= .type "list",data:= .seq z.toArray},toks:=t'}:=
 I.laid (λ_ _ q=>GK _ q) (GQ _) ⟨U,z,0,O,Hc _ rfl⟩
theorem Inv.fresh(I:Inv X pins σ H s):H s.heap.objs.size=dj:=I.f6.fresh<|GQ _
theorem Inv.C8(I:Inv X pins σ H s)(U:H l=bQ (.lst xs)):xs.length<=fA/\∃(O:List eh) (n:Nat),fh xs O/\xs.length=O.length/\s.heap.get? l=bQ {cls:= .type "list",data:= .seq O.toArray n}:=by obtain⟨z,O,n,r,e⟩:=I.f6 l _ U;exact⟨z,O,n,r,r.length,e⟩
theorem VY(h:n<=fA):LC n=ed:=by unfold LC;exact decide_eq_false ⋯
end
section
variable{X:Cx}
noncomputable def bB:V->List V->Hp->VK->Prop:=λx b H Q=>∃l a y,x = .ref l/\b=[y]/\H l=bQ (.lst a)/\a.length<fA/\Q .eX (upd H l<|.lst<|a++[y])
theorem cI:OZ X "list.append" bB:=by intro a s o H x k v j Q I f d h;obtain⟨l,m,y,rfl,rfl,O,i,q⟩:=h;cases f;obtain⟨u,rfl,b⟩:=d.one;obtain⟨z,U,n,r,g,e⟩:=I.C8 O;refine LM F.slot_list_append ⟨_,e,rfl⟩ F.entry_list_append (F.args_list_append_2 _ _) (PySem.list_append l U.toArray n u (by rw[iN];omega)) ⟨e,?_⟩;refine⟨.eX,_,I.Ox (its':=U++[u]) O e ⋯ (r.append (.cons b .nil)) ?_,rfl,q⟩;rw[HQ,Lx];omega
noncomputable def oo:V->List V->Hp->VK->Prop:=λx e H Q=>∃l b a d,x = .ref l/\e=[.ref b]/\H l=bQ (.lst a)/\H b=bQ (.lst d)/\a.length+d.length<=fA/\Q .eX (upd H l<|.lst<|a++d)
theorem cG:OZ X "list.extend" oo:=by
 intro f s K H x C v B Q I t p h;obtain⟨l,b,E,J,rfl,rfl,d,j,A,q⟩:=h;cases t;obtain⟨u,rfl,o⟩:=p.one;cases o;obtain⟨z,O,n,r,y,e⟩:=I.C8 d;obtain⟨G,U,k,m,w,i⟩:=I.C8 j;have a:O.toArray.size+U.toArray.size<=fA:=by rw[iN,iN];omega
 have g : ¬(!O.toArray.isEmpty && LC (O.toArray.size+U.toArray.size))=di:=by rw[VY a,Bool.and_false];exact Hr
 refine LM F.slot_list_extend ⟨_,e,rfl⟩ F.entry_list_extend (F.args_list_extend_2 _ _)
  (AutoSeq1.list_extend_list_list_0 l O.toArray n b U.toArray k g (by rw[iN];omega) ⋯) ⟨e,i,?_⟩
 refine⟨.eX,_,I.Ox (its':=O++U) d e ⋯ (r.append m) ?_,rfl,q⟩;rw[HQ];omega
noncomputable def FT:R2:=λx y H Q=>∃l k a,x = .ref l/\y = .int k/\H l=bQ (.lst a)/\ -(2 ^ 63)<=k/\k<2 ^ 63/\a.length*k.toNat<=fA/\
 ∀p,H p=dj->Q (.ref p) (upd H p<|.lst (GO k.toNat a).flatten)
theorem YV(xs:List α)(k:Nat):(GO k xs).flatten.length=k*xs.length:=by
 induction k with
 | zero=>simp
 | succ k z=>rw[IV,LD,HQ,z,Nat.succ_mul,Nat.add_comm]
theorem uB:iQ X (sm .Mult) FT:=by
 intro f s N H x y v u Q I G J h;obtain⟨l,k,M,rfl,rfl,C,A,B,d,q⟩:=h;cases G;obtain⟨t,rfl⟩:=J;obtain⟨z,O,n,r,E,e⟩:=I.C8 C;have g:O.toArray.size*k.toNat<=fA:=by rw[iN,<- E];exact d
 have i : ¬O.toArray.size*k.toNat>(2 ^ 63 - 1)/8:=by
  have:(fA:Nat)<=(2 ^ 63 - 1)/8:=by decide
  omega
 have j : ¬(!Builtin.List.listFitsIndex k)=di:=by rw[fitsIndex_both A B];exact Hr
 have o : ¬LC (O.toArray.size*k.toNat)=di:=by rw[VY g];exact Hr
 have p:NH (λx1 b=>x1++b) #[] (GO (if O.toArray.isEmpty=di then 0 else k.toNat) O.toArray)=(GO k.toNat O).flatten.toArray:=by
  have w : ∀m:Nat,NH (λx1 b=>x1++b) #[] (GO m O.toArray)=(GO m O).flatten.toArray:=λm=>by have:=Js O m [];rw[Mp]at this;exact this
  rw[w];cases O with
  | nil=>simp
  | cons a L=>rw[EQ ⋯]
 refine Sg (T:="list") (U:="int") ⋯ ⟨_,e,rfl⟩ (λK=>NY K k t) noFill_list_mul F.fills_int_mul Nl repeat_list F.slot_int_index.lookup
  (LM Nl (NY s k t) F.entry_int_rmul (F.args_int_rmul_2 _ _) (int___rmul___int_list k t l O.toArray n)
    ⟨e,rfl,⟨_,e,rfl⟩,LM F.slot_list_mul ⟨_,e,rfl⟩ F.entry_list_mul (F.args_list_mul_2 _ _) (AutoListH.list___mul___list_int_3 l O.toArray n k t j i o) ⟨e,?_⟩⟩)
 rw[p];exact⟨.ref _,_,I.Pe (t':=s.toks) (r.rep k.toNat) (by rw[YV,Nf];exact d),rfl,q _ I.fresh⟩
end
end L2
namespace Att
open PySem PySem.W PySem.Calls PyProof.Rows
theorem Jm : ∀(C:List Int) (vs:List eh),WellAll P h vs (C.map WData.int)->F3 vs C:=by
 intro C
 induction C with
 | nil=>
  intro vs w;rw[MZ]at w;cases w;exact .nil
 | cons n C z=>
  intro vs w;rw[HC]at w;cases w with
  | cons a b=>
   cases a;exact .cons _ _<|z _ b
theorem aY{l:OpenLaw}{n:Nat}(L:l.most=bQ n){P:Params}{h:fy}{args:List WData}{O:List eh}
 (U:l.row.toRowW.claim.pre args=di) (J:WellAll P h O args) :
 ∃a vs C,O=[Iz a]/\args=[WData.list (C.map WData.int)]/\h.get? a=bQ {cls:= .type "list",data:= .seq vs.toArray}/\F3 vs C/\C.length<=n:=by
 have e:WShape.hasAll [] args [.list .int]=di:=(pre_splitW U).1;have b:l.pre.holds [] {args:=args}=di:=(pre_splitW U).2;obtain⟨d,r,rfl,i,j⟩:=hasAllW_cons e;obtain rfl:=hasAllW_nil j;obtain⟨t,rfl,k⟩:=hasW_list i;obtain⟨C,rfl⟩:=items_int k;have f:C.length<=n:=by
  unfold OpenLaw.pre at b;have z:(WTm.not<|.lt (.lit<|.int (n:Int))<|.len<|.arg 0).holds [] {args:=[.list (C.map .int)]}=di:=by have z:=(holds_andW b).1;rw[L]at z;exact z
  have I:=condW_of z<|w_not<|w_lt w_lit<|w_len_list<|w_arg rfl;rw[GY]at I;refine Nat.le_of_not_lt λq=>?_;have o:(n:Int)<((C.length:Nat):Int):=by omega
  first
   | (rw[decide_eq_true o]at I;exact absurd I ⋯)
   | (simp at I;omega)
 cases J with
 | cons p s=>
  cases s;cases p with
  | list m g=>exact⟨_,_,C,rfl,rfl,m,Jm C _ g,f⟩
theorem bR(l:OpenLaw)(args:List WData):l.row.toRowW.claim.post args (.bool di) args=di:=
 postW_of (r:=l.row.toRowW) (X:=(di==di))
  (show WShape.has [] (.bool di) .bool=di by first | rfl | decide | simp[WShape.has,WShape.arms,WShape.armsAll])
  (show(WTm.eq .res<|.lit<|.bool di).value [] {args:=args,res:=bQ (.bool di),after:=args}=bQ (.bool<|true==di)from w_eq_bool (w_res rfl) w_lit) rfl
theorem rz{l:OpenLaw}{n:Nat}{q:il}{O:List Str}{U:(Str->Option eh)->fy->Prop}{YP:hH->fy->Prop}{d:DefRec}
 (hn:l.most=bQ n) (a2:d.params.defaults=[])
 (call : ∀(w:hH) (m3 z:el) (L mb:RJ) (J:eg) (o:m6) (pm I C:eh) (a:eg) (vs:List eh) (S:List Int),
   Ground q O [] U w m3 L mb z.heap->YP w z.heap->
   z.heap.get? J=bQ o->o.data = .func (docDef d.name d.params d.body d.scope pm I C)->z.heap.CodeRec I d.name->L d.name=bQ (.ref J)->
   z.heap.get? a=bQ {cls:= .type "list",data:= .seq vs.toArray}->F3 vs S->S.length<=n->z.gens = #[]->
   codeAny (eK l.prog w) Dn (.call (.ref J) ⟨[.ref a],[]⟩) (λr Z=>r = .ok (.ret<|.bool di)/\OldK z.heap Z.heap/\Z.os=z.os/\B7 Z.gens) z) :
 WalkO q O U YP l.row.toRowW d [] (λf vs=>PySem.call f vs):=by
 intro w m3 z L mb G Y J o pm I C s kV E y g e h A b H as i K M j N;obtain rfl:s = .none:=Dflts.none e a2;obtain rfl:kV = .none:=Dflts.noKw e;obtain⟨a,vs,S,rfl,rfl,k,m,p⟩:=aY hn i j;refine enter_call<|Nr (call w m3 z L mb J o pm I C a vs S G Y E (fd_plain y) g h k m p A) λr Z F=>?_;obtain⟨rfl,t,u,x⟩:=F;exact⟨.inl ⟨.bool di,.bool di,[],rfl,λ_=>rfl,.bool di,bR l _,λ_=>⟨LF.nil,λ_ B=>(nomatch B)⟩⟩,t,u,x⟩
end Att
namespace L2
open PySem PySem.Spec PyProof.Rows
theorem vm : ∀{vs:List eh} {C:List Int},F3 vs C->fh (C.map V.int) vs
 | _,_,.nil=> .nil
 | _,_,.cons n t h=> .cons ⟨t,rfl⟩ (vm h)
noncomputable def BA(H:Hp):Prop:=∀b,H b=dj\/∃o a,H b=bQ (.rb o<|.lst a)
theorem iF{P:il}{w:hH}{K:GI}{J Z:RJ}{CX:r0}{k:Nat}{Y a:eg}{fd:o5}{x:Str}{sp:Sp}{I:el}{vs:List eh}{L:List Int}
 (KX:K.In I.heap) (a4:I.heap.Ns u0 J) (O:I.heap.Ns O4 Z) (ak : ∀x:Str,x ≠ "__name__"->Z x=C2 x) (am:I.heap.NoLimit) (hg:I.gens = #[])
 (S:I.heap.get? a=bQ {cls:= .type "list",data:= .seq vs.toArray}) (hi:F3 vs L) (hl:L.length<=fA) (hr:ml k Dn)
 (F : ∀base:fy,K.In base->base.Ns u0 J->o4 P w K J base CX k Y fd [x] sp) (as : ∀(s:el) (u:eh),E9 s fd ⟨[u],[]⟩ [(x,u)])
 (ax : ∀H:Hp,BA H->f9 K H a (L.map V.int)->sp [.ref a] H (λv _=>v = .bl di) λ_ _ _=>False)
 (b0 : ∀H e C,CX [] H I (λ_ _ _=>False) e C->False) :
 codeAny (eK P w) Dn (.call (.ref Y) ⟨[.ref a],[]⟩) (λr C=>r = .ok (.ret<|.bool di)/\OldK I.heap C.heap/\C.os=I.os/\B7 C.gens) I:=by
 have G:=vm hi;have M:=hi.length;have t : ∀H:Hp,BA H->f9 K H a (L.map V.int)->kr P w H I.heap->(∀b,H b≠dj->b=a)->(H a≠dj->K.lookup a=dj)->
  codeAny (eK P w) Dn (.call (.ref Y) ⟨[.ref a],[]⟩) (λr C=>r = .ok (.ret<|.bool di)/\OldK I.heap C.heap/\C.os=I.os/\B7 C.gens) I:=by
  intro H E hS j B hK;have f : ∀{b:eg} {o:m6},I.heap.get? b=bQ o->H b=dj->(iT I.heap H).get? b=bQ o:=λe n=>iR e n;have b8 : ∀{b:eg} {o:m6} {i:Array DictEntry} {U:Nat},I.heap.get? b=bQ o->o.data = .dict i U->H b=dj:=λ{b o i U} e d=>by
   cases q:H b with
   | none=>rfl
   | some u=>
    have p:b=a:=B b (by rw[q];simp);subst p;rw[S]at e;cases e;have Q:Data.seq vs.toArray _=Data.dict i U:=d;cases Q
  have a1 : ∀{b:eg} {m:RJ},I.heap.Ns b m->(iT I.heap H).Ns b m:=λ{b m} ⟨o,i,U,e,d,r⟩=>⟨o,i,U,f e<|b8 e d,d,r⟩;have y:K.In (iT I.heap H):=λb o e=>f (KX b o e) (by
   cases q:H b with
   | none=>rfl
   | some u=>
    have p:b=a:=B b (by rw[q];simp);subst p;rw[hK (by rw[q];simp)]at e;cases e)
  have hM:Mod K J (iT I.heap H):=⟨y,a1 a4,⟨Z,a1 O,ak⟩,let ⟨mc,X,h2⟩:=am;⟨mc,a1 X,h2⟩⟩;have R:z3 P w K J (iT I.heap H) Dn [] I H:=⟨rfl,hM,λb o e=>pe e,Nat.le_of_eq<|df _ _,trivial,λb O=>absurd (show b∈([]:List eg)from O) ⋯,j,.of_eq hg⟩;refine Nr ((F _ y<|a1 a4).run Dn [] I H ⟨[.ref a],[]⟩ [.ref a] [.ref a] _ _ hr R (as I<|.ref a) (.cons rfl .nil) (ax H E hS)) λr C h=>?_;cases r with
  | error e=>exact(b0 H e C h).elim
  | ok W=>
   cases W with
   | next=>exact Le h
   | brk=>exact Le h
   | cont=>exact Le h
   | ret u=>
    obtain⟨v,H',os,g,un,N,r',q⟩:=h;have q':v = .bl di:=q;subst q';obtain rfl:u=Value.bool di:=r';refine⟨rfl,OldK.of_keep λb o e=>?_,os,g⟩;cases q:H b with
    | none=>exact un.keep b o e q (by intro z;exact absurd (show b∈([]:List eg)from z) ⋯) ⋯
    | some u=>
     rcases E b with z | ⟨ob,xs,z⟩
     ·rw[q]at z;cases z
     ·have z2:=un.C7 b ob _ z
      obtain⟨A,_⟩:=j b _ z;obtain⟨T,_⟩:=N b _ z2;rw[e]at A;cases A;exact T
 cases hk:K.lookup a with
 | some o=>
  have e:=KX a o hk;rw[S]at e;cases e;refine t (λ_=>dj) (λ_=> .inl rfl) (.inr ⟨_,vs.toArray,_,hk,rfl,rfl,rfl,by rw[iN,M];exact hl,by simpa using G⟩) (λb u z=>by have l:(dj:Option HO)=bQ u:=z;cases l) (λb z=>absurd rfl z) λz=>absurd rfl z
 | none=>
  refine t (λb=>if b=a then bQ (.rb {cls:= .type "list",data:= .seq vs.toArray} (.lst (L.map V.int)))else dj) (λb=>?_) (.inl (.inr ⟨{cls:= .type "list",data:= .seq vs.toArray},RY rfl⟩)) (λb u z=>?_) (λb z=>?_) λ_=>hk
  ·by_cases O:b=a
   ·exact .inr ⟨_,_,RY O⟩
   ·exact .inl<|EQ O
  ·by_cases O:b=a
   ·have l:=(RY O).symm.trans z
    cases l;subst O;exact⟨S,by rw[GY];exact hl,vs,_,G,S⟩
   ·have l:=(EQ O).symm.trans z
    cases l
  ·by_cases O:b=a
   ·exact O
   ·exact absurd (EQ O) z
abbrev OY{K:GI}{h:fy}(_:K.In h):GI:=K
theorem mY{l:PySem.W.OpenLaw}{n k:Nat}{q:il}{U:List Str}{XP:(Str->Option eh)->fy->Prop}{z:hH->fy->Prop}{d:DefRec}{K:Params->GI}{CX:hH->r0}{sp:hH->Sp}{x:Str}
 (hn:l.most=bQ n) (a1:n<=fA) (a2:d.params.defaults=[]) (hr:ml k Dn)
 (hY : ∀(w:hH) (h:fy),z w h->(K w.params).In h)
 (F : ∀(w:hH) (C:RJ) (J:eg) (h:fy),(K w.params).In h->h.Ns u0 C->C d.name=bQ (.ref J)->
   ∃S:o5,(∀(s:el) (u:eh),E9 s S ⟨[u],[]⟩ [(x,u)])/\
    ∀base:fy,(K w.params).In base->base.Ns u0 C->o4 l.prog w (K w.params) C base (CX w) k J S [x] (sp w))
 (a5 : ∀(w:hH) (H:Hp) (a:eg) (L:List Int),L.length<=n->BA H->f9 (K w.params) H a (L.map V.int)->sp w [.ref a] H (λv _=>v = .bl di) λ_ _ _=>False)
 (a6 : ∀(w:hH) (H:Hp) (s:el) (e:eh) (Z:el),CX w [] H s (λ_ _ _=>False) e Z->False) :
 PySem.W.WalkO q U XP z l.row.toRowW d [] (λf vs=>PySem.call f vs):=by
 refine Att.rz hn a2 λw j i C X J o pm P t a vs L G Y R Q N m p r I M=>?_;have O:=hY w _ Y;obtain⟨S,E,y⟩:=F w C J _ O G.T.g m;exact iF O G.T.g G.T.b G.T.builtins G.T.nolimit M p r (Ia I a1) hr y E (λH A B=>a5 w H a L I A B) λH e Z=>a6 w H i e Z
theorem AF{l:PySem.W.OpenLaw}{n k:Nat}{q:il}{I:List Str}{O:(Str->Option eh)->fy->Prop}{z:hH->fy->Prop}{d:DefRec}{K:Params->GI}{CX:r0}{sp:GI->Sp}{x:Str}
 (hn:l.most=bQ n) (U:n<=fA) (Z:d.params.defaults=[]) (hr:ml k Dn)
 (hY : ∀(w:hH) (h:fy),z w h->(K w.params).In h)
 (F : ∀(w:hH) (C:RJ) (S:eg) (h:fy),(K w.params).In h->h.Ns u0 C->C d.name=bQ (.ref S)->
   ∃Y:o5,(∀(s:el) (u:eh),E9 s Y ⟨[u],[]⟩ [(x,u)])/\
    ∀base:fy,(K w.params).In base->base.Ns u0 C->o4 l.prog w (K w.params) C base CX k S Y [x] (sp<|K w.params))
 (a3 : ∀(K:GI) (H:Hp) (a:eg) (J:List Int),J.length<=n->BA H->f9 K H a (J.map V.int)->sp K [.ref a] H (λv _=>v = .bl di) λ_ _ _=>False)
 (a4 : ∀(H:Hp) (s:el) (e:eh) (L:el),CX [] H s (λ_ _ _=>False) e L->False) :
 PySem.W.WalkO q I O z l.row.toRowW d [] (λf vs=>PySem.call f vs):=
 mY (K:=K) (CX:=λ_=>CX) (sp:=λw=>sp<|K w.params) hn U Z hr hY F (λw H a J b g i=>a3 (K w.params) H a J b g i) λ_ H s e L=>a4 H s e L
noncomputable def Ju(s:i5):Arguments:=match s with
 | .FunctionDef _ a _ _ _ _ _ _ _ _=>a
 | _=>{posonlyargs:=[],args:=[],vararg:=dj,kwonlyargs:=[],kw_defaults:=[],kwarg:=dj,defaults:=[]}
noncomputable def kQ(s:i5):List i5:=match s with
 | .FunctionDef _ _ b _ _ _ _ _ _ _=>b
 | _=>[]
noncomputable def jz(s:i5):hG:=match s with
 | .FunctionDef _ _ _ _ _ _ a _ _ _=>a
 | _=>{kind:= .function,names:=[],isGenerator:=ed,isCoroutine:=ed}
abbrev o8:r0:=λ_ _ _ _ _ _=>False
abbrev E0:XK:=λ_ _ _=>False
theorem ux:eV o8 X E0:=λ_ _ _ _ _ _ _ h=>h.elim
structure Dh(K:GI)(x qual:Str)(st:i5)(f:eg)(fd:o5):Prop where
 ex : ∃(oc:eh) (od:Option eg) (kV doc pm:eh) (an:Option eg) (O5 ct:eh) (OC:Array (Option eh)),
  fd=LZ x qual (Ju st) (kQ st) (jz st) .none kV doc pm an O5 ct/\K.lookup f=bQ ⟨oc,od,.func fd,OC⟩/\MY K O5 qual=di
 kp:Mv K (.ref f)=di
section
variable{P:il}{w:hH}{K:GI}{mg:RJ}{base:fy}
theorem Dh.ok{x qual:Str}{st:i5}{f:eg}{J:o5}{N ps:List Str}{k:Nat}{sp:Sp}(F:Dh K x qual st f J)(S:DV N ps (jz st))(len : ∀vs H Q E,sp vs H Q E->vs.length=ps.length)
 (z : ∀(C:eh) (A:l6) (outer:List m5) (s:el) (H:Hp) (vs:List V) (Q:VK) (E:XK),ml k (A.deeper<|envOfC qual (jz st) s.heap.objs.size f C)->sp vs H Q E->
   ∃t,o9 (pR o8 P w K mg base N qual (jz st) f C A outer s H E).D9 (kQ st) t/\t {nx:=λ_ H'=>Q .eX H',rt:=Q} (w4 N vs) H):o4 P w K mg base o8 (k+1) f J ps sp:=by
 obtain⟨g,i,kV,a,j,d,C,e,b,rfl,lk,I⟩:=F.ex;refine Cy lk I S len λA outer s H vs Q E O U=>?_;obtain⟨t,h,q⟩:=z C A outer s H vs Q E O U;exact⟨t,h.D9,q⟩
theorem Ac{x qual:Str}{st:i5}{f:eg}{S:eh}{Y L:Option eg}{J:Array (Option eh)}{kV I O C ct:eh}(l:K.lookup f=bQ ⟨S,Y,.func<|LZ x qual (Ju st) (kQ st) (jz st) .none kV I O L C ct,J⟩)
 (c:MY K C qual=di) (k:Mv K (.ref f)=di):Dh K x qual st f (LZ x qual (Ju st) (kQ st) (jz st) .none kV I O L C ct):=⟨⟨S,Y,kV,I,O,L,C,ct,J,rfl,l,c⟩,k⟩
end
noncomputable def gv(H H':Hp):Prop:=∀b o,H b=bQ o->H' b=bQ o
theorem gv.refl(H:Hp):gv H H:=λ_ _ h=>h
theorem gv.trans(a:gv H H1)(b:gv H1 H2):gv H H2:=λc o h=>b c o<|a c o h
theorem gv.free(e:gv H H')(h:H' l=Option.none):H l=Option.none:=by
 cases q:H l with
 | none=>rfl
 | some o=>
  rw[e l o q]at h;cases h
theorem gv.seq{K:GI}{H H':Hp}{a:eg}{xs:List V}(e:gv H H')(h:f9 K H a xs):f9 K H' a xs:=by
 rcases h with(h | ⟨o,h⟩) | h
 ·exact .inl<|.inl<|e _ _ h
 ·exact .inl<|.inr ⟨o,e _ _ h⟩
 ·exact .inr h
noncomputable def X4(cells:List (Str×eg)):List (Str×t4)->List (Str×eg)->List (Str×eg)
 | [],acc=>acc
 | (n,k)::r,acc=>X4 cells r<|if k==Hv then (match cells.lookup n with | some c=>(n,c)::acc | none=>acc)else acc
theorem yv(f:Str×t4->List (Str×eg)->Sem (ForInStep<|List<|Str×eg))
 (I : ∀name kind O,f (name,kind) O=if kind==Hv then (do let a <- cellOf env name;pure (.yield ((name,a)::O)))else pure (.yield O)) :
 ∀(names:List (Str×t4)) (acc:List (Str×eg)),(∀n,(n,Hv)∈names->∃c,env.cells.lookup n=bQ c)->
  forIn names acc f=(pure (X4 env.cells names acc):Sem _)
 | [],acc,_=>by rw[List.forIn_nil];rfl
 | (n,k)::r,acc,h=>by
  rw[List.forIn_cons,I];have U : ∀n,(n,Hv)∈r->∃c,env.cells.lookup n=bQ c:=λm g=>h m<|GX _ g;unfold X4;by_cases z:(k==Hv)=di
  ·rw[RY z,RY z]
   have d:k=Hv:=by simpa using z
   subst d;obtain⟨c,b⟩:=h n Ha;have e:cellOf env n=pure c:=by unfold cellOf;rw[b]
   rw[e,b];exact yv f I r _ U
  ·rw[EQ z,EQ z]
   exact yv f I r acc U
theorem XQ(h : ∀n,(n,Hv)∈scope.names->∃c,env.cells.lookup n=bQ c) :
 closureFor scope env=pure (X4 env.cells scope.names []):=by
 simp only[closureFor];rw[yv (env:=env) _ (λb a z=>by cases hk:a==Hv<;>simp[hk]) scope.names [] h];rfl
theorem x6
 (z:Q {scope:=scope,locals:=s.heap.objs.size,globals:=globals,cells:=q7 (s.heap.objs.size+1) scope.names cl,qual:=qual,func:=dj,code:=env.code,frame:=env.frame,builtins:=env.builtins}
   {s with heap:=C9 (s.heap.push {cls:= .type "dict",data:= .dict #[]}) scope.names}) :
 wpAny M A (Pg scope globals cl [] qual dj .none (bQ env)) Q E s:=by
 simp only[Pg,Option.isSome_some,if_true];refine GJ (wpAny_alloc ?_);refine GJ (wpAny_layCells _ (λb a cells=>by cases Ry:a==Lf<;>simp[Ry]) _ _ _ _ ?_);rw[show({s with heap:=s.heap.push {cls:= .type "dict",data:= .dict #[]}}:el).heap.objs.size=s.heap.objs.size+1 from HN ..];exact GJ (GS (GS z))
theorem V1 : ∀{names:List (Str×t4)} {acc:List (Str×eg)},(n,c)∈X4 cells names acc->(n,c)∈acc\/((n,Hv)∈names/\cells.lookup n=bQ c)
 | [],acc,h=> .inl h
 | (m,k)::r,acc,h=>by
  unfold X4 at h;rcases V1 h with g | ⟨h1,h2⟩
  ·clear h
   by_cases z:(k==Hv)=di
   ·rw[RY z]at g
    have I:k=Hv:=by simpa using z
    subst I;cases e:cells.lookup m with
    | none=>rw[e]at g;exact .inl g
    | some O=>
     rw[e]at g;rcases GW.mp g with g | g
     ·cases g;exact .inr ⟨Ha,e⟩
     ·exact .inl g
   ·rw[EQ z]at g;exact .inl g
  ·exact .inr ⟨GX _ h1,h2⟩
theorem Jh : ∀{names:List (Str×t4)} {acc:List (Str×eg)},((acc.lookup n).isSome=di\/((n,Hv)∈names/\(cells.lookup n).isSome=di))->((X4 cells names acc).lookup n).isSome=di
 | [],acc,h=>by
  rcases h with h | ⟨h,_⟩
  ·exact h
  ·cases h
 | (m,k)::r,acc,h=>by
  unfold X4;apply Jh;by_cases z:(k==Hv)=di
  ·rw[RY z]
   have O:k=Hv:=by simpa using z
   subst O;cases e:cells.lookup m with
   | none=>
    rcases h with h | ⟨h1,h2⟩
    ·exact .inl h
    ·rcases GW.mp h1 with h1 | h1
     ·cases h1;rw[e]at h2;cases h2
     ·exact .inr ⟨h1,h2⟩
   | some U=>
    dsimp only;by_cases I:n=m
    ·subst I;left;simp
    ·rcases h with h | ⟨h1,h2⟩
     ·left;rw[HV];split<;>simp_all
     ·rcases GW.mp h1 with h1 | h1
      ·cases h1;exact absurd rfl I
      ·exact .inr ⟨h1,h2⟩
  ·rw[EQ z]
   rcases h with h | ⟨h1,h2⟩
   ·exact .inl h
   ·rcases GW.mp h1 with h1 | h1
    ·cases h1;exact absurd rfl z
    ·exact .inr ⟨h1,h2⟩
theorem xx : ∀{names:List (Str×t4)} {k:Nat} {acc:List (Str×eg)},(n,c)∈q7 k names acc->(n,c)∈acc\/(k<=c/\(n,Lf)∈names)
 | [],_,_,h=> .inl h
 | (m,kd)::r,k,acc,h=>by
  unfold q7 at h;split at h
  ·rename_i z
   have I:kd=Lf:=by simpa using z
   subst I;rcases xx h with h | ⟨h1,h2⟩
   ·rcases GW.mp h with h | h
    ·cases h;exact .inr ⟨GQ _,Ha⟩
    ·exact .inl h
   ·exact .inr ⟨by omega,GX _ h2⟩
  ·rcases xx h with h | ⟨h1,h2⟩
   ·exact .inl h
   ·exact .inr ⟨h1,GX _ h2⟩
theorem kM : ∀{names:List (Str×t4)} {k:Nat} {acc:List (Str×eg)},(∀p∈acc,∀q∈acc,p.2=q.2->p.1=q.1)->(∀p∈acc,p.2<k)->
 ∀p∈q7 k names acc,∀q∈q7 k names acc,p.2=q.2->p.1=q.1
 | [],_,_,h,_=>h
 | (m,kd)::r,k,acc,h,hl=>by
  unfold q7;split
  ·refine kM (λp z q I e=>?_) (λp z=>?_)
   ·rcases GW.mp z with rfl | z<;>rcases GW.mp I with rfl | I
    ·rfl
    ·have O:k=q.2:=e
     exact absurd (O ▸ hl q I)<|HM _
    ·have O:p.2=k:=e
     exact absurd (O ▸ hl p z)<|HM _
    ·exact h p z q I e
   ·rcases GW.mp z with rfl | z
    ·exact IQ _
    ·exact HL<|hl p z
  ·exact kM h hl
theorem Jv : ∀{names:List (Str×t4)} {h:fy} {acc:List (Str×eg)} {n:Str} {c:eg},(n,c)∈q7 h.objs.size names acc->(n,c)∈acc\/(C9 h names).IsCell c dj
 | [],_,_,_,_,hm=> .inl hm
 | (m,kd)::r,h,acc,n,c,hm=>by
  unfold q7 at hm;unfold C9;split at hm
  ·rename_i z
   rw[RY z];have e:h.objs.size+1=(h.push {cls:= .type "cell",data:= .cell dj}).objs.size:=(HN ..).symm;rw[e]at hm;rcases Jv hm with hm | hm
   ·rcases GW.mp hm with hm | hm
    ·cases hm
     have I:(h.push {cls:= .type "cell",data:= .cell dj}).IsCell h.objs.size dj:=⟨{cls:= .type "cell",data:= .cell dj},Hc _ rfl,rfl⟩;exact .inr (I.keeps λb o q=>MJ _ _ b o q)
    ·exact .inl hm
   ·exact .inr hm
  ·rename_i z
   rw[EQ z];exact Jv hm
theorem yJ{J:Type}{l:List (Str×J)}(C:(l.map (·.1)).Nodup) : ∀{n:Str} {a:J},(n,a)∈l->l.lookup n=bQ a:=by
 induction l with
 | nil=>intro n a h;cases h
 | cons p r z=>
  intro n a h;obtain⟨m,b⟩:=p;rw[HC,Io]at C;rw[HV];rcases GW.mp h with h | h
  ·cases h;simp
  ·have I:(n==m)=ed:=by
    have:n≠m:=λe=>C.1 (by rw[<- e];exact Hj.mpr ⟨(n,a),h,rfl⟩);simpa using this
   rw[I];exact z C.2 h
theorem yS(scope:hG)(env:m5)(x:Str):(u5 scope env).names.lookup x =
 (scope.names.lookup x).map λk=>if (k==Hv && env.scope.kind == .function && env.kindOf x==bQ .cell)then Lf else k:=by
 unfold u5;dsimp only;generalize scope.names=l
 induction l with
 | nil=>rfl
 | cons p r I=>
  obtain⟨n,k⟩:=p;rw[HC];cases hx:x==n with
  | true=>
   have e:x=n:=by simpa using hx
   subst e;rw[HV,HV];dsimp only;by_cases z:(k==Hv && env.scope.kind == .function && env.kindOf x==bQ .cell)=di
   ·rw[RY z,beq_self_eq_true];dsimp only[NA];rw[RY z]
   ·rw[EQ z,beq_self_eq_true];dsimp only[NA];rw[EQ z]
  | false=>
   have : ∀O,List.lookup x ((n,O)::(r.map λx=>match x with | (n,k)=>if (k==Hv && env.scope.kind == .function && env.kindOf n==bQ .cell)=di then (n,Lf)else (n,k)))=List.lookup x (r.map λx=>match x with | (n,k)=>if (k==Hv && env.scope.kind == .function && env.kindOf n==bQ .cell)=di then (n,Lf)else (n,k)):=λO=>by rw[HV,hx]
   rw[HV (k:=n),hx];dsimp only;split
   ·rw[this];exact I
   ·rw[this];exact I
noncomputable def vM(scope:hG)(env:m5)(L:eg):m5:=
 {scope:=u5 scope env,locals:=L,globals:=env.globals,cells:=q7 (L+1) scope.names<|X4 env.cells scope.names [],qual:=env.qual,func:=dj,code:=env.code,frame:=env.frame,builtins:=env.builtins}
noncomputable def jn(X:Cx)(scope:hG)(J:List Str)(fp:List eg)(C:el)(I:Hp):Cx:=
 {X with N:=J,m3:=C,DW:=I,env:=vM scope X.env<|C.heap.objs.size+1,outer:=X.stack,stack:=X.stack,ex:=fp,fn:=λx=>scope.names.lookup x==bQ .cell,pn:=[],xe:=λ_ _=>False}
structure p9(X:Cx)(scope:hG)(fr:List (Str×Nat)):Prop where
 kind:scope.kind = .function
 nd:(scope.names.map (·.1)).Nodup
 free : ∀p∈scope.names,p.2=Hv->X.env.kindOf p.1=bQ .cell\/X.env.kindOf p.1=bQ .free
 fr : ∀p∈fr,scope.names.lookup p.1=bQ .free/\X.N[p.2]? = bQ p.1
noncomputable def gE(own:List Str)(C:List (Str×Nat))(I:St):St:=own.map (λ_=>dj)++C.map λp=>(I[p.2]?).join
abbrev YU:m6:={cls:= .type "list",data:= .seq #[]}
abbrev mN:m6:={cls:= .type "dict",data:= .dict #[]}
theorem iM{X:Cx}{L:RW}{Y:St}{S:Hp}{C:el}{scope:hG}{own:List Str}{J:List (Str×Nat)}{fp:List eg}(I:Inv X L Y S C)(ok:p9 X scope J)
 (Z : ∀b∈fp,wV X L S b) (b6 : ∀b∈fp,∃o,C.heap.get? b=bQ o) :
 Inv (jn X scope (own++J.map (·.1)) fp C S) [] (gE own J Y) (upd S C.heap.objs.size<|.lst []) {C with heap:=C9 ((C.heap.push YU).push mN) scope.names}:=by
 have M:(C.heap.push YU).objs.size=C.heap.objs.size+1:=HN ..;have z2:((C.heap.push YU).push mN).objs.size=C.heap.objs.size+2:=by rw[HN,M]
 have a1 : ∀n c,(n,c)∈X4 X.env.cells scope.names []->(n,Hv)∈scope.names/\X.env.cells.lookup n=bQ c:=λn c h=>(V1 h).resolve_left ⋯;have am : ∀n c,X.env.cells.lookup n=bQ c->c<C.heap.objs.size:=λn c h=>by obtain⟨v,q⟩:=I.cell n c h;exact q.lt
 have N : ∀p∈X4 X.env.cells scope.names [],p.2<C.heap.objs.size+1+1:=λp U=>by exact HL<|HL<|am p.1 p.2 (a1 p.1 p.2 U).2
 have hC:(vM scope X.env<|C.heap.objs.size+1).cells=q7 (C.heap.objs.size+2) scope.names (X4 X.env.cells scope.names []):=rfl;have a : ∀x c,(vM scope X.env<|C.heap.objs.size+1).cells.lookup x=bQ c->((x,Hv)∈scope.names/\X.env.cells.lookup x=bQ c)\/(C.heap.objs.size+2<=c/\(x,Lf)∈scope.names):=λx c h=>by
  rcases xx (mem_of_lookup h)with h | h
  ·exact .inl<|a1 x c h
  ·exact .inr h
 have E : ∀x,(x,Hv)∈scope.names->∃c,X.env.cells.lookup x=bQ c/\(vM scope X.env<|C.heap.objs.size+1).cells.lookup x=bQ c:=λx r=>by
  obtain⟨c,f⟩:=I.ok.has x<|ok.free (x,.free) r rfl;have w:((X4 X.env.cells scope.names []).lookup x).isSome=di:=Jh<|.inr ⟨r,by rw[f];rfl⟩;have l:=LU scope.names (C.heap.objs.size+2) (X4 X.env.cells scope.names [])<|.inr w;obtain⟨H,as⟩:=IK.mp l;refine⟨c,f,?_⟩;rcases a x H as with⟨_,q⟩ | ⟨_,q⟩
  ·rw[f]at q;cases q;exact as
  ·exact absurd ((yJ ok.nd q).symm.trans (yJ ok.nd r)) ⋯
 have keep : ∀b o,C.heap.get? b=bQ o->(C9 ((C.heap.push YU).push mN) scope.names).get? b=bQ o:=λb o e=>
  MJ _ _ b o (GK _<|GK _ e)
 have ax : ∀b∈fp,b<C.heap.objs.size:=λb O=>by obtain⟨o,e⟩:=b6 b O;exact GZ e
 have fresh:S C.heap.objs.size=dj:=I.f6.fresh<|GQ _;have F : ∀c,C.heap.objs.size<c->(upd S C.heap.objs.size<|.lst []) c=dj:=λc f=>by rw[zI (Lb f)];exact I.f6.fresh<|Ng f
 obtain⟨m0,P⟩ : ∃m,(C9 ((C.heap.push YU).push mN) scope.names).Ns (C.heap.objs.size+1) m:=by have q:=(Heap.Ns.new (C.heap.push YU) (.type "dict")).keeps (λb o e=>MJ scope.names _ b o e);rw[M]at q;exact⟨_,q⟩
 refine⟨⟨I.ok.mod,ok.kind,I.ok.glob,I.ok.blt,Mx _,λx y c w l=>?_,λx r=>?_,λx c hf h=>?_,I.ok.hd,I.ok.frames,.inl rfl,λb O=>⟨?_,λx c h z=>?_⟩,λb o e=>I.bs b o e,?_,λb o e O=>?_,λb O hs=>?_,I.stack,I.Pw⟩,
  rfl,I.bare,Un.laid keep (GQ _) fresh,⟨m0,P,λi x v K d e3=>?_⟩,λx c h=>?_,?_,λx c h=>?_,λp U=>?_,?_,?_⟩
 ·have q:=kM (names:=scope.names) (k:=C.heap.objs.size+2) (acc:=X4 X.env.cells scope.names []) (λp U q hq e=>I.ok.inj p.1 q.1 p.2 (a1 _ _ U).2 (by rw[e];exact(a1 _ _ hq).2)) N
  exact q (x,c) (mem_of_lookup w) (y,c) (mem_of_lookup l) rfl
 ·have g:(u5 scope X.env).names.lookup x=bQ .cell\/(u5 scope X.env).names.lookup x=bQ .free:=r
  have:scope.names.lookup x=bQ .cell\/scope.names.lookup x=bQ .free:=by
   rw[yS]at g;cases e:scope.names.lookup x with
   | none=>rw[e]at g;simp at g
   | some k=>
    rw[e]at g;cases k<;>simp at g ⊢
  rcases this with h | h
  ·exact IK.mp<|LU scope.names _ _<|.inl h
  ·obtain⟨c,_,l⟩:=E x<|mem_of_lookup h;exact⟨c,l⟩
 ·have Q:(scope.names.lookup x==bQ .cell)=di:=hf
  have R:scope.names.lookup x=bQ .cell:=by simpa using Q
  rcases a x c h with⟨q,_⟩ | ⟨q,_⟩
  ·exact absurd ((yJ ok.nd q).symm.trans R) ⋯
  ·exact Ia (HP _ 2) q
 ·exact Ho<|HL<|ax b O
 ·rcases a x c h with⟨_,q⟩ | ⟨q,_⟩
  ·exact(Z b O).2.2.2.2.1 x c q z
  ·exact absurd (Hm (ax b O)<|Ia (HP _ 2)<|z ▸ q)<|HM _
 ·exact Ia I.ok.wb I.sz
 ·rcases (Z b O).2.2.2.1 with q | q
  ·exact I.ok.D8 b o e q
  ·exact absurd (Hm (GZ e)<|Ia I.ok.wb q)<|HM _
 ·rcases GW.mp (I.OM b hs)with q | q
  ·exact(Z b O).2.1 q
  ·exact(Z b O).2.2.1 q
 ·have hi:i<(own++J.map (·.1)).length:=(GU.mp K).1
  by_cases t:i<own.length
  ·unfold gE at d
   rw[HR (by simpa using t)]at d;simp[Hd,t]at d
  ·have hj : ∃p,J[i - own.length]? = bQ p/\p.1=x/\(Y[p.2]?).join=bQ v:=by
    unfold gE at d;have j:(own++J.map (·.1))[i]? = bQ x:=K;rw[HH ⋯,Hd]at j;rw[HH (by simpa using t),Hd,GY]at d;cases q:J[i - own.length]? with
    | none=>rw[q]at j;cases j
    | some p=>
     rw[q]at j d;exact⟨p,rfl,by simpa using j,by simpa using d⟩
   obtain⟨p,U,bl,s⟩:=hj;obtain⟨g1,g2⟩:=ok.fr p<|HJ U;rw[bl]at g1 g2;have A:Y[p.2]? = bQ (bQ v):=by
    cases q:Y[p.2]? with
    | none=>rw[q]at s;cases s
    | some o=>rw[q]at s;simpa using s
   have G:=ok.free (x,.free) (mem_of_lookup g1) rfl;obtain⟨m,hn,hl⟩:=I.loc;obtain⟨u,ru,lk⟩:=hl p.2 x v g2 A (by rcases G with k | k;exact .inr<|.inl k;exact .inr<|.inr k);refine⟨u,ru,.inr ?_⟩;obtain⟨c,T,W⟩:=E x<|mem_of_lookup g1;have c0:C.heap.IsCell c (bQ u):=by
    rcases lk with⟨k,_⟩ | ⟨_,H,e,z⟩
    ·rcases G with k' | k'<;>rw[k]at k'<;>cases k'
    ·rw[T]at e;cases e;exact z
   refine⟨?_,c,W,c0.keeps keep⟩;show(u5 scope X.env).names.lookup x=bQ .cell\/(u5 scope X.env).names.lookup x=bQ .free;rw[yS,g1];dsimp only[NA];split
   ·exact .inl rfl
   ·exact .inr rfl
 ·rcases xx (mem_of_lookup h)with q | q
  ·obtain⟨v,B⟩:=I.cell x c (a1 x c q).2
   exact⟨v,B.keeps keep⟩
  ·have q2:=mem_of_lookup h
   have q3:(x,c)∈q7 ((C.heap.push YU).push mN).objs.size scope.names (X4 X.env.cells scope.names []):=by rw[z2];exact q2
   rcases Jv q3 with q4 | q4
   ·obtain⟨v,B⟩:=I.cell x c (a1 x c q4).2
    exact⟨v,B.keeps keep⟩
   ·exact⟨dj,q4⟩
 ·exact F _<|IQ _
 ·rcases a x c h with⟨_,q⟩ | ⟨q,_⟩
  ·rw[zI (Ho<|am x c q)];exact I.t8 x c q
  ·exact F c<|Hm (HL<|IQ _) q
 ·exact absurd (show p∈([]:RW)from U) ⋯
 ·refine I.f6.laid keep (GQ _) ⟨HX _,[],0,.nil,?_⟩
  exact MJ _ _ _ _<|GK _<|Hc _ rfl
 ·show(gE own J Y).length=(own++J.map (·.1)).length
  simp[gE]
theorem yQ(I:Nat->el->Prop)
 (L : ∀n s,I n s->wpAny (eK prog w) A (DP it) (λr z=>match r with
   | none=>R (.ok .next) z
   | some v=>wpAny (eK prog w) A (G6 target it v) (λ_ z=>wpAny (eK prog w) A (sh target env v) (λ_ U=>
    wpAny (eK prog w) A (forIn ifs di λc r=>if r=di then do let ok <- Ds c env (eL c env);pure (MP ok)else pure (MP r)) (λok O=>
     if ok=di then wpAny (eK prog w) A (eL elt env) (λx C=>
      wpAny (eK prog w) A (call (.builtin "list.append") [acc,x]) (λ_ J=>∃m,m<n/\I m J) (λ_ _=>False) C) (λ_ _=>False) O
     else ∃m,m<n/\I m O) (λ_ _=>False) U) (λ_ _=>False) z) (λ_ _=>False) z) (λ_ _=>False) s)
 (n:Nat) (h:I n s) :
 codeAny (eK prog w) A (.compLoop (.ListComp elt [⟨target,iter,ifs,0⟩] scope pos) 0 it acc env) R s:=by
 refine codeAny_loop rfl I (λn s j=>?_) n h;show wpAny _ A ((compTurn (.ListComp elt [⟨target,iter,ifs,0⟩] scope pos) 0 it acc env).onRaise (λx=>do noteFrame x env;theTreesLotGoes x)) _ _ s;refine wpAny_noted ?_;rw[compTurn_list];refine GJ<|NS<|GJ<|IY (L n s j) (λr z b=>?_) λ_ _ a=>a.elim;cases r with
 | none=>exact GS b
 | some v=>
  refine GJ<|IY b (λ_ k i=>?_) λ_ _ a=>a.elim;refine GJ<|IY i (λ_ U e=>GJ<|IY e (λok O d=>?_) λ_ _ a=>a.elim) λ_ _ a=>a.elim;cases ok with
  | false=>exact GS ⟨rfl,d⟩
  | true=>
   exact GJ<|GJ<|IY d (λx C f=>GJ<|IY f (λ_ J g=>GS<|GS ⟨rfl,g⟩) λ_ _ a=>a.elim) λ_ _ a=>a.elim
noncomputable def rR(X:Cx)(C:List eA)(t:TT):Prop:=
 ∀(a:RW) (s:el) (b:St) (H:Hp) (Q:Bool->Hp->Prop),Inv X a b H s->t b H Q->
  wpAny (eK X.prog X.w) X.A (forIn C di λc r=>if r=di then do let ok <- Ds c X.env (eL c X.env);pure (MP ok)else pure (MP r)) (TP X a b Q) X.xe s
noncomputable def BI:TT:=λ_ H Q=>Q di H
theorem Xp:rR X [] BI:=λ_ _ _ H _ I h=>wpAny_tests_nil ⟨H,I,h⟩
theorem VR(h:PT X c t):rR X [c] t:=λa s b H Q I z=>wpAny_tests_one<|h a s b H Q I z
noncomputable def CW(J:It)(g:TG)(C:TT)(te:TE)(D:eg)(Q:VK)(W:Nat->Nat->List V->St->Hp->Prop):Prop:=
 ∀i m a f H,W i m a f H->H D=bQ (.lst a)/\((J.stop i H/\Q (.ref D) H)\/(J.go i H/\a.length<fA/\∀x e,J.xg i H x e->g x f e λz h=>C z h λb I=>
  if b=di then te z I λv O=>O D=bQ (.lst a)/\∃d,d<m/\W (i+1) d (a++[v]) z (upd O D<|.lst<|a++[v])else ∃d,d<m/\W (i+1) d a z I))
noncomputable def lL(X:Cx)(C:RW)(H:Hp)(L:eg):Prop:=
 H L=dj/\L≠X.env.locals/\X.m3.heap.objs.size<=L/\(∀x c,X.env.cells.lookup x=bQ c->c≠L)/\∀p∈X.pn++C,p.1≠L
theorem lD
 (hc:X.calm=di) (I:Inv X pins σ H2 s2) (ok:p9 X scope fr) (T:Turn X.prog X.w X.K tg J fp it tn) (st:tn 0 s2.heap) (L : ∀b∈fp,wV X pins H2 b)
 (hg:PG (jn X scope (own++fr.map (·.1)) fp s2 H2) tg g) (ht:rR (jn X scope (own++fr.map (·.1)) fp s2 H2) ifs tt) (he:PE (jn X scope (own++fr.map (·.1)) fp s2 H2) elt te)
 (hW : ∀D,H2 D=dj->∃W:Nat->Nat->List V->St->Hp->Prop,(∃m,W 0 m [] (gE own fr σ) (upd H2 D<|.lst []))/\CW J g tt te D Q W) :
 wpAny (eK X.prog X.w) X.A (newList []) (λacc S=>wpAny (eK X.prog X.w) X.A (Pg scope X.env.globals (X4 X.env.cells scope.names []) [] X.env.qual dj .none (bQ X.env)) (λak Y=>
  codeAny (eK X.prog X.w) X.A (.compStart (.ListComp elt [⟨tg,iter,ifs,0⟩] scope pos) 0 (.ref it) acc {ak with scope:=u5 scope X.env})
   (λr C=>(∃f,r = .ok f)/\∃D H',acc = .ref D/\Inv X pins σ H' C/\Q (.ref D) H'/\(∃m,C.heap.Ns ak.locals m)/\lL X pins H' ak.locals) Y) E S) E s2:=by
 have b7 : ∀b∈fp,∃o,s2.heap.get? b=bQ o:=λb O=>by obtain⟨o,e,_⟩:=T.obj 0 _ st b O;exact⟨o,e⟩
 have N:=iM (own:=own) I ok L b7;obtain⟨W,⟨m0,w0⟩,cw⟩:=hW _ I.fresh;refine Iu<|x6 ?_;have z1:(s2.heap.push YU).objs.size=s2.heap.objs.size+1:=HN ..;show codeAny _ _ (.compStart _ 0 (.ref it) (.ref s2.heap.objs.size) {scope:=u5 scope X.env,locals:=(s2.heap.push YU).objs.size,globals:=X.env.globals,cells:=q7 ((s2.heap.push YU).objs.size+1) scope.names<|X4 X.env.cells scope.names [],qual:=X.env.qual,func:=dj,code:=X.env.code,frame:=X.env.frame,builtins:=X.env.builtins})
  (λr C=>(∃f,r = .ok f)/\∃D H',Iz s2.heap.objs.size = .ref D/\Inv X pins σ H' C/\Q (.ref D) H'/\(∃m,C.heap.Ns (s2.heap.push YU).objs.size m)/\lL X pins H' (s2.heap.push YU).objs.size) {s2 with heap:=C9 ((s2.heap.push YU).push mN) scope.names}
 rw[z1];have b8:tn 0 (C9 ((s2.heap.push YU).push mN) scope.names):=T.keep 0 _ _ st λb _ o e=>MJ _ _ b o<|GK _<|GK _ e;have c7 : ∀b∈fp,b<s2.heap.objs.size:=λb O=>by obtain⟨o,e⟩:=b7 b O;exact GZ e
 have am : ∀{H':Hp},(∀b∈fp,H' b=dj)->∀b∈fp,wV (jn X scope (own++fr.map (·.1)) fp s2 H2) [] H' b:=λhn b O=>
  ⟨hn b O,(N.ok.F9 b O).1,N.ok.D5 b O,.inl O,(N.ok.F9 b O).2,λp hp=>absurd (show p∈([]:RW)from hp) ⋯⟩
 have b9:codeAny (eK X.prog X.w) X.A (.compLoop (.ListComp elt [⟨tg,iter,ifs,0⟩] scope pos) 0 (.ref it) (.ref s2.heap.objs.size)<|vM scope X.env<|s2.heap.objs.size+1)
  (λr C=>(∃f,r = .ok f)/\∃D H',Iz s2.heap.objs.size = .ref D/\Inv X pins σ H' C/\Q (.ref D) H'/\(∃m,C.heap.Ns (s2.heap.objs.size+1) m)/\lL X pins H' (s2.heap.objs.size+1)) {s2 with heap:=C9 ((s2.heap.push YU).push mN) scope.names}:=by
  refine yQ (λn C=>∃i y B H',Inv (jn X scope (own++fr.map (·.1)) fp s2 H2) [] B H' C/\tn i C.heap/\(∀b∈fp,H' b=dj)/\W i n y B H') ?_ m0
   ⟨0,[],_,_,N,b8,λb O=>by rw[zI (Ho<|c7 b O)];exact(L b O).1,w0⟩
  rintro n s3 ⟨i,y,a,H,I3,s,be,w3⟩;obtain⟨hD,c9⟩:=cw i n y a H w3;rcases c9 with⟨t,qn⟩ | ⟨go,hz,step⟩
  ·refine e9 (T.done (jn X scope (own++fr.map (·.1)) fp s2 H2) rfl rfl rfl hc i [] s3 a H _ I3 (am be) s t) λr s4 U=>?_
   obtain⟨hr,j⟩:=U;subst hr;refine⟨⟨_,rfl⟩,_,H,rfl,I.Rm (ch:=fp) j.os j.base j.f6 j.bare<|λb O=>⟨(L b O).2.2.2.1,(L b O).2.1,(L b O).2.2.2.2.1,(L b O).2.2.2.2.2⟩,qn,?_,j.free,?_,?_,?_,?_⟩
   ·obtain⟨m,hn,_⟩:=j.loc
    exact⟨m,hn⟩
   ·exact Lb<|HL I.lt
   ·exact MO I.sz
   ·intro x c e z
    obtain⟨v,q⟩:=I.cell x c e;exact absurd (HL q.lt) (by rw[z];exact HM _)
   ·intro p hp z
    exact absurd (HL<|GZ (I.pin p hp).1) (by rw[z];exact HM _)
  ·refine e9 (T.item (jn X scope (own++fr.map (·.1)) fp s2 H2) rfl rfl rfl hc i [] s3 a H _ I3 (am be) s go) λr s4 U=>?_
   obtain⟨u,hr,h4⟩:=U;subst hr;refine e9 h4 λ_ s5 U=>?_;obtain⟨x,H5,I5,r5,y5,as,cl⟩:=U;have cm:=I5.pinned (am cl)<|T.obj _ _ as;refine e9 (hg _ s5 a H5 x u _ cm r5<|step x H5 y5) λ_ s6 U=>?_;obtain⟨h,H6,I6,q6⟩:=U;refine e9 (ht _ s6 h H6 _ I6 q6) λb s7 U=>?_;obtain⟨H7,P,R⟩:=U;have after : ∀{G:St} {M:Hp} {l:el},Inv (jn X scope (own++fr.map (·.1)) fp s2 H2) ([]++KB fp s5.heap) G M l->tn (i+1) l.heap/\∀b∈fp,M b=dj:=λ{G M l} k=>by refine⟨T.keep _ _ _ as λb O o e=>(k.pin (b,o)<|He _<|He _<|yI O e).1,λb O=>?_⟩;obtain⟨o,e,d⟩:=T.obj _ _ as b O;exact(k.pin (b,o)<|He _<|He _<|yI O e).2.1
   cases b with
   | false=>
    rw[EQ Hr]at R ⊢;obtain⟨m',hm,w7⟩:=R;exact⟨m',hm,i+1,y,h,H7,P.E6,(after P).1,(after P).2,w7⟩
   | true=>
    rw[RY rfl]at R ⊢;refine e9 (he _ s7 h H7 _ P R) λv8 l U=>?_;obtain⟨x8,M,k,r8,bm,m',hm,w8⟩:=U;obtain⟨z8,bn,n8,rv,d8,e8⟩:=k.C8 bm;refine LM F.slot_list_append ⟨_,e8,rfl⟩ F.entry_list_append (F.args_list_append_2 _ _) (PySem.list_append _ bn.toArray n8 v8<|by rw[iN];omega) ⟨e8,?_⟩;have Z:=k.Ox (its':=bn++[v8]) (f:=(·.push v8)) (t':=l.toks) bm e8 ⋯ (rv.append<|.cons r8 .nil) (by rw[HQ,Lx];omega);exact⟨m',hm,i+1,y++[x8],h,_,Z.E6,(after Z).1,(after Z).2,w8⟩
 exact codeAny_compStart_list b9<|T.self _ 0 _ _ _ b8 b9
noncomputable def aO(L:TI)(own:List Str)(C:List (Str×Nat))(g:TG)(I:TT)(te:TE):TE:=λb H Q=>L b H λJ a=>∀D,a D=dj->
 ∃W:Nat->Nat->List V->St->Hp->Prop,(∃m,W 0 m [] (gE own C b) (upd a D<|.lst []))/\CW J g I te D Q W
section
variable{X:Cx}{scope:hG}{own:List Str}{fr:List (Str×Nat)}{elt tg iter:eA}{ifs:List eA}{pos:g8}{wi:TI}{g:TG}{tt:TT}{te:TE}
theorem Wo
 (z:X.calm=di) (ok:p9 X scope fr) (hi:PI X tg iter wi) (O : ∀fp S C,PG (jn X scope (own++fr.map (·.1)) fp S C) tg g)
 (U : ∀fp S C,rR (jn X scope (own++fr.map (·.1)) fp S C) ifs tt) (he : ∀fp S C,PE (jn X scope (own++fr.map (·.1)) fp S C) elt te)
 (I:Inv X pins σ H s) (h:aO wi own fr g tt te σ H Q)
 (Z : ∀D H' Y L,Inv X pins σ H' Y->Q (.ref D) H'->(∃m,Y.heap.Ns L m)->lL X pins H' L->
   compPost (eK X.prog X.w) X.A X.xe use R (.ref D) L (.ok .next) Y)
 (hs : ∀x,ow iter X.env x=pure x:=by intro _;rfl) :
 wpAny (eK X.prog X.w) X.A (comprehension (.ListComp elt [⟨tg,iter,ifs,0⟩] scope pos) scope X.env (firstIterPos [⟨tg,iter,ifs,0⟩] pos) (newList []) ed (eL iter X.env) use) R X.xe s:=by
 refine wpAny_comprehension_free rfl hs (XQ λn a=>I.ok.has n<|ok.free (n,.free) a rfl) ok.kind (λx G e=>by rw[<- e];exact yJ ok.nd<|show(x.1,x.2)∈scope.names from G) ?_;refine e9 (hi pins s σ H _ I h) λv P l=>e9 l λM S o=>?_;obtain⟨N,fp,tn,J,C,e,d,T,i,f2,B⟩:=o;subst e;refine e9 (lD (own:=own) (Q:=Q) (E:=X.xe) z d ok T i f2 (O fp S C) (U fp S C) (he fp S C) B) λacc W p=>e9 p λj s4 t=>Nr t λr Y u=>?_;obtain⟨⟨f,F⟩,D,H',k,b,q,a,y⟩:=u;subst F;subst k;have K:=Z D H' Y j.locals b q a y;cases use<;>exact K
theorem YI(z:X.calm=di)(ok:p9 X scope fr)(Y:PI X tg iter wi)(O : ∀fp J C,PG (jn X scope (own++fr.map (·.1)) fp J C) tg g)
 (U : ∀fp J C,rR (jn X scope (own++fr.map (·.1)) fp J C) ifs tt) (S : ∀fp J C,PE (jn X scope (own++fr.map (·.1)) fp J C) elt te)
 (hs : ∀x,ow iter X.env x=pure x:=by intro _;rfl) :
 PE X (.ListComp elt [⟨tg,iter,ifs,0⟩] scope pos) (aO wi own fr g tt te):=by
 intro a s B H Q I h;rw[eval_ListComp];refine Wo (use:=dj) z ok Y O U S I h (λD d l L f q k y=>?_) hs;obtain⟨m,j⟩:=k;obtain⟨p,r,t,u,w⟩:=y;refine⟨m,j,λA n=>⟨.ref D,d,f.turned (t':=l.toks) (it:=L) (λb o i e=>n.extBut b o i e) p r (.inr t) u w,rfl,q⟩⟩
theorem wa(O:X.N.Nodup)(U:X.N[i]? = bQ y)(hy:Loc X.env.scope y)(Z:X.fn y=di\/X.env.scope.names.lookup y=bQ .local)
 (S:X.calm=di) (ok:p9 X scope fr) (hi:PI X tg iter wi) (hg : ∀fp J C,PG (jn X scope (own++fr.map (·.1)) fp J C) tg g)
 (ht : ∀fp J C,rR (jn X scope (own++fr.map (·.1)) fp J C) ifs tt) (Y : ∀fp J C,PE (jn X scope (own++fr.map (·.1)) fp J C) elt te)
 (hs : ∀x,ow iter X.env x=pure x:=by intro _;rfl) :
 PS X (.Assign [.Name y py] (.ListComp elt [⟨tg,iter,ifs,0⟩] scope pos) spos) (Wz (aO wi own fr g tt te)<|yq i):=by
 have z : ∃b:Bool,wh (.ListComp elt [⟨tg,iter,ifs,0⟩] scope pos) (bQ (.Name y py)) spos.line X.env=pure b:=⟨_,rfl⟩;obtain⟨b,z⟩:=z;cases b with
 | false=>
  have u:I9 [.Name y py] (.ListComp elt [⟨tg,iter,ifs,0⟩] scope pos) spos.line X.env=wh (.ListComp elt [⟨tg,iter,ifs,0⟩] scope pos) (bQ (.Name y py)) spos.line X.env:=rfl;exact VQ (YI S ok hi hg ht Y hs) (cg O U hy Z) (by rw[u];exact z)
 | true=>
  intro d s W H D I h;rw[exec_Assign_Name_used _ _ _ _ z];refine GJ<|NS<|GJ ?_;show wpAny _ X.A (do let _ <- comprehension (.ListComp elt [⟨tg,iter,ifs,0⟩] scope pos) scope X.env _ (newList []) ed (eL iter X.env) (bQ (sh (.Name y py) X.env))) _ _ s;refine GJ<|e9 (Wo (R:=λ_ f=>SP X d D .next f) (use:=bQ (sh (.Name y py) X.env)) S ok hi hg ht Y I h (λj Q f L l q E P=>?_) hs) λ_ f q=>GS<|GS q;obtain⟨G,k,K,y4,M⟩:=P;obtain⟨m,B⟩:=E;show wpAny _ _ (sh (.Name y py) X.env<|.ref j) _ _ _;refine Sf<|Kj l O U hy (v:= .ref j) rfl (λn as p=>?_) Z;obtain⟨a,F,w⟩:=p;have r:L≠a:=by
   rcases w with e | e
   ·rw[e];exact k
   ·exact Hu<|y4 _ _ e
  refine⟨m,B.sameBut F r,λT t=>⟨_,_,as.turned (t':=n.toks) (it:=L) (λb o z e=>t.extBut b o z e) G k (.inr K) y4 M,q⟩⟩
end
inductive Sk where
 | L | T
 deriving DecidableEq
end L2
namespace DL
open PySem L2
inductive D where
 | eX | bl (b:Bool) | int (i:Int) | str (x:Str) | tup (xs:List D) | lst (xs:List D)
 | lN (ks vs:List D)
 | i7 (ks:List (List Int)) (vs:List D)
inductive Cell where
 | no | val (d:D) | own (ds:List D) | nest (rows:List (List D))
abbrev Ctx:=List Cell
abbrev CO (a : Type) := Ctx -> Option a
noncomputable def lim:Nat:=2500
noncomputable def z7:D->Option (Sk×List D)
 | .tup a=>bQ (.T,a)
 | .lst a=>bQ (.L,a)
 | _=>dj
noncomputable def zA(f:CO D)(γ:Ctx):Option (Sk×List D):=(f γ).bind z7
noncomputable def jU(f:CO (List D))(γ:Ctx):Option D:=(f γ).map D.lst
noncomputable def jP(f:CO (List D))(γ:Ctx):Option (Sk×List D):=(f γ).map λa=>(Sk.L,a)
noncomputable def dR:Option Cell->Option D
 | some (.val d)=>bQ d
 | _=>dj
noncomputable def vh:Option Cell->Option (Sk×List D)
 | some (.val d)=>z7 d
 | some (.own ds)=>bQ (.L,ds)
 | _=>dj
noncomputable def zc(i:Nat)(γ:Ctx):Option D:=dR γ[i]?
noncomputable def zg(i:Nat)(γ:Ctx):Option (Sk×List D):=vh γ[i]?
noncomputable def zu(d:D):CO D:=λ_=>bQ d
noncomputable def zH(F:D->D->Option D)(C I:CO D)(γ:Ctx):Option D:=(C γ).bind λx=>(I γ).bind λy=>F x y
noncomputable def q5:D->Option Bool
 | .bl b=>bQ b
 | _=>dj
noncomputable def lp:D->Option Int
 | .int i=>bQ i
 | _=>dj
noncomputable def sB(f:CO D)(γ:Ctx):Option Bool:=(f γ).bind q5
noncomputable def oi(f g:CO Bool)(γ:Ctx):Option Bool:=(f γ).bind λb=>if b=di then g γ else bQ ed
noncomputable def wN(f g:CO Bool)(γ:Ctx):Option Bool:=(f γ).bind λb=>if b=di then bQ di else g γ
noncomputable def jY(f:CO Bool)(γ:Ctx):Option Bool:=(f γ).map λb=> !b
noncomputable def aw(f g:CO D)(γ:Ctx):Option D:=((f γ).bind q5).bind λb=>if b=di then g γ else bQ (.bl ed)
noncomputable def R3(f g:CO D)(γ:Ctx):Option D:=((f γ).bind q5).bind λb=>if b=di then bQ (.bl di)else g γ
noncomputable def AI(f:CO D)(γ:Ctx):Option D:=((f γ).bind q5).map λb=> .bl (!b)
noncomputable def bo(c:CO Bool)(f g:CO D)(γ:Ctx):Option D:=(c γ).bind λb=>if b=di then f γ else g γ
noncomputable def zF:CO (List D):=λ_=>bQ []
noncomputable def zb(f:CO D)(g:CO (List D))(γ:Ctx):Option (List D):=(f γ).bind λx=>(g γ).map λr=>x::r
noncomputable def qM(f:CO (List D))(γ:Ctx):Option D:=(f γ).bind λa=>if a.length<=lim then bQ (.tup a)else dj
noncomputable def qP(f:CO (List D))(γ:Ctx):Option (List D):=(f γ).bind λa=>if a.length<=lim then bQ a else dj
inductive Res where
 | val (d:D) | own (ds:List D)
inductive Fl where
 | next (γ:Ctx) | brk (γ:Ctx) | cont (γ:Ctx) | ret (r:Res)
noncomputable def jT(γ:Ctx):Option Fl:=bQ (.next γ)
noncomputable def zP(F G:CO Fl):CO Fl:=λb=>(F b).bind λz=>match z with
 | .next a=>G a
 | f=>bQ f
noncomputable def jK(f:CO D)(γ:Ctx):Option Fl:=(f γ).map λd=> .ret (.val d)
noncomputable def yZ(f:CO (List D))(γ:Ctx):Option Fl:=(f γ).map λd=> .ret (.own d)
noncomputable def Vb:Option Cell->Option Fl
 | some (.val d)=>bQ (.ret<|.val d)
 | some (.own ds)=>bQ (.ret<|.own ds)
 | _=>dj
noncomputable def JP(i:Nat)(γ:Ctx):Option Fl:=Vb γ[i]?
noncomputable def Gy(γ:Ctx):Option Fl:=bQ (.brk γ)
noncomputable def oh(γ:Ctx):Option Fl:=bQ (.cont γ)
noncomputable def Kp:CO Fl:=λ_=>dj
noncomputable def h6(k:CO Bool)(F G:CO Fl)(γ:Ctx):Option Fl:=(k γ).bind λb=>if b=di then F γ else G γ
noncomputable def jD(i:Nat)(f:CO D)(γ:Ctx):Option Fl:=(f γ).map λd=> .next (γ.set i<|.val d)
noncomputable def xn(i:Nat)(f:CO (List D))(γ:Ctx):Option Fl:=(f γ).map λa=> .next (γ.set i<|.own a)
noncomputable def sR(f:CO D)(γ:Ctx):Option Fl:=(f γ).map λ_=> .next γ
noncomputable def q8:Option Cell->Option (List D)
 | some (.own ds)=>bQ ds
 | _=>dj
noncomputable def qi(i:Nat)(f:CO D)(γ:Ctx):Option Fl:=(q8 γ[i]?).bind λa=>(f γ).bind λd=>if a.length<lim then bQ (.next<|γ.set i<|.own<|a++[d])else dj
noncomputable def ja(n:Nat)(ds:List D):Ctx:=ds.map Cell.val++GO (n - ds.length) Cell.no
noncomputable def jf(n:Nat)(F:CO Fl)(ds:List D):Option Res:=(F<|ja n ds).bind λz=>match z with
 | .ret r=>bQ r
 | .next _=>bQ (.val .eX)
 | _=>dj
noncomputable def tw:Res->D
 | .val d=>d
 | .own ds=> .lst ds
noncomputable def zE(F:List D->Option Res)(g:CO (List D))(γ:Ctx):Option D:=(g γ).bind λa=>(F a).map tw
noncomputable def gy:Res->Option (List D)
 | .own a=>bQ a
 | _=>dj
noncomputable def jl(F:List D->Option Res)(g:CO (List D))(γ:Ctx):Option (List D):=(g γ).bind λa=>(F a).bind gy
noncomputable def yR(lo:Int)(n:Nat):List D:=(GH n).map λ(i:Nat)=>D.int<|lo+(i:Int)
noncomputable def JK(ds C:List D):List D:=(ds.zip C).map λp=>D.tup [p.1,p.2]
noncomputable def zN(f:CO (Sk×List D))(γ:Ctx):Option (List D):=(f γ).map (·.2)
noncomputable def inR(i:Int):Bool:=decide<|i.natAbs<2 ^ 62
noncomputable def zR(f:CO D)(γ:Ctx):Option (List D):=((f γ).bind lp).bind λn=>if inR n=di then bQ (yR 0 n.toNat)else dj
noncomputable def Xe(f g:CO D)(γ:Ctx):Option (List D):=((f γ).bind lp).bind λm=>((g γ).bind lp).bind λn=>if inR m=di/\inR n=di then bQ (yR m (n - m).toNat)else dj
noncomputable def YB(f g:CO D)(γ:Ctx):Option (List D):=((f γ).bind z7).bind λm=>((g γ).bind z7).map λn=>JK m.2 n.2
inductive Tg where
 | nm (i:Nat) | tp (is:List Nat)
noncomputable def qO:List Nat->List D->Ctx->Ctx
 | i::is,d::ds,γ=>qO is ds<|γ.set i<|.val d
 | _,_,γ=>γ
noncomputable def xA:Tg->D->CO Ctx
 | .nm i,d,γ=>bQ (γ.set i<|.val d)
 | .tp is,.tup ds,γ=>if ds.length=is.length then bQ (qO is ds γ)else dj
 | _,_,_=>dj
noncomputable def ka(T:Tg)(F:CO Fl):List D->CO Fl
 | [],a=>bQ (.next a)
 | d::e,a=>(xA T d a).bind λb=>(F b).bind λI=>match I with
  | .next z=>ka T F e z
  | .cont z=>ka T F e z
  | .brk z=>bQ (.next z)
  | .ret r=>bQ (.ret r)
noncomputable def yP(C:CO (List D))(T:Tg)(F:CO Fl)(γ:Ctx):Option Fl:=(C γ).bind λa=>ka T F a γ
noncomputable def xQ:Cell->Cell
 | .own _=> .no
 | .nest _=> .no
 | c=>c
noncomputable def z6(n:Nat)(C:List Nat)(γ:Ctx):Ctx:=GO n Cell.no++C.map λj=>xQ<|γ[j]?.getD .no
noncomputable def zU(T:Tg)(k:CO Bool)(f:CO D)(γ:Ctx):List D->Option (List D)
 | []=>bQ []
 | d::ds=>(xA T d γ).bind λa=>(k a).bind λb=>if b=di then (f a).bind λe=>(zU T k f γ ds).map λr=>e::r else zU T k f γ ds
noncomputable def zS(C:CO (List D))(T:Tg)(n:Nat)(I:List Nat)(k:CO Bool)(f:CO D)(γ:Ctx):Option (List D):=(C γ).bind λa=>if a.length<=lim then zU T k f (z6 n I γ) a else dj
noncomputable def jj:CO Bool:=λ_=>bQ di
noncomputable def Tg.idx:Tg->List Nat
 | .nm i=>[i]
 | .tp is=>is
noncomputable def dI(g:Int->Int->D):D->D->Option D
 | .int i,.int j=>bQ (g i j)
 | _,_=>dj
noncomputable def D4(c:Int->Int->Bool)(g:Int->Int->D):D->D->Option D
 | .int i,.int j=>if c i j=di then bQ (g i j)else dj
 | _,_=>dj
noncomputable def JY:D->D->Option D:=dI λi j=> .int (i - j)
noncomputable def QN(i j:Int):Bool:=decide (i.natAbs<2 ^ 64) || decide (j.natAbs<2 ^ 64)
noncomputable def An(_ j:Int):Bool:=decide (0<j) && decide (j.natAbs<1073741824)
noncomputable def X3:D->D->Option D:=D4 An λi j=> .int (i/j)
noncomputable def Bl(_ j:Int):Bool:=decide<|0<j
noncomputable def ya:D->D->Option D:=D4 Bl λi j=> .int (i%j)
noncomputable def Am(i j:Int):Bool:=decide (0<=j) && decide (j.natAbs<=1000000) && decide (i.natAbs<2 ^ 64)
noncomputable def pQ:D->D->Option D:=D4 Am λi j=> .int (i ^ j.toNat)
noncomputable def t7:D->D->Option D:=dI λi j=> .bl (decide<|i<j)
noncomputable def o6:D->D->Option D:=dI λi j=> .bl (decide<|i<=j)
noncomputable def C3:D->D->Option D:=dI λi j=> .bl (decide<|j<i)
noncomputable def O6:D->D->Option D:=dI λi j=> .bl (decide<|j<=i)
noncomputable def qC:D->D->Option D
 | .int i,.int j=>bQ (.int<|i+j)
 | .tup xs,.tup ys=>if xs.length+ys.length<=lim then bQ (.tup<|xs++ys)else dj
 | _,_=>dj
noncomputable def yV:D->D->Option D
 | .int i,.int j=>if QN i j=di then bQ (.int<|i*j)else dj
 | .tup xs,.int j=>if xs.length*j.toNat<=lim/\inR j=di then bQ (.tup (GO j.toNat xs).flatten)else dj
 | _,_=>dj
noncomputable def Kq(f g:CO (Sk×List D))(γ:Ctx):Option (List D):=(f γ).bind λa=>(g γ).bind λb=>
 match a.1,b.1 with
 | .L,.L=>if a.2.length+b.2.length<=lim then bQ (a.2++b.2)else dj
 | _,_=>dj
noncomputable def nY(f:CO (Sk×List D))(g:CO D)(γ:Ctx):Option (List D):=(f γ).bind λa=>((g γ).bind lp).bind λj=>
 match a.1 with
 | .L=>if a.2.length*j.toNat<=lim/\inR j=di then bQ (GO j.toNat a.2).flatten else dj
 | _=>dj
noncomputable def hB(n:Nat)(i:Int):Option Nat:=if 0<=i/\i<n then bQ i.toNat else if i<0/\0<=i+n then bQ (i+n).toNat else dj
noncomputable def dn(f:CO (Sk×List D))(g:CO D)(γ:Ctx):Option D:=(f γ).bind λa=>((g γ).bind lp).bind λi=>(hB a.2.length i).bind λk=>a.2[k]?
noncomputable def VG(i:Nat)(g f:CO D)(γ:Ctx):Option Fl:=(f γ).bind λd=>(q8 γ[i]?).bind λa=>((g γ).bind lp).bind λk=>(hB a.length k).map λj=> .next (γ.set i<|.own<|a.set j d)
noncomputable def ag(n dflt:Nat):Option Int->Nat
 | none=>dflt
 | some i=>if i<0 then (i+n).toNat else min i.toNat n
noncomputable def lA(xs:List D)(lo C:Option Int):List D:=(xs.drop<|ag xs.length 0 lo).take (ag xs.length xs.length C - ag xs.length 0 lo)
noncomputable def av:CO (Option Int):=λ_=>bQ dj
noncomputable def ri(f:CO D)(γ:Ctx):Option (Option Int):=((f γ).bind lp).map bQ
noncomputable def au(f:CO D)(l h:CO (Option Int))(γ:Ctx):Option D:=(f γ).bind λd=>(l γ).bind λlo=>(h γ).bind λa=>match d with
 | .tup b=>bQ (.tup<|lA b lo a)
 | _=>dj
noncomputable def xP(f:CO (Sk×List D))(γ:Ctx):Option D:=(f γ).map λa=> .int a.2.length
inductive Ty where
 | int | bool | str | tuple | list
 deriving DecidableEq
@[simp] noncomputable def mI:D->Bool
 | .int _=>di
 | .bl _=>di
 | _=>ed
@[simp] noncomputable def uX:D->Bool
 | .bl _=>di
 | _=>ed
@[simp] noncomputable def mF:D->Bool
 | .str _=>di
 | _=>ed
@[simp] noncomputable def mE:D->Bool
 | .tup _=>di
 | _=>ed
@[simp] noncomputable def mH:D->Bool
 | .lst _=>di
 | _=>ed
noncomputable def az:Ty->D->Bool
 | .int=>mI
 | .bool=>uX
 | .str=>mF
 | .tuple=>mE
 | .list=>mH
noncomputable def m8(T:Ty)(f:CO D)(γ:Ctx):Option D:=(f γ).map λd=> .bl (az T d)
noncomputable def Cq:Ty->Sk->Bool
 | .tuple,.T=>di
 | .list,.L=>di
 | _,_=>ed
noncomputable def Gu(T:Ty)(f:CO (Sk×List D))(γ:Ctx):Option D:=(f γ).map λa=> .bl (Cq T a.1)
@[simp] noncomputable def Rr:D->Bool
 | .eX=>di
 | _=>ed
@[simp] noncomputable def eqB(a:Bool):D->Bool
 | .bl b=>a==b
 | .int b=>(if a then 1 else 0)==b
 | _=>ed
@[simp] noncomputable def Rq(a:Int):D->Bool
 | .bl b=>a==(if b then 1 else 0)
 | .int b=>a==b
 | _=>ed
@[simp] noncomputable def O8(a:Str):D->Bool
 | .str b=>a==b
 | _=>ed
@[simp] noncomputable def Sm(a:Str)(i:Option Int):D->Bool
 | _=>ed
mutual
def i3:D->D->Bool
 | .eX,y=>Rr y
 | .bl a,y=>eqB a y
 | .int a,y=>Rq a y
 | .str a,y=>O8 a y
 | .tup xs,y=>match y with
  | .tup e=>sx xs e
  | _=>ed
 | .lst xs,y=>match y with
  | .lst e=>sx xs e
  | _=>ed
 | .lN a b,y=>match y with
  | .lN c d=>sx a c && sx b d
  | _=>ed
 | .i7 a b,y=>match y with
  | .i7 c d=>a==c && sx b d
  | _=>ed
def sx:List D->List D->Bool
 | [],[]=>di
 | x::xs,y::ys=>i3 x y && sx xs ys
 | _,_=>ed
end
mutual
def deep:D->Nat
 | .tup a=>ra a+1
 | .lst a=>ra a+1
 | _=>0
def ra:List D->Nat
 | []=>0
 | x::xs=>max (deep x)<|ra xs
end
mutual
def i0:D->Bool
 | .str x=>x.cps.all (· < 0x110000)
 | .lN _ _=>ed
 | .i7 _ _=>ed
 | .tup a=>n9 a
 | .lst a=>n9 a
 | _=>di
def n9:List D->Bool
 | []=>di
 | x::xs=>i0 x && n9 xs
end
noncomputable def md(d:D):Bool:=decide (deep d<=20) && i0 d
noncomputable def ix(x y:D):Option D:=if md x=di/\md y=di then bQ (.bl<|i3 x y)else dj
noncomputable def hL(x y:D):Option D:=if md x=di/\md y=di then bQ (.bl<|!i3 x y)else dj
noncomputable def Ak:D->D->Option D
 | x,.eX=>bQ (.bl<|match x with | .eX=>di | _=>ed)
 | _,_=>dj
noncomputable def je(f:CO (Sk×List D))(γ:Ctx):Option D:=(f γ).map λa=> .tup a.2
noncomputable def bj(f:CO (Sk×List D))(γ:Ctx):Option (List D):=(f γ).map λa=>a.2
noncomputable def fV:List D->Option Int
 | []=>bQ 0
 | .int i::r=>(fV r).map λs=>i+s
 | _::_=>dj
noncomputable def sM(f:CO (Sk×List D))(γ:Ctx):Option D:=(f γ).bind λa=>(fV a.2).map D.int
noncomputable def AG:D->Option Bool
 | .eX=>bQ ed
 | .bl b=>bQ b
 | .int i=>bQ (i != 0)
 | _=>dj
noncomputable def ZJ:List D->Option (List Bool)
 | []=>bQ []
 | d::r=>(AG d).bind λb=>(ZJ r).map λs=>b::s
noncomputable def fw(f:CO (Sk×List D))(γ:Ctx):Option D:=(f γ).bind λa=>(ZJ a.2).map λs=> .bl (s.all id)
noncomputable def rK(f:CO (Sk×List D))(γ:Ctx):Option D:=(f γ).bind λa=>(ZJ a.2).map λs=> .bl (s.any id)
noncomputable def JQ(f:CO D)(γ:Ctx):Option D:=(f γ).bind λd=>match d with
 | .int i=>bQ (.int i)
 | .bl b=>bQ (.int<|if b then 1 else 0)
 | _=>dj
noncomputable def nZ(f g:CO D)(γ:Ctx):Option D:=((f γ).bind lp).bind λi=>((g γ).bind lp).map λj=> .int (if j>i then j else i)
noncomputable def nX(f:CO (Sk×List D))(γ:Ctx):Option Bool:=(f γ).map λa=> !a.2.isEmpty
noncomputable def sO(f:CO D):CO D:=λa=>((f a).bind lp).map λi=> .int (-i)
noncomputable def kf(F G:D->D->Option D)(C I J:CO D):CO D:=λa=>(C a).bind λx=>(I a).bind λy=>((F x y).bind q5).bind λb=>if b=di then (J a).bind λz=>G y z else bQ (.bl ed)
noncomputable def w6(T:Tg)(f:CO D)(γ:Ctx):Option Fl:=(f γ).bind λd=>(xA T d γ).map .next
noncomputable def Ga:D->Option Int
 | .tup (.int k::_)=>bQ k
 | _=>dj
noncomputable def uO:List D->Option (List Int)
 | []=>bQ []
 | d::r=>(Ga d).bind λk=>(uO r).map λl=>k::l
noncomputable def EU:List Int->Bool
 | a::b::r=>decide (a<b) && EU (b::r)
 | _=>di
noncomputable def FX(ks:List Int):Nat:=(ks.dropLast.filter λk=>decide<|k<ks.getLast?.getD 0).length
noncomputable def Gb(q:Nat)(ds:List D):List D:=ds.dropLast.take q++(ds.drop (ds.length - 1)++ds.dropLast.drop q)
noncomputable def BQ(ds:List D):Option (List D):=(uO ds).bind λa=>if (1<=ds.length/\ds.length<=8)/\EU a.dropLast=di/\decide (a.getLast?.getD 0∈a.dropLast)=ed then bQ (Gb (FX a) ds)else dj
noncomputable def BR(f:CO (Sk×List D))(γ:Ctx):Option (List D):=(f γ).bind λa=>match a.1 with
 | .L=>BQ a.2
 | _=>dj
noncomputable def CA:D->Bool
 | .tup _=>ed
 | .lst _=>ed
 | .lN _ _=>ed
 | .i7 _ _=>ed
 | _=>di
end DL
namespace L2
open PySem PySem.Spec PyProof.Rows
noncomputable def kA(k:Sk)(h:fy)(i l:eg)(n:Nat):Prop:=match k with
 | .L=>h.IsListIter i l n
 | .T=>h.IsTupleIter i l n
noncomputable def nf(k:Sk)(h:fy)(l:eg)(xs:Array eh):Prop:=match k with
 | .L=>h.IsList l xs
 | .T=>h.IsTuple l xs
noncomputable def mu(k:Sk)(l:eg):m6:=match k with
 | .L=>{cls:= .type "list_iterator",data:= .fields #[.ref l,.int 0 0]}
 | .T=>{cls:= .type "tuple_iterator",data:= .fields #[.ref l,.int 0 0]}
theorem kA.at(x:kA k h i l n)(e : ∀o,h.get? i=bQ o->h'.get? i=bQ o):kA k h' i l n:=by cases k<;>exact let ⟨o,z,r⟩:=x;⟨o,e _ z,r⟩
theorem nf.at(x:nf k h l xs)(e : ∀o,h.get? l=bQ o->h'.get? l=bQ o):nf k h' l xs:=by cases k<;>exact let ⟨o,z,r⟩:=x;⟨o,e _ z,r⟩
theorem kA.obj(x:kA k h i l n) : ∃o,h.get? i=bQ o/\∀v,o.data ≠ .cell v:=by cases k<;>exact let ⟨o,I,_,d⟩:=x;⟨o,I,λv z=>by rw[d]at z;cases z⟩
theorem nf.lt(x:nf k h l xs):l<h.objs.size:=by cases k<;>exact let ⟨o,z,_⟩:=x;GZ z
theorem QE(k:Sk)(h:fy)(l:eg):kA k (h.push<|mu k l) h.objs.size l 0:=by cases k<;>exact⟨_,Hc _ rfl,rfl,rfl⟩
section
variable{prog:il}{w:hH}{A:l6}{E:RQ}{s:el}
theorem K4(z:nf k s.heap l xs)(I:Q (.ref s.heap.objs.size) {s with heap:=s.heap.push (mu k l)}):wpAny (eK prog w) A (H9<|.ref l) Q E s:=by
 cases k
 ·exact NX z I
 ·exact MR z I
theorem vC(O:kA k s.heap it l i)(U:nf k s.heap l items)(hx:items[i]? = bQ x)
 (C : ∀h',kA k h' it l (i+1)->Mi it s.heap h'->Q x {s with heap:=h'}):wpAny (eK prog w) A (HA<|.ref it) Q E s:=by
 cases k with
 | L=>exact wpAny_nextOf_list_item O U hx C
 | T=>
  have I:s.heap.IsTupleIter it l i:=O;obtain⟨o,z,e,a⟩:=id I;obtain⟨g,b,_,f,d⟩:=(show s.heap.IsTuple l items from U);unfold HA;refine GJ (Iv (name:=HU "__next__") I.typeIs MI (IH MI I.typeIs Rp ?_ (Rh _)));refine GJ (m:=field (.ref it) 0) (Ii z a (x:= .ref l) rfl ?_);show wpAny _ _ (if (Iz l==HB)=di then _ else _) _ _ s;rw[EQ (show ¬((Iz l==HB)=di)from Hr)];refine GJ (m:=field (.ref it) 1) (Ii z a (x:= .int i 0) rfl ?_);refine GJ (m:=seqItems? (.ref l)) (Li b d ?_);simp only[IU,hx];refine GJ (wpAny_setField z a ⋯ (GS ⟨x,rfl,GS (C _ ?_ (Mi.update ..))⟩));show Heap.IsTupleIter _ it l (i+1);exact⟨_,Na _ z (Obj.isFreed_of_fields (NC a _)),(Obj.cls_mapFields ..).trans e,by rw[NC a];simp[Dw]⟩
theorem Xu(z:A.handled=dj)(U:kA k s.heap it l i)(C:nf k s.heap l items)(hx:items[i]? = dj)
 (hE : ∀h' e,Heap.ExtBut it s.heap h'->(∃o,h'.get? e=bQ o/\o.cls = .type "StopIteration")->E (.ref e) {s with heap:=h'}):wpAny (eK prog w) A (HA (.ref it)) Q E s:=by
 cases k with
 | L=>exact wpAny_nextOf_list_end z U C hx hE
 | T=>
  have I:s.heap.IsTupleIter it l i:=U;obtain⟨o,O,g,b⟩:=id I;obtain⟨j,d,_,h,f⟩:=(show s.heap.IsTuple l items from C);unfold HA;refine GJ (Iv (name:=HU "__next__") I.typeIs MI (IH MI I.typeIs Rp ?_ (Rh _)));refine GJ (m:=field (.ref it) 0) (Ii O b (x:= .ref l) rfl ?_);show wpAny _ _ (if (Iz l==HB)=di then _ else _) _ _ s;rw[EQ (show ¬((Iz l==HB)=di)from Hr)];refine GJ (m:=field (.ref it) 1) (Ii O b (x:= .int i 0) rfl ?_);refine GJ (m:=seqItems? (.ref l)) (Li d f ?_);simp only[IU,hx];refine GJ (MF (GJ (wpAny_setField O b ⋯ ?_)));refine GJ (m:=newExc (.type "StopIteration") []) ?_;simp only[newExc,Ph];refine GJ (Iu ?_ (by size_fits));refine GJ (m:=Oh _ _) (wpAny_of_eq (a:=HB) (by first | rfl | (simp only[Oh];rfl)) ?_);refine Iu ?_ (by size_fits);simp only[raiseNew];refine GJ (wpAny_handled ?_)
  first | rw[show A.in1.handled=dj from z] | rw[z]
  exact GJ<|GS<|wpAny_throw<|hE _ _ (((Mi.update ..).extBut.push _).push _) ⟨_,Hc _ rfl,rfl⟩
theorem aA{S Y:Sk}{z TI TO O U J L:eg}{Z n2:Nat}{xs ys:Array eh}{x y a b:eh}{Q:RQ}(D:N4 z TI TO O U J L)
 (C:tr s.heap z TI TO .none) (bl:m9 s.heap TI (.ref O) (.ref U)) (bm:m9 s.heap TO a b)
 (h1:kA S s.heap O J Z) (h2:kA Y s.heap U L n2) (bn:nf S s.heap J xs) (bt:nf Y s.heap L ys) (hx:xs[Z]? = bQ x) (hy:ys[n2]? = bQ y)
 (hQ : ∀h',tr h' z TI TO (Dw s.heap.objs.size)->m9 h' TO x y->kA S h' O J (Z+1)->kA Y h' U L (n2+1)->m9 h' s.heap.objs.size x y->h'.objs.size=s.heap.objs.size+1->
   (∀c o,c≠z->c≠TO->c≠O->c≠U->s.heap.get? c=bQ o->h'.get? c=bQ o)->Q (.ref s.heap.objs.size) {s with heap:=h'}) :
 wpAny (eK prog w) A (n6.«zip.__next__» ⟨[.ref z],[]⟩) (λc0 s'=>∃v,c0 = .done (.ret v)/\Q v s') E s:=by
 refine GJ (m:=field (.ref z) 2)<|Ii C rfl (x:= .bool ed) rfl ?_;refine GJ (m:=field (.ref z) 3)<|Ii C rfl (x:= .ref TI) rfl ?_;refine GJ<|Li bl rfl ?_;refine GJ (m:=HS<|.ref z) ?_;unfold HS;refine GJ<|Ii C rfl (x:= .none) rfl<|GS ?_;simp only[if_true];refine GJ<|MF<|GJ<|Ii C rfl (x:= .ref TO) rfl ?_;refine GJ<|Iy C ⋯ λg1 u d=>?_;replace u:tr g1 z TI TO .ellipsis:=u;refine GJ ?_;simp only[List.zipIdx_cons,List.zipIdx_nil,List.forIn_cons,List.forIn_nil];refine GJ<|GJ<|NT ?_;refine GJ (m:=HA<|.ref O)<|vC (h1.at λo e=>d.extBut _ _ D.i1z e) (bn.at λo e=>d.extBut _ _ D.l1z e) hx λg2 c6 g=>GS ?_;have N:m9 g2 TO a b:=g.extBut _ _ D.TOi1<|d.extBut _ _ D.TOz bm;refine GJ<|Li N rfl<|GJ<|NB N λg3 B h=>?_;replace B:m9 g3 TO x b:=B;refine GJ<|NK<|GS<|GJ<|GJ<|NT ?_;refine GJ (m:=HA<|.ref U)<|vC (h2.at λo e=>h.extBut _ _ D.TOi2.symm<|g.extBut _ _ D.i12.symm<|d.extBut _ _ D.i2z e) (bt.at λo e=>h.extBut _ _ D.l2TO<|g.extBut _ _ D.l2i1<|d.extBut _ _ D.l2z e) hy λg4 c9 i=>GS ?_;have P:m9 g4 TO x b:=i.extBut _ _ D.TOi2 B;refine GJ<|Li P rfl<|GJ<|NB P λI n j=>?_;replace n:m9 I TO x y:=n;refine GJ<|NK<|GS<|GS<|GJ<|Li n rfl<|GJ<|NG ?_;have l:I.objs.size=s.heap.objs.size:=by rw[j.1,i.1,h.1,g.1,d.1]
 have R:tr I z TI TO .ellipsis:=j.extBut _ _ D.TOz.symm (i.extBut _ _ D.i2z.symm (h.extBut _ _ D.TOz.symm (g.extBut _ _ D.i1z.symm u)));have ca : ∀c o,c≠z->c≠TO->c≠O->c≠U->s.heap.get? c=bQ o->I.get? c=bQ o:=λc o f r K M e=>j.extBut _ _ r (i.extBut _ _ M (h.extBut _ _ r (g.extBut _ _ K (d.extBut _ _ f e))));have cb:kA S I O J (Z+1):=c6.at λo e=>j.extBut _ _ D.TOi1.symm (i.extBut _ _ D.i12 (h.extBut _ _ D.TOi1.symm e));have cd:kA Y I U L (n2+1):=c9.at λo e=>j.extBut _ _ D.TOi2.symm e;have T:z<I.objs.size:=GZ R;refine GJ (m:=IG (.ref z) (.ref I.objs.size)) ?_;unfold IG;have ce:tr (I.push {cls:= .type "tuple",data:= .seq #[x,y]}) z TI TO .ellipsis:=GK _ R;refine GJ (Iy ce ⋯ λg7 F G=>?_);replace F:tr g7 z TI TO (Dw I.objs.size):=F;refine Iy F ⋯ λk p H=>?_;replace p:tr k z TI TO (Dw I.objs.size):=p;have t : ∀c o,c≠z->I.get? c=bQ o->k.get? c=bQ o:=λc o f e=>H.extBut _ _ f (G.extBut _ _ f (GK _ e));have W:m9 k I.objs.size x y:=H.extBut _ _ (Lb T) (G.extBut _ _ (Lb T) (Hc _ rfl));have X:k.objs.size=I.objs.size+1:=by rw[H.1,G.1,HN]
 rw[l]at p W X;refine GS ⟨_,rfl,?_⟩;show Q (.ref I.objs.size) _;rw[l];exact hQ k p (t _ _ D.TOz n) (cb.at λo e=>t _ o D.i1z e) (cd.at λo e=>t _ o D.i2z e) W X λc o f r K M e=>t c o f<|ca c o f r K M e
theorem fH{k1 k2:Sk}{z TI TO U C L S:eg}{Y Z:Nat}{xs ys:Array eh}{a b:eh}{Q:Fin->el->Prop}(hh:A.handled=dj)(D:N4 z TI TO U C L S)
 (J:tr s.heap z TI TO .none) (b9:m9 s.heap TI (.ref U) (.ref C)) (bb:m9 s.heap TO a b)
 (h1:kA k1 s.heap U L Y) (h2:kA k2 s.heap C S Z) (b0:nf k1 s.heap L xs) (bd:nf k2 s.heap S ys) (be:xs[Y]? = dj\/ys[Z]? = dj)
 (hE : ∀h' e,(∀c o,c≠z->c≠TO->c≠U->c≠C->s.heap.get? c=bQ o->h'.get? c=bQ o)->(∃o,h'.get? e=bQ o/\o.cls = .type "StopIteration")->E (.ref e) {s with heap:=h'}) :
 wpAny (eK prog w) A (n6.«zip.__next__» ⟨[.ref z],[]⟩) Q E s:=by
 refine GJ (m:=field (.ref z) 2) (Ii J rfl (x:= .bool ed) rfl ?_);refine GJ (m:=field (.ref z) 3) (Ii J rfl (x:= .ref TI) rfl ?_);refine GJ (Li b9 rfl ?_);refine GJ (m:=HS (.ref z)) ?_;unfold HS;refine GJ (Ii J rfl (x:= .none) rfl (GS ?_));simp only[if_true];refine GJ (MF (GJ (Ii J rfl (x:= .ref TO) rfl ?_)));refine GJ (Iy J ⋯ λg1 n I=>?_);replace n:tr g1 z TI TO .ellipsis:=n;refine GJ ?_;simp only[List.zipIdx_cons,List.zipIdx_nil,List.forIn_cons,List.forIn_nil];refine GJ (GJ (NT ?_));have u : ∀{g e:_} {k:m6},tr g z TI TO .ellipsis->(∀c o,c≠z->c≠TO->c≠U->c≠C->s.heap.get? c=bQ o->g.get? c=bQ o)->g.get? e=bQ k->k.cls = .type "StopIteration"->
  wpAny (eK prog w) A (Pq (.ref z) 0 .none) (λ_ G=>E (.ref e) G) E {s with heap:=g}:=λ{g e k} rq hk d i=>by
  have bl:e≠z:=λq=>by subst q;rw[rq]at d;cases d;simp at i
  exact Iy rq ⋯ λg3 _ f=>hE g3 e (λc o j p l r q=>f.extBut _ _ j<|hk c o j p l r q) ⟨k,f.extBut _ _ bl d,i⟩
 cases hx:xs[Y]? with
 | none=>
  refine GJ (m:=HA<|.ref U)<|Xu hh (h1.at λo e=>I.extBut _ _ D.i1z e) (b0.at λo e=>I.extBut _ _ D.l1z e) hx λg2 e O t=>?_;obtain⟨k,d,i⟩:=t;exact u (O _ _ D.i1z.symm n) (λc o j _ l _ q=>O _ _ l<|I.extBut _ _ j q) d i
 | some x=>
  have F:ys[Z]? = dj:=by rcases be with h | h;rw[hx]at h;cases h;exact h
  refine GJ (m:=HA<|.ref U)<|vC (h1.at λo e=>I.extBut _ _ D.i1z e) (b0.at λo e=>I.extBut _ _ D.l1z e) hx λg2 H O=>GS ?_;have y:m9 g2 TO a b:=O.extBut _ _ D.TOi1<|I.extBut _ _ D.TOz bb;refine GJ<|Li y rfl<|GJ<|NB y λg3 K f=>?_;refine GJ<|NK<|GS<|GJ<|GJ<|NT ?_;refine GJ (m:=HA<|.ref C)<|Xu hh (h2.at λo e=>f.extBut _ _ D.TOi2.symm<|O.extBut _ _ D.i12.symm<|I.extBut _ _ D.i2z e) (bd.at λo e=>f.extBut _ _ D.l2TO<|O.extBut _ _ D.l2i1<|I.extBut _ _ D.l2z e) F λM e B t=>?_;obtain⟨k,d,i⟩:=t;exact u (B _ _ D.i2z.symm<|f.extBut _ _ D.TOz.symm<|O.extBut _ _ D.i1z.symm n) (λc o j p l r q=>B _ _ r<|f.extBut _ _ p<|O.extBut _ _ l<|I.extBut _ _ j q) d i
end
noncomputable def wc(a b:eh):m6:={cls:= .type "tuple",data:= .seq #[a,b]}
noncomputable def BC(TI TO:eg):m6:={cls:= .type "zip",data:= .fields #[.none,.bool ed,.bool ed,.ref TI,.ref TO]}
noncomputable def JJ(z I:Sk)(h:fy)(O C:eg):fy:=
 HW (HW (HW (HW (HW h<|mu z O)<|mu I C)<|wc (.ref h.objs.size)<|.ref<|h.objs.size+1)<|wc .none .none) (BC (h.objs.size+2)<|h.objs.size+3)
theorem fG(I O:Sk)(z C:eg)(xs ys:Array eh) :
 DY (n6.«zip.__new__» ⟨[.type "zip",.ref z,.ref C],[]⟩) (λ_ R s=>nf I s.heap z xs/\nf O s.heap C ys/\
  R (.ok<|.ret<|.ref<|s.heap.objs.size+4) {s with heap:=JJ I O s.heap z C}):=
 .of_wp λa w A R s h=>by
  obtain⟨U,g,d,b,os⟩:=s;obtain⟨f,i,h⟩:=h;have l:=sub_zip;have j:nf I (Shared.heap ⟨U,g,d,b,os⟩) z xs:=f;have k:nf O (Shared.heap ⟨U.push<|mu I z,g,d,b,os⟩) C ys:=i.at λo e=>GK _ e
  wp_walk using K4 j,K4 k
  refine⟨_,rfl,?_⟩;simp only[JJ,wc,BC,HN]at h ⊢;exact h
section
variable{X:Cx}{pins:RW}{σ:St}{H:Hp}{s:el}{h':fy}
theorem Inv.OS{t':Nat}{fp:List eg}{a:eg}{o:HO}(I:Inv X pins σ H s)(k : ∀b u,b∉fp->s.heap.get? b=bQ u->h'.get? b=bQ u)(C : ∀b∈fp,wV X pins H b)
 (J:s.heap.objs.size<=a) (new:i6 X.prog X.w (upd H a o) h' a o):Inv X pins σ (upd H a o) {s with heap:=h',toks:=t'}:=by
 have d:H a=dj:=I.f6.fresh J;have g : ∀b u,H b=bQ u->b∉fp:=λb u e z=>by rw[(C b z).1]at e;cases e
 have i : ∀b u,s.heap.get? b=bQ u->b≠a:=λb u e=>Ho<|Hm (GZ e) J;refine I.step (g':=s.gens) (d':=s.drawn) (ch:=fp) (λb O=>⟨(C b O).2.2.2.1,(C b O).2.1,(C b O).2.2.2.2.1,(C b O).2.2.2.2.2⟩) (λb u _ _ U e _=>k b u U e) (λb u _ _ U e _=>⟨u.slots,k b u U e⟩)
  (λb u _ e n=>by rw[zI (i b u e)];exact n) (λb u U e=>⟨u,k b u U e⟩) (λb h e=>by rw[zI (j3 e d)];exact e) (λb f h e=>by rw[zI (j3 e d)];exact e)
  (λb x e=>⟨#[],by rw[zI (j3 e d),e];simp⟩) (λm p=>?_) (λb u e=>?_) I.bare
 ·obtain⟨f,l,j,t,r⟩:=p
  refine⟨f,l,j,k _ f (λz=>(C _ z).2.1 rfl) t,r⟩
 ·by_cases O:b=a
  ·subst O;rw[zO]at e;cases e;exact new
  ·rw[zI O]at e
   refine(I.f6 b u e).Dc (λc v U q=>k c v ?_ q) (λc q=>by rw[zI (j3 q d)];exact q) λc h q=>by rw[zI (j3 q d)];exact q
   rcases U with z | z
   ·rw[z];exact g b u e
   ·exact g c _ z
theorem Inv.Dd{t':Nat}{fp:List eg}(I:Inv X pins σ H s)(k : ∀b u,b∉fp->s.heap.get? b=bQ u->h'.get? b=bQ u)(U : ∀b∈fp,wV X pins H b):Inv X pins σ H {s with heap:=h',toks:=t'}:=by
 have f : ∀b u,H b=bQ u->b∉fp:=λb u e z=>by rw[(U b z).1]at e;cases e
 refine I.step (g':=s.gens) (d':=s.drawn) (ch:=fp) (λb a=>⟨(U b a).2.2.2.1,(U b a).2.1,(U b a).2.2.2.2.1,(U b a).2.2.2.2.2⟩) (λb u _ _ O e _=>k b u O e) (λb u _ _ O e _=>⟨u.slots,k b u O e⟩)
  (λb u _ e n=>n) (λb u O e=>⟨u,k b u O e⟩) (λb g e=>e) (λb d g e=>e)
  (λb o e=>⟨#[],by rw[e];simp⟩) (λm j=>?_) (λb u e=>?_) I.bare
 ·obtain⟨d,i,h,l,r⟩:=j
  refine⟨d,i,h,k _ d (λz=>(U _ z).2.1 rfl) l,r⟩
 ·refine(I.f6 b u e).Dc (λc v O q=>k c v ?_ q) (λc q=>q) λc g q=>q
  rcases O with z | z
  ·rw[z];exact f b u e
  ·exact f c _ z
end
noncomputable def l0(k:Sk)(K:GI)(H:Hp)(a:eg)(xs:List V):Prop:=match k with
 | .L=>f9 K H a xs
 | .T=>g5 K H a xs
theorem Inv.sq(I:Inv X pins σ H s)(h:l0 k X.K H a xs) :
 ∃O:List eh,fh xs O/\nf k s.heap a O.toArray/\xs.length<=fA:=by
 cases k with
 | L=>obtain⟨O,r,p,z⟩:=I.list h;exact⟨O,r,p.isList,z⟩
 | T=>obtain⟨O,r,p,z⟩:=I.tuple h;exact⟨O,r,p,z⟩
theorem Inv.OL(I:Inv X pins σ H s)(h:l0 k X.K H a xs)(h':l0 k X.K H a ys):xs=ys:=by
 cases k with
 | L=>exact I.Ow h h'
 | T=>exact I.PF h h'
noncomputable def M5(z I:Sk)(K:GI)(a b:eg):It:=
 ⟨λi H=>∃d e,l0 z K H a d/\l0 I K H b e/\i<d.length/\i<e.length,
  λi H x f=>∃p u v,x = .ref p/\H p=dj/\f=upd H p (.tup [u,v])/\(∀d,l0 z K H a d->d[i]? = bQ u)/\(∀e,l0 I K H b e->e[i]? = bQ v),
  λi H=>∃d e,l0 z K H a d/\l0 I K H b e/\(d.length<=i\/e.length<=i)⟩
theorem fO{P:il}{w:hH}{K:GI}{elts:List eA}{x1:Nat}{u6:g8}(k1 k2:Sk){z TI TO i1 i2 a b:eg}(D:N4 z TI TO i1 i2 a b) :
 Turn P w K (.Tuple elts x1 u6) (M5 k1 k2 K a b) [z,TI,TO,i1,i2] z (λi h=>tr h z TI TO .none/\m9 h TI (.ref i1) (.ref i2)/\(∃c d,m9 h TO c d)/\kA k1 h i1 a i/\kA k2 h i2 b i) where
 mem:=by simp
 obj:=λi h ⟨U,a8,⟨c,d,ak⟩,h1,h2⟩ y hy=>by
  simp only[GW,Hz,or_false]at hy;rcases hy with rfl | rfl | rfl | rfl | rfl
  ·exact⟨_,U,λv q=>by cases q⟩
  ·exact⟨_,a8,λv q=>by cases q⟩
  ·exact⟨_,ak,λv q=>by cases q⟩
  ·exact h1.obj
  ·exact h2.obj
 keep:=λi h h' ⟨U,a8,⟨c,d,ak⟩,h1,h2⟩ k=>
  ⟨k z ⋯ _ U,k TI ⋯ _ a8,⟨c,d,k TO ⋯ _ ak⟩,h1.at λo e=>k i1 ⋯ o e,h2.at λo e=>k i2 ⋯ o e⟩
 item:=by
  rintro X hP hw hK hc i pins s σ H E I hf ⟨U,a8,⟨c,d,ak⟩,h1,h2⟩ ⟨xs,ys,ax,b0,bi,bl⟩;subst hP hw hK;obtain⟨bm,b7,p1,z1⟩:=I.sq ax;obtain⟨bt,b9,p2,z2⟩:=I.sq b0;have hx:xs[i]? = bQ xs[i]:=GL bi;have hy:ys[i]? = bQ ys[i]:=GL bl;obtain⟨u1,bx,c0⟩:=b7.get hx;obtain⟨u2,c1,c2⟩:=b9.get hy;have hT:s.TypeIs (.ref z) "zip":=⟨_,U,rfl⟩;unfold DP;refine GJ (Nb (Iv (name:=HU "__next__") hT Nk (IH Nk hT F.entry_zip_next
   (aA D U a8 ak h1 h2 p1 p2 (x:=u1) (y:=u2) (by simpa using bx) (by simpa using c1) λg a1 a2 a3 a4 a5 a6 a7=>GS ⟨_,rfl,?_⟩) (F.args_zip_next_1 _))))
  refine wpAny_letOwnedTupleGo_zip a1 λg2 rq am=>?_;have lt : ∀{c o},s.heap.get? c=bQ o->s.heap.objs.size≠c:=λe=>Lb<|GZ e;have c8:m9 g2 s.heap.objs.size u1 u2:=am.extBut _ _ (lt U) a5;have kk : ∀b' u,b' ∉ [z,TI,TO,i1,i2]->s.heap.get? b'=bQ u->g2.get? b'=bQ u:=λb' u O e=>by simp only[GW,Hz,or_false,not_or]at O;exact am.extBut _ _ O.1<|a7 b' u O.1 O.2.2.1 O.2.2.2.1 O.2.2.2.2 e
  have I1:Inv X pins σ (upd H s.heap.objs.size<|.tup [xs[i],ys[i]]) {s with heap:=g2,toks:=s.toks}:=
   I.OS (fp:=[z,TI,TO,i1,i2]) kk hf (GQ _) ⟨by show 2<=fA;decide,[u1,u2],.cons c0<|.cons c2 .nil,⟨_,c8,rfl,_,rfl⟩⟩
  have ca:H s.heap.objs.size=dj:=I.fresh;refine⟨.ref s.heap.objs.size,_,I1,rfl,⟨_,_,_,rfl,ca,rfl,λcl bb=>by rw[I.OL bb ax];exact hx,λcm bb=>by rw[I.OL bb b0];exact hy⟩,?_,λb' O=>?_⟩
  ·exact⟨rq,am.extBut _ _ D.TIz<|a7 _ _ D.TIz D.TITO D.TIi1 D.TIi2 a8,⟨_,_,am.extBut _ _ D.TOz a2⟩,a3.at λo e=>am.extBut _ _ D.i1z e,a4.at λo e=>am.extBut _ _ D.i2z e⟩
  ·have cb:b'≠s.heap.objs.size:=by
    simp only[GW,Hz,or_false]at O;rcases O with rfl | rfl | rfl | rfl | rfl
    ·exact(lt U).symm
    ·exact(lt a8).symm
    ·exact(lt ak).symm
    ·obtain⟨o,e,_⟩:=h1.obj;exact(lt e).symm
    ·obtain⟨o,e,_⟩:=h2.obj;exact(lt e).symm
   rw[zI cb];exact(hf b' O).1
 done:=by
  rintro X hP hw hK hc i pins s σ H E I hf ⟨U,a8,⟨c,d,ak⟩,h1,h2⟩ ⟨xs,ys,ax,b0,hi⟩;subst hP hw hK;obtain⟨bm,b7,p1,z1⟩:=I.sq ax;obtain⟨bt,b9,p2,z2⟩:=I.sq b0;have hT:s.TypeIs (.ref z) "zip":=⟨_,U,rfl⟩;have l1:=b7.length;have l2:=b9.length;unfold DP;refine GJ (Nb (Iv (name:=HU "__next__") hT Nk (IH Nk hT F.entry_zip_next
   (fH (show X.A.handled=dj from I.ok.hd hc) D U a8 ak h1 h2 p1 p2 (by rcases hi with q | q;left;simp;omega;right;simp;omega) λg e hk he=>?_) (F.args_zip_next_1 _))))
  obtain⟨o,ho,ci⟩:=he;refine GJ (wpAny_isInstance (T:="StopIteration") (b:=di) ⟨o,ho,ci⟩ Rz (GS ⟨rfl,?_⟩));refine I.Dd (t':=s.toks) (fp:=[z,TI,TO,i1,i2]) (λb' u O e=>?_) hf;simp only[GW,Hz,or_false,not_or]at O;exact hk b' u O.1 O.2.2.1 O.2.2.2.1 O.2.2.2.2 e
 self:=λ_ _ _ _ _ st h=>wpAny_pyIter_zip st.1 h
noncomputable def Gc(K:GI)(C:TA):TI:=λh H R=>C h H λe d=>∃z I a b,e=[.ref a,.ref b]/\(∃f,l0 z K d a f)/\(∃g,l0 I K d b g)/\R (M5 z I K a b) d
theorem uf{X:Cx}{L U:eA}{Y:TA}{p pos:g8}{C:List eA}{x1:Nat}{J:g8}(hg:Gl X "zip")(hm:X.mg "zip" = dj)(ha:PA X [L,U] Y)
 (hv:C2 "zip" = bQ (.type "zip")) (hs:f7 [L,U] X.env=[(ed,eL L X.env),(ed,eL U X.env)]:=by rfl) (S:f7 [U] X.env=[(ed,eL U X.env)]:=by rfl) :
 PI X (.Tuple C x1 J) (.Call (.Name "zip" p) [L,U] [] pos) (Gc X.K Y):=by
 intro g s E H R I h;refine DU (yo I hg hm hv<|Ij (e9 (ha pos g s E H _ I h) λus d hZ=>?_) (by rw[hs,S])<|by rw[S];rfl);obtain⟨vs,r,i,r1,q1⟩:=hZ;obtain⟨z,O,a,b,e,⟨xs,M⟩,⟨ys,N⟩,q⟩:=q1;subst e;obtain⟨w1,w2,Z,P,Q⟩:=mZ r1;subst Z;cases P;cases Q;obtain⟨T,bn,w,z1⟩:=i.sq M;obtain⟨W,bv,x,z2⟩:=i.sq N;have la:=w.lt;have lb:=x.lt;refine Rn F.called_zip ⋯ (F.typeCall_zip_2 _ _) (F.newCall_zip_2 _ _) (λobj=>F.args_object_init_3 obj _ _) F.entry_zip_new (fG z O a b T.toArray W.toArray) ⟨w,x,?_⟩;have keep : ∀c o,d.heap.get? c=bQ o->(JJ z O d.heap a b).get? c=bQ o:=λc o e=>
  GK _ (GK _<|GK _<|GK _<|GK _ e)
 have y:(HW d.heap<|mu z a).objs.size=d.heap.objs.size+1:=HN ..;have A:(HW (HW d.heap<|mu z a)<|mu O b).objs.size=d.heap.objs.size+2:=by rw[HN,y]
 have B:(HW (HW (HW d.heap<|mu z a)<|mu O b)<|wc (.ref d.heap.objs.size)<|.ref<|d.heap.objs.size+1).objs.size=d.heap.objs.size+3:=by rw[HN,A]
 have y4:(HW (HW (HW (HW d.heap<|mu z a)<|mu O b)<|wc (.ref d.heap.objs.size)<|.ref<|d.heap.objs.size+1)<|wc .none .none).objs.size=d.heap.objs.size+4:=by rw[HN,B]
 have g0:kA z (JJ z O d.heap a b) d.heap.objs.size a 0:=(QE z d.heap a).at λo e=>GK _<|GK _<|GK _<|GK _ e;have g1:kA O (JJ z O d.heap a b) (d.heap.objs.size+1) b 0:=by have q:=QE O (HW d.heap<|mu z a) b;rw[y]at q;exact q.at λo e=>GK _<|GK _<|GK _ e
 have g2:m9 (JJ z O d.heap a b) (d.heap.objs.size+2) (.ref d.heap.objs.size) (.ref<|d.heap.objs.size+1):=by have q:_=bQ (wc (.ref d.heap.objs.size)<|.ref<|d.heap.objs.size+1):=Hc (HW (HW d.heap<|mu z a)<|mu O b) (o:=wc (.ref d.heap.objs.size)<|.ref<|d.heap.objs.size+1) rfl;rw[A]at q;exact GK _<|GK _ q
 have g3:m9 (JJ z O d.heap a b) (d.heap.objs.size+3) .none .none:=by have q:_=bQ (wc .none .none):=Hc (HW (HW (HW d.heap<|mu z a)<|mu O b)<|wc (.ref d.heap.objs.size)<|.ref<|d.heap.objs.size+1) (o:=wc .none .none) rfl;rw[B]at q;exact GK _ q
 have l:tr (JJ z O d.heap a b) (d.heap.objs.size+4) (d.heap.objs.size+2) (d.heap.objs.size+3) .none:=by have q:=Hc (HW (HW (HW (HW d.heap<|mu z a)<|mu O b)<|wc (.ref d.heap.objs.size)<|.ref<|d.heap.objs.size+1)<|wc .none .none) (o:=BC (d.heap.objs.size+2)<|d.heap.objs.size+3) rfl;rw[y4]at q;exact q
 refine⟨⟨_,l,rfl⟩,wpAny_pyIter_zip (s:={d with heap:=JJ z O d.heap a b}) l ?_⟩;have G:Inv X g E r {d with heap:=JJ z O d.heap a b,toks:=d.toks}:=i.kept keep;have nn : ∀m:Nat,d.heap.objs.size≠d.heap.objs.size+m+1:=λm=>by omega
 have j : ∀m:Nat,a≠d.heap.objs.size+m:=λm=>Ho<|Hm la<|HP _ m;have k : ∀m:Nat,b≠d.heap.objs.size+m:=λm=>Ho<|Hm lb<|HP _ m;have f : ∀m n:Nat,m≠n->(d.heap.objs.size+m:Nat)≠d.heap.objs.size+n:=λm n h=>by omega
 have D:N4 (d.heap.objs.size+4) (d.heap.objs.size+2) (d.heap.objs.size+3) d.heap.objs.size (d.heap.objs.size+1) a b:=
  ⟨f 2 4 ⋯,f 3 4 ⋯,f 0 4 ⋯,f 1 4 ⋯,f 2 3 ⋯,f 2 0 ⋯,f 2 1 ⋯,f 3 0 ⋯,f 3 1 ⋯,f 0 1 ⋯,
   j 4,j 3,j 0,j 1,k 4,k 3,k 0,k 1⟩
 refine⟨_,[d.heap.objs.size+4,d.heap.objs.size+2,d.heap.objs.size+3,d.heap.objs.size,d.heap.objs.size+1],_,_,r,rfl,G,fO z O D,⟨l,g2,⟨_,_,g3⟩,g0,g1⟩,λc u=>?_,q⟩;have t:d.heap.objs.size<=c:=by
  simp only[GW,Hz,or_false]at u;rcases u with rfl | rfl | rfl | rfl | rfl
  ·exact HP _ _
  ·exact HP _ _
  ·exact HP _ _
  ·exact GQ _
  ·exact HP _ _
 exact i.C4 t<|i.f6.fresh t
noncomputable def OV(k:Sk)(K:GI)(a:eg):It:=match k with
 | .L=>OW K a
 | .T=>OX K a
noncomputable def Gd(K:GI)(C:TE):TI:=λe H R=>C e H λx b=>∃a k,x = .ref a/\(∃d,l0 k K b a d)/\R (OV k K a) b
theorem bY(U:PE X l tl):PI X tg l (Gd X.K tl):=by
 intro d s t H R I h;refine e9 (U d s t H _ I h) λv f i=>?_;obtain⟨x,g,z,r,n⟩:=i;obtain⟨a,k,e,⟨A,m⟩,q⟩:=n;subst e;cases r;have O : ∀b ∈ [f.heap.objs.size],wV X d g b:=λb j=>by
  have e:b=f.heap.objs.size:=by simpa using j
  subst e;exact z.C4 (GQ _)<|z.f6.fresh<|GQ _
 obtain⟨u,y,p,w⟩:=z.sq m;cases k with
 | L=>exact NX p ⟨f.heap.objs.size,[f.heap.objs.size],_,_,g,rfl,z.kept (t':=f.toks) λb o e=>GK _ e,aI a _,⟨_,Hc _ rfl,rfl,rfl⟩,O,q⟩
 | T=>exact MR p ⟨f.heap.objs.size,[f.heap.objs.size],_,_,g,rfl,z.kept (t':=f.toks) λb o e=>GK _ e,Wu a _,⟨_,Hc _ rfl,rfl,rfl⟩,O,q⟩
section
variable{κ:Type} [DecidableEq κ]
noncomputable def Vq(C:List (κ×V))(k:κ):Option V:=(C.find? λz=>decide<|z.1=k).map (·.2)
noncomputable def ay(C:List (κ×V))(k:κ)(v:V):List (κ×V):=
 if (C.any λz=>decide<|z.1=k)=di then C.map (λz=>if z.1=k then (z.1,v)else z)else C++[(k,v)]
theorem QX{p:κ×V}{r:List (κ×V)}{k:κ}(e:p.1=k):Vq (p::r) k=bQ p.2:=by simp[Vq,Lh,e]
theorem Vp{p:κ×V}{r:List (κ×V)}{k:κ}(e : ¬p.1=k):Vq (p::r) k=Vq r k:=by simp[Vq,Lh,e]
theorem Jl(C:List (κ×V))(k:κ)(v:V):(ay C k v).length<=C.length+1:=by
 unfold ay;split
 ·rw[GY];omega
 ·rw[HQ,ID,LV];omega
theorem t6.Pc(r:t6 o u):o.isSome=u.isSome:=by
 cases o with
 | none=>cases u with
  | none=>rfl
  | some _=>exact(show False from r).elim
 | some _=>cases u with
  | none=>exact(show False from r).elim
  | some _=>rfl
theorem KV.val{C:List (κ×V)}{vs:List (κ×eh)}(r:KV C vs)(k:κ):t6 (Vq C k) (DT vs k):=by
 unfold KV at r
 induction r with
 | nil=>exact Lq
 | @cons p q f I h t U=>
  obtain⟨a,d⟩:=h;by_cases e:p.1=k
  ·have O:q.1=k:=a.symm.trans e
   have b:DT (q::I) k=bQ q.2:=by simp[DT,Lh,O]
   rw[QX e,b];exact d
  ·have O : ¬q.1=k:=λz=>e (a.trans z)
   have b:DT (q::I) k=DT I k:=by simp[DT,Lh,O]
   rw[Vp e,b];exact U
theorem KV.any(r:KV kv vs)(k:κ):(kv.any λz=>decide<|z.1=k)=vs.any λz=>decide (z.1=k):=by
 unfold KV at r
 induction r with
 | nil=>rfl
 | cons h t I=>rw[MT,MT,I,h.1]
theorem KV.RU(r:KV kv vs)(k:κ)(O:RelV y u) :
 KV (kv.map λI=>if I.1=k then (I.1,y)else I) (vs.map λI=>if I.1=k then (I.1,u)else I):=by
 unfold KV at r ⊢
 induction r with
 | nil=>exact .nil
 | @cons p q d f h t U=>
  rw[HC,HC];refine .cons ?_ U;obtain⟨a,b⟩:=h;by_cases e:p.1=k
  ·rw[RY e,RY (a.symm.trans e)];exact⟨a,O⟩
  ·rw[EQ e,EQ (λz=>e<|a.trans z)];exact⟨a,b⟩
theorem KV.put(r:KV kv vs)(k:κ)(z:RelV y u):KV (ay kv k y) (stored vs k u):=by
 unfold ay stored;rw[r.any k];by_cases e:(vs.any λI=>decide<|I.1=k)=di
 ·rw[RY e,RY e];exact r.RU k z
 ·rw[EQ e,EQ e];exact Paired.snoc r ⟨rfl,z⟩
theorem KV.length(r:KV kv vs):kv.length=vs.length:=Paired.length r
end
theorem iI(r:RelV (kV k) u):(qY P w).is k u=di:=by
 cases k with
 | inl i=>obtain⟨t,e⟩:=(show ∃t,u=Nu i t from r);subst e;exact YT P w i t
 | inr x=>obtain⟨t,e⟩:=(show ∃t,u=Nt x t from r);subst e;exact YS P w x t
theorem K5 : ∀{ks:List Key} {us:List eh},fh (ks.map kV) us->ItemsAre (qY P w) ks us
 | [],_,r=>by rw[MZ]at r;cases r;exact .nil
 | k::ks,_,r=>by
  rw[HC]at r;cases r with
  | cons h t=>exact .cons (iI h)<|K5 t
abbrev KT(H:Hp):List (List Key×V)->List (List Key×eg×eh)->Prop:=Paired λp q=>p.1=q.1/\H q.2.1=bQ (.tup (p.1.map kV))/\RelV p.2 q.2.2
theorem KT.val{H:Hp}{C:List (List Key×V)}{xs:List (List Key×eg×eh)}(r:KT H C xs)(k:List Key):t6 (Vq C k) ((DE xs k).map (·.2)):=by
 induction r with
 | nil=>exact Lq
 | @cons p q f I h t U=>
  obtain⟨a,_,d⟩:=h;by_cases e:p.1=k
  ·have O:q.1=k:=a.symm.trans e
   have b:DE (q::I) k=bQ q.2:=by simp[DE,Lh,O]
   rw[QX e,b];exact d
  ·have O : ¬q.1=k:=λz=>e (a.trans z)
   have b:DE (q::I) k=DE I k:=by simp[DE,Lh,O]
   rw[Vp e,b];exact U
section
variable{P:il}{w:hH}{H:Hp}{h:fy}{a:eg}
theorem tE(ok:kr P w H h)(e:Rd H a u):i6 P w H h a u:=e.ok ok
theorem iZ(ok:kr P w H h)(e:Rd H a (.dK kv)):kv.length<=fA/\(a==B5)=ed/\∃vs,KV kv vs/\h.DictOf (qY P w) a vs:=
 show i6 P w H h a (.dK kv)from tE ok e
theorem CD(ok:kr P w H h)(e:H a=bQ (.dK kv)):kv.length<=fA/\(a==B5)=ed/\∃vs,KV kv vs/\h.DictOf (qY P w) a vs:=iZ ok<|.inl e
theorem cT(ok:kr P w H h)(e:H a=bQ (.tup<|ks.map kV)):(PD<|qY P w).is h ks a:=by obtain⟨_,z,r,o,b,d,n,I⟩:=(show i6 P w H h a (.tup<|ks.map kV)from ok a _ e);exact⟨o,z.toArray,n,b,(Prod.mk.inj d).1,I,by simpa using K5 r⟩
theorem pL(ok:kr P w H h)(e:Rd H a (.dT kv)):kv.length<=fA/\(a==B5)=ed/\
 ∃xs,KT H kv xs/\h.DictOfH (PD<|qY P w) a xs:=by
 obtain⟨z,y,xs,r,o,b,O,d,f,U,g,i⟩:=(show i6 P w H h a (.dT kv)from tE ok e);refine⟨z,y,xs,r,o,b,O,d,f,U,g,λx hx=>?_,i⟩;have all : ∀{l:List (List Key×V)} {m:List (List Key×eg×eh)},KT H l m->∀x∈m,(PD<|qY P w).is h x.1 x.2.1:=by
  intro l m q
  induction q with
  | nil=>intro x hx;exact nomatch hx
  | @cons p q k n I t j=>
   intro x hx;rcases GW.mp hx with e | hx
   ·subst e
    exact cT ok (by rw[<- I.1];exact I.2.1)
   ·exact j x hx
 exact all r x hx
end
noncomputable def AE(H:Hp)(a:eg)(y:V)(r:Option V):Prop:=
 (∃d k,Rd H a (.dK d)/\y=kV k/\r=Vq d k)\/∃d k b,Rd H a (.dT d)/\y = .ref b/\H b=bQ (.tup<|k.map kV)/\r=Vq d k
section
variable{X:Cx}{pins:RW}{σ:St}{H:Hp}{s:el}{a:eg}{y v:V}{u r:eh}{o:Option V}{A:l6}{E:RQ}
theorem Inv.big(I:Inv X pins σ H s):B5<s.heap.objs.size:=by have h:u0<s.heap.objs.size:=(I.mod.glob.keeps I.bk).lt;exact Nat.lt_trans ⋯ h
theorem dH(L:A.units+1<A3)(I:Inv X pins σ H s)(g:AE H a y (bQ v))(C:RelV y u)(h : ∀w' J,Inv X pins σ H J->RelV v w'->Q w' J) :
 wpAny (eK X.prog X.w) A (A9 (.ref a) u) Q E s:=by
 rcases g with⟨j,k,e,O,l⟩ | ⟨j,k,b,e,O,n,l⟩
 ·subst O
  obtain⟨z,r,x,U,f⟩:=iZ I.f6 e;obtain⟨w',i,d⟩:=t6.some_of (v:=v) (o:=DT x k) (by rw[l];exact U.val k);exact wpAny_getItem_of (iI C) f.mapOf i<|h w' _ (I.tok _) d
 ·subst O
  cases (show u=Iz b from C);obtain⟨z,r,B,U,f⟩:=pL I.f6 e;obtain⟨w',i,d⟩:=t6.some_of (v:=v) (o:=(DE B k).map (·.2)) (by rw[l];exact U.val k);obtain⟨p,t,m⟩:=MS.mp i;refine wpAny_getItem_heap (Sb L) (cT I.f6 n) f t ?_;rw[m];exact h w' _ (I.tok _) d
theorem Gf(L:A.units+1<A3)(I:Inv X pins σ H s)(g:AE H a y o)(C:RelV y u)(h : ∀J,Inv X pins σ H J->Q (.bool o.isSome) J) :
 wpAny (eK X.prog X.w) A (n3 .In u<|.ref a) Q E s:=by
 rcases g with⟨i,k,e,O,l⟩ | ⟨i,k,b,e,O,j,l⟩
 ·subst O
  obtain⟨z,f,m,U,d⟩:=iZ I.f6 e;refine wpAny_in_of (iI C) f d.mapOf ?_;rw[<- (U.val k).Pc,<- l];exact h _<|I.tok _
 ·subst O
  cases (show u=Iz b from C);obtain⟨z,f,n,U,d⟩:=pL I.f6 e;refine wpAny_in_heap (Sb L) (cT I.f6 j) f d ?_;have q:=(U.val k).Pc;rw[Option.isSome_map]at q;rw[<- q,<- l];exact h _<|I.tok _
theorem pP(I:Inv X pins σ H s)(O:DZ (H a))(hs:Mi a s.heap h')(U : ∃q,h'.get? a=bQ q)(new:i6 X.prog X.w (upd H a ob) h' a ob) :
 Inv X pins σ (upd H a ob) {s with heap:=h',toks:=t'}:=
 I.write (x:=a) (e:=a) O (.inl rfl) (λb q d z=>(hs.2 b d).trans z) U new
theorem Ai(z:kv.length<=fA)(C:(a==B5)=ed)(I:KV kv vs)(O:h'.DictOf (qY P w) a vs) :
 i6 P w H' h' a (.dK kv):=⟨z,C,vs,I,O⟩
end
noncomputable def Ey(i:eA):Prop:=∀z I,ON i ed z I=operate [z,I] (A9 z I)
theorem nM{prog:il}{w:hH}{A:l6}{E:RQ}{s:el}{env:m5}{C z:eA}{pos:g8}{T id:String}{Q:RQ}
 (L:L7 (.type T) "__getitem__" = pure (bQ (.builtin id))) (hs:Ey z)
 (h:wpAny (eK prog w) A (eL C env) (λo J=>wpAny (eK prog w) A (eL z env) (λi I=>I.TypeIs o T/\wpAny (eK prog w) A (A9 o i) Q E I) E J) E s) :
 wpAny (eK prog w) A (eL (.Subscript C z pos) env) Q E s:=by
 refine O1<|IY h (λo J b=>IY b (λi I O=>?_) λ_ _ x=>x) λ_ _ x=>x;obtain⟨e,O⟩:=O;unfold Px;refine GJ ?_;rw[getitemInPython_of_ne e.not_modules];refine GJ<|wpAny_specialOf e L ?_;have U:wpAny (eK prog w) A (ON z ed o i) (λr a=>wpAny (eK prog w) A (letTemporaryGo C o r >>= λ_=>pure r) Q E a) E I:=by rw[hs o i];exact wpAny_operating<|IY O (λr a d=>GJ<|wpAny_letTemporaryGo<|GS d) λ_ _ x=>x
 first
  | exact GS<|GJ U
  | exact GJ<|GS<|GJ U
  | exact GJ U
theorem Y6(I:Inv X pins σ H s)(g:AE H a y o):s.TypeIs (.ref a) "dict":=by
 rcases g with⟨d,k,e,_,_⟩ | ⟨d,k,b,e,_,_,_⟩
 ·obtain⟨_,_,f,_,z⟩:=iZ I.f6 e
  exact z.typeIs
 ·obtain⟨_,_,h,_,z⟩:=pL I.f6 e
  exact z.typeIs
noncomputable def BL(C ty:TE):TE:=λd H Q=>C d H λx e=>ty d e λy b=>∃a v,x = .ref a/\AE b a y (bQ v)/\Q v b
noncomputable def FI(ty C:TE):TE:=λd H Q=>ty d H λy e=>C d e λx b=>∃a o,x = .ref a/\AE b a y o/\Q (.bl o.isSome) b
section
variable{X:Cx}{o i e value:eA}{pos pos' u6:g8}{td ty tv:TE}
theorem oR(O:X.A.units+1<A3)(U:PE X o td)(C:PE X i ty)(hs:Ey i):PE X (.Subscript o i pos) (BL td ty):=by intro b s d H Q I h;refine nM PySem.F.slot_dict_getitem.lookup hs<|e9 (U b s d H _ I h) λu w ⟨x,e,j,r,n⟩=>e9 (C b w d e _ j n) λB E ⟨y,f,z,t,a,v,m,g,p⟩=>?_;subst m;obtain rfl:u=Iz a:=r;exact⟨Y6 z g,dH O z g t λJ G k l=>⟨v,f,k,l,p⟩⟩
theorem uw(z:X.A.units+1<A3)(C:PE X i ty)(O:PE X o td):PC X .In i o (FI ty td):=by intro b s d H Q I h;refine e9 (C b s d H _ I h) λB w ⟨y,e,U,t,n⟩=>e9 (O b w d e _ U n) λu E ⟨x,f,j,r,a,m,l,g,p⟩=>?_;subst l;obtain rfl:u=Iz a:=r;exact Gf z j g t λF k=>⟨.bl m.isSome,f,k,rfl,p⟩
end
theorem lg(h:fy)(z:B5<h.objs.size):i6 P w H (h.push {cls:= .type "dict",data:= .dict #[]}) h.objs.size (.dK []):=
 ⟨HX _,beq_eq_false_iff_ne.mpr<|Hu<|Ho z,[],.nil,Heap.DictOf.new h⟩
end L2
namespace DL
open PySem PySem.Spec PyProof.Rows L2
noncomputable def L8:List Str:=["NoPrime","Nought","NoTable","NoWidths","NoRow","Unlike","TooMany","NoTurn","NoLine","Nothing","NoArrow","NoText","NoRoom"]
noncomputable def rT(K:GI)(c:Str):Option eg:=match PySem.W.nsIn K u0 c with
 | some (bQ (.ref C))=>bQ C
 | _=>dj
noncomputable def Fz(K:GI)(C:eg):Bool:=
 ["int","bool","str","tuple","list"].all (λt=>LH K (.ref C) (.type t)==bQ ed) && LH K (.ref C) (.type "ValueError")==bQ di &&
 Mw K (.ref C) "__getattribute__" == bQ (bQ (.builtin "BaseException.__getattribute__")) && Mw K (.ref C) "__getattr__" == bQ dj &&
 Mw K (.ref C) "__class__" == bQ (bQ (.builtin "object.__class__")) && PySem.W.mroIn K C (.type "object")==bQ di && PySem.W.mroIn K C (.type "BaseException")==bQ di &&
 PySem.W.specialIn K (.builtin "object.__class__") "__get__" == bQ (bQ (.builtin "getset_descriptor.__get__")) && PySem.W.takesIn K (.builtin "object.__class__")==bQ di &&
 (PySem.W.clsIn K C).any (λz=> !z.hasDel) && PySem.W.typeIn K (.ref C)==bQ (.type "type")
noncomputable def EA(K:GI):Bool:=match rT K "SplitError" with
 | some S=>L8.all λc=>match rT K c with
  | some C=>Fz K C && LH K (.ref C) (.ref S)==bQ di && L8.all λz=>match rT K z with
   | some I=>LH K (.ref C) (.ref I)==bQ (c==z)
   | none=>ed
  | none=>ed
 | none=>ed
noncomputable def Gm(h:fy)(a:eg)(C:eg):Prop:=∃o b,h.get? a=bQ o/\o.cls = .ref C/\o.data = .fields b
structure N3(K:GI)(H:Hp)(c:Str)(n:Option Int)(a:eg):Prop where
 all:EA K=di
 mem:c∈L8
 ex : ∃C φ,rT K c=bQ C/\H a=bQ (.ext φ)/\(∀h,φ h->Gm h a C)/\
  match n with
  | none=>True
  | some i=>∃d,(∀h,φ h->∃o,h.get? a=bQ o/\o.dict=bQ d)/\H d=bQ (.xd [(if c==("NoRoom" : Str)then "room" else "at",.int i)])
theorem N3.mono{K:GI}{H H':Hp}{c:Str}{n:Option Int}{a:eg}(e : ∀b o,H b=bQ o->H' b=bQ o)(h:N3 K H c n a):N3 K H' c n a:=by
 obtain⟨f,g,C,j,I,g2,O,z⟩:=h;refine⟨f,g,C,j,I,e _ _ g2,O,?_⟩;cases n with
 | none=>exact z
 | some i=>obtain⟨d,U,f2⟩:=z;exact⟨d,U,e _ _ f2⟩
abbrev St:=L2.St
noncomputable def uT:D->Option Key
 | .int i=>bQ (.inl i)
 | .str x=>bQ (.inr x)
 | _=>dj
noncomputable def KZ:List D->Option (List Key)
 | []=>bQ []
 | d::ds=>(uT d).bind λk=>(KZ ds).map λr=>k::r
noncomputable def Dg(H:Hp)(a:eg)(ks:List D)(xs:List V):Prop:=∃b,KZ ks=bQ b/\b.length=xs.length/\H a=bQ (.dK<|b.zip xs)
noncomputable def BF(k:List Int):Int:=reduceHash<|Builtin.Tuple.tupleHashOf<|k.map hashInt
noncomputable def Gr(o:m6)(xs:List (List Int×eg×eh)):Prop:=o.ExactDict/\∃a z,o.data = .dict a z/\a.toList=xs.map (λx=>⟨BF x.1,.ref x.2.1,x.2.2⟩)/\(xs.map (·.1)).Nodup
noncomputable def O2(a:eg)(o:m6):HO:= .ext λh=>h.get? a=bQ o
noncomputable def F0(K:GI)(H:Hp)(a:eg)(ks:List (List Int))(ys:List V):Prop:=
 (a==B5)=ed/\∃o b,H a=bQ (O2 a o)/\Gr o b/\b.map (·.1)=ks/\b.length<=fA/\(∀x∈b,g5 K H x.2.1<|x.1.map V.int)/\fh ys (b.map (·.2.2))
mutual
def Rep(K:GI)(H:Hp):D->V->Prop
 | .eX,v=>v = .eX
 | .bl b,v=>v = .bl b
 | .int i,v=>v = .int i
 | .str x,v=>v = .str x
 | .tup ds,v=>∃a d,v = .ref a/\g5 K H a d/\ej K H ds d
 | .lst ds,v=>∃a d,v = .ref a/\f9 K H a d/\ej K H ds d
 | .lN ks vs,v=>∃a d,v = .ref a/\Dg H a ks d/\ej K H vs d
 | .i7 ks vs,v=>∃a d,v = .ref a/\F0 K H a ks d/\ej K H vs d
def ej(K:GI)(H:Hp):List D->List V->Prop
 | [],xs=>xs=[]
 | d::ds,xs=>∃x r,xs=x::r/\Rep K H d x/\ej K H ds r
end
theorem mr{K:GI}{H H':Hp}{a:eg}{xs:List V}(e:gv H H')(h:g5 K H a xs):g5 K H' a xs:=by
 rcases h with(h | ⟨o,h⟩) | h
 ·exact .inl<|.inl<|e _ _ h
 ·exact .inl<|.inr ⟨o,e _ _ h⟩
 ·exact .inr h
theorem Ko{k:Sk}{K:GI}{H H':Hp}{a:eg}{xs:List V}(e:gv H H')(h:l0 k K H a xs):l0 k K H' a xs:=by
 cases k
 ·exact e.seq h
 ·exact mr e h
mutual
theorem Rep.mono{K:GI}{H H':Hp}(e:gv H H') : ∀{d:D} {v:V},Rep K H d v->Rep K H' d v
 | .eX,_,h=>h
 | .bl _,_,h=>h
 | .int _,_,h=>h
 | .str _,_,h=>h
 | .tup ds,v,h=>by obtain⟨a,b,f,i,g⟩:=(show ∃a b,v = .ref a/\g5 K H a b/\ej K H ds b from h);exact(show ∃a b,v = .ref a/\g5 K H' a b/\ej K H' ds b from⟨a,b,f,mr e i,ej.mono e g⟩)
 | .lst ds,v,h=>by obtain⟨a,b,f,i,g⟩:=(show ∃a b,v = .ref a/\f9 K H a b/\ej K H ds b from h);exact(show ∃a b,v = .ref a/\f9 K H' a b/\ej K H' ds b from⟨a,b,f,e.seq i,ej.mono e g⟩)
 | .lN ks vs,v,h=>by obtain⟨a,b,f,⟨l,z,g2,I⟩,g⟩:=(show ∃a b,v = .ref a/\Dg H a ks b/\ej K H vs b from h);exact(show ∃a b,v = .ref a/\Dg H' a ks b/\ej K H' vs b from⟨a,b,f,⟨l,z,g2,e _ _ I⟩,ej.mono e g⟩)
 | .i7 ks vs,v,h=>by obtain⟨a,b,f,⟨z,o,m,g2,I,O,U,g6,j⟩,g⟩:=(show ∃a b,v = .ref a/\F0 K H a ks b/\ej K H vs b from h);exact(show ∃a b,v = .ref a/\F0 K H' a ks b/\ej K H' vs b from⟨a,b,f,⟨z,o,m,e _ _ g2,I,O,U,λx k=>mr e<|g6 x k,j⟩,ej.mono e g⟩)
theorem ej.mono{K:GI}{H H':Hp}(e:gv H H') : ∀{ds:List D} {xs:List V},ej K H ds xs->ej K H' ds xs
 | [],_,h=>h
 | d::ds,xs,h=>by obtain⟨x,r,a,b,f⟩:=(show ∃x r,xs=x::r/\Rep K H d x/\ej K H ds r from h);exact(show ∃x r,xs=x::r/\Rep K H' d x/\ej K H' ds r from⟨x,r,a,Rep.mono e b,ej.mono e f⟩)
end
section
variable{K:GI}{H:Hp}
theorem ej.nil:ej K H [] []:=(show([]:List V)=[]from rfl)
theorem ej.cons(h:Rep K H d x)(t:ej K H ds xs):ej K H (d::ds) (x::xs):=⟨x,xs,rfl,h,t⟩
theorem ej.o3(h:ej K H [] xs):xs=[]:=h
theorem ej.mm(h:ej K H (d::ds) xs) : ∃x r,xs=x::r/\Rep K H d x/\ej K H ds r:=h
theorem ej.length : ∀{ds:List D} {xs:List V},ej K H ds xs->xs.length=ds.length
 | [],xs,h=>by rw[h.o3];rfl
 | d::ds,xs,h=>by obtain⟨x,r,e,_,t⟩:=h.mm;rw[e,ID,ID,ej.length t]
theorem ej.get : ∀{ds:List D} {xs:List V} {i:Nat} {d:D},ej K H ds xs->ds[i]? = bQ d->∃x,xs[i]? = bQ x/\Rep K H d x
 | [],_,_,_,_,e=>by simp at e
 | c::ds,xs,0,d,h,e=>by obtain⟨x,r,a,b,_⟩:=h.mm;simp at e;subst e;exact⟨x,by rw[a];rfl,b⟩
 | c::ds,xs,i+1,d,h,e=>by obtain⟨x,r,a,_,t⟩:=h.mm;obtain⟨y,z,g2⟩:=ej.get (i:=i) (d:=d) t (by simpa using e);exact⟨y,by rw[a];simpa using z,g2⟩
theorem ej.Dq{ds:List D}{xs:List V}{i:Nat}{x:V}(h:ej K H ds xs)(e:xs[i]? = bQ x) : ∃d,ds[i]? = bQ d/\Rep K H d x:=by
 have b:i<ds.length:=by rw[<- h.length];exact(GU.mp e).1
 obtain⟨y,a,r⟩:=h.get<|GL b;rw[e]at a;cases a;exact⟨_,GL b,r⟩
theorem ej.append : ∀{ds C:List D} {xs ys:List V},ej K H ds xs->ej K H C ys->ej K H (ds++C) (xs++ys)
 | [],_,xs,_,h,g=>by rw[h.o3];exact g
 | d::ds,C,xs,ys,h,g=>by obtain⟨x,r,e,a,t⟩:=h.mm;rw[e];exact ej.cons a<|ej.append t g
theorem ej.drop : ∀{ds:List D} {xs:List V} (n:Nat),ej K H ds xs->ej K H (ds.drop n) (xs.drop n)
 | _,_,0,h=>h
 | [],xs,n+1,h=>by rw[h.o3];exact ej.nil
 | d::ds,xs,n+1,h=>by obtain⟨x,r,e,_,t⟩:=h.mm;rw[e];exact ej.drop n t
theorem ej.take : ∀{ds:List D} {xs:List V} (n:Nat),ej K H ds xs->ej K H (ds.take n) (xs.take n)
 | _,_,0,h=>by simp;exact ej.nil
 | [],xs,n+1,h=>by rw[h.o3];exact ej.nil
 | d::ds,xs,n+1,h=>by obtain⟨x,r,e,a,t⟩:=h.mm;rw[e];exact ej.cons a<|ej.take n t
theorem ej.set : ∀{ds:List D} {xs:List V} {d:D} {x:V} (i:Nat),ej K H ds xs->Rep K H d x->ej K H (ds.set i d) (xs.set i x)
 | [],xs,_,_,_,h,_=>by rw[h.o3];exact ej.nil
 | c::ds,xs,d,x,0,h,g=>by obtain⟨y,r,e,_,t⟩:=h.mm;rw[e];exact ej.cons g t
 | c::ds,xs,d,x,i+1,h,g=>by obtain⟨y,r,e,a,t⟩:=h.mm;rw[e];exact ej.cons a<|ej.set i t g
end
structure Ext(H0 H u7 H':Hp):Prop where
 s0:gv H0 u7
 s1:gv H H'
 sub:gv u7 H'
 new : ∀a,H0 a=dj->H a≠dj->u7 a=dj
theorem Ext.refl(s:gv H0 H):Ext H0 H H0 H:=⟨gv.refl _,gv.refl _,s,λ_ h _=>h⟩
theorem Ext.trans(a:Ext H0 H H1 G1)(b:Ext H1 G1 H2 G2):Ext H0 H H2 G2:=
 ⟨a.s0.trans b.s0,a.s1.trans b.s1,b.sub,λc e d=>b.new c (a.new c e d) (by
  cases q:H c with
  | none=>exact absurd q d
  | some o=>rw[a.s1 c o q];simp)⟩
theorem jd(h:H p=dj)(o:HO):gv H (upd H p o):=λb u q=>by rw[zI (j3 q h)];exact q
theorem jt(s:gv H0 H)(h:H p=dj):H0 p=dj:=s.free h
theorem ba(s:gv H0 H):gv (upd H0 p o) (upd H p o):=λb u q=>by
 by_cases e:b=p
 ·subst e;rw[zO]at q ⊢;exact q
 ·rw[zI e]at q ⊢;exact s b u q
theorem Ext.alloc(s:gv H0 H)(h:H p=dj)(o:HO):Ext H0 H (upd H0 p o) (upd H p o):=
 ⟨jd (jt s h) o,jd h o,ba s,λa b d=>by rw[zI (λe=>d<|by rw[e];exact h)];exact b⟩
theorem Ext.hide(s:gv H0 H)(h:H p=dj)(o:HO):Ext H0 H H0 (upd H p o):=
 ⟨gv.refl _,jd h o,s.trans<|jd h o,λa b _=>b⟩
theorem Ext.show(e:Ext H0 H u7 H')(C:H a=dj)(J:u7 a=dj)(O:H' a=bQ o)(s:gv H0 H):Ext H0 H (upd u7 a o) H':=
 ⟨e.s0.trans<|jd J o,e.s1,λb u q=>by
  by_cases z:b=a
  ·subst z;rw[zO]at q;rw[O];exact q
  ·rw[zI z]at q;exact e.sub b u q,λb U I=>by
  rw[zI (λz=>I<|by rw[z];exact C)];exact e.new b U I⟩
structure t5(K:GI)(H0 H:Hp)(rows:List (List D))(a:eg)(bs:List eg):Prop where
 a0:H0 a=dj
 ha:H a=bQ (.lst<|bs.map V.ref)
 nd:(a::bs).Nodup
 len:bs.length=rows.length
 row : ∀(k:Nat) b row,bs[k]? = bQ b->rows[k]? = bQ row->H0 b=dj/\∃xs,H b=bQ (.lst xs)/\ej K H0 row xs
theorem t5.at{K:GI}{H0 H:Hp}{C:List (List D)}{a:eg}{bs:List eg}(n:t5 K H0 H C a bs){b:eg}(z:b∈a::bs):H0 b=dj/\∃xs,H b=bQ (.lst xs):=by
 rcases GW.mp z with rfl | z
 ·exact⟨n.a0,_,n.ha⟩
 ·obtain⟨k,I⟩:=Nj z
  have O:=(GU.mp I).1;rw[n.len]at O;obtain⟨d,xs,e,_⟩:=n.row k b _ I<|GL O;exact⟨d,xs,e⟩
theorem t5.move{K:GI}{H0 H J H':Hp}{C:List (List D)}{a:eg}{bs:List eg}(n:t5 K H0 H C a bs)(s:gv H0 J)(z : ∀b∈a::bs,J b=dj)(h : ∀b∈a::bs,H' b=H b):t5 K J H' C a bs:=
 ⟨z a Ha,by rw[h a Ha];exact n.ha,n.nd,n.len,λk b row I U=>by obtain⟨_,f,d,e⟩:=n.row k b row I U;have O:b∈a::bs:=GX _<|HJ I;exact⟨z b O,f,by rw[h b O];exact d,e.mono s⟩⟩
noncomputable def oe(K:GI)(H0 H:Hp)(C:St)(γ:Ctx):Prop:=
 (∀(i:Nat) b,γ[i]? = bQ (.nest b)->∃a bs,C[i]? = bQ (bQ (.ref a))/\t5 K H0 H b a bs/\∀(j:Nat) d c,γ[j]? = bQ (.own d)->C[j]? = bQ (bQ (.ref c))->c∉a::bs)/\
 ∀(i j:Nat) z e,γ[i]? = bQ (.nest z)->γ[j]? = bQ (.nest e)->i=j
theorem oe.DN{K:GI}{H0 H:Hp}{I:St}{γ:Ctx}(h : ∀(i:Nat) C,γ[i]? ≠ bQ (.nest C)):oe K H0 H I γ:=⟨λi C e=>absurd e<|h i C,λi j z a e=>absurd e<|h i z⟩
theorem oe.move{K:GI}{H0 H J H':Hp}{L:St}{γ:Ctx}(n:oe K H0 H L γ)(s:gv H0 J)(h : ∀(i:Nat) C a bs,γ[i]? = bQ (.nest C)->L[i]? = bQ (bQ (.ref a))->t5 K H0 H C a bs->(∀(j:Nat) ds c,γ[j]? = bQ (.own ds)->L[j]? = bQ (bQ (.ref c))->c∉a::bs)->∀b∈a::bs,J b=dj/\H' b=H b):oe K J H' L γ:=
 ⟨λi C e=>by obtain⟨a,bs,d,f,z⟩:=n.1 i C e;exact⟨a,bs,d,f.move s (λb I=>(h i C a bs e d f z b I).1)<|λb I=>(h i C a bs e d f z b I).2,z⟩,n.2⟩
theorem oe.ext{K:GI}{H0 H C H':Hp}{J:St}{γ:Ctx}(n:oe K H0 H J γ)(e:Ext H0 H C H'):oe K C H' J γ:=
 n.move e.s0 λi d a bs _ _ f _ b z=>by obtain⟨I,g,g2⟩:=f.at z;exact⟨e.new b I (by rw[g2];simp),by rw[e.s1 b _ g2,g2]⟩
structure RC(K:GI)(H0 H:Hp)(σ:St)(γ:Ctx):Prop where
 sub:gv H0 H
 len:σ.length=γ.length
 val : ∀(i:Nat) d,γ[i]? = bQ (.val d)->∃v,σ[i]? = bQ (bQ v)/\Rep K H0 d v
 own : ∀(i:Nat) ds,γ[i]? = bQ (.own ds)->∃a xs,σ[i]? = bQ (bQ (.ref a))/\H0 a=dj/\H a=bQ (.lst xs)/\ej K H0 ds xs
 ne : ∀(i j:Nat) a ds es,γ[i]? = bQ (.own ds)->γ[j]? = bQ (.own es)->σ[i]? = bQ (bQ (.ref a))->σ[j]? = bQ (bQ (.ref a))->i=j
 m1:oe K H0 H σ γ
theorem RC.ext{K:GI}{H0 H C H':Hp}{J:St}{γ:Ctx}(r:RC K H0 H J γ)(e:Ext H0 H C H'):RC K C H' J γ:=
 ⟨e.sub,r.len,λi d h=>let ⟨v,b,f⟩:=r.val i d h;⟨v,b,f.mono e.s0⟩,
  λi g h=>let ⟨a,j,b,f,z,I⟩:=r.own i g h;⟨a,j,b,e.new a f (by rw[z];simp),e.s1 _ _ z,I.mono e.s0⟩,r.ne,r.m1.ext e⟩
noncomputable def tV(K:GI)(f:CO D):TE:=λh H Q=>∃e g d,RC K e H h g/\f g=bQ d/\∀v b a,Ext e H a b->Rep K a d v->Q v b
noncomputable def tQ(K:GI)(f:CO (Sk×List D)):TE:=λj H Q=>∃g i k h,RC K g H j i/\f i=bQ (k,h)/\∀a e d b,Ext g H b d->l0 k K d a e->(k = .T->g5 K b a e)->ej K b h e->Q (.ref a) d
noncomputable def tO(K:GI)(f:CO (List D)):TE:=λj H Q=>∃e i g,RC K e H j i/\f i=bQ g/\
 ∀a h d b,Ext e H b d->H a=dj->b a=dj->d a=bQ (.lst h)->ej K b g h->Q (.ref a) d
noncomputable def tT(K:GI)(f:CO Bool):TT:=λh H Q=>∃e g b,RC K e H h g/\f g=bQ b/\∀d a,Ext e H a d->Q b d
noncomputable def tA(K:GI)(f:CO (List D)):TA:=λi H Q=>∃d h e,RC K d H i h/\f h=bQ e/\∀g b a,Ext d H a b->ej K a e g->Q g b
abbrev PV(X:Cx)(e:eA)(f:CO D):Prop:=PE X e (tV X.K f)
abbrev PQ(X:Cx)(e:eA)(f:CO (Sk×List D)):Prop:=PE X e (tQ X.K f)
abbrev PO(X:Cx)(e:eA)(f:CO (List D)):Prop:=PE X e (tO X.K f)
abbrev l7(X:Cx)(e:eA)(f:CO Bool):Prop:=PT X e (tT X.K f)
abbrev Dj(X:Cx)(e:eA)(f:CO Bool):Prop:=PW X e (tT X.K f)
abbrev A2(X:Cx)(es:List eA)(f:CO (List D)):Prop:=PA X es (tA X.K f)
theorem qf(h:PE X e t)(i : ∀C H Q,t' C H Q->t C H Q):PE X e t':=λa s C H Q I q=>h a s C H Q I<|i C H Q q
theorem YE(h:PT X e t)(i : ∀C H Q,t' C H Q->t C H Q):PT X e t':=λa s C H Q I q=>h a s C H Q I<|i C H Q q
theorem tK(h:PW X e t)(i : ∀C H Q,t' C H Q->t C H Q):PW X e t':=λz a s C H Q I q=>h z a s C H Q I<|i C H Q q
theorem uy(h:PA X es t)(i : ∀C H Q,t' C H Q->t C H Q):PA X es t':=λpos a s C H Q I q=>h pos a s C H Q I<|i C H Q q
theorem x9{X:Cx}{st:i5}{t t':TS}(h:PS X st t)(i : ∀D C H,t' D C H->t D C H):PS X st t':=λa s C H D I q=>h a s C H D I<|i D C H q
theorem mq{X:Cx}{st:List i5}{t t':TS}(h:o9 X st t)(i : ∀D C H,t' D C H->t D C H):o9 X st t':=λa s C H D I q=>h a s C H D I<|i D C H q
theorem KC(h:PI X tg e t)(i : ∀C H R,t' C H R->t C H R):PI X tg e t':=λa s C H R I q=>h a s C H R I<|i C H R q
theorem kL(h:n<=lim):n<=fA:=Ia h ⋯
section
variable{X:Cx}{e a b c:eA}{pos:g8}
theorem PV.q(h:PV X e f):PQ X e (zA f):=qf h λt H Q s=>by
 obtain⟨p,o,k,i,rc,I,q⟩:=s;unfold zA at I;cases e1:f o with
 | none=>rw[e1]at I;cases I
 | some d=>
  rw[e1]at I;refine⟨p,o,d,rc,e1,λv n b ext r=>?_⟩;cases d with
  | tup l=>
   obtain⟨O,U⟩:k = .T/\i=l:=by simp[z7]at I;exact⟨I.1.symm,I.2.symm⟩
   subst O U;obtain⟨a,g,rfl,j,m⟩:=(show ∃a g,v = .ref a/\g5 X.K b a g/\ej X.K b i g from r);exact q a g n b ext (mr ext.sub j) (λ_=>j) m
  | lst l=>
   obtain⟨O,U⟩:k = .L/\i=l:=by simp[z7]at I;exact⟨I.1.symm,I.2.symm⟩
   subst O U;obtain⟨a,g,rfl,j,m⟩:=(show ∃a g,v = .ref a/\f9 X.K b a g/\ej X.K b i g from r);exact q a g n b ext (ext.sub.seq j) (λz=>nomatch z) m
  | _=>simp[z7]at I
theorem PO.v(h:PO X e f):PV X e (jU f):=qf h λp H Q U=>by
 obtain⟨j,i,d,rc,z,q⟩:=U;unfold jU at z;cases e1:f i with
 | none=>rw[e1]at z;cases z
 | some b=>
  rw[e1]at z;cases z;refine⟨j,i,b,rc,e1,λa n o k ext l g m r=>?_⟩;exact q _ _ _ (ext.show l g m rc.sub) (show ∃I O,V.ref a = .ref I/\f9 X.K _ I O/\ej X.K _ b O from⟨a,n,rfl,f9.of zO,r.mono<|jd g _⟩)
theorem PO.q(h:PO X e f):PQ X e (jP f):=qf h λp H Q O=>by
 obtain⟨i,d,k,l,rc,I,q⟩:=O;unfold jP at I;cases e1:f d with
 | none=>rw[e1]at I;cases I
 | some m=>
  rw[e1]at I;cases I;exact⟨i,d,_,rc,e1,λa j g b ext n o U r=>q a j g b ext (f9.of U) (λz=>nomatch z) r⟩
theorem tL(i:Nat)(h:PE X e (rJ i)):PV X e (zc i):=qf h λm H Q I=>by
 obtain⟨b,j,d,rc,z,q⟩:=I;unfold zc at z;cases e1:j[i]? with
 | none=>rw[e1]at z;cases z
 | some c=>
  rw[e1]at z;cases c with
  | val k=>
   cases z;obtain⟨v,f,g⟩:=rc.val i d e1;exact⟨v,f,q v H b (Ext.refl rc.sub) g⟩
  | no=>cases z
  | own l=>cases z
  | nest a=>cases z
theorem uc(i:Nat)(h:PE X e (rJ i)):PQ X e (zg i):=qf h λu H Q s=>by
 obtain⟨f,t,k,g,rc,I,q⟩:=s;unfold zg at I;cases e1:t[i]? with
 | none=>rw[e1]at I;cases I
 | some c=>
  rw[e1]at I;cases c with
  | no=>cases I
  | nest o=>cases I
  | own j=>
   cases I;obtain⟨a,b,m,n,p,r⟩:=rc.own i g e1;exact⟨_,m,q a b H f (Ext.refl rc.sub) (f9.of p) (λz=>nomatch z) r⟩
  | val d=>
   obtain⟨v,m,n⟩:=rc.val i d e1;refine⟨v,m,?_⟩;cases d with
   | tup j=>
    obtain⟨U,l⟩:k = .T/\g=j:=by simp[vh,z7]at I;exact⟨I.1.symm,I.2.symm⟩
    subst U l;obtain⟨a,b,rfl,O,g2⟩:=(show ∃a b,v = .ref a/\g5 X.K f a b/\ej X.K f g b from n);exact q a b H f (Ext.refl rc.sub) (mr rc.sub O) (λ_=>O) g2
   | lst j=>
    obtain⟨U,l⟩:k = .L/\g=j:=by simp[vh,z7]at I;exact⟨I.1.symm,I.2.symm⟩
    subst U l;obtain⟨a,b,rfl,O,g2⟩:=(show ∃a b,v = .ref a/\f9 X.K f a b/\ej X.K f g b from n);exact q a b H f (Ext.refl rc.sub) (rc.sub.seq O) (λz=>nomatch z) g2
   | _=>simp[vh,z7]at I
theorem Zn(h:PE X e (tC v))(r : ∀H,Rep X.K H d v):PV X e (zu d):=qf h λg H Q z=>by obtain⟨a,f,b,rc,I,q⟩:=z;cases I;exact q v H a (Ext.refl rc.sub)<|r a
theorem zh:PV X (.Constant (.int i) j pos) (zu<|.int i):=Zn uu λ_=>(show V.int i = .int i from rfl)
theorem k9:PV X (.Constant (.bool x) j pos) (zu<|.bl x):=Zn Cf λ_=>(show V.bl x = .bl x from rfl)
theorem Ku:PV X (.Constant .none j pos) (zu .eX):=Zn uo λ_=>(show V.eX = .eX from rfl)
theorem xD:PV X (.Constant (.str x) j pos) (zu<|.str x):=Zn uj λ_=>(show V.str x = .str x from rfl)
noncomputable def m7(K:GI)(r:R2)(F:D->D->Option D):Prop:=∀b H x y f z d Q,gv b H->Rep K b f x->Rep K b z y->F f z=bQ d->(∀v e a,Ext b H a e->Rep K a d v->Q v e)->r x y H Q
theorem ze(h:o.bind f=bQ y) : ∃x,o=bQ x/\f x=bQ y:=by
 cases o with
 | none=>cases h
 | some x=>exact⟨x,rfl,h⟩
theorem YJ{K:GI}{r:R2}{F:D->D->Option D}{J L:CO D}(hs:m7 K r F) : ∀C H Q,tV K (zH F J L) C H Q->E3 r (tV K J) (tV K L) C H Q:=λC H Q O=>by obtain⟨f,b,d,rc,z,q⟩:=O;obtain⟨x,j,z⟩:=ze z;obtain⟨y,U,z⟩:=ze z;refine⟨f,b,x,rc,j,λn p h x1 k=>⟨h,b,y,rc.ext x1,U,λo g i I l=>?_⟩⟩;exact hs i g n o x y d Q I.sub (k.mono I.s0) l z λv e a x3 m=>q v e a (x1.trans<|I.trans x3) m
theorem J5(z:iQ X (sm op) r)(hs:m7 X.K r F)(C:PV X a fa)(I:PV X b fb):PV X (.BinOp a op b pos) (zH F fa fb):=
 qf (oQ z C I) (YJ hs)
theorem mi(z:iQ X (n3 op) r)(hs:m7 X.K r F)(C:PV X a fa)(I:PV X b fb)(J:vu op b=ed):PV X (.Compare a [op] [b] pos) (zH F fa fb):=
 qf (oS z C I J) (YJ hs)
theorem Zy{d:D}{b:Bool}(h:q5 d=bQ b):d = .bl b:=by cases d<;>simp[q5]at h;rw[h]
theorem ZW(I:iQ X (n3 op) r)(hs:m7 X.K r F)(C:PV X a fa)(O:PV X b fb)(J:vu op b=ed):l7 X (.Compare a [op] [b] pos) (sB<|zH F fa fb):=
 YE (bN I C O J) λj H Q U=>by obtain⟨g,i,k,rc,z,q⟩:=U;obtain⟨d,h,z⟩:=ze z;refine YJ hs j H _ ⟨g,i,d,rc,h,λv f e x r=>?_⟩;rw[Zy z]at r;exact⟨k,r,q f e x⟩
theorem jJ{f:CO D}(h:PV X e f)(O : ∀I,Ds e X.env I=(do let v <- I;Dx e.pos;rp [v] (E5 v)):=by intro _;rfl):l7 X e (sB f):=
 YE (tX h O) λl H Q U=>by obtain⟨g,j,k,rc,z,q⟩:=U;obtain⟨d,i,z⟩:=ze z;refine⟨g,j,d,rc,i,λv b a x r=>?_⟩;rw[Zy z]at r;exact⟨k,r,q b a x⟩
theorem VL(h:l7 X a f):Dj X (.BoolOp .And [a] pos) f:=ot h
theorem y6(h:l7 X a f):Dj X (.BoolOp .Or [a] pos) f:=tI h
theorem bC{f g:CO Bool}{kh:List eA}(C:l7 X a f)(I:Dj X (.BoolOp .And (b::kh) pos) g):Dj X (.BoolOp .And (a::b::kh) pos) (oi f g):=
 tK (tJ C I) λn H Q O=>by
  obtain⟨i,e,k,rc,z,q⟩:=O;obtain⟨c,l,z⟩:=ze z;refine⟨i,e,c,rc,l,λh d x=>?_⟩;cases c with
  | true=>rw[RY rfl]at z ⊢;exact⟨d,e,k,rc.ext x,z,λj U m=>q j U<|x.trans m⟩
  | false=>rw[EQ Hr]at z ⊢;cases z;exact q h d x
theorem kY{f g:CO Bool}{kh:List eA}(C:l7 X a f)(I:Dj X (.BoolOp .Or (b::kh) pos) g):Dj X (.BoolOp .Or (a::b::kh) pos) (wN f g):=
 tK (BY C I) λn H Q O=>by
  obtain⟨i,e,k,rc,z,q⟩:=O;obtain⟨c,l,z⟩:=ze z;refine⟨i,e,c,rc,l,λh d x=>?_⟩;cases c with
  | true=>rw[RY rfl]at z ⊢;cases z;exact q h d x
  | false=>rw[EQ Hr]at z ⊢;exact⟨d,e,k,rc.ext x,z,λj U m=>q j U<|x.trans m⟩
theorem qo(C:l7 X a f):l7 X (.UnaryOp .Not a pos) (jY f):=
 YE (tY C) λh H Q I=>by
  obtain⟨g,d,k,rc,z,q⟩:=I;unfold jY at z;cases e1:f d with
  | none=>rw[e1]at z;cases z
  | some c=>rw[e1]at z;cases z;exact⟨g,d,c,rc,e1,λe b x=>q e b x⟩
theorem Xk(h:Dj X e f):l7 X e f:=h.pt
theorem bG(h:PV X a f):PV X (.BoolOp op [a] pos) f:=uk h
theorem bK{f g:CO D}{kh:List eA}(C:PV X a f)(I:PV X (.BoolOp .And (b::kh) pos) g):PV X (.BoolOp .And (a::b::kh) pos) (aw f g):=
 qf (uv C I) λt H Q O=>by
  obtain⟨k,i,d,rc,z,q⟩:=O;obtain⟨c,h,z⟩:=ze z;obtain⟨U,n,h⟩:=ze h;refine⟨k,i,U,rc,n,λv j e x r=>?_⟩;rw[Zy h]at r;refine⟨c,r,?_⟩;cases c with
  | true=>rw[RY rfl]at z ⊢;exact⟨e,i,d,rc.ext x,z,λp l m s o=>q p l m (x.trans s) o⟩
  | false=>rw[EQ Hr]at z ⊢;cases z;exact q _ j e x (show V.bl ed = .bl ed from rfl)
theorem tM(C:PV X a f):PV X (.UnaryOp .Not a pos) (AI f):=
 qf (um C) λi H Q O=>by
  obtain⟨h,e,d,rc,z,q⟩:=O;unfold AI at z;cases e1:f e with
  | none=>rw[e1]at z;cases z
  | some I=>
   rw[e1]at z;refine⟨h,e,I,rc,e1,λv g b x r=>?_⟩;cases I with
   | bl c=>cases z;exact⟨c,r,q _ g b x<|show V.bl (!c) = .bl (!c)from rfl⟩
   | _=>cases z
theorem xu(L:l7 X c k)(C:PV X a f)(J:PV X b g):PV X (.IfExp c a b pos) (bo k f g):=
 qf (gU L C J) λp H Q n=>by
  obtain⟨l,j,d,rc,z,q⟩:=n;obtain⟨t,m,z⟩:=ze z;refine⟨l,j,t,rc,m,λo e x=>?_⟩;cases t with
  | true=>rw[RY rfl]at z ⊢;exact⟨e,j,d,rc.ext x,z,λI h O U i=>q I h O (x.trans U) i⟩
  | false=>rw[EQ Hr]at z ⊢;exact⟨e,j,d,rc.ext x,z,λI h O U i=>q I h O (x.trans U) i⟩
theorem oU:A2 X [] zF:=uy qy λe H Q z=>by obtain⟨a,d,b,rc,I,q⟩:=z;cases I;exact q [] H a (Ext.refl rc.sub) ej.nil
theorem hJ(C:PV X e f)(U:A2 X es g)(hs:f7 (e::es) X.env=(ed,eL e X.env)::f7 es X.env:=by rfl):A2 X (e::es) (zb f g):=
 uy (jx C U hs) λs H Q k=>by
  obtain⟨b,a,p,rc,z,q⟩:=k;obtain⟨x,j,z⟩:=ze z;cases I:g a with
  | none=>rw[I]at z;cases z
  | some r=>
   rw[I]at z;cases z;exact⟨b,a,x,rc,j,λv o h x1 l=>⟨h,a,r,rc.ext x1,I,λn d i O m=>q (v::n) d i (x1.trans O)<|ej.cons (l.mono O.s0) m⟩⟩
theorem jI(h:A2 X es f):PV X (.Tuple es x1 pos) (qM f):=
 qf (ui h) λo H Q j=>by
  obtain⟨g,l,d,rc,z,q⟩:=j;obtain⟨b,i,z⟩:=ze z;by_cases I:b.length<=lim
  ·rw[RY I]at z;cases z
   refine⟨g,l,b,rc,i,λk m n x1 O=>⟨kL (by rw[O.length];exact I),λp U=>?_⟩⟩;exact q _ _ _ (x1.trans<|Ext.alloc x1.sub U _) (show ∃a e,V.ref p = .ref a/\g5 X.K _ a e/\ej X.K _ b e from⟨p,k,rfl,g5.of zO,O.mono<|jd (jt x1.sub U) _⟩)
  ·rw[EQ I]at z;cases z
theorem xF(h:A2 X es f):PO X (.List es pos) (qP f):=
 qf (uq h) λn H Q j=>by
  obtain⟨b,l,d,rc,I,q⟩:=j;obtain⟨g,i,I⟩:=ze I;by_cases U:g.length<=lim
  ·rw[RY U]at I;cases I
   refine⟨b,l,_,rc,i,λk m e x1 a=>⟨kL (by rw[a.length];exact U),λp O=>?_⟩⟩;exact q p k _ e (x1.trans<|Ext.hide x1.sub O _) (by
    cases z:H p with
    | none=>rfl
    | some o=>rw[x1.s1 p o z]at O;cases O) (jt x1.sub O) zO a
  ·rw[EQ U]at I;cases I
end
noncomputable def gD(C:List (Key×V))(ps:List (Key×V)):List (Key×V):=ps.foldl (λacc z=>ay acc z.1 z.2) C
theorem yu:entryFor table "dict.update.loop" = bQ n6.«dict.update.loop» :=entryFor_of_tree (by kernel_rfl)
theorem yi(args:Args):(Code.builtin "dict.update.loop" args).quiet=di:=Code.quiet_builtin _ ⋯
noncomputable def Gz(i:Nat)(f:CO D)(γ:Ctx):Option D:=(q8 γ[i]?).bind λa=>(f<|γ.set i<|.val<|.lst a).bind λd=>if CA d=di then bQ d else dj
noncomputable def FR(i:Nat)(f:CO Bool)(γ:Ctx):Option Bool:=(q8 γ[i]?).bind λa=>f<|γ.set i<|.val<|.lst a
noncomputable def EG(i:Nat)(γ:Ctx):Option Fl:=(q8 γ[i]?).map λ_=> .next (γ.set i<|.own [])
noncomputable def kO(ds:List D):List D:=(GH ds.length).map λ(i:Nat)=>D.tup [.int i,ds[i]?.getD .eX]
noncomputable def gk(f:CO D)(γ:Ctx):Option (List D):=(f γ).bind λd=>match d with
 | .tup a=>bQ (kO a)
 | _=>dj
noncomputable def XE:List D->Option (List Int)
 | []=>bQ []
 | .int i::r=>(XE r).map λl=>i::l
 | _::_=>dj
noncomputable def Gv(f:CO D)(g:CO (Sk×List D))(γ:Ctx):Option D:=(f γ).bind λd=>(g γ).bind λa=>(lp d).bind λi=>(XE a.2).map λl=> .bl (decide<|i∈l)
noncomputable def dq(k:Int):List Int->Option Nat
 | []=>dj
 | i::r=>if i=k then bQ 0 else (dq k r).map (· + 1)
noncomputable def Gw(f g:CO D)(γ:Ctx):Option D:=(f γ).bind λd=>((g γ).bind lp).bind λk=>match d with
 | .tup a=>(XE a).bind λl=>(dq k l).map λ(j:Nat)=>D.int (j:Int)
 | _=>dj
noncomputable def vf(T:Tg)(f:CO (List D))(γ:Ctx):List D->Option (List<|List D)
 | []=>bQ []
 | d::ds=>(xA T d γ).bind λa=>(f a).bind λe=>(vf T f γ ds).map λr=>e::r
noncomputable def VH(C:CO (List D))(T:Tg)(n:Nat)(I:List Nat)(f:CO (List D))(γ:Ctx):Option (List<|List D):=(C γ).bind λa=>if a.length<=lim then vf T f (z6 n I γ) a else dj
noncomputable def QF:Cell->Bool
 | .nest _=>di
 | _=>ed
noncomputable def gd(i:Nat)(f:CO (List<|List D)):CO Fl:=λb=>(f b).bind λa=>if b.any QF=ed then bQ (.next<|b.set i<|.nest a)else dj
noncomputable def vO:Option Cell->Option (List<|List D)
 | some (.nest rows)=>bQ rows
 | _=>dj
noncomputable def yh(γ:Ctx)(j i:Nat)(r:List D):Ctx:=(γ.set j .no).set i (.own r)
noncomputable def xT(j i:Nat)(g f:CO D)(γ:Ctx):List (List D)->Option (List<|List D)
 | []=>bQ []
 | r::rs=>(f<|yh γ j i r).bind λd=>((g<|yh γ j i r).bind lp).bind λk=>(hB r.length k).bind λm=>(xT j i g f γ rs).map λt=>r.set m d::t
noncomputable def bp(j i:Nat)(g f:CO D)(γ:Ctx):Option Fl:=(vO γ[j]?).bind λa=>if i=j\/γ.length<=i then dj else (xT j i g f γ a).map λz=> .next ((γ.set j<|.nest z).set i .no)
noncomputable def gj(i:Nat)(F:CO Fl)(γ:Ctx):Option Fl:=(q8 γ[i]?).bind λa=>F<|γ.set i<|.val<|.lst a
noncomputable def gi(i:Nat)(F:CO Fl)(γ:Ctx):Option Fl:=(vO γ[i]?).bind λa=>F<|γ.set i<|.val<|.lst<|a.map D.lst
noncomputable def EE(is:List Nat)(f:CO D)(γ:Ctx):Option Fl:=(f γ).bind λd=>match d with
 | .lst a=>if a.length=is.length then bQ (.next<|qO is a γ)else dj
 | _=>dj
noncomputable def Kh:List D->Option (List Str)
 | []=>bQ []
 | .str x::r=>(Kh r).map λl=>x::l
 | _::_=>dj
noncomputable def jV(x:Str):Bool:=decide<|x.length<=1000
noncomputable def og(f:CO D)(g:CO (Sk×List D))(γ:Ctx):Option D:=(f γ).bind λd=>(g γ).bind λa=>match d,a.1 with
 | .str sep,.L=>(Kh a.2).bind λl=>if l.length<=lim/\l.all jV=di/\jV sep=di then bQ (.str<|NW sep l)else dj
 | _,_=>dj
noncomputable def ye(f g:CO D)(γ:Ctx):Option D:=(f γ).bind λd=>((g γ).bind lp).bind λi=>match d with
 | .str z=>if jV z=di then (hB z.cps.toList.length i).bind λk=>z.cps.toList[k]?.map λc=> .str ⟨#[c]⟩else dj
 | _=>dj
noncomputable def k8(f:CO D)(γ:Ctx):Option D:=(f γ).bind λd=>match d with
 | .str z=>if jV z=di then bQ (.int z.length)else dj
 | _=>dj
noncomputable def FP(z O I U:Str)(f:CO D)(γ:Ctx):Option D:=(f γ).bind λd=>match d with
 | .str x=>if z=I then dj else if x=z then bQ (.str O)else if x=I then bQ (.str U)else dj
 | _=>dj
noncomputable def gh(f g:CO D)(γ:Ctx):Option D:=((f γ).bind lp).bind λi=>((g γ).bind lp).map λj=> .int (if j<i then j else i)
abbrev Xn:=Str×Option Int
noncomputable def E8:CO Xn:=λ_=>dj
noncomputable def rS(c:Str):CO Xn:=λ_=>bQ (c,dj)
noncomputable def E7(k:CO Bool)(G H:CO Xn):CO Xn:=λa=>(k a).bind λb=>if b=di then G a else H a
noncomputable def Fy(G:CO Xn)(F:CO Fl)(H:CO Xn):CO Xn:=λb=>match G b with
 | some c=>bQ c
 | none=>(F b).bind λz=>match z with
  | .next a=>H a
  | _=>dj
noncomputable def EH(n:Nat)(G:CO Xn)(ds:List D):Option Xn:=G<|ja n ds
noncomputable def Gg(c:Str):Str:=if c==("NoRoom" : Str)then "room" else "at"
noncomputable def Xf(f:CO D)(g:CO (Sk×List D)):CO D:=λb=>(f b).bind λd=>(g b).bind λa=>(lp d).bind λi=>(XE a.2).map λl=> .bl (!decide (i∈l))
end DL
namespace DL
open PySem L2
open PySem.W (KasT kas_sort)
noncomputable def aW(z:Str):List D:=z.cps.toList.map λc=>D.str ⟨#[c]⟩
noncomputable def sN(f:CO D)(γ:Ctx):Option (List D):=(f γ).bind λd=>match d with
 | .str z=>if jV z=di then bQ (aW z)else dj
 | _=>dj
noncomputable def sQ(f:CO D)(γ:Ctx):Option (List D):=(f γ).bind λd=>match d with
 | .str z=>if jV z=di then bQ (kO<|aW z)else dj
 | _=>dj
noncomputable def lZ(f:CO D)(γ:Ctx):Option (List D):=(f γ).bind λd=>match d with
 | .lst a=>bQ (kO a)
 | _=>dj
noncomputable def FN(f:CO D)(g:CO (Sk×List D))(γ:Ctx):Option D:=(f γ).bind λd=>(g γ).bind λa=>match d with
 | .str x=>(Kh a.2).map λl=> .bl (l.any λy=>y==x)
 | _=>dj
noncomputable def BU(f g:CO D)(γ:Ctx):Option D:=(f γ).bind λd=>(g γ).bind λe=>match d,e with
 | .str x,.str y=>if jV x=di/\jV y=di then bQ (.str<|x++y)else dj
 | _,_=>dj
noncomputable def Gs(f:CO D)(l h:CO (Option Int))(γ:Ctx):Option D:=(f γ).bind λd=>(l γ).bind λlo=>(h γ).bind λa=>match d with
 | .str z=>if jV z=di then bQ (.str<|Txt.slice z lo a)else dj
 | _=>dj
noncomputable def AK(f:CO (Sk×List D))(γ:Ctx):Option (List D):=(f γ).bind λa=>match a.1 with
 | .L=>if a.2.length<=lim then bQ a.2.reverse else dj
 | _=>dj
noncomputable def gZ:D->Option (Int×Int)
 | .tup [.int a,.int b]=>bQ (a,b)
 | _=>dj
noncomputable def wQ:List D->Option (List<|Int×Int)
 | []=>bQ []
 | d::r=>(gZ d).bind λp=>(wQ r).map λl=>p::l
noncomputable def yT(x y:Int×Int):Bool:=if x.1=y.1 then decide (x.2<y.2)else decide (x.1<y.1)
noncomputable def xt{C:Type}(lt:Nat->Nat->Bool):KasT C->C
 | .ret a=>a
 | .ask i j k=>xt lt<|k<|lt i j
noncomputable def jZ(ps:List (Int×Int)):List Nat:=if ps.length<2 then GH ps.length else (xt (λi j=>yT (ps.getD i (0,0))<|ps.getD j (0,0))<|kas_sort ps.length).toList
noncomputable def aR(ds:List D):Option (List D):=(wQ ds).bind λa=>if ds.length<64 then bQ ((jZ a).map λi=>ds.getD i .eX)else dj
noncomputable def bc(f:CO (Sk×List D))(γ:Ctx):Option (List D):=(f γ).bind λa=>match a.1 with
 | .L=>aR a.2
 | _=>dj
end DL
namespace DL
open PySem L2
noncomputable def bq(i:Nat)(f:CO (List D))(γ:Ctx):Option Fl:=(q8 γ[i]?).bind λa=>(f γ).bind λb=>if a.length+b.length<=lim then bQ (.next<|γ.set i<|.own<|a++b)else dj
noncomputable def sU(F G:List D->Option Res)(g:CO (List D))(γ:Ctx):Option (List D):=(g γ).bind λl=>match l with
 | [p,.str z,t,b]=>((if z=("r" : Str)then F else G) [p,t,b]).bind gy
 | _=>dj
noncomputable def JW:List D->Option (List Int)
 | []=>bQ []
 | .int i::r=>(JW r).map λl=>i::l
 | _::_=>dj
noncomputable def lj(ds C:List D):Option D:=match JW ds with
 | some a=>if ds.length=C.length/\a.Nodup/\ds.length<=lim then bQ (.lN ds C)else dj
 | none=>dj
noncomputable def Wg:List D->List D->Int->Option D
 | k::ks,v::vs,i=>match k with
  | .int j=>if j=i then bQ v else Wg ks vs i
  | _=>Wg ks vs i
 | _,_,_=>dj
open PySem.Spec PyProof.Rows
structure RS(K:GI)(E0 E H0 H:Hp)(σ:St)(γ:Ctx):Prop where
 rc:RC K H0 H σ γ
 ext:Ext E0 E H0 H
 fresh : ∀(i:Nat) ds a,γ[i]? = bQ (.own ds)->σ[i]? = bQ (bQ (.ref a))->E a=dj
 sX : ∀(i:Nat) rows a xs,γ[i]? = bQ (.nest rows)->σ[i]? = bQ (bQ (.ref a))->H a=bQ (.lst xs)->E a=dj/\∀b,V.ref b∈xs->E b=dj
noncomputable def Sat(K:GI)(E0 E:Hp)(D:Ends):Fl->Prop
 | .next f=>∀e H b,RS K E0 E b H e f->D.nx e H
 | .brk f=>∀e H b,RS K E0 E b H e f->D.bk e H
 | .cont f=>∀e H b,RS K E0 E b H e f->D.ct e H
 | .ret (.val d)=>∀v H b,Ext E0 E b H->Rep K b d v->D.rt v H
 | .ret (.own es)=>∀a g H b,Ext E0 E b H->E a=dj->b a=dj->H a=bQ (.lst g)->ej K b es g->D.rt (.ref a) H
noncomputable def tS(K:GI)(F:CO Fl):TS:=λD d H=>∃E0 E b a z,RS K E0 E b H d a/\F a=bQ z/\Sat K E0 E D z
abbrev k0(X:Cx)(st:i5)(F:CO Fl):Prop:=PS X st (tS X.K F)
abbrev eW(X:Cx)(R6:List i5)(F:CO Fl):Prop:=o9 X R6 (tS X.K F)
section
variable{K:GI}{E0 E H0 H u7 H':Hp}{σ:St}{γ:Ctx}
theorem RS.step(r:RS K E0 E H0 H σ γ)(e:Ext H0 H u7 H'):RS K E0 E u7 H' σ γ:=⟨r.rc.ext e,r.ext.trans e,r.fresh,λi b a g d f I=>by obtain⟨O,bs,z,g2,_⟩:=r.rc.m1.1 i b d;rw[f]at z;cases z;have:=e.s1 a _ g2.ha;rw[I]at this;cases this;exact r.sX i b a _ d f g2.ha⟩
theorem zD{C:Type}{l:List C}{i j:Nat}{x y:C}(h:(l.set i x)[j]? = bQ y):(j=i/\y=x/\i<l.length)\/(j≠i/\l[j]? = bQ y):=by
 by_cases e:i=j
 ·subst e
  by_cases z:i<l.length
  ·rw[Hf z]at h;cases h;exact .inl ⟨rfl,rfl,z⟩
  ·rw[List.set_eq_of_length_le ⋯]at h
   exact absurd (GU.mp h).1 z
 ·rw[GP e]at h;exact .inr ⟨Hu e,h⟩
theorem oe.we{i:Nat}{d:D}{v:V}(n:oe K H0 H σ γ):oe K H0 H (σ.set i<|some v) (γ.set i<|.val d):=
 ⟨λj b e=>by
  rcases zD e with⟨_,z,_⟩ | ⟨U,z⟩
  ·cases z
  ·obtain⟨a,bs,h,l,m⟩:=n.1 j b z
   refine⟨a,bs,by rw[GP (Hu U)];exact h,l,λk g c f I=>?_⟩;rcases zD f with⟨_,z,_⟩ | ⟨o,O⟩
   ·cases z
   ·rw[GP (Hu o)]at I;exact m k g c O I,
 λj k p r f I=>by
  rcases zD f with⟨_,z,_⟩ | ⟨_,O⟩
  ·cases z
  ·rcases zD I with⟨_,z,_⟩ | ⟨_,s⟩
   ·cases z
   ·exact n.2 j k p r O s⟩
theorem RC.we{i:Nat}{d:D}{v:V}(r:RC K H0 H σ γ)(h:Rep K H0 d v):RC K H0 H (σ.set i<|some v) (γ.set i<|.val d):=by
 refine⟨r.sub,by simp[r.len],λj l e=>?_,λj b e=>?_,λj k a b o m n U f=>?_,r.m1.we⟩
 ·rcases zD e with⟨rfl,z,g⟩ | ⟨I,z⟩
  ·cases z;exact⟨v,Hf (by rw[r.len];exact g),h⟩
  ·obtain⟨s,O,g2⟩:=r.val j l z
   exact⟨s,by rw[GP (Hu I)];exact O,g2⟩
 ·rcases zD e with⟨rfl,z,g⟩ | ⟨I,z⟩
  ·cases z
  ·obtain⟨a,t,O,g2⟩:=r.own j b z
   exact⟨a,t,by rw[GP (Hu I)];exact O,g2⟩
 ·rcases zD m with⟨_,z,_⟩ | ⟨I,u⟩
  ·cases z
  ·rcases zD n with⟨_,z,_⟩ | ⟨p,w⟩
   ·cases z
   ·rw[GP (Hu I)]at U
    rw[GP (Hu p)]at f;exact r.ne j k a b o u w U f
theorem RS.we{i:Nat}{d:D}{v:V}(r:RS K E0 E H0 H σ γ)(h:Rep K H0 d v):RS K E0 E H0 H (σ.set i<|some v) (γ.set i<|.val d):=
 ⟨r.rc.we h,r.ext,λj f a e I=>by
  rcases zD e with⟨_,z,_⟩ | ⟨O,z⟩
  ·cases z
  ·rw[GP (Hu O)]at I;exact r.fresh j f a z I,
 λj b a g e I U=>by
  rcases zD e with⟨_,z,_⟩ | ⟨O,z⟩
  ·cases z
  ·rw[GP (Hu O)]at I;exact r.sX j b a g z I U⟩
theorem kJ : ∀{z bs:List eg},z.map V.ref=bs.map V.ref->z=bs
 | [],[],_=>rfl
 | [],_::_,h=>by cases h
 | _::_,[],h=>by cases h
 | a::z,b::bs,h=>by rw[HC,HC]at h;injection h with h1 h2;injection h1 with h1;rw[h1,kJ h2]
theorem RS.R5{i:Nat}{L:List D}{a:eg}{xs:List V}{J G:Hp}(r:RS K E0 E J G σ γ)(e:Ext J G H0 H)(C:G a=dj)(S:H0 a=dj)(Y:H a=bQ (.lst xs))(Z:ej K H0 L xs) :
 RS K E0 E H0 H (σ.set i<|some (.ref a)) (γ.set i<|.own L):=by
 have rc:=r.rc.ext e;have no : ∀(j:Nat) f,γ[j]? = bQ (.own f)->¬σ[j]? = bQ (bQ (.ref a)):=λj f g z=>by obtain⟨b,w,I,g2,g3,_⟩:=r.rc.own j f g;rw[z]at I;cases I;rw[C]at g3;cases g3
 refine⟨⟨rc.sub,by simp[rc.len],λj x g=>?_,λj f g=>?_,λj k b f fs u h l m=>?_,⟨λj d g=>?_,λj k F M I g2=>?_⟩⟩,r.ext.trans e,λj f b I g2=>?_,λj d b xs I g2 g3=>?_⟩
 ·rcases zD g with⟨_,z,_⟩ | ⟨O,z⟩
  ·cases z
  ·obtain⟨N,I,g2⟩:=rc.val j x z
   exact⟨N,by rw[GP (Hu O)];exact I,g2⟩
 ·rcases zD g with⟨rfl,z,U⟩ | ⟨O,z⟩
  ·cases z;exact⟨a,xs,Hf (by rw[rc.len];exact U),S,Y,Z⟩
  ·obtain⟨b,w,I,g2⟩:=rc.own j f z
   exact⟨b,w,by rw[GP (Hu O)];exact I,g2⟩
 ·rcases zD u with⟨rfl,z,U⟩ | ⟨O,n⟩
  ·rcases zD h with⟨rfl,_,_⟩ | ⟨p,s⟩
   ·rfl
   ·rw[Hf (by rw[rc.len];exact U)]at l
    rw[GP (Hu p)]at m;cases l;exact absurd m<|no k fs s
  ·rcases zD h with⟨rfl,z,U⟩ | ⟨p,s⟩
   ·rw[Hf (by rw[rc.len];exact U)]at m
    rw[GP (Hu O)]at l;cases m;exact absurd l<|no j f n
   ·rw[GP (Hu O)]at l
    rw[GP (Hu p)]at m;exact rc.ne j k b f fs n s l m
 ·rcases zD g with⟨_,z,_⟩ | ⟨O,z⟩
  ·cases z
  ·obtain⟨b,bs,I,g2,g3⟩:=r.rc.m1.1 j d z
   obtain⟨P,t,f1,f2,A⟩:=rc.m1.1 j d z;rw[I]at f1;cases f1;have y:t.map V.ref=bs.map V.ref:=by have:=e.s1 b _ g2.ha;rw[f2.ha]at this;injection this with this;injection this
   have as:t=bs:=kJ y;subst as;refine⟨b,t,by rw[GP (Hu O)];exact I,f2,λk f c u h=>?_⟩;rcases zD u with⟨rfl,_,U⟩ | ⟨p,n⟩
   ·rw[Hf (by rw[rc.len];exact U)]at h;cases h
    intro B;obtain⟨_,Q,q⟩:=g2.at B;rw[C]at q;cases q
   ·rw[GP (Hu p)]at h;exact A k f c n h
 ·rcases zD I with⟨_,z,_⟩ | ⟨_,n⟩
  ·cases z
  ·rcases zD g2 with⟨_,z,_⟩ | ⟨_,s⟩
   ·cases z
   ·exact rc.m1.2 j k F M n s
 ·rcases zD I with⟨rfl,z,U⟩ | ⟨O,z⟩
  ·rw[Hf (by rw[rc.len];exact U)]at g2;cases g2
   cases q:E a with
   | none=>rfl
   | some o=>rw[r.ext.s1 a o q]at C;cases C
  ·rw[GP (Hu O)]at g2;exact r.fresh j f b z g2
 ·rcases zD I with⟨_,z,_⟩ | ⟨O,z⟩
  ·cases z
  ·rw[GP (Hu O)]at g2;exact(r.step e).sX j d b xs z g2 g3
theorem RS.rewrite{i:Nat}{ds J:List D}{a:eg}{xs ys:List V}(r:RS K E0 E H0 H σ γ)(C:γ[i]? = bQ (.own ds))(hs:σ[i]? = bQ (bQ (.ref a)))(L:ej K H0 J ys) :
 RS K E0 E H0 (upd H a<|.lst ys) σ (γ.set i<|.own J):=by
 obtain⟨M,as,g1,g2,g3,Q⟩:=r.rc.own i ds C;rw[hs]at g1;cases g1;have P:i<γ.length:=(GU.mp C).1;refine⟨⟨λb o q=>?_,by simp[r.rc.len],λj y g=>?_,λj fs g=>?_,λj k b fs gs e I m A=>?_,⟨λj d g=>?_,λj k F G e I=>?_⟩⟩,⟨r.ext.s0,λb o q=>?_,λb o q=>?_,r.ext.new⟩,λj fs b e I=>?_,λj d b t e I m=>?_⟩
 ·rw[zI (λz=>by rw[z,g2]at q;cases q)];exact r.rc.sub b o q
 ·rcases zD g with⟨_,z,_⟩ | ⟨n,z⟩
  ·cases z
  ·exact r.rc.val j y z
 ·rcases zD g with⟨rfl,z,R⟩ | ⟨n,z⟩
  ·cases z;exact⟨a,ys,hs,g2,zO,L⟩
  ·obtain⟨b,t,O,U,h,B⟩:=r.rc.own j fs z
   refine⟨b,t,O,U,?_,B⟩;rw[zI (λq=>n<|r.rc.ne j i a fs ds z C (by rw[O,q]) hs)];exact h
 ·have w : ∃f,γ[j]? = bQ (.own f):=by
   rcases zD e with⟨q,_,_⟩ | ⟨_,z⟩
   ·exact⟨ds,by rw[q];exact C⟩
   ·exact⟨fs,z⟩
  have x : ∃f,γ[k]? = bQ (.own f):=by
   rcases zD I with⟨q,_,_⟩ | ⟨_,z⟩
   ·exact⟨ds,by rw[q];exact C⟩
   ·exact⟨gs,z⟩
  obtain⟨O,l⟩:=w;obtain⟨U,s⟩:=x;exact r.rc.ne j k b O U l s m A
 ·rcases zD g with⟨_,z,_⟩ | ⟨n,z⟩
  ·cases z
  ·obtain⟨b,bs,O,U,h⟩:=r.rc.m1.1 j d z
   have u:=h i ds a C hs;refine⟨b,bs,O,U.move (gv.refl _) (λc p=>(U.at p).1)<|λc p=>zI λq=>u<|q ▸ p,λk fs c e I=>?_⟩;rcases zD e with⟨q,_,_⟩ | ⟨_,l⟩
   ·rw[q,hs]at I;cases I;exact u
   ·exact h k fs c l I
 ·rcases zD e with⟨_,z,_⟩ | ⟨_,l⟩
  ·cases z
  ·rcases zD I with⟨_,z,_⟩ | ⟨_,s⟩
   ·cases z
   ·exact r.rc.m1.2 j k F G l s
 ·rw[zI (λz=>by rw[z,r.fresh i ds a C hs]at q;cases q)];exact r.ext.s1 b o q
 ·rw[zI (λz=>by rw[z,g2]at q;cases q)];exact r.ext.sub b o q
 ·rcases zD e with⟨q,_,_⟩ | ⟨_,z⟩
  ·rw[q]at I;exact r.fresh i ds b C I
  ·exact r.fresh j fs b z I
 ·rcases zD e with⟨_,z,_⟩ | ⟨n,z⟩
  ·cases z
  ·obtain⟨N,bs,O,U,h⟩:=r.rc.m1.1 j d z
   rw[I]at O;cases O;rw[zI (show b≠a from λq=>h i ds a C hs<|by rw[q];exact Ha)]at m;exact r.sX j d b t z I m
end
section
variable{X:Cx}{e a b c:eA}{pos:g8}{st:i5}{kh:List i5}
theorem zZ:eW X [] jT:=mq oB λD b H z=>by obtain⟨E0,E,a,e,d,I,O,U⟩:=z;cases O;exact U b H a I
theorem zf{F G:CO Fl}(C:k0 X st F)(J:eW X kh G):eW X (st::kh) (zP F G):=mq (gI C J) λD l H U=>by
 obtain⟨E0,E,d,i,g,h,z,I⟩:=U;obtain⟨O,f,z⟩:=ze z;refine⟨E0,E,d,i,O,h,f,?_⟩;cases O with
 | next a=>exact λj k b e=>⟨E0,E,b,a,g,e,z,I⟩
 | brk a=>cases z;exact I
 | cont a=>cases z;exact I
 | ret r=>cases z;cases r<;>exact I
theorem zm(C:k0 X st F):eW X [st] F:=bO C
theorem zC(h:o.map f=bQ y) : ∃x,o=bQ x/\f x=y:=by
 cases o with
 | none=>cases h
 | some x=>exact⟨x,rfl,by simpa using h⟩
theorem zG{f:CO D}(h:PV X e f):k0 X (.Return (bQ e) pos) (jK f):=x9 (bP h) λD l H O=>by obtain⟨E0,E,g,j,k,I,z,U⟩:=O;obtain⟨d,i,z⟩:=zC z;subst z;exact⟨g,j,d,I.rc,i,λv b a x r=>U v b a (I.ext.trans x) r⟩
theorem qR{f:CO (List D)}(h:PO X e f):k0 X (.Return (bQ e) pos) (yZ f):=x9 (bP h) λD t H O=>by
 obtain⟨E0,E,i,p,s,z,I,U⟩:=O;obtain⟨j,k,I⟩:=zC I;subst I;refine⟨i,p,j,z.rc,k,λa n g b x d l m r=>U a n g b (z.ext.trans x) ?_ l m r⟩;cases q:E a with
 | none=>rfl
 | some o=>rw[z.ext.s1 a o q]at d;cases d
theorem vw(i:Nat)(h:PE X e (rJ i)):k0 X (.Return (bQ e) pos) (JP i):=x9 (bP h) λD s H U=>by
 obtain⟨E0,E,j,p,r,I,z,O⟩:=U;unfold JP at z;cases b:p[i]? with
 | none=>rw[b]at z;cases z
 | some c=>
  rw[b]at z;cases c with
  | no=>cases z
  | val d=>
   cases z;obtain⟨v,f,g⟩:=I.rc.val i d b;exact⟨v,f,O v H j I.ext g⟩
  | nest l=>cases z
  | own k=>
   cases z;obtain⟨a,o,f,g,m,n⟩:=I.rc.own i k b;exact⟨_,f,O a o H j I.ext (I.fresh i k a b f) g m n⟩
theorem Ky:k0 X (.Continue pos) oh:=x9 YG λD b H ⟨E0,E,a,d,U,z,I,O⟩=>by cases I;exact O b H a z
theorem Kx:k0 X st Kp:=x9 gM λD d H ⟨E0,E,a,b,I,O,z,U⟩=>by cases z
theorem jX{k:CO Bool}{F G:CO Fl}{x y:List i5}(L:l7 X c k)(C:eW X x F)(J:eW X y G):k0 X (.If c x y pos) (h6 k F G):=x9 (Cc L C J) λD h H f=>by
 obtain⟨E0,E,d,b,O,I,z,U⟩:=f;obtain⟨t,e,z⟩:=ze z;refine⟨d,b,t,I.rc,e,λg a x=>?_⟩;cases t with
 | true=>rw[RY rfl]at z ⊢;exact⟨E0,E,a,b,O,I.step x,z,U⟩
 | false=>rw[EQ Hr]at z ⊢;exact⟨E0,E,a,b,O,I.step x,z,U⟩
theorem oC(i:Nat){f:CO D}(h:PS X st (Wz (tV X.K f)<|yq i)):k0 X st (jD i f):=x9 h λD l H O=>by obtain⟨E0,E,b,g,k,I,z,U⟩:=O;obtain⟨d,e,z⟩:=zC z;subst z;exact⟨b,g,d,I.rc,e,λv j a x r=>U _ _ a<|(I.step x).we r⟩
theorem VP(i:Nat){f:CO (List D)}(h:PS X st (Wz (tO X.K f)<|yq i)):k0 X st (xn i f):=x9 h λD s H O=>by obtain⟨E0,E,d,m,o,I,z,U⟩:=O;obtain⟨e,g,z⟩:=zC z;subst z;exact⟨d,m,e,I.rc,g,λa p n b x j k l r=>U _ _ b<|I.R5 x j k l r⟩
theorem xW(h:q8 o=bQ ds):o=bQ (.own ds):=by
 cases o with
 | none=>cases h
 | some c=>cases c<;>simp[q8]at h;rw[h]
theorem WL(i:Nat){f:CO D}(h:PE X e (Py X.K "list" bB (rJ i) (sy (tV X.K f) EC)))(hs:wh e dj pos.line X.env=pure ed:=by rfl):k0 X (.Expr e pos) (qi i f):=
 x9 (YF h hs) λD B H t=>by
  obtain⟨E0,E,m,u,y,I,z,n⟩:=t;obtain⟨j,b,z⟩:=ze z;obtain⟨d,s,z⟩:=ze z;have b:=xW b;by_cases O:j.length<lim
  ·rw[RY O]at z;cases z
   obtain⟨a,xs,k,A,U,l⟩:=I.rc.own i j b;refine⟨_,k,.inl ⟨rfl,_,f9.of U⟩,m,u,d,I.rc,s,λv w g x r=>?_⟩;have o:=I.step x;have p:=x.s1 _ _ U;refine⟨a,xs,v,rfl,rfl,p,?_,?_⟩
   ·exact Hm (by rw[l.length];exact O)<|kL<|GQ _
   ·exact n _ _ g<|o.rewrite (xs:=xs) b k<|(l.mono x.s0).append (ej.cons r ej.nil)
  ·rw[EQ O]at z;cases z
end
noncomputable def Gp(K:GI)(H0 H:Hp)(Q:VK):Res->Prop
 | .val d=>∀v e b,Ext H0 H b e->Rep K b d v->Q v e
 | .own g=>∀a f e b,Ext H0 H b e->H a=dj->b a=dj->e a=bQ (.lst f)->ej K b g f->Q (.ref a) e
noncomputable def p8(K:GI)(n:Nat)(F:List D->Option Res):Sp:=λd H Q _=>∃a b r,gv a H/\ej K a b d/\b.length=n/\F b=bQ r/\Gp K a H Q r
theorem p8.len{K:GI}{n:Nat}{F:List D->Option Res}{ps:List Str}(C:ps.length=n) : ∀vs H Q E,p8 K n F vs H Q E->vs.length=ps.length:=λvs H Q E h=>by obtain⟨d,e,r,_,a,b,_⟩:=h;rw[a.length,b,C]
section
variable{P:il}{w:hH}{K:GI}{mg:RJ}{base:fy}
theorem gw(s:gv H0 H)(h:ej K H0 ds vs)(C:ds.length<=N.length):RS K H0 H H0 H (w4 N vs) (ja N.length ds):=by
 have z:=h.length;refine⟨⟨s,by simp[L2.w4,ja,z],λi d e=>?_,λi g e=>?_,λi j a g fs e _ _ _=>?_,oe.DN λi f e=>?_⟩,Ext.refl s,λi g a e _=>?_,λi f a l e _ _=>?_⟩
 all_goals unfold ja at e
 ·by_cases b:i<ds.length
  ·rw[HR (by simpa using b),Hd]at e
   cases e1:ds[i]? with
   | none=>rw[e1]at e;cases e
   | some k=>
    rw[e1]at e;cases e;obtain⟨x,I,g2⟩:=h.get e1;refine⟨x,?_,g2⟩;unfold L2.w4;rw[HR (by simp;omega),Hd,I];rfl
  ·rw[HH (by simpa using b),LW]at e
   split at e<;>cases e
 all_goals
  by_cases b:i<ds.length
  ·rw[HR (by simpa using b),Hd]at e
   cases e1:ds[i]? with
   | none=>rw[e1]at e;cases e
   | some k=>rw[e1]at e;cases e
  ·rw[HH (by simpa using b),LW]at e
   split at e<;>cases e
theorem Ad{x qual:Str}{st:i5}{f:eg}{J:o5}{N ps:List Str}{k:Nat}{F:CO Fl}(U:L2.Dh K x qual st f J)(S:DV N ps (jz st))
 (L : ∀(C:eh) (A:l6) (outer:List m5) (s:el) (H:Hp) (E:XK),ml k (A.deeper<|envOfC qual (jz st) s.heap.objs.size f C)->eW (pR o8 P w K mg base N qual (jz st) f C A outer s H E).D9 (kQ st) F) :
 o4 P w K mg base o8 (k+1) f J ps (p8 K ps.length<|jf N.length F):=by
 refine U.ok S (p8.len rfl)<|λC A outer s H B Q E m h=>⟨_,L C A outer s H E m,?_⟩;obtain⟨b,g,r,o,j,u,l,I⟩:=h;obtain⟨O,i,z⟩:=ze l;have t:ps.length<=N.length:=by have:=congrArg List.length S.pre;rw[Mk]at this;omega
 refine⟨b,H,b,ja N.length g,O,gw o j ⋯,i,?_⟩;cases O with
 | ret y=>cases z;cases r<;>exact I
 | next d=>cases z;exact λp e a n=>I .eX e a n.ext (show V.eX = .eX from rfl)
 | brk d=>cases z
 | cont d=>cases z
end
section
variable{X:Cx}{es:List eA}{pos p:g8}{k:Nat}{f:eg}{fd:o5}{ps:List Str}{x:Str}{F:List D->Option Res}{g:CO (List D)}
theorem ou{A0:List eA}(G:o4 X.prog X.w X.K X.mg X.base o8 k f fd ps (p8 X.K ps.length F))(C:A2 X es g)(L : ∀γ ds,g γ=bQ ds->ds.length=ps.length)
 (J : ∀{t:TA},PA X es t->PE X (.Call (.Name x p) es [] pos) (nK (p8 X.K ps.length F) [] E0 t)):PV X (.Call (.Name x p) es [] pos) (zE F g):=
 qf (J C) λM H Q u=>by
  obtain⟨l,γ,d,rc,z,q⟩:=u;obtain⟨ds,i,z⟩:=ze z;obtain⟨r,n,z⟩:=zC z;refine⟨l,γ,ds,rc,i,λE B m x1 y=>⟨m,ds,r,x1.sub,by simpa using y,L γ ds i,n,?_⟩⟩;subst z;cases r with
  | val d=>exact λv e b I h=>q v e b (x1.trans I) h
  | own fs=>
   refine λa A e b I o j s h=>q _ e _ (x1.trans<|I.show o j s x1.sub) ?_;exact(show ∃O U,V.ref a = .ref O/\f9 X.K _ O U/\ej X.K _ fs U from⟨a,A,rfl,f9.of zO,h.mono<|jd j _⟩)
theorem oM(G:o4 X.prog X.w X.K X.mg X.base o8 k f fd ps (p8 X.K ps.length F))(C:A2 X es g)(O : ∀γ ds,g γ=bQ ds->ds.length=ps.length)
 (U : ∀{t:TA},PA X es t->PE X (.Call (.Name x p) es [] pos) (nK (p8 X.K ps.length F) [] E0 t)):PO X (.Call (.Name x p) es [] pos) (jl F g):=
 qf (U C) λM H Q u=>by
  obtain⟨j,γ,fs,rc,I,q⟩:=u;obtain⟨ds,e,I⟩:=ze I;obtain⟨r,m,I⟩:=ze I;refine⟨j,γ,ds,rc,e,λL J l x1 y=>⟨l,ds,r,x1.sub,by simpa using y,O γ ds e,m,?_⟩⟩;cases r with
  | val d=>cases I
  | own gs=>
   cases I;exact λa E i b B h n s A=>q a E i b (x1.trans B) (by
    cases z:H a with
    | none=>rfl
    | some o=>rw[x1.s1 a o z]at h;cases h) n s A
end
structure Walk(K:GI)(H0 Hs:Hp)(J:It)(ds:List D):Prop where
 go : ∀i H1,gv Hs H1->i<ds.length->J.go i H1
 stop : ∀H1,gv Hs H1->J.stop ds.length H1
 xg : ∀i H1 x OU,gv Hs H1->i<ds.length->J.xg i H1 x OU->∃d,ds[i]? = bQ d/\∀G0,gv H0 G0->gv G0 H1->∃OT,Ext G0 H1 OT OU/\Rep K OT d x
theorem Walk.weak{K:GI}{H0 C z:Hp}{J:It}{ds:List D}(w:Walk K H0 C J ds)(s:gv C z):Walk K H0 z J ds:=
 ⟨λi a h=>w.go i a<|s.trans h,λa h=>w.stop a<|s.trans h,λi a x b h=>w.xg i a x b<|s.trans h⟩
theorem QV{k:Sk}{K:GI}{H0 C:Hp}{a:eg}{xs:List V}{ds:List D}(h:l0 k K C a xs)(r:ej K H0 ds xs):Walk K H0 C (OV k K a) ds:=by
 have O:=r.length;refine⟨λi b s n=>?_,λb s=>?_,λi b x f s n y=>?_⟩
 ·have g:i<xs.length:=by omega
  cases k with
  | L=>exact⟨xs,xs[i],s.seq h,GL g⟩
  | T=>exact⟨xs,xs[i],mr s h,GL g⟩
 ·cases k with
  | L=>exact⟨xs,s.seq h,by omega⟩
  | T=>exact⟨xs,mr s h,by omega⟩
 ·have e:f=b/\xs[i]? = bQ x:=by
   cases k with
   | L=>exact⟨y.1,y.2 xs<|s.seq h⟩
   | T=>exact⟨y.1,y.2 xs<|mr s h⟩
  obtain⟨l,z⟩:=e;subst l;obtain⟨d,m,I⟩:=r.Dq z;exact⟨d,m,λj o p=>⟨j,Ext.refl p,I.mono o⟩⟩
theorem v7(lo:Int)(n:Nat):(yR lo n).length=n:=by simp[yR]
theorem J0{K:GI}{H0 C:Hp}(lo:Int)(n:Nat):Walk K H0 C (B8 lo n) (yR lo n):=by
 refine⟨λi b s a=>?_,λb s=>?_,λi b x e s a y=>?_⟩
 ·rw[v7]at a;exact a
 ·rw[v7];exact GQ _
 ·rw[v7]at a
  obtain⟨f,z⟩:=y;subst f z;exact⟨.int<|lo+i,by simp[yR,a],λd h g=>⟨d,Ext.refl g,(show V.int (lo+i) = .int (lo+i)from rfl)⟩⟩
theorem fI{I O:Sk}{K:GI}{H0 J:Hp}{a b:eg}{xs ys:List V}{ds C:List D}(L:l0 I K J a xs)(U:ej K H0 ds xs)(S:l0 O K J b ys)(Y:ej K H0 C ys) :
 Walk K H0 J (M5 I O K a b) (JK ds C):=by
 have F:=U.length;have G:=Y.length;have E:(JK ds C).length=min ds.length C.length:=by simp[JK]
 refine⟨λi f s A=>?_,λf s=>?_,λi f x l s A y=>?_⟩
 ·exact⟨xs,ys,Ko s L,Ko s S,by omega,by omega⟩
 ·refine⟨xs,ys,Ko s L,Ko s S,?_⟩
  rw[E];omega
 ·obtain⟨p,u,v,o,z,r,g1,g2⟩:=y
  obtain⟨d,w,B⟩:=U.Dq<|g1 xs<|Ko s L;obtain⟨c,t,m⟩:=Y.Dq<|g2 ys<|Ko s S;refine⟨.tup [d,c],?_,λk j e=>⟨upd k p<|.tup [u,v],?_,?_⟩⟩
  ·have n:(ds.zip C)[i]? = bQ (d,c):=List.getElem?_zip_eq_some.mpr ⟨w,t⟩
   simp[JK,n]
  ·rw[r];exact Ext.alloc e z _
  ·rw[o]
   exact(show ∃g h,V.ref p = .ref g/\g5 K _ g h/\ej K _ [d,c] h from⟨p,[u,v],rfl,g5.of zO,ej.cons ((B.mono j).mono (jd (jt e z) _))<|ej.cons ((m.mono j).mono (jd (jt e z) _)) ej.nil⟩)
noncomputable def OP(K:GI)(C:CO (List D)):TI:=λg H R=>∃d f e,RC K d H g f/\C f=bQ e/\∀J b a,Ext d H a b->Walk K a b J e->R J b
noncomputable def OQ(K:GI)(C:CO (List D)):TI:=λg H R=>∃d f e,RC K d H g f/\C f=bQ e/\∀J b a,Ext d H a b->Walk K a a J e->R J b
abbrev ql(X:Cx)(tg e:eA)(src:CO (List D)):Prop:=PI X tg e (OP X.K src)
abbrev ij(X:Cx)(tg e:eA)(src:CO (List D)):Prop:=PI X tg e (OQ X.K src)
section
variable{X:Cx}{tg e a b:eA}{pos p:g8}
theorem ij.c(h:ij X tg e src):ql X tg e src:=KC h λi H R ⟨d,g,f,rc,z,q⟩=>⟨d,g,f,rc,z,λJ b a x w=>q J b a x<|w.weak x.sub⟩
theorem jb(h:PQ X e f):ql X tg e (zN f):=KC (bY h) λp H R z=>by obtain⟨i,n,o,rc,I,q⟩:=z;obtain⟨⟨k,l⟩,j,O⟩:=zC I;subst O;exact⟨i,n,k,l,rc,j,λa m g b x d _ r=>⟨a,k,rfl,⟨m,d⟩,q _ g b x<|QV d r⟩⟩
theorem ZY(h:PV X e f):ij X tg e (zN<|zA f):=KC (bY h) λu H R O=>by
 obtain⟨o,s,t,rc,U,q⟩:=O;obtain⟨⟨k,l⟩,g,z⟩:=zC U;subst z;obtain⟨d,p,g⟩:=ze g;refine⟨o,s,d,rc,p,λv n b x r=>?_⟩;cases d with
 | tup fs=>
  obtain⟨z,I⟩:k = .T/\l=fs:=by simp[z7]at g;exact⟨g.1.symm,g.2.symm⟩
  subst z I;obtain⟨a,i,rfl,j,m⟩:=(show ∃a i,v = .ref a/\g5 X.K b a i/\ej X.K b l i from r);exact⟨a,.T,rfl,⟨i,mr x.sub j⟩,q _ n b x<|QV (k:= .T) j m⟩
 | lst fs=>
  obtain⟨z,I⟩:k = .L/\l=fs:=by simp[z7]at g;exact⟨g.1.symm,g.2.symm⟩
  subst z I;obtain⟨a,i,rfl,j,m⟩:=(show ∃a i,v = .ref a/\f9 X.K b a i/\ej X.K b l i from r);exact⟨a,.L,rfl,⟨i,x.sub.seq j⟩,q _ n b x<|QV (k:= .L) j m⟩
 | _=>simp[z7]at g
theorem jF(h:lp d=bQ i):d = .int i:=by cases d<;>simp[lp]at h;rw[h]
theorem Jp(h:inR i=di) : -(2 ^ 62)<=i/\i<2 ^ 62:=by unfold inR at h;have h:=of_decide_eq_true h;omega
theorem WQ(I:Gl X "range")(J:X.mg "range" = dj)(C:PV X a f)(hs:f7 [a] X.env=[(ed,eL a X.env)]:=by rfl):ij X tg (.Call (.Name "range" p) [a] [] pos) (zR f):=
 KC (cc I J (jx C qy hs) hs) λo H R O=>by
  obtain⟨i,l,m,rc,z,q⟩:=O;obtain⟨n,e,z⟩:=ze z;obtain⟨d,U,e⟩:=ze e;by_cases g:inR n=di
  ·rw[RY g]at z;cases z
   refine⟨i,l,d,rc,U,λv h b x r=>?_⟩;rw[jF e]at r;obtain⟨j,k⟩:=Jp g;exact⟨n,by rw[show v = .int n from r],j,k,q _ h b x<|J0 0 n.toNat⟩
  ·rw[EQ g]at z;cases z
theorem WO(U:Gl X "range")(S:X.mg "range" = dj)(J:PV X a f)(L:PV X b g)(hs:f7 [a,b] X.env=[(ed,eL a X.env),(ed,eL b X.env)]:=by rfl)(I:f7 [b] X.env=[(ed,eL b X.env)]:=by rfl) :
 ij X tg (.Call (.Name "range" p) [a,b] [] pos) (Xe f g):=
 KC (bZ U S (jx J (jx L qy I)<|by rw[hs,I]) hs I) λM H R C=>by
  obtain⟨l,k,K,rc,z,q⟩:=C;obtain⟨m,i,z⟩:=ze z;obtain⟨d,t,i⟩:=ze i;obtain⟨n,O,z⟩:=ze z;obtain⟨c,u,O⟩:=ze O;by_cases e:inR m=di/\inR n=di
  ·rw[RY e]at z;cases z
   refine⟨l,k,d,rc,t,λv G h x r=>⟨h,k,c,rc.ext x,u,λE o s F j=>?_⟩⟩;rw[jF i]at r;rw[jF O]at j;obtain⟨w,y⟩:=Jp e.1;obtain⟨A,B⟩:=Jp e.2;exact⟨m,n,by rw[show v = .int m from r,show E = .int n from j],⟨w,y,A,B⟩,q _ o s (x.trans F)<|J0 m (n - m).toNat⟩
  ·rw[EQ e]at z;cases z
theorem aX{K:GI}{H:Hp}{d:D}{v:V}{k:Sk}{ds:List D}(r:Rep K H d v)(e:z7 d=bQ (k,ds)) : ∃a xs,v = .ref a/\l0 k K H a xs/\ej K H ds xs:=by
 cases d with
 | tup fs=>simp[z7]at e;obtain⟨b,z⟩:=e;subst b z;exact r
 | lst fs=>simp[z7]at e;obtain⟨b,z⟩:=e;subst b z;exact r
 | _=>simp[z7]at e
theorem oN{f g:CO D}{C:List eA}{x1:Nat}{J:g8}(Y:Gl X "zip")(Z:X.mg "zip" = dj)(L:PV X a f)(S:PV X b g)(hs:f7 [a,b] X.env=[(ed,eL a X.env),(ed,eL b X.env)]:=by rfl)(O:f7 [b] X.env=[(ed,eL b X.env)]:=by rfl) :
 ij X (.Tuple C x1 J) (.Call (.Name "zip" p) [a,b] [] pos) (YB f g):=
 KC (uf Y Z (jx L (jx S qy O)<|by rw[hs,O]) PyProof.Rows.boot_zip hs O) λP H R y=>by obtain⟨j,i,M,rc,z,q⟩:=y;obtain⟨⟨A,m⟩,h,z⟩:=ze z;obtain⟨d,t,h⟩:=ze h;obtain⟨⟨B,n⟩,U,z⟩:=zC z;obtain⟨c,u,U⟩:=ze U;subst z;refine⟨j,i,d,rc,t,λv K e x r=>⟨e,i,c,rc.ext x,u,λN k s I E=>?_⟩⟩;obtain⟨l,F,rfl,g1,g2⟩:=aX (r.mono I.s0) h;obtain⟨o,G,rfl,g3,w⟩:=aX E U;exact⟨A,B,l,o,rfl,⟨F,Ko I.sub g1⟩,⟨G,Ko I.sub g3⟩,q _ k s (x.trans I)<|fI g1 g2 g3 w⟩
end
noncomputable def VE:List Nat->List V->St->St
 | i::is,v::vs,σ=>VE is vs<|σ.set i<|some v
 | _,_,σ=>σ
noncomputable def gs:List Nat->DD
 | []=>ER
 | i::is=>Ab (yq i)<|gs is
noncomputable def o7(K:GI):Tg->TG
 | .nm i=>yq i
 | .tp is=>EO K is.length<|gs is
theorem dg : ∀{is:List Nat} {vs:List V} {C:St} {H:Hp} {Q:St->Hp->Prop},vs.length=is.length->Q (VE is vs C) H->gs is vs C H Q
 | [],[],_,_,_,_,q=>⟨rfl,q⟩
 | i::is,v::vs,C,H,Q,hl,q=>⟨v,vs,rfl,dg (by simpa using hl) q⟩
 | [],_::_,_,_,_,hl,_=>by simp at hl
 | _::_,[],_,_,_,hl,_=>by simp at hl
theorem RS.E2{K:GI}{E0 E H0 H:Hp} : ∀{is:List Nat} {ds:List D} {vs:List V} {C:St} {γ:Ctx},RS K E0 E H0 H C γ->ej K H0 ds vs->RS K E0 E H0 H (VE is vs C) (qO is ds γ)
 | [],ds,vs,C,γ,r,h=>by cases ds<;>cases vs<;>exact r
 | i::is,[],vs,C,γ,r,h=>by rw[h.o3];exact r
 | i::is,d::ds,vs,C,γ,r,h=>by obtain⟨x,t,e,a,b⟩:=h.mm;subst e;show RS K E0 E H0 H (DL.VE is t<|C.set i<|some x) (qO is ds<|γ.set i<|.val d);exact RS.E2 (r.we a) b
theorem RC.E2{K:GI}{H0 H:Hp} : ∀{is:List Nat} {ds:List D} {vs:List V} {C:St} {γ:Ctx},RC K H0 H C γ->ej K H0 ds vs->RC K H0 H (VE is vs C) (qO is ds γ)
 | [],ds,vs,C,γ,r,h=>by cases ds<;>cases vs<;>exact r
 | i::is,[],vs,C,γ,r,h=>by rw[h.o3];exact r
 | i::is,d::ds,vs,C,γ,r,h=>by obtain⟨x,t,e,a,b⟩:=h.mm;subst e;show RC K H0 H (DL.VE is t<|C.set i<|some x) (qO is ds<|γ.set i<|.val d);exact RC.E2 (r.we a) b
theorem vP{K:GI}{H0 H:Hp}{T:Tg}{d:D}{v:V}{C:St}{γ γ1:Ctx}{Q:St->Hp->Prop}(s:gv H0 H)(h:Rep K H0 d v)(e:xA T d γ=bQ γ1)
 (q : ∀z,(RC K H0 H C γ->RC K H0 H z γ1)->(∀E0 E,RS K E0 E H0 H C γ->RS K E0 E H0 H z γ1)->Q z H):o7 K T v C H Q:=by
 cases T with
 | nm i=>cases e;exact q _ (λr=>r.we h) λE0 E r=>r.we h
 | tp is=>
  cases d with
  | tup g=>
   simp only[xA]at e;by_cases I:g.length=is.length
   ·rw[RY I]at e;cases e
    obtain⟨a,b,rfl,k,f⟩:=(show ∃a b,v = .ref a/\g5 K H0 a b/\ej K H0 g b from h);have j:b.length=is.length:=by rw[f.length,I]
    exact⟨a,b,rfl,mr s k,j,dg j<|q _ (λr=>r.E2 f) λE0 E r=>r.E2 f⟩
   ·rw[EQ I]at e;cases e
  | _=>simp[xA]at e
theorem Ext.rebase{E0 E z H0 H B:Hp}(e:Ext E0 E z B)(x:Ext z E H0 H):Ext E0 E H0 H:=
 ⟨e.s0.trans x.s0,x.s1,x.sub,λa d b=>x.new a (e.new a d b) b⟩
theorem Ext.base{E0 E z B:Hp}(e:Ext E0 E z B):Ext z E z B:=⟨gv.refl _,e.s1,e.sub,λa h _=>h⟩
theorem Sat.rebase{K:GI}{E0 E I B:Hp}{D:Ends}{z:Fl}(e:Ext E0 E I B)(h:Sat K E0 E D z):Sat K I E D z:=by
 cases z with
 | next g=>exact λf H b r=>h f H b ⟨r.rc,e.rebase r.ext,r.fresh,r.sX⟩
 | brk g=>exact λf H b r=>h f H b ⟨r.rc,e.rebase r.ext,r.fresh,r.sX⟩
 | cont g=>exact λf H b r=>h f H b ⟨r.rc,e.rebase r.ext,r.fresh,r.sX⟩
 | ret r=>
  cases r with
  | val d=>exact λv H b x q=>h v H b (e.rebase x) q
  | own l=>exact λa k H b x i j O q=>h a k H b (e.rebase x) i j O q
section
variable{X:Cx}{tg iter:eA}{body:List i5}{pos:g8}
theorem oE{C:CO (List D)}{T:Tg}{F:CO Fl}(hp:M8 (eK X.prog X.w) X.A X.env X.xe)(hc:X.calm=di)(S:ij X tg iter C)(hg:PG X tg (o7 X.K T))(hb:eW X body F)
 (hs : ∀x,ow iter X.env x=pure x:=by intro _;rfl):k0 X (.For tg iter body [] pos) (yP C T F):=
 x9 (mw hp hc S hg hb hs) λD k H hZ=>by
  obtain⟨E0,E,g,b,I,O,z,h⟩:=hZ;obtain⟨a,Y,z⟩:=ze z;refine⟨g,b,a,O.rc,Y,λJ H1 U x1 t=>?_⟩;have l:=O.step x1;have L:=l.ext;refine⟨λi m k H=>m=a.length - i/\i<=a.length/\∃g b I,RS X.K U E g H k b/\ka T F (a.drop i) b=bQ I/\Sat X.K U E D I,⟨_,rfl,HX _,U,b,I,⟨l.rc,L.base,l.fresh,l.sX⟩,z,h.rebase L⟩,?_⟩;rintro i m k H ⟨rfl,S,g,b,I,O,z,h⟩;have o:gv U H:=O.ext.s0.trans O.ext.sub;by_cases j:i<a.length
  ·refine .inr ⟨t.go i H o j,λk H=>i+1<=a.length/\∃g b I,RS X.K U E g H k b/\ka T F (a.drop<|i+1) b=bQ I/\Sat X.K U E D I,λSl G n=>⟨a.length - (i+1),by omega,rfl,n.1,n.2⟩,λx G y=>?_⟩
   obtain⟨d,M,hx⟩:=t.xg i H x G o j y;obtain⟨P,N,rg⟩:=hx g O.ext.s0 O.rc.sub;have R:a.drop i=d::a.drop (i+1):=by
    have as:d=a[i]:=by rw[GL j]at M;exact(Hx M).symm
    rw[as];exact Ld j
   rw[R]at z;simp only[ka]at z;obtain⟨u,eb,z⟩:=ze z;obtain⟨f1,Z,z⟩:=ze z;refine vP N.sub rg eb λL9 _ W=>⟨U,E,P,u,f1,W U E<|O.step N,Z,?_⟩;cases f1 with
   | next f=>exact λB Q p s=>⟨j,p,f,I,s,z,h⟩
   | cont f=>exact λB Q p s=>⟨j,p,f,I,s,z,h⟩
   | brk f=>cases z;exact h
   | ret r=>cases z;cases r<;>exact h
  ·have e:i=a.length:=by omega
   subst e;rw[Ml]at z;cases z;exact .inl ⟨t.stop H o,h k H g O⟩
end
theorem qB(h:(z6 n fr γ)[i]? = bQ c):c = .no\/(∃d j,c = .val d/\n<=i/\fr[i - n]? = bQ j/\γ[j]? = bQ (.val d)):=by
 unfold z6 at h;by_cases b:i<n
 ·rw[HR (by simpa using b),LW,RY b]at h
  exact .inl (Hx h).symm
 ·rw[HH (by simpa using b),Hd,List.length_replicate]at h
  cases e:fr[i - n]? with
  | none=>rw[e]at h;cases h
  | some j=>
   rw[e]at h;have a:xQ (γ[j]?.getD .no)=c:=by simpa using h
   cases e2:γ[j]? with
   | none=>rw[e2]at a;exact .inl a.symm
   | some z=>
    rw[e2]at a;cases z with
    | no=>exact .inl a.symm
    | own g=>exact .inl a.symm
    | nest f=>exact .inl a.symm
    | val d=>exact .inr ⟨d,j,a.symm,by omega,rfl,e2⟩
theorem RC.pull{K:GI}{H0 H:Hp}{J:St}{γ:Ctx}{own:List Str}{C:List (Str×Nat)}(r:RC K H0 H J γ):RC K H0 H (L2.gE own C J) (z6 own.length (C.map (·.2)) γ):=by
 refine⟨r.sub,by simp[L2.gE,z6],λi d h=>?_,λi e h=>?_,λi j a e k h _ _ _=>?_,oe.DN λi b h=>?_⟩
 ·rcases qB h with z | ⟨d',j,z,hi,I,O⟩
  ·cases z
  ·cases z
   obtain⟨v,f,g⟩:=r.val j d O;refine⟨v,?_,g⟩;rw[Hd]at I;cases q:C[i - own.length]? with
   | none=>rw[q]at I;cases I
   | some p=>
    rw[q]at I;have U:p.2=j:=by simpa using I
    unfold L2.gE;rw[HH (by simpa using hi),Hd,GY,q];simp[U,f]
 ·rcases qB h with z | ⟨d',j,z,_⟩<;>cases z
 ·rcases qB h with z | ⟨d',j,z,_⟩<;>cases z
 ·rcases qB h with z | ⟨d',j,z,_⟩<;>cases z
theorem RC.weak{K:GI}{H0 H:Hp}{J:St}{γ γ':Ctx}(r:RC K H0 H J γ)(I:γ'.length=γ.length)(O : ∀(i:Nat) d,γ'[i]? = bQ (.val d)->γ[i]? = bQ (.val d))(z : ∀(i:Nat) ds,γ'[i]? ≠ bQ (.own ds))(U : ∀(i:Nat) C,γ'[i]? ≠ bQ (.nest C)):RC K H0 H J γ':=
 ⟨r.sub,by rw[I];exact r.len,λi d h=>r.val i d<|O i d h,λi ds h=>absurd h<|z i ds,λi j a ds b h _ _ _=>absurd h<|z i ds,oe.DN U⟩
theorem RC.upd{K:GI}{H0 H:Hp}{J:St}{γ:Ctx}{D:eg}{o:HO}(r:RC K H0 H J γ)(O:H0 D=dj)(I : ∀(i:Nat) ds,γ[i]? ≠ bQ (.own ds))(U : ∀(i:Nat) C,γ[i]? ≠ bQ (.nest C)):RC K H0 (upd H D o) J γ:=
 ⟨λb u q=>by rw[zI (λz=>by rw[z,O]at q;cases q)];exact r.sub b u q,r.len,r.val,λi ds h=>absurd h<|I i ds,λi j a ds d h _ _ _=>absurd h<|I i ds,oe.DN U⟩
theorem ZQ : ∀{is:List Nat} {ds:List D} {γ:Ctx},(qO is ds γ).length=γ.length
 | [],ds,γ=>by cases ds<;>rfl
 | i::is,[],γ=>rfl
 | i::is,d::ds,γ=>by show(qO is ds<|γ.set i<|.val d).length=_;rw[ZQ];simp
theorem ZR : ∀{is:List Nat} {ds:List D} {γ:Ctx} {i:Nat},i∉is->(qO is ds γ)[i]? = γ[i]?
 | [],ds,γ,i,_=>by cases ds<;>rfl
 | j::is,[],γ,i,_=>rfl
 | j::is,d::ds,γ,i,h=>by show(qO is ds<|γ.set j<|.val d)[i]? = _;rw[ZR (λz=>h<|GX _ z),GP (λz=>h<|by rw[<- z];exact Ha)]
theorem Yn(h:xA T d γ=bQ γ1):γ1.length=γ.length/\∀i,i∉T.idx->γ1[i]? = γ[i]? :=by
 cases T with
 | nm j=>cases h;exact⟨by simp,λi a=>GP<|λz=>a<|by simp[Tg.idx,z]⟩
 | tp is=>
  cases d with
  | tup b=>
   simp only[xA]at h;by_cases I:b.length=is.length
   ·rw[RY I]at h;cases h;exact⟨ZQ,λi a=>ZR a⟩
   ·rw[EQ I]at h;cases h
  | _=>simp[xA]at h
section
variable{K:GI}{own:List Str}{fr:List (Str×Nat)}{src:CO (List D)}{T:Tg}{k:CO Bool}{f:CO D}
theorem vL(hT : ∀i∈T.idx,i<own.length)(bt : ∀C H Q,tT K k C H Q->tt C H Q) : ∀C H Q,tO K (zS src T own.length (fr.map (·.2)) k f) C H Q->aO (OP K src) own fr (o7 K T) tt (tV K f) C H Q:=λC H Q hZ=>by
 obtain⟨H0,u,ds,rc,U,q⟩:=hZ;obtain⟨a,e1,U⟩:=ze U;by_cases hl:a.length<=lim
 ·rw[RY hl]at U
  refine⟨H0,u,a,rc,e1,λJ H1 R x1 wk D B=>?_⟩;have S : ∀(i:Nat) es,(z6 own.length (fr.map (·.2)) u)[i]? ≠ bQ (.own es):=λi es h=>by rcases qB h with z | ⟨d',j,z,_⟩<;>cases z
  have W : ∀(i:Nat) E,(z6 own.length (fr.map (·.2)) u)[i]? ≠ bQ (.nest E):=λi es h=>by rcases qB h with z | ⟨d',j,z,_⟩<;>cases z
  have b6:R D=dj:=jt x1.sub B;have bx:H D=dj:=by
   cases z:H D with
   | none=>rfl
   | some o=>rw[x1.s1 D o z]at B;cases B
  refine⟨λi m n G l=>m=a.length - i/\i<=a.length/\n.length<=i/\l D=bQ (.lst n)/\∃g A M,RC K g l G (z6 own.length (fr.map (·.2)) u)/\g D=dj/\Ext R H1 g l/\ej K g A n/\zU T k f (z6 own.length (fr.map (·.2)) u) (a.drop i)=bQ M/\ds=A++M,
   ⟨_,rfl,HX _,GQ _,zO,R,[],ds,((rc.ext x1).pull).upd b6 S W,b6,Ext.hide x1.sub B _,ej.nil,U,rfl⟩,?_⟩
  rintro i m n G l ⟨rfl,hi,hy,N,g,A,M,X,b7,t,r',I,rfl⟩;refine⟨N,?_⟩;by_cases s:i<a.length
  ·refine .inr ⟨wk.go i l t.s1 s,?_,λx Y y=>?_⟩
   ·have:=kL<|GQ lim;omega
   obtain⟨d,hd,hx⟩:=wk.xg i l x Y t.s1 s y;obtain⟨G0,O,rg⟩:=hx g t.s0 X.sub;have c0:a.drop i=d::a.drop (i+1):=by
    have c1:d=a[i]:=by rw[GL s]at hd;exact(Hx hd).symm
    rw[c1];exact Ld s
   rw[c0]at I;simp only[zU]at I;obtain⟨p,eb,I⟩:=ze I;obtain⟨b,ek,I⟩:=ze I;have c3:G0 D=dj:=O.new D b7 (by rw[N];simp);have b8:Y D=bQ (.lst n):=O.s1 _ _ N;obtain⟨bl,bg⟩:=Yn eb;have b9 : ∀{L:St} {G2 H2:Hp},RC K G2 H2 L p->RC K G2 H2 L (z6 own.length (fr.map (·.2)) u):=λr=>r.weak bl.symm (λj d' hj=>by
    by_cases hm:j∈T.idx
    ·rcases qB hj with z | ⟨d2,j2,_,hn,_⟩
     ·cases z
     ·exact absurd (hT j hm) ⋯
    ·rw[bg j hm];exact hj) S W
   refine vP O.sub rg eb λL9 be _=>bt L9 Y _ ⟨G0,p,b,be<|X.ext O,ek,λH3 Z x3=>?_⟩;have as:=(be<|X.ext O).ext x3;have xa:=t.trans<|O.trans x3;have bi:Z D=dj:=x3.new D c3 (by rw[b8];simp);have ax:H3 D=bQ (.lst n):=x3.s1 _ _ b8;cases b with
   | true=>
    dsimp only;rw[RY rfl]at I ⊢;obtain⟨e,ee,I⟩:=ze I;obtain⟨kh,er,I⟩:=zC I;refine⟨Z,p,e,as,ee,λv H4 bm F r4=>?_⟩;have b0:bm D=dj:=F.new D bi (by rw[ax];simp);have ca:H4 D=bQ (.lst n):=F.s1 _ _ ax;have P:=xa.trans F;refine⟨ca,a.length - (i+1),by omega,rfl,s,by rw[HQ,Lx];omega,zO,bm,A++[e],kh,(b9<|as.ext F).upd b0 S W,b0,?_,(r'.mono<|(O.trans<|x3.trans F).s0).append (ej.cons r4 ej.nil),er,?_⟩
    ·exact⟨P.s0,λc o z=>by rw[zI (λw=>by rw[w,B]at z;cases z)];exact P.s1 c o z,λc o z=>by rw[zI (λw=>by rw[w,b0]at z;cases z)];exact P.sub c o z,P.new⟩
    ·rw[<- I];simp
   | false=>
    dsimp only;rw[EQ Hr]at I ⊢;exact⟨a.length - (i+1),by omega,rfl,s,by omega,ax,Z,A,M,b9 as,bi,xa,r'.mono<|(O.trans x3).s0,I,rfl⟩
  ·have e:i=a.length:=by omega
   subst e;rw[Ml]at I;cases I;rw[Lz]at q;exact .inl ⟨wk.stop l t.s1,q D n l g (x1.trans t) bx b7 N r'⟩
 ·rw[EQ hl]at U;cases U
end
section
variable{X:Cx}{scope:hG}{own:List Str}{fr:List (Str×Nat)}{elt tg iter c:eA}{pos:g8}{src:CO (List D)}{T:Tg}{k:CO Bool}{f:CO D}
theorem oK(z:X.calm=di)(ok:p9 X scope fr)(I : ∀i∈T.idx,i<own.length)(L:ql X tg iter src)(O : ∀fp J C,PG (jn X scope (own++fr.map (·.1)) fp J C) tg<|o7 X.K T)
 (U : ∀fp J C,PV (jn X scope (own++fr.map (·.1)) fp J C) elt f) (hs : ∀x,ow iter X.env x=pure x:=by intro _;rfl) :
 PO X (.ListComp elt [⟨tg,iter,[],0⟩] scope pos) (zS src T own.length (fr.map (·.2)) jj f):=
 qf (YI z ok L O (λ_ _ _=>Xp) U hs) (vL I λg H Q ⟨a,e,b,rc,d,q⟩=>by cases d;exact q H a<|Ext.refl rc.sub)
theorem bU(z:X.calm=di)(ok:p9 X scope fr)(I : ∀i∈T.idx,i<own.length)(S:ql X tg iter src)(O : ∀fp J C,PG (jn X scope (own++fr.map (·.1)) fp J C) tg<|o7 X.K T)
 (U : ∀fp J C,l7 (jn X scope (own++fr.map (·.1)) fp J C) c k) (L : ∀fp J C,PV (jn X scope (own++fr.map (·.1)) fp J C) elt f) (hs : ∀x,ow iter X.env x=pure x:=by intro _;rfl) :
 PO X (.ListComp elt [⟨tg,iter,[c],0⟩] scope pos) (zS src T own.length (fr.map (·.2)) k f):=
 qf (YI z ok S O (λfp J C=>VR<|U fp J C) L hs) (vL I λa H Q h=>h)
theorem gN(z:X.N.Nodup)(I:X.N[i]? = bQ y)(O:Loc X.env.scope y)(U:X.fn y=di\/X.env.scope.names.lookup y=bQ .local)
 (S:X.calm=di) (ok:p9 X scope fr) (L : ∀i∈T.idx,i<own.length) (hi:ql X tg iter src) (Z : ∀fp J C,PG (jn X scope (own++fr.map (·.1)) fp J C) tg<|o7 X.K T)
 (Y : ∀fp J C,PV (jn X scope (own++fr.map (·.1)) fp J C) elt f) (hs : ∀x,ow iter X.env x=pure x:=by intro _;rfl) :
 PS X (.Assign [.Name y py] (.ListComp elt [⟨tg,iter,[],0⟩] scope pos) spos) (Wz (tO X.K<|zS src T own.length (fr.map (·.2)) jj f)<|yq i):=
 x9 (wa z I O U S ok hi Z (λ_ _ _=>Xp) Y hs) λD a H h=>vL L (λa H Q g=>by obtain⟨d,j,b,rc,e,q⟩:=g;cases e;exact q H d<|Ext.refl rc.sub) a H _ h
theorem WM(z:X.N.Nodup)(I:X.N[i]? = bQ y)(O:Loc X.env.scope y)(U:X.fn y=di\/X.env.scope.names.lookup y=bQ .local)
 (S:X.calm=di) (ok:p9 X scope fr) (L : ∀i∈T.idx,i<own.length) (hi:ql X tg iter src) (Z : ∀fp J C,PG (jn X scope (own++fr.map (·.1)) fp J C) tg<|o7 X.K T)
 (hk : ∀fp J C,l7 (jn X scope (own++fr.map (·.1)) fp J C) c k) (Y : ∀fp J C,PV (jn X scope (own++fr.map (·.1)) fp J C) elt f) (hs : ∀x,ow iter X.env x=pure x:=by intro _;rfl) :
 PS X (.Assign [.Name y py] (.ListComp elt [⟨tg,iter,[c],0⟩] scope pos) spos) (Wz (tO X.K<|zS src T own.length (fr.map (·.2)) k f)<|yq i):=
 x9 (wa z I O U S ok hi Z (λfp J C=>VR<|hk fp J C) Y hs) λD a H h=>vL L (λa H Q h=>h) a H _ h
end
theorem jk{K:GI}{H:Hp}{i:Int}{v:V}(h:Rep K H (.int i) v):v = .int i:=h
theorem gb{K:GI}{g:Int->Int->D}{z:Int->Int->V}(O : ∀H i j,Rep K H (g i j)<|z i j):m7 K (rr z) (dI g):=λa H x y b U d Q s e f I q=>by cases b<;>cases U<;>simp[dI]at I;subst I;exact⟨_,_,jk e,jk f,q _ H a (Ext.refl s)<|O a _ _⟩
theorem aU{K:GI}{C:Int->Int->Prop}{c:Int->Int->Bool}{g:Int->Int->D}{z:Int->Int->V}(O : ∀i j,c i j=di->C i j)(U : ∀H i j,Rep K H (g i j)<|z i j):m7 K (rI C z) (D4 c g):=λa H x y b e d Q s k l I q=>by cases b<;>cases e<;>simp[D4]at I;obtain⟨f,h⟩:=I;subst h;exact⟨_,_,jk k,jk l,O _ _ f,q _ H a (Ext.refl s)<|U a _ _⟩
theorem nP{K:GI}:m7 K (rr λi j=> .int (i - j)) JY:=gb λ_ _ _=>rfl
theorem lF(h:QN i j=di):DB i j:=by unfold QN at h;rw[Ip,decide_eq_true_eq,decide_eq_true_eq]at h;unfold DB;omega
theorem nU{K:GI}:m7 K (rI Fx λi j=> .int (i/j)) X3:=aU (λi j h=>by unfold An at h;rw[Hb,decide_eq_true_eq,decide_eq_true_eq]at h;exact⟨h.1,by omega⟩) λ_ _ _=>rfl
theorem nS{K:GI}:m7 K (rI (λ_ j=>0<j) λi j=> .int (i%j)) ya:=aU (λi j h=>by unfold Bl at h;exact of_decide_eq_true h) λ_ _ _=>rfl
theorem nQ{K:GI}:m7 K (rI Fw λi j=> .int (i ^ j.toNat)) pQ:=aU (λi j h=>by unfold Am at h;rw[Hb,Hb,decide_eq_true_eq,decide_eq_true_eq,decide_eq_true_eq]at h;exact⟨h.1.1,by omega,h.2⟩) λ_ _ _=>rfl
theorem aT{K:GI}:m7 K (rr λi j=> .bl (decide<|i<j)) t7:=gb λ_ _ _=>rfl
theorem VC{K:GI}:m7 K (rr λi j=> .bl (decide<|i<=j)) o6:=gb λ_ _ _=>rfl
theorem sH{K:GI}:m7 K (rr λi j=> .bl (decide<|j<i)) C3:=gb λ_ _ _=>rfl
section
variable{X:Cx}
noncomputable def mf(K:GI):R2:=λx y H Q=>∃a b d e,x = .ref a/\y = .ref b/\g5 K H a d/\g5 K H b e/\d.length+e.length<=fA/\
 (d=[]->Q (.ref b) H)/\(e=[]->Q (.ref a) H)/\∀p,H p=dj->Q (.ref p) (upd H p<|.tup<|d++e)
theorem ib:iQ X (sm .Add) (mf X.K):=by
 intro A s σ H x y v u Q I T W h;obtain⟨a,b,B,Z,rfl,rfl,L,M,w,P,R,S⟩:=h;cases T;cases W;obtain⟨O,r,t,z1⟩:=I.tuple L;obtain⟨C,e,f,z2⟩:=I.tuple M;by_cases U:B=[]
 ·have d:O=[]:=(r.G7).mpr U
  obtain⟨⟨G,J,k,Y⟩,p,l,n,m⟩:=id t;obtain⟨⟨b8,E,data2,F⟩,g,i,N,j⟩:=id f;simp only at l m i j;subst l m i j;exact Oa ⟨_,p,rfl⟩ ⟨_,g,rfl⟩ Ob Pp MN ML (MB _ _)
   (tuple_addW0 a b O.toArray C.toArray n N J E Y F<|by simp[d]) ⟨p,g,⟨.ref b,H,I,rfl,P U⟩⟩
 ·have d:O ≠ []:=λz=>U ((r.G7).mp z)
  refine HT.CM t f d (λz=>⟨.ref a,H,I,rfl,R<|(e.G7).mp z⟩) (λ_=>?_) (by rw[<- r.length,<- e.length];exact w);refine⟨.ref s.heap.objs.size,_,I.laid (t':=s.toks) (o:= .tup (B++Z)) (λc ob q=>GK _ q) (GQ _) ?_,rfl,S _<|I.f6.fresh<|GQ _⟩;exact⟨by rw[HQ];exact w,_,r.append e,u9.new _ _⟩
noncomputable def tH(K:GI):R2:=λx y H Q=>∃l b a d,x = .ref l/\y = .ref b/\f9 K H l a/\f9 K H b d/\a.length+d.length<=fA/\∀p,H p=dj->Q (.ref p) (upd H p<|.lst<|a++d)
theorem ic:iQ X (sm .Add) (tH X.K):=by
 intro a s M H x y v u Q I G J h;obtain⟨l,b,Z,zs,rfl,rfl,B,A,T,q⟩:=h;cases G;cases J;obtain⟨z,r,⟨o,n,e,U,d,f⟩,z1⟩:=I.list B;obtain⟨O,m,⟨E,C,k,g,i,j⟩,z2⟩:=I.list A;have W:=r.length;have Y:=m.length;obtain⟨cls,i7,S,L⟩:=o;obtain⟨N,P,R,p⟩:=E;simp only at U d f g i j;subst U d f g i j;have t:EP X a M Q (.ref s.heap.objs.size) {s with heap:=s.heap.push {cls:= .type "list",data:= .seq (z++O).toArray}}:=
  ⟨.ref _,_,I.Pe (t':=s.toks) (r.append m) (by rw[HQ];omega),rfl,q _ I.fresh⟩
 have w:z.toArray++O.toArray=(z++O).toArray:=by simp
 refine Oa ⟨_,e,rfl⟩ ⟨_,k,rfl⟩ noFill_list_add seq_list_add PySem.F.slot_list_add PySem.F.entry_list_add (PySem.F.args_list_add_2 _ _)
  (list_addW l b z.toArray O.toArray n C dj dj L p<|by rw[iN,iN];omega) ⟨e,k,?_⟩
 rw[w];exact t
end
noncomputable def kF(scope C:hG):hG:={scope with names:=scope.names.map λp=>if p.2==Hv && C.kind == .function && C.names.lookup p.1==bQ .cell then (p.1,Lf)else (p.1,p.2)}
theorem WE(scope:hG)(env:m5):u5 scope env=kF scope env.scope:=by unfold u5 kF;rfl
structure SX(X:Cx)(sc:hG)(N T:List Str)(k:Nat):Prop where
 DJ:X.env.scope=sc
 eN:X.N=N
 nd:N.Nodup
 calm:X.calm=di
 room:ml k X.A
 fn : ∀x∈T,X.fn x=di\/sc.names.lookup x=bQ .local
noncomputable def QW(C:hG)(N:List Str)(i:Nat)(x:Str):Bool:=
 decide (N[i]? = bQ x) && (decide (C.names.lookup x=bQ .local) || decide (C.names.lookup x=bQ .cell) || decide (C.names.lookup x=bQ .free)) && !(x==("__debug__" : Str)) && !(x==("__classdict__" : Str))
noncomputable def k7(C:hG)(N T:List Str)(i:Nat)(x:Str):Bool:=decide (x∈T) && decide (N[i]? = bQ x) && (decide (C.names.lookup x=bQ .local) || decide (C.names.lookup x=bQ .cell))
noncomputable def yp(C:hG)(x:Str):Bool:=decide (C.names.lookup x=bQ .globalImplicit) && !(x==("__name__" : Str)) && !(x==("__debug__" : Str))
section
variable{X:Cx}{sc:hG}{N T:List Str}{k:Nat}{i:Nat}{x:Str}{pos:g8}
theorem SX.var(h:SX X sc N T k)(c:QW sc N i x=di):PE X (.Name x pos) (rJ i):=by
 unfold QW at c;simp only[Hb,Ip,decide_eq_true_eq,IT]at c;obtain⟨⟨⟨a,h2⟩,z⟩,I⟩:=c;refine uh (by rw[h.eN];exact a) ?_ z I;unfold N2;rw[h.DJ];rcases h2 with(h2 | h2) | h2
 ·exact .inl h2
 ·exact .inr<|.inl h2
 ·exact .inr<|.inr h2
theorem SX.loc(h:SX X sc N T k)(c:k7 sc N T i x=di):X.N[i]? = bQ x/\L2.Loc X.env.scope x/\(X.fn x=di\/X.env.scope.names.lookup x=bQ .local):=by
 unfold k7 at c;simp only[Hb,Ip,decide_eq_true_eq]at c;refine⟨by rw[h.eN];exact c.1.2,?_,?_⟩
 ·unfold L2.Loc;rw[h.DJ];exact c.2
 ·rw[h.DJ];exact h.fn x c.1.1
theorem SX.D6(h:SX X sc N T k):X.N.Nodup:=by rw[h.eN];exact h.nd
theorem SX.DA(h:SX X sc N T k)(i:Nat)(c:k7 sc N T i x=di):PG X (.Name x pos) (yq i):=by obtain⟨a,b,z⟩:=h.loc c;exact cg h.D6 a b z
theorem SX.PB(h:SX X sc N T k)(g:D0 X es (gs is))(C:(vr es X.env).length=is.length:=by rfl)(z:(vr es X.env).findIdx? (·.1)=dj:=by rfl):PG X (.Tuple es j pos) (o7 X.K<|.tp is):=
 ug h.calm g C z
theorem SX.set(h:SX X sc N T k)(i:Nat)(c:k7 sc N T i x=di)(z:PE X e te)(hs:wh e (bQ (.Name x pos')) pos.line X.env=pure ed:=by rfl):PS X (.Assign [.Name x pos'] e pos) (Wz te<|yq i):=by obtain⟨a,b,I⟩:=h.loc c;exact ub h.D6 a b z hs I
theorem SX.gl(h:SX X sc N T k)(c:yp sc x=di):Gl X x/\x ≠ "__name__"/\(x==("__debug__" : Str))=ed:=by
 unfold yp at c;simp only[Hb,decide_eq_true_eq,IT]at c;refine⟨?_,?_,c.2⟩
 ·show X.env.scope.names.lookup x=_
  rw[h.DJ];exact c.1.1
 ·intro e;rw[e]at c;simp at c
noncomputable def Y9(sc scope:hG)(N:List Str)(C:List (Str×Nat)):Bool:=
 decide (scope.kind = .function) && decide ((scope.names.map (·.1)).Nodup) && scope.names.all (λp=> !(p.2==Hv) || decide (sc.names.lookup p.1=bQ .cell) || decide (sc.names.lookup p.1=bQ .free)) &&
 C.all λp=>decide (scope.names.lookup p.1=bQ .free) && decide (N[p.2]? = bQ p.1)
noncomputable def BP(own:List Str)(scope:hG)(C:List (Str×Nat)):Bool:=decide ((own++C.map (·.1)).Nodup) && own.all (λx=>decide (scope.names.lookup x=bQ .local) || decide (scope.names.lookup x=bQ .cell))
theorem SX.Ro(h:SX X sc N T k)(c:Y9 sc scope N fr=di):p9 X scope fr:=by
 unfold Y9 at c;simp only[Hb,decide_eq_true_eq,IP,Ip,IT]at c;obtain⟨⟨⟨O,U⟩,a⟩,I⟩:=c;refine⟨O,U,λp z b=>?_,λp z=>⟨(I p z).1,by rw[h.eN];exact(I p z).2⟩⟩;have e:X.env.kindOf p.1=sc.names.lookup p.1:=by show X.env.scope.names.lookup p.1=_;rw[h.DJ]
 rw[e];rcases a p z with(q | q) | q
 ·rw[b]at q;exact absurd q ⋯
 ·exact .inl q
 ·exact .inr q
theorem Jg(scope sc:hG)(x:Str):(kF scope sc).names.lookup x=(scope.names.lookup x).map λk=>if (k==Hv && sc.kind == .function && sc.names.lookup x==bQ .cell)then Lf else k:=by
 unfold kF;dsimp only;generalize scope.names=l
 induction l with
 | nil=>rfl
 | cons p r I=>
  obtain⟨n,O⟩:=p;rw[HC];cases hx:x==n with
  | true=>
   have e:x=n:=by simpa using hx
   subst e;dsimp only;split
   ·rename_i z;rw[HV,HV,beq_self_eq_true];dsimp only[NA];rw[RY z]
   ·rename_i z;rw[HV,HV,beq_self_eq_true];dsimp only[NA];rw[EQ z]
  | false=>
   dsimp only;split
   ·rw[HV,HV,hx];exact I
   ·rw[HV,HV,hx];exact I
theorem SX.comp(h:SX X sc N T k)(c:BP own scope fr=di) :
 SX (jn X scope (own++fr.map (·.1)) fp s2 H2) (kF scope sc) (own++fr.map (·.1)) own k:=by
 unfold BP at c;simp only[Hb,decide_eq_true_eq,IP,Ip]at c;refine⟨?_,rfl,c.1,h.calm,h.room,λx a=>?_⟩
 ·show u5 scope X.env=_
  rw[WE,h.DJ]
 ·rcases c.2 x a with q | q
  ·right;rw[Jg,q];rfl
  ·left
   show(scope.names.lookup x==bQ .cell)=di;rw[q];rfl
end
mutual
def i4:D->PyData
 | .eX=> .none
 | .bl b=> .bool b
 | .int i=> .int i
 | .str x=> .str x
 | .tup a=> .tuple (n5 a)
 | .lst a=> .list (n5 a)
 | .lN _ _=> .none
 | .i7 _ _=> .none
def n5:List D->List PyData
 | []=>[]
 | d::ds=>i4 d::n5 ds
end
theorem B4(h:i0 (.lN ks vs)=di):False:=by simp[i0]at h
theorem B3(h:i0 (.i7 ks vs)=di):False:=by simp[i0]at h
mutual
theorem F8 : ∀x y:D,i0 x=di->i0 y=di->Ll (i4 x) (i4 y)=i3 x y
 | .eX,y,_,h=>by cases y<;>first | exact(B4 h).elim | exact(B3 h).elim | simp[i4,Ll,i3]
 | .bl a,y,_,h=>by cases y<;>first | exact(B4 h).elim | exact(B3 h).elim | simp[i4,Ll,i3]
 | .int a,y,_,h=>by cases y<;>first | exact(B4 h).elim | exact(B3 h).elim | simp[i4,Ll,i3]
 | .str a,y,_,h=>by cases y<;>first | exact(B4 h).elim | exact(B3 h).elim | simp[i4,Ll,i3]
 | .lN c n,y,h,_=>(B4 h).elim
 | .i7 c n,y,h,_=>(B3 h).elim
 | .tup xs,y,h1,h2=>by
  cases y with
  | tup b=>simp only[i0]at h1 h2;simp only[i4,Ll,i3];exact Og xs b h1 h2
  | lN c n=>exact(B4 h2).elim
  | i7 c n=>exact(B3 h2).elim
  | _=>simp[i4,Ll,i3]
 | .lst xs,y,h1,h2=>by
  cases y with
  | lst b=>simp only[i0]at h1 h2;simp only[i4,Ll,i3];exact Og xs b h1 h2
  | lN c n=>exact(B4 h2).elim
  | i7 c n=>exact(B3 h2).elim
  | _=>simp[i4,Ll,i3]
theorem Og : ∀xs ys:List D,n9 xs=di->n9 ys=di->Nm (n5 xs) (n5 ys)=sx xs ys
 | [],ys,_,_=>by cases ys<;>simp[n5,Nm,sx]
 | x::xs,ys,h1,h2=>by
  cases ys with
  | nil=>simp[n5,Nm,sx]
  | cons y ys=>
   simp only[n9,Hb]at h1 h2;simp only[n5,Nm,sx];rw[F8 x y h1.1 h2.1,Og xs ys h1.2 h2.2]
end
mutual
theorem Ov : ∀x:D,i0 x=di->(i4 x).canLay0=di
 | .eX,_=>by simp[i4,Ma]
 | .bl a,_=>by simp[i4,Ma]
 | .int a,_=>by simp[i4,Ma]
 | .str a,h=>by simpa[i4,Ma,i0,PyData.strOk]using h
 | .tup xs,h=>by simp only[i0]at h;simp only[i4,Ma];exact G4 xs h
 | .lst xs,h=>by simp only[i0]at h;simp only[i4,Ma];exact G4 xs h
 | .lN c n,h=>(B4 h).elim
 | .i7 c n,h=>(B3 h).elim
theorem G4 : ∀xs:List D,n9 xs=di->Nz (n5 xs)=di
 | [],_=>by simp[n5,Nz]
 | x::xs,h=>by simp only[n9,Hb]at h;simp only[n5,Nz];rw[Ov x h.1,G4 xs h.2];rfl
end
mutual
theorem O7 : ∀x:D,(i4 x).depth=deep x
 | .eX=>by simp[i4,LO,deep]
 | .bl a=>by simp[i4,LO,deep]
 | .int a=>by simp[i4,LO,deep]
 | .str a=>by simp[i4,LO,deep]
 | .lN c n=>by simp[i4,LO,deep]
 | .i7 c n=>by simp[i4,LO,deep]
 | .tup b=>by simp only[i4,LO,deep];rw[Oe b]
 | .lst b=>by simp only[i4,LO,deep];rw[Oe b]
theorem Oe : ∀xs:List D,MX (n5 xs)=ra xs
 | []=>by simp[n5,MX,ra]
 | x::xs=>by simp only[n5,MX,ra];rw[O7 x,Oe xs]
end
theorem xG(h:md d=di):i0 d=di:=by unfold md at h;rw[Hb]at h;exact h.2
theorem yd(h:md d=di):SeqAt.shaped (i4 d)=di:=by unfold md at h;rw[Hb,decide_eq_true_eq]at h;unfold SeqAt.shaped;rw[Ov d h.2,Bool.true_and,O7];exact decide_eq_true ⋯
section
variable{X:Cx}{pins:RW}{σ:St}{H0 H:Hp}{s:el}
mutual
theorem DQ(I:Inv X pins σ H s)(sub:gv H0 H) : ∀{d:D} {v:V} {u:eh},i0 d=di->Rep X.K H0 d v->RelV v u->∃z,Reads s.heap u (i4 d) z
 | .eX,v,u,_,h,r=>by cases (show v = .eX from h);cases r;exact⟨_,.none⟩
 | .bl b,v,u,_,h,r=>by cases (show v = .bl b from h);cases r;exact⟨_,.bool b⟩
 | .int i,v,u,_,h,r=>by cases (show v = .int i from h);obtain⟨t,rfl⟩:=r;exact⟨_,.int i t⟩
 | .str x,v,u,_,h,r=>by cases (show v = .str x from h);obtain⟨t,rfl⟩:=r;exact⟨_,.str x t⟩
 | .lN c n,v,u,o,_,_=>(B4 o).elim
 | .i7 c n,v,u,o,_,_=>(B3 o).elim
 | .tup ds,v,u,o,h,r=>by obtain⟨a,e,rfl,f,g⟩:=(show ∃a e,v = .ref a/\g5 X.K H0 a e/\ej X.K H0 ds e from h);cases r;simp only[i0]at o;obtain⟨m,O,⟨y,U,j,n,k⟩,w⟩:=I.tuple<|mr sub f;obtain⟨z,l⟩:=Ig I sub o g O;exact⟨z,.tuple U j k<|by simpa using l⟩
 | .lst ds,v,u,o,h,r=>by obtain⟨a,e,rfl,f,g⟩:=(show ∃a e,v = .ref a/\f9 X.K H0 a e/\ej X.K H0 ds e from h);cases r;simp only[i0]at o;obtain⟨m,O,p,w⟩:=I.list<|sub.seq f;obtain⟨y,U,j,n,k⟩:=p.isList;obtain⟨z,l⟩:=Ig I sub o g O;exact⟨_,.list U j k<|by simpa using l⟩
theorem Ig(I:Inv X pins σ H s)(sub:gv H0 H) : ∀{ds:List D} {xs:List V} {us:List eh},n9 ds=di->ej X.K H0 ds xs->fh xs us->∃z,ReadsAll s.heap us (n5 ds) z
 | [],xs,us,_,h,r=>by rw[h.o3]at r;cases r;exact⟨_,.nil⟩
 | d::ds,xs,us,o,h,r=>by
  obtain⟨x,t,e,a,b⟩:=h.mm;subst e;simp only[n9,Hb]at o;cases r with
  | cons O f=>
   obtain⟨z,U⟩:=DQ I sub o.1 a O;obtain⟨bs,g⟩:=Ig I sub o.2 b f;exact⟨_,.cons U g⟩
end
end
noncomputable def EJ(K:GI):R2:=λx y H Q=>∃a b z,gv a H/\Rep K a b x/\Rep K a z y/\md b=di/\md z=di/\Q (.bl<|i3 b z) H
noncomputable def EI(K:GI):R2:=λx y H Q=>∃a b z,gv a H/\Rep K a b x/\Rep K a z y/\md b=di/\md z=di/\Q (.bl<|!i3 b z) H
theorem mB(U:X.A.units+64<A3):iQ X (n3 .Eq) (EJ X.K):=by intro a s m H x y v u Q I g i h;obtain⟨j,k,l,sub,b,d,z,O,q⟩:=h;obtain⟨as,e⟩:=DQ I sub (xG z) b g;obtain⟨bs,f⟩:=DQ I sub (xG O) d i;exact eq_dataH e f (yd z) (yd O) U ⟨.bl _,H,I,by rw[F8 _ _ (xG z) (xG O)];rfl,q⟩
theorem mz(U:X.A.units+64<A3):iQ X (n3 .NotEq) (EI X.K):=by intro a s m H x y v u Q I g i h;obtain⟨j,k,l,sub,b,d,z,O,q⟩:=h;obtain⟨as,e⟩:=DQ I sub (xG z) b g;obtain⟨bs,f⟩:=DQ I sub (xG O) d i;exact ne_dataH e f (yd z) (yd O) U ⟨.bl _,H,I,by rw[F8 _ _ (xG z) (xG O)];rfl,q⟩
theorem aV{K:GI}:m7 K (EJ K) ix:=λa H x y b I d Q s O U z q=>by
 unfold ix at z;split at z
 ·rename_i h;cases z;exact⟨a,b,I,s,O,U,h.1,h.2,q _ H a (Ext.refl s) rfl⟩
 ·cases z
theorem aS{K:GI}:m7 K (EI K) hL:=λa H x y b I d Q s O U z q=>by
 unfold hL at z;split at z
 ·rename_i h;cases z;exact⟨a,b,I,s,O,U,h.1,h.2,q _ H a (Ext.refl s) rfl⟩
 ·cases z
theorem SX.DS(h:SX X sc N T k):X.A.units+64<A3:=by have:=h.room.un;omega
section
variable{X:Cx}{sc:hG}{N T:List Str}{k:Nat}{a b c:eA}{pos p:g8}{fa fb fc:CO D}
theorem yj(C:PV X a fa)(z:PV X b fb):PV X (.BinOp a .Sub b pos) (zH JY fa fb):=J5 uA nP C z
theorem vq(C:PV X a fa)(z:PV X b fb):PV X (.BinOp a .FloorDiv b pos) (zH X3 fa fb):=J5 oY nU C z
theorem qw(C:PV X a fa)(z:PV X b fb):PV X (.BinOp a .Mod b pos) (zH ya fa fb):=J5 uD nS C z
theorem bF(C:PV X a fa)(z:PV X b fb):PV X (.BinOp a .Pow b pos) (zH pQ fa fb):=J5 uC nQ C z
theorem Kv(h:SX X sc N T k)(C:PV X a fa)(z:PV X b fb):PV X (.Compare a [.Eq] [b] pos) (zH ix fa fb):=mi (mB h.DS) aV C z<|Jf b
theorem BZ(h:SX X sc N T k)(C:PV X a fa)(z:PV X b fb):PV X (.Compare a [.NotEq] [b] pos) (zH hL fa fb):=mi (mz h.DS) aS C z<|Jf b
theorem tW(C:PV X a fa)(z:PV X b fb):l7 X (.Compare a [.Lt] [b] pos) (sB<|zH t7 fa fb):=ZW oX aT C z<|Jf b
theorem VO(C:PV X a fa)(z:PV X b fb):l7 X (.Compare a [.Gt] [b] pos) (sB<|zH C3 fa fb):=ZW Cg sH C z<|Jf b
theorem kZ(h:SX X sc N T k)(C:PV X a fa)(z:PV X b fb):l7 X (.Compare a [.Eq] [b] pos) (sB<|zH ix fa fb):=ZW (mB h.DS) aV C z<|Jf b
theorem xl(h:SX X sc N T k)(C:PV X a fa)(z:PV X b fb):l7 X (.Compare a [.NotEq] [b] pos) (sB<|zH hL fa fb):=ZW (mz h.DS) aS C z<|Jf b
theorem YC{K:GI}{H:Hp}{d:D}(h:Rep K H d .eX):d = .eX:=by
 cases d with
 | eX=>rfl
 | bl b=>exact V.noConfusion (show V.eX = .bl b from h)
 | int b=>exact V.noConfusion (show V.eX = .int b from h)
 | str b=>exact V.noConfusion (show V.eX = .str b from h)
 | tup b=>obtain⟨a,f,e,_⟩:=h;cases e
 | lst b=>obtain⟨a,f,e,_⟩:=h;cases e
 | lN c n=>obtain⟨a,f,e,_⟩:=h;cases e
 | i7 c n=>obtain⟨a,f,e,_⟩:=h;cases e
theorem nT{K:GI}:m7 K (λx y H Q=>y = .eX/\Q (.bl<|decide<|x = .eX) H) Ak:=λa H x y b O d Q s z U I q=>by
 cases O with
 | eX=>
  refine⟨U,?_⟩;cases b with
  | eX=>cases I;rw[show x=V.eX from z];exact q _ H a (Ext.refl s) (by simp;rfl)
  | _=>
   cases I;refine q _ H a (Ext.refl s) ?_;have : ¬x=V.eX:=λe=>by rw[e]at z;exact D.noConfusion<|YC z
   rw[decide_eq_false this];rfl
 | _=>cases b<;>cases I
theorem oz(C:PV X a fa)(z:PV X b fb):l7 X (.Compare a [.Is] [b] pos) (sB<|zH Ak fa fb):=ZW uE nT C z<|Jf b
theorem kC{K:GI}{H:Hp}{ds:List D}{v:V}(h:Rep K H (.tup ds) v) : ∃a xs,v = .ref a/\g5 K H a xs/\ej K H ds xs:=h
theorem cN{K:GI}{H:Hp}{ds:List D}{v:V}(h:Rep K H (.lst ds) v) : ∃a xs,v = .ref a/\f9 K H a xs/\ej K H ds xs:=h
theorem xo{K:GI}{H:Hp}{ds:List D}{a:eg}{xs:List V}(C:g5 K H a xs)(I:ej K H ds xs):Rep K H (.tup ds) (.ref a):=⟨a,xs,rfl,C,I⟩
theorem ZV{K:GI}{H:Hp}{ds:List D}{a:eg}{xs:List V}(C:f9 K H a xs)(I:ej K H ds xs):Rep K H (.lst ds) (.ref a):=⟨a,xs,rfl,C,I⟩
theorem nV{K:GI}:m7 K (λx y H Q=>rr (λi j=> .int (i+j)) x y H Q\/mf K x y H Q) qC:=λg H x y o r d Q s U m I q=>by
 cases o<;>cases r<;>simp[qC]at I
 ·subst I;exact .inl ⟨_,_,jk U,jk m,q _ H g (Ext.refl s) rfl⟩
 ·rename_i n t
  obtain⟨u,rfl⟩:=I;obtain⟨a,w,rfl,h,f⟩:=kC U;obtain⟨b,A,rfl,k,z⟩:=kC m;refine .inr ⟨a,b,w,A,rfl,rfl,mr s h,mr s k,kL (by rw[f.length,z.length];exact u),λe=>?_,λe=>?_,λp l=>?_⟩
  ·have O:n=[]:=by
    have:=f.length;rw[e]at this;exact HF this.symm
   subst O;exact q _ H g (Ext.refl s)<|xo k z
  ·have O:t=[]:=by
    have:=z.length;rw[e]at this;exact HF this.symm
   subst O;exact q _ H g (Ext.refl s) (by rw[Lz];exact xo h f)
  ·exact q _ _ _ (Ext.alloc s l _)<|xo (g5.of zO)<|(f.append z).mono (jd (jt s l) _)
theorem jW(C:PV X a fa)(z:PV X b fb):PV X (.BinOp a .Add b pos) (zH qC fa fb):=J5 (RO.or ib) nV C z
end
theorem QU(O:A.handled=dj)(k:Sk)(I z:eg)(U:z≠I)(items:Array eh) :
 Walks P w A I [I,z] [I] items.size (λi v=>items[i]? = bQ v) (λi h=>kA k h I z i/\nf k h z items):=by
 cases k
 ·exact Walks.list O I z U items
 ·exact Walks.tuple O I z U items
theorem ZX(C:List Int) : ∀n,OE (λi=>C.getD i 0) n=(C.take n).sum
 | 0=>by simp[OE]
 | n+1=>by
  have z:=ZX C n;simp only[OE,z];by_cases h:n<C.length
  ·rw[List.take_succ_eq_append_getElem h,List.sum_append]
   simp[h]
  ·rw[Mb ⋯,Mb ⋯]
   simp[h]
section
variable{X:Cx}{pins:RW}{σ:St}{H:Hp}{s:el}
theorem dS(J:X.calm=di):wL X (.builtin "sum") (λxs H Q=>∃p k ys C,xs=[.ref p]/\l0 k X.K H p ys/\ys=(C:List Int).map V.int/\Q (.int C.sum) H):=by
 intro pins s σ H G F Q I w h;obtain⟨p,k,ys,C,rfl,m,rfl,q⟩:=h;obtain⟨u,rfl,O⟩:=k6 w;cases O;obtain⟨z,r,a,E⟩:=I.sq m;have lt:=a.lt;have U:=r.length;rw[GY]at U;refine call_sum_walkG<|K4 a ⟨_,[_,p],[_],z.toArray.size,_,_,λi=>C.getD i 0,rfl,QU (A:=X.A.in1) (I.ok.hd J) k _ p (Ho lt) z.toArray,⟨QE k _ p,a.at λo e=>GK _ e⟩,?_,?_,?_⟩
 ·intro b g
  rw[HN];simp only[GW,Hz,or_false]at g;rcases g with rfl | rfl
  ·exact IQ _
  ·exact HL lt
 ·intro i v n
  have d:z[i]? = bQ v:=by simpa using n
  have j:i<C.length:=by rw[U];exact(GU.mp d).1
  obtain⟨u,f,O⟩:=r.get (i:=i) (x:= .int C[i]) (by simp[j]);rw[d]at f;cases f;obtain⟨t,rfl⟩:=O;exact⟨t,by simp[j]⟩
 ·intro B y t' l
  have e:OE (λi=>C.getD i 0) z.toArray.size=C.sum:=by rw[ZX,Mb (by rw[iN,U];exact GQ _)]
  refine⟨.int C.sum,H,I.kept (t':=y)<|λb u e=>l b u ?_ (GK _ e),⟨t',by rw[e]⟩,q⟩;simp only[GW,Hz,or_false];exact Ho<|GZ e
noncomputable def sj:V->Option Bool
 | .eX=>bQ ed
 | .bl b=>bQ b
 | .int i=>bQ (i != 0)
 | _=>dj
theorem Vv(r:RelV x u)(e:sj x=bQ b)(q:Q b s):wpAny (eK P w) A (E5 u) Q E s:=by
 cases x with
 | eX=>cases r;cases e;exact λ_ _ _=>q
 | bl c=>cases r;cases e;exact IA q
 | int i=>obtain⟨t,rfl⟩:=r;cases e;exact PyProof.Rows.truthy_int q
 | _=>cases e
noncomputable def Wx:List V->Option (List Bool)
 | []=>bQ []
 | x::r=>(sj x).bind λb=>(Wx r).map λl=>b::l
theorem ZK : ∀{xs:List V} {bs:List Bool},Wx xs=bQ bs->bs.length=xs.length/\∀(i:Nat) x,xs[i]? = bQ x->sj x=bQ (bs.getD i ed)
 | [],bs,h=>by cases h;exact⟨rfl,λi x e=>by simp at e⟩
 | y::xs,bs,h=>by
  obtain⟨b,a,h⟩:=ze h;obtain⟨l,z,h⟩:=zC h;subst h;obtain⟨d,f⟩:=ZK z;refine⟨by simp[d],λi x e=>?_⟩;cases i with
  | zero=>simp at e;subst e;simpa using a
  | succ i=>simpa using f i x (by simpa using e)
theorem eT(bs:List Bool):(GH bs.length).all (λi=>bs.getD i ed)=bs.all id:=by
 rw[Mu];simp only[IP,eY,id_eq];constructor
 ·intro h b z
  obtain⟨i,a,e⟩:=List.mem_iff_getElem.mp z;have:=h i a;rw[GN,GL a]at this;rw[<- e];exact this
 ·intro h i a
  rw[GN,GL a];exact h _<|Ln a
theorem eQ(bs:List Bool):(GH bs.length).any (λi=>bs.getD i ed)=bs.any id:=by
 rw[Mu];simp only[NR,eY,id_eq];constructor
 ·rintro⟨i,a,h⟩
  rw[GN,GL a]at h;exact⟨_,Ln a,h⟩
 ·rintro⟨b,z,h⟩
  obtain⟨i,a,e⟩:=List.mem_iff_getElem.mp z;refine⟨i,a,?_⟩;rw[GN,GL a,Mh,e];exact h
theorem dZ(C:X.calm=di):wL X (.builtin "all") (λxs H Q=>∃p k ys bs,xs=[.ref p]/\l0 k X.K H p ys/\Wx ys=bQ bs/\Q (.bl (bs.all id)) H):=by
 intro pins s σ H P N Q I B h;obtain⟨p,k,ys,bs,rfl,t,w,q⟩:=h;obtain⟨u,rfl,O⟩:=k6 B;cases O;obtain⟨z,r,a,L⟩:=I.sq t;have lt:=a.lt;have U:=r.length;obtain⟨j,l⟩:=ZK w;refine call_all_walk<|K4 a ⟨_,[_,p],[_],z.toArray.size,_,_,λi=>bs.getD i ed,rfl,QU (A:=X.A.in1) (I.ok.hd C) k _ p (Ho lt) z.toArray,⟨QE k _ p,a.at λo e=>GK _ e⟩,?_,?_⟩
 ·intro i v M G F y m
  have d:z[i]? = bQ v:=by simpa using y
  have g:i<ys.length:=by rw[U];exact(GU.mp d).1
  obtain⟨u,f,O⟩:=r.get (i:=i) (x:=ys[i]) (by simp[g]);rw[d]at f;cases f;exact Vv O (l i ys[i] (by simp[g])) m
 ·intro J E n
  have e:(GH z.toArray.size).all (λi=>bs.getD i ed)=bs.all id:=by rw[iN,<- U,<- j];exact eT bs
  refine⟨.bl<|bs.all id,H,I.kept (t':=E)<|λb u e=>n b u ?_ (GK _ e),by rw[e];rfl,q⟩;simp only[GW,Hz,or_false];exact Ho<|GZ e
theorem dY(C:X.calm=di):wL X (.builtin "any") (λxs H Q=>∃p k ys bs,xs=[.ref p]/\l0 k X.K H p ys/\Wx ys=bQ bs/\Q (.bl (bs.any id)) H):=by
 intro pins s σ H P N Q I B h;obtain⟨p,k,ys,bs,rfl,t,w,q⟩:=h;obtain⟨u,rfl,O⟩:=k6 B;cases O;obtain⟨z,r,a,L⟩:=I.sq t;have lt:=a.lt;have U:=r.length;obtain⟨j,l⟩:=ZK w;refine call_any_walk<|K4 a ⟨_,[_,p],[_],z.toArray.size,_,_,λi=>bs.getD i ed,rfl,QU (A:=X.A.in1) (I.ok.hd C) k _ p (Ho lt) z.toArray,⟨QE k _ p,a.at λo e=>GK _ e⟩,?_,?_⟩
 ·intro i v M G F y m
  have d:z[i]? = bQ v:=by simpa using y
  have g:i<ys.length:=by rw[U];exact(GU.mp d).1
  obtain⟨u,f,O⟩:=r.get (i:=i) (x:=ys[i]) (by simp[g]);rw[d]at f;cases f;exact Vv O (l i ys[i] (by simp[g])) m
 ·intro J E n
  have e:(GH z.toArray.size).any (λi=>bs.getD i ed)=bs.any id:=by rw[iN,<- U,<- j];exact eQ bs
  refine⟨.bl<|bs.any id,H,I.kept (t':=E)<|λb u e=>n b u ?_ (GK _ e),by rw[e];rfl,q⟩;simp only[GW,Hz,or_false];exact Ho<|GZ e
end
section
variable{X:Cx}{sc:hG}{N T:List Str}{k:Nat}{e a b c:eA}{pos p p2:g8}{f g:CO D}{fq:CO (Sk×List D)}
theorem sG{K:GI}{H:Hp}{k:Sk}{a:eg}{xs:List V}(h:l0 k K H a xs):f9 K H a xs\/g5 K H a xs:=by
 cases k
 ·exact .inl h
 ·exact .inr h
theorem qx(h:SX X sc N T k)(c:yp sc "len" = di)(z:X.mg "len" = dj)(I:PQ X e fq)(hs:f7 [e] X.env=[(ed,eL e X.env)]:=by rfl):PV X (.Call (.Name "len" p) [e] [] pos) (xP fq):=
 qf (xR Yk (h.gl c).1 z PySem.boot_len (jx I qy hs) ⋯ ⋯ hs rfl) λu H Q O=>by obtain⟨j,s,d,rc,U,q⟩:=O;obtain⟨⟨o,f⟩,l,m⟩:=zC U;subst m;refine⟨j,s,o,f,rc,l,λa g i b ext n t r=>⟨a,g,rfl,sG n,?_⟩⟩;exact q _ i b ext (show V.int g.length = .int f.length by rw[r.length])
theorem qj(h:SX X sc N T k)(c:yp sc "tuple" = di)(z:X.mg "tuple" = dj)(O:PQ X e fq)(hs:f7 [e] X.env=[(ed,eL e X.env)]:=by rfl):PV X (.Call (.Name "tuple" p) [e] [] pos) (je fq):=
 qf (ZZ XR (h.gl c).1 z PyProof.Rows.boot_tuple (jx O qy hs) ⋯ ⋯ hs rfl) λx H Q U=>by
  obtain⟨j,w,d,rc,s,q⟩:=U;obtain⟨⟨g,m⟩,n,o⟩:=zC s;subst o;refine⟨j,w,g,m,rc,n,λa u i b ext f t r=>⟨a,u,rfl,?_⟩⟩;cases g with
  | L=>exact .inl ⟨f,λl I=>q _ _ _ (ext.trans<|Ext.alloc ext.sub I _)<|xo (g5.of zO)<|r.mono<|jd (jt ext.sub I) _⟩
  | T=>exact .inr ⟨f,q _ i b ext (xo (t rfl) r)⟩
theorem kj{H H':Hp}(s:gv H H'){a:eg}(h:H' a=dj):H a=dj:=by
 cases z:H a with
 | none=>rfl
 | some o=>rw[s a o z]at h;cases h
theorem oJ(h:SX X sc N T k)(c:yp sc "list" = di)(z:X.mg "list" = dj)(O:PQ X e fq)(hs:f7 [e] X.env=[(ed,eL e X.env)]:=by rfl):PO X (.Call (.Name "list" p) [e] [] pos) (bj fq):=
 qf (ZZ Yi (h.gl c).1 z PyProof.Rows.boot_list (jx O qy hs) ⋯ ⋯ hs rfl) λx H Q U=>by obtain⟨g,t,d,rc,n,q⟩:=U;obtain⟨⟨s,i⟩,j,m⟩:=zC n;subst m;refine⟨g,t,s,i,rc,j,λa f u b ext o w r=>⟨a,f,rfl,sG o,λl I=>?_⟩⟩;exact q l f _ b (ext.trans<|Ext.hide ext.sub I _) (kj ext.s1 I) (jt ext.sub I) zO r
theorem Kf : ∀{ds:List D} {n:Int},fV ds=bQ n->∃C:List Int,ds=C.map D.int/\n=C.sum
 | [],n,h=>by cases h;exact⟨[],rfl,rfl⟩
 | d::ds,n,h=>by
  cases d with
  | int i=>
   obtain⟨s,e,h⟩:=zC h;obtain⟨C,rfl,rfl⟩:=Kf e;exact⟨i::C,rfl,by rw[<- h];simp⟩
  | _=>cases h
theorem Ks{K:GI}{H:Hp} : ∀{C:List Int} {xs:List V},ej K H (C.map D.int) xs->xs=C.map V.int
 | [],xs,h=>h.o3
 | z::C,xs,h=>by obtain⟨x,r,e,a,b⟩:=ej.mm h;rw[e,jk a,Ks b];rfl
theorem bD(h:SX X sc N T k)(c:yp sc "sum" = di)(z:X.mg "sum" = dj)(U:PQ X e fq)(hs:f7 [e] X.env=[(ed,eL e X.env)]:=by rfl):PV X (.Call (.Name "sum" p) [e] [] pos) (sM fq):=
 qf (xR (dS h.calm) (h.gl c).1 z PyProof.Rows.boot_sum (jx U qy hs) ⋯ ⋯ hs rfl) λA H Q u=>by obtain⟨j,x,d,rc,I,q⟩:=u;obtain⟨⟨f,l⟩,m,I⟩:=ze I;obtain⟨n,o,s⟩:=zC I;subst s;obtain⟨g,O,rfl⟩:=Kf o;have O:l=g.map D.int:=O;subst O;exact⟨j,x,f,_,rc,m,λa w i b ext t y r=>⟨a,f,w,g,rfl,t,Ks r,q _ i b ext rfl⟩⟩
theorem nD{K:GI}{H:Hp}{d:D}{x:V}{b:Bool}(h:Rep K H d x)(e:AG d=bQ b):sj x=bQ b:=by
 cases d with
 | eX=>cases (show x = .eX from h);exact e
 | bl c=>cases (show x = .bl c from h);exact e
 | int i=>cases (show x = .int i from h);exact e
 | _=>cases e
theorem QZ{K:GI}{H:Hp} : ∀{ds:List D} {xs:List V} {bs:List Bool},ej K H ds xs->ZJ ds=bQ bs->Wx xs=bQ bs
 | [],xs,bs,h,e=>by rw[h.o3];exact e
 | d::ds,xs,bs,h,e=>by obtain⟨x,r,z,f,g⟩:=h.mm;obtain⟨b,a,e⟩:=ze e;obtain⟨l,I,e⟩:=zC e;subst z e;show(sj x).bind _=_;rw[nD f a];show((Wx r).map λl=>b::l)=_;rw[QZ g I];rfl
theorem mn(h:SX X sc N T k)(c:yp sc "all" = di)(z:X.mg "all" = dj)(O:PQ X e fq)(hs:f7 [e] X.env=[(ed,eL e X.env)]:=by rfl):PV X (.Call (.Name "all" p) [e] [] pos) (fw fq):=
 qf (xR (dZ h.calm) (h.gl c).1 z PyProof.Rows.boot_all (jx O qy hs) ⋯ ⋯ hs rfl) λw H Q U=>by obtain⟨i,s,d,rc,I,q⟩:=U;obtain⟨⟨f,t⟩,j,I⟩:=ze I;obtain⟨bs,l,m⟩:=zC I;subst m;exact⟨i,s,f,_,rc,j,λa o g b ext n u r=>⟨a,f,o,bs,rfl,n,QZ r l,q _ g b ext rfl⟩⟩
theorem mj(h:SX X sc N T k)(c:yp sc "any" = di)(z:X.mg "any" = dj)(O:PQ X e fq)(hs:f7 [e] X.env=[(ed,eL e X.env)]:=by rfl):PV X (.Call (.Name "any" p) [e] [] pos) (rK fq):=
 qf (xR (dY h.calm) (h.gl c).1 z PyProof.Rows.boot_any (jx O qy hs) ⋯ ⋯ hs rfl) λw H Q U=>by obtain⟨i,s,d,rc,I,q⟩:=U;obtain⟨⟨f,t⟩,j,I⟩:=ze I;obtain⟨bs,l,m⟩:=zC I;subst m;exact⟨i,s,f,_,rc,j,λa o g b ext n u r=>⟨a,f,o,bs,rfl,n,QZ r l,q _ g b ext rfl⟩⟩
theorem Xj(h:SX X sc N T k)(c:yp sc "int" = di)(z:X.mg "int" = dj)(U:PV X e f)(hs:f7 [e] X.env=[(ed,eL e X.env)]:=by rfl):PV X (.Call (.Name "int" p) [e] [] pos) (JQ f):=
 qf (ZZ dX (h.gl c).1 z PyProof.Rows.boot_int (jx U qy hs) ⋯ ⋯ hs rfl) λo H Q m=>by
  obtain⟨j,n,d,rc,I,q⟩:=m;obtain⟨O,l,I⟩:=ze I;refine⟨j,n,O,rc,l,λv g a ext r=>?_⟩;cases O with
  | int i=>cases I;exact .inl ⟨i,by rw[jk r],q _ g a ext rfl⟩
  | bl b=>cases I;exact .inr ⟨b,by rw[show v = .bl b from r],q _ g a ext rfl⟩
  | _=>cases I
theorem mh(h:SX X sc N T k)(c:yp sc "max" = di)(z:X.mg "max" = dj)(C:PV X a f)(J:PV X b g)(hs:f7 [a,b] X.env=[(ed,eL a X.env),(ed,eL b X.env)]:=by rfl)(O:f7 [b] X.env=[(ed,eL b X.env)]:=by rfl) :
 PV X (.Call (.Name "max" p) [a,b] [] pos) (nZ f g):=
 qf (xR (dW h.calm) (h.gl c).1 z PyProof.Rows.boot_max (jx C (jx J qy O)<|by rw[hs,O]) ⋯ ⋯ (by rw[hs,O]) (by rw[O];rfl)) λK H Q B=>by obtain⟨o,n,d,rc,I,q⟩:=B;obtain⟨i,l,I⟩:=ze I;obtain⟨u,y,l⟩:=ze l;obtain⟨j,U,I⟩:=zC I;obtain⟨w,A,U⟩:=ze U;subst I;refine⟨o,n,u,rc,y,λv F e x r=>⟨e,n,w,rc.ext x,A,λG s t E m=>⟨i,j,?_,q _ s t (x.trans E) rfl⟩⟩⟩;rw[jF l]at r;rw[jF U]at m;rw[jk r,jk m]
end
section
variable{X:Cx}{sc:hG}{N T:List Str}{k:Nat}{e a b c:eA}{pos p p2:g8}{f g:CO D}{fq:CO (Sk×List D)}
theorem Wb(h:hB n i=bQ j):Dt n i=bQ j:=by
 unfold hB at h;unfold Dt;split at h
 ·rename_i a;rw[RY a.1,RY a.2];exact h
 ·split at h
  ·rename_i a b;rw[EQ ⋯,RY ⋯];exact h
  ·cases h
theorem zv(J:PQ X a fq)(S:PV X b g)(hs:Vl b:=by intro _ _;rfl):PV X (.Subscript a b pos) (dn fq g):=
 qf (ur (RD.or uV) J S hs) λN H Q C=>by
  obtain⟨o,n,d,rc,z,q⟩:=C;obtain⟨⟨m,w⟩,y,z⟩:=ze z;obtain⟨i,O,z⟩:=ze z;obtain⟨u,A,O⟩:=ze O;obtain⟨j,B,z⟩:=ze z;refine⟨o,n,m,w,rc,y,λp h G e ext l K r=>⟨e,n,u,rc.ext ext,A,λM s t I f=>?_⟩⟩;rw[jF O]at f;obtain⟨x,E,F⟩:=r.get z;have U:C1 h i=bQ x:=by unfold C1;rw[r.length,Wb B];exact E
  have k:=q x s t (ext.trans I)<|F.mono I.s0;cases m with
  | L=>exact .inl ⟨p,h,i,x,rfl,jk f,I.s1.seq l,U,k⟩
  | T=>exact .inr ⟨p,h,i,x,rfl,jk f,mr I.s1 l,U,k⟩
theorem wC{P:il}{w:hH}{A:l6}{E:RQ}{s:el}{t J:eg}{items:Array eh}{I O:eh}{lo C:Option Int}{Q:RQ}(z:DX s.heap t items)(hs:s.heap.IsSliceOf J I O .none)(U:z4 I lo)(S:z4 O C)
 (L:HT.dn items.size 0 lo=0/\HT.dn items.size items.size C=items.size) (h:Q (.ref t) s):wpAny (eK P w) A (A9 (.ref t)<|.ref J) Q E s:=by
 obtain⟨os,a,b,f⟩:=id hs;have d:s.TypeIs (.ref J) "slice":=⟨os,a,b⟩;unfold A9
 try with_reducible refine IX ?_
 first | refine GJ (GS ?_) | skip
 refine GJ (Sj z.typeIs ⋯ ?_);refine GJ (Iv (name:=HU "__getitem__") z.typeIs Il
  (IH Il z.typeIs entry_tuple_getitem ?_ (Rg _ _)))
 show wpAny _ _ (Builtin.Tuple.tupleItemsOf (.ref t) >>= _) _ _ s;refine GJ<|Nc z ?_;refine GJ<|MQ d ?_;rw[RY ⋯];refine GJ<|HT.w5 hs U S ?_;have e:(((HT.dn items.size 0 lo:Nat):Int)==0 && (1:Int)==1 && (HT.dn items.size items.size C - HT.dn items.size 0 lo)==items.size)=di:=by rw[L.1,L.2];simp
 show wpAny _ _ (if (((HT.dn items.size 0 lo:Nat):Int)==0 && (1:Int)==1 && (HT.dn items.size items.size C - HT.dn items.size 0 lo)==items.size)=di then _ else _) _ _ s;rw[RY e];refine GJ (m:=Lp _) ?_;unfold Lp;refine GJ<|MQ z.typeIs<|GS ?_;rw[RY ⋯];exact GJ<|MF<|GS ⟨_,rfl,GS h⟩
noncomputable def BV(K:GI):V->Option Int->Option Int->Hp->VK->Prop:=λx lo d H Q=>∃a b,x = .ref a/\g5 K H a b/\(HT.dn b.length 0 lo=0/\HT.dn b.length b.length d=b.length->Q (.ref a) H)/\∀p,H p=dj->Q (.ref p) (upd H p<|.tup<|pT b lo d)
theorem nW:N0 X (BV X.K):=by
 intro d s u H x v p t lo f o Q I z g O U h;obtain⟨a,b,rfl,j,m,n⟩:=h;by_cases e:HT.dn b.length 0 lo=0/\HT.dn b.length b.length f=b.length
 ·cases z
  obtain⟨k,r,i,w⟩:=I.tuple j;have l:k.toArray.size=b.length:=by rw[iN];exact r.length.symm
  refine⟨"tuple",_,Il.lookup,i.typeIs,?_⟩;exact wC i g O U (by rw[l];exact e) ⟨.ref a,H,I,rfl,m e⟩
 ·exact sI d s u H (.ref a) v p t lo f o Q I z g O U ⟨a,b,rfl,j,e,n⟩
theorem Zu(n d:Nat)(o:Option Int):ag n d o=HT.dn n d o:=by cases o<;>rfl
theorem gz{K:GI}{H:Hp}{ds:List D}{xs:List V}(r:ej K H ds xs)(lo C:Option Int):ej K H (lA ds lo C) (pT xs lo C):=by unfold lA pT;rw[<- Zu,<- Zu,r.length];exact(r.drop _).take _
theorem dN{ds:List D}{lo C:Option Int}(h:HT.dn ds.length 0 lo=0/\HT.dn ds.length ds.length C=ds.length):lA ds lo C=ds:=by unfold lA;rw[Zu,Zu,h.1,h.2];simp
noncomputable def tB(K:GI)(f:CO (Option Int)):TO:=λg H Q=>∃d e o,RC K d H g e/\f e=bQ o/\∀b a,Ext d H a b->Q o b
theorem Xr:L2.PO X dj (tB X.K av):=λa s d H Q I ⟨b,e,o,rc,z,q⟩=>oI a s d H Q I (by cases z;exact q H b<|Ext.refl rc.sub)
theorem Xq(h:PV X e f):L2.PO X (bQ e) (tB X.K<|ri f):=λa s m H Q I ⟨k,l,o,rc,z,q⟩=>oH h a s m H Q I (by
 obtain⟨i,g,O⟩:=zC z;obtain⟨d,U,g⟩:=ze g;subst O;refine⟨k,l,d,rc,U,λv j b x r=>?_⟩;rw[jF g]at r;exact⟨i,jk r,q j b x⟩)
theorem VM{lo C:Option eA}{O U:CO (Option Int)}(J:PV X a f)(S:L2.PO X lo (tB X.K O))(L:L2.PO X C (tB X.K U)):PV X (.Subscript a (.Slice lo C dj p2) pos) (au f O U):=
 qf (gT nW J S L) λR H Q F=>by
  obtain⟨n,g,d,rc,z,q⟩:=F;obtain⟨h,A,z⟩:=ze z;obtain⟨l,B,z⟩:=ze z;obtain⟨u,E,z⟩:=ze z;refine⟨n,g,h,rc,A,λv M b x r=>⟨b,g,l,rc.ext x,B,λN t I=>⟨t,g,u,(rc.ext x).ext I,E,λo w x3=>?_⟩⟩⟩;have m:=x.trans<|I.trans x3;cases h with
  | tup P=>
   cases z;obtain⟨s,G,rfl,i,e⟩:=kC<|r.mono (I.trans x3).s0;have y:=e.length;refine⟨s,G,rfl,mr x3.sub i,λk=>?_,λp j=>?_⟩
   ·rw[y]at k
    exact q _ o w m (by rw[dN k];exact xo i e)
   ·exact q _ _ _ (m.trans<|Ext.alloc x3.sub j _)<|xo (g5.of zO)<|(gz e _ _).mono (jd (jt x3.sub j) _)
  | _=>cases z
theorem Xi{K:GI}{H:Hp}{ds:List D}{xs:List V}(r:ej K H ds xs) : ∀n:Nat,ej K H (GO n ds).flatten (GO n xs).flatten
 | 0=>ej.nil
 | n+1=>by rw[IV,IV,LD,LD];exact r.append<|Xi r n
theorem KA(C:PQ X a fq)(J:PQ X b gq):PO X (.BinOp a .Add b pos) (Kq fq gq):=
 qf (oQ ic C J) λK H Q w=>by
  obtain⟨k,j,E,rc,z,q⟩:=w;obtain⟨⟨x,d⟩,r,z⟩:=ze z;obtain⟨⟨y,e⟩,s,z⟩:=ze z;cases x<;>cases y<;>try (simp at z;done)
  dsimp only at z;by_cases O:d.length+e.length<=lim
  ·rw[RY O]at z;cases z
   refine⟨k,j,.L,d,rc,r,λl h A n x1 t F f=>⟨n,j,.L,e,rc.ext x1,s,λm i B o I u G g=>⟨l,m,h,i,rfl,rfl,I.s1.seq t,u,kL (by rw[f.length,g.length];exact O),λp U=>?_⟩⟩⟩;exact q p (h++i) _ o (x1.trans<|I.trans<|Ext.hide I.sub U _) (kj (x1.trans I).s1 U) (jt I.sub U) zO<|(f.mono I.s0).append g
  ·rw[EQ O]at z;cases z
theorem ud(C:PO X a gn)(J:PV X b g):PO X (.BinOp a .Mult b pos) (nY (jP gn) g):=
 qf (oQ uB C J) λN H Q w=>by
  obtain⟨l,k,E,rc,z,q⟩:=w;obtain⟨⟨K,f⟩,d,z⟩:=ze z;obtain⟨B,s,d⟩:=zC d;cases d;obtain⟨j,U,z⟩:=ze z;obtain⟨r,t,U⟩:=ze U;dsimp only at z;by_cases O:f.length*j.toNat<=lim/\inR j=di
  ·rw[RY O]at z;cases z
   refine⟨l,k,f,rc,s,λm x y n x1 F G u h=>⟨n,k,r,rc.ext x1,t,λv A o I i=>?_⟩⟩;rw[jF U]at i;obtain⟨L,M⟩:=Jp O.2;refine⟨m,j,x,rfl,jk i,I.s1 _ _ u,by omega,by omega,kL (by rw[h.length];exact O.1),λp e=>?_⟩;exact q p _ _ o (x1.trans<|I.trans<|Ext.hide I.sub e _) (kj (x1.trans I).s1 e) (jt I.sub e) zO<|(Xi h _).mono I.s0
  ·rw[EQ O]at z;cases z
theorem uL{K:GI}{t c:String}{b:Bool}(h:(if ((LY t) == .type c)=di then bQ di else if PySem.W.kitMeta c=di then (fastBuiltinMro t).map (·.contains (.type c))else dj)=bQ b):LH K (.type t) (.type c)=bQ b:=h
noncomputable def L6:Ty->String
 | .int=>"int"
 | .bool=>"bool"
 | .str=>"str"
 | .tuple=>"tuple"
 | .list=>"list"
noncomputable def uM:D->String
 | .eX=>"NoneType"
 | .bl _=>"bool"
 | .int _=>"int"
 | .str _=>"str"
 | .tup _=>"tuple"
 | .lst _=>"list"
 | .lN _ _=>"dict"
 | .i7 _ _=>"dict"
theorem KY{K:GI}(T:Ty)(d:D):LH K (.type<|uM d) (.type<|L6 T)=bQ (az T d):=by cases d<;>cases T<;>(dsimp only[uM,L6,az,mI,uX,mF,mE,mH];exact uL ⋯)
theorem iL{C:RW}{L:St}{H0 H:Hp}{s:el}{A:l6}{E:RQ}{Q:RQ}{d:D}{x:V}{u:eh}(I:Inv X C L H s)(sub:gv H0 H)(O:RelV x u)(r:Rep X.K H0 d x)(T:Ty)
 (h : ∀J,Q (.bool (az T d)) {s with toks:=J}):wpAny (eK X.prog X.w) A (call (.builtin "isinstance") [u,.type (L6 T)]) Q E s:=by
 cases d with
 | eX=>have e:=KY (K:=X.K) T .eX;cases (show x = .eX from r);cases (show u=HB from O);exact HG PySem.W.kitx_none I.l9 Lq e (λz=>nomatch z) h
 | bl y=>have e:=KY (K:=X.K) T<|.bl y;cases (show x = .bl y from r);cases (show u=Value.bool y from O);exact HG PySem.W.kitx_bool I.l9 Lq e (λz=>nomatch z) h
 | int i=>have e:=KY (K:=X.K) T<|.int i;cases (show x = .int i from r);obtain⟨t,q⟩:=(show ∃t,u=Nu i t from O);cases q;exact HG PySem.W.kitx_int I.l9 Lq e (λz=>nomatch z) h
 | str y=>have e:=KY (K:=X.K) T<|.str y;cases (show x = .str y from r);obtain⟨t,q⟩:=(show ∃t,u=Nt y t from O);cases q;exact HG PySem.W.kitx_str I.l9 Lq e (λz=>nomatch z) h
 | tup k=>
  have e:=KY (K:=X.K) T<|.tup k;obtain⟨a,b,rfl,f,l⟩:=kC r;cases (show u=Iz a from O);obtain⟨n,F,⟨o,U,m,_⟩,B⟩:=I.tuple<|mr sub f;exact HG PySem.W.kitx_tuple I.l9 ⟨o,U,m⟩ e (λz=>nomatch z) h
 | lst k=>
  have e:=KY (K:=X.K) T<|.lst k;obtain⟨a,b,rfl,f,l⟩:=cN r;cases (show u=Iz a from O);obtain⟨n,F,p,B⟩:=I.list<|sub.seq f;obtain⟨o,U,m,_⟩:=p.isList;exact HG Nw I.l9 ⟨o,U,m⟩ e (λz=>nomatch z) h
 | lN g j=>
  have e:=KY (K:=X.K) T<|.lN g j;obtain⟨a,b,rfl,⟨G,_,_,f⟩,_⟩:=(show ∃a b,x = .ref a/\Dg H0 a g b/\ej X.K H0 j b from r);exact cZ I O (.dK<|sub _ _ f) e h
 | i7 g j=>
  have e:=KY (K:=X.K) T<|.i7 g j;obtain⟨a,b,rfl,⟨_,o,M,f,l,_⟩,_⟩:=(show ∃a b,x = .ref a/\F0 X.K H0 a g b/\ej X.K H0 j b from r);cases (show u=Iz a from O);obtain⟨U,_⟩:=(show i6 X.prog X.w H s.heap a (O2 a o)from I.f6 a _<|sub _ _ f);exact HG Nx I.l9 ⟨o,U,l.1.1⟩ e (λz=>nomatch z) h
theorem gA(T:Ty)(h:SX X sc N L k)(c:yp sc "isinstance" = di)(z:X.mg "isinstance" = dj)(O:yp sc ty=di)(S:X.mg ty=dj)(J:C2 ty=bQ (.type (L6 T)))(C:PV X a f)
 (hs:f7 [a,.Name ty p2] X.env=[(ed,eL a X.env),(ed,eL (.Name ty p2) X.env)]:=by rfl):PV X (.Call (.Name "isinstance" p) [a,.Name ty p2] [] pos) (m8 T f):=by
 intro e s G H Q I ⟨i,F,d,rc,t,q⟩;obtain⟨l,n,o⟩:=zC t;subst o;refine Me<|yo I (h.gl c).1 z PyProof.Rows.boot_isinstance ?_ ⋯ ⋯;refine Nd ?_ (by rw[hs];rfl) rfl;rw[hs];show wpAny _ _ (I7 ((ed,eL a X.env)::pk pos [(ed,eL (.Name ty p2) X.env)])) _ _ s;refine Mz<|e9 (C e s G H _ I ⟨i,F,l,rc,n,λv g b x r=>(show(λv g=>∃b,Ext i H b g/\Rep X.K b l v) v g from⟨b,x,r⟩)⟩) λu B w=>?_;obtain⟨x,j,U,y,m,x1,A⟩:=w;show wpAny _ _ (I7 ((ed,eL (.Name ty p2) X.env)::[])) _ _ B;refine Mz<|yo U (h.gl O).1 S J ?_ (h.gl O).2.1 (h.gl O).2.2;refine NF ?_;exact iL U x1.sub y A T λE=>⟨.bl _,j,U.tok E,rfl,q _ j m x1 rfl⟩
end
section
variable{X:Cx}{sc:hG}{N L:List Str}{k:Nat}{e a b c:eA}{pos p p2:g8}{f g:CO D}{fq:CO (Sk×List D)}
theorem z5(h:SX X sc N L k)(c:yp sc "range" = di)(z:X.mg "range" = dj)(C:PV X a f)(hs:f7 [a] X.env=[(ed,eL a X.env)]:=by rfl):ij X tg (.Call (.Name "range" p) [a] [] pos) (zR f):=WQ (h.gl c).1 z C hs
theorem VS(h:SX X sc N L k)(c:yp sc "range" = di)(z:X.mg "range" = dj)(C:PV X a f)(I:PV X b g)(hs:f7 [a,b] X.env=[(ed,eL a X.env),(ed,eL b X.env)]:=by rfl)(O:f7 [b] X.env=[(ed,eL b X.env)]:=by rfl) :
 ij X tg (.Call (.Name "range" p) [a,b] [] pos) (Xe f g):=WO (h.gl c).1 z C I hs O
theorem wO(h:SX X sc N L k)(c:yp sc "zip" = di)(z:X.mg "zip" = dj)(C:PV X a f)(I:PV X b g)(hs:f7 [a,b] X.env=[(ed,eL a X.env),(ed,eL b X.env)]:=by rfl)(O:f7 [b] X.env=[(ed,eL b X.env)]:=by rfl) :
 ij X (.Tuple elts x1 u6) (.Call (.Name "zip" p) [a,b] [] pos) (YB f g):=oN (h.gl c).1 z C I hs O
theorem bJ(h:SX X sc N L k)(c:yp sc "isinstance" = di)(z:X.mg "isinstance" = dj)(I:yp sc "int" = di)(O:X.mg "int" = dj)(C:PV X a f)
 (hs:f7 [a,.Name "int" p2] X.env=[(ed,eL a X.env),(ed,eL (.Name "int" p2) X.env)]:=by rfl):PV X (.Call (.Name "isinstance" p) [a,.Name "int" p2] [] pos) (m8 .int f):=gA .int h c z I O PyProof.Rows.boot_int C hs
theorem WI(h:SX X sc N L k)(c:yp sc "isinstance" = di)(z:X.mg "isinstance" = dj)(I:yp sc "bool" = di)(O:X.mg "bool" = dj)(C:PV X a f)
 (hs:f7 [a,.Name "bool" p2] X.env=[(ed,eL a X.env),(ed,eL (.Name "bool" p2) X.env)]:=by rfl):PV X (.Call (.Name "isinstance" p) [a,.Name "bool" p2] [] pos) (m8 .bool f):=gA .bool h c z I O PyProof.Rows.boot_bool C hs
theorem kG(h:SX X sc N L k)(c:yp sc "isinstance" = di)(z:X.mg "isinstance" = dj)(I:yp sc "tuple" = di)(O:X.mg "tuple" = dj)(C:PV X a f)
 (hs:f7 [a,.Name "tuple" p2] X.env=[(ed,eL a X.env),(ed,eL (.Name "tuple" p2) X.env)]:=by rfl):PV X (.Call (.Name "isinstance" p) [a,.Name "tuple" p2] [] pos) (m8 .tuple f):=gA .tuple h c z I O PyProof.Rows.boot_tuple C hs
theorem WH(h:SX X sc N L k)(c:yp sc "isinstance" = di)(z:X.mg "isinstance" = dj)(I:yp sc "list" = di)(O:X.mg "list" = dj)(C:PV X a f)
 (hs:f7 [a,.Name "list" p2] X.env=[(ed,eL a X.env),(ed,eL (.Name "list" p2) X.env)]:=by rfl):PV X (.Call (.Name "isinstance" p) [a,.Name "list" p2] [] pos) (m8 .list f):=gA .list h c z I O PyProof.Rows.boot_list C hs
theorem gF(C:PQ X a fq)(I : ∀z,Ds a X.env z=(do let v <- z;Dx a.pos;rp [v] (E5 v)):=by intro _;rfl):l7 X a (nX fq):=
 YE (gG C I) λo H Q O=>by
  obtain⟨j,m,t,rc,U,q⟩:=O;obtain⟨⟨h,b⟩,k,l⟩:=zC U;subst l;refine⟨j,m,h,b,rc,k,λp d i f ext g n r=>⟨!b.isEmpty,?_,q i f ext⟩⟩;have e:d.isEmpty=b.isEmpty:=by have:=r.length;cases d<;>cases b<;>simp_all
  rw[<- e];cases h with
  | L=>exact .inl ⟨d,g,rfl⟩
  | T=>exact .inr<|.inl ⟨d,g,rfl⟩
theorem tP(C:PV X a f):PV X (.UnaryOp .USub a pos) (sO f):=
 qf (Ce rZ C) λl H Q z=>by obtain⟨h,k,d,rc,I,q⟩:=z;obtain⟨i,e,O⟩:=zC I;obtain⟨U,j,e⟩:=ze e;subst O;refine⟨h,k,U,rc,j,λv g b x r=>?_⟩;rw[jF e]at r;exact⟨i,jk r,q _ g b x rfl⟩
theorem y8(i:Nat)(h:SX X sc N L k)(c:QW sc N i x=di)(C:PV X a f)(hs:f7 [a] X.env=[(ed,eL a X.env)]:=by rfl)
 (z:F5 (.Name x np) "append" X.env (eL (.Name x np) X.env)=eL (.Name x np) X.env:=by rfl)
 (I:((pk cpos<|starEach [a] X.env).all (λx=> !x.1) && (F6 cpos<|keywordEach [] X.env).all (λx=>x.1.isSome)
   && decide ([a].length+([]:List A1).length+(if ([]:List A1).isEmpty then 0 else 1)<30))=di:=by rfl)
 (O:(apos.endLine==cpos.line)=di:=by rfl) (U:wh (.Call (.Attribute (.Name x np) "append" apos) [a] [] cpos) dj pos.line X.env=pure ed:=by rfl) :
 k0 X (.Expr (.Call (.Attribute (.Name x np) "append" apos) [a] [] cpos) pos) (qi i f):=
 WL i (gX MK PySem.F.slot_list_append PySem.F.type_list_append cI (h.var c) (jx C qy hs) z I O hs rfl) U
theorem jQ(i:Nat){st:i5}{f:CO (List D)}(h:PS X st (Wz (tO X.K f)<|yq i)):k0 X st (jD i<|jU f):=x9 h λD u H O=>by obtain⟨E0,E,g,o,s,z,I,U⟩:=O;obtain⟨d,b,I⟩:=zC I;obtain⟨k,l,b⟩:=zC b;subst I b;exact⟨g,o,k,z.rc,l,λa t p j x m e n r=>U _ _ _<|(z.step<|x.show m e n z.rc.sub).we (ZV (f9.of zO)<|r.mono<|jd e _)⟩
theorem RR(i:Nat)(h:SX X sc N L k)(c:k7 sc N L i y=di)
 (z:X.calm=di) (ok:p9 X scope fr) (I : ∀i∈T.idx,i<own.length) (S:ql X tg iter src) (O : ∀fp J C,PG (jn X scope (own++fr.map (·.1)) fp J C) tg<|o7 X.K T)
 (U : ∀fp J C,PV (jn X scope (own++fr.map (·.1)) fp J C) elt f) (hs : ∀x,ow iter X.env x=pure x:=by intro _;rfl) :
 PS X (.Assign [.Name y py] (.ListComp elt [⟨tg,iter,[],0⟩] scope cpos) spos) (Wz (tO X.K<|zS src T own.length (fr.map (·.2)) jj f)<|yq i):=by
 obtain⟨a,b,d⟩:=h.loc c;exact gN h.D6 a b d z ok I S O U hs
theorem Cb(i:Nat)(h:SX X sc N L k)(c:k7 sc N L i y=di)
 (z:X.calm=di) (ok:p9 X scope fr) (I : ∀i∈T.idx,i<own.length) (Y:ql X tg iter src) (O : ∀fp J C,PG (jn X scope (own++fr.map (·.1)) fp J C) tg<|o7 X.K T)
 (U : ∀fp J C,l7 (jn X scope (own++fr.map (·.1)) fp J C) DG kk) (S : ∀fp J C,PV (jn X scope (own++fr.map (·.1)) fp J C) elt f) (hs : ∀x,ow iter X.env x=pure x:=by intro _;rfl) :
 PS X (.Assign [.Name y py] (.ListComp elt [⟨tg,iter,[DG],0⟩] scope cpos) spos) (Wz (tO X.K<|zS src T own.length (fr.map (·.2)) kk f)<|yq i):=by
 obtain⟨a,b,d⟩:=h.loc c;exact WM h.D6 a b d z ok I Y O U S hs
theorem Kw(i:Nat)(h:SX X sc N L k)(c:QW sc N i x=di)(Z:PV X b g)(Y:PV X e f)
 (S : ∀v,sh (.Subscript (.Name x np) b p) X.env v=(do
   let I <- rp [v] (eL (.Name x np) X.env);let iv <- rp [v,I] (eL b X.env)
   Dx p
   rp [v,I,iv] (OK I iv v)
   Pk [v,I,iv] []):=by intro _;rfl)
 (hs:I9 [.Subscript (.Name x np) b p] e pos.line X.env=pure ed:=by rfl) (hw:OO [.Subscript (.Name x np) b p] e X.env=pure dj:=by rfl)
 (C:(vr [.Subscript (.Name x np) b p] X.env).map (·.2)=[sh (.Subscript (.Name x np) b p) X.env]:=by rfl) :
 k0 X (.Assign [.Subscript (.Name x np) b p] e pos) (VG i g f):=
 x9 (VQ Y (mx (h.var c) Z VD S) hs hw C) λD σ H Q=>by obtain⟨E0,E,w,u,fl,t,z,y⟩:=Q;obtain⟨d,J,z⟩:=ze z;obtain⟨G,O,z⟩:=ze z;obtain⟨R,n,z⟩:=ze z;obtain⟨F,K,n⟩:=ze n;obtain⟨j,M,z⟩:=zC z;subst z;have O:=xW O;refine⟨w,u,d,t.rc,J,λv T l x r=>?_⟩;have m:=t.step x;obtain⟨a,xs,C,h2,P,o⟩:=m.rc.own i G O;refine⟨_,C,l,u,F,m.rc,K,λv2 W A U s=>?_⟩;rw[jF n]at s;have B:=m.step U;refine⟨a,xs,R,j,rfl,jk s,U.s1 _ _ P,by rw[o.length];exact Wb M,?_⟩;exact y _ _ A<|B.rewrite (xs:=xs) O C<|(o.mono U.s0).set j (r.mono U.s0)
theorem yF(O:PG X tg (o7 X.K T))(U:PV X e f)(hs:I9 [tg] e pos.line X.env=pure ed:=by rfl)(J:OO [tg] e X.env=pure dj:=by rfl)
 (C:(vr [tg] X.env).map (·.2)=[sh tg X.env]:=by rfl):k0 X (.Assign [tg] e pos) (w6 T f):=
 x9 (VQ U O hs J C) λD p H l=>by obtain⟨E0,E,h,m,o,I,z,i⟩:=l;obtain⟨d,j,z⟩:=ze z;obtain⟨n,k,z⟩:=zC z;subst z;refine⟨h,m,d,I.rc,j,λv g a x r=>?_⟩;exact vP x.sub r k λb _ a4=>i b g a<|a4 E0 E<|I.step x
end
structure gm(P:il)(w:hH)(K:GI)(mg:RJ)(base:fy)(k:Nat)(x:Str)(n:Nat)(F:List D->Option Res):Prop where
 ex : ∃(f:eg) (fd:o5) (ps:List Str),ps.length=n/\o4 P w K mg base o8 k f fd ps (p8 K ps.length F)/\mg x=bQ (.ref f)/\Mv K (.ref f)=di/\Binds K fd ps []
structure gR(K:GI)(mg:RJ)(x:Str)(st:i5)(ps:List Str):Prop where
 ex : ∃(f:eg) (fd:o5),L2.Dh K x x st f fd/\(∀us:List eh,us.length=ps.length->O3 fd ⟨us,[]⟩=pure (ps.zip us))/\mg x=bQ (.ref f)
noncomputable def C0(X:Cx)(C:List eA)(n:Nat)(g:CO (List D)):Prop:=A2 X C g/\∀b a,g b=bQ a->a.length=n
section
variable{X:Cx}{sc:hG}{N L:List Str}{k:Nat}{e:eA}{es:List eA}{f:CO D}{g:CO (List D)}{n:Nat}{pos p:g8}{x:Str}
theorem zl:C0 X [] 0 zF:=⟨oU,λb a h=>by cases h;rfl⟩
theorem za(C:PV X e f)(z:C0 X es n g)(hs:f7 (e::es) X.env=(ed,eL e X.env)::f7 es X.env:=by rfl):C0 X (e::es) (n+1) (zb f g):=
 ⟨hJ C z.1 hs,λa b h=>by obtain⟨y,d,h⟩:=ze h;obtain⟨r,I,h⟩:=zC h;subst h;rw[ID,z.2 a r I]⟩
variable{j:Nat}{F:List D->Option Res}
theorem Ca(z:gm X.prog X.w X.K X.mg X.base j x n F)(I:j<=k)(h:SX X sc N L k)(c:yp sc x=di)(C:C0 X (e::es) n g)
 (O:f7 (e::es) X.env=(ed,eL e X.env)::f7 es X.env:=by rfl) (U:(pk pos<|starEach es X.env).any (·.1)=ed:=by rfl):PV X (.Call (.Name x p) (e::es) [] pos) (zE F g):=by
 obtain⟨l,m,o,i,G,f,d,b⟩:=z.ex;subst i;exact ou (A0:=[]) G C.1 C.2 λ{t} a=>cn G (h.room.mono I) (h.gl c).1 f d b .nil ux a (h.gl c).2.2 O U
theorem Cd(z:gm X.prog X.w X.K X.mg X.base j x n F)(I:j<=k)(h:SX X sc N L k)(c:yp sc x=di)(C:C0 X (e::es) n g)
 (O:f7 (e::es) X.env=(ed,eL e X.env)::f7 es X.env:=by rfl) (U:(pk pos<|starEach es X.env).any (·.1)=ed:=by rfl):PO X (.Call (.Name x p) (e::es) [] pos) (jl F g):=by
 obtain⟨l,m,o,i,G,f,d,b⟩:=z.ex;subst i;exact oM G C.1 C.2 λ{t} a=>cn G (h.room.mono I) (h.gl c).1 f d b .nil ux a (h.gl c).2.2 O U
end
section
variable{P:il}{w:hH}{K:GI}{mg:RJ}{base:fy}
noncomputable def lq(N ps:List Str)(st:i5):Bool:=
 decide ((jz st).kind = .function) && decide ((jz st).isCoroutine=ed) && decide ((jz st).isGenerator=ed) && decide N.Nodup && decide (N.take ps.length=ps) &&
 ps.all (λx=>decide ((jz st).names.lookup x=bQ .local) || decide ((jz st).names.lookup x=bQ .cell)) && (jz st).names.all (λy=> !(y.2==Hv))
theorem VF{N ps:List Str}{st:i5}(h:lq N ps st=di):DV N ps (jz st):=by unfold lq at h;simp only[Hb,decide_eq_true_eq,IP,Ip,IT]at h;obtain⟨⟨⟨⟨⟨⟨a,b⟩,z⟩,I⟩,O⟩,U⟩,d⟩:=h;exact⟨a,b,z,I,O,U,λy f e=>by have:=d y f;rw[e]at this;exact absurd this ⋯⟩
theorem my{X:Cx}(hx:X.xe=λ_ _=>False):M8 (eK X.prog X.w) X.A X.env X.xe:=by rw[hx];exact PassesOwn.never
theorem qZ{x:Str}{st:i5}{N ps:List Str}{k:Nat}{F:CO Fl}(A:gR K mg x st ps)(C:lq N ps st=di)
 (I : ∀X:Cx,X.prog=P->X.w=w->X.K=K->X.mg=mg->X.base=base->SX X (jz st) N N k->X.xe=(λ_ _=>False)->eW X (kQ st) F) :
 gm P w K mg base (k+1) x ps.length (jf N.length F):=by
 obtain⟨f,d,z,O,e⟩:=A.ex;have S:=VF C;refine⟨f,d,ps,rfl,Ad z S λb A a s H E U=>?_,e,z.kp,.all O⟩;exact I _ rfl rfl rfl rfl rfl ⟨rfl,rfl,S.nd,rfl,U,λ_ _=> .inl rfl⟩ rfl
theorem ET{h:fy}{x:Str}{st:i5}{ps:List Str}{f:eg}{Y:eh}{Z J:Option eg}{O:Array (Option eh)}{kV I L C ct:eh}(z:K.In h)(G:h.Ns u0 mg)
 (a:PySem.W.nsIn K u0 x=bQ (bQ (.ref f))) (l:K.lookup f=bQ ⟨Y,Z,.func<|LZ x x (Ju st) (kQ st) (jz st) .none kV I L J C ct,O⟩)
 (c:MY K C x=di) (S:Mv K (.ref f)=di)
 (b : ∀(kV I L:eh) (J:Option eg) (C ct:eh) (us:List eh),us.length=ps.length->O3 (LZ x x (Ju st) (kQ st) (jz st) .none kV I L J C ct) ⟨us,[]⟩=pure (ps.zip us)):gR K mg x st ps:=
 ⟨f,_,Ac l c S,b kV I L J C ct,PySem.W.mg_of z G a⟩
theorem Cz{x:Str}{st:i5}{f:eg}{C:o5}{N ps:List Str}{k:Nat}{F:CO Fl}(z:L2.Dh K x x st f C)(J:lq N ps st=di)
 (I : ∀X:Cx,X.prog=P->X.w=w->X.K=K->X.mg=mg->X.base=base->SX X (jz st) N N k->X.xe=(λ_ _=>False)->eW X (kQ st) F) :
 o4 P w K mg base o8 (k+1) f C ps (p8 K ps.length<|jf N.length F):=by
 have S:=VF J;exact Ad z S λb A a s H E O=>I _ rfl rfl rfl rfl rfl ⟨rfl,rfl,S.nd,rfl,O,λ_ _=> .inl rfl⟩ rfl
theorem Bd{F:List D->Option Res}{H:Hp}{a:eg}{C:List Int}(z:f9 K H a (C.map V.int))(I:F [.lst (C.map D.int)]=bQ (.val<|.bl di)) :
 p8 K 1 F [.ref a] H (λv _=>v = .bl di) λ_ _ _=>False:=by
 refine⟨H,[.lst (C.map D.int)],.val<|.bl di,gv.refl _,ej.cons (ZV z ?_) ej.nil,rfl,I,λv d b _ r=>r⟩;clear I z
 induction C with
 | nil=>exact ej.nil
 | cons n C O=>exact ej.cons rfl O
end
end DL
namespace DL
open PySem PySem.Spec PyProof.Rows L2
open PySem.W (KasT kas_sort kas_ask kat_run kat_snds kat_lt kat_cons kat_no kat_kind KatTups KatGo)
noncomputable def AA(h:fy)(v:eh)(k:Int):Prop:=∃x o a m t,v = .ref x/\h.get? x=bQ o/\o.cls = .type "tuple"/\o.data = .seq a m/\a[0]? = bQ (.int k t)
theorem cW : ∀{vs:List eh} {ks:Nat->Int},(∀i (C:i<vs.length),AA h vs[i] (ks i))->∃fs,KatTups h vs fs/\fs.length=vs.length/\∀f∈fs,∃k t,f=Nu k t
 | [],ks,_=>⟨[],KatTups.nil,rfl,λf z=>by cases z⟩
 | v::vs,ks,H=>by
  obtain⟨fs,e,g,I⟩:=cW (vs:=vs) (ks:=λi=>ks<|i+1) λi C=>H (i+1) (by simpa using C);obtain⟨x,o,j,m,t,a,O,U,b,d⟩:=H 0 ⋯;have a:v = .ref x:=a;subst a;exact⟨.int (ks 0) t::fs,KatTups.cons O U b d e,by simp[g],λf z=>by
   rcases GW.mp z with rfl | z
   ·exact⟨_,_,rfl⟩
   ·exact I f z⟩
end DL
namespace DL
open PySem PySem.Spec PyProof.Rows L2
open AutoSeq1 (wpAny_loadPart')
theorem Zh:fillsNumberSlot (.type "tuple") "mul" = pure ed:=
 PySem.fillsNumberSlot_seq (id:="tuple.__mul__") (r:=bQ (.builtin "tuple.__rmul__")) Mo.lookup ⋯ F.slot_tuple_rmul.lookup ⋯
theorem Kt:seqRepeat? (.type "tuple")=pure (bQ (.builtin "tuple.__mul__")):=by unfold seqRepeat?;rw[PySem.seqSlot_of (T:="tuple") (name:="__mul__") (id:="tuple.__mul__") Mo.lookup ⋯,PySem.seqSlot_of (T:="tuple") (name:="__rmul__") (id:="tuple.__rmul__") F.slot_tuple_rmul.lookup ⋯];rfl
theorem JV(a:Int)(t:qs)(l:eg)(items:Array eh)(n:Nat)(z:Option eg)(C:Array (Option eh)) :
 DY (n6.«int.__rmul__» ⟨[.int a t,.ref l],[]⟩) (λ_ R s=>s.heap.get? l=bQ {cls:= .type "tuple",dict:=z,data:= .seq items n,slots:=C}/\R (.ok (.ret Value.notImplemented)) s):=
 .of_wp λb w A R s h=>by obtain⟨I,g,d,O,os⟩:=s;obtain⟨U,h⟩:=h;wp_walk;exact⟨_,rfl,h⟩
theorem QY(a:Int)(t:qs)(l:eg)(items:Array eh)(n:Nat)(I:Option eg)(Y:Array (Option eh))(C : ¬(decide (a < -(2 ^ 63)) || decide (a>=2 ^ 63))=di)(J : ¬(items.isEmpty || a==1)=di)
 (O : ¬(decide (a<=0) || items.isEmpty)=di) (U : ¬((items.size:Int)*a>(2 ^ 63 - 1)/8)) (L : ¬Builtin.Tuple.tupleTooMany ((items.size:Int)*a)=di) (S:((GO a.toNat items).foldl (· ++ ·) #[]).size<=fA) :
 DY (n6.«tuple.__mul__» ⟨[.ref l,.int a t],[]⟩) (λ_ R s=>s.heap.get? l=bQ {cls:= .type "tuple",dict:=I,data:= .seq items n,slots:=Y}/\
  R (.ok (.ret (.ref s.heap.objs.size))) {s with heap:=s.heap.push {cls:= .type "tuple",data:= .seq ((GO a.toNat items).foldl (· ++ ·) #[])}}):=
 .of_wp λb w A R s h=>by
  obtain⟨e,g,d,f,os⟩:=s;obtain⟨z,h⟩:=h
  wp_walk using IZ z
  rw[EQ C];refine GJ<|Nc (s:=⟨e,g,d,f,os⟩) ⟨_,z,rfl,n,rfl⟩ ?_;dsimp only;rw[EQ J,EQ O,EQ U,EQ L];refine GJ (m:=IF _)<|Iu ?_ S;exact GS ⟨_,rfl,h⟩
theorem JM(a:Int)(t:qs)(l:eg)(items:Array eh)(n:Nat)(I:Option eg)(L:Array (Option eh))(C : ¬(decide (a < -(2 ^ 63)) || decide (a>=2 ^ 63))=di)(J : ¬(items.isEmpty || a==1)=di)
 (O:(decide (a<=0) || items.isEmpty)=di) :
 DY (n6.«tuple.__mul__» ⟨[.ref l,.int a t],[]⟩) (λ_ R s=>s.heap.get? l=bQ {cls:= .type "tuple",dict:=I,data:= .seq items n,slots:=L}/\
  R (.ok (.ret (.ref s.heap.objs.size))) {s with heap:=s.heap.push {cls:= .type "tuple",data:= .seq #[]}}):=
 .of_wp λb w A R s h=>by
  obtain⟨U,g,d,e,os⟩:=s;obtain⟨z,h⟩:=h
  wp_walk using IZ z
  rw[EQ C];refine GJ<|Nc (s:=⟨U,g,d,e,os⟩) ⟨_,z,rfl,n,rfl⟩ ?_;dsimp only;rw[EQ J,RY O];refine GJ (m:=IF _)<|Iu ?_ (HX _);exact GS ⟨_,rfl,h⟩
theorem JL(a:Int)(t:qs)(l:eg)(items:Array eh)(n:Nat)(I:Option eg)(L:Array (Option eh))(C : ¬(decide (a < -(2 ^ 63)) || decide (a>=2 ^ 63))=di)(J:(items.isEmpty || a==1)=di) :
 DY (n6.«tuple.__mul__» ⟨[.ref l,.int a t],[]⟩) (λ_ R s=>s.heap.get? l=bQ {cls:= .type "tuple",dict:=I,data:= .seq items n,slots:=L}/\R (.ok (.ret (.ref l))) s):=
 .of_wp λb w A R s h=>by
  obtain⟨O,g,d,U,os⟩:=s;obtain⟨z,h⟩:=h
  wp_walk using IZ z
  rw[EQ C];refine GJ (Nc (s:=⟨O,g,d,U,os⟩) ⟨_,z,rfl,n,rfl⟩ ?_);dsimp only;rw[RY J];refine GJ (m:=Lp _) ?_;unfold Lp;refine GJ (MQ (T:="tuple") ⟨_,z,rfl⟩ (GS ?_));rw[RY ⋯];exact GJ (MF (GS ⟨_,rfl,h⟩))
section
variable{X:Cx}
noncomputable def tG(K:GI):R2:=λx y H Q=>∃l k a,x = .ref l/\y = .int k/\g5 K H l a/\ -(2 ^ 62)<=k/\k<2 ^ 62/\a.length*k.toNat<=fA/\(a=[]\/k=1->Q (.ref l) H)/\
 ∀p,H p=dj->Q (.ref p) (upd H p<|.tup (GO k.toNat a).flatten)
theorem oW:iQ X (sm .Mult) (tG X.K):=by
 intro E s σ H x y v u Q I Y Z h;obtain⟨l,k,J,rfl,rfl,P,h1,h2,C,W,G⟩:=h;cases Y;obtain⟨t,rfl⟩:=Z;obtain⟨z,r,R,z1⟩:=I.tuple P;obtain⟨⟨N,a,j,b⟩,O,w,n,A⟩:=id R;simp only at w A;subst w A;have as:=r.length;have g1 : ¬(decide (k < -(2 ^ 63)) || decide (k>=2 ^ 63))=di:=by simp;omega
 refine Sg (T:="tuple") (U:="int") ⋯ ⟨_,O,rfl⟩ (λs'=>NY s' k t) Zh F.fills_int_mul Nl Kt F.slot_int_index.lookup
  (LM Nl (NY s k t) F.entry_int_rmul (F.args_int_rmul_2 _ _) (JV k t l z.toArray n a b) ⟨O,rfl,⟨_,O,rfl⟩,?_⟩)
 have p : ∀m:Nat,NH (λx1 i=>x1++i) #[] (GO m z.toArray)=(GO m z).flatten.toArray:=λm=>by have:=Js z m [];rw[Mp]at this;exact this
 by_cases g2:(z.toArray.isEmpty || k==1)=di
 ·refine LM Mo ⟨_,O,rfl⟩ NV (NN _ _) (JL k t l z.toArray n a b g1 g2) ⟨O,⟨.ref l,H,I,rfl,W ?_⟩⟩
  rw[Ip]at g2;rcases g2 with g | g
  ·left
   have:z=[]:=by simpa using g
   exact(r.G7).mp this
  ·right;simpa using g
 ·have d:=g2
  simp only[Ip,not_or]at d;have L:z ≠ []:=by intro e;exact d.1 (by rw[e];rfl)
  have b7:0<z.length:=List.length_pos_iff.mpr L;by_cases g3:(decide (k<=0) || z.toArray.isEmpty)=di
  ·have B:k.toNat=0:=by
    rw[Ip]at g3;rcases g3 with g | g
    ·have:=of_decide_eq_true g;omega
    ·exact absurd g d.1
   refine LM Mo ⟨_,O,rfl⟩ NV (NN _ _) (JM k t l z.toArray n a b g1 g2 g3) ⟨O,?_⟩;refine⟨.ref s.heap.objs.size,_,I.laid (t':=s.toks) (o:= .tup (GO k.toNat J).flatten) (λc S q=>GK _ q) (GQ _) ?_,rfl,G _<|I.f6.fresh<|GQ _⟩;rw[B];exact⟨HX _,[],.nil,u9.new _ _⟩
  ·have B : ¬k<=0:=by intro g;exact g3 (by rw[Ip];exact .inl<|decide_eq_true g)
   have f:z.length*k.toNat<=fA:=by rw[<- as];exact C
   have b8:((z.toArray.size:Nat):Int)*k<=(fA:Int):=by
    rw[iN];have e:((z.length*k.toNat:Nat):Int)=(z.length:Int)*k:=by rw[Int.natCast_mul,Ny ⋯]
    omega
   have b9:fA=16777216:=LK;have M:(NH (λx1 i=>x1++i) #[] (GO k.toNat z.toArray)).size<=fA:=by rw[p,iN,YV,Nf];exact f
   refine LM Mo ⟨_,O,rfl⟩ NV (NN _ _) (QY k t l z.toArray n a b g1 g2 g3 ⋯ (by unfold Builtin.Tuple.tupleTooMany;simp only[decide_eq_true_eq];omega) M) ⟨O,?_⟩;rw[p];refine⟨.ref s.heap.objs.size,_,I.laid (t':=s.toks) (o:= .tup (GO k.toNat J).flatten) (λc S q=>GK _ q) (GQ _) ?_,rfl,G _<|I.f6.fresh<|GQ _⟩;exact⟨by rw[YV,Nf];exact C,_,r.rep k.toNat,u9.new _ _⟩
theorem nR{K:GI}:m7 K (λx y H Q=>rI DB (λi j=> .int (i*j)) x y H Q\/tG K x y H Q) yV:=λh H x y l m d Q s O U z q=>by
 cases l<;>cases m<;>simp[yV]at z
 ·obtain⟨n,I⟩:=z
  subst I;exact .inl ⟨_,_,jk O,jk U,lF n,q _ H h (Ext.refl s) rfl⟩
 ·rename_i f j
  obtain⟨⟨r,o⟩,rfl⟩:=z;obtain⟨a,w,rfl,g,b⟩:=kC O;obtain⟨t,u⟩:=Jp o;refine .inr ⟨a,j,w,rfl,jk U,mr s g,t,u,kL (by rw[b.length];exact r),λe=>?_,λp k=>?_⟩
  ·refine q _ H h (Ext.refl s) ?_
   rcases e with e | e
   ·have I:f=[]:=by
     have:=b.length;rw[e]at this;exact HF this.symm
    subst I;rw[show(GO j.toNat ([]:List D)).flatten=[]by simp];exact xo g b
   ·subst e
    rw[show(GO (1:Int).toNat f).flatten=f by simp];exact xo g b
  ·exact q _ _ _ (Ext.alloc s k _)<|xo (g5.of zO)<|(Xi b _).mono (jd (jt s k) _)
theorem xE(C:PV X a fa)(z:PV X b fb):PV X (.BinOp a .Mult b pos) (zH yV fa fb):=J5 (RP.or oW) nR C z
end
end DL
namespace DL
open PySem PySem.Spec PyProof.Rows L2
theorem RC.RF{K:GI}{H0 H:Hp}{L:St}{γ:Ctx}{i:Nat}{ds:List D}{a:eg}{xs:List V}(r:RC K H0 H L γ)(e:γ[i]? = bQ (.own ds))(J:L[i]? = bQ (bQ (.ref a)))(C:H0 a=dj)(S:H a=bQ (.lst xs))(Y:ej K H0 ds xs):RC K (L2.upd H0 a<|.lst xs) H L (γ.set i<|.val<|.lst ds):=by
 refine⟨λb o q=>?_,by simp[r.len],λj d g=>?_,λj l g=>?_,λj k b l fs f I t u=>?_,⟨λj h g=>?_,λj k x y f I=>?_⟩⟩
 ·by_cases z:b=a
  ·subst z;rw[zO]at q;rw[S];exact q
  ·rw[zI z]at q;exact r.sub b o q
 ·rcases zD g with⟨rfl,z,E⟩ | ⟨U,z⟩
  ·cases z;exact⟨_,J,ZV (f9.of zO)<|Y.mono<|jd C _⟩
  ·obtain⟨v,g1,g2⟩:=r.val j d z
   exact⟨v,g1,g2.mono<|jd C _⟩
 ·rcases zD g with⟨_,z,_⟩ | ⟨U,z⟩
  ·cases z
  ·obtain⟨b,A,g1,g2,g3,w⟩:=r.own j l z
   refine⟨b,A,g1,?_,g3,w.mono<|jd C _⟩;rw[zI (λq=>U<|r.ne j i a l ds z e (by rw[g1,q]) J)];exact g2
 ·rcases zD f with⟨_,z,_⟩ | ⟨U,O⟩
  ·cases z
  ·rcases zD I with⟨_,z,_⟩ | ⟨B,n⟩
   ·cases z
   ·exact r.ne j k b l fs O n t u
 ·rcases zD g with⟨_,z,_⟩ | ⟨U,z⟩
  ·cases z
  ·obtain⟨b,bs,f1,f2,p⟩:=r.m1.1 j h z
   have s:=p i ds a e J;refine⟨b,bs,f1,f2.move (jd C _) (λc m=>by rw[zI (λq=>s<|by rw[<- q];exact m)];exact(f2.at m).1)<|λc m=>rfl,λk fs c f I=>?_⟩;rcases zD f with⟨_,z,_⟩ | ⟨_,O⟩
   ·cases z
   ·exact p k fs c O I
 ·rcases zD f with⟨_,z,_⟩ | ⟨_,O⟩
  ·cases z
  ·rcases zD I with⟨_,z,_⟩ | ⟨_,n⟩
   ·cases z
   ·exact r.m1.2 j k x y O n
end DL
namespace L2
open PySem PySem.Spec PyProof.Rows
open AutoSeq1 (wpAny_loadPart')
section
variable{prog:il}{w:hH}{A:l6}{E:RQ}{s:el}
theorem ab{z it l:eg}{n:Nat}{xs:Array eh}{x U:eh}{Q:RQ}(J:s8 s.heap z it n U)(S:kA .T s.heap it l n)(Z:nf .T s.heap l xs)(hx:xs[n]? = bQ x)(C:z≠it)
 (Y : ∀g,M3 g z it ((n:Int)+1) x s.heap.objs.size->kA .T g it l (n+1)->m9 g s.heap.objs.size (.int n s.toks) x->g.objs.size=s.heap.objs.size+1->
   (∀c o,c≠z->c≠it->s.heap.get? c=bQ o->g.get? c=bQ o)->Q (.ref s.heap.objs.size) {s with heap:=g,toks:=s.toks+1}) :
 wpAny (eK prog w) A (n6.«enumerate.__next__» ⟨[.ref z],[]⟩) (λL s'=>∃v,L = .done (.ret v)/\Q v s') E s:=by
 refine GJ (m:=field (.ref z) 2) (Ii J rfl (x:= .ref it) rfl ?_);refine GJ (m:=HA (.ref it)) (vC S Z hx λg1 H f=>?_);have h:s8 g1 z it n U:=f.extBut _ _ C J;refine GJ (m:=field (.ref z) 3) (Ii h rfl (x:=Dw n) rfl ?_);refine GJ (m:=field (.ref z) 4) (Ii h rfl (x:= .none) rfl ?_);refine GJ (m:=mkInt n) (wpAny_mkInt ?_);refine GJ (m:=Pq (.ref z) 3 (Dw ((n:Int)+1))) (Iy h ⋯ λg2 rq i=>?_);replace rq:s8 g2 z it ((n:Int)+1) U:=rq;refine GJ (m:=Pq (.ref z) 4 .none) (Iy rq ⋯ λg3 j k=>?_);replace j:s8 g3 z it ((n:Int)+1) U:=j;refine GJ (m:=Ph [.int n s.toks,x]) (NG ?_);have d:s8 (g3.push {cls:= .type "tuple",data:= .seq #[.int n s.toks,x]}) z it ((n:Int)+1) U:=GK _ j;generalize a4:g3.push {cls:= .type "tuple",data:= .seq #[.int n s.toks,x]}=O at d;have W:g1.objs.size=s.heap.objs.size:=f.1;have X:g2.objs.size=g1.objs.size:=i.1;have y3:g3.objs.size=g2.objs.size:=k.1;have a:g3.objs.size=s.heap.objs.size:=by rw[y3,X,W]
 have K:z<s.heap.objs.size:=GZ J;have bl:m9 O s.heap.objs.size (.int n s.toks) x:=by show O.get? _=_;rw[<- a4,<- a];exact Hc _ rfl
 have y4:O.objs.size=s.heap.objs.size+1:=by rw[<- a4,HN,a]
 have bn : ∀c o,c≠z->c≠it->s.heap.get? c=bQ o->O.get? c=bQ o:=λc o I t e=>by rw[<- a4];exact GK _<|k.extBut _ _ I<|i.extBut _ _ I<|f.extBut _ _ t e
 have M:kA .T O it l (n+1):=H.at λo e=>by rw[<- a4];exact GK _<|k.extBut _ _ C.symm<|i.extBut _ _ C.symm e
 refine GJ (m:=HS<|.ref z) ?_;unfold HS;refine GJ<|Ii d rfl (x:= .none) rfl<|GS ?_;simp only[if_true];refine GJ<|MF<|GJ<|Ii d rfl (x:=U) rfl ?_;refine GJ<|Iy d ⋯ λu p B=>?_;replace p:s8 u z it ((n:Int)+1) x:=p;rw[a];refine GJ (m:=IG (.ref z)<|.ref s.heap.objs.size) ?_;unfold IG;refine GJ<|Iy p ⋯ λg6 as F=>?_;replace as:M3 g6 z it ((n:Int)+1) x s.heap.objs.size:=as;refine Iy as ⋯ λb r G=>?_;replace r:M3 b z it ((n:Int)+1) x s.heap.objs.size:=r;have y : ∀c o,c≠z->O.get? c=bQ o->b.get? c=bQ o:=λc o I e=>G.extBut _ _ I<|F.extBut _ _ I<|B.extBut _ _ I e;have y7:b.objs.size=s.heap.objs.size+1:=by have N:u.objs.size=O.objs.size:=B.1;have P:g6.objs.size=u.objs.size:=F.1;have R:b.objs.size=g6.objs.size:=G.1;rw[R,P,N,y4]
 exact GJ<|NK<|GS ⟨_,rfl,Y b r (M.at λo e=>y _ o C.symm e) (y _ _ (Lb K) bl) y7 λc o I t e=>y c o I<|bn c o I t e⟩
theorem dw{z it l:eg}{n:Nat}{xs:Array eh}{I:eh}{Q:Fin->el->Prop}(O:A.handled=dj)(U:s8 s.heap z it n I)(C:kA .T s.heap it l n)(L:nf .T s.heap l xs)(hx:xs[n]? = dj)
 (J : ∀g e,Heap.ExtBut it s.heap g->(∃o,g.get? e=bQ o/\o.cls = .type "StopIteration")->E (.ref e) {s with heap:=g}) :
 wpAny (eK prog w) A (n6.«enumerate.__next__» ⟨[.ref z],[]⟩) Q E s:=
 GJ (m:=field (.ref z) 2) (Ii U rfl (x:= .ref it) rfl<|GJ (m:=HA<|.ref it)<|Xu O C L hx J)
end
noncomputable def pK(i:eg):m6:={cls:= .type "enumerate",data:= .fields #[.none,.bool ed,.ref i,Dw 0,.none,.none]}
noncomputable def Jt(h:fy)(l:eg):fy:=HW (HW h<|mu .T l)<|pK h.objs.size
theorem du(l:eg)(xs:Array eh) :
 DY (n6.«enumerate.__new__» ⟨[.type "enumerate",.ref l],[]⟩) (λ_ R s=>nf .T s.heap l xs/\R (.ok (.ret (.ref (s.heap.objs.size+1)))) {s with heap:=Jt s.heap l}):=
 .of_wp λb w A R s h=>by
  obtain⟨U,g,d,i,os⟩:=s;obtain⟨f,h⟩:=h;have j:=sub_enumerate;have z:Heap.IsTuple (Shared.heap ⟨U,g,d,i,os⟩) l xs:=f;obtain⟨o,I,O,m,a⟩:=id z;obtain⟨e,i7,k,n⟩:=o;simp only at O a;subst O a;simp only[Jt,pK,mu,HN]at h
  wp_walk using IZ I
  refine wpAny_stack_any λst=>GS ?_;split
  ·rename_i c _ _ _ _ _
   cases (c==LY "enumerate")<;>(wp_walk using IZ I,MR z;exact⟨_,rfl,by simpa[HN,MA]using h⟩)
  ·wp_walk using IZ I,MR z
   exact⟨_,rfl,by simpa[HN,MA]using h⟩
noncomputable def M4(K:GI)(a:eg):It:=
 ⟨λi H=>∃b,l0 .T K H a b/\i<b.length,
  λi H x d=>∃p u,x = .ref p/\H p=dj/\d=upd H p (.tup [.int i,u])/\(∀b,l0 .T K H a b->b[i]? = bQ u),
  λi H=>∃b,l0 .T K H a b/\b.length<=i⟩
theorem vI(U:s8 s.heap z it n old)(h:Q (.ref z) s):wpAny (eK prog w) A (H9 (.ref z)) Q E s:=by have I:s.TypeIs (.ref z) "enumerate":=⟨_,U,rfl⟩;refine wpAny_pyIter_slot I F.slot_enumerate_iter (IH F.slot_enumerate_iter I F.entry_enumerate_iter ?_ (F.args_enumerate_iter_1 _));have O:wpAny (eK prog w) A.in1 (ret (.ref z)) (λO a=>∃v,O = .done (.ret v)/\∃T m,a.TypeIs v T/\L7 (.type T) "__next__" = pure (bQ m)/\Q v a) E s:=GS ⟨_,rfl,"enumerate",_,I,LJ.lookup,h⟩;exact O
theorem aJ{P:il}{w:hH}{K:GI}{elts:List eA}{x1:Nat}{u6:g8}{z it a:eg}(as:z≠it) :
 Turn P w K (.Tuple elts x1 u6) (M4 K a) [z,it] z (λi h=>(∃a6,s8 h z it i a6)/\kA .T h it a i) where
 mem:=by simp
 obj:=λi h ⟨⟨a6,O⟩,h1⟩ y hy=>by
  simp only[GW,Hz,or_false]at hy;rcases hy with rfl | rfl
  ·exact⟨_,O,λv q=>by cases q⟩
  ·exact h1.obj
 keep:=λi h h' ⟨⟨a6,O⟩,h1⟩ k=>⟨⟨a6,k z ⋯ _ O⟩,h1.at λo e=>k it ⋯ o e⟩
 item:=by
  rintro X hP hw hK hc i pins s σ H E I hf ⟨⟨a6,O⟩,h1⟩ ⟨xs,a9,b5⟩;subst hP hw hK;obtain⟨b6,am,p1,z1⟩:=I.sq a9;have hx:xs[i]? = bQ xs[i]:=GL b5;obtain⟨u1,b8,b9⟩:=am.get hx;have hT:s.TypeIs (.ref z) "enumerate":=⟨_,O,rfl⟩;unfold DP;refine GJ (Nb (Iv (name:=HU "__next__") hT LJ (IH LJ hT F.entry_enumerate_next
   (ab O h1 p1 (x:=u1) (by simpa using b8) as λg a1 a2 a3 a4 a5=>GS ⟨_,rfl,?_⟩) (F.args_enumerate_next_1 _))))
  refine Si a1 λg2 rq ap=>?_;have lt : ∀{c o},s.heap.get? c=bQ o->s.heap.objs.size≠c:=λe=>Lb<|GZ e;have bg:m9 g2 s.heap.objs.size (.int i s.toks) u1:=ap.extBut _ _ (lt O) a3;have kk : ∀b' u,b' ∉ [z,it]->s.heap.get? b'=bQ u->g2.get? b'=bQ u:=λb' u U e=>by simp only[GW,Hz,or_false,not_or]at U;exact ap.extBut _ _ U.1<|a5 b' u U.1 U.2 e
  have I1:Inv X pins σ (upd H s.heap.objs.size<|.tup [.int i,xs[i]]) {s with heap:=g2,toks:=s.toks+1}:=
   I.OS (fp:=[z,it]) kk hf (GQ _) ⟨by show 2<=fA;decide,[.int i s.toks,u1],.cons ⟨_,rfl⟩<|.cons b9 .nil,⟨_,bg,rfl,_,rfl⟩⟩
  have bl:H s.heap.objs.size=dj:=I.fresh;refine⟨.ref s.heap.objs.size,_,I1,rfl,⟨_,_,rfl,bl,rfl,λc2 bm=>by rw[I.OL bm a9];exact hx⟩,?_,λb' U=>?_⟩
  ·exact⟨⟨_,by have:=rq;rwa [show((i:Int)+1)=((i+1:Nat):Int)by omega]at this⟩,a2.at λo e=>ap.extBut _ _ as.symm e⟩
  ·have bn:b'≠s.heap.objs.size:=by
    simp only[GW,Hz,or_false]at U;rcases U with rfl | rfl
    ·exact(lt O).symm
    ·obtain⟨o,e,_⟩:=h1.obj;exact(lt e).symm
   rw[zI bn];exact(hf b' U).1
 done:=by
  rintro X hP hw hK hc i pins s σ H E I hf ⟨⟨a6,O⟩,h1⟩ ⟨xs,a9,hi⟩;subst hP hw hK;obtain⟨b6,am,p1,z1⟩:=I.sq a9;have hT:s.TypeIs (.ref z) "enumerate":=⟨_,O,rfl⟩;have l1:=am.length;unfold DP;refine GJ (Nb (Iv (name:=HU "__next__") hT LJ (IH LJ hT F.entry_enumerate_next
   (dw (show X.A.handled=dj from I.ok.hd hc) O h1 p1 (by simp;omega) λg e hk he=>?_) (F.args_enumerate_next_1 _))))
  obtain⟨o,ho,c0⟩:=he;refine GJ (wpAny_isInstance (T:="StopIteration") (b:=di) ⟨o,ho,c0⟩ Rz (GS ⟨rfl,?_⟩));refine I.Dd (t':=s.toks) (fp:=[z,it]) (λb' u U e=>?_) hf;simp only[GW,Hz,or_false,not_or]at U;exact hk b' u U.2 e
 self:=λ_ _ _ _ _ st h=>vI st.1.choose_spec h
noncomputable def Ct(K:GI)(C:TA):TI:=λf H R=>C f H λd b=>∃a,d=[.ref a]/\(∃e,l0 .T K b a e)/\R (M4 K a) b
theorem oP{X:Cx}{L:eA}{S:TA}{p pos:g8}{C:List eA}{x1:Nat}{J:g8}(Z:Gl X "enumerate")(hm:X.mg "enumerate" = dj)(Y:PA X [L] S)
 (hv:C2 "enumerate" = bQ (.type "enumerate")) (hs:f7 [L] X.env=[(ed,eL L X.env)]:=by rfl) :
 PI X (.Tuple C x1 J) (.Call (.Name "enumerate" p) [L] [] pos) (Ct X.K S):=by
 intro d s j H R I h;refine DU<|yo I Z hm hv<|Ij (e9 (Y pos d s j H _ I h) λB b t=>?_) (by rw[hs];rfl) rfl;obtain⟨E,f,z,w,u⟩:=t;obtain⟨a,e,⟨M,l⟩,q⟩:=u;subst e;obtain⟨G,r,m⟩:=k6 w;subst r;cases m;obtain⟨n,y,U,N⟩:=z.sq l;have A:=U.lt;refine Rn F.called_enumerate ⋯ (F.typeCall_enumerate_1 _) (F.newCall_enumerate_1 _) (λobj=>F.args_object_init_2 obj _) F.entry_enumerate_new (du a n.toArray) ⟨U,?_⟩;have keep : ∀c o,b.heap.get? c=bQ o->(Jt b.heap a).get? c=bQ o:=λc o e=>GK _<|GK _ e;have x:(HW b.heap<|mu .T a).objs.size=b.heap.objs.size+1:=HN ..;have g0:kA .T (Jt b.heap a) b.heap.objs.size a 0:=(QE .T b.heap a).at λo e=>GK _ e;have O:s8 (Jt b.heap a) (b.heap.objs.size+1) b.heap.objs.size 0 .none:=by have q:=Hc (HW b.heap<|mu .T a) (o:=pK b.heap.objs.size) rfl;rw[x]at q;exact q
 refine⟨⟨_,O,rfl⟩,vI (s:={b with heap:=Jt b.heap a}) O ?_⟩;have k:Inv X d j f {b with heap:=Jt b.heap a,toks:=b.toks}:=z.kept keep;refine⟨_,[b.heap.objs.size+1,b.heap.objs.size],_,_,f,rfl,k,aJ<|Lb<|IQ _,⟨⟨_,O⟩,g0⟩,λc i=>?_,q⟩;have g:b.heap.objs.size<=c:=by
  simp only[GW,Hz,or_false]at i;rcases i with rfl | rfl
  ·exact HP _ _
  ·exact GQ _
 exact z.C4 g<|z.f6.fresh g
end L2
namespace DL
open PySem PySem.Spec PyProof.Rows L2
theorem K6{K:GI}{H:Hp} : ∀{ds:List D} {xs:List V} {l:List Int},ej K H ds xs->XE ds=bQ l->xs=l.map V.int
 | [],xs,l,r,e=>by cases e;rw[show xs=[]from r];rfl
 | d::ds,xs,l,r,e=>by
  obtain⟨x,g,rfl,z,b⟩:=(show ∃x r,xs=x::r/\Rep K H d x/\ej K H ds r from r);cases d with
  | int i=>
   obtain⟨f,a,rfl⟩:=zC (show(XE ds).map (λl=>i::l)=bQ l from e);rw[K6 b a,show x = .int i from z];rfl
  | _=>cases e
theorem Ye : ∀l:List Int,(l.map V.int).all XH=di
 | []=>rfl
 | i::l=>by simp only[HC,List.all_cons,Ye l,Bool.and_true];rfl
theorem de(i:Int) : ∀l:List Int,G3 (.int i) (l.map V.int)=decide (i∈l)
 | []=>rfl
 | j::l=>by
  have z:=de i l;unfold G3 at z ⊢;rw[HC,MT,z];have e:A8 (.int j) (.int i)=(j==i):=rfl;rw[e];by_cases h:i=j
  ·subst h
   rw[beq_self_eq_true,Bool.true_or];exact(decide_eq_true Ha).symm
  ·rw[beq_false_of_ne (Hu h),Bool.false_or]
   exact decide_eq_decide.mpr ⟨λq=>GX _ q,λq=>(GW.mp q).resolve_left h⟩
theorem aC{K:GI}{H0 C:Hp}{a:eg}{xs:List V}{ds:List D}(h:g5 K C a xs)(r:ej K H0 ds xs):Walk K H0 C (M4 K a) (kO ds):=by
 have o:=r.length;have t:(kO ds).length=ds.length:=by simp[kO]
 refine⟨λi b s m=>?_,λb s=>?_,λi b x g s m y=>?_⟩
 ·exact⟨xs,mr s h,by omega⟩
 ·exact⟨xs,mr s h,by omega⟩
 ·obtain⟨p,u,k,z,I,O⟩:=y
  obtain⟨d,l,U⟩:=r.Dq<|O xs<|mr s h;refine⟨.tup [.int i,d],?_,λf n e=>⟨upd f p<|.tup [.int i,u],?_,?_⟩⟩
  ·have j:i<ds.length:=by omega
   unfold kO;rw[Hd,Ic j,Iw,l];rfl
  ·rw[I];exact Ext.alloc e z _
  ·rw[k]
   exact xo (g5.of zO)<|ej.cons (show V.int i = .int i from rfl)<|ej.cons ((U.mono n).mono (jd (jt e z) _)) ej.nil
section
variable{X:Cx}{sc:hG}{N L:List Str}{k:Nat}{a b c:eA}{pos p:g8}{f fa fb fc:CO D}
theorem bX(h:SX X sc N L k)(c:yp sc "enumerate" = di)(z:X.mg "enumerate" = dj)(C:PV X a f)(hs:f7 [a] X.env=[(ed,eL a X.env)]:=by rfl) :
 ij X (.Tuple elts x1 u6) (.Call (.Name "enumerate" p) [a] [] pos) (gk f):=
 KC (oP (h.gl c).1 z (jx C qy hs) Ri hs) λs H R U=>by
  obtain⟨g,m,n,rc,I,q⟩:=U;obtain⟨d,j,I⟩:=ze I;cases d with
  | tup o=>
   cases I;refine⟨g,m,_,rc,j,λv e b x r=>?_⟩;obtain⟨i,l,rfl,O,g2⟩:=kC r;exact⟨i,rfl,⟨l,mr x.sub O⟩,q _ e b x<|aC O g2⟩
  | _=>cases I
theorem VN(ho:iQ X (n3 op) r)(C:iQ X (n3 E1) r')(s1:m7 X.K r F)(s2:m7 X.K r' G)(S:PV X a fa)(Y:PV X b fb)(Z:PV X c fc)
 (hm:Ou [op,E1] [b,c]=ed:=by with_unfolding_all rfl):PV X (.Compare a [op,E1] [b,c] pos) (kf F G fa fb fc):=
 qf (gW ho C S Y Z hm) λσ H Q M=>by
  obtain⟨l,e,d,rc,I,q⟩:=M;obtain⟨x,w,I⟩:=ze I;obtain⟨y,A,I⟩:=ze I;obtain⟨k,B,I⟩:=ze I;obtain⟨g,E,h⟩:=ze B;refine⟨l,e,x,rc,w,λW H1 s x1 N=>⟨s,e,y,rc.ext x1,A,λj m as O i=>s1 as m W j x y g _ O.sub (N.mono O.s0) i E λv3 n f x3 P=>?_⟩⟩;cases g with
  | bl k'=>
   cases h;refine⟨k,show v3 = .bl k from P,?_⟩;cases k with
   | true=>
    rw[RY rfl];rw[RY rfl]at I;obtain⟨z,J,L⟩:=ze I;exact⟨f,e,z,((rc.ext x1).ext O).ext x3,J,λv4 o t U R=>s2 t o j v4 y z d _ U.sub ((i.mono x3.s0).mono U.s0) R L λv5 p u x5 T=>q v5 p u (((x1.trans O).trans x3).trans (U.trans x5)) T⟩
   | false=>
    rw[EQ ⋯];rw[EQ ⋯]at I;cases I;exact q _ n f ((x1.trans O).trans x3) rfl
  | _=>cases h
end
theorem vm : ∀{l:List Int} {us:List eh},fh (l.map V.int) us->∀i,i<us.toArray.size->∃z u,us.toArray[i]? = bQ (.int z u)/\l[i]? = bQ z
 | [],us,r,i,hi=>by cases r;exact absurd hi<|Hq _
 | z::l,u::us,.cons r t,i,hi=>by
  cases i with
  | zero=>
   obtain⟨I,rfl⟩:=r;exact⟨z,I,by simp,by simp⟩
  | succ i=>
   obtain⟨O,U,a,b⟩:=vm t i (by simpa using hi);exact⟨O,U,by simpa using a,by simpa using b⟩
theorem vN(h:vO o=bQ rows):o=bQ (.nest rows):=by
 cases o with
 | none=>cases h
 | some c=>cases c<;>first | cases h;rfl | cases h
noncomputable def tN(K:GI)(f:CO (List<|List D)):TE:=λj H Q=>∃h i d,RC K h H j i/\f i=bQ d/\
 ∀a bs g e,Ext h H e g->(∀b∈a::bs,H b=dj)->t5 K e g d a bs->Q (.ref a) g
noncomputable def r6(K:GI)(H0 H:Hp)(C:List (List D))(bs:List eg):Prop:=bs.length=C.length/\∀(k:Nat) b row,bs[k]? = bQ b->C[k]? = bQ row->H0 b=dj/\∃a,H b=bQ (.lst a)/\ej K H0 row a
theorem r6.at{K:GI}{H0 H:Hp}{C:List (List D)}{bs:List eg}(n:r6 K H0 H C bs){b:eg}(O:b∈bs):H0 b=dj/\∃xs,H b=bQ (.lst xs):=by obtain⟨k,z⟩:=Nj O;have I:=(GU.mp z).1;rw[n.1]at I;obtain⟨a,xs,d,_⟩:=n.2 k b _ z<|GL I;exact⟨a,xs,d⟩
theorem r6.ext{K:GI}{H0 H J H':Hp}{C:List (List D)}{bs:List eg}(n:r6 K H0 H C bs)(e:Ext H0 H J H'):r6 K J H' C bs:=
 ⟨n.1,λk b row a d=>by obtain⟨z,f,g2,I⟩:=n.2 k b row a d;exact⟨e.new b z (by rw[g2];simp),f,e.s1 _ _ g2,I.mono e.s0⟩⟩
theorem r6.add{K:GI}{H0 H:Hp}{C:List (List D)}{bs:List eg}{b:eg}{row:List D}{xs:List V}(n:r6 K H0 H C bs)(J:H0 b=dj)(L:H b=bQ (.lst xs))(U:ej K H0 row xs):r6 K H0 H (C++[row]) (bs++[b]):=
 ⟨by simp[n.1],λk c r a I=>by
  rcases Hg k bs.length with z | z
  ·rw[HR z]at a
   rw[HR (by rw[<- n.1];exact z)]at I;exact n.2 k c r a I
  ·rw[HH z]at a
   rw[HH (by rw[<- n.1];exact z)]at I;have O:k - bs.length=0:=by have:=(GU.mp a).1;simp at this;omega
   rw[O]at a;rw[<- n.1,O]at I;cases a;cases I;exact⟨J,xs,L,U⟩⟩
theorem r6.hide{K:GI}{H0 H:Hp}{C:List (List D)}{bs:List eg}{z:eg}{o:HO}(n:r6 K H0 H C bs)(h:z∉bs):r6 K H0 (upd H z o) C bs:=
 ⟨n.1,λk b row a d=>by obtain⟨I,e,g2,O⟩:=n.2 k b row a d;exact⟨I,e,by rw[zI (λq=>h<|by rw[<- q];exact HJ a)];exact g2,O⟩⟩
section
variable{K:GI}{own:List Str}{fr:List (Str×Nat)}{src:CO (List D)}{T:Tg}{f:CO (List D)}
theorem ah(hT : ∀i∈T.idx,i<own.length){tt:TT}(c4 : ∀C H Q,tT K jj C H Q->tt C H Q) : ∀C H Q,tN K (VH src T own.length (fr.map (·.2)) f) C H Q->aO (OP K src) own fr (o7 K T) tt (tO K f) C H Q:=λC H Q hZ=>by
 obtain⟨H0,A,n,rc,t,q⟩:=hZ;obtain⟨a,e1,t⟩:=ze t;by_cases hl:a.length<=lim
 ·rw[RY hl]at t
  refine⟨H0,A,a,rc,e1,λJ B an x1 wk D R=>?_⟩;have as : ∀(i:Nat) F,(z6 own.length (fr.map (·.2)) A)[i]? ≠ bQ (.own F):=λi F h=>by rcases qB h with z | ⟨d',j,z,_⟩<;>cases z
  have ax : ∀(i:Nat) F,(z6 own.length (fr.map (·.2)) A)[i]? ≠ bQ (.nest F):=λi F h=>by rcases qB h with z | ⟨d',j,z,_⟩<;>cases z
  have b9:an D=dj:=jt x1.sub R;have bb : ∀c,B c=dj->H c=dj:=λc S=>by
   cases z:H c with
   | none=>rfl
   | some o=>rw[x1.s1 c o z]at S;cases S
  refine⟨λi m Z L l=>m=a.length - i/\i<=a.length/\Z.length<=i/\l D=bQ (.lst Z)/\∃g bs X r2,Z=bs.map V.ref/\RC K g l L (z6 own.length (fr.map (·.2)) A)/\g D=dj/\Ext an B g l/\r6 K g l X bs/\(D::bs).Nodup/\(∀b∈bs,B b=dj)/\vf T f (z6 own.length (fr.map (·.2)) A) (a.drop i)=bQ r2/\n=X++r2,
   ⟨_,rfl,HX _,GQ _,zO,an,[],[],n,rfl,((rc.ext x1).pull).upd b9 as ax,b9,Ext.hide x1.sub R _,⟨rfl,λk b row h=>by simp at h⟩,by simp,λb U=>by simp at U,t,rfl⟩,?_⟩
  rintro i m Z L l ⟨rfl,hi,hy,N,g,bs,X,r2,c6,b0,bd,u,P,nd,be,I,rfl⟩;subst c6;refine⟨N,?_⟩;by_cases E:i<a.length
  ·refine .inr ⟨wk.go i l u.s1 E,?_,λx b5 y=>?_⟩
   ·have:=kL<|GQ lim;omega
   obtain⟨d,hd,hx⟩:=wk.xg i l x b5 u.s1 E y;obtain⟨G0,O,rg⟩:=hx g u.s0 b0.sub;have c7:a.drop i=d::a.drop (i+1):=by
    have c8:d=a[i]:=by rw[GL E]at hd;exact(Hx hd).symm
    rw[c8];exact Ld E
   rw[c7]at I;simp only[vf]at I;obtain⟨s,eb,I⟩:=ze I;obtain⟨e,ee,I⟩:=ze I;obtain⟨kh,er,I⟩:=zC I;have cb:G0 D=dj:=O.new D bd (by rw[N];simp);have bf:b5 D=bQ (.lst<|bs.map V.ref):=O.s1 _ _ N;obtain⟨bl,bg⟩:=Yn eb;have cd : ∀{M:St} {G2 H2:Hp},RC K G2 H2 M s->RC K G2 H2 M (z6 own.length (fr.map (·.2)) A):=λr=>r.weak bl.symm (λj d' hj=>by
    by_cases W:j∈T.idx
    ·rcases qB hj with z | ⟨d2,j2,_,hn,_⟩
     ·cases z
     ·exact absurd (hT j W) ⋯
    ·rw[bg j W];exact hj) as ax
   refine vP O.sub rg eb λL9 bn _=>c4 L9 b5 _ ⟨G0,s,di,bn<|b0.ext O,rfl,λH3 bt x3=>?_⟩;have bv:=(bn<|b0.ext O).ext x3;have xa:=u.trans<|O.trans x3;have ci:bt D=dj:=x3.new D cb (by rw[bf];simp);have b6:H3 D=bQ (.lst<|bs.map V.ref):=x3.s1 _ _ bf;dsimp only;rw[RY rfl];refine⟨bt,s,e,bv,ee,λp d4 H4 c0 G g1 g2 g3 g4=>?_⟩;have b7:c0 D=dj:=G.new D ci (by rw[b6];simp);have co:H4 D=bQ (.lst<|bs.map V.ref):=G.s1 _ _ b6;have Y:=xa.trans G;have cq:=((P.ext O).ext x3).ext G;have cr:=(P.ext O).ext x3;have c1:D∉bs:=(Io.mp nd).1;have c2:D≠p:=λz=>by rw[<- z,b6]at g1;cases g1
   have cs:p∉bs:=λW=>by obtain⟨_,d5,z⟩:=cr.at W;rw[g1]at z;cases z
   have ct:B p=dj:=by
    cases z:B p with
    | none=>rfl
    | some o=>rw[xa.s1 _ _ z]at g1;cases g1
   refine⟨co,a.length - (i+1),by omega,rfl,E,by rw[HQ,Lx];omega,zO,c0,bs++[p],X++[e],kh,by simp,(cd<|bv.ext G).upd b7 as ax,b7,?_,?_,?_,?_,er,?_⟩
   ·exact⟨Y.s0,λc o z=>by rw[zI (λw=>by rw[w,R]at z;cases z)];exact Y.s1 c o z,λc o z=>by rw[zI (λw=>by rw[w,b7]at z;cases z)];exact Y.sub c o z,Y.new⟩
   ·exact(cq.add g2 g3 g4).hide (by simp[c1,c2])
   ·refine Io.mpr ⟨by simp[c1,c2],List.nodup_append.mpr ⟨(Io.mp nd).2,by simp,λc S c' cy=>?_⟩⟩
    have:c'=p:=by simpa using cy
    subst this;exact λz=>cs (by rw[<- z];exact S)
   ·intro b U
    rcases Lw.mp U with z | z
    ·exact be b z
    ·have:b=p:=by simpa using z
     subst this;exact ct
   ·rw[<- I];simp
  ·have e:i=a.length:=by omega
   subst e;rw[Ml]at I;cases I;rw[Lz]at q;refine .inl ⟨wk.stop l u.s1,q D bs l g (x1.trans u) (λb U=>?_) ⟨bd,N,nd,P.1,P.2⟩⟩;rcases GW.mp U with rfl | U
   ·exact bb _ R
   ·exact bb b<|be b U
 ·rw[EQ hl]at t;cases t
end
section
variable{K:GI}{E0 E H0 H:Hp}{σ:St}{γ:Ctx}
theorem ZC(h:γ.any QF=ed)(i:Nat)(C:List (List D)):γ[i]? ≠ bQ (.nest C):=λe=>by have a:Cell.nest C∈γ:=HJ e;have:=NJ.mp h _ a;exact this rfl
theorem RS.R4(r:RS K E0 E G0 G σ γ)(e:Ext G0 G H0 H)(J : ∀b∈a::bs,G b=dj)(n:t5 K H0 H rows a bs)(C:γ.any QF=ed) :
 RS K E0 E H0 H (σ.set i<|some (.ref a)) (γ.set i<|.nest rows):=by
 have rc:=r.rc.ext e;have y : ∀b∈a::bs,E b=dj:=λb p=>by
  cases q:E b with
  | none=>rfl
  | some o=>have:=J b p;rw[r.ext.s1 b o q]at this;cases this
 refine⟨⟨rc.sub,by simp[rc.len],λj B g=>?_,λj d g=>?_,λj k b d fs m h w x=>?_,⟨λj l g=>?_,λj k M N I g2=>?_⟩⟩,r.ext.trans e,λj d b I g2=>?_,λj l b R I g2 O=>?_⟩
 ·rcases zD g with⟨_,z,_⟩ | ⟨U,z⟩
  ·cases z
  ·obtain⟨P,I,g2⟩:=rc.val j B z
   exact⟨P,by rw[GP (Hu U)];exact I,g2⟩
 ·rcases zD g with⟨_,z,_⟩ | ⟨U,z⟩
  ·cases z
  ·obtain⟨b,A,I,g2⟩:=rc.own j d z
   exact⟨b,A,by rw[GP (Hu U)];exact I,g2⟩
 ·rcases zD m with⟨_,z,_⟩ | ⟨U,f⟩
  ·cases z
  ·rcases zD h with⟨_,z,_⟩ | ⟨s,u⟩
   ·cases z
   ·rw[GP (Hu U)]at w
    rw[GP (Hu s)]at x;exact rc.ne j k b d fs f u w x
 ·rcases zD g with⟨rfl,z,t⟩ | ⟨U,z⟩
  ·cases z
   refine⟨a,bs,Hf (by rw[rc.len];exact t),n,λk d c m h=>?_⟩;rcases zD m with⟨_,z,_⟩ | ⟨s,f⟩
   ·cases z
   ·rw[GP (Hu s)]at h
    obtain⟨Q,A,I,g2,O,_⟩:=r.rc.own k d f;rw[h]at I;cases I;intro L;rw[J c L]at O;cases O
  ·exact absurd z<|ZC C j l
 ·rcases zD I with⟨rfl,_,_⟩ | ⟨_,f⟩
  ·rcases zD g2 with⟨rfl,_,_⟩ | ⟨_,u⟩
   ·rfl
   ·exact absurd u<|ZC C k N
  ·exact absurd f<|ZC C j M
 ·rcases zD I with⟨_,z,_⟩ | ⟨U,z⟩
  ·cases z
  ·rw[GP (Hu U)]at g2;exact r.fresh j d b z g2
 ·rcases zD I with⟨rfl,z,t⟩ | ⟨U,z⟩
  ·rw[Hf (by rw[rc.len];exact t)]at g2;cases g2
   rw[n.ha]at O;injection O with O;injection O with O;subst O;refine⟨y a Ha,λb p=>?_⟩;obtain⟨c,F,q⟩:=Hj.mp p;cases q;exact y b<|GX _ F
  ·exact absurd z<|ZC C j l
theorem RS.forget(r:RS K E0 E H0 H σ γ):RS K E0 E H0 H (σ.set i v) (γ.set i .no):=by
 have h : ∀{j:Nat} {e:List D} {b:eg},(γ.set i .no)[j]? = bQ (.own e)->γ[j]? = bQ (.own e)/\(σ.set i v)[j]? = σ[j]? :=λ{j e b} g=>by
  rcases zD g with⟨_,z,_⟩ | ⟨f,z⟩
  ·cases z
  ·exact⟨z,GP<|Hu f⟩
 have m : ∀{j:Nat} {d:List (List D)},(γ.set i .no)[j]? = bQ (.nest d)->γ[j]? = bQ (.nest d)/\(σ.set i v)[j]? = σ[j]? :=λ{j d} g=>by
  rcases zD g with⟨_,z,_⟩ | ⟨f,z⟩
  ·cases z
  ·exact⟨z,GP<|Hu f⟩
 refine⟨⟨r.rc.sub,by simp[r.rc.len],λj u g=>?_,λj e g=>?_,λj k b e fs n l s t=>?_,⟨λj d g=>?_,λj k A B U g2=>r.rc.m1.2 j k A B (m U).1 (m g2).1⟩⟩,r.ext,λj e b U g2=>?_,λj d b F U g2 g3=>?_⟩
 ·rcases zD g with⟨_,z,_⟩ | ⟨f,z⟩
  ·cases z
  ·obtain⟨C,U,g2⟩:=r.rc.val j u z
   exact⟨C,by rw[GP (Hu f)];exact U,g2⟩
 ·obtain⟨I,O⟩:=h (b:=0) g
  rw[O];exact r.rc.own j e I
 ·obtain⟨I,O⟩:=h (b:=0) n
  obtain⟨o,p⟩:=h (b:=0) l;rw[O]at s;rw[p]at t;exact r.rc.ne j k b e fs I o s t
 ·obtain⟨I,O⟩:=m g
  obtain⟨a,bs,w,x,y⟩:=r.rc.m1.1 j d I;refine⟨a,bs,by rw[O];exact w,x,λk e c n l=>?_⟩;obtain⟨o,p⟩:=h (b:=0) n;rw[p]at l;exact y k e c o l
 ·obtain⟨I,O⟩:=h (b:=0) U
  rw[O]at g2;exact r.fresh j e b I g2
 ·obtain⟨I,O⟩:=m U
  rw[O]at g2;exact r.sX j d b F I g2 g3
theorem KP : ∀{l:List eg} {m t:Nat} {b:eg},l.Nodup->l[m]? = bQ b->l[t]? = bQ b->m=t
 | [],m,t,b,_,h,_=>by simp at h
 | c::l,m,t,b,nd,h1,h2=>by
  obtain⟨a,I⟩:=Io.mp nd;cases m with
  | zero=>
   cases t with
   | zero=>rfl
   | succ t=>
    have e1:c=b:=by simpa using h1
    have z:l[t]? = bQ b:=by simpa using h2
    exact absurd (HJ z)<|e1 ▸ a
  | succ m=>
   cases t with
   | zero=>
    have e1:c=b:=by simpa using h2
    have z:l[m]? = bQ b:=by simpa using h1
    exact absurd (HJ z)<|e1 ▸ a
   | succ t=>exact congrArg (· + 1) (KP (b:=b) I (by simpa using h1)<|by simpa using h2)
theorem RC.row{j i t:Nat}{R:List (List D)}{a b:eg}{bs:List eg}{row:List D}(r:RC K H0 H σ γ)(L:γ[j]? = bQ (.nest R))(hs:σ[j]? = bQ (bQ (.ref a)))(S:t5 K H0 H R a bs)
 (a3 : ∀(k:Nat) ds c,γ[k]? = bQ (.own ds)->σ[k]? = bQ (bQ (.ref c))->c∉a::bs) (J:bs[t]? = bQ b) (Y:R[t]? = bQ row) (C:i<γ.length) :
 RC K H0 H (σ.set i<|some (.ref b)) ((γ.set j .no).set i (.own row)):=by
 obtain⟨u,y,b1,b2⟩:=S.row t b row J Y;have o:b∈a::bs:=GX _<|HJ J;have e : ∀{k:Nat} {c:Cell},c ≠ .no->(γ.set j .no)[k]? = bQ c->γ[k]? = bQ c/\k≠j:=λ{k c} x g=>by
  rcases zD g with⟨_,z,_⟩ | ⟨O,z⟩
  ·exact absurd z x
  ·exact⟨z,O⟩
 refine⟨r.sub,by simp[r.len],λk d g=>?_,λk ds g=>?_,λk m c ds s w p f h=>?_,oe.DN λk l g=>?_⟩
 ·rcases zD g with⟨_,z,_⟩ | ⟨O,z⟩
  ·cases z
  ·obtain⟨I,_⟩:=e ⋯ z
   rw[GP (Hu O)];exact r.val k d I
 ·rcases zD g with⟨rfl,z,A⟩ | ⟨O,z⟩
  ·cases z
   exact⟨b,y,Hf (by rw[r.len];exact C),u,b1,b2⟩
  ·obtain⟨I,_⟩:=e ⋯ z
   rw[GP (Hu O)];exact r.own k ds I
 ·rcases zD w with⟨rfl,_,_⟩ | ⟨O,I⟩
  ·rcases zD p with⟨rfl,_,_⟩ | ⟨n,U⟩
   ·rfl
   ·obtain⟨U,_⟩:=e ⋯ U
    rw[Hf (by rw[r.len];exact C)]at f;rw[GP (Hu n)]at h;cases f;exact absurd o<|a3 m s b U h
  ·obtain⟨I,_⟩:=e ⋯ I
   rcases zD p with⟨rfl,_,_⟩ | ⟨n,U⟩
   ·rw[Hf (by rw[r.len];exact C)]at h
    rw[GP (Hu O)]at f;cases h;exact absurd o<|a3 k ds b I f
   ·obtain⟨U,_⟩:=e ⋯ U
    rw[GP (Hu O)]at f;rw[GP (Hu n)]at h;exact r.ne k m c ds s I U f h
 ·rcases zD g with⟨_,z,_⟩ | ⟨O,z⟩
  ·cases z
  ·obtain⟨I,U⟩:=e ⋯ z
   exact U<|r.m1.2 k j l R I L
theorem RS.RI(r:RS K E0 E H0 H σ γ)(O:γ[j]? = bQ (.nest R))(hs:σ[j]? = bQ (bQ (.ref a)))(C:t5 K H0 H R a bs)
 (L : ∀(k:Nat) ds c,γ[k]? = bQ (.own ds)->σ[k]? = bQ (bQ (.ref c))->c∉a::bs) (J:bs[t]? = bQ b) (Y:ej K H0 row' ys) :
 RS K E0 E H0 (upd H b<|.lst ys) σ (γ.set j<|.nest<|R.set t row'):=by
 have A:j<γ.length:=(GU.mp O).1;have i:b∈bs:=HJ J;have x:b≠a:=λq=>(Io.mp C.nd).1 (by rw[<- q];exact i);obtain⟨s,_⟩:=C.at<|GX a i;obtain⟨P,y⟩:=r.sX j R a _ O hs C.ha;have Q:E b=dj:=y b<|Hj.mpr ⟨b,i,rfl⟩;have U : ∀{k:Nat} {c:Cell},(∀e,c ≠ .nest e)->(γ.set j<|.nest<|R.set t row')[k]? = bQ c->γ[k]? = bQ c:=λ{k c} hc g=>by
  rcases zD g with⟨_,z,_⟩ | ⟨l,z⟩
  ·exact absurd z<|hc _
  ·exact z
 refine⟨⟨λc o q=>?_,by simp[r.rc.len],λk d g=>r.rc.val k d<|U ⋯ g,λk ds g=>?_,λk m c ds S F G M N=>r.rc.ne k m c ds S (U ⋯ F) (U ⋯ G) M N,⟨λk e g=>?_,λk m X Z I g2=>?_⟩⟩,⟨r.ext.s0,λc o q=>?_,λc o q=>?_,r.ext.new⟩,λk ds c I g2=>r.fresh k ds c (U ⋯ I) g2,λk e c p I g2 g3=>?_⟩
 ·rw[zI (λz=>by rw[z,s]at q;cases q)];exact r.rc.sub c o q
 ·have z:=U ⋯ g
  obtain⟨c,p,f,h,u,T⟩:=r.rc.own k ds z;refine⟨c,p,f,h,?_,T⟩;rw[zI (λq=>L k ds c z f<|by rw[q];exact GX _ i)];exact u
 ·have l:k=j:=by
   rcases zD g with⟨z,_,_⟩ | ⟨_,z⟩
   ·exact z
   ·exact r.rc.m1.2 k j e R z O
  subst l;rw[Hf A]at g;cases g;refine⟨a,bs,hs,⟨C.a0,by rw[zI (Hu x)];exact C.ha,C.nd,by simp[C.len],λm c row hc n=>?_⟩,λm ds c I g2=>L m ds c (U ⋯ I) g2⟩;by_cases w:m=t
  ·subst w
   rw[J]at hc;cases hc;have:m<R.length:=by rw[<- C.len];exact(GU.mp J).1
   rw[Hf this]at n;cases n;exact⟨s,ys,zO,Y⟩
  ·rw[GP (Hu w)]at n
   obtain⟨f,p,h,u⟩:=C.row m c row hc n;have B:c≠b:=λq=>by subst q;have W:=(Io.mp C.nd).2;exact w<|KP W hc J
   exact⟨f,p,by rw[zI B];exact h,u⟩
 ·have f:k=j:=by
   rcases zD I with⟨z,_,_⟩ | ⟨_,z⟩
   ·exact z
   ·exact r.rc.m1.2 k j X R z O
  have h:m=j:=by
   rcases zD g2 with⟨z,_,_⟩ | ⟨_,z⟩
   ·exact z
   ·exact r.rc.m1.2 m j Z R z O
  rw[f,h]
 ·rw[zI (λz=>by rw[z,Q]at q;cases q)];exact r.ext.s1 c o q
 ·rw[zI (λz=>by rw[z,s]at q;cases q)];exact r.ext.sub c o q
 ·have l:k=j:=by
   rcases zD I with⟨z,_,_⟩ | ⟨_,z⟩
   ·exact z
   ·exact r.rc.m1.2 k j e R z O
  subst l;rw[hs]at g2;cases g2;rw[zI (Hu x),C.ha]at g3;injection g3 with g3;injection g3 with g3;subst g3;exact⟨P,y⟩
end
section
variable{K:GI}{E0 E H0 H:Hp}{σ:St}{γ:Ctx}
theorem RS.freeze(r:RS K E0 E H0 H σ γ)(e:γ[i]? = bQ (.own ds)) : ∃C,RS K E0 E C H σ (γ.set i<|.val<|.lst ds):=by
 obtain⟨a,p,f,g,l,m⟩:=r.rc.own i ds e;have h:=r.fresh i ds a e f;obtain⟨C,o,U⟩ : ∃C,C=upd H0 a (.lst p)/\RC K C H σ (γ.set i<|.val<|.lst ds):=by refine⟨_,rfl,?_⟩;exact RC.RF r.rc e f g l m
 subst o;refine⟨_,U,⟨r.ext.s0.trans<|jd g _,r.ext.s1,U.sub,λc n I=>?_⟩,λj k b O g2=>?_,λj d b s O g2 g3=>?_⟩
 ·rw[zI (λz=>by rw[z,h]at I;exact I rfl)];exact r.ext.new c n I
 ·rcases zD O with⟨_,z,_⟩ | ⟨_,z⟩
  ·cases z
  ·exact r.fresh j k b z g2
 ·rcases zD O with⟨_,z,_⟩ | ⟨_,z⟩
  ·cases z
  ·exact r.sX j d b s z g2 g3
open Classical in
noncomputable def YZ(H0 H:Hp)(L:List eg):Hp:=λc=>if c∈L then H c else H0 c
theorem XC(h:c∈L):YZ H0 H L c=H c:=by unfold YZ;rw[RY h]
theorem vH(h:c∉L):YZ H0 H L c=H0 c:=by unfold YZ;rw[EQ h]
theorem Kr : ∀{C:List (List D)} {bs:List eg},bs.length=C.length->(∀(k:Nat) b row,bs[k]? = bQ b->C[k]? = bQ row->∃xs,G b=bQ (.lst xs)/\ej K G row xs)->ej K G (C.map D.lst) (bs.map V.ref)
 | [],[],_,_=>ej.nil
 | [],_::_,h,_=>by simp at h
 | _::_,[],h,_=>by simp at h
 | row::C,b::bs,h,f=>by obtain⟨xs,z,g2⟩:=f 0 b row rfl rfl;exact ej.cons (ZV (f9.of z) g2) (Kr (by simpa using h) λk c r a I=>f (k+1) c r (by simpa using a)<|by simpa using I)
theorem RS.Rt(r:RS K E0 E H0 H σ γ)(e:γ[i]? = bQ (.nest rows)) : ∃C,RS K E0 E C H σ (γ.set i<|.val<|.lst<|rows.map D.lst):=by
 obtain⟨a,bs,t,l,x⟩:=r.rc.m1.1 i rows e;obtain⟨G,J⟩:=r.sX i rows a _ e t l.ha;have ef : ∀b∈a::bs,E b=dj:=λb hb=>by
  rcases GW.mp hb with rfl | hb
  ·exact G
  ·exact J b<|Hj.mpr ⟨b,hb,rfl⟩
 have n:gv H0 (YZ H0 H (a::bs)):=λc o q=>by rw[vH (λh=>by rw[(l.at h).1]at q;cases q)];exact q
 have sub:gv (YZ H0 H (a::bs)) H:=λc o q=>by
  by_cases h:c∈a::bs
  ·rw[XC h]at q;exact q
  ·rw[vH h]at q;exact r.rc.sub c o q
 have N:Rep K (YZ H0 H (a::bs)) (.lst<|rows.map D.lst) (.ref a):=ZV (f9.of<|by rw[XC Ha];exact l.ha) (Kr l.len λk b row I g2=>by obtain⟨_,P,s,m⟩:=l.row k b row I g2;exact⟨P,by rw[XC (GX _<|HJ I)];exact s,m.mono n⟩)
 have u : ∀{j:Nat} {O:List (List D)},(γ.set i<|.val<|.lst<|rows.map D.lst)[j]? ≠ bQ (.nest O):=λ{j O} g=>by
  rcases zD g with⟨_,z,_⟩ | ⟨p,z⟩
  ·cases z
  ·exact p<|r.rc.m1.2 j i O rows z e
 have U : ∀{j:Nat} {f:List D},(γ.set i<|.val<|.lst<|rows.map D.lst)[j]? = bQ (.own f)->γ[j]? = bQ (.own f):=λ{j f} g=>by
  rcases zD g with⟨_,z,_⟩ | ⟨p,z⟩
  ·cases z
  ·exact z
 refine⟨_,⟨sub,by simp[r.rc.len],λj d g=>?_,λj f g=>?_,λj k c f L y A B F=>r.rc.ne j k c f L (U y) (U A) B F,oe.DN λj O=>u⟩,⟨r.ext.s0.trans n,r.ext.s1,sub,λc s m=>?_⟩,λj f b I g2=>r.fresh j f b (U I) g2,λj O b w I=>absurd I u⟩
 ·rcases zD g with⟨rfl,z,Q⟩ | ⟨p,z⟩
  ·cases z;exact⟨_,t,N⟩
  ·obtain⟨v,I,g2⟩:=r.rc.val j d z
   exact⟨v,I,g2.mono n⟩
 ·obtain⟨b,w,I,g2,g3,M⟩:=r.rc.own j f (U g)
  exact⟨b,w,I,by rw[vH (x j f b (U g) I)];exact g2,g3,M.mono n⟩
 ·rw[vH (λh=>m<|ef c h)];exact r.ext.new c s m
end
section
variable{X:Cx}{st:i5}{F:CO Fl}
theorem Xl(i:Nat)(h:k0 X st F):k0 X st (gj i F):=x9 h λD k H I=>by obtain⟨E0,E,f,j,O,U,z,b⟩:=I;obtain⟨g,e,z⟩:=ze z;obtain⟨a,d⟩:=U.freeze<|xW e;exact⟨E0,E,a,_,O,d,z,b⟩
theorem gK(i:Nat)(h:k0 X st F):k0 X st (gi i F):=x9 h λD k H I=>by obtain⟨E0,E,g,j,O,U,z,d⟩:=I;obtain⟨b,f,z⟩:=ze z;obtain⟨a,e⟩:=U.Rt<|vN f;exact⟨E0,E,a,_,O,e,z,d⟩
end
section
variable{X:Cx}{sc:hG}{N L:List Str}{k:Nat}
theorem gJ(i:Nat)(h:SX X sc N L k)(c:k7 sc N L i y=di)
 (Y:X.calm=di) (ok:p9 X scope fr) (S : ∀i∈T.idx,i<own.length) (hi:ql X tg iter src) (hg : ∀fp J C,PG (jn X scope (own++fr.map (·.1)) fp J C) tg<|o7 X.K T)
 (Z : ∀fp J C,PO (jn X scope (own++fr.map (·.1)) fp J C) elt f) (hs : ∀x,ow iter X.env x=pure x:=by intro _;rfl) :
 k0 X (.Assign [.Name y py] (.ListComp elt [⟨tg,iter,[],0⟩] scope cpos) spos) (gd i<|VH src T own.length (fr.map (·.2)) f):=by
 obtain⟨p,r,s⟩:=h.loc c;refine x9 (wa (te:=tO X.K f) h.D6 p r s Y ok hi hg (λ_ _ _=>Xp) Z hs) λD l H I=>?_;obtain⟨E0,E,e,j,w,U,z,m⟩:=I;obtain⟨d,o,z⟩:=ze z;by_cases O:j.any QF=ed
 ·rw[RY O]at z;cases z
  exact ah S (λl H Q I=>by obtain⟨e,j,b,rc,z,q⟩:=I;cases z;exact q H e<|Ext.refl rc.sub) l H _ ⟨e,j,d,U.rc,o,λa bs u g x t n=>m _ _ g<|U.R4 x t n O⟩
 ·rw[EQ O]at z;cases z
theorem bw(z:i≠j)(c:Cell)(r:List D):((((γ.set j c).set i .no).set j .no).set i (.own r))=yh γ j i r:=by
 unfold yh;apply II;intro m;simp only[Lg,List.length_set];by_cases a:i=m
 ·subst a;simp
 ·by_cases b:j=m
  ·subst b;simp[a]
  ·simp[a,b]
theorem YN{γ:Ctx}{j i:Nat}(z:i≠j)(c I:Cell):(((γ.set j c).set i .no).set j I)=(γ.set j I).set i .no:=by rw[List.set_comm _ _ (Hu z),List.set_set,List.set_comm _ _ z]
theorem WK(j i:Nat){x y:Str}{bm J bn:g8}{C e:eA}{g f:CO D}{p pos cb:g8}(hp:M8 (eK X.prog X.w) X.A X.env X.xe)(hc:X.calm=di)(h:SX X sc N L k)(cj:QW sc N j x=di)(ci:QW sc N i y=di)
 (hg:PG X (.Name y bm) (yq i)) (hi:PV X C g) (he:PV X e f)
 (ha : ∀v,sh (.Subscript (.Name y J) C p) X.env v=(do
   let ov <- rp [v] (eL (.Name y J) X.env);let iv <- rp [v,ov] (eL C X.env)
   Dx p
   rp [v,ov,iv] (OK ov iv v)
   Pk [v,ov,iv] []):=by intro _;rfl)
 (hs:I9 [.Subscript (.Name y J) C p] e pos.line X.env=pure ed:=by rfl) (hw:OO [.Subscript (.Name y J) C p] e X.env=pure dj:=by rfl)
 (h1:(vr [.Subscript (.Name y J) C p] X.env).map (·.2)=[sh (.Subscript (.Name y J) C p) X.env]:=by rfl)
 (hf : ∀z,ow (.Name x bn) X.env z=pure z:=by intro _;rfl) :
 k0 X (.For (.Name y bm) (.Name x bn) [.Assign [.Subscript (.Name y J) C p] e pos] [] cb) (bp j i g f):=
 x9 (mw hp hc (bY<|h.var cj) hg (bO<|VQ he (mx (h.var ci) hi VD ha) hs hw h1) hf) λD B H hZ=>by
  obtain⟨E0,E,H0,o,fl,rs,u,bt⟩:=hZ;obtain⟨l,e1,u⟩:=ze u;have e1:=vN e1;by_cases b0:i=j\/o.length<=i
  ·rw[RY b0]at u;cases u
  rw[EQ b0]at u;have F:i≠j:=λz=>b0<|.inl z;have S:i<o.length:=by
   rcases Hg i o.length with z | z
   ·exact z
   ·exact absurd (.inr z) b0
  have bv:j<o.length:=(GU.mp e1).1;obtain⟨b8,e2,u⟩:=zC u;subst u;obtain⟨a,bs,g1,hn,e8⟩:=rs.rc.m1.1 j l e1;refine⟨_,g1,a,.L,rfl,⟨_,f9.of hn.ha⟩,?_⟩;refine⟨λt m P H'=>m=l.length - t/\t<=l.length/\∃(r:Hp) (I kh:List (List DL.D)) (U:L2.St),I.length=t/\U[j]? = bQ (bQ (V.ref a))/\(∃v,P=U.set i v)/\H' a=bQ (.lst<|bs.map V.ref)/\RS X.K E0 E r H' P ((o.set j<|.nest<|I++l.drop t).set i .no)/\xT j i g f o (l.drop t)=bQ kh/\b8=I++kh,
   ⟨_,rfl,HX _,H0,[],b8,B,rfl,g1,⟨B[i]?.getD dj,?_⟩,hn.ha,?_,e2,rfl⟩,?_⟩
  ·apply II
   intro m;rw[Lg];by_cases z:i=m
   ·subst z
    have:i<B.length:=by rw[rs.rc.len];exact S
    simp[this]
   ·simp[z]
  ·have:=rs.forget (i:=i) (v:=B[i]?.getD dj)
   have es:B.set i (B[i]?.getD dj)=B:=by
    apply II;intro m;rw[Lg];by_cases z:i=m
    ·subst z
     have:i<B.length:=by rw[rs.rc.len];exact S
     simp[this]
    ·simp[z]
   rw[es]at this;have ec:o.set j (.nest l)=o:=by
    apply II;intro m;rw[Lg];by_cases z:j=m
    ·subst z;rw[RY rfl,RY bv,e1]
    ·simp[z]
   simpa[ec]using this
  rintro t m P H' ⟨rfl,ht,r,I,kh,U,c1,T,⟨v0,rfl⟩,W,Y,O,er⟩;have b5:((o.set j<|.nest<|I++l.drop t).set i .no)[j]? = bQ (.nest<|I++l.drop t):=by rw[GP F,Hf bv]
  obtain⟨a',s,q1,b9,cy⟩:=Y.rc.m1.1 j _ b5;rw[GP F,T]at q1;cases q1;have d0:s=bs:=by have:=b9.ha;rw[W]at this;injection this with this;injection this with this;exact(kJ this).symm
  subst d0;have d1:s.length=l.length:=by rw[b9.len];simp;omega
  by_cases c4:t<l.length
  ·have R:s[t]? = bQ (s[t]'⋯):=GL ⋯
   generalize s[t]'⋯=b at R;have bb:l.drop t=l[t]::l.drop (t+1):=Ld c4;refine .inr ⟨⟨_,.ref b,f9.of W,by rw[Hd,R];rfl⟩,λQ H2=>t+1<=l.length/\∃(r:Hp) (I kh:List (List DL.D)) (U:L2.St),I.length=t+1/\U[j]? = bQ (bQ (V.ref a))/\(∃v,Q=U.set i v)/\H2 a=bQ (.lst<|s.map V.ref)/\RS X.K E0 E r H2 Q ((o.set j<|.nest<|I++l.drop (t+1)).set i .no)/\xT j i g f o (l.drop<|t+1)=bQ kh/\b8=I++kh,λQ H2 n=>⟨l.length - (t+1),by omega,rfl,n.1,n.2⟩,λxv H2 yl=>?_⟩;obtain⟨rfl,yl⟩:=yl;have d3:xv = .ref b:=by have:=yl _<|f9.of W;rw[Hd,R]at this;exact(Hx this).symm
   subst d3;rw[bb]at O;simp only[xT]at O;obtain⟨d,f1,O⟩:=ze O;obtain⟨kk,f2,O⟩:=ze O;obtain⟨dk,f3,f2⟩:=ze f2;obtain⟨M,f4,O⟩:=ze O;obtain⟨d8,f5,O⟩:=zC O;have db:(I++l.drop t)[t]? = bQ l[t]:=by rw[bb,HH ⋯,c1];simp
   have G:(U.set i v0).set i (bQ (.ref b))=U.set i (bQ (.ref b)):=List.set_set ..;have b6:=Y.rc.row (i:=i) b5 (by rw[GP F];exact T) b9 cy R db (by simp;exact S);rw[bw F,G]at b6;show ∃_,_;refine⟨r,yh o j i l[t],d,?_,f1,λv H3 dd x3 r3=>?_⟩
   ·rw[G];exact b6
   have c5:=b6.ext x3;obtain⟨Z,xs,p1,p2,p3,p4⟩:=c5.own i l[t] (by unfold yh;rw[Hf (by simpa using S)]);have dl:Z=b:=by
    rw[Hf (by
     have:=b6.len;simp[yh]at this;rw[this];exact S)]at p1
    cases p1;rfl
   subst dl;refine⟨_,by rw[G];exact p1,dd,yh o j i l[t],dk,by rw[G];exact c5,f3,λv2 H4 dt x4 r4=>?_⟩;rw[jF f2]at r4;refine⟨Z,xs,kk,M,rfl,jk r4,x4.s1 _ _ p3,by rw[p4.length];exact Wb f4,?_⟩;have dv:=(Y.step x3).step x4;have bi:=dv.forget (i:=i) (v:=bQ (.ref Z));have dy:(((o.set j<|.nest<|I++l.drop t).set i .no).set i .no)=((o.set j<|.nest<|I++l.drop t).set i .no):=List.set_set ..;rw[dy,G]at bi;obtain⟨a2,e0,w1,bl,e3⟩:=bi.rc.m1.1 j _ b5;rw[GP F,T]at w1;cases w1;have c9:H4 a=bQ (.lst<|s.map V.ref):=x4.s1 _ _<|x3.s1 _ _ W;have e4:e0=s:=by have:=bl.ha;rw[c9]at this;injection this with this;injection this with this;exact(kJ this).symm
   subst e4;have ca:=bi.RI (t:=t) (row':=l[t].set M d) (ys:=xs.set M v) b5 (by rw[GP F];exact T) bl e3 R<|(p4.mono x4.s0).set M (r3.mono x4.s0);have e5:a≠Z:=λq=>(Io.mp bl.nd).1 (by rw[q];exact HJ R);refine⟨c4,dt,I++[l[t].set M d],d8,U,by simp[c1],T,⟨bQ (.ref Z),G⟩,by rw[zI e5];exact c9,?_,f5,by rw[er,<- O];simp⟩;rw[G];have eR:(I++l.drop t).set t (l[t].set M d)=(I++[l[t].set M d])++l.drop (t+1):=by rw[bb,List.set_append_right _ _ ⋯,show t - I.length=0 by omega,List.append_assoc];rfl
   rw[eR,YN F]at ca;exact ca
  ·have et:t=l.length:=by omega
   subst et;rw[Ml]at O;cases O;rw[Ml]at Y;refine .inl ⟨⟨_,f9.of W,by simp[d1]⟩,?_⟩;rw[er]at bt;exact bt _ _ r Y
end
end DL
namespace L2
open PySem PySem.Spec PyProof.Rows
noncomputable def BX(K:GI):V->List V->Hp->VK->Prop:=λx d H Q=>∃z p b,x = .str z/\d=[.ref p]/\f9 K H p (b.map V.str)/\Builtin.Str.tooLong (b.toArray.foldl (λa p=>a+p.length+z.length) 0)=ed/\Q (.str<|NW z b) H
theorem X5 : ∀{C:List Str} {us:List eh},fh (C.map V.str) us->∃l:List (Str×qs),strValues l=us/\l.map (·.1)=C
 | [],us,r=>by cases r;exact⟨[],rfl,rfl⟩
 | z::C,u::us,.cons r t=>by obtain⟨I,rfl⟩:=r;obtain⟨l,rfl,h⟩:=X5 t;exact⟨(z,I)::l,rfl,by simp[h]⟩
theorem ph{X:Cx}:M6 X "str.join" (BX X.K):=by intro a s y H x n v m Q I U g h;obtain⟨z,p,w,rfl,rfl,d,O,q⟩:=h;obtain⟨t,rfl⟩:=U;obtain⟨u,rfl,rw⟩:=k6 g;cases rw;obtain⟨i,r,f,j⟩:=I.list d;obtain⟨l,rfl,e⟩:=X5 r;subst e;refine LM F.slot_str_join (PJ _ _ _) F.entry_str_join (F.args_str_join_2 _ _) (meets_str_join_list z t p l O) ⟨f.isList,post_join l ⟨joinFit_length O,λt' k=>?_⟩⟩;refine⟨.str (NW z (l.map (·.1))),H,(I.kept (h':=s.heap) (t':=k) λb o e=>e),⟨t',?_⟩,q⟩;show Nt (Builtin.Str.glued z (l.map (·.1))) t'=_;rw[StrLaws.glued_eq_join]
end L2
namespace DL
open PySem PySem.Spec PyProof.Rows L2
theorem Kg{K:GI}{H:Hp} : ∀{ds:List D} {xs:List V} {l:List Str},ej K H ds xs->Kh ds=bQ l->xs=l.map V.str
 | [],xs,l,r,e=>by cases e;rw[show xs=[]from r];rfl
 | d::ds,xs,l,r,e=>by
  obtain⟨x,g,rfl,z,b⟩:=(show ∃x r,xs=x::r/\Rep K H d x/\ej K H ds r from r);cases d with
  | str i=>
   obtain⟨f,a,rfl⟩:=zC (show(Kh ds).map (λl=>i::l)=bQ l from e);rw[Kg b a,show x = .str i from z];rfl
  | _=>cases e
section
variable{X:Cx}{sc:hG}{N L:List Str}{k:Nat}{o e a b:eA}{apos cpos pos p:g8}{f g:CO D}{q:CO (Sk×List D)}
theorem Xd(h:jV x=di):x.length<=1000:=of_decide_eq_true h
theorem J4(h:jV x=di):x.length<=fA:=Ia (Xd h) ⋯
theorem bI(U:PV X o f)(Y:PQ X e q)(C:F5 o "join" X.env (eL o X.env)=eL o X.env:=by rfl)
 (J:((pk cpos<|starEach [e] X.env).all (λx=> !x.1) && (F6 cpos<|keywordEach [] X.env).all (λx=>x.1.isSome) && decide ([e].length+([]:List A1).length+(if ([]:List A1).isEmpty then 0 else 1)<30))=di:=by rfl)
 (S:(apos.endLine==cpos.line)=di:=by rfl) (hs:f7 [e] X.env=[(ed,eL e X.env)]:=by rfl):PV X (.Call (.Attribute o "join" apos) [e] [] cpos) (og f q):=
 qf (gX PySem.F.plainAttrs_str PySem.F.slot_str_join PySem.F.type_str_join ph U (jx Y qy hs) C J S hs rfl) λσ H Q A=>by
  obtain⟨h,g,d,rc,z,K⟩:=A;obtain⟨k,n,z⟩:=ze z;obtain⟨⟨G,m⟩,p,z⟩:=ze z;cases k with
  | str O=>
   cases G with
   | L=>
    obtain⟨l,s,z⟩:=ze z;by_cases I:l.length<=lim/\l.all jV=di/\jV O=di
    ·rw[RY I]at z;cases z
     refine⟨h,g,_,rc,n,λv P b x r=>?_⟩;rw[show v = .str O from r];refine⟨rfl,b,g,.L,m,rc.ext x,p,λa Z i j N u R M=>?_⟩;have t:=Kg M s;subst t;refine⟨O,a,l,rfl,rfl,u,StrLaws.joinFits (B:=1000) (λy E=>Xd<|IP.mp I.2.1 y E) ?_,K _ i j (x.trans N) rfl⟩;have W:=I.1;have:lim=2500:=rfl;have w:=Xd I.2.2;have:l.length*O.length<=2500*1000:=Nat.mul_le_mul ⋯ w;omega
    ·rw[EQ I]at z;cases z
   | T=>cases z
  | _=>cases z
theorem vp(C:PV X a f)(J:PV X b g)(hs:Vl b:=by intro _ _;rfl):PV X (.Subscript a b pos) (ye f g):=
 qf (ur uW C J hs) λG H Q A=>by
  obtain⟨m,l,d,rc,I,q⟩:=A;obtain⟨p,t,I⟩:=ze I;obtain⟨i,O,I⟩:=ze I;obtain⟨s,u,O⟩:=ze O;cases p with
  | str z=>
   by_cases U:jV z=di
   ·have I:(if jV z=di then (hB z.cps.toList.length i).bind λk=>z.cps.toList[k]?.map λc=>D.str ⟨#[c]⟩else dj)=bQ d:=I
    rw[RY U]at I;obtain⟨j,w,I⟩:=ze I;obtain⟨c,y,rfl⟩:=zC I;refine⟨m,l,_,rc,t,λv E e x r=>⟨e,l,s,rc.ext x,u,λF n o B h=>?_⟩⟩;rw[jF O]at h;refine⟨z,i,c,r,jk h,J4 U,?_,q _ n o (x.trans B) rfl⟩;unfold C1;rw[Wb w];exact y
   ·have I:(if jV z=di then (hB z.cps.toList.length i).bind λk=>z.cps.toList[k]?.map λc=>D.str ⟨#[c]⟩else dj)=bQ d:=I
    rw[EQ U]at I;cases I
  | _=>cases I
theorem v9(h:SX X sc N L k)(c:yp sc "len" = di)(z:X.mg "len" = dj)(C:PV X e f)(hs:f7 [e] X.env=[(ed,eL e X.env)]:=by rfl):PV X (.Call (.Name "len" p) [e] [] pos) (k8 f):=
 qf (xR Yj (h.gl c).1 z PySem.boot_len (jx C qy hs) ⋯ ⋯ hs rfl) λm H Q U=>by
  obtain⟨g,l,d,rc,I,q⟩:=U;obtain⟨i,j,I⟩:=ze I;cases i with
  | str z=>
   by_cases O:jV z=di
   ·have I:(if jV z=di then bQ (D.int z.length)else dj)=bQ d:=I
    rw[RY O]at I;cases I;refine⟨g,l,_,rc,j,λv b a x r=>⟨z,by rw[show v = .str z from r],J4 O,q _ b a x rfl⟩⟩
   ·have I:(if jV z=di then bQ (D.int z.length)else dj)=bQ d:=I
    rw[EQ O]at I;cases I
  | _=>cases I
end
section
variable{X:Cx}{sc:hG}{N L:List Str}{k:Nat}{b:eA}{f:CO D}
theorem bH(h:SX X sc N L k)(c:yp sc "min" = di)(z:X.mg "min" = dj)(C:PV X a f)(J:PV X b g)(hs:f7 [a,b] X.env=[(ed,eL a X.env),(ed,eL b X.env)]:=by rfl)(O:f7 [b] X.env=[(ed,eL b X.env)]:=by rfl) :
 PV X (.Call (.Name "min" p) [a,b] [] pos) (gh f g):=
 qf (xR (dU h.calm) (h.gl c).1 z PyProof.Rows.boot_min (jx C (jx J qy O)<|by rw[hs,O]) ⋯ ⋯ (by rw[hs,O]) (by rw[O];rfl)) λK H Q B=>by obtain⟨o,n,d,rc,I,q⟩:=B;obtain⟨i,l,I⟩:=ze I;obtain⟨u,y,l⟩:=ze l;obtain⟨j,U,I⟩:=zC I;obtain⟨w,A,U⟩:=ze U;subst I;refine⟨o,n,u,rc,y,λv F e x r=>⟨e,n,w,rc.ext x,A,λG s t E m=>⟨i,j,?_,q _ s t (x.trans E) rfl⟩⟩⟩;rw[jF l]at r;rw[jF U]at m;rw[jk r,jk m]
end
noncomputable def Cj(c:Xn)(C:Option eg)(H0:Hp):Prop:=match c.2 with
 | none=>C=dj
 | some i=>∃d,C=bQ d/\H0 d=bQ (.xd [(Gg c.1,.int i)])
noncomputable def Pt(K:GI)(n:Nat)(G:List D->Option Xn):Sp:=λg H _ E=>∃b d c,gv b H/\ej K b d g/\d.length=n/\G d=bQ c/\
 ∀C e a f,EA K=di->c.1∈L8->rT K c.1=bQ C->Cj c f a->Ext b H a e->E (.ref C) f e
section ap
variable(γ:Ctx)
@[simp] noncomputable def XT:=@zA.eq_1
@[simp] noncomputable def xX:=@jU.eq_1
@[simp] noncomputable def wI:=@jP.eq_1
@[simp] noncomputable def eJ:=@zc.eq_1
@[simp] noncomputable def yx:=@zg.eq_1
@[simp] theorem mR(d):zu d γ=bQ d:=rfl
@[simp] noncomputable def JB:=@zH.eq_1
@[simp] noncomputable def rQ:=@sB.eq_1
@[simp] noncomputable def Ex:=@oi.eq_1
@[simp] noncomputable def Fd:=@wN.eq_1
@[simp] noncomputable def rB:=@jY.eq_1
@[simp] noncomputable def Fp:=@aw.eq_1
@[simp] noncomputable def Gh:=@R3.eq_1
@[simp] noncomputable def Fe:=@AI.eq_1
@[simp] noncomputable def mS:=@bo.eq_1
@[simp] theorem eP:zF γ=bQ []:=rfl
@[simp] noncomputable def z9:=@zb.eq_1
@[simp] noncomputable def eM:=@qM.eq_1
@[simp] noncomputable def Ef:=@qP.eq_1
@[simp] noncomputable def Eb:=@jT.eq_1
@[simp] noncomputable def Yt:=@jK.eq_1
@[simp] noncomputable def eO:=@yZ.eq_1
@[simp] noncomputable def CZ:=@JP.eq_1
@[simp] noncomputable def Fm:=@Gy.eq_1
@[simp] noncomputable def Es:=@oh.eq_1
@[simp] noncomputable def lJ:=@h6.eq_1
@[simp] noncomputable def QO:=@jD.eq_1
@[simp] noncomputable def CV:=@xn.eq_1
@[simp] noncomputable def Eo:=@sR.eq_1
@[simp] noncomputable def xI:=@qi.eq_1
@[simp] noncomputable def Vi:=@zE.eq_1
@[simp] noncomputable def yM:=@jl.eq_1
@[simp] noncomputable def vS:=@zN.eq_1
@[simp] noncomputable def Jz:=@zR.eq_1
@[simp] noncomputable def Ar:=@Xe.eq_1
@[simp] noncomputable def EY:=@YB.eq_1
@[simp] noncomputable def JA:=@yP.eq_1
@[simp] noncomputable def qA:=@zS.eq_1
@[simp] theorem EZ:jj γ=bQ di:=rfl
@[simp] noncomputable def Eu:=@Kq.eq_1
@[simp] noncomputable def Ea:=@nY.eq_1
@[simp] noncomputable def vR:=@dn.eq_1
@[simp] noncomputable def Bp:=@VG.eq_1
@[simp] theorem Ff:av γ=bQ dj:=rfl
@[simp] noncomputable def Gj:=@ri.eq_1
@[simp] noncomputable def Fb:=@au.eq_1
@[simp] noncomputable def Au:=@xP.eq_1
@[simp] noncomputable def Gi:=@m8.eq_1
@[simp] noncomputable def Fg:=@Gu.eq_1
@[simp] noncomputable def ao:=@je.eq_1
@[simp] noncomputable def As:=@bj.eq_1
@[simp] noncomputable def mQ:=@sM.eq_1
@[simp] noncomputable def mT:=@fw.eq_1
@[simp] noncomputable def Fo:=@rK.eq_1
@[simp] noncomputable def Ej:=@JQ.eq_1
@[simp] noncomputable def Ee:=@nZ.eq_1
@[simp] noncomputable def CT:=@nX.eq_1
theorem jR(F G):zP F G γ=(F γ).bind λz=>match z with
 | .next a=>G a
 | f=>bQ f:=rfl
end ap
@[simp] theorem Ap(ds):z7 (.tup ds)=bQ (.T,ds):=rfl
@[simp] theorem EV(ds):z7 (.lst ds)=bQ (.L,ds):=rfl
@[simp] theorem vg(d):dR (bQ (.val d))=bQ d:=rfl
@[simp] theorem qH(d):vh (bQ (.val d))=z7 d:=rfl
@[simp] theorem pV(d):vh (bQ (.own d))=bQ (.L,d):=rfl
@[simp] theorem pY(d):q8 (bQ (.own d))=bQ d:=rfl
@[simp] theorem pW(d):Vb (bQ (.val d))=bQ (.ret<|.val d):=rfl
@[simp] theorem pX(d):Vb (bQ (.own d))=bQ (.ret<|.own d):=rfl
@[simp] theorem EX(b):q5 (.bl b)=bQ b:=rfl
@[simp] theorem yw(b):lp (.int b)=bQ b:=rfl
@[simp] theorem AO(d):tw (.val d)=d:=rfl
@[simp] theorem AQ(d):tw (.own d) = .lst d:=rfl
@[simp] theorem AN(d):gy (.own d)=bQ d:=rfl
@[simp] theorem Bf(i j):JY (.int i) (.int j)=bQ (.int<|i - j):=rfl
@[simp] theorem Bk(i j):qC (.int i) (.int j)=bQ (.int<|i+j):=rfl
@[simp] theorem Bi(i j):ya (.int i) (.int j)=if 0<j then bQ (.int<|i%j)else dj:=by show(if Bl i j=di then _ else _)=_;simp[Bl]
@[simp] theorem Bj(i j):X3 (.int i) (.int j)=if 0<j/\j<1073741824 then bQ (.int<|i/j)else dj:=by
 show(if An i j=di then _ else _)=_;have e:(An i j=di)=(0<j/\j<1073741824):=by unfold An;rw[Hb,decide_eq_true_eq,decide_eq_true_eq];apply propext;constructor<;>intro h<;>exact⟨h.1,by omega⟩
 simp only[e]
@[simp] theorem Bh(i j):yV (.int i) (.int j)=if QN i j=di then bQ (.int<|i*j)else dj:=rfl
@[simp] theorem Bg(i j):pQ (.int i) (.int j)=if Am i j=di then bQ (.int<|i ^ j.toNat)else dj:=rfl
@[simp] theorem CG(i j):t7 (.int i) (.int j)=bQ (.bl<|decide<|i<j):=rfl
@[simp] theorem CH(i j):o6 (.int i) (.int j)=bQ (.bl<|decide<|i<=j):=rfl
@[simp] theorem CI(i j):C3 (.int i) (.int j)=bQ (.bl<|decide<|j<i):=rfl
@[simp] theorem CJ(i j):O6 (.int i) (.int j)=bQ (.bl<|decide<|j<=i):=rfl
@[simp] theorem CK(i j):ix (.int i) (.int j)=bQ (.bl<|decide<|i=j):=by unfold ix;rw[RY ⟨rfl,rfl⟩];exact congrArg (λb=>bQ (D.bl b)) (by rw[Mu];simp[i3])
@[simp] theorem CF(i j):hL (.int i) (.int j)=bQ (.bl<|!decide (i=j)):=by unfold hL;rw[RY ⟨rfl,rfl⟩];exact congrArg (λb=>bQ (D.bl !b)) (by rw[Mu];simp[i3])
@[simp] theorem sL(i is d ds γ):qO (i::is) (d::ds) γ=qO is ds (γ.set i<|.val d):=rfl
@[simp] theorem sJ(ds γ):qO [] ds γ=γ:=by cases ds<;>rfl
@[simp] theorem Wq(i d γ):xA (.nm i) d γ=bQ (γ.set i<|.val d):=rfl
@[simp] theorem Ao(i j a b γ):xA (.tp [i,j]) (.tup [a,b]) γ=bQ ((γ.set i<|.val a).set j (.val b)):=rfl
@[simp] theorem gc(γ:Ctx)(G:CO Fl):(bQ (Fl.next γ)).bind (λz=>match z with
 | .next γ'=>G γ'
 | f=>bQ f)=G γ:=rfl
theorem ez(i j:Int)(C : -(2 ^ 64)<j)(I:j<2 ^ 64):QN i j=di:=by unfold QN;rw[Ip];right;exact decide_eq_true ⋯
theorem yW(i j:Int)(C : -(2 ^ 64)<i)(I:i<2 ^ 64):QN i j=di:=by unfold QN;rw[Ip];left;exact decide_eq_true ⋯
theorem Wc(C : -(2 ^ 62)<i)(I:i<2 ^ 62):inR i=di:=by unfold inR;exact decide_eq_true ⋯
@[simp] theorem jq(n k:Nat):hB n (k:Int)=if k<n then bQ k else dj:=by
 unfold hB;by_cases h:k<n
 ·rw[RY ⟨Int.natCast_nonneg k,by omega⟩,RY h];simp
 ·rw[EQ ⋯,EQ ⋯,EQ h]
theorem jm:lim=2500:=rfl
@[simp] theorem Bc:0<=lim:=HX _
@[simp] theorem Bb:1<=lim:=by decide
@[simp] theorem Ba:2<=lim:=by decide
@[simp] theorem AZ:3<=lim:=by decide
@[simp] theorem AY:4<=lim:=by decide
@[simp] theorem AX:5<=lim:=by decide
@[simp] theorem AW:6<=lim:=by decide
@[simp] theorem AV:7<=lim:=by decide
@[simp] theorem AU:8<=lim:=by decide
@[simp] theorem AS:0<lim:=by decide
@[simp] theorem ve(h:n<=lim):inR (n:Int)=di:=Wc ⋯ (by have:=jm;omega)
@[simp] theorem Sq(n:Nat):hB (n+1) 0=bQ 0:=jq (n+1) 0 ▸ rfl
@[simp] theorem Sr(n:Nat):hB (n+2) 1=bQ 1:=by have:=jq (n+2) 1;simpa using this
@[simp] theorem RB(n:Nat):hB (n+3) 2=bQ 2:=by have:=jq (n+3) 2;simpa using this
theorem zw(r:α->D) : ∀(l:List α),(∀x∈l,zU T k f γ [g x]=bQ [r x])->zU T k f γ (l.map g)=bQ (l.map r)
 | [],_=>rfl
 | x::l,h=>by
  have a:=h x Ha;have i:=zw r l λy z=>h y<|GX _ z;simp only[HC,zU]at a ⊢;cases e1:xA T (g x) γ with
  | none=>rw[e1]at a;simp at a
  | some d=>
   rw[e1]at a;simp only[GV]at a ⊢;cases e2:k d with
   | none=>rw[e2]at a;simp at a
   | some b=>
    rw[e2]at a;simp only[GV]at a ⊢;cases b with
    | false=>simp at a
    | true=>
     simp only[RY]at a ⊢;cases e3:f d with
     | none=>rw[e3]at a;simp at a
     | some e=>
      rw[e3]at a;simp at a;rw[i];simp[a]
theorem zx(C:xA T d γ=bQ γ1)(I:k γ1=bQ di)(z:f γ1=bQ e):zU T k f γ [d]=bQ [e]:=by simp[zU,C,I,z]
theorem qh(T F d ds γ):ka T F (d::ds) γ=(xA T d γ).bind λγ1=>(F γ1).bind λI=>match I with
 | .next z=>ka T F ds z
 | .cont z=>ka T F ds z
 | .brk z=>bQ (.next z)
 | .ret r=>bQ (.ret r):=rfl
theorem yt(P:Nat->Ctx->Prop) : ∀(ds:List D) (k:Nat) (γ:Ctx),P k γ->(∀i d γ,ds[i]? = bQ d->P (k+i) γ->∃γ',((xA T d γ).bind F=bQ (.next γ')\/(xA T d γ).bind F=bQ (.cont γ'))/\P (k+i+1) γ')->
 ∃γ',ka T F ds γ=bQ (.next γ')/\P (k+ds.length) γ'
 | [],k,γ,h,_=>⟨γ,rfl,h⟩
 | d::ds,k,γ,h,step=>by
  obtain⟨a,e,f⟩:=step 0 d γ rfl h;obtain⟨γ',z,g⟩:=yt P ds (k+1) a (by simpa using f) (λi b I j O=>by have:=step (i+1) b I (by simpa using j) (by rw[show k+(i+1)=k+1+i by omega];exact O);rw[show k+(i+1)+1=k+1+i+1 by omega]at this;exact this)
  refine⟨γ',?_,by rw[show k+(d::ds).length=k+1+ds.length by simp;omega];exact g⟩;rw[qh];cases eb:xA T d γ with
  | none=>rw[eb]at e;simp at e
  | some U=>
   rw[eb]at e;simp only[GV]at e ⊢;rcases e with e | e<;>rw[e]<;>exact z
noncomputable def zB(n:Nat)(f:Nat->Int):List D:=(GH n).map λi=>D.int<|f i
theorem zW(n f):zB n f=(GH n).map λi=>D.int (f i):=rfl
noncomputable def zX(h w:Nat)(f:RK):List D:=(GH h).map λi=>D.tup<|zB w<|f i
noncomputable def qk(h w:Nat)(f:RK):D:= .tup [.int h,.int w,.tup (zX h w f)]
@[simp] theorem vK(n f):(zB n f).length=n:=by simp[zB]
@[simp] theorem iY(h w f):(zX h w f).length=h:=by simp[zX]
@[simp] theorem CB(f)(h:i<(zB n f).length):(zB n f)[i] = .int (f i):=by simp[zB]
theorem xU(f)(h:i<n):(zB n f)[i]? = bQ (.int<|f i):=by simp[zB,h]
@[simp] theorem CC(f)(C:i<(zX h w f).length):(zX h w f)[i] = .tup (zB w<|f i):=by simp[zX]
theorem kP(h : ∀i,i<n->f i=g i):zB n f=zB n g:=by unfold zB;apply Hk;intro i a;rw[h i (eY.mp a)]
theorem Wl(e : ∀i j,i<h->j<w->f i j=g i j):zX h w f=zX h w g:=by unfold zX;apply Hk;intro i a;rw[kP λj z=>e i j (eY.mp a) z]
theorem jy(n:Nat):yR 0 n=zB n λi=>(i:Int):=by simp[yR,zB]
theorem QT(n:Nat)(f g:Nat->Int):JK (zB n f) (zB n g)=(GH n).map λi=>D.tup [.int (f i),.int (g i)]:=by unfold JK zB;rw[Mn];simp
theorem fE(n w:Nat)(f g:RK):JK (zX n w f) (zX n w g)=(GH n).map λi=>D.tup [.tup (zB w<|f i),.tup (zB w<|g i)]:=by unfold JK zX;rw[Mn];simp
noncomputable def zk(f:Nat->Int):Nat->Int
 | 0=>0
 | n+1=>zk f n+f n
theorem ZL : ∀(xs:List Int) (y:Int),fV (xs.map D.int++[.int y])=(fV<|xs.map D.int).map λs=>s+y
 | [],y=>by simp[fV]
 | x::xs,y=>by simp only[HC,NQ,fV];rw[ZL xs y];cases e:fV (xs.map D.int)<;>simp[Int.add_assoc]
theorem vo(f:Nat->Int) : ∀n,fV (zB n f)=bQ (zk f n)
 | 0=>rfl
 | n+1=>by
  have z:=vo f n;have e : ∀m,zB m f=((GH m).map f).map D.int:=λm=>by simp[zB]
  rw[e]at z ⊢;rw[IW,Ih,Ih,List.map_singleton,List.map_singleton,ZL,z];simp[zk]
noncomputable def xp:=jf 2<|jK<|je<|jP<|zS (zN<|zg 1) (.nm 0) 1 [0] jj (zH ya (zc 0)<|zc 1)
noncomputable def Vm:=jf 3<|jK<|zE xp<|zb (zc 0)<|zb (jU<|zS (zN<|zA<|dn (zg 1)<|zu<|.int 2) (.nm 0) 1 [2] jj (sM<|jP<|zS (YB (zc 0)<|zc 1) (.tp [0,1]) 2 [] jj (zH yV (zc 0)<|zc 1))) zF
noncomputable def qa:=jf 2<|zP (jD 1<|jU<|zS (zR<|dn (zg 0)<|zu<|.int 1) (.nm 0) 1 [0] jj (je<|jP<|zS (zN<|zA<|dn (zg 1)<|zu<|.int 2) (.nm 0) 1 [0] jj (dn (zg 0)<|zc 1)))<|jK<|qM<|zb (dn (zg 0)<|zu<|.int 1)<|zb (dn (zg 0)<|zu<|.int 0)<|zb (je<|zg 1) zF
noncomputable def xJ:=jf 4<|zP (jD 3<|zE qa<|zb (zc 2) zF)<|jK<|qM<|zb (dn (zg 1)<|zu<|.int 0)<|zb (dn (zg 2)<|zu<|.int 1)<|zb (je<|jP<|zS (zN<|zA<|dn (zg 1)<|zu<|.int 2) (.nm 0) 1 [0,3] jj (zE Vm<|zb (zc 1)<|zb (zc 2)<|zb (zc 0) zF)) zF
noncomputable def j6:=jf 2<|zP (jD 1<|jU<|zS (zR<|zc 0) (.nm 0) 1 [0] jj (je<|jP<|zS (zR<|zc 1) (.nm 0) 1 [0] jj (bo (sB<|zH ix (zc 1)<|zc 0) (zu<|.int 1)<|zu<|.int 0)))<|jK<|qM<|zb (zc 0)<|zb (zc 0)<|zb (je<|zg 1) zF
noncomputable def JZ:=jf 2<|jK<|qM<|zb (zc 0)<|zb (zc 1)<|zb (zH yV (qM<|zb (zH yV (qM<|zb (zu<|.int 0) zF)<|zc 1) zF)<|zc 0) zF
noncomputable def jB:=jf 1<|jK<|aw (m8 .int<|zc 0)<|AI<|m8 .bool<|zc 0
noncomputable def vV:=jf 3<|zP (yP (Xe (zu<|.int 1)<|zc 0) (.nm 2)<|h6 (sB<|zH ix (zH ya (zH yV (zc 1)<|zc 2)<|zc 0)<|zu<|.int 1) (JP 2) jT) Kp
noncomputable def qF:=jf 5<|zP (jD 4<|dn (zg 1)<|zc 3)<|zP (h6 (sB<|zH ix (zc 4)<|zu<|.int 0) (JP 1) jT)<|jK<|zE xp<|zb (zc 0)<|zb (jU<|zS (YB (zc 1)<|zc 2) (.tp [0,1]) 2 [4] jj (zH JY (zc 0)<|zH yV (zc 2)<|zc 1)) zF
noncomputable def qG:=jf 9<|zP (jD 3<|jU<|zS (zN<|zg 2) (.nm 0) 1 [0] jj (zE xp<|zb (zc 1)<|zb (zc 0) zF))<|zP (xn 4<|qP zF)<|zP (yP (zR<|zc 1) (.nm 5)<|zP (jD 6<|jU<|zS (zN<|zg 3) (.nm 0) 1 [5] (sB<|zH hL (dn (zg 0)<|zc 1)<|zu<|.int 0) (zc 0))<|zP (h6 (jY<|nX<|zg 6) oh jT)<|zP (jD 7<|zE vV<|zb (zc 0)<|zb (dn (zA<|dn (zg 6)<|zu<|.int 0)<|zc 5) zF)<|zP (jD 8<|zE xp<|zb (zc 0)<|zb (jU<|zS (zN<|zA<|dn (zg 6)<|zu<|.int 0) (.nm 0) 1 [7] jj (zH yV (zc 1)<|zc 0)) zF)<|zP (jD 3<|jU<|zS (zN<|zg 3) (.nm 0) 1 [0,5,8] jj (zE qF<|zb (zc 1)<|zb (zc 0)<|zb (zc 3)<|zb (zc 2) zF))<|xn 4<|Kq (jP<|zS (zN<|zg 4) (.nm 0) 1 [0,5,8] jj (zE qF<|zb (zc 1)<|zb (zc 0)<|zb (zc 3)<|zb (zc 2) zF))<|jP<|qP<|zb (zc 8) zF)<|JP 4
noncomputable def jO:=jf 2<|yZ<|zS (zN<|zg 1) (.nm 0) 1 [0] (jY<|sB<|rK<|zA<|au (zc 0) av<|ri<|zc 1) (au (zc 0) (ri<|zc 1) av)
noncomputable def xf:=jf 5<|zP (jD 3<|jU<|zS (YB (dn (zA<|zE qa<|zb (zc 1) zF)<|zu<|.int 2)<|dn (zA<|zE j6<|zb (dn (zg 1)<|zu<|.int 1) zF)<|zu<|.int 2) (.tp [0,1]) 2 [] jj (zH qC (zc 0)<|zc 1))<|zP (jD 4<|jU<|zS (zN<|zg 2) (.nm 0) 1 [1] jj (zH qC (zc 0)<|zH yV (qM<|zb (zu<|.int 0) zF)<|dn (zg 1)<|zu<|.int 1))<|yZ<|jl jO<|zb (dn (zg 1)<|zu<|.int 0)<|zb (jU<|jl qG<|zb (zc 0)<|zb (zH qC (dn (zg 1)<|zu<|.int 0)<|dn (zg 1)<|zu<|.int 1)<|zb (jU<|Kq (zg 3)<|zg 4) zF) zF
noncomputable def yO:=jf 2<|yZ<|jl xf<|zb (zc 0)<|zb (zc 1)<|zb (jU<|qP zF) zF
noncomputable def wK:=jf 2<|yZ<|jl qG<|zb (zc 0)<|zb (dn (zg 1)<|zu<|.int 0)<|zb (dn (zA<|zE qa<|zb (zc 1) zF)<|zu<|.int 2) zF
section
variable(γ:Ctx)
@[simp] noncomputable def Fn:=@Gz.eq_1
@[simp] noncomputable def Ew:=@FR.eq_1
@[simp] noncomputable def Bw:=@EG.eq_1
end
noncomputable def qE:=jf 1<|jK<|dn (jP<|zS (gk<|zc 0) (.tp [0,1]) 2 [] (sB<|zH hL (zc 1)<|zu<|.int 0) (zc 0))<|zu<|.int 0
noncomputable def yN:=jf 7<|zP (jD 3<|dn (zg 1)<|zu<|.int 1)<|zP (xn 4<|nY (jP<|qP<|zb (zu<|.int 0) zF)<|zc 3)<|zP (yP (zN<|zA<|jU<|jl qG<|zb (zc 0)<|zb (zH qC (zc 3)<|zu<|.int 1)<|zb (jU<|zS (YB (dn (zg 1)<|zu<|.int 2)<|zc 2) (.tp [0,1]) 2 [] jj (zH qC (zc 0)<|qM<|zb (zc 1) zF)) zF) (.nm 5)<|zP (jD 6<|zE qE<|zb (zc 5) zF)<|zP (h6 (sB<|zH ix (zc 6)<|zc 3) (jK<|zu .eX) jT)<|VG 4 (zc 6)<|dn (zg 5)<|zc 3)<|jK<|je<|zg 4
section
variable(γ:Ctx)
@[simp] noncomputable def Em:=@gk.eq_1
@[simp] noncomputable def Fi:=@Gv.eq_1
@[simp] noncomputable def Fj:=@Gw.eq_1
@[simp] theorem Bx(F G a b c):kf F G a b c γ=(a γ).bind λx=>(b γ).bind λy=>((F x y).bind q5).bind λk=>if k=di then (c γ).bind λz=>G y z else bQ (.bl ed):=rfl
@[simp] noncomputable def CU:=@w6.eq_1
end
noncomputable def xM:=jf 5<|zP (jD 2<|dn (zg 1)<|zu<|.int 0)<|zP (h6 (sB<|zH hL (dn (zg 1)<|zu<|.int 1)<|zc 2) (jK<|zu .eX) jT)<|zP (jD 3<|dn (zA<|zE j6<|zb (zc 2) zF)<|zu<|.int 2)<|zP (jD 4<|jU<|jl qG<|zb (zc 0)<|zb (zH qC (zc 2)<|zc 2)<|zb (jU<|zS (YB (dn (zg 1)<|zu<|.int 2)<|zc 3) (.tp [0,1]) 2 [] jj (zH qC (zc 0)<|zc 1)) zF)<|zP (h6 (sB<|zH hL (jU<|zS (zN<|zg 4) (.nm 0) 1 [2] jj (au (zc 0) av<|ri<|zc 1))<|jU<|bj<|zg 3) (jK<|zu .eX) jT)<|jK<|qM<|zb (zc 2)<|zb (zc 2)<|zb (je<|jP<|zS (zN<|zg 4) (.nm 0) 1 [2] jj (au (zc 0) (ri<|zc 1) av)) zF
section
variable(γ:Ctx)
@[simp] theorem CY(i f):gd i f γ=(f γ).bind λC=>if γ.any QF=ed then bQ (.next<|γ.set i<|.nest C)else dj:=rfl
@[simp] noncomputable def Bv:=@VH.eq_1
@[simp] noncomputable def Av:=@bp.eq_1
@[simp] noncomputable def Fk:=@gj.eq_1
@[simp] noncomputable def El:=@gi.eq_1
@[simp] noncomputable def Bo:=@EE.eq_1
end
@[simp] theorem lE(r):vO (bQ (.nest r))=bQ r:=rfl
section
variable(γ:Ctx)
@[simp] noncomputable def XS:=@ye.eq_1
@[simp] noncomputable def Eh:=@k8.eq_1
@[simp] noncomputable def Er:=@FP.eq_1
@[simp] noncomputable def rC:=@og.eq_1
end
noncomputable def BS(f:CO D):CO D:=λa=>(f a).map λd=> .bl (az .list d || az .tuple d)
noncomputable def ar:=jf 1<|jK<|aw (m8 .int<|zc 0)<|AI<|m8 .bool<|zc 0
noncomputable def Yw:=jf 2<|jK<|aw (zE ar<|zb (zc 1) zF)<|kf o6 t7 (zu<|.int 0) (zc 1)<|zc 0
noncomputable def Vn:=jf 2<|jK<|aw (BS<|zc 0)<|zH ix (xP<|zg 0)<|zc 1
noncomputable def ky:=jf 1 (jK (og (zu (.str "")) (jP (zS (zN (zA (dn (zg 0) (zu (.int 2))))) (.nm 0) 1 [] jj (dn (zg 0) (zu (.int 0)))))))
noncomputable def xB:=jf 2<|jK<|aw (zH ix (dn (zg 0)<|zu<|.int 0)<|dn (zg 1)<|zu<|.int 0)<|zH ix (zE ky<|zb (zc 0) zF)<|zE ky<|zb (zc 1) zF
noncomputable def xk:=jf 2<|h6 (jY<|sB<|zE xB<|zb (zc 0)<|zb (zc 1) zF) Kp jT
noncomputable def yX:List D->Option Xn:=EH 2 (E7 (jY (sB (zE xB (zb (zc 0) (zb (zc 1) zF))))) (rS "Unlike") E8)
section
variable{X:Cx}{sc:hG}{N L:List Str}{k:Nat}{a e:eA}{es:List eA}{f:CO D}{g:CO (List D)}{pos p p2:g8}
theorem gL(O:PV X e f)(hs:wh e dj pos.line X.env=pure ed:=by rfl):k0 X (.Expr e pos) (sR f):=x9 (YF O hs) λD k H U=>by obtain⟨E0,E,g,j,l,I,z,h⟩:=U;obtain⟨d,i,z⟩:=zC z;subst z;exact⟨g,j,d,I.rc,i,λv b a x r=>h k b a<|I.step x⟩
end
theorem xO(h:C0 X es n g):A2 X es g:=h.1
section
variable{K:GI}{E0 E H0 H:Hp}{σ:St}{γ:Ctx}
theorem ej.dropLast : ∀{ds:List D} {xs:List V},ej K H ds xs->ej K H ds.dropLast xs.dropLast
 | [],xs,r=>by rw[r.o3];exact ej.nil
 | [d],xs,r=>by obtain⟨x,b,e,_,a⟩:=r.mm;rw[e,a.o3];exact ej.nil
 | d::d2::ds,xs,r=>by obtain⟨x,b,e,z,a⟩:=r.mm;obtain⟨O,U,I,_,_⟩:=a.mm;subst e I;exact ej.cons z<|ej.dropLast a
end
section
variable{X:Cx}{sc:hG}{N L:List Str}{k:Nat}{a b e:eA}{pos p p2:g8}{f g:CO D}
theorem WJ{c:eA}{C:CO D}(J:PV X a C){O:CO (Sk×List D)}(S:PQ X c O)(Y:vu .NotIn c=ed:=by with_unfolding_all rfl):l7 X (.Compare a [.NotIn] [c] pos) (sB<|Xf C O):=
 YE (bN KH J S Y) λP H Q A=>by
  obtain⟨h,g,d,rc,z,q⟩:=A;obtain⟨G,n,w⟩:=ze z;obtain⟨x,o,z⟩:=ze n;obtain⟨⟨f,m⟩,s,z⟩:=ze z;obtain⟨i,t,z⟩:=ze z;obtain⟨l,u,rfl⟩:=zC z;cases w;refine⟨h,g,x,rc,o,λU F j x1 I=>⟨j,g,f,m,rc.ext x1,s,λp N b k E e M r=>?_⟩⟩;rw[jF t]at I;have y:=K6 r u;subst y;have B:f9 X.K b p (l.map V.int)\/g5 X.K b p (l.map V.int):=by
   cases f with
   | L=>exact .inl e
   | T=>exact .inr e
  refine⟨p,_,rfl,B,by rw[show U = .int i from I];rfl,Ye l,?_⟩;rw[show U = .int i from I,de];exact⟨_,rfl,q b k<|x1.trans E⟩
end
end DL
namespace L2
open PySem PySem.Spec PyProof.Rows
theorem iX{X:Cx}{C:RW}{σ:St}{H:Hp}{s:el}{E:RQ}{z it:eg}{i J:Nat}{x:eh}{v:V}{g:fy}{L:List eA}{x1:Nat}{S:g8}{Q:Unit->el->Prop}
 (I:Inv X C σ H s) (Y : ∀b ∈ [z,it],wV X C H b) (Z:z<s.heap.objs.size) (hi:it<s.heap.objs.size) (a1:M3 g z it ((i:Int)+1) x s.heap.objs.size)
 (a3:m9 g s.heap.objs.size (.int i J) x) (a5 : ∀b o,b≠z->b≠it->s.heap.get? b=bQ o->g.get? b=bQ o) (rx:RelV v x)
 (ak : ∀g2,s8 g2 z it ((i+1:Nat):Int) x->Mi z g g2->Inv X C σ (upd H s.heap.objs.size<|.tup [.int i,v]) {s with heap:=g2,toks:=J+1}->H s.heap.objs.size=dj->
   (∀b ∈ [z,it],upd H s.heap.objs.size (.tup [.int i,v]) b=dj)->Q () {s with heap:=g2,toks:=J+1}) :
 wpAny (eK X.prog X.w) X.A (G6 (.Tuple L x1 S) (.ref z)<|.ref s.heap.objs.size) Q E {s with heap:=g,toks:=J+1}:=by
 refine Si a1 λg2 rq a=>?_;have d:m9 g2 s.heap.objs.size (.int i J) x:=a.extBut _ _ (Lb Z) a3;have h : ∀O u,O ∉ [z,it]->s.heap.get? O=bQ u->g2.get? O=bQ u:=λO u U e=>by simp only[GW,Hz,or_false,not_or]at U;exact a.extBut _ _ U.1<|a5 O u U.1 U.2 e
 refine ak g2 (by have:=rq;rwa [show((i:Int)+1)=((i+1:Nat):Int)by omega]at this) a (I.OS (fp:=[z,it]) h Y (GQ _) ⟨by show 2<=fA;decide,[.int i J,x],.cons ⟨_,rfl⟩<|.cons rx .nil,⟨_,d,rfl,_,rfl⟩⟩) I.fresh λO U=>?_;have f:O≠s.heap.objs.size:=by
  simp only[GW,Hz,or_false]at U;rcases U with rfl | rfl
  ·exact Ho Z
  ·exact Ho hi
 rw[zI f];exact(Y O U).1
noncomputable def Ez(K:GI)(a:eg):It:=
 ⟨λi H=>∃b,f9 K H a b/\i<b.length,
  λi H x d=>∃p u,x = .ref p/\H p=dj/\d=upd H p (.tup [.int i,u])/\(∀b,f9 K H a b->b[i]? = bQ u),
  λi H=>∃b,f9 K H a b/\b.length=i⟩
theorem Ww{P:il}{w:hH}{K:GI}{elts:List eA}{x1:Nat}{u6:g8}{z it a:eg}(am:z≠it) :
 Turn P w K (.Tuple elts x1 u6) (Ez K a) [z,it] z (λi h=>(∃a0,s8 h z it i a0)/\h.IsListIter it a i) where
 mem:=by simp
 obj:=λi h ⟨⟨a0,O⟩,h1⟩ y hy=>by
  simp only[GW,Hz,or_false]at hy;rcases hy with rfl | rfl
  ·exact⟨_,O,λv q=>by cases q⟩
  ·obtain⟨o,e,c,d⟩:=h1
   exact⟨o,e,λv q=>by rw[d]at q;cases q⟩
 keep:=λi h h' ⟨⟨a0,O⟩,h1⟩ k=>⟨⟨a0,k z ⋯ _ O⟩,h1.at λo e=>k it ⋯ o e⟩
 item:=by
  rintro X rfl rfl rfl hc i pins s σ H E I hf ⟨⟨a0,O⟩,h1⟩ ⟨xs,a8,b9⟩;obtain⟨a9,ac,p1,z1⟩:=I.list a8;have hl:=p1.isList;have hx:xs[i]? = bQ xs[i]:=GL b9;have l1:=ac.length;have ax:a≠it:=λe=>by obtain⟨o,e1,U,_⟩:=hl;obtain⟨o2,e2,c2,_⟩:=h1;rw[e,e2]at e1;cases e1;rw[c2]at U;exact absurd U ⋯
  have be:z≠a:=λe=>by obtain⟨o,e1,U,_⟩:=hl;have b7:s.heap.get? z=bQ _:=O;rw[e,e1]at b7;cases b7;exact absurd U ⋯
  have bf:it<s.heap.objs.size:=by obtain⟨o2,e2,_⟩:=h1;exact GZ e2
  have Dr:=Draws.list (prog:=X.prog) (w:=X.w) (A:=X.A.in1) (show X.A.in1.handled=dj from I.ok.hd hc) it a ax a9.toArray;refine wpAny_pyNext_enum_itemD Dr O ⟨h1,hl⟩ (by simp;omega) am (by simp;exact⟨am,be⟩) λx g tk hP a1 a2 a3 a4 a5=>⟨_,rfl,?_⟩;obtain⟨u1,bt,bv⟩:=ac.get hx;obtain rfl:u1=x:=by have:=hP;simp[bt]at this;exact this
  refine iX I hf (GZ O) bf a1 a3 a5 bv λg2 b1 b2 I1 c0 hn=>⟨.ref s.heap.objs.size,_,I1,rfl,⟨_,_,rfl,c0,rfl,λc9 c3=>by rw[I.Ow c3 a8];exact hx⟩,⟨⟨_,b1⟩,a2.1.at λo e=>b2.extBut _ _ am.symm e⟩,hn⟩
 done:=by
  rintro X rfl rfl rfl hc i pins s σ H E I hf ⟨⟨a0,O⟩,h1⟩ ⟨xs,a8,hi⟩;obtain⟨a9,ac,p1,z1⟩:=I.list a8;have hl:=p1.isList;have l1:=ac.length;have ax:a≠it:=λe=>by obtain⟨o,e1,U,_⟩:=hl;obtain⟨o2,e2,c2,_⟩:=h1;rw[e,e2]at e1;cases e1;rw[c2]at U;exact absurd U ⋯
  have Dr:=Draws.list (prog:=X.prog) (w:=X.w) (A:=X.A.in1) (show X.A.in1.handled=dj from I.ok.hd hc) it a ax a9.toArray;have en:a9.toArray.size=i:=by simp;omega
  rw[en]at Dr;refine wpAny_pyNext_enum_endD Dr O ⟨h1,hl⟩ λg hk=>⟨rfl,?_⟩;refine I.Dd (t':=s.toks) (fp:=[z,it]) (λb' u hb e=>?_) hf;simp only[GW,Hz,or_false,not_or]at hb;exact hk b' u hb.2 e
 self:=λ_ _ _ _ _ st h=>vI st.1.choose_spec h
noncomputable def Aa(K:GI)(C:TA):TI:=λf H R=>C f H λd b=>∃a,d=[.ref a]/\(∃e,f9 K b a e)/\R (Ez K a) b
section
variable{X:Cx}{e1:eA}{ta:TA}{p pos:g8}{elts:List eA}{x1:Nat}{u6:g8}
theorem gS(J:Gl X "enumerate")(L:X.mg "enumerate" = dj)(C:PA X [e1] ta)
 (S:C2 "enumerate" = bQ (.type "enumerate")) (hs:f7 [e1] X.env=[(ed,eL e1 X.env)]:=by rfl) :
 PI X (.Tuple elts x1 u6) (.Call (.Name "enumerate" p) [e1] [] pos) (Aa X.K ta):=by
 intro b s n H R I h;refine DU<|yo I J L S<|Ij (e9 (C pos b s n H _ I h) λt d j=>?_) (by rw[hs];rfl) rfl;obtain⟨u,e,z,m,l⟩:=j;obtain⟨a,rfl,⟨x,f⟩,q⟩:=l;obtain⟨w,rfl,i⟩:=k6 m;cases i;obtain⟨o,r,k,y⟩:=z.list f;refine call_enumerate_list k.isList λg b1 b2 b3 b4=>vI (s:={d with heap:=g}) b1 ?_;refine⟨_,[d.heap.objs.size+1,d.heap.objs.size],_,_,e,rfl,z.kept (t':=d.toks) b4,Ww<|Lb<|IQ _,⟨⟨_,b1⟩,b2⟩,λc O=>?_,q⟩;have U:d.heap.objs.size<=c:=by
  simp only[GW,Hz,or_false]at O;rcases O with rfl | rfl
  ·exact HP _ _
  ·exact GQ _
 exact z.C4 U<|z.f6.fresh U
end
end L2
namespace DL
open PySem PySem.Spec PyProof.Rows L2
theorem Ws{K:GI}{H0 C:Hp}{a:eg}{xs:List V}{ds:List D}(h:f9 K C a xs)(r:ej K H0 ds xs):Walk K H0 C (Ez K a) (kO ds):=by
 have U:=r.length;have m:(kO ds).length=ds.length:=by simp[kO]
 refine⟨λi b s k=>?_,λb s=>?_,λi b x g s k y=>?_⟩
 ·exact⟨xs,s.seq h,by omega⟩
 ·exact⟨xs,s.seq h,by omega⟩
 ·obtain⟨p,u,rfl,z,rfl,I⟩:=y
  obtain⟨d,j,O⟩:=r.Dq<|I xs<|s.seq h;refine⟨.tup [.int i,d],?_,λf l e=>⟨upd f p<|.tup [.int i,u],Ext.alloc e z _,?_⟩⟩
  ·unfold kO
   rw[Hd,Ic ⋯,Iw,j];rfl
  ·exact xo (g5.of zO)<|ej.cons (show V.int i = .int i from rfl)<|ej.cons ((O.mono l).mono (jd (jt e z) _)) ej.nil
section
variable{X:Cx}{sc:hG}{N L:List Str}{k:Nat}{a b e:eA}{pos p p2:g8}{f fa fb:CO D}
theorem oO(h:SX X sc N L k)(c:yp sc "enumerate" = di)(z:X.mg "enumerate" = dj)(C:PV X a f)(hs:f7 [a] X.env=[(ed,eL a X.env)]:=by rfl) :
 ij X (.Tuple elts x1 u6) (.Call (.Name "enumerate" p) [a] [] pos) (lZ f):=
 KC (gS (h.gl c).1 z (jx C qy hs) Ri hs) λs H R U=>by
  obtain⟨g,m,n,rc,I,q⟩:=U;obtain⟨d,j,I⟩:=ze I;cases d with
  | lst o=>
   cases I;refine⟨g,m,_,rc,j,λv e b x r=>?_⟩;obtain⟨i,l,rfl,O,g2⟩:=cN r;exact⟨i,rfl,⟨l,x.sub.seq O⟩,q _ e b x<|Ws O g2⟩
  | _=>cases I
end
end DL
namespace DL
open PySem L2 PyProof.Rows
open PySem.W (KasT kas_sort kas_asc kas_desc kas_tail3 kas_descPart kas_count kas_place kas_bin kas_rev)
noncomputable def Good{C:Type}(n:Nat)(P:C->Prop):KasT C->Prop
 | .ret a=>P a
 | .ask i j k=>i<n/\j<n/\∀b,Good n P<|k b
theorem Good.mono{C:Type}{n:Nat}{P z:C->Prop}(h : ∀a,P a->z a) : ∀{t:KasT C},Good n P t->Good n z t
 | .ret a,g=>h a g
 | .ask i j k,g=>⟨g.1,g.2.1,λb=>(g.2.2 b).mono h⟩
theorem Good.bind{C β:Type}{n:Nat}{P:C->Prop}{z:β->Prop}{f:C->KasT β}(I : ∀a,P a->Good n z (f a)) : ∀{t:KasT C},Good n P t->Good n z (t.bind f)
 | .ret a,g=>I a g
 | .ask i j k,g=>⟨g.1,g.2.1,λb=>(g.2.2 b).bind I⟩
theorem Good.run : ∀{t:KasT α},Good n P t->P (xt lt t)
 | .ret a,g=>g
 | .ask i j k,g=>(g.2.2 _).run
noncomputable def Pm(n:Nat)(p:Array Nat):Prop:=p.toList.Perm<|GH n
theorem Pm.lt(h:Pm n p)(C:0<n)(i:Nat):p.getD i 0<n:=by
 by_cases a:i<p.size
 ·have e:p.getD i 0=p[i]:=by simp[Array.getD,a]
  rw[e];exact eY.mp<|h.mem_iff.mp ⋯
 ·have e:p.getD i 0=0:=by simp[Array.getD,a]
  rw[e];exact C
theorem Pm.rev(h:Pm n p)(i j:Nat):Pm n (kas_rev p i j):=(Array.perm_iff_toList_perm.mp<|mirror_perm p i j _).trans h
theorem Pm.Rj(h:Pm n p)(i j:Nat):Pm n (bubble p i j):=(Array.perm_iff_toList_perm.mp<|bubble_perm p i j).trans h
theorem XF(h:Pm n p)(C:0<n) : ∀f m,Good n (λ_=>True) (kas_asc p f m)
 | 0,m=>trivial
 | f+1,m=>⟨h.lt C _,h.lt C _,λb=>by
  cases b with
  | true=>exact trivial
  | false=>exact XF h C f<|m+1⟩
theorem vJ(C:0<n) : ∀f p m q,Pm n p->Good n (λr=>Pm n r.1) (kas_desc f p m q)
 | 0,p,m,q,h=>h
 | f+1,p,m,q,h=>⟨h.lt C _,h.lt C _,λb=>by
  cases b with
  | true=>
   show Good n _ (if q>0 then _ else _);split
   ·exact vJ C f _ _ _<|h.rev _ _
   ·exact vJ C f _ _ _ h
  | false=>exact⟨h.lt C _,h.lt C _,λd=>by
   cases d with
   | true=>exact h
   | false=>exact vJ C f _ _ _ h⟩⟩
theorem K9{n:Nat}(C:0<n)(m r:Nat){p:Array Nat}(h:Pm n p):Good n (λr=>Pm n r.2) (kas_tail3 m r p):=by unfold kas_tail3;refine Good.bind (P:=λ_=>True) (λa _=>?_)<|XF (h.rev _ _) C _ _;exact(show Pm n (kas_rev p 0 m)from h.rev _ _)
theorem Ya{n:Nat}(C:0<n)(m r:Nat){p:Array Nat}(h:Pm n p):Good n (λr=>Pm n r.2) (kas_descPart m r p):=
 (vJ C _ _ _ _ h).bind λa b=>by
   show Good n _ (if a.2.2>0 then _ else _);split
   ·exact K9 C _ _<|Pm.rev b _ _
   ·exact K9 C _ _ b
theorem W9{n:Nat}(C:0<n)(r:Nat){p:Array Nat}(h:Pm n p):Good n (λr=>Pm n r.2) (kas_count r p):=
 (XF h C _ _).bind λm _=>by
   show Good n _ (if (m==r)=di then _ else if m>1 then _ else _);split
   ·exact h
   ·split
    ·exact⟨h.lt C _,h.lt C _,λc=>by
      cases c with
      | true=>exact h
      | false=>exact Ya C _ _<|h.rev _ _⟩
    ·exact Ya C _ _ h
theorem wB(C:0<n)(h:Pm n p)(k:Nat) : ∀f l r,Good n (λ_=>True) (kas_place p k f l r)
 | 0,l,r=>trivial
 | f+1,l,r=>by
  show Good n _ (if l>=r then _ else _);split
  ·exact trivial
  ·exact⟨h.lt C _,h.lt C _,λc=>by
    cases c with
    | true=>exact wB C h k f _ _
    | false=>exact wB C h k f _ _⟩
theorem We{n:Nat}(C:0<n) : ∀f p k,Pm n p->Good n (Pm n) (kas_bin f p k)
 | 0,p,k,h=>h
 | f+1,p,k,h=>(wB C h k k 0 k).bind λl _=>We C f _ _<|h.Rj _ _
theorem Jq{n:Nat}(C:0<n):Good n (Pm n) (kas_sort n):=
 (W9 C n<|show Pm n (Lv<|GH n)from List.Perm.refl _).bind λr z=>by
   show Good n _ (if r.1<n then _ else _);split
   ·exact We C _ _ _ z
   ·exact z
theorem jH(ps:List (Int×Int)):(jZ ps).Perm (GH ps.length):=by
 unfold jZ;split
 ·exact List.Perm.refl _
 ·exact(Jq ⋯).run
theorem KF : ∀{ds:List D} {ps:List (Int×Int)},wQ ds=bQ ps->ps.length=ds.length
 | [],ps,h=>by cases h;rfl
 | d::ds,ps,h=>by
  unfold wQ at h;cases e1:gZ d with
  | none=>rw[e1]at h;cases h
  | some x=>
   cases e2:wQ ds with
   | none=>rw[e1,e2]at h;cases h
   | some l=>rw[e1,e2]at h;cases h;simp[KF e2]
theorem jc(d:α) : ∀ds:List α,(GH ds.length).map (λi=>ds.getD i d)=ds:=λds=>by
 apply II;intro i;by_cases a:i<ds.length
 ·simp[a]
 ·simp[a,Nat.not_lt.mp a]
end DL
namespace DL
open PySem PySem.Spec PyProof.Rows L2
open PySem.W (KasT kas_sort kas_ask kat_run kat_snds kat_lt kat_cons kat_no kat_yes kat_nil kat_go kat_one kat_kind KatTups KatGo)
theorem Y1(z : ∀i j C,i<n->j<n->C (lt i j) s->cmp i j C s) :
 ∀{t:KasT α},Good n P t->Q (xt lt t) s->t.kasWp cmp Q s
 | .ret _,_,q=>q
 | .ask i j k,g,q=>z i j _ g.1 g.2.1<|Y1 z (g.2.2 _) q
noncomputable def vl(h:fy)(v:eh)(k l:Int):Prop:=∃x o a m t u,v = .ref x/\h.get? x=bQ o/\o.cls = .type "tuple"/\o.data = .seq a m/\a.toList=[.int k t,.int l u]
theorem vl.keep{h h':fy}{v:eh}{k l:Int}(a:vl h v k l)(e : ∀b o,h.get? b=bQ o->o.cls = .type "tuple"->h'.get? b=bQ o):vl h' v k l:=by obtain⟨x,o,g,m,t,u,d,f,z,I,O⟩:=a;exact⟨x,o,g,m,t,u,d,e x o f z,z,I,O⟩
theorem vl.one(a:vl h v k l):AA h v k:=by obtain⟨x,o,e,m,t,u,b,d,z,I,O⟩:=a;exact⟨x,o,e,m,t,b,d,z,I,by rw[<- Array.getElem?_toList,O];rfl⟩
section
variable{prog:il}{w:hH}{A:l6}{E:RQ}{s:el}
theorem Ji{a:eg}{vs:List eh}{ps:List (Int×Int)}{n:Nat}{P:PySem.Fin->el->Prop}(L:s.heap.get? a=bQ (gB "list" vs.toArray n))(S:ps.length=vs.length)(b0:vs.length<64)
 (hT : ∀i (J:i<vs.length),vl s.heap vs[i] (ps.getD i (0,0)).1 (ps.getD i (0,0)).2)
 (h:P (.done<|.ret .none) {s with heap:=sortedHeap s.heap a vs (Lv<|(jZ ps).map λi=>vs.getD i HB)}) :
 wpAny (eK prog w) A (n6.«list.sort» ⟨[.ref a],[]⟩) P E s:=by
 rw[list_sort_plain];have ha:a<s.heap.objs.size:=GZ L;have K:vs.length<=fA:=by rw[LK];omega
 refine GJ (RG L rfl ?_);refine GJ (Mf L rfl ?_ (by rw[iN];exact K) (HX _));obtain⟨f,R⟩ : ∃f,(s.heap.update a (Hy λ_=>#[])).get? a=bQ (gB "list" #[] f):=⟨_,Nq L (λ_=>#[])⟩;refine GJ (NL R rfl ?_);refine GJ (NG ?_ (by show vs.length<=_;exact K));refine GJ (NU ?_ (HX _));refine IX ?_;have d:(((s.heap.update a (Hy λ_=>#[])).push (gB "tuple" vs.toArray 0)).push (gB "list" #[] 0)).get? a=bQ (gB "list" #[] f):=by rw[LG _ _ _ (by rw[NZ,Lo];exact Ho (HL ha)),LG _ _ _ (by rw[Lo];exact Ho ha)];exact R
 show wpAny (eK prog w) A _ P E {s with heap:=((s.heap.update a (Hy λ_=>#[])).push (gB "tuple" vs.toArray 0)).push (gB "list" #[] 0)};dsimp only;have l:vs.toArray.size=vs.length:=by simp
 by_cases F:vs.toArray.size<2
 ·rw[RY F,RY F]
  refine GJ<|GS ?_;rw[StateT.run_pure];refine GJ<|GS ?_;dsimp only;refine GJ<|NL d rfl ?_;have Z:Array.map (λx=>x.snd) (D1<|SortSt.mk' general' (vs.toArray.zip vs.toArray) #[] 7 dj)=vs.toArray:=by show Array.map (λx=>x.snd) (vs.toArray.zip vs.toArray)=_;apply Array.ext';simp[Array.toList_map,Array.toList_zip];rw[List.map_snd_zip (GQ _)]
  have ev:(jZ ps).map (λi=>vs.getD i HB)=vs:=by unfold jZ;rw[RY ⋯,S];exact jc _ _
  rw[ev]at h;refine GJ (Mf d rfl ?_ (HX _) (by rw[Z,l];exact MO K));simp only[bne_self_eq_false,IM,if_false];have e8:({s with heap:=(((s.heap.update a (Hy λx=>#[])).push (gB "tuple" vs.toArray 0)).push (gB "list" #[] 0)).update a (Hy λx=>Array.map (λx=>x.snd) (D1 (SortSt.mk' general' (vs.toArray.zip vs.toArray) #[] 7 dj)))}:el) = {s with heap:=sortedHeap s.heap a vs vs.toArray}:=by rw[Z];rfl
  refine GS ?_;rw[<- e8]at h;exact h
 ·rw[EQ F,EQ F]
  have n2:2<=vs.length:=by rw[<- l];omega
  have keep : ∀b o,s.heap.get? b=bQ o->o.cls = .type "tuple"->(((s.heap.update a (Hy λ_=>#[])).push (gB "tuple" vs.toArray 0)).push (gB "list" #[] 0)).get? b=bQ o:=λb o e hc=>by
   have bb:b≠a:=λz=>by rw[z,L]at e;cases e;exact absurd hc (by show ¬(LY "list" = LY "tuple");decide)
   exact GK _<|GK _<|(Np _ _ _ _ bb).trans e
  generalize hg:((s.heap.update a (Hy λ_=>#[])).push (gB "tuple" vs.toArray 0)).push (gB "list" #[] 0)=g at d keep ⊢;have M : ∀i (J:i<vs.length),vl g vs[i] (ps.getD i (0,0)).1 (ps.getD i (0,0)).2:=λi J=>(hT i J).keep keep;obtain⟨fs,f1,f2,f3⟩:=cW (ks:=λi=>(ps.getD i (0,0)).1) λi J=>(M i J).one;refine GJ (kat_kind (T:=LY "int") (s:={s with heap:=g}) f1 ⋯ (λv hv=>?_) ⋯ ?_)
  ·obtain⟨k,t,rfl⟩:=f3 v hv
   exact PySem.W.Looks.of_pure rfl
  have ep:(xt (λi j=>yT (ps.getD i (0,0))<|ps.getD j (0,0))<|kas_sort vs.length).toList=jZ ps:=by unfold jZ;rw[EQ ⋯,S]
  refine GJ (IY (kat_run (E:=E) (ks:=vs) (Q:=λB r=>∃p:Array Nat,D1 B=p.map (PySem.W.kas_item<|vs.toArray.zip vs.toArray)/\failedOf B=dj/\p.toList=jZ ps/\r = {s with heap:=g})
   (G:=λp r=>p.toList=jZ ps/\r = {s with heap:=g})
   rfl n2 b0 (λp B r a1 a2 a3 N=>⟨p,a2,a3,N.1,N.2⟩) (Y1 (lt:=λi j=>yT (ps.getD i (0,0))<|ps.getD j (0,0)) (λi j C J hj I=>?_) (Jq ⋯) ⟨ep,rfl⟩)) ?_ λ_ _ e=>e)
  ·show wpAny _ _ (keyLt' _ (vs.getD i HB)<|vs.getD j HB) C _ _
   rw[show vs.getD i HB=vs[i]by simp[J],show vs.getD j HB=vs[j]by simp[hj]];obtain⟨x,ox,xs,m,t,u,f,e2,e3,e4,Y⟩:=M i J;obtain⟨y,oy,ys,m',t',u',d1,d2,d3,d4,X⟩:=M j hj;rw[f,d1];refine kat_lt e2 e4 d2 d4 ?_;have c2:xs.size=2:=by rw[<- Im,Y];rfl
   have c3:ys.size=2:=by rw[<- Im,X];rfl
   rw[Y,X,c2,c3,Lr,Lr];unfold yT at I;generalize ps.getD i (0,0)=U at I ⊢;generalize ps.getD j (0,0)=X2 at I ⊢;refine kat_cons<|LL U.1 t X2.1 t' _ _ _ _ ?_;refine kat_go (λO=>?_) λO=>?_
   ·have O:U.1=X2.1:=by simpa using O
    rw[RY O]at I;refine kat_yes<|kat_cons<|LL U.2 u X2.2 u' _ _ _ _<|kat_go (λH=>?_) λH=>?_
    ·have H:U.2=X2.2:=by simpa using H
     refine kat_yes<|kat_nil ?_;rw[show decide (U.2<X2.2)=ed by rw[H];simp]at I;exact I
    ·exact kat_no<|kat_one _ _<|lt_int I
   ·have O:U.1≠X2.1:=by simpa using O
    rw[EQ O]at I;exact kat_no<|oneLt_int I
  rintro⟨⟨⟩,B⟩ r ⟨p,c4,hf,hp,rfl⟩;dsimp only;have c7:=kat_snds rfl c4;have c8:((jZ ps).map λi=>vs.getD i HB).length=vs.length:=by rw[GY,(jH ps).length_eq,Hi,S]
  rw[c7,hp];refine GJ<|NL d rfl ?_;refine GJ<|Mf d rfl ?_ (HX _) (by rw[iN];show((jZ ps).map λi=>vs.getD i HB).length<=_;rw[c8];exact MO K);rw[hf];simp only[bne_self_eq_false,IM,if_false];subst hg;exact GS h
theorem Km{l:eg}{vs:List eh}{ps:List (Int×Int)}{Q:RQ}(U:s.heap.IsList l vs.toArray)(J:ps.length=vs.length)(L:vs.length<64)
 (S : ∀i (C:i<vs.length),vl s.heap vs[i] (ps.getD i (0,0)).1 (ps.getD i (0,0)).2)
 (h:Q (.ref<|s.heap.objs.size+1) {s with heap:=sortedAll s.heap vs (Lv<|(jZ ps).map λi=>vs.getD i HB)}) :
 wpAny (eK prog w) A (call (.builtin "sorted") [.ref l]) Q E s:=by
 have I:vs.length<=fA:=by rw[LK];omega
 refine Calls.call_function_entry kind_sorted plain_sorted entry_sorted (args_sorted1 _) ?_;unfold n6.«sorted»;refine GJ (m:=checkCount "sorted" 1 1 _) (GS ?_);refine GJ (collect_list U ?_ I);refine GJ (NU ?_ I);have a:((s.heap.push (gB "list" #[] 0)).update s.heap.objs.size (Hy (· ++ vs.toArray))).objs.size=s.heap.objs.size+1:=by rw[Lo,NZ]
 have O:(((s.heap.push (gB "list" #[] 0)).update s.heap.objs.size (Hy (· ++ vs.toArray))).push (gB "list" vs.toArray 0)).get? (s.heap.objs.size+1)=bQ (gB "list" vs.toArray 0):=by rw[<- a];exact Hc _ rfl
 have keep : ∀b o,s.heap.get? b=bQ o->(((s.heap.push (gB "list" #[] 0)).update s.heap.objs.size (Hy (· ++ vs.toArray))).push (gB "list" vs.toArray 0)).get? b=bQ o:=λb o q=>by have z:b<s.heap.objs.size:=GZ q;rw[LG _ _ _ (by rw[a];exact Ho (HL z)),Np _ _ _ _ (Ho z),LG _ _ _ (Ho z)];exact q
 show wpAny _ _ _ _ _ {s with heap:=((s.heap.push (gB "list" #[] 0)).update s.heap.objs.size (Hy (· ++ vs.toArray))).push (gB "list" vs.toArray 0)};rw[a];refine GJ (IX (IH slot_list_sort ⟨_,O,rfl⟩ entry_list_sort (Ji (s:={s with heap:=((s.heap.push (gB "list" #[] 0)).update s.heap.objs.size (Hy (· ++ vs.toArray))).push (gB "list" vs.toArray 0)}) O J L (λi C=>(S i C).keep λb o e _=>keep b o e) ⟨_,rfl,?_⟩) (args_list_sort _)));exact GS ⟨_,rfl,h⟩
end
section
variable{X:Cx}
noncomputable def tF(K:GI):List V->Hp->VK->Prop:=λe H Q=>∃l b d,e=[.ref l]/\f9 K H l b/\d.length=b.length/\b.length<64/\
 (∀i (f:i<b.length),∃a,b[i]=V.ref a/\g5 K H a [.int ((d:List (Int×Int)).getD i (0,0)).1,.int (d.getD i (0,0)).2])/\∀p,H p=dj->Q (.ref p) (upd H p<|.lst<|(jZ d).map λi=>b.getD i .eX)
theorem Yh:wL X (.builtin "sorted") (tF X.K):=by
 intro B s σ H vs us Q I rv h;obtain⟨l,f,ps,rfl,R,w,b9,J,C⟩:=h;obtain⟨u,rfl,ru⟩:=k6 rv;cases ru;obtain⟨z,r,Y,T⟩:=I.list R;have bb:=r.length;refine Km (ps:=ps) Y.isList ⋯ ⋯ (λi d=>?_) ?_
 ·obtain⟨a,F,G⟩:=J i ⋯
  obtain⟨v,O,g2⟩:=r.get (i:=i) (x:=V.ref a) (by rw[GL ⋯,F]);have S:z[i]=v:=by rw[GL d]at O;exact Hx O
  rw[S];cases g2;obtain⟨E,r2,⟨o,P,L,n,M⟩,_⟩:=I.tuple G;obtain⟨U,p,rfl,k,m⟩ : ∃U p,E=U::p/\RelV (.int (ps.getD i (0,0)).1) U/\fh [.int (ps.getD i (0,0)).2] p:=by
   cases r2 with
   | cons k m=>exact⟨_,_,rfl,k,m⟩
  obtain⟨v2,rfl,Z⟩:=k6 m;obtain⟨t,rfl⟩:=k;obtain⟨u,rfl⟩:=Z;exact⟨a,o,_,n,t,u,rfl,P,L,M,rfl⟩
 ·obtain⟨e,A⟩:=sortedAll_at s.heap z (Lv<|(jZ ps).map λi=>z.getD i HB)
  have y:((jZ ps).map λi=>f.getD i V.eX).length=f.length:=by rw[GY,(jH ps).length_eq,Hi,w]
  refine⟨.ref<|s.heap.objs.size+1,_,I.laid (t':=s.toks) (o:= .lst ((jZ ps).map λi=>f.getD i .eX)) (λb o q=>sortedAll_old q) (Mx _) ?_,rfl,C _<|I.f6.fresh<|Mx _⟩;refine⟨by rw[y];exact T,(jZ ps).map λi=>z.getD i HB,e,?_,A⟩;have g : ∀i∈jZ ps,i<f.length:=λi d=>by have:=(jH ps).mem_iff.mp d;rw[w]at this;exact eY.mp this
  generalize jZ ps=o at g;clear y A
  induction o with
  | nil=>exact .nil
  | cons i o W=>
   have d:=g i Ha;refine .cons ?_ (W λj N=>g j<|GX _ N);obtain⟨v,O,g2⟩:=r.get (i:=i) (x:=f[i])<|GL d;show RelV (f.getD i V.eX) (z.getD i HB);rw[GN,GN,GL d,O];exact g2
theorem VU : ∀{ds:List D} {ps:List (Int×Int)},wQ ds=bQ ps->∀(i:Nat) d,ds[i]? = bQ d->d = .tup [.int (ps.getD i (0,0)).1,.int (ps.getD i (0,0)).2]
 | [],ps,h,i,d,hd=>by simp at hd
 | c::ds,ps,h,i,d,hd=>by
  obtain⟨k,a,h⟩:=ze h;obtain⟨l,z,h⟩:=zC h;subst h;cases i with
  | zero=>
   simp at hd;subst hd;unfold gZ at a;split at a
   ·cases a;rfl
   ·cases a
  | succ i=>simpa using VU z i d (by simpa using hd)
theorem ZU{K:GI}{H:Hp}{ds:List D}{xs:List V}(r:ej K H ds xs) : ∀(o:List Nat),(∀i∈o,i<xs.length)->ej K H (o.map λi=>ds.getD i .eX) (o.map λi=>xs.getD i .eX)
 | [],_=>ej.nil
 | i::o,h=>by have a:=h i Ha;obtain⟨d,b,z⟩:=r.Dq<|GL a;refine ej.cons ?_ (ZU r o λj I=>h j<|GX _ I);show Rep K H (ds.getD i .eX) (xs.getD i .eX);rw[GN,GN,GL a,b];exact z
theorem gO{J:hG}{N L:List Str}{k:Nat}{e:eA}{pos p:g8}{C:CO (Sk×List D)}(h:SX X J N L k)(c:yp J "sorted" = di)(z:X.mg "sorted" = dj)(Y:PQ X e C)(hs:f7 [e] X.env=[(ed,eL e X.env)]:=by rfl) :
 PO X (.Call (.Name "sorted" p) [e] [] pos) (bc C):=
 qf (xR Yh (h.gl c).1 z ⋯ (jx Y qy hs) ⋯ ⋯ hs rfl) λσ H Q R=>by
  obtain⟨t,γ,u,rc,I,q⟩:=R;obtain⟨⟨W,g⟩,w,I⟩:=ze I;cases W with
  | T=>cases I
  | L=>
   have I:aR g=bQ u:=I;unfold aR at I;obtain⟨s,U,I⟩:=ze I;by_cases o:g.length<64
   ·rw[RY o]at I
    cases I;have an:=KF U;refine⟨t,γ,.L,g,rc,w,λa xs H' f ext E h2 r=>?_⟩;have ap:=r.length;refine⟨a,xs,s,rfl,E,by omega,by omega,λi j=>?_,λl O=>?_⟩
    ·obtain⟨d,S,Z⟩:=r.Dq (GL j)
     have B:=VU U i d S;subst B;obtain⟨b,zs,A,n,F⟩:=kC Z;refine⟨b,A,?_⟩;obtain⟨y,yr,x,G,K⟩:=F.mm;obtain⟨y2,b0,m,M,P⟩:=K.mm;rw[P.o3]at m;rw[x,m,jk G,jk M]at n;exact mr ext.sub n
    ·refine q l _ _ f (ext.trans<|Ext.hide ext.sub O _) (kj ext.s1 O) (jt ext.sub O) zO ?_
     refine ZU r _ λi j=>?_;have:=(jH s).mem_iff.mp j;have:=eY.mp this;omega
   ·rw[EQ o]at I;cases I
end
section
variable{X:Cx}{a b c:eA}{pos:g8}{fa fb fc:CO D}
theorem bM{U C:CmpOp}{r J:R2}{F G:D->D->Option D}(ho:iQ X (n3 U) r)(L:iQ X (n3 C) J)(s1:m7 X.K r F)(s2:m7 X.K J G)(ha:PV X a fa)(hb:PV X b fb)(hc:PV X c fc)
 (hm:Ou [U,C] [b,c]=ed:=by with_unfolding_all rfl):l7 X (.Compare a [U,C] [b,c] pos) (sB<|kf F G fa fb fc):=
 YE (gH ho L ha hb hc hm) λσ H Q hZ=>by
  obtain⟨i,h,kq,rc,A,q0⟩:=hZ;obtain⟨d,I,Z⟩:=ze A;have q : ∀v f e,Ext i H e f->Rep X.K e d v->∃k,v = .bl k/\Q k f:=λv f e x o=>by rw[Zy Z]at o;exact⟨kq,o,q0 f e x⟩
  obtain⟨x,P,I⟩:=ze I;obtain⟨y,R,I⟩:=ze I;obtain⟨k,S,I⟩:=ze I;obtain⟨l,T,m⟩:=ze S;refine⟨i,h,x,rc,P,λv1 H1 B x1 r1=>⟨B,h,y,rc.ext x1,R,λp s E O n=>s1 E s v1 p x y l _ O.sub (r1.mono O.s0) n T λv3 t j x3 r3=>?_⟩⟩;cases l with
  | bl k'=>
   cases m;refine⟨k,show v3 = .bl k from r3,?_⟩;cases k with
   | true=>
    rw[RY rfl];rw[RY rfl]at I;obtain⟨z,W,Y⟩:=ze I;exact⟨j,h,z,((rc.ext x1).ext O).ext x3,W,λv4 u M g r4=>s2 M u p v4 y z d _ g.sub ((n.mono x3.s0).mono g.s0) r4 Y λv5 w N x5 r5=>q v5 w N (((x1.trans O).trans x3).trans (g.trans x5)) r5⟩
   | false=>
    rw[EQ ⋯];rw[EQ ⋯]at I;cases I;exact q _ t j ((x1.trans O).trans x3) rfl
  | _=>cases m
end
end DL
namespace DL
open PySem PySem.Spec PyProof.Rows L2
theorem aG{H:Hp}{x:eg}{o C:HO}:upd (upd H x o) x C=upd H x C:=by
 funext b;by_cases h:b=x
 ·subst h;rw[zO,zO]
 ·rw[zI h,zI h,zI h]
section
variable{X:Cx}{sc:hG}{N L:List Str}{k:Nat}{a:eA}{pos:g8}{f:CO (List D)}
theorem oF(i:Nat)(h:SX X sc N L k)(c:QW sc N i x=di)(Z:PO X a f)(hs:f7 [a] X.env=[(ed,eL a X.env)]:=by rfl)
 (C:F5 (.Name x np) "extend" X.env (eL (.Name x np) X.env)=eL (.Name x np) X.env:=by rfl)
 (J:((pk cpos<|starEach [a] X.env).all (λx=> !x.1) && (F6 cpos<|keywordEach [] X.env).all (λx=>x.1.isSome)
   && decide ([a].length+([]:List A1).length+(if ([]:List A1).isEmpty then 0 else 1)<30))=di:=by rfl)
 (S:(apos.endLine==cpos.line)=di:=by rfl) (Y:wh (.Call (.Attribute (.Name x np) "extend" apos) [a] [] cpos) dj pos.line X.env=pure ed:=by rfl) :
 k0 X (.Expr (.Call (.Attribute (.Name x np) "extend" apos) [a] [] cpos) pos) (bq i f):=
 x9 (YF (gX MK PySem.F.slot_list_extend PySem.F.type_list_extend cG (h.var c) (jx Z qy hs) C J S hs rfl) Y) λD M H w=>by
  obtain⟨E0,E,p,A,G,I,z,s⟩:=w;obtain⟨e,d,z⟩:=ze z;obtain⟨g,u,z⟩:=ze z;have d:=xW d;by_cases O:e.length+g.length<=lim
  ·rw[RY O]at z;cases z
   obtain⟨l,xs,m,K,U,n⟩:=I.rc.own i e d;refine⟨_,m,.inl ⟨rfl,_,f9.of U⟩,p,A,g,I.rc,u,λb o B r x g1 g2 g3 j=>?_⟩;have y:xs.length+o.length<=fA:=by
    rw[n.length,j.length];have:lim<=fA:=by decide
    omega
   refine⟨l,b,xs,o,rfl,rfl,x.s1 _ _ U,g3,y,?_⟩;have t:=I.step x;exact s _ _ _<|t.rewrite (xs:=xs) d m<|(n.mono x.s0).append j
  ·rw[EQ O]at z;cases z
end
theorem QI : ∀{ds:List D} {C:List Int},JW ds=bQ C->KZ ds=bQ (C.map IS)
 | [],C,e=>by cases e;rfl
 | d::ds,C,e=>by
  cases d with
  | int i=>
   obtain⟨l,a,z⟩:=zC e;subst z;show((uT<|.int i).bind λk=>(KZ ds).map λr=>k::r)=_;rw[QI a];rfl
  | _=>cases e
theorem J6 : ∀(ps acc:List (Key×V)),((acc++ps).map (·.1)).Nodup->gD acc ps=acc++ps
 | [],acc,_=>by simp[gD]
 | (k,v)::ps,acc,h=>by
  have d : ¬((acc.any λz=>decide<|z.1=k)=di):=λq=>by obtain⟨z,a,b⟩:=NR.mp q;rw[Ih,HC]at h;have:=(List.nodup_append.mp h).2.2 z.1 (Hj.mpr ⟨z,a,rfl⟩) k ⋯;exact this<|of_decide_eq_true b
  show gD (ay acc k v) ps=_;rw[show ay acc k v=acc++[(k,v)]by unfold ay;rw[EQ d]];rw[J6 ps (acc++[(k,v)]) (by simpa using h)];simp
theorem KO : ∀{C:List Int},C.Nodup->(C.map<|IS (β:=Str)).Nodup
 | [],_=>by simp
 | n::C,h=>by simp only[HC,Io,Hj,IS.injEq,exists_eq_right]at h ⊢;exact⟨h.1,KO h.2⟩
theorem XG{K:GI}{H:Hp}{i:Int} : ∀{ks vs:List D} {C:List Key} {xs:List V},KZ ks=bQ C->C.length=xs.length->ej K H vs xs->
 (∀d,Wg ks vs i=bQ d->∃v,Vq (C.zip xs) (IS i)=bQ v/\Rep K H d v)/\(Wg ks vs i=dj->Vq (C.zip xs) (IS i)=dj)
 | [],vs,C,xs,e,l,r=>by cases e;exact⟨(λd q=>by cases q),λ_=>rfl⟩
 | k::ks,[],C,xs,e,l,r=>by rw[r.o3]at l ⊢;rw[List.length_eq_zero_iff.mp l];exact⟨(λd q=>by cases q),λ_=>rfl⟩
 | k::ks,v::vs,C,xs,e,l,r=>by
  obtain⟨I,a,g⟩:=ze e;obtain⟨O,h,m⟩:=zC g;subst m;obtain⟨x,U,rfl,o,p⟩:=r.mm;have f:=XG (i:=i) h (by simpa using l) p;have step:I≠IS i->Vq ((I::O).zip (x::U)) (IS i)=Vq (O.zip U) (IS i):=λb=>by rw[Lr];simp[Vq,Lh,b]
  cases k with
  | int j=>
   cases a;by_cases z:j=i
   ·subst z
    refine⟨λd q=>⟨x,?_,?_⟩,λq=>?_⟩
    ·rw[Lr];exact QX rfl
    ·have:v=d:=by simpa[Wg]using q
     exact this ▸ o
    ·simp[Wg]at q
   ·have b:(IS j:Key)≠IS i:=λq=>z (IS.inj q)
    rw[step b];have n:Wg (.int j::ks) (v::vs) i=Wg ks vs i:=by simp[Wg,z]
    rw[n];exact f
  | str y=>
   cases a;rw[step (λq=>by cases q)];exact f
  | _=>cases a
noncomputable def ZS(g:CO (Sk×List D))(C:CO D):CO D:=λb=>(g b).bind λa=>(C b).bind λx=>match a.1 with
 | .L=>if md x=di/\n9 a.2=di then bQ (.int (a.2.countP λd=>i3 d x:Nat))else dj
 | .T=>dj
theorem WG(I:Inv X pins σ H s)(sub:gv H0 H)(O:f9 X.K H p xs)(r:ej X.K H0 ds xs)(o:n9 ds=di) : ∃z,Reads s.heap (.ref p) (.list<|n5 ds) z:=by obtain⟨f,U,q,g⟩:=I.list O;obtain⟨h,d,a,n,b⟩:=q.isList;obtain⟨z,e⟩:=Ig I sub o r U;exact⟨_,.list d a b<|by simpa using e⟩
section
variable{X:Cx}{sc:hG}{N L:List Str}{k:Nat}{a b:eA}{pos:g8}{fa:CO D}{g:CO (Sk×List D)}
theorem SX.Sd(h:SX X sc N L k):X.A.units+66<A3:=by have:=h.room.un;omega
end
noncomputable def oq(K:GI):V->List V->Hp->VK->Prop:=λx g H Q=>∃a e v p f b,gv a H/\x = .ref p/\g=[v]/\Rep K a e v/\f9 K H p f/\ej K a b f/\md e=di/\n9 b=di/\Q (.int (b.countP λd=>i3 d e:Nat)) H
theorem QM(hx:i0 x=di) : ∀ds:List D,n9 ds=di->(n5 ds).countP (λy=>Ll y<|i4 x)=ds.countP λd=>i3 d x
 | [],_=>by simp[n5]
 | d::ds,h=>by simp only[n9,Hb]at h;simp only[n5,NP];rw[F8 d x h.1 hx,QM hx ds h.2]
theorem cH(S:X.A.units+66<A3):M6 X "list.count" (oq X.K):=by
 intro k s Z H x W v T Q I G E h;obtain⟨L,a,y,p,Y,b,sub,rfl,rfl,u,o,w,z,O,q⟩:=h;cases G;obtain⟨J,rfl,rw⟩:=k6 E;obtain⟨as,B⟩:=DQ I sub (xG z) u rw;obtain⟨bs,C⟩:=WG I sub o w O;have P:=PySem.SeqAt.depth_of_shaped<|yd z;have U:=G4 b O;cases C with
 | list i l m j=>
  rename_i r g n M
  obtain⟨R,t,N,f⟩:=r;subst l m;refine LM F.slot_list_count ⟨_,i,rfl⟩ F.entry_list_count (F.args_list_count_2 _ _) (PySem.SeqAt.list_countAt p g n t f J<|λy=>Ll (PySem.SeqAt.readOf s.heap y)<|i4 a) ⟨i,PySem.SeqAt.items_eqAt j B U (Ov a<|xG z) ?_,?_⟩
  ·have:min (MX<|n5 b) (i4 a).depth<=(i4 a).depth:=Nat.min_le_right _ _
   omega
  ·have e:g.toList.countP (λy=>Ll (PySem.SeqAt.readOf s.heap y)<|i4 a)=b.countP λd=>i3 d a:=by
    rw[<- QM (xG z) b O,<- PySem.SeqAt.readsAll_map _ _ _ U j,Ms];rfl
   rw[e];exact⟨.int _,H,I.tok _,⟨_,rfl⟩,q⟩
section
variable{X:Cx}{sc:hG}{N L:List Str}{k:Nat}{o e:eA}{apos cpos:g8}{fa:CO D}{g:CO (Sk×List D)}
theorem vt(h:SX X sc N L k)(Z:PQ X o g)(Y:PV X e fa)(C:F5 o "count" X.env (eL o X.env)=eL o X.env:=by rfl)
 (J:((pk cpos<|starEach [e] X.env).all (λx=> !x.1) && (F6 cpos<|keywordEach [] X.env).all (λx=>x.1.isSome) && decide ([e].length+([]:List A1).length+(if ([]:List A1).isEmpty then 0 else 1)<30))=di:=by rfl)
 (S:(apos.endLine==cpos.line)=di:=by rfl) (hs:f7 [e] X.env=[(ed,eL e X.env)]:=by rfl):PV X (.Call (.Attribute o "count" apos) [e] [] cpos) (ZS g fa):=
 qf (gX MK PySem.F.slot_list_count PySem.F.type_list_count (cH h.Sd) Z (jx Y qy hs) C J S hs rfl) λE H Q t=>by
  obtain⟨j,i,d,rc,z,q⟩:=t;obtain⟨⟨u,a⟩,s,z⟩:=ze z;obtain⟨x,n,z⟩:=ze z;cases u with
  | T=>cases z
  | L=>
   have z:(if md x=di/\n9 a=di then bQ (D.int (a.countP λd=>i3 d x:Nat))else dj)=bQ d:=z;by_cases I:md x=di/\n9 a=di
   ·rw[RY I]at z;cases z
    refine⟨j,i,.L,a,rc,s,λp f A m x1 b B r=>⟨.inl ⟨rfl,f,b⟩,m,i,x,rc.ext x1,n,λy l U O w=>?_⟩⟩;exact⟨U,x,y,p,f,a,O.sub,rfl,rfl,w,O.s1.seq b,r.mono O.s0,I.1,I.2,q _ l U (x1.trans O) rfl⟩
   ·rw[EQ I]at z;cases z
end
noncomputable def AJ(f:CO D)(γ:Ctx):Option (List D):=((f γ).bind lp).bind λn=>if inR n=di/\n.toNat<=lim then bQ (yR 0 n.toNat)else dj
@[simp] noncomputable def rO:=@AJ.eq_1
noncomputable def BD(ds C fs:List D):List D:=(ds.zip<|C.zip fs).map λp=>D.tup [p.1,p.2.1,p.2.2]
noncomputable def FK(f g h:CO D)(γ:Ctx):Option (List D):=((f γ).bind z7).bind λm=>((g γ).bind z7).bind λn=>((h γ).bind z7).map λo=>BD m.2 n.2 o.2
@[simp] noncomputable def CS:=@FK.eq_1
noncomputable def EF(f g:CO D)(γ:Ctx):Option (List D):=((f γ).bind z7).bind λm=>((g γ).bind z7).bind λn=>if m.2.length<=lim then bQ (JK m.2 n.2)else dj
@[simp] noncomputable def Bq:=@EF.eq_1
theorem KU:L7 (.type "list") "keys" = pure dj:=by rw[typeLookup_type,Rl];kernel_rfl
theorem JX:entryFor table "list.__getattribute__" = bQ n6.«object.__getattribute__» :=
 entryFor_alias (id':="object.__getattribute__") (by kernel_rfl) (by first | rfl | decide +kernel) ⋯ (by kernel_rfl)
section
variable{prog:il}{w:hH}{A:l6}{E:RQ}{h:fy}{g:Array GenState}{d:Drawn}{t:Nat}{os:OsState}{a:eg}{o:m6}
theorem Jj(hx:h.get? a=bQ ⟨.type "list",dj,.seq vs nk,sl⟩)(C:A.handled=dj)
 (hE : ∀h' e t',(∀b u,h.get? b=bQ u->h'.get? b=bQ u)->(∃O,h'.get? e=bQ O/\O.cls = .type "AttributeError")->E (.ref e) ⟨h',g,d,t',os⟩) :
 wpAny (eK prog w) A (n6.«object.__getattribute__» ⟨[.ref a,.str "keys" tk],[]⟩) Q E ⟨h,g,d,t,os⟩:=by
 have n:(⟨h,g,d,t,os⟩:el).TypeIs (.ref a) "list":=⟨_,hx,rfl⟩;have k:=KU
 repeat (any_goals (first | assumption | wp_step))
 unfold raiseAttrError;have f:((HU (toString "'" ++ toString ((Manifest.find? "list").elim "list" λx=>x.tpName)++toString "' object has no attribute '")++HU "keys" ++ HU "'"):Str).length<=fA:=by decide +kernel
 generalize (HU (toString "'" ++ toString ((Manifest.find? "list").elim "list" λx=>x.tpName)++toString "' object has no attribute '")++HU "keys" ++ HU "'")=z at f ⊢;refine GJ (wpAny_mkStr (hx:=f) ?_);refine GJ ?_;unfold newExc Ph;refine GJ (Iu ?_ (by size_fits));refine GJ (m:=Oh _ _) (wpAny_of_eq (a:=HB) (by first | rfl | (simp only[Oh];rfl)) ?_);refine Iu ?_ (by size_fits);simp only[HN];have I:((h.push {cls:= .type "tuple",data:= .seq #[.str z t]}).push {cls:= .type "AttributeError",data:= .fields (#[.ref h.objs.size,.none,.none,.none,.bool ed,.none]++OD (.type "AttributeError") [.str z t])}).get? (h.objs.size+1) =
  bQ {cls:= .type "AttributeError",data:= .fields (#[.ref h.objs.size,.none,.none,.none,.bool ed,.none]++OD (.type "AttributeError") [.str z t])}:=by heap_get
 have U : ∀b u,h.get? b=bQ u->((h.push {cls:= .type "tuple",data:= .seq #[.str z t]}).push {cls:= .type "AttributeError",data:= .fields (#[.ref h.objs.size,.none,.none,.none,.bool ed,.none]++OD (.type "AttributeError") [.str z t])}).get? b=bQ u:=λb u e=>GK _ (GK _ e);have i:h.get? (h.objs.size+1)=dj:=Heap.get?_none_of_le (Mx _);generalize ((h.push {cls:= .type "tuple",data:= .seq #[.str z t]}).push {cls:= .type "AttributeError",data:= .fields (#[.ref h.objs.size,.none,.none,.none,.bool ed,.none]++OD (.type "AttributeError") [.str z t])})=h2 at I U ⊢;refine GJ (wpAny_mkText ?_);unfold noteAttr lacksNameAndObj;have j:(⟨h2,g,d,t+1+1,os⟩:el).TypeIs (.ref (h.objs.size+1)) "AttributeError":=⟨_,I,rfl⟩;have l:isSubtype (.type "AttributeError") (.type "AttributeError")=pure di:=by rw[isSubtype_type];kernel_rfl
 repeat (any_goals (first | assumption | with_reducible refine wpAny_loadPart_at I ?_ | with_reducible refine wpAny_load I ?_ | wp_step))
 refine wpAny_raiseNew_none C<|hE _ _ _ (λb u e=>?_) ⟨_,Na _ I<|Obj.isFreed_of_fields<|NC rfl _,Obj.cls_mapFields ..⟩;rw[Ik _ _ (λq=>by rw[<- q]at e;rw[i]at e;cases e)];exact U b u e
theorem JT(hx:h.get? a=bQ ⟨.type "list",dj,.seq vs nk,sl⟩)(I:A.handled=dj)
 (O : ∀h' e t',(∀b u,h.get? b=bQ u->h'.get? b=bQ u)->(∃z,h'.get? e=bQ z/\z.cls = .type "AttributeError")->R (.error (.ref e)) ⟨h',g,d,t',os⟩) :
 codeAny (eK prog w) A (.call (.builtin "list.__getattribute__") ⟨[.ref a,.str "keys" tk],[]⟩) R ⟨h,g,d,t,os⟩:=
 codeAny_call_builtin LX.plain JX (LX.check _ _ _ _ _ _ _ _ (show(⟨h,g,d,t,os⟩:el).TypeIs (.ref a) "list" from⟨_,hx,rfl⟩) (F.args_list_getattribute_2 _ _) (Jj hx I O))
theorem W2:L7 (.type "list") "__getattr__" = pure dj:=by rw[typeLookup_type,Rl];kernel_rfl
theorem cQ(hx:h.get? a=bQ ⟨.type "list",dj,.seq vs nk,sl⟩)(I:A.handled=dj)
 (O : ∀h' t',(∀b u,h.get? b=bQ u->h'.get? b=bQ u)->Q dj ⟨h',g,d,t',os⟩):wpAny (eK prog w) A (getAttr? (.ref a) "keys") Q E ⟨h,g,d,t,os⟩:=by
 have o:(⟨h,g,d,t+1,os⟩:el).TypeIs (.ref a) "list":=⟨_,hx,rfl⟩;have f2:=LX.lookup;have l:=LX.bind (.ref a);have m:=W2;have n:isSubtype (.type "AttributeError") (.type "AttributeError")=pure di:=by rw[isSubtype_type];kernel_rfl
 unfold getAttr? getAttrBy? getAttrBy
 repeat (any_goals (first | assumption | wp_step))
 refine JT (g:=g) (d:=d) (os:=os) hx I λh' e t' U z=>?_;obtain⟨i,z,f⟩:=z;have j:(⟨h',g,d,t',os⟩:el).TypeIs (.ref e) "AttributeError":=⟨i,z,f⟩;have k:=O h' t' U;show wpAny _ _ (Rv _ _ _ _ _ _ _) _ _ _;unfold Rv hookOrError attributeErrorLeaves
 repeat (any_goals (first | assumption | wp_step))
end
noncomputable def vn:List D->Option (List D×List D)
 | []=>bQ ([],[])
 | d::r=>match d with
  | .tup a=>match a with
   | [k,v]=>(vn r).map λp=>(k::p.1,v::p.2)
   | _=>dj
  | _=>dj
noncomputable def ma(f:CO (List D))(γ:Ctx):Option D:=(f γ).bind λa=>(vn a).bind λp=>lj p.1 p.2
@[simp] noncomputable def Bu:=@ma.eq_1
noncomputable def AL(C I:CO D):CO D:=λa=>(C a).bind λd=>(I a).bind λk=>match d with
 | .lN b e=>(lp k).bind λi=>Wg b e i
 | _=>dj
noncomputable def sT(I C:CO D):CO D:=λa=>(I a).bind λk=>(C a).bind λd=>match d with
 | .lN b e=>(lp k).map λi=> .bl (Wg b e i).isSome
 | _=>dj
section
variable{X:Cx}{pins:RW}{σ:St}{A:l6}{R:Result->el->Prop}{H0:Hp}{l it d:eg}{ks:List Key}{ys xs:List V}
theorem af(hh:A.handled=dj)(hx:xs.length=ks.length)(hy:ys.length=ks.length)(hp : ∀(n:Nat) (h1:n<xs.length) (h2:n<ks.length) (h3:n<ys.length),∃p,xs[n] = .ref p/\g5 X.K H0 p [kV ks[n],ys[n]])(S:H0 d=dj)(as:l≠d) : ∀(m n:Nat) (s:el) (H:Hp) (C:List (Key×V)) (i:Int) (t:qs),n+m=ks.length->
 Inv X pins σ H s->gv H0 H->H l=bQ (.lst xs)->s.heap.IsListIter it l n->wV X pins H it->H d=bQ (.dK C)->C.length+m<=fA->
 (∀J,Inv X pins σ (upd H d<|.dK<|gD C<|(ks.zip ys).drop n) J->R (.ok<|.ret .none) J)->
 codeAny (eK X.prog X.w) A (.builtin "dict.update.loop" ⟨[.ref d,.ref it,.int i t,.none],[]⟩) R s:=by
 intro m
 induction m with
 | zero=>
  intro n s H C i t hn I sub U st O a hz f;obtain⟨z1,h,c,N,ll,j⟩:=I.C8 U;refine codeAny_builtin yu ?_;unfold n6.«dict.update.loop»;have k:s.heap.IsList l h.toArray:=⟨_,j,rfl,_,rfl⟩;refine GJ<|wpAny_pyNext_list_end (s:=s) hh st k (by simp;omega) λh' eb=>?_;refine GJ<|GS ?_;have e0:upd H d (.dK<|gD C<|(ks.zip ys).drop n)=H:=by
   rw[List.drop_eq_nil_of_le (by simp;omega)];funext c;by_cases q:c=d
   ·rw[q,zO,a];rfl
   ·rw[zI q]
  rw[e0]at f;exact GS (f _<|I.Dd (t':=s.toks) (fp:=[it]) (λb o z e=>eb b o (by simpa using z) e)<|λb z=>by rw[La.mp z];exact O)
 | succ m ih=>
  intro n s H C i t hn I sub U st O a hz f;obtain⟨z1,h,c,N,ll,j⟩:=I.C8 U;have k:s.heap.IsList l h.toArray:=⟨_,j,rfl,_,rfl⟩;have T:n<ks.length:=by omega
  obtain⟨p,ep,W⟩:=hp n ⋯ T ⋯;obtain⟨u,hu,M⟩:=N.get (GL<|show n<xs.length by omega);rw[ep]at M;have eu:u = .ref p:=M;subst eu;refine codeAny_builtin yu ?_;unfold n6.«dict.update.loop»;refine GJ<|wpAny_pyNext_list_item (s:=s) st k (x:= .ref p) (by simpa using hu) λh' Y sb=>?_;have g:=I.Dd (h':=h') (t':=s.toks) (fp:=[it]) (λb o z e=>(sb.2 b<|by simpa using z).trans e) (λb z=>by rw[La.mp z];exact O);obtain⟨ts,rt,⟨o,F,co,nn,bl⟩,zt⟩:=g.tuple<|mr sub W;obtain⟨u1,y,rfl,Z,r⟩ : ∃u1 y,ts=u1::y/\RelV (kV ks[n]) u1/\fh [ys[n]] y:=by
   cases rt with
   | cons q1 r=>exact⟨_,_,rfl,q1,r⟩
  obtain⟨u2,rfl,bt⟩:=k6 r;have bv:({s with heap:=h'}:el).TypeIs (.ref p) "tuple":=⟨_,F,co⟩;refine GJ (IX (GJ (wpAny_tryCatch ?_)));unfold Builtin.Dict.pairItems;refine GJ (MQ bv ?_);rw[RY ⋯];refine GJ (Li F bl (GS ?_));show wpAny _ _ (rp [u1,u2] (dictSet d u1 u2)) _ _ _;obtain⟨zz,c0,vs,B,dd⟩:=CD g.f6 a;have c2:vs.length<=fA:=by rw[<- B.length];exact zz
  have c3:(ay C ks[n] ys[n]).length<=fA:=by have:=Jl C ks[n] ys[n];omega
  refine IX<|wpAny_dictSet_pairs (hsz:=c2) (iI Z) dd λc4 E G=>?_;have he : ∃q,c4.get? d=bQ q:=let ⟨q,_,_,hq,_⟩:=E;⟨q,hq⟩;have P:=pP (t':=s.toks+1) g (by rw[a];exact Lq) G he<|Ai c3 c0 (B.put ks[n] bt) E;have L:it≠d:=λq=>by have:=O.1;rw[q,a]at this;cases this
  refine GS ⟨yi _,ih (n+1) _ _ (ay C ks[n] ys[n]) (i+1) 0 ⋯ P (λc o e=>?_) (by rw[zI as];exact U) (Y.at λo q=>(G.2 it L).trans q) ⟨by rw[zI L];exact O.1,O.2⟩ zO (by have:=Jl C ks[n] ys[n];omega) λJ Q=>f J ?_⟩
  ·rw[zI (λq=>by rw[q,S]at e;cases e)];exact sub _ _ e
  ·have c9:n<(ks.zip ys).length:=by simp;omega
   have e1:(ks.zip ys).drop n=(ks[n],ys[n])::(ks.zip ys).drop (n+1):=by rw[Ld c9];simp
   have e2:upd (upd H d<|.dK<|ay C ks[n] ys[n]) d (.dK<|gD (ay C ks[n] ys[n])<|(ks.zip ys).drop (n+1))=upd H d (.dK<|gD C<|(ks.zip ys).drop n):=by
    funext c;by_cases q:c=d
    ·rw[q,zO,zO,e1];rfl
    ·rw[zI q,zI q,zI q]
   rw[<- e2];exact Q
theorem ai(I:Inv X pins σ H s)(J:X.A.handled=dj)(sub:gv H0 H)(z:H l=bQ (.lst xs))(hx:xs.length=ks.length)(Y:ys.length=ks.length)
 (S : ∀(n:Nat) (h1:n<xs.length) (h2:n<ks.length) (h3:n<ys.length),∃p,xs[n] = .ref p/\g5 X.K H0 p [kV ks[n],ys[n]]) (Z:ks.length<=fA)
 (L : ∀C p,H p=dj->Inv X pins σ (upd H p (.dK (gD [] (ks.zip ys)))) C->Q (.ref p) C):wpAny (eK X.prog X.w) X.A (call (.type "dict") [.ref l]) Q X.xe s:=by
 have O:H s.heap.objs.size=dj:=I.fresh;have y:H0 s.heap.objs.size=dj:=jt sub O;have j:l≠s.heap.objs.size:=λq=>by rw[q,O]at z;cases z
 refine callType_codes (Q₁:=λobj f=>obj = .ref s.heap.objs.size/\f = {s with heap:=s.heap.push {cls:= .type "dict",data:= .dict #[]}}) F.kt_called_dict (F.kt_typeCall_dict_1 _) F.entry_dict_init (kt_code_dict_new _ ⟨rfl,rfl⟩) ?_;rintro obj f ⟨rfl,rfl⟩;have u:=I.laid (a:=s.heap.objs.size) (o:= .dK []) (t':=s.toks) (λ_ _ q=>GK {cls:= .type "dict",data:= .dict #[]} q) (GQ _) (lg s.heap I.big);have m:({s with heap:=s.heap.push {cls:= .type "dict",data:= .dict #[]}}:el).TypeIs (.ref s.heap.objs.size) "dict":=⟨_,Hc _ rfl,rfl⟩;obtain⟨R,r,c,P,N,E⟩:=I.C8 z;have U:(s.heap.push {cls:= .type "dict",data:= .dict #[]}).get? l=bQ {cls:= .type "list",data:= .seq r.toArray c}:=GK _ E;refine⟨m,F.args_dict_init_2 _ _,?_⟩;unfold n6.«dict.__init__»;refine GJ ?_;unfold Builtin.Dict.selfAndRest;refine GJ (wpAny_notOrdered_dict m ?_);show wpAny _ _ (pure (s.heap.objs.size,[Iz l])) _ _ _;refine GS ?_;show wpAny _ _ (Builtin.Dict.updateFrom "dict.__init__" s.heap.objs.size (.ref l) [] .none) _ _ _;unfold Builtin.Dict.updateFrom;refine GJ (MQ (T:="list") ⟨_,U,rfl⟩ ?_);rw[RY ⋯];refine GJ (cQ (g:=s.gens) (d:=s.drawn) (t:=s.toks) (os:=s.os) U (show X.A.in1.in1.handled=dj from J) λh' t' k=>?_);have h:Inv X pins σ (upd H s.heap.objs.size (.dK [])) {s with heap:=h',toks:=t'}:=u.kept k;have B:=k _ _ U;simp only[Option.isNone_none,if_true];refine GJ (MF (GJ (NX (items:=r.toArray) ⟨_,B,rfl,_,rfl⟩ ?_)));refine GS ⟨yi _,?_⟩;have x:=h.kept (h':=h'.push {cls:= .type "list_iterator",data:= .fields #[.ref l,.int 0 0]}) (t':=t') λb o e=>GK _ e;have M:s.heap.objs.size<h'.objs.size:=by have:=GZ (k _ _ (Hc s.heap (o:={cls:= .type "dict",data:= .dict #[]}) rfl));exact this
 have G:=h.C4 (b:=h'.objs.size) (H':=upd H s.heap.objs.size<|.dK []) (GQ _) h.fresh;refine af (H0:=H0) (l:=l) (it:=h'.objs.size) (ks:=ks) (ys:=ys) (xs:=xs) (show X.A.in1.handled=dj from J) hx Y S y j ks.length 0 _ (upd H s.heap.objs.size<|.dK []) [] 0 0 (IE _) x (sub.trans<|jd O _) (by rw[zI j];exact z) ⟨_,Hc _ rfl,rfl,rfl⟩ G zO (by simpa using Z) λC i=>?_;rw[aG,List.drop_zero]at i;exact⟨rfl,L C _ O i⟩
end
theorem X8 : ∀{ps ks vs:List D},vn ps=bQ (ks,vs)->ks.length=ps.length/\vs.length=ps.length
 | [],ks,vs,h=>by cases h;exact⟨rfl,rfl⟩
 | d::r,ks,vs,h=>by
  unfold vn at h;split at h
  ·split at h
   ·obtain⟨⟨a,b⟩,e,z⟩:=zC h
    cases z;obtain⟨I,O⟩:=X8 e;exact⟨by simp[I],by simp[O]⟩
   ·cases h
  ·cases h
theorem J1{K:GI}{H:Hp} : ∀{ps ks vs:List D} {xs:List V} {C:List Int},vn ps=bQ (ks,vs)->ej K H ps xs->JW ks=bQ C->
 ∃ys,ej K H vs ys/\ys.length=C.length/\xs.length=C.length/\∀(n:Nat) (J:n<xs.length) (L:n<C.length) (z:n<ys.length),∃p,xs[n] = .ref p/\g5 K H p [.int C[n],ys[n]]
 | [],ks,vs,xs,C,h,r,hi=>by cases h;cases hi;rw[r.o3];exact⟨[],ej.nil,rfl,rfl,λn J=>by cases J⟩
 | d::ps,ks,vs,xs,C,h,r,hi=>by
  unfold vn at h;split at h
  ·split at h
   ·rename_i k v
    obtain⟨⟨a,b⟩,e,I⟩:=zC h;cases I;obtain⟨x,B,rfl,J,L⟩:=r.mm;cases k with
    | int j=>
     obtain⟨A,O,U⟩:=zC hi;subst U;obtain⟨ys,o,s,t,u⟩:=J1 e L O;obtain⟨q,G,rfl,z,f⟩:=kC J;obtain⟨E,F,rfl,g,i⟩:=f.mm;obtain⟨w,y,rfl,l,m⟩:=i.mm;rw[m.o3,jk g]at z;refine⟨w::ys,ej.cons l o,by simp[s],by simp[t],λn g1 g2 g3=>?_⟩;cases n with
     | zero=>exact⟨q,rfl,z⟩
     | succ n=>exact u n (by simpa using g1) (by simpa using g2) (by simpa using g3)
    | _=>cases hi
   ·cases h
  ·cases h
section
variable{X:Cx}{sc:hG}{N L:List Str}{k:Nat}{a o i:eA}{f:CO (List D)}{fd fk:CO D}{p pos:g8}
theorem gC(h:SX X sc N L k)(J:yp sc "dict" = di)(zd:X.mg "dict" = dj)(S:PO X a f)(hs:f7 [a] X.env=[(ed,eL a X.env)]:=by rfl) :
 PV X (.Call (.Name "dict" p) [a] [] pos) (ma f):=by
 intro g s σ H Q I o;obtain⟨H0,γ,d,rc,z,q⟩:=o;obtain⟨B,F,z⟩:=ze z;obtain⟨⟨b,j⟩,x,z⟩:=ze z;have R:X.A.handled=dj:=I.ok.hd h.calm;unfold lj at z;cases hi:JW b with
 | none=>rw[show(b,j).1=b from rfl,hi]at z;cases z
 | some e=>
  rw[show(b,j).1=b from rfl,hi]at z;dsimp only at z;by_cases r:b.length=j.length/\e.Nodup/\b.length<=lim
  ·rw[RY r]at z
   cases z;refine DU<|yo I (h.gl J).1 zd PyProof.Rows.boot_dict (Ij ?_ (by rw[hs];rfl) rfl);rw[hs];show wpAny _ _ (I7 ((ed,eL a X.env)::[])) _ _ s;refine Mz<|e9 (S g s σ H (λv i=>∃l xs O,v = .ref l/\Ext H0 H O i/\O l=dj/\i l=bQ (.lst xs)/\ej X.K O B xs) I ⟨H0,γ,B,rc,F,λl xs i O x1 g1 g2 g3 U=>⟨l,xs,O,rfl,x1,g2,g3,U⟩⟩) λv s1 o=>?_;obtain⟨y,i,C,ry,l,xs,O,rfl,x1,g2,g3,U⟩:=o;cases ry;refine NF ?_;obtain⟨ys,T,W,Y,Z⟩:=J1 x U hi;have u:(e.map<|IS (β:=Str)).length=e.length:=by simp
   have nl:e.length=b.length:=by have:=(X8 x).1;have:=U.length;omega
   refine ai (H0:=O) (ks:=e.map IS) (ys:=ys) (xs:=xs) C R x1.sub g3 (by rw[u];exact Y) (by rw[u];exact W) (λn G M P=>?_) ?_ λs' p m w=>?_
   ·obtain⟨t,t1,t2⟩:=Z n G (by simpa using M) P
    refine⟨t,t1,?_⟩;simpa[kV]using t2
   ·have:lim<=fA:=by decide
    rw[u];omega
   ·have E:gD [] ((e.map<|IS (β:=Str)).zip ys)=(e.map IS).zip ys:=by
     rw[J6 _ []]
     ·simp
     ·rw[Mp,List.map_fst_zip ⋯]
      exact KO r.2.1
    rw[E]at w;exact⟨.ref p,_,w,rfl,q (.ref p) _ _ ((x1.trans<|Ext.hide x1.sub m _).show (kj x1.s1 m) (jt x1.sub m) zO rc.sub)
     (show ∃a xs,V.ref p = .ref a/\Dg (upd O p _) a b xs/\ej X.K (upd O p _) j xs from⟨p,ys,rfl,⟨_,QI hi,by omega,zO⟩,T.mono<|jd (jt x1.sub m) _⟩)⟩
  ·rw[EQ r]at z;cases z
theorem tR(h:SX X sc N L k)(S:PV X o fd)(J:PV X i fk)(hs:Ey i:=by intro _ _;rfl):PV X (.Subscript o i pos) (AL fd fk):=
 qf (oR (by have:=h.DS;omega) S J hs) λT H Q C=>by
  obtain⟨g,f,d,rc,z,q⟩:=C;obtain⟨s,t,z⟩:=ze z;obtain⟨P,u,z⟩:=ze z;cases s with
  | lN F G=>
   obtain⟨j,w,A⟩:=ze z;refine⟨g,f,_,rc,t,λv M I x r=>⟨I,f,_,rc.ext x,u,λy l m O e=>?_⟩⟩;obtain⟨ad,b,rfl,⟨R,g1,g2,g3⟩,B⟩:=(show ∃a b,v = .ref a/\Dg I a F b/\ej X.K I G b from r);rw[jF w]at e;have E:y = .int j:=e;obtain⟨U,n,p⟩:=(XG (i:=j) g1 g2<|B.mono O.s0).1 d A;refine⟨ad,U,rfl,?_,q U l m (x.trans O) p⟩;rw[E,<- n];exact .inl ⟨_,IS j,.inl<|O.s1 _ _<|x.sub _ _ g3,rfl,rfl⟩
  | _=>cases z
theorem oA(h:SX X sc N L k)(S:PV X i fk)(Z:PV X o fd)(Y:vu .In o=ed:=by with_unfolding_all rfl):l7 X (.Compare i [.In] [o] pos) (sB<|sT fk fd):=
 YE (tZ (uw (by have:=h.DS;omega) S Z) Y) λσ H Q P=>by
  obtain⟨n,m,b,rc,z,q⟩:=P;obtain⟨db,B,J⟩:=ze z;obtain⟨k1,C,z⟩:=ze B;obtain⟨w,E,z⟩:=ze z;cases w with
  | lN g l=>
   obtain⟨j,F,G⟩:=zC z;subst G;cases J;refine⟨n,m,_,rc,C,λy T p x U=>⟨p,m,_,rc.ext x,E,λv e I O r=>?_⟩⟩;obtain⟨ad,d,rfl,⟨kk,g1,g2,g3⟩,M⟩:=(show ∃a d,v = .ref a/\Dg I a g d/\ej X.K I l d from r);rw[jF F]at U;have f:y = .int j:=U;obtain⟨s,t⟩:=XG (i:=j) g1 g2 M;cases hv:Wg g l j with
   | none=>
    refine⟨ad,dj,rfl,?_,_,rfl,?_⟩
    ·rw[f,<- t hv]
     exact .inl ⟨_,IS j,.inl<|O.sub _ _ g3,rfl,rfl⟩
    ·rw[hv]at q;exact q e I<|x.trans O
   | some A=>
    obtain⟨R,u,W⟩:=s A hv;refine⟨ad,bQ R,rfl,?_,_,rfl,?_⟩
    ·rw[f,<- u]
     exact .inl ⟨_,IS j,.inl<|O.sub _ _ g3,rfl,rfl⟩
    ·rw[hv]at q;exact q e I<|x.trans O
  | _=>cases z
end
noncomputable def Cp:D->Option (List Int)
 | .tup a=>JW a
 | _=>dj
noncomputable def uN:List D->Option (List<|List Int)
 | []=>bQ []
 | d::ds=>(Cp d).bind λk=>(uN ds).map λr=>k::r
noncomputable def sS(f:CO (List D))(γ:Ctx):Option D:=(f γ).bind λb=>(vn b).bind λp=>(uN p.1).bind λa=>if a.Nodup/\a.length<=lim then bQ (.i7 a p.2)else dj
noncomputable def Cw:List (List Int)->List D->List Int->Option D
 | k::ks,v::vs,i=>if k=i then bQ v else Cw ks vs i
 | _,_,_=>dj
noncomputable def FQ(C I:CO D)(γ:Ctx):Option D:=(C γ).bind λd=>(I γ).bind λk=>match d with
 | .i7 a b=>(Cp k).bind λi=>Cw a b i
 | _=>dj
noncomputable def Cv(d k x:D):Option D:=match d with
 | .i7 a b=>(Cp k).map λi=>(Cw a b i).getD x
 | _=>dj
noncomputable def FO(C I z:CO D)(γ:Ctx):Option D:=(C γ).bind λd=>(I γ).bind λk=>(z γ).bind λx=>Cv d k x
noncomputable def FM(f:CO D)(γ:Ctx):Option (List D):=(f γ).bind λd=>match d with
 | .i7 a _=>bQ (a.map λk=> .tup (k.map .int))
 | _=>dj
section
variable(γ:Ctx)
@[simp] noncomputable def Bt:=@sS.eq_1
@[simp] noncomputable def Ep:=@FQ.eq_1
@[simp] noncomputable def Ek:=@FO.eq_1
@[simp] noncomputable def Ei:=@FM.eq_1
end
noncomputable def EN:List (List Int)->List Int->List Int->Option Int
 | k::ks,n::ns,i=>if k=i then bQ n else EN ks ns i
 | _,_,_=>dj
noncomputable def eqT(ks:List (List Int))(C:List Int)(z:List (List Int))(I:List Int):Bool:=decide (ks.length=z.length) && (ks.zip C).all λx=>decide<|EN z I x.1=bQ x.2
noncomputable def ES(d e:D):Option Bool:=match d with
 | .i7 a f=>match e with
  | .i7 z I=>(JW f).bind λb=>(JW I).map λO=>eqT a b z O
  | _=>dj
 | _=>dj
@[simp] noncomputable def GG(d e:D):Option D:=(ES d e).map D.bl
@[simp] noncomputable def GF(d e:D):Option D:=(ES d e).map λb=>D.bl<|!b
noncomputable def FL(f:CO D)(γ:Ctx):Option D:=(f γ).bind λd=>match d with
 | .i7 a _=>bQ (.int a.length)
 | _=>dj
@[simp] noncomputable def Eg:=@FL.eq_1
abbrev TT:=List (List (List Int))
inductive Pl where
 | out | tab (k:Nat) | row (k m:Nat)
deriving DecidableEq
section
variable{K:GI}{al:List (Nat×Pl)}{E0 E H0 H u7 H':Hp}{σ Sl:St}{γ γ':Ctx}{Z:TT}{ad:Pl->eg}
open Classical in
end
open Classical in
section
variable{H:Hp}{Z:TT}{ad:Pl->eg}
end
end DL
namespace DL
open PySem PySem.Spec PyProof.Rows L2
open PySem.W (KasT kas_sort kas_ask kat_run kat_snds kat_lt kat_cons kat_no kat_yes kat_nil kat_go kat_one kat_kind KatTups KatGo)
section
variable{prog:il}{w:hH}{A:l6}{E:RQ}{s:el}
theorem V9{a kS:eg}{I:List eh}{out:List eh}{e C:Nat}{P:PySem.Fin->el->Prop}{st:SortSt}(O:s.heap.get? kS=bQ (gB "list" I.toArray e))(S:s.heap.get? a=bQ (gB "list" #[] C))(U:kS≠a)(J:I.length<=fA)(L:out.length<=fA)
 (Z:(D1 st).map (·.2)=out.toArray) (Y:failedOf st=dj)
 (h : ∀h' c,h'.objs.size=s.heap.objs.size->(∀b o,b≠a->b≠kS->s.heap.get? b=bQ o->h'.get? b=bQ o)->h'.get? a=bQ (gB "list" out.toArray c)->P (.done (.ret .none)) {s with heap:=h'}) :
 wpAny (eK prog w) A (ksk_tail a ed C (.ref kS) st) P E s:=by
 unfold ksk_tail;refine GJ (Mf O rfl ?_ (by rw[iN];exact J) (HX _));refine GJ (NK ?_);have z:(s.heap.update kS (Hy λ_=>(#[]:Array eh))).get? a=bQ (gB "list" #[] C):=(Ik _ _ U).trans S;refine GJ (NL z rfl ?_);simp only[IM,if_false];rw[Z];refine GJ (Mf z rfl ?_ (HX _) (by show out.toArray.size<=_;rw[iN];exact MO L));rw[Y];simp only[bne_self_eq_false,IM,if_false];obtain⟨c,g⟩ : ∃c,((s.heap.update kS (Hy λ_=>(#[]:Array eh))).update a (Hy λ_=>out.toArray)).get? a=bQ (gB "list" out.toArray c):=⟨_,Nq z λ_=>out.toArray⟩;refine GS (h _ c (by rw[Lo,Lo]) (λb o d f q=>?_) g);exact(Ik _ _ (Hu d)).trans ((Ik _ _ (Hu f)).trans q)
theorem pv{a kS:eg}{vs z:List eh}{ps:List (Int×Int)}{e J:Nat}{P:PySem.Fin->el->Prop}(hk:s.heap.get? kS=bQ (gB "list" z.toArray e))(ha:s.heap.get? a=bQ (gB "list" #[] J))(Z:kS≠a)(ac:z.length=vs.length)(L:ps.length=vs.length)(b0:vs.length<64)
 (S : ∀i (Y:i<z.length),vl s.heap z[i] (ps.getD i (0,0)).1 (ps.getD i (0,0)).2)
 (h : ∀h' c,h'.objs.size=s.heap.objs.size->(∀b o,b≠a->b≠kS->s.heap.get? b=bQ o->h'.get? b=bQ o)->h'.get? a=bQ (gB "list" (Lv ((jZ ps).map λi=>vs.getD i HB)) c)->P (.done (.ret .none)) {s with heap:=h'}) :
 wpAny (eK prog w) A (ksk_end a ed vs.toArray J (.ref kS) z.toArray) P E s:=by
 have hz:vs.length<=fA:=by rw[LK];omega
 have n:vs.toArray.size=vs.length:=by simp
 have c5:((jZ ps).map λi=>vs.getD i HB).length=vs.length:=by rw[GY,(jH ps).length_eq,Hi,L]
 have step : ∀t:Sem PySem.Fin,wpAny (eK prog w) A t P E s->wpAny (eK prog w) A (if ed=di then (do let _ <- rule "list.sort.reverse";t)else t) P E s:=λt ht=>ht;unfold ksk_end
 try dsimp only
 refine step _ ?_;by_cases g:vs.toArray.size<2
 ·rw[RY g,RY g]
  refine GJ<|GS ?_;rw[StateT.run_pure];refine GJ<|GS ?_;dsimp only;have ev:(jZ ps).map (λi=>vs.getD i HB)=vs:=by unfold jZ;rw[RY ⋯,L];exact jc _ _
  have e7:Array.map (λx=>x.snd) (D1<|SortSt.mk' general' (z.toArray.zip vs.toArray) #[] 7 dj)=((jZ ps).map (λi=>vs.getD i HB)).toArray:=by show Array.map (λx=>x.snd) (z.toArray.zip vs.toArray)=_;rw[ev];apply Array.ext';simp[Array.toList_map,Array.toList_zip];rw[List.map_snd_zip ⋯]
  exact V9 hk ha Z ⋯ ⋯ e7 rfl h
 ·rw[EQ g,EQ g]
  have n2:2<=vs.length:=by rw[<- n];omega
  obtain⟨fs,f1,f2,f3⟩:=cW (ks:=λi=>(ps.getD i (0,0)).1) λi Y=>(S i Y).one;refine GJ (kat_kind (T:=LY "int") f1 ⋯ (λv hv=>?_) ⋯ ?_)
  ·obtain⟨k,t,rfl⟩:=f3 v hv
   exact PySem.W.Looks.of_pure rfl
  have ep:(xt (λi j=>yT (ps.getD i (0,0))<|ps.getD j (0,0))<|kas_sort vs.length).toList=jZ ps:=by unfold jZ;rw[EQ ⋯,L]
  refine GJ (IY (kat_run (E:=E) (ks:=z) (Q:=λf d=>∃p:Array Nat,D1 f=p.map (PySem.W.kas_item<|z.toArray.zip vs.toArray)/\failedOf f=dj/\p.toList=jZ ps/\d=s)
   (G:=λp d=>p.toList=jZ ps/\d=s)
   ac n2 b0 (λp f d a1 N R r=>⟨p,N,R,r.1,r.2⟩) (Y1 (lt:=λi j=>yT (ps.getD i (0,0))<|ps.getD j (0,0)) (λi j C Y hj I=>?_) (Jq ⋯) ⟨ep,rfl⟩)) ?_ λ_ _ e=>e)
  ·show wpAny _ _ (keyLt' _ (z.getD i HB)<|z.getD j HB) C _ _
   have B:i<z.length:=by omega
   have F:j<z.length:=by omega
   rw[show z.getD i HB=z[i]by simp[B],show z.getD j HB=z[j]by simp[F]];obtain⟨x,ox,xs,m,t,u,J,e2,e3,e4,M⟩:=S i B;obtain⟨y,oy,ys,m',t',u',d1,d2,d3,d4,K⟩:=S j F;rw[J,d1];refine kat_lt e2 e4 d2 d4 ?_;have X:xs.size=2:=by rw[<- Im,M];rfl
   have c0:ys.size=2:=by rw[<- Im,K];rfl
   rw[M,K,X,c0,Lr,Lr];unfold yT at I;generalize ps.getD i (0,0)=U at I ⊢;generalize ps.getD j (0,0)=X2 at I ⊢;refine kat_cons<|LL U.1 t X2.1 t' _ _ _ _ ?_;refine kat_go (λO=>?_) λO=>?_
   ·have O:U.1=X2.1:=by simpa using O
    rw[RY O]at I;refine kat_yes<|kat_cons<|LL U.2 u X2.2 u' _ _ _ _<|kat_go (λl=>?_) λl=>?_
    ·have l:U.2=X2.2:=by simpa using l
     refine kat_yes<|kat_nil ?_;rw[show decide (U.2<X2.2)=ed by rw[l];simp]at I;exact I
    ·exact kat_no<|kat_one _ _<|lt_int I
   ·have O:U.1≠X2.1:=by simpa using O
    rw[EQ O]at I;exact kat_no<|oneLt_int I
  rintro⟨⟨⟩,f⟩ d ⟨p,c1,hf,hp,rfl⟩;dsimp only;have H:=kat_snds ac c1;rw[hp]at H;exact V9 hk ha Z ⋯ ⋯ H hf h
end
end DL
namespace DL
open PySem PySem.Spec PyProof.Rows L2
section
variable{X:Cx}{pins:RW}{σ:St}{H:Hp}{s:el}{a:eg}{o:HO}
theorem da(I:Inv X pins σ H s)(f:wV X pins H a)(new:i6 X.prog X.w (upd H a o) s.heap a o):Inv X pins σ (upd H a o) s:=by
 obtain⟨f1,f2,y,j,k,l⟩:=f;have d : ∀b u,H b=bQ u->b≠a:=λb u q z=>by rw[z,f1]at q;cases q
 refine⟨I.ok,I.os,I.bare,⟨I.base.keep,I.base.slot,λb U q n h=>?_,I.base.there,λb i q=>?_,λb U u q=>?_,λb t q=>?_⟩,I.loc,I.cell,?_,λx c e=>?_,λp g=>?_,λb u e=>?_,I.len⟩
 ·have O:b≠a:=λz=>by
   rcases j with z1 | z1
   ·exact h<|z ▸ z1
   ·have:=GZ q
    rw[z]at this;exact absurd this<|Nat.not_lt_of_le z1
  rw[zI O];exact I.base.free b U q n h
 ·have:=I.base.B6 b i q
  rw[zI (d b _ this)];exact this
 ·have:=I.base.C7 b U u q
  rw[zI (d b _ this)];exact this
 ·obtain⟨m,this⟩:=I.base.Dz b t q
  exact⟨m,by rw[zI (d b _ this)];exact this⟩
 ·rw[zI (Hu f2)];exact I.free
 ·rw[zI (k x c e)];exact I.t8 x c e
 ·obtain⟨e,n,r⟩:=I.pin p g
  exact⟨e,by rw[zI (l p g)];exact n,r⟩
 ·by_cases O:b=a
  ·subst O;rw[zO]at e;cases e;exact new
  ·rw[zI O]at e
   exact(I.f6 b u e).Dc (λ_ _ _ q=>q) (λc q=>by rw[zI (d c _ q)];exact q) λc i q=>by rw[zI (d c _ q)];exact q
theorem oj{A:l6}{Q:VK}{us:List eh}{vs:List V}{CX:r0}{k:Nat}{f:eg}{C:o5}{ps:List Str}{sp:Sp}(F:o4 X.prog X.w X.K X.mg X.base o8 k f C ps sp)(O:ml k A)(U:z3 X.prog X.w X.K X.mg X.base A X.stack s H)(J:Binds X.K C ps [])
 (I:Inv X pins σ H s) (r:fh vs us) (h:sp vs H Q E0):wpAny (eK X.prog X.w) A (call (.ref f) us) (EP X pins σ Q) (λ_ _=>False) s:=by
 have b:us.length=ps.length:=by rw[<- r.length];exact F.len _ _ _ _ h
 refine wpAny_call<|Nr (F.run A X.stack s H ⟨us,[]⟩ us vs Q E0 O U (by simpa using J s us I.l9 (by simpa using b)) r h) λr d z=>?_;cases r with
 | error e=>exact z.elim
 | ok a=>
  cases a with
  | ret u=>exact I.after z
  | next=>exact Le z
  | brk=>exact Le z
  | cont=>exact Le z
theorem tx(I:Inv X pins σ H s)(J:wV X pins H kS)(C:wV X pins H a)(O:s.heap.get? kS=bQ ok)(L:s.heap.get? a=bQ oa)(U : ∀v,ok.data ≠ .cell v)(S : ∀v,oa.data ≠ .cell v):Inv X (pins++[(kS,ok),(a,oa)]) σ H s:=
 I.H8 λp z=>by
  rcases Lw.mp z with z | z
  ·exact I.pin p<|He _ z
  ·rcases GW.mp z with rfl | z
   ·exact⟨O,J.1,J.2.1,J.2.2.1,U⟩
   ·rw[La.mp z];exact⟨L,C.1,C.2.1,C.2.2.1,S⟩
theorem rY(I:Inv X (pins++more) σ H s):Inv X pins σ H s:=I.H8 λp z=>I.pin p<|He _<|Ni _ z
end
noncomputable def KG(ps:List (Int×Int)):List D:=ps.map λp=>D.tup [.int p.1,.int p.2]
section
variable{X:Cx}{pins:RW}{σ:St}{F:List D->Option Res}{k:Nat}{f:eg}{fd:o5}{pr:List Str}{A:l6}{E:RQ}
theorem nC(I:Inv X pins σ H s)(sub:gv H0 H)(r:Rep X.K H0 (.tup [.int i,.int j]) v)(J:RelV v u):vl s.heap u i j:=by
 obtain⟨b,M,rfl,e,h⟩:=kC r;obtain⟨y,L,g,k,l⟩:=h.mm;obtain⟨G,E,d,m,p⟩:=l.mm;rw[p.o3]at d;rw[g,d,jk k,jk m]at e;cases J;obtain⟨f,C,⟨o,A,w,n,x⟩,_⟩:=I.tuple<|mr sub e;obtain⟨z,O,rfl,U,a⟩ : ∃z O,f=z::O/\RelV (.int i) z/\fh [.int j] O:=by
  cases C with
  | cons U a=>exact⟨_,_,rfl,U,a⟩
 obtain⟨F,rfl,B⟩:=k6 a;obtain⟨t,rfl⟩:=U;obtain⟨u,rfl⟩:=B;exact⟨b,o,_,n,t,u,rfl,A,w,x,rfl⟩
theorem iG{a kS:eg}{vs:List eh}{xs:List V}{ds:List D}{ps:List (Int×Int)}{L:Nat}{P:PySem.Fin->el->Prop}{H0 H:Hp}{s:el}
 (G:o4 X.prog X.w X.K X.mg X.base o8 k f fd pr (p8 X.K pr.length F)) (h1:pr.length=1) (hr:ml k A) (bi:A.frames=bQ X.stack) (O:Binds X.K fd pr [])
 (I:Inv X pins σ H s) (sub:gv H0 H) (rv:fh xs vs) (rd:ej X.K H0 ds xs) (b5:ps.length=vs.length) (bl:vs.length<64)
 (hF : ∀(i:Nat) d p,ds[i]? = bQ d->ps[i]? = bQ p->F [d]=bQ (.val<|.tup [.int p.1,.int p.2]))
 (hk:s.heap.get? kS=bQ (gB "list" #[] 0)) (ha:s.heap.get? a=bQ (gB "list" #[] L)) (b6:kS≠a) (fk:wV X pins H kS) (fa:wV X pins H a)
 (h : ∀J H' C c,Inv X pins σ H' J->Ext H0 H C H'->J.heap.get? a=bQ (gB "list" (Lv ((jZ ps).map λi=>vs.getD i HB)) c)->wV X pins H' a->P (.done (.ret .none)) J) :
 wpAny (eK X.prog X.w) A (ksk_rest a (.ref f) ed vs.toArray L<|.ref kS) P E s:=by
 have cd:=rv.length;have ce:=rd.length;have hz:vs.length<=fA:=by rw[LK];omega
 unfold ksk_rest;refine GJ (MF ?_);rw[List.forIn_toArray];refine GJ (ksk_fold (λj J=>∃m r U e,Inv X (pins++[(kS,gB "list" U e),(a,gB "list" #[] L)]) σ m J/\Ext H0 H r m/\∃l:List V,fh l U.toList/\ej X.K r (KG (ps.take j)) l) vs 0 s
  ⟨H,H0,#[],0,tx I fk fa hk ha (λv z=>by cases z) (λv z=>by cases z),Ext.refl sub,[],.nil,ej.nil⟩ ?step ?done)
 case step=>
  rintro j x J hx ⟨m,r,U,e,g,x1,l,M,n⟩;simp only[IE]at n ⊢;have hj:j<vs.length:=(GU.mp hx).1;have hp:ps[j]? = bQ ps[j]:=GL ⋯;have hd:ds[j]? = bQ ds[j]:=GL ⋯;have b8:xs[j]? = bQ xs[j]:=GL ⋯;obtain⟨u',b9,bn⟩:=rv.get b8;rw[hx]at b9;cases b9;obtain⟨x',bb,bt⟩:=rd.get hd;rw[b8]at bb;cases bb;have env:z3 X.prog X.w X.K X.mg X.base A X.stack J m:=⟨bi,g.A6.mod,g.A6.bs,g.A6.wb,g.A6.ro,g.A6.C6,g.A6.f6,g.A6.bare⟩;refine GJ (Nb (IY (oj (CX:=o8) (Q:=λv H'=>∃C,Ext r m C H'/\Rep X.K C (.tup [.int ps[j].1,.int ps[j].2]) v) G hr env O g (vs:=[xs[j]]) (us:=[x]) (.cons bn .nil)
   ⟨r,[ds[j]],_,x1.sub,ej.cons (bt.mono x1.s0) ej.nil,by rw[h1];rfl,hF j _ _ hd hp,λv H' C T r2=>⟨C,T,r2⟩⟩) (λv N he=>?_) λ_ _ hF=>hF.elim))
  obtain⟨vv,W,B,c0,c1,T,r2⟩:=he
  try dsimp only
  obtain⟨t,Y,_⟩:=B.pin (kS,gB "list" U e) (He _ (He _ (.head _)));obtain⟨na,Z,_⟩:=B.pin (a,gB "list" #[] L) (He _ (He _ (.tail _ (.head _))));have c3:=rY B;have R:wV X pins W kS:=⟨Y,fk.2⟩;have S:wV X pins W a:=⟨Z,fa.2⟩;have kl:U.size=j:=by have:=M.length;have:=n.length;simp only[KG,GY,Mk,Im]at *;omega
  refine GJ (Mf t rfl ?_ (by rw[kl,LK];omega) (Ia (Nat.le_of_eq (Array.size_push ..)) (by rw[kl,LK];omega)));obtain⟨c2,c4⟩ : ∃c2,(N.heap.update kS (Hy (·.push v))).get? kS=bQ (gB "list" (U.push v) c2):=⟨_,Nq t (·.push v)⟩;have I3:=c3.Dd (h':=N.heap.update kS (Hy (·.push v))) (t':=N.toks) (fp:=[kS]) (λb o O q=>(Ik _ _ (λz=>O (by rw[z];exact List.mem_singleton_self _))).trans q) (λb O=>by rw[La.mp O];exact R);have c6:(N.heap.update kS (Hy (·.push v))).get? a=bQ (gB "list" #[] L):=(Ik _ _ b6).trans na;refine GS ⟨rfl,W,c1,U.push v,c2,tx I3 R S c4 c6 (λv z=>by cases z) (λv z=>by cases z),x1.trans T,l++[vv],?_,?_⟩
  ·rw[Array.toList_push];exact M.append<|.cons c0 .nil
  ·have ek:ps.take (j+1)=ps.take j++[ps[j]]:=by rw[List.take_add_one,hp];simp
   rw[ek];unfold KG at n ⊢;rw[Ih];exact(n.mono T.s0).append (ej.cons r2 ej.nil)
 case done=>
  rintro J ⟨m,r,U,e,g,x1,l,M,n⟩;rw[IE,<- b5,List.take_length]at n;obtain⟨t,Y,_⟩:=g.pin (kS,gB "list" U e) (He _ (He _ (.head _)));obtain⟨na,Z,_⟩:=g.pin (a,gB "list" #[] L) (He _ (He _ (.tail _ (.head _))));have be:=rY g;have R:wV X pins m kS:=⟨Y,fk.2⟩;have S:wV X pins m a:=⟨Z,fa.2⟩
  try dsimp only
  refine GJ<|listItems_at t rfl ?_;have l1:=M.length;have l2:=n.length;simp only[KG,GY]at l2;have ek:U=U.toList.toArray:=by simp
  rw[ek]at t ⊢;refine pv t na b6 ⋯ b5 bl (λi hi=>?_) λh' c hsz kp hA=>?_
  ·have c8:i<ps.length:=by omega
   obtain⟨y,ey,ry⟩:=n.get (i:=i) (d:= .tup [.int (ps.getD i (0,0)).1,.int (ps.getD i (0,0)).2]) (by unfold KG;simp[c8]);obtain⟨u,hu,ru⟩:=M.get ey;have:U.toList[i]=u:=by rw[GL hi]at hu;exact Hx hu
   rw[this];exact nC be x1.sub ry ru
  ·have B:=be.Dd (h':=h') (t':=J.toks) (fp:=[a,kS]) (λb o O q=>kp b o (λz=>O<|by rw[z];simp) (λz=>O<|by rw[z];simp) q) (λb O=>by
    rcases GW.mp O with rfl | O
    ·exact S
    ·rw[La.mp O];exact R)
   exact h _ m r c B x1 hA S
end
noncomputable def oT:Res->Option (Int×Int)
 | .val d=>match d with
  | .tup a=>match a with
   | [x,y]=>(lp x).bind λi=>(lp y).map λj=>(i,j)
   | _=>dj
  | _=>dj
 | .own _=>dj
noncomputable def K1(F:List D->Option Res):List D->Option (List<|Int×Int)
 | []=>bQ []
 | d::r=>((F [d]).bind oT).bind λp=>(K1 F r).map λl=>p::l
noncomputable def bh(F:List D->Option Res)(f:CO (Sk×List D)):CO (List D):=λd=>(f d).bind λa=>match a.1 with
 | .L=>(K1 F a.2).bind λb=>if a.2.length<64 then bQ ((jZ b).map λi=>a.2.getD i .eX)else dj
 | _=>dj
theorem X6(z:fh xs vs) : ∀(o:List Nat),(∀i∈o,i<xs.length)->fh (o.map λi=>xs.getD i .eX) (o.map λi=>vs.getD i HB)
 | [],_=> .nil
 | i::o,h=>by have a:=h i Ha;refine .cons ?_ (X6 z o λj I=>h j<|GX _ I);obtain⟨v,O,g2⟩:=z.get (i:=i) (x:=xs[i])<|GL a;show RelV (xs.getD i V.eX) (vs.getD i HB);rw[GN,GN,GL a,O];exact g2
section
variable{X:Cx}{pins:RW}{σ:St}{F:List D->Option Res}{k:Nat}{f:eg}{fd:o5}{pr:List Str}
theorem W4
 (G:o4 X.prog X.w X.K X.mg X.base o8 k f fd pr (p8 X.K pr.length F)) (Z:pr.length=1) (hr:ml (k+1+1) X.A) (O:Binds X.K fd pr [])
 (I:Inv X pins σ H s) (sub:gv H0 H) (hl:s.heap.IsList l vs.toArray) (L:fh xs vs) (rd:ej X.K H0 ds xs) (S:ps.length=vs.length) (Y:vs.length<64)
 (hF : ∀(i:Nat) d p,ds[i]? = bQ d->ps[i]? = bQ p->F [d]=bQ (.val<|.tup [.int p.1,.int p.2]))
 (h : ∀J H' C D,H D=dj->H' D=dj->Ext H0 H C H'->Inv X pins σ (upd H' D<|.lst<|(jZ ps).map λi=>xs.getD i .eX) J->Q (.ref D) J) :
 wpAny (eK X.prog X.w) X.A (call (.builtin "sorted") [.ref l] [(HU "key",.ref f)]) Q E s:=by
 have b6:=L.length;have U:vs.length<=fA:=by rw[LK];omega
 refine call_function_entry_kw kind_sorted plain_sorted entry_sorted (ksk_s1 _ _) ?_;unfold n6.«sorted»;refine GJ (m:=checkCount "sorted" 1 1 _) (GS ?_);refine GJ (collect_list hl ?_ U);refine GJ (NU ?_ U);have a:((s.heap.push (gB "list" #[] 0)).update s.heap.objs.size (Hy (· ++ vs.toArray))).objs.size=s.heap.objs.size+1:=by rw[Lo,NZ]
 have e:(((s.heap.push (gB "list" #[] 0)).update s.heap.objs.size (Hy (· ++ vs.toArray))).push (gB "list" vs.toArray 0)).get? (s.heap.objs.size+1)=bQ (gB "list" vs.toArray 0):=by rw[<- a];exact Hc _ rfl
 have keep : ∀b o,s.heap.get? b=bQ o->(((s.heap.push (gB "list" #[] 0)).update s.heap.objs.size (Hy (· ++ vs.toArray))).push (gB "list" vs.toArray 0)).get? b=bQ o:=λb o q=>by have j:b<s.heap.objs.size:=GZ q;rw[LG _ _ _ (by rw[a];exact Ho (HL j)),Np _ _ _ _ (Ho j),LG _ _ _ (Ho j)];exact q
 have n:(((s.heap.push (gB "list" #[] 0)).update s.heap.objs.size (Hy (· ++ vs.toArray))).push (gB "list" vs.toArray 0)).objs.size=s.heap.objs.size+2:=by rw[NZ,a]
 show wpAny _ _ _ _ _ {s with heap:=((s.heap.push (gB "list" #[] 0)).update s.heap.objs.size (Hy (· ++ vs.toArray))).push (gB "list" vs.toArray 0)};rw[a];generalize ((s.heap.push (gB "list" #[] 0)).update s.heap.objs.size (Hy (· ++ vs.toArray))).push (gB "list" vs.toArray 0)=g at e keep n ⊢;have P:Inv X pins σ H {s with heap:=g}:=I.kept (t':=s.toks) keep;have x:wV X pins H (s.heap.objs.size+1):=I.C4 (Mx _) (I.f6.fresh (Mx _));refine GJ (IX (wpAny_call_entry_kw slot_list_sort ⟨_,e,rfl⟩ entry_list_sort ?body (ksk_l1 _ _)))
 case body=>
  show wpAny (eK X.prog X.w) X.A.in1.in1 (n6.«list.sort» ⟨[.ref (s.heap.objs.size+1)],[(HU "key",.ref f)]⟩) _ _ _;rw[ksk_t1];unfold ksk_tree;refine GJ (RG e rfl ?_);refine GJ (Mf e rfl ?_ (by rw[iN];exact U) (HX _));obtain⟨t,r⟩ : ∃t,(g.update (s.heap.objs.size+1) (Hy λ_=>(#[]:Array eh))).get? (s.heap.objs.size+1)=bQ (gB "list" #[] t):=⟨_,Nq e λ_=>#[]⟩;refine GJ (NL r rfl ?_);refine GJ (NG ?_ (by show vs.length<=_;exact U));refine GJ (NU ?_ (HX _));refine IX ?_;have B:=P.Dd (h':=g.update (s.heap.objs.size+1) (Hy λ_=>(#[]:Array eh))) (t':=s.toks) (fp:=[s.heap.objs.size+1]) (λb o O q=>(Ik _ _ (λz=>O (by rw[z];exact List.mem_singleton_self _))).trans q) (λb O=>by rw[La.mp O];exact x);have M:=B.kept (h':=((g.update (s.heap.objs.size+1) (Hy λ_=>(#[]:Array eh))).push (gB "tuple" vs.toArray 0)).push (gB "list" #[] 0)) (t':=s.toks) (λb o q=>GK _ (GK _ q));have y:((g.update (s.heap.objs.size+1) (Hy λ_=>(#[]:Array eh))).push (gB "tuple" vs.toArray 0)).objs.size=s.heap.objs.size+3:=by rw[NZ,Lo,n]
  have W:wV X pins H (s.heap.objs.size+3):=I.C4 (HP _ _) (I.f6.fresh (HP _ _));refine iG (A:=X.A.in1.in1) (ps:=ps) (xs:=xs) (ds:=ds) (H0:=H0) (H:=H) (s:={s with heap:=((g.update (s.heap.objs.size+1) (Hy λ_=>(#[]:Array eh))).push (gB "tuple" vs.toArray 0)).push (gB "list" #[] 0)}) (kS:=((g.update (s.heap.objs.size+1) (Hy λ_=>(#[]:Array eh))).push (gB "tuple" vs.toArray 0)).objs.size)
   G Z hr.in1.in1 I.A6.in1.in1.frames O M sub L rd S Y hF (Hc _ rfl) (GK _<|GK _ r) (by rw[y];exact λz=>absurd (Nat.add_left_cancel z) ⋯) (by rw[y];exact W) x λJ H' C c N x3 hA u=>⟨_,rfl,?_⟩
  refine GS ⟨_,rfl,h J H' C _ (I.f6.fresh<|Mx _) u.1 x3<|da N u ?_⟩;have R : ∀i∈jZ ps,i<xs.length:=λi hi=>by have:=(jH ps).mem_iff.mp hi;have:=eY.mp this;omega
  have T:((jZ ps).map λi=>xs.getD i V.eX).length=vs.length:=by rw[GY,(jH ps).length_eq,Hi,S]
  exact⟨by rw[T];exact U,(jZ ps).map λi=>vs.getD i HB,c,X6 L _ R,hA⟩
end
theorem K0 : ∀{ds:List D} {ps:List (Int×Int)},K1 F ds=bQ ps->ps.length=ds.length
 | [],ps,h=>by cases h;rfl
 | d::r,ps,h=>by obtain⟨p,_,a⟩:=ze h;obtain⟨l,z,I⟩:=zC a;subst I;simp[K0 z]
theorem WR(h:oT r=bQ p):r = .val (.tup [.int p.1,.int p.2]):=by
 unfold oT at h;split at h
 ·split at h
  ·split at h
   ·obtain⟨i,a,b⟩:=ze h
    obtain⟨j,z,I⟩:=zC b;subst I;rw[jF a,jF z]
   ·cases h
  ·cases h
 ·cases h
theorem V8 : ∀{ds:List D} {ps:List (Int×Int)},K1 F ds=bQ ps->∀(i:Nat) d p,ds[i]? = bQ d->ps[i]? = bQ p->F [d]=bQ (.val<|.tup [.int p.1,.int p.2])
 | [],ps,h,i,d,p,hd,hp=>by simp at hd
 | c::r,ps,h,i,d,p,hd,hp=>by
  obtain⟨q,b,e⟩:=ze h;obtain⟨l,z,I⟩:=zC e;subst I;cases i with
  | zero=>
   simp at hd hp;subst hd hp;obtain⟨U,a,O⟩:=ze b;rw[a,WR O]
  | succ i=>exact V8 z i d p (by simpa using hd) (by simpa using hp)
section
variable{X:Cx}{sc:hG}{N L:List Str}{k j:Nat}{e:eA}{fq:CO (Sk×List D)}{F:List D->Option Res}{x:Str}{p p2 pos RE:g8}
theorem gP(S:gm X.prog X.w X.K X.mg X.base j x 1 F)(h:SX X sc N L k)(Y:j+1+1<=k)(c:yp sc "sorted" = di)(z:X.mg "sorted" = dj)(C:yp sc x=di)(Z:PQ X e fq)
 (hs:f7 [e] X.env=[(ed,eL e X.env)]:=by rfl) :
 PO X (.Call (.Name "sorted" p) [e] [⟨bQ "key",.Name x p2,RE⟩] pos) (bh F fq):=by
 intro b s σ H Q I m;obtain⟨H0,γ,out,rc,O,q⟩:=m;obtain⟨⟨kk,ds⟩,B,O⟩:=ze O;obtain⟨E,fd,pr,W,G,R,hk,M⟩:=S.ex;cases kk with
 | T=>cases O
 | L=>
  have O:((K1 F ds).bind λps=>if ds.length<64 then bQ ((jZ ps).map λi=>ds.getD i .eX)else dj)=bQ out:=O;obtain⟨ps,o,O⟩:=ze O;by_cases t:ds.length<64
  ·rw[RY t]at O
   cases O;refine Me (yo (u:= .builtin "sorted") I (h.gl c).1 z ⋯ (callWith_kw ?_ (by rw[hs];rfl) (by rw[hs];rfl)) ⋯ ⋯);refine e9 ((jx Z qy hs) pos b s σ H (λvs d=>∃a xs U,vs=[.ref a]/\Ext H0 H U d/\f9 X.K d a xs/\ej X.K U ds xs) I ⟨H0,γ,.L,ds,rc,B,λa xs d U x1 g1 g2 g3=>⟨a,xs,U,rfl,x1,g1,g3⟩⟩) λus y m=>?_;obtain⟨vs,d,l,rv,a,xs,U,rfl,x1,g1,g3⟩:=m;obtain⟨u,rfl,ru⟩:=k6 rv;cases ru;show wpAny _ _ (evalAll ((do let v <- eL (.Name x p2) X.env;Dx pos;pure v)::[])) _ _ y;refine wpAny_evalAll_cons (GJ (cR l (h.gl C).1 R (GJ (NS (GS ?_))) (h.gl C).2.2));refine wpAny_evalAll_nil ?_;obtain⟨as,r,pl,hz⟩:=l.list g1;have l1:=r.length;have l2:=g3.length;have l3:=K0 o;show wpAny _ _ (call (.builtin "sorted") [.ref a] [(HU "key",.ref E)]) _ _ y;refine W4 (H0:=U) (ps:=ps) (xs:=xs) (ds:=ds) (vs:=as) (F:=F) G W (h.room.mono Y) M l x1.sub pl.isList r g3 ⋯ ⋯ (V8 o) λs' H' g D J n f A=>?_;refine⟨.ref D,_,A,rfl,q D _ _ g (x1.trans (f.trans (Ext.hide f.sub n _))) (kj x1.s1 J) (jt f.sub n) zO ?_⟩;refine ZU (g3.mono f.s0) _ λi P=>?_;have:=(jH ps).mem_iff.mp P;have:=eY.mp this;omega
  ·rw[EQ t]at O;cases O
end
section
variable{X:Cx}{sc:hG}{N L:List Str}{k j n i:Nat}{a b c e:eA}{es:List eA}{f:CO D}{g:CO (List D)}{p pos:g8}{x:Str}{st Ss Su:i5}{kh:List i5}{F:List D->Option Res}
open Classical in
noncomputable def B0(H:Hp)(p:eg):Hp:=λc=>if c=p then dj else H c
theorem G5{H:Hp}{p c:eg}(h:c≠p):B0 H p c=H c:=EQ h
end
mutual
def Oz:D->Bool
 | .tup a=>D7 a
 | .lst a=>D7 a
 | .lN _ _=>ed
 | .i7 _ _=>ed
 | _=>di
def D7:List D->Bool
 | []=>di
 | x::xs=>Oz x && D7 xs
end
mutual
theorem Rep.less{K:GI}{H:Hp}{p:eg}{C:fy->Prop}(I:H p=bQ (.ext C)) : ∀{d:D} {v:V},Oz d=di->Rep K H d v->Rep K (B0 H p) d v
 | .eX,_,_,h=>h
 | .bl _,_,_,h=>h
 | .int _,_,_,h=>h
 | .str _,_,_,h=>h
 | .tup ds,v,n,h=>by
  obtain⟨a,b,f,g,i⟩:=(show ∃a b,v = .ref a/\g5 K H a b/\ej K H ds b from h);refine(show ∃a b,v = .ref a/\g5 K (B0 H p) a b/\ej K (B0 H p) ds b from⟨a,b,f,?_,ej.less I n i⟩);have z : ∀{u:HO},(∀C,u ≠ .ext C)->H a=bQ u->a≠p:=λO q e=>by rw[e,I]at q;exact O _ (Hx q).symm
  rcases g with(hq | ⟨o',hq⟩) | hq
  ·exact .inl (.inl<|by rw[G5 (z (λ_=>by simp) hq)];exact hq)
  ·exact .inl<|.inr ⟨o',by rw[G5 (z (λ_=>by simp) hq)];exact hq⟩
  ·exact .inr hq
 | .lst ds,v,n,h=>by
  obtain⟨a,b,f,g,i⟩:=(show ∃a b,v = .ref a/\f9 K H a b/\ej K H ds b from h);refine(show ∃a b,v = .ref a/\f9 K (B0 H p) a b/\ej K (B0 H p) ds b from⟨a,b,f,?_,ej.less I n i⟩);have z : ∀{u:HO},(∀C,u ≠ .ext C)->H a=bQ u->a≠p:=λO q e=>by rw[e,I]at q;exact O _ (Hx q).symm
  rcases g with(hq | ⟨o',hq⟩) | hq
  ·exact .inl (.inl<|by rw[G5 (z (λ_=>by simp) hq)];exact hq)
  ·exact .inl<|.inr ⟨o',by rw[G5 (z (λ_=>by simp) hq)];exact hq⟩
  ·exact .inr hq
 | .lN _ _,_,n,_=>nomatch n
 | .i7 _ _,_,n,_=>nomatch n
theorem ej.less{K:GI}{H:Hp}{p:eg}{C:fy->Prop}(z:H p=bQ (.ext C)) : ∀{ds:List D} {xs:List V},D7 ds=di->ej K H ds xs->ej K (B0 H p) ds xs
 | [],_,_,h=>h
 | d::ds,xs,n,h=>by obtain⟨x,r,a,b,e⟩:=(show ∃x r,xs=x::r/\Rep K H d x/\ej K H ds r from h);have n:(Oz d && D7 ds)=di:=n;rw[Hb]at n;exact(show ∃x r,xs=x::r/\Rep K (B0 H p) d x/\ej K (B0 H p) ds r from⟨x,r,a,Rep.less z n.1 b,ej.less z n.2 e⟩)
end
noncomputable def B1(e:eA):Str:=match e with | .Name x _=>x | _=>""
noncomputable def wx(e:eA):List Str:=match e with | .Tuple a _ _=>a.map B1 | e=>[B1 e]
noncomputable def C5(N:List Str)(fs:List Nat):List (Str×Nat):=fs.map λi=>(N.getD i "",i)
theorem Jr(N:List Str)(fs:List Nat):(C5 N fs).map (·.2)=fs:=by unfold C5;rw[HD];exact List.map_id fs
noncomputable def mG(e:eA):Bool:=match e with | .Name _ _=>di | _=>ed
theorem WY{e:eA}(h:mG e=di) : ∃p,e = .Name (B1 e) p:=by
 unfold mG at h;split at h
 ·exact⟨_,rfl⟩
 ·cases h
noncomputable def EB(C:hG)(N L:List Str)(is:List Nat)(I:List eA):Bool:=match is with
 | [i,j]=>(match I with | [a,b]=>mG a && (k7 C N L i (B1 a) && (mG b && k7 C N L j (B1 b))) | _=>ed)
 | [i,j,l]=>(match I with | [a,b,c]=>mG a && (k7 C N L i (B1 a) && (mG b && (k7 C N L j (B1 b) && (mG c && k7 C N L l (B1 c))))) | _=>ed)
 | _=>ed
noncomputable def E4(C:hG)(N L:List Str)(e:eA)(T:Tg):Bool:=match T with
 | .nm i=>mG e && k7 C N L i (B1 e)
 | .tp is=>(match e with | .Tuple a _ _=>EB C N L is a | _=>ed)
theorem nE{X:Cx}{C:hG}{N L:List Str}{k:Nat}(h:SX X C N L k){e:eA}{T:Tg}(c:E4 C N L e T=di):PG X e (o7 X.K T):=by
 cases T with
 | nm i=>
  have c:=Bool.and_eq_true_iff.mp c;obtain⟨p,q⟩:=WY c.1;rw[q];exact h.DA _ c.2
 | tp is=>
  unfold E4 at c;dsimp only at c;split at c
  ·next f j pos=>
   unfold EB at c;split at c
   ·split at c
    ·simp only[Hb]at c
     obtain⟨z,I,b1,b2⟩:=c;obtain⟨p,q⟩:=WY z;obtain⟨b,O⟩:=WY b1;rw[q,O];exact h.PB<|vx (h.DA _ I)<|vx (h.DA _ b2) cf
    ·cases c
   ·split at c
    ·simp only[Hb]at c
     obtain⟨z,I,b1,b2,U,a⟩:=c;obtain⟨p,q⟩:=WY z;obtain⟨b,O⟩:=WY b1;obtain⟨g,d⟩:=WY U;rw[q,O,d];exact h.PB<|vx (h.DA _ I)<|vx (h.DA _ b2)<|vx (h.DA _ a) cf
    ·cases c
   ·cases c
  ·cases c
noncomputable def cB(I scope:hG)(N:List Str)(C:eA)(T:Tg)(n:Nat)(fs:List Nat):Bool:=
 Y9 I scope N (C5 N fs) && (BP (wx C) scope (C5 N fs) && (decide (∀i∈T.idx,i<(wx C).length) && (decide ((wx C).length=n) && E4 (kF scope I) (wx C++(C5 N fs).map (·.1)) (wx C) C T)))
abbrev A5(X:Cx)(scope:hG)(N:List Str)(tg:eA)(fs:List Nat):=jn X scope (wx tg++(C5 N fs).map (·.1))
abbrev SA(X:Cx)(sc scope:hG)(N:List Str)(tg:eA)(fs:List Nat)(k:Nat)(fp:List eg)(s2:el)(H2:Hp):Prop:=SX (A5 X scope N tg fs fp s2 H2) (kF scope sc) (wx tg++(C5 N fs).map (·.1)) (wx tg) k
section
variable{X:Cx}{sc scope:hG}{N L:List Str}{k n i:Nat}{fs:List Nat}{T:Tg}{e elt tg iter DG:eA}{es:List eA}{pos p py spos cpos:g8}{x y:Str}{f g:CO D}{fo:CO (List D)}{src gl:CO (List D)}{kk:CO Bool}
theorem cA(h:SX X sc N L k)(c:cB sc scope N tg T n fs=di):p9 X scope (C5 N fs)/\(∀i∈T.idx,i<(wx tg).length)/\(wx tg).length=n/\(∀fp J C,SA X sc scope N tg fs k fp J C)/\∀fp J C,PG (A5 X scope N tg fs fp J C) tg (o7 X.K T):=by unfold cB at c;simp only[Hb,decide_eq_true_eq]at c;obtain⟨z,I,O,U,a⟩:=c;have s : ∀fp J C,SA X sc scope N tg fs k fp J C:=λfp J C=>h.comp I;exact⟨h.Ro z,O,U,s,λfp J C=>nE (s fp J C) a⟩
theorem qz(h:SX X sc N L k)(J:ql X tg iter src)(z : ∀fp I C,SA X sc scope N tg fs k fp I C->PV (A5 X scope N tg fs fp I C) elt f)(c:cB sc scope N tg T n fs=di:=by decide +kernel)(hs : ∀x,ow iter X.env x=pure x:=by intro _;rfl) :
 PO X (.ListComp elt [⟨tg,iter,[],0⟩] scope pos) (zS src T n fs jj f):=by
 obtain⟨a,b,d,s,q⟩:=cA h c;have r:=oK (pos:=pos) h.calm a b J q (λfp I C=>z fp I C<|s fp I C) hs;rw[d,Jr]at r;exact r
theorem Kz(h:SX X sc N L k)(O:ql X tg iter src)(z : ∀fp J C,SA X sc scope N tg fs k fp J C->l7 (A5 X scope N tg fs fp J C) DG kk)(I : ∀fp J C,SA X sc scope N tg fs k fp J C->PV (A5 X scope N tg fs fp J C) elt f)(c:cB sc scope N tg T n fs=di:=by decide +kernel)(hs : ∀x,ow iter X.env x=pure x:=by intro _;rfl) :
 PO X (.ListComp elt [⟨tg,iter,[DG],0⟩] scope pos) (zS src T n fs kk f):=by
 obtain⟨a,b,d,s,q⟩:=cA h c;have r:=bU (pos:=pos) h.calm a b O q (λfp J C=>z fp J C<|s fp J C) (λfp J C=>I fp J C<|s fp J C) hs;rw[d,Jr]at r;exact r
theorem y9(h:SX X sc N L k)(J:ql X tg iter src)(z : ∀fp I C,SA X sc scope N tg fs k fp I C->PV (A5 X scope N tg fs fp I C) elt f)(ct:k7 sc N L i y=di:=by decide +kernel)(c:cB sc scope N tg T n fs=di:=by decide +kernel)(hs : ∀x,ow iter X.env x=pure x:=by intro _;rfl) :
 PS X (.Assign [.Name y py] (.ListComp elt [⟨tg,iter,[],0⟩] scope cpos) spos) (Wz (tO X.K<|zS src T n fs jj f)<|yq i):=by
 obtain⟨a,b,d,s,q⟩:=cA h c;have r:=RR (cpos:=cpos) (spos:=spos) (py:=py) i h ct h.calm a b J q (λfp I C=>z fp I C<|s fp I C) hs;rw[d,Jr]at r;exact r
theorem oG(h:SX X sc N L k)(O:ql X tg iter src)(z : ∀fp J C,SA X sc scope N tg fs k fp J C->l7 (A5 X scope N tg fs fp J C) DG kk)(I : ∀fp J C,SA X sc scope N tg fs k fp J C->PV (A5 X scope N tg fs fp J C) elt f)(ct:k7 sc N L i y=di:=by decide +kernel)(c:cB sc scope N tg T n fs=di:=by decide +kernel)(hs : ∀x,ow iter X.env x=pure x:=by intro _;rfl) :
 PS X (.Assign [.Name y py] (.ListComp elt [⟨tg,iter,[DG],0⟩] scope cpos) spos) (Wz (tO X.K<|zS src T n fs kk f)<|yq i):=by
 obtain⟨a,b,d,s,q⟩:=cA h c;have r:=Cb (cpos:=cpos) (spos:=spos) (py:=py) i h ct h.calm a b O q (λfp J C=>z fp J C<|s fp J C) (λfp J C=>I fp J C<|s fp J C) hs;rw[d,Jr]at r;exact r
theorem ua(h:SX X sc N L k)(J:ql X tg iter src)(z : ∀fp I C,SA X sc scope N tg fs k fp I C->PO (A5 X scope N tg fs fp I C) elt fo)(ct:k7 sc N L i y=di:=by decide +kernel)(c:cB sc scope N tg T n fs=di:=by decide +kernel)(hs : ∀x,ow iter X.env x=pure x:=by intro _;rfl) :
 k0 X (.Assign [.Name y py] (.ListComp elt [⟨tg,iter,[],0⟩] scope cpos) spos) (gd i<|VH src T n fs fo):=by
 obtain⟨a,b,d,s,q⟩:=cA h c;have r:=gJ (cpos:=cpos) (spos:=spos) (py:=py) i h ct h.calm a b J q (λfp I C=>z fp I C<|s fp I C) hs;rw[d,Jr]at r;exact r
theorem zq(h:SX X sc N L k)(c:QW sc N i x=di:=by decide +kernel):PV X (.Name x pos) (zc i):=tL i<|h.var c
theorem zJ(h:SX X sc N L k)(c:QW sc N i x=di:=by decide +kernel):PQ X (.Name x pos) (zg i):=uc i<|h.var c
theorem rH(h:SX X sc N L k)(c:E4 sc N L e T=di:=by decide +kernel):PG X e (o7 X.K T):=nE h c
theorem jA(h:SX X sc N L k)(z:PV X e f)(c:k7 sc N L i x=di:=by decide +kernel)(hs:wh e (bQ (.Name x py)) pos.line X.env=pure ed:=by rfl):k0 X (.Assign [.Name x py] e pos) (jD i f):=oC i<|h.set i c z hs
theorem yk(h:SX X sc N L k)(z:PO X e fo)(c:k7 sc N L i x=di:=by decide +kernel)(hs:wh e (bQ (.Name x py)) pos.line X.env=pure ed:=by rfl):k0 X (.Assign [.Name x py] e pos) (xn i fo):=VP i<|h.set i c z hs
theorem qS{C:List i5}{F:CO Fl}(hx:X.xe=λ_ _=>False)(h:SX X sc N L k)(I:ij X tg iter src)(z:eW X C F)(c:E4 sc N L tg T=di:=by decide +kernel)(hs : ∀x,ow iter X.env x=pure x:=by intro _;rfl):k0 X (.For tg iter C [] pos) (yP src T F):=oE (my hx) h.calm I (nE h c) z hs
variable{j:Nat}{F:List D->Option Res}
theorem zY(z:gm X.prog X.w X.K X.mg X.base j x n F)(h:SX X sc N L k)(C:C0 X (e::es) n gl)(I:j<=k:=by decide)(c:yp sc x=di:=by decide +kernel)
 (O:f7 (e::es) X.env=(ed,eL e X.env)::f7 es X.env:=by rfl) (U:(pk pos<|starEach es X.env).any (·.1)=ed:=by rfl):PV X (.Call (.Name x p) (e::es) [] pos) (zE F gl):=Ca z I h c C O U
theorem qX(z:gm X.prog X.w X.K X.mg X.base j x n F)(h:SX X sc N L k)(C:C0 X (e::es) n gl)(I:j<=k:=by decide)(c:yp sc x=di:=by decide +kernel)
 (O:f7 (e::es) X.env=(ed,eL e X.env)::f7 es X.env:=by rfl) (U:(pk pos<|starEach es X.env).any (·.1)=ed:=by rfl):PO X (.Call (.Name x p) (e::es) [] pos) (jl F gl):=Cd z I h c C O U
end
noncomputable def QS:=jf 1 (zP (h6 (wN (jY (sB (m8 .str (zc 0)))) (sB (zH O6 (k8 (zc 0)) (zu (.int 6))))) (jK (zu (.bl ed))) jT) (jK (fw (jP (zS (sN (zc 0)) (.nm 0) 1 [] jj (FN (zc 0) (zA (zu (.tup [.str "r",.str "l"])))))))))
noncomputable def wY:=jf 2<|zP (h6 (wN (jY<|sB<|zE Vn<|zb (zc 1)<|zb (zu<|.int 2) zF)<|wN (jY<|sB<|zE Yw<|zb (zc 0)<|zb (dn (zg 1)<|zu<|.int 0) zF)<|jY<|sB<|zE Yw<|zb (zc 0)<|zb (dn (zg 1)<|zu<|.int 1) zF) (jK<|zu<|.bl ed) jT)<|jK<|zH o6 (dn (zg 1)<|zu<|.int 0)<|dn (zg 1)<|zu<|.int 1
noncomputable def jr:=jf 5<|zP (h6 (oi (sB<|zH C3 (xP<|zg 0)<|zu<|.int 1)<|sB<|zH ix (zH ya (dn (zg 0)<|zu<|.int 0)<|zu<|.int 2)<|zu<|.int 1) (zP (jD 2<|dn (zg 0)<|zH qC (zu<|.int 1)<|zH ya (zc 1)<|zH JY (xP<|zg 0)<|zu<|.int 1)<|zP (yP (zR<|gh (zu<|.int 60)<|zH X3 (zc 1)<|zH JY (xP<|zg 0)<|zu<|.int 1) (.nm 3)<|jD 2<|zH X3 (zc 2)<|zH pQ (zu<|.int 10)<|zu<|.int 9)<|jK<|zH ya (zc 2)<|zH pQ (zu<|.int 10)<|zu<|.int 9) jT)<|zP (jD 4<|zc 1)<|zP (h6 (sB<|zH C3 (xP<|zg 0)<|zu<|.int 0) (jD 4<|dn (zg 0)<|zH ya (zc 1)<|xP<|zg 0) jT)<|jK<|zH ya (zH yV (zH ya (zH qC (zH qC (zH qC (zH yV (zH ya (zc 4)<|zH pQ (zu<|.int 10)<|zu<|.int 30)<|zu<|.int 48271)<|zH yV (zH yV (zu<|.int 7)<|zc 1)<|zc 1)<|zH yV (zu<|.int 13)<|zc 1)<|zu<|.int 5)<|zu<|.int 2147483647)<|zu<|.int 69621)<|zu<|.int 1000000007
noncomputable def JD:=jf 5<|zP (jD 3<|jU<|zS (YB (dn (zg 0)<|zu<|.int 2)<|dn (zg 2)<|zu<|.int 2) (.tp [0,1]) 2 [] jj (zH qC (zc 0)<|zc 1))<|zP (jD 4<|jU<|zS (zN<|zA<|dn (zg 1)<|zu<|.int 2) (.nm 0) 1 [0] jj (zH qC (zH yV (qM<|zb (zu<|.int 0) zF)<|dn (zg 1)<|zu<|.int 1)<|zc 0))<|jK<|qM<|zb (zH qC (dn (zg 0)<|zu<|.int 0)<|dn (zg 1)<|zu<|.int 0)<|zb (zH qC (dn (zg 0)<|zu<|.int 1)<|dn (zg 1)<|zu<|.int 1)<|zb (je<|zA<|jU<|Kq (zg 3)<|zg 4) zF
noncomputable def fi:=jf 2<|jK<|zE JZ<|zb (dn (zg 0)<|zu<|.int 0)<|zb (dn (zg 1)<|zu<|.int 1) zF
noncomputable def wJ:=jf 2<|jK<|zE JD<|zb (zc 0)<|zb (zc 1)<|zb (zE fi<|zb (zc 0)<|zb (zc 1) zF) zF
noncomputable def lR:=jf 3<|yZ<|jl qG<|zb (zc 0)<|zb (dn (zg 1)<|zu<|.int 0)<|zb (jU<|zS (zN<|zg 2) (.nm 0) 1 [0,1] jj (zE Vm<|zb (zc 1)<|zb (zc 2)<|zb (zc 0) zF)) zF
noncomputable def AC:=jf 6<|zP (jD 3<|zE j6<|zb (dn (zA<|dn (zg 0)<|zu<|.int 1)<|zc 1) zF)<|zP (xn 4<|zS (zN<|zA<|dn (zg 3)<|zu<|.int 2) (.nm 0) 1 [] jj (zH qC (zc 0)<|zc 0))<|zP (yP (zN<|zA<|au (dn (zg 0)<|zu<|.int 2) (ri<|zc 1)<|ri<|zc 2) (.nm 5)<|gj 4<|xn 4<|sU lR xf<|zb (dn (zg 0)<|zu<|.int 0)<|zb (dn (zg 5)<|zu<|.int 0)<|zb (zE wJ<|zb (zc 3)<|zb (dn (zg 5)<|zu<|.int 1) zF)<|zb (zc 4) zF)<|JP 4
noncomputable def wX:=jf 3 (zP (h6 (sB (zH ix (dn (zg 1) (zu (.int 0))) (dn (zg 2) (zu (.int 0))))) (jK (zu (.bl di))) jT) (jK (zH ix (ye (zc 0) (zH JY (nZ (dn (zg 1) (zu (.int 0))) (dn (zg 2) (zu (.int 0)))) (zu (.int 1)))) (bo (sB (zH t7 (dn (zg 1) (zu (.int 0))) (dn (zg 2) (zu (.int 0))))) (zu (.str "l")) (zu (.str "r"))))))
noncomputable def vU:=jf 3 (zP (h6 (sB (zH ix (dn (zg 1) (zu (.int 1))) (dn (zg 2) (zu (.int 1))))) (jK (zu (.bl di))) jT) (jK (zH ix (ye (zc 0) (gh (dn (zg 1) (zu (.int 1))) (dn (zg 2) (zu (.int 1))))) (bo (sB (zH C3 (dn (zg 1) (zu (.int 1))) (dn (zg 2) (zu (.int 1))))) (zu (.str "r")) (zu (.str "l"))))))
noncomputable def QR:=jf 3<|zP (h6 (sB<|zH C3 (nZ (dn (zg 1)<|zu<|.int 0)<|dn (zg 2)<|zu<|.int 0)<|gh (dn (zg 1)<|zu<|.int 1)<|dn (zg 2)<|zu<|.int 1) (jK<|zu<|.int 0) jT)<|jK<|bo (oi (sB<|zE wX<|zb (zc 0)<|zb (zc 1)<|zb (zc 2) zF)<|sB<|zE vU<|zb (zc 0)<|zb (zc 1)<|zb (zc 2) zF) (zu<|.int 1)<|zu<|.int 0
noncomputable def qv:=jf 2 (zP (h6 (sB (zH ix (ye (zc 0) (zc 1)) (zu (.str "r")))) (jK (qM (zb (zc 1) (zb (zH qC (zc 1) (zu (.int 1))) zF)))) jT) (jK (qM (zb (zH qC (zc 1) (zu (.int 1))) (zb (zc 1) zF)))))
noncomputable def qU:=jf 8<|zP (xn 4<|qP zF)<|zP (yP (zR<|zc 2) (.nm 5)<|zP (jD 6<|zE jr<|zb (zc 0)<|zb (zH qC (zc 1)<|zc 5) zF)<|zP (jD 7<|zH ya (zc 6)<|zc 3)<|qi 4<|qM<|zb (zc 7)<|zb (zH qC (zc 7)<|zH ya (zH X3 (zc 6)<|zc 3)<|zH JY (zc 3)<|zc 7) zF)<|yZ<|bc<|zg 4
noncomputable def xj:=jf 2 (jK (og (zu (.str "")) (jP (zS (zR (zH JY (zc 1) (zu (.int 1)))) (.nm 0) 1 [0] jj (ye (zu (.str "rl")) (zH ya (zH X3 (zc 1) (dn (jP (qP (zb (zu (.int 1)) (zb (zu (.int 2)) (zb (zu (.int 4)) (zb (zu (.int 8)) (zb (zu (.int 16)) zF))))))) (zc 0))) (zu (.int 2))))))))
noncomputable def yY:=jf 3<|zP (xn 1<|qP zF)<|zP (yP (zR<|zc 0) (.nm 2)<|bq 1<|zS (Xe (zc 2)<|zc 0) (.nm 0) 1 [2] jj (qM<|zb (zc 1)<|zb (zc 0) zF))<|JP 1
noncomputable def qV:=jf 10<|zP (w6 (.tp [3,4])<|zc 2)<|zP (xn 5<|qP zF)<|zP (yP (zR<|k8<|zc 1) (.nm 6)<|zP (w6 (.tp [7,8])<|zE qv<|zb (zc 1)<|zb (zc 6) zF)<|zP (jD 9<|je<|jP<|zS (zN<|zA<|dn (zg 4)<|zc 6) (.nm 0) 1 [] jj (je<|zg 0))<|qi 5<|qM<|zb (ye (zc 1)<|zc 6)<|zb (qM<|zb (dn (zg 3)<|zc 8)<|zb (dn (zg 3)<|zc 7)<|zb (zc 9) zF) zF)<|jK<|qM<|zb (zc 0)<|zb (je<|zg 3)<|zb (je<|zg 5) zF
noncomputable def j5:=jf 5<|zP (h6 (wN (jY<|sB<|m8 .tuple<|zc 0)<|wN (sB<|zH hL (xP<|zg 0)<|zu<|.int 3)<|wN (jY<|sB<|zE jB<|zb (dn (zg 0)<|zu<|.int 0) zF)<|jY<|sB<|zE jB<|zb (dn (zg 0)<|zu<|.int 1) zF) (jK<|zu<|.bl ed) jT)<|zP (h6 (wN (sB<|zH hL (dn (zg 0)<|zu<|.int 0)<|zc 2)<|wN (sB<|zH hL (dn (zg 0)<|zu<|.int 1)<|zc 3)<|wN (jY<|sB<|m8 .tuple<|dn (zg 0)<|zu<|.int 2)<|sB<|zH hL (xP<|zA<|dn (zg 0)<|zu<|.int 2)<|zc 2) (jK<|zu<|.bl ed) jT)<|zP (yP (zN<|zA<|dn (zg 0)<|zu<|.int 2) (.nm 4)<|zP (h6 (wN (jY<|sB<|m8 .tuple<|zc 4)<|sB<|zH hL (xP<|zg 4)<|zc 3) (jK<|zu<|.bl ed) jT)<|h6 (jY<|sB<|fw<|jP<|zS (zN<|zg 4) (.nm 0) 1 [1] jj (aw (zE jB<|zb (zc 0) zF)<|kf o6 t7 (zu<|.int 0) (zc 0)<|zc 1)) (jK<|zu<|.bl ed) jT)<|jK<|zu<|.bl di
noncomputable def js:=jf 4<|zP (h6 (wN (jY<|sB<|m8 .list<|zc 0)<|sB<|zH hL (xP<|zg 0)<|xP<|zg 2) (jK<|zu<|.bl ed) jT)<|jK<|fw<|jP<|zS (zR<|xP<|zg 2) (.nm 0) 1 [0,1,2,3] jj (zE j5<|zb (dn (zg 1)<|zc 0)<|zb (zc 2)<|zb (dn (zg 3)<|zc 0)<|zb (dn (zg 4)<|zc 0) zF)
noncomputable def jS:=jf 1<|jK<|qM<|zb (dn (zg 0)<|zu<|.int 0)<|zb (zH JY (zH qC (dn (zg 0)<|zu<|.int 0)<|xP<|zA<|dn (zg 0)<|zu<|.int 1)<|zu<|.int 1) zF
noncomputable def jN:=jf 2<|jK<|kf o6 t7 (dn (zg 0)<|zu<|.int 0) (zc 1)<|zH qC (dn (zg 0)<|zu<|.int 0)<|xP<|zA<|dn (zg 0)<|zu<|.int 1
noncomputable def qL:=jf 2<|yZ<|zS (zN<|zg 0) (.nm 0) 1 [1] (sB<|zE jN<|zb (zc 0)<|zb (zc 1) zF) (dn (zA<|dn (zg 0)<|zu<|.int 1)<|zH JY (zc 1)<|dn (zg 0)<|zu<|.int 0)
noncomputable def xK:=jf 2<|jK<|zE qa<|zb (qM<|zb (xP<|zg 1)<|zb (zc 0)<|zb (je<|zg 1) zF) zF
noncomputable def xY:=jf 5<|zP (jD 4<|jU<|zS (YB (zc 2)<|zc 1) (.tp [0,1]) 2 [3] (sB<|zE jN<|zb (zc 1)<|zb (zc 2) zF) (zc 0))<|jK<|zE Vm<|zb (dn (zg 0)<|zu<|.int 0)<|zb (zE xK<|zb (dn (zA<|dn (zg 0)<|zu<|.int 1)<|zc 3)<|zb (jU<|jl qL<|zb (zc 1)<|zb (zc 3) zF) zF)<|zb (zc 4) zF
noncomputable def XX:=jf 5<|zP (jD 3<|dn (zg 1)<|zE qE<|zb (zc 2) zF)<|zP (jD 4<|jU<|zS (zR<|xP<|zA<|dn (zg 3)<|zu<|.int 1) (.nm 0) 1 [0,1,2,3] jj (zE xY<|zb (zc 1)<|zb (zc 2)<|zb (zc 3)<|zb (zH qC (dn (zg 4)<|zu<|.int 0)<|zc 0) zF))<|jK<|qM<|zb (dn (zg 3)<|zu<|.int 0)<|zb (je<|zg 4) zF
noncomputable def OF:=(jD 3<|dn (zA<|dn (zA<|dn (zg 0)<|zu<|.int 2)<|zc 1)<|zu<|.int 0)
noncomputable def OG:=(jD 4<|dn (zA<|dn (zA<|dn (zg 0)<|zu<|.int 2)<|zc 1)<|zu<|.int 1)
noncomputable def I0:=(jD 5 (bo (sB (zH ix (zc 3) (zu (.str "r")))) (jU (jl yO (zb (dn (zg 0) (zu (.int 0))) (zb (zc 4) zF)))) (jU (jl wK (zb (dn (zg 0) (zu (.int 0))) (zb (zc 4) zF))))))
noncomputable def OH:=(jD 6<|jU<|jl xf<|zb (dn (zg 0)<|zu<|.int 0)<|zb (zE xK<|zb (dn (zA<|dn (zg 0)<|zu<|.int 1)<|zc 1)<|zb (jU<|jl qL<|zb (zc 2)<|zb (zc 1) zF) zF)<|zb (zc 5) zF)
noncomputable def OI:=(jD 7<|ma<|zS (zN<|zg 6) (.nm 0) 1 [] jj (qM<|zb (zE qE<|zb (zc 0) zF)<|zb (zc 0) zF))
noncomputable def OJ:=(yZ<|zS (lZ<|zc 2) (.tp [0,1]) 2 [0,2,7] jj (bo (sB<|sT (zc 0)<|zc 4) (zE XX<|zb (zc 2)<|zb (zc 3)<|zb (AL (zc 4)<|zc 0) zF)<|zc 1))
noncomputable def vT:=jf 8<|zP OF<|zP OG<|zP I0<|zP OH<|zP OI OJ
noncomputable def DO:=(h6 (sB (zH ix (dn (zg 1) (zu (.int 0))) (zu (.str "l")))) (jK (zE yN (zb (zc 0) (zb (dn (zg 1) (zu (.int 1))) (zb (zc 2) zF))))) jT)
noncomputable def G8:=(jD 3<|zE Vm<|zb (zc 0)<|zb (dn (zg 1)<|zu<|.int 1)<|zb (zc 2) zF)
noncomputable def G9:=(jK<|bo (sB<|rK<|zg 3) (zc 3)<|zu .eX)
noncomputable def xc:=jf 4<|zP DO<|zP G8 G9
noncomputable def OR:=(jD 3<|zE xc<|zb (zc 0)<|zb (zc 1)<|zb (dn (zA<|dn (zg 2)<|zu<|.int 1)<|sO<|zu<|.int 1) zF)
noncomputable def L1:=(jK<|bo (sB<|zH Ak (zc 3)<|zu .eX) (zc 2)<|qM<|zb (dn (zg 2)<|zu<|.int 0)<|zb (zH qC (dn (zg 2)<|zu<|.int 1)<|qM<|zb (zc 3) zF) zF)
noncomputable def kz:=jf 4<|zP OR L1
noncomputable def En:=(h6 (sB (zH ix (dn (zg 1) (zu (.int 0))) (zu (.str "l")))) (yZ (jl yO (zb (zc 0) (zb (dn (zg 1) (zu (.int 1))) zF)))) jT)
noncomputable def OA:=(jD 2<|jU<|zS (zN<|jP<|jl wK<|zb (zc 0)<|zb (dn (zg 1)<|zu<|.int 1) zF) (.nm 0) 1 [] jj (zE qE<|zb (zc 0) zF))
noncomputable def OB:=(yZ<|zS (gk<|dn (zA<|zE j6<|zb (dn (zA<|dn (zg 1)<|zu<|.int 1)<|zu<|.int 0) zF)<|zu<|.int 2) (.tp [0,1]) 2 [2] (sB<|Xf (zc 0)<|zg 2) (zc 1))
noncomputable def kT:=jf 3<|zP En<|zP OA OB
noncomputable def Oi:=(jD 3<|dn (zg 0)<|zu<|.int 0)
noncomputable def Oj:=(jD 4<|dn (zA<|dn (zg 0)<|zu<|.int 2)<|zc 1)
noncomputable def Ol:=(jD 5<|jU<|zS (zN<|zg 2) (.nm 0) 1 [1] (jY<|sB<|zE jN<|zb (zc 0)<|zb (zc 1) zF) (zc 0))
noncomputable def Om:=(jD 6<|jU<|jl vT<|zb (zc 0)<|zb (zc 1)<|zb (jU<|zS (zN<|zg 2) (.nm 0) 1 [1] (sB<|zE jN<|zb (zc 0)<|zb (zc 1) zF) (zc 0)) zF)
noncomputable def Oo:=(jD 7<|jU<|zS (zN<|zg 6) (.nm 0) 1 [3,4] jj (zE kz<|zb (zc 1)<|zb (zc 2)<|zb (zc 0) zF))
noncomputable def Oq:=(jD 8<|jU<|zS (zN<|jP<|jl kT<|zb (zc 3)<|zb (zc 4) zF) (.nm 0) 1 [1] jj (qM<|zb (zH qC (zc 1)<|zu<|.int 1)<|zb (qM<|zb (zc 0) zF) zF))
noncomputable def Gx:=(jK (jU (Kq (zg 5) (zA (bo (sB (zH ix (dn (zg 4) (zu (.int 0))) (zu (.str "r")))) (jU (Kq (zg 8) (zg 7))) (jU (Kq (zg 7) (zg 8))))))))
noncomputable def JH:=jf 9<|zP Oi<|zP Oj<|zP Ol<|zP Om<|zP Oo<|zP Oq Gx
noncomputable def F4:=(jD 1<|jU<|zS (zN<|zA<|dn (zA<|zE j6<|zb (dn (zA<|dn (zg 0)<|zu<|.int 1)<|zu<|.int 0) zF)<|zu<|.int 2) (.nm 0) 1 [] jj (qM<|zb (zu<|.int 0)<|zb (qM<|zb (zc 0) zF) zF))
noncomputable def N5:=(yP (zR<|xP<|zA<|dn (zg 0)<|zu<|.int 2) (.nm 2)<|jD 1<|zE JH<|zb (zc 0)<|zb (zc 2)<|zb (zc 1) zF)
noncomputable def N6:=(yZ<|bh jS<|zg 1)
noncomputable def kX:=jf 3<|zP F4<|zP N5 N6
noncomputable def N7:=(jD 1<|jU<|jl kX<|zb (zc 0) zF)
noncomputable def N8:=(jD 2<|jU<|zS (gk<|dn (zg 0)<|zu<|.int 1) (.tp [0,1]) 2 [1] jj (zE xK<|zb (zc 1)<|zb (jU<|jl qL<|zb (zc 2)<|zb (zc 0) zF) zF))
noncomputable def N9:=(jD 3<|jU<|zS (zN<|zg 2) (.nm 0) 1 [0] jj (zE xM<|zb (dn (zg 1)<|zu<|.int 0)<|zb (zc 0) zF))
noncomputable def Oc:=(jK<|qM<|zb (jU<|zS (zN<|zg 1) (.nm 0) 1 [] jj (zE jS<|zb (zc 0) zF))<|zb (zc 3)<|zb (zc 2) zF)
noncomputable def xZ:=jf 4<|zP N7<|zP N8<|zP N9 Oc
noncomputable def AD:=jf 7<|zP (jD 3<|jU<|jl AC<|zb (zc 0)<|zb (zc 1)<|zb (zc 2) zF)<|zP (jD 4<|dn (zA<|dn (zg 0)<|zu<|.int 1)<|zc 1)<|zP (jD 5<|dn (zA<|dn (zg 0)<|zu<|.int 1)<|zc 2)<|zP (jD 6<|jU<|jl qG<|zb (dn (zg 0)<|zu<|.int 0)<|zb (zH qC (zc 5)<|zc 4)<|zb (jU<|zS (zN<|zg 3) (.nm 0) 1 [4] jj (zH qC (au (zc 0) (ri<|zc 1) av)<|au (zc 0) av<|ri<|zc 1)) zF)<|jK<|zH JY (zH JY (xP<|zg 3)<|xP<|jP<|jl jO<|zb (zc 5)<|zb (zc 6) zF)<|xP<|jP<|jl jO<|zb (zc 4)<|zb (zc 3) zF
noncomputable def vj:=jf 3<|jK<|sM<|jP<|zS (zN<|zg 1) (.nm 0) 1 [0,2] jj (zE QR<|zb (zc 1)<|zb (zc 0)<|zb (zc 2) zF)
noncomputable def eB:CO (List D):=zS (zR<|xP<|zg 1) (.nm 0) 1 [1,3] (sB<|kf o6 o6 (dn (zA<|dn (zg 1)<|zc 0)<|zu<|.int 0) (zc 2)<|dn (zA<|dn (zg 1)<|zc 0)<|zu<|.int 1) (zc 0)
noncomputable def pZ:CO D:=jU<|zS (zN<|zA<|dn (zg 1)<|zc 2) (.nm 0) 1 [0] jj (JQ<|zH ix (zc 1)<|zc 0)
noncomputable def rf:CO (List D):=zS (zN<|zA<|dn (zg 2)<|zc 7) (.nm 0) 1 [2,6] jj pZ
noncomputable def lH:=zP (w6 (.tp [6,7])<|zE qv<|zb (zc 0)<|zb (zc 5) zF)<|qi 4<|jU rf
noncomputable def rh:=gj 4<|jK<|qM<|zb (jU<|zS (zN<|zg 2) (.nm 0) 1 [] jj (xP<|zg 0))<|zb (zc 4) zF
noncomputable def qg:=jf 8<|zP (xn 2<|qP zF)<|zP (yP (zR<|zH qC (k8<|zc 0)<|zu<|.int 1) (.nm 3)<|qi 2<|jU eB)<|zP (gj 2<|xn 4<|qP zF)<|zP (yP (zR<|k8<|zc 0) (.nm 5) lH) rh
noncomputable def aK:CO (List D):=zS (zR<|xP<|zg 3) (.nm 0) 1 [0,2,3] jj (zH yV (dn (zg 3)<|zc 0)<|dn (zA<|dn (zg 2)<|zc 0)<|zc 1)
noncomputable def JN:CO (List D):=zS (zR<|zc 3) (.nm 0) 1 [0,2,5] jj (zH ya (sM<|jP aK)<|zc 1)
noncomputable def zM:=jf 6<|zP (xn 4<|qP zF)<|zP (yP (zN<|zA<|zc 1) (.nm 5)<|qi 4<|jU JN)<|JP 4
noncomputable def L3:=(xn 4<|zS (zR<|zc 3) (.nm 0) 1 [3] jj (jU<|zS (zR<|zc 1) (.nm 0) 1 [0] jj (JQ<|zH ix (zc 1)<|zc 0)))
noncomputable def L4:=(gd 5<|VH (zR<|zc 3) (.nm 0) 1 [3] (zS (zR<|zc 1) (.nm 0) 1 [0] jj (JQ<|zH ix (zc 1)<|zc 0)))
noncomputable def BO:=zP (VG 4 (zc 8)<|jU<|zS (YB (dn (zg 4)<|zc 8)<|dn (zg 4)<|zc 9) (.tp [0,1]) 2 [2,10] jj (zH ya (zH qC (zc 0)<|zH yV (zc 3)<|zc 1)<|zc 2))<|bp 5 11 (zc 9)<|zH ya (zH JY (dn (zg 11)<|zc 9)<|zH yV (zc 10)<|dn (zg 11)<|zc 8)<|zc 2
noncomputable def ED:=zP (jD 7<|zE jr<|zb (zc 0)<|zb (zH qC (zc 1)<|zc 6) zF)<|zP (jD 8<|zH ya (zc 7)<|zc 3)<|zP (jD 9<|zH ya (zH qC (zH qC (zc 8)<|zu<|.int 1)<|zH ya (zH X3 (zc 7)<|zu<|.int 8)<|zH JY (zc 3)<|zu<|.int 1)<|zc 3)<|zP (jD 10<|zH ya (zH X3 (zc 7)<|zu<|.int 64)<|zc 2) BO
noncomputable def fU:=yP (zR<|zH JY (zH yV (zu<|.int 2)<|zc 3)<|zu<|.int 2) (.nm 6) ED
noncomputable def sA:=gi 5<|gj 4<|jK<|qM<|zb (zc 4)<|zb (zc 5) zF
noncomputable def qb:=jf 12<|zP L3<|zP L4<|zP fU sA
noncomputable def gp:=qi 7<|zE qb<|zb (zc 0)<|zb (zH qC (zc 1)<|zH yV (zu<|.int 9)<|zc 8)<|zb (zc 2)<|zb (dn (zg 5)<|zc 8) zF
noncomputable def sW:=jD 12<|jU<|jl zM<|zb (zc 2)<|zb (dn (zg 6)<|zc 8)<|zb (dn (zA<|dn (zg 7)<|zc 10)<|zu<|.int 1)<|zb (dn (zg 5)<|zc 10) zF
noncomputable def sV:=qi 9<|jU<|jl zM<|zb (zc 2)<|zb (dn (zA<|dn (zg 7)<|zc 11)<|zu<|.int 0)<|zb (zc 12)<|zb (dn (zg 5)<|zc 10) zF
noncomputable def gu:=zP (w6 (.tp [10,11])<|zE qv<|zb (zc 3)<|zb (zc 8) zF)<|zP sW sV
noncomputable def qr:=jf 13<|zP (w6 (.tp [5,6])<|zE qg<|zb (zc 3)<|zb (zc 4) zF)<|zP (xn 7<|qP zF)<|zP (yP (zR<|xP<|zg 5) (.nm 8) gp)<|zP (xn 9<|qP zF)<|zP (yP (zR<|k8<|zc 3) (.nm 8) gu)<|gj 9<|jK<|qM<|zb (zc 5)<|zb (zc 9) zF
abbrev p5(k:Sk)(xs:List D):D:=match k with | .T=>D.tup xs | .L=>D.lst xs
@[simp] theorem EW(k xs):z7 (p5 k xs)=bQ (k,xs):=by cases k<;>rfl
theorem QP(k:Sk)(f:Nat->Int)(z:0<p)(C:n<=lim) :
 xp [.int p,p5 k (zB n f)]=bQ (.val<|.tup<|zB n λi=>f i%p):=by
 simp[xp,jf,ja,z6,C,xQ];unfold zB;rw[zw (r:=λi=>D.int<|f i%p)]
 ·simp
 ·intro i a
  refine zx rfl rfl ?_;simp[z]
theorem ff(f:Nat->Int)(z:0<p)(C:n<=lim) :
 xp [.int p,.tup (zB n f)]=bQ (.val<|.tup<|zB n λi=>f i%p):=QP .T f z C
theorem JF(f:Nat->Int)(z:0<p)(C:n<=lim) :
 xp [.int p,.lst (zB n f)]=bQ (.val<|.tup<|zB n λi=>f i%p):=QP .L f z C
theorem XZ(k:Sk)(f:RK)(g:Nat->Int)(I:0<p)(z:h<=lim)(C:w<=lim)(O : ∀i j,i<h->j<w->0<=f i j/\f i j<100) :
 Vm [.int p,qk h w f,p5 k (zB w g)]=bQ (.val<|.tup<|zB h λi=>zk (λj=>f i j*g j) w%p):=by
 simp[Vm,jf,ja,z6,z,xQ,qk,GO];unfold zX;rw[zw (r:=λi=>D.int<|zk (λj=>f i j*g j) w)]
 ·simp
  rw[show(List.map (λi=>D.int<|zk (λj=>f i j*g j) w)<|GH h)=zB h λi=>zk (λj=>f i j*g j) w from rfl,JF _ I z];rfl
 ·intro i a
  refine zx rfl rfl ?_;simp[z6,QT,C];rw[zw (r:=λj=>D.int<|f i j*g j)]
  ·simp
   rw[show(List.map (λj=>D.int<|f i j*g j)<|GH w)=zB w λj=>f i j*g j from rfl,vo]
  ·intro j U
   refine zx rfl rfl ?_;have:=O i j (eY.mp a)<|eY.mp U;simp[yW (f i j) (g j) ⋯ ⋯]
theorem yA(f:RK)(z:h<=lim)(C:w<=lim):qa [qk h w f]=bQ (.val<|qk w h λi j=>f j i):=by
 simp[qa,jf,ja,z6,z,C,xQ,qk,GO,jR,jy];rw[zW w λi=>(i:Int)];rw[zw (r:=λj=>D.tup<|zB h λi=>f i j)]
 ·simp
  rfl
 ·intro j I
  refine zx rfl rfl ?_;simp[z6,z,xQ];unfold zX;rw[zw (r:=λi=>D.int<|f i j)]
  ·simp
   rfl
  ·intro i b
   refine zx rfl rfl ?_;have a:=eY.mp I;simp[a,xU _ a]
theorem Yv{p:Int}{h m w:Nat}(f g:RK)(z:0<p)(I:h<=lim)(C:m<=lim)(J:w<=lim)(O : ∀i j,i<m->j<w->0<=g i j/\g i j<100) :
 xJ [.int p,qk h m f,qk m w g]=bQ (.val<|qk h w λi j=>zk (λk=>g k j*f i k) m%p):=by
 simp[xJ,jf,ja,jR,yA g C J];simp[z6,I,C,J,xQ,qk];rw[show zX h m f=(GH h).map λi=>D.tup (zB m<|f i)from rfl];rw[zw (r:=λi=>D.tup<|zB w λj=>zk (λk=>g k j*f i k) m%p)]
 ·simp
  rfl
 ·intro i l
  refine zx rfl rfl ?_;have e:=XZ .T (λi j=>g j i) (f i) z J C<|λa b d U=>O b a U d;simp[qk]at e ⊢;rw[e];simp
theorem yz(C:n<=lim):j6 [.int n]=bQ (.val<|qk n n λi j=>if i=j then 1 else 0):=by
 simp[j6,jf,ja,jR,C,z6,xQ,GO,jy];rw[zW n λi=>(i:Int)];rw[zw (r:=λi=>D.tup<|zB n λj=>if i=j then 1 else 0)]
 ·simp
  rfl
 ·intro i a
  refine zx rfl rfl ?_;simp[C,z6,GO,jy,xQ];rw[zW n λi=>(i:Int)];rw[zw (r:=λj=>D.int<|if i=j then 1 else 0)]
  ·simp
   rfl
  ·intro j z
   refine zx rfl rfl ?_;simp;by_cases e:i=j
   ·simp[e]
   ·rw[EQ ⋯,EQ e]
theorem bA(d:D)(w:Nat):GO w d=(GH w).map λ_=>d:=by
 induction w with
 | zero=>rfl
 | succ n z=>rw[List.replicate_succ',z,IW,Ih];simp
noncomputable def X0(C:List Int):D:= .lst (C.map D.int)
mutual
theorem Of : ∀d:D,i3 d d=di
 | .eX=>rfl
 | .bl b=>by simp[i3]
 | .int i=>by simp[i3]
 | .str x=>by simp[i3]
 | .tup e=>by simp only[i3];exact DI e
 | .lst e=>by simp only[i3];exact DI e
 | .lN a b=>by simp only[i3];rw[DI a,DI b];rfl
 | .i7 a b=>by simp only[i3];rw[DI b];simp
theorem DI : ∀ds:List D,sx ds ds=di
 | []=>rfl
 | d::ds=>by simp only[sx,Of d,DI ds,Bool.and_self]
end
theorem yK : ∀{l:List D} {n:Nat},(∀d∈l,deep d<=n)->ra l<=n
 | [],n,_=>HX n
 | d::ds,n,h=>by simp only[ra];exact Nat.max_le.mpr ⟨h d Ha,yK λe z=>h e<|GX _ z⟩
theorem lr(n f):deep (.tup<|zB n f)<=1:=by
 simp only[deep];have:ra (zB n f)<=0:=yK λd a=>by simp[zB]at a;obtain⟨i,_,rfl⟩:=a;exact GQ _
 omega
theorem lx(h w f):deep (.tup<|zX h w f)<=2:=by
 simp only[deep];have:ra (zX h w f)<=1:=yK λd a=>by simp[zX]at a;obtain⟨i,_,rfl⟩:=a;exact lr _ _
 omega
theorem wt : ∀{l:List D},(∀d∈l,i0 d=di)->n9 l=di
 | [],_=>rfl
 | d::ds,h=>by simp only[n9,h d Ha,wt λe z=>h e<|GX _ z,Bool.and_self]
theorem VW(h:deep d<=n)(I:n<=20)(C:i0 d=di):md d=di:=by unfold md;rw[C,Bool.and_true];exact decide_eq_true<|Ia h I
theorem pb(n f):i0 (.tup<|zB n f)=di:=by
 simp only[i0];exact wt λd a=>by simp[zB]at a;obtain⟨i,_,rfl⟩:=a;rfl
theorem pd(h w f):i0 (.tup<|zX h w f)=di:=by
 simp only[i0];exact wt λd a=>by simp[zX]at a;obtain⟨i,_,rfl⟩:=a;exact pb _ _
theorem xV{d:D}(h:md d=di):hL d d=bQ (.bl ed):=by unfold hL;rw[RY ⟨h,h⟩,Of];rfl
theorem vi(i:Int):jB [.int i]=bQ (.val<|.bl di):=by simp[jB,jf,ja,az]
theorem Kb{C:Type}(l:List C):ZJ (l.map λ_=>D.bl di)=bQ (l.map λ_=>di):=by
 induction l with
 | nil=>rfl
 | cons a l z=>simp[ZJ,AG,z]
theorem Wr{C:Type}(l:List C):((l.map λ_=>di).all id)=di:=by
 induction l with
 | nil=>rfl
 | cons a l z=>simp[z]
theorem QA(k:Int)(z:0<k) : ∃n:Nat,m%k=n/\(n:Int)<k:=by have a:=Hw m (show k≠0 by omega);have d:=Hh m z;obtain⟨n,b⟩:=Lm a;exact⟨n,b,by omega⟩
noncomputable def ji(b:Bool):Nat:=if b then 108 else 114
noncomputable def vW(c:Nat):Str:=⟨#[c]⟩
theorem QD : ∀(l:List Nat),(NW "" (l.map vW)).cps.toList=l
 | []=>rfl
 | [c]=>rfl
 | c::d::l=>by
  have z:=QD (d::l);show((vW c++("" : Str))++NW "" ((d::l).map vW)).cps.toList=_;have e : ∀a b:Str,(a++b).cps.toList=a.cps.toList++b.cps.toList:=λa b=>by show(a.cps++b.cps).toList=_;simp
  rw[e,e,z];rfl
noncomputable def xN(m:Nat)(w:RX):Str:=NW "" ((GH m).map λk=>vW (ji (w k)))
theorem ke(m w):(xN m w).cps.toList=(GH m).map λk=>ji (w k):=by have:=QD<|(GH m).map λk=>ji<|w k;rw[HD]at this;exact this
theorem vk(m w):(xN m w).length=m:=by show(xN m w).cps.size=m;rw[<- Im,ke];simp
theorem kc{m:Nat}(w)(C:m<=1000):jV (xN m w)=di:=decide_eq_true (by rw[vk];exact C)
theorem Xb{C:Type}(g:C->Str) : ∀l:List C,Kh (l.map λx=>D.str<|g x)=bQ (l.map g)
 | []=>rfl
 | a::l=>by simp[Kh,Xb g l]
noncomputable def h8(w:RX)(wd:RZ)(k:Nat):Nat:=if w k then wd k else wd (k+1)
noncomputable def h9(w:RX)(wd:RZ)(k:Nat):Nat:=if w k then wd (k+1)else wd k
noncomputable def vX(w:RX)(wd:RZ)(T:RV)(k:Nat):D:= .tup [.str (vW<|ji<|w k),qk (h8 w wd k) (h9 w wd k) (T k)]
noncomputable def ku(m:Nat)(w:RX)(wd:RZ)(T:RV):List D:=(GH m).map (vX w wd T)
noncomputable def qW(p:Int)(m:Nat)(w:RX)(wd:RZ)(T:RV):D:= .tup [.int p,.tup<|zB (m+1) λk=>(wd k:Int),.tup (ku m w wd T)]
@[simp] theorem Ys(m w wd T):(ku m w wd T).length=m:=by simp[ku]
theorem Ki{m k:Nat}(w)(C:m<=1000)(z:k<m)(γ:Ctx)(f g:CO D)(I:f γ=bQ (.str<|xN m w))(O:g γ=bQ (.int k)):ye f g γ=bQ (.str<|vW<|ji<|w k):=by rw[XS,I,O];simp only[GV,yw];rw[RY (kc w C),ke];simp[z,vW]
theorem uF(b:Bool):md (.str<|vW<|ji b)=di:=by cases b<;>decide +kernel
theorem pJ(b:Bool):ix (.str (vW (ji b))) (.str "r")=bQ (.bl (!b)):=by
 have e : ∀b:Bool,(vW (ji b)==(HU "r")) = !b:=by decide +kernel
 have z:md (.str (HU "r"))=di:=by decide +kernel
 unfold ix;rw[RY ⟨uF b,z⟩];show bQ (D.bl (vW (ji b)==HU "r"))=_;rw[e]
theorem zy : ∀{n:Nat},(∀k,k<n->f k=g k)->zk f n=zk g n
 | 0,_=>rfl
 | n+1,h=>by simp only[zk];rw[zy (n:=n) λk z=>h k ⋯,h n ⋯]
theorem zT(n:Nat):zk (λ_=>0) n=0:=by
 induction n with
 | zero=>rfl
 | succ n z=>simp[zk,z]
theorem zQ(C:i<n)(h : ∀k,k<n->k≠i->f k=0):zk f n=f i:=by
 induction n with
 | zero=>omega
 | succ n z=>
  simp only[zk];by_cases e:i=n
  ·subst e
   rw[zy (g:=λ_=>0) (λk I=>h k ⋯ ⋯),zT];omega
  ·rw[z ⋯ λk I=>h k ⋯,h n ⋯ ⋯]
   omega
theorem jv(f g:Nat->Int)(n:Nat):zk (λk=>f k+g k) n=zk f n+zk g n:=by
 induction n with
 | zero=>rfl
 | succ n z=>simp only[zk,z];omega
theorem qJ(f:Nat->Int)(c:Int)(n:Nat):zk (λk=>f k*c) n=zk f n*c:=by
 induction n with
 | zero=>simp[zk]
 | succ n z=>simp only[zk,z,MW]
theorem jo(f:Nat->Int)(c:Int)(n:Nat):zk (λk=>c*f k) n=c*zk f n:=by
 induction n with
 | zero=>simp[zk]
 | succ n z=>simp only[zk,z,LQ]
theorem qI(f:RK)(n m:Nat):zk (λi=>zk (λj=>f i j) m) n=zk (λj=>zk (λi=>f i j) n) m:=by
 induction n with
 | zero=>simp[zk,zT]
 | succ n z=>simp only[zk];rw[z,<- jv]
theorem zK : ∀{n:Nat},(∀k,k<n->f k%p=g k%p)->zk f n%p=zk g n%p
 | 0,_=>rfl
 | n+1,h=>by simp only[zk];rw[HI,zK (n:=n)<|λk z=>h k ⋯,h n ⋯,<- HI]
theorem cJ(p x y:Int):(x%p*y)%p=(x*y)%p:=by rw[GR,Hn,<- GR]
theorem vD(p x y:Int):(x*(y%p))%p=(x*y)%p:=by rw[GR,Hn,<- GR]
theorem Ke(p:Int)(a b c:RK)(m w i j:Nat) :
 zk (λk=>a i k*(zk (λl=>b k l*c l j) w%p)) m%p=zk (λl=>(zk (λk=>a i k*b k l) m%p)*c l j) w%p:=by
 rw[zK (g:=λk=>zk (λl=>a i k*(b k l*c l j)) w) (λk _=>by rw[vD,jo]),
  zK (f:=λl=>(zk (λk=>a i k*b k l) m%p)*c l j) (g:=λl=>zk (λk=>a i k*(b k l*c l j)) m) (λl _=>by rw[cJ,<- qJ];exact congrArg (· % p)<|zy λk _=>Ir _ _ _),qI]
abbrev Vc:=Nat->Int
noncomputable def Pr(p:Int):Prop:=p=2\/p=3\/p=5\/p=7
theorem Pr.pos(h:Pr p):0<p:=by unfold Pr at h;omega
theorem Pr.two(h:Pr p):2<=p:=by unfold Pr at h;omega
theorem Pr.le(h:Pr p):p<=7:=by unfold Pr at h;omega
theorem Pr.one(h:Pr p):(1:Int)%p=1:=HE ⋯ (by have:=h.two;omega)
inductive Span(p:Int)(n:Nat)(G:Vc->Prop):Vc->Prop where
 | zero {v:Vc}:(∀i,i<n->v i%p=0)->Span p n G v
 | step {v w g:Vc} {c:Int}:G g->Span p n G w->(∀i,i<n->v i%p=(w i+c*g i)%p)->Span p n G v
section
variable{p:Int}{n:Nat}{G G':Vc->Prop}
theorem Span.congr(h:Span p n G v)(e : ∀i,i<n->v' i%p=v i%p):Span p n G v':=by
 cases h with
 | zero h=>exact .zero λi a=>by rw[e i a,h i a]
 | step z b h=>exact .step z b λi a=>by rw[e i a,h i a]
theorem Span.gen(h:G g):Span p n G g:= .step (c:=1) h (.zero (v:=λ_=>0) λi _=>by simp) λi _=>by simp
theorem Span.add(I:Span p n G v)(C:Span p n G w) : ∀c:Int,Span p n G λi=>w i+c*v i:=by
 induction I with
 | zero h=>
  intro c;refine C.congr λi a=>?_;rw[HI,GR,h i a];simp
 | @step v b g z O d h U=>
  intro c;refine .step (c:=c*z) O (U c) λi a=>?_;have e:(c*v i)%p=(c*(b i+z*g i))%p:=by rw[GR,h i a,<- GR]
  rw[HI,e,<- HI];congr 1;rw[LQ,<- Ir,Int.add_assoc]
theorem Span.smul(z:Span p n G v)(c:Int):Span p n G λi=>c*v i:=
 (z.add (w:=λ_=>0) (.zero λi _=>by simp) c).congr λi _=>by simp
theorem Span.le(h:Span p n G v)(z : ∀g,G g->Span p n G' g):Span p n G' v:=by
 induction h with
 | zero h=>exact .zero h
 | step I a h O=>exact((z _ I).add O _).congr h
end
structure hR(p:Int)(n r:Nat)(B:Nat->Vc)(l:RZ):Prop where
 lt : ∀k,k<r->l k<n
 mono : ∀k m,k<m->m<r->l k<l m
 one : ∀k,k<r->B k (l k)=1
 l5 : ∀k j,k<r->j<l k->B k j=0
 p6 : ∀k m,k<r->m<r->m≠k->B k (l m)=0
 lU : ∀k i,k<r->i<n->0<=B k i/\B k i<p
noncomputable def eF(r:Nat)(B:Nat->Vc):Vc->Prop:=λv=>∃k,k<r/\v=B k
section
variable{p:Int}{n r r':Nat}{B B':Nat->Vc}{l l':RZ}
theorem Zi(I:hR p n r B l)(h:Span p n (eF r B) v) : ∀i,i<n->v i%p=zk (λk=>v (l k)*B k i) r%p:=by
 induction h with
 | @zero v h=>
  intro i a;rw[h i a];have:zk (λk=>v (l k)*B k i) r%p=zk (λ_=>0) r%p:=zK λk z=>by rw[GR,h _ (I.lt k z)];simp
  rw[this,zT];rfl
 | @step v w g c O j h U=>
  intro i a;obtain⟨m,b,rfl⟩:=O;rw[h i a];have e:zk (λk=>v (l k)*B k i) r%p=zk (λk=>w (l k)*B k i+c*B m (l k)*B k i) r%p:=zK λk z=>by rw[GR,h _<|I.lt k z,<- GR,MW]
  have f:zk (λk=>c*B m (l k)*B k i) r=c*B m i:=by rw[zQ (i:=m) b λk z d=>by rw[I.p6 m k b z d];simp,I.one m b];simp
  rw[e,jv,f,HI,U i a,<- HI]
theorem YY(z:hR p n r B l)(h:Span p n (eF r B) v)(O:j<n)(U:v j%p≠0)(C : ∀i,i<j->v i%p=0) : ∃k,k<r/\l k=j:=by
 apply Ie;intro a;apply U;rw[Zi z h j O];have:zk (λk=>v (l k)*B k j) r%p=zk (λ_=>0) r%p:=zK λk I=>by
  have b:l k≠j:=λe=>a ⟨k,I,e⟩;rcases Hg (l k) j with q | q
  ·rw[GR,C _ q];simp
  ·rw[z.l5 k j I ⋯];simp
 rw[this,zT];rfl
theorem V5(O : ∀k m,k<m->m<r->l k<l m)(U : ∀k m,k<m->m<r'->l' k<l' m)(C : ∀k,k<r->∃m,m<r'/\l' m=l k)(J : ∀k,k<r'->∃m,m<r/\l m=l' k) :
 ∀k,k<r->k<r'/\l k=l' k:=by
 intro k
 induction k using Nat.strongRecOn with
 | ind k b=>
  intro a;obtain⟨m,d,em⟩:=C k a;have f:k<=m:=by
   rcases Hg m k with q | q
   ·have:=(b m q ⋯).2
    have:=O m k q a;omega
   ·exact q
  have I:k<r':=by omega
  refine⟨I,?_⟩;obtain⟨q,e,eq⟩:=J k I;have g:k<=q:=by
   rcases Hg q k with z | z
   ·have:=(b q z ⋯).2
    have:=U q k z I;omega
   ·exact z
  rcases Hg k m with z | z
  ·have h:=U k m z d
   have i:l k<=l q:=by
    rcases Hg k q with y | y
    ·exact Ng<|O k q y e
    ·have:k=q:=by omega
     subst this;exact GQ _
   omega
  ·have:m=k:=by omega
   subst this;exact em.symm
theorem Jw(L:Pr p)(I:hR p n r B l)(O:hR p n r' B' l')(C : ∀v,Span p n (eF r B) v->Span p n (eF r' B') v)(J : ∀v,Span p n (eF r' B') v->Span p n (eF r B) v) :
 r=r'/\(∀k,k<r->l k=l' k)/\∀k i,k<r->i<n->B k i=B' k i:=by
 have one:=L.one;have f : ∀k,k<r->∃m,m<r'/\l' m=l k:=λk z=>YY O (C _<|.gen ⟨k,z,rfl⟩) (I.lt k z) (by rw[I.one k z,one];decide) λi a=>by rw[I.l5 k i z a];simp
 have g : ∀k,k<r'->∃m,m<r/\l m=l' k:=λk z=>YY I (J _<|.gen ⟨k,z,rfl⟩) (O.lt k z) (by rw[O.one k z,one];decide) λi a=>by rw[O.l5 k i z a];simp
 have b:=V5 I.mono O.mono f g;have j:=V5 O.mono I.mono g f;have o:r=r':=by
  rcases Mg r r' with q | q | q
  ·exact absurd (j r q).1 (HM _)
  ·exact q
  ·exact absurd (b r' q).1 (HM _)
 subst o;refine⟨rfl,λk z=>(b k z).2,λk i z a=>?_⟩;have c:=Zi O (C _<|.gen ⟨k,z,rfl⟩) i a;rw[zQ (i:=k) z λm d h=>by rw[<- (b m d).2,I.p6 k m z d h];simp,<- (b k z).2,I.one k z,Int.one_mul]at c;have U:=I.lU k i z a;have e:=O.lU k i z a;rw[HE U.1 U.2,HE e.1 e.2]at c;exact c
end
theorem ju(q:α->Bool)(r:α->D) : ∀(l:List α),(∀x∈l,∃γ1,xA T (g x) γ=bQ γ1/\k γ1=bQ (q x)/\(q x=di->f γ1=bQ (r x)))->
 zU T k f γ (l.map g)=bQ ((l.filter q).map r)
 | [],_=>rfl
 | x::l,h=>by
  obtain⟨γ1,a,b,I⟩:=h x Ha;have z:=ju q r l λy O=>h y<|GX _ O;simp only[HC,zU,a,b,GV];cases e:q x with
  | true=>simp[I e,z,e]
  | false=>simp[z,e]
theorem uY(z:Pr p)(I:0<x)(C:x<p) : ∃y:Nat,1<=y/\(y:Int)<p/\(y:Int)*x%p=1:=by
 rcases z with rfl | rfl | rfl | rfl
 ·obtain rfl:x=1:=by omega
  exact⟨1,by decide,by decide,by decide⟩
 ·rcases (show x=1\/x=2 by omega)with rfl | rfl
  ·exact⟨1,by decide,by decide,by decide⟩
  ·exact⟨2,by decide,by decide,by decide⟩
 ·rcases (show x=1\/x=2\/x=3\/x=4 by omega)with rfl | rfl | rfl | rfl
  ·exact⟨1,by decide,by decide,by decide⟩
  ·exact⟨3,by decide,by decide,by decide⟩
  ·exact⟨2,by decide,by decide,by decide⟩
  ·exact⟨4,by decide,by decide,by decide⟩
 ·rcases (show x=1\/x=2\/x=3\/x=4\/x=5\/x=6 by omega)with rfl | rfl | rfl | rfl | rfl | rfl
  ·exact⟨1,by decide,by decide,by decide⟩
  ·exact⟨4,by decide,by decide,by decide⟩
  ·exact⟨5,by decide,by decide,by decide⟩
  ·exact⟨2,by decide,by decide,by decide⟩
  ·exact⟨3,by decide,by decide,by decide⟩
  ·exact⟨6,by decide,by decide,by decide⟩
theorem Yf{q:RX}{n a:Nat}{kh:List Nat}(h:(GH n).filter q=a::kh):a<n/\q a=di/\∀i,i<a->q i=ed:=by
 have b:a∈(GH n).filter q:=by rw[h];exact Ha
 refine⟨eY.mp (Hl.mp b).1,(Hl.mp b).2,λi f=>?_⟩;apply Ie;intro z;have I:q i=di:=by simpa using z
 have O:i∈a::kh:=by rw[<- h];exact Hl.mpr ⟨eY.mpr (by have:=eY.mp (Hl.mp b).1;omega),I⟩
 have d:(a::kh).Pairwise (· < ·):=by rw[<- h];exact MM _ Mc
 rcases GW.mp O with e | e
 ·omega
 ·have:=(List.pairwise_cons.mp d).1 i e;omega
theorem cF(h:(GH n).filter q=[]) : ∀i,i<n->q i=ed:=λi a=>by apply Ie;intro z;have:i∈(GH n).filter q:=Hl.mpr ⟨eY.mpr a,by simpa using z⟩;rw[h]at this;simp at this
theorem Yx(z:Pr p)(I:0<x)(C:x<p) : ∃y,vV [.int p,.int x]=bQ (.val<|.int y)/\1<=y/\y<p/\x*y%p=1:=by
 rcases z with rfl | rfl | rfl | rfl
 ·have:x=1:=by omega
  subst this;exact⟨1,rfl,by decide,by decide,by decide⟩
 ·have:x=1\/x=2:=by omega
  rcases this with rfl | rfl
  ·exact⟨1,rfl,by decide,by decide,by decide⟩
  ·exact⟨2,rfl,by decide,by decide,by decide⟩
 ·have:x=1\/x=2\/x=3\/x=4:=by omega
  rcases this with rfl | rfl | rfl | rfl
  ·exact⟨1,rfl,by decide,by decide,by decide⟩
  ·exact⟨3,rfl,by decide,by decide,by decide⟩
  ·exact⟨2,rfl,by decide,by decide,by decide⟩
  ·exact⟨4,rfl,by decide,by decide,by decide⟩
 ·have:x=1\/x=2\/x=3\/x=4\/x=5\/x=6:=by omega
  rcases this with rfl | rfl | rfl | rfl | rfl | rfl
  ·exact⟨1,rfl,by decide,by decide,by decide⟩
  ·exact⟨4,rfl,by decide,by decide,by decide⟩
  ·exact⟨5,rfl,by decide,by decide,by decide⟩
  ·exact⟨2,rfl,by decide,by decide,by decide⟩
  ·exact⟨3,rfl,by decide,by decide,by decide⟩
  ·exact⟨6,rfl,by decide,by decide,by decide⟩
theorem wZ(I:Pr p)(J:n<=lim)(z:t<n)(w P:Nat->Int)(C : ∀i,i<n->0<=w i/\w i<p) :
 qF [.int p,.tup<|zB n w,.tup<|zB n P,.int t]=bQ (.val<|.tup<|zB n λi=>(w i - w t*P i)%p):=by
 have b:=C t z;have d:=I.le;have U : ∀x,QN (w t) x=di:=λx=>yW _ _ ⋯ ⋯;by_cases O:w t=0
 ·simp[qF,jf,ja,jR,z,O]
  apply kP;intro i a;rw[HE (C i a).1 (C i a).2]
 ·simp[qF,jf,ja,jR,z,O,QT,J,z6,xQ,GO]
  rw[zw (r:=λi=>D.int<|w i - w t*P i)]
  ·rw[<- zW]
   simp[JF _ I.pos J]
  ·intro i a
   refine zx rfl rfl ?_;simp[U]
theorem YQ{l:RZ}{r t:Nat}(C : ∀k m,k<m->m<r->l k<l m)(z : ∀k,k<r->l k<t):r<=t:=by
 have a : ∀k,k<r->k<=l k:=by
  intro k
  induction k with
  | zero=>intro _;exact HX _
  | succ k I=>
   intro O;have b:=I ⋯;have d:=C k (k+1) ⋯ O;omega
 cases r with
 | zero=>exact HX _
 | succ r=>
  have b:=a r ⋯;have d:=z r ⋯;omega
noncomputable def Zw:=(zP (jD 6<|jU<|zS (zN<|zg 3) (.nm 0) 1 [5] (sB<|zH hL (dn (zg 0)<|zc 1)<|zu<|.int 0) (zc 0))<|zP (h6 (jY<|nX<|zg 6) oh jT)<|zP (jD 7<|zE vV<|zb (zc 0)<|zb (dn (zA<|dn (zg 6)<|zu<|.int 0)<|zc 5) zF)<|zP (jD 8<|zE xp<|zb (zc 0)<|zb (jU<|zS (zN<|zA<|dn (zg 6)<|zu<|.int 0) (.nm 0) 1 [7] jj (zH yV (zc 1)<|zc 0)) zF)<|zP (jD 3<|jU<|zS (zN<|zg 3) (.nm 0) 1 [0,5,8] jj (zE qF<|zb (zc 1)<|zb (zc 0)<|zb (zc 3)<|zb (zc 2) zF))<|xn 4<|Kq (jP<|zS (zN<|zg 4) (.nm 0) 1 [0,5,8] jj (zE qF<|zb (zc 1)<|zb (zc 0)<|zb (zc 3)<|zb (zc 2) zF))<|jP<|qP<|zb (zc 8) zF)
noncomputable def Un(r:Nat)(B:Nat->Vc)(m:Nat)(W:Nat->Vc):Vc->Prop:=λv=>eF r B v\/eF m W v
structure xr(p:Int)(n m:Nat)(W:Nat->Vc)(t r:Nat)(B:Nat->Vc)(l:RZ)(Wt:Nat->Vc):Prop where
 lU : ∀j i,j<m->i<n->0<=Wt j i/\Wt j i<p
 Df : ∀j i,j<m->i<t->Wt j i=0
 Be:hR p n r B l
 lt : ∀k,k<r->l k<t
 span : ∀v,Span p n (Un r B m Wt) v↔Span p n (eF m W) v
section
variable{p:Int}{n m:Nat}{W:Nat->Vc}{t r:Nat}{B:Nat->Vc}{l:RZ}{Wt:Nat->Vc}
theorem xr.skip(h:xr p n m W t r B l Wt)(I : ∀j,j<m->Wt j t=0):xr p n m W (t+1) r B l Wt:=
 ⟨h.lU,λj i z a=>by
  rcases Hg i t with q | q
  ·exact h.Df j i z q
  ·have:i=t:=by omega
   subst this;exact I j z,h.Be,λk O=>HL<|h.lt k O,h.span⟩
noncomputable def iS(p:Int)(P:Vc)(t:Nat)(w:Vc):Vc:=λi=>(w i - w t*P i)%p
noncomputable def WZ(p:Int)(P:Vc)(t r:Nat)(B:Nat->Vc):Nat->Vc:=λk=>if k<r then iS p P t (B k)else P
noncomputable def mC(t r:Nat)(l:RZ):Nat->Nat:=λk=>if k<r then l k else t
theorem Zv(z:Span p n G P)(C:Span p n G w):Span p n G (iS p P t w):=
 (z.add C (-(w t))).congr λi _=>by unfold iS;rw[Hn];congr 1;rw[Int.neg_mul];omega
theorem Vt(z:Span p n G P)(C:Span p n G (iS p P t w)):Span p n G w:=
 (z.add C<|w t).congr λi _=>by unfold iS;rw[HI,Hn,<- HI];congr 1;omega
theorem xr.next(J:Pr p)(h:xr p n m W t r B l Wt)(S:t<n)(L:j0<m)(Y:Wt j0 t*y%p=1)(C : ∀i,i<n->P i=y*Wt j0 i%p) :
 xr p n m W (t+1) (r+1) (WZ p P t r B) (mC t r l) (λj=>iS p P t<|Wt j):=by
 have K:=J.pos;have one:=J.one;have A:P t=1:=by rw[C t S,Ib];exact Y
 have f : ∀i,i<t->P i=0:=λi a=>by rw[C i ⋯,h.Df j0 i L a];simp
 have M : ∀i,i<n->0<=P i/\P i<p:=λi a=>by rw[C i a];exact⟨Hw _ ⋯,Hh _ K⟩
 have F : ∀(w:Vc) i,0<=iS p P t w i/\iS p P t w i<p:=λw i=>⟨Hw _ ⋯,Hh _ K⟩;have b : ∀(w:Vc) i,i<t->0<=w i->w i<p->iS p P t w i=w i:=λw i a R T=>by unfold iS;rw[f i a,Lj,Int.sub_zero];exact HE R T
 have H : ∀w:Vc,iS p P t w t=0:=λw=>by unfold iS;rw[A,My,Int.sub_self];simp
 refine⟨λj i O a=>F _ _,λj i O a=>?_,⟨λk I=>?_,λk q N X=>?_,λk I=>?_,λk j I O=>?_,λk q I X Q=>?_,λk i I a=>?_⟩,λk I=>?_,λv=>?_⟩
 ·rcases Hg i t with q | q
  ·have e:=h.Df j i O q
   rw[b _ i q ⋯ ⋯];exact e
  ·have:i=t:=by omega
   subst this;exact H _
 ·unfold mC;split
  ·rename_i q;exact h.Be.lt k q
  ·exact S
 ·unfold mC
  have I:k<r:=by omega
  rw[RY I];split
  ·rename_i z;exact h.Be.mono k q N z
  ·exact h.lt k I
 ·unfold mC WZ;split
  ·rename_i q
   have e:=h.Be.one k q;have d:=h.lt k q;rw[b _ _ d ⋯ (by have:=J.two;omega)];exact e
  ·exact A
 ·unfold WZ;unfold mC at O;split at O
  ·rename_i q
   have e:=h.Be.l5 k j q O;have d:=h.lt k q;rw[RY q,b _ _ ⋯ ⋯ ⋯];exact e
  ·rename_i q
   rw[EQ q];exact f j O
 ·unfold WZ mC
  by_cases x:k<r
  ·rw[RY x]
   by_cases U:q<r
   ·rw[RY U]
    have e:=h.Be.p6 k q x U Q;have d:=h.lt q U;rw[b _ _ d ⋯ ⋯];exact e
   ·rw[EQ U];exact H _
  ·rw[EQ x]
   have U:q<r:=by omega
   rw[RY U];exact f _<|h.lt q U
 ·unfold WZ;split
  ·exact F _ _
  ·exact M i a
 ·unfold mC;split
  ·rename_i q;exact HL<|h.lt k q
  ·exact IQ _
 ·rw[<- h.span v]
  have o:Span p n (Un r B m Wt) P:=((Span.gen (p:=p) (n:=n) (G:=Un r B m Wt) (g:=Wt j0)<|.inr ⟨j0,L,rfl⟩).smul y).congr λi a=>by rw[C i a,Hn]
  have E:Span p n (Un (r+1) (WZ p P t r B) m λj=>iS p P t<|Wt j) P:= .gen (.inl ⟨r,IQ r,by unfold WZ;rw[EQ (HM r)]⟩);constructor
  ·refine λu=>u.le λg s=>?_
   rcases s with⟨k,I,rfl⟩ | ⟨j,O,rfl⟩
   ·unfold WZ;split
    ·rename_i q;exact Zv o<|.gen<|.inl ⟨k,q,rfl⟩
    ·exact o
   ·exact Zv o<|.gen<|.inr ⟨j,O,rfl⟩
  ·refine λu=>u.le λg s=>?_
   rcases s with⟨k,I,rfl⟩ | ⟨j,O,rfl⟩
   ·refine Vt (t:=t) E (.gen<|.inl ⟨k,HL I,?_⟩)
    unfold WZ;rw[RY I]
   ·exact Vt (t:=t) E<|.gen<|.inr ⟨j,O,rfl⟩
theorem xr.done(h:xr p n m W n r B l Wt)(v:Vc):Span p n (eF r B) v↔Span p n (eF m W) v:=by
 rw[<- h.span v];constructor
 ·exact λI=>I.le λg z=> .gen (.inl z)
 ·refine λI=>I.le λg z=>?_
  rcases z with z | ⟨j,O,rfl⟩
  ·exact .gen z
  ·exact .zero λi a=>by rw[h.Df j i O a];simp
theorem dD(I:True)(P:Vc):zX (r+1) n (WZ p P t r B)=zX r n (λk=>iS p P t<|B k)++[.tup (zB n P)]:=by
 unfold zX;rw[IW,Ih];congr 1
 ·apply Hk
  intro k z;have:=eY.mp z;simp[WZ,this]
 ·simp[WZ]
end
theorem xm{p:Int}(C:Pr p){n m:Nat}(hn:n<=100)(L:m<=lim)(J:Sk)(W:Nat->Vc) :
 ∃r B l,qG [.int p,.int n,p5 J (zX m n W)]=bQ (.own<|zX r n B)/\hR p n r B l/\∀v,Span p n (eF r B) v↔Span p n (eF m W) v:=by
 have hl:=jm;have b:n<=lim:=by omega
 have K:=C.pos;have H:=yt (T:= .nm 5) (F:=Zw)
  (λt R=>∃r B l Wt s u h o,R=[.val (.int p),.val<|.int n,.val<|p5 J<|zX m n W,.val<|.lst<|zX m n Wt,.own<|zX r n B,s,u,h,o]/\xr p n m W t r B l Wt)
  ((GH n).map λ(i:Nat)=>D.int i) 0 [.val (.int p),.val<|.int n,.val<|p5 J<|zX m n W,.val<|.lst<|zX m n λj i=>W j i%p,.own [],.no,.no,.no,.no]
  ⟨0,λ_ _=>0,λ_=>0,λj i=>W j i%p,.no,.no,.no,.no,rfl,λj i _ _=>⟨Hw _ ⋯,Hh _ K⟩,λj i _ e=>absurd e<|Hq _,
   ⟨λk I=>absurd I<|Hq _,λk q _ I=>absurd I<|Hq _,λk I=>absurd I<|Hq _,λk j I=>absurd I<|Hq _,λk q I=>absurd I<|Hq _,λk i I=>absurd I<|Hq _⟩,
   λk I=>absurd I<|Hq _,λv=>⟨λE=>E.le λg A=>by
    rcases A with⟨k,I,_⟩ | ⟨j,U,rfl⟩
    ·exact absurd I<|Hq _
    ·exact(Span.gen (p:=p) (n:=n) (G:=eF m W) (g:=W j) ⟨j,U,rfl⟩).congr λi _=>Hn _ _,λE=>E.le λg A=>by
    obtain⟨j,U,rfl⟩:=A;exact(Span.gen (p:=p) (n:=n) (G:=Un 0 (λ_ _=>0) m λj i=>W j i%p) (g:=λi=>W j i%p)<|.inr ⟨j,U,rfl⟩).congr λi _=>(Hn _ _).symm⟩⟩ (by
   rintro t d R w ⟨r,B,l,Wt,s,u,h,o,rfl,O⟩;rw[IE]at O ⊢;have a:t<n:=by have:=(GU.mp w).1;simpa using this
   have S:d = .int t:=by simp[a]at w;exact w.symm
   subst S;have f:zU (.nm 0) (sB<|zH hL (dn (zg 0)<|zc 1)<|zu<|.int 0) (zc 0) [Cell.no,Cell.val (.int t)] (zX m n Wt)=bQ (((GH m).filter λj=> !decide (Wt j t=0)).map λj=>D.tup<|zB n<|Wt j):=by unfold zX;refine ju _ _ _ λj U=>⟨_,rfl,?_,λ_=>rfl⟩;simp[a]
   have hr:r<=t:=YQ O.Be.mono O.lt;have X:r<=lim:=by omega
   cases hf:(GH m).filter λj=> !decide (Wt j t=0)with
   | nil=>
    have hz : ∀j,j<m->Wt j t=0:=λj U=>by apply Ie;intro M;have:j∈(GH m).filter λj=> !decide (Wt j t=0):=Hl.mpr ⟨eY.mpr U,by simp[M]⟩;rw[hf]at this;simp at this
    rw[hf]at f;refine⟨_,.inr ?_,r,B,l,Wt,.val<|.int t,.val<|.lst [],h,o,rfl,O.skip hz⟩;simp only[Wq,GV,MD,MC,Zw];rw[jR];simp[jR,z6,xQ,GO,f,L]
   | cons z kh=>
    have N:z∈(GH m).filter λj=> !decide (Wt j t=0):=by rw[hf];exact Ha
    have Q:z<m:=eY.mp (Hl.mp N).1;have M:Wt z t≠0:=by simpa using (Hl.mp N).2
    have Y:=O.lU z t Q a;obtain⟨y,ey,y1,y2,yy⟩:=Yx C (x:=Wt z t) ⋯ Y.2;rw[hf]at f;have nx:=O.next C a Q yy (P:=λi=>y*Wt z i%p) λi _=>rfl;refine⟨_,.inl ?_,r+1,WZ p (λi=>y*Wt z i%p) t r B,mC t r l,λj=>iS p (λi=>y*Wt z i%p) t<|Wt j,.val<|.int t,.val<|.lst<|(z::kh).map λj=>D.tup<|zB n<|Wt j,.val<|.int y,.val<|.tup<|zB n λi=>y*Wt z i%p,rfl,nx⟩;have bg:=C.le;have cy : ∀x,QN y x=di:=λx=>yW _ _ ⋯ ⋯;have Z:zU (.nm 0) jj (zH yV (zc 1)<|zc 0) [Cell.no,Cell.val (.int y)] (zB n<|Wt z)=bQ (zB n λi=>y*Wt z i):=by rw[zW,zW];refine zw _ _ λi e=>zx rfl rfl ?_;simp[cy]
    have b5:zU (.nm 0) jj (zE qF<|zb (zc 1)<|zb (zc 0)<|zb (zc 3)<|zb (zc 2) zF) [Cell.no,Cell.val<|.int p,Cell.val<|.int t,Cell.val (.tup<|zB n λi=>y*Wt z i%p)] (zX m n Wt)=bQ (zX m n λj=>iS p (λi=>y*Wt z i%p) t<|Wt j):=by unfold zX;refine zw _ _ λj U=>zx rfl rfl ?_;simp[wZ C b a (Wt j) (λi=>y*Wt z i%p) λi e=>O.lU j i (eY.mp U) e];rfl
    have b6:zU (.nm 0) jj (zE qF<|zb (zc 1)<|zb (zc 0)<|zb (zc 3)<|zb (zc 2) zF) [Cell.no,Cell.val<|.int p,Cell.val<|.int t,Cell.val (.tup<|zB n λi=>y*Wt z i%p)] (zX r n B)=bQ (zX r n λj=>iS p (λi=>y*Wt z i%p) t<|B j):=by unfold zX;refine zw _ _ λj U=>zx rfl rfl ?_;simp[wZ C b a (B j) (λi=>y*Wt z i%p) λi e=>O.Be.lU j i (eY.mp U) e];rfl
    have b7:r+1<=lim:=by omega
    rw[dD trivial];simp only[Wq,GV,MD,MC,Zw];rw[jR];simp[jR,z6,xQ,GO,f,L,b,a,ey,Z,JF _ K b,b5,b6,X,b7])
 obtain⟨γ',e1,r,B,l,Wt,s,u,h,o,rfl,O⟩:=H;simp only[GY,Hi,IE]at O;refine⟨r,B,l,?_,O.Be,O.done⟩;have b8:zU (.nm 0) jj (zE xp<|zb (zc 1)<|zb (zc 0) zF) [Cell.no,Cell.val (.int p)] (zX m n W)=bQ (zX m n λj i=>W j i%p):=by unfold zX;refine zw _ _ λj U=>zx rfl rfl ?_;simp[ff _ K b]
 have e0:qG [.int p,.int n,p5 J (zX m n W)]=jf 9 (zP (jD 3<|jU<|zS (zN<|zg 2) (.nm 0) 1 [0] jj (zE xp<|zb (zc 1)<|zb (zc 0) zF))<|zP (xn 4<|qP zF)<|zP (yP (zR<|zc 1) (.nm 5) Zw)<|JP 4) [.int p,.int n,p5 J (zX m n W)]:=rfl;rw[e0];simp[jf,ja,jR,L,z6,xQ,GO,b8,b,jy];rw[zW n λi=>(i:Int),e1];simp
@[simp] noncomputable def Aq:=@BR.eq_1
noncomputable def Jn{C:Type}(q:Nat)(x:C)(f:Nat->C):Nat->C:=λk=>if k<q then f k else if k=q then x else f (k - 1)
noncomputable def Zj(l:RZ)(r x:Nat):Nat:=((GH r).filter λk=>decide<|l k<x).length
theorem XN : ∀{r:Nat},(∀k m,k<m->m<r->l k<l m)->(∀k,k<r->l k≠x)->Zj l r x<=r/\(∀k,k<Zj l r x->l k<x)/\∀k,Zj l r x<=k->k<r->x<l k
 | 0,_,_=>⟨GQ _,λk I=>absurd I (by simp[Zj]),λk _ I=>absurd I<|Hq _⟩
 | r+1,hm,Pa=>by
  obtain⟨h,d,O⟩:=XN (r:=r) (x:=x) (λk m a b=>hm k m a ⋯) λk I=>Pa k ⋯;have e:Zj l (r+1) x=Zj l r x+if l r<x then 1 else 0:=by unfold Zj;rw[IW,ME,HQ];by_cases q:l r<x<;>simp[q]
  by_cases q:l r<x
  ·rw[e,RY q]
   have U:Zj l r x=r:=by
    rcases Hg (Zj l r x) r with z | z
    ·have f:=O (Zj l r x) (GQ _) z
     have g:=hm (Zj l r x) r z<|IQ r;omega
    ·omega
   rw[U];refine⟨GQ _,λk I=>?_,λk a b=>absurd b ⋯⟩;rcases Hg k r with z | z
   ·exact d k ⋯
   ·have:k=r:=by omega
    subst this;exact q
  ·rw[e,EQ q,Nat.add_zero]
   refine⟨by omega,d,λk a b=>?_⟩;rcases Hg k r with z | z
   ·exact O k a z
   ·have:k=r:=by omega
    subst this;have:=Pa k b;omega
section
variable{p:Int}{n r:Nat}{B:Nat->Vc}{l:RZ}{w:Vc}
structure DC(p:Int)(n r:Nat)(B:Nat->Vc)(l:RZ)(w:Vc)(k:Nat)(R:Vc):Prop where
 lU : ∀i,i<n->0<=R i/\R i<p
 Df : ∀q,q<k->R (l q)=0
 eqv : ∀G,(∀k,k<r->Span p n G (B k))->(Span p n G w↔Span p n G R)
theorem DC.next(J:Pr p)(C:hR p n r B l)(h:DC p n r B l w k R)(I:k<r):DC p n r B l w (k+1) (iS p (B k) (l k) R):=by
 have a:=J.pos;refine⟨λi _=>⟨Hw _ ⋯,Hh _ a⟩,λq b=>?_,λG O=>?_⟩
 ·unfold iS
  rcases Hg q k with z | z
  ·rw[h.Df q z,C.p6 k q I ⋯ ⋯];simp
  ·have:q=k:=by omega
   subst this;rw[C.one q I];simp
 ·rw[h.eqv G O]
  exact⟨λU=>Zv (O k I) U,λU=>Vt (O k I) U⟩
theorem K8(O:q<=r)(U:k<r+1):(k=q/\Jn q x f k=x)\/∃I,I<r/\Jn q x f k=f I/\((k<q/\I=k)\/(q<k/\I+1=k)):=by
 unfold Jn;rcases Mg k q with z | z | z
 ·right;exact⟨k,by omega,by rw[RY z],.inl ⟨z,rfl⟩⟩
 ·left;subst z;exact⟨rfl,by rw[EQ (HM _),RY rfl]⟩
 ·right;exact⟨k - 1,by omega,by rw[EQ ⋯,EQ ⋯],.inr ⟨z,by omega⟩⟩
theorem Pb:Jn q x f q=x:=by unfold Jn;rw[EQ (HM _),RY rfl]
theorem pz : ∃I,(I<q/\I=k\/q<I/\I=k+1)/\Jn q x f I=f k:=by
 rcases Hg k q with z | z
 ·exact⟨k,.inl ⟨z,rfl⟩,by unfold Jn;rw[RY z]⟩
 ·exact⟨k+1,.inr ⟨by omega,rfl⟩,by unfold Jn;rw[EQ ⋯,EQ ⋯];rfl⟩
theorem pA(S:Pr p)(C:hR p n r B l)(ha:a<n)(J:R a=1)(Y : ∀i,i<a->R i=0)(L : ∀k,k<r->R (l k)=0)(Z : ∀i,i<n->0<=R i/\R i<p) :
 hR p n (r+1) (Jn (Zj l r a) R λk=>iS p R a<|B k) (Jn (Zj l r a) a l):=by
 have W:=S.pos;have H : ∀k,k<r->l k≠a:=λk O e=>by have:=L k O;rw[e,J]at this;omega
 obtain⟨T,X,q2⟩:=XN C.mono H;have N : ∀(w:Vc) i,0<=iS p R a w i/\iS p R a w i<p:=λw i=>⟨Hw _ ⋯,Hh _ W⟩;have K : ∀w:Vc,iS p R a w a=0:=λw=>by unfold iS;rw[J,My,Int.sub_self];simp
 have E : ∀(w:Vc) k,k<r->0<=w (l k)->w (l k)<p->iS p R a w (l k)=w (l k):=λw k O J P=>by unfold iS;rw[L k O,Lj,Int.sub_zero];exact HE J P
 have M : ∀k j,k<r->j<l k->iS p R a (B k) j=0:=λk j O t=>by
  unfold iS;rw[C.l5 k j O t];rcases Hg a (l k)with z | z
  ·rw[C.l5 k a O z];simp
  ·rw[Y j ⋯];simp
 have two:=S.two;have d : ∀k,k<r+1->(k=Zj l r a/\Jn (Zj l r a) R (λk=>iS p R a<|B k) k=R/\Jn (Zj l r a) a l k=a)\/
  ∃I,I<r/\Jn (Zj l r a) R (λk=>iS p R a<|B k) k=iS p R a (B I)/\Jn (Zj l r a) a l k=l I/\((k<Zj l r a/\I=k)\/(Zj l r a<k/\I+1=k)):=by
  intro k O;rcases K8 (x:=R) (f:=λk=>iS p R a<|B k) T O with⟨b,u⟩ | ⟨I,U,b,u⟩
  ·left;refine⟨b,u,?_⟩;subst b;exact Pb
  ·right
   refine⟨I,U,b,?_,u⟩;rcases u with⟨F,G⟩ | ⟨F,G⟩
   ·unfold Jn;rw[RY F,G]
   ·unfold Jn;rw[EQ ⋯,EQ ⋯];congr 1;omega
 refine⟨λk O=>?_,λk m b8 y=>?_,λk O=>?_,λk j O t=>?_,λk m O y b9=>?_,λk i O Q=>?_⟩
 ·rcases d k O with⟨_,_,e⟩ | ⟨I,U,_,e,_⟩
  ·rw[e];exact ha
  ·rw[e];exact C.lt I U
 ·rcases d k ⋯with⟨z,_,e⟩ | ⟨I,U,_,e,z⟩<;>rcases d m y with⟨A,_,s⟩ | ⟨h,g,_,s,A⟩<;>rw[e,s]
  ·omega
  ·exact q2 h ⋯ g
  ·exact X I ⋯
  ·exact C.mono I h ⋯ g
 ·rcases d k O with⟨_,b,e⟩ | ⟨I,U,b,e,_⟩<;>rw[b,e]
  ·exact J
  ·have o:=C.one I U
   rw[E _ I U ⋯ ⋯];exact o
 ·rcases d k O with⟨_,b,e⟩ | ⟨I,U,b,e,_⟩<;>rw[b]<;>rw[e]at t
  ·exact Y j t
  ·exact M I j U t
 ·rcases d k O with⟨z,b,_⟩ | ⟨I,U,b,_,z⟩<;>rcases d m y with⟨A,_,s⟩ | ⟨h,g,_,s,A⟩<;>rw[b,s]
  ·omega
  ·exact L h g
  ·exact K _
  ·have o:=C.p6 I h U g ⋯
   rw[E _ h g ⋯ ⋯];exact o
 ·rcases d k O with⟨_,b,_⟩ | ⟨I,U,b,_,_⟩<;>rw[b]
  ·exact Z i Q
  ·exact N _ _
theorem pC(z:q<=r)(I:Span p n G R)(O : ∀k,k<r->Span p n G (F k)) : ∀g,eF (r+1) (Jn q R F) g->Span p n G g:=by
 rintro g ⟨k,U,rfl⟩;rcases K8 (x:=R) (f:=F) z U with⟨_,e⟩ | ⟨b,a,e,_⟩<;>rw[e]
 ·exact I
 ·exact O b a
theorem pj(I:q<=r):eF (r+1) (Jn q R F) R/\∀k,k<r->eF (r+1) (Jn q R F) (F k):=by refine⟨⟨q,by omega,Pb.symm⟩,λk O=>?_⟩;obtain⟨z,h,e⟩:=pz (q:=q) (x:=R) (f:=F) (k:=k);exact⟨z,by omega,e.symm⟩
theorem iO(Z:Pr p)(Y:hR p n r B l)(S:a<n)(hs : ∀v,Span p n (eF r B) v↔Span p n (eF j W) v)(U:DC p n r B l (W j) r R)(L:y*R a%p=1)(C : ∀i,i<n->R' i=y*R i%p)(J:Zj l r a<=r)(v:Vc) :
 Span p n (eF (r+1)<|Jn (Zj l r a) R' λk=>iS p R' a<|B k) v↔Span p n (eF (j+1) W) v:=by
 have w : ∀v,Span p n (eF j W) v->Span p n (eF (j+1) W) v:=λv O=>O.le λg ⟨i,b,e⟩=> .gen ⟨i,by omega,e⟩;have a2 : ∀k,k<r->Span p n (eF (j+1) W) (B k):=λk I=>w _<|(hs _).mp (.gen ⟨k,I,rfl⟩);have m:Span p n (eF (j+1) W) R:=(U.eqv _ a2).mp (.gen ⟨j,by omega,rfl⟩);have d:Span p n (eF (j+1) W) R':=(m.smul y).congr λi b=>by rw[C i b,Hn]
 obtain⟨u,m2⟩:=pj (R:=R') (F:=λk=>iS p R' a<|B k) J;have f:Span p n (eF (r+1)<|Jn (Zj l r a) R' λk=>iS p R' a<|B k) R':= .gen u;have h : ∀k,k<r->Span p n (eF (r+1)<|Jn (Zj l r a) R' λk=>iS p R' a<|B k) (B k):=λk I=>Vt (t:=a) f<|.gen<|m2 k I;have o:Span p n (eF (r+1)<|Jn (Zj l r a) R' λk=>iS p R' a<|B k) R:=(f.smul<|R a).congr λi b=>by rw[C i b,vD,<- Ir,Ib (R a) y,GR,L,Int.one_mul,Hn]
 constructor
 ·exact λO=>O.le<|pC J d λk I=>Zv d<|a2 k I
 ·refine λO=>O.le ?_
  rintro g ⟨i,b,rfl⟩;rcases Hg i j with z | z
  ·exact((hs _).mpr (.gen ⟨i,z,rfl⟩)).le λg s=>by obtain⟨k,I,e⟩:=s;rw[e];exact h k I
  ·have:i=j:=by omega
   subst this;exact(U.eqv _ h).mpr o
theorem aZ(hs : ∀v,Span p n (eF r B) v↔Span p n (eF j W) v)(O:DC p n r B l (W j) r R)(U : ∀i,i<n->R i=0)(v:Vc):Span p n (eF r B) v↔Span p n (eF (j+1) W) v:=by
 constructor
 ·exact λI=>((hs v).mp I).le λg ⟨i,a,e⟩=> .gen ⟨i,by omega,e⟩
 ·refine λI=>I.le ?_
  rintro g ⟨i,a,rfl⟩;rcases Hg i j with z | z
  ·exact(hs _).mpr (.gen ⟨i,z,rfl⟩)
  ·have:i=j:=by omega
   subst this;exact(O.eqv _ λk b=> .gen ⟨k,b,rfl⟩).mpr (.zero λi a=>by rw[U i a];simp)
end
section
variable{p:Int}{n m r:Nat}{G:Vc->Prop}
theorem Span.sum{u:Nat->Vc}(c:Nat->Int) : ∀{m:Nat},(∀k,k<m->Span p n G (u k))->Span p n G λi=>zk (λk=>c k*u k i) m
 | 0,_=> .zero λi _=>by simp[zk]
 | m+1,h=>(((h m ⋯).add (Span.sum c (m:=m) λk z=>h k ⋯) (c m))).congr λi _=>by simp[zk]
noncomputable def Rk(p:Int)(n m:Nat)(W:Nat->Vc)(r:Nat):Prop:=∃B l,hR p n r B l/\∀v,Span p n (eF r B) v↔Span p n (eF m W) v
theorem y0(O:Pr p)(h:Rk p n m W r)(h':Rk p n m W r'):r=r':=by obtain⟨B,l,U,a⟩:=h;obtain⟨d,e,b,I⟩:=h';exact(Jw O U b (λv z=>(I v).mpr ((a v).mp z))<|λv z=>(a v).mpr ((I v).mp z)).1
theorem VI(z:Pr p)(I:hR p n r B l)(C : ∀i,i<n->0<=w i/\w i<p) : ∀k,k<=r->∃R,DC p n r B l w k R
 | 0,_=>⟨w,C,λq O=>absurd O<|Hq _,λG _=>Iff.rfl⟩
 | k+1,h=>by obtain⟨R,U⟩:=VI z I C k ⋯;exact⟨_,U.next z I ⋯⟩
theorem Wh : ∀(n:Nat) (R:Vc),(∀i,i<n->R i=0)\/∃a,a<n/\R a≠0/\∀i,i<a->R i=0
 | 0,R=> .inl λi b=>absurd b<|Hq _
 | n+1,R=>by
  rcases Wh n R with h | ⟨a,h1,h2,I⟩
  ·by_cases e:R n=0
   ·exact .inl λi b=>by rcases Hg i n with z | z;exact h i z;rw[show i=n by omega];exact e
   ·exact .inr ⟨n,by omega,e,h⟩
  ·exact .inr ⟨a,by omega,h2,I⟩
theorem me(I:Pr p)(W:Nat->Vc)(C : ∀j i,0<=W j i/\W j i<p) : ∀m,∃r,r<=m/\Rk p n m W r
 | 0=>⟨0,GQ _,λ_ _=>0,λ_=>0,⟨λk z=>absurd z<|Hq _,λk q _ z=>absurd z<|Hq _,λk z=>absurd z<|Hq _,λk j z=>absurd z<|Hq _,λk q z=>absurd z<|Hq _,λk i z=>absurd z<|Hq _⟩,
  λv=>⟨λb=>b.le λg ⟨k,z,_⟩=>absurd z<|Hq _,λb=>b.le λg ⟨k,z,_⟩=>absurd z<|Hq _⟩⟩
 | m+1=>by
  obtain⟨r,u,B,l,O,d⟩:=me I W C m;have t:=I.pos;obtain⟨R,U⟩:=VI I O (w:=W m) (λi _=>C m i) r<|GQ _;rcases Wh n R with h0 | ⟨a,ha,a5,a6⟩
  ·exact⟨r,by omega,B,l,O,aZ d U h0⟩
  ·have h:=U.lU a ha
   obtain⟨y,_,_,f⟩:=uY I (x:=R a) ⋯ h.2;have o : ∀k,k<r->l k≠a:=λk z e=>by have:=U.Df k z;rw[e]at this;exact a5 this
   exact⟨r+1,by omega,_,_,pA I O (R:=λi=>(y:Int)*R i%p) ha f (λi s=>by rw[a6 i s];simp) (λk z=>by rw[U.Df k z];simp) λi _=>⟨Hw _ ⋯,Hh _ t⟩,
    iO I (R':=λi=>(y:Int)*R i%p) O ha d U f (λi _=>rfl) (XN O.mono o).1⟩
theorem ZT(z:Pr p)(m:Nat)(W:Nat->Vc) : ∃r,r<=m/\Rk p n m W r:=by
 obtain⟨r,O,B,l,U,a⟩:=me (n:=n) z (λj i=>W j i%p) (λj i=>⟨Hw _ (by have:=z.pos;omega),Hh _ z.pos⟩) m;refine⟨r,O,B,l,U,λv=>(a v).trans ⟨λh=>h.le λg ⟨k,I,e⟩=>?_,λh=>h.le λg ⟨k,I,e⟩=>?_⟩⟩
 ·subst e;exact(Span.gen (g:=W k) ⟨k,I,rfl⟩).congr λi _=>by rw[Hn]
 ·subst e;exact(Span.gen (g:=λi=>W k i%p) ⟨k,I,rfl⟩).congr λi _=>by rw[Hn]
theorem om(z:Pr p)(_:n<=100)(_:m<=8)(W:Nat->Vc) : ∃r,r<=m/\Rk p n m W r:=ZT z m W
theorem tu(C:Pr p)(h:Rk p n m W r)(h':Rk p n m' W' r')(J : ∀j,j<m->Span p n (eF m' W') (W j)):r<=r':=by
 obtain⟨B,l,U,A⟩:=h;obtain⟨F,o,b,t⟩:=h';have s : ∀k,k<r->∃q,q<r'/\o q=l k:=λk I=>YY b ((t _).mpr (((A _).mp (.gen ⟨k,I,rfl⟩)).le λg ⟨j,x,e⟩=>e ▸ J j x)) (U.lt k I) (by rw[U.one k I,C.one];decide) λi w=>by rw[U.l5 k i I w];simp
 have a : ∀k,k<r->∀q,q<r'->o q=l k->k<=q:=by
  intro k
  induction k with
  | zero=>intro _ q _ _;exact HX _
  | succ k E=>
   intro I q f e;obtain⟨O,d,u⟩:=s k ⋯;have G:=E ⋯ O d u;have H:=U.mono k (k+1) ⋯ I;rcases Hg O q with z | z
   ·omega
   ·rcases Hg q O with y | y
    ·have:=b.mono q O y d
     omega
    ·have:q=O:=by omega
     subst this;omega
 rcases Nat.eq_zero_or_pos r with z | z
 ·omega
 ·obtain⟨q,f,e⟩:=s (r - 1) ⋯
  have:=a (r - 1) ⋯ q f e;omega
end
theorem dG(h w f):deep (.lst<|zX h w f)<=2:=lx h w f
theorem iq(h w f):i0 (.lst<|zX h w f)=di:=pd h w f
theorem VX(h w f):md (.lst<|zX h w f)=di:=VW (dG h w f) ⋯<|iq h w f
section
variable{p:Int}{n m r h w:Nat}
theorem Zm{l:RZ}(h:Nat) : ∀{r:Nat},(∀k m,k<m->m<r->l k<l m)->∃s,s<=r/\(∀k,k<s->l k<h)/\∀k,s<=k->k<r->h<=l k
 | 0,_=>⟨0,GQ _,λk I=>absurd I<|Hq _,λk _ I=>absurd I<|Hq _⟩
 | r+1,hm=>by
  obtain⟨s,b,a,O⟩:=Zm h (r:=r) λk m I U=>hm k m I ⋯;by_cases e:l r<h
  ·refine⟨r+1,GQ _,λk I=>?_,λk b a=>by omega⟩
   rcases Hg k r with z | z
   ·have:=hm k r z ⋯;omega
   ·have:k=r:=by omega
    subst this;exact e
  ·refine⟨s,by omega,a,λk I d=>?_⟩
   rcases Hg k r with z | z
   ·exact O k I z
   ·have:k=r:=by omega
    subst this;omega
theorem Y2(hs:s<=r)(C : ∀k,k<s->q k=ed)(J : ∀k,s<=k->k<r->q k=di):(GH r).filter q=(GH<|r - s).map (s + ·):=by
 obtain⟨d,rfl⟩ : ∃d,r=s+d:=⟨r - s,by omega⟩;rw[MG,ME];have a:(GH s).filter q=[]:=List.filter_eq_nil_iff.mpr λk z=>by rw[C k (eY.mp z)];decide
 have I:((GH d).map (s + ·)).filter q=(GH d).map (s + ·):=List.filter_eq_self.mpr λk z=>by obtain⟨i,b,rfl⟩:=Hj.mp z;exact J _ ⋯ (by have:=eY.mp b;omega)
 rw[a,I,IC];rfl
noncomputable def yb(h:Nat)(u v:Vc):Vc:=λi=>if i<h then u i else v (i - h)
noncomputable def jM(j:Nat):Vc:=λk=>if j=k then 1 else 0
theorem j4(C:i<h):yb h u v i=u i:=RY C
theorem qm(i:Nat):yb h u v (h+i)=v i:=by unfold yb;rw[EQ ⋯,IC]
theorem Zr(h w:Nat)(u v:Vc):zB h u++zB w v=zB (h+w) (yb h u v):=by
 unfold zB;rw[MG,Ih];congr 1
 ·exact Hk λi a=>by rw[j4 (eY.mp a)]
 ·rw[HD]
  exact Hk λi _=>by simp only[Function.comp];rw[qm]
theorem dz(h w:Nat)(v:Vc):(zB (h+w) v).take h=zB h v:=by unfold zB;rw[<- List.map_take,List.take_range,Nat.min_eq_left (HP h w)]
theorem dA(h w:Nat)(v:Vc):(zB (h+w) v).drop h=zB w λj=>v (h+j):=by unfold zB;rw[MG,Ih,List.drop_append_of_le_length ⋯,List.drop_eq_nil_of_le ⋯,HD];rfl
theorem Wn(h w:Nat)(v:Vc):lA (zB (h+w) v) dj (bQ (h:Int))=zB h v:=by
 have c : ¬((h:Int)<0):=by omega
 have e:min h (h+w)=h:=Nat.min_eq_left<|HP h w;simp[lA,ag,c,e,dz]
theorem Wm(h w:Nat)(v:Vc):lA (zB (h+w) v) (bQ (h:Int)) dj=zB w λj=>v (h+j):=by
 have c : ¬((h:Int)<0):=by omega
 have e:min h (h+w)=h:=Nat.min_eq_left<|HP h w;have t : ∀g:Vc,(zB w g).take w=zB w g:=λg=>Mb ⋯;simp[lA,ag,c,e,dA,t]
theorem Vw(v:Vc) : ∀n,ZJ (zB n v)=bQ ((GH n).map λi=>v i != 0)
 | 0=>rfl
 | n+1=>by
  have b : ∀l:List Nat,ZJ (l.map λi=>D.int<|v i)=bQ (l.map λi=>v i != 0):=by
   intro l
   induction l with
   | nil=>rfl
   | cons a l z=>simp[ZJ,AG,z]
  exact b _
theorem JI(I:hR p (h+w) r B l)(O:r<=lim)(hs:s<=r)(C : ∀k,k<s->l k<h)(h2 : ∀k,s<=k->k<r->h<=l k) :
 jO [.int h,.lst (zX r (h+w) B)]=bQ (.own<|zX (r - s) w λk j=>B (s+k)<|h+j):=by
 have d:zU (.nm 0) (jY<|sB<|rK<|zA<|au (zc 0) av<|ri<|zc 1) (au (zc 0) (ri<|zc 1) av) [Cell.no,Cell.val (.int h)] (zX r (h+w) B)=bQ (((GH r).filter λk=>decide<|h<=l k).map λk=>D.tup<|zB w λj=>B k<|h+j):=by
  unfold zX;refine ju (λk=>decide<|h<=l k) _ _ λk z=>⟨_,rfl,?_,λU=>?_⟩
  ·have z:=eY.mp z
   simp[Wn,Vw];by_cases e:h<=l k
   ·simp[e]
    intro i f;have:=I.l5 k i z ⋯;simp[this]
   ·simp[e]
    exact⟨l k,by omega,by rw[I.one k z];decide⟩
  ·simp[Wm]
 rw[Y2 hs (λk z=>decide_eq_false (by have:=C k z;omega)) (λk a b=>decide_eq_true<|h2 k a b)]at d;simp[jO,jf,ja,O,z6,xQ,GO,d];unfold zX;rfl
noncomputable def Di(p:Int)(h w:Nat)(f:RK)(v:Vc):Prop:=∀i,i<h->zk (λj=>f i j*v j) w%p=0
theorem gY{f:RK}{v:Vc}(O:Span p (h+w) (eF w λj=>yb h (λi=>f i j)<|jM j) v) : ∀i,i<h->v i%p=zk (λj=>f i j*v (h+j)) w%p:=by
 induction O with
 | @zero v z=>
  intro i a;rw[z i ⋯];have:zk (λj=>f i j*v (h+j)) w%p=zk (λ_=>0) w%p:=zK λj U=>by rw[GR,z (h+j) ⋯];simp
  rw[this,zT];rfl
 | @step v u g c e n I l=>
  intro i a;obtain⟨m,k,rfl⟩:=e;rw[I i ⋯,HI,l i a,<- HI];have d:zk (λj=>f i j*v (h+j)) w%p=zk (λj=>f i j*u (h+j)+c*(f i j*jM m j)) w%p:=zK λj U=>by rw[GR,I (h+j) ⋯,<- GR];simp only[qm];rw[LQ,LI]
  rw[d,jv,jo,zQ (f:=λj=>f i j*jM m j) k λj _ b=>by simp[jM,Hu b]];simp[jM,j4 a]
theorem Vs(I:Pr p)(w:Nat):hR p w w jM id where
 lt:=λk z=>z
 mono:=λk m z _=>z
 one:=λk _=>RY rfl
 l5:=λk j _ O=>EQ (by simp only[id]at O;omega)
 p6:=λk m _ _ U=>EQ (by simp only[id];omega)
 lU:=λk i _ _=>by have:=I.two;unfold jM;split<;>omega
theorem Span.map(t:RZ)(z : ∀i,i<n'->t i<n)(I : ∀g,G g->Span p n' G' λi=>g<|t i)(O:Span p n G v):Span p n' G' λi=>v (t i):=by
 induction O with
 | @zero v U=>exact .zero λi a=>U _<|z i a
 | @step v u g c d f b e=>exact((I _ d).add e c).congr λi a=>b _<|z i a
theorem kU(C:Pr p)(hh:h<=20)(hw:w<=20)(f:RK) :
 ∃q K l s,yO [.int p,qk h w f]=bQ (.own<|zX q w K)/\hR p w q K l/\(∀v,Span p w (eF q K) v↔Di p h w f v)/\Rk p h w (λj i=>f i j) s/\q+s=w:=by
 have hl:=jm;have X:h<=lim:=by omega
 have A:w<=lim:=by omega
 have Y:h+w<=lim:=by omega
 obtain⟨r,B,l,e,O,y⟩:=xm C (show h+w<=100 by omega) A .L λj=>yb h (λi=>f i j)<|jM j;have Z : ∀v,Span p (h+w) (eF r B) v->∀i,i<h->v i%p=zk (λj=>f i j*v (h+j)) w%p:=λv o=>gY<|(y v).mp o;have an:r<=w:=by obtain⟨r',G,H⟩:=ZT C (n:=h+w) w λj=>yb h (λi=>f i j)<|jM j;rw[y0 C ⟨B,l,O,y⟩ H];exact G
 have ap:w<=r:=by obtain⟨r',G,H⟩:=ZT C (n:=w) r λk j=>B k<|h+j;refine Ia (tu C (m:=w) (W:=jM) ⟨jM,id,Vs C w,λv=>Iff.rfl⟩ H λj U=>?_) G;have:=Span.map (n':=w) (G':=eF r λk j=>B k<|h+j) (λi=>h+i) (λi a=>by omega) (λg ⟨k,I,b⟩=> .gen ⟨k,I,by rw[b]⟩)<|(y<|yb h (λi=>f i j)<|jM j).mpr (.gen ⟨j,U,rfl⟩);exact this.congr λi _=>by rw[qm]
 have er:r=w:=Nat.le_antisymm an ap;subst er;obtain⟨s,hs,P,x⟩:=Zm h O.mono;have eb:=JI O A hs P x;have ax:hR p r (r - s) (λk j=>B (s+k)<|h+j) (λk=>l (s+k) - h):={
  lt:=λk I=>by have:=O.lt (s+k) ⋯;have:=x (s+k) ⋯ ⋯;omega
  mono:=λk m I J=>by have:=O.mono (s+k) (s+m) ⋯ ⋯;have:=x (s+k) ⋯ ⋯;omega
  one:=λk I=>by have:=x (s+k) ⋯ ⋯;rw[show h+(l (s+k) - h)=l (s+k)by omega];exact O.one _ ⋯
  l5:=λk j I U=>O.l5 _ _ ⋯ ⋯
  p6:=λk m I J E=>by have:=x (s+m) ⋯ ⋯;rw[show h+(l (s+m) - h)=l (s+m)by omega];exact O.p6 _ _ ⋯ ⋯ ⋯
  lU:=λk i I a=>O.lU _ _ ⋯ ⋯}
 refine⟨r - s,_,_,s,?_,ax,λv=>⟨λo=>?_,λo=>?_⟩,?_,by omega⟩
 ·have R:=yA f X A
  have S:=yz (n:=r) A;have N:zU (.tp [0,1]) jj (zH qC (zc 0)<|zc 1) [Cell.no,Cell.no] ((GH r).map λj=>D.tup [.tup (zB h λi=>f i j),.tup (zB r λk=>if j=k then 1 else 0)])=bQ (zX r (h+r) λj=>yb h (λi=>f i j)<|jM j):=by unfold zX;refine zw _ _ λj U=>zx rfl rfl ?_;simp[qC,Y,Zr];rfl
  have zp:JK (zX r h λi j=>f j i) (zX r r λi j=>if i=j then 1 else 0)=(GH r).map λj=>D.tup [.tup (zB h λi=>f i j),.tup (zB r λk=>if j=k then 1 else 0)]:=by unfold JK zX;rw[Mn];simp
  have c1:((h:Int)+(r:Int))=((h+r:Nat):Int):=by omega
  simp only[p5]at e;rw[<- c1]at e;unfold qk at R S ⊢;have nl : ∀T t f γ,zU T t f γ []=bQ []:=λ_ _ _ _=>rfl;simp[yO,xf,jf,ja,jR,R,S,zp,A,z6,GO,N,nl,e,eb]
 ·intro i a
  induction o with
  | @zero v hz=>
   have:zk (λj=>f i j*v j) r%p=zk (λ_=>0) r%p:=zK λj U=>by rw[GR,hz j U];simp
   rw[this,zT];rfl
  | @step v u g c hg hu he M=>
   obtain⟨k,I,rfl⟩:=hg;have e1:zk (λj=>f i j*v j) r%p=zk (λj=>f i j*u j+c*(f i j*B (s+k) (h+j))) r%p:=zK λj U=>by rw[GR,he j U,<- GR,LQ,LI]
   have Q:=Z (B<|s+k) (.gen ⟨s+k,by omega,rfl⟩) i a;have e3:B (s+k) i=0:=O.l5 _ _ ⋯ (by have:=x (s+k) ⋯ ⋯;omega);rw[e3]at Q;rw[e1,jv,jo,HI,M,GR,<- Q];simp
 ·
  have bd:Span p (h+r) (eF r B) (yb h (λ_=>0) v):=by
   refine(y _).mpr ((Span.sum (u:=λj=>yb h (λi=>f i j)<|jM j) v (m:=r) λj U=> .gen ⟨j,U,rfl⟩).congr λi a=>?_);rcases Hg i h with z | z
   ·simp only[j4 z]
    rw[zy (g:=λj=>f i j*v j) λj _=>Ib _ _,o i z];simp
   ·obtain⟨k,rfl⟩ : ∃k,i=h+k:=⟨i - h,by omega⟩
    simp only[qm];rw[zQ (f:=λj=>v j*jM j k) (i:=k) ⋯ λj _ E=>by simp[jM,E]];simp[jM]
  have co:=Zi O bd;refine(Span.sum (u:=λk j=>B (s+k)<|h+j) (λk=>yb h (λ_=>0) v<|l<|s+k) (m:=r - s) λk I=> .gen ⟨k,I,rfl⟩).congr λj U=>?_;have:=co (h+j) ⋯;rw[qm]at this;rw[this];obtain⟨d,rfl⟩ : ∃d,r=s+d:=⟨r - s,by omega⟩;rw[IC];have sp : ∀(F:Nat->Int) (d:Nat),(∀k,k<s->F k=0)->zk F (s+d)=zk (λk=>F<|s+k) d:=by
   intro F d hF
   induction d with
   | zero=>
    show zk F s=0;rw[zy (g:=λ_=>0) hF,zT]
   | succ d M=>rw[<- MU];simp only[zk];rw[M]
  rw[sp _ d λk I=>by rw[j4 (P k I)];simp]
 ·
  refine⟨λk i=>B k i,l,⟨λk I=>P k I,λk m I J=>O.mono k m I ⋯,λk I=>O.one k ⋯,λk j I U=>O.l5 k j ⋯ U,λk m I J E=>O.p6 k m ⋯ ⋯ E,λk i I a=>O.lU k i ⋯ ⋯⟩,λv=>⟨λo=>o.le λg ⟨k,I,b⟩=>?_,λo=>o.le λg ⟨j,U,b⟩=>?_⟩⟩
  ·subst b
   exact Span.map (n':=h) (G':=eF r λj i=>f i j) (λi=>i) (λi a=>by omega) (λg ⟨j,U,b⟩=>(Span.gen (g:=λi=>f i j) ⟨j,U,rfl⟩).congr λi a=>by rw[b];simp only[j4 a])<|(y<|B k).mp (.gen ⟨k,by omega,rfl⟩)
  ·subst b
   have:=Span.map (n':=h) (G':=eF s λk i=>B k i) (λi=>i) (λi a=>by omega) (λg hZ=>by
    obtain⟨k,I,b⟩:=hZ;subst b;rcases Hg k s with z | z
    ·exact .gen ⟨k,z,rfl⟩
    ·exact .zero λi a=>by rw[O.l5 k i I (by have:=x k z I;omega)];simp) ((y<|yb h (λi=>f i j)<|jM j).mpr (.gen ⟨j,U,rfl⟩))
   exact this.congr λi a=>by rw[j4 a]
end
@[simp] noncomputable def Ed:=@gh.eq_1
theorem mW{a b:Bool}(h:ji a=ji b):a=b:=by cases a<;>cases b<;>first | rfl | exact absurd h ⋯
noncomputable def lP(m C:Nat)(w w':RX):Prop:=m=C/\∀k,k<m->w k=w' k
instance (m m':Nat) (w w':RX):Decidable (lP m m' w w'):=inferInstanceAs (Decidable (m=m'/\∀k,k<m->w k=w' k))
theorem mX{m C:Nat}{w w':RX}:xN m w=xN C w'↔lP m C w w':=by
 constructor
 ·intro h
  have a:=ke m w;rw[h,ke]at a;have I:m=C:=by have:=congrArg List.length a;simpa using this.symm
  subst I;refine⟨rfl,λk z=>?_⟩;have:=congrArg (λl=>l[k]?) a;simp[z]at this;exact(mW this).symm
 ·rintro⟨rfl,h⟩
  unfold xN;rw[Hk λk z=>by rw[h k (eY.mp z)]]
theorem cD(m w):md (.str<|xN m w)=di:=by refine VW (n:=0) (by simp[deep]) ⋯ ?_;show(xN m w).cps.all (· < 0x110000)=di;rw[<- Array.all_toList,ke];simp only[IP];intro c z;obtain⟨k,_,rfl⟩:=Hj.mp z;unfold ji;split<;>decide
section
variable{p p':Int}{m m':Nat}{w w':RX}{wd wd':RZ}{T T':RV}
theorem Xg:z7 (qW p m w wd T)=bQ (.T,[.int p,.tup<|zB (m+1) λk=>(wd k:Int),.tup (ku m w wd T)]):=rfl
theorem rA(k):z7 (vX w wd T k)=bQ (.T,[.str (vW<|ji<|w k),qk (h8 w wd k) (h9 w wd k) (T k)]):=rfl
theorem aB:zU (.nm 0) jj (dn (zg 0)<|zu<|.int 0) [Cell.no] (ku m w wd T)=bQ ((GH m).map λk=>D.str<|vW<|ji<|w k):=by unfold ku;refine zw _ _ λk z=>zx rfl rfl ?_;simp[rA]
theorem wW(C:m<=900):ky [qW p m w wd T]=bQ (.val<|.str<|xN m w):=by
 have O:=jm;have z:m<=lim:=by omega
 have st:Kh ((GH m).map λk=>D.str<|vW<|ji<|w k)=bQ ((GH m).map λk=>vW<|ji<|w k):=Xb _ _;have I:((GH m).map λk=>vW<|ji<|w k).all jV=di:=by simp only[IP];intro x a;obtain⟨k,_,rfl⟩:=Hj.mp a;unfold ji;split<;>decide
 have b:jV "" = di:=by decide +kernel
 simp only[ky,jf,ja];simp only[Yt,rC,mR,wI,qA,vS,XT,vR,yx,HC,MZ,ID,LV,GO,Lz,Iq,qH,Xg,GV,Iw,yw,RB,IB,Ap,Nat.sub_self,IE];rw[Ys,RY z,show z6 1 [] [Cell.val (qW p m w wd T)]=[Cell.no]from rfl,aB];simp only[Iw,GV,st];rw[RY ⟨by simpa using z,I,b⟩];rfl
theorem XW(C:m<=900)(I:m'<=900):xB [qW p m w wd T,qW p' m' w' wd' T']=bQ (.val<|.bl<|decide<|p=p'/\lP m m' w w'):=by
 have z:=wW (p:=p) (wd:=wd) (T:=T) (w:=w) C;have O:=wW (p:=p') (wd:=wd') (T:=T') (w:=w') I;have d:ix (.str<|xN m w) (.str<|xN m' w')=bQ (.bl<|decide<|lP m m' w w'):=by unfold ix;rw[RY ⟨cD m w,cD m' w'⟩];congr 2;rw[Mu];simp only[i3,O8,beq_iff_eq,decide_eq_true_eq];exact mX
 by_cases q:p=p'
 ·simp[xB,jf,ja,Xg,q,z,O,d]
  subst q;simp[z,d]
 ·simp[xB,jf,ja,Xg,q]
end
theorem dQ(xs:List D)(n:Nat)(C:xs.length=n)(J : ∀i (h:i<n),∃z,xs[i]'(C ▸ h) = .int z)(bl:n<=63)(k:Int)(L:0<=k)(bm:k<100000) :
 ∃m,jr [.lst xs,.int k]=bQ (.val<|.int m)/\0<=m/\m<1000000007:=by
 have O : ∀x:Int,QN x 48271=di:=λx=>ez _ _ ⋯ ⋯;have U : ∀x:Int,QN 7 x=di:=λx=>yW _ _ ⋯ ⋯;have e : ∀x:Int,QN 13 x=di:=λx=>yW _ _ ⋯ ⋯;have f : ∀x:Int,QN x 69621=di:=λx=>ez _ _ ⋯ ⋯;have g:QN (7*k) k=di:=ez _ _ ⋯ ⋯;have I:Am 10 9=di:=by decide
 have b:Am 10 30=di:=by decide
 have hl:lim=2500:=rfl;by_cases G:n=0
 ·subst G
  have l:xs=[]:=HF C;subst l;simp[jr,jf,ja,jR,O,U,e,f,g,I,b];omega
 ·have o:0<n:=by omega
  obtain⟨i,Q⟩:=Lm (Hw k<|show(n:Int)≠0 by omega);have u:i<n:=by have:=Hh k (show(0:Int)<n by omega);omega
  obtain⟨zi,A⟩:=J i u;have W:hB n (i:Int)=bQ i:=by rw[jq,RY u]
  by_cases N:n=1
  ·subst N
   have p:i=0:=by omega
   subst p;have k1:k%1=0:=by omega
   simp[jr,jf,ja,jR,O,U,e,f,g,I,b,C,A];omega
  ·obtain⟨z0,l⟩:=J 0 o
   have p:hB n 0=bQ 0:=by have:=jq n 0;rw[RY o]at this;exact this
   have E:(0:Int)<(n:Int) - 1:=by omega
   have F:(1:Int)<(n:Int):=by omega
   have as:1<n:=by omega
   have Y:(n:Int) - 1<1073741824:=by omega
   have Z:(0:Int)<(n:Int):=by omega
   obtain⟨j,R⟩:=Lm (Hw k<|show(n:Int) - 1≠0 by omega);have w:1+j<n:=by have:=Hh k E;omega
   obtain⟨zj,M⟩:=J (1+j) w;have X:hB n (1+(j:Int))=bQ (1+j):=by have:=jq n<|1+j;rw[RY w]at this;rw[<- this];congr 1
   have P:0<=k/((n:Int) - 1)/\k/((n:Int) - 1)<=k:=⟨Int.ediv_nonneg L ⋯,Int.ediv_le_self _ L⟩;obtain⟨t,S⟩:=Lm P.1;by_cases B:z0%2=1
   ·obtain⟨a,H,bx⟩ : ∃a:Nat,(if (t:Int)<60 then (t:Int)else 60)=a/\a<=60:=by
     split
     ·exact⟨t,rfl,by omega⟩
     ·exact⟨60,rfl,by omega⟩
    have K:inR (a:Int)=di:=Wc ⋯ ⋯;simp[jr,jf,ja,jR,O,U,e,f,g,C,o,w,F,as,l,p,E,Y,B,R,X,M,S,I,b];rw[H,RY K];simp only[GV,jy,IU];rw[zW a λi=>(i:Int)];have y : ∀(m s:Nat) (v:Int) (c:Cell),∃r d,ka (.nm 3) (jD 2<|zH X3 (zc 2)<|zH pQ (zu<|D.int 10)<|zu<|D.int 9) ((List.range' s m).map λ(i:Nat)=>D.int i) [.val (.lst xs),.val<|.int k,.val<|.int v,c,.no] =
     bQ (.next [.val (.lst xs),.val<|.int k,.val<|.int r,d,.no]):=by
     intro m
     induction m with
     | zero=>intro s v c;exact⟨v,c,rfl⟩
     | succ m T=>
      intro s v c;rw[NO,HC,qh];obtain⟨r,d,h⟩:=T (s+1) (v/10 ^ 9)<|.val<|.int s;refine⟨r,d,?_⟩;rw[<- h];simp[I]
    obtain⟨r,d,h⟩:=y a 0 zj .no;rw[<- Nh]at h;rw[h];simp[I];omega
   ·simp[jr,jf,ja,jR,O,U,e,f,g,C,F,as,Z,o,l,p,B,Q,A,u,W,I,b]
    omega
theorem pU(C:List Int)(J:C.length<=63)(k:Int)(z:0<=k)(I:k<100000) : ∃m,jr [X0 C,.int k]=bQ (.val<|.int m)/\0<=m/\m<1000000007:=
 dQ (C.map D.int) C.length ⋯ (λi a=>⟨C[i],by simp⟩) J k z I
noncomputable def km(C:List Int)(k:Int):Int:=match jr [X0 C,.int k]with
 | some (.val<|.int m)=>m
 | _=>0
theorem Va(C:ns.length<=63)(z:0<=k)(I:k<100000):jr [X0 ns,.int k]=bQ (.val<|.int<|km ns k)/\0<=km ns k/\km ns k<1000000007:=by
 obtain⟨m,h,a,b⟩:=pU ns C k z I;have e:km ns k=m:=by unfold km;rw[h]
 rw[e];exact⟨h,a,b⟩
noncomputable def jE(bs:List (Int×Int)):List D:=bs.map λb=>D.tup [.int b.1,.int b.2]
@[simp] theorem Yq(bs):(jE bs).length=bs.length:=by simp[jE]
theorem J8 : ∀bs,wQ (jE bs)=bQ bs
 | []=>rfl
 | b::bs=>by have z:=J8 bs;unfold jE at z;simp[jE,wQ,gZ,z]
noncomputable def yc(bs:List (Int×Int)):List (Int×Int):=(jZ bs).map λi=>bs.getD i (0,0)
theorem yE(bs):(yc bs).Perm bs:=by have:=(jH bs).map λi=>bs.getD i (0,0);rw[jc]at this;exact this
theorem aQ{bs:List (Int×Int)}(h:bs.length<64):aR (jE bs)=bQ (jE<|yc bs):=by unfold aR;rw[J8];show(if (jE bs).length<64 then bQ ((jZ bs).map λi=>(jE bs).getD i .eX)else dj)=_;rw[Yq,RY h];unfold yc;congr 1;unfold jE;rw[HD];refine Hk λi a=>?_;have a:i<bs.length:=eY.mp<|(jH bs).mem_iff.mp a;simp[a]
noncomputable def fC(n:Int)(b:Int×Int):Prop:=0<=b.1/\b.1<=b.2/\b.2<n
@[simp] noncomputable def Bn:=@bc.eq_1
section ap
variable(γ:Ctx)
@[simp] noncomputable def Bm:=@sN.eq_1
@[simp] noncomputable def Br:=@sQ.eq_1
@[simp] noncomputable def Bs:=@lZ.eq_1
@[simp] noncomputable def Fh:=@FN.eq_1
end ap
noncomputable def mJ(b:Int×Int)(r:Int):Bool:=decide (b.1<=r) && decide (r<=b.2)
noncomputable def jL(bs:List (Int×Int))(r:Int):List Nat:=(GH bs.length).filter λi=>mJ (bs.getD i (0,0)) r
noncomputable def KS(l:List Nat):List D:=l.map λ(i:Nat)=>D.int i
@[simp] theorem Xv(l):(KS l).length=l.length:=by simp[KS]
theorem bV(bs r):(jL bs r).length<=bs.length:=by have:=Ly (λi=>mJ (bs.getD i (0,0)) r)<|GH bs.length;simpa[jL]using this
noncomputable def g9(i j:Nat):Int:=if i=j then 1 else 0
noncomputable def ZD(p:Int)(n:Nat)(f g:RK):Prop:=∀i j,i<n->j<n->zk (λk=>f i k*g k j) n%p=g9 i j%p
theorem YO{p x y X Y:Int}(C:x%p=X%p)(I:y%p=Y%p):(x*y)%p=(X*Y)%p:=by rw[GR,C,I,<- GR]
section
variable{p:Int}{n:Nat}{f g f' g':RK}
theorem fL{t:Int}{u o:Nat}(hu:u<n)(Z:o<n)(J:u≠o)(C:ZD p n f g)(L : ∀i k,i<n->k<n->f' i k%p=(f i k+(if i=u then t else 0)*f o k)%p)(hg : ∀k j,k<n->j<n->g' k j%p=(g k j+(if j=o then -t else 0)*g k u)%p):ZD p n f' g':=by
 intro i j m I;generalize ea:(if i=u then t else 0)=a at L;have s : ∀k,k<n->f' i k%p=(f i k+(if i=u then t else 0)*f o k)%p:=λk z=>by have:=L i k m z;exact this
 rw[zK (g:=λk=>f i k*g k j+(if j=o then -t else 0)*(f i k*g k u)+((if i=u then t else 0)*(f o k*g k j)+((if i=u then t else 0)*(if j=o then -t else 0))*(f o k*g k u))) λk z=>by
  rw[YO (s k z) (hg k j z I)];congr 1;generalize (if i=u then t else 0)=a;generalize (if j=o then -t else 0)=b;rw[MW,LQ,LQ];congr 1
  ·congr 1;rw[LI]
  ·congr 1
   ·rw[Ir]
   ·rw[Ir,Ir];congr 1;rw[LI]]
 rw[jv,jv,jv,jo,jo,jo];have A:=C i j m I;have B:=C i u m hu;have E:=C o j Z I;have F:=C o u Z hu;have O : ∀c S d:Int,S%p=d%p->(c*S)%p=(c*d)%p:=λc S d h=>YO rfl h;have ad : ∀x y X Y:Int,x%p=X%p->y%p=Y%p->(x+y)%p=(X+Y)%p:=λx y X Y a b=>by rw[HI,a,b,<- HI]
 rw[ad _ _ _ _ (ad _ _ _ _ A<|O _ _ _ B) (ad _ _ _ _ (O _ _ _ E)<|O _ _ _ F)];congr 1;unfold g9;have r : ¬o=u:=λe=>J e.symm;by_cases l:i=u
 ·by_cases U:j=o
  ·subst l U;simp[J,r];omega
  ·have w : ¬o=j:=λe=>U e.symm
   simp[l,U,w,r]
 ·simp[l]
theorem aH{t:Int}{u o:Nat}(U:u<n)(Y:o<n)(C:u≠o)(J:ZD p n g f)(L : ∀i k,i<n->k<n->f' i k%p=(f i k+(if i=u then t else 0)*f o k)%p)(S : ∀k j,k<n->j<n->g' k j%p=(g k j+(if j=o then -t else 0)*g k u)%p):ZD p n g' f':=by
 intro i j b O;rw[<- J i j b O];rw[zK (g:=λk=>g i k*f k j+((if k=u then t*(g i u*f o j)else 0)+(if k=o then -t*(g i u*f o j)else 0))) λk z=>by
  rw[YO (S i k b z) (L k j z O)];congr 1;by_cases a:k=u
  ·subst a
   have I : ¬k=o:=C;simp only[EQ I,if_true,LA,LB,LQ];rw[LI]
  ·by_cases I:k=o
   ·subst I
    simp only[EQ a,if_true,LA,LB,Int.zero_add,MW];rw[Ir]
   ·simp only[EQ a,EQ I,LA,LB]]
 rw[jv,jv,zQ (f:=λk=>if k=u then t*(g i u*f o j)else 0) U λk _ z=>EQ z,zQ (f:=λk=>if k=o then -t*(g i u*f o j)else 0) Y λk _ z=>EQ z];simp only[if_true];congr 1;rw[Int.neg_mul];omega
end
noncomputable def jh(n:Nat)(f:RK):List D:=(GH n).map λi=>D.lst<|zB n<|f i
noncomputable def qQ(n:Nat)(f:RK):List (List D):=(GH n).map λi=>zB n<|f i
theorem br(n f):(qQ n f).map D.lst=jh n f:=by simp[qQ,jh]
@[simp] theorem tf(n f):(jh n f).length=n:=by simp[jh]
@[simp] theorem AM(f)(C:i<(jh n f).length):(jh n f)[i] = .lst (zB n<|f i):=by simp[jh]
@[simp] theorem rL(r):xQ (.nest r) = .no:=rfl
@[simp] theorem uH(r):xQ (.own r) = .no:=rfl
@[simp] theorem uG(d):xQ (.val d) = .val d:=rfl
@[simp] theorem AR:xQ .no = .no:=rfl
theorem Y5(L:a<n)(v z:Vc)(x:Int)(C:z a=x)(J : ∀i,i<n->i≠a->z i=v i):(zB n v).set a (.int x)=zB n z:=by
 apply II;intro i;rw[Lg];by_cases b:i<n
 ·by_cases e:a=i
  ·subst e;simp[L,zB,C]
  ·have:=J i b (Hu e)
   simp[e,zB,b,this]
 ·have I:(zB n v)[i]? = dj:=by simp[zB];omega
  have d:(zB n z)[i]? = dj:=by simp[zB];omega
  rw[I,d,EQ ⋯]
theorem bu(I:u<n)(f f':RK)(v:Vc)(C : ∀j,j<n->f' u j=v j)(J : ∀i j,i<n->i≠u->j<n->f' i j=f i j):(jh n f).set u (.lst<|zB n v)=jh n f':=by
 apply II;intro i;rw[Lg];by_cases a:i<n
 ·by_cases e:u=i
  ·subst e;simp[I,jh];exact kP λj z=>(C j z).symm
  ·simp[e,jh,a];exact kP λj z=>(J i j a (Hu e) z).symm
 ·have O:(jh n f)[i]? = dj:=by simp[jh];omega
  have b:(jh n f')[i]? = dj:=by simp[jh];omega
  rw[O,b,EQ ⋯]
theorem QJ : ∀(l:List Nat),(∀k∈l,∃d C m,fx (yh γ j i<|R k)=bQ d/\gx (yh γ j i<|R k)=bQ (.int C)/\hB (R k).length C=bQ m/\(R k).set m d=R' k)->xT j i gx fx γ (l.map R)=bQ (l.map R')
 | [],_=>rfl
 | k::l,h=>by obtain⟨d,C,m,a,b,z,I⟩:=h k Ha;have O:=QJ l λx e=>h x<|GX _ e;simp[xT,a,b,z,I,O]
theorem Yg : ∀(l:List Nat),(∀k∈l,∃γ1,xA T (g k) γ=bQ γ1/\f γ1=bQ (R k))->vf T f γ (l.map g)=bQ (l.map R)
 | [],_=>rfl
 | k::l,h=>by obtain⟨γ1,a,b⟩:=h k Ha;have z:=Yg l λx d=>h x<|GX _ d;simp[vf,a,b,z]
section
variable{p:Int}{n:Nat}
structure Pair(p:Int)(n:Nat)(f g:RK):Prop where
 bf : ∀i j,i<n->j<n->0<=f i j/\f i j<p
 bg : ∀i j,i<n->j<n->0<=g i j/\g i j<p
 fg:ZD p n f g
 gf:ZD p n g f
end
@[simp] theorem sZ(n f):(qQ n f).length=n:=by simp[qQ]
noncomputable def zL(w:RX)(k:Nat):Nat:=if w k then k+1 else k
noncomputable def zV(w:RX)(k:Nat):Nat:=if w k then k else k+1
theorem rj(w:RX)(h:k<m):zL w k<m+1:=by unfold zL;split<;>omega
noncomputable def jg(m:Nat)(wd:RZ)(f:RV):List D:=(GH m).map λk=>qk (wd k) (wd k)<|f k
@[simp] theorem Kc(m wd f):(jg m wd f).length=m:=by simp[jg]
@[simp] theorem AH(wd f)(h:k<(jg m wd f).length):(jg m wd f)[k]=qk (wd k) (wd k) (f k):=by simp[jg]
noncomputable def kB(p:Int)(w:RX)(wd:RZ)(f g T:RV)(k i j:Nat):Int:=
 zk (λb=>g (zL w k) b j*(zk (λa=>T k a b*f (zV w k) i a) (wd<|zV w k)%p)) (wd<|zL w k)%p
noncomputable def b1:=(h6 (jY<|sB<|zE QS<|zb (zc 1) zF) Kp jT)
noncomputable def b2:=(jD 3<|zH qC (k8<|zc 1)<|zu<|.int 1)
noncomputable def b3:=(h6 (jY<|sB<|fw<|jP<|zS (zN<|zg 2) (.nm 0) 1 [3] jj (zE wY<|zb (zc 1)<|zb (zc 0) zF)) Kp jT)
noncomputable def b4:=(jD 4<|jU<|bc<|zg 2)
noncomputable def x1:CO Xn:=(E7 (jY (sB (zE QS (zb (zc 1) zF)))) (rS "NoRow") E8)
noncomputable def x3:CO Xn:=(E7 (jY (sB (fw (jP (zS (zN (zg 2)) (.nm 0) 1 [3] jj (zE wY (zb (zc 1) (zb (zc 0) zF)))))))) (rS "NoRow") E8)
noncomputable def x7:CO Xn:=(E7 (sB (zH C3 (sM (zg 6)) (zu (.int 30)))) (rS "TooMany") E8)
noncomputable def tq(m:Nat)(bs:List (Int×Int)):List D:=(GH<|m+1).map λ(r:Nat)=>D.lst<|KS<|jL bs r
noncomputable def mV(m:Nat)(bs:List (Int×Int)):List D:=zB (m+1) λr=>((jL bs r).length:Int)
section
variable{p:Int}{m:Nat}{w:RX}{bs:List (Int×Int)}
abbrev g0(p:Int)(z:Str)(bs:List (Int×Int)):Ctx:=[.val (.int p),.val (.str z),.val (.lst (jE bs)),.no,.no,.no,.no,.no]
abbrev g2(p:Int)(z:Str)(m:Nat)(bs:List (Int×Int)):Ctx:=[.val (.int p),.val (.str z),.val (.lst (jE bs)),.val (.int ((m+1:Nat):Int)),.no,.no,.no,.no]
abbrev g6(p:Int)(z:Str)(m:Nat)(bs:List (Int×Int)):Ctx:=[.val (.int p),.val (.str z),.val (.lst (jE bs)),.val (.int ((m+1:Nat):Int)),.val (.lst (jE (yc bs))),.val (.lst (tq m (yc bs))),.val (.tup (mV m (yc bs))),.no]
end
section
variable{p:Int}{m:Nat}{w:RX}{bs:List (Int×Int)}
theorem px{b:List Nat}(x:Nat):zU (.nm 0) jj (JQ<|zH ix (zc 1)<|zc 0) [Cell.no,Cell.val (.int x)] (KS b)=bQ (b.map λy=>D.int<|if x=y then 1 else 0):=by
 unfold KS;refine zw _ _ λy z=>zx rfl rfl ?_;by_cases h:x=y
 ·simp[h]
 ·have a : ¬((x:Int)=(y:Int)):=by omega
  simp[h,a]
end
theorem zo(h:F γ=bQ (.next γ'))(g:G γ'=r):zP F G γ=r:=by rw[jR,h];exact g
theorem jw(h:F (ja n ds)=bQ (.ret r)):jf n F ds=bQ r:=by show(F<|ja n ds).bind _=_;rw[h];rfl
theorem Yc{T:Tg}{F:CO Fl}(P:Nat->Ctx->Prop)(n:Nat){γ:Ctx}(O:P 0 γ)(step : ∀s,s<n->∀γ,P s γ->∃γ1 z,xA T (.int (s:Int)) γ=bQ γ1/\F γ1=bQ (.next z)/\P (s+1) z) :
 ∃γ',ka T F ((GH n).map λ(i:Nat)=>D.int (i:Int)) γ=bQ (.next γ')/\P n γ':=by
 have a : ∀(k s:Nat) (γ:Ctx),s+k=n->P s γ->∃γ',ka T F ((List.range' s k).map λ(i:Nat)=>D.int (i:Int)) γ=bQ (.next γ')/\P n γ':=by
  intro k
  induction k with
  | zero=>
   intro s γ e I;obtain rfl:s=n:=by omega
   exact⟨γ,rfl,I⟩
  | succ k U=>
   intro s γ e I;obtain⟨γ1,z,b,d,f⟩:=step s ⋯ γ I;obtain⟨γ',g,h⟩:=U (s+1) z ⋯ f;refine⟨γ',?_,h⟩;rw[NO,HC,qh,b];simp only[GV,d];exact g
 have:=a n 0 γ ⋯ O;rw[<- Nh]at this;exact this
theorem qu(P:Nat->Ctx->Prop)(n:Nat)(C:n<=lim)(I:f γ=bQ (.int (n:Int)))(O:P 0 γ)(step : ∀s,s<n->∀γ,P s γ->∃γ1 z,xA T (.int (s:Int)) γ=bQ γ1/\F γ1=bQ (.next z)/\P (s+1) z) :
 ∃γ',yP (zR f) T F γ=bQ (.next γ')/\P n γ':=by
 obtain⟨γ',e,U⟩:=Yc P n O step;refine⟨γ',?_,U⟩;have a:=jm;have r:inR (n:Int)=di:=Wc ⋯ ⋯;rw[JA,Jz,I];simp only[GV,yw,r,if_true,IU,jy];rw[zW n λi=>(i:Int)];exact e
end DL
namespace DL
open PySem L2 PySem.W PyProof.Rows
noncomputable def i9(x y:Int×Int):Prop:=yT y x=ed
theorem vF(x):i9 x x:=by unfold i9 yT;simp
theorem XA:i9 x y↔x.1<y.1\/(x.1=y.1/\x.2<=y.2):=by
 unfold i9 yT;by_cases h:y.1=x.1
 ·rw[RY h,decide_eq_false_iff_not];omega
 ·rw[EQ h,decide_eq_false_iff_not];omega
theorem cM:yT x y=di↔x.1<y.1\/(x.1=y.1/\x.2<y.2):=by
 unfold yT;by_cases h:x.1=y.1
 ·rw[RY h,decide_eq_true_iff];omega
 ·rw[EQ h,decide_eq_true_iff];omega
theorem vE(a:i9 x y)(b:i9 y z):i9 x z:=by rw[XA]at *;omega
theorem vG(a:yT x y=di):i9 x y:=by rw[cM]at a;rw[XA];omega
theorem uK(a:yT x y=di)(b:i9 y z):yT x z=di:=by rw[cM]at *;rw[XA]at b;omega
theorem XB(a:i9 x y)(b:i9 y x):x=y:=by rw[XA]at *;obtain⟨x1,z⟩:=x;obtain⟨I,O⟩:=y;simp only[Prod.mk.injEq]at *;omega
section
variable(key:Nat->Int×Int)
noncomputable def vA(p:Array Nat)(i:Nat):Int×Int:=key<|p.getD i 0
noncomputable def iU(i j:Nat):Bool:=yT (key i)<|key j
noncomputable def qq(p:Array Nat)(n:Nat):Prop:=∀i j,i<=j->j<n->i9 (vA key p i) (vA key p j)
noncomputable def Dec(p:Array Nat)(n:Nat):Prop:=∀i j,i<=j->j<n->i9 (vA key p j) (vA key p i)
variable{key}
theorem kg(f:α->KasT β) : ∀t:KasT α,xt lt (t.bind f)=xt lt (f<|xt lt t)
 | .ret a=>rfl
 | .ask i j k=>kg f<|k<|lt i j
theorem kE(p:Array Nat)(i j):(kas_rev p i j).size=p.size:=mirror_size _ _ _ _
theorem BE(p:Array Nat)(i:Nat):vA key p i=key (p[i]?.getD 0):=by unfold vA;rw[Lu]
theorem aD(z:j<=p.size)(k:Nat):vA key (kas_rev p i j) k=if i<=k/\k<j then vA key p (i+j - 1 - k)else vA key p k:=by have:=getElem?_mirror_all (xs:=p) (i:=i) z k;unfold vA kas_rev;rw[Lu,this];split<;>rw[Lu]
theorem ZF(I:j<=p.size)(z : ∀k,i<=k->k<j->vA key p k=vA key p (j - 1))(k:Nat):vA key (kas_rev p i j) k=vA key p k:=by
 rw[aD I];split
 ·rename_i h
  rw[z _ ⋯ ⋯,z k h.1 h.2]
 ·rfl
theorem lS(z:k<p.size)(I:l<=k)(i:Nat):vA key (bubble p k<|k - l) i=if i=l then vA key p k else if l<i/\i<=k then vA key p (i - 1)else vA key p i:=by
 have:=getElem?_bubble (xs:=p) z (k - l) ⋯ i;rw[show k - (k - l)=l by omega]at this;simp only[BE];rw[this];split
 ·rfl
 ·split<;>rfl
theorem fX(C:1<=n)(hs:qq key p n)(h:i9 (vA key p<|n - 1) (vA key p n)):qq key p (n+1):=λi j z O=>by
 by_cases e:j=n
 ·subst e
  by_cases I:i=j
  ·subst I;exact vF _
  ·exact vE (hs i (j - 1) ⋯ ⋯) h
 ·exact hs i j z ⋯
theorem Zs(C:1<=n)(hs:Dec key p n)(h:i9 (vA key p n) (vA key p<|n - 1)):Dec key p (n+1):=λi j z O=>by
 by_cases e:j=n
 ·subst e
  by_cases I:i=j
  ·subst I;exact vF _
  ·exact vE h<|hs i (j - 1) ⋯ ⋯
 ·exact hs i j z ⋯
theorem eG(p:Array Nat) : ∀(f n:Nat),1<=n->qq key p n->n<=xt (iU key) (kas_asc p f n)/\xt (iU key) (kas_asc p f n)<=n+f/\qq key p (xt (iU key)<|kas_asc p f n)/\(xt (iU key) (kas_asc p f n)=n+f\/yT (vA key p<|xt (iU key)<|kas_asc p f n) (vA key p<|xt (iU key) (kas_asc p f n) - 1)=di)
 | 0,n,hn,hs=>⟨GQ _,GQ _,hs,.inl rfl⟩
 | f+1,n,hn,hs=>by
  have e:xt (iU key) (kas_asc p (f+1) n)=xt (iU key) (if yT (vA key p n) (vA key p<|n - 1)=di then .ret n else kas_asc p f (n+1)):=rfl;rw[e];by_cases c:yT (vA key p n) (vA key p<|n - 1)=di
  ·rw[RY c]
   exact⟨GQ _,by show n<=n+(f+1);omega,hs,.inr c⟩
  ·rw[EQ c]
   obtain⟨O,U,z,I⟩:=eG p f (n+1) ⋯ (fX hn hs<|by unfold i9;simpa using c);exact⟨by omega,by omega,z,I.imp (λh=>by omega) id⟩
noncomputable def FG(key:Nat->Int×Int)(p:Array Nat)(n q:Nat):Prop:=q+1<=n/\∀i,n - (q+1)<=i->i<n->vA key p i=vA key p (n - 1)
theorem Vd(p:Array Nat)(C:1<=n):FG key p n 0:=⟨C,λi a b=>by rw[show i=n - 1 by omega]⟩
theorem XM : ∀(f:Nat) (p:Array Nat) (n q:Nat),Dec key p n->FG key p n q->n+f<=p.size->
 ∃p' n' z,xt (iU key) (kas_desc f p n q)=(p',n',z)/\p'.size=p.size/\n<=n'/\n'<=n+f/\Dec key p' n'/\FG key p' n' z
 | 0,p,n,q,hd,hb,_=>⟨p,n,q,rfl,rfl,GQ _,GQ _,hd,hb⟩
 | f+1,p,n,q,hd,hb,hs=>by
  have b:1<=n:=by have:=hb.1;omega
  have e:xt (iU key) (kas_desc (f+1) p n q)=xt (iU key) (if yT (vA key p n) (vA key p<|n - 1)=di then (if q>0 then kas_desc f (kas_rev p (n - (q+1)) n) (n+1) 0 else kas_desc f p (n+1) 0)
   else .ask (p.getD (n - 1) 0) (p.getD n 0) λd=>if d=di then .ret (p,n,q)else kas_desc f p (n+1) (q+1)):=rfl
  rw[e];by_cases c:yT (vA key p n) (vA key p<|n - 1)=di
  ·rw[RY c]
   by_cases l:q>0
   ·rw[RY l]
    have k:=ZF (key:=key) (p:=p) (i:=n - (q+1)) (j:=n) ⋯ hb.2;have o:Dec key (kas_rev p (n - (q+1)) n) (n+1):=λi j r w=>by rw[k,k];exact Zs b hd (vG c) i j r w
    obtain⟨p',n',z,a,I,g,h,O,U⟩:=XM f (kas_rev p (n - (q+1)) n) (n+1) 0 o (Vd _ ⋯) (by rw[kE];omega);exact⟨p',n',z,a,by rw[I,kE],by omega,by omega,O,U⟩
   ·rw[EQ l]
    obtain⟨p',n',z,a,I,g,h,O,U⟩:=XM f p (n+1) 0 (Zs b hd<|vG c) (Vd _ ⋯) ⋯;exact⟨p',n',z,a,I,by omega,by omega,O,U⟩
  ·rw[EQ c]
   have t:xt (iU key) (.ask (p.getD (n - 1) 0) (p.getD n 0) λd=>if d=di then .ret (p,n,q)else kas_desc f p (n+1) (q+1))=xt (iU key) (if yT (vA key p<|n - 1) (vA key p n)=di then .ret (p,n,q)else kas_desc f p (n+1) (q+1)):=rfl;rw[t];by_cases d:yT (vA key p<|n - 1) (vA key p n)=di
   ·rw[RY d]
    exact⟨p,n,q,rfl,rfl,GQ _,by omega,hd,hb⟩
   ·rw[EQ d]
    have x:i9 (vA key p<|n - 1) (vA key p n):=by unfold i9;simpa using c
    have m:i9 (vA key p n) (vA key p<|n - 1):=by unfold i9;simpa using d
    have eq:=XB x m;have s:FG key p (n+1) (q+1):=⟨by have:=hb.1;omega,λi y A=>by
     rw[Nat.add_sub_cancel];by_cases u:i=n
     ·rw[u]
     ·rw[hb.2 i ⋯ ⋯,eq]⟩
    obtain⟨p',n',z,a,I,g,h,O,U⟩:=XM f p (n+1) (q+1) (Zs b hd m) s ⋯;exact⟨p',n',z,a,I,by omega,by omega,O,U⟩
noncomputable def fu(key:Nat->Int×Int)(C nrem:Nat)(r:Nat×Array Nat):Prop:=1<=r.1/\r.1<=nrem/\r.2.size=C/\qq key r.2 r.1
theorem Vy(J:1<=n)(O:n<=nrem)(hs:nrem<=p.size)(C:Dec key p n):fu key p.size nrem (xt (iU key)<|kas_tail3 n nrem p):=by
 have z:qq key (kas_rev p 0 n) n:=λi j U d=>by rw[aD ⋯,aD ⋯,RY ⟨by omega,by omega⟩,RY ⟨by omega,by omega⟩];exact C _ _ ⋯ ⋯
 obtain⟨a,b,I,_⟩:=eG (kas_rev p 0 n) (nrem - n) n J z;unfold kas_tail3;rw[kg];exact⟨by show 1<=xt _ _;omega,by show xt _ _<=nrem;omega,kE _ _ _,I⟩
theorem cp(J:1<=n)(L:n<nrem)(hs:nrem<=p.size)(O : ∀i,i<n->vA key p i=vA key p (n - 1))(C:yT (vA key p n) (vA key p<|n - 1)=di):fu key p.size nrem (xt (iU key)<|kas_descPart n nrem p):=by
 have k:Dec key p n:=λi j U I=>by rw[O i ⋯,O j I];exact vF _
 obtain⟨b,a,z,g,d,l,m,e,h⟩:=XM (nrem - (n+1)) p (n+1) 0 (Zs J k<|vG C) (Vd _ ⋯) ⋯;unfold kas_descPart;rw[kg,g];show fu key p.size nrem (xt (iU key)<|if z>0 then kas_tail3 a nrem (kas_rev b (a - (z+1)) a)else kas_tail3 a nrem b);split
 ·have f:=ZF (key:=key) (p:=b) (i:=a - (z+1)) (j:=a) ⋯ h.2
  have:=Vy (p:=kas_rev b (a - (z+1)) a) (n:=a) (nrem:=nrem) ⋯ ⋯ (by rw[kE];omega) (λi j U I=>by rw[f,f];exact e i j U I);rw[kE,d]at this;exact this
 ·have:=Vy (p:=b) (n:=a) (nrem:=nrem) ⋯ ⋯ ⋯ e
  rw[d]at this;exact this
theorem lB(C:1<=nrem)(hs:nrem<=p.size):fu key p.size nrem (xt (iU key)<|kas_count nrem p):=by
 have g:qq key p 1:=λi j o s=>by rw[show i=j by omega];exact vF _
 obtain⟨z,f,I,U⟩:=eG p (nrem - 1) 1 (GQ _) g;unfold kas_count;rw[kg];generalize xt (iU key) (kas_asc p (nrem - 1) 1)=n at z f I U;show fu key p.size nrem (xt (iU key)<|if (n==nrem)=di then .ret (n,p)else if n>1 then .ask (p.getD 0 0) (p.getD (n - 1) 0) λc=>if c=di then .ret (n,p)else kas_descPart n nrem (kas_rev p 0 n)else kas_descPart n nrem p);split
 ·rename_i h
  have:=eq_of_beq h;exact⟨z,by show n<=nrem;omega,rfl,I⟩
 ·rename_i h
  have r:n≠nrem:=λe=>h (by rw[e];exact beq_self_eq_true _);have b:yT (vA key p n) (vA key p<|n - 1)=di:=U.resolve_left ⋯;split
  ·have e:xt (iU key) (.ask (p.getD 0 0) (p.getD (n - 1) 0) λc=>if c=di then .ret (n,p)else kas_descPart n nrem (kas_rev p 0 n))=xt (iU key) (if yT (vA key p 0) (vA key p<|n - 1)=di then .ret (n,p)else kas_descPart n nrem (kas_rev p 0 n)):=rfl
   rw[e];split
   ·exact⟨z,by show n<=nrem;omega,rfl,I⟩
   ·rename_i c
    have l:i9 (vA key p<|n - 1) (vA key p 0):=by unfold i9;simpa using c
    have d : ∀i,i<n->vA key p i=vA key p (n - 1):=λi a=>XB (I i (n - 1) ⋯ ⋯)<|vE l<|I 0 i ⋯ a;have O:=ZF (key:=key) (p:=p) (i:=0) (j:=n) ⋯<|λk _ m=>d k m;have:=cp (key:=key) (p:=kas_rev p 0 n) (n:=n) (nrem:=nrem) z ⋯ (by rw[kE];omega) (λi a=>by rw[O,O];exact d i a) (by rw[O,O];exact b);rw[kE]at this;exact this
  ·exact cp z ⋯ hs (λi a=>by rw[show i=n - 1 by omega]) b
theorem Xo(hs:qq key p k) : ∀(f l r:Nat),l<=r->r<=k->r - l<=f->(∀i,i<l->i9 (vA key p i) (vA key p k))->(∀i,r<=i->i<k->yT (vA key p k) (vA key p i)=di)->
 xt (iU key) (kas_place p k f l r)<=k/\(∀i,i<xt (iU key) (kas_place p k f l r)->i9 (vA key p i) (vA key p k))/\∀i,xt (iU key) (kas_place p k f l r)<=i->i<k->yT (vA key p k) (vA key p i)=di
 | 0,l,r,h1,h2,h3,h4,h5=>⟨by show l<=k;omega,h4,λi a z=>h5 i (by have:l<=i:=a;omega) z⟩
 | f+1,l,r,h1,h2,h3,h4,h5=>by
  have e:xt (iU key) (kas_place p k (f+1) l r)=xt (iU key) (if l>=r then .ret l else .ask (p.getD k 0) (p.getD ((l+r)/2) 0) λc=>if c=di then kas_place p k f l ((l+r)/2)else kas_place p k f ((l+r)/2+1) r):=rfl;rw[e];by_cases I:l>=r
  ·rw[RY I]
   exact⟨by show l<=k;omega,h4,λi a z=>h5 i (by have:l<=i:=a;omega) z⟩
  ·rw[EQ I]
   have O:xt (iU key) (.ask (p.getD k 0) (p.getD ((l+r)/2) 0) λc=>if c=di then kas_place p k f l ((l+r)/2)else kas_place p k f ((l+r)/2+1) r)=xt (iU key) (if yT (vA key p k) (vA key p<|(l+r)/2)=di then kas_place p k f l ((l+r)/2)else kas_place p k f ((l+r)/2+1) r):=rfl;rw[O];by_cases c:yT (vA key p k) (vA key p<|(l+r)/2)=di
   ·rw[RY c]
    exact Xo hs f l ((l+r)/2) ⋯ ⋯ ⋯ h4 λi a z=>uK c<|hs _ _ a z
   ·rw[EQ c]
    have U:i9 (vA key p<|(l+r)/2) (vA key p k):=by unfold i9;simpa using c
    exact Xo hs f ((l+r)/2+1) r ⋯ h2 ⋯ (λi a=>vE (hs i ((l+r)/2) ⋯ ⋯) U) h5
theorem tU(I:k<p.size)(O:l<=k)(hs:qq key p k)(C : ∀i,i<l->i9 (vA key p i) (vA key p k))(h2 : ∀i,l<=i->i<k->yT (vA key p k) (vA key p i)=di):qq key (bubble p k<|k - l) (k+1):=λi j d e=>by
 rw[lS I O,lS I O];by_cases b:i=l
 ·subst b
  rw[RY rfl];by_cases z:j=i
  ·rw[RY z];exact vF _
  ·rw[EQ z,RY ⟨by omega,by omega⟩]
   exact vG<|h2 _ ⋯ ⋯
 ·rw[EQ b]
  by_cases U:l<i/\i<=k
  ·rw[RY U,EQ (show ¬j=l by omega),RY ⟨by omega,by omega⟩]
   exact hs _ _ ⋯ ⋯
  ·rw[EQ U]
   by_cases z:j=l
   ·rw[RY z];exact C i ⋯
   ·rw[EQ z]
    by_cases a:l<j/\j<=k
    ·rw[RY a];exact hs _ _ ⋯ ⋯
    ·rw[EQ a];exact hs _ _ d ⋯
theorem mP : ∀(f:Nat) (p:Array Nat) (k n:Nat),k+f=n->p.size=n->qq key p k->qq key (xt (iU key)<|kas_bin f p k) n/\(xt (iU key)<|kas_bin f p k).size=n
 | 0,p,k,n,h1,h2,hs=>by
  obtain rfl:k=n:=by omega
  exact⟨hs,h2⟩
 | f+1,p,k,n,h1,h2,hs=>by obtain⟨z,I,O⟩:=Xo hs k 0 k ⋯ (GQ _) ⋯ (λi b=>by omega) (λi U a=>by omega);unfold kas_bin;rw[kg];exact mP f _ (k+1) n ⋯ (by rw[bubble_size];exact h2)<|tU ⋯ z hs I O
theorem nO(C:1<=n):qq key (xt (iU key)<|kas_sort n) n/\(xt (iU key)<|kas_sort n).size=n:=by
 have a:(Lv<|GH n).size=n:=by simp
 obtain⟨I,O,U,z⟩:=lB (key:=key) (p:=Lv<|GH n) (nrem:=n) C ⋯;unfold kas_sort;rw[kg];generalize xt (iU key) (kas_count n<|Lv<|GH n)=r at I O U z;show qq key (xt (iU key)<|if r.1<n then kas_bin (n - max r.1 1) r.2 (max r.1 1)else .ret r.2) n/\(xt (iU key)<|if r.1<n then kas_bin (n - max r.1 1) r.2 (max r.1 1)else .ret r.2).size=n;rw[show max r.1 1=r.1 by omega];split
 ·exact mP (n - r.1) r.2 r.1 n ⋯ ⋯ z
 ·have:r.1=n:=by omega
  rw[this]at z;exact⟨z,by show r.2.size=n;omega⟩
end
theorem wM(bs:List (Int×Int)):(yc bs).Pairwise i9:=by
 unfold yc jZ;by_cases h:bs.length<2
 ·rw[RY h]
  rcases bs with _ | ⟨a,_ | ⟨b,bs⟩⟩
  ·exact LF.nil
  ·exact List.pairwise_singleton _ _
  ·simp only[ID]at h;omega
 ·rw[EQ h]
  obtain⟨f,g⟩:=nO (key:=λi=>bs.getD i (0,0)) (n:=bs.length) ⋯;have e:(xt (λi j=>yT (bs.getD i (0,0))<|bs.getD j (0,0))<|kas_sort bs.length)=xt (iU λi=>bs.getD i (0,0)) (kas_sort bs.length):=rfl;rw[e];generalize xt (iU λi=>bs.getD i (0,0)) (kas_sort bs.length)=p at f g;rw[Lc];intro i j d z I;simp only[GY,Im]at d z;have:=f i j ⋯ ⋯;unfold vA at this;simp only[Lu,Array.getElem?_eq_getElem d,Array.getElem?_eq_getElem z,Mh]at this;simpa using this
theorem ZN : ∀{a b:List (Int×Int)},a.Perm b->a.Pairwise i9->b.Pairwise i9->a=b
 | [],b,h,_,_=>by rw[h.nil_eq]
 | x::a,[],h,_,_=>by have:=h.length_eq;simp at this
 | x::a,y::b,h,ha,hb=>by
  have d:x∈y::b:=h.mem_iff.mp Ha;have I:y∈x::a:=h.mem_iff.mpr Ha;have e:x=y:=by
   rcases GW.mp d with e | e
   ·exact e
   ·rcases GW.mp I with z | z
    ·exact z.symm
    ·exact XB (List.rel_of_pairwise_cons ha z)<|List.rel_of_pairwise_cons hb e
  subst e;rw[ZN (List.Perm.cons_inv h) ha.of_cons hb.of_cons]
theorem ZP(h:a.Perm b):yc a=yc b:=
 ZN ((yE a).trans (h.trans (yE b).symm)) (wM a) (wM b)
end DL
namespace DL
open PySem L2
section
variable{p:Int}
noncomputable def dF(h w:Nat)(f:RK):List D:=(GH h).map λi=>D.lst<|zB w<|f i
@[simp] theorem Ah(h w f):(dF h w f).length=h:=by simp[dF]
end
@[simp] theorem rM(h w f):(dF h w f).length=h:=by simp[dF]
section
variable{p:Int}{h w q r:Nat}
noncomputable def app(f:RK)(w:Nat)(v:Vc):Vc:=λi=>zk (λj=>f i j*v j) w
theorem Vh(z : ∀j,j<w->v j%p=(u j+c*g j)%p)(i:Nat):app f w v i%p=(app f w u i+c*app f w g i)%p:=by
 unfold app;have e:zk (λj=>f i j*v j) w%p=zk (λj=>f i j*u j+c*(f i j*g j)) w%p:=zK λj I=>by rw[GR,z j I,<- GR,LQ,LI]
 rw[e,jv,jo]
theorem Zz(z : ∀j,j<w->v j%p=0)(i:Nat):app f w v i%p=0:=by
 unfold app;have:zk (λj=>f i j*v j) w%p=zk (λ_=>0) w%p:=zK λj I=>by rw[GR,z j I];simp
 rw[this,zT];rfl
theorem jC(z : ∀j,j<w->v j%p=u j%p)(i:Nat):app f w v i%p=app f w u i%p:=by unfold app;exact zK λj I=>by rw[GR,z j I,<- GR]
theorem Wy(O:hR p (h+w) r B l)(hs:s<=r)(J : ∀k,k<s->l k<h)(C : ∀k,s<=k->k<r->h<=l k) :
 hR p w (r - s) (λk j=>B (s+k)<|h+j) (λk=>l (s+k) - h)/\∀v,Span p w (eF (r - s) λk j=>B (s+k)<|h+j) v↔Span p (h+w) (eF r B) (yb h (λ_=>0) v):=by
 refine⟨{
  lt:=λk I=>by have:=O.lt (s+k) ⋯;have:=C (s+k) ⋯ ⋯;omega
  mono:=λk m I x=>by have:=O.mono (s+k) (s+m) ⋯ ⋯;have:=C (s+k) ⋯ ⋯;omega
  one:=λk I=>by have:=C (s+k) ⋯ ⋯;rw[show h+(l (s+k) - h)=l (s+k)by omega];exact O.one _ ⋯
  l5:=λk j I t=>O.l5 _ _ ⋯ ⋯
  p6:=λk m I x E=>by have:=C (s+m) ⋯ ⋯;rw[show h+(l (s+m) - h)=l (s+m)by omega];exact O.p6 _ _ ⋯ ⋯ ⋯
  lU:=λk i I b=>O.lU _ _ ⋯ ⋯},λv=>⟨λU=>?_,λU=>?_⟩⟩
 ·induction U with
  | @zero v y=>
   refine .zero λi b=>?_;rcases Hg i h with z | z
   ·rw[j4 z];simp
   ·obtain⟨k,rfl⟩ : ∃k,i=h+k:=⟨i - h,by omega⟩
    rw[qm];exact y k ⋯
  | @step v u g c o G n a=>
   obtain⟨k,I,rfl⟩:=o;refine .step (g:=B<|s+k) (c:=c) ⟨s+k,by omega,rfl⟩ a λi b=>?_;rcases Hg i h with z | z
   ·rw[j4 z,j4 z,O.l5 (s+k) i ⋯ (by have:=C (s+k) ⋯ ⋯;omega)];simp
   ·obtain⟨j,rfl⟩ : ∃k,i=h+k:=⟨i - h,by omega⟩
    rw[qm,qm];exact n j ⋯
 ·have e:=Zi O U
  refine(Span.sum (u:=λk j=>B (s+k)<|h+j) (λk=>yb h (λ_=>0) v<|l<|s+k) (m:=r - s) λk I=> .gen ⟨k,I,rfl⟩).congr λj t=>?_;have:=e (h+j) ⋯;rw[qm]at this;rw[this];obtain⟨d,rfl⟩ : ∃d,r=s+d:=⟨r - s,by omega⟩;rw[IC];have A : ∀(F:Nat->Int) (d:Nat),(∀k,k<s->F k=0)->zk F (s+d)=zk (λk=>F<|s+k) d:=by
   intro F d f
   induction d with
   | zero=>
    show zk F s=0;rw[zy (g:=λ_=>0) f,zT]
   | succ d a=>rw[<- MU];simp only[zk];rw[a]
  rw[A _ d λk I=>by rw[j4 (J k I)];simp]
end
section
variable{p:Int}{h w q:Nat}
noncomputable def qN(h w:Nat)(f:RK)(g:Nat->Vc):Nat->Vc:=λm=>if m<w then yb h (λi=>f i m) (jM m)else yb h (g<|m - w) (λ_=>0)
theorem dC(f:RK)(g:Nat->Vc):zX w (h+w) (λj=>yb h (λi=>f i j)<|jM j)++zX q (h+w) (λk=>yb h (g k) λ_=>0)=zX (w+q) (h+w) (qN h w f g):=by
 unfold zX;rw[MG,Ih,HD];congr 1
 ·refine Hk λm a=>?_
  unfold qN;rw[RY (eY.mp a)]
 ·refine Hk λm a=>?_
  simp only[Function.comp];unfold qN;rw[EQ ⋯,IC]
theorem vQ(f:RK)(z:j<w)(i:Nat):app f w (jM j) i=f i j:=by unfold app;rw[zQ (f:=λk=>f i k*jM j k) z λk _ I=>by simp[jM,Hu I]];simp[jM]
theorem cv(I:Span p (h+w) (eF (w+q)<|qN h w f g) z):Span p h (eF q g) λi=>z i - app f w (λj=>z<|h+j) i:=by
 induction I with
 | @zero z I=>
  refine .zero λi a=>?_;rw[IL,I i ⋯,Zz (p:=p) (λj n=>I (h+j) ⋯) i];simp
 | @step z u o c l s d e=>
  obtain⟨m,r,rfl⟩:=l;have k:=λi=>Vh (p:=p) (w:=w) (f:=f) (u:=λj=>u<|h+j) (g:=λj=>qN h w f g m<|h+j) (v:=λj=>z<|h+j) (c:=c) (λj n=>d (h+j) ⋯) i;have b : ∀i,i<h->(z i - app f w (λj=>z<|h+j) i)%p=((u i - app f w (λj=>u<|h+j) i)+c*(qN h w f g m i - app f w (λj=>qN h w f g m<|h+j) i))%p:=λi a=>by rw[IL,d i ⋯,k i,<- IL];congr 1;rw[Int.mul_sub];omega
  rcases Hg m w with O | O
  ·refine e.congr λi a=>?_
   rw[b i a];have t:app f w (λj=>qN h w f g m<|h+j) i=f i m:=by
    have:(λj=>qN h w f g m<|h+j)=jM m:=by funext j;unfold qN;rw[RY O,qm]
    rw[this,vQ f O]
   have U:qN h w f g m i=f i m:=by unfold qN;rw[RY O,j4 a]
   rw[t,U];simp
  ·refine .step (g:=g<|m - w) (c:=c) ⟨m - w,by omega,rfl⟩ e λi a=>?_
   rw[b i a];have t:app f w (λj=>qN h w f g m<|h+j) i=0:=by
    have:(λj=>qN h w f g m<|h+j)=λ_=>0:=by funext j;unfold qN;rw[EQ ⋯,qm]
    rw[this];unfold app;simp[zT]
   have U:qN h w f g m i=g (m - w) i:=by unfold qN;rw[EQ ⋯,j4 a]
   rw[t,U];simp
theorem pH(I:Span p h (eF q g) y):Span p (h+w) (eF (w+q)<|qN h w f g) (yb h y λ_=>0):=by
 induction I with
 | @zero y O=>
  refine .zero λi b=>?_;rcases Hg i h with z | z
  ·rw[j4 z];exact O i z
  ·obtain⟨k,rfl⟩ : ∃k,i=h+k:=⟨i - h,by omega⟩
   rw[qm];simp
 | @step y u l c U n a d=>
  obtain⟨k,m,rfl⟩:=U;refine .step (g:=qN h w f g<|w+k) (c:=c) ⟨w+k,by omega,rfl⟩ d λi b=>?_;have e:qN h w f g (w+k)=yb h (g k) λ_=>0:=by unfold qN;rw[EQ ⋯,IC]
  rw[e];rcases Hg i h with z | z
  ·rw[j4 z,j4 z,j4 z];exact a i z
  ·obtain⟨j,rfl⟩ : ∃k,i=h+k:=⟨i - h,by omega⟩
   rw[qm,qm,qm];simp
theorem XY(hp:Pr p)(hh:h<=20)(hw:w<=20)(hq:q<=100)(f:RK)(g:Nat->Vc) :
 ∃r B l,xf [.int p,qk h w f,.lst (zX q h g)]=bQ (.own<|zX r w B)/\hR p w r B l/\∀v,Span p w (eF r B) v↔Span p h (eF q g) (app f w v):=by
 have hl:=jm;have W:h<=lim:=by omega
 have I:w<=lim:=by omega
 have U:h+w<=lim:=by omega
 have X:q<=lim:=by omega
 have o:w+q<=lim:=by omega
 obtain⟨r,B,l,e,O,H⟩:=xm hp (show h+w<=100 by omega) o .L<|qN h w f g;have Y:r<=h+w:=YQ O.mono O.lt;obtain⟨s,x,C,E⟩:=Zm h O.mono;have M:=JI O ⋯ x C E;obtain⟨J,R⟩:=Wy O x C E;refine⟨r - s,_,_,?_,J,λv=>(R v).trans ((H _).trans ⟨λy=>?_,λy=>?_⟩)⟩
 ·have A:=yA f W I
  have F:=yz (n:=w) I;have d:zU (.tp [0,1]) jj (zH qC (zc 0)<|zc 1) [Cell.no,Cell.no] ((GH w).map λj=>D.tup [.tup (zB h λi=>f i j),.tup (zB w λk=>if j=k then 1 else 0)])=bQ (zX w (h+w) λj=>yb h (λi=>f i j)<|jM j):=by unfold zX;refine zw _ _ λj t=>zx rfl rfl ?_;simp[qC,U,Zr];rfl
  have S:JK (zX w h λi j=>f j i) (zX w w λi j=>if i=j then 1 else 0)=(GH w).map λj=>D.tup [.tup (zB h λi=>f i j),.tup (zB w λk=>if j=k then 1 else 0)]:=by unfold JK zX;rw[Mn];simp
  have K:inR (w:Int)=di:=ve I;have zr:yV (.tup [.int 0]) (.int w)=bQ (.tup<|zB w λ_=>0):=by
   show(if [D.int 0].length*(w:Int).toNat<=lim/\inR (w:Int)=di then bQ (D.tup (GO (w:Int).toNat [D.int 0]).flatten)else dj)=_;rw[RY ⟨by simpa using I,K⟩];congr 2;rw[IU];clear d S F A M J R H O e K o U I hw hq C E x Y
   induction w with
   | zero=>rfl
   | succ w ih=>rw[List.replicate_succ',List.flatten_append,ih];unfold zB;rw[IW,Ih];rfl
  have N:zU (.nm 0) jj (zH qC (zc 0)<|zH yV (qM<|zb (zu<|.int 0) zF)<|dn (zg 1)<|zu<|.int 1) [Cell.no,Cell.val (qk h w f)] (zX q h g)=bQ (zX q (h+w) λk=>yb h (g k) λ_=>0):=by unfold zX;refine zw _ _ λk Q=>zx rfl rfl ?_;have sq:z7 (qk h w f)=bQ (.T,[.int h,.int w,.tup (zX h w f)]):=rfl;simp[sq,zr,qC,U,Zr]
  have c1:((h:Int)+(w:Int))=((h+w:Nat):Int):=by omega
  simp only[p5]at e;rw[<- c1,<- dC]at e;have sq:z7 (qk h w f)=bQ (.T,[.int h,.int w,.tup (zX h w f)]):=rfl;unfold qk at A F N ⊢;simp[xf,jf,ja,jR,A,F,S,I,X,o,z6,xQ,GO,d,N,e,M]
 ·have:=cv y
  refine(this.smul (-1)).congr λi P=>?_;congr 1;show app f w v i = -1*(yb h (λ_=>0) v i - app f w (λj=>yb h (λ_=>0) v<|h+j) i);rw[j4 P,show(λj=>yb h (λ_=>0) v<|h+j)=v from funext λj=>qm j];omega
 ·have a:=Span.sum (p:=p) (n:=h+w) (G:=eF (w+q)<|qN h w f g) (u:=λj=>qN h w f g j) v (m:=w) λj t=> .gen ⟨j,by omega,rfl⟩
  have b:=pH (w:=w) (f:=f) y;refine(b.add a (-1)).congr λi P=>?_;congr 1;rcases Hg i h with z | z
  ·rw[j4 z,j4 z]
   have:zk (λk=>v k*qN h w f g k i) w=app f w v i:=by unfold app;exact zy λk Q=>by unfold qN;rw[RY Q,j4 z,Ib]
   rw[this];omega
  ·obtain⟨k,rfl⟩ : ∃k,i=h+k:=⟨i - h,by omega⟩
   rw[qm,qm];have:zk (λj=>v j*qN h w f g j (h+k)) w=v k:=by rw[zQ (f:=λj=>v j*qN h w f g j (h+k)) (i:=k) ⋯ λj t Z=>by unfold qN;rw[RY t,qm];simp[jM,Z]];unfold qN;rw[RY (show k<w by omega),qm];simp[jM]
   rw[this];simp
end
section
variable{p p':Int}{m m':Nat}{w w':RX}{wd wd':RZ}{T T':RV}
theorem eE(C:m<=900):yX [qW p m w wd T,qW p m w wd' T']=dj/\xk [qW p m w wd T,qW p m w wd' T']=bQ (.val .eX):=by
 have z:=XW (p:=p) (p':=p) (w:=w) (w':=w) (wd:=wd) (wd':=wd') (T:=T) (T':=T') C C;rw[decide_eq_true ⟨rfl,rfl,λ_ _=>rfl⟩]at z;constructor
 ·simp[yX,EH,ja,Fy,E7,rS,E8,z,GO]
 ·simp[xk,jf,ja,z,GO]
end
@[simp] noncomputable def Bz:=@sU.eq_1
section
variable{p:Int}{m:Nat}{w:RX}{wd:RZ}{T:RV}{a:Nat}
theorem Kd(F:Nat->Int)(s:Nat) : ∀d,zk F (s+d)=zk F s+zk (λk=>F<|s+k) d
 | 0=>by simp[zk]
 | d+1=>by rw[<- MU];simp only[zk];rw[Kd F s d];omega
abbrev lk(p:Int)(m:Nat)(w:RX)(wd:RZ)(T:RV)(i j:Int)(a:Nat)(ds:List D)(c:Cell):Ctx:=[.val (qW p m w wd T),.val (.int i),.val (.int j),.val (qk a a λi j=>if i=j then 1 else 0),.own ds,c]
end
@[simp] noncomputable def Aw:=@bq.eq_1
section
variable{p:Int}{m:Nat}{w:RX}{wd:RZ}{T:RV}
theorem yf:z7 (qW p m w wd T)=bQ (.T,[.int p,.tup<|zB (m+1) λk=>(wd k:Int),.tup (ku m w wd T)]):=rfl
end
@[simp] theorem Ax(γ:Ctx)(f):sQ f γ=(f γ).bind λd=>match d with
 | .str z=>if jV z=di then bQ (kO<|aW z)else dj
 | _=>dj:=rfl
@[simp] theorem By(γ:Ctx)(f g):BU f g γ=(f γ).bind λd=>(g γ).bind λe=>match d,e with
 | .str x,.str y=>if jV x=di/\jV y=di then bQ (.str<|x++y)else dj
 | _,_=>dj:=rfl
noncomputable def pr(a b:Nat):D:= .tup [.int a,.int b]
@[simp] theorem EK(a b):z7 (pr a b)=bQ (.T,[.int (a:Int),.int (b:Int)]):=rfl
section
variable{m a b c d:Nat}{w:RX}
theorem kW(C:m<=5){k:Nat}(z:k<m):qv [.str (xN m w),.int k]=bQ (.val<|.tup [.int ((zL w k:Nat):Int),.int ((zV w k:Nat):Int)]):=by have a:ye (zc 0) (zc 1) [Cell.val (.str<|xN m w),Cell.val (.int k)]=bQ (.str<|vW<|ji<|w k):=Ki w ⋯ z _ _ _ rfl rfl;simp only[qv,jf,ja,jR,GO,ID,LV];simp[-XS,a,pJ];cases h:w k<;>simp[h,zL,zV]
end
noncomputable def mk(lo:Nat)(ch:List Int)(r:Nat):Int:=if lo<=r then ch.getD (r - lo) 0 else 0
theorem Yy{C:List Int}(J:C.length<=63){r n:Nat}{t:Int}(ht:0<=t)(S:t<1000)(L:0<r)(Y:r<=6)(Z:n<=60) : ∃bs,qU [X0 C,.int t,.int n,.int r]=bQ (.own<|jE bs)/\(∀b∈bs,fC r b)/\bs.length=n:=by
 have M:=jm;have m:n<=lim:=by omega
 have j : ∀(k s:Nat) (acc:List (Int×Int)) (a d f:Cell),s+k=n->acc.length=s->(∀b∈acc,fC r b)->∃bs I O U,
  ka (.nm 5) (zP (jD 6<|zE jr<|zb (zc 0)<|zb (zH qC (zc 1)<|zc 5) zF)<|zP (jD 7<|zH ya (zc 6)<|zc 3)<|qi 4<|qM<|zb (zc 7)<|zb (zH qC (zc 7)<|zH ya (zH X3 (zc 6)<|zc 3)<|zH JY (zc 3)<|zc 7) zF) ((List.range' s k).map λ(i:Nat)=>D.int i)
   [.val (X0 C),.val<|.int t,.val<|.int n,.val<|.int r,.own<|jE acc,a,d,f]=bQ (.next [.val (X0 C),.val<|.int t,.val<|.int n,.val<|.int r,.own<|jE bs,I,O,U])/\(∀b∈bs,fC r b)/\bs.length=n:=by
  intro k
  induction k with
  | zero=>intro s acc a d f y l g;exact⟨acc,a,d,f,rfl,g,by omega⟩
  | succ k A=>
   intro s acc a d f y l g;obtain⟨x,H,K⟩:=Va J (k:=t+(s:Int)) ⋯ ⋯;have o:=Hw (km C<|t+(s:Int)) (show(r:Int)≠0 by omega);have p:=Hh (km C<|t+(s:Int)) (show(0:Int)<r by omega);have F:=Hw (km C (t+(s:Int))/r) (show(r:Int) - km C (t+(s:Int))%r≠0 by omega);have G:=Hh (km C (t+(s:Int))/r) (show(0:Int)<(r:Int) - km C (t+(s:Int))%r by omega);obtain⟨bs,I,O,U,h,g1,g2⟩:=A (s+1) (acc++[(km C (t+(s:Int))%r,km C (t+(s:Int))%r+km C (t+(s:Int))/r%((r:Int) - km C (t+(s:Int))%r))]) (.val<|.int s) (.val<|.int<|km C<|t+(s:Int)) (.val<|.int<|km C (t+(s:Int))%r) ⋯ (by simp[l]) (λb z=>by
    rcases Lw.mp z with z | z
    ·exact g b z
    ·have e:b=_:=La.mp z
     subst e;exact⟨o,by show _<=_+_;omega,by show _+_<_;omega⟩)
   refine⟨bs,I,O,U,?_,g1,g2⟩;rw[<- h,NO,HC,qh];have u:acc.length<lim:=by omega
   have E:(0:Int)<r:=by omega
   have N:(0:Int)<(r:Int) - km C (t+(s:Int))%r:=by omega
   have B:(r:Int)<1073741824:=by omega
   simp[jR,x,E,L,p,u,B];simp[jE]
 obtain⟨bs,I,O,U,h,g1,g2⟩:=j n 0 [] .no .no .no ⋯ rfl ⋯;refine⟨yc bs,?_,λb z=>g1 b<|(yE bs).mem_iff.mp z,by rw[(yE bs).length_eq,g2]⟩;rw[<- Nh]at h;simp[qU,jf,ja,jR,m,jy,GO];rw[zW n λi=>(i:Int)];have w:(jE []:List D)=[]:=rfl;rw[w]at h;rw[h];simp[aQ (show bs.length<64 by omega)]
theorem rX{c:Int}(C:0<=c){m:Nat}(J:m<=5) : ∃w,xj [.int c,.int (1+(m:Int))]=bQ (.val<|.str<|xN m w):=by
 have e:=jm;have z:m<=lim:=by omega
 refine⟨λk=>decide (c/2 ^ k%2=1),?_⟩;have a:zU (.nm 0) jj (ye (zu (.str "rl")) (zH ya (zH X3 (zc 1) (dn (jP (qP (zb (zu (.int 1)) (zb (zu (.int 2)) (zb (zu (.int 4)) (zb (zu (.int 8)) (zb (zu (.int 16)) zF))))))) (zc 0))) (zu (.int 2)))) [Cell.no,Cell.val (.int c)] ((GH m).map λi:Nat=>D.int (i:Int)) =
  bQ ((GH m).map λ(k:Nat)=>D.str<|vW<|ji<|decide<|c/2 ^ k%2=1):=by
  refine zw _ _ λk I=>zx rfl rfl ?_;have I:=eY.mp I;have O:zH ya (zH X3 (zc 1)<|dn (jP<|qP<|zb (zu<|.int 1)<|zb (zu<|.int 2)<|zb (zu<|.int 4)<|zb (zu<|.int 8)<|zb (zu<|.int 16) zF)<|zc 0) (zu<|.int 2) [Cell.val (.int k),Cell.val (.int c)]=bQ (.int<|c/2 ^ k%2):=by
   have U:k=0\/k=1\/k=2\/k=3\/k=4:=by omega
   rcases U with rfl | rfl | rfl | rfl | rfl<;>simp[z7,hB]
  show ye _ _ [Cell.val (.int k),Cell.val (.int c)]=_;rw[XS,O];have q:c/2 ^ k%2=0\/c/2 ^ k%2=1:=by omega
  rcases q with q | q
  ·rw[q];rfl
  ·rw[q];rfl
 have all1:((GH m).map λ(k:Nat)=>vW<|ji<|decide<|c/2 ^ k%2=1).all jV=di:=by
  rw[List.all_map];exact IP.mpr λk _=>by show jV (vW _)=di;rfl
 have d:jV ("" : Str)=di:=rfl;have b:(1:Int)+(m:Int) - 1=(m:Int):=by omega
 simp[xj,jf,ja,jR,b,z,jy,z6,xQ,GO];rw[zW m λi=>(i:Int)];rw[a];simp only[Iw,GV,Function.comp];rw[Xb];simp only[GV];rw[RY ⟨by simpa using z,IP.mp all1,d⟩];rfl
noncomputable def j8(h w:Nat)(f:RK):List D:=(GH h).map λi=>D.lst<|zB w<|f i
@[simp] theorem Xz(h w f):(j8 h w f).length=h:=by simp[j8]
theorem ko(ds:List D):z7 (.lst ds)=bQ (.L,ds):=rfl
theorem yL(ds:List D):z7 (.tup ds)=bQ (.T,ds):=rfl
theorem kD(s:Nat)(f:Nat->α):(GH<|s+1).map f=(GH s).map f++[f s]:=by rw[IW,Ih];rfl
theorem wA(w:RX)(wd:RZ)(k:Nat):wd (zV w k)=h8 w wd k:=by unfold zV h8;split<;>rfl
theorem ZE(w:RX)(wd:RZ)(k:Nat):wd (zL w k)=h9 w wd k:=by unfold zL h9;split<;>rfl
theorem wD{w:RX}{k m:Nat}(h:k<m):zV w k<m+1:=by unfold zV;split<;>omega
theorem wH{w:RX}{k m:Nat}(h:k<m):zL w k<m+1:=by unfold zL;split<;>omega
noncomputable def j7(m:Nat)(w:RX)(wd:RZ)(T:RV):List D:=(GH m).map λk=>D.lst<|j8 (h8 w wd k) (h9 w wd k)<|T k
noncomputable def qp(m:Nat)(w:RX)(wd:RZ)(T:RV):D:= .tup [.lst (zB (m+1) λk=>(wd k:Int)),.lst (j7 m w wd T)]
theorem sg(h w:Nat)(z:h<=lim)(f:RK)(γ:Ctx):zU (.nm 0) jj (je<|zg 0) [Cell.no] (j8 h w f)=bQ (zX h w f):=by unfold j8 zX;exact zw _ _ λk I=>zx rfl rfl rfl
theorem rW{m k:Nat}(h:k<m+1)(wd:RZ):(zB (m+1) λk=>(wd k:Int))[k]? = bQ (.int (wd k:Int)):=by unfold zB;simp[h]
theorem rV(m:Nat)(wd:RZ):(zB (m+1) λk=>(wd k:Int)).length=m+1:=by simp[zB]
theorem fS(m w wd T):(j7 m w wd T).length=m:=by simp[j7]
theorem nG{m k:Nat}(h:k<m)(w wd T):(j7 m w wd T)[k]? = bQ (.lst<|j8 (h8 w wd k) (h9 w wd k)<|T k):=by unfold j7;simp[h]
theorem eH(s w wd T):ku (s+1) w wd T=ku s w wd T++[vX w wd T s]:=kD _ _
noncomputable def Cu:=(zP (w6 (.tp [7,8])<|zE qv<|zb (zc 1)<|zb (zc 6) zF)<|zP (jD 9<|je<|jP<|zS (zN<|zA<|dn (zg 4)<|zc 6) (.nm 0) 1 [] jj (je<|zg 0))<|qi 5<|qM<|zb (ye (zc 1)<|zc 6)<|zb (qM<|zb (dn (zg 3)<|zc 8)<|zb (dn (zg 3)<|zc 7)<|zb (zc 9) zF) zF)
theorem Wd{p:Int}{m:Nat}(L:m<=4)(w:RX){wd:RZ}(C : ∀k,wd k<=9)(T:RV) :
 qV [.int p,.str<|xN m w,qp m w wd T]=bQ (.val<|qW p m w wd T):=by
 have K:=jm;have n : ∀k,h8 w wd k<=10:=λk=>by rw[<- wA];have:=C<|zV w k;omega
 have wl:=vk m w;have o:=kc w (show m<=1000 by omega);have y:(w6 (.tp [3,4])<|zc 2) (ja 10 [.int p,.str<|xN m w,qp m w wd T])=bQ (.next [.val (.int p),.val<|.str<|xN m w,.val<|qp m w wd T,.val<|.lst<|zB (m+1) λk=>(wd k:Int),.val<|.lst<|j7 m w wd T,.no,.no,.no,.no,.no]):=rfl;have A:(xn 5<|qP zF) [.val (.int p),.val<|.str<|xN m w,.val<|qp m w wd T,.val<|.lst<|zB (m+1) λk=>(wd k:Int),.val<|.lst<|j7 m w wd T,.no,.no,.no,.no,.no]=bQ (.next [.val (.int p),.val<|.str<|xN m w,.val<|qp m w wd T,.val<|.lst<|zB (m+1) λk=>(wd k:Int),.val<|.lst<|j7 m w wd T,.own [],.no,.no,.no,.no]):=rfl;obtain⟨J,B,⟨e,b,d,z,rfl⟩⟩:=qu (T:= .nm 6) (F:=Cu) (f:=k8<|zc 1) (γ:=[.val (.int p),.val<|.str<|xN m w,.val<|qp m w wd T,.val<|.lst<|zB (m+1) λk=>(wd k:Int),.val<|.lst<|j7 m w wd T,.own [],.no,.no,.no,.no])
  (λs γ=>∃e b d z,γ=[.val (.int p),.val<|.str<|xN m w,.val<|qp m w wd T,.val<|.lst<|zB (m+1) λk=>(wd k:Int),.val<|.lst<|j7 m w wd T,.own<|ku s w wd T,e,b,d,z]) m ⋯ (by simp[wl,o]) ⟨_,_,_,_,rfl⟩ (by
    rintro s a γ ⟨e,b,d,z,rfl⟩;refine⟨_,[.val (.int p),.val<|.str<|xN m w,.val<|qp m w wd T,.val<|.lst<|zB (m+1) λk=>(wd k:Int),.val<|.lst<|j7 m w wd T,.own<|ku (s+1) w wd T,.val<|.int (s:Int),.val<|.int ((zL w s:Nat):Int),.val<|.int ((zV w s:Nat):Int),.val (.tup<|zX (h8 w wd s) (h9 w wd s)<|T s)],rfl,?_,⟨_,_,_,_,rfl⟩⟩;have u:=kW (w:=w) (show m<=5 by omega) a;have O:=wD (w:=w) a;have i:=wH (w:=w) a;have t:s<lim:=by omega
    have I:3<=lim:=by omega
    have r:2<=lim:=by omega
    have U:h8 w wd s<=lim:=by have:=n s;omega
    have x:(j8 (h8 w wd s) (h9 w wd s)<|T s).length<=lim:=by rw[Xz];exact U
    have tp:=sg (h8 w wd s) (h9 w wd s) U (T s) [];have g:=rW O wd;have h:=rW i wd;rw[wA w wd]at g;rw[ZE w wd]at h;have H:=nG a w wd T;have j:(w6 (.tp [7,8])<|zE qv<|zb (zc 1)<|zb (zc 6) zF) [.val (.int p),.val<|.str<|xN m w,.val<|qp m w wd T,.val<|.lst<|zB (m+1) λk=>(wd k:Int),.val<|.lst<|j7 m w wd T,.own<|ku s w wd T,.val<|.int (s:Int),b,d,z]=bQ (.next [.val (.int p),.val<|.str<|xN m w,.val<|qp m w wd T,.val<|.lst<|zB (m+1) λk=>(wd k:Int),.val<|.lst<|j7 m w wd T,.own<|ku s w wd T,.val<|.int (s:Int),.val<|.int ((zL w s:Nat):Int),.val<|.int ((zV w s:Nat):Int),z]):=by simp[u]
    refine zo j ?_;have l:(jD 9<|je<|jP<|zS (zN<|zA<|dn (zg 4)<|zc 6) (.nm 0) 1 [] jj (je<|zg 0)) [.val (.int p),.val<|.str<|xN m w,.val<|qp m w wd T,.val<|.lst<|zB (m+1) λk=>(wd k:Int),.val<|.lst<|j7 m w wd T,.own<|ku s w wd T,.val<|.int (s:Int),.val<|.int ((zL w s:Nat):Int),.val<|.int ((zV w s:Nat):Int),z]=bQ (.next [.val (.int p),.val<|.str<|xN m w,.val<|qp m w wd T,.val<|.lst<|zB (m+1) λk=>(wd k:Int),.val<|.lst<|j7 m w wd T,.own<|ku s w wd T,.val<|.int (s:Int),.val<|.int ((zL w s:Nat):Int),.val<|.int ((zV w s:Nat):Int),.val (.tup<|zX (h8 w wd s) (h9 w wd s)<|T s)]):=by simp only[QO,ao,wI,qA,vS,XT,vR,yx,eJ,Iq,IB,vg,qH,GV,Iw,ko,yw,fS,jq,a,if_true,H,x,z6,GO,MZ,Lz,tp,MD,MC]
    refine zo l ?_;have G:=Ki w (show m<=1000 by omega) a [.val (.int p),.val<|.str<|xN m w,.val<|qp m w wd T,.val<|.lst<|zB (m+1) λk=>(wd k:Int),.val<|.lst<|j7 m w wd T,.own<|ku s w wd T,.val<|.int (s:Int),.val<|.int ((zL w s:Nat):Int),.val<|.int ((zV w s:Nat):Int),.val (.tup<|zX (h8 w wd s) (h9 w wd s)<|T s)] (zc 1) (zc 6) rfl rfl;rw[eH,xI,eM,z9,G];simp only[eM,z9,eP,eJ,vR,yx,Iq,IB,ID,LV,IE,Nat.reduceAdd,vg,qH,q8,GV,Iw,ko,yw,rV,jq,O,i,g,h,if_true,I,r,Ys,t,MD,MC];rfl)
 have E:(jK<|qM<|zb (zc 0)<|zb (je<|zg 3)<|zb (je<|zg 5) zF) [.val (.int p),.val<|.str<|xN m w,.val<|qp m w wd T,.val<|.lst<|zB (m+1) λk=>(wd k:Int),.val<|.lst<|j7 m w wd T,.own<|ku m w wd T,e,b,d,z]=bQ (.ret<|.val<|qW p m w wd T):=by
  have I:3<=lim:=by omega
  simp[ko,I,qW]
 exact jw<|zo y<|zo A<|zo B E
section
variable{p:Int}{m:Nat}{w:RX}{wd wd':RZ}{T T' J:RV}
theorem nH(h w f):z7 (qk h w f)=bQ (.T,[.int (h:Int),.int (w:Int),.tup (zX h w f)]):=rfl
theorem dE{h i:Nat}(C:i<h)(w:Nat)(f:RK):(zX h w f)[i]? = bQ (.tup<|zB w<|f i):=by unfold zX;simp[C]
theorem QL(h w f):(zX h w f).length=h:=by simp[zX]
end
noncomputable def wl(l:List Bool):Str:=⟨⟨l.map ji⟩⟩
noncomputable def Cm(n k:Nat)(u:Nat->Int):Int:=if 0<k then (if k+1<n then u (k - 1)+(u (k+1)+0)else u (k - 1)+0)else if k+1<n then u (k+1)+0 else 0
noncomputable def mv(n k:Nat)(u:Nat->Int)(i:Nat):Int:=if i=k then Cm n k u - u k else u i
noncomputable def R0(n:Nat)(ks:List Nat)(u:Nat->Int):Nat->Int:=ks.foldl (λu k=>mv n k u) u
noncomputable def Pd(n:Nat)(ks:List Nat)(u:Nat->Int):Nat->Nat->Int
 | 0=>u
 | j+1=>R0 n ks<|Pd n ks u j
noncomputable def acc(n:Nat)(ks:List Nat)(u:Nat->Int):Nat->Nat->Int
 | 0=>λ_=>0
 | j+1=>λi=>acc n ks u j i+Pd n ks u j i
theorem XI(b:Bool):ix (.str (vW (ji b))) (.str "r")=bQ (.bl (!b)):=by cases b<;>kernel_rfl
abbrev TB:=Nat×Nat×(Nat->Nat->Int)
noncomputable def tD(t:TB):D:=qk t.1 t.2.1 t.2.2
theorem WW(bs):md (.lst<|jE bs)=di:=VW (n:=2) (by
 simp only[deep];have:ra (jE bs)<=1:=yK λd a=>by simp only[jE,Hj]at a;obtain⟨b,_,rfl⟩:=a;simp[deep,ra]
 omega) ⋯ (by
 simp only[i0];exact wt λd a=>by simp only[jE,Hj]at a;obtain⟨b,_,rfl⟩:=a;rfl)
noncomputable def J7(bs:List (Int×Int))(z us:List TB):D:= .tup [.lst (jE bs),.lst<|z.map tD,.lst (us.map tD)]
theorem nL:qb=jf 12 (zP L3<|zP L4<|zP fU sA):=rfl
section
variable{p:Int}{n:Nat}
theorem fT(hp:Pr p)(Y:n<=60){f g:RK}(h:Pair p n f g){u o:Nat}{tm:Int}(I:u<n)(O:o<n)(hc : ¬u=o)(ht:0<=tm/\tm<p)(C J L S Z:Cell) :
 ∃f' g' as,Pair p n f' g'/\BO [C,J,.val<|.int p,.val<|.int n,.own<|jh n f,.nest<|qQ n g,L,S,.val<|.int o,.val<|.int u,.val<|.int tm,Z]=bQ (.next [C,J,.val<|.int p,.val<|.int n,.own<|jh n f',.nest<|qQ n g',L,S,.val<|.int o,.val<|.int u,.val<|.int tm,as]):=by
 have B:=jm;have Y:n<=lim:=by omega
 have l:=hp.pos;have E:=hp.le;have r : ∀z:Int,0<=z%p/\z%p<p:=λz=>⟨Hw _ ⋯,Hh _ l⟩;have m : ∀x,QN tm x=di:=λx=>yW _ _ ⋯ ⋯;refine⟨λi j=>if i=o then (f o j+tm*f u j)%p else f i j,λi j=>if j=u then (g i u - tm*g i o)%p else g i j,.no,⟨λi j d U=>?_,λi j d U=>?_,?_,?_⟩,?_⟩
 ·by_cases e:i=o
  ·simp only[RY e];exact r _
  ·simp only[EQ e];exact h.bf i j d U
 ·by_cases e:j=u
  ·simp only[RY e];exact r _
  ·simp only[EQ e];exact h.bg i j d U
 ·refine fL (t:=tm) (u:=o) (o:=u) O I (Hu hc) h.fg (λi k _ _=>?_) (λk j _ _=>?_)
  ·by_cases e:i=o
   ·simp only[RY e];rw[Hn,e]
   ·simp only[EQ e,LA,LB]
  ·by_cases e:j=u
   ·simp only[RY e];rw[Hn,e,Int.neg_mul];rfl
   ·simp only[EQ e,LA,LB]
 ·refine aH (t:=tm) (u:=o) (o:=u) O I (Hu hc) h.gf (λi k _ _=>?_) (λk j _ _=>?_)
  ·by_cases e:i=o
   ·simp only[RY e];rw[Hn,e]
   ·simp only[EQ e,LA,LB]
  ·by_cases e:j=u
   ·simp only[RY e];rw[Hn,e,Int.neg_mul];rfl
   ·simp only[EQ e,LA,LB]
 ·have s:zU (.tp [0,1]) jj (zH ya (zH qC (zc 0)<|zH yV (zc 3)<|zc 1)<|zc 2) [Cell.no,Cell.no,Cell.val<|.int p,Cell.val (.int tm)] ((GH n).map λj=>D.tup [.int (f o j),.int (f u j)])=bQ (zB n λj=>(f o j+tm*f u j)%p):=by
   rw[zW];refine zw _ _ λj U=>zx rfl rfl ?_;simp[m,l]
  have y:=bu O f (λi j=>if i=o then (f o j+tm*f u j)%p else f i j) (λj=>(f o j+tm*f u j)%p) (λj _=>by simp) (λi j _ b _=>by simp[b]);have w : ∀a:Cell,xT 5 11 (zc 9) (zH ya (zH JY (dn (zg 11)<|zc 9)<|zH yV (zc 10)<|dn (zg 11)<|zc 8)<|zc 2) [C,J,.val<|.int p,.val<|.int n,a,.nest<|qQ n g,L,S,.val<|.int o,.val<|.int u,.val<|.int tm,Z] (qQ n g)=bQ (qQ n λi j=>if j=u then (g i u - tm*g i o)%p else g i j):=λa=>by
   unfold qQ;refine QJ _ λk A=>⟨.int<|(g k u - tm*g k o)%p,u,u,?_,rfl,?_,Y5 I _ _ _ ⋯ λi _ b=>by simp[b]⟩
   ·simp[yh,I,O,m,l]
   ·simp[I]
  simp[BO,jR,I,O,Y,z6,GO,QT,s,y,w]
theorem sf{C:List Int}(S:C.length<=63)(J:Pr p)(hn:n<=60){a:Int}(h0:0<=a)(h1:a<=10000) :
 ∃f g,Pair p n f g/\qb [X0 C,.int a,.int p,.int n]=bQ (.val<|.tup [.lst (jh n f),.lst (jh n g)]):=by
 have hl:=jm;have U:n<=lim:=by omega
 have M:=J.pos;have two:=J.two;have p7:=J.le;have B : ∀i:Nat,zU (.nm 0) jj (JQ<|zH ix (zc 1)<|zc 0) [Cell.no,Cell.val (.int i)] ((GH n).map λ(j:Nat)=>D.int j)=bQ (zB n<|g9 i):=λi=>by
  rw[zW];refine zw _ _ λj hj=>zx rfl rfl ?_;by_cases e:i=j
  ·subst e;simp[g9]
  ·have e' : ¬((i:Int)=(j:Int)):=by omega
   simp[g9,e,e']
 have W:zU (.nm 0) jj (jU<|zS (zR<|zc 1) (.nm 0) 1 [0] jj (JQ<|zH ix (zc 1)<|zc 0)) [Cell.no,Cell.val (.int n)] ((GH n).map λ(j:Nat)=>D.int j)=bQ (jh n g9):=by unfold jh;refine zw _ _ λi y=>zx rfl rfl ?_;simp[U,jy,z6,GO];rw[zW n λi=>(i:Int),B]
 have X:vf (.nm 0) (zS (zR<|zc 1) (.nm 0) 1 [0] jj (JQ<|zH ix (zc 1)<|zc 0)) [Cell.no,Cell.val (.int n)] ((GH n).map λ(j:Nat)=>D.int j)=bQ (qQ n g9):=by unfold qQ;refine Yg _ λi y=>⟨_,rfl,?_⟩;simp[U,jy,z6,GO];rw[zW n λi=>(i:Int),B]
 have w4:Pair p n g9 g9:=by
  have b : ∀i j:Nat,i<n->j<n->0<=g9 i j/\g9 i j<p:=λi j _ _=>by unfold g9;split<;>omega
  have u:ZD p n g9 g9:=λi j y hj=>by rw[zQ (i:=i) y λk _ Y=>by unfold g9;rw[EQ (Hu Y)];simp];simp[g9]
  exact⟨b,b,u,u⟩
 let γ:Cell->Cell->Cell->Cell->Cell->Cell->Cell->Cell->Ctx:=λc4 c5 r h d O I z=>[.val (X0 C),.val<|.int a,.val<|.int p,.val<|.int n,c4,c5,r,h,d,O,I,z];have s1:L3 (γ .no .no .no .no .no .no .no .no)=bQ (.next<|γ (.own<|jh n g9) .no .no .no .no .no .no .no):=by unfold L3;simp[γ,U,jy,z6,GO];rw[zW n λi=>(i:Int),W]
 have s2:L4 (γ (.own<|jh n g9) .no .no .no .no .no .no .no)=bQ (.next<|γ (.own<|jh n g9) (.nest<|qQ n g9) .no .no .no .no .no .no):=by unfold L4;simp[γ,U,jy,z6,GO];rw[zW n λi=>(i:Int),X];simp[QF,U]
 obtain⟨f,g,r,h,d,O,I,z,s,A⟩ : ∃f g r h d O I z,Pair p n f g/\fU (γ (.own<|jh n g9) (.nest<|qQ n g9) .no .no .no .no .no .no)=bQ (.next<|γ (.own<|jh n f) (.nest<|qQ n g) r h d O I z):=by
  have cm:QN 2 (n:Int)=di:=yW _ _ ⋯ ⋯;by_cases n0:n=0
  ·refine⟨g9,g9,.no,.no,.no,.no,.no,.no,w4,?_⟩
   have e:zR (zH JY (zH yV (zu<|.int 2)<|zc 3)<|zu<|.int 2) (γ (.own<|jh n g9) (.nest<|qQ n g9) .no .no .no .no .no .no)=bQ []:=by subst n0;rfl
   unfold fU;rw[JA,e];rfl
  obtain⟨γ',A,f,g,r,h,d,O,I,z,s,rfl⟩:=qu (T:= .nm 6) (F:=ED) (f:=zH JY (zH yV (zu<|.int 2)<|zc 3)<|zu<|.int 2)
   (λt w=>∃f g r h d O I z,Pair p n f g/\w=γ (.own<|jh n f) (.nest<|qQ n g) r h d O I z)
   (2*n - 2) ⋯ (γ:=γ (.own<|jh n g9) (.nest<|qQ n g9) .no .no .no .no .no .no) (by
     have:((2*n - 2:Nat):Int)=2*(n:Int) - 2:=by omega
     rw[this];simp[γ,cm]) ⟨g9,g9,.no,.no,.no,.no,.no,.no,w4,rfl⟩ (by
     rintro t ht w ⟨f,g,r,h,d,O,I,z,s,rfl⟩;have ca:2<=n:=by omega
     obtain⟨G,N,b1⟩:=Va S (k:=a+(t:Int)) ⋯ ⋯;generalize km C (a+(t:Int))=cell at G N b1;obtain⟨o,eo,ho⟩:=QA (m:=cell) (n:Int) ⋯;have x1:=Hw (cell/8) (show(n:Int) - 1≠0 by omega);have x2:=Hh (cell/8) (show 0<(n:Int) - 1 by omega);obtain⟨u,x,hu⟩:=QA (m:=(o:Int)+1+cell/8%((n:Int) - 1)) (n:Int) ⋯;have Z : ¬u=o:=λe=>by
      by_cases l:(o:Int)+1+cell/8%((n:Int) - 1)<n
      ·rw[HE ⋯ l]at x
       omega
      ·have e3:((o:Int)+1+cell/8%((n:Int) - 1))%n=((o:Int)+1+cell/8%((n:Int) - 1) - n)%n:=(Int.sub_emod_right _ _).symm
       rw[e3,HE ⋯ ⋯]at x;omega
     have t1:=Hw (cell/64) (show p≠0 by omega);have t2:=Hh (cell/64) M;obtain⟨H,K,bi,bl,es⟩:=fT J hn s (u:=u) (o:=o) (tm:=cell/64%p) ⋯ ⋯ Z ⟨t1,t2⟩ (.val<|X0 C) (.val<|.int a) (.val<|.int t) (.val<|.int cell) z;refine⟨γ (.own<|jh n f) (.nest<|qQ n g) (.val<|.int t) h d O I z,γ (.own<|jh n H) (.nest<|qQ n K) (.val<|.int t) (.val<|.int cell) (.val<|.int o) (.val<|.int u) (.val<|.int<|cell/64%p) bi,rfl,?_,H,K,_,_,_,_,_,_,bl,rfl⟩;have E:(0:Int)<(n:Int):=by omega
     have L:0<n:=by omega
     have nm:0<(n:Int) - 1:=by omega
     have bm:1<n:=by omega
     have P:(jD 7<|zE jr<|zb (zc 0)<|zb (zH qC (zc 1)<|zc 6) zF) (γ (.own<|jh n f) (.nest<|qQ n g) (.val<|.int t) h d O I z)=bQ (.next<|γ (.own<|jh n f) (.nest<|qQ n g) (.val<|.int t) (.val<|.int cell) d O I z):=by simp[γ,G]
     have Q:(jD 8<|zH ya (zc 7)<|zc 3) (γ (.own<|jh n f) (.nest<|qQ n g) (.val<|.int t) (.val<|.int cell) d O I z)=bQ (.next<|γ (.own<|jh n f) (.nest<|qQ n g) (.val<|.int t) (.val<|.int cell) (.val<|.int o) O I z):=by simp[γ,E,L,eo]
     have R:(jD 9<|zH ya (zH qC (zH qC (zc 8)<|zu<|.int 1)<|zH ya (zH X3 (zc 7)<|zu<|.int 8)<|zH JY (zc 3)<|zu<|.int 1)<|zc 3) (γ (.own<|jh n f) (.nest<|qQ n g) (.val<|.int t) (.val<|.int cell) (.val<|.int o) O I z)=bQ (.next<|γ (.own<|jh n f) (.nest<|qQ n g) (.val<|.int t) (.val<|.int cell) (.val<|.int o) (.val<|.int u) I z):=by
      have Pj:(1:Int)<(n:Int):=by omega
      simp[γ,E,L,nm,bm,Pj,x]
     have bx:(jD 10<|zH ya (zH X3 (zc 7)<|zu<|.int 64)<|zc 2) (γ (.own<|jh n f) (.nest<|qQ n g) (.val<|.int t) (.val<|.int cell) (.val<|.int o) (.val<|.int u) I z)=bQ (.next<|γ (.own<|jh n f) (.nest<|qQ n g) (.val<|.int t) (.val<|.int cell) (.val<|.int o) (.val<|.int u) (.val<|.int<|cell/64%p) z):=by simp[γ,M]
     exact zo P<|zo Q<|zo R<|zo bx es)
  exact⟨f,g,r,h,d,O,I,z,s,A⟩
 refine⟨f,g,s,?_⟩;rw[nL];refine jw<|zo s1<|zo s2<|zo A ?_;show gi 5 _ (γ (.own<|jh n f) (.nest<|qQ n g) r h d O I z)=_;have l2:2<=lim:=by omega
 rw[<- br n g];simp[gi,gj,γ,vO,q8,l2]
end
structure ft where
 s:Nat
 n:Nat
 v:Nat->Vc
noncomputable def ft.has(b:ft)(r:Nat):Bool:=decide (b.s<=r) && decide (r<b.s+b.n)
theorem iW{b:ft}{r:Nat}:b.has r=di↔b.s<=r/\r<b.s+b.n:=by simp[ft.has]
noncomputable def fv:ft:=⟨0,0,λ_ _=>0⟩
structure m4(p:Int)(w:RX)(wd:RZ)(T:RV)(k:Nat)(b:ft):Prop where
 n1:1<=b.n
 le:b.s+b.n<=k+1
 lU : ∀r i,b.has r=di->i<wd r->0<=b.v r i/\b.v r i<p
 arr : ∀j,j<k->b.has (zL w j)=di->∀i,i<wd (zV w j)->app (T j) (wd<|zL w j) (b.v<|zL w j) i%p=(if b.has (zV w j)=di then b.v (zV w j) i else 0)%p
noncomputable def Ord(w:RX)(a b:ft):Prop:=(a.s<b.s->w (b.s - 1)=di)/\(b.s<a.s->w (a.s - 1)=ed)
noncomputable def Fv(C:List ft)(r:Nat):Vc->Prop:=λg=>∃b,b∈C/\b.has r=di/\g=b.v r
noncomputable def nr(p:Int)(A:Nat->ft)(N:Nat)(t:Vc)(r:Nat):Vc:=λc=>zk (λj=>if (A j).has r=di then t j*(A j).v r c else 0) N%p
noncomputable def DM(p:Int)(A:Nat->ft)(N:Nat)(t:Vc)(i:Nat):ft:=⟨(A i).s,(A i).n,nr p A N t⟩
section
variable{p:Int}{w:RX}{wd:RZ}{T:RV}{k N:Nat}{A:Nat->ft}
theorem kR(f:RK)(h:Nat)(t:Vc)(u:Nat->Vc)(n:Nat)(i:Nat):app f h (λc=>zk (λj=>t j*u j c) n) i=zk (λj=>t j*app f h (u j) i) n:=by
 unfold app;have e:zk (λj=>f i j*zk (λk=>t k*u k j) n) h=zk (λj=>zk (λk=>t k*(f i j*u k j)) n) h:=zy λj _=>by rw[<- jo];exact zy λk _=>by rw[<- Ir,<- Ir,Ib (f i j)]
 rw[e,qI];exact zy λj _=>jo ..
theorem pw(c:Prop) [Decidable c](x y:Int):(if c then x*y else 0)=x*(if c then y else 0):=by split<;>simp
theorem eI(f:RK)(h r:Nat)(t:Vc)(i:Nat):app f h (nr p A N t r) i%p=zk (λj=>t j*(if (A j).has r=di then app f h ((A j).v r) i else 0)) N%p:=by
 have e:app f h (nr p A N t r) i%p=app f h (λc=>zk (λj=>t j*(if (A j).has r=di then (A j).v r c else 0)) N) i%p:=jC (λc _=>by unfold nr;rw[Hn];congr 1;exact zy λj _=>pw ..) i
 rw[e,kR];congr 1;refine zy λj _=>?_;congr 1;by_cases z:(A j).has r=di
 ·simp only[RY z]
 ·simp only[EQ z]
  unfold app;simp[zT]
theorem uJ(S:0<p)(C : ∀j,j<N->m4 p w wd T k (A j))(hk : ∀j,j<N->(A j).has k=di){t:Vc}{i:Nat}(J:i<N)(L : ∀c,i<c->c<N->Ord w (A i) (A c))(tz : ∀c,c<i->t c=0) :
 m4 p w wd T k (DM p A N t i):=by
 refine⟨(C i J).n1,(C i J).le,λr c _ _=>⟨Hw _ ⋯,Hh _ S⟩,λj l O c h=>?_⟩;have O:(A i).has (zL w j)=di:=O;show app (T j) (wd<|zL w j) (nr p A N t<|zL w j) c%p=(if (A i).has (zV w j)=di then nr p A N t (zV w j) c else 0)%p;rw[eI];have g : ∀I,I<N->t I≠0->((A i).has (zV w j)=di->(A I).has (zV w j)=di->(A I).has (zL w j)=di)/\((A i).has (zV w j)=ed->(A I).has (zL w j)=di->(A I).has (zV w j)=ed):=λI U d=>by
  have y:=iW.mp<|hk i J;have B:=iW.mp<|hk I U;have a0:i<=I:=Nat.not_lt.mp λz=>d<|tz I z;rcases Nat.lt_or_eq_of_le a0 with a0 | a0
  ·obtain⟨u,x⟩:=L I a0 U
   have O:=iW.mp O;cases hw:w j with
   | false=>
    have b:zL w j=j:=by unfold zL;rw[hw];rfl
    have e:zV w j=j+1:=by unfold zV;rw[hw];rfl
    rw[b]at O;rw[b,e];refine⟨λ_ q=>iW.mpr ?_,λq _=>?_⟩
    ·have q:=iW.mp q
     refine⟨Nat.not_lt.mp λz=>?_,by omega⟩;have f:(A I).s=j+1:=by omega
     have:=u ⋯;rw[f]at this;simp[hw]at this
    ·exfalso
     have:(A i).has (j+1)=di:=iW.mpr ⋯;rw[this]at q;cases q
   | true=>
    have b:zL w j=j+1:=by unfold zL;rw[hw];rfl
    have e:zV w j=j:=by unfold zV;rw[hw];rfl
    rw[b]at O;rw[b,e];refine⟨λ_ q=>iW.mpr ?_,λq _=>?_⟩
    ·have q:=iW.mp q
     omega
    ·cases a:(A I).has j with
     | false=>rfl
     | true=>
      exfalso;have a:=iW.mp a;have f:(A i).s=j+1:=by
       have : ¬((A i).s<=j):=λz=>by have:(A i).has j=di:=iW.mpr ⋯;rw[this]at q;cases q
       omega
      have:=x ⋯;rw[f]at this;simp[hw]at this
  ·subst a0
   exact⟨λ_ _=>O,λq _=>q⟩
 have m:zk (λI=>t I*(if (A I).has (zL w j)=di then app (T j) (wd<|zL w j) ((A I).v (zL w j)) c else 0)) N%p
  = zk (λI=>if (A i).has (zV w j)=di then (if (A I).has (zV w j)=di then t I*(A I).v (zV w j) c else 0)else 0) N%p:=zK λI U=>by
  by_cases d:t I=0
  ·simp[d]
  obtain⟨n,o⟩:=g I U d;cases a:(A i).has (zV w j)with
  | false=>
   cases hy:(A I).has (zL w j)with
   | false=>simp
   | true=>
    have q:=(C I U).arr j l hy c h;rw[o a hy]at q;simp only[if_true];rw[GR,q];simp
  | true=>
   cases hy:(A I).has (zL w j)with
   | false=>
    cases hz:(A I).has (zV w j)with
    | false=>simp
    | true=>rw[n a hz]at hy;cases hy
   | true=>
    have q:=(C I U).arr j l hy c h;simp only[if_true];rw[GR,q,<- GR];congr 1;cases hz:(A I).has (zV w j)<;>simp
 rw[m];cases a:(A i).has (zV w j)with
 | false=>simp[zT]
 | true=>
  simp only[if_true];unfold nr;rw[Hn]
theorem iB{G':Vc->Prop}{r n:Nat}{A':Nat->ft}(t:Nat->Vc)(C : ∀i,i<N->t i i=1)(S : ∀i c,i<N->c<i->t i c=0)
 (J : ∀i,i<N->(A i).has r=di->Span p n G' ((A' i).v r)) (L : ∀i,i<N->(A i).has r=di->∀c,c<n->(A' i).v r c%p=nr p A N (t i) r c%p) :
 ∀i,i<N->(A i).has r=di->Span p n G' ((A i).v r):=by
 have f : ∀d i,N - i<=d->i<N->(A i).has r=di->Span p n G' ((A i).v r):=by
  intro d
  induction d with
  | zero=>intro i e a;omega
  | succ d x=>
   intro i e a O;have w:Span p n G' λc=>zk (λj=>(if j=i then 0 else if (A j).has r=di then t i j else 0)*(A j).v r c) N:=by
    have gen : ∀M,M<=N->Span p n G' λc=>zk (λj=>(if j=i then 0 else if (A j).has r=di then t i j else 0)*(A j).v r c) M:=by
     intro M
     induction M with
     | zero=>intro _;exact .zero λc _=>by simp[zk]
     | succ M h=>
      intro y;have q:=h ⋯;by_cases I:M=i\/¬((A M).has r=di)\/M<i
      ·refine q.congr λc _=>?_
       show(zk _ M+_)%p=_;rcases I with I | I | I
       ·simp[I]
       ·simp[I]
       ·have z:=S i M a I;simp only[z];simp
      ·have l:M≠i/\(A M).has r=di/\¬M<i:=by
        refine⟨λz=>I<|.inl z,?_,λz=>I<|.inr<|.inr z⟩;cases b:(A M).has r with
        | true=>rfl
        | false=>exact absurd (.inr<|.inl<|by rw[b];decide) I
       exact((x M ⋯ ⋯ l.2.1).add q (if M=i then 0 else if (A M).has r=di then t i M else 0)).congr λc _=>rfl
    exact gen N<|GQ _
   have s:=w.add (J i a O) (-1);refine s.congr λc I=>?_;have m:zk (λj=>if (A j).has r=di then t i j*(A j).v r c else 0) N=(A i).v r c+zk (λj=>(if j=i then 0 else if (A j).has r=di then t i j else 0)*(A j).v r c) N:=by
    have o:(A i).v r c=zk (λj=>if j=i then (A i).v r c else 0) N:=by rw[zQ a λk _ u=>by simp[u]];simp
    rw[o,<- jv];refine zy λj B=>?_;by_cases g:j=i
    ·subst g;simp[O,C j a]
    ·simp only[EQ g]
     by_cases b:(A j).has r=di
     ·simp[b]
     ·simp[b]
   have U:=L i a O c I;unfold nr at U;rw[Hn,m]at U;rw[HI,U,<- HI];congr 1;omega
 exact λi e a=>f N i ⋯ e a
end
section
variable{p:Int}{n m N h r r2 q:Nat}{B B2 K:Nat->Vc}{l l2 lK:RZ}{M f:RK}
theorem Kl(z:Span p n (eF m U) v) : ∃t:Vc,∀i,i<n->v i%p=zk (λj=>t j*U j i) m%p:=by
 induction z with
 | zero h=>exact⟨λ_=>0,λi a=>by rw[h i a];simp[zT]⟩
 | @step v w g c I r O o=>
  obtain⟨t,l⟩:=o;obtain⟨k,d,rfl⟩:=I;refine⟨λj=>t j+if j=k then c else 0,λi a=>?_⟩;rw[O i a,HI,l i a,<- HI];congr 1;have e:zk (λj=>(t j+if j=k then c else 0)*U j i) m=zk (λj=>t j*U j i) m+zk (λj=>(if j=k then c else 0)*U j i) m:=by rw[<- jv];exact zy λj _=>MW ..
  rw[e,zQ (f:=λj=>(if j=k then c else 0)*U j i) d λj _ b=>by simp[b]];simp
theorem qK(a b:Nat->Int)(n:Nat):zk (λj=>a j*b j) n=zk (λj=>b j*a j) n:=zy λj _=>Ib ..
theorem A4:Span p h (eF N λj i=>M i j) u ↔ ∃x:Vc,∀i,i<h->u i%p=app M N x i%p:=by
 constructor
 ·intro q
  obtain⟨t,z⟩:=Kl q;exact⟨t,λi a=>by rw[z i a];unfold app;rw[qK]⟩
 ·rintro⟨x,b⟩
  refine(Span.sum (u:=λj i=>M i j) x (m:=N) λj I=> .gen ⟨j,I,rfl⟩).congr λi a=>?_;rw[b i a];unfold app;rw[qK]
theorem Yb(n:Nat)(v:Vc):Span p n (eF n jM) v:=by refine(Span.sum (u:=jM) v (m:=n) λj z=> .gen ⟨j,z,rfl⟩).congr λi a=>?_;rw[zQ (f:=λk=>v k*jM k i) a λk _ I=>by simp[jM,I]];simp[jM]
theorem vd(z:Pr p)(C:N<=8)(hs : ∀v:Vc,∃t,∀i,i<N->v i%p=app f N t i%p)(O : ∀i,i<N->app f N t i%p=0) : ∀j,j<N->t j%p=0:=by
 obtain⟨q,K,l,s,_,m,I,U,g⟩:=kU z (h:=N) (w:=N) ⋯ ⋯ f;have a:Rk p N N (λj i=>f i j) N:=⟨jM,id,Vs z N,λv=>⟨λ_=>A4.mpr<|hs v,λ_=>Yb N v⟩⟩;have:=y0 z U a;have e:q=0:=by omega
 subst e;have:=(I t).mpr λi d=>by have:=O i d;unfold app at this;exact this
 cases this with
 | zero h=>exact h
 | step b _ _=>obtain⟨k,I,_⟩:=b;omega
noncomputable def JU(r:Nat)(B:Nat->Vc)(l:RZ)(t:Vc):Vc:=λi=>t i - zk (λj=>t (l j)*B j i) r
theorem QB(I:hR p N r B l)(t:Vc)(z:j<r):JU r B l t (l j)=0:=by unfold JU;rw[zQ (f:=λO=>t (l O)*B O (l j)) z λk U a=>by rw[I.p6 k j U z (Hu a)];simp];rw[I.one j z];omega
theorem V4(t:Vc):Span p N (eF r B) λi=>zk (λj=>t (l j)*B j i) r:=Span.sum (u:=B) (λj=>t<|l j) λj z=> .gen ⟨j,z,rfl⟩
theorem pD(z:hR p N r B l)(h:Span p N (eF r B) t)(I : ∀j,j<r->t (l j)%p=0) : ∀i,i<N->t i%p=0:=λi a=>by
 rw[Zi z h i a];have e:zk (λk=>t (l k)*B k i) r%p=zk (λ_=>0) r%p:=zK λk O=>by rw[GR,I k O];simp
 rw[e,zT];simp
theorem Vr(z:Pr p)(I:hR p N r B l)(C:i<N)(hn : ∀j,j<r->l j≠i) : ¬Span p N (eF r B) (jM i):=λh=>by have:=pD I h (λj O=>by unfold jM;rw[EQ (Hu<|hn j O)];simp) i C;unfold jM at this;rw[RY rfl,z.one]at this;omega
theorem Jy(g:RK)(w:Nat)(u v:Vc)(i:Nat):app g w (λj=>u j - v j) i=app g w u i - app g w v i:=by
 have e:app g w u i=app g w (λj=>u j - v j) i+app g w v i:=by unfold app;rw[<- jv];exact zy λj _=>by dsimp only;rw[<- LQ];congr 1;omega
 omega
noncomputable def YH(M f:RK)(N:Nat):Nat->Nat->Int:=λi j=>zk (λk=>M i k*f k j) N
theorem ZA(t:Vc)(i:Nat):app (YH M f N) N t i=app M N (app f N t) i:=by
 unfold app YH;have e:zk (λj=>zk (λk=>M i k*f k j) N*t j) N=zk (λj=>zk (λk=>M i k*(f k j*t j)) N) N:=zy λj _=>by rw[<- qJ];exact zy λk _=>Ir ..
 rw[e,qI];exact zy λk _=>jo ..
theorem sD(J:Pr p)(hN:N<=8)(hh:h<=8)(hs : ∀v:Vc,∃t,∀i,i<N->v i%p=app f N t i%p)(L:hR p N r B l)(C : ∀t,Span p N (eF r B) t↔Di p h N M (app f N t))
 (S:hR p h r2 B2 l2) (Y : ∀v,Span p h (eF r2 B2) v↔Span p h (eF N λj i=>M i j) v) :
 (∀j,j<r->∀i,i<h->app M N (app f N<|B j) i%p=0)/\(∀c,c<N->(∀j,j<r->l j≠c)->∃i,i<h/\app M N (λa=>f a c) i%p≠0)/\r+r2=N/\
   ∀U:Vc->Prop,(∀c,c<N->(∀j,j<r->l j≠c)->Span p h U (app M N λa=>f a c))->(∀c,c<h->(∀j,j<r2->l2 j≠c)->Span p h U (jM c))->∀v,Span p h U v:=by
 have k : ∀t:Vc,Di p h N M (app f N t) ↔ ∀i,i<h->app M N (app f N t) i%p=0:=λt=>Iff.rfl;have s : ∀(c:Nat),c<N->∀i,app M N (λa=>f a c) i%p=app M N (app f N<|jM c) i%p:=λc I i=>jC (λa _=>by rw[vQ f I]) i;refine⟨λj O=>(k _).mp ((C<|B j).mp (.gen ⟨j,O,rfl⟩)),λc I T=>?_,?_,λU P Q v=>?_⟩
 ·refine Ie λz=>Vr J L I T ((C _).mpr ((k _).mpr λi b=>?_))
  rw[<- s c I i];exact Ie λy=>z ⟨i,b,y⟩
 ·obtain⟨q',K',l',s',_,A,o,E,bd⟩:=kU J (h:=h) (w:=N) ⋯ ⋯ (YH M f N)
  have e1:q'=r:=(Jw J A L (λv m=>(C v).mpr λi b=>by
   have:=(o v).mp m i b;rw[show zk (λj=>YH M f N i j*v j) N=app (YH M f N) N v i from rfl,ZA]at this;exact this) λv m=>(o v).mpr λi b=>by
   have:=(C v).mp m i b;rw[show zk (λj=>YH M f N i j*v j) N=app (YH M f N) N v i from rfl,ZA];exact this).1
  have e2:s'=r2:=by
   refine y0 J E ⟨B2,l2,S,λv=>(Y v).trans ⟨λz=>?_,λz=>?_⟩⟩
   ·obtain⟨x,n⟩:=A4.mp z
    obtain⟨t,d⟩:=hs x;refine A4.mpr ⟨t,λi b=>?_⟩;rw[n i b,ZA];exact jC d i
   ·obtain⟨t,d⟩:=A4.mp z
    exact A4.mpr ⟨app f N t,λi b=>by rw[d i b,ZA]⟩
  omega
 ·
  have Z : ∀t:Vc,Span p h U (app M N<|app f N t):=λt=>by
   have X:=(k _).mp ((C _).mp (V4 (p:=p) (N:=N) (B:=B) (r:=r) (l:=l) t));have e : ∀i,i<h->app M N (app f N t) i%p=app M N (app f N<|JU r B l t) i%p:=λi b=>by
    have G:app M N (app f N<|JU r B l t) i=app M N (app f N t) i - app M N (app f N λi=>zk (λj=>t (l j)*B j i) r) i:=by rw[<- Jy];congr 1;funext a;exact Jy ..
    rw[G,IL,X i b];simp
   refine Span.congr ?_ e;have H : ∀i,app M N (app f N<|JU r B l t) i=zk (λc=>JU r B l t c*app M N (λa=>f a c) i) N:=λi=>by rw[<- kR];congr 1;funext a;unfold app;exact qK ..
   have s1 : ∀K,K<=N->Span p h U λi=>zk (λc=>JU r B l t c*app M N (λa=>f a c) i) K:=by
    intro K
    induction K with
    | zero=>intro _;exact .zero λi _=>by simp[zk]
    | succ K g=>
     intro R;by_cases I : ∃j,j<r/\l j=K
     ·obtain⟨j,O,rfl⟩:=I
      refine(g ⋯).congr λi _=>?_;show(zk _ (l j)+_)%p=_;have z:=QB L t O;simp only[z];simp
     ·exact((P K ⋯ λj O z=>I ⟨j,O,z⟩).add (g ⋯) _).congr λi _=>rfl
   exact(s1 N<|GQ _).congr λi _=>by rw[H]
  have F : ∀u,Span p h (eF r2 B2) u->Span p h U u:=λu W=>by obtain⟨x,n⟩:=A4.mp<|(Y u).mp W;obtain⟨t,d⟩:=hs x;exact(Z t).congr λi b=>by rw[n i b];exact jC d i
  have s2 : ∀K,K<=h->Span p h U λi=>zk (λc=>JU r2 B2 l2 v c*jM c i) K:=by
   intro K
   induction K with
   | zero=>intro _;exact .zero λi _=>by simp[zk]
   | succ K g=>
    intro R;by_cases I : ∃j,j<r2/\l2 j=K
    ·obtain⟨j,O,rfl⟩:=I
     refine(g ⋯).congr λi _=>?_;show(zk _ (l2 j)+_)%p=_;have z:=QB S v O;simp only[z];simp
    ·exact((Q K ⋯ λj O z=>I ⟨j,O,z⟩).add (g ⋯) _).congr λi _=>rfl
  refine((F _<|V4 (B:=B2) (r:=r2) (l:=l2) v).add (s2 h<|GQ _) 1).congr λi b=>?_;congr 1;rw[zQ (f:=λc=>JU r2 B2 l2 v c*jM c i) b λc _ I=>by simp[jM,I]];simp only[jM,if_true,JU];omega
theorem sE(O:Pr p)(hN:N<=8)(hh:h<=8)(hs : ∀v:Vc,∃t,∀i,i<N->v i%p=app f N t i%p)(L:hR p N r B l)(S : ∀t,Span p N (eF r B) t↔Span p N (eF h λj i=>M i j) (app f N t))
 (Y : ∀v,Span p h (eF q K) v↔Di p N h M v) (Z:Rk p N h (λj i=>M i j) s) (bm:q+s=h) :
 (∀j,j<r->∃y:Vc,∀i,i<N->app M h y i%p=app f N (B j) i%p)/\(∀c,c<N->(∀j,j<r->l j≠c)->¬∃y:Vc,∀i,i<N->app M h y i%p=f i c%p)/\r+q=h/\
   ∀(J:Vc->Prop) (x:Nat->Vc),(∀j,j<r->Span p h J (x j)/\∀i,i<N->app M h (x j) i%p=app f N (B j) i%p)->(∀j,j<q->Span p h J (K j))->∀v,Span p h J v:=by
 have w : ∀t,Span p N (eF r B) t ↔ ∃y:Vc,∀i,i<N->app f N t i%p=app M h y i%p:=λt=>(S t).trans A4;have inj : ∀{t:Vc},(∀i,i<N->app f N t i%p=0)->∀j,j<N->t j%p=0:=λd=>vd O hN hs d;refine⟨λj I=>?_,λc hc hn z=>?_,?_,λJ x T h2 v=>?_⟩
 ·obtain⟨y,o⟩:=(w<|B j).mp (.gen ⟨j,I,rfl⟩)
  exact⟨y,λi b=>(o i b).symm⟩
 ·obtain⟨y,o⟩:=z
  exact Vr O L hc hn<|(w _).mpr ⟨y,λi b=>by rw[vQ f hc,o i b]⟩
 ·have Q:s<=8/\r<=8:=by
   obtain⟨F,bn,b7⟩:=om O (n:=N) (m:=h) ⋯ hh λj i=>M i j;refine⟨by rw[y0 O Z b7];omega,?_⟩;have : ∀E,E<=r->E<=N:=by
    intro E;have mono : ∀k,k<r->k<=l k:=by
     intro k
     induction k with
     | zero=>intro _;omega
     | succ k ih=>intro Y;have:=ih ⋯;have:=L.mono k (k+1) ⋯ Y;omega
    intro bt;cases E with
    | zero=>omega
    | succ R=>have:=mono R ⋯;have:=L.lt R ⋯;omega
   have:=this r<|GQ _;omega
  have bv:s<=r:=by
   obtain⟨F,a1,G⟩:=om O (n:=N) (m:=r) ⋯ Q.2 λj=>app f N<|B j;have e:s=F:=by
    obtain⟨C,lC,P,A⟩:=Z;refine y0 O (m:=h) (W:=λj i=>M i j) ⟨C,lC,P,A⟩ ?_;obtain⟨C',bd,be,bf⟩:=G;refine⟨C',bd,be,λv=>(bf v).trans ⟨λz=>?_,λz=>?_⟩⟩
    ·exact z.le λg U=>by obtain⟨j,I,rfl⟩:=U;exact(S<|B j).mp (.gen ⟨j,I,rfl⟩)
    ·obtain⟨y,o⟩:=A4.mp z
     obtain⟨t,d⟩:=hs v;have H:Span p N (eF r B) t:=(w t).mpr ⟨y,λi b=>by rw[<- d i b,o i b]⟩;refine(Span.sum (u:=λj=>app f N<|B j) (λj=>t<|l j) (m:=r) λj I=> .gen ⟨j,I,rfl⟩).congr λi b=>?_;rw[d i b,<- kR];exact jC (λj I=>Zi L H j I) i
   omega
  have bx:r<=s:=by
   obtain⟨C,lC,P,A⟩:=Z;have ex : ∀j,∃t:Vc,∀i,i<N->C j i%p=app f N t i%p:=λj=>hs<|C j;have g:Nat->Vc:=λj=>Classical.choose<|ex j;have U : ∃g:Nat->Vc,∀j i,i<N->C j i%p=app f N (g j) i%p:=⟨λj=>Classical.choose<|ex j,λj=>Classical.choose_spec<|ex j⟩;obtain⟨g,U⟩:=U;obtain⟨F,a1,G⟩:=om O (n:=N) (m:=s) ⋯ Q.1 g;have e:r=F:=by
    refine y0 O (m:=s) (W:=g) ⟨B,l,L,λv=>⟨λz=>?_,λz=>?_⟩⟩ G
    ·have hv:=(A _).mpr ((S v).mp z)
     refine(Span.sum (u:=g) (λj=>app f N v<|lC j) (m:=s) λj I=> .gen ⟨j,I,rfl⟩).congr λi b=>?_;have z0 : ∀a,a<N->app f N (λi=>v i - zk (λj=>app f N v (lC j)*g j i) s) a%p=0:=λa X=>by
      rw[Jy,kR,IL,Zi P hv a X];have e:zk (λk=>app f N v (lC k)*C k a) s%p=zk (λk=>app f N v (lC k)*app f N (g k) a) s%p:=zK λk _=>by rw[GR,U k a X,<- GR]
      rw[e];simp
     have:=inj z0 i b;have q2:=Int.emod_emod_of_dvd;exact(Int.emod_emod_of_dvd _<|Int.dvd_refl p).symm.trans (by
      rw[Hn];have:(v i - zk (λj=>app f N v (lC j)*g j i) s)%p=0:=this;exact M1.mpr this)
    ·refine z.le λu hu=>?_
     obtain⟨j,I,rfl⟩:=hu;refine(S _).mpr (((A<|C j).mp (.gen ⟨j,I,rfl⟩)).congr λi b=>(U j i b).symm)
   omega
  omega
 ·obtain⟨t,d⟩:=hs (app M h v)
  have H:Span p N (eF r B) t:=(w t).mpr ⟨v,λi b=>(d i b).symm⟩;have hx:Span p h J λc=>zk (λj=>t (l j)*x j c) r:=Span.sum (u:=x) (λj=>t<|l j) λj I=>(T j I).1;have hd:Span p h J λc=>v c - zk (λj=>t (l j)*x j c) r:=by
   refine((Y _).mpr λi b=>?_).le λg U=>by obtain⟨j,I,rfl⟩:=U;exact h2 j I
   show app M h (λc=>v c - zk (λj=>t (l j)*x j c) r) i%p=0;rw[Jy,kR,IL];have e:zk (λj=>t (l j)*app M h (x j) i) r%p=app M h v i%p:=by rw[d i b,jC (λj I=>Zi L H j I) i,kR];exact zK λj I=>by rw[GR,(T j I).2 i b,<- GR]
   rw[e];simp
  refine(hx.add hd 1).congr λc _=>?_;congr 1;omega
end
structure yg(p:Int)(w:RX)(wd:RZ)(T:RV)(k:Nat)(l8:List ft):Prop where
 ok : ∀b,b∈l8->m4 p w wd T k b
 sp : ∀r,r<=k->∀v,Span p (wd r) (Fv l8 r) v
 ct : ∀r,r<=k->l8.countP (λb=>b.has r)=wd r
 od:(l8.filter λb=>b.has k).Pairwise (Ord w)
noncomputable def l4(r:Nat)(l:RZ)(i:Nat):Option Nat:=(GH r).find? λj=>l j==i
theorem xi(h:l4 r l i=bQ j):j<r/\l j=i:=by have a:=List.find?_some h;have b:=List.mem_of_find?_eq_some h;exact⟨eY.mp b,by simpa using a⟩
theorem Zq(h:l4 r l i=dj) : ∀j,j<r->l j≠i:=λj z=>by have:=List.find?_eq_none.mp h j<|eY.mpr z;simpa using this
noncomputable def hX(p:Int)(A:Nat->ft)(N r:Nat)(B:Nat->Vc)(l:RZ)(i:Nat):ft:=match l4 r l i with
 | some j=>DM p A N (B j) i
 | none=>A i
noncomputable def i8(k:Nat)(b:ft):Option Vc->ft
 | none=>b
 | some y=>⟨b.s,b.n+1,λr=>if r=k+1 then y else b.v r⟩
noncomputable def o1(k:Nat)(y:Vc):ft:=⟨k+1,1,λ_=>y⟩
noncomputable def DR(r:Nat)(B:Nat->Vc)(l:RZ)(i:Nat):Vc:=match l4 r l i with
 | some j=>B j
 | none=>jM i
theorem aP(p A N r B l i):(hX p A N r B l i).s=(A i).s:=by unfold hX;split<;>rfl
theorem sF(p A N r B l i):(hX p A N r B l i).n=(A i).n:=by unfold hX;split<;>rfl
theorem Yz(p A N r B l i rm):(hX p A N r B l i).has rm=(A i).has rm:=by unfold ft.has;rw[aP,sF]
theorem wy:(o1 k y).has r=decide (r=k+1):=by
 unfold o1 ft.has;by_cases h:r=k+1
 ·simp[h]
 ·simp[h];intro;omega
section
variable{p:Int}{w:RX}{wd:RZ}{T:RV}{k N r:Nat}{A:Nat->ft}{B:Nat->Vc}{l:RZ}
theorem lV(z:hR p N r B l)(C:i<N):DR r B l i i=1/\∀c,c<i->DR r B l i c=0:=by
 unfold DR;cases hj:l4 r l i with
 | some j=>
  obtain⟨a,b⟩:=xi hj;subst b;exact⟨z.one j a,λc I=>z.l5 j c a I⟩
 | none=>exact⟨by simp[jM],λc I=>by simp only[jM];rw[EQ ⋯]⟩
theorem nN(C:i<N)(I:(A i).has rm=di):(hX p A N r B l i).v rm c%p=nr p A N (DR r B l i) rm c%p:=by
 unfold hX DR;cases z:l4 r l i with
 | some j=>rfl
 | none=>
  show(A i).v rm c%p=_;unfold nr;rw[Hn];congr 1;rw[zQ (f:=λj=>if (A j).has rm=di then jM i j*(A j).v rm c else 0) C λj _ z=>by unfold jM;rw[EQ (Hu z)];simp];simp[jM,I]
theorem lY(I:0<p)(O:hR p N r B l)(z : ∀j,j<N->m4 p w wd T k (A j))(U : ∀j,j<N->(A j).has k=di)(J : ∀i c,i<c->c<N->Ord w (A i) (A c))(C:i<N):m4 p w wd T k (hX p A N r B l i):=by
 unfold hX;split
 ·next j e=>
  obtain⟨a,b⟩:=xi e;subst b;exact uJ I z U C (λc a b=>J _ c a b) λc d=>O.l5 j c a d
 ·exact z i C
theorem QK(z:rm<=k)(I:b.s+b.n=k+1):(i8 k b o).has rm=b.has rm/\(i8 k b o).v rm=b.v rm:=by
 cases o with
 | none=>exact⟨rfl,rfl⟩
 | some y=>
  refine⟨?_,by simp only[i8];rw[EQ ⋯]⟩;unfold i8 ft.has;simp only;congr 1;exact decide_eq_decide.mpr ⋯
theorem Y3(z:b.s+b.n=k+1):(i8 k b o).has (k+1)=o.isSome:=by
 cases o with
 | none=>unfold i8 ft.has;simp;omega
 | some y=>unfold i8 ft.has;simp;omega
theorem pI(k b o):(i8 k b o).s=b.s:=by cases o<;>rfl
theorem Af(Z:0<p)(O:b.s+b.n=k+1)(C:m4 p w wd T k b)(Y : ∀y,o=bQ y->∀c,c<wd (k+1)->0<=y c/\y c<p)
 (J:o=dj->w k=ed->∀c,c<wd (k+1)->app (T k) (wd k) (b.v k) c%p=0) (L : ∀y,o=bQ y->w k=ed->∀c,c<wd (k+1)->app (T k) (wd k) (b.v k) c%p=y c%p)
 (S : ∀y,o=bQ y->w k=di->∀c,c<wd k->app (T k) (wd<|k+1) y c%p=b.v k c%p):m4 p w wd T (k+1) (i8 k b o):=by
 have as:=C.n1;refine⟨?_,?_,λU c i z=>?_,λj A f c z=>?_⟩
 ·cases o with
  | none=>exact C.n1
  | some y=>show 1<=b.n+1;omega
 ·cases o with
  | none=>show b.s+b.n<=k+1+1;omega
  | some y=>show b.s+(b.n+1)<=k+1+1;omega
 ·by_cases r:U<=k
  ·obtain⟨a,I⟩:=QK (o:=o) r O
   rw[a]at i;rw[I];exact C.lU U c i z
  ·have l:=iW.mp i
   cases o with
   | none=>exact absurd l.2 (by show ¬(U<b.s+b.n);omega)
   | some y=>
    have:U=k+1:=by have:U<b.s+(b.n+1):=l.2;omega
    subst this;have e:(i8 k b<|some y).v (k+1)=y:=by simp[i8]
    rw[e];exact Y y rfl c z
 ·by_cases h:j<k
  ·have g1:zL w j<=k:=by unfold zL;split<;>omega
   have g2:zV w j<=k:=by unfold zV;split<;>omega
   obtain⟨a,I⟩:=QK (o:=o) g1 O;obtain⟨u,x⟩:=QK (o:=o) g2 O;rw[a]at f;rw[I,u,x];exact C.arr j h f c z
  ·have h:j=k:=by omega
   subst h;obtain⟨a,I⟩:=QK (o:=o) (GQ j) O;have m:=Y3 (k:=j) (o:=o) O;have t:b.has j=di:=iW.mpr ⋯;cases hw:w j with
   | false=>
    have g:zL w j=j:=by unfold zL;rw[hw];rfl
    have d:zV w j=j+1:=by unfold zV;rw[hw];rfl
    rw[d]at z;rw[g,d,I,m];cases o with
    | none=>rw[J rfl hw c z];simp
    | some y=>rw[L y rfl hw c z];simp[i8]
   | true=>
    have g:zL w j=j+1:=by unfold zL;rw[hw];rfl
    have d:zV w j=j:=by unfold zV;rw[hw];rfl
    rw[d]at z;rw[g,m]at f;rw[g,d,a,I,t];cases o with
    | none=>cases f
    | some y=>
     have e:(i8 j b<|some y).v (j+1)=y:=by simp[i8]
     rw[e,S y rfl hw c z];simp
theorem uI(J : ∀c,c<wd (k+1)->0<=y c/\y c<p)(C:w k=di->∀c,c<wd k->app (T k) (wd<|k+1) y c%p=0):m4 p w wd T (k+1) (o1 k y):=by
 refine⟨GQ _,by show k+1+1<=k+1+1;omega,λf c O z=>?_,λj e I c z=>?_⟩
 ·rw[wy]at O
  have:=of_decide_eq_true O;subst this;exact J c z
 ·rw[wy]at I
  have I:=of_decide_eq_true I;cases hw:w j with
  | false=>
   have a:zL w j=j:=by unfold zL;rw[hw];rfl
   omega
  | true=>
   have a:zL w j=j+1:=by unfold zL;rw[hw];rfl
   have U:zV w j=j:=by unfold zV;rw[hw];rfl
   have b:j=k:=by omega
   subst b;rw[U]at z;have d:(o1 j y).has (zV w j)=ed:=by rw[wy,U];simp
   rw[d,a];show app (T j) (wd<|j+1) y c%p=_;rw[C hw c z];simp
noncomputable def yU(p:Int)(k:Nat)(w:RX)(C:List ft)(A:Nat->ft)(N r:Nat)(B:Nat->Vc)(l:RZ)(nx:Nat->Option Vc)(z:List Vc):List ft:=
 (C.filter λb=> !b.has k)++(if w k then (GH N).map (λi=>i8 k (hX p A N r B l i)<|nx i)++z.map (o1 k)else z.map (o1 k)++(GH N).map λi=>i8 k (hX p A N r B l i)<|nx i)
theorem dh(p0:0<p)(I:yg p w wd T k l8)(hN:(l8.filter λb=>b.has k).length=N)(J : ∀j,A j=(l8.filter λb=>b.has k).getD j fv)(O:hR p N r B l)
 (c1 : ∀i y,i<N->nx i=bQ y->∀c,c<wd (k+1)->0<=y c/\y c<p) (c2 : ∀y,y∈news->∀c,c<wd (k+1)->0<=y c/\y c<p)
   (d0 : ∀i,i<N->nx i=dj->w k=ed->∀c,c<wd (k+1)->app (T k) (wd k) ((hX p A N r B l i).v k) c%p=0)
   (d1 : ∀i y,i<N->nx i=bQ y->w k=ed->∀c,c<wd (k+1)->app (T k) (wd k) ((hX p A N r B l i).v k) c%p=y c%p)
   (d2 : ∀i y,i<N->nx i=bQ y->w k=di->∀c,c<wd k->app (T k) (wd<|k+1) y c%p=(hX p A N r B l i).v k c%p)
   (d3 : ∀y,y∈news->w k=di->∀c,c<wd k->app (T k) (wd<|k+1) y c%p=0)
   (s1 : ∀v,Span p (wd<|k+1) (λg=>(∃i,i<N/\nx i=bQ g)\/g∈news) v) (n1:(GH N).countP (λi=>(nx i).isSome)+news.length=wd (k+1)) :
   yg p w wd T (k+1) (yU p k w l8 A N r B l nx news):=by
  have G : ∀j,j<N->A j∈l8/\(A j).has k=di:=λj E=>by
   have:A j∈l8.filter λb=>b.has k:=by rw[J j,GN,GL ⋯];exact Ln _
   have:=Hl.mp this;exact⟨this.1,by simpa using this.2⟩
  have X : ∀j,j<N->m4 p w wd T k (A j):=λj E=>I.ok _ (G j E).1;have Z : ∀i c,i<c->c<N->Ord w (A i) (A c):=λi c m u=>by have:=Lc.mp I.od i c ⋯ ⋯ m;rw[J i,J c,GN,GL ⋯,GN,GL ⋯];exact this
  have i0 : ∀i,i<N->m4 p w wd T k (hX p A N r B l i):=λi d=>lY p0 O X (λj E=>(G j E).2) Z d;have a2 : ∀i,i<N->(hX p A N r B l i).s+(hX p A N r B l i).n=k+1:=λi d=>by rw[aP,sF];have m:=iW.mp (G i d).2;have u:=(X i d).le;omega
  have H : ∀b,b∈l8->b.has k=ed->b.s+b.n<=k:=λb O S=>by have m:=(I.ok b O).le;have u:=(I.ok b O).n1;refine Nat.not_lt.mp λz=>?_;have:b.has k=di:=iW.mpr ⋯;rw[this]at S;cases S
  have x : ∀b,b∈yU p k w l8 A N r B l nx news↔(b∈l8/\b.has k=ed)\/(∃i,i<N/\b=i8 k (hX p A N r B l i) (nx i))\/∃y,y∈news/\b=o1 k y:=λb=>by
   unfold yU;rw[Lw,Hl];refine or_congr ⋯ ?_;cases w k<;>simp only[IM,if_false,if_true,Lw,Hj,eY]
   ·constructor
    ·rintro(⟨y,m,u⟩ | ⟨i,m,u⟩)
     ·exact .inr ⟨y,m,u.symm⟩
     ·exact .inl ⟨i,m,u.symm⟩
    ·rintro(⟨i,m,u⟩ | ⟨y,m,u⟩)
     ·exact .inr ⟨i,m,u.symm⟩
     ·exact .inl ⟨y,m,u.symm⟩
   ·constructor
    ·rintro(⟨i,m,u⟩ | ⟨y,m,u⟩)
     ·exact .inl ⟨i,m,u.symm⟩
     ·exact .inr ⟨y,m,u.symm⟩
    ·rintro(⟨i,m,u⟩ | ⟨y,m,u⟩)
     ·exact .inl ⟨i,m,u.symm⟩
     ·exact .inr ⟨y,m,u.symm⟩
  have cnt : ∀P:ft->Bool,(yU p k w l8 A N r B l nx news).countP P=(l8.filter λb=> !b.has k).countP P+(GH N).countP (λi=>P<|i8 k (hX p A N r B l i)<|nx i)+(news.map<|o1 k).countP P:=λP=>by
   unfold yU;rw[List.countP_append];cases w k<;>simp only[IM,if_false,if_true,List.countP_append,Ms (f:=λi=>i8 k (hX p A N r B l i)<|nx i)]
   ·rw[MU,Nat.add_comm (List.countP P<|List.map (o1 k) news)];rfl
   ·rw[MU];rfl
  refine⟨λb bi=>?_,λU hr v=>?_,λU hr=>?_,?_⟩
  ·rcases (x b).mp bi with⟨m,u⟩ | ⟨i,d,rfl⟩ | ⟨y,hy,rfl⟩
   ·have S:=H b m u
    have W:=I.ok b m;refine⟨W.n1,by omega,W.lU,λj E Y c Q=>?_⟩;have bv:=iW.mp Y;refine W.arr j ?_ Y c Q;have:zL w j>=j:=by unfold zL;split<;>omega
    omega
   ·exact Af p0 (a2 i d) (i0 i d) (λy e=>c1 i y d e) (λe=>d0 i d e) (λy e=>d1 i y d e) λy e=>d2 i y d e
   ·exact uI (c2 y hy)<|d3 y hy
  ·by_cases C:U<=k
   ·refine(I.sp U C v).le λg hg=>?_
    obtain⟨b,m,u,rfl⟩:=hg;cases O9:b.has k with
    | false=>exact .gen ⟨b,(x b).mpr (.inl ⟨m,O9⟩),u,rfl⟩
    | true=>
     have bm:b∈l8.filter λb=>b.has k:=Hl.mpr ⟨m,by simpa using O9⟩;obtain⟨i,d,e⟩:=Mq bm;have ei:A i=b:=by rw[J i,GN,GL d];exact e
     rw[<- ei]at u ⊢;refine iB (A:=A) (A':=λi=>hX p A N r B l i) (t:=λi=>DR r B l i) (λi d=>(lV O d).1) (λi c d Q=>(lV O d).2 c Q) (λi d R=>?_) (λi d R c _=>nN d R) i ⋯ u;obtain⟨x1,x2⟩:=QK (o:=nx i) C<|a2 i d;exact .gen ⟨_,(x _).mpr (.inr<|.inl ⟨i,d,rfl⟩),by rw[x1,Yz];exact R,by rw[x2]⟩
   ·have:U=k+1:=by omega
    subst this;refine(s1 v).le λg hg=>?_;rcases hg with⟨i,d,e⟩ | hg
    ·refine .gen ⟨_,(x _).mpr (.inr<|.inl ⟨i,d,rfl⟩),?_,?_⟩
     ·rw[Y3 (a2 i d),e];rfl
     ·rw[e];simp[i8]
    ·exact .gen ⟨_,(x _).mpr (.inr<|.inr ⟨g,hg,rfl⟩),by rw[wy];simp,rfl⟩
  ·rw[cnt]
   by_cases C:U<=k
   ·have L:(news.map<|o1 k).countP (λb=>b.has U)=0:=Mt.mpr λb O=>by
     obtain⟨y,_,rfl⟩:=Hj.mp O;rw[wy];simp;omega
    have M:(GH N).countP (λi=>(i8 k (hX p A N r B l i)<|nx i).has U)=(l8.filter λb=>b.has k).countP λb=>b.has U:=by
     have:(l8.filter λb=>b.has k)=(GH N).map A:=by rw[<- jc fv (l8.filter λb=>b.has k),hN];exact Hk λj _=>(J j).symm
     rw[this,Ms];refine IJ λi d=>?_;have d:=eY.mp d;rw[(QK (o:=nx i) C<|a2 i d).1,Yz];rfl
    rw[L,M,<- I.ct U C,List.countP_eq_countP_filter_add l8 (λb=>b.has U) λb=>b.has k];omega
   ·have:U=k+1:=by omega
    subst this;have K:(l8.filter λb=> !b.has k).countP (λb=>b.has<|k+1)=0:=Mt.mpr λb O=>by obtain⟨m,u⟩:=Hl.mp O;have:=H b m (by simpa using u);intro z;have:=iW.mp z;omega
    have L:(news.map<|o1 k).countP (λb=>b.has<|k+1)=news.length:=by rw[List.countP_eq_length.mpr λb O=>?_,GY];obtain⟨y,_,rfl⟩:=Hj.mp O;rw[wy];simp
    have M:(GH N).countP (λi=>(i8 k (hX p A N r B l i)<|nx i).has (k+1))=(GH N).countP λi=>(nx i).isSome:=IJ λi d=>by rw[Y3 (a2 i<|eY.mp d)]
    rw[K,L,M];omega
  ·have K:((l8.filter λb=> !b.has k).filter λb=>b.has<|k+1)=[]:=List.filter_eq_nil_iff.mpr λb O=>by
    obtain⟨m,u⟩:=Hl.mp O;have:=H b m (by simpa using u);intro z;have:=iW.mp z;omega
   have pO:((GH N).map λi=>i8 k (hX p A N r B l i)<|nx i).Pairwise (Ord w):=by rw[Md];refine Mm (λ{a b} F O h=>?_)<|Mc (n:=N);have:=Z a b h<|eY.mp O;unfold Ord;rw[pI,pI,aP,aP];exact this
   have pN:(news.map<|o1 k).Pairwise (Ord w):=by
    rw[Md];refine Lc.mpr λ_ _ _ _ _=>⟨λz=>?_,λz=>?_⟩
    ·exact absurd z<|HM<|k+1
    ·exact absurd z<|HM<|k+1
   have so : ∀b,b∈(GH N).map (λi=>i8 k (hX p A N r B l i)<|nx i)->b.s<=k:=λb O=>by obtain⟨i,d,rfl⟩:=Hj.mp O;have d:=eY.mp d;rw[pI,aP];exact(iW.mp (G i d).2).1
   have sn : ∀b,b∈news.map (o1 k)->b.s=k+1:=λb O=>by obtain⟨y,_,rfl⟩:=Hj.mp O;rfl
   unfold yU;rw[ME,K,Mp];refine MM _ ?_;cases hw:w k with
   | false=>
    simp only[IM,if_false];refine List.pairwise_append.mpr ⟨pN,pO,λa F b O=>?_⟩;have m:=sn a F;have u:=so b O;exact⟨λz=>by omega,λ_=>by rw[m];exact hw⟩
   | true=>
    simp only[if_true];refine List.pairwise_append.mpr ⟨pO,pN,λa F b O=>?_⟩;have m:=sn b O;have u:=so a F;exact⟨λ_=>by rw[m];exact hw,λz=>by omega⟩
end
theorem QQ(z:Pr p)(I:h<=100)(C:w<=lim)(f:RK) :
 ∃r B l,wK [.int p,qk h w f]=bQ (.own<|zX r h B)/\hR p h r B l/\∀v,Span p h (eF r B) v↔Span p h (eF w λj i=>f i j) v:=by
 obtain⟨r,B,l,e,O,a⟩:=xm z I C .T λj i=>f i j;have U:=jm;refine⟨r,B,l,?_,O,a⟩;simp only[p5]at e;have o:=yA f (show h<=lim by omega) C;unfold qk at o ⊢;simp[wK,jf,ja,o,e]
theorem Yd(P:Nat->Ctx->Prop) : ∀(ds C:List D) (k:Nat) (γ:Ctx),P k γ->(∀i d γ,ds[i]? = bQ d->P (k+i) γ->∃γ',(xA T d γ).bind F=bQ (.next γ')/\P (k+i+1) γ')->
 ∃γ',P (k+ds.length) γ'/\ka T F (ds++C) γ=ka T F C γ'
 | [],C,k,γ,h,_=>⟨γ,h,rfl⟩
 | d::ds,C,k,γ,h,step=>by
  obtain⟨a,e,f⟩:=step 0 d γ rfl h;obtain⟨γ',g,z⟩:=Yd P ds C (k+1) a (by simpa using f) (λi b I j O=>by have:=step (i+1) b I (by simpa using j) (by rw[show k+(i+1)=k+1+i by omega];exact O);rw[show k+(i+1)+1=k+1+i+1 by omega]at this;exact this)
  refine⟨γ',by rw[show k+(d::ds).length=k+1+ds.length by simp;omega];exact g,?_⟩;rw[NQ,qh];cases eb:xA T d γ with
  | none=>rw[eb]at e;simp at e
  | some U=>
   rw[eb]at e;simp only[GV]at e ⊢;rw[e];exact z
theorem Wj(n:Nat)(v:Vc):kO (zB n v)=(GH n).map λ(i:Nat)=>D.tup [.int i,.int (v i)]:=by unfold kO;rw[vK];refine Hk λi a=>?_;have:=eY.mp a;simp[zB,this]
theorem yB(L:n<=lim)(v:Vc)(J:a<n)(I : ∀i,i<a->v i=0)(C:v a≠0):qE [.tup (zB n v)]=bQ (.val<|.int a):=by
 have d:zU (.tp [0,1]) (sB<|zH hL (zc 1)<|zu<|.int 0) (zc 0) [Cell.no,Cell.no] ((GH n).map λ(i:Nat)=>D.tup [.int i,.int (v i)])=bQ (((GH n).filter λi=> !decide (v i=0)).map λ(i:Nat)=>D.int i):=by refine ju _ _ _ λi g=>⟨_,rfl,?_,λ_=>rfl⟩;simp
 cases hf:(GH n).filter λi=> !decide (v i=0)with
 | nil=>exact absurd (by have:=cF hf a J;simpa using this) C
 | cons b kh=>
  obtain⟨f,O,U⟩:=Yf hf;have e:b=a:=by
   rcases Mg a b with z | z | z
   ·exact absurd (by have:=U a z;simpa using this) C
   ·exact z.symm
   ·exact absurd (I b z) (by simpa using O)
  subst e;rw[hf]at d;simp[qE,jf,ja,Wj,L,z6,GO,d]
theorem ae(L:a<n)(v z:Vc)(x:Int)(C:z a=x)(J : ∀i,i<n->i≠a->z i=v i):(zB n v).set a (.int x)=zB n z:=by
 apply II;intro i;rw[Lg];by_cases b:i<n
 ·by_cases e:a=i
  ·subst e;simp[L,zB,C]
  ·have:=J i b (Hu e)
   simp[e,zB,b,this]
 ·have I:(zB n v)[i]? = dj:=by simp[zB];omega
  have d:(zB n z)[i]? = dj:=by simp[zB];omega
  rw[I,d,EQ ⋯]
noncomputable def Vk(w:Nat)(B:Nat->Vc)(l:RZ)(r:Nat):Vc:=λj=>zk (λk=>if l k=j then B k w else 0) r
noncomputable def kn:=(zP (jD 6<|zE qE<|zb (zc 5) zF)<|zP (h6 (sB<|zH ix (zc 6)<|zc 3) (jK<|zu .eX) jT)<|VG 4 (zc 6)<|dn (zg 5)<|zc 3)
section
variable{p:Int}{h w r:Nat}
theorem V0{l:RZ}(C : ∀k m,k<m->m<r->l k<l m){k m:Nat}(I:k<r)(O:m<r)(e:l k=l m):k=m:=by
 rcases Mg k m with z | z | z
 ·have:=C k m z O;omega
 ·exact z
 ·have:=C m k z I;omega
noncomputable def aug(w:Nat)(f:RK)(b:Vc):Nat->Vc:=λi j=>if j<w then f i j else b i
theorem WB(Y:w+1<=lim)(O:hR p (w+1) r B l)(hs:s<=r)(Z : ∀k,k<s->l k<w)(S:List D)(L z I:Cell) :
 ∃C J,ka (.nm 5) kn (zX s (w+1) B++S) [L,z,I,.val<|.int w,.own<|zB w λ_=>0,.no,.no]=ka (.nm 5) kn S [L,z,I,.val<|.int w,.own<|zB w<|Vk w B l s,C,J]:=by
 obtain⟨G,⟨C,J,rfl⟩,e⟩:=Yd (T:= .nm 5) (F:=kn) (λt o=>∃C J,o=[L,z,I,.val<|.int w,.own<|zB w<|Vk w B l t,C,J]) (zX s (w+1) B) S 0 [L,z,I,.val<|.int w,.own<|zB w λ_=>0,.no,.no]
  ⟨.no,.no,by rw[kP (f:=Vk w B l 0) (g:=λ_=>0) λi _=>rfl]⟩ (by
   rintro k d o b ⟨C,J,rfl⟩;rw[IE];have n:k<s:=by have:=(GU.mp b).1;simpa using this
   have u:d = .tup (zB (w+1)<|B k):=by simp[n]at b;exact b.symm
   subst u;have U:k<r:=by omega
   have h:=Z k n;have le:=yB Y (B k) (show l k<w+1 by omega) (λi j=>O.l5 k i U j) (by rw[O.one k U];decide);refine⟨_,?_,.val<|.tup<|zB (w+1)<|B k,.val<|.int<|l k,rfl⟩;have a : ¬((l k:Int)=(w:Int)):=by omega
   have x : ¬l k=w:=by omega
   have E:w<w+1:=by omega
   have y:=ae h (Vk w B l k) (Vk w B l<|k+1) (B k w) (by
    unfold Vk;simp only[zk,if_true];rw[zy (g:=λ_=>0) λm A=>by rw[EQ λe=>by have:=O.mono m k A U;omega],zT]
    omega) (λi j a=>by
    unfold Vk;simp only[zk];rw[EQ (Hu a)];omega)
   simp[kn,jR,le,a,x,h,E,y])
 rw[iY]at e;refine⟨C,J,?_⟩;rw[e];rw[IE]
theorem rl(w:Nat)(f:RK)(b:Vc)(i:Nat):zB w (f i)++[.int (b i)]=zB (w+1) (aug w f b i):=by
 unfold zB;rw[IW,Ih];congr 1
 ·exact Hk λj z=>by simp[aug,eY.mp z]
 ·simp[aug]
theorem JE(J:Pr p)(Y:h<=90)(Z:w<=90)(f:RK)(b:Vc) :
 ∃r B l s,hR p (w+1) r B l/\(∀v,Span p (w+1) (eF r B) v↔Span p (w+1) (eF h<|aug w f b) v)/\s<=r/\(∀k,k<s->l k<w)/\(∀k,s<=k->k<r->w<=l k)/\
  yN [.int p,qk h w f,.tup (zB h b)]=bQ (.val<|if s<r then .eX else .tup (zB w<|Vk w B l s)):=by
 have W:=jm;have U:h<=lim:=by omega
 have n:w<=lim:=by omega
 have O:w+1<=lim:=by omega
 obtain⟨r,B,l,e,I,o⟩:=xm J (show w+1<=100 by omega) U .L<|aug w f b;obtain⟨s,j,m,g⟩:=Zm w I.mono;refine⟨r,B,l,s,I,o,j,m,g,?_⟩;have a:zU (.tp [0,1]) jj (zH qC (zc 0)<|qM<|zb (zc 1) zF) [Cell.no,Cell.no] ((GH h).map λi=>D.tup [.tup (zB w<|f i),.int (b i)])=bQ (zX h (w+1)<|aug w f b):=by unfold zX;refine zw _ _ λi F=>zx rfl rfl ?_;simp[qC,O,rl]
 have M:JK (zX h w f) (zB h b)=(GH h).map λi=>D.tup [.tup (zB w<|f i),.int (b i)]:=by unfold JK zX zB;rw[Mn];simp
 have t:GO w (D.int 0)=zB w λ_=>0:=by rw[bA];rfl
 have A:((w+1:Nat):Int)=(w:Int)+1:=by omega
 simp only[p5]at e;rw[A]at e;obtain⟨d,E⟩ : ∃d,r=s+d:=⟨r - s,by omega⟩;have H:zX r (w+1) B=zX s (w+1) B++zX d (w+1) λk=>B (s+k):=by unfold zX;rw[E,MG,Ih,HD];rfl
 obtain⟨N,P,G⟩:=WB O I j m (zX d (w+1) λk=>B<|s+k) (.val<|.int p) (.val<|qk h w f)<|.val<|.tup<|zB h b;have K:z7 (qk h w f)=bQ (.T,[.int h,.int w,.tup (zX h w f)]):=rfl;have C:yN=jf 7 (zP (jD 3<|dn (zg 1)<|zu<|.int 1)<|zP (xn 4<|nY (jP<|qP<|zb (zu<|.int 0) zF)<|zc 3)<|zP (yP (zN<|zA<|jU<|jl qG<|zb (zc 0)<|zb (zH qC (zc 3)<|zu<|.int 1)<|zb (jU<|zS (YB (dn (zg 1)<|zu<|.int 2)<|zc 2) (.tp [0,1]) 2 [] jj (zH qC (zc 0)<|qM<|zb (zc 1) zF)) zF) (.nm 5) kn)<|jK<|je<|zg 4):=rfl;rw[C];simp[jf,ja,jR,K,n,M,U,z6,GO,a,e];rw[t,H,G];by_cases z:s<r
 ·
  have u:d=1:=by
   rcases Hg 1 d with q | q
   ·have Q:=I.mono s (s+1) ⋯ ⋯
    have R:=g s (GQ _) z;have S:=I.lt (s+1) ⋯;omega
   ·omega
  subst u;have x:l s=w:=by have:=g s (GQ _) z;have:=I.lt s z;omega
  have le:=yB O (B s) (show w<w+1 by omega) (λi F=>I.l5 s i z ⋯) (by have:=I.one s z;rw[x]at this;rw[this];decide);have one:zX 1 (w+1) (λk=>B<|s+k)=[.tup (zB (w+1)<|B s)]:=rfl;rw[one,qh];simp[kn,jR,le,z]
 ·have y:d=0:=by omega
  subst y;have zero:zX 0 (w+1) (λk=>B<|s+k)=[]:=rfl;rw[zero];simp[ka,z]
end
noncomputable def rn(n:Nat)(hs ws:RZ)(T:RV):List D:=(GH n).map λk=>qk (hs k) (ws k)<|T k
section
variable{hs ws:RZ}{T:RV}
theorem wF(n f):(zB n f).length=n:=by simp[zB]
theorem nF(n hs ws T):(rn n hs ws T).length=n:=by simp[rn]
theorem sk{n k:Nat}(h:k<n):(rn n hs ws T)[k]? = bQ (qk (hs k) (ws k)<|T k):=by unfold rn;simp[h]
end
theorem rD(h : ∀k,k<r->l k≠j):Vk w B l r j=0:=by unfold Vk;rw[zy (g:=λ_=>0) λk z=>EQ<|h k z,zT]
theorem Ay{p:Int}{w n r:Nat}{B:Nat->Vc}{l:RZ}(I:hR p n r B l){k:Nat}(z:k<r):Vk w B l r (l k)=B k w:=by unfold Vk;rw[zQ z λm a O=>EQ λe=>O<|V0 I.mono a z e,RY rfl]
theorem fY{p:Int}{h w:Nat}{f:RK}{b y:Vc}(U : ∀i,i<h->zk (λj=>f i j*y j) w%p=b i%p){v:Vc}(C:Span p (w+1) (eF h<|aug w f b) v):(v w - zk (λj=>v j*y j) w)%p=0:=by
 induction C with
 | @zero v I=>
  have e:zk (λj=>v j*y j) w%p=zk (λ_=>0) w%p:=zK λj O=>by rw[GR,I j ⋯];simp
  rw[IL,e,I w ⋯,zT];simp
 | @step v z g c n s a r=>
  obtain⟨i,o,rfl⟩:=n;have d:zk (λj=>v j*y j) w%p=(zk (λj=>z j*y j) w+c*zk (λj=>f i j*y j) w)%p:=by
   rw[<- jo,<- jv];refine zK λj O=>?_;rw[GR,a j ⋯,<- GR];have:aug w f b i j=f i j:=by simp[aug,O]
   rw[this,MW,Ir]
  have k:v w%p=(z w+c*b i)%p:=by
   rw[a w ⋯];have:aug w f b i w=b i:=by simp[aug]
   rw[this]
  have l:(c*zk (λj=>f i j*y j) w)%p=(c*b i)%p:=by rw[GR,U i o,<- GR]
  rw[IL,d,k,<- IL];have m:(z w+c*b i - (zk (λj=>z j*y j) w+c*zk (λj=>f i j*y j) w))=(z w - zk (λj=>z j*y j) w)+(c*b i - c*zk (λj=>f i j*y j) w):=by omega
  rw[m,HI,r,IL,l];simp
theorem fZ(C:Pr p)(L:h<=90)(S:w<=90)(f:RK)(b y:Vc)(U : ∀i,i<h->0<=b i/\b i<p)(Y : ∀i,i<h->zk (λj=>f i j*y j) w%p=b i) :
 ∃x:Vc,yN [.int p,qk h w f,.tup (zB h b)]=bQ (.val<|.tup<|zB w x)/\(∀j,0<=x j/\x j<p)/\∀i,i<h->zk (λj=>f i j*x j) w%p=b i:=by
 have M:=C.pos;obtain⟨r,B,l,s,O,d,T,t,N,m⟩:=JE C L S f b;have u : ¬s<r:=λz=>by
  have Q:=O.lt s z;have R:=N s (GQ _) z;have G:l s=w:=by omega
  have P:=(d<|B s).mp (.gen ⟨s,z,rfl⟩);have q:=fY (y:=y) (λi a=>by rw[Y i a,HE (U i a).1 (U i a).2]) P;have o:=O.one s z;rw[G]at o;have J:zk (λj=>B s j*y j) w=0:=by rw[zy (g:=λ_=>0) λj K=>by rw[O.l5 s j z ⋯];simp];exact zT _
  rw[o,J,Int.sub_zero,C.one]at q;omega
 rw[EQ u]at m;have H:s=r:=by omega
 subst H;refine⟨_,m,λj=>?_,λi a=>?_⟩
 ·by_cases e : ∃k,k<s/\l k=j
  ·obtain⟨k,I,rfl⟩:=e
   rw[Ay O I];exact O.lU k w I ⋯
  ·rw[rD λk I F=>e ⟨k,I,F⟩];exact⟨Int.le_refl _,M⟩
 ·have n:=Zi O ((d<|aug w f b i).mpr (.gen ⟨i,a,rfl⟩)) w ⋯
  have A:aug w f b i w=b i:=by simp[aug]
  rw[A,HE (U i a).1 (U i a).2]at n;rw[n];congr 1;unfold Vk;rw[zy (g:=λj=>zk (λk=>f i j*(if l k=j then B k w else 0)) s) λj _=>(jo _ _ _).symm,qI];refine zy λk I=>?_;rw[zQ (i:=l k) (t k I) λj K E=>by rw[EQ (Hu E)];simp,RY rfl];simp only[aug,RY (t k I)]
noncomputable def xS(wd:RZ)(b:ft):List D:=(GH b.n).map λi=>D.tup<|zB (wd<|b.s+i)<|b.v<|b.s+i
noncomputable def qc(wd:RZ)(b:ft):D:= .tup [.int b.s,.tup (xS wd b)]
@[simp] theorem W1(wd b):(xS wd b).length=b.n:=by simp[xS]
theorem V3(h:i<b.n):(xS wd b)[i]? = bQ (.tup<|zB (wd<|b.s+i)<|b.v<|b.s+i):=by simp[xS,h]
@[simp] theorem CQ(wd b):z7 (qc wd b)=bQ (.T,[.int b.s,.tup (xS wd b)]):=rfl
section
variable{wd:RZ}{b:ft}{l8:List ft}
theorem J2(C:1<=b.n)(I:b.s+b.n<=100):jS [qc wd b]=bQ (.val<|.tup [.int b.s,.int ((b.s+b.n - 1:Nat):Int)]):=by
 have e:((b.s:Int)+(b.n:Int) - 1)=((b.s+b.n - 1:Nat):Int):=by omega
 simp[jS,jf,ja,qc,GO];omega
theorem kN(C:b.s+b.n<=100)(r:Nat):jN [qc wd b,.int r]=bQ (.val<|.bl<|b.has r):=by
 by_cases h:b.s<=r
 ·by_cases a:r<b.s+b.n
  ·have:(r:Int)<(b.s:Int)+b.n:=by omega
   simp[jN,jf,ja,qc,GO,ft.has,h,a,this]
  ·have : ¬((r:Int)<(b.s:Int)+b.n):=by omega
   simp[jN,jf,ja,qc,GO,ft.has,h,a,this]
 ·simp[jN,jf,ja,qc,GO,ft.has,h]
theorem vc{N:Nat}{A:Nat->ft}(z : ∀j,j<N->(A j).s+(A j).n<=100)(I:N<=lim)(r:Nat) :
 qL [.lst ((GH N).map λj=>qc wd<|A j),.int r]=bQ (.own<|((GH N).filter λj=>(A j).has r).map λj=>D.tup<|zB (wd r)<|(A j).v r):=by
 simp only[qL,jf,ja,eO,qA,vS,yx,HC,MZ,ID,LV,GO,Lz,NQ,Mp,Iq,vh,z7,Iw,GV,GY,Hi,I,if_true];rw[ju (λj=>(A j).has r) (λj=>D.tup<|zB (wd r)<|(A j).v r) (GH N) λj O=>⟨_,rfl,?_,λd=>?_⟩]
 ·rfl
 ·have e:=kN (wd:=wd) (z j<|eY.mp O) r
  simp[z6,e]
 ·obtain⟨b,h⟩:=iW.mp d
  obtain⟨i,rfl⟩:=Nat.exists_eq_add_of_le b;have a:i<(A j).n:=by omega
  have g:(((A j).s+i:Nat):Int) - ((A j).s:Int)=(i:Int):=by omega
  have U:=V3 (wd:=wd) a;have I:=jm;have f:=z j<|eY.mp O;simp[z6,qc,a,U];rw[show((A j).s:Int)+(i:Int) - ((A j).s:Int)=(i:Int)by omega,jq,RY a];exact U
theorem wG(g:Nat->Vc)(z:q<=lim)(I:h<=lim):xK [.int h,.lst (zX q h g)]=bQ (.val<|qk h q λi j=>g j i):=by have e:=yA (h:=q) (w:=h) g z I;unfold qk at e;simp[xK,jf,ja,GO,z,e];rfl
theorem V2(h:Nat)(u:Nat->Vc)(L:List Nat):(L.map λj=>D.tup<|zB h<|u j)=zX L.length h λi=>u (L.getD i 0):=by
 unfold zX
 conv=>lhs;rw[<- jc 0 L]
 rw[HD];rfl
theorem iC(u:Nat->Int)(L:List Nat):(L.map λj=>D.int<|u j)=zB L.length λi=>u (L.getD i 0):=by
 unfold zB
 conv=>lhs;rw[<- jc 0 L]
 rw[HD];rfl
theorem yD(P:RX)(g:Nat->Int) : ∀N,zk (λi=>g<|((GH N).filter P).getD i 0) ((GH N).filter P).length=zk (λj=>if P j=di then g j else 0) N
 | 0=>rfl
 | N+1=>by
  have z:=yD P g N;rw[IW,ME];show _=zk _ N+_;rw[<- z];cases hP:P N with
  | false=>simp[hP]
  | true=>
   have e:([N].filter P)=[N]:=by simp[hP]
   rw[e,HQ,Lx];show zk _ _+_=_;simp only[if_true];congr 1
   ·refine zy λi a=>?_
    simp[GN,HR a]
   ·simp[GN,hP]
end
section
variable{wd:RZ}{N m:Nat}{A:Nat->ft}{p:Int}{w:RX}{T:RV}{t:Vc}
theorem fF:JK (zB N t) ((GH N).map λj=>qc wd<|A j)=(GH N).map λj=>D.tup [.int (t j),qc wd (A j)]:=by
 unfold JK zB;rw[List.zip_map,HD];have e:(GH N).zip (GH N)=(GH N).map λi=>(i,i):=by rw[List.zip_eq_zipWith,List.zipWith_self]
 rw[e,HD];rfl
theorem Xw(U:Pr p)(C : ∀j,j<N->(A j).s+(A j).n<=100)(Y:N<=60)(Z:m<=5)(J : ∀k,wd k<=60)(hr:r<=m)(S : ∀j i,j<N->(A j).has r=di->i<wd r->0<=(A j).v r i/\(A j).v r i<p) :
 xY [qW p m w wd T,.lst<|(GH N).map λj=>qc wd<|A j,.tup<|zB N t,.int r]=bQ (.val<|.tup<|zB (wd r)<|nr p A N t r):=by
 have E:=jm;have G:=U.le;have B:=J r;have a:=vc (wd:=wd) C (show N<=lim by omega) r;rw[V2 (wd r) (λj=>(A j).v r)]at a;have F:((GH N).filter λj=>(A j).has r).length<=N:=by have:=Ly (λj=>(A j).has r)<|GH N;simpa using this
 have g:=wG (q:=((GH N).filter λj=>(A j).has r).length) (h:=wd r) (λi=>(A<|((GH N).filter λj=>(A j).has r).getD i 0).v r) ⋯ ⋯;have I:=XZ (p:=p) (h:=wd r) (w:=((GH N).filter λj=>(A j).has r).length) .L (λi j=>(A<|((GH N).filter λj=>(A j).has r).getD j 0).v r i) (λi=>t<|((GH N).filter λj=>(A j).has r).getD i 0) U.pos ⋯ ⋯ (λi j y O=>by
  have b:((GH N).filter λj=>(A j).has r).getD j 0∈(GH N).filter λj=>(A j).has r:=by rw[GN,GL O];exact Ln _
  obtain⟨u,x⟩:=Hl.mp b;have:=S _ i (eY.mp u) (by simpa using x) y;omega)
 have l:(zB (wd r) λi=>zk (λj=>(A<|((GH N).filter λj=>(A j).has r).getD j 0).v r i*t (((GH N).filter λj=>(A j).has r).getD j 0)) ((GH N).filter λj=>(A j).has r).length%p)=zB (wd r) (nr p A N t r):=kP λi _=>by unfold nr;rw[yD (λj=>(A j).has r) (λj=>(A j).v r i*t j) N];congr 1;refine zy λj _=>?_;rw[Ib]
 rw[l]at I;have o:zU (.tp [0,1]) (sB<|zE jN<|zb (zc 1)<|zb (zc 2) zF) (zc 0) [.no,.no,.val (.int r)] ((GH N).map λj=>D.tup [.int (t j),qc wd (A j)])=bQ (zB ((GH N).filter λj=>(A j).has r).length λi=>t<|((GH N).filter λj=>(A j).has r).getD i 0):=by rw[<- iC];refine ju (λj=>(A j).has r) (λj=>D.int<|t j) _ λj O=>⟨_,rfl,?_,λ_=>rfl⟩;have e:=kN (wd:=wd) (C j<|eY.mp O) r;simp[e]
 have d:r<m+1:=by omega
 have z:=fF (N:=N) (wd:=wd) (t:=t) (A:=A);simp only[p5]at I;have f:N<=lim:=by omega
 refine jw<|zo (γ':=[.val (qW p m w wd T),.val<|.lst<|(GH N).map λj=>qc wd<|A j,.val<|.tup<|zB N t,.val<|.int r,.val (.lst<|zB ((GH N).filter λj=>(A j).has r).length λi=>t<|((GH N).filter λj=>(A j).has r).getD i 0)]) ?_ ?_
 ·simp[-GN,ja,z6,GO,z,o,f]
 ·simp[-GN,qW,a,g,I,d]
theorem iz(U:Pr p)(I : ∀j,j<N->(A j).s+(A j).n<=m+1)(L:N<=60)(S:m<=5)(J : ∀k,wd k<=60)(Y : ∀j r i,j<N->(A j).has r=di->i<wd r->0<=(A j).v r i/\(A j).v r i<p)(C:a<N)(Z : ∀i,i<a->t i=0)(t1:t a≠0) :
 XX [qW p m w wd T,.lst<|(GH N).map λj=>qc wd<|A j,.tup (zB N t)]=bQ (.val<|qc wd<|DM p A N t a):=by
 have E:=jm;have f:N<=lim:=by omega
 have h:=yB f t C Z t1;have B:=I a C;have l:zU (.nm 0) jj (zE xY<|zb (zc 1)<|zb (zc 2)<|zb (zc 3)<|zb (zH qC (dn (zg 4)<|zu<|.int 0)<|zc 0) zF) [.no,.val<|qW p m w wd T,.val<|.lst<|(GH N).map λj=>qc wd<|A j,.val<|.tup<|zB N t,.val (qc wd<|A a)] ((GH (A a).n).map λ(i:Nat)=>D.int i)=bQ (xS wd<|DM p A N t a):=by
  unfold xS;refine zw _ _ λi b=>zx rfl rfl ?_;have b:=eY.mp b;have e:=Xw (T:=T) (w:=w) (t:=t) U (λj z=>by have:=I j z;omega) L S J (r:=(A a).s+i) (by have:i<(A a).n:=b;omega) λj c z x u=>Y j _ c z x u;have o:(((A a).s+i:Nat):Int)=((A a).s:Int)+(i:Int):=by omega
  rw[o]at e;have F:inR (((A a).s:Int)+(i:Int))=di:=decide_eq_true (by have:i<(A a).n:=b;omega);simp[e];rfl
 have d:(A a).n<=lim:=by omega
 have y:inR ((A a).n:Int)=di:=decide_eq_true ⋯;refine jw<|zo (γ':=[.val (qW p m w wd T),.val<|.lst<|(GH N).map λj=>qc wd<|A j,.val<|.tup<|zB N t,.val<|qc wd<|A a,.no]) ?_ (zo (γ':=[.val (qW p m w wd T),.val<|.lst<|(GH N).map λj=>qc wd<|A j,.val<|.tup<|zB N t,.val<|qc wd<|A a,.val (.lst<|xS wd<|DM p A N t a)]) ?_ ?_)
 ·simp[ja,GO,h,C]
 ·have O:=l
  rw[show((GH (A a).n).map λ(i:Nat)=>D.int i)=zB (A a).n λi=>(i:Int)from rfl]at O;simp[z6,jy,y,d,O]
 ·have g:(DM p A N t a).n<=lim:=d
  simp[W1,g];rfl
end
section
variable{wd:RZ}{N m k r:Nat}{A:Nat->ft}{p:Int}{w:RX}{T:RV}{B:Nat->Vc}{l:RZ}
theorem Wf(l:RZ)(g:Nat->D)(i:Nat) : ∀(L:List Nat),Wg (L.map λj=>D.int ((l j:Nat):Int)) (L.map g) (i:Int)=(L.find? λj=>l j==i).map g
 | []=>rfl
 | j::L=>by
  have z:=Wf l g i L;simp only[HC,Wg,Lh];by_cases h:l j=i
  ·simp[h]
  ·have a : ¬((l j:Nat):Int)=(i:Int):=by omega
   rw[EQ a,z];have:(l j==i)=ed:=by simpa using h
   rw[this]
theorem K7(l:RZ) : ∀L:List Nat,JW (L.map λj=>D.int ((l j:Nat):Int))=bQ (L.map λj=>((l j:Nat):Int))
 | []=>rfl
 | j::L=>by simp[JW,K7 l L]
theorem W3(z:hR p N r B l)(I:r<=lim):lj ((GH r).map λj=>D.int ((l j:Nat):Int)) ((GH r).map λj=>D.tup<|zB N<|B j)=bQ (.lN ((GH r).map λj=>D.int ((l j:Nat):Int))<|(GH r).map λj=>D.tup<|zB N<|B j):=by unfold lj;rw[K7];dsimp only;rw[RY];refine⟨by simp,?_,by simpa using I⟩;rw[List.nodup_iff_pairwise_ne,Md];refine Mm (λ{a b} d O h=>?_)<|Mc (n:=r);have:=z.mono a b h<|eY.mp O;omega
theorem X7(f g:Nat->D) : ∀L:List Nat,vn (L.map λj=>D.tup [f j,g j])=bQ (L.map f,L.map g)
 | []=>rfl
 | j::L=>by simp[vn,X7 f g L]
theorem Jx(h:k<(ku m w wd T).length):(ku m w wd T)[k]=vX w wd T k:=by simp[ku]
theorem kx(w wd T k):z7 (vX w wd T k)=bQ (.T,[.str (vW<|ji<|w k),qk (h8 w wd k) (h9 w wd k) (T k)]):=rfl
theorem Y4:kO ((GH N).map λj=>qc wd<|A j)=(GH N).map λ(i:Nat)=>D.tup [.int i,qc wd (A i)]:=by unfold kO;simp only[GY,Hi];refine Hk λi a=>?_;have a:=eY.mp a;simp[a]
noncomputable def rG(p:Int)(w:RX)(wd:RZ)(T:RV)(k:Nat)(u:Vc):Prop:=if w k=di then Span p (wd k) (eF (wd<|k+1) λj i=>T k i j) u else Di p (wd<|k+1) (wd k) (T k) u
theorem WA(O:Pr p)(U : ∀k,wd k<=8)(w)(T)(k:Nat) : ∃q g,q<=100/\(∀u,Span p (wd k) (eF q g) u↔rG p w wd T k u)/\
 (if w k=di then wK [.int p,qk (h8 w wd k) (h9 w wd k) (T k)]=bQ (.own<|zX q (wd k) g)else yO [.int p,qk (h8 w wd k) (h9 w wd k) (T k)]=bQ (.own<|zX q (wd k) g)):=by
 have o:=jm;have i:=U k;have m:=U<|k+1;have d : ∀{r n:Nat} {B:Nat->Vc} {l:RZ},hR p n r B l->r<=n:=λ{r n B l} z=>by
  have mono : ∀k,k<r->k<=l k:=by
   intro k
   induction k with
   | zero=>intro _;omega
   | succ k j=>intro i;have:=j ⋯;have:=z.mono k (k+1) ⋯ i;omega
  cases r with
  | zero=>omega
  | succ f=>have:=mono f ⋯;have:=z.lt f ⋯;omega
 cases hw:w k with
 | true=>
  have a:h8 w wd k=wd k:=by unfold h8;rw[hw];rfl
  have I:h9 w wd k=wd (k+1):=by unfold h9;rw[hw];rfl
  obtain⟨r,B,l,e,z,b⟩:=QQ O (h:=wd k) (w:=wd<|k+1) ⋯ ⋯<|T k;refine⟨r,B,by have:=d z;omega,λu=>by unfold rG;rw[hw,RY rfl];exact b u,?_⟩;rw[RY rfl,a,I];exact e
 | false=>
  have a:h8 w wd k=wd (k+1):=by unfold h8;rw[hw];rfl
  have I:h9 w wd k=wd k:=by unfold h9;rw[hw];rfl
  obtain⟨q,K,l,s,e,z,b,_⟩:=kU O (h:=wd<|k+1) (w:=wd k) ⋯ ⋯<|T k;refine⟨q,K,by have:=d z;omega,λu=>by unfold rG;rw[hw,EQ ⋯];exact b u,?_⟩;rw[EQ ⋯,a,I];exact e
theorem YA:vT=jf 8 (zP OF<|zP OG<|zP I0<|zP OH<|zP OI OJ):=rfl
theorem WD(S:Pr p)(Z : ∀j,j<N->(A j).s+(A j).n<=m+1)(J : ∀j,j<N->(A j).has k=di)(Y:k<m)(hN:N<=8)(hm:m<=5)(C : ∀k,wd k<=8)(hv : ∀j r i,j<N->(A j).has r=di->i<wd r->0<=(A j).v r i/\(A j).v r i<p) :
 ∃r B l,hR p N r B l/\(∀t,Span p N (eF r B) t↔rG p w wd T k (app (λi j=>(A j).v k i) N t))/\
  vT [qW p m w wd T,.int k,.lst ((GH N).map λj=>qc wd<|A j)]=bQ (.own<|(GH N).map λi=>qc wd<|hX p A N r B l i):=by
 have hl:=jm;obtain⟨q,g,hq,E,U⟩:=WA S C w T k;have be:=C k;obtain⟨r,B,l,K,z,hs⟩:=XY S (h:=wd k) (w:=N) (q:=q) ⋯ ⋯ hq (λi j=>(A j).v k i) g;refine⟨r,B,l,z,λt=>(hs t).trans (E _),?_⟩;have d:N<=lim:=by omega
 have F:k<m+1:=by omega
 have rN:r<=N:=by
  have mono : ∀k,k<r->k<=l k:=by
   intro k
   induction k with
   | zero=>intro _;omega
   | succ k ih=>intro J;have:=ih ⋯;have:=z.mono k (k+1) ⋯ J;omega
  cases r with
  | zero=>omega
  | succ o=>have:=mono o ⋯;have:=z.lt o ⋯;omega
 have u:r<=lim:=by omega
 have x:=vc (wd:=wd) (A:=A) (N:=N) (λj I=>by have:=Z j I;omega) d k;have X:((GH N).filter λj=>(A j).has k)=GH N:=List.filter_eq_self.mpr λj I=>J j<|eY.mp I;rw[X]at x;have M:=wG (q:=N) (h:=wd k) (λj=>(A j).v k) d ⋯;have G:qL [.lst ((GH N).map λj=>qc wd<|A j),.int k]=bQ (.own<|zX N (wd k) λj=>(A j).v k):=x;have P:zU (.nm 0) jj (qM<|zb (zE qE<|zb (zc 0) zF)<|zb (zc 0) zF) [.no] (zX r N B)=bQ ((GH r).map λj=>D.tup [.int ((l j:Nat):Int),.tup (zB N<|B j)]):=by unfold zX;refine zw _ _ λj I=>zx rfl rfl ?_;have I:=eY.mp I;have e:=yB d (B j) (z.lt j I) (λi b=>z.l5 j i I b) (by rw[z.one j I];decide);simp[e]
 have Q:=W3 z u;have R:=X7 (λj=>D.int ((l j:Nat):Int)) (λj=>D.tup<|zB N<|B j)<|GH r;let f:D:= .lN ((GH r).map λj=>D.int ((l j:Nat):Int)) ((GH r).map λj=>D.tup<|zB N<|B j);let L:D:= .lst ((GH N).map λj=>qc wd<|A j);have W:zU (.tp [0,1]) jj (bo (sB<|sT (zc 0)<|zc 4) (zE XX<|zb (zc 2)<|zb (zc 3)<|zb (AL (zc 4)<|zc 0) zF)<|zc 1) [.no,.no,.val<|qW p m w wd T,.val L,.val f] ((GH N).map λ(i:Nat)=>D.tup [.int i,qc wd (A i)])=bQ ((GH N).map λi=>qc wd<|hX p A N r B l i):=by
  refine zw _ _ λi b=>zx rfl rfl ?_;have b:=eY.mp b;have O:=Wf l (λj=>D.tup<|zB N<|B j) i<|GH r;have H:(GH r).find? (λj=>l j==i)=l4 r l i:=rfl;rw[H]at O;unfold hX;cases hx:l4 r l i with
  | none=>
   rw[hx]at O;simp[f,sT,O]
  | some j=>
   rw[hx]at O;obtain⟨y,h2⟩:=xi hx;have e:=iz (T:=T) (w:=w) (t:=B j) S Z ⋯ hm (λk=>by have:=C k;omega) hv (a:=i) b (λc hc=>z.l5 j c y ⋯) (by rw[<- h2,z.one j y];decide);simp[f,sT,AL,O,L,e]
 rw[YA];refine jw (zo (γ':=[.val (qW p m w wd T),.val<|.int k,.val L,.val<|.str<|vW<|ji<|w k,.no,.no,.no,.no]) ?_
  (zo (γ':=[.val (qW p m w wd T),.val<|.int k,.val L,.val<|.str<|vW<|ji<|w k,.val<|qk (h8 w wd k) (h9 w wd k)<|T k,.no,.no,.no]) ?_
  (zo (γ':=[.val (qW p m w wd T),.val<|.int k,.val L,.val<|.str<|vW<|ji<|w k,.val<|qk (h8 w wd k) (h9 w wd k)<|T k,.val<|.lst<|zX q (wd k) g,.no,.no]) ?_
  (zo (γ':=[.val (qW p m w wd T),.val<|.int k,.val L,.val<|.str<|vW<|ji<|w k,.val<|qk (h8 w wd k) (h9 w wd k)<|T k,.val<|.lst<|zX q (wd k) g,.val<|.lst<|zX r N B,.no]) ?_
  (zo (γ':=[.val (qW p m w wd T),.val<|.int k,.val L,.val<|.str<|vW<|ji<|w k,.val<|qk (h8 w wd k) (h9 w wd k)<|T k,.val<|.lst<|zX q (wd k) g,.val<|.lst<|zX r N B,.val f]) ?_ ?_)))))
 ·simp[OF,ja,GO,yf,kx,Jx,Y];rfl
 ·simp[OG,yf,kx,Jx,Y]
 ·cases hw:w k with
  | true=>
   rw[hw,RY rfl]at U;have eq:=XI di;simp[I0,yf,eq,U]
  | false=>
   rw[hw,EQ ⋯]at U;have eq:=XI ed;simp[I0,yf,eq,U]
 ·simp[OH,yf,F,L,G,M,K]
 ·simp[OI,z6,P,u,R,Q];rfl
 ·simp[OJ,z6,L,Y4,d,W]
end
noncomputable def oD(n:Nat):Option Vc->D
 | none=> .eX
 | some y=> .tup (zB n y)
theorem WC(U:Pr p)(C:h<=90)(J:w<=90)(f:RK)(b:Vc)(O : ∀i,i<h->0<=b i/\b i<p) :
 ∃o:Option Vc,yN [.int p,qk h w f,.tup (zB h b)]=bQ (.val<|oD w o)/\(∀x,o=bQ x->(∀j,0<=x j/\x j<p)/\∀i,i<h->app f w x i%p=b i%p)/\(o=dj->¬∃y:Vc,∀i,i<h->app f w y i%p=b i%p):=by
 have n : ∀i,i<h->b i%p=b i:=λi a=>HE (O i a).1 (O i a).2;by_cases I : ∃y:Vc,∀i,i<h->app f w y i%p=b i%p
 ·obtain⟨y,I⟩:=I
  obtain⟨x,e,L,M⟩:=fZ U C J f b y O λi a=>by rw[<- n i a,<- I i a];rfl
  refine⟨bQ x,e,λS H=>?_,λz=>by cases z⟩;cases H;exact⟨L,λi a=>by rw[n i a];exact M i a⟩
 ·obtain⟨r,B,l,s,N,E,Q,A,R,d⟩:=JE U C J f b
  have m:s<r:=by
   refine Ie λm=>I ?_;have K:s=r:=by omega
   subst K;refine⟨Vk w B l s,λi a=>?_⟩;have t:=Zi N ((E<|aug w f b i).mpr (.gen ⟨i,a,rfl⟩)) w ⋯;have F:aug w f b i w=b i:=by simp[aug]
   rw[F]at t;rw[t];congr 1;unfold app Vk;rw[zy (g:=λj=>zk (λk=>f i j*(if l k=j then B k w else 0)) s) λj _=>(jo _ _ _).symm,qI];refine zy λk u=>?_;rw[zQ (i:=l k) (A k u) λj P G=>by rw[EQ (Hu G)];simp,RY rfl];simp only[aug,RY (A k u)]
  rw[RY m]at d;exact⟨dj,d,nofun,λ_=>I⟩
section
variable{wd:RZ}{m k:Nat}{p:Int}{w:RX}{T:RV}
theorem iu:xc=jf 4 (zP DO<|zP G8 G9):=rfl
theorem XJ(b:Bool):ix (.str (vW (ji b))) (.str "l")=bQ (.bl b):=by cases b<;>kernel_rfl
theorem KQ(I:Pr p)(C : ∀k,wd k<=8)(J : ∀i j,i<h8 w wd k->j<h9 w wd k->0<=T k i j/\T k i j<p)(u:Vc)(L : ∀i,i<wd k->0<=u i/\u i<p) :
 ∃o:Option Vc,xc [.int p,vX w wd T k,.tup (zB (wd k) u)]=bQ (.val<|oD (wd<|k+1) o)/\(∀y,o=bQ y->∀c,c<wd (k+1)->0<=y c/\y c<p)/\
  (w k=ed->(o=dj->∀c,c<wd (k+1)->app (T k) (wd k) u c%p=0)/\∀y,o=bQ y->(∀c,c<wd (k+1)->app (T k) (wd k) u c%p=y c%p)/\∃c,c<wd (k+1)/\y c%p≠0)/\
  (w k=di->(o=dj->¬∃y:Vc,∀c,c<wd k->app (T k) (wd<|k+1) y c%p=u c%p)/\∀y,o=bQ y->∀c,c<wd k->app (T k) (wd<|k+1) y c%p=u c%p):=by
 have G:=jm;have H:=I.le;have F:=C k;have E:=C<|k+1;rw[iu];cases hw:w k with
 | true=>
  have b:h8 w wd k=wd k:=by unfold h8;rw[hw];rfl
  have O:h9 w wd k=wd (k+1):=by unfold h9;rw[hw];rfl
  obtain⟨o,t,a,d⟩:=WC I (h:=wd k) (w:=wd<|k+1) ⋯ ⋯ (T k) u L;refine⟨o,?_,λy e c _=>(a y e).1 c,nofun,λ_=>⟨d,λy e=>(a y e).2⟩⟩;refine jw ?_;have U:=XJ di;have x:DO (ja 4 [.int p,vX w wd T k,.tup (zB (wd k) u)])=bQ (.ret<|.val<|oD (wd<|k+1) o):=by simp[DO,ja,GO,kx,hw,U,b,O,t]
  rw[jR,x];rfl
 | false=>
  have b:h8 w wd k=wd (k+1):=by unfold h8;rw[hw];rfl
  have O:h9 w wd k=wd k:=by unfold h9;rw[hw];rfl
  rw[b,O]at J;have l:=XZ (p:=p) (h:=wd<|k+1) (w:=wd k) .T (T k) u I.pos ⋯ ⋯ λi j A B=>by have:=J i j A B;omega
  simp only[p5]at l;have U:=XJ ed;have r:=Vw (λi=>zk (λj=>T k i j*u j) (wd k)%p)<|wd<|k+1;by_cases f : ∃c,c<wd (k+1)/\zk (λj=>T k c j*u j) (wd k)%p≠0
  ·refine⟨bQ λi=>zk (λj=>T k i j*u j) (wd k)%p,?_,(λy e c _=>by cases e;exact⟨Hw _ (by have:=I.pos;omega),Hh _ I.pos⟩),λ_=>⟨nofun,(λy e=>by cases e;exact⟨(λc _=>by rw[Hn];rfl),(by obtain⟨c,a,d⟩:=f;exact⟨c,a,(by rw[Hn];exact d)⟩)⟩)⟩,nofun⟩
   refine jw<|zo (γ':=[.val (.int p),.val<|vX w wd T k,.val<|.tup<|zB (wd k) u,.no]) ?_ (zo (γ':=[.val (.int p),.val<|vX w wd T k,.val<|.tup<|zB (wd k) u,.val (.tup<|zB (wd<|k+1) λi=>zk (λj=>T k i j*u j) (wd k)%p)]) ?_ ?_)
   ·simp[DO,ja,GO,kx,hw,U]
   ·simp[G8,kx,b,O,l]
   ·have g:(GH<|wd<|k+1).any (λi=>(zk (λj=>T k i j*u j) (wd k)%p) != 0)=di:=by
     obtain⟨c,a,d⟩:=f;exact NR.mpr ⟨c,eY.mpr a,by simpa using d⟩
    have m:rK (zg 3) [.val (.int p),.val<|vX w wd T k,.val<|.tup<|zB (wd k) u,.val (.tup<|zB (wd<|k+1) λi=>zk (λj=>T k i j*u j) (wd k)%p)]=bQ (.bl di):=by show((ZJ _).map λs=>D.bl<|s.any id)=_;rw[r];show bQ (D.bl<|((GH<|wd<|k+1).map λi=>(zk (λj=>T k i j*u j) (wd k)%p) != 0).any id)=_;rw[List.any_map];rw[show(id∘λi=>(zk (λj=>T k i j*u j) (wd k)%p) != 0)=λi=>(zk (λj=>T k i j*u j) (wd k)%p) != 0 from rfl,g]
    unfold G9;simp only[Yt,mS,rQ,m];rfl
  ·refine⟨dj,?_,nofun,λ_=>⟨λ_ c n=>Ie λz=>f ⟨c,n,z⟩,nofun⟩,nofun⟩
   refine jw<|zo (γ':=[.val (.int p),.val<|vX w wd T k,.val<|.tup<|zB (wd k) u,.no]) ?_ (zo (γ':=[.val (.int p),.val<|vX w wd T k,.val<|.tup<|zB (wd k) u,.val (.tup<|zB (wd<|k+1) λi=>zk (λj=>T k i j*u j) (wd k)%p)]) ?_ ?_)
   ·simp[DO,ja,GO,kx,hw,U]
   ·simp[G8,kx,b,O,l]
   ·have g:(GH<|wd<|k+1).any (λi=>(zk (λj=>T k i j*u j) (wd k)%p) != 0)=ed:=NJ.mpr λc n z=>f ⟨c,eY.mp n,by simpa using z⟩
    have m:rK (zg 3) [.val (.int p),.val<|vX w wd T k,.val<|.tup<|zB (wd k) u,.val (.tup<|zB (wd<|k+1) λi=>zk (λj=>T k i j*u j) (wd k)%p)]=bQ (.bl ed):=by show((ZJ _).map λs=>D.bl<|s.any id)=_;rw[r];show bQ (D.bl<|((GH<|wd<|k+1).map λi=>(zk (λj=>T k i j*u j) (wd k)%p) != 0).any id)=_;rw[List.any_map];rw[show(id∘λi=>(zk (λj=>T k i j*u j) (wd k)%p) != 0)=λi=>(zk (λj=>T k i j*u j) (wd k)%p) != 0 from rfl,g]
    unfold G9;simp only[Yt,mS,rQ,m];rfl
end
section
variable{wd:RZ}{m k:Nat}{p:Int}{w:RX}{T:RV}
theorem iK(h:1<=n):hB n (-1)=bQ (n - 1):=by unfold hB;rw[EQ ⋯,RY ⋯];congr 1;omega
theorem cP(z:b.s+b.n=k+1)(y:Vc):xS wd (i8 k b<|some y)=xS wd b++[D.tup (zB (wd<|k+1) y)]:=by
 unfold xS i8;dsimp only;rw[IW,Ih];congr 1
 ·refine Hk λi a=>?_
  have a:=eY.mp a;rw[EQ ⋯]
 ·simp[z]
theorem aM:kz=jf 4 (zP OR L1):=rfl
theorem fR(C:1<=b.n)(I:b.s+b.n=k+1)(J:k<=20)(e:xc [.int p,vX w wd T k,.tup (zB (wd k)<|b.v k)]=bQ (.val<|oD (wd<|k+1) o)) :
 kz [.int p,vX w wd T k,qc wd b]=bQ (.val<|qc wd<|i8 k b o):=by
 have j:=jm;have O:=iK C;have z:=V3 (wd:=wd) (b:=b) (i:=b.n - 1) ⋯;rw[show b.s+(b.n - 1)=k by omega]at z;have h:b.n - 1<b.n:=by omega
 rw[aM];refine jw<|zo (γ':=[.val (.int p),.val<|vX w wd T k,.val<|qc wd b,.val (oD (wd<|k+1) o)]) ?_ ?_
 ·unfold OR
  have d:dn (zA<|dn (zg 2)<|zu<|.int 1) (sO<|zu<|.int 1) (ja 4 [.int p,vX w wd T k,qc wd b])=bQ (.tup<|zB (wd k)<|b.v k):=by have U : ∀g:Ctx,sO (zu<|.int 1) g=bQ (.int (-1)):=λ_=>rfl;simp[ja,GO,O,U];exact z
  simp only[QO,Vi,z9,eP,d];simp[ja,GO,e]
 ·cases o with
  | none=>simp[L1,oD,Ak,i8]
  | some y=>
   have f:b.n+1<=lim:=by omega
   have a:=cP (wd:=wd) I y;simp[L1,oD,Ak,f,qC];unfold qc;rw[a];rfl
noncomputable def eZ(p:Int)(w:RX)(wd:RZ)(T:RV)(k:Nat)(L:List Vc):Prop:=
 if w k=di then ∃q K l s,L=(GH q).map K/\hR p (wd<|k+1) q K l/\(∀v,Span p (wd<|k+1) (eF q K) v↔Di p (wd k) (wd<|k+1) (T k) v)/\Rk p (wd k) (wd<|k+1) (λj i=>T k i j) s/\q+s=wd (k+1)
 else ∃r B l,hR p (wd<|k+1) r B l/\(∀v,Span p (wd<|k+1) (eF r B) v↔Span p (wd<|k+1) (eF (wd k) λj i=>T k i j) v)/\L=((GH<|wd<|k+1).filter λ(c:Nat)=> !decide ((c:Int)∈(GH r).map λj=>((l j:Nat):Int))).map jM
theorem pf:kT=jf 3 (zP En<|zP OA OB):=rfl
theorem QH(l:RZ) : ∀L:List Nat,XE (L.map λj=>D.int ((l j:Nat):Int))=bQ (L.map λj=>((l j:Nat):Int))
 | []=>rfl
 | j::L=>by simp[XE,QH l L]
theorem YD(z:hR p n r B l):r<=n:=by
 have mono : ∀k,k<r->k<=l k:=by
  intro k
  induction k with
  | zero=>intro _;omega
  | succ k O=>intro U;have:=O ⋯;have:=z.mono k (k+1) ⋯ U;omega
 cases r with
 | zero=>omega
 | succ I=>have:=mono I ⋯;have:=z.lt I ⋯;omega
theorem dr(n:Nat):kO (zX n n λi j=>if i=j then 1 else 0)=(GH n).map λ(i:Nat)=>D.tup [.int i,.tup (zB n<|jM i)]:=by unfold kO zX;simp only[GY,Hi];refine Hk λi a=>?_;have a:=eY.mp a;simp[a];rfl
theorem KR(J:Pr p)(C : ∀k,wd k<=8) : ∃L:List Vc,eZ p w wd T k L/\kT [.int p,vX w wd T k]=bQ (.own<|L.map λy=>D.tup<|zB (wd<|k+1) y):=by
 have N:=jm;have M:=C k;have H:=C<|k+1;rw[pf];unfold eZ;cases hw:w k with
 | true=>
  have a:h8 w wd k=wd k:=by unfold h8;rw[hw];rfl
  have O:h9 w wd k=wd (k+1):=by unfold h9;rw[hw];rfl
  obtain⟨q,K,l,s,e,z,f,F,u⟩:=kU J (h:=wd k) (w:=wd<|k+1) ⋯ ⋯<|T k;refine⟨(GH q).map K,by rw[RY rfl];exact⟨q,K,l,s,rfl,z,f,F,u⟩,jw ?_⟩;have U:=XJ di;have d:En (ja 3 [.int p,vX w wd T k])=bQ (.ret<|.own<|zX q (wd<|k+1) K):=by simp[En,ja,GO,kx,hw,U,a,O,e]
  rw[jR,d,HD];rfl
 | false=>
  have a:h8 w wd k=wd (k+1):=by unfold h8;rw[hw];rfl
  have O:h9 w wd k=wd k:=by unfold h9;rw[hw];rfl
  obtain⟨r,B,l,e,z,f⟩:=QQ J (h:=wd<|k+1) (w:=wd k) ⋯ ⋯<|T k;have P:=YD z;have x:r<=lim:=by omega
  have b:wd (k+1)<=lim:=by omega
  refine⟨_,by rw[EQ ⋯];exact⟨r,B,l,z,f,rfl⟩,?_⟩;have U:=XJ ed;have A:zU (.nm 0) jj (zE qE<|zb (zc 0) zF) [.no] (zX r (wd<|k+1) B)=bQ ((GH r).map λj=>D.int ((l j:Nat):Int)):=by unfold zX;refine zw _ _ λj I=>zx rfl rfl ?_;have I:=eY.mp I;have e:=yB b (B j) (z.lt j I) (λi g=>z.l5 j i I g) (by rw[z.one j I];decide);simp[e]
  have E:zU (.tp [0,1]) (sB<|Xf (zc 0)<|zg 2) (zc 1) [.no,.no,.val (.lst<|(GH r).map λj=>D.int ((l j:Nat):Int))] ((GH<|wd<|k+1).map λ(i:Nat)=>D.tup [.int i,.tup (zB (wd<|k+1)<|jM i)]) =
   bQ (((GH<|wd<|k+1).filter λ(c:Nat)=> !decide ((c:Int)∈(GH r).map λj=>((l j:Nat):Int))).map λ(i:Nat)=>D.tup<|zB (wd<|k+1)<|jM i):=by
   refine ju (λ(c:Nat)=> !decide ((c:Int)∈(GH r).map λj=>((l j:Nat):Int))) (λ(i:Nat)=>D.tup<|zB (wd<|k+1)<|jM i) _ λi g=>⟨_,rfl,?_,λ_=>rfl⟩;have G:=QH l<|GH r;show(Xf (zc 0) (zg 2) [.val (.int i),_,.val (.lst<|(GH r).map λj=>D.int ((l j:Nat):Int))]).bind q5=_;show((XE<|(GH r).map λj=>D.int ((l j:Nat):Int)).map λl=>D.bl<|!decide ((i:Int)∈l)).bind q5=_;rw[G];rfl
  have d:=yz (n:=wd<|k+1) b;refine jw<|zo (γ':=[.val (.int p),.val<|vX w wd T k,.no]) ?_ (zo (γ':=[.val (.int p),.val<|vX w wd T k,.val (.lst<|(GH r).map λj=>D.int ((l j:Nat):Int))]) ?_ ?_)
  ·simp[En,ja,GO,kx,hw,U]
  ·simp[OA,z6,kx,a,O,e,x,A]
  ·have m:z7 (qk (h8 w wd k) (h9 w wd k)<|T k)=bQ (.T,[.int (wd (k+1):Nat),.int (wd k:Nat),.tup (zX (wd<|k+1) (wd k)<|T k)]):=by rw[a,O];rfl
   have o:z7 (qk (wd<|k+1) (wd<|k+1) λi j=>if i=j then 1 else 0)=bQ (.T,[.int (wd (k+1):Nat),.int (wd (k+1):Nat),.tup (zX (wd<|k+1) (wd<|k+1) λi j=>if i=j then 1 else 0)]):=rfl;have t:=dr<|wd<|k+1;simp[OB,z6,kx,m,d,o,t,b];rw[E];exact congrArg bQ (congrArg (List.map _)<|NI λc _=>by simp)
end
section
variable{wd:RZ}{m k r N:Nat}{p:Int}{w:RX}{T:RV}{B:Nat->Vc}{l:RZ}{A:Nat->ft}
theorem mD(I:hR p N r B l){j:Nat}(z:j<r):l4 r l (l j)=bQ j:=by
 cases h:l4 r l (l j)with
 | none=>exact absurd rfl<|Zq h j z
 | some i=>
  obtain⟨a,b⟩:=xi h;rw[V0 I.mono a z b]
theorem YW{a b:List Nat}(C:a.Nodup)(z:b.Nodup)(h : ∀x,x∈a↔x∈b):a.length=b.length:=((List.perm_ext_iff_of_nodup C z).mpr h).length_eq
theorem XO(z:hR p N r B l):(GH N).countP (λi=>(l4 r l i).isSome)=r:=by
 rw[HK];have e:((GH N).filter λi=>(l4 r l i).isSome).length=((GH r).map l).length:=by
  refine YW (MV.sublist Mr) ?_ λx=>?_
  ·rw[List.nodup_iff_pairwise_ne,Md]
   refine Mm (λ{a b} k I h=>?_)<|Mc (n:=r);have:=z.mono a b h<|eY.mp I;omega
  ·rw[Hl,Hj]
   constructor
   ·rintro⟨d,f⟩
    obtain⟨j,O⟩:=IK.mp f;obtain⟨U,g⟩:=xi O;exact⟨j,eY.mpr U,g⟩
   ·rintro⟨j,d,f⟩
    have d:=eY.mp d;subst f;exact⟨eY.mpr<|z.lt j d,by rw[mD z d];rfl⟩
 rw[e];simp
theorem dO(q:RX)(N:Nat):(GH N).countP q+(GH N).countP (λi=> !q i)=N:=by
 have:=ND q (l:=GH N);rw[Hi]at this;rw[this];congr 1
 ·rw[<- this]
 ·rw[<- this]
  exact IJ λi _=>by simp
theorem Cn(z : ∀j,j<N->(A j).has k=di)(t:Vc)(c:Nat):nr p A N t k c%p=app (λi j=>(A j).v k i) N t c%p:=by unfold nr app;rw[Hn];congr 1;exact zy λj I=>by rw[RY (z j I),Ib]
theorem vZ(z : ∀j,j<N->(A j).has k=di)(h:l4 r l i=bQ j)(c:Nat):(hX p A N r B l i).v k c%p=app (λi j=>(A j).v k i) N (B j) c%p:=by unfold hX;rw[h];exact Cn z (B j) c
theorem Xc(h:l4 r l i=dj):hX p A N r B l i=A i:=by unfold hX;rw[h]
theorem W8(hp:Pr p)(S : ∀k,wd k<=8)(Y : ∀j,j<wd k->(A j).has k=di)(hs : ∀v:Vc,∃t,∀i,i<wd k->v i%p=app (λi j=>(A j).v k i) (wd k) t i%p)
 (L:hR p (wd k) r B l) (hW : ∀t,Span p (wd k) (eF r B) t↔rG p w wd T k (app (λi j=>(A j).v k i) (wd k) t)) {J:List Vc} (C:eZ p w wd T k J) {nx:Nat->Option Vc}
 (hr : ∀i,i<wd k->w k=ed->(nx i=dj->∀c,c<wd (k+1)->app (T k) (wd k) ((hX p A (wd k) r B l i).v k) c%p=0)/\∀y,nx i=bQ y->(∀c,c<wd (k+1)->app (T k) (wd k) ((hX p A (wd k) r B l i).v k) c%p=y c%p)/\∃c,c<wd (k+1)/\y c%p≠0)
 (Z : ∀i,i<wd k->w k=di->(nx i=dj->¬∃y:Vc,∀c,c<wd k->app (T k) (wd<|k+1) y c%p=(hX p A (wd k) r B l i).v k c%p)/\∀y,nx i=bQ y->∀c,c<wd k->app (T k) (wd<|k+1) y c%p=(hX p A (wd k) r B l i).v k c%p) :
 (∀y,y∈J->∀c,c<wd (k+1)->0<=y c/\y c<p)/\(∀y,y∈J->w k=di->∀c,c<wd k->app (T k) (wd<|k+1) y c%p=0)/\
   (∀v,Span p (wd<|k+1) (λg=>(∃i,i<wd k/\nx i=bQ g)\/g∈J) v)/\(GH<|wd k).countP (λi=>(nx i).isSome)+J.length=wd (k+1):=by
 have two:=hp.two;cases hw:w k with
 | false=>
  have x : ∀t,Span p (wd k) (eF r B) t↔Di p (wd<|k+1) (wd k) (T k) (app (λi j=>(A j).v k i) (wd k) t):=λt=>by have:=hW t;unfold rG at this;rw[hw,EQ ⋯]at this;exact this
  unfold eZ at C;rw[hw,EQ ⋯]at C;obtain⟨u,B2,o,M,hI,U⟩:=C;obtain⟨g1,g2,g3,H⟩:=sD hp (S k) (S<|k+1) hs L x M hI;have b8 : ∀c,c<wd (k+1)->(∀j,j<u->o j≠c)->jM c∈J:=λc O C=>by rw[U];refine Hj.mpr ⟨c,Hl.mpr ⟨eY.mpr O,?_⟩,rfl⟩;simp only[IT,decide_eq_false_iff_not,Hj,eY];rintro⟨j,f,m⟩;exact C j f ⋯
  have on : ∀i,i<wd k->(nx i).isSome=(l4 r l i).isNone:=λi d=>by
   cases b:l4 r l i with
   | none=>
    obtain⟨c,f,m⟩:=g2 i d<|Zq b;cases I:nx i with
    | some y=>rfl
    | none=>
     have:=(hr i d hw).1 I c f;rw[Xc b]at this;exact absurd this m
   | some j=>
    obtain⟨f,m⟩:=xi b;cases I:nx i with
    | none=>rfl
    | some y=>
     obtain⟨e,c,P,h4⟩:=(hr i d hw).2 y I;have z:=g1 j f c P;rw[<- jC (λa _=>vZ (B:=B) (r:=r) (l:=l) Y b a) c,e c P]at z;exact absurd z h4
  refine⟨λy I c O=>?_,(λy I z=>by cases z),λv=>H _ (λc O E=>?_) (λc O E=> .gen (.inr<|b8 c O E)) v,?_⟩
  ·rw[U]at I
   obtain⟨i,_,rfl⟩:=Hj.mp I;unfold jM;split<;>omega
  ·have b:l4 r l c=dj:=by
    cases b:l4 r l c with
    | none=>rfl
    | some j=>exact absurd (xi b).2 (E j (xi b).1)
   have n:=on c O;rw[b]at n;obtain⟨y,I⟩:=IK.mp n;refine(Span.gen<|.inl ⟨c,O,I⟩).congr λi d=>?_;have:=((hr c O hw).2 y I).1 i d;rw[Xc b]at this;exact this
  ·have G:(GH<|wd k).countP (λi=>(nx i).isSome)=(GH<|wd k).countP λi=> !(l4 r l i).isSome:=IJ λi d=>by
    rw[on i (eY.mp d)];cases l4 r l i<;>simp
   have X:=dO (λi=>(l4 r l i).isSome)<|wd k;rw[XO L]at X;have e3:=dO (λi=>(l4 u o i).isSome)<|wd<|k+1;rw[XO M]at e3;have e4:J.length=(GH<|wd<|k+1).countP λi=> !(l4 u o i).isSome:=by
    rw[U,GY,<- HK];refine IJ λi d=>?_;cases b:l4 u o i with
    | none=>
     have:=Zq b;simp only[IT,decide_eq_false_iff_not,Hj,eY];constructor
     ·intro _;rfl
     ·rintro _ ⟨j,f,m⟩
      exact this j f ⋯
    | some j=>
     obtain⟨f,m⟩:=xi b;simp only[IT,decide_eq_false_iff_not,Hj,eY];constructor
     ·intro z;exact absurd ⟨j,f,by rw[m]⟩ z
     ·intro z;cases z
   rw[G,e4];omega
 | true=>
  have x : ∀t,Span p (wd k) (eF r B) t↔Span p (wd k) (eF (wd<|k+1) λj i=>T k i j) (app (λi j=>(A j).v k i) (wd k) t):=λt=>by have:=hW t;unfold rG at this;rw[hw,RY rfl]at this;exact this
  unfold eZ at C;rw[hw,RY rfl]at C;obtain⟨q,K,lK,s,U,Q,N,R,W⟩:=C;obtain⟨g1,g2,g3,H⟩:=sE hp (S k) (S<|k+1) hs L x N R W;have on : ∀i,i<wd k->(nx i).isSome=(l4 r l i).isSome:=λi d=>by
   cases b:l4 r l i with
   | none=>
    cases I:nx i with
    | none=>rfl
    | some y=>
     have:=(Z i d hw).2 y I;rw[Xc b]at this;exact absurd ⟨y,this⟩<|g2 i d<|Zq b
   | some j=>
    obtain⟨f,m⟩:=xi b;cases I:nx i with
    | some y=>rfl
    | none=>
     obtain⟨y,bl⟩:=g1 j f;exact absurd ⟨y,λc O=>by rw[bl c O,vZ Y b c]⟩<|(Z i d hw).1 I
  refine⟨λy I c O=>?_,λy I _ c O=>?_,λv=>H _ (λj=>(nx<|l j).getD λ_=>0) (λj h=>?_) (λj h=>?_) v,?_⟩
  ·rw[U]at I
   obtain⟨j,h,rfl⟩:=Hj.mp I;exact Q.lU j c (eY.mp h) O
  ·rw[U]at I
   obtain⟨j,h,rfl⟩:=Hj.mp I;exact(N<|K j).mp (.gen ⟨j,eY.mp h,rfl⟩) c O
  ·have b:=mD L h
   have F:=L.lt j h;have n:=on (l j) F;rw[b]at n;obtain⟨y,I⟩:=IK.mp n;rw[I];refine⟨.gen<|.inl ⟨l j,F,I⟩,λc O=>?_⟩;have:=(Z (l j) F hw).2 y I c O;rw[vZ Y b c]at this;exact this
  ·refine .gen (.inr ?_)
   rw[U];exact Hj.mpr ⟨j,eY.mpr h,rfl⟩
  ·have G:(GH<|wd k).countP (λi=>(nx i).isSome)=(GH<|wd k).countP λi=>(l4 r l i).isSome:=IJ λi d=>by
    rw[on i (eY.mp d)]
   rw[G,XO L,U,GY,Hi];omega
end
section
variable{wd:RZ}{m k:Nat}{p:Int}{w:RX}{T:RV}
theorem dm:JH=jf 9 (zP Oi<|zP Oj<|zP Ol<|zP Om<|zP Oo<|zP Oq Gx):=rfl
theorem Ck(y:Vc):qc wd (o1 k y) = .tup [.int ((k:Int)+1),.tup [.tup (zB (wd<|k+1) y)]]:=by unfold qc o1 xS;simp
theorem iV(J:Pr p)(O : ∀k,wd k<=8)(hm:m<=5)(Y:k<m)(hT : ∀i j,i<h8 w wd k->j<h9 w wd k->0<=T k i j/\T k i j<p){C:List ft}(I:yg p w wd T k C)(Z:C.length<=100) :
 ∃S,yg p w wd T (k+1) S/\S.length<=C.length+8/\JH [qW p m w wd T,.int k,.lst (C.map<|qc wd)]=bQ (.val<|.lst<|S.map<|qc wd):=by
 have hl:=jm;have X:=J.pos;have as:C.length<=lim:=by omega
 have H:(C.filter λb=>b.has k).length=wd k:=by rw[<- HK];exact I.ct k<|GQ _
 let A:Nat->ft:=λj=>(C.filter λb=>b.has k).getD j fv;have R:(C.filter λb=>b.has k)=(GH<|wd k).map A:=by rw[<- H];exact(jc fv _).symm
 have W : ∀j,j<wd k->A j∈C/\(A j).has k=di:=λj U=>by
  have:A j∈C.filter λb=>b.has k:=by show(C.filter λb=>b.has k).getD j fv∈_;rw[GN,GL ⋯];exact Ln _
  have:=Hl.mp this;exact⟨this.1,by simpa using this.2⟩
 have K : ∀j,j<wd k->m4 p w wd T k (A j):=λj U=>I.ok _ (W j U).1;have hO : ∀i c,i<c->c<wd k->Ord w (A i) (A c):=λi c f x=>by have:=Lc.mp I.od i c ⋯ ⋯ f;show Ord w ((C.filter λb=>b.has k).getD i fv) ((C.filter λb=>b.has k).getD c fv);rw[GN,GL ⋯,GN,GL ⋯];exact this
 have G : ∀j,j<wd k->(A j).has k=di:=λj U=>(W j U).2;obtain⟨r,B,l,M,hW,eS⟩:=WD (T:=T) (w:=w) (A:=A) (N:=wd k) (k:=k) J (λj U=>by have:=(K j U).le;omega) G Y (O k) hm O λj rm i U hh a=>(K j U).lU rm i hh a;have i0 : ∀i,i<wd k->m4 p w wd T k (hX p A (wd k) r B l i):=λi a=>lY X M K G hO a;have b0 : ∀i,i<wd k->(hX p A (wd k) r B l i).has k=di:=λi a=>by rw[Yz];exact G i a
 have ex : ∀i,∃o:Option Vc,i<wd k->(xc [.int p,vX w wd T k,.tup (zB (wd k)<|(hX p A (wd k) r B l i).v k)]=bQ (.val<|oD (wd<|k+1) o)/\(∀y,o=bQ y->∀c,c<wd (k+1)->0<=y c/\y c<p)/\
  (w k=ed->(o=dj->∀c,c<wd (k+1)->app (T k) (wd k) ((hX p A (wd k) r B l i).v k) c%p=0)/\∀y,o=bQ y->(∀c,c<wd (k+1)->app (T k) (wd k) ((hX p A (wd k) r B l i).v k) c%p=y c%p)/\∃c,c<wd (k+1)/\y c%p≠0)/\
  (w k=di->(o=dj->¬∃y:Vc,∀c,c<wd k->app (T k) (wd<|k+1) y c%p=(hX p A (wd k) r B l i).v k c%p)/\∀y,o=bQ y->∀c,c<wd k->app (T k) (wd<|k+1) y c%p=(hX p A (wd k) r B l i).v k c%p)):=λi=>by
  by_cases a:i<wd k
  ·obtain⟨o,h⟩:=KQ (T:=T) (w:=w) (k:=k) J O hT ((hX p A (wd k) r B l i).v k) λc hc=>(i0 i a).lU k c (b0 i a) hc
   exact⟨o,λ_=>h⟩
  ·exact⟨dj,λz=>absurd z a⟩
 obtain⟨nx,u⟩:=LP ex;obtain⟨d,hN,eN⟩:=KR (T:=T) (w:=w) (k:=k) J O;have hs : ∀v:Vc,∃t,∀i,i<wd k->v i%p=app (λi j=>(A j).v k i) (wd k) t i%p:=λv=>by
  have hv:Span p (wd k) (eF (wd k) λj=>(A j).v k) v:=(I.sp k (GQ _) v).le λg hg=>by obtain⟨b,f,x,rfl⟩:=hg;have Q:b∈C.filter λb=>b.has k:=Hl.mpr ⟨f,by simpa using x⟩;rw[R]at Q;obtain⟨j,U,rfl⟩:=Hj.mp Q;exact .gen ⟨j,eY.mp U,rfl⟩
  obtain⟨t,ht⟩:=Kl hv;exact⟨t,λi a=>by rw[ht i a];unfold app;rw[qK]⟩
 obtain⟨f1,f2,f3,f4⟩:=W8 (T:=T) (w:=w) (A:=A) J O G hs M hW hN (nx:=nx) (λi a=>(u i a).2.2.1) λi a=>(u i a).2.2.2;refine⟨yU p k w C A (wd k) r B l nx d,dh X I H (λ_=>rfl) M (λi y a e=>(u i a).2.1 y e) f1 (λi a e n=>((u i a).2.2.1 n).1 e) (λi y a e n=>(((u i a).2.2.1 n).2 y e).1) (λi y a e n=>((u i a).2.2.2 n).2 y e) f2 f3 f4,?_,?_⟩
 ·have f:(C.filter λb=> !b.has k).length+wd k=C.length:=by
   have:=ND (λb:ft=>b.has k) (l:=C);rw[<- H,<- HK,<- HK,this];have e:C.countP (λb=> !b.has k)=C.countP λb=>decide (¬b.has k=di):=IJ λb _=>by simp
   rw[e];omega
  have x:=O<|k+1;unfold yU;rw[HQ];cases w k<;>simp<;>omega
 ·
  let L:D:= .lst (C.map<|qc wd);have e3:zU (.nm 0) (jY<|sB<|zE jN<|zb (zc 0)<|zb (zc 1) zF) (zc 0) [.no,.val (.int k)] (C.map<|qc wd)=bQ ((C.filter λb=> !b.has k).map (qc wd)):=by refine ju (g:=qc wd) (λb=> !b.has k) (qc wd) C λb P=>⟨[.val (qc wd b),.val (.int k)],rfl,?_,λ_=>by rfl⟩;have e:=kN (wd:=wd) (b:=b) (by have:=(I.ok b P).le;omega) k;simp[e]
  have e4:zU (.nm 0) (sB<|zE jN<|zb (zc 0)<|zb (zc 1) zF) (zc 0) [.no,.val (.int k)] (C.map<|qc wd)=bQ ((GH<|wd k).map λj=>qc wd<|A j):=by
   have:((C.filter λb=>b.has k).map (qc wd))=(GH<|wd k).map λj=>qc wd (A j):=by rw[R,HD];rfl
   rw[<- this];refine ju (g:=qc wd) (λb=>b.has k) (qc wd) C λb P=>⟨[.val (qc wd b),.val (.int k)],rfl,?_,λ_=>by rfl⟩;have e:=kN (wd:=wd) (b:=b) (by have:=(I.ok b P).le;omega) k;simp[e]
  have e5:zU (.nm 0) jj (zE kz<|zb (zc 1)<|zb (zc 2)<|zb (zc 0) zF) [.no,.val<|.int p,.val (vX w wd T k)] ((GH<|wd k).map λi=>qc wd<|hX p A (wd k) r B l i)=bQ ((GH<|wd k).map λi=>qc wd<|i8 k (hX p A (wd k) r B l i)<|nx i):=by refine zw _ _ λi a=>zx rfl rfl ?_;have a:=eY.mp a;have f:=iW.mp<|b0 i a;have e:=fR (p:=p) (i0 i a).n1 (by have:=(i0 i a).le;omega) (show k<=20 by omega) (u i a).1;simp[e]
  have e6:zU (.nm 0) jj (qM<|zb (zH qC (zc 1)<|zu<|.int 1)<|zb (qM<|zb (zc 0) zF) zF) [.no,.val (.int k)] (d.map λy=>D.tup<|zB (wd<|k+1) y)=bQ ((d.map<|o1 k).map (qc wd)):=by rw[HD];refine zw _ _ λy hy=>zx rfl rfl ?_;show _=bQ (qc wd<|o1 k y);rw[Ck];rfl
  have c4:d.length<=lim:=by have:=O<|k+1;omega
  have c5:wd k<=lim:=by have:=O k;omega
  let s:D:= .lst ((C.filter λb=> !b.has k).map (qc wd));let F:D:= .lst ((GH<|wd k).map λi=>qc wd<|hX p A (wd k) r B l i);let E:D:= .lst ((GH<|wd k).map λi=>qc wd<|i8 k (hX p A (wd k) r B l i)<|nx i);let Ne:D:= .lst ((d.map<|o1 k).map (qc wd));rw[dm];refine jw (zo (γ':=[.val (qW p m w wd T),.val<|.int k,.val L,.val<|.int p,.no,.no,.no,.no,.no]) ?_
   (zo (γ':=[.val (qW p m w wd T),.val<|.int k,.val L,.val<|.int p,.val<|vX w wd T k,.no,.no,.no,.no]) ?_
   (zo (γ':=[.val (qW p m w wd T),.val<|.int k,.val L,.val<|.int p,.val<|vX w wd T k,.val s,.no,.no,.no]) ?_
   (zo (γ':=[.val (qW p m w wd T),.val<|.int k,.val L,.val<|.int p,.val<|vX w wd T k,.val s,.val F,.no,.no]) ?_
   (zo (γ':=[.val (qW p m w wd T),.val<|.int k,.val L,.val<|.int p,.val<|vX w wd T k,.val s,.val F,.val E,.no]) ?_
   (zo (γ':=[.val (qW p m w wd T),.val<|.int k,.val L,.val<|.int p,.val<|vX w wd T k,.val s,.val F,.val E,.val Ne]) ?_ ?_))))))
  ·simp[Oi,ja,GO,yf,L]
  ·simp[Oj,yf,Jx,Y]
  ·simp[Ol,z6,L,as,e3,s]
  ·simp[Om,z6,L,as,e4,eS,F]
  ·simp[Oo,z6,F,c5,e5,E]
  ·simp[Oq,z6,eN,c4]
   rw[e6];simp[Ne]
  ·have c8:(C.filter λb=> !b.has k).length<=100:=Ia (Ly _ _) Z
   have q1:=O k;have q2:=O<|k+1;cases n:w k with
   | false=>
    have eq:=XI ed;have f:d.length+wd k<=lim:=by omega
    have x:(C.filter λb=> !b.has k).length+(d.length+wd k)<=lim:=by omega
    simp[Gx,kx,n,eq,s,E,Ne,yU,f,x]
   | true=>
    have eq:=XI di;have f:wd k+d.length<=lim:=by omega
    have x:(C.filter λb=> !b.has k).length+(wd k+d.length)<=lim:=by omega
    simp[Gx,kx,n,eq,s,E,Ne,yU,f,x]
end
section
variable{wd:RZ}{m k:Nat}{p:Int}{w:RX}{T:RV}
noncomputable def fB(c:Nat):ft:=⟨0,1,λ_=>jM c⟩
theorem pG(C:Pr p):yg p w wd T 0 ((GH<|wd 0).map fB):=by
 have two:=C.two;have a : ∀b,b∈(GH<|wd 0).map fB ↔ ∃c,c<wd 0/\b=fB c:=λb=>by rw[Hj];exact⟨λ⟨c,d,e⟩=>⟨c,eY.mp d,e.symm⟩,λ⟨c,d,e⟩=>⟨c,eY.mpr d,e.symm⟩⟩
 have U : ∀c,(fB c).has 0=di:=λc=>iW.mpr ⟨GQ _,by show 0<0+1;omega⟩;refine⟨λb I=>?_,λr h v=>?_,λr h=>?_,?_⟩
 ·obtain⟨c,O,rfl⟩:=(a b).mp I
  exact⟨GQ _,by show 0+1<=0+1;omega,λr i _ _=>by show 0<=jM c i/\jM c i<p;unfold jM;split<;>omega,λj k=>by omega⟩
 ·have:r=0:=by omega
  subst this;refine(Yb (wd 0) v).le λg f=>?_;obtain⟨c,O,rfl⟩:=f;exact .gen ⟨fB c,(a _).mpr ⟨c,O,rfl⟩,U c,rfl⟩
 ·have:r=0:=by omega
  subst this;rw[List.countP_eq_length.mpr λb I=>?_]
  ·simp
  ·obtain⟨c,O,rfl⟩:=(a b).mp I
   exact U c
 ·refine MM _ ?_
  rw[Md];exact Lc.mpr λ_ _ _ _ _=>⟨λz=>absurd z<|HM 0,λz=>absurd z<|HM 0⟩
theorem XU:kX=jf 3 (zP F4<|zP N5 N6):=rfl
noncomputable def K2(b:ft):Int×Int:=((b.s:Int),((b.s+b.n - 1:Nat):Int))
theorem cS : ∀C:List ft,(∀b,b∈C->1<=b.n/\b.s+b.n<=100)->K1 jS (C.map<|qc wd)=bQ (C.map K2)
 | [],_=>rfl
 | b::C,h=>by have a:=h b Ha;have e:=J2 (wd:=wd) a.1 a.2;have z:=cS C λb I=>h b<|GX _ I;simp only[HC,K1,e,z,GV];rfl
noncomputable def xC(C:List ft):List ft:=(jZ<|C.map K2).map λi=>C.getD i fv
theorem ZO(C:List ft):(xC C).Perm C:=by have h:=jH<|C.map K2;rw[GY]at h;have:=h.map λi=>C.getD i fv;rw[jc]at this;exact this
theorem Kn(C:List ft):(xC C).map K2=yc (C.map K2):=by unfold xC yc;rw[HD];refine Hk λi a=>?_;have h:=jH<|C.map K2;have a:=eY.mp<|h.mem_iff.mp a;rw[GY]at a;simp[a]
theorem Yu(z:Pr p)(O : ∀k,wd k<=8)(L:m<=5)(J : ∀k i j,k<m->i<h8 w wd k->j<h9 w wd k->0<=T k i j/\T k i j<p) :
 ∃C,yg p w wd T m C/\C.length<=48/\kX [qW p m w wd T]=bQ (.own<|(xC C).map (qc wd)):=by
 have P:=jm;have N:=O 0;have U:wd 0<=lim:=by omega
 have E:=yz (n:=wd 0) U;have t:z7 (qk (wd 0) (wd 0) λi j=>if i=j then 1 else 0)=bQ (.T,[.int (wd 0:Nat),.int (wd 0:Nat),.tup (zX (wd 0) (wd 0) λi j=>if i=j then 1 else 0)]):=rfl;have y:zU (.nm 0) jj (qM<|zb (zu<|.int 0)<|zb (qM<|zb (zc 0) zF) zF) [.no] (zX (wd 0) (wd 0) λi j=>if i=j then 1 else 0)=bQ (((GH<|wd 0).map fB).map (qc wd)):=by rw[HD];unfold zX;refine zw _ _ λi a=>zx rfl rfl ?_;show bQ _=bQ (qc wd<|fB i);unfold qc fB xS;simp;rfl
 have x1:F4 (ja 3 [qW p m w wd T])=bQ (.next [.val (qW p m w wd T),.val<|.lst<|((GH<|wd 0).map fB).map (qc wd),.no]):=by simp[F4,ja,GO,yf,E,t,z6,U];rw[y];simp
 obtain⟨K,H,C,c,I,u,rfl⟩:=qu (T:= .nm 2) (F:=jD 1<|zE JH<|zb (zc 0)<|zb (zc 2)<|zb (zc 1) zF) (f:=xP<|zA<|dn (zg 0)<|zu<|.int 2)
  (λj γ=>∃C c,yg p w wd T j C/\C.length<=8*(j+1)/\γ=[.val (qW p m w wd T),.val<|.lst<|C.map<|qc wd,c]) m ⋯ (γ:=[.val (qW p m w wd T),.val<|.lst<|((GH<|wd 0).map fB).map (qc wd),.no])
  (by simp[yf]) ⟨_,_,pG z,by simp;omega,rfl⟩ λs o γ d=>by obtain⟨C,c,I,u,rfl⟩:=d;obtain⟨g,r,M,e⟩:=iV (T:=T) (w:=w) (k:=s) z O L o (J s · · o) I ⋯;refine⟨_,[.val (qW p m w wd T),.val<|.lst<|g.map<|qc wd,.val (.int s)],rfl,?_,g,_,r,by omega,rfl⟩;simp[e]
 refine⟨C,I,by omega,?_⟩;have B:=cS (wd:=wd) C λb l=>⟨(I.ok b l).n1,by have:=(I.ok b l).le;omega⟩;rw[XU];refine jw<|zo x1<|zo (show N5 _=_ from H) ?_;have x:C.length<64:=by omega
 unfold N6;have A:bh jS (zg 1) [.val (qW p m w wd T),.val<|.lst<|C.map<|qc wd,c]=bQ ((xC C).map (qc wd)):=by show((K1 jS<|C.map<|qc wd).bind λG=>if (C.map<|qc wd).length<64 then bQ ((jZ G).map λi=>(C.map<|qc wd).getD i .eX)else dj)=_;rw[B];simp only[GV,GY,x,if_true];congr 1;unfold xC;rw[HD];refine Hk λi a=>?_;have h:=jH<|C.map K2;have a:=eY.mp<|h.mem_iff.mp a;rw[GY]at a;simp[a]
 rw[eO,A];rfl
theorem yg.perm(h:Od.Perm l8)(I:yg p w wd T k l8):(∀b,b∈Od->m4 p w wd T k b)/\(∀r,r<=k->∀v,Span p (wd r) (Fv Od r) v)/\∀r,r<=k->Od.countP (λb=>b.has r)=wd r:=by
 refine⟨λb O=>I.ok b<|h.mem_iff.mp O,λr z v=>(I.sp r z v).le λg U=>?_,λr z=>?_⟩
 ·obtain⟨b,a,d,e⟩:=U
  exact .gen ⟨b,h.mem_iff.mpr a,d,e⟩
 ·rw[h.countP_eq];exact I.ct r z
end
noncomputable def Dm(bs:List (Int×Int))(k:Nat):Nat:=(jL bs k).length
noncomputable def DF(w:RX)(bs:List (Int×Int))(k i j:Nat):Int:=if (jL bs<|zV w k).getD i 0=(jL bs<|zL w k).getD j 0 then 1 else 0
theorem Vu(z:0<p)(w:RX)(wd:RZ)(f g T:RV)(k i j:Nat):0<=kB p w wd f g T k i j/\kB p w wd f g T k i j<p:=
 ⟨Hw _ ⋯,Hh _ z⟩
noncomputable def JO(m:Nat)(wd:RZ)(f:RV):List TB:=(GH<|m+1).map λk=>(wd k,wd k,f k)
theorem Xa(m wd f):(JO m wd f).map tD=jg (m+1) wd f:=by unfold JO jg;rw[HD];rfl
section
variable{p:Int}{n:Nat}
theorem fj(C:Pr p)(J:n<=20)(f:RK) : ∃r B l,hR p (n+n) r B l/\(∀v,Span p (n+n) (eF r B) v↔Span p (n+n) (eF n λi=>yb n (f i)<|jM i) v)/\
 xM [.int p,qk n n f]=bQ (.val<|if i3 (.lst<|zX r n B) (.lst<|zX n n jM)=di then .tup [.int n,.int n,.tup (zX r n λk j=>B k<|n+j)]else .eX):=by
 have E:=jm;have z:n<=lim:=by omega
 have o:n+n<=lim:=by omega
 obtain⟨r,B,l,e,I,s⟩:=xm C (show n+n<=100 by omega) z .L λi=>yb n (f i)<|jM i;refine⟨r,B,l,I,s,?_⟩;have O:r<=lim:=by have:r<=n+n:=YQ I.mono I.lt;omega
 have U:=yz (n:=n) z;have a:zU (.tp [0,1]) jj (zH qC (zc 0)<|zc 1) [Cell.no,Cell.no] ((GH n).map λi=>D.tup [.tup (zB n<|f i),.tup (zB n λk=>if i=k then 1 else 0)])=bQ (zX n (n+n) λi=>yb n (f i)<|jM i):=by unfold zX;refine zw _ _ λj A=>zx rfl rfl ?_;simp[qC,o,Zr];rfl
 have m:=fE n n f λi j=>if i=j then 1 else 0;have u:((n:Int)+(n:Int))=((n+n:Nat):Int):=by omega
 simp only[p5]at e;rw[<- u]at e;have d:zU (.nm 0) jj (au (zc 0) av<|ri<|zc 1) [Cell.no,Cell.val (.int n)] (zX r (n+n) B)=bQ (zX r n B):=by unfold zX;refine zw _ _ λk x=>zx rfl rfl ?_;simp[Wn]
 have t:zU (.nm 0) jj (au (zc 0) (ri<|zc 1) av) [Cell.no,Cell.val (.int n)] (zX r (n+n) B)=bQ (zX r n λk j=>B k<|n+j):=by unfold zX;refine zw _ _ λk x=>zx rfl rfl ?_;simp[Wm]
 have b:hL (.lst<|zX r n B) (.lst<|zX n n λi j=>if i=j then 1 else 0)=bQ (.bl<|!i3 (.lst<|zX r n B) (.lst<|zX n n jM)):=by unfold hL;rw[RY ⟨VX _ _ _,VX _ _ _⟩];rfl
 have g : ∀(h w:Nat) (f:RK),z7 (qk h w f)=bQ (.T,[.int h,.int w,.tup (zX h w f)]):=λ_ _ _=>rfl;by_cases q:i3 (.lst<|zX r n B) (.lst<|zX n n jM)=di
 ·rw[q]at b
  rw[RY q];simp[xM,jf,ja,jR,g,U,m,z,O,z6,xQ,GO,a,e,d,t,b]
 ·have y:i3 (.lst<|zX r n B) (.lst<|zX n n jM)=ed:=by simpa using q
  rw[y]at b;rw[EQ q];simp[xM,jf,ja,jR,g,U,m,z,O,z6,xQ,GO,a,e,d,b]
theorem Vo(U:Pr p)(S:n<=20)(J:ZD p n f g)(L:ZD p n g f)(C : ∀i j,i<n->j<n->0<=g i j/\g i j<p):xM [.int p,qk n n f]=bQ (.val<|qk n n g):=by
 obtain⟨r,B,l,F,t,e⟩:=fj U S f;have two:=U.two;have one:=U.one;have y:hR p (n+n) n (λk=>yb n (jM k)<|g k) id:={
  lt:=λk I=>by simp only[id];omega
  mono:=λk m I _=>I
  one:=λk I=>by simp only[id];rw[j4 I];exact RY rfl
  l5:=λk j I d=>by simp only[id]at d;rw[j4 ⋯];exact EQ ⋯
  p6:=λk m I G b=>by simp only[id];rw[j4 G];exact EQ ⋯
  lU:=λk i I a=>by
   rcases Hg i n with z | z
   ·rw[j4 z];unfold jM;split<;>omega
   ·obtain⟨j,rfl⟩ : ∃j,i=n+j:=⟨i - n,by omega⟩
    rw[qm];exact C k j I ⋯}
 have w : ∀v,Span p (n+n) (eF n λk=>yb n (jM k)<|g k) v->Span p (n+n) (eF n λi=>yb n (f i)<|jM i) v:=λv O=>O.le λs o=>by
  obtain⟨k,I,h⟩:=o;subst h;refine(Span.sum (u:=λi=>yb n (f i)<|jM i) (λi=>g k i) (m:=n) λi a=> .gen ⟨i,a,rfl⟩).congr λj d=>?_;rcases Hg j n with z | z
  ·simp only[j4 z]
   exact(L k j I z).symm
  ·obtain⟨m,rfl⟩ : ∃m,j=n+m:=⟨j - n,by omega⟩
   simp only[qm];rw[zQ (i:=m) ⋯ λi _ b=>by simp[jM,b]];simp[jM]
 have x : ∀v,Span p (n+n) (eF n λi=>yb n (f i)<|jM i) v->Span p (n+n) (eF n λk=>yb n (jM k)<|g k) v:=λv O=>O.le λs o=>by
  obtain⟨i,a,h⟩:=o;subst h;refine(Span.sum (u:=λk=>yb n (jM k)<|g k) (λk=>f i k) (m:=n) λk I=> .gen ⟨k,I,rfl⟩).congr λj d=>?_;rcases Hg j n with z | z
  ·simp only[j4 z]
   rw[zQ (i:=j) z λk _ b=>by simp[jM,b]];simp[jM]
  ·obtain⟨m,rfl⟩ : ∃m,j=n+m:=⟨j - n,by omega⟩
   simp only[qm];exact(J i m a ⋯).symm
 obtain⟨rfl,_,u⟩:=Jw U F y (λv O=>x v<|(t v).mp O)<|λv O=>(t v).mpr (w v O);have A:zX r r B=zX r r jM:=Wl λk i I a=>by rw[u k i I ⋯,j4 a]
 have E:zX r r (λk j=>B k<|r+j)=zX r r g:=Wl λk j I d=>by rw[u k (r+j) I ⋯,qm]
 rw[e,A,RY<|Of _,E];rfl
end
section
variable{wd:RZ}{m k N:Nat}{p:Int}{w:RX}{T:RV}{A:Nat->ft}
noncomputable def h7(A:Nat->ft)(N r:Nat):List Nat:=(GH N).filter λj=>(A j).has r
noncomputable def q9(A:Nat->ft)(N r:Nat):Nat->Nat->Int:=λi j=>(A<|(h7 A N r).getD j 0).v r i
theorem Y0{r j:Nat}(h:j<(h7 A N r).length):(h7 A N r).getD j 0<N/\(A<|(h7 A N r).getD j 0).has r=di:=by
 have d:(h7 A N r).getD j 0∈h7 A N r:=by rw[GN,GL h];exact Ln _
 obtain⟨a,b⟩:=Hl.mp d;exact⟨eY.mp a,by simpa using b⟩
theorem X9(I:Pr p)(C:n<=8)(hs : ∀v:Vc,∃t,∀i,i<n->v i%p=app f n t i%p) : ∃g:RK,ZD p n f g/\ZD p n g f/\∀i j,0<=g i j/\g i j<p:=by
 have s:=I.pos;obtain⟨t,O⟩:=LP λj=>hs<|jM j;refine⟨λi j=>t j i%p,?_,?_,λi j=>⟨Hw _ ⋯,Hh _ s⟩⟩
 ·intro i j d U
  have e:zk (λk=>f i k*(t j k%p)) n%p=app f n (t j) i%p:=zK λk _=>vD p _ _;rw[e,<- O j i d];unfold jM g9;simp only[eq_comm]
 ·intro i j d U
  have z : ∀a,a<n->app f n (λb=>zk (λk=>(t k b%p)*f k j) n - jM j b) a%p=0:=λa h=>by
   rw[Jy,vQ f U,IL];have e:app f n (λb=>zk (λk=>(t k b%p)*f k j) n) a%p=f a j%p:=by
    have l:app f n (λb=>zk (λk=>(t k b%p)*f k j) n) a=zk (λk=>f k j*app f n (λb=>t k b%p) a) n:=by rw[<- kR];congr 1;funext b;exact qK ..
    rw[l];have m:zk (λk=>f k j*app f n (λb=>t k b%p) a) n%p=zk (λk=>f k j*jM k a) n%p:=zK λk _=>by rw[GR,jC (u:=t k) (λb _=>Hn _ _) a,<- O k a h,<- GR]
    rw[m,zQ (f:=λk=>f k j*jM k a) h λk _ r=>by simp[jM,r]];simp[jM]
   rw[e];simp
  have:=vd I C hs z i d;have o:(zk (λk=>(t k i%p)*f k j) n)%p=jM j i%p:=M1.mpr this;show zk (λk=>(t k i%p)*f k j) n%p=g9 i j%p;rw[o];unfold jM g9;simp only[eq_comm]
theorem aj:xZ=jf 4 (zP N7<|zP N8<|zP N9 Oc):=rfl
theorem eC(J:Pr p)(C : ∀k,wd k<=8)(hm:m<=5)(hT : ∀k i j,k<m->i<h8 w wd k->j<h9 w wd k->0<=T k i j/\T k i j<p) :
 ∃(N:Nat) (A:Nat->ft) (g:RV),N<=48/\(∀j,j<N->m4 p w wd T m (A j))/\(∀r,r<=m->(h7 A N r).length=wd r)/\(∀r,r<=m->ZD p (wd r) (q9 A N r) (g r)/\ZD p (wd r) (g r) (q9 A N r)/\∀i j,0<=g r i j/\g r i j<p)/\
  yc ((GH N).map λj=>K2<|A j)=((GH N).map λj=>K2<|A j)/\
  xZ [qW p m w wd T]=bQ (.val<|J7 ((GH N).map λj=>K2<|A j) (JO m wd g)<|JO m wd λr=>q9 A N r):=by
 have hl:=jm;obtain⟨a,I,K,G⟩:=Yu (T:=T) (w:=w) J C hm hT;obtain⟨ok,sp,S⟩:=I.perm<|ZO a;have M:(xC a).length=a.length:=(ZO a).length_eq;let A:Nat->ft:=λj=>(xC a).getD j fv;have d:xC a=(GH a.length).map A:=by rw[<- M];exact(jc fv _).symm
 have o : ∀j,j<a.length->m4 p w wd T m (A j):=λj U=>ok _ (by
  rw[d];exact Hj.mpr ⟨j,eY.mpr U,rfl⟩)
 have cnt : ∀r,r<=m->(h7 A a.length r).length=wd r:=λr O=>by have:=S r O;rw[d,Ms,HK]at this;exact this
 have P : ∀r,r<=m->∀v:Vc,∃t,∀i,i<wd r->v i%p=app (q9 A a.length r) (wd r) t i%p:=λr O v=>by
  have hv:Span p (wd r) (eF (wd r) λj i=>q9 A a.length r i j) v:=(sp r O v).le λgg l=>by obtain⟨b,f,x,rfl⟩:=l;rw[d]at f;obtain⟨j,U,rfl⟩:=Hj.mp f;have as:j∈h7 A a.length r:=Hl.mpr ⟨U,by simpa using x⟩;obtain⟨i,H,e⟩:=Mq as;refine .gen ⟨i,by rw[<- cnt r O];exact H,?_⟩;funext c;show(A j).v r c=(A<|(h7 A a.length r).getD i 0).v r c;rw[GN,GL H];simp[e]
  exact A4.mp hv
 have Q : ∀r,∃g:RK,r<=m->ZD p (wd r) (q9 A a.length r) g/\ZD p (wd r) g (q9 A a.length r)/\∀i j,0<=g i j/\g i j<p:=λr=>by
  by_cases O:r<=m
  ·obtain⟨g,h⟩:=X9 J (C r) (P r O)
   exact⟨g,λ_=>h⟩
  ·exact⟨λ_ _=>0,λz=>absurd z O⟩
 obtain⟨g,l⟩:=LP Q;have Y:(xC a).map K2=(GH a.length).map λj=>K2 (A j):=by
  conv=>lhs;rw[d,HD]
  rfl
 refine⟨a.length,A,g,K,o,cnt,l,?_,?_⟩
 ·rw[<- Y,Kn]
  refine ZP ?_;have:=(ZO a).map K2;rw[Kn]at this;exact this
 ·have y:a.length<=lim:=by omega
  have Z:((xC a).map (qc wd))=(GH a.length).map λj=>qc wd (A j):=by
   conv=>lhs;rw[d,HD]
   rfl
  rw[Z]at G;let L:D:= .lst ((GH a.length).map λj=>qc wd<|A j);have B : ∀j,j<a.length->(A j).s+(A j).n<=100:=λj U=>by have:=(o j U).le;omega
  have W:zU (.tp [0,1]) jj (zE xK<|zb (zc 1)<|zb (jU<|jl qL<|zb (zc 2)<|zb (zc 0) zF) zF) [.no,.no,.val L] ((GH<|m+1).map λ(i:Nat)=>D.tup [.int i,.int (wd i:Nat)])=bQ (jg (m+1) wd λr=>q9 A a.length r):=by unfold jg;refine zw _ _ λr O=>zx rfl rfl ?_;have O:=eY.mp O;have F:=vc (wd:=wd) B y r;rw[V2 (wd r) (λj=>(A j).v r),show((GH a.length).filter λj=>(A j).has r)=h7 A a.length r from rfl,cnt r ⋯]at F;have bf:=C r;have u:=wG (q:=wd r) (h:=wd r) (λi=>(A<|(h7 A a.length r).getD i 0).v r) ⋯ ⋯;simp[-GN,L,F,u];rfl
  have u:zU (.nm 0) jj (zE xM<|zb (dn (zg 1)<|zu<|.int 0)<|zb (zc 0) zF) [.no,.val (qW p m w wd T)] (jg (m+1) wd λr=>q9 A a.length r)=bQ (jg (m+1) wd g):=by unfold jg;refine zw _ _ λr O=>zx rfl rfl ?_;have O:=eY.mp O;obtain⟨f,x,h3⟩:=l r ⋯;have e:=Vo J (n:=wd r) (by have:=C r;omega) f x λi j _ _=>h3 i j;simp[yf,e]
  have X:zU (.nm 0) jj (zE jS<|zb (zc 0) zF) [.no] ((GH a.length).map λj=>qc wd<|A j)=bQ (jE<|(GH a.length).map λj=>K2<|A j):=by unfold jE;rw[HD];refine zw _ _ λj U=>zx rfl rfl ?_;have U:=eY.mp U;have e:=J2 (wd:=wd) (o j U).n1 (B j U);simp[e];exact⟨rfl,rfl⟩
  have ew:kO (zB (m+1) λk=>(wd k:Int))=(GH<|m+1).map λ(i:Nat)=>D.tup [.int i,.int (wd i:Nat)]:=Wj _ _;have E:m+1<=lim:=by omega
  have R : ∀g:RV,(jg (m+1) wd g).length=m+1:=λg=>by simp[jg]
  rw[aj];refine jw<|zo (γ':=[.val (qW p m w wd T),.val L,.no,.no]) ?_ (zo (γ':=[.val (qW p m w wd T),.val L,.val<|.lst<|jg (m+1) wd λr=>q9 A a.length r,.no]) ?_ (zo (γ':=[.val (qW p m w wd T),.val L,.val<|.lst<|jg (m+1) wd λr=>q9 A a.length r,.val (.lst<|jg (m+1) wd g)]) ?_ ?_))
  ·simp[N7,ja,GO,G,L]
  ·simp[N8,z6,yf,ew,E,W]
  ·simp[N9,z6,R,E,u]
  ·unfold J7
   rw[Xa,Xa];simp[Oc,z6,L,y,X]
end
section
variable{wd:RZ}{m k N:Nat}{p:Int}{w:RX}{T:RV}{A:Nat->ft}{g:RV}
noncomputable def xH(A:Nat->ft)(N:Nat):List (Int×Int):=(GH N).map λj=>K2<|A j
theorem pE{b:ft}(C:1<=b.n)(r:Nat):mJ (K2 b) (r:Int)=b.has r:=by
 unfold mJ K2 ft.has;dsimp only;congr 1
 ·exact decide_eq_decide.mpr ⋯
 ·exact decide_eq_decide.mpr ⋯
theorem ki(C : ∀j,j<N->1<=(A j).n)(r:Nat):jL (xH A N) (r:Int)=h7 A N r:=by unfold jL h7 xH;simp only[GY,Hi];refine NI λj z=>?_;have z:=eY.mp z;rw[GN,Hd,Ic z];exact pE (C j z) r
theorem K3(A N r):(h7 A N r).Nodup:=MV.sublist Mr
theorem WX{L:List Nat}(h:L.Nodup){a b:Nat}(C:a<L.length)(z:b<L.length)(e:L.getD a 0=L.getD b 0):a=b:=by rw[GN,GN,GL C,GL z]at e;exact(List.getElem_inj h).mp e
theorem iP(O : ∀j,j<N->m4 p w wd T m (A j))(U:k<m){i b:Nat}(J:i<wd (zV w k))(C:b<(h7 A N<|zL w k).length) :
 zk (λa=>(if (h7 A N<|zV w k).getD a 0=(h7 A N<|zL w k).getD b 0 then (1:Int)else 0)*q9 A N (zV w k) i a) (h7 A N<|zV w k).length%p=app (T k) (wd<|zL w k) (λc=>q9 A N (zL w k) c b) i%p:=by
 obtain⟨h,s⟩:=Y0 C;have q:=(O _ h).arr k U s i J;show _=app (T k) (wd<|zL w k) ((A<|(h7 A N<|zL w k).getD b 0).v (zL w k)) i%p;rw[q];congr 1;cases hx:(A<|(h7 A N<|zL w k).getD b 0).has (zV w k)with
 | true=>
  have n:(h7 A N<|zL w k).getD b 0∈h7 A N (zV w k):=Hl.mpr ⟨eY.mpr h,by simpa using hx⟩;obtain⟨l,I,r⟩:=Mq n;have d:(h7 A N<|zV w k).getD l 0=(h7 A N<|zL w k).getD b 0:=by rw[<- r,GN,GL I];rfl
  rw[zQ (f:=λa=>(if (h7 A N<|zV w k).getD a 0=(h7 A N<|zL w k).getD b 0 then (1:Int)else 0)*q9 A N (zV w k) i a) I λa e o=>by rw[EQ λz=>o (WX (K3 A N _) e I<|z.trans d.symm)];simp]
  rw[RY d,RY rfl];unfold q9;rw[d];simp
 | false=>
  rw[EQ ⋯];rw[zy (g:=λ_=>0) λa e=>by
   rw[EQ λz=>by have:=(Y0 e).2;rw[z,hx]at this;cases this]
   simp]
  exact zT _
theorem lO(S:Pr p)(O : ∀j,j<N->m4 p w wd T m (A j))(cnt : ∀r,r<=m->(h7 A N r).length=wd r)(C : ∀r,r<=m->ZD p (wd r) (q9 A N r) (g r))(J:k<m){i j:Nat}(L:i<wd (zV w k))(z:j<wd (zL w k))(U:0<=T k i j/\T k i j<p) :
 T k i j=kB p w (Dm<|xH A N) (λr=>q9 A N r) g (DF w<|xH A N) k i j:=by
 have d : ∀j,j<N->1<=(A j).n:=λj z=>(O j z).n1;have I:zL w k<=m:=by unfold zL;split<;>omega
 have e:zV w k<=m:=by unfold zV;split<;>omega
 unfold kB;have o:Dm (xH A N) (zL w k)=wd (zL w k):=by unfold Dm;rw[ki d,cnt _ I]
 have s:Dm (xH A N) (zV w k)=wd (zV w k):=by unfold Dm;rw[ki d,cnt _ e]
 rw[o,s];have f:zk (λb=>g (zL w k) b j*(zk (λa=>DF w (xH A N) k a b*q9 A N (zV w k) i a) (wd<|zV w k)%p)) (wd<|zL w k)%p
  = zk (λb=>g (zL w k) b j*app (T k) (wd<|zL w k) (λc=>q9 A N (zL w k) c b) i) (wd<|zL w k)%p:=zK λb t=>by
  have:=iP (T:=T) (k:=k) O J L (b:=b) (by rw[cnt _ I];exact t);rw[cnt _ e]at this;have h:zk (λa=>DF w (xH A N) k a b*q9 A N (zV w k) i a) (wd<|zV w k)=zk (λa=>(if (h7 A N<|zV w k).getD a 0=(h7 A N<|zL w k).getD b 0 then (1:Int)else 0)*q9 A N (zV w k) i a) (wd<|zV w k):=zy λa _=>by unfold DF;rw[ki d,ki d]
  rw[h,this,vD]
 have l:zk (λb=>g (zL w k) b j*app (T k) (wd<|zL w k) (λc=>q9 A N (zL w k) c b) i) (wd<|zL w k)=app (T k) (wd<|zL w k) (λc=>zk (λb=>q9 A N (zL w k) c b*g (zL w k) b j)<|wd<|zL w k) i:=by rw[<- kR];congr 1;funext c;exact qK ..
 rw[show(zk (λb=>g (zL w k) b j*(zk (λa=>DF w (xH A N) k a b*(λr=>q9 A N r) (zV w k) i a) (wd<|zV w k)%p)) (wd<|zL w k)%p)=_ from f,l,
  jC (u:=jM j) (λc x=>by rw[C _ I c j x z];unfold g9 jM;simp only[eq_comm]) i,vQ (T k) z]
 exact(HE U.1 U.2).symm
end
structure n7(p:Int)(w:RX)(wd:RZ)(T:RV)(m N:Nat)(A:Nat->ft):Prop where
 ok : ∀j,j<N->m4 p w wd T m (A j)
 sp : ∀r,r<=m->∀v:Vc,∃t:Vc,∀i,i<wd r->v i%p=zk (λj=>if (A j).has r=di then t j*(A j).v r i else 0) N%p
 inj : ∀r,r<=m->∀t:Vc,(∀i,i<wd r->zk (λj=>if (A j).has r=di then t j*(A j).v r i else 0) N%p=0)->∀j,j<N->(A j).has r=di->t j%p=0
 cnt : ∀r,r<=m->(h7 A N r).length=wd r
noncomputable def Lk(p:Int)(w:RX)(wd:RZ)(T:RV)(k:Nat)(y z:Vc):Prop:=
 if w k=di then ∀i,i<wd k->y i%p=app (T k) (wd<|k+1) z i%p else ∀i,i<wd (k+1)->z i%p=app (T k) (wd k) y i%p
noncomputable def Wk(p:Int)(w:RX)(wd:RZ)(T:RV)(d:Nat):Nat->Vc->Vc->Prop
 | 0,u,z=>∀i,i<wd d->u i%p=z i%p
 | n+1,u,z=>∃y,Wk p w wd T d n u y/\Lk p w wd T (d+n) y z
section
variable{p:Int}{w:RX}{wd:RZ}{T:RV}{m N N':Nat}{A A':Nat->ft}{d:Nat}
theorem YR(C:a%p=b%p)(I:a'%p=b'%p):(a+c*a')%p=(b+c*b')%p:=by rw[HI,C,GR,I,<- GR,<- HI]
theorem AB(c:Int)(h:Lk p w wd T k y z)(h':Lk p w wd T k y' z'):Lk p w wd T k (λi=>y i+c*y' i) λi=>z i+c*z' i:=by
 unfold Lk at *;split
 ·next b=>
  rw[RY b]at h h';intro i a;rw[YR (h i a) (h' i a)];exact(Vh (λ_ _=>rfl) i).symm
 ·next b=>
  rw[EQ b]at h h';intro i a;rw[YR (h i a) (h' i a)];exact(Vh (λ_ _=>rfl) i).symm
theorem eU : ∀(n:Nat) {u z I O:Vc} (c:Int),Wk p w wd T d n u z->Wk p w wd T d n I O->Wk p w wd T d n (λi=>u i+c*I i) λi=>z i+c*O i
 | 0,u,z,I,O,c,h,h'=>λi a=>YR (h i a)<|h' i a
 | n+1,u,z,I,O,c,⟨y,h1,h2⟩,⟨y',Rw,Rx⟩=>⟨_,eU n c h1 Rw,AB c h2 Rx⟩
theorem fe(k:Nat):Lk p w wd T k (λ_=>0) λ_=>0:=by unfold Lk;split<;>exact λi _=>by rw[Zz (λ_ _=>by simp) i];simp
theorem JC : ∀n,Wk p w wd T d n (λ_=>0) λ_=>0
 | 0=>λ_ _=>rfl
 | n+1=>⟨_,JC n,fe _⟩
theorem lQ(h:Lk p w wd T k y z)(I : ∀i,i<wd (k+1)->z' i%p=z i%p):Lk p w wd T k y z':=by
 unfold Lk at *;split
 ·next b=>rw[RY b]at h;intro i a;rw[h i a];exact(jC I i).symm
 ·next b=>rw[EQ b]at h;intro i a;rw[I i a,h i a]
theorem Az : ∀{n:Nat} {u z I:Vc},Wk p w wd T d n u z->(∀i,i<wd (d+n)->I i%p=z i%p)->Wk p w wd T d n u I
 | 0,u,z,I,h,hz=>λi a=>by rw[h i a,hz i a]
 | n+1,u,z,I,⟨y,h1,h2⟩,hz=>⟨y,h1,lQ h2 hz⟩
theorem lM : ∀{n:Nat} {u I z:Vc},Wk p w wd T d n u z->(∀i,i<wd d->I i%p=u i%p)->Wk p w wd T d n I z
 | 0,u,I,z,h,hu=>λi a=>by rw[hu i a,h i a]
 | n+1,u,I,z,⟨y,h1,h2⟩,hu=>⟨y,lM h1 hu,h2⟩
theorem mU(t:Vc)(u z:Nat->Vc) : ∀K,(∀j,j<K->Wk p w wd T d n (u j) (z j))->Wk p w wd T d n (λi=>zk (λj=>t j*u j i) K) λi=>zk (λj=>t j*z j i) K
 | 0,_=>JC n
 | K+1,h=>eU n (t K) (mU t u z K λj I=>h j ⋯)<|h K ⋯
theorem lI(I:m4 p w wd T m b)(O:k<m)(C:b.has k=di)(J:b.has (k+1)=di):Lk p w wd T k (b.v k) (b.v<|k+1):=by
 unfold Lk;cases hw:w k with
 | true=>
  have a:zL w k=k+1:=by unfold zL;rw[hw];rfl
  have z:zV w k=k:=by unfold zV;rw[hw];rfl
  rw[RY rfl];intro i d;have:=I.arr k O (by rw[a];exact J) i (by rw[z];exact d);rw[a,z,C,RY rfl]at this;exact this.symm
 | false=>
  have a:zL w k=k:=by unfold zL;rw[hw];rfl
  have z:zV w k=k+1:=by unfold zV;rw[hw];rfl
  rw[EQ ⋯];intro i d;have:=I.arr k O (by rw[a];exact C) i (by rw[z];exact d);rw[a,z,J,RY rfl]at this;exact this.symm
theorem Zx(z:m4 p w wd T m b)(C:b.has d=di) : ∀n,d+n<=m->b.has (d+n)=di->Wk p w wd T d n (b.v d) (b.v<|d+n)
 | 0,_,_=>λ_ _=>rfl
 | n+1,hn,h2=>by have I:b.has (d+n)=di:=iW.mpr (by have:=iW.mp C;have:=iW.mp h2;omega);exact⟨_,Zx z C n ⋯ I,lI z ⋯ I h2⟩
theorem Ve(I:m4 p w wd T m b)(J:b.has d=di)(C:w (b.s+b.n - 1)=ed) : ∀n,d+n<=m->b.has (d+n)=ed->Wk p w wd T d n (b.v d) λ_=>0
 | 0,_,h2=>by rw[Nat.add_zero,J]at h2;cases h2
 | n+1,hn,h2=>by
  cases h3:b.has (d+n)with
  | false=>exact⟨_,Ve I J C n ⋯ h3,fe _⟩
  | true=>
   refine⟨_,Zx I J n ⋯ h3,?_⟩;have g:=iW.mp h3;have f : ¬(d+n+1<b.s+b.n):=λz=>by have:b.has (d+(n+1))=di:=iW.mpr ⋯;rw[this]at h2;cases h2
   have O:b.s+b.n - 1=d+n:=by omega
   rw[O]at C;have a:zL w (d+n)=d+n:=by unfold zL;rw[C];rfl
   have U:zV w (d+n)=d+n+1:=by unfold zV;rw[C];rfl
   have:=I.arr (d+n) ⋯;rw[a,U]at this;unfold Lk;rw[C,EQ ⋯];intro i e;rw[this h3 i e,show b.has (d+n+1)=ed from h2];simp
theorem vY(D:n7 p w wd T m N A) : ∀n,d+n<=m->∀{u z:Vc},Wk p w wd T d n u z->∀{a b:Vc},(∀i,i<wd d->u i%p=zk (λj=>if (A j).has d=di then a j*(A j).v d i else 0) N%p)->(∀i,i<wd (d+n)->z i%p=zk (λj=>if (A j).has (d+n)=di then b j*(A j).v (d+n) i else 0) N%p)->
 ∀j,j<N->(A j).has d=di->((A j).has (d+n)=di->a j%p=b j%p)/\((A j).has (d+n)=ed->w ((A j).s+(A j).n - 1)=di->a j%p=0):=by
 have B : ∀r,r<=m->∀{v:Vc} {a b:Vc},(∀i,i<wd r->v i%p=zk (λj=>if (A j).has r=di then a j*(A j).v r i else 0) N%p)->(∀i,i<wd r->v i%p=zk (λj=>if (A j).has r=di then b j*(A j).v r i else 0) N%p)->∀j,j<N->(A j).has r=di->a j%p=b j%p:=λr Y v a b G l j O U=>by
  have:=D.inj r Y (λj=>a j - b j) (λi f=>by
   have e:zk (λj=>if (A j).has r=di then (a j - b j)*(A j).v r i else 0) N=zk (λj=>if (A j).has r=di then a j*(A j).v r i else 0) N+zk (λj=>(if (A j).has r=di then b j*(A j).v r i else 0)*(-1)) N:=by
    rw[<- jv];refine zy λj _=>?_;split
    ·rw[Int.sub_mul];omega
    ·simp
   rw[e,qJ,HI,<- G i f,GR,<- l i f,<- GR,<- HI,show v i+v i * -1=0 by omega];simp) j O U
  exact M1.mpr this
 have L : ∀k,k<m->∀(c:Vc) (r o:Nat),r=zL w k->o=zV w k->∀i,i<wd o->app (T k) (wd r) (nr p A N c r) i%p=zk (λj=>if (A j).has o=di then (if (A j).has r=di then c j else 0)*(A j).v o i else 0) N%p:=λk W c r o M P i f=>by
  rw[eI];refine zK λj O=>?_;cases hx:(A j).has r with
  | false=>simp
  | true=>
   have q:=(D.ok j O).arr k W (by rw[<- M];exact hx) i (by rw[<- P];exact f);rw[<- M,<- P]at q;simp only[if_true];rw[GR,q,<- GR];cases hy:(A j).has o<;>simp
 intro n
 induction n with
 | zero=>
  intro X u z C a b H x j O U;refine⟨λ_=>B d ⋯ H (λi f=>by rw[C i f];exact x i f) j O U,λh=>?_⟩;rw[Nat.add_zero,U]at h;cases h
 | succ n Z=>
  intro X u z C a b H x j O U;obtain⟨y,G,l⟩:=C;obtain⟨c,J⟩:=D.sp (d+n) ⋯ y;obtain⟨K,Q⟩:=Z ⋯ G H J j O U;have R : ∀i,i<wd (d+n)->y i%p=nr p A N c (d+n) i%p:=λi f=>by rw[J i f];unfold nr;rw[Hn]
  have S : ∀i,i<wd (d+n+1)->z i%p=nr p A N b (d+n+1) i%p:=λi f=>by rw[x i f];unfold nr;rw[Hn];rfl
  have qd:=iW.mp U;cases hw:w (d+n)with
  | false=>
   have E:zL w (d+n)=d+n:=by unfold zL;rw[hw];rfl
   have F:zV w (d+n)=d+n+1:=by unfold zV;rw[hw];rfl
   unfold Lk at l;rw[hw,EQ ⋯]at l;have g:=B (d+n+1) ⋯ (v:=z) x (b:=λj=>if (A j).has (d+n)=di then c j else 0) λi f=>by rw[l i f,jC R i];exact L (d+n) ⋯ c (d+n) (d+n+1) E.symm F.symm i f
   refine⟨λh=>?_,λh t=>?_⟩
   ·have I:(A j).has (d+n)=di:=iW.mpr (by have:=iW.mp h;omega)
    have:=g j O h;rw[I,RY rfl]at this;rw[K I,this]
   ·cases I:(A j).has (d+n)with
    | false=>exact Q I t
    | true=>
     have q3:=iW.mp I;have q2 : ¬(d+n+1<(A j).s+(A j).n):=λz=>by have:(A j).has (d+(n+1))=di:=iW.mpr ⋯;rw[this]at h;cases h
     rw[show(A j).s+(A j).n - 1=d+n by omega,hw]at t;cases t
  | true=>
   have E:zL w (d+n)=d+n+1:=by unfold zL;rw[hw];rfl
   have F:zV w (d+n)=d+n:=by unfold zV;rw[hw];rfl
   unfold Lk at l;rw[hw,RY rfl]at l;have g:=B (d+n) ⋯ (v:=y) J (b:=λj=>if (A j).has (d+n+1)=di then b j else 0) λi f=>by rw[l i f,jC S i];exact L (d+n) ⋯ b (d+n+1) (d+n) E.symm F.symm i f
   refine⟨λh=>?_,λh t=>?_⟩
   ·have I:(A j).has (d+n)=di:=iW.mpr (by have:=iW.mp h;omega)
    have:=g j O I;rw[show(A j).has (d+n+1)=di from h,RY rfl]at this;rw[K I,this]
   ·cases I:(A j).has (d+n)with
    | false=>exact Q I t
    | true=>
     have:=g j O I;rw[show(A j).has (d+n+1)=ed from h,EQ ⋯]at this;rw[K I,this];simp
end
section
variable{p:Int}{n:Nat}
theorem mK{l:RZ} : ∀{r:Nat},(∀k m,k<m->m<r->l k<l m)->∃j,j<=r/\∀k,k<r->l k≠j
 | 0,_=>⟨0,GQ _,λk I=>absurd I<|Hq _⟩
 | r+1,h=>by
  obtain⟨j,f,d⟩:=mK (r:=r) λk m a b=>h k m a ⋯;by_cases e:l r=j
  ·refine⟨r+1,GQ _,λk I=>?_⟩
   rcases Hg k r with z | z
   ·have:=h k r z ⋯;omega
   ·rw[show k=r by omega];omega
  ·refine⟨j,by omega,λk I=>?_⟩
   rcases Hg k r with z | z
   ·exact d k z
   ·rw[show k=r by omega];exact e
theorem uZ(C:Pr p){h N:Nat}{f:RK}(inj : ∀t:Vc,(∀i,i<h->app f N t i%p=0)->∀j,j<N->t j%p=0):N<=h:=by
 rcases Hg h N with ac | a9
 ·exfalso
  obtain⟨r,E,B,l,d,y⟩:=ZT (n:=N) C h f;obtain⟨O,A,a5⟩:=mK d.mono;have s:O<N:=by omega
  let t:Vc:=λj=>if j=O then 1 else zk (λk=>if l k=j then B k O*(-1)else 0) r;have w:t O=1:=RY rfl;have F : ∀k,k<r->t (l k)=B k O*(-1):=λk U=>by
   show(if l k=O then _ else _)=_;rw[EQ (a5 k U),zQ (f:=λI=>if l I=l k then B I O*(-1)else 0) U λI a b=>by
    rw[EQ λe=>b (by
     rcases Mg I k with z | z | z
     ·have:=d.mono I k z U;omega
     ·exact z
     ·have:=d.mono k I z a;omega)]]
   rw[RY rfl]
  have o : ∀k,k<r->zk (λj=>B k j*t j) N=0:=λk U=>by
   have e:zk (λj=>B k j*t j) N=zk (λj=>(if j=O then B k O else 0)+zk (λI=>if l I=j then B k (l I)*(B I O*(-1))else 0) r) N:=zy λj u=>by
    by_cases z:j=O
    ·subst z
     rw[w,RY rfl,zy (g:=λ_=>0) λI a=>EQ<|a5 I a,zT];simp
    ·show B k j*(if j=O then _ else _)=_
     rw[EQ z,EQ z,Int.zero_add,Ib,<- qJ];refine zy λI a=>?_;by_cases e:l I=j
     ·rw[RY e,RY e,<- e,Ib]
     ·rw[EQ e,EQ e];simp
   rw[e,jv,zQ (f:=λj=>if j=O then B k O else 0) s<|λj _ b=>EQ b,RY rfl,qI];have m:zk (λI=>zk (λj=>if l I=j then B k (l I)*(B I O*(-1))else 0) N) r=zk (λI=>B k (l I)*(B I O*(-1))) r:=zy λI a=>by rw[zQ (f:=λj=>if l I=j then B k (l I)*(B I O*(-1))else 0) (d.lt I a) λj _ b=>EQ<|Hu b,RY rfl]
   rw[m,zQ (f:=λI=>B k (l I)*(B I O*(-1))) U λI a b=>by rw[d.p6 k I U a b];simp];rw[d.one k U];omega
  have:=inj t (λi x=>by
   have c:=Zi d<|(y<|f i).mpr (.gen ⟨i,x,rfl⟩);unfold app;have e:zk (λj=>f i j*t j) N%p=zk (λj=>zk (λk=>f i (l k)*B k j) r*t j) N%p:=zK λj u=>by rw[GR,c j u,<- GR]
   rw[e];have m:zk (λj=>zk (λk=>f i (l k)*B k j) r*t j) N=zk (λk=>f i (l k)*zk (λj=>B k j*t j) N) r:=by rw[zy (g:=λj=>zk (λk=>f i (l k)*B k j*t j) r) λj _=>(qJ _ _ _).symm,qI];refine zy λk _=>?_;rw[<- jo];exact zy λj _=>Ir _ _ _
   rw[m,zy (g:=λ_=>0) λk U=>by rw[o k U,Lj],zT];simp) O s
  rw[w,C.one]at this;cases this
 ·exact a9
theorem Vz(W:Nat->Vc)(t:Vc):Span p n (eF m W) λi=>zk (λj=>t j*W j i) m:=Span.sum (u:=W) t λj z=> .gen ⟨j,z,rfl⟩
theorem Aj(z:Pr p)(I:hR p n s B l)(sp : ∀v,Span p n (eF s B) v↔Span p n (eF m W) v)(O : ∀t:Vc,(∀i,i<n->zk (λj=>t j*W j i) m%p=0)->∀j,j<m->t j%p=0):m=s:=by
 have e:s<=m:=by obtain⟨r,h,U⟩:=ZT (n:=n) z m W;have:=y0 z (m:=m) (W:=W) ⟨B,l,I,sp⟩ U;omega
 have o:s<=n:=YD I;have g:m<=s:=uZ z (f:=λi j=>W j<|l i) λt d=>O t λi a=>by
  have c:=Zi I ((sp _).mpr (Vz (n:=n) W t)) i a;rw[c];have:zk (λk=>zk (λj=>t j*W j (l k)) m*B k i) s%p=zk (λ_=>0) s%p:=zK λk b=>by have:=d k b;unfold app at this;rw[qK]at this;rw[GR,this];simp
  rw[this,zT];simp
 omega
theorem lh(hp:Pr p){s q c:Nat}{B C V:Nat->Vc}{l J:RZ}(Z:hR p n s B l)(U:hR p n q C J)(S : ∀j,j<c->Span p n (eF s B) (V j))(L : ∀v,Span p n (eF q C) v->Span p n (eF s B) v)
 (Pt : ∀v,Span p n (eF s B) v->∃t:Vc,Span p n (eF q C) λi=>v i - zk (λj=>t j*V j i) c) (Y : ∀t:Vc,Span p n (eF q C) (λi=>zk (λj=>t j*V j i) c)->∀j,j<c->t j%p=0):q+c=s:=by
 let W:Nat->Vc:=λj=>if j<q then C j else V (j - q);have o : ∀j,j<q->W j=C j:=λj I=>RY I;have r : ∀j,W (q+j)=V j:=λj=>by show(if q+j<q then _ else _)=_;rw[EQ ⋯,IC]
 have x : ∀t:Vc,∀i,zk (λj=>t j*W j i) (q+c)=zk (λj=>t j*C j i) q+zk (λj=>t (q+j)*V j i) c:=λt i=>by
  rw[Kd];congr 1
  ·exact zy λj I=>by rw[o j I]
  ·exact zy λj I=>by rw[r j]
 refine Aj hp Z (W:=W) (λv=>⟨λm=>?_,λm=>m.le λg b=>?_⟩) λt u=>?_
 ·obtain⟨t,h⟩:=Pt v m
  have a:Span p n (eF (q+c) W) λi=>v i - zk (λj=>t j*V j i) c:=h.le λg b=>by obtain⟨k,O,rfl⟩:=b;rw[<- o k O];exact .gen ⟨k,by omega,rfl⟩
  have E:Span p n (eF (q+c) W) λi=>zk (λj=>t j*V j i) c:=Span.sum t λj I=>by rw[<- r j];exact .gen ⟨q+j,by omega,rfl⟩
  exact(E.add a 1).congr λi _=>by rw[Int.one_mul,Int.sub_add_cancel]
 ·obtain⟨k,O,rfl⟩:=b
  rcases Hg k q with z | z
  ·rw[o k z];exact L _<|.gen ⟨k,z,rfl⟩
  ·obtain⟨j,rfl⟩ : ∃j,k=q+j:=⟨k - q,by omega⟩
   rw[r j];exact S j ⋯
 ·have w : ∀j,j<c->t (q+j)%p=0:=Y (λj=>t<|q+j) ((Vz (n:=n) C λj=> -1*t j).congr λi d=>by
   have:=u i d;rw[x]at this;have e:zk (λj=> -1*t j*C j i) q=zk (λj=>t j*C j i) q * -1:=by rw[<- qJ];exact zy λj _=>by rw[Ib (-1),Ir,Ib (-1),Ir]
   rw[e];refine M1.mpr ?_;rw[<- this];congr 1;omega)
  intro j I;rcases Hg j q with z | z
  ·have A : ∀i,i<n->zk (λj=>t j*C j i) q%p=0:=λi d=>by
    have:=u i d;rw[x,HI]at this;have e:zk (λj=>t (q+j)*V j i) c%p=zk (λ_=>0) c%p:=zK λj I=>by rw[GR,w j I];simp
    rw[e,zT]at this;simpa using this
   have a:=A (J j)<|U.lt j z;rw[zQ (f:=λk=>t k*C k (J j)) z λk O y=>by rw[U.p6 k j O z (Hu y)];simp]at a;rw[U.one j z,My]at a;exact a
  ·obtain⟨k,rfl⟩ : ∃k,j=q+k:=⟨j - q,by omega⟩
   exact w k ⋯
end
noncomputable def n4(A:Nat->ft)(N d e:Nat):List Nat:=(GH N).filter λj=>(A j).has d && (A j).has e
section
variable{p:Int}{w:RX}{wd:RZ}{T:RV}{m N n:Nat}{A:Nat->ft}{d:Nat}
theorem dM(z:k<(n4 A N d e).length):(n4 A N d e).getD k 0<N/\(A<|(n4 A N d e).getD k 0).has d=di/\(A<|(n4 A N d e).getD k 0).has e=di:=by
 have f:(n4 A N d e).getD k 0∈n4 A N d e:=by rw[GN,GL z];exact Ln _
 obtain⟨b,a⟩:=Hl.mp f;simp only[Hb]at a;exact⟨eY.mp b,a.1,a.2⟩
theorem Al(D:n7 p w wd T m N A)(C:d<=m)(e:Nat):(n4 A N d e).length<=wd d:=by rw[<- D.cnt d C];unfold n4 h7;rw[<- HK,<- HK];exact List.countP_mono_left λj _ h=>by simp only[Hb]at h;exact h.1
theorem ly(d e:Nat)(t:Vc) : ∃a:Vc,∀k,k<(n4 A N d e).length->a ((n4 A N d e).getD k 0)=t k:=by refine⟨λj=>t<|(n4 A N d e).idxOf j,λk z=>?_⟩;have b:(n4 A N d e).Nodup:=MV.sublist Mr;show t _=_;rw[GN,GL z,Mh,b.idxOf_getElem _ z]
theorem dJ(d e:Nat)(a:Vc)(i:Nat):zk (λk=>a ((n4 A N d e).getD k 0)*(A<|(n4 A N d e).getD k 0).v d i) (n4 A N d e).length=zk (λj=>if (A j).has d=di then (if (A j).has e=di then a j else 0)*(A j).v d i else 0) N:=by have:=yD (λj=>(A j).has d && (A j).has e) (λj=>a j*(A j).v d i) N;refine this.trans<|zy λj _=>?_;cases (A j).has d<;>cases (A j).has e<;>simp
theorem Wa(Z:Pr p)(D:n7 p w wd T m N A)(C:d+n<=m){s q:Nat}{B L:Nat->Vc}{l l2:RZ}(Y:hR p (wd d) s B l)(U : ∀u,Span p (wd d) (eF s B) u ↔ ∃z,Wk p w wd T d n u z)
 (S:hR p (wd d) q L l2) (J : ∀u,Span p (wd d) (eF q L) u↔Wk p w wd T d n u λ_=>0):q+(n4 A N d<|d+n).length=s:=by
 have Q:=Al D (show d<=m by omega)<|d+n;have R:=YD S;refine lh Z Y S (V:=λk=>(A<|(n4 A N d<|d+n).getD k 0).v d) (λk I=>?_) (λv y=>(U v).mpr ⟨_,(J v).mp y⟩) (λv y=>?_) λt M=>?_
 ·obtain⟨f,g,O⟩:=dM I
  exact(U _).mpr ⟨_,Zx (D.ok _ f) g n C O⟩
 ·obtain⟨z,E⟩:=(U v).mp y
  obtain⟨a,o⟩:=D.sp d ⋯ v;obtain⟨b,H⟩:=D.sp (d+n) C z;have r:=vY D n C E o H;refine⟨λk=>a<|(n4 A N d<|d+n).getD k 0,(J _).mpr ?_⟩;let u:Nat->Vc:=λj=>if (A j).has d=di/\(A j).has (d+n)=ed/\w ((A j).s+(A j).n - 1)=ed then (A j).v d else λ_=>0;have P : ∀j,j<N->Wk p w wd T d n (u j) λ_=>0:=λj x=>by
   show Wk p w wd T d n (if _ then _ else _) _;split
   ·next h=>exact Ve (D.ok j x) h.1 h.2.2 n C h.2.1
   ·exact JC n
  have K:=mU a u (λ_ _=>0) N P;refine Az (lM K λi F=>?_) λi _=>by simp[zT]
  rw[dJ d (d+n) a i];rw[IL,o i F,<- IL];have e:zk (λj=>if (A j).has d=di then a j*(A j).v d i else 0) N - zk (λj=>if (A j).has d=di then (if (A j).has (d+n)=di then a j else 0)*(A j).v d i else 0) N=zk (λj=>(if (A j).has d=di then a j*(A j).v d i else 0)+(if (A j).has d=di then (if (A j).has (d+n)=di then a j else 0)*(A j).v d i else 0) * -1) N:=by rw[jv,qJ];omega
  rw[e];refine zK λj x=>?_;show _=a j*(if _ then (A j).v d else λ_=>0) i%p;cases f:(A j).has d with
  | false=>simp
  | true=>
   cases g:(A j).has (d+n)with
   | true=>
    have G:a j*(A j).v d i+a j*(A j).v d i * -1=0:=by omega
    simp only[if_true,G,Bool.true_eq_false,false_and,and_false,if_false,Lj]
   | false=>
    cases O:w ((A j).s+(A j).n - 1)with
    | false=>simp
    | true=>
     have:=(r j x f).2 g O;simp only[if_true,IM,if_false,LA,LB,Lj,Bool.true_eq_false,and_false];rw[GR,this];simp
 ·obtain⟨a,o⟩:=ly (A:=A) (N:=N) d (d+n) t
  have E:=(J _).mp M;have r:=vY D n C E (a:=λj=>if (A j).has (d+n)=di then a j else 0) (b:=λ_=>0) (λi F=>by
   rw[<- dJ d (d+n) a i];congr 1;exact zy λk I=>by rw[o k I]) (λi _=>by
   have:zk (λj=>if (A j).has (d+n)=di then 0*(A j).v (d+n) i else 0) N=zk (λ_=>0) N:=zy λj _=>by simp
   rw[this,zT])
  intro k I;obtain⟨f,g,O⟩:=dM I;have:=(r _ f g).1 O;rw[O,RY rfl,o k I]at this;simpa using this
end
section
variable{p:Int}{w:RX}{wd:RZ}{T:RV}{m N:Nat}{A:Nat->ft}
theorem iJ(r:Nat)(t:Vc) : ∃a:Vc,∀k,k<(h7 A N r).length->a ((h7 A N r).getD k 0)=t k:=by refine⟨λj=>t<|(h7 A N r).idxOf j,λk z=>?_⟩;show t _=_;rw[GN,GL z,Mh,(K3 A N r).idxOf_getElem _ z]
theorem cX(r:Nat)(a:Vc)(i:Nat):zk (λj=>if (A j).has r=di then a j*(A j).v r i else 0) N=app (q9 A N r) (h7 A N r).length (λk=>a<|(h7 A N r).getD k 0) i:=by have:=yD (λj=>(A j).has r) (λj=>a j*(A j).v r i) N;rw[<- this];unfold app;rw[qK];rfl
theorem uU(z:j<N)(I:(A j).has r=di) : ∃k,k<(h7 A N r).length/\(h7 A N r).getD k 0=j:=by have O:j∈h7 A N r:=Hl.mpr ⟨eY.mpr z,by simpa using I⟩;obtain⟨i,a,e⟩:=Mq O;exact⟨i,a,by rw[GN,GL a];simpa using e⟩
theorem pM(hp:Pr p)(a1 : ∀k,wd k<=8)(ok : ∀j,j<N->m4 p w wd T m (A j))(cnt : ∀r,r<=m->(h7 A N r).length=wd r)(U : ∀r,r<=m->∀v:Vc,∃t,∀i,i<wd r->v i%p=app (q9 A N r) (wd r) t i%p):n7 p w wd T m N A where
 ok:=ok
 cnt:=cnt
 sp:=λr z v=>by obtain⟨t,I⟩:=U r z v;obtain⟨a,ha⟩:=iJ (A:=A) (N:=N) r t;refine⟨a,λi hi=>?_⟩;rw[I i hi,cX,cnt r z];unfold app;congr 1;exact zy λk O=>by show _=_*a _;rw[ha k (by rw[cnt r z];exact O)]
 inj:=λr z t I j hj hh=>by
  obtain⟨k,O,e⟩:=uU hj hh;have:=vd hp (a1 r) (U r z) (t:=λk=>t<|(h7 A N r).getD k 0) (λi hi=>by have:=I i hi;rw[cX,cnt r z]at this;exact this) k (by rw[<- cnt r z];exact O)
  rw[e]at this;exact this
end
section
variable{p:Int}{w:RX}{wd:RZ}{T f g:RV}{m N:Nat}{A:Nat->ft}
theorem Vg(F G:RK)(n k:Nat)(u:Vc)(i:Nat):app F n (app G k u) i=zk (λj=>zk (λb=>F i b*G b j) n*u j) k:=by
 unfold app;have e:zk (λb=>F i b*zk (λj=>G b j*u j) k) n=zk (λb=>zk (λj=>F i b*G b j*u j) k) n:=zy λb _=>by rw[<- jo];exact zy λj _=>(Ir _ _ _).symm
 rw[e,qI];exact zy λj _=>qJ _ _ _
theorem Zk(h:ZD p n F G)(u:Vc)(C:i<n):app F n (app G n u) i%p=u i%p:=by
 rw[Vg];have e:zk (λj=>zk (λb=>F i b*G b j) n*u j) n%p=zk (λj=>g9 i j*u j) n%p:=zK λj z=>by rw[GR,h i j C z,<- GR]
 rw[e,zQ (f:=λj=>g9 i j*u j) C λj _ I=>by unfold g9;rw[EQ (Hu I),LA]];unfold g9;rw[RY rfl,Int.one_mul]
theorem fP(k:Nat)(u:Vc)(i:Nat):app (kB p w wd f g T k) (wd<|zL w k) u i%p=app (f<|zV w k) (wd<|zV w k) (app (T k) (wd<|zL w k)<|app (g<|zL w k) (wd<|zL w k) u) i%p:=by
 rw[Vg];show _=app (λi b=>zk (λa=>f (zV w k) i a*T k a b)<|wd<|zV w k) (wd<|zL w k) (app (g<|zL w k) (wd<|zL w k) u) i%p;rw[Vg];have e:app (kB p w wd f g T k) (wd<|zL w k) u i%p=zk (λj=>zk (λb=>zk (λa=>f (zV w k) i a*T k a b) (wd<|zV w k)*g (zL w k) b j) (wd<|zL w k)*u j) (wd<|zL w k)%p:=by
  unfold app;refine zK λj _=>?_;rw[GR];have z:kB p w wd f g T k i j%p=zk (λb=>zk (λa=>f (zV w k) i a*T k a b) (wd<|zV w k)*g (zL w k) b j) (wd<|zL w k)%p:=by unfold kB;rw[Hn];refine zK λb _=>?_;rw[GR,Hn,<- GR,Ib,zy (g:=λa=>f (zV w k) i a*T k a b) λa _=>Ib _ _]
  rw[z,<- GR]
 exact e
noncomputable def ZI(p:Int)(wd:RZ)(f:RV)(x:ft):ft:=⟨x.s,x.n,λr i=>app (f r) (wd r) (x.v r) i%p⟩
theorem ZH(x:ft)(r i:Nat):(ZI p wd f x).v r i%p=app (f r) (wd r) (x.v r) i%p:=Hn _ _
theorem sC(q:RX)(t:Vc)(F:RK)(n r i:Nat)(X:Nat->ft):zk (λj=>if q j=di then t j*app F n ((X j).v r) i else 0) N=app F n (λi=>zk (λj=>if q j=di then t j*(X j).v r i else 0) N) i:=by
 have a:(λi=>zk (λj=>if q j=di then t j*(X j).v r i else 0) N)=λi=>zk (λj=>(if q j=di then t j else 0)*(X j).v r i) N:=by funext i;exact zy λj _=>by split<;>simp
 rw[a,kR F n (λj=>if q j=di then t j else 0) (λj=>(X j).v r) N i];exact zy λj _=>by split<;>simp
theorem Ka(L:0<p)(J : ∀r,r<=m->ZD p (wd r) (f r) (g r))(C : ∀r,r<=m->ZD p (wd r) (g r) (f r))(D:n7 p w wd T m N A):n7 p w wd (kB p w wd f g T) m N λj=>ZI p wd f (A j):=by
 have E : ∀z:Int,0<=z%p/\z%p<p:=λz=>⟨Hw _ ⋯,Hh _ L⟩;have l : ∀r i (t:Vc),zk (λj=>if (A j).has r=di then t j*(ZI p wd f<|A j).v r i else 0) N%p=app (f r) (wd r) (λi=>zk (λj=>if (A j).has r=di then t j*(A j).v r i else 0) N) i%p:=λr i t=>by
  rw[<- sC (λj=>(A j).has r) t (f r) (wd r) r i A];refine zK λj _=>?_;split
  ·rw[GR,ZH,<- GR]
  ·rfl
 refine⟨λj O=>?_,λr I v=>?_,λr I t U j O h=>?_,D.cnt⟩
 ·have b:=D.ok j O
  refine⟨b.n1,b.le,λr i _ _=>E _,λk n h i d=>?_⟩;have o:zL w k<=m:=by have:=rj w n;omega
  have e:(A j).has (zL w k)=di:=h;rw[fP];have s : ∀x,x<wd (zL w k)->app (g<|zL w k) (wd<|zL w k) ((ZI p wd f<|A j).v (zL w k)) x%p=(A j).v (zL w k) x%p:=λx a=>by rw[jC (u:=app (f<|zL w k) (wd<|zL w k)<|(A j).v (zL w k)) (λy _=>ZH _ _ _),Zk (C _ o) _ a]
  have B : ∀x,x<wd (zV w k)->app (T k) (wd<|zL w k) (app (g<|zL w k) (wd<|zL w k)<|(ZI p wd f<|A j).v (zL w k)) x%p=(if (A j).has (zV w k)=di then (A j).v (zV w k) x else 0)%p:=λx a=>by rw[jC (u:=(A j).v (zL w k)) s];exact b.arr k n e x a
  rw[jC B];show _=(if (A j).has (zV w k)=di then (ZI p wd f<|A j).v (zV w k) i else 0)%p;by_cases a:(A j).has (zV w k)=di
  ·simp only[a,if_true]
   exact(ZH _ _ _).symm
  ·simp only[a,if_false]
   rw[Zz (λ_ _=>by simp) i];simp
 ·obtain⟨t,U⟩:=D.sp r I (app (g r) (wd r) v)
  refine⟨t,λi d=>?_⟩;show _=zk (λj=>if (A j).has r=di then t j*(ZI p wd f<|A j).v r i else 0) N%p;rw[l,<- Zk (J r I) v d];exact jC U i
 ·have e:(A j).has r=di:=h
  refine D.inj r I t (λi d=>?_) j O e;have z : ∀x,x<wd r->app (f r) (wd r) (λi=>zk (λj=>if (A j).has r=di then t j*(A j).v r i else 0) N) x%p=0:=λx a=>by rw[<- l];exact U x a
  rw[<- Zk (C r I) (λi=>zk (λj=>if (A j).has r=di then t j*(A j).v r i else 0) N) d];exact Zz z i
end
noncomputable def gV(p:Int)(a b:Nat)(c:Int)(v:Vc):Vc:=λi=>if i=b then (v b+c*v a)%p else v i
noncomputable def FY(S E:RZ)(j:Nat):ft:=⟨S j,E j - S j+1,λ_ _=>0⟩
noncomputable def qe(S E:RZ)(N r:Nat):List Nat:=h7 (FY S E) N r
noncomputable def KW(S E:RZ)(N j:Nat):ft:=⟨S j,E j - S j+1,λr i=>if (qe S E N r).getD i N=j then 1 else 0⟩
noncomputable def fz(S E:RZ)(N r:Nat):Nat:=(qe S E N r).length
noncomputable def iE(w:RX)(S E:RZ)(N k i j:Nat):Int:=if (qe S E N<|zV w k).getD i N=(qe S E N<|zL w k).getD j (N+1)then 1 else 0
section
variable{S E:RZ}{N r:Nat}{w:RX}{p:Int}{m:Nat}
theorem fW:(qe S E N r).Nodup:=List.Nodup.sublist Mr MV
theorem Pu{j:Nat}:j∈qe S E N r↔j<N/\(KW S E N j).has r=di:=by unfold qe h7;rw[Hl,eY];rfl
theorem VB{j:Nat}(h:j<N)(I:(KW S E N j).has r=di) : ∃c,c<fz S E N r/\(qe S E N r)[c]? = bQ j:=by obtain⟨c,z⟩:=Nj<|Pu.mpr ⟨h,I⟩;exact⟨c,(GU.mp z).1,z⟩
theorem ZM{c d:Nat}(h:c<fz S E N r) : ∃j,(qe S E N r)[c]? = bQ j/\(qe S E N r).getD c d=j/\j<N/\(KW S E N j).has r=di:=by have e:=GL (l:=qe S E N r) h;obtain⟨a,b⟩:=Pu.mp<|HJ e;exact⟨_,e,by rw[GN,e];rfl,a,b⟩
theorem Kk{c z j:Nat}(C:(qe S E N r)[c]? = bQ j)(I:(qe S E N r)[z]? = bQ j):c=z:=by exact(List.getElem?_inj (GU.mp C).1 fW).mp (C.trans I.symm)
theorem QC{c j:Nat}(h:c<fz S E N r):(KW S E N j).v r c=if (qe S E N r)[c]? = bQ j then 1 else 0:=by
 obtain⟨I,a,O,_⟩:=ZM (d:=N) h;show(if (qe S E N r).getD c N=j then (1:Int)else 0)=_;rw[a,O];by_cases z:I=j
 ·rw[RY z,RY (by rw[z])]
 ·rw[EQ z,EQ (λq=>z<|Hx q)]
theorem V7(J:Pr p)(C : ∀j,j<N->S j<=E j/\E j<=m):n7 p w (fz S E N) (iE w S E N) m N (KW S E N):=by
 have two:=J.two;refine⟨λj O=>⟨by show 1<=_+1;omega,by show S j+(E j - S j+1)<=m+1;have:=C j O;omega,λr i _ _=>?_,λk G l i g=>?_⟩,λr u v=>?_,λr u t B j O l=>?_,λr u=>rfl⟩
 ·show 0<=(if _ then (1:Int)else 0)/\(if _ then (1:Int)else 0)<p
  split<;>omega
 ·obtain⟨U,a,b⟩:=VB O l
  obtain⟨A,h,x,y,o⟩:=ZM (d:=N) g;have e:app (iE w S E N k) (fz S E N<|zL w k) ((KW S E N j).v (zL w k)) i=iE w S E N k i U:=by
   unfold app;rw[zQ (f:=λc=>iE w S E N k i c*(KW S E N j).v (zL w k) c) a λc s I=>by rw[QC s,EQ<|λq=>I<|Kk q b,Lj]]
   rw[QC a,RY b,My]
  rw[e];congr 1;unfold iE;rw[show(qe S E N<|zL w k).getD U (N+1)=j by rw[GN,b];rfl];by_cases n:(KW S E N j).has (zV w k)=di
  ·rw[RY n];rfl
  ·rw[EQ n,x,EQ (λz=>n<|by rw[<- z];exact o)]
 ·refine⟨λj=>zk (λc=>if (qe S E N r)[c]? = bQ j then v c else 0)<|fz S E N r,λi g=>?_⟩
  obtain⟨A,h,x,y,o⟩:=ZM (d:=N) g;rw[zQ (f:=λj=>if (KW S E N j).has r=di then zk (λc=>if (qe S E N r)[c]? = bQ j then v c else 0) (fz S E N r)*(KW S E N j).v r i else 0) y λj O I=>by rw[QC g,show(if (qe S E N r)[i]? = bQ j then (1:Int)else 0)=0 from EQ<|λq=>I<|Hx<|q.symm.trans h,Lj,ite_self]]
  rw[RY o,QC g,RY h,My,zQ (f:=λc=>if (qe S E N r)[c]? = bQ A then v c else 0) g λc s I=>EQ λq=>I<|Kk q h,RY h]
 ·obtain⟨U,a,b⟩:=VB O l
  have:=B U a;rw[zQ (f:=λj=>if (KW S E N j).has r=di then t j*(KW S E N j).v r U else 0) O λF as I=>by rw[QC a,show(if (qe S E N r)[U]? = bQ F then (1:Int)else 0)=0 from EQ<|λq=>I<|Hx<|q.symm.trans b,Lj,ite_self]]at this
  rw[RY l,QC a,RY b,My]at this;exact this
theorem iD(z:Pr p) : ∀k x y,0<=iE w S E N k x y/\iE w S E N k x y<p:=λk x y=>by have:=z.two;unfold iE;split<;>omega
end
section
variable{p:Int}{m:Nat}{w:RX}{wd:RZ}{T:RV}
noncomputable def aN(w:RX)(wd:RZ)(T:RV)(m:Nat):List D:=(GH m).map λk=>D.lst<|dF (h8 w wd k) (h9 w wd k)<|T k
@[simp] theorem sr(m):(aN w wd T m).length=m:=by simp[aN]
abbrev rc(p:Int)(m:Nat)(w:RX)(wd:RZ)(T:RV)(acc:List D)(c5 c6 c7 c8:Cell):Ctx:=[.val (.int p),.val (.str (xN m w)),.val (.lst (zB (m+1) λk=>(wd k:Int))),.val (.lst (aN w wd T m)),.own acc,c5,c6,c7,c8]
end
noncomputable def stN(M:Nat):List (Nat×Nat):=(GH M).flatMap λi=>(List.range' i<|M - i).map λj=>(i,j)
theorem Oy:s∈stN M↔s.1<=s.2/\s.2<M:=by
 unfold stN;simp only[List.mem_flatMap,eY,Hj,List.mem_range'_1];constructor
 ·rintro⟨i,a,j,z,rfl⟩
  exact⟨z.1,by show j<M;omega⟩
 ·intro h
  exact⟨s.1,by omega,s.2,⟨h.1,by omega⟩,rfl⟩
noncomputable def Pj:=jD 2<|sS<|zS (zN<|zg 1) (.tp [0,1]) 2 [0] jj (qM<|zb (qM<|zb (zc 0)<|zb (zc 1) zF)<|zb (zE AD<|zb (zc 2)<|zb (zc 0)<|zb (zc 1) zF) zF)
noncomputable def nh(K:List (Nat×Nat))(a b:Int):Nat:=K.countP λx=>decide ((x.1:Int)<=a) && decide (b<=(x.2:Int))
noncomputable def u4(K:List (Nat×Nat))(s:Nat×Nat):Nat:=K.countP λx=>decide<|x=s
theorem Zt(x:Nat×Nat)(K:List (Nat×Nat))(a b:Int):(nh (x::K) a b:Int)=(nh K a b:Int)+if (x.1:Int)<=a/\b<=(x.2:Int)then 1 else 0:=by
 unfold nh;rw[NP];by_cases d:(x.1:Int)<=a
 ·by_cases e:b<=(x.2:Int)
  ·rw[RY (show(decide ((x.1:Int)<=a) && decide (b<=(x.2:Int)))=di by simp only[decide_eq_true d,decide_eq_true e];rfl),RY ⟨d,e⟩];rfl
  ·rw[EQ (show ¬(decide ((x.1:Int)<=a) && decide (b<=(x.2:Int)))=di by simp only[decide_eq_false e,Bool.and_false];decide),EQ λz=>e z.2];rfl
 ·rw[EQ (show ¬(decide ((x.1:Int)<=a) && decide (b<=(x.2:Int)))=di by simp only[decide_eq_false d,Bool.false_and];decide),EQ λz=>d z.1];rfl
theorem iy(x s:Nat×Nat)(K:List (Nat×Nat)):(u4 (x::K) s:Int)=(u4 K s:Int)+if (x.1=s.1/\x.2=s.2)then 1 else 0:=by
 unfold u4;rw[NP];by_cases h:x=s
 ·rw[RY (decide_eq_true h),RY (by rw[h];exact⟨rfl,rfl⟩)];rfl
 ·rw[EQ (by simpa using h),EQ λz=>h (Prod.ext z.1 z.2)];rfl
theorem Jo(s:Nat×Nat) : ∀K:List (Nat×Nat),(nh K s.1 s.2:Int) - ((nh K ((s.1:Int) - 1) s.2:Int)+(nh K s.1 ((s.2:Int)+1):Int))+(nh K ((s.1:Int) - 1) ((s.2:Int)+1):Int)=(u4 K s:Int)
 | []=>rfl
 | x::K=>by
  have z:=Jo s K;rw[Zt,Zt,Zt,Zt,iy];generalize (nh K s.1 s.2:Int)=I at *;generalize (nh K ((s.1:Int) - 1) s.2:Int)=O at *;generalize (nh K s.1 ((s.2:Int)+1):Int)=U at *;generalize (nh K ((s.1:Int) - 1) ((s.2:Int)+1):Int)=c4 at *;generalize (u4 K s:Int)=c5 at *
  repeat' split
  all_goals omega
section
variable{p:Int}{w:RX}{wd:RZ}{T:RV}{m N:Nat}{A:Nat->ft}
noncomputable def iH(A:Nat->ft)(N:Nat):List (Nat×Nat):=(GH N).map λj=>((A j).s,(A j).s+(A j).n - 1)
theorem XD(D:n7 p w wd T m N A) : ∀x,x∈iH A N->x∈stN (m+1):=λx a=>by obtain⟨j,z,rfl⟩:=Hj.mp a;have b:=(D.ok j<|eY.mp z).n1;have d:=(D.ok j<|eY.mp z).le;exact Oy.mpr (by show(A j).s<=(A j).s+(A j).n - 1/\(A j).s+(A j).n - 1<m+1;omega)
theorem mO(D:n7 p w wd T m N A)(I:i<=j):(n4 A N i j).length=nh (iH A N) i j:=by unfold n4 nh iH;rw[<- HK,Ms];refine IJ λk z=>?_;have a:=(D.ok k<|eY.mp z).n1;simp only[Hb,Function.comp_def,decide_eq_true_eq];rw[iW,iW];omega
end
noncomputable def u1:=(jD 1<|zE jr<|zb (zc 0)<|zb (zu<|.int 0) zF)
noncomputable def u2:=(jD 2<|dn (jP<|qP<|zb (zu<|.int 2)<|zb (zu<|.int 3)<|zb (zu<|.int 5)<|zb (zu<|.int 7) zF)<|zH ya (zc 1)<|zu<|.int 4)
noncomputable def u3:=(w6 (.tp [3,4])<|dn (jP<|qP<|zb (qM<|zb (zu<|.int 4)<|zb (zu<|.int 2) zF)<|zb (qM<|zb (zu<|.int 3)<|zb (zu<|.int 2) zF)<|zb (qM<|zb (zu<|.int 2)<|zb (zu<|.int 2) zF)<|zb (qM<|zb (zu<|.int 2)<|zb (zu<|.int 2) zF)<|zb (qM<|zb (zu<|.int 6)<|zb (zu<|.int 1) zF)<|zb (qM<|zb (zu<|.int 5)<|zb (zu<|.int 1) zF)<|zb (qM<|zb (zu<|.int 4)<|zb (zu<|.int 1) zF)<|zb (qM<|zb (zu<|.int 3)<|zb (zu<|.int 1) zF) zF)<|zH ya (zc 1)<|zu<|.int 8)
theorem ue{c:Int}(h:0<=c) : ∃q:Nat,Pr (q:Int)/\([D.int 2,.int 3,.int 5,.int 7])[(c%4).toNat]? = bQ (.int q)/\hB 4 (c%4)=bQ (c%4).toNat:=by
 have a:=Hw c (show(4:Int)≠0 by decide);have b:=Hh c (show(0:Int)<4 by decide);obtain⟨r,z⟩:=Lm a;rw[z];have I:r<4:=by omega
 rw[jq,RY I,IU];rcases (by omega:r=0\/r=1\/r=2\/r=3)with e | e | e | e<;>subst e
 ·exact⟨2,.inl rfl,rfl,rfl⟩
 ·exact⟨3,.inr<|.inl rfl,rfl,rfl⟩
 ·exact⟨5,.inr<|.inr<|.inl rfl,rfl,rfl⟩
 ·exact⟨7,.inr<|.inr<|.inr rfl,rfl,rfl⟩
noncomputable def bS(bs:List (Int×Int))(j:Nat):Nat:=(bs.getD j (0,0)).1.toNat
noncomputable def bE(bs:List (Int×Int))(j:Nat):Nat:=(bs.getD j (0,0)).2.toNat
abbrev bW(bs:List (Int×Int)):Nat->Nat:=fz (bS bs) (bE bs) bs.length
abbrev bT(w:RX)(bs:List (Int×Int)):Nat->Nat->Nat->Int:=iE w (bS bs) (bE bs) bs.length
abbrev bL(bs:List (Int×Int))(r:Nat):List Nat:=qe (bS bs) (bE bs) bs.length r
section
variable{bs:List (Int×Int)}{m:Nat}{w:RX}
theorem eD(h : ∀b∈bs,fC ((m+1:Nat):Int) b){j:Nat}(z:j<bs.length):bs[j]? = bQ ((bS bs j:Int),(bE bs j:Int))/\bS bs j<=bE bs j/\bE bs j<=m:=by have e:=GL z;have I:=h _<|HJ e;obtain⟨a,d,O⟩:=I;unfold bS bE;rw[GN,e,Mh];refine⟨?_,by omega,by omega⟩;congr 1;exact Prod.ext (by dsimp only;omega) (by dsimp only;omega)
end
section
variable{bs:List (Int×Int)}{m:Nat}
theorem rk(h : ∀b∈bs,fC ((m+1:Nat):Int) b):bs=(GH bs.length).map λj=>((bS bs j:Int),(bE bs j:Int)):=by
 apply II;intro j;by_cases z:j<bs.length
 ·rw[(eD h z).1];simp[z]
 ·rw[List.getElem?_eq_none ⋯,List.getElem?_eq_none (by simpa using z)]
end
section
variable{p:Int}{w:RX}{wd:RZ}{T:RV}{m N:Nat}{A:Nat->ft}
theorem iw{M:Nat}{K I:List (Nat×Nat)}(C : ∀x,x∈K->x∈stN M)(J : ∀x,x∈I->x∈stN M)(h : ∀a b:Nat,a<=b->b<M->nh K a b=nh I a b){s:Nat×Nat}(hs:s.1<=s.2):u4 K s=u4 I s:=by
 have z : ∀{L:List (Nat×Nat)} {a b:Int},(∀x,x∈L->x∈stN M)->a<0\/(M:Int)<=b->nh L a b=0:=λ{L a b} U d=>by unfold nh;rw[Mt];intro x e q;have:=Oy.mp<|U x e;simp only[Hb,decide_eq_true_eq]at q;omega
 have O : ∀{a b:Int},a<=b->nh K a b=nh I a b:=λ{a b} d=>by
  by_cases c:a<0\/(M:Int)<=b
  ·rw[z C c,z J c]
  ·have:=h a.toNat b.toNat ⋯ ⋯
   rw[Ny ⋯,Ny ⋯]at this;exact this
 have f:=Jo s K;have g:=Jo s I;rw[O ⋯,O ⋯,O ⋯,O ⋯]at f;omega
end
section
variable{p:Int}{w:RX}{wd:RZ}{T:RV}{m N N':Nat}{A A':Nat->ft}{d n:Nat}
noncomputable def Du(w:RX)(A:Nat->ft)(d n:Nat)(z:Bool)(j:Nat):Bool:=(A j).has d && ((!z && (A j).has (d+n)) || (!(A j).has (d+n) && !w ((A j).s+(A j).n - 1)))
noncomputable def Dv(w:RX)(A:Nat->ft)(d n:Nat)(z:Bool)(j:Nat):Vc:=if Du w A d n z j=di then (A j).v d else λ_=>0
theorem oZ(D:n7 p w wd T m N A)(C:d+n<=m){z:Bool}{j:Nat}(O:j<N) : ∃y:Vc,Wk p w wd T d n (Dv w A d n z j) y/\(z=di->∀i,y i=0):=by
 unfold Dv;by_cases h:Du w A d n z j=di
 ·rw[RY h]
  unfold Du at h;simp only[Hb,Ip,IT]at h;obtain⟨a,b⟩:=h;rcases b with⟨U,I⟩ | ⟨I,e⟩
  ·exact⟨_,Zx (D.ok j O) a n C I,λq=>by rw[q]at U;cases U⟩
  ·exact⟨_,Ve (D.ok j O) a e n C I,λ_ _=>rfl⟩
 ·rw[EQ h];exact⟨_,JC n,λ_ _=>rfl⟩
theorem cx(D:n7 p w wd T m N A)(C:d+n<=m)(z:Bool)(u:Vc):Span p (wd d) (eF N<|Dv w A d n z) u ↔ ∃y:Vc,Wk p w wd T d n u y/\(z=di->∀i,y i%p=0):=by
 constructor
 ·intro h
  induction h with
  | zero h=>exact⟨_,lM (JC n) λi o=>by rw[h i o];simp,λ_ _=>by simp⟩
  | step B _ e E=>
   obtain⟨y,f,k⟩:=E;obtain⟨j,U,rfl⟩:=B;obtain⟨H,g1,g2⟩:=oZ D C (z:=z) U;refine⟨_,lM (eU n _ f g1) e,λq i=>?_⟩;rw[g2 q i,Lj,LB];exact k q i
 ·rintro⟨y,f,k⟩
  obtain⟨a,r⟩:=D.sp d ⋯ u;obtain⟨b,l,t⟩ : ∃b:Vc,(∀i,i<wd (d+n)->y i%p=zk (λj=>if (A j).has (d+n)=di then b j*(A j).v (d+n) i else 0) N%p)/\(z=di->∀j,b j=0):=by
   cases z with
   | false=>
    obtain⟨b,l⟩:=D.sp (d+n) C y;exact⟨b,l,λq=>nomatch q⟩
   | true=>exact⟨λ_=>0,λi _=>by rw[k rfl i,zy (g:=λ_=>0) λj _=>by simp,zT];simp,λ_ _=>rfl⟩
  have x:=vY D n C f r l;refine(Span.sum (u:=Dv w A d n z) a (m:=N) λj U=> .gen ⟨j,U,rfl⟩).congr λi o=>?_;rw[r i o];refine zK λj U=>?_;unfold Dv;by_cases O:(A j).has d=di
  ·obtain⟨F,G⟩:=x j U O
   rw[RY O];by_cases I:Du w A d n z j=di
   ·rw[RY I]
   ·rw[EQ I,Lj]
    have:a j%p=0:=by
     unfold Du at I;rw[O]at I;cases h4:(A j).has (d+n)with
     | true=>
      rw[h4]at I;cases z with
      | true=>rw[F h4,t rfl j];simp
      | false=>simp at I
     | false=>
      rw[h4]at I;cases h5:w ((A j).s+(A j).n - 1)with
      | true=>exact G h4 h5
      | false=>rw[h5]at I;simp at I
    rw[GR,this];simp
  ·have:Du w A d n z j=ed:=by unfold Du;rw[Bool.not_eq_true]at O;rw[O];rfl
   rw[EQ O,this];simp
theorem pS(I:Pr p)(D:n7 p w wd T m N A)(U:n7 p w wd T m N' A'){a b:Nat}(C:a<=b)(O:b<=m):nh (iH A N) a b=nh (iH A' N') a b:=by obtain⟨n,rfl⟩ : ∃n,b=a+n:=⟨b - a,by omega⟩;obtain⟨s,_,B,l,e,r⟩:=ZT (n:=wd a) I N<|Dv w A a n ed;obtain⟨q,_,j,E,d,o⟩:=ZT (n:=wd a) I N<|Dv w A a n di;have g : ∀u,Span p (wd a) (eF s B) u ↔ ∃z,Wk p w wd T a n u z:=λu=>(r u).trans ((cx D O ed u).trans ⟨λ⟨y,h,_⟩=>⟨y,h⟩,λ⟨y,h⟩=>⟨y,h,λq=>nomatch q⟩⟩);have f : ∀u,Span p (wd a) (eF q j) u↔Wk p w wd T a n u λ_=>0:=λu=>(o u).trans ((cx D O di u).trans ⟨λ⟨y,h,k⟩=>Az h λi _=>by rw[k rfl i];simp,λh=>⟨_,h,λ_ _=>by simp⟩⟩);have t:=Wa I D O e g d f;have x:=Wa I U O e g d f;rw[<- mO D C,<- mO U C];omega
theorem ck(O:Pr p)(D:n7 p w wd T m N A)(I:n7 p w wd T m N' A'):(iH A N).Perm (iH A' N'):=by
 refine List.perm_iff_count.mpr λs=>?_;have e : ∀K:List (Nat×Nat),K.count s=u4 K s:=λK=>by unfold u4 List.count;exact IJ λx _=>by simp
 rw[e,e];by_cases d:s.1<=s.2
 ·exact iw (M:=m+1) (XD D) (XD I) (λa b f i=>pS O D I f ⋯) d
 ·have z : ∀K:List (Nat×Nat),(∀x,x∈K->x∈stN (m+1))->u4 K s=0:=λK h=>by
   unfold u4;rw[Mt];intro x g q;have:=(Oy.mp<|h x g).1;have q:=of_decide_eq_true q;rw[q]at this;exact d this
  rw[z _ (XD D),z _ (XD I)]
theorem Xm{bs:List (Int×Int)}(h : ∀b∈bs,fC ((m+1:Nat):Int) b)(r:Nat):jL bs (r:Int)=bL bs r:=by
 unfold jL bL qe h7;refine NI λj z=>?_;have z:=eY.mp z;obtain⟨e,a,d⟩:=eD h z;have I:bs.getD j (0,0)=((bS bs j:Int),(bE bs j:Int)):=by rw[GN,e];rfl
 rw[I];show mJ _ _=(decide (bS bs j<=r) && decide (r<bS bs j+(bE bs j - bS bs j+1)));unfold mJ;dsimp only;congr 1
 ·exact decide_eq_decide.mpr ⋯
 ·exact decide_eq_decide.mpr ⋯
end
theorem lG:qg=jf 8 (zP (xn 2<|qP zF)<|zP (yP (zR<|zH qC (k8<|zc 0)<|zu<|.int 1) (.nm 3)<|qi 2<|jU eB)<|zP (gj 2<|xn 4<|qP zF)<|zP (yP (zR<|k8<|zc 0) (.nm 5) lH) rh):=rfl
section
variable{p:Int}{m:Nat}{w:RX}{bs:List (Int×Int)}
theorem nI(h : ∀b∈bs,fC ((m+1:Nat):Int) b)(k:Nat):((jL bs<|zV w k).map λx=>D.lst<|(jL bs<|zL w k).map λy=>D.int<|if x=y then 1 else 0)=j8 (h8 w (bW bs) k) (h9 w (bW bs) k) (bT w bs k):=by
 rw[Xm h,Xm h];unfold j8;rw[<- wA,<- ZE]
 conv=>lhs;rw[<- jc bs.length (bL bs<|zV w k),HD]
 refine Hk λi a=>?_;show D.lst ((bL bs<|zL w k).map λy=>D.int<|if (bL bs<|zV w k).getD i bs.length=y then 1 else 0)=D.lst (zB _ _);congr 1;rw[zW]
 conv=>lhs;rw[<- jc (bs.length+1) (bL bs<|zL w k),HD]
 rfl
theorem Yr(S:m<=5)(hb:bs.length<64)(h : ∀b∈bs,fC ((m+1:Nat):Int) b):qg [.str (xN m w),.lst (jE bs)]=bQ (.val<|qp m w (bW bs)<|bT w bs):=by
 have hl:=jm;have H:m<=lim:=by omega
 have t:bs.length<=lim:=by omega
 have wl:=vk m w;have u:=kc w (show m<=1000 by omega);have G : ∀r:Int,(jL bs r).length<=lim:=λr=>by have:=bV bs r;omega
 let N:Nat->List D:=λs=>(GH s).map λ(r:Nat)=>D.lst<|KS<|jL bs (r:Int);let γ:Cell->Cell->Cell->Cell->Cell->Cell->Ctx:=λI z K j a d=>[.val (.str<|xN m w),.val<|.lst<|jE bs,I,z,K,j,a,d];have one : ∀(s:Nat) I,eB (γ I (.val<|.int (s:Int)) .no .no .no .no)=bQ (KS<|jL bs (s:Int)):=λs I=>by
  have p:zU (.nm 0) (sB<|kf o6 o6 (dn (zA<|dn (zg 1)<|zc 0)<|zu<|.int 0) (zc 2)<|dn (zA<|dn (zg 1)<|zc 0)<|zu<|.int 1) (zc 0) [Cell.no,.val<|.lst<|jE bs,.val (.int (s:Int))] ((GH bs.length).map λ(i:Nat)=>D.int i)=bQ (((GH bs.length).filter λi=>mJ (bs.getD i (0,0)) s).map λ(i:Nat)=>D.int i):=by
   refine ju _ _ _ λi n=>⟨_,rfl,?_,λ_=>rfl⟩;have n:=eY.mp n;have e:(jE bs)[i]? = bQ (D.tup [.int (bs.getD i (0,0)).1,.int (bs.getD i (0,0)).2]):=by unfold jE;rw[Hd,GN,GL n];rfl
   have E:zA (dn (zg 1)<|zc 0) [Cell.val (D.int (i:Int)),.val<|.lst<|jE bs,.val (.int (s:Int))]=bQ (.T,[.int (bs.getD i (0,0)).1,.int (bs.getD i (0,0)).2]):=by rw[show zA (dn (zg 1)<|zc 0) [Cell.val (D.int (i:Int)),.val<|.lst<|jE bs,.val (.int (s:Int))]=((hB (jE bs).length (i:Int)).bind λk=>(jE bs)[k]?).bind z7 from rfl,Yq,jq,RY n];show((jE bs)[i]?).bind z7=_;rw[e];rfl
   show sB (kf o6 o6 (dn (zA<|dn (zg 1)<|zc 0)<|zu<|.int 0) (zc 2)<|dn (zA<|dn (zg 1)<|zc 0)<|zu<|.int 1) [Cell.val (D.int (i:Int)),.val<|.lst<|jE bs,.val (.int (s:Int))]=_;have A:dn (zA<|dn (zg 1)<|zc 0) (zu<|.int 0) [Cell.val (D.int (i:Int)),.val<|.lst<|jE bs,.val (.int (s:Int))]=bQ (.int (bs.getD i (0,0)).1):=by rw[vR,E];rfl
   have B:dn (zA<|dn (zg 1)<|zc 0) (zu<|.int 1) [Cell.val (D.int (i:Int)),.val<|.lst<|jE bs,.val (.int (s:Int))]=bQ (.int (bs.getD i (0,0)).2):=by rw[vR,E];rfl
   generalize bs.getD i (0,0)=b at A B;simp[-vR,A,B,mJ];by_cases q:b.1<=(s:Int)<;>simp[q]
  unfold eB;rw[qA,show zR (xP<|zg 1) (γ I (.val<|.int (s:Int)) .no .no .no .no)=bQ ((GH bs.length).map λ(i:Nat)=>D.int i)by
   have r:inR (bs.length:Int)=di:=ve t;simp[γ,r,jy];rw[zW]]
  simp only[GV,GY,Hi,t,if_true];exact p
 obtain⟨γ1,X,z,rfl⟩:=qu (T:= .nm 3) (F:=qi 2<|jU eB) (f:=zH qC (k8<|zc 0)<|zu<|.int 1)
  (λs γ'=>∃z,γ'=γ (.own<|N s) z .no .no .no .no) (m+1) ⋯ (γ:=γ (.own []) .no .no .no .no .no) (by simp[γ,wl,u]) ⟨.no,rfl⟩ (by
    rintro s o γ' ⟨z,rfl⟩;refine⟨γ (.own<|N s) (.val<|.int (s:Int)) .no .no .no .no,γ (.own<|N<|s+1) (.val<|.int (s:Int)) .no .no .no .no,rfl,?_,_,rfl⟩;have U:(N s).length<lim:=by simp[N];omega
    rw[xI,xX,one];show(if (N s).length<lim then _ else dj)=_;rw[RY U];show bQ (Fl.next<|γ (.own<|N s++[D.lst (KS<|jL bs (s:Int))]) _ _ _ _ _)=_;rw[<- kD s λ(r:Nat)=>D.lst (KS<|jL bs (r:Int))])
 have U:(N<|m+1).length=m+1:=by simp[N]
 have W : ∀{r:Nat},r<m+1->(N<|m+1)[r]? = bQ (D.lst<|KS<|jL bs (r:Int)):=λ{r} O=>by show((GH<|m+1).map _)[r]? = _;rw[Hd,Ic O];rfl
 have C : ∀{r:Nat},r<m+1->((hB (N<|m+1).length (r:Int)).bind λk=>(N<|m+1)[k]?).bind z7=bQ (.L,KS<|jL bs (r:Int)):=λ{r} O=>by rw[U,jq,RY O];show((N<|m+1)[r]?).bind z7=_;rw[W O];rfl
 obtain⟨Z,Y,j,a,d,rfl⟩:=qu (T:= .nm 5) (F:=lH) (f:=k8<|zc 0)
  (λs γ'=>∃j a d,γ'=γ (.val<|.lst<|N<|m+1) z (.own<|j7 s w (bW bs)<|bT w bs) j a d) m H (γ:=γ (.val<|.lst<|N<|m+1) z (.own []) .no .no .no) (by simp[γ,wl,u]) ⟨.no,.no,.no,rfl⟩ (by
    rintro s o γ' ⟨j,a,d,rfl⟩;have P:=kW (w:=w) S o;have Q:=wD (w:=w) o;have R:=wH (w:=w) o;let g:=γ (.val<|.lst<|N<|m+1) z (.own<|j7 s w (bW bs)<|bT w bs) (.val<|.int (s:Int)) (.val<|.int (zL w s:Nat))<|.val<|.int (zV w s:Nat);refine⟨γ (.val<|.lst<|N<|m+1) z (.own<|j7 s w (bW bs)<|bT w bs) (.val<|.int (s:Int)) a d,γ (.val<|.lst<|N<|m+1) z (.own<|j7 (s+1) w (bW bs)<|bT w bs) (.val<|.int (s:Int)) (.val<|.int (zL w s:Nat))<|.val<|.int (zV w s:Nat),rfl,?_,_,_,_,rfl⟩;unfold lH;refine zo (γ':=g) (by simp[g,γ,P]) ?_;have lt:(j7 s w (bW bs)<|bT w bs).length<lim:=by simp[j7];omega
    have p:zU (.nm 0) jj pZ [Cell.no,.val<|.lst<|N<|m+1,.val (.int (zL w s:Nat))] (KS<|jL bs (zV w s:Nat))=bQ ((jL bs (zV w s:Nat)).map λx=>D.lst<|(jL bs (zL w s:Nat)).map λy=>D.int<|if x=y then 1 else 0):=by
     unfold KS;refine zw _ _ λx hx=>zx (γ1:=[.val (.int (x:Int)),.val<|.lst<|N<|m+1,.val (.int (zL w s:Nat))]) rfl rfl ?_;unfold pZ;have l:zN (zA<|dn (zg 1)<|zc 2) [Cell.val (.int (x:Int)),.val<|.lst<|N<|m+1,.val (.int (zL w s:Nat))]=bQ (KS<|jL bs (zL w s:Nat)):=by show(((hB (N<|m+1).length ((zL w s:Nat):Int)).bind λk=>(N<|m+1)[k]?).bind z7).map (·.2)=_;rw[C R];rfl
     rw[xX,qA,l];simp only[GV,Xv,G,if_true];rw[show z6 1 [0] [Cell.val (.int (x:Int)),.val<|.lst<|N<|m+1,.val (.int (zL w s:Nat))]=[Cell.no,.val (.int (x:Int))]from rfl,px];rfl
    have M:rf g=bQ ((jL bs (zV w s:Nat)).map λx=>D.lst<|(jL bs (zL w s:Nat)).map λy=>D.int<|if x=y then 1 else 0):=by
     unfold rf;have l:zN (zA<|dn (zg 2)<|zc 7) g=bQ (KS<|jL bs (zV w s:Nat)):=by show(((hB (N<|m+1).length ((zV w s:Nat):Int)).bind λk=>(N<|m+1)[k]?).bind z7).map (·.2)=_;rw[C Q];rfl
     rw[qA,l];simp only[GV,Xv,G,if_true];exact p
    rw[xI,xX,M,nI h];show(if (j7 s w (bW bs)<|bT w bs).length<lim then _ else dj)=_;rw[RY lt];show bQ (Fl.next<|γ _ _ (.own<|j7 s w (bW bs) (bT w bs)++[D.lst (j8 (h8 w (bW bs) s) (h9 w (bW bs) s)<|bT w bs s)]) _ _ _)=_;unfold j7;rw[<- kD s λk=>D.lst (j8 (h8 w (bW bs) k) (h9 w (bW bs) k)<|bT w bs k)])
 rw[lG];refine jw<|zo (γ':=γ (.own []) .no .no .no .no .no) rfl<|zo X<|zo (γ':=γ (.val<|.lst<|N<|m+1) z (.own []) .no .no .no) rfl<|zo Y ?_;have J:zU (.nm 0) jj (xP<|zg 0) [Cell.no] (N<|m+1)=bQ (zB (m+1) λk=>(bW bs k:Int)):=by
  rw[zW];refine zw _ _ λr O=>zx (γ1:=[.val (D.lst<|KS<|jL bs (r:Int))]) rfl rfl ?_;have e:(jL bs (r:Int)).length=bW bs r:=by rw[Xm h];rfl
  show bQ (D.int ((KS<|jL bs (r:Int)).length:Int))=_;rw[Xv,e]
 have as:m+1<=lim:=by omega
 have l2:2<=lim:=by omega
 unfold rh;show jK _ (γ (.val<|.lst<|N<|m+1) z (.val<|.lst<|j7 m w (bW bs)<|bT w bs) j a d)=_;have v:zS (zN<|zg 2) (.nm 0) 1 [] jj (xP<|zg 0) (γ (.val<|.lst<|N<|m+1) z (.val<|.lst<|j7 m w (bW bs)<|bT w bs) j a d)=bQ (zB (m+1) λk=>(bW bs k:Int)):=by rw[qA,show zN (zg 2) (γ (.val<|.lst<|N<|m+1) z (.val<|.lst<|j7 m w (bW bs)<|bT w bs) j a d)=bQ (N<|m+1)from rfl];simp only[GV,U,as,if_true];exact J
 rw[Yt,eM,z9,xX,v];simp[γ,qp]
end
theorem Vx:zM=jf 6 (zP (xn 4<|qP zF)<|zP (yP (zN<|zA<|zc 1) (.nm 5)<|qi 4<|jU JN)<|JP 4):=rfl
theorem Zp{h w:Nat}{f g:RK}(e : ∀i j,i<h->j<w->f i j=g i j):j8 h w f=j8 h w g:=by unfold j8;refine Hk λi a=>?_;rw[kP λj z=>e i j (eY.mp a) z]
section
variable{p:Int}{h n w:Nat}{f g:RK}
theorem aL(L:0<p)(p7:p<=7)(S:h<=60)(Y:n<=60)(Z:w<=60)(J : ∀i k,i<h->k<n->0<=f i k/\f i k<p):zM [.int p,.lst<|j8 h n f,.lst<|j8 n w g,.int (w:Int)]=bQ (.own<|j8 h w λi j=>zk (λk=>f i k*g k j) n%p):=by
 have P:=jm;have U:n<=lim:=by omega
 have y:w<=lim:=by omega
 have G : ∀i j:Nat,i<h->j<w->aK [.val (.int (j:Int)),.val<|.int p,.val<|.lst<|j8 n w g,.val (.lst<|zB n<|f i)]=bQ (zB n λk=>f i k*g k j):=λi j u O=>by
  have l:zR (xP<|zg 3) [Cell.val (.int (j:Int)),.val<|.int p,.val<|.lst<|j8 n w g,.val (.lst<|zB n<|f i)]=bQ ((GH n).map λ(k:Nat)=>D.int (k:Int)):=by have r:inR (n:Int)=di:=ve U;simp[r,jy];rw[zW]
  unfold aK;rw[qA,l];simp only[GV,GY,Hi,U,if_true];rw[show z6 1 [0,2,3] [Cell.val (.int (j:Int)),.val<|.int p,.val<|.lst<|j8 n w g,.val (.lst<|zB n<|f i)]=[Cell.no,.val<|.int (j:Int),.val<|.lst<|j8 n w g,.val (.lst<|zB n<|f i)]from rfl,zW];refine zw _ _ λk z=>zx (γ1:=[.val (.int (k:Int)),.val<|.int (j:Int),.val<|.lst<|j8 n w g,.val (.lst<|zB n<|f i)]) rfl rfl ?_;have z:=eY.mp z;have C:dn (zg 3) (zc 0) [Cell.val (.int (k:Int)),.val<|.int (j:Int),.val<|.lst<|j8 n w g,.val (.lst<|zB n<|f i)]=bQ (.int<|f i k):=by show((hB (zB n<|f i).length (k:Int)).bind λx=>(zB n<|f i)[x]?)=_;rw[vK,jq,RY z];exact xU _ z
  have E:dn (zA<|dn (zg 2)<|zc 0) (zc 1) [Cell.val (.int (k:Int)),.val<|.int (j:Int),.val<|.lst<|j8 n w g,.val (.lst<|zB n<|f i)]=bQ (.int<|g k j):=by
   show((((hB (j8 n w g).length (k:Int)).bind λx=>(j8 n w g)[x]?).bind z7).bind λa=>((bQ (D.int (j:Int))).bind lp).bind λi=>(hB a.2.length i).bind λx=>a.2[x]?)=_;have e:(j8 n w g)[k]? = bQ (D.lst<|zB w<|g k):=by unfold j8;rw[Hd,Ic z];rfl
   rw[Xz,jq,RY z];show((((j8 n w g)[k]?).bind z7).bind _)=_;rw[e];show((hB (zB w<|g k).length (j:Int)).bind λx=>(zB w<|g k)[x]?)=_;rw[vK,jq,RY O];exact xU _ O
  have b:=J i k u z;have c:QN (f i k) (g k j)=di:=yW _ _ ⋯ ⋯;rw[JB,C,E];simp[c]
 have row : ∀i:Nat,i<h->∀I,JN [.val (.int p),.val<|.lst<|j8 h n f,.val<|.lst<|j8 n w g,.val<|.int (w:Int),I,.val (.lst<|zB n<|f i)]=bQ (zB w λj=>zk (λk=>f i k*g k j) n%p):=λi u I=>by
  have l:zR (zc 3) [.val (.int p),.val<|.lst<|j8 h n f,.val<|.lst<|j8 n w g,.val<|.int (w:Int),I,.val (.lst<|zB n<|f i)]=bQ ((GH w).map λ(k:Nat)=>D.int (k:Int)):=by have r:inR (w:Int)=di:=ve y;simp[r,jy];rw[zW]
  unfold JN;rw[qA,l];simp only[GV,GY,Hi,y,if_true];rw[show z6 1 [0,2,5] [Cell.val (.int p),.val<|.lst<|j8 h n f,.val<|.lst<|j8 n w g,.val<|.int (w:Int),I,.val (.lst<|zB n<|f i)]=[Cell.no,.val<|.int p,.val<|.lst<|j8 n w g,.val (.lst<|zB n<|f i)]from rfl,zW];refine zw _ _ λj O=>zx (γ1:=[.val (.int (j:Int)),.val<|.int p,.val<|.lst<|j8 n w g,.val (.lst<|zB n<|f i)]) rfl rfl ?_;have e:=G i j u<|eY.mp O;rw[JB,mQ,wI,e];simp[vo,L]
 let m:Cell->Cell->Ctx:=λI o=>[.val (.int p),.val<|.lst<|j8 h n f,.val<|.lst<|j8 n w g,.val<|.int (w:Int),I,o];obtain⟨γ1,e,o,rfl⟩:=yt (T:= .nm 5) (F:=qi 4<|jU JN) (λs γ'=>∃o,γ'=m (.own<|(GH s).map λi=>D.lst<|zB w λj=>zk (λk=>f i k*g k j) n%p) o) (j8 h n f) 0 (m (.own []) .no) ⟨.no,rfl⟩ (by
  rintro s d γ' t ⟨o,rfl⟩;rw[IE]at *;obtain⟨H,rfl⟩:s<h/\d=D.lst (zB n<|f s):=by unfold j8 at t;rw[Hd]at t;obtain⟨Q,M,N⟩:=MS.mp t;obtain⟨A,B⟩:=GU.mp M;rw[Hi]at A;rw[List.getElem_range]at B;subst B;exact⟨A,N.symm⟩
  refine⟨m (.own<|(GH<|s+1).map λi=>D.lst<|zB w λj=>zk (λk=>f i k*g k j) n%p)<|.val<|.lst<|zB n<|f s,.inl ?_,_,rfl⟩;show qi 4 (jU JN) (m (.own<|(GH s).map λi=>D.lst<|zB w λj=>zk (λk=>f i k*g k j) n%p)<|.val<|.lst<|zB n<|f s)=_;have K:((GH s).map λi=>D.lst<|zB w λj=>zk (λk=>f i k*g k j) n%p).length<lim:=by simp;omega
  rw[xI,xX,row s H];show(if _<lim then _ else dj)=_;rw[RY K,kD s λi=>D.lst (zB w λj=>zk (λk=>f i k*g k j) n%p)];rfl)
 rw[Vx];refine jw<|zo (γ':=m (.own []) .no) rfl<|zo (γ':=m (.own<|j8 h w λi j=>zk (λk=>f i k*g k j) n%p) o) ?_ rfl;rw[JA,show zN (zA<|zc 1) (m (.own []) .no)=bQ (j8 h n f)from rfl];rw[IE,Xz]at e;exact e
end
noncomputable def BB(h n:Nat)(f:RK)(X:D):Prop:=∃(a:Sk) (r:Nat->D),z7 X=bQ (a,(GH h).map r)/\∀i,i<h->∃z,z7 (r i)=bQ (z,zB n<|f i)
theorem cK(h n:Nat)(f:RK):BB h n f (.lst<|j8 h n f):=⟨.L,λi=>D.lst<|zB n<|f i,rfl,λi _=>⟨.L,rfl⟩⟩
theorem wz(h n:Nat)(f:RK):BB h n f (.tup<|zX h n f):=⟨.T,λi=>D.tup<|zB n<|f i,rfl,λi _=>⟨.T,rfl⟩⟩
section
variable{p:Int}{h n w:Nat}{f g:RK}{X Y:D}
theorem Zl(p0:0<p)(p7:p<=7)(hh:h<=60)(hn:n<=60)(hw:w<=60)(S:BB h n f X)(Z:BB n w g Y)(L : ∀i k,i<h->k<n->0<=f i k/\f i k<p):zM [.int p,X,Y,.int (w:Int)]=bQ (.own<|j8 h w λi j=>zk (λk=>f i k*g k j) n%p):=by
 have hl:=jm;have u:n<=lim:=by omega
 have y:w<=lim:=by omega
 obtain⟨κ,r,M,Q⟩:=S;obtain⟨Sw,r',N,J⟩:=Z;have K : ∀i j:Nat,i<h->j<w->aK [.val (.int (j:Int)),.val<|.int p,.val Y,.val (r i)]=bQ (zB n λk=>f i k*g k j):=λi j t U=>by
  obtain⟨Sx,A⟩:=Q i t;have l:zR (xP<|zg 3) [Cell.val (.int (j:Int)),.val<|.int p,.val Y,.val (r i)]=bQ ((GH n).map λ(k:Nat)=>D.int (k:Int)):=by have z:inR (n:Int)=di:=ve u;simp[A,z,jy];rw[zW]
  unfold aK;rw[qA,l];simp only[GV,GY,Hi,u,if_true];rw[show z6 1 [0,2,3] [Cell.val (.int (j:Int)),.val<|.int p,.val Y,.val (r i)]=[Cell.no,.val<|.int (j:Int),.val Y,.val (r i)]from rfl,zW];refine zw _ _ λk I=>zx (γ1:=[.val (.int (k:Int)),.val<|.int (j:Int),.val Y,.val (r i)]) rfl rfl ?_;have I:=eY.mp I;obtain⟨Sy,P⟩:=J k I;have G:dn (zg 3) (zc 0) [Cell.val (.int (k:Int)),.val<|.int (j:Int),.val Y,.val (r i)]=bQ (.int<|f i k):=by show((z7<|r i).bind λa=>(hB a.2.length (k:Int)).bind λx=>a.2[x]?)=_;rw[A];show((hB (zB n<|f i).length (k:Int)).bind λx=>(zB n<|f i)[x]?)=_;rw[vK,jq,RY I];exact xU _ I
  have H:dn (zA<|dn (zg 2)<|zc 0) (zc 1) [Cell.val (.int (k:Int)),.val<|.int (j:Int),.val Y,.val (r i)]=bQ (.int<|g k j):=by show((((z7 Y).bind λa=>(hB a.2.length (k:Int)).bind λx=>a.2[x]?).bind z7).bind λa=>((bQ (D.int (j:Int))).bind lp).bind λi=>(hB a.2.length i).bind λx=>a.2[x]?)=_;rw[N];show(((hB ((GH n).map r').length (k:Int)).bind λx=>((GH n).map r')[x]?).bind z7).bind _=_;rw[GY,Hi,jq,RY I];show((((GH n).map r')[k]?).bind z7).bind _=_;rw[Hd,Ic I];show(z7<|r' k).bind _=_;rw[P];show((hB (zB w<|g k).length (j:Int)).bind λx=>(zB w<|g k)[x]?)=_;rw[vK,jq,RY U];exact xU _ U
  have b:=L i k t I;have c:QN (f i k) (g k j)=di:=yW _ _ ⋯ ⋯;rw[JB,G,H];simp[c]
 have row : ∀i:Nat,i<h->∀O,JN [.val (.int p),.val X,.val Y,.val<|.int (w:Int),O,.val (r i)]=bQ (zB w λj=>zk (λk=>f i k*g k j) n%p):=λi t O=>by
  have l:zR (zc 3) [.val (.int p),.val X,.val Y,.val<|.int (w:Int),O,.val (r i)]=bQ ((GH w).map λ(k:Nat)=>D.int (k:Int)):=by have z:inR (w:Int)=di:=ve y;simp[z,jy];rw[zW]
  unfold JN;rw[qA,l];simp only[GV,GY,Hi,y,if_true];rw[show z6 1 [0,2,5] [Cell.val (.int p),.val X,.val Y,.val<|.int (w:Int),O,.val (r i)]=[Cell.no,.val<|.int p,.val Y,.val (r i)]from rfl,zW];refine zw _ _ λj U=>zx (γ1:=[.val (.int (j:Int)),.val<|.int p,.val Y,.val (r i)]) rfl rfl ?_;have e:=K i j t<|eY.mp U;rw[JB,mQ,wI,e];simp[vo,p0]
 let m:Cell->Cell->Ctx:=λO o=>[.val (.int p),.val X,.val Y,.val<|.int (w:Int),O,o];obtain⟨γ1,e,o,rfl⟩:=yt (T:= .nm 5) (F:=qi 4<|jU JN) (λs γ'=>∃o,γ'=m (.own<|(GH s).map λi=>D.lst<|zB w λj=>zk (λk=>f i k*g k j) n%p) o) ((GH h).map r) 0 (m (.own []) .no) ⟨.no,rfl⟩ (by
  rintro s d γ' B ⟨o,rfl⟩;rw[IE]at *;obtain⟨R,rfl⟩:s<h/\d=r s:=by rw[Hd]at B;obtain⟨k',q1,q2⟩:=MS.mp B;obtain⟨C,E⟩:=GU.mp q1;rw[Hi]at C;rw[List.getElem_range]at E;subst E;exact⟨C,q2.symm⟩
  refine⟨m (.own<|(GH<|s+1).map λi=>D.lst<|zB w λj=>zk (λk=>f i k*g k j) n%p)<|.val<|r s,.inl ?_,_,rfl⟩;show qi 4 (jU JN) (m (.own<|(GH s).map λi=>D.lst<|zB w λj=>zk (λk=>f i k*g k j) n%p)<|.val<|r s)=_;have W:((GH s).map λi=>D.lst<|zB w λj=>zk (λk=>f i k*g k j) n%p).length<lim:=by simp;omega
  rw[xI,xX,row s R];show(if _<lim then _ else dj)=_;rw[RY W,kD s λi=>D.lst (zB w λj=>zk (λk=>f i k*g k j) n%p)];rfl)
 rw[Vx];refine jw<|zo (γ':=m (.own []) .no) rfl<|zo (γ':=m (.own<|j8 h w λi j=>zk (λk=>f i k*g k j) n%p) o) ?_ rfl;rw[JA,show zN (zA<|zc 1) (m (.own []) .no)=bQ ((GH h).map r)by
  show(z7 X).map (·.2)=_;rw[M];rfl]
 rw[IE,GY,Hi]at e;exact e
end
noncomputable def mM(p:Int)(n:Nat)(f g:RK):Nat->Nat->Int:=λi j=>zk (λk=>f i k*g k j) n%p
section
variable{p:Int}{n:Nat}{f f' g g':RK}{i j:Nat}
theorem kK(p:Int)(n w:Nat)(a b c:RK)(i j:Nat):mM p n a (mM p w b c) i j=mM p w (mM p n a b) c i j:=Ke p a b c n w i j
theorem xy(C : ∀k,k<n->f i k=f' i k)(I : ∀k,k<n->g k j=g' k j):mM p n f g i j=mM p n f' g' i j:=by unfold mM;rw[zy λk z=>by rw[C k z,I k z]]
theorem pq(z:0<p)(n:Nat)(f g:RK)(i j:Nat):0<=mM p n f g i j/\mM p n f g i j<p:=⟨Hw _ ⋯,Hh _ z⟩
theorem cL(z:j<n)(f:RK)(i:Nat):mM p n f g9 i j=f i j%p:=by unfold mM;rw[zQ (i:=j) z λk _ I=>by unfold g9;rw[EQ I];simp];simp[g9]
theorem Xy(two:2<=p)(u:ZD p n f g)(C:i<n)(z:j<n):mM p n f g i j=g9 i j:=by have:=u i j C z;unfold mM;rw[this];unfold g9;split<;>first | exact HE ⋯ ⋯ | rfl
theorem fQ(p:Int)(w:RX)(wd:RZ)(f g T:RV)(k i j:Nat):kB p w wd f g T k i j=mM p (wd<|zL w k) (mM p (wd<|zV w k) (f<|zV w k)<|T k) (g<|zL w k) i j:=by unfold kB mM;congr 2;funext b;rw[Ib];congr 3;funext a;exact Ib _ _
theorem KD(two:2<=p){z I:Nat}{S J O L Y C B T1 T2:RK}(u1:ZD p z J S)(u2:ZD p I Y L)(b2 : ∀i k,i<z->k<z->0<=O i k/\O i k<p)(e1 : ∀i j,i<z->j<I->T1 i j=mM p I (mM p z S B) C i j)(e2 : ∀i j,i<z->j<I->T2 i j=mM p I (mM p z O B) Y i j)(Z:i<z)(hj:j<I) :
 mM p z (mM p z O J) T1 i j=mM p I T2 (mM p I L C) i j:=by
 have d:0<p:=by omega
 have l:mM p z (mM p z O J) T1 i j=mM p I (mM p z O B) C i j:=by rw[xy (f':=mM p z O J) (g':=mM p I (mM p z S B) C) (λ_ _=>rfl) (λk U=>e1 k j U hj),kK];refine xy (λc a=>?_) λ_ _=>rfl;rw[kK];refine xy (λk U=>?_) λ_ _=>rfl;rw[<- kK,xy (f':=O) (g':=g9) (λ_ _=>rfl)<|λx b=>Xy two u1 b U,cL U,HE (b2 i k Z U).1 (b2 i k Z U).2]
 have r:mM p I T2 (mM p I L C) i j=mM p I (mM p z O B) C i j:=by rw[xy (f':=mM p I (mM p z O B) Y) (g':=mM p I L C) (λk U=>e2 i k Z U) (λ_ _=>rfl),kK];refine xy (λc a=>?_) λ_ _=>rfl;rw[<- kK,xy (f':=mM p z O B) (g':=g9) (λ_ _=>rfl)<|λx b=>Xy two u2 b a,cL a];have:=pq d z O B i c;exact HE this.1 this.2
 rw[l,r]
theorem ZG(two:2<=p){O S C J:RK}(u1:ZD p n S O)(u2:ZD p n C J)(b2 : ∀i k,i<n->k<n->0<=C i k/\C i k<p)(L:i<n)(I:j<n):mM p n (mM p n C S) (mM p n O J) i j=g9 i j:=by
 rw[kK,xy (f':=C) (g':=J) (λk z=>?_) λ_ _=>rfl]
 ·exact Xy two u2 L I
 ·rw[<- kK,xy (f':=C) (g':=g9) (λ_ _=>rfl)<|λx a=>Xy two u1 a z,cL z,HE (b2 i k L z).1 (b2 i k L z).2]
end
noncomputable def nz:CO D:=jU<|zS (zR<|dn (zg 1)<|zc 2) (.nm 0) 1 [0] jj (JQ<|zH ix (zc 1)<|zc 0)
noncomputable def sd:=jD 5<|jU<|zS (zR<|dn (zg 1)<|zc 4) (.nm 0) 1 [1,4] jj nz
noncomputable def nB:CO D:=jU<|jl zM<|zb (zc 0)<|zb (dn (zA<|dn (zg 2)<|zc 4)<|zu<|.int 2)<|zb (dn (zA<|dn (zg 3)<|zc 4)<|zu<|.int 2)<|zb (dn (zg 1)<|zc 4) zF
noncomputable def nA:CO D:=jU<|jl zM<|zb (zc 0)<|zb (dn (zA<|dn (zg 3)<|zc 4)<|zu<|.int 2)<|zb (dn (zA<|dn (zg 2)<|zc 4)<|zu<|.int 2)<|zb (dn (zg 1)<|zc 4) zF
noncomputable def fN:=zP sd<|zP (h6 (sB<|zH hL nB<|zc 5) (jK<|zu<|.bl ed) jT)<|h6 (sB<|zH hL nA<|zc 5) (jK<|zu<|.bl ed) jT
noncomputable def qT:=jf 6<|zP (yP (zR<|xP<|zg 1) (.nm 4) fN)<|jK<|zu<|.bl di
noncomputable def uz:=jD 9<|jU<|jl zM<|zb (zc 0)<|zb (dn (zA<|dn (zg 4)<|zc 7)<|zu<|.int 2)<|zb (dn (zA<|dn (zg 2)<|zu<|.int 1)<|zc 5)<|zb (zc 8) zF
noncomputable def oV:CO D:=jU<|jl zM<|zb (zc 0)<|zb (dn (zA<|dn (zg 3)<|zu<|.int 1)<|zc 5)<|zb (dn (zA<|dn (zg 4)<|zc 6)<|zu<|.int 2)<|zb (zc 8) zF
noncomputable def hV:=zP (w6 (.tp [6,7])<|zE qv<|zb (zc 1)<|zb (zc 5) zF)<|zP (jD 8<|dn (zA<|dn (zg 2)<|zu<|.int 0)<|zc 6)<|zP uz<|h6 (sB<|zH hL (zc 9) oV) (jK<|zu<|.bl ed) jT
noncomputable def qt:=jf 10<|zP (yP (zR<|k8<|zc 1) (.nm 5) hV)<|jK<|zu<|.bl di
noncomputable def jG:=jf 5 (zP (h6 (wN (jY (sB (m8 .tuple (zc 0)))) (wN (sB (zH hL (xP (zg 0)) (zu (.int 3)))) (sB (zH hL (dn (zg 0) (zu (.int 0))) (zu (.str "alike")))))) (jK (zu (.bl ed))) jT) (zP (h6 (wN (jY (sB (zE js (zb (dn (zg 0) (zu (.int 1))) (zb (zc 1) (zb (dn (zg 4) (zu (.int 0))) (zb (dn (zg 3) (zu (.int 0))) zF))))))) (jY (sB (zE js (zb (dn (zg 0) (zu (.int 2))) (zb (zc 1) (zb (dn (zg 3) (zu (.int 0))) (zb (dn (zg 4) (zu (.int 0))) zF)))))))) (jK (zu (.bl ed))) jT) (zP (h6 (wN (jY (sB (zE qt (zb (zc 1) (zb (zc 2) (zb (zc 3) (zb (zc 4) (zb (dn (zg 0) (zu (.int 1))) zF)))))))) (jY (sB (zE qt (zb (zc 1) (zb (zc 2) (zb (zc 4) (zb (zc 3) (zb (dn (zg 0) (zu (.int 2))) zF))))))))) (jK (zu (.bl ed))) jT) (jK (zE qT (zb (zc 1) (zb (dn (zg 3) (zu (.int 0))) (zb (dn (zg 0) (zu (.int 1))) (zb (dn (zg 0) (zu (.int 2))) zF)))))))))
noncomputable def qD:=jf 3<|yZ<|zS (YB (zc 1)<|zc 2) (.tp [0,1]) 2 [0] jj (zE xJ<|zb (zc 2)<|zb (zc 0)<|zb (zc 1) zF)
noncomputable def k5:=jf 4<|jK<|zH hL (zE vj<|zb (zc 0)<|zb (zc 1)<|zb (zc 3) zF)<|zE vj<|zb (zc 0)<|zb (zc 2)<|zb (zc 3) zF
noncomputable def fm:=jf 6 (zP (jD 3 (jU (jl yY (zb (zH qC (k8 (zc 0)) (zu (.int 1))) zF)))) (zP (jD 4 (dn (jP (zS (zN (zg 3)) (.nm 0) 1 [1,2] (sB (zH hL (ZS (zg 1) (zc 0)) (ZS (zg 2) (zc 0)))) (zc 0))) (zu (.int 0)))) (zP (jD 5 (dn (jP (zS (zN (zg 3)) (.nm 0) 1 [0,1,2] (sB (zE k5 (zb (zc 1) (zb (zc 2) (zb (zc 3) (zb (zc 0) zF)))))) (zc 0))) (zu (.int 0)))) (jK (qM (zb (zu (.str "apart")) (zb (zc 4) (zb (ZS (zg 1) (zc 4)) (zb (ZS (zg 2) (zc 4)) (zb (zc 5) zF))))))))))
noncomputable def yC:=jf 6 (zP (sR (zE xk (zb (zc 0) (zb (zc 1) zF)))) (zP (jD 2 (zE xZ (zb (zc 0) zF))) (zP (jD 3 (zE xZ (zb (zc 1) zF))) (zP (h6 (sB (zH hL (dn (zg 2) (zu (.int 0))) (dn (zg 3) (zu (.int 0))))) (jK (zE fm (zb (zE ky (zb (zc 0) zF)) (zb (dn (zg 2) (zu (.int 0))) (zb (dn (zg 3) (zu (.int 0))) zF))))) jT) (zP (jD 4 (jU (jl qD (zb (dn (zg 0) (zu (.int 0))) (zb (dn (zg 3) (zu (.int 2))) (zb (dn (zg 2) (zu (.int 1))) zF)))))) (zP (jD 5 (jU (jl qD (zb (dn (zg 0) (zu (.int 0))) (zb (dn (zg 2) (zu (.int 2))) (zb (dn (zg 3) (zu (.int 1))) zF)))))) (jK (qM (zb (zu (.str "alike")) (zb (zc 4) (zb (zc 5) zF)))))))))))
noncomputable def aF:=h6 (jY<|sB<|zE jG<|zb (zE yC<|zb (zc 10)<|zb (zc 12) zF)<|zb (zc 2)<|zb (zc 4)<|zb (zc 9)<|zb (zc 11) zF) (jK<|zu<|.bl ed) jT
noncomputable def aE:=yP (zN<|zA<|zc 8) (.tp [11,12]) aF
noncomputable def ny:=jD 1<|zE jr<|zb (zc 0)<|zb (zu<|.int 0) zF
noncomputable def nv:=jD 2<|dn (jP<|qP<|zb (zu<|.int 2)<|zb (zu<|.int 3)<|zb (zu<|.int 5)<|zb (zu<|.int 7) zF)<|zH ya (zc 1)<|zu<|.int 4
noncomputable def nu:=jD 3<|zH qC (zu<|.int 1)<|zH ya (zH X3 (zc 1)<|zu<|.int 4)<|zu<|.int 5
noncomputable def nt:=jD 4<|zE xj<|zb (zH X3 (zc 1)<|zu<|.int 20)<|zb (zc 3) zF
noncomputable def nq:=jD 5<|jU<|jl qU<|zb (zc 0)<|zb (zu<|.int 1)<|zb (zH ya (zH X3 (zc 1)<|zu<|.int 1000)<|zu<|.int 6)<|zb (zc 3) zF
noncomputable def nj:=jD 6<|zE qr<|zb (zc 0)<|zb (zu<|.int 8)<|zb (zc 2)<|zb (zc 4)<|zb (zc 5) zF
noncomputable def ni:=jD 7<|zE qr<|zb (zc 0)<|zb (zu<|.int 70)<|zb (zc 2)<|zb (zc 4)<|zb (zc 5) zF
noncomputable def ng:=jD 8<|jU<|qP<|zb (qM<|zb (zc 6)<|zb (zE qV<|zb (zc 2)<|zb (zc 4)<|zb (zc 6) zF) zF)<|zb (qM<|zb (zc 7)<|zb (zE qV<|zb (zc 2)<|zb (zc 4)<|zb (zc 7) zF) zF) zF
noncomputable def fJ:=yP (zN<|zA<|zc 8) (.tp [9,10]) aE
noncomputable def lT:=jK<|zu<|.bl di
noncomputable def JG:=jf 13<|zP ny<|zP nv<|zP nu<|zP nt<|zP nq<|zP nj<|zP ni<|zP ng<|zP fJ lT
section
variable{p:Int}{m:Nat}{w:RX}{wd:RZ}{f g T1 T2 F1 G1 F2 G2:RV}{bs:List (Int×Int)}
theorem fD(n:Nat)(f g:Nat->D):JK ((GH n).map f) ((GH n).map g)=(GH n).map λi=>D.tup [f i,g i]:=by unfold JK;rw[Mn,HD];rfl
theorem bz(I:0<p)(J:p<=7)(C:m<=60)(O : ∀k,wd k<=60)(U : ∀k i j,k<m->i<wd k->j<wd k->0<=g k i j/\g k i j<p):qD [.int p,.lst<|jg m wd f,.lst (jg m wd g)]=bQ (.own<|jg m wd λk=>mM p (wd k) (f k)<|g k):=by
 have s:=jm;have b:m<=lim:=by omega
 have n:zU (.tp [0,1]) jj (zE xJ<|zb (zc 2)<|zb (zc 0)<|zb (zc 1) zF) [Cell.no,.no,.val (.int p)] ((GH m).map λk=>D.tup [qk (wd k) (wd k) (f k),qk (wd k) (wd k) (g k)])=bQ (jg m wd λk=>mM p (wd k) (f k)<|g k):=by
  unfold jg;refine zw _ _ λk z=>zx (γ1:=[.val (qk (wd k) (wd k)<|f k),.val<|qk (wd k) (wd k)<|g k,.val (.int p)]) rfl rfl ?_;have z:=eY.mp z;have t:=O k;have e:=Yv (p:=p) (h:=wd k) (m:=wd k) (w:=wd k) (f k) (g k) I ⋯ ⋯ ⋯ (λi j o r=>by have:=U k i j z o r;omega);have l:(qk (wd k) (wd k) λi j=>zk (λx=>g k x j*f k i x) (wd k)%p)=qk (wd k) (wd k) (mM p (wd k) (f k)<|g k):=by congr 1;funext i j;unfold mM;rw[zy λx _=>Ib _ _]
  rw[l]at e;simp[e]
 unfold qD;refine jw ?_;show yZ _ [Cell.val (.int p),.val<|.lst<|jg m wd f,.val (.lst<|jg m wd g)]=_;have a:YB (zc 1) (zc 2) [Cell.val (.int p),.val<|.lst<|jg m wd f,.val (.lst<|jg m wd g)]=bQ ((GH m).map λk=>D.tup [qk (wd k) (wd k) (f k),qk (wd k) (wd k) (g k)]):=by show bQ (JK (jg m wd f)<|jg m wd g)=_;unfold jg;rw[fD]
 rw[show yZ (zS (YB (zc 1)<|zc 2) (.tp [0,1]) 2 [0] jj (zE xJ<|zb (zc 2)<|zb (zc 0)<|zb (zc 1) zF)) [Cell.val (.int p),.val<|.lst<|jg m wd f,.val (.lst<|jg m wd g)]=(zS (YB (zc 1)<|zc 2) (.tp [0,1]) 2 [0] jj (zE xJ<|zb (zc 2)<|zb (zc 0)<|zb (zc 1) zF) [Cell.val (.int p),.val<|.lst<|jg m wd f,.val (.lst<|jg m wd g)]).map (λd=>Fl.ret<|.own d)from rfl,qA,a];simp only[GV,GY,Hi,b,if_true];rw[show z6 2 [0] [Cell.val (.int p),.val<|.lst<|jg m wd f,.val (.lst<|jg m wd g)]=[Cell.no,.no,.val (.int p)]from rfl,n];rfl
theorem rF(L:0<p)(S:p<=7)(Y:m<=50)(J : ∀k,wd k<=60)(b1 : ∀k i j,k<m+1->i<wd k->j<wd k->0<=G1 k i j/\G1 k i j<p)(b2 : ∀k i j,k<m+1->i<wd k->j<wd k->0<=G2 k i j/\G2 k i j<p)
 (C:xZ [qW p m w wd T1]=bQ (.val<|J7 bs (JO m wd G1)<|JO m wd F1)) (U:xZ [qW p m w wd T2]=bQ (.val<|J7 bs (JO m wd G2)<|JO m wd F2)) :
 yC [qW p m w wd T1,qW p m w wd T2]=bQ (.val (.tup [.str "alike",.lst (jg (m+1) wd λk=>mM p (wd k) (F2 k) (G1 k)),.lst (jg (m+1) wd λk=>mM p (wd k) (F1 k) (G2 k))])):=by
 have n:=jm;have b:=(eE (p:=p) (w:=w) (wd:=wd) (T:=T1) (wd':=wd) (T':=T2)<|show m<=900 by omega).2;have h:=bz (f:=F2) (g:=G1) L S (show m+1<=60 by omega) J b1;have l:=bz (f:=F1) (g:=G2) L S (show m+1<=60 by omega) J b2;unfold J7 at C U;rw[Xa,Xa]at C U;have a:=Xg (p:=p) (m:=m) (w:=w) (wd:=wd) (T:=T1);generalize qW p m w wd T1=O at *;generalize qW p m w wd T2=R2 at *;have e:hL (.lst<|jE bs) (.lst<|jE bs)=bQ (.bl ed):=xV<|WW bs;have d:3<=lim:=by omega
 unfold yC;let z:D:= .tup [.lst (jE bs),.lst<|jg (m+1) wd G1,.lst (jg (m+1) wd F1)];let I:D:= .tup [.lst (jE bs),.lst<|jg (m+1) wd G2,.lst (jg (m+1) wd F2)];refine jw<|zo (γ':=[.val O,.val R2,.no,.no,.no,.no]) (by simp[ja,b])<|zo (γ':=[.val O,.val R2,.val z,.no,.no,.no]) (by simp[C,z])<|zo (γ':=[.val O,.val R2,.val z,.val I,.no,.no]) (by simp[U,I])<|zo (γ':=[.val O,.val R2,.val z,.val I,.no,.no]) (by simp[z,I,hB,e])<|zo (γ':=[.val O,.val R2,.val z,.val I,.val<|.lst<|jg (m+1) wd λk=>mM p (wd k) (F2 k)<|G1 k,.no]) (by simp[z,I,hB,a,h])<|zo (γ':=[.val O,.val R2,.val z,.val I,.val<|.lst<|jg (m+1) wd λk=>mM p (wd k) (F2 k)<|G1 k,.val (.lst<|jg (m+1) wd λk=>mM p (wd k) (F1 k)<|G2 k)]) (by simp[z,I,hB,a,l]) ?_;simp[d]
end
theorem dB{n i:Nat}(h:i<n)(f:Nat->Int):(zB n f)[i]? = bQ (.int<|f i):=by unfold zB;simp[h]
theorem W6{p:Int}{h w:Nat}(J:h<=100)(L:w<=100){f:RK}(C : ∀i j,0<=f i j/\f i j<p):j5 [qk h w f,.int p,.int (h:Int),.int (w:Int)]=bQ (.val<|.bl di):=by
 have G:=jm;have k:w<=lim:=by omega
 have I:=nH h w f;have O:hB 3 0=bQ 0:=rfl;have U:hB 3 1=bQ 1:=rfl;have b:hB 3 2=bQ 2:=rfl;have y:=vi (h:Int);have A:=vi (w:Int);have l:az Ty.tuple (qk h w f)=di:=rfl;have m:az Ty.tuple (.tup<|zX h w f)=di:=rfl;have r:hL (.int ((3:Nat):Int)) (.int 3)=bQ (.bl ed):=rfl;have s:hL (.int (h:Int)) (.int (h:Int))=bQ (.bl ed):=xV rfl;have g:hL (.int (w:Int)) (.int (w:Int))=bQ (.bl ed):=xV rfl;have t:(h6 (wN (jY<|sB<|m8 .tuple<|zc 0)<|wN (sB<|zH hL (xP<|zg 0)<|zu<|.int 3)<|wN (jY<|sB<|zE jB<|zb (dn (zg 0)<|zu<|.int 0) zF)<|jY<|sB<|zE jB<|zb (dn (zg 0)<|zu<|.int 1) zF) (jK<|zu<|.bl ed) jT) (ja 5 [qk h w f,.int p,.int (h:Int),.int (w:Int)])=bQ (.next [.val (qk h w f),.val<|.int p,.val<|.int (h:Int),.val<|.int (w:Int),.no]):=by show h6 _ _ _ [.val (qk h w f),.val<|.int p,.val<|.int (h:Int),.val<|.int (w:Int),.no]=_;simp[I,l,O,U,y,A,r]
 have u:(h6 (wN (sB<|zH hL (dn (zg 0)<|zu<|.int 0)<|zc 2)<|wN (sB<|zH hL (dn (zg 0)<|zu<|.int 1)<|zc 3)<|wN (jY<|sB<|m8 .tuple<|dn (zg 0)<|zu<|.int 2)<|sB<|zH hL (xP<|zA<|dn (zg 0)<|zu<|.int 2)<|zc 2) (jK<|zu<|.bl ed) jT) [.val (qk h w f),.val<|.int p,.val<|.int (h:Int),.val<|.int (w:Int),.no]=bQ (.next [.val (qk h w f),.val<|.int p,.val<|.int (h:Int),.val<|.int (w:Int),.no]):=by simp[I,m,O,U,b,s,g,yL,QL]
 have ln : ∀i,zU (.nm 0) jj (aw (zE jB<|zb (zc 0) zF)<|kf o6 t7 (zu<|.int 0) (zc 0)<|zc 1) [Cell.no,.val (.int p)] (zB w<|f i)=bQ ((GH w).map λ_=>D.bl di):=λi=>by rw[zW];refine zw _ _ λj E=>zx rfl rfl ?_;have B:=vi<|f i j;have:=C i j;show aw _ _ [Cell.val (.int<|f i j),.val (.int p)]=_;simp[B,this.1,this.2]
 obtain⟨γ',q,z,e⟩:=yt (T:= .nm 4) (F:=(zP (h6 (wN (jY<|sB<|m8 .tuple<|zc 4)<|sB<|zH hL (xP<|zg 4)<|zc 3) (jK<|zu<|.bl ed) jT)<|h6 (jY<|sB<|fw<|jP<|zS (zN<|zg 4) (.nm 0) 1 [1] jj (aw (zE jB<|zb (zc 0) zF)<|kf o6 t7 (zu<|.int 0) (zc 0)<|zc 1)) (jK<|zu<|.bl ed) jT)) (λ_ γ=>∃z,γ=[.val (qk h w f),.val<|.int p,.val<|.int (h:Int),.val<|.int (w:Int),z]) (zX h w f) 0 [.val (qk h w f),.val<|.int p,.val<|.int (h:Int),.val<|.int (w:Int),.no] ⟨_,rfl⟩ (by
  rintro i d γ a ⟨z,rfl⟩;have o:i<h:=by have:=(GU.mp a).1;rwa [QL]at this
  rw[dE o]at a;cases a;refine⟨[.val (qk h w f),.val<|.int p,.val<|.int (h:Int),.val<|.int (w:Int),.val (.tup<|zB w<|f i)],.inl ?_,_,rfl⟩;have ty:az Ty.tuple (.tup<|zB w<|f i)=di:=rfl;refine zo (F:=(h6 (wN (jY<|sB<|m8 .tuple<|zc 4)<|sB<|zH hL (xP<|zg 4)<|zc 3) (jK<|zu<|.bl ed) jT)) (γ:=[.val (qk h w f),.val<|.int p,.val<|.int (h:Int),.val<|.int (w:Int),.val (.tup<|zB w<|f i)]) (γ':=[.val (qk h w f),.val<|.int p,.val<|.int (h:Int),.val<|.int (w:Int),.val (.tup<|zB w<|f i)]) ?_ ?_
  ·simp[ty,yL,g]
  ·rw[lJ]
   have n:(jY<|sB<|fw<|jP<|zS (zN<|zg 4) (.nm 0) 1 [1] jj (aw (zE jB<|zb (zc 0) zF)<|kf o6 t7 (zu<|.int 0) (zc 0)<|zc 1)) [.val (qk h w f),.val<|.int p,.val<|.int (h:Int),.val<|.int (w:Int),.val (.tup<|zB w<|f i)]=bQ ed:=by rw[rB,rQ,mT,wI,qA];simp only[vS,yx,Iq,IB,qH,yL,Iw,GV,wF,k,if_true];rw[show z6 1 [1] [.val (qk h w f),.val<|.int p,.val<|.int (h:Int),.val<|.int (w:Int),.val (.tup<|zB w<|f i)]=[Cell.no,.val (.int p)]from rfl,ln i];simp[Kb,Wr]
   rw[n];rfl)
 subst e;have x:(yP (zN<|zA<|dn (zg 0)<|zu<|.int 2) (.nm 4)<|zP (h6 (wN (jY<|sB<|m8 .tuple<|zc 4)<|sB<|zH hL (xP<|zg 4)<|zc 3) (jK<|zu<|.bl ed) jT)<|h6 (jY<|sB<|fw<|jP<|zS (zN<|zg 4) (.nm 0) 1 [1] jj (aw (zE jB<|zb (zc 0) zF)<|kf o6 t7 (zu<|.int 0) (zc 0)<|zc 1)) (jK<|zu<|.bl ed) jT) [.val (qk h w f),.val<|.int p,.val<|.int (h:Int),.val<|.int (w:Int),.no]=bQ (.next [.val (qk h w f),.val<|.int p,.val<|.int (h:Int),.val<|.int (w:Int),z]):=by rw[JA];simp only[vS,XT,vR,yx,mR,Iq,IB,ID,LV,IE,Nat.reduceAdd,qH,GV,Iw,I,yw,b,yL];exact q
 exact jw<|zo t<|zo u<|zo x rfl
theorem wU{p:Int}{n:Nat}(J:n<=100){hs ws:RZ}(I : ∀k,hs k<=100)(C : ∀k,ws k<=100){X:RV}(O : ∀k i j,0<=X k i j/\X k i j<p) :
 js [.lst (rn n hs ws X),.int p,.lst<|zB n λk=>(hs k:Int),.lst (zB n λk=>(ws k:Int))]=bQ (.val<|.bl di):=by
 have m:=jm;have U:n<=lim:=by omega
 have f:inR (n:Int)=di:=Wc ⋯ ⋯;have a:=nF n hs ws X;have ty:az Ty.list (.lst<|rn n hs ws X)=di:=rfl;have e:hL (.int (n:Int)) (.int (n:Int))=bQ (.bl ed):=xV rfl;have g:(h6 (wN (jY<|sB<|m8 .list<|zc 0)<|sB<|zH hL (xP<|zg 0)<|xP<|zg 2) (jK<|zu<|.bl ed) jT) (ja 4 [.lst (rn n hs ws X),.int p,.lst<|zB n λk=>(hs k:Int),.lst (zB n λk=>(ws k:Int))])=bQ (.next [.val (.lst<|rn n hs ws X),.val<|.int p,.val<|.lst<|zB n λk=>(hs k:Int),.val (.lst<|zB n λk=>(ws k:Int))]):=by show h6 _ _ _ [.val (.lst<|rn n hs ws X),.val<|.int p,.val<|.lst<|zB n λk=>(hs k:Int),.val (.lst<|zB n λk=>(ws k:Int))]=_;simp[ty,a,ko,e]
 have d:zU (.nm 0) jj (zE j5<|zb (dn (zg 1)<|zc 0)<|zb (zc 2)<|zb (dn (zg 3)<|zc 0)<|zb (dn (zg 4)<|zc 0) zF) [Cell.no,.val<|.lst<|rn n hs ws X,.val<|.int p,.val<|.lst<|zB n λk=>(hs k:Int),.val (.lst<|zB n λk=>(ws k:Int))] ((GH n).map λi:Nat=>D.int (i:Int))=bQ ((GH n).map λ_=>D.bl di):=by refine zw _ _ λk z=>zx rfl rfl ?_;have z:=eY.mp z;have b:=W6 (p:=p) (I k) (C k)<|O k;have l:=sk (hs:=hs) (ws:=ws) (T:=X) z;show zE _ _ [Cell.val (.int (k:Int)),.val<|.lst<|rn n hs ws X,.val<|.int p,.val<|.lst<|zB n λk=>(hs k:Int),.val (.lst<|zB n λk=>(ws k:Int))]=_;simp only[Vi,z9,eP,vR,yx,eJ,Iq,IB,qH,vg,ko,GV,Iw,yw,a,wF,jq,z,if_true,l,dB z,b,tw]
 have h:(jK<|fw<|jP<|zS (zR<|xP<|zg 2) (.nm 0) 1 [0,1,2,3] jj (zE j5<|zb (dn (zg 1)<|zc 0)<|zb (zc 2)<|zb (dn (zg 3)<|zc 0)<|zb (dn (zg 4)<|zc 0) zF)) [.val (.lst<|rn n hs ws X),.val<|.int p,.val<|.lst<|zB n λk=>(hs k:Int),.val (.lst<|zB n λk=>(ws k:Int))]=bQ (.ret<|.val<|.bl di):=by rw[Yt,mT,wI,qA];simp only[Jz,Au,yx,Iq,IB,qH,ko,Iw,GV,yw,wF,f,if_true,IU,jy,U];rw[zW n λi=>(i:Int),show z6 1 [0,1,2,3] [.val (.lst<|rn n hs ws X),.val<|.int p,.val<|.lst<|zB n λk=>(hs k:Int),.val (.lst<|zB n λk=>(ws k:Int))]=[Cell.no,.val<|.lst<|rn n hs ws X,.val<|.int p,.val<|.lst<|zB n λk=>(hs k:Int),.val (.lst<|zB n λk=>(ws k:Int))]from rfl,d];simp[Kb,Wr]
 exact jw<|zo g h
theorem gr:qr=jf 13 (zP (w6 (.tp [5,6])<|zE qg<|zb (zc 3)<|zb (zc 4) zF)<|zP (xn 7<|qP zF)<|zP (yP (zR<|xP<|zg 5) (.nm 8) gp)<|zP (xn 9<|qP zF)<|zP (yP (zR<|k8<|zc 3) (.nm 8) gu)<|gj 9<|jK<|qM<|zb (zc 5)<|zb (zc 9) zF):=rfl
section
variable{ns:List Int}{p:Int}{m:Nat}{w:RX}{bs:List (Int×Int)}
theorem tj(ap:ns.length<=63)(J:Pr p)(Y:m<=5)(hb:bs.length<=16)(h : ∀b∈bs,fC ((m+1:Nat):Int) b){a:Int}(h0:0<=a)(S:a<=1000) :
 ∃f g:RV,(∀k,k<m+1->Pair p (bW bs k) (f k) (g k))/\qr [X0 ns,.int a,.int p,.str<|xN m w,.lst (jE bs)]=bQ (.val<|qp m w (bW bs)<|kB p w (bW bs) f g<|bT w bs):=by
 have hl:=jm;have as:m+1<=lim:=by omega
 have p0:=J.pos;have p7:=J.le;have M : ∀k,bW bs k<=16:=λk=>by
  have:bW bs k<=bs.length:=by unfold bW fz qe;exact Ia (Ly _ _) ⋯
  omega
 have hT : ∀k i j,0<=bT w bs k i j/\bT w bs k i j<p:=λk i j=>iD J k i j;have bt:=Yr (w:=w) Y (show bs.length<64 by omega) h;generalize bW bs=o at *;generalize bT w bs=T at *;have b5 : ∀k:Nat,∃G:(Nat->Nat->Int)×(Nat->Nat->Int),k<m+1->Pair p (o k) G.1 G.2/\qb [X0 ns,.int<|a+9*(k:Int),.int p,.int (o k:Nat)]=bQ (.val<|.tup [.lst (jh (o k) G.1),.lst (jh (o k) G.2)]):=λk=>by
  by_cases u:k<m+1
  ·obtain⟨f,g,S,h2⟩:=sf ap J (n:=o k) (by have:=M k;omega) (show(0:Int)<=a+9*(k:Int)by omega) ⋯
   exact⟨(f,g),λ_=>⟨S,h2⟩⟩
  ·exact⟨(λ_ _=>0,λ_ _=>0),λh=>absurd h u⟩
 obtain⟨z,K⟩:=LP b5;refine⟨λk=>(z k).1,λk=>(z k).2,λk u=>(K k u).1,?_⟩;let W:List D:=zB (m+1) λk=>(o k:Int);let A:List D:=j7 m w o T;let U:Nat->List D:=λs=>(GH s).map λk=>D.tup [.lst (jh (o k) (z k).1),.lst (jh (o k) (z k).2)];let Z:Nat->List D:=λs=>j7 s w o<|kB p w o (λk=>(z k).1) (λk=>(z k).2) T;let γ:Cell->Cell->Cell->Cell->Cell->Cell->Ctx:=λc7 t L y B I=>[.val (X0 ns),.val<|.int a,.val<|.int p,.val<|.str<|xN m w,.val<|.lst<|jE bs,.val<|.lst W,.val<|.lst A,c7,t,L,y,B,I];have wl:=vk m w;have b6:=kc w (show m<=1000 by omega);have lW:W.length=m+1:=by simp[W]
 have N : ∀{r:Nat},r<m+1->((hB W.length (r:Int)).bind λk=>W[k]?)=bQ (.int (o r:Int)):=λ{r} E=>by rw[lW,jq,RY E];exact xU _ E
 have X : ∀s,(U s).length=s:=λs=>by simp[U]
 have R : ∀{r:Nat},r<m+1->((hB (U<|m+1).length (r:Int)).bind λk=>(U<|m+1)[k]?).bind z7=bQ (.T,[.lst (jh (o r) (z r).1),.lst (jh (o r) (z r).2)]):=λ{r} E=>by
  rw[X,jq,RY E];show((U<|m+1)[r]?).bind z7=_;rw[show(U<|m+1)[r]? = bQ (D.tup [.lst (jh (o r) (z r).1),.lst (jh (o r) (z r).2)])by
   show((GH<|m+1).map _)[r]? = _;rw[Hd,Ic E];rfl]
  rfl
 have iA : ∀{k:Nat},k<m->((hB A.length (k:Int)).bind λx=>A[x]?)=bQ (.lst<|j8 (o<|zV w k) (o<|zL w k)<|T k):=λ{k} u=>by rw[show A.length=m by simp[A,j7],jq,RY u,wA w o k,ZE w o k];show((GH m).map _)[k]? = _;rw[Hd,Ic u];rfl
 obtain⟨γ1,s3,t,rfl⟩:=qu (T:= .nm 8) (F:=gp) (f:=xP<|zg 5) (λs γ'=>∃t,γ'=γ (.own<|U s) t .no .no .no .no) (m+1) as (γ:=γ (.own []) .no .no .no .no .no) (by
  show bQ (D.int (W.length:Int))=_;rw[lW]) ⟨.no,rfl⟩ (by
  rintro s C γ' ⟨t,rfl⟩;refine⟨γ (.own<|U s) (.val<|.int (s:Int)) .no .no .no .no,γ (.own<|U<|s+1) (.val<|.int (s:Int)) .no .no .no .no,rfl,?_,_,rfl⟩;have e:=(K s C).2;have L:QN 9 (s:Int)=di:=yW _ _ ⋯ ⋯;have lu:(U s).length<lim:=by rw[X];omega
  have v:zE qb (zb (zc 0)<|zb (zH qC (zc 1)<|zH yV (zu<|.int 9)<|zc 8)<|zb (zc 2)<|zb (dn (zg 5)<|zc 8) zF) (γ (.own<|U s) (.val<|.int (s:Int)) .no .no .no .no)=bQ (.tup [.lst (jh (o s) (z s).1),.lst (jh (o s) (z s).2)]):=by
   have i:dn (zg 5) (zc 8) (γ (.own<|U s) (.val<|.int (s:Int)) .no .no .no .no)=bQ (.int (o s:Int)):=N C;have j:zH qC (zc 1) (zH yV (zu<|.int 9)<|zc 8) (γ (.own<|U s) (.val<|.int (s:Int)) .no .no .no .no)=bQ (.int<|a+9*(s:Int)):=by simp[γ,L]
   rw[Vi,z9,z9,z9,z9,i,j];show(qb [X0 ns,.int<|a+9*(s:Int),.int p,.int (o s:Int)]).map tw=_;rw[e];rfl
  unfold gp;rw[xI,v];show(if (U s).length<lim then _ else dj)=_;rw[RY lu];show bQ (Fl.next<|γ (.own<|U s++[D.tup [.lst (jh (o s) (z s).1),.lst (jh (o s) (z s).2)]]) _ _ _ _ _)=_;rw[<- kD s λk=>D.tup [.lst (jh (o k) (z k).1),.lst (jh (o k) (z k).2)]])
 obtain⟨Sv,s5,t,y,B,I,rfl⟩:=qu (T:= .nm 8) (F:=gu) (f:=k8<|zc 3) (λs γ'=>∃t y B I,γ'=γ (.own<|U<|m+1) t (.own<|Z s) y B I) m ⋯ (γ:=γ (.own<|U<|m+1) t (.own []) .no .no .no) (by simp[γ,wl,b6]) ⟨t,.no,.no,.no,rfl⟩ (by
  rintro s C γ' ⟨t,y,B,I,rfl⟩;have en:=kW (w:=w) Y C;have r1:=wD (w:=w) C;have P:=wH (w:=w) C;let O:Cell->Ctx:=λI=>γ (.own<|U<|m+1) (.val<|.int (s:Int)) (.own<|Z s) (.val<|.int (zL w s:Nat)) (.val<|.int (zV w s:Nat)) I;let H:Nat->Nat->Int:=λi j=>zk (λk=>T s i k*(z<|zL w s).2 k j) (o<|zL w s)%p;refine⟨γ (.own<|U<|m+1) (.val<|.int (s:Int)) (.own<|Z s) y B I,γ (.own<|U<|m+1) (.val<|.int (s:Int)) (.own<|Z<|s+1) (.val<|.int (zL w s:Nat)) (.val<|.int (zV w s:Nat))<|.val<|.lst<|j8 (o<|zV w s) (o<|zL w s) H,rfl,?_,_,_,_,_,rfl⟩;have q1:=M<|zV w s;have q2:=M<|zL w s;have be:=aL (h:=o<|zV w s) (n:=o<|zL w s) (w:=o<|zL w s) (f:=T s) (g:=(z<|zL w s).2) p0 p7 ⋯ ⋯ ⋯<|λi k _ _=>hT s i k;have bg:=aL (h:=o<|zV w s) (n:=o<|zV w s) (w:=o<|zL w s) (f:=(z<|zV w s).1) (g:=H) p0 p7 ⋯ ⋯ ⋯<|λi k hi u=>(K _ r1).1.bf i k hi u;unfold gu;refine zo (γ':=O I) (by simp[O,γ,en])<|zo (γ':=O<|.val<|.lst<|j8 (o<|zV w s) (o<|zL w s) H) ?_ ?_
  ·have x1:dn (zg 6) (zc 8) (O I)=bQ (.lst<|j8 (o<|zV w s) (o<|zL w s)<|T s):=iA C
   have x2:dn (zA<|dn (zg 7)<|zc 10) (zu<|.int 1) (O I)=bQ (.lst<|jh (o<|zL w s) (z<|zL w s).2):=by rw[vR,show zA (dn (zg 7)<|zc 10) (O I)=_ from R P];rfl
   have x3:dn (zg 5) (zc 10) (O I)=bQ (.int (o (zL w s):Int)):=N P;unfold sW;rw[QO,xX,yM,z9,z9,z9,z9,x1,x2,x3];show((((zM [.int p,.lst<|j8 (o<|zV w s) (o<|zL w s)<|T s,.lst<|jh (o<|zL w s) (z<|zL w s).2,.int (o (zL w s):Int)]).bind gy).map D.lst).map λd=>Fl.next<|(O I).set 12 (.val d))=_;rw[show zM [.int p,.lst<|j8 (o<|zV w s) (o<|zL w s)<|T s,.lst<|jh (o<|zL w s) (z<|zL w s).2,.int (o (zL w s):Int)]=bQ (.own<|j8 (o<|zV w s) (o<|zL w s) H)from be];rfl
  ·have x1:dn (zA<|dn (zg 7)<|zc 11) (zu<|.int 0) (O<|.val<|.lst<|j8 (o<|zV w s) (o<|zL w s) H)=bQ (.lst<|jh (o<|zV w s) (z<|zV w s).1):=by
    rw[vR,show zA (dn (zg 7)<|zc 11) (O<|.val<|.lst<|j8 (o<|zV w s) (o<|zL w s) H)=_ from R r1];rfl
   have x3:dn (zg 5) (zc 10) (O<|.val<|.lst<|j8 (o<|zV w s) (o<|zL w s) H)=bQ (.int (o (zL w s):Int)):=N P;have lz:(Z s).length<lim:=by simp[Z,j7];omega
   have bm:(j8 (o<|zV w s) (o<|zL w s) λi j=>zk (λk=>(z<|zV w s).1 i k*H k j) (o<|zV w s)%p)=j8 (h8 w o s) (h9 w o s) (kB p w o (λk=>(z k).1) (λk=>(z k).2) T s):=by rw[<- wA w o s,<- ZE w o s];refine Zp λi j _ _=>?_;show zk (λk=>(z<|zV w s).1 i k*(zk (λl=>T s k l*(z<|zL w s).2 l j) (o<|zL w s)%p)) (o<|zV w s)%p=_;rw[Ke p (z<|zV w s).1 (T s) (z<|zL w s).2 (o<|zV w s) (o<|zL w s) i j];unfold kB;congr 2;funext b;rw[Ib];congr 3;funext k;exact Ib _ _
   unfold sV;rw[xI,xX,yM,z9,z9,z9,z9,x1,x3];show(q8<|some (Cell.own<|Z s)).bind (λQ=>(((zM [.int p,.lst<|jh (o<|zV w s) (z<|zV w s).1,.lst<|j8 (o<|zV w s) (o<|zL w s) H,.int (o (zL w s):Int)]).bind gy).map D.lst).bind λd=>if Q.length<lim then bQ (Fl.next<|(O<|.val<|.lst<|j8 (o<|zV w s) (o<|zL w s) H).set 9 (.own<|Q++[d]))else dj)=_;rw[show zM [.int p,.lst<|jh (o<|zV w s) (z<|zV w s).1,.lst<|j8 (o<|zV w s) (o<|zL w s) H,.int (o (zL w s):Int)]=_ from bg,bm];show(if (Z s).length<lim then bQ (Fl.next<|γ _ _ (.own<|Z s++[D.lst (j8 (h8 w o s) (h9 w o s)<|kB p w o (λk=>(z k).1) (λk=>(z k).2) T s)]) _ _ _)else dj)=_;rw[RY lz,show Z s++[D.lst (j8 (h8 w o s) (h9 w o s)<|kB p w o (λk=>(z k).1) (λk=>(z k).2) T s)]=Z (s+1)from(kD s _).symm])
 rw[gr];refine jw<|zo (γ':=γ .no .no .no .no .no .no) (by simp[ja,bt,qp,γ,W,A])<|zo (γ':=γ (.own []) .no .no .no .no .no) rfl<|zo s3<|zo (γ':=γ (.own<|U<|m+1) _ (.own []) .no .no .no) rfl<|zo s5 ?_;have l2:2<=lim:=by omega
 show jK (qM<|zb (zc 5)<|zb (zc 9) zF) (γ (.own<|U<|m+1) t (.val<|.lst<|Z m) y B I)=_;simp[γ,W,Z,qp]
end
theorem hU:qt=jf 10 (zP (yP (zR<|k8<|zc 1) (.nm 5) hV)<|jK<|zu<|.bl di):=rfl
section
variable{p:Int}{m:Nat}{w:RX}{wd:RZ}{T1 T2 Q Q':RV}
theorem Y7(n:Nat)(f:Nat->Int):ra (zB n f)<=1:=yK λd a=>by unfold zB at a;obtain⟨i,_,rfl⟩:=Hj.mp a;simp[deep]
theorem wu{h n:Nat}(f:RK):md (.lst<|j8 h n f)=di:=VW (n:=3) (by
 simp only[deep];have:ra (j8 h n f)<=2:=yK λd a=>by unfold j8 at a;obtain⟨i,_,rfl⟩:=Hj.mp a;have:=Y7 n<|f i;simp only[deep];omega
 omega) ⋯ (by
 simp only[i0];exact wt λd a=>by
  unfold j8 at a;obtain⟨i,_,rfl⟩:=Hj.mp a;simp only[i0];exact wt λd a=>by unfold zB at a;obtain⟨j,_,rfl⟩:=Hj.mp a;rfl)
theorem VT(J:0<p)(L:p<=7)(Z:m<=5)(C : ∀k,wd k<=60)(Y : ∀k i j,0<=Q k i j/\Q k i j<p)(b2 : ∀k i j,0<=T2 k i j/\T2 k i j<p)
 (eq : ∀k,k<m->∀i j,i<wd (zV w k)->j<wd (zL w k)->mM p (wd<|zV w k) (Q<|zV w k) (T1 k) i j=mM p (wd<|zL w k) (T2 k) (Q<|zL w k) i j) :
 qt [.int p,.str<|xN m w,qp m w wd T1,qp m w wd T2,.lst (jg (m+1) wd Q)]=bQ (.val<|.bl di):=by
 have hl:=jm;have wl:=vk m w;have M:=kc w (show m<=1000 by omega);let W:List D:=zB (m+1) λk=>(wd k:Int);have lW:W.length=m+1:=by simp[W]
 have X : ∀{r:Nat},r<m+1->((hB W.length (r:Int)).bind λk=>W[k]?)=bQ (.int (wd r:Int)):=λ{r} t=>by rw[lW,jq,RY t];exact xU _ t
 have E : ∀(T:RV) {k:Nat},k<m->((hB (j7 m w wd T).length (k:Int)).bind λx=>(j7 m w wd T)[x]?)=bQ (.lst<|j8 (wd<|zV w k) (wd<|zL w k)<|T k):=λT {k} B=>by rw[show(j7 m w wd T).length=m by simp[j7],jq,RY B,wA w wd k,ZE w wd k];show((GH m).map _)[k]? = _;rw[Hd,Ic B];rfl
 have G : ∀{r:Nat},r<m+1->((hB (jg (m+1) wd Q).length (r:Int)).bind λx=>(jg (m+1) wd Q)[x]?).bind z7=bQ (.T,[.int (wd r:Nat),.int (wd r:Nat),.tup (zX (wd r) (wd r)<|Q r)]):=λ{r} t=>by rw[Kc,jq,RY t];show((GH<|m+1).map _)[r]?.bind z7=_;rw[Hd,Ic t];rfl
 let γ:Cell->Cell->Cell->Cell->Cell->Ctx:=λo b e a O=>[.val (.int p),.val<|.str<|xN m w,.val<|qp m w wd T1,.val<|qp m w wd T2,.val<|.lst<|jg (m+1) wd Q,o,b,e,a,O];obtain⟨γ1,s1,o,b,e,a,O,rfl⟩:=qu (T:= .nm 5) (F:=hV) (f:=k8<|zc 1) (λ_ γ'=>∃o b e a O,γ'=γ o b e a O) m ⋯ (γ:=γ .no .no .no .no .no) (by simp[γ,wl,M]) ⟨.no,.no,.no,.no,.no,rfl⟩ (by
  rintro s l γ' ⟨o,b,e,a,O,rfl⟩;have N:=kW (w:=w) Z l;have r1:=wD (w:=w) l;have K:=wH (w:=w) l;have u:=C<|zV w s;have y:=C<|zL w s;let S:=Cell.val<|.int (s:Int);let z:=Cell.val<|.int (zL w s:Nat);let I:=Cell.val<|.int (zV w s:Nat);let U:=Cell.val<|.int (wd (zL w s):Int);let H:=j8 (wd<|zV w s) (wd<|zL w s)<|mM p (wd<|zV w s) (Q<|zV w s)<|T1 s;refine⟨γ S b e a O,γ S z I U<|.val<|.lst H,rfl,?_,_,_,_,_,_,rfl⟩;have t1:=Zl (h:=wd<|zV w s) (n:=wd<|zV w s) (w:=wd<|zL w s) (f:=Q<|zV w s) (g:=T1 s) J L u u y (wz _ _ _) (cK _ _ _)<|λi k _ _=>Y _ i k;have t2:=Zl (h:=wd<|zV w s) (n:=wd<|zL w s) (w:=wd<|zL w s) (f:=T2 s) (g:=Q<|zL w s) J L u y y (cK _ _ _) (wz _ _ _)<|λi k _ _=>b2 _ i k;unfold hV;refine zo (γ':=γ S z I a O) (by simp[γ,S,z,I,N])<|zo (γ':=γ S z I U O) ?_ (zo (γ':=γ S z I U<|.val<|.lst H) ?_ ?_)
  ·have x:dn (zA<|dn (zg 2)<|zu<|.int 0) (zc 6) (γ S z I a O)=bQ (.int (wd (zL w s):Int)):=X K
   rw[QO,x];rfl
  ·have x1:dn (zA<|dn (zg 4)<|zc 7) (zu<|.int 2) (γ S z I U O)=bQ (.tup<|zX (wd<|zV w s) (wd<|zV w s)<|Q<|zV w s):=by
    rw[vR,show zA (dn (zg 4)<|zc 7) (γ S z I U O)=_ from G r1];rfl
   have A:dn (zA<|dn (zg 2)<|zu<|.int 1) (zc 5) (γ S z I U O)=bQ (.lst<|j8 (wd<|zV w s) (wd<|zL w s)<|T1 s):=E T1 l;unfold uz;rw[QO,xX,yM,z9,z9,z9,z9,x1,A];show((((zM [.int p,.tup<|zX (wd<|zV w s) (wd<|zV w s)<|Q<|zV w s,.lst<|j8 (wd<|zV w s) (wd<|zL w s)<|T1 s,.int (wd (zL w s):Int)]).bind gy).map D.lst).map λd=>Fl.next<|(γ S z I U O).set 9 (.val d))=_;rw[t1];rfl
  ·have x1:dn (zA<|dn (zg 4)<|zc 6) (zu<|.int 2) (γ S z I U<|.val<|.lst H)=bQ (.tup<|zX (wd<|zL w s) (wd<|zL w s)<|Q<|zL w s):=by
    rw[vR,show zA (dn (zg 4)<|zc 6) (γ S z I U<|.val<|.lst H)=_ from G K];rfl
   have A:dn (zA<|dn (zg 3)<|zu<|.int 1) (zc 5) (γ S z I U<|.val<|.lst H)=bQ (.lst<|j8 (wd<|zV w s) (wd<|zL w s)<|T2 s):=E T2 l;have g:oV (γ S z I U<|.val<|.lst H)=bQ (.lst H):=by unfold oV;rw[xX,yM,z9,z9,z9,z9,x1,A];show(((zM [.int p,.lst<|j8 (wd<|zV w s) (wd<|zL w s)<|T2 s,.tup<|zX (wd<|zL w s) (wd<|zL w s)<|Q<|zL w s,.int (wd (zL w s):Int)]).bind gy).map D.lst)=_;rw[t2];show bQ (D.lst<|j8 (wd<|zV w s) (wd<|zL w s)<|mM p (wd<|zL w s) (T2 s)<|Q<|zL w s)=_;rw[Zp λi j P R=>(eq s l i j P R).symm]
   rw[lJ,rQ,JB,g];show(((hL (.lst H)<|.lst H).bind q5).bind _)=_;rw[xV (wu _)];rfl)
 rw[hU];exact jw<|zo s1 rfl
end
theorem fM:qT=jf 6 (zP (yP (zR<|xP<|zg 1) (.nm 4) fN)<|jK<|zu<|.bl di):=rfl
section
variable{p:Int}{m n:Nat}{w:RX}{wd:RZ}{T1 T2 Q Q':RV}
theorem fK(C:0<p)(J:p<=7)(hn:n<=60)(L : ∀k,wd k<=60)(Z : ∀k i j,0<=Q k i j/\Q k i j<p)(Y : ∀k i j,0<=Q' k i j/\Q' k i j<p)(e1 : ∀k,k<n->∀i j,i<wd k->j<wd k->mM p (wd k) (Q k) (Q' k) i j=g9 i j)(e2 : ∀k,k<n->∀i j,i<wd k->j<wd k->mM p (wd k) (Q' k) (Q k) i j=g9 i j) :
 qT [.int p,.lst<|zB n λk=>(wd k:Int),.lst<|jg n wd Q,.lst (jg n wd Q')]=bQ (.val<|.bl di):=by
 have N:=jm;let W:List D:=zB n λk=>(wd k:Int);have u:W.length=n:=by simp[W]
 have t : ∀{r:Nat},r<n->((hB W.length (r:Int)).bind λk=>W[k]?)=bQ (.int (wd r:Int)):=λ{r} O=>by rw[u,jq,RY O];exact xU _ O
 have o : ∀(Q:RV) {r:Nat},r<n->((hB (jg n wd Q).length (r:Int)).bind λx=>(jg n wd Q)[x]?).bind z7=bQ (.T,[.int (wd r:Nat),.int (wd r:Nat),.tup (zX (wd r) (wd r)<|Q r)]):=λQ {r} O=>by rw[Kc,jq,RY O];show((GH n).map _)[r]?.bind z7=_;rw[Hd,Ic O];rfl
 let γ:Cell->Cell->Ctx:=λU a=>[.val (.int p),.val<|.lst W,.val<|.lst<|jg n wd Q,.val<|.lst<|jg n wd Q',U,a];obtain⟨γ1,H,U,a,rfl⟩:=qu (T:= .nm 4) (F:=fN) (f:=xP<|zg 1) (λ_ γ'=>∃U a,γ'=γ U a) n ⋯ (γ:=γ .no .no) (by
  show bQ (D.int (W.length:Int))=_;rw[u]) ⟨.no,.no,rfl⟩ (by
  rintro s b γ' ⟨U,a,rfl⟩;have q:=L s;have m:wd s<=lim:=by omega
  let S:=Cell.val<|.int (s:Int);let I:=j8 (wd s) (wd s) g9;refine⟨γ S a,γ S<|.val<|.lst I,rfl,?_,_,_,rfl⟩;have K:=Zl (h:=wd s) (n:=wd s) (w:=wd s) (f:=Q s) (g:=Q' s) C J q q q (wz _ _ _) (wz _ _ _)<|λi k _ _=>Z _ i k;have M:=Zl (h:=wd s) (n:=wd s) (w:=wd s) (f:=Q' s) (g:=Q s) C J q q q (wz _ _ _) (wz _ _ _)<|λi k _ _=>Y _ i k;have x1 : ∀a,dn (zA<|dn (zg 2)<|zc 4) (zu<|.int 2) (γ S a)=bQ (.tup<|zX (wd s) (wd s)<|Q s):=λa=>by rw[vR,show zA (dn (zg 2)<|zc 4) (γ S a)=_ from o Q b];rfl
  have B : ∀a,dn (zA<|dn (zg 3)<|zc 4) (zu<|.int 2) (γ S a)=bQ (.tup<|zX (wd s) (wd s)<|Q' s):=λa=>by rw[vR,show zA (dn (zg 3)<|zc 4) (γ S a)=_ from o Q' b];rfl
  have x3 : ∀a,dn (zg 1) (zc 4) (γ S a)=bQ (.int (wd s:Int)):=λa=>t b;have z:inR (wd s:Int)=di:=ve m;have A : ∀{f:CO D} {γ:Ctx},f γ=bQ (.int (wd s:Int))->zR f γ=bQ ((GH<|wd s).map λ(i:Nat)=>D.int (i:Int)):=λ{f γ} h=>by rw[Jz,h];show(if inR (wd s:Int)=di then bQ (yR 0 (wd s:Int).toNat)else dj)=_;rw[RY z,IU,jy,zW]
  unfold fN;refine zo (γ':=γ S<|.val<|.lst I) ?_ (zo (γ':=γ S<|.val<|.lst I) ?_ ?_)
  ·have G:zU (.nm 0) jj nz [Cell.no,.val<|.lst W,S] ((GH<|wd s).map λ(i:Nat)=>D.int (i:Int))=bQ I:=by
    show _=bQ (j8 (wd s) (wd s) g9);unfold j8;refine zw _ _ λi d=>zx (γ1:=[.val (.int (i:Int)),.val<|.lst W,S]) rfl rfl ?_;have y:dn (zg 1) (zc 2) [Cell.val (.int (i:Int)),.val<|.lst W,S]=bQ (.int (wd s:Int)):=t b;unfold nz;rw[xX,qA,A y];simp only[GV,GY,Hi,m,if_true];rw[show z6 1 [0] [Cell.val (.int (i:Int)),.val<|.lst W,S]=[Cell.no,.val (.int (i:Int))]from rfl];rw[show zU (.nm 0) jj (JQ<|zH ix (zc 1)<|zc 0) [Cell.no,.val (.int (i:Int))] ((GH<|wd s).map λ(j:Nat)=>D.int (j:Int))=bQ (zB (wd s)<|g9 i)by
     rw[zW];refine zw _ _ λj l=>zx rfl rfl ?_;by_cases e:i=j
     ·subst e;simp[g9]
     ·have E : ¬((i:Int)=(j:Int)):=by omega
      simp[g9,e,E]]
    rfl
   unfold sd;rw[QO,xX,qA,A (x3 a)];simp only[GV,GY,Hi,m,if_true];rw[show z6 1 [1,4] (γ S a)=[Cell.no,.val<|.lst W,S]from rfl,G];rfl
  ·have g:nB (γ S<|.val<|.lst I)=bQ (.lst I):=by
    unfold nB;rw[xX,yM,z9,z9,z9,z9,x1,B,x3];show(((zM [.int p,.tup<|zX (wd s) (wd s)<|Q s,.tup<|zX (wd s) (wd s)<|Q' s,.int (wd s:Int)]).bind gy).map D.lst)=_;rw[K];show bQ (D.lst<|j8 (wd s) (wd s)<|mM p (wd s) (Q s)<|Q' s)=_;rw[Zp λi j d l=>e1 s b i j d l]
   rw[lJ,rQ,JB,g];show(((hL (.lst I)<|.lst I).bind q5).bind _)=_;rw[xV (wu _)];rfl
  ·have g:nA (γ S<|.val<|.lst I)=bQ (.lst I):=by
    unfold nA;rw[xX,yM,z9,z9,z9,z9,x1,B,x3];show(((zM [.int p,.tup<|zX (wd s) (wd s)<|Q' s,.tup<|zX (wd s) (wd s)<|Q s,.int (wd s:Int)]).bind gy).map D.lst)=_;rw[M];show bQ (D.lst<|j8 (wd s) (wd s)<|mM p (wd s) (Q' s)<|Q s)=_;rw[Zp λi j d l=>e2 s b i j d l]
   rw[lJ,rQ,JB,g];show(((hL (.lst I)<|.lst I).bind q5).bind _)=_;rw[xV (wu _)];rfl)
 rw[fM];exact jw<|zo H rfl
end
section
variable{p:Int}{m:Nat}{w:RX}{bs:List (Int×Int)}
abbrev rq(p:Int)(z:Str)(m:Nat)(bs:List (Int×Int)):Ctx:=[.val (.int p),.val (.str z),.val (.lst (jE bs)),.val (.int ((m+1:Nat):Int))]
end
section
variable{p:Int}{m N:Nat}{w:RX}{wd:RZ}{T:RV}{A:Nat->ft}{bs:List (Int×Int)}{b c:Int×Int}
theorem V6(h : ∀b∈bs,fC ((m+1:Nat):Int) b):xH (KW (bS bs) (bE bs) bs.length) bs.length=bs:=by
 conv=>rhs;rw[rk h]
 unfold xH;refine Hk λj z=>?_;have:=(eD h<|eY.mp z).2.1;show((bS bs j:Int),((bS bs j+(bE bs j - bS bs j+1) - 1:Nat):Int))=_;rw[show bS bs j+(bE bs j - bS bs j+1) - 1=bE bs j by omega]
theorem CN(bs:List (Int×Int))(k:Nat):bW bs k<=bs.length:=by unfold bW fz qe;exact Ia (Ly _ _) ⋯
end
section ap
variable(γ:Ctx)
@[simp] noncomputable def Et:=@BU.eq_1
@[simp] noncomputable def Fc:=@Gs.eq_1
@[simp] theorem Ec(f):sO f γ=((f γ).bind lp).map λi=> .int (-i):=rfl
@[simp] noncomputable def rP:=@AK.eq_1
end ap
theorem nc:JG=jf 13 (zP ny<|zP nv<|zP nu<|zP nt<|zP nq<|zP nj<|zP ni<|zP ng<|zP fJ lT):=rfl
structure M9(p:Int)(m:Nat)(w:RX)(wd:RZ)(K:List (Int×Int))(T F G:RV):Prop where
 pr : ∀r,r<m+1->Pair p (wd r) (F r) (G r)
 eb:xZ [qW p m w wd T]=bQ (.val<|J7 K (JO m wd G)<|JO m wd F)
 et : ∀k,k<m->∀i j,i<wd (zV w k)->j<wd (zL w k)->T k i j=mM p (wd<|zL w k) (mM p (wd<|zV w k) (F<|zV w k)<|DF w K k) (G<|zL w k) i j
 rg : ∀k i j,0<=T k i j/\T k i j<p
section
variable{p:Int}{m N:Nat}{w:RX}{wd:RZ}{T T1 T2 F1 G1 F2 G2:RV}{A:Nat->ft}{K:List (Int×Int)}
theorem cu(O:Pr p)(J : ∀k,wd k<=8)(S:m<=5)(C : ∀k i j,0<=T k i j/\T k i j<p)(D:n7 p w wd T m N A) : ∃F G,M9 p m w wd (yc<|xH A N) T F G:=by
 obtain⟨b,a,g,R,U,cnt,f,t,B⟩:=eC (T:=T) (w:=w) O J S λk i j _ _ _=>C k i j;have P : ∀j,j<b->1<=(a j).n:=λj I=>(U j I).n1;have h : ∀r,r<=m->Dm (xH a b) r=wd r:=λr z=>by unfold Dm;rw[ki P,cnt _ z]
 have o:n7 p w wd T m b a:=pM O J U cnt λr z v=>⟨app (g r) (wd r) v,λi d=>(Zk (f r z).1 v d).symm⟩;have e : ∀(X:Nat->ft) (M:Nat),xH X M=(iH X M).map λs=>((s.1:Int),(s.2:Int)):=λX M=>by unfold xH iH;rw[HD];rfl
 have Q:(xH a b).Perm (xH A N):=by rw[e,e];exact(ck O o D).map _
 have u:yc (xH a b)=xH a b:=t;have l:xH a b=yc (xH A N):=by rw[<- u,ZP Q]
 refine⟨λr=>q9 a b r,g,⟨λr z=>?_,?_,λk L i j d I=>?_,C⟩⟩
 ·obtain⟨u1,u2,u3⟩:=f r ⋯
  refine⟨λi j d I=>?_,λi j _ _=>u3 i j,u1,u2⟩;have x:j<(h7 a b r).length:=by rw[cnt r ⋯];exact I
  obtain⟨H,K⟩:=Y0 x;exact(U _ H).lU r i K d
 ·rw[<- l];exact B
 ·have y:zL w k<=m:=by unfold zL;split<;>omega
  have E:zV w k<=m:=by unfold zV;split<;>omega
  rw[lO O U cnt (λr z=>(f r z).1) L d I (C k i j),fQ,h _ y,h _ E,l]
theorem Xh(L:Pr p)(S:m<=5)(U : ∀k,wd k<=60)(C:M9 p m w wd K T1 F1 G1)(J:M9 p m w wd K T2 F2 G2) : ∃d,yC [qW p m w wd T1,qW p m w wd T2]=bQ (.val d)/\jG [d,.int p,.str<|xN m w,qp m w wd T1,qp m w wd T2]=bQ (.val<|.bl di):=by
 have N:=jm;have O:=L.pos;have two:=L.two;have g:=L.le;have A:=rF O g (show m<=50 by omega) U (λk i j z a I=>(C.pr k z).bg i j a I) (λk i j z a I=>(J.pr k z).bg i j a I) C.eb J.eb;refine⟨_,A,?_⟩;let Q:Nat->Nat->Nat->Int:=λk=>mM p (wd k) (F2 k)<|G1 k;let Q':Nat->Nat->Nat->Int:=λk=>mM p (wd k) (F1 k)<|G2 k;have o : ∀k i j,0<=Q k i j/\Q k i j<p:=λk i j=>pq O _ _ _ i j;have h : ∀k i j,0<=Q' k i j/\Q' k i j<p:=λk i j=>pq O _ _ _ i j;have f : ∀k,wd k<=100:=λk=>by have:=U k;omega
 have H:=wU (p:=p) (n:=m+1) ⋯ (hs:=wd) (ws:=wd) f f (X:=Q) o;have M:=wU (p:=p) (n:=m+1) ⋯ (hs:=wd) (ws:=wd) f f (X:=Q') h;have x:=VT (w:=w) (T1:=T1) (T2:=T2) (Q:=Q) O g S U o J.rg λk z i j a I=>by have e:=wD (w:=w) z;have s:=wH (w:=w) z;exact KD two (C.pr _ e).gf (J.pr _ s).gf (λi k a z=>(J.pr _ e).bf i k a z) (C.et k z) (J.et k z) a I
 have y:=VT (w:=w) (T1:=T2) (T2:=T1) (Q:=Q') O g S U h C.rg λk z i j a I=>by have e:=wD (w:=w) z;have s:=wH (w:=w) z;exact KD two (J.pr _ e).gf (C.pr _ s).gf (λi k a z=>(C.pr _ e).bf i k a z) (J.et k z) (C.et k z) a I
 have u:=fK (n:=m+1) (wd:=wd) (Q:=Q) (Q':=Q') O g ⋯ U o h (λk z i j a I=>ZG two (C.pr k z).gf (J.pr k z).fg (λi r a l=>(J.pr k z).bf i r a l) a I) (λk z i j a I=>ZG two (J.pr k z).gf (C.pr k z).fg (λi r a l=>(C.pr k z).bf i r a l) a I);have B:js [.lst (jg (m+1) wd Q),.int p,.lst (zB (m+1) λk=>(wd k:Int)),.lst (zB (m+1) λk=>(wd k:Int))]=bQ (.val (.bl di)):=H;have E:js [.lst (jg (m+1) wd Q'),.int p,.lst (zB (m+1) λk=>(wd k:Int)),.lst (zB (m+1) λk=>(wd k:Int))]=bQ (.val (.bl di)):=M;show jG [.tup [.str "alike",.lst (jg (m+1) wd Q),.lst (jg (m+1) wd Q')],.int p,.str (xN m w),qp m w wd T1,qp m w wd T2]=_;generalize jg (m+1) wd Q=X at *;generalize jg (m+1) wd Q'=X' at *;have t:z7 (qp m w wd T1)=bQ (.T,[.lst (zB (m+1) λk=>(wd k:Int)),.lst (j7 m w wd T1)]):=rfl;have G:z7 (qp m w wd T2)=bQ (.T,[.lst (zB (m+1) λk=>(wd k:Int)),.lst (j7 m w wd T2)]):=rfl;have F:hL (.str "alike") (.str "alike")=bQ (.bl ed):=xV ⋯;have P:hL (.int ((3:Nat):Int)) (.int 3)=bQ (.bl ed):=rfl;generalize qp m w wd T1=U1 at *;generalize qp m w wd T2=U2 at *;let b:Ctx:=[.val (.tup [.str "alike",.lst X,.lst X']),.val (.int p),.val (.str (xN m w)),.val U1,.val U2];have ty:az Ty.tuple (.tup [.str "alike",.lst X,.lst X'])=di:=rfl;unfold jG;refine jw (zo (γ':=b) (by show h6 _ _ _ b=_;simp[b,ty,hB,F]) (zo (γ':=b) (by simp[b,hB,t,G,B,E]) (zo (γ':=b) (by simp[b,hB,x,y]) ?_)));simp[b,hB,t,u]
end
theorem Co(C:List Int)(J:C.length<=63):JG [X0 C]=bQ (.val<|.bl di):=by
 have hl:=jm;obtain⟨e1,S,b1⟩:=Va J (k:=0) ⋯ ⋯;generalize km C 0=c at e1 S b1;obtain⟨q,O,ep,bi⟩:=ue S;have y:=O.pos;obtain⟨m,em,hm⟩ : ∃m:Nat,1+c/4%5=1+(m:Int)/\m<=4:=⟨(c/4%5).toNat,by omega,by omega⟩;obtain⟨n1,bn,d4⟩ : ∃n:Nat,c/1000%6=(n:Int)/\n<=5:=⟨(c/1000%6).toNat,by omega,by omega⟩;obtain⟨w,ew⟩:=rX (c:=c/20) ⋯ (m:=m) ⋯;have bv:((m+1:Nat):Int)=1+(m:Int):=by omega
 obtain⟨bs,r1,st,l1⟩:=Yy J (t:=1) ⋯ ⋯ (r:=m+1) (n:=n1) ⋯ ⋯ ⋯;rw[bv]at r1;obtain⟨f1,g1,T,X⟩:=tj (w:=w) J O (show m<=5 by omega) (show bs.length<=16 by omega) st (a:=8) ⋯ ⋯;obtain⟨f2,g2,Y,Z⟩:=tj (w:=w) J O (show m<=5 by omega) (show bs.length<=16 by omega) st (a:=70) ⋯ ⋯;have s : ∀k,bW bs k<=5:=λk=>by have:=CN bs k;omega
 let e:=kB (q:Int) w (bW bs) f1 g1<|bT w bs;let f:=kB (q:Int) w (bW bs) f2 g2<|bT w bs;have bx : ∀k i j,0<=e k i j/\e k i j<(q:Int):=λk i j=>Vu y w (bW bs) f1 g1 (bT w bs) k i j;have c0 : ∀k i j,0<=f k i j/\f k i j<(q:Int):=λk i j=>Vu y w (bW bs) f2 g2 (bT w bs) k i j;have Q:n7 (q:Int) w (bW bs) e m bs.length λj=>ZI q (bW bs) f1 (KW (bS bs) (bE bs) bs.length j):=Ka y (λr N=>(T r ⋯).fg) (λr N=>(T r ⋯).gf)<|V7 (p:=(q:Int)) (w:=w) (m:=m) O λj K=>(eD st K).2;have R:n7 (q:Int) w (bW bs) f m bs.length λj=>ZI q (bW bs) f2 (KW (bS bs) (bE bs) bs.length j):=Ka y (λr N=>(Y r ⋯).fg) (λr N=>(Y r ⋯).gf)<|V7 (p:=(q:Int)) (w:=w) (m:=m) O λj K=>(eD st K).2;obtain⟨F1,G1,g⟩:=cu O (λk=>by have:=s k;omega) (show m<=5 by omega) bx Q;obtain⟨F2,G2,h⟩:=cu O (λk=>by have:=s k;omega) (show m<=5 by omega) c0 R;rw[show xH (λj=>ZI (q:Int) (bW bs) f1<|KW (bS bs) (bE bs) bs.length j) bs.length=bs from V6 st]at g;rw[show xH (λj=>ZI (q:Int) (bW bs) f2<|KW (bS bs) (bE bs) bs.length j) bs.length=bs from V6 st]at h;have x : ∀k,bW bs k<=60:=λk=>by have:=s k;omega
 have c1:=Wd (p:=(q:Int)) hm w (wd:=bW bs) (λk=>by have:=s k;omega) e;have ca:=Wd (p:=(q:Int)) hm w (wd:=bW bs) (λk=>by have:=s k;omega) f;obtain⟨d6,cb,cd⟩:=Xh O (show m<=5 by omega) x g g;obtain⟨d7,ce,ch⟩:=Xh O (show m<=5 by omega) x g h;obtain⟨d8,ci,cj⟩:=Xh O (show m<=5 by omega) x h g;obtain⟨d9,cl,cm⟩:=Xh O (show m<=5 by omega) x h h;have co:qr [X0 C,.int 8,.int q,.str<|xN m w,.lst (jE bs)]=bQ (.val<|qp m w (bW bs) e):=X;have cq:qr [X0 C,.int 70,.int q,.str<|xN m w,.lst (jE bs)]=bQ (.val<|qp m w (bW bs) f):=Z;clear g h Q R X Z;generalize qp m w (bW bs) e=U at *;generalize qp m w (bW bs) f=I at *;generalize qW (q:Int) m w (bW bs) e=R1 at *;generalize qW (q:Int) m w (bW bs) f=R2 at *;let L:D:= .lst [.tup [U,R1],.tup [I,R2]];let b:Cell->Cell->Cell->Cell->Cell->Cell->Cell->Ctx:=λc2 c3 c4 c5 c6 c7 c8=>[.val (X0 C),.val<|.int c,c2,c3,c4,c5,c6,c7,c8,.no,.no,.no,.no];let P:=Cell.val<|.int q;let M:=Cell.val<|.int<|1+(m:Int);let W:=Cell.val<|.str<|xN m w;let B:=Cell.val<|.lst<|jE bs;let z:Cell->Cell->Cell->Cell->Ctx:=λc9 cy l o=>[.val (X0 C),.val<|.int c,P,M,W,B,.val U,.val I,.val L,c9,cy,l,o];have bd : ∀{u r E A d:D},yC [r,A]=bQ (.val d)->jG [d,.int q,.str<|xN m w,u,E]=bQ (.val<|.bl di)->aF (z (.val u) (.val r) (.val E)<|.val A)=bQ (.next<|z (.val u) (.val r) (.val E)<|.val A):=λ{u r E A d} G H=>by simp[aF,z,P,W,G,H]
 have bf : ∀{u r d F:D} (l o:Cell),yC [r,R1]=bQ (.val d)->jG [d,.int q,.str<|xN m w,u,U]=bQ (.val<|.bl di)->yC [r,R2]=bQ (.val F)->jG [F,.int q,.str<|xN m w,u,I]=bQ (.val<|.bl di)->aE (z (.val u) (.val r) l o)=bQ (.next<|z (.val u) (.val r) (.val I)<|.val R2):=λ{u r d F} l o G H h3 h4=>by unfold aE;rw[JA,show zN (zA<|zc 8) (z (.val u) (.val r) l o)=bQ [.tup [U,R1],.tup [I,R2]]from rfl,GV,qh];show((aF<|z (.val u) (.val r) (.val U)<|.val R1).bind _)=_;rw[bd G H,GV];show ka _ _ _ _=_;rw[qh];show((aF<|z (.val u) (.val r) (.val I)<|.val R2).bind _)=_;rw[bd h3 h4];rfl
 have s9:fJ (z .no .no .no .no)=bQ (.next<|z (.val I) (.val R2) (.val I)<|.val R2):=by unfold fJ;rw[JA,show zN (zA<|zc 8) (z .no .no .no .no)=bQ [.tup [U,R1],.tup [I,R2]]from rfl,GV,qh];show((aE<|z (.val U) (.val R1) .no .no).bind _)=_;rw[bf .no .no cb cd ce ch,GV];show ka _ _ _ _=_;rw[qh];show((aE<|z (.val I) (.val R2) (.val I)<|.val R2).bind _)=_;rw[bf _ _ ci cj cl cm];rfl
 rw[nc];have l2:2<=lim:=by omega
 refine jw<|zo (γ':=b .no .no .no .no .no .no .no) (by simp[ny,ja,e1,b])<|zo (γ':=b P .no .no .no .no .no .no) (by simp[nv,b,bi,ep,P])<|zo (γ':=b P M .no .no .no .no .no) (by simp[nu,b,em,P,M])<|zo (γ':=b P M W .no .no .no .no) (by simp[nt,b,ew,W,P,M])<|zo (γ':=b P M W B .no .no .no) (by simp[nq,b,bn,r1,B,P,M,W])<|zo (γ':=b P M W B (.val U) .no .no) (by simp[nj,b,P,M,W,B,co])<|zo (γ':=b P M W B (.val U) (.val I) .no) (by simp[ni,b,P,M,W,B,cq])<|zo (γ':=z .no .no .no .no) (by simp[ng,b,z,P,M,W,B,L,c1,ca,l2])<|zo s9 rfl
open PySem.Spec PyProof.Rows
noncomputable def top(i:Nat):PySem.Stmt:=PySem.Challenge.pw_barsplit_k41_whole_alike_by_tables.main.body.getD i<|.Pass ⟨0,0,0,0⟩
section
variable{CR CL:PySem.Addr}{P:PySem.Program}{w:PySem.World}{K:GI}{mg:PySem.Str->Option PySem.Value}{base:PySem.Heap}
theorem YX(h:us.length=n+1) : ∃a t,us=a::t/\t.length=n:=by
 cases us with
 | nil=>exact absurd h<|Nat.zero_ne_add_one n
 | cons a t=>exact⟨a,t,rfl,Nat.succ.inj h⟩
theorem GE(h:us.length=1) : ∃a,us=[a]:=by obtain⟨a,I,rfl,z⟩:=YX h;rw[HF z];exact⟨a,rfl⟩
theorem GD(h:us.length=2) : ∃a b,us=[a,b]:=by obtain⟨a,I,rfl,z⟩:=YX h;obtain⟨b,O,rfl,d⟩:=YX z;rw[HF d];exact⟨a,b,rfl⟩
theorem GC(h:us.length=3) : ∃a b c,us=[a,b,c]:=by obtain⟨a,I,rfl,z⟩:=YX h;obtain⟨b,O,rfl,d⟩:=YX z;obtain⟨c,U,rfl,e⟩:=YX d;rw[HF e];exact⟨a,b,c,rfl⟩
theorem GB(h:us.length=4) : ∃a b c d,us=[a,b,c,d]:=by obtain⟨a,O,rfl,z⟩:=YX h;obtain⟨b,U,rfl,e⟩:=YX z;obtain⟨c,g,rfl,f⟩:=YX e;obtain⟨d,i,rfl,I⟩:=YX f;rw[HF I];exact⟨a,b,c,d,rfl⟩
theorem GA{C:Type}{us:List C}(h:us.length=5) : ∃a b c d e,us=[a,b,c,d,e]:=by obtain⟨a,U,rfl,z⟩:=YX h;obtain⟨b,i,rfl,f⟩:=YX z;obtain⟨c,j,rfl,g⟩:=YX f;obtain⟨d,k,rfl,I⟩:=YX g;obtain⟨e,l,rfl,O⟩:=YX I;rw[HF O];exact⟨a,b,c,d,e,rfl⟩
structure E0(K:GI)(mg:PySem.Str->Option PySem.Value):Prop where
 Q0:gR K mg "_law_cell" (top 52) ["_law_script","_law_k"]
 Q1:gR K mg "_law_ways" (top 56) ["_law_cell_here","_law_rooms"]
 Q2:gR K mg "_law_stretches" (top 55) ["_law_script","_law_at","_law_many","_law_rooms"]
 Q3:gR K mg "_law_ends" (top 54) ["_law_ways_here","_law_k"]
 Q4:gR K mg "_law_bar_tables" (top 58) ["_law_ways_here","_law_bars"]
 Q5:gR K mg "_law_times" (top 57) ["_law_p","_law_one","_law_other","_law_wide"]
 Q6:gR K mg "_law_turn" (top 59) ["_law_script","_law_at","_law_p","_law_size"]
 Q7:gR K mg "_law_row" (top 60) ["_law_script","_law_at","_law_p","_law_ways_here","_law_bars"]
 Q8:gR K mg "_law_handed" (top 61) ["_law_p","_law_ways_here","_law_row_here"]
 Q9:gR K mg "_law_undone" (top 65) ["_law_p","_law_widths","_law_there","_law_back"]
 Qa:gR K mg "_law_whole" (top 53) ["_law_found"]
 Qb:gR K mg "_law_is_table" (top 62) ["_law_found","_law_p","_law_high","_law_wide"]
 Qc:gR K mg "_law_are_tables" (top 63) ["_law_found","_law_p","_law_highs","_law_wides"]
 Qd:gR K mg "_law_passes" (top 64) ["_law_p","_law_ways_here","_law_one","_law_other","_law_tables"]
 Qe:gR K mg "_law_right" (top 66) ["_law_found","_law_p","_law_ways_here","_law_one","_law_other"]
 Qf:gR K mg "ways_of" (top 36) ["row"]
 Qg:gR K mg "one_kind" (top 37) ["one","other"]
 Qh:gR K mg "ask_one_kind" (top 38) ["one","other"]
 Qi:gR K mg "behind_noughts" (top 15) ["many","base"]
 Qj:gR K mg "rests" (top 5) ["p","numbers"]
 Qk:gR K mg "inverse" (top 6) ["p","x"]
 Ql:gR K mg "cleared" (top 13) ["p","load","pivot","place"]
 Qm:gR K mg "base_of" (top 14) ["p","long","loads"]
 Qn:gR K mg "turned_over" (top 9) ["table"]
 Qo:gR K mg "same_table" (top 10) ["many"]
 Qp:gR K mg "led_into" (top 16) ["p","table","base"]
 Qq:gR K mg "kernel" (top 17) ["p","table"]
 Qr:gR K mg "image" (top 18) ["p","table"]
 Qs:gR K mg "columns" (top 25) ["high","loads"]
 Qt:gR K mg "has_room" (top 23) ["bar","room"]
 Qu:gR K mg "loads_in" (top 24) ["bars","room"]
 Qv:gR K mg "lead_of" (top 12) ["load"]
 Qw:gR K mg "led" (top 7) ["p","table","load"]
 Qx:gR K mg "mixed_load" (top 26) ["row","bars","times","room"]
 Qy:gR K mg "mixed" (top 27) ["row","bars","times"]
 Qz:gR K mg "settled" (top 28) ["row","k","bars"]
 PM:gR K mg "solved" (top 19) ["p","table","load"]
 PN:gR K mg "next_load" (top 29) ["p","arrow","load"]
 PR:gR K mg "taken_on" (top 30) ["p","arrow","bar"]
 PU:gR K mg "new_loads" (top 31) ["p","arrow"]
 PX:gR K mg "grown" (top 32) ["row","k","bars"]
 PY:gR K mg "stretch_of" (top 22) ["bar"]
 PZ:gR K mg "all_grown" (top 33) ["row"]
 P0:gR K mg "back_of" (top 20) ["p","table"]
 P1:gR K mg "barred" (top 34) ["row"]
 P2:gR K mg "product" (top 8) ["p","one","other"]
 P4:gR K mg "room_by_room" (top 47) ["p","ones","others"]
 P5:gR K mg "stretches_of" (top 40) ["many"]
 P6:gR K mg "left_holds" (top 42) ["ways","one","other"]
 P7:gR K mg "right_holds" (top 43) ["ways","one","other"]
 P8:gR K mg "bar_ways" (top 44) ["ways","one","other"]
 P9:gR K mg "ways_into" (top 45) ["ways","bars","bar"]
 Ra:gR K mg "are_told_apart" (top 48) ["ways","ones","others","bar"]
 Rb:gR K mg "apart" (top 49) ["ways","ones","others"]
 Rc:gR K mg "alike" (top 50) ["one","other"]
 Rf:gR K mg "law" (top 67) ["_law_script"]
 Z0:mg "len" = dj
 Z1:mg "min" = dj
 Z2:mg "range" = dj
 Z3:mg "sorted" = dj
 Z4:mg "int" = dj
 Z5:mg "sum" = dj
 Z6:mg "zip" = dj
 Z7:mg "tuple" = dj
 Z8:mg "bool" = dj
 Z9:mg "isinstance" = dj
 Za:mg "all" = dj
 Zb:mg "list" = dj
 Zc:mg "any" = dj
 Zd:mg "enumerate" = dj
 Ze:mg "dict" = dj
 Zf:mg "max" = dj
theorem vb(E:E0 K mg):gm P w K mg base 1 "_law_cell" 2 jr:=
 qZ (N:=["_law_script","_law_k","_law_cell_here","_law_turn_here","_law_given"]) E.Q0 ⋯ λX I b O a U z d=>by subst I b O a U;exact by refine zf (jX (Xk (bC (VO (qx z ⋯ E.Z0 (zJ z)) zh) (VL (kZ z (qw (zv (zJ z) zh) zh) zh)))) (by refine zf (jA z (zv (zJ z) (jW zh (qw (zq z) (yj (qx z ⋯ E.Z0 (zJ z)) zh))))) ?_;refine zf (qS d z (z5 z ⋯ E.Z2 (bH z ⋯ E.Z1 zh (vq (zq z) (yj (qx z ⋯ E.Z0 (zJ z)) zh)))) (zm (jA z (vq (zq z) (bF zh zh))))) ?_;exact(zm (zG (qw (zq z) (bF zh zh))))) zZ) ?_;refine zf (jA z (zq z)) ?_;refine zf (jX (VO (qx z ⋯ E.Z0 (zJ z)) zh) (zm (jA z (zv (zJ z) (qw (zq z) (qx z ⋯ E.Z0 (zJ z)))))) zZ) ?_;exact(zm (zG (qw (xE (qw (jW (jW (jW (xE (qw (zq z) (bF zh zh)) zh) (xE (xE zh (zq z)) (zq z))) (xE zh (zq z))) zh) zh) zh) zh)))
theorem Jc(E:E0 K mg):gm P w K mg base 1 "_law_ways" 2 xj:=
 qZ (N:=["_law_cell_here","_law_rooms"]) E.Q1 ⋯ λX I d O b U z e=>by subst I d O b U;exact zm (zG (bI xD (PO.q (qz z (ij.c (z5 z ⋯ E.Z2 (yj (zq z) zh))) (λ_ _ _ a=>vp xD (qw (vq (zq a) (zv (PO.q (xF (xO (za zh (za zh (za zh (za zh (za zh zl)))))))) (zq a))) zh))))))
theorem Zg(E:E0 K mg):gm P w K mg base 2 "_law_stretches" 4 qU:=
 qZ (N:=["_law_script","_law_at","_law_many","_law_rooms","_law_some","_law_k","_law_cell_here","_law_i"]) E.Q2 ⋯ λX I b O a U z d=>by subst I b O a U;exact by refine zf (yk z (xF (xO zl))) ?_;refine zf (qS d z (z5 z ⋯ E.Z2 (zq z)) (by refine zf (jA z (zY (vb E) z (za (zq z) (za (jW (zq z) (zq z)) zl)))) ?_;refine zf (jA z (qw (zq z) (zq z))) ?_;exact(zm (y8 4 z ⋯ (jI (xO (za (zq z) (za (jW (zq z) (qw (vq (zq z) (zq z)) (yj (zq z) (zq z)))) zl)))))))) ?_;exact(zm (qR (gO z ⋯ E.Z3 (zJ z))))
theorem kH(E:E0 K mg):gm P w K mg base 1 "_law_ends" 2 qv:=
 qZ (N:=["_law_ways_here","_law_k"]) E.Q3 ⋯ λX I b O a U z d=>by subst I b O a U;exact by refine zf (jX (kZ z (vp (zq z) (zq z)) xD) (zm (zG (jI (xO (za (zq z) (za (jW (zq z) zh) zl)))))) zZ) ?_;exact(zm (zG (jI (xO (za (jW (zq z) zh) (za (zq z) zl))))))
theorem wj(E:E0 K mg):gm P w K mg base 2 "_law_bar_tables" 2 qg:=
 qZ (N:=["_law_ways_here","_law_bars","_law_numbered","_law_room","_law_tables","_law_k","_law_begin","_law_end"]) E.Q4 ⋯ λX I f O e U z d=>by subst I f O e U;exact by refine zf (yk z (xF (xO zl))) ?_;refine zf (qS d z (z5 z ⋯ E.Z2 (jW (v9 z ⋯ E.Z0 (zq z)) zh)) (zm (y8 2 z ⋯ (PO.v (Kz z (ij.c (z5 z ⋯ E.Z2 (qx z ⋯ E.Z0 (zJ z)))) (λ_ _ _ a=>bM ia ia VC VC (zv (PV.q (zv (zJ a) (zq a))) zh) (zq a) (zv (PV.q (zv (zJ a) (zq a))) zh)) (λ_ _ _ a=>zq a)))))) ?_;exact(by refine zf (Xl 2 (yk z (xF (xO zl)))) ?_;exact(by refine zf (qS d z (z5 z ⋯ E.Z2 (v9 z ⋯ E.Z0 (zq z))) (by refine zf (yF (rH z) (zY (kH E) z (za (zq z) (za (zq z) zl)))) ?_;exact(zm (y8 4 z ⋯ (PO.v (qz z (jb (PV.q (zv (zJ z) (zq z)))) (λ_ _ _ a=>PO.v (qz a (jb (PV.q (zv (zJ a) (zq a)))) (λ_ _ _ b=>Xj b ⋯ E.Z4 (Kv b (zq b) (zq b))))))))))) ?_;exact(zm (Xl 4 (zG (jI (xO (za (PO.v (qz z (jb (zJ z)) (λ_ _ _ a=>qx a ⋯ E.Z0 (zJ a)))) (za (zq z) zl)))))))))
theorem j1(E:E0 K mg):gm P w K mg base 1 "_law_times" 4 zM:=
 qZ (N:=["_law_p","_law_one","_law_other","_law_wide","_law_rows","_law_row_here"]) E.Q5 ⋯ λX I e O d U z f=>by subst I e O d U;exact by refine zf (yk z (xF (xO zl))) ?_;refine zf (qS f z (ZY (zq z)) (zm (y8 4 z ⋯ (PO.v (qz z (ij.c (z5 z ⋯ E.Z2 (zq z))) (λ_ _ _ a=>qw (bD a ⋯ E.Z5 (PO.q (qz a (ij.c (z5 a ⋯ E.Z2 (qx a ⋯ E.Z0 (zJ a)))) (λ_ _ _ b=>xE (zv (zJ b) (zq b)) (zv (PV.q (zv (zJ b) (zq b))) (zq b)))))) (zq a))))))) ?_;exact(zm (vw 4 (z.var ⋯)))
theorem JS(E:E0 K mg):gm P w K mg base 2 "_law_turn" 4 qb:=
 qZ (N:=["_law_script","_law_at","_law_p","_law_size","_law_turn_here","_law_back","_law_k","_law_cell_here","_law_i","_law_j","_law_times_here","_law_row_here"]) E.Q6 ⋯ λX I f O e U z d=>by subst I f O e U;exact by refine zf (VP 4 (y9 z (ij.c (z5 z ⋯ E.Z2 (zq z))) (λ_ _ _ a=>PO.v (qz a (ij.c (z5 a ⋯ E.Z2 (zq a))) (λ_ _ _ b=>Xj b ⋯ E.Z4 (Kv b (zq b) (zq b))))))) ?_;refine zf (ua z (ij.c (z5 z ⋯ E.Z2 (zq z))) (λ_ _ _ a=>qz a (ij.c (z5 a ⋯ E.Z2 (zq a))) (λ_ _ _ b=>Xj b ⋯ E.Z4 (Kv b (zq b) (zq b))))) ?_;refine zf (qS d z (z5 z ⋯ E.Z2 (yj (xE zh (zq z)) zh)) (by refine zf (jA z (zY (vb E) z (za (zq z) (za (jW (zq z) (zq z)) zl)))) ?_;refine zf (jA z (qw (zq z) (zq z))) ?_;refine zf (jA z (qw (jW (jW (zq z) zh) (qw (vq (zq z) zh) (yj (zq z) zh))) (zq z))) ?_;refine zf (jA z (qw (vq (zq z) zh) (zq z))) ?_;refine zf (Kw 4 z ⋯ (zq z) (PO.v (qz z (ij.c (wO z ⋯ E.Z6 (zv (zJ z) (zq z)) (zv (zJ z) (zq z)))) (λ_ _ _ a=>qw (jW (zq a) (xE (zq a) (zq a))) (zq a))))) ?_;exact(zm (WK 5 11 (my d) z.calm z ⋯ ⋯ (z.DA 11 ⋯) (zq z) (qw (yj (zv (zJ z) (zq z)) (xE (zq z) (zv (zJ z) (zq z)))) (zq z)))))) ?_;exact(zm (gK 5 (Xl 4 (zG (jI (xO (za (zq z) (za (zq z) zl))))))))
theorem vz(E:E0 K mg):gm P w K mg base 3 "_law_row" 5 qr:=
 qZ (N:=["_law_script","_law_at","_law_p","_law_ways_here","_law_bars","_law_widths","_law_tables","_law_turns","_law_k","_law_made","_law_begin","_law_end","_law_half"]) E.Q7 ⋯ λX I d O b U z a=>by subst I d O b U;exact by refine zf (yF (rH z) (zY (wj E) z (za (zq z) (za (zq z) zl)))) ?_;refine zf (yk z (xF (xO zl))) ?_;refine zf (qS a z (z5 z ⋯ E.Z2 (qx z ⋯ E.Z0 (zJ z))) (zm (y8 7 z ⋯ (zY (JS E) z (za (zq z) (za (jW (zq z) (xE zh (zq z))) (za (zq z) (za (zv (zJ z) (zq z)) zl)))))))) ?_;refine zf (yk z (xF (xO zl))) ?_;refine zf (qS a z (z5 z ⋯ E.Z2 (v9 z ⋯ E.Z0 (zq z))) (by refine zf (yF (rH z) (zY (kH E) z (za (zq z) (za (zq z) zl)))) ?_;refine zf (jA z (PO.v (qX (j1 E) z (za (zq z) (za (zv (zJ z) (zq z)) (za (zv (PV.q (zv (zJ z) (zq z))) zh) (za (zv (zJ z) (zq z)) zl))))))) ?_;exact(zm (y8 9 z ⋯ (PO.v (qX (j1 E) z (za (zq z) (za (zv (PV.q (zv (zJ z) (zq z))) zh) (za (zq z) (za (zv (zJ z) (zq z)) zl)))))))))) ?_;exact(zm (Xl 9 (zG (jI (xO (za (zq z) (za (zq z) zl)))))))
theorem k4(E:E0 K mg):gm P w K mg base 2 "_law_handed" 3 qV:=
 qZ (N:=["_law_p","_law_ways_here","_law_row_here","_law_widths","_law_tables","_law_arrows","_law_k","_law_begin","_law_end","_law_rows"]) E.Q8 ⋯ λX I d O b U z e=>by subst I d O b U;exact by refine zf (yF (rH z) (zq z)) ?_;refine zf (yk z (xF (xO zl))) ?_;refine zf (qS e z (z5 z ⋯ E.Z2 (v9 z ⋯ E.Z0 (zq z))) (by refine zf (yF (rH z) (zY (kH E) z (za (zq z) (za (zq z) zl)))) ?_;refine zf (jA z (qj z ⋯ E.Z7 (PO.q (qz z (jb (PV.q (zv (zJ z) (zq z)))) (λ_ _ _ a=>qj a ⋯ E.Z7 (zJ a)))))) ?_;exact(zm (y8 5 z ⋯ (jI (xO (za (vp (zq z) (zq z)) (za (jI (xO (za (zv (zJ z) (zq z)) (za (zv (zJ z) (zq z)) (za (zq z) zl))))) zl)))))))) ?_;exact(zm (zG (jI (xO (za (zq z) (za (qj z ⋯ E.Z7 (zJ z)) (za (qj z ⋯ E.Z7 (zJ z)) zl)))))))
theorem w9(E:E0 K mg):gm P w K mg base 2 "_law_undone" 4 qT:=
 qZ (N:=["_law_p","_law_widths","_law_there","_law_back","_law_k","_law_same"]) E.Q9 ⋯ λX I e O d U z f=>by subst I e O d U;exact by refine zf (qS f z (z5 z ⋯ E.Z2 (qx z ⋯ E.Z0 (zJ z))) (by refine zf (jQ 5 (y9 z (ij.c (z5 z ⋯ E.Z2 (zv (zJ z) (zq z)))) (λ_ _ _ a=>PO.v (qz a (ij.c (z5 a ⋯ E.Z2 (zv (zJ a) (zq a)))) (λ_ _ _ b=>Xj b ⋯ E.Z4 (Kv b (zq b) (zq b))))))) ?_;refine zf (jX (xl z (PO.v (qX (j1 E) z (za (zq z) (za (zv (PV.q (zv (zJ z) (zq z))) zh) (za (zv (PV.q (zv (zJ z) (zq z))) zh) (za (zv (zJ z) (zq z)) zl)))))) (zq z)) (zm (zG k9)) zZ) ?_;exact(zm (jX (xl z (PO.v (qX (j1 E) z (za (zq z) (za (zv (PV.q (zv (zJ z) (zq z))) zh) (za (zv (PV.q (zv (zJ z) (zq z))) zh) (za (zv (zJ z) (zq z)) zl)))))) (zq z)) (zm (zG k9)) zZ)))) ?_;exact(zm (zG k9))
theorem yn(E:E0 K mg):gm P w K mg base 1 "_law_whole" 1 jB:=
 qZ (N:=["_law_found"]) E.Qa ⋯ λX I b O a U z d=>by subst I b O a U;exact zm (zG (bK (bJ z ⋯ E.Z9 ⋯ E.Z4 (zq z)) (bG (tM (WI z ⋯ E.Z9 ⋯ E.Z8 (zq z))))))
theorem vB(E:E0 K mg):gm P w K mg base 2 "_law_is_table" 4 j5:=
 qZ (N:=["_law_found","_law_p","_law_high","_law_wide","_law_row_here"]) E.Qb ⋯ λX I d O b U z e=>by subst I d O b U;exact by refine zf (jX (Xk (kY (qo (jJ (kG z ⋯ E.Z9 ⋯ E.Z7 (zq z)))) (kY (xl z (qx z ⋯ E.Z0 (zJ z)) zh) (kY (qo (jJ (zY (yn E) z (za (zv (zJ z) zh) zl)))) (y6 (qo (jJ (zY (yn E) z (za (zv (zJ z) zh) zl))))))))) (zm (zG k9)) zZ) ?_;refine zf (jX (Xk (kY (xl z (zv (zJ z) zh) (zq z)) (kY (xl z (zv (zJ z) zh) (zq z)) (kY (qo (jJ (kG z ⋯ E.Z9 ⋯ E.Z7 (zv (zJ z) zh)))) (y6 (xl z (qx z ⋯ E.Z0 (PV.q (zv (zJ z) zh))) (zq z))))))) (zm (zG k9)) zZ) ?_;refine zf (qS e z (ZY (zv (zJ z) zh)) (by refine zf (jX (Xk (kY (qo (jJ (kG z ⋯ E.Z9 ⋯ E.Z7 (zq z)))) (y6 (xl z (qx z ⋯ E.Z0 (zJ z)) (zq z))))) (zm (zG k9)) zZ) ?_;exact(zm (jX (qo (jJ (mn z ⋯ E.Za (PO.q (qz z (jb (zJ z)) (λ_ _ _ a=>bK (zY (yn E) a (za (zq a) zl)) (bG (VN ia oX VC aT zh (zq a) (zq a))))))))) (zm (zG k9)) zZ)))) ?_;exact(zm (zG k9))
theorem xq(E:E0 K mg):gm P w K mg base 3 "_law_are_tables" 4 js:=
 qZ (N:=["_law_found","_law_p","_law_highs","_law_wides"]) E.Qc ⋯ λX I d O b U z e=>by subst I d O b U;exact by refine zf (jX (Xk (kY (qo (jJ (WH z ⋯ E.Z9 ⋯ E.Zb (zq z)))) (y6 (xl z (qx z ⋯ E.Z0 (zJ z)) (qx z ⋯ E.Z0 (zJ z)))))) (zm (zG k9)) zZ) ?_;exact(zm (zG (mn z ⋯ E.Za (PO.q (qz z (ij.c (z5 z ⋯ E.Z2 (qx z ⋯ E.Z0 (zJ z)))) (λ_ _ _ a=>zY (vB E) a (za (zv (zJ a) (zq a)) (za (zq a) (za (zv (zJ a) (zq a)) (za (zv (zJ a) (zq a)) zl))))))))))
theorem k3(E:E0 K mg):gm P w K mg base 2 "_law_passes" 5 qt:=
 qZ (N:=["_law_p","_law_ways_here","_law_one","_law_other","_law_tables","_law_k","_law_begin","_law_end","_law_wide","_law_first"]) E.Qd ⋯ λX I b O a U z d=>by subst I b O a U;exact by refine zf (qS d z (z5 z ⋯ E.Z2 (v9 z ⋯ E.Z0 (zq z))) (by refine zf (yF (rH z) (zY (kH E) z (za (zq z) (za (zq z) zl)))) ?_;refine zf (jA z (zv (PV.q (zv (zJ z) zh)) (zq z))) ?_;refine zf (jA z (PO.v (qX (j1 E) z (za (zq z) (za (zv (PV.q (zv (zJ z) (zq z))) zh) (za (zv (PV.q (zv (zJ z) zh)) (zq z)) (za (zq z) zl))))))) ?_;exact(zm (jX (xl z (zq z) (PO.v (qX (j1 E) z (za (zq z) (za (zv (PV.q (zv (zJ z) zh)) (zq z)) (za (zv (PV.q (zv (zJ z) (zq z))) zh) (za (zq z) zl))))))) (zm (zG k9)) zZ)))) ?_;exact(zm (zG k9))
theorem Jd(E:E0 K mg):gm P w K mg base 4 "_law_right" 5 jG:=
 qZ (N:=["_law_found","_law_p","_law_ways_here","_law_one","_law_other"]) E.Qe ⋯ λX I b O a U z d=>by subst I b O a U;exact by refine zf (jX (Xk (kY (qo (jJ (kG z ⋯ E.Z9 ⋯ E.Z7 (zq z)))) (kY (xl z (qx z ⋯ E.Z0 (zJ z)) zh) (y6 (xl z (zv (zJ z) zh) xD))))) (zm (zG k9)) zZ) ?_;refine zf (jX (Xk (kY (qo (jJ (zY (xq E) z (za (zv (zJ z) zh) (za (zq z) (za (zv (zJ z) zh) (za (zv (zJ z) zh) zl))))))) (y6 (qo (jJ (zY (xq E) z (za (zv (zJ z) zh) (za (zq z) (za (zv (zJ z) zh) (za (zv (zJ z) zh) zl)))))))))) (zm (zG k9)) zZ) ?_;refine zf (jX (Xk (kY (qo (jJ (zY (k3 E) z (za (zq z) (za (zq z) (za (zq z) (za (zq z) (za (zv (zJ z) zh) zl)))))))) (y6 (qo (jJ (zY (k3 E) z (za (zq z) (za (zq z) (za (zq z) (za (zq z) (za (zv (zJ z) zh) zl))))))))))) (zm (zG k9)) zZ) ?_;exact(zm (zG (zY (w9 E) z (za (zq z) (za (zv (zJ z) zh) (za (zv (zJ z) zh) (za (zv (zJ z) zh) zl)))))))
theorem wg(E:E0 K mg):gm P w K mg base 1 "ways_of" 1 ky:=
 qZ (N:=["row"]) E.Qf ⋯ λX I d O b U z e=>by subst I d O b U;exact zm (zG (bI xD (PO.q (qz z (jb (PV.q (zv (zJ z) zh))) (λ_ _ _ a=>zv (zJ a) zh)))))
theorem YL(E:E0 K mg):gm P w K mg base 2 "one_kind" 2 xB:=
 qZ (N:=["one","other"]) E.Qg ⋯ λX I b O a U z d=>by subst I b O a U;exact zm (zG (bK (Kv z (zv (zJ z) zh) (zv (zJ z) zh)) (bG (Kv z (zY (wg E) z (za (zq z) zl)) (zY (wg E) z (za (zq z) zl))))))
theorem Je(E:E0 K mg):gm P w K mg base 3 "ask_one_kind" 2 xk:=
 qZ (N:=["one","other"]) E.Qh ⋯ λX I b O a U z d=>by subst I b O a U;exact zm (jX (qo (jJ (zY (YL E) z (za (zq z) (za (zq z) zl))))) (zm Kx) zZ)
theorem wo(E:E0 K mg):gm P w K mg base 1 "behind_noughts" 2 jO:=
 qZ (N:=["many","base"]) E.Qi ⋯ λX I d O b U z e=>by subst I d O b U;exact zm (qR (Kz z (jb (zJ z)) (λ_ _ _ a=>qo (jJ (mj a ⋯ E.Zc (PV.q (VM (zq a) Xr (Xq (zq a))))))) (λ_ _ _ a=>VM (zq a) (Xq (zq a)) Xr)))
theorem Zo(E:E0 K mg):gm P w K mg base 1 "rests" 2 xp:=
 qZ (N:=["p","numbers"]) E.Qj ⋯ λX I d O b U z e=>by subst I d O b U;exact zm (zG (qj z ⋯ E.Z7 (PO.q (qz z (jb (zJ z)) (λ_ _ _ a=>qw (zq a) (zq a))))))
theorem WU(E:E0 K mg):gm P w K mg base 1 "inverse" 2 vV:=
 qZ (N:=["p","x","y"]) E.Qk ⋯ λX I b O a U z d=>by subst I b O a U;exact by refine zf (qS d z (VS z ⋯ E.Z2 zh (zq z)) (zm (jX (kZ z (qw (xE (zq z) (zq z)) (zq z)) zh) (zm (vw 2 (z.var ⋯))) zZ))) ?_;exact(zm Kx)
theorem J9(E:E0 K mg):gm P w K mg base 2 "cleared" 4 qF:=
 qZ (N:=["p","load","pivot","place","much"]) E.Ql ⋯ λX I d O b U z e=>by subst I d O b U;exact by refine zf (jA z (zv (zJ z) (zq z))) ?_;refine zf (jX (kZ z (zq z) zh) (zm (vw 1 (z.var ⋯))) zZ) ?_;exact(zm (zG (zY (Zo E) z (za (zq z) (za (PO.v (qz z (ij.c (wO z ⋯ E.Z6 (zq z) (zq z))) (λ_ _ _ a=>yj (zq a) (xE (zq a) (zq a))))) zl)))))
theorem yH(E:E0 K mg):gm P w K mg base 3 "base_of" 3 qG:=
 qZ (N:=["p","long","loads","left","base","place","leading","times","pivot"]) E.Qm ⋯ λX I d O b U z e=>by subst I d O b U;exact by refine zf (jQ 3 (y9 z (jb (zJ z)) (λ_ _ _ a=>zY (Zo E) a (za (zq a) (za (zq a) zl))))) ?_;refine zf (yk z (xF (xO zl))) ?_;refine zf (qS e z (z5 z ⋯ E.Z2 (zq z)) (by refine zf (jQ 6 (oG z (jb (zJ z)) (λ_ _ _ a=>xl a (zv (zJ a) (zq a)) zh) (λ_ _ _ a=>zq a))) ?_;refine zf (jX (qo (gF (zJ z))) (zm Ky) zZ) ?_;refine zf (jA z (zY (WU E) z (za (zq z) (za (zv (PV.q (zv (zJ z) zh)) (zq z)) zl)))) ?_;refine zf (jA z (zY (Zo E) z (za (zq z) (za (PO.v (qz z (jb (PV.q (zv (zJ z) zh))) (λ_ _ _ a=>xE (zq a) (zq a)))) zl)))) ?_;refine zf (jQ 3 (y9 z (jb (zJ z)) (λ_ _ _ a=>zY (J9 E) a (za (zq a) (za (zq a) (za (zq a) (za (zq a) zl))))))) ?_;exact(zm (yk z (KA (PO.q (qz z (jb (zJ z)) (λ_ _ _ a=>zY (J9 E) a (za (zq a) (za (zq a) (za (zq a) (za (zq a) zl))))))) (PO.q (xF (xO (za (zq z) zl))))))))) ?_;exact(zm (vw 4 (z.var ⋯)))
theorem xh(E:E0 K mg):gm P w K mg base 1 "turned_over" 1 qa:=
 qZ (N:=["table","columns"]) E.Qn ⋯ λX I e O d U z f=>by subst I e O d U;exact by refine zf (jQ 1 (y9 z (ij.c (z5 z ⋯ E.Z2 (zv (zJ z) zh))) (λ_ _ _ a=>qj a ⋯ E.Z7 (PO.q (qz a (jb (PV.q (zv (zJ a) zh))) (λ_ _ _ b=>zv (zJ b) (zq b))))))) ?_;exact(zm (zG (jI (xO (za (zv (zJ z) zh) (za (zv (zJ z) zh) (za (qj z ⋯ E.Z7 (zJ z)) zl)))))))
theorem xw(E:E0 K mg):gm P w K mg base 1 "same_table" 1 j6:=
 qZ (N:=["many","rows"]) E.Qo ⋯ λX I e O d U z f=>by subst I e O d U;exact by refine zf (jQ 1 (y9 z (ij.c (z5 z ⋯ E.Z2 (zq z))) (λ_ _ _ a=>qj a ⋯ E.Z7 (PO.q (qz a (ij.c (z5 a ⋯ E.Z2 (zq a))) (λ_ _ _ b=>xu (kZ b (zq b) (zq b)) zh zh)))))) ?_;exact(zm (zG (jI (xO (za (zq z) (za (zq z) (za (qj z ⋯ E.Z7 (zJ z)) zl)))))))
theorem Jb(E:E0 K mg):gm P w K mg base 4 "led_into" 3 xf:=
 qZ (N:=["p","table","base","pairs","free"]) E.Qp ⋯ λX I d O b U z e=>by subst I d O b U;exact by refine zf (jQ 3 (y9 z (ij.c (wO z ⋯ E.Z6 (zv (PV.q (zY (xh E) z (za (zq z) zl))) zh) (zv (PV.q (zY (xw E) z (za (zv (zJ z) zh) zl))) zh))) (λ_ _ _ a=>jW (zq a) (zq a)))) ?_;refine zf (jQ 4 (y9 z (jb (zJ z)) (λ_ _ _ a=>jW (zq a) (xE (jI (xO (za zh zl))) (zv (zJ a) zh))))) ?_;exact(zm (qR (qX (wo E) z (za (zv (zJ z) zh) (za (PO.v (qX (yH E) z (za (zq z) (za (jW (zv (zJ z) zh) (zv (zJ z) zh)) (za (PO.v (KA (zJ z) (zJ z))) zl))))) zl)))))
theorem KL(E:E0 K mg):gm P w K mg base 5 "kernel" 2 yO:=
 qZ (N:=["p","table"]) E.Qq ⋯ λX I b O a U z d=>by subst I b O a U;exact zm (qR (qX (Jb E) z (za (zq z) (za (zq z) (za (PO.v (xF (xO zl))) zl)))))
theorem VV(E:E0 K mg):gm P w K mg base 4 "image" 2 wK:=
 qZ (N:=["p","table"]) E.Qr ⋯ λX I b O a U z d=>by subst I b O a U;exact zm (qR (qX (yH E) z (za (zq z) (za (zv (zJ z) zh) (za (zv (PV.q (zY (xh E) z (za (zq z) zl))) zh) zl)))))
theorem wm(E:E0 K mg):gm P w K mg base 2 "columns" 2 xK:=
 qZ (N:=["high","loads"]) E.Qs ⋯ λX I b O a U z d=>by subst I b O a U;exact zm (zG (zY (xh E) z (za (jI (xO (za (qx z ⋯ E.Z0 (zJ z)) (za (zq z) (za (qj z ⋯ E.Z7 (zJ z)) zl))))) zl)))
theorem kI(E:E0 K mg):gm P w K mg base 1 "has_room" 2 jN:=
 qZ (N:=["bar","room"]) E.Qt ⋯ λX I b O a U z d=>by subst I b O a U;exact zm (zG (VN ia oX VC aT (zv (zJ z) zh) (zq z) (jW (zv (zJ z) zh) (qx z ⋯ E.Z0 (PV.q (zv (zJ z) zh))))))
theorem va(E:E0 K mg):gm P w K mg base 2 "loads_in" 2 qL:=
 qZ (N:=["bars","room"]) E.Qu ⋯ λX I d O b U z e=>by subst I d O b U;exact zm (qR (Kz z (jb (zJ z)) (λ_ _ _ a=>jJ (zY (kI E) a (za (zq a) (za (zq a) zl)))) (λ_ _ _ a=>zv (PV.q (zv (zJ a) zh)) (yj (zq a) (zv (zJ a) zh)))))
theorem yG(E:E0 K mg):gm P w K mg base 1 "lead_of" 1 qE:=
 qZ (N:=["load"]) E.Qv ⋯ λX I d O b U z e=>by subst I d O b U;exact zm (zG (zv (PO.q (Kz z (ij.c (bX z ⋯ E.Zd (zq z))) (λ_ _ _ a=>xl a (zq a) zh) (λ_ _ _ a=>zq a))) zh))
theorem cC(E:E0 K mg):gm P w K mg base 2 "led" 3 Vm:=
 qZ (N:=["p","table","load"]) E.Qw ⋯ λX I e O d U z f=>by subst I e O d U;exact zm (zG (zY (Zo E) z (za (zq z) (za (PO.v (qz z (jb (PV.q (zv (zJ z) zh))) (λ_ _ _ a=>bD a ⋯ E.Z5 (PO.q (qz a (ij.c (wO a ⋯ E.Z6 (zq a) (zq a))) (λ_ _ _ b=>xE (zq b) (zq b))))))) zl))))
theorem Xs(E:E0 K mg):gm P w K mg base 3 "mixed_load" 4 xY:=
 qZ (N:=["row","bars","times","room","there"]) E.Qx ⋯ λX I d O b U z e=>by subst I d O b U;exact by refine zf (jQ 4 (oG z (ij.c (wO z ⋯ E.Z6 (zq z) (zq z))) (λ_ _ _ a=>jJ (zY (kI E) a (za (zq a) (za (zq a) zl)))) (λ_ _ _ a=>zq a))) ?_;exact(zm (zG (zY (cC E) z (za (zv (zJ z) zh) (za (zY (wm E) z (za (zv (PV.q (zv (zJ z) zh)) (zq z)) (za (PO.v (qX (va E) z (za (zq z) (za (zq z) zl)))) zl))) (za (zq z) zl))))))
theorem ie(E:E0 K mg):gm P w K mg base 4 "mixed" 3 XX:=
 qZ (N:=["row","bars","times","first","loads"]) E.Qy ⋯ λX I d O b U z e=>by subst I d O b U;exact by refine zf (jA z (zv (zJ z) (zY (yG E) z (za (zq z) zl)))) ?_;refine zf (jQ 4 (y9 z (ij.c (z5 z ⋯ E.Z2 (qx z ⋯ E.Z0 (PV.q (zv (zJ z) zh))))) (λ_ _ _ a=>zY (Xs E) a (za (zq a) (za (zq a) (za (zq a) (za (jW (zv (zJ a) zh) (zq a)) zl))))))) ?_;exact(zm (zG (jI (xO (za (zv (zJ z) zh) (za (qj z ⋯ E.Z7 (zJ z)) zl))))))
theorem WS(E:E0 K mg):gm P w K mg base 6 "settled" 3 vT:=
 qZ (N:=["row","k","bars","way","table","special","base","leads"]) E.Qz ⋯ λX I d O b U z e=>by subst I d O b U;exact by refine zf (jA z (zv (PV.q (zv (PV.q (zv (zJ z) zh)) (zq z))) zh)) ?_;refine zf (jA z (zv (PV.q (zv (PV.q (zv (zJ z) zh)) (zq z))) zh)) ?_;refine zf (jA z (xu (kZ z (zq z) xD) (PO.v (qX (KL E) z (za (zv (zJ z) zh) (za (zq z) zl)))) (PO.v (qX (VV E) z (za (zv (zJ z) zh) (za (zq z) zl)))))) ?_;refine zf (jA z (PO.v (qX (Jb E) z (za (zv (zJ z) zh) (za (zY (wm E) z (za (zv (PV.q (zv (zJ z) zh)) (zq z)) (za (PO.v (qX (va E) z (za (zq z) (za (zq z) zl)))) zl))) (za (zq z) zl)))))) ?_;refine zf (jA z (gC z ⋯ E.Ze (qz z (jb (zJ z)) (λ_ _ _ a=>jI (xO (za (zY (yG E) a (za (zq a) zl)) (za (zq a) zl))))))) ?_;exact(zm (qR (qz z (ij.c (oO z ⋯ E.Zd (zq z))) (λ_ _ _ a=>xu (oA a (zq a) (zq a)) (zY (ie E) a (za (zq a) (za (zq a) (za (tR a (zq a) (zq a)) zl)))) (zq a)))))
theorem cz(E:E0 K mg):gm P w K mg base 4 "solved" 3 yN:=
 qZ (N:=["p","table","load","wide","answer","line","place"]) E.PM ⋯ λX I d O b U z e=>by subst I d O b U;exact by refine zf (jA z (zv (zJ z) zh)) ?_;refine zf (yk z (ud (xF (xO (za zh zl))) (zq z))) ?_;refine zf (qS e z (ZY (PO.v (qX (yH E) z (za (zq z) (za (jW (zq z) zh) (za (PO.v (qz z (ij.c (wO z ⋯ E.Z6 (zv (zJ z) zh) (zq z))) (λ_ _ _ a=>jW (zq a) (jI (xO (za (zq a) zl)))))) zl)))))) (by refine zf (jA z (zY (yG E) z (za (zq z) zl))) ?_;refine zf (jX (kZ z (zq z) (zq z)) (zm (zG Ku)) zZ) ?_;exact(zm (Kw 4 z ⋯ (zq z) (zv (zJ z) (zq z)))))) ?_;exact(zm (zG (qj z ⋯ E.Z7 (zJ z))))
theorem KI(E:E0 K mg):gm P w K mg base 5 "next_load" 3 xc:=
 qZ (N:=["p","arrow","load","there"]) E.PN ⋯ λX I b O a U z d=>by subst I b O a U;exact by refine zf (jX (kZ z (zv (zJ z) zh) xD) (zm (zG (zY (cz E) z (za (zq z) (za (zv (zJ z) zh) (za (zq z) zl)))))) zZ) ?_;refine zf (jA z (zY (cC E) z (za (zq z) (za (zv (zJ z) zh) (za (zq z) zl))))) ?_;exact(zm (zG (xu (jJ (mj z ⋯ E.Zc (zJ z))) (zq z) Ku)))
theorem YK(E:E0 K mg):gm P w K mg base 6 "taken_on" 3 kz:=
 qZ (N:=["p","arrow","bar","load"]) E.PR ⋯ λX I b O a U z d=>by subst I b O a U;exact by refine zf (jA z (zY (KI E) z (za (zq z) (za (zq z) (za (zv (PV.q (zv (zJ z) zh)) (tP zh)) zl))))) ?_;exact(zm (zG (xu (oz (zq z) Ku) (zq z) (jI (xO (za (zv (zJ z) zh) (za (jW (zv (zJ z) zh) (jI (xO (za (zq z) zl)))) zl)))))))
theorem KJ(E:E0 K mg):gm P w K mg base 6 "new_loads" 2 kT:=
 qZ (N:=["p","arrow","leads"]) E.PU ⋯ λX I d O b U z e=>by subst I d O b U;exact by refine zf (jX (kZ z (zv (zJ z) zh) xD) (zm (qR (qX (KL E) z (za (zq z) (za (zv (zJ z) zh) zl))))) zZ) ?_;refine zf (jQ 2 (y9 z (jb (PO.q (qX (VV E) z (za (zq z) (za (zv (zJ z) zh) zl))))) (λ_ _ _ a=>zY (yG E) a (za (zq a) zl)))) ?_;exact(zm (qR (Kz z (ij.c (bX z ⋯ E.Zd (zv (PV.q (zY (xw E) z (za (zv (PV.q (zv (zJ z) zh)) zh) zl))) zh))) (λ_ _ _ a=>WJ (zq a) (zJ a)) (λ_ _ _ a=>zq a))))
theorem ig(E:E0 K mg):gm P w K mg base 7 "grown" 3 JH:=
 qZ (N:=["row","k","bars","p","arrow","ended","here","old","new"]) E.PX ⋯ λX I d O b U z e=>by subst I d O b U;exact by refine zf (jA z (zv (zJ z) zh)) ?_;refine zf (jA z (zv (PV.q (zv (zJ z) zh)) (zq z))) ?_;refine zf (jQ 5 (oG z (jb (zJ z)) (λ_ _ _ a=>qo (jJ (zY (kI E) a (za (zq a) (za (zq a) zl))))) (λ_ _ _ a=>zq a))) ?_;refine zf (jA z (PO.v (qX (WS E) z (za (zq z) (za (zq z) (za (PO.v (Kz z (jb (zJ z)) (λ_ _ _ a=>jJ (zY (kI E) a (za (zq a) (za (zq a) zl)))) (λ_ _ _ a=>zq a))) zl)))))) ?_;refine zf (jQ 7 (y9 z (jb (zJ z)) (λ_ _ _ a=>zY (YK E) a (za (zq a) (za (zq a) (za (zq a) zl)))))) ?_;refine zf (jQ 8 (y9 z (jb (PO.q (qX (KJ E) z (za (zq z) (za (zq z) zl))))) (λ_ _ _ a=>jI (xO (za (jW (zq a) zh) (za (jI (xO (za (zq a) zl))) zl)))))) ?_;exact(zm (zG (PO.v (KA (zJ z) (PV.q (xu (kZ z (zv (zJ z) zh) xD) (PO.v (KA (zJ z) (zJ z))) (PO.v (KA (zJ z) (zJ z)))))))))
theorem vy(E:E0 K mg):gm P w K mg base 1 "stretch_of" 1 jS:=
 qZ (N:=["bar"]) E.PY ⋯ λX I b O a U z d=>by subst I b O a U;exact zm (zG (jI (xO (za (zv (zJ z) zh) (za (yj (jW (zv (zJ z) zh) (qx z ⋯ E.Z0 (PV.q (zv (zJ z) zh)))) zh) zl)))))
theorem KN(E:E0 K mg):gm P w K mg base 9 "all_grown" 1 kX:=
 qZ (N:=["row","bars","k"]) E.PZ ⋯ λX I d O b U z e=>by subst I d O b U;exact by refine zf (jQ 1 (y9 z (jb (PV.q (zv (PV.q (zY (xw E) z (za (zv (PV.q (zv (zJ z) zh)) zh) zl))) zh))) (λ_ _ _ a=>jI (xO (za zh (za (jI (xO (za (zq a) zl))) zl)))))) ?_;refine zf (qS e z (z5 z ⋯ E.Z2 (qx z ⋯ E.Z0 (PV.q (zv (zJ z) zh)))) (zm (jA z (zY (ig E) z (za (zq z) (za (zq z) (za (zq z) zl))))))) ?_;exact(zm (qR (gP (vy E) z ⋯ ⋯ E.Z3 ⋯ (zJ z))))
theorem WV(E:E0 K mg):gm P w K mg base 4 "back_of" 2 xM:=
 qZ (N:=["p","table","many","same","base"]) E.P0 ⋯ λX I d O b U z e=>by subst I d O b U;exact by refine zf (jA z (zv (zJ z) zh)) ?_;refine zf (jX (xl z (zv (zJ z) zh) (zq z)) (zm (zG Ku)) zZ) ?_;refine zf (jA z (zv (PV.q (zY (xw E) z (za (zq z) zl))) zh)) ?_;refine zf (jA z (PO.v (qX (yH E) z (za (zq z) (za (jW (zq z) (zq z)) (za (PO.v (qz z (ij.c (wO z ⋯ E.Z6 (zv (zJ z) zh) (zq z))) (λ_ _ _ a=>jW (zq a) (zq a)))) zl)))))) ?_;refine zf (jX (xl z (PO.v (qz z (jb (zJ z)) (λ_ _ _ a=>VM (zq a) Xr (Xq (zq a))))) (PO.v (oJ z ⋯ E.Zb (zJ z)))) (zm (zG Ku)) zZ) ?_;exact(zm (zG (jI (xO (za (zq z) (za (zq z) (za (qj z ⋯ E.Z7 (PO.q (qz z (jb (zJ z)) (λ_ _ _ a=>VM (zq a) (Xq (zq a)) Xr)))) zl)))))))
theorem KM(E:E0 K mg):gm P w K mg base 10 "barred" 1 xZ:=
 qZ (N:=["row","bars","backs","turns"]) E.P1 ⋯ λX I d O b U z e=>by subst I d O b U;exact by refine zf (jA z (PO.v (qX (KN E) z (za (zq z) zl)))) ?_;refine zf (jQ 2 (y9 z (ij.c (bX z ⋯ E.Zd (zv (zJ z) zh))) (λ_ _ _ a=>zY (wm E) a (za (zq a) (za (PO.v (qX (va E) a (za (zq a) (za (zq a) zl)))) zl))))) ?_;refine zf (jQ 3 (y9 z (jb (zJ z)) (λ_ _ _ a=>zY (WV E) a (za (zv (zJ a) zh) (za (zq a) zl))))) ?_;exact(zm (zG (jI (xO (za (PO.v (qz z (jb (zJ z)) (λ_ _ _ a=>zY (vy E) a (za (zq a) zl)))) (za (zq z) (za (zq z) zl)))))))
theorem WT(E:E0 K mg):gm P w K mg base 3 "product" 3 xJ:=
 qZ (N:=["p","one","other","over"]) E.P2 ⋯ λX I d O b U z e=>by subst I d O b U;exact by refine zf (jA z (zY (xh E) z (za (zq z) zl))) ?_;exact(zm (zG (jI (xO (za (zv (zJ z) zh) (za (zv (zJ z) zh) (za (qj z ⋯ E.Z7 (PO.q (qz z (jb (PV.q (zv (zJ z) zh))) (λ_ _ _ a=>zY (cC E) a (za (zq a) (za (zq a) (za (zq a) zl))))))) zl)))))))
theorem ym(E:E0 K mg):gm P w K mg base 4 "room_by_room" 3 qD:=
 qZ (N:=["p","ones","others"]) E.P4 ⋯ λX I d O b U z e=>by subst I d O b U;exact zm (qR (qz z (ij.c (wO z ⋯ E.Z6 (zq z) (zq z))) (λ_ _ _ a=>zY (WT E) a (za (zq a) (za (zq a) (za (zq a) zl))))))
theorem Ja(E:E0 K mg):gm P w K mg base 1 "stretches_of" 1 yY:=
 qZ (N:=["many","found","i"]) E.P5 ⋯ λX I d O b U z e=>by subst I d O b U;exact by refine zf (yk z (xF (xO zl))) ?_;refine zf (qS e z (z5 z ⋯ E.Z2 (zq z)) (zm (oF 1 z ⋯ (qz z (ij.c (VS z ⋯ E.Z2 (zq z) (zq z))) (λ_ _ _ a=>jI (xO (za (zq a) (za (zq a) zl)))))))) ?_;exact(zm (vw 1 (z.var ⋯)))
theorem Xt(E:E0 K mg):gm P w K mg base 1 "left_holds" 3 wX:=
 qZ (N:=["ways","one","other"]) E.P6 ⋯ λX I b O a U z d=>by subst I b O a U;exact by refine zf (jX (kZ z (zv (zJ z) zh) (zv (zJ z) zh)) (zm (zG k9)) zZ) ?_;exact(zm (zG (Kv z (vp (zq z) (yj (mh z ⋯ E.Zf (zv (zJ z) zh) (zv (zJ z) zh)) zh)) (xu (tW (zv (zJ z) zh) (zv (zJ z) zh)) xD xD))))
theorem JR(E:E0 K mg):gm P w K mg base 1 "right_holds" 3 vU:=
 qZ (N:=["ways","one","other"]) E.P7 ⋯ λX I b O a U z d=>by subst I b O a U;exact by refine zf (jX (kZ z (zv (zJ z) zh) (zv (zJ z) zh)) (zm (zG k9)) zZ) ?_;exact(zm (zG (Kv z (vp (zq z) (bH z ⋯ E.Z1 (zv (zJ z) zh) (zv (zJ z) zh))) (xu (VO (zv (zJ z) zh) (zv (zJ z) zh)) xD xD))))
theorem YM(E:E0 K mg):gm P w K mg base 2 "bar_ways" 3 QR:=
 qZ (N:=["ways","one","other"]) E.P8 ⋯ λX I b O a U z d=>by subst I b O a U;exact by refine zf (jX (VO (mh z ⋯ E.Zf (zv (zJ z) zh) (zv (zJ z) zh)) (bH z ⋯ E.Z1 (zv (zJ z) zh) (zv (zJ z) zh))) (zm (zG zh)) zZ) ?_;exact(zm (zG (xu (Xk (bC (jJ (zY (Xt E) z (za (zq z) (za (zq z) (za (zq z) zl))))) (VL (jJ (zY (JR E) z (za (zq z) (za (zq z) (za (zq z) zl)))))))) zh zh)))
theorem wR(E:E0 K mg):gm P w K mg base 3 "ways_into" 3 vj:=
 qZ (N:=["ways","bars","bar"]) E.P9 ⋯ λX I d O b U z e=>by subst I d O b U;exact zm (zG (bD z ⋯ E.Z5 (PO.q (qz z (jb (zJ z)) (λ_ _ _ a=>zY (YM E) a (za (zq a) (za (zq a) (za (zq a) zl))))))))
theorem wq(E:E0 K mg):gm P w K mg base 4 "are_told_apart" 4 k5:=
 qZ (N:=["ways","ones","others","bar"]) E.Ra ⋯ λX I b O a U z d=>by subst I b O a U;exact zm (zG (BZ z (zY (wR E) z (za (zq z) (za (zq z) (za (zq z) zl)))) (zY (wR E) z (za (zq z) (za (zq z) (za (zq z) zl))))))
theorem ik(E:E0 K mg):gm P w K mg base 5 "apart" 3 fm:=
 qZ (N:=["ways","ones","others","stretches","stretch","told"]) E.Rb ⋯ λX I d O b U z e=>by subst I d O b U;exact by refine zf (jA z (PO.v (qX (Ja E) z (za (jW (v9 z ⋯ E.Z0 (zq z)) zh) zl)))) ?_;refine zf (jA z (zv (PO.q (Kz z (jb (zJ z)) (λ_ _ _ a=>xl a (vt a (zJ a) (zq a)) (vt a (zJ a) (zq a))) (λ_ _ _ a=>zq a))) zh)) ?_;refine zf (jA z (zv (PO.q (Kz z (jb (zJ z)) (λ_ _ _ a=>jJ (zY (wq E) a (za (zq a) (za (zq a) (za (zq a) (za (zq a) zl)))))) (λ_ _ _ a=>zq a))) zh)) ?_;exact(zm (zG (jI (xO (za xD (za (zq z) (za (vt z (zJ z) (zq z)) (za (vt z (zJ z) (zq z)) (za (zq z) zl)))))))))
theorem ip(E:E0 K mg):gm P w K mg base 11 "alike" 2 yC:=
 qZ (N:=["one","other","first","second","there","back"]) E.Rc ⋯ λX I b O a U z d=>by subst I b O a U;exact by refine zf (gL (zY (Je E) z (za (zq z) (za (zq z) zl)))) ?_;refine zf (jA z (zY (KM E) z (za (zq z) zl))) ?_;refine zf (jA z (zY (KM E) z (za (zq z) zl))) ?_;refine zf (jX (xl z (zv (zJ z) zh) (zv (zJ z) zh)) (zm (zG (zY (ik E) z (za (zY (wg E) z (za (zq z) zl)) (za (zv (zJ z) zh) (za (zv (zJ z) zh) zl)))))) zZ) ?_;refine zf (jA z (PO.v (qX (ym E) z (za (zv (zJ z) zh) (za (zv (zJ z) zh) (za (zv (zJ z) zh) zl)))))) ?_;refine zf (jA z (PO.v (qX (ym E) z (za (zv (zJ z) zh) (za (zv (zJ z) zh) (za (zv (zJ z) zh) zl)))))) ?_;exact(zm (zG (jI (xO (za xD (za (zq z) (za (zq z) zl)))))))
theorem EM(D:L2.Dh K "law" "law" (top 67) f fd)(E:E0 K mg):o4 P w K mg base o8 12 f fd ["_law_script"] (p8 K 1 JG):=
 Cz (N:=["_law_script","_law_cell_here","_law_p","_law_rooms","_law_ways_here","_law_bars","_law_one","_law_other","_law_rows","_law_first","_law_here","_law_second","_law_there"]) D ⋯ λX I d O b U z a=>by subst I d O b U;exact by refine zf (jA z (zY (vb E) z (za (zq z) (za zh zl)))) ?_;refine zf (jA z (zv (PO.q (xF (xO (za zh (za zh (za zh (za zh zl))))))) (qw (zq z) zh))) ?_;refine zf (jA z (jW zh (qw (vq (zq z) zh) zh))) ?_;refine zf (jA z (zY (Jc E) z (za (vq (zq z) zh) (za (zq z) zl)))) ?_;refine zf (jA z (PO.v (qX (Zg E) z (za (zq z) (za zh (za (qw (vq (zq z) zh) zh) (za (zq z) zl))))))) ?_;refine zf (jA z (zY (vz E) z (za (zq z) (za zh (za (zq z) (za (zq z) (za (zq z) zl))))))) ?_;refine zf (jA z (zY (vz E) z (za (zq z) (za zh (za (zq z) (za (zq z) (za (zq z) zl))))))) ?_;refine zf (jA z (PO.v (xF (xO (za (jI (xO (za (zq z) (za (zY (k4 E) z (za (zq z) (za (zq z) (za (zq z) zl)))) zl)))) (za (jI (xO (za (zq z) (za (zY (k4 E) z (za (zq z) (za (zq z) (za (zq z) zl)))) zl)))) zl)))))) ?_;refine zf (qS a z (ZY (zq z)) (zm (qS a z (ZY (zq z)) (zm (jX (qo (jJ (zY (Jd E) z (za (zY (ip E) z (za (zq z) (za (zq z) zl))) (za (zq z) (za (zq z) (za (zq z) (za (zq z) zl)))))))) (zm (zG k9)) zZ))))) ?_;exact(zm (zG k9))
end
end DL
namespace PySem.W.Fast
def tw17369173364641791931:=0
def tw429354125007193933:=0
def tw1471720454760001201:=0
def tw16935301264188090888:=0
def tw12378051522302934146:=0
def tw7420107496578929920:=0
def tw17740152220486355439:=0
def tw17268465256245777875:=0
def tw11021804453480340148:=0
def tw16727118822348195251:=0
def tw2947714103189016:=0
def tw17821226681014250788:=0
def tw10237067023662990721:=0
def tw10657289636797596998:=0
def tw15674957224797013491:=0
def tw2491458455481051854:=0
def tw11540967036483325038:=0
def tw9263229082303347497:=0
def tw11285214106728453286:=0
def tw8228532423418432181:=0
def tw16910711276415732426:=0
def tw847642880704316342:=0
def tw1474622189868814748:=0
def tw13984134251475303566:=0
def tw12338571984515838712:=0
def tw12822363572925062559:=0
def tw1185330022133770017:=0
def tw3414746598545631945:=0
def tw6754833584923900325:=0
def tw9379332683294529008:=0
def tw1600070108824129210:=0
def tw6330376664763029109:=0
def tw3847016063004801:=0
def tw16352990950916253641:=0
def tw3592747935898801995:=0
def tw6008437538404714799:=0
def tw4297733140424653948:=0
def tw10165341612057141678:=0
def tw13927794120032337675:=0
def tw10028288303953494603:=0
def tw8622962071785174432:=0
def tw10750916881320786102:=0
def tw4572571281419879552:=0
def tw13981688788149004498:=0
def tw423358740132743846:=0
def tw5633351093099089576:=0
def tw1370353576824128661:=0
def tw11810638921614535625:=0
def tw8207477737323763052:=0
def tw236280854511421633:=0
def tw12864241131389869674:=0
def tw16547933998509970661:=0
def tw3739927641825363148:=0
def tw1157845800212764952:=0
def tw12803639471116496045:=0
def tw12510739932271418707:=0
def tw11537500104786034155:=0
def tw3575214190707472831:=0
def tw13308368744866950968:=0
def tw11364249201255323953:=0
def tw10948502688935285035:=0
def tw7056861057881715350:=0
def tw15211783939931349707:=0
def tw3981715179567148217:=0
def tw11088807424167264148:=0
def tw10739589278424717990:=0
def tw8174477297262988984:=0
def tw2062900848427916816:=0
def tw2478686699208199711:=0
def tw6633957840920569193:=0
def tw1162047631787145099:=0
def tw5484545641148282073:=0
def tw2666490810710382874:=0
def tw18072798185939423192:=0
def tw8272796719660459421:=0
def tw388999345928082430:=0
def tw9638208600060564683:=0
def tw9007931649867631133:=0
def tw3853585563521942433:=0
def tw17538598769500418768:=0
def tw6457599296391369656:=0
def tw13429211666639724149:=0
def tw5658941787055056728:=0
def tw8241007459649479993:=0
def tw16500608129793600775:=0
def tw4283559052539928470:=0
def tw699564378793912780:=0
def tw4975720708183052825:=0
def tw8306676102119417019:=0
def tw16927400877967066213:=0
def tw8255242463834748753:=0
def tw3840074947760767617:=0
def tw11297381981430627127:=0
def tw11198757202732603277:=0
def tw10647604259147726540:=0
def tw8381579970291026726:=0
def tw2061104470975684606:=0
def tw807351945150863097:=0
def tw4609017454042727121:=0
def tw10111304347906736048:=0
def tw6155859777756037410:=0
def tw9643390905788596241:=0
def tw11844159307401852865:=0
def tw14059037618768651125:=0
def tw16847150972852392532:=0
def tw6652810539516671154:=0
def tw2799734110605356646:=0
def tw4606441134016550141:=0
def tw8477895216736443905:=0
def tw4020566648098668364:=0
def tw13798705622228138194:=0
def tw8570982266276289053:=0
def tw7875258805151482702:=0
def tw17331627724892859198:=0
def tw18296543740011279596:=0
def tw145941888837279672:=0
def tw12605226398286179480:=0
def tw10661197236314470628:=0
def tw5412631450802203156:=0
def tw6608581608513737271:=0
def tw642986967438213931:=0
def tw15622807097328034796:=0
def tw12427264901860742854:=0
def tw13831787577182002496:=0
def tw6248735701592906043:=0
def tw3317108197953015624:=0
def tw835092667089165112:=0
def tw8929184454068254642:=0
def tw9834158659809103177:=0
def tw5094359415054106020:=0
def tw11283854888223078353:=0
def tw15708246423220484322:=0
def tw4085364912449073047:=0
def tw14752209437136481184:=0
def tw15258481658647771092:=0
def tw9386929014630139818:=0
def tw14336059914829760921:=0
def tw1661616924123886713:=0
def tw4304812663589368932:=0
def tw9304454543544832860:=0
def tw1951739539670119225:=0
def tw463239592524934588:=0
def tw2444446168395225061:=0
def tw1914264165725334608:=0
def tw15060671421589933715:=0
def tw17893256933020050434:=0
def tw8477199121439800865:=0
def tw2000837969203530723:=0
def tw1376257993235612918:=0
def tw17734128439894234216:=0
def tw9642829349988389286:=0
def tw17117551367645188856:=0
def tw13252410922539143482:=0
def tw17188649178749116255:=0
def tw11398234951555355376:=0
def tw2032888694749726910:=0
def tw14662186997132918461:=0
def tw10502467306462597653:=0
end PySem.W.Fast
open PySem PySem.W PyProof.Rows
set_option maxRecDepth 100000 in
set_option maxHeartbeats 0 in
theorem PySem.Challenge.cw_barsplit_k41_whole_alike_by_tables_holds : PySem.Challenge.rw_barsplit_k41_whole_alike_by_tables.Holds := by
 w_on;o_law;k_head;(case hw=>w_witness2)
 k_fill
 refine L2.AF (l:=LR) (n:=63) (k:=12) (x:="_law_script") (CX:=L2.o8) (sp:=λK=>DL.p8 K 1 DL.JG) rfl ⋯ rfl ⟨rfl,by decide,by decide⟩ (λw h Y=>PySem.W.kIn_of Y) ?F ?S ?C
 case S=>exact λK H a ns I hO U=>DL.Bd U (DL.Co ns I)
 case C=>exact λ_ _ _ _ z=>z
 case F=>
  intro w mg fa h O G a0;have E:DL.E0 (L2.OY O) mg:=by
   constructor
   all_goals first
    | assumption
    | exact PySem.W.mg_none_of O G (by k_is)
    | (dsimp only[L2.OY];refine' DL.ET O G ?a ?l ?c ?k ?b;(case a=>k_is);(case l=>k_is);(case c=>k_is);(case k=>k_is);(case b=>intro _ _ _ _ _ _ us I;first | (obtain⟨_,rfl⟩:=DL.GE I;rfl) | (obtain⟨_,_,rfl⟩:=DL.GD I;rfl) | (obtain⟨_,_,_,rfl⟩:=DL.GC I;rfl) | (obtain⟨_,_,_,_,rfl⟩:=DL.GB I;rfl) | (obtain⟨_,_,_,_,_,rfl⟩:=DL.GA I;rfl)))
  obtain⟨f,fd,Fu,hb,hm⟩:=E.Rf.ex;have e0:=a0.symm.trans hm;cases e0;refine⟨fd,λs u=> .of_eq (hb [u] rfl),λbase kb nb=>?_⟩;exact DL.EM Fu E
