import PyProof.Rows.All
import Wide.All
import OpenK.AllK
import Wide.FinOn
import Lean
import PyProof.EqAt
import PyProof.EqKinds
import PyProof.TupleCall
import PySem.Str
import PyProof.ZipIter
import PyProof.IsiBase
import KE.KItemsList
import KE.KIsAll
import OpenK.KOwn
import KE.KSortAsk
import PyProof.StrBlockI
import PyProof.Rows.EqDataRows
import PyProof.Rows.InDataRows
import PyProof.SumWalkG
import PyProof.ConsumeWalk
import PyProof.WalksMore
import KE.KSortTup
import PyProof.ListMulRoad
import PyProof.EnumFor
import PyProof.Rows.EnumRows
import PyProof.StrBlockL
import PyProof.JoinWalk
import PyProof.NsDelKeeps
import KE.KTryDeep
import PyProof.InstStoreFacts
import PyProof.NsCount
import PyProof.ExcClass2
import PyProof.Rows.FStr
import PyProof.StationsW
import PyProof.Rows.Catch
import KE.KRevIter
import PyProof.CollectIter
import PyProof.TupleOfGen
import PyProof.Rows.Tup
import PyProof.Draws
import PyProof.EnumMake
import PyProof.StrWalks
import PyProof.SliceStr2
import PyProof.ListNew
import KE.KDictOf
import PyProof.ListRange
import PyProof.Rows.GenSrcRange
import PyProof.ListCopy
import PyProof.AttrMissHeap
import PyProof.DictWalks
import PyProof.FactsDict
import KE.KSortKey
import PyProof.TableCode
import PyProof.Rows.KernelRfl
import PySem.Challenge.RW_barsplit_k42_apart_by_a_bar
open PySem.W renaming Frag → Iy,kia_one → Ly,kitOne → Nr,cellsFrom_some → NH,fnOf → NN,keepIn → Oo,findIn → Oq,codeIn → OV,methodObj → Px,kitx_list → Py,kitx_dict → PB
open List renaming range → Iz,mem_range → IC,getElem?_eq_getElem → ID,replicate → IE,getD_eq_getElem?_getD → IF,getElem?_set_ne → IG,size_toArray → II,mem_cons_of_mem → IM,getElem?_eq_some_iff → IP,mem_cons_self → IQ,mem_cons → iU,length_map → IU,mem_append_right → IW,getElem?_set_self → IX,map_congr_left → IZ,mem_filter → Lb,map_cons → Ld,getElem?_map → Le,mem_map → Lh,map_map → Li,countP_eq_length_filter → Lu,not_mem_nil → Lv,length_range → Lw,eq_nil_of_length_eq_zero → Lx,getElem?_append_right → Lz,mem_of_getElem? → LB,count_eq_zero_of_not_mem → LH,length_append → LJ,getElem?_append_left → LK,lookup_cons → LO,map_append → LV,nodup_cons → Me,length_cons → Mg,mem_singleton → Mk,countP_congr → Mn,ext_getElem? → Mt,replicate_succ → MC,range_succ → MD,mem_append → ME,getElem?_range → MF,find?_cons → MG,all_eq_true → MJ,pairwise_iff_getElem → MM,drop_eq_getElem_cons → MN,length_nil → MR,getElem?_set → MS,getElem_mem → MW,zip_cons_cons → Na,toArray → Nf,range' → Ng,length_singleton → Nh,length_filter_le → Ni,append_nil → Nj,flatten_cons → Nn,Pairwise → Np,getElem?_replicate → NI,getElem?_cons_zero → NJ,countP_map → NK,take_of_length_le → NP,pairwise_lt_range → NQ,pairwise_map → NR,length_take → Oa,drop_length → Ob,range_eq_range' → Oc,zip_map' → Of,perm_iff_count → Oh,nil_append → Oi,getElem_of_mem → Oj,filter_sublist → Om,countP_eq_zero → Ol,set_cons_zero → Ox,set_cons_succ → Oy,find?_eq_none → Oz,filter_append → OA,range_add → OD,mem_of_find?_eq_some → OE,getElem?_cons_succ → OO,any_cons → OP,range'_succ → OR,nodup_range → OS,countP_cons → OT,map_nil → OW,mem_append_left → Pe,getElem?_of_mem → Pf,length_pos_iff → Pj,filterMap_cons → Pk,length_eq_countP_add_countP → PJ,foldl → PM,filter_congr → PN,any_eq_false → R7,cons_append → PZ,any_eq_true → Ra
open PySem renaming wpAny_bind → IA,wpAny_pure → IK,wpAny_field → LW,wpAny_loadPart' → Ma,wpAny_truthy_bool → Mb,wpAny_newObj_type → Mi,wpAny_callSpecial?_slot → Mj,wpAny_setField_rec → Ml,wpAny_call_entry → Ms,wpAny_holding → MH,wpAny_mono → MI,wpAny_seqItems → MT,call_meets → Nd,sizeLine_eq → Nw,mem_of_lookup → Nz,Builtin → NG,wpAny_Call_Name_kw → NS,wpAny_rule → OB,wpAny_passesOwn → OF,pushCells_keeps → OH,wpAny_typeOf → OM,wpAny_pyIter_tuple → ON,wpAny_attempt → OY,codeAny_mono → Pp,codeAny_builtin → Pq,wpAny_updateSeq_pair → PF,wpAny_newTuple → PL,wpAny_letGo → PR,wpAny_standAt → Rb,wpAny_onRaise → Rc,wpAny_newList → O3,wpAny_pyIter_list → Ri,typeIs_int → Rj,concat_meets → Rm,noFill_tuple_add → Rn,Addr → eg,Value → eh,Expr → eA,Shared → eF,model → e9,eval → fh,sizeLine → f6,Heap → f7,starEach → gv,Pos → hB,Scope → hL,World → h8,Program → i3,Stmt → kv,compareOp → l7,Around → mm,Env → nf,Obj → nr,Builtin → nt,IsPair → n3,foldedSetIterable → o5,FuncData → pk,backTo → p5,cellsFrom → rp,holding → sh,assign → t4,binaryOp → t5,IsEnum → t9,IsZip → u0,Keyword → u4,NameKind → u5,behindInMarks → u9,mainGlobals → vu,relabel → wh,swapsWith → wo,assignEach → x6,cLine → y3,IsPart → A8,getItem → B5,sysModules → C2,bootBuiltins → Dc,pushCells → Dh,rawInt → Di,Meets → Ds,bindC → Du,bindL → Dv,callerA → Dx,isTrue → DA,standAt → DF,atKey → DN,pyNext → DY,valueAt → D1,CmpOp → D3,attributeBase → En,backToKw → E1,lastMarks → E7,truthy → Gx,BindsTo → G6,letOwnedTupleGo → L0,pyIter → L8,spliced → M0,swapsWithSole → M3,typeLookup → N0,IsEnumOut → N4,PassesOwn → O0,ZipApart → O8,firstArgMember → P7,ownMembersOf → Rz,setItem → RG,subscripted → RL,swappedStores → RM,builtinsNs → Sa,newFunctionEnv → Sq,seqIndex_neg → Su,seqIndex_of → Sv,seq_tuple_add → Sw,tupleKind → SJ,typeIs_str → SN,wpAny_Name → SS,wpAny_execs_nil → SU,builtinLookup_eq_fast → Tp,getattributeRaised → Tw,tupleKind_room_in1 → Ud,wpAny_assign_Name → Ug,wpAny_binaryOp_repeat_ref → Uh,wpAny_isTrue_Compare1 → Ui,wpAny_letOwnedTupleGo_enum → Uj,wpAny_sequenceKey → Uk
open PySem.Heap renaming get?_push_of_some → IB,lt_size → IT,get?_push_size → IV,size_push → LG,push → LP,get?_update_other → LZ,size_update → MX,get?_push_ne → Nq,SameBut → NY,get?_update_self → OX,get?_update_ne → Pn
open Nat renaming le_refl → IH,lt_or_ge → IY,lt_of_lt_of_le → Lc,not_lt_zero → Lg,ne_of_lt → Lm,lt_succ_of_lt → LD,lt_irrefl → LF,le_add_right → LI,zero_le → LL,le_trans → LN,add_sub_cancel_left → Mo,lt_succ_self → Mp,zero_add → MK,ne_of_gt → ML,lt_trichotomy → NU,le_succ_of_le → NV,le_succ → DJ,add_assoc → OQ,mul_comm → Pb,min_eq_left → Pc,le_of_lt → Pd,min_le_right → Rf
open Int renaming mul_emod → IJ,emod_lt_of_pos → La,emod_emod → Lf,emod_nonneg → Lp,add_emod → LA,mul_comm → LS,emod_eq_of_lt → LX,mul_assoc → Mh,sub_emod → Mx,emod_eq_emod_iff_emod_sub_eq_zero → Mz,mul_zero → MU,eq_ofNat_of_zero_le → MV,zero_mul → Nk,add_zero → Nl,toNat_natCast → Nt,mul_left_comm → Nu,toNat_of_nonneg → ND,mul_add → NF,mul_one → Ot,add_mul → OU
open Option renaming bind_some → IL,some → LR,isSome_iff_exists → Mw,map_some → MO,getD_some → NX,map → OC,some → di,none → d5
open Bool renaming and_eq_true → IS,false_ne_true → Lj,or_eq_true → Mf,eq_iff_iff → Mu,false_eq_true → My,not_eq_true' → MB,true → dn,false → ed
open Ne renaming symm → Ll
open PySem.NameKind renaming free → Ln,cell → MQ
open PySem.Obj renaming mapSeq → Lo,data_mapFields → PH
open Option.some renaming inj → Lq
open PySem.Builtin.SmallTypes renaming nextOf → Lr,ownedTupleIsFree → LM,ownedTupleHandOut → Mr,ownedTupleFields → Ov
open PySem.Value renaming none → Ls,ref → Mm,type → NM,str → Pu,int → Pw
open PySem.Str renaming ofString → LC,join → Rh
open PySem.SeqAt renaming EqAt → LQ,readOf → Nx
open Classical renaming byContradiction → LU,axiomOfChoice → NB
open PyProof.Rows renaming callWith_type1 → LY,slot_tuple_getitem → Mc,listUpdate_at → NT,slot_tupleiter_next → OG,tupleItemsOf_ → OZ,callWith_builtin1 → Pa,get?_update_seq → Po,seqEpoch_at → PU,size_push' → Rl,seqObj → g5,AllBare → C5,Call_ → D2,IsTup → D6,arrOf → D9,IntsAre → G9,envOfC → H8,Subscript_ → R8,subscriptTail → SD,args_tuple_getitem → Tj,args_tupleiter_next → Tn,entry_tupleiter_next → Ts,listItems_at → TM,subscriptTail_builtinR → T9
open Array renaming length_toList → Md,getD_eq_getD_getElem? → Nc
open PySem.Builtin.Tuple renaming tupleExact → Mq,tupleIsExact → MY
open PySem.PyData renaming eqv → Mv,depth → NA,canLay0 → NO,depthAll → Oe,eqvAll → O1,canLayAll0 → PD
open Sum renaming inl → MA,inr → PX
open False renaming elim → MP
open True renaming intro → MZ
open PySem.Builtin.Slice renaming slicePlaces → Nb,sliceAdjust → NZ
open PySem.Builtin.List renaming listTooLong → Nm
open PySem.F renaming slot_enumerate_next → Nv,plainAttrs_list → NC,slot_list_getattribute → NL,slot_tuple_mul → Og,args_tuple_add_2 → Ow,entry_tuple_add → OI,slot_tuple_add → OK,slot_zip_next → Pg,slot_int_rmul → Ph,args_tuple_mul_2 → PY,entry_tuple_mul → Rg
open PySem.SeqAt.EqAt renaming int_int → Ny
open PySem.Challenge renaming rw_barsplit_k42_apart_by_a_bar → NW
open List.Pairwise renaming imp_of_mem → Od,filter → OJ
open PySem.Calls renaming spliced_cons → Ou,spliced_nil → PK
open ForInStep renaming yield → OL
local macro_rules | `(⋯) => `(by first | decide +kernel | omega | simp)
set_option autoImplicit true
noncomputable section
set_option Elab.async false
set_option linter.all false
set_option maxRecDepth 100000
set_option maxHeartbeats 4000000
abbrev RQ:=PySem.Value->PySem.Shared->Prop
abbrev RW:=List (PySem.Addr×PySem.Obj)
abbrev RV:=Nat->Nat->Nat->Int
abbrev RK:=Nat->Nat->Int
abbrev RX:=Nat->Bool
abbrev RZ:=Nat->Nat
abbrev RJ:=PySem.Str->Option PySem.Value
theorem RY{c:Prop}{h:Decidable c}(z:c){α}{a b:α}:ite c a b=a:=if_pos z
theorem EQ{c:Prop}{h:Decidable c}(z:¬c){α}{a b:α}:ite c a b=b:=if_neg z
namespace L2
open PySem PySem.Spec PyProof.Rows
abbrev Key:=Sum Int Str
noncomputable def aW:Key->eh->Bool
 | .inl k,v=>Value.isInt k v
 | .inr x,v=>Value.isStrOf x v
noncomputable def HM(w:h8):Key->Int
 | .inl k=>hashInt k
 | .inr x=>hashStr w x
theorem qa : ∀{k:Key} {v:eh},aW k v=dn->(∃i t,k=MA i/\v=Pw i t)\/(∃x t,k=PX x/\v=Pu x t)
 | .inl i,v,h=>by obtain⟨t,e⟩:=Value.isInt_shape (k:=i) (v:=v) h;exact .inl ⟨i,t,rfl,e⟩
 | .inr x,v,h=>by obtain⟨t,e⟩:=Value.isStrOf_shape (x:=x) (v:=v) h;exact .inr ⟨x,t,rfl,e⟩
theorem eQ(i:Int)(t:Tok):aW (.inl i) (.int i t)=dn:=by simp[aW,Value.isInt]
theorem eP(x:Str)(t:Tok):aW (.inr x) (.str x t)=dn:=by simp[aW,Value.isStrOf]
theorem Br(a b:Int):decide ((MA a:Key)=MA b)=(a==b):=by
 by_cases e:a=b
 ·subst e;simp
 ·have h : ¬(MA a:Key)=MA b:=λq=>e (MA.inj q)
  rw[decide_eq_false h];exact(beq_eq_false_iff_ne.mpr e).symm
theorem Bo(a b:Str):decide ((PX a:Key)=PX b)=decide (a=b):=by
 by_cases e:a=b
 ·subst e;simp
 ·have h : ¬(PX a:Key)=PX b:=λq=>e (PX.inj q)
  rw[decide_eq_false h,decide_eq_false e]
theorem Bq(a:Int)(b:Str):decide ((MA a:Key)=PX b)=ed:=decide_eq_false<|λq=>nomatch q
theorem Bp(a:Str)(b:Int):decide ((PX a:Key)=MA b)=ed:=decide_eq_false<|λq=>nomatch q
noncomputable def xi(prog:i3)(w:h8):PySem.KeyKind prog w Key where
 is:=aW
 hash:=HM w
 inj:=λv a b ha I=>by
  rcases qa ha with⟨i,t,rfl,rfl⟩ | ⟨x,t,rfl,rfl⟩
  ·rcases qa I with⟨j,u,rfl,e⟩ | ⟨y,u,rfl,e⟩
   ·injection e with e1 _;rw[e1]
   ·exact nomatch e
  ·rcases qa I with⟨j,u,rfl,e⟩ | ⟨y,u,rfl,e⟩
   ·exact nomatch e
   ·injection e with e1 _;rw[e1]
 byValue:=λk v h=>by rcases qa h with⟨i,t,rfl,rfl⟩ | ⟨x,t,rfl,rfl⟩<;>rfl
 pyHash:=λz h=>by
  rcases qa z with⟨i,t,rfl,rfl⟩ | ⟨x,t,rfl,rfl⟩
  ·exact wpAny_pyHash_int h
  ·exact wpAny_pyHash_str h
 eqBool:=λJ z h=>by
  rcases qa J with⟨i,t,rfl,rfl⟩ | ⟨x,t,rfl,rfl⟩
  ·rcases qa z with⟨j,u,rfl,rfl⟩ | ⟨y,u,rfl,rfl⟩
   ·rw[Br]at h;exact wpAny_eqBool_int h
   ·rw[Bq]at h;exact LQ.int_str i t y u _ _ _ _ h
  ·rcases qa z with⟨j,u,rfl,rfl⟩ | ⟨y,u,rfl,rfl⟩
   ·rw[Bp]at h;exact LQ.str_int x t j u _ _ _ _ h
   ·rw[Bo]at h;exact wpAny_eqBool_str h
 «strs» :=λk x t v h=>by
  rcases qa h with⟨i,u,rfl,e⟩ | ⟨y,u,rfl,e⟩
  ·exact nomatch e
  ·injection e with e1 _
   subst e1;cases v<;>rfl
theorem Vv(prog:i3)(w:h8)(i:Int)(t:Tok):(xi prog w).is (.inl i) (.int i t)=dn:=eQ i t
theorem Vu(prog:i3)(w:h8)(x:Str)(t:Tok):(xi prog w).is (.inr x) (.str x t)=dn:=eP x t
inductive V where
 | el | bl (b:Bool) | int (i:Int) | str (x:Str) | E2 (b:Array UInt8) | DT (b:UInt64) | ref (a:eg) | ty (n:String)
 deriving DecidableEq
noncomputable def RelV:V->eh->Prop
 | .el,u=>u=Ls
 | .bl b,u=>u=Value.bool b
 | .int i,u=>∃t,u=Pw i t
 | .str x,u=>∃t,u=Pu x t
 | .E2 b,u=>∃t,u=Value.bytes b t
 | .DT b,u=>∃t,u=Value.float b t
 | .ref a,u=>u=Mm a
 | .ty n,u=>u=NM n
abbrev fy:List V->List eh->Prop:=Paired RelV
theorem fy.length(r:fy xs us):xs.length=us.length:=Paired.length r
theorem fy.get : ∀{xs:List V} {us:List eh} {i:Nat} {x:V},fy xs us->xs[i]? = di x->∃u,us[i]? = di u/\RelV x u
 | _,_,_,_,.nil,e=>by simp at e
 | _,_,0,_,.cons r _,e=>by simp at e;subst e;exact⟨_,rfl,r⟩
 | _,_,i+1,x,.cons _ t,e=>by obtain⟨u,a,b⟩:=fy.get (i:=i) (x:=x) t (by simpa using e);exact⟨u,by simpa using a,b⟩
theorem fy.set(r:RelV x u) : ∀{xs:List V} {us:List eh} (i:Nat),fy xs us->fy (xs.set i x) (us.set i u)
 | _,_,_,.nil=> .nil
 | _,_,0,.cons _ t=> .cons r t
 | _,_,i+1,.cons q t=> .cons q (fy.set r i t)
theorem fy.append : ∀{xs ys:List V} {us z:List eh},fy xs us->fy ys z->fy (xs++ys) (us++z)
 | _,_,_,_,.nil,s=>s
 | _,_,_,_,.cons r t,s=> .cons r (fy.append t s)
theorem fy.take : ∀{xs:List V} {us:List eh} (n:Nat),fy xs us->fy (xs.take n) (us.take n)
 | _,_,0,_=> .nil
 | _,_,_+1,.nil=> .nil
 | _,_,n+1,.cons r t=> .cons r (fy.take n t)
theorem fy.drop : ∀{xs:List V} {us:List eh} (n:Nat),fy xs us->fy (xs.drop n) (us.drop n)
 | _,_,0,r=>r
 | _,_,_+1,.nil=> .nil
 | _,_,n+1,.cons _ t=>fy.drop n t
noncomputable def u7:Option V->Option eh->Prop
 | some v,di u=>RelV v u
 | none,d5=>True
 | _,_=>False
noncomputable def KV{C:Type}:List (C×V)->List (C×eh)->Prop:=Paired λ(p:C×V) (q:C×eh)=>p.1=q.1/\RelV p.2 q.2
noncomputable def kV:Key->V
 | .inl i=> .int i
 | .inr x=> .str x
inductive HO where
 | lst (xs:List V)
 | tup (xs:List V)
 | dK (lU:List (Key×V)) | dT (lU:List (List Key×V))
 | set (S:Int->Bool) (n:Nat)
 | ins (C dx:eg) (fs:List (Str×V))
 | own (x:eg)
 | xd (fs:List (Str×V))
 | met (f x:eg)
 | l5 (lo hi:Int)
 | rq (o:nr) (u:HO)
 | DG (ps:Array eh)
 | ext (φ:f7->Prop)
abbrev Hp:=eg->Option HO
noncomputable def upd(H:Hp)(a:eg)(o:HO):Hp:=λb=>if b=a then di o else H b
theorem zO:upd H a o a=di o:=by unfold upd;rw[RY rfl]
theorem zK(h:b≠a):upd H a o b=H b:=by unfold upd;rw[EQ h]
theorem bN{H:Hp}{a:eg}{o u:HO}:upd (upd H a o) a u=upd H a u:=by funext b;unfold upd;split<;>rfl
theorem j3{H:Hp}{a b:eg}{o:HO}(h:H a=di o)(h':H b=d5):a≠b:=by intro e;subst e;rw[h]at h';cases h'
noncomputable def xg(h:f7)(a:eg)(items:Array eh):Prop:=∃o,h.get? a=di o/\(o.cls,o.dict)=(NM "tuple",d5)/\∃n,o.data = .seq items n
theorem xg.new(h:f7)(items:Array eh):xg (h.push {cls:= .type "tuple",data:= .seq items}) h.objs.size items:=⟨_,IV _ rfl,rfl,_,rfl⟩
theorem xg.tup(x:xg h a items):D6 h a items:=let ⟨o,e,c,r⟩:=x;⟨o,e,(Prod.mk.inj c).1,r⟩
section
variable(P:i3)(w:h8)
noncomputable def la(H:Hp)(h:f7)(a:eg):HO->Prop
 | .lst d=>d.length<=f6/\∃(z:List eh) (n:Nat),fy d z/\h.get? a=di {cls:= .type "list",data:= .seq z.toArray n}
 | .tup d=>d.length<=f6/\∃z:List eh,fy d z/\xg h a z.toArray
 | .dK b=>b.length<=f6/\(a==C2)=ed/\∃l,KV b l/\h.DictOf (xi P w) a l
 | .dT b=>b.length<=f6/\(a==C2)=ed/\∃d:List (List Key×eg×eh),
  Paired (λ(p:List Key×V) (q:List Key×eg×eh)=>p.1=q.1/\H q.2.1=di (.tup<|p.1.map kV)/\RelV p.2 q.2.2) b d/\
  ∃o i I,h.get? a=di o/\o.ExactDict/\o.data = .dict i I/\i.toList=d.map (entryOfKey<|tupleKind<|xi P w)/\(d.map (·.1)).Nodup
 | .set S n=>h.SetOf (intKind P w) a S n
 | .ins C e fs=>H e=di (.own a)/\fs.length<=1000/\e≠a/\h.get? a=di (PySem.W.instObj C e)/\
  ∃mA,h.Ns1 e mA/\(∀f,u7 (fs.lookup f)<|mA f)/\PySem.Within mA (fs.map (·.1))
 | .own _=>∃o,h.get? a=di o
 | .xd fs=>∃mA,h.Ns1 a mA/\∀f,u7 (fs.lookup f)<|mA f
 | .l5 lo m=>∃t u v,h.get? a=di {cls:= .type "range",data:= .fields #[.int lo t,.int m u,.int 1 v]}
 | .rq o u=>h.get? a=di o/\la H h a u
 | .DG r=>h.get? a=di {cls:= .none,data:= .fields r}
 | .met f x=>h.get? a=di (Px (.ref f)<|.ref x)
 | .ext g=>g h/\(∃o,h.get? a=di o)/\∀j k:f7,g j->(∀o,j.get? a=di o->k.get? a=di o)->g k
noncomputable def lC(H:Hp)(h:f7):Prop:=∀a o,H a=di o->la P w H h a o
end
section
variable{P:i3}{w:h8}{H H':Hp}{h h':f7}{a:eg}{o:HO}
theorem la.lt(x:la P w H h a o):a<h.objs.size:=by
 cases o with
 | lst d=>obtain⟨_,_,_,_,e⟩:=x;exact IT e
 | tup d=>obtain⟨_,_,_,p⟩:=x;exact p.tup.lt
 | dK b=>obtain⟨_,_,_,_,o,_,_,e,_⟩:=x;exact IT e
 | dT b=>obtain⟨_,_,_,_,o,_,_,e,_⟩:=x;exact IT e
 | set S n=>obtain⟨o,_,_,_,e,_⟩:=x;exact IT e
 | ins C g fs=>obtain⟨_,_,_,e,_⟩:=x;exact IT e
 | own y=>obtain⟨_,e⟩:=x;exact IT e
 | xd fs=>obtain⟨_,⟨_,_,_,e,_⟩,_⟩:=x;exact IT e
 | l5 lo i=>obtain⟨_,_,_,e⟩:=x;exact IT e
 | rq z u=>obtain⟨e,_⟩:=x;exact IT e
 | DG j=>exact IT (show h.get? a=di _ from x)
 | met f y=>exact IT (show h.get? a=di _ from x)
 | ext k=>obtain⟨_,⟨_,e⟩,_⟩:=x;exact IT e
theorem Paired.So : ∀{z:List α} {I:List β},Paired F z I->(∀a b,F a b->G a b)->Paired G z I
 | _,_,.nil,_=> .nil
 | _,_,.cons r t,f=> .cons (f _ _ r) (Paired.So t f)
theorem la.Dj(x:la P w H h a o)(k : ∀b u,(b=a\/H b=di (.own a))->h.get? b=di u->h'.get? b=di u)
 (U : ∀b,H b=di (.own a)->H' b=di (.own a)) (Y : ∀b xs,H b=di (.tup xs)->H' b=di (.tup xs)):la P w H' h' a o:=by
 induction o with
 | lst xs=>obtain⟨z,O,n,r,e⟩:=x;exact⟨z,O,n,r,k _ _ (.inl rfl) e⟩
 | tup xs=>obtain⟨z,O,r,I,e,c⟩:=x;exact⟨z,O,r,I,k _ _ (.inl rfl) e,c⟩
 | dK i=>obtain⟨z,y,E,r,I,g,J,e,c⟩:=x;exact⟨z,y,E,r,I,g,J,k _ _ (.inl rfl) e,c⟩
 | dT i=>
  obtain⟨z,y,xs,r,I,g,J,e,c⟩:=x;exact⟨z,y,xs,Paired.So r λp q z=>⟨z.1,Y _ _ z.2.1,z.2.2⟩,I,g,J,k _ _ (.inl rfl) e,c⟩
 | set S n=>obtain⟨I,g,J,t,e,c⟩:=x;exact⟨I,g,J,t,k _ _ (.inl rfl) e,c⟩
 | ins C F fs=>
  obtain⟨d,z,B,e,j,⟨l,g,J,s,c⟩,r⟩:=x;exact⟨U _ d,z,B,k _ _ (.inl rfl) e,j,⟨l,g,J,k _ _ (.inr d) s,c⟩,r⟩
 | own y=>obtain⟨I,e⟩:=x;exact⟨I,k _ _ (.inl rfl) e⟩
 | xd fs=>obtain⟨j,⟨l,g,J,e,c⟩,r⟩:=x;exact⟨j,⟨l,g,J,k _ _ (.inl rfl) e,c⟩,r⟩
 | l5 lo G=>obtain⟨t,u,v,e⟩:=x;exact⟨t,u,v,k _ _ (.inl rfl) e⟩
 | rq I u A=>obtain⟨e,q⟩:=x;exact⟨k _ _ (.inl rfl) e,A q⟩
 | DG m=>
  have e:h.get? a=di {cls:= .none,data:= .fields m}:=x;show h'.get? a=di {cls:= .none,data:= .fields m};exact k a _ (.inl rfl) e
 | met f y=>
  have e:h.get? a=di (Px (.ref f)<|.ref y):=x;show h'.get? a=di (Px (.ref f)<|.ref y);exact k a _ (.inl rfl) e
 | ext K=>obtain⟨p,⟨o,e⟩,st⟩:=x;exact⟨st _ _ p λo q=>k _ _ (.inl rfl) q,⟨o,k _ _ (.inl rfl) e⟩,st⟩
theorem lC.lt(x:lC P w H h)(e:H a=di o):a<h.objs.size:=(x a o e).lt
theorem lC.fresh(x:lC P w H h)(e:h.objs.size<=a):H a=d5:=by
 cases q:H a with
 | none=>rfl
 | some u=>exact absurd (Lc (x.lt q) e)<|LF _
theorem lC.kept(x:lC P w H h)(k : ∀b u,h.get? b=di u->h'.get? b=di u):lC P w H h':=λa o e=>
 (x a o e).Dj (λb u _ q=>k b u q) (λ_ q=>q) λ_ _ q=>q
theorem lC.laid(x:lC P w H h)(k : ∀b u,h.get? b=di u->h'.get? b=di u)(I:h.objs.size<=a)(new:la P w (upd H a o) h' a o):lC P w (upd H a o) h':=λb u e=>by
 have d:=x.fresh I;by_cases z:b=a
 ·subst z;rw[zO]at e;cases e;exact new
 ·rw[zK z]at e
  exact(x b u e).Dj (λc v _ q=>k c v q) (λc q=>by rw[zK (j3 q d)];exact q) λc f q=>by rw[zK (j3 q d)];exact q
end
noncomputable def Rd(H:Hp)(a:eg)(u:HO):Prop:=H a=di u\/∃o,H a=di (.rq o u)
theorem Rd.ok(r:Rd H a u)(x:lC P w H h):la P w H h a u:=by
 rcases r with r | ⟨o,r⟩
 ·exact x a u r
 ·obtain⟨_,q⟩:=x a _ r
  exact q
noncomputable def D7:Option HO->Prop
 | some (.lst _)=>True
 | some (.dK _)=>True
 | some (.dT _)=>True
 | some (.set _ _)=>True
 | some (.ins _ _ _)=>True
 | some (.ext _)=>True
 | _=>False
section
variable{P:i3}{w:h8}{H:Hp}{h h':f7}{x e:eg}{o':HO}
theorem lC.write(ok:lC P w H h)(I:D7 (H x))(Y:e=x\/H e=di (.own x))(k : ∀b u,b≠e->h.get? b=di u->h'.get? b=di u)(C : ∃u,h'.get? e=di u)
 (new:la P w (upd H x o') h' x o'):lC P w (upd H x o') h':=λb u q=>by
 have d : ∀c y,H c=di (.own y)->c≠x:=λc y r z=>by subst z;rw[r]at I;exact I
 have g : ∀c a,H c=di (.tup a)->c≠x:=λc a r z=>by subst z;rw[r]at I;exact I
 by_cases J:b=x
 ·subst J;rw[zO]at q;cases q;exact new
 ·rw[zK J]at q
  by_cases O:b=e
  ·have f:H b=di (.own x):=by
    rcases Y with z | z
    ·exact absurd (O.trans z) J
    ·rw[O];exact z
   rw[q]at f;cases f;obtain⟨v,i⟩:=C;exact⟨v,by rw[O];exact i⟩
  ·refine(ok b u q).Dj (λc v U r=>k c v ?_ r) (λc r=>by rw[zK (d c b r)];exact r) λc a r=>by rw[zK (g c a r)];exact r
   rcases U with rfl | U
   ·exact O
   ·rintro rfl
    rcases Y with z | z
    ·exact d c b U z
    ·rw[U]at z;cases z;exact J rfl
end
structure Un(fs ex:List eg)(H H':Hp)(h h':f7):Prop where
 keep : ∀b o,h.get? b=di o->H b=d5->b∉fs->b∉ex->h'.get? b=di o
 slot : ∀b o,h.get? b=di o->H b=d5->b∈fs->b∉ex->∃sl,h'.get? b=di {o with slots:=sl}
 free : ∀b o,h.get? b=di o->H b=d5->b∉ex->H' b=d5
 there : ∀b o,h.get? b=di o->b∉ex->∃o',h'.get? b=di o'
 C4 : ∀b xs,H b=di (.tup xs)->H' b=di (.tup xs)
 Dg : ∀b o u,H b=di (.rq o u)->H' b=di (.rq o u)
 C3 : ∀b ps,H b=di (.DG ps)->∃more,H' b=di (.DG<|ps++more)
section
variable{fs Tv ex Up:List eg}{H H1 H2:Hp}{h h1 h2 h':f7}{a x e:eg}{o:HO}
theorem Un.any(u:Un fs ex H H1 h h1)(q:h.get? b=di ob)(n:H b=d5)(hx:b∉ex) : ∃C,h1.get? b=di {ob with slots:=C}:=by
 by_cases z:b∈fs
 ·exact u.slot b ob q n z hx
 ·exact⟨ob.slots,u.keep b ob q n z hx⟩
theorem Un.kept(k : ∀b u,h.get? b=di u->h'.get? b=di u):Un fs ex H H h h':=
 ⟨λb z q _ _ _=>k b z q,λb z q _ _ _=>⟨z.slots,k b z q⟩,λ_ _ _ n _=>n,λb z q _=>⟨z,k b z q⟩,λ_ _ q=>q,λ_ _ _ q=>q,λ_ a q=>⟨#[],by rw[q];simp⟩⟩
theorem Un.refl:Un fs ex H H h h:=Un.kept λ_ _ q=>q
theorem Un.laid(k : ∀b u,h.get? b=di u->h'.get? b=di u)(z:h.objs.size<=a)(hn:H a=d5):Un fs ex H (upd H a o) h h' where
 keep:=λb u q _ _ _=>k b u q
 slot:=λb u q _ _ _=>⟨u.slots,k b u q⟩
 free:=λb u q n _=>by rw[zK (Lm<|Lc (IT q) z)];exact n
 there:=λb u q _=>⟨u,k b u q⟩
 C4:=λb xs q=>by rw[zK (j3 q hn)];exact q
 Dg:=λb u xs q=>by rw[zK (j3 q hn)];exact q
 C3:=λb ps q=>⟨#[],by rw[zK (j3 q hn),q];simp⟩
theorem Un.write(I:D7 (H x))(U:e=x\/H e=di (.own x))(k : ∀b u,b≠e->h.get? b=di u->h'.get? b=di u)(Y : ∃u,h'.get? e=di u):Un fs ex H (upd H x o) h h':=by
 have d : ∀b,H b=d5->b≠x:=λb n z=>by subst z;rw[n]at I;exact I
 have J : ∀b,H b=d5->b≠e:=λb n z=>by
  subst z;rcases U with r | r
  ·exact d b n r
  ·rw[n]at r;cases r
 have a : ∀b u,H b=di u->¬D7 (di u)->b≠x:=λb u q nm z=>by subst z;rw[q]at I;exact nm I
 refine⟨λb u q n _ _=>k b u (J b n) q,λb u q n _ _=>⟨u.slots,k b u (J b n) q⟩,λb u q n _=>by rw[zK (d b n)];exact n,λb u q _=>?_,
  λb f q=>by rw[zK (a b _ q λz=>z)];exact q,λb u f q=>by rw[zK (a b _ q λz=>z)];exact q,λb g q=>⟨#[],by rw[zK (a b _ q λz=>z),q];simp⟩⟩
 by_cases O:b=e
 ·subst O;exact Y
 ·exact⟨u,k b u O q⟩
end
noncomputable def M8(h:f7)(H:Hp):List eg:=(Iz h.objs.size).filter λa=>(H a).isSome
noncomputable def mB(h:f7)(H:Hp):f7:=PySem.W.hideAll h<|M8 h H
theorem eZ(h:f7)(H:Hp):(mB h H).objs.size=h.objs.size:=PySem.W.hideAll_size _ _
theorem mz(e:h.get? b=di o)(n:H b=d5):(mB h H).get? b=di o:=
 PySem.W.hideAll_get _ e λa=>by have q:(H b).isSome=dn:=(Lb.mp a).2;rw[n]at q;simp at q
theorem rP(e:(mB h H).get? b=di o):h.get? b=di o/\H b=d5:=by
 have I:h.get? b=di o:=PySem.W.of_hideAll (M8 h H) e;refine⟨I,?_⟩;cases q:H b with
 | none=>rfl
 | some x=>
  have a:b∈M8 h H:=Lb.mpr ⟨IC.mpr<|IT I,by simp[q]⟩;have z:(mB h H).get? b=d5:=PySem.W.hideAll_none (M8 h H) a;rw[z]at e;cases e
noncomputable def tK(g h:f7)(L:eg):List (eg×nr):=(Iz h.objs.size).filterMap λa=>if a=L\/(g.get? a).isSome=dn then d5 else (h.get? a).map λo=>(a,o)
noncomputable def kH(g h:f7)(L d:eg):List (eg×nr):=(tK g h L).filter λp=>decide<|p.1≠d
structure Mod(K:Iy)(mg:RJ)(base:f7):Prop where
 Rt:K.In base
 glob:base.Ns vu mg
 blt : ∃mb,base.Ns Sa mb/\∀x:Str,x ≠ "__name__"->mb x=Dc x
 nolimit:base.NoLimit
structure Cx where
 prog:i3
 w:h8
 K:Iy
 mg:Str->Option eh
 base:f7
 A:mm
 N:List Str
 m8:eF
 D5:Hp
 env:nf
 outer:List nf
 stack:List nf
 ex:List eg
 fn:Str->Bool
 calm:Bool
 pn:List (eg×nr)
 xe:eh->eF->Prop
noncomputable def vr(l:List nf):List eg:=l.filterMap (·.frame)
abbrev Cx.fs(X:Cx):List eg:=vr X.outer
noncomputable def O6(C:hL)(x:Str):Prop:=C.names.lookup x=di .local\/C.names.lookup x=di .cell\/C.names.lookup x=di .free
noncomputable def Loc(C:hL)(x:Str):Prop:=C.names.lookup x=di .local\/C.names.lookup x=di .cell
noncomputable def Ie(env:nf)(h:f7)(m:RJ)(x:Str)(u:eh):Prop:=
 (env.kindOf x=di .local/\m x=di u)\/((env.kindOf x=di .cell\/env.kindOf x=di .free)/\∃c,env.cells.lookup x=di c/\h.IsCell c (di u))
structure Cx.Ok(X:Cx):Prop where
 mod:Mod X.K X.mg X.base
 kind:X.env.scope.kind = .function
 glob:X.env.globals=vu
 blt:X.env.builtins=Sa
 above:X.m8.heap.objs.size<=X.env.locals
 inj : ∀x y c,X.env.cells.lookup x=di c->X.env.cells.lookup y=di c->x=y
 has : ∀x,(X.env.kindOf x=di .cell\/X.env.kindOf x=di .free)->∃c,X.env.cells.lookup x=di c
 E3 : ∀x c,X.fn x=dn->X.env.cells.lookup x=di c->X.m8.heap.objs.size<=c
 hd:X.calm=dn->X.A.handled=d5
 frames:X.A.frames=di X.stack
 M1:X.stack=X.outer\/(X.stack=X.env::X.outer/\X.env.frame=di X.env.locals)
 Ig : ∀b∈X.ex,b≠X.env.locals/\∀x c,X.env.cells.lookup x=di c->c≠b
 bs : ∀b o,X.base.get? b=di o->X.m8.heap.get? b=di o/\X.D5 b=d5
 yg:X.base.objs.size<=X.m8.heap.objs.size
 F0 : ∀b o,X.base.get? b=di o->b∉X.ex
 E6 : ∀b∈X.ex,b∉X.fs
 sd:X.m8.heap.FunFrames X.base X.outer
 Df : ∀b∈X.fs,X.D5 b=d5
structure Inv(X:Cx)(pins:RW)(σ:List (Option V))(H:Hp)(s:eF):Prop where
 ok:X.Ok
 os:s.os=X.m8.os
 bare:C5 s.gens
 base:Un X.fs X.ex X.D5 H X.m8.heap s.heap
 loc : ∃m,s.heap.Ns X.env.locals m/\∀(i:Nat) (x:Str) (v:V),X.N[i]? = di x->σ[i]? = di (di v)->O6 X.env.scope x->∃u,RelV v u/\Ie X.env s.heap m x u
 cell : ∀x c,X.env.cells.lookup x=di c->∃v,s.heap.IsCell c v
 free:H X.env.locals=d5
 vl : ∀x c,X.env.cells.lookup x=di c->H c=d5
 pin : ∀p∈X.pn++pins,s.heap.get? p.1=di p.2/\H p.1=d5/\p.1≠X.env.locals/\p.1∉X.fs/\∀v,p.2.data ≠ .cell v
 f9:lC X.prog X.w H s.heap
 len:σ.length=X.N.length
section
variable{X:Cx}{pins:RW}{σ:List (Option V)}{H H':Hp}{s:eF}{h':f7}
theorem Cx.Ok.TR(ok:X.Ok)(e:X.base.get? b=di o):b∉X.fs:=λz=>by have:=(ok.sd.mem z).1;rw[e]at this;cases this
theorem Inv.bs(I:Inv X pins σ H s) : ∀b o,X.base.get? b=di o->s.heap.get? b=di o/\H b=d5:=λb o e=>
 ⟨I.base.keep b o (I.ok.bs b o e).1 (I.ok.bs b o e).2 (I.ok.TR e) (I.ok.F0 b o e),I.base.free b o (I.ok.bs b o e).1 (I.ok.bs b o e).2 (I.ok.F0 b o e)⟩
theorem Inv.bk(I:Inv X pins σ H s) : ∀b o,X.base.get? b=di o->s.heap.get? b=di o:=λb o e=>(I.bs b o e).1
theorem Inv.mod(I:Inv X pins σ H s):Mod X.K X.mg X.base:=I.ok.mod
theorem Inv.m1(I:Inv X pins σ H s):X.K.In s.heap:=I.ok.mod.Rt.keeps I.bk
theorem Inv.lt(I:Inv X pins σ H s):X.env.locals<s.heap.objs.size:=let ⟨_,a,_⟩:=I.loc;a.lt
theorem Inv.sz(I:Inv X pins σ H s):X.m8.heap.objs.size<=s.heap.objs.size:=LN I.ok.above<|Pd I.lt
theorem Inv.TV(I:Inv X pins σ H s)(h:s.heap.objs.size<=a):a∉X.fs:=λz=>by obtain⟨_,o,J,_⟩:=I.ok.sd.mem z;exact absurd (Lc (IT J)<|LN I.sz h)<|LF _
theorem Inv.Dy(I:Inv X pins σ H s) : ∀x c,X.env.cells.lookup x=di c->c≠X.env.locals:=λx c e z=>by obtain⟨v,o,J,a⟩:=I.cell x c e;obtain⟨m,⟨d,b,Y,O,U,_⟩,_⟩:=I.loc;rw[z,O]at J;cases J;rw[U]at a;cases a
theorem Inv.sd(I:Inv X pins σ H s):s.heap.FunFrames X.base X.outer:=by
 have all : ∀(l:List nf),(∀b∈vr l,b∈X.fs)->X.m8.heap.FunFrames X.base l->s.heap.FunFrames X.base l:=by
  intro l
  induction l with
  | nil=>intro _ _;trivial
  | cons a r k=>
   intro Y g;obtain⟨f,⟨L,o,J,h,i,d⟩,j⟩:=g;have O:L∈X.fs:=Y L (by unfold vr;rw[Pk,J];exact IQ);obtain⟨m,e⟩:=I.base.slot L o i (I.ok.Df L O) O λz=>I.ok.E6 L z O;exact⟨f,⟨L,_,J,h,e,d⟩,k (λb U=>Y b<|by unfold vr;rw[Pk,J];exact IM _ U) j⟩
 exact all X.outer (λ_ U=>U) I.ok.sd
theorem Inv.stack(I:Inv X pins σ H s):s.heap.FunFrames X.base X.stack:=by
 rcases I.ok.M1 with e | ⟨e,z⟩
 ·rw[e];exact I.sd
 ·rw[e]
  obtain⟨m,a,_⟩:=I.loc;refine .cons (by rw[I.ok.kind];decide) z a ?_ I.sd;exact Heap.get?_none_of_le<|LN I.ok.yg I.ok.above
theorem Inv.RI(I:Inv X pins σ H s) : ∀b∈vr X.stack,b∈X.env.locals::X.fs:=λb z=>by
 rcases I.ok.M1 with e | ⟨e,J⟩
 ·rw[e]at z;exact IM _ z
 ·rw[e]at z
  unfold vr at z;rw[Pk,J]at z;exact z
theorem Inv.Sz(I:Inv X pins σ H s) : ∀b∈vr X.stack,H b=d5:=λb J=>by
 rcases iU.mp (I.RI b J)with e | J
 ·rw[e];exact I.free
 ·obtain⟨_,o,O,_⟩:=I.ok.sd.mem J
  exact I.base.free b o O (I.ok.Df b J) λz=>I.ok.E6 b z J
theorem Inv.step{g':Array GenState}{t':Nat}{d':Drawn}{ch:List eg}(I:Inv X pins σ H s)
 (U : ∀b∈ch,(b∈X.ex\/X.m8.heap.objs.size<=b)/\b≠X.env.locals/\(∀x c,X.env.cells.lookup x=di c->c≠b)/\∀p∈X.pn++pins,p.1≠b)
 (keep : ∀b o,b≠X.env.locals->b∉X.fs->b∉ch->s.heap.get? b=di o->H b=d5->h'.get? b=di o)
 (C : ∀b o,b≠X.env.locals->b∈X.fs->b∉ch->s.heap.get? b=di o->H b=d5->∃sl,h'.get? b=di {o with slots:=sl}) (free : ∀b o,b∉ch->s.heap.get? b=di o->H b=d5->H' b=d5)
 (L : ∀b o,b∉ch->s.heap.get? b=di o->∃Z,h'.get? b=di Z)
 (C4 : ∀b xs,H b=di (.tup xs)->H' b=di (.tup xs)) (S : ∀b o u,H b=di (.rq o u)->H' b=di (.rq o u)) (C3 : ∀b ps,H b=di (.DG ps)->∃more,H' b=di (.DG<|ps++more))
 (ns : ∀m,s.heap.Ns X.env.locals m->h'.Ns X.env.locals m) (f9:lC X.prog X.w H' h') (hg:C5 g') :
 Inv X pins σ H' {s with heap:=h',gens:=g',drawn:=d',toks:=t'}:=by
 have t : ∀b o,X.m8.heap.get? b=di o->b≠X.env.locals:=λb o e=>Lm<|Lc (IT e) I.ok.above;have h : ∀b o,X.m8.heap.get? b=di o->b∉X.ex->b∉ch:=λb o e a J=>by
  rcases (U b J).1 with z | z
  ·exact a z
  ·exact absurd (Lc (IT e) z)<|LF _
 have y : ∀x c,X.env.cells.lookup x=di c->∀v,s.heap.IsCell c v->h'.IsCell c v:=λx c e v M=>by
  obtain⟨o,O,j⟩:=M;have Y:c∉ch:=λz=>(U c z).2.2.1 x c e rfl;by_cases A:c∈X.fs
  ·obtain⟨sl,q⟩:=C c o (I.Dy x c e) A Y O (I.vl x c e)
   exact⟨_,q,j⟩
  ·exact⟨o,keep c o (I.Dy x c e) A Y O<|I.vl x c e,j⟩
 refine⟨I.ok,I.os,hg,⟨λb o e n J a=>?_,λb o e n J a=>?_,λb o e n a=>?_,λb o e a=>?_,λb xs e=>C4 b xs<|I.base.C4 b xs e,λb o xs e=>S b o xs<|I.base.Dg b o xs e,λb ps e=>?_⟩,?_,λx c e=>?_,?_,λx c e=>?_,λp B=>?_,f9,I.len⟩
 ·exact keep b o (t b o e) J (h b o e a) (I.base.keep b o e n J a)<|I.base.free b o e n a
 ·obtain⟨sl,f⟩:=I.base.slot b o e n J a
  obtain⟨G,g⟩:=C b _ (t b o e) J (h b o e a) f<|I.base.free b o e n a;exact⟨G,g⟩
 ·obtain⟨Z,f⟩:=I.base.there b o e a
  exact free b Z (h b o e a) f<|I.base.free b o e n a
 ·obtain⟨Z,f⟩:=I.base.there b o e a
  exact L b Z (h b o e a) f
 ·obtain⟨Q,f⟩:=I.base.C3 b ps e
  obtain⟨R,g⟩:=C3 b _ f;exact⟨Q++R,by rw[g,Array.append_assoc]⟩
 ·obtain⟨m,P,N⟩:=I.loc
  refine⟨m,ns m P,λi x v f g K=>?_⟩;obtain⟨u,r,l⟩:=N i x v f g K;refine⟨u,r,?_⟩;rcases l with l | ⟨k,c,e,z⟩
  ·exact .inl l
  ·exact .inr ⟨k,c,e,y x c e _ z⟩
 ·obtain⟨v,z⟩:=I.cell x c e
  exact⟨v,y x c e v z⟩
 ·obtain⟨m,⟨o,_,_,O,_⟩,_⟩:=I.loc
  exact free _ o (λz=>(U _ z).2.1 rfl) O I.free
 ·obtain⟨v,o,O,j⟩:=I.cell x c e
  exact free c o (λz=>(U c z).2.2.1 x c e rfl) O<|I.vl x c e
 ·obtain⟨e,n,E,F,d⟩:=I.pin p B
  have Y:p.1∉ch:=λz=>(U p.1 z).2.2.2 p B rfl;exact⟨keep p.1 p.2 E F Y e n,free p.1 p.2 Y e n,E,F,d⟩
theorem Inv.un{t':Nat}(I:Inv X pins σ H s)(u:Un X.fs [] H H' s.heap h')(C:lC X.prog X.w H' h'):Inv X pins σ H' {s with heap:=h',toks:=t'}:=by
 obtain⟨m,⟨o,i,h,O,r⟩,_⟩:=id I.loc;obtain⟨l,Y⟩:=u.any O I.free ⋯;exact I.step (g':=s.gens) (d':=s.drawn) (ch:=[]) (λ_ z=>nomatch z) (λb o _ J _ e n=>u.keep b o e n J ⋯) (λb o _ J _ e n=>u.slot b o e n J ⋯) (λb o _ e n=>u.free b o e n ⋯) (λb o _ e=>u.there b o e ⋯) u.C4 u.Dg u.C3 (λj f=>by obtain⟨k,a,d,U,g⟩:=f;rw[O]at U;cases U;exact⟨_,a,d,Y,g⟩) C I.bare
theorem Inv.call{g':Array GenState}{t':Nat}{d':Drawn}{ch:List eg}(I:Inv X pins σ H s)(u:Un (vr X.stack) ch H H' s.heap h')(C:lC X.prog X.w H' h')(L:C5 g')
 (U : ∀b∈ch,(b∈X.ex\/X.m8.heap.objs.size<=b)/\b≠X.env.locals/\(∀x c,X.env.cells.lookup x=di c->c≠b)/\∀p∈X.pn++pins,p.1≠b) :
 Inv X pins σ H' {s with heap:=h',gens:=g',drawn:=d',toks:=t'}:=by
 obtain⟨m,⟨o,k,j,Y,r⟩,_⟩:=id I.loc;obtain⟨y,O⟩:=u.any Y I.free λz=>(U _ z).2.1 rfl;exact I.step (ch:=ch) U (λb o O g J e n=>u.keep b o e n (λz=>(iU.mp<|I.RI b z).elim O g) J) (λb o _ _ J e n=>u.any e n J) (λb o J e n=>u.free b o e n J) (λb o J e=>u.there b o e J) u.C4 u.Dg u.C3 (λl h=>by obtain⟨t,d,f,a,i⟩:=h;rw[Y]at a;cases a;exact⟨_,d,f,O,i⟩) C L
theorem Inv.turned{t':Nat}{it:eg}(I:Inv X pins σ H s)(k : ∀b o,b≠it->s.heap.get? b=di o->h'.get? b=di o)(S:H it=d5)(O:it≠X.env.locals)
 (C:it∈X.ex\/X.m8.heap.objs.size<=it) (L : ∀x c,X.env.cells.lookup x=di c->c≠it) (Y : ∀p∈X.pn++pins,p.1≠it):Inv X pins σ H {s with heap:=h',toks:=t'}:=by
 have U : ∀b u,H b=di u->b≠it:=λb u e z=>by rw[z,S]at e;cases e
 refine I.step (g':=s.gens) (d':=s.drawn) (ch:=[it]) (λb f=>?_) (λb o _ _ J e _=>k b o (λz=>J<|by simp[z]) e) (λb o _ _ J e _=>⟨o.slots,k b o (λz=>J<|by simp[z]) e⟩) (λ_ _ _ _ n=>n)
  (λb o J e=>⟨o,k b o (λz=>J<|by simp[z]) e⟩) (λ_ _ e=>e) (λ_ _ _ e=>e) (λb i e=>⟨#[],by rw[e];simp⟩) (λm g=>?_) (λb u e=>?_) I.bare
 ·have e:b=it:=by simpa using f
  subst e;exact⟨C,O,L,Y⟩
 ·obtain⟨o,d,a,h,r⟩:=g
  exact⟨o,d,a,k _ o (Ll O) h,r⟩
 ·refine(I.f9 b u e).Dj (λc v J q=>k c v ?_ q) (λ_ q=>q) λ_ _ q=>q
  rcases J with z | z
  ·rw[z];exact U b u e
  ·exact U c _ z
theorem Inv.tok(I:Inv X pins σ H s)(t:Nat):Inv X pins σ H {s with toks:=t}:=I.un (h':=s.heap) (t':=t) Un.refl I.f9
theorem Inv.kept(I:Inv X pins σ H s)(k : ∀b u,s.heap.get? b=di u->h'.get? b=di u):Inv X pins σ H {s with heap:=h',toks:=t'}:=I.un (Un.kept k)<|I.f9.kept k
theorem Inv.laid(I:Inv X pins σ H s)(k : ∀b u,s.heap.get? b=di u->h'.get? b=di u)(z:s.heap.objs.size<=a)(new:la X.prog X.w (upd H a o) h' a o) :
 Inv X pins σ (upd H a o) {s with heap:=h',toks:=t'}:=I.un (Un.laid k z<|I.f9.fresh z)<|I.f9.laid k z new
theorem Inv.write(I:Inv X pins σ H s)(z:D7 (H x))(J:e=x\/H e=di (.own x))(k : ∀b u,b≠e->s.heap.get? b=di u->h'.get? b=di u)(O : ∃u,h'.get? e=di u)
 (new:la X.prog X.w (upd H x o) h' x o):Inv X pins σ (upd H x o) {s with heap:=h',toks:=t'}:=I.un (Un.write z J k O)<|I.f9.write z J k O new
theorem Inv.L7(I:Inv X pins σ H s)(h : ∀p∈J,s.heap.get? p.1=di p.2/\H p.1=d5/\p.1≠X.env.locals/\p.1∉X.fs/\∀v,p.2.data ≠ .cell v):Inv X J σ H s:=
 ⟨I.ok,I.os,I.bare,I.base,I.loc,I.cell,I.free,I.vl,λp O=>(ME.mp O).elim (λz=>I.pin p<|Pe _ z) (h p),I.f9,I.len⟩
theorem WG{N:List Str}(z:N.Nodup){i j:Nat}{x:Str}(a:N[i]? = di x)(b:N[j]? = di x):i=j:=by obtain⟨e,d⟩:=IP.mp a;obtain⟨f,I⟩:=IP.mp b;exact(List.getElem_inj z).mp (d.trans I.symm)
theorem Ky{M:Model}{A:mm}{E:RQ}{i:Nat}{x:Str}{v:V}{u:eh}{Q:Unit->eF->Prop}(I:Inv X pins σ H s)(hN:X.N.Nodup)(hi:X.N[i]? = di x)(hx:Loc X.env.scope x)(r:RelV v u)
 (h : ∀Z,Inv X pins (σ.set i<|some v) H Z->(∃a,NY a s.heap Z.heap/\(a=X.env.locals\/X.env.cells.lookup x=di a))->Q () Z) (hf:X.fn x=dn\/X.env.scope.names.lookup x=di .local:=by first | exact .inl rfl | exact .inr rfl | assumption):wpAny M A (storeName X.env x u) Q E s:=by
 obtain⟨m,K,hl⟩:=id I.loc;have b5:(X.env.scope.kind == .class || (X.env.scope.kind == .module && X.env.locals != X.env.globals))=ed:=by rw[I.ok.kind];rfl
 have ak:i<σ.length:=by rw[I.len];exact(IP.mp hi).1
 have Dy:=I.Dy;have am : ∀{a:eg} {h':f7},(∃o,s.heap.get? a=di o/\H a=d5)->NY a s.heap h'->lC X.prog X.w H h':=λ{a h'} ha J b ob e=>by
  obtain⟨_,_,an⟩:=ha;refine(I.f9 b ob e).Dj (λc C O q=>(J.2 c ?_).trans q) (λ_ q=>q) λ_ _ q=>q;rintro rfl;rcases O with rfl | O
  ·rw[an]at e;cases e
  ·rw[an]at O;cases O
 rcases hx with Y | Y
 ·refine wpAny_storeName_local Y K (λh' b7 J=>?_) b5
  obtain⟨oL,_,_,b9,_⟩:=id K;refine h _ ⟨I.ok,I.os,I.bare,⟨λb o e n g hx=>?_,λb o e n g hx=>?_,I.base.free,λb o e hx=>?_,I.base.C4,I.base.Dg,I.base.C3⟩,⟨_,b7,λj y v' f U G=>?_⟩,λy c e=>?_,I.free,I.vl,λp L=>?_,am ⟨oL,b9,I.free⟩ J,by simpa using I.len⟩ ⟨_,J,.inl rfl⟩
  ·exact(J.2 b<|Lm<|Lc (IT e) I.ok.above).trans (I.base.keep b o e n g hx)
  ·obtain⟨T,f⟩:=I.base.slot b o e n g hx
   exact⟨T,(J.2 b<|Lm<|Lc (IT e) I.ok.above).trans f⟩
  ·obtain⟨R,f⟩:=I.base.there b o e hx
   exact⟨R,(J.2 b<|Lm<|Lc (IT e) I.ok.above).trans f⟩
  ·by_cases l:j=i
   ·subst l
    rw[hi]at f;cases f;rw[IX ak]at U;cases U;exact⟨u,r,.inl ⟨Y,by simp⟩⟩
   ·rw[IG (Ll l)]at U
    obtain⟨W,S,q⟩:=hl j y v' f U G;refine⟨W,S,?_⟩;rcases q with⟨k,e⟩ | ⟨k,c,e,z⟩
    ·refine .inl ⟨k,?_⟩
     have:y≠x:=λe=>l<|WG hN f<|e ▸ hi;simp[this,e]
    ·exact .inr ⟨k,c,e,z.sameBut J<|Dy y c e⟩
  ·obtain⟨C,z⟩:=I.cell y c e
   exact⟨C,z.sameBut J<|Dy y c e⟩
  ·obtain⟨e,n,B,P,d⟩:=I.pin p L
   exact⟨(J.2 p.1 B).trans e,n,B,P,d⟩
 ·have F:X.fn x=dn:=by
   rcases hf with z | z
   ·exact z
   ·rw[z]at Y;cases Y
  obtain⟨c,O⟩:=I.ok.has x<|.inl Y;obtain⟨C,z⟩:=I.cell x c O;refine wpAny_storeName_cell I.ok.kind Y O z<|λh' ap J=>?_;obtain⟨oc,as,bb⟩:=id z;refine h {s with heap:=h'} ⟨I.ok,I.os,I.bare,⟨λb o e n g hx=>?_,λb o e n g hx=>?_,I.base.free,λb o e hx=>?_,I.base.C4,I.base.Dg,I.base.C3⟩,⟨m,K.sameBut J<|Ll<|Dy x c O,λj y v' f U G=>?_⟩,λy t e=>?_,I.free,I.vl,λp L=>?_,am ⟨oc,as,I.vl x c O⟩ J,by simpa using I.len⟩ ⟨c,J,.inr O⟩
  ·exact(J.2 b<|Lm<|Lc (IT e)<|I.ok.E3 x c F O).trans (I.base.keep b o e n g hx)
  ·obtain⟨T,f⟩:=I.base.slot b o e n g hx
   exact⟨T,(J.2 b<|Lm<|Lc (IT e)<|I.ok.E3 x c F O).trans f⟩
  ·obtain⟨R,f⟩:=I.base.there b o e hx
   exact⟨R,(J.2 b<|Lm<|Lc (IT e)<|I.ok.E3 x c F O).trans f⟩
  ·by_cases l:j=i
   ·subst l
    rw[hi]at f;cases f;rw[IX ak]at U;cases U;exact⟨u,r,.inr ⟨.inl Y,c,O,ap⟩⟩
   ·rw[IG (Ll l)]at U
    obtain⟨W,S,q⟩:=hl j y v' f U G;refine⟨W,S,?_⟩;rcases q with q | ⟨k,t,e,z'⟩
    ·exact .inl q
    ·refine .inr ⟨k,t,e,z'.sameBut J ?_⟩
     rintro rfl;exact l<|WG hN f<|I.ok.inj _ _ _ e O ▸ hi
  ·by_cases ax:t=c
   ·subst ax;exact⟨_,ap⟩
   ·obtain⟨w2,z2⟩:=I.cell y t e
    exact⟨w2,z2.sameBut J ax⟩
  ·obtain⟨e,n,B,P,d⟩:=I.pin p L
   refine⟨(J.2 p.1 ?_).trans e,n,B,P,d⟩;intro q;rw[q,as]at e;have q':oc=p.2:=Lq e;exact d C (by rw[<- q'];exact bb)
theorem We(I:Inv X pins σ H s)(z:X.N.Nodup)(hi:X.N[i]? = di x)(hx:Loc X.env.scope x)(r:RelV v u)
 (h : ∀C,Inv X pins (σ.set i<|some v) H C->Q () C) (J:X.fn x=dn\/X.env.scope.names.lookup x=di .local:=by first | exact .inl rfl | exact .inr rfl | assumption):wpAny M A (storeName X.env x u) Q E s:=
 Ky I z hi hx r (λC O _=>h C O) J
theorem Inv.Tq(I:Inv X pins σ H s)(z:s'.os=s.os)(u:Un (vr X.stack) ch H H' s.heap s'.heap)(C:lC X.prog X.w H' s'.heap)(J:C5 s'.gens)
 (O : ∀b∈ch,(b∈X.ex\/X.m8.heap.objs.size<=b)/\b≠X.env.locals/\(∀x c,X.env.cells.lookup x=di c->c≠b)/\∀p∈X.pn++pins,p.1≠b):Inv X pins σ H' s':=by
 obtain⟨h',g',d',t',a⟩:=s';have e:a=s.os:=z;subst e;exact I.call (g':=g') (t':=t') (d':=d') u C J O
end
abbrev XK:=eh->Option eg->Hp->Prop
abbrev St:=List (Option V)
abbrev VK:=V->Hp->Prop
abbrev TE:=St->Hp->VK->Prop
abbrev TT:=St->Hp->(Bool->Hp->Prop)->Prop
abbrev TA:=St->Hp->(List V->Hp->Prop)->Prop
structure Ends where
 nx:St->Hp->Prop
 rt:VK
 bk:St->Hp->Prop:=λ_ _=>False
 ct:St->Hp->Prop:=λ_ _=>False
abbrev TS:=Ends->St->Hp->Prop
noncomputable def EP(X:Cx)(C:RW)(J:St)(Q:VK)(u:eh)(I:eF):Prop:=∃v a,Inv X C J a I/\RelV v u/\Q v a
noncomputable def TP(X:Cx)(C:RW)(J:St)(Q:Bool->Hp->Prop)(b:Bool)(I:eF):Prop:=∃a,Inv X C J a I/\Q b a
noncomputable def AP(X:Cx)(C:RW)(J:St)(Q:List V->Hp->Prop)(us:List eh)(I:eF):Prop:=∃b a,Inv X C J a I/\fy b us/\Q b a
noncomputable def SP(X:Cx)(C:RW)(D:Ends)(f:Flow)(I:eF):Prop:=
 match f with
 | .next=>∃a b,Inv X C a b I/\D.nx a b
 | .brk=>∃a b,Inv X C a b I/\D.bk a b
 | .cont=>∃a b,Inv X C a b I/\D.ct a b
 | .ret u=>∃v a b,Inv X C a b I/\RelV v u/\D.rt v b
noncomputable def PE(X:Cx)(e:eA)(t:TE):Prop:=
 ∀(a:RW) (s:eF) (b:St) (H:Hp) (Q:VK),Inv X a b H s->t b H Q->wpAny (e9 X.prog X.w) X.A (fh e X.env) (EP X a b Q) X.xe s
noncomputable def PT(X:Cx)(e:eA)(t:TT):Prop:=
 ∀(a:RW) (s:eF) (b:St) (H:Hp) (Q:Bool->Hp->Prop),Inv X a b H s->t b H Q->wpAny (e9 X.prog X.w) X.A (DA e X.env<|eval e X.env) (TP X a b Q) X.xe s
noncomputable def PW(X:Cx)(e:eA)(t:TT):Prop:=
 ∀(z:Sem eh) (a:RW) (s:eF) (b:St) (H:Hp) (Q:Bool->Hp->Prop),Inv X a b H s->t b H Q->wpAny (e9 X.prog X.w) X.A (DA e X.env z) (TP X a b Q) X.xe s
theorem PW.pt(h:PW X e t):PT X e t:=h _
noncomputable def PA(X:Cx)(C:List eA)(t:TA):Prop:=
 ∀(pos:hB) (a:RW) (s:eF) (b:St) (H:Hp) (Q:List V->Hp->Prop),Inv X a b H s->t b H Q->wpAny (e9 X.prog X.w) X.A (M0<|backTo pos<|starEach C X.env) (AP X a b Q) X.xe s
noncomputable def PS(X:Cx)(st:kv)(t:TS):Prop:=
 ∀(a:RW) (s:eF) (b:St) (H:Hp) (D:Ends),Inv X a b H s->t D b H->wpAny (e9 X.prog X.w) X.A (exec st X.env) (SP X a D) X.xe s
noncomputable def p9(X:Cx)(st:List kv)(t:TS):Prop:=
 ∀(a:RW) (s:eF) (b:St) (H:Hp) (D:Ends),Inv X a b H s->t D b H->wpAny (e9 X.prog X.w) X.A (execs st X.env) (SP X a D) X.xe s
theorem ft(h:wpAny M A t Q E s)(z : ∀a s,Q a s->Q' a s):wpAny M A t Q' E s:=MI h z λ_ _ x=>x
section
variable{X:Cx}
noncomputable def tU(i:Nat):TE:=λa H Q=>∃v,a[i]? = di (di v)/\Q v H
noncomputable def tC(v:V):TE:=λ_ H Q=>Q v H
theorem AH(Y:X.N[i]? = di x)(S:O6 X.env.scope x)(C:(x==("__debug__" : Str))=ed:=by decide)(L:(x==("__classdict__" : Str))=ed:=by decide):PE X (.Name x pos) (tU i):=by
 intro a s g H Q I h;obtain⟨v,e,h⟩:=h;obtain⟨m,f,b⟩:=I.loc;obtain⟨u,r,l⟩:=b i x v Y e S;have J:EP X a g Q u s:=⟨v,H,I,r,h⟩;rcases l with⟨z,d⟩ | ⟨z,c,O,U⟩
 ·exact SS (wpAny_loadName_local I.ok.kind z f d J) C
 ·rcases z with z | z
  ·exact SS (wpAny_loadName_cell I.ok.kind z O U J) C
  ·exact SS (wpAny_loadName_free I.ok.kind z O U J L) C
theorem AQ:PE X (.Constant (.int i) j pos) (tC<|.int i):=λ_ _ _ H _ I h=>wpAny_Constant_int ⟨.int i,H,I.tok _,⟨_,rfl⟩,h⟩
theorem EZ:PE X (.Constant (.bool b) j pos) (tC<|.bl b):=λ_ _ _ H _ I h=>Constant_bool ⟨.bl b,H,I,rfl,h⟩
theorem AM:PE X (.Constant .none j pos) (tC .el):=λ_ _ _ H _ I h=>Constant_none ⟨.el,H,I,rfl,h⟩
theorem AJ:PE X (.Constant (.str x) j pos) (tC<|.str x):=λ_ _ _ H _ I h=>Calls.Constant_str ⟨.str x,H,I.tok _,⟨_,rfl⟩,h⟩
noncomputable def Gl(X:Cx)(x:Str):Prop:=X.env.kindOf x=di .globalImplicit
theorem eI(I:Inv X pins σ H s)(z:Gl X x)(J:X.mg x=di u)(h:Q u s)
 (C:(x==("__debug__" : Str))=ed:=by decide):wpAny (e9 X.prog X.w) X.A (fh (.Name x pos) X.env) Q E s:=
 Calls.Name_function_global I.ok.kind z (Calls.loadGlobal_global (by rw[I.ok.glob];exact I.mod.glob.keeps I.bk) J h) C
theorem yF(I:Inv X pins σ H s)(z:Gl X x)(L:X.mg x=d5)(J:Dc x=di u)(h:Q u s)
 (O:x ≠ "__name__":=by decide) (C:(x==("__debug__" : Str))=ed:=by decide):wpAny (e9 X.prog X.w) X.A (fh (.Name x pos) X.env) Q E s:=by
 obtain⟨d,a,b⟩:=I.mod.blt;exact Calls.Name_function_global I.ok.kind z (Calls.loadGlobal_builtin (by rw[I.ok.glob];exact I.mod.glob.keeps I.bk) L (by rw[I.ok.blt];exact a.keeps I.bk) ((b x O).trans J) h) C
variable{a b:eA}{ta tb:TE}{pos:hB}
noncomputable def PC(X:Cx)(z:D3)(a b:eA)(t:TE):Prop:=
 ∀(d:RW) (s:eF) (e:St) (H:Hp) (Q:VK),Inv X d e H s->t e H Q->
  wpAny (e9 X.prog X.w) X.A (fh a X.env) (λv I=>wpAny (e9 X.prog X.w) X.A (fh b X.env) (λu J=>wpAny (e9 X.prog X.w) X.A (l7 z v u) (EP X d e Q) X.xe J) X.xe I) X.xe s
theorem lO(b:eA)(h:op ≠ .In)(C:op ≠ .NotIn):u9 op b=ed:=by
 have a:(op==CmpOp.In)=ed:=by cases op<;>first | rfl | exact absurd rfl h
 have z:(op==CmpOp.NotIn)=ed:=by cases op<;>first | rfl | exact absurd rfl C
 cases b<;>simp[u9,a,z]
noncomputable def tB(t:TE):TT:=λb H Q=>t b H λx a=>∃c,x = .bl c/\Q c a
theorem Az(h:PC X op a b t)(C:u9 op b=ed:=by first | exact lO _ ⋯ ⋯ | rfl):PT X (.Compare a [op] [b] pos) (tB t):=by intro e s j H Q I i;refine Ui (ft (h e s j H _ I i) λv k C=>ft C λu l g=>ft g λc Y z=>?_) C;obtain⟨x,f,J,O,U⟩:=z;obtain⟨d,rfl,q⟩:=U;cases O;exact Mb ⟨f,J,q⟩
theorem Ax(h:PE X e t)(J : ∀z,DA e X.env z=(do let v <- z;DF e.pos;sh [v] (Gx v)):=by intro _;rfl):PT X e (tB t):=by intro a s i H Q I f;refine isTrue_plain (ft (h a s i H _ I f) λv j O=>?_)<|J _;obtain⟨x,b,U,Y,g⟩:=O;obtain⟨d,rfl,q⟩:=g;cases Y;exact Mb ⟨b,U,q⟩
variable{tA M4:TT}{kH:List eA}
noncomputable def Hx(t u:TT):TT:=λb H Q=>t b H λc a=>if c=dn then u b a Q else Q ed a
noncomputable def Ua(t u:TT):TT:=λb H Q=>t b H λc a=>if c=dn then Q dn a else u b a Q
noncomputable def Hq(t:TT):TT:=λb H Q=>t b H λc a=>Q (!c) a
theorem pS(C:PT X a tA):PW X (.BoolOp .And [a] pos) tA:=by
 intro z b s d H Q I h;refine isTrue_and<|ft (C b s d H Q I h) λc f e=>?_;cases c with
 | true=>exact isTrue_and_nil e
 | false=>exact e
theorem Aj(C:PT X a tA):PW X (.BoolOp .Or [a] pos) tA:=by
 intro z b s d H Q I h;refine isTrue_or<|ft (C b s d H Q I h) λc f e=>?_;cases c with
 | false=>exact isTrue_or_nil e
 | true=>exact e
theorem Ak(C:PT X a tA)(O:PW X (.BoolOp .And (b::kH) pos) M4):PW X (.BoolOp .And (a::b::kH) pos) (Hx tA M4):=by
 intro U d s f H Q I h;refine isTrue_and<|ft (C d s f H _ I h) λc g Y=>?_;obtain⟨e,z,J⟩:=Y;cases c with
 | true=>exact O U d g f e Q z J
 | false=>exact⟨e,z,J⟩
theorem ET(C:PT X a tA)(O:PW X (.BoolOp .Or (b::kH) pos) M4):PW X (.BoolOp .Or (a::b::kH) pos) (Ua tA M4):=by
 intro U d s f H Q I h;refine isTrue_or<|ft (C d s f H _ I h) λc g Y=>?_;obtain⟨e,z,J⟩:=Y;cases c with
 | true=>exact⟨e,z,J⟩
 | false=>exact O U d g f e Q z J
theorem Ay(ha:PT X a tA):PT X (.UnaryOp .Not a pos) (Hq tA):=by intro b s e H Q I h;exact isTrue_not<|ha b s e H (λc d=>Q (!c) d) I h
noncomputable def ED(ta tb:TE):TE:=λb H Q=>ta b H λx a=>∃c,x = .bl c/\if c=dn then tb b a Q else Q (.bl ed) a
noncomputable def Ex(ta:TE):TE:=λb H Q=>ta b H λx a=>∃c,x = .bl c/\Q (.bl<|!c) a
theorem AK(h:PE X a t):PE X (.BoolOp op [a] pos) t:=λb s e H Q I d=>BoolOp_one<|h b s e H Q I d
theorem AR(C:PE X a ta)(O:PE X (.BoolOp .And (b::kH) pos) tb):PE X (.BoolOp .And (a::b::kH) pos) (ED ta tb):=by
 intro d s f H Q I h;refine BoolOp_and<|ft (C d s f H _ I h) λv g U=>?_;obtain⟨x,e,J,Y,z⟩:=U;obtain⟨c,rfl,z⟩:=z;cases Y;refine Mb ?_;cases c with
 | true=>exact O d g f e Q J z
 | false=>exact⟨.bl ed,e,J,rfl,z⟩
theorem AL(C:PE X a ta):PE X (.UnaryOp .Not a pos) (Ex ta):=by intro b s e H Q I h;refine UnaryOp_<|ft (C b s e H _ I h) λv f J=>?_;obtain⟨x,d,O,U,z⟩:=J;obtain⟨c,rfl,z⟩:=z;cases U;exact not_of<|Mb ⟨.bl<|!c,d,O,rfl,z⟩
noncomputable def RO(t:TT)(ta tb:TE):TE:=λa H Q=>t a H λc b=>if c=dn then ta a b Q else tb a b Q
theorem lq(O:PT X c tA)(C:PE X a ta)(U:PE X b tb):PE X (.IfExp c a b pos) (RO tA ta tb):=by
 intro e s f H Q I h;refine wpAny_IfExp<|ft (O e s f H _ I h) λd i Y=>?_;obtain⟨g,z,J⟩:=Y;cases d with
 | true=>exact C e i f g Q z J
 | false=>exact U e i f g Q z J
end
noncomputable def gm(K:Iy)(H:Hp)(a:eg)(xs:List V):Prop:=
 Rd H a (.lst xs)\/
  ∃(o:nr) (z:Array eh) (n:Nat),K.lookup a=di o/\o.cls = .type "list"/\o.dict=d5/\o.data = .seq z n/\z.size<=f6/\fy xs z.toList
noncomputable def hG(K:Iy)(H:Hp)(a:eg)(xs:List V):Prop:=
 Rd H a (.tup xs)\/
  ∃(o:nr) (z:Array eh) (n:Nat),K.lookup a=di o/\(o.cls,o.dict)=(NM "tuple",d5)/\o.data = .seq z n/\z.size<=f6/\fy xs z.toList
noncomputable def HZ:eh->Option V
 | .none=>di .el
 | .bool b=>di (.bl b)
 | .int i _=>di (.int i)
 | .str x _=>di (.str x)
 | .bytes b _=>di (.E2 b)
 | .float b _=>di (.DT b)
 | .ref a=>di (.ref a)
 | .type n=>di (.ty n)
 | _=>d5
theorem RelV.abs(r:RelV x u):HZ u=di x:=by
 cases x with
 | el=>cases r;rfl
 | bl _=>cases r;rfl
 | int _=>obtain⟨t,rfl⟩:=r;rfl
 | str _=>obtain⟨t,rfl⟩:=r;rfl
 | E2 _=>obtain⟨t,rfl⟩:=r;rfl
 | DT _=>obtain⟨t,rfl⟩:=r;rfl
 | ref _=>cases r;rfl
 | ty _=>cases r;rfl
theorem RelV.inj(r:RelV x u)(q:RelV y u):x=y:=Lq<|r.abs.symm.trans q.abs
theorem fy.inj : ∀{xs ys:List V} {us:List eh},fy xs us->fy ys us->xs=ys
 | _,_,_,.nil,.nil=>rfl
 | _,_,_,.cons r t,.cons r' t'=>by rw[r.inj r',fy.inj t t']
section
variable{X:Cx}{pins:RW}{σ:St}{H:Hp}{s:eF}{a:eg}{xs ys:List V}
theorem gm.of{K:Iy}(h:H a=di (.lst xs)):gm K H a xs:= .inl (.inl h)
theorem hG.of{K:Iy}(h:H a=di (.tup xs)):hG K H a xs:= .inl (.inl h)
theorem Inv.list(I:Inv X pins σ H s)(h:gm X.K H a xs) : ∃J:List eh,fy xs J/\PlainL s.heap a J.toArray/\xs.length<=f6:=by
 rcases h with h | ⟨o,J,n,O,U,hd,Y,hz,r⟩
 ·obtain⟨z,J,n,r,e⟩:=h.ok I.f9
  exact⟨J,r,⟨_,n,e,rfl,rfl,rfl⟩,z⟩
 ·refine⟨J.toList,r,⟨o,n,I.m1 a o O,U,hd,by simpa using Y⟩,?_⟩
  have e:=r.length;simp only[Md]at e;omega
theorem Inv.tuple(I:Inv X pins σ H s)(h:hG X.K H a xs) : ∃J:List eh,fy xs J/\D6 s.heap a J.toArray/\xs.length<=f6:=by
 rcases h with h | ⟨o,J,n,O,U,Y,hz,r⟩
 ·obtain⟨z,J,r,p⟩:=h.ok I.f9
  exact⟨J,r,p.tup,z⟩
 ·refine⟨J.toList,r,⟨o,I.m1 a o O,(Prod.mk.inj U).1,n,by simpa using Y⟩,?_⟩
  have e:=r.length;simp only[Md]at e;omega
theorem Inv.Ru(I:Inv X pins σ H s)(h:gm X.K H a xs)(h':gm X.K H a ys):xs=ys:=by
 obtain⟨J,r,⟨o,n,e,_,_,d⟩,_⟩:=I.list h;obtain⟨b,g,⟨j,i,z,_,_,f⟩,_⟩:=I.list h';rw[e]at z;cases z;rw[d]at f;injection f with O _;have:J=b:=by simpa using congrArg Array.toList O
 subst this;exact r.inj g
theorem Inv.SK(I:Inv X pins σ H s)(h:hG X.K H a xs)(h':hG X.K H a ys):xs=ys:=by
 obtain⟨J,r,⟨o,e,_,n,d⟩,_⟩:=I.tuple h;obtain⟨b,g,⟨j,z,_,i,f⟩,_⟩:=I.tuple h';rw[e]at z;cases z;rw[d]at f;injection f with O _;have:J=b:=by simpa using congrArg Array.toList O
 subst this;exact r.inj g
end
abbrev Cx.A3(X:Cx)(E:RQ):Cx:={X with xe:=E}
abbrev Cx.F3(X:Cx):Cx:=X.A3 λ_ _=>False
theorem Cx.Ok.A3{X:Cx}(ok:X.Ok)(E:RQ):(X.A3 E).Ok:=
 ⟨ok.mod,ok.kind,ok.glob,ok.blt,ok.above,ok.inj,ok.has,ok.E3,ok.hd,ok.frames,ok.M1,ok.Ig,ok.bs,ok.yg,ok.F0,ok.E6,ok.sd,ok.Df⟩
theorem Cx.Ok.Dl{X:Cx}{E:RQ}(ok:(X.A3 E).Ok):X.Ok:=
 ⟨ok.mod,ok.kind,ok.glob,ok.blt,ok.above,ok.inj,ok.has,ok.E3,ok.hd,ok.frames,ok.M1,ok.Ig,ok.bs,ok.yg,ok.F0,ok.E6,ok.sd,ok.Df⟩
section
variable{X:Cx}{pins:RW}{σ:St}{H:Hp}{s:eF}{E:RQ}
theorem Inv.A3(I:Inv X pins σ H s)(E:RQ):Inv (X.A3 E) pins σ H s:=⟨I.ok.A3 E,I.os,I.bare,I.base,I.loc,I.cell,I.free,I.vl,I.pin,I.f9,I.len⟩
theorem Inv.Dl(I:Inv (X.A3 E) pins σ H s):Inv X pins σ H s:=⟨I.ok.Dl,I.os,I.bare,I.base,I.loc,I.cell,I.free,I.vl,I.pin,I.f9,I.len⟩
theorem SP.Dl(h:SP (X.A3 E) pins D f s'):SP X pins D f s':=by
 cases f with
 | next=>obtain⟨a,b,I,q⟩:=h;exact⟨a,b,I.Dl,q⟩
 | brk=>obtain⟨a,b,I,q⟩:=h;exact⟨a,b,I.Dl,q⟩
 | cont=>obtain⟨a,b,I,q⟩:=h;exact⟨a,b,I.Dl,q⟩
 | ret u=>obtain⟨v,a,b,I,r,q⟩:=h;exact⟨v,a,b,I.Dl,r,q⟩
theorem p9.F3{st:List kv}{t:TS}(h:p9 X.F3 st t):p9 X st t:=λpins s σ H D I a=>
 MI (h pins s σ H D (I.A3 _) a) (λ_ _ q=>q.Dl) λ_ _ z=>MP z
end
section
variable{X:Cx}{st:kv}{kH:List kv}{t u:TS}{e:eA}{te:TE}{pos:hB}
noncomputable def Ez:TS:=λD a H=>D.nx a H
noncomputable def Hn(t u:TS):TS:=λD a H=>t {D with nx:=u D} a H
theorem pW:p9 X [] Ez:=λ_ _ a H _ I h=>SU ⟨a,H,I,h⟩
theorem iO(C:PS X st t)(J:p9 X kH u):p9 X (st::kH) (Hn t u):=by
 intro a s g H D I h;refine wpAny_execs_cons<|ft (C a s g H {D with nx:=u D} I h) λf e q=>?_;cases f with
 | next=>
  obtain⟨b,d,z,q⟩:=q;exact J a e b d D z q
 | ret v=>exact q
 | brk=>exact q
 | cont=>exact q
theorem cV(C:PS X st t):p9 X [st] t:=by
 intro a s b H D I h;refine wpAny_execs_cons<|ft (C a s b H D I h) λf d q=>?_;cases f with
 | next=>exact SU q
 | ret v=>exact q
 | brk=>exact q
 | cont=>exact q
noncomputable def EC:TS:=λD a H=>D.ct a H
theorem Vh:PS X (.Continue pos) EC:=λ_ _ a H _ I h=>wpAny_Continue ⟨a,H,I,h⟩
theorem Inv.quiet(I:Inv X pins σ H s):interactive X.env=ed:=by simp[interactive,I.ok.kind]
noncomputable def EA(te:TE):TS:=λD a H=>te a H λ_ b=>D.nx a b
theorem XA(z:PE X e te)(J:wo e d5 pos.line X.env=pure ed:=by rfl):PS X (.Expr e pos) (EA te):=by intro a s b H D I h;exact wpAny_Expr_any (ft (z a s b H _ I h) λv f ⟨x,d,O,Y,U⟩=>⟨b,d,O,U⟩) I.quiet J
noncomputable def Ho(te:TE):TS:=λD a H=>te a H D.rt
theorem cW(z:PE X e te):PS X (.Return (di e) pos) (Ho te):=by intro a s b H D I h;exact wpAny_Return_some<|ft (z a s b H _ I h) λv f ⟨x,d,J,O,U⟩=>⟨x,b,d,J,O,U⟩
noncomputable def Hu(c:TT)(t u:TS):TS:=λD a H=>c a H λb d=>if b=dn then t D a d else u D a d
theorem EW(O:PT X c tc)(C:p9 X a t)(U:p9 X b u):PS X (.If c a b pos) (Hu tc t u):=by
 intro e s f H D I h;refine wpAny_If<|ft (O e s f H _ I h) λd i Y=>?_;obtain⟨g,z,J⟩:=Y;cases d with
 | true=>exact C e i f g D z J
 | false=>exact U e i f g D z J
noncomputable def uB:TS:=λ_ _ _=>False
theorem iT:PS X st uB:=λ_ _ _ _ _ _ h=>h.elim
end
abbrev TG:=V->St->Hp->(St->Hp->Prop)->Prop
abbrev DM:=List V->St->Hp->(St->Hp->Prop)->Prop
noncomputable def PG(X:Cx)(z:eA)(t:TG):Prop:=
 ∀(a:RW) (s:eF) (e:St) (H:Hp) (v:V) (u:eh) (Q:St->Hp->Prop),Inv X a e H s->RelV v u->t v e H Q->
  wpAny (e9 X.prog X.w) X.A (t4 z X.env u) (λ_ f=>∃b d,Inv X a b d f/\Q b d) X.xe s
noncomputable def D8(X:Cx)(z:List eA)(t:DM):Prop:=
 ∀(a:RW) (s:eF) (g:St) (H:Hp) (f:List V) (e:List eh) (Q:St->Hp->Prop),Inv X a g H s->fy f e->t f g H Q->
  wpAny (e9 X.prog X.w) X.A (assignInOrder ((x6 z X.env).map (·.2)) e) (λ_ h=>∃b d,Inv X a b d h/\Q b d) X.xe s
abbrev Hf:=V->V->V->Hp->(Hp->Prop)->Prop
noncomputable def Hg(X:Cx)(t:Hf):Prop:=
 ∀(a:RW) (s:eF) (d:St) (H:Hp) (o i v:V) (z I u:eh) (Q:Hp->Prop),Inv X a d H s->RelV o z->RelV i I->RelV v u->t o i v H Q->
  wpAny (e9 X.prog X.w) X.A (RG z I u) (λ_ e=>∃b,Inv X a d b e/\Q b) X.xe s
section
variable{X:Cx}{pos:hB}
noncomputable def yG(i:Nat):TG:=λv a H Q=>Q (a.set i<|some v) H
theorem dm(z:X.N.Nodup)(hi:X.N[i]? = di x)(hx:Loc X.env.scope x)(J:X.fn x=dn\/X.env.scope.names.lookup x=di .local:=by first | exact .inl rfl | exact .inr rfl | assumption):PG X (.Name x pos) (yG i):=by intro a s d H v u Q I r h;exact Ug<|We I z hi hx r (λb O=>⟨_,H,O,h⟩) J
noncomputable def GI:DM:=λa b H Q=>a=[]/\Q b H
noncomputable def BC(t:TG)(u:DM):DM:=λd e H Q=>∃v r,d=v::r/\t v e H λa b=>u r a b Q
theorem dh:D8 X [] GI:=by intro a s b H f d Q I r h;obtain⟨e,h⟩:=h;subst e;cases r;exact assignInOrder_nil ⟨b,H,I,h⟩
theorem vI(C:PG X e t)(L:D8 X es u)
 (z:(x6 (e::es) X.env).map (·.2)=t4 e X.env::(x6 es X.env).map (·.2):=by rfl):D8 X (e::es) (BC t u):=by
 intro a s i H l j Q I r h;obtain⟨v,k,d,h⟩:=h;subst d;cases r with
 | cons r J=>
  rw[z];refine assignInOrder_cons<|ft (C a s i H _ _ _ I r h) λ_ g O=>?_;obtain⟨U,b,Y,f⟩:=O;exact L a g U b _ _ Q Y J f
noncomputable def GH(K:Iy)(n:Nat)(t:DM):TG:=λv d H Q=>∃a b,v = .ref a/\hG K H a b/\b.length=n/\t b d H Q
theorem AG(J:X.calm=dn)(h:D8 X es t)
 (C:(x6 es X.env).length=n:=by rfl) (O:(x6 es X.env).findIdx? (·.1)=d5:=by rfl):PG X (.Tuple es k pos) (GH X.K n t):=by
 intro d s g H v u Q I r f;obtain⟨a,w,j,U,Y,f⟩:=f;subst j;cases r;obtain⟨x,z,m,y⟩:=I.tuple U;refine assign_Tuple_tuple (I.ok.hd J) m (by simp[C,<- Y,z.length]) O λl p=>?_;have i:Inv X d g H {s with heap:=l}:=I.kept (t':=s.toks) λb o e=>p b o (Lm<|IT e) e;exact h d _ g H w _ Q i (by simpa using z) f
noncomputable def HS(to z:TE)(t:Hf):TG:=λv a H Q=>to a H λo b=>z a b λi d=>t o i v d λI=>Q a I
theorem nK(U:PE X o to)(hi:PE X i ti)(Y:Hg X t)
 (C : ∀v,t4 (.Subscript o i pos) X.env v=(do
   let z <- sh [v] (fh o X.env);let J <- sh [v,z] (fh i X.env)
   DF pos
   sh [v,z,J] (RG z J v)
   release [v,z,J] []):=by intro _;rfl):PG X (.Subscript o i pos) (HS to ti t):=by
 intro a s b H v u Q I r h;rw[C];refine IA<|MH<|ft (U a s b H _ I h) λz A O=>?_;obtain⟨x,d,g,p,l⟩:=O;refine IA<|MH<|ft (hi a A b d _ g l) λJ B O=>?_;obtain⟨y,e,j,w,m⟩:=O;refine IA<|Rb<|IA<|MH<|ft (Y a B b e x y v z J u _ j p w r m) λ_ E O=>?_;obtain⟨f,k,n⟩:=O;exact wpAny_release ⟨b,f,k,n⟩
noncomputable def ao(te:TE)(g:TG):TS:=λD a H=>te a H λx b=>g x a b D.nx
theorem Wx(z:PE X e te)(J:PG X tg g)(O:M3 [tg] e pos.line X.env=pure ed:=by rfl)(L:RM [tg] e X.env=pure d5:=by rfl)
 (C:(x6 [tg] X.env).map (·.2)=[t4 tg X.env]:=by rfl):PS X (.Assign [tg] e pos) (ao te g):=by
 intro a s b H D I h;refine wpAny_Assign_stores (ft (z a s b H _ I h) λv j U=>?_) O L;obtain⟨x,d,Y,i,f⟩:=U;rw[C];exact ft (J a j b d x v _ Y i f) λ_ k q=>q
theorem AB(z:X.N.Nodup)(hi:X.N[i]? = di x)(hx:Loc X.env.scope x)(J:PE X e te)(O:wo e (di (.Name x pos')) pos.line X.env=pure ed:=by rfl)(U:X.fn x=dn\/X.env.scope.names.lookup x=di .local:=by first | exact .inl rfl | exact .inr rfl | assumption) :
 PS X (.Assign [.Name x pos'] e pos) (ao te<|yG i):=by
 intro a s k H D I h;refine wpAny_Assign_Name (ft (J a s k H _ I h) λv l Y=>?_) O;obtain⟨y,b,d,j,g⟩:=Y;exact We d z hi hx j (λm f=>⟨_,b,f,g⟩) U
end
structure It where
 go:Nat->Hp->Prop
 A4:Nat->Hp->V->Hp->Prop
 stop:Nat->Hp->Prop
noncomputable def wZ(X:Cx)(C:RW)(H:Hp)(b:eg):Prop:=
 H b=d5/\b≠X.env.locals/\b∉X.fs/\(b∈X.ex\/X.m8.heap.objs.size<=b)/\(∀x c,X.env.cells.lookup x=di c->c≠b)/\∀p∈X.pn++C,p.1≠b
theorem Inv.Dd(I:Inv X pins σ H s)(J:s.heap.objs.size<=b)(C:H' b=d5):wZ X pins H' b:=by
 refine⟨C,ML<|Lc I.lt J,I.TV J,.inr<|LN I.sz J,λx c e z=>?_,λp O z=>?_⟩
 ·obtain⟨v,q⟩:=I.cell x c e
  exact absurd (Lc q.lt<|by rw[z];exact J)<|LF _
 ·exact absurd (Lc (IT (I.pin p O).1)<|by rw[z];exact J)<|LF _
structure Turn(P:i3)(w:h8)(K:Iy)(tg:eA)(J:It)(fp:List eg)(it:eg)(tn:Nat->f7->Prop):Prop where
 mem:it∈fp
 obj : ∀i h,tn i h->∀b∈fp,∃o,h.get? b=di o/\∀v,o.data ≠ .cell v
 keep : ∀i h h',tn i h->(∀b∈fp,∀o,h.get? b=di o->h'.get? b=di o)->tn i h'
 item : ∀(X:Cx),X.prog=P->X.w=w->X.K=K->X.calm=dn->∀(i:Nat) (pins:RW) (s:eF) (σ:St) (H:Hp) (E:RQ),Inv X pins σ H s->(∀b∈fp,wZ X pins H b)->tn i s.heap->J.go i H->
  wpAny (e9 P w) X.A (DY<|.ref it) (λr s1=>∃u,r=di u/\
   wpAny (e9 P w) X.A (L0 tg (.ref it) u) (λ_ s2=>∃x H',Inv X pins σ H' s2/\RelV x u/\J.A4 i H x H'/\tn (i+1) s2.heap/\∀b∈fp,H' b=d5) E s1) E s
 done : ∀(X:Cx),X.prog=P->X.w=w->X.K=K->X.calm=dn->∀(i:Nat) (pins:RW) (s:eF) (σ:St) (H:Hp) (E:RQ),Inv X pins σ H s->(∀b∈fp,wZ X pins H b)->tn i s.heap->J.stop i H->
  wpAny (e9 P w) X.A (DY<|.ref it) (λr s1=>r=d5/\Inv X pins σ H s1) E s
 self : ∀(A:mm) (i:Nat) (s:eF) (Q:RQ) (E:RQ),tn i s.heap->Q (.ref it) s->wpAny (e9 P w) A (L8<|.ref it) Q E s
abbrev TI:=St->Hp->(It->Hp->Prop)->Prop
noncomputable def R6(X:Cx)(C:RW)(O:St)(L:eA)(R:It->Hp->Prop)(z:eh)(I:eF):Prop:=
 ∃(e:eg) (d:List eg) (f:Nat->f7->Prop) (J:It) (a:Hp),z = .ref e/\Inv X C O a I/\Turn X.prog X.w X.K L J d e f/\f 0 I.heap/\(∀b∈d,wZ X C a b)/\R J a
noncomputable def PI(X:Cx)(I C:eA)(J:TI):Prop:=
 ∀(a:RW) (s:eF) (b:St) (H:Hp) (R:It->Hp->Prop),Inv X a b H s->J b H R->
  wpAny (e9 X.prog X.w) X.A (fh C X.env) (λv d=>wpAny (e9 X.prog X.w) X.A (L8 v) (R6 X a b I R) X.xe d) X.xe s
theorem sr(I:s.heap.get? it=di o)(J:o.cls = .type n)(C:o.data = .fields vs)
 (L:["enumerate","zip","dict_itemiterator","dict_reverseitemiterator","odict_iterator","itertools.zip_longest","itertools.pairwise"].contains n=ed) (z:Q () s):wpAny M A (L0 tg (.ref it) u) Q E s:=by
 unfold L0;cases tg<;>first
  | exact IK z
  | (cases u<;>first
      | exact IK z
      | (refine IA (wpAny_load I ?_)
         rw[J,C];show wpAny M A (if (["enumerate","zip","dict_itemiterator","dict_reverseitemiterator","odict_iterator","itertools.zip_longest","itertools.pairwise"].contains n && vs[0]? == di (Di _))=dn then _ else _) Q E s;rw[EQ (by intro h;rw[L,Bool.false_and]at h;cases h)];exact IK z))
noncomputable def R3(K:Iy)(a:eg):It:=
 ⟨λi H=>∃b x,gm K H a b/\b[i]? = di x,λi H x d=>d=H/\∀b,gm K H a b->b[i]? = di x,λi H=>∃b,gm K H a b/\b.length<=i⟩
noncomputable def R4(K:Iy)(a:eg):It:=
 ⟨λi H=>∃b x,hG K H a b/\b[i]? = di x,λi H x d=>d=H/\∀b,hG K H a b->b[i]? = di x,λi H=>∃b,hG K H a b/\b.length<=i⟩
noncomputable def C6(lo:Int)(n:Nat):It:=⟨λi _=>i<n,λi H x a=>a=H/\x = .int (lo+i),λi _=>n<=i⟩
theorem bP{P:i3}{w:h8}{K:Iy}{tg:eA}(a it:eg):Turn P w K tg (R3 K a) [it] it (λi h=>h.IsListIter it a i) where
 mem:=by simp
 obj:=λi h st b J=>by
  have e:b=it:=by simpa using J
  subst e;obtain⟨o,e,c,d⟩:=st;exact⟨o,e,λv z=>by rw[d]at z;cases z⟩
 keep:=λi h h' st k=>st.at λo e=>k it ⋯ o e
 item:=by intro X Y hw hK hc i pins s σ H E I O st hg;subst Y hw hK;obtain⟨xs,x,U,hx⟩:=hg;obtain⟨ac,rv,p,hz⟩:=I.list U;obtain⟨u,hu,ru⟩:=rv.get hx;obtain⟨f0,f1,f2,f3,f4,f5⟩:=O it ⋯;refine wpAny_pyNext_list_item st p.isList (x:=u) (by simpa using hu) λh' a9 sb=>?_;have I1:Inv X pins σ H {s with heap:=h'}:=I.turned (t':=s.toks) (λb o J e=>(sb.2 b J).trans e) f0 f1 f3 f4 f5;obtain⟨o,e,c,d⟩:=id a9;exact⟨u,rfl,sr (s:={s with heap:=h'}) e c d ⋯ ⟨x,H,I1,ru,⟨rfl,λys hy=>by rw[I.Ru hy U];exact hx⟩,a9,λb J=>(O b J).1⟩⟩
 done:=by intro X Y hw hK hc i pins s σ H E I O st hg;subst Y hw hK;obtain⟨xs,U,hx⟩:=hg;obtain⟨ac,rv,p,hz⟩:=I.list U;obtain⟨f0,f1,f2,f3,f4,f5⟩:=O it ⋯;have hl:=rv.length;exact wpAny_pyNext_list_end (I.ok.hd hc) st p.isList (by simp;omega) λh' eb=>⟨rfl,I.turned (t':=s.toks) (λb o J e=>eb b o J e) f0 f1 f3 f4 f5⟩
 self:=λ_ _ _ _ _ st h=>wpAny_pyIter_listiter st h
theorem af{P:i3}{w:h8}{K:Iy}{tg:eA}(a it:eg):Turn P w K tg (R4 K a) [it] it (λi h=>h.IsTupleIter it a i) where
 mem:=by simp
 obj:=λi h st b J=>by
  have e:b=it:=by simpa using J
  subst e;obtain⟨o,e,c,d⟩:=st;exact⟨o,e,λv z=>by rw[d]at z;cases z⟩
 keep:=λi h h' st k=>st.at λo e=>k it ⋯ o e
 item:=by intro X Y hw hK hc i pins s σ H E I O st hg;subst Y hw hK;obtain⟨xs,x,U,hx⟩:=hg;obtain⟨a2,rv,p,hz⟩:=I.tuple U;obtain⟨u,hu,ru⟩:=rv.get hx;obtain⟨f0,f1,f2,f3,f4,f5⟩:=O it ⋯;refine wpAny_pyNext_tuple_item st (show s.heap.IsTuple a a2.toArray from p) (x:=u) (by simpa using hu) λh' ac sb=>?_;have I1:Inv X pins σ H {s with heap:=h'}:=I.turned (t':=s.toks) (λb o J e=>(sb.2 b J).trans e) f0 f1 f3 f4 f5;obtain⟨o,e,c,d⟩:=id ac;exact⟨u,rfl,sr (s:={s with heap:=h'}) e c d ⋯ ⟨x,H,I1,ru,⟨rfl,λys hy=>by rw[I.SK hy U];exact hx⟩,ac,λb J=>(O b J).1⟩⟩
 done:=by intro X Y hw hK hc i pins s σ H E I O st hg;subst Y hw hK;obtain⟨xs,U,hx⟩:=hg;obtain⟨a2,rv,p,hz⟩:=I.tuple U;obtain⟨f0,f1,f2,f3,f4,f5⟩:=O it ⋯;have hl:=rv.length;exact wpAny_pyNext_tuple_end (I.ok.hd hc) st (show s.heap.IsTuple a a2.toArray from p) (by simp;omega) λh' eb=>⟨rfl,I.turned (t':=s.toks) (λb o J e=>eb b o J e) f0 f1 f3 f4 f5⟩
 self:=λ_ _ _ _ _ st h=>wpAny_pyIter_tupleiter st h
theorem ag{P:i3}{w:h8}{K:Iy}{tg:eA}(it:eg)(lo:Int)(n:Nat):Turn P w K tg (C6 lo n) [it] it (λi h=>IsRangeIter h it (lo+(i:Nat)*1) ((n:Int) - (i:Nat)) 1) where
 mem:=by simp
 obj:=λi h st b J=>by
  have e:b=it:=by simpa using J
  subst e;exact⟨_,st,λv z=>by have z':Data.fields _=Data.cell v:=z;cases z'⟩
 keep:=λi h h' st k=>k it ⋯ _ st
 item:=by intro X U hw Y hc i pins s σ H E I O st hg;subst U hw Y;obtain⟨f0,f1,f2,f3,f4,f5⟩:=O it ⋯;have W:=Walks.range (prog:=X.prog) (w:=X.w) (I.ok.hd hc) it lo 1 n;refine W.item i s _ _ hg st λv h' tk hv a8 kk=>?_;obtain⟨t,rfl⟩:=hv;have I1:Inv X pins σ H {s with heap:=h',toks:=tk}:=I.turned (λb o J e=>kk b o (by simpa using J) e) f0 f1 f3 f4 f5;refine⟨_,rfl,sr (s:={s with heap:=h',toks:=tk}) (n:="range_iterator") a8 rfl rfl ⋯ ⟨.int (lo+i),H,I1,⟨t,?_⟩,⟨rfl,rfl⟩,a8,λb J=>(O b J).1⟩⟩;rw[Ot]
 done:=by intro X U hw Y hc i pins s σ H E I O st hg;subst U hw Y;obtain⟨f0,f1,f2,f3,f4,f5⟩:=O it ⋯;exact wpAny_pyNext_range_end (I.ok.hd hc) st (by have:n<=i:=hg;omega) λh' eb=>⟨rfl,I.turned (t':=s.toks) (λb o J e=>eb b o J e) f0 f1 f3 f4 f5⟩
 self:=λ_ _ _ _ _ st h=>wpAny_pyIter_rangeiter st h
section
variable{X:Cx}{tg:eA}
theorem Wp{C:RW}{L:St}{H:Hp}{s:eF}{R:It->Hp->Prop}{E:RQ}{lo hi:Int}{t u v:Tok}{z:Nat}(I:Inv X C L H s)(S : -(2 ^ 62)<=lo)(Z:lo<2 ^ 62)(O : -(2 ^ 62)<=hi)(U:hi<2 ^ 62)
 (q:R (C6 lo (hi - lo).toNat) H):wpAny (e9 X.prog X.w) X.A (L8 (.ref s.heap.objs.size)) (R6 X C L tg R) E {s with heap:=s.heap.push {cls:= .type "range",data:= .fields #[.int lo t,.int hi u,.int 1 v]},toks:=z}:=by
 refine wpAny_pyIter_range (IsRange.new ..) (small_one S Z O U) ?_;have J:Inv X C L H {s with heap:=s.heap.push {cls:= .type "range",data:= .fields #[.int lo t,.int hi u,.int 1 v]},toks:=z}:=I.kept λb o e=>IB _ e;refine⟨(s.heap.push {cls:= .type "range",data:= .fields #[.int lo t,.int hi u,.int 1 v]}).objs.size,[(s.heap.push {cls:= .type "range",data:= .fields #[.int lo t,.int hi u,.int 1 v]}).objs.size],_,_,H,rfl,
  J.kept (t':=z) λb o e=>IB _ e,ag _ lo (hi - lo).toNat,?_,λb Y=>?_,q⟩
 ·have a:lo+((0:Nat):Int)*1=lo:=by simp
  have d:(((hi - lo).toNat:Nat):Int) - ((0:Nat):Int)=Builtin.Range.rangeSize lo hi 1:=by rw[rangeSize_one];split<;>omega
  show IsRangeIter _ _ (lo+((0:Nat):Int)*1) ((((hi - lo).toNat:Nat):Int) - ((0:Nat):Int)) 1;rw[a,d];exact IV _ rfl
 ·have e:b=(s.heap.push {cls:= .type "range",data:= .fields #[.int lo t,.int hi u,.int 1 v]}).objs.size:=by simpa using Y
  subst e;exact J.Dd (IH _)<|J.f9.fresh<|IH _
noncomputable def Fk(C:TA):TI:=λd H R=>C d H λb a=>∃j:Int,b=[.int j]/\ -(2 ^ 62)<=j/\j<2 ^ 62/\R (C6 0 j.toNat) a
noncomputable def Fj(C:TA):TI:=λd H R=>C d H λb a=>∃i j:Int,b=[.int i,.int j]/\(-(2 ^ 62)<=i/\i<2 ^ 62/\ -(2 ^ 62)<=j/\j<2 ^ 62)/\R (C6 i (j - i).toNat) a
theorem dg{a:eA}{C:TA}{p pos:hB}(J:Gl X "range")(S:X.mg "range" = d5)(L:PA X [a] C)(O:gv [a] X.env=[(ed,fh a X.env)]:=by rfl):PI X tg (.Call (.Name "range" p) [a] [] pos) (Fk C):=by
 intro b s i H R I h;refine D2<|yF I J S boot_range<|LY (ft (L pos b s i H _ I h) λm l U=>?_) O rfl;obtain⟨n,k,Y,f,z⟩:=U;obtain⟨j,e,z,d,q⟩:=z;subst e;cases f with
 | cons r g=>
  cases g;obtain⟨t,rfl⟩:=r;exact call_range_1 (Wp Y ⋯ ⋯ z d<|by simpa using q)
theorem df(U:Gl X "range")(L:X.mg "range" = d5)(C:PA X [a,b] ta)(Y:gv [a,b] X.env=[(ed,fh a X.env),(ed,fh b X.env)]:=by rfl)(O:gv [b] X.env=[(ed,fh b X.env)]:=by rfl) :
 PI X tg (.Call (.Name "range" p) [a,b] [] pos) (Fj ta):=by
 intro d s u H R I h;refine D2 (yF I U L boot_range<|LY (ft (C pos d s u H _ I h) λA x g=>?_) (by rw[Y,O])<|by rw[O];rfl);obtain⟨B,w,f,o,z⟩:=g;obtain⟨i,j,e,⟨z,k,l,m⟩,q⟩:=z;subst e;cases o with
 | cons r J=>
  cases J with
  | cons n J=>
   cases J;obtain⟨t,rfl⟩:=r;obtain⟨y,rfl⟩:=n;exact call_range_2<|Wp f z k l m q
noncomputable def Hv(I:TI)(g:TG)(C:TS):TS:=λD a H=>I a H λJ f=>∃W:Nat->Nat->St->Hp->Prop,(∃m,W 0 m a f)/\∀i m a H,W i m a H->
 (J.stop i H/\D.nx a H)\/(J.go i H/\∃N:St->Hp->Prop,(∀d b,N d b->∃e,e<m/\W (i+1) e d b)/\∀x b,J.A4 i H x b->g x a b λz h=>C {D with nx:=N,ct:=N,bk:=D.nx} z h)
noncomputable def K3(fp:List eg)(h:f7):List (eg×nr):=fp.filterMap λb=>(h.get? b).map λo=>(b,o)
theorem yV(z:b∈fp)(e:h.get? b=di o):(b,o)∈K3 fp h:=List.mem_filterMap.mpr ⟨b,z,by rw[e];rfl⟩
theorem dN(z:p∈K3 fp h):p.1∈fp/\h.get? p.1=di p.2:=by
 obtain⟨b,I,e⟩:=List.mem_filterMap.mp z;cases q:h.get? b with
 | none=>rw[q]at e;cases e
 | some o=>
  rw[q]at e;have J:(b,o)=p:=Lq e;subst J;exact⟨I,q⟩
theorem Inv.pinned(I:Inv X pins σ H s)(U : ∀b∈fp,wZ X pins H b)(Y : ∀b∈fp,∃o,s.heap.get? b=di o/\∀v,o.data ≠ .cell v):Inv X (pins++K3 fp s.heap) σ H s:=
 I.L7 λp f=>(ME.mp f).elim (λz=>I.pin p<|IW _ z) λz=>by obtain⟨J,e⟩:=dN z;obtain⟨a,f1,f2,_⟩:=U p.1 J;obtain⟨o,O,d⟩:=Y p.1 J;rw[e]at O;cases O;exact⟨e,a,f1,f2,d⟩
theorem Inv.G3(I:Inv X (pins++pl) σ H s):Inv X pins σ H s:=I.L7 λp z=>I.pin p<|IW _<|Pe _ z
theorem nJ(C:O0 (e9 X.prog X.w) X.A X.env X.xe)(hc:X.calm=dn)(hi:PI X tg iter wi)(hg:PG X tg g)(z:p9 X body tb)
 (hs : ∀x,o5 iter X.env x=pure x:=by intro _;rfl):PS X (.For tg iter body [] pos) (Hv wi g tb):=by
 intro a s σ H D I h;refine wpAny_For (ft (hi a s σ H _ I h) λv s1 h1=>ft h1 λc7 s2 h2=>?_) hs;obtain⟨it,y,tn,J,H2,e,I2,T,b7,f2,W,⟨m0,w0⟩,bb⟩:=h2;subst e;have K : ∀{l:Hp},(∀b∈y,l b=d5)->∀b∈y,wZ X a l b:=λhn b z=>⟨hn b z,(f2 b z).2⟩;refine codeAny_forLoop_any (λn s'=>∃i j l,Inv X a j l s'/\tn i s'.heap/\(∀b∈y,l b=d5)/\W i n j l) ?_ m0 ⟨0,σ,H2,I2,b7,λb z=>(f2 b z).1,w0⟩;rintro n s3 ⟨i,k,G,S,E,Z,w3⟩;rcases bb i n k G w3 with⟨F,qn⟩ | ⟨go,N,hN,step⟩
 ·refine OF C (ft (T.done X rfl rfl rfl hc i a s3 k G X.xe S (K Z) E F) λr s4 t=>?_)
  obtain⟨M,I4⟩:=t;subst M;exact SU ⟨k,G,I4,qn⟩
 ·refine OF C (ft (T.item X rfl rfl rfl hc i a s3 k G X.xe S (K Z) E go) λr s4 t=>?_)
  obtain⟨u,M,h4⟩:=t;subst M;refine OF C<|ft h4 λ_ s5 t=>?_;obtain⟨x,R,I5,r5,y5,L,bv⟩:=t;have bx:=I5.pinned (K bv)<|T.obj _ _ L;refine OF C<|ft (hg _ s5 k R x u _ bx r5<|step x R y5) λ_ s6 t=>?_;obtain⟨Q,H6,I6,q6⟩:=t;refine OF C<|ft (z _ s6 Q H6 _ I6 q6) λf P p=>?_;have again : ∀{O:St} {U:Hp},Inv X (a++K3 y s5.heap) O U P->N O U->∃m,m<n/\∃i j l,Inv X a j l P/\tn i P.heap/\(∀b∈y,l b=d5)/\W i m j l:=λ{O U} Y B=>by obtain⟨m',hm,w7⟩:=hN O U B;refine⟨m',hm,i+1,O,U,Y.G3,T.keep _ _ _ L λb z o e=>(Y.pin (b,o)<|IW _<|IW _<|yV z e).1,λb z=>?_,w7⟩;obtain⟨o,e,d⟩:=T.obj _ _ L b z;exact(Y.pin (b,o)<|IW _<|IW _<|yV z e).2.1
  cases f with
  | next=>obtain⟨O,U,Y,B⟩:=p;exact again Y B
  | cont=>obtain⟨O,U,Y,B⟩:=p;exact again Y B
  | brk=>obtain⟨O,U,Y,p⟩:=p;exact⟨O,U,Y.G3,p⟩
  | ret v=>obtain⟨x7,O,U,Y,r7,p⟩:=p;exact⟨x7,O,U,Y.G3,r7,p⟩
end
theorem YA{lo:Int}{n:Nat}{g:TG}{Z:TS}{D:Ends}{C:St}{H:Hp}(z:Nat->St->Hp->Prop)(O:z 0 C H)
 (U : ∀i C H,i<n->z i C H->g (.int<|lo+i) C H λI S=>Z {D with nx:=z<|i+1,ct:=z<|i+1,bk:=D.nx} I S) (hd : ∀C H,z n C H->D.nx C H) :
 ∃W:Nat->Nat->St->Hp->Prop,(∃m,W 0 m C H)/\∀i m C H,W i m C H->
  ((C6 lo n).stop i H/\D.nx C H)\/((C6 lo n).go i H/\∃N:St->Hp->Prop,(∀L H',N L H'->∃Y,Y<m/\W (i+1) Y L H')/\∀x H',(C6 lo n).A4 i H x H'->g x C H' λI S=>Z {D with nx:=N,ct:=N,bk:=D.nx} I S):=by
 refine⟨λi m C H=>m=n - i/\i<=n/\z i C H,⟨n,by simp,LL _,O⟩,?_⟩;rintro i m C H ⟨rfl,b,p⟩;by_cases J:i<n
 ·refine .inr ⟨J,z<|i+1,λL H' a=>⟨n - (i+1),by omega,rfl,J,a⟩,λx H' y=>?_⟩
  obtain⟨e,y⟩:=y;subst e y;exact U i C _ J p
 ·have e:i=n:=by omega
  subst e;exact .inl ⟨IH _,hd C H p⟩
abbrev R2:=V->V->Hp->VK->Prop
noncomputable def ix(X:Cx)(f:eh->eh->Sem eh)(r:R2):Prop:=
 ∀(a:RW) (s:eF) (b:St) (H:Hp) (x y:V) (v u:eh) (Q:VK),Inv X a b H s->RelV x v->RelV y u->r x y H Q->
  wpAny (e9 X.prog X.w) X.A (f v u) (EP X a b Q) X.xe s
noncomputable def O5(X:Cx)(f:eh->Sem eh)(r:V->Hp->VK->Prop):Prop:=
 ∀(a:RW) (s:eF) (b:St) (H:Hp) (x:V) (v:eh) (Q:VK),Inv X a b H s->RelV x v->r x H Q->
  wpAny (e9 X.prog X.w) X.A (f v) (EP X a b Q) X.xe s
noncomputable def Zj(X:Cx)(f:eh)(r:List V->Hp->VK->Prop):Prop:=
 ∀(a:RW) (s:eF) (e:St) (H:Hp) (d:List V) (b:List eh) (Q:VK),Inv X a e H s->fy d b->r d H Q->
  wpAny (e9 X.prog X.w) X.A (call f b) (EP X a e Q) X.xe s
noncomputable def Ib(X:Cx)(r:V->Hp->(Bool->Hp->Prop)->Prop):Prop:=
 ∀(a:RW) (s:eF) (b:St) (H:Hp) (x:V) (v:eh) (Q:Bool->Hp->Prop),Inv X a b H s->RelV x v->r x H Q->
  wpAny (e9 X.prog X.w) X.A (Gx v) (TP X a b Q) X.xe s
noncomputable def F8(r:R2)(C I:TE):TE:=λa H Q=>C a H λx b=>I a b λy d=>r x y d Q
noncomputable def Uc(r:V->Hp->VK->Prop)(C:TE):TE:=λb H Q=>C b H λx a=>r x a Q
noncomputable def rI(C:Int->Int->Prop)(g:Int->Int->V):R2:=λx y H Q=>∃i j,x = .int i/\y = .int j/\C i j/\Q (g i j) H
noncomputable def sx(g:Int->Int->V):R2:=λx y H Q=>∃i j,x = .int i/\y = .int j/\Q (g i j) H
noncomputable def rU(g:Int->V):V->Hp->VK->Prop:=λx H Q=>∃i,x = .int i/\Q (g i) H
section
variable{X:Cx}{a b c:eA}{ta tb tc:TE}{pos:hB}
theorem FF(ha:PE X a ta)(J:PE X b tb){C:RW}{s:eF}{S:St}{H:Hp}{R:V->V->Hp->Prop}(I:Inv X C S H s)
 (h:ta S H λx H1=>tb S H1 λy L=>R x y L) {Q:RQ} {f:eh->eh->Sem eh}
 (O : ∀v u Z x y L,Inv X C S L Z->RelV x v->RelV y u->R x y L->wpAny (e9 X.prog X.w) X.A (f v u) Q X.xe Z) :
 wpAny (e9 X.prog X.w) X.A (fh a X.env) (λv U=>wpAny (e9 X.prog X.w) X.A (fh b X.env) (λu Y=>wpAny (e9 X.prog X.w) X.A (f v u) Q X.xe Y) X.xe U) X.xe s:=by
 refine ft (ha C s S H _ I h) λv l z=>?_;obtain⟨x,H1,d,j,g⟩:=z;refine ft (J C l S H1 _ d g) λu Z z=>?_;obtain⟨y,L,e,k,i⟩:=z;exact O v u Z x y L e j k i
theorem rD{z:Operator}{r:R2}(J:ix X (t5 z) r)(C:PE X a ta)(O:PE X b tb):PE X (.BinOp a z b pos) (F8 r ta tb):=by intro d s i H Q I h;exact wpAny_BinOp<|FF C O I h λv u g x y e U Y f q=>J d g i e x y v u Q U Y f q
theorem EY(z:O5 X (unaryOp op) r)(C:PE X a ta):PE X (.UnaryOp op a pos) (Uc r ta):=by intro b s d H Q I h;exact UnaryOp_<|ft (C b s d H _ I h) λv f ⟨x,e,J,O,U⟩=>z b f d e x v Q J O U
theorem L6{f:eh->eh->Sem eh}{C:Int->Int->Prop}{g:Int->Int->Int}
 (rule : ∀(i j:Int) (t u:Tok) (s:eF) (Q:RQ) (E:RQ),C i j->Q (.int (g i j) s.toks) {s with toks:=s.toks+1}->wpAny (e9 X.prog X.w) X.A (f (.int i t)<|.int j u) Q E s) :
 ix X f (rI C λi j=> .int (g i j)):=by
 intro a s d H x y v u Q I z J h;obtain⟨i,j,rfl,rfl,O,q⟩:=h;obtain⟨t,rfl⟩:=z;obtain⟨b,rfl⟩:=J;exact rule i j t b s _ _ O ⟨.int<|g i j,H,I.tok _,⟨_,rfl⟩,q⟩
theorem GB{f:eh->eh->Sem eh}{g:Int->Int->Int}
 (rule : ∀(i j:Int) (t u:Tok) (s:eF) (Q:RQ) (E:RQ),Q (.int (g i j) s.toks) {s with toks:=s.toks+1}->wpAny (e9 X.prog X.w) X.A (f (.int i t)<|.int j u) Q E s) :
 ix X f (sx λi j=> .int (g i j)):=by
 intro a s d H x y v u Q I z J h;obtain⟨i,j,rfl,rfl,q⟩:=h;obtain⟨t,rfl⟩:=z;obtain⟨b,rfl⟩:=J;exact rule i j t b s _ _ ⟨.int<|g i j,H,I.tok _,⟨_,rfl⟩,q⟩
theorem Fb{f:eh->eh->Sem eh}{g:Int->Int->Bool}
 (rule : ∀(i j:Int) (t u:Tok) (s:eF) (Q:RQ) (E:RQ),Q (.bool<|g i j) s->wpAny (e9 X.prog X.w) X.A (f (.int i t)<|.int j u) Q E s) :
 ix X f (sx λi j=> .bl (g i j)):=by
 intro a s d H x y v u Q I z J h;obtain⟨i,j,rfl,rfl,q⟩:=h;obtain⟨t,rfl⟩:=z;obtain⟨b,rfl⟩:=J;exact rule i j t b s _ _ ⟨.bl<|g i j,H,I,rfl,q⟩
noncomputable def Hj(i j:Int):Prop:=0<j/\j<1073741824
noncomputable def Hi(i j:Int):Prop:=0<=j/\j<=1000000/\i.natAbs<2 ^ 64
noncomputable def DI(i j:Int):Prop:=(-(2 ^ 64)<i/\i<2 ^ 64)\/(-(2 ^ 64)<j/\j<2 ^ 64)
theorem DI.ok(h:DI i j):IntMulOk i j:=by
 rcases h with⟨a,b⟩ | ⟨a,b⟩
 ·exact .of_left<|intBits_le_64 a b
 ·exact .of_right<|intBits_le_64 a b
theorem TX:ix X (t5 .Add) (sx λi j=> .int (i+j)):=GB λ_ _ _ _ _ _ _ q=>add_int q
theorem AW:ix X (t5 .Sub) (sx λi j=> .int (i - j)):=GB λ_ _ _ _ _ _ _ q=>sub_int q
theorem TY:ix X (t5 .Mult) (rI DI λi j=> .int (i*j)):=L6 λ_ _ _ _ _ _ _ z q=>mul_int q z.ok
theorem rK:ix X (t5 .FloorDiv) (rI Hj λi j=> .int (i/j)):=L6 λi j _ _ _ _ _ z q=>by have a:(0:Int)<j:=z.1;have b:j<1073741824:=z.2;exact floordiv_int ⋯ (by rw[Int.fdiv_eq_ediv_of_nonneg i ⋯];exact q)<|.inl<|PyProof.noPylong_small ⋯
theorem AZ:ix X (t5 .Mod) (rI (λ_ j=>0<j) λi j=> .int (i%j)):=L6 λi j _ _ _ _ _ z q=>by have a:(0:Int)<j:=z;exact mod_int' ⋯ (by rw[Int.fmod_eq_emod_of_nonneg i ⋯];exact q)
theorem AY:ix X (t5 .Pow) (rI Hi λi j=> .int (i ^ j.toNat)):=L6 λ_ _ _ _ _ _ _ z q=>pow_int_small z.1 z.2.1 z.2.2 q
theorem Ue{f:eh->Sem eh}{g:Int->Int}
 (rule : ∀(i:Int) (t:Tok) (s:eF) (Q:RQ) (E:RQ),Q (.int (g i) s.toks) {s with toks:=s.toks+1}->wpAny (e9 X.prog X.w) X.A (f<|.int i t) Q E s) :
 O5 X f (rU λi=> .int (g i)):=by
 intro a s b H x v Q I z h;obtain⟨i,rfl,q⟩:=h;obtain⟨t,rfl⟩:=z;exact rule i t s _ _ ⟨.int<|g i,H,I.tok _,⟨_,rfl⟩,q⟩
theorem um:O5 X (unaryOp .USub) (rU λi=> .int (-i)):=Ue λ_ _ _ _ _ q=>neg_int q
end
section
variable{X:Cx}{a b c:eA}{ta tb tc:TE}{pos:hB}
theorem BF(I:Inv X pins σ H s)(q:Q (.bl k) H)(e:k=k'):EP X pins σ Q (.bool k') s:=by subst e;exact⟨.bl k,H,I,rfl,q⟩
theorem lE:ix X (l7 .Lt) (sx λi j=> .bl (decide<|i<j)):=Fb λ_ _ _ _ _ _ _ q=>lt_int q
theorem K8:ix X (l7 .LtE) (sx λi j=> .bl (decide<|i<=j)):=Fb λ_ _ _ _ _ _ _ q=>le_int q
theorem Bb:ix X (l7 .Gt) (sx λi j=> .bl (decide<|j<i)):=Fb λ_ _ _ _ _ _ _ q=>gt_int q
theorem Ba:ix X (l7 .Is) (λx y H Q=>y = .el/\Q (.bl<|decide<|x = .el) H):=by
 intro a s b H x y v u Q I z J h;obtain⟨rfl,q⟩:=h;cases J;refine is_none_gen<|BF I q ?_;cases x<;>first
  | (cases z;rfl)
  | (obtain⟨t,rfl⟩:=z;rfl)
theorem ix.or(h:ix X f r)(h':ix X f r'):ix X f (λx y H Q=>r x y H Q\/r' x y H Q):=by
 intro a s b H x y v u Q I z J q;rcases q with q | q
 ·exact h a s b H x y v u Q I z J q
 ·exact h' a s b H x y v u Q I z J q
theorem y9(b:eA)(h:op ≠ .In:=by decide)(C:op ≠ .NotIn:=by decide):u9 op b=ed:=by
 have a:(op==CmpOp.In)=ed:=by cases op<;>first | rfl | exact absurd rfl h
 have z:(op==CmpOp.NotIn)=ed:=by cases op<;>first | rfl | exact absurd rfl C
 cases b<;>simp[u9,a,z]
theorem du{z:D3}{r:R2}(J:ix X (l7 z) r)(C:PE X a ta)(O:PE X b tb)(L:u9 z b=ed):PE X (.Compare a [z] [b] pos) (F8 r ta tb):=by intro d s i H Q I h;exact wpAny_Compare1 (FF C O I h λv u g x y e U Y f q=>J d g i e x y v u Q U Y f q) L
noncomputable def uA(t:TE):TT:=λb H Q=>t b H λx a=>∃k,x = .bl k/\Q k a
theorem cU(J:ix X (l7 op) r)(C:PE X a ta)(O:PE X b tb)(L:u9 op b=ed):PT X (.Compare a [op] [b] pos) (uA<|F8 r ta tb):=by
 intro d s f H Q I h;refine Ui (ft (C d s f H _ I h) λv A ⟨x,g,U,Y,n⟩=>ft (O d A f g _ U n) λu B ⟨y,i,l,t,o⟩=>
  ft (J d B f i x y v u _ l Y t o) λc E ⟨z,j,m,w,k,e,p⟩=>?_) L
 subst e;cases w;exact Mb ⟨j,m,p⟩
noncomputable def nv(r C:R2)(ta tb tc:TE):TE:=λa H Q=>ta a H λx b=>tb a b λy d=>r x y d λz I=>∃k,z = .bl k/\
 (if k=dn then tc a I λe J=>C y e J Q else Q (.bl ed) I)
theorem lr(Y:ix X (l7 op) r)(C:ix X (l7 F5) r')(L:PE X a ta)(S:PE X b tb)(Z:PE X c tc)
 (hm:E7 [op,F5] [b,c]=ed:=by with_unfolding_all rfl):PE X (.Compare a [op,F5] [b,c] pos) (nv r r' ta tb tc):=by
 intro f s g H Q I h;refine Compare_chain (ft (L f s g H _ I h) λv G ⟨x,j,n,B,t⟩=>chain_link (ft (S f G g j _ n t) λu K ⟨y,l,o,i,w⟩=>
  ft (Y f K g l x y v u _ o B i w) λd M ⟨z,J,O,E,k,e,U⟩=>?_)) hm
 subst e;cases E;refine Mb ?_;cases k with
 | false=>exact ite_ff ⟨.bl ed,J,O,rfl,U⟩
 | true=>exact ite_tt<|chain_last<|ft (Z f M g J _ O U) λP N ⟨R,m,p,F,A⟩=>C f N g m y R u P Q p i F A
theorem iM{J O:D3}{r C:R2}(ho:ix X (l7 J) r)(L:ix X (l7 O) C)(S:PE X a ta)(Z:PE X b tb)(hc:PE X c tc)
 (hm:E7 [J,O] [b,c]=ed:=by with_unfolding_all rfl):PT X (.Compare a [J,O] [b,c] pos) (uA<|nv r C ta tb tc):=by
 intro f s g H Q I h;refine isTrue_chain (ft (S f s g H _ I h) λv s1 ⟨x,l,p,P,G⟩=>test_link (ft (Z f s1 g l _ p G) λu s2 ⟨y,m,t,j,K⟩=>
  ft (ho f s2 g m x y v u _ t P j K) λd s3 ⟨z,U,Y,R,k,e,i⟩=>?_)) hm
 subst e;cases R;refine Mb ?_;cases k with
 | false=>
  obtain⟨k',B,F⟩:=i;cases B;exact ite_ff ⟨U,Y,F⟩
 | true=>
  refine ite_tt<|test_last<|ft (hc f s3 g U _ Y i) λw' s4 ⟨z',n,w,T,M⟩=>ft (L f s4 g n y z' u w' _ w j T M) λd' s5 ⟨z2,o,A,W,k2,E,N⟩=>?_;subst E;cases W;exact Mb ⟨o,A,N⟩
noncomputable def He(K:Iy)(x:V)(H:Hp)(k:Bool):Prop:=
 match x with
 | .el=>k=ed
 | .bl b=>k=b
 | .int i=>k=(i != 0)
 | .str y=>y.length<=f6/\k=((y.length:Int) != 0)
 | .E2 y=>y.size<=f6/\k=((y.size:Int) != 0)
 | .ref p=>(∃d,gm K H p d/\k = !d.isEmpty)\/(∃d,hG K H p d/\k = !d.isEmpty)\/∃a,H p=di (.dK a)/\k = !a.isEmpty
 | _=>False
theorem aX(r:KV lU vs):(!vs.isEmpty) = !lU.isEmpty:=by cases r<;>rfl
theorem QW(r:fy xs TF):(!TF.toArray.isEmpty) = !xs.isEmpty:=by cases r<;>simp
theorem Jl:(f6:Nat)<2 ^ 63:=by rw[Nw];decide
theorem uu:Ib X (λx H Q=>∃k,He X.K x H k/\Q k H):=by
 intro l s B H x v Q I J h;obtain⟨k,e,q⟩:=h;have u:=Jl;have A:f6=16777216:=Nw;cases x with
 | el=>
  cases J;have z:k=ed:=e;subst z;exact truthy_none ⟨H,I,q⟩
 | bl b=>
  cases J;have z:k=b:=e;subst z;exact Mb ⟨H,I,q⟩
 | int i=>
  obtain⟨t,rfl⟩:=J;have z:k=(i != 0):=e;subst z;exact PySem.P.truthy_int ⟨H,I,q⟩
 | str y=>
  obtain⟨t,rfl⟩:=J;obtain⟨Y,z⟩:y.length<=f6/\k=((y.length:Int) != 0):=e;subst z;exact PySem.P.truthy_str ⋯ ⟨H,I.tok _,q⟩
 | E2 y=>
  obtain⟨t,rfl⟩:=J;obtain⟨Y,z⟩:y.size<=f6/\k=((y.size:Int) != 0):=e;subst z;exact PySem.W.truthy_bytes ⋯ ⟨H,I.tok _,q⟩
 | ref p=>
  cases J;have z:(∃d,gm X.K H p d/\k = !d.isEmpty)\/(∃d,hG X.K H p d/\k = !d.isEmpty)\/∃a,H p=di (.dK a)/\k = !a.isEmpty:=e;rcases z with⟨d,f,z⟩ | ⟨d,f,z⟩ | ⟨a,f,z⟩
  ·subst z
   obtain⟨n,r,O,j⟩:=I.list f;have U:=r.length;exact wpAny_truthy_list O.isList (by simp only[II];omega) ⟨H,I.tok _,by rw[QW r];exact q⟩
  ·subst z
   obtain⟨n,r,O,j⟩:=I.tuple f;have U:=r.length;exact truthy_tuple O (by simp only[II];omega) ⟨H,I.tok _,by rw[QW r];exact q⟩
  ·subst z
   obtain⟨j,o,g,r,m⟩:a.length<=f6/\(p==C2)=ed/\∃g,KV a g/\s.heap.DictOf (xi X.prog X.w) p g:=I.f9 p _ f;have U:a.length=g.length:=Paired.length r;exact wpAny_truthy_dict o m ⋯ ⟨H,I.tok _,by rw[aX r];exact q⟩
 | _=>exact(show False from e).elim
theorem iL(L:PE X a ta)(J : ∀z,DA a X.env z=(do let v <- z;DF a.pos;sh [v] (Gx v))) :
 PT X a (λC H Q=>ta C H λx H'=>∃k,He X.K x H' k/\Q k H'):=by
 intro b s C H Q I h;exact isTrue_plain (ft (L b s C H _ I h) λv e ⟨x,d,O,U,Y⟩=>uu b e C d x v Q O U Y)<|J _
theorem yq(r:fy [x] us) : ∃u,us=[u]/\RelV x u:=by
 cases r with
 | cons z a=>cases a;exact⟨_,rfl,z⟩
theorem oG(r:fy [x,y] us) : ∃u w',us=[u,w']/\RelV x u/\RelV y w':=by
 cases r with
 | cons z a=>
  cases a with
  | cons I J=>cases J;exact⟨_,_,rfl,z,I⟩
theorem fT(J:X.calm=dn):Zj X (.builtin "max") (λxs H Q=>∃i j,xs=[.int i,.int j]/\Q (.int (if j>i then j else i)) H):=by
 intro a s g H xs e Q I r h;obtain⟨i,j,rfl,q⟩:=h;obtain⟨u,f,rfl,⟨t,rfl⟩,⟨d,rfl⟩⟩:=oG r;refine max_two_ints (I.ok.hd J) λb O k=>⟨_,H,I.kept k,?_,q⟩;by_cases z:j>i
 ·rw[RY z,RY z];exact⟨_,rfl⟩
 ·rw[EQ z,EQ z];exact⟨_,rfl⟩
theorem fS(J:X.calm=dn):Zj X (.builtin "min") (λxs H Q=>∃i j,xs=[.int i,.int j]/\Q (.int (if j<i then j else i)) H):=by
 intro a s g H xs e Q I r h;obtain⟨i,j,rfl,q⟩:=h;obtain⟨u,f,rfl,⟨t,rfl⟩,⟨d,rfl⟩⟩:=oG r;refine min_two_ints (I.ok.hd J) λb O k=>⟨_,H,I.kept k,?_,q⟩;by_cases z:j<i
 ·rw[RY z,RY z];exact⟨_,rfl⟩
 ·rw[EQ z,EQ z];exact⟨_,rfl⟩
theorem fU:Zj X (.type "int") (λxs H Q=>(∃i,xs=[.int i]/\Q (.int i) H)\/∃k,xs=[.bl k]/\Q (.int (if k then 1 else 0)) H):=by
 intro a s d H xs b Q I r h;rcases h with⟨i,rfl,q⟩ | ⟨k,rfl,q⟩
 ·obtain⟨u,rfl,t,rfl⟩:=yq r
  exact call_int_int ⟨.int i,H,I,⟨_,rfl⟩,q⟩
 ·obtain⟨u,rfl,z⟩:=yq r
  cases z;exact call_int_bool ⟨.int<|if k then 1 else 0,H,I.tok _,⟨_,rfl⟩,q⟩
end
structure N9(h:f7)(x dx C:eg)(mA:RJ):Prop where
 obj:h.get? x=di (PySem.W.instObj C dx)
 ns:h.Ns1 dx mA
 ne:dx≠x
theorem eE{h:f7}{C:eg}{L:RJ}(n:h.Ns1 C L) : ∃S,h.get? C=di S/\∀name,PySem.W.lookIn name S=di (L name):=by
 obtain⟨o,b,g,I,d,J,_,f⟩:=n;refine⟨o,I,λname=>?_⟩;have e:=f name;unfold nsFind findBy at e;rw[<- Array.find?_toList]at e;unfold PySem.W.lookIn;rw[d];dsimp only;split
 ·rename_i y q
  rw[q]at e;exact congrArg di e
 ·rename_i q
  rw[q]at e;have a:b.toList.any (·.refKey)=ed:=by rw[R7];intro y O;obtain⟨z,t,U⟩:=J y<|Array.mem_toList_iff.mp O;simp[DictEntry.refKey,U]
  have Y : ¬b.toList.any (·.refKey)=dn:=by rw[a];exact Lj
  rw[EQ Y];exact congrArg di e
theorem N9.look(I:N9 h x dx C mA) : ∃L,PySem.W.InstAt h x (PySem.W.instObj C dx) C (di L)/\∀name,PySem.W.lookIn name L=di (mA name):=
 let ⟨L,z,J⟩:=eE I.ns
 ⟨L,⟨I.obj,rfl,rfl,z⟩,J⟩
theorem u7.some_of(r:u7 (di v) o) : ∃u,o=di u/\RelV v u:=by
 cases o with
 | none=>exact(show False from r).elim
 | some u=>exact⟨u,rfl,r⟩
section
variable{P:i3}{w:h8}{H H':Hp}{h h':f7}{a C dx:eg}{fs Tv:List (Str×V)}
theorem sg(J:lC P w H h)(e:H a=di (.ins C dx fs)) : ∃mA,N9 h a dx C mA/\(∀f,u7 (fs.lookup f)<|mA f)/\PySem.Within mA (fs.map (·.1))/\fs.length<=1000/\H dx=di (.own a):=by obtain⟨d,z,b,I,mA,n,r,q⟩:=(show la P w H h a (.ins C dx fs)from J a _ e);exact⟨mA,⟨I,n,b⟩,r,q,z,d⟩
end
structure N3(K:Iy)(C:eg):Prop where
 pg:PySem.W.plainGet K C Str.empty=dn
 hd:PySem.W.hasDictIn K C=dn
 po:PySem.W.plainOver K C=dn
 sa:Oq K (.ref C) "__setattr__" = di (di (.builtin "object.__setattr__"))
theorem N3.get{K:Iy}{C:eg}(c:N3 K C)(f:Str):PySem.W.plainGet K C f=dn:=c.pg
section
variable{X:Cx}{pins:RW}{σ:St}{H:Hp}{s:eF}{A:mm}{E:RQ}{Q:RQ}{c:eh}{b:Bool}
inductive tr(K:Iy)(H:Hp):V->eh->Prop where
 | el:tr K H .el (.type "NoneType")
 | bl (x:Bool):tr K H (.bl x) (.type "bool")
 | int (i:Int):tr K H (.int i) (.type "int")
 | str (x:Str):tr K H (.str x) (.type "str")
 | DT (x:UInt64):tr K H (.DT x) (.type "float")
 | lst {a:eg} {xs:List V} (e:H a=di (.lst xs)):tr K H (.ref a) (.type "list")
 | rq {a:eg} {o:nr} {xs:List V} (e:H a=di (.rq o (.lst xs))):tr K H (.ref a) (.type "list")
 | tup {a:eg} {xs:List V} (e:H a=di (.tup xs)):tr K H (.ref a) (.type "tuple")
 | dK {a:eg} {lU:List (Key×V)} (e:H a=di (.dK lU)):tr K H (.ref a) (.type "dict")
 | dT {a:eg} {lU:List (List Key×V)} (e:H a=di (.dT lU)):tr K H (.ref a) (.type "dict")
 | ins {a C dx:eg} {fs:List (Str×V)} (e:H a=di (.ins C dx fs)) (cl:N3 K C) (ha:Oq K (.ref C) "__class__" = di (di (.builtin "object.__class__")))
  (hn:PySem.W.specialIn K (.builtin "object.__class__") "__get__" = di (di (.builtin "getset_descriptor.__get__"))) (Uq:PySem.W.takesIn K (.builtin "object.__class__")=di dn)
  (hm:PySem.W.mroIn K C (.type "object")=di dn):tr K H (.ref a) (.ref C)
theorem eW(I:Inv X pins σ H s)(U:RelV x u)(ty:tr X.K H x t)(e:Nr X.K t c=di b)(h : ∀S,Q (.bool b) {s with toks:=S}) :
 wpAny (e9 X.prog X.w) A (call (.builtin "isinstance") [u,c]) Q E s:=by
 cases ty with
 | el=>cases (show u=Ls from U);exact Ly PySem.W.kitx_none I.m1 MZ e (λz=>nomatch z) h
 | bl y=>cases (show u=Value.bool y from U);exact Ly PySem.W.kitx_bool I.m1 MZ e (λz=>nomatch z) h
 | int i=>obtain⟨t,q⟩:=(show ∃t,u=Pw i t from U);cases q;exact Ly PySem.W.kitx_int I.m1 MZ e (λz=>nomatch z) h
 | str y=>obtain⟨t,q⟩:=(show ∃t,u=Pu y t from U);cases q;exact Ly PySem.W.kitx_str I.m1 MZ e (λz=>nomatch z) h
 | DT y=>obtain⟨t,q⟩:=(show ∃t,u=Value.float y t from U);cases q;exact Ly PySem.W.kitx_float I.m1 MZ e (λz=>nomatch z) h
 | @lst a g Y=>
  cases (show u=Mm a from U);obtain⟨_,_,n,_,d⟩:=(show la X.prog X.w H s.heap a (.lst g)from I.f9 a _ Y);exact Ly Py I.m1 ⟨_,d,rfl⟩ e (λz=>nomatch z) h
 | @rq a L g Y=>
  cases (show u=Mm a from U);obtain⟨_,_,_,n,_,d⟩:=(show la X.prog X.w H s.heap a (.rq L<|.lst g)from I.f9 a _ Y);exact Ly Py I.m1 ⟨_,d,rfl⟩ e (λz=>nomatch z) h
 | @tup a g Y=>
  cases (show u=Mm a from U);obtain⟨_,_,_,p⟩:=(show la X.prog X.w H s.heap a (.tup g)from I.f9 a _ Y);obtain⟨o,d,j,_⟩:=p;exact Ly PySem.W.kitx_tuple I.m1 ⟨o,d,(Prod.mk.inj j).1⟩ e (λz=>nomatch z) h
 | @dK a f Y=>
  cases (show u=Mm a from U);obtain⟨_,_,R,_,p⟩:=(show la X.prog X.w H s.heap a (.dK f)from I.f9 a _ Y);obtain⟨o,r,m,d,j,_⟩:=p;exact Ly PB I.m1 ⟨o,d,j.1⟩ e (λz=>nomatch z) h
 | @dT a f Y=>
  cases (show u=Mm a from U);obtain⟨_,_,g,_,o,r,m,d,j,_⟩:=(show la X.prog X.w H s.heap a (.dT f)from I.f9 a _ Y);exact Ly PB I.m1 ⟨o,d,j.1⟩ e (λz=>nomatch z) h
 | @ins a C M fs Y l B G k F=>
  cases (show u=Mm a from U);obtain⟨N,O,_⟩:=sg I.f9 Y;obtain⟨P,J,_⟩:=O.look;exact Ly (PySem.W.kitx_own (l.get _) l.hd B G k F) I.m1 J e (λz=>nomatch z) h
end
structure m3(k:Nat)(A:mm):Prop where
 hd:A.handled=d5
 dp:A.depth+3*k+5<recursionLimit
 un:A.units+16*k+200<y3
theorem m3.mono(r:m3 k A)(h:j<=k):m3 j A:=⟨r.hd,by have:=r.dp;omega,by have:=r.un;omega⟩
theorem m3.deeper(r:m3 (k+1) A)(env:nf):m3 k (A.deeper env):=
 ⟨r.hd,by have:=r.dp;show A.depth+1+3*k+5<_;omega,by have:=r.un;show A.units+3+16*k+200<_;omega⟩
theorem m3.in1(r:m3 (k+1) A):m3 k A.in1:=
 ⟨r.hd,by have:=r.dp;show A.depth+3*k+5<_;omega,by have:=r.un;show A.units+1+16*k+200<_;omega⟩
theorem m3.depth(r:m3 k A):A.depth<recursionLimit:=by have:=r.dp;omega
noncomputable def Gq:TA:=λ_ H Q=>Q [] H
noncomputable def uC(C:TE)(z:TA):TA:=λa H Q=>C a H λx b=>z a b λe d=>Q (x::e) d
section
variable{X:Cx}{e:eA}{es:List eA}{te:TE}{t:TA}{pos:hB}
theorem qy:PA X [] Gq:=λ_ _ _ _ H Q I h=>PK ⟨[],H,I,.nil,h⟩
theorem jz(C:PE X e te)(z:PA X es t)(J:gv (e::es) X.env=(ed,fh e X.env)::gv es X.env:=by rfl):PA X (e::es) (uC te t):=by intro pos a s b H Q I h;rw[J];show wpAny _ _ (M0 ((ed,fh e X.env)::p5 pos (gv es X.env))) _ _ s;refine Ou<|ft (C a s b H _ I h) λu l O=>?_;obtain⟨x,d,U,Y,i⟩:=O;exact ft (z pos a l b d _ U i) λo n ⟨m,f,g,k,j⟩=>⟨x::m,f,g,.cons Y k,j⟩
noncomputable def Hm(t:TA):TE:=λd H Q=>t d H λb a=>b.length<=f6/\∀p,a p=d5->Q (.ref p) (upd a p<|.tup b)
noncomputable def Hr(t:TA):TE:=λd H Q=>t d H λb a=>b.length<=f6/\∀p,a p=d5->Q (.ref p) (upd a p<|.lst b)
theorem AI(h:PA X es t):PE X (.Tuple es x1 pos) (Hm t):=by intro a s j H Q I O;refine wpAny_Tuple_spliced<|ft (h pos a s j H _ I O) λg d ⟨i,f,J,r,z,q⟩=>⟨by rw[<- r.length];exact z,?_⟩;have U:f d.heap.objs.size=d5:=J.f9.fresh<|IH _;refine⟨.ref d.heap.objs.size,upd f d.heap.objs.size<|.tup i,J.laid (t':=d.toks) (λb u e=>IB _ e) (IH _) ?_,rfl,q _ U⟩;exact⟨z,g,r,⟨_,IV _ rfl,rfl,_,rfl⟩⟩
theorem AN(h:PA X es t):PE X (.List es pos) (Hr t):=by intro a s j H Q I O;refine wpAny_List_spliced<|ft (h pos a s j H _ I O) λg d ⟨i,f,J,r,z,q⟩=>⟨by rw[<- r.length];exact z,?_⟩;have U:f d.heap.objs.size=d5:=J.f9.fresh<|IH _;refine⟨.ref d.heap.objs.size,upd f d.heap.objs.size<|.lst i,J.laid (t':=d.toks) (λb u e=>IB _ e) (IH _) ?_,rfl,q _ U⟩;exact⟨z,g,0,r,IV _ rfl⟩
end
abbrev Sp:=List V->Hp->VK->XK->Prop
abbrev s8:=List nf->Hp->eF->XK->eh->eF->Prop
structure A7(P:i3)(w:h8)(K:Iy)(mg:RJ)(base:f7)(A:mm)(outer:List nf)(s:eF)(H:Hp):Prop where
 frames:A.frames=di outer
 mod:Mod K mg base
 bs : ∀b o,base.get? b=di o->s.heap.get? b=di o/\H b=d5
 yg:base.objs.size<=s.heap.objs.size
 sd:s.heap.FunFrames base outer
 Df : ∀b∈vr outer,H b=d5
 f9:lC P w H s.heap
 bare:C5 s.gens
noncomputable def CE(outer:List nf)(P:i3)(w:h8)(H:Hp)(s:eF)(Q:VK)(u:eh)(C:eF):Prop:=
 ∃v a,C.os=s.os/\C5 C.gens/\Un (vr outer) [] H a s.heap C.heap/\lC P w a C.heap/\RelV v u/\Q v a
noncomputable def CR(CX:s8)(outer:List nf)(P:i3)(w:h8)(H:Hp)(s:eF)(Q:VK)(E:XK)(r:Result)(C:eF):Prop:=
 match r with
 | .ok (.ret u)=>CE outer P w H s Q u C
 | .ok _=>False
 | .error e=>CX outer H s E e C
structure pf(P:i3)(w:h8)(K:Iy)(mg:RJ)(base:f7)(CX:s8)(k:Nat)(f:eg)(fd:pk)(ps:List Str)(sp:Sp):Prop where
 len : ∀vs H Q E,sp vs H Q E->vs.length=ps.length
 run : ∀(A:mm) (outer:List nf) (s:eF) (H:Hp) (args:Args) (us:List eh) (vs:List V) (Q:VK) (E:XK),m3 k A->A7 P w K mg base A outer s H->G6 s fd args (ps.zip us)->fy vs us->sp vs H Q E->
  codeAny (e9 P w) A (.call (.ref f) args) (CR CX outer P w H s Q E) s
theorem A7.in1{P:i3}{w:h8}{K:Iy}{C:RJ}{base:f7}{A:mm}{outer:List nf}{s:eF}{H:Hp}(e:A7 P w K C base A outer s H) :
 A7 P w K C base A.in1 outer s H:=⟨e.frames,e.mod,e.bs,e.yg,e.sd,e.Df,e.f9,e.bare⟩
section
variable{X:Cx}{pins:RW}{σ:St}{H:Hp}{s s':eF}
theorem Inv.B3(I:Inv X pins σ H s):A7 X.prog X.w X.K X.mg X.base X.A X.stack s H:=
 ⟨I.ok.frames,I.ok.mod,I.bs,LN I.ok.yg I.sz,I.stack,I.Sz,I.f9,I.bare⟩
theorem Inv.after(I:Inv X pins σ H s)(h:CE X.stack X.prog X.w H s Q u s'):EP X pins σ Q u s':=by obtain⟨v,f,os,a,un,e,r,q⟩:=h;obtain⟨J,g,d,t,O⟩:=s';obtain rfl:O=s.os:=os;exact⟨v,f,I.call (h':=J) (g':=g) (d':=d) (t':=t) (ch:=[]) un e a<|λb z=>absurd z ⋯,r,q⟩
end
noncomputable def pj(sp:Sp)(C:List V)(E:XK)(t:TA):TE:=λd H Q=>t d H λb a=>sp (b++C) a Q E
noncomputable def Binds(K:Iy)(C:pk)(ps:List Str)(ds:List eh):Prop:=
 ∀(s:eF) (a:List eh),K.In s.heap->(a++ds).length=ps.length->G6 s C ⟨a,[]⟩ (ps.zip<|a++ds)
theorem Binds.all{K:Iy}{C:pk}{ps:List Str}(h : ∀us:List eh,us.length=ps.length->bindArgs C ⟨us,[]⟩=pure (ps.zip us)):Binds K C ps []:=λs us _ z=>by rw[Nj]at z ⊢;exact .of_eq<|h us z
noncomputable def gu(CX:s8)(X:Cx)(E:XK):Prop:=∀(a:RW) (d:St) (H:Hp) (s:eF) (e:eh) (b:eF),Inv X a d H s->CX X.stack H s E e b->X.xe e b
section
variable{X:Cx}{CX:s8}{k:Nat}{f C:eg}{fd:pk}{ps:List Str}{sp:Sp}{DQ:List V}{ds:List eh}{E:XK}{x m:Str}{p pos apos:hB}{e o:eA}{es:List eA}{ta:TE}{t:TA}
theorem uV(F:pf X.prog X.w X.K X.mg X.base CX k f fd ps sp)(J:m3 k X.A)(O:Binds X.K fd ps ds)(L:fy DQ ds)(hx:gu CX X E)
 (I:Inv X pins σ H s) (r:fy vs us) (h:sp (vs++DQ) H Q E):wpAny (e9 X.prog X.w) X.A (call (.ref f) us) (EP X pins σ Q) X.xe s:=by
 have a:fy (vs++DQ) (us++ds):=r.append L;have U:(us++ds).length=ps.length:=by rw[<- a.length];exact F.len _ _ _ _ h
 refine wpAny_call<|Pp (F.run X.A X.stack s H ⟨us,[]⟩ (us++ds) (vs++DQ) Q E J I.B3 (O s us I.m1 U) a h) λr b z=>?_;cases r with
 | error e=>exact hx pins σ H s e b I z
 | ok Y=>
  cases Y with
  | ret u=>exact I.after z
  | next=>exact MP z
  | brk=>exact MP z
  | cont=>exact MP z
theorem dz(F:pf X.prog X.w X.K X.mg X.base CX k f fd ps sp)(J:m3 k X.A)(O:Gl X x)(hm:X.mg x=di (.ref f))(U:Oo X.K (.ref f)=dn)(Y:Binds X.K fd ps ds)(hd:fy DQ ds)(hx:gu CX X E)
 (Z:PA X (e::es) t) (L:(x==("__debug__" : Str))=ed:=by decide) (he:gv (e::es) X.env=(ed,fh e X.env)::gv es X.env:=by rfl) (S:(p5 pos (gv es X.env)).any (·.1)=ed:=by rfl) :
 PE X (.Call (.Name x p) (e::es) [] pos) (pj sp DQ E t):=by
 intro a s b H Q I h;refine NS<|eI I O hm ?_ L;refine PySem.W.callWith_K (h₀:=X.base) I.ok.mod.Rt U (ft (Z pos a s b H _ I h) λi g ⟨j,d,z,r,q⟩=>⟨z.m1,?_⟩) he S;exact uV F J Y hd hx z r q
end
structure D4(N P:List Str)(sc:hL):Prop where
 kind:sc.kind = .function
 co:sc.isCoroutine=ed
 gen:sc.isGenerator=ed
 nd:N.Nodup
 pre:N.take P.length=P
 par : ∀x∈P,sc.names.lookup x=di .local\/sc.names.lookup x=di .cell
 TU : ∀y∈sc.names,y.2 ≠ .free
theorem YK{kindOf:Str->Option u5}{x:Str} : ∀{z:List (Str×eh)} {m:RJ},(∀v,(x,v)∉z)->Dv kindOf z m x=m x
 | [],_,_=>rfl
 | (n,v)::r,m,h=>by
  unfold Dv;rw[YK λw a=>h w (IM _ a)];split
  ·have:x≠n:=by rintro rfl;exact h v IQ
   simp[this]
  ·rfl
theorem YN{kindOf:Str->Option u5}{x:Str} : ∀{z:List (Str×eh)} {m:RJ},(∀v,(x,v)∉z)->Du kindOf z m x=m x
 | [],_,_=>rfl
 | (n,v)::r,m,h=>by
  unfold Du;rw[YN λw a=>h w (IM _ a)];split
  ·rfl
  ·have:x≠n:=by rintro rfl;exact h v IQ
   simp[this]
theorem YL{kindOf:Str->Option u5}{x:Str}{v:eh} : ∀{P:List Str} {vs:List eh} {i:Nat} {m:RJ},P.Nodup->P[i]? = di x->vs[i]? = di v->kindOf x=di .local->
 Dv kindOf (P.zip vs) m x=di v
 | [],_,_,_,_,h,_,_=>by simp at h
 | _::_,[],_,_,_,_,h,_=>by simp at h
 | p::P,w::vs,0,m,nd,h1,h2,hk=>by simp at h1 h2;subst h1;subst h2;show Dv kindOf ((p,w)::P.zip vs) m p=_;unfold Dv;rw[YK λv z=>(Me.mp nd).1 (List.of_mem_zip z).1,RY hk];simp
 | p::P,w::vs,i+1,m,nd,h1,h2,hk=>by show Dv kindOf ((p,w)::P.zip vs) m x=_;unfold Dv;exact YL (i:=i) (Me.mp nd).2 (by simpa using h1) (by simpa using h2) hk
theorem YO{kindOf:Str->Option u5}{x:Str}{v:eh} : ∀{P:List Str} {vs:List eh} {i:Nat} {m:RJ},P.Nodup->P[i]? = di x->vs[i]? = di v->kindOf x≠di .local->
 Du kindOf (P.zip vs) m x=di v
 | [],_,_,_,_,h,_,_=>by simp at h
 | _::_,[],_,_,_,_,h,_=>by simp at h
 | p::P,w::vs,0,m,nd,h1,h2,hk=>by simp at h1 h2;subst h1;subst h2;show Du kindOf ((p,w)::P.zip vs) m p=_;unfold Du;rw[YN λv z=>(Me.mp nd).1 (List.of_mem_zip z).1,EQ hk];simp
 | p::P,w::vs,i+1,m,nd,h1,h2,hk=>by show Du kindOf ((p,w)::P.zip vs) m x=_;unfold Du;exact YO (i:=i) (Me.mp nd).2 (by simpa using h1) (by simpa using h2) hk
noncomputable def w6(N:List Str)(vs:List V):St:=vs.map di++IE (N.length - vs.length) d5
noncomputable def sM(CX:s8)(P:i3)(w:h8)(K:Iy)(mg:RJ)(base:f7)(N:List Str)(qual:Str)(scope:hL)(f:eg)(z:eh)(A:mm)(outer:List nf)(s:eF)(H:Hp)(E:XK):Cx where
 prog:=P
 w:=w
 K:=K
 mg:=mg
 base:=base
 A:=A.deeper<|envOfC qual scope s.heap.objs.size f z
 N:=N
 m8:=s
 D5:=H
 env:=H8 qual scope s.heap.objs.size f z
 outer:=outer
 stack:=H8 qual scope s.heap.objs.size f z::outer
 ex:=[]
 calm:=dn
 fn:=λ_=>dn
 pn:=[]
 xe:=λe s'=>wpAny (e9 P w) (A.deeper<|envOfC qual scope s.heap.objs.size f z) (leaving (H8 qual scope s.heap.objs.size f z) e) (λ_ I=>CX outer H s E e I) (λJ I=>CX outer H s E J I) s'
theorem W6{C:hL}{n:Nat}{x:Str}(h:C.names.lookup x=di .cell) : ∃c,(rp n C.names []).lookup x=di c:=by have q:=NH C.names n [] (.inl h);exact Mw.mp q
theorem eY{CX:s8}{P:i3}{w:h8}{K:Iy}{C:RJ}{base:f7}{N ps:List Str}{qual:Str}{scope:hL}{f:eg}{U:eh}{A:mm}{outer:List nf}{s L:eF}{H:Hp}{E:XK}{us:List eh}{vs:List V}
 (S:D4 N ps scope) (Z:A.handled=d5) (I:A7 P w K C base A outer s H) (hl:vs.length=ps.length) (r:fy vs us)
 (x:InCallC s s.heap.objs.size (Dv (H8 qual scope s.heap.objs.size f U).kindOf (ps.zip us) λ_=>d5) (rp (s.heap.objs.size+1) scope.names []) (Du (H8 qual scope s.heap.objs.size f U).kindOf (ps.zip us) λ_=>d5) L) :
 Inv (sM CX P w K C base N qual scope f U A outer s H E) [] (w6 N vs) H L:=by
 have F:ps.length<=N.length:=by have:=congrArg List.length S.pre;rw[Oa]at this;omega
 obtain⟨g,M,rfl,m⟩:=x.done;have Y : ∀b:eg,b∉(sM CX P w K C base N qual scope f U A outer s H E).ex:=λb z=>absurd (show b∈([]:List eg)from z) ⋯;refine⟨⟨I.mod,S.kind,rfl,rfl,IH _,λy z c g d=>?_,λy J=>?_,λy c _ h=>?_,λ_=>Z,Around.frames_deeper I.frames,.inr ⟨rfl,rfl⟩,λb z=>absurd z<|Y b,I.bs,I.yg,λb _ _=>Y b,λb z=>absurd z<|Y b,I.sd,I.Df⟩,
  rfl,I.bare,Un.kept m,⟨_,x.toInCall.ns,λi y v g d G=>?_⟩,λy c h=>⟨_,x.cell y c h⟩,I.f9.fresh<|IH _,λy c h=>?_,λp O=>absurd (show p∈([]:RW)from O) ⋯,I.f9.kept m,?_⟩
 ·exact name_of_addr x.apart (Nz g)<|Nz d
 ·have J:scope.names.lookup y=di .cell\/scope.names.lookup y=di .free:=J
  rcases J with J | J
  ·exact W6 J
  ·exact absurd rfl<|S.TU _<|Nz J
 ·exact Pd<|x.above y c<|Nz h
 ·have j:i<vs.length:=by
   unfold w6 at d;by_cases j:i<vs.length
   ·exact j
   ·rw[Lz (by simpa using j)]at d
    rw[NI]at d;split at d<;>cases d
  have t:vs[i]? = di v:=by
   unfold w6 at d;rw[LK (by simpa using j),Le]at d;cases e:vs[i]? with
   | none=>rw[e]at d;cases d
   | some a=>rw[e]at d;cases d;rfl
  obtain⟨u,o,B⟩:=r.get t;have O:ps[i]? = di y:=by rw[<- S.pre,List.getElem?_take_of_lt ⋯];exact g
  have l:ps.Nodup:=by rw[<- S.pre];exact S.nd.sublist<|List.take_sublist _ _
  refine⟨u,B,?_⟩;rcases S.par y (LB O)with k | k
  ·exact .inl ⟨k,YL l O o k⟩
  ·obtain⟨c,e⟩:=W6 (n:=s.heap.objs.size+1) k
   refine .inr ⟨.inl k,c,e,?_⟩;have q:=x.cell y c e;rw[YO l O o (by show scope.names.lookup y≠_;rw[k];decide)]at q;exact q
 ·exact I.f9.fresh<|Pd<|x.above y c<|Nz h
 ·unfold w6
  show _=N.length;rw[LJ,IU,List.length_replicate];omega
theorem Fq{CX:s8}{P:i3}{w:h8}{K:Iy}{mg:RJ}{base:f7}{k:Nat}{f:eg}{name qual:Str}{a0:Arguments}{L:List kv}{scope:hL}{dV kV Z pm C ct oc:eh}{an od:Option eg}
 {Ry:Array (Option eh)} {N ps:List Str} {sp:Sp} (lk:K.lookup f=di ⟨oc,od,.func<|NN name qual a0 L scope dV kV Z pm an C ct,Ry⟩) (a5:OV K C qual=dn) (S:D4 N ps scope)
 (len : ∀vs H Q E,sp vs H Q E->vs.length=ps.length)
 (a6 : ∀(A:mm) (outer:List nf) (s:eF) (H:Hp) (vs:List V) (Q:VK) (E:XK),m3 k (A.deeper<|envOfC qual scope s.heap.objs.size f C)->sp vs H Q E->
   ∃t,p9 (sM CX P w K mg base N qual scope f C A outer s H E) L t/\t {nx:=λ_ H'=>Q .el H',rt:=Q} (w6 N vs) H) :
 pf P w K mg base CX (k+1) f (NN name qual a0 L scope dV kV Z pm an C ct) ps sp:=by
 refine⟨len,λA outer s H j X vs Q E U O hb r h=>?_⟩;have G:=len _ _ _ _ h;have g:K.In s.heap:=O.mod.Rt.keeps λb o e=>(O.bs b o e).1;have lim:s.heap.NoLimit:=O.mod.nolimit.keeps λb o e=>(O.bs b o e).1;have m : ∀y∈ps.zip X,scope.names.lookup y.1=di .local\/(scope.names.lookup y.1=di .cell/\((rp (s.heap.objs.size+1) scope.names []).lookup y.1).isSome=dn):=λ⟨n,v⟩ T=>by
  rcases S.par n (List.of_mem_zip T).1 with q | q
  ·exact .inl q
  ·exact .inr ⟨q,NH _ _ _<|.inl q⟩
 refine codeAny_call_function U.depth (g _ _ lk) rfl S.co S.gen rfl (PySem.W.codeRec_of g a5)<|hb _ _ _ _ ?_;refine wpAny_newFunctionEnv_cells S.kind m λp F l x=>?_;subst F;refine⟨lim.keeps x.toInCall.keep,codeAny_func ?_⟩;obtain⟨t,R,M⟩:=a6 A outer s H vs Q E (U.deeper _) h;have I:Inv (sM CX P w K mg base N qual scope f C A outer s H E) [] (w6 N vs) H l:=eY S U.hd O G r x;refine MI (R [] l (w6 N vs) H _ I M) (λB d z=>?_) λe d z=>z;have i : ∀{a:St} {H':Hp} {v:V} {u:eh},Inv (sM CX P w K mg base N qual scope f C A outer s H E) [] a H' d->RelV v u->Q v H'->CE outer P w H s Q u d:=
  λ{a H' v u} J Y q=>⟨v,H',J.os,J.bare,J.base,J.f9,Y,q⟩
 cases B with
 | ret u=>
  obtain⟨v,a,H',J,Y,q⟩:=z;exact i J Y q
 | next=>
  obtain⟨a,H',J,q⟩:=z;exact i (v:=V.el) (u:=Ls) J rfl q
 | brk=>
  obtain⟨_,_,_,q⟩:=z;exact MP q
 | cont=>
  obtain⟨_,_,_,q⟩:=z;exact MP q
section
variable{X:Cx}{x:Str}{p pos:hB}{e:eA}{es:List eA}{t:TA}{id T:String}{r:List V->Hp->VK->Prop}
noncomputable def SF(r:List V->Hp->VK->Prop)(t:TA):TE:=λd H Q=>t d H λb a=>r b a Q
theorem kY(z:Zj X (.builtin id) r)(J:Gl X x)(S:X.mg x=d5)(O:Dc x=di (.builtin id))(L:PA X (e::es) t)(Z:x ≠ "__name__":=by decide)(U:(x==("__debug__" : Str))=ed:=by decide)
 (Y:gv (e::es) X.env=(ed,fh e X.env)::gv es X.env:=by rfl) (C:(p5 pos<|starEach es X.env).any (·.1)=ed:=by rfl):PE X (.Call (.Name x p) (e::es) [] pos) (SF r t):=by
 intro a s b H Q I h;refine NS<|yF I J S O ?_ Z U;exact Pa (ft (L pos a s b H _ I h) λk j ⟨l,d,f,i,g⟩=>z a j b d l k Q f i g) Y C
theorem Ja(z:Zj X (.type T) r)(J:Gl X x)(S:X.mg x=d5)(O:Dc x=di (.type T))(L:PA X (e::es) t)(Z:x ≠ "__name__":=by decide)(U:(x==("__debug__" : Str))=ed:=by decide)
 (Y:gv (e::es) X.env=(ed,fh e X.env)::gv es X.env:=by rfl) (C:(p5 pos<|starEach es X.env).any (·.1)=ed:=by rfl):PE X (.Call (.Name x p) (e::es) [] pos) (SF r t):=by
 intro a s b H Q I h;refine NS<|yF I J S O ?_ Z U;exact LY (ft (L pos a s b H _ I h) λk j ⟨l,d,f,i,g⟩=>z a j b d l k Q f i g) Y C
end
end L2
namespace HT
open PySem PyProof.Rows
section
variable{prog:i3}{w:h8}{A:mm}{E:RQ}{s:eF}
theorem FE(Z:D6 s.heap t vs.toArray)(S:D6 s.heap b z.toArray)(O:vs ≠ [])
 (C:z=[]->Q (.ref t) s) (L:z ≠ []->Q (.ref s.heap.objs.size) {s with heap:=s.heap.push {cls:= .type "tuple",data:= .seq (vs++z).toArray}})
 (hsz:vs.length+z.length<=f6):wpAny (e9 prog w) A (t5 .Add (.ref t)<|.ref b) Q E s:=by
 obtain⟨⟨cls,U,data,k⟩,I,Y,n,i⟩:=id Z;obtain⟨⟨l,d,data2,f⟩,J,g,j,h⟩:=id S;simp only at Y i g h;subst Y i g h;have e:vs.toArray++z.toArray=(vs++z).toArray:=by simp
 by_cases a:z=[]
 ·exact Rm ⟨_,I,rfl⟩ ⟨_,J,rfl⟩ Rn Sw OK OI (Ow _ _)
   (tuple_addW1 t b vs.toArray z.toArray n j U d k f (by simpa using O)<|by simp[a]) ⟨I,J,C a⟩
 ·refine Rm ⟨_,I,rfl⟩ ⟨_,J,rfl⟩ Rn Sw OK OI (Ow _ _)
   (tuple_addW2 t b vs.toArray z.toArray n j U d k f (by simpa using O) (by simpa using a)<|by rw[II,II];exact hsz) ⟨I,J,?_⟩
  rw[e];exact L a
noncomputable def d8(n d:Nat):Option Int->Nat
 | none=>d
 | some v=>if v<0 then (v+(n:Int)).toNat else min v.toNat n
theorem uO(n d:Nat)(C:d<=n)(o:Option Int):d8 n d o<=n:=by
 cases o with
 | none=>exact C
 | some v=>
  show(if v<0 then (v+(n:Int)).toNat else min v.toNat n)<=n;by_cases z:v<0
  ·rw[RY z];omega
  ·rw[EQ z];exact Rf _ _
theorem fO(v:Int)(n d:Nat):(if v<0 then max (v+(n:Int)) 0 else min v (n:Int))=((d8 n d (di v):Nat):Int):=by
 show(if v<0 then max (v+(n:Int)) 0 else min v (n:Int))=(((if v<0 then (v+(n:Int)).toNat else min v.toNat n):Nat):Int);by_cases z:v<0
 ·simp only[RY z];omega
 ·simp only[EQ z];omega
theorem bz(lo hi:Option Int)(n:Nat):NZ lo hi 1 (n:Int)=(((d8 n 0 lo:Nat):Int),((d8 n n hi:Nat):Int)):=by
 have a : ¬((1:Int)<0):=by omega
 unfold NZ;simp only[a,if_false];refine Prod.ext ?_ ?_
 ·cases lo with
  | none=>rfl
  | some v=>exact fO v n 0
 ·cases hi with
  | none=>rfl
  | some v=>exact fO v n n
theorem aF(i j:Nat):Nb (i:Int) (j:Int) 1=j - i:=by
 unfold Nb;have a:(1:Int)>0:=by omega
 simp only[a,if_true,Int.ediv_one];split<;>omega
theorem QI(p:A8 v o)(h:Q o s):wpAny (e9 prog w) A (Builtin.Slice.slicePartIndex v) Q E s:=by
 cases p with
 | none=>exact slicePart_none h
 | int i t=>exact slicePart_int h
theorem w9{C:eg}{z I:eh}{lo hi:Option Int}{n:Nat}{Q:Int×Int×Nat->eF->Prop}(U:s.heap.IsSliceOf C z I .none)(Y:A8 z lo)(L:A8 I hi)
 (h:Q (((d8 n 0 lo:Nat):Int),1,d8 n n hi - d8 n 0 lo) s):wpAny (e9 prog w) A (Builtin.Slice.sliceApplied (.ref C)<|pure (n:Int)) Q E s:=by
 obtain⟨os,J,a,O⟩:=id U;unfold Builtin.Slice.sliceApplied Builtin.Slice.sliceFields;refine IA<|IA<|LW J O (x:=z) rfl<|IA<|LW J O (x:=I) rfl<|IA<|LW J O (x:= .none) rfl<|IK ?_;refine IA<|slicePart_none ?_;show wpAny _ _ (if ((1:Int)==0)=dn then _ else _) _ _ s;rw[EQ ⋯];refine IA<|QI Y<|IA<|QI L<|IA<|IK ?_;show wpAny _ _ (match NZ lo hi 1 (n:Int)with | (lo,hi)=>pure (lo,(1:Int),Nb lo hi 1)) _ _ s;rw[bz lo hi n];show wpAny _ _ (pure (((d8 n 0 lo:Nat):Int),(1:Int),Nb ((d8 n 0 lo:Nat):Int) ((d8 n n hi:Nat):Int) 1)) _ _ s;rw[aF];exact IK h
theorem iZ(xs:Array eh)(i k:Nat):((Iz k).filterMap λ(m:Nat)=>xs[((i:Int)+(m:Int)*1).toNat]?).toArray=((xs.toList.drop i).take k).toArray:=by
 have e:(λ(m:Nat)=>xs[((i:Int)+(m:Int)*1).toNat]?)=λm=>xs[i+m]? :=by
  funext m;have:((i:Int)+(m:Int)*1).toNat=i+m:=by omega
  rw[this]
 rw[e];have:=pick_run xs i k;rw[List.filterMap_map]at this;have z:((λx=>xs[x]?)∘λx=>i+x)=λm=>xs[i+m]? :=rfl;rw[z]at this;rw[this]
theorem ba{t C:eg}{items:Array eh}{J O:eh}{lo hi:Option Int}{Q:RQ}(z:D6 s.heap t items)(U:s.heap.IsSliceOf C J O .none)(Y:A8 J lo)(S:A8 O hi)
 (L : ¬(d8 items.size 0 lo=0/\d8 items.size items.size hi=items.size))
 (h:Q (.ref s.heap.objs.size) {s with heap:=s.heap.push {cls:= .type "tuple",data:= .seq ((items.toList.drop (d8 items.size 0 lo)).take (d8 items.size items.size hi - d8 items.size 0 lo)).toArray}})
 (hsz:items.size<=f6):wpAny (e9 prog w) A (B5 (.ref t)<|.ref C) Q E s:=by
 have I:sizeOk (.seq ((items.toList.drop<|d8 items.size 0 lo).take (d8 items.size items.size hi - d8 items.size 0 lo)).toArray):=by show((items.toList.drop<|d8 items.size 0 lo).take (d8 items.size items.size hi - d8 items.size 0 lo)).toArray.size<=f6;rw[II,Oa,List.length_drop,Md];omega
 have g:d8 items.size items.size hi<=items.size:=uO _ _ (IH _) hi;obtain⟨os,a,b,f⟩:=id U;have d:s.TypeIs (.ref C) "slice":=⟨os,a,b⟩;unfold B5
 try with_reducible refine MH ?_
 first | refine IA (IK ?_) | skip
 refine IA (Uk z.typeIs ⋯ ?_);refine IA (Mj (name:=LC "__getitem__") z.typeIs Mc
  (Ms Mc z.typeIs entry_tuple_getitem ?_ (Tj _ _)))
 show wpAny _ _ (Builtin.Tuple.tupleItemsOf (.ref t) >>= _) _ _ s;refine IA<|OZ z ?_;refine IA<|OM d ?_;rw[RY ⋯];refine IA<|w9 U Y S ?_;have e : ¬((((d8 items.size 0 lo:Nat):Int)==0 && (1:Int)==1 && (d8 items.size items.size hi - d8 items.size 0 lo)==items.size)=dn):=by intro q;rw[IS,IS]at q;have i:((d8 items.size 0 lo:Nat):Int)=0:=eq_of_beq q.1.1;have j:d8 items.size items.size hi - d8 items.size 0 lo=items.size:=eq_of_beq q.2;exact L ⟨by omega,by omega⟩
 show wpAny _ _ (if (((d8 items.size 0 lo:Nat):Int)==0 && (1:Int)==1 && (d8 items.size items.size hi - d8 items.size 0 lo)==items.size)=dn then _ else _) _ _ s;rw[EQ e,iZ]
 first
  | exact IA (m:=Mq _)<|Mi (IK ⟨_,rfl,IK h⟩) I
  | exact IA (m:=Mq _)<|Mi (IA<|IK<|IK ⟨_,rfl,IK h⟩) I
  | exact IA<|IA (m:=Mq _)<|Mi (IK<|IK ⟨_,rfl,IK h⟩) I
  | exact IA<|IA (m:=Mq _)<|Mi (IK ⟨_,rfl,IK h⟩) I
end
end HT
namespace L2
open PySem PySem.Spec PyProof.Rows
abbrev TO:=St->Hp->(Option Int->Hp->Prop)->Prop
noncomputable def PO(X:Cx)(e:Option eA)(t:TO):Prop:=
 ∀(a:RW) (s:eF) (b:St) (H:Hp) (Q:Option Int->Hp->Prop),Inv X a b H s->t b H Q->
  wpAny (e9 X.prog X.w) X.A (evalPart e X.env) (λu f=>∃o d,Inv X a b d f/\A8 u o/\Q o d) X.xe s
noncomputable def pe:TO:=λ_ H Q=>Q d5 H
noncomputable def Ew(t:TE):TO:=λb H Q=>t b H λx a=>∃i,x = .int i/\Q (di i) a
section
variable{X:Cx}{e:eA}{te:TE}{lo hi:Option eA}{tl th:TO}{pos p2:hB}
theorem rk:PO X d5 pe:=by intro a s b H Q I h;rw[evalPart_none];exact IK ⟨d5,H,I,.none,h⟩
theorem rj(h:PE X e te):PO X (di e) (Ew te):=by intro a s f H Q I d;rw[evalPart_some];refine ft (h a s f H _ I d) λu g z=>?_;obtain⟨x,b,J,O,U⟩:=z;obtain⟨i,rfl,q⟩:=U;obtain⟨t,rfl⟩:=O;exact⟨di i,b,J,.int i t,q⟩
noncomputable def O4(X:Cx)(r:V->Option Int->Option Int->Hp->VK->Prop):Prop:=
 ∀(a:RW) (s:eF) (d:St) (H:Hp) (x:V) (v z I:eh) (lo hi:Option Int) (b:eg) (Q:VK),Inv X a d H s->RelV x v->s.heap.IsSliceOf b z I .none->A8 z lo->A8 I hi->r x lo hi H Q->
  ∃T id,N0 (.type T) "__getitem__" = pure (di (.builtin id))/\s.TypeIs v T/\wpAny (e9 X.prog X.w) X.A (B5 v (.ref b)) (EP X a d Q) X.xe s
noncomputable def Ub(r:V->Option Int->Option Int->Hp->VK->Prop)(te:TE)(tl th:TO):TE:=λa H Q=>te a H λx b=>tl a b λl d=>th a d λu z=>r x l u z Q
theorem lj(Y:O4 X r)(C:PE X e te)(L:PO X lo tl)(S:PO X hi th):PE X (.Subscript e (.Slice lo hi d5 p2) pos) (Ub r te tl th):=by intro a s d H Q I h;refine R8 (ft (C a s d H _ I h) λv M o=>?_);obtain⟨x,f,i,K,E⟩:=o;refine wpAny_Slice (ft (L a M d f _ i E) λJ N ⟨l,g,j,y,F⟩=>ft (S a N d g _ j F) λO z ⟨u,U,k,B,G⟩=>?_);rw[evalPart_none];refine IK ?_;have m:Inv X a d U {z with heap:=z.heap.push {cls:= .type "slice",data:= .fields #[J,O,.none]}}:=k.kept (t':=z.toks) λb P q=>IB _ q;obtain⟨T,id,n,t,p⟩:=Y a {z with heap:=z.heap.push {cls:= .type "slice",data:= .fields #[J,O,.none]}} d U x v J O l u z.heap.objs.size Q m K (Heap.IsSliceOf.new ..) y B G;show wpAny (e9 X.prog X.w) X.A (SD e (.Slice lo hi d5 p2) v (.ref z.heap.objs.size)) (EP X a d Q) X.xe {z with heap:=z.heap.push {cls:= .type "slice",data:= .fields #[J,O,.none]}};exact tail_any (ops:=[.ref z.heap.objs.size,v]) t n p (by with_unfolding_all rfl)
noncomputable def sO(xs:List V)(lo hi:Option Int):List V:=(xs.drop<|HT.d8 xs.length 0 lo).take (HT.d8 xs.length xs.length hi - HT.d8 xs.length 0 lo)
theorem VO(xs:List V)(lo hi:Option Int):(sO xs lo hi).length<=xs.length:=by unfold sO;rw[Oa,List.length_drop];omega
noncomputable def HG(K:Iy):V->Option Int->Option Int->Hp->VK->Prop:=λx lo hi H Q=>∃a b,x = .ref a/\hG K H a b/\
 ¬(HT.d8 b.length 0 lo=0/\HT.d8 b.length b.length hi=b.length)/\∀p,H p=d5->Q (.ref p) (upd H p<|.tup<|sO b lo hi)
theorem uJ:O4 X (HG X.K):=by
 intro f s t H x v n p lo hi m Q I O U Y k h;obtain⟨a,d,rfl,j,i,q⟩:=h;cases O;obtain⟨g,r,J,e⟩:=I.tuple j;have z:g.toArray.size=d.length:=by rw[II];exact r.length.symm
 refine⟨"tuple",_,Mc.lookup,J.typeIs,?_⟩;refine HT.ba J U Y k (by rw[z];exact i) ?_ (by rw[z];exact e);rw[z];refine⟨.ref s.heap.objs.size,_,I.laid (t':=s.toks) (o:= .tup (sO d lo hi)) (λb l q=>IB _ q) (IH _) ?_,rfl,q _ (I.f9.fresh (IH _))⟩;exact⟨LN (VO d lo hi) e,_,(r.drop (HT.d8 d.length 0 lo)).take (HT.d8 d.length d.length hi - HT.d8 d.length 0 lo),xg.new _ _⟩
theorem fy.L3(r:fy xs us):us=[]↔xs=[]:=by
 cases r with
 | nil=>simp
 | cons _ _=>simp
end
noncomputable def DB(n:Nat)(i:Int):Option Nat:=if 0<=i then (if i<n then di i.toNat else d5)else if -(n:Int)<=i then di (i+n).toNat else d5
noncomputable def C9{C:Type}(xs:List C)(i:Int):Option C:=(DB xs.length i).bind λj=>xs[j]?
theorem eV(h:DB n i=di j):seqIndex? i n=di j/\j<n/\ -(n:Int)<=i/\i<n:=by
 unfold DB at h;by_cases z:0<=i
 ·rw[RY z]at h
  by_cases a:i<n
  ·rw[RY a]at h
   have e:i.toNat=j:=Lq h;exact⟨by rw[Sv z a,e],by omega,by omega,a⟩
  ·rw[EQ a]at h;cases h
 ·rw[EQ z]at h
  by_cases a : -(n:Int)<=i
  ·rw[RY a]at h
   have e:(i+n).toNat=j:=Lq h;exact⟨by rw[Su ⋯ a,e],by omega,a,by omega⟩
  ·rw[EQ a]at h;cases h
theorem VU(h:C9 xs i=di v) : ∃j,seqIndex? i xs.length=di j/\xs[j]? = di v/\j<xs.length/\ -(xs.length:Int)<=i/\i<xs.length:=by
 unfold C9 at h;cases e:DB xs.length i with
 | none=>rw[e]at h;cases h
 | some j=>
  rw[e]at h;obtain⟨a,b,z,I⟩:=eV e;exact⟨j,a,h,b,z,I⟩
noncomputable def VY(b:eA):Prop:=∀o i,RL b ed o i=operate [o,i] (B5 o i)
noncomputable def C7(X:Cx)(r:R2):Prop:=
 ∀(b z:eA) (a:RW) (s:eF) (d:St) (H:Hp) (x y:V) (v u:eh) (Q:VK),Inv X a d H s->RelV x v->RelV y u->r x y H Q->
  RL z ed v u=operate [v,u] (B5 v u)->wpAny (e9 X.prog X.w) X.A (SD b z v u) (EP X a d Q) X.xe s
noncomputable def N8(X:Cx)(id:String)(r:V->List V->Hp->VK->Prop):Prop:=
 ∀(a:RW) (s:eF) (e:St) (H:Hp) (x:V) (d:List V) (v:eh) (b:List eh) (Q:VK),Inv X a e H s->RelV x v->fy d b->r x d H Q->
  wpAny (e9 X.prog X.w) X.A (call (.builtin id) (v::b)) (EP X a e Q) X.xe s
section
variable{X:Cx}{a b:eA}{ta tb:TE}{pos:hB}
theorem C7.or(h:C7 X r)(h':C7 X r'):C7 X (λx y H Q=>r x y H Q\/r' x y H Q):=by
 intro a z b s d H x y v u Q I J O q U;rcases q with q | q
 ·exact h a z b s d H x y v u Q I J O q U
 ·exact h' a z b s d H x y v u Q I J O q U
theorem AO(z:C7 X r)(C:PE X a ta)(J:PE X b tb)(O:VY b):PE X (.Subscript a b pos) (F8 r ta tb):=by intro d s i H Q I h;exact R8<|FF C J I h λv u g x y e U Y f q=>z a b d g i e x y v u Q U Y f q<|O _ _
noncomputable def HK(K:Iy):R2:=λx y H Q=>∃p a i v,x = .ref p/\y = .int i/\gm K H p a/\C9 a i=di v/\Q v H
noncomputable def HI(K:Iy):R2:=λx y H Q=>∃p a i v,x = .ref p/\y = .int i/\hG K H p a/\C9 a i=di v/\Q v H
noncomputable def HJ:R2:=λx y H Q=>∃z i c,x = .str z/\y = .int i/\z.length<=f6/\C9 z.cps.toList i=di c/\Q (.str ⟨#[c]⟩) H
theorem TJ:C7 X (HK X.K):=by
 intro d L a s g H x y v u Q I E F h U;obtain⟨p,R,i,z,rfl,rfl,C,A,q⟩:=h;cases E;obtain⟨t,rfl⟩:=F;obtain⟨k,r,J,P⟩:=I.list C;obtain⟨j,b,m,M,n,o⟩:=VU A;obtain⟨w,Y,l⟩:=r.get m;have B:=r.length;have N:=Jl;have e:EP X a g Q w s:=⟨z,H,I,l,q⟩;by_cases f:0<=i
 ·have O:i.toNat=j:=by
   rw[Sv f o]at b;exact Lq b
  exact item_listR J.isList f ⋯ (by rw[O];simpa using Y) e U
 ·have O:(i+(k.toArray.size:Int)).toNat=j:=by
   rw[Su ⋯ n]at b;rw[II,<- B];exact Lq b
  exact T9 (x:=w) J.isList.typeIs slot_list_getitem.lookup
   (wpAny_getItem_list_neg (Q:=λr G=>r=w/\EP X a g Q r G) J.isList ⋯ (by rw[II]<;>omega) ⋯ (by rw[O];simpa using Y) ⟨rfl,e⟩) U
theorem Bw:C7 X (HI X.K):=by
 intro b B a s d H x y v u Q I O U h Y;obtain⟨p,N,i,z,rfl,rfl,o,m,q⟩:=h;cases O;obtain⟨t,rfl⟩:=U;obtain⟨C,r,J,M⟩:=I.tuple o;obtain⟨j,k,l,E,F,G⟩:=VU m;obtain⟨w,g,e⟩:=r.get l;have n:=r.length;have L:=Jl;have f:EP X a d Q w s:=⟨z,H,I,e,q⟩;exact T9 (x:=w) J.typeIs slot_tuple_getitem.lookup
  (getItem_tuple (j:=j) (Q:=λr A=>r=w/\EP X a d Q r A) J ⋯ ⋯ (by rw[II,<- n];exact k) (by simpa using g) ⟨rfl,f⟩) Y
theorem Bx:C7 X HJ:=by
 intro a n d s A H x y v u Q I J O h U;obtain⟨z,i,c,rfl,rfl,r,Y,q⟩:=h;obtain⟨t,rfl⟩:=J;obtain⟨w,rfl⟩:=O;obtain⟨j,b,g,o,k,l⟩:=VU Y;have m:z.cps.toList.length=z.length:=by simp[Str.length]
 rw[m]at b k l;have p:=Jl;exact tail_any (SN s z t) slot_str_getitem.lookup (getItem_str (c:=c) (by
  have e:decide (i < -(2 ^ 63:Int))=ed:=decide_eq_false ⋯;have f:decide (i>=2 ^ 63)=ed:=decide_eq_false ⋯;rw[e,f,Bool.or_false]) (by rw[b];simpa using g) ⟨.str ⟨#[c]⟩,H,I.tok _,⟨_,rfl⟩,q⟩) U
theorem aR(z:List eh)(n j:Nat)(u:eh):Lo (·.setIfInBounds j u) {cls:= .type "list",data:= .seq z.toArray n} = {cls:= .type "list",data:= .seq (z.set j u).toArray n}:=by simp[Lo]
theorem Inv.lst(I:Inv X pins σ H s)(h:H p=di (.lst xs)) :
 ∃(J:List eh) (n:Nat),fy xs J/\s.heap.get? p=di {cls:= .type "list",data:= .seq J.toArray n}/\xs.length<=f6:=by
 obtain⟨z,J,n,r,e⟩:=I.f9 p _ h;exact⟨J,n,r,e,z⟩
theorem Inv.TN{C:RW}{L:St}{H:Hp}{s:eF}{p:eg}{xs ys:List V}{z its':List eh}{n n':Nat}{f:nr->nr}(I:Inv X C L H s)(h:H p=di (.lst xs))
 (O:s.heap.get? p=di {cls:= .type "list",data:= .seq z.toArray n}) (J:f {cls:= .type "list",data:= .seq z.toArray n} = {cls:= .type "list",data:= .seq its'.toArray n'}) (r:fy ys its') (hz:ys.length<=f6) (t:Nat) :
 Inv X C L (upd H p<|.lst ys) {s with heap:=s.heap.update p f,toks:=t}:=by
 have e:(s.heap.update p f).get? p=di {cls:= .type "list",data:= .seq its'.toArray n'}:=by rw[OX f O (by rw[J]<;>rfl),J]
 refine I.write (x:=p) (e:=p) (by rw[h];trivial) (.inl rfl) (λb u U q=>(LZ _ _<|Ll U).trans q) ⟨_,e⟩ ?_;exact⟨hz,its',n',r,e⟩
noncomputable def EO:V->V->V->Hp->(Hp->Prop)->Prop:=λo i v H Q=>∃p a k j,o = .ref p/\i = .int k/\H p=di (.lst a)/\DB a.length k=di j/\Q (upd H p<|.lst<|a.set j v)
theorem Wh:Hg X EO:=by
 intro a s B H o i v G F u Q I x w y h;obtain⟨p,A,k,j,rfl,rfl,U,l,q⟩:=h;cases x;obtain⟨t,rfl⟩:=w;obtain⟨Y,n,r,z,m⟩:=I.lst U;obtain⟨b,C,f,g⟩:=eV l;have J:=r.length;have E:=Jl;have d:Inv X a B (upd H p<|.lst<|A.set j v) {s with heap:=s.heap.update p (Lo (·.setIfInBounds j u))}:=
  I.TN U z (aR Y n j u) (r.set y j) (by rw[List.length_set];exact m) s.toks
 by_cases e:0<=k
 ·have O:k.toNat=j:=by
   rw[Sv e g]at b;exact Lq b
  exact PySem.W.ki_setAt z e ⋯ (by rw[II,<- J];exact g) (by rw[O];exact⟨_,d,q⟩)
 ·have O:(k+(Y.toArray.size:Int)).toNat=j:=by
   rw[Su ⋯ f]at b;rw[II,<- J];exact Lq b
  exact PySem.W.ki_setBack z ⋯ (by rw[II,<- J];exact f) ⋯ (by rw[O];exact⟨_,d,q⟩)
noncomputable def X0:V->Bool
 | .el=>dn
 | .bl _=>dn
 | .int _=>dn
 | .str _=>dn
 | _=>ed
noncomputable def B4:V->V->Bool
 | .el,.el=>dn
 | .bl a,.bl b=>a==b
 | .bl a,.int b=>(if a then 1 else 0)==b
 | .int a,.bl b=>a==(if b then 1 else 0)
 | .int a,.int b=>a==b
 | .str a,.str b=>a==b
 | _,_=>ed
theorem BH(I:RelV y u)(z:RelV x v)(O:X0 y=dn)(J:X0 x=dn):LQ A s u v (B4 y x):=by
 cases y with
 | el=>
  cases I;cases x with
  | el=>cases z;exact LQ.same _
  | bl b=>cases z;exact LQ.none_bool b
  | int b=>obtain⟨t,rfl⟩:=z;exact LQ.none_int b t
  | str b=>obtain⟨t,rfl⟩:=z;exact LQ.none_str b t
  | _=>exact absurd (show ed=dn from J) Lj
 | bl a=>
  cases I;cases x with
  | el=>cases z;exact LQ.bool_none a
  | bl b=>cases z;exact LQ.bool_bool a b
  | int b=>obtain⟨t,rfl⟩:=z;exact LQ.bool_int a b t
  | str b=>obtain⟨t,rfl⟩:=z;exact LQ.bool_str a b t
  | _=>exact absurd (show ed=dn from J) Lj
 | int a=>
  obtain⟨d,rfl⟩:=I;cases x with
  | el=>cases z;exact LQ.int_none a d
  | bl b=>cases z;exact LQ.int_bool a d b
  | int b=>obtain⟨t,rfl⟩:=z;exact Ny a d b t
  | str b=>obtain⟨t,rfl⟩:=z;exact LQ.int_str a d b t
  | _=>exact absurd (show ed=dn from J) Lj
 | str a=>
  obtain⟨d,rfl⟩:=I;cases x with
  | el=>cases z;exact LQ.str_none a d
  | bl b=>cases z;exact LQ.str_bool a d b
  | int b=>obtain⟨t,rfl⟩:=z;exact LQ.str_int a d b t
  | str b=>obtain⟨t,rfl⟩:=z;exact LQ.str_str a d b t
  | _=>exact absurd (show ed=dn from J) Lj
 | _=>exact absurd (show ed=dn from O) Lj
noncomputable def q7(x:V)(u:eh):Bool:=match u with
 | .none=>B4 .el x
 | .bool b=>B4 (.bl b) x
 | .int i _=>B4 (.int i) x
 | .str z _=>B4 (.str z) x
 | _=>ed
theorem oi(r:RelV y u)(f:X0 y=dn):q7 x u=B4 y x:=by
 cases y with
 | el=>cases r;rfl
 | bl b=>cases r;rfl
 | int i=>obtain⟨t,rfl⟩:=r;rfl
 | str z=>obtain⟨t,rfl⟩:=r;rfl
 | _=>exact absurd (show ed=dn from f) Lj
theorem JO : ∀{xs:List V} {us:List eh},fy xs us->xs.all X0=dn->us.any (q7 x)=xs.any λy=>B4 y x
 | _,_,.nil,_=>rfl
 | y::xs,u::us,.cons r t,f=>by rw[List.all_cons,IS]at f;rw[OP,OP,oi r f.1,JO t f.2]
theorem vN(I:RelV x v)(J:X0 x=dn) : ∀{xs:List V} {us:List eh},fy xs us->xs.all X0=dn->∀u∈us,LQ A s u v (q7 x u)
 | _,_,.nil,_=>λu z=>by cases z
 | y::xs,u::us,.cons r t,f=>λO z=>by
  rw[List.all_cons,IS]at f;rcases iU.mp z with rfl | z
  ·rw[oi r f.1];exact BH r I f.1 J
  ·exact vN I J t f.2 O z
noncomputable def I7(x:V)(xs:List V):Bool:=xs.any λy=>B4 y x
noncomputable def Ss(K:Iy)(z:Bool):R2:=λx y H Q=>∃p a,y = .ref p/\(gm K H p a\/hG K H p a)/\X0 x=dn/\a.all X0=dn/\Q (.bl<|if z then !I7 x a else I7 x a) H
theorem dE:ix X (l7 .In) (Ss X.K ed):=by
 intro b s g H x y v u Q I U e h;obtain⟨p,f,rfl,z,Y,fs,q⟩:=h;cases e;rcases z with z | z
 ·obtain⟨J,r,O,d⟩:=I.list z
  refine SeqAt.in_listAt (q7 x) O.isList (λw a=>vN U Y r fs w<|by simpa using a) ⟨.bl _,H,I,rfl,?_⟩;rw[show J.toArray.any (q7 x)=J.any (q7 x)by simp,JO r fs];exact q
 ·obtain⟨J,r,O,d⟩:=I.tuple z
  refine SeqAt.in_tupleAt (q7 x) O (λw a=>vN U Y r fs w<|by simpa using a) ⟨.bl _,H,I,rfl,?_⟩;rw[show J.toArray.any (q7 x)=J.any (q7 x)by simp,JO r fs];exact q
theorem K7:ix X (l7 .NotIn) (Ss X.K dn):=by
 intro b s g H x y v u Q I U e h;obtain⟨p,f,rfl,z,Y,fs,q⟩:=h;cases e;rcases z with z | z
 ·obtain⟨J,r,O,d⟩:=I.list z
  refine SeqAt.notIn_listAt (q7 x) O.isList (λw a=>vN U Y r fs w<|by simpa using a) ⟨.bl _,H,I,rfl,?_⟩;rw[show J.toArray.any (q7 x)=J.any (q7 x)by simp,JO r fs];exact q
 ·obtain⟨J,r,O,d⟩:=I.tuple z
  refine SeqAt.notIn_tupleAt (q7 x) O (λw a=>vN U Y r fs w<|by simpa using a) ⟨.bl _,H,I,rfl,?_⟩;rw[show J.toArray.any (q7 x)=J.any (q7 x)by simp,JO r fs];exact q
theorem YJ:Zj X (.builtin "len") (λxs H Q=>∃p ys,xs=[.ref p]/\(gm X.K H p ys\/hG X.K H p ys)/\Q (.int ys.length) H):=by
 intro b s g H xs f Q I r h;obtain⟨p,ys,rfl,z,q⟩:=h;obtain⟨u,rfl,U⟩:=yq r;cases U;have e:=Jl;rcases z with z | z
 ·obtain⟨Y,a,J,d⟩:=I.list z
  have O:=a.length;exact Calls.call_len_list J.isList (by simp only[II]<;>omega) ⟨.int ys.length,H,I.tok _,⟨s.toks+1,by rw[II,O]⟩,q⟩
 ·obtain⟨Y,a,J,d⟩:=I.tuple z
  have O:=a.length;exact len_tuple J (by simp only[II]<;>omega) ⟨.int ys.length,H,I.tok _,⟨s.toks+1,by rw[II,O]⟩,q⟩
theorem YI:Zj X (.builtin "len") (λxs H Q=>∃z,xs=[.str z]/\z.length<=f6/\Q (.int z.length) H):=by intro a s f H xs e Q I r h;obtain⟨z,rfl,d,q⟩:=h;obtain⟨u,rfl,t,rfl⟩:=yq r;have b:=Jl;exact len_str ⋯ ⟨.int z.length,H,I.tok _,⟨_,rfl⟩,q⟩
theorem YH:Zj X (.type "list") (λxs H Q=>∃p ys,xs=[.ref p]/\(gm X.K H p ys\/hG X.K H p ys)/\∀l,H l=d5->Q (.ref l) (upd H l (.lst ys))):=by
 intro i s A H xs B Q I r h;obtain⟨p,ys,rfl,O,q⟩:=h;obtain⟨u,rfl,y⟩:=yq r;cases y;have m : ∀(z:List eh),fy ys z->ys.length<=f6->∀(a:f7) (J:Nat),(∀b t,s.heap.get? b=di t->a.get? b=di t)->
  a.get? s.heap.objs.size=di {cls:= .type "list",dict:=d5,data:= .seq z.toArray J,slots:=#[]}->EP X i A Q (.ref s.heap.objs.size) {s with heap:=a}:=λz d f a J g e=>
  ⟨.ref s.heap.objs.size,_,I.laid (t':=s.toks) g (IH _) (show la X.prog X.w _ a _ (.lst ys)from⟨f,z,J,d,e⟩),rfl,q _<|I.f9.fresh<|IH _⟩
 rcases O with O | O
 ·obtain⟨z,d,U,f⟩:=I.list O
  have x:=d.length;obtain⟨o,Y,j,n,k⟩:=U.isList;exact call_list_seq p (.inl rfl) Y j k (λa J g e=>m z d f a J g e) (by simp only[II]<;>omega)
 ·obtain⟨z,d,U,f⟩:=I.tuple O
  have x:=d.length;obtain⟨o,Y,j,n,k⟩:=U;exact call_list_seq p (.inr rfl) Y j k (λa J g e=>m z d f a J g e) (by simp only[II]<;>omega)
theorem Kb:Zj X (.type "tuple") (λxs H Q=>∃p ys,xs=[.ref p]/\((gm X.K H p ys/\∀l,H l=d5->Q (.ref l) (upd H l (.tup ys)))\/(hG X.K H p ys/\Q (.ref p) H))):=by
 intro a s i H xs n Q I r h;obtain⟨p,ys,rfl,h⟩:=h;obtain⟨u,rfl,Y⟩:=yq r;cases Y;rcases h with⟨z,q⟩ | ⟨z,q⟩
 ·obtain⟨J,f,O,g⟩:=I.list z
  have m:=f.length;refine call_tuple_list O.isList (λd k=>?_) (by simp only[II]<;>omega);have U:Inv X a i H {s with heap:=d}:=I.kept (t':=s.toks) k;have j:Inv X a i (upd H d.objs.size (.tup ys)) {s with heap:=d.push {cls:= .type "tuple",data:= .seq J.toArray}}:=
   U.laid (t':=s.toks) (λb o e=>IB _ e) (IH _) (show la X.prog X.w _ _ _ (.tup ys)from⟨g,J,f,xg.new _ _⟩)
  exact⟨.ref d.objs.size,_,j,rfl,q _<|U.f9.fresh<|IH _⟩
 ·obtain⟨J,f,O,g⟩:=I.tuple z
  exact call_tuple_same O ⟨.ref p,H,I,rfl,q⟩
noncomputable def SM(K:Iy)(T:String)(x:V)(H:Hp):Prop:=match x with
 | .str _=>T = "str"
 | .int _=>T = "int"
 | .ref p=>(T = "list"/\∃b,gm K H p b)\/(T = "tuple"/\∃o,K.lookup p=di o/\o.cls = .type "tuple"/\o.dict=d5)\/
  (T = "dict"/\((∃a,H p=di (.dK a))\/∃a,H p=di (.dT a)))\/(T = "set"/\∃S n,H p=di (.set S n))
 | _=>False
theorem uo(I:Inv X pins σ H s)(r:RelV x v)(ty:SM X.K T x H) :
 s.TypeIs v T/\∀a,v = .ref a->∃U,s.heap.get? a=di U/\U.dict=d5:=by
 cases x with
 | str z=>
  obtain⟨t,rfl⟩:=r;cases (show T = "str" from ty);exact⟨SN s z t,λ_ e=>nomatch e⟩
 | int i=>
  obtain⟨t,rfl⟩:=r;cases (show T = "int" from ty);exact⟨Rj s i t,λ_ e=>nomatch e⟩
 | ref p=>
  cases r;rcases ty with⟨rfl,k,h⟩ | ⟨rfl,o,J,g,d⟩ | ⟨rfl,J⟩ | ⟨rfl,S,n,J⟩
  ·obtain⟨j,_,Y,_⟩:=I.list h
   refine⟨Y.isList.typeIs,λa e=>?_⟩;cases e;obtain⟨o,n,e,c,d,_⟩:=Y;exact⟨o,e,d⟩
  ·refine⟨⟨o,I.m1 p o J,g⟩,λa e=>?_⟩
   cases e;exact⟨o,I.m1 _ o J,d⟩
  ·have z : ∃o,s.heap.get? p=di o/\o.ExactDict:=by
    rcases J with⟨f,J⟩ | ⟨f,J⟩
    ·obtain⟨_,_,_,_,o,_,_,e,b,_⟩:=I.f9 p _ J
     exact⟨o,e,b⟩
    ·obtain⟨_,_,_,_,o,_,_,e,b,_⟩:=I.f9 p _ J
     exact⟨o,e,b⟩
   obtain⟨o,e,b⟩:=z;refine⟨⟨o,e,b.1⟩,λa O=>?_⟩;cases O;exact⟨o,e,b.2.1⟩
  ·obtain⟨o,_,_,_,e,b,_⟩:=I.f9 p _ J
   refine⟨⟨o,e,b.1⟩,λa O=>?_⟩;cases O;exact⟨o,e,b.2.1⟩
 | _=>exact MP ty
noncomputable def SE(K:Iy)(T:String)(r:V->List V->Hp->VK->Prop)(to:TE)(t:TA):TE:=λb H Q=>to b H λx a=>SM K T x a/\t b a λe d=>r x e d Q
variable{o e:eA}{es:List eA}{to:TE}{t:TA}{name:Str}{apos cpos:hB}{T id:String}{r:V->List V->Hp->VK->Prop}
theorem dA(U:PlainAttrs T)(C:Slot T name id)(Y:typeOf (.builtin id)=pure (.type "method_descriptor"))(hm:N8 X id r)(ho:PE X o to)(ha:PA X (e::es) t)
 (L:En o name X.env (fh o X.env)=fh o X.env:=by rfl)
 (S:((p5 cpos<|starEach (e::es) X.env).all (λx=> !x.1) && (E1 cpos<|keywordEach [] X.env).all (λx=>x.1.isSome)
   && decide ((e::es).length+([]:List u4).length+(if ([]:List u4).isEmpty then 0 else 1)<30))=dn:=by rfl)
 (Z:(apos.endLine==cpos.line)=dn:=by rfl) (hs:gv (e::es) X.env=(ed,fh e X.env)::gv es X.env:=by rfl) (a5:(p5 cpos<|starEach es X.env).any (·.1)=ed:=by rfl) :
 PE X (.Call (.Attribute o name apos) (e::es) [] cpos) (SE X.K T r to t):=by
 intro a s b H Q I h;refine wpAny_Call_method_late L S Z rfl<|ft (ho a s b H _ I h) λv p k=>?_;obtain⟨x,d,z,J,ty,l⟩:=k;obtain⟨i,j⟩:=uo z J ty;refine⟨T,id,U,C,Y,i,j,?_⟩;have O:=ha cpos a p b d _ z l;rw[hs]at O ⊢;refine Calls.callWith_builtin (by show(ed || (p5 cpos<|starEach es X.env).any (·.1))=ed;rw[a5]<;>rfl)<|Calls.evalArgs_plain ?_;exact ft O λw u ⟨y,f,g,n,m⟩=>hm a u b f x y v w Q g J n m
end
noncomputable def N7(X:Cx)(id:String)(r:V->List V->Hp->VK->Prop):Prop:=
 ∀(a:RW) (s:eF) (e:St) (H:Hp) (x:V) (d:List V) (v:eh) (b:List eh) (Q:VK),Inv X a e H s->RelV x v->fy d b->r x d H Q->
  wpAny (e9 X.prog X.w) X.A (call (.builtin id) (v::b)) (EP X a e Q) X.xe s
theorem fy.one : ∀{x:V} {us:List eh},fy [x] us->∃u,us=[u]/\RelV x u
 | _,_,.cons r .nil=>⟨_,rfl,r⟩
theorem fy.dropLast(h:fy xs us):fy xs.dropLast us.dropLast:=by
 induction h with
 | nil=>exact .nil
 | cons r t z=>
  cases t with
  | nil=>exact .nil
  | cons q a=>exact .cons r z
theorem fy.rep(h:fy xs us) : ∀k:Nat,fy (IE k xs).flatten (IE k us).flatten
 | 0=> .nil
 | k+1=>by rw[MC,MC,Nn,Nn];exact fy.append h<|fy.rep h k
theorem Jx(z:List eh) : ∀(k:Nat) (acc:List eh),
 PM (λx1 I=>x1++I) acc.toArray (IE k z.toArray)=(acc++(IE k z).flatten).toArray
 | 0,acc=>by simp
 | k+1,acc=>by
  have e:acc.toArray++z.toArray=(acc++z).toArray:=by simp
  have J:(acc++z)++(IE k z).flatten=acc++(IE (k+1) z).flatten:=by rw[MC,Nn,List.append_assoc]
  rw[<- J,<- Jx z k (acc++z),<- e,MC,List.foldl_cons]
section
variable{X:Cx}{pins:RW}{σ:St}{H:Hp}{s:eF}{l b:eg}{xs ys zs:List V}
theorem Inv.L1{z its':List eh}{n:Nat}{f:Array eh->Array eh}{t':Nat}(I:Inv X pins σ H s)(J:H l=di (.lst xs))
 (e:s.heap.get? l=di {cls:= .type "list",data:= .seq z.toArray n}) (O:f z.toArray=its'.toArray) (U:fy ys its') (hz:ys.length<=f6) :
 Inv X pins σ (upd H l<|.lst ys) {s with heap:=s.heap.update l<|Lo f,toks:=t'}:=by
 have q:=PySem.IsL.update e f;rw[O]at q;refine I.write (x:=l) (e:=l) (by rw[J];exact trivial) (.inl rfl) (λb u Y a=>(LZ s.heap (Lo f)<|Ll Y).trans a) ⟨_,q⟩ ?_;exact⟨hz,its',_,U,q⟩
theorem Inv.Sn(I:Inv X pins σ H s)(J:fy ys z)(hz:ys.length<=f6) :
 Inv X pins σ (upd H s.heap.objs.size (.lst ys)) {s with heap:=s.heap.push {cls:= .type "list",data:= .seq z.toArray},toks:=t'}:=
 I.laid (λ_ _ q=>IB _ q) (IH _) ⟨hz,z,0,J,IV _ rfl⟩
theorem Inv.fresh(I:Inv X pins σ H s):H s.heap.objs.size=d5:=I.f9.fresh<|IH _
theorem Inv.B8(I:Inv X pins σ H s)(O:H l=di (.lst xs)):xs.length<=f6/\∃(J:List eh) (n:Nat),fy xs J/\xs.length=J.length/\s.heap.get? l=di {cls:= .type "list",data:= .seq J.toArray n}:=by obtain⟨z,J,n,r,e⟩:=I.f9 l _ O;exact⟨z,J,n,r,r.length,e⟩
theorem WE(h:n<=f6):Nm n=ed:=by unfold Nm;exact decide_eq_false ⋯
end
section
variable{X:Cx}
noncomputable def cN:V->List V->Hp->VK->Prop:=λx b H Q=>∃l a y,x = .ref l/\b=[y]/\H l=di (.lst a)/\a.length<f6/\Q .el (upd H l<|.lst<|a++[y])
theorem ez:N7 X "list.append" cN:=by intro a s k H x i v g Q I U Y h;obtain⟨l,j,y,rfl,rfl,J,f,q⟩:=h;cases U;obtain⟨u,rfl,b⟩:=Y.one;obtain⟨z,O,n,r,d,e⟩:=I.B8 J;refine Nd F.slot_list_append ⟨_,e,rfl⟩ F.entry_list_append (F.args_list_append_2 _ _) (PySem.list_append l O.toArray n u (by rw[II];omega)) ⟨e,?_⟩;refine⟨.el,_,I.L1 (its':=O++[u]) J e ⋯ (r.append (.cons b .nil)) ?_,rfl,q⟩;rw[LJ,Nh];omega
noncomputable def pQ:V->List V->Hp->VK->Prop:=λx e H Q=>∃l b a d,x = .ref l/\e=[.ref b]/\H l=di (.lst a)/\H b=di (.lst d)/\a.length+d.length<=f6/\Q .el (upd H l<|.lst<|a++d)
theorem dY:N7 X "list.extend" pQ:=by
 intro d s G H x A v y Q I Y o h;obtain⟨l,b,B,E,rfl,rfl,U,i,w,q⟩:=h;cases Y;obtain⟨u,rfl,m⟩:=o.one;cases m;obtain⟨z,J,n,r,t,e⟩:=I.B8 U;obtain⟨C,O,j,k,p,g⟩:=I.B8 i;have a:J.toArray.size+O.toArray.size<=f6:=by rw[II,II];omega
 have f : ¬(!J.toArray.isEmpty && Nm (J.toArray.size+O.toArray.size))=dn:=by rw[WE a,Bool.and_false];exact Lj
 refine Nd F.slot_list_extend ⟨_,e,rfl⟩ F.entry_list_extend (F.args_list_extend_2 _ _)
  (AutoSeq1.list_extend_list_list_0 l J.toArray n b O.toArray j f (by rw[II];omega) ⋯) ⟨e,g,?_⟩
 refine⟨.el,_,I.L1 (its':=J++O) U e ⋯ (r.append k) ?_,rfl,q⟩;rw[LJ];omega
noncomputable def HH:R2:=λx y H Q=>∃l k a,x = .ref l/\y = .int k/\H l=di (.lst a)/\ -(2 ^ 63)<=k/\k<2 ^ 63/\a.length*k.toNat<=f6/\
 ∀p,H p=d5->Q (.ref p) (upd H p<|.lst (IE k.toNat a).flatten)
theorem Vx(xs:List α)(k:Nat):(IE k xs).flatten.length=k*xs.length:=by
 induction k with
 | zero=>simp
 | succ k z=>rw[MC,Nn,LJ,z,Nat.succ_mul,Nat.add_comm]
theorem AX:ix X (t5 .Mult) HH:=by
 intro d s M H x y v u Q I Y E h;obtain⟨l,k,L,rfl,rfl,B,w,A,b,q⟩:=h;cases Y;obtain⟨t,rfl⟩:=E;obtain⟨z,J,n,r,C,e⟩:=I.B8 B;have f:J.toArray.size*k.toNat<=f6:=by rw[II,<- C];exact b
 have g : ¬J.toArray.size*k.toNat>(2 ^ 63 - 1)/8:=by
  have:(f6:Nat)<=(2 ^ 63 - 1)/8:=by decide
  omega
 have i : ¬(!Builtin.List.listFitsIndex k)=dn:=by rw[fitsIndex_both w A];exact Lj
 have j : ¬Nm (J.toArray.size*k.toNat)=dn:=by rw[WE f];exact Lj
 have o:PM (λx1 O=>x1++O) #[] (IE (if J.toArray.isEmpty=dn then 0 else k.toNat) J.toArray)=(IE k.toNat J).flatten.toArray:=by
  have p : ∀m:Nat,PM (λx1 O=>x1++O) #[] (IE m J.toArray)=(IE m J).flatten.toArray:=λm=>by have:=Jx J m [];rw[Oi]at this;exact this
  rw[p];cases J with
  | nil=>simp
  | cons a K=>rw[EQ ⋯]
 refine Uh (T:="list") (U:="int") ⋯ ⟨_,e,rfl⟩ (λG=>Rj G k t) noFill_list_mul F.fills_int_mul Ph repeat_list F.slot_int_index.lookup
  (Nd Ph (Rj s k t) F.entry_int_rmul (F.args_int_rmul_2 _ _) (int___rmul___int_list k t l J.toArray n)
    ⟨e,rfl,⟨_,e,rfl⟩,Nd F.slot_list_mul ⟨_,e,rfl⟩ F.entry_list_mul (F.args_list_mul_2 _ _) (AutoListH.list___mul___list_int_3 l J.toArray n k t i g j) ⟨e,?_⟩⟩)
 rw[o];exact⟨.ref _,_,I.Sn (t':=s.toks) (r.rep k.toNat) (by rw[Vx,Pb];exact b),rfl,q _ I.fresh⟩
end
end L2
namespace Att
open PySem PySem.W PySem.Calls PyProof.Rows
theorem Jo : ∀(C:List Int) (vs:List eh),WellAll P h vs (C.map WData.int)->G9 vs C:=by
 intro C
 induction C with
 | nil=>
  intro vs w;rw[OW]at w;cases w;exact .nil
 | cons n C z=>
  intro vs w;rw[Ld]at w;cases w with
  | cons a b=>
   cases a;exact .cons _ _<|z _ b
theorem cx{l:OpenLaw}{n:Nat}(L:l.most=di n){P:Params}{h:f7}{args:List WData}{J:List eh}
 (O:l.row.toRowW.claim.pre args=dn) (Y:WellAll P h J args) :
 ∃a vs C,J=[Mm a]/\args=[WData.list (C.map WData.int)]/\h.get? a=di {cls:= .type "list",data:= .seq vs.toArray}/\G9 vs C/\C.length<=n:=by
 have b:WShape.hasAll [] args [.list .int]=dn:=(pre_splitW O).1;have U:l.pre.holds [] {args:=args}=dn:=(pre_splitW O).2;obtain⟨d,r,rfl,g,i⟩:=hasAllW_cons b;obtain rfl:=hasAllW_nil i;obtain⟨s,rfl,j⟩:=hasW_list g;obtain⟨C,rfl⟩:=items_int j;have e:C.length<=n:=by
  unfold OpenLaw.pre at U;have z:(WTm.not<|.lt (.lit<|.int (n:Int))<|.len<|.arg 0).holds [] {args:=[.list (C.map .int)]}=dn:=by have z:=(holds_andW U).1;rw[L]at z;exact z
  have I:=condW_of z<|w_not<|w_lt w_lit<|w_len_list<|w_arg rfl;rw[IU]at I;refine Nat.le_of_not_lt λq=>?_;have m:(n:Int)<((C.length:Nat):Int):=by omega
  first
   | (rw[decide_eq_true m]at I;exact absurd I ⋯)
   | (simp at I;omega)
 cases Y with
 | cons o p=>
  cases p;cases o with
  | list k f=>exact⟨_,_,C,rfl,rfl,k,Jo C _ f,e⟩
theorem cX(l:OpenLaw)(args:List WData):l.row.toRowW.claim.post args (.bool dn) args=dn:=
 postW_of (r:=l.row.toRowW) (X:=(dn==dn))
  (show WShape.has [] (.bool dn) .bool=dn by first | rfl | decide | simp[WShape.has,WShape.arms,WShape.armsAll])
  (show(WTm.eq .res<|.lit<|.bool dn).value [] {args:=args,res:=di (.bool dn),after:=args}=di (.bool<|true==dn)from w_eq_bool (w_res rfl) w_lit) rfl
theorem tu{l:OpenLaw}{n:Nat}{q:i3}{J:List Str}{O:(Str->Option eh)->f7->Prop}{U:h8->f7->Prop}{d:DefRec}
 (hn:l.most=di n) (a1:d.params.defaults=[])
 (call : ∀(w:h8) (m8 z:eF) (S mb:RJ) (L:eg) (o:nr) (pm I C:eh) (a:eg) (vs:List eh) (Z:List Int),
   Ground q J [] O w m8 S mb z.heap->U w z.heap->
   z.heap.get? L=di o->o.data = .func (docDef d.name d.params d.body d.scope pm I C)->z.heap.CodeRec I d.name->S d.name=di (.ref L)->
   z.heap.get? a=di {cls:= .type "list",data:= .seq vs.toArray}->G9 vs Z->Z.length<=n->z.gens = #[]->
   codeAny (e9 l.prog w) Dx (.call (.ref L) ⟨[.ref a],[]⟩) (λr s'=>r = .ok (.ret<|.bool dn)/\OldK z.heap s'.heap/\s'.os=z.os/\C5 s'.gens) z) :
 WalkO q J O U l.row.toRowW d [] (λf vs=>PySem.call f vs):=by
 intro w m8 z S mb G Y L o pm I C s kV E y g e h A b H as i K M j N;obtain rfl:s = .none:=Dflts.none e a1;obtain rfl:kV = .none:=Dflts.noKw e;obtain⟨a,vs,Z,rfl,rfl,k,m,p⟩:=cx hn i j;refine enter_call<|Pp (call w m8 z S mb L o pm I C a vs Z G Y E (fd_plain y) g h k m p A) λr s' F=>?_;obtain⟨rfl,t,u,x⟩:=F;exact⟨.inl ⟨.bool dn,.bool dn,[],rfl,λ_=>rfl,.bool dn,cX l _,λ_=>⟨Np.nil,λ_ B=>(nomatch B)⟩⟩,t,u,x⟩
end Att
namespace L2
open PySem PySem.Spec PyProof.Rows
theorem vx : ∀{vs:List eh} {C:List Int},G9 vs C->fy (C.map V.int) vs
 | _,_,.nil=> .nil
 | _,_,.cons n t h=> .cons ⟨t,rfl⟩ (vx h)
noncomputable def Eo(H:Hp):Prop:=∀b,H b=d5\/∃o a,H b=di (.rq o<|.lst a)
theorem ma{P:i3}{w:h8}{K:Iy}{L mb:RJ}{CX:s8}{k:Nat}{fa a:eg}{fd:pk}{x:Str}{sp:Sp}{I:eF}{vs:List eh}{S:List Int}
 (KX:K.In I.heap) (a2:I.heap.Ns vu L) (J:I.heap.Ns Sa mb) (a9 : ∀x:Str,x ≠ "__name__"->mb x=Dc x) (ac:I.heap.NoLimit) (hg:I.gens = #[])
 (Z:I.heap.get? a=di {cls:= .type "list",data:= .seq vs.toArray}) (hi:G9 vs S) (hl:S.length<=f6) (hr:m3 k Dx)
 (F : ∀base:f7,K.In base->base.Ns vu L->pf P w K L base CX k fa fd [x] sp) (an : ∀(s:eF) (u:eh),G6 s fd ⟨[u],[]⟩ [(x,u)])
 (ap : ∀H:Hp,Eo H->gm K H a (S.map V.int)->sp [.ref a] H (λv _=>v = .bl dn) λ_ _ _=>False)
 (as : ∀H e C,CX [] H I (λ_ _ _=>False) e C->False) :
 codeAny (e9 P w) Dx (.call (.ref fa) ⟨[.ref a],[]⟩) (λr C=>r = .ok (.ret<|.bool dn)/\OldK I.heap C.heap/\C.os=I.os/\C5 C.gens) I:=by
 have E:=vx hi;have G:=hi.length;have p : ∀H:Hp,Eo H->gm K H a (S.map V.int)->lC P w H I.heap->(∀b,H b≠d5->b=a)->(H a≠d5->K.lookup a=d5)->
  codeAny (e9 P w) Dx (.call (.ref fa) ⟨[.ref a],[]⟩) (λr C=>r = .ok (.ret<|.bool dn)/\OldK I.heap C.heap/\C.os=I.os/\C5 C.gens) I:=by
  intro H B hS j A hK;have f : ∀{b:eg} {o:nr},I.heap.get? b=di o->H b=d5->(mB I.heap H).get? b=di o:=λe n=>mz e n;have b6 : ∀{b:eg} {o:nr} {i:Array DictEntry} {O:Nat},I.heap.get? b=di o->o.data = .dict i O->H b=d5:=λ{b o i O} e d=>by
   cases q:H b with
   | none=>rfl
   | some u=>
    have l:b=a:=A b (by rw[q];simp);subst l;rw[Z]at e;cases e;have N:Data.seq vs.toArray _=Data.dict i O:=d;cases N
  have Y : ∀{b:eg} {m:RJ},I.heap.Ns b m->(mB I.heap H).Ns b m:=λ{b m} ⟨o,i,O,e,d,r⟩=>⟨o,i,O,f e<|b6 e d,d,r⟩;have t:K.In (mB I.heap H):=λb o e=>f (KX b o e) (by
   cases q:H b with
   | none=>rfl
   | some u=>
    have l:b=a:=A b (by rw[q];simp);subst l;rw[hK (by rw[q];simp)]at e;cases e)
  have hM:Mod K L (mB I.heap H):=⟨t,Y a2,⟨mb,Y J,a9⟩,let ⟨mc,W,X⟩:=ac;⟨mc,Y W,X⟩⟩;have Q:A7 P w K L (mB I.heap H) Dx [] I H:=⟨rfl,hM,λb o e=>rP e,Nat.le_of_eq<|eZ _ _,trivial,λb J=>absurd (show b∈([]:List eg)from J) ⋯,j,.of_eq hg⟩;refine Pp ((F _ t<|Y a2).run Dx [] I H ⟨[.ref a],[]⟩ [.ref a] [.ref a] _ _ hr Q (an I<|.ref a) (.cons rfl .nil) (ap H B hS)) λr C h=>?_;cases r with
  | error e=>exact(as H e C h).elim
  | ok T=>
   cases T with
   | next=>exact MP h
   | brk=>exact MP h
   | cont=>exact MP h
   | ret u=>
    obtain⟨v,H',os,g,un,M,r',q⟩:=h;have q':v = .bl dn:=q;subst q';obtain rfl:u=Value.bool dn:=r';refine⟨rfl,OldK.of_keep λb o e=>?_,os,g⟩;cases q:H b with
    | none=>exact un.keep b o e q (by intro z;exact absurd (show b∈([]:List eg)from z) ⋯) ⋯
    | some u=>
     rcases B b with z | ⟨ob,xs,z⟩
     ·rw[q]at z;cases z
     ·have z2:=un.Dg b ob _ z
      obtain⟨y,_⟩:=j b _ z;obtain⟨R,_⟩:=M b _ z2;rw[e]at y;cases y;exact R
 cases hk:K.lookup a with
 | some o=>
  have e:=KX a o hk;rw[Z]at e;cases e;refine p (λ_=>d5) (λ_=> .inl rfl) (.inr ⟨_,vs.toArray,_,hk,rfl,rfl,rfl,by rw[II,G];exact hl,by simpa using E⟩) (λb u z=>by have U:(d5:Option HO)=di u:=z;cases U) (λb z=>absurd rfl z) λz=>absurd rfl z
 | none=>
  refine p (λb=>if b=a then di (.rq {cls:= .type "list",data:= .seq vs.toArray} (.lst (S.map V.int)))else d5) (λb=>?_) (.inl (.inr ⟨{cls:= .type "list",data:= .seq vs.toArray},RY rfl⟩)) (λb u z=>?_) (λb z=>?_) λ_=>hk
  ·by_cases J:b=a
   ·exact .inr ⟨_,_,RY J⟩
   ·exact .inl<|EQ J
  ·by_cases J:b=a
   ·have U:=(RY J).symm.trans z
    cases U;subst J;exact⟨Z,by rw[IU];exact hl,vs,_,E,Z⟩
   ·have U:=(EQ J).symm.trans z
    cases U
  ·by_cases J:b=a
   ·exact J
   ·exact absurd (EQ J) z
abbrev R5{K:Iy}{h:f7}(_:K.In h):Iy:=K
theorem oF{l:PySem.W.OpenLaw}{n k:Nat}{q:i3}{O:List Str}{U:(Str->Option eh)->f7->Prop}{z:h8->f7->Prop}{d:DefRec}{K:Params->Iy}{CX:h8->s8}{sp:h8->Sp}{x:Str}
 (hn:l.most=di n) (a0:n<=f6) (a1:d.params.defaults=[]) (hr:m3 k Dx)
 (hY : ∀(w:h8) (h:f7),z w h->(K w.params).In h)
 (F : ∀(w:h8) (C:RJ) (L:eg) (h:f7),(K w.params).In h->h.Ns vu C->C d.name=di (.ref L)->
   ∃Z:pk,(∀(s:eF) (u:eh),G6 s Z ⟨[u],[]⟩ [(x,u)])/\
    ∀base:f7,(K w.params).In base->base.Ns vu C->pf l.prog w (K w.params) C base (CX w) k L Z [x] (sp w))
 (a4 : ∀(w:h8) (H:Hp) (a:eg) (S:List Int),S.length<=n->Eo H->gm (K w.params) H a (S.map V.int)->sp w [.ref a] H (λv _=>v = .bl dn) λ_ _ _=>False)
 (a5 : ∀(w:h8) (H:Hp) (s:eF) (e:eh) (s':eF),CX w [] H s (λ_ _ _=>False) e s'->False) :
 PySem.W.WalkO q O U z l.row.toRowW d [] (λf vs=>PySem.call f vs):=by
 refine Att.tu hn a1 λw j i C X L o pm P t a vs S G Y R Q N m p r I M=>?_;have J:=hY w _ Y;obtain⟨Z,E,y⟩:=F w C L _ J G.T.g m;exact ma J G.T.g G.T.b G.T.builtins G.T.nolimit M p r (LN I a0) hr y E (λH A B=>a4 w H a S I A B) λH e s'=>a5 w H i e s'
theorem Co{l:PySem.W.OpenLaw}{n k:Nat}{q:i3}{I:List Str}{J:(Str->Option eh)->f7->Prop}{z:h8->f7->Prop}{d:DefRec}{K:Params->Iy}{CX:s8}{sp:Iy->Sp}{x:Str}
 (hn:l.most=di n) (O:n<=f6) (U:d.params.defaults=[]) (Y:m3 k Dx)
 (hY : ∀(w:h8) (h:f7),z w h->(K w.params).In h)
 (F : ∀(w:h8) (C:RJ) (Z:eg) (h:f7),(K w.params).In h->h.Ns vu C->C d.name=di (.ref Z)->
   ∃fd:pk,(∀(s:eF) (u:eh),G6 s fd ⟨[u],[]⟩ [(x,u)])/\
    ∀base:f7,(K w.params).In base->base.Ns vu C->pf l.prog w (K w.params) C base CX k Z fd [x] (sp<|K w.params))
 (a1 : ∀(K:Iy) (H:Hp) (a:eg) (L:List Int),L.length<=n->Eo H->gm K H a (L.map V.int)->sp K [.ref a] H (λv _=>v = .bl dn) λ_ _ _=>False)
 (a2 : ∀(H:Hp) (s:eF) (e:eh) (S:eF),CX [] H s (λ_ _ _=>False) e S->False) :
 PySem.W.WalkO q I J z l.row.toRowW d [] (λf vs=>PySem.call f vs):=
 oF (K:=K) (CX:=λ_=>CX) (sp:=λw=>sp<|K w.params) hn O U Y hY F (λw H a L b g i=>a1 (K w.params) H a L b g i) λ_ H s e S=>a2 H s e S
noncomputable def JD(s:kv):Arguments:=match s with
 | .FunctionDef _ a _ _ _ _ _ _ _ _=>a
 | _=>{posonlyargs:=[],args:=[],vararg:=d5,kwonlyargs:=[],kw_defaults:=[],kwarg:=d5,defaults:=[]}
noncomputable def ya(s:kv):List kv:=match s with
 | .FunctionDef _ _ b _ _ _ _ _ _ _=>b
 | _=>[]
noncomputable def jB(s:kv):hL:=match s with
 | .FunctionDef _ _ _ _ _ _ a _ _ _=>a
 | _=>{kind:= .function,names:=[],isGenerator:=ed,isCoroutine:=ed}
abbrev p8:s8:=λ_ _ _ _ _ _=>False
abbrev E0:XK:=λ_ _ _=>False
theorem AU:gu p8 X E0:=λ_ _ _ _ _ _ _ h=>h.elim
structure Dp(K:Iy)(x qual:Str)(st:kv)(f:eg)(fd:pk):Prop where
 ex : ∃(oc:eh) (od:Option eg) (kV doc pm:eh) (an:Option eg) (Sb ct:eh) (Ry:Array (Option eh)),
  fd=NN x qual (JD st) (ya st) (jB st) .none kV doc pm an Sb ct/\K.lookup f=di ⟨oc,od,.func fd,Ry⟩/\OV K Sb qual=dn
 kp:Oo K (.ref f)=dn
section
variable{P:i3}{w:h8}{K:Iy}{mg:RJ}{base:f7}
theorem Dp.ok{x qual:Str}{st:kv}{f:eg}{L:pk}{N ps:List Str}{k:Nat}{sp:Sp}(F:Dp K x qual st f L)(S:D4 N ps (jB st))(len : ∀vs H Q E,sp vs H Q E->vs.length=ps.length)
 (z : ∀(C:eh) (A:mm) (outer:List nf) (s:eF) (H:Hp) (vs:List V) (Q:VK) (E:XK),m3 k (A.deeper<|envOfC qual (jB st) s.heap.objs.size f C)->sp vs H Q E->
   ∃t,p9 (sM p8 P w K mg base N qual (jB st) f C A outer s H E).F3 (ya st) t/\t {nx:=λ_ H'=>Q .el H',rt:=Q} (w6 N vs) H):pf P w K mg base p8 (k+1) f L ps sp:=by
 obtain⟨g,i,kV,a,j,d,C,e,b,rfl,lk,I⟩:=F.ex;refine Fq lk I S len λA outer s H vs Q E J O=>?_;obtain⟨t,h,q⟩:=z C A outer s H vs Q E J O;exact⟨t,h.F3,q⟩
theorem BD{x qual:Str}{st:kv}{f:eg}{S:eh}{Y L:Option eg}{J:Array (Option eh)}{kV I O C ct:eh}(l:K.lookup f=di ⟨S,Y,.func<|NN x qual (JD st) (ya st) (jB st) .none kV I O L C ct,J⟩)
 (c:OV K C qual=dn) (k:Oo K (.ref f)=dn):Dp K x qual st f (NN x qual (JD st) (ya st) (jB st) .none kV I O L C ct):=⟨⟨S,Y,kV,I,O,L,C,ct,J,rfl,l,c⟩,k⟩
end
noncomputable def gR(H H':Hp):Prop:=∀b o,H b=di o->H' b=di o
theorem gR.refl(H:Hp):gR H H:=λ_ _ h=>h
theorem gR.trans(a:gR H H1)(b:gR H1 H2):gR H H2:=λc o h=>b c o<|a c o h
theorem gR.free(e:gR H H')(h:H' l=Option.none):H l=Option.none:=by
 cases q:H l with
 | none=>rfl
 | some o=>
  rw[e l o q]at h;cases h
theorem gR.seq{K:Iy}{H H':Hp}{a:eg}{xs:List V}(e:gR H H')(h:gm K H a xs):gm K H' a xs:=by
 rcases h with(h | ⟨o,h⟩) | h
 ·exact .inl<|.inl<|e _ _ h
 ·exact .inl<|.inr ⟨o,e _ _ h⟩
 ·exact .inr h
noncomputable def Km(cells:List (Str×eg)):List (Str×u5)->List (Str×eg)->List (Str×eg)
 | [],acc=>acc
 | (n,k)::r,acc=>Km cells r<|if k==Ln then (match cells.lookup n with | some c=>(n,c)::acc | none=>acc)else acc
theorem yI(f:Str×u5->List (Str×eg)->Sem (ForInStep<|List<|Str×eg))
 (I : ∀name kind J,f (name,kind) J=if kind==Ln then (do let a <- cellOf env name;pure (.yield ((name,a)::J)))else pure (.yield J)) :
 ∀(names:List (Str×u5)) (acc:List (Str×eg)),(∀n,(n,Ln)∈names->∃c,env.cells.lookup n=di c)->
  forIn names acc f=(pure (Km env.cells names acc):Sem _)
 | [],acc,_=>by rw[List.forIn_nil];rfl
 | (n,k)::r,acc,h=>by
  rw[List.forIn_cons,I];have O : ∀n,(n,Ln)∈r->∃c,env.cells.lookup n=di c:=λm b=>h m<|IM _ b;unfold Km;by_cases z:(k==Ln)=dn
  ·rw[RY z,RY z]
   have Y:k=Ln:=by simpa using z
   subst Y;obtain⟨c,U⟩:=h n IQ;have e:cellOf env n=pure c:=by unfold cellOf;rw[U]
   rw[e,U];exact yI f I r _ O
  ·rw[EQ z,EQ z]
   exact yI f I r acc O
theorem X9(h : ∀n,(n,Ln)∈scope.names->∃c,env.cells.lookup n=di c) :
 closureFor scope env=pure (Km env.cells scope.names []):=by
 simp only[closureFor];rw[yI (env:=env) _ (λb a z=>by cases hk:a==Ln<;>simp[hk]) scope.names [] h];rfl
theorem ku
 (z:Q {scope:=scope,locals:=s.heap.objs.size,globals:=globals,cells:=rp (s.heap.objs.size+1) scope.names cl,qual:=qual,func:=d5,code:=env.code,frame:=env.frame,builtins:=env.builtins}
   {s with heap:=Dh (s.heap.push {cls:= .type "dict",data:= .dict #[]}) scope.names}) :
 wpAny M A (Sq scope globals cl [] qual d5 .none (di env)) Q E s:=by
 simp only[Sq,Option.isSome_some,if_true];refine IA (wpAny_alloc ?_);refine IA (wpAny_layCells _ (λb a cells=>by cases TC:a==MQ<;>simp[TC]) _ _ _ _ ?_);rw[show({s with heap:=s.heap.push {cls:= .type "dict",data:= .dict #[]}}:eF).heap.objs.size=s.heap.objs.size+1 from LG ..];exact IA (IK (IK z))
theorem WI : ∀{names:List (Str×u5)} {acc:List (Str×eg)},(n,c)∈Km cells names acc->(n,c)∈acc\/((n,Ln)∈names/\cells.lookup n=di c)
 | [],acc,h=> .inl h
 | (m,k)::r,acc,h=>by
  unfold Km at h;rcases WI h with g | ⟨h1,h2⟩
  ·clear h
   by_cases z:(k==Ln)=dn
   ·rw[RY z]at g
    have I:k=Ln:=by simpa using z
    subst I;cases e:cells.lookup m with
    | none=>rw[e]at g;exact .inl g
    | some J=>
     rw[e]at g;rcases iU.mp g with g | g
     ·cases g;exact .inr ⟨IQ,e⟩
     ·exact .inl g
   ·rw[EQ z]at g;exact .inl g
  ·exact .inr ⟨IM _ h1,h2⟩
theorem Ji : ∀{names:List (Str×u5)} {acc:List (Str×eg)},((acc.lookup n).isSome=dn\/((n,Ln)∈names/\(cells.lookup n).isSome=dn))->((Km cells names acc).lookup n).isSome=dn
 | [],acc,h=>by
  rcases h with h | ⟨h,_⟩
  ·exact h
  ·cases h
 | (m,k)::r,acc,h=>by
  unfold Km;apply Ji;by_cases z:(k==Ln)=dn
  ·rw[RY z]
   have J:k=Ln:=by simpa using z
   subst J;cases e:cells.lookup m with
   | none=>
    rcases h with h | ⟨h1,h2⟩
    ·exact .inl h
    ·rcases iU.mp h1 with h1 | h1
     ·cases h1;rw[e]at h2;cases h2
     ·exact .inr ⟨h1,h2⟩
   | some O=>
    dsimp only;by_cases I:n=m
    ·subst I;left;simp
    ·rcases h with h | ⟨h1,h2⟩
     ·left;rw[LO];split<;>simp_all
     ·rcases iU.mp h1 with h1 | h1
      ·cases h1;exact absurd rfl I
      ·exact .inr ⟨h1,h2⟩
  ·rw[EQ z]
   rcases h with h | ⟨h1,h2⟩
   ·exact .inl h
   ·rcases iU.mp h1 with h1 | h1
    ·cases h1;exact absurd rfl z
    ·exact .inr ⟨h1,h2⟩
theorem xO : ∀{names:List (Str×u5)} {k:Nat} {acc:List (Str×eg)},(n,c)∈rp k names acc->(n,c)∈acc\/(k<=c/\(n,MQ)∈names)
 | [],_,_,h=> .inl h
 | (m,kd)::r,k,acc,h=>by
  unfold rp at h;split at h
  ·rename_i z
   have I:kd=MQ:=by simpa using z
   subst I;rcases xO h with h | ⟨h1,h2⟩
   ·rcases iU.mp h with h | h
    ·cases h;exact .inr ⟨IH _,IQ⟩
    ·exact .inl h
   ·exact .inr ⟨by omega,IM _ h2⟩
  ·rcases xO h with h | ⟨h1,h2⟩
   ·exact .inl h
   ·exact .inr ⟨h1,IM _ h2⟩
theorem k6 : ∀{names:List (Str×u5)} {k:Nat} {acc:List (Str×eg)},(∀p∈acc,∀q∈acc,p.2=q.2->p.1=q.1)->(∀p∈acc,p.2<k)->
 ∀p∈rp k names acc,∀q∈rp k names acc,p.2=q.2->p.1=q.1
 | [],_,_,h,_=>h
 | (m,kd)::r,k,acc,h,hl=>by
  unfold rp;split
  ·refine k6 (λp z q I e=>?_) (λp z=>?_)
   ·rcases iU.mp z with rfl | z<;>rcases iU.mp I with rfl | I
    ·rfl
    ·have J:k=q.2:=e
     exact absurd (J ▸ hl q I)<|LF _
    ·have J:p.2=k:=e
     exact absurd (J ▸ hl p z)<|LF _
    ·exact h p z q I e
   ·rcases iU.mp z with rfl | z
    ·exact Mp _
    ·exact LD<|hl p z
  ·exact k6 h hl
theorem JF : ∀{names:List (Str×u5)} {h:f7} {acc:List (Str×eg)} {n:Str} {c:eg},(n,c)∈rp h.objs.size names acc->(n,c)∈acc\/(Dh h names).IsCell c d5
 | [],_,_,_,_,hm=> .inl hm
 | (m,kd)::r,h,acc,n,c,hm=>by
  unfold rp at hm;unfold Dh;split at hm
  ·rename_i z
   rw[RY z];have e:h.objs.size+1=(h.push {cls:= .type "cell",data:= .cell d5}).objs.size:=(LG ..).symm;rw[e]at hm;rcases JF hm with hm | hm
   ·rcases iU.mp hm with hm | hm
    ·cases hm
     have I:(h.push {cls:= .type "cell",data:= .cell d5}).IsCell h.objs.size d5:=⟨{cls:= .type "cell",data:= .cell d5},IV _ rfl,rfl⟩;exact .inr (I.keeps λb o q=>OH _ _ b o q)
    ·exact .inl hm
   ·exact .inr hm
  ·rename_i z
   rw[EQ z];exact JF hm
theorem yW{J:Type}{l:List (Str×J)}(C:(l.map (·.1)).Nodup) : ∀{n:Str} {a:J},(n,a)∈l->l.lookup n=di a:=by
 induction l with
 | nil=>intro n a h;cases h
 | cons p r z=>
  intro n a h;obtain⟨m,b⟩:=p;rw[Ld,Me]at C;rw[LO];rcases iU.mp h with h | h
  ·cases h;simp
  ·have I:(n==m)=ed:=by
    have:n≠m:=λe=>C.1 (by rw[<- e];exact Lh.mpr ⟨(n,a),h,rfl⟩);simpa using this
   rw[I];exact z C.2 h
theorem va(scope:hL)(env:nf)(x:Str):(wh scope env).names.lookup x =
 (scope.names.lookup x).map λk=>if (k==Ln && env.scope.kind == .function && env.kindOf x==di .cell)then MQ else k:=by
 unfold wh;dsimp only;generalize scope.names=l
 induction l with
 | nil=>rfl
 | cons p r I=>
  obtain⟨n,k⟩:=p;rw[Ld];cases hx:x==n with
  | true=>
   have e:x=n:=by simpa using hx
   subst e;rw[LO,LO];dsimp only;by_cases z:(k==Ln && env.scope.kind == .function && env.kindOf x==di .cell)=dn
   ·rw[RY z,beq_self_eq_true];dsimp only[OC];rw[RY z]
   ·rw[EQ z,beq_self_eq_true];dsimp only[OC];rw[EQ z]
  | false=>
   have : ∀J,List.lookup x ((n,J)::(r.map λx=>match x with | (n,k)=>if (k==Ln && env.scope.kind == .function && env.kindOf n==di .cell)=dn then (n,MQ)else (n,k)))=List.lookup x (r.map λx=>match x with | (n,k)=>if (k==Ln && env.scope.kind == .function && env.kindOf n==di .cell)=dn then (n,MQ)else (n,k)):=λJ=>by rw[LO,hx]
   rw[LO (k:=n),hx];dsimp only;split
   ·rw[this];exact I
   ·rw[this];exact I
noncomputable def vV(scope:hL)(env:nf)(L:eg):nf:=
 {scope:=wh scope env,locals:=L,globals:=env.globals,cells:=rp (L+1) scope.names<|Km env.cells scope.names [],qual:=env.qual,func:=d5,code:=env.code,frame:=env.frame,builtins:=env.builtins}
noncomputable def js(X:Cx)(scope:hL)(J:List Str)(fp:List eg)(C:eF)(I:Hp):Cx:=
 {X with N:=J,m8:=C,D5:=I,env:=vV scope X.env<|C.heap.objs.size+1,outer:=X.stack,stack:=X.stack,ex:=fp,fn:=λx=>scope.names.lookup x==di .cell,pn:=[],xe:=λ_ _=>False}
structure ri(X:Cx)(scope:hL)(fr:List (Str×Nat)):Prop where
 kind:scope.kind = .function
 nd:(scope.names.map (·.1)).Nodup
 free : ∀p∈scope.names,p.2=Ln->X.env.kindOf p.1=di .cell\/X.env.kindOf p.1=di .free
 fr : ∀p∈fr,scope.names.lookup p.1=di .free/\X.N[p.2]? = di p.1
noncomputable def iJ(own:List Str)(C:List (Str×Nat))(I:St):St:=own.map (λ_=>d5)++C.map λp=>(I[p.2]?).join
abbrev Vw:nr:={cls:= .type "list",data:= .seq #[]}
abbrev oj:nr:={cls:= .type "dict",data:= .dict #[]}
theorem mw{X:Cx}{S:RW}{σ:St}{Z:Hp}{C:eF}{scope:hL}{own:List Str}{L:List (Str×Nat)}{fp:List eg}(I:Inv X S σ Z C)(ok:ri X scope L)
 (a3 : ∀b∈fp,wZ X S Z b) (b0 : ∀b∈fp,∃o,C.heap.get? b=di o) :
 Inv (js X scope (own++L.map (·.1)) fp C Z) [] (iJ own L σ) (upd Z C.heap.objs.size<|.lst []) {C with heap:=Dh ((C.heap.push Vw).push oj) scope.names}:=by
 have K:(C.heap.push Vw).objs.size=C.heap.objs.size+1:=LG ..;have z2:((C.heap.push Vw).push oj).objs.size=C.heap.objs.size+2:=by rw[LG,K]
 have Y : ∀n c,(n,c)∈Km X.env.cells scope.names []->(n,Ln)∈scope.names/\X.env.cells.lookup n=di c:=λn c h=>(WI h).resolve_left ⋯;have ac : ∀n c,X.env.cells.lookup n=di c->c<C.heap.objs.size:=λn c h=>by obtain⟨v,q⟩:=I.cell n c h;exact q.lt
 have M : ∀p∈Km X.env.cells scope.names [],p.2<C.heap.objs.size+1+1:=λp O=>by exact LD<|LD<|ac p.1 p.2 (Y p.1 p.2 O).2
 have hC:(vV scope X.env<|C.heap.objs.size+1).cells=rp (C.heap.objs.size+2) scope.names (Km X.env.cells scope.names []):=rfl;have a : ∀x c,(vV scope X.env<|C.heap.objs.size+1).cells.lookup x=di c->((x,Ln)∈scope.names/\X.env.cells.lookup x=di c)\/(C.heap.objs.size+2<=c/\(x,MQ)∈scope.names):=λx c h=>by
  rcases xO (mem_of_lookup h)with h | h
  ·exact .inl<|Y x c h
  ·exact .inr h
 have B : ∀x,(x,Ln)∈scope.names->∃c,X.env.cells.lookup x=di c/\(vV scope X.env<|C.heap.objs.size+1).cells.lookup x=di c:=λx l=>by
  obtain⟨c,d⟩:=I.ok.has x<|ok.free (x,.free) l rfl;have t:((Km X.env.cells scope.names []).lookup x).isSome=dn:=Ji<|.inr ⟨l,by rw[d];rfl⟩;have j:=NH scope.names (C.heap.objs.size+2) (Km X.env.cells scope.names [])<|.inr t;obtain⟨G,E⟩:=Mw.mp j;refine⟨c,d,?_⟩;rcases a x G E with⟨_,q⟩ | ⟨_,q⟩
  ·rw[d]at q;cases q;exact E
  ·exact absurd ((yW ok.nd q).symm.trans (yW ok.nd l)) ⋯
 have keep : ∀b o,C.heap.get? b=di o->(Dh ((C.heap.push Vw).push oj) scope.names).get? b=di o:=λb o e=>
  OH _ _ b o (IB _<|IB _ e)
 have ap : ∀b∈fp,b<C.heap.objs.size:=λb J=>by obtain⟨o,e⟩:=b0 b J;exact IT e
 have fresh:Z C.heap.objs.size=d5:=I.f9.fresh<|IH _;have as : ∀c,C.heap.objs.size<c->(upd Z C.heap.objs.size<|.lst []) c=d5:=λc d=>by rw[zK (ML d)];exact I.f9.fresh<|Pd d
 obtain⟨m0,N⟩ : ∃m,(Dh ((C.heap.push Vw).push oj) scope.names).Ns (C.heap.objs.size+1) m:=by have q:=(Heap.Ns.new (C.heap.push Vw) (.type "dict")).keeps (λb o e=>OH scope.names _ b o e);rw[K]at q;exact⟨_,q⟩
 refine⟨⟨I.ok.mod,ok.kind,I.ok.glob,I.ok.blt,DJ _,λx y c t j=>?_,λx l=>?_,λx c hf h=>?_,I.ok.hd,I.ok.frames,.inl rfl,λb J=>⟨?_,λx c h z=>?_⟩,λb o e=>I.bs b o e,?_,λb o e J=>?_,λb J hs=>?_,I.stack,I.Sz⟩,
  rfl,I.bare,Un.laid keep (IH _) fresh,⟨m0,N,λi x v H U e3=>?_⟩,λx c h=>?_,?_,λx c h=>?_,λp O=>?_,?_,?_⟩
 ·have q:=k6 (names:=scope.names) (k:=C.heap.objs.size+2) (acc:=Km X.env.cells scope.names []) (λp O q hq e=>I.ok.inj p.1 q.1 p.2 (Y _ _ O).2 (by rw[e];exact(Y _ _ hq).2)) M
  exact q (x,c) (mem_of_lookup t) (y,c) (mem_of_lookup j) rfl
 ·have f:(wh scope X.env).names.lookup x=di .cell\/(wh scope X.env).names.lookup x=di .free:=l
  have:scope.names.lookup x=di .cell\/scope.names.lookup x=di .free:=by
   rw[va]at f;cases e:scope.names.lookup x with
   | none=>rw[e]at f;simp at f
   | some k=>
    rw[e]at f;cases k<;>simp at f ⊢
  rcases this with h | h
  ·exact Mw.mp<|NH scope.names _ _<|.inl h
  ·obtain⟨c,_,j⟩:=B x<|mem_of_lookup h;exact⟨c,j⟩
 ·have P:(scope.names.lookup x==di .cell)=dn:=hf
  have Q:scope.names.lookup x=di .cell:=by simpa using P
  rcases a x c h with⟨q,_⟩ | ⟨q,_⟩
  ·exact absurd ((yW ok.nd q).symm.trans Q) ⋯
  ·exact LN (LI _ 2) q
 ·exact Lm<|LD<|ap b J
 ·rcases a x c h with⟨_,q⟩ | ⟨q,_⟩
  ·exact(a3 b J).2.2.2.2.1 x c q z
  ·exact absurd (Lc (ap b J)<|LN (LI _ 2)<|z ▸ q)<|LF _
 ·exact LN I.ok.yg I.sz
 ·rcases (a3 b J).2.2.2.1 with q | q
  ·exact I.ok.F0 b o e q
  ·exact absurd (Lc (IT e)<|LN I.ok.yg q)<|LF _
 ·rcases iU.mp (I.RI b hs)with q | q
  ·exact(a3 b J).2.1 q
  ·exact(a3 b J).2.2.1 q
 ·have hi:i<(own++L.map (·.1)).length:=(IP.mp H).1
  by_cases s:i<own.length
  ·unfold iJ at U
   rw[LK (by simpa using s)]at U;simp[Le,s]at U
  ·have hj : ∃p,L[i - own.length]? = di p/\p.1=x/\(σ[p.2]?).join=di v:=by
    unfold iJ at U;have g:(own++L.map (·.1))[i]? = di x:=H;rw[Lz ⋯,Le]at g;rw[Lz (by simpa using s),Le,IU]at U;cases q:L[i - own.length]? with
    | none=>rw[q]at g;cases g
    | some p=>
     rw[q]at g U;exact⟨p,rfl,by simpa using g,by simpa using U⟩
   obtain⟨p,O,R,r⟩:=hj;obtain⟨g1,g2⟩:=ok.fr p<|LB O;rw[R]at g1 g2;have w:σ[p.2]? = di (di v):=by
    cases q:σ[p.2]? with
    | none=>rw[q]at r;cases r
    | some o=>rw[q]at r;simpa using r
   have F:=ok.free (x,.free) (mem_of_lookup g1) rfl;obtain⟨m,hn,hl⟩:=I.loc;obtain⟨u,ru,lk⟩:=hl p.2 x v g2 w (by rcases F with k | k;exact .inr<|.inl k;exact .inr<|.inr k);refine⟨u,ru,.inr ?_⟩;obtain⟨c,T,W⟩:=B x<|mem_of_lookup g1;have bx:C.heap.IsCell c (di u):=by
    rcases lk with⟨k,_⟩ | ⟨_,G,e,z⟩
    ·rcases F with k' | k'<;>rw[k]at k'<;>cases k'
    ·rw[T]at e;cases e;exact z
   refine⟨?_,c,W,bx.keeps keep⟩;show(wh scope X.env).names.lookup x=di .cell\/(wh scope X.env).names.lookup x=di .free;rw[va,g1];dsimp only[OC];split
   ·exact .inl rfl
   ·exact .inr rfl
 ·rcases xO (mem_of_lookup h)with q | q
  ·obtain⟨v,A⟩:=I.cell x c (Y x c q).2
   exact⟨v,A.keeps keep⟩
  ·have q2:=mem_of_lookup h
   have q3:(x,c)∈rp ((C.heap.push Vw).push oj).objs.size scope.names (Km X.env.cells scope.names []):=by rw[z2];exact q2
   rcases JF q3 with q4 | q4
   ·obtain⟨v,A⟩:=I.cell x c (Y x c q4).2
    exact⟨v,A.keeps keep⟩
   ·exact⟨d5,q4⟩
 ·exact as _<|Mp _
 ·rcases a x c h with⟨_,q⟩ | ⟨q,_⟩
  ·rw[zK (Lm<|ac x c q)];exact I.vl x c q
  ·exact as c<|Lc (LD<|Mp _) q
 ·exact absurd (show p∈([]:RW)from O) ⋯
 ·refine I.f9.laid keep (IH _) ⟨LL _,[],0,.nil,?_⟩
  exact OH _ _ _ _<|IB _<|IV _ rfl
 ·show(iJ own L σ).length=(own++L.map (·.1)).length
  simp[iJ]
theorem y6(I:Nat->eF->Prop)
 (C : ∀n s,I n s->wpAny (e9 prog w) A (DY it) (λr z=>match r with
   | none=>R (.ok .next) z
   | some v=>wpAny (e9 prog w) A (L0 target it v) (λ_ z=>wpAny (e9 prog w) A (t4 target env v) (λ_ O=>
    wpAny (e9 prog w) A (forIn ifs dn λc r=>if r=dn then do let ok <- DA c env (fh c env);pure (OL ok)else pure (OL r)) (λok J=>
     if ok=dn then wpAny (e9 prog w) A (fh elt env) (λx U=>
      wpAny (e9 prog w) A (call (.builtin "list.append") [acc,x]) (λ_ Y=>∃m,m<n/\I m Y) (λ_ _=>False) U) (λ_ _=>False) J
     else ∃m,m<n/\I m J) (λ_ _=>False) O) (λ_ _=>False) z) (λ_ _=>False) z) (λ_ _=>False) s)
 (n:Nat) (h:I n s) :
 codeAny (e9 prog w) A (.compLoop (.ListComp elt [⟨target,iter,ifs,0⟩] scope pos) 0 it acc env) R s:=by
 refine codeAny_loop rfl I (λn s j=>?_) n h;show wpAny _ A ((compTurn (.ListComp elt [⟨target,iter,ifs,0⟩] scope pos) 0 it acc env).onRaise (λx=>do noteFrame x env;theTreesLotGoes x)) _ _ s;refine wpAny_noted ?_;rw[compTurn_list];refine IA<|Rb<|IA<|MI (C n s j) (λr z b=>?_) λ_ _ a=>a.elim;cases r with
 | none=>exact IK b
 | some v=>
  refine IA<|MI b (λ_ k i=>?_) λ_ _ a=>a.elim;refine IA<|MI i (λ_ O e=>IA<|MI e (λok J d=>?_) λ_ _ a=>a.elim) λ_ _ a=>a.elim;cases ok with
  | false=>exact IK ⟨rfl,d⟩
  | true=>
   exact IA<|IA<|MI d (λx U f=>IA<|MI f (λ_ Y g=>IK<|IK ⟨rfl,g⟩) λ_ _ a=>a.elim) λ_ _ a=>a.elim
noncomputable def ue(X:Cx)(C:List eA)(t:TT):Prop:=
 ∀(a:RW) (s:eF) (b:St) (H:Hp) (Q:Bool->Hp->Prop),Inv X a b H s->t b H Q->
  wpAny (e9 X.prog X.w) X.A (forIn C dn λc r=>if r=dn then do let ok <- DA c X.env (fh c X.env);pure (OL ok)else pure (OL r)) (TP X a b Q) X.xe s
noncomputable def Ey:TT:=λ_ H Q=>Q dn H
theorem XD:ue X [] Ey:=λ_ _ _ H _ I h=>wpAny_tests_nil ⟨H,I,h⟩
theorem Wz(h:PT X c t):ue X [c] t:=λa s b H Q I z=>wpAny_tests_one<|h a s b H Q I z
noncomputable def CW(J:It)(g:TG)(C:TT)(te:TE)(D:eg)(Q:VK)(W:Nat->Nat->List V->St->Hp->Prop):Prop:=
 ∀i m a f H,W i m a f H->H D=di (.lst a)/\((J.stop i H/\Q (.ref D) H)\/(J.go i H/\a.length<f6/\∀x e,J.A4 i H x e->g x f e λz h=>C z h λb I=>
  if b=dn then te z I λv O=>O D=di (.lst a)/\∃d,d<m/\W (i+1) d (a++[v]) z (upd O D<|.lst<|a++[v])else ∃d,d<m/\W (i+1) d a z I))
noncomputable def mZ(X:Cx)(C:RW)(H:Hp)(L:eg):Prop:=
 H L=d5/\L≠X.env.locals/\X.m8.heap.objs.size<=L/\(∀x c,X.env.cells.lookup x=di c->c≠L)/\∀p∈X.pn++C,p.1≠L
theorem mQ
 (hc:X.calm=dn) (I:Inv X pins σ H2 s2) (ok:ri X scope fr) (T:Turn X.prog X.w X.K tg J fp it tn) (st:tn 0 s2.heap) (Y : ∀b∈fp,wZ X pins H2 b)
 (hg:PG (js X scope (own++fr.map (·.1)) fp s2 H2) tg g) (ht:ue (js X scope (own++fr.map (·.1)) fp s2 H2) ifs tt) (he:PE (js X scope (own++fr.map (·.1)) fp s2 H2) elt te)
 (hW : ∀D,H2 D=d5->∃W:Nat->Nat->List V->St->Hp->Prop,(∃m,W 0 m [] (iJ own fr σ) (upd H2 D<|.lst []))/\CW J g tt te D Q W) :
 wpAny (e9 X.prog X.w) X.A (newList []) (λacc L=>wpAny (e9 X.prog X.w) X.A (Sq scope X.env.globals (Km X.env.cells scope.names []) [] X.env.qual d5 .none (di X.env)) (λac S=>
  codeAny (e9 X.prog X.w) X.A (.compStart (.ListComp elt [⟨tg,iter,ifs,0⟩] scope pos) 0 (.ref it) acc {ac with scope:=wh scope X.env})
   (λr C=>(∃f,r = .ok f)/\∃D H',acc = .ref D/\Inv X pins σ H' C/\Q (.ref D) H'/\(∃m,C.heap.Ns ac.locals m)/\mZ X pins H' ac.locals) S) E L) E s2:=by
 have b6 : ∀b∈fp,∃o,s2.heap.get? b=di o:=λb O=>by obtain⟨o,e,_⟩:=T.obj 0 _ st b O;exact⟨o,e⟩
 have N:=mw (own:=own) I ok Y b6;obtain⟨W,⟨m0,w0⟩,cw⟩:=hW _ I.fresh;refine Mi<|ku ?_;have z1:(s2.heap.push Vw).objs.size=s2.heap.objs.size+1:=LG ..;show codeAny _ _ (.compStart _ 0 (.ref it) (.ref s2.heap.objs.size) {scope:=wh scope X.env,locals:=(s2.heap.push Vw).objs.size,globals:=X.env.globals,cells:=rp ((s2.heap.push Vw).objs.size+1) scope.names<|Km X.env.cells scope.names [],qual:=X.env.qual,func:=d5,code:=X.env.code,frame:=X.env.frame,builtins:=X.env.builtins})
  (λr C=>(∃f,r = .ok f)/\∃D H',Mm s2.heap.objs.size = .ref D/\Inv X pins σ H' C/\Q (.ref D) H'/\(∃m,C.heap.Ns (s2.heap.push Vw).objs.size m)/\mZ X pins H' (s2.heap.push Vw).objs.size) {s2 with heap:=Dh ((s2.heap.push Vw).push oj) scope.names}
 rw[z1];have b7:tn 0 (Dh ((s2.heap.push Vw).push oj) scope.names):=T.keep 0 _ _ st λb _ o e=>OH _ _ b o<|IB _<|IB _ e;have c6 : ∀b∈fp,b<s2.heap.objs.size:=λb O=>by obtain⟨o,e⟩:=b6 b O;exact IT e
 have ak : ∀{H':Hp},(∀b∈fp,H' b=d5)->∀b∈fp,wZ (js X scope (own++fr.map (·.1)) fp s2 H2) [] H' b:=λhn b O=>
  ⟨hn b O,(N.ok.Ig b O).1,N.ok.E6 b O,.inl O,(N.ok.Ig b O).2,λp hp=>absurd (show p∈([]:RW)from hp) ⋯⟩
 have b8:codeAny (e9 X.prog X.w) X.A (.compLoop (.ListComp elt [⟨tg,iter,ifs,0⟩] scope pos) 0 (.ref it) (.ref s2.heap.objs.size)<|vV scope X.env<|s2.heap.objs.size+1)
  (λr C=>(∃f,r = .ok f)/\∃D H',Mm s2.heap.objs.size = .ref D/\Inv X pins σ H' C/\Q (.ref D) H'/\(∃m,C.heap.Ns (s2.heap.objs.size+1) m)/\mZ X pins H' (s2.heap.objs.size+1)) {s2 with heap:=Dh ((s2.heap.push Vw).push oj) scope.names}:=by
  refine y6 (λn C=>∃i y B H',Inv (js X scope (own++fr.map (·.1)) fp s2 H2) [] B H' C/\tn i C.heap/\(∀b∈fp,H' b=d5)/\W i n y B H') ?_ m0
   ⟨0,[],_,_,N,b7,λb O=>by rw[zK (Lm<|c6 b O)];exact(Y b O).1,w0⟩
  rintro n s3 ⟨i,y,a,H,I3,s,bd,w3⟩;obtain⟨hD,c8⟩:=cw i n y a H w3;rcases c8 with⟨t,qn⟩ | ⟨go,hz,step⟩
  ·refine ft (T.done (js X scope (own++fr.map (·.1)) fp s2 H2) rfl rfl rfl hc i [] s3 a H _ I3 (ak bd) s t) λr s4 U=>?_
   obtain⟨hr,j⟩:=U;subst hr;refine⟨⟨_,rfl⟩,_,H,rfl,I.Tq (ch:=fp) j.os j.base j.f9 j.bare<|λb O=>⟨(Y b O).2.2.2.1,(Y b O).2.1,(Y b O).2.2.2.2.1,(Y b O).2.2.2.2.2⟩,qn,?_,j.free,?_,?_,?_,?_⟩
   ·obtain⟨m,hn,_⟩:=j.loc
    exact⟨m,hn⟩
   ·exact ML<|LD I.lt
   ·exact NV I.sz
   ·intro x c e z
    obtain⟨v,q⟩:=I.cell x c e;exact absurd (LD q.lt) (by rw[z];exact LF _)
   ·intro p hp z
    exact absurd (LD<|IT (I.pin p hp).1) (by rw[z];exact LF _)
  ·refine ft (T.item (js X scope (own++fr.map (·.1)) fp s2 H2) rfl rfl rfl hc i [] s3 a H _ I3 (ak bd) s go) λr s4 U=>?_
   obtain⟨u,hr,h4⟩:=U;subst hr;refine ft h4 λ_ s5 U=>?_;obtain⟨x,H5,I5,r5,y5,ap,cj⟩:=U;have cl:=I5.pinned (ak cj)<|T.obj _ _ ap;refine ft (hg _ s5 a H5 x u _ cl r5<|step x H5 y5) λ_ s6 U=>?_;obtain⟨h,H6,I6,q6⟩:=U;refine ft (ht _ s6 h H6 _ I6 q6) λb s7 U=>?_;obtain⟨H7,P,R⟩:=U;have after : ∀{G:St} {M:Hp} {l:eF},Inv (js X scope (own++fr.map (·.1)) fp s2 H2) ([]++K3 fp s5.heap) G M l->tn (i+1) l.heap/\∀b∈fp,M b=d5:=λ{G M l} k=>by refine⟨T.keep _ _ _ ap λb O o e=>(k.pin (b,o)<|IW _<|IW _<|yV O e).1,λb O=>?_⟩;obtain⟨o,e,d⟩:=T.obj _ _ ap b O;exact(k.pin (b,o)<|IW _<|IW _<|yV O e).2.1
   cases b with
   | false=>
    rw[EQ Lj]at R ⊢;obtain⟨m',hm,w7⟩:=R;exact⟨m',hm,i+1,y,h,H7,P.G3,(after P).1,(after P).2,w7⟩
   | true=>
    rw[RY rfl]at R ⊢;refine ft (he _ s7 h H7 _ P R) λv8 l U=>?_;obtain⟨x8,M,k,r8,bl,m',hm,w8⟩:=U;obtain⟨z8,bm,n8,rv,d6,e8⟩:=k.B8 bl;refine Nd F.slot_list_append ⟨_,e8,rfl⟩ F.entry_list_append (F.args_list_append_2 _ _) (PySem.list_append _ bm.toArray n8 v8<|by rw[II];omega) ⟨e8,?_⟩;have Z:=k.L1 (its':=bm++[v8]) (f:=(·.push v8)) (t':=l.toks) bl e8 ⋯ (rv.append<|.cons r8 .nil) (by rw[LJ,Nh];omega);exact⟨m',hm,i+1,y++[x8],h,_,Z.G3,(after Z).1,(after Z).2,w8⟩
 exact codeAny_compStart_list b8<|T.self _ 0 _ _ _ b7 b8
noncomputable def bY(L:TI)(own:List Str)(C:List (Str×Nat))(g:TG)(I:TT)(te:TE):TE:=λb H Q=>L b H λJ a=>∀D,a D=d5->
 ∃W:Nat->Nat->List V->St->Hp->Prop,(∃m,W 0 m [] (iJ own C b) (upd a D<|.lst []))/\CW J g I te D Q W
section
variable{X:Cx}{scope:hL}{own:List Str}{fr:List (Str×Nat)}{elt tg iter:eA}{ifs:List eA}{pos:hB}{wi:TI}{g:TG}{tt:TT}{te:TE}
theorem W4
 (z:X.calm=dn) (ok:ri X scope fr) (hi:PI X tg iter wi) (O : ∀fp S C,PG (js X scope (own++fr.map (·.1)) fp S C) tg g)
 (U : ∀fp S C,ue (js X scope (own++fr.map (·.1)) fp S C) ifs tt) (Y : ∀fp S C,PE (js X scope (own++fr.map (·.1)) fp S C) elt te)
 (I:Inv X pins σ H s) (h:bY wi own fr g tt te σ H Q)
 (hR : ∀D H' Z L,Inv X pins σ H' Z->Q (.ref D) H'->(∃m,Z.heap.Ns L m)->mZ X pins H' L->
   compPost (e9 X.prog X.w) X.A X.xe use R (.ref D) L (.ok .next) Z)
 (hs : ∀x,o5 iter X.env x=pure x:=by intro _;rfl) :
 wpAny (e9 X.prog X.w) X.A (comprehension (.ListComp elt [⟨tg,iter,ifs,0⟩] scope pos) scope X.env (firstIterPos [⟨tg,iter,ifs,0⟩] pos) (newList []) ed (fh iter X.env) use) R X.xe s:=by
 refine wpAny_comprehension_free rfl hs (X9 λn a=>I.ok.has n<|ok.free (n,.free) a rfl) ok.kind (λx G e=>by rw[<- e];exact yW ok.nd<|show(x.1,x.2)∈scope.names from G) ?_;refine ft (hi pins s σ H _ I h) λv P l=>ft l λM S o=>?_;obtain⟨N,fp,tn,J,C,e,d,T,i,f2,B⟩:=o;subst e;refine ft (mQ (own:=own) (Q:=Q) (E:=X.xe) z d ok T i f2 (O fp S C) (U fp S C) (Y fp S C) B) λacc W p=>ft p λj s4 t=>Pp t λr Z u=>?_;obtain⟨⟨f,F⟩,D,H',k,b,q,a,y⟩:=u;subst F;subst k;have K:=hR D H' Z j.locals b q a y;cases use<;>exact K
theorem Vk(z:X.calm=dn)(ok:ri X scope fr)(hi:PI X tg iter wi)(J : ∀fp S C,PG (js X scope (own++fr.map (·.1)) fp S C) tg g)
 (O : ∀fp S C,ue (js X scope (own++fr.map (·.1)) fp S C) ifs tt) (U : ∀fp S C,PE (js X scope (own++fr.map (·.1)) fp S C) elt te)
 (Y : ∀x,o5 iter X.env x=pure x:=by intro _;rfl) :
 PE X (.ListComp elt [⟨tg,iter,ifs,0⟩] scope pos) (bY wi own fr g tt te):=by
 intro a s B H Q I h;rw[eval_ListComp];refine W4 (use:=d5) z ok hi J O U I h (λD d l L f q k y=>?_) Y;obtain⟨m,j⟩:=k;obtain⟨p,r,t,u,w⟩:=y;refine⟨m,j,λA n=>⟨.ref D,d,f.turned (t':=l.toks) (it:=L) (λb o i e=>n.extBut b o i e) p r (.inr t) u w,rfl,q⟩⟩
theorem wz(J:X.N.Nodup)(O:X.N[i]? = di y)(U:Loc X.env.scope y)(Y:X.fn y=dn\/X.env.scope.names.lookup y=di .local)
 (Z:X.calm=dn) (ok:ri X scope fr) (hi:PI X tg iter wi) (hg : ∀fp S C,PG (js X scope (own++fr.map (·.1)) fp S C) tg g)
 (ht : ∀fp S C,ue (js X scope (own++fr.map (·.1)) fp S C) ifs tt) (he : ∀fp S C,PE (js X scope (own++fr.map (·.1)) fp S C) elt te)
 (hs : ∀x,o5 iter X.env x=pure x:=by intro _;rfl) :
 PS X (.Assign [.Name y py] (.ListComp elt [⟨tg,iter,ifs,0⟩] scope pos) spos) (ao (bY wi own fr g tt te)<|yG i):=by
 have z : ∃b:Bool,wo (.ListComp elt [⟨tg,iter,ifs,0⟩] scope pos) (di (.Name y py)) spos.line X.env=pure b:=⟨_,rfl⟩;obtain⟨b,z⟩:=z;cases b with
 | false=>
  have u:M3 [.Name y py] (.ListComp elt [⟨tg,iter,ifs,0⟩] scope pos) spos.line X.env=wo (.ListComp elt [⟨tg,iter,ifs,0⟩] scope pos) (di (.Name y py)) spos.line X.env:=rfl;exact Wx (Vk Z ok hi hg ht he hs) (dm J O U Y) (by rw[u];exact z)
 | true=>
  intro d s W H D I h;rw[exec_Assign_Name_used _ _ _ _ z];refine IA<|Rb<|IA ?_;show wpAny _ X.A (do let _ <- comprehension (.ListComp elt [⟨tg,iter,ifs,0⟩] scope pos) scope X.env _ (newList []) ed (fh iter X.env) (di (t4 (.Name y py) X.env))) _ _ s;refine IA<|ft (W4 (R:=λ_ f=>SP X d D .next f) (use:=di (t4 (.Name y py) X.env)) Z ok hi hg ht he I h (λj Q f L l q E P=>?_) hs) λ_ f q=>IK<|IK q;obtain⟨G,k,K,y4,M⟩:=P;obtain⟨m,B⟩:=E;show wpAny _ _ (t4 (.Name y py) X.env<|.ref j) _ _ _;refine Ug<|Ky l J O U (v:= .ref j) rfl (λn p as=>?_) Y;obtain⟨a,F,w⟩:=as;have r:L≠a:=by
   rcases w with e | e
   ·rw[e];exact k
   ·exact Ll<|y4 _ _ e
  refine⟨m,B.sameBut F r,λT t=>⟨_,_,p.turned (t':=n.toks) (it:=L) (λb o z e=>t.extBut b o z e) G k (.inr K) y4 M,q⟩⟩
end
inductive Sk where
 | L | T
 deriving DecidableEq
end L2
namespace DL
open PySem L2
inductive D where
 | el | bl (b:Bool) | int (i:Int) | str (x:Str) | tup (xs:List D) | lst (xs:List D)
 | l4 (ks vs:List D)
 | lh (ks:List (List Int)) (vs:List D)
inductive Cell where
 | no | val (d:D) | own (ds:List D) | nest (rows:List (List D))
abbrev Ctx:=List Cell
abbrev CO (a : Type) := Ctx -> Option a
noncomputable def lim:Nat:=2500
noncomputable def jA:D->Option (Sk×List D)
 | .tup a=>di (.T,a)
 | .lst a=>di (.L,a)
 | _=>d5
noncomputable def zF(f:CO D)(γ:Ctx):Option (Sk×List D):=(f γ).bind jA
noncomputable def jX(f:CO (List D))(γ:Ctx):Option D:=(f γ).map D.lst
noncomputable def jF(f:CO (List D))(γ:Ctx):Option (Sk×List D):=(f γ).map λa=>(Sk.L,a)
noncomputable def fQ:Option Cell->Option D
 | some (.val d)=>di d
 | _=>d5
noncomputable def vp:Option Cell->Option (Sk×List D)
 | some (.val d)=>jA d
 | some (.own ds)=>di (.L,ds)
 | _=>d5
noncomputable def zf(i:Nat)(γ:Ctx):Option D:=fQ γ[i]?
noncomputable def zg(i:Nat)(γ:Ctx):Option (Sk×List D):=vp γ[i]?
noncomputable def zu(d:D):CO D:=λ_=>di d
noncomputable def zG(F:D->D->Option D)(C I:CO D)(γ:Ctx):Option D:=(C γ).bind λx=>(I γ).bind λy=>F x y
noncomputable def qq:D->Option Bool
 | .bl b=>di b
 | _=>d5
noncomputable def l6:D->Option Int
 | .int i=>di i
 | _=>d5
noncomputable def sB(f:CO D)(γ:Ctx):Option Bool:=(f γ).bind qq
noncomputable def aw(f g:CO Bool)(γ:Ctx):Option Bool:=(f γ).bind λb=>if b=dn then g γ else di ed
noncomputable def Y4(f g:CO Bool)(γ:Ctx):Option Bool:=(f γ).bind λb=>if b=dn then di dn else g γ
noncomputable def xf(f:CO Bool)(γ:Ctx):Option Bool:=(f γ).map λb=> !b
noncomputable def nC(f g:CO D)(γ:Ctx):Option D:=((f γ).bind qq).bind λb=>if b=dn then g γ else di (.bl ed)
noncomputable def T5(f g:CO D)(γ:Ctx):Option D:=((f γ).bind qq).bind λb=>if b=dn then di (.bl dn)else g γ
noncomputable def Cq(f:CO D)(γ:Ctx):Option D:=((f γ).bind qq).map λb=> .bl (!b)
noncomputable def cE(c:CO Bool)(f g:CO D)(γ:Ctx):Option D:=(c γ).bind λb=>if b=dn then f γ else g γ
noncomputable def zD:CO (List D):=λ_=>di []
noncomputable def zb(f:CO D)(g:CO (List D))(γ:Ctx):Option (List D):=(f γ).bind λx=>(g γ).map λr=>x::r
noncomputable def qB(f:CO (List D))(γ:Ctx):Option D:=(f γ).bind λa=>if a.length<=lim then di (.tup a)else d5
noncomputable def qr(f:CO (List D))(γ:Ctx):Option (List D):=(f γ).bind λa=>if a.length<=lim then di a else d5
inductive Res where
 | val (d:D) | own (ds:List D)
inductive Fl where
 | next (γ:Ctx) | brk (γ:Ctx) | cont (γ:Ctx) | ret (r:Res)
noncomputable def qg(γ:Ctx):Option Fl:=di (.next γ)
noncomputable def zH(F G:CO Fl):CO Fl:=λb=>(F b).bind λz=>match z with
 | .next a=>G a
 | f=>di f
noncomputable def jV(f:CO D)(γ:Ctx):Option Fl:=(f γ).map λd=> .ret (.val d)
noncomputable def kF(f:CO (List D))(γ:Ctx):Option Fl:=(f γ).map λd=> .ret (.own d)
noncomputable def VQ:Option Cell->Option Fl
 | some (.val d)=>di (.ret<|.val d)
 | some (.own ds)=>di (.ret<|.own ds)
 | _=>d5
noncomputable def J2(i:Nat)(γ:Ctx):Option Fl:=VQ γ[i]?
noncomputable def Il(γ:Ctx):Option Fl:=di (.brk γ)
noncomputable def pL(γ:Ctx):Option Fl:=di (.cont γ)
noncomputable def KG:CO Fl:=λ_=>d5
noncomputable def i0(k:CO Bool)(F G:CO Fl)(γ:Ctx):Option Fl:=(k γ).bind λb=>if b=dn then F γ else G γ
noncomputable def jj(i:Nat)(f:CO D)(γ:Ctx):Option Fl:=(f γ).map λd=> .next (γ.set i<|.val d)
noncomputable def xw(i:Nat)(f:CO (List D))(γ:Ctx):Option Fl:=(f γ).map λa=> .next (γ.set i<|.own a)
noncomputable def pK(f:CO D)(γ:Ctx):Option Fl:=(f γ).map λ_=> .next γ
noncomputable def qJ:Option Cell->Option (List D)
 | some (.own ds)=>di ds
 | _=>d5
noncomputable def ql(i:Nat)(f:CO D)(γ:Ctx):Option Fl:=(qJ γ[i]?).bind λa=>(f γ).bind λd=>if a.length<lim then di (.next<|γ.set i<|.own<|a++[d])else d5
noncomputable def zY(n:Nat)(ds:List D):Ctx:=ds.map Cell.val++IE (n - ds.length) Cell.no
noncomputable def ja(n:Nat)(F:CO Fl)(ds:List D):Option Res:=(F<|zY n ds).bind λz=>match z with
 | .ret r=>di r
 | .next _=>di (.val .el)
 | _=>d5
noncomputable def Cz:Res->D
 | .val d=>d
 | .own a=> .lst a
noncomputable def zB(F:List D->Option Res)(g:CO (List D))(γ:Ctx):Option D:=(g γ).bind λa=>(F a).map Cz
noncomputable def Ac:Res->Option (List D)
 | .own a=>di a
 | _=>d5
noncomputable def jr(F:List D->Option Res)(g:CO (List D))(γ:Ctx):Option (List D):=(g γ).bind λa=>(F a).bind Ac
noncomputable def kg(lo:Int)(n:Nat):List D:=(Iz n).map λ(i:Nat)=>D.int<|lo+(i:Int)
noncomputable def JY(ds C:List D):List D:=(ds.zip C).map λp=>D.tup [p.1,p.2]
noncomputable def zL(f:CO (Sk×List D))(γ:Ctx):Option (List D):=(f γ).map (·.2)
noncomputable def inR(i:Int):Bool:=decide<|i.natAbs<2 ^ 62
noncomputable def zW(f:CO D)(γ:Ctx):Option (List D):=((f γ).bind l6).bind λn=>if inR n=dn then di (kg 0 n.toNat)else d5
noncomputable def wt(f g:CO D)(γ:Ctx):Option (List D):=((f γ).bind l6).bind λm=>((g γ).bind l6).bind λn=>if inR m=dn/\inR n=dn then di (kg m (n - m).toNat)else d5
noncomputable def Y9(f g:CO D)(γ:Ctx):Option (List D):=((f γ).bind jA).bind λm=>((g γ).bind jA).map λn=>JY m.2 n.2
inductive Tg where
 | nm (i:Nat) | tp (is:List Nat)
noncomputable def qS:List Nat->List D->Ctx->Ctx
 | i::is,d::ds,γ=>qS is ds<|γ.set i<|.val d
 | _,_,γ=>γ
noncomputable def xQ:Tg->D->CO Ctx
 | .nm i,d,γ=>di (γ.set i<|.val d)
 | .tp is,.tup ds,γ=>if ds.length=is.length then di (qS is ds γ)else d5
 | _,_,_=>d5
noncomputable def xP(T:Tg)(F:CO Fl):List D->CO Fl
 | [],a=>di (.next a)
 | d::e,a=>(xQ T d a).bind λb=>(F b).bind λI=>match I with
  | .next z=>xP T F e z
  | .cont z=>xP T F e z
  | .brk z=>di (.next z)
  | .ret r=>di (.ret r)
noncomputable def vt(C:CO (List D))(T:Tg)(F:CO Fl)(γ:Ctx):Option Fl:=(C γ).bind λa=>xP T F a γ
noncomputable def kf:Cell->Cell
 | .own _=> .no
 | .nest _=> .no
 | c=>c
noncomputable def z6(n:Nat)(C:List Nat)(γ:Ctx):Ctx:=IE n Cell.no++C.map λj=>kf<|γ[j]?.getD .no
noncomputable def zU(T:Tg)(k:CO Bool)(f:CO D)(γ:Ctx):List D->Option (List D)
 | []=>di []
 | d::ds=>(xQ T d γ).bind λa=>(k a).bind λb=>if b=dn then (f a).bind λe=>(zU T k f γ ds).map λr=>e::r else zU T k f γ ds
noncomputable def zS(C:CO (List D))(T:Tg)(n:Nat)(I:List Nat)(k:CO Bool)(f:CO D)(γ:Ctx):Option (List D):=(C γ).bind λa=>if a.length<=lim then zU T k f (z6 n I γ) a else d5
noncomputable def jt:CO Bool:=λ_=>di dn
noncomputable def Tg.idx:Tg->List Nat
 | .nm i=>[i]
 | .tp is=>is
noncomputable def dI(g:Int->Int->D):D->D->Option D
 | .int i,.int j=>di (g i j)
 | _,_=>d5
noncomputable def E4(c:Int->Int->Bool)(g:Int->Int->D):D->D->Option D
 | .int i,.int j=>if c i j=dn then di (g i j)else d5
 | _,_=>d5
noncomputable def JE:D->D->Option D:=dI λi j=> .int (i - j)
noncomputable def Kc(i j:Int):Bool:=decide (i.natAbs<2 ^ 64) || decide (j.natAbs<2 ^ 64)
noncomputable def BN(_ j:Int):Bool:=decide (0<j) && decide (j.natAbs<1073741824)
noncomputable def QB:D->D->Option D:=E4 BN λi j=> .int (i/j)
noncomputable def CZ(_ j:Int):Bool:=decide<|0<j
noncomputable def ky:D->D->Option D:=E4 CZ λi j=> .int (i%j)
noncomputable def BM(i j:Int):Bool:=decide (0<=j) && decide (j.natAbs<=1000000) && decide (i.natAbs<2 ^ 64)
noncomputable def sJ:D->D->Option D:=E4 BM λi j=> .int (i ^ j.toNat)
noncomputable def z4:D->D->Option D:=dI λi j=> .bl (decide<|i<j)
noncomputable def o3:D->D->Option D:=dI λi j=> .bl (decide<|i<=j)
noncomputable def qs:D->D->Option D:=dI λi j=> .bl (decide<|j<i)
noncomputable def Sd:D->D->Option D:=dI λi j=> .bl (decide<|j<=i)
noncomputable def qx:D->D->Option D
 | .int i,.int j=>di (.int<|i+j)
 | .tup xs,.tup ys=>if xs.length+ys.length<=lim then di (.tup<|xs++ys)else d5
 | _,_=>d5
noncomputable def ve:D->D->Option D
 | .int i,.int j=>if Kc i j=dn then di (.int<|i*j)else d5
 | .tup xs,.int j=>if xs.length*j.toNat<=lim/\inR j=dn then di (.tup (IE j.toNat xs).flatten)else d5
 | _,_=>d5
noncomputable def KJ(f g:CO (Sk×List D))(γ:Ctx):Option (List D):=(f γ).bind λa=>(g γ).bind λb=>
 match a.1,b.1 with
 | .L,.L=>if a.2.length+b.2.length<=lim then di (a.2++b.2)else d5
 | _,_=>d5
noncomputable def pI(f:CO (Sk×List D))(g:CO D)(γ:Ctx):Option (List D):=(f γ).bind λa=>((g γ).bind l6).bind λj=>
 match a.1 with
 | .L=>if a.2.length*j.toNat<=lim/\inR j=dn then di (IE j.toNat a.2).flatten else d5
 | _=>d5
noncomputable def g9(n:Nat)(i:Int):Option Nat:=if 0<=i/\i<n then di i.toNat else if i<0/\0<=i+n then di (i+n).toNat else d5
noncomputable def d8(f:CO (Sk×List D))(g:CO D)(γ:Ctx):Option D:=(f γ).bind λa=>((g γ).bind l6).bind λi=>(g9 a.2.length i).bind λk=>a.2[k]?
noncomputable def Wm(i:Nat)(g f:CO D)(γ:Ctx):Option Fl:=(f γ).bind λd=>(qJ γ[i]?).bind λa=>((g γ).bind l6).bind λk=>(g9 a.length k).map λj=> .next (γ.set i<|.own<|a.set j d)
noncomputable def bo(n dflt:Nat):Option Int->Nat
 | none=>dflt
 | some i=>if i<0 then (i+n).toNat else min i.toNat n
noncomputable def mO(xs:List D)(lo hi:Option Int):List D:=(xs.drop<|bo xs.length 0 lo).take (bo xs.length xs.length hi - bo xs.length 0 lo)
noncomputable def bC:CO (Option Int):=λ_=>di d5
noncomputable def o8(f:CO D)(γ:Ctx):Option (Option Int):=((f γ).bind l6).map di
noncomputable def Wl(f:CO D)(l h:CO (Option Int))(γ:Ctx):Option D:=(f γ).bind λd=>(l γ).bind λlo=>(h γ).bind λa=>match d with
 | .tup b=>di (.tup<|mO b lo a)
 | _=>d5
noncomputable def vh(f:CO (Sk×List D))(γ:Ctx):Option D:=(f γ).map λa=> .int a.2.length
inductive Ty where
 | int | bool | str | tuple | list
 deriving DecidableEq
@[simp] noncomputable def nW:D->Bool
 | .int _=>dn
 | .bl _=>dn
 | _=>ed
@[simp] noncomputable def By:D->Bool
 | .bl _=>dn
 | _=>ed
@[simp] noncomputable def nT:D->Bool
 | .str _=>dn
 | _=>ed
@[simp] noncomputable def nS:D->Bool
 | .tup _=>dn
 | _=>ed
@[simp] noncomputable def nV:D->Bool
 | .lst _=>dn
 | _=>ed
noncomputable def gI:Ty->D->Bool
 | .int=>nW
 | .bool=>By
 | .str=>nT
 | .tuple=>nS
 | .list=>nV
noncomputable def t8(T:Ty)(f:CO D)(γ:Ctx):Option D:=(f γ).map λd=> .bl (gI T d)
noncomputable def Fi:Ty->Sk->Bool
 | .tuple,.T=>dn
 | .list,.L=>dn
 | _,_=>ed
noncomputable def Ij(T:Ty)(f:CO (Sk×List D))(γ:Ctx):Option D:=(f γ).map λa=> .bl (Fi T a.1)
@[simp] noncomputable def Tt:D->Bool
 | .el=>dn
 | _=>ed
@[simp] noncomputable def eqB(a:Bool):D->Bool
 | .bl b=>a==b
 | .int b=>(if a then 1 else 0)==b
 | _=>ed
@[simp] noncomputable def Sf(a:Int):D->Bool
 | .bl b=>a==(if b then 1 else 0)
 | .int b=>a==b
 | _=>ed
@[simp] noncomputable def Sg(a:Str):D->Bool
 | .str b=>a==b
 | _=>ed
@[simp] noncomputable def Uo(a:Str)(i:Option Int):D->Bool
 | _=>ed
mutual
def hH:D->D->Bool
 | .el,y=>Tt y
 | .bl a,y=>eqB a y
 | .int a,y=>Sf a y
 | .str a,y=>Sg a y
 | .tup xs,y=>match y with
  | .tup e=>o9 xs e
  | _=>ed
 | .lst xs,y=>match y with
  | .lst e=>o9 xs e
  | _=>ed
 | .l4 a b,y=>match y with
  | .l4 c d=>o9 a c && o9 b d
  | _=>ed
 | .lh a b,y=>match y with
  | .lh c d=>a==c && o9 b d
  | _=>ed
def o9:List D->List D->Bool
 | [],[]=>dn
 | x::xs,y::ys=>hH x y && o9 xs ys
 | _,_=>ed
end
mutual
def deep:D->Nat
 | .tup a=>t6 a+1
 | .lst a=>t6 a+1
 | _=>0
def t6:List D->Nat
 | []=>0
 | x::xs=>max (deep x)<|t6 xs
end
mutual
def kr:D->Bool
 | .str x=>x.cps.all (· < 0x110000)
 | .l4 _ _=>ed
 | .lh _ _=>ed
 | .tup a=>lW a
 | .lst a=>lW a
 | _=>dn
def lW:List D->Bool
 | []=>dn
 | x::xs=>kr x && lW xs
end
noncomputable def kA(d:D):Bool:=decide (deep d<=20) && kr d
noncomputable def h7(x y:D):Option D:=if kA x=dn/\kA y=dn then di (.bl<|hH x y)else d5
noncomputable def i8(x y:D):Option D:=if kA x=dn/\kA y=dn then di (.bl<|!hH x y)else d5
noncomputable def sL:D->D->Option D
 | x,.el=>di (.bl<|match x with | .el=>dn | _=>ed)
 | _,_=>d5
noncomputable def jf(f:CO (Sk×List D))(γ:Ctx):Option D:=(f γ).map λa=> .tup a.2
noncomputable def Va(f:CO (Sk×List D))(γ:Ctx):Option (List D):=(f γ).map λa=>a.2
noncomputable def Y6:List D->Option Int
 | []=>di 0
 | .int i::r=>(Y6 r).map λs=>i+s
 | _::_=>d5
noncomputable def gH(f:CO (Sk×List D))(γ:Ctx):Option D:=(f γ).bind λa=>(Y6 a.2).map D.int
noncomputable def Et:D->Option Bool
 | .el=>di ed
 | .bl b=>di b
 | .int i=>di (i != 0)
 | _=>d5
noncomputable def Xo:List D->Option (List Bool)
 | []=>di []
 | d::r=>(Et d).bind λb=>(Xo r).map λs=>b::s
noncomputable def EM(f:CO (Sk×List D))(γ:Ctx):Option D:=(f γ).bind λa=>(Xo a.2).map λs=> .bl (s.all id)
noncomputable def tW(f:CO (Sk×List D))(γ:Ctx):Option D:=(f γ).bind λa=>(Xo a.2).map λs=> .bl (s.any id)
noncomputable def KI(f:CO D)(γ:Ctx):Option D:=(f γ).bind λd=>match d with
 | .int i=>di (.int i)
 | .bl b=>di (.int<|if b then 1 else 0)
 | _=>d5
noncomputable def KH(f g:CO D)(γ:Ctx):Option D:=((f γ).bind l6).bind λi=>((g γ).bind l6).map λj=> .int (if j>i then j else i)
noncomputable def pH(f:CO (Sk×List D))(γ:Ctx):Option Bool:=(f γ).map λa=> !a.2.isEmpty
noncomputable def uN(f:CO D):CO D:=λa=>((f a).bind l6).map λi=> .int (-i)
noncomputable def vB(F G:D->D->Option D)(C I J:CO D):CO D:=λa=>(C a).bind λx=>(I a).bind λy=>((F x y).bind qq).bind λb=>if b=dn then (J a).bind λz=>G y z else di (.bl ed)
noncomputable def ZQ(T:Tg)(f:CO D)(γ:Ctx):Option Fl:=(f γ).bind λd=>(xQ T d γ).map .next
noncomputable def HN:D->Option Int
 | .tup (.int k::_)=>di k
 | _=>d5
noncomputable def Bn:List D->Option (List Int)
 | []=>di []
 | d::r=>(HN d).bind λk=>(Bn r).map λl=>k::l
noncomputable def GL:List Int->Bool
 | a::b::r=>decide (a<b) && GL (b::r)
 | _=>dn
noncomputable def HL(ks:List Int):Nat:=(ks.dropLast.filter λk=>decide<|k<ks.getLast?.getD 0).length
noncomputable def HP(q:Nat)(ds:List D):List D:=ds.dropLast.take q++(ds.drop (ds.length - 1)++ds.dropLast.drop q)
noncomputable def EH(ds:List D):Option (List D):=(Bn ds).bind λa=>if (1<=ds.length/\ds.length<=8)/\GL a.dropLast=dn/\decide (a.getLast?.getD 0∈a.dropLast)=ed then di (HP (HL a) ds)else d5
noncomputable def EI(f:CO (Sk×List D))(γ:Ctx):Option (List D):=(f γ).bind λa=>match a.1 with
 | .L=>EH a.2
 | _=>d5
noncomputable def Ft:D->Bool
 | .tup _=>ed
 | .lst _=>ed
 | .l4 _ _=>ed
 | .lh _ _=>ed
 | _=>dn
end DL
namespace L2
open PySem PySem.Spec PyProof.Rows
noncomputable def l0(k:Sk)(h:f7)(i l:eg)(n:Nat):Prop:=match k with
 | .L=>h.IsListIter i l n
 | .T=>h.IsTupleIter i l n
noncomputable def n7(k:Sk)(h:f7)(l:eg)(xs:Array eh):Prop:=match k with
 | .L=>h.IsList l xs
 | .T=>h.IsTuple l xs
noncomputable def m6(k:Sk)(l:eg):nr:=match k with
 | .L=>{cls:= .type "list_iterator",data:= .fields #[.ref l,.int 0 0]}
 | .T=>{cls:= .type "tuple_iterator",data:= .fields #[.ref l,.int 0 0]}
theorem l0.at(x:l0 k h i l n)(e : ∀o,h.get? i=di o->h'.get? i=di o):l0 k h' i l n:=by cases k<;>exact let ⟨o,z,r⟩:=x;⟨o,e _ z,r⟩
theorem n7.at(x:n7 k h l xs)(e : ∀o,h.get? l=di o->h'.get? l=di o):n7 k h' l xs:=by cases k<;>exact let ⟨o,z,r⟩:=x;⟨o,e _ z,r⟩
theorem l0.obj(x:l0 k h i l n) : ∃o,h.get? i=di o/\∀v,o.data ≠ .cell v:=by cases k<;>exact let ⟨o,I,_,d⟩:=x;⟨o,I,λv z=>by rw[d]at z;cases z⟩
theorem n7.lt(x:n7 k h l xs):l<h.objs.size:=by cases k<;>exact let ⟨o,z,_⟩:=x;IT z
theorem Ys(k:Sk)(h:f7)(l:eg):l0 k (h.push<|m6 k l) h.objs.size l 0:=by cases k<;>exact⟨_,IV _ rfl,rfl,rfl⟩
section
variable{prog:i3}{w:h8}{A:mm}{E:RQ}{s:eF}
theorem WU(z:n7 k s.heap l xs)(I:Q (.ref s.heap.objs.size) {s with heap:=s.heap.push (m6 k l)}):wpAny (e9 prog w) A (L8<|.ref l) Q E s:=by
 cases k
 ·exact Ri z I
 ·exact ON z I
theorem vL(J:l0 k s.heap it l i)(O:n7 k s.heap l items)(hx:items[i]? = di x)
 (U : ∀h',l0 k h' it l (i+1)->NY it s.heap h'->Q x {s with heap:=h'}):wpAny (e9 prog w) A (Lr<|.ref it) Q E s:=by
 cases k with
 | L=>exact wpAny_nextOf_list_item J O hx U
 | T=>
  have I:s.heap.IsTupleIter it l i:=J;obtain⟨o,z,Y,a⟩:=id I;obtain⟨f,b,_,e,d⟩:=(show s.heap.IsTuple l items from O);unfold Lr;refine IA (Mj (name:=LC "__next__") I.typeIs OG (Ms OG I.typeIs Ts ?_ (Tn _)));refine IA (m:=field (.ref it) 0) (LW z a (x:= .ref l) rfl ?_);show wpAny _ _ (if (Mm l==Ls)=dn then _ else _) _ _ s;rw[EQ (show ¬((Mm l==Ls)=dn)from Lj)];refine IA (m:=field (.ref it) 1) (LW z a (x:= .int i 0) rfl ?_);refine IA (m:=seqItems? (.ref l)) (MT b d ?_);simp only[Nt,hx];refine IA (wpAny_setField z a ⋯ (IK ⟨x,rfl,IK (U _ ?_ (NY.update ..))⟩));show Heap.IsTupleIter _ it l (i+1);exact⟨_,OX _ z (Obj.isFreed_of_fields (PH a _)),(Obj.cls_mapFields ..).trans Y,by rw[PH a];simp[Di]⟩
theorem XJ(z:A.handled=d5)(O:l0 k s.heap it l i)(U:n7 k s.heap l items)(hx:items[i]? = d5)
 (Y : ∀h' e,Heap.ExtBut it s.heap h'->(∃o,h'.get? e=di o/\o.cls = .type "StopIteration")->E (.ref e) {s with heap:=h'}):wpAny (e9 prog w) A (Lr (.ref it)) Q E s:=by
 cases k with
 | L=>exact wpAny_nextOf_list_end z O U hx Y
 | T=>
  have I:s.heap.IsTupleIter it l i:=O;obtain⟨o,J,g,b⟩:=id I;obtain⟨j,d,_,h,f⟩:=(show s.heap.IsTuple l items from U);unfold Lr;refine IA (Mj (name:=LC "__next__") I.typeIs OG (Ms OG I.typeIs Ts ?_ (Tn _)));refine IA (m:=field (.ref it) 0) (LW J b (x:= .ref l) rfl ?_);show wpAny _ _ (if (Mm l==Ls)=dn then _ else _) _ _ s;rw[EQ (show ¬((Mm l==Ls)=dn)from Lj)];refine IA (m:=field (.ref it) 1) (LW J b (x:= .int i 0) rfl ?_);refine IA (m:=seqItems? (.ref l)) (MT d f ?_);simp only[Nt,hx];refine IA (OB (IA (wpAny_setField J b ⋯ ?_)));refine IA (m:=newExc (.type "StopIteration") []) ?_;simp only[newExc,newTuple];refine IA (Mi ?_ (by size_fits));refine IA (m:=P7 _ _) (wpAny_of_eq (a:=Ls) (by first | rfl | (simp only[P7];rfl)) ?_);refine Mi ?_ (by size_fits);simp only[raiseNew];refine IA (wpAny_handled ?_)
  first | rw[show A.in1.handled=d5 from z] | rw[z]
  exact IA<|IK<|wpAny_throw<|Y _ _ (((NY.update ..).extBut.push _).push _) ⟨_,IV _ rfl,rfl⟩
theorem bF{S Z:Sk}{z TI TO J O C L:eg}{n1 n2:Nat}{xs ys:Array eh}{x y a b:eh}{Q:RQ}(D:O8 z TI TO J O C L)
 (hz:u0 s.heap z TI TO .none) (bd:n3 s.heap TI (.ref J) (.ref O)) (be:n3 s.heap TO a b)
 (h1:l0 S s.heap J C n1) (h2:l0 Z s.heap O L n2) (bf:n7 S s.heap C xs) (bg:n7 Z s.heap L ys) (hx:xs[n1]? = di x) (hy:ys[n2]? = di y)
 (hQ : ∀h',u0 h' z TI TO (Di s.heap.objs.size)->n3 h' TO x y->l0 S h' J C (n1+1)->l0 Z h' O L (n2+1)->n3 h' s.heap.objs.size x y->h'.objs.size=s.heap.objs.size+1->
   (∀c o,c≠z->c≠TO->c≠J->c≠O->s.heap.get? c=di o->h'.get? c=di o)->Q (.ref s.heap.objs.size) {s with heap:=h'}) :
 wpAny (e9 prog w) A (nt.«zip.__next__» ⟨[.ref z],[]⟩) (λbm s'=>∃v,bm = .done (.ret v)/\Q v s') E s:=by
 refine IA (m:=field (.ref z) 2)<|LW hz rfl (x:= .bool ed) rfl ?_;refine IA (m:=field (.ref z) 3)<|LW hz rfl (x:= .ref TI) rfl ?_;refine IA<|MT bd rfl ?_;refine IA (m:=LM<|.ref z) ?_;unfold LM;refine IA<|LW hz rfl (x:= .none) rfl<|IK ?_;simp only[if_true];refine IA<|OB<|IA<|LW hz rfl (x:= .ref TO) rfl ?_;refine IA<|Ml hz ⋯ λg1 r U=>?_;replace r:u0 g1 z TI TO .ellipsis:=r;refine IA ?_;simp only[List.zipIdx_cons,List.zipIdx_nil,List.forIn_cons,List.forIn_nil];refine IA<|IA<|Rc ?_;refine IA (m:=Lr<|.ref J)<|vL (h1.at λo e=>U.extBut _ _ D.i1z e) (bf.at λo e=>U.extBut _ _ D.l1z e) hx λg2 T d=>IK ?_;have H:n3 g2 TO a b:=d.extBut _ _ D.TOi1<|U.extBut _ _ D.TOz be;refine IA<|MT H rfl<|IA<|PF H λg3 t f=>?_;replace t:n3 g3 TO x b:=t;refine IA<|PR<|IK<|IA<|IA<|Rc ?_;refine IA (m:=Lr<|.ref O)<|vL (h2.at λo e=>f.extBut _ _ D.TOi2.symm<|d.extBut _ _ D.i12.symm<|U.extBut _ _ D.i2z e) (bg.at λo e=>f.extBut _ _ D.l2TO<|d.extBut _ _ D.l2i1<|U.extBut _ _ D.l2z e) hy λg4 W g=>IK ?_;have K:n3 g4 TO x b:=g.extBut _ _ D.TOi2 t;refine IA<|MT K rfl<|IA<|PF K λI k h=>?_;replace k:n3 I TO x y:=k;refine IA<|PR<|IK<|IK<|IA<|MT k rfl<|IA<|PL ?_;have j:I.objs.size=s.heap.objs.size:=by rw[h.1,g.1,f.1,d.1,U.1]
 have M:u0 I z TI TO .ellipsis:=h.extBut _ _ D.TOz.symm (g.extBut _ _ D.i2z.symm (f.extBut _ _ D.TOz.symm (d.extBut _ _ D.i1z.symm r)));have c5 : ∀c o,c≠z->c≠TO->c≠J->c≠O->s.heap.get? c=di o->I.get? c=di o:=λc o Y n F G e=>h.extBut _ _ n (g.extBut _ _ G (f.extBut _ _ n (d.extBut _ _ F (U.extBut _ _ Y e))));have X:l0 S I J C (n1+1):=T.at λo e=>h.extBut _ _ D.TOi1.symm (g.extBut _ _ D.i12 (f.extBut _ _ D.TOi1.symm e));have c7:l0 Z I O L (n2+1):=W.at λo e=>h.extBut _ _ D.TOi2.symm e;have N:z<I.objs.size:=IT M;refine IA (m:=Mr (.ref z) (.ref I.objs.size)) ?_;unfold Mr;have c8:u0 (I.push {cls:= .type "tuple",data:= .seq #[x,y]}) z TI TO .ellipsis:=IB _ M;refine IA (Ml c8 ⋯ λg7 as u=>?_);replace as:u0 g7 z TI TO (Di I.objs.size):=as;refine Ml as ⋯ λi l B=>?_;replace l:u0 i z TI TO (Di I.objs.size):=l;have p : ∀c o,c≠z->I.get? c=di o->i.get? c=di o:=λc o Y e=>B.extBut _ _ Y (u.extBut _ _ Y (IB _ e));have P:n3 i I.objs.size x y:=B.extBut _ _ (ML N) (u.extBut _ _ (ML N) (IV _ rfl));have R:i.objs.size=I.objs.size+1:=by rw[B.1,u.1,LG]
 rw[j]at l P R;refine IK ⟨_,rfl,?_⟩;show Q (.ref I.objs.size) _;rw[j];exact hQ i l (p _ _ D.TOz k) (X.at λo e=>p _ o D.i1z e) (c7.at λo e=>p _ o D.i2z e) P R λc o Y n F G e=>p c o Y<|c5 c o Y n F G e
theorem gO{k1 k2:Sk}{z TI TO O C L S:eg}{Z n2:Nat}{xs ys:Array eh}{a b:eh}{Q:Fin->eF->Prop}(hh:A.handled=d5)(D:O8 z TI TO O C L S)
 (hz:u0 s.heap z TI TO .none) (b0:n3 s.heap TI (.ref O) (.ref C)) (b5:n3 s.heap TO a b)
 (h1:l0 k1 s.heap O L Z) (h2:l0 k2 s.heap C S n2) (am:n7 k1 s.heap L xs) (b6:n7 k2 s.heap S ys) (b7:xs[Z]? = d5\/ys[n2]? = d5)
 (hE : ∀h' e,(∀c o,c≠z->c≠TO->c≠O->c≠C->s.heap.get? c=di o->h'.get? c=di o)->(∃o,h'.get? e=di o/\o.cls = .type "StopIteration")->E (.ref e) {s with heap:=h'}) :
 wpAny (e9 prog w) A (nt.«zip.__next__» ⟨[.ref z],[]⟩) Q E s:=by
 refine IA (m:=field (.ref z) 2) (LW hz rfl (x:= .bool ed) rfl ?_);refine IA (m:=field (.ref z) 3) (LW hz rfl (x:= .ref TI) rfl ?_);refine IA (MT b0 rfl ?_);refine IA (m:=LM (.ref z)) ?_;unfold LM;refine IA (LW hz rfl (x:= .none) rfl (IK ?_));simp only[if_true];refine IA (OB (IA (LW hz rfl (x:= .ref TO) rfl ?_)));refine IA (Ml hz ⋯ λg1 k I=>?_);replace k:u0 g1 z TI TO .ellipsis:=k;refine IA ?_;simp only[List.zipIdx_cons,List.zipIdx_nil,List.forIn_cons,List.forIn_nil];refine IA (IA (Rc ?_));have r : ∀{g e:_} {i:nr},u0 g z TI TO .ellipsis->(∀c o,c≠z->c≠TO->c≠O->c≠C->s.heap.get? c=di o->g.get? c=di o)->g.get? e=di i->i.cls = .type "StopIteration"->
  wpAny (e9 prog w) A (setField (.ref z) 0 .none) (λ_ B=>E (.ref e) B) E {s with heap:=g}:=λ{g e i} sm hk U d=>by
  have u:e≠z:=λq=>by subst q;rw[sm]at U;cases U;simp at d
  exact Ml sm ⋯ λg3 _ Y=>hE g3 e (λc o f l j n q=>Y.extBut _ _ f<|hk c o f l j n q) ⟨i,Y.extBut _ _ u U,d⟩
 cases hx:xs[Z]? with
 | none=>
  refine IA (m:=Lr<|.ref O)<|XJ hh (h1.at λo e=>I.extBut _ _ D.i1z e) (am.at λo e=>I.extBut _ _ D.l1z e) hx λg2 e J p=>?_;obtain⟨i,U,d⟩:=p;exact r (J _ _ D.i1z.symm k) (λc o f _ j _ q=>J _ _ j<|I.extBut _ _ f q) U d
 | some x=>
  have y:ys[n2]? = d5:=by rcases b7 with h | h;rw[hx]at h;cases h;exact h
  refine IA (m:=Lr<|.ref O)<|vL (h1.at λo e=>I.extBut _ _ D.i1z e) (am.at λo e=>I.extBut _ _ D.l1z e) hx λg2 F J=>IK ?_;have as:n3 g2 TO a b:=J.extBut _ _ D.TOi1<|I.extBut _ _ D.TOz b5;refine IA<|MT as rfl<|IA<|PF as λg3 G Y=>?_;refine IA<|PR<|IK<|IA<|IA<|Rc ?_;refine IA (m:=Lr<|.ref C)<|XJ hh (h2.at λo e=>Y.extBut _ _ D.TOi2.symm<|J.extBut _ _ D.i12.symm<|I.extBut _ _ D.i2z e) (b6.at λo e=>Y.extBut _ _ D.l2TO<|J.extBut _ _ D.l2i1<|I.extBut _ _ D.l2z e) y λH e t p=>?_;obtain⟨i,U,d⟩:=p;exact r (t _ _ D.i2z.symm<|Y.extBut _ _ D.TOz.symm<|J.extBut _ _ D.i1z.symm k) (λc o f l j n q=>t _ _ n<|Y.extBut _ _ l<|J.extBut _ _ j<|I.extBut _ _ f q) U d
end
noncomputable def wB(a b:eh):nr:={cls:= .type "tuple",data:= .seq #[a,b]}
noncomputable def Ep(TI TO:eg):nr:={cls:= .type "zip",data:= .fields #[.none,.bool ed,.bool ed,.ref TI,.ref TO]}
noncomputable def JX(z I:Sk)(h:f7)(J C:eg):f7:=
 LP (LP (LP (LP (LP h<|m6 z J)<|m6 I C)<|wB (.ref h.objs.size)<|.ref<|h.objs.size+1)<|wB .none .none) (Ep (h.objs.size+2)<|h.objs.size+3)
theorem gN(I J:Sk)(z C:eg)(xs ys:Array eh) :
 Ds (nt.«zip.__new__» ⟨[.type "zip",.ref z,.ref C],[]⟩) (λ_ R s=>n7 I s.heap z xs/\n7 J s.heap C ys/\
  R (.ok<|.ret<|.ref<|s.heap.objs.size+4) {s with heap:=JX I J s.heap z C}):=
 .of_wp λa w A R s h=>by
  obtain⟨O,g,d,U,os⟩:=s;obtain⟨Y,b,h⟩:=h;have j:=sub_zip;have f:n7 I (Shared.heap ⟨O,g,d,U,os⟩) z xs:=Y;have i:n7 J (Shared.heap ⟨O.push<|m6 I z,g,d,U,os⟩) C ys:=b.at λo e=>IB _ e
  wp_walk using WU f,WU i
  refine⟨_,rfl,?_⟩;simp only[JX,wB,Ep,LG]at h ⊢;exact h
section
variable{X:Cx}{pins:RW}{σ:St}{H:Hp}{s:eF}{h':f7}
theorem Inv.RR{t':Nat}{fp:List eg}{a:eg}{o:HO}(I:Inv X pins σ H s)(k : ∀b u,b∉fp->s.heap.get? b=di u->h'.get? b=di u)(U : ∀b∈fp,wZ X pins H b)
 (C:s.heap.objs.size<=a) (new:la X.prog X.w (upd H a o) h' a o):Inv X pins σ (upd H a o) {s with heap:=h',toks:=t'}:=by
 have d:H a=d5:=I.f9.fresh C;have f : ∀b u,H b=di u->b∉fp:=λb u e z=>by rw[(U b z).1]at e;cases e
 have h : ∀b u,s.heap.get? b=di u->b≠a:=λb u e=>Lm<|Lc (IT e) C;refine I.step (g':=s.gens) (d':=s.drawn) (ch:=fp) (λb J=>⟨(U b J).2.2.2.1,(U b J).2.1,(U b J).2.2.2.2.1,(U b J).2.2.2.2.2⟩) (λb u _ _ O e _=>k b u O e) (λb u _ _ O e _=>⟨u.slots,k b u O e⟩)
  (λb u _ e n=>by rw[zK (h b u e)];exact n) (λb u O e=>⟨u,k b u O e⟩) (λb g e=>by rw[zK (j3 e d)];exact e) (λb Y g e=>by rw[zK (j3 e d)];exact e)
  (λb t e=>⟨#[],by rw[zK (j3 e d),e];simp⟩) (λm l=>?_) (λb u e=>?_) I.bare
 ·obtain⟨Y,j,i,p,r⟩:=l
  refine⟨Y,j,i,k _ Y (λz=>(U _ z).2.1 rfl) p,r⟩
 ·by_cases J:b=a
  ·subst J;rw[zO]at e;cases e;exact new
  ·rw[zK J]at e
   refine(I.f9 b u e).Dj (λc v O q=>k c v ?_ q) (λc q=>by rw[zK (j3 q d)];exact q) λc g q=>by rw[zK (j3 q d)];exact q
   rcases O with z | z
   ·rw[z];exact f b u e
   ·exact f c _ z
theorem Inv.Dk{t':Nat}{fp:List eg}(I:Inv X pins σ H s)(k : ∀b u,b∉fp->s.heap.get? b=di u->h'.get? b=di u)(O : ∀b∈fp,wZ X pins H b):Inv X pins σ H {s with heap:=h',toks:=t'}:=by
 have a : ∀b u,H b=di u->b∉fp:=λb u e z=>by rw[(O b z).1]at e;cases e
 refine I.step (g':=s.gens) (d':=s.drawn) (ch:=fp) (λb U=>⟨(O b U).2.2.2.1,(O b U).2.1,(O b U).2.2.2.2.1,(O b U).2.2.2.2.2⟩) (λb u _ _ J e _=>k b u J e) (λb u _ _ J e _=>⟨u.slots,k b u J e⟩)
  (λb u _ e n=>n) (λb u J e=>⟨u,k b u J e⟩) (λb d e=>e) (λb Y d e=>e)
  (λb j e=>⟨#[],by rw[e];simp⟩) (λm h=>?_) (λb u e=>?_) I.bare
 ·obtain⟨Y,g,f,i,r⟩:=h
  refine⟨Y,g,f,k _ Y (λz=>(O _ z).2.1 rfl) i,r⟩
 ·refine(I.f9 b u e).Dj (λc v J q=>k c v ?_ q) (λc q=>q) λc d q=>q
  rcases J with z | z
  ·rw[z];exact a b u e
  ·exact a c _ z
end
noncomputable def md(k:Sk)(K:Iy)(H:Hp)(a:eg)(xs:List V):Prop:=match k with
 | .L=>gm K H a xs
 | .T=>hG K H a xs
theorem Inv.sq(I:Inv X pins σ H s)(h:md k X.K H a xs) :
 ∃J:List eh,fy xs J/\n7 k s.heap a J.toArray/\xs.length<=f6:=by
 cases k with
 | L=>obtain⟨J,r,p,z⟩:=I.list h;exact⟨J,r,p.isList,z⟩
 | T=>obtain⟨J,r,p,z⟩:=I.tuple h;exact⟨J,r,p,z⟩
theorem Inv.RH(I:Inv X pins σ H s)(h:md k X.K H a xs)(h':md k X.K H a ys):xs=ys:=by
 cases k with
 | L=>exact I.Ru h h'
 | T=>exact I.SK h h'
noncomputable def N6(z I:Sk)(K:Iy)(a b:eg):It:=
 ⟨λi H=>∃d e,md z K H a d/\md I K H b e/\i<d.length/\i<e.length,
  λi H x f=>∃p u v,x = .ref p/\H p=d5/\f=upd H p (.tup [u,v])/\(∀d,md z K H a d->d[i]? = di u)/\(∀e,md I K H b e->e[i]? = di v),
  λi H=>∃d e,md z K H a d/\md I K H b e/\(d.length<=i\/e.length<=i)⟩
theorem gS{P:i3}{w:h8}{K:Iy}{elts:List eA}{x1:Nat}{xb:hB}(k1 k2:Sk){z TI TO Y i2 a b:eg}(D:O8 z TI TO Y i2 a b) :
 Turn P w K (.Tuple elts x1 xb) (N6 k1 k2 K a b) [z,TI,TO,Y,i2] z (λi h=>u0 h z TI TO .none/\n3 h TI (.ref Y) (.ref i2)/\(∃c d,n3 h TO c d)/\l0 k1 h Y a i/\l0 k2 h i2 b i) where
 mem:=by simp
 obj:=λi h ⟨hz,U,⟨c,d,a8⟩,h1,h2⟩ y hy=>by
  simp only[iU,Lv,or_false]at hy;rcases hy with rfl | rfl | rfl | rfl | rfl
  ·exact⟨_,hz,λv q=>by cases q⟩
  ·exact⟨_,U,λv q=>by cases q⟩
  ·exact⟨_,a8,λv q=>by cases q⟩
  ·exact h1.obj
  ·exact h2.obj
 keep:=λi h h' ⟨hz,U,⟨c,d,a8⟩,h1,h2⟩ k=>
  ⟨k z ⋯ _ hz,k TI ⋯ _ U,⟨c,d,k TO ⋯ _ a8⟩,h1.at λo e=>k Y ⋯ o e,h2.at λo e=>k i2 ⋯ o e⟩
 item:=by
  rintro X hP hw hK hc i pins s σ H E I hf ⟨hz,U,⟨c,d,a8⟩,h1,h2⟩ ⟨xs,ys,an,ap,be,bf⟩;subst hP hw hK;obtain⟨bg,b0,p1,z1⟩:=I.sq an;obtain⟨bl,b6,p2,z2⟩:=I.sq ap;have hx:xs[i]? = di xs[i]:=ID be;have hy:ys[i]? = di ys[i]:=ID bf;obtain⟨u1,bn,bt⟩:=b0.get hx;obtain⟨u2,bv,bx⟩:=b6.get hy;have hT:s.TypeIs (.ref z) "zip":=⟨_,hz,rfl⟩;unfold DY;refine IA (OY (Mj (name:=LC "__next__") hT Pg (Ms Pg hT F.entry_zip_next
   (bF D hz U a8 h1 h2 p1 p2 (x:=u1) (y:=u2) (by simpa using bn) (by simpa using bv) λg a1 a2 a3 a4 a5 a6 a7=>IK ⟨_,rfl,?_⟩) (F.args_zip_next_1 _))))
  refine wpAny_letOwnedTupleGo_zip a1 λg2 sm a9=>?_;have lt : ∀{c o},s.heap.get? c=di o->s.heap.objs.size≠c:=λe=>ML<|IT e;have c5:n3 g2 s.heap.objs.size u1 u2:=a9.extBut _ _ (lt hz) a5;have kk : ∀O u,O ∉ [z,TI,TO,Y,i2]->s.heap.get? O=di u->g2.get? O=di u:=λO u J e=>by simp only[iU,Lv,or_false,not_or]at J;exact a9.extBut _ _ J.1<|a7 O u J.1 J.2.2.1 J.2.2.2.1 J.2.2.2.2 e
  have I1:Inv X pins σ (upd H s.heap.objs.size<|.tup [xs[i],ys[i]]) {s with heap:=g2,toks:=s.toks}:=
   I.RR (fp:=[z,TI,TO,Y,i2]) kk hf (IH _) ⟨by show 2<=f6;decide,[u1,u2],.cons bt<|.cons bx .nil,⟨_,c5,rfl,_,rfl⟩⟩
  have c7:H s.heap.objs.size=d5:=I.fresh;refine⟨.ref s.heap.objs.size,_,I1,rfl,⟨_,_,_,rfl,c7,rfl,λch b7=>by rw[I.RH b7 an];exact hx,λci b7=>by rw[I.RH b7 ap];exact hy⟩,?_,λO J=>?_⟩
  ·exact⟨sm,a9.extBut _ _ D.TIz<|a7 _ _ D.TIz D.TITO D.TIi1 D.TIi2 U,⟨_,_,a9.extBut _ _ D.TOz a2⟩,a3.at λo e=>a9.extBut _ _ D.i1z e,a4.at λo e=>a9.extBut _ _ D.i2z e⟩
  ·have c8:O≠s.heap.objs.size:=by
    simp only[iU,Lv,or_false]at J;rcases J with rfl | rfl | rfl | rfl | rfl
    ·exact(lt hz).symm
    ·exact(lt U).symm
    ·exact(lt a8).symm
    ·obtain⟨o,e,_⟩:=h1.obj;exact(lt e).symm
    ·obtain⟨o,e,_⟩:=h2.obj;exact(lt e).symm
   rw[zK c8];exact(hf O J).1
 done:=by
  rintro X hP hw hK hc i pins s σ H E I hf ⟨hz,U,⟨c,d,a8⟩,h1,h2⟩ ⟨xs,ys,an,ap,hi⟩;subst hP hw hK;obtain⟨bg,b0,p1,z1⟩:=I.sq an;obtain⟨bl,b6,p2,z2⟩:=I.sq ap;have hT:s.TypeIs (.ref z) "zip":=⟨_,hz,rfl⟩;have l1:=b0.length;have l2:=b6.length;unfold DY;refine IA (OY (Mj (name:=LC "__next__") hT Pg (Ms Pg hT F.entry_zip_next
   (gO (show X.A.handled=d5 from I.ok.hd hc) D hz U a8 h1 h2 p1 p2 (by rcases hi with q | q;left;simp;omega;right;simp;omega) λg e hk he=>?_) (F.args_zip_next_1 _))))
  obtain⟨o,ho,cd⟩:=he;refine IA (wpAny_isInstance (T:="StopIteration") (b:=dn) ⟨o,ho,cd⟩ isSubtype_stop (IK ⟨rfl,?_⟩));refine I.Dk (t':=s.toks) (fp:=[z,TI,TO,Y,i2]) (λO u J e=>?_) hf;simp only[iU,Lv,or_false,not_or]at J;exact hk O u J.1 J.2.2.1 J.2.2.2.1 J.2.2.2.2 e
 self:=λ_ _ _ _ _ st h=>wpAny_pyIter_zip st.1 h
noncomputable def HQ(K:Iy)(C:TA):TI:=λh H R=>C h H λe d=>∃z I a b,e=[.ref a,.ref b]/\(∃f,md z K d a f)/\(∃g,md I K d b g)/\R (N6 z I K a b) d
theorem AF{X:Cx}{S O:eA}{ta:TA}{p pos:hB}{C:List eA}{x1:Nat}{L:hB}(hg:Gl X "zip")(hm:X.mg "zip" = d5)(ha:PA X [S,O] ta)
 (hv:Dc "zip" = di (.type "zip")) (hs:gv [S,O] X.env=[(ed,fh S X.env),(ed,fh O X.env)]:=by rfl) (Z:gv [O] X.env=[(ed,fh O X.env)]:=by rfl) :
 PI X (.Tuple C x1 L) (.Call (.Name "zip" p) [S,O] [] pos) (HQ X.K ta):=by
 intro g s A H R I h;refine D2 (yF I hg hm hv<|LY (ft (ha pos g s A H _ I h) λus d T=>?_) (by rw[hs,Z])<|by rw[Z];rfl);obtain⟨vs,k,U,r1,q1⟩:=T;obtain⟨z,J,a,b,e,⟨xs,as⟩,⟨ys,E⟩,q⟩:=q1;subst e;obtain⟨w1,w2,Q,G,M⟩:=oG r1;subst Q;cases G;cases M;obtain⟨N,bm,t,z1⟩:=U.sq as;obtain⟨P,bt,u,z2⟩:=U.sq E;have W:=t.lt;have lb:=u.lt;refine callType_new F.called_zip ⋯ (F.typeCall_zip_2 _ _) (F.newCall_zip_2 _ _) (λobj=>F.args_object_init_3 obj _ _) F.entry_zip_new (gN z J a b N.toArray P.toArray) ⟨t,u,?_⟩;have keep : ∀c o,d.heap.get? c=di o->(JX z J d.heap a b).get? c=di o:=λc o e=>
  IB _ (IB _<|IB _<|IB _<|IB _ e)
 have w:(LP d.heap<|m6 z a).objs.size=d.heap.objs.size+1:=LG ..;have x:(LP (LP d.heap<|m6 z a)<|m6 J b).objs.size=d.heap.objs.size+2:=by rw[LG,w]
 have y:(LP (LP (LP d.heap<|m6 z a)<|m6 J b)<|wB (.ref d.heap.objs.size)<|.ref<|d.heap.objs.size+1).objs.size=d.heap.objs.size+3:=by rw[LG,x]
 have y4:(LP (LP (LP (LP d.heap<|m6 z a)<|m6 J b)<|wB (.ref d.heap.objs.size)<|.ref<|d.heap.objs.size+1)<|wB .none .none).objs.size=d.heap.objs.size+4:=by rw[LG,y]
 have g0:l0 z (JX z J d.heap a b) d.heap.objs.size a 0:=(Ys z d.heap a).at λo e=>IB _<|IB _<|IB _<|IB _ e;have g1:l0 J (JX z J d.heap a b) (d.heap.objs.size+1) b 0:=by have q:=Ys J (LP d.heap<|m6 z a) b;rw[w]at q;exact q.at λo e=>IB _<|IB _<|IB _ e
 have g2:n3 (JX z J d.heap a b) (d.heap.objs.size+2) (.ref d.heap.objs.size) (.ref<|d.heap.objs.size+1):=by have q:_=di (wB (.ref d.heap.objs.size)<|.ref<|d.heap.objs.size+1):=IV (LP (LP d.heap<|m6 z a)<|m6 J b) (o:=wB (.ref d.heap.objs.size)<|.ref<|d.heap.objs.size+1) rfl;rw[x]at q;exact IB _<|IB _ q
 have g3:n3 (JX z J d.heap a b) (d.heap.objs.size+3) .none .none:=by have q:_=di (wB .none .none):=IV (LP (LP (LP d.heap<|m6 z a)<|m6 J b)<|wB (.ref d.heap.objs.size)<|.ref<|d.heap.objs.size+1) (o:=wB .none .none) rfl;rw[y]at q;exact IB _ q
 have j:u0 (JX z J d.heap a b) (d.heap.objs.size+4) (d.heap.objs.size+2) (d.heap.objs.size+3) .none:=by have q:=IV (LP (LP (LP (LP d.heap<|m6 z a)<|m6 J b)<|wB (.ref d.heap.objs.size)<|.ref<|d.heap.objs.size+1)<|wB .none .none) (o:=Ep (d.heap.objs.size+2)<|d.heap.objs.size+3) rfl;rw[y4]at q;exact q
 refine⟨⟨_,j,rfl⟩,wpAny_pyIter_zip (s:={d with heap:=JX z J d.heap a b}) j ?_⟩;have B:Inv X g A k {d with heap:=JX z J d.heap a b,toks:=d.toks}:=U.kept keep;have nn : ∀m:Nat,d.heap.objs.size≠d.heap.objs.size+m+1:=λm=>by omega
 have Y : ∀m:Nat,a≠d.heap.objs.size+m:=λm=>Lm<|Lc W<|LI _ m;have i : ∀m:Nat,b≠d.heap.objs.size+m:=λm=>Lm<|Lc lb<|LI _ m;have f : ∀m n:Nat,m≠n->(d.heap.objs.size+m:Nat)≠d.heap.objs.size+n:=λm n h=>by omega
 have D:O8 (d.heap.objs.size+4) (d.heap.objs.size+2) (d.heap.objs.size+3) d.heap.objs.size (d.heap.objs.size+1) a b:=
  ⟨f 2 4 ⋯,f 3 4 ⋯,f 0 4 ⋯,f 1 4 ⋯,f 2 3 ⋯,f 2 0 ⋯,f 2 1 ⋯,f 3 0 ⋯,f 3 1 ⋯,f 0 1 ⋯,
   Y 4,Y 3,Y 0,Y 1,i 4,i 3,i 0,i 1⟩
 refine⟨_,[d.heap.objs.size+4,d.heap.objs.size+2,d.heap.objs.size+3,d.heap.objs.size,d.heap.objs.size+1],_,_,k,rfl,B,gS z J D,⟨j,g2,⟨_,_,g3⟩,g0,g1⟩,λc r=>?_,q⟩;have l:d.heap.objs.size<=c:=by
  simp only[iU,Lv,or_false]at r;rcases r with rfl | rfl | rfl | rfl | rfl
  ·exact LI _ _
  ·exact LI _ _
  ·exact LI _ _
  ·exact IH _
  ·exact LI _ _
 exact U.Dd l<|U.f9.fresh l
noncomputable def R0(k:Sk)(K:Iy)(a:eg):It:=match k with
 | .L=>R3 K a
 | .T=>R4 K a
noncomputable def HR(K:Iy)(C:TE):TI:=λe H R=>C e H λx b=>∃a k,x = .ref a/\(∃d,md k K b a d)/\R (R0 k K a) b
theorem de(O:PE X l tl):PI X tg l (HR X.K tl):=by
 intro d s n H R I h;refine ft (O d s n H _ I h) λv f U=>?_;obtain⟨x,g,z,Y,m⟩:=U;obtain⟨a,k,e,⟨w,j⟩,q⟩:=m;subst e;cases Y;have J : ∀b ∈ [f.heap.objs.size],wZ X d g b:=λb i=>by
  have e:b=f.heap.objs.size:=by simpa using i
  subst e;exact z.Dd (IH _)<|z.f9.fresh<|IH _
 obtain⟨r,u,p,t⟩:=z.sq j;cases k with
 | L=>exact Ri p ⟨f.heap.objs.size,[f.heap.objs.size],_,_,g,rfl,z.kept (t':=f.toks) λb o e=>IB _ e,bP a _,⟨_,IV _ rfl,rfl,rfl⟩,J,q⟩
 | T=>exact ON p ⟨f.heap.objs.size,[f.heap.objs.size],_,_,g,rfl,z.kept (t':=f.toks) λb o e=>IB _ e,af a _,⟨_,IV _ rfl,rfl,rfl⟩,J,q⟩
section
variable{κ:Type} [DecidableEq κ]
noncomputable def V4(C:List (κ×V))(k:κ):Option V:=(C.find? λz=>decide<|z.1=k).map (·.2)
noncomputable def bD(C:List (κ×V))(k:κ)(v:V):List (κ×V):=
 if (C.any λz=>decide<|z.1=k)=dn then C.map (λz=>if z.1=k then (z.1,v)else z)else C++[(k,v)]
theorem Xl{p:κ×V}{r:List (κ×V)}{k:κ}(e:p.1=k):V4 (p::r) k=di p.2:=by simp[V4,MG,e]
theorem V3{p:κ×V}{r:List (κ×V)}{k:κ}(e : ¬p.1=k):V4 (p::r) k=V4 r k:=by simp[V4,MG,e]
theorem Jm(C:List (κ×V))(k:κ)(v:V):(bD C k v).length<=C.length+1:=by
 unfold bD;split
 ·rw[IU];omega
 ·rw[LJ,Mg,MR];omega
theorem u7.Sl(r:u7 o u):o.isSome=u.isSome:=by
 cases o with
 | none=>cases u with
  | none=>rfl
  | some _=>exact(show False from r).elim
 | some _=>cases u with
  | none=>exact(show False from r).elim
  | some _=>rfl
theorem KV.val{C:List (κ×V)}{vs:List (κ×eh)}(r:KV C vs)(k:κ):u7 (V4 C k) (D1 vs k):=by
 unfold KV at r
 induction r with
 | nil=>exact MZ
 | @cons p q f I h t O=>
  obtain⟨a,d⟩:=h;by_cases e:p.1=k
  ·have J:q.1=k:=a.symm.trans e
   have b:D1 (q::I) k=di q.2:=by simp[D1,MG,J]
   rw[Xl e,b];exact d
  ·have J : ¬q.1=k:=λz=>e (a.trans z)
   have b:D1 (q::I) k=D1 I k:=by simp[D1,MG,J]
   rw[V3 e,b];exact O
theorem KV.any(r:KV lU vs)(k:κ):(lU.any λz=>decide<|z.1=k)=vs.any λz=>decide (z.1=k):=by
 unfold KV at r
 induction r with
 | nil=>rfl
 | cons h t I=>rw[OP,OP,I,h.1]
theorem KV.T3(r:KV lU vs)(k:κ)(J:RelV y u) :
 KV (lU.map λI=>if I.1=k then (I.1,y)else I) (vs.map λI=>if I.1=k then (I.1,u)else I):=by
 unfold KV at r ⊢
 induction r with
 | nil=>exact .nil
 | @cons p q d U h t O=>
  rw[Ld,Ld];refine .cons ?_ O;obtain⟨a,b⟩:=h;by_cases e:p.1=k
  ·rw[RY e,RY (a.symm.trans e)];exact⟨a,J⟩
  ·rw[EQ e,EQ (λz=>e<|a.trans z)];exact⟨a,b⟩
theorem KV.put(r:KV lU vs)(k:κ)(z:RelV y u):KV (bD lU k y) (stored vs k u):=by
 unfold bD stored;rw[r.any k];by_cases e:(vs.any λI=>decide<|I.1=k)=dn
 ·rw[RY e,RY e];exact r.T3 k z
 ·rw[EQ e,EQ e];exact Paired.snoc r ⟨rfl,z⟩
theorem KV.length(r:KV lU vs):lU.length=vs.length:=Paired.length r
end
theorem mi(r:RelV (kV k) u):(xi P w).is k u=dn:=by
 cases k with
 | inl i=>obtain⟨t,e⟩:=(show ∃t,u=Pw i t from r);subst e;exact Vv P w i t
 | inr x=>obtain⟨t,e⟩:=(show ∃t,u=Pu x t from r);subst e;exact Vu P w x t
theorem Yr : ∀{ks:List Key} {us:List eh},fy (ks.map kV) us->ItemsAre (xi P w) ks us
 | [],_,r=>by rw[OW]at r;cases r;exact .nil
 | k::ks,_,r=>by
  rw[Ld]at r;cases r with
  | cons h t=>exact .cons (mi h)<|Yr t
abbrev KT(H:Hp):List (List Key×V)->List (List Key×eg×eh)->Prop:=Paired λp q=>p.1=q.1/\H q.2.1=di (.tup (p.1.map kV))/\RelV p.2 q.2.2
theorem KT.val{H:Hp}{C:List (List Key×V)}{xs:List (List Key×eg×eh)}(r:KT H C xs)(k:List Key):u7 (V4 C k) ((DN xs k).map (·.2)):=by
 induction r with
 | nil=>exact MZ
 | @cons p q f I h t O=>
  obtain⟨a,_,d⟩:=h;by_cases e:p.1=k
  ·have J:q.1=k:=a.symm.trans e
   have b:DN (q::I) k=di q.2:=by simp[DN,MG,J]
   rw[Xl e,b];exact d
  ·have J : ¬q.1=k:=λz=>e (a.trans z)
   have b:DN (q::I) k=DN I k:=by simp[DN,MG,J]
   rw[V3 e,b];exact O
section
variable{P:i3}{w:h8}{H:Hp}{h:f7}{a:eg}
theorem Af(ok:lC P w H h)(e:Rd H a u):la P w H h a u:=e.ok ok
theorem mF(ok:lC P w H h)(e:Rd H a (.dK lU)):lU.length<=f6/\(a==C2)=ed/\∃vs,KV lU vs/\h.DictOf (xi P w) a vs:=
 show la P w H h a (.dK lU)from Af ok e
theorem Fx(ok:lC P w H h)(e:H a=di (.dK lU)):lU.length<=f6/\(a==C2)=ed/\∃vs,KV lU vs/\h.DictOf (xi P w) a vs:=mF ok<|.inl e
theorem eO(ok:lC P w H h)(e:H a=di (.tup<|ks.map kV)):(SJ<|xi P w).is h ks a:=by obtain⟨_,z,r,o,b,d,n,I⟩:=(show la P w H h a (.tup<|ks.map kV)from ok a _ e);exact⟨o,z.toArray,n,b,(Prod.mk.inj d).1,I,by simpa using Yr r⟩
theorem sF(ok:lC P w H h)(e:Rd H a (.dT lU)):lU.length<=f6/\(a==C2)=ed/\
 ∃xs,KT H lU xs/\h.DictOfH (SJ<|xi P w) a xs:=by
 obtain⟨z,y,xs,r,o,b,J,d,f,O,U,Y⟩:=(show la P w H h a (.dT lU)from Af ok e);refine⟨z,y,xs,r,o,b,J,d,f,O,U,λx hx=>?_,Y⟩;have all : ∀{l:List (List Key×V)} {m:List (List Key×eg×eh)},KT H l m->∀x∈m,(SJ<|xi P w).is h x.1 x.2.1:=by
  intro l m q
  induction q with
  | nil=>intro x hx;exact nomatch hx
  | @cons p q i j I t g=>
   intro x hx;rcases iU.mp hx with e | hx
   ·subst e
    exact eO ok (by rw[<- I.1];exact I.2.1)
   ·exact g x hx
 exact all r x hx
end
noncomputable def Cn(H:Hp)(a:eg)(y:V)(r:Option V):Prop:=
 (∃d k,Rd H a (.dK d)/\y=kV k/\r=V4 d k)\/∃d k b,Rd H a (.dT d)/\y = .ref b/\H b=di (.tup<|k.map kV)/\r=V4 d k
section
variable{X:Cx}{pins:RW}{σ:St}{H:Hp}{s:eF}{a:eg}{y v:V}{u r:eh}{o:Option V}{A:mm}{E:RQ}
theorem Inv.big(I:Inv X pins σ H s):C2<s.heap.objs.size:=by have h:vu<s.heap.objs.size:=(I.mod.glob.keeps I.bk).lt;exact Nat.lt_trans ⋯ h
theorem fI(S:A.units+1<y3)(I:Inv X pins σ H s)(g:Cn H a y (di v))(C:RelV y u)(h : ∀w' L,Inv X pins σ H L->RelV v w'->Q w' L) :
 wpAny (e9 X.prog X.w) A (B5 (.ref a) u) Q E s:=by
 rcases g with⟨f,k,e,J,l⟩ | ⟨f,k,b,e,J,j,l⟩
 ·subst J
  obtain⟨z,m,r,O,U⟩:=mF I.f9 e;obtain⟨w',d,Y⟩:=u7.some_of (v:=v) (o:=D1 r k) (by rw[l];exact O.val k);exact wpAny_getItem_of (mi C) U.mapOf d<|h w' _ (I.tok _) Y
 ·subst J
  cases (show u=Mm b from C);obtain⟨z,m,t,O,U⟩:=sF I.f9 e;obtain⟨w',d,Y⟩:=u7.some_of (v:=v) (o:=(DN t k).map (·.2)) (by rw[l];exact O.val k);obtain⟨p,n,i⟩:=Option.map_eq_some_iff.mp d;refine wpAny_getItem_heap (Ud S) (eO I.f9 j) U n ?_;rw[i];exact h w' _ (I.tok _) Y
theorem HU(L:A.units+1<y3)(I:Inv X pins σ H s)(g:Cn H a y o)(Y:RelV y u)(h : ∀C,Inv X pins σ H C->Q (.bool o.isSome) C) :
 wpAny (e9 X.prog X.w) A (l7 .In u<|.ref a) Q E s:=by
 rcases g with⟨f,k,e,J,l⟩ | ⟨f,k,b,e,J,i,l⟩
 ·subst J
  obtain⟨z,d,j,O,U⟩:=mF I.f9 e;refine wpAny_in_of (mi Y) d U.mapOf ?_;rw[<- (O.val k).Sl,<- l];exact h _<|I.tok _
 ·subst J
  cases (show u=Mm b from Y);obtain⟨z,d,m,O,U⟩:=sF I.f9 e;refine wpAny_in_heap (Ud L) (eO I.f9 i) d U ?_;have q:=(O.val k).Sl;rw[Option.isSome_map]at q;rw[<- q,<- l];exact h _<|I.tok _
theorem sI(I:Inv X pins σ H s)(J:D7 (H a))(O:NY a s.heap h')(U : ∃q,h'.get? a=di q)(new:la X.prog X.w (upd H a ob) h' a ob) :
 Inv X pins σ (upd H a ob) {s with heap:=h',toks:=t'}:=
 I.write (x:=a) (e:=a) J (.inl rfl) (λb q Y z=>(O.2 b Y).trans z) U new
theorem BJ(z:lU.length<=f6)(C:(a==C2)=ed)(I:KV lU vs)(J:h'.DictOf (xi P w) a vs) :
 la P w H' h' a (.dK lU):=⟨z,C,vs,I,J⟩
end
noncomputable def Gk(i:eA):Prop:=∀z I,RL i ed z I=operate [z,I] (B5 z I)
theorem pv{prog:i3}{w:h8}{A:mm}{E:RQ}{s:eF}{env:nf}{C z:eA}{pos:hB}{T id:String}{Q:RQ}
 (L:N0 (.type T) "__getitem__" = pure (di (.builtin id))) (S:Gk z)
 (h:wpAny (e9 prog w) A (fh C env) (λo U=>wpAny (e9 prog w) A (fh z env) (λi I=>I.TypeIs o T/\wpAny (e9 prog w) A (B5 o i) Q E I) E U) E s) :
 wpAny (e9 prog w) A (fh (.Subscript C z pos) env) Q E s:=by
 refine R8<|MI h (λo U b=>MI b (λi I J=>?_) λ_ _ x=>x) λ_ _ x=>x;obtain⟨Y,J⟩:=J;unfold SD;refine IA ?_;rw[getitemInPython_of_ne Y.not_modules];refine IA<|wpAny_specialOf Y L ?_;have O:wpAny (e9 prog w) A (RL z ed o i) (λr a=>wpAny (e9 prog w) A (letTemporaryGo C o r >>= λ_=>pure r) Q E a) E I:=by rw[S o i];exact wpAny_operating<|MI J (λr a d=>IA<|wpAny_letTemporaryGo<|IK d) λ_ _ x=>x
 first
  | exact IK<|IA O
  | exact IA<|IK<|IA O
  | exact IA O
theorem VN(I:Inv X pins σ H s)(g:Cn H a y o):s.TypeIs (.ref a) "dict":=by
 rcases g with⟨d,k,e,_,_⟩ | ⟨d,k,b,e,_,_,_⟩
 ·obtain⟨_,_,f,_,z⟩:=mF I.f9 e
  exact z.typeIs
 ·obtain⟨_,_,h,_,z⟩:=sF I.f9 e
  exact z.typeIs
noncomputable def EB(C ty:TE):TE:=λd H Q=>C d H λx e=>ty d e λy b=>∃a v,x = .ref a/\Cn b a y (di v)/\Q v b
noncomputable def Hw(ty C:TE):TE:=λd H Q=>ty d H λy e=>C d e λx b=>∃a o,x = .ref a/\Cn b a y o/\Q (.bl o.isSome) b
section
variable{X:Cx}{o i e value:eA}{pos pos' xb:hB}{td ty tv:TE}
theorem rE(J:X.A.units+1<y3)(O:PE X o td)(hi:PE X i ty)(U:Gk i):PE X (.Subscript o i pos) (EB td ty):=by intro b s d H Q I h;refine pv PySem.F.slot_dict_getitem.lookup U<|ft (O b s d H _ I h) λu t ⟨x,e,Y,p,m⟩=>ft (hi b t d e _ Y m) λw B ⟨y,f,z,r,a,v,l,g,n⟩=>?_;subst l;obtain rfl:u=Mm a:=p;exact⟨VN z g,fI J z g r λE C j k=>⟨v,f,j,k,n⟩⟩
theorem AS(z:X.A.units+1<y3)(hi:PE X i ty)(J:PE X o td):PC X .In i o (Hw ty td):=by intro b s d H Q I h;refine ft (hi b s d H _ I h) λt r ⟨y,e,O,U,Y⟩=>ft (J b r d e _ O Y) λu w ⟨x,f,j,p,a,m,l,g,n⟩=>?_;subst l;obtain rfl:u=Mm a:=p;exact HU z j g U λB k=>⟨.bl m.isSome,f,k,rfl,n⟩
end
theorem mG(h:f7)(z:C2<h.objs.size):la P w H (h.push {cls:= .type "dict",data:= .dict #[]}) h.objs.size (.dK []):=
 ⟨LL _,beq_eq_false_iff_ne.mpr<|Ll<|Lm z,[],.nil,Heap.DictOf.new h⟩
end L2
namespace DL
open PySem PySem.Spec PyProof.Rows L2
noncomputable def N1:List Str:=["NoPrime","Nought","NoTable","NoWidths","NoRow","Unlike","TooMany","NoTurn","NoLine","Nothing","NoArrow","NoText","NoRoom"]
noncomputable def ug(K:Iy)(c:Str):Option eg:=match PySem.W.nsIn K vu c with
 | some (di (.ref C))=>di C
 | _=>d5
noncomputable def Hl(K:Iy)(C:eg):Bool:=
 ["int","bool","str","tuple","list"].all (λt=>Nr K (.ref C) (.type t)==di ed) && Nr K (.ref C) (.type "ValueError")==di dn &&
 Oq K (.ref C) "__getattribute__" == di (di (.builtin "BaseException.__getattribute__")) && Oq K (.ref C) "__getattr__" == di d5 &&
 Oq K (.ref C) "__class__" == di (di (.builtin "object.__class__")) && PySem.W.mroIn K C (.type "object")==di dn && PySem.W.mroIn K C (.type "BaseException")==di dn &&
 PySem.W.specialIn K (.builtin "object.__class__") "__get__" == di (di (.builtin "getset_descriptor.__get__")) && PySem.W.takesIn K (.builtin "object.__class__")==di dn &&
 (PySem.W.clsIn K C).any (λz=> !z.hasDel) && PySem.W.typeIn K (.ref C)==di (.type "type")
noncomputable def Gn(K:Iy):Bool:=match ug K "SplitError" with
 | some S=>N1.all λc=>match ug K c with
  | some C=>Hl K C && Nr K (.ref C) (.ref S)==di dn && N1.all λz=>match ug K z with
   | some I=>Nr K (.ref C) (.ref I)==di (c==z)
   | none=>ed
  | none=>ed
 | none=>ed
noncomputable def Ia(h:f7)(a:eg)(C:eg):Prop:=∃o b,h.get? a=di o/\o.cls = .ref C/\o.data = .fields b
structure O7(K:Iy)(H:Hp)(c:Str)(n:Option Int)(a:eg):Prop where
 all:Gn K=dn
 mem:c∈N1
 ex : ∃C φ,ug K c=di C/\H a=di (.ext φ)/\(∀h,φ h->Ia h a C)/\
  match n with
  | none=>True
  | some i=>∃d,(∀h,φ h->∃o,h.get? a=di o/\o.dict=di d)/\H d=di (.xd [(if c==("NoRoom" : Str)then "room" else "at",.int i)])
theorem O7.mono{K:Iy}{H H':Hp}{c:Str}{n:Option Int}{a:eg}(e : ∀b o,H b=di o->H' b=di o)(h:O7 K H c n a):O7 K H' c n a:=by
 obtain⟨f,g,C,j,I,g2,J,z⟩:=h;refine⟨f,g,C,j,I,e _ _ g2,J,?_⟩;cases n with
 | none=>exact z
 | some i=>obtain⟨d,O,U⟩:=z;exact⟨d,O,e _ _ U⟩
abbrev St:=L2.St
noncomputable def Bt:D->Option Key
 | .int i=>di (.inl i)
 | .str x=>di (.inr x)
 | _=>d5
noncomputable def Ym:List D->Option (List Key)
 | []=>di []
 | d::ds=>(Bt d).bind λk=>(Ym ds).map λr=>k::r
noncomputable def Dn(H:Hp)(a:eg)(ks:List D)(xs:List V):Prop:=∃b,Ym ks=di b/\b.length=xs.length/\H a=di (.dK<|b.zip xs)
noncomputable def Eu(k:List Int):Int:=reduceHash<|Builtin.Tuple.tupleHashOf<|k.map hashInt
noncomputable def Ih(o:nr)(xs:List (List Int×eg×eh)):Prop:=o.ExactDict/\∃a z,o.data = .dict a z/\a.toList=xs.map (λx=>⟨Eu x.1,.ref x.2.1,x.2.2⟩)/\(xs.map (·.1)).Nodup
noncomputable def R9(a:eg)(o:nr):HO:= .ext λh=>h.get? a=di o
noncomputable def G8(K:Iy)(H:Hp)(a:eg)(ks:List (List Int))(ys:List V):Prop:=
 (a==C2)=ed/\∃o b,H a=di (R9 a o)/\Ih o b/\b.map (·.1)=ks/\b.length<=f6/\(∀x∈b,hG K H x.2.1<|x.1.map V.int)/\fy ys (b.map (·.2.2))
mutual
def Rep(K:Iy)(H:Hp):D->V->Prop
 | .el,v=>v = .el
 | .bl b,v=>v = .bl b
 | .int i,v=>v = .int i
 | .str x,v=>v = .str x
 | .tup ds,v=>∃a d,v = .ref a/\hG K H a d/\ej K H ds d
 | .lst ds,v=>∃a d,v = .ref a/\gm K H a d/\ej K H ds d
 | .l4 ks vs,v=>∃a d,v = .ref a/\Dn H a ks d/\ej K H vs d
 | .lh ks vs,v=>∃a d,v = .ref a/\G8 K H a ks d/\ej K H vs d
def ej(K:Iy)(H:Hp):List D->List V->Prop
 | [],xs=>xs=[]
 | d::ds,xs=>∃x r,xs=x::r/\Rep K H d x/\ej K H ds r
end
theorem m4{K:Iy}{H H':Hp}{a:eg}{xs:List V}(e:gR H H')(h:hG K H a xs):hG K H' a xs:=by
 rcases h with(h | ⟨o,h⟩) | h
 ·exact .inl<|.inl<|e _ _ h
 ·exact .inl<|.inr ⟨o,e _ _ h⟩
 ·exact .inr h
theorem KF{k:Sk}{K:Iy}{H H':Hp}{a:eg}{xs:List V}(e:gR H H')(h:md k K H a xs):md k K H' a xs:=by
 cases k
 ·exact e.seq h
 ·exact m4 e h
mutual
theorem Rep.mono{K:Iy}{H H':Hp}(e:gR H H') : ∀{d:D} {v:V},Rep K H d v->Rep K H' d v
 | .el,_,h=>h
 | .bl _,_,h=>h
 | .int _,_,h=>h
 | .str _,_,h=>h
 | .tup ds,v,h=>by obtain⟨a,b,f,i,g⟩:=(show ∃a b,v = .ref a/\hG K H a b/\ej K H ds b from h);exact(show ∃a b,v = .ref a/\hG K H' a b/\ej K H' ds b from⟨a,b,f,m4 e i,ej.mono e g⟩)
 | .lst ds,v,h=>by obtain⟨a,b,f,i,g⟩:=(show ∃a b,v = .ref a/\gm K H a b/\ej K H ds b from h);exact(show ∃a b,v = .ref a/\gm K H' a b/\ej K H' ds b from⟨a,b,f,e.seq i,ej.mono e g⟩)
 | .l4 ks vs,v,h=>by obtain⟨a,b,f,⟨k,z,g2,I⟩,g⟩:=(show ∃a b,v = .ref a/\Dn H a ks b/\ej K H vs b from h);exact(show ∃a b,v = .ref a/\Dn H' a ks b/\ej K H' vs b from⟨a,b,f,⟨k,z,g2,e _ _ I⟩,ej.mono e g⟩)
 | .lh ks vs,v,h=>by obtain⟨a,b,f,⟨z,o,l,g2,I,J,O,g6,U⟩,g⟩:=(show ∃a b,v = .ref a/\G8 K H a ks b/\ej K H vs b from h);exact(show ∃a b,v = .ref a/\G8 K H' a ks b/\ej K H' vs b from⟨a,b,f,⟨z,o,l,e _ _ g2,I,J,O,λx j=>m4 e<|g6 x j,U⟩,ej.mono e g⟩)
theorem ej.mono{K:Iy}{H H':Hp}(e:gR H H') : ∀{ds:List D} {xs:List V},ej K H ds xs->ej K H' ds xs
 | [],_,h=>h
 | d::ds,xs,h=>by obtain⟨x,r,a,b,f⟩:=(show ∃x r,xs=x::r/\Rep K H d x/\ej K H ds r from h);exact(show ∃x r,xs=x::r/\Rep K H' d x/\ej K H' ds r from⟨x,r,a,Rep.mono e b,ej.mono e f⟩)
end
section
variable{K:Iy}{H:Hp}
theorem ej.nil:ej K H [] []:=(show([]:List V)=[]from rfl)
theorem ej.cons(h:Rep K H d x)(t:ej K H ds xs):ej K H (d::ds) (x::xs):=⟨x,xs,rfl,h,t⟩
theorem ej.o6(h:ej K H [] xs):xs=[]:=h
theorem ej.ml(h:ej K H (d::ds) xs) : ∃x r,xs=x::r/\Rep K H d x/\ej K H ds r:=h
theorem ej.length : ∀{ds:List D} {xs:List V},ej K H ds xs->xs.length=ds.length
 | [],xs,h=>by rw[h.o6];rfl
 | d::ds,xs,h=>by obtain⟨x,r,e,_,t⟩:=h.ml;rw[e,Mg,Mg,ej.length t]
theorem ej.get : ∀{ds:List D} {xs:List V} {i:Nat} {d:D},ej K H ds xs->ds[i]? = di d->∃x,xs[i]? = di x/\Rep K H d x
 | [],_,_,_,_,e=>by simp at e
 | c::ds,xs,0,d,h,e=>by obtain⟨x,r,a,b,_⟩:=h.ml;simp at e;subst e;exact⟨x,by rw[a];rfl,b⟩
 | c::ds,xs,i+1,d,h,e=>by obtain⟨x,r,a,_,t⟩:=h.ml;obtain⟨y,z,g2⟩:=ej.get (i:=i) (d:=d) t (by simpa using e);exact⟨y,by rw[a];simpa using z,g2⟩
theorem ej.Dz{ds:List D}{xs:List V}{i:Nat}{x:V}(h:ej K H ds xs)(e:xs[i]? = di x) : ∃d,ds[i]? = di d/\Rep K H d x:=by
 have b:i<ds.length:=by rw[<- h.length];exact(IP.mp e).1
 obtain⟨y,a,r⟩:=h.get<|ID b;rw[e]at a;cases a;exact⟨_,ID b,r⟩
theorem ej.append : ∀{ds C:List D} {xs ys:List V},ej K H ds xs->ej K H C ys->ej K H (ds++C) (xs++ys)
 | [],_,xs,_,h,g=>by rw[h.o6];exact g
 | d::ds,C,xs,ys,h,g=>by obtain⟨x,r,e,a,t⟩:=h.ml;rw[e];exact ej.cons a<|ej.append t g
theorem ej.drop : ∀{ds:List D} {xs:List V} (n:Nat),ej K H ds xs->ej K H (ds.drop n) (xs.drop n)
 | _,_,0,h=>h
 | [],xs,n+1,h=>by rw[h.o6];exact ej.nil
 | d::ds,xs,n+1,h=>by obtain⟨x,r,e,_,t⟩:=h.ml;rw[e];exact ej.drop n t
theorem ej.take : ∀{ds:List D} {xs:List V} (n:Nat),ej K H ds xs->ej K H (ds.take n) (xs.take n)
 | _,_,0,h=>by simp;exact ej.nil
 | [],xs,n+1,h=>by rw[h.o6];exact ej.nil
 | d::ds,xs,n+1,h=>by obtain⟨x,r,e,a,t⟩:=h.ml;rw[e];exact ej.cons a<|ej.take n t
theorem ej.set : ∀{ds:List D} {xs:List V} {d:D} {x:V} (i:Nat),ej K H ds xs->Rep K H d x->ej K H (ds.set i d) (xs.set i x)
 | [],xs,_,_,_,h,_=>by rw[h.o6];exact ej.nil
 | c::ds,xs,d,x,0,h,g=>by obtain⟨y,r,e,_,t⟩:=h.ml;rw[e];exact ej.cons g t
 | c::ds,xs,d,x,i+1,h,g=>by obtain⟨y,r,e,a,t⟩:=h.ml;rw[e];exact ej.cons a<|ej.set i t g
end
structure Ext(H0 H xc H':Hp):Prop where
 s0:gR H0 xc
 s1:gR H H'
 sub:gR xc H'
 new : ∀a,H0 a=d5->H a≠d5->xc a=d5
theorem Ext.refl(s:gR H0 H):Ext H0 H H0 H:=⟨gR.refl _,gR.refl _,s,λ_ h _=>h⟩
theorem Ext.trans(a:Ext H0 H H1 G1)(b:Ext H1 G1 H2 G2):Ext H0 H H2 G2:=
 ⟨a.s0.trans b.s0,a.s1.trans b.s1,b.sub,λc e d=>b.new c (a.new c e d) (by
  cases q:H c with
  | none=>exact absurd q d
  | some o=>rw[a.s1 c o q];simp)⟩
theorem je(h:H p=d5)(o:HO):gR H (upd H p o):=λb u q=>by rw[zK (j3 q h)];exact q
theorem jw(s:gR H0 H)(h:H p=d5):H0 p=d5:=s.free h
theorem cC(s:gR H0 H):gR (upd H0 p o) (upd H p o):=λb u q=>by
 by_cases e:b=p
 ·subst e;rw[zO]at q ⊢;exact q
 ·rw[zK e]at q ⊢;exact s b u q
theorem Ext.alloc(s:gR H0 H)(h:H p=d5)(o:HO):Ext H0 H (upd H0 p o) (upd H p o):=
 ⟨je (jw s h) o,je h o,cC s,λa b d=>by rw[zK (λe=>d<|by rw[e];exact h)];exact b⟩
theorem Ext.hide(s:gR H0 H)(h:H p=d5)(o:HO):Ext H0 H H0 (upd H p o):=
 ⟨gR.refl _,je h o,s.trans<|je h o,λa b _=>b⟩
theorem Ext.show(e:Ext H0 H xc H')(C:H a=d5)(L:xc a=d5)(J:H' a=di o)(s:gR H0 H):Ext H0 H (upd xc a o) H':=
 ⟨e.s0.trans<|je L o,e.s1,λb u q=>by
  by_cases z:b=a
  ·subst z;rw[zO]at q;rw[J];exact q
  ·rw[zK z]at q;exact e.sub b u q,λb O I=>by
  rw[zK (λz=>I<|by rw[z];exact C)];exact e.new b O I⟩
structure u6(K:Iy)(H0 H:Hp)(rows:List (List D))(a:eg)(bs:List eg):Prop where
 a0:H0 a=d5
 ha:H a=di (.lst<|bs.map V.ref)
 nd:(a::bs).Nodup
 len:bs.length=rows.length
 row : ∀(k:Nat) b row,bs[k]? = di b->rows[k]? = di row->H0 b=d5/\∃xs,H b=di (.lst xs)/\ej K H0 row xs
theorem u6.at{K:Iy}{H0 H:Hp}{C:List (List D)}{a:eg}{bs:List eg}(n:u6 K H0 H C a bs){b:eg}(z:b∈a::bs):H0 b=d5/\∃xs,H b=di (.lst xs):=by
 rcases iU.mp z with rfl | z
 ·exact⟨n.a0,_,n.ha⟩
 ·obtain⟨k,I⟩:=Pf z
  have J:=(IP.mp I).1;rw[n.len]at J;obtain⟨d,xs,e,_⟩:=n.row k b _ I<|ID J;exact⟨d,xs,e⟩
theorem u6.move{K:Iy}{H0 H L H':Hp}{C:List (List D)}{a:eg}{bs:List eg}(n:u6 K H0 H C a bs)(s:gR H0 L)(z : ∀b∈a::bs,L b=d5)(h : ∀b∈a::bs,H' b=H b):u6 K L H' C a bs:=
 ⟨z a IQ,by rw[h a IQ];exact n.ha,n.nd,n.len,λk b row I O=>by obtain⟨_,e,d,U⟩:=n.row k b row I O;have J:b∈a::bs:=IM _<|LB I;exact⟨z b J,e,by rw[h b J];exact d,U.mono s⟩⟩
noncomputable def o4(K:Iy)(H0 H:Hp)(C:St)(γ:Ctx):Prop:=
 (∀(i:Nat) b,γ[i]? = di (.nest b)->∃a bs,C[i]? = di (di (.ref a))/\u6 K H0 H b a bs/\∀(j:Nat) d c,γ[j]? = di (.own d)->C[j]? = di (di (.ref c))->c∉a::bs)/\
 ∀(i j:Nat) z e,γ[i]? = di (.nest z)->γ[j]? = di (.nest e)->i=j
theorem o4.DW{K:Iy}{H0 H:Hp}{I:St}{γ:Ctx}(h : ∀(i:Nat) C,γ[i]? ≠ di (.nest C)):o4 K H0 H I γ:=⟨λi C e=>absurd e<|h i C,λi j z a e=>absurd e<|h i z⟩
theorem o4.move{K:Iy}{H0 H J H':Hp}{L:St}{γ:Ctx}(n:o4 K H0 H L γ)(s:gR H0 J)(h : ∀(i:Nat) C a bs,γ[i]? = di (.nest C)->L[i]? = di (di (.ref a))->u6 K H0 H C a bs->(∀(j:Nat) ds c,γ[j]? = di (.own ds)->L[j]? = di (di (.ref c))->c∉a::bs)->∀b∈a::bs,J b=d5/\H' b=H b):o4 K J H' L γ:=
 ⟨λi C e=>by obtain⟨a,bs,d,f,z⟩:=n.1 i C e;exact⟨a,bs,d,f.move s (λb I=>(h i C a bs e d f z b I).1)<|λb I=>(h i C a bs e d f z b I).2,z⟩,n.2⟩
theorem o4.ext{K:Iy}{H0 H C H':Hp}{J:St}{γ:Ctx}(n:o4 K H0 H J γ)(e:Ext H0 H C H'):o4 K C H' J γ:=
 n.move e.s0 λi d a bs _ _ f _ b z=>by obtain⟨I,g,g2⟩:=f.at z;exact⟨e.new b I (by rw[g2];simp),by rw[e.s1 b _ g2,g2]⟩
structure RC(K:Iy)(H0 H:Hp)(σ:St)(γ:Ctx):Prop where
 sub:gR H0 H
 len:σ.length=γ.length
 val : ∀(i:Nat) d,γ[i]? = di (.val d)->∃v,σ[i]? = di (di v)/\Rep K H0 d v
 own : ∀(i:Nat) ds,γ[i]? = di (.own ds)->∃a xs,σ[i]? = di (di (.ref a))/\H0 a=d5/\H a=di (.lst xs)/\ej K H0 ds xs
 ne : ∀(i j:Nat) a ds es,γ[i]? = di (.own ds)->γ[j]? = di (.own es)->σ[i]? = di (di (.ref a))->σ[j]? = di (di (.ref a))->i=j
 m7:o4 K H0 H σ γ
theorem RC.ext{K:Iy}{H0 H C H':Hp}{J:St}{γ:Ctx}(r:RC K H0 H J γ)(e:Ext H0 H C H'):RC K C H' J γ:=
 ⟨e.sub,r.len,λi d h=>let ⟨v,b,f⟩:=r.val i d h;⟨v,b,f.mono e.s0⟩,
  λi g h=>let ⟨a,j,b,f,z,I⟩:=r.own i g h;⟨a,j,b,e.new a f (by rw[z];simp),e.s1 _ _ z,I.mono e.s0⟩,r.ne,r.m7.ext e⟩
noncomputable def tV(K:Iy)(f:CO D):TE:=λh H Q=>∃e g d,RC K e H h g/\f g=di d/\∀v b a,Ext e H a b->Rep K a d v->Q v b
noncomputable def tQ(K:Iy)(f:CO (Sk×List D)):TE:=λj H Q=>∃g i k h,RC K g H j i/\f i=di (k,h)/\∀a e d b,Ext g H b d->md k K d a e->(k = .T->hG K b a e)->ej K b h e->Q (.ref a) d
noncomputable def tO(K:Iy)(f:CO (List D)):TE:=λj H Q=>∃e i g,RC K e H j i/\f i=di g/\
 ∀a h d b,Ext e H b d->H a=d5->b a=d5->d a=di (.lst h)->ej K b g h->Q (.ref a) d
noncomputable def tT(K:Iy)(f:CO Bool):TT:=λh H Q=>∃e g b,RC K e H h g/\f g=di b/\∀d a,Ext e H a d->Q b d
noncomputable def tA(K:Iy)(f:CO (List D)):TA:=λi H Q=>∃d h e,RC K d H i h/\f h=di e/\∀g b a,Ext d H a b->ej K a e g->Q g b
abbrev PV(X:Cx)(e:eA)(f:CO D):Prop:=PE X e (tV X.K f)
abbrev PQ(X:Cx)(e:eA)(f:CO (Sk×List D)):Prop:=PE X e (tQ X.K f)
abbrev PO(X:Cx)(e:eA)(f:CO (List D)):Prop:=PE X e (tO X.K f)
abbrev l9(X:Cx)(e:eA)(f:CO Bool):Prop:=PT X e (tT X.K f)
abbrev Dt(X:Cx)(e:eA)(f:CO Bool):Prop:=PW X e (tT X.K f)
abbrev A9(X:Cx)(es:List eA)(f:CO (List D)):Prop:=PA X es (tA X.K f)
theorem j9(h:PE X e t)(i : ∀C H Q,t' C H Q->t C H Q):PE X e t':=λa s C H Q I q=>h a s C H Q I<|i C H Q q
theorem Vg(h:PT X e t)(i : ∀C H Q,t' C H Q->t C H Q):PT X e t':=λa s C H Q I q=>h a s C H Q I<|i C H Q q
theorem Al(h:PW X e t)(i : ∀C H Q,t' C H Q->t C H Q):PW X e t':=λz a s C H Q I q=>h z a s C H Q I<|i C H Q q
theorem AV(h:PA X es t)(i : ∀C H Q,t' C H Q->t C H Q):PA X es t':=λpos a s C H Q I q=>h pos a s C H Q I<|i C H Q q
theorem ke{X:Cx}{st:kv}{t t':TS}(h:PS X st t)(i : ∀D C H,t' D C H->t D C H):PS X st t':=λa s C H D I q=>h a s C H D I<|i D C H q
theorem nI{X:Cx}{st:List kv}{t t':TS}(h:p9 X st t)(i : ∀D C H,t' D C H->t D C H):p9 X st t':=λa s C H D I q=>h a s C H D I<|i D C H q
theorem K4(h:PI X tg e t)(i : ∀C H R,t' C H R->t C H R):PI X tg e t':=λa s C H R I q=>h a s C H R I<|i C H R q
theorem k5(h:n<=lim):n<=f6:=LN h ⋯
section
variable{X:Cx}{e a b c:eA}{pos:hB}
theorem PV.q(h:PV X e f):PQ X e (zF f):=j9 h λs H Q U=>by
 obtain⟨p,o,k,i,rc,I,q⟩:=U;unfold zF at I;cases e1:f o with
 | none=>rw[e1]at I;cases I
 | some d=>
  rw[e1]at I;refine⟨p,o,d,rc,e1,λv n b ext r=>?_⟩;cases d with
  | tup l=>
   obtain⟨J,O⟩:k = .T/\i=l:=by simp[jA]at I;exact⟨I.1.symm,I.2.symm⟩
   subst J O;obtain⟨a,g,rfl,j,m⟩:=(show ∃a g,v = .ref a/\hG X.K b a g/\ej X.K b i g from r);exact q a g n b ext (m4 ext.sub j) (λ_=>j) m
  | lst l=>
   obtain⟨J,O⟩:k = .L/\i=l:=by simp[jA]at I;exact⟨I.1.symm,I.2.symm⟩
   subst J O;obtain⟨a,g,rfl,j,m⟩:=(show ∃a g,v = .ref a/\gm X.K b a g/\ej X.K b i g from r);exact q a g n b ext (ext.sub.seq j) (λz=>nomatch z) m
  | _=>simp[jA]at I
theorem PO.v(h:PO X e f):PV X e (jX f):=j9 h λo H Q O=>by
 obtain⟨j,i,d,rc,z,q⟩:=O;unfold jX at z;cases e1:f i with
 | none=>rw[e1]at z;cases z
 | some b=>
  rw[e1]at z;cases z;refine⟨j,i,b,rc,e1,λa m n k ext l g U r=>?_⟩;exact q _ _ _ (ext.show l g U rc.sub) (show ∃I J,V.ref a = .ref I/\gm X.K _ I J/\ej X.K _ b J from⟨a,m,rfl,gm.of zO,r.mono<|je g _⟩)
theorem PO.q(h:PO X e f):PQ X e (jF f):=j9 h λp H Q J=>by
 obtain⟨i,d,k,l,rc,I,q⟩:=J;unfold jF at I;cases e1:f d with
 | none=>rw[e1]at I;cases I
 | some m=>
  rw[e1]at I;cases I;exact⟨i,d,_,rc,e1,λa j g b ext n o O r=>q a j g b ext (gm.of O) (λz=>nomatch z) r⟩
theorem Am(i:Nat)(h:PE X e (tU i)):PV X e (zf i):=j9 h λm H Q I=>by
 obtain⟨b,j,d,rc,z,q⟩:=I;unfold zf at z;cases e1:j[i]? with
 | none=>rw[e1]at z;cases z
 | some c=>
  rw[e1]at z;cases c with
  | val k=>
   cases z;obtain⟨v,f,g⟩:=rc.val i d e1;exact⟨v,f,q v H b (Ext.refl rc.sub) g⟩
  | no=>cases z
  | own l=>cases z
  | nest a=>cases z
theorem AC(i:Nat)(h:PE X e (tU i)):PQ X e (zg i):=j9 h λs H Q Y=>by
 obtain⟨f,r,k,g,rc,I,q⟩:=Y;unfold zg at I;cases e1:r[i]? with
 | none=>rw[e1]at I;cases I
 | some c=>
  rw[e1]at I;cases c with
  | no=>cases I
  | nest n=>cases I
  | own j=>
   cases I;obtain⟨a,b,l,m,o,p⟩:=rc.own i g e1;exact⟨_,l,q a b H f (Ext.refl rc.sub) (gm.of o) (λz=>nomatch z) p⟩
  | val d=>
   obtain⟨v,l,m⟩:=rc.val i d e1;refine⟨v,l,?_⟩;cases d with
   | tup j=>
    obtain⟨O,U⟩:k = .T/\g=j:=by simp[vp,jA]at I;exact⟨I.1.symm,I.2.symm⟩
    subst O U;obtain⟨a,b,rfl,J,g2⟩:=(show ∃a b,v = .ref a/\hG X.K f a b/\ej X.K f g b from m);exact q a b H f (Ext.refl rc.sub) (m4 rc.sub J) (λ_=>J) g2
   | lst j=>
    obtain⟨O,U⟩:k = .L/\g=j:=by simp[vp,jA]at I;exact⟨I.1.symm,I.2.symm⟩
    subst O U;obtain⟨a,b,rfl,J,g2⟩:=(show ∃a b,v = .ref a/\gm X.K f a b/\ej X.K f g b from m);exact q a b H f (Ext.refl rc.sub) (rc.sub.seq J) (λz=>nomatch z) g2
   | _=>simp[vp,jA]at I
theorem Zm(h:PE X e (tC v))(r : ∀H,Rep X.K H d v):PV X e (zu d):=j9 h λg H Q z=>by obtain⟨a,f,b,rc,I,q⟩:=z;cases I;exact q v H a (Ext.refl rc.sub)<|r a
theorem zh:PV X (.Constant (.int i) j pos) (zu<|.int i):=Zm AQ λ_=>(show V.int i = .int i from rfl)
theorem KR:PV X (.Constant (.bool x) j pos) (zu<|.bl x):=Zm EZ λ_=>(show V.bl x = .bl x from rfl)
theorem ZV:PV X (.Constant .none j pos) (zu .el):=Zm AM λ_=>(show V.el = .el from rfl)
theorem xH:PV X (.Constant (.str x) j pos) (zu<|.str x):=Zm AJ λ_=>(show V.str x = .str x from rfl)
noncomputable def mr(K:Iy)(r:R2)(F:D->D->Option D):Prop:=∀b H x y f z d Q,gR b H->Rep K b f x->Rep K b z y->F f z=di d->(∀v e a,Ext b H a e->Rep K a d v->Q v e)->r x y H Q
theorem zc(h:o.bind f=di y) : ∃x,o=di x/\f x=di y:=by
 cases o with
 | none=>cases h
 | some x=>exact⟨x,rfl,h⟩
theorem Vl{K:Iy}{r:R2}{F:D->D->Option D}{L S:CO D}(J:mr K r F) : ∀C H Q,tV K (zG F L S) C H Q->F8 r (tV K L) (tV K S) C H Q:=λC H Q O=>by obtain⟨f,b,d,rc,z,q⟩:=O;obtain⟨x,j,z⟩:=zc z;obtain⟨y,U,z⟩:=zc z;refine⟨f,b,x,rc,j,λY o h x1 k=>⟨h,b,y,rc.ext x1,U,λn g i I l=>?_⟩⟩;exact J i g Y n x y d Q I.sub (k.mono I.s0) l z λv e a x3 m=>q v e a (x1.trans<|I.trans x3) m
theorem QN(z:ix X (t5 op) r)(I:mr X.K r F)(C:PV X a fa)(J:PV X b fb):PV X (.BinOp a op b pos) (zG F fa fb):=
 j9 (rD z C J) (Vl I)
theorem Wr(z:ix X (l7 op) r)(I:mr X.K r F)(C:PV X a fa)(J:PV X b fb)(L:u9 op b=ed):PV X (.Compare a [op] [b] pos) (zG F fa fb):=
 j9 (du z C J L) (Vl I)
theorem yY{d:D}{b:Bool}(h:qq d=di b):d = .bl b:=by cases d<;>simp[qq]at h;rw[h]
theorem wy(I:ix X (l7 op) r)(J:mr X.K r F)(C:PV X a fa)(O:PV X b fb)(L:u9 op b=ed):l9 X (.Compare a [op] [b] pos) (sB<|zG F fa fb):=
 Vg (cU I C O L) λj H Q U=>by obtain⟨g,i,k,rc,z,q⟩:=U;obtain⟨d,h,z⟩:=zc z;refine Vl J j H _ ⟨g,i,d,rc,h,λv f e x r=>?_⟩;rw[yY z]at r;exact⟨k,r,q f e x⟩
theorem jD{f:CO D}(h:PV X e f)(J : ∀I,DA e X.env I=(do let v <- I;DF e.pos;sh [v] (Gx v)):=by intro _;rfl):l9 X e (sB f):=
 Vg (Ax h J) λl H Q O=>by obtain⟨g,j,k,rc,z,q⟩:=O;obtain⟨d,i,z⟩:=zc z;refine⟨g,j,d,rc,i,λv b a x r=>?_⟩;rw[yY z]at r;exact⟨k,r,q b a x⟩
theorem vD(h:l9 X a f):Dt X (.BoolOp .And [a] pos) f:=pS h
theorem wx(h:l9 X a f):Dt X (.BoolOp .Or [a] pos) f:=Aj h
theorem ZU{f g:CO Bool}{kH:List eA}(C:l9 X a f)(I:Dt X (.BoolOp .And (b::kH) pos) g):Dt X (.BoolOp .And (a::b::kH) pos) (aw f g):=
 Al (Ak C I) λm H Q J=>by
  obtain⟨i,e,k,rc,z,q⟩:=J;obtain⟨c,l,z⟩:=zc z;refine⟨i,e,c,rc,l,λh d x=>?_⟩;cases c with
  | true=>rw[RY rfl]at z ⊢;exact⟨d,e,k,rc.ext x,z,λj O U=>q j O<|x.trans U⟩
  | false=>rw[EQ Lj]at z ⊢;cases z;exact q h d x
theorem y8{f g:CO Bool}{kH:List eA}(C:l9 X a f)(I:Dt X (.BoolOp .Or (b::kH) pos) g):Dt X (.BoolOp .Or (a::b::kH) pos) (Y4 f g):=
 Al (ET C I) λm H Q J=>by
  obtain⟨i,e,k,rc,z,q⟩:=J;obtain⟨c,l,z⟩:=zc z;refine⟨i,e,c,rc,l,λh d x=>?_⟩;cases c with
  | true=>rw[RY rfl]at z ⊢;cases z;exact q h d x
  | false=>rw[EQ Lj]at z ⊢;exact⟨d,e,k,rc.ext x,z,λj O U=>q j O<|x.trans U⟩
theorem qV(C:l9 X a f):l9 X (.UnaryOp .Not a pos) (xf f):=
 Vg (Ay C) λh H Q I=>by
  obtain⟨g,d,k,rc,z,q⟩:=I;unfold xf at z;cases e1:f d with
  | none=>rw[e1]at z;cases z
  | some c=>rw[e1]at z;cases z;exact⟨g,d,c,rc,e1,λe b x=>q e b x⟩
theorem ZY(h:Dt X e f):l9 X e f:=h.pt
theorem Wq(h:PV X a f):PV X (.BoolOp op [a] pos) f:=AK h
theorem Wu{f g:CO D}{kH:List eA}(C:PV X a f)(I:PV X (.BoolOp .And (b::kH) pos) g):PV X (.BoolOp .And (a::b::kH) pos) (nC f g):=
 j9 (AR C I) λp H Q J=>by
  obtain⟨k,i,d,rc,z,q⟩:=J;obtain⟨c,h,z⟩:=zc z;obtain⟨O,U,h⟩:=zc h;refine⟨k,i,O,rc,U,λv j e x r=>?_⟩;rw[yY h]at r;refine⟨c,r,?_⟩;cases c with
  | true=>rw[RY rfl]at z ⊢;exact⟨e,i,d,rc.ext x,z,λY l m o n=>q Y l m (x.trans o) n⟩
  | false=>rw[EQ Lj]at z ⊢;cases z;exact q _ j e x (show V.bl ed = .bl ed from rfl)
theorem An(C:PV X a f):PV X (.UnaryOp .Not a pos) (Cq f):=
 j9 (AL C) λi H Q J=>by
  obtain⟨h,e,d,rc,z,q⟩:=J;unfold Cq at z;cases e1:f e with
  | none=>rw[e1]at z;cases z
  | some I=>
   rw[e1]at z;refine⟨h,e,I,rc,e1,λv g b x r=>?_⟩;cases I with
   | bl c=>cases z;exact⟨c,r,q _ g b x<|show V.bl (!c) = .bl (!c)from rfl⟩
   | _=>cases z
theorem xM(U:l9 X c k)(C:PV X a f)(Y:PV X b g):PV X (.IfExp c a b pos) (cE k f g):=
 j9 (lq U C Y) λp H Q n=>by
  obtain⟨l,j,d,rc,z,q⟩:=n;obtain⟨t,m,z⟩:=zc z;refine⟨l,j,t,rc,m,λo e x=>?_⟩;cases t with
  | true=>rw[RY rfl]at z ⊢;exact⟨e,j,d,rc.ext x,z,λI h J O i=>q I h J (x.trans O) i⟩
  | false=>rw[EQ Lj]at z ⊢;exact⟨e,j,d,rc.ext x,z,λI h J O i=>q I h J (x.trans O) i⟩
theorem rG:A9 X [] zD:=AV qy λe H Q z=>by obtain⟨a,d,b,rc,I,q⟩:=z;cases I;exact q [] H a (Ext.refl rc.sub) ej.nil
theorem lB(C:PV X e f)(O:A9 X es g)(U:gv (e::es) X.env=(ed,fh e X.env)::gv es X.env:=by rfl):A9 X (e::es) (zb f g):=
 AV (jz C O U) λp H Q Y=>by
  obtain⟨b,a,o,rc,z,q⟩:=Y;obtain⟨x,j,z⟩:=zc z;cases I:g a with
  | none=>rw[I]at z;cases z
  | some r=>
   rw[I]at z;cases z;exact⟨b,a,x,rc,j,λv n h x1 k=>⟨h,a,r,rc.ext x1,I,λm d i J l=>q (v::m) d i (x1.trans J)<|ej.cons (k.mono J.s0) l⟩⟩
theorem jl(h:A9 X es f):PV X (.Tuple es x1 pos) (qB f):=
 j9 (AI h) λm H Q U=>by
  obtain⟨g,k,d,rc,z,q⟩:=U;obtain⟨b,i,z⟩:=zc z;by_cases I:b.length<=lim
  ·rw[RY I]at z;cases z
   refine⟨g,k,b,rc,i,λj l Y x1 J=>⟨k5 (by rw[J.length];exact I),λp O=>?_⟩⟩;exact q _ _ _ (x1.trans<|Ext.alloc x1.sub O _) (show ∃a e,V.ref p = .ref a/\hG X.K _ a e/\ej X.K _ b e from⟨p,j,rfl,hG.of zO,J.mono<|je (jw x1.sub O) _⟩)
  ·rw[EQ I]at z;cases z
theorem qW(h:A9 X es f):PO X (.List es pos) (qr f):=
 j9 (AN h) λl H Q Y=>by
  obtain⟨a,j,d,rc,I,q⟩:=Y;obtain⟨e,g,I⟩:=zc I;by_cases O:e.length<=lim
  ·rw[RY O]at I;cases I
   refine⟨a,j,_,rc,g,λi k b x1 U=>⟨k5 (by rw[U.length];exact O),λp J=>?_⟩⟩;exact q p i _ b (x1.trans<|Ext.hide x1.sub J _) (by
    cases z:H p with
    | none=>rfl
    | some o=>rw[x1.s1 p o z]at J;cases J) (jw x1.sub J) zO U
  ·rw[EQ O]at I;cases I
end
noncomputable def iI(C:List (Key×V))(ps:List (Key×V)):List (Key×V):=ps.foldl (λacc z=>bD acc z.1 z.2) C
theorem yH:entryFor table "dict.update.loop" = di nt.«dict.update.loop» :=entryFor_of_tree (by kernel_rfl)
theorem yB(args:Args):(Code.builtin "dict.update.loop" args).quiet=dn:=Code.quiet_builtin _ ⋯
noncomputable def Im(i:Nat)(f:CO D)(γ:Ctx):Option D:=(qJ γ[i]?).bind λa=>(f<|γ.set i<|.val<|.lst a).bind λd=>if Ft d=dn then di d else d5
noncomputable def HF(i:Nat)(f:CO Bool)(γ:Ctx):Option Bool:=(qJ γ[i]?).bind λa=>f<|γ.set i<|.val<|.lst a
noncomputable def Gv(i:Nat)(γ:Ctx):Option Fl:=(qJ γ[i]?).map λ_=> .next (γ.set i<|.own [])
noncomputable def k8(ds:List D):List D:=(Iz ds.length).map λ(i:Nat)=>D.tup [.int i,ds[i]?.getD .el]
noncomputable def iw(f:CO D)(γ:Ctx):Option (List D):=(f γ).bind λd=>match d with
 | .tup a=>di (k8 a)
 | _=>d5
noncomputable def XX:List D->Option (List Int)
 | []=>di []
 | .int i::r=>(XX r).map λl=>i::l
 | _::_=>d5
noncomputable def EK(f:CO D)(g:CO (Sk×List D))(γ:Ctx):Option D:=(f γ).bind λd=>(g γ).bind λa=>(l6 d).bind λi=>(XX a.2).map λl=> .bl (decide<|i∈l)
noncomputable def fj(k:Int):List Int->Option Nat
 | []=>d5
 | i::r=>if i=k then di 0 else (fj k r).map (· + 1)
noncomputable def Ik(f g:CO D)(γ:Ctx):Option D:=(f γ).bind λd=>((g γ).bind l6).bind λk=>match d with
 | .tup a=>(XX a).bind λl=>(fj k l).map λ(j:Nat)=>D.int (j:Int)
 | _=>d5
noncomputable def vn(T:Tg)(f:CO (List D))(γ:Ctx):List D->Option (List<|List D)
 | []=>di []
 | d::ds=>(xQ T d γ).bind λa=>(f a).bind λe=>(vn T f γ ds).map λr=>e::r
noncomputable def Wn(C:CO (List D))(T:Tg)(n:Nat)(I:List Nat)(f:CO (List D))(γ:Ctx):Option (List<|List D):=(C γ).bind λa=>if a.length<=lim then vn T f (z6 n I γ) a else d5
noncomputable def QV:Cell->Bool
 | .nest _=>dn
 | _=>ed
noncomputable def iq(i:Nat)(f:CO (List<|List D)):CO Fl:=λb=>(f b).bind λa=>if b.any QV=ed then di (.next<|b.set i<|.nest a)else d5
noncomputable def vX:Option Cell->Option (List<|List D)
 | some (.nest rows)=>di rows
 | _=>d5
noncomputable def yA(γ:Ctx)(j i:Nat)(r:List D):Ctx:=(γ.set j .no).set i (.own r)
noncomputable def km(j i:Nat)(g f:CO D)(γ:Ctx):List (List D)->Option (List<|List D)
 | []=>di []
 | r::rs=>(f<|yA γ j i r).bind λd=>((g<|yA γ j i r).bind l6).bind λk=>(g9 r.length k).bind λm=>(km j i g f γ rs).map λt=>r.set m d::t
noncomputable def cF(j i:Nat)(g f:CO D)(γ:Ctx):Option Fl:=(vX γ[j]?).bind λa=>if i=j\/γ.length<=i then d5 else (km j i g f γ a).map λz=> .next ((γ.set j<|.nest z).set i .no)
noncomputable def iu(i:Nat)(F:CO Fl)(γ:Ctx):Option Fl:=(qJ γ[i]?).bind λa=>F<|γ.set i<|.val<|.lst a
noncomputable def ir(i:Nat)(F:CO Fl)(γ:Ctx):Option Fl:=(vX γ[i]?).bind λa=>F<|γ.set i<|.val<|.lst<|a.map D.lst
noncomputable def Gs(is:List Nat)(f:CO D)(γ:Ctx):Option Fl:=(f γ).bind λd=>match d with
 | .lst a=>if a.length=is.length then di (.next<|qS is a γ)else d5
 | _=>d5
noncomputable def Kx:List D->Option (List Str)
 | []=>di []
 | .str x::r=>(Kx r).map λl=>x::l
 | _::_=>d5
noncomputable def jW(x:Str):Bool:=decide<|x.length<=1000
noncomputable def pJ(f:CO D)(g:CO (Sk×List D))(γ:Ctx):Option D:=(f γ).bind λd=>(g γ).bind λa=>match d,a.1 with
 | .str sep,.L=>(Kx a.2).bind λl=>if l.length<=lim/\l.all jW=dn/\jW sep=dn then di (.str<|Rh sep l)else d5
 | _,_=>d5
noncomputable def kE(f g:CO D)(γ:Ctx):Option D:=(f γ).bind λd=>((g γ).bind l6).bind λi=>match d with
 | .str z=>if jW z=dn then (g9 z.cps.toList.length i).bind λk=>z.cps.toList[k]?.map λc=> .str ⟨#[c]⟩else d5
 | _=>d5
noncomputable def yx(f:CO D)(γ:Ctx):Option D:=(f γ).bind λd=>match d with
 | .str z=>if jW z=dn then di (.int z.length)else d5
 | _=>d5
noncomputable def HD(z J I O:Str)(f:CO D)(γ:Ctx):Option D:=(f γ).bind λd=>match d with
 | .str x=>if z=I then d5 else if x=z then di (.str J)else if x=I then di (.str O)else d5
 | _=>d5
noncomputable def Xv(f g:CO D)(γ:Ctx):Option D:=((f γ).bind l6).bind λi=>((g γ).bind l6).map λj=> .int (if j<i then j else i)
abbrev Xn:=Str×Option Int
noncomputable def G5:CO Xn:=λ_=>d5
noncomputable def uf(c:Str):CO Xn:=λ_=>di (c,d5)
noncomputable def G4(k:CO Bool)(G H:CO Xn):CO Xn:=λa=>(k a).bind λb=>if b=dn then G a else H a
noncomputable def Hk(G:CO Xn)(F:CO Fl)(H:CO Xn):CO Xn:=λb=>match G b with
 | some c=>di c
 | none=>(F b).bind λz=>match z with
  | .next a=>H a
  | _=>d5
noncomputable def Gw(n:Nat)(G:CO Xn)(ds:List D):Option Xn:=G<|zY n ds
noncomputable def HV(c:Str):Str:=if c==("NoRoom" : Str)then "room" else "at"
noncomputable def Xu(f:CO D)(g:CO (Sk×List D)):CO D:=λb=>(f b).bind λd=>(g b).bind λa=>(l6 d).bind λi=>(XX a.2).map λl=> .bl (!decide (i∈l))
end DL
namespace DL
open PySem L2
open PySem.W (KasT kas_sort)
noncomputable def cu(z:Str):List D:=z.cps.toList.map λc=>D.str ⟨#[c]⟩
noncomputable def uM(f:CO D)(γ:Ctx):Option (List D):=(f γ).bind λd=>match d with
 | .str z=>if jW z=dn then di (cu z)else d5
 | _=>d5
noncomputable def uP(f:CO D)(γ:Ctx):Option (List D):=(f γ).bind λd=>match d with
 | .str z=>if jW z=dn then di (k8<|cu z)else d5
 | _=>d5
noncomputable def nA(f:CO D)(γ:Ctx):Option (List D):=(f γ).bind λd=>match d with
 | .lst a=>di (k8 a)
 | _=>d5
noncomputable def HB(f:CO D)(g:CO (Sk×List D))(γ:Ctx):Option D:=(f γ).bind λd=>(g γ).bind λa=>match d with
 | .str x=>(Kx a.2).map λl=> .bl (l.any λy=>y==x)
 | _=>d5
noncomputable def EL(f g:CO D)(γ:Ctx):Option D:=(f γ).bind λd=>(g γ).bind λe=>match d,e with
 | .str x,.str y=>if jW x=dn/\jW y=dn then di (.str<|x++y)else d5
 | _,_=>d5
noncomputable def Ii(f:CO D)(l h:CO (Option Int))(γ:Ctx):Option D:=(f γ).bind λd=>(l γ).bind λlo=>(h γ).bind λa=>match d with
 | .str z=>if jW z=dn then di (.str<|Txt.slice z lo a)else d5
 | _=>d5
noncomputable def Cs(f:CO (Sk×List D))(γ:Ctx):Option (List D):=(f γ).bind λa=>match a.1 with
 | .L=>if a.2.length<=lim then di a.2.reverse else d5
 | _=>d5
noncomputable def lA:D->Option (Int×Int)
 | .tup [.int a,.int b]=>di (a,b)
 | _=>d5
noncomputable def wW:List D->Option (List<|Int×Int)
 | []=>di []
 | d::r=>(lA d).bind λp=>(wW r).map λl=>p::l
noncomputable def vb(x y:Int×Int):Bool:=if x.1=y.1 then decide (x.2<y.2)else decide (x.1<y.1)
noncomputable def xK{C:Type}(lt:Nat->Nat->Bool):KasT C->C
 | .ret a=>a
 | .ask i j k=>xK lt<|k<|lt i j
noncomputable def j1(ps:List (Int×Int)):List Nat:=if ps.length<2 then Iz ps.length else (xK (λi j=>vb (ps.getD i (0,0))<|ps.getD j (0,0))<|kas_sort ps.length).toList
noncomputable def cg(ds:List D):Option (List D):=(wW ds).bind λa=>if ds.length<64 then di ((j1 a).map λi=>ds.getD i .el)else d5
noncomputable def QK(f:CO (Sk×List D))(γ:Ctx):Option (List D):=(f γ).bind λa=>match a.1 with
 | .L=>cg a.2
 | _=>d5
end DL
namespace DL
open PySem L2
noncomputable def cG(i:Nat)(f:CO (List D))(γ:Ctx):Option Fl:=(qJ γ[i]?).bind λa=>(f γ).bind λb=>if a.length+b.length<=lim then di (.next<|γ.set i<|.own<|a++b)else d5
noncomputable def uS(F G:List D->Option Res)(g:CO (List D))(γ:Ctx):Option (List D):=(g γ).bind λl=>match l with
 | [p,.str z,t,b]=>((if z=("r" : Str)then F else G) [p,t,b]).bind Ac
 | _=>d5
noncomputable def J8:List D->Option (List Int)
 | []=>di []
 | .int i::r=>(J8 r).map λl=>i::l
 | _::_=>d5
noncomputable def mI(ds C:List D):Option D:=match J8 ds with
 | some a=>if ds.length=C.length/\a.Nodup/\ds.length<=lim then di (.l4 ds C)else d5
 | none=>d5
noncomputable def WY:List D->List D->Int->Option D
 | k::ks,v::vs,i=>match k with
  | .int j=>if j=i then di v else WY ks vs i
  | _=>WY ks vs i
 | _,_,_=>d5
open PySem.Spec PyProof.Rows
structure RS(K:Iy)(E0 E H0 H:Hp)(σ:St)(γ:Ctx):Prop where
 rc:RC K H0 H σ γ
 ext:Ext E0 E H0 H
 fresh : ∀(i:Nat) ds a,γ[i]? = di (.own ds)->σ[i]? = di (di (.ref a))->E a=d5
 t7 : ∀(i:Nat) rows a xs,γ[i]? = di (.nest rows)->σ[i]? = di (di (.ref a))->H a=di (.lst xs)->E a=d5/\∀b,V.ref b∈xs->E b=d5
noncomputable def Sat(K:Iy)(E0 E:Hp)(D:Ends):Fl->Prop
 | .next f=>∀e H b,RS K E0 E b H e f->D.nx e H
 | .brk f=>∀e H b,RS K E0 E b H e f->D.bk e H
 | .cont f=>∀e H b,RS K E0 E b H e f->D.ct e H
 | .ret (.val d)=>∀v H b,Ext E0 E b H->Rep K b d v->D.rt v H
 | .ret (.own es)=>∀a g H b,Ext E0 E b H->E a=d5->b a=d5->H a=di (.lst g)->ej K b es g->D.rt (.ref a) H
noncomputable def tS(K:Iy)(F:CO Fl):TS:=λD d H=>∃E0 E b a z,RS K E0 E b H d a/\F a=di z/\Sat K E0 E D z
abbrev lN(X:Cx)(st:kv)(F:CO Fl):Prop:=PS X st (tS X.K F)
abbrev gw(X:Cx)(T8:List kv)(F:CO Fl):Prop:=p9 X T8 (tS X.K F)
section
variable{K:Iy}{E0 E H0 H xc H':Hp}{σ:St}{γ:Ctx}
theorem RS.step(r:RS K E0 E H0 H σ γ)(e:Ext H0 H xc H'):RS K E0 E xc H' σ γ:=⟨r.rc.ext e,r.ext.trans e,r.fresh,λi b a g d f I=>by obtain⟨J,bs,z,g2,_⟩:=r.rc.m7.1 i b d;rw[f]at z;cases z;have:=e.s1 a _ g2.ha;rw[I]at this;cases this;exact r.t7 i b a _ d f g2.ha⟩
theorem zE{C:Type}{l:List C}{i j:Nat}{x y:C}(h:(l.set i x)[j]? = di y):(j=i/\y=x/\i<l.length)\/(j≠i/\l[j]? = di y):=by
 by_cases e:i=j
 ·subst e
  by_cases z:i<l.length
  ·rw[IX z]at h;cases h;exact .inl ⟨rfl,rfl,z⟩
  ·rw[List.set_eq_of_length_le ⋯]at h
   exact absurd (IP.mp h).1 z
 ·rw[IG e]at h;exact .inr ⟨Ll e,h⟩
theorem o4.A1{i:Nat}{d:D}{v:V}(n:o4 K H0 H σ γ):o4 K H0 H (σ.set i<|some v) (γ.set i<|.val d):=
 ⟨λj b e=>by
  rcases zE e with⟨_,z,_⟩ | ⟨O,z⟩
  ·cases z
  ·obtain⟨a,bs,h,l,U⟩:=n.1 j b z
   refine⟨a,bs,by rw[IG (Ll O)];exact h,l,λk g c f I=>?_⟩;rcases zE f with⟨_,z,_⟩ | ⟨Y,J⟩
   ·cases z
   ·rw[IG (Ll Y)]at I;exact U k g c J I,
 λj k m o f I=>by
  rcases zE f with⟨_,z,_⟩ | ⟨_,J⟩
  ·cases z
  ·rcases zE I with⟨_,z,_⟩ | ⟨_,p⟩
   ·cases z
   ·exact n.2 j k m o J p⟩
theorem RC.A1{i:Nat}{d:D}{v:V}(r:RC K H0 H σ γ)(h:Rep K H0 d v):RC K H0 H (σ.set i<|some v) (γ.set i<|.val d):=by
 refine⟨r.sub,by simp[r.len],λj f e=>?_,λj b e=>?_,λj k a b m g l O U=>?_,r.m7.A1⟩
 ·rcases zE e with⟨rfl,z,Y⟩ | ⟨I,z⟩
  ·cases z;exact⟨v,IX (by rw[r.len];exact Y),h⟩
  ·obtain⟨o,J,g2⟩:=r.val j f z
   exact⟨o,by rw[IG (Ll I)];exact J,g2⟩
 ·rcases zE e with⟨rfl,z,Y⟩ | ⟨I,z⟩
  ·cases z
  ·obtain⟨a,p,J,g2⟩:=r.own j b z
   exact⟨a,p,by rw[IG (Ll I)];exact J,g2⟩
 ·rcases zE g with⟨_,z,_⟩ | ⟨I,s⟩
  ·cases z
  ·rcases zE l with⟨_,z,_⟩ | ⟨n,t⟩
   ·cases z
   ·rw[IG (Ll I)]at O
    rw[IG (Ll n)]at U;exact r.ne j k a b m s t O U
theorem RS.A1{i:Nat}{d:D}{v:V}(r:RS K E0 E H0 H σ γ)(h:Rep K H0 d v):RS K E0 E H0 H (σ.set i<|some v) (γ.set i<|.val d):=
 ⟨r.rc.A1 h,r.ext,λj f a e I=>by
  rcases zE e with⟨_,z,_⟩ | ⟨J,z⟩
  ·cases z
  ·rw[IG (Ll J)]at I;exact r.fresh j f a z I,
 λj b a g e I O=>by
  rcases zE e with⟨_,z,_⟩ | ⟨J,z⟩
  ·cases z
  ·rw[IG (Ll J)]at I;exact r.t7 j b a g z I O⟩
theorem k4 : ∀{z bs:List eg},z.map V.ref=bs.map V.ref->z=bs
 | [],[],_=>rfl
 | [],_::_,h=>by cases h
 | _::_,[],h=>by cases h
 | a::z,b::bs,h=>by rw[Ld,Ld]at h;injection h with h1 h2;injection h1 with h1;rw[h1,k4 h2]
theorem RS.T7{i:Nat}{S:List D}{a:eg}{xs:List V}{L G:Hp}(r:RS K E0 E L G σ γ)(e:Ext L G H0 H)(C:G a=d5)(Z:H0 a=d5)(h3:H a=di (.lst xs))(h4:ej K H0 S xs) :
 RS K E0 E H0 H (σ.set i<|some (.ref a)) (γ.set i<|.own S):=by
 have rc:=r.rc.ext e;have no : ∀(j:Nat) f,γ[j]? = di (.own f)->¬σ[j]? = di (di (.ref a)):=λj f g z=>by obtain⟨b,t,I,g2,g3,_⟩:=r.rc.own j f g;rw[z]at I;cases I;rw[C]at g3;cases g3
 refine⟨⟨rc.sub,by simp[rc.len],λj w g=>?_,λj f g=>?_,λj k b f fs s U Y h=>?_,⟨λj d g=>?_,λj k B F I g2=>?_⟩⟩,r.ext.trans e,λj f b I g2=>?_,λj d b xs I g2 g3=>?_⟩
 ·rcases zE g with⟨_,z,_⟩ | ⟨J,z⟩
  ·cases z
  ·obtain⟨M,I,g2⟩:=rc.val j w z
   exact⟨M,by rw[IG (Ll J)];exact I,g2⟩
 ·rcases zE g with⟨rfl,z,O⟩ | ⟨J,z⟩
  ·cases z;exact⟨a,xs,IX (by rw[rc.len];exact O),Z,h3,h4⟩
  ·obtain⟨b,t,I,g2⟩:=rc.own j f z
   exact⟨b,t,by rw[IG (Ll J)];exact I,g2⟩
 ·rcases zE s with⟨rfl,z,O⟩ | ⟨J,l⟩
  ·rcases zE U with⟨rfl,_,_⟩ | ⟨m,n⟩
   ·rfl
   ·rw[IX (by rw[rc.len];exact O)]at Y
    rw[IG (Ll m)]at h;cases Y;exact absurd h<|no k fs n
  ·rcases zE U with⟨rfl,z,O⟩ | ⟨m,n⟩
   ·rw[IX (by rw[rc.len];exact O)]at h
    rw[IG (Ll J)]at Y;cases h;exact absurd Y<|no j f l
   ·rw[IG (Ll J)]at Y
    rw[IG (Ll m)]at h;exact rc.ne j k b f fs l n Y h
 ·rcases zE g with⟨_,z,_⟩ | ⟨J,z⟩
  ·cases z
  ·obtain⟨b,bs,I,g2,g3⟩:=r.rc.m7.1 j d z
   obtain⟨N,p,f1,f2,y⟩:=rc.m7.1 j d z;rw[I]at f1;cases f1;have x:p.map V.ref=bs.map V.ref:=by have:=e.s1 b _ g2.ha;rw[f2.ha]at this;injection this with this;injection this
   have u:p=bs:=k4 x;subst u;refine⟨b,p,by rw[IG (Ll J)];exact I,f2,λk f c s U=>?_⟩;rcases zE s with⟨rfl,_,O⟩ | ⟨m,l⟩
   ·rw[IX (by rw[rc.len];exact O)]at U;cases U
    intro A;obtain⟨_,as,q⟩:=g2.at A;rw[C]at q;cases q
   ·rw[IG (Ll m)]at U;exact y k f c l U
 ·rcases zE I with⟨_,z,_⟩ | ⟨_,l⟩
  ·cases z
  ·rcases zE g2 with⟨_,z,_⟩ | ⟨_,n⟩
   ·cases z
   ·exact rc.m7.2 j k B F l n
 ·rcases zE I with⟨rfl,z,O⟩ | ⟨J,z⟩
  ·rw[IX (by rw[rc.len];exact O)]at g2;cases g2
   cases q:E a with
   | none=>rfl
   | some o=>rw[r.ext.s1 a o q]at C;cases C
  ·rw[IG (Ll J)]at g2;exact r.fresh j f b z g2
 ·rcases zE I with⟨_,z,_⟩ | ⟨J,z⟩
  ·cases z
  ·rw[IG (Ll J)]at g2;exact(r.step e).t7 j d b xs z g2 g3
theorem RS.rewrite{i:Nat}{ds C:List D}{a:eg}{xs ys:List V}(r:RS K E0 E H0 H σ γ)(hi:γ[i]? = di (.own ds))(O:σ[i]? = di (di (.ref a)))(L:ej K H0 C ys) :
 RS K E0 E H0 (upd H a<|.lst ys) σ (γ.set i<|.own C):=by
 obtain⟨G,M,g1,g2,g3,Q⟩:=r.rc.own i ds hi;rw[O]at g1;cases g1;have P:i<γ.length:=(IP.mp hi).1;refine⟨⟨λb o q=>?_,by simp[r.rc.len],λj x g=>?_,λj fs g=>?_,λj k b fs gs e I l y=>?_,⟨λj d g=>?_,λj k B F e I=>?_⟩⟩,⟨r.ext.s0,λb o q=>?_,λb o q=>?_,r.ext.new⟩,λj fs b e I=>?_,λj d b s e I l=>?_⟩
 ·rw[zK (λz=>by rw[z,g2]at q;cases q)];exact r.rc.sub b o q
 ·rcases zE g with⟨_,z,_⟩ | ⟨m,z⟩
  ·cases z
  ·exact r.rc.val j x z
 ·rcases zE g with⟨rfl,z,R⟩ | ⟨m,z⟩
  ·cases z;exact⟨a,ys,O,g2,zO,L⟩
  ·obtain⟨b,s,J,U,Y,A⟩:=r.rc.own j fs z
   refine⟨b,s,J,U,?_,A⟩;rw[zK (λq=>m<|r.rc.ne j i a fs ds z hi (by rw[J,q]) O)];exact Y
 ·have u : ∃f,γ[j]? = di (.own f):=by
   rcases zE e with⟨q,_,_⟩ | ⟨_,z⟩
   ·exact⟨ds,by rw[q];exact hi⟩
   ·exact⟨fs,z⟩
  have w : ∃f,γ[k]? = di (.own f):=by
   rcases zE I with⟨q,_,_⟩ | ⟨_,z⟩
   ·exact⟨ds,by rw[q];exact hi⟩
   ·exact⟨gs,z⟩
  obtain⟨J,h⟩:=u;obtain⟨U,p⟩:=w;exact r.rc.ne j k b J U h p l y
 ·rcases zE g with⟨_,z,_⟩ | ⟨m,z⟩
  ·cases z
  ·obtain⟨b,bs,J,U,Y⟩:=r.rc.m7.1 j d z
   have t:=Y i ds a hi O;refine⟨b,bs,J,U.move (gR.refl _) (λc n=>(U.at n).1)<|λc n=>zK λq=>t<|q ▸ n,λk fs c e I=>?_⟩;rcases zE e with⟨q,_,_⟩ | ⟨_,h⟩
   ·rw[q,O]at I;cases I;exact t
   ·exact Y k fs c h I
 ·rcases zE e with⟨_,z,_⟩ | ⟨_,h⟩
  ·cases z
  ·rcases zE I with⟨_,z,_⟩ | ⟨_,p⟩
   ·cases z
   ·exact r.rc.m7.2 j k B F h p
 ·rw[zK (λz=>by rw[z,r.fresh i ds a hi O]at q;cases q)];exact r.ext.s1 b o q
 ·rw[zK (λz=>by rw[z,g2]at q;cases q)];exact r.ext.sub b o q
 ·rcases zE e with⟨q,_,_⟩ | ⟨_,z⟩
  ·rw[q]at I;exact r.fresh i ds b hi I
  ·exact r.fresh j fs b z I
 ·rcases zE e with⟨_,z,_⟩ | ⟨m,z⟩
  ·cases z
  ·obtain⟨N,bs,J,U,Y⟩:=r.rc.m7.1 j d z
   rw[I]at J;cases J;rw[zK (show b≠a from λq=>Y i ds a hi O<|by rw[q];exact IQ)]at l;exact r.t7 j d b s z I l
end
section
variable{X:Cx}{e a b c:eA}{pos:hB}{st:kv}{kH:List kv}
theorem zX:gw X [] qg:=nI pW λD b H z=>by obtain⟨E0,E,a,d,U,I,J,O⟩:=z;cases J;exact O b H a I
theorem ze{F G:CO Fl}(C:lN X st F)(L:gw X kH G):gw X (st::kH) (zH F G):=nI (iO C L) λD j H O=>by
 obtain⟨E0,E,d,g,U,Y,z,I⟩:=O;obtain⟨J,f,z⟩:=zc z;refine⟨E0,E,d,g,J,Y,f,?_⟩;cases J with
 | next a=>exact λh i b e=>⟨E0,E,b,a,U,e,z,I⟩
 | brk a=>cases z;exact I
 | cont a=>cases z;exact I
 | ret r=>cases z;cases r<;>exact I
theorem zo(C:lN X st F):gw X [st] F:=cV C
theorem zC(h:o.map f=di y) : ∃x,o=di x/\f x=y:=by
 cases o with
 | none=>cases h
 | some x=>exact⟨x,rfl,by simpa using h⟩
theorem zI{f:CO D}(h:PV X e f):lN X (.Return (di e) pos) (jV f):=ke (cW h) λD k H J=>by obtain⟨E0,E,g,j,U,I,z,O⟩:=J;obtain⟨d,i,z⟩:=zC z;subst z;exact⟨g,j,d,I.rc,i,λv b a x r=>O v b a (I.ext.trans x) r⟩
theorem qw{f:CO (List D)}(h:PO X e f):lN X (.Return (di e) pos) (kF f):=ke (cW h) λD p H J=>by
 obtain⟨E0,E,i,n,Y,z,I,O⟩:=J;obtain⟨j,k,I⟩:=zC I;subst I;refine⟨i,n,j,z.rc,k,λa m g b x d l U r=>O a m g b (z.ext.trans x) ?_ l U r⟩;cases q:E a with
 | none=>rfl
 | some o=>rw[z.ext.s1 a o q]at d;cases d
theorem vG(i:Nat)(h:PE X e (tU i)):lN X (.Return (di e) pos) (J2 i):=ke (cW h) λD p H O=>by
 obtain⟨E0,E,j,n,o,I,z,J⟩:=O;unfold J2 at z;cases b:n[i]? with
 | none=>rw[b]at z;cases z
 | some c=>
  rw[b]at z;cases c with
  | no=>cases z
  | val d=>
   cases z;obtain⟨v,f,g⟩:=I.rc.val i d b;exact⟨v,f,J v H j I.ext g⟩
  | nest l=>cases z
  | own k=>
   cases z;obtain⟨a,m,f,g,U,Y⟩:=I.rc.own i k b;exact⟨_,f,J a m H j I.ext (I.fresh i k a b f) g U Y⟩
theorem KY:lN X (.Continue pos) pL:=ke Vh λD b H ⟨E0,E,a,d,O,z,I,J⟩=>by cases I;exact J b H a z
theorem KW:lN X st KG:=ke iT λD d H ⟨E0,E,a,b,I,J,z,O⟩=>by cases z
theorem jL{k:CO Bool}{F G:CO Fl}{x y:List kv}(U:l9 X c k)(C:gw X x F)(Y:gw X y G):lN X (.If c x y pos) (i0 k F G):=ke (EW U C Y) λD h H f=>by
 obtain⟨E0,E,d,b,J,I,z,O⟩:=f;obtain⟨t,e,z⟩:=zc z;refine⟨d,b,t,I.rc,e,λg a x=>?_⟩;cases t with
 | true=>rw[RY rfl]at z ⊢;exact⟨E0,E,a,b,J,I.step x,z,O⟩
 | false=>rw[EQ Lj]at z ⊢;exact⟨E0,E,a,b,J,I.step x,z,O⟩
theorem pX(i:Nat){f:CO D}(h:PS X st (ao (tV X.K f)<|yG i)):lN X st (jj i f):=ke h λD k H J=>by obtain⟨E0,E,b,g,U,I,z,O⟩:=J;obtain⟨d,e,z⟩:=zC z;subst z;exact⟨b,g,d,I.rc,e,λv j a x r=>O _ _ a<|(I.step x).A1 r⟩
theorem Wv(i:Nat){f:CO (List D)}(h:PS X st (ao (tO X.K f)<|yG i)):lN X st (xw i f):=ke h λD o H J=>by obtain⟨E0,E,d,l,Y,I,z,O⟩:=J;obtain⟨e,g,z⟩:=zC z;subst z;exact⟨d,l,e,I.rc,g,λa n m b x j k U r=>O _ _ b<|I.T7 x j k U r⟩
theorem xA(h:qJ o=di ds):o=di (.own ds):=by
 cases o with
 | none=>cases h
 | some c=>cases c<;>simp[qJ]at h;rw[h]
theorem aD(i:Nat){f:CO D}(h:PE X e (SE X.K "list" cN (tU i) (uC (tV X.K f) Gq)))(Y:wo e d5 pos.line X.env=pure ed:=by rfl):lN X (.Expr e pos) (ql i f):=
 ke (XA h Y) λD A H s=>by
  obtain⟨E0,E,l,t,w,I,z,m⟩:=s;obtain⟨j,b,z⟩:=zc z;obtain⟨d,p,z⟩:=zc z;have b:=xA b;by_cases J:j.length<lim
  ·rw[RY J]at z;cases z
   obtain⟨a,xs,k,y,O,U⟩:=I.rc.own i j b;refine⟨_,k,.inl ⟨rfl,_,gm.of O⟩,l,t,d,I.rc,p,λv u g x r=>?_⟩;have n:=I.step x;have o:=x.s1 _ _ O;refine⟨a,xs,v,rfl,rfl,o,?_,?_⟩
   ·exact Lc (by rw[U.length];exact J)<|k5<|IH _
   ·exact m _ _ g<|n.rewrite (xs:=xs) b k<|(U.mono x.s0).append (ej.cons r ej.nil)
  ·rw[EQ J]at z;cases z
end
noncomputable def Ic(K:Iy)(H0 H:Hp)(Q:VK):Res->Prop
 | .val d=>∀v e b,Ext H0 H b e->Rep K b d v->Q v e
 | .own g=>∀a f e b,Ext H0 H b e->H a=d5->b a=d5->e a=di (.lst f)->ej K b g f->Q (.ref a) e
noncomputable def rb(K:Iy)(n:Nat)(F:List D->Option Res):Sp:=λd H Q _=>∃a b r,gR a H/\ej K a b d/\b.length=n/\F b=di r/\Ic K a H Q r
theorem rb.len{K:Iy}{n:Nat}{F:List D->Option Res}{ps:List Str}(C:ps.length=n) : ∀vs H Q E,rb K n F vs H Q E->vs.length=ps.length:=λvs H Q E h=>by obtain⟨d,e,r,_,a,b,_⟩:=h;rw[a.length,b,C]
section
variable{P:i3}{w:h8}{K:Iy}{mg:RJ}{base:f7}
theorem iC(s:gR H0 H)(h:ej K H0 ds vs)(C:ds.length<=N.length):RS K H0 H H0 H (w6 N vs) (zY N.length ds):=by
 have z:=h.length;refine⟨⟨s,by simp[L2.w6,zY,z],λi d e=>?_,λi g e=>?_,λi j a g fs e _ _ _=>?_,o4.DW λi f e=>?_⟩,Ext.refl s,λi g a e _=>?_,λi f a l e _ _=>?_⟩
 all_goals unfold zY at e
 ·by_cases b:i<ds.length
  ·rw[LK (by simpa using b),Le]at e
   cases e1:ds[i]? with
   | none=>rw[e1]at e;cases e
   | some k=>
    rw[e1]at e;cases e;obtain⟨x,I,g2⟩:=h.get e1;refine⟨x,?_,g2⟩;unfold L2.w6;rw[LK (by simp;omega),Le,I];rfl
  ·rw[Lz (by simpa using b),NI]at e
   split at e<;>cases e
 all_goals
  by_cases b:i<ds.length
  ·rw[LK (by simpa using b),Le]at e
   cases e1:ds[i]? with
   | none=>rw[e1]at e;cases e
   | some k=>rw[e1]at e;cases e
  ·rw[Lz (by simpa using b),NI]at e
   split at e<;>cases e
theorem BE{x qual:Str}{st:kv}{f:eg}{L:pk}{N ps:List Str}{k:Nat}{F:CO Fl}(O:L2.Dp K x qual st f L)(S:D4 N ps (jB st))
 (U : ∀(C:eh) (A:mm) (outer:List nf) (s:eF) (H:Hp) (E:XK),m3 k (A.deeper<|envOfC qual (jB st) s.heap.objs.size f C)->gw (sM p8 P w K mg base N qual (jB st) f C A outer s H E).F3 (ya st) F) :
 pf P w K mg base p8 (k+1) f L ps (rb K ps.length<|ja N.length F):=by
 refine O.ok S (rb.len rfl)<|λC A outer s H y Q E Y h=>⟨_,U C A outer s H E Y,?_⟩;obtain⟨b,g,r,n,j,t,l,I⟩:=h;obtain⟨J,i,z⟩:=zc l;have p:ps.length<=N.length:=by have:=congrArg List.length S.pre;rw[Oa]at this;omega
 refine⟨b,H,b,zY N.length g,J,iC n j ⋯,i,?_⟩;cases J with
 | ret u=>cases z;cases r<;>exact I
 | next d=>cases z;exact λo e a m=>I .el e a m.ext (show V.el = .el from rfl)
 | brk d=>cases z
 | cont d=>cases z
end
section
variable{X:Cx}{es:List eA}{pos p:hB}{k:Nat}{f:eg}{fd:pk}{ps:List Str}{x:Str}{F:List D->Option Res}{g:CO (List D)}
theorem pU{A0:List eA}(G:pf X.prog X.w X.K X.mg X.base p8 k f fd ps (rb X.K ps.length F))(C:A9 X es g)(U : ∀γ ds,g γ=di ds->ds.length=ps.length)
 (Y : ∀{t:TA},PA X es t->PE X (.Call (.Name x p) es [] pos) (pj (rb X.K ps.length F) [] E0 t)):PV X (.Call (.Name x p) es [] pos) (zB F g):=
 j9 (Y C) λL H Q u=>by
  obtain⟨l,γ,d,rc,z,q⟩:=u;obtain⟨ds,i,z⟩:=zc z;obtain⟨r,n,z⟩:=zC z;refine⟨l,γ,ds,rc,i,λE B m x1 y=>⟨m,ds,r,x1.sub,by simpa using y,U γ ds i,n,?_⟩⟩;subst z;cases r with
  | val d=>exact λv e b I h=>q v e b (x1.trans I) h
  | own fs=>
   refine λa A e b I o j s h=>q _ e _ (x1.trans<|I.show o j s x1.sub) ?_;exact(show ∃J O,V.ref a = .ref J/\gm X.K _ J O/\ej X.K _ fs O from⟨a,A,rfl,gm.of zO,h.mono<|je j _⟩)
theorem rz(G:pf X.prog X.w X.K X.mg X.base p8 k f fd ps (rb X.K ps.length F))(C:A9 X es g)(J : ∀γ ds,g γ=di ds->ds.length=ps.length)
 (O : ∀{t:TA},PA X es t->PE X (.Call (.Name x p) es [] pos) (pj (rb X.K ps.length F) [] E0 t)):PO X (.Call (.Name x p) es [] pos) (jr F g):=
 j9 (O C) λL H Q U=>by
  obtain⟨j,γ,fs,rc,I,q⟩:=U;obtain⟨ds,e,I⟩:=zc I;obtain⟨r,Y,I⟩:=zc I;refine⟨j,γ,ds,rc,e,λE B l x1 s=>⟨l,ds,r,x1.sub,by simpa using s,J γ ds e,Y,?_⟩⟩;cases r with
  | val d=>cases I
  | own gs=>
   cases I;exact λa A i b y h m n u=>q a A i b (x1.trans y) (by
    cases z:H a with
    | none=>rfl
    | some o=>rw[x1.s1 a o z]at h;cases h) m n u
end
structure Walk(K:Iy)(H0 Hs:Hp)(J:It)(ds:List D):Prop where
 go : ∀i H1,gR Hs H1->i<ds.length->J.go i H1
 stop : ∀H1,gR Hs H1->J.stop ds.length H1
 A4 : ∀i H1 x RU,gR Hs H1->i<ds.length->J.A4 i H1 x RU->∃d,ds[i]? = di d/\∀G0,gR H0 G0->gR G0 H1->∃RT,Ext G0 H1 RT RU/\Rep K RT d x
theorem Walk.weak{K:Iy}{H0 C z:Hp}{J:It}{ds:List D}(w:Walk K H0 C J ds)(s:gR C z):Walk K H0 z J ds:=
 ⟨λi a h=>w.go i a<|s.trans h,λa h=>w.stop a<|s.trans h,λi a x b h=>w.A4 i a x b<|s.trans h⟩
theorem Xk{k:Sk}{K:Iy}{H0 C:Hp}{a:eg}{xs:List V}{ds:List D}(h:md k K C a xs)(r:ej K H0 ds xs):Walk K H0 C (R0 k K a) ds:=by
 have J:=r.length;refine⟨λi b s n=>?_,λb s=>?_,λi b x f s n y=>?_⟩
 ·have g:i<xs.length:=by omega
  cases k with
  | L=>exact⟨xs,xs[i],s.seq h,ID g⟩
  | T=>exact⟨xs,xs[i],m4 s h,ID g⟩
 ·cases k with
  | L=>exact⟨xs,s.seq h,by omega⟩
  | T=>exact⟨xs,m4 s h,by omega⟩
 ·have e:f=b/\xs[i]? = di x:=by
   cases k with
   | L=>exact⟨y.1,y.2 xs<|s.seq h⟩
   | T=>exact⟨y.1,y.2 xs<|m4 s h⟩
  obtain⟨l,z⟩:=e;subst l;obtain⟨d,m,I⟩:=r.Dz z;exact⟨d,m,λj o p=>⟨j,Ext.refl p,I.mono o⟩⟩
theorem wu(lo:Int)(n:Nat):(kg lo n).length=n:=by simp[kg]
theorem QE{K:Iy}{H0 C:Hp}(lo:Int)(n:Nat):Walk K H0 C (C6 lo n) (kg lo n):=by
 refine⟨λi b s a=>?_,λb s=>?_,λi b x e s a y=>?_⟩
 ·rw[wu]at a;exact a
 ·rw[wu];exact IH _
 ·rw[wu]at a
  obtain⟨f,z⟩:=y;subst f z;exact⟨.int<|lo+i,by simp[kg,a],λd h g=>⟨d,Ext.refl g,(show V.int (lo+i) = .int (lo+i)from rfl)⟩⟩
theorem gP{I J:Sk}{K:Iy}{H0 L:Hp}{a b:eg}{xs ys:List V}{ds C:List D}(S:md I K L a xs)(O:ej K H0 ds xs)(Z:md J K L b ys)(r2:ej K H0 C ys) :
 Walk K H0 L (N6 I J K a b) (JY ds C):=by
 have B:=O.length;have E:=r2.length;have A:(JY ds C).length=min ds.length C.length:=by simp[JY]
 refine⟨λi f s t=>?_,λf s=>?_,λi f x j s t y=>?_⟩
 ·exact⟨xs,ys,KF s S,KF s Z,by omega,by omega⟩
 ·refine⟨xs,ys,KF s S,KF s Z,?_⟩
  rw[A];omega
 ·obtain⟨p,u,v,m,z,n,g1,g2⟩:=y
  obtain⟨d,r,w⟩:=O.Dz<|g1 xs<|KF s S;obtain⟨c,o,k⟩:=r2.Dz<|g2 ys<|KF s Z;refine⟨.tup [d,c],?_,λh g e=>⟨upd h p<|.tup [u,v],?_,?_⟩⟩
  ·have l:(ds.zip C)[i]? = di (d,c):=List.getElem?_zip_eq_some.mpr ⟨r,o⟩
   simp[JY,l]
  ·rw[n];exact Ext.alloc e z _
  ·rw[m]
   exact(show ∃U Y,V.ref p = .ref U/\hG K _ U Y/\ej K _ [d,c] Y from⟨p,[u,v],rfl,hG.of zO,ej.cons ((w.mono g).mono (je (jw e z) _))<|ej.cons ((k.mono g).mono (je (jw e z) _)) ej.nil⟩)
noncomputable def RN(K:Iy)(C:CO (List D)):TI:=λg H R=>∃d f e,RC K d H g f/\C f=di e/\∀J b a,Ext d H a b->Walk K a b J e->R J b
noncomputable def RO(K:Iy)(C:CO (List D)):TI:=λg H R=>∃d f e,RC K d H g f/\C f=di e/\∀J b a,Ext d H a b->Walk K a a J e->R J b
abbrev rn(X:Cx)(tg e:eA)(src:CO (List D)):Prop:=PI X tg e (RN X.K src)
abbrev i4(X:Cx)(tg e:eA)(src:CO (List D)):Prop:=PI X tg e (RO X.K src)
section
variable{X:Cx}{tg e a b:eA}{pos p:hB}
theorem i4.c(h:i4 X tg e src):rn X tg e src:=K4 h λi H R ⟨d,g,f,rc,z,q⟩=>⟨d,g,f,rc,z,λJ b a x w=>q J b a x<|w.weak x.sub⟩
theorem z9(h:PQ X e f):rn X tg e (zL f):=K4 (de h) λp H R z=>by obtain⟨i,n,o,rc,I,q⟩:=z;obtain⟨⟨k,l⟩,j,J⟩:=zC I;subst J;exact⟨i,n,k,l,rc,j,λa m g b x d _ r=>⟨a,k,rfl,⟨m,d⟩,q _ g b x<|Xk d r⟩⟩
theorem Vj(h:PV X e f):i4 X tg e (zL<|zF f):=K4 (de h) λt H R J=>by
 obtain⟨o,p,s,rc,O,q⟩:=J;obtain⟨⟨k,l⟩,g,z⟩:=zC O;subst z;obtain⟨d,U,g⟩:=zc g;refine⟨o,p,d,rc,U,λv n b x r=>?_⟩;cases d with
 | tup fs=>
  obtain⟨z,I⟩:k = .T/\l=fs:=by simp[jA]at g;exact⟨g.1.symm,g.2.symm⟩
  subst z I;obtain⟨a,i,rfl,j,m⟩:=(show ∃a i,v = .ref a/\hG X.K b a i/\ej X.K b l i from r);exact⟨a,.T,rfl,⟨i,m4 x.sub j⟩,q _ n b x<|Xk (k:= .T) j m⟩
 | lst fs=>
  obtain⟨z,I⟩:k = .L/\l=fs:=by simp[jA]at g;exact⟨g.1.symm,g.2.symm⟩
  subst z I;obtain⟨a,i,rfl,j,m⟩:=(show ∃a i,v = .ref a/\gm X.K b a i/\ej X.K b l i from r);exact⟨a,.L,rfl,⟨i,x.sub.seq j⟩,q _ n b x<|Xk (k:= .L) j m⟩
 | _=>simp[jA]at g
theorem jC(h:l6 d=di i):d = .int i:=by cases d<;>simp[l6]at h;rw[h]
theorem Js(h:inR i=dn) : -(2 ^ 62)<=i/\i<2 ^ 62:=by unfold inR at h;have h:=of_decide_eq_true h;omega
theorem aH(J:Gl X "range")(L:X.mg "range" = d5)(C:PV X a f)(I:gv [a] X.env=[(ed,fh a X.env)]:=by rfl):i4 X tg (.Call (.Name "range" p) [a] [] pos) (zW f):=
 K4 (dg J L (jz C qy I) I) λo H R O=>by
  obtain⟨i,l,m,rc,z,q⟩:=O;obtain⟨n,e,z⟩:=zc z;obtain⟨d,U,e⟩:=zc e;by_cases g:inR n=dn
  ·rw[RY g]at z;cases z
   refine⟨i,l,d,rc,U,λv h b x r=>?_⟩;rw[jC e]at r;obtain⟨j,k⟩:=Js g;exact⟨n,by rw[show v = .int n from r],j,k,q _ h b x<|QE 0 n.toNat⟩
  ·rw[EQ g]at z;cases z
theorem aG(U:Gl X "range")(S:X.mg "range" = d5)(L:PV X a f)(Y:PV X b g)(O:gv [a,b] X.env=[(ed,fh a X.env),(ed,fh b X.env)]:=by rfl)(I:gv [b] X.env=[(ed,fh b X.env)]:=by rfl) :
 i4 X tg (.Call (.Name "range" p) [a,b] [] pos) (wt f g):=
 K4 (df U S (jz L (jz Y qy I)<|by rw[O,I]) O I) λM H R C=>by
  obtain⟨l,k,K,rc,z,q⟩:=C;obtain⟨m,i,z⟩:=zc z;obtain⟨d,t,i⟩:=zc i;obtain⟨n,J,z⟩:=zc z;obtain⟨c,u,J⟩:=zc J;by_cases e:inR m=dn/\inR n=dn
  ·rw[RY e]at z;cases z
   refine⟨l,k,d,rc,t,λv G h x r=>⟨h,k,c,rc.ext x,u,λE o s F j=>?_⟩⟩;rw[jC i]at r;rw[jC J]at j;obtain⟨w,y⟩:=Js e.1;obtain⟨A,B⟩:=Js e.2;exact⟨m,n,by rw[show v = .int m from r,show E = .int n from j],⟨w,y,A,B⟩,q _ o s (x.trans F)<|QE m (n - m).toNat⟩
  ·rw[EQ e]at z;cases z
theorem cv{K:Iy}{H:Hp}{d:D}{v:V}{k:Sk}{ds:List D}(r:Rep K H d v)(e:jA d=di (k,ds)) : ∃a xs,v = .ref a/\md k K H a xs/\ej K H ds xs:=by
 cases d with
 | tup fs=>simp[jA]at e;obtain⟨b,z⟩:=e;subst b z;exact r
 | lst fs=>simp[jA]at e;obtain⟨b,z⟩:=e;subst b z;exact r
 | _=>simp[jA]at e
theorem rA{f g:CO D}{C:List eA}{x1:Nat}{L:hB}(hg:Gl X "zip")(hm:X.mg "zip" = d5)(S:PV X a f)(Z:PV X b g)(U:gv [a,b] X.env=[(ed,fh a X.env),(ed,fh b X.env)]:=by rfl)(J:gv [b] X.env=[(ed,fh b X.env)]:=by rfl) :
 i4 X (.Tuple C x1 L) (.Call (.Name "zip" p) [a,b] [] pos) (Y9 f g):=
 K4 (AF hg hm (jz S (jz Z qy J)<|by rw[U,J]) PyProof.Rows.boot_zip U J) λP H R y=>by obtain⟨j,i,M,rc,z,q⟩:=y;obtain⟨⟨A,m⟩,h,z⟩:=zc z;obtain⟨d,t,h⟩:=zc h;obtain⟨⟨B,n⟩,O,z⟩:=zC z;obtain⟨c,u,O⟩:=zc O;subst z;refine⟨j,i,d,rc,t,λv K e x r=>⟨e,i,c,rc.ext x,u,λN k s I E=>?_⟩⟩;obtain⟨l,F,rfl,Y,g2⟩:=cv (r.mono I.s0) h;obtain⟨o,G,rfl,g3,w⟩:=cv E O;exact⟨A,B,l,o,rfl,⟨F,KF I.sub Y⟩,⟨G,KF I.sub g3⟩,q _ k s (x.trans I)<|gP Y g2 g3 w⟩
end
noncomputable def Wi:List Nat->List V->St->St
 | i::is,v::vs,σ=>Wi is vs<|σ.set i<|some v
 | _,_,σ=>σ
noncomputable def gs:List Nat->DM
 | []=>GI
 | i::is=>BC (yG i)<|gs is
noncomputable def p6(K:Iy):Tg->TG
 | .nm i=>yG i
 | .tp is=>GH K is.length<|gs is
theorem fe : ∀{is:List Nat} {vs:List V} {C:St} {H:Hp} {Q:St->Hp->Prop},vs.length=is.length->Q (Wi is vs C) H->gs is vs C H Q
 | [],[],_,_,_,_,q=>⟨rfl,q⟩
 | i::is,v::vs,C,H,Q,hl,q=>⟨v,vs,rfl,fe (by simpa using hl) q⟩
 | [],_::_,_,_,_,hl,_=>by simp at hl
 | _::_,[],_,_,_,hl,_=>by simp at hl
theorem RS.F7{K:Iy}{E0 E H0 H:Hp} : ∀{is:List Nat} {ds:List D} {vs:List V} {C:St} {γ:Ctx},RS K E0 E H0 H C γ->ej K H0 ds vs->RS K E0 E H0 H (Wi is vs C) (qS is ds γ)
 | [],ds,vs,C,γ,r,h=>by cases ds<;>cases vs<;>exact r
 | i::is,[],vs,C,γ,r,h=>by rw[h.o6];exact r
 | i::is,d::ds,vs,C,γ,r,h=>by obtain⟨x,t,e,a,b⟩:=h.ml;subst e;show RS K E0 E H0 H (DL.Wi is t<|C.set i<|some x) (qS is ds<|γ.set i<|.val d);exact RS.F7 (r.A1 a) b
theorem RC.F7{K:Iy}{H0 H:Hp} : ∀{is:List Nat} {ds:List D} {vs:List V} {C:St} {γ:Ctx},RC K H0 H C γ->ej K H0 ds vs->RC K H0 H (Wi is vs C) (qS is ds γ)
 | [],ds,vs,C,γ,r,h=>by cases ds<;>cases vs<;>exact r
 | i::is,[],vs,C,γ,r,h=>by rw[h.o6];exact r
 | i::is,d::ds,vs,C,γ,r,h=>by obtain⟨x,t,e,a,b⟩:=h.ml;subst e;show RC K H0 H (DL.Wi is t<|C.set i<|some x) (qS is ds<|γ.set i<|.val d);exact RC.F7 (r.A1 a) b
theorem vZ{K:Iy}{H0 H:Hp}{T:Tg}{d:D}{v:V}{C:St}{γ γ1:Ctx}{Q:St->Hp->Prop}(s:gR H0 H)(h:Rep K H0 d v)(e:xQ T d γ=di γ1)
 (q : ∀z,(RC K H0 H C γ->RC K H0 H z γ1)->(∀E0 E,RS K E0 E H0 H C γ->RS K E0 E H0 H z γ1)->Q z H):p6 K T v C H Q:=by
 cases T with
 | nm i=>cases e;exact q _ (λr=>r.A1 h) λE0 E r=>r.A1 h
 | tp is=>
  cases d with
  | tup g=>
   simp only[xQ]at e;by_cases I:g.length=is.length
   ·rw[RY I]at e;cases e
    obtain⟨a,b,rfl,k,f⟩:=(show ∃a b,v = .ref a/\hG K H0 a b/\ej K H0 g b from h);have j:b.length=is.length:=by rw[f.length,I]
    exact⟨a,b,rfl,m4 s k,j,fe j<|q _ (λr=>r.F7 f) λE0 E r=>r.F7 f⟩
   ·rw[EQ I]at e;cases e
  | _=>simp[xQ]at e
theorem Ext.rebase{E0 E z H0 H B:Hp}(e:Ext E0 E z B)(x:Ext z E H0 H):Ext E0 E H0 H:=
 ⟨e.s0.trans x.s0,x.s1,x.sub,λa d b=>x.new a (e.new a d b) b⟩
theorem Ext.base{E0 E z B:Hp}(e:Ext E0 E z B):Ext z E z B:=⟨gR.refl _,e.s1,e.sub,λa h _=>h⟩
theorem Sat.rebase{K:Iy}{E0 E I B:Hp}{D:Ends}{z:Fl}(e:Ext E0 E I B)(h:Sat K E0 E D z):Sat K I E D z:=by
 cases z with
 | next g=>exact λf H b r=>h f H b ⟨r.rc,e.rebase r.ext,r.fresh,r.t7⟩
 | brk g=>exact λf H b r=>h f H b ⟨r.rc,e.rebase r.ext,r.fresh,r.t7⟩
 | cont g=>exact λf H b r=>h f H b ⟨r.rc,e.rebase r.ext,r.fresh,r.t7⟩
 | ret r=>
  cases r with
  | val d=>exact λv H b x q=>h v H b (e.rebase x) q
  | own l=>exact λa k H b x i j J q=>h a k H b (e.rebase x) i j J q
section
variable{X:Cx}{tg iter:eA}{body:List kv}{pos:hB}
theorem pY{C:CO (List D)}{T:Tg}{F:CO Fl}(hp:O0 (e9 X.prog X.w) X.A X.env X.xe)(hc:X.calm=dn)(hi:i4 X tg iter C)(hg:PG X tg (p6 X.K T))(hb:gw X body F)
 (hs : ∀x,o5 iter X.env x=pure x:=by intro _;rfl):lN X (.For tg iter body [] pos) (vt C T F):=
 ke (nJ hp hc hi hg hb hs) λD j H hZ=>by
  obtain⟨E0,E,g,b,I,O,z,Y⟩:=hZ;obtain⟨a,S,z⟩:=zc z;refine⟨g,b,a,O.rc,S,λJ H1 U x1 s=>?_⟩;have k:=O.step x1;have G:=k.ext;refine⟨λi m j H=>m=a.length - i/\i<=a.length/\∃g b I,RS X.K U E g H j b/\xP T F (a.drop i) b=di I/\Sat X.K U E D I,⟨_,rfl,LL _,U,b,I,⟨k.rc,G.base,k.fresh,k.t7⟩,z,Y.rebase G⟩,?_⟩;rintro i m j H ⟨rfl,hi,g,b,I,O,z,Y⟩;have l:gR U H:=O.ext.s0.trans O.ext.sub;by_cases h:i<a.length
  ·refine .inr ⟨s.go i H l h,λj H=>i+1<=a.length/\∃g b I,RS X.K U E g H j b/\xP T F (a.drop<|i+1) b=di I/\Sat X.K U E D I,λUm B n=>⟨a.length - (i+1),by omega,rfl,n.1,n.2⟩,λx B y=>?_⟩
   obtain⟨d,L,hx⟩:=s.A4 i H x B l h y;obtain⟨N,M,rg⟩:=hx g O.ext.s0 O.rc.sub;have Q:a.drop i=d::a.drop (i+1):=by
    have as:d=a[i]:=by rw[ID h]at L;exact(Lq L).symm
    rw[as];exact MN h
   rw[Q]at z;simp only[xP]at z;obtain⟨t,Z,z⟩:=zc z;obtain⟨f1,W,z⟩:=zc z;refine vZ M.sub rg Z λN2 _ R=>⟨U,E,N,t,f1,R U E<|O.step M,W,?_⟩;cases f1 with
   | next f=>exact λu P o p=>⟨h,o,f,I,p,z,Y⟩
   | cont f=>exact λu P o p=>⟨h,o,f,I,p,z,Y⟩
   | brk f=>cases z;exact Y
   | ret r=>cases z;cases r<;>exact Y
  ·have e:i=a.length:=by omega
   subst e;rw[Ob]at z;cases z;exact .inl ⟨s.stop H l,Y j H g O⟩
end
theorem qC(h:(z6 n fr γ)[i]? = di c):c = .no\/(∃d j,c = .val d/\n<=i/\fr[i - n]? = di j/\γ[j]? = di (.val d)):=by
 unfold z6 at h;by_cases b:i<n
 ·rw[LK (by simpa using b),NI,RY b]at h
  exact .inl (Lq h).symm
 ·rw[Lz (by simpa using b),Le,List.length_replicate]at h
  cases e:fr[i - n]? with
  | none=>rw[e]at h;cases h
  | some j=>
   rw[e]at h;have a:kf (γ[j]?.getD .no)=c:=by simpa using h
   cases e2:γ[j]? with
   | none=>rw[e2]at a;exact .inl a.symm
   | some z=>
    rw[e2]at a;cases z with
    | no=>exact .inl a.symm
    | own g=>exact .inl a.symm
    | nest f=>exact .inl a.symm
    | val d=>exact .inr ⟨d,j,a.symm,by omega,rfl,e2⟩
theorem RC.pull{K:Iy}{H0 H:Hp}{L:St}{γ:Ctx}{own:List Str}{C:List (Str×Nat)}(r:RC K H0 H L γ):RC K H0 H (L2.iJ own C L) (z6 own.length (C.map (·.2)) γ):=by
 refine⟨r.sub,by simp[L2.iJ,z6],λi d h=>?_,λi e h=>?_,λi j a e k h _ _ _=>?_,o4.DW λi b h=>?_⟩
 ·rcases qC h with z | ⟨d',j,z,hi,I,J⟩
  ·cases z
  ·cases z
   obtain⟨v,f,g⟩:=r.val j d J;refine⟨v,?_,g⟩;rw[Le]at I;cases q:C[i - own.length]? with
   | none=>rw[q]at I;cases I
   | some p=>
    rw[q]at I;have O:p.2=j:=by simpa using I
    unfold L2.iJ;rw[Lz (by simpa using hi),Le,IU,q];simp[O,f]
 ·rcases qC h with z | ⟨d',j,z,_⟩<;>cases z
 ·rcases qC h with z | ⟨d',j,z,_⟩<;>cases z
 ·rcases qC h with z | ⟨d',j,z,_⟩<;>cases z
theorem RC.weak{K:Iy}{H0 H:Hp}{L:St}{γ γ':Ctx}(r:RC K H0 H L γ)(I:γ'.length=γ.length)(J : ∀(i:Nat) d,γ'[i]? = di (.val d)->γ[i]? = di (.val d))(z : ∀(i:Nat) ds,γ'[i]? ≠ di (.own ds))(O : ∀(i:Nat) C,γ'[i]? ≠ di (.nest C)):RC K H0 H L γ':=
 ⟨r.sub,by rw[I];exact r.len,λi d h=>r.val i d<|J i d h,λi ds h=>absurd h<|z i ds,λi j a ds b h _ _ _=>absurd h<|z i ds,o4.DW O⟩
theorem RC.upd{K:Iy}{H0 H:Hp}{L:St}{γ:Ctx}{D:eg}{o:HO}(r:RC K H0 H L γ)(J:H0 D=d5)(I : ∀(i:Nat) ds,γ[i]? ≠ di (.own ds))(O : ∀(i:Nat) C,γ[i]? ≠ di (.nest C)):RC K H0 (upd H D o) L γ:=
 ⟨λb u q=>by rw[zK (λz=>by rw[z,J]at q;cases q)];exact r.sub b u q,r.len,r.val,λi ds h=>absurd h<|I i ds,λi j a ds d h _ _ _=>absurd h<|I i ds,o4.DW O⟩
theorem ZN : ∀{is:List Nat} {ds:List D} {γ:Ctx},(qS is ds γ).length=γ.length
 | [],ds,γ=>by cases ds<;>rfl
 | i::is,[],γ=>rfl
 | i::is,d::ds,γ=>by show(qS is ds<|γ.set i<|.val d).length=_;rw[ZN];simp
theorem ZO : ∀{is:List Nat} {ds:List D} {γ:Ctx} {i:Nat},i∉is->(qS is ds γ)[i]? = γ[i]?
 | [],ds,γ,i,_=>by cases ds<;>rfl
 | j::is,[],γ,i,_=>rfl
 | j::is,d::ds,γ,i,h=>by show(qS is ds<|γ.set j<|.val d)[i]? = _;rw[ZO (λz=>h<|IM _ z),IG (λz=>h<|by rw[<- z];exact IQ)]
theorem YM(h:xQ T d γ=di γ1):γ1.length=γ.length/\∀i,i∉T.idx->γ1[i]? = γ[i]? :=by
 cases T with
 | nm j=>cases h;exact⟨by simp,λi a=>IG<|λz=>a<|by simp[Tg.idx,z]⟩
 | tp is=>
  cases d with
  | tup b=>
   simp only[xQ]at h;by_cases I:b.length=is.length
   ·rw[RY I]at h;cases h;exact⟨ZN,λi a=>ZO a⟩
   ·rw[EQ I]at h;cases h
  | _=>simp[xQ]at h
section
variable{K:Iy}{own:List Str}{fr:List (Str×Nat)}{src:CO (List D)}{T:Tg}{k:CO Bool}{f:CO D}
theorem vU(hT : ∀i∈T.idx,i<own.length)(bn : ∀C H Q,tT K k C H Q->tt C H Q) : ∀C H Q,tO K (zS src T own.length (fr.map (·.2)) k f) C H Q->bY (RN K src) own fr (p6 K T) tt (tV K f) C H Q:=λC H Q hZ=>by
 obtain⟨H0,t,ds,rc,U,q⟩:=hZ;obtain⟨a,e1,U⟩:=zc U;by_cases hl:a.length<=lim
 ·rw[RY hl]at U
  refine⟨H0,t,a,rc,e1,λJ H1 P x1 wk D A=>?_⟩;have R : ∀(i:Nat) es,(z6 own.length (fr.map (·.2)) t)[i]? ≠ di (.own es):=λi es h=>by rcases qC h with z | ⟨d',j,z,_⟩<;>cases z
  have S : ∀(i:Nat) B,(z6 own.length (fr.map (·.2)) t)[i]? ≠ di (.nest B):=λi es h=>by rcases qC h with z | ⟨d',j,z,_⟩<;>cases z
  have b5:P D=d5:=jw x1.sub A;have bv:H D=d5:=by
   cases z:H D with
   | none=>rfl
   | some o=>rw[x1.s1 D o z]at A;cases A
  refine⟨λi m n F l=>m=a.length - i/\i<=a.length/\n.length<=i/\l D=di (.lst n)/\∃g u L,RC K g l F (z6 own.length (fr.map (·.2)) t)/\g D=d5/\Ext P H1 g l/\ej K g u n/\zU T k f (z6 own.length (fr.map (·.2)) t) (a.drop i)=di L/\ds=u++L,
   ⟨_,rfl,LL _,IH _,zO,P,[],ds,((rc.ext x1).pull).upd b5 R S,b5,Ext.hide x1.sub A _,ej.nil,U,rfl⟩,?_⟩
  rintro i m n F l ⟨rfl,hi,hy,M,g,u,L,W,b6,Y,r',I,rfl⟩;refine⟨M,?_⟩;by_cases s:i<a.length
  ·refine .inr ⟨wk.go i l Y.s1 s,?_,λx X y=>?_⟩
   ·have:=k5<|IH lim;omega
   obtain⟨d,hd,hx⟩:=wk.A4 i l x X Y.s1 s y;obtain⟨G0,O,rg⟩:=hx g Y.s0 W.sub;have bx:a.drop i=d::a.drop (i+1):=by
    have c0:d=a[i]:=by rw[ID s]at hd;exact(Lq hd).symm
    rw[c0];exact MN s
   rw[bx]at I;simp only[zU]at I;obtain⟨p,eb,I⟩:=zc I;obtain⟨b,ek,I⟩:=zc I;have c2:G0 D=d5:=O.new D b6 (by rw[M];simp);have b7:X D=di (.lst n):=O.s1 _ _ M;obtain⟨bl,bg⟩:=YM eb;have b8 : ∀{G:St} {G2 H2:Hp},RC K G2 H2 G p->RC K G2 H2 G (z6 own.length (fr.map (·.2)) t):=λr=>r.weak bl.symm (λj d' hj=>by
    by_cases hm:j∈T.idx
    ·rcases qC hj with z | ⟨d2,j2,_,hn,_⟩
     ·cases z
     ·exact absurd (hT j hm) ⋯
    ·rw[bg j hm];exact hj) R S
   refine vZ O.sub rg eb λN2 bd _=>bn N2 X _ ⟨G0,p,b,bd<|W.ext O,ek,λH3 Z x3=>?_⟩;have ap:=(bd<|W.ext O).ext x3;have xa:=Y.trans<|O.trans x3;have bf:Z D=d5:=x3.new D c2 (by rw[b7];simp);have as:H3 D=di (.lst n):=x3.s1 _ _ b7;cases b with
   | true=>
    dsimp only;rw[RY rfl]at I ⊢;obtain⟨e,ee,I⟩:=zc I;obtain⟨kH,er,I⟩:=zC I;refine⟨Z,p,e,ap,ee,λv H4 bi E r4=>?_⟩;have ax:bi D=d5:=E.new D bf (by rw[as];simp);have c9:H4 D=di (.lst n):=E.s1 _ _ as;have N:=xa.trans E;refine⟨c9,a.length - (i+1),by omega,rfl,s,by rw[LJ,Nh];omega,zO,bi,u++[e],kH,(b8<|ap.ext E).upd ax R S,ax,?_,(r'.mono<|(O.trans<|x3.trans E).s0).append (ej.cons r4 ej.nil),er,?_⟩
    ·exact⟨N.s0,λc o z=>by rw[zK (λw=>by rw[w,A]at z;cases z)];exact N.s1 c o z,λc o z=>by rw[zK (λw=>by rw[w,ax]at z;cases z)];exact N.sub c o z,N.new⟩
    ·rw[<- I];simp
   | false=>
    dsimp only;rw[EQ Lj]at I ⊢;exact⟨a.length - (i+1),by omega,rfl,s,by omega,as,Z,u,L,b8 ap,bf,xa,r'.mono<|(O.trans x3).s0,I,rfl⟩
  ·have e:i=a.length:=by omega
   subst e;rw[Ob]at I;cases I;rw[Nj]at q;exact .inl ⟨wk.stop l Y.s1,q D n l g (x1.trans Y) bv b6 M r'⟩
 ·rw[EQ hl]at U;cases U
end
section
variable{X:Cx}{scope:hL}{own:List Str}{fr:List (Str×Nat)}{elt tg iter c:eA}{pos:hB}{src:CO (List D)}{T:Tg}{k:CO Bool}{f:CO D}
theorem rl(z:X.calm=dn)(ok:ri X scope fr)(I : ∀i∈T.idx,i<own.length)(hi:rn X tg iter src)(J : ∀fp L C,PG (js X scope (own++fr.map (·.1)) fp L C) tg<|p6 X.K T)
 (O : ∀fp L C,PV (js X scope (own++fr.map (·.1)) fp L C) elt f) (U : ∀x,o5 iter X.env x=pure x:=by intro _;rfl) :
 PO X (.ListComp elt [⟨tg,iter,[],0⟩] scope pos) (zS src T own.length (fr.map (·.2)) jt f):=
 j9 (Vk z ok hi J (λ_ _ _=>XD) O U) (vU I λe H Q ⟨a,d,b,rc,Y,q⟩=>by cases Y;exact q H a<|Ext.refl rc.sub)
theorem cZ(z:X.calm=dn)(ok:ri X scope fr)(I : ∀i∈T.idx,i<own.length)(hi:rn X tg iter src)(J : ∀fp L C,PG (js X scope (own++fr.map (·.1)) fp L C) tg<|p6 X.K T)
 (O : ∀fp L C,l9 (js X scope (own++fr.map (·.1)) fp L C) c k) (U : ∀fp L C,PV (js X scope (own++fr.map (·.1)) fp L C) elt f) (Y : ∀x,o5 iter X.env x=pure x:=by intro _;rfl) :
 PO X (.ListComp elt [⟨tg,iter,[c],0⟩] scope pos) (zS src T own.length (fr.map (·.2)) k f):=
 j9 (Vk z ok hi J (λfp L C=>Wz<|O fp L C) U Y) (vU I λa H Q h=>h)
theorem iV(z:X.N.Nodup)(I:X.N[i]? = di y)(J:Loc X.env.scope y)(O:X.fn y=dn\/X.env.scope.names.lookup y=di .local)
 (U:X.calm=dn) (ok:ri X scope fr) (Y : ∀i∈T.idx,i<own.length) (hi:rn X tg iter src) (Z : ∀fp L C,PG (js X scope (own++fr.map (·.1)) fp L C) tg<|p6 X.K T)
 (S : ∀fp L C,PV (js X scope (own++fr.map (·.1)) fp L C) elt f) (hs : ∀x,o5 iter X.env x=pure x:=by intro _;rfl) :
 PS X (.Assign [.Name y py] (.ListComp elt [⟨tg,iter,[],0⟩] scope pos) spos) (ao (tO X.K<|zS src T own.length (fr.map (·.2)) jt f)<|yG i):=
 ke (wz z I J O U ok hi Z (λ_ _ _=>XD) S hs) λD a H h=>vU Y (λa H Q g=>by obtain⟨d,j,b,rc,e,q⟩:=g;cases e;exact q H d<|Ext.refl rc.sub) a H _ h
theorem aE(z:X.N.Nodup)(I:X.N[i]? = di y)(J:Loc X.env.scope y)(O:X.fn y=dn\/X.env.scope.names.lookup y=di .local)
 (U:X.calm=dn) (ok:ri X scope fr) (Y : ∀i∈T.idx,i<own.length) (hi:rn X tg iter src) (Z : ∀fp L C,PG (js X scope (own++fr.map (·.1)) fp L C) tg<|p6 X.K T)
 (hk : ∀fp L C,l9 (js X scope (own++fr.map (·.1)) fp L C) c k) (S : ∀fp L C,PV (js X scope (own++fr.map (·.1)) fp L C) elt f) (hs : ∀x,o5 iter X.env x=pure x:=by intro _;rfl) :
 PS X (.Assign [.Name y py] (.ListComp elt [⟨tg,iter,[c],0⟩] scope pos) spos) (ao (tO X.K<|zS src T own.length (fr.map (·.2)) k f)<|yG i):=
 ke (wz z I J O U ok hi Z (λfp L C=>Wz<|hk fp L C) S hs) λD a H h=>vU Y (λa H Q h=>h) a H _ h
end
theorem jq{K:Iy}{H:Hp}{i:Int}{v:V}(h:Rep K H (.int i) v):v = .int i:=h
theorem ik{K:Iy}{g:Int->Int->D}{z:Int->Int->V}(J : ∀H i j,Rep K H (g i j)<|z i j):mr K (sx z) (dI g):=λa H x y b O d Q s U Y I q=>by cases b<;>cases O<;>simp[dI]at I;subst I;exact⟨_,_,jq U,jq Y,q _ H a (Ext.refl s)<|J a _ _⟩
theorem cn{K:Iy}{C:Int->Int->Prop}{c:Int->Int->Bool}{g:Int->Int->D}{z:Int->Int->V}(J : ∀i j,c i j=dn->C i j)(O : ∀H i j,Rep K H (g i j)<|z i j):mr K (rI C z) (E4 c g):=λa H x y b U d Q s Y h I q=>by cases b<;>cases U<;>simp[E4]at I;obtain⟨e,f⟩:=I;subst f;exact⟨_,_,jq Y,jq h,J _ _ e,q _ H a (Ext.refl s)<|O a _ _⟩
theorem pz{K:Iy}:mr K (sx λi j=> .int (i - j)) JE:=ik λ_ _ _=>rfl
theorem mS(h:Kc i j=dn):DI i j:=by unfold Kc at h;rw[Mf,decide_eq_true_eq,decide_eq_true_eq]at h;unfold DI;omega
theorem pE{K:Iy}:mr K (rI Hj λi j=> .int (i/j)) QB:=cn (λi j h=>by unfold BN at h;rw[IS,decide_eq_true_eq,decide_eq_true_eq]at h;exact⟨h.1,by omega⟩) λ_ _ _=>rfl
theorem pC{K:Iy}:mr K (rI (λ_ j=>0<j) λi j=> .int (i%j)) ky:=cn (λi j h=>by unfold CZ at h;exact of_decide_eq_true h) λ_ _ _=>rfl
theorem pA{K:Iy}:mr K (rI Hi λi j=> .int (i ^ j.toNat)) sJ:=cn (λi j h=>by unfold BM at h;rw[IS,IS,decide_eq_true_eq,decide_eq_true_eq,decide_eq_true_eq]at h;exact⟨h.1.1,by omega,h.2⟩) λ_ _ _=>rfl
theorem Wg{K:Iy}:mr K (sx λi j=> .bl (decide<|i<j)) z4:=ik λ_ _ _=>rfl
theorem wU{K:Iy}:mr K (sx λi j=> .bl (decide<|i<=j)) o3:=ik λ_ _ _=>rfl
theorem nz{K:Iy}:mr K (sx λi j=> .bl (decide<|j<i)) qs:=ik λ_ _ _=>rfl
section
variable{X:Cx}
noncomputable def nE(K:Iy):R2:=λx y H Q=>∃a b d e,x = .ref a/\y = .ref b/\hG K H a d/\hG K H b e/\d.length+e.length<=f6/\
 (d=[]->Q (.ref b) H)/\(e=[]->Q (.ref a) H)/\∀p,H p=d5->Q (.ref p) (upd H p<|.tup<|d++e)
theorem lF:ix X (t5 .Add) (nE X.K):=by
 intro t s σ H x y v u Q I S T h;obtain⟨a,b,w,Z,rfl,rfl,G,L,p,N,P,R⟩:=h;cases S;cases T;obtain⟨J,r,U,z1⟩:=I.tuple G;obtain⟨A,e,Y,z2⟩:=I.tuple L;by_cases O:w=[]
 ·have d:J=[]:=(r.L3).mpr O
  obtain⟨⟨E,F,j,W⟩,m,k,n,l⟩:=id U;obtain⟨⟨b5,B,data2,C⟩,f,g,M,i⟩:=id Y;simp only at k l g i;subst k l g i;exact Rm ⟨_,m,rfl⟩ ⟨_,f,rfl⟩ Rn Sw OK OI (Ow _ _)
   (tuple_addW0 a b J.toArray A.toArray n M F B W C<|by simp[d]) ⟨m,f,⟨.ref b,H,I,rfl,N O⟩⟩
 ·have d:J ≠ []:=λz=>O ((r.L3).mp z)
  refine HT.FE U Y d (λz=>⟨.ref a,H,I,rfl,P<|(e.L3).mp z⟩) (λ_=>?_) (by rw[<- r.length,<- e.length];exact p);refine⟨.ref s.heap.objs.size,_,I.laid (t':=s.toks) (o:= .tup (w++Z)) (λc ob q=>IB _ q) (IH _) ?_,rfl,R _<|I.f9.fresh<|IH _⟩;exact⟨by rw[LJ];exact p,_,r.append e,xg.new _ _⟩
noncomputable def Ai(K:Iy):R2:=λx y H Q=>∃l b a d,x = .ref l/\y = .ref b/\gm K H l a/\gm K H b d/\a.length+d.length<=f6/\∀p,H p=d5->Q (.ref p) (upd H p<|.lst<|a++d)
theorem lG:ix X (t5 .Add) (Ai X.K):=by
 intro a s L H x y v u Q I C E h;obtain⟨l,b,Z,zs,rfl,rfl,w,t,S,q⟩:=h;cases C;cases E;obtain⟨z,r,⟨o,n,e,O,U,d⟩,z1⟩:=I.list w;obtain⟨J,j,⟨B,A,Y,f,g,i⟩,z2⟩:=I.list t;have T:=r.length;have W:=j.length;obtain⟨cls,lh,R,G⟩:=o;obtain⟨M,N,P,k⟩:=B;simp only at O U d f g i;subst O U d f g i;have m:EP X a L Q (.ref s.heap.objs.size) {s with heap:=s.heap.push {cls:= .type "list",data:= .seq (z++J).toArray}}:=
  ⟨.ref _,_,I.Sn (t':=s.toks) (r.append j) (by rw[LJ];omega),rfl,q _ I.fresh⟩
 have p:z.toArray++J.toArray=(z++J).toArray:=by simp
 refine Rm ⟨_,e,rfl⟩ ⟨_,Y,rfl⟩ noFill_list_add seq_list_add PySem.F.slot_list_add PySem.F.entry_list_add (PySem.F.args_list_add_2 _ _)
  (list_addW l b z.toArray J.toArray n A d5 d5 G k<|by rw[II,II];omega) ⟨e,Y,?_⟩
 rw[p];exact m
end
noncomputable def kW(scope C:hL):hL:={scope with names:=scope.names.map λp=>if p.2==Ln && C.kind == .function && C.names.lookup p.1==di .cell then (p.1,MQ)else (p.1,p.2)}
theorem ay(scope:hL)(env:nf):wh scope env=kW scope env.scope:=by unfold wh kW;rfl
structure SX(X:Cx)(sc:hL)(N T:List Str)(k:Nat):Prop where
 DS:X.env.scope=sc
 eN:X.N=N
 nd:N.Nodup
 calm:X.calm=dn
 room:m3 k X.A
 fn : ∀x∈T,X.fn x=dn\/sc.names.lookup x=di .local
noncomputable def JZ(C:hL)(N:List Str)(i:Nat)(x:Str):Bool:=
 decide (N[i]? = di x) && (decide (C.names.lookup x=di .local) || decide (C.names.lookup x=di .cell) || decide (C.names.lookup x=di .free)) && !(x==("__debug__" : Str)) && !(x==("__classdict__" : Str))
noncomputable def yt(C:hL)(N T:List Str)(i:Nat)(x:Str):Bool:=decide (x∈T) && decide (N[i]? = di x) && (decide (C.names.lookup x=di .local) || decide (C.names.lookup x=di .cell))
noncomputable def vd(C:hL)(x:Str):Bool:=decide (C.names.lookup x=di .globalImplicit) && !(x==("__name__" : Str)) && !(x==("__debug__" : Str))
section
variable{X:Cx}{sc:hL}{N T:List Str}{k:Nat}{i:Nat}{x:Str}{pos:hB}
theorem SX.var(h:SX X sc N T k)(c:JZ sc N i x=dn):PE X (.Name x pos) (tU i):=by
 unfold JZ at c;simp only[IS,Mf,decide_eq_true_eq,MB]at c;obtain⟨⟨⟨a,h2⟩,z⟩,I⟩:=c;refine AH (by rw[h.eN];exact a) ?_ z I;unfold O6;rw[h.DS];rcases h2 with(h2 | h2) | h2
 ·exact .inl h2
 ·exact .inr<|.inl h2
 ·exact .inr<|.inr h2
theorem SX.loc(h:SX X sc N T k)(c:yt sc N T i x=dn):X.N[i]? = di x/\L2.Loc X.env.scope x/\(X.fn x=dn\/X.env.scope.names.lookup x=di .local):=by
 unfold yt at c;simp only[IS,Mf,decide_eq_true_eq]at c;refine⟨by rw[h.eN];exact c.1.2,?_,?_⟩
 ·unfold L2.Loc;rw[h.DS];exact c.2
 ·rw[h.DS];exact h.fn x c.1.1
theorem SX.E9(h:SX X sc N T k):X.N.Nodup:=by rw[h.eN];exact h.nd
theorem SX.DH(h:SX X sc N T k)(i:Nat)(c:yt sc N T i x=dn):PG X (.Name x pos) (yG i):=by obtain⟨a,b,z⟩:=h.loc c;exact dm h.E9 a b z
theorem SX.SG(h:SX X sc N T k)(g:D8 X es (gs is))(C:(x6 es X.env).length=is.length:=by rfl)(z:(x6 es X.env).findIdx? (·.1)=d5:=by rfl):PG X (.Tuple es j pos) (p6 X.K<|.tp is):=
 AG h.calm g C z
theorem SX.set(h:SX X sc N T k)(i:Nat)(c:yt sc N T i x=dn)(z:PE X e te)(I:wo e (di (.Name x pos')) pos.line X.env=pure ed:=by rfl):PS X (.Assign [.Name x pos'] e pos) (ao te<|yG i):=by obtain⟨a,b,J⟩:=h.loc c;exact AB h.E9 a b z I J
theorem SX.gl(h:SX X sc N T k)(c:vd sc x=dn):Gl X x/\x ≠ "__name__"/\(x==("__debug__" : Str))=ed:=by
 unfold vd at c;simp only[IS,decide_eq_true_eq,MB]at c;refine⟨?_,?_,c.2⟩
 ·show X.env.scope.names.lookup x=_
  rw[h.DS];exact c.1.1
 ·intro e;rw[e]at c;simp at c
noncomputable def VP(sc scope:hL)(N:List Str)(C:List (Str×Nat)):Bool:=
 decide (scope.kind = .function) && decide ((scope.names.map (·.1)).Nodup) && scope.names.all (λp=> !(p.2==Ln) || decide (sc.names.lookup p.1=di .cell) || decide (sc.names.lookup p.1=di .free)) &&
 C.all λp=>decide (scope.names.lookup p.1=di .free) && decide (N[p.2]? = di p.1)
noncomputable def EF(own:List Str)(scope:hL)(C:List (Str×Nat)):Bool:=decide ((own++C.map (·.1)).Nodup) && own.all (λx=>decide (scope.names.lookup x=di .local) || decide (scope.names.lookup x=di .cell))
theorem SX.Tr(h:SX X sc N T k)(c:VP sc scope N fr=dn):ri X scope fr:=by
 unfold VP at c;simp only[IS,decide_eq_true_eq,MJ,Mf,MB]at c;obtain⟨⟨⟨I,J⟩,b⟩,a⟩:=c;refine⟨I,J,λp z O=>?_,λp z=>⟨(a p z).1,by rw[h.eN];exact(a p z).2⟩⟩;have e:X.env.kindOf p.1=sc.names.lookup p.1:=by show X.env.scope.names.lookup p.1=_;rw[h.DS]
 rw[e];rcases b p z with(q | q) | q
 ·rw[O]at q;exact absurd q ⋯
 ·exact .inl q
 ·exact .inr q
theorem Jh(scope sc:hL)(x:Str):(kW scope sc).names.lookup x=(scope.names.lookup x).map λk=>if (k==Ln && sc.kind == .function && sc.names.lookup x==di .cell)then MQ else k:=by
 unfold kW;dsimp only;generalize scope.names=l
 induction l with
 | nil=>rfl
 | cons p r I=>
  obtain⟨n,J⟩:=p;rw[Ld];cases hx:x==n with
  | true=>
   have e:x=n:=by simpa using hx
   subst e;dsimp only;split
   ·rename_i z;rw[LO,LO,beq_self_eq_true];dsimp only[OC];rw[RY z]
   ·rename_i z;rw[LO,LO,beq_self_eq_true];dsimp only[OC];rw[EQ z]
  | false=>
   dsimp only;split
   ·rw[LO,LO,hx];exact I
   ·rw[LO,LO,hx];exact I
theorem SX.comp(h:SX X sc N T k)(c:EF own scope fr=dn) :
 SX (js X scope (own++fr.map (·.1)) fp s2 H2) (kW scope sc) (own++fr.map (·.1)) own k:=by
 unfold EF at c;simp only[IS,decide_eq_true_eq,MJ,Mf]at c;refine⟨?_,rfl,c.1,h.calm,h.room,λx a=>?_⟩
 ·show wh scope X.env=_
  rw[ay,h.DS]
 ·rcases c.2 x a with q | q
  ·right;rw[Jh,q];rfl
  ·left
   show(scope.names.lookup x==di .cell)=dn;rw[q];rfl
end
mutual
def i1:D->PyData
 | .el=> .none
 | .bl b=> .bool b
 | .int i=> .int i
 | .str x=> .str x
 | .tup a=> .tuple (m5 a)
 | .lst a=> .list (m5 a)
 | .l4 _ _=> .none
 | .lh _ _=> .none
def m5:List D->List PyData
 | []=>[]
 | d::ds=>i1 d::m5 ds
end
theorem C1(h:kr (.l4 ks vs)=dn):False:=by simp[kr]at h
theorem C0(h:kr (.lh ks vs)=dn):False:=by simp[kr]at h
mutual
theorem E5 : ∀x y:D,kr x=dn->kr y=dn->Mv (i1 x) (i1 y)=hH x y
 | .el,y,_,h=>by cases y<;>first | exact(C1 h).elim | exact(C0 h).elim | simp[i1,Mv,hH]
 | .bl a,y,_,h=>by cases y<;>first | exact(C1 h).elim | exact(C0 h).elim | simp[i1,Mv,hH]
 | .int a,y,_,h=>by cases y<;>first | exact(C1 h).elim | exact(C0 h).elim | simp[i1,Mv,hH]
 | .str a,y,_,h=>by cases y<;>first | exact(C1 h).elim | exact(C0 h).elim | simp[i1,Mv,hH]
 | .l4 c n,y,h,_=>(C1 h).elim
 | .lh c n,y,h,_=>(C0 h).elim
 | .tup xs,y,h1,h2=>by
  cases y with
  | tup b=>simp only[kr]at h1 h2;simp only[i1,Mv,hH];exact P6 xs b h1 h2
  | l4 c n=>exact(C1 h2).elim
  | lh c n=>exact(C0 h2).elim
  | _=>simp[i1,Mv,hH]
 | .lst xs,y,h1,h2=>by
  cases y with
  | lst b=>simp only[kr]at h1 h2;simp only[i1,Mv,hH];exact P6 xs b h1 h2
  | l4 c n=>exact(C1 h2).elim
  | lh c n=>exact(C0 h2).elim
  | _=>simp[i1,Mv,hH]
theorem P6 : ∀xs ys:List D,lW xs=dn->lW ys=dn->O1 (m5 xs) (m5 ys)=o9 xs ys
 | [],ys,_,_=>by cases ys<;>simp[m5,O1,o9]
 | x::xs,ys,h1,h2=>by
  cases ys with
  | nil=>simp[m5,O1,o9]
  | cons y ys=>
   simp only[lW,IS]at h1 h2;simp only[m5,O1,o9];rw[E5 x y h1.1 h2.1,P6 xs ys h1.2 h2.2]
end
mutual
theorem I8 : ∀x:D,kr x=dn->(i1 x).canLay0=dn
 | .el,_=>by simp[i1,NO]
 | .bl a,_=>by simp[i1,NO]
 | .int a,_=>by simp[i1,NO]
 | .str a,h=>by simpa[i1,NO,kr,PyData.strOk]using h
 | .tup xs,h=>by simp only[kr]at h;simp only[i1,NO];exact E8 xs h
 | .lst xs,h=>by simp only[kr]at h;simp only[i1,NO];exact E8 xs h
 | .l4 c n,h=>(C1 h).elim
 | .lh c n,h=>(C0 h).elim
theorem E8 : ∀xs:List D,lW xs=dn->PD (m5 xs)=dn
 | [],_=>by simp[m5,PD]
 | x::xs,h=>by simp only[lW,IS]at h;simp only[m5,PD];rw[I8 x h.1,E8 xs h.2];rfl
end
mutual
theorem Se : ∀x:D,(i1 x).depth=deep x
 | .el=>by simp[i1,NA,deep]
 | .bl a=>by simp[i1,NA,deep]
 | .int a=>by simp[i1,NA,deep]
 | .str a=>by simp[i1,NA,deep]
 | .l4 c n=>by simp[i1,NA,deep]
 | .lh c n=>by simp[i1,NA,deep]
 | .tup b=>by simp only[i1,NA,deep];rw[P5 b]
 | .lst b=>by simp only[i1,NA,deep];rw[P5 b]
theorem P5 : ∀xs:List D,Oe (m5 xs)=t6 xs
 | []=>by simp[m5,Oe,t6]
 | x::xs=>by simp only[m5,Oe,t6];rw[Se x,P5 xs]
end
theorem qX(h:kA d=dn):kr d=dn:=by unfold kA at h;rw[IS]at h;exact h.2
theorem kC(h:kA d=dn):SeqAt.shaped (i1 d)=dn:=by unfold kA at h;rw[IS,decide_eq_true_eq]at h;unfold SeqAt.shaped;rw[I8 d h.2,Bool.true_and,Se];exact decide_eq_true ⋯
section
variable{X:Cx}{pins:RW}{σ:St}{H0 H:Hp}{s:eF}
mutual
theorem DE(I:Inv X pins σ H s)(sub:gR H0 H) : ∀{d:D} {v:V} {u:eh},kr d=dn->Rep X.K H0 d v->RelV v u->∃z,Reads s.heap u (i1 d) z
 | .el,v,u,_,h,r=>by cases (show v = .el from h);cases r;exact⟨_,.none⟩
 | .bl b,v,u,_,h,r=>by cases (show v = .bl b from h);cases r;exact⟨_,.bool b⟩
 | .int i,v,u,_,h,r=>by cases (show v = .int i from h);obtain⟨t,rfl⟩:=r;exact⟨_,.int i t⟩
 | .str x,v,u,_,h,r=>by cases (show v = .str x from h);obtain⟨t,rfl⟩:=r;exact⟨_,.str x t⟩
 | .l4 c n,v,u,o,_,_=>(C1 o).elim
 | .lh c n,v,u,o,_,_=>(C0 o).elim
 | .tup ds,v,u,o,h,r=>by obtain⟨a,e,rfl,f,g⟩:=(show ∃a e,v = .ref a/\hG X.K H0 a e/\ej X.K H0 ds e from h);cases r;simp only[kr]at o;obtain⟨k,J,⟨m,O,U,n,j⟩,l⟩:=I.tuple<|m4 sub f;obtain⟨z,Y⟩:=F6 I sub o g J;exact⟨z,.tuple O U j<|by simpa using Y⟩
 | .lst ds,v,u,o,h,r=>by obtain⟨a,e,rfl,f,g⟩:=(show ∃a e,v = .ref a/\gm X.K H0 a e/\ej X.K H0 ds e from h);cases r;simp only[kr]at o;obtain⟨k,J,p,l⟩:=I.list<|sub.seq f;obtain⟨m,O,U,n,j⟩:=p.isList;obtain⟨z,Y⟩:=F6 I sub o g J;exact⟨_,.list O U j<|by simpa using Y⟩
theorem F6(I:Inv X pins σ H s)(sub:gR H0 H) : ∀{ds:List D} {xs:List V} {us:List eh},lW ds=dn->ej X.K H0 ds xs->fy xs us->∃z,ReadsAll s.heap us (m5 ds) z
 | [],xs,us,_,h,r=>by rw[h.o6]at r;cases r;exact⟨_,.nil⟩
 | d::ds,xs,us,o,h,r=>by
  obtain⟨x,t,e,a,b⟩:=h.ml;subst e;simp only[lW,IS]at o;cases r with
  | cons J f=>
   obtain⟨z,O⟩:=DE I sub o.1 a J;obtain⟨bs,U⟩:=F6 I sub o.2 b f;exact⟨_,.cons O U⟩
end
end
noncomputable def Gz(K:Iy):R2:=λx y H Q=>∃a b z,gR a H/\Rep K a b x/\Rep K a z y/\kA b=dn/\kA z=dn/\Q (.bl<|hH b z) H
noncomputable def Gy(K:Iy):R2:=λx y H Q=>∃a b z,gR a H/\Rep K a b x/\Rep K a z y/\kA b=dn/\kA z=dn/\Q (.bl<|!hH b z) H
theorem nN(O:X.A.units+64<y3):ix X (l7 .Eq) (Gz X.K):=by intro a s k H x y v u Q I U Y h;obtain⟨g,i,j,sub,b,d,z,J,q⟩:=h;obtain⟨as,e⟩:=DE I sub (qX z) b U;obtain⟨bs,f⟩:=DE I sub (qX J) d Y;exact eq_dataH e f (kC z) (kC J) O ⟨.bl _,H,I,by rw[E5 _ _ (qX z) (qX J)];rfl,q⟩
theorem nM(O:X.A.units+64<y3):ix X (l7 .NotEq) (Gy X.K):=by intro a s k H x y v u Q I U Y h;obtain⟨g,i,j,sub,b,d,z,J,q⟩:=h;obtain⟨as,e⟩:=DE I sub (qX z) b U;obtain⟨bs,f⟩:=DE I sub (qX J) d Y;exact ne_dataH e f (kC z) (kC J) O ⟨.bl _,H,I,by rw[E5 _ _ (qX z) (qX J)];rfl,q⟩
theorem cp{K:Iy}:mr K (Gz K) h7:=λa H x y b I d Q s J O z q=>by
 unfold h7 at z;split at z
 ·rename_i h;cases z;exact⟨a,b,I,s,J,O,h.1,h.2,q _ H a (Ext.refl s) rfl⟩
 ·cases z
theorem ck{K:Iy}:mr K (Gy K) i8:=λa H x y b I d Q s J O z q=>by
 unfold i8 at z;split at z
 ·rename_i h;cases z;exact⟨a,b,I,s,J,O,h.1,h.2,q _ H a (Ext.refl s) rfl⟩
 ·cases z
theorem SX.D0(h:SX X sc N T k):X.A.units+64<y3:=by have:=h.room.un;omega
section
variable{X:Cx}{sc:hL}{N T:List Str}{k:Nat}{a b c:eA}{pos p:hB}{fa fb fc:CO D}
theorem yj(C:PV X a fa)(z:PV X b fb):PV X (.BinOp a .Sub b pos) (zG JE fa fb):=QN AW pz C z
theorem yk(C:PV X a fa)(z:PV X b fb):PV X (.BinOp a .FloorDiv b pos) (zG QB fa fb):=QN rK pE C z
theorem j6(C:PV X a fa)(z:PV X b fb):PV X (.BinOp a .Mod b pos) (zG ky fa fb):=QN AZ pC C z
theorem cO(C:PV X a fa)(z:PV X b fb):PV X (.BinOp a .Pow b pos) (zG sJ fa fb):=QN AY pA C z
theorem Aq(C:PV X a fa)(z:PV X b fb):PV X (.Compare a [.Lt] [b] pos) (zG z4 fa fb):=Wr lE Wg C z<|y9 b
theorem As(C:PV X a fa)(z:PV X b fb):PV X (.Compare a [.Gt] [b] pos) (zG qs fa fb):=Wr Bb nz C z<|y9 b
theorem Xy(h:SX X sc N T k)(C:PV X a fa)(z:PV X b fb):PV X (.Compare a [.Eq] [b] pos) (zG h7 fa fb):=Wr (nN h.D0) cp C z<|y9 b
theorem Ap(h:SX X sc N T k)(C:PV X a fa)(z:PV X b fb):PV X (.Compare a [.NotEq] [b] pos) (zG i8 fa fb):=Wr (nM h.D0) ck C z<|y9 b
theorem Aw(C:PV X a fa)(z:PV X b fb):l9 X (.Compare a [.Lt] [b] pos) (sB<|zG z4 fa fb):=wy lE Wg C z<|y9 b
theorem nG(C:PV X a fa)(z:PV X b fb):l9 X (.Compare a [.LtE] [b] pos) (sB<|zG o3 fa fb):=wy K8 wU C z<|y9 b
theorem KS(C:PV X a fa)(z:PV X b fb):l9 X (.Compare a [.Gt] [b] pos) (sB<|zG qs fa fb):=wy Bb nz C z<|y9 b
theorem kh(h:SX X sc N T k)(C:PV X a fa)(z:PV X b fb):l9 X (.Compare a [.Eq] [b] pos) (sB<|zG h7 fa fb):=wy (nN h.D0) cp C z<|y9 b
theorem ym(h:SX X sc N T k)(C:PV X a fa)(z:PV X b fb):l9 X (.Compare a [.NotEq] [b] pos) (sB<|zG i8 fa fb):=wy (nM h.D0) ck C z<|y9 b
theorem Vd{K:Iy}{H:Hp}{d:D}(h:Rep K H d .el):d = .el:=by
 cases d with
 | el=>rfl
 | bl b=>exact V.noConfusion (show V.el = .bl b from h)
 | int b=>exact V.noConfusion (show V.el = .int b from h)
 | str b=>exact V.noConfusion (show V.el = .str b from h)
 | tup b=>obtain⟨a,f,e,_⟩:=h;cases e
 | lst b=>obtain⟨a,f,e,_⟩:=h;cases e
 | l4 c n=>obtain⟨a,f,e,_⟩:=h;cases e
 | lh c n=>obtain⟨a,f,e,_⟩:=h;cases e
theorem pD{K:Iy}:mr K (λx y H Q=>y = .el/\Q (.bl<|decide<|x = .el) H) sL:=λa H x y b J d Q s z O I q=>by
 cases J with
 | el=>
  refine⟨O,?_⟩;cases b with
  | el=>cases I;rw[show x=V.el from z];exact q _ H a (Ext.refl s) (by simp;rfl)
  | _=>
   cases I;refine q _ H a (Ext.refl s) ?_;have : ¬x=V.el:=λe=>by rw[e]at z;exact D.noConfusion<|Vd z
   rw[decide_eq_false this];rfl
 | _=>cases b<;>cases I
theorem cS(C:PV X a fa)(z:PV X b fb):l9 X (.Compare a [.Is] [b] pos) (sB<|zG sL fa fb):=wy Ba pD C z<|y9 b
theorem kR{K:Iy}{H:Hp}{ds:List D}{v:V}(h:Rep K H (.tup ds) v) : ∃a xs,v = .ref a/\hG K H a xs/\ej K H ds xs:=h
theorem eD{K:Iy}{H:Hp}{ds:List D}{v:V}(h:Rep K H (.lst ds) v) : ∃a xs,v = .ref a/\gm K H a xs/\ej K H ds xs:=h
theorem xE{K:Iy}{H:Hp}{ds:List D}{a:eg}{xs:List V}(C:hG K H a xs)(I:ej K H ds xs):Rep K H (.tup ds) (.ref a):=⟨a,xs,rfl,C,I⟩
theorem ZT{K:Iy}{H:Hp}{ds:List D}{a:eg}{xs:List V}(C:gm K H a xs)(I:ej K H ds xs):Rep K H (.lst ds) (.ref a):=⟨a,xs,rfl,C,I⟩
theorem pF{K:Iy}:mr K (λx y H Q=>sx (λi j=> .int (i+j)) x y H Q\/nE K x y H Q) qx:=λg H x y m n d Q s O U I q=>by
 cases m<;>cases n<;>simp[qx]at I
 ·subst I;exact .inl ⟨_,_,jq O,jq U,q _ H g (Ext.refl s) rfl⟩
 ·rename_i l o
  obtain⟨r,rfl⟩:=I;obtain⟨a,t,rfl,h,f⟩:=kR O;obtain⟨b,u,rfl,Y,z⟩:=kR U;refine .inr ⟨a,b,t,u,rfl,rfl,m4 s h,m4 s Y,k5 (by rw[f.length,z.length];exact r),λe=>?_,λe=>?_,λp k=>?_⟩
  ·have J:l=[]:=by
    have:=f.length;rw[e]at this;exact Lx this.symm
   subst J;exact q _ H g (Ext.refl s)<|xE Y z
  ·have J:o=[]:=by
    have:=z.length;rw[e]at this;exact Lx this.symm
   subst J;exact q _ H g (Ext.refl s) (by rw[Nj];exact xE h f)
  ·exact q _ _ _ (Ext.alloc s k _)<|xE (hG.of zO)<|(f.append z).mono (je (jw s k) _)
theorem jS(C:PV X a fa)(z:PV X b fb):PV X (.BinOp a .Add b pos) (zG qx fa fb):=QN (TX.or lF) pF C z
end
theorem V2(J:A.handled=d5)(k:Sk)(I z:eg)(O:z≠I)(items:Array eh) :
 Walks P w A I [I,z] [I] items.size (λi v=>items[i]? = di v) (λi h=>l0 k h I z i/\n7 k h z items):=by
 cases k
 ·exact Walks.list J I z O items
 ·exact Walks.tuple J I z O items
theorem ZZ(C:List Int) : ∀n,preSum (λi=>C.getD i 0) n=(C.take n).sum
 | 0=>by simp[preSum]
 | n+1=>by
  have z:=ZZ C n;simp only[preSum,z];by_cases h:n<C.length
  ·rw[List.take_succ_eq_append_getElem h,List.sum_append]
   simp[h]
  ·rw[NP ⋯,NP ⋯]
   simp[h]
section
variable{X:Cx}{pins:RW}{σ:St}{H:Hp}{s:eF}
theorem fR(L:X.calm=dn):Zj X (.builtin "sum") (λxs H Q=>∃p k ys C,xs=[.ref p]/\md k X.K H p ys/\ys=(C:List Int).map V.int/\Q (.int C.sum) H):=by
 intro pins s σ H E B Q I m h;obtain⟨p,k,ys,C,rfl,j,rfl,q⟩:=h;obtain⟨u,rfl,J⟩:=yq m;cases J;obtain⟨z,r,O,y⟩:=I.sq j;have lt:=O.lt;have U:=r.length;rw[IU]at U;refine call_sum_walkG<|WU O ⟨_,[_,p],[_],z.toArray.size,_,_,λi=>C.getD i 0,rfl,V2 (A:=X.A.in1) (I.ok.hd L) k _ p (Lm lt) z.toArray,⟨Ys k _ p,O.at λo e=>IB _ e⟩,?_,?_,?_⟩
 ·intro b Y
  rw[LG];simp only[iU,Lv,or_false]at Y;rcases Y with rfl | rfl
  ·exact Mp _
  ·exact LD lt
 ·intro i v l
  have a:z[i]? = di v:=by simpa using l
  have f:i<C.length:=by rw[U];exact(IP.mp a).1
  obtain⟨u,d,J⟩:=r.get (i:=i) (x:= .int C[i]) (by simp[f]);rw[a]at d;cases d;obtain⟨t,rfl⟩:=J;exact⟨t,by simp[f]⟩
 ·intro w n t' g
  have e:preSum (λi=>C.getD i 0) z.toArray.size=C.sum:=by rw[ZZ,NP (by rw[II,U];exact IH _)]
  refine⟨.int C.sum,H,I.kept (t':=n)<|λb u e=>g b u ?_ (IB _ e),⟨t',by rw[e]⟩,q⟩;simp only[iU,Lv,or_false];exact Lm<|IT e
noncomputable def uv:V->Option Bool
 | .el=>di ed
 | .bl b=>di b
 | .int i=>di (i != 0)
 | _=>d5
theorem gW(r:RelV x u)(e:uv x=di b)(q:Q b s):wpAny (e9 P w) A (Gx u) Q E s:=by
 cases x with
 | el=>cases r;cases e;exact λ_ _ _=>q
 | bl c=>cases r;cases e;exact Mb q
 | int i=>obtain⟨t,rfl⟩:=r;cases e;exact PyProof.Rows.truthy_int q
 | _=>cases e
noncomputable def bR:List V->Option (List Bool)
 | []=>di []
 | x::r=>(uv x).bind λb=>(bR r).map λl=>b::l
theorem Kt : ∀{xs:List V} {bs:List Bool},bR xs=di bs->bs.length=xs.length/\∀(i:Nat) x,xs[i]? = di x->uv x=di (bs.getD i ed)
 | [],bs,h=>by cases h;exact⟨rfl,λi x e=>by simp at e⟩
 | y::xs,bs,h=>by
  obtain⟨b,a,h⟩:=zc h;obtain⟨l,z,h⟩:=zC h;subst h;obtain⟨d,f⟩:=Kt z;refine⟨by simp[d],λi x e=>?_⟩;cases i with
  | zero=>simp at e;subst e;simpa using a
  | succ i=>simpa using f i x (by simpa using e)
theorem gp(bs:List Bool):(Iz bs.length).any (λi=>bs.getD i ed)=bs.any id:=by
 rw[Mu];simp only[Ra,IC,id_eq];constructor
 ·rintro⟨i,a,h⟩
  rw[IF,ID a]at h;exact⟨_,MW a,h⟩
 ·rintro⟨b,z,h⟩
  obtain⟨i,a,e⟩:=List.mem_iff_getElem.mp z;refine⟨i,a,?_⟩;rw[IF,ID a,NX,e];exact h
theorem fV(C:X.calm=dn):Zj X (.builtin "any") (λxs H Q=>∃p k ys bs,xs=[.ref p]/\md k X.K H p ys/\bR ys=di bs/\Q (.bl (bs.any id)) H):=by
 intro pins s σ H N M Q I w h;obtain⟨p,k,ys,bs,rfl,m,n,q⟩:=h;obtain⟨u,rfl,J⟩:=yq w;cases J;obtain⟨z,r,O,G⟩:=I.sq m;have lt:=O.lt;have U:=r.length;obtain⟨f,g⟩:=Kt n;refine call_any_walk<|WU O ⟨_,[_,p],[_],z.toArray.size,_,_,λi=>bs.getD i ed,rfl,V2 (A:=X.A.in1) (I.ok.hd C) k _ p (Lm lt) z.toArray,⟨Ys k _ p,O.at λo e=>IB _ e⟩,?_,?_⟩
 ·intro i v L E B t j
  have Y:z[i]? = di v:=by simpa using t
  have d:i<ys.length:=by rw[U];exact(IP.mp Y).1
  obtain⟨u,a,J⟩:=r.get (i:=i) (x:=ys[i]) (by simp[d]);rw[Y]at a;cases a;exact gW J (g i ys[i] (by simp[d])) j
 ·intro F y l
  have e:(Iz z.toArray.size).any (λi=>bs.getD i ed)=bs.any id:=by rw[II,<- U,<- f];exact gp bs
  refine⟨.bl<|bs.any id,H,I.kept (t':=y)<|λb u e=>l b u ?_ (IB _ e),by rw[e];rfl,q⟩;simp only[iU,Lv,or_false];exact Lm<|IT e
end
section
variable{X:Cx}{sc:hL}{N T:List Str}{k:Nat}{e a b c:eA}{pos p p2:hB}{f g:CO D}{fq:CO (Sk×List D)}
theorem uI{K:Iy}{H:Hp}{k:Sk}{a:eg}{xs:List V}(h:md k K H a xs):gm K H a xs\/hG K H a xs:=by
 cases k
 ·exact .inl h
 ·exact .inr h
theorem qU(h:SX X sc N T k)(c:vd sc "len" = dn)(z:X.mg "len" = d5)(J:PQ X e fq)(I:gv [e] X.env=[(ed,fh e X.env)]:=by rfl):PV X (.Call (.Name "len" p) [e] [] pos) (vh fq):=
 j9 (kY YJ (h.gl c).1 z PySem.boot_len (jz J qy I) ⋯ ⋯ I rfl) λt H Q O=>by obtain⟨j,o,d,rc,U,q⟩:=O;obtain⟨⟨n,f⟩,l,Y⟩:=zC U;subst Y;refine⟨j,o,n,f,rc,l,λa g i b ext m s r=>⟨a,g,rfl,uI m,?_⟩⟩;exact q _ i b ext (show V.int g.length = .int f.length by rw[r.length])
theorem qo(h:SX X sc N T k)(c:vd sc "tuple" = dn)(z:X.mg "tuple" = d5)(O:PQ X e fq)(I:gv [e] X.env=[(ed,fh e X.env)]:=by rfl):PV X (.Call (.Name "tuple" p) [e] [] pos) (jf fq):=
 j9 (Ja Kb (h.gl c).1 z PyProof.Rows.boot_tuple (jz O qy I) ⋯ ⋯ I rfl) λw H Q U=>by
  obtain⟨j,u,d,rc,Y,q⟩:=U;obtain⟨⟨g,m⟩,n,o⟩:=zC Y;subst o;refine⟨j,u,g,m,rc,n,λa t i b ext f s r=>⟨a,t,rfl,?_⟩⟩;cases g with
  | L=>exact .inl ⟨f,λl J=>q _ _ _ (ext.trans<|Ext.alloc ext.sub J _)<|xE (hG.of zO)<|r.mono<|je (jw ext.sub J) _⟩
  | T=>exact .inr ⟨f,q _ i b ext (xE (s rfl) r)⟩
theorem kK{H H':Hp}(s:gR H H'){a:eg}(h:H' a=d5):H a=d5:=by
 cases z:H a with
 | none=>rfl
 | some o=>rw[s a o z]at h;cases h
theorem cY(h:SX X sc N T k)(c:vd sc "list" = dn)(z:X.mg "list" = d5)(O:PQ X e fq)(J:gv [e] X.env=[(ed,fh e X.env)]:=by rfl):PO X (.Call (.Name "list" p) [e] [] pos) (Va fq):=
 j9 (Ja YH (h.gl c).1 z PyProof.Rows.boot_list (jz O qy J) ⋯ ⋯ J rfl) λw H Q U=>by obtain⟨g,s,d,rc,Y,q⟩:=U;obtain⟨⟨o,i⟩,j,m⟩:=zC Y;subst m;refine⟨g,s,o,i,rc,j,λa f t b ext n u r=>⟨a,f,rfl,uI n,λl I=>?_⟩⟩;exact q l f _ b (ext.trans<|Ext.hide ext.sub I _) (kK ext.s1 I) (jw ext.sub I) zO r
theorem Kv : ∀{ds:List D} {n:Int},Y6 ds=di n->∃C:List Int,ds=C.map D.int/\n=C.sum
 | [],n,h=>by cases h;exact⟨[],rfl,rfl⟩
 | d::ds,n,h=>by
  cases d with
  | int i=>
   obtain⟨s,e,h⟩:=zC h;obtain⟨C,rfl,rfl⟩:=Kv e;exact⟨i::C,rfl,by rw[<- h];simp⟩
  | _=>cases h
theorem KM{K:Iy}{H:Hp} : ∀{C:List Int} {xs:List V},ej K H (C.map D.int) xs->xs=C.map V.int
 | [],xs,h=>h.o6
 | z::C,xs,h=>by obtain⟨x,r,e,a,b⟩:=ej.ml h;rw[e,jq a,KM b];rfl
theorem KO(h:SX X sc N T k)(c:vd sc "sum" = dn)(z:X.mg "sum" = d5)(U:PQ X e fq)(O:gv [e] X.env=[(ed,fh e X.env)]:=by rfl):PV X (.Call (.Name "sum" p) [e] [] pos) (gH fq):=
 j9 (kY (fR h.calm) (h.gl c).1 z PyProof.Rows.boot_sum (jz U qy O) ⋯ ⋯ O rfl) λy H Q Y=>by obtain⟨j,w,d,rc,I,q⟩:=Y;obtain⟨⟨f,l⟩,m,I⟩:=zc I;obtain⟨n,o,s⟩:=zC I;subst s;obtain⟨g,J,rfl⟩:=Kv o;have J:l=g.map D.int:=J;subst J;exact⟨j,w,f,_,rc,m,λa u i b ext t x r=>⟨a,f,u,g,rfl,t,KM r,q _ i b ext rfl⟩⟩
theorem oT{K:Iy}{H:Hp}{d:D}{x:V}{b:Bool}(h:Rep K H d x)(e:Et d=di b):uv x=di b:=by
 cases d with
 | el=>cases (show x = .el from h);exact e
 | bl c=>cases (show x = .bl c from h);exact e
 | int i=>cases (show x = .int i from h);exact e
 | _=>cases e
theorem Wa{K:Iy}{H:Hp} : ∀{ds:List D} {xs:List V} {bs:List Bool},ej K H ds xs->Xo ds=di bs->bR xs=di bs
 | [],xs,bs,h,e=>by rw[h.o6];exact e
 | d::ds,xs,bs,h,e=>by obtain⟨x,r,z,f,g⟩:=h.ml;obtain⟨b,a,e⟩:=zc e;obtain⟨l,I,e⟩:=zC e;subst z e;show(uv x).bind _=_;rw[oT f a];show((bR r).map λl=>b::l)=_;rw[Wa g I];rfl
theorem nF(h:SX X sc N T k)(c:vd sc "any" = dn)(z:X.mg "any" = d5)(O:PQ X e fq)(J:gv [e] X.env=[(ed,fh e X.env)]:=by rfl):PV X (.Call (.Name "any" p) [e] [] pos) (tW fq):=
 j9 (kY (fV h.calm) (h.gl c).1 z PyProof.Rows.boot_any (jz O qy J) ⋯ ⋯ J rfl) λu H Q U=>by obtain⟨i,o,d,rc,I,q⟩:=U;obtain⟨⟨f,s⟩,j,I⟩:=zc I;obtain⟨bs,Y,l⟩:=zC I;subst l;exact⟨i,o,f,_,rc,j,λa n g b ext m t r=>⟨a,f,n,bs,rfl,m,Wa r Y,q _ g b ext rfl⟩⟩
theorem Vf(h:SX X sc N T k)(c:vd sc "int" = dn)(z:X.mg "int" = d5)(U:PV X e f)(J:gv [e] X.env=[(ed,fh e X.env)]:=by rfl):PV X (.Call (.Name "int" p) [e] [] pos) (KI f):=
 j9 (Ja fU (h.gl c).1 z PyProof.Rows.boot_int (jz U qy J) ⋯ ⋯ J rfl) λn H Q Y=>by
  obtain⟨j,m,d,rc,I,q⟩:=Y;obtain⟨O,l,I⟩:=zc I;refine⟨j,m,O,rc,l,λv g a ext r=>?_⟩;cases O with
  | int i=>cases I;exact .inl ⟨i,by rw[jq r],q _ g a ext rfl⟩
  | bl b=>cases I;exact .inr ⟨b,by rw[show v = .bl b from r],q _ g a ext rfl⟩
  | _=>cases I
theorem KQ(h:SX X sc N T k)(c:vd sc "max" = dn)(z:X.mg "max" = d5)(C:PV X a f)(Y:PV X b g)(U:gv [a,b] X.env=[(ed,fh a X.env),(ed,fh b X.env)]:=by rfl)(J:gv [b] X.env=[(ed,fh b X.env)]:=by rfl) :
 PV X (.Call (.Name "max" p) [a,b] [] pos) (KH f g):=
 j9 (kY (fT h.calm) (h.gl c).1 z PyProof.Rows.boot_max (jz C (jz Y qy J)<|by rw[U,J]) ⋯ ⋯ (by rw[U,J]) (by rw[J];rfl)) λK H Q B=>by obtain⟨o,n,d,rc,I,q⟩:=B;obtain⟨i,l,I⟩:=zc I;obtain⟨u,y,l⟩:=zc l;obtain⟨j,O,I⟩:=zC I;obtain⟨w,A,O⟩:=zc O;subst I;refine⟨o,n,u,rc,y,λv F e x r=>⟨e,n,w,rc.ext x,A,λG s t E m=>⟨i,j,?_,q _ s t (x.trans E) rfl⟩⟩⟩;rw[jC l]at r;rw[jC O]at m;rw[jq r,jq m]
end
section
variable{X:Cx}{sc:hL}{N T:List Str}{k:Nat}{e a b c:eA}{pos p p2:hB}{f g:CO D}{fq:CO (Sk×List D)}
theorem WT(h:g9 n i=di j):DB n i=di j:=by
 unfold g9 at h;unfold DB;split at h
 ·rename_i a;rw[RY a.1,RY a.2];exact h
 ·split at h
  ·rename_i a b;rw[EQ ⋯,RY ⋯];exact h
  ·cases h
theorem zw(C:PQ X a fq)(Y:PV X b g)(S:VY b:=by intro _ _;rfl):PV X (.Subscript a b pos) (d8 fq g):=
 j9 (AO (TJ.or Bw) C Y S) λN H Q B=>by
  obtain⟨n,m,d,rc,z,q⟩:=B;obtain⟨⟨l,u⟩,w,z⟩:=zc z;obtain⟨i,J,z⟩:=zc z;obtain⟨t,y,J⟩:=zc J;obtain⟨j,A,z⟩:=zc z;refine⟨n,m,l,u,rc,w,λp h G e ext k K r=>⟨e,m,t,rc.ext ext,y,λM o s I f=>?_⟩⟩;rw[jC J]at f;obtain⟨x,E,F⟩:=r.get z;have O:C9 h i=di x:=by unfold C9;rw[r.length,WT A];exact E
  have U:=q x o s (ext.trans I)<|F.mono I.s0;cases l with
  | L=>exact .inl ⟨p,h,i,x,rfl,jq f,I.s1.seq k,O,U⟩
  | T=>exact .inr ⟨p,h,i,x,rfl,jq f,m4 I.s1 k,O,U⟩
theorem wM{P:i3}{w:h8}{A:mm}{E:RQ}{s:eF}{t C:eg}{items:Array eh}{I J:eh}{lo hi:Option Int}{Q:RQ}(z:D6 s.heap t items)(O:s.heap.IsSliceOf C I J .none)(U:A8 I lo)(Y:A8 J hi)
 (L:HT.d8 items.size 0 lo=0/\HT.d8 items.size items.size hi=items.size) (h:Q (.ref t) s):wpAny (e9 P w) A (B5 (.ref t)<|.ref C) Q E s:=by
 obtain⟨os,a,b,f⟩:=id O;have d:s.TypeIs (.ref C) "slice":=⟨os,a,b⟩;unfold B5
 try with_reducible refine MH ?_
 first | refine IA (IK ?_) | skip
 refine IA (Uk z.typeIs ⋯ ?_);refine IA (Mj (name:=LC "__getitem__") z.typeIs Mc
  (Ms Mc z.typeIs entry_tuple_getitem ?_ (Tj _ _)))
 show wpAny _ _ (Builtin.Tuple.tupleItemsOf (.ref t) >>= _) _ _ s;refine IA<|OZ z ?_;refine IA<|OM d ?_;rw[RY ⋯];refine IA<|HT.w9 O U Y ?_;have e:(((HT.d8 items.size 0 lo:Nat):Int)==0 && (1:Int)==1 && (HT.d8 items.size items.size hi - HT.d8 items.size 0 lo)==items.size)=dn:=by rw[L.1,L.2];simp
 show wpAny _ _ (if (((HT.d8 items.size 0 lo:Nat):Int)==0 && (1:Int)==1 && (HT.d8 items.size items.size hi - HT.d8 items.size 0 lo)==items.size)=dn then _ else _) _ _ s;rw[RY e];refine IA (m:=MY _) ?_;unfold MY;refine IA<|OM z.typeIs<|IK ?_;rw[RY ⋯];exact IA<|OB<|IK ⟨_,rfl,IK h⟩
noncomputable def EN(K:Iy):V->Option Int->Option Int->Hp->VK->Prop:=λx lo d H Q=>∃a b,x = .ref a/\hG K H a b/\(HT.d8 b.length 0 lo=0/\HT.d8 b.length b.length d=b.length->Q (.ref a) H)/\∀p,H p=d5->Q (.ref p) (upd H p<|.tup<|sO b lo d)
theorem pG:O4 X (EN X.K):=by
 intro d s p H x v n o lo f m Q I z J O U h;obtain⟨a,b,rfl,g,k,l⟩:=h;by_cases e:HT.d8 b.length 0 lo=0/\HT.d8 b.length b.length f=b.length
 ·cases z
  obtain⟨i,r,Y,t⟩:=I.tuple g;have j:i.toArray.size=b.length:=by rw[II];exact r.length.symm
  refine⟨"tuple",_,Mc.lookup,Y.typeIs,?_⟩;exact wM Y J O U (by rw[j];exact e) ⟨.ref a,H,I,rfl,k e⟩
 ·exact uJ d s p H (.ref a) v n o lo f m Q I z J O U ⟨a,b,rfl,g,e,l⟩
theorem Zv(n d:Nat)(o:Option Int):bo n d o=HT.d8 n d o:=by cases o<;>rfl
theorem iF{K:Iy}{H:Hp}{ds:List D}{xs:List V}(r:ej K H ds xs)(lo hi:Option Int):ej K H (mO ds lo hi) (sO xs lo hi):=by unfold mO sO;rw[<- Zv,<- Zv,r.length];exact(r.drop _).take _
theorem fL{ds:List D}{lo hi:Option Int}(h:HT.d8 ds.length 0 lo=0/\HT.d8 ds.length ds.length hi=ds.length):mO ds lo hi=ds:=by unfold mO;rw[Zv,Zv,h.1,h.2];simp
noncomputable def tB(K:Iy)(f:CO (Option Int)):TO:=λg H Q=>∃d e o,RC K d H g e/\f e=di o/\∀b a,Ext d H a b->Q o b
theorem XF:L2.PO X d5 (tB X.K bC):=λa s d H Q I ⟨b,e,o,rc,z,q⟩=>rk a s d H Q I (by cases z;exact q H b<|Ext.refl rc.sub)
theorem wA(h:PV X e f):L2.PO X (di e) (tB X.K<|o8 f):=λa s m H Q I ⟨k,l,o,rc,z,q⟩=>rj h a s m H Q I (by
 obtain⟨i,g,J⟩:=zC z;obtain⟨d,O,g⟩:=zc g;subst J;refine⟨k,l,d,rc,O,λv j b x r=>?_⟩;rw[jC g]at r;exact⟨i,jq r,q j b x⟩)
theorem KP{lo hi:Option eA}{J O:CO (Option Int)}(C:PV X a f)(S:L2.PO X lo (tB X.K J))(L:L2.PO X hi (tB X.K O)):PV X (.Subscript a (.Slice lo hi d5 p2) pos) (Wl f J O):=
 j9 (lj pG C S L) λN H Q B=>by
  obtain⟨k,g,d,rc,z,q⟩:=B;obtain⟨U,w,z⟩:=zc z;obtain⟨l,y,z⟩:=zc z;obtain⟨u,A,z⟩:=zc z;refine⟨k,g,U,rc,w,λv F b x r=>⟨b,g,l,rc.ext x,y,λG o I=>⟨o,g,u,(rc.ext x).ext I,A,λm s x3=>?_⟩⟩⟩;have Y:=x.trans<|I.trans x3;cases U with
  | tup M=>
   cases z;obtain⟨n,E,rfl,h,e⟩:=kR<|r.mono (I.trans x3).s0;have t:=e.length;refine⟨n,E,rfl,m4 x3.sub h,λj=>?_,λp i=>?_⟩
   ·rw[t]at j
    exact q _ m s Y (by rw[fL j];exact xE h e)
   ·exact q _ _ _ (Y.trans<|Ext.alloc x3.sub i _)<|xE (hG.of zO)<|(iF e _ _).mono (je (jw x3.sub i) _)
  | _=>cases z
theorem Xx{K:Iy}{H:Hp}{ds:List D}{xs:List V}(r:ej K H ds xs) : ∀n:Nat,ej K H (IE n ds).flatten (IE n xs).flatten
 | 0=>ej.nil
 | n+1=>by rw[MC,MC,Nn,Nn];exact r.append<|Xx r n
theorem K0(C:PQ X a fq)(S:PQ X b gq):PO X (.BinOp a .Add b pos) (KJ fq gq):=
 j9 (rD lG C S) λF H Q t=>by
  obtain⟨i,h,A,rc,z,q⟩:=t;obtain⟨⟨u,U⟩,n,z⟩:=zc z;obtain⟨⟨w,Y⟩,o,z⟩:=zc z;cases u<;>cases w<;>try (simp at z;done)
  dsimp only at z;by_cases J:U.length+Y.length<=lim
  ·rw[RY J]at z;cases z
   refine⟨i,h,.L,U,rc,n,λj f x l x1 r B d=>⟨l,h,.L,Y,rc.ext x1,o,λk g y m I s E e=>⟨j,k,f,g,rfl,rfl,I.s1.seq r,s,k5 (by rw[d.length,e.length];exact J),λp O=>?_⟩⟩⟩;exact q p (f++g) _ m (x1.trans<|I.trans<|Ext.hide I.sub O _) (kK (x1.trans I).s1 O) (jw I.sub O) zO<|(d.mono I.s0).append e
  ·rw[EQ J]at z;cases z
theorem AD(C:PO X a gn)(L:PV X b g):PO X (.BinOp a .Mult b pos) (pI (jF gn) g):=
 j9 (rD AX C L) λM H Q t=>by
  obtain⟨i,h,A,rc,z,q⟩:=t;obtain⟨⟨F,Y⟩,d,z⟩:=zc z;obtain⟨y,o,d⟩:=zC d;cases d;obtain⟨j,O,z⟩:=zc z;obtain⟨n,r,O⟩:=zc O;dsimp only at z;by_cases J:Y.length*j.toNat<=lim/\inR j=dn
  ·rw[RY J]at z;cases z
   refine⟨i,h,Y,rc,o,λk u w l x1 B E s e=>⟨l,h,n,rc.ext x1,r,λv x m I f=>?_⟩⟩;rw[jC O]at f;obtain⟨G,K⟩:=Js J.2;refine⟨k,j,u,rfl,jq f,I.s1 _ _ s,by omega,by omega,k5 (by rw[e.length];exact J.1),λp U=>?_⟩;exact q p _ _ m (x1.trans<|I.trans<|Ext.hide I.sub U _) (kK (x1.trans I).s1 U) (jw I.sub U) zO<|(Xx e _).mono I.s0
  ·rw[EQ J]at z;cases z
theorem Bk{K:Iy}{t c:String}{b:Bool}(h:(if ((NM t) == .type c)=dn then di dn else if PySem.W.kitMeta c=dn then (fastBuiltinMro t).map (·.contains (.type c))else d5)=di b):Nr K (.type t) (.type c)=di b:=h
noncomputable def M9:Ty->String
 | .int=>"int"
 | .bool=>"bool"
 | .str=>"str"
 | .tuple=>"tuple"
 | .list=>"list"
noncomputable def Bl:D->String
 | .el=>"NoneType"
 | .bl _=>"bool"
 | .int _=>"int"
 | .str _=>"str"
 | .tup _=>"tuple"
 | .lst _=>"list"
 | .l4 _ _=>"dict"
 | .lh _ _=>"dict"
theorem Yl{K:Iy}(T:Ty)(d:D):Nr K (.type<|Bl d) (.type<|M9 T)=di (gI T d):=by cases d<;>cases T<;>(dsimp only[Bl,M9,gI,nW,By,nT,nS,nV];exact Bk ⋯)
theorem mq{C:RW}{L:St}{H0 H:Hp}{s:eF}{A:mm}{E:RQ}{Q:RQ}{d:D}{x:V}{u:eh}(I:Inv X C L H s)(sub:gR H0 H)(J:RelV x u)(r:Rep X.K H0 d x)(T:Ty)
 (h : ∀Y,Q (.bool (gI T d)) {s with toks:=Y}):wpAny (e9 X.prog X.w) A (call (.builtin "isinstance") [u,.type (M9 T)]) Q E s:=by
 cases d with
 | el=>have e:=Yl (K:=X.K) T .el;cases (show x = .el from r);cases (show u=Ls from J);exact Ly PySem.W.kitx_none I.m1 MZ e (λz=>nomatch z) h
 | bl y=>have e:=Yl (K:=X.K) T<|.bl y;cases (show x = .bl y from r);cases (show u=Value.bool y from J);exact Ly PySem.W.kitx_bool I.m1 MZ e (λz=>nomatch z) h
 | int i=>have e:=Yl (K:=X.K) T<|.int i;cases (show x = .int i from r);obtain⟨t,q⟩:=(show ∃t,u=Pw i t from J);cases q;exact Ly PySem.W.kitx_int I.m1 MZ e (λz=>nomatch z) h
 | str y=>have e:=Yl (K:=X.K) T<|.str y;cases (show x = .str y from r);obtain⟨t,q⟩:=(show ∃t,u=Pu y t from J);cases q;exact Ly PySem.W.kitx_str I.m1 MZ e (λz=>nomatch z) h
 | tup k=>
  have e:=Yl (K:=X.K) T<|.tup k;obtain⟨a,b,rfl,f,l⟩:=kR r;cases (show u=Mm a from J);obtain⟨m,B,⟨o,O,U,_⟩,n⟩:=I.tuple<|m4 sub f;exact Ly PySem.W.kitx_tuple I.m1 ⟨o,O,U⟩ e (λz=>nomatch z) h
 | lst k=>
  have e:=Yl (K:=X.K) T<|.lst k;obtain⟨a,b,rfl,f,l⟩:=eD r;cases (show u=Mm a from J);obtain⟨m,B,p,n⟩:=I.list<|sub.seq f;obtain⟨o,O,U,_⟩:=p.isList;exact Ly Py I.m1 ⟨o,O,U⟩ e (λz=>nomatch z) h
 | l4 g j=>
  have e:=Yl (K:=X.K) T<|.l4 g j;obtain⟨a,b,rfl,⟨F,_,_,f⟩,_⟩:=(show ∃a b,x = .ref a/\Dn H0 a g b/\ej X.K H0 j b from r);exact eW I J (.dK<|sub _ _ f) e h
 | lh g j=>
  have e:=Yl (K:=X.K) T<|.lh g j;obtain⟨a,b,rfl,⟨_,o,G,f,l,_⟩,_⟩:=(show ∃a b,x = .ref a/\G8 X.K H0 a g b/\ej X.K H0 j b from r);cases (show u=Mm a from J);obtain⟨O,_⟩:=(show la X.prog X.w H s.heap a (R9 a o)from I.f9 a _<|sub _ _ f);exact Ly PB I.m1 ⟨o,O,l.1.1⟩ e (λz=>nomatch z) h
theorem pT(T:Ty)(h:SX X sc N L k)(c:vd sc "isinstance" = dn)(z:X.mg "isinstance" = d5)(J:vd sc ty=dn)(Z:X.mg ty=d5)(S:Dc ty=di (.type (M9 T)))(C:PV X a f)
 (U:gv [a,.Name ty p2] X.env=[(ed,fh a X.env),(ed,fh (.Name ty p2) X.env)]:=by rfl):PV X (.Call (.Name "isinstance" p) [a,.Name ty p2] [] pos) (t8 T f):=by
 intro e s F H Q I ⟨i,E,d,rc,o,q⟩;obtain⟨Y,m,n⟩:=zC o;subst n;refine NS<|yF I (h.gl c).1 z PyProof.Rows.boot_isinstance ?_ ⋯ ⋯;refine Pa ?_ (by rw[U];rfl) rfl;rw[U];show wpAny _ _ (M0 ((ed,fh a X.env)::p5 pos [(ed,fh (.Name ty p2) X.env)])) _ _ s;refine Ou<|ft (C e s F H _ I ⟨i,E,Y,rc,m,λv g b x r=>(show(λv g=>∃b,Ext i H b g/\Rep X.K b Y v) v g from⟨b,x,r⟩)⟩) λu A t=>?_;obtain⟨x,j,O,w,l,x1,y⟩:=t;show wpAny _ _ (M0 ((ed,fh (.Name ty p2) X.env)::[])) _ _ A;refine Ou<|yF O (h.gl J).1 Z S ?_ (h.gl J).2.1 (h.gl J).2.2;refine PK ?_;exact mq O x1.sub w y T λB=>⟨.bl _,j,O.tok B,rfl,q _ j l x1 rfl⟩
end
section
variable{X:Cx}{sc:hL}{N L:List Str}{k:Nat}{e a b c:eA}{pos p p2:hB}{f g:CO D}{fq:CO (Sk×List D)}
theorem jg(h:SX X sc N L k)(c:vd sc "range" = dn)(z:X.mg "range" = d5)(C:PV X a f)(I:gv [a] X.env=[(ed,fh a X.env)]:=by rfl):i4 X tg (.Call (.Name "range" p) [a] [] pos) (zW f):=aH (h.gl c).1 z C I
theorem XE(h:SX X sc N L k)(c:vd sc "range" = dn)(z:X.mg "range" = d5)(C:PV X a f)(I:PV X b g)(J:gv [a,b] X.env=[(ed,fh a X.env),(ed,fh b X.env)]:=by rfl)(O:gv [b] X.env=[(ed,fh b X.env)]:=by rfl) :
 i4 X tg (.Call (.Name "range" p) [a,b] [] pos) (wt f g):=aG (h.gl c).1 z C I J O
theorem wV(h:SX X sc N L k)(c:vd sc "zip" = dn)(z:X.mg "zip" = d5)(C:PV X a f)(I:PV X b g)(J:gv [a,b] X.env=[(ed,fh a X.env),(ed,fh b X.env)]:=by rfl)(O:gv [b] X.env=[(ed,fh b X.env)]:=by rfl) :
 i4 X (.Tuple elts x1 xb) (.Call (.Name "zip" p) [a,b] [] pos) (Y9 f g):=rA (h.gl c).1 z C I J O
theorem cQ(h:SX X sc N L k)(c:vd sc "isinstance" = dn)(z:X.mg "isinstance" = d5)(I:vd sc "int" = dn)(J:X.mg "int" = d5)(C:PV X a f)
 (O:gv [a,.Name "int" p2] X.env=[(ed,fh a X.env),(ed,fh (.Name "int" p2) X.env)]:=by rfl):PV X (.Call (.Name "isinstance" p) [a,.Name "int" p2] [] pos) (t8 .int f):=pT .int h c z I J PyProof.Rows.boot_int C O
theorem aA(h:SX X sc N L k)(c:vd sc "isinstance" = dn)(z:X.mg "isinstance" = d5)(I:vd sc "bool" = dn)(J:X.mg "bool" = d5)(C:PV X a f)
 (O:gv [a,.Name "bool" p2] X.env=[(ed,fh a X.env),(ed,fh (.Name "bool" p2) X.env)]:=by rfl):PV X (.Call (.Name "isinstance" p) [a,.Name "bool" p2] [] pos) (t8 .bool f):=pT .bool h c z I J PyProof.Rows.boot_bool C O
theorem ZX(h:SX X sc N L k)(c:vd sc "isinstance" = dn)(z:X.mg "isinstance" = d5)(I:vd sc "tuple" = dn)(J:X.mg "tuple" = d5)(C:PV X a f)
 (O:gv [a,.Name "tuple" p2] X.env=[(ed,fh a X.env),(ed,fh (.Name "tuple" p2) X.env)]:=by rfl):PV X (.Call (.Name "isinstance" p) [a,.Name "tuple" p2] [] pos) (t8 .tuple f):=pT .tuple h c z I J PyProof.Rows.boot_tuple C O
theorem iK(C:PQ X a fq)(I : ∀z,DA a X.env z=(do let v <- z;DF a.pos;sh [v] (Gx v)):=by intro _;rfl):l9 X a (pH fq):=
 Vg (iL C I) λn H Q J=>by
  obtain⟨j,l,t,rc,O,q⟩:=J;obtain⟨⟨h,b⟩,k,U⟩:=zC O;subst U;refine⟨j,l,h,b,rc,k,λp d i f ext g m r=>⟨!b.isEmpty,?_,q i f ext⟩⟩;have e:d.isEmpty=b.isEmpty:=by have:=r.length;cases d<;>cases b<;>simp_all
  rw[<- e];cases h with
  | L=>exact .inl ⟨d,g,rfl⟩
  | T=>exact .inr<|.inl ⟨d,g,rfl⟩
theorem Ao(C:PV X a f):PV X (.UnaryOp .USub a pos) (uN f):=
 j9 (EY um C) λk H Q z=>by obtain⟨h,j,d,rc,I,q⟩:=z;obtain⟨i,e,J⟩:=zC I;obtain⟨O,U,e⟩:=zc e;subst J;refine⟨h,j,O,rc,U,λv g b x r=>?_⟩;rw[jC e]at r;exact⟨i,jq r,q _ g b x rfl⟩
theorem kX(i:Nat)(h:SX X sc N L k)(c:JZ sc N i x=dn)(C:PV X a f)(z:gv [a] X.env=[(ed,fh a X.env)]:=by rfl)
 (I:En (.Name x np) "append" X.env (fh (.Name x np) X.env)=fh (.Name x np) X.env:=by rfl)
 (J:((p5 cpos<|starEach [a] X.env).all (λx=> !x.1) && (E1 cpos<|keywordEach [] X.env).all (λx=>x.1.isSome)
   && decide ([a].length+([]:List u4).length+(if ([]:List u4).isEmpty then 0 else 1)<30))=dn:=by rfl)
 (O:(apos.endLine==cpos.line)=dn:=by rfl) (U:wo (.Call (.Attribute (.Name x np) "append" apos) [a] [] cpos) d5 pos.line X.env=pure ed:=by rfl) :
 lN X (.Expr (.Call (.Attribute (.Name x np) "append" apos) [a] [] cpos) pos) (ql i f):=
 aD i (dA NC PySem.F.slot_list_append PySem.F.type_list_append ez (h.var c) (jz C qy z) I J O z rfl) U
theorem jZ(i:Nat){st:kv}{f:CO (List D)}(h:PS X st (ao (tO X.K f)<|yG i)):lN X st (jj i<|jX f):=ke h λD s H J=>by obtain⟨E0,E,g,m,o,z,I,O⟩:=J;obtain⟨d,b,I⟩:=zC I;obtain⟨k,U,b⟩:=zC b;subst I b;exact⟨g,m,k,z.rc,U,λa p n j x l e Y r=>O _ _ _<|(z.step<|x.show l e Y z.rc.sub).A1 (ZT (gm.of zO)<|r.mono<|je e _)⟩
theorem TZ(i:Nat)(h:SX X sc N L k)(c:yt sc N L i y=dn)
 (z:X.calm=dn) (ok:ri X scope fr) (I : ∀i∈T.idx,i<own.length) (hi:rn X tg iter src) (J : ∀fp S C,PG (js X scope (own++fr.map (·.1)) fp S C) tg<|p6 X.K T)
 (O : ∀fp S C,PV (js X scope (own++fr.map (·.1)) fp S C) elt f) (U : ∀x,o5 iter X.env x=pure x:=by intro _;rfl) :
 PS X (.Assign [.Name y py] (.ListComp elt [⟨tg,iter,[],0⟩] scope cpos) spos) (ao (tO X.K<|zS src T own.length (fr.map (·.2)) jt f)<|yG i):=by
 obtain⟨a,b,Y⟩:=h.loc c;exact iV h.E9 a b Y z ok I hi J O U
theorem EV(i:Nat)(h:SX X sc N L k)(c:yt sc N L i y=dn)
 (z:X.calm=dn) (ok:ri X scope fr) (I : ∀i∈T.idx,i<own.length) (hi:rn X tg iter src) (J : ∀fp S C,PG (js X scope (own++fr.map (·.1)) fp S C) tg<|p6 X.K T)
 (O : ∀fp S C,l9 (js X scope (own++fr.map (·.1)) fp S C) DP kk) (U : ∀fp S C,PV (js X scope (own++fr.map (·.1)) fp S C) elt f) (Y : ∀x,o5 iter X.env x=pure x:=by intro _;rfl) :
 PS X (.Assign [.Name y py] (.ListComp elt [⟨tg,iter,[DP],0⟩] scope cpos) spos) (ao (tO X.K<|zS src T own.length (fr.map (·.2)) kk f)<|yG i):=by
 obtain⟨a,b,d⟩:=h.loc c;exact aE h.E9 a b d z ok I hi J O U Y
theorem KU(i:Nat)(h:SX X sc N L k)(c:JZ sc N i x=dn)(hi:PV X b g)(Z:PV X e f)
 (S : ∀v,t4 (.Subscript (.Name x np) b p) X.env v=(do
   let I <- sh [v] (fh (.Name x np) X.env);let U <- sh [v,I] (fh b X.env)
   DF p
   sh [v,I,U] (RG I U v)
   release [v,I,U] []):=by intro _;rfl)
 (hs:M3 [.Subscript (.Name x np) b p] e pos.line X.env=pure ed:=by rfl) (hw:RM [.Subscript (.Name x np) b p] e X.env=pure d5:=by rfl)
 (C:(x6 [.Subscript (.Name x np) b p] X.env).map (·.2)=[t4 (.Subscript (.Name x np) b p) X.env]:=by rfl) :
 lN X (.Assign [.Subscript (.Name x np) b p] e pos) (Wm i g f):=
 ke (Wx Z (nK (h.var c) hi Wh S) hs hw C) λD σ H Q=>by obtain⟨E0,E,u,t,fl,s,z,w⟩:=Q;obtain⟨d,G,z⟩:=zc z;obtain⟨F,J,z⟩:=zc z;obtain⟨R,Y,z⟩:=zc z;obtain⟨B,K,Y⟩:=zc Y;obtain⟨j,M,z⟩:=zC z;subst z;have J:=xA J;refine⟨u,t,d,s.rc,G,λv T l x r=>?_⟩;have m:=s.step x;obtain⟨a,xs,C,h2,P,n⟩:=m.rc.own i F J;refine⟨_,C,l,t,B,m.rc,K,λv2 W y O o=>?_⟩;rw[jC Y]at o;have A:=m.step O;refine⟨a,xs,R,j,rfl,jq o,O.s1 _ _ P,by rw[n.length];exact WT M,?_⟩;exact w _ _ y<|A.rewrite (xs:=xs) J C<|(n.mono O.s0).set j (r.mono O.s0)
theorem vF(J:PG X tg (p6 X.K T))(O:PV X e f)(U:M3 [tg] e pos.line X.env=pure ed:=by rfl)(S:RM [tg] e X.env=pure d5:=by rfl)
 (C:(x6 [tg] X.env).map (·.2)=[t4 tg X.env]:=by rfl):lN X (.Assign [tg] e pos) (ZQ T f):=
 ke (Wx O J U S C) λD o H Y=>by obtain⟨E0,E,h,l,n,I,z,i⟩:=Y;obtain⟨d,j,z⟩:=zc z;obtain⟨m,k,z⟩:=zC z;subst z;refine⟨h,l,d,I.rc,j,λv g a x r=>?_⟩;exact vZ x.sub r k λb _ a3=>i b g a<|a3 E0 E<|I.step x
end
structure gB(P:i3)(w:h8)(K:Iy)(mg:RJ)(base:f7)(k:Nat)(x:Str)(n:Nat)(F:List D->Option Res):Prop where
 ex : ∃(f:eg) (fd:pk) (ps:List Str),ps.length=n/\pf P w K mg base p8 k f fd ps (rb K ps.length F)/\mg x=di (.ref f)/\Oo K (.ref f)=dn/\Binds K fd ps []
structure g8(K:Iy)(mg:RJ)(x:Str)(st:kv)(ps:List Str):Prop where
 ex : ∃(f:eg) (fd:pk),L2.Dp K x x st f fd/\(∀us:List eh,us.length=ps.length->bindArgs fd ⟨us,[]⟩=pure (ps.zip us))/\mg x=di (.ref f)
noncomputable def C8(X:Cx)(C:List eA)(n:Nat)(g:CO (List D)):Prop:=A9 X C g/\∀b a,g b=di a->a.length=n
section
variable{X:Cx}{sc:hL}{N L:List Str}{k:Nat}{e:eA}{es:List eA}{f:CO D}{g:CO (List D)}{n:Nat}{pos p:hB}{x:Str}
theorem zk:C8 X [] 0 zD:=⟨rG,λb a h=>by cases h;rfl⟩
theorem za(C:PV X e f)(z:C8 X es n g)(I:gv (e::es) X.env=(ed,fh e X.env)::gv es X.env:=by rfl):C8 X (e::es) (n+1) (zb f g):=
 ⟨lB C z.1 I,λa b h=>by obtain⟨y,d,h⟩:=zc h;obtain⟨r,J,h⟩:=zC h;subst h;rw[Mg,z.2 a r J]⟩
variable{j:Nat}{F:List D->Option Res}
theorem EU(z:gB X.prog X.w X.K X.mg X.base j x n F)(I:j<=k)(h:SX X sc N L k)(c:vd sc x=dn)(C:C8 X (e::es) n g)
 (J:gv (e::es) X.env=(ed,fh e X.env)::gv es X.env:=by rfl) (O:(p5 pos<|starEach es X.env).any (·.1)=ed:=by rfl):PV X (.Call (.Name x p) (e::es) [] pos) (zB F g):=by
 obtain⟨f,i,l,d,G,b,U,Y⟩:=z.ex;subst d;exact pU (A0:=[]) G C.1 C.2 λ{t} a=>dz G (h.room.mono I) (h.gl c).1 b U Y .nil AU a (h.gl c).2.2 J O
theorem EX(z:gB X.prog X.w X.K X.mg X.base j x n F)(I:j<=k)(h:SX X sc N L k)(c:vd sc x=dn)(C:C8 X (e::es) n g)
 (J:gv (e::es) X.env=(ed,fh e X.env)::gv es X.env:=by rfl) (O:(p5 pos<|starEach es X.env).any (·.1)=ed:=by rfl):PO X (.Call (.Name x p) (e::es) [] pos) (jr F g):=by
 obtain⟨f,i,l,d,G,b,U,Y⟩:=z.ex;subst d;exact rz G C.1 C.2 λ{t} a=>dz G (h.room.mono I) (h.gl c).1 b U Y .nil AU a (h.gl c).2.2 J O
end
section
variable{P:i3}{w:h8}{K:Iy}{mg:RJ}{base:f7}
noncomputable def mJ(N ps:List Str)(st:kv):Bool:=
 decide ((jB st).kind = .function) && decide ((jB st).isCoroutine=ed) && decide ((jB st).isGenerator=ed) && decide N.Nodup && decide (N.take ps.length=ps) &&
 ps.all (λx=>decide ((jB st).names.lookup x=di .local) || decide ((jB st).names.lookup x=di .cell)) && (jB st).names.all (λy=> !(y.2==Ln))
theorem Wj{N ps:List Str}{st:kv}(h:mJ N ps st=dn):D4 N ps (jB st):=by unfold mJ at h;simp only[IS,decide_eq_true_eq,MJ,Mf,MB]at h;obtain⟨⟨⟨⟨⟨⟨a,b⟩,z⟩,I⟩,J⟩,O⟩,U⟩:=h;exact⟨a,b,z,I,J,O,λy Y e=>by have:=U y Y;rw[e]at this;exact absurd this ⋯⟩
theorem nL{X:Cx}(hx:X.xe=λ_ _=>False):O0 (e9 X.prog X.w) X.A X.env X.xe:=by rw[hx];exact PassesOwn.never
theorem xh{x:Str}{st:kv}{N ps:List Str}{k:Nat}{F:CO Fl}(A:g8 K mg x st ps)(C:mJ N ps st=dn)
 (I : ∀X:Cx,X.prog=P->X.w=w->X.K=K->X.mg=mg->X.base=base->SX X (jB st) N N k->X.xe=(λ_ _=>False)->gw X (ya st) F) :
 gB P w K mg base (k+1) x ps.length (ja N.length F):=by
 obtain⟨f,d,z,J,e⟩:=A.ex;have S:=Wj C;refine⟨f,d,ps,rfl,BE z S λb A a s H E O=>?_,e,z.kp,.all J⟩;exact I _ rfl rfl rfl rfl rfl ⟨rfl,rfl,S.nd,rfl,O,λ_ _=> .inl rfl⟩ rfl
theorem GK{h:f7}{x:Str}{st:kv}{ps:List Str}{f:eg}{Y:eh}{Z J:Option eg}{O:Array (Option eh)}{kV I L C ct:eh}(z:K.In h)(G:h.Ns vu mg)
 (a:PySem.W.nsIn K vu x=di (di (.ref f))) (l:K.lookup f=di ⟨Y,Z,.func<|NN x x (JD st) (ya st) (jB st) .none kV I L J C ct,O⟩)
 (c:OV K C x=dn) (S:Oo K (.ref f)=dn)
 (b : ∀(kV I L:eh) (J:Option eg) (C ct:eh) (us:List eh),us.length=ps.length->bindArgs (NN x x (JD st) (ya st) (jB st) .none kV I L J C ct) ⟨us,[]⟩=pure (ps.zip us)):g8 K mg x st ps:=
 ⟨f,_,BD l c S,b kV I L J C ct,PySem.W.mg_of z G a⟩
theorem Fs{x:Str}{st:kv}{f:eg}{C:pk}{N ps:List Str}{k:Nat}{F:CO Fl}(z:L2.Dp K x x st f C)(L:mJ N ps st=dn)
 (I : ∀X:Cx,X.prog=P->X.w=w->X.K=K->X.mg=mg->X.base=base->SX X (jB st) N N k->X.xe=(λ_ _=>False)->gw X (ya st) F) :
 pf P w K mg base p8 (k+1) f C ps (rb K ps.length<|ja N.length F):=by
 have S:=Wj L;exact BE z S λb A a s H E J=>I _ rfl rfl rfl rfl rfl ⟨rfl,rfl,S.nd,rfl,J,λ_ _=> .inl rfl⟩ rfl
theorem CN{F:List D->Option Res}{H:Hp}{a:eg}{C:List Int}(z:gm K H a (C.map V.int))(I:F [.lst (C.map D.int)]=di (.val<|.bl dn)) :
 rb K 1 F [.ref a] H (λv _=>v = .bl dn) λ_ _ _=>False:=by
 refine⟨H,[.lst (C.map D.int)],.val<|.bl dn,gR.refl _,ej.cons (ZT z ?_) ej.nil,rfl,I,λv d b _ r=>r⟩;clear I z
 induction C with
 | nil=>exact ej.nil
 | cons n C J=>exact ej.cons rfl J
end
end DL
namespace DL
open PySem PySem.Spec PyProof.Rows L2
open PySem.W (KasT kas_sort kas_ask kat_run kat_snds kat_lt kat_cons kat_no kat_kind KatTups KatGo)
noncomputable def Ci(h:f7)(v:eh)(k:Int):Prop:=∃x o a m t,v = .ref x/\h.get? x=di o/\o.cls = .type "tuple"/\o.data = .seq a m/\a[0]? = di (.int k t)
theorem eT : ∀{vs:List eh} {ks:Nat->Int},(∀i (hi:i<vs.length),Ci h vs[i] (ks i))->∃fs,KatTups h vs fs/\fs.length=vs.length/\∀f∈fs,∃k t,f=Pw k t
 | [],ks,_=>⟨[],KatTups.nil,rfl,λf z=>by cases z⟩
 | v::vs,ks,H=>by
  obtain⟨fs,b,d,I⟩:=eT (vs:=vs) (ks:=λi=>ks<|i+1) λi hi=>H (i+1) (by simpa using hi);obtain⟨x,o,e,m,t,a,J,O,U,Y⟩:=H 0 ⋯;have a:v = .ref x:=a;subst a;exact⟨.int (ks 0) t::fs,KatTups.cons J O U Y b,by simp[d],λf z=>by
   rcases iU.mp z with rfl | z
   ·exact⟨_,_,rfl⟩
   ·exact I f z⟩
end DL
namespace DL
open PySem PySem.Spec PyProof.Rows L2
open AutoSeq1 (wpAny_loadPart')
theorem Zg:fillsNumberSlot (.type "tuple") "mul" = pure ed:=
 PySem.fillsNumberSlot_seq (id:="tuple.__mul__") (r:=di (.builtin "tuple.__rmul__")) Og.lookup ⋯ F.slot_tuple_rmul.lookup ⋯
theorem KN:seqRepeat? (.type "tuple")=pure (di (.builtin "tuple.__mul__")):=by unfold seqRepeat?;rw[PySem.seqSlot_of (T:="tuple") (name:="__mul__") (id:="tuple.__mul__") Og.lookup ⋯,PySem.seqSlot_of (T:="tuple") (name:="__rmul__") (id:="tuple.__rmul__") F.slot_tuple_rmul.lookup ⋯];rfl
theorem J7(a:Int)(t:Tok)(l:eg)(items:Array eh)(n:Nat)(z:Option eg)(C:Array (Option eh)) :
 Ds (nt.«int.__rmul__» ⟨[.int a t,.ref l],[]⟩) (λ_ R s=>s.heap.get? l=di {cls:= .type "tuple",dict:=z,data:= .seq items n,slots:=C}/\R (.ok (.ret Value.notImplemented)) s):=
 .of_wp λb w A R s h=>by obtain⟨I,g,d,J,os⟩:=s;obtain⟨O,h⟩:=h;wp_walk;exact⟨_,rfl,h⟩
theorem Xm(a:Int)(t:Tok)(l:eg)(items:Array eh)(n:Nat)(I:Option eg)(S:Array (Option eh))(C : ¬(decide (a < -(2 ^ 63)) || decide (a>=2 ^ 63))=dn)(L : ¬(items.isEmpty || a==1)=dn)
 (J : ¬(decide (a<=0) || items.isEmpty)=dn) (O : ¬((items.size:Int)*a>(2 ^ 63 - 1)/8)) (U : ¬Builtin.Tuple.tupleTooMany ((items.size:Int)*a)=dn) (hz:((IE a.toNat items).foldl (· ++ ·) #[]).size<=f6) :
 Ds (nt.«tuple.__mul__» ⟨[.ref l,.int a t],[]⟩) (λ_ R s=>s.heap.get? l=di {cls:= .type "tuple",dict:=I,data:= .seq items n,slots:=S}/\
  R (.ok (.ret (.ref s.heap.objs.size))) {s with heap:=s.heap.push {cls:= .type "tuple",data:= .seq ((IE a.toNat items).foldl (· ++ ·) #[])}}):=
 .of_wp λb w A R s h=>by
  obtain⟨Y,g,d,e,os⟩:=s;obtain⟨z,h⟩:=h
  wp_walk using Ma z
  rw[EQ C];refine IA<|OZ (s:=⟨Y,g,d,e,os⟩) ⟨_,z,rfl,n,rfl⟩ ?_;dsimp only;rw[EQ L,EQ J,EQ O,EQ U];refine IA (m:=Mq _)<|Mi ?_ hz;exact IK ⟨_,rfl,h⟩
theorem J1(a:Int)(t:Tok)(l:eg)(items:Array eh)(n:Nat)(I:Option eg)(S:Array (Option eh))(C : ¬(decide (a < -(2 ^ 63)) || decide (a>=2 ^ 63))=dn)(L : ¬(items.isEmpty || a==1)=dn)
 (J:(decide (a<=0) || items.isEmpty)=dn) :
 Ds (nt.«tuple.__mul__» ⟨[.ref l,.int a t],[]⟩) (λ_ R s=>s.heap.get? l=di {cls:= .type "tuple",dict:=I,data:= .seq items n,slots:=S}/\
  R (.ok (.ret (.ref s.heap.objs.size))) {s with heap:=s.heap.push {cls:= .type "tuple",data:= .seq #[]}}):=
 .of_wp λb w A R s h=>by
  obtain⟨O,g,d,U,os⟩:=s;obtain⟨z,h⟩:=h
  wp_walk using Ma z
  rw[EQ C];refine IA<|OZ (s:=⟨O,g,d,U,os⟩) ⟨_,z,rfl,n,rfl⟩ ?_;dsimp only;rw[EQ L,RY J];refine IA (m:=Mq _)<|Mi ?_ (LL _);exact IK ⟨_,rfl,h⟩
theorem J0(a:Int)(t:Tok)(l:eg)(items:Array eh)(n:Nat)(I:Option eg)(S:Array (Option eh))(C : ¬(decide (a < -(2 ^ 63)) || decide (a>=2 ^ 63))=dn)(L:(items.isEmpty || a==1)=dn) :
 Ds (nt.«tuple.__mul__» ⟨[.ref l,.int a t],[]⟩) (λ_ R s=>s.heap.get? l=di {cls:= .type "tuple",dict:=I,data:= .seq items n,slots:=S}/\R (.ok (.ret (.ref l))) s):=
 .of_wp λb w A R s h=>by
  obtain⟨J,g,d,O,os⟩:=s;obtain⟨z,h⟩:=h
  wp_walk using Ma z
  rw[EQ C];refine IA (OZ (s:=⟨J,g,d,O,os⟩) ⟨_,z,rfl,n,rfl⟩ ?_);dsimp only;rw[RY L];refine IA (m:=MY _) ?_;unfold MY;refine IA (OM (T:="tuple") ⟨_,z,rfl⟩ (IK ?_));rw[RY ⋯];exact IA (OB (IK ⟨_,rfl,h⟩))
section
variable{X:Cx}
noncomputable def Ah(K:Iy):R2:=λx y H Q=>∃l k a,x = .ref l/\y = .int k/\hG K H l a/\ -(2 ^ 62)<=k/\k<2 ^ 62/\a.length*k.toNat<=f6/\(a=[]\/k=1->Q (.ref l) H)/\
 ∀p,H p=d5->Q (.ref p) (upd H p<|.tup (IE k.toNat a).flatten)
theorem rJ:ix X (t5 .Mult) (Ah X.K):=by
 intro C s σ H x y v u Q I Z ry h;obtain⟨l,k,G,rfl,rfl,P,h1,h2,B,W,E⟩:=h;cases Z;obtain⟨t,rfl⟩:=ry;obtain⟨z,r,R,z1⟩:=I.tuple P;obtain⟨⟨N,Y,i,a⟩,J,p,n,w⟩:=id R;simp only at p w;subst p w;have L:=r.length;have g1 : ¬(decide (k < -(2 ^ 63)) || decide (k>=2 ^ 63))=dn:=by simp;omega
 refine Uh (T:="tuple") (U:="int") ⋯ ⟨_,J,rfl⟩ (λs'=>Rj s' k t) Zg F.fills_int_mul Ph KN F.slot_int_index.lookup
  (Nd Ph (Rj s k t) F.entry_int_rmul (F.args_int_rmul_2 _ _) (J7 k t l z.toArray n Y a) ⟨J,rfl,⟨_,J,rfl⟩,?_⟩)
 have j : ∀m:Nat,PM (λx1 f=>x1++f) #[] (IE m z.toArray)=(IE m z).flatten.toArray:=λm=>by have:=Jx z m [];rw[Oi]at this;exact this
 by_cases g2:(z.toArray.isEmpty || k==1)=dn
 ·refine Nd Og ⟨_,J,rfl⟩ Rg (PY _ _) (J0 k t l z.toArray n Y a g1 g2) ⟨J,⟨.ref l,H,I,rfl,W ?_⟩⟩
  rw[Mf]at g2;rcases g2 with g | g
  ·left
   have:z=[]:=by simpa using g
   exact(r.L3).mp this
  ·right;simpa using g
 ·have b:=g2
  simp only[Mf,not_or]at b;have M:z ≠ []:=by intro e;exact b.1 (by rw[e];rfl)
  have b0:0<z.length:=Pj.mpr M;by_cases O:(decide (k<=0) || z.toArray.isEmpty)=dn
  ·have A:k.toNat=0:=by
    rw[Mf]at O;rcases O with g | g
    ·have:=of_decide_eq_true g;omega
    ·exact absurd g b.1
   refine Nd Og ⟨_,J,rfl⟩ Rg (PY _ _) (J1 k t l z.toArray n Y a g1 g2 O) ⟨J,?_⟩;refine⟨.ref s.heap.objs.size,_,I.laid (t':=s.toks) (o:= .tup (IE k.toNat G).flatten) (λc S q=>IB _ q) (IH _) ?_,rfl,E _<|I.f9.fresh<|IH _⟩;rw[A];exact⟨LL _,[],.nil,xg.new _ _⟩
  ·have A : ¬k<=0:=by intro g;exact O (by rw[Mf];exact .inl<|decide_eq_true g)
   have d:z.length*k.toNat<=f6:=by rw[<- L];exact B
   have b5:((z.toArray.size:Nat):Int)*k<=(f6:Int):=by
    rw[II];have e:((z.length*k.toNat:Nat):Int)=(z.length:Int)*k:=by rw[Int.natCast_mul,ND ⋯]
    omega
   have b6:f6=16777216:=Nw;have as:(PM (λx1 f=>x1++f) #[] (IE k.toNat z.toArray)).size<=f6:=by rw[j,II,Vx,Pb];exact d
   refine Nd Og ⟨_,J,rfl⟩ Rg (PY _ _) (Xm k t l z.toArray n Y a g1 g2 O ⋯ (by unfold Builtin.Tuple.tupleTooMany;simp only[decide_eq_true_eq];omega) as) ⟨J,?_⟩;rw[j];refine⟨.ref s.heap.objs.size,_,I.laid (t':=s.toks) (o:= .tup (IE k.toNat G).flatten) (λc S q=>IB _ q) (IH _) ?_,rfl,E _<|I.f9.fresh<|IH _⟩;exact⟨by rw[Vx,Pb];exact B,_,r.rep k.toNat,xg.new _ _⟩
theorem pB{K:Iy}:mr K (λx y H Q=>rI DI (λi j=> .int (i*j)) x y H Q\/Ah K x y H Q) ve:=λh H x y k Y d Q s J O z q=>by
 cases k<;>cases Y<;>simp[ve]at z
 ·obtain⟨l,I⟩:=z
  subst I;exact .inl ⟨_,_,jq J,jq O,mS l,q _ H h (Ext.refl s) rfl⟩
 ·rename_i f j
  obtain⟨⟨n,m⟩,rfl⟩:=z;obtain⟨a,t,rfl,g,b⟩:=kR J;obtain⟨o,r⟩:=Js m;refine .inr ⟨a,j,t,rfl,jq O,m4 s g,o,r,k5 (by rw[b.length];exact n),λe=>?_,λp U=>?_⟩
  ·refine q _ H h (Ext.refl s) ?_
   rcases e with e | e
   ·have I:f=[]:=by
     have:=b.length;rw[e]at this;exact Lx this.symm
    subst I;rw[show(IE j.toNat ([]:List D)).flatten=[]by simp];exact xE g b
   ·subst e
    rw[show(IE (1:Int).toNat f).flatten=f by simp];exact xE g b
  ·exact q _ _ _ (Ext.alloc s U _)<|xE (hG.of zO)<|(Xx b _).mono (je (jw s U) _)
theorem xU(C:PV X a fa)(z:PV X b fb):PV X (.BinOp a .Mult b pos) (zG ve fa fb):=QN (TY.or rJ) pB C z
end
end DL
namespace DL
open PySem PySem.Spec PyProof.Rows L2
theorem RC.TL{K:Iy}{H0 H:Hp}{S:St}{γ:Ctx}{i:Nat}{ds:List D}{a:eg}{xs:List V}(r:RC K H0 H S γ)(e:γ[i]? = di (.own ds))(L:S[i]? = di (di (.ref a)))(C:H0 a=d5)(Z:H a=di (.lst xs))(h4:ej K H0 ds xs):RC K (L2.upd H0 a<|.lst xs) H S (γ.set i<|.val<|.lst ds):=by
 refine⟨λb o q=>?_,by simp[r.len],λj d g=>?_,λj l g=>?_,λj k b l fs f I s t=>?_,⟨λj h g=>?_,λj k w x f I=>?_⟩⟩
 ·by_cases z:b=a
  ·subst z;rw[zO]at q;rw[Z];exact q
  ·rw[zK z]at q;exact r.sub b o q
 ·rcases zE g with⟨rfl,z,B⟩ | ⟨O,z⟩
  ·cases z;exact⟨_,L,ZT (gm.of zO)<|h4.mono<|je C _⟩
  ·obtain⟨v,U,g2⟩:=r.val j d z
   exact⟨v,U,g2.mono<|je C _⟩
 ·rcases zE g with⟨_,z,_⟩ | ⟨O,z⟩
  ·cases z
  ·obtain⟨b,y,U,g2,g3,u⟩:=r.own j l z
   refine⟨b,y,U,?_,g3,u.mono<|je C _⟩;rw[zK (λq=>O<|r.ne j i a l ds z e (by rw[U,q]) L)];exact g2
 ·rcases zE f with⟨_,z,_⟩ | ⟨O,J⟩
  ·cases z
  ·rcases zE I with⟨_,z,_⟩ | ⟨A,Y⟩
   ·cases z
   ·exact r.ne j k b l fs J Y s t
 ·rcases zE g with⟨_,z,_⟩ | ⟨O,z⟩
  ·cases z
  ·obtain⟨b,bs,f1,f2,n⟩:=r.m7.1 j h z
   have p:=n i ds a e L;refine⟨b,bs,f1,f2.move (je C _) (λc m=>by rw[zK (λq=>p<|by rw[<- q];exact m)];exact(f2.at m).1)<|λc m=>rfl,λk fs c f I=>?_⟩;rcases zE f with⟨_,z,_⟩ | ⟨_,J⟩
   ·cases z
   ·exact n k fs c J I
 ·rcases zE f with⟨_,z,_⟩ | ⟨_,J⟩
  ·cases z
  ·rcases zE I with⟨_,z,_⟩ | ⟨_,Y⟩
   ·cases z
   ·exact r.m7.2 j k w x J Y
end DL
namespace L2
open PySem PySem.Spec PyProof.Rows
open AutoSeq1 (wpAny_loadPart')
section
variable{prog:i3}{w:h8}{A:mm}{E:RQ}{s:eF}
theorem bc{z it l:eg}{n:Nat}{xs:Array eh}{x O:eh}{Q:RQ}(hz:t9 s.heap z it n O)(S:l0 .T s.heap it l n)(hl:n7 .T s.heap l xs)(hx:xs[n]? = di x)(C:z≠it)
 (Z : ∀g,N4 g z it ((n:Int)+1) x s.heap.objs.size->l0 .T g it l (n+1)->n3 g s.heap.objs.size (.int n s.toks) x->g.objs.size=s.heap.objs.size+1->
   (∀c o,c≠z->c≠it->s.heap.get? c=di o->g.get? c=di o)->Q (.ref s.heap.objs.size) {s with heap:=g,toks:=s.toks+1}) :
 wpAny (e9 prog w) A (nt.«enumerate.__next__» ⟨[.ref z],[]⟩) (λL s'=>∃v,L = .done (.ret v)/\Q v s') E s:=by
 refine IA (m:=field (.ref z) 2) (LW hz rfl (x:= .ref it) rfl ?_);refine IA (m:=Lr (.ref it)) (vL S hl hx λg1 G d=>?_);have f:t9 g1 z it n O:=d.extBut _ _ C hz;refine IA (m:=field (.ref z) 3) (LW f rfl (x:=Di n) rfl ?_);refine IA (m:=field (.ref z) 4) (LW f rfl (x:= .none) rfl ?_);refine IA (m:=mkInt n) (wpAny_mkInt ?_);refine IA (m:=setField (.ref z) 3 (Di ((n:Int)+1))) (Ml f ⋯ λg2 sm h=>?_);replace sm:t9 g2 z it ((n:Int)+1) O:=sm;refine IA (m:=setField (.ref z) 4 .none) (Ml sm ⋯ λU i j=>?_);replace i:t9 U z it ((n:Int)+1) O:=i;refine IA (m:=newTuple [.int n s.toks,x]) (PL ?_);have b:t9 (U.push {cls:= .type "tuple",data:= .seq #[.int n s.toks,x]}) z it ((n:Int)+1) O:=IB _ i;generalize a2:U.push {cls:= .type "tuple",data:= .seq #[.int n s.toks,x]}=J at b;have R:g1.objs.size=s.heap.objs.size:=d.1;have W:g2.objs.size=g1.objs.size:=h.1;have X:U.objs.size=g2.objs.size:=j.1;have a:U.objs.size=s.heap.objs.size:=by rw[X,W,R]
 have H:z<s.heap.objs.size:=IT hz;have K:n3 J s.heap.objs.size (.int n s.toks) x:=by show J.get? _=_;rw[<- a2,<- a];exact IV _ rfl
 have y4:J.objs.size=s.heap.objs.size+1:=by rw[<- a2,LG,a]
 have bi : ∀c o,c≠z->c≠it->s.heap.get? c=di o->J.get? c=di o:=λc o I t e=>by rw[<- a2];exact IB _<|j.extBut _ _ I<|h.extBut _ _ I<|d.extBut _ _ t e
 have bl:l0 .T J it l (n+1):=G.at λo e=>by rw[<- a2];exact IB _<|j.extBut _ _ C.symm<|h.extBut _ _ C.symm e
 refine IA (m:=LM<|.ref z) ?_;unfold LM;refine IA<|LW b rfl (x:= .none) rfl<|IK ?_;simp only[if_true];refine IA<|OB<|IA<|LW b rfl (x:=O) rfl ?_;refine IA<|Ml b ⋯ λu k as=>?_;replace k:t9 u z it ((n:Int)+1) x:=k;rw[a];refine IA (m:=Mr (.ref z)<|.ref s.heap.objs.size) ?_;unfold Mr;refine IA<|Ml k ⋯ λg6 p B=>?_;replace p:N4 g6 z it ((n:Int)+1) x s.heap.objs.size:=p;refine Ml p ⋯ λY r F=>?_;replace r:N4 Y z it ((n:Int)+1) x s.heap.objs.size:=r;have y : ∀c o,c≠z->J.get? c=di o->Y.get? c=di o:=λc o I e=>F.extBut _ _ I<|B.extBut _ _ I<|as.extBut _ _ I e;have y7:Y.objs.size=s.heap.objs.size+1:=by have M:u.objs.size=J.objs.size:=as.1;have N:g6.objs.size=u.objs.size:=B.1;have P:Y.objs.size=g6.objs.size:=F.1;rw[P,N,M,y4]
 exact IA<|PR<|IK ⟨_,rfl,Z Y r (bl.at λo e=>y _ o C.symm e) (y _ _ (ML H) K) y7 λc o I t e=>y c o I<|bi c o I t e⟩
theorem fB{z it l:eg}{n:Nat}{xs:Array eh}{I:eh}{Q:Fin->eF->Prop}(J:A.handled=d5)(hz:t9 s.heap z it n I)(C:l0 .T s.heap it l n)(O:n7 .T s.heap l xs)(hx:xs[n]? = d5)
 (U : ∀g e,Heap.ExtBut it s.heap g->(∃o,g.get? e=di o/\o.cls = .type "StopIteration")->E (.ref e) {s with heap:=g}) :
 wpAny (e9 prog w) A (nt.«enumerate.__next__» ⟨[.ref z],[]⟩) Q E s:=
 IA (m:=field (.ref z) 2) (LW hz rfl (x:= .ref it) rfl<|IA (m:=Lr<|.ref it)<|XJ J C O hx U)
end
noncomputable def sE(i:eg):nr:={cls:= .type "enumerate",data:= .fields #[.none,.bool ed,.ref i,Di 0,.none,.none]}
noncomputable def JB(h:f7)(l:eg):f7:=LP (LP h<|m6 .T l)<|sE h.objs.size
theorem fz(l:eg)(xs:Array eh) :
 Ds (nt.«enumerate.__new__» ⟨[.type "enumerate",.ref l],[]⟩) (λ_ R s=>n7 .T s.heap l xs/\R (.ok (.ret (.ref (s.heap.objs.size+1)))) {s with heap:=JB s.heap l}):=
 .of_wp λb w A R s h=>by
  obtain⟨O,g,d,U,os⟩:=s;obtain⟨Y,h⟩:=h;have f:=sub_enumerate;have z:Heap.IsTuple (Shared.heap ⟨O,g,d,U,os⟩) l xs:=Y;obtain⟨o,I,J,m,a⟩:=id z;obtain⟨e,lh,i,j⟩:=o;simp only at J a;subst J a;simp only[JB,sE,m6,LG]at h
  wp_walk using Ma I
  refine wpAny_stack_any λst=>IK ?_;split
  ·rename_i c _ _ _ _ _
   cases (c==NM "enumerate")<;>(wp_walk using Ma I,ON z;exact⟨_,rfl,by simpa[LG,Ov]using h⟩)
  ·wp_walk using Ma I,ON z
   exact⟨_,rfl,by simpa[LG,Ov]using h⟩
noncomputable def N5(K:Iy)(a:eg):It:=
 ⟨λi H=>∃b,md .T K H a b/\i<b.length,
  λi H x d=>∃p u,x = .ref p/\H p=d5/\d=upd H p (.tup [.int i,u])/\(∀b,md .T K H a b->b[i]? = di u),
  λi H=>∃b,md .T K H a b/\b.length<=i⟩
theorem vS(hz:t9 s.heap z it n old)(h:Q (.ref z) s):wpAny (e9 prog w) A (L8 (.ref z)) Q E s:=by have I:s.TypeIs (.ref z) "enumerate":=⟨_,hz,rfl⟩;refine wpAny_pyIter_slot I F.slot_enumerate_iter (Ms F.slot_enumerate_iter I F.entry_enumerate_iter ?_ (F.args_enumerate_iter_1 _));have J:wpAny (e9 prog w) A.in1 (ret (.ref z)) (λJ a=>∃v,J = .done (.ret v)/\∃T m,a.TypeIs v T/\N0 (.type T) "__next__" = pure (di m)/\Q v a) E s:=IK ⟨_,rfl,"enumerate",_,I,Nv.lookup,h⟩;exact J
theorem bQ{P:i3}{w:h8}{K:Iy}{elts:List eA}{x1:Nat}{xb:hB}{z it a:eg}(am:z≠it) :
 Turn P w K (.Tuple elts x1 xb) (N5 K a) [z,it] z (λi h=>(∃U,t9 h z it i U)/\l0 .T h it a i) where
 mem:=by simp
 obj:=λi h ⟨⟨U,hz⟩,h1⟩ y hy=>by
  simp only[iU,Lv,or_false]at hy;rcases hy with rfl | rfl
  ·exact⟨_,hz,λv q=>by cases q⟩
  ·exact h1.obj
 keep:=λi h h' ⟨⟨U,hz⟩,h1⟩ k=>⟨⟨U,k z ⋯ _ hz⟩,h1.at λo e=>k it ⋯ o e⟩
 item:=by
  rintro X hP hw hK hc i pins s σ H E I hf ⟨⟨U,hz⟩,h1⟩ ⟨xs,a6,as⟩;subst hP hw hK;obtain⟨ax,a9,p1,z1⟩:=I.sq a6;have hx:xs[i]? = di xs[i]:=ID as;obtain⟨u1,b5,b6⟩:=a9.get hx;have Y:s.TypeIs (.ref z) "enumerate":=⟨_,hz,rfl⟩;unfold DY;refine IA (OY (Mj (name:=LC "__next__") Y Nv (Ms Nv Y F.entry_enumerate_next
   (bc hz h1 p1 (x:=u1) (by simpa using b5) am λg a1 a2 a3 a4 a5=>IK ⟨_,rfl,?_⟩) (F.args_enumerate_next_1 _))))
  refine Uj a1 λg2 sm ak=>?_;have lt : ∀{c o},s.heap.get? c=di o->s.heap.objs.size≠c:=λe=>ML<|IT e;have bd:n3 g2 s.heap.objs.size (.int i s.toks) u1:=ak.extBut _ _ (lt hz) a3;have kk : ∀O u,O ∉ [z,it]->s.heap.get? O=di u->g2.get? O=di u:=λO u J e=>by simp only[iU,Lv,or_false,not_or]at J;exact ak.extBut _ _ J.1<|a5 O u J.1 J.2 e
  have I1:Inv X pins σ (upd H s.heap.objs.size<|.tup [.int i,xs[i]]) {s with heap:=g2,toks:=s.toks+1}:=
   I.RR (fp:=[z,it]) kk hf (IH _) ⟨by show 2<=f6;decide,[.int i s.toks,u1],.cons ⟨_,rfl⟩<|.cons b6 .nil,⟨_,bd,rfl,_,rfl⟩⟩
  have bf:H s.heap.objs.size=d5:=I.fresh;refine⟨.ref s.heap.objs.size,_,I1,rfl,⟨_,_,rfl,bf,rfl,λbx bg=>by rw[I.RH bg a6];exact hx⟩,?_,λO J=>?_⟩
  ·exact⟨⟨_,by have:=sm;rwa [show((i:Int)+1)=((i+1:Nat):Int)by omega]at this⟩,a2.at λo e=>ak.extBut _ _ am.symm e⟩
  ·have bi:O≠s.heap.objs.size:=by
    simp only[iU,Lv,or_false]at J;rcases J with rfl | rfl
    ·exact(lt hz).symm
    ·obtain⟨o,e,_⟩:=h1.obj;exact(lt e).symm
   rw[zK bi];exact(hf O J).1
 done:=by
  rintro X hP hw hK hc i pins s σ H E I hf ⟨⟨U,hz⟩,h1⟩ ⟨xs,a6,hi⟩;subst hP hw hK;obtain⟨ax,a9,p1,z1⟩:=I.sq a6;have Y:s.TypeIs (.ref z) "enumerate":=⟨_,hz,rfl⟩;have l1:=a9.length;unfold DY;refine IA (OY (Mj (name:=LC "__next__") Y Nv (Ms Nv Y F.entry_enumerate_next
   (fB (show X.A.handled=d5 from I.ok.hd hc) hz h1 p1 (by simp;omega) λg e hk he=>?_) (F.args_enumerate_next_1 _))))
  obtain⟨o,ho,bt⟩:=he;refine IA (wpAny_isInstance (T:="StopIteration") (b:=dn) ⟨o,ho,bt⟩ isSubtype_stop (IK ⟨rfl,?_⟩));refine I.Dk (t':=s.toks) (fp:=[z,it]) (λO u J e=>?_) hf;simp only[iU,Lv,or_false,not_or]at J;exact hk O u J.2 e
 self:=λ_ _ _ _ _ st h=>vS st.1.choose_spec h
noncomputable def Fm(K:Iy)(C:TA):TI:=λf H R=>C f H λd b=>∃a,d=[.ref a]/\(∃e,md .T K b a e)/\R (N5 K a) b
theorem rC{X:Cx}{S:eA}{Z:TA}{p pos:hB}{C:List eA}{x1:Nat}{L:hB}(hg:Gl X "enumerate")(hm:X.mg "enumerate" = d5)(ha:PA X [S] Z)
 (hv:Dc "enumerate" = di (.type "enumerate")) (hs:gv [S] X.env=[(ed,fh S X.env)]:=by rfl) :
 PI X (.Tuple C x1 L) (.Call (.Name "enumerate" p) [S] [] pos) (Fm X.K Z):=by
 intro d s g H R I h;refine D2<|yF I hg hm hv<|LY (ft (ha pos d s g H _ I h) λy b n=>?_) (by rw[hs];rfl) rfl;obtain⟨A,f,z,t,r⟩:=n;obtain⟨a,e,⟨E,j⟩,q⟩:=r;subst e;obtain⟨B,m,k⟩:=yq t;subst m;cases k;obtain⟨l,w,O,G⟩:=z.sq j;have x:=O.lt;refine callType_new F.called_enumerate ⋯ (F.typeCall_enumerate_1 _) (F.newCall_enumerate_1 _) (λobj=>F.args_object_init_2 obj _) F.entry_enumerate_new (fz a l.toArray) ⟨O,?_⟩;have keep : ∀c o,b.heap.get? c=di o->(JB b.heap a).get? c=di o:=λc o e=>IB _<|IB _ e;have u:(LP b.heap<|m6 .T a).objs.size=b.heap.objs.size+1:=LG ..;have g0:l0 .T (JB b.heap a) b.heap.objs.size a 0:=(Ys .T b.heap a).at λo e=>IB _ e;have J:t9 (JB b.heap a) (b.heap.objs.size+1) b.heap.objs.size 0 .none:=by have q:=IV (LP b.heap<|m6 .T a) (o:=sE b.heap.objs.size) rfl;rw[u]at q;exact q
 refine⟨⟨_,J,rfl⟩,vS (s:={b with heap:=JB b.heap a}) J ?_⟩;have i:Inv X d g f {b with heap:=JB b.heap a,toks:=b.toks}:=z.kept keep;refine⟨_,[b.heap.objs.size+1,b.heap.objs.size],_,_,f,rfl,i,bQ<|ML<|Mp _,⟨⟨_,J⟩,g0⟩,λc U=>?_,q⟩;have Y:b.heap.objs.size<=c:=by
  simp only[iU,Lv,or_false]at U;rcases U with rfl | rfl
  ·exact LI _ _
  ·exact IH _
 exact z.Dd Y<|z.f9.fresh Y
end L2
namespace DL
open PySem PySem.Spec PyProof.Rows L2
theorem Jn{K:Iy}{H:Hp} : ∀{ds:List D} {xs:List V} {l:List Int},ej K H ds xs->XX ds=di l->xs=l.map V.int
 | [],xs,l,r,e=>by cases e;rw[show xs=[]from r];rfl
 | d::ds,xs,l,r,e=>by
  obtain⟨x,g,rfl,z,b⟩:=(show ∃x r,xs=x::r/\Rep K H d x/\ej K H ds r from r);cases d with
  | int i=>
   obtain⟨f,a,rfl⟩:=zC (show(XX ds).map (λl=>i::l)=di l from e);rw[Jn b a,show x = .int i from z];rfl
  | _=>cases e
theorem Jy : ∀l:List Int,(l.map V.int).all X0=dn
 | []=>rfl
 | i::l=>by simp only[Ld,List.all_cons,Jy l,Bool.and_true];rfl
theorem VE(i:Int) : ∀l:List Int,I7 (.int i) (l.map V.int)=decide (i∈l)
 | []=>rfl
 | j::l=>by
  have z:=VE i l;unfold I7 at z ⊢;rw[Ld,OP,z];have e:B4 (.int j) (.int i)=(j==i):=rfl;rw[e];by_cases h:i=j
  ·subst h
   rw[beq_self_eq_true,Bool.true_or];exact(decide_eq_true IQ).symm
  ·rw[beq_false_of_ne (Ll h),Bool.false_or]
   exact decide_eq_decide.mpr ⟨λq=>IM _ q,λq=>(iU.mp q).resolve_left h⟩
theorem bH{K:Iy}{H0 C:Hp}{a:eg}{xs:List V}{ds:List D}(h:hG K C a xs)(r:ej K H0 ds xs):Walk K H0 C (N5 K a) (k8 ds):=by
 have Y:=r.length;have n:(k8 ds).length=ds.length:=by simp[k8]
 refine⟨λi b s l=>?_,λb s=>?_,λi b x g s l y=>?_⟩
 ·exact⟨xs,m4 s h,by omega⟩
 ·exact⟨xs,m4 s h,by omega⟩
 ·obtain⟨p,u,j,z,I,J⟩:=y
  obtain⟨d,k,O⟩:=r.Dz<|J xs<|m4 s h;refine⟨.tup [.int i,d],?_,λf m e=>⟨upd f p<|.tup [.int i,u],?_,?_⟩⟩
  ·have U:i<ds.length:=by omega
   unfold k8;rw[Le,MF U,MO,k];rfl
  ·rw[I];exact Ext.alloc e z _
  ·rw[j]
   exact xE (hG.of zO)<|ej.cons (show V.int i = .int i from rfl)<|ej.cons ((O.mono m).mono (je (jw e z) _)) ej.nil
section
variable{X:Cx}{sc:hL}{N L:List Str}{k:Nat}{a b c:eA}{pos p:hB}{f fa fb fc:CO D}
theorem dc(h:SX X sc N L k)(c:vd sc "enumerate" = dn)(z:X.mg "enumerate" = d5)(C:PV X a f)(J:gv [a] X.env=[(ed,fh a X.env)]:=by rfl) :
 i4 X (.Tuple elts x1 xb) (.Call (.Name "enumerate" p) [a] [] pos) (iw f):=
 K4 (rC (h.gl c).1 z (jz C qy J) boot_enumerate J) λo H R U=>by
  obtain⟨g,l,m,rc,I,q⟩:=U;obtain⟨d,Y,I⟩:=zc I;cases d with
  | tup n=>
   cases I;refine⟨g,l,_,rc,Y,λv e b x r=>?_⟩;obtain⟨i,j,rfl,O,g2⟩:=kR r;exact⟨i,rfl,⟨j,m4 x.sub O⟩,q _ e b x<|bH O g2⟩
  | _=>cases I
theorem Ws(ho:ix X (l7 op) r)(C:ix X (l7 F5) r')(s1:mr X.K r F)(s2:mr X.K r' G)(S:PV X a fa)(Z:PV X b fb)(hc:PV X c fc)
 (hm:E7 [op,F5] [b,c]=ed:=by with_unfolding_all rfl):PV X (.Compare a [op,F5] [b,c] pos) (vB F G fa fb fc):=
 j9 (lr ho C S Z hc hm) λσ H Q M=>by
  obtain⟨i,e,d,rc,I,q⟩:=M;obtain⟨x,u,I⟩:=zc I;obtain⟨y,w,I⟩:=zc I;obtain⟨k,A,I⟩:=zc I;obtain⟨U,B,Y⟩:=zc A;refine⟨i,e,x,rc,u,λW H1 o x1 N=>⟨o,e,y,rc.ext x1,w,λh j p J g=>s1 p j W h x y U _ J.sub (N.mono J.s0) g B λv3 l f x3 P=>?_⟩⟩;cases U with
  | bl k'=>
   cases Y;refine⟨k,show v3 = .bl k from P,?_⟩;cases k with
   | true=>
    rw[RY rfl];rw[RY rfl]at I;obtain⟨z,E,L⟩:=zc I;exact⟨f,e,z,((rc.ext x1).ext J).ext x3,E,λv4 m s O R=>s2 s m h v4 y z d _ O.sub ((g.mono x3.s0).mono O.s0) R L λv5 n t x5 T=>q v5 n t (((x1.trans J).trans x3).trans (O.trans x5)) T⟩
   | false=>
    rw[EQ ⋯];rw[EQ ⋯]at I;cases I;exact q _ l f ((x1.trans J).trans x3) rfl
  | _=>cases Y
theorem Ar(C:PV X a fa){g:CO (Sk×List D)}(O:PQ X b g)(S:u9 .In b=ed:=by with_unfolding_all rfl):PV X (.Compare a [.In] [b] pos) (EK fa g):=
 j9 (du dE C O S) λG H Q U=>by
  obtain⟨k,j,d,rc,z,q⟩:=U;obtain⟨x,s,z⟩:=zc z;obtain⟨⟨h,o⟩,Y,z⟩:=zc z;obtain⟨i,t,z⟩:=zc z;obtain⟨l,u,rfl⟩:=zC z;refine⟨k,j,x,rc,s,λJ B m x1 I=>⟨m,j,h,o,rc.ext x1,Y,λp F e n A f E r=>?_⟩⟩;rw[jC t]at I;have w:=Jn r u;subst w;have y:gm X.K e p (l.map V.int)\/hG X.K e p (l.map V.int):=by
   cases h with
   | L=>exact .inl f
   | T=>exact .inr f
  refine⟨p,_,rfl,y,by rw[show J = .int i from I];rfl,Jy l,?_⟩;rw[show J = .int i from I,VE];exact q _ e n (x1.trans A) rfl
end
theorem vx : ∀{l:List Int} {us:List eh},fy (l.map V.int) us->∀i,i<us.toArray.size->∃z u,us.toArray[i]? = di (.int z u)/\l[i]? = di z
 | [],us,r,i,hi=>by cases r;exact absurd hi<|Lg _
 | z::l,u::us,.cons r t,i,hi=>by
  cases i with
  | zero=>
   obtain⟨I,rfl⟩:=r;exact⟨z,I,by simp,by simp⟩
  | succ i=>
   obtain⟨J,O,a,U⟩:=vx t i (by simpa using hi);exact⟨J,O,by simpa using a,by simpa using U⟩
theorem vW(h:vX o=di rows):o=di (.nest rows):=by
 cases o with
 | none=>cases h
 | some c=>cases c<;>first | cases h;rfl | cases h
noncomputable def tN(K:Iy)(f:CO (List<|List D)):TE:=λj H Q=>∃h i d,RC K h H j i/\f i=di d/\
 ∀a bs g e,Ext h H e g->(∀b∈a::bs,H b=d5)->u6 K e g d a bs->Q (.ref a) g
noncomputable def s9(K:Iy)(H0 H:Hp)(C:List (List D))(bs:List eg):Prop:=bs.length=C.length/\∀(k:Nat) b row,bs[k]? = di b->C[k]? = di row->H0 b=d5/\∃a,H b=di (.lst a)/\ej K H0 row a
theorem s9.at{K:Iy}{H0 H:Hp}{C:List (List D)}{bs:List eg}(n:s9 K H0 H C bs){b:eg}(J:b∈bs):H0 b=d5/\∃xs,H b=di (.lst xs):=by obtain⟨k,z⟩:=Pf J;have I:=(IP.mp z).1;rw[n.1]at I;obtain⟨a,xs,d,_⟩:=n.2 k b _ z<|ID I;exact⟨a,xs,d⟩
theorem s9.ext{K:Iy}{H0 H J H':Hp}{C:List (List D)}{bs:List eg}(n:s9 K H0 H C bs)(e:Ext H0 H J H'):s9 K J H' C bs:=
 ⟨n.1,λk b row a d=>by obtain⟨z,f,g2,I⟩:=n.2 k b row a d;exact⟨e.new b z (by rw[g2];simp),f,e.s1 _ _ g2,I.mono e.s0⟩⟩
theorem s9.add{K:Iy}{H0 H:Hp}{C:List (List D)}{bs:List eg}{b:eg}{row:List D}{xs:List V}(n:s9 K H0 H C bs)(L:H0 b=d5)(S:H b=di (.lst xs))(O:ej K H0 row xs):s9 K H0 H (C++[row]) (bs++[b]):=
 ⟨by simp[n.1],λk c r a I=>by
  rcases IY k bs.length with z | z
  ·rw[LK z]at a
   rw[LK (by rw[<- n.1];exact z)]at I;exact n.2 k c r a I
  ·rw[Lz z]at a
   rw[Lz (by rw[<- n.1];exact z)]at I;have J:k - bs.length=0:=by have:=(IP.mp a).1;simp at this;omega
   rw[J]at a;rw[<- n.1,J]at I;cases a;cases I;exact⟨L,xs,S,O⟩⟩
theorem s9.hide{K:Iy}{H0 H:Hp}{C:List (List D)}{bs:List eg}{z:eg}{o:HO}(n:s9 K H0 H C bs)(h:z∉bs):s9 K H0 (upd H z o) C bs:=
 ⟨n.1,λk b row a d=>by obtain⟨I,e,g2,J⟩:=n.2 k b row a d;exact⟨I,e,by rw[zK (λq=>h<|by rw[<- q];exact LB a)];exact g2,J⟩⟩
section
variable{K:Iy}{own:List Str}{fr:List (Str×Nat)}{src:CO (List D)}{T:Tg}{f:CO (List D)}
theorem bp(hT : ∀i∈T.idx,i<own.length){tt:TT}(c3 : ∀C H Q,tT K jt C H Q->tt C H Q) : ∀C H Q,tN K (Wn src T own.length (fr.map (·.2)) f) C H Q->bY (RN K src) own fr (p6 K T) tt (tO K f) C H Q:=λC H Q hZ=>by
 obtain⟨H0,u,n,rc,s,q⟩:=hZ;obtain⟨a,e1,s⟩:=zc s;by_cases hl:a.length<=lim
 ·rw[RY hl]at s
  refine⟨H0,u,a,rc,e1,λJ A am x1 wk D P=>?_⟩;have ap : ∀(i:Nat) E,(z6 own.length (fr.map (·.2)) u)[i]? ≠ di (.own E):=λi E h=>by rcases qC h with z | ⟨d',j,z,_⟩<;>cases z
  have as : ∀(i:Nat) E,(z6 own.length (fr.map (·.2)) u)[i]? ≠ di (.nest E):=λi E h=>by rcases qC h with z | ⟨d',j,z,_⟩<;>cases z
  have b8:am D=d5:=jw x1.sub P;have b9 : ∀c,A c=d5->H c=d5:=λc R=>by
   cases z:H c with
   | none=>rfl
   | some o=>rw[x1.s1 c o z]at R;cases R
  refine⟨λi m Z G l=>m=a.length - i/\i<=a.length/\Z.length<=i/\l D=di (.lst Z)/\∃g bs W r2,Z=bs.map V.ref/\RC K g l G (z6 own.length (fr.map (·.2)) u)/\g D=d5/\Ext am A g l/\s9 K g l W bs/\(D::bs).Nodup/\(∀b∈bs,A b=d5)/\vn T f (z6 own.length (fr.map (·.2)) u) (a.drop i)=di r2/\n=W++r2,
   ⟨_,rfl,LL _,IH _,zO,am,[],[],n,rfl,((rc.ext x1).pull).upd b8 ap as,b8,Ext.hide x1.sub P _,⟨rfl,λk b row h=>by simp at h⟩,by simp,λb U=>by simp at U,s,rfl⟩,?_⟩
  rintro i m Z G l ⟨rfl,hi,hy,M,g,bs,W,r2,c5,ax,bb,t,N,nd,bd,I,rfl⟩;subst c5;refine⟨M,?_⟩;by_cases B:i<a.length
  ·refine .inr ⟨wk.go i l t.s1 B,?_,λx b0 y=>?_⟩
   ·have:=k5<|IH lim;omega
   obtain⟨d,hd,hx⟩:=wk.A4 i l x b0 t.s1 B y;obtain⟨G0,O,rg⟩:=hx g t.s0 ax.sub;have c6:a.drop i=d::a.drop (i+1):=by
    have c7:d=a[i]:=by rw[ID B]at hd;exact(Lq hd).symm
    rw[c7];exact MN B
   rw[c6]at I;simp only[vn]at I;obtain⟨p,eb,I⟩:=zc I;obtain⟨e,ee,I⟩:=zc I;obtain⟨kH,er,I⟩:=zC I;have ca:G0 D=d5:=O.new D bb (by rw[M];simp);have be:b0 D=di (.lst<|bs.map V.ref):=O.s1 _ _ M;obtain⟨bl,bg⟩:=YM eb;have cb : ∀{L:St} {G2 H2:Hp},RC K G2 H2 L p->RC K G2 H2 L (z6 own.length (fr.map (·.2)) u):=λr=>r.weak bl.symm (λj d' hj=>by
    by_cases S:j∈T.idx
    ·rcases qC hj with z | ⟨d2,j2,_,hn,_⟩
     ·cases z
     ·exact absurd (hT j S) ⋯
    ·rw[bg j S];exact hj) ap as
   refine vZ O.sub rg eb λN2 bm _=>c3 N2 b0 _ ⟨G0,p,dn,bm<|ax.ext O,rfl,λH3 bn x3=>?_⟩;have bt:=(bm<|ax.ext O).ext x3;have xa:=t.trans<|O.trans x3;have ch:bn D=d5:=x3.new D ca (by rw[be];simp);have b5:H3 D=di (.lst<|bs.map V.ref):=x3.s1 _ _ be;dsimp only;rw[RY rfl];refine⟨bn,p,e,bt,ee,λY d3 H4 bx F g1 g2 g3 g4=>?_⟩;have b6:bx D=d5:=F.new D ch (by rw[b5];simp);have cm:H4 D=di (.lst<|bs.map V.ref):=F.s1 _ _ b5;have X:=xa.trans F;have co:=((N.ext O).ext x3).ext F;have cq:=(N.ext O).ext x3;have c0:D∉bs:=(Me.mp nd).1;have c1:D≠Y:=λz=>by rw[<- z,b5]at g1;cases g1
   have cr:Y∉bs:=λS=>by obtain⟨_,d4,z⟩:=cq.at S;rw[g1]at z;cases z
   have cs:A Y=d5:=by
    cases z:A Y with
    | none=>rfl
    | some o=>rw[xa.s1 _ _ z]at g1;cases g1
   refine⟨cm,a.length - (i+1),by omega,rfl,B,by rw[LJ,Nh];omega,zO,bx,bs++[Y],W++[e],kH,by simp,(cb<|bt.ext F).upd b6 ap as,b6,?_,?_,?_,?_,er,?_⟩
   ·exact⟨X.s0,λc o z=>by rw[zK (λw=>by rw[w,P]at z;cases z)];exact X.s1 c o z,λc o z=>by rw[zK (λw=>by rw[w,b6]at z;cases z)];exact X.sub c o z,X.new⟩
   ·exact(co.add g2 g3 g4).hide (by simp[c0,c1])
   ·refine Me.mpr ⟨by simp[c0,c1],List.nodup_append.mpr ⟨(Me.mp nd).2,by simp,λc R c' cw=>?_⟩⟩
    have:c'=Y:=by simpa using cw
    subst this;exact λz=>cr (by rw[<- z];exact R)
   ·intro b U
    rcases ME.mp U with z | z
    ·exact bd b z
    ·have:b=Y:=by simpa using z
     subst this;exact cs
   ·rw[<- I];simp
  ·have e:i=a.length:=by omega
   subst e;rw[Ob]at I;cases I;rw[Nj]at q;refine .inl ⟨wk.stop l t.s1,q D bs l g (x1.trans t) (λb U=>?_) ⟨bb,M,nd,N.1,N.2⟩⟩;rcases iU.mp U with rfl | U
   ·exact b9 _ P
   ·exact b9 b<|bd b U
 ·rw[EQ hl]at s;cases s
end
section
variable{K:Iy}{E0 E H0 H:Hp}{σ:St}{γ:Ctx}
theorem ZC(h:γ.any QV=ed)(i:Nat)(C:List (List D)):γ[i]? ≠ di (.nest C):=λe=>by have a:Cell.nest C∈γ:=LB e;have:=R7.mp h _ a;exact this rfl
theorem RS.T6(r:RS K E0 E G0 G σ γ)(e:Ext G0 G H0 H)(C : ∀b∈a::bs,G b=d5)(n:u6 K H0 H rows a bs)(Y:γ.any QV=ed) :
 RS K E0 E H0 H (σ.set i<|some (.ref a)) (γ.set i<|.nest rows):=by
 have rc:=r.rc.ext e;have x : ∀b∈a::bs,E b=d5:=λb m=>by
  cases q:E b with
  | none=>rfl
  | some o=>have:=C b m;rw[r.ext.s1 b o q]at this;cases this
 refine⟨⟨rc.sub,by simp[rc.len],λj A g=>?_,λj d g=>?_,λj k b d fs l f u w=>?_,⟨λj h g=>?_,λj k L M I g2=>?_⟩⟩,r.ext.trans e,λj d b I g2=>?_,λj h b Q I g2 J=>?_⟩
 ·rcases zE g with⟨_,z,_⟩ | ⟨O,z⟩
  ·cases z
  ·obtain⟨N,I,g2⟩:=rc.val j A z
   exact⟨N,by rw[IG (Ll O)];exact I,g2⟩
 ·rcases zE g with⟨_,z,_⟩ | ⟨O,z⟩
  ·cases z
  ·obtain⟨b,y,I,g2⟩:=rc.own j d z
   exact⟨b,y,by rw[IG (Ll O)];exact I,g2⟩
 ·rcases zE l with⟨_,z,_⟩ | ⟨O,U⟩
  ·cases z
  ·rcases zE f with⟨_,z,_⟩ | ⟨p,t⟩
   ·cases z
   ·rw[IG (Ll O)]at u
    rw[IG (Ll p)]at w;exact rc.ne j k b d fs U t u w
 ·rcases zE g with⟨rfl,z,s⟩ | ⟨O,z⟩
  ·cases z
   refine⟨a,bs,IX (by rw[rc.len];exact s),n,λk d c l f=>?_⟩;rcases zE l with⟨_,z,_⟩ | ⟨p,U⟩
   ·cases z
   ·rw[IG (Ll p)]at f
    obtain⟨P,y,I,g2,J,_⟩:=r.rc.own k d U;rw[f]at I;cases I;intro F;rw[C c F]at J;cases J
  ·exact absurd z<|ZC Y j h
 ·rcases zE I with⟨rfl,_,_⟩ | ⟨_,U⟩
  ·rcases zE g2 with⟨rfl,_,_⟩ | ⟨_,t⟩
   ·rfl
   ·exact absurd t<|ZC Y k M
  ·exact absurd U<|ZC Y j L
 ·rcases zE I with⟨_,z,_⟩ | ⟨O,z⟩
  ·cases z
  ·rw[IG (Ll O)]at g2;exact r.fresh j d b z g2
 ·rcases zE I with⟨rfl,z,s⟩ | ⟨O,z⟩
  ·rw[IX (by rw[rc.len];exact s)]at g2;cases g2
   rw[n.ha]at J;injection J with J;injection J with J;subst J;refine⟨x a IQ,λb m=>?_⟩;obtain⟨c,B,q⟩:=Lh.mp m;cases q;exact x b<|IM _ B
  ·exact absurd z<|ZC Y j h
theorem RS.forget(r:RS K E0 E H0 H σ γ):RS K E0 E H0 H (σ.set i v) (γ.set i .no):=by
 have U : ∀{j:Nat} {e:List D} {b:eg},(γ.set i .no)[j]? = di (.own e)->γ[j]? = di (.own e)/\(σ.set i v)[j]? = σ[j]? :=λ{j e b} g=>by
  rcases zE g with⟨_,z,_⟩ | ⟨Y,z⟩
  ·cases z
  ·exact⟨z,IG<|Ll Y⟩
 have h : ∀{j:Nat} {d:List (List D)},(γ.set i .no)[j]? = di (.nest d)->γ[j]? = di (.nest d)/\(σ.set i v)[j]? = σ[j]? :=λ{j d} g=>by
  rcases zE g with⟨_,z,_⟩ | ⟨Y,z⟩
  ·cases z
  ·exact⟨z,IG<|Ll Y⟩
 refine⟨⟨r.rc.sub,by simp[r.rc.len],λj s g=>?_,λj e g=>?_,λj k b e fs l f o p=>?_,⟨λj d g=>?_,λj k x y O g2=>r.rc.m7.2 j k x y (h O).1 (h g2).1⟩⟩,r.ext,λj e b O g2=>?_,λj d b B O g2 g3=>?_⟩
 ·rcases zE g with⟨_,z,_⟩ | ⟨Y,z⟩
  ·cases z
  ·obtain⟨A,O,g2⟩:=r.rc.val j s z
   exact⟨A,by rw[IG (Ll Y)];exact O,g2⟩
 ·obtain⟨I,J⟩:=U (b:=0) g
  rw[J];exact r.rc.own j e I
 ·obtain⟨I,J⟩:=U (b:=0) l
  obtain⟨m,n⟩:=U (b:=0) f;rw[J]at o;rw[n]at p;exact r.rc.ne j k b e fs I m o p
 ·obtain⟨I,J⟩:=h g
  obtain⟨a,bs,t,u,w⟩:=r.rc.m7.1 j d I;refine⟨a,bs,by rw[J];exact t,u,λk e c l f=>?_⟩;obtain⟨m,n⟩:=U (b:=0) l;rw[n]at f;exact w k e c m f
 ·obtain⟨I,J⟩:=U (b:=0) O
  rw[J]at g2;exact r.fresh j e b I g2
 ·obtain⟨I,J⟩:=h O
  rw[J]at g2;exact r.t7 j d b B I g2 g3
theorem Yf : ∀{l:List eg} {m t:Nat} {b:eg},l.Nodup->l[m]? = di b->l[t]? = di b->m=t
 | [],m,t,b,_,h,_=>by simp at h
 | c::l,m,t,b,nd,h1,h2=>by
  obtain⟨a,I⟩:=Me.mp nd;cases m with
  | zero=>
   cases t with
   | zero=>rfl
   | succ t=>
    have e1:c=b:=by simpa using h1
    have z:l[t]? = di b:=by simpa using h2
    exact absurd (LB z)<|e1 ▸ a
  | succ m=>
   cases t with
   | zero=>
    have e1:c=b:=by simpa using h2
    have z:l[m]? = di b:=by simpa using h1
    exact absurd (LB z)<|e1 ▸ a
   | succ t=>exact congrArg (· + 1) (Yf (b:=b) I (by simpa using h1)<|by simpa using h2)
theorem RC.row{j i t:Nat}{R:List (List D)}{a b:eg}{bs:List eg}{row:List D}(r:RC K H0 H σ γ)(L:γ[j]? = di (.nest R))(hs:σ[j]? = di (di (.ref a)))(S:u6 K H0 H R a bs)
 (a1 : ∀(k:Nat) ds c,γ[k]? = di (.own ds)->σ[k]? = di (di (.ref c))->c∉a::bs) (C:bs[t]? = di b) (Z:R[t]? = di row) (hi:i<γ.length) :
 RC K H0 H (σ.set i<|some (.ref b)) ((γ.set j .no).set i (.own row)):=by
 obtain⟨p,w,b1,b2⟩:=S.row t b row C Z;have l:b∈a::bs:=IM _<|LB C;have U : ∀{k:Nat} {c:Cell},c ≠ .no->(γ.set j .no)[k]? = di c->γ[k]? = di c/\k≠j:=λ{k c} u g=>by
  rcases zE g with⟨_,z,_⟩ | ⟨J,z⟩
  ·exact absurd z u
  ·exact⟨z,J⟩
 refine⟨r.sub,by simp[r.len],λk d g=>?_,λk ds g=>?_,λk m c ds o s n Y e=>?_,o4.DW λk f g=>?_⟩
 ·rcases zE g with⟨_,z,_⟩ | ⟨J,z⟩
  ·cases z
  ·obtain⟨I,_⟩:=U ⋯ z
   rw[IG (Ll J)];exact r.val k d I
 ·rcases zE g with⟨rfl,z,x⟩ | ⟨J,z⟩
  ·cases z
   exact⟨b,w,IX (by rw[r.len];exact hi),p,b1,b2⟩
  ·obtain⟨I,_⟩:=U ⋯ z
   rw[IG (Ll J)];exact r.own k ds I
 ·rcases zE s with⟨rfl,_,_⟩ | ⟨J,I⟩
  ·rcases zE n with⟨rfl,_,_⟩ | ⟨h,O⟩
   ·rfl
   ·obtain⟨O,_⟩:=U ⋯ O
    rw[IX (by rw[r.len];exact hi)]at Y;rw[IG (Ll h)]at e;cases Y;exact absurd l<|a1 m o b O e
  ·obtain⟨I,_⟩:=U ⋯ I
   rcases zE n with⟨rfl,_,_⟩ | ⟨h,O⟩
   ·rw[IX (by rw[r.len];exact hi)]at e
    rw[IG (Ll J)]at Y;cases e;exact absurd l<|a1 k ds b I Y
   ·obtain⟨O,_⟩:=U ⋯ O
    rw[IG (Ll J)]at Y;rw[IG (Ll h)]at e;exact r.ne k m c ds o I O Y e
 ·rcases zE g with⟨_,z,_⟩ | ⟨J,z⟩
  ·cases z
  ·obtain⟨I,O⟩:=U ⋯ z
   exact O<|r.m7.2 k j f R I L
theorem RS.TQ(r:RS K E0 E H0 H σ γ)(J:γ[j]? = di (.nest R))(S:σ[j]? = di (di (.ref a)))(C:u6 K H0 H R a bs)
 (Z : ∀(k:Nat) ds c,γ[k]? = di (.own ds)->σ[k]? = di (di (.ref c))->c∉a::bs) (L:bs[t]? = di b) (h4:ej K H0 row' ys) :
 RS K E0 E H0 (upd H b<|.lst ys) σ (γ.set j<|.nest<|R.set t row'):=by
 have A:j<γ.length:=(IP.mp J).1;have i:b∈bs:=LB L;have x:b≠a:=λq=>(Me.mp C.nd).1 (by rw[<- q];exact i);obtain⟨s,_⟩:=C.at<|IM a i;obtain⟨P,y⟩:=r.t7 j R a _ J S C.ha;have Q:E b=d5:=y b<|Lh.mpr ⟨b,i,rfl⟩;have O : ∀{k:Nat} {c:Cell},(∀e,c ≠ .nest e)->(γ.set j<|.nest<|R.set t row')[k]? = di c->γ[k]? = di c:=λ{k c} U g=>by
  rcases zE g with⟨_,z,_⟩ | ⟨l,z⟩
  ·exact absurd z<|U _
  ·exact z
 refine⟨⟨λc o q=>?_,by simp[r.rc.len],λk d g=>r.rc.val k d<|O ⋯ g,λk ds g=>?_,λk m c ds T F G M N=>r.rc.ne k m c ds T (O ⋯ F) (O ⋯ G) M N,⟨λk e g=>?_,λk m r1 r2 I g2=>?_⟩⟩,⟨r.ext.s0,λc o q=>?_,λc o q=>?_,r.ext.new⟩,λk ds c I g2=>r.fresh k ds c (O ⋯ I) g2,λk e c p I g2 Y=>?_⟩
 ·rw[zK (λz=>by rw[z,s]at q;cases q)];exact r.rc.sub c o q
 ·have z:=O ⋯ g
  obtain⟨c,p,f,h,u,W⟩:=r.rc.own k ds z;refine⟨c,p,f,h,?_,W⟩;rw[zK (λq=>Z k ds c z f<|by rw[q];exact IM _ i)];exact u
 ·have l:k=j:=by
   rcases zE g with⟨z,_,_⟩ | ⟨_,z⟩
   ·exact z
   ·exact r.rc.m7.2 k j e R z J
  subst l;rw[IX A]at g;cases g;refine⟨a,bs,S,⟨C.a0,by rw[zK (Ll x)];exact C.ha,C.nd,by simp[C.len],λm c row U n=>?_⟩,λm ds c I g2=>Z m ds c (O ⋯ I) g2⟩;by_cases w:m=t
  ·subst w
   rw[L]at U;cases U;have:m<R.length:=by rw[<- C.len];exact(IP.mp L).1
   rw[IX this]at n;cases n;exact⟨s,ys,zO,h4⟩
  ·rw[IG (Ll w)]at n
   obtain⟨f,p,h,u⟩:=C.row m c row U n;have B:c≠b:=λq=>by subst q;have X:=(Me.mp C.nd).2;exact w<|Yf X U L
   exact⟨f,p,by rw[zK B];exact h,u⟩
 ·have f:k=j:=by
   rcases zE I with⟨z,_,_⟩ | ⟨_,z⟩
   ·exact z
   ·exact r.rc.m7.2 k j r1 R z J
  have h:m=j:=by
   rcases zE g2 with⟨z,_,_⟩ | ⟨_,z⟩
   ·exact z
   ·exact r.rc.m7.2 m j r2 R z J
  rw[f,h]
 ·rw[zK (λz=>by rw[z,Q]at q;cases q)];exact r.ext.s1 c o q
 ·rw[zK (λz=>by rw[z,s]at q;cases q)];exact r.ext.sub c o q
 ·have l:k=j:=by
   rcases zE I with⟨z,_,_⟩ | ⟨_,z⟩
   ·exact z
   ·exact r.rc.m7.2 k j e R z J
  subst l;rw[S]at g2;cases g2;rw[zK (Ll x),C.ha]at Y;injection Y with Y;injection Y with Y;subst Y;exact⟨P,y⟩
end
section
variable{K:Iy}{E0 E H0 H:Hp}{σ:St}{γ:Ctx}
theorem RS.freeze(r:RS K E0 E H0 H σ γ)(e:γ[i]? = di (.own ds)) : ∃C,RS K E0 E C H σ (γ.set i<|.val<|.lst ds):=by
 obtain⟨a,n,f,g,U,Y⟩:=r.rc.own i ds e;have h:=r.fresh i ds a e f;obtain⟨C,m,O⟩ : ∃C,C=upd H0 a (.lst n)/\RC K C H σ (γ.set i<|.val<|.lst ds):=by refine⟨_,rfl,?_⟩;exact RC.TL r.rc e f g U Y
 subst m;refine⟨_,O,⟨r.ext.s0.trans<|je g _,r.ext.s1,O.sub,λc l I=>?_⟩,λj k b J g2=>?_,λj d b o J g2 g3=>?_⟩
 ·rw[zK (λz=>by rw[z,h]at I;exact I rfl)];exact r.ext.new c l I
 ·rcases zE J with⟨_,z,_⟩ | ⟨_,z⟩
  ·cases z
  ·exact r.fresh j k b z g2
 ·rcases zE J with⟨_,z,_⟩ | ⟨_,z⟩
  ·cases z
  ·exact r.t7 j d b o z g2 g3
open Classical in
noncomputable def VB(H0 H:Hp)(L:List eg):Hp:=λc=>if c∈L then H c else H0 c
theorem XU(h:c∈L):VB H0 H L c=H c:=by unfold VB;rw[RY h]
theorem vR(h:c∉L):VB H0 H L c=H0 c:=by unfold VB;rw[EQ h]
theorem KL : ∀{C:List (List D)} {bs:List eg},bs.length=C.length->(∀(k:Nat) b row,bs[k]? = di b->C[k]? = di row->∃xs,G b=di (.lst xs)/\ej K G row xs)->ej K G (C.map D.lst) (bs.map V.ref)
 | [],[],_,_=>ej.nil
 | [],_::_,h,_=>by simp at h
 | _::_,[],h,_=>by simp at h
 | row::C,b::bs,h,f=>by obtain⟨xs,z,g2⟩:=f 0 b row rfl rfl;exact ej.cons (ZT (gm.of z) g2) (KL (by simpa using h) λk c r a I=>f (k+1) c r (by simpa using a)<|by simpa using I)
theorem RS.Tu(r:RS K E0 E H0 H σ γ)(e:γ[i]? = di (.nest rows)) : ∃C,RS K E0 E C H σ (γ.set i<|.val<|.lst<|rows.map D.lst):=by
 obtain⟨a,bs,s,l,w⟩:=r.rc.m7.1 i rows e;obtain⟨F,G⟩:=r.t7 i rows a _ e s l.ha;have ef : ∀b∈a::bs,E b=d5:=λb Y=>by
  rcases iU.mp Y with rfl | Y
  ·exact F
  ·exact G b<|Lh.mpr ⟨b,Y,rfl⟩
 have m:gR H0 (VB H0 H (a::bs)):=λc o q=>by rw[vR (λh=>by rw[(l.at h).1]at q;cases q)];exact q
 have sub:gR (VB H0 H (a::bs)) H:=λc o q=>by
  by_cases h:c∈a::bs
  ·rw[XU h]at q;exact q
  ·rw[vR h]at q;exact r.rc.sub c o q
 have N:Rep K (VB H0 H (a::bs)) (.lst<|rows.map D.lst) (.ref a):=ZT (gm.of<|by rw[XU IQ];exact l.ha) (KL l.len λk b row I g2=>by obtain⟨_,P,p,U⟩:=l.row k b row I g2;exact⟨P,by rw[XU (IM _<|LB I)];exact p,U.mono m⟩)
 have t : ∀{j:Nat} {J:List (List D)},(γ.set i<|.val<|.lst<|rows.map D.lst)[j]? ≠ di (.nest J):=λ{j J} g=>by
  rcases zE g with⟨_,z,_⟩ | ⟨n,z⟩
  ·cases z
  ·exact n<|r.rc.m7.2 j i J rows z e
 have O : ∀{j:Nat} {f:List D},(γ.set i<|.val<|.lst<|rows.map D.lst)[j]? = di (.own f)->γ[j]? = di (.own f):=λ{j f} g=>by
  rcases zE g with⟨_,z,_⟩ | ⟨n,z⟩
  ·cases z
  ·exact z
 refine⟨_,⟨sub,by simp[r.rc.len],λj d g=>?_,λj f g=>?_,λj k c f L x y A B=>r.rc.ne j k c f L (O x) (O y) A B,o4.DW λj J=>t⟩,⟨r.ext.s0.trans m,r.ext.s1,sub,λc p U=>?_⟩,λj f b I g2=>r.fresh j f b (O I) g2,λj J b u I=>absurd I t⟩
 ·rcases zE g with⟨rfl,z,Q⟩ | ⟨n,z⟩
  ·cases z;exact⟨_,s,N⟩
  ·obtain⟨v,I,g2⟩:=r.rc.val j d z
   exact⟨v,I,g2.mono m⟩
 ·obtain⟨b,u,I,g2,g3,M⟩:=r.rc.own j f (O g)
  exact⟨b,u,I,by rw[vR (w j f b (O g) I)];exact g2,g3,M.mono m⟩
 ·rw[vR (λh=>U<|ef c h)];exact r.ext.new c p U
end
section
variable{X:Cx}{st:kv}{F:CO Fl}
theorem Xz(i:Nat)(h:lN X st F):lN X st (iu i F):=ke h λD g H I=>by obtain⟨E0,E,d,f,J,O,z,U⟩:=I;obtain⟨e,b,z⟩:=zc z;obtain⟨a,Y⟩:=O.freeze<|xA b;exact⟨E0,E,a,_,J,Y,z,U⟩
theorem iQ(i:Nat)(h:lN X st F):lN X st (ir i F):=ke h λD g H I=>by obtain⟨E0,E,e,f,J,O,z,U⟩:=I;obtain⟨b,d,z⟩:=zc z;obtain⟨a,Y⟩:=O.Tu<|vW d;exact⟨E0,E,a,_,J,Y,z,U⟩
end
section
variable{X:Cx}{sc:hL}{N L:List Str}{k:Nat}
theorem iP(i:Nat)(h:SX X sc N L k)(c:yt sc N L i y=dn)
 (U:X.calm=dn) (ok:ri X scope fr) (Y : ∀i∈T.idx,i<own.length) (hi:rn X tg iter src) (hg : ∀fp S C,PG (js X scope (own++fr.map (·.1)) fp S C) tg<|p6 X.K T)
 (Z : ∀fp S C,PO (js X scope (own++fr.map (·.1)) fp S C) elt f) (hs : ∀x,o5 iter X.env x=pure x:=by intro _;rfl) :
 lN X (.Assign [.Name y py] (.ListComp elt [⟨tg,iter,[],0⟩] scope cpos) spos) (iq i<|Wn src T own.length (fr.map (·.2)) f):=by
 obtain⟨p,r,s⟩:=h.loc c;refine ke (wz (te:=tO X.K f) h.E9 p r s U ok hi hg (λ_ _ _=>XD) Z hs) λD l H I=>?_;obtain⟨E0,E,e,j,w,O,z,m⟩:=I;obtain⟨d,o,z⟩:=zc z;by_cases J:j.any QV=ed
 ·rw[RY J]at z;cases z
  exact bp Y (λl H Q I=>by obtain⟨e,j,b,rc,z,q⟩:=I;cases z;exact q H e<|Ext.refl rc.sub) l H _ ⟨e,j,d,O.rc,o,λa bs u g x t n=>m _ _ g<|O.T6 x t n J⟩
 ·rw[EQ J]at z;cases z
theorem cJ(z:i≠j)(c:Cell)(r:List D):((((γ.set j c).set i .no).set j .no).set i (.own r))=yA γ j i r:=by
 unfold yA;apply Mt;intro m;simp only[MS,List.length_set];by_cases a:i=m
 ·subst a;simp
 ·by_cases b:j=m
  ·subst b;simp[a]
  ·simp[a,b]
theorem Vq{γ:Ctx}{j i:Nat}(z:i≠j)(c I:Cell):(((γ.set j c).set i .no).set j I)=(γ.set j I).set i .no:=by rw[List.set_comm _ _ (Ll z),List.set_set,List.set_comm _ _ z]
theorem aC(j i:Nat){x y:Str}{bi C bl:hB}{U e:eA}{g f:CO D}{p pos c9:hB}(hp:O0 (e9 X.prog X.w) X.A X.env X.xe)(hc:X.calm=dn)(h:SX X sc N L k)(cj:JZ sc N j x=dn)(ci:JZ sc N i y=dn)
 (hg:PG X (.Name y bi) (yG i)) (hi:PV X U g) (he:PV X e f)
 (ha : ∀v,t4 (.Subscript (.Name y C) U p) X.env v=(do
   let ov <- sh [v] (fh (.Name y C) X.env);let iv <- sh [v,ov] (fh U X.env)
   DF p
   sh [v,ov,iv] (RG ov iv v)
   release [v,ov,iv] []):=by intro _;rfl)
 (hs:M3 [.Subscript (.Name y C) U p] e pos.line X.env=pure ed:=by rfl) (hw:RM [.Subscript (.Name y C) U p] e X.env=pure d5:=by rfl)
 (h1:(x6 [.Subscript (.Name y C) U p] X.env).map (·.2)=[t4 (.Subscript (.Name y C) U p) X.env]:=by rfl)
 (hf : ∀z,o5 (.Name x bl) X.env z=pure z:=by intro _;rfl) :
 lN X (.For (.Name y bi) (.Name x bl) [.Assign [.Subscript (.Name y C) U p] e pos] [] c9) (cF j i g f):=
 ke (nJ hp hc (de<|h.var cj) hg (cV<|Wx he (nK (h.var ci) hi Wh ha) hs hw h1) hf) λD u H hZ=>by
  obtain⟨E0,E,H0,o,fl,rs,Y,bm⟩:=hZ;obtain⟨l,e1,Y⟩:=zc Y;have e1:=vW e1;by_cases as:i=j\/o.length<=i
  ·rw[RY as]at Y;cases Y
  rw[EQ as]at Y;have B:i≠j:=λz=>as<|.inl z;have R:i<o.length:=by
   rcases IY i o.length with z | z
   ·exact z
   ·exact absurd (.inr z) as
  have bn:j<o.length:=(IP.mp e1).1;obtain⟨b6,e2,Y⟩:=zC Y;subst Y;obtain⟨a,bs,g1,hn,e5⟩:=rs.rc.m7.1 j l e1;refine⟨_,g1,a,.L,rfl,⟨_,gm.of hn.ha⟩,?_⟩;refine⟨λt m M H'=>m=l.length - t/\t<=l.length/\∃(r:Hp) (I kH:List (List DL.D)) (O:L2.St),I.length=t/\O[j]? = di (di (V.ref a))/\(∃v,M=O.set i v)/\H' a=di (.lst<|bs.map V.ref)/\RS X.K E0 E r H' M ((o.set j<|.nest<|I++l.drop t).set i .no)/\km j i g f o (l.drop t)=di kH/\b6=I++kH,
   ⟨_,rfl,LL _,H0,[],b6,u,rfl,g1,⟨u[i]?.getD d5,?_⟩,hn.ha,?_,e2,rfl⟩,?_⟩
  ·apply Mt
   intro m;rw[MS];by_cases z:i=m
   ·subst z
    have:i<u.length:=by rw[rs.rc.len];exact R
    simp[this]
   ·simp[z]
  ·have:=rs.forget (i:=i) (v:=u[i]?.getD d5)
   have es:u.set i (u[i]?.getD d5)=u:=by
    apply Mt;intro m;rw[MS];by_cases z:i=m
    ·subst z
     have:i<u.length:=by rw[rs.rc.len];exact R
     simp[this]
    ·simp[z]
   rw[es]at this;have ec:o.set j (.nest l)=o:=by
    apply Mt;intro m;rw[MS];by_cases z:j=m
    ·subst z;rw[RY rfl,RY bn,e1]
    ·simp[z]
   simpa[ec]using this
  rintro t m M H' ⟨rfl,ht,r,I,kH,O,bv,S,⟨v0,rfl⟩,T,W,J,er⟩;have ax:((o.set j<|.nest<|I++l.drop t).set i .no)[j]? = di (.nest<|I++l.drop t):=by rw[IG B,IX bn]
  obtain⟨a',s,q1,b7,cw⟩:=W.rc.m7.1 j _ ax;rw[IG B,S]at q1;cases q1;have cy:s=bs:=by have:=b7.ha;rw[T]at this;injection this with this;injection this with this;exact(k4 this).symm
  subst cy;have d0:s.length=l.length:=by rw[b7.len];simp;omega
  by_cases c2:t<l.length
  ·have Q:s[t]? = di (s[t]'⋯):=ID ⋯
   generalize s[t]'⋯=b at Q;have b8:l.drop t=l[t]::l.drop (t+1):=MN c2;refine .inr ⟨⟨_,.ref b,gm.of T,by rw[Le,Q];rfl⟩,λP H2=>t+1<=l.length/\∃(r:Hp) (I kH:List (List DL.D)) (O:L2.St),I.length=t+1/\O[j]? = di (di (V.ref a))/\(∃v,P=O.set i v)/\H2 a=di (.lst<|s.map V.ref)/\RS X.K E0 E r H2 P ((o.set j<|.nest<|I++l.drop (t+1)).set i .no)/\km j i g f o (l.drop<|t+1)=di kH/\b6=I++kH,λP H2 n=>⟨l.length - (t+1),by omega,rfl,n.1,n.2⟩,λxv H2 yl=>?_⟩;obtain⟨rfl,yl⟩:=yl;have d2:xv = .ref b:=by have:=yl _<|gm.of T;rw[Le,Q]at this;exact(Lq this).symm
   subst d2;rw[b8]at J;simp only[km]at J;obtain⟨d,f1,J⟩:=zc J;obtain⟨kk,f2,J⟩:=zc J;obtain⟨dk,f3,f2⟩:=zc f2;obtain⟨G,f4,J⟩:=zc J;obtain⟨d7,f5,J⟩:=zC J;have d9:(I++l.drop t)[t]? = di l[t]:=by rw[b8,Lz ⋯,bv];simp
   have F:(O.set i v0).set i (di (.ref b))=O.set i (di (.ref b)):=List.set_set ..;have b0:=W.rc.row (i:=i) ax (by rw[IG B];exact S) b7 cw Q d9 (by simp;exact R);rw[cJ B,F]at b0;show ∃_,_;refine⟨r,yA o j i l[t],d,?_,f1,λv H3 db x3 r3=>?_⟩
   ·rw[F];exact b0
   have c3:=b0.ext x3;obtain⟨Z,xs,p1,p2,p3,p4⟩:=c3.own i l[t] (by unfold yA;rw[IX (by simpa using R)]);have dj:Z=b:=by
    rw[IX (by
     have:=b0.len;simp[yA]at this;rw[this];exact R)]at p1
    cases p1;rfl
   subst dj;refine⟨_,by rw[F];exact p1,db,yA o j i l[t],dk,by rw[F];exact c3,f3,λv2 H4 dp x4 r4=>?_⟩;rw[jC f2]at r4;refine⟨Z,xs,kk,G,rfl,jq r4,x4.s1 _ _ p3,by rw[p4.length];exact WT f4,?_⟩;have dr:=(W.step x3).step x4;have bf:=dr.forget (i:=i) (v:=di (.ref Z));have dt:(((o.set j<|.nest<|I++l.drop t).set i .no).set i .no)=((o.set j<|.nest<|I++l.drop t).set i .no):=List.set_set ..;rw[dt,F]at bf;obtain⟨a2,bs2,w1,bg,dv⟩:=bf.rc.m7.1 j _ ax;rw[IG B,S]at w1;cases w1;have c7:H4 a=di (.lst<|s.map V.ref):=x4.s1 _ _<|x3.s1 _ _ T;have dy:bs2=s:=by have:=bg.ha;rw[c7]at this;injection this with this;injection this with this;exact(k4 this).symm
   subst dy;have c8:=bf.TQ (t:=t) (row':=l[t].set G d) (ys:=xs.set G v) ax (by rw[IG B];exact S) bg dv Q<|(p4.mono x4.s0).set G (r3.mono x4.s0);have e0:a≠Z:=λq=>(Me.mp bg.nd).1 (by rw[q];exact LB Q);refine⟨c2,dp,I++[l[t].set G d],d7,O,by simp[bv],S,⟨di (.ref Z),F⟩,by rw[zK e0];exact c7,?_,f5,by rw[er,<- J];simp⟩;rw[F];have eR:(I++l.drop t).set t (l[t].set G d)=(I++[l[t].set G d])++l.drop (t+1):=by rw[b8,List.set_append_right _ _ ⋯,show t - I.length=0 by omega,List.append_assoc];rfl
   rw[eR,Vq B]at c8;exact c8
  ·have et:t=l.length:=by omega
   subst et;rw[Ob]at J;cases J;rw[Ob]at W;refine .inl ⟨⟨_,gm.of T,by simp[d0]⟩,?_⟩;rw[er]at bm;exact bm _ _ r W
end
end DL
namespace L2
open PySem PySem.Spec PyProof.Rows
noncomputable def ES(K:Iy):V->List V->Hp->VK->Prop:=λx d H Q=>∃z p b,x = .str z/\d=[.ref p]/\gm K H p (b.map V.str)/\Builtin.Str.tooLong (b.toArray.foldl (λa p=>a+p.length+z.length) 0)=ed/\Q (.str<|Rh z b) H
theorem Kn : ∀{C:List Str} {us:List eh},fy (C.map V.str) us->∃l:List (Str×Tok),strValues l=us/\l.map (·.1)=C
 | [],us,r=>by cases r;exact⟨[],rfl,rfl⟩
 | z::C,u::us,.cons r t=>by obtain⟨I,rfl⟩:=r;obtain⟨l,rfl,h⟩:=Kn t;exact⟨(z,I)::l,rfl,by simp[h]⟩
theorem rV{X:Cx}:N8 X "str.join" (ES X.K):=by intro a s u H x j v i Q I O U h;obtain⟨z,p,n,rfl,rfl,Y,J,q⟩:=h;obtain⟨t,rfl⟩:=O;obtain⟨m,rfl,rw⟩:=yq U;cases rw;obtain⟨f,r,d,g⟩:=I.list Y;obtain⟨l,rfl,e⟩:=Kn r;subst e;refine Nd F.slot_str_join (SN _ _ _) F.entry_str_join (F.args_str_join_2 _ _) (meets_str_join_list z t p l J) ⟨d.isList,post_join l ⟨joinFit_length J,λt' k=>?_⟩⟩;refine⟨.str (Rh z (l.map (·.1))),H,(I.kept (h':=s.heap) (t':=k) λb o e=>e),⟨t',?_⟩,q⟩;show Pu (Builtin.Str.glued z (l.map (·.1))) t'=_;rw[StrLaws.glued_eq_join]
end L2
namespace DL
open PySem PySem.Spec PyProof.Rows L2
theorem Kw{K:Iy}{H:Hp} : ∀{ds:List D} {xs:List V} {l:List Str},ej K H ds xs->Kx ds=di l->xs=l.map V.str
 | [],xs,l,r,e=>by cases e;rw[show xs=[]from r];rfl
 | d::ds,xs,l,r,e=>by
  obtain⟨x,g,rfl,z,b⟩:=(show ∃x r,xs=x::r/\Rep K H d x/\ej K H ds r from r);cases d with
  | str i=>
   obtain⟨f,a,rfl⟩:=zC (show(Kx ds).map (λl=>i::l)=di l from e);rw[Kw b a,show x = .str i from z];rfl
  | _=>cases e
section
variable{X:Cx}{sc:hL}{N L:List Str}{k:Nat}{o e a b:eA}{apos cpos pos p:hB}{f g:CO D}{q:CO (Sk×List D)}
theorem Xs(h:jW x=dn):x.length<=1000:=of_decide_eq_true h
theorem QJ(h:jW x=dn):x.length<=f6:=LN (Xs h) ⋯
theorem cP(U:PV X o f)(Y:PQ X e q)(C:En o "join" X.env (fh o X.env)=fh o X.env:=by rfl)
 (S:((p5 cpos<|starEach [e] X.env).all (λx=> !x.1) && (E1 cpos<|keywordEach [] X.env).all (λx=>x.1.isSome) && decide ([e].length+([]:List u4).length+(if ([]:List u4).isEmpty then 0 else 1)<30))=dn:=by rfl)
 (Z:(apos.endLine==cpos.line)=dn:=by rfl) (O:gv [e] X.env=[(ed,fh e X.env)]:=by rfl):PV X (.Call (.Attribute o "join" apos) [e] [] cpos) (pJ f q):=
 j9 (dA PySem.F.plainAttrs_str PySem.F.slot_str_join PySem.F.type_str_join rV U (jz Y qy O) C S Z O rfl) λσ H Q A=>by
  obtain⟨h,g,d,rc,z,K⟩:=A;obtain⟨k,n,z⟩:=zc z;obtain⟨⟨G,m⟩,p,z⟩:=zc z;cases k with
  | str J=>
   cases G with
   | L=>
    obtain⟨l,s,z⟩:=zc z;by_cases I:l.length<=lim/\l.all jW=dn/\jW J=dn
    ·rw[RY I]at z;cases z
     refine⟨h,g,_,rc,n,λv P b x r=>?_⟩;rw[show v = .str J from r];refine⟨rfl,b,g,.L,m,rc.ext x,p,λa xs i j N u R M=>?_⟩;have t:=Kw M s;subst t;refine⟨J,a,l,rfl,rfl,u,StrLaws.joinFits (B:=1000) (λy E=>Xs<|MJ.mp I.2.1 y E) ?_,K _ i j (x.trans N) rfl⟩;have W:=I.1;have:lim=2500:=rfl;have w:=Xs I.2.2;have:l.length*J.length<=2500*1000:=Nat.mul_le_mul ⋯ w;omega
    ·rw[EQ I]at z;cases z
   | T=>cases z
  | _=>cases z
theorem vE(C:PV X a f)(U:PV X b g)(Y:VY b:=by intro _ _;rfl):PV X (.Subscript a b pos) (kE f g):=
 j9 (AO Bx C U Y) λG H Q A=>by
  obtain⟨m,l,d,rc,I,q⟩:=A;obtain⟨p,t,I⟩:=zc I;obtain⟨i,J,I⟩:=zc I;obtain⟨s,u,J⟩:=zc J;cases p with
  | str z=>
   by_cases O:jW z=dn
   ·have I:(if jW z=dn then (g9 z.cps.toList.length i).bind λk=>z.cps.toList[k]?.map λc=>D.str ⟨#[c]⟩else d5)=di d:=I
    rw[RY O]at I;obtain⟨j,w,I⟩:=zc I;obtain⟨c,y,rfl⟩:=zC I;refine⟨m,l,_,rc,t,λv E e x r=>⟨e,l,s,rc.ext x,u,λF n o B h=>?_⟩⟩;rw[jC J]at h;refine⟨z,i,c,r,jq h,QJ O,?_,q _ n o (x.trans B) rfl⟩;unfold C9;rw[WT w];exact y
   ·have I:(if jW z=dn then (g9 z.cps.toList.length i).bind λk=>z.cps.toList[k]?.map λc=>D.str ⟨#[c]⟩else d5)=di d:=I
    rw[EQ O]at I;cases I
  | _=>cases I
theorem ZW(h:SX X sc N L k)(c:vd sc "len" = dn)(z:X.mg "len" = d5)(C:PV X e f)(O:gv [e] X.env=[(ed,fh e X.env)]:=by rfl):PV X (.Call (.Name "len" p) [e] [] pos) (yx f):=
 j9 (kY YI (h.gl c).1 z PySem.boot_len (jz C qy O) ⋯ ⋯ O rfl) λl H Q U=>by
  obtain⟨g,j,d,rc,I,q⟩:=U;obtain⟨Y,i,I⟩:=zc I;cases Y with
  | str z=>
   by_cases J:jW z=dn
   ·have I:(if jW z=dn then di (D.int z.length)else d5)=di d:=I
    rw[RY J]at I;cases I;refine⟨g,j,_,rc,i,λv b a x r=>⟨z,by rw[show v = .str z from r],QJ J,q _ b a x rfl⟩⟩
   ·have I:(if jW z=dn then di (D.int z.length)else d5)=di d:=I
    rw[EQ J]at I;cases I
  | _=>cases I
end
section
variable{X:Cx}{sc:hL}{N L:List Str}{k:Nat}{b:eA}{f:CO D}
theorem QM(h:SX X sc N L k)(c:vd sc "min" = dn)(z:X.mg "min" = d5)(C:PV X a f)(Y:PV X b g)(U:gv [a,b] X.env=[(ed,fh a X.env),(ed,fh b X.env)]:=by rfl)(J:gv [b] X.env=[(ed,fh b X.env)]:=by rfl) :
 PV X (.Call (.Name "min" p) [a,b] [] pos) (Xv f g):=
 j9 (kY (fS h.calm) (h.gl c).1 z PyProof.Rows.boot_min (jz C (jz Y qy J)<|by rw[U,J]) ⋯ ⋯ (by rw[U,J]) (by rw[J];rfl)) λK H Q B=>by obtain⟨o,n,d,rc,I,q⟩:=B;obtain⟨i,l,I⟩:=zc I;obtain⟨u,y,l⟩:=zc l;obtain⟨j,O,I⟩:=zC I;obtain⟨w,A,O⟩:=zc O;subst I;refine⟨o,n,u,rc,y,λv F e x r=>⟨e,n,w,rc.ext x,A,λG s t E m=>⟨i,j,?_,q _ s t (x.trans E) rfl⟩⟩⟩;rw[jC l]at r;rw[jC O]at m;rw[jq r,jq m]
end
noncomputable def Fc(c:Xn)(C:Option eg)(H0:Hp):Prop:=match c.2 with
 | none=>C=d5
 | some i=>∃d,C=di d/\H0 d=di (.xd [(HV c.1,.int i)])
noncomputable def Sx(K:Iy)(n:Nat)(G:List D->Option Xn):Sp:=λg H _ E=>∃b d c,gR b H/\ej K b d g/\d.length=n/\G d=di c/\
 ∀C e a f,Gn K=dn->c.1∈N1->ug K c.1=di C->Fc c f a->Ext b H a e->E (.ref C) f e
section ap
variable(γ:Ctx)
@[simp] noncomputable def W9:=@zF.eq_1
@[simp] noncomputable def JN:=@jX.eq_1
@[simp] noncomputable def yc:=@jF.eq_1
@[simp] noncomputable def ou:=@zf.eq_1
@[simp] noncomputable def Kd:=@zg.eq_1
@[simp] theorem BV(d):zu d γ=di d:=rfl
@[simp] noncomputable def YX:=@zG.eq_1
@[simp] noncomputable def tI:=@sB.eq_1
@[simp] noncomputable def tH:=@aw.eq_1
@[simp] noncomputable def GS:=@Y4.eq_1
@[simp] noncomputable def FQ:=@xf.eq_1
@[simp] noncomputable def Cc:=@nC.eq_1
@[simp] noncomputable def HW:=@T5.eq_1
@[simp] noncomputable def GT:=@Cq.eq_1
@[simp] noncomputable def oz:=@cE.eq_1
@[simp] theorem aa:zD γ=di []:=rfl
@[simp] noncomputable def jG:=@zb.eq_1
@[simp] noncomputable def YU:=@qB.eq_1
@[simp] noncomputable def FV:=@qr.eq_1
@[simp] noncomputable def FR:=@qg.eq_1
@[simp] noncomputable def wc:=@jV.eq_1
@[simp] noncomputable def gi:=@kF.eq_1
@[simp] noncomputable def FO:=@J2.eq_1
@[simp] noncomputable def Ha:=@Il.eq_1
@[simp] noncomputable def Gg:=@pL.eq_1
@[simp] noncomputable def YW:=@i0.eq_1
@[simp] noncomputable def Xd:=@jj.eq_1
@[simp] noncomputable def FM:=@xw.eq_1
@[simp] noncomputable def Gd:=@pK.eq_1
@[simp] noncomputable def kO:=@ql.eq_1
@[simp] noncomputable def gk:=@zB.eq_1
@[simp] noncomputable def ab:=@jr.eq_1
@[simp] noncomputable def Ke:=@zL.eq_1
@[simp] noncomputable def gj:=@zW.eq_1
@[simp] noncomputable def BU:=@wt.eq_1
@[simp] noncomputable def GP:=@Y9.eq_1
@[simp] noncomputable def Xe:=@vt.eq_1
@[simp] noncomputable def qA:=@zS.eq_1
@[simp] theorem GQ:jt γ=di dn:=rfl
@[simp] noncomputable def Gi:=@KJ.eq_1
@[simp] noncomputable def FP:=@pI.eq_1
@[simp] noncomputable def QC:=@d8.eq_1
@[simp] noncomputable def Ed:=@Wm.eq_1
@[simp] theorem GU:bC γ=di d5:=rfl
@[simp] noncomputable def HY:=@o8.eq_1
@[simp] noncomputable def BS:=@Wl.eq_1
@[simp] noncomputable def GV:=@vh.eq_1
@[simp] noncomputable def HX:=@t8.eq_1
@[simp] noncomputable def GW:=@Ij.eq_1
@[simp] noncomputable def bw:=@jf.eq_1
@[simp] noncomputable def BW:=@Va.eq_1
@[simp] noncomputable def YV:=@gH.eq_1
@[simp] noncomputable def Hd:=@EM.eq_1
@[simp] noncomputable def Hc:=@tW.eq_1
@[simp] noncomputable def FZ:=@KI.eq_1
@[simp] noncomputable def FU:=@KH.eq_1
@[simp] noncomputable def FK:=@pH.eq_1
theorem jm(F G):zH F G γ=(F γ).bind λz=>match z with
 | .next a=>G a
 | f=>di f:=rfl
end ap
@[simp] theorem BQ(ds):jA (.tup ds)=di (.T,ds):=rfl
@[simp] theorem GM(ds):jA (.lst ds)=di (.L,ds):=rfl
@[simp] theorem JG(d):fQ (di (.val d))=di d:=rfl
@[simp] theorem vo(d):vp (di (.val d))=jA d:=rfl
@[simp] theorem sQ(d):vp (di (.own d))=di (.L,d):=rfl
@[simp] theorem sT(d):qJ (di (.own d))=di d:=rfl
@[simp] theorem sR(d):VQ (di (.val d))=di (.ret<|.val d):=rfl
@[simp] theorem sS(d):VQ (di (.own d))=di (.ret<|.own d):=rfl
@[simp] theorem GO(b):qq (.bl b)=di b:=rfl
@[simp] theorem JK(b):l6 (.int b)=di b:=rfl
@[simp] theorem Cw(d):Cz (.val d)=d:=rfl
@[simp] theorem Cy(d):Cz (.own d) = .lst d:=rfl
@[simp] theorem Cv(d):Ac (.own d)=di d:=rfl
@[simp] theorem CP(i j):JE (.int i) (.int j)=di (.int<|i - j):=rfl
@[simp] theorem CV(i j):qx (.int i) (.int j)=di (.int<|i+j):=rfl
@[simp] theorem CT(i j):ky (.int i) (.int j)=if 0<j then di (.int<|i%j)else d5:=by show(if CZ i j=dn then _ else _)=_;simp[CZ]
@[simp] theorem CU(i j):QB (.int i) (.int j)=if 0<j/\j<1073741824 then di (.int<|i/j)else d5:=by
 show(if BN i j=dn then _ else _)=_;have e:(BN i j=dn)=(0<j/\j<1073741824):=by unfold BN;rw[IS,decide_eq_true_eq,decide_eq_true_eq];apply propext;constructor<;>intro h<;>exact⟨h.1,by omega⟩
 simp only[e]
@[simp] theorem CS(i j):ve (.int i) (.int j)=if Kc i j=dn then di (.int<|i*j)else d5:=rfl
@[simp] theorem CQ(i j):sJ (.int i) (.int j)=if BM i j=dn then di (.int<|i ^ j.toNat)else d5:=rfl
@[simp] theorem Fz(i j):z4 (.int i) (.int j)=di (.bl<|decide<|i<j):=rfl
@[simp] theorem FA(i j):o3 (.int i) (.int j)=di (.bl<|decide<|i<=j):=rfl
@[simp] theorem FB(i j):qs (.int i) (.int j)=di (.bl<|decide<|j<i):=rfl
@[simp] theorem FC(i j):Sd (.int i) (.int j)=di (.bl<|decide<|j<=i):=rfl
@[simp] theorem FD(i j):h7 (.int i) (.int j)=di (.bl<|decide<|i=j):=by unfold h7;rw[RY ⟨rfl,rfl⟩];exact congrArg (λb=>di (D.bl b)) (by rw[Mu];simp[hH])
@[simp] theorem Fy(i j):i8 (.int i) (.int j)=di (.bl<|!decide (i=j)):=by unfold i8;rw[RY ⟨rfl,rfl⟩];exact congrArg (λb=>di (D.bl !b)) (by rw[Mu];simp[hH])
@[simp] theorem uL(i is d ds γ):qS (i::is) (d::ds) γ=qS is ds (γ.set i<|.val d):=rfl
@[simp] theorem uK(ds γ):qS [] ds γ=γ:=by cases ds<;>rfl
@[simp] theorem W8(i d γ):xQ (.nm i) d γ=di (γ.set i<|.val d):=rfl
@[simp] theorem BP(i j a b γ):xQ (.tp [i,j]) (.tup [a,b]) γ=di ((γ.set i<|.val a).set j (.val b)):=rfl
@[simp] theorem ip(γ:Ctx)(G:CO Fl):(di (Fl.next γ)).bind (λz=>match z with
 | .next γ'=>G γ'
 | f=>di f)=G γ:=rfl
theorem fW(i j:Int)(C : -(2 ^ 64)<j)(I:j<2 ^ 64):Kc i j=dn:=by unfold Kc;rw[Mf];right;exact decide_eq_true ⋯
theorem vY(i j:Int)(C : -(2 ^ 64)<i)(I:i<2 ^ 64):Kc i j=dn:=by unfold Kc;rw[Mf];left;exact decide_eq_true ⋯
theorem Yv(C : -(2 ^ 62)<i)(I:i<2 ^ 62):inR i=dn:=by unfold inR;exact decide_eq_true ⋯
@[simp] theorem qm(n k:Nat):g9 n (k:Int)=if k<n then di k else d5:=by
 unfold g9;by_cases h:k<n
 ·rw[RY ⟨Int.natCast_nonneg k,by omega⟩,RY h];simp
 ·rw[EQ ⋯,EQ ⋯,EQ h]
theorem jv:lim=2500:=rfl
@[simp] theorem CM:0<=lim:=LL _
@[simp] theorem CK:1<=lim:=by decide
@[simp] theorem CJ:2<=lim:=by decide
@[simp] theorem CI:3<=lim:=by decide
@[simp] theorem CH:4<=lim:=by decide
@[simp] theorem CG:5<=lim:=by decide
@[simp] theorem CF:6<=lim:=by decide
@[simp] theorem CD:7<=lim:=by decide
@[simp] theorem CC:8<=lim:=by decide
@[simp] theorem CB:0<lim:=by decide
@[simp] theorem Jr(h:n<=lim):inR (n:Int)=dn:=Yv ⋯ (by have:=jv;omega)
@[simp] theorem Ur(n:Nat):g9 (n+1) 0=di 0:=qm (n+1) 0 ▸ rfl
@[simp] theorem Us(n:Nat):g9 (n+2) 1=di 1:=by have:=qm (n+2) 1;simpa using this
@[simp] theorem TH(n:Nat):g9 (n+3) 2=di 2:=by have:=qm (n+3) 2;simpa using this
theorem zy(r:α->D) : ∀(l:List α),(∀x∈l,zU T k f γ [g x]=di [r x])->zU T k f γ (l.map g)=di (l.map r)
 | [],_=>rfl
 | x::l,h=>by
  have a:=h x IQ;have i:=zy r l λy z=>h y<|IM _ z;simp only[Ld,zU]at a ⊢;cases e1:xQ T (g x) γ with
  | none=>rw[e1]at a;simp at a
  | some d=>
   rw[e1]at a;simp only[IL]at a ⊢;cases e2:k d with
   | none=>rw[e2]at a;simp at a
   | some b=>
    rw[e2]at a;simp only[IL]at a ⊢;cases b with
    | false=>simp at a
    | true=>
     simp only[RY]at a ⊢;cases e3:f d with
     | none=>rw[e3]at a;simp at a
     | some e=>
      rw[e3]at a;simp at a;rw[i];simp[a]
theorem zA(C:xQ T d γ=di γ1)(I:k γ1=di dn)(z:f γ1=di e):zU T k f γ [d]=di [e]:=by simp[zU,C,I,z]
theorem qi(T F d ds γ):xP T F (d::ds) γ=(xQ T d γ).bind λγ1=>(F γ1).bind λI=>match I with
 | .next z=>xP T F ds z
 | .cont z=>xP T F ds z
 | .brk z=>di (.next z)
 | .ret r=>di (.ret r):=rfl
theorem Jw(P:Nat->Ctx->Prop) : ∀(ds:List D) (k:Nat) (γ:Ctx),P k γ->(∀i d γ,ds[i]? = di d->P (k+i) γ->∃γ',((xQ T d γ).bind F=di (.next γ')\/(xQ T d γ).bind F=di (.cont γ'))/\P (k+i+1) γ')->
 ∃γ',xP T F ds γ=di (.next γ')/\P (k+ds.length) γ'
 | [],k,γ,h,_=>⟨γ,rfl,h⟩
 | d::ds,k,γ,h,step=>by
  obtain⟨a,e,f⟩:=step 0 d γ rfl h;obtain⟨γ',z,g⟩:=Jw P ds (k+1) a (by simpa using f) (λi b I j J=>by have:=step (i+1) b I (by simpa using j) (by rw[show k+(i+1)=k+1+i by omega];exact J);rw[show k+(i+1)+1=k+1+i+1 by omega]at this;exact this)
  refine⟨γ',?_,by rw[show k+(d::ds).length=k+1+ds.length by simp;omega];exact g⟩;rw[qi];cases eb:xQ T d γ with
  | none=>rw[eb]at e;simp at e
  | some O=>
   rw[eb]at e;simp only[IL]at e ⊢;rcases e with e | e<;>rw[e]<;>exact z
noncomputable def zJ(n:Nat)(f:Nat->Int):List D:=(Iz n).map λi=>D.int<|f i
theorem jh(n f):zJ n f=(Iz n).map λi=>D.int (f i):=rfl
noncomputable def z5(h w:Nat)(f:RK):List D:=(Iz h).map λi=>D.tup<|zJ w<|f i
noncomputable def xk(h w:Nat)(f:RK):D:= .tup [.int h,.int w,.tup (z5 h w f)]
@[simp] theorem X5(n f):(zJ n f).length=n:=by simp[zJ]
@[simp] theorem mE(h w f):(z5 h w f).length=h:=by simp[z5]
@[simp] theorem Fv(f)(h:i<(zJ n f).length):(zJ n f)[i] = .int (f i):=by simp[zJ]
theorem Zp(f)(h:i<n):(zJ n f)[i]? = di (.int<|f i):=by simp[zJ,h]
@[simp] theorem Fw(f)(hi:i<(z5 h w f).length):(z5 h w f)[i] = .tup (zJ w<|f i):=by simp[z5]
theorem k9(h : ∀i,i<n->f i=g i):zJ n f=zJ n g:=by unfold zJ;apply IZ;intro i a;rw[h i (IC.mp a)]
theorem W1(e : ∀i j,i<h->j<w->f i j=g i j):z5 h w f=z5 h w g:=by unfold z5;apply IZ;intro i a;rw[k9 λj z=>e i j (IC.mp a) z]
theorem jY(n:Nat):kg 0 n=zJ n λi=>(i:Int):=by simp[kg,zJ]
theorem Xi(n:Nat)(f g:Nat->Int):JY (zJ n f) (zJ n g)=(Iz n).map λi=>D.tup [.int (f i),.int (g i)]:=by unfold JY zJ;rw[Of];simp
theorem gL(n w:Nat)(f g:RK):JY (z5 n w f) (z5 n w g)=(Iz n).map λi=>D.tup [.tup (zJ w<|f i),.tup (zJ w<|g i)]:=by unfold JY z5;rw[Of];simp
noncomputable def zl(f:Nat->Int):Nat->Int
 | 0=>0
 | n+1=>zl f n+f n
theorem ZI : ∀(xs:List Int) (y:Int),Y6 (xs.map D.int++[.int y])=(Y6<|xs.map D.int).map λs=>s+y
 | [],y=>by simp[Y6]
 | x::xs,y=>by simp only[Ld,PZ,Y6];rw[ZI xs y];cases e:Y6 (xs.map D.int)<;>simp[Int.add_assoc]
theorem ZH(f:Nat->Int) : ∀n,Y6 (zJ n f)=di (zl f n)
 | 0=>rfl
 | n+1=>by
  have z:=ZH f n;have e : ∀m,zJ m f=((Iz m).map f).map D.int:=λm=>by simp[zJ]
  rw[e]at z ⊢;rw[MD,LV,LV,List.map_singleton,List.map_singleton,ZI,z];simp[zl]
noncomputable def xG:=ja 2<|jV<|jf<|jF<|zS (zL<|zg 1) (.nm 0) 1 [0] jt (zG ky (zf 0)<|zf 1)
noncomputable def VZ:=ja 3<|jV<|zB xG<|zb (zf 0)<|zb (jX<|zS (zL<|zF<|d8 (zg 1)<|zu<|.int 2) (.nm 0) 1 [2] jt (gH<|jF<|zS (Y9 (zf 0)<|zf 1) (.tp [0,1]) 2 [] jt (zG ve (zf 0)<|zf 1))) zD
noncomputable def qc:=ja 2<|zH (jj 1<|jX<|zS (zW<|d8 (zg 0)<|zu<|.int 1) (.nm 0) 1 [0] jt (jf<|jF<|zS (zL<|zF<|d8 (zg 1)<|zu<|.int 2) (.nm 0) 1 [0] jt (d8 (zg 0)<|zf 1)))<|jV<|qB<|zb (d8 (zg 0)<|zu<|.int 1)<|zb (d8 (zg 0)<|zu<|.int 0)<|zb (jf<|zg 1) zD
noncomputable def xZ:=ja 4<|zH (jj 3<|zB qc<|zb (zf 2) zD)<|jV<|qB<|zb (d8 (zg 1)<|zu<|.int 0)<|zb (d8 (zg 2)<|zu<|.int 1)<|zb (jf<|jF<|zS (zL<|zF<|d8 (zg 1)<|zu<|.int 2) (.nm 0) 1 [0,3] jt (zB VZ<|zb (zf 1)<|zb (zf 2)<|zb (zf 0) zD)) zD
noncomputable def j7:=ja 2<|zH (jj 1<|jX<|zS (zW<|zf 0) (.nm 0) 1 [0] jt (jf<|jF<|zS (zW<|zf 1) (.nm 0) 1 [0] jt (cE (sB<|zG h7 (zf 1)<|zf 0) (zu<|.int 1)<|zu<|.int 0)))<|jV<|qB<|zb (zf 0)<|zb (zf 0)<|zb (jf<|zg 1) zD
noncomputable def QD:=ja 2<|jV<|qB<|zb (zf 0)<|zb (zf 1)<|zb (zG ve (qB<|zb (zG ve (qB<|zb (zu<|.int 0) zD)<|zf 1) zD)<|zf 0) zD
noncomputable def qK:=ja 1<|jV<|nC (t8 .int<|zf 0)<|Cq<|t8 .bool<|zf 0
noncomputable def wg:=ja 3<|zH (vt (wt (zu<|.int 1)<|zf 0) (.nm 2)<|i0 (sB<|zG h7 (zG ky (zG ve (zf 1)<|zf 2)<|zf 0)<|zu<|.int 1) (J2 2) qg) KG
noncomputable def qG:=ja 5<|zH (jj 4<|d8 (zg 1)<|zf 3)<|zH (i0 (sB<|zG h7 (zf 4)<|zu<|.int 0) (J2 1) qg)<|jV<|zB xG<|zb (zf 0)<|zb (jX<|zS (Y9 (zf 1)<|zf 2) (.tp [0,1]) 2 [4] jt (zG JE (zf 0)<|zG ve (zf 2)<|zf 1)) zD
noncomputable def qH:=ja 9<|zH (jj 3<|jX<|zS (zL<|zg 2) (.nm 0) 1 [0] jt (zB xG<|zb (zf 1)<|zb (zf 0) zD))<|zH (xw 4<|qr zD)<|zH (vt (zW<|zf 1) (.nm 5)<|zH (jj 6<|jX<|zS (zL<|zg 3) (.nm 0) 1 [5] (sB<|zG i8 (d8 (zg 0)<|zf 1)<|zu<|.int 0) (zf 0))<|zH (i0 (xf<|pH<|zg 6) pL qg)<|zH (jj 7<|zB wg<|zb (zf 0)<|zb (d8 (zF<|d8 (zg 6)<|zu<|.int 0)<|zf 5) zD)<|zH (jj 8<|zB xG<|zb (zf 0)<|zb (jX<|zS (zL<|zF<|d8 (zg 6)<|zu<|.int 0) (.nm 0) 1 [7] jt (zG ve (zf 1)<|zf 0)) zD)<|zH (jj 3<|jX<|zS (zL<|zg 3) (.nm 0) 1 [0,5,8] jt (zB qG<|zb (zf 1)<|zb (zf 0)<|zb (zf 3)<|zb (zf 2) zD))<|xw 4<|KJ (jF<|zS (zL<|zg 4) (.nm 0) 1 [0,5,8] jt (zB qG<|zb (zf 1)<|zb (zf 0)<|zb (zf 3)<|zb (zf 2) zD))<|jF<|qr<|zb (zf 8) zD)<|J2 4
noncomputable def jQ:=ja 2<|kF<|zS (zL<|zg 1) (.nm 0) 1 [0] (xf<|sB<|tW<|zF<|Wl (zf 0) bC<|o8<|zf 1) (Wl (zf 0) (o8<|zf 1) bC)
noncomputable def xn:=ja 5<|zH (jj 3<|jX<|zS (Y9 (d8 (zF<|zB qc<|zb (zf 1) zD)<|zu<|.int 2)<|d8 (zF<|zB j7<|zb (d8 (zg 1)<|zu<|.int 1) zD)<|zu<|.int 2) (.tp [0,1]) 2 [] jt (zG qx (zf 0)<|zf 1))<|zH (jj 4<|jX<|zS (zL<|zg 2) (.nm 0) 1 [1] jt (zG qx (zf 0)<|zG ve (qB<|zb (zu<|.int 0) zD)<|d8 (zg 1)<|zu<|.int 1))<|kF<|jr jQ<|zb (d8 (zg 1)<|zu<|.int 0)<|zb (jX<|jr qH<|zb (zf 0)<|zb (zG qx (d8 (zg 1)<|zu<|.int 0)<|d8 (zg 1)<|zu<|.int 1)<|zb (jX<|KJ (zg 3)<|zg 4) zD) zD
noncomputable def y0:=ja 2<|kF<|jr xn<|zb (zf 0)<|zb (zf 1)<|zb (jX<|qr zD) zD
noncomputable def wQ:=ja 2<|kF<|jr qH<|zb (zf 0)<|zb (d8 (zg 1)<|zu<|.int 0)<|zb (d8 (zF<|zB qc<|zb (zf 1) zD)<|zu<|.int 2) zD
section
variable(γ:Ctx)
@[simp] noncomputable def Hb:=@Im.eq_1
@[simp] noncomputable def Gj:=@HF.eq_1
@[simp] noncomputable def Ek:=@Gv.eq_1
end
noncomputable def qF:=ja 1<|jV<|d8 (jF<|zS (iw<|zf 0) (.tp [0,1]) 2 [] (sB<|zG i8 (zf 1)<|zu<|.int 0) (zf 0))<|zu<|.int 0
noncomputable def yZ:=ja 7<|zH (jj 3<|d8 (zg 1)<|zu<|.int 1)<|zH (xw 4<|pI (jF<|qr<|zb (zu<|.int 0) zD)<|zf 3)<|zH (vt (zL<|zF<|jX<|jr qH<|zb (zf 0)<|zb (zG qx (zf 3)<|zu<|.int 1)<|zb (jX<|zS (Y9 (d8 (zg 1)<|zu<|.int 2)<|zf 2) (.tp [0,1]) 2 [] jt (zG qx (zf 0)<|qB<|zb (zf 1) zD)) zD) (.nm 5)<|zH (jj 6<|zB qF<|zb (zf 5) zD)<|zH (i0 (sB<|zG h7 (zf 6)<|zf 3) (jV<|zu .el) qg)<|Wm 4 (zf 6)<|d8 (zg 5)<|zf 3)<|jV<|jf<|zg 4
section
variable(γ:Ctx)
@[simp] noncomputable def Gc:=@iw.eq_1
@[simp] noncomputable def BX:=@EK.eq_1
@[simp] noncomputable def GY:=@Ik.eq_1
@[simp] theorem mY(F G a b c):vB F G a b c γ=(a γ).bind λx=>(b γ).bind λy=>((F x y).bind qq).bind λk=>if k=dn then (c γ).bind λz=>G y z else di (.bl ed):=rfl
@[simp] noncomputable def FL:=@ZQ.eq_1
end
noncomputable def kc:=ja 5<|zH (jj 2<|d8 (zg 1)<|zu<|.int 0)<|zH (i0 (sB<|zG i8 (d8 (zg 1)<|zu<|.int 1)<|zf 2) (jV<|zu .el) qg)<|zH (jj 3<|d8 (zF<|zB j7<|zb (zf 2) zD)<|zu<|.int 2)<|zH (jj 4<|jX<|jr qH<|zb (zf 0)<|zb (zG qx (zf 2)<|zf 2)<|zb (jX<|zS (Y9 (d8 (zg 1)<|zu<|.int 2)<|zf 3) (.tp [0,1]) 2 [] jt (zG qx (zf 0)<|zf 1)) zD)<|zH (i0 (sB<|zG i8 (jX<|zS (zL<|zg 4) (.nm 0) 1 [2] jt (Wl (zf 0) bC<|o8<|zf 1))<|jX<|Va<|zg 3) (jV<|zu .el) qg)<|jV<|qB<|zb (zf 2)<|zb (zf 2)<|zb (jf<|jF<|zS (zL<|zg 4) (.nm 0) 1 [2] jt (Wl (zf 0) (o8<|zf 1) bC)) zD
section
variable(γ:Ctx)
@[simp] theorem FN(i f):iq i f γ=(f γ).bind λC=>if γ.any QV=ed then di (.next<|γ.set i<|.nest C)else d5:=rfl
@[simp] noncomputable def Ej:=@Wn.eq_1
@[simp] noncomputable def BY:=@cF.eq_1
@[simp] noncomputable def GZ:=@iu.eq_1
@[simp] noncomputable def Gb:=@ir.eq_1
@[simp] noncomputable def Ec:=@Gs.eq_1
end
@[simp] theorem mR(r):vX (di (.nest r))=di r:=rfl
section
variable(γ:Ctx)
@[simp] noncomputable def wa:=@kE.eq_1
@[simp] noncomputable def FX:=@yx.eq_1
@[simp] noncomputable def Gf:=@HD.eq_1
@[simp] noncomputable def tG:=@pJ.eq_1
end
noncomputable def EJ(f:CO D):CO D:=λa=>(f a).map λd=> .bl (gI .list d || gI .tuple d)
noncomputable def bB:=ja 1<|jV<|nC (t8 .int<|zf 0)<|Cq<|t8 .bool<|zf 0
noncomputable def Y0:=ja 2<|jV<|nC (zB bB<|zb (zf 1) zD)<|vB o3 z4 (zu<|.int 0) (zf 1)<|zf 0
noncomputable def V0:=ja 2<|jV<|nC (EJ<|zf 0)<|zG h7 (vh<|zg 0)<|zf 1
noncomputable def xB:=ja 1 (jV (pJ (zu (.str "")) (jF (zS (zL (zF (d8 (zg 0) (zu (.int 2))))) (.nm 0) 1 [] jt (d8 (zg 0) (zu (.int 0)))))))
noncomputable def xR:=ja 2<|jV<|nC (zG h7 (d8 (zg 0)<|zu<|.int 0)<|d8 (zg 1)<|zu<|.int 0)<|zG h7 (zB xB<|zb (zf 0) zD)<|zB xB<|zb (zf 1) zD
noncomputable def qk:=ja 2<|i0 (xf<|sB<|zB xR<|zb (zf 0)<|zb (zf 1) zD) KG qg
noncomputable def vf:List D->Option Xn:=Gw 2 (G4 (xf (sB (zB xR (zb (zf 0) (zb (zf 1) zD))))) (uf "Unlike") G5)
section
variable{X:Cx}{sc:hL}{N L:List Str}{k:Nat}{a e:eA}{es:List eA}{f:CO D}{g:CO (List D)}{pos p p2:hB}
theorem iR(J:PV X e f)(O:wo e d5 pos.line X.env=pure ed:=by rfl):lN X (.Expr e pos) (pK f):=ke (XA J O) λD j H U=>by obtain⟨E0,E,g,i,k,I,z,Y⟩:=U;obtain⟨d,h,z⟩:=zC z;subst z;exact⟨g,i,d,I.rc,h,λv b a x r=>Y j b a<|I.step x⟩
end
theorem q9(h:C8 X es n g):A9 X es g:=h.1
section
variable{K:Iy}{E0 E H0 H:Hp}{σ:St}{γ:Ctx}
theorem ej.dropLast : ∀{ds:List D} {xs:List V},ej K H ds xs->ej K H ds.dropLast xs.dropLast
 | [],xs,r=>by rw[r.o6];exact ej.nil
 | [d],xs,r=>by obtain⟨x,b,e,_,a⟩:=r.ml;rw[e,a.o6];exact ej.nil
 | d::d2::ds,xs,r=>by obtain⟨x,b,e,z,a⟩:=r.ml;obtain⟨J,O,I,_,_⟩:=a.ml;subst e I;exact ej.cons z<|ej.dropLast a
end
section
variable{X:Cx}{sc:hL}{N L:List Str}{k:Nat}{a b e:eA}{pos p p2:hB}{f g:CO D}
theorem aB{c:eA}{C:CO D}(S:PV X a C){J:CO (Sk×List D)}(U:PQ X c J)(Z:u9 .NotIn c=ed:=by with_unfolding_all rfl):l9 X (.Compare a [.NotIn] [c] pos) (sB<|Xu C J):=
 Vg (cU K7 S U Z) λN H Q Y=>by
  obtain⟨h,g,d,rc,z,q⟩:=Y;obtain⟨F,n,w⟩:=zc z;obtain⟨x,o,z⟩:=zc n;obtain⟨⟨f,m⟩,s,z⟩:=zc z;obtain⟨i,t,z⟩:=zc z;obtain⟨l,u,rfl⟩:=zC z;cases w;refine⟨h,g,x,rc,o,λO E j x1 I=>⟨j,g,f,m,rc.ext x1,s,λp M b k B e G r=>?_⟩⟩;rw[jC t]at I;have y:=Jn r u;subst y;have A:gm X.K b p (l.map V.int)\/hG X.K b p (l.map V.int):=by
   cases f with
   | L=>exact .inl e
   | T=>exact .inr e
  refine⟨p,_,rfl,A,by rw[show O = .int i from I];rfl,Jy l,?_⟩;rw[show O = .int i from I,VE];exact⟨_,rfl,q b k<|x1.trans B⟩
end
end DL
namespace L2
open PySem PySem.Spec PyProof.Rows
theorem mD{X:Cx}{C:RW}{σ:St}{H:Hp}{s:eF}{E:RQ}{z it:eg}{i U:Nat}{x:eh}{v:V}{g:f7}{L:List eA}{x1:Nat}{S:hB}{Q:Unit->eF->Prop}
 (I:Inv X C σ H s) (Z : ∀b ∈ [z,it],wZ X C H b) (hz:z<s.heap.objs.size) (hi:it<s.heap.objs.size) (a1:N4 g z it ((i:Int)+1) x s.heap.objs.size)
 (a3:n3 g s.heap.objs.size (.int i U) x) (a5 : ∀b o,b≠z->b≠it->s.heap.get? b=di o->g.get? b=di o) (rx:RelV v x)
 (a8 : ∀g2,t9 g2 z it ((i+1:Nat):Int) x->NY z g g2->Inv X C σ (upd H s.heap.objs.size<|.tup [.int i,v]) {s with heap:=g2,toks:=U+1}->H s.heap.objs.size=d5->
   (∀b ∈ [z,it],upd H s.heap.objs.size (.tup [.int i,v]) b=d5)->Q () {s with heap:=g2,toks:=U+1}) :
 wpAny (e9 X.prog X.w) X.A (L0 (.Tuple L x1 S) (.ref z)<|.ref s.heap.objs.size) Q E {s with heap:=g,toks:=U+1}:=by
 refine Uj a1 λg2 sm Y=>?_;have a:n3 g2 s.heap.objs.size (.int i U) x:=Y.extBut _ _ (ML hz) a3;have f : ∀J u,J ∉ [z,it]->s.heap.get? J=di u->g2.get? J=di u:=λJ u O e=>by simp only[iU,Lv,or_false,not_or]at O;exact Y.extBut _ _ O.1<|a5 J u O.1 O.2 e
 refine a8 g2 (by have:=sm;rwa [show((i:Int)+1)=((i+1:Nat):Int)by omega]at this) Y (I.RR (fp:=[z,it]) f Z (IH _) ⟨by show 2<=f6;decide,[.int i U,x],.cons ⟨_,rfl⟩<|.cons rx .nil,⟨_,a,rfl,_,rfl⟩⟩) I.fresh λJ O=>?_;have d:J≠s.heap.objs.size:=by
  simp only[iU,Lv,or_false]at O;rcases O with rfl | rfl
  ·exact Lm hz
  ·exact Lm hi
 rw[zK d];exact(Z J O).1
noncomputable def Gm(K:Iy)(a:eg):It:=
 ⟨λi H=>∃b,gm K H a b/\i<b.length,
  λi H x d=>∃p u,x = .ref p/\H p=d5/\d=upd H p (.tup [.int i,u])/\(∀b,gm K H a b->b[i]? = di u),
  λi H=>∃b,gm K H a b/\b.length=i⟩
theorem ah{P:i3}{w:h8}{K:Iy}{elts:List eA}{x1:Nat}{xb:hB}{z it a:eg}(a9:z≠it) :
 Turn P w K (.Tuple elts x1 xb) (Gm K a) [z,it] z (λi h=>(∃O,t9 h z it i O)/\h.IsListIter it a i) where
 mem:=by simp
 obj:=λi h ⟨⟨O,hz⟩,h1⟩ y hy=>by
  simp only[iU,Lv,or_false]at hy;rcases hy with rfl | rfl
  ·exact⟨_,hz,λv q=>by cases q⟩
  ·obtain⟨o,e,c,d⟩:=h1
   exact⟨o,e,λv q=>by rw[d]at q;cases q⟩
 keep:=λi h h' ⟨⟨O,hz⟩,h1⟩ k=>⟨⟨O,k z ⋯ _ hz⟩,h1.at λo e=>k it ⋯ o e⟩
 item:=by
  rintro X rfl rfl rfl hc i pins s σ H E I hf ⟨⟨O,hz⟩,h1⟩ ⟨xs,a0,b6⟩;obtain⟨a6,a7,p1,z1⟩:=I.list a0;have U:=p1.isList;have hx:xs[i]? = di xs[i]:=ID b6;have l1:=a7.length;have an:a≠it:=λe=>by obtain⟨o,e1,J,_⟩:=U;obtain⟨o2,Y,c2,_⟩:=h1;rw[e,Y]at e1;cases e1;rw[c2]at J;exact absurd J ⋯
  have b9:z≠a:=λe=>by obtain⟨o,e1,J,_⟩:=U;have b0:s.heap.get? z=di _:=hz;rw[e,e1]at b0;cases b0;exact absurd J ⋯
  have bb:it<s.heap.objs.size:=by obtain⟨o2,Y,_⟩:=h1;exact IT Y
  have Dr:=Draws.list (prog:=X.prog) (w:=X.w) (A:=X.A.in1) (show X.A.in1.handled=d5 from I.ok.hd hc) it a an a6.toArray;refine wpAny_pyNext_enum_itemD Dr hz ⟨h1,U⟩ (by simp;omega) a9 (by simp;exact⟨a9,b9⟩) λx g tk hP a1 a2 a3 a4 a5=>⟨_,rfl,?_⟩;obtain⟨u1,bl,bm⟩:=a7.get hx;obtain rfl:u1=x:=by have:=hP;simp[bl]at this;exact this
  refine mD I hf (IT hz) bb a1 a3 a5 bm λg2 b1 b2 I1 bt hn=>⟨.ref s.heap.objs.size,_,I1,rfl,⟨_,_,rfl,bt,rfl,λc6 bv=>by rw[I.Ru bv a0];exact hx⟩,⟨⟨_,b1⟩,a2.1.at λo e=>b2.extBut _ _ a9.symm e⟩,hn⟩
 done:=by
  rintro X rfl rfl rfl hc i pins s σ H E I hf ⟨⟨O,hz⟩,h1⟩ ⟨xs,a0,hi⟩;obtain⟨a6,a7,p1,z1⟩:=I.list a0;have U:=p1.isList;have l1:=a7.length;have an:a≠it:=λe=>by obtain⟨o,e1,J,_⟩:=U;obtain⟨o2,Y,c2,_⟩:=h1;rw[e,Y]at e1;cases e1;rw[c2]at J;exact absurd J ⋯
  have Dr:=Draws.list (prog:=X.prog) (w:=X.w) (A:=X.A.in1) (show X.A.in1.handled=d5 from I.ok.hd hc) it a an a6.toArray;have en:a6.toArray.size=i:=by simp;omega
  rw[en]at Dr;refine wpAny_pyNext_enum_endD Dr hz ⟨h1,U⟩ λg hk=>⟨rfl,?_⟩;refine I.Dk (t':=s.toks) (fp:=[z,it]) (λb' u hb e=>?_) hf;simp only[iU,Lv,or_false,not_or]at hb;exact hk b' u hb.2 e
 self:=λ_ _ _ _ _ st h=>vS st.1.choose_spec h
noncomputable def BB(K:Iy)(C:TA):TI:=λf H R=>C f H λd b=>∃a,d=[.ref a]/\(∃e,gm K b a e)/\R (Gm K a) b
section
variable{X:Cx}{e1:eA}{ta:TA}{p pos:hB}{elts:List eA}{x1:Nat}{xb:hB}
theorem lg(U:Gl X "enumerate")(L:X.mg "enumerate" = d5)(C:PA X [e1] ta)
 (Y:Dc "enumerate" = di (.type "enumerate")) (S:gv [e1] X.env=[(ed,fh e1 X.env)]:=by rfl) :
 PI X (.Tuple elts x1 xb) (.Call (.Name "enumerate" p) [e1] [] pos) (BB X.K ta):=by
 intro b s n H R I h;refine D2<|yF I U L Y<|LY (ft (C pos b s n H _ I h) λt d j=>?_) (by rw[S];rfl) rfl;obtain⟨u,e,z,m,l⟩:=j;obtain⟨a,rfl,⟨x,f⟩,q⟩:=l;obtain⟨w,rfl,i⟩:=yq m;cases i;obtain⟨o,r,k,y⟩:=z.list f;refine call_enumerate_list k.isList λg b1 b2 b3 b4=>vS (s:={d with heap:=g}) b1 ?_;refine⟨_,[d.heap.objs.size+1,d.heap.objs.size],_,_,e,rfl,z.kept (t':=d.toks) b4,ah<|ML<|Mp _,⟨⟨_,b1⟩,b2⟩,λc J=>?_,q⟩;have O:d.heap.objs.size<=c:=by
  simp only[iU,Lv,or_false]at J;rcases J with rfl | rfl
  ·exact LI _ _
  ·exact IH _
 exact z.Dd O<|z.f9.fresh O
end
end L2
namespace DL
open PySem PySem.Spec PyProof.Rows L2
theorem ae{K:Iy}{H0 C:Hp}{a:eg}{xs:List V}{ds:List D}(h:gm K C a xs)(r:ej K H0 ds xs):Walk K H0 C (Gm K a) (k8 ds):=by
 have O:=r.length;have m:(k8 ds).length=ds.length:=by simp[k8]
 refine⟨λi b s k=>?_,λb s=>?_,λi b x g s k y=>?_⟩
 ·exact⟨xs,s.seq h,by omega⟩
 ·exact⟨xs,s.seq h,by omega⟩
 ·obtain⟨p,u,rfl,z,rfl,I⟩:=y
  obtain⟨d,j,J⟩:=r.Dz<|I xs<|s.seq h;refine⟨.tup [.int i,d],?_,λf l e=>⟨upd f p<|.tup [.int i,u],Ext.alloc e z _,?_⟩⟩
  ·unfold k8
   rw[Le,MF ⋯,MO,j];rfl
  ·exact xE (hG.of zO)<|ej.cons (show V.int i = .int i from rfl)<|ej.cons ((J.mono l).mono (je (jw e z) _)) ej.nil
section
variable{X:Cx}{sc:hL}{N L:List Str}{k:Nat}{a b e:eA}{pos p p2:hB}{f fa fb:CO D}
theorem rB(h:SX X sc N L k)(c:vd sc "enumerate" = dn)(z:X.mg "enumerate" = d5)(C:PV X a f)(J:gv [a] X.env=[(ed,fh a X.env)]:=by rfl) :
 i4 X (.Tuple elts x1 xb) (.Call (.Name "enumerate" p) [a] [] pos) (nA f):=
 K4 (lg (h.gl c).1 z (jz C qy J) boot_enumerate J) λo H R U=>by
  obtain⟨g,l,m,rc,I,q⟩:=U;obtain⟨d,Y,I⟩:=zc I;cases d with
  | lst n=>
   cases I;refine⟨g,l,_,rc,Y,λv e b x r=>?_⟩;obtain⟨i,j,rfl,O,g2⟩:=eD r;exact⟨i,rfl,⟨j,x.sub.seq O⟩,q _ e b x<|ae O g2⟩
  | _=>cases I
end
end DL
namespace DL
open PySem L2 PyProof.Rows
open PySem.W (KasT kas_sort kas_asc kas_desc kas_tail3 kas_descPart kas_count kas_place kas_bin kas_rev)
noncomputable def Good{C:Type}(n:Nat)(P:C->Prop):KasT C->Prop
 | .ret a=>P a
 | .ask i j k=>i<n/\j<n/\∀b,Good n P<|k b
theorem Good.mono{C:Type}{n:Nat}{P z:C->Prop}(h : ∀a,P a->z a) : ∀{t:KasT C},Good n P t->Good n z t
 | .ret a,g=>h a g
 | .ask i j k,g=>⟨g.1,g.2.1,λb=>(g.2.2 b).mono h⟩
theorem Good.bind{C β:Type}{n:Nat}{P:C->Prop}{z:β->Prop}{f:C->KasT β}(I : ∀a,P a->Good n z (f a)) : ∀{t:KasT C},Good n P t->Good n z (t.bind f)
 | .ret a,g=>I a g
 | .ask i j k,g=>⟨g.1,g.2.1,λb=>(g.2.2 b).bind I⟩
theorem Good.run : ∀{t:KasT α},Good n P t->P (xK lt t)
 | .ret a,g=>g
 | .ask i j k,g=>(g.2.2 _).run
noncomputable def Pm(n:Nat)(p:Array Nat):Prop:=p.toList.Perm<|Iz n
theorem Pm.lt(h:Pm n p)(C:0<n)(i:Nat):p.getD i 0<n:=by
 by_cases a:i<p.size
 ·have e:p.getD i 0=p[i]:=by simp[Array.getD,a]
  rw[e];exact IC.mp<|h.mem_iff.mp ⋯
 ·have e:p.getD i 0=0:=by simp[Array.getD,a]
  rw[e];exact C
theorem Pm.rev(h:Pm n p)(i j:Nat):Pm n (kas_rev p i j):=(Array.perm_iff_toList_perm.mp<|mirror_perm p i j _).trans h
theorem Pm.To(h:Pm n p)(i j:Nat):Pm n (bubble p i j):=(Array.perm_iff_toList_perm.mp<|bubble_perm p i j).trans h
theorem XY(h:Pm n p)(C:0<n) : ∀f m,Good n (λ_=>True) (kas_asc p f m)
 | 0,m=>trivial
 | f+1,m=>⟨h.lt C _,h.lt C _,λb=>by
  cases b with
  | true=>exact trivial
  | false=>exact XY h C f<|m+1⟩
theorem vT(C:0<n) : ∀f p m q,Pm n p->Good n (λr=>Pm n r.1) (kas_desc f p m q)
 | 0,p,m,q,h=>h
 | f+1,p,m,q,h=>⟨h.lt C _,h.lt C _,λb=>by
  cases b with
  | true=>
   show Good n _ (if q>0 then _ else _);split
   ·exact vT C f _ _ _<|h.rev _ _
   ·exact vT C f _ _ _ h
  | false=>exact⟨h.lt C _,h.lt C _,λd=>by
   cases d with
   | true=>exact h
   | false=>exact vT C f _ _ _ h⟩⟩
theorem Yx{n:Nat}(C:0<n)(m r:Nat){p:Array Nat}(h:Pm n p):Good n (λr=>Pm n r.2) (kas_tail3 m r p):=by unfold kas_tail3;refine Good.bind (P:=λ_=>True) (λa _=>?_)<|XY (h.rev _ _) C _ _;exact(show Pm n (kas_rev p 0 m)from h.rev _ _)
theorem Yy{n:Nat}(C:0<n)(m r:Nat){p:Array Nat}(h:Pm n p):Good n (λr=>Pm n r.2) (kas_descPart m r p):=
 (vT C _ _ _ _ h).bind λa b=>by
   show Good n _ (if a.2.2>0 then _ else _);split
   ·exact Yx C _ _<|Pm.rev b _ _
   ·exact Yx C _ _ b
theorem aZ{n:Nat}(C:0<n)(r:Nat){p:Array Nat}(h:Pm n p):Good n (λr=>Pm n r.2) (kas_count r p):=
 (XY h C _ _).bind λm _=>by
   show Good n _ (if (m==r)=dn then _ else if m>1 then _ else _);split
   ·exact h
   ·split
    ·exact⟨h.lt C _,h.lt C _,λc=>by
      cases c with
      | true=>exact h
      | false=>exact Yy C _ _<|h.rev _ _⟩
    ·exact Yy C _ _ h
theorem wL(C:0<n)(h:Pm n p)(k:Nat) : ∀f l r,Good n (λ_=>True) (kas_place p k f l r)
 | 0,l,r=>trivial
 | f+1,l,r=>by
  show Good n _ (if l>=r then _ else _);split
  ·exact trivial
  ·exact⟨h.lt C _,h.lt C _,λc=>by
    cases c with
    | true=>exact wL C h k f _ _
    | false=>exact wL C h k f _ _⟩
theorem WW{n:Nat}(C:0<n) : ∀f p k,Pm n p->Good n (Pm n) (kas_bin f p k)
 | 0,p,k,h=>h
 | f+1,p,k,h=>(wL C h k k 0 k).bind λl _=>WW C f _ _<|h.To _ _
theorem Ju{n:Nat}(C:0<n):Good n (Pm n) (kas_sort n):=
 (aZ C n<|show Pm n (Nf<|Iz n)from List.Perm.refl _).bind λr z=>by
   show Good n _ (if r.1<n then _ else _);split
   ·exact WW C _ _ _ z
   ·exact z
theorem jI(ps:List (Int×Int)):(j1 ps).Perm (Iz ps.length):=by
 unfold j1;split
 ·exact List.Perm.refl _
 ·exact(Ju ⋯).run
theorem K5 : ∀{ds:List D} {ps:List (Int×Int)},wW ds=di ps->ps.length=ds.length
 | [],ps,h=>by cases h;rfl
 | d::ds,ps,h=>by
  unfold wW at h;cases e1:lA d with
  | none=>rw[e1]at h;cases h
  | some x=>
   cases e2:wW ds with
   | none=>rw[e1,e2]at h;cases h
   | some l=>rw[e1,e2]at h;cases h;simp[K5 e2]
theorem jb(d:α) : ∀ds:List α,(Iz ds.length).map (λi=>ds.getD i d)=ds:=λds=>by
 apply Mt;intro i;by_cases a:i<ds.length
 ·simp[a]
 ·simp[a,Nat.not_lt.mp a]
end DL
namespace DL
open PySem PySem.Spec PyProof.Rows L2
open PySem.W (KasT kas_sort kas_ask kat_run kat_snds kat_lt kat_cons kat_no kat_yes kat_nil kat_go kat_one kat_kind KatTups KatGo)
theorem VF(z : ∀i j C,i<n->j<n->C (lt i j) s->cmp i j C s) :
 ∀{t:KasT α},Good n P t->Q (xK lt t) s->t.kasWp cmp Q s
 | .ret _,_,q=>q
 | .ask i j k,g,q=>z i j _ g.1 g.2.1<|VF z (g.2.2 _) q
noncomputable def xr(h:f7)(v:eh)(k l:Int):Prop:=∃x o a m t u,v = .ref x/\h.get? x=di o/\o.cls = .type "tuple"/\o.data = .seq a m/\a.toList=[.int k t,.int l u]
theorem xr.keep{h h':f7}{v:eh}{k l:Int}(a:xr h v k l)(e : ∀b o,h.get? b=di o->o.cls = .type "tuple"->h'.get? b=di o):xr h' v k l:=by obtain⟨x,o,g,m,t,u,d,f,z,I,J⟩:=a;exact⟨x,o,g,m,t,u,d,e x o f z,z,I,J⟩
theorem xr.one(a:xr h v k l):Ci h v k:=by obtain⟨x,o,e,m,t,u,b,d,z,I,J⟩:=a;exact⟨x,o,e,m,t,b,d,z,I,by rw[<- Array.getElem?_toList,J];rfl⟩
section
variable{prog:i3}{w:h8}{A:mm}{E:RQ}{s:eF}
theorem Jj{a:eg}{vs:List eh}{ps:List (Int×Int)}{n:Nat}{P:PySem.Fin->eF->Prop}(Y:s.heap.get? a=di (g5 "list" vs.toArray n))(L:ps.length=vs.length)(ap:vs.length<64)
 (hT : ∀i (hi:i<vs.length),xr s.heap vs[i] (ps.getD i (0,0)).1 (ps.getD i (0,0)).2)
 (h:P (.done<|.ret .none) {s with heap:=sortedHeap s.heap a vs (Nf<|(j1 ps).map λi=>vs.getD i Ls)}) :
 wpAny (e9 prog w) A (nt.«list.sort» ⟨[.ref a],[]⟩) P E s:=by
 rw[list_sort_plain];have ha:a<s.heap.objs.size:=IT Y;have K:vs.length<=f6:=by rw[Nw];omega
 refine IA (TM Y rfl ?_);refine IA (NT Y rfl ?_ (by rw[II];exact K) (LL _));obtain⟨f,R⟩ : ∃f,(s.heap.update a (Lo λ_=>#[])).get? a=di (g5 "list" #[] f):=⟨_,Po Y (λ_=>#[])⟩;refine IA (PU R rfl ?_);refine IA (PL ?_ (by show vs.length<=_;exact K));refine IA (O3 ?_ (LL _));refine MH ?_;have d:(((s.heap.update a (Lo λ_=>#[])).push (g5 "tuple" vs.toArray 0)).push (g5 "list" #[] 0)).get? a=di (g5 "list" #[] f):=by rw[Nq _ _ _ (by rw[Rl,MX];exact Lm (LD ha)),Nq _ _ _ (by rw[MX];exact Lm ha)];exact R
 show wpAny (e9 prog w) A _ P E {s with heap:=((s.heap.update a (Lo λ_=>#[])).push (g5 "tuple" vs.toArray 0)).push (g5 "list" #[] 0)};dsimp only;have l:vs.toArray.size=vs.length:=by simp
 by_cases F:vs.toArray.size<2
 ·rw[RY F,RY F]
  refine IA<|IK ?_;rw[StateT.run_pure];refine IA<|IK ?_;dsimp only;refine IA<|PU d rfl ?_;have Z:Array.map (λx=>x.snd) (D9<|SortSt.mk' general' (vs.toArray.zip vs.toArray) #[] 7 d5)=vs.toArray:=by show Array.map (λx=>x.snd) (vs.toArray.zip vs.toArray)=_;apply Array.ext';simp[Array.toList_map,Array.toList_zip];rw[List.map_snd_zip (IH _)]
  have ev:(j1 ps).map (λi=>vs.getD i Ls)=vs:=by unfold j1;rw[RY ⋯,L];exact jb _ _
  rw[ev]at h;refine IA (NT d rfl ?_ (LL _) (by rw[Z,l];exact NV K));simp only[bne_self_eq_false,My,if_false];have e8:({s with heap:=(((s.heap.update a (Lo λx=>#[])).push (g5 "tuple" vs.toArray 0)).push (g5 "list" #[] 0)).update a (Lo λx=>Array.map (λx=>x.snd) (D9 (SortSt.mk' general' (vs.toArray.zip vs.toArray) #[] 7 d5)))}:eF) = {s with heap:=sortedHeap s.heap a vs vs.toArray}:=by rw[Z];rfl
  refine IK ?_;rw[<- e8]at h;exact h
 ·rw[EQ F,EQ F]
  have n2:2<=vs.length:=by rw[<- l];omega
  have keep : ∀b o,s.heap.get? b=di o->o.cls = .type "tuple"->(((s.heap.update a (Lo λ_=>#[])).push (g5 "tuple" vs.toArray 0)).push (g5 "list" #[] 0)).get? b=di o:=λb o e hc=>by
   have b7:b≠a:=λz=>by rw[z,Y]at e;cases e;exact absurd hc (by show ¬(NM "list" = NM "tuple");decide)
   exact IB _<|IB _<|(Pn _ _ _ _ b7).trans e
  generalize hg:((s.heap.update a (Lo λ_=>#[])).push (g5 "tuple" vs.toArray 0)).push (g5 "list" #[] 0)=g at d keep ⊢;have M : ∀i (hi:i<vs.length),xr g vs[i] (ps.getD i (0,0)).1 (ps.getD i (0,0)).2:=λi hi=>(hT i hi).keep keep;obtain⟨fs,f1,f2,f3⟩:=eT (ks:=λi=>(ps.getD i (0,0)).1) λi hi=>(M i hi).one;refine IA (kat_kind (T:=NM "int") (s:={s with heap:=g}) f1 ⋯ (λv hv=>?_) ⋯ ?_)
  ·obtain⟨k,t,rfl⟩:=f3 v hv
   exact PySem.W.Looks.of_pure rfl
  have ep:(xK (λi j=>vb (ps.getD i (0,0))<|ps.getD j (0,0))<|kas_sort vs.length).toList=j1 ps:=by unfold j1;rw[EQ ⋯,L]
  refine IA (MI (kat_run (E:=E) (ks:=vs) (Q:=λB r=>∃p:Array Nat,D9 B=p.map (PySem.W.kas_item<|vs.toArray.zip vs.toArray)/\failedOf B=d5/\p.toList=j1 ps/\r = {s with heap:=g})
   (G:=λp r=>p.toList=j1 ps/\r = {s with heap:=g})
   rfl n2 ap (λp B r a1 a2 a3 N=>⟨p,a2,a3,N.1,N.2⟩) (VF (lt:=λi j=>vb (ps.getD i (0,0))<|ps.getD j (0,0)) (λi j C hi hj I=>?_) (Ju ⋯) ⟨ep,rfl⟩)) ?_ λ_ _ e=>e)
  ·show wpAny _ _ (keyLt' _ (vs.getD i Ls)<|vs.getD j Ls) C _ _
   rw[show vs.getD i Ls=vs[i]by simp[hi],show vs.getD j Ls=vs[j]by simp[hj]];obtain⟨x,ox,xs,m,t,u,f,e2,e3,e4,X⟩:=M i hi;obtain⟨y,oy,ys,m',t',u',d1,d2,d3,d4,S⟩:=M j hj;rw[f,d1];refine kat_lt e2 e4 d2 d4 ?_;have bx:xs.size=2:=by rw[<- Md,X];rfl
   have c0:ys.size=2:=by rw[<- Md,S];rfl
   rw[X,S,bx,c0,Na,Na];unfold vb at I;generalize ps.getD i (0,0)=O at I ⊢;generalize ps.getD j (0,0)=U at I ⊢;refine kat_cons<|Ny O.1 t U.1 t' _ _ _ _ ?_;refine kat_go (λJ=>?_) λJ=>?_
   ·have J:O.1=U.1:=by simpa using J
    rw[RY J]at I;refine kat_yes<|kat_cons<|Ny O.2 u U.2 u' _ _ _ _<|kat_go (λH=>?_) λH=>?_
    ·have H:O.2=U.2:=by simpa using H
     refine kat_yes<|kat_nil ?_;rw[show decide (O.2<U.2)=ed by rw[H];simp]at I;exact I
    ·exact kat_no<|kat_one _ _<|lt_int I
   ·have J:O.1≠U.1:=by simpa using J
    rw[EQ J]at I;exact kat_no<|oneLt_int I
  rintro⟨⟨⟩,B⟩ r ⟨p,c1,hf,hp,rfl⟩;dsimp only;have c4:=kat_snds rfl c1;have c5:((j1 ps).map λi=>vs.getD i Ls).length=vs.length:=by rw[IU,(jI ps).length_eq,Lw,L]
  rw[c4,hp];refine IA<|PU d rfl ?_;refine IA<|NT d rfl ?_ (LL _) (by rw[II];show((j1 ps).map λi=>vs.getD i Ls).length<=_;rw[c5];exact NV K);rw[hf];simp only[bne_self_eq_false,My,if_false];subst hg;exact IK h
theorem KB{l:eg}{vs:List eh}{ps:List (Int×Int)}{Q:RQ}(J:s.heap.IsList l vs.toArray)(O:ps.length=vs.length)(U:vs.length<64)
 (Y : ∀i (hi:i<vs.length),xr s.heap vs[i] (ps.getD i (0,0)).1 (ps.getD i (0,0)).2)
 (h:Q (.ref<|s.heap.objs.size+1) {s with heap:=sortedAll s.heap vs (Nf<|(j1 ps).map λi=>vs.getD i Ls)}) :
 wpAny (e9 prog w) A (call (.builtin "sorted") [.ref l]) Q E s:=by
 have d:vs.length<=f6:=by rw[Nw];omega
 refine Calls.call_function_entry kind_sorted plain_sorted entry_sorted (args_sorted1 _) ?_;unfold nt.«sorted»;refine IA (m:=checkCount "sorted" 1 1 _) (IK ?_);refine IA (collect_list J ?_ d);refine IA (O3 ?_ d);have a:((s.heap.push (g5 "list" #[] 0)).update s.heap.objs.size (Lo (· ++ vs.toArray))).objs.size=s.heap.objs.size+1:=by rw[MX,Rl]
 have I:(((s.heap.push (g5 "list" #[] 0)).update s.heap.objs.size (Lo (· ++ vs.toArray))).push (g5 "list" vs.toArray 0)).get? (s.heap.objs.size+1)=di (g5 "list" vs.toArray 0):=by rw[<- a];exact IV _ rfl
 have keep : ∀b o,s.heap.get? b=di o->(((s.heap.push (g5 "list" #[] 0)).update s.heap.objs.size (Lo (· ++ vs.toArray))).push (g5 "list" vs.toArray 0)).get? b=di o:=λb o q=>by have z:b<s.heap.objs.size:=IT q;rw[Nq _ _ _ (by rw[a];exact Lm (LD z)),Pn _ _ _ _ (Lm z),Nq _ _ _ (Lm z)];exact q
 show wpAny _ _ _ _ _ {s with heap:=((s.heap.push (g5 "list" #[] 0)).update s.heap.objs.size (Lo (· ++ vs.toArray))).push (g5 "list" vs.toArray 0)};rw[a];refine IA (MH (Ms slot_list_sort ⟨_,I,rfl⟩ entry_list_sort (Jj (s:={s with heap:=((s.heap.push (g5 "list" #[] 0)).update s.heap.objs.size (Lo (· ++ vs.toArray))).push (g5 "list" vs.toArray 0)}) I O U (λi hi=>(Y i hi).keep λb o e _=>keep b o e) ⟨_,rfl,?_⟩) (args_list_sort _)));exact IK ⟨_,rfl,h⟩
end
section
variable{X:Cx}
noncomputable def Ag(K:Iy):List V->Hp->VK->Prop:=λe H Q=>∃l b d,e=[.ref l]/\gm K H l b/\d.length=b.length/\b.length<64/\
 (∀i (f:i<b.length),∃a,b[i]=V.ref a/\hG K H a [.int ((d:List (Int×Int)).getD i (0,0)).1,.int (d.getD i (0,0)).2])/\∀p,H p=d5->Q (.ref p) (upd H p<|.lst<|(j1 d).map λi=>b.getD i .el)
theorem YG:Zj X (.builtin "sorted") (Ag X.K):=by
 intro y s σ H vs us Q I rv h;obtain⟨l,f,ps,rfl,P,m,b6,F,A⟩:=h;obtain⟨u,rfl,ru⟩:=yq rv;cases ru;obtain⟨z,r,W,S⟩:=I.list P;have b7:=r.length;refine KB (ps:=ps) W.isList ⋯ ⋯ (λi d=>?_) ?_
 ·obtain⟨a,C,E⟩:=F i ⋯
  obtain⟨v,J,g2⟩:=r.get (i:=i) (x:=V.ref a) (by rw[ID ⋯,C]);have R:z[i]=v:=by rw[ID d]at J;exact Lq J
  rw[R];cases g2;obtain⟨B,r2,⟨o,N,G,n,L⟩,_⟩:=I.tuple E;obtain⟨O,U,rfl,Y,k⟩ : ∃O U,B=O::U/\RelV (.int (ps.getD i (0,0)).1) O/\fy [.int (ps.getD i (0,0)).2] U:=by
   cases r2 with
   | cons Y k=>exact⟨_,_,rfl,Y,k⟩
  obtain⟨v2,rfl,Z⟩:=yq k;obtain⟨t,rfl⟩:=Y;obtain⟨u,rfl⟩:=Z;exact⟨a,o,_,n,t,u,rfl,N,G,L,rfl⟩
 ·obtain⟨e,w⟩:=sortedAll_at s.heap z (Nf<|(j1 ps).map λi=>z.getD i Ls)
  have p:((j1 ps).map λi=>f.getD i V.el).length=f.length:=by rw[IU,(jI ps).length_eq,Lw,m]
  refine⟨.ref<|s.heap.objs.size+1,_,I.laid (t':=s.toks) (o:= .lst ((j1 ps).map λi=>f.getD i .el)) (λb o q=>sortedAll_old q) (DJ _) ?_,rfl,A _<|I.f9.fresh<|DJ _⟩;refine⟨by rw[p];exact S,(j1 ps).map λi=>z.getD i Ls,e,?_,w⟩;have g : ∀i∈j1 ps,i<f.length:=λi d=>by have:=(jI ps).mem_iff.mp d;rw[m]at this;exact IC.mp this
  generalize j1 ps=o at g;clear p w
  induction o with
  | nil=>exact .nil
  | cons i o T=>
   have d:=g i IQ;refine .cons ?_ (T λj M=>g j<|IM _ M);obtain⟨v,J,g2⟩:=r.get (i:=i) (x:=f[i])<|ID d;show RelV (f.getD i V.el) (z.getD i Ls);rw[IF,IF,ID d,J];exact g2
theorem WA : ∀{ds:List D} {ps:List (Int×Int)},wW ds=di ps->∀(i:Nat) d,ds[i]? = di d->d = .tup [.int (ps.getD i (0,0)).1,.int (ps.getD i (0,0)).2]
 | [],ps,h,i,d,hd=>by simp at hd
 | c::ds,ps,h,i,d,hd=>by
  obtain⟨k,a,h⟩:=zc h;obtain⟨l,z,h⟩:=zC h;subst h;cases i with
  | zero=>
   simp at hd;subst hd;unfold lA at a;split at a
   ·cases a;rfl
   ·cases a
  | succ i=>simpa using WA z i d (by simpa using hd)
theorem ZS{K:Iy}{H:Hp}{ds:List D}{xs:List V}(r:ej K H ds xs) : ∀(o:List Nat),(∀i∈o,i<xs.length)->ej K H (o.map λi=>ds.getD i .el) (o.map λi=>xs.getD i .el)
 | [],_=>ej.nil
 | i::o,h=>by have a:=h i IQ;obtain⟨d,b,z⟩:=r.Dz<|ID a;refine ej.cons ?_ (ZS r o λj I=>h j<|IM _ I);show Rep K H (ds.getD i .el) (xs.getD i .el);rw[IF,IF,ID a,b];exact z
theorem Wy{S:hL}{N L:List Str}{k:Nat}{e:eA}{pos p:hB}{C:CO (Sk×List D)}(h:SX X S N L k)(c:vd S "sorted" = dn)(z:X.mg "sorted" = d5)(Z:PQ X e C)(O:gv [e] X.env=[(ed,fh e X.env)]:=by rfl) :
 PO X (.Call (.Name "sorted" p) [e] [] pos) (QK C):=
 j9 (kY YG (h.gl c).1 z ⋯ (jz Z qy O) ⋯ ⋯ O rfl) λσ H Q P=>by
  obtain⟨s,γ,t,rc,I,q⟩:=P;obtain⟨⟨W,g⟩,u,I⟩:=zc I;cases W with
  | T=>cases I
  | L=>
   have I:cg g=di t:=I;unfold cg at I;obtain⟨o,U,I⟩:=zc I;by_cases Y:g.length<64
   ·rw[RY Y]at I
    cases I;have am:=K5 U;refine⟨s,γ,.L,g,rc,u,λa xs H' f ext B h2 r=>?_⟩;have an:=r.length;refine⟨a,xs,o,rfl,B,by omega,by omega,λi j=>?_,λl J=>?_⟩
    ·obtain⟨d,R,rd⟩:=r.Dz (ID j)
     have A:=WA U i d R;subst A;obtain⟨b,zs,x,n,E⟩:=kR rd;refine⟨b,x,?_⟩;obtain⟨y,yr,w,F,G⟩:=E.ml;obtain⟨y2,ax,m,K,M⟩:=G.ml;rw[M.o6]at m;rw[w,m,jq F,jq K]at n;exact m4 ext.sub n
    ·refine q l _ _ f (ext.trans<|Ext.hide ext.sub J _) (kK ext.s1 J) (jw ext.sub J) zO ?_
     refine ZS r _ λi j=>?_;have:=(jI o).mem_iff.mp j;have:=IC.mp this;omega
   ·rw[EQ Y]at I;cases I
end
section
variable{X:Cx}{a b c:eA}{pos:hB}{fa fb fc:CO D}
theorem cT{O U:D3}{r C:R2}{F G:D->D->Option D}(ho:ix X (l7 O) r)(L:ix X (l7 U) C)(s1:mr X.K r F)(s2:mr X.K C G)(ha:PV X a fa)(hb:PV X b fb)(hc:PV X c fc)
 (hm:E7 [O,U] [b,c]=ed:=by with_unfolding_all rfl):l9 X (.Compare a [O,U] [b,c] pos) (sB<|vB F G fa fb fc):=
 Vg (iM ho L ha hb hc hm) λσ H Q hZ=>by
  obtain⟨h,g,kq,rc,w,q0⟩:=hZ;obtain⟨d,I,Z⟩:=zc w;have q : ∀v f e,Ext h H e f->Rep X.K e d v->∃k,v = .bl k/\Q k f:=λv f e x n=>by rw[yY Z]at n;exact⟨kq,n,q0 f e x⟩
  obtain⟨x,N,I⟩:=zc I;obtain⟨y,P,I⟩:=zc I;obtain⟨k,R,I⟩:=zc I;obtain⟨j,S,l⟩:=zc R;refine⟨h,g,x,rc,N,λv1 H1 A x1 r1=>⟨A,g,y,rc.ext x1,P,λo p B J m=>s1 B p v1 o x y j _ J.sub (r1.mono J.s0) m S λv3 s i x3 r3=>?_⟩⟩;cases j with
  | bl k'=>
   cases l;refine⟨k,show v3 = .bl k from r3,?_⟩;cases k with
   | true=>
    rw[RY rfl];rw[RY rfl]at I;obtain⟨z,T,W⟩:=zc I;exact⟨i,g,z,((rc.ext x1).ext J).ext x3,T,λv4 t E Y r4=>s2 E t o v4 y z d _ Y.sub ((m.mono x3.s0).mono Y.s0) r4 W λv5 u M x5 r5=>q v5 u M (((x1.trans J).trans x3).trans (Y.trans x5)) r5⟩
   | false=>
    rw[EQ ⋯];rw[EQ ⋯]at I;cases I;exact q _ s i ((x1.trans J).trans x3) rfl
  | _=>cases l
end
end DL
namespace DL
open PySem PySem.Spec PyProof.Rows L2
theorem bN{H:Hp}{x:eg}{o C:HO}:upd (upd H x o) x C=upd H x C:=by
 funext b;by_cases h:b=x
 ·subst h;rw[zO,zO]
 ·rw[zK h,zK h,zK h]
section
variable{X:Cx}{sc:hL}{N L:List Str}{k:Nat}{a:eA}{pos:hB}{f:CO (List D)}
theorem pZ(i:Nat)(h:SX X sc N L k)(c:JZ sc N i x=dn)(ha:PO X a f)(J:gv [a] X.env=[(ed,fh a X.env)]:=by rfl)
 (C:En (.Name x np) "extend" X.env (fh (.Name x np) X.env)=fh (.Name x np) X.env:=by rfl)
 (S:((p5 cpos<|starEach [a] X.env).all (λx=> !x.1) && (E1 cpos<|keywordEach [] X.env).all (λx=>x.1.isSome)
   && decide ([a].length+([]:List u4).length+(if ([]:List u4).isEmpty then 0 else 1)<30))=dn:=by rfl)
 (Z:(apos.endLine==cpos.line)=dn:=by rfl) (a4:wo (.Call (.Attribute (.Name x np) "extend" apos) [a] [] cpos) d5 pos.line X.env=pure ed:=by rfl) :
 lN X (.Expr (.Call (.Attribute (.Name x np) "extend" apos) [a] [] cpos) pos) (cG i f):=
 ke (XA (dA NC PySem.F.slot_list_extend PySem.F.type_list_extend dY (h.var c) (jz ha qy J) C S Z J rfl) a4) λD K H u=>by
  obtain⟨E0,E,o,y,B,I,z,r⟩:=u;obtain⟨e,d,z⟩:=zc z;obtain⟨g,t,z⟩:=zc z;have d:=xA d;by_cases O:e.length+g.length<=lim
  ·rw[RY O]at z;cases z
   obtain⟨l,xs,m,G,U,Y⟩:=I.rc.own i e d;refine⟨_,m,.inl ⟨rfl,_,gm.of U⟩,o,y,g,I.rc,t,λb n A p x g1 g2 g3 j=>?_⟩;have w:xs.length+n.length<=f6:=by
    rw[Y.length,j.length];have:lim<=f6:=by decide
    omega
   refine⟨l,b,xs,n,rfl,rfl,x.s1 _ _ U,g3,w,?_⟩;have s:=I.step x;exact r _ _ _<|s.rewrite (xs:=xs) d m<|(Y.mono x.s0).append j
  ·rw[EQ O]at z;cases z
end
theorem QY : ∀{ds:List D} {C:List Int},J8 ds=di C->Ym ds=di (C.map MA)
 | [],C,e=>by cases e;rfl
 | d::ds,C,e=>by
  cases d with
  | int i=>
   obtain⟨l,a,z⟩:=zC e;subst z;show((Bt<|.int i).bind λk=>(Ym ds).map λr=>k::r)=_;rw[QY a];rfl
  | _=>cases e
theorem QO : ∀(ps acc:List (Key×V)),((acc++ps).map (·.1)).Nodup->iI acc ps=acc++ps
 | [],acc,_=>by simp[iI]
 | (k,v)::ps,acc,h=>by
  have d : ¬((acc.any λz=>decide<|z.1=k)=dn):=λq=>by obtain⟨z,a,b⟩:=Ra.mp q;rw[LV,Ld]at h;have:=(List.nodup_append.mp h).2.2 z.1 (Lh.mpr ⟨z,a,rfl⟩) k ⋯;exact this<|of_decide_eq_true b
  show iI (bD acc k v) ps=_;rw[show bD acc k v=acc++[(k,v)]by unfold bD;rw[EQ d]];rw[QO ps (acc++[(k,v)]) (by simpa using h)];simp
theorem Ye : ∀{C:List Int},C.Nodup->(C.map<|MA (β:=Str)).Nodup
 | [],_=>by simp
 | n::C,h=>by simp only[Ld,Me,Lh,MA.injEq,exists_eq_right]at h ⊢;exact⟨h.1,Ye h.2⟩
theorem XZ{K:Iy}{H:Hp}{i:Int} : ∀{ks vs:List D} {C:List Key} {xs:List V},Ym ks=di C->C.length=xs.length->ej K H vs xs->
 (∀d,WY ks vs i=di d->∃v,V4 (C.zip xs) (MA i)=di v/\Rep K H d v)/\(WY ks vs i=d5->V4 (C.zip xs) (MA i)=d5)
 | [],vs,C,xs,e,l,r=>by cases e;exact⟨(λd q=>by cases q),λ_=>rfl⟩
 | k::ks,[],C,xs,e,l,r=>by rw[r.o6]at l ⊢;rw[List.length_eq_zero_iff.mp l];exact⟨(λd q=>by cases q),λ_=>rfl⟩
 | k::ks,v::vs,C,xs,e,l,r=>by
  obtain⟨I,a,Y⟩:=zc e;obtain⟨J,f,g⟩:=zC Y;subst g;obtain⟨x,O,rfl,m,n⟩:=r.ml;have U:=XZ (i:=i) f (by simpa using l) n;have step:I≠MA i->V4 ((I::J).zip (x::O)) (MA i)=V4 (J.zip O) (MA i):=λb=>by rw[Na];simp[V4,MG,b]
  cases k with
  | int j=>
   cases a;by_cases z:j=i
   ·subst z
    refine⟨λd q=>⟨x,?_,?_⟩,λq=>?_⟩
    ·rw[Na];exact Xl rfl
    ·have:v=d:=by simpa[WY]using q
     exact this ▸ m
    ·simp[WY]at q
   ·have b:(MA j:Key)≠MA i:=λq=>z (MA.inj q)
    rw[step b];have h:WY (.int j::ks) (v::vs) i=WY ks vs i:=by simp[WY,z]
    rw[h];exact U
  | str y=>
   cases a;rw[step (λq=>by cases q)];exact U
  | _=>cases a
noncomputable def Vb(F G J:D->D->Option D)(C L O S:CO D):CO D:=λa=>(C a).bind λx=>(L a).bind λy=>((F x y).bind qq).bind λb=>if b=dn then (O a).bind λz=>((G y z).bind qq).bind λI=>if I=dn then (S a).bind λw=>J z w else di (.bl ed)else di (.bl ed)
@[simp] theorem Cb(F G J a b c d):Vb F G J a b c d γ=(a γ).bind λx=>(b γ).bind λy=>((F x y).bind qq).bind λk=>if k=dn then (c γ).bind λz=>((G y z).bind qq).bind λI=>if I=dn then (d γ).bind λw=>J z w else di (.bl ed)else di (.bl ed):=rfl
noncomputable def j8(g:CO (Sk×List D))(C:CO D):CO D:=λb=>(g b).bind λa=>(C b).bind λx=>match a.1 with
 | .L=>if kA x=dn/\lW a.2=dn then di (.int (a.2.countP λd=>hH d x:Nat))else d5
 | .T=>d5
noncomputable def ph(r C U:R2)(L S Z td:TE):TE:=λa H Q=>L a H λx d=>S a d λy e=>r x y e λz I=>∃k,z = .bl k/\
 (if k=dn then Z a I λb Y=>C y b Y λh J=>∃O,h = .bl O/\(if O=dn then td a J λg f=>U b g f Q else Q (.bl ed) J)else Q (.bl ed) I)
theorem az(I:Inv X pins σ H s)(sub:gR H0 H)(J:gm X.K H p xs)(r:ej X.K H0 ds xs)(o:lW ds=dn) : ∃z,Reads s.heap (.ref p) (.list<|m5 ds) z:=by obtain⟨d,O,q,e⟩:=I.list J;obtain⟨f,U,Y,n,a⟩:=q.isList;obtain⟨z,b⟩:=F6 I sub o r O;exact⟨_,.list U Y a<|by simpa using b⟩
section
variable{X:Cx}{sc:hL}{N L:List Str}{k:Nat}{a b:eA}{pos:hB}{fa:CO D}{g:CO (Sk×List D)}
theorem SX.SO(h:SX X sc N L k):X.A.units+66<y3:=by have:=h.room.un;omega
end
noncomputable def pR(K:Iy):V->List V->Hp->VK->Prop:=λx g H Q=>∃a e v p f b,gR a H/\x = .ref p/\g=[v]/\Rep K a e v/\gm K H p f/\ej K a b f/\kA e=dn/\lW b=dn/\Q (.int (b.countP λd=>hH d e:Nat)) H
theorem Xc(hx:kr x=dn) : ∀ds:List D,lW ds=dn->(m5 ds).countP (λy=>Mv y<|i1 x)=ds.countP λd=>hH d x
 | [],_=>by simp[m5]
 | d::ds,h=>by simp only[lW,IS]at h;simp only[m5,OT];rw[E5 d x h.1 hx,Xc hx ds h.2]
theorem dZ(S:X.A.units+66<y3):N8 X "list.count" (pR X.K):=by
 intro i s Z H x T v R Q I C B h;obtain⟨G,a,y,p,W,b,sub,rfl,rfl,r,l,t,z,J,q⟩:=h;cases C;obtain⟨E,rfl,rw⟩:=yq B;obtain⟨as,u⟩:=DE I sub (qX z) r rw;obtain⟨bs,w⟩:=az I sub l t J;have N:=PySem.SeqAt.depth_of_shaped<|kC z;have O:=E8 b J;cases w with
 | list g j k U=>
  rename_i m Y n L
  obtain⟨P,o,M,f⟩:=m;subst j k;refine Nd F.slot_list_count ⟨_,g,rfl⟩ F.entry_list_count (F.args_list_count_2 _ _) (PySem.SeqAt.list_countAt p Y n o f E<|λy=>Mv (Nx s.heap y)<|i1 a) ⟨g,PySem.SeqAt.items_eqAt U u O (I8 a<|qX z) ?_,?_⟩
  ·have:min (Oe<|m5 b) (i1 a).depth<=(i1 a).depth:=Rf _ _
   omega
  ·have e:Y.toList.countP (λy=>Mv (Nx s.heap y)<|i1 a)=b.countP λd=>hH d a:=by
    rw[<- Xc (qX z) b J,<- PySem.SeqAt.readsAll_map _ _ _ O U,NK];rfl
   rw[e];exact⟨.int _,H,I.tok _,⟨_,rfl⟩,q⟩
section
variable{X:Cx}{sc:hL}{N L:List Str}{k:Nat}{o e:eA}{apos cpos:hB}{fa:CO D}{g:CO (Sk×List D)}
theorem xx(h:SX X sc N L k)(Y:PQ X o g)(he:PV X e fa)(C:En o "count" X.env (fh o X.env)=fh o X.env:=by rfl)
 (S:((p5 cpos<|starEach [e] X.env).all (λx=> !x.1) && (E1 cpos<|keywordEach [] X.env).all (λx=>x.1.isSome) && decide ([e].length+([]:List u4).length+(if ([]:List u4).isEmpty then 0 else 1)<30))=dn:=by rfl)
 (Z:(apos.endLine==cpos.line)=dn:=by rfl) (O:gv [e] X.env=[(ed,fh e X.env)]:=by rfl):PV X (.Call (.Attribute o "count" apos) [e] [] cpos) (j8 g fa):=
 j9 (dA NC PySem.F.slot_list_count PySem.F.type_list_count (dZ h.SO) Y (jz he qy O) C S Z O rfl) λE H Q t=>by
  obtain⟨j,i,d,rc,z,q⟩:=t;obtain⟨⟨u,a⟩,s,z⟩:=zc z;obtain⟨x,n,z⟩:=zc z;cases u with
  | T=>cases z
  | L=>
   have z:(if kA x=dn/\lW a=dn then di (D.int (a.countP λd=>hH d x:Nat))else d5)=di d:=z;by_cases I:kA x=dn/\lW a=dn
   ·rw[RY I]at z;cases z
    refine⟨j,i,.L,a,rc,s,λp f A m x1 b B r=>⟨.inl ⟨rfl,f,b⟩,m,i,x,rc.ext x1,n,λy l U J w=>?_⟩⟩;exact⟨U,x,y,p,f,a,J.sub,rfl,rfl,w,J.s1.seq b,r.mono J.s0,I.1,I.2,q _ l U (x1.trans J) rfl⟩
   ·rw[EQ I]at z;cases z
end
noncomputable def Cr(f:CO D)(γ:Ctx):Option (List D):=((f γ).bind l6).bind λn=>if inR n=dn/\n.toNat<=lim then di (kg 0 n.toNat)else d5
@[simp] noncomputable def ub:=@Cr.eq_1
theorem vC{K:Iy}{H:Hp} : ∀{ds:List D} {xs:List V} (j:Nat),ej K H ds xs->ej K H (ds.eraseIdx j) (xs.eraseIdx j)
 | [],xs,j,r=>by rw[r.o6];exact ej.nil
 | d::ds,xs,0,r=>by obtain⟨x,b,e,_,a⟩:=r.ml;subst e;exact a
 | d::ds,xs,j+1,r=>by obtain⟨x,b,e,z,a⟩:=r.ml;subst e;exact ej.cons z<|vC j a
end DL
namespace L2
open PySem PySem.Spec PyProof.Rows
theorem QF : ∀{xs:List V} {z:List eh} (j:Nat),fy xs z->fy (xs.eraseIdx j) (z.eraseIdx j)
 | [],_,j,.nil=> .nil
 | _::_,_,0,.cons _ r=>r
 | _::_,_,j+1,.cons h r=> .cons h (QF j r)
end L2
namespace DL
open PySem L2
noncomputable def Er(ds C fs:List D):List D:=(ds.zip<|C.zip fs).map λp=>D.tup [p.1,p.2.1,p.2.2]
noncomputable def Hy(f g h:CO D)(γ:Ctx):Option (List D):=((f γ).bind jA).bind λm=>((g γ).bind jA).bind λn=>((h γ).bind jA).map λo=>Er m.2 n.2 o.2
@[simp] noncomputable def FJ:=@Hy.eq_1
noncomputable def Gu(f g:CO D)(γ:Ctx):Option (List D):=((f γ).bind jA).bind λm=>((g γ).bind jA).bind λn=>if m.2.length<=lim then di (JY m.2 n.2)else d5
@[simp] noncomputable def Ee:=@Gu.eq_1
open PySem.Spec PyProof.Rows
theorem Yj:N0 (.type "list") "keys" = pure d5:=by rw[typeLookup_type,Tp];kernel_rfl
theorem J9:entryFor table "list.__getattribute__" = di nt.«object.__getattribute__» :=
 entryFor_alias (id':="object.__getattribute__") (by kernel_rfl) (by first | rfl | decide +kernel) ⋯ (by kernel_rfl)
section
variable{prog:i3}{w:h8}{A:mm}{E:RQ}{h:f7}{g:Array GenState}{d:Drawn}{t:Nat}{os:OsState}{a:eg}{o:nr}
theorem Jk(hx:h.get? a=di ⟨.type "list",d5,.seq vs nk,sl⟩)(U:A.handled=d5)
 (Y : ∀h' e t',(∀b u,h.get? b=di u->h'.get? b=di u)->(∃J,h'.get? e=di J/\J.cls = .type "AttributeError")->E (.ref e) ⟨h',g,d,t',os⟩) :
 wpAny (e9 prog w) A (nt.«object.__getattribute__» ⟨[.ref a,.str "keys" tk],[]⟩) Q E ⟨h,g,d,t,os⟩:=by
 have n:(⟨h,g,d,t,os⟩:eF).TypeIs (.ref a) "list":=⟨_,hx,rfl⟩;have k:=Yj
 repeat (any_goals (first | assumption | wp_step))
 unfold raiseAttrError;have f:((LC (toString "'" ++ toString ((Manifest.find? "list").elim "list" λx=>x.tpName)++toString "' object has no attribute '")++LC "keys" ++ LC "'"):Str).length<=f6:=by decide +kernel
 generalize (LC (toString "'" ++ toString ((Manifest.find? "list").elim "list" λx=>x.tpName)++toString "' object has no attribute '")++LC "keys" ++ LC "'")=z at f ⊢;refine IA (wpAny_mkStr (hx:=f) ?_);refine IA ?_;unfold newExc newTuple;refine IA (Mi ?_ (by size_fits));refine IA (m:=P7 _ _) (wpAny_of_eq (a:=Ls) (by first | rfl | (simp only[P7];rfl)) ?_);refine Mi ?_ (by size_fits);simp only[LG];have I:((h.push {cls:= .type "tuple",data:= .seq #[.str z t]}).push {cls:= .type "AttributeError",data:= .fields (#[.ref h.objs.size,.none,.none,.none,.bool ed,.none]++Rz (.type "AttributeError") [.str z t])}).get? (h.objs.size+1) =
  di {cls:= .type "AttributeError",data:= .fields (#[.ref h.objs.size,.none,.none,.none,.bool ed,.none]++Rz (.type "AttributeError") [.str z t])}:=by heap_get
 have O : ∀b u,h.get? b=di u->((h.push {cls:= .type "tuple",data:= .seq #[.str z t]}).push {cls:= .type "AttributeError",data:= .fields (#[.ref h.objs.size,.none,.none,.none,.bool ed,.none]++Rz (.type "AttributeError") [.str z t])}).get? b=di u:=λb u e=>IB _ (IB _ e);have i:h.get? (h.objs.size+1)=d5:=Heap.get?_none_of_le (DJ _);generalize ((h.push {cls:= .type "tuple",data:= .seq #[.str z t]}).push {cls:= .type "AttributeError",data:= .fields (#[.ref h.objs.size,.none,.none,.none,.bool ed,.none]++Rz (.type "AttributeError") [.str z t])})=h2 at I O ⊢;refine IA (wpAny_mkText ?_);unfold noteAttr lacksNameAndObj;have j:(⟨h2,g,d,t+1+1,os⟩:eF).TypeIs (.ref (h.objs.size+1)) "AttributeError":=⟨_,I,rfl⟩;have l:isSubtype (.type "AttributeError") (.type "AttributeError")=pure dn:=by rw[isSubtype_type];kernel_rfl
 repeat (any_goals (first | assumption | with_reducible refine wpAny_loadPart_at I ?_ | with_reducible refine wpAny_load I ?_ | wp_step))
 refine wpAny_raiseNew_none U<|Y _ _ _ (λb u e=>?_) ⟨_,OX _ I<|Obj.isFreed_of_fields<|PH rfl _,Obj.cls_mapFields ..⟩;rw[LZ _ _ (λq=>by rw[<- q]at e;rw[i]at e;cases e)];exact O b u e
theorem J5(hx:h.get? a=di ⟨.type "list",d5,.seq vs nk,sl⟩)(I:A.handled=d5)
 (J : ∀h' e t',(∀b u,h.get? b=di u->h'.get? b=di u)->(∃z,h'.get? e=di z/\z.cls = .type "AttributeError")->R (.error (.ref e)) ⟨h',g,d,t',os⟩) :
 codeAny (e9 prog w) A (.call (.builtin "list.__getattribute__") ⟨[.ref a,.str "keys" tk],[]⟩) R ⟨h,g,d,t,os⟩:=
 codeAny_call_builtin NL.plain J9 (NL.check _ _ _ _ _ _ _ _ (show(⟨h,g,d,t,os⟩:eF).TypeIs (.ref a) "list" from⟨_,hx,rfl⟩) (F.args_list_getattribute_2 _ _) (Jk hx I J))
theorem aT:N0 (.type "list") "__getattr__" = pure d5:=by rw[typeLookup_type,Tp];kernel_rfl
theorem eH(hx:h.get? a=di ⟨.type "list",d5,.seq vs nk,sl⟩)(I:A.handled=d5)
 (J : ∀h' t',(∀b u,h.get? b=di u->h'.get? b=di u)->Q d5 ⟨h',g,d,t',os⟩):wpAny (e9 prog w) A (getAttr? (.ref a) "keys") Q E ⟨h,g,d,t,os⟩:=by
 have m:(⟨h,g,d,t+1,os⟩:eF).TypeIs (.ref a) "list":=⟨_,hx,rfl⟩;have f2:=NL.lookup;have j:=NL.bind (.ref a);have k:=aT;have l:isSubtype (.type "AttributeError") (.type "AttributeError")=pure dn:=by rw[isSubtype_type];kernel_rfl
 unfold getAttr? getAttrBy? getAttrBy
 repeat (any_goals (first | assumption | wp_step))
 refine J5 (g:=g) (d:=d) (os:=os) hx I λh' e t' O z=>?_;obtain⟨U,z,Y⟩:=z;have f:(⟨h',g,d,t',os⟩:eF).TypeIs (.ref e) "AttributeError":=⟨U,z,Y⟩;have i:=J h' t' O;show wpAny _ _ (Tw _ _ _ _ _ _ _) _ _ _;unfold Tw hookOrError attributeErrorLeaves
 repeat (any_goals (first | assumption | wp_step))
end
noncomputable def vy:List D->Option (List D×List D)
 | []=>di ([],[])
 | d::r=>match d with
  | .tup a=>match a with
   | [k,v]=>(vy r).map λp=>(k::p.1,v::p.2)
   | _=>d5
  | _=>d5
noncomputable def nB(f:CO (List D))(γ:Ctx):Option D:=(f γ).bind λa=>(vy a).bind λp=>mI p.1 p.2
@[simp] noncomputable def Ei:=@nB.eq_1
noncomputable def Ct(C I:CO D):CO D:=λa=>(C a).bind λd=>(I a).bind λk=>match d with
 | .l4 b e=>(l6 k).bind λi=>WY b e i
 | _=>d5
noncomputable def uR(I C:CO D):CO D:=λa=>(I a).bind λk=>(C a).bind λd=>match d with
 | .l4 b e=>(l6 k).map λi=> .bl (WY b e i).isSome
 | _=>d5
section
variable{X:Cx}{pins:RW}{σ:St}{A:mm}{R:Result->eF->Prop}{H0:Hp}{l it d:eg}{ks:List Key}{ys xs:List V}
theorem bj(hh:A.handled=d5)(hx:xs.length=ks.length)(hy:ys.length=ks.length)(hp : ∀(n:Nat) (h1:n<xs.length) (h2:n<ks.length) (h3:n<ys.length),∃p,xs[n] = .ref p/\hG X.K H0 p [kV ks[n],ys[n]])(S:H0 d=d5)(Z:l≠d) : ∀(m n:Nat) (s:eF) (H:Hp) (C:List (Key×V)) (i:Int) (t:Tok),n+m=ks.length->
 Inv X pins σ H s->gR H0 H->H l=di (.lst xs)->s.heap.IsListIter it l n->wZ X pins H it->H d=di (.dK C)->C.length+m<=f6->
 (∀L,Inv X pins σ (upd H d<|.dK<|iI C<|(ks.zip ys).drop n) L->R (.ok<|.ret .none) L)->
 codeAny (e9 X.prog X.w) A (.builtin "dict.update.loop" ⟨[.ref d,.ref it,.int i t,.none],[]⟩) R s:=by
 intro m
 induction m with
 | zero=>
  intro n s H C i t hn I sub O st J a hz U;obtain⟨z1,Y,c,M,ll,g⟩:=I.B8 O;refine Pq yH ?_;unfold nt.«dict.update.loop»;have h:s.heap.IsList l Y.toArray:=⟨_,g,rfl,_,rfl⟩;refine IA<|wpAny_pyNext_list_end (s:=s) hh st h (by simp;omega) λh' eb=>?_;refine IA<|IK ?_;have e0:upd H d (.dK<|iI C<|(ks.zip ys).drop n)=H:=by
   rw[List.drop_eq_nil_of_le (by simp;omega)];funext c;by_cases q:c=d
   ·rw[q,zO,a];rfl
   ·rw[zK q]
  rw[e0]at U;exact IK (U _<|I.Dk (t':=s.toks) (fp:=[it]) (λb o z e=>eb b o (by simpa using z) e)<|λb z=>by rw[Mk.mp z];exact J)
 | succ m ih=>
  intro n s H C i t hn I sub O st J a hz U;obtain⟨z1,Y,c,M,ll,g⟩:=I.B8 O;have h:s.heap.IsList l Y.toArray:=⟨_,g,rfl,_,rfl⟩;have Q:n<ks.length:=by omega
  obtain⟨p,ep,T⟩:=hp n ⋯ Q ⋯;obtain⟨u,hu,G⟩:=M.get (ID<|show n<xs.length by omega);rw[ep]at G;have eu:u = .ref p:=G;subst eu;refine Pq yH ?_;unfold nt.«dict.update.loop»;refine IA<|wpAny_pyNext_list_item (s:=s) st h (x:= .ref p) (by simpa using hu) λh' W sb=>?_;have f:=I.Dk (h':=h') (t':=s.toks) (fp:=[it]) (λb o z e=>(sb.2 b<|by simpa using z).trans e) (λb z=>by rw[Mk.mp z];exact J);obtain⟨ts,rt,⟨o,B,co,nn,bg⟩,zt⟩:=f.tuple<|m4 sub T;obtain⟨u1,k,rfl,bi,j⟩ : ∃u1 k,ts=u1::k/\RelV (kV ks[n]) u1/\fy [ys[n]] k:=by
   cases rt with
   | cons q1 j=>exact⟨_,_,rfl,q1,j⟩
  obtain⟨u2,rfl,bm⟩:=yq j;have bn:({s with heap:=h'}:eF).TypeIs (.ref p) "tuple":=⟨_,B,co⟩;refine IA (MH (IA (wpAny_tryCatch ?_)));unfold Builtin.Dict.pairItems;refine IA (OM bn ?_);rw[RY ⋯];refine IA (MT B bg (IK ?_));show wpAny _ _ (sh [u1,u2] (dictSet d u1 u2)) _ _ _;obtain⟨zz,bv,vs,r,dd⟩:=Fx f.f9 a;have c0:vs.length<=f6:=by rw[<- r.length];exact zz
  have c1:(bD C ks[n] ys[n]).length<=f6:=by have:=Jm C ks[n] ys[n];omega
  refine MH<|wpAny_dictSet_pairs (hsz:=c0) (mi bi) dd λc2 y E=>?_;have he : ∃q,c2.get? d=di q:=let ⟨q,_,_,hq,_⟩:=y;⟨q,hq⟩;have N:=sI (t':=s.toks+1) f (by rw[a];exact MZ) E he<|BJ c1 bv (r.put ks[n] bm) y;have F:it≠d:=λq=>by have:=J.1;rw[q,a]at this;cases this
  refine IK ⟨yB _,ih (n+1) _ _ (bD C ks[n] ys[n]) (i+1) 0 ⋯ N (λc o e=>?_) (by rw[zK Z];exact O) (W.at λo q=>(E.2 it F).trans q) ⟨by rw[zK F];exact J.1,J.2⟩ zO (by have:=Jm C ks[n] ys[n];omega) λL P=>U L ?_⟩
  ·rw[zK (λq=>by rw[q,S]at e;cases e)];exact sub _ _ e
  ·have c7:n<(ks.zip ys).length:=by simp;omega
   have e1:(ks.zip ys).drop n=(ks[n],ys[n])::(ks.zip ys).drop (n+1):=by rw[MN c7];simp
   have e2:upd (upd H d<|.dK<|bD C ks[n] ys[n]) d (.dK<|iI (bD C ks[n] ys[n])<|(ks.zip ys).drop (n+1))=upd H d (.dK<|iI C<|(ks.zip ys).drop n):=by
    funext c;by_cases q:c=d
    ·rw[q,zO,zO,e1];rfl
    ·rw[zK q,zK q,zK q]
   rw[<- e2];exact P
theorem bq(I:Inv X pins σ H s)(Y:X.A.handled=d5)(sub:gR H0 H)(z:H l=di (.lst xs))(hx:xs.length=ks.length)(Z:ys.length=ks.length)
 (S : ∀(n:Nat) (h1:n<xs.length) (h2:n<ks.length) (h3:n<ys.length),∃p,xs[n] = .ref p/\hG X.K H0 p [kV ks[n],ys[n]]) (hz:ks.length<=f6)
 (L : ∀C p,H p=d5->Inv X pins σ (upd H p (.dK (iI [] (ks.zip ys)))) C->Q (.ref p) C):wpAny (e9 X.prog X.w) X.A (call (.type "dict") [.ref l]) Q X.xe s:=by
 have J:H s.heap.objs.size=d5:=I.fresh;have x:H0 s.heap.objs.size=d5:=jw sub J;have i:l≠s.heap.objs.size:=λq=>by rw[q,J]at z;cases z
 refine callType_codes (Q₁:=λobj f=>obj = .ref s.heap.objs.size/\f = {s with heap:=s.heap.push {cls:= .type "dict",data:= .dict #[]}}) F.kt_called_dict (F.kt_typeCall_dict_1 _) F.entry_dict_init (kt_code_dict_new _ ⟨rfl,rfl⟩) ?_;rintro obj f ⟨rfl,rfl⟩;have r:=I.laid (a:=s.heap.objs.size) (o:= .dK []) (t':=s.toks) (λ_ _ q=>IB {cls:= .type "dict",data:= .dict #[]} q) (IH _) (mG s.heap I.big);have j:({s with heap:=s.heap.push {cls:= .type "dict",data:= .dict #[]}}:eF).TypeIs (.ref s.heap.objs.size) "dict":=⟨_,IV _ rfl,rfl⟩;obtain⟨P,m,c,N,M,B⟩:=I.B8 z;have O:(s.heap.push {cls:= .type "dict",data:= .dict #[]}).get? l=di {cls:= .type "list",data:= .seq m.toArray c}:=IB _ B;refine⟨j,F.args_dict_init_2 _ _,?_⟩;unfold nt.«dict.__init__»;refine IA ?_;unfold Builtin.Dict.selfAndRest;refine IA (wpAny_notOrdered_dict j ?_);show wpAny _ _ (pure (s.heap.objs.size,[Mm l])) _ _ _;refine IK ?_;show wpAny _ _ (Builtin.Dict.updateFrom "dict.__init__" s.heap.objs.size (.ref l) [] .none) _ _ _;unfold Builtin.Dict.updateFrom;refine IA (OM (T:="list") ⟨_,O,rfl⟩ ?_);rw[RY ⋯];refine IA (eH (g:=s.gens) (d:=s.drawn) (t:=s.toks) (os:=s.os) O (show X.A.in1.in1.handled=d5 from Y) λh' t' k=>?_);have U:Inv X pins σ (upd H s.heap.objs.size (.dK [])) {s with heap:=h',toks:=t'}:=r.kept k;have y:=k _ _ O;simp only[Option.isNone_none,if_true];refine IA (OB (IA (Ri (items:=m.toArray) ⟨_,y,rfl,_,rfl⟩ ?_)));refine IK ⟨yB _,?_⟩;have u:=U.kept (h':=h'.push {cls:= .type "list_iterator",data:= .fields #[.ref l,.int 0 0]}) (t':=t') λb o e=>IB _ e;have G:s.heap.objs.size<h'.objs.size:=by have:=IT (k _ _ (IV s.heap (o:={cls:= .type "dict",data:= .dict #[]}) rfl));exact this
 have E:=U.Dd (b:=h'.objs.size) (H':=upd H s.heap.objs.size<|.dK []) (IH _) U.fresh;refine bj (H0:=H0) (l:=l) (it:=h'.objs.size) (ks:=ks) (ys:=ys) (xs:=xs) (show X.A.in1.handled=d5 from Y) hx Z S x i ks.length 0 _ (upd H s.heap.objs.size<|.dK []) [] 0 0 (MK _) u (sub.trans<|je J _) (by rw[zK i];exact z) ⟨_,IV _ rfl,rfl,rfl⟩ E zO (by simpa using hz) λC h=>?_;rw[bN,List.drop_zero]at h;exact⟨rfl,L C _ J h⟩
end
theorem Kq : ∀{ps ks vs:List D},vy ps=di (ks,vs)->ks.length=ps.length/\vs.length=ps.length
 | [],ks,vs,h=>by cases h;exact⟨rfl,rfl⟩
 | d::r,ks,vs,h=>by
  unfold vy at h;split at h
  ·split at h
   ·obtain⟨⟨a,b⟩,e,z⟩:=zC h
    cases z;obtain⟨I,J⟩:=Kq e;exact⟨by simp[I],by simp[J]⟩
   ·cases h
  ·cases h
theorem QG{K:Iy}{H:Hp} : ∀{ps ks vs:List D} {xs:List V} {C:List Int},vy ps=di (ks,vs)->ej K H ps xs->J8 ks=di C->
 ∃ys,ej K H vs ys/\ys.length=C.length/\xs.length=C.length/\∀(n:Nat) (L:n<xs.length) (S:n<C.length) (z:n<ys.length),∃p,xs[n] = .ref p/\hG K H p [.int C[n],ys[n]]
 | [],ks,vs,xs,C,h,r,hi=>by cases h;cases hi;rw[r.o6];exact⟨[],ej.nil,rfl,rfl,λn L=>by cases L⟩
 | d::ps,ks,vs,xs,C,h,r,hi=>by
  unfold vy at h;split at h
  ·split at h
   ·rename_i k v
    obtain⟨⟨a,b⟩,e,I⟩:=zC h;cases I;obtain⟨x,y,rfl,L,S⟩:=r.ml;cases k with
    | int j=>
     obtain⟨w,J,O⟩:=zC hi;subst O;obtain⟨ys,U,Y,o,s⟩:=QG e S J;obtain⟨q,E,rfl,z,f⟩:=kR L;obtain⟨A,B,rfl,g,i⟩:=f.ml;obtain⟨t,u,rfl,l,m⟩:=i.ml;rw[m.o6,jq g]at z;refine⟨t::ys,ej.cons l U,by simp[Y],by simp[o],λn g1 g2 g3=>?_⟩;cases n with
     | zero=>exact⟨q,rfl,z⟩
     | succ n=>exact s n (by simpa using g1) (by simpa using g2) (by simpa using g3)
    | _=>cases hi
   ·cases h
  ·cases h
section
variable{X:Cx}{sc:hL}{N L:List Str}{k:Nat}{a o i:eA}{f:CO (List D)}{fd fk:CO D}{p pos:hB}
theorem iH(h:SX X sc N L k)(S:vd sc "dict" = dn)(zd:X.mg "dict" = d5)(Z:PO X a f)(C:gv [a] X.env=[(ed,fh a X.env)]:=by rfl) :
 PV X (.Call (.Name "dict" p) [a] [] pos) (nB f):=by
 intro g s σ H Q I Y;obtain⟨H0,γ,d,rc,z,q⟩:=Y;obtain⟨w,E,z⟩:=zc z;obtain⟨⟨b,j⟩,u,z⟩:=zc z;have P:X.A.handled=d5:=I.ok.hd h.calm;unfold mI at z;cases hi:J8 b with
 | none=>rw[show(b,j).1=b from rfl,hi]at z;cases z
 | some e=>
  rw[show(b,j).1=b from rfl,hi]at z;dsimp only at z;by_cases m:b.length=j.length/\e.Nodup/\b.length<=lim
  ·rw[RY m]at z
   cases z;refine D2<|yF I (h.gl S).1 zd PyProof.Rows.boot_dict (LY ?_ (by rw[C];rfl) rfl);rw[C];show wpAny _ _ (M0 ((ed,fh a X.env)::[])) _ _ s;refine Ou<|ft (Z g s σ H (λv i=>∃l xs J,v = .ref l/\Ext H0 H J i/\J l=d5/\i l=di (.lst xs)/\ej X.K J w xs) I ⟨H0,γ,w,rc,E,λl xs i J x1 g1 g2 g3 O=>⟨l,xs,J,rfl,x1,g2,g3,O⟩⟩) λv s1 Y=>?_;obtain⟨y,i,x,ry,l,xs,J,rfl,x1,g2,g3,O⟩:=Y;cases ry;refine PK ?_;obtain⟨ys,R,T,W,r4⟩:=QG u O hi;have o:(e.map<|MA (β:=Str)).length=e.length:=by simp
   have nl:e.length=b.length:=by have:=(Kq u).1;have:=O.length;omega
   refine bq (H0:=J) (ks:=e.map MA) (ys:=ys) (xs:=xs) x P x1.sub g3 (by rw[o];exact W) (by rw[o];exact T) (λn F G M=>?_) ?_ λs' p U r=>?_
   ·obtain⟨t,t1,t2⟩:=r4 n F (by simpa using G) M
    refine⟨t,t1,?_⟩;simpa[kV]using t2
   ·have:lim<=f6:=by decide
    rw[o];omega
   ·have B:iI [] ((e.map<|MA (β:=Str)).zip ys)=(e.map MA).zip ys:=by
     rw[QO _ []]
     ·simp
     ·rw[Oi,List.map_fst_zip ⋯]
      exact Ye m.2.1
    rw[B]at r;exact⟨.ref p,_,r,rfl,q (.ref p) _ _ ((x1.trans<|Ext.hide x1.sub U _).show (kK x1.s1 U) (jw x1.sub U) zO rc.sub)
     (show ∃a xs,V.ref p = .ref a/\Dn (upd J p _) a b xs/\ej X.K (upd J p _) j xs from⟨p,ys,rfl,⟨_,QY hi,by omega,zO⟩,R.mono<|je (jw x1.sub U) _⟩)⟩
  ·rw[EQ m]at z;cases z
theorem Au(h:SX X sc N L k)(U:PV X o fd)(hi:PV X i fk)(Y:Gk i:=by intro _ _;rfl):PV X (.Subscript o i pos) (Ct fd fk):=
 j9 (rE (by have:=h.D0;omega) U hi Y) λS H Q C=>by
  obtain⟨g,f,d,rc,z,q⟩:=C;obtain⟨s,t,z⟩:=zc z;obtain⟨P,u,z⟩:=zc z;cases s with
  | l4 F G=>
   obtain⟨j,w,A⟩:=zc z;refine⟨g,f,_,rc,t,λv M I x r=>⟨I,f,_,rc.ext x,u,λy l m J e=>?_⟩⟩;obtain⟨ad,b,rfl,⟨R,g1,g2,g3⟩,B⟩:=(show ∃a b,v = .ref a/\Dn I a F b/\ej X.K I G b from r);rw[jC w]at e;have E:y = .int j:=e;obtain⟨O,n,p⟩:=(XZ (i:=j) g1 g2<|B.mono J.s0).1 d A;refine⟨ad,O,rfl,?_,q O l m (x.trans J) p⟩;rw[E,<- n];exact .inl ⟨_,MA j,.inl<|J.s1 _ _<|x.sub _ _ g3,rfl,rfl⟩
  | _=>cases z
theorem pV(h:SX X sc N L k)(hi:PV X i fk)(Z:PV X o fd)(S:u9 .In o=ed:=by with_unfolding_all rfl):l9 X (.Compare i [.In] [o] pos) (sB<|uR fk fd):=
 Vg (Az (AS (by have:=h.D0;omega) hi Z) S) λσ H Q P=>by
  obtain⟨m,l,b,rc,z,q⟩:=P;obtain⟨db,A,G⟩:=zc z;obtain⟨k1,B,z⟩:=zc A;obtain⟨u,C,z⟩:=zc z;cases u with
  | l4 f g=>
   obtain⟨j,E,F⟩:=zC z;subst F;cases G;refine⟨m,l,_,rc,B,λy T n x O=>⟨n,l,_,rc.ext x,C,λv e I J r=>?_⟩⟩;obtain⟨ad,d,rfl,⟨kk,g1,g2,U⟩,M⟩:=(show ∃a d,v = .ref a/\Dn I a f d/\ej X.K I g d from r);rw[jC E]at O;have Y:y = .int j:=O;obtain⟨p,s⟩:=XZ (i:=j) g1 g2 M;cases hv:WY f g j with
   | none=>
    refine⟨ad,d5,rfl,?_,_,rfl,?_⟩
    ·rw[Y,<- s hv]
     exact .inl ⟨_,MA j,.inl<|J.sub _ _ U,rfl,rfl⟩
    ·rw[hv]at q;exact q e I<|x.trans J
   | some w=>
    obtain⟨R,t,W⟩:=p w hv;refine⟨ad,di R,rfl,?_,_,rfl,?_⟩
    ·rw[Y,<- t]
     exact .inl ⟨_,MA j,.inl<|J.sub _ _ U,rfl,rfl⟩
    ·rw[hv]at q;exact q e I<|x.trans J
  | _=>cases z
end
noncomputable def Fh:D->Option (List Int)
 | .tup a=>J8 a
 | _=>d5
noncomputable def Bm:List D->Option (List<|List Int)
 | []=>di []
 | d::ds=>(Fh d).bind λk=>(Bm ds).map λr=>k::r
noncomputable def uQ(f:CO (List D))(γ:Ctx):Option D:=(f γ).bind λb=>(vy b).bind λp=>(Bm p.1).bind λa=>if a.Nodup/\a.length<=lim then di (.lh a p.2)else d5
noncomputable def Fp:List (List Int)->List D->List Int->Option D
 | k::ks,v::vs,i=>if k=i then di v else Fp ks vs i
 | _,_,_=>d5
noncomputable def HE(C I:CO D)(γ:Ctx):Option D:=(C γ).bind λd=>(I γ).bind λk=>match d with
 | .lh a b=>(Fh k).bind λi=>Fp a b i
 | _=>d5
noncomputable def Fo(d k x:D):Option D:=match d with
 | .lh a b=>(Fh k).map λi=>(Fp a b i).getD x
 | _=>d5
noncomputable def HC(C I z:CO D)(γ:Ctx):Option D:=(C γ).bind λd=>(I γ).bind λk=>(z γ).bind λx=>Fo d k x
noncomputable def HA(f:CO D)(γ:Ctx):Option (List D):=(f γ).bind λd=>match d with
 | .lh a _=>di (a.map λk=> .tup (k.map .int))
 | _=>d5
section
variable(γ:Ctx)
@[simp] noncomputable def Eh:=@uQ.eq_1
@[simp] noncomputable def Ge:=@HE.eq_1
@[simp] noncomputable def Ga:=@HC.eq_1
@[simp] noncomputable def FY:=@HA.eq_1
end
noncomputable def GG:List (List Int)->List Int->List Int->Option Int
 | k::ks,n::ns,i=>if k=i then di n else GG ks ns i
 | _,_,_=>d5
noncomputable def eqT(ks:List (List Int))(C:List Int)(z:List (List Int))(I:List Int):Bool:=decide (ks.length=z.length) && (ks.zip C).all λx=>decide<|GG z I x.1=di x.2
noncomputable def GJ(d e:D):Option Bool:=match d with
 | .lh a f=>match e with
  | .lh z I=>(J8 f).bind λb=>(J8 I).map λJ=>eqT a b z J
  | _=>d5
 | _=>d5
@[simp] noncomputable def Iw(d e:D):Option D:=(GJ d e).map D.bl
@[simp] noncomputable def Iv(d e:D):Option D:=(GJ d e).map λb=>D.bl<|!b
noncomputable def Hz(f:CO D)(γ:Ctx):Option D:=(f γ).bind λd=>match d with
 | .lh a _=>di (.int a.length)
 | _=>d5
@[simp] noncomputable def FW:=@Hz.eq_1
abbrev TT:=List (List (List Int))
inductive Pl where
 | out | tab (k:Nat) | row (k m:Nat)
deriving DecidableEq
section
variable{K:Iy}{al:List (Nat×Pl)}{E0 E H0 H xc H':Hp}{σ Um:St}{γ γ':Ctx}{Z:TT}{ad:Pl->eg}
open Classical in
end
open Classical in
section
variable{H:Hp}{Z:TT}{ad:Pl->eg}
end
end DL
namespace DL
open PySem PySem.Spec PyProof.Rows L2
open PySem.W (KasT kas_sort kas_ask kat_run kat_snds kat_lt kat_cons kat_no kat_yes kat_nil kat_go kat_one kat_kind KatTups KatGo)
section
variable{prog:i3}{w:h8}{A:mm}{E:RQ}{s:eF}
theorem WR{a kS:eg}{I:List eh}{out:List eh}{e C:Nat}{P:PySem.Fin->eF->Prop}{st:SortSt}(J:s.heap.get? kS=di (g5 "list" I.toArray e))(L:s.heap.get? a=di (g5 "list" #[] C))(O:kS≠a)(U:I.length<=f6)(Y:out.length<=f6)
 (Z:(D9 st).map (·.2)=out.toArray) (S:failedOf st=d5)
 (h : ∀h' c,h'.objs.size=s.heap.objs.size->(∀b o,b≠a->b≠kS->s.heap.get? b=di o->h'.get? b=di o)->h'.get? a=di (g5 "list" out.toArray c)->P (.done (.ret .none)) {s with heap:=h'}) :
 wpAny (e9 prog w) A (ksk_tail a ed C (.ref kS) st) P E s:=by
 unfold ksk_tail;refine IA (NT J rfl ?_ (by rw[II];exact U) (LL _));refine IA (PR ?_);have z:(s.heap.update kS (Lo λ_=>(#[]:Array eh))).get? a=di (g5 "list" #[] C):=(LZ _ _ O).trans L;refine IA (PU z rfl ?_);simp only[My,if_false];rw[Z];refine IA (NT z rfl ?_ (LL _) (by show out.toArray.size<=_;rw[II];exact NV Y));rw[S];simp only[bne_self_eq_false,My,if_false];obtain⟨c,g⟩ : ∃c,((s.heap.update kS (Lo λ_=>(#[]:Array eh))).update a (Lo λ_=>out.toArray)).get? a=di (g5 "list" out.toArray c):=⟨_,Po z λ_=>out.toArray⟩;refine IK (h _ c (by rw[MX,MX]) (λb o d f q=>?_) g);exact(LZ _ _ (Ll d)).trans ((LZ _ _ (Ll f)).trans q)
theorem rX{a kS:eg}{vs z:List eh}{ps:List (Int×Int)}{e L:Nat}{P:PySem.Fin->eF->Prop}(hk:s.heap.get? kS=di (g5 "list" z.toArray e))(ha:s.heap.get? a=di (g5 "list" #[] L))(a7:kS≠a)(a8:z.length=vs.length)(S:ps.length=vs.length)(as:vs.length<64)
 (Z : ∀i (hi:i<z.length),xr s.heap z[i] (ps.getD i (0,0)).1 (ps.getD i (0,0)).2)
 (h : ∀h' c,h'.objs.size=s.heap.objs.size->(∀b o,b≠a->b≠kS->s.heap.get? b=di o->h'.get? b=di o)->h'.get? a=di (g5 "list" (Nf ((j1 ps).map λi=>vs.getD i Ls)) c)->P (.done (.ret .none)) {s with heap:=h'}) :
 wpAny (e9 prog w) A (ksk_end a ed vs.toArray L (.ref kS) z.toArray) P E s:=by
 have hz:vs.length<=f6:=by rw[Nw];omega
 have l:vs.toArray.size=vs.length:=by simp
 have c2:((j1 ps).map λi=>vs.getD i Ls).length=vs.length:=by rw[IU,(jI ps).length_eq,Lw,S]
 have step : ∀t:Sem PySem.Fin,wpAny (e9 prog w) A t P E s->wpAny (e9 prog w) A (if ed=dn then (do let _ <- rule "list.sort.reverse";t)else t) P E s:=λt ht=>ht;unfold ksk_end
 try dsimp only
 refine step _ ?_;by_cases f:vs.toArray.size<2
 ·rw[RY f,RY f]
  refine IA<|IK ?_;rw[StateT.run_pure];refine IA<|IK ?_;dsimp only;have ev:(j1 ps).map (λi=>vs.getD i Ls)=vs:=by unfold j1;rw[RY ⋯,S];exact jb _ _
  have e7:Array.map (λx=>x.snd) (D9<|SortSt.mk' general' (z.toArray.zip vs.toArray) #[] 7 d5)=((j1 ps).map (λi=>vs.getD i Ls)).toArray:=by show Array.map (λx=>x.snd) (z.toArray.zip vs.toArray)=_;rw[ev];apply Array.ext';simp[Array.toList_map,Array.toList_zip];rw[List.map_snd_zip ⋯]
  exact WR hk ha a7 ⋯ ⋯ e7 rfl h
 ·rw[EQ f,EQ f]
  have n2:2<=vs.length:=by rw[<- l];omega
  obtain⟨fs,f1,f2,f3⟩:=eT (ks:=λi=>(ps.getD i (0,0)).1) λi hi=>(Z i hi).one;refine IA (kat_kind (T:=NM "int") f1 ⋯ (λv hv=>?_) ⋯ ?_)
  ·obtain⟨k,t,rfl⟩:=f3 v hv
   exact PySem.W.Looks.of_pure rfl
  have ep:(xK (λi j=>vb (ps.getD i (0,0))<|ps.getD j (0,0))<|kas_sort vs.length).toList=j1 ps:=by unfold j1;rw[EQ ⋯,S]
  refine IA (MI (kat_run (E:=E) (ks:=z) (Q:=λY d=>∃p:Array Nat,D9 Y=p.map (PySem.W.kas_item<|z.toArray.zip vs.toArray)/\failedOf Y=d5/\p.toList=j1 ps/\d=s)
   (G:=λp d=>p.toList=j1 ps/\d=s)
   a8 n2 as (λp Y d a1 M N n=>⟨p,M,N,n.1,n.2⟩) (VF (lt:=λi j=>vb (ps.getD i (0,0))<|ps.getD j (0,0)) (λi j C hi hj I=>?_) (Ju ⋯) ⟨ep,rfl⟩)) ?_ λ_ _ e=>e)
  ·show wpAny _ _ (keyLt' _ (z.getD i Ls)<|z.getD j Ls) C _ _
   have r:i<z.length:=by omega
   have B:j<z.length:=by omega
   rw[show z.getD i Ls=z[i]by simp[r],show z.getD j Ls=z[j]by simp[B]];obtain⟨x,ox,xs,m,t,u,L,e2,e3,e4,K⟩:=Z i r;obtain⟨y,oy,ys,m',t',u',d1,d2,d3,d4,H⟩:=Z j B;rw[L,d1];refine kat_lt e2 e4 d2 d4 ?_;have R:xs.size=2:=by rw[<- Md,K];rfl
   have X:ys.size=2:=by rw[<- Md,H];rfl
   rw[K,H,R,X,Na,Na];unfold vb at I;generalize ps.getD i (0,0)=O at I ⊢;generalize ps.getD j (0,0)=U at I ⊢;refine kat_cons<|Ny O.1 t U.1 t' _ _ _ _ ?_;refine kat_go (λJ=>?_) λJ=>?_
   ·have J:O.1=U.1:=by simpa using J
    rw[RY J]at I;refine kat_yes<|kat_cons<|Ny O.2 u U.2 u' _ _ _ _<|kat_go (λg=>?_) λg=>?_
    ·have g:O.2=U.2:=by simpa using g
     refine kat_yes<|kat_nil ?_;rw[show decide (O.2<U.2)=ed by rw[g];simp]at I;exact I
    ·exact kat_no<|kat_one _ _<|lt_int I
   ·have J:O.1≠U.1:=by simpa using J
    rw[EQ J]at I;exact kat_no<|oneLt_int I
  rintro⟨⟨⟩,Y⟩ d ⟨p,bx,hf,hp,rfl⟩;dsimp only;have F:=kat_snds a8 bx;rw[hp]at F;exact WR hk ha a7 ⋯ ⋯ F hf h
end
end DL
namespace DL
open PySem PySem.Spec PyProof.Rows L2
section
variable{X:Cx}{pins:RW}{σ:St}{H:Hp}{s:eF}{a:eg}{o:HO}
theorem eX(I:Inv X pins σ H s)(f:wZ X pins H a)(new:la X.prog X.w (upd H a o) s.heap a o):Inv X pins σ (upd H a o) s:=by
 obtain⟨f1,f2,t,i,j,k⟩:=f;have d : ∀b u,H b=di u->b≠a:=λb u q z=>by rw[z,f1]at q;cases q
 refine⟨I.ok,I.os,I.bare,⟨I.base.keep,I.base.slot,λb O q n g=>?_,I.base.there,λb h q=>?_,λb O u q=>?_,λb l q=>?_⟩,I.loc,I.cell,?_,λx c e=>?_,λp Y=>?_,λb u e=>?_,I.len⟩
 ·have J:b≠a:=λz=>by
   rcases i with U | U
   ·exact g<|z ▸ U
   ·have:=IT q
    rw[z]at this;exact absurd this<|Nat.not_lt_of_le U
  rw[zK J];exact I.base.free b O q n g
 ·have:=I.base.C4 b h q
  rw[zK (d b _ this)];exact this
 ·have:=I.base.Dg b O u q
  rw[zK (d b _ this)];exact this
 ·obtain⟨m,this⟩:=I.base.C3 b l q
  exact⟨m,by rw[zK (d b _ this)];exact this⟩
 ·rw[zK (Ll f2)];exact I.free
 ·rw[zK (j x c e)];exact I.vl x c e
 ·obtain⟨e,n,r⟩:=I.pin p Y
  exact⟨e,by rw[zK (k p Y)];exact n,r⟩
 ·by_cases J:b=a
  ·subst J;rw[zO]at e;cases e;exact new
  ·rw[zK J]at e
   exact(I.f9 b u e).Dj (λ_ _ _ q=>q) (λc q=>by rw[zK (d c _ q)];exact q) λc h q=>by rw[zK (d c _ q)];exact q
theorem pM{A:mm}{Q:VK}{us:List eh}{vs:List V}{CX:s8}{k:Nat}{f:eg}{C:pk}{ps:List Str}{sp:Sp}(F:pf X.prog X.w X.K X.mg X.base p8 k f C ps sp)(J:m3 k A)(O:A7 X.prog X.w X.K X.mg X.base A X.stack s H)(U:Binds X.K C ps [])
 (I:Inv X pins σ H s) (r:fy vs us) (h:sp vs H Q E0):wpAny (e9 X.prog X.w) A (call (.ref f) us) (EP X pins σ Q) (λ_ _=>False) s:=by
 have Y:us.length=ps.length:=by rw[<- r.length];exact F.len _ _ _ _ h
 refine wpAny_call<|Pp (F.run A X.stack s H ⟨us,[]⟩ us vs Q E0 J O (by simpa using U s us I.m1 (by simpa using Y)) r h) λr b z=>?_;cases r with
 | error e=>exact z.elim
 | ok a=>
  cases a with
  | ret u=>exact I.after z
  | next=>exact MP z
  | brk=>exact MP z
  | cont=>exact MP z
theorem Ad(I:Inv X pins σ H s)(L:wZ X pins H kS)(C:wZ X pins H a)(J:s.heap.get? kS=di ok)(S:s.heap.get? a=di oa)(O : ∀v,ok.data ≠ .cell v)(U : ∀v,oa.data ≠ .cell v):Inv X (pins++[(kS,ok),(a,oa)]) σ H s:=
 I.L7 λp z=>by
  rcases ME.mp z with z | z
  ·exact I.pin p<|IW _ z
  ·rcases iU.mp z with rfl | z
   ·exact⟨J,L.1,L.2.1,L.2.2.1,O⟩
   ·rw[Mk.mp z];exact⟨S,C.1,C.2.1,C.2.2.1,U⟩
theorem uk(I:Inv X (pins++more) σ H s):Inv X pins σ H s:=I.L7 λp z=>I.pin p<|IW _<|Pe _ z
end
noncomputable def K6(ps:List (Int×Int)):List D:=ps.map λp=>D.tup [.int p.1,.int p.2]
section
variable{X:Cx}{pins:RW}{σ:St}{F:List D->Option Res}{k:Nat}{f:eg}{fd:pk}{pr:List Str}{A:mm}{E:RQ}
theorem oS(I:Inv X pins σ H s)(sub:gR H0 H)(r:Rep X.K H0 (.tup [.int i,.int j]) v)(C:RelV v u):xr s.heap u i j:=by
 obtain⟨b,L,rfl,Y,f⟩:=kR r;obtain⟨y,G,e,g,h⟩:=f.ml;obtain⟨F,B,a,k,l⟩:=h.ml;rw[l.o6]at a;rw[e,a,jq g,jq k]at Y;cases C;obtain⟨d,A,⟨o,w,m,n,p⟩,_⟩:=I.tuple<|m4 sub Y;obtain⟨z,J,rfl,O,U⟩ : ∃z J,d=z::J/\RelV (.int i) z/\fy [.int j] J:=by
  cases A with
  | cons O U=>exact⟨_,_,rfl,O,U⟩
 obtain⟨E,rfl,x⟩:=yq U;obtain⟨t,rfl⟩:=O;obtain⟨u,rfl⟩:=x;exact⟨b,o,_,n,t,u,rfl,w,m,p,rfl⟩
theorem mf{a kS:eg}{vs:List eh}{xs:List V}{ds:List D}{ps:List (Int×Int)}{S:Nat}{P:PySem.Fin->eF->Prop}{H0 H:Hp}{s:eF}
 (G:pf X.prog X.w X.K X.mg X.base p8 k f fd pr (rb X.K pr.length F)) (h1:pr.length=1) (hr:m3 k A) (bf:A.frames=di X.stack) (J:Binds X.K fd pr [])
 (I:Inv X pins σ H s) (sub:gR H0 H) (rv:fy xs vs) (rd:ej X.K H0 ds xs) (ax:ps.length=vs.length) (bg:vs.length<64)
 (hF : ∀(i:Nat) d p,ds[i]? = di d->ps[i]? = di p->F [d]=di (.val<|.tup [.int p.1,.int p.2]))
 (hk:s.heap.get? kS=di (g5 "list" #[] 0)) (ha:s.heap.get? a=di (g5 "list" #[] S)) (b0:kS≠a) (fk:wZ X pins H kS) (fa:wZ X pins H a)
 (h : ∀L H' C c,Inv X pins σ H' L->Ext H0 H C H'->L.heap.get? a=di (g5 "list" (Nf ((j1 ps).map λi=>vs.getD i Ls)) c)->wZ X pins H' a->P (.done (.ret .none)) L) :
 wpAny (e9 X.prog X.w) A (ksk_rest a (.ref f) ed vs.toArray S<|.ref kS) P E s:=by
 have ca:=rv.length;have cb:=rd.length;have hz:vs.length<=f6:=by rw[Nw];omega
 unfold ksk_rest;refine IA (OB ?_);rw[List.forIn_toArray];refine IA (ksk_fold (λj L=>∃l m O e,Inv X (pins++[(kS,g5 "list" O e),(a,g5 "list" #[] S)]) σ l L/\Ext H0 H m l/\∃g:List V,fy g O.toList/\ej X.K m (K6 (ps.take j)) g) vs 0 s
  ⟨H,H0,#[],0,Ad I fk fa hk ha (λv z=>by cases z) (λv z=>by cases z),Ext.refl sub,[],.nil,ej.nil⟩ ?step ?done)
 case step=>
  rintro j x L hx ⟨l,m,O,e,U,x1,g,t,Y⟩;simp only[MK]at Y ⊢;have hj:j<vs.length:=(IP.mp hx).1;have hp:ps[j]? = di ps[j]:=ID ⋯;have hd:ds[j]? = di ds[j]:=ID ⋯;have b6:xs[j]? = di xs[j]:=ID ⋯;obtain⟨u',b7,bl⟩:=rv.get b6;rw[hx]at b7;cases b7;obtain⟨x',b8,bm⟩:=rd.get hd;rw[b6]at b8;cases b8;have env:A7 X.prog X.w X.K X.mg X.base A X.stack L l:=⟨bf,U.B3.mod,U.B3.bs,U.B3.yg,U.B3.sd,U.B3.Df,U.B3.f9,U.B3.bare⟩;refine IA (OY (MI (pM (CX:=p8) (Q:=λv H'=>∃C,Ext m l C H'/\Rep X.K C (.tup [.int ps[j].1,.int ps[j].2]) v) G hr env J U (vs:=[xs[j]]) (us:=[x]) (.cons bl .nil)
   ⟨m,[ds[j]],_,x1.sub,ej.cons (bm.mono x1.s0) ej.nil,by rw[h1];rfl,hF j _ _ hd hp,λv H' C R r2=>⟨C,R,r2⟩⟩) (λv B he=>?_) λ_ _ hF=>hF.elim))
  obtain⟨vv,T,r,bv,bx,R,r2⟩:=he
  try dsimp only
  obtain⟨n,W,_⟩:=r.pin (kS,g5 "list" O e) (IW _ (IW _ (.head _)));obtain⟨na,Z,_⟩:=r.pin (a,g5 "list" #[] S) (IW _ (IW _ (.tail _ (.head _))));have c0:=uk r;have M:wZ X pins T kS:=⟨W,fk.2⟩;have N:wZ X pins T a:=⟨Z,fa.2⟩;have kl:O.size=j:=by have:=t.length;have:=Y.length;simp only[K6,IU,Oa,Md]at *;omega
  refine IA (NT n rfl ?_ (by rw[kl,Nw];omega) (LN (Nat.le_of_eq (Array.size_push ..)) (by rw[kl,Nw];omega)));obtain⟨c2,c1⟩ : ∃c2,(B.heap.update kS (Lo (·.push v))).get? kS=di (g5 "list" (O.push v) c2):=⟨_,Po n (·.push v)⟩;have I3:=c0.Dk (h':=B.heap.update kS (Lo (·.push v))) (t':=B.toks) (fp:=[kS]) (λb o J q=>(LZ _ _ (λz=>J (by rw[z];exact List.mem_singleton_self _))).trans q) (λb J=>by rw[Mk.mp J];exact M);have c4:(B.heap.update kS (Lo (·.push v))).get? a=di (g5 "list" #[] S):=(LZ _ _ b0).trans na;refine IK ⟨rfl,T,bx,O.push v,c2,Ad I3 M N c1 c4 (λv z=>by cases z) (λv z=>by cases z),x1.trans R,g++[vv],?_,?_⟩
  ·rw[Array.toList_push];exact t.append<|.cons bv .nil
  ·have ek:ps.take (j+1)=ps.take j++[ps[j]]:=by rw[List.take_add_one,hp];simp
   rw[ek];unfold K6 at Y ⊢;rw[LV];exact(Y.mono R.s0).append (ej.cons r2 ej.nil)
 case done=>
  rintro L ⟨l,m,O,e,U,x1,g,t,Y⟩;rw[MK,<- ax,List.take_length]at Y;obtain⟨n,W,_⟩:=U.pin (kS,g5 "list" O e) (IW _ (IW _ (.head _)));obtain⟨na,Z,_⟩:=U.pin (a,g5 "list" #[] S) (IW _ (IW _ (.tail _ (.head _))));have bb:=uk U;have M:wZ X pins l kS:=⟨W,fk.2⟩;have N:wZ X pins l a:=⟨Z,fa.2⟩
  try dsimp only
  refine IA<|listItems_at n rfl ?_;have l1:=t.length;have l2:=Y.length;simp only[K6,IU]at l2;have ek:O=O.toList.toArray:=by simp
  rw[ek]at n ⊢;refine rX n na b0 ⋯ ax bg (λi hi=>?_) λh' c hsz kp hA=>?_
  ·have c6:i<ps.length:=by omega
   obtain⟨y,ey,ry⟩:=Y.get (i:=i) (d:= .tup [.int (ps.getD i (0,0)).1,.int (ps.getD i (0,0)).2]) (by unfold K6;simp[c6]);obtain⟨u,hu,ru⟩:=t.get ey;have:O.toList[i]=u:=by rw[ID hi]at hu;exact Lq hu
   rw[this];exact oS bb x1.sub ry ru
  ·have r:=bb.Dk (h':=h') (t':=L.toks) (fp:=[a,kS]) (λb o J q=>kp b o (λz=>J<|by rw[z];simp) (λz=>J<|by rw[z];simp) q) (λb J=>by
    rcases iU.mp J with rfl | J
    ·exact N
    ·rw[Mk.mp J];exact M)
   exact h _ l m c r x1 hA N
end
noncomputable def rF:Res->Option (Int×Int)
 | .val d=>match d with
  | .tup a=>match a with
   | [x,y]=>(l6 x).bind λi=>(l6 y).map λj=>(i,j)
   | _=>d5
  | _=>d5
 | .own _=>d5
noncomputable def Yo(F:List D->Option Res):List D->Option (List<|Int×Int)
 | []=>di []
 | d::r=>((F [d]).bind rF).bind λp=>(Yo F r).map λl=>p::l
noncomputable def cD(F:List D->Option Res)(f:CO (Sk×List D)):CO (List D):=λd=>(f d).bind λa=>match a.1 with
 | .L=>(Yo F a.2).bind λb=>if a.2.length<64 then di ((j1 b).map λi=>a.2.getD i .el)else d5
 | _=>d5
theorem Ko(z:fy xs vs) : ∀(o:List Nat),(∀i∈o,i<xs.length)->fy (o.map λi=>xs.getD i .el) (o.map λi=>vs.getD i Ls)
 | [],_=> .nil
 | i::o,h=>by have a:=h i IQ;refine .cons ?_ (Ko z o λj I=>h j<|IM _ I);obtain⟨v,J,g2⟩:=z.get (i:=i) (x:=xs[i])<|ID a;show RelV (xs.getD i V.el) (vs.getD i Ls);rw[IF,IF,ID a,J];exact g2
section
variable{X:Cx}{pins:RW}{σ:St}{F:List D->Option Res}{k:Nat}{f:eg}{fd:pk}{pr:List Str}
theorem aV
 (G:pf X.prog X.w X.K X.mg X.base p8 k f fd pr (rb X.K pr.length F)) (h1:pr.length=1) (hr:m3 (k+1+1) X.A) (J:Binds X.K fd pr [])
 (I:Inv X pins σ H s) (sub:gR H0 H) (hl:s.heap.IsList l vs.toArray) (U:fy xs vs) (rd:ej X.K H0 ds xs) (S:ps.length=vs.length) (Z:vs.length<64)
 (hF : ∀(i:Nat) d p,ds[i]? = di d->ps[i]? = di p->F [d]=di (.val<|.tup [.int p.1,.int p.2]))
 (h : ∀L H' C D,H D=d5->H' D=d5->Ext H0 H C H'->Inv X pins σ (upd H' D<|.lst<|(j1 ps).map λi=>xs.getD i .el) L->Q (.ref D) L) :
 wpAny (e9 X.prog X.w) X.A (call (.builtin "sorted") [.ref l] [(LC "key",.ref f)]) Q E s:=by
 have ax:=U.length;have e:vs.length<=f6:=by rw[Nw];omega
 refine call_function_entry_kw kind_sorted plain_sorted entry_sorted (ksk_s1 _ _) ?_;unfold nt.«sorted»;refine IA (m:=checkCount "sorted" 1 1 _) (IK ?_);refine IA (collect_list hl ?_ e);refine IA (O3 ?_ e);have a:((s.heap.push (g5 "list" #[] 0)).update s.heap.objs.size (Lo (· ++ vs.toArray))).objs.size=s.heap.objs.size+1:=by rw[MX,Rl]
 have O:(((s.heap.push (g5 "list" #[] 0)).update s.heap.objs.size (Lo (· ++ vs.toArray))).push (g5 "list" vs.toArray 0)).get? (s.heap.objs.size+1)=di (g5 "list" vs.toArray 0):=by rw[<- a];exact IV _ rfl
 have keep : ∀b o,s.heap.get? b=di o->(((s.heap.push (g5 "list" #[] 0)).update s.heap.objs.size (Lo (· ++ vs.toArray))).push (g5 "list" vs.toArray 0)).get? b=di o:=λb o q=>by have Y:b<s.heap.objs.size:=IT q;rw[Nq _ _ _ (by rw[a];exact Lm (LD Y)),Pn _ _ _ _ (Lm Y),Nq _ _ _ (Lm Y)];exact q
 have j:(((s.heap.push (g5 "list" #[] 0)).update s.heap.objs.size (Lo (· ++ vs.toArray))).push (g5 "list" vs.toArray 0)).objs.size=s.heap.objs.size+2:=by rw[Rl,a]
 show wpAny _ _ _ _ _ {s with heap:=((s.heap.push (g5 "list" #[] 0)).update s.heap.objs.size (Lo (· ++ vs.toArray))).push (g5 "list" vs.toArray 0)};rw[a];generalize ((s.heap.push (g5 "list" #[] 0)).update s.heap.objs.size (Lo (· ++ vs.toArray))).push (g5 "list" vs.toArray 0)=g at O keep j ⊢;have N:Inv X pins σ H {s with heap:=g}:=I.kept (t':=s.toks) keep;have u:wZ X pins H (s.heap.objs.size+1):=I.Dd (DJ _) (I.f9.fresh (DJ _));refine IA (MH (wpAny_call_entry_kw slot_list_sort ⟨_,O,rfl⟩ entry_list_sort ?body (ksk_l1 _ _)))
 case body=>
  show wpAny (e9 X.prog X.w) X.A.in1.in1 (nt.«list.sort» ⟨[.ref (s.heap.objs.size+1)],[(LC "key",.ref f)]⟩) _ _ _;rw[ksk_t1];unfold ksk_tree;refine IA (TM O rfl ?_);refine IA (NT O rfl ?_ (by rw[II];exact e) (LL _));obtain⟨r,n⟩ : ∃r,(g.update (s.heap.objs.size+1) (Lo λ_=>(#[]:Array eh))).get? (s.heap.objs.size+1)=di (g5 "list" #[] r):=⟨_,Po O λ_=>#[]⟩;refine IA (PU n rfl ?_);refine IA (PL ?_ (by show vs.length<=_;exact e));refine IA (O3 ?_ (LL _));refine MH ?_;have y:=N.Dk (h':=g.update (s.heap.objs.size+1) (Lo λ_=>(#[]:Array eh))) (t':=s.toks) (fp:=[s.heap.objs.size+1]) (λb o J q=>(LZ _ _ (λz=>J (by rw[z];exact List.mem_singleton_self _))).trans q) (λb J=>by rw[Mk.mp J];exact u);have B:=y.kept (h':=((g.update (s.heap.objs.size+1) (Lo λ_=>(#[]:Array eh))).push (g5 "tuple" vs.toArray 0)).push (g5 "list" #[] 0)) (t':=s.toks) (λb o q=>IB _ (IB _ q));have x:((g.update (s.heap.objs.size+1) (Lo λ_=>(#[]:Array eh))).push (g5 "tuple" vs.toArray 0)).objs.size=s.heap.objs.size+3:=by rw[Rl,MX,j]
  have R:wZ X pins H (s.heap.objs.size+3):=I.Dd (LI _ _) (I.f9.fresh (LI _ _));refine mf (A:=X.A.in1.in1) (ps:=ps) (xs:=xs) (ds:=ds) (H0:=H0) (H:=H) (s:={s with heap:=((g.update (s.heap.objs.size+1) (Lo λ_=>(#[]:Array eh))).push (g5 "tuple" vs.toArray 0)).push (g5 "list" #[] 0)}) (kS:=((g.update (s.heap.objs.size+1) (Lo λ_=>(#[]:Array eh))).push (g5 "tuple" vs.toArray 0)).objs.size)
   G h1 hr.in1.in1 I.B3.in1.in1.frames J B sub U rd S Z hF (IV _ rfl) (IB _<|IB _ n) (by rw[x];exact λz=>absurd (Nat.add_left_cancel z) ⋯) (by rw[x];exact R) u λL H' C c M x3 T t=>⟨_,rfl,?_⟩
  refine IK ⟨_,rfl,h L H' C _ (I.f9.fresh<|DJ _) t.1 x3<|eX M t ?_⟩;have P : ∀i∈j1 ps,i<xs.length:=λi W=>by have:=(jI ps).mem_iff.mp W;have:=IC.mp this;omega
  have as:((j1 ps).map λi=>xs.getD i V.el).length=vs.length:=by rw[IU,(jI ps).length_eq,Lw,S]
  exact⟨by rw[as];exact e,(j1 ps).map λi=>vs.getD i Ls,c,Ko U _ P,T⟩
end
theorem Yn : ∀{ds:List D} {ps:List (Int×Int)},Yo F ds=di ps->ps.length=ds.length
 | [],ps,h=>by cases h;rfl
 | d::r,ps,h=>by obtain⟨p,_,a⟩:=zc h;obtain⟨l,z,I⟩:=zC a;subst I;simp[Yn z]
theorem aI(h:rF r=di p):r = .val (.tup [.int p.1,.int p.2]):=by
 unfold rF at h;split at h
 ·split at h
  ·split at h
   ·obtain⟨i,a,b⟩:=zc h
    obtain⟨j,z,I⟩:=zC b;subst I;rw[jC a,jC z]
   ·cases h
  ·cases h
 ·cases h
theorem WQ : ∀{ds:List D} {ps:List (Int×Int)},Yo F ds=di ps->∀(i:Nat) d p,ds[i]? = di d->ps[i]? = di p->F [d]=di (.val<|.tup [.int p.1,.int p.2])
 | [],ps,h,i,d,p,hd,hp=>by simp at hd
 | c::r,ps,h,i,d,p,hd,hp=>by
  obtain⟨q,b,e⟩:=zc h;obtain⟨l,z,I⟩:=zC e;subst I;cases i with
  | zero=>
   simp at hd hp;subst hd hp;obtain⟨O,a,J⟩:=zc b;rw[a,aI J]
  | succ i=>exact WQ z i d p (by simpa using hd) (by simpa using hp)
section
variable{X:Cx}{sc:hL}{N L:List Str}{k j:Nat}{e:eA}{fq:CO (Sk×List D)}{F:List D->Option Res}{x:Str}{p p2 pos TK:hB}
theorem iY(Z:gB X.prog X.w X.K X.mg X.base j x 1 F)(h:SX X sc N L k)(hj:j+1+1<=k)(c:vd sc "sorted" = dn)(z:X.mg "sorted" = d5)(S:vd sc x=dn)(hq:PQ X e fq)
 (C:gv [e] X.env=[(ed,fh e X.env)]:=by rfl) :
 PO X (.Call (.Name "sorted" p) [e] [⟨di "key",.Name x p2,TK⟩] pos) (cD F fq):=by
 intro b s σ H Q I l;obtain⟨H0,γ,out,rc,J,q⟩:=l;obtain⟨⟨kk,ds⟩,B,J⟩:=zc J;obtain⟨E,fd,pr,hn,G,W,hk,P⟩:=Z.ex;cases kk with
 | T=>cases J
 | L=>
  have J:((Yo F ds).bind λps=>if ds.length<64 then di ((j1 ps).map λi=>ds.getD i .el)else d5)=di out:=J;obtain⟨ps,n,J⟩:=zc J;by_cases o:ds.length<64
  ·rw[RY o]at J
   cases J;refine NS (yF (u:= .builtin "sorted") I (h.gl c).1 z ⋯ (callWith_kw ?_ (by rw[C];rfl) (by rw[C];rfl)) ⋯ ⋯);refine ft ((jz hq qy C) pos b s σ H (λvs d=>∃a xs O,vs=[.ref a]/\Ext H0 H O d/\gm X.K d a xs/\ej X.K O ds xs) I ⟨H0,γ,.L,ds,rc,B,λa xs d O x1 g1 g2 U=>⟨a,xs,O,rfl,x1,g1,U⟩⟩) λus t l=>?_;obtain⟨vs,d,g,rv,a,xs,O,rfl,x1,g1,U⟩:=l;obtain⟨u,rfl,ru⟩:=yq rv;cases ru;show wpAny _ _ (evalAll ((do let v <- fh (.Name x p2) X.env;DF pos;pure v)::[])) _ _ t;refine wpAny_evalAll_cons (IA (eI g (h.gl S).1 W (IA (Rb (IK ?_))) (h.gl S).2.2));refine wpAny_evalAll_nil ?_;obtain⟨A,r,pl,hz⟩:=g.list g1;have l1:=r.length;have l2:=U.length;have l3:=Yn n;show wpAny _ _ (call (.builtin "sorted") [.ref a] [(LC "key",.ref E)]) _ _ t;refine aV (H0:=O) (ps:=ps) (xs:=xs) (ds:=ds) (vs:=A) (F:=F) G hn (h.room.mono hj) P g x1.sub pl.isList r U ⋯ ⋯ (WQ n) λs' H' f D M m Y y=>?_;refine⟨.ref D,_,y,rfl,q D _ _ f (x1.trans (Y.trans (Ext.hide Y.sub m _))) (kK x1.s1 M) (jw Y.sub m) zO ?_⟩;refine ZS (U.mono Y.s0) _ λi R=>?_;have:=(jI ps).mem_iff.mp R;have:=IC.mp this;omega
  ·rw[EQ o]at J;cases J
end
section
variable{X:Cx}{sc:hL}{N L:List Str}{k j n i:Nat}{a b c e:eA}{es:List eA}{f:CO D}{g:CO (List D)}{p pos:hB}{x:Str}{st Ut Uu:kv}{kH:List kv}{F:List D->Option Res}
open Classical in
noncomputable def B7(H:Hp)(p:eg):Hp:=λc=>if c=p then d5 else H c
theorem I9{H:Hp}{p c:eg}(h:c≠p):B7 H p c=H c:=EQ h
end
mutual
def Rv:D->Bool
 | .tup a=>FG a
 | .lst a=>FG a
 | .l4 _ _=>ed
 | .lh _ _=>ed
 | _=>dn
def FG:List D->Bool
 | []=>dn
 | x::xs=>Rv x && FG xs
end
mutual
theorem Rep.less{K:Iy}{H:Hp}{p:eg}{C:f7->Prop}(I:H p=di (.ext C)) : ∀{d:D} {v:V},Rv d=dn->Rep K H d v->Rep K (B7 H p) d v
 | .el,_,_,h=>h
 | .bl _,_,_,h=>h
 | .int _,_,_,h=>h
 | .str _,_,_,h=>h
 | .tup ds,v,n,h=>by
  obtain⟨a,b,f,g,i⟩:=(show ∃a b,v = .ref a/\hG K H a b/\ej K H ds b from h);refine(show ∃a b,v = .ref a/\hG K (B7 H p) a b/\ej K (B7 H p) ds b from⟨a,b,f,?_,ej.less I n i⟩);have z : ∀{u:HO},(∀C,u ≠ .ext C)->H a=di u->a≠p:=λJ q e=>by rw[e,I]at q;exact J _ (Lq q).symm
  rcases g with(hq | ⟨o',hq⟩) | hq
  ·exact .inl (.inl<|by rw[I9 (z (λ_=>by simp) hq)];exact hq)
  ·exact .inl<|.inr ⟨o',by rw[I9 (z (λ_=>by simp) hq)];exact hq⟩
  ·exact .inr hq
 | .lst ds,v,n,h=>by
  obtain⟨a,b,f,g,i⟩:=(show ∃a b,v = .ref a/\gm K H a b/\ej K H ds b from h);refine(show ∃a b,v = .ref a/\gm K (B7 H p) a b/\ej K (B7 H p) ds b from⟨a,b,f,?_,ej.less I n i⟩);have z : ∀{u:HO},(∀C,u ≠ .ext C)->H a=di u->a≠p:=λJ q e=>by rw[e,I]at q;exact J _ (Lq q).symm
  rcases g with(hq | ⟨o',hq⟩) | hq
  ·exact .inl (.inl<|by rw[I9 (z (λ_=>by simp) hq)];exact hq)
  ·exact .inl<|.inr ⟨o',by rw[I9 (z (λ_=>by simp) hq)];exact hq⟩
  ·exact .inr hq
 | .l4 _ _,_,n,_=>nomatch n
 | .lh _ _,_,n,_=>nomatch n
theorem ej.less{K:Iy}{H:Hp}{p:eg}{C:f7->Prop}(z:H p=di (.ext C)) : ∀{ds:List D} {xs:List V},FG ds=dn->ej K H ds xs->ej K (B7 H p) ds xs
 | [],_,_,h=>h
 | d::ds,xs,n,h=>by obtain⟨x,r,a,b,e⟩:=(show ∃x r,xs=x::r/\Rep K H d x/\ej K H ds r from h);have n:(Rv d && FG ds)=dn:=n;rw[IS]at n;exact(show ∃x r,xs=x::r/\Rep K (B7 H p) d x/\ej K (B7 H p) ds r from⟨x,r,a,Rep.less z n.1 b,ej.less z n.2 e⟩)
end
noncomputable def Xt(i:Nat)(f:CO D):CO Fl:=λb=>(qJ b[i]?).bind λa=>(f b).bind λx=>if kA x=dn/\lW a=dn/\a.findIdx (λd=>hH d x)<a.length then di (.next<|b.set i<|.own<|a.eraseIdx<|a.findIdx λd=>hH d x)else d5
theorem tE(i:Nat)(f:CO D)(γ:Ctx):Xt i f γ=(qJ γ[i]?).bind λds=>(f γ).bind λx=>if kA x=dn/\lW ds=dn/\ds.findIdx (λd=>hH d x)<ds.length then di (.next<|γ.set i<|.own<|ds.eraseIdx<|ds.findIdx λd=>hH d x)else d5:=rfl
end DL
namespace L2
open PySem PySem.Spec PyProof.Rows PySem.SeqAt PySem.MeetsSeq
open AutoSeq1 (wpAny_loadPart')
theorem cM(l:eg)(z:Array eh)(n:Nat)(x:eh)(e:eh->Bool)(j:Nat)(Y:j<z.size)(L:e z[j]=dn)(hz:z.size<=f6) :
 ∀k i:Nat,j - i=k->i<=j->(∀m (C:m<z.size),i<=m->m<j->e z[m]=ed)->Ds (nt.«list.remove.loop» ⟨[.ref l,x,Di i],[]⟩)
  (λA R s=>(s.heap.get? l=di {cls:= .type "list",dict:=d5,data:= .seq z n,slots:=#[]}/\∀y,y∈z->EqAt A.in1 s y x (e y))/\R (.ok (.ret .none)) {s with heap:=s.heap.update l (Lo λxs=>xs.eraseIdxIfInBounds j)}):=by
 intro k
 induction k with
 | zero=>
  intro i p b O a w A R s h;obtain⟨r,g,d,u,os⟩:=s;obtain⟨⟨I,J⟩,h⟩:=h;obtain rfl:i=j:=by omega
  wp_walk using Ma I
  rw[show z[((i:Nat):Int).toNat]? = di z[i]by simp[Y]];refine IA<|J _ (Array.getElem_mem Y) a w _ _ ?_;rw[L];have f:(z.eraseIdxIfInBounds i).size<=f6+1:=LN (size_erased z _)<|NV hz
  wp_walk using (wpAny_updateSeq I rfl (hz:=hz) (_hz':=f)),Ma I
  simpa using h
 | succ k t=>
  intro i p b O a w A R s h;obtain⟨r,g,d,u,os⟩:=s;obtain⟨⟨I,J⟩,h⟩:=h;have U:i<z.size:=by omega
  wp_walk using Ma I
  rw[show z[((i:Nat):Int).toNat]? = di z[i]by simp[U]];refine IA<|J _ (Array.getElem_mem U) a w _ _ ?_;rw[O i U (IH _) ⋯]
  wp_walk
  rw[show((i:Int)+1)=((i+1:Nat):Int)by omega];refine⟨plainId_quiet plain_remove_loop _,Pq entry_remove_loop ?_⟩;rw[Around.under_plainId plain_remove_loop _];exact t (i+1) ⋯ ⋯ (λm C B o=>O m C ⋯ o) a w A R _ ⟨⟨I,J⟩,h⟩
theorem iG(l:eg)(z:Array eh)(n:Nat)(x:eh)(e:eh->Bool)(j:Nat)(J:j<z.size)(O:e z[j]=dn)(hz:z.size<=f6)(U : ∀m (C:m<z.size),m<j->e z[m]=ed):Ds (nt.«list.remove» ⟨[.ref l,x],[]⟩)
 (λA R s=>(s.heap.get? l=di {cls:= .type "list",dict:=d5,data:= .seq z n,slots:=#[]}/\∀y,y∈z->EqAt A.in1 s y x (e y))/\R (.ok (.ret .none)) {s with heap:=s.heap.update l (Lo λxs=>xs.eraseIdxIfInBounds j)}):=by
 intro a w A R s h;obtain⟨f,g,d,i,os⟩:=s;obtain⟨⟨I,Y⟩,h⟩:=h
 wp_walk using Ma I
 refine⟨plainId_quiet plain_remove_loop _,Pq entry_remove_loop ?_⟩;rw[Around.under_plainId plain_remove_loop _];exact cM l z n x e j J O hz _ 0 rfl (LL _) (λm C _ b=>U m C b) a w A R _ ⟨⟨I,Y⟩,h⟩
end L2
namespace DL
open PySem PySem.Spec PyProof.Rows L2
noncomputable def ER(K:Iy):V->List V->Hp->VK->Prop:=λx g H Q=>∃e b v p f a,gR e H/\x = .ref p/\g=[v]/\Rep K e b v/\H p=di (.lst f)/\ej K e a f/\kA b=dn/\lW a=dn/\a.findIdx (λd=>hH d b)<a.length/\Q .el (upd H p<|.lst<|f.eraseIdx<|a.findIdx λd=>hH d b)
theorem YD{x:D}(hx:kr x=dn) : ∀ds:List D,lW ds=dn->(m5 ds).map (λy=>Mv y<|i1 x)=ds.map λd=>hH d x
 | [],_=>by simp[m5]
 | d::ds,h=>by simp only[lW,IS]at h;simp only[m5,Ld];rw[E5 d x h.1 hx,YD hx ds h.2]
theorem rT{X:Cx}(hu:X.A.units+66<y3):N7 X "list.remove" (ER X.K):=by
 intro t s σ H x vs v us Q I P N h;obtain⟨T,a,y,p,S,b,sub,rfl,rfl,E,Y,G,O,U,l,q⟩:=h;cases P;obtain⟨R,rfl,rw⟩:=yq N;obtain⟨as,M⟩:=DE I sub (qX O) E rw;have Z:=PySem.SeqAt.depth_of_shaped<|kC O;have n:=E8 b U;obtain⟨z,J,c,r,W,e⟩:=I.B8 Y;obtain⟨bs,u⟩:=F6 I sub U G r;have B:=YD (qX O) b U;have em:=PySem.SeqAt.readsAll_map _ _ _ n u;have f:J.map (λy=>Mv (Nx s.heap y)<|i1 a)=b.map λd=>hH d a:=by rw[<- B,<- em,Li];rfl
 have len:J.length=b.length:=by simpa using congrArg List.length f
 have g : ∀(i:Nat) (j:i<J.length) (k:i<b.length),Mv (Nx s.heap J[i]) (i1 a)=hH b[i] a:=λi j k=>by have:=congrArg (λL=>L[i]?) f;simpa[j,k]using this
 refine Nd F.slot_list_remove ⟨_,e,rfl⟩ F.entry_list_remove (F.args_list_remove_2 _ _) (iG p J.toArray c R (λy=>Mv (Nx s.heap y)<|i1 a) (b.findIdx λd=>hH d a) (by rw[II];omega) ?_ (by rw[II];omega) ?_) ⟨⟨e,PySem.SeqAt.items_eqAt (by simpa using u) M n (I8 a<|qX O) ?_⟩,?_⟩
 ·simp only[List.getElem_toArray]
  rw[g _ ⋯ l];exact List.findIdx_getElem (w:=l)
 ·intro m o C
  rw[II]at o;simp only[List.getElem_toArray];rw[g _ o ⋯];have:=List.not_of_lt_findIdx C;simpa using this
 ·have:min (Oe<|m5 b) (i1 a).depth<=(i1 a).depth:=Rf _ _
  omega
 ·have lx:S.length=J.length:=r.length
  exact⟨.el,_,I.L1 (its':=J.eraseIdx<|b.findIdx λd=>hH d a) Y e (by apply Array.ext';simp) (QF _ r) (by rw[List.length_eraseIdx];split<;>omega),rfl,q⟩
section
variable{X:Cx}{sc:hL}{N L:List Str}{k:Nat}{a:eA}{f:CO D}
theorem Ww(i:Nat){x:Str}{C cpos I pos:hB}(h:SX X sc N L k)(c:JZ sc N i x=dn)(ha:PV X a f)(U:gv [a] X.env=[(ed,fh a X.env)]:=by rfl)
 (S:En (.Name x I) "remove" X.env (fh (.Name x I) X.env)=fh (.Name x I) X.env:=by rfl)
 (Z:((p5 cpos<|starEach [a] X.env).all (λx=> !x.1) && (E1 cpos<|keywordEach [] X.env).all (λx=>x.1.isSome)
   && decide ([a].length+([]:List u4).length+(if ([]:List u4).isEmpty then 0 else 1)<30))=dn:=by rfl)
 (a3:(C.endLine==cpos.line)=dn:=by rfl) (a4:wo (.Call (.Attribute (.Name x I) "remove" C) [a] [] cpos) d5 pos.line X.env=pure ed:=by rfl) :
 lN X (.Expr (.Call (.Attribute (.Name x I) "remove" C) [a] [] cpos) pos) (Xt i f):=
 ke (XA (dA NC PySem.F.slot_list_remove PySem.F.type_list_remove (rT h.SO) (h.var c) (jz ha qy U) S Z a3 U rfl) a4) λD B H s=>by
  obtain⟨E0,E,m,t,w,O,z,n⟩:=s;obtain⟨e,g,z⟩:=zc z;obtain⟨d,p,z⟩:=zc z;have g:=xA g;by_cases J:kA d=dn/\lW e=dn/\e.findIdx (λy=>hH y d)<e.length
  ·rw[RY J]at z;cases z
   obtain⟨a,xs,j,A,Y,l⟩:=O.rc.own i e g;refine⟨_,j,.inl ⟨rfl,_,gm.of Y⟩,m,t,d,O.rc,p,λv u b x r=>?_⟩;have o:=O.step x;exact⟨b,d,v,a,xs,e,x.sub,rfl,rfl,r,x.s1 _ _ Y,l.mono x.s0,J.1,J.2.1,J.2.2,n _ _ b<|o.rewrite (xs:=xs) g j<|vC _<|l.mono x.s0⟩
  ·rw[EQ J]at z;cases z
end
section
variable{X:Cx}{a b c d:eA}{ta tb tc td:TE}{pos:hB}{fa fb fc fd:CO D}
theorem dw{J O U:D3}{r C Y:R2}(ho:ix X (l7 J) r)(S:ix X (l7 O) C)(Z:ix X (l7 U) Y)(ha:PE X a ta)(hb:PE X b tb)(hc:PE X c tc)(hd:PE X d td)
 (hm:E7 [J,O,U] [b,c,d]=ed:=by with_unfolding_all rfl):PE X (.Compare a [J,O,U] [b,c,d] pos) (ph r C Y ta tb tc td):=by
 intro f s g H Q I h;refine Compare_chain (ft (ha f s g H _ I h) λv s1 R=>?_) hm;obtain⟨x,B,K,r1,q1⟩:=R;refine chain_link<|ft (hb f s1 g B _ K q1) λu s2 T=>?_;obtain⟨y,E,L,p,q2⟩:=T;refine ft (ho f s2 g E x y v u _ L r1 p q2) λdd s3 W=>?_;obtain⟨z,i,l,r3,k,e,n⟩:=W;subst e;cases r3;refine Mb ?_;cases k with
 | false=>exact ite_ff ⟨.bl ed,i,l,rfl,n⟩
 | true=>
  refine ite_tt<|chain_link<|ft (hc f s3 g i _ l n) λw s4 h4=>?_;obtain⟨A,F,M,t,q4⟩:=h4;refine ft (S f s4 g F y A u w _ M p t q4) λd' s5 h5=>?_;obtain⟨z2,j,m,r5,k2,P,o⟩:=h5;subst P;cases r5;refine Mb ?_;cases k2 with
  | false=>exact ite_ff ⟨.bl ed,j,m,rfl,o⟩
  | true=>
   refine ite_tt<|chain_last<|ft (hd f s5 g j _ m o) λw3 s6 h6=>?_;obtain⟨z3,G,N,r6,q6⟩:=h6;exact Z f s6 g G A z3 w w3 Q N t r6 q6
theorem cR{U Y C:D3}{r S L:R2}{F G J:D->D->Option D}(ho:ix X (l7 U) r)(as:ix X (l7 Y) S)(Z:ix X (l7 C) L)(s1:mr X.K r F)(s2:mr X.K S G)(s3:mr X.K L J)(ha:PV X a fa)(hb:PV X b fb)(hc:PV X c fc)(hd:PV X d fd)
 (hm:E7 [U,Y,C] [b,c,d]=ed:=by with_unfolding_all rfl):PV X (.Compare a [U,Y,C] [b,c,d] pos) (Vb F G J fa fb fc fd):=
 j9 (dw ho as Z ha hb hc hd hm) λσ H Q hZ=>by
  obtain⟨A,e,dr,rc,I,q⟩:=hZ;obtain⟨x,e1,I⟩:=zc I;obtain⟨y,e2,I⟩:=zc I;obtain⟨k,e3,I⟩:=zc I;obtain⟨T,e4,e5⟩:=zc e3;refine⟨A,e,x,rc,e1,λv1 H1 W x1 r1=>⟨W,e,y,rc.ext x1,e2,λs B bt O m=>s1 bt B v1 s x y T _ O.sub (r1.mono O.s0) m e4 λv3 E j x3 n=>?_⟩⟩;rw[yY e5]at n;refine⟨k,show v3 = .bl k from n,?_⟩;cases k with
  | false=>
   rw[EQ ⋯];rw[EQ ⋯]at I;cases I;exact q _ E j ((x1.trans O).trans x3) rfl
  | true=>
   rw[RY rfl];rw[RY rfl]at I;obtain⟨z,e6,I⟩:=zc I;obtain⟨g,e7,I⟩:=zc I;obtain⟨b2,e8,c3⟩:=zc e7;refine⟨j,e,z,((rc.ext x1).ext O).ext x3,e6,λt M c5 h o=>s2 c5 M s t y z b2 _ h.sub ((m.mono x3.s0).mono h.s0) o e8 λv5 N l u p=>?_⟩;rw[yY c3]at p;refine⟨g,show v5 = .bl g from p,?_⟩;have f:=((x1.trans O).trans x3).trans (h.trans u);cases g with
   | false=>
    rw[EQ ⋯];rw[EQ ⋯]at I;cases I;exact q _ N l f rfl
   | true=>
    rw[RY rfl];rw[RY rfl]at I;obtain⟨w,c8,c9⟩:=zc I;exact⟨l,e,w,rc.ext f,c8,λv6 P cd i r6=>s3 cd P t v6 z w dr _ i.sub ((o.mono u.s0).mono i.s0) r6 c9 λv7 R cj x7 r7=>q v7 R cj (f.trans<|i.trans x7) r7⟩
end
noncomputable def B9(e:eA):Str:=match e with | .Name x _=>x | _=>""
noncomputable def A2(e:eA):List Str:=match e with | .Tuple a _ _=>a.map B9 | e=>[B9 e]
noncomputable def De(N:List Str)(fs:List Nat):List (Str×Nat):=fs.map λi=>(N.getD i "",i)
theorem Jv(N:List Str)(fs:List Nat):(De N fs).map (·.2)=fs:=by unfold De;rw[Li];exact List.map_id fs
noncomputable def nU(e:eA):Bool:=match e with | .Name _ _=>dn | _=>ed
theorem aP{e:eA}(h:nU e=dn) : ∃p,e = .Name (B9 e) p:=by
 unfold nU at h;split at h
 ·exact⟨_,rfl⟩
 ·cases h
noncomputable def Gp(C:hL)(N L:List Str)(is:List Nat)(I:List eA):Bool:=match is with
 | [i,j]=>(match I with | [a,b]=>nU a && (yt C N L i (B9 a) && (nU b && yt C N L j (B9 b))) | _=>ed)
 | [i,j,l]=>(match I with | [a,b,c]=>nU a && (yt C N L i (B9 a) && (nU b && (yt C N L j (B9 b) && (nU c && yt C N L l (B9 c))))) | _=>ed)
 | _=>ed
noncomputable def F9(C:hL)(N L:List Str)(e:eA)(T:Tg):Bool:=match T with
 | .nm i=>nU e && yt C N L i (B9 e)
 | .tp is=>(match e with | .Tuple a _ _=>Gp C N L is a | _=>ed)
theorem oY{X:Cx}{C:hL}{N L:List Str}{k:Nat}(h:SX X C N L k){e:eA}{T:Tg}(c:F9 C N L e T=dn):PG X e (p6 X.K T):=by
 cases T with
 | nm i=>
  have c:=Bool.and_eq_true_iff.mp c;obtain⟨p,q⟩:=aP c.1;rw[q];exact h.DH _ c.2
 | tp is=>
  unfold F9 at c;dsimp only at c;split at c
  ·next b j pos=>
   unfold Gp at c;split at c
   ·split at c
    ·simp only[IS]at c
     obtain⟨z,I,b1,b2⟩:=c;obtain⟨p,q⟩:=aP z;obtain⟨a,J⟩:=aP b1;rw[q,J];exact h.SG<|vI (h.DH _ I)<|vI (h.DH _ b2) dh
    ·cases c
   ·split at c
    ·simp only[IS]at c
     obtain⟨z,I,b1,b2,O,U⟩:=c;obtain⟨p,q⟩:=aP z;obtain⟨a,J⟩:=aP b1;obtain⟨d,Y⟩:=aP O;rw[q,J,Y];exact h.SG<|vI (h.DH _ I)<|vI (h.DH _ b2)<|vI (h.DH _ U) dh
    ·cases c
   ·cases c
  ·cases c
noncomputable def cB(I scope:hL)(N:List Str)(C:eA)(T:Tg)(n:Nat)(fs:List Nat):Bool:=
 VP I scope N (De N fs) && (EF (A2 C) scope (De N fs) && (decide (∀i∈T.idx,i<(A2 C).length) && (decide ((A2 C).length=n) && F9 (kW scope I) (A2 C++(De N fs).map (·.1)) (A2 C) C T)))
abbrev B1(X:Cx)(scope:hL)(N:List Str)(tg:eA)(fs:List Nat):=js X scope (A2 tg++(De N fs).map (·.1))
abbrev SA(X:Cx)(sc scope:hL)(N:List Str)(tg:eA)(fs:List Nat)(k:Nat)(fp:List eg)(s2:eF)(H2:Hp):Prop:=SX (B1 X scope N tg fs fp s2 H2) (kW scope sc) (A2 tg++(De N fs).map (·.1)) (A2 tg) k
section
variable{X:Cx}{sc scope:hL}{N L:List Str}{k n i:Nat}{fs:List Nat}{T:Tg}{e elt tg iter DP:eA}{es:List eA}{pos p py spos cpos:hB}{x y:Str}{f g:CO D}{fo:CO (List D)}{src gl:CO (List D)}{kk:CO Bool}
theorem cA(h:SX X sc N L k)(c:cB sc scope N tg T n fs=dn):ri X scope (De N fs)/\(∀i∈T.idx,i<(A2 tg).length)/\(A2 tg).length=n/\(∀fp J C,SA X sc scope N tg fs k fp J C)/\∀fp J C,PG (B1 X scope N tg fs fp J C) tg (p6 X.K T):=by unfold cB at c;simp only[IS,decide_eq_true_eq]at c;obtain⟨z,I,a,b,d⟩:=c;have s : ∀fp J C,SA X sc scope N tg fs k fp J C:=λfp J C=>h.comp I;exact⟨h.Tr z,a,b,s,λfp J C=>oY (s fp J C) d⟩
theorem qD(h:SX X sc N L k)(hi:rn X tg iter src)(z : ∀fp J C,SA X sc scope N tg fs k fp J C->PV (B1 X scope N tg fs fp J C) elt f)(c:cB sc scope N tg T n fs=dn:=by decide +kernel)(I : ∀x,o5 iter X.env x=pure x:=by intro _;rfl) :
 PO X (.ListComp elt [⟨tg,iter,[],0⟩] scope pos) (zS src T n fs jt f):=by
 obtain⟨a,b,d,s,q⟩:=cA h c;have r:=rl (pos:=pos) h.calm a b hi q (λfp J C=>z fp J C<|s fp J C) I;rw[d,Jv]at r;exact r
theorem KZ(h:SX X sc N L k)(hi:rn X tg iter src)(z : ∀fp O C,SA X sc scope N tg fs k fp O C->l9 (B1 X scope N tg fs fp O C) DP kk)(I : ∀fp O C,SA X sc scope N tg fs k fp O C->PV (B1 X scope N tg fs fp O C) elt f)(c:cB sc scope N tg T n fs=dn:=by decide +kernel)(J : ∀x,o5 iter X.env x=pure x:=by intro _;rfl) :
 PO X (.ListComp elt [⟨tg,iter,[DP],0⟩] scope pos) (zS src T n fs kk f):=by
 obtain⟨a,b,d,s,q⟩:=cA h c;have r:=cZ (pos:=pos) h.calm a b hi q (λfp O C=>z fp O C<|s fp O C) (λfp O C=>I fp O C<|s fp O C) J;rw[d,Jv]at r;exact r
theorem vH(h:SX X sc N L k)(hi:rn X tg iter src)(z : ∀fp J C,SA X sc scope N tg fs k fp J C->PV (B1 X scope N tg fs fp J C) elt f)(ct:yt sc N L i y=dn:=by decide +kernel)(c:cB sc scope N tg T n fs=dn:=by decide +kernel)(I : ∀x,o5 iter X.env x=pure x:=by intro _;rfl) :
 PS X (.Assign [.Name y py] (.ListComp elt [⟨tg,iter,[],0⟩] scope cpos) spos) (ao (tO X.K<|zS src T n fs jt f)<|yG i):=by
 obtain⟨a,b,d,s,q⟩:=cA h c;have r:=TZ (cpos:=cpos) (spos:=spos) (py:=py) i h ct h.calm a b hi q (λfp J C=>z fp J C<|s fp J C) I;rw[d,Jv]at r;exact r
theorem rf(h:SX X sc N L k)(hi:rn X tg iter src)(z : ∀fp O C,SA X sc scope N tg fs k fp O C->l9 (B1 X scope N tg fs fp O C) DP kk)(I : ∀fp O C,SA X sc scope N tg fs k fp O C->PV (B1 X scope N tg fs fp O C) elt f)(ct:yt sc N L i y=dn:=by decide +kernel)(c:cB sc scope N tg T n fs=dn:=by decide +kernel)(J : ∀x,o5 iter X.env x=pure x:=by intro _;rfl) :
 PS X (.Assign [.Name y py] (.ListComp elt [⟨tg,iter,[DP],0⟩] scope cpos) spos) (ao (tO X.K<|zS src T n fs kk f)<|yG i):=by
 obtain⟨a,b,d,s,q⟩:=cA h c;have r:=EV (cpos:=cpos) (spos:=spos) (py:=py) i h ct h.calm a b hi q (λfp O C=>z fp O C<|s fp O C) (λfp O C=>I fp O C<|s fp O C) J;rw[d,Jv]at r;exact r
theorem AA(h:SX X sc N L k)(hi:rn X tg iter src)(z : ∀fp J C,SA X sc scope N tg fs k fp J C->PO (B1 X scope N tg fs fp J C) elt fo)(ct:yt sc N L i y=dn:=by decide +kernel)(c:cB sc scope N tg T n fs=dn:=by decide +kernel)(I : ∀x,o5 iter X.env x=pure x:=by intro _;rfl) :
 lN X (.Assign [.Name y py] (.ListComp elt [⟨tg,iter,[],0⟩] scope cpos) spos) (iq i<|Wn src T n fs fo):=by
 obtain⟨a,b,d,s,q⟩:=cA h c;have r:=iP (cpos:=cpos) (spos:=spos) (py:=py) i h ct h.calm a b hi q (λfp J C=>z fp J C<|s fp J C) I;rw[d,Jv]at r;exact r
theorem zq(h:SX X sc N L k)(c:JZ sc N i x=dn:=by decide +kernel):PV X (.Name x pos) (zf i):=Am i<|h.var c
theorem zM(h:SX X sc N L k)(c:JZ sc N i x=dn:=by decide +kernel):PQ X (.Name x pos) (zg i):=AC i<|h.var c
theorem ux(h:SX X sc N L k)(c:F9 sc N L e T=dn:=by decide +kernel):PG X e (p6 X.K T):=oY h c
theorem jd(h:SX X sc N L k)(z:PV X e f)(c:yt sc N L i x=dn:=by decide +kernel)(I:wo e (di (.Name x py)) pos.line X.env=pure ed:=by rfl):lN X (.Assign [.Name x py] e pos) (jj i f):=pX i<|h.set i c z I
theorem yn(h:SX X sc N L k)(z:PO X e fo)(c:yt sc N L i x=dn:=by decide +kernel)(I:wo e (di (.Name x py)) pos.line X.env=pure ed:=by rfl):lN X (.Assign [.Name x py] e pos) (xw i fo):=Wv i<|h.set i c z I
theorem xy{C:List kv}{F:CO Fl}(hx:X.xe=λ_ _=>False)(h:SX X sc N L k)(hi:i4 X tg iter src)(z:gw X C F)(c:F9 sc N L tg T=dn:=by decide +kernel)(I : ∀x,o5 iter X.env x=pure x:=by intro _;rfl):lN X (.For tg iter C [] pos) (vt src T F):=pY (nL hx) h.calm hi (oY h c) z I
variable{j:Nat}{F:List D->Option Res}
theorem zV(z:gB X.prog X.w X.K X.mg X.base j x n F)(h:SX X sc N L k)(C:C8 X (e::es) n gl)(I:j<=k:=by decide)(c:vd sc x=dn:=by decide +kernel)
 (J:gv (e::es) X.env=(ed,fh e X.env)::gv es X.env:=by rfl) (O:(p5 pos<|starEach es X.env).any (·.1)=ed:=by rfl):PV X (.Call (.Name x p) (e::es) [] pos) (zB F gl):=EU z I h c C J O
theorem xF(z:gB X.prog X.w X.K X.mg X.base j x n F)(h:SX X sc N L k)(C:C8 X (e::es) n gl)(I:j<=k:=by decide)(c:vd sc x=dn:=by decide +kernel)
 (J:gv (e::es) X.env=(ed,fh e X.env)::gv es X.env:=by rfl) (O:(p5 pos<|starEach es X.env).any (·.1)=ed:=by rfl):PO X (.Call (.Name x p) (e::es) [] pos) (jr F gl):=EX z I h c C J O
end
noncomputable def Xh:=ja 1 (zH (i0 (Y4 (xf (sB (t8 .str (zf 0)))) (sB (zG Sd (yx (zf 0)) (zu (.int 6))))) (jV (zu (.bl ed))) qg) (jV (EM (jF (zS (uM (zf 0)) (.nm 0) 1 [] jt (HB (zf 0) (zF (zu (.tup [.str "r",.str "l"])))))))))
noncomputable def w4:=ja 2<|zH (i0 (Y4 (xf<|sB<|zB V0<|zb (zf 1)<|zb (zu<|.int 2) zD)<|Y4 (xf<|sB<|zB Y0<|zb (zf 0)<|zb (d8 (zg 1)<|zu<|.int 0) zD)<|xf<|sB<|zB Y0<|zb (zf 0)<|zb (d8 (zg 1)<|zu<|.int 1) zD) (jV<|zu<|.bl ed) qg)<|jV<|zG o3 (d8 (zg 1)<|zu<|.int 0)<|d8 (zg 1)<|zu<|.int 1
noncomputable def jn:=ja 5<|zH (i0 (aw (sB<|zG qs (vh<|zg 0)<|zu<|.int 1)<|sB<|zG h7 (zG ky (d8 (zg 0)<|zu<|.int 0)<|zu<|.int 2)<|zu<|.int 1) (zH (jj 2<|d8 (zg 0)<|zG qx (zu<|.int 1)<|zG ky (zf 1)<|zG JE (vh<|zg 0)<|zu<|.int 1)<|zH (vt (zW<|Xv (zu<|.int 60)<|zG QB (zf 1)<|zG JE (vh<|zg 0)<|zu<|.int 1) (.nm 3)<|jj 2<|zG QB (zf 2)<|zG sJ (zu<|.int 10)<|zu<|.int 9)<|jV<|zG ky (zf 2)<|zG sJ (zu<|.int 10)<|zu<|.int 9) qg)<|zH (jj 4<|zf 1)<|zH (i0 (sB<|zG qs (vh<|zg 0)<|zu<|.int 0) (jj 4<|d8 (zg 0)<|zG ky (zf 1)<|vh<|zg 0) qg)<|jV<|zG ky (zG ve (zG ky (zG qx (zG qx (zG qx (zG ve (zG ky (zf 4)<|zG sJ (zu<|.int 10)<|zu<|.int 30)<|zu<|.int 48271)<|zG ve (zG ve (zu<|.int 7)<|zf 1)<|zf 1)<|zG ve (zu<|.int 13)<|zf 1)<|zu<|.int 5)<|zu<|.int 2147483647)<|zu<|.int 69621)<|zu<|.int 1000000007
noncomputable def JQ:=ja 5<|zH (jj 3<|jX<|zS (Y9 (d8 (zg 0)<|zu<|.int 2)<|d8 (zg 2)<|zu<|.int 2) (.tp [0,1]) 2 [] jt (zG qx (zf 0)<|zf 1))<|zH (jj 4<|jX<|zS (zL<|zF<|d8 (zg 1)<|zu<|.int 2) (.nm 0) 1 [0] jt (zG qx (zG ve (qB<|zb (zu<|.int 0) zD)<|d8 (zg 1)<|zu<|.int 1)<|zf 0))<|jV<|qB<|zb (zG qx (d8 (zg 0)<|zu<|.int 0)<|d8 (zg 1)<|zu<|.int 0)<|zb (zG qx (d8 (zg 0)<|zu<|.int 1)<|d8 (zg 1)<|zu<|.int 1)<|zb (jf<|zF<|jX<|KJ (zg 3)<|zg 4) zD
noncomputable def gC:=ja 2<|jV<|zB QD<|zb (d8 (zg 0)<|zu<|.int 0)<|zb (d8 (zg 1)<|zu<|.int 1) zD
noncomputable def wO:=ja 2<|jV<|zB JQ<|zb (zf 0)<|zb (zf 1)<|zb (zB gC<|zb (zf 0)<|zb (zf 1) zD) zD
noncomputable def nj:=ja 3<|kF<|jr qH<|zb (zf 0)<|zb (d8 (zg 1)<|zu<|.int 0)<|zb (jX<|zS (zL<|zg 2) (.nm 0) 1 [0,1] jt (zB VZ<|zb (zf 1)<|zb (zf 2)<|zb (zf 0) zD)) zD
noncomputable def Ck:=ja 6<|zH (jj 3<|zB j7<|zb (d8 (zF<|d8 (zg 0)<|zu<|.int 1)<|zf 1) zD)<|zH (xw 4<|zS (zL<|zF<|d8 (zg 3)<|zu<|.int 2) (.nm 0) 1 [] jt (zG qx (zf 0)<|zf 0))<|zH (vt (zL<|zF<|Wl (d8 (zg 0)<|zu<|.int 2) (o8<|zf 1)<|o8<|zf 2) (.nm 5)<|iu 4<|xw 4<|uS nj xn<|zb (d8 (zg 0)<|zu<|.int 0)<|zb (d8 (zg 5)<|zu<|.int 0)<|zb (zB wO<|zb (zf 3)<|zb (d8 (zg 5)<|zu<|.int 1) zD)<|zb (zf 4) zD)<|J2 4
noncomputable def xC:=ja 3 (zH (i0 (sB (zG h7 (d8 (zg 1) (zu (.int 0))) (d8 (zg 2) (zu (.int 0))))) (jV (zu (.bl dn))) qg) (jV (zG h7 (kE (zf 0) (zG JE (KH (d8 (zg 1) (zu (.int 0))) (d8 (zg 2) (zu (.int 0)))) (zu (.int 1)))) (cE (sB (zG z4 (d8 (zg 1) (zu (.int 0))) (d8 (zg 2) (zu (.int 0))))) (zu (.str "l")) (zu (.str "r"))))))
noncomputable def qY:=ja 3 (zH (i0 (sB (zG h7 (d8 (zg 1) (zu (.int 1))) (d8 (zg 2) (zu (.int 1))))) (jV (zu (.bl dn))) qg) (jV (zG h7 (kE (zf 0) (Xv (d8 (zg 1) (zu (.int 1))) (d8 (zg 2) (zu (.int 1))))) (cE (sB (zG qs (d8 (zg 1) (zu (.int 1))) (d8 (zg 2) (zu (.int 1))))) (zu (.str "r")) (zu (.str "l"))))))
noncomputable def xS:=ja 3<|zH (i0 (sB<|zG qs (KH (d8 (zg 1)<|zu<|.int 0)<|d8 (zg 2)<|zu<|.int 0)<|Xv (d8 (zg 1)<|zu<|.int 1)<|d8 (zg 2)<|zu<|.int 1) (jV<|zu<|.int 0) qg)<|jV<|cE (aw (sB<|zB xC<|zb (zf 0)<|zb (zf 1)<|zb (zf 2) zD)<|sB<|zB qY<|zb (zf 0)<|zb (zf 1)<|zb (zf 2) zD) (zu<|.int 1)<|zu<|.int 0
noncomputable def jO:=ja 2 (zH (i0 (sB (zG h7 (kE (zf 0) (zf 1)) (zu (.str "r")))) (jV (qB (zb (zf 1) (zb (zG qx (zf 1) (zu (.int 1))) zD)))) qg) (jV (qB (zb (zG qx (zf 1) (zu (.int 1))) (zb (zf 1) zD)))))
noncomputable def qt:=ja 8<|zH (xw 4<|qr zD)<|zH (vt (zW<|zf 2) (.nm 5)<|zH (jj 6<|zB jn<|zb (zf 0)<|zb (zG qx (zf 1)<|zf 5) zD)<|zH (jj 7<|zG ky (zf 6)<|zf 3)<|ql 4<|qB<|zb (zf 7)<|zb (zG qx (zf 7)<|zG ky (zG QB (zf 6)<|zf 3)<|zG JE (zf 3)<|zf 7) zD)<|kF<|QK<|zg 4
noncomputable def xt:=ja 2 (jV (pJ (zu (.str "")) (jF (zS (zW (zG JE (zf 1) (zu (.int 1)))) (.nm 0) 1 [0] jt (kE (zu (.str "rl")) (zG ky (zG QB (zf 1) (d8 (jF (qr (zb (zu (.int 1)) (zb (zu (.int 2)) (zb (zu (.int 4)) (zb (zu (.int 8)) (zb (zu (.int 16)) zD))))))) (zf 0))) (zu (.int 2))))))))
noncomputable def qj:=ja 3<|zH (xw 1<|qr zD)<|zH (vt (zW<|zf 0) (.nm 2)<|cG 1<|zS (wt (zf 2)<|zf 0) (.nm 0) 1 [2] jt (qB<|zb (zf 1)<|zb (zf 0) zD))<|J2 1
noncomputable def q8:=ja 10<|zH (ZQ (.tp [3,4])<|zf 2)<|zH (xw 5<|qr zD)<|zH (vt (zW<|yx<|zf 1) (.nm 6)<|zH (ZQ (.tp [7,8])<|zB jO<|zb (zf 1)<|zb (zf 6) zD)<|zH (jj 9<|jf<|jF<|zS (zL<|zF<|d8 (zg 4)<|zf 6) (.nm 0) 1 [] jt (jf<|zg 0))<|ql 5<|qB<|zb (kE (zf 1)<|zf 6)<|zb (qB<|zb (d8 (zg 3)<|zf 8)<|zb (d8 (zg 3)<|zf 7)<|zb (zf 9) zD) zD)<|jV<|qB<|zb (zf 0)<|zb (jf<|zg 3)<|zb (jf<|zg 5) zD
noncomputable def jT:=ja 1<|jV<|qB<|zb (d8 (zg 0)<|zu<|.int 0)<|zb (zG JE (zG qx (d8 (zg 0)<|zu<|.int 0)<|vh<|zF<|d8 (zg 0)<|zu<|.int 1)<|zu<|.int 1) zD
noncomputable def jP:=ja 2<|jV<|vB o3 z4 (d8 (zg 0)<|zu<|.int 0) (zf 1)<|zG qx (d8 (zg 0)<|zu<|.int 0)<|vh<|zF<|d8 (zg 0)<|zu<|.int 1
noncomputable def qP:=ja 2<|kF<|zS (zL<|zg 0) (.nm 0) 1 [1] (sB<|zB jP<|zb (zf 0)<|zb (zf 1) zD) (d8 (zF<|d8 (zg 0)<|zu<|.int 1)<|zG JE (zf 1)<|d8 (zg 0)<|zu<|.int 0)
noncomputable def ka:=ja 2<|jV<|zB qc<|zb (qB<|zb (vh<|zg 1)<|zb (zf 0)<|zb (jf<|zg 1) zD) zD
noncomputable def ko:=ja 5<|zH (jj 4<|jX<|zS (Y9 (zf 2)<|zf 1) (.tp [0,1]) 2 [3] (sB<|zB jP<|zb (zf 1)<|zb (zf 2) zD) (zf 0))<|jV<|zB VZ<|zb (d8 (zg 0)<|zu<|.int 0)<|zb (zB ka<|zb (d8 (zF<|d8 (zg 0)<|zu<|.int 1)<|zf 3)<|zb (jX<|jr qP<|zb (zf 1)<|zb (zf 3) zD) zD)<|zb (zf 4) zD
noncomputable def Ki:=ja 5<|zH (jj 3<|d8 (zg 1)<|zB qF<|zb (zf 2) zD)<|zH (jj 4<|jX<|zS (zW<|vh<|zF<|d8 (zg 3)<|zu<|.int 1) (.nm 0) 1 [0,1,2,3] jt (zB ko<|zb (zf 1)<|zb (zf 2)<|zb (zf 3)<|zb (zG qx (d8 (zg 4)<|zu<|.int 0)<|zf 0) zD))<|jV<|qB<|zb (d8 (zg 3)<|zu<|.int 0)<|zb (jf<|zg 4) zD
noncomputable def RA:=(jj 3<|d8 (zF<|d8 (zF<|d8 (zg 0)<|zu<|.int 2)<|zf 1)<|zu<|.int 0)
noncomputable def RB:=(jj 4<|d8 (zF<|d8 (zF<|d8 (zg 0)<|zu<|.int 2)<|zf 1)<|zu<|.int 1)
noncomputable def L9:=(jj 5 (cE (sB (zG h7 (zf 3) (zu (.str "r")))) (jX (jr y0 (zb (d8 (zg 0) (zu (.int 0))) (zb (zf 4) zD)))) (jX (jr wQ (zb (d8 (zg 0) (zu (.int 0))) (zb (zf 4) zD))))))
noncomputable def RD:=(jj 6<|jX<|jr xn<|zb (d8 (zg 0)<|zu<|.int 0)<|zb (zB ka<|zb (d8 (zF<|d8 (zg 0)<|zu<|.int 1)<|zf 1)<|zb (jX<|jr qP<|zb (zf 2)<|zb (zf 1) zD) zD)<|zb (zf 5) zD)
noncomputable def RE:=(jj 7<|nB<|zS (zL<|zg 6) (.nm 0) 1 [] jt (qB<|zb (zB qF<|zb (zf 0) zD)<|zb (zf 0) zD))
noncomputable def RF:=(kF<|zS (nA<|zf 2) (.tp [0,1]) 2 [0,2,7] jt (cE (sB<|uR (zf 0)<|zf 4) (zB Ki<|zb (zf 2)<|zb (zf 3)<|zb (Ct (zf 4)<|zf 0) zD)<|zf 1))
noncomputable def we:=ja 8<|zH RA<|zH RB<|zH L9<|zH RD<|zH RE RF
noncomputable def DX:=(i0 (sB (zG h7 (d8 (zg 1) (zu (.int 0))) (zu (.str "l")))) (jV (zB yZ (zb (zf 0) (zb (d8 (zg 1) (zu (.int 1))) (zb (zf 2) zD))))) qg)
noncomputable def L4:=(jj 3<|zB VZ<|zb (zf 0)<|zb (d8 (zg 1)<|zu<|.int 1)<|zb (zf 2) zD)
noncomputable def L5:=(jV<|cE (sB<|tW<|zg 3) (zf 3)<|zu .el)
noncomputable def xm:=ja 4<|zH DX<|zH L4 L5
noncomputable def RP:=(jj 3<|zB xm<|zb (zf 0)<|zb (zf 1)<|zb (d8 (zF<|d8 (zg 2)<|zu<|.int 1)<|uN<|zu<|.int 1) zD)
noncomputable def M5:=(jV<|cE (sB<|zG sL (zf 3)<|zu .el) (zf 2)<|qB<|zb (d8 (zg 2)<|zu<|.int 0)<|zb (zG qx (d8 (zg 2)<|zu<|.int 1)<|qB<|zb (zf 3) zD) zD)
noncomputable def kP:=ja 4<|zH RP M5
noncomputable def F4:=(i0 (sB (zG h7 (d8 (zg 1) (zu (.int 0))) (zu (.str "l")))) (kF (jr y0 (zb (zf 0) (zb (d8 (zg 1) (zu (.int 1))) zD)))) qg)
noncomputable def Rw:=(jj 2<|jX<|zS (zL<|jF<|jr wQ<|zb (zf 0)<|zb (d8 (zg 1)<|zu<|.int 1) zD) (.nm 0) 1 [] jt (zB qF<|zb (zf 0) zD))
noncomputable def Rx:=(kF<|zS (iw<|d8 (zF<|zB j7<|zb (d8 (zF<|d8 (zg 1)<|zu<|.int 1)<|zu<|.int 0) zD)<|zu<|.int 2) (.tp [0,1]) 2 [2] (sB<|Xu (zf 0)<|zg 2) (zf 1))
noncomputable def ye:=ja 3<|zH F4<|zH Rw Rx
noncomputable def P8:=(jj 3<|d8 (zg 0)<|zu<|.int 0)
noncomputable def P9:=(jj 4<|d8 (zF<|d8 (zg 0)<|zu<|.int 2)<|zf 1)
noncomputable def Ro:=(jj 5<|jX<|zS (zL<|zg 2) (.nm 0) 1 [1] (xf<|sB<|zB jP<|zb (zf 0)<|zb (zf 1) zD) (zf 0))
noncomputable def Rp:=(jj 6<|jX<|jr we<|zb (zf 0)<|zb (zf 1)<|zb (jX<|zS (zL<|zg 2) (.nm 0) 1 [1] (sB<|zB jP<|zb (zf 0)<|zb (zf 1) zD) (zf 0)) zD)
noncomputable def Rq:=(jj 7<|jX<|zS (zL<|zg 6) (.nm 0) 1 [3,4] jt (zB kP<|zb (zf 1)<|zb (zf 2)<|zb (zf 0) zD))
noncomputable def Rr:=(jj 8<|jX<|zS (zL<|jF<|jr ye<|zb (zf 3)<|zb (zf 4) zD) (.nm 0) 1 [1] jt (qB<|zb (zG qx (zf 1)<|zu<|.int 1)<|zb (qB<|zb (zf 0) zD) zD))
noncomputable def I0:=(jV (jX (KJ (zg 5) (zF (cE (sB (zG h7 (d8 (zg 4) (zu (.int 0))) (zu (.str "r")))) (jX (KJ (zg 8) (zg 7))) (jX (KJ (zg 7) (zg 8))))))))
noncomputable def JU:=ja 9<|zH P8<|zH P9<|zH Ro<|zH Rp<|zH Rq<|zH Rr I0
noncomputable def Ht:=(jj 1<|jX<|zS (zL<|zF<|d8 (zF<|zB j7<|zb (d8 (zF<|d8 (zg 0)<|zu<|.int 1)<|zu<|.int 0) zD)<|zu<|.int 2) (.nm 0) 1 [] jt (qB<|zb (zu<|.int 0)<|zb (qB<|zb (zf 0) zD) zD))
noncomputable def O9:=(vt (zW<|vh<|zF<|d8 (zg 0)<|zu<|.int 2) (.nm 2)<|jj 1<|zB JU<|zb (zf 0)<|zb (zf 2)<|zb (zf 1) zD)
noncomputable def Pt:=(kF<|cD jT<|zg 1)
noncomputable def yi:=ja 3<|zH Ht<|zH O9 Pt
noncomputable def Pz:=(jj 1<|jX<|jr yi<|zb (zf 0) zD)
noncomputable def P0:=(jj 2<|jX<|zS (iw<|d8 (zg 0)<|zu<|.int 1) (.tp [0,1]) 2 [1] jt (zB ka<|zb (zf 1)<|zb (jX<|jr qP<|zb (zf 2)<|zb (zf 0) zD) zD))
noncomputable def P1:=(jj 3<|jX<|zS (zL<|zg 2) (.nm 0) 1 [0] jt (zB kc<|zb (d8 (zg 1)<|zu<|.int 0)<|zb (zf 0) zD))
noncomputable def P2:=(jV<|qB<|zb (jX<|zS (zL<|zg 1) (.nm 0) 1 [] jt (zB jT<|zb (zf 0) zD))<|zb (zf 3)<|zb (zf 2) zD)
noncomputable def jU:=ja 4<|zH Pz<|zH P0<|zH P1 P2
noncomputable def Cm:=ja 7<|zH (jj 3<|jX<|jr Ck<|zb (zf 0)<|zb (zf 1)<|zb (zf 2) zD)<|zH (jj 4<|d8 (zF<|d8 (zg 0)<|zu<|.int 1)<|zf 1)<|zH (jj 5<|d8 (zF<|d8 (zg 0)<|zu<|.int 1)<|zf 2)<|zH (jj 6<|jX<|jr qH<|zb (d8 (zg 0)<|zu<|.int 0)<|zb (zG qx (zf 5)<|zf 4)<|zb (jX<|zS (zL<|zg 3) (.nm 0) 1 [4] jt (zG qx (Wl (zf 0) (o8<|zf 1) bC)<|Wl (zf 0) bC<|o8<|zf 1)) zD)<|jV<|zG JE (zG JE (vh<|zg 3)<|vh<|jF<|jr jQ<|zb (zf 5)<|zb (zf 6) zD)<|vh<|jF<|jr jQ<|zb (zf 4)<|zb (zf 3) zD
noncomputable def qb:=ja 3<|jV<|gH<|jF<|zS (zL<|zg 1) (.nm 0) 1 [0,2] jt (zB xS<|zb (zf 1)<|zb (zf 0)<|zb (zf 2) zD)
noncomputable def yN:=ja 3<|zH (pK<|zB qk<|zb (zf 0)<|zb (zf 1) zD)<|zH (jj 2<|d8 (zF<|zB jU<|zb (zf 0) zD)<|zu<|.int 0)<|jV<|gH<|jF<|zS (zL<|zF<|d8 (zF<|zB jU<|zb (zf 1) zD)<|zu<|.int 0) (.nm 0) 1 [0,2] jt (zB qb<|zb (zB xB<|zb (zf 1) zD)<|zb (zf 2)<|zb (zf 0) zD)
abbrev q5(k:Sk)(xs:List D):D:=match k with | .T=>D.tup xs | .L=>D.lst xs
@[simp] theorem GN(k xs):jA (q5 k xs)=di (k,xs):=by cases k<;>rfl
theorem Xf(k:Sk)(f:Nat->Int)(z:0<p)(C:n<=lim) :
 xG [.int p,q5 k (zJ n f)]=di (.val<|.tup<|zJ n λi=>f i%p):=by
 simp[xG,ja,zY,z6,C,kf];unfold zJ;rw[zy (r:=λi=>D.int<|f i%p)]
 ·simp
 ·intro i a
  refine zA rfl rfl ?_;simp[z]
theorem gA(f:Nat->Int)(z:0<p)(C:n<=lim) :
 xG [.int p,.tup (zJ n f)]=di (.val<|.tup<|zJ n λi=>f i%p):=Xf .T f z C
theorem JS(f:Nat->Int)(z:0<p)(C:n<=lim) :
 xG [.int p,.lst (zJ n f)]=di (.val<|.tup<|zJ n λi=>f i%p):=Xf .L f z C
theorem Kk(k:Sk)(f:RK)(g:Nat->Int)(I:0<p)(z:h<=lim)(C:w<=lim)(J : ∀i j,i<h->j<w->0<=f i j/\f i j<100) :
 VZ [.int p,xk h w f,q5 k (zJ w g)]=di (.val<|.tup<|zJ h λi=>zl (λj=>f i j*g j) w%p):=by
 simp[VZ,ja,zY,z6,z,kf,xk,IE];unfold z5;rw[zy (r:=λi=>D.int<|zl (λj=>f i j*g j) w)]
 ·simp
  rw[show(List.map (λi=>D.int<|zl (λj=>f i j*g j) w)<|Iz h)=zJ h λi=>zl (λj=>f i j*g j) w from rfl,JS _ I z];rfl
 ·intro i a
  refine zA rfl rfl ?_;simp[z6,Xi,C];rw[zy (r:=λj=>D.int<|f i j*g j)]
  ·simp
   rw[show(List.map (λj=>D.int<|f i j*g j)<|Iz w)=zJ w λj=>f i j*g j from rfl,ZH]
  ·intro j O
   refine zA rfl rfl ?_;have:=J i j (IC.mp a)<|IC.mp O;simp[vY (f i j) (g j) ⋯ ⋯]
theorem yL(f:RK)(z:h<=lim)(C:w<=lim):qc [xk h w f]=di (.val<|xk w h λi j=>f j i):=by
 simp[qc,ja,zY,z6,z,C,kf,xk,IE,jm,jY];rw[jh w λi=>(i:Int)];rw[zy (r:=λj=>D.tup<|zJ h λi=>f i j)]
 ·simp
  rfl
 ·intro j I
  refine zA rfl rfl ?_;simp[z6,z,kf];unfold z5;rw[zy (r:=λi=>D.int<|f i j)]
  ·simp
   rfl
  ·intro i b
   refine zA rfl rfl ?_;have a:=IC.mp I;simp[a,Zp _ a]
theorem YZ{p:Int}{h m w:Nat}(f g:RK)(z:0<p)(I:h<=lim)(C:m<=lim)(L:w<=lim)(J : ∀i j,i<m->j<w->0<=g i j/\g i j<100) :
 xZ [.int p,xk h m f,xk m w g]=di (.val<|xk h w λi j=>zl (λk=>g k j*f i k) m%p):=by
 simp[xZ,ja,zY,jm,yL g C L];simp[z6,I,C,L,kf,xk];rw[show z5 h m f=(Iz h).map λi=>D.tup (zJ m<|f i)from rfl];rw[zy (r:=λi=>D.tup<|zJ w λj=>zl (λk=>g k j*f i k) m%p)]
 ·simp
  rfl
 ·intro i l
  refine zA rfl rfl ?_;have e:=Kk .T (λi j=>g j i) (f i) z L C<|λa b d O=>J b a O d;simp[xk]at e ⊢;rw[e];simp
theorem yK(C:n<=lim):j7 [.int n]=di (.val<|xk n n λi j=>if i=j then 1 else 0):=by
 simp[j7,ja,zY,jm,C,z6,kf,IE,jY];rw[jh n λi=>(i:Int)];rw[zy (r:=λi=>D.tup<|zJ n λj=>if i=j then 1 else 0)]
 ·simp
  rfl
 ·intro i a
  refine zA rfl rfl ?_;simp[C,z6,IE,jY,kf];rw[jh n λi=>(i:Int)];rw[zy (r:=λj=>D.int<|if i=j then 1 else 0)]
  ·simp
   rfl
  ·intro j z
   refine zA rfl rfl ?_;simp;by_cases e:i=j
   ·simp[e]
   ·rw[EQ ⋯,EQ e]
theorem cL(d:D)(w:Nat):IE w d=(Iz w).map λ_=>d:=by
 induction w with
 | zero=>rfl
 | succ n z=>rw[List.replicate_succ',z,MD,LV];simp
noncomputable def QA(C:List Int):D:= .lst (C.map D.int)
mutual
theorem H9 : ∀d:D,hH d d=dn
 | .el=>rfl
 | .bl b=>by simp[hH]
 | .int i=>by simp[hH]
 | .str x=>by simp[hH]
 | .tup e=>by simp only[hH];exact DR e
 | .lst e=>by simp only[hH];exact DR e
 | .l4 a b=>by simp only[hH];rw[DR a,DR b];rfl
 | .lh a b=>by simp only[hH];rw[DR b];simp
theorem DR : ∀ds:List D,o9 ds ds=dn
 | []=>rfl
 | d::ds=>by simp only[o9,H9 d,DR ds,Bool.and_self]
end
theorem Zr : ∀{l:List D} {n:Nat},(∀d∈l,deep d<=n)->t6 l<=n
 | [],n,_=>LL n
 | d::ds,n,h=>by simp only[t6];exact Nat.max_le.mpr ⟨h d IQ,Zr λe z=>h e<|IM _ z⟩
theorem mK(n f):deep (.tup<|zJ n f)<=1:=by
 simp only[deep];have:t6 (zJ n f)<=0:=Zr λd a=>by simp[zJ]at a;obtain⟨i,_,rfl⟩:=a;exact IH _
 omega
theorem mL(h w f):deep (.tup<|z5 h w f)<=2:=by
 simp only[deep];have:t6 (z5 h w f)<=1:=Zr λd a=>by simp[z5]at a;obtain⟨i,_,rfl⟩:=a;exact mK _ _
 omega
theorem XI : ∀{l:List D},(∀d∈l,kr d=dn)->lW l=dn
 | [],_=>rfl
 | d::ds,h=>by simp only[lW,h d IQ,XI λe z=>h e<|IM _ z,Bool.and_self]
theorem dM(h:deep d<=n)(I:n<=20)(C:kr d=dn):kA d=dn:=by unfold kA;rw[C,Bool.and_true];exact decide_eq_true<|LN h I
theorem rM(n f):kr (.tup<|zJ n f)=dn:=by
 simp only[kr];exact XI λd a=>by simp[zJ]at a;obtain⟨i,_,rfl⟩:=a;rfl
theorem rO(h w f):kr (.tup<|z5 h w f)=dn:=by
 simp only[kr];exact XI λd a=>by simp[z5]at a;obtain⟨i,_,rfl⟩:=a;exact rM _ _
theorem Zt{d:D}(h:kA d=dn):i8 d d=di (.bl ed):=by unfold i8;rw[RY ⟨h,h⟩,H9];rfl
theorem yd(i:Int):qK [.int i]=di (.val<|.bl dn):=by simp[qK,ja,zY,gI]
theorem QR(k:Int)(z:0<k) : ∃n:Nat,m%k=n/\(n:Int)<k:=by have a:=Lp m (show k≠0 by omega);have d:=La m z;obtain⟨n,b⟩:=MV a;exact⟨n,b,by omega⟩
noncomputable def i9(b:Bool):Nat:=if b then 108 else 114
noncomputable def yR(c:Nat):Str:=⟨#[c]⟩
theorem QU : ∀(l:List Nat),(Rh "" (l.map yR)).cps.toList=l
 | []=>rfl
 | [c]=>rfl
 | c::d::l=>by
  have z:=QU (d::l);show((yR c++("" : Str))++Rh "" ((d::l).map yR)).cps.toList=_;have e : ∀a b:Str,(a++b).cps.toList=a.cps.toList++b.cps.toList:=λa b=>by show(a.cps++b.cps).toList=_;simp
  rw[e,e,z];rfl
noncomputable def jJ(m:Nat)(w:RX):Str:=Rh "" ((Iz m).map λk=>yR (i9 (w k)))
theorem kB(m w):(jJ m w).cps.toList=(Iz m).map λk=>i9 (w k):=by have:=QU<|(Iz m).map λk=>i9<|w k;rw[Li]at this;exact this
theorem vw(m w):(jJ m w).length=m:=by show(jJ m w).cps.size=m;rw[<- Md,kB];simp
theorem kz{m:Nat}(w)(C:m<=1000):jW (jJ m w)=dn:=decide_eq_true (by rw[vw];exact C)
theorem Xq{C:Type}(g:C->Str) : ∀l:List C,Kx (l.map λx=>D.str<|g x)=di (l.map g)
 | []=>rfl
 | a::l=>by simp[Kx,Xq g l]
noncomputable def iS(w:RX)(wd:RZ)(k:Nat):Nat:=if w k then wd k else wd (k+1)
noncomputable def iW(w:RX)(wd:RZ)(k:Nat):Nat:=if w k then wd (k+1)else wd k
noncomputable def wj(w:RX)(wd:RZ)(T:RV)(k:Nat):D:= .tup [.str (yR<|i9<|w k),xk (iS w wd k) (iW w wd k) (T k)]
noncomputable def kM(m:Nat)(w:RX)(wd:RZ)(T:RV):List D:=(Iz m).map (wj w wd T)
noncomputable def qv(p:Int)(m:Nat)(w:RX)(wd:RZ)(T:RV):D:= .tup [.int p,.tup<|zJ (m+1) λk=>(wd k:Int),.tup (kM m w wd T)]
@[simp] theorem YT(m w wd T):(kM m w wd T).length=m:=by simp[kM]
theorem vz{m k:Nat}(w)(C:m<=1000)(z:k<m)(γ:Ctx)(f g:CO D)(I:f γ=di (.str<|jJ m w))(J:g γ=di (.int k)):kE f g γ=di (.str<|yR<|i9<|w k):=by rw[wa,I,J];simp only[IL,JK];rw[RY (kz w C),kB];simp[z,yR]
theorem oh(b:Bool):h7 (.str (yR (i9 b))) (.str "l")=di (.bl b):=by
 have e : ∀b:Bool,(yR (i9 b)==(LC "l"))=b:=by decide +kernel
 have z : ∀b:Bool,kA (.str<|yR<|i9 b)=dn:=by decide +kernel
 have I:kA (.str (LC "l"))=dn:=by decide +kernel
 unfold h7;rw[RY ⟨z b,I⟩];show di (D.bl (yR (i9 b)==LC "l"))=_;rw[e]
theorem Bc(b:Bool):kA (.str<|yR<|i9 b)=dn:=by cases b<;>decide +kernel
theorem VI(b:Bool):h7 (.str (yR (i9 b))) (.str "r")=di (.bl (!b)):=by
 have e : ∀b:Bool,(yR (i9 b)==(LC "r")) = !b:=by decide +kernel
 have z:kA (.str (LC "r"))=dn:=by decide +kernel
 unfold h7;rw[RY ⟨Bc b,z⟩];show di (D.bl (yR (i9 b)==LC "r"))=_;rw[e]
section
variable{p:Int}
noncomputable def fG(h w:Nat)(f:RK):List D:=(Iz h).map λi=>D.lst<|zJ w<|f i
@[simp] theorem BI(h w f):(fG h w f).length=h:=by simp[fG]
end
theorem zx : ∀{n:Nat},(∀k,k<n->f k=g k)->zl f n=zl g n
 | 0,_=>rfl
 | n+1,h=>by simp only[zl];rw[zx (n:=n) λk z=>h k ⋯,h n ⋯]
theorem zT(n:Nat):zl (λ_=>0) n=0:=by
 induction n with
 | zero=>rfl
 | succ n z=>simp[zl,z]
theorem zQ(hi:i<n)(h : ∀k,k<n->k≠i->f k=0):zl f n=f i:=by
 induction n with
 | zero=>omega
 | succ n z=>
  simp only[zl];by_cases e:i=n
  ·subst e
   rw[zx (g:=λ_=>0) (λk I=>h k ⋯ ⋯),zT];omega
  ·rw[z ⋯ λk I=>h k ⋯,h n ⋯ ⋯]
   omega
theorem jy(f g:Nat->Int)(n:Nat):zl (λk=>f k+g k) n=zl f n+zl g n:=by
 induction n with
 | zero=>rfl
 | succ n z=>simp only[zl,z];omega
theorem qM(f:Nat->Int)(c:Int)(n:Nat):zl (λk=>f k*c) n=zl f n*c:=by
 induction n with
 | zero=>simp[zl]
 | succ n z=>simp only[zl,z,OU]
theorem ju(f:Nat->Int)(c:Int)(n:Nat):zl (λk=>c*f k) n=c*zl f n:=by
 induction n with
 | zero=>simp[zl]
 | succ n z=>simp only[zl,z,NF]
theorem qL(f:RK)(n m:Nat):zl (λi=>zl (λj=>f i j) m) n=zl (λj=>zl (λi=>f i j) n) m:=by
 induction n with
 | zero=>simp[zl,zT]
 | succ n z=>simp only[zl];rw[z,<- jy]
theorem zN : ∀{n:Nat},(∀k,k<n->f k%p=g k%p)->zl f n%p=zl g n%p
 | 0,_=>rfl
 | n+1,h=>by simp only[zl];rw[LA,zN (n:=n)<|λk z=>h k ⋯,h n ⋯,<- LA]
theorem eB(p x y:Int):(x%p*y)%p=(x*y)%p:=by rw[IJ,Lf,<- IJ]
theorem vM(p x y:Int):(x*(y%p))%p=(x*y)%p:=by rw[IJ,Lf,<- IJ]
theorem bZ(p:Int)(a b c:RK)(m w i j:Nat) :
 zl (λk=>a i k*(zl (λl=>b k l*c l j) w%p)) m%p=zl (λl=>(zl (λk=>a i k*b k l) m%p)*c l j) w%p:=by
 rw[zN (g:=λk=>zl (λl=>a i k*(b k l*c l j)) w) (λk _=>by rw[vM,ju]),
  zN (f:=λl=>(zl (λk=>a i k*b k l) m%p)*c l j) (g:=λl=>zl (λk=>a i k*(b k l*c l j)) m) (λl _=>by rw[eB,<- qM];exact congrArg (· % p)<|zx λk _=>Mh _ _ _),qL]
abbrev Vc:=Nat->Int
noncomputable def Pr(p:Int):Prop:=p=2\/p=3\/p=5\/p=7
theorem Pr.pos(h:Pr p):0<p:=by unfold Pr at h;omega
theorem Pr.two(h:Pr p):2<=p:=by unfold Pr at h;omega
theorem Pr.le(h:Pr p):p<=7:=by unfold Pr at h;omega
theorem Pr.one(h:Pr p):(1:Int)%p=1:=LX ⋯ (by have:=h.two;omega)
inductive Span(p:Int)(n:Nat)(G:Vc->Prop):Vc->Prop where
 | zero {v:Vc}:(∀i,i<n->v i%p=0)->Span p n G v
 | step {v w g:Vc} {c:Int}:G g->Span p n G w->(∀i,i<n->v i%p=(w i+c*g i)%p)->Span p n G v
section
variable{p:Int}{n:Nat}{G G':Vc->Prop}
theorem Span.congr(h:Span p n G v)(e : ∀i,i<n->v' i%p=v i%p):Span p n G v':=by
 cases h with
 | zero h=>exact .zero λi a=>by rw[e i a,h i a]
 | step z b h=>exact .step z b λi a=>by rw[e i a,h i a]
theorem Span.gen(h:G g):Span p n G g:= .step (c:=1) h (.zero (v:=λ_=>0) λi _=>by simp) λi _=>by simp
theorem Span.add(I:Span p n G v)(C:Span p n G w) : ∀c:Int,Span p n G λi=>w i+c*v i:=by
 induction I with
 | zero h=>
  intro c;refine C.congr λi a=>?_;rw[LA,IJ,h i a];simp
 | @step v b g z J U h O=>
  intro c;refine .step (c:=c*z) J (O c) λi a=>?_;have e:(c*v i)%p=(c*(b i+z*g i))%p:=by rw[IJ,h i a,<- IJ]
  rw[LA,e,<- LA];congr 1;rw[NF,<- Mh,Int.add_assoc]
theorem Span.smul(z:Span p n G v)(c:Int):Span p n G λi=>c*v i:=
 (z.add (w:=λ_=>0) (.zero λi _=>by simp) c).congr λi _=>by simp
theorem Span.le(h:Span p n G v)(z : ∀g,G g->Span p n G' g):Span p n G' v:=by
 induction h with
 | zero h=>exact .zero h
 | step I a h J=>exact((z _ I).add J _).congr h
end
structure h9(p:Int)(n r:Nat)(B:Nat->Vc)(l:RZ):Prop where
 lt : ∀k,k<r->l k<n
 mono : ∀k m,k<m->m<r->l k<l m
 one : ∀k,k<r->B k (l k)=1
 me : ∀k j,k<r->j<l k->B k j=0
 ra : ∀k m,k<r->m<r->m≠k->B k (l m)=0
 l5 : ∀k i,k<r->i<n->0<=B k i/\B k i<p
noncomputable def eK(r:Nat)(B:Nat->Vc):Vc->Prop:=λv=>∃k,k<r/\v=B k
section
variable{p:Int}{n r r':Nat}{B B':Nat->Vc}{l l':RZ}
theorem Zh(I:h9 p n r B l)(h:Span p n (eK r B) v) : ∀i,i<n->v i%p=zl (λk=>v (l k)*B k i) r%p:=by
 induction h with
 | @zero v h=>
  intro i a;rw[h i a];have:zl (λk=>v (l k)*B k i) r%p=zl (λ_=>0) r%p:=zN λk z=>by rw[IJ,h _ (I.lt k z)];simp
  rw[this,zT];rfl
 | @step v w g c J e h O=>
  intro i a;obtain⟨m,b,rfl⟩:=J;rw[h i a];have d:zl (λk=>v (l k)*B k i) r%p=zl (λk=>w (l k)*B k i+c*B m (l k)*B k i) r%p:=zN λk z=>by rw[IJ,h _<|I.lt k z,<- IJ,OU]
  have U:zl (λk=>c*B m (l k)*B k i) r=c*B m i:=by rw[zQ (i:=m) b λk z Y=>by rw[I.ra m k b z Y];simp,I.one m b];simp
  rw[d,jy,U,LA,O i a,<- LA]
theorem VA(z:h9 p n r B l)(h:Span p n (eK r B) v)(J:j<n)(O:v j%p≠0)(hz : ∀i,i<j->v i%p=0) : ∃k,k<r/\l k=j:=by
 apply LU;intro U;apply O;rw[Zh z h j J];have:zl (λk=>v (l k)*B k j) r%p=zl (λ_=>0) r%p:=zN λk I=>by
  have Y:l k≠j:=λe=>U ⟨k,I,e⟩;rcases IY (l k) j with q | q
  ·rw[IJ,hz _ q];simp
  ·rw[z.me k j I ⋯];simp
 rw[this,zT];rfl
theorem WM(J : ∀k m,k<m->m<r->l k<l m)(O : ∀k m,k<m->m<r'->l' k<l' m)(C : ∀k,k<r->∃m,m<r'/\l' m=l k)(L : ∀k,k<r'->∃m,m<r/\l m=l' k) :
 ∀k,k<r->k<r'/\l k=l' k:=by
 intro k
 induction k using Nat.strongRecOn with
 | ind k U=>
  intro Y;obtain⟨m,a,em⟩:=C k Y;have d:k<=m:=by
   rcases IY m k with q | q
   ·have:=(U m q ⋯).2
    have:=J m k q Y;omega
   ·exact q
  have I:k<r':=by omega
  refine⟨I,?_⟩;obtain⟨q,b,eq⟩:=L k I;have e:k<=q:=by
   rcases IY q k with z | z
   ·have:=(U q z ⋯).2
    have:=O q k z I;omega
   ·exact z
  rcases IY k m with z | z
  ·have f:=O k m z a
   have g:l k<=l q:=by
    rcases IY k q with y | y
    ·exact Pd<|J k q y b
    ·have:k=q:=by omega
     subst this;exact IH _
   omega
  ·have:m=k:=by omega
   subst this;exact em.symm
theorem JH(Y:Pr p)(I:h9 p n r B l)(J:h9 p n r' B' l')(C : ∀v,Span p n (eK r B) v->Span p n (eK r' B') v)(L : ∀v,Span p n (eK r' B') v->Span p n (eK r B) v) :
 r=r'/\(∀k,k<r->l k=l' k)/\∀k i,k<r->i<n->B k i=B' k i:=by
 have one:=Y.one;have e : ∀k,k<r->∃m,m<r'/\l' m=l k:=λk z=>VA J (C _<|.gen ⟨k,z,rfl⟩) (I.lt k z) (by rw[I.one k z,one];decide) λi a=>by rw[I.me k i z a];simp
 have f : ∀k,k<r'->∃m,m<r/\l m=l' k:=λk z=>VA I (L _<|.gen ⟨k,z,rfl⟩) (J.lt k z) (by rw[J.one k z,one];decide) λi a=>by rw[J.me k i z a];simp
 have b:=WM I.mono J.mono e f;have h:=WM J.mono I.mono f e;have j:r=r':=by
  rcases NU r r' with q | q | q
  ·exact absurd (h r q).1 (LF _)
  ·exact q
  ·exact absurd (b r' q).1 (LF _)
 subst j;refine⟨rfl,λk z=>(b k z).2,λk i z a=>?_⟩;have c:=Zh J (C _<|.gen ⟨k,z,rfl⟩) i a;rw[zQ (i:=k) z λm d g=>by rw[<- (b m d).2,I.ra k m z d g];simp,<- (b k z).2,I.one k z,Int.one_mul]at c;have O:=I.l5 k i z a;have U:=J.l5 k i z a;rw[LX O.1 O.2,LX U.1 U.2]at c;exact c
end
theorem jc(q:α->Bool)(r:α->D) : ∀(l:List α),(∀x∈l,∃γ1,xQ T (g x) γ=di γ1/\k γ1=di (q x)/\(q x=dn->f γ1=di (r x)))->
 zU T k f γ (l.map g)=di ((l.filter q).map r)
 | [],_=>rfl
 | x::l,h=>by
  obtain⟨γ1,a,b,I⟩:=h x IQ;have z:=jc q r l λy J=>h y<|IM _ J;simp only[Ld,zU,a,b,IL];cases e:q x with
  | true=>simp[I e,z,e]
  | false=>simp[z,e]
theorem Bz(z:Pr p)(I:0<x)(C:x<p) : ∃y:Nat,1<=y/\(y:Int)<p/\(y:Int)*x%p=1:=by
 rcases z with rfl | rfl | rfl | rfl
 ·obtain rfl:x=1:=by omega
  exact⟨1,by decide,by decide,by decide⟩
 ·rcases (show x=1\/x=2 by omega)with rfl | rfl
  ·exact⟨1,by decide,by decide,by decide⟩
  ·exact⟨2,by decide,by decide,by decide⟩
 ·rcases (show x=1\/x=2\/x=3\/x=4 by omega)with rfl | rfl | rfl | rfl
  ·exact⟨1,by decide,by decide,by decide⟩
  ·exact⟨3,by decide,by decide,by decide⟩
  ·exact⟨2,by decide,by decide,by decide⟩
  ·exact⟨4,by decide,by decide,by decide⟩
 ·rcases (show x=1\/x=2\/x=3\/x=4\/x=5\/x=6 by omega)with rfl | rfl | rfl | rfl | rfl | rfl
  ·exact⟨1,by decide,by decide,by decide⟩
  ·exact⟨4,by decide,by decide,by decide⟩
  ·exact⟨5,by decide,by decide,by decide⟩
  ·exact⟨2,by decide,by decide,by decide⟩
  ·exact⟨3,by decide,by decide,by decide⟩
  ·exact⟨6,by decide,by decide,by decide⟩
theorem YC{q:RX}{n a:Nat}{kH:List Nat}(h:(Iz n).filter q=a::kH):a<n/\q a=dn/\∀i,i<a->q i=ed:=by
 have b:a∈(Iz n).filter q:=by rw[h];exact IQ
 refine⟨IC.mp (Lb.mp b).1,(Lb.mp b).2,λi d=>?_⟩;apply LU;intro z;have I:q i=dn:=by simpa using z
 have J:i∈a::kH:=by rw[<- h];exact Lb.mpr ⟨IC.mpr (by have:=IC.mp (Lb.mp b).1;omega),I⟩
 have O:(a::kH).Pairwise (· < ·):=by rw[<- h];exact OJ _ NQ
 rcases iU.mp J with e | e
 ·omega
 ·have:=(List.pairwise_cons.mp O).1 i e;omega
theorem dX(h:(Iz n).filter q=[]) : ∀i,i<n->q i=ed:=λi a=>by apply LU;intro z;have:i∈(Iz n).filter q:=Lb.mpr ⟨IC.mpr a,by simpa using z⟩;rw[h]at this;simp at this
theorem Y3(z:Pr p)(I:0<x)(C:x<p) : ∃y,wg [.int p,.int x]=di (.val<|.int y)/\1<=y/\y<p/\x*y%p=1:=by
 rcases z with rfl | rfl | rfl | rfl
 ·have:x=1:=by omega
  subst this;exact⟨1,rfl,by decide,by decide,by decide⟩
 ·have:x=1\/x=2:=by omega
  rcases this with rfl | rfl
  ·exact⟨1,rfl,by decide,by decide,by decide⟩
  ·exact⟨2,rfl,by decide,by decide,by decide⟩
 ·have:x=1\/x=2\/x=3\/x=4:=by omega
  rcases this with rfl | rfl | rfl | rfl
  ·exact⟨1,rfl,by decide,by decide,by decide⟩
  ·exact⟨3,rfl,by decide,by decide,by decide⟩
  ·exact⟨2,rfl,by decide,by decide,by decide⟩
  ·exact⟨4,rfl,by decide,by decide,by decide⟩
 ·have:x=1\/x=2\/x=3\/x=4\/x=5\/x=6:=by omega
  rcases this with rfl | rfl | rfl | rfl | rfl | rfl
  ·exact⟨1,rfl,by decide,by decide,by decide⟩
  ·exact⟨4,rfl,by decide,by decide,by decide⟩
  ·exact⟨5,rfl,by decide,by decide,by decide⟩
  ·exact⟨2,rfl,by decide,by decide,by decide⟩
  ·exact⟨3,rfl,by decide,by decide,by decide⟩
  ·exact⟨6,rfl,by decide,by decide,by decide⟩
theorem w5(I:Pr p)(L:n<=lim)(z:t<n)(w P:Nat->Int)(C : ∀i,i<n->0<=w i/\w i<p) :
 qG [.int p,.tup<|zJ n w,.tup<|zJ n P,.int t]=di (.val<|.tup<|zJ n λi=>(w i - w t*P i)%p):=by
 have U:=C t z;have Y:=I.le;have O : ∀x,Kc (w t) x=dn:=λx=>vY _ _ ⋯ ⋯;by_cases J:w t=0
 ·simp[qG,ja,zY,jm,z,J]
  apply k9;intro i a;rw[LX (C i a).1 (C i a).2]
 ·simp[qG,ja,zY,jm,z,J,Xi,L,z6,kf,IE]
  rw[zy (r:=λi=>D.int<|w i - w t*P i)]
  ·rw[<- jh]
   simp[JS _ I.pos L]
  ·intro i a
   refine zA rfl rfl ?_;simp[O]
theorem Vs{l:RZ}{r t:Nat}(C : ∀k m,k<m->m<r->l k<l m)(z : ∀k,k<r->l k<t):r<=t:=by
 have a : ∀k,k<r->k<=l k:=by
  intro k
  induction k with
  | zero=>intro _;exact LL _
  | succ k I=>
   intro J;have b:=I ⋯;have d:=C k (k+1) ⋯ J;omega
 cases r with
 | zero=>exact LL _
 | succ r=>
  have b:=a r ⋯;have d:=z r ⋯;omega
noncomputable def Zx:=(zH (jj 6<|jX<|zS (zL<|zg 3) (.nm 0) 1 [5] (sB<|zG i8 (d8 (zg 0)<|zf 1)<|zu<|.int 0) (zf 0))<|zH (i0 (xf<|pH<|zg 6) pL qg)<|zH (jj 7<|zB wg<|zb (zf 0)<|zb (d8 (zF<|d8 (zg 6)<|zu<|.int 0)<|zf 5) zD)<|zH (jj 8<|zB xG<|zb (zf 0)<|zb (jX<|zS (zL<|zF<|d8 (zg 6)<|zu<|.int 0) (.nm 0) 1 [7] jt (zG ve (zf 1)<|zf 0)) zD)<|zH (jj 3<|jX<|zS (zL<|zg 3) (.nm 0) 1 [0,5,8] jt (zB qG<|zb (zf 1)<|zb (zf 0)<|zb (zf 3)<|zb (zf 2) zD))<|xw 4<|KJ (jF<|zS (zL<|zg 4) (.nm 0) 1 [0,5,8] jt (zB qG<|zb (zf 1)<|zb (zf 0)<|zb (zf 3)<|zb (zf 2) zD))<|jF<|qr<|zb (zf 8) zD)
noncomputable def Un(r:Nat)(B:Nat->Vc)(m:Nat)(W:Nat->Vc):Vc->Prop:=λv=>eK r B v\/eK m W v
structure A5(p:Int)(n m:Nat)(W:Nat->Vc)(t r:Nat)(B:Nat->Vc)(l:RZ)(Wt:Nat->Vc):Prop where
 l5 : ∀j i,j<m->i<n->0<=Wt j i/\Wt j i<p
 Dm : ∀j i,j<m->i<t->Wt j i=0
 B6:h9 p n r B l
 lt : ∀k,k<r->l k<t
 span : ∀v,Span p n (Un r B m Wt) v↔Span p n (eK m W) v
section
variable{p:Int}{n m:Nat}{W:Nat->Vc}{t r:Nat}{B:Nat->Vc}{l:RZ}{Wt:Nat->Vc}
theorem A5.skip(h:A5 p n m W t r B l Wt)(hz : ∀j,j<m->Wt j t=0):A5 p n m W (t+1) r B l Wt:=
 ⟨h.l5,λj i z a=>by
  rcases IY i t with q | q
  ·exact h.Dm j i z q
  ·have:i=t:=by omega
   subst this;exact hz j z,h.B6,λk I=>LD<|h.lt k I,h.span⟩
noncomputable def i6(p:Int)(P:Vc)(t:Nat)(w:Vc):Vc:=λi=>(w i - w t*P i)%p
noncomputable def aQ(p:Int)(P:Vc)(t r:Nat)(B:Nat->Vc):Nat->Vc:=λk=>if k<r then i6 p P t (B k)else P
noncomputable def nP(t r:Nat)(l:RZ):Nat->Nat:=λk=>if k<r then l k else t
theorem Zw(z:Span p n G P)(C:Span p n G w):Span p n G (i6 p P t w):=
 (z.add C (-(w t))).congr λi _=>by unfold i6;rw[Lf];congr 1;rw[Int.neg_mul];omega
theorem V7(z:Span p n G P)(C:Span p n G (i6 p P t w)):Span p n G w:=
 (z.add C<|w t).congr λi _=>by unfold i6;rw[LA,Lf,<- LA];congr 1;omega
theorem A5.next(C:Pr p)(h:A5 p n m W t r B l Wt)(S:t<n)(L:j0<m)(Z:Wt j0 t*y%p=1)(U : ∀i,i<n->P i=y*Wt j0 i%p) :
 A5 p n m W (t+1) (r+1) (aQ p P t r B) (nP t r l) (λj=>i6 p P t<|Wt j):=by
 have H:=C.pos;have one:=C.one;have x:P t=1:=by rw[U t S,LS];exact Z
 have d : ∀i,i<t->P i=0:=λi a=>by rw[U i ⋯,h.Dm j0 i L a];simp
 have K : ∀i,i<n->0<=P i/\P i<p:=λi a=>by rw[U i a];exact⟨Lp _ ⋯,La _ H⟩
 have E : ∀(w:Vc) i,0<=i6 p P t w i/\i6 p P t w i<p:=λw i=>⟨Lp _ ⋯,La _ H⟩;have Y : ∀(w:Vc) i,i<t->0<=w i->w i<p->i6 p P t w i=w i:=λw i a N Q=>by unfold i6;rw[d i a,MU,Int.sub_zero];exact LX N Q
 have F : ∀w:Vc,i6 p P t w t=0:=λw=>by unfold i6;rw[x,Ot,Int.sub_self];simp
 refine⟨λj i J a=>E _ _,λj i J a=>?_,⟨λk I=>?_,λk q as R=>?_,λk I=>?_,λk j I J=>?_,λk q I R M=>?_,λk i I a=>?_⟩,λk I=>?_,λv=>?_⟩
 ·rcases IY i t with q | q
  ·have e:=h.Dm j i J q
   rw[Y _ i q ⋯ ⋯];exact e
  ·have:i=t:=by omega
   subst this;exact F _
 ·unfold nP;split
  ·rename_i q;exact h.B6.lt k q
  ·exact S
 ·unfold nP
  have I:k<r:=by omega
  rw[RY I];split
  ·rename_i z;exact h.B6.mono k q as z
  ·exact h.lt k I
 ·unfold nP aQ;split
  ·rename_i q
   have e:=h.B6.one k q;have b:=h.lt k q;rw[Y _ _ b ⋯ (by have:=C.two;omega)];exact e
  ·exact x
 ·unfold aQ;unfold nP at J;split at J
  ·rename_i q
   have e:=h.B6.me k j q J;have b:=h.lt k q;rw[RY q,Y _ _ ⋯ ⋯ ⋯];exact e
  ·rename_i q
   rw[EQ q];exact d j J
 ·unfold aQ nP
  by_cases u:k<r
  ·rw[RY u]
   by_cases O:q<r
   ·rw[RY O]
    have e:=h.B6.ra k q u O M;have b:=h.lt q O;rw[Y _ _ b ⋯ ⋯];exact e
   ·rw[EQ O];exact F _
  ·rw[EQ u]
   have O:q<r:=by omega
   rw[RY O];exact d _<|h.lt q O
 ·unfold aQ;split
  ·exact E _ _
  ·exact K i a
 ·unfold nP;split
  ·rename_i q;exact LD<|h.lt k q
  ·exact Mp _
 ·rw[<- h.span v]
  have f:Span p n (Un r B m Wt) P:=((Span.gen (p:=p) (n:=n) (G:=Un r B m Wt) (g:=Wt j0)<|.inr ⟨j0,L,rfl⟩).smul y).congr λi a=>by rw[U i a,Lf]
  have A:Span p n (Un (r+1) (aQ p P t r B) m λj=>i6 p P t<|Wt j) P:= .gen (.inl ⟨r,Mp r,by unfold aQ;rw[EQ (LF r)]⟩);constructor
  ·refine λs=>s.le λg o=>?_
   rcases o with⟨k,I,rfl⟩ | ⟨j,J,rfl⟩
   ·unfold aQ;split
    ·rename_i q;exact Zw f<|.gen<|.inl ⟨k,q,rfl⟩
    ·exact f
   ·exact Zw f<|.gen<|.inr ⟨j,J,rfl⟩
  ·refine λs=>s.le λg o=>?_
   rcases o with⟨k,I,rfl⟩ | ⟨j,J,rfl⟩
   ·refine V7 (t:=t) A (.gen<|.inl ⟨k,LD I,?_⟩)
    unfold aQ;rw[RY I]
   ·exact V7 (t:=t) A<|.gen<|.inr ⟨j,J,rfl⟩
theorem A5.done(h:A5 p n m W n r B l Wt)(v:Vc):Span p n (eK r B) v↔Span p n (eK m W) v:=by
 rw[<- h.span v];constructor
 ·exact λI=>I.le λg z=> .gen (.inl z)
 ·refine λI=>I.le λg z=>?_
  rcases z with z | ⟨j,J,rfl⟩
  ·exact .gen z
  ·exact .zero λi a=>by rw[h.Dm j i J a];simp
theorem fF(I:True)(P:Vc):z5 (r+1) n (aQ p P t r B)=z5 r n (λk=>i6 p P t<|B k)++[.tup (zJ n P)]:=by
 unfold z5;rw[MD,LV];congr 1
 ·apply IZ
  intro k z;have:=IC.mp z;simp[aQ,this]
 ·simp[aQ]
end
theorem xD{p:Int}(Y:Pr p){n m:Nat}(hn:n<=100)(L:m<=lim)(C:Sk)(W:Nat->Vc) :
 ∃r B l,qH [.int p,.int n,q5 C (z5 m n W)]=di (.own<|z5 r n B)/\h9 p n r B l/\∀v,Span p n (eK r B) v↔Span p n (eK m W) v:=by
 have hl:=jv;have a:n<=lim:=by omega
 have H:=Y.pos;have E:=Jw (T:= .nm 5) (F:=Zx)
  (λt Q=>∃r B l Wt o s f h,Q=[.val (.int p),.val<|.int n,.val<|q5 C<|z5 m n W,.val<|.lst<|z5 m n Wt,.own<|z5 r n B,o,s,f,h]/\A5 p n m W t r B l Wt)
  ((Iz n).map λ(i:Nat)=>D.int i) 0 [.val (.int p),.val<|.int n,.val<|q5 C<|z5 m n W,.val<|.lst<|z5 m n λj i=>W j i%p,.own [],.no,.no,.no,.no]
  ⟨0,λ_ _=>0,λ_=>0,λj i=>W j i%p,.no,.no,.no,.no,rfl,λj i _ _=>⟨Lp _ ⋯,La _ H⟩,λj i _ b=>absurd b<|Lg _,
   ⟨λk I=>absurd I<|Lg _,λk q _ I=>absurd I<|Lg _,λk I=>absurd I<|Lg _,λk j I=>absurd I<|Lg _,λk q I=>absurd I<|Lg _,λk i I=>absurd I<|Lg _⟩,
   λk I=>absurd I<|Lg _,λv=>⟨λA=>A.le λg w=>by
    rcases w with⟨k,I,_⟩ | ⟨j,O,rfl⟩
    ·exact absurd I<|Lg _
    ·exact(Span.gen (p:=p) (n:=n) (G:=eK m W) (g:=W j) ⟨j,O,rfl⟩).congr λi _=>Lf _ _,λA=>A.le λg w=>by
    obtain⟨j,O,rfl⟩:=w;exact(Span.gen (p:=p) (n:=n) (G:=Un 0 (λ_ _=>0) m λj i=>W j i%p) (g:=λi=>W j i%p)<|.inr ⟨j,O,rfl⟩).congr λi _=>(Lf _ _).symm⟩⟩ (by
   rintro t d Q u ⟨r,B,l,Wt,o,s,f,h,rfl,J⟩;rw[MK]at J ⊢;have U:t<n:=by have:=(IP.mp u).1;simpa using this
   have R:d = .int t:=by simp[U]at u;exact u.symm
   subst R;have e:zU (.nm 0) (sB<|zG i8 (d8 (zg 0)<|zf 1)<|zu<|.int 0) (zf 0) [Cell.no,Cell.val (.int t)] (z5 m n Wt)=di (((Iz m).filter λj=> !decide (Wt j t=0)).map λj=>D.tup<|zJ n<|Wt j):=by unfold z5;refine jc _ _ _ λj O=>⟨_,rfl,?_,λ_=>rfl⟩;simp[U]
   have hr:r<=t:=Vs J.B6.mono J.lt;have S:r<=lim:=by omega
   cases hf:(Iz m).filter λj=> !decide (Wt j t=0)with
   | nil=>
    have hz : ∀j,j<m->Wt j t=0:=λj O=>by apply LU;intro K;have:j∈(Iz m).filter λj=> !decide (Wt j t=0):=Lb.mpr ⟨IC.mpr O,by simp[K]⟩;rw[hf]at this;simp at this
    rw[hf]at e;refine⟨_,.inr ?_,r,B,l,Wt,.val<|.int t,.val<|.lst [],f,h,rfl,J.skip hz⟩;simp only[W8,IL,Oy,Ox,Zx];rw[jm];simp[jm,z6,kf,IE,e,L]
   | cons z kH=>
    have M:z∈(Iz m).filter λj=> !decide (Wt j t=0):=by rw[hf];exact IQ
    have N:z<m:=IC.mp (Lb.mp M).1;have K:Wt z t≠0:=by simpa using (Lb.mp M).2
    have X:=J.l5 z t N U;obtain⟨y,ey,y1,y2,yy⟩:=Y3 Y (x:=Wt z t) ⋯ X.2;rw[hf]at e;have nx:=J.next Y U N yy (P:=λi=>y*Wt z i%p) λi _=>rfl;refine⟨_,.inl ?_,r+1,aQ p (λi=>y*Wt z i%p) t r B,nP t r l,λj=>i6 p (λi=>y*Wt z i%p) t<|Wt j,.val<|.int t,.val<|.lst<|(z::kH).map λj=>D.tup<|zJ n<|Wt j,.val<|.int y,.val<|.tup<|zJ n λi=>y*Wt z i%p,rfl,nx⟩;have bd:=Y.le;have cy : ∀x,Kc y x=dn:=λx=>vY _ _ ⋯ ⋯;have Z:zU (.nm 0) jt (zG ve (zf 1)<|zf 0) [Cell.no,Cell.val (.int y)] (zJ n<|Wt z)=di (zJ n λi=>y*Wt z i):=by rw[jh,jh];refine zy _ _ λi b=>zA rfl rfl ?_;simp[cy]
    have as:zU (.nm 0) jt (zB qG<|zb (zf 1)<|zb (zf 0)<|zb (zf 3)<|zb (zf 2) zD) [Cell.no,Cell.val<|.int p,Cell.val<|.int t,Cell.val (.tup<|zJ n λi=>y*Wt z i%p)] (z5 m n Wt)=di (z5 m n λj=>i6 p (λi=>y*Wt z i%p) t<|Wt j):=by unfold z5;refine zy _ _ λj O=>zA rfl rfl ?_;simp[w5 Y a U (Wt j) (λi=>y*Wt z i%p) λi b=>J.l5 j i (IC.mp O) b];rfl
    have ax:zU (.nm 0) jt (zB qG<|zb (zf 1)<|zb (zf 0)<|zb (zf 3)<|zb (zf 2) zD) [Cell.no,Cell.val<|.int p,Cell.val<|.int t,Cell.val (.tup<|zJ n λi=>y*Wt z i%p)] (z5 r n B)=di (z5 r n λj=>i6 p (λi=>y*Wt z i%p) t<|B j):=by unfold z5;refine zy _ _ λj O=>zA rfl rfl ?_;simp[w5 Y a U (B j) (λi=>y*Wt z i%p) λi b=>J.B6.l5 j i (IC.mp O) b];rfl
    have b0:r+1<=lim:=by omega
    rw[fF trivial];simp only[W8,IL,Oy,Ox,Zx];rw[jm];simp[jm,z6,kf,IE,e,L,a,U,ey,Z,JS _ H a,as,ax,S,b0])
 obtain⟨γ',e1,r,B,l,Wt,o,s,f,h,rfl,J⟩:=E;simp only[IU,Lw,MK]at J;refine⟨r,B,l,?_,J.B6,J.done⟩;have b5:zU (.nm 0) jt (zB xG<|zb (zf 1)<|zb (zf 0) zD) [Cell.no,Cell.val (.int p)] (z5 m n W)=di (z5 m n λj i=>W j i%p):=by unfold z5;refine zy _ _ λj O=>zA rfl rfl ?_;simp[gA _ H a]
 have e0:qH [.int p,.int n,q5 C (z5 m n W)]=ja 9 (zH (jj 3<|jX<|zS (zL<|zg 2) (.nm 0) 1 [0] jt (zB xG<|zb (zf 1)<|zb (zf 0) zD))<|zH (xw 4<|qr zD)<|zH (vt (zW<|zf 1) (.nm 5) Zx)<|J2 4) [.int p,.int n,q5 C (z5 m n W)]:=rfl;rw[e0];simp[ja,zY,jm,L,z6,kf,IE,b5,a,jY];rw[jh n λi=>(i:Int),e1];simp
@[simp] noncomputable def BR:=@EI.eq_1
noncomputable def Jp{C:Type}(q:Nat)(x:C)(f:Nat->C):Nat->C:=λk=>if k<q then f k else if k=q then x else f (k - 1)
noncomputable def Zi(l:RZ)(r x:Nat):Nat:=((Iz r).filter λk=>decide<|l k<x).length
theorem X7 : ∀{r:Nat},(∀k m,k<m->m<r->l k<l m)->(∀k,k<r->l k≠x)->Zi l r x<=r/\(∀k,k<Zi l r x->l k<x)/\∀k,Zi l r x<=k->k<r->x<l k
 | 0,_,_=>⟨IH _,λk I=>absurd I (by simp[Zi]),λk _ I=>absurd I<|Lg _⟩
 | r+1,hm,Si=>by
  obtain⟨f,d,J⟩:=X7 (r:=r) (x:=x) (λk m a b=>hm k m a ⋯) λk I=>Si k ⋯;have e:Zi l (r+1) x=Zi l r x+if l r<x then 1 else 0:=by unfold Zi;rw[MD,OA,LJ];by_cases q:l r<x<;>simp[q]
  by_cases q:l r<x
  ·rw[e,RY q]
   have O:Zi l r x=r:=by
    rcases IY (Zi l r x) r with z | z
    ·have U:=J (Zi l r x) (IH _) z
     have Y:=hm (Zi l r x) r z<|Mp r;omega
    ·omega
   rw[O];refine⟨IH _,λk I=>?_,λk a b=>absurd b ⋯⟩;rcases IY k r with z | z
   ·exact d k ⋯
   ·have:k=r:=by omega
    subst this;exact q
  ·rw[e,EQ q,Nat.add_zero]
   refine⟨by omega,d,λk a b=>?_⟩;rcases IY k r with z | z
   ·exact J k a z
   ·have:k=r:=by omega
    subst this;have:=Si k b;omega
section
variable{p:Int}{n r:Nat}{B:Nat->Vc}{l:RZ}{w:Vc}
structure DK(p:Int)(n r:Nat)(B:Nat->Vc)(l:RZ)(w:Vc)(k:Nat)(R:Vc):Prop where
 l5 : ∀i,i<n->0<=R i/\R i<p
 Dm : ∀q,q<k->R (l q)=0
 eqv : ∀G,(∀k,k<r->Span p n G (B k))->(Span p n G w↔Span p n G R)
theorem DK.next(Y:Pr p)(U:h9 p n r B l)(h:DK p n r B l w k R)(I:k<r):DK p n r B l w (k+1) (i6 p (B k) (l k) R):=by
 have a:=Y.pos;refine⟨λi _=>⟨Lp _ ⋯,La _ a⟩,λq b=>?_,λG J=>?_⟩
 ·unfold i6
  rcases IY q k with z | z
  ·rw[h.Dm q z,U.ra k q I ⋯ ⋯];simp
  ·have:q=k:=by omega
   subst this;rw[U.one q I];simp
 ·rw[h.eqv G J]
  exact⟨λO=>Zw (J k I) O,λO=>V7 (J k I) O⟩
theorem Yu(J:q<=r)(O:k<r+1):(k=q/\Jp q x f k=x)\/∃I,I<r/\Jp q x f k=f I/\((k<q/\I=k)\/(q<k/\I+1=k)):=by
 unfold Jp;rcases NU k q with z | z | z
 ·right;exact⟨k,by omega,by rw[RY z],.inl ⟨z,rfl⟩⟩
 ·left;subst z;exact⟨rfl,by rw[EQ (LF _),RY rfl]⟩
 ·right;exact⟨k - 1,by omega,by rw[EQ ⋯,EQ ⋯],.inr ⟨z,by omega⟩⟩
theorem Sj:Jp q x f q=x:=by unfold Jp;rw[EQ (LF _),RY rfl]
theorem se : ∃I,(I<q/\I=k\/q<I/\I=k+1)/\Jp q x f I=f k:=by
 rcases IY k q with z | z
 ·exact⟨k,.inl ⟨z,rfl⟩,by unfold Jp;rw[RY z]⟩
 ·exact⟨k+1,.inr ⟨by omega,rfl⟩,by unfold Jp;rw[EQ ⋯,EQ ⋯];rfl⟩
theorem sf(S:Pr p)(Y:h9 p n r B l)(ha:a<n)(C:R a=1)(hz : ∀i,i<a->R i=0)(L : ∀k,k<r->R (l k)=0)(Z : ∀i,i<n->0<=R i/\R i<p) :
 h9 p n (r+1) (Jp (Zi l r a) R λk=>i6 p R a<|B k) (Jp (Zi l r a) a l):=by
 have T:=S.pos;have G : ∀k,k<r->l k≠a:=λk J e=>by have:=L k J;rw[e,C]at this;omega
 obtain⟨Q,W,X⟩:=X7 Y.mono G;have M : ∀(w:Vc) i,0<=i6 p R a w i/\i6 p R a w i<p:=λw i=>⟨Lp _ ⋯,La _ T⟩;have H : ∀w:Vc,i6 p R a w a=0:=λw=>by unfold i6;rw[C,Ot,Int.sub_self];simp
 have A : ∀(w:Vc) k,k<r->0<=w (l k)->w (l k)<p->i6 p R a w (l k)=w (l k):=λw k J C N=>by unfold i6;rw[L k J,MU,Int.sub_zero];exact LX C N
 have K : ∀k j,k<r->j<l k->i6 p R a (B k) j=0:=λk j J s=>by
  unfold i6;rw[Y.me k j J s];rcases IY a (l k)with z | z
  ·rw[Y.me k a J z];simp
  ·rw[hz j ⋯];simp
 have two:=S.two;have U : ∀k,k<r+1->(k=Zi l r a/\Jp (Zi l r a) R (λk=>i6 p R a<|B k) k=R/\Jp (Zi l r a) a l k=a)\/
  ∃I,I<r/\Jp (Zi l r a) R (λk=>i6 p R a<|B k) k=i6 p R a (B I)/\Jp (Zi l r a) a l k=l I/\((k<Zi l r a/\I=k)\/(Zi l r a<k/\I+1=k)):=by
  intro k J;rcases Yu (x:=R) (f:=λk=>i6 p R a<|B k) Q J with⟨b,t⟩ | ⟨I,O,b,t⟩
  ·left;refine⟨b,t,?_⟩;subst b;exact Sj
  ·right
   refine⟨I,O,b,?_,t⟩;rcases t with⟨E,F⟩ | ⟨E,F⟩
   ·unfold Jp;rw[RY E,F]
   ·unfold Jp;rw[EQ ⋯,EQ ⋯];congr 1;omega
 refine⟨λk J=>?_,λk m b5 u=>?_,λk J=>?_,λk j J s=>?_,λk m J u b6=>?_,λk i J P=>?_⟩
 ·rcases U k J with⟨_,_,e⟩ | ⟨I,O,_,e,_⟩
  ·rw[e];exact ha
  ·rw[e];exact Y.lt I O
 ·rcases U k ⋯with⟨z,_,e⟩ | ⟨I,O,_,e,z⟩<;>rcases U m u with⟨y,_,h⟩ | ⟨g,d,_,h,y⟩<;>rw[e,h]
  ·omega
  ·exact X g ⋯ d
  ·exact W I ⋯
  ·exact Y.mono I g ⋯ d
 ·rcases U k J with⟨_,b,e⟩ | ⟨I,O,b,e,_⟩<;>rw[b,e]
  ·exact C
  ·have o:=Y.one I O
   rw[A _ I O ⋯ ⋯];exact o
 ·rcases U k J with⟨_,b,e⟩ | ⟨I,O,b,e,_⟩<;>rw[b]<;>rw[e]at s
  ·exact hz j s
  ·exact K I j O s
 ·rcases U k J with⟨z,b,_⟩ | ⟨I,O,b,_,z⟩<;>rcases U m u with⟨y,_,h⟩ | ⟨g,d,_,h,y⟩<;>rw[b,h]
  ·omega
  ·exact L g d
  ·exact H _
  ·have o:=Y.ra I g O d ⋯
   rw[A _ g d ⋯ ⋯];exact o
 ·rcases U k J with⟨_,b,_⟩ | ⟨I,O,b,_,_⟩<;>rw[b]
  ·exact Z i P
  ·exact M _ _
theorem si(z:q<=r)(I:Span p n G R)(J : ∀k,k<r->Span p n G (F k)) : ∀g,eK (r+1) (Jp q R F) g->Span p n G g:=by
 rintro g ⟨k,O,rfl⟩;rcases Yu (x:=R) (f:=F) z O with⟨_,e⟩ | ⟨U,Y,e,_⟩<;>rw[e]
 ·exact I
 ·exact J U Y
theorem rW(I:q<=r):eK (r+1) (Jp q R F) R/\∀k,k<r->eK (r+1) (Jp q R F) (F k):=by refine⟨⟨q,by omega,Sj.symm⟩,λk J=>?_⟩;obtain⟨z,h,e⟩:=se (q:=q) (x:=R) (f:=F) (k:=k);exact⟨z,by omega,e.symm⟩
theorem mx(hp:Pr p)(Z:h9 p n r B l)(S:a<n)(O : ∀v,Span p n (eK r B) v↔Span p n (eK j W) v)(U:DK p n r B l (W j) r R)(L:y*R a%p=1)(Y : ∀i,i<n->R' i=y*R i%p)(C:Zi l r a<=r)(v:Vc) :
 Span p n (eK (r+1)<|Jp (Zi l r a) R' λk=>i6 p R' a<|B k) v↔Span p n (eK (j+1) W) v:=by
 have w : ∀v,Span p n (eK j W) v->Span p n (eK (j+1) W) v:=λv J=>J.le λg ⟨i,b,e⟩=> .gen ⟨i,by omega,e⟩;have a1 : ∀k,k<r->Span p n (eK (j+1) W) (B k):=λk I=>w _<|(O _).mp (.gen ⟨k,I,rfl⟩);have m:Span p n (eK (j+1) W) R:=(U.eqv _ a1).mp (.gen ⟨j,by omega,rfl⟩);have d:Span p n (eK (j+1) W) R':=(m.smul y).congr λi b=>by rw[Y i b,Lf]
 obtain⟨u,m2⟩:=rW (R:=R') (F:=λk=>i6 p R' a<|B k) C;have f:Span p n (eK (r+1)<|Jp (Zi l r a) R' λk=>i6 p R' a<|B k) R':= .gen u;have h : ∀k,k<r->Span p n (eK (r+1)<|Jp (Zi l r a) R' λk=>i6 p R' a<|B k) (B k):=λk I=>V7 (t:=a) f<|.gen<|m2 k I;have o:Span p n (eK (r+1)<|Jp (Zi l r a) R' λk=>i6 p R' a<|B k) R:=(f.smul<|R a).congr λi b=>by rw[Y i b,vM,<- Mh,LS (R a) y,IJ,L,Int.one_mul,Lf]
 constructor
 ·exact λJ=>J.le<|si C d λk I=>Zw d<|a1 k I
 ·refine λJ=>J.le ?_
  rintro g ⟨i,b,rfl⟩;rcases IY i j with z | z
  ·exact((O _).mpr (.gen ⟨i,z,rfl⟩)).le λg s=>by obtain⟨k,I,e⟩:=s;rw[e];exact h k I
  ·have:i=j:=by omega
   subst this;exact(U.eqv _ h).mpr o
theorem cz(J : ∀v,Span p n (eK r B) v↔Span p n (eK j W) v)(O:DK p n r B l (W j) r R)(U : ∀i,i<n->R i=0)(v:Vc):Span p n (eK r B) v↔Span p n (eK (j+1) W) v:=by
 constructor
 ·exact λI=>((J v).mp I).le λg ⟨i,a,e⟩=> .gen ⟨i,by omega,e⟩
 ·refine λI=>I.le ?_
  rintro g ⟨i,a,rfl⟩;rcases IY i j with z | z
  ·exact(J _).mpr (.gen ⟨i,z,rfl⟩)
  ·have:i=j:=by omega
   subst this;exact(O.eqv _ λk Y=> .gen ⟨k,Y,rfl⟩).mpr (.zero λi a=>by rw[U i a];simp)
end
theorem fH(h w f):deep (.lst<|z5 h w f)<=2:=mL h w f
theorem lL(h w f):kr (.lst<|z5 h w f)=dn:=rO h w f
theorem WD(h w f):kA (.lst<|z5 h w f)=dn:=dM (fH h w f) ⋯<|lL h w f
@[simp] theorem ua(h w f):(fG h w f).length=h:=by simp[fG]
section
variable{p:Int}{n m r:Nat}{G:Vc->Prop}
theorem Span.sum{u:Nat->Vc}(c:Nat->Int) : ∀{m:Nat},(∀k,k<m->Span p n G (u k))->Span p n G λi=>zl (λk=>c k*u k i) m
 | 0,_=> .zero λi _=>by simp[zl]
 | m+1,h=>(((h m ⋯).add (Span.sum c (m:=m) λk z=>h k ⋯) (c m))).congr λi _=>by simp[zl]
noncomputable def Rk(p:Int)(n m:Nat)(W:Nat->Vc)(r:Nat):Prop:=∃B l,h9 p n r B l/\∀v,Span p n (eK r B) v↔Span p n (eK m W) v
theorem vi(O:Pr p)(h:Rk p n m W r)(h':Rk p n m W r'):r=r':=by obtain⟨B,l,U,I⟩:=h;obtain⟨a,b,Y,J⟩:=h';exact(JH O U Y (λv z=>(J v).mpr ((I v).mp z))<|λv z=>(I v).mpr ((J v).mp z)).1
theorem Wo(z:Pr p)(I:h9 p n r B l)(C : ∀i,i<n->0<=w i/\w i<p) : ∀k,k<=r->∃R,DK p n r B l w k R
 | 0,_=>⟨w,C,λq J=>absurd J<|Lg _,λG _=>Iff.rfl⟩
 | k+1,h=>by obtain⟨R,O⟩:=Wo z I C k ⋯;exact⟨_,O.next z I ⋯⟩
theorem WZ : ∀(n:Nat) (R:Vc),(∀i,i<n->R i=0)\/∃a,a<n/\R a≠0/\∀i,i<a->R i=0
 | 0,R=> .inl λi b=>absurd b<|Lg _
 | n+1,R=>by
  rcases WZ n R with h | ⟨a,h1,h2,I⟩
  ·by_cases e:R n=0
   ·exact .inl λi b=>by rcases IY i n with z | z;exact h i z;rw[show i=n by omega];exact e
   ·exact .inr ⟨n,by omega,e,h⟩
  ·exact .inr ⟨a,by omega,h2,I⟩
theorem nD(I:Pr p)(W:Nat->Vc)(Y : ∀j i,0<=W j i/\W j i<p) : ∀m,∃r,r<=m/\Rk p n m W r
 | 0=>⟨0,IH _,λ_ _=>0,λ_=>0,⟨λk z=>absurd z<|Lg _,λk q _ z=>absurd z<|Lg _,λk z=>absurd z<|Lg _,λk j z=>absurd z<|Lg _,λk q z=>absurd z<|Lg _,λk i z=>absurd z<|Lg _⟩,
  λv=>⟨λU=>U.le λg ⟨k,z,_⟩=>absurd z<|Lg _,λU=>U.le λg ⟨k,z,_⟩=>absurd z<|Lg _⟩⟩
 | m+1=>by
  obtain⟨r,t,B,l,J,b⟩:=nD I W Y m;have s:=I.pos;obtain⟨R,O⟩:=Wo I J (w:=W m) (λi _=>Y m i) r<|IH _;rcases WZ n R with h0 | ⟨a,ha,a4,a5⟩
  ·exact⟨r,by omega,B,l,J,cz b O h0⟩
  ·have f:=O.l5 a ha
   obtain⟨y,_,_,d⟩:=Bz I (x:=R a) ⋯ f.2;have h : ∀k,k<r->l k≠a:=λk z e=>by have:=O.Dm k z;rw[e]at this;exact a4 this
   exact⟨r+1,by omega,_,_,sf I J (R:=λi=>(y:Int)*R i%p) ha d (λi o=>by rw[a5 i o];simp) (λk z=>by rw[O.Dm k z];simp) λi _=>⟨Lp _ ⋯,La _ s⟩,
    mx I (R':=λi=>(y:Int)*R i%p) J ha b O d (λi _=>rfl) (X7 J.mono h).1⟩
theorem ZR(z:Pr p)(m:Nat)(W:Nat->Vc) : ∃r,r<=m/\Rk p n m W r:=by
 obtain⟨r,J,B,l,O,U⟩:=nD (n:=n) z (λj i=>W j i%p) (λj i=>⟨Lp _ (by have:=z.pos;omega),La _ z.pos⟩) m;refine⟨r,J,B,l,O,λv=>(U v).trans ⟨λh=>h.le λg ⟨k,I,e⟩=>?_,λh=>h.le λg ⟨k,I,e⟩=>?_⟩⟩
 ·subst e;exact(Span.gen (g:=W k) ⟨k,I,rfl⟩).congr λi _=>by rw[Lf]
 ·subst e;exact(Span.gen (g:=λi=>W k i%p) ⟨k,I,rfl⟩).congr λi _=>by rw[Lf]
theorem pP(z:Pr p)(_:n<=100)(_:m<=8)(W:Nat->Vc) : ∃r,r<=m/\Rk p n m W r:=ZR z m W
theorem Aa(C:Pr p)(h:Rk p n m W r)(h':Rk p n m' W' r')(L : ∀j,j<m->Span p n (eK m' W') (W j)):r<=r':=by
 obtain⟨B,l,O,w⟩:=h;obtain⟨A,d,U,o⟩:=h';have f : ∀k,k<r->∃q,q<r'/\d q=l k:=λk I=>VA U ((o _).mpr (((w _).mp (.gen ⟨k,I,rfl⟩)).le λg ⟨j,u,e⟩=>e ▸ L j u)) (O.lt k I) (by rw[O.one k I,C.one];decide) λi t=>by rw[O.me k i I t];simp
 have a : ∀k,k<r->∀q,q<r'->d q=l k->k<=q:=by
  intro k
  induction k with
  | zero=>intro _ q _ _;exact LL _
  | succ k x=>
   intro I q Y e;obtain⟨J,b,s⟩:=f k ⋯;have E:=x ⋯ J b s;have F:=O.mono k (k+1) ⋯ I;rcases IY J q with z | z
   ·omega
   ·rcases IY q J with y | y
    ·have:=U.mono q J y b
     omega
    ·have:q=J:=by omega
     subst this;omega
 rcases Nat.eq_zero_or_pos r with z | z
 ·omega
 ·obtain⟨q,Y,e⟩:=f (r - 1) ⋯
  have:=a (r - 1) ⋯ q Y e;omega
end
section
variable{p:Int}{n m r h w:Nat}
theorem Zl{l:RZ}(h:Nat) : ∀{r:Nat},(∀k m,k<m->m<r->l k<l m)->∃s,s<=r/\(∀k,k<s->l k<h)/\∀k,s<=k->k<r->h<=l k
 | 0,_=>⟨0,IH _,λk I=>absurd I<|Lg _,λk _ I=>absurd I<|Lg _⟩
 | r+1,hm=>by
  obtain⟨s,b,a,J⟩:=Zl h (r:=r) λk m I O=>hm k m I ⋯;by_cases e:l r<h
  ·refine⟨r+1,IH _,λk I=>?_,λk b a=>by omega⟩
   rcases IY k r with z | z
   ·have:=hm k r z ⋯;omega
   ·have:k=r:=by omega
    subst this;exact e
  ·refine⟨s,by omega,a,λk I U=>?_⟩
   rcases IY k r with z | z
   ·exact J k I z
   ·have:k=r:=by omega
    subst this;omega
theorem VG(J:s<=r)(C : ∀k,k<s->q k=ed)(L : ∀k,s<=k->k<r->q k=dn):(Iz r).filter q=(Iz<|r - s).map (s + ·):=by
 obtain⟨d,rfl⟩ : ∃d,r=s+d:=⟨r - s,by omega⟩;rw[OD,OA];have a:(Iz s).filter q=[]:=List.filter_eq_nil_iff.mpr λk z=>by rw[C k (IC.mp z)];decide
 have I:((Iz d).map (s + ·)).filter q=(Iz d).map (s + ·):=List.filter_eq_self.mpr λk z=>by obtain⟨i,b,rfl⟩:=Lh.mp z;exact L _ ⋯ (by have:=IC.mp b;omega)
 rw[a,I,Mo];rfl
noncomputable def yv(h:Nat)(u v:Vc):Vc:=λi=>if i<h then u i else v (i - h)
noncomputable def jN(j:Nat):Vc:=λk=>if j=k then 1 else 0
theorem j4(hi:i<h):yv h u v i=u i:=RY hi
theorem qp(i:Nat):yv h u v (h+i)=v i:=by unfold yv;rw[EQ ⋯,Mo]
theorem Zq(h w:Nat)(u v:Vc):zJ h u++zJ w v=zJ (h+w) (yv h u v):=by
 unfold zJ;rw[OD,LV];congr 1
 ·exact IZ λi a=>by rw[j4 (IC.mp a)]
 ·rw[Li]
  exact IZ λi _=>by simp only[Function.comp];rw[qp]
theorem fC(h w:Nat)(v:Vc):(zJ (h+w) v).take h=zJ h v:=by unfold zJ;rw[<- List.map_take,List.take_range,Pc (LI h w)]
theorem fD(h w:Nat)(v:Vc):(zJ (h+w) v).drop h=zJ w λj=>v (h+j):=by unfold zJ;rw[OD,LV,List.drop_append_of_le_length ⋯,List.drop_eq_nil_of_le ⋯,Li];rfl
theorem W3(h w:Nat)(v:Vc):mO (zJ (h+w) v) d5 (di (h:Int))=zJ h v:=by
 have c : ¬((h:Int)<0):=by omega
 have e:min h (h+w)=h:=Pc<|LI h w;simp[mO,bo,c,e,fC]
theorem W2(h w:Nat)(v:Vc):mO (zJ (h+w) v) (di (h:Int)) d5=zJ w λj=>v (h+j):=by
 have c : ¬((h:Int)<0):=by omega
 have e:min h (h+w)=h:=Pc<|LI h w;have t : ∀g:Vc,(zJ w g).take w=zJ w g:=λg=>NP ⋯;simp[mO,bo,c,e,fD,t]
theorem V9(v:Vc) : ∀n,Xo (zJ n v)=di ((Iz n).map λi=>v i != 0)
 | 0=>rfl
 | n+1=>by
  have b : ∀l:List Nat,Xo (l.map λi=>D.int<|v i)=di (l.map λi=>v i != 0):=by
   intro l
   induction l with
   | nil=>rfl
   | cons a l z=>simp[Xo,Et,z]
  exact b _
theorem JV(I:h9 p (h+w) r B l)(J:r<=lim)(O:s<=r)(C : ∀k,k<s->l k<h)(h2 : ∀k,s<=k->k<r->h<=l k) :
 jQ [.int h,.lst (z5 r (h+w) B)]=di (.own<|z5 (r - s) w λk j=>B (s+k)<|h+j):=by
 have d:zU (.nm 0) (xf<|sB<|tW<|zF<|Wl (zf 0) bC<|o8<|zf 1) (Wl (zf 0) (o8<|zf 1) bC) [Cell.no,Cell.val (.int h)] (z5 r (h+w) B)=di (((Iz r).filter λk=>decide<|h<=l k).map λk=>D.tup<|zJ w λj=>B k<|h+j):=by
  unfold z5;refine jc (λk=>decide<|h<=l k) _ _ λk z=>⟨_,rfl,?_,λU=>?_⟩
  ·have z:=IC.mp z
   simp[W3,V9];by_cases e:h<=l k
   ·simp[e]
    intro i f;have:=I.me k i z ⋯;simp[this]
   ·simp[e]
    exact⟨l k,by omega,by rw[I.one k z];decide⟩
  ·simp[W2]
 rw[VG O (λk z=>decide_eq_false (by have:=C k z;omega)) (λk a b=>decide_eq_true<|h2 k a b)]at d;simp[jQ,ja,zY,J,z6,kf,IE,d];unfold z5;rfl
noncomputable def Dq(p:Int)(h w:Nat)(f:RK)(v:Vc):Prop:=∀i,i<h->zl (λj=>f i j*v j) w%p=0
theorem ly{f:RK}{v:Vc}(I:Span p (h+w) (eK w λj=>yv h (λi=>f i j)<|jN j) v) : ∀i,i<h->v i%p=zl (λj=>f i j*v (h+j)) w%p:=by
 induction I with
 | @zero v b=>
  intro i a;rw[b i ⋯];have:zl (λj=>f i j*v (h+j)) w%p=zl (λ_=>0) w%p:=zN λj J=>by rw[IJ,b (h+j) ⋯];simp
  rw[this,zT];rfl
 | @step v u g c O k z U=>
  intro i a;obtain⟨m,e,rfl⟩:=O;rw[z i ⋯,LA,U i a,<- LA];have d:zl (λj=>f i j*v (h+j)) w%p=zl (λj=>f i j*u (h+j)+c*(f i j*jN m j)) w%p:=zN λj J=>by rw[IJ,z (h+j) ⋯,<- IJ];simp only[qp];rw[NF,Nu]
  rw[d,jy,ju,zQ (f:=λj=>f i j*jN m j) e λj _ Y=>by simp[jN,Ll Y]];simp[jN,j4 a]
theorem V6(I:Pr p)(w:Nat):h9 p w w jN id where
 lt:=λk z=>z
 mono:=λk m z _=>z
 one:=λk _=>RY rfl
 me:=λk j _ J=>EQ (by simp only[id]at J;omega)
 ra:=λk m _ _ O=>EQ (by simp only[id];omega)
 l5:=λk i _ _=>by have:=I.two;unfold jN;split<;>omega
theorem Span.map(t:RZ)(z : ∀i,i<n'->t i<n)(I : ∀g,G g->Span p n' G' λi=>g<|t i)(J:Span p n G v):Span p n' G' λi=>v (t i):=by
 induction J with
 | @zero v b=>exact .zero λi a=>b _<|z i a
 | @step v u g c O d U Y=>exact((I _ O).add Y c).congr λi a=>U _<|z i a
theorem yf(C:Pr p)(hh:h<=20)(hw:w<=20)(f:RK) :
 ∃q K l s,y0 [.int p,xk h w f]=di (.own<|z5 q w K)/\h9 p w q K l/\(∀v,Span p w (eK q K) v↔Dq p h w f v)/\Rk p h w (λj i=>f i j) s/\q+s=w:=by
 have hl:=jv;have S:h<=lim:=by omega
 have x:w<=lim:=by omega
 have X:h+w<=lim:=by omega
 obtain⟨r,B,l,e,J,o⟩:=xD C (show h+w<=100 by omega) x .L λj=>yv h (λi=>f i j)<|jN j;have Z : ∀v,Span p (h+w) (eK r B) v->∀i,i<h->v i%p=zl (λj=>f i j*v (h+j)) w%p:=λv U=>ly<|(o v).mp U;have ak:r<=w:=by obtain⟨r',A,E⟩:=ZR C (n:=h+w) w λj=>yv h (λi=>f i j)<|jN j;rw[vi C ⟨B,l,J,o⟩ E];exact A
 have am:w<=r:=by obtain⟨r',A,E⟩:=ZR C (n:=w) r λk j=>B k<|h+j;refine LN (Aa C (m:=w) (W:=jN) ⟨jN,id,V6 C w,λv=>Iff.rfl⟩ E λj O=>?_) A;have:=Span.map (n':=w) (G':=eK r λk j=>B k<|h+j) (λi=>h+i) (λi a=>by omega) (λg ⟨k,I,Y⟩=> .gen ⟨k,I,by rw[Y]⟩)<|(o<|yv h (λi=>f i j)<|jN j).mpr (.gen ⟨j,O,rfl⟩);exact this.congr λi _=>by rw[qp]
 have er:r=w:=Nat.le_antisymm ak am;subst er;obtain⟨s,hs,N,b⟩:=Zl h J.mono;have eb:=JV J x hs N b;have as:h9 p r (r - s) (λk j=>B (s+k)<|h+j) (λk=>l (s+k) - h):={
  lt:=λk I=>by have:=J.lt (s+k) ⋯;have:=b (s+k) ⋯ ⋯;omega
  mono:=λk m I G=>by have:=J.mono (s+k) (s+m) ⋯ ⋯;have:=b (s+k) ⋯ ⋯;omega
  one:=λk I=>by have:=b (s+k) ⋯ ⋯;rw[show h+(l (s+k) - h)=l (s+k)by omega];exact J.one _ ⋯
  me:=λk j I O=>J.me _ _ ⋯ ⋯
  ra:=λk m I G y=>by have:=b (s+m) ⋯ ⋯;rw[show h+(l (s+m) - h)=l (s+m)by omega];exact J.ra _ _ ⋯ ⋯ ⋯
  l5:=λk i I a=>J.l5 _ _ ⋯ ⋯}
 refine⟨r - s,_,_,s,?_,as,λv=>⟨λU=>?_,λU=>?_⟩,?_,by omega⟩
 ·have Q:=yL f S x
  have R:=yK (n:=r) x;have M:zU (.tp [0,1]) jt (zG qx (zf 0)<|zf 1) [Cell.no,Cell.no] ((Iz r).map λj=>D.tup [.tup (zJ h λi=>f i j),.tup (zJ r λk=>if j=k then 1 else 0)])=di (z5 r (h+r) λj=>yv h (λi=>f i j)<|jN j):=by unfold z5;refine zy _ _ λj O=>zA rfl rfl ?_;simp[qx,X,Zq];rfl
  have zp:JY (z5 r h λi j=>f j i) (z5 r r λi j=>if i=j then 1 else 0)=(Iz r).map λj=>D.tup [.tup (zJ h λi=>f i j),.tup (zJ r λk=>if j=k then 1 else 0)]:=by unfold JY z5;rw[Of];simp
  have c1:((h:Int)+(r:Int))=((h+r:Nat):Int):=by omega
  simp only[q5]at e;rw[<- c1]at e;unfold xk at Q R ⊢;have nl : ∀T t f γ,zU T t f γ []=di []:=λ_ _ _ _=>rfl;simp[y0,xn,ja,zY,jm,Q,R,zp,x,z6,IE,M,nl,e,eb]
 ·intro i a
  induction U with
  | @zero v hz=>
   have:zl (λj=>f i j*v j) r%p=zl (λ_=>0) r%p:=zN λj O=>by rw[IJ,hz j O];simp
   rw[this,zT];rfl
  | @step v u g c hg hu he H=>
   obtain⟨k,I,rfl⟩:=hg;have e1:zl (λj=>f i j*v j) r%p=zl (λj=>f i j*u j+c*(f i j*B (s+k) (h+j))) r%p:=zN λj O=>by rw[IJ,he j O,<- IJ,NF,Nu]
   have P:=Z (B<|s+k) (.gen ⟨s+k,by omega,rfl⟩) i a;have e3:B (s+k) i=0:=J.me _ _ ⋯ (by have:=b (s+k) ⋯ ⋯;omega);rw[e3]at P;rw[e1,jy,ju,LA,H,IJ,<- P];simp
 ·
  have b9:Span p (h+r) (eK r B) (yv h (λ_=>0) v):=by
   refine(o _).mpr ((Span.sum (u:=λj=>yv h (λi=>f i j)<|jN j) v (m:=r) λj O=> .gen ⟨j,O,rfl⟩).congr λi a=>?_);rcases IY i h with z | z
   ·simp only[j4 z]
    rw[zx (g:=λj=>f i j*v j) λj _=>LS _ _,U i z];simp
   ·obtain⟨k,rfl⟩ : ∃k,i=h+k:=⟨i - h,by omega⟩
    simp only[qp];rw[zQ (f:=λj=>v j*jN j k) (i:=k) ⋯ λj _ y=>by simp[jN,y]];simp[jN]
  have co:=Zh J b9;refine(Span.sum (u:=λk j=>B (s+k)<|h+j) (λk=>yv h (λ_=>0) v<|l<|s+k) (m:=r - s) λk I=> .gen ⟨k,I,rfl⟩).congr λj O=>?_;have:=co (h+j) ⋯;rw[qp]at this;rw[this];obtain⟨d,rfl⟩ : ∃d,r=s+d:=⟨r - s,by omega⟩;rw[Mo];have sp : ∀(F:Nat->Int) (d:Nat),(∀k,k<s->F k=0)->zl F (s+d)=zl (λk=>F<|s+k) d:=by
   intro F d hF
   induction d with
   | zero=>
    show zl F s=0;rw[zx (g:=λ_=>0) hF,zT]
   | succ d H=>rw[<- OQ];simp only[zl];rw[H]
  rw[sp _ d λk I=>by rw[j4 (N k I)];simp]
 ·
  refine⟨λk i=>B k i,l,⟨λk I=>N k I,λk m I G=>J.mono k m I ⋯,λk I=>J.one k ⋯,λk j I O=>J.me k j ⋯ O,λk m I G y=>J.ra k m ⋯ ⋯ y,λk i I a=>J.l5 k i ⋯ ⋯⟩,λv=>⟨λU=>U.le λg ⟨k,I,Y⟩=>?_,λU=>U.le λg ⟨j,O,Y⟩=>?_⟩⟩
  ·subst Y
   exact Span.map (n':=h) (G':=eK r λj i=>f i j) (λi=>i) (λi a=>by omega) (λg ⟨j,O,Y⟩=>(Span.gen (g:=λi=>f i j) ⟨j,O,rfl⟩).congr λi a=>by rw[Y];simp only[j4 a])<|(o<|B k).mp (.gen ⟨k,by omega,rfl⟩)
  ·subst Y
   have:=Span.map (n':=h) (G':=eK s λk i=>B k i) (λi=>i) (λi a=>by omega) (λg hZ=>by
    obtain⟨k,I,Y⟩:=hZ;subst Y;rcases IY k s with z | z
    ·exact .gen ⟨k,z,rfl⟩
    ·exact .zero λi a=>by rw[J.me k i I (by have:=b k z I;omega)];simp) ((o<|yv h (λi=>f i j)<|jN j).mpr (.gen ⟨j,O,rfl⟩))
   exact this.congr λi a=>by rw[j4 a]
end
section
variable{p:Int}{h w q r:Nat}
noncomputable def app(f:RK)(w:Nat)(v:Vc):Vc:=λi=>zl (λj=>f i j*v j) w
theorem VW(z : ∀j,j<w->v j%p=(u j+c*g j)%p)(i:Nat):app f w v i%p=(app f w u i+c*app f w g i)%p:=by
 unfold app;have e:zl (λj=>f i j*v j) w%p=zl (λj=>f i j*u j+c*(f i j*g j)) w%p:=zN λj I=>by rw[IJ,z j I,<- IJ,NF,Nu]
 rw[e,jy,ju]
theorem Zz(hz : ∀j,j<w->v j%p=0)(i:Nat):app f w v i%p=0:=by
 unfold app;have:zl (λj=>f i j*v j) w%p=zl (λ_=>0) w%p:=zN λj z=>by rw[IJ,hz j z];simp
 rw[this,zT];rfl
theorem jE(z : ∀j,j<w->v j%p=u j%p)(i:Nat):app f w v i%p=app f w u i%p:=by unfold app;exact zN λj I=>by rw[IJ,z j I,<- IJ]
theorem aj(J:h9 p (h+w) r B l)(S:s<=r)(L : ∀k,k<s->l k<h)(C : ∀k,s<=k->k<r->h<=l k) :
 h9 p w (r - s) (λk j=>B (s+k)<|h+j) (λk=>l (s+k) - h)/\∀v,Span p w (eK (r - s) λk j=>B (s+k)<|h+j) v↔Span p (h+w) (eK r B) (yv h (λ_=>0) v):=by
 refine⟨{
  lt:=λk I=>by have:=J.lt (s+k) ⋯;have:=C (s+k) ⋯ ⋯;omega
  mono:=λk m I o=>by have:=J.mono (s+k) (s+m) ⋯ ⋯;have:=C (s+k) ⋯ ⋯;omega
  one:=λk I=>by have:=C (s+k) ⋯ ⋯;rw[show h+(l (s+k) - h)=l (s+k)by omega];exact J.one _ ⋯
  me:=λk j I Y=>J.me _ _ ⋯ ⋯
  ra:=λk m I o y=>by have:=C (s+m) ⋯ ⋯;rw[show h+(l (s+m) - h)=l (s+m)by omega];exact J.ra _ _ ⋯ ⋯ ⋯
  l5:=λk i I a=>J.l5 _ _ ⋯ ⋯},λv=>⟨λO=>?_,λO=>?_⟩⟩
 ·induction O with
  | @zero v t=>
   refine .zero λi a=>?_;rcases IY i h with z | z
   ·rw[j4 z];simp
   ·obtain⟨k,rfl⟩ : ∃k,i=h+k:=⟨i - h,by omega⟩
    rw[qp];exact t k ⋯
  | @step v u g c n A f U=>
   obtain⟨k,I,rfl⟩:=n;refine .step (g:=B<|s+k) (c:=c) ⟨s+k,by omega,rfl⟩ U λi a=>?_;rcases IY i h with z | z
   ·rw[j4 z,j4 z,J.me (s+k) i ⋯ (by have:=C (s+k) ⋯ ⋯;omega)];simp
   ·obtain⟨j,rfl⟩ : ∃k,i=h+k:=⟨i - h,by omega⟩
    rw[qp,qp];exact f j ⋯
 ·have b:=Zh J O
  refine(Span.sum (u:=λk j=>B (s+k)<|h+j) (λk=>yv h (λ_=>0) v<|l<|s+k) (m:=r - s) λk I=> .gen ⟨k,I,rfl⟩).congr λj Y=>?_;have:=b (h+j) ⋯;rw[qp]at this;rw[this];obtain⟨d,rfl⟩ : ∃d,r=s+d:=⟨r - s,by omega⟩;rw[Mo];have x : ∀(F:Nat->Int) (d:Nat),(∀k,k<s->F k=0)->zl F (s+d)=zl (λk=>F<|s+k) d:=by
   intro F d e
   induction d with
   | zero=>
    show zl F s=0;rw[zx (g:=λ_=>0) e,zT]
   | succ d U=>rw[<- OQ];simp only[zl];rw[U]
  rw[x _ d λk I=>by rw[j4 (L k I)];simp]
end
section
variable{p:Int}{h w q:Nat}
noncomputable def qQ(h w:Nat)(f:RK)(g:Nat->Vc):Nat->Vc:=λm=>if m<w then yv h (λi=>f i m) (jN m)else yv h (g<|m - w) (λ_=>0)
theorem fE(f:RK)(g:Nat->Vc):z5 w (h+w) (λj=>yv h (λi=>f i j)<|jN j)++z5 q (h+w) (λk=>yv h (g k) λ_=>0)=z5 (w+q) (h+w) (qQ h w f g):=by
 unfold z5;rw[OD,LV,Li];congr 1
 ·refine IZ λm a=>?_
  unfold qQ;rw[RY (IC.mp a)]
 ·refine IZ λm a=>?_
  simp only[Function.comp];unfold qQ;rw[EQ ⋯,Mo]
theorem v9(f:RK)(z:j<w)(i:Nat):app f w (jN j) i=f i j:=by unfold app;rw[zQ (f:=λk=>f i k*jN j k) z λk _ I=>by simp[jN,Ll I]];simp[jN]
theorem dD(hz:Span p (h+w) (eK (w+q)<|qQ h w f g) z):Span p h (eK q g) λi=>z i - app f w (λj=>z<|h+j) i:=by
 induction hz with
 | @zero z hz=>
  refine .zero λi a=>?_;rw[Mx,hz i ⋯,Zz (p:=p) (λj Y=>hz (h+j) ⋯) i];simp
 | @step z u k c e n O U=>
  obtain⟨m,l,rfl⟩:=e;have d:=λi=>VW (p:=p) (w:=w) (f:=f) (u:=λj=>u<|h+j) (g:=λj=>qQ h w f g m<|h+j) (v:=λj=>z<|h+j) (c:=c) (λj Y=>O (h+j) ⋯) i;have b : ∀i,i<h->(z i - app f w (λj=>z<|h+j) i)%p=((u i - app f w (λj=>u<|h+j) i)+c*(qQ h w f g m i - app f w (λj=>qQ h w f g m<|h+j) i))%p:=λi a=>by rw[Mx,O i ⋯,d i,<- Mx];congr 1;rw[Int.mul_sub];omega
  rcases IY m w with I | I
  ·refine U.congr λi a=>?_
   rw[b i a];have t:app f w (λj=>qQ h w f g m<|h+j) i=f i m:=by
    have:(λj=>qQ h w f g m<|h+j)=jN m:=by funext j;unfold qQ;rw[RY I,qp]
    rw[this,v9 f I]
   have J:qQ h w f g m i=f i m:=by unfold qQ;rw[RY I,j4 a]
   rw[t,J];simp
  ·refine .step (g:=g<|m - w) (c:=c) ⟨m - w,by omega,rfl⟩ U λi a=>?_
   rw[b i a];have t:app f w (λj=>qQ h w f g m<|h+j) i=0:=by
    have:(λj=>qQ h w f g m<|h+j)=λ_=>0:=by funext j;unfold qQ;rw[EQ ⋯,qp]
    rw[this];unfold app;simp[zT]
   have J:qQ h w f g m i=g (m - w) i:=by unfold qQ;rw[EQ ⋯,j4 a]
   rw[t,J];simp
theorem sv(I:Span p h (eK q g) y):Span p (h+w) (eK (w+q)<|qQ h w f g) (yv h y λ_=>0):=by
 induction I with
 | @zero y b=>
  refine .zero λi a=>?_;rcases IY i h with z | z
  ·rw[j4 z];exact b i z
  ·obtain⟨k,rfl⟩ : ∃k,i=h+k:=⟨i - h,by omega⟩
   rw[qp];simp
 | @step y u d c J Y O U=>
  obtain⟨k,l,rfl⟩:=J;refine .step (g:=qQ h w f g<|w+k) (c:=c) ⟨w+k,by omega,rfl⟩ U λi a=>?_;have e:qQ h w f g (w+k)=yv h (g k) λ_=>0:=by unfold qQ;rw[EQ ⋯,Mo]
  rw[e];rcases IY i h with z | z
  ·rw[j4 z,j4 z,j4 z];exact O i z
  ·obtain⟨j,rfl⟩ : ∃k,i=h+k:=⟨i - h,by omega⟩
   rw[qp,qp,qp];simp
theorem Kj(hp:Pr p)(hh:h<=20)(hw:w<=20)(hq:q<=100)(f:RK)(g:Nat->Vc) :
 ∃r B l,xn [.int p,xk h w f,.lst (z5 q h g)]=di (.own<|z5 r w B)/\h9 p w r B l/\∀v,Span p w (eK r B) v↔Span p h (eK q g) (app f w v):=by
 have hl:=jv;have S:h<=lim:=by omega
 have I:w<=lim:=by omega
 have O:h+w<=lim:=by omega
 have W:q<=lim:=by omega
 have U:w+q<=lim:=by omega
 obtain⟨r,B,l,e,J,E⟩:=xD hp (show h+w<=100 by omega) U .L<|qQ h w f g;have X:r<=h+w:=Vs J.mono J.lt;obtain⟨s,Y,y,A⟩:=Zl h J.mono;have K:=JV J ⋯ Y y A;obtain⟨F,Q⟩:=aj J Y y A;refine⟨r - s,_,_,?_,F,λv=>(Q v).trans ((E _).trans ⟨λt=>?_,λt=>?_⟩)⟩
 ·have x:=yL f S I
  have C:=yK (n:=w) I;have d:zU (.tp [0,1]) jt (zG qx (zf 0)<|zf 1) [Cell.no,Cell.no] ((Iz w).map λj=>D.tup [.tup (zJ h λi=>f i j),.tup (zJ w λk=>if j=k then 1 else 0)])=di (z5 w (h+w) λj=>yv h (λi=>f i j)<|jN j):=by unfold z5;refine zy _ _ λj o=>zA rfl rfl ?_;simp[qx,O,Zq];rfl
  have R:JY (z5 w h λi j=>f j i) (z5 w w λi j=>if i=j then 1 else 0)=(Iz w).map λj=>D.tup [.tup (zJ h λi=>f i j),.tup (zJ w λk=>if j=k then 1 else 0)]:=by unfold JY z5;rw[Of];simp
  have H:inR (w:Int)=dn:=Jr I;have zr:ve (.tup [.int 0]) (.int w)=di (.tup<|zJ w λ_=>0):=by
   show(if [D.int 0].length*(w:Int).toNat<=lim/\inR (w:Int)=dn then di (D.tup (IE (w:Int).toNat [D.int 0]).flatten)else d5)=_;rw[RY ⟨by simpa using I,H⟩];congr 2;rw[Nt];clear d R C x K F Q E J e H U O I hw hq y A Y X
   induction w with
   | zero=>rfl
   | succ w ih=>rw[List.replicate_succ',List.flatten_append,ih];unfold zJ;rw[MD,LV];rfl
  have M:zU (.nm 0) jt (zG qx (zf 0)<|zG ve (qB<|zb (zu<|.int 0) zD)<|d8 (zg 1)<|zu<|.int 1) [Cell.no,Cell.val (xk h w f)] (z5 q h g)=di (z5 q (h+w) λk=>yv h (g k) λ_=>0):=by unfold z5;refine zy _ _ λk P=>zA rfl rfl ?_;have sq:jA (xk h w f)=di (.T,[.int h,.int w,.tup (z5 h w f)]):=rfl;simp[sq,zr,qx,O,Zq]
  have c1:((h:Int)+(w:Int))=((h+w:Nat):Int):=by omega
  simp only[q5]at e;rw[<- c1,<- fE]at e;have sq:jA (xk h w f)=di (.T,[.int h,.int w,.tup (z5 h w f)]):=rfl;unfold xk at x C M ⊢;simp[xn,ja,zY,jm,x,C,R,I,W,U,z6,kf,IE,d,M,e,K]
 ·have:=dD t
  refine(this.smul (-1)).congr λi N=>?_;congr 1;show app f w v i = -1*(yv h (λ_=>0) v i - app f w (λj=>yv h (λ_=>0) v<|h+j) i);rw[j4 N,show(λj=>yv h (λ_=>0) v<|h+j)=v from funext λj=>qp j];omega
 ·have a:=Span.sum (p:=p) (n:=h+w) (G:=eK (w+q)<|qQ h w f g) (u:=λj=>qQ h w f g j) v (m:=w) λj o=> .gen ⟨j,by omega,rfl⟩
  have b:=sv (w:=w) (f:=f) t;refine(b.add a (-1)).congr λi N=>?_;congr 1;rcases IY i h with z | z
  ·rw[j4 z,j4 z]
   have:zl (λk=>v k*qQ h w f g k i) w=app f w v i:=by unfold app;exact zx λk P=>by unfold qQ;rw[RY P,j4 z,LS]
   rw[this];omega
  ·obtain⟨k,rfl⟩ : ∃k,i=h+k:=⟨i - h,by omega⟩
   rw[qp,qp];have:zl (λj=>v j*qQ h w f g j (h+k)) w=v k:=by rw[zQ (f:=λj=>v j*qQ h w f g j (h+k)) (i:=k) ⋯ λj o Z=>by unfold qQ;rw[RY o,qp];simp[jN,Z]];unfold qQ;rw[RY (show k<w by omega),qp];simp[jN]
   rw[this];simp
end
noncomputable def i5(i j:Nat):Int:=if i=j then 1 else 0
noncomputable def Kg(p:Int)(n:Nat)(f g:RK):Prop:=∀i j,i<n->j<n->zl (λk=>f i k*g k j) n%p=i5 i j%p
theorem Vr{p x y X Y:Int}(C:x%p=X%p)(I:y%p=Y%p):(x*y)%p=(X*Y)%p:=by rw[IJ,C,I,<- IJ]
section
variable{p:Int}{n:Nat}{f g f' g':RK}
theorem gQ{t:Int}{u o:Nat}(U:u<n)(ho:o<n)(L:u≠o)(C:Kg p n f g)(Z : ∀i k,i<n->k<n->f' i k%p=(f i k+(if i=u then t else 0)*f o k)%p)(hg : ∀k j,k<n->j<n->g' k j%p=(g k j+(if j=o then -t else 0)*g k u)%p):Kg p n f' g':=by
 intro i j m I;generalize ea:(if i=u then t else 0)=a at Z;have s : ∀k,k<n->f' i k%p=(f i k+(if i=u then t else 0)*f o k)%p:=λk z=>by have:=Z i k m z;exact this
 rw[zN (g:=λk=>f i k*g k j+(if j=o then -t else 0)*(f i k*g k u)+((if i=u then t else 0)*(f o k*g k j)+((if i=u then t else 0)*(if j=o then -t else 0))*(f o k*g k u))) λk z=>by
  rw[Vr (s k z) (hg k j z I)];congr 1;generalize (if i=u then t else 0)=a;generalize (if j=o then -t else 0)=b;rw[OU,NF,NF];congr 1
  ·congr 1;rw[Nu]
  ·congr 1
   ·rw[Mh]
   ·rw[Mh,Mh];congr 1;rw[Nu]]
 rw[jy,jy,jy,ju,ju,ju];have A:=C i j m I;have B:=C i u m U;have E:=C o j ho I;have F:=C o u ho U;have J : ∀c S d:Int,S%p=d%p->(c*S)%p=(c*d)%p:=λc S d h=>Vr rfl h;have ad : ∀x y X Y:Int,x%p=X%p->y%p=Y%p->(x+y)%p=(X+Y)%p:=λx y X Y a b=>by rw[LA,a,b,<- LA]
 rw[ad _ _ _ _ (ad _ _ _ _ A<|J _ _ _ B) (ad _ _ _ _ (J _ _ _ E)<|J _ _ _ F)];congr 1;unfold i5;have r : ¬o=u:=λe=>L e.symm;by_cases l:i=u
 ·by_cases O:j=o
  ·subst l O;simp[L,r];omega
  ·have w : ¬o=j:=λe=>O e.symm
   simp[l,O,w,r]
 ·simp[l]
theorem bO{t:Int}{u o:Nat}(O:u<n)(U:o<n)(Y:u≠o)(C:Kg p n g f)(L : ∀i k,i<n->k<n->f' i k%p=(f i k+(if i=u then t else 0)*f o k)%p)(S : ∀k j,k<n->j<n->g' k j%p=(g k j+(if j=o then -t else 0)*g k u)%p):Kg p n g' f':=by
 intro i j b J;rw[<- C i j b J];rw[zN (g:=λk=>g i k*f k j+((if k=u then t*(g i u*f o j)else 0)+(if k=o then -t*(g i u*f o j)else 0))) λk z=>by
  rw[Vr (S i k b z) (L k j z J)];congr 1;by_cases a:k=u
  ·subst a
   have I : ¬k=o:=Y;simp only[EQ I,if_true,Nk,Nl,NF];rw[Nu]
  ·by_cases I:k=o
   ·subst I
    simp only[EQ a,if_true,Nk,Nl,Int.zero_add,OU];rw[Mh]
   ·simp only[EQ a,EQ I,Nk,Nl]]
 rw[jy,jy,zQ (f:=λk=>if k=u then t*(g i u*f o j)else 0) O λk _ z=>EQ z,zQ (f:=λk=>if k=o then -t*(g i u*f o j)else 0) U λk _ z=>EQ z];simp only[if_true];congr 1;rw[Int.neg_mul];omega
end
noncomputable def jk(n:Nat)(f:RK):List D:=(Iz n).map λi=>D.lst<|zJ n<|f i
noncomputable def qT(n:Nat)(f:RK):List (List D):=(Iz n).map λi=>zJ n<|f i
theorem cH(n f):(qT n f).map D.lst=jk n f:=by simp[qT,jk]
@[simp] theorem uX(n f):(jk n f).length=n:=by simp[jk]
@[simp] theorem Cu(f)(hi:i<(jk n f).length):(jk n f)[i] = .lst (zJ n<|f i):=by simp[jk]
@[simp] theorem tX(r):kf (.nest r) = .no:=rfl
@[simp] theorem Bf(r):kf (.own r) = .no:=rfl
@[simp] theorem Be(d):kf (.val d) = .val d:=rfl
@[simp] theorem CA:kf .no = .no:=rfl
theorem VM(L:a<n)(v z:Vc)(x:Int)(C:z a=x)(J : ∀i,i<n->i≠a->z i=v i):(zJ n v).set a (.int x)=zJ n z:=by
 apply Mt;intro i;rw[MS];by_cases b:i<n
 ·by_cases e:a=i
  ·subst e;simp[L,zJ,C]
  ·have:=J i b (Ll e)
   simp[e,zJ,b,this]
 ·have I:(zJ n v)[i]? = d5:=by simp[zJ];omega
  have d:(zJ n z)[i]? = d5:=by simp[zJ];omega
  rw[I,d,EQ ⋯]
theorem cI(I:u<n)(f C:RK)(v:Vc)(L : ∀j,j<n->C u j=v j)(O : ∀i j,i<n->i≠u->j<n->C i j=f i j):(jk n f).set u (.lst<|zJ n v)=jk n C:=by
 apply Mt;intro i;rw[MS];by_cases a:i<n
 ·by_cases e:u=i
  ·subst e;simp[I,jk];exact k9 λj z=>(L j z).symm
  ·simp[e,jk,a];exact k9 λj z=>(O i j a (Ll e) z).symm
 ·have J:(jk n f)[i]? = d5:=by simp[jk];omega
  have b:(jk n C)[i]? = d5:=by simp[jk];omega
  rw[J,b,EQ ⋯]
theorem QZ : ∀(l:List Nat),(∀k∈l,∃d C m,fx (yA γ j i<|R k)=di d/\gx (yA γ j i<|R k)=di (.int C)/\g9 (R k).length C=di m/\(R k).set m d=R' k)->km j i gx fx γ (l.map R)=di (l.map R')
 | [],_=>rfl
 | k::l,h=>by obtain⟨d,C,m,a,b,z,I⟩:=h k IQ;have J:=QZ l λx e=>h x<|IM _ e;simp[km,a,b,z,I,J]
theorem YF : ∀(l:List Nat),(∀k∈l,∃γ1,xQ T (g k) γ=di γ1/\f γ1=di (R k))->vn T f γ (l.map g)=di (l.map R)
 | [],_=>rfl
 | k::l,h=>by obtain⟨γ1,a,b⟩:=h k IQ;have z:=YF l λx d=>h x<|IM _ d;simp[vn,a,b,z]
section
variable{p:Int}{n:Nat}
structure Pair(p:Int)(n:Nat)(f g:RK):Prop where
 bf : ∀i j,i<n->j<n->0<=f i j/\f i j<p
 bg : ∀i j,i<n->j<n->0<=g i j/\g i j<p
 fg:Kg p n f g
 gf:Kg p n g f
end
@[simp] theorem uW(n f):(qT n f).length=n:=by simp[qT]
noncomputable def zR(w:RX)(k:Nat):Nat:=if w k then k+1 else k
noncomputable def zZ(w:RX)(k:Nat):Nat:=if w k then k else k+1
theorem tf(w:RX)(h:k<m):zR w k<m+1:=by unfold zR;split<;>omega
noncomputable def jR(m:Nat)(wd:RZ)(f:RV):List D:=(Iz m).map λk=>xk (wd k) (wd k)<|f k
@[simp] theorem uz(m wd f):(jR m wd f).length=m:=by simp[jR]
@[simp] theorem Cp(wd f)(h:k<(jR m wd f).length):(jR m wd f)[k]=xk (wd k) (wd k) (f k):=by simp[jR]
noncomputable def kQ(p:Int)(w:RX)(wd:RZ)(f g T:RV)(k i j:Nat):Int:=
 zl (λb=>g (zR w k) b j*(zl (λa=>T k a b*f (zZ w k) i a) (wd<|zZ w k)%p)) (wd<|zR w k)%p
structure fA where
 s:Nat
 n:Nat
 v:Nat->Vc
noncomputable def fA.has(b:fA)(r:Nat):Bool:=decide (b.s<=r) && decide (r<b.s+b.n)
theorem ji{b:fA}{r:Nat}:b.has r=dn↔b.s<=r/\r<b.s+b.n:=by simp[fA.has]
noncomputable def gG:fA:=⟨0,0,λ_ _=>0⟩
structure m9(p:Int)(w:RX)(wd:RZ)(T:RV)(k:Nat)(b:fA):Prop where
 n1:1<=b.n
 le:b.s+b.n<=k+1
 l5 : ∀r i,b.has r=dn->i<wd r->0<=b.v r i/\b.v r i<p
 arr : ∀j,j<k->b.has (zR w j)=dn->∀i,i<wd (zZ w j)->app (T j) (wd<|zR w j) (b.v<|zR w j) i%p=(if b.has (zZ w j)=dn then b.v (zZ w j) i else 0)%p
noncomputable def Ord(w:RX)(a b:fA):Prop:=(a.s<b.s->w (b.s - 1)=dn)/\(b.s<a.s->w (a.s - 1)=ed)
noncomputable def Hh(C:List fA)(r:Nat):Vc->Prop:=λg=>∃b,b∈C/\b.has r=dn/\g=b.v r
noncomputable def oe(p:Int)(A:Nat->fA)(N:Nat)(t:Vc)(r:Nat):Vc:=λc=>zl (λj=>if (A j).has r=dn then t j*(A j).v r c else 0) N%p
noncomputable def DV(p:Int)(A:Nat->fA)(N:Nat)(t:Vc)(i:Nat):fA:=⟨(A i).s,(A i).n,oe p A N t⟩
section
variable{p:Int}{w:RX}{wd:RZ}{T:RV}{k N:Nat}{A:Nat->fA}
theorem yb(f:RK)(h:Nat)(t:Vc)(u:Nat->Vc)(n:Nat)(i:Nat):app f h (λc=>zl (λj=>t j*u j c) n) i=zl (λj=>t j*app f h (u j) i) n:=by
 unfold app;have e:zl (λj=>f i j*zl (λk=>t k*u k j) n) h=zl (λj=>zl (λk=>t k*(f i j*u k j)) n) h:=zx λj _=>by rw[<- ju];exact zx λk _=>by rw[<- Mh,<- Mh,LS (f i j)]
 rw[e,qL];exact zx λj _=>ju ..
theorem rY(c:Prop) [Decidable c](x y:Int):(if c then x*y else 0)=x*(if c then y else 0):=by split<;>simp
theorem gh(f:RK)(h r:Nat)(t:Vc)(i:Nat):app f h (oe p A N t r) i%p=zl (λj=>t j*(if (A j).has r=dn then app f h ((A j).v r) i else 0)) N%p:=by
 have e:app f h (oe p A N t r) i%p=app f h (λc=>zl (λj=>t j*(if (A j).has r=dn then (A j).v r c else 0)) N) i%p:=jE (λc _=>by unfold oe;rw[Lf];congr 1;exact zx λj _=>rY ..) i
 rw[e,yb];congr 1;refine zx λj _=>?_;congr 1;by_cases z:(A j).has r=dn
 ·simp only[RY z]
 ·simp only[EQ z]
  unfold app;simp[zT]
theorem Bh(L:0<p)(Y : ∀j,j<N->m9 p w wd T k (A j))(hk : ∀j,j<N->(A j).has k=dn){t:Vc}{i:Nat}(hi:i<N)(C : ∀c,i<c->c<N->Ord w (A i) (A c))(tz : ∀c,c<i->t c=0) :
 m9 p w wd T k (DV p A N t i):=by
 refine⟨(Y i hi).n1,(Y i hi).le,λr c _ _=>⟨Lp _ ⋯,La _ L⟩,λj l J c h=>?_⟩;have J:(A i).has (zR w j)=dn:=J;show app (T j) (wd<|zR w j) (oe p A N t<|zR w j) c%p=(if (A i).has (zZ w j)=dn then oe p A N t (zZ w j) c else 0)%p;rw[gh];have g : ∀I,I<N->t I≠0->((A i).has (zZ w j)=dn->(A I).has (zZ w j)=dn->(A I).has (zR w j)=dn)/\((A i).has (zZ w j)=ed->(A I).has (zR w j)=dn->(A I).has (zZ w j)=ed):=λI O d=>by
  have y:=ji.mp<|hk i hi;have B:=ji.mp<|hk I O;have U:i<=I:=Nat.not_lt.mp λz=>d<|tz I z;rcases Nat.lt_or_eq_of_le U with U | U
  ·obtain⟨u,x⟩:=C I U O
   have J:=ji.mp J;cases hw:w j with
   | false=>
    have b:zR w j=j:=by unfold zR;rw[hw];rfl
    have e:zZ w j=j+1:=by unfold zZ;rw[hw];rfl
    rw[b]at J;rw[b,e];refine⟨λ_ q=>ji.mpr ?_,λq _=>?_⟩
    ·have q:=ji.mp q
     refine⟨Nat.not_lt.mp λz=>?_,by omega⟩;have f:(A I).s=j+1:=by omega
     have:=u ⋯;rw[f]at this;simp[hw]at this
    ·exfalso
     have:(A i).has (j+1)=dn:=ji.mpr ⋯;rw[this]at q;cases q
   | true=>
    have b:zR w j=j+1:=by unfold zR;rw[hw];rfl
    have e:zZ w j=j:=by unfold zZ;rw[hw];rfl
    rw[b]at J;rw[b,e];refine⟨λ_ q=>ji.mpr ?_,λq _=>?_⟩
    ·have q:=ji.mp q
     omega
    ·cases a:(A I).has j with
     | false=>rfl
     | true=>
      exfalso;have a:=ji.mp a;have f:(A i).s=j+1:=by
       have : ¬((A i).s<=j):=λz=>by have:(A i).has j=dn:=ji.mpr ⋯;rw[this]at q;cases q
       omega
      have:=x ⋯;rw[f]at this;simp[hw]at this
  ·subst U
   exact⟨λ_ _=>J,λq _=>q⟩
 have m:zl (λI=>t I*(if (A I).has (zR w j)=dn then app (T j) (wd<|zR w j) ((A I).v (zR w j)) c else 0)) N%p
  = zl (λI=>if (A i).has (zZ w j)=dn then (if (A I).has (zZ w j)=dn then t I*(A I).v (zZ w j) c else 0)else 0) N%p:=zN λI O=>by
  by_cases d:t I=0
  ·simp[d]
  obtain⟨n,o⟩:=g I O d;cases a:(A i).has (zZ w j)with
  | false=>
   cases hy:(A I).has (zR w j)with
   | false=>simp
   | true=>
    have q:=(Y I O).arr j l hy c h;rw[o a hy]at q;simp only[if_true];rw[IJ,q];simp
  | true=>
   cases hy:(A I).has (zR w j)with
   | false=>
    cases hz:(A I).has (zZ w j)with
    | false=>simp
    | true=>rw[n a hz]at hy;cases hy
   | true=>
    have q:=(Y I O).arr j l hy c h;simp only[if_true];rw[IJ,q,<- IJ];congr 1;cases hz:(A I).has (zZ w j)<;>simp
 rw[m];cases a:(A i).has (zZ w j)with
 | false=>simp[zT]
 | true=>
  simp only[if_true];unfold oe;rw[Lf]
theorem lT{G':Vc->Prop}{r n:Nat}{A':Nat->fA}(t:Nat->Vc)(Y : ∀i,i<N->t i i=1)(hz : ∀i c,i<N->c<i->t i c=0)
 (C : ∀i,i<N->(A i).has r=dn->Span p n G' ((A' i).v r)) (L : ∀i,i<N->(A i).has r=dn->∀c,c<n->(A' i).v r c%p=oe p A N (t i) r c%p) :
 ∀i,i<N->(A i).has r=dn->Span p n G' ((A i).v r):=by
 have f : ∀d i,N - i<=d->i<N->(A i).has r=dn->Span p n G' ((A i).v r):=by
  intro d
  induction d with
  | zero=>intro i e a;omega
  | succ d w=>
   intro i e a J;have u:Span p n G' λc=>zl (λj=>(if j=i then 0 else if (A j).has r=dn then t i j else 0)*(A j).v r c) N:=by
    have gen : ∀M,M<=N->Span p n G' λc=>zl (λj=>(if j=i then 0 else if (A j).has r=dn then t i j else 0)*(A j).v r c) M:=by
     intro M
     induction M with
     | zero=>intro _;exact .zero λc _=>by simp[zl]
     | succ M g=>
      intro x;have q:=g ⋯;by_cases I:M=i\/¬((A M).has r=dn)\/M<i
      ·refine q.congr λc _=>?_
       show(zl _ M+_)%p=_;rcases I with I | I | I
       ·simp[I]
       ·simp[I]
       ·have z:=hz i M a I;simp only[z];simp
      ·have h:M≠i/\(A M).has r=dn/\¬M<i:=by
        refine⟨λz=>I<|.inl z,?_,λz=>I<|.inr<|.inr z⟩;cases b:(A M).has r with
        | true=>rfl
        | false=>exact absurd (.inr<|.inl<|by rw[b];decide) I
       exact((w M ⋯ ⋯ h.2.1).add q (if M=i then 0 else if (A M).has r=dn then t i M else 0)).congr λc _=>rfl
    exact gen N<|IH _
   have o:=u.add (C i a J) (-1);refine o.congr λc I=>?_;have l:zl (λj=>if (A j).has r=dn then t i j*(A j).v r c else 0) N=(A i).v r c+zl (λj=>(if j=i then 0 else if (A j).has r=dn then t i j else 0)*(A j).v r c) N:=by
    have m:(A i).v r c=zl (λj=>if j=i then (A i).v r c else 0) N:=by rw[zQ a λk _ s=>by simp[s]];simp
    rw[m,<- jy];refine zx λj y=>?_;by_cases U:j=i
    ·subst U;simp[J,Y j a]
    ·simp only[EQ U]
     by_cases b:(A j).has r=dn
     ·simp[b]
     ·simp[b]
   have O:=L i a J c I;unfold oe at O;rw[Lf,l]at O;rw[LA,O,<- LA];congr 1;omega
 exact λi e a=>f N i ⋯ e a
end
section
variable{p:Int}{n m N h r r2 q:Nat}{B B2 K:Nat->Vc}{l l2 lK:RZ}{M f:RK}
theorem KA(z:Span p n (eK m U) v) : ∃t:Vc,∀i,i<n->v i%p=zl (λj=>t j*U j i) m%p:=by
 induction z with
 | zero h=>exact⟨λ_=>0,λi a=>by rw[h i a];simp[zT]⟩
 | @step v w g c I l J O=>
  obtain⟨t,Y⟩:=O;obtain⟨k,d,rfl⟩:=I;refine⟨λj=>t j+if j=k then c else 0,λi a=>?_⟩;rw[J i a,LA,Y i a,<- LA];congr 1;have e:zl (λj=>(t j+if j=k then c else 0)*U j i) m=zl (λj=>t j*U j i) m+zl (λj=>(if j=k then c else 0)*U j i) m:=by rw[<- jy];exact zx λj _=>OU ..
  rw[e,zQ (f:=λj=>(if j=k then c else 0)*U j i) d λj _ b=>by simp[b]];simp
theorem qN(a b:Nat->Int)(n:Nat):zl (λj=>a j*b j) n=zl (λj=>b j*a j) n:=zx λj _=>LS ..
theorem B0:Span p h (eK N λj i=>M i j) u ↔ ∃x:Vc,∀i,i<h->u i%p=app M N x i%p:=by
 constructor
 ·intro q
  obtain⟨t,z⟩:=KA q;exact⟨t,λi a=>by rw[z i a];unfold app;rw[qN]⟩
 ·rintro⟨x,b⟩
  refine(Span.sum (u:=λj i=>M i j) x (m:=N) λj I=> .gen ⟨j,I,rfl⟩).congr λi a=>?_;rw[b i a];unfold app;rw[qN]
theorem Yz(n:Nat)(v:Vc):Span p n (eK n jN) v:=by refine(Span.sum (u:=jN) v (m:=n) λj z=> .gen ⟨j,z,rfl⟩).congr λi a=>?_;rw[zQ (f:=λk=>v k*jN k i) a λk _ I=>by simp[jN,I]];simp[jN]
theorem vm(z:Pr p)(C:N<=8)(J : ∀v:Vc,∃t,∀i,i<N->v i%p=app f N t i%p)(O : ∀i,i<N->app f N t i%p=0) : ∀j,j<N->t j%p=0:=by
 obtain⟨q,K,l,s,_,g,I,U,e⟩:=yf z (h:=N) (w:=N) ⋯ ⋯ f;have Y:Rk p N N (λj i=>f i j) N:=⟨jN,id,V6 z N,λv=>⟨λ_=>B0.mpr<|J v,λ_=>Yz N v⟩⟩;have:=vi z U Y;have d:q=0:=by omega
 subst d;have:=(I t).mpr λi b=>by have:=O i b;unfold app at this;exact this
 cases this with
 | zero h=>exact h
 | step a _ _=>obtain⟨k,I,_⟩:=a;omega
noncomputable def J6(r:Nat)(B:Nat->Vc)(l:RZ)(t:Vc):Vc:=λi=>t i - zl (λj=>t (l j)*B j i) r
theorem QS(I:h9 p N r B l)(t:Vc)(z:j<r):J6 r B l t (l j)=0:=by unfold J6;rw[zQ (f:=λJ=>t (l J)*B J (l j)) z λk O U=>by rw[I.ra k j O z (Ll U)];simp];rw[I.one j z];omega
theorem WL(t:Vc):Span p N (eK r B) λi=>zl (λj=>t (l j)*B j i) r:=Span.sum (u:=B) (λj=>t<|l j) λj z=> .gen ⟨j,z,rfl⟩
theorem sj(z:h9 p N r B l)(h:Span p N (eK r B) t)(hz : ∀j,j<r->t (l j)%p=0) : ∀i,i<N->t i%p=0:=λi a=>by
 rw[Zh z h i a];have e:zl (λk=>t (l k)*B k i) r%p=zl (λ_=>0) r%p:=zN λk I=>by rw[IJ,hz k I];simp
 rw[e,zT];simp
theorem V5(z:Pr p)(I:h9 p N r B l)(hi:i<N)(hn : ∀j,j<r->l j≠i) : ¬Span p N (eK r B) (jN i):=λh=>by have:=sj I h (λj J=>by unfold jN;rw[EQ (Ll<|hn j J)];simp) i hi;unfold jN at this;rw[RY rfl,z.one]at this;omega
theorem JM(g:RK)(w:Nat)(u v:Vc)(i:Nat):app g w (λj=>u j - v j) i=app g w u i - app g w v i:=by
 have e:app g w u i=app g w (λj=>u j - v j) i+app g w v i:=by unfold app;rw[<- jy];exact zx λj _=>by dsimp only;rw[<- NF];congr 1;omega
 omega
noncomputable def Vi(M f:RK)(N:Nat):Nat->Nat->Int:=λi j=>zl (λk=>M i k*f k j) N
theorem ZA(t:Vc)(i:Nat):app (Vi M f N) N t i=app M N (app f N t) i:=by
 unfold app Vi;have e:zl (λj=>zl (λk=>M i k*f k j) N*t j) N=zl (λj=>zl (λk=>M i k*(f k j*t j)) N) N:=zx λj _=>by rw[<- qM];exact zx λk _=>Mh ..
 rw[e,qL];exact zx λk _=>ju ..
theorem uF(C:Pr p)(hN:N<=8)(hh:h<=8)(hs : ∀v:Vc,∃t,∀i,i<N->v i%p=app f N t i%p)(L:h9 p N r B l)(U : ∀t,Span p N (eK r B) t↔Dq p h N M (app f N t))
 (S:h9 p h r2 B2 l2) (Z : ∀v,Span p h (eK r2 B2) v↔Span p h (eK N λj i=>M i j) v) :
 (∀j,j<r->∀i,i<h->app M N (app f N<|B j) i%p=0)/\(∀c,c<N->(∀j,j<r->l j≠c)->∃i,i<h/\app M N (λa=>f a c) i%p≠0)/\r+r2=N/\
   ∀O:Vc->Prop,(∀c,c<N->(∀j,j<r->l j≠c)->Span p h O (app M N λa=>f a c))->(∀c,c<h->(∀j,j<r2->l2 j≠c)->Span p h O (jN c))->∀v,Span p h O v:=by
 have g : ∀t:Vc,Dq p h N M (app f N t) ↔ ∀i,i<h->app M N (app f N t) i%p=0:=λt=>Iff.rfl;have o : ∀(c:Nat),c<N->∀i,app M N (λa=>f a c) i%p=app M N (app f N<|jN c) i%p:=λc I i=>jE (λa _=>by rw[v9 f I]) i;refine⟨λj J=>(g _).mp ((U<|B j).mp (.gen ⟨j,J,rfl⟩)),λc I R=>?_,?_,λO H P v=>?_⟩
 ·refine LU λz=>V5 C L I R ((U _).mpr ((g _).mpr λi b=>?_))
  rw[<- o c I i];exact LU λy=>z ⟨i,b,y⟩
 ·obtain⟨q',K',l',s',_,s,n,A,b9⟩:=yf C (h:=h) (w:=N) ⋯ ⋯ (Vi M f N)
  have e1:q'=r:=(JH C s L (λv k=>(U v).mpr λi b=>by
   have:=(n v).mp k i b;rw[show zl (λj=>Vi M f N i j*v j) N=app (Vi M f N) N v i from rfl,ZA]at this;exact this) λv k=>(n v).mpr λi b=>by
   have:=(U v).mp k i b;rw[show zl (λj=>Vi M f N i j*v j) N=app (Vi M f N) N v i from rfl,ZA];exact this).1
  have e2:s'=r2:=by
   refine vi C A ⟨B2,l2,S,λv=>(Z v).trans ⟨λz=>?_,λz=>?_⟩⟩
   ·obtain⟨x,m⟩:=B0.mp z
    obtain⟨t,Y⟩:=hs x;refine B0.mpr ⟨t,λi b=>?_⟩;rw[m i b,ZA];exact jE Y i
   ·obtain⟨t,Y⟩:=B0.mp z
    exact B0.mpr ⟨app f N t,λi b=>by rw[Y i b,ZA]⟩
  omega
 ·
  have X : ∀t:Vc,Span p h O (app M N<|app f N t):=λt=>by
   have W:=(g _).mp ((U _).mp (WL (p:=p) (N:=N) (B:=B) (r:=r) (l:=l) t));have e : ∀i,i<h->app M N (app f N t) i%p=app M N (app f N<|J6 r B l t) i%p:=λi b=>by
    have F:app M N (app f N<|J6 r B l t) i=app M N (app f N t) i - app M N (app f N λi=>zl (λj=>t (l j)*B j i) r) i:=by rw[<- JM];congr 1;funext a;exact JM ..
    rw[F,Mx,W i b];simp
   refine Span.congr ?_ e;have G : ∀i,app M N (app f N<|J6 r B l t) i=zl (λc=>J6 r B l t c*app M N (λa=>f a c) i) N:=λi=>by rw[<- yb];congr 1;funext a;unfold app;exact qN ..
   have s1 : ∀K,K<=N->Span p h O λi=>zl (λc=>J6 r B l t c*app M N (λa=>f a c) i) K:=by
    intro K
    induction K with
    | zero=>intro _;exact .zero λi _=>by simp[zl]
    | succ K d=>
     intro Q;by_cases I : ∃j,j<r/\l j=K
     ·obtain⟨j,J,rfl⟩:=I
      refine(d ⋯).congr λi _=>?_;show(zl _ (l j)+_)%p=_;have z:=QS L t J;simp only[z];simp
     ·exact((H K ⋯ λj J z=>I ⟨j,J,z⟩).add (d ⋯) _).congr λi _=>rfl
   exact(s1 N<|IH _).congr λi _=>by rw[G]
  have E : ∀u,Span p h (eK r2 B2) u->Span p h O u:=λu T=>by obtain⟨x,m⟩:=B0.mp<|(Z u).mp T;obtain⟨t,Y⟩:=hs x;exact(X t).congr λi b=>by rw[m i b];exact jE Y i
  have s2 : ∀K,K<=h->Span p h O λi=>zl (λc=>J6 r2 B2 l2 v c*jN c i) K:=by
   intro K
   induction K with
   | zero=>intro _;exact .zero λi _=>by simp[zl]
   | succ K d=>
    intro Q;by_cases I : ∃j,j<r2/\l2 j=K
    ·obtain⟨j,J,rfl⟩:=I
     refine(d ⋯).congr λi _=>?_;show(zl _ (l2 j)+_)%p=_;have z:=QS S v J;simp only[z];simp
    ·exact((P K ⋯ λj J z=>I ⟨j,J,z⟩).add (d ⋯) _).congr λi _=>rfl
  refine((E _<|WL (B:=B2) (r:=r2) (l:=l2) v).add (s2 h<|IH _) 1).congr λi b=>?_;congr 1;rw[zQ (f:=λc=>J6 r2 B2 l2 v c*jN c i) b λc _ I=>by simp[jN,I]];simp only[jN,if_true,J6];omega
theorem uG(J:Pr p)(hN:N<=8)(hh:h<=8)(hs : ∀v:Vc,∃t,∀i,i<N->v i%p=app f N t i%p)(S:h9 p N r B l)(Z : ∀t,Span p N (eK r B) t↔Span p N (eK h λj i=>M i j) (app f N t))
 (hk : ∀v,Span p h (eK q K) v↔Dq p N h M v) (hr:Rk p N h (λj i=>M i j) s) (bl:q+s=h) :
 (∀j,j<r->∃y:Vc,∀i,i<N->app M h y i%p=app f N (B j) i%p)/\(∀c,c<N->(∀j,j<r->l j≠c)->¬∃y:Vc,∀i,i<N->app M h y i%p=f i c%p)/\r+q=h/\
   ∀(L:Vc->Prop) (x:Nat->Vc),(∀j,j<r->Span p h L (x j)/\∀i,i<N->app M h (x j) i%p=app f N (B j) i%p)->(∀j,j<q->Span p h L (K j))->∀v,Span p h L v:=by
 have o : ∀t,Span p N (eK r B) t ↔ ∃y:Vc,∀i,i<N->app f N t i%p=app M h y i%p:=λt=>(Z t).trans B0;have inj : ∀{t:Vc},(∀i,i<N->app f N t i%p=0)->∀j,j<N->t j%p=0:=λU=>vm J hN hs U;refine⟨λj I=>?_,λc T hn z=>?_,?_,λL x Q h2 v=>?_⟩
 ·obtain⟨y,d⟩:=(o<|B j).mp (.gen ⟨j,I,rfl⟩)
  exact⟨y,λi b=>(d i b).symm⟩
 ·obtain⟨y,d⟩:=z
  exact V5 J S T hn<|(o _).mpr ⟨y,λi b=>by rw[v9 f T,d i b]⟩
 ·have as:s<=8/\r<=8:=by
   obtain⟨E,bm,b6⟩:=pP J (n:=N) (m:=h) ⋯ hh λj i=>M i j;refine⟨by rw[vi J hr b6];omega,?_⟩;have : ∀A,A<=r->A<=N:=by
    intro A;have mono : ∀k,k<r->k<=l k:=by
     intro k
     induction k with
     | zero=>intro _;omega
     | succ k ih=>intro hk;have:=ih ⋯;have:=S.mono k (k+1) ⋯ hk;omega
    intro bn;cases A with
    | zero=>omega
    | succ P=>have:=mono P ⋯;have:=S.lt P ⋯;omega
   have:=this r<|IH _;omega
  have bt:s<=r:=by
   obtain⟨E,a1,F⟩:=pP J (n:=N) (m:=r) ⋯ as.2 λj=>app f N<|B j;have e:s=E:=by
    obtain⟨C,Y,H,w⟩:=hr;refine vi J (m:=h) (W:=λj i=>M i j) ⟨C,Y,H,w⟩ ?_;obtain⟨X,bb,bd,be⟩:=F;refine⟨X,bb,bd,λv=>(be v).trans ⟨λz=>?_,λz=>?_⟩⟩
    ·exact z.le λg O=>by obtain⟨j,I,rfl⟩:=O;exact(Z<|B j).mp (.gen ⟨j,I,rfl⟩)
    ·obtain⟨y,d⟩:=B0.mp z
     obtain⟨t,U⟩:=hs v;have G:Span p N (eK r B) t:=(o t).mpr ⟨y,λi b=>by rw[<- U i b,d i b]⟩;refine(Span.sum (u:=λj=>app f N<|B j) (λj=>t<|l j) (m:=r) λj I=> .gen ⟨j,I,rfl⟩).congr λi b=>?_;rw[U i b,<- yb];exact jE (λj I=>Zh S G j I) i
   omega
  have bv:r<=s:=by
   obtain⟨C,Y,H,w⟩:=hr;have ex : ∀j,∃t:Vc,∀i,i<N->C j i%p=app f N t i%p:=λj=>hs<|C j;have g:Nat->Vc:=λj=>Classical.choose<|ex j;have O : ∃g:Nat->Vc,∀j i,i<N->C j i%p=app f N (g j) i%p:=⟨λj=>Classical.choose<|ex j,λj=>Classical.choose_spec<|ex j⟩;obtain⟨g,O⟩:=O;obtain⟨E,a1,F⟩:=pP J (n:=N) (m:=s) ⋯ as.1 g;have e:r=E:=by
    refine vi J (m:=s) (W:=g) ⟨B,l,S,λv=>⟨λz=>?_,λz=>?_⟩⟩ F
    ·have hv:=(w _).mpr ((Z v).mp z)
     refine(Span.sum (u:=g) (λj=>app f N v<|Y j) (m:=s) λj I=> .gen ⟨j,I,rfl⟩).congr λi b=>?_;have z0 : ∀a,a<N->app f N (λi=>v i - zl (λj=>app f N v (Y j)*g j i) s) a%p=0:=λa R=>by
      rw[JM,yb,Mx,Zh H hv a R];have e:zl (λk=>app f N v (Y k)*C k a) s%p=zl (λk=>app f N v (Y k)*app f N (g k) a) s%p:=zN λk _=>by rw[IJ,O k a R,<- IJ]
      rw[e];simp
     have:=inj z0 i b;have q2:=Int.emod_emod_of_dvd;exact(Int.emod_emod_of_dvd _<|Int.dvd_refl p).symm.trans (by
      rw[Lf];have:(v i - zl (λj=>app f N v (Y j)*g j i) s)%p=0:=this;exact Mz.mpr this)
    ·refine z.le λu hu=>?_
     obtain⟨j,I,rfl⟩:=hu;refine(Z _).mpr (((w<|C j).mp (.gen ⟨j,I,rfl⟩)).congr λi b=>(O j i b).symm)
   omega
  omega
 ·obtain⟨t,U⟩:=hs (app M h v)
  have G:Span p N (eK r B) t:=(o t).mpr ⟨v,λi b=>(U i b).symm⟩;have hx:Span p h L λc=>zl (λj=>t (l j)*x j c) r:=Span.sum (u:=x) (λj=>t<|l j) λj I=>(Q j I).1;have hd:Span p h L λc=>v c - zl (λj=>t (l j)*x j c) r:=by
   refine((hk _).mpr λi b=>?_).le λg O=>by obtain⟨j,I,rfl⟩:=O;exact h2 j I
   show app M h (λc=>v c - zl (λj=>t (l j)*x j c) r) i%p=0;rw[JM,yb,Mx];have e:zl (λj=>t (l j)*app M h (x j) i) r%p=app M h v i%p:=by rw[U i b,jE (λj I=>Zh S G j I) i,yb];exact zN λj I=>by rw[IJ,(Q j I).2 i b,<- IJ]
   rw[e];simp
  refine(hx.add hd 1).congr λc _=>?_;congr 1;omega
end
structure A6(p:Int)(w:RX)(wd:RZ)(T:RV)(k:Nat)(mu:List fA):Prop where
 ok : ∀b,b∈mu->m9 p w wd T k b
 sp : ∀r,r<=k->∀v,Span p (wd r) (Hh mu r) v
 ct : ∀r,r<=k->mu.countP (λb=>b.has r)=wd r
 od:(mu.filter λb=>b.has k).Pairwise (Ord w)
noncomputable def l8(r:Nat)(l:RZ)(i:Nat):Option Nat:=(Iz r).find? λj=>l j==i
theorem xp(h:l8 r l i=di j):j<r/\l j=i:=by have a:=List.find?_some h;have b:=OE h;exact⟨IC.mp b,by simpa using a⟩
theorem Zo(h:l8 r l i=d5) : ∀j,j<r->l j≠i:=λj z=>by have:=Oz.mp h j<|IC.mpr z;simpa using this
noncomputable def ij(p:Int)(A:Nat->fA)(N r:Nat)(B:Nat->Vc)(l:RZ)(i:Nat):fA:=match l8 r l i with
 | some j=>DV p A N (B j) i
 | none=>A i
noncomputable def lp(k:Nat)(b:fA):Option Vc->fA
 | none=>b
 | some y=>⟨b.s,b.n+1,λr=>if r=k+1 then y else b.v r⟩
noncomputable def o7(k:Nat)(y:Vc):fA:=⟨k+1,1,λ_=>y⟩
noncomputable def DZ(r:Nat)(B:Nat->Vc)(l:RZ)(i:Nat):Vc:=match l8 r l i with
 | some j=>B j
 | none=>jN i
theorem cf(p A N r B l i):(ij p A N r B l i).s=(A i).s:=by unfold ij;split<;>rfl
theorem uH(p A N r B l i):(ij p A N r B l i).n=(A i).n:=by unfold ij;split<;>rfl
theorem Y7(p A N r B l i rm):(ij p A N r B l i).has rm=(A i).has rm:=by unfold fA.has;rw[cf,uH]
theorem wJ:(o7 k y).has r=decide (r=k+1):=by
 unfold o7 fA.has;by_cases h:r=k+1
 ·simp[h]
 ·simp[h];intro;omega
section
variable{p:Int}{w:RX}{wd:RZ}{T:RV}{k N r:Nat}{A:Nat->fA}{B:Nat->Vc}{l:RZ}
theorem nu(z:h9 p N r B l)(hi:i<N):DZ r B l i i=1/\∀c,c<i->DZ r B l i c=0:=by
 unfold DZ;cases hj:l8 r l i with
 | some j=>
  obtain⟨a,b⟩:=xp hj;subst b;exact⟨z.one j a,λc I=>z.me j c a I⟩
 | none=>exact⟨by simp[jN],λc I=>by simp only[jN];rw[EQ ⋯]⟩
theorem pw(hi:i<N)(I:(A i).has rm=dn):(ij p A N r B l i).v rm c%p=oe p A N (DZ r B l i) rm c%p:=by
 unfold ij DZ;cases z:l8 r l i with
 | some j=>rfl
 | none=>
  show(A i).v rm c%p=_;unfold oe;rw[Lf];congr 1;rw[zQ (f:=λj=>if (A j).has rm=dn then jN i j*(A j).v rm c else 0) hi λj _ z=>by unfold jN;rw[EQ (Ll z)];simp];simp[jN,I]
theorem ny(I:0<p)(J:h9 p N r B l)(z : ∀j,j<N->m9 p w wd T k (A j))(O : ∀j,j<N->(A j).has k=dn)(U : ∀i c,i<c->c<N->Ord w (A i) (A c))(hi:i<N):m9 p w wd T k (ij p A N r B l i):=by
 unfold ij;split
 ·next j Y=>
  obtain⟨a,b⟩:=xp Y;subst b;exact Bh I z O hi (λc a b=>U _ c a b) λc d=>J.me j c a d
 ·exact z i hi
theorem Xa(z:rm<=k)(I:b.s+b.n=k+1):(lp k b o).has rm=b.has rm/\(lp k b o).v rm=b.v rm:=by
 cases o with
 | none=>exact⟨rfl,rfl⟩
 | some y=>
  refine⟨?_,by simp only[lp];rw[EQ ⋯]⟩;unfold lp fA.has;simp only;congr 1;exact decide_eq_decide.mpr ⋯
theorem VH(z:b.s+b.n=k+1):(lp k b o).has (k+1)=o.isSome:=by
 cases o with
 | none=>unfold lp fA.has;simp;omega
 | some y=>unfold lp fA.has;simp;omega
theorem sC(k b o):(lp k b o).s=b.s:=by cases o<;>rfl
theorem BG(p0:0<p)(J:b.s+b.n=k+1)(Y:m9 p w wd T k b)(Z : ∀y,o=di y->∀c,c<wd (k+1)->0<=y c/\y c<p)
 (C:o=d5->w k=ed->∀c,c<wd (k+1)->app (T k) (wd k) (b.v k) c%p=0) (L : ∀y,o=di y->w k=ed->∀c,c<wd (k+1)->app (T k) (wd k) (b.v k) c%p=y c%p)
 (S : ∀y,o=di y->w k=dn->∀c,c<wd k->app (T k) (wd<|k+1) y c%p=b.v k c%p):m9 p w wd T (k+1) (lp k b o):=by
 have x:=Y.n1;refine⟨?_,?_,λO c h z=>?_,λj A d c z=>?_⟩
 ·cases o with
  | none=>exact Y.n1
  | some y=>show 1<=b.n+1;omega
 ·cases o with
  | none=>show b.s+b.n<=k+1+1;omega
  | some y=>show b.s+(b.n+1)<=k+1+1;omega
 ·by_cases m:O<=k
  ·obtain⟨a,I⟩:=Xa (o:=o) m J
   rw[a]at h;rw[I];exact Y.l5 O c h z
  ·have i:=ji.mp h
   cases o with
   | none=>exact absurd i.2 (by show ¬(O<b.s+b.n);omega)
   | some y=>
    have:O=k+1:=by have:O<b.s+(b.n+1):=i.2;omega
    subst this;have e:(lp k b<|some y).v (k+1)=y:=by simp[lp]
    rw[e];exact Z y rfl c z
 ·by_cases g:j<k
  ·have g1:zR w j<=k:=by unfold zR;split<;>omega
   have g2:zZ w j<=k:=by unfold zZ;split<;>omega
   obtain⟨a,I⟩:=Xa (o:=o) g1 J;obtain⟨t,u⟩:=Xa (o:=o) g2 J;rw[a]at d;rw[I,t,u];exact Y.arr j g d c z
  ·have g:j=k:=by omega
   subst g;obtain⟨a,I⟩:=Xa (o:=o) (IH j) J;have l:=VH (k:=j) (o:=o) J;have r:b.has j=dn:=ji.mpr ⋯;cases hw:w j with
   | false=>
    have f:zR w j=j:=by unfold zR;rw[hw];rfl
    have U:zZ w j=j+1:=by unfold zZ;rw[hw];rfl
    rw[U]at z;rw[f,U,I,l];cases o with
    | none=>rw[C rfl hw c z];simp
    | some y=>rw[L y rfl hw c z];simp[lp]
   | true=>
    have f:zR w j=j+1:=by unfold zR;rw[hw];rfl
    have U:zZ w j=j:=by unfold zZ;rw[hw];rfl
    rw[U]at z;rw[f,l]at d;rw[f,U,a,I,r];cases o with
    | none=>cases d
    | some y=>
     have e:(lp j b<|some y).v (j+1)=y:=by simp[lp]
     rw[e,S y rfl hw c z];simp
theorem Bg(U : ∀c,c<wd (k+1)->0<=y c/\y c<p)(C:w k=dn->∀c,c<wd k->app (T k) (wd<|k+1) y c%p=0):m9 p w wd T (k+1) (o7 k y):=by
 refine⟨IH _,by show k+1+1<=k+1+1;omega,λe c J z=>?_,λj d I c z=>?_⟩
 ·rw[wJ]at J
  have:=of_decide_eq_true J;subst this;exact U c z
 ·rw[wJ]at I
  have I:=of_decide_eq_true I;cases hw:w j with
  | false=>
   have a:zR w j=j:=by unfold zR;rw[hw];rfl
   omega
  | true=>
   have a:zR w j=j+1:=by unfold zR;rw[hw];rfl
   have O:zZ w j=j:=by unfold zZ;rw[hw];rfl
   have Y:j=k:=by omega
   subst Y;rw[O]at z;have b:(o7 j y).has (zZ w j)=ed:=by rw[wJ,O];simp
   rw[b,a];show app (T j) (wd<|j+1) y c%p=_;rw[C hw c z];simp
noncomputable def vc(p:Int)(k:Nat)(w:RX)(C:List fA)(A:Nat->fA)(N r:Nat)(B:Nat->Vc)(l:RZ)(nx:Nat->Option Vc)(z:List Vc):List fA:=
 (C.filter λb=> !b.has k)++(if w k then (Iz N).map (λi=>lp k (ij p A N r B l i)<|nx i)++z.map (o7 k)else z.map (o7 k)++(Iz N).map λi=>lp k (ij p A N r B l i)<|nx i)
theorem ff(p0:0<p)(I:A6 p w wd T k mu)(hN:(mu.filter λb=>b.has k).length=N)(U : ∀j,A j=(mu.filter λb=>b.has k).getD j gG)(J:h9 p N r B l)
 (c1 : ∀i y,i<N->nx i=di y->∀c,c<wd (k+1)->0<=y c/\y c<p) (c2 : ∀y,y∈news->∀c,c<wd (k+1)->0<=y c/\y c<p)
   (d0 : ∀i,i<N->nx i=d5->w k=ed->∀c,c<wd (k+1)->app (T k) (wd k) ((ij p A N r B l i).v k) c%p=0)
   (d1 : ∀i y,i<N->nx i=di y->w k=ed->∀c,c<wd (k+1)->app (T k) (wd k) ((ij p A N r B l i).v k) c%p=y c%p)
   (d2 : ∀i y,i<N->nx i=di y->w k=dn->∀c,c<wd k->app (T k) (wd<|k+1) y c%p=(ij p A N r B l i).v k c%p)
   (d3 : ∀y,y∈news->w k=dn->∀c,c<wd k->app (T k) (wd<|k+1) y c%p=0)
   (s1 : ∀v,Span p (wd<|k+1) (λg=>(∃i,i<N/\nx i=di g)\/g∈news) v) (n1:(Iz N).countP (λi=>(nx i).isSome)+news.length=wd (k+1)) :
   A6 p w wd T (k+1) (vc p k w mu A N r B l nx news):=by
  have F : ∀j,j<N->A j∈mu/\(A j).has k=dn:=λj Y=>by
   have:A j∈mu.filter λb=>b.has k:=by rw[U j,IF,ID ⋯];exact MW _
   have:=Lb.mp this;exact⟨this.1,by simpa using this.2⟩
  have W : ∀j,j<N->m9 p w wd T k (A j):=λj Y=>I.ok _ (F j Y).1;have Z : ∀i c,i<c->c<N->Ord w (A i) (A c):=λi c m u=>by have:=MM.mp I.od i c ⋯ ⋯ m;rw[U i,U c,IF,ID ⋯,IF,ID ⋯];exact this
  have kr : ∀i,i<N->m9 p w wd T k (ij p A N r B l i):=λi d=>ny p0 J W (λj Y=>(F j Y).2) Z d;have a0 : ∀i,i<N->(ij p A N r B l i).s+(ij p A N r B l i).n=k+1:=λi d=>by rw[cf,uH];have m:=ji.mp (F i d).2;have u:=(W i d).le;omega
  have G : ∀b,b∈mu->b.has k=ed->b.s+b.n<=k:=λb J R=>by have m:=(I.ok b J).le;have u:=(I.ok b J).n1;refine Nat.not_lt.mp λz=>?_;have:b.has k=dn:=ji.mpr ⋯;rw[this]at R;cases R
  have x : ∀b,b∈vc p k w mu A N r B l nx news↔(b∈mu/\b.has k=ed)\/(∃i,i<N/\b=lp k (ij p A N r B l i) (nx i))\/∃y,y∈news/\b=o7 k y:=λb=>by
   unfold vc;rw[ME,Lb];refine or_congr ⋯ ?_;cases w k<;>simp only[My,if_false,if_true,ME,Lh,IC]
   ·constructor
    ·rintro(⟨y,m,u⟩ | ⟨i,m,u⟩)
     ·exact .inr ⟨y,m,u.symm⟩
     ·exact .inl ⟨i,m,u.symm⟩
    ·rintro(⟨i,m,u⟩ | ⟨y,m,u⟩)
     ·exact .inr ⟨i,m,u.symm⟩
     ·exact .inl ⟨y,m,u.symm⟩
   ·constructor
    ·rintro(⟨i,m,u⟩ | ⟨y,m,u⟩)
     ·exact .inl ⟨i,m,u.symm⟩
     ·exact .inr ⟨y,m,u.symm⟩
    ·rintro(⟨i,m,u⟩ | ⟨y,m,u⟩)
     ·exact .inl ⟨i,m,u.symm⟩
     ·exact .inr ⟨y,m,u.symm⟩
  have cnt : ∀P:fA->Bool,(vc p k w mu A N r B l nx news).countP P=(mu.filter λb=> !b.has k).countP P+(Iz N).countP (λi=>P<|lp k (ij p A N r B l i)<|nx i)+(news.map<|o7 k).countP P:=λP=>by
   unfold vc;rw[List.countP_append];cases w k<;>simp only[My,if_false,if_true,List.countP_append,NK (f:=λi=>lp k (ij p A N r B l i)<|nx i)]
   ·rw[OQ,Nat.add_comm (List.countP P<|List.map (o7 k) news)];rfl
   ·rw[OQ];rfl
  refine⟨λb bf=>?_,λO hr v=>?_,λO hr=>?_,?_⟩
  ·rcases (x b).mp bf with⟨m,u⟩ | ⟨i,d,rfl⟩ | ⟨y,hy,rfl⟩
   ·have R:=G b m u
    have S:=I.ok b m;refine⟨S.n1,by omega,S.l5,λj Y X c M=>?_⟩;have bn:=ji.mp X;refine S.arr j ?_ X c M;have:zR w j>=j:=by unfold zR;split<;>omega
    omega
   ·exact BG p0 (a0 i d) (kr i d) (λy e=>c1 i y d e) (λe=>d0 i d e) (λy e=>d1 i y d e) λy e=>d2 i y d e
   ·exact Bg (c2 y hy)<|d3 y hy
  ·by_cases C:O<=k
   ·refine(I.sp O C v).le λg hg=>?_
    obtain⟨b,m,u,rfl⟩:=hg;cases Sh:b.has k with
    | false=>exact .gen ⟨b,(x b).mpr (.inl ⟨m,Sh⟩),u,rfl⟩
    | true=>
     have bi:b∈mu.filter λb=>b.has k:=Lb.mpr ⟨m,by simpa using Sh⟩;obtain⟨i,d,e⟩:=Oj bi;have ei:A i=b:=by rw[U i,IF,ID d];exact e
     rw[<- ei]at u ⊢;refine lT (A:=A) (A':=λi=>ij p A N r B l i) (t:=λi=>DZ r B l i) (λi d=>(nu J d).1) (λi c d M=>(nu J d).2 c M) (λi d Q=>?_) (λi d Q c _=>pw d Q) i ⋯ u;obtain⟨x1,x2⟩:=Xa (o:=nx i) C<|a0 i d;exact .gen ⟨_,(x _).mpr (.inr<|.inl ⟨i,d,rfl⟩),by rw[x1,Y7];exact Q,by rw[x2]⟩
   ·have:O=k+1:=by omega
    subst this;refine(s1 v).le λg hg=>?_;rcases hg with⟨i,d,e⟩ | hg
    ·refine .gen ⟨_,(x _).mpr (.inr<|.inl ⟨i,d,rfl⟩),?_,?_⟩
     ·rw[VH (a0 i d),e];rfl
     ·rw[e];simp[lp]
    ·exact .gen ⟨_,(x _).mpr (.inr<|.inr ⟨g,hg,rfl⟩),by rw[wJ];simp,rfl⟩
  ·rw[cnt]
   by_cases C:O<=k
   ·have K:(news.map<|o7 k).countP (λb=>b.has O)=0:=Ol.mpr λb J=>by
     obtain⟨y,_,rfl⟩:=Lh.mp J;rw[wJ];simp;omega
    have L:(Iz N).countP (λi=>(lp k (ij p A N r B l i)<|nx i).has O)=(mu.filter λb=>b.has k).countP λb=>b.has O:=by
     have:(mu.filter λb=>b.has k)=(Iz N).map A:=by rw[<- jb gG (mu.filter λb=>b.has k),hN];exact IZ λj _=>(U j).symm
     rw[this,NK];refine Mn λi d=>?_;have d:=IC.mp d;rw[(Xa (o:=nx i) C<|a0 i d).1,Y7];rfl
    rw[K,L,<- I.ct O C,List.countP_eq_countP_filter_add mu (λb=>b.has O) λb=>b.has k];omega
   ·have:O=k+1:=by omega
    subst this;have H:(mu.filter λb=> !b.has k).countP (λb=>b.has<|k+1)=0:=Ol.mpr λb J=>by obtain⟨m,u⟩:=Lb.mp J;have:=G b m (by simpa using u);intro z;have:=ji.mp z;omega
    have K:(news.map<|o7 k).countP (λb=>b.has<|k+1)=news.length:=by rw[List.countP_eq_length.mpr λb J=>?_,IU];obtain⟨y,_,rfl⟩:=Lh.mp J;rw[wJ];simp
    have L:(Iz N).countP (λi=>(lp k (ij p A N r B l i)<|nx i).has (k+1))=(Iz N).countP λi=>(nx i).isSome:=Mn λi d=>by rw[VH (a0 i<|IC.mp d)]
    rw[H,K,L];omega
  ·have H:((mu.filter λb=> !b.has k).filter λb=>b.has<|k+1)=[]:=List.filter_eq_nil_iff.mpr λb J=>by
    obtain⟨m,u⟩:=Lb.mp J;have:=G b m (by simpa using u);intro z;have:=ji.mp z;omega
   have pO:((Iz N).map λi=>lp k (ij p A N r B l i)<|nx i).Pairwise (Ord w):=by rw[NR];refine Od (λ{a b} E J h=>?_)<|NQ (n:=N);have:=Z a b h<|IC.mp J;unfold Ord;rw[sC,sC,cf,cf];exact this
   have pN:(news.map<|o7 k).Pairwise (Ord w):=by
    rw[NR];refine MM.mpr λ_ _ _ _ _=>⟨λz=>?_,λz=>?_⟩
    ·exact absurd z<|LF<|k+1
    ·exact absurd z<|LF<|k+1
   have so : ∀b,b∈(Iz N).map (λi=>lp k (ij p A N r B l i)<|nx i)->b.s<=k:=λb J=>by obtain⟨i,d,rfl⟩:=Lh.mp J;have d:=IC.mp d;rw[sC,cf];exact(ji.mp (F i d).2).1
   have sn : ∀b,b∈news.map (o7 k)->b.s=k+1:=λb J=>by obtain⟨y,_,rfl⟩:=Lh.mp J;rfl
   unfold vc;rw[OA,H,Oi];refine OJ _ ?_;cases hw:w k with
   | false=>
    simp only[My,if_false];refine List.pairwise_append.mpr ⟨pN,pO,λa E b J=>?_⟩;have m:=sn a E;have u:=so b J;exact⟨λz=>by omega,λ_=>by rw[m];exact hw⟩
   | true=>
    simp only[if_true];refine List.pairwise_append.mpr ⟨pO,pN,λa E b J=>?_⟩;have m:=sn b J;have u:=so a E;exact⟨λ_=>by rw[m];exact hw,λz=>by omega⟩
end
theorem zm(h:F γ=di (.next γ'))(g:G γ'=r):zH F G γ=r:=by rw[jm,h];exact g
theorem z7(h:F (zY n ds)=di (.ret r)):ja n F ds=di r:=by show(F<|zY n ds).bind _=_;rw[h];rfl
theorem YA{T:Tg}{F:CO Fl}(P:Nat->Ctx->Prop)(n:Nat){γ:Ctx}(J:P 0 γ)(step : ∀s,s<n->∀γ,P s γ->∃γ1 z,xQ T (.int (s:Int)) γ=di γ1/\F γ1=di (.next z)/\P (s+1) z) :
 ∃γ',xP T F ((Iz n).map λ(i:Nat)=>D.int (i:Int)) γ=di (.next γ')/\P n γ':=by
 have a : ∀(k s:Nat) (γ:Ctx),s+k=n->P s γ->∃γ',xP T F ((Ng s k).map λ(i:Nat)=>D.int (i:Int)) γ=di (.next γ')/\P n γ':=by
  intro k
  induction k with
  | zero=>
   intro s γ e I;obtain rfl:s=n:=by omega
   exact⟨γ,rfl,I⟩
  | succ k O=>
   intro s γ e I;obtain⟨γ1,z,b,U,Y⟩:=step s ⋯ γ I;obtain⟨γ',d,f⟩:=O (s+1) z ⋯ Y;refine⟨γ',?_,f⟩;rw[OR,Ld,qi,b];simp only[IL,U];exact d
 have:=a n 0 γ ⋯ J;rw[<- Oc]at this;exact this
theorem xj(P:Nat->Ctx->Prop)(n:Nat)(C:n<=lim)(I:f γ=di (.int (n:Int)))(J:P 0 γ)(step : ∀s,s<n->∀γ,P s γ->∃γ1 z,xQ T (.int (s:Int)) γ=di γ1/\F γ1=di (.next z)/\P (s+1) z) :
 ∃γ',vt (zW f) T F γ=di (.next γ')/\P n γ':=by
 obtain⟨γ',e,O⟩:=YA P n J step;refine⟨γ',?_,O⟩;have U:=jv;have r:inR (n:Int)=dn:=Yv ⋯ ⋯;rw[Xe,gj,I];simp only[IL,JK,r,if_true,Nt,jY];rw[jh n λi=>(i:Int)];exact e
@[simp] noncomputable def FT:=@Xv.eq_1
theorem oC{a b:Bool}(h:i9 a=i9 b):a=b:=by cases a<;>cases b<;>first | rfl | exact absurd h ⋯
noncomputable def nh(m C:Nat)(w w':RX):Prop:=m=C/\∀k,k<m->w k=w' k
instance (m m':Nat) (w w':RX):Decidable (nh m m' w w'):=inferInstanceAs (Decidable (m=m'/\∀k,k<m->w k=w' k))
theorem oE{m C:Nat}{w w':RX}:jJ m w=jJ C w'↔nh m C w w':=by
 constructor
 ·intro h
  have a:=kB m w;rw[h,kB]at a;have I:m=C:=by have:=congrArg List.length a;simpa using this.symm
  subst I;refine⟨rfl,λk z=>?_⟩;have:=congrArg (λl=>l[k]?) a;simp[z]at this;exact(oC this).symm
 ·rintro⟨rfl,h⟩
  unfold jJ;rw[IZ λk z=>by rw[h k (IC.mp z)]]
theorem dJ(m w):kA (.str<|jJ m w)=dn:=by refine dM (n:=0) (by simp[deep]) ⋯ ?_;show(jJ m w).cps.all (· < 0x110000)=dn;rw[<- Array.all_toList,kB];simp only[MJ];intro c z;obtain⟨k,_,rfl⟩:=Lh.mp z;unfold i9;split<;>decide
section
variable{p p':Int}{m m':Nat}{w w':RX}{wd wd':RZ}{T T':RV}
theorem Xw:jA (qv p m w wd T)=di (.T,[.int p,.tup<|zJ (m+1) λk=>(wd k:Int),.tup (kM m w wd T)]):=rfl
theorem tw(k):jA (wj w wd T k)=di (.T,[.str (yR<|i9<|w k),xk (iS w wd k) (iW w wd k) (T k)]):=rfl
theorem bG:zU (.nm 0) jt (d8 (zg 0)<|zu<|.int 0) [Cell.no] (kM m w wd T)=di ((Iz m).map λk=>D.str<|yR<|i9<|w k):=by unfold kM;refine zy _ _ λk z=>zA rfl rfl ?_;simp[tw]
theorem kn(C:m<=900):xB [qv p m w wd T]=di (.val<|.str<|jJ m w):=by
 have J:=jv;have z:m<=lim:=by omega
 have st:Kx ((Iz m).map λk=>D.str<|yR<|i9<|w k)=di ((Iz m).map λk=>yR<|i9<|w k):=Xq _ _;have I:((Iz m).map λk=>yR<|i9<|w k).all jW=dn:=by simp only[MJ];intro x a;obtain⟨k,_,rfl⟩:=Lh.mp a;unfold i9;split<;>decide
 have b:jW "" = dn:=by decide +kernel
 simp only[xB,ja,zY];simp only[wc,tG,BV,yc,qA,Ke,W9,QC,Kd,Ld,OW,Mg,MR,IE,Nj,NJ,vo,Xw,IL,MO,JK,TH,OO,BQ,Nat.sub_self,MK];rw[YT,RY z,show z6 1 [] [Cell.val (qv p m w wd T)]=[Cell.no]from rfl,bG];simp only[MO,IL,st];rw[RY ⟨by simpa using z,I,b⟩];rfl
theorem Kh(C:m<=900)(I:m'<=900):xR [qv p m w wd T,qv p' m' w' wd' T']=di (.val<|.bl<|decide<|p=p'/\nh m m' w w'):=by
 have z:=kn (p:=p) (wd:=wd) (T:=T) (w:=w) C;have J:=kn (p:=p') (wd:=wd') (T:=T') (w:=w') I;have d:h7 (.str<|jJ m w) (.str<|jJ m' w')=di (.bl<|decide<|nh m m' w w'):=by unfold h7;rw[RY ⟨dJ m w,dJ m' w'⟩];congr 2;rw[Mu];simp only[hH,Sg,beq_iff_eq,decide_eq_true_eq];exact oE
 by_cases q:p=p'
 ·simp[xR,ja,zY,Xw,q,z,J,d]
  subst q;simp[z,d]
 ·simp[xR,ja,zY,Xw,q]
end
theorem fP(xs:List D)(n:Nat)(C:xs.length=n)(L : ∀i (h:i<n),∃z,xs[i]'(C ▸ h) = .int z)(be:n<=63)(k:Int)(S:0<=k)(bf:k<100000) :
 ∃m,jn [.lst xs,.int k]=di (.val<|.int m)/\0<=m/\m<1000000007:=by
 have J : ∀x:Int,Kc x 48271=dn:=λx=>fW _ _ ⋯ ⋯;have O : ∀x:Int,Kc 7 x=dn:=λx=>vY _ _ ⋯ ⋯;have d : ∀x:Int,Kc 13 x=dn:=λx=>vY _ _ ⋯ ⋯;have e : ∀x:Int,Kc x 69621=dn:=λx=>fW _ _ ⋯ ⋯;have f:Kc (7*k) k=dn:=fW _ _ ⋯ ⋯;have I:BM 10 9=dn:=by decide
 have U:BM 10 30=dn:=by decide
 have hl:lim=2500:=rfl;by_cases F:n=0
 ·subst F
  have Y:xs=[]:=Lx C;subst Y;simp[jn,ja,zY,jm,J,O,d,e,f,I,U];omega
 ·have g:0<n:=by omega
  obtain⟨i,P⟩:=MV (Lp k<|show(n:Int)≠0 by omega);have p:i<n:=by have:=La k (show(0:Int)<n by omega);omega
  obtain⟨zi,y⟩:=L i p;have W:g9 n (i:Int)=di i:=by rw[qm,RY p]
  by_cases M:n=1
  ·subst M
   have l:i=0:=by omega
   subst l;have k1:k%1=0:=by omega
   simp[jn,ja,zY,jm,J,O,d,e,f,I,U,C,y];omega
  ·obtain⟨z0,Y⟩:=L 0 g
   have l:g9 n 0=di 0:=by have:=qm n 0;rw[RY g]at this;exact this
   have B:(0:Int)<(n:Int) - 1:=by omega
   have E:(1:Int)<(n:Int):=by omega
   have w:1<n:=by omega
   have Z:(n:Int) - 1<1073741824:=by omega
   have q4:(0:Int)<(n:Int):=by omega
   obtain⟨j,Q⟩:=MV (Lp k<|show(n:Int) - 1≠0 by omega);have r:1+j<n:=by have:=La k B;omega
   obtain⟨zj,K⟩:=L (1+j) r;have X:g9 n (1+(j:Int))=di (1+j):=by have:=qm n<|1+j;rw[RY r]at this;rw[<- this];congr 1
   have N:0<=k/((n:Int) - 1)/\k/((n:Int) - 1)<=k:=⟨Int.ediv_nonneg S ⋯,Int.ediv_le_self _ S⟩;obtain⟨t,R⟩:=MV N.1;by_cases A:z0%2=1
   ·obtain⟨a,G,bm⟩ : ∃a:Nat,(if (t:Int)<60 then (t:Int)else 60)=a/\a<=60:=by
     split
     ·exact⟨t,rfl,by omega⟩
     ·exact⟨60,rfl,by omega⟩
    have H:inR (a:Int)=dn:=Yv ⋯ ⋯;simp[jn,ja,zY,jm,J,O,d,e,f,C,g,r,E,w,Y,l,B,Z,A,Q,X,K,R,I,U];rw[G,RY H];simp only[IL,jY,Nt];rw[jh a λi=>(i:Int)];have u : ∀(m s:Nat) (v:Int) (c:Cell),∃o b,xP (.nm 3) (jj 2<|zG QB (zf 2)<|zG sJ (zu<|D.int 10)<|zu<|D.int 9) ((Ng s m).map λ(i:Nat)=>D.int i) [.val (.lst xs),.val<|.int k,.val<|.int v,c,.no] =
     di (.next [.val (.lst xs),.val<|.int k,.val<|.int o,b,.no]):=by
     intro m
     induction m with
     | zero=>intro s v c;exact⟨v,c,rfl⟩
     | succ m T=>
      intro s v c;rw[OR,Ld,qi];obtain⟨o,b,h⟩:=T (s+1) (v/10 ^ 9)<|.val<|.int s;refine⟨o,b,?_⟩;rw[<- h];simp[I]
    obtain⟨o,b,h⟩:=u a 0 zj .no;rw[<- Oc]at h;rw[h];simp[I];omega
   ·simp[jn,ja,zY,jm,J,O,d,e,f,C,E,w,q4,g,Y,l,A,P,y,p,W,I,U]
    omega
theorem sP(C:List Int)(J:C.length<=63)(k:Int)(z:0<=k)(I:k<100000) : ∃m,jn [QA C,.int k]=di (.val<|.int m)/\0<=m/\m<1000000007:=
 fP (C.map D.int) C.length ⋯ (λi a=>⟨C[i],by simp⟩) J k z I
noncomputable def kx(C:List Int)(k:Int):Int:=match jn [QA C,.int k]with
 | some (.val<|.int m)=>m
 | _=>0
theorem Ka(C:ns.length<=63)(z:0<=k)(I:k<100000):jn [QA ns,.int k]=di (.val<|.int<|kx ns k)/\0<=kx ns k/\kx ns k<1000000007:=by
 obtain⟨m,h,a,b⟩:=sP ns C k z I;have e:kx ns k=m:=by unfold kx;rw[h]
 rw[e];exact⟨h,a,b⟩
noncomputable def zv(bs:List (Int×Int)):List D:=bs.map λb=>D.tup [.int b.1,.int b.2]
@[simp] theorem yJ(bs):(zv bs).length=bs.length:=by simp[zv]
theorem QP : ∀bs,wW (zv bs)=di bs
 | []=>rfl
 | b::bs=>by have z:=QP bs;unfold zv at z;simp[zv,wW,lA,z]
noncomputable def xJ(bs:List (Int×Int)):List (Int×Int):=(j1 bs).map λi=>bs.getD i (0,0)
theorem qO(bs):(xJ bs).Perm bs:=by have:=(jI bs).map λi=>bs.getD i (0,0);rw[jb]at this;exact this
theorem KD{bs:List (Int×Int)}(h:bs.length<64):cg (zv bs)=di (zv<|xJ bs):=by unfold cg;rw[QP];show(if (zv bs).length<64 then di ((j1 bs).map λi=>(zv bs).getD i .el)else d5)=_;rw[yJ,RY h];unfold xJ;congr 1;unfold zv;rw[Li];refine IZ λi a=>?_;have a:i<bs.length:=IC.mp<|(jI bs).mem_iff.mp a;simp[a]
noncomputable def xq(n:Int)(b:Int×Int):Prop:=0<=b.1/\b.1<=b.2/\b.2<n
@[simp] noncomputable def Eb:=@QK.eq_1
section ap
variable(γ:Ctx)
@[simp] noncomputable def Ea:=@uM.eq_1
@[simp] noncomputable def Ef:=@uP.eq_1
@[simp] noncomputable def Eg:=@nA.eq_1
@[simp] noncomputable def GX:=@HB.eq_1
end ap
noncomputable def nX(b:Int×Int)(r:Int):Bool:=decide (b.1<=r) && decide (r<=b.2)
noncomputable def jM(bs:List (Int×Int))(r:Int):List Nat:=(Iz bs.length).filter λi=>nX (bs.getD i (0,0)) r
noncomputable def Yi(l:List Nat):List D:=l.map λ(i:Nat)=>D.int i
@[simp] theorem XM(l):(Yi l).length=l.length:=by simp[Yi]
theorem da(bs r):(jM bs r).length<=bs.length:=by have:=Ni (λi=>nX (bs.getD i (0,0)) r)<|Iz bs.length;simpa[jM]using this
theorem Xg(z:Pr p)(I:h<=100)(C:w<=lim)(f:RK) :
 ∃r B l,wQ [.int p,xk h w f]=di (.own<|z5 r h B)/\h9 p h r B l/\∀v,Span p h (eK r B) v↔Span p h (eK w λj i=>f i j) v:=by
 obtain⟨r,B,l,e,J,O⟩:=xD z I C .T λj i=>f i j;have U:=jv;refine⟨r,B,l,?_,J,O⟩;simp only[q5]at e;have o:=yL f (show h<=lim by omega) C;unfold xk at o ⊢;simp[wQ,ja,zY,o,e]
theorem YB(P:Nat->Ctx->Prop) : ∀(ds C:List D) (k:Nat) (γ:Ctx),P k γ->(∀i d γ,ds[i]? = di d->P (k+i) γ->∃γ',(xQ T d γ).bind F=di (.next γ')/\P (k+i+1) γ')->
 ∃γ',P (k+ds.length) γ'/\xP T F (ds++C) γ=xP T F C γ'
 | [],C,k,γ,h,_=>⟨γ,h,rfl⟩
 | d::ds,C,k,γ,h,step=>by
  obtain⟨a,e,f⟩:=step 0 d γ rfl h;obtain⟨γ',g,z⟩:=YB P ds C (k+1) a (by simpa using f) (λi b I j J=>by have:=step (i+1) b I (by simpa using j) (by rw[show k+(i+1)=k+1+i by omega];exact J);rw[show k+(i+1)+1=k+1+i+1 by omega]at this;exact this)
  refine⟨γ',by rw[show k+(d::ds).length=k+1+ds.length by simp;omega];exact g,?_⟩;rw[PZ,qi];cases eb:xQ T d γ with
  | none=>rw[eb]at e;simp at e
  | some O=>
   rw[eb]at e;simp only[IL]at e ⊢;rw[e];exact z
theorem W0(n:Nat)(v:Vc):k8 (zJ n v)=(Iz n).map λ(i:Nat)=>D.tup [.int i,.int (v i)]:=by unfold k8;rw[X5];refine IZ λi a=>?_;have:=IC.mp a;simp[zJ,this]
theorem yM(S:n<=lim)(v:Vc)(L:a<n)(I : ∀i,i<a->v i=0)(C:v a≠0):qF [.tup (zJ n v)]=di (.val<|.int a):=by
 have d:zU (.tp [0,1]) (sB<|zG i8 (zf 1)<|zu<|.int 0) (zf 0) [Cell.no,Cell.no] ((Iz n).map λ(i:Nat)=>D.tup [.int i,.int (v i)])=di (((Iz n).filter λi=> !decide (v i=0)).map λ(i:Nat)=>D.int i):=by refine jc _ _ _ λi f=>⟨_,rfl,?_,λ_=>rfl⟩;simp
 cases hf:(Iz n).filter λi=> !decide (v i=0)with
 | nil=>exact absurd (by have:=dX hf a L;simpa using this) C
 | cons b kH=>
  obtain⟨U,J,O⟩:=YC hf;have e:b=a:=by
   rcases NU a b with z | z | z
   ·exact absurd (by have:=O a z;simpa using this) C
   ·exact z.symm
   ·exact absurd (I b z) (by simpa using J)
  subst e;rw[hf]at d;simp[qF,ja,zY,W0,S,z6,IE,d]
theorem bh(L:a<n)(v z:Vc)(x:Int)(C:z a=x)(J : ∀i,i<n->i≠a->z i=v i):(zJ n v).set a (.int x)=zJ n z:=by
 apply Mt;intro i;rw[MS];by_cases b:i<n
 ·by_cases e:a=i
  ·subst e;simp[L,zJ,C]
  ·have:=J i b (Ll e)
   simp[e,zJ,b,this]
 ·have I:(zJ n v)[i]? = d5:=by simp[zJ];omega
  have d:(zJ n z)[i]? = d5:=by simp[zJ];omega
  rw[I,d,EQ ⋯]
noncomputable def VX(w:Nat)(B:Nat->Vc)(l:RZ)(r:Nat):Vc:=λj=>zl (λk=>if l k=j then B k w else 0) r
noncomputable def kL:=(zH (jj 6<|zB qF<|zb (zf 5) zD)<|zH (i0 (sB<|zG h7 (zf 6)<|zf 3) (jV<|zu .el) qg)<|Wm 4 (zf 6)<|d8 (zg 5)<|zf 3)
section
variable{p:Int}{h w r:Nat}
theorem WH{l:RZ}(C : ∀k m,k<m->m<r->l k<l m){k m:Nat}(I:k<r)(J:m<r)(e:l k=l m):k=m:=by
 rcases NU k m with z | z | z
 ·have:=C k m z J;omega
 ·exact z
 ·have:=C m k z I;omega
noncomputable def aug(w:Nat)(f:RK)(b:Vc):Nat->Vc:=λi j=>if j<w then f i j else b i
theorem ar(a4:w+1<=lim)(J:h9 p (w+1) r B l)(hs:s<=r)(h1 : ∀k,k<s->l k<w)(Z:List D)(S z I:Cell) :
 ∃C L,xP (.nm 5) kL (z5 s (w+1) B++Z) [S,z,I,.val<|.int w,.own<|zJ w λ_=>0,.no,.no]=xP (.nm 5) kL Z [S,z,I,.val<|.int w,.own<|zJ w<|VX w B l s,C,L]:=by
 obtain⟨A,⟨C,L,rfl⟩,e⟩:=YB (T:= .nm 5) (F:=kL) (λt j=>∃C L,j=[S,z,I,.val<|.int w,.own<|zJ w<|VX w B l t,C,L]) (z5 s (w+1) B) Z 0 [S,z,I,.val<|.int w,.own<|zJ w λ_=>0,.no,.no]
  ⟨.no,.no,by rw[k9 (f:=VX w B l 0) (g:=λ_=>0) λi _=>rfl]⟩ (by
   rintro k d j a ⟨C,L,rfl⟩;rw[MK];have Y:k<s:=by have:=(IP.mp a).1;simpa using this
   have n:d = .tup (zJ (w+1)<|B k):=by simp[Y]at a;exact a.symm
   subst n;have O:k<r:=by omega
   have b:=h1 k Y;have le:=yM a4 (B k) (show l k<w+1 by omega) (λi h=>J.me k i O h) (by rw[J.one k O];decide);refine⟨_,?_,.val<|.tup<|zJ (w+1)<|B k,.val<|.int<|l k,rfl⟩;have U : ¬((l k:Int)=(w:Int)):=by omega
   have o : ¬l k=w:=by omega
   have y:w<w+1:=by omega
   have u:=bh b (VX w B l k) (VX w B l<|k+1) (B k w) (by
    unfold VX;simp only[zl,if_true];rw[zx (g:=λ_=>0) λm x=>by rw[EQ λe=>by have:=J.mono m k x O;omega],zT]
    omega) (λi h U=>by
    unfold VX;simp only[zl];rw[EQ (Ll U)];omega)
   simp[kL,jm,le,U,o,b,y,u])
 rw[mE]at e;refine⟨C,L,?_⟩;rw[e];rw[MK]
theorem tq(w:Nat)(f:RK)(b:Vc)(i:Nat):zJ w (f i)++[.int (b i)]=zJ (w+1) (aug w f b i):=by
 unfold zJ;rw[MD,LV];congr 1
 ·exact IZ λj z=>by simp[aug,IC.mp z]
 ·simp[aug]
theorem JR(Y:Pr p)(S:h<=90)(Z:w<=90)(f:RK)(b:Vc) :
 ∃r B l s,h9 p (w+1) r B l/\(∀v,Span p (w+1) (eK r B) v↔Span p (w+1) (eK h<|aug w f b) v)/\s<=r/\(∀k,k<s->l k<w)/\(∀k,s<=k->k<r->w<=l k)/\
  yZ [.int p,xk h w f,.tup (zJ h b)]=di (.val<|if s<r then .el else .tup (zJ w<|VX w B l s)):=by
 have W:=jv;have O:h<=lim:=by omega
 have m:w<=lim:=by omega
 have J:w+1<=lim:=by omega
 obtain⟨r,B,l,e,I,n⟩:=xD Y (show w+1<=100 by omega) O .L<|aug w f b;obtain⟨s,U,j,g⟩:=Zl w I.mono;refine⟨r,B,l,s,I,n,U,j,g,?_⟩;have a:zU (.tp [0,1]) jt (zG qx (zf 0)<|qB<|zb (zf 1) zD) [Cell.no,Cell.no] ((Iz h).map λi=>D.tup [.tup (zJ w<|f i),.int (b i)])=di (z5 h (w+1)<|aug w f b):=by unfold z5;refine zy _ _ λi E=>zA rfl rfl ?_;simp[qx,J,tq]
 have K:JY (z5 h w f) (zJ h b)=(Iz h).map λi=>D.tup [.tup (zJ w<|f i),.int (b i)]:=by unfold JY z5 zJ;rw[Of];simp
 have o:IE w (D.int 0)=zJ w λ_=>0:=by rw[cL];rfl
 have y:((w+1:Nat):Int)=(w:Int)+1:=by omega
 simp only[q5]at e;rw[y]at e;obtain⟨d,C⟩ : ∃d,r=s+d:=⟨r - s,by omega⟩;have G:z5 r (w+1) B=z5 s (w+1) B++z5 d (w+1) λk=>B (s+k):=by unfold z5;rw[C,OD,LV,Li];rfl
 obtain⟨M,N,F⟩:=ar J I U j (z5 d (w+1) λk=>B<|s+k) (.val<|.int p) (.val<|xk h w f)<|.val<|.tup<|zJ h b;have H:jA (xk h w f)=di (.T,[.int h,.int w,.tup (z5 h w f)]):=rfl;have A:yZ=ja 7 (zH (jj 3<|d8 (zg 1)<|zu<|.int 1)<|zH (xw 4<|pI (jF<|qr<|zb (zu<|.int 0) zD)<|zf 3)<|zH (vt (zL<|zF<|jX<|jr qH<|zb (zf 0)<|zb (zG qx (zf 3)<|zu<|.int 1)<|zb (jX<|zS (Y9 (d8 (zg 1)<|zu<|.int 2)<|zf 2) (.tp [0,1]) 2 [] jt (zG qx (zf 0)<|qB<|zb (zf 1) zD)) zD) (.nm 5) kL)<|jV<|jf<|zg 4):=rfl;rw[A];simp[ja,zY,jm,H,m,K,O,z6,IE,a,e];rw[o,G,F];by_cases z:s<r
 ·
  have t:d=1:=by
   rcases IY 1 d with q | q
   ·have P:=I.mono s (s+1) ⋯ ⋯
    have Q:=g s (IH _) z;have R:=I.lt (s+1) ⋯;omega
   ·omega
  subst t;have u:l s=w:=by have:=g s (IH _) z;have:=I.lt s z;omega
  have le:=yM J (B s) (show w<w+1 by omega) (λi E=>I.me s i z ⋯) (by have:=I.one s z;rw[u]at this;rw[this];decide);have one:z5 1 (w+1) (λk=>B<|s+k)=[.tup (zJ (w+1)<|B s)]:=rfl;rw[one,qi];simp[kL,jm,le,z]
 ·have x:d=0:=by omega
  subst x;have zero:z5 0 (w+1) (λk=>B<|s+k)=[]:=rfl;rw[zero];simp[xP,z]
end
section
variable{p p':Int}{m m':Nat}{w w':RX}{wd wd':RZ}{T T':RV}
theorem JI(C:m<=900):vf [qv p m w wd T,qv p m w wd' T']=d5/\qk [qv p m w wd T,qv p m w wd' T']=di (.val .el):=by
 have z:=Kh (p:=p) (p':=p) (w:=w) (w':=w) (wd:=wd) (wd':=wd') (T:=T) (T':=T') C C;rw[decide_eq_true ⟨rfl,rfl,λ_ _=>rfl⟩]at z;constructor
 ·simp[vf,Gw,zY,Hk,G4,uf,G5,z,IE]
 ·simp[qk,ja,zY,z,IE]
end
@[simp] noncomputable def Em:=@uS.eq_1
section
variable{p:Int}{m:Nat}{w:RX}{wd:RZ}{T:RV}{a:Nat}
theorem Ku(F:Nat->Int)(s:Nat) : ∀d,zl F (s+d)=zl F s+zl (λk=>F<|s+k) d
 | 0=>by simp[zl]
 | d+1=>by rw[<- OQ];simp only[zl];rw[Ku F s d];omega
abbrev lk(p:Int)(m:Nat)(w:RX)(wd:RZ)(T:RV)(i j:Int)(a:Nat)(ds:List D)(c:Cell):Ctx:=[.val (qv p m w wd T),.val (.int i),.val (.int j),.val (xk a a λi j=>if i=j then 1 else 0),.own ds,c]
end
@[simp] noncomputable def BZ:=@cG.eq_1
section
variable{p:Int}{m:Nat}{w:RX}{wd:RZ}{T:RV}
theorem yz:jA (qv p m w wd T)=di (.T,[.int p,.tup<|zJ (m+1) λk=>(wd k:Int),.tup (kM m w wd T)]):=rfl
end
@[simp] theorem Ca(γ:Ctx)(f):uP f γ=(f γ).bind λd=>match d with
 | .str z=>if jW z=dn then di (k8<|cu z)else d5
 | _=>d5:=rfl
@[simp] theorem El(γ:Ctx)(f g):EL f g γ=(f γ).bind λd=>(g γ).bind λe=>match d,e with
 | .str x,.str y=>if jW x=dn/\jW y=dn then di (.str<|x++y)else d5
 | _,_=>d5:=rfl
noncomputable def pr(a b:Nat):D:= .tup [.int a,.int b]
@[simp] theorem GA(a b):jA (pr a b)=di (.T,[.int (a:Int),.int (b:Int)]):=rfl
theorem XQ(a c:Nat):(if a<c then (c:Int)else (a:Int))=((max a c:Nat):Int):=by
 by_cases h:c>a
 ·rw[RY h,Nat.max_eq_right ⋯]
 ·rw[EQ h,Nat.max_eq_left ⋯]
theorem XO(a c:Nat):(if c<a then (c:Int)else (a:Int))=((min a c:Nat):Int):=by
 by_cases h:c<a
 ·rw[RY h,Nat.min_eq_right ⋯]
 ·rw[EQ h,Pc ⋯]
noncomputable def rr(w:RX)(a c:Nat):Bool:=decide (a=c) || (w (max a c - 1)==decide (a<c))
noncomputable def r0(w:RX)(b d:Nat):Bool:=decide (b=d) || (w (min b d)==decide (b<d))
section
variable{m a b c d:Nat}{w:RX}
theorem gD(J:m<=5)(C:a<=m)(I:c<=m):xC [.str (jJ m w),pr a b,pr c d]=di (.val<|.bl<|rr w a c):=by
 by_cases q:a=c
 ·subst q
  simp[xC,ja,zY,jm,rr]
 ·have z : ¬((a:Int)=(c:Int)):=by omega
  have e:kE (zf 0) (zG JE (KH (d8 (zg 1)<|zu<|.int 0)<|d8 (zg 2)<|zu<|.int 0)<|zu<|.int 1) [Cell.val (.str<|jJ m w),Cell.val<|pr a b,Cell.val (pr c d)]=di (.str<|yR<|i9<|w<|max a c - 1):=by refine vz w ⋯ ⋯ _ _ _ rfl ?_;simp[XQ];omega
  simp only[xC,ja,zY,jm,IE,Mg,MR];simp[-wa,z,e];by_cases l:a<c
  ·have f:(a:Int)<c:=by omega
   simp[l,oh,rr,q]
  ·simp[l,VI,rr,q]
theorem bA(J:m<=5)(C:b<=m)(I:d<=m):qY [.str (jJ m w),pr a b,pr c d]=di (.val<|.bl<|r0 w b d):=by
 by_cases q:b=d
 ·subst q
  simp[qY,ja,zY,jm,r0]
 ·have z : ¬((b:Int)=(d:Int)):=by omega
  have f:kE (zf 0) (Xv (d8 (zg 1)<|zu<|.int 1)<|d8 (zg 2)<|zu<|.int 1) [Cell.val (.str<|jJ m w),Cell.val<|pr a b,Cell.val (pr c d)]=di (.str<|yR<|i9<|w<|min b d):=by refine vz w ⋯ ⋯ _ _ _ rfl ?_;simp[XO]
  simp only[qY,ja,zY,jm,IE,Mg,MR];simp[-wa,z,f];by_cases l:d<b
  ·have e : ¬b<d:=by omega
   simp[l,e,VI,r0,q]
  ·have e:b<d:=by omega
   simp[l,e,oh,r0,q]
noncomputable def r9(w:RX)(a b c d:Nat):Bool:=decide (max a c<=min b d) && (rr w a c && r0 w b d)
theorem Kl(C:m<=5)(L:a<=m)(I:b<=m)(J:c<=m)(S:d<=m):xS [.str (jJ m w),pr a b,pr c d]=di (.val<|.int<|if r9 w a b c d=dn then 1 else 0):=by
 have e:=gD (b:=b) (d:=d) (w:=w) C L J;have O:=bA (a:=a) (c:=c) (w:=w) C I S;simp only[xS,ja,zY,jm,IE,Mg,MR];by_cases q:max a c<=min b d
 ·have z : ¬((min b d:Nat):Int)<((max a c:Nat):Int):=by omega
  simp[XQ,XO,z,e,r9,q];cases h1:rr w a c
  ·simp[h1]
  ·simp[h1,O]
   cases h2:r0 w b d<;>simp[h2]
 ·have z:((min b d:Nat):Int)<((max a c:Nat):Int):=by omega
  simp[XQ,XO,z,r9,q]
theorem yh(C:m<=5){k:Nat}(z:k<m):jO [.str (jJ m w),.int k]=di (.val<|.tup [.int ((zR w k:Nat):Int),.int ((zZ w k:Nat):Int)]):=by have a:kE (zf 0) (zf 1) [Cell.val (.str<|jJ m w),Cell.val (.int k)]=di (.str<|yR<|i9<|w k):=vz w ⋯ z _ _ _ rfl rfl;simp only[jO,ja,zY,jm,IE,Mg,MR];simp[-wa,a,VI];cases h:w k<;>simp[h,zR,zZ]
end
noncomputable def mk(lo:Nat)(ch:List Int)(r:Nat):Int:=if lo<=r then ch.getD (r - lo) 0 else 0
theorem ZJ{C:List Int}(L:C.length<=63){r n:Nat}{t:Int}(ht:0<=t)(Z:t<1000)(S:0<r)(ac:r<=6)(ak:n<=60) : ∃bs,qt [QA C,.int t,.int n,.int r]=di (.own<|zv bs)/\(∀b∈bs,xq r b)/\bs.length=n:=by
 have H:=jv;have l:n<=lim:=by omega
 have g : ∀(k s:Nat) (acc:List (Int×Int)) (a d f:Cell),s+k=n->acc.length=s->(∀b∈acc,xq r b)->∃bs I J O,
  xP (.nm 5) (zH (jj 6<|zB jn<|zb (zf 0)<|zb (zG qx (zf 1)<|zf 5) zD)<|zH (jj 7<|zG ky (zf 6)<|zf 3)<|ql 4<|qB<|zb (zf 7)<|zb (zG qx (zf 7)<|zG ky (zG QB (zf 6)<|zf 3)<|zG JE (zf 3)<|zf 7) zD) ((Ng s k).map λ(i:Nat)=>D.int i)
   [.val (QA C),.val<|.int t,.val<|.int n,.val<|.int r,.own<|zv acc,a,d,f]=di (.next [.val (QA C),.val<|.int t,.val<|.int n,.val<|.int r,.own<|zv bs,I,J,O])/\(∀b∈bs,xq r b)/\bs.length=n:=by
  intro k
  induction k with
  | zero=>intro s acc a d f x j U;exact⟨acc,a,d,f,rfl,U,by omega⟩
  | succ k y=>
   intro s acc a d f x j U;obtain⟨w,F,G⟩:=Ka L (k:=t+(s:Int)) ⋯ ⋯;have m:=Lp (kx C<|t+(s:Int)) (show(r:Int)≠0 by omega);have o:=La (kx C<|t+(s:Int)) (show(0:Int)<r by omega);have as:=Lp (kx C (t+(s:Int))/r) (show(r:Int) - kx C (t+(s:Int))%r≠0 by omega);have E:=La (kx C (t+(s:Int))/r) (show(0:Int)<(r:Int) - kx C (t+(s:Int))%r by omega);obtain⟨bs,I,J,O,h,Y,g2⟩:=y (s+1) (acc++[(kx C (t+(s:Int))%r,kx C (t+(s:Int))%r+kx C (t+(s:Int))/r%((r:Int) - kx C (t+(s:Int))%r))]) (.val<|.int s) (.val<|.int<|kx C<|t+(s:Int)) (.val<|.int<|kx C (t+(s:Int))%r) ⋯ (by simp[j]) (λb z=>by
    rcases ME.mp z with z | z
    ·exact U b z
    ·have e:b=_:=Mk.mp z
     subst e;exact⟨m,by show _<=_+_;omega,by show _+_<_;omega⟩)
   refine⟨bs,I,J,O,?_,Y,g2⟩;rw[<- h,OR,Ld,qi];have p:acc.length<lim:=by omega
   have B:(0:Int)<r:=by omega
   have K:(0:Int)<(r:Int) - kx C (t+(s:Int))%r:=by omega
   have A:(r:Int)<1073741824:=by omega
   simp[jm,w,B,S,o,p,A];simp[zv]
 obtain⟨bs,I,J,O,h,Y,g2⟩:=g n 0 [] .no .no .no ⋯ rfl ⋯;refine⟨xJ bs,?_,λb z=>Y b<|(qO bs).mem_iff.mp z,by rw[(qO bs).length_eq,g2]⟩;rw[<- Oc]at h;simp[qt,ja,zY,jm,l,jY,IE];rw[jh n λi=>(i:Int)];have u:(zv []:List D)=[]:=rfl;rw[u]at h;rw[h];simp[KD (show bs.length<64 by omega)]
theorem uj{c:Int}(Y:0<=c){m:Nat}(C:m<=5) : ∃w,xt [.int c,.int (1+(m:Int))]=di (.val<|.str<|jJ m w):=by
 have d:=jv;have z:m<=lim:=by omega
 refine⟨λk=>decide (c/2 ^ k%2=1),?_⟩;have a:zU (.nm 0) jt (kE (zu (.str "rl")) (zG ky (zG QB (zf 1) (d8 (jF (qr (zb (zu (.int 1)) (zb (zu (.int 2)) (zb (zu (.int 4)) (zb (zu (.int 8)) (zb (zu (.int 16)) zD))))))) (zf 0))) (zu (.int 2)))) [Cell.no,Cell.val (.int c)] ((Iz m).map λi:Nat=>D.int (i:Int)) =
  di ((Iz m).map λ(k:Nat)=>D.str<|yR<|i9<|decide<|c/2 ^ k%2=1):=by
  refine zy _ _ λk I=>zA rfl rfl ?_;have I:=IC.mp I;have J:zG ky (zG QB (zf 1)<|d8 (jF<|qr<|zb (zu<|.int 1)<|zb (zu<|.int 2)<|zb (zu<|.int 4)<|zb (zu<|.int 8)<|zb (zu<|.int 16) zD)<|zf 0) (zu<|.int 2) [Cell.val (.int k),Cell.val (.int c)]=di (.int<|c/2 ^ k%2):=by
   have O:k=0\/k=1\/k=2\/k=3\/k=4:=by omega
   rcases O with rfl | rfl | rfl | rfl | rfl<;>simp[jA,g9]
  show kE _ _ [Cell.val (.int k),Cell.val (.int c)]=_;rw[wa,J];have q:c/2 ^ k%2=0\/c/2 ^ k%2=1:=by omega
  rcases q with q | q
  ·rw[q];rfl
  ·rw[q];rfl
 have all1:((Iz m).map λ(k:Nat)=>yR<|i9<|decide<|c/2 ^ k%2=1).all jW=dn:=by
  rw[List.all_map];exact MJ.mpr λk _=>by show jW (yR _)=dn;rfl
 have U:jW ("" : Str)=dn:=rfl;have b:(1:Int)+(m:Int) - 1=(m:Int):=by omega
 simp[xt,ja,zY,jm,b,z,jY,z6,kf,IE];rw[jh m λi=>(i:Int)];rw[a];simp only[MO,IL,Function.comp];rw[Xq];simp only[IL];rw[RY ⟨by simpa using z,MJ.mp all1,U⟩];rfl
noncomputable def qR(h w:Nat)(f:RK):List D:=(Iz h).map λi=>D.lst<|zJ w<|f i
@[simp] theorem XR(h w f):(qR h w f).length=h:=by simp[qR]
theorem JJ(ds:List D):jA (.lst ds)=di (.L,ds):=rfl
theorem yQ(s:Nat)(f:Nat->α):(Iz<|s+1).map f=(Iz s).map f++[f s]:=by rw[MD,LV];rfl
theorem Jt(w:RX)(wd:RZ)(k:Nat):wd (zZ w k)=iS w wd k:=by unfold zZ iS;split<;>rfl
theorem Xj(w:RX)(wd:RZ)(k:Nat):wd (zR w k)=iW w wd k:=by unfold zR iW;split<;>rfl
theorem VL{w:RX}{k m:Nat}(h:k<m):zZ w k<m+1:=by unfold zZ;split<;>omega
theorem VS{w:RX}{k m:Nat}(h:k<m):zR w k<m+1:=by unfold zR;split<;>omega
noncomputable def qz(m:Nat)(w:RX)(wd:RZ)(T:RV):List D:=(Iz m).map λk=>D.lst<|qR (iS w wd k) (iW w wd k)<|T k
noncomputable def xW(m:Nat)(w:RX)(wd:RZ)(T:RV):D:= .tup [.lst (zJ (m+1) λk=>(wd k:Int)),.lst (qz m w wd T)]
theorem ur(h w:Nat)(z:h<=lim)(f:RK)(γ:Ctx):zU (.nm 0) jt (jf<|zg 0) [Cell.no] (qR h w f)=di (z5 h w f):=by unfold qR z5;exact zy _ _ λk I=>zA rfl rfl rfl
theorem ui{m k:Nat}(h:k<m+1)(wd:RZ):(zJ (m+1) λk=>(wd k:Int))[k]? = di (.int (wd k:Int)):=by unfold zJ;simp[h]
theorem uh(m:Nat)(wd:RZ):(zJ (m+1) λk=>(wd k:Int)).length=m+1:=by simp[zJ]
theorem hJ(m w wd T):(qz m w wd T).length=m:=by simp[qz]
theorem pb{m k:Nat}(h:k<m)(w wd T):(qz m w wd T)[k]? = di (.lst<|qR (iS w wd k) (iW w wd k)<|T k):=by unfold qz;simp[h]
theorem gd(s w wd T):kM (s+1) w wd T=kM s w wd T++[wj w wd T s]:=yQ _ _
noncomputable def Fn:=(zH (ZQ (.tp [7,8])<|zB jO<|zb (zf 1)<|zb (zf 6) zD)<|zH (jj 9<|jf<|jF<|zS (zL<|zF<|d8 (zg 4)<|zf 6) (.nm 0) 1 [] jt (jf<|zg 0))<|ql 5<|qB<|zb (kE (zf 1)<|zf 6)<|zb (qB<|zb (d8 (zg 3)<|zf 8)<|zb (d8 (zg 3)<|zf 7)<|zb (zf 9) zD) zD)
theorem WV{p:Int}{m:Nat}(L:m<=4)(w:RX){wd:RZ}(C : ∀k,wd k<=9)(T:RV) :
 q8 [.int p,.str<|jJ m w,xW m w wd T]=di (.val<|qv p m w wd T):=by
 have H:=jv;have j : ∀k,iS w wd k<=10:=λk=>by rw[<- Jt];have:=C<|zZ w k;omega
 have wl:=vw m w;have l:=kz w (show m<=1000 by omega);have u:(ZQ (.tp [3,4])<|zf 2) (zY 10 [.int p,.str<|jJ m w,xW m w wd T])=di (.next [.val (.int p),.val<|.str<|jJ m w,.val<|xW m w wd T,.val<|.lst<|zJ (m+1) λk=>(wd k:Int),.val<|.lst<|qz m w wd T,.no,.no,.no,.no,.no]):=rfl;have x:(xw 5<|qr zD) [.val (.int p),.val<|.str<|jJ m w,.val<|xW m w wd T,.val<|.lst<|zJ (m+1) λk=>(wd k:Int),.val<|.lst<|qz m w wd T,.no,.no,.no,.no,.no]=di (.next [.val (.int p),.val<|.str<|jJ m w,.val<|xW m w wd T,.val<|.lst<|zJ (m+1) λk=>(wd k:Int),.val<|.lst<|qz m w wd T,.own [],.no,.no,.no,.no]):=rfl;obtain⟨G,y,⟨d,a,b,z,rfl⟩⟩:=xj (T:= .nm 6) (F:=Fn) (f:=yx<|zf 1) (γ:=[.val (.int p),.val<|.str<|jJ m w,.val<|xW m w wd T,.val<|.lst<|zJ (m+1) λk=>(wd k:Int),.val<|.lst<|qz m w wd T,.own [],.no,.no,.no,.no])
  (λs γ=>∃d a b z,γ=[.val (.int p),.val<|.str<|jJ m w,.val<|xW m w wd T,.val<|.lst<|zJ (m+1) λk=>(wd k:Int),.val<|.lst<|qz m w wd T,.own<|kM s w wd T,d,a,b,z]) m ⋯ (by simp[wl,l]) ⟨_,_,_,_,rfl⟩ (by
    rintro s I γ ⟨d,a,b,z,rfl⟩;refine⟨_,[.val (.int p),.val<|.str<|jJ m w,.val<|xW m w wd T,.val<|.lst<|zJ (m+1) λk=>(wd k:Int),.val<|.lst<|qz m w wd T,.own<|kM (s+1) w wd T,.val<|.int (s:Int),.val<|.int ((zR w s:Nat):Int),.val<|.int ((zZ w s:Nat):Int),.val (.tup<|z5 (iS w wd s) (iW w wd s)<|T s)],rfl,?_,⟨_,_,_,_,rfl⟩⟩;have r:=yh (w:=w) (show m<=5 by omega) I;have O:=VL (w:=w) I;have g:=VS (w:=w) I;have o:s<lim:=by omega
    have J:3<=lim:=by omega
    have n:2<=lim:=by omega
    have U:iS w wd s<=lim:=by have:=j s;omega
    have t:(qR (iS w wd s) (iW w wd s)<|T s).length<=lim:=by rw[XR];exact U
    have tp:=ur (iS w wd s) (iW w wd s) U (T s) [];have Y:=ui O wd;have e:=ui g wd;rw[Jt w wd]at Y;rw[Xj w wd]at e;have E:=pb I w wd T;have h:(ZQ (.tp [7,8])<|zB jO<|zb (zf 1)<|zb (zf 6) zD) [.val (.int p),.val<|.str<|jJ m w,.val<|xW m w wd T,.val<|.lst<|zJ (m+1) λk=>(wd k:Int),.val<|.lst<|qz m w wd T,.own<|kM s w wd T,.val<|.int (s:Int),a,b,z]=di (.next [.val (.int p),.val<|.str<|jJ m w,.val<|xW m w wd T,.val<|.lst<|zJ (m+1) λk=>(wd k:Int),.val<|.lst<|qz m w wd T,.own<|kM s w wd T,.val<|.int (s:Int),.val<|.int ((zR w s:Nat):Int),.val<|.int ((zZ w s:Nat):Int),z]):=by simp[r]
    refine zm h ?_;have i:(jj 9<|jf<|jF<|zS (zL<|zF<|d8 (zg 4)<|zf 6) (.nm 0) 1 [] jt (jf<|zg 0)) [.val (.int p),.val<|.str<|jJ m w,.val<|xW m w wd T,.val<|.lst<|zJ (m+1) λk=>(wd k:Int),.val<|.lst<|qz m w wd T,.own<|kM s w wd T,.val<|.int (s:Int),.val<|.int ((zR w s:Nat):Int),.val<|.int ((zZ w s:Nat):Int),z]=di (.next [.val (.int p),.val<|.str<|jJ m w,.val<|xW m w wd T,.val<|.lst<|zJ (m+1) λk=>(wd k:Int),.val<|.lst<|qz m w wd T,.own<|kM s w wd T,.val<|.int (s:Int),.val<|.int ((zR w s:Nat):Int),.val<|.int ((zZ w s:Nat):Int),.val (.tup<|z5 (iS w wd s) (iW w wd s)<|T s)]):=by simp only[Xd,bw,yc,qA,Ke,W9,QC,Kd,ou,NJ,OO,JG,vo,IL,MO,JJ,JK,hJ,qm,I,if_true,E,t,z6,IE,OW,Nj,tp,Oy,Ox]
    refine zm i ?_;have B:=vz w (show m<=1000 by omega) I [.val (.int p),.val<|.str<|jJ m w,.val<|xW m w wd T,.val<|.lst<|zJ (m+1) λk=>(wd k:Int),.val<|.lst<|qz m w wd T,.own<|kM s w wd T,.val<|.int (s:Int),.val<|.int ((zR w s:Nat):Int),.val<|.int ((zZ w s:Nat):Int),.val (.tup<|z5 (iS w wd s) (iW w wd s)<|T s)] (zf 1) (zf 6) rfl rfl;rw[gd,kO,YU,jG,B];simp only[YU,jG,aa,ou,QC,Kd,NJ,OO,Mg,MR,MK,Nat.reduceAdd,JG,vo,qJ,IL,MO,JJ,JK,uh,qm,O,g,Y,e,if_true,J,n,YT,o,Oy,Ox];rfl)
 have A:(jV<|qB<|zb (zf 0)<|zb (jf<|zg 3)<|zb (jf<|zg 5) zD) [.val (.int p),.val<|.str<|jJ m w,.val<|xW m w wd T,.val<|.lst<|zJ (m+1) λk=>(wd k:Int),.val<|.lst<|qz m w wd T,.own<|kM m w wd T,d,a,b,z]=di (.ret<|.val<|qv p m w wd T):=by
  have J:3<=lim:=by omega
  simp[JJ,J,qv]
 exact z7<|zm u<|zm x<|zm y A
noncomputable def wl(l:List Bool):Str:=⟨⟨l.map i9⟩⟩
noncomputable def Fe(n k:Nat)(u:Nat->Int):Int:=if 0<k then (if k+1<n then u (k - 1)+(u (k+1)+0)else u (k - 1)+0)else if k+1<n then u (k+1)+0 else 0
noncomputable def mv(n k:Nat)(u:Nat->Int)(i:Nat):Int:=if i=k then Fe n k u - u k else u i
theorem tJ(h : ∀k,k<r->l k≠j):VX w B l r j=0:=by unfold VX;rw[zx (g:=λ_=>0) λk z=>EQ<|h k z,zT]
theorem Cd{p:Int}{w n r:Nat}{B:Nat->Vc}{l:RZ}(I:h9 p n r B l){k:Nat}(z:k<r):VX w B l r (l k)=B k w:=by unfold VX;rw[zQ z λm a J=>EQ λe=>J<|WH I.mono a z e,RY rfl]
theorem ie{p:Int}{h w:Nat}{f:RK}{b y:Vc}(O : ∀i,i<h->zl (λj=>f i j*y j) w%p=b i%p){v:Vc}(U:Span p (w+1) (eK h<|aug w f b) v):(v w - zl (λj=>v j*y j) w)%p=0:=by
 induction U with
 | @zero v I=>
  have e:zl (λj=>v j*y j) w%p=zl (λ_=>0) w%p:=zN λj J=>by rw[IJ,I j ⋯];simp
  rw[Mx,e,I w ⋯,zT];simp
 | @step v z g c Y r a o=>
  obtain⟨i,n,rfl⟩:=Y;have d:zl (λj=>v j*y j) w%p=(zl (λj=>z j*y j) w+c*zl (λj=>f i j*y j) w)%p:=by
   rw[<- ju,<- jy];refine zN λj J=>?_;rw[IJ,a j ⋯,<- IJ];have:aug w f b i j=f i j:=by simp[aug,J]
   rw[this,OU,Mh]
  have k:v w%p=(z w+c*b i)%p:=by
   rw[a w ⋯];have:aug w f b i w=b i:=by simp[aug]
   rw[this]
  have l:(c*zl (λj=>f i j*y j) w)%p=(c*b i)%p:=by rw[IJ,O i n,<- IJ]
  rw[Mx,d,k,<- Mx];have m:(z w+c*b i - (zl (λj=>z j*y j) w+c*zl (λj=>f i j*y j) w))=(z w - zl (λj=>z j*y j) w)+(c*b i - c*zl (λj=>f i j*y j) w):=by omega
  rw[m,LA,o,Mx,l];simp
theorem ig(U:Pr p)(L:h<=90)(S:w<=90)(f:RK)(b y:Vc)(O : ∀i,i<h->0<=b i/\b i<p)(Z : ∀i,i<h->zl (λj=>f i j*y j) w%p=b i) :
 ∃x:Vc,yZ [.int p,xk h w f,.tup (zJ h b)]=di (.val<|.tup<|zJ w x)/\(∀j,0<=x j/\x j<p)/\∀i,i<h->zl (λj=>f i j*x j) w%p=b i:=by
 have K:=U.pos;obtain⟨r,B,l,s,J,Y,R,o,M,d⟩:=JR U L S f b;have t : ¬s<r:=λz=>by
  have P:=J.lt s z;have Q:=M s (IH _) z;have E:l s=w:=by omega
  have N:=(Y<|B s).mp (.gen ⟨s,z,rfl⟩);have q:=ie (y:=y) (λi a=>by rw[Z i a,LX (O i a).1 (O i a).2]) N;have n:=J.one s z;rw[E]at n;have G:zl (λj=>B s j*y j) w=0:=by rw[zx (g:=λ_=>0) λj H=>by rw[J.me s j z ⋯];simp];exact zT _
  rw[n,G,Int.sub_zero,U.one]at q;omega
 rw[EQ t]at d;have F:s=r:=by omega
 subst F;refine⟨_,d,λj=>?_,λi a=>?_⟩
 ·by_cases e : ∃k,k<s/\l k=j
  ·obtain⟨k,I,rfl⟩:=e
   rw[Cd J I];exact J.l5 k w I ⋯
  ·rw[tJ λk I C=>e ⟨k,I,C⟩];exact⟨Int.le_refl _,K⟩
 ·have m:=Zh J ((Y<|aug w f b i).mpr (.gen ⟨i,a,rfl⟩)) w ⋯
  have u:aug w f b i w=b i:=by simp[aug]
  rw[u,LX (O i a).1 (O i a).2]at m;rw[m];congr 1;unfold VX;rw[zx (g:=λj=>zl (λk=>f i j*(if l k=j then B k w else 0)) s) λj _=>(ju _ _ _).symm,qL];refine zx λk I=>?_;rw[zQ (i:=l k) (o k I) λj H A=>by rw[EQ (Ll A)];simp,RY rfl];simp only[aug,RY (o k I)]
noncomputable def kj(wd:RZ)(b:fA):List D:=(Iz b.n).map λi=>D.tup<|zJ (wd<|b.s+i)<|b.v<|b.s+i
noncomputable def qf(wd:RZ)(b:fA):D:= .tup [.int b.s,.tup (kj wd b)]
@[simp] theorem aS(wd b):(kj wd b).length=b.n:=by simp[kj]
theorem WK(h:i<b.n):(kj wd b)[i]? = di (.tup<|zJ (wd<|b.s+i)<|b.v<|b.s+i):=by simp[kj,h]
@[simp] theorem FH(wd b):jA (qf wd b)=di (.T,[.int b.s,.tup (kj wd b)]):=rfl
section
variable{wd:RZ}{b:fA}{mu:List fA}
theorem QH(C:1<=b.n)(I:b.s+b.n<=100):jT [qf wd b]=di (.val<|.tup [.int b.s,.int ((b.s+b.n - 1:Nat):Int)]):=by
 have e:((b.s:Int)+(b.n:Int) - 1)=((b.s+b.n - 1:Nat):Int):=by omega
 simp[jT,ja,zY,qf,IE];omega
theorem k7(C:b.s+b.n<=100)(r:Nat):jP [qf wd b,.int r]=di (.val<|.bl<|b.has r):=by
 by_cases h:b.s<=r
 ·by_cases a:r<b.s+b.n
  ·have:(r:Int)<(b.s:Int)+b.n:=by omega
   simp[jP,ja,zY,qf,IE,fA.has,h,a,this]
  ·have : ¬((r:Int)<(b.s:Int)+b.n):=by omega
   simp[jP,ja,zY,qf,IE,fA.has,h,a,this]
 ·simp[jP,ja,zY,qf,IE,fA.has,h]
theorem vk{N:Nat}{A:Nat->fA}(z : ∀j,j<N->(A j).s+(A j).n<=100)(I:N<=lim)(r:Nat) :
 qP [.lst ((Iz N).map λj=>qf wd<|A j),.int r]=di (.own<|((Iz N).filter λj=>(A j).has r).map λj=>D.tup<|zJ (wd r)<|(A j).v r):=by
 simp only[qP,ja,zY,gi,qA,Ke,Kd,Ld,OW,Mg,MR,IE,Nj,PZ,Oi,NJ,vp,jA,MO,IL,IU,Lw,I,if_true];rw[jc (λj=>(A j).has r) (λj=>D.tup<|zJ (wd r)<|(A j).v r) (Iz N) λj J=>⟨_,rfl,?_,λU=>?_⟩]
 ·rfl
 ·have e:=k7 (wd:=wd) (z j<|IC.mp J) r
  simp[z6,e]
 ·obtain⟨b,f⟩:=ji.mp U
  obtain⟨i,rfl⟩:=Nat.exists_eq_add_of_le b;have a:i<(A j).n:=by omega
  have d:(((A j).s+i:Nat):Int) - ((A j).s:Int)=(i:Int):=by omega
  have O:=WK (wd:=wd) a;have I:=jv;have Y:=z j<|IC.mp J;simp[z6,qf,a,O];rw[show((A j).s:Int)+(i:Int) - ((A j).s:Int)=(i:Int)by omega,qm,RY a];exact O
theorem wN(g:Nat->Vc)(z:q<=lim)(I:h<=lim):ka [.int h,.lst (z5 q h g)]=di (.val<|xk h q λi j=>g j i):=by have e:=yL (h:=q) (w:=h) g z I;unfold xk at e;simp[ka,ja,zY,IE,z,e];rfl
theorem WJ(h:Nat)(u:Nat->Vc)(L:List Nat):(L.map λj=>D.tup<|zJ h<|u j)=z5 L.length h λi=>u (L.getD i 0):=by
 unfold z5
 conv=>lhs;rw[<- jb 0 L]
 rw[Li];rfl
theorem lV(u:Nat->Int)(L:List Nat):(L.map λj=>D.int<|u j)=zJ L.length λi=>u (L.getD i 0):=by
 unfold zJ
 conv=>lhs;rw[<- jb 0 L]
 rw[Li];rfl
theorem yP(P:RX)(g:Nat->Int) : ∀N,zl (λi=>g<|((Iz N).filter P).getD i 0) ((Iz N).filter P).length=zl (λj=>if P j=dn then g j else 0) N
 | 0=>rfl
 | N+1=>by
  have z:=yP P g N;rw[MD,OA];show _=zl _ N+_;rw[<- z];cases hP:P N with
  | false=>simp[hP]
  | true=>
   have e:([N].filter P)=[N]:=by simp[hP]
   rw[e,LJ,Nh];show zl _ _+_=_;simp only[if_true];congr 1
   ·refine zx λi a=>?_
    simp[IF,LK a]
   ·simp[IF,hP]
end
section
variable{wd:RZ}{N m:Nat}{A:Nat->fA}{p:Int}{w:RX}{T:RV}{t:Vc}
theorem gM:JY (zJ N t) ((Iz N).map λj=>qf wd<|A j)=(Iz N).map λj=>D.tup [.int (t j),qf wd (A j)]:=by
 unfold JY zJ;rw[List.zip_map,Li];have e:(Iz N).zip (Iz N)=(Iz N).map λi=>(i,i):=by rw[List.zip_eq_zipWith,List.zipWith_self]
 rw[e,Li];rfl
theorem XN(O:Pr p)(U : ∀j,j<N->(A j).s+(A j).n<=100)(S:N<=60)(Z:m<=5)(Y : ∀k,wd k<=60)(hr:r<=m)(C : ∀j i,j<N->(A j).has r=dn->i<wd r->0<=(A j).v r i/\(A j).v r i<p) :
 ko [qv p m w wd T,.lst<|(Iz N).map λj=>qf wd<|A j,.tup<|zJ N t,.int r]=di (.val<|.tup<|zJ (wd r)<|oe p A N t r):=by
 have E:=jv;have G:=O.le;have B:=Y r;have a:=vk (wd:=wd) U (show N<=lim by omega) r;rw[WJ (wd r) (λj=>(A j).v r)]at a;have F:((Iz N).filter λj=>(A j).has r).length<=N:=by have:=Ni (λj=>(A j).has r)<|Iz N;simpa using this
 have g:=wN (q:=((Iz N).filter λj=>(A j).has r).length) (h:=wd r) (λi=>(A<|((Iz N).filter λj=>(A j).has r).getD i 0).v r) ⋯ ⋯;have I:=Kk (p:=p) (h:=wd r) (w:=((Iz N).filter λj=>(A j).has r).length) .L (λi j=>(A<|((Iz N).filter λj=>(A j).has r).getD j 0).v r i) (λi=>t<|((Iz N).filter λj=>(A j).has r).getD i 0) O.pos ⋯ ⋯ (λi j y J=>by
  have b:((Iz N).filter λj=>(A j).has r).getD j 0∈(Iz N).filter λj=>(A j).has r:=by rw[IF,ID J];exact MW _
  obtain⟨u,x⟩:=Lb.mp b;have:=C _ i (IC.mp u) (by simpa using x) y;omega)
 have l:(zJ (wd r) λi=>zl (λj=>(A<|((Iz N).filter λj=>(A j).has r).getD j 0).v r i*t (((Iz N).filter λj=>(A j).has r).getD j 0)) ((Iz N).filter λj=>(A j).has r).length%p)=zJ (wd r) (oe p A N t r):=k9 λi _=>by unfold oe;rw[yP (λj=>(A j).has r) (λj=>(A j).v r i*t j) N];congr 1;refine zx λj _=>?_;rw[LS]
 rw[l]at I;have o:zU (.tp [0,1]) (sB<|zB jP<|zb (zf 1)<|zb (zf 2) zD) (zf 0) [.no,.no,.val (.int r)] ((Iz N).map λj=>D.tup [.int (t j),qf wd (A j)])=di (zJ ((Iz N).filter λj=>(A j).has r).length λi=>t<|((Iz N).filter λj=>(A j).has r).getD i 0):=by rw[<- lV];refine jc (λj=>(A j).has r) (λj=>D.int<|t j) _ λj J=>⟨_,rfl,?_,λ_=>rfl⟩;have e:=k7 (wd:=wd) (U j<|IC.mp J) r;simp[e]
 have d:r<m+1:=by omega
 have z:=gM (N:=N) (wd:=wd) (t:=t) (A:=A);simp only[q5]at I;have f:N<=lim:=by omega
 refine z7<|zm (γ':=[.val (qv p m w wd T),.val<|.lst<|(Iz N).map λj=>qf wd<|A j,.val<|.tup<|zJ N t,.val<|.int r,.val (.lst<|zJ ((Iz N).filter λj=>(A j).has r).length λi=>t<|((Iz N).filter λj=>(A j).has r).getD i 0)]) ?_ ?_
 ·simp[-IF,zY,z6,IE,z,o,f]
 ·simp[-IF,qv,a,g,I,d]
theorem lS(O:Pr p)(I : ∀j,j<N->(A j).s+(A j).n<=m+1)(U:N<=60)(L:m<=5)(Y : ∀k,wd k<=60)(S : ∀j r i,j<N->(A j).has r=dn->i<wd r->0<=(A j).v r i/\(A j).v r i<p)(C:a<N)(Z : ∀i,i<a->t i=0)(t1:t a≠0) :
 Ki [qv p m w wd T,.lst<|(Iz N).map λj=>qf wd<|A j,.tup (zJ N t)]=di (.val<|qf wd<|DV p A N t a):=by
 have E:=jv;have f:N<=lim:=by omega
 have h:=yM f t C Z t1;have B:=I a C;have l:zU (.nm 0) jt (zB ko<|zb (zf 1)<|zb (zf 2)<|zb (zf 3)<|zb (zG qx (d8 (zg 4)<|zu<|.int 0)<|zf 0) zD) [.no,.val<|qv p m w wd T,.val<|.lst<|(Iz N).map λj=>qf wd<|A j,.val<|.tup<|zJ N t,.val (qf wd<|A a)] ((Iz (A a).n).map λ(i:Nat)=>D.int i)=di (kj wd<|DV p A N t a):=by
  unfold kj;refine zy _ _ λi b=>zA rfl rfl ?_;have b:=IC.mp b;have e:=XN (T:=T) (w:=w) (t:=t) O (λj z=>by have:=I j z;omega) U L Y (r:=(A a).s+i) (by have:i<(A a).n:=b;omega) λj c z x u=>S j _ c z x u;have o:(((A a).s+i:Nat):Int)=((A a).s:Int)+(i:Int):=by omega
  rw[o]at e;have F:inR (((A a).s:Int)+(i:Int))=dn:=decide_eq_true (by have:i<(A a).n:=b;omega);simp[e];rfl
 have d:(A a).n<=lim:=by omega
 have y:inR ((A a).n:Int)=dn:=decide_eq_true ⋯;refine z7<|zm (γ':=[.val (qv p m w wd T),.val<|.lst<|(Iz N).map λj=>qf wd<|A j,.val<|.tup<|zJ N t,.val<|qf wd<|A a,.no]) ?_ (zm (γ':=[.val (qv p m w wd T),.val<|.lst<|(Iz N).map λj=>qf wd<|A j,.val<|.tup<|zJ N t,.val<|qf wd<|A a,.val (.lst<|kj wd<|DV p A N t a)]) ?_ ?_)
 ·simp[zY,IE,h,C]
 ·have J:=l
  rw[show((Iz (A a).n).map λ(i:Nat)=>D.int i)=zJ (A a).n λi=>(i:Int)from rfl]at J;simp[z6,jY,y,d,J]
 ·have g:(DV p A N t a).n<=lim:=d
  simp[aS,g];rfl
end
noncomputable def b1:=(i0 (xf<|sB<|zB Xh<|zb (zf 1) zD) KG qg)
noncomputable def b2:=(jj 3<|zG qx (yx<|zf 1)<|zu<|.int 1)
noncomputable def b3:=(i0 (xf<|sB<|EM<|jF<|zS (zL<|zg 2) (.nm 0) 1 [3] jt (zB w4<|zb (zf 1)<|zb (zf 0) zD)) KG qg)
noncomputable def b4:=(jj 4<|jX<|QK<|zg 2)
noncomputable def x1:CO Xn:=(G4 (xf (sB (zB Xh (zb (zf 1) zD)))) (uf "NoRow") G5)
noncomputable def x3:CO Xn:=(G4 (xf (sB (EM (jF (zS (zL (zg 2)) (.nm 0) 1 [3] jt (zB w4 (zb (zf 1) (zb (zf 0) zD)))))))) (uf "NoRow") G5)
noncomputable def x7:CO Xn:=(G4 (sB (zG qs (gH (zg 6)) (zu (.int 30)))) (uf "TooMany") G5)
noncomputable def uZ(m:Nat)(bs:List (Int×Int)):List D:=(Iz<|m+1).map λ(r:Nat)=>D.lst<|Yi<|jM bs r
noncomputable def oB(m:Nat)(bs:List (Int×Int)):List D:=zJ (m+1) λr=>((jM bs r).length:Int)
section
variable{p:Int}{m:Nat}{w:RX}{bs:List (Int×Int)}
abbrev g0(p:Int)(z:Str)(bs:List (Int×Int)):Ctx:=[.val (.int p),.val (.str z),.val (.lst (zv bs)),.no,.no,.no,.no,.no]
abbrev g2(p:Int)(z:Str)(m:Nat)(bs:List (Int×Int)):Ctx:=[.val (.int p),.val (.str z),.val (.lst (zv bs)),.val (.int ((m+1:Nat):Int)),.no,.no,.no,.no]
abbrev g6(p:Int)(z:Str)(m:Nat)(bs:List (Int×Int)):Ctx:=[.val (.int p),.val (.str z),.val (.lst (zv bs)),.val (.int ((m+1:Nat):Int)),.val (.lst (zv (xJ bs))),.val (.lst (uZ m (xJ bs))),.val (.tup (oB m (xJ bs))),.no]
end
section
variable{p:Int}{m:Nat}{w:RX}{bs:List (Int×Int)}
theorem rZ{b:List Nat}(x:Nat):zU (.nm 0) jt (KI<|zG h7 (zf 1)<|zf 0) [Cell.no,Cell.val (.int x)] (Yi b)=di (b.map λy=>D.int<|if x=y then 1 else 0):=by
 unfold Yi;refine zy _ _ λy z=>zA rfl rfl ?_;by_cases h:x=y
 ·simp[h]
 ·have a : ¬((x:Int)=(y:Int)):=by omega
  simp[h,a]
end
end DL
namespace DL
open PySem L2 PySem.W PyProof.Rows
noncomputable def k0(x y:Int×Int):Prop:=vb y x=ed
theorem vP(x):k0 x x:=by unfold k0 vb;simp
theorem XS:k0 x y↔x.1<y.1\/(x.1=y.1/\x.2<=y.2):=by
 unfold k0 vb;by_cases h:y.1=x.1
 ·rw[RY h,decide_eq_false_iff_not];omega
 ·rw[EQ h,decide_eq_false_iff_not];omega
theorem eC:vb x y=dn↔x.1<y.1\/(x.1=y.1/\x.2<y.2):=by
 unfold vb;by_cases h:x.1=y.1
 ·rw[RY h,decide_eq_true_iff];omega
 ·rw[EQ h,decide_eq_true_iff];omega
theorem vO(a:k0 x y)(b:k0 y z):k0 x z:=by rw[XS]at *;omega
theorem vQ(a:vb x y=dn):k0 x y:=by rw[eC]at a;rw[XS];omega
theorem Bi(a:vb x y=dn)(b:k0 y z):vb x z=dn:=by rw[eC]at *;rw[XS]at b;omega
theorem XT(a:k0 x y)(b:k0 y x):x=y:=by rw[XS]at *;obtain⟨x1,z⟩:=x;obtain⟨I,J⟩:=y;simp only[Prod.mk.injEq]at *;omega
section
variable(key:Nat->Int×Int)
noncomputable def vA(p:Array Nat)(i:Nat):Int×Int:=key<|p.getD i 0
noncomputable def i7(i j:Nat):Bool:=vb (key i)<|key j
noncomputable def ro(p:Array Nat)(n:Nat):Prop:=∀i j,i<=j->j<n->k0 (vA key p i) (vA key p j)
noncomputable def Dec(p:Array Nat)(n:Nat):Prop:=∀i j,i<=j->j<n->k0 (vA key p j) (vA key p i)
variable{key}
theorem kG(f:α->KasT β) : ∀t:KasT α,xK lt (t.bind f)=xK lt (f<|xK lt t)
 | .ret a=>rfl
 | .ask i j k=>kG f<|k<|lt i j
theorem kU(p:Array Nat)(i j):(kas_rev p i j).size=p.size:=mirror_size _ _ _ _
theorem Es(p:Array Nat)(i:Nat):vA key p i=key (p[i]?.getD 0):=by unfold vA;rw[Nc]
theorem bI(z:j<=p.size)(k:Nat):vA key (kas_rev p i j) k=if i<=k/\k<j then vA key p (i+j - 1 - k)else vA key p k:=by have:=getElem?_mirror_all (xs:=p) (i:=i) z k;unfold vA kas_rev;rw[Nc,this];split<;>rw[Nc]
theorem ZD(I:j<=p.size)(z : ∀k,i<=k->k<j->vA key p k=vA key p (j - 1))(k:Nat):vA key (kas_rev p i j) k=vA key p k:=by
 rw[bI I];split
 ·rename_i h
  rw[z _ ⋯ ⋯,z k h.1 h.2]
 ·rfl
theorem nq(z:k<p.size)(I:l<=k)(i:Nat):vA key (bubble p k<|k - l) i=if i=l then vA key p k else if l<i/\i<=k then vA key p (i - 1)else vA key p i:=by
 have:=getElem?_bubble (xs:=p) z (k - l) ⋯ i;rw[show k - (k - l)=l by omega]at this;simp only[Es];rw[this];split
 ·rfl
 ·split<;>rfl
theorem ic(C:1<=n)(z:ro key p n)(h:k0 (vA key p<|n - 1) (vA key p n)):ro key p (n+1):=λi j I O=>by
 by_cases e:j=n
 ·subst e
  by_cases J:i=j
  ·subst J;exact vP _
  ·exact vO (z i (j - 1) ⋯ ⋯) h
 ·exact z i j I ⋯
theorem Zs(C:1<=n)(z:Dec key p n)(h:k0 (vA key p n) (vA key p<|n - 1)):Dec key p (n+1):=λi j I O=>by
 by_cases e:j=n
 ·subst e
  by_cases J:i=j
  ·subst J;exact vP _
  ·exact vO h<|z i (j - 1) ⋯ ⋯
 ·exact z i j I ⋯
theorem gc(p:Array Nat) : ∀(f n:Nat),1<=n->ro key p n->n<=xK (i7 key) (kas_asc p f n)/\xK (i7 key) (kas_asc p f n)<=n+f/\ro key p (xK (i7 key)<|kas_asc p f n)/\(xK (i7 key) (kas_asc p f n)=n+f\/vb (vA key p<|xK (i7 key)<|kas_asc p f n) (vA key p<|xK (i7 key) (kas_asc p f n) - 1)=dn)
 | 0,n,hn,hs=>⟨IH _,IH _,hs,.inl rfl⟩
 | f+1,n,hn,hs=>by
  have e:xK (i7 key) (kas_asc p (f+1) n)=xK (i7 key) (if vb (vA key p n) (vA key p<|n - 1)=dn then .ret n else kas_asc p f (n+1)):=rfl;rw[e];by_cases c:vb (vA key p n) (vA key p<|n - 1)=dn
  ·rw[RY c]
   exact⟨IH _,by show n<=n+(f+1);omega,hs,.inr c⟩
  ·rw[EQ c]
   obtain⟨J,O,z,I⟩:=gc p f (n+1) ⋯ (ic hn hs<|by unfold k0;simpa using c);exact⟨by omega,by omega,z,I.imp (λh=>by omega) id⟩
noncomputable def G7(key:Nat->Int×Int)(p:Array Nat)(n q:Nat):Prop:=q+1<=n/\∀i,n - (q+1)<=i->i<n->vA key p i=vA key p (n - 1)
theorem VR(p:Array Nat)(C:1<=n):G7 key p n 0:=⟨C,λi a b=>by rw[show i=n - 1 by omega]⟩
theorem X6 : ∀(f:Nat) (p:Array Nat) (n q:Nat),Dec key p n->G7 key p n q->n+f<=p.size->
 ∃p' n' z,xK (i7 key) (kas_desc f p n q)=(p',n',z)/\p'.size=p.size/\n<=n'/\n'<=n+f/\Dec key p' n'/\G7 key p' n' z
 | 0,p,n,q,hd,hb,_=>⟨p,n,q,rfl,rfl,IH _,IH _,hd,hb⟩
 | f+1,p,n,q,hd,hb,hs=>by
  have b:1<=n:=by have:=hb.1;omega
  have e:xK (i7 key) (kas_desc (f+1) p n q)=xK (i7 key) (if vb (vA key p n) (vA key p<|n - 1)=dn then (if q>0 then kas_desc f (kas_rev p (n - (q+1)) n) (n+1) 0 else kas_desc f p (n+1) 0)
   else .ask (p.getD (n - 1) 0) (p.getD n 0) λd=>if d=dn then .ret (p,n,q)else kas_desc f p (n+1) (q+1)):=rfl
  rw[e];by_cases c:vb (vA key p n) (vA key p<|n - 1)=dn
  ·rw[RY c]
   by_cases U:q>0
   ·rw[RY U]
    have Y:=ZD (key:=key) (p:=p) (i:=n - (q+1)) (j:=n) ⋯ hb.2;have l:Dec key (kas_rev p (n - (q+1)) n) (n+1):=λi j m t=>by rw[Y,Y];exact Zs b hd (vQ c) i j m t
    obtain⟨p',n',z,a,I,g,h,J,O⟩:=X6 f (kas_rev p (n - (q+1)) n) (n+1) 0 l (VR _ ⋯) (by rw[kU];omega);exact⟨p',n',z,a,by rw[I,kU],by omega,by omega,J,O⟩
   ·rw[EQ U]
    obtain⟨p',n',z,a,I,g,h,J,O⟩:=X6 f p (n+1) 0 (Zs b hd<|vQ c) (VR _ ⋯) ⋯;exact⟨p',n',z,a,I,by omega,by omega,J,O⟩
  ·rw[EQ c]
   have r:xK (i7 key) (.ask (p.getD (n - 1) 0) (p.getD n 0) λd=>if d=dn then .ret (p,n,q)else kas_desc f p (n+1) (q+1))=xK (i7 key) (if vb (vA key p<|n - 1) (vA key p n)=dn then .ret (p,n,q)else kas_desc f p (n+1) (q+1)):=rfl;rw[r];by_cases d:vb (vA key p<|n - 1) (vA key p n)=dn
   ·rw[RY d]
    exact⟨p,n,q,rfl,rfl,IH _,by omega,hd,hb⟩
   ·rw[EQ d]
    have u:k0 (vA key p<|n - 1) (vA key p n):=by unfold k0;simpa using c
    have k:k0 (vA key p n) (vA key p<|n - 1):=by unfold k0;simpa using d
    have eq:=XT u k;have o:G7 key p (n+1) (q+1):=⟨by have:=hb.1;omega,λi w x=>by
     rw[Nat.add_sub_cancel];by_cases s:i=n
     ·rw[s]
     ·rw[hb.2 i ⋯ ⋯,eq]⟩
    obtain⟨p',n',z,a,I,g,h,J,O⟩:=X6 f p (n+1) (q+1) (Zs b hd k) o ⋯;exact⟨p',n',z,a,I,by omega,by omega,J,O⟩
noncomputable def gF(key:Nat->Int×Int)(C nrem:Nat)(r:Nat×Array Nat):Prop:=1<=r.1/\r.1<=nrem/\r.2.size=C/\ro key r.2 r.1
theorem Wc(L:1<=n)(J:n<=nrem)(O:nrem<=p.size)(C:Dec key p n):gF key p.size nrem (xK (i7 key)<|kas_tail3 n nrem p):=by
 have z:ro key (kas_rev p 0 n) n:=λi j U Y=>by rw[bI ⋯,bI ⋯,RY ⟨by omega,by omega⟩,RY ⟨by omega,by omega⟩];exact C _ _ ⋯ ⋯
 obtain⟨a,b,I,_⟩:=gc (kas_rev p 0 n) (nrem - n) n L z;unfold kas_tail3;rw[kG];exact⟨by show 1<=xK _ _;omega,by show xK _ _<=nrem;omega,kU _ _ _,I⟩
theorem dB(L:1<=n)(S:n<nrem)(Z:nrem<=p.size)(J : ∀i,i<n->vA key p i=vA key p (n - 1))(C:vb (vA key p n) (vA key p<|n - 1)=dn):gF key p.size nrem (xK (i7 key)<|kas_descPart n nrem p):=by
 have g:Dec key p n:=λi j O I=>by rw[J i ⋯,J j I];exact vP _
 obtain⟨b,a,z,e,U,h,k,Y,f⟩:=X6 (nrem - (n+1)) p (n+1) 0 (Zs L g<|vQ C) (VR _ ⋯) ⋯;unfold kas_descPart;rw[kG,e];show gF key p.size nrem (xK (i7 key)<|if z>0 then kas_tail3 a nrem (kas_rev b (a - (z+1)) a)else kas_tail3 a nrem b);split
 ·have d:=ZD (key:=key) (p:=b) (i:=a - (z+1)) (j:=a) ⋯ f.2
  have:=Wc (p:=kas_rev b (a - (z+1)) a) (n:=a) (nrem:=nrem) ⋯ ⋯ (by rw[kU];omega) (λi j O I=>by rw[d,d];exact Y i j O I);rw[kU,U]at this;exact this
 ·have:=Wc (p:=b) (n:=a) (nrem:=nrem) ⋯ ⋯ ⋯ Y
  rw[U]at this;exact this
theorem mP(L:1<=nrem)(C:nrem<=p.size):gF key p.size nrem (xK (i7 key)<|kas_count nrem p):=by
 have d:ro key p 1:=λi j g o=>by rw[show i=j by omega];exact vP _
 obtain⟨z,b,I,O⟩:=gc p (nrem - 1) 1 (IH _) d;unfold kas_count;rw[kG];generalize xK (i7 key) (kas_asc p (nrem - 1) 1)=n at z b I O;show gF key p.size nrem (xK (i7 key)<|if (n==nrem)=dn then .ret (n,p)else if n>1 then .ask (p.getD 0 0) (p.getD (n - 1) 0) λc=>if c=dn then .ret (n,p)else kas_descPart n nrem (kas_rev p 0 n)else kas_descPart n nrem p);split
 ·rename_i h
  have:=eq_of_beq h;exact⟨z,by show n<=nrem;omega,rfl,I⟩
 ·rename_i h
  have m:n≠nrem:=λe=>h (by rw[e];exact beq_self_eq_true _);have U:vb (vA key p n) (vA key p<|n - 1)=dn:=O.resolve_left ⋯;split
  ·have e:xK (i7 key) (.ask (p.getD 0 0) (p.getD (n - 1) 0) λc=>if c=dn then .ret (n,p)else kas_descPart n nrem (kas_rev p 0 n))=xK (i7 key) (if vb (vA key p 0) (vA key p<|n - 1)=dn then .ret (n,p)else kas_descPart n nrem (kas_rev p 0 n)):=rfl
   rw[e];split
   ·exact⟨z,by show n<=nrem;omega,rfl,I⟩
   ·rename_i c
    have l:k0 (vA key p<|n - 1) (vA key p 0):=by unfold k0;simpa using c
    have Y : ∀i,i<n->vA key p i=vA key p (n - 1):=λi a=>XT (I i (n - 1) ⋯ ⋯)<|vO l<|I 0 i ⋯ a;have J:=ZD (key:=key) (p:=p) (i:=0) (j:=n) ⋯<|λk _ f=>Y k f;have:=dB (key:=key) (p:=kas_rev p 0 n) (n:=n) (nrem:=nrem) z ⋯ (by rw[kU];omega) (λi a=>by rw[J,J];exact Y i a) (by rw[J,J];exact U);rw[kU]at this;exact this
  ·exact dB z ⋯ C (λi a=>by rw[show i=n - 1 by omega]) U
theorem XC(I:ro key p k) : ∀(f l r:Nat),l<=r->r<=k->r - l<=f->(∀i,i<l->k0 (vA key p i) (vA key p k))->(∀i,r<=i->i<k->vb (vA key p k) (vA key p i)=dn)->
 xK (i7 key) (kas_place p k f l r)<=k/\(∀i,i<xK (i7 key) (kas_place p k f l r)->k0 (vA key p i) (vA key p k))/\∀i,xK (i7 key) (kas_place p k f l r)<=i->i<k->vb (vA key p k) (vA key p i)=dn
 | 0,l,r,h1,h2,h3,h4,h5=>⟨by show l<=k;omega,h4,λi a z=>h5 i (by have:l<=i:=a;omega) z⟩
 | f+1,l,r,h1,h2,h3,h4,h5=>by
  have e:xK (i7 key) (kas_place p k (f+1) l r)=xK (i7 key) (if l>=r then .ret l else .ask (p.getD k 0) (p.getD ((l+r)/2) 0) λc=>if c=dn then kas_place p k f l ((l+r)/2)else kas_place p k f ((l+r)/2+1) r):=rfl;rw[e];by_cases J:l>=r
  ·rw[RY J]
   exact⟨by show l<=k;omega,h4,λi a z=>h5 i (by have:l<=i:=a;omega) z⟩
  ·rw[EQ J]
   have O:xK (i7 key) (.ask (p.getD k 0) (p.getD ((l+r)/2) 0) λc=>if c=dn then kas_place p k f l ((l+r)/2)else kas_place p k f ((l+r)/2+1) r)=xK (i7 key) (if vb (vA key p k) (vA key p<|(l+r)/2)=dn then kas_place p k f l ((l+r)/2)else kas_place p k f ((l+r)/2+1) r):=rfl;rw[O];by_cases c:vb (vA key p k) (vA key p<|(l+r)/2)=dn
   ·rw[RY c]
    exact XC I f l ((l+r)/2) ⋯ ⋯ ⋯ h4 λi a z=>Bi c<|I _ _ a z
   ·rw[EQ c]
    have U:k0 (vA key p<|(l+r)/2) (vA key p k):=by unfold k0;simpa using c
    exact XC I f ((l+r)/2+1) r ⋯ h2 ⋯ (λi a=>vO (I i ((l+r)/2) ⋯ ⋯) U) h5
theorem Av(J:k<p.size)(O:l<=k)(I:ro key p k)(C : ∀i,i<l->k0 (vA key p i) (vA key p k))(h2 : ∀i,l<=i->i<k->vb (vA key p k) (vA key p i)=dn):ro key (bubble p k<|k - l) (k+1):=λi j b d=>by
 rw[nq J O,nq J O];by_cases a:i=l
 ·subst a
  rw[RY rfl];by_cases z:j=i
  ·rw[RY z];exact vP _
  ·rw[EQ z,RY ⟨by omega,by omega⟩]
   exact vQ<|h2 _ ⋯ ⋯
 ·rw[EQ a]
  by_cases U:l<i/\i<=k
  ·rw[RY U,EQ (show ¬j=l by omega),RY ⟨by omega,by omega⟩]
   exact I _ _ ⋯ ⋯
  ·rw[EQ U]
   by_cases z:j=l
   ·rw[RY z];exact C i ⋯
   ·rw[EQ z]
    by_cases Y:l<j/\j<=k
    ·rw[RY Y];exact I _ _ ⋯ ⋯
    ·rw[EQ Y];exact I _ _ b ⋯
theorem oq : ∀(f:Nat) (p:Array Nat) (k n:Nat),k+f=n->p.size=n->ro key p k->ro key (xK (i7 key)<|kas_bin f p k) n/\(xK (i7 key)<|kas_bin f p k).size=n
 | 0,p,k,n,h1,h2,hs=>by
  obtain rfl:k=n:=by omega
  exact⟨hs,h2⟩
 | f+1,p,k,n,h1,h2,hs=>by obtain⟨z,I,J⟩:=XC hs k 0 k ⋯ (IH _) ⋯ (λi a=>by omega) (λi O U=>by omega);unfold kas_bin;rw[kG];exact oq f _ (k+1) n ⋯ (by rw[bubble_size];exact h2)<|Av ⋯ z hs I J
theorem px(C:1<=n):ro key (xK (i7 key)<|kas_sort n) n/\(xK (i7 key)<|kas_sort n).size=n:=by
 have d:(Nf<|Iz n).size=n:=by simp
 obtain⟨z,I,b,a⟩:=mP (key:=key) (p:=Nf<|Iz n) (nrem:=n) C ⋯;unfold kas_sort;rw[kG];generalize xK (i7 key) (kas_count n<|Nf<|Iz n)=r at z I b a;show ro key (xK (i7 key)<|if r.1<n then kas_bin (n - max r.1 1) r.2 (max r.1 1)else .ret r.2) n/\(xK (i7 key)<|if r.1<n then kas_bin (n - max r.1 1) r.2 (max r.1 1)else .ret r.2).size=n;rw[show max r.1 1=r.1 by omega];split
 ·exact oq (n - r.1) r.2 r.1 n ⋯ ⋯ a
 ·have:r.1=n:=by omega
  rw[this]at a;exact⟨a,by show r.2.size=n;omega⟩
end
theorem wR(bs:List (Int×Int)):(xJ bs).Pairwise k0:=by
 unfold xJ j1;by_cases h:bs.length<2
 ·rw[RY h]
  rcases bs with _ | ⟨a,_ | ⟨b,bs⟩⟩
  ·exact Np.nil
  ·exact List.pairwise_singleton _ _
  ·simp only[Mg]at h;omega
 ·rw[EQ h]
  obtain⟨f,g⟩:=px (key:=λi=>bs.getD i (0,0)) (n:=bs.length) ⋯;have e:(xK (λi j=>vb (bs.getD i (0,0))<|bs.getD j (0,0))<|kas_sort bs.length)=xK (i7 λi=>bs.getD i (0,0)) (kas_sort bs.length):=rfl;rw[e];generalize xK (i7 λi=>bs.getD i (0,0)) (kas_sort bs.length)=p at f g;rw[MM];intro i j d z I;simp only[IU,Md]at d z;have:=f i j ⋯ ⋯;unfold vA at this;simp only[Nc,Array.getElem?_eq_getElem d,Array.getElem?_eq_getElem z,NX]at this;simpa using this
theorem ZL : ∀{a b:List (Int×Int)},a.Perm b->a.Pairwise k0->b.Pairwise k0->a=b
 | [],b,h,_,_=>by rw[h.nil_eq]
 | x::a,[],h,_,_=>by have:=h.length_eq;simp at this
 | x::a,y::b,h,ha,hb=>by
  have d:x∈y::b:=h.mem_iff.mp IQ;have I:y∈x::a:=h.mem_iff.mpr IQ;have e:x=y:=by
   rcases iU.mp d with e | e
   ·exact e
   ·rcases iU.mp I with z | z
    ·exact z.symm
    ·exact XT (List.rel_of_pairwise_cons ha z)<|List.rel_of_pairwise_cons hb e
  subst e;rw[ZL (List.Perm.cons_inv h) ha.of_cons hb.of_cons]
theorem vg(h:a.Perm b):xJ a=xJ b:=
 ZL ((qO a).trans (h.trans (qO b).symm)) (wR a) (wR b)
end DL
namespace DL
open PySem L2
section
variable{p:Int}{m:Nat}{w:RX}{bs:List (Int×Int)}
theorem Xb(a b c d:Int):hH (.tup [.int a,.int b]) (.tup [.int c,.int d])=(a==c && b==d):=by simp[hH,o9,Sf]
theorem JA : ∀a b:List (Int×Int),o9 (zv a) (zv b)=decide (a=b)
 | [],[]=>rfl
 | [],_::_=>rfl
 | _::_,[]=>rfl
 | (x1,x2)::a,(y1,y2)::b=>by have z:=JA a b;show(hH (.tup [.int x1,.int x2]) (.tup [.int y1,.int y2]) && o9 (zv a) (zv b))=_;rw[z,Xb];by_cases d:x1=y1<;>by_cases e:x2=y2<;>by_cases I:a=b<;>simp[d,e,I]
end
noncomputable def T4(n:Nat)(ks:List Nat)(u:Nat->Int):Nat->Int:=ks.foldl (λu k=>mv n k u) u
noncomputable def Sm(n:Nat)(ks:List Nat)(u:Nat->Int):Nat->Nat->Int
 | 0=>u
 | j+1=>T4 n ks<|Sm n ks u j
noncomputable def acc(n:Nat)(ks:List Nat)(u:Nat->Int):Nat->Nat->Int
 | 0=>λ_=>0
 | j+1=>λi=>acc n ks u j i+Sm n ks u j i
theorem X3(b:Bool):h7 (.str (yR (i9 b))) (.str "r")=di (.bl (!b)):=by cases b<;>kernel_rfl
section
variable{wd:RZ}{N m k r:Nat}{A:Nat->fA}{p:Int}{w:RX}{T:RV}{B:Nat->Vc}{l:RZ}
theorem WX(l:RZ)(g:Nat->D)(i:Nat) : ∀(L:List Nat),WY (L.map λj=>D.int ((l j:Nat):Int)) (L.map g) (i:Int)=(L.find? λj=>l j==i).map g
 | []=>rfl
 | j::L=>by
  have z:=WX l g i L;simp only[Ld,WY,MG];by_cases h:l j=i
  ·simp[h]
  ·have a : ¬((l j:Nat):Int)=(i:Int):=by omega
   rw[EQ a,z];have:(l j==i)=ed:=by simpa using h
   rw[this]
theorem Yt(l:RZ) : ∀L:List Nat,J8 (L.map λj=>D.int ((l j:Nat):Int))=di (L.map λj=>((l j:Nat):Int))
 | []=>rfl
 | j::L=>by simp[J8,Yt l L]
theorem aU(z:h9 p N r B l)(I:r<=lim):mI ((Iz r).map λj=>D.int ((l j:Nat):Int)) ((Iz r).map λj=>D.tup<|zJ N<|B j)=di (.l4 ((Iz r).map λj=>D.int ((l j:Nat):Int))<|(Iz r).map λj=>D.tup<|zJ N<|B j):=by unfold mI;rw[Yt];dsimp only;rw[RY];refine⟨by simp,?_,by simpa using I⟩;rw[List.nodup_iff_pairwise_ne,NR];refine Od (λ{a b} d J h=>?_)<|NQ (n:=r);have:=z.mono a b h<|IC.mp J;omega
theorem Kp(f g:Nat->D) : ∀L:List Nat,vy (L.map λj=>D.tup [f j,g j])=di (L.map f,L.map g)
 | []=>rfl
 | j::L=>by simp[vy,Kp f g L]
theorem JL(h:k<(kM m w wd T).length):(kM m w wd T)[k]=wj w wd T k:=by simp[kM]
theorem kN(w wd T k):jA (wj w wd T k)=di (.T,[.str (yR<|i9<|w k),xk (iS w wd k) (iW w wd k) (T k)]):=rfl
theorem VJ:k8 ((Iz N).map λj=>qf wd<|A j)=(Iz N).map λ(i:Nat)=>D.tup [.int i,qf wd (A i)]:=by unfold k8;simp only[IU,Lw];refine IZ λi a=>?_;have a:=IC.mp a;simp[a]
noncomputable def tR(p:Int)(w:RX)(wd:RZ)(T:RV)(k:Nat)(u:Vc):Prop:=if w k=dn then Span p (wd k) (eK (wd<|k+1) λj i=>T k i j) u else Dq p (wd<|k+1) (wd k) (T k) u
theorem aq(O:Pr p)(U : ∀k,wd k<=8)(w)(T)(k:Nat) : ∃q g,q<=100/\(∀u,Span p (wd k) (eK q g) u↔tR p w wd T k u)/\
 (if w k=dn then wQ [.int p,xk (iS w wd k) (iW w wd k) (T k)]=di (.own<|z5 q (wd k) g)else y0 [.int p,xk (iS w wd k) (iW w wd k) (T k)]=di (.own<|z5 q (wd k) g)):=by
 have j:=jv;have Y:=U k;have i:=U<|k+1;have b : ∀{r n:Nat} {B:Nat->Vc} {l:RZ},h9 p n r B l->r<=n:=λ{r n B l} z=>by
  have mono : ∀k,k<r->k<=l k:=by
   intro k
   induction k with
   | zero=>intro _;omega
   | succ k f=>intro Y;have:=f ⋯;have:=z.mono k (k+1) ⋯ Y;omega
  cases r with
  | zero=>omega
  | succ d=>have:=mono d ⋯;have:=z.lt d ⋯;omega
 cases hw:w k with
 | true=>
  have a:iS w wd k=wd k:=by unfold iS;rw[hw];rfl
  have I:iW w wd k=wd (k+1):=by unfold iW;rw[hw];rfl
  obtain⟨r,B,l,e,z,J⟩:=Xg O (h:=wd k) (w:=wd<|k+1) ⋯ ⋯<|T k;refine⟨r,B,by have:=b z;omega,λu=>by unfold tR;rw[hw,RY rfl];exact J u,?_⟩;rw[RY rfl,a,I];exact e
 | false=>
  have a:iS w wd k=wd (k+1):=by unfold iS;rw[hw];rfl
  have I:iW w wd k=wd k:=by unfold iW;rw[hw];rfl
  obtain⟨q,K,l,s,e,z,J,_⟩:=yf O (h:=wd<|k+1) (w:=wd k) ⋯ ⋯<|T k;refine⟨q,K,by have:=b z;omega,λu=>by unfold tR;rw[hw,EQ ⋯];exact J u,?_⟩;rw[EQ ⋯,a,I];exact e
theorem Y8:we=ja 8 (zH RA<|zH RB<|zH L9<|zH RD<|zH RE RF):=rfl
theorem av(Y:Pr p)(hb : ∀j,j<N->(A j).s+(A j).n<=m+1)(S : ∀j,j<N->(A j).has k=dn)(Z:k<m)(hN:N<=8)(hm:m<=5)(C : ∀k,wd k<=8)(hv : ∀j r i,j<N->(A j).has r=dn->i<wd r->0<=(A j).v r i/\(A j).v r i<p) :
 ∃r B l,h9 p N r B l/\(∀t,Span p N (eK r B) t↔tR p w wd T k (app (λi j=>(A j).v k i) N t))/\
  we [qv p m w wd T,.int k,.lst ((Iz N).map λj=>qf wd<|A j)]=di (.own<|(Iz N).map λi=>qf wd<|ij p A N r B l i):=by
 have hl:=jv;obtain⟨q,g,hq,y,O⟩:=aq Y C w T k;have bd:=C k;obtain⟨r,B,l,H,z,hs⟩:=Kj Y (h:=wd k) (w:=N) (q:=q) ⋯ ⋯ hq (λi j=>(A j).v k i) g;refine⟨r,B,l,z,λt=>(hs t).trans (y _),?_⟩;have U:N<=lim:=by omega
 have E:k<m+1:=by omega
 have rN:r<=N:=by
  have mono : ∀k,k<r->k<=l k:=by
   intro k
   induction k with
   | zero=>intro _;omega
   | succ k ih=>intro S;have:=ih ⋯;have:=z.mono k (k+1) ⋯ S;omega
  cases r with
  | zero=>omega
  | succ f=>have:=mono f ⋯;have:=z.lt f ⋯;omega
 have o:r<=lim:=by omega
 have u:=vk (wd:=wd) (A:=A) (N:=N) (λj I=>by have:=hb j I;omega) U k;have W:((Iz N).filter λj=>(A j).has k)=Iz N:=List.filter_eq_self.mpr λj I=>S j<|IC.mp I;rw[W]at u;have K:=wN (q:=N) (h:=wd k) (λj=>(A j).v k) U ⋯;have F:qP [.lst ((Iz N).map λj=>qf wd<|A j),.int k]=di (.own<|z5 N (wd k) λj=>(A j).v k):=u;have M:zU (.nm 0) jt (qB<|zb (zB qF<|zb (zf 0) zD)<|zb (zf 0) zD) [.no] (z5 r N B)=di ((Iz r).map λj=>D.tup [.int ((l j:Nat):Int),.tup (zJ N<|B j)]):=by unfold z5;refine zy _ _ λj I=>zA rfl rfl ?_;have I:=IC.mp I;have e:=yM U (B j) (z.lt j I) (λi b=>z.me j i I b) (by rw[z.one j I];decide);simp[e]
 have P:=aU z o;have Q:=Kp (λj=>D.int ((l j:Nat):Int)) (λj=>D.tup<|zJ N<|B j)<|Iz r;let d:D:= .l4 ((Iz r).map λj=>D.int ((l j:Nat):Int)) ((Iz r).map λj=>D.tup<|zJ N<|B j);let L:D:= .lst ((Iz N).map λj=>qf wd<|A j);have R:zU (.tp [0,1]) jt (cE (sB<|uR (zf 0)<|zf 4) (zB Ki<|zb (zf 2)<|zb (zf 3)<|zb (Ct (zf 4)<|zf 0) zD)<|zf 1) [.no,.no,.val<|qv p m w wd T,.val L,.val d] ((Iz N).map λ(i:Nat)=>D.tup [.int i,qf wd (A i)])=di ((Iz N).map λi=>qf wd<|ij p A N r B l i):=by
  refine zy _ _ λi b=>zA rfl rfl ?_;have b:=IC.mp b;have J:=WX l (λj=>D.tup<|zJ N<|B j) i<|Iz r;have G:(Iz r).find? (λj=>l j==i)=l8 r l i:=rfl;rw[G]at J;unfold ij;cases hx:l8 r l i with
  | none=>
   rw[hx]at J;simp[d,uR,J]
  | some j=>
   rw[hx]at J;obtain⟨x,X⟩:=xp hx;have e:=lS (T:=T) (w:=w) (t:=B j) Y hb ⋯ hm (λk=>by have:=C k;omega) hv (a:=i) b (λc hc=>z.me j c x ⋯) (by rw[<- X,z.one j x];decide);simp[d,uR,Ct,J,L,e]
 rw[Y8];refine z7 (zm (γ':=[.val (qv p m w wd T),.val<|.int k,.val L,.val<|.str<|yR<|i9<|w k,.no,.no,.no,.no]) ?_
  (zm (γ':=[.val (qv p m w wd T),.val<|.int k,.val L,.val<|.str<|yR<|i9<|w k,.val<|xk (iS w wd k) (iW w wd k)<|T k,.no,.no,.no]) ?_
  (zm (γ':=[.val (qv p m w wd T),.val<|.int k,.val L,.val<|.str<|yR<|i9<|w k,.val<|xk (iS w wd k) (iW w wd k)<|T k,.val<|.lst<|z5 q (wd k) g,.no,.no]) ?_
  (zm (γ':=[.val (qv p m w wd T),.val<|.int k,.val L,.val<|.str<|yR<|i9<|w k,.val<|xk (iS w wd k) (iW w wd k)<|T k,.val<|.lst<|z5 q (wd k) g,.val<|.lst<|z5 r N B,.no]) ?_
  (zm (γ':=[.val (qv p m w wd T),.val<|.int k,.val L,.val<|.str<|yR<|i9<|w k,.val<|xk (iS w wd k) (iW w wd k)<|T k,.val<|.lst<|z5 q (wd k) g,.val<|.lst<|z5 r N B,.val d]) ?_ ?_)))))
 ·simp[RA,zY,IE,yz,kN,JL,Z];rfl
 ·simp[RB,yz,kN,JL,Z]
 ·cases hw:w k with
  | true=>
   rw[hw,RY rfl]at O;have eq:=X3 dn;simp[L9,yz,eq,O]
  | false=>
   rw[hw,EQ ⋯]at O;have eq:=X3 ed;simp[L9,yz,eq,O]
 ·simp[RD,yz,E,L,F,K,H]
 ·simp[RE,z6,M,o,Q,P];rfl
 ·simp[RF,z6,L,VJ,U,R]
end
noncomputable def oD(n:Nat):Option Vc->D
 | none=> .el
 | some y=> .tup (zJ n y)
theorem au(O:Pr p)(U:h<=90)(C:w<=90)(f:RK)(b:Vc)(J : ∀i,i<h->0<=b i/\b i<p) :
 ∃o:Option Vc,yZ [.int p,xk h w f,.tup (zJ h b)]=di (.val<|oD w o)/\(∀x,o=di x->(∀j,0<=x j/\x j<p)/\∀i,i<h->app f w x i%p=b i%p)/\(o=d5->¬∃y:Vc,∀i,i<h->app f w y i%p=b i%p):=by
 have Y : ∀i,i<h->b i%p=b i:=λi a=>LX (J i a).1 (J i a).2;by_cases I : ∃y:Vc,∀i,i<h->app f w y i%p=b i%p
 ·obtain⟨y,I⟩:=I
  obtain⟨x,e,K,L⟩:=ig O U C f b y J λi a=>by rw[<- Y i a,<- I i a];rfl
  refine⟨di x,e,λR G=>?_,λz=>by cases z⟩;cases G;exact⟨K,λi a=>by rw[Y i a];exact L i a⟩
 ·obtain⟨r,B,l,s,M,A,P,u,Q,d⟩:=JR O U C f b
  have m:s<r:=by
   refine LU λm=>I ?_;have H:s=r:=by omega
   subst H;refine⟨VX w B l s,λi a=>?_⟩;have n:=Zh M ((A<|aug w f b i).mpr (.gen ⟨i,a,rfl⟩)) w ⋯;have E:aug w f b i w=b i:=by simp[aug]
   rw[E]at n;rw[n];congr 1;unfold app VX;rw[zx (g:=λj=>zl (λk=>f i j*(if l k=j then B k w else 0)) s) λj _=>(ju _ _ _).symm,qL];refine zx λk t=>?_;rw[zQ (i:=l k) (u k t) λj N F=>by rw[EQ (Ll F)];simp,RY rfl];simp only[aug,RY (u k t)]
  rw[RY m]at d;exact⟨d5,d,nofun,λ_=>I⟩
section
variable{wd:RZ}{m k:Nat}{p:Int}{w:RX}{T:RV}
theorem lP:xm=ja 4 (zH DX<|zH L4 L5):=rfl
theorem X4(b:Bool):h7 (.str (yR (i9 b))) (.str "l")=di (.bl b):=by cases b<;>kernel_rfl
theorem Yg(I:Pr p)(C : ∀k,wd k<=8)(L : ∀i j,i<iS w wd k->j<iW w wd k->0<=T k i j/\T k i j<p)(u:Vc)(S : ∀i,i<wd k->0<=u i/\u i<p) :
 ∃o:Option Vc,xm [.int p,wj w wd T k,.tup (zJ (wd k) u)]=di (.val<|oD (wd<|k+1) o)/\(∀y,o=di y->∀c,c<wd (k+1)->0<=y c/\y c<p)/\
  (w k=ed->(o=d5->∀c,c<wd (k+1)->app (T k) (wd k) u c%p=0)/\∀y,o=di y->(∀c,c<wd (k+1)->app (T k) (wd k) u c%p=y c%p)/\∃c,c<wd (k+1)/\y c%p≠0)/\
  (w k=dn->(o=d5->¬∃y:Vc,∀c,c<wd k->app (T k) (wd<|k+1) y c%p=u c%p)/\∀y,o=di y->∀c,c<wd k->app (T k) (wd<|k+1) y c%p=u c%p):=by
 have E:=jv;have F:=I.le;have B:=C k;have A:=C<|k+1;rw[lP];cases hw:w k with
 | true=>
  have b:iS w wd k=wd k:=by unfold iS;rw[hw];rfl
  have J:iW w wd k=wd (k+1):=by unfold iW;rw[hw];rfl
  obtain⟨o,n,a,d⟩:=au I (h:=wd k) (w:=wd<|k+1) ⋯ ⋯ (T k) u S;refine⟨o,?_,λy e c _=>(a y e).1 c,nofun,λ_=>⟨d,λy e=>(a y e).2⟩⟩;refine z7 ?_;have O:=X4 dn;have r:DX (zY 4 [.int p,wj w wd T k,.tup (zJ (wd k) u)])=di (.ret<|.val<|oD (wd<|k+1) o):=by simp[DX,zY,IE,kN,hw,O,b,J,n]
  rw[jm,r];rfl
 | false=>
  have b:iS w wd k=wd (k+1):=by unfold iS;rw[hw];rfl
  have J:iW w wd k=wd k:=by unfold iW;rw[hw];rfl
  rw[b,J]at L;have U:=Kk (p:=p) (h:=wd<|k+1) (w:=wd k) .T (T k) u I.pos ⋯ ⋯ λi j t x=>by have:=L i j t x;omega
  simp only[q5]at U;have O:=X4 ed;have m:=V9 (λi=>zl (λj=>T k i j*u j) (wd k)%p)<|wd<|k+1;by_cases f : ∃c,c<wd (k+1)/\zl (λj=>T k c j*u j) (wd k)%p≠0
  ·refine⟨di λi=>zl (λj=>T k i j*u j) (wd k)%p,?_,(λy e c _=>by cases e;exact⟨Lp _ (by have:=I.pos;omega),La _ I.pos⟩),λ_=>⟨nofun,(λy e=>by cases e;exact⟨(λc _=>by rw[Lf];rfl),(by obtain⟨c,a,d⟩:=f;exact⟨c,a,(by rw[Lf];exact d)⟩)⟩)⟩,nofun⟩
   refine z7<|zm (γ':=[.val (.int p),.val<|wj w wd T k,.val<|.tup<|zJ (wd k) u,.no]) ?_ (zm (γ':=[.val (.int p),.val<|wj w wd T k,.val<|.tup<|zJ (wd k) u,.val (.tup<|zJ (wd<|k+1) λi=>zl (λj=>T k i j*u j) (wd k)%p)]) ?_ ?_)
   ·simp[DX,zY,IE,kN,hw,O]
   ·simp[L4,kN,b,J,U]
   ·have Y:(Iz<|wd<|k+1).any (λi=>(zl (λj=>T k i j*u j) (wd k)%p) != 0)=dn:=by
     obtain⟨c,a,d⟩:=f;exact Ra.mpr ⟨c,IC.mpr a,by simpa using d⟩
    have g:tW (zg 3) [.val (.int p),.val<|wj w wd T k,.val<|.tup<|zJ (wd k) u,.val (.tup<|zJ (wd<|k+1) λi=>zl (λj=>T k i j*u j) (wd k)%p)]=di (.bl dn):=by show((Xo _).map λs=>D.bl<|s.any id)=_;rw[m];show di (D.bl<|((Iz<|wd<|k+1).map λi=>(zl (λj=>T k i j*u j) (wd k)%p) != 0).any id)=_;rw[List.any_map];rw[show(id∘λi=>(zl (λj=>T k i j*u j) (wd k)%p) != 0)=λi=>(zl (λj=>T k i j*u j) (wd k)%p) != 0 from rfl,Y]
    unfold L5;simp only[wc,oz,tI,g];rfl
  ·refine⟨d5,?_,nofun,λ_=>⟨λ_ c l=>LU λz=>f ⟨c,l,z⟩,nofun⟩,nofun⟩
   refine z7<|zm (γ':=[.val (.int p),.val<|wj w wd T k,.val<|.tup<|zJ (wd k) u,.no]) ?_ (zm (γ':=[.val (.int p),.val<|wj w wd T k,.val<|.tup<|zJ (wd k) u,.val (.tup<|zJ (wd<|k+1) λi=>zl (λj=>T k i j*u j) (wd k)%p)]) ?_ ?_)
   ·simp[DX,zY,IE,kN,hw,O]
   ·simp[L4,kN,b,J,U]
   ·have Y:(Iz<|wd<|k+1).any (λi=>(zl (λj=>T k i j*u j) (wd k)%p) != 0)=ed:=R7.mpr λc l z=>f ⟨c,IC.mp l,by simpa using z⟩
    have g:tW (zg 3) [.val (.int p),.val<|wj w wd T k,.val<|.tup<|zJ (wd k) u,.val (.tup<|zJ (wd<|k+1) λi=>zl (λj=>T k i j*u j) (wd k)%p)]=di (.bl ed):=by show((Xo _).map λs=>D.bl<|s.any id)=_;rw[m];show di (D.bl<|((Iz<|wd<|k+1).map λi=>(zl (λj=>T k i j*u j) (wd k)%p) != 0).any id)=_;rw[List.any_map];rw[show(id∘λi=>(zl (λj=>T k i j*u j) (wd k)%p) != 0)=λi=>(zl (λj=>T k i j*u j) (wd k)%p) != 0 from rfl,Y]
    unfold L5;simp only[wc,oz,tI,g];rfl
end
section
variable{wd:RZ}{m k:Nat}{p:Int}{w:RX}{T:RV}
theorem mn(h:1<=n):g9 n (-1)=di (n - 1):=by unfold g9;rw[EQ ⋯,RY ⋯];congr 1;omega
theorem eG(z:b.s+b.n=k+1)(y:Vc):kj wd (lp k b<|some y)=kj wd b++[D.tup (zJ (wd<|k+1) y)]:=by
 unfold kj lp;dsimp only;rw[MD,LV];congr 1
 ·refine IZ λi a=>?_
  have a:=IC.mp a;rw[EQ ⋯]
 ·simp[z]
theorem bV:kP=ja 4 (zH RP M5):=rfl
theorem gZ(C:1<=b.n)(I:b.s+b.n=k+1)(Y:k<=20)(e:xm [.int p,wj w wd T k,.tup (zJ (wd k)<|b.v k)]=di (.val<|oD (wd<|k+1) o)) :
 kP [.int p,wj w wd T k,qf wd b]=di (.val<|qf wd<|lp k b o):=by
 have h:=jv;have J:=mn C;have z:=WK (wd:=wd) (b:=b) (i:=b.n - 1) ⋯;rw[show b.s+(b.n - 1)=k by omega]at z;have g:b.n - 1<b.n:=by omega
 rw[bV];refine z7<|zm (γ':=[.val (.int p),.val<|wj w wd T k,.val<|qf wd b,.val (oD (wd<|k+1) o)]) ?_ ?_
 ·unfold RP
  have a:d8 (zF<|d8 (zg 2)<|zu<|.int 1) (uN<|zu<|.int 1) (zY 4 [.int p,wj w wd T k,qf wd b])=di (.tup<|zJ (wd k)<|b.v k):=by have O : ∀f:Ctx,uN (zu<|.int 1) f=di (.int (-1)):=λ_=>rfl;simp[zY,IE,J,O];exact z
  simp only[Xd,gk,jG,aa,a];simp[zY,IE,e]
 ·cases o with
  | none=>simp[M5,oD,sL,lp]
  | some y=>
   have d:b.n+1<=lim:=by omega
   have U:=eG (wd:=wd) I y;simp[M5,oD,sL,d,qx];unfold qf;rw[U];rfl
noncomputable def gy(p:Int)(w:RX)(wd:RZ)(T:RV)(k:Nat)(L:List Vc):Prop:=
 if w k=dn then ∃q K l s,L=(Iz q).map K/\h9 p (wd<|k+1) q K l/\(∀v,Span p (wd<|k+1) (eK q K) v↔Dq p (wd k) (wd<|k+1) (T k) v)/\Rk p (wd k) (wd<|k+1) (λj i=>T k i j) s/\q+s=wd (k+1)
 else ∃r B l,h9 p (wd<|k+1) r B l/\(∀v,Span p (wd<|k+1) (eK r B) v↔Span p (wd<|k+1) (eK (wd k) λj i=>T k i j) v)/\L=((Iz<|wd<|k+1).filter λ(c:Nat)=> !decide ((c:Int)∈(Iz r).map λj=>((l j:Nat):Int))).map jN
theorem rS:ye=ja 3 (zH F4<|zH Rw Rx):=rfl
theorem QX(l:RZ) : ∀L:List Nat,XX (L.map λj=>D.int ((l j:Nat):Int))=di (L.map λj=>((l j:Nat):Int))
 | []=>rfl
 | j::L=>by simp[XX,QX l L]
theorem Ve(z:h9 p n r B l):r<=n:=by
 have mono : ∀k,k<r->k<=l k:=by
  intro k
  induction k with
  | zero=>intro _;omega
  | succ k J=>intro O;have:=J ⋯;have:=z.mono k (k+1) ⋯ O;omega
 cases r with
 | zero=>omega
 | succ I=>have:=mono I ⋯;have:=z.lt I ⋯;omega
theorem fw(n:Nat):k8 (z5 n n λi j=>if i=j then 1 else 0)=(Iz n).map λ(i:Nat)=>D.tup [.int i,.tup (zJ n<|jN i)]:=by unfold k8 z5;simp only[IU,Lw];refine IZ λi a=>?_;have a:=IC.mp a;simp[a];rfl
theorem Yh(S:Pr p)(C : ∀k,wd k<=8) : ∃L:List Vc,gy p w wd T k L/\ye [.int p,wj w wd T k]=di (.own<|L.map λy=>D.tup<|zJ (wd<|k+1) y):=by
 have H:=jv;have G:=C k;have F:=C<|k+1;rw[rS];unfold gy;cases hw:w k with
 | true=>
  have a:iS w wd k=wd k:=by unfold iS;rw[hw];rfl
  have J:iW w wd k=wd (k+1):=by unfold iW;rw[hw];rfl
  obtain⟨q,K,l,s,e,z,O,A,o⟩:=yf S (h:=wd k) (w:=wd<|k+1) ⋯ ⋯<|T k;refine⟨(Iz q).map K,by rw[RY rfl];exact⟨q,K,l,s,rfl,z,O,A,o⟩,z7 ?_⟩;have U:=X4 dn;have b:F4 (zY 3 [.int p,wj w wd T k])=di (.ret<|.own<|z5 q (wd<|k+1) K):=by simp[F4,zY,IE,kN,hw,U,a,J,e]
  rw[jm,b,Li];rfl
 | false=>
  have a:iS w wd k=wd (k+1):=by unfold iS;rw[hw];rfl
  have J:iW w wd k=wd k:=by unfold iW;rw[hw];rfl
  obtain⟨r,B,l,e,z,O⟩:=Xg S (h:=wd<|k+1) (w:=wd k) ⋯ ⋯<|T k;have M:=Ve z;have t:r<=lim:=by omega
  have Y:wd (k+1)<=lim:=by omega
  refine⟨_,by rw[EQ ⋯];exact⟨r,B,l,z,O,rfl⟩,?_⟩;have U:=X4 ed;have u:zU (.nm 0) jt (zB qF<|zb (zf 0) zD) [.no] (z5 r (wd<|k+1) B)=di ((Iz r).map λj=>D.int ((l j:Nat):Int)):=by unfold z5;refine zy _ _ λj I=>zA rfl rfl ?_;have I:=IC.mp I;have e:=yM Y (B j) (z.lt j I) (λi d=>z.me j i I d) (by rw[z.one j I];decide);simp[e]
  have x:zU (.tp [0,1]) (sB<|Xu (zf 0)<|zg 2) (zf 1) [.no,.no,.val (.lst<|(Iz r).map λj=>D.int ((l j:Nat):Int))] ((Iz<|wd<|k+1).map λ(i:Nat)=>D.tup [.int i,.tup (zJ (wd<|k+1)<|jN i)]) =
   di (((Iz<|wd<|k+1).filter λ(c:Nat)=> !decide ((c:Int)∈(Iz r).map λj=>((l j:Nat):Int))).map λ(i:Nat)=>D.tup<|zJ (wd<|k+1)<|jN i):=by
   refine jc (λ(c:Nat)=> !decide ((c:Int)∈(Iz r).map λj=>((l j:Nat):Int))) (λ(i:Nat)=>D.tup<|zJ (wd<|k+1)<|jN i) _ λi d=>⟨_,rfl,?_,λ_=>rfl⟩;have E:=QX l<|Iz r;show(Xu (zf 0) (zg 2) [.val (.int i),_,.val (.lst<|(Iz r).map λj=>D.int ((l j:Nat):Int))]).bind qq=_;show((XX<|(Iz r).map λj=>D.int ((l j:Nat):Int)).map λl=>D.bl<|!decide ((i:Int)∈l)).bind qq=_;rw[E];rfl
  have b:=yK (n:=wd<|k+1) Y;refine z7<|zm (γ':=[.val (.int p),.val<|wj w wd T k,.no]) ?_ (zm (γ':=[.val (.int p),.val<|wj w wd T k,.val (.lst<|(Iz r).map λj=>D.int ((l j:Nat):Int))]) ?_ ?_)
  ·simp[F4,zY,IE,kN,hw,U]
  ·simp[Rw,z6,kN,a,J,e,t,u]
  ·have f:jA (xk (iS w wd k) (iW w wd k)<|T k)=di (.T,[.int (wd (k+1):Nat),.int (wd k:Nat),.tup (z5 (wd<|k+1) (wd k)<|T k)]):=by rw[a,J];rfl
   have g:jA (xk (wd<|k+1) (wd<|k+1) λi j=>if i=j then 1 else 0)=di (.T,[.int (wd (k+1):Nat),.int (wd (k+1):Nat),.tup (z5 (wd<|k+1) (wd<|k+1) λi j=>if i=j then 1 else 0)]):=rfl;have m:=fw<|wd<|k+1;simp[Rx,z6,kN,f,b,g,m,Y];rw[x];exact congrArg di (congrArg (List.map _)<|PN λc _=>by simp)
end
section
variable{wd:RZ}{m k r N:Nat}{p:Int}{w:RX}{T:RV}{B:Nat->Vc}{l:RZ}{A:Nat->fA}
theorem nQ(I:h9 p N r B l){j:Nat}(z:j<r):l8 r l (l j)=di j:=by
 cases h:l8 r l (l j)with
 | none=>exact absurd rfl<|Zo h j z
 | some i=>
  obtain⟨a,b⟩:=xp h;rw[WH I.mono a z b]
theorem Vy{a b:List Nat}(C:a.Nodup)(z:b.Nodup)(h : ∀x,x∈a↔x∈b):a.length=b.length:=((List.perm_ext_iff_of_nodup C z).mpr h).length_eq
theorem X8(z:h9 p N r B l):(Iz N).countP (λi=>(l8 r l i).isSome)=r:=by
 rw[Lu];have e:((Iz N).filter λi=>(l8 r l i).isSome).length=((Iz r).map l).length:=by
  refine Vy (OS.sublist Om) ?_ λx=>?_
  ·rw[List.nodup_iff_pairwise_ne,NR]
   refine Od (λ{a b} g I h=>?_)<|NQ (n:=r);have:=z.mono a b h<|IC.mp I;omega
  ·rw[Lb,Lh]
   constructor
   ·rintro⟨d,f⟩
    obtain⟨j,J⟩:=Mw.mp f;obtain⟨O,U⟩:=xp J;exact⟨j,IC.mpr O,U⟩
   ·rintro⟨j,d,f⟩
    have d:=IC.mp d;subst f;exact⟨IC.mpr<|z.lt j d,by rw[nQ z d];rfl⟩
 rw[e];simp
theorem fN(q:RX)(N:Nat):(Iz N).countP q+(Iz N).countP (λi=> !q i)=N:=by
 have:=PJ q (l:=Iz N);rw[Lw]at this;rw[this];congr 1
 ·rw[<- this]
 ·rw[<- this]
  exact Mn λi _=>by simp
theorem Ff(z : ∀j,j<N->(A j).has k=dn)(t:Vc)(c:Nat):oe p A N t k c%p=app (λi j=>(A j).v k i) N t c%p:=by unfold oe app;rw[Lf];congr 1;exact zx λj I=>by rw[RY (z j I),LS]
theorem wq(z : ∀j,j<N->(A j).has k=dn)(h:l8 r l i=di j)(c:Nat):(ij p A N r B l i).v k c%p=app (λi j=>(A j).v k i) N (B j) c%p:=by unfold ij;rw[h];exact Ff z (B j) c
theorem Xr(h:l8 r l i=d5):ij p A N r B l i=A i:=by unfold ij;rw[h]
theorem aY(hp:Pr p)(S : ∀k,wd k<=8)(Z : ∀j,j<wd k->(A j).has k=dn)(hs : ∀v:Vc,∃t,∀i,i<wd k->v i%p=app (λi j=>(A j).v k i) (wd k) t i%p)
 (L:h9 p (wd k) r B l) (hW : ∀t,Span p (wd k) (eK r B) t↔tR p w wd T k (app (λi j=>(A j).v k i) (wd k) t)) {Y:List Vc} (C:gy p w wd T k Y) {nx:Nat->Option Vc}
 (hr : ∀i,i<wd k->w k=ed->(nx i=d5->∀c,c<wd (k+1)->app (T k) (wd k) ((ij p A (wd k) r B l i).v k) c%p=0)/\∀y,nx i=di y->(∀c,c<wd (k+1)->app (T k) (wd k) ((ij p A (wd k) r B l i).v k) c%p=y c%p)/\∃c,c<wd (k+1)/\y c%p≠0)
 (hl : ∀i,i<wd k->w k=dn->(nx i=d5->¬∃y:Vc,∀c,c<wd k->app (T k) (wd<|k+1) y c%p=(ij p A (wd k) r B l i).v k c%p)/\∀y,nx i=di y->∀c,c<wd k->app (T k) (wd<|k+1) y c%p=(ij p A (wd k) r B l i).v k c%p) :
 (∀y,y∈Y->∀c,c<wd (k+1)->0<=y c/\y c<p)/\(∀y,y∈Y->w k=dn->∀c,c<wd k->app (T k) (wd<|k+1) y c%p=0)/\
   (∀v,Span p (wd<|k+1) (λg=>(∃i,i<wd k/\nx i=di g)\/g∈Y) v)/\(Iz<|wd k).countP (λi=>(nx i).isSome)+Y.length=wd (k+1):=by
 have two:=hp.two;cases hw:w k with
 | false=>
  have u : ∀t,Span p (wd k) (eK r B) t↔Dq p (wd<|k+1) (wd k) (T k) (app (λi j=>(A j).v k i) (wd k) t):=λt=>by have:=hW t;unfold tR at this;rw[hw,EQ ⋯]at this;exact this
  unfold gy at C;rw[hw,EQ ⋯]at C;obtain⟨o,B2,n,as,hI,O⟩:=C;obtain⟨g1,g2,g3,G⟩:=uF hp (S k) (S<|k+1) hs L u as hI;have b7 : ∀c,c<wd (k+1)->(∀j,j<o->n j≠c)->jN c∈Y:=λc J C=>by rw[O];refine Lh.mpr ⟨c,Lb.mpr ⟨IC.mpr J,?_⟩,rfl⟩;simp only[MB,decide_eq_false_iff_not,Lh,IC];rintro⟨j,f,h⟩;exact C j f ⋯
  have on : ∀i,i<wd k->(nx i).isSome=(l8 r l i).isNone:=λi d=>by
   cases b:l8 r l i with
   | none=>
    obtain⟨c,f,h⟩:=g2 i d<|Zo b;cases I:nx i with
    | some y=>rfl
    | none=>
     have:=(hr i d hw).1 I c f;rw[Xr b]at this;exact absurd this h
   | some j=>
    obtain⟨f,h⟩:=xp b;cases I:nx i with
    | none=>rfl
    | some y=>
     obtain⟨e,c,M,h4⟩:=(hr i d hw).2 y I;have z:=g1 j f c M;rw[<- jE (λa _=>wq (B:=B) (r:=r) (l:=l) Z b a) c,e c M]at z;exact absurd z h4
  refine⟨λy I c J=>?_,(λy I z=>by cases z),λv=>G _ (λc J x=>?_) (λc J x=> .gen (.inr<|b7 c J x)) v,?_⟩
  ·rw[O]at I
   obtain⟨i,_,rfl⟩:=Lh.mp I;unfold jN;split<;>omega
  ·have b:l8 r l c=d5:=by
    cases b:l8 r l c with
    | none=>rfl
    | some j=>exact absurd (xp b).2 (x j (xp b).1)
   have m:=on c J;rw[b]at m;obtain⟨y,I⟩:=Mw.mp m;refine(Span.gen<|.inl ⟨c,J,I⟩).congr λi d=>?_;have:=((hr c J hw).2 y I).1 i d;rw[Xr b]at this;exact this
  ·have F:(Iz<|wd k).countP (λi=>(nx i).isSome)=(Iz<|wd k).countP λi=> !(l8 r l i).isSome:=Mn λi d=>by
    rw[on i (IC.mp d)];cases l8 r l i<;>simp
   have W:=fN (λi=>(l8 r l i).isSome)<|wd k;rw[X8 L]at W;have X:=fN (λi=>(l8 o n i).isSome)<|wd<|k+1;rw[X8 as]at X;have e4:Y.length=(Iz<|wd<|k+1).countP λi=> !(l8 o n i).isSome:=by
    rw[O,IU,<- Lu];refine Mn λi d=>?_;cases b:l8 o n i with
    | none=>
     have:=Zo b;simp only[MB,decide_eq_false_iff_not,Lh,IC];constructor
     ·intro _;rfl
     ·rintro _ ⟨j,f,h⟩
      exact this j f ⋯
    | some j=>
     obtain⟨f,h⟩:=xp b;simp only[MB,decide_eq_false_iff_not,Lh,IC];constructor
     ·intro z;exact absurd ⟨j,f,by rw[h]⟩ z
     ·intro z;cases z
   rw[F,e4];omega
 | true=>
  have u : ∀t,Span p (wd k) (eK r B) t↔Span p (wd k) (eK (wd<|k+1) λj i=>T k i j) (app (λi j=>(A j).v k i) (wd k) t):=λt=>by have:=hW t;unfold tR at this;rw[hw,RY rfl]at this;exact this
  unfold gy at C;rw[hw,RY rfl]at C;obtain⟨q,K,lK,s,O,N,H,P,Q⟩:=C;obtain⟨g1,g2,g3,G⟩:=uG hp (S k) (S<|k+1) hs L u H P Q;have on : ∀i,i<wd k->(nx i).isSome=(l8 r l i).isSome:=λi d=>by
   cases b:l8 r l i with
   | none=>
    cases I:nx i with
    | none=>rfl
    | some y=>
     have:=(hl i d hw).2 y I;rw[Xr b]at this;exact absurd ⟨y,this⟩<|g2 i d<|Zo b
   | some j=>
    obtain⟨f,h⟩:=xp b;cases I:nx i with
    | some y=>rfl
    | none=>
     obtain⟨y,R⟩:=g1 j f;exact absurd ⟨y,λc J=>by rw[R c J,wq Z b c]⟩<|(hl i d hw).1 I
  refine⟨λy I c J=>?_,λy I _ c J=>?_,λv=>G _ (λj=>(nx<|l j).getD λ_=>0) (λj U=>?_) (λj U=>?_) v,?_⟩
  ·rw[O]at I
   obtain⟨j,U,rfl⟩:=Lh.mp I;exact N.l5 j c (IC.mp U) J
  ·rw[O]at I
   obtain⟨j,U,rfl⟩:=Lh.mp I;exact(H<|K j).mp (.gen ⟨j,IC.mp U,rfl⟩) c J
  ·have b:=nQ L U
   have E:=L.lt j U;have m:=on (l j) E;rw[b]at m;obtain⟨y,I⟩:=Mw.mp m;rw[I];refine⟨.gen<|.inl ⟨l j,E,I⟩,λc J=>?_⟩;have:=(hl (l j) E hw).2 y I c J;rw[wq Z b c]at this;exact this
  ·refine .gen (.inr ?_)
   rw[O];exact Lh.mpr ⟨j,IC.mpr U,rfl⟩
  ·have F:(Iz<|wd k).countP (λi=>(nx i).isSome)=(Iz<|wd k).countP λi=>(l8 r l i).isSome:=Mn λi d=>by
    rw[on i (IC.mp d)]
   rw[F,X8 L,O,IU,Lw];omega
end
section
variable{wd:RZ}{m k:Nat}{p:Int}{w:RX}{T:RV}
theorem fi:JU=ja 9 (zH P8<|zH P9<|zH Ro<|zH Rp<|zH Rq<|zH Rr I0):=rfl
theorem Fd(y:Vc):qf wd (o7 k y) = .tup [.int ((k:Int)+1),.tup [.tup (zJ (wd<|k+1) y)]]:=by unfold qf o7 kj;simp
theorem mC(S:Pr p)(J : ∀k,wd k<=8)(hm:m<=5)(ak:k<m)(hT : ∀i j,i<iS w wd k->j<iW w wd k->0<=T k i j/\T k i j<p){C:List fA}(I:A6 p w wd T k C)(b5:C.length<=100) :
 ∃Z,A6 p w wd T (k+1) Z/\Z.length<=C.length+8/\JU [qv p m w wd T,.int k,.lst (C.map<|qf wd)]=di (.val<|.lst<|Z.map<|qf wd):=by
 have hl:=jv;have W:=S.pos;have M:C.length<=lim:=by omega
 have F:(C.filter λb=>b.has k).length=wd k:=by rw[<- Lu];exact I.ct k<|IH _
 let A:Nat->fA:=λj=>(C.filter λb=>b.has k).getD j gG;have Q:(C.filter λb=>b.has k)=(Iz<|wd k).map A:=by rw[<- F];exact(jb gG _).symm
 have R : ∀j,j<wd k->A j∈C/\(A j).has k=dn:=λj O=>by
  have:A j∈C.filter λb=>b.has k:=by show(C.filter λb=>b.has k).getD j gG∈_;rw[IF,ID ⋯];exact MW _
  have:=Lb.mp this;exact⟨this.1,by simpa using this.2⟩
 have G : ∀j,j<wd k->m9 p w wd T k (A j):=λj O=>I.ok _ (R j O).1;have hO : ∀i c,i<c->c<wd k->Ord w (A i) (A c):=λi c d s=>by have:=MM.mp I.od i c ⋯ ⋯ d;show Ord w ((C.filter λb=>b.has k).getD i gG) ((C.filter λb=>b.has k).getD c gG);rw[IF,ID ⋯,IF,ID ⋯];exact this
 have E : ∀j,j<wd k->(A j).has k=dn:=λj O=>(R j O).2;obtain⟨r,B,l,H,hW,eS⟩:=av (T:=T) (w:=w) (A:=A) (N:=wd k) (k:=k) S (λj O=>by have:=(G j O).le;omega) E ak (J k) hm J λj rm i O hh a=>(G j O).l5 rm i hh a;have kr : ∀i,i<wd k->m9 p w wd T k (ij p A (wd k) r B l i):=λi a=>ny W H G E hO a;have as : ∀i,i<wd k->(ij p A (wd k) r B l i).has k=dn:=λi a=>by rw[Y7];exact E i a
 have ex : ∀i,∃o:Option Vc,i<wd k->(xm [.int p,wj w wd T k,.tup (zJ (wd k)<|(ij p A (wd k) r B l i).v k)]=di (.val<|oD (wd<|k+1) o)/\(∀y,o=di y->∀c,c<wd (k+1)->0<=y c/\y c<p)/\
  (w k=ed->(o=d5->∀c,c<wd (k+1)->app (T k) (wd k) ((ij p A (wd k) r B l i).v k) c%p=0)/\∀y,o=di y->(∀c,c<wd (k+1)->app (T k) (wd k) ((ij p A (wd k) r B l i).v k) c%p=y c%p)/\∃c,c<wd (k+1)/\y c%p≠0)/\
  (w k=dn->(o=d5->¬∃y:Vc,∀c,c<wd k->app (T k) (wd<|k+1) y c%p=(ij p A (wd k) r B l i).v k c%p)/\∀y,o=di y->∀c,c<wd k->app (T k) (wd<|k+1) y c%p=(ij p A (wd k) r B l i).v k c%p)):=λi=>by
  by_cases a:i<wd k
  ·obtain⟨o,h⟩:=Yg (T:=T) (w:=w) (k:=k) S J hT ((ij p A (wd k) r B l i).v k) λc hc=>(kr i a).l5 k c (as i a) hc
   exact⟨o,λ_=>h⟩
  ·exact⟨d5,λz=>absurd z a⟩
 obtain⟨nx,Y⟩:=NB ex;obtain⟨U,hN,eN⟩:=Yh (T:=T) (w:=w) (k:=k) S J;have hs : ∀v:Vc,∃t,∀i,i<wd k->v i%p=app (λi j=>(A j).v k i) (wd k) t i%p:=λv=>by
  have hv:Span p (wd k) (eK (wd k) λj=>(A j).v k) v:=(I.sp k (IH _) v).le λg hg=>by obtain⟨b,d,s,rfl⟩:=hg;have P:b∈C.filter λb=>b.has k:=Lb.mpr ⟨d,by simpa using s⟩;rw[Q]at P;obtain⟨j,O,rfl⟩:=Lh.mp P;exact .gen ⟨j,IC.mp O,rfl⟩
  obtain⟨t,ht⟩:=KA hv;exact⟨t,λi a=>by rw[ht i a];unfold app;rw[qN]⟩
 obtain⟨f1,f2,f3,f4⟩:=aY (T:=T) (w:=w) (A:=A) S J E hs H hW hN (nx:=nx) (λi a=>(Y i a).2.2.1) λi a=>(Y i a).2.2.2;refine⟨vc p k w C A (wd k) r B l nx U,ff W I F (λ_=>rfl) H (λi y a e=>(Y i a).2.1 y e) f1 (λi a e f=>((Y i a).2.2.1 f).1 e) (λi y a e f=>(((Y i a).2.2.1 f).2 y e).1) (λi y a e f=>((Y i a).2.2.2 f).2 y e) f2 f3 f4,?_,?_⟩
 ·have d:(C.filter λb=> !b.has k).length+wd k=C.length:=by
   have:=PJ (λb:fA=>b.has k) (l:=C);rw[<- F,<- Lu,<- Lu,this];have e:C.countP (λb=> !b.has k)=C.countP λb=>decide (¬b.has k=dn):=Mn λb _=>by simp
   rw[e];omega
  have s:=J<|k+1;unfold vc;rw[LJ];cases w k<;>simp<;>omega
 ·
  let L:D:= .lst (C.map<|qf wd);have e3:zU (.nm 0) (xf<|sB<|zB jP<|zb (zf 0)<|zb (zf 1) zD) (zf 0) [.no,.val (.int k)] (C.map<|qf wd)=di ((C.filter λb=> !b.has k).map (qf wd)):=by refine jc (g:=qf wd) (λb=> !b.has k) (qf wd) C λb K=>⟨[.val (qf wd b),.val (.int k)],rfl,?_,λ_=>by rfl⟩;have e:=k7 (wd:=wd) (b:=b) (by have:=(I.ok b K).le;omega) k;simp[e]
  have e4:zU (.nm 0) (sB<|zB jP<|zb (zf 0)<|zb (zf 1) zD) (zf 0) [.no,.val (.int k)] (C.map<|qf wd)=di ((Iz<|wd k).map λj=>qf wd<|A j):=by
   have:((C.filter λb=>b.has k).map (qf wd))=(Iz<|wd k).map λj=>qf wd (A j):=by rw[Q,Li];rfl
   rw[<- this];refine jc (g:=qf wd) (λb=>b.has k) (qf wd) C λb K=>⟨[.val (qf wd b),.val (.int k)],rfl,?_,λ_=>by rfl⟩;have e:=k7 (wd:=wd) (b:=b) (by have:=(I.ok b K).le;omega) k;simp[e]
  have e5:zU (.nm 0) jt (zB kP<|zb (zf 1)<|zb (zf 2)<|zb (zf 0) zD) [.no,.val<|.int p,.val (wj w wd T k)] ((Iz<|wd k).map λi=>qf wd<|ij p A (wd k) r B l i)=di ((Iz<|wd k).map λi=>qf wd<|lp k (ij p A (wd k) r B l i)<|nx i):=by refine zy _ _ λi a=>zA rfl rfl ?_;have a:=IC.mp a;have d:=ji.mp<|as i a;have e:=gZ (p:=p) (kr i a).n1 (by have:=(kr i a).le;omega) (show k<=20 by omega) (Y i a).1;simp[e]
  have e6:zU (.nm 0) jt (qB<|zb (zG qx (zf 1)<|zu<|.int 1)<|zb (qB<|zb (zf 0) zD) zD) [.no,.val (.int k)] (U.map λy=>D.tup<|zJ (wd<|k+1) y)=di ((U.map<|o7 k).map (qf wd)):=by rw[Li];refine zy _ _ λy hy=>zA rfl rfl ?_;show _=di (qf wd<|o7 k y);rw[Fd];rfl
  have X:U.length<=lim:=by have:=J<|k+1;omega
  have c4:wd k<=lim:=by have:=J k;omega
  let n:D:= .lst ((C.filter λb=> !b.has k).map (qf wd));let x:D:= .lst ((Iz<|wd k).map λi=>qf wd<|ij p A (wd k) r B l i);let u:D:= .lst ((Iz<|wd k).map λi=>qf wd<|lp k (ij p A (wd k) r B l i)<|nx i);let Ne:D:= .lst ((U.map<|o7 k).map (qf wd));rw[fi];refine z7 (zm (γ':=[.val (qv p m w wd T),.val<|.int k,.val L,.val<|.int p,.no,.no,.no,.no,.no]) ?_
   (zm (γ':=[.val (qv p m w wd T),.val<|.int k,.val L,.val<|.int p,.val<|wj w wd T k,.no,.no,.no,.no]) ?_
   (zm (γ':=[.val (qv p m w wd T),.val<|.int k,.val L,.val<|.int p,.val<|wj w wd T k,.val n,.no,.no,.no]) ?_
   (zm (γ':=[.val (qv p m w wd T),.val<|.int k,.val L,.val<|.int p,.val<|wj w wd T k,.val n,.val x,.no,.no]) ?_
   (zm (γ':=[.val (qv p m w wd T),.val<|.int k,.val L,.val<|.int p,.val<|wj w wd T k,.val n,.val x,.val u,.no]) ?_
   (zm (γ':=[.val (qv p m w wd T),.val<|.int k,.val L,.val<|.int p,.val<|wj w wd T k,.val n,.val x,.val u,.val Ne]) ?_ ?_))))))
  ·simp[P8,zY,IE,yz,L]
  ·simp[P9,yz,JL,ak]
  ·simp[Ro,z6,L,M,e3,n]
  ·simp[Rp,z6,L,M,e4,eS,x]
  ·simp[Rq,z6,x,c4,e5,u]
  ·simp[Rr,z6,eN,X]
   rw[e6];simp[Ne]
  ·have c7:(C.filter λb=> !b.has k).length<=100:=LN (Ni _ _) b5
   have q1:=J k;have q2:=J<|k+1;cases f:w k with
   | false=>
    have eq:=X3 ed;have d:U.length+wd k<=lim:=by omega
    have s:(C.filter λb=> !b.has k).length+(U.length+wd k)<=lim:=by omega
    simp[I0,kN,f,eq,n,u,Ne,vc,d,s]
   | true=>
    have eq:=X3 dn;have d:wd k+U.length<=lim:=by omega
    have s:(C.filter λb=> !b.has k).length+(wd k+U.length)<=lim:=by omega
    simp[I0,kN,f,eq,n,u,Ne,vc,d,s]
end
section
variable{wd:RZ}{m k:Nat}{p:Int}{w:RX}{T:RV}
noncomputable def gJ(c:Nat):fA:=⟨0,1,λ_=>jN c⟩
theorem su(U:Pr p):A6 p w wd T 0 ((Iz<|wd 0).map gJ):=by
 have two:=U.two;have a : ∀b,b∈(Iz<|wd 0).map gJ ↔ ∃c,c<wd 0/\b=gJ c:=λb=>by rw[Lh];exact⟨λ⟨c,d,e⟩=>⟨c,IC.mp d,e.symm⟩,λ⟨c,d,e⟩=>⟨c,IC.mpr d,e.symm⟩⟩
 have O : ∀c,(gJ c).has 0=dn:=λc=>ji.mpr ⟨IH _,by show 0<0+1;omega⟩;refine⟨λb I=>?_,λr Y v=>?_,λr Y=>?_,?_⟩
 ·obtain⟨c,J,rfl⟩:=(a b).mp I
  exact⟨IH _,by show 0+1<=0+1;omega,λr i _ _=>by show 0<=jN c i/\jN c i<p;unfold jN;split<;>omega,λj h=>by omega⟩
 ·have:r=0:=by omega
  subst this;refine(Yz (wd 0) v).le λg f=>?_;obtain⟨c,J,rfl⟩:=f;exact .gen ⟨gJ c,(a _).mpr ⟨c,J,rfl⟩,O c,rfl⟩
 ·have:r=0:=by omega
  subst this;rw[List.countP_eq_length.mpr λb I=>?_]
  ·simp
  ·obtain⟨c,J,rfl⟩:=(a b).mp I
   exact O c
 ·refine OJ _ ?_
  rw[NR];exact MM.mpr λ_ _ _ _ _=>⟨λz=>absurd z<|LF 0,λz=>absurd z<|LF 0⟩
theorem Kf:yi=ja 3 (zH Ht<|zH O9 Pt):=rfl
noncomputable def Yp(b:fA):Int×Int:=((b.s:Int),((b.s+b.n - 1:Nat):Int))
theorem eM : ∀C:List fA,(∀b,b∈C->1<=b.n/\b.s+b.n<=100)->Yo jT (C.map<|qf wd)=di (C.map Yp)
 | [],_=>rfl
 | b::C,h=>by have a:=h b IQ;have e:=QH (wd:=wd) a.1 a.2;have z:=eM C λb I=>h b<|IM _ I;simp only[Ld,Yo,e,z,IL];rfl
noncomputable def xT(C:List fA):List fA:=(j1<|C.map Yp).map λi=>C.getD i gG
theorem ZM(C:List fA):(xT C).Perm C:=by have h:=jI<|C.map Yp;rw[IU]at h;have:=h.map λi=>C.getD i gG;rw[jb]at this;exact this
theorem KC(C:List fA):(xT C).map Yp=xJ (C.map Yp):=by unfold xT xJ;rw[Li];refine IZ λi a=>?_;have h:=jI<|C.map Yp;have a:=IC.mp<|h.mem_iff.mp a;rw[IU]at a;simp[a]
theorem YY(z:Pr p)(J : ∀k,wd k<=8)(S:m<=5)(L : ∀k i j,k<m->i<iS w wd k->j<iW w wd k->0<=T k i j/\T k i j<p) :
 ∃C,A6 p w wd T m C/\C.length<=48/\yi [qv p m w wd T]=di (.own<|(xT C).map (qf wd)):=by
 have M:=jv;have K:=J 0;have O:wd 0<=lim:=by omega
 have A:=yK (n:=wd 0) O;have o:jA (xk (wd 0) (wd 0) λi j=>if i=j then 1 else 0)=di (.T,[.int (wd 0:Nat),.int (wd 0:Nat),.tup (z5 (wd 0) (wd 0) λi j=>if i=j then 1 else 0)]):=rfl;have u:zU (.nm 0) jt (qB<|zb (zu<|.int 0)<|zb (qB<|zb (zf 0) zD) zD) [.no] (z5 (wd 0) (wd 0) λi j=>if i=j then 1 else 0)=di (((Iz<|wd 0).map gJ).map (qf wd)):=by rw[Li];unfold z5;refine zy _ _ λi a=>zA rfl rfl ?_;show di _=di (qf wd<|gJ i);unfold qf gJ kj;simp;rfl
 have x1:Ht (zY 3 [qv p m w wd T])=di (.next [.val (qv p m w wd T),.val<|.lst<|((Iz<|wd 0).map gJ).map (qf wd),.no]):=by simp[Ht,zY,IE,yz,A,o,z6,O];rw[u];simp
 obtain⟨G,E,C,c,I,r,rfl⟩:=xj (T:= .nm 2) (F:=jj 1<|zB JU<|zb (zf 0)<|zb (zf 2)<|zb (zf 1) zD) (f:=vh<|zF<|d8 (zg 0)<|zu<|.int 2)
  (λj γ=>∃C c,A6 p w wd T j C/\C.length<=8*(j+1)/\γ=[.val (qv p m w wd T),.val<|.lst<|C.map<|qf wd,c]) m ⋯ (γ:=[.val (qv p m w wd T),.val<|.lst<|((Iz<|wd 0).map gJ).map (qf wd),.no])
  (by simp[yz]) ⟨_,_,su z,by simp;omega,rfl⟩ λs U γ d=>by obtain⟨C,c,I,r,rfl⟩:=d;obtain⟨Y,l,H,e⟩:=mC (T:=T) (w:=w) (k:=s) z J S U (L s · · U) I ⋯;refine⟨_,[.val (qv p m w wd T),.val<|.lst<|Y.map<|qf wd,.val (.int s)],rfl,?_,Y,_,l,by omega,rfl⟩;simp[e]
 refine⟨C,I,by omega,?_⟩;have y:=eM (wd:=wd) C λb g=>⟨(I.ok b g).n1,by have:=(I.ok b g).le;omega⟩;rw[Kf];refine z7<|zm x1<|zm (show O9 _=_ from E) ?_;have t:C.length<64:=by omega
 unfold Pt;have x:cD jT (zg 1) [.val (qv p m w wd T),.val<|.lst<|C.map<|qf wd,c]=di ((xT C).map (qf wd)):=by show((Yo jT<|C.map<|qf wd).bind λB=>if (C.map<|qf wd).length<64 then di ((j1 B).map λi=>(C.map<|qf wd).getD i .el)else d5)=_;rw[y];simp only[IL,IU,t,if_true];congr 1;unfold xT;rw[Li];refine IZ λi a=>?_;have h:=jI<|C.map Yp;have a:=IC.mp<|h.mem_iff.mp a;rw[IU]at a;simp[a]
 rw[gi,x];rfl
theorem A6.perm(h:P4.Perm mu)(I:A6 p w wd T k mu):(∀b,b∈P4->m9 p w wd T k b)/\(∀r,r<=k->∀v,Span p (wd r) (Hh P4 r) v)/\∀r,r<=k->P4.countP (λb=>b.has r)=wd r:=by
 refine⟨λb J=>I.ok b<|h.mem_iff.mp J,λr z v=>(I.sp r z v).le λg O=>?_,λr z=>?_⟩
 ·obtain⟨b,a,d,U⟩:=O
  exact .gen ⟨b,h.mem_iff.mpr a,d,U⟩
 ·rw[h.countP_eq];exact I.ct r z
end
abbrev TB:=Nat×Nat×(Nat->Nat->Int)
noncomputable def tD(t:TB):D:=xk t.1 t.2.1 t.2.2
theorem yU(bs):kA (.lst<|zv bs)=dn:=dM (n:=2) (by
 simp only[deep];have:t6 (zv bs)<=1:=Zr λd a=>by simp only[zv,Lh]at a;obtain⟨b,_,rfl⟩:=a;simp[deep,t6]
 omega) ⋯ (by
 simp only[kr];exact XI λd a=>by simp only[zv,Lh]at a;obtain⟨b,_,rfl⟩:=a;rfl)
noncomputable def xV(bs:List (Int×Int))(z us:List TB):D:= .tup [.lst (zv bs),.lst<|z.map tD,.lst (us.map tD)]
noncomputable def M6:=(xw 4<|zS (zW<|zf 3) (.nm 0) 1 [3] jt (jX<|zS (zW<|zf 1) (.nm 0) 1 [0] jt (KI<|zG h7 (zf 1)<|zf 0)))
noncomputable def M7:=(iq 5<|Wn (zW<|zf 3) (.nm 0) 1 [3] (zS (zW<|zf 1) (.nm 0) 1 [0] jt (KI<|zG h7 (zf 1)<|zf 0)))
noncomputable def Dw(bs:List (Int×Int))(k:Nat):Nat:=(jM bs k).length
noncomputable def DO(w:RX)(bs:List (Int×Int))(k i j:Nat):Int:=if (jM bs<|zZ w k).getD i 0=(jM bs<|zR w k).getD j 0 then 1 else 0
theorem V8(z:0<p)(w:RX)(wd:RZ)(f g T:RV)(k i j:Nat):0<=kQ p w wd f g T k i j/\kQ p w wd f g T k i j<p:=
 ⟨Lp _ ⋯,La _ z⟩
noncomputable def yu(m:Nat)(wd:RZ)(f:RV):List TB:=(Iz<|m+1).map λk=>(wd k,wd k,f k)
theorem Xp(m wd f):(yu m wd f).map tD=jR (m+1) wd f:=by unfold yu jR;rw[Li];rfl
section
variable{p:Int}{n:Nat}
theorem gE(C:Pr p)(S:n<=20)(f:RK) : ∃r B l,h9 p (n+n) r B l/\(∀v,Span p (n+n) (eK r B) v↔Span p (n+n) (eK n λi=>yv n (f i)<|jN i) v)/\
 kc [.int p,xk n n f]=di (.val<|if hH (.lst<|z5 r n B) (.lst<|z5 n n jN)=dn then .tup [.int n,.int n,.tup (z5 r n λk j=>B k<|n+j)]else .el):=by
 have y:=jv;have z:n<=lim:=by omega
 have g:n+n<=lim:=by omega
 obtain⟨r,B,l,e,I,m⟩:=xD C (show n+n<=100 by omega) z .L λi=>yv n (f i)<|jN i;refine⟨r,B,l,I,m,?_⟩;have J:r<=lim:=by have:r<=n+n:=Vs I.mono I.lt;omega
 have O:=yK (n:=n) z;have a:zU (.tp [0,1]) jt (zG qx (zf 0)<|zf 1) [Cell.no,Cell.no] ((Iz n).map λi=>D.tup [.tup (zJ n<|f i),.tup (zJ n λk=>if i=k then 1 else 0)])=di (z5 n (n+n) λi=>yv n (f i)<|jN i):=by unfold z5;refine zy _ _ λj x=>zA rfl rfl ?_;simp[qx,g,Zq];rfl
 have U:=gL n n f λi j=>if i=j then 1 else 0;have s:((n:Int)+(n:Int))=((n+n:Nat):Int):=by omega
 simp only[q5]at e;rw[<- s]at e;have Y:zU (.nm 0) jt (Wl (zf 0) bC<|o8<|zf 1) [Cell.no,Cell.val (.int n)] (z5 r (n+n) B)=di (z5 r n B):=by unfold z5;refine zy _ _ λk t=>zA rfl rfl ?_;simp[W3]
 have o:zU (.nm 0) jt (Wl (zf 0) (o8<|zf 1) bC) [Cell.no,Cell.val (.int n)] (z5 r (n+n) B)=di (z5 r n λk j=>B k<|n+j):=by unfold z5;refine zy _ _ λk t=>zA rfl rfl ?_;simp[W2]
 have b:i8 (.lst<|z5 r n B) (.lst<|z5 n n λi j=>if i=j then 1 else 0)=di (.bl<|!hH (.lst<|z5 r n B) (.lst<|z5 n n jN)):=by unfold i8;rw[RY ⟨WD _ _ _,WD _ _ _⟩];rfl
 have d : ∀(h w:Nat) (f:RK),jA (xk h w f)=di (.T,[.int h,.int w,.tup (z5 h w f)]):=λ_ _ _=>rfl;by_cases q:hH (.lst<|z5 r n B) (.lst<|z5 n n jN)=dn
 ·rw[q]at b
  rw[RY q];simp[kc,ja,zY,jm,d,O,U,z,J,z6,kf,IE,a,e,Y,o,b]
 ·have u:hH (.lst<|z5 r n B) (.lst<|z5 n n jN)=ed:=by simpa using q
  rw[u]at b;rw[EQ q];simp[kc,ja,zY,jm,d,O,U,z,J,z6,kf,IE,a,e,Y,b]
theorem V1(O:Pr p)(Z:n<=20)(L:Kg p n f g)(S:Kg p n g f)(C : ∀i j,i<n->j<n->0<=g i j/\g i j<p):kc [.int p,xk n n f]=di (.val<|xk n n g):=by
 obtain⟨r,B,l,A,h,e⟩:=gE O Z f;have two:=O.two;have one:=O.one;have w:h9 p (n+n) n (λk=>yv n (jN k)<|g k) id:={
  lt:=λk I=>by simp only[id];omega
  mono:=λk m I _=>I
  one:=λk I=>by simp only[id];rw[j4 I];exact RY rfl
  me:=λk j I U=>by simp only[id]at U;rw[j4 ⋯];exact EQ ⋯
  ra:=λk m I E Y=>by simp only[id];rw[j4 E];exact EQ ⋯
  l5:=λk i I a=>by
   rcases IY i n with z | z
   ·rw[j4 z];unfold jN;split<;>omega
   ·obtain⟨j,rfl⟩ : ∃j,i=n+j:=⟨i - n,by omega⟩
    rw[qp];exact C k j I ⋯}
 have o : ∀v,Span p (n+n) (eK n λk=>yv n (jN k)<|g k) v->Span p (n+n) (eK n λi=>yv n (f i)<|jN i) v:=λv J=>J.le λs d=>by
  obtain⟨k,I,b⟩:=d;subst b;refine(Span.sum (u:=λi=>yv n (f i)<|jN i) (λi=>g k i) (m:=n) λi a=> .gen ⟨i,a,rfl⟩).congr λj U=>?_;rcases IY j n with z | z
  ·simp only[j4 z]
   exact(S k j I z).symm
  ·obtain⟨m,rfl⟩ : ∃m,j=n+m:=⟨j - n,by omega⟩
   simp only[qp];rw[zQ (i:=m) ⋯ λi _ Y=>by simp[jN,Y]];simp[jN]
 have t : ∀v,Span p (n+n) (eK n λi=>yv n (f i)<|jN i) v->Span p (n+n) (eK n λk=>yv n (jN k)<|g k) v:=λv J=>J.le λs d=>by
  obtain⟨i,a,b⟩:=d;subst b;refine(Span.sum (u:=λk=>yv n (jN k)<|g k) (λk=>f i k) (m:=n) λk I=> .gen ⟨k,I,rfl⟩).congr λj U=>?_;rcases IY j n with z | z
  ·simp only[j4 z]
   rw[zQ (i:=j) z λk _ Y=>by simp[jN,Y]];simp[jN]
  ·obtain⟨m,rfl⟩ : ∃m,j=n+m:=⟨j - n,by omega⟩
   simp only[qp];exact(L i m a ⋯).symm
 obtain⟨rfl,_,u⟩:=JH O A w (λv J=>t v<|(h v).mp J)<|λv J=>(h v).mpr (o v J);have x:z5 r r B=z5 r r jN:=W1 λk i I a=>by rw[u k i I ⋯,j4 a]
 have y:z5 r r (λk j=>B k<|r+j)=z5 r r g:=W1 λk j I U=>by rw[u k (r+j) I ⋯,qp]
 rw[e,x,RY<|H9 _,y];rfl
end
section
variable{wd:RZ}{m k N:Nat}{p:Int}{w:RX}{T:RV}{A:Nat->fA}
noncomputable def il(A:Nat->fA)(N r:Nat):List Nat:=(Iz N).filter λj=>(A j).has r
noncomputable def xl(A:Nat->fA)(N r:Nat):Nat->Nat->Int:=λi j=>(A<|(il A N r).getD j 0).v r i
theorem VC{r j:Nat}(h:j<(il A N r).length):(il A N r).getD j 0<N/\(A<|(il A N r).getD j 0).has r=dn:=by
 have d:(il A N r).getD j 0∈il A N r:=by rw[IF,ID h];exact MW _
 obtain⟨a,b⟩:=Lb.mp d;exact⟨IC.mp a,by simpa using b⟩
theorem Kr(I:Pr p)(C:n<=8)(J : ∀v:Vc,∃t,∀i,i<n->v i%p=app f n t i%p) : ∃g:RK,Kg p n f g/\Kg p n g f/\∀i j,0<=g i j/\g i j<p:=by
 have Y:=I.pos;obtain⟨t,O⟩:=NB λj=>J<|jN j;refine⟨λi j=>t j i%p,?_,?_,λi j=>⟨Lp _ ⋯,La _ Y⟩⟩
 ·intro i j d U
  have e:zl (λk=>f i k*(t j k%p)) n%p=app f n (t j) i%p:=zN λk _=>vM p _ _;rw[e,<- O j i d];unfold jN i5;simp only[eq_comm]
 ·intro i j d U
  have z : ∀a,a<n->app f n (λb=>zl (λk=>(t k b%p)*f k j) n - jN j b) a%p=0:=λa h=>by
   rw[JM,v9 f U,Mx];have e:app f n (λb=>zl (λk=>(t k b%p)*f k j) n) a%p=f a j%p:=by
    have l:app f n (λb=>zl (λk=>(t k b%p)*f k j) n) a=zl (λk=>f k j*app f n (λb=>t k b%p) a) n:=by rw[<- yb];congr 1;funext b;exact qN ..
    rw[l];have m:zl (λk=>f k j*app f n (λb=>t k b%p) a) n%p=zl (λk=>f k j*jN k a) n%p:=zN λk _=>by rw[IJ,jE (u:=t k) (λb _=>Lf _ _) a,<- O k a h,<- IJ]
    rw[m,zQ (f:=λk=>f k j*jN k a) h λk _ r=>by simp[jN,r]];simp[jN]
   rw[e];simp
  have:=vm I C J z i d;have o:(zl (λk=>(t k i%p)*f k j) n)%p=jN j i%p:=Mz.mpr this;show zl (λk=>(t k i%p)*f k j) n%p=i5 i j%p;rw[o];unfold jN i5;simp only[eq_comm]
theorem br:jU=ja 4 (zH Pz<|zH P0<|zH P1 P2):=rfl
theorem gb(C:Pr p)(Y : ∀k,wd k<=8)(hm:m<=5)(hT : ∀k i j,k<m->i<iS w wd k->j<iW w wd k->0<=T k i j/\T k i j<p) :
 ∃(N:Nat) (A:Nat->fA) (g:RV),N<=48/\(∀j,j<N->m9 p w wd T m (A j))/\(∀r,r<=m->(il A N r).length=wd r)/\(∀r,r<=m->Kg p (wd r) (xl A N r) (g r)/\Kg p (wd r) (g r) (xl A N r)/\∀i j,0<=g r i j/\g r i j<p)/\
  xJ ((Iz N).map λj=>Yp<|A j)=((Iz N).map λj=>Yp<|A j)/\
  jU [qv p m w wd T]=di (.val<|xV ((Iz N).map λj=>Yp<|A j) (yu m wd g)<|yu m wd λr=>xl A N r):=by
 have hl:=jv;obtain⟨a,I,H,F⟩:=YY (T:=T) (w:=w) C Y hm hT;obtain⟨ok,sp,S⟩:=I.perm<|ZM a;have K:(xT a).length=a.length:=(ZM a).length_eq;let A:Nat->fA:=λj=>(xT a).getD j gG;have U:xT a=(Iz a.length).map A:=by rw[<- K];exact(jb gG _).symm
 have l : ∀j,j<a.length->m9 p w wd T m (A j):=λj O=>ok _ (by
  rw[U];exact Lh.mpr ⟨j,IC.mpr O,rfl⟩)
 have cnt : ∀r,r<=m->(il A a.length r).length=wd r:=λr J=>by have:=S r J;rw[U,NK,Lu]at this;exact this
 have M : ∀r,r<=m->∀v:Vc,∃t,∀i,i<wd r->v i%p=app (xl A a.length r) (wd r) t i%p:=λr J v=>by
  have hv:Span p (wd r) (eK (wd r) λj i=>xl A a.length r i j) v:=(sp r J v).le λgg f=>by obtain⟨b,d,u,rfl⟩:=f;rw[U]at d;obtain⟨j,O,rfl⟩:=Lh.mp d;have P:j∈il A a.length r:=Lb.mpr ⟨O,by simpa using u⟩;obtain⟨i,G,e⟩:=Oj P;refine .gen ⟨i,by rw[<- cnt r J];exact G,?_⟩;funext c;show(A j).v r c=(A<|(il A a.length r).getD i 0).v r c;rw[IF,ID G];simp[e]
  exact B0.mp hv
 have Q : ∀r,∃g:RK,r<=m->Kg p (wd r) (xl A a.length r) g/\Kg p (wd r) g (xl A a.length r)/\∀i j,0<=g i j/\g i j<p:=λr=>by
  by_cases J:r<=m
  ·obtain⟨g,h⟩:=Kr C (Y r) (M r J)
   exact⟨g,λ_=>h⟩
  ·exact⟨λ_ _=>0,λz=>absurd z J⟩
 obtain⟨g,f⟩:=NB Q;have Z:(xT a).map Yp=(Iz a.length).map λj=>Yp (A j):=by
  conv=>lhs;rw[U,Li]
  rfl
 refine⟨a.length,A,g,H,l,cnt,f,?_,?_⟩
 ·rw[<- Z,KC]
  refine vg ?_;have:=(ZM a).map Yp;rw[KC]at this;exact this
 ·have x:a.length<=lim:=by omega
  have eL:((xT a).map (qf wd))=(Iz a.length).map λj=>qf wd (A j):=by
   conv=>lhs;rw[U,Li]
   rfl
  rw[eL]at F;let L:D:= .lst ((Iz a.length).map λj=>qf wd<|A j);have y : ∀j,j<a.length->(A j).s+(A j).n<=100:=λj O=>by have:=(l j O).le;omega
  have W:zU (.tp [0,1]) jt (zB ka<|zb (zf 1)<|zb (jX<|jr qP<|zb (zf 2)<|zb (zf 0) zD) zD) [.no,.no,.val L] ((Iz<|m+1).map λ(i:Nat)=>D.tup [.int i,.int (wd i:Nat)])=di (jR (m+1) wd λr=>xl A a.length r):=by unfold jR;refine zy _ _ λr J=>zA rfl rfl ?_;have J:=IC.mp J;have E:=vk (wd:=wd) y x r;rw[WJ (wd r) (λj=>(A j).v r),show((Iz a.length).filter λj=>(A j).has r)=il A a.length r from rfl,cnt r ⋯]at E;have bd:=Y r;have o:=wN (q:=wd r) (h:=wd r) (λi=>(A<|(il A a.length r).getD i 0).v r) ⋯ ⋯;simp[-IF,L,E,o];rfl
  have o:zU (.nm 0) jt (zB kc<|zb (d8 (zg 1)<|zu<|.int 0)<|zb (zf 0) zD) [.no,.val (qv p m w wd T)] (jR (m+1) wd λr=>xl A a.length r)=di (jR (m+1) wd g):=by unfold jR;refine zy _ _ λr J=>zA rfl rfl ?_;have J:=IC.mp J;obtain⟨d,u,h3⟩:=f r ⋯;have e:=V1 C (n:=wd r) (by have:=Y r;omega) d u λi j _ _=>h3 i j;simp[yz,e]
  have X:zU (.nm 0) jt (zB jT<|zb (zf 0) zD) [.no] ((Iz a.length).map λj=>qf wd<|A j)=di (zv<|(Iz a.length).map λj=>Yp<|A j):=by unfold zv;rw[Li];refine zy _ _ λj O=>zA rfl rfl ?_;have O:=IC.mp O;have e:=QH (wd:=wd) (l j O).n1 (y j O);simp[e];exact⟨rfl,rfl⟩
  have ew:k8 (zJ (m+1) λk=>(wd k:Int))=(Iz<|m+1).map λ(i:Nat)=>D.tup [.int i,.int (wd i:Nat)]:=W0 _ _;have B:m+1<=lim:=by omega
  have R : ∀g:RV,(jR (m+1) wd g).length=m+1:=λg=>by simp[jR]
  rw[br];refine z7<|zm (γ':=[.val (qv p m w wd T),.val L,.no,.no]) ?_ (zm (γ':=[.val (qv p m w wd T),.val L,.val<|.lst<|jR (m+1) wd λr=>xl A a.length r,.no]) ?_ (zm (γ':=[.val (qv p m w wd T),.val L,.val<|.lst<|jR (m+1) wd λr=>xl A a.length r,.val (.lst<|jR (m+1) wd g)]) ?_ ?_))
  ·simp[Pz,zY,IE,F,L]
  ·simp[P0,z6,yz,ew,B,W]
  ·simp[P1,z6,R,B,o]
  ·unfold xV
   rw[Xp,Xp];simp[P2,z6,L,x,X]
end
section
variable{wd:RZ}{m k N:Nat}{p:Int}{w:RX}{T:RV}{A:Nat->fA}{g:RV}
noncomputable def xY(A:Nat->fA)(N:Nat):List (Int×Int):=(Iz N).map λj=>Yp<|A j
theorem sk{b:fA}(C:1<=b.n)(r:Nat):nX (Yp b) (r:Int)=b.has r:=by
 unfold nX Yp fA.has;dsimp only;congr 1
 ·exact decide_eq_decide.mpr ⋯
 ·exact decide_eq_decide.mpr ⋯
theorem kJ(C : ∀j,j<N->1<=(A j).n)(r:Nat):jM (xY A N) (r:Int)=il A N r:=by unfold jM il xY;simp only[IU,Lw];refine PN λj z=>?_;have z:=IC.mp z;rw[IF,Le,MF z];exact sk (C j z) r
theorem Yq(A N r):(il A N r).Nodup:=OS.sublist Om
theorem aO{L:List Nat}(h:L.Nodup){a b:Nat}(C:a<L.length)(z:b<L.length)(e:L.getD a 0=L.getD b 0):a=b:=by rw[IF,IF,ID C,ID z]at e;exact(List.getElem_inj h).mp e
theorem my(J : ∀j,j<N->m9 p w wd T m (A j))(O:k<m){i b:Nat}(hi:i<wd (zZ w k))(U:b<(il A N<|zR w k).length) :
 zl (λa=>(if (il A N<|zZ w k).getD a 0=(il A N<|zR w k).getD b 0 then (1:Int)else 0)*xl A N (zZ w k) i a) (il A N<|zZ w k).length%p=app (T k) (wd<|zR w k) (λc=>xl A N (zR w k) c b) i%p:=by
 obtain⟨h,r⟩:=VC U;have q:=(J _ h).arr k O r i hi;show _=app (T k) (wd<|zR w k) ((A<|(il A N<|zR w k).getD b 0).v (zR w k)) i%p;rw[q];congr 1;cases hx:(A<|(il A N<|zR w k).getD b 0).has (zZ w k)with
 | true=>
  have Y:(il A N<|zR w k).getD b 0∈il A N (zZ w k):=Lb.mpr ⟨IC.mpr h,by simpa using hx⟩;obtain⟨l,I,o⟩:=Oj Y;have d:(il A N<|zZ w k).getD l 0=(il A N<|zR w k).getD b 0:=by rw[<- o,IF,ID I];rfl
  rw[zQ (f:=λa=>(if (il A N<|zZ w k).getD a 0=(il A N<|zR w k).getD b 0 then (1:Int)else 0)*xl A N (zZ w k) i a) I λa e n=>by rw[EQ λz=>n (aO (Yq A N _) e I<|z.trans d.symm)];simp]
  rw[RY d,RY rfl];unfold xl;rw[d];simp
 | false=>
  rw[EQ ⋯];rw[zx (g:=λ_=>0) λa e=>by
   rw[EQ λz=>by have:=(VC e).2;rw[z,hx]at this;cases this]
   simp]
  exact zT _
theorem ng(L:Pr p)(J : ∀j,j<N->m9 p w wd T m (A j))(cnt : ∀r,r<=m->(il A N r).length=wd r)(Y : ∀r,r<=m->Kg p (wd r) (xl A N r) (g r))(C:k<m){i j:Nat}(hi:i<wd (zZ w k))(z:j<wd (zR w k))(O:0<=T k i j/\T k i j<p) :
 T k i j=kQ p w (Dw<|xY A N) (λr=>xl A N r) g (DO w<|xY A N) k i j:=by
 have d : ∀j,j<N->1<=(A j).n:=λj z=>(J j z).n1;have I:zR w k<=m:=by unfold zR;split<;>omega
 have U:zZ w k<=m:=by unfold zZ;split<;>omega
 unfold kQ;have l:Dw (xY A N) (zR w k)=wd (zR w k):=by unfold Dw;rw[kJ d,cnt _ I]
 have o:Dw (xY A N) (zZ w k)=wd (zZ w k):=by unfold Dw;rw[kJ d,cnt _ U]
 rw[l,o];have e:zl (λb=>g (zR w k) b j*(zl (λa=>DO w (xY A N) k a b*xl A N (zZ w k) i a) (wd<|zZ w k)%p)) (wd<|zR w k)%p
  = zl (λb=>g (zR w k) b j*app (T k) (wd<|zR w k) (λc=>xl A N (zR w k) c b) i) (wd<|zR w k)%p:=zN λb s=>by
  have:=my (T:=T) (k:=k) J C hi (b:=b) (by rw[cnt _ I];exact s);rw[cnt _ U]at this;have f:zl (λa=>DO w (xY A N) k a b*xl A N (zZ w k) i a) (wd<|zZ w k)=zl (λa=>(if (il A N<|zZ w k).getD a 0=(il A N<|zR w k).getD b 0 then (1:Int)else 0)*xl A N (zZ w k) i a) (wd<|zZ w k):=zx λa _=>by unfold DO;rw[kJ d,kJ d]
  rw[f,this,vM]
 have h:zl (λb=>g (zR w k) b j*app (T k) (wd<|zR w k) (λc=>xl A N (zR w k) c b) i) (wd<|zR w k)=app (T k) (wd<|zR w k) (λc=>zl (λb=>xl A N (zR w k) c b*g (zR w k) b j)<|wd<|zR w k) i:=by rw[<- yb];congr 1;funext c;exact qN ..
 rw[show(zl (λb=>g (zR w k) b j*(zl (λa=>DO w (xY A N) k a b*(λr=>xl A N r) (zZ w k) i a) (wd<|zZ w k)%p)) (wd<|zR w k)%p)=_ from e,h,
  jE (u:=jN j) (λc t=>by rw[Y _ I c j t z];unfold i5 jN;simp only[eq_comm]) i,v9 (T k) z]
 exact(LX O.1 O.2).symm
end
structure o1(p:Int)(w:RX)(wd:RZ)(T:RV)(m N:Nat)(A:Nat->fA):Prop where
 ok : ∀j,j<N->m9 p w wd T m (A j)
 sp : ∀r,r<=m->∀v:Vc,∃t:Vc,∀i,i<wd r->v i%p=zl (λj=>if (A j).has r=dn then t j*(A j).v r i else 0) N%p
 inj : ∀r,r<=m->∀t:Vc,(∀i,i<wd r->zl (λj=>if (A j).has r=dn then t j*(A j).v r i else 0) N%p=0)->∀j,j<N->(A j).has r=dn->t j%p=0
 cnt : ∀r,r<=m->(il A N r).length=wd r
noncomputable def Lk(p:Int)(w:RX)(wd:RZ)(T:RV)(k:Nat)(y z:Vc):Prop:=
 if w k=dn then ∀i,i<wd k->y i%p=app (T k) (wd<|k+1) z i%p else ∀i,i<wd (k+1)->z i%p=app (T k) (wd k) y i%p
noncomputable def Wk(p:Int)(w:RX)(wd:RZ)(T:RV)(d:Nat):Nat->Vc->Vc->Prop
 | 0,u,z=>∀i,i<wd d->u i%p=z i%p
 | n+1,u,z=>∃y,Wk p w wd T d n u y/\Lk p w wd T (d+n) y z
section
variable{p:Int}{w:RX}{wd:RZ}{T:RV}{m N N':Nat}{A A':Nat->fA}{d:Nat}
theorem Vt(C:a%p=b%p)(I:a'%p=b'%p):(a+c*a')%p=(b+c*b')%p:=by rw[LA,C,IJ,I,<- IJ,<- LA]
theorem Cj(c:Int)(h:Lk p w wd T k y z)(h':Lk p w wd T k y' z'):Lk p w wd T k (λi=>y i+c*y' i) λi=>z i+c*z' i:=by
 unfold Lk at *;split
 ·next b=>
  rw[RY b]at h h';intro i a;rw[Vt (h i a) (h' i a)];exact(VW (λ_ _=>rfl) i).symm
 ·next b=>
  rw[EQ b]at h h';intro i a;rw[Vt (h i a) (h' i a)];exact(VW (λ_ _=>rfl) i).symm
theorem gr : ∀(n:Nat) {u z I J:Vc} (c:Int),Wk p w wd T d n u z->Wk p w wd T d n I J->Wk p w wd T d n (λi=>u i+c*I i) λi=>z i+c*J i
 | 0,u,z,I,J,c,h,h'=>λi a=>Vt (h i a)<|h' i a
 | n+1,u,z,I,J,c,⟨y,h1,h2⟩,⟨y',Tx,Tz⟩=>⟨_,gr n c h1 Tx,Cj c h2 Tz⟩
theorem gz(k:Nat):Lk p w wd T k (λ_=>0) λ_=>0:=by unfold Lk;split<;>exact λi _=>by rw[Zz (λ_ _=>by simp) i];simp
theorem JP : ∀n,Wk p w wd T d n (λ_=>0) λ_=>0
 | 0=>λ_ _=>rfl
 | n+1=>⟨_,JP n,gz _⟩
theorem ni(h:Lk p w wd T k y z)(hz : ∀i,i<wd (k+1)->z' i%p=z i%p):Lk p w wd T k y z':=by
 unfold Lk at *;split
 ·next b=>rw[RY b]at h;intro i a;rw[h i a];exact(jE hz i).symm
 ·next b=>rw[EQ b]at h;intro i a;rw[hz i a,h i a]
theorem Cg : ∀{n:Nat} {u z I:Vc},Wk p w wd T d n u z->(∀i,i<wd (d+n)->I i%p=z i%p)->Wk p w wd T d n u I
 | 0,u,z,I,h,hz=>λi a=>by rw[h i a,hz i a]
 | n+1,u,z,I,⟨y,h1,h2⟩,hz=>⟨y,h1,ni h2 hz⟩
theorem nc : ∀{n:Nat} {u I z:Vc},Wk p w wd T d n u z->(∀i,i<wd d->I i%p=u i%p)->Wk p w wd T d n I z
 | 0,u,I,z,h,hu=>λi a=>by rw[hu i a,h i a]
 | n+1,u,I,z,⟨y,h1,h2⟩,hu=>⟨y,nc h1 hu,h2⟩
theorem oA(t:Vc)(u z:Nat->Vc) : ∀K,(∀j,j<K->Wk p w wd T d n (u j) (z j))->Wk p w wd T d n (λi=>zl (λj=>t j*u j i) K) λi=>zl (λj=>t j*z j i) K
 | 0,_=>JP n
 | K+1,h=>gr n (t K) (oA t u z K λj I=>h j ⋯)<|h K ⋯
theorem mX(I:m9 p w wd T m b)(J:k<m)(C:b.has k=dn)(L:b.has (k+1)=dn):Lk p w wd T k (b.v k) (b.v<|k+1):=by
 unfold Lk;cases hw:w k with
 | true=>
  have a:zR w k=k+1:=by unfold zR;rw[hw];rfl
  have z:zZ w k=k:=by unfold zZ;rw[hw];rfl
  rw[RY rfl];intro i d;have:=I.arr k J (by rw[a];exact L) i (by rw[z];exact d);rw[a,z,C,RY rfl]at this;exact this.symm
 | false=>
  have a:zR w k=k:=by unfold zR;rw[hw];rfl
  have z:zZ w k=k+1:=by unfold zZ;rw[hw];rfl
  rw[EQ ⋯];intro i d;have:=I.arr k J (by rw[a];exact C) i (by rw[z];exact d);rw[a,z,L,RY rfl]at this;exact this.symm
theorem Zy(z:m9 p w wd T m b)(C:b.has d=dn) : ∀n,d+n<=m->b.has (d+n)=dn->Wk p w wd T d n (b.v d) (b.v<|d+n)
 | 0,_,_=>λ_ _=>rfl
 | n+1,hn,h2=>by have I:b.has (d+n)=dn:=ji.mpr (by have:=ji.mp C;have:=ji.mp h2;omega);exact⟨_,Zy z C n ⋯ I,mX z ⋯ I h2⟩
theorem VT(I:m9 p w wd T m b)(L:b.has d=dn)(C:w (b.s+b.n - 1)=ed) : ∀n,d+n<=m->b.has (d+n)=ed->Wk p w wd T d n (b.v d) λ_=>0
 | 0,_,h2=>by rw[Nat.add_zero,L]at h2;cases h2
 | n+1,hn,h2=>by
  cases h3:b.has (d+n)with
  | false=>exact⟨_,VT I L C n ⋯ h3,gz _⟩
  | true=>
   refine⟨_,Zy I L n ⋯ h3,?_⟩;have U:=ji.mp h3;have Y : ¬(d+n+1<b.s+b.n):=λz=>by have:b.has (d+(n+1))=dn:=ji.mpr ⋯;rw[this]at h2;cases h2
   have J:b.s+b.n - 1=d+n:=by omega
   rw[J]at C;have a:zR w (d+n)=d+n:=by unfold zR;rw[C];rfl
   have O:zZ w (d+n)=d+n+1:=by unfold zZ;rw[C];rfl
   have:=I.arr (d+n) ⋯;rw[a,O]at this;unfold Lk;rw[C,EQ ⋯];intro i e;rw[this h3 i e,show b.has (d+n+1)=ed from h2];simp
theorem wm(D:o1 p w wd T m N A) : ∀n,d+n<=m->∀{u z:Vc},Wk p w wd T d n u z->∀{a b:Vc},(∀i,i<wd d->u i%p=zl (λj=>if (A j).has d=dn then a j*(A j).v d i else 0) N%p)->(∀i,i<wd (d+n)->z i%p=zl (λj=>if (A j).has (d+n)=dn then b j*(A j).v (d+n) i else 0) N%p)->
 ∀j,j<N->(A j).has d=dn->((A j).has (d+n)=dn->a j%p=b j%p)/\((A j).has (d+n)=ed->w ((A j).s+(A j).n - 1)=dn->a j%p=0):=by
 have t : ∀r,r<=m->∀{v:Vc} {a b:Vc},(∀i,i<wd r->v i%p=zl (λj=>if (A j).has r=dn then a j*(A j).v r i else 0) N%p)->(∀i,i<wd r->v i%p=zl (λj=>if (A j).has r=dn then b j*(A j).v r i else 0) N%p)->∀j,j<N->(A j).has r=dn->a j%p=b j%p:=λr X v a b E l j J O=>by
  have:=D.inj r X (λj=>a j - b j) (λi f=>by
   have e:zl (λj=>if (A j).has r=dn then (a j - b j)*(A j).v r i else 0) N=zl (λj=>if (A j).has r=dn then a j*(A j).v r i else 0) N+zl (λj=>(if (A j).has r=dn then b j*(A j).v r i else 0)*(-1)) N:=by
    rw[<- jy];refine zx λj _=>?_;split
    ·rw[Int.sub_mul];omega
    ·simp
   rw[e,qM,LA,<- E i f,IJ,<- l i f,<- IJ,<- LA,show v i+v i * -1=0 by omega];simp) j J O
  exact Mz.mpr this
 have K : ∀k,k<m->∀(c:Vc) (r o:Nat),r=zR w k->o=zZ w k->∀i,i<wd o->app (T k) (wd r) (oe p A N c r) i%p=zl (λj=>if (A j).has o=dn then (if (A j).has r=dn then c j else 0)*(A j).v o i else 0) N%p:=λk S c r o L M i f=>by
  rw[gh];refine zN λj J=>?_;cases hx:(A j).has r with
  | false=>simp
  | true=>
   have q:=(D.ok j J).arr k S (by rw[<- L];exact hx) i (by rw[<- M];exact f);rw[<- L,<- M]at q;simp only[if_true];rw[IJ,q,<- IJ];cases hy:(A j).has o<;>simp
 intro n
 induction n with
 | zero=>
  intro W u z x a b F Y j J O;refine⟨λ_=>t d ⋯ F (λi f=>by rw[x i f];exact Y i f) j J O,λh=>?_⟩;rw[Nat.add_zero,O]at h;cases h
 | succ n Z=>
  intro W u z x a b F Y j J O;obtain⟨y,E,l⟩:=x;obtain⟨c,G⟩:=D.sp (d+n) ⋯ y;obtain⟨H,P⟩:=Z ⋯ E F G j J O;have Q : ∀i,i<wd (d+n)->y i%p=oe p A N c (d+n) i%p:=λi f=>by rw[G i f];unfold oe;rw[Lf]
  have R : ∀i,i<wd (d+n+1)->z i%p=oe p A N b (d+n+1) i%p:=λi f=>by rw[Y i f];unfold oe;rw[Lf];rfl
  have qd:=ji.mp O;cases hw:w (d+n)with
  | false=>
   have B:zR w (d+n)=d+n:=by unfold zR;rw[hw];rfl
   have C:zZ w (d+n)=d+n+1:=by unfold zZ;rw[hw];rfl
   unfold Lk at l;rw[hw,EQ ⋯]at l;have g:=t (d+n+1) ⋯ (v:=z) Y (b:=λj=>if (A j).has (d+n)=dn then c j else 0) λi f=>by rw[l i f,jE Q i];exact K (d+n) ⋯ c (d+n) (d+n+1) B.symm C.symm i f
   refine⟨λh=>?_,λh U=>?_⟩
   ·have I:(A j).has (d+n)=dn:=ji.mpr (by have:=ji.mp h;omega)
    have:=g j J h;rw[I,RY rfl]at this;rw[H I,this]
   ·cases I:(A j).has (d+n)with
    | false=>exact P I U
    | true=>
     have q3:=ji.mp I;have q2 : ¬(d+n+1<(A j).s+(A j).n):=λz=>by have:(A j).has (d+(n+1))=dn:=ji.mpr ⋯;rw[this]at h;cases h
     rw[show(A j).s+(A j).n - 1=d+n by omega,hw]at U;cases U
  | true=>
   have B:zR w (d+n)=d+n+1:=by unfold zR;rw[hw];rfl
   have C:zZ w (d+n)=d+n:=by unfold zZ;rw[hw];rfl
   unfold Lk at l;rw[hw,RY rfl]at l;have g:=t (d+n) ⋯ (v:=y) G (b:=λj=>if (A j).has (d+n+1)=dn then b j else 0) λi f=>by rw[l i f,jE R i];exact K (d+n) ⋯ b (d+n+1) (d+n) B.symm C.symm i f
   refine⟨λh=>?_,λh U=>?_⟩
   ·have I:(A j).has (d+n)=dn:=ji.mpr (by have:=ji.mp h;omega)
    have:=g j J I;rw[show(A j).has (d+n+1)=dn from h,RY rfl]at this;rw[H I,this]
   ·cases I:(A j).has (d+n)with
    | false=>exact P I U
    | true=>
     have:=g j J I;rw[show(A j).has (d+n+1)=ed from h,EQ ⋯]at this;rw[H I,this];simp
end
section
variable{p:Int}{n:Nat}
theorem nY{l:RZ} : ∀{r:Nat},(∀k m,k<m->m<r->l k<l m)->∃j,j<=r/\∀k,k<r->l k≠j
 | 0,_=>⟨0,IH _,λk I=>absurd I<|Lg _⟩
 | r+1,h=>by
  obtain⟨j,f,d⟩:=nY (r:=r) λk m a b=>h k m a ⋯;by_cases e:l r=j
  ·refine⟨r+1,IH _,λk I=>?_⟩
   rcases IY k r with z | z
   ·have:=h k r z ⋯;omega
   ·rw[show k=r by omega];omega
  ·refine⟨j,by omega,λk I=>?_⟩
   rcases IY k r with z | z
   ·exact d k z
   ·rw[show k=r by omega];exact e
theorem BA(C:Pr p){h N:Nat}{f:RK}(inj : ∀t:Vc,(∀i,i<h->app f N t i%p=0)->∀j,j<N->t j%p=0):N<=h:=by
 rcases IY h N with a9 | a7
 ·exfalso
  obtain⟨r,y,B,l,Y,w⟩:=ZR (n:=N) C h f;obtain⟨J,x,a3⟩:=nY Y.mono;have m:J<N:=by omega
  let t:Vc:=λj=>if j=J then 1 else zl (λk=>if l k=j then B k J*(-1)else 0) r;have s:t J=1:=RY rfl;have A : ∀k,k<r->t (l k)=B k J*(-1):=λk O=>by
   show(if l k=J then _ else _)=_;rw[EQ (a3 k O),zQ (f:=λI=>if l I=l k then B I J*(-1)else 0) O λI U a=>by
    rw[EQ λe=>a (by
     rcases NU I k with z | z | z
     ·have:=Y.mono I k z O;omega
     ·exact z
     ·have:=Y.mono k I z U;omega)]]
   rw[RY rfl]
  have d : ∀k,k<r->zl (λj=>B k j*t j) N=0:=λk O=>by
   have e:zl (λj=>B k j*t j) N=zl (λj=>(if j=J then B k J else 0)+zl (λI=>if l I=j then B k (l I)*(B I J*(-1))else 0) r) N:=zx λj o=>by
    by_cases z:j=J
    ·subst z
     rw[s,RY rfl,zx (g:=λ_=>0) λI U=>EQ<|a3 I U,zT];simp
    ·show B k j*(if j=J then _ else _)=_
     rw[EQ z,EQ z,Int.zero_add,LS,<- qM];refine zx λI U=>?_;by_cases e:l I=j
     ·rw[RY e,RY e,<- e,LS]
     ·rw[EQ e,EQ e];simp
   rw[e,jy,zQ (f:=λj=>if j=J then B k J else 0) m<|λj _ a=>EQ a,RY rfl,qL];have b:zl (λI=>zl (λj=>if l I=j then B k (l I)*(B I J*(-1))else 0) N) r=zl (λI=>B k (l I)*(B I J*(-1))) r:=zx λI U=>by rw[zQ (f:=λj=>if l I=j then B k (l I)*(B I J*(-1))else 0) (Y.lt I U) λj _ a=>EQ<|Ll a,RY rfl]
   rw[b,zQ (f:=λI=>B k (l I)*(B I J*(-1))) O λI U a=>by rw[Y.ra k I O U a];simp];rw[Y.one k O];omega
  have:=inj t (λi u=>by
   have c:=Zh Y<|(w<|f i).mpr (.gen ⟨i,u,rfl⟩);unfold app;have e:zl (λj=>f i j*t j) N%p=zl (λj=>zl (λk=>f i (l k)*B k j) r*t j) N%p:=zN λj o=>by rw[IJ,c j o,<- IJ]
   rw[e];have b:zl (λj=>zl (λk=>f i (l k)*B k j) r*t j) N=zl (λk=>f i (l k)*zl (λj=>B k j*t j) N) r:=by rw[zx (g:=λj=>zl (λk=>f i (l k)*B k j*t j) r) λj _=>(qM _ _ _).symm,qL];refine zx λk _=>?_;rw[<- ju];exact zx λj _=>Mh _ _ _
   rw[b,zx (g:=λ_=>0) λk O=>by rw[d k O,MU],zT];simp) J m
  rw[s,C.one]at this;cases this
 ·exact a7
theorem Wd(W:Nat->Vc)(t:Vc):Span p n (eK m W) λi=>zl (λj=>t j*W j i) m:=Span.sum (u:=W) t λj z=> .gen ⟨j,z,rfl⟩
theorem BK(z:Pr p)(I:h9 p n s B l)(sp : ∀v,Span p n (eK s B) v↔Span p n (eK m W) v)(J : ∀t:Vc,(∀i,i<n->zl (λj=>t j*W j i) m%p=0)->∀j,j<m->t j%p=0):m=s:=by
 have b:s<=m:=by obtain⟨r,e,O⟩:=ZR (n:=n) z m W;have:=vi z (m:=m) (W:=W) ⟨B,l,I,sp⟩ O;omega
 have g:s<=n:=Ve I;have d:m<=s:=BA z (f:=λi j=>W j<|l i) λt U=>J t λi a=>by
  have c:=Zh I ((sp _).mpr (Wd (n:=n) W t)) i a;rw[c];have:zl (λk=>zl (λj=>t j*W j (l k)) m*B k i) s%p=zl (λ_=>0) s%p:=zN λk Y=>by have:=U k Y;unfold app at this;rw[qN]at this;rw[IJ,this];simp
  rw[this,zT];simp
 omega
theorem mH(hp:Pr p){s q c:Nat}{B C V:Nat->Vc}{l L:RZ}(hX:h9 p n s B l)(O:h9 p n q C L)(Z : ∀j,j<c->Span p n (eK s B) (V j))(S : ∀v,Span p n (eK q C) v->Span p n (eK s B) v)
 (Sx : ∀v,Span p n (eK s B) v->∃t:Vc,Span p n (eK q C) λi=>v i - zl (λj=>t j*V j i) c) (a8 : ∀t:Vc,Span p n (eK q C) (λi=>zl (λj=>t j*V j i) c)->∀j,j<c->t j%p=0):q+c=s:=by
 let W:Nat->Vc:=λj=>if j<q then C j else V (j - q);have U : ∀j,j<q->W j=C j:=λj I=>RY I;have Y : ∀j,W (q+j)=V j:=λj=>by show(if q+j<q then _ else _)=_;rw[EQ ⋯,Mo]
 have u : ∀t:Vc,∀i,zl (λj=>t j*W j i) (q+c)=zl (λj=>t j*C j i) q+zl (λj=>t (q+j)*V j i) c:=λt i=>by
  rw[Ku];congr 1
  ·exact zx λj I=>by rw[U j I]
  ·exact zx λj I=>by rw[Y j]
 refine BK hp hX (W:=W) (λv=>⟨λm=>?_,λm=>m.le λg b=>?_⟩) λt o=>?_
 ·obtain⟨t,h⟩:=Sx v m
  have a:Span p n (eK (q+c) W) λi=>v i - zl (λj=>t j*V j i) c:=h.le λg b=>by obtain⟨k,J,rfl⟩:=b;rw[<- U k J];exact .gen ⟨k,by omega,rfl⟩
  have y:Span p n (eK (q+c) W) λi=>zl (λj=>t j*V j i) c:=Span.sum t λj I=>by rw[<- Y j];exact .gen ⟨q+j,by omega,rfl⟩
  exact(y.add a 1).congr λi _=>by rw[Int.one_mul,Int.sub_add_cancel]
 ·obtain⟨k,J,rfl⟩:=b
  rcases IY k q with z | z
  ·rw[U k z];exact S _<|.gen ⟨k,z,rfl⟩
  ·obtain⟨j,rfl⟩ : ∃j,k=q+j:=⟨k - q,by omega⟩
   rw[Y j];exact Z j ⋯
 ·have r : ∀j,j<c->t (q+j)%p=0:=a8 (λj=>t<|q+j) ((Wd (n:=n) C λj=> -1*t j).congr λi d=>by
   have:=o i d;rw[u]at this;have e:zl (λj=> -1*t j*C j i) q=zl (λj=>t j*C j i) q * -1:=by rw[<- qM];exact zx λj _=>by rw[LS (-1),Mh,LS (-1),Mh]
   rw[e];refine Mz.mpr ?_;rw[<- this];congr 1;omega)
  intro j I;rcases IY j q with z | z
  ·have x : ∀i,i<n->zl (λj=>t j*C j i) q%p=0:=λi d=>by
    have:=o i d;rw[u,LA]at this;have e:zl (λj=>t (q+j)*V j i) c%p=zl (λ_=>0) c%p:=zN λj I=>by rw[IJ,r j I];simp
    rw[e,zT]at this;simpa using this
   have a:=x (L j)<|O.lt j z;rw[zQ (f:=λk=>t k*C k (L j)) z λk J w=>by rw[O.ra k j J z (Ll w)];simp]at a;rw[O.one j z,Ot]at a;exact a
  ·obtain⟨k,rfl⟩ : ∃k,j=q+k:=⟨j - q,by omega⟩
   exact r k ⋯
end
noncomputable def ow(A:Nat->fA)(N d e:Nat):List Nat:=(Iz N).filter λj=>(A j).has d && (A j).has e
section
variable{p:Int}{w:RX}{wd:RZ}{T:RV}{m N n:Nat}{A:Nat->fA}{d:Nat}
theorem fK(z:k<(ow A N d e).length):(ow A N d e).getD k 0<N/\(A<|(ow A N d e).getD k 0).has d=dn/\(A<|(ow A N d e).getD k 0).has e=dn:=by
 have f:(ow A N d e).getD k 0∈ow A N d e:=by rw[IF,ID z];exact MW _
 obtain⟨b,a⟩:=Lb.mp f;simp only[IS]at a;exact⟨IC.mp b,a.1,a.2⟩
theorem BL(D:o1 p w wd T m N A)(C:d<=m)(e:Nat):(ow A N d e).length<=wd d:=by rw[<- D.cnt d C];unfold ow il;rw[<- Lu,<- Lu];exact List.countP_mono_left λj _ h=>by simp only[IS]at h;exact h.1
theorem mN(d e:Nat)(t:Vc) : ∃a:Vc,∀k,k<(ow A N d e).length->a ((ow A N d e).getD k 0)=t k:=by refine⟨λj=>t<|(ow A N d e).idxOf j,λk z=>?_⟩;have b:(ow A N d e).Nodup:=OS.sublist Om;show t _=_;rw[IF,ID z,NX,b.idxOf_getElem _ z]
theorem fJ(d e:Nat)(a:Vc)(i:Nat):zl (λk=>a ((ow A N d e).getD k 0)*(A<|(ow A N d e).getD k 0).v d i) (ow A N d e).length=zl (λj=>if (A j).has d=dn then (if (A j).has e=dn then a j else 0)*(A j).v d i else 0) N:=by have:=yP (λj=>(A j).has d && (A j).has e) (λj=>a j*(A j).v d i) N;refine this.trans<|zx λj _=>?_;cases (A j).has d<;>cases (A j).has e<;>simp
theorem WS(hp:Pr p)(D:o1 p w wd T m N A)(C:d+n<=m){s q:Nat}{B L:Nat->Vc}{l l2:RZ}(Z:h9 p (wd d) s B l)(O : ∀u,Span p (wd d) (eK s B) u ↔ ∃z,Wk p w wd T d n u z)
 (S:h9 p (wd d) q L l2) (U : ∀u,Span p (wd d) (eK q L) u↔Wk p w wd T d n u λ_=>0):q+(ow A N d<|d+n).length=s:=by
 have P:=BL D (show d<=m by omega)<|d+n;have Q:=Ve S;refine mH hp Z S (V:=λk=>(A<|(ow A N d<|d+n).getD k 0).v d) (λk I=>?_) (λv Y=>(O v).mpr ⟨_,(U v).mp Y⟩) (λv Y=>?_) λt K=>?_
 ·obtain⟨f,g,J⟩:=fK I
  exact(O _).mpr ⟨_,Zy (D.ok _ f) g n C J⟩
 ·obtain⟨z,y⟩:=(O v).mp Y
  obtain⟨a,o⟩:=D.sp d ⋯ v;obtain⟨b,G⟩:=D.sp (d+n) C z;have r:=wm D n C y o G;refine⟨λk=>a<|(ow A N d<|d+n).getD k 0,(U _).mpr ?_⟩;let u:Nat->Vc:=λj=>if (A j).has d=dn/\(A j).has (d+n)=ed/\w ((A j).s+(A j).n - 1)=ed then (A j).v d else λ_=>0;have M : ∀j,j<N->Wk p w wd T d n (u j) λ_=>0:=λj x=>by
   show Wk p w wd T d n (if _ then _ else _) _;split
   ·next h=>exact VT (D.ok j x) h.1 h.2.2 n C h.2.1
   ·exact JP n
  have H:=oA a u (λ_ _=>0) N M;refine Cg (nc H λi E=>?_) λi _=>by simp[zT]
  rw[fJ d (d+n) a i];rw[Mx,o i E,<- Mx];have e:zl (λj=>if (A j).has d=dn then a j*(A j).v d i else 0) N - zl (λj=>if (A j).has d=dn then (if (A j).has (d+n)=dn then a j else 0)*(A j).v d i else 0) N=zl (λj=>(if (A j).has d=dn then a j*(A j).v d i else 0)+(if (A j).has d=dn then (if (A j).has (d+n)=dn then a j else 0)*(A j).v d i else 0) * -1) N:=by rw[jy,qM];omega
  rw[e];refine zN λj x=>?_;show _=a j*(if _ then (A j).v d else λ_=>0) i%p;cases f:(A j).has d with
  | false=>simp
  | true=>
   cases g:(A j).has (d+n)with
   | true=>
    have F:a j*(A j).v d i+a j*(A j).v d i * -1=0:=by omega
    simp only[if_true,F,Bool.true_eq_false,false_and,and_false,if_false,MU]
   | false=>
    cases J:w ((A j).s+(A j).n - 1)with
    | false=>simp
    | true=>
     have:=(r j x f).2 g J;simp only[if_true,My,if_false,Nk,Nl,MU,Bool.true_eq_false,and_false];rw[IJ,this];simp
 ·obtain⟨a,o⟩:=mN (A:=A) (N:=N) d (d+n) t
  have y:=(U _).mp K;have r:=wm D n C y (a:=λj=>if (A j).has (d+n)=dn then a j else 0) (b:=λ_=>0) (λi E=>by
   rw[<- fJ d (d+n) a i];congr 1;exact zx λk I=>by rw[o k I]) (λi _=>by
   have:zl (λj=>if (A j).has (d+n)=dn then 0*(A j).v (d+n) i else 0) N=zl (λ_=>0) N:=zx λj _=>by simp
   rw[this,zT])
  intro k I;obtain⟨f,g,J⟩:=fK I;have:=(r _ f g).1 J;rw[J,RY rfl,o k I]at this;simpa using this
end
section
variable{p:Int}{w:RX}{wd:RZ}{T:RV}{m N:Nat}{A:Nat->fA}
theorem mj(r:Nat)(t:Vc) : ∃a:Vc,∀k,k<(il A N r).length->a ((il A N r).getD k 0)=t k:=by refine⟨λj=>t<|(il A N r).idxOf j,λk z=>?_⟩;show t _=_;rw[IF,ID z,NX,(Yq A N r).idxOf_getElem _ z]
theorem eU(r:Nat)(a:Vc)(i:Nat):zl (λj=>if (A j).has r=dn then a j*(A j).v r i else 0) N=app (xl A N r) (il A N r).length (λk=>a<|(il A N r).getD k 0) i:=by have:=yP (λj=>(A j).has r) (λj=>a j*(A j).v r i) N;rw[<- this];unfold app;rw[qN];rfl
theorem Bv(z:j<N)(I:(A j).has r=dn) : ∃k,k<(il A N r).length/\(il A N r).getD k 0=j:=by have J:j∈il A N r:=Lb.mpr ⟨IC.mpr z,by simpa using I⟩;obtain⟨i,a,e⟩:=Oj J;exact⟨i,a,by rw[IF,ID a];simpa using e⟩
theorem sH(U:Pr p)(Y : ∀k,wd k<=8)(ok : ∀j,j<N->m9 p w wd T m (A j))(cnt : ∀r,r<=m->(il A N r).length=wd r)(O : ∀r,r<=m->∀v:Vc,∃t,∀i,i<wd r->v i%p=app (xl A N r) (wd r) t i%p):o1 p w wd T m N A where
 ok:=ok
 cnt:=cnt
 sp:=λr z v=>by obtain⟨t,I⟩:=O r z v;obtain⟨a,ha⟩:=mj (A:=A) (N:=N) r t;refine⟨a,λi hi=>?_⟩;rw[I i hi,eU,cnt r z];unfold app;congr 1;exact zx λk J=>by show _=_*a _;rw[ha k (by rw[cnt r z];exact J)]
 inj:=λr z t I j hj hh=>by
  obtain⟨k,J,e⟩:=Bv hj hh;have:=vm U (Y r) (O r z) (t:=λk=>t<|(il A N r).getD k 0) (λi hi=>by have:=I i hi;rw[eU,cnt r z]at this;exact this) k (by rw[<- cnt r z];exact J)
  rw[e]at this;exact this
end
section
variable{p:Int}{w:RX}{wd:RZ}{T f g:RV}{m N:Nat}{A:Nat->fA}
theorem VV(F G:RK)(n k:Nat)(u:Vc)(i:Nat):app F n (app G k u) i=zl (λj=>zl (λb=>F i b*G b j) n*u j) k:=by
 unfold app;have e:zl (λb=>F i b*zl (λj=>G b j*u j) k) n=zl (λb=>zl (λj=>F i b*G b j*u j) k) n:=zx λb _=>by rw[<- ju];exact zx λj _=>(Mh _ _ _).symm
 rw[e,qL];exact zx λj _=>qM _ _ _
theorem Zk(h:Kg p n F G)(u:Vc)(hi:i<n):app F n (app G n u) i%p=u i%p:=by
 rw[VV];have e:zl (λj=>zl (λb=>F i b*G b j) n*u j) n%p=zl (λj=>i5 i j*u j) n%p:=zN λj z=>by rw[IJ,h i j hi z,<- IJ]
 rw[e,zQ (f:=λj=>i5 i j*u j) hi λj _ I=>by unfold i5;rw[EQ (Ll I),Nk]];unfold i5;rw[RY rfl,Int.one_mul]
theorem gT(k:Nat)(u:Vc)(i:Nat):app (kQ p w wd f g T k) (wd<|zR w k) u i%p=app (f<|zZ w k) (wd<|zZ w k) (app (T k) (wd<|zR w k)<|app (g<|zR w k) (wd<|zR w k) u) i%p:=by
 rw[VV];show _=app (λi b=>zl (λa=>f (zZ w k) i a*T k a b)<|wd<|zZ w k) (wd<|zR w k) (app (g<|zR w k) (wd<|zR w k) u) i%p;rw[VV];have e:app (kQ p w wd f g T k) (wd<|zR w k) u i%p=zl (λj=>zl (λb=>zl (λa=>f (zZ w k) i a*T k a b) (wd<|zZ w k)*g (zR w k) b j) (wd<|zR w k)*u j) (wd<|zR w k)%p:=by
  unfold app;refine zN λj _=>?_;rw[IJ];have z:kQ p w wd f g T k i j%p=zl (λb=>zl (λa=>f (zZ w k) i a*T k a b) (wd<|zZ w k)*g (zR w k) b j) (wd<|zR w k)%p:=by unfold kQ;rw[Lf];refine zN λb _=>?_;rw[IJ,Lf,<- IJ,LS,zx (g:=λa=>f (zZ w k) i a*T k a b) λa _=>LS _ _]
  rw[z,<- IJ]
 exact e
noncomputable def ZF(p:Int)(wd:RZ)(f:RV)(x:fA):fA:=⟨x.s,x.n,λr i=>app (f r) (wd r) (x.v r) i%p⟩
theorem ZE(x:fA)(r i:Nat):(ZF p wd f x).v r i%p=app (f r) (wd r) (x.v r) i%p:=Lf _ _
theorem uE(q:RX)(t:Vc)(F:RK)(n r i:Nat)(X:Nat->fA):zl (λj=>if q j=dn then t j*app F n ((X j).v r) i else 0) N=app F n (λi=>zl (λj=>if q j=dn then t j*(X j).v r i else 0) N) i:=by
 have a:(λi=>zl (λj=>if q j=dn then t j*(X j).v r i else 0) N)=λi=>zl (λj=>(if q j=dn then t j else 0)*(X j).v r i) N:=by funext i;exact zx λj _=>by split<;>simp
 rw[a,yb F n (λj=>if q j=dn then t j else 0) (λj=>(X j).v r) N i];exact zx λj _=>by split<;>simp
theorem Ks(S:0<p)(L : ∀r,r<=m->Kg p (wd r) (f r) (g r))(C : ∀r,r<=m->Kg p (wd r) (g r) (f r))(D:o1 p w wd T m N A):o1 p w wd (kQ p w wd f g T) m N λj=>ZF p wd f (A j):=by
 have s : ∀z:Int,0<=z%p/\z%p<p:=λz=>⟨Lp _ ⋯,La _ S⟩;have e : ∀r i (t:Vc),zl (λj=>if (A j).has r=dn then t j*(ZF p wd f<|A j).v r i else 0) N%p=app (f r) (wd r) (λi=>zl (λj=>if (A j).has r=dn then t j*(A j).v r i else 0) N) i%p:=λr i t=>by
  rw[<- uE (λj=>(A j).has r) t (f r) (wd r) r i A];refine zN λj _=>?_;split
  ·rw[IJ,ZE,<- IJ]
  ·rfl
 refine⟨λj J=>?_,λr I v=>?_,λr I t O j J U=>?_,D.cnt⟩
 ·have b:=D.ok j J
  refine⟨b.n1,b.le,λr i _ _=>s _,λk h U i d=>?_⟩;have l:zR w k<=m:=by have:=tf w h;omega
  have Y:(A j).has (zR w k)=dn:=U;rw[gT];have n : ∀x,x<wd (zR w k)->app (g<|zR w k) (wd<|zR w k) ((ZF p wd f<|A j).v (zR w k)) x%p=(A j).v (zR w k) x%p:=λx a=>by rw[jE (u:=app (f<|zR w k) (wd<|zR w k)<|(A j).v (zR w k)) (λy _=>ZE _ _ _),Zk (C _ l) _ a]
  have o : ∀x,x<wd (zZ w k)->app (T k) (wd<|zR w k) (app (g<|zR w k) (wd<|zR w k)<|(ZF p wd f<|A j).v (zR w k)) x%p=(if (A j).has (zZ w k)=dn then (A j).v (zZ w k) x else 0)%p:=λx a=>by rw[jE (u:=(A j).v (zR w k)) n];exact b.arr k h Y x a
  rw[jE o];show _=(if (A j).has (zZ w k)=dn then (ZF p wd f<|A j).v (zZ w k) i else 0)%p;by_cases a:(A j).has (zZ w k)=dn
  ·simp only[a,if_true]
   exact(ZE _ _ _).symm
  ·simp only[a,if_false]
   rw[Zz (λ_ _=>by simp) i];simp
 ·obtain⟨t,O⟩:=D.sp r I (app (g r) (wd r) v)
  refine⟨t,λi d=>?_⟩;show _=zl (λj=>if (A j).has r=dn then t j*(ZF p wd f<|A j).v r i else 0) N%p;rw[e,<- Zk (L r I) v d];exact jE O i
 ·have Y:(A j).has r=dn:=U
  refine D.inj r I t (λi d=>?_) j J Y;have z : ∀x,x<wd r->app (f r) (wd r) (λi=>zl (λj=>if (A j).has r=dn then t j*(A j).v r i else 0) N) x%p=0:=λx a=>by rw[<- e];exact O x a
  rw[<- Zk (C r I) (λi=>zl (λj=>if (A j).has r=dn then t j*(A j).v r i else 0) N) d];exact Zz z i
end
noncomputable def gV(p:Int)(a b:Nat)(c:Int)(v:Vc):Vc:=λi=>if i=b then (v b+c*v a)%p else v i
noncomputable def GF(S E:RZ)(j:Nat):fA:=⟨S j,E j - S j+1,λ_ _=>0⟩
noncomputable def j5(S E:RZ)(N r:Nat):List Nat:=il (GF S E) N r
noncomputable def Yk(S E:RZ)(N j:Nat):fA:=⟨S j,E j - S j+1,λr i=>if (j5 S E N r).getD i N=j then 1 else 0⟩
noncomputable def eJ(S E:RZ)(N r:Nat):Nat:=(j5 S E N r).length
noncomputable def lZ(w:RX)(S E:RZ)(N k i j:Nat):Int:=if (j5 S E N<|zZ w k).getD i N=(j5 S E N<|zR w k).getD j (N+1)then 1 else 0
section
variable{S E:RZ}{N r:Nat}{w:RX}{p:Int}{m:Nat}
theorem ia:(j5 S E N r).Nodup:=List.Nodup.sublist Om OS
theorem Sy{j:Nat}:j∈j5 S E N r↔j<N/\(Yk S E N j).has r=dn:=by unfold j5 il;rw[Lb,IC];rfl
theorem Wf{j:Nat}(h:j<N)(I:(Yk S E N j).has r=dn) : ∃c,c<eJ S E N r/\(j5 S E N r)[c]? = di j:=by obtain⟨c,z⟩:=Pf<|Sy.mpr ⟨h,I⟩;exact⟨c,(IP.mp z).1,z⟩
theorem ZK{c d:Nat}(h:c<eJ S E N r) : ∃j,(j5 S E N r)[c]? = di j/\(j5 S E N r).getD c d=j/\j<N/\(Yk S E N j).has r=dn:=by have e:=ID (l:=j5 S E N r) h;obtain⟨a,b⟩:=Sy.mp<|LB e;exact⟨_,e,by rw[IF,e];rfl,a,b⟩
theorem Kz{c z j:Nat}(C:(j5 S E N r)[c]? = di j)(I:(j5 S E N r)[z]? = di j):c=z:=by exact(List.getElem?_inj (IP.mp C).1 ia).mp (C.trans I.symm)
theorem QT{c j:Nat}(h:c<eJ S E N r):(Yk S E N j).v r c=if (j5 S E N r)[c]? = di j then 1 else 0:=by
 obtain⟨I,a,J,_⟩:=ZK (d:=N) h;show(if (j5 S E N r).getD c N=j then (1:Int)else 0)=_;rw[a,J];by_cases z:I=j
 ·rw[RY z,RY (by rw[z])]
 ·rw[EQ z,EQ (λq=>z<|Lq q)]
theorem WO(L:Pr p)(C : ∀j,j<N->S j<=E j/\E j<=m):o1 p w (eJ S E N) (lZ w S E N) m N (Yk S E N):=by
 have two:=L.two;refine⟨λj J=>⟨by show 1<=_+1;omega,by show S j+(E j - S j+1)<=m+1;have:=C j J;omega,λr i _ _=>?_,λk F g i a=>?_⟩,λr o v=>?_,λr o t y j J g=>?_,λr o=>rfl⟩
 ·show 0<=(if _ then (1:Int)else 0)/\(if _ then (1:Int)else 0)<p
  split<;>omega
 ·obtain⟨O,U,Y⟩:=Wf J g
  obtain⟨x,b,s,u,l⟩:=ZK (d:=N) a;have e:app (lZ w S E N k) (eJ S E N<|zR w k) ((Yk S E N j).v (zR w k)) i=lZ w S E N k i O:=by
   unfold app;rw[zQ (f:=λc=>lZ w S E N k i c*(Yk S E N j).v (zR w k) c) U λc n I=>by rw[QT n,EQ<|λq=>I<|Kz q Y,MU]]
   rw[QT U,RY Y,Ot]
  rw[e];congr 1;unfold lZ;rw[show(j5 S E N<|zR w k).getD O (N+1)=j by rw[IF,Y];rfl];by_cases h:(Yk S E N j).has (zZ w k)=dn
  ·rw[RY h];rfl
  ·rw[EQ h,s,EQ (λz=>h<|by rw[<- z];exact l)]
 ·refine⟨λj=>zl (λc=>if (j5 S E N r)[c]? = di j then v c else 0)<|eJ S E N r,λi a=>?_⟩
  obtain⟨x,b,s,u,l⟩:=ZK (d:=N) a;rw[zQ (f:=λj=>if (Yk S E N j).has r=dn then zl (λc=>if (j5 S E N r)[c]? = di j then v c else 0) (eJ S E N r)*(Yk S E N j).v r i else 0) u λj J I=>by rw[QT a,show(if (j5 S E N r)[i]? = di j then (1:Int)else 0)=0 from EQ<|λq=>I<|Lq<|q.symm.trans b,MU,ite_self]]
  rw[RY l,QT a,RY b,Ot,zQ (f:=λc=>if (j5 S E N r)[c]? = di x then v c else 0) a λc n I=>EQ λq=>I<|Kz q b,RY b]
 ·obtain⟨O,U,Y⟩:=Wf J g
  have:=y O U;rw[zQ (f:=λj=>if (Yk S E N j).has r=dn then t j*(Yk S E N j).v r O else 0) J λA B I=>by rw[QT U,show(if (j5 S E N r)[O]? = di A then (1:Int)else 0)=0 from EQ<|λq=>I<|Lq<|q.symm.trans Y,MU,ite_self]]at this
  rw[RY g,QT U,RY Y,Ot]at this;exact this
theorem lY(z:Pr p) : ∀k x y,0<=lZ w S E N k x y/\lZ w S E N k x y<p:=λk x y=>by have:=z.two;unfold lZ;split<;>omega
end
section
variable{p:Int}{m:Nat}{w:RX}{wd:RZ}{T:RV}
noncomputable def bX(w:RX)(wd:RZ)(T:RV)(m:Nat):List D:=(Iz m).map λk=>D.lst<|fG (iS w wd k) (iW w wd k)<|T k
@[simp] theorem uy(m):(bX w wd T m).length=m:=by simp[bX]
abbrev rc(p:Int)(m:Nat)(w:RX)(wd:RZ)(T:RV)(acc:List D)(c5 c6 c7 c8:Cell):Ctx:=[.val (.int p),.val (.str (jJ m w)),.val (.lst (zJ (m+1) λk=>(wd k:Int))),.val (.lst (bX w wd T m)),.own acc,c5,c6,c7,c8]
end
noncomputable def stN(M:Nat):List (Nat×Nat):=(Iz M).flatMap λi=>(Ng i<|M - i).map λj=>(i,j)
noncomputable def kI(s:Nat×Nat):List Int:=[(s.1:Int),(s.2:Int)]
noncomputable def kD(s:Nat×Nat):D:= .tup [.int s.1,.int s.2]
theorem DU:s∈stN M↔s.1<=s.2/\s.2<M:=by
 unfold stN;simp only[List.mem_flatMap,IC,Lh,List.mem_range'_1];constructor
 ·rintro⟨i,a,j,z,rfl⟩
  exact⟨z.1,by show j<M;omega⟩
 ·intro h
  exact⟨s.1,by omega,s.2,⟨h.1,by omega⟩,rfl⟩
theorem ib : ∀M:Fin 7,(stN M.val).Nodup/\((stN M.val).map kI).Nodup/\(stN M.val).length<=21:=by decide +kernel
theorem EG : ∀M:Fin 7,qj [.int (M.val:Int)]=di (.own<|(stN M.val).map kD)
 | ⟨0,_⟩=>by kernel_rfl
 | ⟨1,_⟩=>by kernel_rfl
 | ⟨2,_⟩=>by kernel_rfl
 | ⟨3,_⟩=>by kernel_rfl
 | ⟨4,_⟩=>by kernel_rfl
 | ⟨5,_⟩=>by kernel_rfl
 | ⟨6,_⟩=>by kernel_rfl
noncomputable def Sr:=jj 2<|uQ<|zS (zL<|zg 1) (.tp [0,1]) 2 [0] jt (qB<|zb (qB<|zb (zf 0)<|zb (zf 1) zD)<|zb (zB Cm<|zb (zf 2)<|zb (zf 0)<|zb (zf 1) zD) zD)
noncomputable def kT:List Int->Int
 | []=>0
 | x::r=>x+kT r
theorem yw : ∀L:List Int,Y6 (L.map D.int)=di (kT L)
 | []=>rfl
 | x::L=>by show(Y6<|L.map D.int).map _=_;rw[yw L];rfl
noncomputable def n9(K:List (Nat×Nat))(a b:Int):Nat:=K.countP λx=>decide ((x.1:Int)<=a) && decide (b<=(x.2:Int))
noncomputable def wb(K:List (Nat×Nat))(s:Nat×Nat):Nat:=K.countP λx=>decide<|x=s
theorem Zu(x:Nat×Nat)(K:List (Nat×Nat))(a b:Int):(n9 (x::K) a b:Int)=(n9 K a b:Int)+if (x.1:Int)<=a/\b<=(x.2:Int)then 1 else 0:=by
 unfold n9;rw[OT];by_cases d:(x.1:Int)<=a
 ·by_cases e:b<=(x.2:Int)
  ·rw[RY (show(decide ((x.1:Int)<=a) && decide (b<=(x.2:Int)))=dn by simp only[decide_eq_true d,decide_eq_true e];rfl),RY ⟨d,e⟩];rfl
  ·rw[EQ (show ¬(decide ((x.1:Int)<=a) && decide (b<=(x.2:Int)))=dn by simp only[decide_eq_false e,Bool.and_false];decide),EQ λz=>e z.2];rfl
 ·rw[EQ (show ¬(decide ((x.1:Int)<=a) && decide (b<=(x.2:Int)))=dn by simp only[decide_eq_false d,Bool.false_and];decide),EQ λz=>d z.1];rfl
theorem lR(x s:Nat×Nat)(K:List (Nat×Nat)):(wb (x::K) s:Int)=(wb K s:Int)+if (x.1=s.1/\x.2=s.2)then 1 else 0:=by
 unfold wb;rw[OT];by_cases h:x=s
 ·rw[RY (decide_eq_true h),RY (by rw[h];exact⟨rfl,rfl⟩)];rfl
 ·rw[EQ (by simpa using h),EQ λz=>h (Prod.ext z.1 z.2)];rfl
theorem Jq(s:Nat×Nat) : ∀K:List (Nat×Nat),(n9 K s.1 s.2:Int) - ((n9 K ((s.1:Int) - 1) s.2:Int)+(n9 K s.1 ((s.2:Int)+1):Int))+(n9 K ((s.1:Int) - 1) ((s.2:Int)+1):Int)=(wb K s:Int)
 | []=>rfl
 | x::K=>by
  have z:=Jq s K;rw[Zu,Zu,Zu,Zu,lR];generalize (n9 K s.1 s.2:Int)=I at *;generalize (n9 K ((s.1:Int) - 1) s.2:Int)=J at *;generalize (n9 K s.1 ((s.2:Int)+1):Int)=c3 at *;generalize (n9 K ((s.1:Int) - 1) ((s.2:Int)+1):Int)=c4 at *;generalize (wb K s:Int)=c5 at *
  repeat' split
  all_goals omega
section
variable{p:Int}{w:RX}{wd:RZ}{T:RV}{m N:Nat}{A:Nat->fA}
noncomputable def mh(A:Nat->fA)(N:Nat):List (Nat×Nat):=(Iz N).map λj=>((A j).s,(A j).s+(A j).n - 1)
theorem XW(D:o1 p w wd T m N A) : ∀x,x∈mh A N->x∈stN (m+1):=λx a=>by obtain⟨j,z,rfl⟩:=Lh.mp a;have b:=(D.ok j<|IC.mp z).n1;have d:=(D.ok j<|IC.mp z).le;exact DU.mpr (by show(A j).s<=(A j).s+(A j).n - 1/\(A j).s+(A j).n - 1<m+1;omega)
theorem om(D:o1 p w wd T m N A)(I:i<=j):(ow A N i j).length=n9 (mh A N) i j:=by unfold ow n9 mh;rw[<- Lu,NK];refine Mn λk z=>?_;have a:=(D.ok k<|IC.mp z).n1;simp only[IS,Function.comp_def,decide_eq_true_eq];rw[ji,ji];omega
end
noncomputable def u1:=(jj 1<|zB jn<|zb (zf 0)<|zb (zu<|.int 0) zD)
noncomputable def u2:=(jj 2<|d8 (jF<|qr<|zb (zu<|.int 2)<|zb (zu<|.int 3)<|zb (zu<|.int 5)<|zb (zu<|.int 7) zD)<|zG ky (zf 1)<|zu<|.int 4)
noncomputable def u3:=(ZQ (.tp [3,4])<|d8 (jF<|qr<|zb (qB<|zb (zu<|.int 4)<|zb (zu<|.int 2) zD)<|zb (qB<|zb (zu<|.int 3)<|zb (zu<|.int 2) zD)<|zb (qB<|zb (zu<|.int 2)<|zb (zu<|.int 2) zD)<|zb (qB<|zb (zu<|.int 2)<|zb (zu<|.int 2) zD)<|zb (qB<|zb (zu<|.int 6)<|zb (zu<|.int 1) zD)<|zb (qB<|zb (zu<|.int 5)<|zb (zu<|.int 1) zD)<|zb (qB<|zb (zu<|.int 4)<|zb (zu<|.int 1) zD)<|zb (qB<|zb (zu<|.int 3)<|zb (zu<|.int 1) zD) zD)<|zG ky (zf 1)<|zu<|.int 8)
theorem AE{c:Int}(h:0<=c) : ∃q:Nat,Pr (q:Int)/\([D.int 2,.int 3,.int 5,.int 7])[(c%4).toNat]? = di (.int q)/\g9 4 (c%4)=di (c%4).toNat:=by
 have a:=Lp c (show(4:Int)≠0 by decide);have b:=La c (show(0:Int)<4 by decide);obtain⟨r,z⟩:=MV a;rw[z];have I:r<4:=by omega
 rw[qm,RY I,Nt];rcases (by omega:r=0\/r=1\/r=2\/r=3)with e | e | e | e<;>subst e
 ·exact⟨2,.inl rfl,rfl,rfl⟩
 ·exact⟨3,.inr<|.inl rfl,rfl,rfl⟩
 ·exact⟨5,.inr<|.inr<|.inl rfl,rfl,rfl⟩
 ·exact⟨7,.inr<|.inr<|.inr rfl,rfl,rfl⟩
noncomputable def bS(bs:List (Int×Int))(j:Nat):Nat:=(bs.getD j (0,0)).1.toNat
noncomputable def bE(bs:List (Int×Int))(j:Nat):Nat:=(bs.getD j (0,0)).2.toNat
abbrev bW(bs:List (Int×Int)):Nat->Nat:=eJ (bS bs) (bE bs) bs.length
abbrev bT(w:RX)(bs:List (Int×Int)):Nat->Nat->Nat->Int:=lZ w (bS bs) (bE bs) bs.length
abbrev bL(bs:List (Int×Int))(r:Nat):List Nat:=j5 (bS bs) (bE bs) bs.length r
section
variable{bs:List (Int×Int)}{m:Nat}{w:RX}
theorem bu(h : ∀b∈bs,xq ((m+1:Nat):Int) b){j:Nat}(z:j<bs.length):bs[j]? = di ((bS bs j:Int),(bE bs j:Int))/\bS bs j<=bE bs j/\bE bs j<=m:=by have e:=ID z;have I:=h _<|LB e;obtain⟨a,d,J⟩:=I;unfold bS bE;rw[IF,e,NX];refine⟨?_,by omega,by omega⟩;congr 1;exact Prod.ext (by dsimp only;omega) (by dsimp only;omega)
end
section
variable{bs:List (Int×Int)}{m:Nat}
theorem fZ(h : ∀b∈bs,xq ((m+1:Nat):Int) b):bs=(Iz bs.length).map λj=>((bS bs j:Int),(bE bs j:Int)):=by
 apply Mt;intro j;by_cases z:j<bs.length
 ·rw[(bu h z).1];simp[z]
 ·rw[List.getElem?_eq_none ⋯,List.getElem?_eq_none (by simpa using z)]
end
theorem Jg : ∀bs:List (Int×Int),lW (zv bs)=dn
 | []=>rfl
 | b::bs=>by have z:=Jg bs;unfold zv at z ⊢;rw[Ld];show(kr _ && lW _)=dn;rw[z];rfl
section
variable{p:Int}{w:RX}{wd:RZ}{T:RV}{m N:Nat}{A:Nat->fA}
theorem lQ{M:Nat}{K I:List (Nat×Nat)}(C : ∀x,x∈K->x∈stN M)(S : ∀x,x∈I->x∈stN M)(h : ∀a b:Nat,a<=b->b<M->n9 K a b=n9 I a b){s:Nat×Nat}(Z:s.1<=s.2):wb K s=wb I s:=by
 have z : ∀{L:List (Nat×Nat)} {a b:Int},(∀x,x∈L->x∈stN M)->a<0\/(M:Int)<=b->n9 L a b=0:=λ{L a b} O U=>by unfold n9;rw[Ol];intro x d q;have:=DU.mp<|O x d;simp only[IS,decide_eq_true_eq]at q;omega
 have J : ∀{a b:Int},a<=b->n9 K a b=n9 I a b:=λ{a b} U=>by
  by_cases c:a<0\/(M:Int)<=b
  ·rw[z C c,z S c]
  ·have:=h a.toNat b.toNat ⋯ ⋯
   rw[ND ⋯,ND ⋯]at this;exact this
 have Y:=Jq s K;have e:=Jq s I;rw[J ⋯,J ⋯,J ⋯,J ⋯]at Y;omega
end
section
variable{p:Int}{w:RX}{wd:RZ}{T:RV}{m N N':Nat}{A A':Nat->fA}{d n:Nat}
noncomputable def DC(w:RX)(A:Nat->fA)(d n:Nat)(z:Bool)(j:Nat):Bool:=(A j).has d && ((!z && (A j).has (d+n)) || (!(A j).has (d+n) && !w ((A j).s+(A j).n - 1)))
noncomputable def DD(w:RX)(A:Nat->fA)(d n:Nat)(z:Bool)(j:Nat):Vc:=if DC w A d n z j=dn then (A j).v d else λ_=>0
theorem rL(D:o1 p w wd T m N A)(C:d+n<=m){z:Bool}{j:Nat}(J:j<N) : ∃y:Vc,Wk p w wd T d n (DD w A d n z j) y/\(z=dn->∀i,y i=0):=by
 unfold DD;by_cases h:DC w A d n z j=dn
 ·rw[RY h]
  unfold DC at h;simp only[IS,Mf,MB]at h;obtain⟨a,e⟩:=h;rcases e with⟨b,I⟩ | ⟨I,O⟩
  ·exact⟨_,Zy (D.ok j J) a n C I,λq=>by rw[q]at b;cases b⟩
  ·exact⟨_,VT (D.ok j J) a O n C I,λ_ _=>rfl⟩
 ·rw[EQ h];exact⟨_,JP n,λ_ _=>rfl⟩
theorem dF(D:o1 p w wd T m N A)(C:d+n<=m)(z:Bool)(u:Vc):Span p (wd d) (eK N<|DD w A d n z) u ↔ ∃y:Vc,Wk p w wd T d n u y/\(z=dn->∀i,y i%p=0):=by
 constructor
 ·intro h
  induction h with
  | zero h=>exact⟨_,nc (JP n) λi l=>by rw[h i l];simp,λ_ _=>by simp⟩
  | step Y _ e x=>
   obtain⟨y,f,k⟩:=x;obtain⟨j,O,rfl⟩:=Y;obtain⟨F,g1,g2⟩:=rL D C (z:=z) O;refine⟨_,nc (gr n _ f g1) e,λq i=>?_⟩;rw[g2 q i,MU,Nl];exact k q i
 ·rintro⟨y,f,k⟩
  obtain⟨a,o⟩:=D.sp d ⋯ u;obtain⟨b,U,r⟩ : ∃b:Vc,(∀i,i<wd (d+n)->y i%p=zl (λj=>if (A j).has (d+n)=dn then b j*(A j).v (d+n) i else 0) N%p)/\(z=dn->∀j,b j=0):=by
   cases z with
   | false=>
    obtain⟨b,U⟩:=D.sp (d+n) C y;exact⟨b,U,λq=>nomatch q⟩
   | true=>exact⟨λ_=>0,λi _=>by rw[k rfl i,zx (g:=λ_=>0) λj _=>by simp,zT];simp,λ_ _=>rfl⟩
  have t:=wm D n C f o U;refine(Span.sum (u:=DD w A d n z) a (m:=N) λj O=> .gen ⟨j,O,rfl⟩).congr λi l=>?_;rw[o i l];refine zN λj O=>?_;unfold DD;by_cases J:(A j).has d=dn
  ·obtain⟨B,E⟩:=t j O J
   rw[RY J];by_cases I:DC w A d n z j=dn
   ·rw[RY I]
   ·rw[EQ I,MU]
    have:a j%p=0:=by
     unfold DC at I;rw[J]at I;cases h4:(A j).has (d+n)with
     | true=>
      rw[h4]at I;cases z with
      | true=>rw[B h4,r rfl j];simp
      | false=>simp at I
     | false=>
      rw[h4]at I;cases h5:w ((A j).s+(A j).n - 1)with
      | true=>exact E h4 h5
      | false=>rw[h5]at I;simp at I
    rw[IJ,this];simp
  ·have:DC w A d n z j=ed:=by unfold DC;rw[Bool.not_eq_true]at J;rw[J];rfl
   rw[EQ J,this];simp
theorem sN(I:Pr p)(D:o1 p w wd T m N A)(O:o1 p w wd T m N' A'){a b:Nat}(U:a<=b)(J:b<=m):n9 (mh A N) a b=n9 (mh A' N') a b:=by obtain⟨n,rfl⟩ : ∃n,b=a+n:=⟨b - a,by omega⟩;obtain⟨s,_,B,l,Y,o⟩:=ZR (n:=wd a) I N<|DD w A a n ed;obtain⟨q,_,g,x,d,k⟩:=ZR (n:=wd a) I N<|DD w A a n dn;have f : ∀u,Span p (wd a) (eK s B) u ↔ ∃z,Wk p w wd T a n u z:=λu=>(o u).trans ((dF D J ed u).trans ⟨λ⟨y,h,_⟩=>⟨y,h⟩,λ⟨y,h⟩=>⟨y,h,λq=>nomatch q⟩⟩);have e : ∀u,Span p (wd a) (eK q g) u↔Wk p w wd T a n u λ_=>0:=λu=>(k u).trans ((dF D J dn u).trans ⟨λ⟨y,h,j⟩=>Cg h λi _=>by rw[j rfl i];simp,λh=>⟨_,h,λ_ _=>by simp⟩⟩);have r:=WS I D J Y f d e;have t:=WS I O J Y f d e;rw[<- om D U,<- om O U];omega
theorem dq(O:Pr p)(D:o1 p w wd T m N A)(I:o1 p w wd T m N' A'):(mh A N).Perm (mh A' N'):=by
 refine Oh.mpr λs=>?_;have e : ∀K:List (Nat×Nat),K.count s=wb K s:=λK=>by unfold wb List.count;exact Mn λx _=>by simp
 rw[e,e];by_cases J:s.1<=s.2
 ·exact lQ (M:=m+1) (XW D) (XW I) (λa b d g=>sN O D I d ⋯) J
 ·have z : ∀K:List (Nat×Nat),(∀x,x∈K->x∈stN (m+1))->wb K s=0:=λK h=>by
   unfold wb;rw[Ol];intro x f q;have:=(DU.mp<|h x f).1;have q:=of_decide_eq_true q;rw[q]at this;exact J this
  rw[z _ (XW D),z _ (XW I)]
theorem XB{bs:List (Int×Int)}(h : ∀b∈bs,xq ((m+1:Nat):Int) b)(r:Nat):jM bs (r:Int)=bL bs r:=by
 unfold jM bL j5 il;refine PN λj z=>?_;have z:=IC.mp z;obtain⟨e,a,d⟩:=bu h z;have I:bs.getD j (0,0)=((bS bs j:Int),(bE bs j:Int)):=by rw[IF,e];rfl
 rw[I];show nX _ _=(decide (bS bs j<=r) && decide (r<bS bs j+(bE bs j - bS bs j+1)));unfold nX;dsimp only;congr 1
 ·exact decide_eq_decide.mpr ⋯
 ·exact decide_eq_decide.mpr ⋯
end
section
variable{p:Int}{m:Nat}{w:RX}{bs:List (Int×Int)}
abbrev sm(p:Int)(z:Str)(m:Nat)(bs:List (Int×Int)):Ctx:=[.val (.int p),.val (.str z),.val (.lst (zv bs)),.val (.int ((m+1:Nat):Int))]
end
section
variable{α β:Type}
theorem ZG{K L:List Int}(h:K.Perm L):kT K=kT L:=by
 induction h with
 | nil=>rfl
 | cons x _ z=>simp only[kT,z]
 | swap x y l=>simp only[kT];omega
 | trans _ _ a b=>exact a.trans b
end
noncomputable def iN(w:RX)(b c:Int×Int):Int:=if r9 w b.1.toNat b.2.toNat c.1.toNat c.2.toNat=dn then 1 else 0
theorem iX{n:Int}{b:Int×Int}(h:xq n b):D.tup [.int b.1,.int b.2]=pr b.1.toNat b.2.toNat:=by obtain⟨a,d,_⟩:=h;unfold pr;rw[ND a,ND ⋯]
section
variable{p:Int}{m:Nat}{w:RX}{rh sX:RZ}{T1 T2:RV}{bs bs1 bs2:List (Int×Int)}{c:Int×Int}{SH SI SQ SR:List TB}
theorem FI(C:m<=5){b:Int×Int}(z:xq ((m+1:Nat):Int) b)(I:xq ((m+1:Nat):Int) c):xS [.str (jJ m w),.tup [.int b.1,.int b.2],.tup [.int c.1,.int c.2]]=di (.val<|.int<|iN w b c):=by rw[iX z,iX I];obtain⟨a,d,J⟩:=z;obtain⟨O,g2,U⟩:=I;exact Kl C ⋯ ⋯ ⋯ ⋯
theorem VD(C:m<=5)(h : ∀b∈bs,xq ((m+1:Nat):Int) b)(z:bs.length<=lim)(I:xq ((m+1:Nat):Int) c):qb [.str (jJ m w),.lst<|zv bs,.tup [.int c.1,.int c.2]]=di (.val<|.int<|kT<|bs.map λb=>iN w b c):=by
 have d:zU (.nm 0) jt (zB xS<|zb (zf 1)<|zb (zf 0)<|zb (zf 2) zD) [Cell.no,.val<|.str<|jJ m w,.val (.tup [.int c.1,.int c.2])] (zv bs)=di (bs.map λb=>D.int<|iN w b c):=by unfold zv;exact zy _ _ λb J=>zA (γ1:=[.val (.tup [.int b.1,.int b.2]),.val<|.str<|jJ m w,.val (.tup [.int c.1,.int c.2])]) rfl rfl (by simp[FI C (h b J) I])
 have O:(zv bs).length<=lim:=by simpa using z
 have U:Y6 (bs.map λb=>D.int<|iN w b c)=di (kT<|bs.map λb=>iN w b c):=by rw[<- yw,Li];rfl
 unfold qb;refine z7 ?_;have a:zL (zg 1) [Cell.val (.str<|jJ m w),.val<|.lst<|zv bs,.val (.tup [.int c.1,.int c.2])]=di (zv bs):=rfl;show jV _ [Cell.val (.str<|jJ m w),.val<|.lst<|zv bs,.val (.tup [.int c.1,.int c.2])]=_;rw[wc,YV,yc,qA,a];simp only[IL,O,if_true];rw[show z6 1 [0,2] [Cell.val (.str<|jJ m w),.val<|.lst<|zv bs,.val (.tup [.int c.1,.int c.2])]=[Cell.no,.val<|.str<|jJ m w,.val (.tup [.int c.1,.int c.2])]from rfl,d];simp[U]
theorem CY(Z:m<=5)(L : ∀b∈bs1,xq ((m+1:Nat):Int) b)(S : ∀b∈bs2,xq ((m+1:Nat):Int) b)(I:bs1.length<=lim)(l2:bs2.length<=lim)(C:jU [qv p m w rh T1]=di (.val<|xV bs1 SH SQ))(J:jU [qv p m w sX T2]=di (.val<|xV bs2 SI SR)) :
 yN [qv p m w rh T1,qv p m w sX T2]=di (.val<|.int<|kT<|bs2.map λc=>kT<|bs1.map λb=>iN w b c):=by
 have O:=(JI (p:=p) (w:=w) (wd:=rh) (T:=T1) (wd':=sX) (T':=T2)<|show m<=900 by omega).2;have U:=kn (p:=p) (w:=w) (wd:=rh) (T:=T1) (show m<=900 by omega);let z:=qv p m w rh T1;let R2:=qv p m w sX T2;have f:zU (.nm 0) jt (zB qb<|zb (zB xB<|zb (zf 1) zD)<|zb (zf 2)<|zb (zf 0) zD) [Cell.no,.val z,.val (.lst<|zv bs1)] (zv bs2)=di (bs2.map λc=>D.int<|kT<|bs1.map λb=>iN w b c):=by
  conv=>lhs;unfold zv
  exact zy _ _ λc Y=>zA (γ1:=[.val (.tup [.int c.1,.int c.2]),.val z,.val (.lst<|zv bs1)]) rfl rfl (by simp[z,U,VD Z L I (S c Y)])
 have d:(zv bs2).length<=lim:=by simpa using l2
 have i:Y6 (bs2.map λc=>D.int<|kT<|bs1.map λb=>iN w b c)=di (kT<|bs2.map λc=>kT<|bs1.map λb=>iN w b c):=by rw[<- yw,Li];rfl
 have g:jU [z]=di (.val<|xV bs1 SH SQ):=C;have h:jU [R2]=di (.val<|xV bs2 SI SR):=J;have e:qk [z,R2]=di (.val .el):=O;show yN [z,R2]=_
 clear_value z R2
 unfold yN;refine z7<|zm (γ':=[.val z,.val R2,.no]) (by simp[zY,e])<|zm (γ':=[.val z,.val R2,.val (.lst<|zv bs1)]) (by simp[g,xV,g9]) ?_;have a:zL (zF<|d8 (zF<|zB jU<|zb (zf 1) zD)<|zu<|.int 0) [Cell.val z,.val R2,.val (.lst<|zv bs1)]=di (zv bs2):=by simp[h,xV,g9]
 rw[wc,YV,yc,qA,a];simp only[IL,d,if_true];rw[show z6 1 [0,2] [Cell.val z,.val R2,.val (.lst<|zv bs1)]=[Cell.no,.val z,.val (.lst<|zv bs1)]from rfl,f];simp[i]
end
noncomputable def Bu(w:RX)(a:Nat):Int:=if w (a - 1)=dn then (a:Int)else -(a:Int)
noncomputable def Bs(w:RX)(m b:Nat):Int:=if w b=dn then (b:Int) - m else (m:Int) - b
theorem Bj{w:RX}{a c:Nat}(h:rr w a c=dn):a=c\/Bu w a<Bu w c:=by
 by_cases q:a=c
 ·exact .inl q
 ·right
  unfold rr at h;simp only[q,decide_false,Bool.false_or,beq_iff_eq]at h;unfold Bu;by_cases l:a<c
  ·rw[show max a c=c by omega,decide_eq_true l]at h
   rw[RY h];split<;>omega
  ·rw[show max a c=a by omega,decide_eq_false l]at h
   rw[EQ (by rw[h];decide)];split<;>omega
theorem Ab{w:RX}{m b d:Nat}(z:b<=m)(C:d<=m)(h:r0 w b d=dn):b=d\/Bs w m b<Bs w m d:=by
 by_cases q:b=d
 ·exact .inl q
 ·right
  unfold r0 at h;simp only[q,decide_false,Bool.false_or,beq_iff_eq]at h;unfold Bs;by_cases l:b<d
  ·rw[show min b d=b by omega]at h
   rw[h];simp only[l,decide_true,if_true];split<;>omega
  ·rw[show min b d=d by omega]at h
   rw[h];simp only[l,decide_false];simp;split<;>omega
noncomputable def Y5(w:RX)(m:Nat)(b:Int×Int):Int:=Bu w b.1.toNat+Bs w m b.2.toNat
theorem BO{w:RX}{m:Nat}{b c:Int×Int}(z:xq ((m+1:Nat):Int) b)(I:xq ((m+1:Nat):Int) c)(h:iN w b c≠0):b=c\/Y5 w m b<Y5 w m c:=by
 obtain⟨b1,b2,b3⟩:=z;obtain⟨J,O,d⟩:=I;have a:r9 w b.1.toNat b.2.toNat c.1.toNat c.2.toNat=dn:=by
  unfold iN at h;by_cases q:r9 w b.1.toNat b.2.toNat c.1.toNat c.2.toNat=dn
  ·exact q
  ·rw[EQ q]at h;exact absurd rfl h
 unfold r9 at a;simp only[IS]at a;have l:=Bj a.2.1;have r:=Ab (m:=m) ⋯ ⋯ a.2.2;unfold Y5;rcases l with l | l<;>rcases r with r | r
 ·left
  refine Prod.ext ?_ ?_<;>omega
 ·rw[l];right;omega
 ·rw[r];right;omega
 ·right;omega
theorem sU{w:RX}{n:Int}{b:Int×Int}(z:xq n b):iN w b b=1:=by obtain⟨a,d,I⟩:=z;unfold iN r9 rr r0;rw[RY];simp;omega
theorem wK{w:RX}{m:Nat}{c:Int×Int}(I:xq ((m+1:Nat):Int) c) : ∀bs:List (Int×Int),(∀b∈bs,xq ((m+1:Nat):Int) b)->kT (bs.map λb=>iN w b c)=(bs.count c:Int)+kT ((bs.filter λb=>decide<|Y5 w m b<Y5 w m c).map λb=>iN w b c)
 | [],_=>rfl
 | b::bs,h=>by
  have O:=wK (w:=w) I bs λx d=>h x<|IM _ d;have J:=h b IQ;rw[Ld];show iN w b c+kT (bs.map λb=>iN w b c)=_;rw[O];by_cases e:b=c
  ·subst e
   rw[List.filter_cons_of_neg ⋯,sU J,List.count_cons_self];omega
  ·rw[List.count_cons_of_ne e]
   by_cases k:Y5 w m b<Y5 w m c
   ·rw[List.filter_cons_of_pos (by simpa using k)]
    show _=_+(iN w b c+kT _);omega
   ·rw[List.filter_cons_of_neg (by simpa using k)]
    have z:iN w b c=0:=Decidable.byContradiction λa=>(BO J I a).elim e k;omega
theorem uw{w:RX}{m:Nat}{bs1 bs2:List (Int×Int)}(h1 : ∀b∈bs1,xq ((m+1:Nat):Int) b)(C : ∀b∈bs2,xq ((m+1:Nat):Int) b)
 (e : ∀c,xq ((m+1:Nat):Int) c->kT (bs1.map λb=>iN w b c)=kT (bs2.map λb=>iN w b c)):bs1.Perm bs2:=by
 have d : ∀(n:Nat) (c:Int×Int),(Y5 w m c+100+4*m).toNat<n->bs1.count c=bs2.count c:=by
  intro n
  induction n with
  | zero=>intro c h;omega
  | succ n J=>
   intro c U;by_cases a:xq ((m+1:Nat):Int) c
   ·have f:=wK (w:=w) a bs1 h1
    have g:=wK (w:=w) a bs2 C;have lo : ∀b,xq ((m+1:Nat):Int) b->0<=Y5 w m b+100+4*m:=λb z=>by obtain⟨b1,b2,b3⟩:=z;unfold Y5 Bu Bs;split<;>split<;>omega
    have O:(bs1.filter λb=>decide<|Y5 w m b<Y5 w m c).Perm (bs2.filter λb=>decide<|Y5 w m b<Y5 w m c):=by
     rw[Oh];intro b;by_cases k:Y5 w m b<Y5 w m c
     ·rw[List.count_filter (by simpa using k),List.count_filter (by simpa using k)]
      by_cases I:xq ((m+1:Nat):Int) b
      ·have:=lo b I
       exact J b ⋯
      ·rw[LH λz=>I<|h1 b z,LH λz=>I (C b z)]
     ·rw[LH (by simp[k]),LH (by simp[k])]
    have:=ZG<|O.map λb=>iN w b c;have:=e c a;omega
   ·rw[LH λz=>a<|h1 c z,LH λz=>a (C c z)]
 rw[Oh];exact λc=>d _ c<|Mp _
noncomputable def fY:CO (List D):=zS (zW<|vh<|zg 1) (.nm 0) 1 [1,3] (sB<|vB o3 o3 (d8 (zF<|d8 (zg 1)<|zf 0)<|zu<|.int 0) (zf 2)<|d8 (zF<|d8 (zg 1)<|zf 0)<|zu<|.int 1) (zf 0)
noncomputable def sW:CO D:=jX<|zS (zL<|zF<|d8 (zg 1)<|zf 2) (.nm 0) 1 [0] jt (KI<|zG h7 (zf 1)<|zf 0)
noncomputable def sY:CO (List D):=zS (zL<|zF<|d8 (zg 2)<|zf 7) (.nm 0) 1 [2,6] jt sW
noncomputable def mU:=zH (ZQ (.tp [6,7])<|zB jO<|zb (zf 0)<|zb (zf 5) zD)<|ql 4<|jX sY
noncomputable def sZ:=iu 4<|jV<|qB<|zb (jX<|zS (zL<|zg 2) (.nm 0) 1 [] jt (vh<|zg 0))<|zb (zf 4) zD
noncomputable def qh:=ja 8<|zH (xw 2<|qr zD)<|zH (vt (zW<|zG qx (yx<|zf 0)<|zu<|.int 1) (.nm 3)<|ql 2<|jX fY)<|zH (iu 2<|xw 4<|qr zD)<|zH (vt (zW<|yx<|zf 0) (.nm 5) mU) sZ
noncomputable def oX:CO (List D):=zS (zW<|vh<|zg 3) (.nm 0) 1 [0,2,3] jt (zG ve (d8 (zg 3)<|zf 0)<|d8 (zF<|d8 (zg 2)<|zf 0)<|zf 1)
noncomputable def ai:CO (List D):=zS (zW<|zf 3) (.nm 0) 1 [0,2,5] jt (zG ky (gH<|jF oX)<|zf 1)
noncomputable def jx:=ja 6<|zH (xw 4<|qr zD)<|zH (vt (zL<|zF<|zf 1) (.nm 5)<|ql 4<|jX ai)<|J2 4
noncomputable def EE:=zH (Wm 4 (zf 8)<|jX<|zS (Y9 (d8 (zg 4)<|zf 8)<|d8 (zg 4)<|zf 9) (.tp [0,1]) 2 [2,10] jt (zG ky (zG qx (zf 0)<|zG ve (zf 3)<|zf 1)<|zf 2))<|cF 5 11 (zf 9)<|zG ky (zG JE (d8 (zg 11)<|zf 9)<|zG ve (zf 10)<|d8 (zg 11)<|zf 8)<|zf 2
noncomputable def Gr:=zH (jj 7<|zB jn<|zb (zf 0)<|zb (zG qx (zf 1)<|zf 6) zD)<|zH (jj 8<|zG ky (zf 7)<|zf 3)<|zH (jj 9<|zG ky (zG qx (zG qx (zf 8)<|zu<|.int 1)<|zG ky (zG QB (zf 7)<|zu<|.int 8)<|zG JE (zf 3)<|zu<|.int 1)<|zf 3)<|zH (jj 10<|zG ky (zG QB (zf 7)<|zu<|.int 64)<|zf 2) EE
noncomputable def hV:=vt (zW<|zG JE (zG ve (zu<|.int 2)<|zf 3)<|zu<|.int 2) (.nm 6) Gr
noncomputable def uD:=ir 5<|iu 4<|jV<|qB<|zb (zf 4)<|zb (zf 5) zD
noncomputable def qe:=ja 12<|zH M6<|zH M7<|zH hV uD
noncomputable def iy:=ql 7<|zB qe<|zb (zf 0)<|zb (zG qx (zf 1)<|zG ve (zu<|.int 9)<|zf 8)<|zb (zf 2)<|zb (d8 (zg 5)<|zf 8) zD
noncomputable def uU:=jj 12<|jX<|jr jx<|zb (zf 2)<|zb (d8 (zg 6)<|zf 8)<|zb (d8 (zF<|d8 (zg 7)<|zf 10)<|zu<|.int 1)<|zb (d8 (zg 5)<|zf 10) zD
noncomputable def uT:=ql 9<|jX<|jr jx<|zb (zf 2)<|zb (d8 (zF<|d8 (zg 7)<|zf 11)<|zu<|.int 0)<|zb (zf 12)<|zb (d8 (zg 5)<|zf 10) zD
noncomputable def iB:=zH (ZQ (.tp [10,11])<|zB jO<|zb (zf 3)<|zb (zf 8) zD)<|zH uU uT
noncomputable def qu:=ja 13<|zH (ZQ (.tp [5,6])<|zB qh<|zb (zf 3)<|zb (zf 4) zD)<|zH (xw 7<|qr zD)<|zH (vt (zW<|vh<|zg 5) (.nm 8) iy)<|zH (xw 9<|qr zD)<|zH (vt (zW<|yx<|zf 3) (.nm 8) iB)<|iu 9<|jV<|qB<|zb (zf 5)<|zb (zf 9) zD
noncomputable def tj:CO D:=nC (EK (d8 (zF<|zB jO<|zb (zf 0)<|zb (zf 5) zD)<|zu<|.int 0)<|jF<|qr<|zb (zf 3)<|zb (zf 4) zD)<|vB o3 o3 (zf 3) (d8 (zF<|zB jO<|zb (zf 0)<|zb (zf 5) zD)<|zu<|.int 0)<|zf 4
noncomputable def vq:=i0 (Y4 (sB<|zf 6)<|sB<|zf 7) (zH (jj 8 tj)<|i0 (Y4 (aw (sB<|zf 6)<|xf<|sB<|zf 8)<|aw (sB<|zf 7)<|sB<|zf 8) (jV<|zu<|.int 0) qg) qg
noncomputable def mV:CO (List D):=zL<|zF<|jX<|qr<|zb (qB<|zb (zG JE (zf 3)<|zu<|.int 1)<|zb (zG z4 (d8 (zg 1)<|zu<|.int 0)<|zf 3)<|zb (zG z4 (d8 (zg 2)<|zu<|.int 0)<|zf 3) zD)<|zb (qB<|zb (zf 4)<|zb (zG qs (d8 (zg 1)<|zu<|.int 1)<|zf 4)<|zb (zG qs (d8 (zg 2)<|zu<|.int 1)<|zf 4) zD) zD
noncomputable def jo:=ja 9<|zH (jj 3<|KH (d8 (zg 1)<|zu<|.int 0)<|d8 (zg 2)<|zu<|.int 0)<|zH (jj 4<|Xv (d8 (zg 1)<|zu<|.int 1)<|d8 (zg 2)<|zu<|.int 1)<|zH (i0 (sB<|zG qs (zf 3)<|zf 4) (jV<|zu<|.int 0) qg)<|zH (vt mV (.tp [5,6,7]) vq)<|jV<|zu<|.int 1
noncomputable def x9:=ja 3<|jV<|gH<|jF<|zS (zL<|zg 1) (.nm 0) 1 [0,2] jt (gH<|jF<|zS (zL<|zg 2) (.nm 0) 1 [0,1] jt (zB jo<|zb (zf 2)<|zb (zf 1)<|zb (zf 0) zD))
theorem pq:qe=ja 12 (zH M6<|zH M7<|zH hV uD):=rfl
section
variable{p:Int}{n:Nat}
theorem hU(hp:Pr p)(S:n<=60){f g:RK}(h:Pair p n f g){u o:Nat}{tm:Int}(I:u<n)(J:o<n)(hc : ¬u=o)(ht:0<=tm/\tm<p)(C U Y L Z:Cell) :
 ∃f' g' an,Pair p n f' g'/\EE [C,U,.val<|.int p,.val<|.int n,.own<|jk n f,.nest<|qT n g,Y,L,.val<|.int o,.val<|.int u,.val<|.int tm,Z]=di (.next [C,U,.val<|.int p,.val<|.int n,.own<|jk n f',.nest<|qT n g',Y,L,.val<|.int o,.val<|.int u,.val<|.int tm,an]):=by
 have B:=jv;have S:n<=lim:=by omega
 have l:=hp.pos;have E:=hp.le;have r : ∀z:Int,0<=z%p/\z%p<p:=λz=>⟨Lp _ ⋯,La _ l⟩;have m : ∀x,Kc tm x=dn:=λx=>vY _ _ ⋯ ⋯;refine⟨λi j=>if i=o then (f o j+tm*f u j)%p else f i j,λi j=>if j=u then (g i u - tm*g i o)%p else g i j,.no,⟨λi j d O=>?_,λi j d O=>?_,?_,?_⟩,?_⟩
 ·by_cases e:i=o
  ·simp only[RY e];exact r _
  ·simp only[EQ e];exact h.bf i j d O
 ·by_cases e:j=u
  ·simp only[RY e];exact r _
  ·simp only[EQ e];exact h.bg i j d O
 ·refine gQ (t:=tm) (u:=o) (o:=u) J I (Ll hc) h.fg (λi k _ _=>?_) (λk j _ _=>?_)
  ·by_cases e:i=o
   ·simp only[RY e];rw[Lf,e]
   ·simp only[EQ e,Nk,Nl]
  ·by_cases e:j=u
   ·simp only[RY e];rw[Lf,e,Int.neg_mul];rfl
   ·simp only[EQ e,Nk,Nl]
 ·refine bO (t:=tm) (u:=o) (o:=u) J I (Ll hc) h.gf (λi k _ _=>?_) (λk j _ _=>?_)
  ·by_cases e:i=o
   ·simp only[RY e];rw[Lf,e]
   ·simp only[EQ e,Nk,Nl]
  ·by_cases e:j=u
   ·simp only[RY e];rw[Lf,e,Int.neg_mul];rfl
   ·simp only[EQ e,Nk,Nl]
 ·have s:zU (.tp [0,1]) jt (zG ky (zG qx (zf 0)<|zG ve (zf 3)<|zf 1)<|zf 2) [Cell.no,Cell.no,Cell.val<|.int p,Cell.val (.int tm)] ((Iz n).map λj=>D.tup [.int (f o j),.int (f u j)])=di (zJ n λj=>(f o j+tm*f u j)%p):=by
   rw[jh];refine zy _ _ λj O=>zA rfl rfl ?_;simp[m,l]
  have y:=cI J f (λi j=>if i=o then (f o j+tm*f u j)%p else f i j) (λj=>(f o j+tm*f u j)%p) (λj _=>by simp) (λi j _ b _=>by simp[b]);have w : ∀a:Cell,km 5 11 (zf 9) (zG ky (zG JE (d8 (zg 11)<|zf 9)<|zG ve (zf 10)<|d8 (zg 11)<|zf 8)<|zf 2) [C,U,.val<|.int p,.val<|.int n,a,.nest<|qT n g,Y,L,.val<|.int o,.val<|.int u,.val<|.int tm,Z] (qT n g)=di (qT n λi j=>if j=u then (g i u - tm*g i o)%p else g i j):=λa=>by
   unfold qT;refine QZ _ λk A=>⟨.int<|(g k u - tm*g k o)%p,u,u,?_,rfl,?_,VM I _ _ _ ⋯ λi _ b=>by simp[b]⟩
   ·simp[yA,I,J,m,l]
   ·simp[I]
  simp[EE,jm,I,J,S,z6,IE,Xi,s,y,w]
theorem uq{C:List Int}(S:C.length<=63)(Y:Pr p)(hn:n<=60){a:Int}(h0:0<=a)(h1:a<=10000) :
 ∃f g,Pair p n f g/\qe [QA C,.int a,.int p,.int n]=di (.val<|.tup [.lst (jk n f),.lst (jk n g)]):=by
 have hl:=jv;have O:n<=lim:=by omega
 have L:=Y.pos;have two:=Y.two;have p7:=Y.le;have A : ∀i:Nat,zU (.nm 0) jt (KI<|zG h7 (zf 1)<|zf 0) [Cell.no,Cell.val (.int i)] ((Iz n).map λ(j:Nat)=>D.int j)=di (zJ n<|i5 i):=λi=>by
  rw[jh];refine zy _ _ λj hj=>zA rfl rfl ?_;by_cases e:i=j
  ·subst e;simp[i5]
  ·have e' : ¬((i:Int)=(j:Int)):=by omega
   simp[i5,e,e']
 have R:zU (.nm 0) jt (jX<|zS (zW<|zf 1) (.nm 0) 1 [0] jt (KI<|zG h7 (zf 1)<|zf 0)) [Cell.no,Cell.val (.int n)] ((Iz n).map λ(j:Nat)=>D.int j)=di (jk n i5):=by unfold jk;refine zy _ _ λi x=>zA rfl rfl ?_;simp[O,jY,z6,IE];rw[jh n λi=>(i:Int),A]
 have as:vn (.nm 0) (zS (zW<|zf 1) (.nm 0) 1 [0] jt (KI<|zG h7 (zf 1)<|zf 0)) [Cell.no,Cell.val (.int n)] ((Iz n).map λ(j:Nat)=>D.int j)=di (qT n i5):=by unfold qT;refine YF _ λi x=>⟨_,rfl,?_⟩;simp[O,jY,z6,IE];rw[jh n λi=>(i:Int),A]
 have w6:Pair p n i5 i5:=by
  have b : ∀i j:Nat,i<n->j<n->0<=i5 i j/\i5 i j<p:=λi j _ _=>by unfold i5;split<;>omega
  have u:Kg p n i5 i5:=λi j x hj=>by rw[zQ (i:=i) x λk _ W=>by unfold i5;rw[EQ (Ll W)];simp];simp[i5]
  exact⟨b,b,u,u⟩
 let γ:Cell->Cell->Cell->Cell->Cell->Cell->Cell->Cell->Ctx:=λc4 c5 r h d J I z=>[.val (QA C),.val<|.int a,.val<|.int p,.val<|.int n,c4,c5,r,h,d,J,I,z];have s1:M6 (γ .no .no .no .no .no .no .no .no)=di (.next<|γ (.own<|jk n i5) .no .no .no .no .no .no .no):=by unfold M6;simp[γ,O,jY,z6,IE];rw[jh n λi=>(i:Int),R]
 have s2:M7 (γ (.own<|jk n i5) .no .no .no .no .no .no .no)=di (.next<|γ (.own<|jk n i5) (.nest<|qT n i5) .no .no .no .no .no .no):=by unfold M7;simp[γ,O,jY,z6,IE];rw[jh n λi=>(i:Int),as];simp[QV,O]
 obtain⟨f,g,r,h,d,J,I,z,U,y⟩ : ∃f g r h d J I z,Pair p n f g/\hV (γ (.own<|jk n i5) (.nest<|qT n i5) .no .no .no .no .no .no)=di (.next<|γ (.own<|jk n f) (.nest<|qT n g) r h d J I z):=by
  have cm:Kc 2 (n:Int)=dn:=vY _ _ ⋯ ⋯;by_cases n0:n=0
  ·refine⟨i5,i5,.no,.no,.no,.no,.no,.no,w6,?_⟩
   have e:zW (zG JE (zG ve (zu<|.int 2)<|zf 3)<|zu<|.int 2) (γ (.own<|jk n i5) (.nest<|qT n i5) .no .no .no .no .no .no)=di []:=by subst n0;rfl
   unfold hV;rw[Xe,e];rfl
  obtain⟨γ',y,f,g,r,h,d,J,I,z,U,rfl⟩:=xj (T:= .nm 6) (F:=Gr) (f:=zG JE (zG ve (zu<|.int 2)<|zf 3)<|zu<|.int 2)
   (λt s=>∃f g r h d J I z,Pair p n f g/\s=γ (.own<|jk n f) (.nest<|qT n g) r h d J I z)
   (2*n - 2) ⋯ (γ:=γ (.own<|jk n i5) (.nest<|qT n i5) .no .no .no .no .no .no) (by
     have:((2*n - 2:Nat):Int)=2*(n:Int) - 2:=by omega
     rw[this];simp[γ,cm]) ⟨i5,i5,.no,.no,.no,.no,.no,.no,w6,rfl⟩ (by
     rintro t ht s ⟨f,g,r,h,d,J,I,z,U,rfl⟩;have c1:2<=n:=by omega
     obtain⟨E,M,b1⟩:=Ka S (k:=a+(t:Int)) ⋯ ⋯;generalize kx C (a+(t:Int))=cell at E M b1;obtain⟨o,eo,ho⟩:=QR (m:=cell) (n:Int) ⋯;have x1:=Lp (cell/8) (show(n:Int) - 1≠0 by omega);have x2:=La (cell/8) (show 0<(n:Int) - 1 by omega);obtain⟨u,w,hu⟩:=QR (m:=(o:Int)+1+cell/8%((n:Int) - 1)) (n:Int) ⋯;have X : ¬u=o:=λe=>by
      by_cases l:(o:Int)+1+cell/8%((n:Int) - 1)<n
      ·rw[LX ⋯ l]at w
       omega
      ·have e3:((o:Int)+1+cell/8%((n:Int) - 1))%n=((o:Int)+1+cell/8%((n:Int) - 1) - n)%n:=(Int.sub_emod_right _ _).symm
       rw[e3,LX ⋯ ⋯]at w;omega
     have t1:=Lp (cell/64) (show p≠0 by omega);have t2:=La (cell/64) L;obtain⟨G,H,Z,bf,es⟩:=hU Y hn U (u:=u) (o:=o) (tm:=cell/64%p) ⋯ ⋯ X ⟨t1,t2⟩ (.val<|QA C) (.val<|.int a) (.val<|.int t) (.val<|.int cell) z;refine⟨γ (.own<|jk n f) (.nest<|qT n g) (.val<|.int t) h d J I z,γ (.own<|jk n G) (.nest<|qT n H) (.val<|.int t) (.val<|.int cell) (.val<|.int o) (.val<|.int u) (.val<|.int<|cell/64%p) Z,rfl,?_,G,H,_,_,_,_,_,_,bf,rfl⟩;have B:(0:Int)<(n:Int):=by omega
     have K:0<n:=by omega
     have nm:0<(n:Int) - 1:=by omega
     have bg:1<n:=by omega
     have N:(jj 7<|zB jn<|zb (zf 0)<|zb (zG qx (zf 1)<|zf 6) zD) (γ (.own<|jk n f) (.nest<|qT n g) (.val<|.int t) h d J I z)=di (.next<|γ (.own<|jk n f) (.nest<|qT n g) (.val<|.int t) (.val<|.int cell) d J I z):=by simp[γ,E]
     have P:(jj 8<|zG ky (zf 7)<|zf 3) (γ (.own<|jk n f) (.nest<|qT n g) (.val<|.int t) (.val<|.int cell) d J I z)=di (.next<|γ (.own<|jk n f) (.nest<|qT n g) (.val<|.int t) (.val<|.int cell) (.val<|.int o) J I z):=by simp[γ,B,K,eo]
     have Q:(jj 9<|zG ky (zG qx (zG qx (zf 8)<|zu<|.int 1)<|zG ky (zG QB (zf 7)<|zu<|.int 8)<|zG JE (zf 3)<|zu<|.int 1)<|zf 3) (γ (.own<|jk n f) (.nest<|qT n g) (.val<|.int t) (.val<|.int cell) (.val<|.int o) J I z)=di (.next<|γ (.own<|jk n f) (.nest<|qT n g) (.val<|.int t) (.val<|.int cell) (.val<|.int o) (.val<|.int u) I z):=by
      have Sr:(1:Int)<(n:Int):=by omega
      simp[γ,B,K,nm,bg,Sr,w]
     have bn:(jj 10<|zG ky (zG QB (zf 7)<|zu<|.int 64)<|zf 2) (γ (.own<|jk n f) (.nest<|qT n g) (.val<|.int t) (.val<|.int cell) (.val<|.int o) (.val<|.int u) I z)=di (.next<|γ (.own<|jk n f) (.nest<|qT n g) (.val<|.int t) (.val<|.int cell) (.val<|.int o) (.val<|.int u) (.val<|.int<|cell/64%p) z):=by simp[γ,L]
     exact zm N<|zm P<|zm Q<|zm bn es)
  exact⟨f,g,r,h,d,J,I,z,U,y⟩
 refine⟨f,g,U,?_⟩;rw[pq];refine z7<|zm s1<|zm s2<|zm y ?_;show ir 5 _ (γ (.own<|jk n f) (.nest<|qT n g) r h d J I z)=_;have l2:2<=lim:=by omega
 rw[<- cH n g];simp[ir,iu,γ,vX,qJ,l2]
end
theorem mT:qh=ja 8 (zH (xw 2<|qr zD)<|zH (vt (zW<|zG qx (yx<|zf 0)<|zu<|.int 1) (.nm 3)<|ql 2<|jX fY)<|zH (iu 2<|xw 4<|qr zD)<|zH (vt (zW<|yx<|zf 0) (.nm 5) mU) sZ):=rfl
section
variable{p:Int}{m:Nat}{w:RX}{bs:List (Int×Int)}
theorem pd(h : ∀b∈bs,xq ((m+1:Nat):Int) b)(k:Nat):((jM bs<|zZ w k).map λx=>D.lst<|(jM bs<|zR w k).map λy=>D.int<|if x=y then 1 else 0)=qR (iS w (bW bs) k) (iW w (bW bs) k) (bT w bs k):=by
 rw[XB h,XB h];unfold qR;rw[<- Jt,<- Xj]
 conv=>lhs;rw[<- jb bs.length (bL bs<|zZ w k),Li]
 refine IZ λi a=>?_;show D.lst ((bL bs<|zR w k).map λy=>D.int<|if (bL bs<|zZ w k).getD i bs.length=y then 1 else 0)=D.lst (zJ _ _);congr 1;rw[jh]
 conv=>lhs;rw[<- jb (bs.length+1) (bL bs<|zR w k),Li]
 rfl
theorem YS(S:m<=5)(hb:bs.length<64)(h : ∀b∈bs,xq ((m+1:Nat):Int) b):qh [.str (jJ m w),.lst (zv bs)]=di (.val<|xW m w (bW bs)<|bT w bs):=by
 have hl:=jv;have E:m<=lim:=by omega
 have Y:bs.length<=lim:=by omega
 have wl:=vw m w;have p:=kz w (show m<=1000 by omega);have C : ∀r:Int,(jM bs r).length<=lim:=λr=>by have:=da bs r;omega
 let N:Nat->List D:=λs=>(Iz s).map λ(r:Nat)=>D.lst<|Yi<|jM bs (r:Int);let γ:Cell->Cell->Cell->Cell->Cell->Cell->Ctx:=λz a K j d g=>[.val (.str<|jJ m w),.val<|.lst<|zv bs,z,a,K,j,d,g];have one : ∀(s:Nat) z,fY (γ z (.val<|.int (s:Int)) .no .no .no .no)=di (Yi<|jM bs (s:Int)):=λs z=>by
  have o:zU (.nm 0) (sB<|vB o3 o3 (d8 (zF<|d8 (zg 1)<|zf 0)<|zu<|.int 0) (zf 2)<|d8 (zF<|d8 (zg 1)<|zf 0)<|zu<|.int 1) (zf 0) [Cell.no,.val<|.lst<|zv bs,.val (.int (s:Int))] ((Iz bs.length).map λ(i:Nat)=>D.int i)=di (((Iz bs.length).filter λi=>nX (bs.getD i (0,0)) s).map λ(i:Nat)=>D.int i):=by
   refine jc _ _ _ λi n=>⟨_,rfl,?_,λ_=>rfl⟩;have n:=IC.mp n;have e:(zv bs)[i]? = di (D.tup [.int (bs.getD i (0,0)).1,.int (bs.getD i (0,0)).2]):=by unfold zv;rw[Le,IF,ID n];rfl
   have B:zF (d8 (zg 1)<|zf 0) [Cell.val (D.int (i:Int)),.val<|.lst<|zv bs,.val (.int (s:Int))]=di (.T,[.int (bs.getD i (0,0)).1,.int (bs.getD i (0,0)).2]):=by rw[show zF (d8 (zg 1)<|zf 0) [Cell.val (D.int (i:Int)),.val<|.lst<|zv bs,.val (.int (s:Int))]=((g9 (zv bs).length (i:Int)).bind λk=>(zv bs)[k]?).bind jA from rfl,yJ,qm,RY n];show((zv bs)[i]?).bind jA=_;rw[e];rfl
   show sB (vB o3 o3 (d8 (zF<|d8 (zg 1)<|zf 0)<|zu<|.int 0) (zf 2)<|d8 (zF<|d8 (zg 1)<|zf 0)<|zu<|.int 1) [Cell.val (D.int (i:Int)),.val<|.lst<|zv bs,.val (.int (s:Int))]=_;have t:d8 (zF<|d8 (zg 1)<|zf 0) (zu<|.int 0) [Cell.val (D.int (i:Int)),.val<|.lst<|zv bs,.val (.int (s:Int))]=di (.int (bs.getD i (0,0)).1):=by rw[QC,B];rfl
   have u:d8 (zF<|d8 (zg 1)<|zf 0) (zu<|.int 1) [Cell.val (D.int (i:Int)),.val<|.lst<|zv bs,.val (.int (s:Int))]=di (.int (bs.getD i (0,0)).2):=by rw[QC,B];rfl
   generalize bs.getD i (0,0)=b at t u;simp[-QC,t,u,nX];by_cases q:b.1<=(s:Int)<;>simp[q]
  unfold fY;rw[qA,show zW (vh<|zg 1) (γ z (.val<|.int (s:Int)) .no .no .no .no)=di ((Iz bs.length).map λ(i:Nat)=>D.int i)by
   have r:inR (bs.length:Int)=dn:=Jr Y;simp[γ,r,jY];rw[jh]]
  simp only[IL,IU,Lw,Y,if_true];exact o
 obtain⟨γ1,X,a,rfl⟩:=xj (T:= .nm 3) (F:=ql 2<|jX fY) (f:=zG qx (yx<|zf 0)<|zu<|.int 1)
  (λs γ'=>∃a,γ'=γ (.own<|N s) a .no .no .no .no) (m+1) ⋯ (γ:=γ (.own []) .no .no .no .no .no) (by simp[γ,wl,p]) ⟨.no,rfl⟩ (by
    rintro s J γ' ⟨a,rfl⟩;refine⟨γ (.own<|N s) (.val<|.int (s:Int)) .no .no .no .no,γ (.own<|N<|s+1) (.val<|.int (s:Int)) .no .no .no .no,rfl,?_,_,rfl⟩;have O:(N s).length<lim:=by simp[N];omega
    rw[kO,JN,one];show(if (N s).length<lim then _ else d5)=_;rw[RY O];show di (Fl.next<|γ (.own<|N s++[D.lst (Yi<|jM bs (s:Int))]) _ _ _ _ _)=_;rw[<- yQ s λ(r:Nat)=>D.lst (Yi<|jM bs (r:Int))])
 have O:(N<|m+1).length=m+1:=by simp[N]
 have W : ∀{r:Nat},r<m+1->(N<|m+1)[r]? = di (D.lst<|Yi<|jM bs (r:Int)):=λ{r} I=>by show((Iz<|m+1).map _)[r]? = _;rw[Le,MF I];rfl
 have A : ∀{r:Nat},r<m+1->((g9 (N<|m+1).length (r:Int)).bind λk=>(N<|m+1)[k]?).bind jA=di (.L,Yi<|jM bs (r:Int)):=λ{r} I=>by rw[O,qm,RY I];show((N<|m+1)[r]?).bind jA=_;rw[W I];rfl
 obtain⟨Ul,Z,j,d,g,rfl⟩:=xj (T:= .nm 5) (F:=mU) (f:=yx<|zf 0)
  (λs γ'=>∃j d g,γ'=γ (.val<|.lst<|N<|m+1) a (.own<|qz s w (bW bs)<|bT w bs) j d g) m E (γ:=γ (.val<|.lst<|N<|m+1) a (.own []) .no .no .no) (by simp[γ,wl,p]) ⟨.no,.no,.no,rfl⟩ (by
    rintro s J γ' ⟨j,d,g,rfl⟩;have P:=yh (w:=w) S J;have Q:=VL (w:=w) J;have R:=VS (w:=w) J;let U:=γ (.val<|.lst<|N<|m+1) a (.own<|qz s w (bW bs)<|bT w bs) (.val<|.int (s:Int)) (.val<|.int (zR w s:Nat))<|.val<|.int (zZ w s:Nat);refine⟨γ (.val<|.lst<|N<|m+1) a (.own<|qz s w (bW bs)<|bT w bs) (.val<|.int (s:Int)) d g,γ (.val<|.lst<|N<|m+1) a (.own<|qz (s+1) w (bW bs)<|bT w bs) (.val<|.int (s:Int)) (.val<|.int (zR w s:Nat))<|.val<|.int (zZ w s:Nat),rfl,?_,_,_,_,rfl⟩;unfold mU;refine zm (γ':=U) (by simp[U,γ,P]) ?_;have lt:(qz s w (bW bs)<|bT w bs).length<lim:=by simp[qz];omega
    have o:zU (.nm 0) jt sW [Cell.no,.val<|.lst<|N<|m+1,.val (.int (zR w s:Nat))] (Yi<|jM bs (zZ w s:Nat))=di ((jM bs (zZ w s:Nat)).map λx=>D.lst<|(jM bs (zR w s:Nat)).map λy=>D.int<|if x=y then 1 else 0):=by
     unfold Yi;refine zy _ _ λx hx=>zA (γ1:=[.val (.int (x:Int)),.val<|.lst<|N<|m+1,.val (.int (zR w s:Nat))]) rfl rfl ?_;unfold sW;have l:zL (zF<|d8 (zg 1)<|zf 2) [Cell.val (.int (x:Int)),.val<|.lst<|N<|m+1,.val (.int (zR w s:Nat))]=di (Yi<|jM bs (zR w s:Nat)):=by show(((g9 (N<|m+1).length ((zR w s:Nat):Int)).bind λk=>(N<|m+1)[k]?).bind jA).map (·.2)=_;rw[A R];rfl
     rw[JN,qA,l];simp only[IL,XM,C,if_true];rw[show z6 1 [0] [Cell.val (.int (x:Int)),.val<|.lst<|N<|m+1,.val (.int (zR w s:Nat))]=[Cell.no,.val (.int (x:Int))]from rfl,rZ];rfl
    have M:sY U=di ((jM bs (zZ w s:Nat)).map λx=>D.lst<|(jM bs (zR w s:Nat)).map λy=>D.int<|if x=y then 1 else 0):=by
     unfold sY;have l:zL (zF<|d8 (zg 2)<|zf 7) U=di (Yi<|jM bs (zZ w s:Nat)):=by show(((g9 (N<|m+1).length ((zZ w s:Nat):Int)).bind λk=>(N<|m+1)[k]?).bind jA).map (·.2)=_;rw[A Q];rfl
     rw[qA,l];simp only[IL,XM,C,if_true];exact o
    rw[kO,JN,M,pd h];show(if (qz s w (bW bs)<|bT w bs).length<lim then _ else d5)=_;rw[RY lt];show di (Fl.next<|γ _ _ (.own<|qz s w (bW bs) (bT w bs)++[D.lst (qR (iS w (bW bs) s) (iW w (bW bs) s)<|bT w bs s)]) _ _ _)=_;unfold qz;rw[<- yQ s λk=>D.lst (qR (iS w (bW bs) k) (iW w (bW bs) k)<|bT w bs k)])
 rw[mT];refine z7<|zm (γ':=γ (.own []) .no .no .no .no .no) rfl<|zm X<|zm (γ':=γ (.val<|.lst<|N<|m+1) a (.own []) .no .no .no) rfl<|zm Z ?_;have G:zU (.nm 0) jt (vh<|zg 0) [Cell.no] (N<|m+1)=di (zJ (m+1) λk=>(bW bs k:Int)):=by
  rw[jh];refine zy _ _ λr I=>zA (γ1:=[.val (D.lst<|Yi<|jM bs (r:Int))]) rfl rfl ?_;have e:(jM bs (r:Int)).length=bW bs r:=by rw[XB h];rfl
  show di (D.int ((Yi<|jM bs (r:Int)).length:Int))=_;rw[XM,e]
 have H:m+1<=lim:=by omega
 have l2:2<=lim:=by omega
 unfold sZ;show jV _ (γ (.val<|.lst<|N<|m+1) a (.val<|.lst<|qz m w (bW bs)<|bT w bs) j d g)=_;have v:zS (zL<|zg 2) (.nm 0) 1 [] jt (vh<|zg 0) (γ (.val<|.lst<|N<|m+1) a (.val<|.lst<|qz m w (bW bs)<|bT w bs) j d g)=di (zJ (m+1) λk=>(bW bs k:Int)):=by rw[qA,show zL (zg 2) (γ (.val<|.lst<|N<|m+1) a (.val<|.lst<|qz m w (bW bs)<|bT w bs) j d g)=di (N<|m+1)from rfl];simp only[IL,O,H,if_true];exact G
 rw[wc,YU,jG,JN,v];simp[γ,xW]
end
theorem gY:jx=ja 6 (zH (xw 4<|qr zD)<|zH (vt (zL<|zF<|zf 1) (.nm 5)<|ql 4<|jX ai)<|J2 4):=rfl
theorem lX{h w:Nat}{f g:RK}(e : ∀i j,i<h->j<w->f i j=g i j):qR h w f=qR h w g:=by unfold qR;refine IZ λi a=>?_;rw[k9 λj z=>e i j (IC.mp a) z]
section
variable{p:Int}{h n w:Nat}{f g:RK}
theorem bU(S:0<p)(p7:p<=7)(Z:h<=60)(hn:n<=60)(hw:w<=60)(L : ∀i k,i<h->k<n->0<=f i k/\f i k<p):jx [.int p,.lst<|qR h n f,.lst<|qR n w g,.int (w:Int)]=di (.own<|qR h w λi j=>zl (λk=>f i k*g k j) n%p):=by
 have M:=jv;have J:n<=lim:=by omega
 have O:w<=lim:=by omega
 have C : ∀i j:Nat,i<h->j<w->oX [.val (.int (j:Int)),.val<|.int p,.val<|.lst<|qR n w g,.val (.lst<|zJ n<|f i)]=di (zJ n λk=>f i k*g k j):=λi j y I=>by
  have l:zW (vh<|zg 3) [Cell.val (.int (j:Int)),.val<|.int p,.val<|.lst<|qR n w g,.val (.lst<|zJ n<|f i)]=di ((Iz n).map λ(k:Nat)=>D.int (k:Int)):=by have r:inR (n:Int)=dn:=Jr J;simp[r,jY];rw[jh]
  unfold oX;rw[qA,l];simp only[IL,IU,Lw,J,if_true];rw[show z6 1 [0,2,3] [Cell.val (.int (j:Int)),.val<|.int p,.val<|.lst<|qR n w g,.val (.lst<|zJ n<|f i)]=[Cell.no,.val<|.int (j:Int),.val<|.lst<|qR n w g,.val (.lst<|zJ n<|f i)]from rfl,jh];refine zy _ _ λk z=>zA (γ1:=[.val (.int (k:Int)),.val<|.int (j:Int),.val<|.lst<|qR n w g,.val (.lst<|zJ n<|f i)]) rfl rfl ?_;have z:=IC.mp z;have A:d8 (zg 3) (zf 0) [Cell.val (.int (k:Int)),.val<|.int (j:Int),.val<|.lst<|qR n w g,.val (.lst<|zJ n<|f i)]=di (.int<|f i k):=by show((g9 (zJ n<|f i).length (k:Int)).bind λx=>(zJ n<|f i)[x]?)=_;rw[X5,qm,RY z];exact Zp _ z
  have B:d8 (zF<|d8 (zg 2)<|zf 0) (zf 1) [Cell.val (.int (k:Int)),.val<|.int (j:Int),.val<|.lst<|qR n w g,.val (.lst<|zJ n<|f i)]=di (.int<|g k j):=by
   show((((g9 (qR n w g).length (k:Int)).bind λx=>(qR n w g)[x]?).bind jA).bind λa=>((di (D.int (j:Int))).bind l6).bind λi=>(g9 a.2.length i).bind λx=>a.2[x]?)=_;have e:(qR n w g)[k]? = di (D.lst<|zJ w<|g k):=by unfold qR;rw[Le,MF z];rfl
   rw[XR,qm,RY z];show((((qR n w g)[k]?).bind jA).bind _)=_;rw[e];show((g9 (zJ w<|g k).length (j:Int)).bind λx=>(zJ w<|g k)[x]?)=_;rw[X5,qm,RY I];exact Zp _ I
  have b:=L i k y z;have c:Kc (f i k) (g k j)=dn:=vY _ _ ⋯ ⋯;rw[YX,A,B];simp[c]
 have row : ∀i:Nat,i<h->∀o,ai [.val (.int p),.val<|.lst<|qR h n f,.val<|.lst<|qR n w g,.val<|.int (w:Int),o,.val (.lst<|zJ n<|f i)]=di (zJ w λj=>zl (λk=>f i k*g k j) n%p):=λi y o=>by
  have l:zW (zf 3) [.val (.int p),.val<|.lst<|qR h n f,.val<|.lst<|qR n w g,.val<|.int (w:Int),o,.val (.lst<|zJ n<|f i)]=di ((Iz w).map λ(k:Nat)=>D.int (k:Int)):=by have r:inR (w:Int)=dn:=Jr O;simp[r,jY];rw[jh]
  unfold ai;rw[qA,l];simp only[IL,IU,Lw,O,if_true];rw[show z6 1 [0,2,5] [Cell.val (.int p),.val<|.lst<|qR h n f,.val<|.lst<|qR n w g,.val<|.int (w:Int),o,.val (.lst<|zJ n<|f i)]=[Cell.no,.val<|.int p,.val<|.lst<|qR n w g,.val (.lst<|zJ n<|f i)]from rfl,jh];refine zy _ _ λj I=>zA (γ1:=[.val (.int (j:Int)),.val<|.int p,.val<|.lst<|qR n w g,.val (.lst<|zJ n<|f i)]) rfl rfl ?_;have e:=C i j y<|IC.mp I;rw[YX,YV,yc,e];simp[ZH,S]
 let m:Cell->Cell->Ctx:=λo t=>[.val (.int p),.val<|.lst<|qR h n f,.val<|.lst<|qR n w g,.val<|.int (w:Int),o,t];obtain⟨γ1,e,t,rfl⟩:=Jw (T:= .nm 5) (F:=ql 4<|jX ai) (λs γ'=>∃t,γ'=m (.own<|(Iz s).map λi=>D.lst<|zJ w λj=>zl (λk=>f i k*g k j) n%p) t) (qR h n f) 0 (m (.own []) .no) ⟨.no,rfl⟩ (by
  rintro s d γ' u ⟨t,rfl⟩;rw[MK]at *;obtain⟨E,rfl⟩:s<h/\d=D.lst (zJ n<|f s):=by unfold qR at u;rw[Le]at u;obtain⟨N,H,K⟩:=Option.map_eq_some_iff.mp u;obtain⟨U,Y⟩:=IP.mp H;rw[Lw]at U;rw[List.getElem_range]at Y;subst Y;exact⟨U,K.symm⟩
  refine⟨m (.own<|(Iz<|s+1).map λi=>D.lst<|zJ w λj=>zl (λk=>f i k*g k j) n%p)<|.val<|.lst<|zJ n<|f s,.inl ?_,_,rfl⟩;show ql 4 (jX ai) (m (.own<|(Iz s).map λi=>D.lst<|zJ w λj=>zl (λk=>f i k*g k j) n%p)<|.val<|.lst<|zJ n<|f s)=_;have G:((Iz s).map λi=>D.lst<|zJ w λj=>zl (λk=>f i k*g k j) n%p).length<lim:=by simp;omega
  rw[kO,JN,row s E];show(if _<lim then _ else d5)=_;rw[RY G,yQ s λi=>D.lst (zJ w λj=>zl (λk=>f i k*g k j) n%p)];rfl)
 rw[gY];refine z7<|zm (γ':=m (.own []) .no) rfl<|zm (γ':=m (.own<|qR h w λi j=>zl (λk=>f i k*g k j) n%p) t) ?_ rfl;rw[Xe,show zL (zF<|zf 1) (m (.own []) .no)=di (qR h n f)from rfl];rw[MK,XR]at e;exact e
end
noncomputable def mM(p:Int)(n:Nat)(f g:RK):Nat->Nat->Int:=λi j=>zl (λk=>f i k*g k j) n%p
section
variable{p:Int}{n:Nat}{f f' g g':RK}{i j:Nat}
theorem gU(p:Int)(w:RX)(wd:RZ)(f g T:RV)(k i j:Nat):kQ p w wd f g T k i j=mM p (wd<|zR w k) (mM p (wd<|zZ w k) (f<|zZ w k)<|T k) (g<|zR w k) i j:=by unfold kQ mM;congr 2;funext b;rw[LS];congr 3;funext a;exact LS _ _
end
noncomputable def qE:=ja 3<|kF<|zS (Y9 (zf 1)<|zf 2) (.tp [0,1]) 2 [0] jt (zB xZ<|zb (zf 2)<|zb (zf 0)<|zb (zf 1) zD)
noncomputable def qI:=ja 4<|jV<|zG i8 (zB qb<|zb (zf 0)<|zb (zf 1)<|zb (zf 3) zD)<|zB qb<|zb (zf 0)<|zb (zf 2)<|zb (zf 3) zD
noncomputable def Cf:CO Bool:=sB<|zG i8 (j8 (zg 1)<|zf 0)<|j8 (zg 2)<|zf 0
noncomputable def Ce:CO Bool:=sB<|zB qI<|zb (zf 1)<|zb (zf 2)<|zb (zf 3)<|zb (zf 0) zD
noncomputable def JW:=ja 6 (zH (jj 3 (jX (jr qj (zb (zG qx (yx (zf 0)) (zu (.int 1))) zD)))) (zH (jj 4 (d8 (jF (zS (zL (zg 3)) (.nm 0) 1 [1,2] Cf (zf 0))) (zu (.int 0)))) (zH (jj 5 (d8 (jF (zS (zL (zg 3)) (.nm 0) 1 [0,1,2] Ce (zf 0))) (zu (.int 0)))) (jV (qB (zb (zu (.str "apart")) (zb (zf 4) (zb (j8 (zg 1) (zf 4)) (zb (j8 (zg 2) (zf 4)) (zb (zf 5) zD))))))))))
noncomputable def yO:=ja 6 (zH (pK (zB qk (zb (zf 0) (zb (zf 1) zD)))) (zH (jj 2 (zB jU (zb (zf 0) zD))) (zH (jj 3 (zB jU (zb (zf 1) zD))) (zH (i0 (sB (zG i8 (d8 (zg 2) (zu (.int 0))) (d8 (zg 3) (zu (.int 0))))) (jV (zB JW (zb (zB xB (zb (zf 0) zD)) (zb (d8 (zg 2) (zu (.int 0))) (zb (d8 (zg 3) (zu (.int 0))) zD))))) qg) (zH (jj 4 (jX (jr qE (zb (d8 (zg 0) (zu (.int 0))) (zb (d8 (zg 3) (zu (.int 2))) (zb (d8 (zg 2) (zu (.int 1))) zD)))))) (zH (jj 5 (jX (jr qE (zb (d8 (zg 0) (zu (.int 0))) (zb (d8 (zg 2) (zu (.int 2))) (zb (d8 (zg 3) (zu (.int 1))) zD)))))) (jV (qB (zb (zu (.str "alike")) (zb (zf 4) (zb (zf 5) zD)))))))))))
section
variable{p:Int}{m:Nat}{w:RX}{wd:RZ}{f g T1 T2 F1 G1 F2 G2:RV}{bs:List (Int×Int)}
theorem gK(n:Nat)(f g:Nat->D):JY ((Iz n).map f) ((Iz n).map g)=(Iz n).map λi=>D.tup [f i,g i]:=by unfold JY;rw[Of,Li];rfl
theorem cK(I:0<p)(L:p<=7)(C:m<=60)(J : ∀k,wd k<=60)(O : ∀k i j,k<m->i<wd k->j<wd k->0<=g k i j/\g k i j<p):qE [.int p,.lst<|jR m wd f,.lst (jR m wd g)]=di (.own<|jR m wd λk=>mM p (wd k) (f k)<|g k):=by
 have o:=jv;have U:m<=lim:=by omega
 have l:zU (.tp [0,1]) jt (zB xZ<|zb (zf 2)<|zb (zf 0)<|zb (zf 1) zD) [Cell.no,.no,.val (.int p)] ((Iz m).map λk=>D.tup [xk (wd k) (wd k) (f k),xk (wd k) (wd k) (g k)])=di (jR m wd λk=>mM p (wd k) (f k)<|g k):=by
  unfold jR;refine zy _ _ λk z=>zA (γ1:=[.val (xk (wd k) (wd k)<|f k),.val<|xk (wd k) (wd k)<|g k,.val (.int p)]) rfl rfl ?_;have z:=IC.mp z;have r:=J k;have e:=YZ (p:=p) (h:=wd k) (m:=wd k) (w:=wd k) (f k) (g k) I ⋯ ⋯ ⋯ (λi j n Y=>by have:=O k i j z n Y;omega);have d:(xk (wd k) (wd k) λi j=>zl (λx=>g k x j*f k i x) (wd k)%p)=xk (wd k) (wd k) (mM p (wd k) (f k)<|g k):=by congr 1;funext i j;unfold mM;rw[zx λx _=>LS _ _]
  rw[d]at e;simp[e]
 unfold qE;refine z7 ?_;show kF _ [Cell.val (.int p),.val<|.lst<|jR m wd f,.val (.lst<|jR m wd g)]=_;have a:Y9 (zf 1) (zf 2) [Cell.val (.int p),.val<|.lst<|jR m wd f,.val (.lst<|jR m wd g)]=di ((Iz m).map λk=>D.tup [xk (wd k) (wd k) (f k),xk (wd k) (wd k) (g k)]):=by show di (JY (jR m wd f)<|jR m wd g)=_;unfold jR;rw[gK]
 rw[show kF (zS (Y9 (zf 1)<|zf 2) (.tp [0,1]) 2 [0] jt (zB xZ<|zb (zf 2)<|zb (zf 0)<|zb (zf 1) zD)) [Cell.val (.int p),.val<|.lst<|jR m wd f,.val (.lst<|jR m wd g)]=(zS (Y9 (zf 1)<|zf 2) (.tp [0,1]) 2 [0] jt (zB xZ<|zb (zf 2)<|zb (zf 0)<|zb (zf 1) zD) [Cell.val (.int p),.val<|.lst<|jR m wd f,.val (.lst<|jR m wd g)]).map (λb=>Fl.ret<|.own b)from rfl,qA,a];simp only[IL,IU,Lw,U,if_true];rw[show z6 2 [0] [Cell.val (.int p),.val<|.lst<|jR m wd f,.val (.lst<|jR m wd g)]=[Cell.no,.no,.val (.int p)]from rfl,l];rfl
theorem tM(U:0<p)(Y:p<=7)(S:m<=50)(L : ∀k,wd k<=60)(b1 : ∀k i j,k<m+1->i<wd k->j<wd k->0<=G1 k i j/\G1 k i j<p)(b2 : ∀k i j,k<m+1->i<wd k->j<wd k->0<=G2 k i j/\G2 k i j<p)
 (C:jU [qv p m w wd T1]=di (.val<|xV bs (yu m wd G1)<|yu m wd F1)) (O:jU [qv p m w wd T2]=di (.val<|xV bs (yu m wd G2)<|yu m wd F2)) :
 yO [qv p m w wd T1,qv p m w wd T2]=di (.val (.tup [.str "alike",.lst (jR (m+1) wd λk=>mM p (wd k) (F2 k) (G1 k)),.lst (jR (m+1) wd λk=>mM p (wd k) (F1 k) (G2 k))])):=by
 have n:=jv;have b:=(JI (p:=p) (w:=w) (wd:=wd) (T:=T1) (wd':=wd) (T':=T2)<|show m<=900 by omega).2;have h:=cK (f:=F2) (g:=G1) U Y (show m+1<=60 by omega) L b1;have l:=cK (f:=F1) (g:=G2) U Y (show m+1<=60 by omega) L b2;unfold xV at C O;rw[Xp,Xp]at C O;have a:=Xw (p:=p) (m:=m) (w:=w) (wd:=wd) (T:=T1);generalize qv p m w wd T1=J at *;generalize qv p m w wd T2=R2 at *;have e:i8 (.lst<|zv bs) (.lst<|zv bs)=di (.bl ed):=Zt<|yU bs;have d:3<=lim:=by omega
 unfold yO;let z:D:= .tup [.lst (zv bs),.lst<|jR (m+1) wd G1,.lst (jR (m+1) wd F1)];let I:D:= .tup [.lst (zv bs),.lst<|jR (m+1) wd G2,.lst (jR (m+1) wd F2)];refine z7<|zm (γ':=[.val J,.val R2,.no,.no,.no,.no]) (by simp[zY,b])<|zm (γ':=[.val J,.val R2,.val z,.no,.no,.no]) (by simp[C,z])<|zm (γ':=[.val J,.val R2,.val z,.val I,.no,.no]) (by simp[O,I])<|zm (γ':=[.val J,.val R2,.val z,.val I,.no,.no]) (by simp[z,I,g9,e])<|zm (γ':=[.val J,.val R2,.val z,.val I,.val<|.lst<|jR (m+1) wd λk=>mM p (wd k) (F2 k)<|G1 k,.no]) (by simp[z,I,g9,a,h])<|zm (γ':=[.val J,.val R2,.val z,.val I,.val<|.lst<|jR (m+1) wd λk=>mM p (wd k) (F2 k)<|G1 k,.val (.lst<|jR (m+1) wd λk=>mM p (wd k) (F1 k)<|G2 k)]) (by simp[z,I,g9,a,l]) ?_;simp[d]
end
theorem iz:qu=ja 13 (zH (ZQ (.tp [5,6])<|zB qh<|zb (zf 3)<|zb (zf 4) zD)<|zH (xw 7<|qr zD)<|zH (vt (zW<|vh<|zg 5) (.nm 8) iy)<|zH (xw 9<|qr zD)<|zH (vt (zW<|yx<|zf 3) (.nm 8) iB)<|iu 9<|jV<|qB<|zb (zf 5)<|zb (zf 9) zD):=rfl
section
variable{ns:List Int}{p:Int}{m:Nat}{w:RX}{bs:List (Int×Int)}
theorem uY(an:ns.length<=63)(L:Pr p)(hm:m<=5)(hb:bs.length<=16)(h : ∀b∈bs,xq ((m+1:Nat):Int) b){a:Int}(h0:0<=a)(S:a<=1000) :
 ∃f g:RV,(∀k,k<m+1->Pair p (bW bs k) (f k) (g k))/\qu [QA ns,.int a,.int p,.str<|jJ m w,.lst (zv bs)]=di (.val<|xW m w (bW bs)<|kQ p w (bW bs) f g<|bT w bs):=by
 have hl:=jv;have ap:m+1<=lim:=by omega
 have p0:=L.pos;have p7:=L.le;have K : ∀k,bW bs k<=16:=λk=>by
  have:bW bs k<=bs.length:=by unfold bW eJ j5;exact LN (Ni _ _) ⋯
  omega
 have hT : ∀k i j,0<=bT w bs k i j/\bT w bs k i j<p:=λk i j=>lY L k i j;have bt:=YS (w:=w) hm (show bs.length<64 by omega) h;generalize bW bs=o at *;generalize bT w bs=T at *;have b0 : ∀k:Nat,∃C:(Nat->Nat->Int)×(Nat->Nat->Int),k<m+1->Pair p (o k) C.1 C.2/\qe [QA ns,.int<|a+9*(k:Int),.int p,.int (o k:Nat)]=di (.val<|.tup [.lst (jk (o k) C.1),.lst (jk (o k) C.2)]):=λk=>by
  by_cases O:k<m+1
  ·obtain⟨f,g,S,h2⟩:=uq an L (n:=o k) (by have:=K k;omega) (show(0:Int)<=a+9*(k:Int)by omega) ⋯
   exact⟨(f,g),λ_=>⟨S,h2⟩⟩
  ·exact⟨(λ_ _=>0,λ_ _=>0),λh=>absurd h O⟩
 obtain⟨z,E⟩:=NB b0;refine⟨λk=>(z k).1,λk=>(z k).2,λk O=>(E k O).1,?_⟩;let W:List D:=zJ (m+1) λk=>(o k:Int);let A:List D:=qz m w o T;let U:Nat->List D:=λs=>(Iz s).map λk=>D.tup [.lst (jk (o k) (z k).1),.lst (jk (o k) (z k).2)];let Z:Nat->List D:=λs=>qz s w o<|kQ p w o (λk=>(z k).1) (λk=>(z k).2) T;let γ:Cell->Cell->Cell->Cell->Cell->Cell->Ctx:=λc7 t G Y u I=>[.val (QA ns),.val<|.int a,.val<|.int p,.val<|.str<|jJ m w,.val<|.lst<|zv bs,.val<|.lst W,.val<|.lst A,c7,t,G,Y,u,I];have wl:=vw m w;have b5:=kz w (show m<=1000 by omega);have X:W.length=m+1:=by simp[W]
 have M : ∀{r:Nat},r<m+1->((g9 W.length (r:Int)).bind λk=>W[k]?)=di (.int (o r:Int)):=λ{r} B=>by rw[X,qm,RY B];exact Zp _ B
 have R : ∀s,(U s).length=s:=λs=>by simp[U]
 have Q : ∀{r:Nat},r<m+1->((g9 (U<|m+1).length (r:Int)).bind λk=>(U<|m+1)[k]?).bind jA=di (.T,[.lst (jk (o r) (z r).1),.lst (jk (o r) (z r).2)]):=λ{r} B=>by
  rw[R,qm,RY B];show((U<|m+1)[r]?).bind jA=_;rw[show(U<|m+1)[r]? = di (D.tup [.lst (jk (o r) (z r).1),.lst (jk (o r) (z r).2)])by
   show((Iz<|m+1).map _)[r]? = _;rw[Le,MF B];rfl]
  rfl
 have iA : ∀{k:Nat},k<m->((g9 A.length (k:Int)).bind λx=>A[x]?)=di (.lst<|qR (o<|zZ w k) (o<|zR w k)<|T k):=λ{k} O=>by rw[show A.length=m by simp[A,qz],qm,RY O,Jt w o k,Xj w o k];show((Iz m).map _)[k]? = _;rw[Le,MF O];rfl
 obtain⟨γ1,s3,t,rfl⟩:=xj (T:= .nm 8) (F:=iy) (f:=vh<|zg 5) (λs γ'=>∃t,γ'=γ (.own<|U s) t .no .no .no .no) (m+1) ap (γ:=γ (.own []) .no .no .no .no .no) (by
  show di (D.int (W.length:Int))=_;rw[X]) ⟨.no,rfl⟩ (by
  rintro s y γ' ⟨t,rfl⟩;refine⟨γ (.own<|U s) (.val<|.int (s:Int)) .no .no .no .no,γ (.own<|U<|s+1) (.val<|.int (s:Int)) .no .no .no .no,rfl,?_,_,rfl⟩;have e:=(E s y).2;have G:Kc 9 (s:Int)=dn:=vY _ _ ⋯ ⋯;have lu:(U s).length<lim:=by rw[R];omega
  have v:zB qe (zb (zf 0)<|zb (zG qx (zf 1)<|zG ve (zu<|.int 9)<|zf 8)<|zb (zf 2)<|zb (d8 (zg 5)<|zf 8) zD) (γ (.own<|U s) (.val<|.int (s:Int)) .no .no .no .no)=di (.tup [.lst (jk (o s) (z s).1),.lst (jk (o s) (z s).2)]):=by
   have i:d8 (zg 5) (zf 8) (γ (.own<|U s) (.val<|.int (s:Int)) .no .no .no .no)=di (.int (o s:Int)):=M y;have j:zG qx (zf 1) (zG ve (zu<|.int 9)<|zf 8) (γ (.own<|U s) (.val<|.int (s:Int)) .no .no .no .no)=di (.int<|a+9*(s:Int)):=by simp[γ,G]
   rw[gk,jG,jG,jG,jG,i,j];show(qe [QA ns,.int<|a+9*(s:Int),.int p,.int (o s:Int)]).map Cz=_;rw[e];rfl
  unfold iy;rw[kO,v];show(if (U s).length<lim then _ else d5)=_;rw[RY lu];show di (Fl.next<|γ (.own<|U s++[D.tup [.lst (jk (o s) (z s).1),.lst (jk (o s) (z s).2)]]) _ _ _ _ _)=_;rw[<- yQ s λk=>D.tup [.lst (jk (o k) (z k).1),.lst (jk (o k) (z k).2)]])
 obtain⟨Ul,s5,t,Y,u,I,rfl⟩:=xj (T:= .nm 8) (F:=iB) (f:=yx<|zf 3) (λs γ'=>∃t Y u I,γ'=γ (.own<|U<|m+1) t (.own<|Z s) Y u I) m ⋯ (γ:=γ (.own<|U<|m+1) t (.own []) .no .no .no) (by simp[γ,wl,b5]) ⟨t,.no,.no,.no,rfl⟩ (by
  rintro s y γ' ⟨t,Y,u,I,rfl⟩;have en:=yh (w:=w) hm y;have r1:=VL (w:=w) y;have N:=VS (w:=w) y;let J:Cell->Ctx:=λI=>γ (.own<|U<|m+1) (.val<|.int (s:Int)) (.own<|Z s) (.val<|.int (zR w s:Nat)) (.val<|.int (zZ w s:Nat)) I;let H:Nat->Nat->Int:=λi j=>zl (λk=>T s i k*(z<|zR w s).2 k j) (o<|zR w s)%p;refine⟨γ (.own<|U<|m+1) (.val<|.int (s:Int)) (.own<|Z s) Y u I,γ (.own<|U<|m+1) (.val<|.int (s:Int)) (.own<|Z<|s+1) (.val<|.int (zR w s:Nat)) (.val<|.int (zZ w s:Nat))<|.val<|.lst<|qR (o<|zZ w s) (o<|zR w s) H,rfl,?_,_,_,_,_,rfl⟩;have q1:=K<|zZ w s;have q2:=K<|zR w s;have bd:=bU (h:=o<|zZ w s) (n:=o<|zR w s) (w:=o<|zR w s) (f:=T s) (g:=(z<|zR w s).2) p0 p7 ⋯ ⋯ ⋯<|λi k _ _=>hT s i k;have be:=bU (h:=o<|zZ w s) (n:=o<|zZ w s) (w:=o<|zR w s) (f:=(z<|zZ w s).1) (g:=H) p0 p7 ⋯ ⋯ ⋯<|λi k hi O=>(E _ r1).1.bf i k hi O;unfold iB;refine zm (γ':=J I) (by simp[J,γ,en])<|zm (γ':=J<|.val<|.lst<|qR (o<|zZ w s) (o<|zR w s) H) ?_ ?_
  ·have x1:d8 (zg 6) (zf 8) (J I)=di (.lst<|qR (o<|zZ w s) (o<|zR w s)<|T s):=iA y
   have x2:d8 (zF<|d8 (zg 7)<|zf 10) (zu<|.int 1) (J I)=di (.lst<|jk (o<|zR w s) (z<|zR w s).2):=by rw[QC,show zF (d8 (zg 7)<|zf 10) (J I)=_ from Q N];rfl
   have x3:d8 (zg 5) (zf 10) (J I)=di (.int (o (zR w s):Int)):=M N;unfold uU;rw[Xd,JN,ab,jG,jG,jG,jG,x1,x2,x3];show((((jx [.int p,.lst<|qR (o<|zZ w s) (o<|zR w s)<|T s,.lst<|jk (o<|zR w s) (z<|zR w s).2,.int (o (zR w s):Int)]).bind Ac).map D.lst).map λd=>Fl.next<|(J I).set 12 (.val d))=_;rw[show jx [.int p,.lst<|qR (o<|zZ w s) (o<|zR w s)<|T s,.lst<|jk (o<|zR w s) (z<|zR w s).2,.int (o (zR w s):Int)]=di (.own<|qR (o<|zZ w s) (o<|zR w s) H)from bd];rfl
  ·have x1:d8 (zF<|d8 (zg 7)<|zf 11) (zu<|.int 0) (J<|.val<|.lst<|qR (o<|zZ w s) (o<|zR w s) H)=di (.lst<|jk (o<|zZ w s) (z<|zZ w s).1):=by
    rw[QC,show zF (d8 (zg 7)<|zf 11) (J<|.val<|.lst<|qR (o<|zZ w s) (o<|zR w s) H)=_ from Q r1];rfl
   have x3:d8 (zg 5) (zf 10) (J<|.val<|.lst<|qR (o<|zZ w s) (o<|zR w s) H)=di (.int (o (zR w s):Int)):=M N;have lz:(Z s).length<lim:=by simp[Z,qz];omega
   have bl:(qR (o<|zZ w s) (o<|zR w s) λi j=>zl (λk=>(z<|zZ w s).1 i k*H k j) (o<|zZ w s)%p)=qR (iS w o s) (iW w o s) (kQ p w o (λk=>(z k).1) (λk=>(z k).2) T s):=by rw[<- Jt w o s,<- Xj w o s];refine lX λi j _ _=>?_;show zl (λk=>(z<|zZ w s).1 i k*(zl (λl=>T s k l*(z<|zR w s).2 l j) (o<|zR w s)%p)) (o<|zZ w s)%p=_;rw[bZ p (z<|zZ w s).1 (T s) (z<|zR w s).2 (o<|zZ w s) (o<|zR w s) i j];unfold kQ;congr 2;funext b;rw[LS];congr 3;funext k;exact LS _ _
   unfold uT;rw[kO,JN,ab,jG,jG,jG,jG,x1,x3];show(qJ<|some (Cell.own<|Z s)).bind (λP=>(((jx [.int p,.lst<|jk (o<|zZ w s) (z<|zZ w s).1,.lst<|qR (o<|zZ w s) (o<|zR w s) H,.int (o (zR w s):Int)]).bind Ac).map D.lst).bind λd=>if P.length<lim then di (Fl.next<|(J<|.val<|.lst<|qR (o<|zZ w s) (o<|zR w s) H).set 9 (.own<|P++[d]))else d5)=_;rw[show jx [.int p,.lst<|jk (o<|zZ w s) (z<|zZ w s).1,.lst<|qR (o<|zZ w s) (o<|zR w s) H,.int (o (zR w s):Int)]=_ from be,bl];show(if (Z s).length<lim then di (Fl.next<|γ _ _ (.own<|Z s++[D.lst (qR (iS w o s) (iW w o s)<|kQ p w o (λk=>(z k).1) (λk=>(z k).2) T s)]) _ _ _)else d5)=_;rw[RY lz,show Z s++[D.lst (qR (iS w o s) (iW w o s)<|kQ p w o (λk=>(z k).1) (λk=>(z k).2) T s)]=Z (s+1)from(yQ s _).symm])
 rw[iz];refine z7<|zm (γ':=γ .no .no .no .no .no .no) (by simp[zY,bt,xW,γ,W,A])<|zm (γ':=γ (.own []) .no .no .no .no .no) rfl<|zm s3<|zm (γ':=γ (.own<|U<|m+1) _ (.own []) .no .no .no) rfl<|zm s5 ?_;have l2:2<=lim:=by omega
 show jV (qB<|zb (zf 5)<|zb (zf 9) zD) (γ (.own<|U<|m+1) t (.val<|.lst<|Z m) Y u I)=_;simp[γ,W,Z,xW]
end
section
variable{p:Int}{m N:Nat}{w:RX}{wd:RZ}{T:RV}{A:Nat->fA}{bs:List (Int×Int)}{b c:Int×Int}
theorem WN(h : ∀b∈bs,xq ((m+1:Nat):Int) b):xY (Yk (bS bs) (bE bs) bs.length) bs.length=bs:=by
 conv=>rhs;rw[fZ h]
 unfold xY;refine IZ λj z=>?_;have:=(bu h<|IC.mp z).2.1;show((bS bs j:Int),((bS bs j+(bE bs j - bS bs j+1) - 1:Nat):Int))=_;rw[show bS bs j+(bE bs j - bS bs j+1) - 1=bE bs j by omega]
theorem sV(bs:List (Int×Int))(k:Nat):bW bs k<=bs.length:=by unfold bW eJ j5;exact LN (Ni _ _) ⋯
end
theorem mW:jo=ja 9 (zH (jj 3<|KH (d8 (zg 1)<|zu<|.int 0)<|d8 (zg 2)<|zu<|.int 0)<|zH (jj 4<|Xv (d8 (zg 1)<|zu<|.int 1)<|d8 (zg 2)<|zu<|.int 1)<|zH (i0 (sB<|zG qs (zf 3)<|zf 4) (jV<|zu<|.int 0) qg)<|zH (vt mV (.tp [5,6,7]) vq)<|jV<|zu<|.int 1):=rfl
section
variable{m a b c d:Nat}{w:RX}
theorem YQ(S:m<=5){lo hi k:Nat}(L:k<m)(x y:Bool)(Z:(x || y)=dn)(I J C:Cell) :
 vq [.val (.str<|jJ m w),I,J,.val<|.int (lo:Int),.val<|.int (hi:Int),.val<|.int (k:Int),.val<|.bl x,.val<|.bl y,C]=(let o:=decide (zR w k=lo\/zR w k=hi) && (decide (lo<=zR w k) && decide (zR w k<=hi));if ((x && !o) || (y && o))=dn then di (.ret<|.val<|.int 0)else di (.next [.val (.str<|jJ m w),I,J,.val<|.int (lo:Int),.val<|.int (hi:Int),.val<|.int (k:Int),.val<|.bl x,.val<|.bl y,.val (.bl o)])):=by
 have O:=yh (w:=w) S L;generalize zR w k=z at O;have v:tj [.val (.str<|jJ m w),I,J,.val<|.int (lo:Int),.val<|.int (hi:Int),.val<|.int (k:Int),.val<|.bl x,.val<|.bl y,C]=di (.bl<|decide (z=lo\/z=hi) && (decide (lo<=z) && decide (z<=hi))):=by
  have U:d8 (zF<|zB jO<|zb (zf 0)<|zb (zf 5) zD) (zu<|.int 0) [.val (.str<|jJ m w),I,J,.val<|.int (lo:Int),.val<|.int (hi:Int),.val<|.int (k:Int),.val<|.bl x,.val<|.bl y,C]=di (.int (z:Int)):=by simp[O]
  unfold tj;have i:EK (d8 (zF<|zB jO<|zb (zf 0)<|zb (zf 5) zD)<|zu<|.int 0) (jF<|qr<|zb (zf 3)<|zb (zf 4) zD) [.val (.str<|jJ m w),I,J,.val<|.int (lo:Int),.val<|.int (hi:Int),.val<|.int (k:Int),.val<|.bl x,.val<|.bl y,C]=di (.bl<|decide<|z=lo\/z=hi):=by rw[BX,U];show di (D.bl<|decide<|(z:Int) ∈ [(lo:Int),(hi:Int)])=_;congr 2;rw[Mu];simp;omega
  rw[Cc,i,mY,U];by_cases q:z=lo\/z=hi
  ·by_cases Y:lo<=z
   ·simp[q,Y]
   ·simp[q,Y]
  ·simp[q]
 unfold vq;rw[YW];have t:Y4 (sB<|zf 6) (sB<|zf 7) [.val (.str<|jJ m w),I,J,.val<|.int (lo:Int),.val<|.int (hi:Int),.val<|.int (k:Int),.val<|.bl x,.val<|.bl y,C]=di dn:=by cases x<;>cases y<;>simp_all
 rw[t];show zH _ _ _=_;rw[jm,Xd,v];generalize (decide (z=lo\/z=hi) && (decide (lo<=z) && decide (z<=hi)))=o;cases x<;>cases y<;>cases o<;>rfl
theorem YR{lo hi:Int}(k:Int)(z I C:Cell)(s:Str):vq [.val (.str s),z,I,.val<|.int lo,.val<|.int hi,.val<|.int k,.val<|.bl ed,.val<|.bl ed,C]=di (.next [.val (.str s),z,I,.val<|.int lo,.val<|.int hi,.val<|.int k,.val<|.bl ed,.val<|.bl ed,C]):=rfl
theorem oV(L:m<=5)(S:a<=m)(Z:c<=m)(q:max a c<=min b d)(z I C:Cell) :
 (rr w a c=dn/\∃J,vq [.val (.str<|jJ m w),z,I,.val<|.int ((max a c:Nat):Int),.val<|.int ((min b d:Nat):Int),.val<|.int<|((max a c:Nat):Int) - 1,.val<|.bl<|decide<|a<max a c,.val<|.bl<|decide<|c<max a c,C]=di (.next [.val (.str<|jJ m w),z,I,.val<|.int ((max a c:Nat):Int),.val<|.int ((min b d:Nat):Int),.val<|.int<|((max a c:Nat):Int) - 1,.val<|.bl<|decide<|a<max a c,.val<|.bl<|decide<|c<max a c,J]))\/
 (rr w a c=ed/\vq [.val (.str<|jJ m w),z,I,.val<|.int ((max a c:Nat):Int),.val<|.int ((min b d:Nat):Int),.val<|.int<|((max a c:Nat):Int) - 1,.val<|.bl<|decide<|a<max a c,.val<|.bl<|decide<|c<max a c,C]=di (.ret<|.val<|.int 0)):=by
 by_cases h:a=c
 ·subst h
  rw[show decide (a<max a a)=ed from decide_eq_false ⋯];exact .inl ⟨by simp[rr],C,YR _ _ _ _ _⟩
 ·obtain⟨k,e⟩ : ∃k:Nat,max a c=k+1:=⟨max a c - 1,by omega⟩
  have O:(((max a c:Nat):Int) - 1)=(k:Int):=by omega
  have st:=YQ (w:=w) L (lo:=max a c) (hi:=min b d) (k:=k) ⋯ (decide<|a<max a c) (decide<|c<max a c) (by simp;omega) z I C;rw[O];have g:decide (a=c)=ed:=decide_eq_false h;have U:decide (c<max a c) = !decide (a<c):=by rw[Mu];simp;omega
  have Y:decide (a<max a c)=decide (a<c):=by rw[Mu];simp;omega
  have f:rr w a c=(w k==decide (a<c)):=by unfold rr;rw[g,show max a c - 1=k by omega];rfl
  have o:(decide (zR w k=max a c\/zR w k=min b d) && (decide (max a c<=zR w k) && decide (zR w k<=min b d)))=w k:=by
   unfold zR;cases w k
   ·have : ¬max a c<=k:=by omega
    simp[this]
   ·have i:k+1=max a c:=e.symm
    simp[i];omega
  rw[st,o,f,U,Y];cases w k<;>cases decide (a<c)
  ·exact .inl ⟨rfl,_,rfl⟩
  ·exact .inr ⟨rfl,rfl⟩
  ·exact .inr ⟨rfl,rfl⟩
  ·exact .inl ⟨rfl,_,rfl⟩
theorem oW(L:m<=5)(S:b<=m)(Z:d<=m)(q:max a c<=min b d)(z I C:Cell) :
 (r0 w b d=dn/\∃J,vq [.val (.str<|jJ m w),z,I,.val<|.int ((max a c:Nat):Int),.val<|.int ((min b d:Nat):Int),.val<|.int ((min b d:Nat):Int),.val<|.bl<|decide<|min b d<b,.val<|.bl<|decide<|min b d<d,C]=di (.next [.val (.str<|jJ m w),z,I,.val<|.int ((max a c:Nat):Int),.val<|.int ((min b d:Nat):Int),.val<|.int ((min b d:Nat):Int),.val<|.bl<|decide<|min b d<b,.val<|.bl<|decide<|min b d<d,J]))\/
 (r0 w b d=ed/\vq [.val (.str<|jJ m w),z,I,.val<|.int ((max a c:Nat):Int),.val<|.int ((min b d:Nat):Int),.val<|.int ((min b d:Nat):Int),.val<|.bl<|decide<|min b d<b,.val<|.bl<|decide<|min b d<d,C]=di (.ret<|.val<|.int 0)):=by
 by_cases h:b=d
 ·subst h
  rw[show decide (min b b<b)=ed from decide_eq_false ⋯];exact .inl ⟨by simp[r0],C,YR _ _ _ _ _⟩
 ·have st:=YQ (w:=w) L (lo:=max a c) (hi:=min b d) (k:=min b d) ⋯ (decide<|min b d<b) (decide<|min b d<d) (by simp;omega) z I C
  have e:decide (b=d)=ed:=decide_eq_false h;have O:decide (min b d<d)=decide (b<d):=by rw[Mu];simp;omega
  have U:decide (min b d<b) = !decide (b<d):=by rw[Mu];simp;omega
  have Y:r0 w b d=(w (min b d)==decide (b<d)):=by unfold r0;rw[e];rfl
  have o:(decide (zR w (min b d)=max a c\/zR w (min b d)=min b d) && (decide (max a c<=zR w (min b d)) && decide (zR w (min b d)<=min b d))) = !w (min b d):=by
   unfold zR;cases w (min b d)
   ·simp
    omega
   ·have : ¬min b d+1<=min b d:=by omega
    simp[this]
  rw[st,o,Y,O,U];cases w (min b d)<;>cases decide (b<d)
  ·exact .inl ⟨rfl,_,rfl⟩
  ·exact .inr ⟨rfl,rfl⟩
  ·exact .inr ⟨rfl,rfl⟩
  ·exact .inl ⟨rfl,_,rfl⟩
theorem gX(C:m<=5)(O:a<=b)(U:b<=m)(Y:c<=d)(L:d<=m):jo [.str (jJ m w),pr a b,pr c d]=di (.val<|.int<|if r9 w a b c d=dn then 1 else 0):=by
 let lo:=max a c;let f:=min b d;let γ:Cell->Cell->Cell->Cell->Ctx:=λk l n g=>[.val (.str<|jJ m w),.val<|pr a b,.val<|pr c d,.val<|.int (lo:Int),.val<|.int (f:Int),k,l,n,g];rw[mW];refine z7<|zm (γ':=[.val (.str<|jJ m w),.val<|pr a b,.val<|pr c d,.val<|.int (lo:Int),.no,.no,.no,.no,.no]) (by simp[zY,XQ,g9,lo])<|zm (γ':=γ .no .no .no .no) (by simp[γ,XO,g9,f]) ?_;by_cases q:lo<=f
 ·have p : ¬((f:Nat):Int)<((lo:Nat):Int):=by omega
  refine zm (γ':=γ .no .no .no .no) (by rw[YW,tI,show zG qs (zf 3) (zf 4) (γ .no .no .no .no)=di (.bl ed)by simp[γ];omega];rfl) ?_;have j:mV (γ .no .no .no .no)=di [.tup [.int ((lo:Int) - 1),.bl<|decide<|a<lo,.bl (decide<|c<lo)],.tup [.int (f:Int),.bl<|decide<|f<b,.bl (decide<|f<d)]]:=by simp[mV,γ,g9]
  have J:=oV (w:=w) C (a:=a) (b:=b) (c:=c) (d:=d) ⋯ ⋯ q (.val<|pr a b) (.val<|pr c d) .no;rw[jm,Xe,j,IL,qi];show((vq<|γ (.val<|.int<|(lo:Int) - 1) (.val<|.bl<|decide<|a<lo) (.val<|.bl<|decide<|c<lo) .no).bind _).bind _=_;rcases J with⟨h,g,e⟩ | ⟨h,e⟩
  ·rw[show vq (γ (.val<|.int<|(lo:Int) - 1) (.val<|.bl<|decide<|a<lo) (.val<|.bl<|decide<|c<lo) .no)=_ from e,IL]
   show(xP _ _ _ _).bind _=_;rw[qi];show((vq<|γ (.val<|.int (f:Int)) (.val<|.bl<|decide<|f<b) (.val<|.bl<|decide<|f<d) g).bind _).bind _=_;rcases oW (w:=w) C (a:=a) (b:=b) (c:=c) (d:=d) ⋯ ⋯ q (.val<|pr a b) (.val<|pr c d) g with⟨i,o,z⟩ | ⟨i,z⟩
   ·rw[show vq (γ (.val<|.int (f:Int)) (.val<|.bl<|decide<|f<b) (.val<|.bl<|decide<|f<d) g)=_ from z]
    have I:max a c<=min b d:=q;simp[r9,h,i,I,xP]
   ·rw[show vq (γ (.val<|.int (f:Int)) (.val<|.bl<|decide<|f<b) (.val<|.bl<|decide<|f<d) g)=_ from z]
    simp[r9,i]
  ·rw[show vq (γ (.val<|.int<|(lo:Int) - 1) (.val<|.bl<|decide<|a<lo) (.val<|.bl<|decide<|c<lo) .no)=_ from e]
   simp[r9,h]
 ·rw[jm,YW,tI,show zG qs (zf 3) (zf 4) (γ .no .no .no .no)=di (.bl dn)by simp[γ];omega]
  have I : ¬max a c<=min b d:=q;simp[r9,I]
end
section ap
variable(γ:Ctx)
@[simp] noncomputable def Gh:=@EL.eq_1
@[simp] noncomputable def GR:=@Ii.eq_1
@[simp] theorem FS(f):uN f γ=((f γ).bind l6).map λi=> .int (-i):=rfl
@[simp] noncomputable def uc:=@Cs.eq_1
end ap
section
variable{p:Int}{m:Nat}{w:RX}{bs bs1 bs2:List (Int×Int)}{c:Int×Int}
theorem fM(S:m<=5)(C : ∀b∈bs1,xq ((m+1:Nat):Int) b)(L : ∀b∈bs2,xq ((m+1:Nat):Int) b)(O:bs1.length<=lim)(Z:bs2.length<=lim):x9 [.str (jJ m w),.lst<|zv bs1,.lst (zv bs2)]=di (.val<|.int<|kT<|bs1.map λb=>kT<|bs2.map λc=>iN w b c):=by
 have d : ∀b∈bs1,∀c∈bs2,jo [.str (jJ m w),.tup [.int b.1,.int b.2],.tup [.int c.1,.int c.2]]=di (.val<|.int<|iN w b c):=λb z c I=>by rw[iX (C b z),iX (L c I)];obtain⟨x1,e,x3⟩:=C b z;obtain⟨f,g,h⟩:=L c I;exact gX S ⋯ ⋯ ⋯ ⋯
 have U:(zv bs1).length<=lim:=by simpa using O
 have Y:(zv bs2).length<=lim:=by simpa using Z
 have a0 : ∀b∈bs1,gH (jF<|zS (zL<|zg 2) (.nm 0) 1 [0,1] jt (zB jo<|zb (zf 2)<|zb (zf 1)<|zb (zf 0) zD)) [.val (.tup [.int b.1,.int b.2]),.val<|.str<|jJ m w,.val (.lst<|zv bs2)]=di (.int<|kT<|bs2.map λc=>iN w b c):=λb z=>by
  have a:zU (.nm 0) jt (zB jo<|zb (zf 2)<|zb (zf 1)<|zb (zf 0) zD) [Cell.no,.val<|.tup [.int b.1,.int b.2],.val (.str<|jJ m w)] (zv bs2)=di (bs2.map λc=>D.int<|iN w b c):=by unfold zv;exact zy _ _ λc I=>zA (γ1:=[.val (.tup [.int c.1,.int c.2]),.val<|.tup [.int b.1,.int b.2],.val (.str<|jJ m w)]) rfl rfl (by simp[d b z c I])
  have J:Y6 (bs2.map λc=>D.int<|iN w b c)=di (kT<|bs2.map λc=>iN w b c):=by rw[<- yw,Li];rfl
  rw[YV,yc,qA,show zL (zg 2) [Cell.val (.tup [.int b.1,.int b.2]),.val<|.str<|jJ m w,.val (.lst<|zv bs2)]=di (zv bs2)from rfl];simp only[IL,Y,if_true];rw[show z6 1 [0,1] [Cell.val (.tup [.int b.1,.int b.2]),.val<|.str<|jJ m w,.val (.lst<|zv bs2)]=[Cell.no,.val<|.tup [.int b.1,.int b.2],.val (.str<|jJ m w)]from rfl,a];simp[J]
 have a:zU (.nm 0) jt (gH<|jF<|zS (zL<|zg 2) (.nm 0) 1 [0,1] jt (zB jo<|zb (zf 2)<|zb (zf 1)<|zb (zf 0) zD)) [Cell.no,.val<|.str<|jJ m w,.val (.lst<|zv bs2)] (zv bs1)=di (bs1.map λb=>D.int<|kT<|bs2.map λc=>iN w b c):=by
  conv=>lhs;rw[show zv bs1=bs1.map (λb=>D.tup [.int b.1,.int b.2])from rfl]
  exact zy _ _ λb z=>zA (γ1:=[.val (.tup [.int b.1,.int b.2]),.val<|.str<|jJ m w,.val (.lst<|zv bs2)]) rfl rfl<|a0 b z
 have J:Y6 (bs1.map λb=>D.int<|kT<|bs2.map λc=>iN w b c)=di (kT<|bs1.map λb=>kT<|bs2.map λc=>iN w b c):=by rw[<- yw,Li];rfl
 unfold x9;refine z7 ?_;show jV _ [Cell.val (.str<|jJ m w),.val<|.lst<|zv bs1,.val (.lst<|zv bs2)]=_;rw[wc,YV,yc,qA,show zL (zg 1) [Cell.val (.str<|jJ m w),.val<|.lst<|zv bs1,.val (.lst<|zv bs2)]=di (zv bs1)from rfl];simp only[IL,U,if_true];rw[show z6 1 [0,2] [Cell.val (.str<|jJ m w),.val<|.lst<|zv bs1,.val (.lst<|zv bs2)]=[Cell.no,.val<|.str<|jJ m w,.val (.lst<|zv bs2)]from rfl,a];simp[J]
end
structure O2(p:Int)(m:Nat)(w:RX)(wd:RZ)(K:List (Int×Int))(T F G:RV):Prop where
 pr : ∀r,r<m+1->Pair p (wd r) (F r) (G r)
 eb:jU [qv p m w wd T]=di (.val<|xV K (yu m wd G)<|yu m wd F)
 et : ∀k,k<m->∀i j,i<wd (zZ w k)->j<wd (zR w k)->T k i j=mM p (wd<|zR w k) (mM p (wd<|zZ w k) (F<|zZ w k)<|DO w K k) (G<|zR w k) i j
 rg : ∀k i j,0<=T k i j/\T k i j<p
section
variable{p:Int}{m N:Nat}{w:RX}{wd:RZ}{T T1 T2 F1 G1 F2 G2:RV}{A:Nat->fA}{K:List (Int×Int)}
theorem dC(J:Pr p)(C : ∀k,wd k<=8)(L:m<=5)(U : ∀k i j,0<=T k i j/\T k i j<p)(D:o1 p w wd T m N A) : ∃F G,O2 p m w wd (xJ<|xY A N) T F G:=by
 obtain⟨b,a,g,R,O,cnt,Y,o,y⟩:=gb (T:=T) (w:=w) J C L λk i j _ _ _=>U k i j;have P : ∀j,j<b->1<=(a j).n:=λj I=>(O j I).n1;have f : ∀r,r<=m->Dw (xY a b) r=wd r:=λr z=>by unfold Dw;rw[kJ P,cnt _ z]
 have l:o1 p w wd T m b a:=sH J C O cnt λr z v=>⟨app (g r) (wd r) v,λi d=>(Zk (Y r z).1 v d).symm⟩;have e : ∀(X:Nat->fA) (M:Nat),xY X M=(mh X M).map λs=>((s.1:Int),(s.2:Int)):=λX M=>by unfold xY mh;rw[Li];rfl
 have Q:(xY a b).Perm (xY A N):=by rw[e,e];exact(dq J l D).map _
 have t:xJ (xY a b)=xY a b:=o;have h:xY a b=xJ (xY A N):=by rw[<- t,vg Q]
 refine⟨λr=>xl a b r,g,⟨λr z=>?_,?_,λk K i j d I=>?_,U⟩⟩
 ·obtain⟨u1,u2,u3⟩:=Y r ⋯
  refine⟨λi j d I=>?_,λi j _ _=>u3 i j,u1,u2⟩;have u:j<(il a b r).length:=by rw[cnt r ⋯];exact I
  obtain⟨E,H⟩:=VC u;exact(O _ E).l5 r i H d
 ·rw[<- h];exact y
 ·have x:zR w k<=m:=by unfold zR;split<;>omega
  have B:zZ w k<=m:=by unfold zZ;split<;>omega
  rw[ng J O cnt (λr z=>(Y r z).1) K d I (U k i j),gU,f _ x,f _ B,h]
end
noncomputable def dW:=jj 3<|zB jn<|zb (zf 0)<|zb (zu<|.int 7) zD
noncomputable def aN:=i0 (Y4 (sB<|zG h7 (zG ky (zf 3)<|zu<|.int 2)<|zu<|.int 0)<|sB<|zG h7 (zf 1)<|jX<|qr zD) (kF<|jr qt<|zb (zf 0)<|zb (zu<|.int 64)<|zb (zG ky (zG QB (zf 3)<|zu<|.int 2)<|zu<|.int 6)<|zb (zf 2) zD) qg
noncomputable def dU:=jj 4<|d8 (zg 1)<|zG ky (zG QB (zf 3)<|zu<|.int 2)<|vh<|zg 1
noncomputable def dS:=jj 5<|d8 (zg 1)<|zG ky (zG QB (zf 3)<|zu<|.int 12)<|vh<|zg 1
noncomputable def lM:=xw 6<|Va<|zg 1
noncomputable def dR:=jj 7<|KH (d8 (zg 4)<|zu<|.int 0)<|d8 (zg 5)<|zu<|.int 0
noncomputable def dQ:=jj 8<|Xv (d8 (zg 4)<|zu<|.int 1)<|d8 (zg 5)<|zu<|.int 1
noncomputable def dP:=ql 6<|qB<|zb (Xv (d8 (zg 4)<|zu<|.int 0)<|d8 (zg 5)<|zu<|.int 0)<|zb (KH (d8 (zg 4)<|zu<|.int 1)<|d8 (zg 5)<|zu<|.int 1) zD
noncomputable def dO:=i0 (sB<|zG o3 (zf 7)<|zf 8) (ql 6<|qB<|zb (zf 7)<|zb (zf 8) zD) qg
noncomputable def rQ:CO Bool:=aw (sB<|zG i8 (zf 4)<|zf 5)<|sB<|zG o3 (zf 7)<|zG qx (zf 8)<|zu<|.int 1
noncomputable def Vp:=i0 rQ (zH (Xt 6<|zf 5)<|zH dP dO) qg
noncomputable def qZ:=ja 9<|zH dW<|zH aN<|zH dU<|zH dS<|zH lM<|zH (Xt 6<|zf 4)<|zH dR<|zH dQ<|zH Vp<|kF<|QK<|zg 6
noncomputable def nZ:CO D:=qB<|zb (zf 3)<|zb (zf 4) zD
noncomputable def tZ:=i0 (sB<|zG i8 (j8 (zg 0) nZ)<|j8 (zg 1) nZ) (jV<|qB<|zb nZ<|zb (j8 (zg 0) nZ)<|zb (j8 (zg 1) nZ) zD) qg
noncomputable def tY:=vt (wt (zf 3)<|zf 2) (.nm 4) tZ
noncomputable def xu:=ja 5<|zH (vt (zW<|zf 2) (.nm 3) tY)<|jV<|zu .el
noncomputable def jK:=ja 2<|zH (i0 (Y4 (xf<|sB<|t8 .tuple<|zf 0)<|Y4 (sB<|zG i8 (vh<|zg 0)<|zu<|.int 2)<|Y4 (xf<|sB<|zB qK<|zb (d8 (zg 0)<|zu<|.int 0) zD)<|xf<|sB<|zB qK<|zb (d8 (zg 0)<|zu<|.int 1) zD) (jV<|zu<|.bl ed) qg)<|jV<|Vb o3 o3 z4 (zu<|.int 0) (d8 (zg 0)<|zu<|.int 0) (d8 (zg 0)<|zu<|.int 1)<|zf 1
noncomputable def jH:=ja 8 (zH (jj 5 (zB xu (zb (zf 2) (zb (zf 3) (zb (zf 4) zD))))) (zH (i0 (xf (sB (t8 .tuple (zf 0)))) (jV (zu (.bl ed))) qg) (zH (i0 (sB (zG sL (zf 5) (zu .el))) (jV (nC (zG h7 (vh (zg 0)) (zu (.int 3))) (zG h7 (d8 (zg 0) (zu (.int 0))) (zu (.str "alike"))))) qg) (zH (i0 (Y4 (sB (zG i8 (vh (zg 0)) (zu (.int 5)))) (Y4 (sB (zG i8 (d8 (zg 0) (zu (.int 0))) (zu (.str "apart")))) (sB (zG i8 (Wl (zf 0) (o8 (zu (.int 1))) (o8 (zu (.int 4)))) (zf 5))))) (jV (zu (.bl ed))) qg) (zH (i0 (Y4 (xf (sB (zB jK (zb (d8 (zg 0) (zu (.int 1))) (zb (zf 4) zD))))) (Y4 (xf (sB (zB qK (zb (d8 (zg 0) (zu (.int 2))) zD)))) (xf (sB (zB qK (zb (d8 (zg 0) (zu (.int 3))) zD)))))) (jV (zu (.bl ed))) qg) (zH (jj 6 (d8 (zg 0) (zu (.int 4)))) (zH (i0 (xf (sB (zB jK (zb (zf 6) (zb (zf 4) zD))))) (jV (zu (.bl ed))) qg) (zH (jj 7 (zB x9 (zb (zf 1) (zb (zf 2) (zb (jX (qr (zb (zf 6) zD))) zD))))) (jV (zG i8 (zf 7) (zB x9 (zb (zf 1) (zb (zf 3) (zb (jX (qr (zb (zf 6) zD))) zD))))))))))))))
noncomputable def oR:=jj 1<|zB jn<|zb (zf 0)<|zb (zu<|.int 0) zD
noncomputable def oQ:=jj 2<|d8 (jF<|qr<|zb (zu<|.int 2)<|zb (zu<|.int 3)<|zb (zu<|.int 5)<|zb (zu<|.int 7) zD)<|zG ky (zf 1)<|zu<|.int 4
noncomputable def oP:=jj 3<|zG qx (zu<|.int 1)<|zG ky (zG QB (zf 1)<|zu<|.int 4)<|zu<|.int 5
noncomputable def oO:=jj 4<|zB xt<|zb (zG QB (zf 1)<|zu<|.int 20)<|zb (zf 3) zD
noncomputable def oN:=jj 5<|jX<|jr qt<|zb (zf 0)<|zb (zu<|.int 1)<|zb (zG ky (zG QB (zf 1)<|zu<|.int 1000)<|zu<|.int 6)<|zb (zf 3) zD
noncomputable def oM:=jj 6<|jX<|jr qZ<|zb (zf 0)<|zb (zf 5)<|zb (zf 3) zD
noncomputable def oK:=jj 7<|zB qu<|zb (zf 0)<|zb (zu<|.int 8)<|zb (zf 2)<|zb (zf 4)<|zb (zf 5) zD
noncomputable def oJ:=jj 8<|zB qu<|zb (zf 0)<|zb (zu<|.int 70)<|zb (zf 2)<|zb (zf 4)<|zb (zf 6) zD
noncomputable def oI:=jj 9<|zB q8<|zb (zf 2)<|zb (zf 4)<|zb (zf 7) zD
noncomputable def bM:=jj 10<|zB q8<|zb (zf 2)<|zb (zf 4)<|zb (zf 8) zD
noncomputable def bK:=i0 (xf<|sB<|zB jH<|zb (zB yO<|zb (zf 9)<|zb (zf 10) zD)<|zb (zf 4)<|zb (zf 5)<|zb (zf 6)<|zb (zf 3) zD) (jV<|zu<|.bl ed) qg
noncomputable def bJ:=jV<|zB jH<|zb (zB yO<|zb (zf 10)<|zb (zf 9) zD)<|zb (zf 4)<|zb (zf 6)<|zb (zf 5)<|zb (zf 3) zD
noncomputable def JT:=ja 11<|zH oR<|zH oQ<|zH oP<|zH oO<|zH oN<|zH oM<|zH oK<|zH oJ<|zH oI<|zH bM<|zH bK bJ
abbrev zP(s:Nat×Nat):Int×Int:=((s.1:Int),(s.2:Int))
theorem fv(x b:Int×Int):hH (.tup [.int x.1,.int x.2]) (.tup [.int b.1,.int b.2])=(x==b):=by rw[Xb,Mu];simp[Prod.ext_iff]
theorem W5(b:Int×Int) : ∀bs:List (Int×Int),((zv bs).countP λd=>hH d<|.tup [.int b.1,.int b.2])=bs.count b
 | []=>rfl
 | x::bs=>by have z:=W5 b bs;show((D.tup [.int x.1,.int x.2]::zv bs).countP _)=_;rw[OT,List.count_cons,z];rw[fv x b]
theorem yX{γ:Ctx}{g:CO (Sk×List D)}{f:CO D}{bs:List (Int×Int)}{b:Int×Int}(C:g γ=di (.L,zv bs))(I:f γ=di (.tup [.int b.1,.int b.2])):j8 g f γ=di (.int (bs.count b:Nat)):=by unfold j8;rw[C,I];show(if kA (.tup [.int b.1,.int b.2])=dn/\lW (zv bs)=dn then di (D.int ((zv bs).countP λd=>hH d (.tup [.int b.1,.int b.2]):Nat))else d5)=_;rw[RY ⟨rfl,Jg bs⟩,W5]
noncomputable def JC(bs1 bs2:List (Int×Int))(s:Nat×Nat):Bool:=decide<|bs1.count (zP s)≠bs2.count (zP s)
noncomputable def nH(bs1 bs2:List (Int×Int))(s:Nat×Nat):D:= .tup [kD s,.int (bs1.count (zP s):Nat),.int (bs2.count (zP s):Nat)]
theorem sA:xu=ja 5 (zH (vt (zW<|zf 2) (.nm 3) tY)<|jV<|zu .el):=rfl
theorem QL(i k:Nat):kg (i:Int) k=(Ng i k).map λ(j:Nat)=>D.int j:=by unfold kg;rw[List.range'_eq_map_range,Li];refine IZ λj _=>?_;show D.int _=D.int _;congr 1
section
variable{m:Nat}{w:RX}{bs1 bs2:List (Int×Int)}
abbrev pa(m:Nat)(bs1 bs2:List (Int×Int))(c3 c4:Cell):Ctx:=[.val (.lst (zv bs1)),.val (.lst (zv bs2)),.val (.int (1+(m:Int))),c3,c4]
theorem sy(i j:Nat):tZ (pa m bs1 bs2 (.val<|.int i)<|.val<|.int j)=if JC bs1 bs2 (i,j)=dn then di (.ret<|.val<|nH bs1 bs2 (i,j))else di (.next<|pa m bs1 bs2 (.val<|.int i)<|.val<|.int j):=by
 have t:nZ (pa m bs1 bs2 (.val<|.int i)<|.val<|.int j)=di (.tup [.int (zP (i,j)).1,.int (zP (i,j)).2]):=rfl;have z:j8 (zg 0) nZ (pa m bs1 bs2 (.val<|.int i)<|.val<|.int j)=di (.int (bs1.count (zP (i,j)):Nat)):=yX rfl t;have I:j8 (zg 1) nZ (pa m bs1 bs2 (.val<|.int i)<|.val<|.int j)=di (.int (bs2.count (zP (i,j)):Nat)):=yX rfl t;unfold tZ;rw[YW,tI,YX,z,I];unfold JC;by_cases q:bs1.count (zP (i,j))=bs2.count (zP (i,j))
 ·simp[q]
 ·have J : ¬((bs1.count (zP (i,j)):Nat):Int)=((bs2.count (zP (i,j)):Nat):Int):=by omega
  rw[wc,YU,jG,jG,jG,aa,t,z,I];simp[q,J];rfl
noncomputable def rH(bs1 bs2:List (Int×Int))(γ:Ctx):Option (Nat×Nat)->Option Fl
 | some s=>di (.ret<|.val<|nH bs1 bs2 s)
 | none=>di (.next γ)
theorem og(i:Nat) : ∀(k j:Nat) (C:Cell),∃z,xP (.nm 4) tZ ((Ng j k).map λ(j:Nat)=>D.int j) (pa m bs1 bs2 (.val<|.int i) C)=rH bs1 bs2 (pa m bs1 bs2 (.val<|.int i) z) (((Ng j k).map λj=>(i,j)).find? (JC bs1 bs2))
 | 0,j,C=>⟨C,rfl⟩
 | k+1,j,C=>by
  obtain⟨z,I⟩:=og i k (j+1)<|.val<|.int j;refine⟨z,?_⟩;rw[OR,Ld,Ld,qi];show((tZ<|pa m bs1 bs2 (.val<|.int i)<|.val<|.int j).bind _)=_;rw[sy,MG];by_cases q:JC bs1 bs2 (i,j)=dn
  ·rw[RY q,q]
   rfl
  ·rw[EQ q,Bool.eq_false_iff.mpr q]
   exact I
theorem fu(Z:m<=5) : ∀(L:List Nat) (S C:Cell),(∀i∈L,i<m+1)->∃z I,xP (.nm 3) tY (L.map λ(i:Nat)=>D.int i) (pa m bs1 bs2 S C)=rH bs1 bs2 (pa m bs1 bs2 z I) ((L.flatMap λi=>(Ng i<|m+1 - i).map λj=>(i,j)).find? (JC bs1 bs2))
 | [],S,C,_=>⟨S,C,rfl⟩
 | i::L,S,C,h=>by
  have f:=h i IQ;have g:=jv;obtain⟨J,e⟩:=og (m:=m) (bs1:=bs1) (bs2:=bs2) i (m+1 - i) i C;have a:wt (zf 3) (zf 2) (pa m bs1 bs2 (.val<|.int i) C)=di (kg i<|m+1 - i):=by have O:inR (i:Int)=dn:=Jr ⋯;have d:inR (1+(m:Int))=dn:=Yv ⋯ ⋯;show(if inR (i:Int)=dn/\inR (1+(m:Int))=dn then di (kg i (1+(m:Int) - (i:Int)).toNat)else d5)=_;rw[RY ⟨O,d⟩,show(1+(m:Int) - (i:Int)).toNat=m+1 - i by omega]
  have U:tY (pa m bs1 bs2 (.val<|.int i) C)=xP (.nm 4) tZ ((Ng i<|m+1 - i).map λ(j:Nat)=>D.int j) (pa m bs1 bs2 (.val<|.int i) C):=by unfold tY;rw[Xe,a,IL,QL]
  obtain⟨z,I,Y⟩:=fu Z L (.val<|.int i) J λx b=>h x<|IM _ b;refine⟨z,I,?_⟩;rw[Ld,List.flatMap_cons,qi];show((tY<|pa m bs1 bs2 (.val<|.int i) C).bind _)=_;rw[U,e,List.find?_append];cases q:((Ng i<|m+1 - i).map λj=>(i,j)).find? (JC bs1 bs2)with
  | some s=>rfl
  | none=>exact Y
theorem fm(C:m<=5):xu [.lst (zv bs1),.lst<|zv bs2,.int (1+(m:Int))]=di (.val<|((stN<|m+1).find? (JC bs1 bs2)).elim .el (nH bs1 bs2)):=by
 obtain⟨b,d,e⟩:=fu (bs1:=bs1) (bs2:=bs2) C (Iz<|m+1) .no .no λi f=>IC.mp f;rw[sA];refine z7 ?_;show zH _ _ (pa m bs1 bs2 .no .no)=_;have a:zW (zf 2) (pa m bs1 bs2 .no .no)=di ((Iz<|m+1).map λ(i:Nat)=>D.int i):=by have g:inR (1+(m:Int))=dn:=Yv ⋯ ⋯;show(if inR (1+(m:Int))=dn then di (kg 0 (1+(m:Int)).toNat)else d5)=_;rw[RY g,show(1+(m:Int)).toNat=m+1 by omega,show(0:Int)=((0:Nat):Int)from rfl,QL,<- Oc]
 rw[jm,Xe,a,IL,e];show Option.bind (rH bs1 bs2 (pa m bs1 bs2 b d)<|(stN<|m+1).find? (JC bs1 bs2)) _=_;cases (stN<|m+1).find? (JC bs1 bs2)with
 | some s=>rfl
 | none=>rfl
theorem Yw{P:Nat×Nat->Bool}{g:Nat×Nat->D}{L:List (Nat×Nat)}{s:Nat×Nat}(h:L.find? P=di s):((g9 ((L.filter P).map g).length 0).bind λk=>((L.filter P).map g)[k]?)=di (g s):=by
 rw[<- List.head?_filter]at h;obtain⟨t,e⟩ : ∃t,L.filter P=s::t:=by
  cases q:L.filter P with
  | nil=>rw[q]at h;cases h
  | cons a t=>rw[q]at h;cases h;exact⟨t,rfl⟩
 rw[e];simp[g9]
noncomputable def Wb(w:RX)(bs1 bs2:List (Int×Int))(s:Nat×Nat):Bool:=decide<|kT (bs1.map λb=>iN w b<|zP s)≠kT (bs2.map λb=>iN w b<|zP s)
noncomputable def ud(bs1 bs2:List (Int×Int))(s t:Nat×Nat):D:= .tup [.str "apart",kD s,.int (bs1.count (zP s):Nat),.int (bs2.count (zP s):Nat),kD t]
theorem cc{M:Nat}{s:Nat×Nat}(h:s∈stN M):xq (M:Int) (zP s):=by obtain⟨a,b⟩:=DU.mp h;exact⟨by show(0:Int)<=(s.1:Int);omega,by show(s.1:Int)<=(s.2:Int);omega,by show(s.2:Int)<_;omega⟩
theorem tP:JW=ja 6 (zH (jj 3 (jX (jr qj (zb (zG qx (yx (zf 0)) (zu (.int 1))) zD)))) (zH (jj 4 (d8 (jF (zS (zL (zg 3)) (.nm 0) 1 [1,2] Cf (zf 0))) (zu (.int 0)))) (zH (jj 5 (d8 (jF (zS (zL (zg 3)) (.nm 0) 1 [0,1,2] Ce (zf 0))) (zu (.int 0)))) (jV (qB (zb (zu (.str "apart")) (zb (zf 4) (zb (j8 (zg 1) (zf 4)) (zb (j8 (zg 2) (zf 4)) (zb (zf 5) zD)))))))))):=rfl
theorem oU(C:m<=5)(L : ∀b∈bs1,xq ((m+1:Nat):Int) b)(O : ∀b∈bs2,xq ((m+1:Nat):Int) b)(J:bs1.length<=lim)(S:bs2.length<=lim){s:Nat×Nat}(z:s∈stN (m+1)):qI [.str (jJ m w),.lst<|zv bs1,.lst<|zv bs2,kD s]=di (.val<|.bl<|Wb w bs1 bs2 s):=by
 have a:qb [.str (jJ m w),.lst<|zv bs1,kD s]=di (.val<|.int<|kT<|bs1.map λb=>iN w b<|zP s):=VD (w:=w) (c:=zP s) C L J<|cc z;have I:qb [.str (jJ m w),.lst<|zv bs2,kD s]=di (.val<|.int<|kT<|bs2.map λb=>iN w b<|zP s):=VD (w:=w) (c:=zP s) C O S<|cc z;unfold qI;refine z7 ?_;show jV _ [.val (.str<|jJ m w),.val<|.lst<|zv bs1,.val<|.lst<|zv bs2,.val (kD s)]=_;unfold Wb;by_cases q:kT (bs1.map λb=>iN w b<|zP s)=kT (bs2.map λb=>iN w b<|zP s)
 ·simp[a,I,q]
 ·simp[a,I,q]
theorem tx(Z:m<=5)(C : ∀b∈bs1,xq ((m+1:Nat):Int) b)(L : ∀b∈bs2,xq ((m+1:Nat):Int) b)(U:bs1.length<=lim)(l2:bs2.length<=lim){s t:Nat×Nat}(Y:(stN<|m+1).find? (JC bs1 bs2)=di s)(ht:(stN<|m+1).find? (Wb w bs1 bs2)=di t) :
 JW [.str (jJ m w),.lst<|zv bs1,.lst (zv bs2)]=di (.val<|ud bs1 bs2 s t):=by
 have u:=jv;have J:=EG ⟨m+1,by omega⟩;have r:=(ib ⟨m+1,by omega⟩).2.2;dsimp only at J r;have O:((stN<|m+1).map kD).length<=lim:=by rw[IU];omega
 let γ:Cell->Cell->Cell->Ctx:=λg h i=>[.val (.str<|jJ m w),.val<|.lst<|zv bs1,.val<|.lst<|zv bs2,g,h,i];let S:=Cell.val<|.lst<|(stN<|m+1).map kD;have l:jj 3 (jX<|jr qj<|zb (zG qx (yx<|zf 0)<|zu<|.int 1) zD) (γ .no .no .no)=di (.next<|γ S .no .no):=by
  have f:qj [.int ((m:Int)+1)]=di (.own<|(stN<|m+1).map kD):=by rw[<- J];rfl
  have p:=kz (m:=m) w ⋯;simp[γ,S,vw,f,p]
 have n:jj 4 (d8 (jF<|zS (zL<|zg 3) (.nm 0) 1 [1,2] Cf (zf 0))<|zu<|.int 0) (γ S .no .no)=di (.next<|γ S (.val<|kD s) .no):=by
  have a:zU (.nm 0) Cf (zf 0) [Cell.no,.val<|.lst<|zv bs1,.val (.lst<|zv bs2)] ((stN<|m+1).map kD)=di (((stN<|m+1).filter (JC bs1 bs2)).map kD):=jc _ _ _ λx d=>⟨[.val (kD x),.val<|.lst<|zv bs1,.val (.lst<|zv bs2)],rfl,by
   have z:j8 (zg 1) (zf 0) [.val (kD x),.val<|.lst<|zv bs1,.val (.lst<|zv bs2)]=di (.int (bs1.count (zP x):Nat)):=yX rfl rfl;have I:j8 (zg 2) (zf 0) [.val (kD x),.val<|.lst<|zv bs1,.val (.lst<|zv bs2)]=di (.int (bs2.count (zP x):Nat)):=yX rfl rfl;unfold Cf JC;rw[tI,YX,z,I];by_cases q:bs1.count (zP x)=bs2.count (zP x)
   ·simp[q]
   ·have j : ¬((bs1.count (zP x):Nat):Int)=((bs2.count (zP x):Nat):Int):=by omega
    simp[q,j],λ_=>rfl⟩
  rw[Xd,QC,yc,qA,show zL (zg 3) (γ S .no .no)=di ((stN<|m+1).map kD)from rfl,IL,RY O,show z6 1 [1,2] (γ S .no .no)=[Cell.no,.val<|.lst<|zv bs1,.val (.lst<|zv bs2)]from rfl,a];show OC _ ((g9 (((stN<|m+1).filter (JC bs1 bs2)).map kD).length 0).bind λk=>(((stN<|m+1).filter (JC bs1 bs2)).map kD)[k]?)=_;rw[Yw Y];rfl
 have o:jj 5 (d8 (jF<|zS (zL<|zg 3) (.nm 0) 1 [0,1,2] Ce (zf 0))<|zu<|.int 0) (γ S (.val<|kD s) .no)=di (.next<|γ S (.val<|kD s)<|.val<|kD t):=by
  have a:zU (.nm 0) Ce (zf 0) [Cell.no,.val<|.str<|jJ m w,.val<|.lst<|zv bs1,.val (.lst<|zv bs2)] ((stN<|m+1).map kD)=di (((stN<|m+1).filter (Wb w bs1 bs2)).map kD):=jc _ _ _ λx d=>⟨[.val (kD x),.val<|.str<|jJ m w,.val<|.lst<|zv bs1,.val (.lst<|zv bs2)],rfl,by
   have e:=oU (w:=w) Z C L U l2 d;simp[Ce,e],λ_=>rfl⟩
  rw[Xd,QC,yc,qA,show zL (zg 3) (γ S (.val<|kD s) .no)=di ((stN<|m+1).map kD)from rfl,IL,RY O,show z6 1 [0,1,2] (γ S (.val<|kD s) .no)=[Cell.no,.val<|.str<|jJ m w,.val<|.lst<|zv bs1,.val (.lst<|zv bs2)]from rfl,a];show OC _ ((g9 (((stN<|m+1).filter (Wb w bs1 bs2)).map kD).length 0).bind λk=>(((stN<|m+1).filter (Wb w bs1 bs2)).map kD)[k]?)=_;rw[Yw ht];rfl
 rw[tP];refine z7<|zm (γ':=γ S .no .no) l<|zm n<|zm o ?_;have z:j8 (zg 1) (zf 4) (γ S (.val<|kD s)<|.val<|kD t)=di (.int (bs1.count (zP s):Nat)):=yX rfl rfl;have I:j8 (zg 2) (zf 4) (γ S (.val<|kD s)<|.val<|kD t)=di (.int (bs2.count (zP s):Nat)):=yX rfl rfl;rw[wc,YU,jG,jG,jG,jG,jG,aa,z,I];rfl
end
theorem ZP{F G:CO Fl}{γ:Ctx}{r:Res}(e:F γ=di (.ret r)):zH F G γ=di (.ret r):=by rw[jm,e];rfl
section
variable{p:Int}{m:Nat}{w:RX}{bs bs1 bs2:List (Int×Int)}
theorem W7(h : ∀b∈bs,xq ((m+1:Nat):Int) b)(k:Nat):bW bs k=bs.countP λx=>decide (x.1<=(k:Int)) && decide ((k:Int)<=x.2):=by
 conv=>rhs;rw[fZ h]
 rw[NK];unfold bW eJ j5 il;rw[<- Lu];refine Mn λj z=>?_;have:=(bu h<|IC.mp z).2.1;unfold fA.has GF;simp;omega
theorem fX(C : ∀b∈bs1,xq ((m+1:Nat):Int) b)(I : ∀b∈bs2,xq ((m+1:Nat):Int) b)(J:bs1.Perm bs2):bW bs1=bW bs2:=by funext k;rw[W7 C,W7 I];exact J.countP_eq _
theorem sG{a b c d:List (Int×Int)}(C:a.Perm c)(I:b.Perm d):JC a b=JC c d:=by funext s;unfold JC;rw[C.count_eq,I.count_eq]
theorem oZ{a b c d:List (Int×Int)}(C:a.Perm c)(I:b.Perm d):Wb w a b=Wb w c d:=by funext s;unfold Wb;rw[ZG (C.map _),ZG (I.map _)]
theorem tF{a b c d:List (Int×Int)}(C:a.Perm c)(I:b.Perm d)(s t:Nat×Nat):ud a b s t=ud c d s t:=by unfold ud;rw[C.count_eq,I.count_eq]
theorem nO{c:Int×Int}(h:xq ((m+1:Nat):Int) c) : ∃s,s∈stN (m+1)/\zP s=c:=by
 obtain⟨a,b,z⟩:=h;refine⟨(c.1.toNat,c.2.toNat),DU.mpr ⟨by dsimp only;omega,by dsimp only;omega⟩,?_⟩;refine Prod.ext ?_ ?_
 ·show((c.1.toNat:Nat):Int)=c.1;omega
 ·show((c.2.toNat:Nat):Int)=c.2;omega
theorem sD(h1 : ∀b∈bs1,xq ((m+1:Nat):Int) b)(C : ∀b∈bs2,xq ((m+1:Nat):Int) b)(J : ¬bs1.Perm bs2):(∃s,(stN<|m+1).find? (JC bs1 bs2)=di s)/\∃t,(stN<|m+1).find? (Wb w bs1 bs2)=di t:=by
 constructor
 ·cases q:(stN<|m+1).find? (JC bs1 bs2)with
  | some s=>exact⟨s,rfl⟩
  | none=>
   refine absurd (Oh.mpr λc=>?_) J;by_cases a:xq ((m+1:Nat):Int) c
   ·obtain⟨s,z,rfl⟩:=nO a
    have:=Oz.mp q s z;simpa[JC]using this
   ·rw[LH λI=>a<|h1 c I,LH λI=>a (C c I)]
 ·cases q:(stN<|m+1).find? (Wb w bs1 bs2)with
  | some s=>exact⟨s,rfl⟩
  | none=>
   refine absurd (uw (w:=w) h1 C λc a=>?_) J;obtain⟨s,z,rfl⟩:=nO a;have:=Oz.mp q s z;simpa[Wb]using this
theorem Bd(C:bs1.Perm bs2):(stN<|m+1).find? (JC bs1 bs2)=d5:=
 Oz.mpr λs _=>by simp[JC,C.count_eq]
theorem nR{s:Nat×Nat}(h:s∈stN (m+1)):jK [kD s,.int (1+(m:Int))]=di (.val<|.bl dn):=by
 obtain⟨d,e⟩:=DU.mp h;obtain⟨a,b⟩:=s;dsimp only at d e;have z:=yd (a:Int);have I:=yd (b:Int);have J:(0:Int)<=(a:Int):=by omega
 have O:(b:Int)<1+(m:Int):=by omega
 have ty:gI Ty.tuple (.tup [.int (a:Int),.int (b:Int)])=dn:=rfl;unfold jK kD;dsimp only;refine z7<|zm (γ':=[.val (.tup [.int (a:Int),.int (b:Int)]),.val (.int<|1+(m:Int))]) ?_ ?_
 ·show i0 _ _ _ [.val (.tup [.int (a:Int),.int (b:Int)]),.val (.int<|1+(m:Int))]=_
  simp[g9,z,I,ty]
 ·simp[g9,J,d,O]
theorem iE{X Y:D}(C:m<=5)(I:bs1.Perm bs2):jH [.tup [.str "alike",X,Y],.str (jJ m w),.lst (zv bs1),.lst (zv bs2),.int (1+(m:Int))]=di (.val (.bl dn)):=by
 have f:=fm (bs1:=bs1) (bs2:=bs2) C;rw[Bd I]at f;simp only[Option.elim]at f;let a:Cell->Ctx:=λb=>[.val (.tup [.str "alike",X,Y]),.val (.str (jJ m w)),.val (.lst (zv bs1)),.val (.lst (zv bs2)),.val (.int (1+(m:Int))),b,.no,.no];have ty:gI Ty.tuple (.tup [.str "alike",X,Y])=dn:=rfl;have z:h7 (.int ((3:Nat):Int)) (.int 3)=di (.bl dn):=rfl;have d:h7 (.str "alike") (.str "alike")=di (.bl dn):=by unfold h7;rw[RY ⟨by decide +kernel,by decide +kernel⟩,H9]
 unfold jH;refine z7<|zm (γ':=a<|.val .el) (by show jj _ _ (a .no)=_;simp[a,f])<|zm (γ':=a<|.val .el) (by simp[a,ty])<|ZP ?_;simp[a,g9,d];rfl
theorem iD(C:m<=5)(S : ∀b∈bs1,xq ((m+1:Nat):Int) b)(Z : ∀b∈bs2,xq ((m+1:Nat):Int) b)(Y:bs1.length<=lim)(l2:bs2.length<=lim){s t:Nat×Nat}(O:(stN<|m+1).find? (JC bs1 bs2)=di s)(U:(stN<|m+1).find? (Wb w bs1 bs2)=di t) :
 jH [ud bs1 bs2 s t,.str<|jJ m w,.lst<|zv bs1,.lst<|zv bs2,.int (1+(m:Int))]=di (.val<|.bl dn):=by
 have E:=jv;have f:=fm (bs1:=bs1) (bs2:=bs2) C;rw[O]at f;simp only[Option.elim]at f;have k:=OE O;have mt:=OE U;have x:=List.find?_some U;have i:=nR k;have j:=nR mt;have st : ∀b ∈ [zP t],xq ((m+1:Nat):Int) b:=λb h=>by rw[Mk.mp h];exact cc mt
 have z:=fM (w:=w) (bs2:=[zP t]) C S st Y (by show 1<=lim;omega);have I:=fM (w:=w) (bs2:=[zP t]) C Z st l2 (by show 1<=lim;omega);rw[show zv [zP t]=[kD t]from rfl]at z I;have one : ∀L:List (Int×Int),(L.map λb=>kT<|[zP t].map λc=>iN w b c)=L.map λb=>iN w b (zP t):=λL=>IZ λb _=>by show iN w b (zP t)+0=_;omega
 rw[one]at z I;have u : ¬kT (bs1.map λb=>iN w b<|zP t)=kT (bs2.map λb=>iN w b<|zP t):=by simpa[Wb]using x
 generalize kT (bs1.map λb=>iN w b (zP t))=n1 at *;generalize kT (bs2.map λb=>iN w b (zP t))=n2 at *;let A:=ud bs1 bs2 s t;let a:Cell->Cell->Cell->Ctx:=λd e g=>[.val A,.val (.str (jJ m w)),.val (.lst (zv bs1)),.val (.lst (zv bs2)),.val (.int (1+(m:Int))),d,e,g];have q:jA A=di (.T,[.str "apart",kD s,.int (bs1.count (zP s):Nat),.int (bs2.count (zP s):Nat),kD t]):=rfl;have ty:gI Ty.tuple A=dn:=rfl;have r : ∀d e g,Wl (zf 0) (o8 (zu (.int 1))) (o8 (zu (.int 4))) (a d e g)=di (nH bs1 bs2 s):=λ_ _ _=>rfl;have l:i8 (.int ((5:Nat):Int)) (.int 5)=di (.bl ed):=rfl;have n:i8 (.str "apart") (.str "apart")=di (.bl ed):=Zt ⋯;have p:i8 (nH bs1 bs2 s) (nH bs1 bs2 s)=di (.bl ed):=Zt rfl;have o:sL (nH bs1 bs2 s) .el=di (.bl ed):=rfl;have y:=yd ((bs1.count (zP s):Nat):Int);have B:=yd ((bs2.count (zP s):Nat):Int);let P:=Cell.val (nH bs1 bs2 s);unfold jH;refine z7 (zm (γ':=a P .no .no) (by show jj _ _ (a .no .no .no)=_;simp[a,P,f]) (zm (γ':=a P .no .no) (by simp[a,ty]) (zm (γ':=a P .no .no) (by simp[a,P,o]) (zm (γ':=a P .no .no) ?_ (zm (γ':=a P .no .no) ?_ (zm (γ':=a P (.val (kD t)) .no) (by simp[a,q,g9]) (zm (γ':=a P (.val (kD t)) .no) (by simp[a,j]) (zm (γ':=a P (.val (kD t)) (.val (.int n1))) ?_ ?_))))))))
 ·have:=r P .no .no
  simp[-BS,a,q,g9,l,n,this];simp[P,p]
 ·simp[a,q,g9,i,y,B]
 ·have J:1<=lim:=by omega
  simp[a,z,J]
 ·have J:1<=lim:=by omega
  simp[a,I,J,u]
end
theorem rR:qZ=ja 9 (zH dW<|zH aN<|zH dU<|zH dS<|zH lM<|zH (Xt 6<|zf 4)<|zH dR<|zH dQ<|zH Vp<|kF<|QK<|zg 6):=rfl
theorem Jz{C β:Type}(f:C->β) : ∀(l:List C) (j:Nat),(l.map f).eraseIdx j=(l.eraseIdx j).map f
 | [],_=>rfl
 | _::_,0=>rfl
 | x::l,j+1=>by show f x::(l.map f).eraseIdx j=f x::(l.eraseIdx j).map f;rw[Jz f l j]
theorem GD(a b:Int):(if a<b then b else a)=max a b:=by split<;>omega
theorem GE(a b:Int):(if b<a then b else a)=min a b:=by split<;>omega
section
variable{m:Nat}{bs:List (Int×Int)}
theorem YE(b:Int×Int) : ∀bs:List (Int×Int),((zv bs).findIdx λd=>hH d<|.tup [.int b.1,.int b.2])=bs.idxOf b
 | []=>rfl
 | x::bs=>by have z:=YE b bs;show(D.tup [.int x.1,.int x.2]::zv bs).findIdx _=_;rw[List.findIdx_cons,List.idxOf_cons,z,fv x b]
theorem Ae{γ:Ctx}{f:CO D}{b:Int×Int}(C:γ[6]? = di (.own<|zv bs))(I:f γ=di (.tup [.int b.1,.int b.2]))(z:b∈bs):Xt 6 f γ=di (.next<|γ.set 6<|.own<|zv<|bs.erase b):=by
 rw[tE,C,I];show(if kA (.tup [.int b.1,.int b.2])=dn/\lW (zv bs)=dn/\(zv bs).findIdx (λd=>hH d<|.tup [.int b.1,.int b.2])<(zv bs).length then di (Fl.next<|γ.set 6<|.own<|(zv bs).eraseIdx ((zv bs).findIdx λd=>hH d<|.tup [.int b.1,.int b.2]))else d5)=_;rw[YE,yJ,RY ⟨rfl,Jg bs,List.idxOf_lt_length_of_mem z⟩];have e:(zv bs).eraseIdx (bs.idxOf b)=zv (bs.erase b):=by rw[List.erase_eq_eraseIdx_of_idxOf rfl];unfold zv;rw[Jz]
 rw[e]
theorem ot(J : ∀b∈bs,xq ((m+1:Nat):Int) b){c k:Int}(O:0<=c)(U:0<k)(h:bs ≠ [])(Y:bs.length<=5) : ∃b,b∈bs/\((g9 (zv bs).length (c/k%((zv bs).length:Int))).bind λj=>(zv bs)[j]?)=di (.tup [.int b.1,.int b.2]):=by
 have d:0<bs.length:=Pj.mpr h;rw[yJ];have z:=Lp (c/k) (show(bs.length:Int)≠0 by omega);have I:=La (c/k) (show(0:Int)<(bs.length:Int)by omega);generalize c/k%(bs.length:Int)=j at *;obtain⟨i,rfl⟩ : ∃i:Nat,j=(i:Int):=⟨j.toNat,by omega⟩;have a:i<bs.length:=by omega
 refine⟨bs[i],MW a,?_⟩;rw[show g9 bs.length (i:Int)=di i by unfold g9;rw[RY ⟨z,I⟩];rfl];simp[zv,a]
theorem lD{C:List Int}(L:C.length<=63)(hm:m<=5)(U : ∀b∈bs,xq ((m+1:Nat):Int) b)(S:bs.length<=5) : ∃bs2,qZ [QA C,.lst<|zv bs,.int (1+(m:Int))]=di (.own<|zv bs2)/\(∀b∈bs2,xq ((m+1:Nat):Int) b)/\bs2.length<=5:=by
 have hl:=jv;obtain⟨s,i,b1⟩:=Ka L (k:=7) ⋯ ⋯;generalize kx C 7=c at s i b1;let γ:Cell->Cell->Cell->Cell->Cell->Ctx:=λN P Q R T=>[.val (QA C),.val<|.lst<|zv bs,.val<|.int<|1+(m:Int),.val<|.int c,N,P,Q,R,T];rw[rR];have G:dW (zY 9 [QA C,.lst<|zv bs,.int (1+(m:Int))])=di (.next<|γ .no .no .no .no .no):=by simp[dW,γ,zY,s]
 have nil:h7 (.lst<|zv bs) (.lst [])=di (.bl<|decide<|bs=[]):=by unfold h7;rw[RY ⟨yU bs,rfl⟩];have:=JA bs [];show di (D.bl<|o9 (zv bs)<|zv [])=_;rw[this]
 by_cases q:c%2=0\/bs=[]
 ·obtain⟨n,W,hn⟩ : ∃n:Nat,c/2%6=(n:Int)/\n<=5:=⟨(c/2%6).toNat,by omega,by omega⟩
  obtain⟨bs2,Y,st,l2⟩:=ZJ L (t:=64) ⋯ ⋯ (r:=m+1) (n:=n) ⋯ ⋯ ⋯;rw[show((m+1:Nat):Int)=1+(m:Int)by omega]at Y;refine⟨bs2,z7<|zm G<|ZP ?_,st,by omega⟩;unfold aN;have t:Y4 (sB<|zG h7 (zG ky (zf 3)<|zu<|.int 2)<|zu<|.int 0) (sB<|zG h7 (zf 1)<|jX<|qr zD) (γ .no .no .no .no .no)=di dn:=by
   by_cases g:c%2=0
   ·simp[γ,g]
   ·have J:=q.resolve_left g
    rw[decide_eq_true J]at nil;simp[γ,g,nil]
  rw[YW,t];show kF _ _=_;simp[γ,W,Y]
 ·have g : ¬c%2=0:=λh=>q (.inl h)
  have J:bs ≠ []:=λh=>q<|.inr h;obtain⟨b,j,x1⟩:=ot U i (k:=2) ⋯ J S;obtain⟨d,p,M⟩:=ot U i (k:=12) ⋯ J S;have s1:aN (γ .no .no .no .no .no)=di (.next<|γ .no .no .no .no .no):=by rw[decide_eq_false J]at nil;simp[aN,γ,g,nil]
  have w:0<bs.length:=Pj.mpr J;rw[yJ]at x1 M;let B:=Cell.val<|.tup [.int b.1,.int b.2];let E:=Cell.val<|.tup [.int d.1,.int d.2];have s2:dU (γ .no .no .no .no .no)=di (.next<|γ B .no .no .no .no):=by simp[dU,γ,B,w,x1]
  have s3:dS (γ B .no .no .no .no)=di (.next<|γ B E .no .no .no):=by simp[dS,γ,E,w,M]
  have s4:lM (γ B E .no .no .no)=di (.next<|γ B E (.own<|zv bs) .no .no):=rfl;have s5:Xt 6 (zf 4) (γ B E (.own<|zv bs) .no .no)=di (.next<|γ B E (.own<|zv<|bs.erase b) .no .no):=Ae rfl rfl j;let lo:=max b.1 d.1;let a:=min b.2 d.2;have H:=U b j;have K:=U d p;have s6:dR (γ B E (.own<|zv<|bs.erase b) .no .no)=di (.next<|γ B E (.own<|zv<|bs.erase b) (.val<|.int lo) .no):=by simp[dR,γ,B,E,lo,g9,GD]
  have s7:dQ (γ B E (.own<|zv<|bs.erase b) (.val<|.int lo) .no)=di (.next<|γ B E (.own<|zv<|bs.erase b) (.val<|.int lo)<|.val<|.int a):=by simp[dQ,γ,B,E,a,g9,GE]
  have bm:=List.length_erase_of_mem j;have l : ∀z:List (Int×Int),(∀x∈z,xq ((m+1:Nat):Int) x)->z.length<=5->Vp (γ B E (.own<|zv<|bs.erase b) (.val<|.int lo)<|.val<|.int a)=di (.next<|γ B E (.own<|zv z) (.val<|.int lo)<|.val<|.int a)->∃bs2,ja 9 (zH dW<|zH aN<|zH dU<|zH dS<|zH lM<|zH (Xt 6<|zf 4)<|zH dR<|zH dQ<|zH Vp<|kF<|QK<|zg 6) [QA C,.lst<|zv bs,.int (1+(m:Int))]=di (.own<|zv bs2)/\(∀b∈bs2,xq ((m+1:Nat):Int) b)/\bs2.length<=5:=λz X Z h3=>by refine⟨xJ z,z7<|zm G<|zm s1<|zm s2<|zm s3<|zm s4<|zm s5<|zm s6<|zm s7<|zm h3 ?_,λx hx=>X x<|(qO z).mem_iff.mp hx,by rw[(qO z).length_eq];exact Z⟩;simp[γ,KD (show z.length<64 by omega)]
  have A : ∀x∈bs.erase b,xq ((m+1:Nat):Int) x:=λx hx=>U x<|List.mem_of_mem_erase hx;have ne:i8 (.tup [.int b.1,.int b.2]) (.tup [.int d.1,.int d.2])=di (.bl<|decide<|b≠d):=by
   by_cases e:b=d
   ·rw[e,Zt rfl];simp
   ·unfold i8
    rw[RY ⟨rfl,rfl⟩];rw[fv b d];simp[e]
  have f:rQ (γ B E (.own<|zv<|bs.erase b) (.val<|.int lo)<|.val<|.int a)=di (decide<|b≠d/\lo<=a+1):=by
   have tb:zG i8 (zf 4) (zf 5) (γ B E (.own<|zv<|bs.erase b) (.val<|.int lo)<|.val<|.int a)=di (.bl<|decide<|b≠d):=by rw[YX];exact ne
   have tc:sB (zG o3 (zf 7)<|zG qx (zf 8)<|zu<|.int 1) (γ B E (.own<|zv<|bs.erase b) (.val<|.int lo)<|.val<|.int a)=di (decide<|lo<=a+1):=by simp[γ]
   unfold rQ;rw[tH,tI,tb,tc];by_cases e:b=d<;>by_cases u:lo<=a+1<;>simp[e,u]
  by_cases t:b≠d/\lo<=a+1
  ·rw[decide_eq_true t]at f
   have o:d∈bs.erase b:=(List.mem_erase_of_ne<|λh=>t.1 h.symm).mpr p;have k0:=List.length_erase_of_mem o;let O:=(bs.erase b).erase d;have Y:Xt 6 (zf 5) (γ B E (.own<|zv<|bs.erase b) (.val<|.int lo)<|.val<|.int a)=di (.next<|γ B E (.own<|zv O) (.val<|.int lo)<|.val<|.int a):=Ae rfl rfl o;let I:=O++[(min b.1 d.1,max b.2 d.2)];have n4:O.length<lim:=by show((bs.erase b).erase d).length<lim;omega
   have F:dP (γ B E (.own<|zv O) (.val<|.int lo)<|.val<|.int a)=di (.next<|γ B E (.own<|zv I) (.val<|.int lo)<|.val<|.int a):=by simp[dP,γ,B,E,g9,n4,I,zv,GD,GE]
   have y : ∀x∈I,xq ((m+1:Nat):Int) x:=λx hx=>by
    rcases ME.mp hx with hx | hx
    ·exact A x<|List.mem_of_mem_erase hx
    ·rw[Mk.mp hx]
     obtain⟨u1,u2,u3⟩:=H;obtain⟨v1,v2,v3⟩:=K;exact⟨by show 0<=min b.1 d.1;omega,by show min b.1 d.1<=max b.2 d.2;omega,by show max b.2 d.2<_;omega⟩
   have n5:I.length=O.length+1:=by simp[I]
   have bt:O.length+2=bs.length:=by show((bs.erase b).erase d).length+2=_;have:=List.length_pos_of_mem o;omega
   by_cases u:lo<=a
   ·refine l (I++[(lo,a)]) (λx hx=>?_) (by simp;omega) ?_
    ·rcases ME.mp hx with hx | hx
     ·exact y x hx
     ·rw[Mk.mp hx]
      obtain⟨u1,u2,u3⟩:=H;obtain⟨v1,v2,v3⟩:=K;exact⟨by show 0<=max b.1 d.1;omega,u,by show min b.2 d.2<_;omega⟩
    ·unfold Vp
     rw[YW,f];show zH _ _ _=_;refine zm Y<|zm F ?_;have n6:I.length<lim:=by omega
     simp[dO,γ,u,n6,zv]
   ·refine l I y ⋯ ?_
    unfold Vp;rw[YW,f];show zH _ _ _=_;refine zm Y<|zm F ?_;simp[dO,γ,u]
  ·rw[decide_eq_false t]at f
   refine l (bs.erase b) A ⋯ ?_;unfold Vp;rw[YW,f];rfl
end
theorem oH:JT=ja 11 (zH oR<|zH oQ<|zH oP<|zH oO<|zH oN<|zH oM<|zH oK<|zH oJ<|zH oI<|zH bM<|zH bK bJ):=rfl
section
variable{p:Int}{m:Nat}{w:RX}{wd rh sX:RZ}{T1 T2 F1 G1 F2 G2:RV}{K1 K2 bs1 bs2:List (Int×Int)}
theorem tL(S:m<=5)(C:jU [qv p m w rh T1]=di (.val<|xV K1 (yu m rh G1)<|yu m rh F1))(O:jU [qv p m w sX T2]=di (.val<|xV K2 (yu m sX G2)<|yu m sX F2))(L:K1≠K2){d:D}(U:JW [.str (jJ m w),.lst<|zv K1,.lst (zv K2)]=di (.val d)) :
 yO [qv p m w rh T1,qv p m w sX T2]=di (.val d):=by
 have Y:=(JI (p:=p) (w:=w) (wd:=rh) (T:=T1) (wd':=sX) (T':=T2)<|show m<=900 by omega).2;have b:=kn (p:=p) (w:=w) (wd:=rh) (T:=T1) (show m<=900 by omega);unfold xV at C O;generalize qv p m w rh T1=I at *;generalize qv p m w sX T2=R2 at *;have a:i8 (.lst<|zv K1) (.lst<|zv K2)=di (.bl dn):=by unfold i8;rw[RY ⟨yU _,yU _⟩];have:=JA K1 K2;show di (D.bl<|!o9 (zv K1) (zv K2))=_;rw[this,decide_eq_false L];rfl
 unfold yO;generalize (yu m rh G1)=X1 at *;generalize (yu m rh F1)=Y1 at *;generalize (yu m sX G2)=X2 at *;generalize (yu m sX F2)=Y2 at *;let z:D:= .tup [.lst (zv K1),.lst<|X1.map tD,.lst (Y1.map tD)];let J:D:= .tup [.lst (zv K2),.lst<|X2.map tD,.lst (Y2.map tD)];refine z7<|zm (γ':=[.val I,.val R2,.no,.no,.no,.no]) (by simp[zY,Y])<|zm (γ':=[.val I,.val R2,.val z,.no,.no,.no]) (by simp[C,z])<|zm (γ':=[.val I,.val R2,.val z,.val J,.no,.no]) (by simp[O,J])<|ZP ?_;simp[z,J,g9,a,b,U]
theorem oo(Y:Pr p)(S:m<=5)(C : ∀b∈bs1,xq ((m+1:Nat):Int) b)(L : ∀b∈bs2,xq ((m+1:Nat):Int) b)(Z:bs1.length<=5)(l2:bs2.length<=5)(I:O2 p m w (bW bs1) (xJ bs1) T1 F1 G1)(z:O2 p m w (bW bs2) (xJ bs2) T2 F2 G2) :
 ∃d,yO [qv p m w (bW bs1) T1,qv p m w (bW bs2) T2]=di (.val d)/\jH [d,.str<|jJ m w,.lst<|zv bs1,.lst<|zv bs2,.int (1+(m:Int))]=di (.val<|.bl dn):=by
 have y:=jv;have e:=qO bs1;have f:=qO bs2;by_cases a:bs1.Perm bs2
 ·rw[<- fX C L a,<- vg a]at z
  rw[<- fX C L a];have x : ∀k,bW bs1 k<=60:=λk=>by have:=sV bs1 k;omega
  have r:=tM Y.pos Y.le (show m<=50 by omega) x (λk i j J g O=>(I.pr k J).bg i j g O) (λk i j J g O=>(z.pr k J).bg i j g O) I.eb z.eb;exact⟨_,r,iE S a⟩
 ·obtain⟨⟨s,n⟩,t,o⟩:=sD (w:=w) C L a
  have u:xJ bs1≠xJ bs2:=λh=>a<|e.symm.trans<|h ▸ f;have l:=tx (w:=w) (bs1:=xJ bs1) (bs2:=xJ bs2) (s:=s) (t:=t) S (λb U=>C b<|e.mem_iff.mp U) (λb U=>L b<|f.mem_iff.mp U) (by rw[e.length_eq];omega) (by rw[f.length_eq];omega) (by rw[sG e f];exact n) (by rw[oZ e f];exact o);rw[tF e f]at l;exact⟨_,tL S I.eb z.eb u l,iD S C L ⋯ ⋯ n o⟩
end
theorem Fg(C:List Int)(O:C.length<=63):JT [QA C]=di (.val<|.bl dn):=by
 have hl:=jv;obtain⟨H,B,b1⟩:=Ka O (k:=0) ⋯ ⋯;generalize kx C 0=c at H B b1;obtain⟨q,I,ep,S⟩:=AE B;have s:=I.pos;obtain⟨m,em,K⟩ : ∃m:Nat,1+c/4%5=1+(m:Int)/\m<=4:=⟨(c/4%5).toNat,by omega,by omega⟩;obtain⟨n1,T,ci⟩ : ∃n:Nat,c/1000%6=(n:Int)/\n<=5:=⟨(c/1000%6).toNat,by omega,by omega⟩;obtain⟨w,ew⟩:=uj (c:=c/20) ⋯ (m:=m) ⋯;have X:((m+1:Nat):Int)=1+(m:Int):=by omega
 obtain⟨b,N,J,l1⟩:=ZJ O (t:=1) ⋯ ⋯ (r:=m+1) (n:=n1) ⋯ ⋯ ⋯;rw[X]at N;obtain⟨d,r2,U,L⟩:=lD O (show m<=5 by omega) J ⋯;obtain⟨f1,g1,E,F⟩:=uY (w:=w) O I (show m<=5 by omega) (show b.length<=16 by omega) J (a:=8) ⋯ ⋯;obtain⟨f2,g2,as,G⟩:=uY (w:=w) O I (show m<=5 by omega) (show d.length<=16 by omega) U (a:=70) ⋯ ⋯;have Q : ∀k,bW b k<=5:=λk=>by have:=sV b k;omega
 have R : ∀k,bW d k<=5:=λk=>by have:=sV d k;omega
 let g:=kQ (q:Int) w (bW b) f1 g1<|bT w b;let h:=kQ (q:Int) w (bW d) f2 g2<|bT w d;have Z : ∀k i j,0<=g k i j/\g k i j<(q:Int):=λk i j=>V8 s w (bW b) f1 g1 (bT w b) k i j;have bi : ∀k i j,0<=h k i j/\h k i j<(q:Int):=λk i j=>V8 s w (bW d) f2 g2 (bT w d) k i j;have y:o1 (q:Int) w (bW b) g m b.length λj=>ZF q (bW b) f1 (Yk (bS b) (bE b) b.length j):=Ks s (λr x=>(E r ⋯).fg) (λr x=>(E r ⋯).gf)<|WO (p:=(q:Int)) (w:=w) (m:=m) I λj u=>(bu J u).2;have A:o1 (q:Int) w (bW d) h m d.length λj=>ZF q (bW d) f2 (Yk (bS d) (bE d) d.length j):=Ks s (λr x=>(as r ⋯).fg) (λr x=>(as r ⋯).gf)<|WO (p:=(q:Int)) (w:=w) (m:=m) I λj u=>(bu U u).2;obtain⟨F1,G1,l⟩:=dC I (λk=>by have:=Q k;omega) (show m<=5 by omega) Z y;obtain⟨F2,G2,o⟩:=dC I (λk=>by have:=R k;omega) (show m<=5 by omega) bi A;rw[show xY (λj=>ZF (q:Int) (bW b) f1<|Yk (bS b) (bE b) b.length j) b.length=b from WN J]at l;rw[show xY (λj=>ZF (q:Int) (bW d) f2<|Yk (bS d) (bE d) d.length j) d.length=d from WN U]at o;have bm:=WV (p:=(q:Int)) K w (wd:=bW b) (λk=>by have:=Q k;omega) g;have bn:=WV (p:=(q:Int)) K w (wd:=bW d) (λk=>by have:=R k;omega) h;obtain⟨cl,bt,bv⟩:=oo I (show m<=5 by omega) J U ⋯ L l o;obtain⟨cm,bx,c0⟩:=oo I (show m<=5 by omega) U J L ⋯ o l;have c1:qu [QA C,.int 8,.int q,.str<|jJ m w,.lst (zv b)]=di (.val<|xW m w (bW b) g):=F;have ca:qu [QA C,.int 70,.int q,.str<|jJ m w,.lst (zv d)]=di (.val<|xW m w (bW d) h):=G;clear l o y A F G;generalize xW m w (bW b) g=Y at *;generalize xW m w (bW d) h=U2 at *;generalize qv (q:Int) m w (bW b) g=R1 at *;generalize qv (q:Int) m w (bW d) h=R2 at *;let e:Cell->Cell->Cell->Cell->Cell->Cell->Cell->Cell->Cell->Ctx:=λc2 c3 c4 c5 c6 c7 c8 c9 ce=>[.val (QA C),.val<|.int c,c2,c3,c4,c5,c6,c7,c8,c9,ce];let P:=Cell.val<|.int q;let M:=Cell.val<|.int<|1+(m:Int);let W:=Cell.val<|.str<|jJ m w;let z:=Cell.val<|.lst<|zv b;let f:=Cell.val<|.lst<|zv d;rw[oH];refine z7<|zm (γ':=e .no .no .no .no .no .no .no .no .no) (by simp[oR,zY,H,e])<|zm (γ':=e P .no .no .no .no .no .no .no .no) (by simp[oQ,e,S,ep,P])<|zm (γ':=e P M .no .no .no .no .no .no .no) (by simp[oP,e,em,P,M])<|zm (γ':=e P M W .no .no .no .no .no .no) (by simp[oO,e,ew,W,P,M])<|zm (γ':=e P M W z .no .no .no .no .no) (by simp[oN,e,T,N,z,P,M,W])<|zm (γ':=e P M W z f .no .no .no .no) (by simp[oM,e,r2,z,f,P,M,W])<|zm (γ':=e P M W z f (.val Y) .no .no .no) (by simp[oK,e,P,M,W,z,c1])<|zm (γ':=e P M W z f (.val Y) (.val U2) .no .no) (by simp[oJ,e,P,M,W,f,ca])<|zm (γ':=e P M W z f (.val Y) (.val U2) (.val R1) .no) (by simp[oI,e,P,M,W,bm])<|zm (γ':=e P M W z f (.val Y) (.val U2) (.val R1)<|.val R2) (by simp[bM,e,P,M,W,bn])<|zm (γ':=e P M W z f (.val Y) (.val U2) (.val R1)<|.val R2) (by simp[bK,e,P,M,W,z,f,bt,bv]) ?_;simp[bJ,e,P,M,W,z,f,bx,c0]
open PySem.Spec PyProof.Rows
noncomputable def top(i:Nat):PySem.Stmt:=PySem.Challenge.pw_barsplit_k42_apart_by_a_bar.main.body.getD i<|.Pass ⟨0,0,0,0⟩
section
variable{CR CL:PySem.Addr}{P:PySem.Program}{w:PySem.World}{K:Iy}{mg:PySem.Str->Option PySem.Value}{base:PySem.Heap}
theorem Vz(h:us.length=n+1) : ∃a t,us=a::t/\t.length=n:=by
 cases us with
 | nil=>exact absurd h<|Nat.zero_ne_add_one n
 | cons a t=>exact⟨a,t,rfl,Nat.succ.inj h⟩
theorem Iu(h:us.length=1) : ∃a,us=[a]:=by obtain⟨a,I,rfl,z⟩:=Vz h;rw[Lx z];exact⟨a,rfl⟩
theorem Ir(h:us.length=2) : ∃a b,us=[a,b]:=by obtain⟨a,I,rfl,z⟩:=Vz h;obtain⟨b,J,rfl,d⟩:=Vz z;rw[Lx d];exact⟨a,b,rfl⟩
theorem Iq(h:us.length=3) : ∃a b c,us=[a,b,c]:=by obtain⟨a,I,rfl,z⟩:=Vz h;obtain⟨b,J,rfl,d⟩:=Vz z;obtain⟨c,O,rfl,e⟩:=Vz d;rw[Lx e];exact⟨a,b,c,rfl⟩
theorem Ip(h:us.length=4) : ∃a b c d,us=[a,b,c,d]:=by obtain⟨a,J,rfl,z⟩:=Vz h;obtain⟨b,O,rfl,e⟩:=Vz z;obtain⟨c,U,rfl,f⟩:=Vz e;obtain⟨d,Y,rfl,I⟩:=Vz f;rw[Lx I];exact⟨a,b,c,d,rfl⟩
theorem Io{C:Type}{us:List C}(h:us.length=5) : ∃a b c d e,us=[a,b,c,d,e]:=by obtain⟨a,O,rfl,z⟩:=Vz h;obtain⟨b,U,rfl,f⟩:=Vz z;obtain⟨c,Y,rfl,g⟩:=Vz f;obtain⟨d,i,rfl,I⟩:=Vz g;obtain⟨e,j,rfl,J⟩:=Vz I;rw[Lx J];exact⟨a,b,c,d,e,rfl⟩
structure E0(K:Iy)(mg:PySem.Str->Option PySem.Value):Prop where
 Q0:g8 K mg "_law_cell" (top 52) ["_law_script","_law_k"]
 Q1:g8 K mg "_law_ways" (top 56) ["_law_cell_here","_law_rooms"]
 Q2:g8 K mg "_law_stretches" (top 55) ["_law_script","_law_at","_law_many","_law_rooms"]
 Q3:g8 K mg "_law_others" (top 64) ["_law_script","_law_bars","_law_rooms"]
 Q4:g8 K mg "_law_ends" (top 54) ["_law_ways_here","_law_k"]
 Q5:g8 K mg "_law_bar_tables" (top 58) ["_law_ways_here","_law_bars"]
 Q6:g8 K mg "_law_times" (top 57) ["_law_p","_law_one","_law_other","_law_wide"]
 Q7:g8 K mg "_law_turn" (top 59) ["_law_script","_law_at","_law_p","_law_size"]
 Q8:g8 K mg "_law_row" (top 60) ["_law_script","_law_at","_law_p","_law_ways_here","_law_bars"]
 Q9:g8 K mg "_law_handed" (top 61) ["_law_p","_law_ways_here","_law_row_here"]
 Qa:g8 K mg "_law_first" (top 65) ["_law_ones","_law_others_here","_law_rooms"]
 Qb:g8 K mg "_law_bar_to_bar" (top 62) ["_law_ways_here","_law_one","_law_other"]
 Qc:g8 K mg "_law_count" (top 63) ["_law_ways_here","_law_ones","_law_others_here"]
 Qd:g8 K mg "_law_whole" (top 53) ["_law_found"]
 Qe:g8 K mg "_law_is_stretch" (top 66) ["_law_found","_law_rooms"]
 Qf:g8 K mg "_law_right" (top 67) ["_law_found","_law_ways_here","_law_ones","_law_others_here","_law_rooms"]
 Qg:g8 K mg "ways_of" (top 36) ["row"]
 Qh:g8 K mg "one_kind" (top 37) ["one","other"]
 Qi:g8 K mg "ask_one_kind" (top 38) ["one","other"]
 Qj:g8 K mg "behind_noughts" (top 15) ["many","base"]
 Qk:g8 K mg "rests" (top 5) ["p","numbers"]
 Ql:g8 K mg "inverse" (top 6) ["p","x"]
 Qm:g8 K mg "cleared" (top 13) ["p","load","pivot","place"]
 Qn:g8 K mg "base_of" (top 14) ["p","long","loads"]
 Qo:g8 K mg "turned_over" (top 9) ["table"]
 Qp:g8 K mg "same_table" (top 10) ["many"]
 Qq:g8 K mg "led_into" (top 16) ["p","table","base"]
 Qr:g8 K mg "kernel" (top 17) ["p","table"]
 Qs:g8 K mg "image" (top 18) ["p","table"]
 Qt:g8 K mg "columns" (top 25) ["high","loads"]
 Qu:g8 K mg "has_room" (top 23) ["bar","room"]
 Qv:g8 K mg "loads_in" (top 24) ["bars","room"]
 Qw:g8 K mg "lead_of" (top 12) ["load"]
 Qx:g8 K mg "led" (top 7) ["p","table","load"]
 Qy:g8 K mg "mixed_load" (top 26) ["row","bars","times","room"]
 Qz:g8 K mg "mixed" (top 27) ["row","bars","times"]
 SV:g8 K mg "settled" (top 28) ["row","k","bars"]
 SW:g8 K mg "solved" (top 19) ["p","table","load"]
 SY:g8 K mg "next_load" (top 29) ["p","arrow","load"]
 S0:g8 K mg "taken_on" (top 30) ["p","arrow","bar"]
 S1:g8 K mg "new_loads" (top 31) ["p","arrow"]
 S2:g8 K mg "grown" (top 32) ["row","k","bars"]
 S3:g8 K mg "stretch_of" (top 22) ["bar"]
 S4:g8 K mg "all_grown" (top 33) ["row"]
 S5:g8 K mg "back_of" (top 20) ["p","table"]
 S6:g8 K mg "barred" (top 34) ["row"]
 S7:g8 K mg "product" (top 8) ["p","one","other"]
 S8:g8 K mg "room_by_room" (top 47) ["p","ones","others"]
 S9:g8 K mg "stretches_of" (top 40) ["many"]
 Ta:g8 K mg "left_holds" (top 42) ["ways","one","other"]
 Tb:g8 K mg "right_holds" (top 43) ["ways","one","other"]
 Tc:g8 K mg "bar_ways" (top 44) ["ways","one","other"]
 Td:g8 K mg "ways_into" (top 45) ["ways","bars","bar"]
 Te:g8 K mg "are_told_apart" (top 48) ["ways","ones","others","bar"]
 Tf:g8 K mg "apart" (top 49) ["ways","ones","others"]
 Th:g8 K mg "alike" (top 50) ["one","other"]
 Ti:g8 K mg "law" (top 68) ["_law_script"]
 Z0:mg "len" = d5
 Z1:mg "min" = d5
 Z2:mg "range" = d5
 Z3:mg "sorted" = d5
 Z4:mg "list" = d5
 Z5:mg "max" = d5
 Z6:mg "int" = d5
 Z7:mg "sum" = d5
 Z8:mg "zip" = d5
 Z9:mg "tuple" = d5
 Za:mg "bool" = d5
 Zb:mg "isinstance" = d5
 Zc:mg "any" = d5
 Zd:mg "enumerate" = d5
 Ze:mg "dict" = d5
theorem kZ(E:E0 K mg):gB P w K mg base 1 "_law_cell" 2 jn:=
 xh (N:=["_law_script","_law_k","_law_cell_here","_law_turn_here","_law_given"]) E.Q0 ⋯ λX I b J a O z d=>by subst I b J a O;exact by refine ze (jL (ZY (ZU (KS (qU z ⋯ E.Z0 (zM z)) zh) (vD (kh z (j6 (zw (zM z) zh) zh) zh)))) (by refine ze (jd z (zw (zM z) (jS zh (j6 (zq z) (yj (qU z ⋯ E.Z0 (zM z)) zh))))) ?_;refine ze (xy d z (jg z ⋯ E.Z2 (QM z ⋯ E.Z1 zh (yk (zq z) (yj (qU z ⋯ E.Z0 (zM z)) zh)))) (zo (jd z (yk (zq z) (cO zh zh))))) ?_;exact(zo (zI (j6 (zq z) (cO zh zh))))) zX) ?_;refine ze (jd z (zq z)) ?_;refine ze (jL (KS (qU z ⋯ E.Z0 (zM z)) zh) (zo (jd z (zw (zM z) (j6 (zq z) (qU z ⋯ E.Z0 (zM z)))))) zX) ?_;exact(zo (zI (j6 (xU (j6 (jS (jS (jS (xU (j6 (zq z) (cO zh zh)) zh) (xU (xU zh (zq z)) (zq z))) (xU zh (zq z))) zh) zh) zh) zh)))
theorem Jd(E:E0 K mg):gB P w K mg base 1 "_law_ways" 2 xt:=
 xh (N:=["_law_cell_here","_law_rooms"]) E.Q1 ⋯ λX I d J b O z e=>by subst I d J b O;exact zo (zI (cP xH (PO.q (qD z (i4.c (jg z ⋯ E.Z2 (yj (zq z) zh))) (λ_ _ _ a=>vE xH (j6 (yk (zq a) (zw (PO.q (qW (q9 (za zh (za zh (za zh (za zh (za zh zk)))))))) (zq a))) zh))))))
theorem yo(E:E0 K mg):gB P w K mg base 2 "_law_stretches" 4 qt:=
 xh (N:=["_law_script","_law_at","_law_many","_law_rooms","_law_some","_law_k","_law_cell_here","_law_i"]) E.Q2 ⋯ λX I b J a O z d=>by subst I b J a O;exact by refine ze (yn z (qW (q9 zk))) ?_;refine ze (xy d z (jg z ⋯ E.Z2 (zq z)) (by refine ze (jd z (zV (kZ E) z (za (zq z) (za (jS (zq z) (zq z)) zk)))) ?_;refine ze (jd z (j6 (zq z) (zq z))) ?_;exact(zo (kX 4 z ⋯ (jl (q9 (za (zq z) (za (jS (zq z) (j6 (yk (zq z) (zq z)) (yj (zq z) (zq z)))) zk)))))))) ?_;exact(zo (qw (Wy z ⋯ E.Z3 (zM z))))
theorem Zf(E:E0 K mg):gB P w K mg base 3 "_law_others" 3 qZ:=
 xh (N:=["_law_script","_law_bars","_law_rooms","_law_cell_here","_law_one","_law_other","_law_left","_law_low","_law_high"]) E.Q3 ⋯ λX I b J a O z d=>by subst I b J a O;exact by refine ze (jd z (zV (kZ E) z (za (zq z) (za zh zk)))) ?_;refine ze (jL (ZY (y8 (kh z (j6 (zq z) zh) zh) (wx (kh z (zq z) (PO.v (qW (q9 zk))))))) (zo (qw (xF (yo E) z (za (zq z) (za zh (za (j6 (yk (zq z) zh) zh) (za (zq z) zk))))))) zX) ?_;refine ze (jd z (zw (zM z) (j6 (yk (zq z) zh) (qU z ⋯ E.Z0 (zM z))))) ?_;refine ze (jd z (zw (zM z) (j6 (yk (zq z) zh) (qU z ⋯ E.Z0 (zM z))))) ?_;refine ze (yn z (cY z ⋯ E.Z4 (zM z))) ?_;refine ze (Ww 6 z ⋯ (zq z)) ?_;refine ze (jd z (KQ z ⋯ E.Z5 (zw (zM z) zh) (zw (zM z) zh))) ?_;refine ze (jd z (QM z ⋯ E.Z1 (zw (zM z) zh) (zw (zM z) zh))) ?_;refine ze (jL (ZY (ZU (ym z (zq z) (zq z)) (vD (nG (zq z) (jS (zq z) zh))))) (by refine ze (Ww 6 z ⋯ (zq z)) ?_;refine ze (kX 6 z ⋯ (jl (q9 (za (QM z ⋯ E.Z1 (zw (zM z) zh) (zw (zM z) zh)) (za (KQ z ⋯ E.Z5 (zw (zM z) zh) (zw (zM z) zh)) zk))))) ?_;exact(zo (jL (nG (zq z) (zq z)) (zo (kX 6 z ⋯ (jl (q9 (za (zq z) (za (zq z) zk)))))) zX))) zX) ?_;exact(zo (qw (Wy z ⋯ E.Z3 (zM z))))
theorem xX(E:E0 K mg):gB P w K mg base 1 "_law_ends" 2 jO:=
 xh (N:=["_law_ways_here","_law_k"]) E.Q4 ⋯ λX I b J a O z d=>by subst I b J a O;exact by refine ze (jL (kh z (vE (zq z) (zq z)) xH) (zo (zI (jl (q9 (za (zq z) (za (jS (zq z) zh) zk)))))) zX) ?_;exact(zo (zI (jl (q9 (za (jS (zq z) zh) (za (zq z) zk))))))
theorem wF(E:E0 K mg):gB P w K mg base 2 "_law_bar_tables" 2 qh:=
 xh (N:=["_law_ways_here","_law_bars","_law_numbered","_law_room","_law_tables","_law_k","_law_begin","_law_end"]) E.Q5 ⋯ λX I f J e O z d=>by subst I f J e O;exact by refine ze (yn z (qW (q9 zk))) ?_;refine ze (xy d z (jg z ⋯ E.Z2 (jS (ZW z ⋯ E.Z0 (zq z)) zh)) (zo (kX 2 z ⋯ (PO.v (KZ z (i4.c (jg z ⋯ E.Z2 (qU z ⋯ E.Z0 (zM z)))) (λ_ _ _ a=>cT K8 K8 wU wU (zw (PV.q (zw (zM a) (zq a))) zh) (zq a) (zw (PV.q (zw (zM a) (zq a))) zh)) (λ_ _ _ a=>zq a)))))) ?_;exact(by refine ze (Xz 2 (yn z (qW (q9 zk)))) ?_;exact(by refine ze (xy d z (jg z ⋯ E.Z2 (ZW z ⋯ E.Z0 (zq z))) (by refine ze (vF (ux z) (zV (xX E) z (za (zq z) (za (zq z) zk)))) ?_;exact(zo (kX 4 z ⋯ (PO.v (qD z (z9 (PV.q (zw (zM z) (zq z)))) (λ_ _ _ a=>PO.v (qD a (z9 (PV.q (zw (zM a) (zq a)))) (λ_ _ _ b=>Vf b ⋯ E.Z6 (Xy b (zq b) (zq b))))))))))) ?_;exact(zo (Xz 4 (zI (jl (q9 (za (PO.v (qD z (z9 (zM z)) (λ_ _ _ a=>qU a ⋯ E.Z0 (zM a)))) (za (zq z) zk)))))))))
theorem yD(E:E0 K mg):gB P w K mg base 1 "_law_times" 4 jx:=
 xh (N:=["_law_p","_law_one","_law_other","_law_wide","_law_rows","_law_row_here"]) E.Q6 ⋯ λX I e J d O z f=>by subst I e J d O;exact by refine ze (yn z (qW (q9 zk))) ?_;refine ze (xy f z (Vj (zq z)) (zo (kX 4 z ⋯ (PO.v (qD z (i4.c (jg z ⋯ E.Z2 (zq z))) (λ_ _ _ a=>j6 (KO a ⋯ E.Z7 (PO.q (qD a (i4.c (jg a ⋯ E.Z2 (qU a ⋯ E.Z0 (zM a)))) (λ_ _ _ b=>xU (zw (zM b) (zq b)) (zw (PV.q (zw (zM b) (zq b))) (zq b)))))) (zq a))))))) ?_;exact(zo (vG 4 (z.var ⋯)))
theorem J4(E:E0 K mg):gB P w K mg base 2 "_law_turn" 4 qe:=
 xh (N:=["_law_script","_law_at","_law_p","_law_size","_law_turn_here","_law_back","_law_k","_law_cell_here","_law_i","_law_j","_law_times_here","_law_row_here"]) E.Q7 ⋯ λX I f J e O z d=>by subst I f J e O;exact by refine ze (Wv 4 (vH z (i4.c (jg z ⋯ E.Z2 (zq z))) (λ_ _ _ a=>PO.v (qD a (i4.c (jg a ⋯ E.Z2 (zq a))) (λ_ _ _ b=>Vf b ⋯ E.Z6 (Xy b (zq b) (zq b))))))) ?_;refine ze (AA z (i4.c (jg z ⋯ E.Z2 (zq z))) (λ_ _ _ a=>qD a (i4.c (jg a ⋯ E.Z2 (zq a))) (λ_ _ _ b=>Vf b ⋯ E.Z6 (Xy b (zq b) (zq b))))) ?_;refine ze (xy d z (jg z ⋯ E.Z2 (yj (xU zh (zq z)) zh)) (by refine ze (jd z (zV (kZ E) z (za (zq z) (za (jS (zq z) (zq z)) zk)))) ?_;refine ze (jd z (j6 (zq z) (zq z))) ?_;refine ze (jd z (j6 (jS (jS (zq z) zh) (j6 (yk (zq z) zh) (yj (zq z) zh))) (zq z))) ?_;refine ze (jd z (j6 (yk (zq z) zh) (zq z))) ?_;refine ze (KU 4 z ⋯ (zq z) (PO.v (qD z (i4.c (wV z ⋯ E.Z8 (zw (zM z) (zq z)) (zw (zM z) (zq z)))) (λ_ _ _ a=>j6 (jS (zq a) (xU (zq a) (zq a))) (zq a))))) ?_;exact(zo (aC 5 11 (nL d) z.calm z ⋯ ⋯ (z.DH 11 ⋯) (zq z) (j6 (yj (zw (zM z) (zq z)) (xU (zq z) (zw (zM z) (zq z)))) (zq z)))))) ?_;exact(zo (iQ 5 (Xz 4 (zI (jl (q9 (za (zq z) (za (zq z) zk))))))))
theorem vK(E:E0 K mg):gB P w K mg base 3 "_law_row" 5 qu:=
 xh (N:=["_law_script","_law_at","_law_p","_law_ways_here","_law_bars","_law_widths","_law_tables","_law_turns","_law_k","_law_made","_law_begin","_law_end","_law_half"]) E.Q8 ⋯ λX I d J b O z a=>by subst I d J b O;exact by refine ze (vF (ux z) (zV (wF E) z (za (zq z) (za (zq z) zk)))) ?_;refine ze (yn z (qW (q9 zk))) ?_;refine ze (xy a z (jg z ⋯ E.Z2 (qU z ⋯ E.Z0 (zM z))) (zo (kX 7 z ⋯ (zV (J4 E) z (za (zq z) (za (jS (zq z) (xU zh (zq z))) (za (zq z) (za (zw (zM z) (zq z)) zk)))))))) ?_;refine ze (yn z (qW (q9 zk))) ?_;refine ze (xy a z (jg z ⋯ E.Z2 (ZW z ⋯ E.Z0 (zq z))) (by refine ze (vF (ux z) (zV (xX E) z (za (zq z) (za (zq z) zk)))) ?_;refine ze (jd z (PO.v (xF (yD E) z (za (zq z) (za (zw (zM z) (zq z)) (za (zw (PV.q (zw (zM z) (zq z))) zh) (za (zw (zM z) (zq z)) zk))))))) ?_;exact(zo (kX 9 z ⋯ (PO.v (xF (yD E) z (za (zq z) (za (zw (PV.q (zw (zM z) (zq z))) zh) (za (zq z) (za (zw (zM z) (zq z)) zk)))))))))) ?_;exact(zo (Xz 9 (zI (jl (q9 (za (zq z) (za (zq z) zk)))))))
theorem yp(E:E0 K mg):gB P w K mg base 2 "_law_handed" 3 q8:=
 xh (N:=["_law_p","_law_ways_here","_law_row_here","_law_widths","_law_tables","_law_arrows","_law_k","_law_begin","_law_end","_law_rows"]) E.Q9 ⋯ λX I d J b O z e=>by subst I d J b O;exact by refine ze (vF (ux z) (zq z)) ?_;refine ze (yn z (qW (q9 zk))) ?_;refine ze (xy e z (jg z ⋯ E.Z2 (ZW z ⋯ E.Z0 (zq z))) (by refine ze (vF (ux z) (zV (xX E) z (za (zq z) (za (zq z) zk)))) ?_;refine ze (jd z (qo z ⋯ E.Z9 (PO.q (qD z (z9 (PV.q (zw (zM z) (zq z)))) (λ_ _ _ a=>qo a ⋯ E.Z9 (zM a)))))) ?_;exact(zo (kX 5 z ⋯ (jl (q9 (za (vE (zq z) (zq z)) (za (jl (q9 (za (zw (zM z) (zq z)) (za (zw (zM z) (zq z)) (za (zq z) zk))))) zk)))))))) ?_;exact(zo (zI (jl (q9 (za (zq z) (za (qo z ⋯ E.Z9 (zM z)) (za (qo z ⋯ E.Z9 (zM z)) zk)))))))
theorem Je(E:E0 K mg):gB P w K mg base 1 "_law_first" 3 xu:=
 xh (N:=["_law_ones","_law_others_here","_law_rooms","_law_i","_law_j"]) E.Qa ⋯ λX I d J b O z a=>by subst I d J b O;exact by refine ze (xy a z (jg z ⋯ E.Z2 (zq z)) (zo (xy a z (XE z ⋯ E.Z2 (zq z) (zq z)) (zo (jL (ym z (xx z (zM z) (jl (q9 (za (zq z) (za (zq z) zk))))) (xx z (zM z) (jl (q9 (za (zq z) (za (zq z) zk)))))) (zo (zI (jl (q9 (za (jl (q9 (za (zq z) (za (zq z) zk)))) (za (xx z (zM z) (jl (q9 (za (zq z) (za (zq z) zk))))) (za (xx z (zM z) (jl (q9 (za (zq z) (za (zq z) zk))))) zk))))))) zX))))) ?_;exact(zo (zI ZV))
theorem wD(E:E0 K mg):gB P w K mg base 2 "_law_bar_to_bar" 3 jo:=
 xh (N:=["_law_ways_here","_law_one","_law_other","_law_low","_law_high","_law_k","_law_here","_law_there","_law_out"]) E.Qb ⋯ λX I b J a O z d=>by subst I b J a O;exact by refine ze (jd z (KQ z ⋯ E.Z5 (zw (zM z) zh) (zw (zM z) zh))) ?_;refine ze (jd z (QM z ⋯ E.Z1 (zw (zM z) zh) (zw (zM z) zh))) ?_;refine ze (jL (KS (zq z) (zq z)) (zo (zI zh)) zX) ?_;refine ze (xy d z (Vj (PO.v (qW (q9 (za (jl (q9 (za (yj (zq z) zh) (za (Aq (zw (zM z) zh) (zq z)) (za (Aq (zw (zM z) zh) (zq z)) zk))))) (za (jl (q9 (za (zq z) (za (As (zw (zM z) zh) (zq z)) (za (As (zw (zM z) zh) (zq z)) zk))))) zk)))))) (zo (jL (ZY (y8 (jD (zq z)) (wx (jD (zq z))))) (by refine ze (jd z (Wu (Ar (zw (PV.q (zV (xX E) z (za (zq z) (za (zq z) zk)))) zh) (PO.q (qW (q9 (za (zq z) (za (zq z) zk)))))) (Wq (Ws K8 K8 wU wU (zq z) (zw (PV.q (zV (xX E) z (za (zq z) (za (zq z) zk)))) zh) (zq z))))) ?_;exact(zo (jL (ZY (y8 (ZY (ZU (jD (zq z)) (vD (qV (jD (zq z)))))) (wx (ZY (ZU (jD (zq z)) (vD (jD (zq z)))))))) (zo (zI zh)) zX))) zX))) ?_;exact(zo (zI zh))
theorem wY(E:E0 K mg):gB P w K mg base 3 "_law_count" 3 x9:=
 xh (N:=["_law_ways_here","_law_ones","_law_others_here"]) E.Qc ⋯ λX I e J d O z f=>by subst I e J d O;exact zo (zI (KO z ⋯ E.Z7 (PO.q (qD z (z9 (zM z)) (λ_ _ _ b=>KO b ⋯ E.Z7 (PO.q (qD b (z9 (zM b)) (λ_ _ _ a=>zV (wD E) a (za (zq a) (za (zq a) (za (zq a) zk)))))))))))
theorem ki(E:E0 K mg):gB P w K mg base 1 "_law_whole" 1 qK:=
 xh (N:=["_law_found"]) E.Qd ⋯ λX I b J a O z d=>by subst I b J a O;exact zo (zI (Wu (cQ z ⋯ E.Zb ⋯ E.Z6 (zq z)) (Wq (An (aA z ⋯ E.Zb ⋯ E.Za (zq z))))))
theorem xI(E:E0 K mg):gB P w K mg base 2 "_law_is_stretch" 2 jK:=
 xh (N:=["_law_found","_law_rooms"]) E.Qe ⋯ λX I b J a O z d=>by subst I b J a O;exact by refine ze (jL (ZY (y8 (qV (jD (ZX z ⋯ E.Zb ⋯ E.Z9 (zq z)))) (y8 (ym z (qU z ⋯ E.Z0 (zM z)) zh) (y8 (qV (jD (zV (ki E) z (za (zw (zM z) zh) zk)))) (wx (qV (jD (zV (ki E) z (za (zw (zM z) zh) zk))))))))) (zo (zI KR)) zX) ?_;exact(zo (zI (cR K8 K8 lE wU wU Wg zh (zw (zM z) zh) (zw (zM z) zh) (zq z))))
theorem yE(E:E0 K mg):gB P w K mg base 4 "_law_right" 5 jH:=
 xh (N:=["_law_found","_law_ways_here","_law_ones","_law_others_here","_law_rooms","_law_due","_law_bar","_law_here"]) E.Qf ⋯ λX I b J a O z d=>by subst I b J a O;exact by refine ze (jd z (zV (Je E) z (za (zq z) (za (zq z) (za (zq z) zk))))) ?_;refine ze (jL (qV (jD (ZX z ⋯ E.Zb ⋯ E.Z9 (zq z)))) (zo (zI KR)) zX) ?_;refine ze (jL (cS (zq z) ZV) (zo (zI (Wu (Xy z (qU z ⋯ E.Z0 (zM z)) zh) (Wq (Xy z (zw (zM z) zh) xH))))) zX) ?_;refine ze (jL (ZY (y8 (ym z (qU z ⋯ E.Z0 (zM z)) zh) (y8 (ym z (zw (zM z) zh) xH) (wx (ym z (KP (zq z) (wA zh) (wA zh)) (zq z)))))) (zo (zI KR)) zX) ?_;refine ze (jL (ZY (y8 (qV (jD (zV (xI E) z (za (zw (zM z) zh) (za (zq z) zk))))) (y8 (qV (jD (zV (ki E) z (za (zw (zM z) zh) zk)))) (wx (qV (jD (zV (ki E) z (za (zw (zM z) zh) zk)))))))) (zo (zI KR)) zX) ?_;refine ze (jd z (zw (zM z) zh)) ?_;refine ze (jL (qV (jD (zV (xI E) z (za (zq z) (za (zq z) zk))))) (zo (zI KR)) zX) ?_;refine ze (jd z (zV (wY E) z (za (zq z) (za (zq z) (za (PO.v (qW (q9 (za (zq z) zk)))) zk))))) ?_;exact(zo (zI (Ap z (zq z) (zV (wY E) z (za (zq z) (za (zq z) (za (PO.v (qW (q9 (za (zq z) zk)))) zk)))))))
theorem wC(E:E0 K mg):gB P w K mg base 1 "ways_of" 1 xB:=
 xh (N:=["row"]) E.Qg ⋯ λX I d J b O z e=>by subst I d J b O;exact zo (zI (cP xH (PO.q (qD z (z9 (PV.q (zw (zM z) zh))) (λ_ _ _ a=>zw (zM a) zh)))))
theorem Vn(E:E0 K mg):gB P w K mg base 2 "one_kind" 2 xR:=
 xh (N:=["one","other"]) E.Qh ⋯ λX I b J a O z d=>by subst I b J a O;exact zo (zI (Wu (Xy z (zw (zM z) zh) (zw (zM z) zh)) (Wq (Xy z (zV (wC E) z (za (zq z) zk)) (zV (wC E) z (za (zq z) zk))))))
theorem Jf(E:E0 K mg):gB P w K mg base 3 "ask_one_kind" 2 qk:=
 xh (N:=["one","other"]) E.Qi ⋯ λX I b J a O z d=>by subst I b J a O;exact zo (jL (qV (jD (zV (Vn E) z (za (zq z) (za (zq z) zk))))) (zo KW) zX)
theorem wH(E:E0 K mg):gB P w K mg base 1 "behind_noughts" 2 jQ:=
 xh (N:=["many","base"]) E.Qj ⋯ λX I d J b O z e=>by subst I d J b O;exact zo (qw (KZ z (z9 (zM z)) (λ_ _ _ a=>qV (jD (nF a ⋯ E.Zc (PV.q (KP (zq a) XF (wA (zq a))))))) (λ_ _ _ a=>KP (zq a) (wA (zq a)) XF)))
theorem Zn(E:E0 K mg):gB P w K mg base 1 "rests" 2 xG:=
 xh (N:=["p","numbers"]) E.Qk ⋯ λX I d J b O z e=>by subst I d J b O;exact zo (zI (qo z ⋯ E.Z9 (PO.q (qD z (z9 (zM z)) (λ_ _ _ a=>j6 (zq a) (zq a))))))
theorem aL(E:E0 K mg):gB P w K mg base 1 "inverse" 2 wg:=
 xh (N:=["p","x","y"]) E.Ql ⋯ λX I b J a O z d=>by subst I b J a O;exact by refine ze (xy d z (XE z ⋯ E.Z2 zh (zq z)) (zo (jL (kh z (j6 (xU (zq z) (zq z)) (zq z)) zh) (zo (vG 2 (z.var ⋯))) zX))) ?_;exact(zo KW)
theorem QQ(E:E0 K mg):gB P w K mg base 2 "cleared" 4 qG:=
 xh (N:=["p","load","pivot","place","much"]) E.Qm ⋯ λX I d J b O z e=>by subst I d J b O;exact by refine ze (jd z (zw (zM z) (zq z))) ?_;refine ze (jL (kh z (zq z) zh) (zo (vG 1 (z.var ⋯))) zX) ?_;exact(zo (zI (zV (Zn E) z (za (zq z) (za (PO.v (qD z (i4.c (wV z ⋯ E.Z8 (zq z) (zq z))) (λ_ _ _ a=>yj (zq a) (xU (zq a) (zq a))))) zk)))))
theorem yT(E:E0 K mg):gB P w K mg base 3 "base_of" 3 qH:=
 xh (N:=["p","long","loads","left","base","place","leading","times","pivot"]) E.Qn ⋯ λX I d J b O z e=>by subst I d J b O;exact by refine ze (jZ 3 (vH z (z9 (zM z)) (λ_ _ _ a=>zV (Zn E) a (za (zq a) (za (zq a) zk))))) ?_;refine ze (yn z (qW (q9 zk))) ?_;refine ze (xy e z (jg z ⋯ E.Z2 (zq z)) (by refine ze (jZ 6 (rf z (z9 (zM z)) (λ_ _ _ a=>ym a (zw (zM a) (zq a)) zh) (λ_ _ _ a=>zq a))) ?_;refine ze (jL (qV (iK (zM z))) (zo KY) zX) ?_;refine ze (jd z (zV (aL E) z (za (zq z) (za (zw (PV.q (zw (zM z) zh)) (zq z)) zk)))) ?_;refine ze (jd z (zV (Zn E) z (za (zq z) (za (PO.v (qD z (z9 (PV.q (zw (zM z) zh))) (λ_ _ _ a=>xU (zq a) (zq a)))) zk)))) ?_;refine ze (jZ 3 (vH z (z9 (zM z)) (λ_ _ _ a=>zV (QQ E) a (za (zq a) (za (zq a) (za (zq a) (za (zq a) zk))))))) ?_;exact(zo (yn z (K0 (PO.q (qD z (z9 (zM z)) (λ_ _ _ a=>zV (QQ E) a (za (zq a) (za (zq a) (za (zq a) (za (zq a) zk))))))) (PO.q (qW (q9 (za (zq z) zk))))))))) ?_;exact(zo (vG 4 (z.var ⋯)))
theorem xo(E:E0 K mg):gB P w K mg base 1 "turned_over" 1 qc:=
 xh (N:=["table","columns"]) E.Qo ⋯ λX I e J d O z f=>by subst I e J d O;exact by refine ze (jZ 1 (vH z (i4.c (jg z ⋯ E.Z2 (zw (zM z) zh))) (λ_ _ _ a=>qo a ⋯ E.Z9 (PO.q (qD a (z9 (PV.q (zw (zM a) zh))) (λ_ _ _ b=>zw (zM b) (zq b))))))) ?_;exact(zo (zI (jl (q9 (za (zw (zM z) zh) (za (zw (zM z) zh) (za (qo z ⋯ E.Z9 (zM z)) zk)))))))
theorem xN(E:E0 K mg):gB P w K mg base 1 "same_table" 1 j7:=
 xh (N:=["many","rows"]) E.Qp ⋯ λX I e J d O z f=>by subst I e J d O;exact by refine ze (jZ 1 (vH z (i4.c (jg z ⋯ E.Z2 (zq z))) (λ_ _ _ a=>qo a ⋯ E.Z9 (PO.q (qD a (i4.c (jg a ⋯ E.Z2 (zq a))) (λ_ _ _ b=>xM (kh b (zq b) (zq b)) zh zh)))))) ?_;exact(zo (zI (jl (q9 (za (zq z) (za (zq z) (za (qo z ⋯ E.Z9 (zM z)) zk)))))))
theorem Jc(E:E0 K mg):gB P w K mg base 4 "led_into" 3 xn:=
 xh (N:=["p","table","base","pairs","free"]) E.Qq ⋯ λX I d J b O z e=>by subst I d J b O;exact by refine ze (jZ 3 (vH z (i4.c (wV z ⋯ E.Z8 (zw (PV.q (zV (xo E) z (za (zq z) zk))) zh) (zw (PV.q (zV (xN E) z (za (zw (zM z) zh) zk))) zh))) (λ_ _ _ a=>jS (zq a) (zq a)))) ?_;refine ze (jZ 4 (vH z (z9 (zM z)) (λ_ _ _ a=>jS (zq a) (xU (jl (q9 (za zh zk))) (zw (zM a) zh))))) ?_;exact(zo (qw (xF (wH E) z (za (zw (zM z) zh) (za (PO.v (xF (yT E) z (za (zq z) (za (jS (zw (zM z) zh) (zw (zM z) zh)) (za (PO.v (K0 (zM z) (zM z))) zk))))) zk)))))
theorem Yb(E:E0 K mg):gB P w K mg base 5 "kernel" 2 y0:=
 xh (N:=["p","table"]) E.Qr ⋯ λX I b J a O z d=>by subst I b J a O;exact zo (qw (xF (Jc E) z (za (zq z) (za (zq z) (za (PO.v (qW (q9 zk))) zk)))))
theorem WB(E:E0 K mg):gB P w K mg base 4 "image" 2 wQ:=
 xh (N:=["p","table"]) E.Qs ⋯ λX I b J a O z d=>by subst I b J a O;exact zo (qw (xF (yT E) z (za (zq z) (za (zw (zM z) zh) (za (zw (PV.q (zV (xo E) z (za (zq z) zk))) zh) zk)))))
theorem wG(E:E0 K mg):gB P w K mg base 2 "columns" 2 ka:=
 xh (N:=["high","loads"]) E.Qt ⋯ λX I b J a O z d=>by subst I b J a O;exact zo (zI (zV (xo E) z (za (jl (q9 (za (qU z ⋯ E.Z0 (zM z)) (za (zq z) (za (qo z ⋯ E.Z9 (zM z)) zk))))) zk)))
theorem k3(E:E0 K mg):gB P w K mg base 1 "has_room" 2 jP:=
 xh (N:=["bar","room"]) E.Qu ⋯ λX I b J a O z d=>by subst I b J a O;exact zo (zI (Ws K8 lE wU Wg (zw (zM z) zh) (zq z) (jS (zw (zM z) zh) (qU z ⋯ E.Z0 (PV.q (zw (zM z) zh))))))
theorem vj(E:E0 K mg):gB P w K mg base 2 "loads_in" 2 qP:=
 xh (N:=["bars","room"]) E.Qv ⋯ λX I d J b O z e=>by subst I d J b O;exact zo (qw (KZ z (z9 (zM z)) (λ_ _ _ a=>jD (zV (k3 E) a (za (zq a) (za (zq a) zk)))) (λ_ _ _ a=>zw (PV.q (zw (zM a) zh)) (yj (zq a) (zw (zM a) zh)))))
theorem yS(E:E0 K mg):gB P w K mg base 1 "lead_of" 1 qF:=
 xh (N:=["load"]) E.Qw ⋯ λX I d J b O z e=>by subst I d J b O;exact zo (zI (zw (PO.q (KZ z (i4.c (dc z ⋯ E.Zd (zq z))) (λ_ _ _ a=>ym a (zq a) zh) (λ_ _ _ a=>zq a))) zh))
theorem dH(E:E0 K mg):gB P w K mg base 2 "led" 3 VZ:=
 xh (N:=["p","table","load"]) E.Qx ⋯ λX I e J d O z f=>by subst I e J d O;exact zo (zI (zV (Zn E) z (za (zq z) (za (PO.v (qD z (z9 (PV.q (zw (zM z) zh))) (λ_ _ _ a=>KO a ⋯ E.Z7 (PO.q (qD a (i4.c (wV a ⋯ E.Z8 (zq a) (zq a))) (λ_ _ _ b=>xU (zq b) (zq b))))))) zk))))
theorem XG(E:E0 K mg):gB P w K mg base 3 "mixed_load" 4 ko:=
 xh (N:=["row","bars","times","room","there"]) E.Qy ⋯ λX I d J b O z e=>by subst I d J b O;exact by refine ze (jZ 4 (rf z (i4.c (wV z ⋯ E.Z8 (zq z) (zq z))) (λ_ _ _ a=>jD (zV (k3 E) a (za (zq a) (za (zq a) zk)))) (λ_ _ _ a=>zq a))) ?_;exact(zo (zI (zV (dH E) z (za (zw (zM z) zh) (za (zV (wG E) z (za (zw (PV.q (zw (zM z) zh)) (zq z)) (za (PO.v (xF (vj E) z (za (zq z) (za (zq z) zk)))) zk))) (za (zq z) zk))))))
theorem lH(E:E0 K mg):gB P w K mg base 4 "mixed" 3 Ki:=
 xh (N:=["row","bars","times","first","loads"]) E.Qz ⋯ λX I d J b O z e=>by subst I d J b O;exact by refine ze (jd z (zw (zM z) (zV (yS E) z (za (zq z) zk)))) ?_;refine ze (jZ 4 (vH z (i4.c (jg z ⋯ E.Z2 (qU z ⋯ E.Z0 (PV.q (zw (zM z) zh))))) (λ_ _ _ a=>zV (XG E) a (za (zq a) (za (zq a) (za (zq a) (za (jS (zw (zM a) zh) (zq a)) zk))))))) ?_;exact(zo (zI (jl (q9 (za (zw (zM z) zh) (za (qo z ⋯ E.Z9 (zM z)) zk))))))
theorem aJ(E:E0 K mg):gB P w K mg base 6 "settled" 3 we:=
 xh (N:=["row","k","bars","way","table","special","base","leads"]) E.SV ⋯ λX I d J b O z e=>by subst I d J b O;exact by refine ze (jd z (zw (PV.q (zw (PV.q (zw (zM z) zh)) (zq z))) zh)) ?_;refine ze (jd z (zw (PV.q (zw (PV.q (zw (zM z) zh)) (zq z))) zh)) ?_;refine ze (jd z (xM (kh z (zq z) xH) (PO.v (xF (Yb E) z (za (zw (zM z) zh) (za (zq z) zk)))) (PO.v (xF (WB E) z (za (zw (zM z) zh) (za (zq z) zk)))))) ?_;refine ze (jd z (PO.v (xF (Jc E) z (za (zw (zM z) zh) (za (zV (wG E) z (za (zw (PV.q (zw (zM z) zh)) (zq z)) (za (PO.v (xF (vj E) z (za (zq z) (za (zq z) zk)))) zk))) (za (zq z) zk)))))) ?_;refine ze (jd z (iH z ⋯ E.Ze (qD z (z9 (zM z)) (λ_ _ _ a=>jl (q9 (za (zV (yS E) a (za (zq a) zk)) (za (zq a) zk))))))) ?_;exact(zo (qw (qD z (i4.c (rB z ⋯ E.Zd (zq z))) (λ_ _ _ a=>xM (pV a (zq a) (zq a)) (zV (lH E) a (za (zq a) (za (zq a) (za (Au a (zq a) (zq a)) zk)))) (zq a)))))
theorem dG(E:E0 K mg):gB P w K mg base 4 "solved" 3 yZ:=
 xh (N:=["p","table","load","wide","answer","line","place"]) E.SW ⋯ λX I d J b O z e=>by subst I d J b O;exact by refine ze (jd z (zw (zM z) zh)) ?_;refine ze (yn z (AD (qW (q9 (za zh zk))) (zq z))) ?_;refine ze (xy e z (Vj (PO.v (xF (yT E) z (za (zq z) (za (jS (zq z) zh) (za (PO.v (qD z (i4.c (wV z ⋯ E.Z8 (zw (zM z) zh) (zq z))) (λ_ _ _ a=>jS (zq a) (jl (q9 (za (zq a) zk)))))) zk)))))) (by refine ze (jd z (zV (yS E) z (za (zq z) zk))) ?_;refine ze (jL (kh z (zq z) (zq z)) (zo (zI ZV)) zX) ?_;exact(zo (KU 4 z ⋯ (zq z) (zw (zM z) (zq z)))))) ?_;exact(zo (zI (qo z ⋯ E.Z9 (zM z))))
theorem K9(E:E0 K mg):gB P w K mg base 5 "next_load" 3 xm:=
 xh (N:=["p","arrow","load","there"]) E.SY ⋯ λX I b J a O z d=>by subst I b J a O;exact by refine ze (jL (kh z (zw (zM z) zh) xH) (zo (zI (zV (dG E) z (za (zq z) (za (zw (zM z) zh) (za (zq z) zk)))))) zX) ?_;refine ze (jd z (zV (dH E) z (za (zq z) (za (zw (zM z) zh) (za (zq z) zk))))) ?_;exact(zo (zI (xM (jD (nF z ⋯ E.Zc (zM z))) (zq z) ZV)))
theorem Vm(E:E0 K mg):gB P w K mg base 6 "taken_on" 3 kP:=
 xh (N:=["p","arrow","bar","load"]) E.S0 ⋯ λX I b J a O z d=>by subst I b J a O;exact by refine ze (jd z (zV (K9 E) z (za (zq z) (za (zq z) (za (zw (PV.q (zw (zM z) zh)) (Ao zh)) zk))))) ?_;exact(zo (zI (xM (cS (zq z) ZV) (zq z) (jl (q9 (za (zw (zM z) zh) (za (jS (zw (zM z) zh) (jl (q9 (za (zq z) zk)))) zk)))))))
theorem Ya(E:E0 K mg):gB P w K mg base 6 "new_loads" 2 ye:=
 xh (N:=["p","arrow","leads"]) E.S1 ⋯ λX I d J b O z e=>by subst I d J b O;exact by refine ze (jL (kh z (zw (zM z) zh) xH) (zo (qw (xF (Yb E) z (za (zq z) (za (zw (zM z) zh) zk))))) zX) ?_;refine ze (jZ 2 (vH z (z9 (PO.q (xF (WB E) z (za (zq z) (za (zw (zM z) zh) zk))))) (λ_ _ _ a=>zV (yS E) a (za (zq a) zk)))) ?_;exact(zo (qw (KZ z (i4.c (dc z ⋯ E.Zd (zw (PV.q (zV (xN E) z (za (zw (PV.q (zw (zM z) zh)) zh) zk))) zh))) (λ_ _ _ a=>aB (zq a) (zM a)) (λ_ _ _ a=>zq a))))
theorem lI(E:E0 K mg):gB P w K mg base 7 "grown" 3 JU:=
 xh (N:=["row","k","bars","p","arrow","ended","here","old","new"]) E.S2 ⋯ λX I d J b O z e=>by subst I d J b O;exact by refine ze (jd z (zw (zM z) zh)) ?_;refine ze (jd z (zw (PV.q (zw (zM z) zh)) (zq z))) ?_;refine ze (jZ 5 (rf z (z9 (zM z)) (λ_ _ _ a=>qV (jD (zV (k3 E) a (za (zq a) (za (zq a) zk))))) (λ_ _ _ a=>zq a))) ?_;refine ze (jd z (PO.v (xF (aJ E) z (za (zq z) (za (zq z) (za (PO.v (KZ z (z9 (zM z)) (λ_ _ _ a=>jD (zV (k3 E) a (za (zq a) (za (zq a) zk)))) (λ_ _ _ a=>zq a))) zk)))))) ?_;refine ze (jZ 7 (vH z (z9 (zM z)) (λ_ _ _ a=>zV (Vm E) a (za (zq a) (za (zq a) (za (zq a) zk)))))) ?_;refine ze (jZ 8 (vH z (z9 (PO.q (xF (Ya E) z (za (zq z) (za (zq z) zk))))) (λ_ _ _ a=>jl (q9 (za (jS (zq a) zh) (za (jl (q9 (za (zq a) zk))) zk)))))) ?_;exact(zo (zI (PO.v (K0 (zM z) (PV.q (xM (kh z (zw (zM z) zh) xH) (PO.v (K0 (zM z) (zM z))) (PO.v (K0 (zM z) (zM z)))))))))
theorem vJ(E:E0 K mg):gB P w K mg base 1 "stretch_of" 1 jT:=
 xh (N:=["bar"]) E.S3 ⋯ λX I b J a O z d=>by subst I b J a O;exact zo (zI (jl (q9 (za (zw (zM z) zh) (za (yj (jS (zw (zM z) zh) (qU z ⋯ E.Z0 (PV.q (zw (zM z) zh)))) zh) zk)))))
theorem Yd(E:E0 K mg):gB P w K mg base 9 "all_grown" 1 yi:=
 xh (N:=["row","bars","k"]) E.S4 ⋯ λX I d J b O z e=>by subst I d J b O;exact by refine ze (jZ 1 (vH z (z9 (PV.q (zw (PV.q (zV (xN E) z (za (zw (PV.q (zw (zM z) zh)) zh) zk))) zh))) (λ_ _ _ a=>jl (q9 (za zh (za (jl (q9 (za (zq a) zk))) zk)))))) ?_;refine ze (xy e z (jg z ⋯ E.Z2 (qU z ⋯ E.Z0 (PV.q (zw (zM z) zh)))) (zo (jd z (zV (lI E) z (za (zq z) (za (zq z) (za (zq z) zk))))))) ?_;exact(zo (qw (iY (vJ E) z ⋯ ⋯ E.Z3 ⋯ (zM z))))
theorem aM(E:E0 K mg):gB P w K mg base 4 "back_of" 2 kc:=
 xh (N:=["p","table","many","same","base"]) E.S5 ⋯ λX I d J b O z e=>by subst I d J b O;exact by refine ze (jd z (zw (zM z) zh)) ?_;refine ze (jL (ym z (zw (zM z) zh) (zq z)) (zo (zI ZV)) zX) ?_;refine ze (jd z (zw (PV.q (zV (xN E) z (za (zq z) zk))) zh)) ?_;refine ze (jd z (PO.v (xF (yT E) z (za (zq z) (za (jS (zq z) (zq z)) (za (PO.v (qD z (i4.c (wV z ⋯ E.Z8 (zw (zM z) zh) (zq z))) (λ_ _ _ a=>jS (zq a) (zq a)))) zk)))))) ?_;refine ze (jL (ym z (PO.v (qD z (z9 (zM z)) (λ_ _ _ a=>KP (zq a) XF (wA (zq a))))) (PO.v (cY z ⋯ E.Z4 (zM z)))) (zo (zI ZV)) zX) ?_;exact(zo (zI (jl (q9 (za (zq z) (za (zq z) (za (qo z ⋯ E.Z9 (PO.q (qD z (z9 (zM z)) (λ_ _ _ a=>KP (zq a) (wA (zq a)) XF)))) zk)))))))
theorem Yc(E:E0 K mg):gB P w K mg base 10 "barred" 1 jU:=
 xh (N:=["row","bars","backs","turns"]) E.S6 ⋯ λX I d J b O z e=>by subst I d J b O;exact by refine ze (jd z (PO.v (xF (Yd E) z (za (zq z) zk)))) ?_;refine ze (jZ 2 (vH z (i4.c (dc z ⋯ E.Zd (zw (zM z) zh))) (λ_ _ _ a=>zV (wG E) a (za (zq a) (za (PO.v (xF (vj E) a (za (zq a) (za (zq a) zk)))) zk))))) ?_;refine ze (jZ 3 (vH z (z9 (zM z)) (λ_ _ _ a=>zV (aM E) a (za (zw (zM a) zh) (za (zq a) zk))))) ?_;exact(zo (zI (jl (q9 (za (PO.v (qD z (z9 (zM z)) (λ_ _ _ a=>zV (vJ E) a (za (zq a) zk)))) (za (zq z) (za (zq z) zk)))))))
theorem aK(E:E0 K mg):gB P w K mg base 3 "product" 3 xZ:=
 xh (N:=["p","one","other","over"]) E.S7 ⋯ λX I d J b O z e=>by subst I d J b O;exact by refine ze (jd z (zV (xo E) z (za (zq z) zk))) ?_;exact(zo (zI (jl (q9 (za (zw (zM z) zh) (za (zw (zM z) zh) (za (qo z ⋯ E.Z9 (PO.q (qD z (z9 (PV.q (zw (zM z) zh))) (λ_ _ _ a=>zV (dH E) a (za (zq a) (za (zq a) (za (zq a) zk))))))) zk)))))))
theorem yC(E:E0 K mg):gB P w K mg base 4 "room_by_room" 3 qE:=
 xh (N:=["p","ones","others"]) E.S8 ⋯ λX I d J b O z e=>by subst I d J b O;exact zo (qw (qD z (i4.c (wV z ⋯ E.Z8 (zq z) (zq z))) (λ_ _ _ a=>zV (aK E) a (za (zq a) (za (zq a) (za (zq a) zk))))))
theorem Jb(E:E0 K mg):gB P w K mg base 1 "stretches_of" 1 qj:=
 xh (N:=["many","found","i"]) E.S9 ⋯ λX I d J b O z e=>by subst I d J b O;exact by refine ze (yn z (qW (q9 zk))) ?_;refine ze (xy e z (jg z ⋯ E.Z2 (zq z)) (zo (pZ 1 z ⋯ (qD z (i4.c (XE z ⋯ E.Z2 (zq z) (zq z))) (λ_ _ _ a=>jl (q9 (za (zq a) (za (zq a) zk)))))))) ?_;exact(zo (vG 1 (z.var ⋯)))
theorem XH(E:E0 K mg):gB P w K mg base 1 "left_holds" 3 xC:=
 xh (N:=["ways","one","other"]) E.Ta ⋯ λX I b J a O z d=>by subst I b J a O;exact by refine ze (jL (kh z (zw (zM z) zh) (zw (zM z) zh)) (zo (zI KR)) zX) ?_;exact(zo (zI (Xy z (vE (zq z) (yj (KQ z ⋯ E.Z5 (zw (zM z) zh) (zw (zM z) zh)) zh)) (xM (Aw (zw (zM z) zh) (zw (zM z) zh)) xH xH))))
theorem J3(E:E0 K mg):gB P w K mg base 1 "right_holds" 3 qY:=
 xh (N:=["ways","one","other"]) E.Tb ⋯ λX I b J a O z d=>by subst I b J a O;exact by refine ze (jL (kh z (zw (zM z) zh) (zw (zM z) zh)) (zo (zI KR)) zX) ?_;exact(zo (zI (Xy z (vE (zq z) (QM z ⋯ E.Z1 (zw (zM z) zh) (zw (zM z) zh))) (xM (KS (zw (zM z) zh) (zw (zM z) zh)) xH xH))))
theorem Vo(E:E0 K mg):gB P w K mg base 2 "bar_ways" 3 xS:=
 xh (N:=["ways","one","other"]) E.Tc ⋯ λX I b J a O z d=>by subst I b J a O;exact by refine ze (jL (KS (KQ z ⋯ E.Z5 (zw (zM z) zh) (zw (zM z) zh)) (QM z ⋯ E.Z1 (zw (zM z) zh) (zw (zM z) zh))) (zo (zI zh)) zX) ?_;exact(zo (zI (xM (ZY (ZU (jD (zV (XH E) z (za (zq z) (za (zq z) (za (zq z) zk))))) (vD (jD (zV (J3 E) z (za (zq z) (za (zq z) (za (zq z) zk)))))))) zh zh)))
theorem wX(E:E0 K mg):gB P w K mg base 3 "ways_into" 3 qb:=
 xh (N:=["ways","bars","bar"]) E.Td ⋯ λX I d J b O z e=>by subst I d J b O;exact zo (zI (KO z ⋯ E.Z7 (PO.q (qD z (z9 (zM z)) (λ_ _ _ a=>zV (Vo E) a (za (zq a) (za (zq a) (za (zq a) zk))))))))
theorem wI(E:E0 K mg):gB P w K mg base 4 "are_told_apart" 4 qI:=
 xh (N:=["ways","ones","others","bar"]) E.Te ⋯ λX I b J a O z d=>by subst I b J a O;exact zo (zI (Ap z (zV (wX E) z (za (zq z) (za (zq z) (za (zq z) zk)))) (zV (wX E) z (za (zq z) (za (zq z) (za (zq z) zk))))))
theorem lJ(E:E0 K mg):gB P w K mg base 5 "apart" 3 JW:=
 xh (N:=["ways","ones","others","stretches","stretch","told"]) E.Tf ⋯ λX I d J b O z e=>by subst I d J b O;exact by refine ze (jd z (PO.v (xF (Jb E) z (za (jS (ZW z ⋯ E.Z0 (zq z)) zh) zk)))) ?_;refine ze (jd z (zw (PO.q (KZ z (z9 (zM z)) (λ_ _ _ a=>ym a (xx a (zM a) (zq a)) (xx a (zM a) (zq a))) (λ_ _ _ a=>zq a))) zh)) ?_;refine ze (jd z (zw (PO.q (KZ z (z9 (zM z)) (λ_ _ _ a=>jD (zV (wI E) a (za (zq a) (za (zq a) (za (zq a) (za (zq a) zk)))))) (λ_ _ _ a=>zq a))) zh)) ?_;exact(zo (zI (jl (q9 (za xH (za (zq z) (za (xx z (zM z) (zq z)) (za (xx z (zM z) (zq z)) (za (zq z) zk)))))))))
theorem WC(E:E0 K mg):gB P w K mg base 11 "alike" 2 yO:=
 xh (N:=["one","other","first","second","there","back"]) E.Th ⋯ λX I b J a O z d=>by subst I b J a O;exact by refine ze (iR (zV (Jf E) z (za (zq z) (za (zq z) zk)))) ?_;refine ze (jd z (zV (Yc E) z (za (zq z) zk))) ?_;refine ze (jd z (zV (Yc E) z (za (zq z) zk))) ?_;refine ze (jL (ym z (zw (zM z) zh) (zw (zM z) zh)) (zo (zI (zV (lJ E) z (za (zV (wC E) z (za (zq z) zk)) (za (zw (zM z) zh) (za (zw (zM z) zh) zk)))))) zX) ?_;refine ze (jd z (PO.v (xF (yC E) z (za (zw (zM z) zh) (za (zw (zM z) zh) (za (zw (zM z) zh) zk)))))) ?_;refine ze (jd z (PO.v (xF (yC E) z (za (zw (zM z) zh) (za (zw (zM z) zh) (za (zw (zM z) zh) zk)))))) ?_;exact(zo (zI (jl (q9 (za xH (za (zq z) (za (zq z) zk)))))))
theorem GC(D:L2.Dp K "law" "law" (top 68) f fd)(E:E0 K mg):pf P w K mg base p8 12 f fd ["_law_script"] (rb K 1 JT):=
 Fs (N:=["_law_script","_law_cell_here","_law_p","_law_rooms","_law_ways_here","_law_ones","_law_others_here","_law_one","_law_other","_law_here","_law_there"]) D ⋯ λX I b J a O z d=>by subst I b J a O;exact by refine ze (jd z (zV (kZ E) z (za (zq z) (za zh zk)))) ?_;refine ze (jd z (zw (PO.q (qW (q9 (za zh (za zh (za zh (za zh zk))))))) (j6 (zq z) zh))) ?_;refine ze (jd z (jS zh (j6 (yk (zq z) zh) zh))) ?_;refine ze (jd z (zV (Jd E) z (za (yk (zq z) zh) (za (zq z) zk)))) ?_;refine ze (jd z (PO.v (xF (yo E) z (za (zq z) (za zh (za (j6 (yk (zq z) zh) zh) (za (zq z) zk))))))) ?_;refine ze (jd z (PO.v (xF (Zf E) z (za (zq z) (za (zq z) (za (zq z) zk)))))) ?_;refine ze (jd z (zV (vK E) z (za (zq z) (za zh (za (zq z) (za (zq z) (za (zq z) zk))))))) ?_;refine ze (jd z (zV (vK E) z (za (zq z) (za zh (za (zq z) (za (zq z) (za (zq z) zk))))))) ?_;refine ze (jd z (zV (yp E) z (za (zq z) (za (zq z) (za (zq z) zk))))) ?_;refine ze (jd z (zV (yp E) z (za (zq z) (za (zq z) (za (zq z) zk))))) ?_;refine ze (jL (qV (jD (zV (yE E) z (za (zV (WC E) z (za (zq z) (za (zq z) zk))) (za (zq z) (za (zq z) (za (zq z) (za (zq z) zk)))))))) (zo (zI KR)) zX) ?_;exact(zo (zI (zV (yE E) z (za (zV (WC E) z (za (zq z) (za (zq z) zk))) (za (zq z) (za (zq z) (za (zq z) (za (zq z) zk))))))))
end
end DL
namespace PySem.W.Fast
def tw7165047618718828215:=0
def tw1295531493134967880:=0
def tw14927105557854549700:=0
def tw6847491782560021901:=0
def tw5169748133704748200:=0
def tw237954050228010309:=0
def tw16741684310731298474:=0
def tw11885283814466164793:=0
def tw11220927541818829678:=0
def tw9580966319742615438:=0
def tw1451927778496776573:=0
def tw9754285947312664009:=0
def tw8365439674635924156:=0
def tw9104970227209448779:=0
def tw6346538159568386894:=0
def tw16514011877394517203:=0
def tw250209016140798579:=0
def tw4395794533890322139:=0
def tw568513229408837572:=0
def tw17791784879182147023:=0
def tw9651266319421435040:=0
def tw14799275000766951915:=0
def tw980968206747405985:=0
def tw4178337403311479987:=0
def tw3429235272441950096:=0
def tw5267621910415210780:=0
def tw13822247609012511177:=0
def tw17073841835722525661:=0
def tw1060290295016861732:=0
def tw7310233378760413762:=0
def tw7031511559325837791:=0
def tw2983746085885714885:=0
def tw3087328415204872277:=0
def tw772349472769063888:=0
def tw10148562313950932806:=0
def tw81262429420549924:=0
def tw9147171153890555056:=0
def tw16133631584957688735:=0
def tw13130208700030898113:=0
def tw5461925609054247077:=0
def tw8469858928357943275:=0
def tw4576350401064964375:=0
def tw6979227240091573126:=0
def tw2701688787872559341:=0
def tw17418779059709808091:=0
def tw6474032043751430948:=0
def tw1928467772761797769:=0
def tw10088216218532006320:=0
def tw7809301758989527932:=0
def tw18357528704437008275:=0
def tw14492715909179463215:=0
def tw7199820001320242813:=0
def tw11522403687719690406:=0
def tw17713511082551878749:=0
def tw6605610614889154918:=0
def tw1681953482098894843:=0
def tw587500716272472006:=0
def tw10665953218580623217:=0
def tw8909880656410882502:=0
def tw13336872515595954158:=0
def tw9227475216174422580:=0
def tw9476944473907087193:=0
def tw14116383326728460267:=0
def tw17523087745767752925:=0
def tw12277104174987097141:=0
def tw15859381001257455366:=0
def tw4501693293801094778:=0
def tw14138077128298296708:=0
def tw12945627953473262100:=0
def tw3183878534354252671:=0
def tw1947723898457141181:=0
def tw8588523694832240120:=0
def tw565371241594259832:=0
def tw2406133799070058255:=0
def tw15417175794164363420:=0
def tw201472480701059589:=0
def tw6319471425244936662:=0
def tw15354010040684035802:=0
def tw17869107457507155107:=0
def tw17172335673542169565:=0
def tw2879446253170979792:=0
def tw17525346401743068524:=0
def tw15058973309717258676:=0
def tw17022510766946031677:=0
def tw11697042382404317507:=0
def tw7148670198484826875:=0
def tw836282274862035829:=0
def tw14459877898979396834:=0
def tw16958673426807016049:=0
def tw6413118111862890976:=0
def tw803894330561643508:=0
def tw3900075971118937300:=0
def tw7838858262307410610:=0
def tw11498588520452721084:=0
def tw1565412261809077484:=0
def tw11831532562468867395:=0
def tw3767308792332204401:=0
def tw4043605187933361003:=0
def tw2897794604664584941:=0
def tw17751073640441646213:=0
def tw7230408787460018375:=0
def tw10280660264620498988:=0
def tw6134623770732872400:=0
def tw7629423857375714615:=0
def tw10709623128780729387:=0
def tw15961328370839245832:=0
def tw7650957580917814425:=0
def tw6451699836120181400:=0
def tw6406715361425151548:=0
def tw10317370612447294705:=0
def tw9852503727875176824:=0
def tw11903742252452179459:=0
def tw9928658346446422295:=0
def tw8293657190220512755:=0
def tw1532236602873249617:=0
def tw10842868206066540509:=0
def tw869278927307466493:=0
def tw4231583543909125641:=0
def tw7866295584008756441:=0
def tw10677605450617641482:=0
def tw13661902404154474418:=0
def tw9322071992599698278:=0
def tw264069828087518289:=0
def tw12436850580059734987:=0
def tw13964576359255495804:=0
def tw8910120201974208854:=0
def tw17666627211627895885:=0
def tw15132441106542102145:=0
def tw15522351820797282236:=0
def tw12826919335826688721:=0
def tw17546713775289006237:=0
def tw17041568711746358692:=0
def tw8622482141845426269:=0
def tw13975726406837820745:=0
def tw4852234459257633900:=0
def tw10201239741966866695:=0
def tw1225545712408304183:=0
def tw16269706108423742034:=0
def tw16991633426508041893:=0
def tw2262713468476991975:=0
def tw12143032208739779823:=0
def tw3593467930128306516:=0
def tw4533278350426546401:=0
def tw416777041859575732:=0
def tw13863738241267521325:=0
def tw3976821006326917769:=0
def tw17397783739629286940:=0
def tw17700745418666305140:=0
def tw8317430937440050862:=0
def tw2835613257569008224:=0
def tw4356747270350447093:=0
def tw10437234272194197854:=0
def tw4609750835948579690:=0
def tw4488305872689976731:=0
def tw16161545542699268889:=0
def tw6551385096307995883:=0
def tw6680957054881556319:=0
def tw7457323603444830053:=0
def tw14438651165638076632:=0
def tw5481476234969338709:=0
def tw3353837777467560067:=0
def tw12454619991878384688:=0
def tw5675556615717418067:=0
end PySem.W.Fast
open PySem PySem.W PyProof.Rows
set_option maxRecDepth 100000 in
set_option maxHeartbeats 0 in
theorem PySem.Challenge.cw_barsplit_k42_apart_by_a_bar_holds : PySem.Challenge.rw_barsplit_k42_apart_by_a_bar.Holds := by
 w_on;o_law;k_head;(case hw=>w_witness2)
 k_fill
 refine L2.Co (l:=NW) (n:=63) (k:=12) (x:="_law_script") (CX:=L2.p8) (sp:=λK=>DL.rb K 1 DL.JT) rfl ⋯ rfl ⟨rfl,by decide,by decide⟩ (λw h Y=>PySem.W.kIn_of Y) ?F ?S ?C
 case S=>exact λK H a ns I hO O=>DL.CN O (DL.Fg ns I)
 case C=>exact λ_ _ _ _ z=>z
 case F=>
  intro w mg fa h J G U;have E:DL.E0 (L2.R5 J) mg:=by
   constructor
   all_goals first
    | assumption
    | exact PySem.W.mg_none_of J G (by k_is)
    | (dsimp only[L2.R5];refine' DL.GK J G ?a ?l ?c ?k ?b;(case a=>k_is);(case l=>k_is);(case c=>k_is);(case k=>k_is);(case b=>intro _ _ _ _ _ _ us I;first | (obtain⟨_,rfl⟩:=DL.Iu I;rfl) | (obtain⟨_,_,rfl⟩:=DL.Ir I;rfl) | (obtain⟨_,_,_,rfl⟩:=DL.Iq I;rfl) | (obtain⟨_,_,_,_,rfl⟩:=DL.Ip I;rfl) | (obtain⟨_,_,_,_,_,rfl⟩:=DL.Io I;rfl)))
  obtain⟨f,fd,Fu,hb,hm⟩:=E.Ti.ex;have e0:=U.symm.trans hm;cases e0;refine⟨fd,λs u=> .of_eq (hb [u] rfl),λbase kb nb=>?_⟩;exact DL.GC Fu E
