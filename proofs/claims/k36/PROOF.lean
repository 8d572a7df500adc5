import PyProof.Rows.All
import Wide.All
import OpenK.AllK
import Wide.FinOn
import Lean
import PyProof.EqAt
import PyProof.EqKinds
import PyProof.TupleCall
import PySem.Str
import PyProof.ZipIter
import PyProof.IsiBase
import KE.KItemsList
import KE.KIsAll
import OpenK.KOwn
import KE.KSortAsk
import PyProof.StrBlockI
import PyProof.Rows.EqDataRows
import PyProof.Rows.InDataRows
import PyProof.SumWalkG
import PyProof.ConsumeWalk
import PyProof.WalksMore
import KE.KSortTup
import PyProof.ListMulRoad
import PyProof.EnumFor
import PyProof.Rows.EnumRows
import PyProof.StrBlockL
import PyProof.JoinWalk
import PyProof.NsDelKeeps
import KE.KTryDeep
import PyProof.InstStoreFacts
import PyProof.NsCount
import PyProof.ExcClass2
import PyProof.Rows.FStr
import PyProof.StationsW
import PyProof.Rows.Catch
import KE.KRevIter
import PyProof.CollectIter
import PyProof.TupleOfGen
import PyProof.Rows.Tup
import PyProof.Draws
import PyProof.EnumMake
import PyProof.StrWalks
import PyProof.SliceStr2
import PyProof.ListNew
import KE.KDictOf
import PyProof.ListRange
import PyProof.Rows.GenSrcRange
import PyProof.ListCopy
import PyProof.AttrMissHeap
import PyProof.DictWalks
import PyProof.FactsDict
import KE.KSortKey
import PyProof.TableCode
import PyProof.Rows.KernelRfl
import PySem.Challenge.RW_barsplit_k36_a_base_of_ways
open List renaming range → IS,mem_range → IV,getElem?_eq_getElem → IX,getD_eq_getElem?_getD → IZ,replicate → La,getElem?_set_ne → Lb,getElem?_cons_zero → Ld,getElem?_cons_succ → Lg,getElem?_eq_some_iff → Lh,size_toArray → Li,mem_cons_of_mem → Lj,map_congr_left → Ll,mem_cons → Lo,mem_cons_self → Lp,getElem?_set_self → Lr,mem_filter → Lx,length_map → Ly,getElem?_map → Lz,map_map → LG,not_mem_nil → LI,mem_of_getElem? → LJ,mem_map → LK,length_cons → LM,length_range → LP,eq_nil_of_length_eq_zero → LU,countP_eq_length_filter → LW,set_cons_zero → Ma,set_cons_succ → Mb,map_cons → Mc,length_append → Md,getElem?_append_right → Mf,length_nil → Mh,getElem?_append_left → Mm,lookup_cons → Mp,map_append → Mr,mem_append_right → Mw,getElem_mem → My,all_eq_true → Mz,nodup_cons → MI,range_succ → MM,getElem?_range → MP,countP_congr → MR,ext_getElem? → MW,length_singleton → MX,range_eq_range' → Nd,replicate_succ → Nk,pairwise_iff_getElem → Nn,drop_eq_getElem_cons → Np,getElem?_set → Nt,append_nil → Nu,range' → Nx,range'_succ → Nz,length_filter_le → ND,flatten_cons → NK,Pairwise → NL,nodup_range → NR,mem_append → Ob,getElem?_replicate → Oc,filter_append → Od,take_of_length_le → Oj,pairwise_lt_range → Om,pairwise_map → Oo,range_add → Ot,toArray → Ow,length_take → OA,drop_length → OB,zip_map' → OF,idxOf_lt_length_of_mem → OJ,getElem_of_mem → OK,forIn_cons → OL,filter_sublist → OM,countP_map → ON,countP_eq_zero → OO,forIn_nil → OX,set_set → Pp,nil_append → Pq,mem_append_left → PD,getElem?_of_mem → PF,filterMap_cons → PK,getElem_idxOf → PY,take_succ_eq_append_getElem → Ra,length_eq_countP_add_countP → Rb,filter_congr → SN,append_assoc → Rf,any_eq_false → Rg,map_nil → Rm,cons_append → Rp
open PySem.W renaming Frag → IT,kia_one → Me,kitOne → NM,cellsFrom_some → Oa,keepIn → Of,fnOf → Oh,findIn → OP,codeIn → Po,methodObj → PL,kitx_list → PM,kitx_dict → PN
open PySem renaming wpAny_bind → IU,wpAny_pure → Lf,wpAny_callSpecial?_slot → Mo,wpAny_field → MA,wpAny_call_entry → ML,wpAny_seqItems → MQ,wpAny_truthy_bool → MZ,wpAny_newObj_type → Na,wpAny_holding → Nq,wpAny_setField_rec → NJ,wpAny_loadPart' → NN,mem_of_lookup → NP,Builtin → NZ,wpAny_mono → Oe,wpAny_Call_Name_kw → Oq,call_meets → OC,wpAny_attempt → OT,wpAny_updateSeq → OY,wpAny_passesOwn → OZ,pushCells_keeps → Pb,wpAny_typeOf → Ph,wpAny_rule → PR,wpAny_updateSeq_pair → PZ,sizeLine_eq → Rh,wpAny_onRaise → Rr,wpAny_pyIter_list → Rx,concat_meets → Ry,codeAny_mono → Rz,wpAny_pyIter_zip → RA,wpAny_isInstance → RB,noFill_tuple_add → RD,Addr → eg,Value → eh,Expr → eu,eval → eA,Shared → eF,model → eY,Heap → fy,starEach → f6,sizeLine → gv,Pos → g8,Scope → g9,World → h8,Stmt → iS,Program → i3,IsPair → l6,Obj → l7,Around → nh,Env → n4,foldedSetIterable → n6,compareOp → o4,IsZip → q5,backTo → rh,FuncData → rr,cellsFrom → sh,assign → t9,holding → u7,mainGlobals → vl,swapsWith → vu,Builtin → wh,NameKind → xb,ZipApart → xc,binaryOp → xg,relabel → z4,assignEach → A5,pyNext → A7,IsPart → B5,pushCells → Dl,Keyword → Dv,bindC → Dx,bindL → Dy,bootBuiltins → Dz,callerA → DB,isTrue → DE,attributeBase → DQ,behindInMarks → DR,getItem → D0,rawInt → D3,standAt → D4,Meets → E1,truthy → G6,BindsTo → Ht,PassesOwn → L4,letOwnedTupleGo → M3,pyIter → M9,spliced → N1,swapsWithSole → N3,backToKw → RH,lastMarks → R9,setItem → So,swappedStores → Sr,sysModules → Ss,typeLookup → Sz,builtinsNs → SQ,newFunctionEnv → Ta,seqIndex_neg → Td,seqIndex_of → Te,seq_tuple_add → Tf,typeIs_str → Tt,wpAny_Name → Tu,wpAny_execs_nil → Tv,builtinLookup_eq_fast → TR,firstArgMember → T5,wpAny_assign_Name → UB,wpAny_sequenceKey → UC
open PySem.Heap renaming get?_push_of_some → IW,lt_size → Ln,get?_push_size → Lv,push → LL,size_push → Mn,get?_update_other → MC,get?_update_self → Nm,SameBut → Ox,get?_push_ne → Pe,size_update → Rq
open Option renaming bind_some → IY,map_some → Lm,some → Mv,isSome_iff_exists → Nb,getD_some → Ov,map_eq_some_iff → SJ,map → PX,some → bQ
open Int renaming mul_emod → Lc,emod_lt_of_pos → LB,emod_emod → LF,emod_nonneg → LQ,emod_eq_of_lt → LX,add_emod → LZ,mul_comm → Ml,emod_eq_emod_iff_emod_sub_eq_zero → Mq,toNat_natCast → Mt,mul_assoc → ME,mul_zero → MS,sub_emod → MU,zero_mul → Ng,mul_left_comm → Ni,emod_emod_of_dvd → Nv,eq_ofNat_of_zero_le → Ny,mul_one → NF,mul_add → NG,add_zero → NH,toNat_of_nonneg → NW,natCast_mul → OQ,add_mul → Pk,natCast_add → PB,dvd_refl → PC,one_mul → L3
open Nat renaming le_refl → Le,lt_or_ge → Lu,ne_of_lt → Lw,lt_of_lt_of_le → LA,not_lt_zero → LH,zero_add → LV,le_add_right → LY,lt_irrefl → Mi,le_trans → Mj,lt_succ_of_lt → Mk,zero_le → Ms,add_sub_cancel_left → MK,reduceAdd → MN,lt_succ_self → Nl,mul_comm → Nw,ne_of_gt → NX,lt_trichotomy → L1,add_zero → Oy,mul_le_mul_right → OE,add_assoc → OH,succ_mul → OW,min_eq_left → Px,le_of_lt → Py,le_succ_of_le → Rl,add_comm → Ro,mod_eq_of_lt → Rt,div_eq_of_lt → Ru
open Bool renaming and_eq_true → Lq,false_ne_true → LN,false_eq_true → Mg,or_eq_true → MJ,eq_iff_iff → MY,not_eq_true' → Nh,false_or → Pj,true → dt,false → ed
open Ne renaming symm → LC
open PySem.Builtin.SmallTypes renaming nextOf → LD,ownedTupleIsFree → LS,ownedTupleHandOut → OR
open PySem.NameKind renaming free → LO,cell → Nr
open Option.some renaming inj → LR
open PySem.Value renaming none → Mu,ref → MD,type → Nf
open Classical renaming byContradiction → Mx,axiomOfChoice → NS
open PyProof.Rows renaming callWith_type1 → MB,slot_tuple_getitem → MG,slot_tupleiter_next → Pa,tupleItemsOf_ → Pu,callWith_builtin1 → Pw,seqObj → ng,AllBare → C9,IsTup → D9,Call_ → H9,IntsAre → Kc,envOfC → L6,args_tuple_getitem → TM,args_tupleiter_next → TN,entry_tupleiter_next → TY,subscriptTail → Uu,subscriptTail_builtinR → Uv
open PySem.SeqAt renaming EqAt → MF
open PySem.Obj renaming mapSeq → MH
open PySem.F renaming slot_zip_next → MO,args_zip_next_1 → NO,plainAttrs_list → NV,entry_zip_next → NY,slot_tuple_mul → OI,args_tuple_add_2 → OU,plain_extend_loop → OV,entry_tuple_add → Pc,slot_tuple_add → Pf,args_tuple_mul_2 → Rn,entry_tuple_mul → Rv
open PySem.Str renaming ofString → MT,join → Rw
open PySem.Builtin.Tuple renaming tupleExact → MV,tupleIsExact → NA
open PySem.Builtin.List renaming listExtendWith → Nc,listTooLong → NI,listItems → NT,listSameRef → OG
open Array renaming length_toList → Nj,getD_eq_getD_getElem? → NC
open PySem.Builtin.Slice renaming slicePlaces → NB,sliceAdjust → Oz
open PySem.PyData renaming depth → NQ,eqv → Og,canLay0 → Oi,eqvAll → PJ,canLayAll0 → PU
open False renaming elim → NU
open True renaming intro → De
open PySem.Challenge renaming rw_barsplit_k36_a_base_of_ways → Ou
open List.Pairwise renaming imp_of_mem → OD,filter → Pd
open PySem.Calls renaming spliced_cons → OS,spliced_nil → Rc
open ForInStep renaming yield → Pg
open PySem.SeqAt.EqAt renaming int_int → Pn
open Function renaming comp → PH
open Sum renaming inr → Ri,inl → Rj
local macro_rules | `(⋯) => `(by first | decide +kernel | omega | simp)
set_option autoImplicit true
noncomputable section
set_option Elab.async false
set_option linter.all false
set_option maxRecDepth 100000
set_option maxHeartbeats 4000000
abbrev RQ:=PySem.Value->PySem.Shared->Prop
abbrev RW:=List (PySem.Addr×PySem.Obj)
abbrev RV:=Nat->Nat->Nat->Int
abbrev RK:=Nat->Nat->Int
abbrev RX:=Nat->Bool
abbrev RZ:=Nat->Nat
abbrev RJ:=PySem.Str->Option PySem.Value
theorem RY{c:Prop}{h:Decidable c}(z:c){α}{a b:α}:ite c a b=a:=if_pos z
theorem EQ{c:Prop}{h:Decidable c}(z:¬c){α}{a b:α}:ite c a b=b:=if_neg z
namespace L2
open PySem PySem.Spec PyProof.Rows
abbrev Key:=Sum Int Str
noncomputable def BM:Key->eh->Bool
 | .inl k,v=>Value.isInt k v
 | .inr x,v=>Value.isStrOf x v
noncomputable def Il(w:h8):Key->Int
 | .inl k=>hashInt k
 | .inr x=>hashStr w x
theorem qs : ∀{k:Key} {v:eh},BM k v=dt->(∃i t,k=Rj i/\v=Value.int i t)\/(∃x t,k=Ri x/\v=Value.str x t)
 | .inl i,v,h=>by obtain⟨t,e⟩:=Value.isInt_shape (k:=i) (v:=v) h;exact .inl ⟨i,t,rfl,e⟩
 | .inr x,v,h=>by obtain⟨t,e⟩:=Value.isStrOf_shape (x:=x) (v:=v) h;exact .inr ⟨x,t,rfl,e⟩
theorem BL(a b:Int):decide ((Rj a:Key)=Rj b)=(a==b):=by
 by_cases e:a=b
 ·subst e;simp
 ·have h : ¬(Rj a:Key)=Rj b:=λq=>e (Rj.inj q)
  rw[decide_eq_false h];exact(beq_eq_false_iff_ne.mpr e).symm
theorem BI(a b:Str):decide ((Ri a:Key)=Ri b)=decide (a=b):=by
 by_cases e:a=b
 ·subst e;simp
 ·have h : ¬(Ri a:Key)=Ri b:=λq=>e (Ri.inj q)
  rw[decide_eq_false h,decide_eq_false e]
theorem BK(a:Int)(b:Str):decide ((Rj a:Key)=Ri b)=ed:=decide_eq_false<|λq=>nomatch q
theorem BJ(a:Str)(b:Int):decide ((Ri a:Key)=Rj b)=ed:=decide_eq_false<|λq=>nomatch q
noncomputable def Vv(prog:i3)(w:h8):PySem.KeyKind prog w Key where
 is:=BM
 hash:=Il w
 inj:=λv a b ha O=>by
  rcases qs ha with⟨i,t,rfl,rfl⟩ | ⟨x,t,rfl,rfl⟩
  ·rcases qs O with⟨j,u,rfl,e⟩ | ⟨y,u,rfl,e⟩
   ·injection e with e1 _;rw[e1]
   ·exact nomatch e
  ·rcases qs O with⟨j,u,rfl,e⟩ | ⟨y,u,rfl,e⟩
   ·exact nomatch e
   ·injection e with e1 _;rw[e1]
 byValue:=λk v h=>by rcases qs h with⟨i,t,rfl,rfl⟩ | ⟨x,t,rfl,rfl⟩<;>rfl
 pyHash:=λI h=>by
  rcases qs I with⟨i,t,rfl,rfl⟩ | ⟨x,t,rfl,rfl⟩
  ·exact wpAny_pyHash_int h
  ·exact wpAny_pyHash_str h
 eqBool:=λU I h=>by
  rcases qs U with⟨i,t,rfl,rfl⟩ | ⟨x,t,rfl,rfl⟩
  ·rcases qs I with⟨j,u,rfl,rfl⟩ | ⟨y,u,rfl,rfl⟩
   ·rw[BL]at h;exact wpAny_eqBool_int h
   ·rw[BK]at h;exact MF.int_str i t y u _ _ _ _ h
  ·rcases qs I with⟨j,u,rfl,rfl⟩ | ⟨y,u,rfl,rfl⟩
   ·rw[BJ]at h;exact MF.str_int x t j u _ _ _ _ h
   ·rw[BI]at h;exact wpAny_eqBool_str h
 «strs» :=λk x t v h=>by
  rcases qs h with⟨i,u,rfl,e⟩ | ⟨y,u,rfl,e⟩
  ·exact nomatch e
  ·injection e with e1 _
   subst e1;cases v<;>rfl
inductive V where
 | e7 | bl (b:Bool) | int (i:Int) | str (x:Str) | E6 (b:Array UInt8) | DX (b:UInt64) | ref (a:eg) | ty (n:String)
 deriving DecidableEq
noncomputable def RelV:V->eh->Prop
 | .e7,u=>u=Mu
 | .bl b,u=>u=Value.bool b
 | .int i,u=>∃t,u=Value.int i t
 | .str x,u=>∃t,u=Value.str x t
 | .E6 b,u=>∃t,u=Value.bytes b t
 | .DX b,u=>∃t,u=Value.float b t
 | .ref a,u=>u=MD a
 | .ty n,u=>u=Nf n
abbrev fm:List V->List eh->Prop:=Paired RelV
theorem fm.length(r:fm xs us):xs.length=us.length:=Paired.length r
theorem fm.get : ∀{xs:List V} {C:List eh} {i:Nat} {x:V},fm xs C->xs[i]? = bQ x->∃u,C[i]? = bQ u/\RelV x u
 | _,_,_,_,.nil,e=>by simp at e
 | _,_,0,_,.cons r _,e=>by simp at e;subst e;exact⟨_,rfl,r⟩
 | _,_,i+1,x,.cons _ t,e=>by obtain⟨u,a,b⟩:=fm.get (i:=i) (x:=x) t (by simpa using e);exact⟨u,by simpa using a,b⟩
theorem fm.set(r:RelV x u) : ∀{xs:List V} {C:List eh} (i:Nat),fm xs C->fm (xs.set i x) (C.set i u)
 | _,_,_,.nil=> .nil
 | _,_,0,.cons _ t=> .cons r t
 | _,_,i+1,.cons q t=> .cons q (fm.set r i t)
theorem fm.append : ∀{xs ys:List V} {C ws:List eh},fm xs C->fm ys ws->fm (xs++ys) (C++ws)
 | _,_,_,_,.nil,s=>s
 | _,_,_,_,.cons r t,s=> .cons r (fm.append t s)
theorem fm.take : ∀{xs:List V} {C:List eh} (n:Nat),fm xs C->fm (xs.take n) (C.take n)
 | _,_,0,_=> .nil
 | _,_,_+1,.nil=> .nil
 | _,_,n+1,.cons r t=> .cons r (fm.take n t)
theorem fm.drop : ∀{xs:List V} {C:List eh} (n:Nat),fm xs C->fm (xs.drop n) (C.drop n)
 | _,_,0,r=>r
 | _,_,_+1,.nil=> .nil
 | _,_,n+1,.cons _ t=>fm.drop n t
noncomputable def GK:Option V->Option eh->Prop
 | some v,bQ u=>RelV v u
 | none,none=>True
 | _,_=>False
noncomputable def KV{C:Type}:List (C×V)->List (C×eh)->Prop:=Paired λ(p:C×V) (q:C×eh)=>p.1=q.1/\RelV p.2 q.2
def kV:Key->V
 | .inl i=> .int i
 | .inr x=> .str x
inductive HO where
 | lst (xs:List V)
 | tup (xs:List V)
 | dK (DG:List (Key×V)) | dT (DG:List (List Key×V))
 | set (S:Int->Bool) (n:Nat)
 | ins (C dx:eg) (fs:List (Str×V))
 | own (x:eg)
 | xd (fs:List (Str×V))
 | met (f x:eg)
 | ji (lo hi:Int)
 | sX (o:l7) (u:HO)
 | DM (ps:Array eh)
 | ext (φ:fy->Prop)
abbrev Hp:=eg->Option HO
def upd(H:Hp)(a:eg)(o:HO):Hp:=λb=>if b=a then bQ o else H b
theorem zU:upd H a o a=bQ o:=by unfold upd;rw[RY rfl]
theorem zS(h:b≠a):upd H a o b=H b:=by unfold upd;rw[EQ h]
theorem Xz{H:Hp}{a:eg}{o u:HO}:upd (upd H a o) a u=upd H a u:=by funext b;unfold upd;split<;>rfl
theorem qe{H:Hp}{a b:eg}{o:HO}(h:H a=bQ o)(h':H b=none):a≠b:=by intro e;subst e;rw[h]at h';cases h'
noncomputable def wx(h:fy)(a:eg)(I:Array eh):Prop:=∃o,h.get? a=bQ o/\(o.cls,o.dict)=(Nf "tuple",none)/\∃n,o.data = .seq I n
theorem wx.new(h:fy)(I:Array eh):wx (h.push {cls:= .type "tuple",data:= .seq I}) h.objs.size I:=⟨_,Lv _ rfl,rfl,_,rfl⟩
theorem wx.tup(x:wx h a items):D9 h a items:=let ⟨o,e,c,r⟩:=x;⟨o,e,(Prod.mk.inj c).1,r⟩
section
variable(P:i3)(w:h8)
noncomputable def m6(H:Hp)(h:fy)(a:eg):HO->Prop
 | .lst e=>e.length<=gv/\∃(b:List eh) (n:Nat),fm e b/\h.get? a=bQ {cls:= .type "list",data:= .seq b.toArray n}
 | .tup e=>e.length<=gv/\∃b:List eh,fm e b/\wx h a b.toArray
 | .dK d=>d.length<=gv/\(a==Ss)=ed/\∃m,KV d m/\h.DictOf (Vv P w) a m
 | .dT d=>d.length<=gv/\(a==Ss)=ed/\∃e:List (List Key×eg×eh),
  Paired (λ(p:List Key×V) (q:List Key×eg×eh)=>p.1=q.1/\H q.2.1=bQ (.tup<|p.1.map kV)/\RelV p.2 q.2.2) d e/\
  ∃o j I,h.get? a=bQ o/\o.ExactDict/\o.data = .dict j I/\j.toList=e.map (entryOfKey<|tupleKind<|Vv P w)/\(e.map (·.1)).Nodup
 | .set S n=>h.SetOf (intKind P w) a S n
 | .ins C g fs=>H g=bQ (.own a)/\fs.length<=1000/\g≠a/\h.get? a=bQ (PySem.W.instObj C g)/\
  ∃mA,h.Ns1 g mA/\(∀f,GK (fs.lookup f)<|mA f)/\PySem.Within mA (fs.map (·.1))
 | .own _=>∃o,h.get? a=bQ o
 | .xd fs=>∃mA,h.Ns1 a mA/\∀f,GK (fs.lookup f)<|mA f
 | .ji lo r=>∃t u v,h.get? a=bQ {cls:= .type "range",data:= .fields #[.int lo t,.int r u,.int 1 v]}
 | .sX o u=>h.get? a=bQ o/\m6 H h a u
 | .DM s=>h.get? a=bQ {cls:= .none,data:= .fields s}
 | .met f x=>h.get? a=bQ (PL (.ref f)<|.ref x)
 | .ext i=>i h/\(∃o,h.get? a=bQ o)/\∀k l:fy,i k->(∀o,k.get? a=bQ o->l.get? a=bQ o)->i l
def mr(H:Hp)(h:fy):Prop:=∀a o,H a=bQ o->m6 P w H h a o
end
section
variable{P:i3}{w:h8}{H H':Hp}{h h':fy}{a:eg}{o:HO}
theorem m6.lt(x:m6 P w H h a o):a<h.objs.size:=by
 cases o with
 | lst d=>obtain⟨_,_,_,_,e⟩:=x;exact Ln e
 | tup d=>obtain⟨_,_,_,p⟩:=x;exact p.tup.lt
 | dK b=>obtain⟨_,_,_,_,o,_,_,e,_⟩:=x;exact Ln e
 | dT b=>obtain⟨_,_,_,_,o,_,_,e,_⟩:=x;exact Ln e
 | set S n=>obtain⟨o,_,_,_,e,_⟩:=x;exact Ln e
 | ins C g fs=>obtain⟨_,_,_,e,_⟩:=x;exact Ln e
 | own y=>obtain⟨_,e⟩:=x;exact Ln e
 | xd fs=>obtain⟨_,⟨_,_,_,e,_⟩,_⟩:=x;exact Ln e
 | ji lo i=>obtain⟨_,_,_,e⟩:=x;exact Ln e
 | sX I u=>obtain⟨e,_⟩:=x;exact Ln e
 | DM j=>exact Ln (show h.get? a=bQ _ from x)
 | met f y=>exact Ln (show h.get? a=bQ _ from x)
 | ext k=>obtain⟨_,⟨_,e⟩,_⟩:=x;exact Ln e
theorem Paired.S9 : ∀{I:List α} {O:List β},Paired F I O->(∀a b,F a b->G a b)->Paired G I O
 | _,_,.nil,_=> .nil
 | _,_,.cons r t,f=> .cons (f _ _ r) (Paired.S9 t f)
theorem m6.DK(x:m6 P w H h a o)(k : ∀b u,(b=a\/H b=bQ (.own a))->h.get? b=bQ u->h'.get? b=bQ u)
 (U : ∀b,H b=bQ (.own a)->H' b=bQ (.own a)) (J : ∀b xs,H b=bQ (.tup xs)->H' b=bQ (.tup xs)):m6 P w H' h' a o:=by
 induction o with
 | lst xs=>obtain⟨z,i,n,r,e⟩:=x;exact⟨z,i,n,r,k _ _ (.inl rfl) e⟩
 | tup xs=>obtain⟨z,i,r,I,e,c⟩:=x;exact⟨z,i,r,I,k _ _ (.inl rfl) e,c⟩
 | dK j=>obtain⟨z,y,F,r,I,g,O,e,c⟩:=x;exact⟨z,y,F,r,I,g,O,k _ _ (.inl rfl) e,c⟩
 | dT j=>
  obtain⟨z,y,xs,r,I,g,O,e,c⟩:=x;exact⟨z,y,xs,Paired.S9 r λp q z=>⟨z.1,J _ _ z.2.1,z.2.2⟩,I,g,O,k _ _ (.inl rfl) e,c⟩
 | set S n=>obtain⟨I,g,O,t,e,c⟩:=x;exact⟨I,g,O,t,k _ _ (.inl rfl) e,c⟩
 | ins C G fs=>
  obtain⟨d,z,E,e,l,⟨m,g,O,A,c⟩,r⟩:=x;exact⟨U _ d,z,E,k _ _ (.inl rfl) e,l,⟨m,g,O,k _ _ (.inr d) A,c⟩,r⟩
 | own y=>obtain⟨I,e⟩:=x;exact⟨I,k _ _ (.inl rfl) e⟩
 | xd fs=>obtain⟨l,⟨m,g,O,e,c⟩,r⟩:=x;exact⟨l,⟨m,g,O,k _ _ (.inl rfl) e,c⟩,r⟩
 | ji lo K=>obtain⟨t,u,v,e⟩:=x;exact⟨t,u,v,k _ _ (.inl rfl) e⟩
 | sX I u B=>obtain⟨e,q⟩:=x;exact⟨k _ _ (.inl rfl) e,B q⟩
 | DM s=>
  have e:h.get? a=bQ {cls:= .none,data:= .fields s}:=x;show h'.get? a=bQ {cls:= .none,data:= .fields s};exact k a _ (.inl rfl) e
 | met f y=>
  have e:h.get? a=bQ (PL (.ref f)<|.ref y):=x;show h'.get? a=bQ (PL (.ref f)<|.ref y);exact k a _ (.inl rfl) e
 | ext L=>obtain⟨p,⟨o,e⟩,st⟩:=x;exact⟨st _ _ p λo q=>k _ _ (.inl rfl) q,⟨o,k _ _ (.inl rfl) e⟩,st⟩
theorem mr.lt(x:mr P w H h)(e:H a=bQ o):a<h.objs.size:=(x a o e).lt
theorem mr.fresh(x:mr P w H h)(e:h.objs.size<=a):H a=none:=by
 cases q:H a with
 | none=>rfl
 | some u=>exact absurd (LA (x.lt q) e)<|Mi _
theorem mr.kept(x:mr P w H h)(k : ∀b u,h.get? b=bQ u->h'.get? b=bQ u):mr P w H h':=λa o e=>
 (x a o e).DK (λb u _ q=>k b u q) (λ_ q=>q) λ_ _ q=>q
theorem mr.laid(x:mr P w H h)(k : ∀b u,h.get? b=bQ u->h'.get? b=bQ u)(O:h.objs.size<=a)(new:m6 P w (upd H a o) h' a o):mr P w (upd H a o) h':=λb u e=>by
 have d:=x.fresh O;by_cases I:b=a
 ·subst I;rw[zU]at e;cases e;exact new
 ·rw[zS I]at e
  exact(x b u e).DK (λc v _ q=>k c v q) (λc q=>by rw[zS (qe q d)];exact q) λc f q=>by rw[zS (qe q d)];exact q
end
noncomputable def Rd(H:Hp)(a:eg)(u:HO):Prop:=H a=bQ u\/∃o,H a=bQ (.sX o u)
theorem Rd.ok(r:Rd H a u)(x:mr P w H h):m6 P w H h a u:=by
 rcases r with r | ⟨o,r⟩
 ·exact x a u r
 ·obtain⟨_,q⟩:=x a _ r
  exact q
noncomputable def L0:Option HO->Prop
 | some (.lst _)=>True
 | some (.dK _)=>True
 | some (.dT _)=>True
 | some (.set _ _)=>True
 | some (.ins _ _ _)=>True
 | some (.ext _)=>True
 | _=>False
section
variable{P:i3}{w:h8}{H:Hp}{h h':fy}{x e:eg}{o':HO}
theorem mr.write(ok:mr P w H h)(I:L0 (H x))(C:e=x\/H e=bQ (.own x))(k : ∀b u,b≠e->h.get? b=bQ u->h'.get? b=bQ u)(J : ∃u,h'.get? e=bQ u)
 (new:m6 P w (upd H x o') h' x o'):mr P w (upd H x o') h':=λb u q=>by
 have d : ∀c y,H c=bQ (.own y)->c≠x:=λc y r z=>by subst z;rw[r]at I;exact I
 have g : ∀c a,H c=bQ (.tup a)->c≠x:=λc a r z=>by subst z;rw[r]at I;exact I
 by_cases O:b=x
 ·subst O;rw[zU]at q;cases q;exact new
 ·rw[zS O]at q
  by_cases U:b=e
  ·have f:H b=bQ (.own x):=by
    rcases C with z | z
    ·exact absurd (U.trans z) O
    ·rw[U];exact z
   rw[q]at f;cases f;obtain⟨v,i⟩:=J;exact⟨v,by rw[U];exact i⟩
  ·refine(ok b u q).DK (λc v hc r=>k c v ?_ r) (λc r=>by rw[zS (d c b r)];exact r) λc a r=>by rw[zS (g c a r)];exact r
   rcases hc with rfl | hc
   ·exact U
   ·rintro rfl
    rcases C with z | z
    ·exact d c b hc z
    ·rw[hc]at z;cases z;exact O rfl
end
structure Un(fs ex:List eg)(H H':Hp)(h h':fy):Prop where
 keep : ∀b o,h.get? b=bQ o->H b=none->b∉fs->b∉ex->h'.get? b=bQ o
 slot : ∀b o,h.get? b=bQ o->H b=none->b∈fs->b∉ex->∃sl,h'.get? b=bQ {o with slots:=sl}
 free : ∀b o,h.get? b=bQ o->H b=none->b∉ex->H' b=none
 there : ∀b o,h.get? b=bQ o->b∉ex->∃o',h'.get? b=bQ o'
 Dp : ∀b xs,H b=bQ (.tup xs)->H' b=bQ (.tup xs)
 DD : ∀b o u,H b=bQ (.sX o u)->H' b=bQ (.sX o u)
 Dn : ∀b ps,H b=bQ (.DM ps)->∃more,H' b=bQ (.DM<|ps++more)
section
variable{fs T7 ex UG:List eg}{H H1 H2:Hp}{h h1 h2 h':fy}{a x e:eg}{o:HO}
theorem Un.any(u:Un fs ex H H1 h h1)(q:h.get? b=bQ ob)(n:H b=none)(I:b∉ex) : ∃C,h1.get? b=bQ {ob with slots:=C}:=by
 by_cases O:b∈fs
 ·exact u.slot b ob q n O I
 ·exact⟨ob.slots,u.keep b ob q n O I⟩
theorem Un.kept(k : ∀b u,h.get? b=bQ u->h'.get? b=bQ u):Un fs ex H H h h':=
 ⟨λb I q _ _ _=>k b I q,λb I q _ _ _=>⟨I.slots,k b I q⟩,λ_ _ _ n _=>n,λb I q _=>⟨I,k b I q⟩,λ_ _ q=>q,λ_ _ _ q=>q,λ_ a q=>⟨#[],by rw[q];simp⟩⟩
theorem Un.refl:Un fs ex H H h h:=Un.kept λ_ _ q=>q
theorem Un.laid(k : ∀b u,h.get? b=bQ u->h'.get? b=bQ u)(I:h.objs.size<=a)(hn:H a=none):Un fs ex H (upd H a o) h h' where
 keep:=λb u q _ _ _=>k b u q
 slot:=λb u q _ _ _=>⟨u.slots,k b u q⟩
 free:=λb u q n _=>by rw[zS (Lw<|LA (Ln q) I)];exact n
 there:=λb u q _=>⟨u,k b u q⟩
 Dp:=λb xs q=>by rw[zS (qe q hn)];exact q
 DD:=λb u xs q=>by rw[zS (qe q hn)];exact q
 Dn:=λb ps q=>⟨#[],by rw[zS (qe q hn),q];simp⟩
theorem Un.write(I:L0 (H x))(J:e=x\/H e=bQ (.own x))(k : ∀b u,b≠e->h.get? b=bQ u->h'.get? b=bQ u)(C : ∃u,h'.get? e=bQ u):Un fs ex H (upd H x o) h h':=by
 have O : ∀b,H b=none->b≠x:=λb n z=>by subst z;rw[n]at I;exact I
 have U : ∀b,H b=none->b≠e:=λb n z=>by
  subst z;rcases J with r | r
  ·exact O b n r
  ·rw[n]at r;cases r
 have a : ∀b u,H b=bQ u->¬L0 (bQ u)->b≠x:=λb u q nm z=>by subst z;rw[q]at I;exact nm I
 refine⟨λb u q n _ _=>k b u (U b n) q,λb u q n _ _=>⟨u.slots,k b u (U b n) q⟩,λb u q n _=>by rw[zS (O b n)];exact n,λb u q _=>?_,
  λb f q=>by rw[zS (a b _ q λz=>z)];exact q,λb u f q=>by rw[zS (a b _ q λz=>z)];exact q,λb g q=>⟨#[],by rw[zS (a b _ q λz=>z),q];simp⟩⟩
 by_cases d:b=e
 ·subst d;exact C
 ·exact⟨u,k b u d q⟩
end
noncomputable def N9(h:fy)(H:Hp):List eg:=(IS h.objs.size).filter λa=>(H a).isSome
def mP(h:fy)(H:Hp):fy:=PySem.W.hideAll h<|N9 h H
theorem fI(h:fy)(H:Hp):(mP h H).objs.size=h.objs.size:=PySem.W.hideAll_size _ _
theorem mO(e:h.get? b=bQ o)(n:H b=none):(mP h H).get? b=bQ o:=
 PySem.W.hideAll_get _ e λa=>by have q:(H b).isSome=dt:=(Lx.mp a).2;rw[n]at q;simp at q
theorem sE(e:(mP h H).get? b=bQ o):h.get? b=bQ o/\H b=none:=by
 have I:h.get? b=bQ o:=PySem.W.of_hideAll (N9 h H) e;refine⟨I,?_⟩;cases q:H b with
 | none=>rfl
 | some x=>
  have a:b∈N9 h H:=Lx.mpr ⟨IV.mpr<|Ln I,by simp[q]⟩;have z:(mP h H).get? b=none:=PySem.W.hideAll_none (N9 h H) a;rw[z]at e;cases e
noncomputable def um(g h:fy)(L:eg):List (eg×l7):=(IS h.objs.size).filterMap λa=>if a=L\/(g.get? a).isSome=dt then none else (h.get? a).map λo=>(a,o)
noncomputable def kn(g h:fy)(L d:eg):List (eg×l7):=(um g h L).filter λp=>decide<|p.1≠d
structure Mod(K:IT)(mg:RJ)(base:fy):Prop where
 R8:K.In base
 glob:base.Ns vl mg
 blt : ∃mb,base.Ns SQ mb/\∀x:Str,x ≠ "__name__"->mb x=Dz x
 nolimit:base.NoLimit
structure Cx where
 prog:i3
 w:h8
 K:IT
 mg:Str->Option eh
 base:fy
 A:nh
 N:List Str
 m4:eF
 D8:Hp
 env:n4
 outer:List n4
 stack:List n4
 ex:List eg
 fn:Str->Bool
 calm:Bool
 pn:List (eg×l7)
 xe:eh->eF->Prop
def yg(l:List n4):List eg:=l.filterMap (·.frame)
abbrev Cx.fs(X:Cx):List eg:=yg X.outer
noncomputable def P5(C:g9)(x:Str):Prop:=C.names.lookup x=bQ .local\/C.names.lookup x=bQ .cell\/C.names.lookup x=bQ .free
noncomputable def Loc(C:g9)(x:Str):Prop:=C.names.lookup x=bQ .local\/C.names.lookup x=bQ .cell
noncomputable def ID(env:n4)(h:fy)(m:RJ)(x:Str)(u:eh):Prop:=
 (env.kindOf x=bQ .local/\m x=bQ u)\/((env.kindOf x=bQ .cell\/env.kindOf x=bQ .free)/\∃c,env.cells.lookup x=bQ c/\h.IsCell c (bQ u))
structure Cx.Ok(X:Cx):Prop where
 mod:Mod X.K X.mg X.base
 kind:X.env.scope.kind = .function
 glob:X.env.globals=vl
 blt:X.env.builtins=SQ
 above:X.m4.heap.objs.size<=X.env.locals
 inj : ∀x y c,X.env.cells.lookup x=bQ c->X.env.cells.lookup y=bQ c->x=y
 has : ∀x,(X.env.kindOf x=bQ .cell\/X.env.kindOf x=bQ .free)->∃c,X.env.cells.lookup x=bQ c
 E7 : ∀x c,X.fn x=dt->X.env.cells.lookup x=bQ c->X.m4.heap.objs.size<=c
 hd:X.calm=dt->X.A.handled=none
 frames:X.A.frames=bQ X.stack
 N2:X.stack=X.outer\/(X.stack=X.env::X.outer/\X.env.frame=bQ X.env.locals)
 L7 : ∀b∈X.ex,b≠X.env.locals/\∀x c,X.env.cells.lookup x=bQ c->c≠b
 bs : ∀b o,X.base.get? b=bQ o->X.m4.heap.get? b=bQ o/\X.D8 b=none
 Dh:X.base.objs.size<=X.m4.heap.objs.size
 F6 : ∀b o,X.base.get? b=bQ o->b∉X.ex
 E9 : ∀b∈X.ex,b∉X.fs
 y6:X.m4.heap.FunFrames X.base X.outer
 DZ : ∀b∈X.fs,X.D8 b=none
structure Inv(X:Cx)(pins:RW)(σ:List (Option V))(H:Hp)(s:eF):Prop where
 ok:X.Ok
 os:s.os=X.m4.os
 bare:C9 s.gens
 base:Un X.fs X.ex X.D8 H X.m4.heap s.heap
 loc : ∃m,s.heap.Ns X.env.locals m/\∀(i:Nat) (x:Str) (v:V),X.N[i]? = bQ x->σ[i]? = bQ (bQ v)->P5 X.env.scope x->∃u,RelV v u/\ID X.env s.heap m x u
 cell : ∀x c,X.env.cells.lookup x=bQ c->∃v,s.heap.IsCell c v
 free:H X.env.locals=none
 A6 : ∀x c,X.env.cells.lookup x=bQ c->H c=none
 pin : ∀p∈X.pn++pins,s.heap.get? p.1=bQ p.2/\H p.1=none/\p.1≠X.env.locals/\p.1∉X.fs/\∀v,p.2.data ≠ .cell v
 gB:mr X.prog X.w H s.heap
 len:σ.length=X.N.length
section
variable{X:Cx}{pins:RW}{σ:List (Option V)}{H H':Hp}{s:eF}{h':fy}
theorem Cx.Ok.Ug(ok:X.Ok)(e:X.base.get? b=bQ o):b∉X.fs:=λI=>by have:=(ok.y6.mem I).1;rw[e]at this;cases this
theorem Inv.bs(I:Inv X pins σ H s) : ∀b o,X.base.get? b=bQ o->s.heap.get? b=bQ o/\H b=none:=λb o e=>
 ⟨I.base.keep b o (I.ok.bs b o e).1 (I.ok.bs b o e).2 (I.ok.Ug e) (I.ok.F6 b o e),I.base.free b o (I.ok.bs b o e).1 (I.ok.bs b o e).2 (I.ok.F6 b o e)⟩
theorem Inv.bk(I:Inv X pins σ H s) : ∀b o,X.base.get? b=bQ o->s.heap.get? b=bQ o:=λb o e=>(I.bs b o e).1
theorem Inv.mod(I:Inv X pins σ H s):Mod X.K X.mg X.base:=I.ok.mod
theorem Inv.mu(I:Inv X pins σ H s):X.K.In s.heap:=I.ok.mod.R8.keeps I.bk
theorem Inv.lt(I:Inv X pins σ H s):X.env.locals<s.heap.objs.size:=let ⟨_,a,_⟩:=I.loc;a.lt
theorem Inv.sz(I:Inv X pins σ H s):X.m4.heap.objs.size<=s.heap.objs.size:=Mj I.ok.above<|Py I.lt
theorem Inv.Ui(I:Inv X pins σ H s)(h:s.heap.objs.size<=a):a∉X.fs:=λO=>by obtain⟨_,o,U,_⟩:=I.ok.y6.mem O;exact absurd (LA (Ln U)<|Mj I.sz h)<|Mi _
theorem Inv.DC(I:Inv X pins σ H s) : ∀x c,X.env.cells.lookup x=bQ c->c≠X.env.locals:=λx c e z=>by obtain⟨v,o,O,a⟩:=I.cell x c e;obtain⟨m,⟨g,f,d,U,b,_⟩,_⟩:=I.loc;rw[z,U]at O;cases O;rw[b]at a;cases a
theorem Inv.y6(I:Inv X pins σ H s):s.heap.FunFrames X.base X.outer:=by
 have all : ∀(l:List n4),(∀b∈yg l,b∈X.fs)->X.m4.heap.FunFrames X.base l->s.heap.FunFrames X.base l:=by
  intro l
  induction l with
  | nil=>intro _ _;trivial
  | cons f r n=>
   intro d i;obtain⟨h,⟨L,o,O,j,k,g⟩,m⟩:=i;have U:L∈X.fs:=d L (by unfold yg;rw[PK,O];exact Lp);obtain⟨p,e⟩:=I.base.slot L o k (I.ok.DZ L U) U λz=>I.ok.E9 L z U;exact⟨h,⟨L,_,O,j,e,g⟩,n (λb a=>d b<|by unfold yg;rw[PK,O];exact Lj _ a) m⟩
 exact all X.outer (λ_ a=>a) I.ok.y6
theorem Inv.stack(I:Inv X pins σ H s):s.heap.FunFrames X.base X.stack:=by
 rcases I.ok.N2 with e | ⟨e,O⟩
 ·rw[e];exact I.y6
 ·rw[e]
  obtain⟨m,a,_⟩:=I.loc;refine .cons (by rw[I.ok.kind];decide) O a ?_ I.y6;exact Heap.get?_none_of_le<|Mj I.ok.Dh I.ok.above
theorem Inv.Sq(I:Inv X pins σ H s) : ∀b∈yg X.stack,b∈X.env.locals::X.fs:=λb O=>by
 rcases I.ok.N2 with e | ⟨e,U⟩
 ·rw[e]at O;exact Lj _ O
 ·rw[e]at O
  unfold yg at O;rw[PK,U]at O;exact O
theorem Inv.Tn(I:Inv X pins σ H s) : ∀b∈yg X.stack,H b=none:=λb O=>by
 rcases Lo.mp (I.Sq b O)with e | O
 ·rw[e];exact I.free
 ·obtain⟨_,o,U,_⟩:=I.ok.y6.mem O
  exact I.base.free b o U (I.ok.DZ b O) λz=>I.ok.E9 b z O
theorem Inv.step{g':Array GenState}{t':Nat}{d':Drawn}{ch:List eg}(I:Inv X pins σ H s)
 (L : ∀b∈ch,(b∈X.ex\/X.m4.heap.objs.size<=b)/\b≠X.env.locals/\(∀x c,X.env.cells.lookup x=bQ c->c≠b)/\∀p∈X.pn++pins,p.1≠b)
 (keep : ∀b o,b≠X.env.locals->b∉X.fs->b∉ch->s.heap.get? b=bQ o->H b=none->h'.get? b=bQ o)
 (C : ∀b o,b≠X.env.locals->b∈X.fs->b∉ch->s.heap.get? b=bQ o->H b=none->∃sl,h'.get? b=bQ {o with slots:=sl}) (free : ∀b o,b∉ch->s.heap.get? b=bQ o->H b=none->H' b=none)
 (J : ∀b o,b∉ch->s.heap.get? b=bQ o->∃Z,h'.get? b=bQ Z)
 (Dp : ∀b xs,H b=bQ (.tup xs)->H' b=bQ (.tup xs)) (Y : ∀b o u,H b=bQ (.sX o u)->H' b=bQ (.sX o u)) (Dn : ∀b ps,H b=bQ (.DM ps)->∃more,H' b=bQ (.DM<|ps++more))
 (ns : ∀m,s.heap.Ns X.env.locals m->h'.Ns X.env.locals m) (gB:mr X.prog X.w H' h') (hg:C9 g') :
 Inv X pins σ H' {s with heap:=h',gens:=g',drawn:=d',toks:=t'}:=by
 have y : ∀b o,X.m4.heap.get? b=bQ o->b≠X.env.locals:=λb o e=>Lw<|LA (Ln e) I.ok.above;have j : ∀b o,X.m4.heap.get? b=bQ o->b∉X.ex->b∉ch:=λb o e O U=>by
  rcases (L b U).1 with z | z
  ·exact O z
  ·exact absurd (LA (Ln e) z)<|Mi _
 have A : ∀x c,X.env.cells.lookup x=bQ c->∀v,s.heap.IsCell c v->h'.IsCell c v:=λx c e v N=>by
  obtain⟨o,f,t⟩:=N;have g:c∉ch:=λz=>(L c z).2.2.1 x c e rfl;by_cases B:c∈X.fs
  ·obtain⟨sl,q⟩:=C c o (I.DC x c e) B g f (I.A6 x c e)
   exact⟨_,q,t⟩
  ·exact⟨o,keep c o (I.DC x c e) B g f<|I.A6 x c e,t⟩
 refine⟨I.ok,I.os,hg,⟨λb o e n U O=>?_,λb o e n U O=>?_,λb o e n O=>?_,λb o e O=>?_,λb xs e=>Dp b xs<|I.base.Dp b xs e,λb o xs e=>Y b o xs<|I.base.DD b o xs e,λb ps e=>?_⟩,?_,λx c e=>?_,?_,λx c e=>?_,λp E=>?_,gB,I.len⟩
 ·exact keep b o (y b o e) U (j b o e O) (I.base.keep b o e n U O)<|I.base.free b o e n O
 ·obtain⟨sl,a⟩:=I.base.slot b o e n U O
  obtain⟨K,h⟩:=C b _ (y b o e) U (j b o e O) a<|I.base.free b o e n O;exact⟨K,h⟩
 ·obtain⟨Z,a⟩:=I.base.there b o e O
  exact free b Z (j b o e O) a<|I.base.free b o e n O
 ·obtain⟨Z,a⟩:=I.base.there b o e O
  exact J b Z (j b o e O) a
 ·obtain⟨R,a⟩:=I.base.Dn b ps e
  obtain⟨S,h⟩:=Dn b _ a;exact⟨R++S,by rw[h,Array.append_assoc]⟩
 ·obtain⟨m,Q,P⟩:=I.loc
  refine⟨m,ns m Q,λi x v a h M=>?_⟩;obtain⟨u,r,l⟩:=P i x v a h M;refine⟨u,r,?_⟩;rcases l with l | ⟨k,c,e,z⟩
  ·exact .inl l
  ·exact .inr ⟨k,c,e,A x c e _ z⟩
 ·obtain⟨v,z⟩:=I.cell x c e
  exact⟨v,A x c e v z⟩
 ·obtain⟨m,⟨o,_,_,f,_⟩,_⟩:=I.loc
  exact free _ o (λz=>(L _ z).2.1 rfl) f I.free
 ·obtain⟨v,o,f,t⟩:=I.cell x c e
  exact free c o (λz=>(L c z).2.2.1 x c e rfl) f<|I.A6 x c e
 ·obtain⟨e,n,F,G,d⟩:=I.pin p E
  have g:p.1∉ch:=λz=>(L p.1 z).2.2.2 p E rfl;exact⟨keep p.1 p.2 F G g e n,free p.1 p.2 g e n,F,G,d⟩
theorem Inv.un{t':Nat}(I:Inv X pins σ H s)(u:Un X.fs [] H H' s.heap h')(C:mr X.prog X.w H' h'):Inv X pins σ H' {s with heap:=h',toks:=t'}:=by
 obtain⟨m,⟨o,k,j,U,r⟩,_⟩:=id I.loc;obtain⟨t,g⟩:=u.any U I.free ⋯;exact I.step (g':=s.gens) (d':=s.drawn) (ch:=[]) (λ_ z=>nomatch z) (λb o _ O _ e n=>u.keep b o e n O ⋯) (λb o _ O _ e n=>u.slot b o e n O ⋯) (λb o _ e n=>u.free b o e n ⋯) (λb o _ e=>u.there b o e ⋯) u.Dp u.DD u.Dn (λl h=>by obtain⟨p,d,f,a,i⟩:=h;rw[U]at a;cases a;exact⟨_,d,f,g,i⟩) C I.bare
theorem Inv.call{g':Array GenState}{t':Nat}{d':Drawn}{ch:List eg}(I:Inv X pins σ H s)(u:Un (yg X.stack) ch H H' s.heap h')(C:mr X.prog X.w H' h')(L:C9 g')
 (J : ∀b∈ch,(b∈X.ex\/X.m4.heap.objs.size<=b)/\b≠X.env.locals/\(∀x c,X.env.cells.lookup x=bQ c->c≠b)/\∀p∈X.pn++pins,p.1≠b) :
 Inv X pins σ H' {s with heap:=h',gens:=g',drawn:=d',toks:=t'}:=by
 obtain⟨m,⟨o,l,k,d,r⟩,_⟩:=id I.loc;obtain⟨A,U⟩:=u.any d I.free λz=>(J _ z).2.1 rfl;exact I.step (ch:=ch) J (λb o U h O e n=>u.keep b o e n (λz=>(Lo.mp<|I.Sq b z).elim U h) O) (λb o _ _ O e n=>u.any e n O) (λb o O e n=>u.free b o e n O) (λb o O e=>u.there b o e O) u.Dp u.DD u.Dn (λt i=>by obtain⟨y,f,g,a,j⟩:=i;rw[d]at a;cases a;exact⟨_,f,g,U,j⟩) C L
theorem Inv.turned{t':Nat}{it:eg}(I:Inv X pins σ H s)(k : ∀b o,b≠it->s.heap.get? b=bQ o->h'.get? b=bQ o)(Y:H it=none)(U:it≠X.env.locals)
 (C:it∈X.ex\/X.m4.heap.objs.size<=it) (J : ∀x c,X.env.cells.lookup x=bQ c->c≠it) (L : ∀p∈X.pn++pins,p.1≠it):Inv X pins σ H {s with heap:=h',toks:=t'}:=by
 have a : ∀b u,H b=bQ u->b≠it:=λb u e z=>by rw[z,Y]at e;cases e
 refine I.step (g':=s.gens) (d':=s.drawn) (ch:=[it]) (λb g=>?_) (λb o _ _ O e _=>k b o (λz=>O<|by simp[z]) e) (λb o _ _ O e _=>⟨o.slots,k b o (λz=>O<|by simp[z]) e⟩) (λ_ _ _ _ n=>n)
  (λb o O e=>⟨o,k b o (λz=>O<|by simp[z]) e⟩) (λ_ _ e=>e) (λ_ _ _ e=>e) (λb j e=>⟨#[],by rw[e];simp⟩) (λm h=>?_) (λb u e=>?_) I.bare
 ·have e:b=it:=by simpa using g
  subst e;exact⟨C,U,J,L⟩
 ·obtain⟨o,f,d,i,r⟩:=h
  exact⟨o,f,d,k _ o (LC U) i,r⟩
 ·refine(I.gB b u e).DK (λc v O q=>k c v ?_ q) (λ_ q=>q) λ_ _ q=>q
  rcases O with z | z
  ·rw[z];exact a b u e
  ·exact a c _ z
theorem Inv.tok(I:Inv X pins σ H s)(t:Nat):Inv X pins σ H {s with toks:=t}:=I.un (h':=s.heap) (t':=t) Un.refl I.gB
theorem Inv.kept(I:Inv X pins σ H s)(k : ∀b u,s.heap.get? b=bQ u->h'.get? b=bQ u):Inv X pins σ H {s with heap:=h',toks:=t'}:=I.un (Un.kept k)<|I.gB.kept k
theorem Inv.laid(I:Inv X pins σ H s)(k : ∀b u,s.heap.get? b=bQ u->h'.get? b=bQ u)(O:s.heap.objs.size<=a)(new:m6 X.prog X.w (upd H a o) h' a o) :
 Inv X pins σ (upd H a o) {s with heap:=h',toks:=t'}:=I.un (Un.laid k O<|I.gB.fresh O)<|I.gB.laid k O new
theorem Inv.write(I:Inv X pins σ H s)(O:L0 (H x))(U:e=x\/H e=bQ (.own x))(k : ∀b u,b≠e->s.heap.get? b=bQ u->h'.get? b=bQ u)(C : ∃u,h'.get? e=bQ u)
 (new:m6 X.prog X.w (upd H x o) h' x o):Inv X pins σ (upd H x o) {s with heap:=h',toks:=t'}:=I.un (Un.write O U k C)<|I.gB.write O U k C new
theorem Inv.Tc(I:Inv X pins σ H s)(h : ∀p∈O,s.heap.get? p.1=bQ p.2/\H p.1=none/\p.1≠X.env.locals/\p.1∉X.fs/\∀v,p.2.data ≠ .cell v):Inv X O σ H s:=
 ⟨I.ok,I.os,I.bare,I.base,I.loc,I.cell,I.free,I.A6,λp U=>(Ob.mp U).elim (λz=>I.pin p<|PD _ z) (h p),I.gB,I.len⟩
theorem WI{N:List Str}(I:N.Nodup){i j:Nat}{x:Str}(a:N[i]? = bQ x)(b:N[j]? = bQ x):i=j:=by obtain⟨f,d⟩:=Lh.mp a;obtain⟨g,e⟩:=Lh.mp b;exact(List.getElem_inj I).mp (d.trans e.symm)
theorem KY{M:Model}{A:nh}{E:RQ}{i:Nat}{x:Str}{v:V}{u:eh}{Q:Unit->eF->Prop}(I:Inv X pins σ H s)(hN:X.N.Nodup)(hi:X.N[i]? = bQ x)(U:Loc X.env.scope x)(r:RelV v u)
 (h : ∀Y,Inv X pins (σ.set i<|some v) H Y->(∃a,Ox a s.heap Y.heap/\(a=X.env.locals\/X.env.cells.lookup x=bQ a))->Q () Y) (hf:X.fn x=dt\/X.env.scope.names.lookup x=bQ .local:=by first | exact .inl rfl | exact .inr rfl | assumption):wpAny M A (storeName X.env x u) Q E s:=by
 obtain⟨m,L,hl⟩:=id I.loc;have ax:(X.env.scope.kind == .class || (X.env.scope.kind == .module && X.env.locals != X.env.globals))=ed:=by rw[I.ok.kind];rfl
 have ac:i<σ.length:=by rw[I.len];exact(Lh.mp hi).1
 have DC:=I.DC;have ae : ∀{a:eg} {h':fy},(∃o,s.heap.get? a=bQ o/\H a=none)->Ox a s.heap h'->mr X.prog X.w H h':=λ{a h'} ha f b ob e=>by
  obtain⟨_,_,ak⟩:=ha;refine(I.gB b ob e).DK (λc G O q=>(f.2 c ?_).trans q) (λ_ q=>q) λ_ _ q=>q;rintro rfl;rcases O with rfl | O
  ·rw[ak]at e;cases e
  ·rw[ak]at O;cases O
 rcases U with hk | hk
 ·refine wpAny_storeName_local hk L (λh' b5 f=>?_) ax
  obtain⟨oL,_,_,b7,_⟩:=id L;refine h _ ⟨I.ok,I.os,I.bare,⟨λb o e n t U=>?_,λb o e n t U=>?_,I.base.free,λb o e U=>?_,I.base.Dp,I.base.DD,I.base.Dn⟩,⟨_,b5,λj y v' g l K=>?_⟩,λy c e=>?_,I.free,I.A6,λp P=>?_,ae ⟨oL,b7,I.free⟩ f,by simpa using I.len⟩ ⟨_,f,.inl rfl⟩
  ·exact(f.2 b<|Lw<|LA (Ln e) I.ok.above).trans (I.base.keep b o e n t U)
  ·obtain⟨W,g⟩:=I.base.slot b o e n t U
   exact⟨W,(f.2 b<|Lw<|LA (Ln e) I.ok.above).trans g⟩
  ·obtain⟨S,g⟩:=I.base.there b o e U
   exact⟨S,(f.2 b<|Lw<|LA (Ln e) I.ok.above).trans g⟩
  ·by_cases B:j=i
   ·subst B
    rw[hi]at g;cases g;rw[Lr ac]at l;cases l;exact⟨u,r,.inl ⟨hk,by simp⟩⟩
   ·rw[Lb (LC B)]at l
    obtain⟨Z,T,q⟩:=hl j y v' g l K;refine⟨Z,T,?_⟩;rcases q with⟨k,e⟩ | ⟨k,c,e,z⟩
    ·refine .inl ⟨k,?_⟩
     have:y≠x:=λe=>B<|WI hN g<|e ▸ hi;simp[this,e]
    ·exact .inr ⟨k,c,e,z.sameBut f<|DC y c e⟩
  ·obtain⟨G,z⟩:=I.cell y c e
   exact⟨G,z.sameBut f<|DC y c e⟩
  ·obtain⟨e,n,F,R,d⟩:=I.pin p P
   exact⟨(f.2 p.1 F).trans e,n,F,R,d⟩
 ·have J:X.fn x=dt:=by
   rcases hf with z | z
   ·exact z
   ·rw[z]at hk;cases hk
  obtain⟨c,O⟩:=I.ok.has x<|.inl hk;obtain⟨G,z⟩:=I.cell x c O;refine wpAny_storeName_cell I.ok.kind hk O z<|λh' am f=>?_;obtain⟨oc,an,b8⟩:=id z;refine h {s with heap:=h'} ⟨I.ok,I.os,I.bare,⟨λb o e n t U=>?_,λb o e n t U=>?_,I.base.free,λb o e U=>?_,I.base.Dp,I.base.DD,I.base.Dn⟩,⟨m,L.sameBut f<|LC<|DC x c O,λj y v' g l K=>?_⟩,λy C e=>?_,I.free,I.A6,λp P=>?_,ae ⟨oc,an,I.A6 x c O⟩ f,by simpa using I.len⟩ ⟨c,f,.inr O⟩
  ·exact(f.2 b<|Lw<|LA (Ln e)<|I.ok.E7 x c J O).trans (I.base.keep b o e n t U)
  ·obtain⟨W,g⟩:=I.base.slot b o e n t U
   exact⟨W,(f.2 b<|Lw<|LA (Ln e)<|I.ok.E7 x c J O).trans g⟩
  ·obtain⟨S,g⟩:=I.base.there b o e U
   exact⟨S,(f.2 b<|Lw<|LA (Ln e)<|I.ok.E7 x c J O).trans g⟩
  ·by_cases B:j=i
   ·subst B
    rw[hi]at g;cases g;rw[Lr ac]at l;cases l;exact⟨u,r,.inr ⟨.inl hk,c,O,am⟩⟩
   ·rw[Lb (LC B)]at l
    obtain⟨Z,T,q⟩:=hl j y v' g l K;refine⟨Z,T,?_⟩;rcases q with q | ⟨k,C,e,z'⟩
    ·exact .inl q
    ·refine .inr ⟨k,C,e,z'.sameBut f ?_⟩
     rintro rfl;exact B<|WI hN g<|I.ok.inj _ _ _ e O ▸ hi
  ·by_cases ap:C=c
   ·subst ap;exact⟨_,am⟩
   ·obtain⟨w2,z2⟩:=I.cell y C e
    exact⟨w2,z2.sameBut f ap⟩
  ·obtain⟨e,n,F,R,d⟩:=I.pin p P
   refine⟨(f.2 p.1 ?_).trans e,n,F,R,d⟩;intro q;rw[q,an]at e;have q':oc=p.2:=LR e;exact d G (by rw[<- q'];exact b8)
theorem Wf(I:Inv X pins σ H s)(O:X.N.Nodup)(hi:X.N[i]? = bQ x)(U:Loc X.env.scope x)(r:RelV v u)
 (h : ∀C,Inv X pins (σ.set i<|some v) H C->Q () C) (J:X.fn x=dt\/X.env.scope.names.lookup x=bQ .local:=by first | exact .inl rfl | exact .inr rfl | assumption):wpAny M A (storeName X.env x u) Q E s:=
 KY I O hi U r (λC a _=>h C a) J
theorem Inv.TV(I:Inv X pins σ H s)(O:s'.os=s.os)(u:Un (yg X.stack) ch H H' s.heap s'.heap)(C:mr X.prog X.w H' s'.heap)(U:C9 s'.gens)
 (J : ∀b∈ch,(b∈X.ex\/X.m4.heap.objs.size<=b)/\b≠X.env.locals/\(∀x c,X.env.cells.lookup x=bQ c->c≠b)/\∀p∈X.pn++pins,p.1≠b):Inv X pins σ H' s':=by
 obtain⟨h',g',d',t',a⟩:=s';have e:a=s.os:=O;subst e;exact I.call (g':=g') (t':=t') (d':=d') u C U J
end
abbrev XK:=eh->Option eg->Hp->Prop
abbrev St:=List (Option V)
abbrev VK:=V->Hp->Prop
abbrev TE:=St->Hp->VK->Prop
abbrev TT:=St->Hp->(Bool->Hp->Prop)->Prop
abbrev TA:=St->Hp->(List V->Hp->Prop)->Prop
structure Ends where
 nx:St->Hp->Prop
 rt:VK
 bk:St->Hp->Prop:=λ_ _=>False
 ct:St->Hp->Prop:=λ_ _=>False
abbrev TS:=Ends->St->Hp->Prop
noncomputable def EP(X:Cx)(C:RW)(I:St)(Q:VK)(u:eh)(H:eF):Prop:=∃v a,Inv X C I a H/\RelV v u/\Q v a
noncomputable def TP(X:Cx)(C:RW)(I:St)(Q:Bool->Hp->Prop)(b:Bool)(H:eF):Prop:=∃a,Inv X C I a H/\Q b a
noncomputable def AP(X:Cx)(C:RW)(J:St)(Q:List V->Hp->Prop)(I:List eh)(H:eF):Prop:=∃b a,Inv X C J a H/\fm b I/\Q b a
noncomputable def SP(X:Cx)(C:RW)(D:Ends)(f:Flow)(H:eF):Prop:=
 match f with
 | .next=>∃a b,Inv X C a b H/\D.nx a b
 | .brk=>∃a b,Inv X C a b H/\D.bk a b
 | .cont=>∃a b,Inv X C a b H/\D.ct a b
 | .ret u=>∃v a b,Inv X C a b H/\RelV v u/\D.rt v b
noncomputable def PE(X:Cx)(e:eu)(t:TE):Prop:=
 ∀(a:RW) (s:eF) (b:St) (H:Hp) (Q:VK),Inv X a b H s->t b H Q->wpAny (eY X.prog X.w) X.A (eA e X.env) (EP X a b Q) X.xe s
noncomputable def PT(X:Cx)(e:eu)(t:TT):Prop:=
 ∀(a:RW) (s:eF) (b:St) (H:Hp) (Q:Bool->Hp->Prop),Inv X a b H s->t b H Q->wpAny (eY X.prog X.w) X.A (DE e X.env<|eval e X.env) (TP X a b Q) X.xe s
noncomputable def PW(X:Cx)(e:eu)(t:TT):Prop:=
 ∀(I:Sem eh) (a:RW) (s:eF) (b:St) (H:Hp) (Q:Bool->Hp->Prop),Inv X a b H s->t b H Q->wpAny (eY X.prog X.w) X.A (DE e X.env I) (TP X a b Q) X.xe s
theorem PW.pt(h:PW X e t):PT X e t:=h _
noncomputable def PA(X:Cx)(es:List eu)(t:TA):Prop:=
 ∀(pos:g8) (a:RW) (s:eF) (b:St) (H:Hp) (Q:List V->Hp->Prop),Inv X a b H s->t b H Q->wpAny (eY X.prog X.w) X.A (N1<|backTo pos<|starEach es X.env) (AP X a b Q) X.xe s
noncomputable def PS(X:Cx)(st:iS)(t:TS):Prop:=
 ∀(a:RW) (s:eF) (b:St) (H:Hp) (D:Ends),Inv X a b H s->t D b H->wpAny (eY X.prog X.w) X.A (exec st X.env) (SP X a D) X.xe s
noncomputable def n9(X:Cx)(st:List iS)(t:TS):Prop:=
 ∀(a:RW) (s:eF) (b:St) (H:Hp) (D:Ends),Inv X a b H s->t D b H->wpAny (eY X.prog X.w) X.A (execs st X.env) (SP X a D) X.xe s
theorem fk(h:wpAny M A t Q E s)(I : ∀a s,Q a s->Q' a s):wpAny M A t Q' E s:=Oe h I λ_ _ x=>x
section
variable{X:Cx}
def ur(i:Nat):TE:=λa H Q=>∃v,a[i]? = bQ (bQ v)/\Q v H
def tC(v:V):TE:=λ_ H Q=>Q v H
theorem AY(L:X.N[i]? = bQ x)(Y:P5 X.env.scope x)(C:(x==("__debug__" : Str))=ed:=by decide)(J:(x==("__classdict__" : Str))=ed:=by decide):PE X (.Name x pos) (ur i):=by
 intro a s k H Q I h;obtain⟨v,e,h⟩:=h;obtain⟨m,j,f⟩:=I.loc;obtain⟨u,r,l⟩:=f i x v L e Y;have U:EP X a k Q u s:=⟨v,H,I,r,h⟩;rcases l with⟨O,g⟩ | ⟨O,c,d,b⟩
 ·exact Tu (wpAny_loadName_local I.ok.kind O j g U) C
 ·rcases O with O | O
  ·exact Tu (wpAny_loadName_cell I.ok.kind O d b U) C
  ·exact Tu (wpAny_loadName_free I.ok.kind O d b U J) C
theorem Bh:PE X (.Constant (.int i) j pos) (tC<|.int i):=λ_ _ _ H _ I h=>wpAny_Constant_int ⟨.int i,H,I.tok _,⟨_,rfl⟩,h⟩
theorem Fm:PE X (.Constant (.bool b) j pos) (tC<|.bl b):=λ_ _ _ H _ I h=>Constant_bool ⟨.bl b,H,I,rfl,h⟩
theorem Ba:PE X (.Constant (.str x) j pos) (tC<|.str x):=λ_ _ _ H _ I h=>Calls.Constant_str ⟨.str x,H,I.tok _,⟨_,rfl⟩,h⟩
def Gl(X:Cx)(x:Str):Prop:=X.env.kindOf x=bQ .globalImplicit
theorem fj(I:Inv X pins σ H s)(O:Gl X x)(J:X.mg x=bQ u)(h:Q u s)
 (C:(x==("__debug__" : Str))=ed:=by decide):wpAny (eY X.prog X.w) X.A (eA (.Name x pos) X.env) Q E s:=
 Calls.Name_function_global I.ok.kind O (Calls.loadGlobal_global (by rw[I.ok.glob];exact I.mod.glob.keeps I.bk) J h) C
theorem vD(I:Inv X pins σ H s)(O:Gl X x)(J:X.mg x=none)(U:Dz x=bQ u)(h:Q u s)
 (L:x ≠ "__name__":=by decide) (C:(x==("__debug__" : Str))=ed:=by decide):wpAny (eY X.prog X.w) X.A (eA (.Name x pos) X.env) Q E s:=by
 obtain⟨d,a,b⟩:=I.mod.blt;exact Calls.Name_function_global I.ok.kind O (Calls.loadGlobal_builtin (by rw[I.ok.glob];exact I.mod.glob.keeps I.bk) J (by rw[I.ok.blt];exact a.keeps I.bk) ((b x L).trans U) h) C
variable{a b:eu}{ta tb:TE}{pos:g8}
def tB(t:TE):TT:=λb H Q=>t b H λx a=>∃c,x = .bl c/\Q c a
theorem AK(h:PE X e t)(U : ∀O,DE e X.env O=(do let v <- O;D4 e.pos;u7 [v] (G6 v)):=by intro _;rfl):PT X e (tB t):=by intro a s l H Q I i;refine isTrue_plain (fk (h a s l H _ I i) λv m g=>?_)<|U _;obtain⟨x,b,f,k,j⟩:=g;obtain⟨d,rfl,q⟩:=j;cases k;exact MZ ⟨b,f,q⟩
variable{tA N4:TT}{kn:List eu}
noncomputable def HS(t u:TT):TT:=λb H Q=>t b H λc a=>if c=dt then u b a Q else Q ed a
noncomputable def Uw(t u:TT):TT:=λb H Q=>t b H λc a=>if c=dt then Q dt a else u b a Q
def HM(t:TT):TT:=λb H Q=>t b H λc a=>Q (!c) a
theorem rL(C:PT X a tA):PW X (.BoolOp .And [a] pos) tA:=by
 intro O b s d H Q I h;refine isTrue_and<|fk (C b s d H Q I h) λc f e=>?_;cases c with
 | true=>exact isTrue_and_nil e
 | false=>exact e
theorem Av(C:PT X a tA):PW X (.BoolOp .Or [a] pos) tA:=by
 intro O b s d H Q I h;refine isTrue_or<|fk (C b s d H Q I h) λc f e=>?_;cases c with
 | false=>exact isTrue_or_nil e
 | true=>exact e
theorem Aw(C:PT X a tA)(J:PW X (.BoolOp .And (b::kn) pos) N4):PW X (.BoolOp .And (a::b::kn) pos) (HS tA N4):=by
 intro j d s f H Q I h;refine isTrue_and<|fk (C d s f H _ I h) λc i g=>?_;obtain⟨e,O,U⟩:=g;cases c with
 | true=>exact J j d i f e Q O U
 | false=>exact⟨e,O,U⟩
theorem Fg(C:PT X a tA)(J:PW X (.BoolOp .Or (b::kn) pos) N4):PW X (.BoolOp .Or (a::b::kn) pos) (Uw tA N4):=by
 intro j d s f H Q I h;refine isTrue_or<|fk (C d s f H _ I h) λc i g=>?_;obtain⟨e,O,U⟩:=g;cases c with
 | true=>exact⟨e,O,U⟩
 | false=>exact J j d i f e Q O U
theorem AL(ha:PT X a tA):PT X (.UnaryOp .Not a pos) (HM tA):=by intro b s e H Q I h;exact isTrue_not<|ha b s e H (λc d=>Q (!c) d) I h
noncomputable def EO(ta tb:TE):TE:=λb H Q=>ta b H λx a=>∃c,x = .bl c/\if c=dt then tb b a Q else Q (.bl ed) a
noncomputable def EJ(ta:TE):TE:=λb H Q=>ta b H λx a=>∃c,x = .bl c/\Q (.bl<|!c) a
theorem Bc(h:PE X a t):PE X (.BoolOp op [a] pos) t:=λb s e H Q I d=>BoolOp_one<|h b s e H Q I d
theorem Bi(C:PE X a ta)(J:PE X (.BoolOp .And (b::kn) pos) tb):PE X (.BoolOp .And (a::b::kn) pos) (EO ta tb):=by
 intro d s f H Q I h;refine BoolOp_and<|fk (C d s f H _ I h) λv j g=>?_;obtain⟨x,e,U,i,O⟩:=g;obtain⟨c,rfl,O⟩:=O;cases i;refine MZ ?_;cases c with
 | true=>exact J d j f e Q U O
 | false=>exact⟨.bl ed,e,U,rfl,O⟩
theorem Bd(C:PE X a ta):PE X (.UnaryOp .Not a pos) (EJ ta):=by intro b s g H Q I h;refine UnaryOp_<|fk (C b s g H _ I h) λv i U=>?_;obtain⟨x,d,e,f,O⟩:=U;obtain⟨c,rfl,O⟩:=O;cases f;exact not_of<|MZ ⟨.bl<|!c,d,e,rfl,O⟩
noncomputable def Sv(t:TT)(ta tb:TE):TE:=λa H Q=>t a H λc b=>if c=dt then ta a b Q else tb a b Q
theorem lO(L:PT X c tA)(C:PE X a ta)(J:PE X b tb):PE X (.IfExp c a b pos) (Sv tA ta tb):=by
 intro e s f H Q I h;refine wpAny_IfExp<|fk (L e s f H _ I h) λd i j=>?_;obtain⟨g,O,U⟩:=j;cases d with
 | true=>exact C e i f g Q O U
 | false=>exact J e i f g Q O U
end
noncomputable def gm(K:IT)(H:Hp)(a:eg)(xs:List V):Prop:=
 Rd H a (.lst xs)\/
  ∃(o:l7) (b:Array eh) (n:Nat),K.lookup a=bQ o/\o.cls = .type "list"/\o.dict=none/\o.data = .seq b n/\b.size<=gv/\fm xs b.toList
noncomputable def hB(K:IT)(H:Hp)(a:eg)(xs:List V):Prop:=
 Rd H a (.tup xs)\/
  ∃(o:l7) (b:Array eh) (n:Nat),K.lookup a=bQ o/\(o.cls,o.dict)=(Nf "tuple",none)/\o.data = .seq b n/\b.size<=gv/\fm xs b.toList
noncomputable def Iz:eh->Option V
 | .none=>bQ .e7
 | .bool b=>bQ (.bl b)
 | .int i _=>bQ (.int i)
 | .str x _=>bQ (.str x)
 | .bytes b _=>bQ (.E6 b)
 | .float b _=>bQ (.DX b)
 | .ref a=>bQ (.ref a)
 | .type n=>bQ (.ty n)
 | _=>none
theorem RelV.abs(r:RelV x u):Iz u=bQ x:=by
 cases x with
 | e7=>cases r;rfl
 | bl _=>cases r;rfl
 | int _=>obtain⟨t,rfl⟩:=r;rfl
 | str _=>obtain⟨t,rfl⟩:=r;rfl
 | E6 _=>obtain⟨t,rfl⟩:=r;rfl
 | DX _=>obtain⟨t,rfl⟩:=r;rfl
 | ref _=>cases r;rfl
 | ty _=>cases r;rfl
theorem RelV.inj(r:RelV x u)(q:RelV y u):x=y:=LR<|r.abs.symm.trans q.abs
theorem fm.inj : ∀{xs ys:List V} {C:List eh},fm xs C->fm ys C->xs=ys
 | _,_,_,.nil,.nil=>rfl
 | _,_,_,.cons r t,.cons r' t'=>by rw[r.inj r',fm.inj t t']
section
variable{X:Cx}{pins:RW}{σ:St}{H:Hp}{s:eF}{a:eg}{xs ys:List V}
theorem gm.of{K:IT}(h:H a=bQ (.lst xs)):gm K H a xs:= .inl (.inl h)
theorem hB.of{K:IT}(h:H a=bQ (.tup xs)):hB K H a xs:= .inl (.inl h)
theorem Inv.list(I:Inv X pins σ H s)(h:gm X.K H a xs) : ∃its:List eh,fm xs its/\PlainL s.heap a its.toArray/\xs.length<=gv:=by
 rcases h with h | ⟨o,its,n,O,U,hd,hs,hz,r⟩
 ·obtain⟨z,its,n,r,e⟩:=h.ok I.gB
  exact⟨its,r,⟨_,n,e,rfl,rfl,rfl⟩,z⟩
 ·refine⟨its.toList,r,⟨o,n,I.mu a o O,U,hd,by simpa using hs⟩,?_⟩
  have e:=r.length;simp only[Nj]at e;omega
theorem Inv.tuple(I:Inv X pins σ H s)(h:hB X.K H a xs) : ∃its:List eh,fm xs its/\D9 s.heap a its.toArray/\xs.length<=gv:=by
 rcases h with h | ⟨o,its,n,O,U,hs,hz,r⟩
 ·obtain⟨z,its,r,p⟩:=h.ok I.gB
  exact⟨its,r,p.tup,z⟩
 ·refine⟨its.toList,r,⟨o,I.mu a o O,(Prod.mk.inj U).1,n,by simpa using hs⟩,?_⟩
  have e:=r.length;simp only[Nj]at e;omega
theorem Inv.S7(I:Inv X pins σ H s)(h:gm X.K H a xs)(h':gm X.K H a ys):xs=ys:=by
 obtain⟨f,r,⟨o,n,e,_,_,d⟩,_⟩:=I.list h;obtain⟨b,i,⟨k,j,O,_,_,g⟩,_⟩:=I.list h';rw[e]at O;cases O;rw[d]at g;injection g with U _;have:f=b:=by simpa using congrArg Array.toList U
 subst this;exact r.inj i
theorem Inv.Tr(I:Inv X pins σ H s)(h:hB X.K H a xs)(h':hB X.K H a ys):xs=ys:=by
 obtain⟨f,r,⟨o,e,_,n,d⟩,_⟩:=I.tuple h;obtain⟨b,i,⟨k,O,_,j,g⟩,_⟩:=I.tuple h';rw[e]at O;cases O;rw[d]at g;injection g with U _;have:f=b:=by simpa using congrArg Array.toList U
 subst this;exact r.inj i
end
abbrev Cx.A9(X:Cx)(E:RQ):Cx:={X with xe:=E}
abbrev Cx.F7(X:Cx):Cx:=X.A9 λ_ _=>False
theorem Cx.Ok.A9{X:Cx}(ok:X.Ok)(E:RQ):(X.A9 E).Ok:=
 ⟨ok.mod,ok.kind,ok.glob,ok.blt,ok.above,ok.inj,ok.has,ok.E7,ok.hd,ok.frames,ok.N2,ok.L7,ok.bs,ok.Dh,ok.F6,ok.E9,ok.y6,ok.DZ⟩
theorem Cx.Ok.Dq{X:Cx}{E:RQ}(ok:(X.A9 E).Ok):X.Ok:=
 ⟨ok.mod,ok.kind,ok.glob,ok.blt,ok.above,ok.inj,ok.has,ok.E7,ok.hd,ok.frames,ok.N2,ok.L7,ok.bs,ok.Dh,ok.F6,ok.E9,ok.y6,ok.DZ⟩
section
variable{X:Cx}{pins:RW}{σ:St}{H:Hp}{s:eF}{E:RQ}
theorem Inv.A9(I:Inv X pins σ H s)(E:RQ):Inv (X.A9 E) pins σ H s:=⟨I.ok.A9 E,I.os,I.bare,I.base,I.loc,I.cell,I.free,I.A6,I.pin,I.gB,I.len⟩
theorem Inv.Dq(I:Inv (X.A9 E) pins σ H s):Inv X pins σ H s:=⟨I.ok.Dq,I.os,I.bare,I.base,I.loc,I.cell,I.free,I.A6,I.pin,I.gB,I.len⟩
theorem SP.Dq(h:SP (X.A9 E) pins D f s'):SP X pins D f s':=by
 cases f with
 | next=>obtain⟨a,b,I,q⟩:=h;exact⟨a,b,I.Dq,q⟩
 | brk=>obtain⟨a,b,I,q⟩:=h;exact⟨a,b,I.Dq,q⟩
 | cont=>obtain⟨a,b,I,q⟩:=h;exact⟨a,b,I.Dq,q⟩
 | ret u=>obtain⟨v,a,b,I,r,q⟩:=h;exact⟨v,a,b,I.Dq,r,q⟩
theorem n9.F7{st:List iS}{t:TS}(h:n9 X.F7 st t):n9 X st t:=λpins s σ H D I a=>
 Oe (h pins s σ H D (I.A9 _) a) (λ_ _ q=>q.Dq) λ_ _ z=>NU z
end
section
variable{X:Cx}{st:iS}{kn:List iS}{t u:TS}{e:eu}{te:TE}{pos:g8}
def EL:TS:=λD a H=>D.nx a H
def HK(t u:TS):TS:=λD a H=>t {D with nx:=u D} a H
theorem dw:n9 X [] EL:=λ_ _ a H _ I h=>Tv ⟨a,H,I,h⟩
theorem vi(C:PS X st t)(J:n9 X kn u):n9 X (st::kn) (HK t u):=by
 intro a s g H D I h;refine wpAny_execs_cons<|fk (C a s g H {D with nx:=u D} I h) λf e q=>?_;cases f with
 | next=>
  obtain⟨b,d,O,q⟩:=q;exact J a e b d D O q
 | ret v=>exact q
 | brk=>exact q
 | cont=>exact q
theorem JE(C:PS X st t):n9 X [st] t:=by
 intro a s b H D I h;refine wpAny_execs_cons<|fk (C a s b H D I h) λf d q=>?_;cases f with
 | next=>exact Tv q
 | ret v=>exact q
 | brk=>exact q
 | cont=>exact q
def EN:TS:=λD a H=>D.ct a H
theorem Vk:PS X (.Continue pos) EN:=λ_ _ a H _ I h=>wpAny_Continue ⟨a,H,I,h⟩
theorem Inv.quiet(I:Inv X pins σ H s):interactive X.env=ed:=by simp[interactive,I.ok.kind]
def EM(te:TE):TS:=λD a H=>te a H λ_ b=>D.nx a b
theorem JF(O:PE X e te)(hs:vu e none pos.line X.env=pure ed:=by rfl):PS X (.Expr e pos) (EM te):=by intro a s b H D I h;exact wpAny_Expr_any (fk (O a s b H _ I h) λv i ⟨x,d,U,g,f⟩=>⟨b,d,U,f⟩) I.quiet hs
def HL(te:TE):TS:=λD a H=>te a H D.rt
theorem Yi(O:PE X e te):PS X (.Return (bQ e) pos) (HL te):=by intro a s b H D I h;exact wpAny_Return_some<|fk (O a s b H _ I h) λv i ⟨x,d,U,g,f⟩=>⟨x,b,d,U,g,f⟩
noncomputable def HP(c:TT)(t u:TS):TS:=λD a H=>c a H λb d=>if b=dt then t D a d else u D a d
theorem AO(L:PT X c tc)(C:n9 X a t)(J:n9 X b u):PS X (.If c a b pos) (HP tc t u):=by
 intro e s f H D I h;refine wpAny_If<|fk (L e s f H _ I h) λd i j=>?_;obtain⟨g,O,U⟩:=j;cases d with
 | true=>exact C e i f g D O U
 | false=>exact J e i f g D O U
def uQ:TS:=λ_ _ _=>False
theorem lB:PS X st uQ:=λ_ _ _ _ _ _ h=>h.elim
end
abbrev TG:=V->St->Hp->(St->Hp->Prop)->Prop
abbrev DP:=List V->St->Hp->(St->Hp->Prop)->Prop
noncomputable def PG(X:Cx)(I:eu)(t:TG):Prop:=
 ∀(a:RW) (s:eF) (e:St) (H:Hp) (v:V) (u:eh) (Q:St->Hp->Prop),Inv X a e H s->RelV v u->t v e H Q->
  wpAny (eY X.prog X.w) X.A (t9 I X.env u) (λ_ f=>∃b d,Inv X a b d f/\Q b d) X.xe s
noncomputable def E2(X:Cx)(I:List eu)(t:DP):Prop:=
 ∀(a:RW) (s:eF) (g:St) (H:Hp) (f:List V) (e:List eh) (Q:St->Hp->Prop),Inv X a g H s->fm f e->t f g H Q->
  wpAny (eY X.prog X.w) X.A (assignInOrder ((A5 I X.env).map (·.2)) e) (λ_ h=>∃b d,Inv X a b d h/\Q b d) X.xe s
abbrev HC:=V->V->V->Hp->(Hp->Prop)->Prop
noncomputable def HD(X:Cx)(t:HC):Prop:=
 ∀(a:RW) (s:eF) (d:St) (H:Hp) (o i v:V) (I O u:eh) (Q:Hp->Prop),Inv X a d H s->RelV o I->RelV i O->RelV v u->t o i v H Q->
  wpAny (eY X.prog X.w) X.A (So I O u) (λ_ e=>∃b,Inv X a d b e/\Q b) X.xe s
section
variable{X:Cx}{pos:g8}
def yP(i:Nat):TG:=λv a H Q=>Q (a.set i<|some v) H
theorem dN(O:X.N.Nodup)(hi:X.N[i]? = bQ x)(U:Loc X.env.scope x)(C:X.fn x=dt\/X.env.scope.names.lookup x=bQ .local:=by first | exact .inl rfl | exact .inr rfl | assumption):PG X (.Name x pos) (yP i):=by intro a s e H v u Q I r h;exact UB<|Wf I O hi U r (λd b=>⟨_,H,b,h⟩) C
def Hf:DP:=λa b H Q=>a=[]/\Q b H
noncomputable def BY(t:TG)(u:DP):DP:=λd e H Q=>∃v r,d=v::r/\t v e H λa b=>u r a b Q
theorem dM:E2 X [] Hf:=by intro a s b H f d Q I r h;obtain⟨e,h⟩:=h;subst e;cases r;exact assignInOrder_nil ⟨b,H,I,h⟩
theorem wm(C:PG X e t)(J:E2 X es u)
 (hs:(A5 (e::es) X.env).map (·.2)=t9 e X.env::(A5 es X.env).map (·.2):=by rfl):E2 X (e::es) (BY t u):=by
 intro a s k H n l Q I r h;obtain⟨v,m,g,h⟩:=h;subst g;cases r with
 | cons r O=>
  rw[hs];refine assignInOrder_cons<|fk (C a s k H _ _ _ I r h) λ_ j U=>?_;obtain⟨b,d,f,i⟩:=U;exact J a j b d _ _ Q f O i
noncomputable def He(K:IT)(n:Nat)(t:DP):TG:=λv d H Q=>∃a b,v = .ref a/\hB K H a b/\b.length=n/\t b d H Q
theorem AX(U:X.calm=dt)(h:E2 X es t)
 (J:(A5 es X.env).length=n:=by rfl) (C:(A5 es X.env).findIdx? (·.1)=none:=by rfl):PG X (.Tuple es k pos) (He X.K n t):=by
 intro d s g H v u Q I r f;obtain⟨a,z,j,p,m,f⟩:=f;subst j;cases r;obtain⟨y,O,w,A⟩:=I.tuple p;refine assign_Tuple_tuple (I.ok.hd U) w (by simp[J,<- m,O.length]) C λl x=>?_;have i:Inv X d g H {s with heap:=l}:=I.kept (t':=s.toks) λb o e=>x b o (Lw<|Ln e) e;exact h d _ g H z _ Q i (by simpa using O) f
noncomputable def Ir(to I:TE)(t:HC):TG:=λv a H Q=>to a H λo b=>I a b λi d=>t o i v d λO=>Q a O
theorem om(J:PE X o to)(hi:PE X i ti)(hs:HD X t)
 (C : ∀v,t9 (.Subscript o i pos) X.env v=(do
   let O <- u7 [v] (eA o X.env);let U <- u7 [v,O] (eA i X.env)
   D4 pos
   u7 [v,O,U] (So O U v)
   release [v,O,U] []):=by intro _;rfl):PG X (.Subscript o i pos) (Ir to ti t):=by
 intro a s d H v u Q I r h;rw[C];refine IU<|Nq<|fk (J a s d H _ I h) λO A b=>?_;obtain⟨x,e,j,w,m⟩:=b;refine IU<|Nq<|fk (hi a A d e _ j m) λU B b=>?_;obtain⟨y,f,k,z,n⟩:=b;refine IU<|wpAny_standAt<|IU<|Nq<|fk (hs a B d f x y v O U u _ k w z r n) λ_ E b=>?_;obtain⟨g,l,p⟩:=b;exact wpAny_release ⟨d,g,l,p⟩
def Wd(te:TE)(g:TG):TS:=λD a H=>te a H λx b=>g x a b D.nx
theorem Wy(O:PE X e te)(U:PG X tg g)(hs:N3 [tg] e pos.line X.env=pure ed:=by rfl)(J:Sr [tg] e X.env=pure none:=by rfl)
 (C:(A5 [tg] X.env).map (·.2)=[t9 tg X.env]:=by rfl):PS X (.Assign [tg] e pos) (Wd te g):=by
 intro a s b H D I h;refine wpAny_Assign_stores (fk (O a s b H _ I h) λv l i=>?_) hs J;obtain⟨x,d,f,k,j⟩:=i;rw[C];exact fk (U a l b d x v _ f k j) λ_ m q=>q
theorem AN(O:X.N.Nodup)(hi:X.N[i]? = bQ x)(U:Loc X.env.scope x)(C:PE X e te)(hs:vu e (bQ (.Name x pos')) pos.line X.env=pure ed:=by rfl)(J:X.fn x=dt\/X.env.scope.names.lookup x=bQ .local:=by first | exact .inl rfl | exact .inr rfl | assumption) :
 PS X (.Assign [.Name x pos'] e pos) (Wd te<|yP i):=by
 intro a s l H D I h;refine wpAny_Assign_Name (fk (C a s l H _ I h) λv m g=>?_) hs;obtain⟨y,b,d,k,j⟩:=g;exact Wf d O hi U k (λn f=>⟨_,b,f,j⟩) J
end
structure It where
 go:Nat->Hp->Prop
 Be:Nat->Hp->V->Hp->Prop
 stop:Nat->Hp->Prop
noncomputable def Ks(X:Cx)(C:RW)(H:Hp)(b:eg):Prop:=
 H b=none/\b≠X.env.locals/\b∉X.fs/\(b∈X.ex\/X.m4.heap.objs.size<=b)/\(∀x c,X.env.cells.lookup x=bQ c->c≠b)/\∀p∈X.pn++C,p.1≠b
theorem Inv.DY(I:Inv X pins σ H s)(O:s.heap.objs.size<=b)(C:H' b=none):Ks X pins H' b:=by
 refine⟨C,NX<|LA I.lt O,I.Ui O,.inr<|Mj I.sz O,λx c e z=>?_,λp U z=>?_⟩
 ·obtain⟨v,q⟩:=I.cell x c e
  exact absurd (LA q.lt<|by rw[z];exact O)<|Mi _
 ·exact absurd (LA (Ln (I.pin p U).1)<|by rw[z];exact O)<|Mi _
structure Turn(P:i3)(w:h8)(K:IT)(tg:eu)(J:It)(fp:List eg)(it:eg)(tn:Nat->fy->Prop):Prop where
 mem:it∈fp
 obj : ∀i h,tn i h->∀b∈fp,∃o,h.get? b=bQ o/\∀v,o.data ≠ .cell v
 keep : ∀i h h',tn i h->(∀b∈fp,∀o,h.get? b=bQ o->h'.get? b=bQ o)->tn i h'
 item : ∀(X:Cx),X.prog=P->X.w=w->X.K=K->X.calm=dt->∀(i:Nat) (pins:RW) (s:eF) (σ:St) (H:Hp) (E:RQ),Inv X pins σ H s->(∀b∈fp,Ks X pins H b)->tn i s.heap->J.go i H->
  wpAny (eY P w) X.A (A7<|.ref it) (λr s1=>∃u,r=bQ u/\
   wpAny (eY P w) X.A (M3 tg (.ref it) u) (λ_ s2=>∃x H',Inv X pins σ H' s2/\RelV x u/\J.Be i H x H'/\tn (i+1) s2.heap/\∀b∈fp,H' b=none) E s1) E s
 done : ∀(X:Cx),X.prog=P->X.w=w->X.K=K->X.calm=dt->∀(i:Nat) (pins:RW) (s:eF) (σ:St) (H:Hp) (E:RQ),Inv X pins σ H s->(∀b∈fp,Ks X pins H b)->tn i s.heap->J.stop i H->
  wpAny (eY P w) X.A (A7<|.ref it) (λr s1=>r=none/\Inv X pins σ H s1) E s
 self : ∀(A:nh) (i:Nat) (s:eF) (Q:RQ) (E:RQ),tn i s.heap->Q (.ref it) s->wpAny (eY P w) A (M9<|.ref it) Q E s
abbrev TI:=St->Hp->(It->Hp->Prop)->Prop
noncomputable def SI(X:Cx)(C:RW)(O:St)(L:eu)(R:It->Hp->Prop)(I:eh)(H:eF):Prop:=
 ∃(e:eg) (d:List eg) (f:Nat->fy->Prop) (J:It) (a:Hp),I = .ref e/\Inv X C O a H/\Turn X.prog X.w X.K L J d e f/\f 0 H.heap/\(∀b∈d,Ks X C a b)/\R J a
noncomputable def PI(X:Cx)(I C:eu)(J:TI):Prop:=
 ∀(a:RW) (s:eF) (b:St) (H:Hp) (R:It->Hp->Prop),Inv X a b H s->J b H R->
  wpAny (eY X.prog X.w) X.A (eA C X.env) (λv d=>wpAny (eY X.prog X.w) X.A (M9 v) (SI X a b I R) X.xe d) X.xe s
theorem sZ(O:s.heap.get? it=bQ o)(U:o.cls = .type n)(C:o.data = .fields vs)
 (H:["enumerate","zip","dict_itemiterator","dict_reverseitemiterator","odict_iterator","itertools.zip_longest","itertools.pairwise"].contains n=ed) (I:Q () s):wpAny M A (M3 tg (.ref it) u) Q E s:=by
 unfold M3;cases tg<;>first
  | exact Lf I
  | (cases u<;>first
      | exact Lf I
      | (refine IU (wpAny_load O ?_)
         rw[U,C];show wpAny M A (if (["enumerate","zip","dict_itemiterator","dict_reverseitemiterator","odict_iterator","itertools.zip_longest","itertools.pairwise"].contains n && vs[0]? == bQ (D3 _))=dt then _ else _) Q E s;rw[EQ (by intro h;rw[H,Bool.false_and]at h;cases h)];exact Lf I))
noncomputable def O7(K:IT)(a:eg):It:=
 ⟨λi H=>∃b x,gm K H a b/\b[i]? = bQ x,λi H x d=>d=H/\∀b,gm K H a b->b[i]? = bQ x,λi H=>∃b,gm K H a b/\b.length<=i⟩
noncomputable def SH(K:IT)(a:eg):It:=
 ⟨λi H=>∃b x,hB K H a b/\b[i]? = bQ x,λi H x d=>d=H/\∀b,hB K H a b->b[i]? = bQ x,λi H=>∃b,hB K H a b/\b.length<=i⟩
noncomputable def Dc(lo:Int)(n:Nat):It:=⟨λi _=>i<n,λi H x a=>a=H/\x = .int (lo+i),λi _=>n<=i⟩
theorem KI{P:i3}{w:h8}{K:IT}{tg:eu}(a it:eg):Turn P w K tg (O7 K a) [it] it (λi h=>h.IsListIter it a i) where
 mem:=by simp
 obj:=λi h st b O=>by
  have e:b=it:=by simpa using O
  subst e;obtain⟨o,e,c,d⟩:=st;exact⟨o,e,λv z=>by rw[d]at z;cases z⟩
 keep:=λi h h' st k=>st.at λo e=>k it ⋯ o e
 item:=by intro X hP hw hK hc i pins s σ H E I U st hg;subst hP hw hK;obtain⟨xs,x,hq,hx⟩:=hg;obtain⟨its,rv,p,hz⟩:=I.list hq;obtain⟨u,hu,ru⟩:=rv.get hx;obtain⟨f0,f1,f2,f3,f4,f5⟩:=U it ⋯;refine wpAny_pyNext_list_item st p.isList (x:=u) (by simpa using hu) λh' ac sb=>?_;have I1:Inv X pins σ H {s with heap:=h'}:=I.turned (t':=s.toks) (λb o O e=>(sb.2 b O).trans e) f0 f1 f3 f4 f5;obtain⟨o,e,c,d⟩:=id ac;exact⟨u,rfl,sZ (s:={s with heap:=h'}) e c d ⋯ ⟨x,H,I1,ru,⟨rfl,λys hy=>by rw[I.S7 hy hq];exact hx⟩,ac,λb O=>(U b O).1⟩⟩
 done:=by intro X hP hw hK hc i pins s σ H E I U st hg;subst hP hw hK;obtain⟨xs,hq,hx⟩:=hg;obtain⟨its,rv,p,hz⟩:=I.list hq;obtain⟨f0,f1,f2,f3,f4,f5⟩:=U it ⋯;have hl:=rv.length;exact wpAny_pyNext_list_end (I.ok.hd hc) st p.isList (by simp;omega) λh' eb=>⟨rfl,I.turned (t':=s.toks) (λb o O e=>eb b o O e) f0 f1 f3 f4 f5⟩
 self:=λ_ _ _ _ _ st h=>wpAny_pyIter_listiter st h
theorem az{P:i3}{w:h8}{K:IT}{tg:eu}(a it:eg):Turn P w K tg (SH K a) [it] it (λi h=>h.IsTupleIter it a i) where
 mem:=by simp
 obj:=λi h st b O=>by
  have e:b=it:=by simpa using O
  subst e;obtain⟨o,e,c,d⟩:=st;exact⟨o,e,λv z=>by rw[d]at z;cases z⟩
 keep:=λi h h' st k=>st.at λo e=>k it ⋯ o e
 item:=by intro X hP hw hK hc i pins s σ H E I U st hg;subst hP hw hK;obtain⟨xs,x,hq,hx⟩:=hg;obtain⟨its,rv,p,hz⟩:=I.tuple hq;obtain⟨u,hu,ru⟩:=rv.get hx;obtain⟨f0,f1,f2,f3,f4,f5⟩:=U it ⋯;refine wpAny_pyNext_tuple_item st (show s.heap.IsTuple a its.toArray from p) (x:=u) (by simpa using hu) λh' ac sb=>?_;have I1:Inv X pins σ H {s with heap:=h'}:=I.turned (t':=s.toks) (λb o O e=>(sb.2 b O).trans e) f0 f1 f3 f4 f5;obtain⟨o,e,c,d⟩:=id ac;exact⟨u,rfl,sZ (s:={s with heap:=h'}) e c d ⋯ ⟨x,H,I1,ru,⟨rfl,λys hy=>by rw[I.Tr hy hq];exact hx⟩,ac,λb O=>(U b O).1⟩⟩
 done:=by intro X hP hw hK hc i pins s σ H E I U st hg;subst hP hw hK;obtain⟨xs,hq,hx⟩:=hg;obtain⟨its,rv,p,hz⟩:=I.tuple hq;obtain⟨f0,f1,f2,f3,f4,f5⟩:=U it ⋯;have hl:=rv.length;exact wpAny_pyNext_tuple_end (I.ok.hd hc) st (show s.heap.IsTuple a its.toArray from p) (by simp;omega) λh' eb=>⟨rfl,I.turned (t':=s.toks) (λb o O e=>eb b o O e) f0 f1 f3 f4 f5⟩
 self:=λ_ _ _ _ _ st h=>wpAny_pyIter_tupleiter st h
theorem aA{P:i3}{w:h8}{K:IT}{tg:eu}(it:eg)(lo:Int)(n:Nat):Turn P w K tg (Dc lo n) [it] it (λi h=>IsRangeIter h it (lo+(i:Nat)*1) ((n:Int) - (i:Nat)) 1) where
 mem:=by simp
 obj:=λi h st b O=>by
  have e:b=it:=by simpa using O
  subst e;exact⟨_,st,λv z=>by have z':Data.fields _=Data.cell v:=z;cases z'⟩
 keep:=λi h h' st k=>k it ⋯ _ st
 item:=by intro X hP hw hK hc i pins s σ H E I U st hg;subst hP hw hK;obtain⟨f0,f1,f2,f3,f4,f5⟩:=U it ⋯;have W:=Walks.range (prog:=X.prog) (w:=X.w) (I.ok.hd hc) it lo 1 n;refine W.item i s _ _ hg st λv h' tk hv aa kk=>?_;obtain⟨t,rfl⟩:=hv;have I1:Inv X pins σ H {s with heap:=h',toks:=tk}:=I.turned (λb o O e=>kk b o (by simpa using O) e) f0 f1 f3 f4 f5;refine⟨_,rfl,sZ (s:={s with heap:=h',toks:=tk}) (n:="range_iterator") aa rfl rfl ⋯ ⟨.int (lo+i),H,I1,⟨t,?_⟩,⟨rfl,rfl⟩,aa,λb O=>(U b O).1⟩⟩;rw[NF]
 done:=by intro X hP hw hK hc i pins s σ H E I U st hg;subst hP hw hK;obtain⟨f0,f1,f2,f3,f4,f5⟩:=U it ⋯;exact wpAny_pyNext_range_end (I.ok.hd hc) st (by have:n<=i:=hg;omega) λh' eb=>⟨rfl,I.turned (t':=s.toks) (λb o O e=>eb b o O e) f0 f1 f3 f4 f5⟩
 self:=λ_ _ _ _ _ st h=>wpAny_pyIter_rangeiter st h
section
variable{X:Cx}{tg:eu}
noncomputable def FJ(K:IT)(C:TE):TI:=λe H R=>C e H λx b=>∃a,x = .ref a/\(∃d,gm K b a d)/\R (O7 K a) b
theorem se{l:eu}{C:TE}(U:PE X l C):PI X tg l (FJ X.K C):=by
 intro d s t H R I h;refine fk (U d s t H _ I h) λv f i=>?_;obtain⟨x,g,O,r,n⟩:=i;obtain⟨a,e,⟨y,k⟩,q⟩:=n;subst e;cases r;obtain⟨m,w,p,u⟩:=O.list k;refine Rx p.isList ?_;refine⟨f.heap.objs.size,[f.heap.objs.size],_,_,g,rfl,O.kept (t':=f.toks) λb o e=>IW _ e,KI a _,⟨_,Lv _ rfl,rfl,rfl⟩,λb j=>?_,q⟩;have e:b=f.heap.objs.size:=by simpa using j
 subst e;exact O.DY (Le _)<|O.gB.fresh<|Le _
theorem Wq{C:RW}{J:St}{H:Hp}{s:eF}{R:It->Hp->Prop}{E:RQ}{lo hi:Int}{t u v:Tok}{O:Nat}(I:Inv X C J H s)(L : -(2 ^ 62)<=lo)(Y:lo<2 ^ 62)(Z : -(2 ^ 62)<=hi)(h4:hi<2 ^ 62)
 (q:R (Dc lo (hi - lo).toNat) H):wpAny (eY X.prog X.w) X.A (M9 (.ref s.heap.objs.size)) (SI X C J tg R) E {s with heap:=s.heap.push {cls:= .type "range",data:= .fields #[.int lo t,.int hi u,.int 1 v]},toks:=O}:=by
 refine wpAny_pyIter_range (IsRange.new ..) (small_one L Y Z h4) ?_;have U:Inv X C J H {s with heap:=s.heap.push {cls:= .type "range",data:= .fields #[.int lo t,.int hi u,.int 1 v]},toks:=O}:=I.kept λb o e=>IW _ e;refine⟨(s.heap.push {cls:= .type "range",data:= .fields #[.int lo t,.int hi u,.int 1 v]}).objs.size,[(s.heap.push {cls:= .type "range",data:= .fields #[.int lo t,.int hi u,.int 1 v]}).objs.size],_,_,H,rfl,
  U.kept (t':=O) λb o e=>IW _ e,aA _ lo (hi - lo).toNat,?_,λb f=>?_,q⟩
 ·have a:lo+((0:Nat):Int)*1=lo:=by simp
  have d:(((hi - lo).toNat:Nat):Int) - ((0:Nat):Int)=Builtin.Range.rangeSize lo hi 1:=by rw[rangeSize_one];split<;>omega
  show IsRangeIter _ _ (lo+((0:Nat):Int)*1) ((((hi - lo).toNat:Nat):Int) - ((0:Nat):Int)) 1;rw[a,d];exact Lv _ rfl
 ·have e:b=(s.heap.push {cls:= .type "range",data:= .fields #[.int lo t,.int hi u,.int 1 v]}).objs.size:=by simpa using f
  subst e;exact U.DY (Le _)<|U.gB.fresh<|Le _
noncomputable def FI(C:TA):TI:=λd H R=>C d H λb a=>∃j:Int,b=[.int j]/\ -(2 ^ 62)<=j/\j<2 ^ 62/\R (Dc 0 j.toNat) a
noncomputable def FH(C:TA):TI:=λd H R=>C d H λb a=>∃i j:Int,b=[.int i,.int j]/\(-(2 ^ 62)<=i/\i<2 ^ 62/\ -(2 ^ 62)<=j/\j<2 ^ 62)/\R (Dc i (j - i).toNat) a
theorem dJ{a:eu}{C:TA}{p pos:g8}(U:Gl X "range")(L:X.mg "range" = none)(J:PA X [a] C)(hs:f6 [a] X.env=[(ed,eA a X.env)]:=by rfl):PI X tg (.Call (.Name "range" p) [a] [] pos) (FI C):=by
 intro b s l H R I h;refine H9<|vD I U L boot_range<|MB (fk (J pos b s l H _ I h) λo n f=>?_) hs rfl;obtain⟨u,m,d,i,O⟩:=f;obtain⟨j,e,O,g,q⟩:=O;subst e;cases i with
 | cons r k=>
  cases k;obtain⟨t,rfl⟩:=r;exact call_range_1 (Wq d ⋯ ⋯ O g<|by simpa using q)
theorem dH(L:Gl X "range")(Y:X.mg "range" = none)(J:PA X [a,b] ta)(hs:f6 [a,b] X.env=[(ed,eA a X.env),(ed,eA b X.env)]:=by rfl)(C:f6 [b] X.env=[(ed,eA b X.env)]:=by rfl) :
 PI X tg (.Call (.Name "range" p) [a,b] [] pos) (FH ta):=by
 intro d s u H R I h;refine H9 (vD I L Y boot_range<|MB (fk (J pos d s u H _ I h) λz x g=>?_) (by rw[hs,C])<|by rw[C];rfl);obtain⟨A,w,f,o,O⟩:=g;obtain⟨i,j,e,⟨O,k,l,m⟩,q⟩:=O;subst e;cases o with
 | cons r U=>
  cases U with
  | cons n U=>
   cases U;obtain⟨t,rfl⟩:=r;obtain⟨y,rfl⟩:=n;exact call_range_2<|Wq f O k l m q
noncomputable def HQ(L:TI)(g:TG)(C:TS):TS:=λD a H=>L a H λJ f=>∃W:Nat->Nat->St->Hp->Prop,(∃m,W 0 m a f)/\∀i m a H,W i m a H->
 (J.stop i H/\D.nx a H)\/(J.go i H/\∃N:St->Hp->Prop,(∀d b,N d b->∃e,e<m/\W (i+1) e d b)/\∀x b,J.Be i H x b->g x a b λI h=>C {D with nx:=N,ct:=N,bk:=D.nx} I h)
noncomputable def Yj(fp:List eg)(h:fy):List (eg×l7):=fp.filterMap λb=>(h.get? b).map λo=>(b,o)
theorem vm(I:b∈fp)(e:h.get? b=bQ o):(b,o)∈Yj fp h:=List.mem_filterMap.mpr ⟨b,I,by rw[e];rfl⟩
theorem eG(I:p∈Yj fp h):p.1∈fp/\h.get? p.1=bQ p.2:=by
 obtain⟨b,O,e⟩:=List.mem_filterMap.mp I;cases q:h.get? b with
 | none=>rw[q]at e;cases e
 | some o=>
  rw[q]at e;have U:(b,o)=p:=LR e;subst U;exact⟨O,q⟩
theorem Inv.pinned(I:Inv X pins σ H s)(C : ∀b∈fp,Ks X pins H b)(J : ∀b∈fp,∃o,s.heap.get? b=bQ o/\∀v,o.data ≠ .cell v):Inv X (pins++Yj fp s.heap) σ H s:=
 I.Tc λp f=>(Ob.mp f).elim (λz=>I.pin p<|Mw _ z) λz=>by obtain⟨O,e⟩:=eG z;obtain⟨a,f1,f2,_⟩:=C p.1 O;obtain⟨o,U,d⟩:=J p.1 O;rw[e]at U;cases U;exact⟨e,a,f1,f2,d⟩
theorem Inv.G7(I:Inv X (pins++pl) σ H s):Inv X pins σ H s:=I.Tc λp O=>I.pin p<|Mw _<|PD _ O
theorem dA(C:L4 (eY X.prog X.w) X.A X.env X.xe)(hc:X.calm=dt)(hi:PI X tg iter wi)(hg:PG X tg g)(O:n9 X body tb)
 (hs : ∀x,n6 iter X.env x=pure x:=by intro _;rfl):PS X (.For tg iter body [] pos) (HQ wi g tb):=by
 intro a s σ H D I h;refine wpAny_For (fk (hi a s σ H _ I h) λv s1 h1=>fk h1 λc3 s2 h2=>?_) hs;obtain⟨it,B,tn,J,H2,e,I2,T,b5,f2,W,⟨m0,w0⟩,b8⟩:=h2;subst e;have L : ∀{t:Hp},(∀b∈B,t b=none)->∀b∈B,Ks X a t b:=λhn b O=>⟨hn b O,(f2 b O).2⟩;refine codeAny_forLoop_any (λn s'=>∃i l t,Inv X a l t s'/\tn i s'.heap/\(∀b∈B,t b=none)/\W i n l t) ?_ m0 ⟨0,σ,H2,I2,b5,λb O=>(f2 b O).1,w0⟩;rintro n s3 ⟨i,p,K,Y,F,Z,w3⟩;rcases b8 i n p K w3 with⟨G,qn⟩ | ⟨go,N,hN,step⟩
 ·refine OZ C (fk (T.done X rfl rfl rfl hc i a s3 p K X.xe Y (L Z) F G) λr s4 z=>?_)
  obtain⟨P,I4⟩:=z;subst P;exact Tv ⟨p,K,I4,qn⟩
 ·refine OZ C (fk (T.item X rfl rfl rfl hc i a s3 p K X.xe Y (L Z) F go) λr s4 z=>?_)
  obtain⟨u,P,h4⟩:=z;subst P;refine OZ C<|fk h4 λ_ s5 z=>?_;obtain⟨x,S,I5,r5,y5,M,bn⟩:=z;have br:=I5.pinned (L bn)<|T.obj _ _ M;refine OZ C<|fk (hg _ s5 p S x u _ br r5<|step x S y5) λ_ s6 z=>?_;obtain⟨R,H6,I6,q6⟩:=z;refine OZ C<|fk (O _ s6 R H6 _ I6 q6) λf Q y=>?_;have again : ∀{U:St} {j:Hp},Inv X (a++Yj B s5.heap) U j Q->N U j->∃m,m<n/\∃i l t,Inv X a l t Q/\tn i Q.heap/\(∀b∈B,t b=none)/\W i m l t:=λ{U j} k E=>by obtain⟨m',hm,w7⟩:=hN U j E;refine⟨m',hm,i+1,U,j,k.G7,T.keep _ _ _ M λb O o e=>(k.pin (b,o)<|Mw _<|Mw _<|vm O e).1,λb O=>?_,w7⟩;obtain⟨o,e,d⟩:=T.obj _ _ M b O;exact(k.pin (b,o)<|Mw _<|Mw _<|vm O e).2.1
  cases f with
  | next=>obtain⟨U,j,k,E⟩:=y;exact again k E
  | cont=>obtain⟨U,j,k,E⟩:=y;exact again k E
  | brk=>obtain⟨U,j,k,y⟩:=y;exact⟨U,j,k.G7,y⟩
  | ret v=>obtain⟨x7,U,j,k,r7,y⟩:=y;exact⟨x7,U,j,k.G7,r7,y⟩
end
theorem YI{lo:Int}{n:Nat}{g:TG}{tb:TS}{D:Ends}{C:St}{H:Hp}(I:Nat->St->Hp->Prop)(h0:I 0 C H)
 (hs : ∀i C H,i<n->I i C H->g (.int<|lo+i) C H λO Y=>tb {D with nx:=I<|i+1,ct:=I<|i+1,bk:=D.nx} O Y) (hd : ∀C H,I n C H->D.nx C H) :
 ∃W:Nat->Nat->St->Hp->Prop,(∃m,W 0 m C H)/\∀i m C H,W i m C H->
  ((Dc lo n).stop i H/\D.nx C H)\/((Dc lo n).go i H/\∃N:St->Hp->Prop,(∀L J,N L J->∃Z,Z<m/\W (i+1) Z L J)/\∀x J,(Dc lo n).Be i H x J->g x C J λO Y=>tb {D with nx:=N,ct:=N,bk:=D.nx} O Y):=by
 refine⟨λi m C H=>m=n - i/\i<=n/\I i C H,⟨n,by simp,Ms _,h0⟩,?_⟩;rintro i m C H ⟨rfl,b,p⟩;by_cases U:i<n
 ·refine .inr ⟨U,I<|i+1,λL J a=>⟨n - (i+1),by omega,rfl,U,a⟩,λx J y=>?_⟩
  obtain⟨e,y⟩:=y;subst e y;exact hs i C _ U p
 ·have e:i=n:=by omega
  subst e;exact .inl ⟨Le _,hd C H p⟩
abbrev R2:=V->V->Hp->VK->Prop
noncomputable def iU(X:Cx)(f:eh->eh->Sem eh)(r:R2):Prop:=
 ∀(a:RW) (s:eF) (b:St) (H:Hp) (x y:V) (v u:eh) (Q:VK),Inv X a b H s->RelV x v->RelV y u->r x y H Q->
  wpAny (eY X.prog X.w) X.A (f v u) (EP X a b Q) X.xe s
noncomputable def P4(X:Cx)(f:eh->Sem eh)(r:V->Hp->VK->Prop):Prop:=
 ∀(a:RW) (s:eF) (b:St) (H:Hp) (x:V) (v:eh) (Q:VK),Inv X a b H s->RelV x v->r x H Q->
  wpAny (eY X.prog X.w) X.A (f v) (EP X a b Q) X.xe s
noncomputable def ZS(X:Cx)(f:eh)(r:List V->Hp->VK->Prop):Prop:=
 ∀(a:RW) (s:eF) (e:St) (H:Hp) (d:List V) (b:List eh) (Q:VK),Inv X a e H s->fm d b->r d H Q->
  wpAny (eY X.prog X.w) X.A (call f b) (EP X a e Q) X.xe s
noncomputable def IB(X:Cx)(r:V->Hp->(Bool->Hp->Prop)->Prop):Prop:=
 ∀(a:RW) (s:eF) (b:St) (H:Hp) (x:V) (v:eh) (Q:Bool->Hp->Prop),Inv X a b H s->RelV x v->r x H Q->
  wpAny (eY X.prog X.w) X.A (G6 v) (TP X a b Q) X.xe s
noncomputable def G4(r:R2)(C I:TE):TE:=λa H Q=>C a H λx b=>I a b λy d=>r x y d Q
noncomputable def Uy(r:V->Hp->VK->Prop)(C:TE):TE:=λb H Q=>C b H λx a=>r x a Q
noncomputable def rI(C:Int->Int->Prop)(g:Int->Int->V):R2:=λx y H Q=>∃i j,x = .int i/\y = .int j/\C i j/\Q (g i j) H
noncomputable def rn(g:Int->Int->V):R2:=λx y H Q=>∃i j,x = .int i/\y = .int j/\Q (g i j) H
noncomputable def rU(g:Int->V):V->Hp->VK->Prop:=λx H Q=>∃i,x = .int i/\Q (g i) H
section
variable{X:Cx}{a b c:eu}{ta tb tc:TE}{pos:g8}
theorem Gb(ha:PE X a ta)(U:PE X b tb){C:RW}{s:eF}{L:St}{H:Hp}{R:V->V->Hp->Prop}(I:Inv X C L H s)
 (h:ta L H λx H1=>tb L H1 λy J=>R x y J) {Q:RQ} {f:eh->eh->Sem eh}
 (hf : ∀v u s2 x y J,Inv X C L J s2->RelV x v->RelV y u->R x y J->wpAny (eY X.prog X.w) X.A (f v u) Q X.xe s2) :
 wpAny (eY X.prog X.w) X.A (eA a X.env) (λv Y=>wpAny (eY X.prog X.w) X.A (eA b X.env) (λu Z=>wpAny (eY X.prog X.w) X.A (f v u) Q X.xe Z) X.xe Y) X.xe s:=by
 refine fk (ha C s L H _ I h) λv l O=>?_;obtain⟨x,H1,d,j,g⟩:=O;refine fk (U C l L H1 _ d g) λu s2 O=>?_;obtain⟨y,J,e,k,i⟩:=O;exact hf v u s2 x y J e j k i
theorem Bb{O:Operator}{r:R2}(U:iU X (xg O) r)(C:PE X a ta)(J:PE X b tb):PE X (.BinOp a O b pos) (G4 r ta tb):=by intro d s k H Q I h;exact wpAny_BinOp<|Gb C J I h λv u j x y e f g i q=>U d j k e x y v u Q f g i q
theorem Fk(O:P4 X (unaryOp op) r)(C:PE X a ta):PE X (.UnaryOp op a pos) (Uy r ta):=by intro b s d H Q I h;exact UnaryOp_<|fk (C b s d H _ I h) λv i ⟨x,e,U,g,f⟩=>O b i d e x v Q U g f
theorem M7{f:eh->eh->Sem eh}{C:Int->Int->Prop}{g:Int->Int->Int}
 (rule : ∀(i j:Int) (t u:Tok) (s:eF) (Q:RQ) (E:RQ),C i j->Q (.int (g i j) s.toks) {s with toks:=s.toks+1}->wpAny (eY X.prog X.w) X.A (f (.int i t)<|.int j u) Q E s) :
 iU X f (rI C λi j=> .int (g i j)):=by
 intro a s e H x y v u Q I O U h;obtain⟨i,j,rfl,rfl,b,q⟩:=h;obtain⟨t,rfl⟩:=O;obtain⟨d,rfl⟩:=U;exact rule i j t d s _ _ b ⟨.int<|g i j,H,I.tok _,⟨_,rfl⟩,q⟩
theorem GY{f:eh->eh->Sem eh}{g:Int->Int->Int}
 (rule : ∀(i j:Int) (t u:Tok) (s:eF) (Q:RQ) (E:RQ),Q (.int (g i j) s.toks) {s with toks:=s.toks+1}->wpAny (eY X.prog X.w) X.A (f (.int i t)<|.int j u) Q E s) :
 iU X f (rn λi j=> .int (g i j)):=by
 intro a s d H x y v u Q I O U h;obtain⟨i,j,rfl,rfl,q⟩:=h;obtain⟨t,rfl⟩:=O;obtain⟨b,rfl⟩:=U;exact rule i j t b s _ _ ⟨.int<|g i j,H,I.tok _,⟨_,rfl⟩,q⟩
theorem CT{f:eh->eh->Sem eh}{g:Int->Int->Bool}
 (rule : ∀(i j:Int) (t u:Tok) (s:eF) (Q:RQ) (E:RQ),Q (.bool<|g i j) s->wpAny (eY X.prog X.w) X.A (f (.int i t)<|.int j u) Q E s) :
 iU X f (rn λi j=> .bl (g i j)):=by
 intro a s d H x y v u Q I O U h;obtain⟨i,j,rfl,rfl,q⟩:=h;obtain⟨t,rfl⟩:=O;obtain⟨b,rfl⟩:=U;exact rule i j t b s _ _ ⟨.bl<|g i j,H,I,rfl,q⟩
def HG(i j:Int):Prop:=0<j/\j<1073741824
def HF(i j:Int):Prop:=0<=j/\j<=1000000/\i.natAbs<2 ^ 64
noncomputable def DN(i j:Int):Prop:=(-(2 ^ 64)<i/\i<2 ^ 64)\/(-(2 ^ 64)<j/\j<2 ^ 64)
theorem DN.ok(h:DN i j):IntMulOk i j:=by
 rcases h with⟨a,b⟩ | ⟨a,b⟩
 ·exact .of_left<|intBits_le_64 a b
 ·exact .of_right<|intBits_le_64 a b
theorem Uj:iU X (xg .Add) (rn λi j=> .int (i+j)):=GY λ_ _ _ _ _ _ _ q=>add_int q
theorem Bm:iU X (xg .Sub) (rn λi j=> .int (i - j)):=GY λ_ _ _ _ _ _ _ q=>sub_int q
theorem Uk:iU X (xg .Mult) (rI DN λi j=> .int (i*j)):=M7 λ_ _ _ _ _ _ _ I q=>mul_int q I.ok
theorem sv:iU X (xg .FloorDiv) (rI HG λi j=> .int (i/j)):=M7 λi j _ _ _ _ _ I q=>by have a:(0:Int)<j:=I.1;have b:j<1073741824:=I.2;exact floordiv_int ⋯ (by rw[Int.fdiv_eq_ediv_of_nonneg i ⋯];exact q)<|.inl<|PyProof.noPylong_small ⋯
theorem Bp:iU X (xg .Mod) (rI (λ_ j=>0<j) λi j=> .int (i%j)):=M7 λi j _ _ _ _ _ I q=>by have a:(0:Int)<j:=I;exact mod_int' ⋯ (by rw[Int.fmod_eq_emod_of_nonneg i ⋯];exact q)
theorem Bn:iU X (xg .Pow) (rI HF λi j=> .int (i ^ j.toNat)):=M7 λ_ _ _ _ _ _ _ I q=>pow_int_small I.1 I.2.1 I.2.2 q
theorem Uz{f:eh->Sem eh}{g:Int->Int}
 (rule : ∀(i:Int) (t:Tok) (s:eF) (Q:RQ) (E:RQ),Q (.int (g i) s.toks) {s with toks:=s.toks+1}->wpAny (eY X.prog X.w) X.A (f<|.int i t) Q E s) :
 P4 X f (rU λi=> .int (g i)):=by
 intro a s b H x v Q I O h;obtain⟨i,rfl,q⟩:=h;obtain⟨t,rfl⟩:=O;exact rule i t s _ _ ⟨.int<|g i,H,I.tok _,⟨_,rfl⟩,q⟩
theorem uI:P4 X (unaryOp .USub) (rU λi=> .int (-i)):=Uz λ_ _ _ _ _ q=>neg_int q
end
section
variable{X:Cx}{a b c:eu}{ta tb tc:TE}{pos:g8}
theorem Bq:iU X (o4 .Lt) (rn λi j=> .bl (decide<|i<j)):=CT λ_ _ _ _ _ _ _ q=>lt_int q
theorem dX:iU X (o4 .LtE) (rn λi j=> .bl (decide<|i<=j)):=CT λ_ _ _ _ _ _ _ q=>le_int q
theorem Br:iU X (o4 .Gt) (rn λi j=> .bl (decide<|j<i)):=CT λ_ _ _ _ _ _ _ q=>gt_int q
theorem Fo:iU X (o4 .GtE) (rn λi j=> .bl (decide<|j<=i)):=CT λ_ _ _ _ _ _ _ q=>ge_int q
theorem iU.or(h:iU X f r)(h':iU X f r'):iU X f (λx y H Q=>r x y H Q\/r' x y H Q):=by
 intro a s b H x y v u Q I O U q;rcases q with q | q
 ·exact h a s b H x y v u Q I O U q
 ·exact h' a s b H x y v u Q I O U q
theorem JK(b:eu)(h:op ≠ .In:=by decide)(C:op ≠ .NotIn:=by decide):DR op b=ed:=by
 have a:(op==CmpOp.In)=ed:=by cases op<;>first | rfl | exact absurd rfl h
 have d:(op==CmpOp.NotIn)=ed:=by cases op<;>first | rfl | exact absurd rfl C
 cases b<;>simp[DR,a,d]
theorem dP{O:CmpOp}{r:R2}(U:iU X (o4 O) r)(C:PE X a ta)(J:PE X b tb)(L:DR O b=ed):PE X (.Compare a [O] [b] pos) (G4 r ta tb):=by intro d s k H Q I h;exact wpAny_Compare1 (Gb C J I h λv u j x y e f g i q=>U d j k e x y v u Q f g i q) L
def uP(t:TE):TT:=λb H Q=>t b H λx a=>∃k,x = .bl k/\Q k a
theorem rP(O:iU X (o4 op) r)(C:PE X a ta)(U:PE X b tb)(J:DR op b=ed):PT X (.Compare a [op] [b] pos) (uP<|G4 r ta tb):=by
 intro d s f H Q I h;refine wpAny_isTrue_Compare1 (fk (C d s f H _ I h) λv E ⟨x,g,l,w,o⟩=>fk (U d E f g _ l o) λu F ⟨y,i,m,A,p⟩=>
  fk (O d F f i x y v u _ m w A p) λc G ⟨z,j,n,B,k,e,t⟩=>?_) J
 subst e;cases B;exact MZ ⟨j,n,t⟩
noncomputable def nP(r C:R2)(ta tb tc:TE):TE:=λa H Q=>ta a H λx b=>tb a b λy d=>r x y d λz I=>∃k,z = .bl k/\
 (if k=dt then tc a I λe O=>C y e O Q else Q (.bl ed) I)
theorem lP(ho:iU X (o4 op) r)(C:iU X (o4 F9) r')(J:PE X a ta)(L:PE X b tb)(Y:PE X c tc)
 (Z:R9 [op,F9] [b,c]=ed:=by with_unfolding_all rfl):PE X (.Compare a [op,F9] [b,c] pos) (nP r r' ta tb tc):=by
 intro f s g H Q I h;refine Compare_chain (fk (J f s g H _ I h) λv K ⟨x,l,o,E,w⟩=>chain_link (fk (L f K g l _ o w) λu M ⟨y,m,p,j,A⟩=>
  fk (ho f M g m x y v u _ p E j A) λd N ⟨z,O,U,F,k,e,i⟩=>?_)) Z
 subst e;cases F;refine MZ ?_;cases k with
 | false=>exact ite_ff ⟨.bl ed,O,U,rfl,i⟩
 | true=>exact ite_tt<|chain_last<|fk (Y f N g O _ U i) λR P ⟨S,n,t,G,B⟩=>C f P g n y S u R Q t j G B
theorem lj{O U:CmpOp}{r C:R2}(ho:iU X (o4 O) r)(J:iU X (o4 U) C)(L:PE X a ta)(Y:PE X b tb)(Z:PE X c tc)
 (hm:R9 [O,U] [b,c]=ed:=by with_unfolding_all rfl):PT X (.Compare a [O,U] [b,c] pos) (uP<|nP r C ta tb tc):=by
 intro f s g H Q I h;refine isTrue_chain (fk (L f s g H _ I h) λv s1 ⟨x,n,w,S,M⟩=>test_link (fk (Y f s1 g n _ w M) λu s2 ⟨y,o,A,m,N⟩=>
  fk (ho f s2 g o x y v u _ A S m N) λd s3 ⟨z,i,j,T,k,e,l⟩=>?_)) hm
 subst e;cases T;refine MZ ?_;cases k with
 | false=>
  obtain⟨k',F,K⟩:=l;cases F;exact ite_ff ⟨i,j,K⟩
 | true=>
  refine ite_tt<|test_last<|fk (Z f s3 g i _ j l) λw' s4 ⟨z',p,B,W,P⟩=>fk (J f s4 g p y z' u w' _ B m W P) λd' s5 ⟨z2,t,E,r5,k2,G,R⟩=>?_;subst G;cases r5;exact MZ ⟨t,E,R⟩
noncomputable def HB(K:IT)(x:V)(H:Hp)(k:Bool):Prop:=
 match x with
 | .e7=>k=ed
 | .bl b=>k=b
 | .int i=>k=(i != 0)
 | .str y=>y.length<=gv/\k=((y.length:Int) != 0)
 | .E6 y=>y.size<=gv/\k=((y.size:Int) != 0)
 | .ref p=>(∃d,gm K H p d/\k = !d.isEmpty)\/(∃d,hB K H p d/\k = !d.isEmpty)\/∃a,H p=bQ (.dK a)/\k = !a.isEmpty
 | _=>False
theorem bC(r:KV DG vs):(!vs.isEmpty) = !DG.isEmpty:=by cases r<;>rfl
theorem Xi(r:fm xs its):(!its.toArray.isEmpty) = !xs.isEmpty:=by cases r<;>simp
theorem JP:(gv:Nat)<2 ^ 63:=by rw[Rh];decide
theorem uL:IB X (λx H Q=>∃k,HB X.K x H k/\Q k H):=by
 intro o s C H x v Q I U h;obtain⟨k,e,q⟩:=h;have A:=JP;have B:gv=16777216:=Rh;cases x with
 | e7=>
  cases U;have O:k=ed:=e;subst O;exact truthy_none ⟨H,I,q⟩
 | bl b=>
  cases U;have O:k=b:=e;subst O;exact MZ ⟨H,I,q⟩
 | int i=>
  obtain⟨t,rfl⟩:=U;have O:k=(i != 0):=e;subst O;exact PySem.P.truthy_int ⟨H,I,q⟩
 | str y=>
  obtain⟨t,rfl⟩:=U;obtain⟨z,O⟩:y.length<=gv/\k=((y.length:Int) != 0):=e;subst O;exact PySem.P.truthy_str ⋯ ⟨H,I.tok _,q⟩
 | E6 y=>
  obtain⟨t,rfl⟩:=U;obtain⟨z,O⟩:y.size<=gv/\k=((y.size:Int) != 0):=e;subst O;exact PySem.W.truthy_bytes ⋯ ⟨H,I.tok _,q⟩
 | ref p=>
  cases U;have O:(∃d,gm X.K H p d/\k = !d.isEmpty)\/(∃d,hB X.K H p d/\k = !d.isEmpty)\/∃a,H p=bQ (.dK a)/\k = !a.isEmpty:=e;rcases O with⟨d,f,O⟩ | ⟨d,f,O⟩ | ⟨a,f,O⟩
  ·subst O
   obtain⟨j,r,pl,n⟩:=I.list f;have l:=r.length;exact wpAny_truthy_list pl.isList (by simp only[Li];omega) ⟨H,I.tok _,by rw[Xi r];exact q⟩
  ·subst O
   obtain⟨j,r,pl,n⟩:=I.tuple f;have l:=r.length;exact truthy_tuple pl (by simp only[Li];omega) ⟨H,I.tok _,by rw[Xi r];exact q⟩
  ·subst O
   obtain⟨n,u,g,r,m⟩:a.length<=gv/\(p==Ss)=ed/\∃g,KV a g/\s.heap.DictOf (Vv X.prog X.w) p g:=I.gB p _ f;have l:a.length=g.length:=Paired.length r;exact wpAny_truthy_dict u m ⋯ ⟨H,I.tok _,by rw[bC r];exact q⟩
 | _=>exact(show False from e).elim
theorem lg(L:PE X a ta)(U : ∀O,DE a X.env O=(do let v <- O;D4 a.pos;u7 [v] (G6 v))) :
 PT X a (λC H Q=>ta C H λx J=>∃k,HB X.K x J k/\Q k J):=by
 intro b s C H Q I h;exact isTrue_plain (fk (L b s C H _ I h) λv i ⟨x,d,e,g,f⟩=>uL b i C d x v Q e g f)<|U _
theorem ZJ(r:fm [x] us) : ∃u,us=[u]/\RelV x u:=by
 cases r with
 | cons I a=>cases a;exact⟨_,rfl,I⟩
theorem ik(r:fm [x,y] us) : ∃u w',us=[u,w']/\RelV x u/\RelV y w':=by
 cases r with
 | cons I a=>
  cases a with
  | cons O U=>cases U;exact⟨_,_,rfl,I,O⟩
theorem gw(U:X.calm=dt):ZS X (.builtin "max") (λxs H Q=>∃i j,xs=[.int i,.int j]/\Q (.int (if j>i then j else i)) H):=by
 intro a s l H xs f Q I r h;obtain⟨i,j,rfl,q⟩:=h;obtain⟨u,g,rfl,⟨t,rfl⟩,⟨d,rfl⟩⟩:=ik r;refine max_two_ints (I.ok.hd U) λb e k=>⟨_,H,I.kept k,?_,q⟩;by_cases O:j>i
 ·rw[RY O,RY O];exact⟨_,rfl⟩
 ·rw[EQ O,EQ O];exact⟨_,rfl⟩
theorem gu(U:X.calm=dt):ZS X (.builtin "min") (λxs H Q=>∃i j,xs=[.int i,.int j]/\Q (.int (if j<i then j else i)) H):=by
 intro a s l H xs f Q I r h;obtain⟨i,j,rfl,q⟩:=h;obtain⟨u,g,rfl,⟨t,rfl⟩,⟨d,rfl⟩⟩:=ik r;refine min_two_ints (I.ok.hd U) λb e k=>⟨_,H,I.kept k,?_,q⟩;by_cases O:j<i
 ·rw[RY O,RY O];exact⟨_,rfl⟩
 ·rw[EQ O,EQ O];exact⟨_,rfl⟩
theorem gy:ZS X (.type "int") (λxs H Q=>(∃i,xs=[.int i]/\Q (.int i) H)\/∃k,xs=[.bl k]/\Q (.int (if k then 1 else 0)) H):=by
 intro a s d H xs b Q I r h;rcases h with⟨i,rfl,q⟩ | ⟨k,rfl,q⟩
 ·obtain⟨u,rfl,t,rfl⟩:=ZJ r
  exact call_int_int ⟨.int i,H,I,⟨_,rfl⟩,q⟩
 ·obtain⟨u,rfl,O⟩:=ZJ r
  cases O;exact call_int_bool ⟨.int<|if k then 1 else 0,H,I.tok _,⟨_,rfl⟩,q⟩
end
structure Pz(h:fy)(x dx C:eg)(mA:RJ):Prop where
 obj:h.get? x=bQ (PySem.W.instObj C dx)
 ns:h.Ns1 dx mA
 ne:dx≠x
theorem eZ{h:fy}{C:eg}{H:RJ}(n:h.Ns1 C H) : ∃J,h.get? C=bQ J/\∀name,PySem.W.lookIn name J=bQ (H name):=by
 obtain⟨o,b,j,I,g,O,_,i⟩:=n;refine⟨o,I,λname=>?_⟩;have e:=i name;unfold nsFind findBy at e;rw[<- Array.find?_toList]at e;unfold PySem.W.lookIn;rw[g];dsimp only;split
 ·rename_i y q
  rw[q]at e;exact congrArg bQ e
 ·rename_i q
  rw[q]at e;have a:b.toList.any (·.refKey)=ed:=by rw[Rg];intro y U;obtain⟨z,t,f⟩:=O y<|Array.mem_toList_iff.mp U;simp[DictEntry.refKey,f]
  have d : ¬b.toList.any (·.refKey)=dt:=by rw[a];exact LN
  rw[EQ d];exact congrArg bQ e
theorem Pz.look(I:Pz h x dx C mA) : ∃H,PySem.W.InstAt h x (PySem.W.instObj C dx) C (bQ H)/\∀name,PySem.W.lookIn name H=bQ (mA name):=
 let ⟨H,O,U⟩:=eZ I.ns
 ⟨H,⟨I.obj,rfl,rfl,O⟩,U⟩
section
variable{P:i3}{w:h8}{H H':Hp}{h h':fy}{a C dx:eg}{fs T7:List (Str×V)}
theorem sT(J:mr P w H h)(e:H a=bQ (.ins C dx fs)) : ∃mA,Pz h a dx C mA/\(∀f,GK (fs.lookup f)<|mA f)/\PySem.Within mA (fs.map (·.1))/\fs.length<=1000/\H dx=bQ (.own a):=by obtain⟨d,z,b,I,mA,n,r,q⟩:=(show m6 P w H h a (.ins C dx fs)from J a _ e);exact⟨mA,⟨I,n,b⟩,r,q,z,d⟩
end
structure O5(K:IT)(C:eg):Prop where
 pg:PySem.W.plainGet K C Str.empty=dt
 hd:PySem.W.hasDictIn K C=dt
 po:PySem.W.plainOver K C=dt
 sa:OP K (.ref C) "__setattr__" = bQ (bQ (.builtin "object.__setattr__"))
theorem O5.get{K:IT}{C:eg}(c:O5 K C)(f:Str):PySem.W.plainGet K C f=dt:=c.pg
section
variable{X:Cx}{pins:RW}{σ:St}{H:Hp}{s:eF}{A:nh}{E:RQ}{Q:RQ}{c:eh}{b:Bool}
inductive t8(K:IT)(H:Hp):V->eh->Prop where
 | e7:t8 K H .e7 (.type "NoneType")
 | bl (x:Bool):t8 K H (.bl x) (.type "bool")
 | int (i:Int):t8 K H (.int i) (.type "int")
 | str (x:Str):t8 K H (.str x) (.type "str")
 | DX (x:UInt64):t8 K H (.DX x) (.type "float")
 | lst {a:eg} {xs:List V} (e:H a=bQ (.lst xs)):t8 K H (.ref a) (.type "list")
 | sX {a:eg} {o:l7} {xs:List V} (e:H a=bQ (.sX o (.lst xs))):t8 K H (.ref a) (.type "list")
 | tup {a:eg} {xs:List V} (e:H a=bQ (.tup xs)):t8 K H (.ref a) (.type "tuple")
 | dK {a:eg} {DG:List (Key×V)} (e:H a=bQ (.dK DG)):t8 K H (.ref a) (.type "dict")
 | dT {a:eg} {DG:List (List Key×V)} (e:H a=bQ (.dT DG)):t8 K H (.ref a) (.type "dict")
 | ins {a C dx:eg} {fs:List (Str×V)} (e:H a=bQ (.ins C dx fs)) (cl:O5 K C) (ha:OP K (.ref C) "__class__" = bQ (bQ (.builtin "object.__class__")))
  (hn:PySem.W.specialIn K (.builtin "object.__class__") "__get__" = bQ (bQ (.builtin "getset_descriptor.__get__"))) (UH:PySem.W.takesIn K (.builtin "object.__class__")=bQ dt)
  (hm:PySem.W.mroIn K C (.type "object")=bQ dt):t8 K H (.ref a) (.ref C)
theorem fA(I:Inv X pins σ H s)(U:RelV x u)(ty:t8 X.K H x t)(e:NM X.K t c=bQ b)(h : ∀Y,Q (.bool b) {s with toks:=Y}) :
 wpAny (eY X.prog X.w) A (call (.builtin "isinstance") [u,c]) Q E s:=by
 cases ty with
 | e7=>cases (show u=Mu from U);exact Me PySem.W.kitx_none I.mu De e (λz=>nomatch z) h
 | bl y=>cases (show u=Value.bool y from U);exact Me PySem.W.kitx_bool I.mu De e (λz=>nomatch z) h
 | int i=>obtain⟨t,q⟩:=(show ∃t,u=Value.int i t from U);cases q;exact Me PySem.W.kitx_int I.mu De e (λz=>nomatch z) h
 | str y=>obtain⟨t,q⟩:=(show ∃t,u=Value.str y t from U);cases q;exact Me PySem.W.kitx_str I.mu De e (λz=>nomatch z) h
 | DX y=>obtain⟨t,q⟩:=(show ∃t,u=Value.float y t from U);cases q;exact Me PySem.W.kitx_float I.mu De e (λz=>nomatch z) h
 | @lst a j d=>
  cases (show u=MD a from U);obtain⟨_,_,n,_,f⟩:=(show m6 X.prog X.w H s.heap a (.lst j)from I.gB a _ d);exact Me PM I.mu ⟨_,f,rfl⟩ e (λz=>nomatch z) h
 | @sX a M j d=>
  cases (show u=MD a from U);obtain⟨_,_,_,n,_,f⟩:=(show m6 X.prog X.w H s.heap a (.sX M<|.lst j)from I.gB a _ d);exact Me PM I.mu ⟨_,f,rfl⟩ e (λz=>nomatch z) h
 | @tup a j d=>
  cases (show u=MD a from U);obtain⟨_,_,_,p⟩:=(show m6 X.prog X.w H s.heap a (.tup j)from I.gB a _ d);obtain⟨o,f,k,_⟩:=p;exact Me PySem.W.kitx_tuple I.mu ⟨o,f,(Prod.mk.inj k).1⟩ e (λz=>nomatch z) h
 | @dK a g d=>
  cases (show u=MD a from U);obtain⟨_,_,S,_,p⟩:=(show m6 X.prog X.w H s.heap a (.dK g)from I.gB a _ d);obtain⟨o,B,r,f,k,_⟩:=p;exact Me PN I.mu ⟨o,f,k.1⟩ e (λz=>nomatch z) h
 | @dT a g d=>
  cases (show u=MD a from U);obtain⟨_,_,j,_,o,B,r,f,k,_⟩:=(show m6 X.prog X.w H s.heap a (.dT g)from I.gB a _ d);exact Me PN I.mu ⟨o,f,k.1⟩ e (λz=>nomatch z) h
 | @ins a C N fs d m F L l G=>
  cases (show u=MD a from U);obtain⟨P,O,_⟩:=sT I.gB d;obtain⟨R,J,_⟩:=O.look;exact Me (PySem.W.kitx_own (m.get _) m.hd F L l G) I.mu J e (λz=>nomatch z) h
end
structure o3(k:Nat)(A:nh):Prop where
 hd:A.handled=none
 dp:A.depth+3*k+5<recursionLimit
 un:A.units+16*k+200<cLine
theorem o3.mono(r:o3 k A)(h:j<=k):o3 j A:=⟨r.hd,by have:=r.dp;omega,by have:=r.un;omega⟩
theorem o3.deeper(r:o3 (k+1) A)(env:n4):o3 k (A.deeper env):=
 ⟨r.hd,by have:=r.dp;show A.depth+1+3*k+5<_;omega,by have:=r.un;show A.units+3+16*k+200<_;omega⟩
theorem o3.depth(r:o3 k A):A.depth<recursionLimit:=by have:=r.dp;omega
def GP:TA:=λ_ H Q=>Q [] H
noncomputable def uR(C:TE)(I:TA):TA:=λa H Q=>C a H λx b=>I a b λe d=>Q (x::e) d
section
variable{X:Cx}{e:eu}{es:List eu}{te:TE}{t:TA}{pos:g8}
theorem xy:PA X [] GP:=λ_ _ _ _ H Q I h=>Rc ⟨[],H,I,.nil,h⟩
theorem jO(C:PE X e te)(O:PA X es t)(hs:f6 (e::es) X.env=(ed,eA e X.env)::f6 es X.env:=by rfl):PA X (e::es) (uR te t):=by intro pos a s b H Q I h;rw[hs];show wpAny _ _ (N1 ((ed,eA e X.env)::rh pos (f6 es X.env))) _ _ s;refine OS<|fk (C a s b H _ I h) λu n U=>?_;obtain⟨x,d,g,l,j⟩:=U;exact fk (O pos a n b d _ g j) λr p ⟨o,f,i,m,k⟩=>⟨x::o,f,i,.cons l m,k⟩
noncomputable def HJ(t:TA):TE:=λd H Q=>t d H λb a=>b.length<=gv/\∀p,a p=none->Q (.ref p) (upd a p<|.tup b)
noncomputable def HN(t:TA):TE:=λd H Q=>t d H λb a=>b.length<=gv/\∀p,a p=none->Q (.ref p) (upd a p<|.lst b)
theorem AZ(h:PA X es t):PE X (.Tuple es x1 pos) (HJ t):=by intro a s k H Q I U;refine wpAny_Tuple_spliced<|fk (h pos a s k H _ I U) λi d ⟨j,f,O,r,z,q⟩=>⟨by rw[<- r.length];exact z,?_⟩;have g:f d.heap.objs.size=none:=O.gB.fresh<|Le _;refine⟨.ref d.heap.objs.size,upd f d.heap.objs.size<|.tup j,O.laid (t':=d.toks) (λb u e=>IW _ e) (Le _) ?_,rfl,q _ g⟩;exact⟨z,i,r,⟨_,Lv _ rfl,rfl,_,rfl⟩⟩
theorem Bf(h:PA X es t):PE X (.List es pos) (HN t):=by intro a s k H Q I U;refine wpAny_List_spliced<|fk (h pos a s k H _ I U) λi d ⟨j,f,O,r,z,q⟩=>⟨by rw[<- r.length];exact z,?_⟩;have g:f d.heap.objs.size=none:=O.gB.fresh<|Le _;refine⟨.ref d.heap.objs.size,upd f d.heap.objs.size<|.lst j,O.laid (t':=d.toks) (λb u e=>IW _ e) (Le _) ?_,rfl,q _ g⟩;exact⟨z,i,0,r,Lv _ rfl⟩
end
abbrev Sp:=List V->Hp->VK->XK->Prop
abbrev wo:=List n4->Hp->eF->XK->eh->eF->Prop
structure I8(P:i3)(w:h8)(K:IT)(mg:RJ)(base:fy)(A:nh)(outer:List n4)(s:eF)(H:Hp):Prop where
 frames:A.frames=bQ outer
 mod:Mod K mg base
 bs : ∀b o,base.get? b=bQ o->s.heap.get? b=bQ o/\H b=none
 Dh:base.objs.size<=s.heap.objs.size
 y6:s.heap.FunFrames base outer
 DZ : ∀b∈yg outer,H b=none
 gB:mr P w H s.heap
 bare:C9 s.gens
noncomputable def CE(outer:List n4)(P:i3)(w:h8)(H:Hp)(s:eF)(Q:VK)(u:eh)(C:eF):Prop:=
 ∃v a,C.os=s.os/\C9 C.gens/\Un (yg outer) [] H a s.heap C.heap/\mr P w a C.heap/\RelV v u/\Q v a
noncomputable def CR(CX:wo)(outer:List n4)(P:i3)(w:h8)(H:Hp)(s:eF)(Q:VK)(E:XK)(r:Result)(C:eF):Prop:=
 match r with
 | .ok (.ret u)=>CE outer P w H s Q u C
 | .ok _=>False
 | .error e=>CX outer H s E e C
structure rq(P:i3)(w:h8)(K:IT)(mg:RJ)(base:fy)(CX:wo)(k:Nat)(f:eg)(fd:rr)(ps:List Str)(sp:Sp):Prop where
 len : ∀vs H Q E,sp vs H Q E->vs.length=ps.length
 run : ∀(A:nh) (outer:List n4) (s:eF) (H:Hp) (args:Args) (us:List eh) (vs:List V) (Q:VK) (E:XK),o3 k A->I8 P w K mg base A outer s H->Ht s fd args (ps.zip us)->fm vs us->sp vs H Q E->
  codeAny (eY P w) A (.call (.ref f) args) (CR CX outer P w H s Q E) s
section
variable{X:Cx}{pins:RW}{σ:St}{H:Hp}{s s':eF}
theorem Inv.TZ(I:Inv X pins σ H s):I8 X.prog X.w X.K X.mg X.base X.A X.stack s H:=
 ⟨I.ok.frames,I.ok.mod,I.bs,Mj I.ok.Dh I.sz,I.stack,I.Tn,I.gB,I.bare⟩
theorem Inv.after(I:Inv X pins σ H s)(h:CE X.stack X.prog X.w H s Q u s'):EP X pins σ Q u s':=by obtain⟨v,f,os,a,un,e,r,q⟩:=h;obtain⟨O,g,d,t,U⟩:=s';obtain rfl:U=s.os:=os;exact⟨v,f,I.call (h':=O) (g':=g) (d':=d) (t':=t) (ch:=[]) un e a<|λb z=>absurd z ⋯,r,q⟩
end
noncomputable def pP(sp:Sp)(C:List V)(E:XK)(t:TA):TE:=λd H Q=>t d H λb a=>sp (b++C) a Q E
noncomputable def Binds(K:IT)(C:rr)(ps:List Str)(ds:List eh):Prop:=
 ∀(s:eF) (a:List eh),K.In s.heap->(a++ds).length=ps.length->Ht s C ⟨a,[]⟩ (ps.zip<|a++ds)
theorem Binds.all{K:IT}{H:rr}{ps:List Str}(h : ∀C:List eh,C.length=ps.length->bindArgs H ⟨C,[]⟩=pure (ps.zip C)):Binds K H ps []:=λs C _ I=>by rw[Nu]at I ⊢;exact .of_eq<|h C I
noncomputable def gP(CX:wo)(X:Cx)(E:XK):Prop:=∀(a:RW) (d:St) (H:Hp) (s:eF) (e:eh) (b:eF),Inv X a d H s->CX X.stack H s E e b->X.xe e b
section
variable{X:Cx}{CX:wo}{k:Nat}{f C:eg}{fd:rr}{ps:List Str}{sp:Sp}{DU:List V}{ds:List eh}{E:XK}{x m:Str}{p pos apos:g8}{e o:eu}{es:List eu}{ta:TE}{t:TA}
theorem Ak(F:rq X.prog X.w X.K X.mg X.base CX k f fd ps sp)(U:o3 k X.A)(J:Binds X.K fd ps ds)(L:fm DU ds)(Y:gP CX X E)
 (I:Inv X pins σ H s) (r:fm vs us) (h:sp (vs++DU) H Q E):wpAny (eY X.prog X.w) X.A (call (.ref f) us) (EP X pins σ Q) X.xe s:=by
 have a:fm (vs++DU) (us++ds):=r.append L;have d:(us++ds).length=ps.length:=by rw[<- a.length];exact F.len _ _ _ _ h
 refine wpAny_call<|Rz (F.run X.A X.stack s H ⟨us,[]⟩ (us++ds) (vs++DU) Q E U I.TZ (J s us I.mu d) a h) λr g O=>?_;cases r with
 | error e=>exact Y pins σ H s e g I O
 | ok b=>
  cases b with
  | ret u=>exact I.after O
  | next=>exact NU O
  | brk=>exact NU O
  | cont=>exact NU O
theorem Vn(F:rq X.prog X.w X.K X.mg X.base CX k f fd ps sp)(U:o3 k X.A)(hg:Gl X x)(hm:X.mg x=bQ (.ref f))(hk:Of X.K (.ref f)=dt)(Z:Binds X.K fd ps ds)(hd:fm DU ds)(hx:gP CX X E)
 (Y:PA X (e::es) t) (J:(x==("__debug__" : Str))=ed:=by decide) (he:f6 (e::es) X.env=(ed,eA e X.env)::f6 es X.env:=by rfl) (L:(rh pos (f6 es X.env)).any (·.1)=ed:=by rfl) :
 PE X (.Call (.Name x p) (e::es) [] pos) (pP sp DU E t):=by
 intro a s b H Q I h;refine Oq<|fj I hg hm ?_ J;refine PySem.W.callWith_K (h₀:=X.base) I.ok.mod.R8 hk (fk (Y pos a s b H _ I h) λi g ⟨j,d,O,r,q⟩=>⟨O.mu,?_⟩) he L;exact Ak F U Z hd hx O r q
end
structure D7(N P:List Str)(sc:g9):Prop where
 kind:sc.kind = .function
 co:sc.isCoroutine=ed
 gen:sc.isGenerator=ed
 nd:N.Nodup
 pre:N.take P.length=P
 par : ∀x∈P,sc.names.lookup x=bQ .local\/sc.names.lookup x=bQ .cell
 Uh : ∀y∈sc.names,y.2 ≠ .free
theorem YT{kindOf:Str->Option xb}{x:Str} : ∀{I:List (Str×eh)} {m:RJ},(∀v,(x,v)∉I)->Dy kindOf I m x=m x
 | [],_,_=>rfl
 | (n,v)::r,m,h=>by
  unfold Dy;rw[YT λw a=>h w (Lj _ a)];split
  ·have:x≠n:=by rintro rfl;exact h v Lp
   simp[this]
  ·rfl
theorem YW{kindOf:Str->Option xb}{x:Str} : ∀{I:List (Str×eh)} {m:RJ},(∀v,(x,v)∉I)->Dx kindOf I m x=m x
 | [],_,_=>rfl
 | (n,v)::r,m,h=>by
  unfold Dx;rw[YW λw a=>h w (Lj _ a)];split
  ·rfl
  ·have:x≠n:=by rintro rfl;exact h v Lp
   simp[this]
theorem YU{kindOf:Str->Option xb}{x:Str}{v:eh} : ∀{P:List Str} {vs:List eh} {i:Nat} {m:RJ},P.Nodup->P[i]? = bQ x->vs[i]? = bQ v->kindOf x=bQ .local->
 Dy kindOf (P.zip vs) m x=bQ v
 | [],_,_,_,_,h,_,_=>by simp at h
 | _::_,[],_,_,_,_,h,_=>by simp at h
 | p::P,w::vs,0,m,nd,h1,h2,hk=>by simp at h1 h2;subst h1;subst h2;show Dy kindOf ((p,w)::P.zip vs) m p=_;unfold Dy;rw[YT λv I=>(MI.mp nd).1 (List.of_mem_zip I).1,RY hk];simp
 | p::P,w::vs,i+1,m,nd,h1,h2,hk=>by show Dy kindOf ((p,w)::P.zip vs) m x=_;unfold Dy;exact YU (i:=i) (MI.mp nd).2 (by simpa using h1) (by simpa using h2) hk
theorem YX{kindOf:Str->Option xb}{x:Str}{v:eh} : ∀{P:List Str} {vs:List eh} {i:Nat} {m:RJ},P.Nodup->P[i]? = bQ x->vs[i]? = bQ v->kindOf x≠bQ .local->
 Dx kindOf (P.zip vs) m x=bQ v
 | [],_,_,_,_,h,_,_=>by simp at h
 | _::_,[],_,_,_,_,h,_=>by simp at h
 | p::P,w::vs,0,m,nd,h1,h2,hk=>by simp at h1 h2;subst h1;subst h2;show Dx kindOf ((p,w)::P.zip vs) m p=_;unfold Dx;rw[YW λv I=>(MI.mp nd).1 (List.of_mem_zip I).1,EQ hk];simp
 | p::P,w::vs,i+1,m,nd,h1,h2,hk=>by show Dx kindOf ((p,w)::P.zip vs) m x=_;unfold Dx;exact YX (i:=i) (MI.mp nd).2 (by simpa using h1) (by simpa using h2) hk
noncomputable def ZK(N:List Str)(vs:List V):St:=vs.map bQ++La (N.length - vs.length) none
noncomputable def tH(CX:wo)(P:i3)(w:h8)(K:IT)(mg:RJ)(base:fy)(N:List Str)(qual:Str)(scope:g9)(f:eg)(I:eh)(A:nh)(outer:List n4)(s:eF)(H:Hp)(E:XK):Cx where
 prog:=P
 w:=w
 K:=K
 mg:=mg
 base:=base
 A:=A.deeper<|envOfC qual scope s.heap.objs.size f I
 N:=N
 m4:=s
 D8:=H
 env:=L6 qual scope s.heap.objs.size f I
 outer:=outer
 stack:=L6 qual scope s.heap.objs.size f I::outer
 ex:=[]
 calm:=dt
 fn:=λ_=>dt
 pn:=[]
 xe:=λe s'=>wpAny (eY P w) (A.deeper<|envOfC qual scope s.heap.objs.size f I) (leaving (L6 qual scope s.heap.objs.size f I) e) (λ_ O=>CX outer H s E e O) (λU O=>CX outer H s E U O) s'
theorem ah{C:g9}{n:Nat}{x:Str}(h:C.names.lookup x=bQ .cell) : ∃c,(sh n C.names []).lookup x=bQ c:=by have q:=Oa C.names n [] (.inl h);exact Nb.mp q
theorem fB{CX:wo}{P:i3}{w:h8}{K:IT}{J:RJ}{base:fy}{N ps:List Str}{qual:Str}{scope:g9}{f:eg}{C:eh}{A:nh}{outer:List n4}{s Y:eF}{H:Hp}{E:XK}{L:List eh}{vs:List V}
 (S:D7 N ps scope) (Z:A.handled=none) (I:I8 P w K J base A outer s H) (hl:vs.length=ps.length) (r:fm vs L)
 (x:InCallC s s.heap.objs.size (Dy (L6 qual scope s.heap.objs.size f C).kindOf (ps.zip L) λ_=>none) (sh (s.heap.objs.size+1) scope.names []) (Dx (L6 qual scope s.heap.objs.size f C).kindOf (ps.zip L) λ_=>none) Y) :
 Inv (tH CX P w K J base N qual scope f C A outer s H E) [] (ZK N vs) H Y:=by
 have F:ps.length<=N.length:=by have:=congrArg List.length S.pre;rw[OA]at this;omega
 obtain⟨g,M,rfl,m⟩:=x.done;have a1 : ∀b:eg,b∉(tH CX P w K J base N qual scope f C A outer s H E).ex:=λb z=>absurd (show b∈([]:List eg)from z) ⋯;refine⟨⟨I.mod,S.kind,rfl,rfl,Le _,λy z c g d=>?_,λy O=>?_,λy c _ h=>?_,λ_=>Z,Around.frames_deeper I.frames,.inr ⟨rfl,rfl⟩,λb z=>absurd z<|a1 b,I.bs,I.Dh,λb _ _=>a1 b,λb z=>absurd z<|a1 b,I.y6,I.DZ⟩,
  rfl,I.bare,Un.kept m,⟨_,x.toInCall.ns,λi y v g d G=>?_⟩,λy c h=>⟨_,x.cell y c h⟩,I.gB.fresh<|Le _,λy c h=>?_,λp U=>absurd (show p∈([]:RW)from U) ⋯,I.gB.kept m,?_⟩
 ·exact name_of_addr x.apart (NP g)<|NP d
 ·have O:scope.names.lookup y=bQ .cell\/scope.names.lookup y=bQ .free:=O
  rcases O with O | O
  ·exact ah O
  ·exact absurd rfl<|S.Uh _<|NP O
 ·exact Py<|x.above y c<|NP h
 ·have j:i<vs.length:=by
   unfold ZK at d;by_cases j:i<vs.length
   ·exact j
   ·rw[Mf (by simpa using j)]at d
    rw[Oc]at d;split at d<;>cases d
  have t:vs[i]? = bQ v:=by
   unfold ZK at d;rw[Mm (by simpa using j),Lz]at d;cases e:vs[i]? with
   | none=>rw[e]at d;cases d
   | some a=>rw[e]at d;cases d;rfl
  obtain⟨u,o,B⟩:=r.get t;have U:ps[i]? = bQ y:=by rw[<- S.pre,List.getElem?_take_of_lt ⋯];exact g
  have l:ps.Nodup:=by rw[<- S.pre];exact S.nd.sublist<|List.take_sublist _ _
  refine⟨u,B,?_⟩;rcases S.par y (LJ U)with k | k
  ·exact .inl ⟨k,YU l U o k⟩
  ·obtain⟨c,e⟩:=ah (n:=s.heap.objs.size+1) k
   refine .inr ⟨.inl k,c,e,?_⟩;have q:=x.cell y c e;rw[YX l U o (by show scope.names.lookup y≠_;rw[k];decide)]at q;exact q
 ·exact I.gB.fresh<|Py<|x.above y c<|NP h
 ·unfold ZK
  show _=N.length;rw[Md,Ly,List.length_replicate];omega
theorem FN{CX:wo}{P:i3}{w:h8}{K:IT}{mg:RJ}{base:fy}{k:Nat}{f:eg}{name qual:Str}{a1:Arguments}{L:List iS}{scope:g9}{dV kV Z pm C ct oc:eh}{an od:Option eg}
 {Sg:Array (Option eh)} {N ps:List Str} {sp:Sp} (lk:K.lookup f=bQ ⟨oc,od,.func<|Oh name qual a1 L scope dV kV Z pm an C ct,Sg⟩) (a6:Po K C qual=dt) (S:D7 N ps scope)
 (len : ∀vs H Q E,sp vs H Q E->vs.length=ps.length)
 (a7 : ∀(A:nh) (outer:List n4) (s:eF) (H:Hp) (vs:List V) (Q:VK) (E:XK),o3 k (A.deeper<|envOfC qual scope s.heap.objs.size f C)->sp vs H Q E->
   ∃t,n9 (tH CX P w K mg base N qual scope f C A outer s H E) L t/\t {nx:=λ_ Y=>Q .e7 Y,rt:=Q} (ZK N vs) H) :
 rq P w K mg base CX (k+1) f (Oh name qual a1 L scope dV kV Z pm an C ct) ps sp:=by
 refine⟨len,λA outer s H m us vs Q E U O hb r j=>?_⟩;have M:=len _ _ _ _ j;have i:K.In s.heap:=O.mod.R8.keeps λb o e=>(O.bs b o e).1;have lim:s.heap.NoLimit:=O.mod.nolimit.keeps λb o e=>(O.bs b o e).1;have z : ∀y∈ps.zip us,scope.names.lookup y.1=bQ .local\/(scope.names.lookup y.1=bQ .cell/\((sh (s.heap.objs.size+1) scope.names []).lookup y.1).isSome=dt):=λ⟨n,v⟩ X=>by
  rcases S.par n (List.of_mem_zip X).1 with q | q
  ·exact .inl q
  ·exact .inr ⟨q,Oa _ _ _<|.inl q⟩
 refine codeAny_call_function U.depth (i _ _ lk) rfl S.co S.gen rfl (PySem.W.codeRec_of i a6)<|hb _ _ _ _ ?_;refine wpAny_newFunctionEnv_cells S.kind z λB G p x=>?_;subst G;refine⟨lim.keeps x.toInCall.keep,codeAny_func ?_⟩;obtain⟨t,T,R⟩:=a7 A outer s H vs Q E (U.deeper _) j;have I:Inv (tH CX P w K mg base N qual scope f C A outer s H E) [] (ZK N vs) H p:=fB S U.hd O M r x;refine Oe (T [] p (ZK N vs) H _ I R) (λF h d=>?_) λe h d=>d;have l : ∀{a:St} {Y:Hp} {v:V} {u:eh},Inv (tH CX P w K mg base N qual scope f C A outer s H E) [] a Y h->RelV v u->Q v Y->CE outer P w H s Q u h:=
  λ{a Y v u} J g q=>⟨v,Y,J.os,J.bare,J.base,J.gB,g,q⟩
 cases F with
 | ret u=>
  obtain⟨v,a,Y,J,g,q⟩:=d;exact l J g q
 | next=>
  obtain⟨a,Y,J,q⟩:=d;exact l (v:=V.e7) (u:=Mu) J rfl q
 | brk=>
  obtain⟨_,_,_,q⟩:=d;exact NU q
 | cont=>
  obtain⟨_,_,_,q⟩:=d;exact NU q
section
variable{X:Cx}{x:Str}{p pos:g8}{e:eu}{es:List eu}{t:TA}{id T:String}{r:List V->Hp->VK->Prop}
noncomputable def Tp(r:List V->Hp->VK->Prop)(t:TA):TE:=λd H Q=>t d H λb a=>r b a Q
theorem kO(O:ZS X (.builtin id) r)(U:Gl X x)(Z:X.mg x=none)(hv:Dz x=bQ (.builtin id))(L:PA X (e::es) t)(hn:x ≠ "__name__":=by decide)(C:(x==("__debug__" : Str))=ed:=by decide)
 (Y:f6 (e::es) X.env=(ed,eA e X.env)::f6 es X.env:=by rfl) (J:(rh pos<|starEach es X.env).any (·.1)=ed:=by rfl):PE X (.Call (.Name x p) (e::es) [] pos) (Tp r t):=by
 intro a s b H Q I h;refine Oq<|vD I U Z hv ?_ hn C;exact Pw (fk (L pos a s b H _ I h) λk j ⟨l,d,f,i,g⟩=>O a j b d l k Q f i g) Y J
theorem Yk(O:ZS X (.type T) r)(U:Gl X x)(Z:X.mg x=none)(hv:Dz x=bQ (.type T))(L:PA X (e::es) t)(hn:x ≠ "__name__":=by decide)(C:(x==("__debug__" : Str))=ed:=by decide)
 (Y:f6 (e::es) X.env=(ed,eA e X.env)::f6 es X.env:=by rfl) (J:(rh pos<|starEach es X.env).any (·.1)=ed:=by rfl):PE X (.Call (.Name x p) (e::es) [] pos) (Tp r t):=by
 intro a s b H Q I h;refine Oq<|vD I U Z hv ?_ hn C;exact MB (fk (L pos a s b H _ I h) λk j ⟨l,d,f,i,g⟩=>O a j b d l k Q f i g) Y J
end
end L2
namespace HT
open PySem PyProof.Rows
section
variable{prog:i3}{w:h8}{A:nh}{E:RQ}{s:eF}
theorem Ga(L:D9 s.heap t vs.toArray)(J:D9 s.heap b ws.toArray)(U:vs ≠ [])
 (C:ws=[]->Q (.ref t) s) (H:ws ≠ []->Q (.ref s.heap.objs.size) {s with heap:=s.heap.push {cls:= .type "tuple",data:= .seq (vs++ws).toArray}})
 (hsz:vs.length+ws.length<=gv):wpAny (eY prog w) A (xg .Add (.ref t)<|.ref b) Q E s:=by
 obtain⟨⟨cls,i,data,m⟩,I,j,n,k⟩:=id L;obtain⟨⟨o,d,data2,f⟩,O,g,l,h⟩:=id J;simp only at j k g h;subst j k g h;have e:vs.toArray++ws.toArray=(vs++ws).toArray:=by simp
 by_cases a:ws=[]
 ·exact Ry ⟨_,I,rfl⟩ ⟨_,O,rfl⟩ RD Tf Pf Pc (OU _ _)
   (tuple_addW1 t b vs.toArray ws.toArray n l i d m f (by simpa using U)<|by simp[a]) ⟨I,O,C a⟩
 ·refine Ry ⟨_,I,rfl⟩ ⟨_,O,rfl⟩ RD Tf Pf Pc (OU _ _)
   (tuple_addW2 t b vs.toArray ws.toArray n l i d m f (by simpa using U) (by simpa using a)<|by rw[Li,Li];exact hsz) ⟨I,O,?_⟩
  rw[e];exact H a
noncomputable def dy(n d:Nat):Option Int->Nat
 | none=>d
 | some v=>if v<0 then (v+(n:Int)).toNat else min v.toNat n
theorem Ad(n d:Nat)(C:d<=n)(o:Option Int):dy n d o<=n:=by
 cases o with
 | none=>exact C
 | some v=>
  show(if v<0 then (v+(n:Int)).toNat else min v.toNat n)<=n;by_cases I:v<0
  ·rw[RY I];omega
  ·rw[EQ I];exact Nat.min_le_right _ _
theorem gk(v:Int)(n d:Nat):(if v<0 then max (v+(n:Int)) 0 else min v (n:Int))=((dy n d (bQ v):Nat):Int):=by
 show(if v<0 then max (v+(n:Int)) 0 else min v (n:Int))=(((if v<0 then (v+(n:Int)).toNat else min v.toNat n):Nat):Int);by_cases I:v<0
 ·simp only[RY I];omega
 ·simp only[EQ I];omega
theorem bV(lo hi:Option Int)(n:Nat):Oz lo hi 1 (n:Int)=(((dy n 0 lo:Nat):Int),((dy n n hi:Nat):Int)):=by
 have a : ¬((1:Int)<0):=by omega
 unfold Oz;simp only[a,if_false];refine Prod.ext ?_ ?_
 ·cases lo with
  | none=>rfl
  | some v=>exact gk v n 0
 ·cases hi with
  | none=>rfl
  | some v=>exact gk v n n
theorem aV(i j:Nat):NB (i:Int) (j:Int) 1=j - i:=by
 unfold NB;have a:(1:Int)>0:=by omega
 simp only[a,if_true,Int.ediv_one];split<;>omega
theorem QR(p:B5 v o)(h:Q o s):wpAny (eY prog w) A (Builtin.Slice.slicePartIndex v) Q E s:=by
 cases p with
 | none=>exact slicePart_none h
 | int i t=>exact slicePart_int h
theorem ZL{C:eg}{I O:eh}{lo hi:Option Int}{n:Nat}{Q:Int×Int×Nat->eF->Prop}(hs:s.heap.IsSliceOf C I O .none)(pl:B5 I lo)(H:B5 O hi)
 (h:Q (((dy n 0 lo:Nat):Int),1,dy n n hi - dy n 0 lo) s):wpAny (eY prog w) A (Builtin.Slice.sliceApplied (.ref C)<|pure (n:Int)) Q E s:=by
 obtain⟨os,U,b,a⟩:=id hs;unfold Builtin.Slice.sliceApplied Builtin.Slice.sliceFields;refine IU<|IU<|MA U a (x:=I) rfl<|IU<|MA U a (x:=O) rfl<|IU<|MA U a (x:= .none) rfl<|Lf ?_;refine IU<|slicePart_none ?_;show wpAny _ _ (if ((1:Int)==0)=dt then _ else _) _ _ s;rw[EQ ⋯];refine IU<|QR pl<|IU<|QR H<|IU<|Lf ?_;show wpAny _ _ (match Oz lo hi 1 (n:Int)with | (lo,hi)=>pure (lo,(1:Int),NB lo hi 1)) _ _ s;rw[bV lo hi n];show wpAny _ _ (pure (((dy n 0 lo:Nat):Int),(1:Int),NB ((dy n 0 lo:Nat):Int) ((dy n n hi:Nat):Int) 1)) _ _ s;rw[aV];exact Lf h
theorem lI(xs:Array eh)(i k:Nat):((IS k).filterMap λ(m:Nat)=>xs[((i:Int)+(m:Int)*1).toNat]?).toArray=((xs.toList.drop i).take k).toArray:=by
 have e:(λ(m:Nat)=>xs[((i:Int)+(m:Int)*1).toNat]?)=λm=>xs[i+m]? :=by
  funext m;have:((i:Int)+(m:Int)*1).toNat=i+m:=by omega
  rw[this]
 rw[e];have:=pick_run xs i k;rw[List.filterMap_map]at this;have a:((λx=>xs[x]?)∘λx=>i+x)=λm=>xs[i+m]? :=rfl;rw[a]at this;rw[this]
theorem bJ{t C:eg}{I:Array eh}{H J:eh}{lo hi:Option Int}{Q:RQ}(O:D9 s.heap t I)(hs:s.heap.IsSliceOf C H J .none)(pl:B5 H lo)(Y:B5 J hi)
 (L : ¬(dy I.size 0 lo=0/\dy I.size I.size hi=I.size))
 (h:Q (.ref s.heap.objs.size) {s with heap:=s.heap.push {cls:= .type "tuple",data:= .seq ((I.toList.drop (dy I.size 0 lo)).take (dy I.size I.size hi - dy I.size 0 lo)).toArray}})
 (hsz:I.size<=gv):wpAny (eY prog w) A (D0 (.ref t)<|.ref C) Q E s:=by
 have U:sizeOk (.seq ((I.toList.drop<|dy I.size 0 lo).take (dy I.size I.size hi - dy I.size 0 lo)).toArray):=by show((I.toList.drop<|dy I.size 0 lo).take (dy I.size I.size hi - dy I.size 0 lo)).toArray.size<=gv;rw[Li,OA,List.length_drop,Nj];omega
 have g:dy I.size I.size hi<=I.size:=Ad _ _ (Le _) hi;obtain⟨os,a,b,f⟩:=id hs;have d:s.TypeIs (.ref C) "slice":=⟨os,a,b⟩;unfold D0
 try with_reducible refine Nq ?_
 first | refine IU (Lf ?_) | skip
 refine IU (UC O.typeIs ⋯ ?_);refine IU (Mo (name:=MT "__getitem__") O.typeIs MG
  (ML MG O.typeIs entry_tuple_getitem ?_ (TM _ _)))
 show wpAny _ _ (Builtin.Tuple.tupleItemsOf (.ref t) >>= _) _ _ s;refine IU<|Pu O ?_;refine IU<|Ph d ?_;rw[RY ⋯];refine IU<|ZL hs pl Y ?_;have e : ¬((((dy I.size 0 lo:Nat):Int)==0 && (1:Int)==1 && (dy I.size I.size hi - dy I.size 0 lo)==I.size)=dt):=by intro q;rw[Lq,Lq]at q;have i:((dy I.size 0 lo:Nat):Int)=0:=eq_of_beq q.1.1;have j:dy I.size I.size hi - dy I.size 0 lo=I.size:=eq_of_beq q.2;exact L ⟨by omega,by omega⟩
 show wpAny _ _ (if (((dy I.size 0 lo:Nat):Int)==0 && (1:Int)==1 && (dy I.size I.size hi - dy I.size 0 lo)==I.size)=dt then _ else _) _ _ s;rw[EQ e,lI]
 first
  | exact IU (m:=MV _)<|Na (Lf ⟨_,rfl,Lf h⟩) U
  | exact IU (m:=MV _)<|Na (IU<|Lf<|Lf ⟨_,rfl,Lf h⟩) U
  | exact IU<|IU (m:=MV _)<|Na (Lf<|Lf ⟨_,rfl,Lf h⟩) U
  | exact IU<|IU (m:=MV _)<|Na (Lf ⟨_,rfl,Lf h⟩) U
end
end HT
namespace L2
open PySem PySem.Spec PyProof.Rows
abbrev TO:=St->Hp->(Option Int->Hp->Prop)->Prop
noncomputable def PO(X:Cx)(e:Option eu)(t:TO):Prop:=
 ∀(a:RW) (s:eF) (b:St) (H:Hp) (Q:Option Int->Hp->Prop),Inv X a b H s->t b H Q->
  wpAny (eY X.prog X.w) X.A (evalPart e X.env) (λu f=>∃o d,Inv X a b d f/\B5 u o/\Q o d) X.xe s
def pM:TO:=λ_ H Q=>Q none H
noncomputable def EI(t:TE):TO:=λb H Q=>t b H λx a=>∃i,x = .int i/\Q (bQ i) a
section
variable{X:Cx}{e:eu}{te:TE}{lo hi:Option eu}{tl th:TO}{pos p2:g8}
theorem rT:PO X none pM:=by intro a s b H Q I h;rw[evalPart_none];exact Lf ⟨none,H,I,.none,h⟩
theorem rS(h:PE X e te):PO X (bQ e) (EI te):=by intro a s j H Q I d;rw[evalPart_some];refine fk (h a s j H _ I d) λu k O=>?_;obtain⟨x,b,U,g,f⟩:=O;obtain⟨i,rfl,q⟩:=f;obtain⟨t,rfl⟩:=g;exact⟨bQ i,b,U,.int i t,q⟩
noncomputable def P0(X:Cx)(r:V->Option Int->Option Int->Hp->VK->Prop):Prop:=
 ∀(a:RW) (s:eF) (d:St) (H:Hp) (x:V) (v I O:eh) (lo hi:Option Int) (b:eg) (Q:VK),Inv X a d H s->RelV x v->s.heap.IsSliceOf b I O .none->B5 I lo->B5 O hi->r x lo hi H Q->
  ∃T id,Sz (.type T) "__getitem__" = pure (bQ (.builtin id))/\s.TypeIs v T/\wpAny (eY X.prog X.w) X.A (D0 v (.ref b)) (EP X a d Q) X.xe s
noncomputable def Ux(r:V->Option Int->Option Int->Hp->VK->Prop)(te:TE)(tl th:TO):TE:=λa H Q=>te a H λx b=>tl a b λl d=>th a d λu I=>r x l u I Q
theorem lM(L:P0 X r)(C:PE X e te)(J:PO X lo tl)(Y:PO X hi th):PE X (.Subscript e (.Slice lo hi none p2) pos) (Ux r te tl th):=by intro a s d H Q I h;refine Subscript_ (fk (C a s d H _ I h) λv M t=>?_);obtain⟨x,i,k,K,E⟩:=t;refine wpAny_Slice (fk (J a M d i _ k E) λU N ⟨l,j,m,pl,F⟩=>fk (Y a N d j _ m F) λf O ⟨u,g,n,B,G⟩=>?_);rw[evalPart_none];refine Lf ?_;have o:Inv X a d g {O with heap:=O.heap.push {cls:= .type "slice",data:= .fields #[U,f,.none]}}:=n.kept (t':=O.toks) λb P q=>IW _ q;obtain⟨T,id,p,z,y⟩:=L a {O with heap:=O.heap.push {cls:= .type "slice",data:= .fields #[U,f,.none]}} d g x v U f l u O.heap.objs.size Q o K (Heap.IsSliceOf.new ..) pl B G;show wpAny (eY X.prog X.w) X.A (Uu e (.Slice lo hi none p2) v (.ref O.heap.objs.size)) (EP X a d Q) X.xe {O with heap:=O.heap.push {cls:= .type "slice",data:= .fields #[U,f,.none]}};exact tail_any (ops:=[.ref O.heap.objs.size,v]) z p y (by with_unfolding_all rfl)
noncomputable def tK(xs:List V)(lo hi:Option Int):List V:=(xs.drop<|HT.dy xs.length 0 lo).take (HT.dy xs.length xs.length hi - HT.dy xs.length 0 lo)
theorem VJ(xs:List V)(lo hi:Option Int):(tK xs lo hi).length<=xs.length:=by unfold tK;rw[OA,List.length_drop];omega
noncomputable def Ic(K:IT):V->Option Int->Option Int->Hp->VK->Prop:=λx lo hi H Q=>∃a b,x = .ref a/\hB K H a b/\
 ¬(HT.dy b.length 0 lo=0/\HT.dy b.length b.length hi=b.length)/\∀p,H p=none->Q (.ref p) (upd H p<|.tup<|tK b lo hi)
theorem uY:P0 X (Ic X.K):=by
 intro g s w H x v t u lo hi p Q I m i pl l h;obtain⟨a,d,rfl,k,j,q⟩:=h;cases m;obtain⟨e,r,U,f⟩:=I.tuple k;have O:e.toArray.size=d.length:=by rw[Li];exact r.length.symm
 refine⟨"tuple",_,MG.lookup,U.typeIs,?_⟩;refine HT.bJ U i pl l (by rw[O];exact j) ?_ (by rw[O];exact f);rw[O];refine⟨.ref s.heap.objs.size,_,I.laid (t':=s.toks) (o:= .tup (tK d lo hi)) (λb n q=>IW _ q) (Le _) ?_,rfl,q _ (I.gB.fresh (Le _))⟩;exact⟨Mj (VJ d lo hi) f,_,(r.drop (HT.dy d.length 0 lo)).take (HT.dy d.length d.length hi - HT.dy d.length 0 lo),wx.new _ _⟩
theorem fm.M4(r:fm xs us):us=[]↔xs=[]:=by
 cases r with
 | nil=>simp
 | cons _ _=>simp
end
noncomputable def DF(n:Nat)(i:Int):Option Nat:=if 0<=i then (if i<n then bQ i.toNat else none)else if -(n:Int)<=i then bQ (i+n).toNat else none
noncomputable def Dg{C:Type}(xs:List C)(i:Int):Option C:=(DF xs.length i).bind λj=>xs[j]?
theorem fz(h:DF n i=bQ j):seqIndex? i n=bQ j/\j<n/\ -(n:Int)<=i/\i<n:=by
 unfold DF at h;by_cases I:0<=i
 ·rw[RY I]at h
  by_cases a:i<n
  ·rw[RY a]at h
   have e:i.toNat=j:=LR h;exact⟨by rw[Te I a,e],by omega,by omega,a⟩
  ·rw[EQ a]at h;cases h
 ·rw[EQ I]at h
  by_cases a : -(n:Int)<=i
  ·rw[RY a]at h
   have e:(i+n).toNat=j:=LR h;exact⟨by rw[Td ⋯ a,e],by omega,a,by omega⟩
  ·rw[EQ a]at h;cases h
theorem VR(h:Dg xs i=bQ v) : ∃j,seqIndex? i xs.length=bQ j/\xs[j]? = bQ v/\j<xs.length/\ -(xs.length:Int)<=i/\i<xs.length:=by
 unfold Dg at h;cases e:DF xs.length i with
 | none=>rw[e]at h;cases h
 | some j=>
  rw[e]at h;obtain⟨a,b,I,O⟩:=fz e;exact⟨j,a,h,b,I,O⟩
noncomputable def VW(b:eu):Prop:=∀o i,subscripted b ed o i=operate [o,i] (D0 o i)
noncomputable def Dd(X:Cx)(r:R2):Prop:=
 ∀(O I:eu) (a:RW) (s:eF) (b:St) (H:Hp) (x y:V) (v u:eh) (Q:VK),Inv X a b H s->RelV x v->RelV y u->r x y H Q->
  subscripted I ed v u=operate [v,u] (D0 v u)->wpAny (eY X.prog X.w) X.A (Uu O I v u) (EP X a b Q) X.xe s
noncomputable def Pt(X:Cx)(id:String)(r:V->List V->Hp->VK->Prop):Prop:=
 ∀(a:RW) (s:eF) (e:St) (H:Hp) (x:V) (d:List V) (v:eh) (b:List eh) (Q:VK),Inv X a e H s->RelV x v->fm d b->r x d H Q->
  wpAny (eY X.prog X.w) X.A (call (.builtin id) (v::b)) (EP X a e Q) X.xe s
section
variable{X:Cx}{a b:eu}{ta tb:TE}{pos:g8}
theorem Dd.or(h:Dd X r)(h':Dd X r'):Dd X (λx y H Q=>r x y H Q\/r' x y H Q):=by
 intro O U a s f H x y v u Q I d e q b;rcases q with q | q
 ·exact h O U a s f H x y v u Q I d e q b
 ·exact h' O U a s f H x y v u Q I d e q b
theorem Bg(O:Dd X r)(C:PE X a ta)(U:PE X b tb)(hs:VW b):PE X (.Subscript a b pos) (G4 r ta tb):=by intro d s k H Q I h;exact Subscript_<|Gb C U I h λv u j x y e f g i q=>O a b d j k e x y v u Q f g i q<|hs _ _
noncomputable def Ih(K:IT):R2:=λx y H Q=>∃p a i v,x = .ref p/\y = .int i/\gm K H p a/\Dg a i=bQ v/\Q v H
noncomputable def Ie(K:IT):R2:=λx y H Q=>∃p a i v,x = .ref p/\y = .int i/\hB K H p a/\Dg a i=bQ v/\Q v H
noncomputable def Ig:R2:=λx y H Q=>∃z i c,x = .str z/\y = .int i/\z.length<=gv/\Dg z.cps.toList i=bQ c/\Q (.str ⟨#[c]⟩) H
theorem Uc:Dd X (Ih X.K):=by
 intro J L a s k H x y v u Q I E F h g;obtain⟨p,R,i,z,rfl,rfl,C,A,q⟩:=h;cases E;obtain⟨t,rfl⟩:=F;obtain⟨d,r,pl,P⟩:=I.list C;obtain⟨j,b,m,M,n,o⟩:=VR A;obtain⟨w,U,l⟩:=r.get m;have B:=r.length;have N:=JP;have e:EP X a k Q w s:=⟨z,H,I,l,q⟩;by_cases f:0<=i
 ·have O:i.toNat=j:=by
   rw[Te f o]at b;exact LR b
  exact item_listR pl.isList f ⋯ (by rw[O];simpa using U) e g
 ·have O:(i+(d.toArray.size:Int)).toNat=j:=by
   rw[Td ⋯ n]at b;rw[Li,<- B];exact LR b
  exact Uv (x:=w) pl.isList.typeIs slot_list_getitem.lookup
   (wpAny_getItem_list_neg (Q:=λr G=>r=w/\EP X a k Q r G) pl.isList ⋯ (by rw[Li]<;>omega) ⋯ (by rw[O];simpa using U) ⟨rfl,e⟩) g
theorem BP:Dd X (Ie X.K):=by
 intro C E a s b H x y v u Q I O U h o;obtain⟨p,N,i,z,rfl,rfl,n,l,q⟩:=h;cases O;obtain⟨t,rfl⟩:=U;obtain⟨A,r,pl,M⟩:=I.tuple n;obtain⟨j,g,k,F,G,J⟩:=VR l;obtain⟨w,f,d⟩:=r.get k;have m:=r.length;have L:=JP;have e:EP X a b Q w s:=⟨z,H,I,d,q⟩;exact Uv (x:=w) pl.typeIs slot_tuple_getitem.lookup
  (getItem_tuple (j:=j) (Q:=λr B=>r=w/\EP X a b Q r B) pl ⋯ ⋯ (by rw[Li,<- m];exact g) (by simpa using f) ⟨rfl,e⟩) o
theorem BQ:Dd X Ig:=by
 intro o p b s C H x y v u Q I O U h n;obtain⟨z,i,c,rfl,rfl,A,l,q⟩:=h;obtain⟨t,rfl⟩:=O;obtain⟨B,rfl⟩:=U;obtain⟨j,a,f,r,g,k⟩:=VR l;have m:z.cps.toList.length=z.length:=by simp[Str.length]
 rw[m]at a g k;have w:=JP;exact tail_any (Tt s z t) slot_str_getitem.lookup (getItem_str (c:=c) (by
  have d:decide (i < -(2 ^ 63:Int))=ed:=decide_eq_false ⋯;have e:decide (i>=2 ^ 63)=ed:=decide_eq_false ⋯;rw[d,e,Bool.or_false]) (by rw[a];simpa using f) ⟨.str ⟨#[c]⟩,H,I.tok _,⟨_,rfl⟩,q⟩) n
theorem bw(its:List eh)(n j:Nat)(u:eh):MH (·.setIfInBounds j u) {cls:= .type "list",data:= .seq its.toArray n} = {cls:= .type "list",data:= .seq (its.set j u).toArray n}:=by simp[MH]
theorem Inv.lst(I:Inv X pins σ H s)(h:H p=bQ (.lst xs)) :
 ∃(its:List eh) (n:Nat),fm xs its/\s.heap.get? p=bQ {cls:= .type "list",data:= .seq its.toArray n}/\xs.length<=gv:=by
 obtain⟨z,its,n,r,e⟩:=I.gB p _ h;exact⟨its,n,r,e,z⟩
theorem Inv.Ud{C:RW}{J:St}{H:Hp}{s:eF}{p:eg}{xs ys:List V}{its its':List eh}{n n':Nat}{f:l7->l7}(I:Inv X C J H s)(h:H p=bQ (.lst xs))
 (U:s.heap.get? p=bQ {cls:= .type "list",data:= .seq its.toArray n}) (O:f {cls:= .type "list",data:= .seq its.toArray n} = {cls:= .type "list",data:= .seq its'.toArray n'}) (r:fm ys its') (hz:ys.length<=gv) (t:Nat) :
 Inv X C J (upd H p<|.lst ys) {s with heap:=s.heap.update p f,toks:=t}:=by
 have e:(s.heap.update p f).get? p=bQ {cls:= .type "list",data:= .seq its'.toArray n'}:=by rw[Nm f U (by rw[O]<;>rfl),O]
 refine I.write (x:=p) (e:=p) (by rw[h];trivial) (.inl rfl) (λb u a q=>(MC _ _<|LC a).trans q) ⟨_,e⟩ ?_;exact⟨hz,its',n',r,e⟩
noncomputable def Fd:V->V->V->Hp->(Hp->Prop)->Prop:=λo i v H Q=>∃p a k j,o = .ref p/\i = .int k/\H p=bQ (.lst a)/\DF a.length k=bQ j/\Q (upd H p<|.lst<|a.set j v)
theorem Wj:HD X Fd:=by
 intro b s E H o i v K J u Q I A z B h;obtain⟨p,C,k,j,rfl,rfl,w,x,q⟩:=h;cases A;obtain⟨t,rfl⟩:=z;obtain⟨a,n,r,O,y⟩:=I.lst w;obtain⟨d,F,l,m⟩:=fz x;have U:=r.length;have G:=JP;have f:Inv X b E (upd H p<|.lst<|C.set j v) {s with heap:=s.heap.update p (MH (·.setIfInBounds j u))}:=
  I.Ud w O (bw a n j u) (r.set B j) (by rw[List.length_set];exact y) s.toks
 by_cases g:0<=k
 ·have e:k.toNat=j:=by
   rw[Te g m]at d;exact LR d
  exact PySem.W.ki_setAt O g ⋯ (by rw[Li,<- U];exact m) (by rw[e];exact⟨_,f,q⟩)
 ·have e:(k+(a.toArray.size:Int)).toNat=j:=by
   rw[Td ⋯ l]at d;rw[Li,<- U];exact LR d
  exact PySem.W.ki_setBack O ⋯ (by rw[Li,<- U];exact l) ⋯ (by rw[e];exact⟨_,f,q⟩)
noncomputable def Kh:V->Bool
 | .e7=>dt
 | .bl _=>dt
 | .int _=>dt
 | .str _=>dt
 | _=>ed
noncomputable def C2:V->V->Bool
 | .e7,.e7=>dt
 | .bl a,.bl b=>a==b
 | .bl a,.int b=>(if a then 1 else 0)==b
 | .int a,.bl b=>a==(if b then 1 else 0)
 | .int a,.int b=>a==b
 | .str a,.str b=>a==b
 | _,_=>ed
theorem Cc(O:RelV y u)(I:RelV x v)(U:Kh y=dt)(fx:Kh x=dt):MF A s u v (C2 y x):=by
 cases y with
 | e7=>
  cases O;cases x with
  | e7=>cases I;exact MF.same _
  | bl b=>cases I;exact MF.none_bool b
  | int b=>obtain⟨t,rfl⟩:=I;exact MF.none_int b t
  | str b=>obtain⟨t,rfl⟩:=I;exact MF.none_str b t
  | _=>exact absurd (show ed=dt from fx) LN
 | bl a=>
  cases O;cases x with
  | e7=>cases I;exact MF.bool_none a
  | bl b=>cases I;exact MF.bool_bool a b
  | int b=>obtain⟨t,rfl⟩:=I;exact MF.bool_int a b t
  | str b=>obtain⟨t,rfl⟩:=I;exact MF.bool_str a b t
  | _=>exact absurd (show ed=dt from fx) LN
 | int a=>
  obtain⟨d,rfl⟩:=O;cases x with
  | e7=>cases I;exact MF.int_none a d
  | bl b=>cases I;exact MF.int_bool a d b
  | int b=>obtain⟨t,rfl⟩:=I;exact Pn a d b t
  | str b=>obtain⟨t,rfl⟩:=I;exact MF.int_str a d b t
  | _=>exact absurd (show ed=dt from fx) LN
 | str a=>
  obtain⟨d,rfl⟩:=O;cases x with
  | e7=>cases I;exact MF.str_none a d
  | bl b=>cases I;exact MF.str_bool a d b
  | int b=>obtain⟨t,rfl⟩:=I;exact MF.str_int a d b t
  | str b=>obtain⟨t,rfl⟩:=I;exact MF.str_str a d b t
  | _=>exact absurd (show ed=dt from fx) LN
 | _=>exact absurd (show ed=dt from U) LN
noncomputable def C1(x:V)(u:eh):Bool:=match u with
 | .none=>C2 .e7 x
 | .bool b=>C2 (.bl b) x
 | .int i _=>C2 (.int i) x
 | .str z _=>C2 (.str z) x
 | _=>ed
theorem oP(r:RelV y u)(f:Kh y=dt):C1 x u=C2 y x:=by
 cases y with
 | e7=>cases r;rfl
 | bl b=>cases r;rfl
 | int i=>obtain⟨t,rfl⟩:=r;rfl
 | str z=>obtain⟨t,rfl⟩:=r;rfl
 | _=>exact absurd (show ed=dt from f) LN
theorem VU : ∀{xs:List V} {C:List eh},fm xs C->xs.all Kh=dt->C.any (C1 x)=xs.any λy=>C2 y x
 | _,_,.nil,_=>rfl
 | y::xs,u::C,.cons r t,f=>by rw[List.all_cons,Lq]at f;rw[List.any_cons,List.any_cons,oP r f.1,VU t f.2]
theorem X7(O:RelV x v)(fx:Kh x=dt) : ∀{xs:List V} {C:List eh},fm xs C->xs.all Kh=dt->∀u∈C,MF A s u v (C1 x u)
 | _,_,.nil,_=>λu I=>by cases I
 | y::xs,u::C,.cons r t,f=>λU I=>by
  rw[List.all_cons,Lq]at f;rcases Lo.mp I with rfl | I
  ·rw[oP r f.1];exact Cc r O f.1 fx
  ·exact X7 O fx t f.2 U I
def L9(x:V)(xs:List V):Bool:=xs.any λy=>C2 y x
noncomputable def Um(K:IT)(I:Bool):R2:=λx y H Q=>∃p a,y = .ref p/\(gm K H p a\/hB K H p a)/\Kh x=dt/\a.all Kh=dt/\Q (.bl<|if I then !L9 x a else L9 x a) H
theorem dY:iU X (o4 .In) (Um X.K ed):=by
 intro d s i H x y v u Q I U f h;obtain⟨p,g,rfl,O,fx,fs,q⟩:=h;cases f;rcases O with O | O
 ·obtain⟨a,r,pl,e⟩:=I.list O
  refine SeqAt.in_listAt (C1 x) pl.isList (λw b=>X7 U fx r fs w<|by simpa using b) ⟨.bl _,H,I,rfl,?_⟩;rw[show a.toArray.any (C1 x)=a.any (C1 x)by simp,VU r fs];exact q
 ·obtain⟨a,r,pl,e⟩:=I.tuple O
  refine SeqAt.in_tupleAt (C1 x) pl (λw b=>X7 U fx r fs w<|by simpa using b) ⟨.bl _,H,I,rfl,?_⟩;rw[show a.toArray.any (C1 x)=a.any (C1 x)by simp,VU r fs];exact q
theorem YS:ZS X (.builtin "len") (λxs H Q=>∃p ys,xs=[.ref p]/\(gm X.K H p ys\/hB X.K H p ys)/\Q (.int ys.length) H):=by
 intro d s j H xs i Q I r h;obtain⟨p,ys,rfl,O,q⟩:=h;obtain⟨u,rfl,f⟩:=ZJ r;cases f;have g:=JP;rcases O with O | O
 ·obtain⟨a,b,pl,e⟩:=I.list O
  have U:=b.length;exact Calls.call_len_list pl.isList (by simp only[Li]<;>omega) ⟨.int ys.length,H,I.tok _,⟨s.toks+1,by rw[Li,U]⟩,q⟩
 ·obtain⟨a,b,pl,e⟩:=I.tuple O
  have U:=b.length;exact len_tuple pl (by simp only[Li]<;>omega) ⟨.int ys.length,H,I.tok _,⟨s.toks+1,by rw[Li,U]⟩,q⟩
theorem YR:ZS X (.builtin "len") (λxs H Q=>∃z,xs=[.str z]/\z.length<=gv/\Q (.int z.length) H):=by intro a s f H xs e Q I r h;obtain⟨z,rfl,d,q⟩:=h;obtain⟨u,rfl,t,rfl⟩:=ZJ r;have b:=JP;exact len_str ⋯ ⟨.int z.length,H,I.tok _,⟨_,rfl⟩,q⟩
theorem Kp:ZS X (.type "tuple") (λxs H Q=>∃p ys,xs=[.ref p]/\((gm X.K H p ys/\∀l,H l=none->Q (.ref l) (upd H l (.tup ys)))\/(hB X.K H p ys/\Q (.ref p) H))):=by
 intro a s j H xs x Q I r h;obtain⟨p,ys,rfl,h⟩:=h;obtain⟨u,rfl,n⟩:=ZJ r;cases n;rcases h with⟨O,q⟩ | ⟨O,q⟩
 ·obtain⟨d,g,pl,i⟩:=I.list O
  have t:=g.length;refine call_tuple_list pl.isList (λf m=>?_) (by simp only[Li]<;>omega);have U:Inv X a j H {s with heap:=f}:=I.kept (t':=s.toks) m;have k:Inv X a j (upd H f.objs.size (.tup ys)) {s with heap:=f.push {cls:= .type "tuple",data:= .seq d.toArray}}:=
   U.laid (t':=s.toks) (λb o e=>IW _ e) (Le _) (show m6 X.prog X.w _ _ _ (.tup ys)from⟨i,d,g,wx.new _ _⟩)
  exact⟨.ref f.objs.size,_,k,rfl,q _<|U.gB.fresh<|Le _⟩
 ·obtain⟨d,g,pl,i⟩:=I.tuple O
  exact call_tuple_same pl ⟨.ref p,H,I,rfl,q⟩
noncomputable def Sy(K:IT)(T:String)(x:V)(H:Hp):Prop:=match x with
 | .str _=>T = "str"
 | .int _=>T = "int"
 | .ref p=>(T = "list"/\∃b,gm K H p b)\/(T = "tuple"/\∃o,K.lookup p=bQ o/\o.cls = .type "tuple"/\o.dict=none)\/
  (T = "dict"/\((∃a,H p=bQ (.dK a))\/∃a,H p=bQ (.dT a)))\/(T = "set"/\∃S n,H p=bQ (.set S n))
 | _=>False
theorem nN(I:Inv X pins σ H s)(r:RelV x v)(ty:Sy X.K T x H) :
 s.TypeIs v T/\∀a,v = .ref a->∃U,s.heap.get? a=bQ U/\U.dict=none:=by
 cases x with
 | str z=>
  obtain⟨t,rfl⟩:=r;cases (show T = "str" from ty);exact⟨Tt s z t,λ_ e=>nomatch e⟩
 | int i=>
  obtain⟨t,rfl⟩:=r;cases (show T = "int" from ty);exact⟨typeIs_int s i t,λ_ e=>nomatch e⟩
 | ref p=>
  cases r;rcases ty with⟨rfl,l,j⟩ | ⟨rfl,o,O,h,f⟩ | ⟨rfl,O⟩ | ⟨rfl,S,n,O⟩
  ·obtain⟨k,_,pl,_⟩:=I.list j
   refine⟨pl.isList.typeIs,λa e=>?_⟩;cases e;obtain⟨o,n,e,c,f,_⟩:=pl;exact⟨o,e,f⟩
  ·refine⟨⟨o,I.mu p o O,h⟩,λa e=>?_⟩
   cases e;exact⟨o,I.mu _ o O,f⟩
  ·have z : ∃o,s.heap.get? p=bQ o/\o.ExactDict:=by
    rcases O with⟨g,O⟩ | ⟨g,O⟩
    ·obtain⟨_,_,_,_,o,_,_,e,b,_⟩:=I.gB p _ O
     exact⟨o,e,b⟩
    ·obtain⟨_,_,_,_,o,_,_,e,b,_⟩:=I.gB p _ O
     exact⟨o,e,b⟩
   obtain⟨o,e,b⟩:=z;refine⟨⟨o,e,b.1⟩,λa d=>?_⟩;cases d;exact⟨o,e,b.2.1⟩
  ·obtain⟨o,_,_,_,e,b,_⟩:=I.gB p _ O
   refine⟨⟨o,e,b.1⟩,λa d=>?_⟩;cases d;exact⟨o,e,b.2.1⟩
 | _=>exact NU ty
noncomputable def HR(K:IT)(T:String)(r:V->List V->Hp->VK->Prop)(to:TE):TE:=λb H Q=>to b H λx a=>Sy K T x a/\r x [] a Q
noncomputable def To(K:IT)(T:String)(r:V->List V->Hp->VK->Prop)(to:TE)(t:TA):TE:=λb H Q=>to b H λx a=>Sy K T x a/\t b a λe d=>r x e d Q
variable{o e:eu}{es:List eu}{to:TE}{t:TA}{name:Str}{apos cpos:g8}{T id:String}{r:V->List V->Hp->VK->Prop}
theorem oo(pa:PlainAttrs T)(C:Slot T name id)(J:typeOf (.builtin id)=pure (.type "method_descriptor"))(hm:Pt X id r)(Z:PE X o to)
 (L:DQ o name X.env (eA o X.env)=eA o X.env:=by rfl) (Y:(apos.endLine==cpos.line)=dt:=by rfl):PE X (.Call (.Attribute o name apos) [] [] cpos) (HR X.K T r to):=by
 intro a s b H Q I h;refine wpAny_Call_method0_late L Y<|fk (Z a s b H _ I h) λv j g=>?_;obtain⟨x,d,O,U,ty,i⟩:=g;obtain⟨e,f⟩:=nN O U ty;exact⟨T,id,pa,C,J,e,f,Calls.callWith_builtin rfl<|PySem.evalArgs_none<|hm a j b d x [] v [] Q O U .nil i⟩
theorem sf(pa:PlainAttrs T)(C:Slot T name id)(J:typeOf (.builtin id)=pure (.type "method_descriptor"))(hm:Pt X id r)(ho:PE X o to)(ha:PA X (e::es) t)
 (L:DQ o name X.env (eA o X.env)=eA o X.env:=by rfl)
 (Y:((rh cpos<|starEach (e::es) X.env).all (λx=> !x.1) && (RH cpos<|keywordEach [] X.env).all (λx=>x.1.isSome)
   && decide ((e::es).length+([]:List Dv).length+(if ([]:List Dv).isEmpty then 0 else 1)<30))=dt:=by rfl)
 (Z:(apos.endLine==cpos.line)=dt:=by rfl) (hs:f6 (e::es) X.env=(ed,eA e X.env)::f6 es X.env:=by rfl) (a7:(rh cpos<|starEach es X.env).any (·.1)=ed:=by rfl) :
 PE X (.Call (.Attribute o name apos) (e::es) [] cpos) (To X.K T r to t):=by
 intro a s b H Q I h;refine wpAny_Call_method_late L Y Z rfl<|fk (ho a s b H _ I h) λv u l=>?_;obtain⟨x,f,O,U,ty,m⟩:=l;obtain⟨j,k⟩:=nN O U ty;refine⟨T,id,pa,C,J,j,k,?_⟩;have d:=ha cpos a u b f _ O m;rw[hs]at d ⊢;refine Calls.callWith_builtin (by show(ed || (rh cpos<|starEach es X.env).any (·.1))=ed;rw[a7]<;>rfl)<|Calls.evalArgs_plain ?_;exact fk d λy w ⟨z,g,i,p,n⟩=>hm a w b g x z v y Q i U p n
end
noncomputable def O9(X:Cx)(id:String)(r:V->List V->Hp->VK->Prop):Prop:=
 ∀(a:RW) (s:eF) (e:St) (H:Hp) (x:V) (d:List V) (v:eh) (b:List eh) (Q:VK),Inv X a e H s->RelV x v->fm d b->r x d H Q->
  wpAny (eY X.prog X.w) X.A (call (.builtin id) (v::b)) (EP X a e Q) X.xe s
theorem fm.one : ∀{x:V} {C:List eh},fm [x] C->∃u,C=[u]/\RelV x u
 | _,_,.cons r .nil=>⟨_,rfl,r⟩
theorem fm.zero : ∀{C:List eh},fm [] C->C=[]
 | _,.nil=>rfl
theorem fm.dropLast(h:fm xs us):fm xs.dropLast us.dropLast:=by
 induction h with
 | nil=>exact .nil
 | cons r t I=>
  cases t with
  | nil=>exact .nil
  | cons q a=>exact .cons r I
theorem fm.rep(h:fm xs us) : ∀k:Nat,fm (La k xs).flatten (La k us).flatten
 | 0=> .nil
 | k+1=>by rw[Nk,Nk,NK,NK];exact fm.append h<|fm.rep h k
theorem YK(its:List eh) : ∀(k:Nat) (acc:List eh),
 List.foldl (λx1 I=>x1++I) acc.toArray (La k its.toArray)=(acc++(La k its).flatten).toArray
 | 0,acc=>by simp
 | k+1,acc=>by
  have e:acc.toArray++its.toArray=(acc++its).toArray:=by simp
  have a:(acc++its)++(La k its).flatten=acc++(La (k+1) its).flatten:=by rw[Nk,NK,Rf]
  rw[<- a,<- YK its k (acc++its),<- e,Nk,List.foldl_cons]
section
variable{X:Cx}{pins:RW}{σ:St}{H:Hp}{s:eF}{l b:eg}{xs ys zs:List V}
theorem Inv.Dk{its its':List eh}{n:Nat}{f:Array eh->Array eh}{t':Nat}(I:Inv X pins σ H s)(O:H l=bQ (.lst xs))
 (e:s.heap.get? l=bQ {cls:= .type "list",data:= .seq its.toArray n}) (U:f its.toArray=its'.toArray) (C:fm ys its') (hz:ys.length<=gv) :
 Inv X pins σ (upd H l<|.lst ys) {s with heap:=s.heap.update l<|MH f,toks:=t'}:=by
 have q:=PySem.IsL.update e f;rw[U]at q;refine I.write (x:=l) (e:=l) (by rw[O];exact trivial) (.inl rfl) (λd u a b=>(MC s.heap (MH f)<|LC a).trans b) ⟨_,q⟩ ?_;exact⟨hz,its',_,C,q⟩
theorem Inv.S8(I:Inv X pins σ H s)(O:fm ys its)(hz:ys.length<=gv) :
 Inv X pins σ (upd H s.heap.objs.size (.lst ys)) {s with heap:=s.heap.push {cls:= .type "list",data:= .seq its.toArray},toks:=t'}:=
 I.laid (λ_ _ q=>IW _ q) (Le _) ⟨hz,its,0,O,Lv _ rfl⟩
theorem Inv.fresh(I:Inv X pins σ H s):H s.heap.objs.size=none:=I.gB.fresh<|Le _
theorem Inv.F3(I:Inv X pins σ H s)(O:H l=bQ (.lst xs)):xs.length<=gv/\∃(its:List eh) (n:Nat),fm xs its/\xs.length=its.length/\s.heap.get? l=bQ {cls:= .type "list",data:= .seq its.toArray n}:=by obtain⟨z,its,n,r,e⟩:=I.gB l _ O;exact⟨z,its,n,r,r.length,e⟩
theorem ma(h:n<=gv):NI n=ed:=by unfold NI;exact decide_eq_false ⋯
end
section
variable{X:Cx}
noncomputable def de:V->List V->Hp->VK->Prop:=λx b H Q=>∃l a y,x = .ref l/\b=[y]/\H l=bQ (.lst a)/\a.length<gv/\Q .e7 (upd H l<|.lst<|a++[y])
theorem eO:O9 X "list.append" de:=by intro b s o H x k v j Q I U f h;obtain⟨l,m,y,rfl,rfl,O,i,q⟩:=h;cases U;obtain⟨u,rfl,d⟩:=f.one;obtain⟨z,a,n,r,g,e⟩:=I.F3 O;refine OC F.slot_list_append ⟨_,e,rfl⟩ F.entry_list_append (F.args_list_append_2 _ _) (PySem.list_append l a.toArray n u (by rw[Li];omega)) ⟨e,?_⟩;refine⟨.e7,_,I.Dk (its':=a++[u]) O e ⋯ (r.append (.cons d .nil)) ?_,rfl,q⟩;rw[Md,MX];omega
noncomputable def As:V->List V->Hp->VK->Prop:=λx a H Q=>∃l b,x = .ref l/\a=[]/\H l=bQ (.lst b)/\Q .e7 (upd H l<|.lst [])
theorem WJ:O9 X "list.clear" As:=by intro b s m H x j v i Q I U f h;obtain⟨l,k,rfl,rfl,O,q⟩:=h;cases U;have d:=f.zero;subst d;obtain⟨z,a,n,r,g,e⟩:=I.F3 O;refine OC F.slot_list_clear ⟨_,e,rfl⟩ F.entry_list_clear (F.args_list_clear_1 _) (AutoSeq1.list_clear_list_0 l a.toArray n (by rw[Li];omega)) ⟨e,?_⟩;exact⟨.e7,_,I.Dk (its':=[]) (ys:=[]) O e rfl .nil (Ms _),rfl,q⟩
theorem fi(xs:List α)(k:Nat):(La k xs).flatten.length=k*xs.length:=by
 induction k with
 | zero=>simp
 | succ k I=>rw[Nk,NK,Md,I,OW,Ro]
end
end L2
namespace Att
open PySem PySem.W PySem.Calls PyProof.Rows
theorem JR : ∀(C:List Int) (vs:List eh),WellAll P h vs (C.map WData.int)->Kc vs C:=by
 intro C
 induction C with
 | nil=>
  intro vs w;rw[Rm]at w;cases w;exact .nil
 | cons n C I=>
  intro vs w;rw[Mc]at w;cases w with
  | cons a b=>
   cases a;exact .cons _ _<|I _ b
theorem cR{l:OpenLaw}{n:Nat}(L:l.most=bQ n){P:Params}{h:fy}{args:List WData}{U:List eh}
 (H:l.row.toRowW.claim.pre args=dt) (J:WellAll P h U args) :
 ∃a vs C,U=[MD a]/\args=[WData.list (C.map WData.int)]/\h.get? a=bQ {cls:= .type "list",data:= .seq vs.toArray}/\Kc vs C/\C.length<=n:=by
 have e:WShape.hasAll [] args [.list .int]=dt:=(pre_splitW H).1;have b:l.pre.holds [] {args:=args}=dt:=(pre_splitW H).2;obtain⟨d,r,rfl,i,j⟩:=hasAllW_cons e;obtain rfl:=hasAllW_nil j;obtain⟨t,rfl,k⟩:=hasW_list i;obtain⟨C,rfl⟩:=items_int k;have f:C.length<=n:=by
  unfold OpenLaw.pre at b;have I:(WTm.not<|.lt (.lit<|.int (n:Int))<|.len<|.arg 0).holds [] {args:=[.list (C.map .int)]}=dt:=by have I:=(holds_andW b).1;rw[L]at I;exact I
  have O:=condW_of I<|w_not<|w_lt w_lit<|w_len_list<|w_arg rfl;rw[Ly]at O;refine Nat.le_of_not_lt λq=>?_;have o:(n:Int)<((C.length:Nat):Int):=by omega
  first
   | (rw[decide_eq_true o]at O;exact absurd O ⋯)
   | (simp at O;omega)
 cases J with
 | cons p s=>
  cases s;cases p with
  | list m g=>exact⟨_,_,C,rfl,rfl,m,JR C _ g,f⟩
theorem dB(l:OpenLaw)(args:List WData):l.row.toRowW.claim.post args (.bool dt) args=dt:=
 postW_of (r:=l.row.toRowW) (X:=(dt==dt))
  (show WShape.has [] (.bool dt) .bool=dt by first | rfl | decide | simp[WShape.has,WShape.arms,WShape.armsAll])
  (show(WTm.eq .res<|.lit<|.bool dt).value [] {args:=args,res:=bQ (.bool dt),after:=args}=bQ (.bool<|true==dt)from w_eq_bool (w_res rfl) w_lit) rfl
theorem uf{l:OpenLaw}{n:Nat}{q:i3}{U:List Str}{XP:(Str->Option eh)->fy->Prop}{YP:h8->fy->Prop}{d:DefRec}
 (hn:l.most=bQ n) (a3:d.params.defaults=[])
 (call : ∀(w:h8) (m4 I:eF) (J mb:RJ) (H:eg) (o:l7) (pm O C:eh) (a:eg) (vs:List eh) (L:List Int),
   Ground q U [] XP w m4 J mb I.heap->YP w I.heap->
   I.heap.get? H=bQ o->o.data = .func (docDef d.name d.params d.body d.scope pm O C)->I.heap.CodeRec O d.name->J d.name=bQ (.ref H)->
   I.heap.get? a=bQ {cls:= .type "list",data:= .seq vs.toArray}->Kc vs L->L.length<=n->I.gens = #[]->
   codeAny (eY l.prog w) DB (.call (.ref H) ⟨[.ref a],[]⟩) (λr Z=>r = .ok (.ret<|.bool dt)/\OldK I.heap Z.heap/\Z.os=I.os/\C9 Z.gens) I) :
 WalkO q U XP YP l.row.toRowW d [] (λf vs=>PySem.call f vs):=by
 intro w m4 I J mb G Y H o pm O C s kV B y g e h z b F as i K M j N;obtain rfl:s = .none:=Dflts.none e a3;obtain rfl:kV = .none:=Dflts.noKw e;obtain⟨a,vs,L,rfl,rfl,k,m,p⟩:=cR hn i j;refine enter_call<|Rz (call w m4 I J mb H o pm O C a vs L G Y B (fd_plain y) g h k m p z) λr Z E=>?_;obtain⟨rfl,t,u,x⟩:=E;exact⟨.inl ⟨.bool dt,.bool dt,[],rfl,λ_=>rfl,.bool dt,dB l _,λ_=>⟨NL.nil,λ_ A=>(nomatch A)⟩⟩,t,u,x⟩
end Att
namespace L2
open PySem PySem.Spec PyProof.Rows
theorem v9 : ∀{vs:List eh} {C:List Int},Kc vs C->fm (C.map V.int) vs
 | _,_,.nil=> .nil
 | _,_,.cons n t h=> .cons ⟨t,rfl⟩ (v9 h)
def ED(H:Hp):Prop:=∀b,H b=none\/∃o a,H b=bQ (.sX o<|.lst a)
theorem mD{P:i3}{w:h8}{K:IT}{J mb:RJ}{CX:wo}{k:Nat}{Z a:eg}{fd:rr}{x:Str}{sp:Sp}{I:eF}{vs:List eh}{L:List Int}
 (KX:K.In I.heap) (a4:I.heap.Ns vl J) (O:I.heap.Ns SQ mb) (ab : ∀x:Str,x ≠ "__name__"->mb x=Dz x) (ac:I.heap.NoLimit) (hg:I.gens = #[])
 (Y:I.heap.get? a=bQ {cls:= .type "list",data:= .seq vs.toArray}) (hi:Kc vs L) (hl:L.length<=gv) (hr:o3 k DB)
 (F : ∀base:fy,K.In base->base.Ns vl J->rq P w K J base CX k Z fd [x] sp) (am : ∀(s:eF) (u:eh),Ht s fd ⟨[u],[]⟩ [(x,u)])
 (an : ∀H:Hp,ED H->gm K H a (L.map V.int)->sp [.ref a] H (λv _=>v = .bl dt) λ_ _ _=>False)
 (ap : ∀H e C,CX [] H I (λ_ _ _=>False) e C->False) :
 codeAny (eY P w) DB (.call (.ref Z) ⟨[.ref a],[]⟩) (λr C=>r = .ok (.ret<|.bool dt)/\OldK I.heap C.heap/\C.os=I.os/\C9 C.gens) I:=by
 have G:=v9 hi;have as:=hi.length;have t : ∀H:Hp,ED H->gm K H a (L.map V.int)->mr P w H I.heap->(∀b,H b≠none->b=a)->(H a≠none->K.lookup a=none)->
  codeAny (eY P w) DB (.call (.ref Z) ⟨[.ref a],[]⟩) (λr C=>r = .ok (.ret<|.bool dt)/\OldK I.heap C.heap/\C.os=I.os/\C9 C.gens) I:=by
  intro H E hS j B X;have f : ∀{b:eg} {o:l7},I.heap.get? b=bQ o->H b=none->(mP I.heap H).get? b=bQ o:=λe n=>mO e n;have b5 : ∀{b:eg} {o:l7} {i:Array DictEntry} {U:Nat},I.heap.get? b=bQ o->o.data = .dict i U->H b=none:=λ{b o i U} e d=>by
   cases q:H b with
   | none=>rfl
   | some u=>
    have p:b=a:=B b (by rw[q];simp);subst p;rw[Y]at e;cases e;have N:Data.seq vs.toArray _=Data.dict i U:=d;cases N
  have a1 : ∀{b:eg} {m:RJ},I.heap.Ns b m->(mP I.heap H).Ns b m:=λ{b m} ⟨o,i,U,e,d,r⟩=>⟨o,i,U,f e<|b5 e d,d,r⟩;have y:K.In (mP I.heap H):=λb o e=>f (KX b o e) (by
   cases q:H b with
   | none=>rfl
   | some u=>
    have p:b=a:=B b (by rw[q];simp);subst p;rw[X (by rw[q];simp)]at e;cases e)
  have hM:Mod K J (mP I.heap H):=⟨y,a1 a4,⟨mb,a1 O,ab⟩,let ⟨mc,T,W⟩:=ac;⟨mc,a1 T,W⟩⟩;have Q:I8 P w K J (mP I.heap H) DB [] I H:=⟨rfl,hM,λb o e=>sE e,Nat.le_of_eq<|fI _ _,trivial,λb O=>absurd (show b∈([]:List eg)from O) ⋯,j,.of_eq hg⟩;refine Rz ((F _ y<|a1 a4).run DB [] I H ⟨[.ref a],[]⟩ [.ref a] [.ref a] _ _ hr Q (am I<|.ref a) (.cons rfl .nil) (an H E hS)) λr C h=>?_;cases r with
  | error e=>exact(ap H e C h).elim
  | ok S=>
   cases S with
   | next=>exact NU h
   | brk=>exact NU h
   | cont=>exact NU h
   | ret u=>
    obtain⟨v,H',os,g,un,M,r',q⟩:=h;have q':v = .bl dt:=q;subst q';obtain rfl:u=Value.bool dt:=r';refine⟨rfl,OldK.of_keep λb o e=>?_,os,g⟩;cases q:H b with
    | none=>exact un.keep b o e q (by intro z;exact absurd (show b∈([]:List eg)from z) ⋯) ⋯
    | some u=>
     rcases E b with z | ⟨ob,xs,z⟩
     ·rw[q]at z;cases z
     ·have z2:=un.DD b ob _ z
      obtain⟨A,_⟩:=j b _ z;obtain⟨R,_⟩:=M b _ z2;rw[e]at A;cases A;exact R
 cases hk:K.lookup a with
 | some o=>
  have e:=KX a o hk;rw[Y]at e;cases e;refine t (λ_=>none) (λ_=> .inl rfl) (.inr ⟨_,vs.toArray,_,hk,rfl,rfl,rfl,by rw[Li,as];exact hl,by simpa using G⟩) (λb u z=>by have l:(none:Option HO)=bQ u:=z;cases l) (λb z=>absurd rfl z) λz=>absurd rfl z
 | none=>
  refine t (λb=>if b=a then bQ (.sX {cls:= .type "list",data:= .seq vs.toArray} (.lst (L.map V.int)))else none) (λb=>?_) (.inl (.inr ⟨{cls:= .type "list",data:= .seq vs.toArray},RY rfl⟩)) (λb u z=>?_) (λb z=>?_) λ_=>hk
  ·by_cases O:b=a
   ·exact .inr ⟨_,_,RY O⟩
   ·exact .inl<|EQ O
  ·by_cases O:b=a
   ·have l:=(RY O).symm.trans z
    cases l;subst O;exact⟨Y,by rw[Ly];exact hl,vs,_,G,Y⟩
   ·have l:=(EQ O).symm.trans z
    cases l
  ·by_cases O:b=a
   ·exact O
   ·exact absurd (EQ O) z
abbrev Ls{K:IT}{h:fy}(_:K.In h):IT:=K
theorem pj{l:PySem.W.OpenLaw}{n k:Nat}{q:i3}{a0:List Str}{XP:(Str->Option eh)->fy->Prop}{I:h8->fy->Prop}{d:DefRec}{K:Params->IT}{CX:h8->wo}{sp:h8->Sp}{x:Str}
 (hn:l.most=bQ n) (a2:n<=gv) (a3:d.params.defaults=[]) (hr:o3 k DB)
 (hY : ∀(w:h8) (h:fy),I w h->(K w.params).In h)
 (F : ∀(w:h8) (C:RJ) (J:eg) (h:fy),(K w.params).In h->h.Ns vl C->C d.name=bQ (.ref J)->
   ∃Z:rr,(∀(s:eF) (u:eh),Ht s Z ⟨[u],[]⟩ [(x,u)])/\
    ∀base:fy,(K w.params).In base->base.Ns vl C->rq l.prog w (K w.params) C base (CX w) k J Z [x] (sp w))
 (a6 : ∀(w:h8) (H:Hp) (a:eg) (L:List Int),L.length<=n->ED H->gm (K w.params) H a (L.map V.int)->sp w [.ref a] H (λv _=>v = .bl dt) λ_ _ _=>False)
 (a7 : ∀(w:h8) (H:Hp) (s:eF) (e:eh) (s':eF),CX w [] H s (λ_ _ _=>False) e s'->False) :
 PySem.W.WalkO q a0 XP I l.row.toRowW d [] (λf vs=>PySem.call f vs):=by
 refine Att.uf hn a3 λw j i C R J o S N t a vs L G Y Q P M m p r O E=>?_;have U:=hY w _ Y;obtain⟨Z,B,y⟩:=F w C J _ U G.T.g m;exact mD U G.T.g G.T.b G.T.builtins G.T.nolimit E p r (Mj O a2) hr y B (λH z A=>a6 w H a L O z A) λH e s'=>a7 w H i e s'
theorem CC{l:PySem.W.OpenLaw}{n k:Nat}{q:i3}{O:List Str}{U:(Str->Option eh)->fy->Prop}{I:h8->fy->Prop}{d:DefRec}{K:Params->IT}{CX:wo}{sp:IT->Sp}{x:Str}
 (hn:l.most=bQ n) (a0:n<=gv) (a1:d.params.defaults=[]) (hr:o3 k DB)
 (hY : ∀(w:h8) (h:fy),I w h->(K w.params).In h)
 (F : ∀(w:h8) (C:RJ) (Y:eg) (h:fy),(K w.params).In h->h.Ns vl C->C d.name=bQ (.ref Y)->
   ∃Z:rr,(∀(s:eF) (u:eh),Ht s Z ⟨[u],[]⟩ [(x,u)])/\
    ∀base:fy,(K w.params).In base->base.Ns vl C->rq l.prog w (K w.params) C base CX k Y Z [x] (sp<|K w.params))
 (a4 : ∀(K:IT) (H:Hp) (a:eg) (J:List Int),J.length<=n->ED H->gm K H a (J.map V.int)->sp K [.ref a] H (λv _=>v = .bl dt) λ_ _ _=>False)
 (a5 : ∀(H:Hp) (s:eF) (e:eh) (L:eF),CX [] H s (λ_ _ _=>False) e L->False) :
 PySem.W.WalkO q O U I l.row.toRowW d [] (λf vs=>PySem.call f vs):=
 pj (K:=K) (CX:=λ_=>CX) (sp:=λw=>sp<|K w.params) hn a0 a1 hr hY F (λw H a J b g i=>a4 (K w.params) H a J b g i) λ_ H s e L=>a5 H s e L
noncomputable def JW(s:iS):Arguments:=match s with
 | .FunctionDef _ a _ _ _ _ _ _ _ _=>a
 | _=>{posonlyargs:=[],args:=[],vararg:=none,kwonlyargs:=[],kw_defaults:=[],kwarg:=none,defaults:=[]}
noncomputable def k5(s:iS):List iS:=match s with
 | .FunctionDef _ _ b _ _ _ _ _ _ _=>b
 | _=>[]
noncomputable def jC(s:iS):g9:=match s with
 | .FunctionDef _ _ _ _ _ _ a _ _ _=>a
 | _=>{kind:= .function,names:=[],isGenerator:=ed,isCoroutine:=ed}
abbrev t4:wo:=λ_ _ _ _ _ _=>False
abbrev E0:XK:=λ_ _ _=>False
theorem sg:gP t4 X E0:=λ_ _ _ _ _ _ _ h=>h.elim
structure Du(K:IT)(x qual:Str)(st:iS)(f:eg)(fd:rr):Prop where
 ex : ∃(oc:eh) (od:Option eg) (kV doc pm:eh) (an:Option eg) (SR ct:eh) (Sg:Array (Option eh)),
  fd=Oh x qual (JW st) (k5 st) (jC st) .none kV doc pm an SR ct/\K.lookup f=bQ ⟨oc,od,.func fd,Sg⟩/\Po K SR qual=dt
 kp:Of K (.ref f)=dt
section
variable{P:i3}{w:h8}{K:IT}{mg:RJ}{base:fy}
theorem Du.ok{x qual:Str}{st:iS}{f:eg}{J:rr}{N ps:List Str}{k:Nat}{sp:Sp}(F:Du K x qual st f J)(S:D7 N ps (jC st))(len : ∀vs H Q E,sp vs H Q E->vs.length=ps.length)
 (I : ∀(C:eh) (A:nh) (outer:List n4) (s:eF) (H:Hp) (vs:List V) (Q:VK) (E:XK),o3 k (A.deeper<|envOfC qual (jC st) s.heap.objs.size f C)->sp vs H Q E->
   ∃t,n9 (tH t4 P w K mg base N qual (jC st) f C A outer s H E).F7 (k5 st) t/\t {nx:=λ_ L=>Q .e7 L,rt:=Q} (ZK N vs) H):rq P w K mg base t4 (k+1) f J ps sp:=by
 obtain⟨i,j,kV,b,l,e,C,g,d,rfl,lk,O⟩:=F.ex;refine FN lk O S len λA outer s H vs Q E U a=>?_;obtain⟨t,h,q⟩:=I C A outer s H vs Q E U a;exact⟨t,h.F7,q⟩
theorem BZ{x qual:Str}{st:iS}{f:eg}{O:eh}{Y J:Option eg}{I:Array (Option eh)}{kV H L C ct:eh}(l:K.lookup f=bQ ⟨O,Y,.func<|Oh x qual (JW st) (k5 st) (jC st) .none kV H L J C ct,I⟩)
 (c:Po K C qual=dt) (k:Of K (.ref f)=dt):Du K x qual st f (Oh x qual (JW st) (k5 st) (jC st) .none kV H L J C ct):=⟨⟨O,Y,kV,H,L,J,C,ct,I,rfl,l,c⟩,k⟩
end
def f9(H C:Hp):Prop:=∀b o,H b=bQ o->C b=bQ o
theorem f9.refl(H:Hp):f9 H H:=λ_ _ h=>h
theorem f9.trans(a:f9 H H1)(b:f9 H1 H2):f9 H H2:=λc o h=>b c o<|a c o h
theorem f9.free(e:f9 H H')(h:H' l=Option.none):H l=Option.none:=by
 cases q:H l with
 | none=>rfl
 | some o=>
  rw[e l o q]at h;cases h
theorem f9.seq{K:IT}{H C:Hp}{a:eg}{xs:List V}(e:f9 H C)(h:gm K H a xs):gm K C a xs:=by
 rcases h with(h | ⟨o,h⟩) | h
 ·exact .inl<|.inl<|e _ _ h
 ·exact .inl<|.inr ⟨o,e _ _ h⟩
 ·exact .inr h
noncomputable def KA(cells:List (Str×eg)):List (Str×xb)->List (Str×eg)->List (Str×eg)
 | [],acc=>acc
 | (n,k)::r,acc=>KA cells r<|if k==LO then (match cells.lookup n with | some c=>(n,c)::acc | none=>acc)else acc
theorem vb(f:Str×xb->List (Str×eg)->Sem (ForInStep<|List<|Str×eg))
 (O : ∀name kind U,f (name,kind) U=if kind==LO then (do let a <- cellOf env name;pure (.yield ((name,a)::U)))else pure (.yield U)) :
 ∀(names:List (Str×xb)) (acc:List (Str×eg)),(∀n,(n,LO)∈names->∃c,env.cells.lookup n=bQ c)->
  forIn names acc f=(pure (KA env.cells names acc):Sem _)
 | [],acc,_=>by rw[OX];rfl
 | (n,k)::r,acc,h=>by
  rw[OL,O];have d : ∀n,(n,LO)∈r->∃c,env.cells.lookup n=bQ c:=λm i=>h m<|Lj _ i;unfold KA;by_cases I:(k==LO)=dt
  ·rw[RY I,RY I]
   have g:k=LO:=by simpa using I
   subst g;obtain⟨c,b⟩:=h n Lp;have e:cellOf env n=pure c:=by unfold cellOf;rw[b]
   rw[e,b];exact vb f O r _ d
  ·rw[EQ I,EQ I]
   exact vb f O r acc d
theorem Ko(h : ∀n,(n,LO)∈scope.names->∃c,env.cells.lookup n=bQ c) :
 closureFor scope env=pure (KA env.cells scope.names []):=by
 simp only[closureFor];rw[vb (env:=env) _ (λb a I=>by cases hk:a==LO<;>simp[hk]) scope.names [] h];rfl
theorem kX
 (I:Q {scope:=scope,locals:=s.heap.objs.size,globals:=globals,cells:=sh (s.heap.objs.size+1) scope.names cl,qual:=qual,func:=none,code:=env.code,frame:=env.frame,builtins:=env.builtins}
   {s with heap:=Dl (s.heap.push {cls:= .type "dict",data:= .dict #[]}) scope.names}) :
 wpAny M A (Ta scope globals cl [] qual none .none (bQ env)) Q E s:=by
 simp only[Ta,Option.isSome_some,if_true];refine IU (wpAny_alloc ?_);refine IU (wpAny_layCells _ (λb a cells=>by cases Ua:a==Nr<;>simp[Ua]) _ _ _ _ ?_);rw[show({s with heap:=s.heap.push {cls:= .type "dict",data:= .dict #[]}}:eF).heap.objs.size=s.heap.objs.size+1 from Mn ..];exact IU (Lf (Lf I))
theorem WL : ∀{names:List (Str×xb)} {acc:List (Str×eg)},(n,c)∈KA cells names acc->(n,c)∈acc\/((n,LO)∈names/\cells.lookup n=bQ c)
 | [],acc,h=> .inl h
 | (m,k)::r,acc,h=>by
  unfold KA at h;rcases WL h with g | ⟨h1,h2⟩
  ·clear h
   by_cases I:(k==LO)=dt
   ·rw[RY I]at g
    have O:k=LO:=by simpa using I
    subst O;cases e:cells.lookup m with
    | none=>rw[e]at g;exact .inl g
    | some U=>
     rw[e]at g;rcases Lo.mp g with g | g
     ·cases g;exact .inr ⟨Lp,e⟩
     ·exact .inl g
   ·rw[EQ I]at g;exact .inl g
  ·exact .inr ⟨Lj _ h1,h2⟩
theorem JN : ∀{names:List (Str×xb)} {acc:List (Str×eg)},((acc.lookup n).isSome=dt\/((n,LO)∈names/\(cells.lookup n).isSome=dt))->((KA cells names acc).lookup n).isSome=dt
 | [],acc,h=>by
  rcases h with h | ⟨h,_⟩
  ·exact h
  ·cases h
 | (m,k)::r,acc,h=>by
  unfold KA;apply JN;by_cases I:(k==LO)=dt
  ·rw[RY I]
   have U:k=LO:=by simpa using I
   subst U;cases e:cells.lookup m with
   | none=>
    rcases h with h | ⟨h1,h2⟩
    ·exact .inl h
    ·rcases Lo.mp h1 with h1 | h1
     ·cases h1;rw[e]at h2;cases h2
     ·exact .inr ⟨h1,h2⟩
   | some a=>
    dsimp only;by_cases O:n=m
    ·subst O;left;simp
    ·rcases h with h | ⟨h1,h2⟩
     ·left;rw[Mp];split<;>simp_all
     ·rcases Lo.mp h1 with h1 | h1
      ·cases h1;exact absurd rfl O
      ·exact .inr ⟨h1,h2⟩
  ·rw[EQ I]
   rcases h with h | ⟨h1,h2⟩
   ·exact .inl h
   ·rcases Lo.mp h1 with h1 | h1
    ·cases h1;exact absurd rfl I
    ·exact .inr ⟨h1,h2⟩
theorem kh : ∀{names:List (Str×xb)} {k:Nat} {acc:List (Str×eg)},(n,c)∈sh k names acc->(n,c)∈acc\/(k<=c/\(n,Nr)∈names)
 | [],_,_,h=> .inl h
 | (m,kd)::r,k,acc,h=>by
  unfold sh at h;split at h
  ·rename_i I
   have O:kd=Nr:=by simpa using I
   subst O;rcases kh h with h | ⟨h1,h2⟩
   ·rcases Lo.mp h with h | h
    ·cases h;exact .inr ⟨Le _,Lp⟩
    ·exact .inl h
   ·exact .inr ⟨by omega,Lj _ h2⟩
  ·rcases kh h with h | ⟨h1,h2⟩
   ·exact .inl h
   ·exact .inr ⟨h1,Lj _ h2⟩
theorem yz : ∀{names:List (Str×xb)} {k:Nat} {acc:List (Str×eg)},(∀p∈acc,∀q∈acc,p.2=q.2->p.1=q.1)->(∀p∈acc,p.2<k)->
 ∀p∈sh k names acc,∀q∈sh k names acc,p.2=q.2->p.1=q.1
 | [],_,_,h,_=>h
 | (m,kd)::r,k,acc,h,hl=>by
  unfold sh;split
  ·refine yz (λp I q O e=>?_) (λp I=>?_)
   ·rcases Lo.mp I with rfl | I<;>rcases Lo.mp O with rfl | O
    ·rfl
    ·have U:k=q.2:=e
     exact absurd (U ▸ hl q O)<|Mi _
    ·have U:p.2=k:=e
     exact absurd (U ▸ hl p I)<|Mi _
    ·exact h p I q O e
   ·rcases Lo.mp I with rfl | I
    ·exact Nl _
    ·exact Mk<|hl p I
  ·exact yz h hl
theorem JX : ∀{names:List (Str×xb)} {h:fy} {acc:List (Str×eg)} {n:Str} {c:eg},(n,c)∈sh h.objs.size names acc->(n,c)∈acc\/(Dl h names).IsCell c none
 | [],_,_,_,_,hm=> .inl hm
 | (m,kd)::r,h,acc,n,c,hm=>by
  unfold sh at hm;unfold Dl;split at hm
  ·rename_i I
   rw[RY I];have e:h.objs.size+1=(h.push {cls:= .type "cell",data:= .cell none}).objs.size:=(Mn ..).symm;rw[e]at hm;rcases JX hm with hm | hm
   ·rcases Lo.mp hm with hm | hm
    ·cases hm
     have O:(h.push {cls:= .type "cell",data:= .cell none}).IsCell h.objs.size none:=⟨{cls:= .type "cell",data:= .cell none},Lv _ rfl,rfl⟩;exact .inr (O.keeps λb o q=>Pb _ _ b o q)
    ·exact .inl hm
   ·exact .inr hm
  ·rename_i I
   rw[EQ I];exact JX hm
theorem vn{H:Type}{l:List (Str×H)}(C:(l.map (·.1)).Nodup) : ∀{n:Str} {a:H},(n,a)∈l->l.lookup n=bQ a:=by
 induction l with
 | nil=>intro n a h;cases h
 | cons p r I=>
  intro n a h;obtain⟨m,b⟩:=p;rw[Mc,MI]at C;rw[Mp];rcases Lo.mp h with h | h
  ·cases h;simp
  ·have O:(n==m)=ed:=by
    have:n≠m:=λe=>C.1 (by rw[<- e];exact LK.mpr ⟨(n,a),h,rfl⟩);simpa using this
   rw[O];exact I C.2 h
theorem vC(scope:g9)(env:n4)(x:Str):(z4 scope env).names.lookup x =
 (scope.names.lookup x).map λk=>if (k==LO && env.scope.kind == .function && env.kindOf x==bQ .cell)then Nr else k:=by
 unfold z4;dsimp only;generalize scope.names=l
 induction l with
 | nil=>rfl
 | cons p r O=>
  obtain⟨n,k⟩:=p;rw[Mc];cases hx:x==n with
  | true=>
   have e:x=n:=by simpa using hx
   subst e;rw[Mp,Mp];dsimp only;by_cases I:(k==LO && env.scope.kind == .function && env.kindOf x==bQ .cell)=dt
   ·rw[RY I,beq_self_eq_true];dsimp only[PX];rw[RY I]
   ·rw[EQ I,beq_self_eq_true];dsimp only[PX];rw[EQ I]
  | false=>
   have : ∀U,List.lookup x ((n,U)::(r.map λx=>match x with | (n,k)=>if (k==LO && env.scope.kind == .function && env.kindOf n==bQ .cell)=dt then (n,Nr)else (n,k)))=List.lookup x (r.map λx=>match x with | (n,k)=>if (k==LO && env.scope.kind == .function && env.kindOf n==bQ .cell)=dt then (n,Nr)else (n,k)):=λU=>by rw[Mp,hx]
   rw[Mp (k:=n),hx];dsimp only;split
   ·rw[this];exact O
   ·rw[this];exact O
noncomputable def wM(scope:g9)(env:n4)(L:eg):n4:=
 {scope:=z4 scope env,locals:=L,globals:=env.globals,cells:=sh (L+1) scope.names<|KA env.cells scope.names [],qual:=env.qual,func:=none,code:=env.code,frame:=env.frame,builtins:=env.builtins}
noncomputable def jx(X:Cx)(scope:g9)(I:List Str)(fp:List eg)(C:eF)(H:Hp):Cx:=
 {X with N:=I,m4:=C,D8:=H,env:=wM scope X.env<|C.heap.objs.size+1,outer:=X.stack,stack:=X.stack,ex:=fp,fn:=λx=>scope.names.lookup x==bQ .cell,pn:=[],xe:=λ_ _=>False}
structure qq(X:Cx)(scope:g9)(fr:List (Str×Nat)):Prop where
 kind:scope.kind = .function
 nd:(scope.names.map (·.1)).Nodup
 free : ∀p∈scope.names,p.2=LO->X.env.kindOf p.1=bQ .cell\/X.env.kindOf p.1=bQ .free
 fr : ∀p∈fr,scope.names.lookup p.1=bQ .free/\X.N[p.2]? = bQ p.1
noncomputable def iY(own:List Str)(fr:List (Str×Nat))(C:St):St:=own.map (λ_=>none)++fr.map λp=>(C[p.2]?).join
abbrev Vw:l7:={cls:= .type "list",data:= .seq #[]}
abbrev oS:l7:={cls:= .type "dict",data:= .dict #[]}
theorem mJ{X:Cx}{H:RW}{L:St}{J:Hp}{C:eF}{scope:g9}{own:List Str}{fr:List (Str×Nat)}{fp:List eg}(I:Inv X H L J C)(ok:qq X scope fr)
 (Y : ∀b∈fp,Ks X H J b) (Z : ∀b∈fp,∃o,C.heap.get? b=bQ o) :
 Inv (jx X scope (own++fr.map (·.1)) fp C J) [] (iY own fr L) (upd J C.heap.objs.size<|.lst []) {C with heap:=Dl ((C.heap.push Vw).push oS) scope.names}:=by
 have N:(C.heap.push Vw).objs.size=C.heap.objs.size+1:=Mn ..;have z2:((C.heap.push Vw).push oS).objs.size=C.heap.objs.size+2:=by rw[Mn,N]
 have a0 : ∀n c,(n,c)∈KA X.env.cells scope.names []->(n,LO)∈scope.names/\X.env.cells.lookup n=bQ c:=λn c h=>(WL h).resolve_left ⋯;have ac : ∀n c,X.env.cells.lookup n=bQ c->c<C.heap.objs.size:=λn c h=>by obtain⟨v,q⟩:=I.cell n c h;exact q.lt
 have P : ∀p∈KA X.env.cells scope.names [],p.2<C.heap.objs.size+1+1:=λp U=>by exact Mk<|Mk<|ac p.1 p.2 (a0 p.1 p.2 U).2
 have hC:(wM scope X.env<|C.heap.objs.size+1).cells=sh (C.heap.objs.size+2) scope.names (KA X.env.cells scope.names []):=rfl;have a : ∀x c,(wM scope X.env<|C.heap.objs.size+1).cells.lookup x=bQ c->((x,LO)∈scope.names/\X.env.cells.lookup x=bQ c)\/(C.heap.objs.size+2<=c/\(x,Nr)∈scope.names):=λx c h=>by
  rcases kh (mem_of_lookup h)with h | h
  ·exact .inl<|a0 x c h
  ·exact .inr h
 have E : ∀x,(x,LO)∈scope.names->∃c,X.env.cells.lookup x=bQ c/\(wM scope X.env<|C.heap.objs.size+1).cells.lookup x=bQ c:=λx r=>by
  obtain⟨c,f⟩:=I.ok.has x<|ok.free (x,.free) r rfl;have w:((KA X.env.cells scope.names []).lookup x).isSome=dt:=JN<|.inr ⟨r,by rw[f];rfl⟩;have l:=Oa scope.names (C.heap.objs.size+2) (KA X.env.cells scope.names [])<|.inr w;obtain⟨K,F⟩:=Nb.mp l;refine⟨c,f,?_⟩;rcases a x K F with⟨_,q⟩ | ⟨_,q⟩
  ·rw[f]at q;cases q;exact F
  ·exact absurd ((vn ok.nd q).symm.trans (vn ok.nd r)) ⋯
 have keep : ∀b o,C.heap.get? b=bQ o->(Dl ((C.heap.push Vw).push oS) scope.names).get? b=bQ o:=λb o e=>
  Pb _ _ b o (IW _<|IW _ e)
 have an : ∀b∈fp,b<C.heap.objs.size:=λb O=>by obtain⟨o,e⟩:=Z b O;exact Ln e
 have fresh:J C.heap.objs.size=none:=I.gB.fresh<|Le _;have G : ∀c,C.heap.objs.size<c->(upd J C.heap.objs.size<|.lst []) c=none:=λc f=>by rw[zS (NX f)];exact I.gB.fresh<|Py f
 obtain⟨m0,Q⟩ : ∃m,(Dl ((C.heap.push Vw).push oS) scope.names).Ns (C.heap.objs.size+1) m:=by have q:=(Heap.Ns.new (C.heap.push Vw) (.type "dict")).keeps (λb o e=>Pb scope.names _ b o e);rw[N]at q;exact⟨_,q⟩
 refine⟨⟨I.ok.mod,ok.kind,I.ok.glob,I.ok.blt,Nat.le_succ _,λx y c w l=>?_,λx r=>?_,λx c hf h=>?_,I.ok.hd,I.ok.frames,.inl rfl,λb O=>⟨?_,λx c h z=>?_⟩,λb o e=>I.bs b o e,?_,λb o e O=>?_,λb O hs=>?_,I.stack,I.Tn⟩,
  rfl,I.bare,Un.laid keep (Le _) fresh,⟨m0,Q,λi x v M d e3=>?_⟩,λx c h=>?_,?_,λx c h=>?_,λp U=>?_,?_,?_⟩
 ·have q:=yz (names:=scope.names) (k:=C.heap.objs.size+2) (acc:=KA X.env.cells scope.names []) (λp U q hq e=>I.ok.inj p.1 q.1 p.2 (a0 _ _ U).2 (by rw[e];exact(a0 _ _ hq).2)) P
  exact q (x,c) (mem_of_lookup w) (y,c) (mem_of_lookup l) rfl
 ·have g:(z4 scope X.env).names.lookup x=bQ .cell\/(z4 scope X.env).names.lookup x=bQ .free:=r
  have:scope.names.lookup x=bQ .cell\/scope.names.lookup x=bQ .free:=by
   rw[vC]at g;cases e:scope.names.lookup x with
   | none=>rw[e]at g;simp at g
   | some k=>
    rw[e]at g;cases k<;>simp at g ⊢
  rcases this with h | h
  ·exact Nb.mp<|Oa scope.names _ _<|.inl h
  ·obtain⟨c,_,l⟩:=E x<|mem_of_lookup h;exact⟨c,l⟩
 ·have R:(scope.names.lookup x==bQ .cell)=dt:=hf
  have S:scope.names.lookup x=bQ .cell:=by simpa using R
  rcases a x c h with⟨q,_⟩ | ⟨q,_⟩
  ·exact absurd ((vn ok.nd q).symm.trans S) ⋯
  ·exact Mj (LY _ 2) q
 ·exact Lw<|Mk<|an b O
 ·rcases a x c h with⟨_,q⟩ | ⟨q,_⟩
  ·exact(Y b O).2.2.2.2.1 x c q z
  ·exact absurd (LA (an b O)<|Mj (LY _ 2)<|z ▸ q)<|Mi _
 ·exact Mj I.ok.Dh I.sz
 ·rcases (Y b O).2.2.2.1 with q | q
  ·exact I.ok.F6 b o e q
  ·exact absurd (LA (Ln e)<|Mj I.ok.Dh q)<|Mi _
 ·rcases Lo.mp (I.Sq b hs)with q | q
  ·exact(Y b O).2.1 q
  ·exact(Y b O).2.2.1 q
 ·have hi:i<(own++fr.map (·.1)).length:=(Lh.mp M).1
  by_cases t:i<own.length
  ·unfold iY at d
   rw[Mm (by simpa using t)]at d;simp[Lz,t]at d
  ·have hj : ∃p,fr[i - own.length]? = bQ p/\p.1=x/\(L[p.2]?).join=bQ v:=by
    unfold iY at d;have j:(own++fr.map (·.1))[i]? = bQ x:=M;rw[Mf ⋯,Lz]at j;rw[Mf (by simpa using t),Lz,Ly]at d;cases q:fr[i - own.length]? with
    | none=>rw[q]at j;cases j
    | some p=>
     rw[q]at j d;exact⟨p,rfl,by simpa using j,by simpa using d⟩
   obtain⟨p,U,T,s⟩:=hj;obtain⟨g1,g2⟩:=ok.fr p<|LJ U;rw[T]at g1 g2;have A:L[p.2]? = bQ (bQ v):=by
    cases q:L[p.2]? with
    | none=>rw[q]at s;cases s
    | some o=>rw[q]at s;simpa using s
   have as:=ok.free (x,.free) (mem_of_lookup g1) rfl;obtain⟨m,hn,hl⟩:=I.loc;obtain⟨u,ru,lk⟩:=hl p.2 x v g2 A (by rcases as with k | k;exact .inr<|.inl k;exact .inr<|.inr k);refine⟨u,ru,.inr ?_⟩;obtain⟨c,W,bn⟩:=E x<|mem_of_lookup g1;have br:C.heap.IsCell c (bQ u):=by
    rcases lk with⟨k,_⟩ | ⟨_,K,e,z⟩
    ·rcases as with k' | k'<;>rw[k]at k'<;>cases k'
    ·rw[W]at e;cases e;exact z
   refine⟨?_,c,bn,br.keeps keep⟩;show(z4 scope X.env).names.lookup x=bQ .cell\/(z4 scope X.env).names.lookup x=bQ .free;rw[vC,g1];dsimp only[PX];split
   ·exact .inl rfl
   ·exact .inr rfl
 ·rcases kh (mem_of_lookup h)with q | q
  ·obtain⟨v,B⟩:=I.cell x c (a0 x c q).2
   exact⟨v,B.keeps keep⟩
  ·have q2:=mem_of_lookup h
   have q3:(x,c)∈sh ((C.heap.push Vw).push oS).objs.size scope.names (KA X.env.cells scope.names []):=by rw[z2];exact q2
   rcases JX q3 with q4 | q4
   ·obtain⟨v,B⟩:=I.cell x c (a0 x c q4).2
    exact⟨v,B.keeps keep⟩
   ·exact⟨none,q4⟩
 ·exact G _<|Nl _
 ·rcases a x c h with⟨_,q⟩ | ⟨q,_⟩
  ·rw[zS (Lw<|ac x c q)];exact I.A6 x c q
  ·exact G c<|LA (Mk<|Nl _) q
 ·exact absurd (show p∈([]:RW)from U) ⋯
 ·refine I.gB.laid keep (Le _) ⟨Ms _,[],0,.nil,?_⟩
  exact Pb _ _ _ _<|IW _<|Lv _ rfl
 ·show(iY own fr L).length=(own++fr.map (·.1)).length
  simp[iY]
theorem vx(I:Nat->eF->Prop)
 (L : ∀n s,I n s->wpAny (eY prog w) A (A7 it) (λr O=>match r with
   | none=>R (.ok .next) O
   | some v=>wpAny (eY prog w) A (M3 target it v) (λ_ O=>wpAny (eY prog w) A (t9 target env v) (λ_ C=>
    wpAny (eY prog w) A (forIn ifs dt λc r=>if r=dt then do let ok <- DE c env (eA c env);pure (Pg ok)else pure (Pg r)) (λok U=>
     if ok=dt then wpAny (eY prog w) A (eA elt env) (λx H=>
      wpAny (eY prog w) A (call (.builtin "list.append") [acc,x]) (λ_ J=>∃m,m<n/\I m J) (λ_ _=>False) H) (λ_ _=>False) U
     else ∃m,m<n/\I m U) (λ_ _=>False) C) (λ_ _=>False) O) (λ_ _=>False) O) (λ_ _=>False) s)
 (n:Nat) (h:I n s) :
 codeAny (eY prog w) A (.compLoop (.ListComp elt [⟨target,iter,ifs,0⟩] scope pos) 0 it acc env) R s:=by
 refine codeAny_loop rfl I (λn s j=>?_) n h;show wpAny _ A ((compTurn (.ListComp elt [⟨target,iter,ifs,0⟩] scope pos) 0 it acc env).onRaise (λx=>do noteFrame x env;theTreesLotGoes x)) _ _ s;refine wpAny_noted ?_;rw[compTurn_list];refine IU<|wpAny_standAt<|IU<|Oe (L n s j) (λr O b=>?_) λ_ _ a=>a.elim;cases r with
 | none=>exact Lf b
 | some v=>
  refine IU<|Oe b (λ_ k i=>?_) λ_ _ a=>a.elim;refine IU<|Oe i (λ_ C e=>IU<|Oe e (λok U d=>?_) λ_ _ a=>a.elim) λ_ _ a=>a.elim;cases ok with
  | false=>exact Lf ⟨rfl,d⟩
  | true=>
   exact IU<|IU<|Oe d (λx H f=>IU<|Oe f (λ_ J g=>Lf<|Lf ⟨rfl,g⟩) λ_ _ a=>a.elim) λ_ _ a=>a.elim
noncomputable def uC(X:Cx)(C:List eu)(t:TT):Prop:=
 ∀(a:RW) (s:eF) (b:St) (H:Hp) (Q:Bool->Hp->Prop),Inv X a b H s->t b H Q->
  wpAny (eY X.prog X.w) X.A (forIn C dt λc r=>if r=dt then do let ok <- DE c X.env (eA c X.env);pure (Pg ok)else pure (Pg r)) (TP X a b Q) X.xe s
def EK:TT:=λ_ H Q=>Q dt H
theorem ZV:uC X [] EK:=λ_ _ _ H _ I h=>wpAny_tests_nil ⟨H,I,h⟩
theorem Wz(h:PT X c t):uC X [c] t:=λa s b H Q I O=>wpAny_tests_one<|h a s b H Q I O
noncomputable def CW(J:It)(g:TG)(C:TT)(te:TE)(D:eg)(Q:VK)(W:Nat->Nat->List V->St->Hp->Prop):Prop:=
 ∀i m a f H,W i m a f H->H D=bQ (.lst a)/\((J.stop i H/\Q (.ref D) H)\/(J.go i H/\a.length<gv/\∀x e,J.Be i H x e->g x f e λI h=>C I h λb O=>
  if b=dt then te I O λv U=>U D=bQ (.lst a)/\∃d,d<m/\W (i+1) d (a++[v]) I (upd U D<|.lst<|a++[v])else ∃d,d<m/\W (i+1) d a I O))
noncomputable def nE(X:Cx)(C:RW)(H:Hp)(L:eg):Prop:=
 H L=none/\L≠X.env.locals/\X.m4.heap.objs.size<=L/\(∀x c,X.env.cells.lookup x=bQ c->c≠L)/\∀p∈X.pn++C,p.1≠L
theorem nq
 (hc:X.calm=dt) (I:Inv X pins σ H2 s2) (ok:qq X scope fr) (T:Turn X.prog X.w X.K tg J fp it tn) (st:tn 0 s2.heap) (L : ∀b∈fp,Ks X pins H2 b)
 (hg:PG (jx X scope (own++fr.map (·.1)) fp s2 H2) tg g) (ht:uC (jx X scope (own++fr.map (·.1)) fp s2 H2) ifs tt) (he:PE (jx X scope (own++fr.map (·.1)) fp s2 H2) elt te)
 (hW : ∀D,H2 D=none->∃W:Nat->Nat->List V->St->Hp->Prop,(∃m,W 0 m [] (iY own fr σ) (upd H2 D<|.lst []))/\CW J g tt te D Q W) :
 wpAny (eY X.prog X.w) X.A (newList []) (λacc Y=>wpAny (eY X.prog X.w) X.A (Ta scope X.env.globals (KA X.env.cells scope.names []) [] X.env.qual none .none (bQ X.env)) (λab Z=>
  codeAny (eY X.prog X.w) X.A (.compStart (.ListComp elt [⟨tg,iter,ifs,0⟩] scope pos) 0 (.ref it) acc {ab with scope:=z4 scope X.env})
   (λr H=>(∃f,r = .ok f)/\∃D C,acc = .ref D/\Inv X pins σ C H/\Q (.ref D) C/\(∃m,H.heap.Ns ab.locals m)/\nE X pins C ab.locals) Z) E Y) E s2:=by
 have b0 : ∀b∈fp,∃o,s2.heap.get? b=bQ o:=λb O=>by obtain⟨o,e,_⟩:=T.obj 0 _ st b O;exact⟨o,e⟩
 have R:=mJ (own:=own) I ok L b0;obtain⟨W,⟨m0,w0⟩,cw⟩:=hW _ I.fresh;refine Na<|kX ?_;have z1:(s2.heap.push Vw).objs.size=s2.heap.objs.size+1:=Mn ..;show codeAny _ _ (.compStart _ 0 (.ref it) (.ref s2.heap.objs.size) {scope:=z4 scope X.env,locals:=(s2.heap.push Vw).objs.size,globals:=X.env.globals,cells:=sh ((s2.heap.push Vw).objs.size+1) scope.names<|KA X.env.cells scope.names [],qual:=X.env.qual,func:=none,code:=X.env.code,frame:=X.env.frame,builtins:=X.env.builtins})
  (λr H=>(∃f,r = .ok f)/\∃D C,MD s2.heap.objs.size = .ref D/\Inv X pins σ C H/\Q (.ref D) C/\(∃m,H.heap.Ns (s2.heap.push Vw).objs.size m)/\nE X pins C (s2.heap.push Vw).objs.size) {s2 with heap:=Dl ((s2.heap.push Vw).push oS) scope.names}
 rw[z1];have b5:tn 0 (Dl ((s2.heap.push Vw).push oS) scope.names):=T.keep 0 _ _ st λb _ o e=>Pb _ _ b o<|IW _<|IW _ e;have c1 : ∀b∈fp,b<s2.heap.objs.size:=λb O=>by obtain⟨o,e⟩:=b0 b O;exact Ln e
 have ac : ∀{C:Hp},(∀b∈fp,C b=none)->∀b∈fp,Ks (jx X scope (own++fr.map (·.1)) fp s2 H2) [] C b:=λhn b O=>
  ⟨hn b O,(R.ok.L7 b O).1,R.ok.E9 b O,.inl O,(R.ok.L7 b O).2,λp hp=>absurd (show p∈([]:RW)from hp) ⋯⟩
 have b6:codeAny (eY X.prog X.w) X.A (.compLoop (.ListComp elt [⟨tg,iter,ifs,0⟩] scope pos) 0 (.ref it) (.ref s2.heap.objs.size)<|wM scope X.env<|s2.heap.objs.size+1)
  (λr H=>(∃f,r = .ok f)/\∃D C,MD s2.heap.objs.size = .ref D/\Inv X pins σ C H/\Q (.ref D) C/\(∃m,H.heap.Ns (s2.heap.objs.size+1) m)/\nE X pins C (s2.heap.objs.size+1)) {s2 with heap:=Dl ((s2.heap.push Vw).push oS) scope.names}:=by
  refine vx (λn H=>∃i B G C,Inv (jx X scope (own++fr.map (·.1)) fp s2 H2) [] G C H/\tn i H.heap/\(∀b∈fp,C b=none)/\W i n B G C) ?_ m0
   ⟨0,[],_,_,R,b5,λb O=>by rw[zS (Lw<|c1 b O)];exact(L b O).1,w0⟩
  rintro n s3 ⟨i,B,a,N,I3,t,b9,w3⟩;obtain⟨hD,c3⟩:=cw i n B a N w3;rcases c3 with⟨y,qn⟩ | ⟨go,hz,step⟩
  ·refine fk (T.done (jx X scope (own++fr.map (·.1)) fp s2 H2) rfl rfl rfl hc i [] s3 a N _ I3 (ac b9) t y) λr s4 U=>?_
   obtain⟨hr,j⟩:=U;subst hr;refine⟨⟨_,rfl⟩,_,N,rfl,I.TV (ch:=fp) j.os j.base j.gB j.bare<|λb O=>⟨(L b O).2.2.2.1,(L b O).2.1,(L b O).2.2.2.2.1,(L b O).2.2.2.2.2⟩,qn,?_,j.free,?_,?_,?_,?_⟩
   ·obtain⟨m,hn,_⟩:=j.loc
    exact⟨m,hn⟩
   ·exact NX<|Mk I.lt
   ·exact Rl I.sz
   ·intro x c e z
    obtain⟨v,q⟩:=I.cell x c e;exact absurd (Mk q.lt) (by rw[z];exact Mi _)
   ·intro p hp z
    exact absurd (Mk<|Ln (I.pin p hp).1) (by rw[z];exact Mi _)
  ·refine fk (T.item (jx X scope (own++fr.map (·.1)) fp s2 H2) rfl rfl rfl hc i [] s3 a N _ I3 (ac b9) t go) λr s4 U=>?_
   obtain⟨u,hr,h4⟩:=U;subst hr;refine fk h4 λ_ s5 U=>?_;obtain⟨x,H5,I5,r5,y5,am,ca⟩:=U;have cb:=I5.pinned (ac ca)<|T.obj _ _ am;refine fk (hg _ s5 a H5 x u _ cb r5<|step x H5 y5) λ_ s6 U=>?_;obtain⟨h,H6,I6,q6⟩:=U;refine fk (ht _ s6 h H6 _ I6 q6) λb s7 U=>?_;obtain⟨H7,S,q7⟩:=U;have after : ∀{M:St} {P:Hp} {s:eF},Inv (jx X scope (own++fr.map (·.1)) fp s2 H2) ([]++Yj fp s5.heap) M P s->tn (i+1) s.heap/\∀b∈fp,P b=none:=λ{M P s} k=>by refine⟨T.keep _ _ _ am λb O o e=>(k.pin (b,o)<|Mw _<|Mw _<|vm O e).1,λb O=>?_⟩;obtain⟨o,e,d⟩:=T.obj _ _ am b O;exact(k.pin (b,o)<|Mw _<|Mw _<|vm O e).2.1
   cases b with
   | false=>
    rw[EQ LN]at q7 ⊢;obtain⟨m',hm,w7⟩:=q7;exact⟨m',hm,i+1,B,h,H7,S.G7,(after S).1,(after S).2,w7⟩
   | true=>
    rw[RY rfl]at q7 ⊢;refine fk (he _ s7 h H7 _ S q7) λv8 s U=>?_;obtain⟨x8,P,k,r8,bg,m',hm,w8⟩:=U;obtain⟨z8,l,n8,rv,cx,e8⟩:=k.F3 bg;refine OC F.slot_list_append ⟨_,e8,rfl⟩ F.entry_list_append (F.args_list_append_2 _ _) (PySem.list_append _ l.toArray n8 v8<|by rw[Li];omega) ⟨e8,?_⟩;have I9:=k.Dk (its':=l++[v8]) (f:=(·.push v8)) (t':=s.toks) bg e8 ⋯ (rv.append<|.cons r8 .nil) (by rw[Md,MX];omega);exact⟨m',hm,i+1,B++[x8],h,_,I9.G7,(after I9).1,(after I9).2,w8⟩
 exact codeAny_compStart_list b6<|T.self _ 0 _ _ _ b5 b6
noncomputable def cK(I:TI)(own:List Str)(fr:List (Str×Nat))(g:TG)(C:TT)(te:TE):TE:=λb H Q=>I b H λJ a=>∀D,a D=none->
 ∃W:Nat->Nat->List V->St->Hp->Prop,(∃m,W 0 m [] (iY own fr b) (upd a D<|.lst []))/\CW J g C te D Q W
section
variable{X:Cx}{scope:g9}{own:List Str}{fr:List (Str×Nat)}{elt tg iter:eu}{ifs:List eu}{pos:g8}{wi:TI}{g:TG}{tt:TT}{te:TE}
theorem af
 (O:X.calm=dt) (ok:qq X scope fr) (hi:PI X tg iter wi) (U : ∀fp Y C,PG (jx X scope (own++fr.map (·.1)) fp Y C) tg g)
 (ht : ∀fp Y C,uC (jx X scope (own++fr.map (·.1)) fp Y C) ifs tt) (he : ∀fp Y C,PE (jx X scope (own++fr.map (·.1)) fp Y C) elt te)
 (I:Inv X pins σ H s) (h:cK wi own fr g tt te σ H Q)
 (hR : ∀D Z s' L,Inv X pins σ Z s'->Q (.ref D) Z->(∃m,s'.heap.Ns L m)->nE X pins Z L->
   compPost (eY X.prog X.w) X.A X.xe use R (.ref D) L (.ok .next) s')
 (hs : ∀x,n6 iter X.env x=pure x:=by intro _;rfl) :
 wpAny (eY X.prog X.w) X.A (comprehension (.ListComp elt [⟨tg,iter,ifs,0⟩] scope pos) scope X.env (firstIterPos [⟨tg,iter,ifs,0⟩] pos) (newList []) ed (eA iter X.env) use) R X.xe s:=by
 refine wpAny_comprehension_free rfl hs (Ko λn a=>I.ok.has n<|ok.free (n,.free) a rfl) ok.kind (λx F e=>by rw[<- e];exact vn ok.nd<|show(x.1,x.2)∈scope.names from F) ?_;refine fk (hi pins s σ H _ I h) λv N l=>fk l λK Y o=>?_;obtain⟨M,fp,W,J,C,e,d,T,i,f2,z⟩:=o;subst e;refine fk (nq (own:=own) (Q:=Q) (E:=X.xe) O d ok T i f2 (U fp Y C) (ht fp Y C) (he fp Y C) z) λacc P p=>fk p λj S t=>Rz t λr s' u=>?_;obtain⟨⟨f,B⟩,D,Z,k,b,q,a,y⟩:=u;subst B;subst k;have G:=hR D Z s' j.locals b q a y;cases use<;>exact G
theorem XZ(O:X.calm=dt)(ok:qq X scope fr)(hi:PI X tg iter wi)(U : ∀fp J C,PG (jx X scope (own++fr.map (·.1)) fp J C) tg g)
 (Z : ∀fp J C,uC (jx X scope (own++fr.map (·.1)) fp J C) ifs tt) (Y : ∀fp J C,PE (jx X scope (own++fr.map (·.1)) fp J C) elt te)
 (hs : ∀x,n6 iter X.env x=pure x:=by intro _;rfl) :
 PE X (.ListComp elt [⟨tg,iter,ifs,0⟩] scope pos) (cK wi own fr g tt te):=by
 intro a s A H Q I h;rw[eval_ListComp];refine af (use:=none) O ok hi U Z Y I h (λD d l L f q k y=>?_) hs;obtain⟨m,j⟩:=k;obtain⟨p,r,t,u,w⟩:=y;refine⟨m,j,λz n=>⟨.ref D,d,f.turned (t':=l.toks) (it:=L) (λb o i e=>n.extBut b o i e) p r (.inr t) u w,rfl,q⟩⟩
theorem Zi(U:X.N.Nodup)(Y:X.N[i]? = bQ y)(hy:Loc X.env.scope y)(hf:X.fn y=dt\/X.env.scope.names.lookup y=bQ .local)
 (Z:X.calm=dt) (ok:qq X scope fr) (hi:PI X tg iter wi) (hg : ∀fp J C,PG (jx X scope (own++fr.map (·.1)) fp J C) tg g)
 (ht : ∀fp J C,uC (jx X scope (own++fr.map (·.1)) fp J C) ifs tt) (he : ∀fp J C,PE (jx X scope (own++fr.map (·.1)) fp J C) elt te)
 (hs : ∀x,n6 iter X.env x=pure x:=by intro _;rfl) :
 PS X (.Assign [.Name y py] (.ListComp elt [⟨tg,iter,ifs,0⟩] scope pos) spos) (Wd (cK wi own fr g tt te)<|yP i):=by
 have O : ∃b:Bool,vu (.ListComp elt [⟨tg,iter,ifs,0⟩] scope pos) (bQ (.Name y py)) spos.line X.env=pure b:=⟨_,rfl⟩;obtain⟨b,O⟩:=O;cases b with
 | false=>
  have w:N3 [.Name y py] (.ListComp elt [⟨tg,iter,ifs,0⟩] scope pos) spos.line X.env=vu (.ListComp elt [⟨tg,iter,ifs,0⟩] scope pos) (bQ (.Name y py)) spos.line X.env:=rfl;exact Wy (XZ Z ok hi hg ht he hs) (dN U Y hy hf) (by rw[w];exact O)
 | true=>
  intro d s T H D I h;rw[exec_Assign_Name_used _ _ _ _ O];refine IU<|wpAny_standAt<|IU ?_;show wpAny _ X.A (do let _ <- comprehension (.ListComp elt [⟨tg,iter,ifs,0⟩] scope pos) scope X.env _ (newList []) ed (eA iter X.env) (bQ (t9 (.Name y py) X.env))) _ _ s;refine IU<|fk (af (R:=λ_ f=>SP X d D .next f) (use:=bQ (t9 (.Name y py) X.env)) Z ok hi hg ht he I h (λj Q f L l q E P=>?_) hs) λ_ f q=>Lf<|Lf q;obtain⟨G,k,K,y4,M⟩:=P;obtain⟨m,B⟩:=E;show wpAny _ _ (t9 (.Name y py) X.env<|.ref j) _ _ _;refine UB<|KY l U Y hy (v:= .ref j) rfl (λn p r=>?_) hf;obtain⟨a,F,z⟩:=r;have t:L≠a:=by
   rcases z with e | e
   ·rw[e];exact k
   ·exact LC<|y4 _ _ e
  refine⟨m,B.sameBut F t,λS u=>⟨_,_,p.turned (t':=n.toks) (it:=L) (λb o O e=>u.extBut b o O e) G k (.inr K) y4 M,q⟩⟩
end
inductive Sk where
 | L | T
 deriving DecidableEq
end L2
namespace DL
open PySem L2
inductive D where
 | e7 | bl (b:Bool) | int (i:Int) | str (x:Str) | tup (xs:List D) | lst (xs:List D)
 | md (ks vs:List D)
 | lq (ks:List (List Int)) (vs:List D)
inductive Cell where
 | no | val (d:D) | own (ds:List D) | nest (rows:List (List D))
abbrev Ctx:=List Cell
abbrev CO (a : Type) := Ctx -> Option a
def lim:Nat:=2500
noncomputable def je:D->Option (Sk×List D)
 | .tup a=>bQ (.T,a)
 | .lst a=>bQ (.L,a)
 | _=>none
def zw(f:CO D)(γ:Ctx):Option (Sk×List D):=(f γ).bind je
def jA(f:CO (List D))(γ:Ctx):Option D:=(f γ).map D.lst
noncomputable def jL(f:CO (List D))(γ:Ctx):Option (Sk×List D):=(f γ).map λa=>(Sk.L,a)
noncomputable def gp:Option Cell->Option D
 | some (.val d)=>bQ d
 | _=>none
noncomputable def vR:Option Cell->Option (Sk×List D)
 | some (.val d)=>je d
 | some (.own ds)=>bQ (.L,ds)
 | _=>none
def zc(i:Nat)(γ:Ctx):Option D:=gp γ[i]?
def ze(i:Nat)(γ:Ctx):Option (Sk×List D):=vR γ[i]?
noncomputable def zv(d:D):CO D:=λ_=>bQ d
noncomputable def zH(F:D->D->Option D)(C H:CO D)(γ:Ctx):Option D:=(C γ).bind λx=>(H γ).bind λy=>F x y
def rd:D->Option Bool
 | .bl b=>bQ b
 | _=>none
def l0:D->Option Int
 | .int i=>bQ i
 | _=>none
def sB(f:CO D)(γ:Ctx):Option Bool:=(f γ).bind rd
noncomputable def iO(f g:CO Bool)(γ:Ctx):Option Bool:=(f γ).bind λb=>if b=dt then g γ else bQ ed
noncomputable def w5(f g:CO Bool)(γ:Ctx):Option Bool:=(f γ).bind λb=>if b=dt then bQ dt else g γ
def j8(f:CO Bool)(γ:Ctx):Option Bool:=(f γ).map λb=> !b
noncomputable def aM(f g:CO D)(γ:Ctx):Option D:=((f γ).bind rd).bind λb=>if b=dt then g γ else bQ (.bl ed)
noncomputable def Up(f g:CO D)(γ:Ctx):Option D:=((f γ).bind rd).bind λb=>if b=dt then bQ (.bl dt)else g γ
noncomputable def CG(f:CO D)(γ:Ctx):Option D:=((f γ).bind rd).map λb=> .bl (!b)
noncomputable def hJ(c:CO Bool)(f g:CO D)(γ:Ctx):Option D:=(c γ).bind λb=>if b=dt then f γ else g γ
def zD:CO (List D):=λ_=>bQ []
noncomputable def za(f:CO D)(g:CO (List D))(γ:Ctx):Option (List D):=(f γ).bind λx=>(g γ).map λr=>x::r
noncomputable def qQ(f:CO (List D))(γ:Ctx):Option D:=(f γ).bind λa=>if a.length<=lim then bQ (.tup a)else none
noncomputable def qm(f:CO (List D))(γ:Ctx):Option (List D):=(f γ).bind λa=>if a.length<=lim then bQ a else none
inductive Res where
 | val (d:D) | own (ds:List D)
inductive Fl where
 | next (γ:Ctx) | brk (γ:Ctx) | cont (γ:Ctx) | ret (r:Res)
def jZ(γ:Ctx):Option Fl:=bQ (.next γ)
noncomputable def zN(F G:CO Fl):CO Fl:=λb=>(F b).bind λI=>match I with
 | .next a=>G a
 | f=>bQ f
noncomputable def jM(f:CO D)(γ:Ctx):Option Fl:=(f γ).map λd=> .ret (.val d)
noncomputable def yO(f:CO (List D))(γ:Ctx):Option Fl:=(f γ).map λd=> .ret (.own d)
noncomputable def VO:Option Cell->Option Fl
 | some (.val d)=>bQ (.ret<|.val d)
 | some (.own ds)=>bQ (.ret<|.own ds)
 | _=>none
def JA(i:Nat)(γ:Ctx):Option Fl:=VO γ[i]?
def II(γ:Ctx):Option Fl:=bQ (.brk γ)
def rG(γ:Ctx):Option Fl:=bQ (.cont γ)
def JB:CO Fl:=λ_=>none
noncomputable def h7(k:CO Bool)(F G:CO Fl)(γ:Ctx):Option Fl:=(k γ).bind λb=>if b=dt then F γ else G γ
noncomputable def jo(i:Nat)(f:CO D)(γ:Ctx):Option Fl:=(f γ).map λd=> .next (γ.set i<|.val d)
noncomputable def xf(i:Nat)(f:CO (List D))(γ:Ctx):Option Fl:=(f γ).map λa=> .next (γ.set i<|.own a)
def rF(f:CO D)(γ:Ctx):Option Fl:=(f γ).map λ_=> .next γ
noncomputable def qL:Option Cell->Option (List D)
 | some (.own ds)=>bQ ds
 | _=>none
noncomputable def jV(i:Nat)(f:CO D)(γ:Ctx):Option Fl:=(qL γ[i]?).bind λa=>(f γ).bind λd=>if a.length<lim then bQ (.next<|γ.set i<|.own<|a++[d])else none
noncomputable def z7(n:Nat)(ds:List D):Ctx:=ds.map Cell.val++La (n - ds.length) Cell.no
noncomputable def jn(n:Nat)(F:CO Fl)(ds:List D):Option Res:=(F<|z7 n ds).bind λI=>match I with
 | .ret r=>bQ r
 | .next _=>bQ (.val .e7)
 | _=>none
def Ya:Res->D
 | .val d=>d
 | .own a=> .lst a
noncomputable def zC(F:List D->Option Res)(g:CO (List D))(γ:Ctx):Option D:=(g γ).bind λa=>(F a).map Ya
def hV:Res->Option (List D)
 | .own a=>bQ a
 | _=>none
noncomputable def ja(F:List D->Option Res)(g:CO (List D))(γ:Ctx):Option (List D):=(g γ).bind λa=>(F a).bind hV
noncomputable def kM(lo:Int)(n:Nat):List D:=(IS n).map λ(i:Nat)=>D.int<|lo+(i:Int)
noncomputable def vZ(ds es:List D):List D:=(ds.zip es).map λp=>D.tup [p.1,p.2]
noncomputable def zF(f:CO (Sk×List D))(γ:Ctx):Option (List D):=(f γ).map (·.2)
def inR(i:Int):Bool:=decide<|i.natAbs<2 ^ 62
noncomputable def zR(f:CO D)(γ:Ctx):Option (List D):=((f γ).bind l0).bind λn=>if inR n=dt then bQ (kM 0 n.toNat)else none
noncomputable def vJ(f g:CO D)(γ:Ctx):Option (List D):=((f γ).bind l0).bind λm=>((g γ).bind l0).bind λn=>if inR m=dt/\inR n=dt then bQ (kM m (n - m).toNat)else none
noncomputable def aK(f g:CO D)(γ:Ctx):Option (List D):=((f γ).bind je).bind λm=>((g γ).bind je).map λn=>vZ m.2 n.2
inductive Tg where
 | nm (i:Nat) | tp (is:List Nat)
noncomputable def xt:List Nat->List D->Ctx->Ctx
 | i::is,d::ds,γ=>xt is ds<|γ.set i<|.val d
 | _,_,γ=>γ
noncomputable def x9:Tg->D->CO Ctx
 | .nm i,d,γ=>bQ (γ.set i<|.val d)
 | .tp is,.tup ds,γ=>if ds.length=is.length then bQ (xt is ds γ)else none
 | _,_,_=>none
noncomputable def xX(T:Tg)(F:CO Fl):List D->CO Fl
 | [],a=>bQ (.next a)
 | d::e,a=>(x9 T d a).bind λb=>(F b).bind λO=>match O with
  | .next I=>xX T F e I
  | .cont I=>xX T F e I
  | .brk I=>bQ (.next I)
  | .ret r=>bQ (.ret r)
noncomputable def xU(C:CO (List D))(T:Tg)(F:CO Fl)(γ:Ctx):Option Fl:=(C γ).bind λa=>xX T F a γ
def kg:Cell->Cell
 | .own _=> .no
 | .nest _=> .no
 | c=>c
noncomputable def z6(n:Nat)(fr:List Nat)(γ:Ctx):Ctx:=La n Cell.no++fr.map λj=>kg<|γ[j]?.getD .no
noncomputable def zQ(T:Tg)(k:CO Bool)(f:CO D)(γ:Ctx):List D->Option (List D)
 | []=>bQ []
 | d::ds=>(x9 T d γ).bind λa=>(k a).bind λb=>if b=dt then (f a).bind λe=>(zQ T k f γ ds).map λr=>e::r else zQ T k f γ ds
noncomputable def zP(C:CO (List D))(T:Tg)(n:Nat)(fr:List Nat)(k:CO Bool)(f:CO D)(γ:Ctx):Option (List D):=(C γ).bind λa=>if a.length<=lim then zQ T k f (z6 n fr γ) a else none
def jj:CO Bool:=λ_=>bQ dt
def Tg.idx:Tg->List Nat
 | .nm i=>[i]
 | .tp is=>is
noncomputable def dI(g:Int->Int->D):D->D->Option D
 | .int i,.int j=>bQ (g i j)
 | _,_=>none
noncomputable def E8(c:Int->Int->Bool)(g:Int->Int->D):D->D->Option D
 | .int i,.int j=>if c i j=dt then bQ (g i j)else none
 | _,_=>none
def Ja:D->D->Option D:=dI λi j=> .int (i - j)
noncomputable def JY(i j:Int):Bool:=decide (i.natAbs<2 ^ 64) || decide (j.natAbs<2 ^ 64)
noncomputable def Cg(_ j:Int):Bool:=decide (0<j) && decide (j.natAbs<1073741824)
def Kl:D->D->Option D:=E8 Cg λi j=> .int (i/j)
def Eo(_ j:Int):Bool:=decide<|0<j
def yM:D->D->Option D:=E8 Eo λi j=> .int (i%j)
noncomputable def Cf(i j:Int):Bool:=decide (0<=j) && decide (j.natAbs<=1000000) && decide (i.natAbs<2 ^ 64)
def tG:D->D->Option D:=E8 Cf λi j=> .int (i ^ j.toNat)
def u0:D->D->Option D:=dI λi j=> .bl (decide<|i<j)
def o5:D->D->Option D:=dI λi j=> .bl (decide<|i<=j)
def ri:D->D->Option D:=dI λi j=> .bl (decide<|j<i)
def DT:D->D->Option D:=dI λi j=> .bl (decide<|j<=i)
noncomputable def qa:D->D->Option D
 | .int i,.int j=>bQ (.int<|i+j)
 | .tup xs,.tup ys=>if xs.length+ys.length<=lim then bQ (.tup<|xs++ys)else none
 | _,_=>none
noncomputable def kG:D->D->Option D
 | .int i,.int j=>if JY i j=dt then bQ (.int<|i*j)else none
 | .tup xs,.int j=>if xs.length*j.toNat<=lim/\inR j=dt then bQ (.tup (La j.toNat xs).flatten)else none
 | _,_=>none
noncomputable def K9(f g:CO (Sk×List D))(γ:Ctx):Option (List D):=(f γ).bind λa=>(g γ).bind λb=>
 match a.1,b.1 with
 | .L,.L=>if a.2.length+b.2.length<=lim then bQ (a.2++b.2)else none
 | _,_=>none
noncomputable def Ac(f:CO (Sk×List D))(g:CO D)(γ:Ctx):Option (List D):=(f γ).bind λa=>((g γ).bind l0).bind λj=>
 match a.1 with
 | .L=>if a.2.length*j.toNat<=lim/\inR j=dt then bQ (La j.toNat a.2).flatten else none
 | _=>none
noncomputable def f7(n:Nat)(i:Int):Option Nat:=if 0<=i/\i<n then bQ i.toNat else if i<0/\0<=i+n then bQ (i+n).toNat else none
noncomputable def dy(f:CO (Sk×List D))(g:CO D)(γ:Ctx):Option D:=(f γ).bind λa=>((g γ).bind l0).bind λi=>(f7 a.2.length i).bind λk=>a.2[k]?
noncomputable def Wm(i:Nat)(g f:CO D)(γ:Ctx):Option Fl:=(f γ).bind λd=>(qL γ[i]?).bind λa=>((g γ).bind l0).bind λk=>(f7 a.length k).map λj=> .next (γ.set i<|.own<|a.set j d)
noncomputable def VL(n dflt:Nat):Option Int->Nat
 | none=>dflt
 | some i=>if i<0 then (i+n).toNat else min i.toNat n
noncomputable def cg(xs:List D)(lo hi:Option Int):List D:=(xs.drop<|VL xs.length 0 lo).take (VL xs.length xs.length hi - VL xs.length 0 lo)
def bZ:CO (Option Int):=λ_=>bQ none
noncomputable def nf(f:CO D)(γ:Ctx):Option (Option Int):=((f γ).bind l0).map bQ
noncomputable def K7(f:CO D)(l h:CO (Option Int))(γ:Ctx):Option D:=(f γ).bind λd=>(l γ).bind λlo=>(h γ).bind λa=>match d with
 | .tup b=>bQ (.tup<|cg b lo a)
 | _=>none
noncomputable def xH(f:CO (Sk×List D))(γ:Ctx):Option D:=(f γ).map λa=> .int a.2.length
inductive Ty where
 | int | bool | str | tuple | list
 deriving DecidableEq
@[simp] def oM:D->Bool
 | .int _=>dt
 | .bl _=>dt
 | _=>ed
@[simp] def BR:D->Bool
 | .bl _=>dt
 | _=>ed
@[simp] def oI:D->Bool
 | .str _=>dt
 | _=>ed
@[simp] def oH:D->Bool
 | .tup _=>dt
 | _=>ed
@[simp] def oK:D->Bool
 | .lst _=>dt
 | _=>ed
noncomputable def cf:Ty->D->Bool
 | .int=>oM
 | .bool=>BR
 | .str=>oI
 | .tuple=>oH
 | .list=>oK
noncomputable def m3(T:Ty)(f:CO D)(γ:Ctx):Option D:=(f γ).map λd=> .bl (cf T d)
noncomputable def FD:Ty->Sk->Bool
 | .tuple,.T=>dt
 | .list,.L=>dt
 | _,_=>ed
noncomputable def IG(T:Ty)(f:CO (Sk×List D))(γ:Ctx):Option D:=(f γ).map λa=> .bl (FD T a.1)
@[simp] def T4:D->Bool
 | .e7=>dt
 | _=>ed
@[simp] noncomputable def eqB(a:Bool):D->Bool
 | .bl b=>a==b
 | .int b=>(if a then 1 else 0)==b
 | _=>ed
@[simp] noncomputable def T3(a:Int):D->Bool
 | .bl b=>a==(if b then 1 else 0)
 | .int b=>a==b
 | _=>ed
@[simp] def SV(a:Str):D->Bool
 | .str b=>a==b
 | _=>ed
@[simp] def UE(a:Str)(i:Option Int):D->Bool
 | _=>ed
mutual
def lL:D->D->Bool
 | .e7,y=>T4 y
 | .bl a,y=>eqB a y
 | .int a,y=>T3 a y
 | .str a,y=>SV a y
 | .tup xs,y=>match y with
  | .tup e=>u5 xs e
  | _=>ed
 | .lst xs,y=>match y with
  | .lst e=>u5 xs e
  | _=>ed
 | .md a b,y=>match y with
  | .md c d=>u5 a c && u5 b d
  | _=>ed
 | .lq a b,y=>match y with
  | .lq c d=>a==c && u5 b d
  | _=>ed
def u5:List D->List D->Bool
 | [],[]=>dt
 | x::xs,y::ys=>lL x y && u5 xs ys
 | _,_=>ed
end
mutual
def deep:D->Nat
 | .tup a=>u4 a+1
 | .lst a=>u4 a+1
 | _=>0
def u4:List D->Nat
 | []=>0
 | x::xs=>max (deep x)<|u4 xs
end
mutual
def i6:D->Bool
 | .str x=>x.cps.all (· < 0x110000)
 | .md _ _=>ed
 | .lq _ _=>ed
 | .tup a=>vr a
 | .lst a=>vr a
 | _=>dt
def vr:List D->Bool
 | []=>dt
 | x::xs=>i6 x && vr xs
end
def m9(d:D):Bool:=decide (deep d<=20) && i6 d
noncomputable def iQ(x y:D):Option D:=if m9 x=dt/\m9 y=dt then bQ (.bl<|lL x y)else none
noncomputable def h9(x y:D):Option D:=if m9 x=dt/\m9 y=dt then bQ (.bl<|!lL x y)else none
noncomputable def FW:D->D->Option D
 | x,.e7=>bQ (.bl<|match x with | .e7=>dt | _=>ed)
 | _,_=>none
noncomputable def zZ(f:CO (Sk×List D))(γ:Ctx):Option D:=(f γ).map λa=> .tup a.2
noncomputable def rC(f:CO (Sk×List D))(γ:Ctx):Option (List D):=(f γ).map λa=>a.2
noncomputable def aF:List D->Option Int
 | []=>bQ 0
 | .int i::r=>(aF r).map λs=>i+s
 | _::_=>none
noncomputable def gZ(f:CO (Sk×List D))(γ:Ctx):Option D:=(f γ).bind λa=>(aF a.2).map D.int
noncomputable def CD:D->Option Bool
 | .e7=>bQ ed
 | .bl b=>bQ b
 | .int i=>bQ (i != 0)
 | _=>none
noncomputable def Jn:List D->Option (List Bool)
 | []=>bQ []
 | d::r=>(CD d).bind λb=>(Jn r).map λs=>b::s
noncomputable def hU(f:CO (Sk×List D))(γ:Ctx):Option D:=(f γ).bind λa=>(Jn a.2).map λs=> .bl (s.all id)
noncomputable def uu(f:CO (Sk×List D))(γ:Ctx):Option D:=(f γ).bind λa=>(Jn a.2).map λs=> .bl (s.any id)
noncomputable def QB(f:CO D)(γ:Ctx):Option D:=(f γ).bind λd=>match d with
 | .int i=>bQ (.int i)
 | .bl b=>bQ (.int<|if b then 1 else 0)
 | _=>none
noncomputable def rB(f g:CO D)(γ:Ctx):Option D:=((f γ).bind l0).bind λi=>((g γ).bind l0).map λj=> .int (if j>i then j else i)
noncomputable def rz(f:CO (Sk×List D))(γ:Ctx):Option Bool:=(f γ).map λa=> !a.2.isEmpty
def rA(f:CO D):CO D:=λa=>((f a).bind l0).map λi=> .int (-i)
noncomputable def kK(F G:D->D->Option D)(C H I:CO D):CO D:=λa=>(C a).bind λx=>(H a).bind λy=>((F x y).bind rd).bind λb=>if b=dt then (I a).bind λz=>G y z else bQ (.bl ed)
noncomputable def ZM(T:Tg)(f:CO D)(γ:Ctx):Option Fl:=(f γ).bind λd=>(x9 T d γ).map .next
def Im:D->Option Int
 | .tup (.int k::_)=>bQ k
 | _=>none
noncomputable def BH:List D->Option (List Int)
 | []=>bQ []
 | d::r=>(Im d).bind λk=>(BH r).map λl=>k::l
noncomputable def Hi:List Int->Bool
 | a::b::r=>decide (a<b) && Hi (b::r)
 | _=>dt
noncomputable def Ii(ks:List Int):Nat:=(ks.dropLast.filter λk=>decide<|k<ks.getLast?.getD 0).length
noncomputable def Io(q:Nat)(ds:List D):List D:=ds.dropLast.take q++(ds.drop (ds.length - 1)++ds.dropLast.drop q)
noncomputable def EU(ds:List D):Option (List D):=(BH ds).bind λa=>if (1<=ds.length/\ds.length<=8)/\Hi a.dropLast=dt/\decide (a.getLast?.getD 0∈a.dropLast)=ed then bQ (Io (Ii a) ds)else none
noncomputable def EV(f:CO (Sk×List D))(γ:Ctx):Option (List D):=(f γ).bind λa=>match a.1 with
 | .L=>EU a.2
 | _=>none
noncomputable def FP:D->Bool
 | .tup _=>ed
 | .lst _=>ed
 | .md _ _=>ed
 | .lq _ _=>ed
 | _=>dt
end DL
namespace L2
open PySem PySem.Spec PyProof.Rows
noncomputable def i8(k:Sk)(h:fy)(i l:eg)(n:Nat):Prop:=match k with
 | .L=>h.IsListIter i l n
 | .T=>h.IsTupleIter i l n
noncomputable def l8(k:Sk)(h:fy)(l:eg)(xs:Array eh):Prop:=match k with
 | .L=>h.IsList l xs
 | .T=>h.IsTuple l xs
noncomputable def i7(k:Sk)(l:eg):l7:=match k with
 | .L=>{cls:= .type "list_iterator",data:= .fields #[.ref l,.int 0 0]}
 | .T=>{cls:= .type "tuple_iterator",data:= .fields #[.ref l,.int 0 0]}
theorem i8.at(x:i8 k h i l n)(e : ∀o,h.get? i=bQ o->h'.get? i=bQ o):i8 k h' i l n:=by cases k<;>exact let ⟨o,I,r⟩:=x;⟨o,e _ I,r⟩
theorem l8.at(x:l8 k h l xs)(e : ∀o,h.get? l=bQ o->h'.get? l=bQ o):l8 k h' l xs:=by cases k<;>exact let ⟨o,I,r⟩:=x;⟨o,e _ I,r⟩
theorem i8.obj(x:i8 k h i l n) : ∃o,h.get? i=bQ o/\∀v,o.data ≠ .cell v:=by cases k<;>exact let ⟨o,I,_,d⟩:=x;⟨o,I,λv z=>by rw[d]at z;cases z⟩
theorem l8.lt(x:l8 k h l xs):l<h.objs.size:=by cases k<;>exact let ⟨o,I,_⟩:=x;Ln I
theorem JQ(k:Sk)(h:fy)(l:eg):i8 k (h.push<|i7 k l) h.objs.size l 0:=by cases k<;>exact⟨_,Lv _ rfl,rfl,rfl⟩
section
variable{prog:i3}{w:h8}{A:nh}{E:RQ}{s:eF}
theorem Yz(I:l8 k s.heap l xs)(O:Q (.ref s.heap.objs.size) {s with heap:=s.heap.push (i7 k l)}):wpAny (eY prog w) A (M9<|.ref l) Q E s:=by
 cases k
 ·exact Rx I O
 ·exact wpAny_pyIter_tuple I O
theorem yb(U:i8 k s.heap it l i)(H:l8 k s.heap l items)(J:items[i]? = bQ x)
 (C : ∀h',i8 k h' it l (i+1)->Ox it s.heap h'->Q x {s with heap:=h'}):wpAny (eY prog w) A (LD<|.ref it) Q E s:=by
 cases k with
 | L=>exact wpAny_nextOf_list_item U H J C
 | T=>
  have O:s.heap.IsTupleIter it l i:=U;obtain⟨o,I,e,a⟩:=id O;obtain⟨g,b,_,f,d⟩:=(show s.heap.IsTuple l items from H);unfold LD;refine IU (Mo (name:=MT "__next__") O.typeIs Pa (ML Pa O.typeIs TY ?_ (TN _)));refine IU (m:=field (.ref it) 0) (MA I a (x:= .ref l) rfl ?_);show wpAny _ _ (if (MD l==Mu)=dt then _ else _) _ _ s;rw[EQ (show ¬((MD l==Mu)=dt)from LN)];refine IU (m:=field (.ref it) 1) (MA I a (x:= .int i 0) rfl ?_);refine IU (m:=seqItems? (.ref l)) (MQ b d ?_);simp only[Mt,J];refine IU (wpAny_setField I a ⋯ (Lf ⟨x,rfl,Lf (C _ ?_ (Ox.update ..))⟩));show Heap.IsTupleIter _ it l (i+1);exact⟨_,Nm _ I (Obj.isFreed_of_fields (Obj.data_mapFields a _)),(Obj.cls_mapFields ..).trans e,by rw[Obj.data_mapFields a];simp[D3]⟩
theorem ZX(I:A.handled=none)(C:i8 k s.heap it l i)(H:l8 k s.heap l items)(J:items[i]? = none)
 (hE : ∀h' e,Heap.ExtBut it s.heap h'->(∃o,h'.get? e=bQ o/\o.cls = .type "StopIteration")->E (.ref e) {s with heap:=h'}):wpAny (eY prog w) A (LD (.ref it)) Q E s:=by
 cases k with
 | L=>exact wpAny_nextOf_list_end I C H J hE
 | T=>
  have O:s.heap.IsTupleIter it l i:=C;obtain⟨o,U,g,b⟩:=id O;obtain⟨j,d,_,h,f⟩:=(show s.heap.IsTuple l items from H);unfold LD;refine IU (Mo (name:=MT "__next__") O.typeIs Pa (ML Pa O.typeIs TY ?_ (TN _)));refine IU (m:=field (.ref it) 0) (MA U b (x:= .ref l) rfl ?_);show wpAny _ _ (if (MD l==Mu)=dt then _ else _) _ _ s;rw[EQ (show ¬((MD l==Mu)=dt)from LN)];refine IU (m:=field (.ref it) 1) (MA U b (x:= .int i 0) rfl ?_);refine IU (m:=seqItems? (.ref l)) (MQ d f ?_);simp only[Mt,J];refine IU (PR (IU (wpAny_setField U b ⋯ ?_)));refine IU (m:=newExc (.type "StopIteration") []) ?_;simp only[newExc,newTuple];refine IU (Na ?_ (by size_fits));refine IU (m:=T5 _ _) (wpAny_of_eq (a:=Mu) (by first | rfl | (simp only[T5];rfl)) ?_);refine Na ?_ (by size_fits);simp only[raiseNew];refine IU (wpAny_handled ?_)
  first | rw[show A.in1.handled=none from I] | rw[I]
  exact IU<|Lf<|wpAny_throw<|hE _ _ (((Ox.update ..).extBut.push _).push _) ⟨_,Lv _ rfl,rfl⟩
theorem KB{k1 k2:Sk}{z TI TO C H J L:eg}{n1 n2:Nat}{xs ys:Array eh}{x y a b:eh}{Q:RQ}(D:xc z TI TO C H J L)
 (hz:q5 s.heap z TI TO .none) (Y:l6 s.heap TI (.ref C) (.ref H)) (Z:l6 s.heap TO a b)
 (h1:i8 k1 s.heap C J n1) (h2:i8 k2 s.heap H L n2) (b9:l8 k1 s.heap J xs) (bb:l8 k2 s.heap L ys) (hx:xs[n1]? = bQ x) (hy:ys[n2]? = bQ y)
 (hQ : ∀h',q5 h' z TI TO (D3 s.heap.objs.size)->l6 h' TO x y->i8 k1 h' C J (n1+1)->i8 k2 h' H L (n2+1)->l6 h' s.heap.objs.size x y->h'.objs.size=s.heap.objs.size+1->
   (∀c o,c≠z->c≠TO->c≠C->c≠H->s.heap.get? c=bQ o->h'.get? c=bQ o)->Q (.ref s.heap.objs.size) {s with heap:=h'}) :
 wpAny (eY prog w) A (wh.«zip.__next__» ⟨[.ref z],[]⟩) (λbg s'=>∃v,bg = .done (.ret v)/\Q v s') E s:=by
 refine IU (m:=field (.ref z) 2)<|MA hz rfl (x:= .bool ed) rfl ?_;refine IU (m:=field (.ref z) 3)<|MA hz rfl (x:= .ref TI) rfl ?_;refine IU<|MQ Y rfl ?_;refine IU (m:=LS<|.ref z) ?_;unfold LS;refine IU<|MA hz rfl (x:= .none) rfl<|Lf ?_;simp only[if_true];refine IU<|PR<|IU<|MA hz rfl (x:= .ref TO) rfl ?_;refine IU<|NJ hz ⋯ λg1 r O=>?_;replace r:q5 g1 z TI TO .ellipsis:=r;refine IU ?_;simp only[List.zipIdx_cons,List.zipIdx_nil,OL,OX];refine IU<|IU<|Rr ?_;refine IU (m:=LD<|.ref C)<|yb (h1.at λo e=>O.extBut _ _ D.i1z e) (b9.at λo e=>O.extBut _ _ D.l1z e) hx λg2 bl d=>Lf ?_;have M:l6 g2 TO a b:=d.extBut _ _ D.TOi1<|O.extBut _ _ D.TOz Z;refine IU<|MQ M rfl<|IU<|PZ M λg3 t f=>?_;replace t:l6 g3 TO x b:=t;refine IU<|wpAny_letGo<|Lf<|IU<|IU<|Rr ?_;refine IU (m:=LD<|.ref H)<|yb (h2.at λo e=>f.extBut _ _ D.TOi2.symm<|d.extBut _ _ D.i12.symm<|O.extBut _ _ D.i2z e) (bb.at λo e=>f.extBut _ _ D.l2TO<|d.extBut _ _ D.l2i1<|O.extBut _ _ D.l2z e) hy λg4 T g=>Lf ?_;have as:l6 g4 TO x b:=g.extBut _ _ D.TOi2 t;refine IU<|MQ as rfl<|IU<|PZ as λI k h=>?_;replace k:l6 I TO x y:=k;refine IU<|wpAny_letGo<|Lf<|Lf<|IU<|MQ k rfl<|IU<|wpAny_newTuple ?_;have j:I.objs.size=s.heap.objs.size:=by rw[h.1,g.1,f.1,d.1,O.1]
 have N:q5 I z TI TO .ellipsis:=h.extBut _ _ D.TOz.symm (g.extBut _ _ D.i2z.symm (f.extBut _ _ D.TOz.symm (d.extBut _ _ D.i1z.symm r)));have bt : ∀c o,c≠z->c≠TO->c≠C->c≠H->s.heap.get? c=bQ o->I.get? c=bQ o:=λc o U n G K e=>h.extBut _ _ n (g.extBut _ _ K (f.extBut _ _ n (d.extBut _ _ G (O.extBut _ _ U e))));have W:i8 k1 I C J (n1+1):=bl.at λo e=>h.extBut _ _ D.TOi1.symm (g.extBut _ _ D.i12 (f.extBut _ _ D.TOi1.symm e));have X:i8 k2 I H L (n2+1):=T.at λo e=>h.extBut _ _ D.TOi2.symm e;have P:z<I.objs.size:=Ln N;refine IU (m:=OR (.ref z) (.ref I.objs.size)) ?_;unfold OR;have bx:q5 (I.push {cls:= .type "tuple",data:= .seq #[x,y]}) z TI TO .ellipsis:=IW _ N;refine IU (NJ bx ⋯ λg7 u B=>?_);replace u:q5 g7 z TI TO (D3 I.objs.size):=u;refine NJ u ⋯ λi l F=>?_;replace l:q5 i z TI TO (D3 I.objs.size):=l;have p : ∀c o,c≠z->I.get? c=bQ o->i.get? c=bQ o:=λc o U e=>F.extBut _ _ U (B.extBut _ _ U (IW _ e));have R:l6 i I.objs.size x y:=F.extBut _ _ (NX P) (B.extBut _ _ (NX P) (Lv _ rfl));have S:i.objs.size=I.objs.size+1:=by rw[F.1,B.1,Mn]
 rw[j]at l R S;refine Lf ⟨_,rfl,?_⟩;show Q (.ref I.objs.size) _;rw[j];exact hQ i l (p _ _ D.TOz k) (W.at λo e=>p _ o D.i1z e) (X.at λo e=>p _ o D.i2z e) R S λc o U n G K e=>p c o U<|bt c o U n G K e
theorem V3{k1 k2:Sk}{z TI TO C H J L:eg}{n1 n2:Nat}{xs ys:Array eh}{a b:eh}{Q:Fin->eF->Prop}(hh:A.handled=none)(D:xc z TI TO C H J L)
 (hz:q5 s.heap z TI TO .none) (an:l6 s.heap TI (.ref C) (.ref H)) (ap:l6 s.heap TO a b)
 (Z:i8 k1 s.heap C J n1) (h2:i8 k2 s.heap H L n2) (Y:l8 k1 s.heap J xs) (as:l8 k2 s.heap L ys) (ax:xs[n1]? = none\/ys[n2]? = none)
 (hE : ∀h' e,(∀c o,c≠z->c≠TO->c≠C->c≠H->s.heap.get? c=bQ o->h'.get? c=bQ o)->(∃o,h'.get? e=bQ o/\o.cls = .type "StopIteration")->E (.ref e) {s with heap:=h'}) :
 wpAny (eY prog w) A (wh.«zip.__next__» ⟨[.ref z],[]⟩) Q E s:=by
 refine IU (m:=field (.ref z) 2) (MA hz rfl (x:= .bool ed) rfl ?_);refine IU (m:=field (.ref z) 3) (MA hz rfl (x:= .ref TI) rfl ?_);refine IU (MQ an rfl ?_);refine IU (m:=LS (.ref z)) ?_;unfold LS;refine IU (MA hz rfl (x:= .none) rfl (Lf ?_));simp only[if_true];refine IU (PR (IU (MA hz rfl (x:= .ref TO) rfl ?_)));refine IU (NJ hz ⋯ λg1 l I=>?_);replace l:q5 g1 z TI TO .ellipsis:=l;refine IU ?_;simp only[List.zipIdx_cons,List.zipIdx_nil,OL,OX];refine IU (IU (Rr ?_));have t : ∀{g e:_} {j:l7},q5 g z TI TO .ellipsis->(∀c o,c≠z->c≠TO->c≠C->c≠H->s.heap.get? c=bQ o->g.get? c=bQ o)->g.get? e=bQ j->j.cls = .type "StopIteration"->
  wpAny (eY prog w) A (setField (.ref z) 0 .none) (λ_ G=>E (.ref e) G) E {s with heap:=g}:=λ{g e j} u9 hk U f=>by
  have B:e≠z:=λq=>by subst q;rw[u9]at U;cases U;simp at f
  exact NJ u9 ⋯ λg3 _ d=>hE g3 e (λc o i n k p q=>d.extBut _ _ i<|hk c o i n k p q) ⟨j,d.extBut _ _ B U,f⟩
 cases hx:xs[n1]? with
 | none=>
  refine IU (m:=LD<|.ref C)<|ZX hh (Z.at λo e=>I.extBut _ _ D.i1z e) (Y.at λo e=>I.extBut _ _ D.l1z e) hx λg2 e O r=>?_;obtain⟨j,U,f⟩:=r;exact t (O _ _ D.i1z.symm l) (λc o i _ k _ q=>O _ _ k<|I.extBut _ _ i q) U f
 | some x=>
  have F:ys[n2]? = none:=by rcases ax with h | h;rw[hx]at h;cases h;exact h
  refine IU (m:=LD<|.ref C)<|yb (Z.at λo e=>I.extBut _ _ D.i1z e) (Y.at λo e=>I.extBut _ _ D.l1z e) hx λg2 K O=>Lf ?_;have u:l6 g2 TO a b:=O.extBut _ _ D.TOi1<|I.extBut _ _ D.TOz ap;refine IU<|MQ u rfl<|IU<|PZ u λg3 M d=>?_;refine IU<|wpAny_letGo<|Lf<|IU<|IU<|Rr ?_;refine IU (m:=LD<|.ref H)<|ZX hh (h2.at λo e=>d.extBut _ _ D.TOi2.symm<|O.extBut _ _ D.i12.symm<|I.extBut _ _ D.i2z e) (as.at λo e=>d.extBut _ _ D.l2TO<|O.extBut _ _ D.l2i1<|I.extBut _ _ D.l2z e) F λN e y r=>?_;obtain⟨j,U,f⟩:=r;exact t (y _ _ D.i2z.symm<|d.extBut _ _ D.TOz.symm<|O.extBut _ _ D.i1z.symm l) (λc o i n k p q=>y _ _ p<|d.extBut _ _ n<|O.extBut _ _ k<|I.extBut _ _ i q) U f
end
def ky(a b:eh):l7:={cls:= .type "tuple",data:= .seq #[a,b]}
noncomputable def CB(TI TO:eg):l7:={cls:= .type "zip",data:= .fields #[.none,.bool ed,.bool ed,.ref TI,.ref TO]}
noncomputable def yQ(k1 k2:Sk)(h:fy)(I C:eg):fy:=
 LL (LL (LL (LL (LL h<|i7 k1 I)<|i7 k2 C)<|ky (.ref h.objs.size)<|.ref<|h.objs.size+1)<|ky .none .none) (CB (h.objs.size+2)<|h.objs.size+3)
theorem V2(k1 k2:Sk)(I C:eg)(xs ys:Array eh) :
 E1 (wh.«zip.__new__» ⟨[.type "zip",.ref I,.ref C],[]⟩) (λ_ R s=>l8 k1 s.heap I xs/\l8 k2 s.heap C ys/\
  R (.ok<|.ret<|.ref<|s.heap.objs.size+4) {s with heap:=yQ k1 k2 s.heap I C}):=
 .of_wp λa w A R s h=>by
  obtain⟨O,g,d,U,os⟩:=s;obtain⟨b,f,h⟩:=h;have k:=sub_zip;have i:l8 k1 (Shared.heap ⟨O,g,d,U,os⟩) I xs:=b;have j:l8 k2 (Shared.heap ⟨O.push<|i7 k1 I,g,d,U,os⟩) C ys:=f.at λo e=>IW _ e
  wp_walk using Yz i,Yz j
  refine⟨_,rfl,?_⟩;simp only[yQ,ky,CB,Mn]at h ⊢;exact h
section
variable{X:Cx}{pins:RW}{σ:St}{H:Hp}{s:eF}{h':fy}
theorem Inv.Ts{t':Nat}{fp:List eg}{a:eg}{o:HO}(I:Inv X pins σ H s)(k : ∀b u,b∉fp->s.heap.get? b=bQ u->h'.get? b=bQ u)(C : ∀b∈fp,Ks X pins H b)
 (J:s.heap.objs.size<=a) (new:m6 X.prog X.w (upd H a o) h' a o):Inv X pins σ (upd H a o) {s with heap:=h',toks:=t'}:=by
 have d:H a=none:=I.gB.fresh J;have g : ∀b u,H b=bQ u->b∉fp:=λb u e z=>by rw[(C b z).1]at e;cases e
 have i : ∀b u,s.heap.get? b=bQ u->b≠a:=λb u e=>Lw<|LA (Ln e) J;refine I.step (g':=s.gens) (d':=s.drawn) (ch:=fp) (λb O=>⟨(C b O).2.2.2.1,(C b O).2.1,(C b O).2.2.2.2.1,(C b O).2.2.2.2.2⟩) (λb u _ _ U e _=>k b u U e) (λb u _ _ U e _=>⟨u.slots,k b u U e⟩)
  (λb u _ e n=>by rw[zS (i b u e)];exact n) (λb u U e=>⟨u,k b u U e⟩) (λb h e=>by rw[zS (qe e d)];exact e) (λb f h e=>by rw[zS (qe e d)];exact e)
  (λb x e=>⟨#[],by rw[zS (qe e d),e];simp⟩) (λm p=>?_) (λb u e=>?_) I.bare
 ·obtain⟨f,l,j,t,r⟩:=p
  refine⟨f,l,j,k _ f (λz=>(C _ z).2.1 rfl) t,r⟩
 ·by_cases O:b=a
  ·subst O;rw[zU]at e;cases e;exact new
  ·rw[zS O]at e
   refine(I.gB b u e).DK (λc v U q=>k c v ?_ q) (λc q=>by rw[zS (qe q d)];exact q) λc h q=>by rw[zS (qe q d)];exact q
   rcases U with z | z
   ·rw[z];exact g b u e
   ·exact g c _ z
theorem Inv.Ol{t':Nat}{fp:List eg}(I:Inv X pins σ H s)(k : ∀b u,b∉fp->s.heap.get? b=bQ u->h'.get? b=bQ u)(U : ∀b∈fp,Ks X pins H b):Inv X pins σ H {s with heap:=h',toks:=t'}:=by
 have f : ∀b u,H b=bQ u->b∉fp:=λb u e z=>by rw[(U b z).1]at e;cases e
 refine I.step (g':=s.gens) (d':=s.drawn) (ch:=fp) (λb a=>⟨(U b a).2.2.2.1,(U b a).2.1,(U b a).2.2.2.2.1,(U b a).2.2.2.2.2⟩) (λb u _ _ O e _=>k b u O e) (λb u _ _ O e _=>⟨u.slots,k b u O e⟩)
  (λb u _ e n=>n) (λb u O e=>⟨u,k b u O e⟩) (λb g e=>e) (λb d g e=>e)
  (λb o e=>⟨#[],by rw[e];simp⟩) (λm j=>?_) (λb u e=>?_) I.bare
 ·obtain⟨d,i,h,l,r⟩:=j
  refine⟨d,i,h,k _ d (λz=>(U _ z).2.1 rfl) l,r⟩
 ·refine(I.gB b u e).DK (λc v O q=>k c v ?_ q) (λc q=>q) λc g q=>q
  rcases O with z | z
  ·rw[z];exact f b u e
  ·exact f c _ z
end
noncomputable def lp(k:Sk)(K:IT)(H:Hp)(a:eg)(xs:List V):Prop:=match k with
 | .L=>gm K H a xs
 | .T=>hB K H a xs
theorem Inv.sq(I:Inv X pins σ H s)(h:lp k X.K H a xs) :
 ∃its:List eh,fm xs its/\l8 k s.heap a its.toArray/\xs.length<=gv:=by
 cases k with
 | L=>obtain⟨its,r,p,z⟩:=I.list h;exact⟨its,r,p.isList,z⟩
 | T=>obtain⟨its,r,p,z⟩:=I.tuple h;exact⟨its,r,p,z⟩
theorem Inv.Ti(I:Inv X pins σ H s)(h:lp k X.K H a xs)(h':lp k X.K H a ys):xs=ys:=by
 cases k with
 | L=>exact I.S7 h h'
 | T=>exact I.Tr h h'
noncomputable def O8(k1 k2:Sk)(K:IT)(a b:eg):It:=
 ⟨λi H=>∃d e,lp k1 K H a d/\lp k2 K H b e/\i<d.length/\i<e.length,
  λi H x f=>∃p u v,x = .ref p/\H p=none/\f=upd H p (.tup [u,v])/\(∀d,lp k1 K H a d->d[i]? = bQ u)/\(∀e,lp k2 K H b e->e[i]? = bQ v),
  λi H=>∃d e,lp k1 K H a d/\lp k2 K H b e/\(d.length<=i\/e.length<=i)⟩
theorem iq{P:i3}{w:h8}{K:IT}{elts:List eu}{x1:Nat}{D6:g8}(k1 k2:Sk){z TI TO i1 i2 a b:eg}(D:xc z TI TO i1 i2 a b) :
 Turn P w K (.Tuple elts x1 D6) (O8 k1 k2 K a b) [z,TI,TO,i1,i2] z (λi h=>q5 h z TI TO .none/\l6 h TI (.ref i1) (.ref i2)/\(∃c d,l6 h TO c d)/\i8 k1 h i1 a i/\i8 k2 h i2 b i) where
 mem:=by simp
 obj:=λi h ⟨hz,a0,⟨c,d,a8⟩,h1,h2⟩ y hy=>by
  simp only[Lo,LI,or_false]at hy;rcases hy with rfl | rfl | rfl | rfl | rfl
  ·exact⟨_,hz,λv q=>by cases q⟩
  ·exact⟨_,a0,λv q=>by cases q⟩
  ·exact⟨_,a8,λv q=>by cases q⟩
  ·exact h1.obj
  ·exact h2.obj
 keep:=λi h h' ⟨hz,a0,⟨c,d,a8⟩,h1,h2⟩ k=>
  ⟨k z ⋯ _ hz,k TI ⋯ _ a0,⟨c,d,k TO ⋯ _ a8⟩,h1.at λo e=>k i1 ⋯ o e,h2.at λo e=>k i2 ⋯ o e⟩
 item:=by
  rintro X hP hw hK hc i pins s σ H E I hf ⟨hz,a0,⟨c,d,a8⟩,h1,h2⟩ ⟨xs,ys,ae,ak,b8,b9⟩;subst hP hw hK;obtain⟨bb,ap,p1,z1⟩:=I.sq ae;obtain⟨be,ax,p2,z2⟩:=I.sq ak;have hx:xs[i]? = bQ xs[i]:=IX b8;have hy:ys[i]? = bQ ys[i]:=IX b9;obtain⟨u1,bg,bi⟩:=ap.get hx;obtain⟨u2,bl,bm⟩:=ax.get hy;have hT:s.TypeIs (.ref z) "zip":=⟨_,hz,rfl⟩;unfold A7;refine IU (OT (Mo (name:=MT "__next__") hT MO (ML MO hT NY
   (KB D hz a0 a8 h1 h2 p1 p2 (x:=u1) (y:=u2) (by simpa using bg) (by simpa using bl) λg a1 a2 a3 a4 a5 a6 a7=>Lf ⟨_,rfl,?_⟩) (NO _))))
  refine wpAny_letOwnedTupleGo_zip a1 λg2 u9 a9=>?_;have lt : ∀{c o},s.heap.get? c=bQ o->s.heap.objs.size≠c:=λe=>NX<|Ln e;have bx:l6 g2 s.heap.objs.size u1 u2:=a9.extBut _ _ (lt hz) a5;have kk : ∀U u,U ∉ [z,TI,TO,i1,i2]->s.heap.get? U=bQ u->g2.get? U=bQ u:=λU u O e=>by simp only[Lo,LI,or_false,not_or]at O;exact a9.extBut _ _ O.1<|a7 U u O.1 O.2.2.1 O.2.2.2.1 O.2.2.2.2 e
  have I1:Inv X pins σ (upd H s.heap.objs.size<|.tup [xs[i],ys[i]]) {s with heap:=g2,toks:=s.toks}:=
   I.Ts (fp:=[z,TI,TO,i1,i2]) kk hf (Le _) ⟨by show 2<=gv;decide,[u1,u2],.cons bi<|.cons bm .nil,⟨_,bx,rfl,_,rfl⟩⟩
  have c1:H s.heap.objs.size=none:=I.fresh;refine⟨.ref s.heap.objs.size,_,I1,rfl,⟨_,_,_,rfl,c1,rfl,λc8 b0=>by rw[I.Ti b0 ae];exact hx,λc9 b0=>by rw[I.Ti b0 ak];exact hy⟩,?_,λU O=>?_⟩
  ·exact⟨u9,a9.extBut _ _ D.TIz<|a7 _ _ D.TIz D.TITO D.TIi1 D.TIi2 a0,⟨_,_,a9.extBut _ _ D.TOz a2⟩,a3.at λo e=>a9.extBut _ _ D.i1z e,a4.at λo e=>a9.extBut _ _ D.i2z e⟩
  ·have c2:U≠s.heap.objs.size:=by
    simp only[Lo,LI,or_false]at O;rcases O with rfl | rfl | rfl | rfl | rfl
    ·exact(lt hz).symm
    ·exact(lt a0).symm
    ·exact(lt a8).symm
    ·obtain⟨o,e,_⟩:=h1.obj;exact(lt e).symm
    ·obtain⟨o,e,_⟩:=h2.obj;exact(lt e).symm
   rw[zS c2];exact(hf U O).1
 done:=by
  rintro X hP hw hK hc i pins s σ H E I hf ⟨hz,a0,⟨c,d,a8⟩,h1,h2⟩ ⟨xs,ys,ae,ak,hi⟩;subst hP hw hK;obtain⟨bb,ap,p1,z1⟩:=I.sq ae;obtain⟨be,ax,p2,z2⟩:=I.sq ak;have hT:s.TypeIs (.ref z) "zip":=⟨_,hz,rfl⟩;have l1:=ap.length;have l2:=ax.length;unfold A7;refine IU (OT (Mo (name:=MT "__next__") hT MO (ML MO hT NY
   (V3 (show X.A.handled=none from I.ok.hd hc) D hz a0 a8 h1 h2 p1 p2 (by rcases hi with q | q;left;simp;omega;right;simp;omega) λg e hk he=>?_) (NO _))))
  obtain⟨o,ho,c6⟩:=he;refine IU (RB (T:="StopIteration") (b:=dt) ⟨o,ho,c6⟩ isSubtype_stop (Lf ⟨rfl,?_⟩));refine I.Ol (t':=s.toks) (fp:=[z,TI,TO,i1,i2]) (λU u O e=>?_) hf;simp only[Lo,LI,or_false,not_or]at O;exact hk U u O.1 O.2.2.1 O.2.2.2.1 O.2.2.2.2 e
 self:=λ_ _ _ _ _ st h=>RA st.1 h
noncomputable def Ip(K:IT)(C:TA):TI:=λj H R=>C j H λg d=>∃e f a b,g=[.ref a,.ref b]/\(∃h,lp e K d a h)/\(∃i,lp f K d b i)/\R (O8 e f K a b) d
theorem AW{X:Cx}{Y C:eu}{ta:TA}{p pos:g8}{J:List eu}{x1:Nat}{L:g8}(hg:Gl X "zip")(hm:X.mg "zip" = none)(ha:PA X [Y,C] ta)
 (hv:Dz "zip" = bQ (.type "zip")) (hs:f6 [Y,C] X.env=[(ed,eA Y X.env),(ed,eA C X.env)]:=by rfl) (Z:f6 [C] X.env=[(ed,eA C X.env)]:=by rfl) :
 PI X (.Tuple J x1 L) (.Call (.Name "zip" p) [Y,C] [] pos) (Ip X.K ta):=by
 intro j s B H R I h;refine H9 (vD I hg hm hv<|MB (fk (ha pos j s B H _ I h) λus d T=>?_) (by rw[hs,Z])<|by rw[Z];rfl);obtain⟨vs,r,O,r1,q1⟩:=T;obtain⟨f,g,a,b,e,⟨xs,G⟩,⟨ys,M⟩,q⟩:=q1;subst e;obtain⟨w1,w2,S,N,as⟩:=ik r1;subst S;cases N;cases as;obtain⟨P,bf,w,z1⟩:=O.sq G;obtain⟨Q,bi,x,z2⟩:=O.sq M;have W:=w.lt;have lb:=x.lt;refine callType_new F.called_zip ⋯ (F.typeCall_zip_2 _ _) (F.newCall_zip_2 _ _) (λobj=>F.args_object_init_3 obj _ _) F.entry_zip_new (V2 f g a b P.toArray Q.toArray) ⟨w,x,?_⟩;have keep : ∀c o,d.heap.get? c=bQ o->(yQ f g d.heap a b).get? c=bQ o:=λc o e=>
  IW _ (IW _<|IW _<|IW _<|IW _ e)
 have y:(LL d.heap<|i7 f a).objs.size=d.heap.objs.size+1:=Mn ..;have z:(LL (LL d.heap<|i7 f a)<|i7 g b).objs.size=d.heap.objs.size+2:=by rw[Mn,y]
 have A:(LL (LL (LL d.heap<|i7 f a)<|i7 g b)<|ky (.ref d.heap.objs.size)<|.ref<|d.heap.objs.size+1).objs.size=d.heap.objs.size+3:=by rw[Mn,z]
 have y4:(LL (LL (LL (LL d.heap<|i7 f a)<|i7 g b)<|ky (.ref d.heap.objs.size)<|.ref<|d.heap.objs.size+1)<|ky .none .none).objs.size=d.heap.objs.size+4:=by rw[Mn,A]
 have g0:i8 f (yQ f g d.heap a b) d.heap.objs.size a 0:=(JQ f d.heap a).at λo e=>IW _<|IW _<|IW _<|IW _ e;have g1:i8 g (yQ f g d.heap a b) (d.heap.objs.size+1) b 0:=by have q:=JQ g (LL d.heap<|i7 f a) b;rw[y]at q;exact q.at λo e=>IW _<|IW _<|IW _ e
 have g2:l6 (yQ f g d.heap a b) (d.heap.objs.size+2) (.ref d.heap.objs.size) (.ref<|d.heap.objs.size+1):=by have q:_=bQ (ky (.ref d.heap.objs.size)<|.ref<|d.heap.objs.size+1):=Lv (LL (LL d.heap<|i7 f a)<|i7 g b) (o:=ky (.ref d.heap.objs.size)<|.ref<|d.heap.objs.size+1) rfl;rw[z]at q;exact IW _<|IW _ q
 have g3:l6 (yQ f g d.heap a b) (d.heap.objs.size+3) .none .none:=by have q:_=bQ (ky .none .none):=Lv (LL (LL (LL d.heap<|i7 f a)<|i7 g b)<|ky (.ref d.heap.objs.size)<|.ref<|d.heap.objs.size+1) (o:=ky .none .none) rfl;rw[A]at q;exact IW _ q
 have l:q5 (yQ f g d.heap a b) (d.heap.objs.size+4) (d.heap.objs.size+2) (d.heap.objs.size+3) .none:=by have q:=Lv (LL (LL (LL (LL d.heap<|i7 f a)<|i7 g b)<|ky (.ref d.heap.objs.size)<|.ref<|d.heap.objs.size+1)<|ky .none .none) (o:=CB (d.heap.objs.size+2)<|d.heap.objs.size+3) rfl;rw[y4]at q;exact q
 refine⟨⟨_,l,rfl⟩,RA (s:={d with heap:=yQ f g d.heap a b}) l ?_⟩;have E:Inv X j B r {d with heap:=yQ f g d.heap a b,toks:=d.toks}:=O.kept keep;have nn : ∀m:Nat,d.heap.objs.size≠d.heap.objs.size+m+1:=λm=>by omega
 have U : ∀m:Nat,a≠d.heap.objs.size+m:=λm=>Lw<|LA W<|LY _ m;have k : ∀m:Nat,b≠d.heap.objs.size+m:=λm=>Lw<|LA lb<|LY _ m;have i : ∀m n:Nat,m≠n->(d.heap.objs.size+m:Nat)≠d.heap.objs.size+n:=λm n h=>by omega
 have D:xc (d.heap.objs.size+4) (d.heap.objs.size+2) (d.heap.objs.size+3) d.heap.objs.size (d.heap.objs.size+1) a b:=
  ⟨i 2 4 ⋯,i 3 4 ⋯,i 0 4 ⋯,i 1 4 ⋯,i 2 3 ⋯,i 2 0 ⋯,i 2 1 ⋯,i 3 0 ⋯,i 3 1 ⋯,i 0 1 ⋯,
   U 4,U 3,U 0,U 1,k 4,k 3,k 0,k 1⟩
 refine⟨_,[d.heap.objs.size+4,d.heap.objs.size+2,d.heap.objs.size+3,d.heap.objs.size,d.heap.objs.size+1],_,_,r,rfl,E,iq f g D,⟨l,g2,⟨_,_,g3⟩,g0,g1⟩,λc u=>?_,q⟩;have t:d.heap.objs.size<=c:=by
  simp only[Lo,LI,or_false]at u;rcases u with rfl | rfl | rfl | rfl | rfl
  ·exact LY _ _
  ·exact LY _ _
  ·exact LY _ _
  ·exact Le _
  ·exact LY _ _
 exact O.DY t<|O.gB.fresh t
noncomputable def SG(k:Sk)(K:IT)(a:eg):It:=match k with
 | .L=>O7 K a
 | .T=>SH K a
noncomputable def Iq(K:IT)(C:TE):TI:=λe H R=>C e H λx b=>∃a k,x = .ref a/\(∃d,lp k K b a d)/\R (SG k K a) b
theorem dG(C:PE X l tl):PI X tg l (Iq X.K tl):=by
 intro d s u H R I h;refine fk (C d s u H _ I h) λv f i=>?_;obtain⟨x,g,O,t,r⟩:=i;obtain⟨a,k,e,⟨z,m⟩,q⟩:=r;subst e;cases t;have U : ∀b ∈ [f.heap.objs.size],Ks X d g b:=λb j=>by
  have e:b=f.heap.objs.size:=by simpa using j
  subst e;exact O.DY (Le _)<|O.gB.fresh<|Le _
 obtain⟨n,y,p,w⟩:=O.sq m;cases k with
 | L=>exact Rx p ⟨f.heap.objs.size,[f.heap.objs.size],_,_,g,rfl,O.kept (t':=f.toks) λb o e=>IW _ e,KI a _,⟨_,Lv _ rfl,rfl,rfl⟩,U,q⟩
 | T=>exact wpAny_pyIter_tuple p ⟨f.heap.objs.size,[f.heap.objs.size],_,_,g,rfl,O.kept (t':=f.toks) λb o e=>IW _ e,az a _,⟨_,Lv _ rfl,rfl,rfl⟩,U,q⟩
end L2
namespace DL
open PySem PySem.Spec PyProof.Rows L2
noncomputable def Vb(C:eg)(b:Bool)(TI TO:eg):l7:={cls:= .type "zip",dict:=none,data:= .fields #[D3 C,.bool b,.bool ed,.ref TI,.ref TO],slots:=#[]}
section
variable{prog:i3}{w:h8}{A:nh}{E:RQ}{s:eF}
theorem KC{z C TI TO:eg}{b:Bool}{O:l7}{Q:Bool->eF->Prop}(hz:s.heap.get? z=bQ (Vb C b TI TO))(H:s.heap.get? C=bQ O)
 (I : ∀h',h'.get? z=bQ (Vb C dt TI TO)->Ox z s.heap h'->Q ed {s with heap:=h'}):wpAny (eY prog w) A (LS<|.ref z) Q E s:=by
 unfold LS;refine IU<|MA hz rfl (x:=D3 C) rfl ?_;show wpAny _ _ (loadIfAlive ((C:Int).toNat) >>= _) _ _ _;rw[Mt];refine IU<|PySem.W.kdx_alive H ?_;simp only[Option.isNone_some,Mg,if_false];refine IU<|MA hz rfl (x:= .bool b) rfl ?_;cases b with
 | true=>
  rw[EQ ⋯];exact Lf<|I _ hz ⟨rfl,λ_ _=>rfl⟩
 | false=>
  rw[RY ⋯];refine IU<|NJ hz ⋯ λg U a=>?_;exact Lf<|I g U a
theorem ck{k1 k2:Sk}{z TI TO C H L Y J:eg}{b:Bool}{oa:l7}{n1 n2:Nat}{xs ys:Array eh}{x y:eh}{Q:RQ}(D:xc z TI TO C H L Y)
 (hz:s.heap.get? z=bQ (Vb J b TI TO)) (ha:s.heap.get? J=bQ oa) (Z:l6 s.heap TI (.ref C) (.ref H))
 (h1:i8 k1 s.heap C L n1) (h2:i8 k2 s.heap H Y n2) (a5:l8 k1 s.heap L xs) (a6:l8 k2 s.heap Y ys) (hx:xs[n1]? = bQ x) (hy:ys[n2]? = bQ y)
 (hQ : ∀h',h'.get? z=bQ (Vb J dt TI TO)->i8 k1 h' C L (n1+1)->i8 k2 h' H Y (n2+1)->l6 h' s.heap.objs.size x y->h'.objs.size=s.heap.objs.size+1->
   (∀c o,c≠z->c≠C->c≠H->s.heap.get? c=bQ o->h'.get? c=bQ o)->Q (.ref s.heap.objs.size) {s with heap:=h'}) :
 wpAny (eY prog w) A (wh.«zip.__next__» ⟨[.ref z],[]⟩) (λaa s'=>∃v,aa = .done (.ret v)/\Q v s') E s:=by
 refine IU (m:=field (.ref z) 2)<|MA hz rfl (x:= .bool ed) rfl ?_;refine IU (m:=field (.ref z) 3)<|MA hz rfl (x:= .ref TI) rfl ?_;refine IU<|MQ Z rfl ?_;refine IU (m:=LS<|.ref z)<|KC hz ha λg1 f I=>?_;simp only[Mg,if_false];rw[show(#[MD C,MD H]:Array eh)=[MD C,MD H].toArray from rfl,List.forIn_toArray];simp only[OL,OX];refine IU<|IU<|IU ?_;refine IU (m:=LD<|.ref C)<|yb (h1.at λo e=>I.extBut _ _ D.i1z e) (a5.at λo e=>I.extBut _ _ D.l1z e) hx λg2 g U=>Lf ?_;refine Lf<|IU<|IU<|Nq ?_;refine IU (m:=LD<|.ref H)<|yb (h2.at λo e=>U.extBut _ _ D.i12.symm<|I.extBut _ _ D.i2z e) (a6.at λo e=>U.extBut _ _ D.l2i1<|I.extBut _ _ D.l2z e) hy λO h a=>Lf ?_;refine Lf<|Lf ?_;have hsz:O.objs.size=s.heap.objs.size:=by rw[a.1,U.1,I.1]
 refine IU (wpAny_newTuple (hsz:=by show 2<=gv;decide) ?_);refine Lf ⟨_,rfl,?_⟩;show Q (.ref O.objs.size) _;rw[hsz];have d : ∀c o,O.get? c=bQ o->(O.push {cls:= .type "tuple",data:= .seq #[x,y]}).get? c=bQ o:=λc o e=>IW _ e;have i:O.get? z=bQ (Vb J dt TI TO):=a.extBut _ _ D.i2z.symm (U.extBut _ _ D.i1z.symm f);refine hQ _ (d _ _ i) ((g.at λo e=>d _ o (a.extBut _ _ D.i12 e))) (h.at λo e=>d _ o e) ?_ ?_ λc o j k l e=>d c o (a.extBut _ _ l (U.extBut _ _ k (I.extBut _ _ j e)))
 ·have:=Lv O (o:={cls:= .type "tuple",data:= .seq #[x,y]}) rfl
  rw[hsz]at this;exact this
 ·rw[Mn,hsz]
theorem ic{k1 k2:Sk}{z TI TO C H U J Y:eg}{b:Bool}{oa:l7}{n1 n2:Nat}{xs ys:Array eh}{Q:Fin->eF->Prop}(hh:A.handled=none)(D:xc z TI TO C H U J)
 (hz:s.heap.get? z=bQ (Vb Y b TI TO)) (ha:s.heap.get? Y=bQ oa) (a7:l6 s.heap TI (.ref C) (.ref H))
 (Z:i8 k1 s.heap C U n1) (h2:i8 k2 s.heap H J n2) (L:l8 k1 s.heap U xs) (a8:l8 k2 s.heap J ys) (a9:xs[n1]? = none\/ys[n2]? = none)
 (hE : ∀h' e,(∀c o,c≠z->c≠C->c≠H->s.heap.get? c=bQ o->h'.get? c=bQ o)->(∃o,h'.get? e=bQ o/\o.cls = .type "StopIteration")->E (.ref e) {s with heap:=h'}) :
 wpAny (eY prog w) A (wh.«zip.__next__» ⟨[.ref z],[]⟩) Q E s:=by
 refine IU (m:=field (.ref z) 2)<|MA hz rfl (x:= .bool ed) rfl ?_;refine IU (m:=field (.ref z) 3)<|MA hz rfl (x:= .ref TI) rfl ?_;refine IU<|MQ a7 rfl ?_;refine IU (m:=LS<|.ref z)<|KC hz ha λg1 k I=>?_;simp only[Mg,if_false];rw[show(#[MD C,MD H]:Array eh)=[MD C,MD H].toArray from rfl,List.forIn_toArray];simp only[OL,OX];refine IU<|IU<|IU ?_;cases hx:xs[n1]? with
 | none=>
  refine IU (m:=LD<|.ref C)<|ZX hh (Z.at λo e=>I.extBut _ _ D.i1z e) (L.at λo e=>I.extBut _ _ D.l1z e) hx λg2 e O f=>?_;exact hE g2 e (λc o a d _ q=>O _ _ d<|I.extBut _ _ a q) f
 | some x=>
  have j:ys[n2]? = none:=by rcases a9 with h | h;rw[hx]at h;cases h;exact h
  refine IU (m:=LD<|.ref C)<|yb (Z.at λo e=>I.extBut _ _ D.i1z e) (L.at λo e=>I.extBut _ _ D.l1z e) hx λg2 l O=>Lf ?_;refine Lf<|IU<|IU<|Nq ?_;refine IU (m:=LD<|.ref H)<|ZX hh (h2.at λo e=>O.extBut _ _ D.i12.symm<|I.extBut _ _ D.i2z e) (a8.at λo e=>O.extBut _ _ D.l2i1<|I.extBut _ _ D.l2z e) j λg3 e g f=>?_;exact hE g3 e (λc o a d i q=>g _ _ i<|O.extBut _ _ d<|I.extBut _ _ a q) f
end
noncomputable def O3:List Str:=["NoPrime","Nought","NoTable","NoWidths","NoRow","Unlike","TooMany","NoTurn","NoLine","Nothing","NoArrow","NoText","NoRoom"]
noncomputable def uF(K:IT)(c:Str):Option eg:=match PySem.W.nsIn K vl c with
 | some (bQ (.ref C))=>bQ C
 | _=>none
noncomputable def HI(K:IT)(C:eg):Bool:=
 ["int","bool","str","tuple","list"].all (λt=>NM K (.ref C) (.type t)==bQ ed) && NM K (.ref C) (.type "ValueError")==bQ dt &&
 OP K (.ref C) "__getattribute__" == bQ (bQ (.builtin "BaseException.__getattribute__")) && OP K (.ref C) "__getattr__" == bQ none &&
 OP K (.ref C) "__class__" == bQ (bQ (.builtin "object.__class__")) && PySem.W.mroIn K C (.type "object")==bQ dt && PySem.W.mroIn K C (.type "BaseException")==bQ dt &&
 PySem.W.specialIn K (.builtin "object.__class__") "__get__" == bQ (bQ (.builtin "getset_descriptor.__get__")) && PySem.W.takesIn K (.builtin "object.__class__")==bQ dt &&
 (PySem.W.clsIn K C).any (λI=> !I.hasDel) && PySem.W.typeIn K (.ref C)==bQ (.type "type")
noncomputable def GN(K:IT):Bool:=match uF K "SplitError" with
 | some S=>O3.all λc=>match uF K c with
  | some C=>HI K C && NM K (.ref C) (.ref S)==bQ dt && O3.all λI=>match uF K I with
   | some O=>NM K (.ref C) (.ref O)==bQ (c==I)
   | none=>ed
  | none=>ed
 | none=>ed
noncomputable def IA(h:fy)(a:eg)(C:eg):Prop:=∃o b,h.get? a=bQ o/\o.cls = .ref C/\o.data = .fields b
structure P6(K:IT)(H:Hp)(c:Str)(n:Option Int)(a:eg):Prop where
 all:GN K=dt
 mem:c∈O3
 ex : ∃C φ,uF K c=bQ C/\H a=bQ (.ext φ)/\(∀h,φ h->IA h a C)/\
  match n with
  | none=>True
  | some i=>∃d,(∀h,φ h->∃o,h.get? a=bQ o/\o.dict=bQ d)/\H d=bQ (.xd [(if c==("NoRoom" : Str)then "room" else "at",.int i)])
theorem P6.mono{K:IT}{H J:Hp}{c:Str}{n:Option Int}{a:eg}(e : ∀b o,H b=bQ o->J b=bQ o)(h:P6 K H c n a):P6 K J c n a:=by
 obtain⟨f,g,C,j,O,g2,U,I⟩:=h;refine⟨f,g,C,j,O,e _ _ g2,U,?_⟩;cases n with
 | none=>exact I
 | some i=>obtain⟨d,f1,f2⟩:=I;exact⟨d,f1,e _ _ f2⟩
abbrev St:=L2.St
noncomputable def FB:D->Option Key
 | .int i=>bQ (.inl i)
 | .str x=>bQ (.inr x)
 | _=>none
noncomputable def oF:List D->Option (List Key)
 | []=>bQ []
 | d::ds=>(FB d).bind λk=>(oF ds).map λr=>k::r
noncomputable def I0(H:Hp)(a:eg)(ks:List D)(xs:List V):Prop:=∃b,oF ks=bQ b/\b.length=xs.length/\H a=bQ (.dK<|b.zip xs)
noncomputable def EH(k:List Int):Int:=reduceHash<|Builtin.Tuple.tupleHashOf<|k.map hashInt
noncomputable def IE(o:l7)(xs:List (List Int×eg×eh)):Prop:=o.ExactDict/\∃a I,o.data = .dict a I/\a.toList=xs.map (λx=>⟨EH x.1,.ref x.2.1,x.2.2⟩)/\(xs.map (·.1)).Nodup
def SO(a:eg)(o:l7):HO:= .ext λh=>h.get? a=bQ o
noncomputable def I7(K:IT)(H:Hp)(a:eg)(ks:List (List Int))(ys:List V):Prop:=
 (a==Ss)=ed/\∃o b,H a=bQ (SO a o)/\IE o b/\b.map (·.1)=ks/\b.length<=gv/\(∀x∈b,hB K H x.2.1<|x.1.map V.int)/\fm ys (b.map (·.2.2))
mutual
def Rep(K:IT)(H:Hp):D->V->Prop
 | .e7,v=>v = .e7
 | .bl b,v=>v = .bl b
 | .int i,v=>v = .int i
 | .str x,v=>v = .str x
 | .tup ds,v=>∃a d,v = .ref a/\hB K H a d/\ej K H ds d
 | .lst ds,v=>∃a d,v = .ref a/\gm K H a d/\ej K H ds d
 | .md ks vs,v=>∃a d,v = .ref a/\I0 H a ks d/\ej K H vs d
 | .lq ks vs,v=>∃a d,v = .ref a/\I7 K H a ks d/\ej K H vs d
def ej(K:IT)(H:Hp):List D->List V->Prop
 | [],xs=>xs=[]
 | d::ds,xs=>∃x r,xs=x::r/\Rep K H d x/\ej K H ds r
end
theorem o9{K:IT}{H C:Hp}{a:eg}{xs:List V}(e:f9 H C)(h:hB K H a xs):hB K C a xs:=by
 rcases h with(h | ⟨o,h⟩) | h
 ·exact .inl<|.inl<|e _ _ h
 ·exact .inl<|.inr ⟨o,e _ _ h⟩
 ·exact .inr h
theorem vv{k:Sk}{K:IT}{H C:Hp}{a:eg}{xs:List V}(e:f9 H C)(h:lp k K H a xs):lp k K C a xs:=by
 cases k
 ·exact e.seq h
 ·exact o9 e h
mutual
theorem Rep.mono{K:IT}{H C:Hp}(e:f9 H C) : ∀{d:D} {v:V},Rep K H d v->Rep K C d v
 | .e7,_,h=>h
 | .bl _,_,h=>h
 | .int _,_,h=>h
 | .str _,_,h=>h
 | .tup ds,v,h=>by obtain⟨a,b,f,i,g⟩:=(show ∃a b,v = .ref a/\hB K H a b/\ej K H ds b from h);exact(show ∃a b,v = .ref a/\hB K C a b/\ej K C ds b from⟨a,b,f,o9 e i,ej.mono e g⟩)
 | .lst ds,v,h=>by obtain⟨a,b,f,i,g⟩:=(show ∃a b,v = .ref a/\gm K H a b/\ej K H ds b from h);exact(show ∃a b,v = .ref a/\gm K C a b/\ej K C ds b from⟨a,b,f,e.seq i,ej.mono e g⟩)
 | .md ks vs,v,h=>by obtain⟨a,b,f,⟨m,I,g2,O⟩,g⟩:=(show ∃a b,v = .ref a/\I0 H a ks b/\ej K H vs b from h);exact(show ∃a b,v = .ref a/\I0 C a ks b/\ej K C vs b from⟨a,b,f,⟨m,I,g2,e _ _ O⟩,ej.mono e g⟩)
 | .lq ks vs,v,h=>by obtain⟨a,b,f,⟨I,o,n,g2,O,U,j,g6,k⟩,g⟩:=(show ∃a b,v = .ref a/\I7 K H a ks b/\ej K H vs b from h);exact(show ∃a b,v = .ref a/\I7 K C a ks b/\ej K C vs b from⟨a,b,f,⟨I,o,n,e _ _ g2,O,U,j,λx l=>o9 e<|g6 x l,k⟩,ej.mono e g⟩)
theorem ej.mono{K:IT}{H C:Hp}(e:f9 H C) : ∀{ds:List D} {xs:List V},ej K H ds xs->ej K C ds xs
 | [],_,h=>h
 | d::ds,xs,h=>by obtain⟨x,r,a,b,f⟩:=(show ∃x r,xs=x::r/\Rep K H d x/\ej K H ds r from h);exact(show ∃x r,xs=x::r/\Rep K C d x/\ej K C ds r from⟨x,r,a,Rep.mono e b,ej.mono e f⟩)
end
section
variable{K:IT}{H:Hp}
theorem ej.nil:ej K H [] []:=(show([]:List V)=[]from rfl)
theorem ej.cons(h:Rep K H d x)(t:ej K H ds xs):ej K H (d::ds) (x::xs):=⟨x,xs,rfl,h,t⟩
theorem ej.tr(h:ej K H [] xs):xs=[]:=h
theorem ej.o7(h:ej K H (d::ds) xs) : ∃x r,xs=x::r/\Rep K H d x/\ej K H ds r:=h
theorem ej.length : ∀{ds:List D} {xs:List V},ej K H ds xs->xs.length=ds.length
 | [],xs,h=>by rw[h.tr];rfl
 | d::ds,xs,h=>by obtain⟨x,r,e,_,t⟩:=h.o7;rw[e,LM,LM,ej.length t]
theorem ej.get : ∀{ds:List D} {xs:List V} {i:Nat} {d:D},ej K H ds xs->ds[i]? = bQ d->∃x,xs[i]? = bQ x/\Rep K H d x
 | [],_,_,_,_,e=>by simp at e
 | c::ds,xs,0,d,h,e=>by obtain⟨x,r,a,b,_⟩:=h.o7;simp at e;subst e;exact⟨x,by rw[a];rfl,b⟩
 | c::ds,xs,i+1,d,h,e=>by obtain⟨x,r,a,_,t⟩:=h.o7;obtain⟨y,I,g2⟩:=ej.get (i:=i) (d:=d) t (by simpa using e);exact⟨y,by rw[a];simpa using I,g2⟩
theorem ej.FG{ds:List D}{xs:List V}{i:Nat}{x:V}(h:ej K H ds xs)(e:xs[i]? = bQ x) : ∃d,ds[i]? = bQ d/\Rep K H d x:=by
 have b:i<ds.length:=by rw[<- h.length];exact(Lh.mp e).1
 obtain⟨y,a,r⟩:=h.get<|IX b;rw[e]at a;cases a;exact⟨_,IX b,r⟩
theorem ej.append : ∀{ds es:List D} {xs ys:List V},ej K H ds xs->ej K H es ys->ej K H (ds++es) (xs++ys)
 | [],_,xs,_,h,g=>by rw[h.tr];exact g
 | d::ds,es,xs,ys,h,g=>by obtain⟨x,r,e,a,t⟩:=h.o7;rw[e];exact ej.cons a<|ej.append t g
theorem ej.drop : ∀{ds:List D} {xs:List V} (n:Nat),ej K H ds xs->ej K H (ds.drop n) (xs.drop n)
 | _,_,0,h=>h
 | [],xs,n+1,h=>by rw[h.tr];exact ej.nil
 | d::ds,xs,n+1,h=>by obtain⟨x,r,e,_,t⟩:=h.o7;rw[e];exact ej.drop n t
theorem ej.take : ∀{ds:List D} {xs:List V} (n:Nat),ej K H ds xs->ej K H (ds.take n) (xs.take n)
 | _,_,0,h=>by simp;exact ej.nil
 | [],xs,n+1,h=>by rw[h.tr];exact ej.nil
 | d::ds,xs,n+1,h=>by obtain⟨x,r,e,a,t⟩:=h.o7;rw[e];exact ej.cons a<|ej.take n t
theorem ej.set : ∀{ds:List D} {xs:List V} {d:D} {x:V} (i:Nat),ej K H ds xs->Rep K H d x->ej K H (ds.set i d) (xs.set i x)
 | [],xs,_,_,_,h,_=>by rw[h.tr];exact ej.nil
 | c::ds,xs,d,x,0,h,g=>by obtain⟨y,r,e,_,t⟩:=h.o7;rw[e];exact ej.cons g t
 | c::ds,xs,d,x,i+1,h,g=>by obtain⟨y,r,e,a,t⟩:=h.o7;rw[e];exact ej.cons a<|ej.set i t g
end
structure Ext(H0 H A4 H':Hp):Prop where
 s0:f9 H0 A4
 s1:f9 H H'
 sub:f9 A4 H'
 new : ∀a,H0 a=none->H a≠none->A4 a=none
theorem Ext.refl(s:f9 H0 H):Ext H0 H H0 H:=⟨f9.refl _,f9.refl _,s,λ_ h _=>h⟩
theorem Ext.trans(a:Ext H0 H H1 G1)(b:Ext H1 G1 H2 G2):Ext H0 H H2 G2:=
 ⟨a.s0.trans b.s0,a.s1.trans b.s1,b.sub,λc e d=>b.new c (a.new c e d) (by
  cases q:H c with
  | none=>exact absurd q d
  | some o=>rw[a.s1 c o q];simp)⟩
theorem ju(h:H p=none)(o:HO):f9 H (upd H p o):=λb u q=>by rw[zS (qe q h)];exact q
theorem j3(s:f9 H0 H)(h:H p=none):H0 p=none:=s.free h
theorem cT(s:f9 H0 H):f9 (upd H0 p o) (upd H p o):=λb u q=>by
 by_cases e:b=p
 ·subst e;rw[zU]at q ⊢;exact q
 ·rw[zS e]at q ⊢;exact s b u q
theorem Ext.alloc(s:f9 H0 H)(h:H p=none)(o:HO):Ext H0 H (upd H0 p o) (upd H p o):=
 ⟨ju (j3 s h) o,ju h o,cT s,λa b d=>by rw[zS (λe=>d<|by rw[e];exact h)];exact b⟩
theorem Ext.hide(s:f9 H0 H)(h:H p=none)(o:HO):Ext H0 H H0 (upd H p o):=
 ⟨f9.refl _,ju h o,s.trans<|ju h o,λa b _=>b⟩
theorem Ext.show(e:Ext H0 H A4 H')(C:H a=none)(J:A4 a=none)(O:H' a=bQ o)(s:f9 H0 H):Ext H0 H (upd A4 a o) H':=
 ⟨e.s0.trans<|ju J o,e.s1,λb u q=>by
  by_cases z:b=a
  ·subst z;rw[zU]at q;rw[O];exact q
  ·rw[zS z]at q;exact e.sub b u q,λb U I=>by
  rw[zS (λz=>I<|by rw[z];exact C)];exact e.new b U I⟩
structure s9(K:IT)(H0 H:Hp)(rows:List (List D))(a:eg)(bs:List eg):Prop where
 a0:H0 a=none
 ha:H a=bQ (.lst<|bs.map V.ref)
 nd:(a::bs).Nodup
 len:bs.length=rows.length
 row : ∀(k:Nat) b row,bs[k]? = bQ b->rows[k]? = bQ row->H0 b=none/\∃xs,H b=bQ (.lst xs)/\ej K H0 row xs
theorem s9.at{K:IT}{J H:Hp}{C:List (List D)}{a:eg}{bs:List eg}(n:s9 K J H C a bs){b:eg}(I:b∈a::bs):J b=none/\∃xs,H b=bQ (.lst xs):=by
 rcases Lo.mp I with rfl | I
 ·exact⟨n.a0,_,n.ha⟩
 ·obtain⟨k,O⟩:=PF I
  have U:=(Lh.mp O).1;rw[n.len]at U;obtain⟨d,xs,e,_⟩:=n.row k b _ O<|IX U;exact⟨d,xs,e⟩
theorem s9.move{K:IT}{Y H J L:Hp}{C:List (List D)}{a:eg}{bs:List eg}(n:s9 K Y H C a bs)(s:f9 Y J)(I : ∀b∈a::bs,J b=none)(h : ∀b∈a::bs,L b=H b):s9 K J L C a bs:=
 ⟨I a Lp,by rw[h a Lp];exact n.ha,n.nd,n.len,λk b row O f=>by obtain⟨_,g,d,e⟩:=n.row k b row O f;have U:b∈a::bs:=Lj _<|LJ O;exact⟨I b U,g,by rw[h b U];exact d,e.mono s⟩⟩
noncomputable def n7(K:IT)(J H:Hp)(C:St)(γ:Ctx):Prop:=
 (∀(i:Nat) b,γ[i]? = bQ (.nest b)->∃a bs,C[i]? = bQ (bQ (.ref a))/\s9 K J H b a bs/\∀(j:Nat) d c,γ[j]? = bQ (.own d)->C[j]? = bQ (bQ (.ref c))->c∉a::bs)/\
 ∀(i j:Nat) I e,γ[i]? = bQ (.nest I)->γ[j]? = bQ (.nest e)->i=j
theorem n7.DH{K:IT}{J H:Hp}{L:St}{γ:Ctx}(h : ∀(i:Nat) C,γ[i]? ≠ bQ (.nest C)):n7 K J H L γ:=⟨λi C e=>absurd e<|h i C,λi j I a e=>absurd e<|h i I⟩
theorem n7.move{K:IT}{Y H J Z:Hp}{L:St}{γ:Ctx}(n:n7 K Y H L γ)(s:f9 Y J)(h : ∀(i:Nat) C a bs,γ[i]? = bQ (.nest C)->L[i]? = bQ (bQ (.ref a))->s9 K Y H C a bs->(∀(j:Nat) ds c,γ[j]? = bQ (.own ds)->L[j]? = bQ (bQ (.ref c))->c∉a::bs)->∀b∈a::bs,J b=none/\Z b=H b):n7 K J Z L γ:=
 ⟨λi C e=>by obtain⟨a,bs,d,f,I⟩:=n.1 i C e;exact⟨a,bs,d,f.move s (λb O=>(h i C a bs e d f I b O).1)<|λb O=>(h i C a bs e d f I b O).2,I⟩,n.2⟩
theorem n7.ext{K:IT}{L H C J:Hp}{Y:St}{γ:Ctx}(n:n7 K L H Y γ)(e:Ext L H C J):n7 K C J Y γ:=
 n.move e.s0 λi d a bs _ _ f _ b I=>by obtain⟨O,g,g2⟩:=f.at I;exact⟨e.new b O (by rw[g2];simp),by rw[e.s1 b _ g2,g2]⟩
structure RC(K:IT)(H0 H:Hp)(σ:St)(γ:Ctx):Prop where
 sub:f9 H0 H
 len:σ.length=γ.length
 val : ∀(i:Nat) d,γ[i]? = bQ (.val d)->∃v,σ[i]? = bQ (bQ v)/\Rep K H0 d v
 own : ∀(i:Nat) ds,γ[i]? = bQ (.own ds)->∃a xs,σ[i]? = bQ (bQ (.ref a))/\H0 a=none/\H a=bQ (.lst xs)/\ej K H0 ds xs
 ne : ∀(i j:Nat) a ds es,γ[i]? = bQ (.own ds)->γ[j]? = bQ (.own es)->σ[i]? = bQ (bQ (.ref a))->σ[j]? = bQ (bQ (.ref a))->i=j
 m1:n7 K H0 H σ γ
theorem RC.ext{K:IT}{L H C J:Hp}{Y:St}{γ:Ctx}(r:RC K L H Y γ)(e:Ext L H C J):RC K C J Y γ:=
 ⟨e.sub,r.len,λi d h=>let ⟨v,b,f⟩:=r.val i d h;⟨v,b,f.mono e.s0⟩,
  λi g h=>let ⟨a,j,b,f,I,O⟩:=r.own i g h;⟨a,j,b,e.new a f (by rw[I];simp),e.s1 _ _ I,O.mono e.s0⟩,r.ne,r.m1.ext e⟩
noncomputable def tV(K:IT)(f:CO D):TE:=λh H Q=>∃e g d,RC K e H h g/\f g=bQ d/\∀v b a,Ext e H a b->Rep K a d v->Q v b
noncomputable def tQ(K:IT)(f:CO (Sk×List D)):TE:=λj H Q=>∃g i k h,RC K g H j i/\f i=bQ (k,h)/\∀a e d b,Ext g H b d->lp k K d a e->(k = .T->hB K b a e)->ej K b h e->Q (.ref a) d
noncomputable def tO(K:IT)(f:CO (List D)):TE:=λj H Q=>∃e i g,RC K e H j i/\f i=bQ g/\
 ∀a h d b,Ext e H b d->H a=none->b a=none->d a=bQ (.lst h)->ej K b g h->Q (.ref a) d
noncomputable def tT(K:IT)(f:CO Bool):TT:=λh H Q=>∃e g b,RC K e H h g/\f g=bQ b/\∀d a,Ext e H a d->Q b d
noncomputable def tA(K:IT)(f:CO (List D)):TA:=λi H Q=>∃d h e,RC K d H i h/\f h=bQ e/\∀g b a,Ext d H a b->ej K a e g->Q g b
abbrev PV(X:Cx)(e:eu)(f:CO D):Prop:=PE X e (tV X.K f)
abbrev PQ(X:Cx)(e:eu)(f:CO (Sk×List D)):Prop:=PE X e (tQ X.K f)
abbrev PO(X:Cx)(e:eu)(f:CO (List D)):Prop:=PE X e (tO X.K f)
abbrev ml(X:Cx)(e:eu)(f:CO Bool):Prop:=PT X e (tT X.K f)
abbrev Dw(X:Cx)(e:eu)(f:CO Bool):Prop:=PW X e (tT X.K f)
abbrev B6(X:Cx)(es:List eu)(f:CO (List D)):Prop:=PA X es (tA X.K f)
theorem qC(h:PE X e t)(i : ∀C H Q,t' C H Q->t C H Q):PE X e t':=λa s C H Q I q=>h a s C H Q I<|i C H Q q
theorem aQ(h:PT X e t)(i : ∀C H Q,t' C H Q->t C H Q):PT X e t':=λa s C H Q I q=>h a s C H Q I<|i C H Q q
theorem Ax(h:PW X e t)(i : ∀C H Q,t' C H Q->t C H Q):PW X e t':=λO a s C H Q I q=>h O a s C H Q I<|i C H Q q
theorem Bj(h:PA X es t)(i : ∀C H Q,t' C H Q->t C H Q):PA X es t':=λpos a s C H Q I q=>h pos a s C H Q I<|i C H Q q
theorem kY{X:Cx}{st:iS}{t t':TS}(h:PS X st t)(i : ∀D C H,t' D C H->t D C H):PS X st t':=λa s C H D I q=>h a s C H D I<|i D C H q
theorem oh{X:Cx}{st:List iS}{t t':TS}(h:n9 X st t)(i : ∀D C H,t' D C H->t D C H):n9 X st t':=λa s C H D I q=>h a s C H D I<|i D C H q
theorem Vm(h:PI X tg e t)(i : ∀C H R,t' C H R->t C H R):PI X tg e t':=λa s C H R I q=>h a s C H R I<|i C H R q
theorem va(h:n<=lim):n<=gv:=Mj h ⋯
section
variable{X:Cx}{e a b c:eu}{pos:g8}
theorem PV.q(h:PV X e f):PQ X e (zw f):=qC h λt H Q U=>by
 obtain⟨s,p,k,i,rc,I,q⟩:=U;unfold zw at I;cases e1:f p with
 | none=>rw[e1]at I;cases I
 | some d=>
  rw[e1]at I;refine⟨s,p,d,rc,e1,λv o b ext r=>?_⟩;cases d with
  | tup m=>
   obtain⟨l,O⟩:k = .T/\i=m:=by simp[je]at I;exact⟨I.1.symm,I.2.symm⟩
   subst l O;obtain⟨a,g,rfl,j,n⟩:=(show ∃a g,v = .ref a/\hB X.K b a g/\ej X.K b i g from r);exact q a g o b ext (o9 ext.sub j) (λ_=>j) n
  | lst m=>
   obtain⟨l,O⟩:k = .L/\i=m:=by simp[je]at I;exact⟨I.1.symm,I.2.symm⟩
   subst l O;obtain⟨a,g,rfl,j,n⟩:=(show ∃a g,v = .ref a/\gm X.K b a g/\ej X.K b i g from r);exact q a g o b ext (ext.sub.seq j) (λz=>nomatch z) n
  | _=>simp[je]at I
theorem PO.v(h:PO X e f):PV X e (jA f):=qC h λs H Q n=>by
 obtain⟨j,i,d,rc,I,q⟩:=n;unfold jA at I;cases e1:f i with
 | none=>rw[e1]at I;cases I
 | some b=>
  rw[e1]at I;cases I;refine⟨j,i,b,rc,e1,λa o p k ext l g m r=>?_⟩;exact q _ _ _ (ext.show l g m rc.sub) (show ∃O U,V.ref a = .ref O/\gm X.K _ O U/\ej X.K _ b U from⟨a,o,rfl,gm.of zU,r.mono<|ju g _⟩)
theorem PO.q(h:PO X e f):PQ X e (jL f):=qC h λp H Q O=>by
 obtain⟨i,d,k,l,rc,I,q⟩:=O;unfold jL at I;cases e1:f d with
 | none=>rw[e1]at I;cases I
 | some m=>
  rw[e1]at I;cases I;exact⟨i,d,_,rc,e1,λa j g b ext n o U r=>q a j g b ext (gm.of U) (λz=>nomatch z) r⟩
theorem Az(i:Nat)(h:PE X e (ur i)):PV X e (zc i):=qC h λm H Q O=>by
 obtain⟨b,j,d,rc,I,q⟩:=O;unfold zc at I;cases e1:j[i]? with
 | none=>rw[e1]at I;cases I
 | some c=>
  rw[e1]at I;cases c with
  | val k=>
   cases I;obtain⟨v,f,g⟩:=rc.val i d e1;exact⟨v,f,q v H b (Ext.refl rc.sub) g⟩
  | no=>cases I
  | own l=>cases I
  | nest a=>cases I
theorem AS(i:Nat)(h:PE X e (ur i)):PQ X e (ze i):=qC h λu H Q s=>by
 obtain⟨f,t,k,g,rc,I,q⟩:=s;unfold ze at I;cases e1:t[i]? with
 | none=>rw[e1]at I;cases I
 | some c=>
  rw[e1]at I;cases c with
  | no=>cases I
  | nest o=>cases I
  | own j=>
   cases I;obtain⟨a,b,m,n,p,r⟩:=rc.own i g e1;exact⟨_,m,q a b H f (Ext.refl rc.sub) (gm.of p) (λz=>nomatch z) r⟩
  | val d=>
   obtain⟨v,m,n⟩:=rc.val i d e1;refine⟨v,m,?_⟩;cases d with
   | tup j=>
    obtain⟨l,U⟩:k = .T/\g=j:=by simp[vR,je]at I;exact⟨I.1.symm,I.2.symm⟩
    subst l U;obtain⟨a,b,rfl,O,g2⟩:=(show ∃a b,v = .ref a/\hB X.K f a b/\ej X.K f g b from n);exact q a b H f (Ext.refl rc.sub) (o9 rc.sub O) (λ_=>O) g2
   | lst j=>
    obtain⟨l,U⟩:k = .L/\g=j:=by simp[vR,je]at I;exact⟨I.1.symm,I.2.symm⟩
    subst l U;obtain⟨a,b,rfl,O,g2⟩:=(show ∃a b,v = .ref a/\gm X.K f a b/\ej X.K f g b from n);exact q a b H f (Ext.refl rc.sub) (rc.sub.seq O) (λz=>nomatch z) g2
   | _=>simp[vR,je]at I
theorem XU(h:PE X e (tC v))(r : ∀H,Rep X.K H d v):PV X e (zv d):=qC h λg H Q I=>by obtain⟨a,f,b,rc,O,q⟩:=I;cases O;exact q v H a (Ext.refl rc.sub)<|r a
theorem zo:PV X (.Constant (.int i) j pos) (zv<|.int i):=XU Bh λ_=>(show V.int i = .int i from rfl)
theorem vM:PV X (.Constant (.bool x) j pos) (zv<|.bl x):=XU Fm λ_=>(show V.bl x = .bl x from rfl)
theorem QU:PV X (.Constant (.str x) j pos) (zv<|.str x):=XU Ba λ_=>(show V.str x = .str x from rfl)
noncomputable def m7(K:IT)(r:R2)(F:D->D->Option D):Prop:=∀b H x y f I d Q,f9 b H->Rep K b f x->Rep K b I y->F f I=bQ d->(∀v e a,Ext b H a e->Rep K a d v->Q v e)->r x y H Q
theorem zg(h:o.bind f=bQ y) : ∃x,o=bQ x/\f x=bQ y:=by
 cases o with
 | none=>cases h
 | some x=>exact⟨x,rfl,h⟩
theorem Vo{K:IT}{r:R2}{F:D->D->Option D}{J L:CO D}(hs:m7 K r F) : ∀C H Q,tV K (zH F J L) C H Q->G4 r (tV K J) (tV K L) C H Q:=λC H Q U=>by obtain⟨f,b,d,rc,I,q⟩:=U;obtain⟨x,j,I⟩:=zg I;obtain⟨y,k,I⟩:=zg I;refine⟨f,b,x,rc,j,λo s h x1 l=>⟨h,b,y,rc.ext x1,k,λp g i O m=>?_⟩⟩;exact hs i g o p x y d Q O.sub (l.mono O.s0) m I λv e a x3 n=>q v e a (x1.trans<|O.trans x3) n
theorem QW(I:iU X (xg op) r)(hs:m7 X.K r F)(C:PV X a fa)(O:PV X b fb):PV X (.BinOp a op b pos) (zH F fa fb):=
 qC (Bb I C O) (Vo hs)
theorem dm(I:iU X (o4 op) r)(hs:m7 X.K r F)(C:PV X a fa)(O:PV X b fb)(H:DR op b=ed):PV X (.Compare a [op] [b] pos) (zH F fa fb):=
 qC (dP I C O H) (Vo hs)
theorem Jg{d:D}{b:Bool}(h:rd d=bQ b):d = .bl b:=by cases d<;>simp[rd]at h;rw[h]
theorem XW(O:iU X (o4 op) r)(hs:m7 X.K r F)(C:PV X a fa)(U:PV X b fb)(J:DR op b=ed):ml X (.Compare a [op] [b] pos) (sB<|zH F fa fb):=
 aQ (rP O C U J) λl H Q i=>by obtain⟨g,j,k,rc,I,q⟩:=i;obtain⟨d,h,I⟩:=zg I;refine Vo hs l H _ ⟨g,j,d,rc,h,λv f e x r=>?_⟩;rw[Jg I]at r;exact⟨k,r,q f e x⟩
theorem qo{f:CO D}(h:PV X e f)(U : ∀O,DE e X.env O=(do let v <- O;D4 e.pos;u7 [v] (G6 v)):=by intro _;rfl):ml X e (sB f):=
 aQ (AK h U) λm H Q j=>by obtain⟨g,l,k,rc,I,q⟩:=j;obtain⟨d,i,I⟩:=zg I;refine⟨g,l,d,rc,i,λv b a x r=>?_⟩;rw[Jg I]at r;exact⟨k,r,q b a x⟩
theorem XQ(h:ml X a f):Dw X (.BoolOp .And [a] pos) f:=rL h
theorem yp(h:ml X a f):Dw X (.BoolOp .Or [a] pos) f:=Av h
theorem Vj{f g:CO Bool}{kn:List eu}(C:ml X a f)(O:Dw X (.BoolOp .And (b::kn) pos) g):Dw X (.BoolOp .And (a::b::kn) pos) (iO f g):=
 Ax (Aw C O) λo H Q U=>by
  obtain⟨i,e,k,rc,I,q⟩:=U;obtain⟨c,m,I⟩:=zg I;refine⟨i,e,c,rc,m,λh d x=>?_⟩;cases c with
  | true=>rw[RY rfl]at I ⊢;exact⟨d,e,k,rc.ext x,I,λj l n=>q j l<|x.trans n⟩
  | false=>rw[EQ LN]at I ⊢;cases I;exact q h d x
theorem k8{f g:CO Bool}{kn:List eu}(C:ml X a f)(O:Dw X (.BoolOp .Or (b::kn) pos) g):Dw X (.BoolOp .Or (a::b::kn) pos) (w5 f g):=
 Ax (Fg C O) λo H Q U=>by
  obtain⟨i,e,k,rc,I,q⟩:=U;obtain⟨c,m,I⟩:=zg I;refine⟨i,e,c,rc,m,λh d x=>?_⟩;cases c with
  | true=>rw[RY rfl]at I ⊢;cases I;exact q h d x
  | false=>rw[EQ LN]at I ⊢;exact⟨d,e,k,rc.ext x,I,λj l n=>q j l<|x.trans n⟩
theorem xh(C:ml X a f):ml X (.UnaryOp .Not a pos) (j8 f):=
 aQ (AL C) λh H Q O=>by
  obtain⟨g,d,k,rc,I,q⟩:=O;unfold j8 at I;cases e1:f d with
  | none=>rw[e1]at I;cases I
  | some c=>rw[e1]at I;cases I;exact⟨g,d,c,rc,e1,λe b x=>q e b x⟩
theorem ZN(h:Dw X e f):ml X e f:=h.pt
theorem Wr(h:PV X a f):PV X (.BoolOp op [a] pos) f:=Bc h
theorem Wu{f g:CO D}{kn:List eu}(C:PV X a f)(O:PV X (.BoolOp .And (b::kn) pos) g):PV X (.BoolOp .And (a::b::kn) pos) (aM f g):=
 qC (Bi C O) λu H Q U=>by
  obtain⟨k,i,d,rc,I,q⟩:=U;obtain⟨c,h,I⟩:=zg I;obtain⟨n,o,h⟩:=zg h;refine⟨k,i,n,rc,o,λv j e x r=>?_⟩;rw[Jg h]at r;refine⟨c,r,?_⟩;cases c with
  | true=>rw[RY rfl]at I ⊢;exact⟨e,i,d,rc.ext x,I,λs l m t p=>q s l m (x.trans t) p⟩
  | false=>rw[EQ LN]at I ⊢;cases I;exact q _ j e x (show V.bl ed = .bl ed from rfl)
theorem AA(C:PV X a f):PV X (.UnaryOp .Not a pos) (CG f):=
 qC (Bd C) λi H Q U=>by
  obtain⟨h,e,d,rc,I,q⟩:=U;unfold CG at I;cases e1:f e with
  | none=>rw[e1]at I;cases I
  | some O=>
   rw[e1]at I;refine⟨h,e,O,rc,e1,λv g b x r=>?_⟩;cases O with
   | bl c=>cases I;exact⟨c,r,q _ g b x<|show V.bl (!c) = .bl (!c)from rfl⟩
   | _=>cases I
theorem XT(L:ml X c k)(C:PV X a f)(J:PV X b g):PV X (.IfExp c a b pos) (hJ k f g):=
 qC (lO L C J) λr H Q o=>by
  obtain⟨m,l,d,rc,I,q⟩:=o;obtain⟨t,n,I⟩:=zg I;refine⟨m,l,t,rc,n,λp e x=>?_⟩;cases t with
  | true=>rw[RY rfl]at I ⊢;exact⟨e,l,d,rc.ext x,I,λO h U j i=>q O h U (x.trans j) i⟩
  | false=>rw[EQ LN]at I ⊢;exact⟨e,l,d,rc.ext x,I,λO h U j i=>q O h U (x.trans j) i⟩
theorem sk:B6 X [] zD:=Bj xy λe H Q I=>by obtain⟨a,d,b,rc,O,q⟩:=I;cases O;exact q [] H a (Ext.refl rc.sub) ej.nil
theorem lS(C:PV X e f)(U:B6 X es g)(hs:f6 (e::es) X.env=(ed,eA e X.env)::f6 es X.env:=by rfl):B6 X (e::es) (za f g):=
 Bj (jO C U hs) λt H Q l=>by
  obtain⟨d,b,s,rc,I,q⟩:=l;obtain⟨x,k,I⟩:=zg I;cases a:g b with
  | none=>rw[a]at I;cases I
  | some r=>
   rw[a]at I;cases I;exact⟨d,b,x,rc,k,λv p i x1 m=>⟨i,b,r,rc.ext x1,a,λo h j O n=>q (v::o) h j (x1.trans O)<|ej.cons (m.mono O.s0) n⟩⟩
theorem xm(h:B6 X es f):PV X (.Tuple es x1 pos) (qQ f):=
 qC (AZ h) λr H Q k=>by
  obtain⟨i,m,d,rc,I,q⟩:=k;obtain⟨b,j,I⟩:=zg I;by_cases O:b.length<=lim
  ·rw[RY O]at I;cases I
   refine⟨i,m,b,rc,j,λl n o x1 U=>⟨va (by rw[U.length];exact O),λp e=>?_⟩⟩;exact q _ _ _ (x1.trans<|Ext.alloc x1.sub e _) (show ∃a g,V.ref p = .ref a/\hB X.K _ a g/\ej X.K _ b g from⟨p,l,rfl,hB.of zU,U.mono<|ju (j3 x1.sub e) _⟩)
  ·rw[EQ O]at I;cases I
theorem xx(h:B6 X es f):PO X (.List es pos) (qm f):=
 qC (Bf h) λn H Q j=>by
  obtain⟨b,l,d,rc,I,q⟩:=j;obtain⟨g,i,I⟩:=zg I;by_cases U:g.length<=lim
  ·rw[RY U]at I;cases I
   refine⟨b,l,_,rc,i,λk m e x1 a=>⟨va (by rw[a.length];exact U),λp O=>?_⟩⟩;exact q p k _ e (x1.trans<|Ext.hide x1.sub O _) (by
    cases z:H p with
    | none=>rfl
    | some o=>rw[x1.s1 p o z]at O;cases O) (j3 x1.sub O) zU a
  ·rw[EQ U]at I;cases I
end
noncomputable def B8(k1 k2:Sk)(z TI TO C H I J:eg)(n:Nat)(h:fy):Prop:=
 (q5 h z TI TO .none\/∃a b O,h.get? z=bQ (Vb a b TI TO)/\h.get? a=bQ O)/\l6 h TI (.ref C) (.ref H)/\(∃c e,l6 h TO c e)/\i8 k1 h C I n/\i8 k2 h H J n
section
variable{prog:i3}{w:h8}{A:nh}{E:RQ}{s:eF}
theorem uD{k1 k2:Sk}{z TI TO C H U J:eg}{n:Nat}{xs ys:Array eh}{Q:Option eh->eF->Prop}(hh:A.handled=none)(D:xc z TI TO C H U J)
 (Z:B8 k1 k2 z TI TO C H U J n s.heap) (L:l8 k1 s.heap U xs) (Y:l8 k2 s.heap J ys) (a7:xs[n]? = none\/ys[n]? = none)
 (hQ : ∀h',(∀c o,c ∉ [z,TI,TO,C,H]->s.heap.get? c=bQ o->h'.get? c=bQ o)->Q none {s with heap:=h'}):wpAny (eY prog w) A (A7<|.ref z) Q E s:=by
 obtain⟨a,j,⟨c,e,m⟩,k,l⟩:=Z;unfold A7;rcases a with a | ⟨al,b,oa,a,ha⟩
 ·have O:s.TypeIs (.ref z) "zip":=⟨_,a,rfl⟩
  refine IU (OT (Mo (name:=MT "__next__") O MO (ML MO O NY
   (V3 (show A.in1.handled=none from hh) D a j m k l L Y a7 λg e h f=>?_) (NO _))))
  obtain⟨o,i,d⟩:=f;refine IU (RB (T:="StopIteration") (b:=dt) ⟨o,i,d⟩ isSubtype_stop (Lf ?_));refine hQ g λc o I q=>?_;simp only[Lo,LI,or_false,not_or]at I;exact h c o I.1 I.2.2.1 I.2.2.2.1 I.2.2.2.2 q
 ·have O:s.TypeIs (.ref z) "zip":=⟨_,a,rfl⟩
  refine IU (OT (Mo (name:=MT "__next__") O MO (ML MO O NY
   (ic (show A.in1.handled=none from hh) D a ha j k l L Y a7 λg e h f=>?_) (NO _))))
  obtain⟨o,i,d⟩:=f;refine IU (RB (T:="StopIteration") (b:=dt) ⟨o,i,d⟩ isSubtype_stop (Lf ?_));refine hQ g λc o I q=>?_;simp only[Lo,LI,or_false,not_or]at I;exact h c o I.1 I.2.2.2.1 I.2.2.2.2 q
end
noncomputable def IJ(i:Nat)(f:CO D)(γ:Ctx):Option D:=(qL γ[i]?).bind λa=>(f<|γ.set i<|.val<|.lst a).bind λd=>if FP d=dt then bQ d else none
noncomputable def rH(i:Nat)(f:CO Bool)(γ:Ctx):Option Bool:=(qL γ[i]?).bind λa=>f<|γ.set i<|.val<|.lst a
noncomputable def GS(i:Nat)(γ:Ctx):Option Fl:=(qL γ[i]?).map λ_=> .next (γ.set i<|.own [])
noncomputable def k4(ds:List D):List D:=(IS ds.length).map λ(i:Nat)=>D.tup [.int i,ds[i]?.getD .e7]
noncomputable def rE(f:CO D)(γ:Ctx):Option (List D):=(f γ).bind λd=>match d with
 | .tup a=>bQ (k4 a)
 | _=>none
noncomputable def Kd:List D->Option (List Int)
 | []=>bQ []
 | .int i::r=>(Kd r).map λl=>i::l
 | _::_=>none
noncomputable def EX(f:CO D)(g:CO (Sk×List D))(γ:Ctx):Option D:=(f γ).bind λd=>(g γ).bind λa=>(l0 d).bind λi=>(Kd a.2).map λl=> .bl (decide<|i∈l)
noncomputable def fN(k:Int):List Int->Option Nat
 | []=>none
 | i::r=>if i=k then bQ 0 else (fN k r).map (· + 1)
noncomputable def IH(f g:CO D)(γ:Ctx):Option D:=(f γ).bind λd=>((g γ).bind l0).bind λk=>match d with
 | .tup a=>(Kd a).bind λl=>(fN k l).map λ(j:Nat)=>D.int (j:Int)
 | _=>none
noncomputable def yC(T:Tg)(f:CO (List D))(γ:Ctx):List D->Option (List<|List D)
 | []=>bQ []
 | d::ds=>(x9 T d γ).bind λa=>(f a).bind λe=>(yC T f γ ds).map λr=>e::r
noncomputable def QT(C:CO (List D))(T:Tg)(n:Nat)(fr:List Nat)(f:CO (List D))(γ:Ctx):Option (List<|List D):=(C γ).bind λa=>if a.length<=lim then yC T f (z6 n fr γ) a else none
def Xh:Cell->Bool
 | .nest _=>dt
 | _=>ed
noncomputable def iJ(i:Nat)(f:CO (List<|List D)):CO Fl:=λb=>(f b).bind λa=>if b.any Xh=ed then bQ (.next<|b.set i<|.nest a)else none
noncomputable def wO:Option Cell->Option (List<|List D)
 | some (.nest rows)=>bQ rows
 | _=>none
noncomputable def yV(γ:Ctx)(j i:Nat)(r:List D):Ctx:=(γ.set j .no).set i (.own r)
noncomputable def kQ(j i:Nat)(g f:CO D)(γ:Ctx):List (List D)->Option (List<|List D)
 | []=>bQ []
 | r::rs=>(f<|yV γ j i r).bind λd=>((g<|yV γ j i r).bind l0).bind λk=>(f7 r.length k).bind λm=>(kQ j i g f γ rs).map λt=>r.set m d::t
noncomputable def cW(j i:Nat)(g f:CO D)(γ:Ctx):Option Fl:=(wO γ[j]?).bind λa=>if i=j\/γ.length<=i then none else (kQ j i g f γ a).map λI=> .next ((γ.set j<|.nest I).set i .no)
noncomputable def iM(i:Nat)(F:CO Fl)(γ:Ctx):Option Fl:=(qL γ[i]?).bind λa=>F<|γ.set i<|.val<|.lst a
noncomputable def iL(i:Nat)(F:CO Fl)(γ:Ctx):Option Fl:=(wO γ[i]?).bind λa=>F<|γ.set i<|.val<|.lst<|a.map D.lst
noncomputable def GR(is:List Nat)(f:CO D)(γ:Ctx):Option Fl:=(f γ).bind λd=>match d with
 | .lst a=>if a.length=is.length then bQ (.next<|xt is a γ)else none
 | _=>none
noncomputable def KS:List D->Option (List Str)
 | []=>bQ []
 | .str x::r=>(KS r).map λl=>x::l
 | _::_=>none
def jQ(x:Str):Bool:=decide<|x.length<=1000
noncomputable def rD(f:CO D)(g:CO (Sk×List D))(γ:Ctx):Option D:=(f γ).bind λd=>(g γ).bind λa=>match d,a.1 with
 | .str sep,.L=>(KS a.2).bind λl=>if l.length<=lim/\l.all jQ=dt/\jQ sep=dt then bQ (.str<|Rw sep l)else none
 | _,_=>none
noncomputable def wc(f g:CO D)(γ:Ctx):Option D:=(f γ).bind λd=>((g γ).bind l0).bind λi=>match d with
 | .str z=>if jQ z=dt then (f7 z.cps.toList.length i).bind λk=>z.cps.toList[k]?.map λc=> .str ⟨#[c]⟩else none
 | _=>none
noncomputable def yT(f:CO D)(γ:Ctx):Option D:=(f γ).bind λd=>match d with
 | .str z=>if jQ z=dt then bQ (.int z.length)else none
 | _=>none
noncomputable def HZ(k1 I k2 O:Str)(f:CO D)(γ:Ctx):Option D:=(f γ).bind λd=>match d with
 | .str x=>if k1=k2 then none else if x=k1 then bQ (.str I)else if x=k2 then bQ (.str O)else none
 | _=>none
noncomputable def iK(f g:CO D)(γ:Ctx):Option D:=((f γ).bind l0).bind λi=>((g γ).bind l0).map λj=> .int (if j<i then j else i)
abbrev Xn:=Str×Option Int
def G9:CO Xn:=λ_=>none
def uE(c:Str):CO Xn:=λ_=>bQ (c,none)
noncomputable def G8(k:CO Bool)(G H:CO Xn):CO Xn:=λa=>(k a).bind λb=>if b=dt then G a else H a
noncomputable def HH(G:CO Xn)(F:CO Fl)(H:CO Xn):CO Xn:=λb=>match G b with
 | some c=>bQ c
 | none=>(F b).bind λI=>match I with
  | .next a=>H a
  | _=>none
def GT(n:Nat)(G:CO Xn)(ds:List D):Option Xn:=G<|z7 n ds
noncomputable def Iv(c:Str):Str:=if c==("NoRoom" : Str)then "room" else "at"
noncomputable def Vi(f:CO D)(g:CO (Sk×List D)):CO D:=λb=>(f b).bind λd=>(g b).bind λa=>(l0 d).bind λi=>(Kd a.2).map λl=> .bl (!decide (i∈l))
end DL
namespace DL
open PySem L2
open PySem.W (KasT kas_sort)
def ka(z:Str):List D:=z.cps.toList.map λc=>D.str ⟨#[c]⟩
noncomputable def Ab(f:CO D)(γ:Ctx):Option (List D):=(f γ).bind λd=>match d with
 | .str z=>if jQ z=dt then bQ (ka z)else none
 | _=>none
noncomputable def K8(f:CO D)(γ:Ctx):Option (List D):=(f γ).bind λd=>match d with
 | .str z=>if jQ z=dt then bQ (k4<|ka z)else none
 | _=>none
noncomputable def Ae(f:CO D)(γ:Ctx):Option (List D):=(f γ).bind λd=>match d with
 | .lst a=>bQ (k4 a)
 | _=>none
noncomputable def HX(f:CO D)(g:CO (Sk×List D))(γ:Ctx):Option D:=(f γ).bind λd=>(g γ).bind λa=>match d with
 | .str x=>(KS a.2).map λl=> .bl (l.any λy=>y==x)
 | _=>none
noncomputable def Fb(f g:CO D)(γ:Ctx):Option D:=(f γ).bind λd=>(g γ).bind λe=>match d,e with
 | .str x,.str y=>if jQ x=dt/\jQ y=dt then bQ (.str<|x++y)else none
 | _,_=>none
noncomputable def IF(f:CO D)(l h:CO (Option Int))(γ:Ctx):Option D:=(f γ).bind λd=>(l γ).bind λlo=>(h γ).bind λa=>match d with
 | .str z=>if jQ z=dt then bQ (.str<|Txt.slice z lo a)else none
 | _=>none
noncomputable def CI(f:CO (Sk×List D))(γ:Ctx):Option (List D):=(f γ).bind λa=>match a.1 with
 | .L=>if a.2.length<=lim then bQ a.2.reverse else none
 | _=>none
noncomputable def lR:D->Option (Int×Int)
 | .tup [.int a,.int b]=>bQ (a,b)
 | _=>none
noncomputable def ZF:List D->Option (List<|Int×Int)
 | []=>bQ []
 | d::r=>(lR d).bind λp=>(ZF r).map λl=>p::l
noncomputable def wB(x y:Int×Int):Bool:=if x.1=y.1 then decide (x.2<y.2)else decide (x.1<y.1)
noncomputable def km{C:Type}(lt:Nat->Nat->Bool):KasT C->C
 | .ret a=>a
 | .ask i j k=>km lt<|k<|lt i j
noncomputable def xV(ps:List (Int×Int)):List Nat:=if ps.length<2 then IS ps.length else (km (λi j=>wB (ps.getD i (0,0))<|ps.getD j (0,0))<|kas_sort ps.length).toList
noncomputable def cN(ds:List D):Option (List D):=(ZF ds).bind λa=>if ds.length<64 then bQ ((xV a).map λi=>ds.getD i .e7)else none
noncomputable def cU(f:CO (Sk×List D))(γ:Ctx):Option (List D):=(f γ).bind λa=>match a.1 with
 | .L=>cN a.2
 | _=>none
end DL
namespace DL
open PySem L2
noncomputable def EY(i:Nat)(f:CO (List D))(γ:Ctx):Option Fl:=(qL γ[i]?).bind λa=>(f γ).bind λb=>if a.length+b.length<=lim then bQ (.next<|γ.set i<|.own<|a++b)else none
noncomputable def Ah(F G:List D->Option Res)(g:CO (List D))(γ:Ctx):Option (List D):=(g γ).bind λl=>match l with
 | [p,.str z,t,b]=>((if z=("r" : Str)then F else G) [p,t,b]).bind hV
 | _=>none
noncomputable def VB:List D->Option (List Int)
 | []=>bQ []
 | .int i::r=>(VB r).map λl=>i::l
 | _::_=>none
noncomputable def tE(ds es:List D):Option D:=match VB ds with
 | some a=>if ds.length=es.length/\a.Nodup/\ds.length<=lim then bQ (.md ds es)else none
 | none=>none
noncomputable def uy:List D->List D->Int->Option D
 | k::ks,v::vs,i=>match k with
  | .int j=>if j=i then bQ v else uy ks vs i
  | _=>uy ks vs i
 | _,_,_=>none
open PySem.Spec PyProof.Rows
structure RS(K:IT)(E0 E H0 H:Hp)(σ:St)(γ:Ctx):Prop where
 rc:RC K H0 H σ γ
 ext:Ext E0 E H0 H
 fresh : ∀(i:Nat) ds a,γ[i]? = bQ (.own ds)->σ[i]? = bQ (bQ (.ref a))->E a=none
 u6 : ∀(i:Nat) rows a xs,γ[i]? = bQ (.nest rows)->σ[i]? = bQ (bQ (.ref a))->H a=bQ (.lst xs)->E a=none/\∀b,V.ref b∈xs->E b=none
noncomputable def Sat(K:IT)(E0 E:Hp)(D:Ends):Fl->Prop
 | .next f=>∀e H b,RS K E0 E b H e f->D.nx e H
 | .brk f=>∀e H b,RS K E0 E b H e f->D.bk e H
 | .cont f=>∀e H b,RS K E0 E b H e f->D.ct e H
 | .ret (.val d)=>∀v H b,Ext E0 E b H->Rep K b d v->D.rt v H
 | .ret (.own es)=>∀a g H b,Ext E0 E b H->E a=none->b a=none->H a=bQ (.lst g)->ej K b es g->D.rt (.ref a) H
noncomputable def tS(K:IT)(F:CO Fl):TS:=λD d H=>∃E0 E b a I,RS K E0 E b H d a/\F a=bQ I/\Sat K E0 E D I
abbrev lh(X:Cx)(st:iS)(F:CO Fl):Prop:=PS X st (tS X.K F)
abbrev bX(X:Cx)(Ut:List iS)(F:CO Fl):Prop:=n9 X Ut (tS X.K F)
section
variable{K:IT}{E0 E H0 H A4 H':Hp}{σ:St}{γ:Ctx}
theorem RS.step(r:RS K E0 E H0 H σ γ)(e:Ext H0 H A4 H'):RS K E0 E A4 H' σ γ:=⟨r.rc.ext e,r.ext.trans e,r.fresh,λi b a g d f O=>by obtain⟨U,bs,I,g2,_⟩:=r.rc.m1.1 i b d;rw[f]at I;cases I;have:=e.s1 a _ g2.ha;rw[O]at this;cases this;exact r.u6 i b a _ d f g2.ha⟩
theorem zG{C:Type}{l:List C}{i j:Nat}{x y:C}(h:(l.set i x)[j]? = bQ y):(j=i/\y=x/\i<l.length)\/(j≠i/\l[j]? = bQ y):=by
 by_cases e:i=j
 ·subst e
  by_cases I:i<l.length
  ·rw[Lr I]at h;cases h;exact .inl ⟨rfl,rfl,I⟩
  ·rw[List.set_eq_of_length_le ⋯]at h
   exact absurd (Lh.mp h).1 I
 ·rw[Lb e]at h;exact .inr ⟨LC e,h⟩
theorem n7.A3{i:Nat}{d:D}{v:V}(n:n7 K H0 H σ γ):n7 K H0 H (σ.set i<|some v) (γ.set i<|.val d):=
 ⟨λj b e=>by
  rcases zG e with⟨_,z,_⟩ | ⟨O,z⟩
  ·cases z
  ·obtain⟨a,bs,l,m,U⟩:=n.1 j b z
   refine⟨a,bs,by rw[Lb (LC O)];exact l,m,λk h c g f=>?_⟩;rcases zG g with⟨_,z,_⟩ | ⟨o,I⟩
   ·cases z
   ·rw[Lb (LC o)]at f;exact U k h c I f,
 λj k p r g f=>by
  rcases zG g with⟨_,z,_⟩ | ⟨_,I⟩
  ·cases z
  ·rcases zG f with⟨_,z,_⟩ | ⟨_,s⟩
   ·cases z
   ·exact n.2 j k p r I s⟩
theorem RC.A3{i:Nat}{d:D}{v:V}(r:RC K H0 H σ γ)(h:Rep K H0 d v):RC K H0 H (σ.set i<|some v) (γ.set i<|.val d):=by
 refine⟨r.sub,by simp[r.len],λj l e=>?_,λj b e=>?_,λj k a b o m n U f=>?_,r.m1.A3⟩
 ·rcases zG e with⟨rfl,z,g⟩ | ⟨I,z⟩
  ·cases z;exact⟨v,Lr (by rw[r.len];exact g),h⟩
  ·obtain⟨s,O,g2⟩:=r.val j l z
   exact⟨s,by rw[Lb (LC I)];exact O,g2⟩
 ·rcases zG e with⟨rfl,z,g⟩ | ⟨I,z⟩
  ·cases z
  ·obtain⟨a,t,O,g2⟩:=r.own j b z
   exact⟨a,t,by rw[Lb (LC I)];exact O,g2⟩
 ·rcases zG m with⟨_,z,_⟩ | ⟨I,u⟩
  ·cases z
  ·rcases zG n with⟨_,z,_⟩ | ⟨p,w⟩
   ·cases z
   ·rw[Lb (LC I)]at U
    rw[Lb (LC p)]at f;exact r.ne j k a b o u w U f
theorem RS.A3{i:Nat}{d:D}{v:V}(r:RS K E0 E H0 H σ γ)(h:Rep K H0 d v):RS K E0 E H0 H (σ.set i<|some v) (γ.set i<|.val d):=
 ⟨r.rc.A3 h,r.ext,λj g a f b=>by
  rcases zG f with⟨_,z,_⟩ | ⟨I,z⟩
  ·cases z
  ·rw[Lb (LC I)]at b;exact r.fresh j g a z b,
 λj e a k f b O=>by
  rcases zG f with⟨_,z,_⟩ | ⟨I,z⟩
  ·cases z
  ·rw[Lb (LC I)]at b;exact r.u6 j e a k z b O⟩
theorem yw : ∀{I bs:List eg},I.map V.ref=bs.map V.ref->I=bs
 | [],[],_=>rfl
 | [],_::_,h=>by cases h
 | _::_,[],h=>by cases h
 | a::I,b::bs,h=>by rw[Mc,Mc]at h;injection h with h1 h2;injection h1 with h1;rw[h1,yw h2]
theorem RS.Ur{i:Nat}{es:List D}{a:eg}{xs:List V}{J G:Hp}(r:RS K E0 E J G σ γ)(e:Ext J G H0 H)(C:G a=none)(L:H0 a=none)(Y:H a=bQ (.lst xs))(Z:ej K H0 es xs) :
 RS K E0 E H0 H (σ.set i<|some (.ref a)) (γ.set i<|.own es):=by
 have rc:=r.rc.ext e;have no : ∀(j:Nat) f,γ[j]? = bQ (.own f)->¬σ[j]? = bQ (bQ (.ref a)):=λj f g z=>by obtain⟨b,w,I,g2,g3,_⟩:=r.rc.own j f g;rw[z]at I;cases I;rw[C]at g3;cases g3
 refine⟨⟨rc.sub,by simp[rc.len],λj y g=>?_,λj f g=>?_,λj k b f fs u h l m=>?_,⟨λj d g=>?_,λj k M N I g2=>?_⟩⟩,r.ext.trans e,λj f b I g2=>?_,λj d b xs I g2 g3=>?_⟩
 ·rcases zG g with⟨_,z,_⟩ | ⟨O,z⟩
  ·cases z
  ·obtain⟨P,I,g2⟩:=rc.val j y z
   exact⟨P,by rw[Lb (LC O)];exact I,g2⟩
 ·rcases zG g with⟨rfl,z,U⟩ | ⟨O,z⟩
  ·cases z;exact⟨a,xs,Lr (by rw[rc.len];exact U),L,Y,Z⟩
  ·obtain⟨b,w,I,g2⟩:=rc.own j f z
   exact⟨b,w,by rw[Lb (LC O)];exact I,g2⟩
 ·rcases zG u with⟨rfl,z,U⟩ | ⟨O,n⟩
  ·rcases zG h with⟨rfl,_,_⟩ | ⟨p,s⟩
   ·rfl
   ·rw[Lr (by rw[rc.len];exact U)]at l
    rw[Lb (LC p)]at m;cases l;exact absurd m<|no k fs s
  ·rcases zG h with⟨rfl,z,U⟩ | ⟨p,s⟩
   ·rw[Lr (by rw[rc.len];exact U)]at m
    rw[Lb (LC O)]at l;cases m;exact absurd l<|no j f n
   ·rw[Lb (LC O)]at l
    rw[Lb (LC p)]at m;exact rc.ne j k b f fs n s l m
 ·rcases zG g with⟨_,z,_⟩ | ⟨O,z⟩
  ·cases z
  ·obtain⟨b,bs,I,g2,g3⟩:=r.rc.m1.1 j d z
   obtain⟨R,t,f1,f2,B⟩:=rc.m1.1 j d z;rw[I]at f1;cases f1;have A:t.map V.ref=bs.map V.ref:=by have:=e.s1 b _ g2.ha;rw[f2.ha]at this;injection this with this;injection this
   have x:t=bs:=yw A;subst x;refine⟨b,t,by rw[Lb (LC O)];exact I,f2,λk f c u h=>?_⟩;rcases zG u with⟨rfl,_,U⟩ | ⟨p,n⟩
   ·rw[Lr (by rw[rc.len];exact U)]at h;cases h
    intro F;obtain⟨_,Q,q⟩:=g2.at F;rw[C]at q;cases q
   ·rw[Lb (LC p)]at h;exact B k f c n h
 ·rcases zG I with⟨_,z,_⟩ | ⟨_,n⟩
  ·cases z
  ·rcases zG g2 with⟨_,z,_⟩ | ⟨_,s⟩
   ·cases z
   ·exact rc.m1.2 j k M N n s
 ·rcases zG I with⟨rfl,z,U⟩ | ⟨O,z⟩
  ·rw[Lr (by rw[rc.len];exact U)]at g2;cases g2
   cases q:E a with
   | none=>rfl
   | some o=>rw[r.ext.s1 a o q]at C;cases C
  ·rw[Lb (LC O)]at g2;exact r.fresh j f b z g2
 ·rcases zG I with⟨_,z,_⟩ | ⟨O,z⟩
  ·cases z
  ·rw[Lb (LC O)]at g2;exact(r.step e).u6 j d b xs z g2 g3
theorem RS.rewrite{i:Nat}{ds es:List D}{a:eg}{xs ys:List V}(r:RS K E0 E H0 H σ γ)(hi:γ[i]? = bQ (.own ds))(hs:σ[i]? = bQ (bQ (.ref a)))(C:ej K H0 es ys) :
 RS K E0 E H0 (upd H a<|.lst ys) σ (γ.set i<|.own es):=by
 obtain⟨J,L,g1,g2,g3,P⟩:=r.rc.own i ds hi;rw[hs]at g1;cases g1;have M:i<γ.length:=(Lh.mp hi).1;refine⟨⟨λb o q=>?_,by simp[r.rc.len],λj y g=>?_,λj fs g=>?_,λj k b fs gs f d m A=>?_,⟨λj e g=>?_,λj k F G f d=>?_⟩⟩,⟨r.ext.s0,λb o q=>?_,λb o q=>?_,r.ext.new⟩,λj fs b f d=>?_,λj e b t f d m=>?_⟩
 ·rw[zS (λz=>by rw[z,g2]at q;cases q)];exact r.rc.sub b o q
 ·rcases zG g with⟨_,z,_⟩ | ⟨n,z⟩
  ·cases z
  ·exact r.rc.val j y z
 ·rcases zG g with⟨rfl,z,Q⟩ | ⟨n,z⟩
  ·cases z;exact⟨a,ys,hs,g2,zU,C⟩
  ·obtain⟨b,t,I,O,U,B⟩:=r.rc.own j fs z
   refine⟨b,t,I,O,?_,B⟩;rw[zS (λq=>n<|r.rc.ne j i a fs ds z hi (by rw[I,q]) hs)];exact U
 ·have w : ∃h,γ[j]? = bQ (.own h):=by
   rcases zG f with⟨q,_,_⟩ | ⟨_,z⟩
   ·exact⟨ds,by rw[q];exact hi⟩
   ·exact⟨fs,z⟩
  have x : ∃h,γ[k]? = bQ (.own h):=by
   rcases zG d with⟨q,_,_⟩ | ⟨_,z⟩
   ·exact⟨ds,by rw[q];exact hi⟩
   ·exact⟨gs,z⟩
  obtain⟨I,l⟩:=w;obtain⟨O,s⟩:=x;exact r.rc.ne j k b I O l s m A
 ·rcases zG g with⟨_,z,_⟩ | ⟨n,z⟩
  ·cases z
  ·obtain⟨b,bs,I,O,U⟩:=r.rc.m1.1 j e z
   have u:=U i ds a hi hs;refine⟨b,bs,I,O.move (f9.refl _) (λc p=>(O.at p).1)<|λc p=>zS λq=>u<|q ▸ p,λk fs c f d=>?_⟩;rcases zG f with⟨q,_,_⟩ | ⟨_,l⟩
   ·rw[q,hs]at d;cases d;exact u
   ·exact U k fs c l d
 ·rcases zG f with⟨_,z,_⟩ | ⟨_,l⟩
  ·cases z
  ·rcases zG d with⟨_,z,_⟩ | ⟨_,s⟩
   ·cases z
   ·exact r.rc.m1.2 j k F G l s
 ·rw[zS (λz=>by rw[z,r.fresh i ds a hi hs]at q;cases q)];exact r.ext.s1 b o q
 ·rw[zS (λz=>by rw[z,g2]at q;cases q)];exact r.ext.sub b o q
 ·rcases zG f with⟨q,_,_⟩ | ⟨_,z⟩
  ·rw[q]at d;exact r.fresh i ds b hi d
  ·exact r.fresh j fs b z d
 ·rcases zG f with⟨_,z,_⟩ | ⟨n,z⟩
  ·cases z
  ·obtain⟨N,bs,I,O,U⟩:=r.rc.m1.1 j e z
   rw[d]at I;cases I;rw[zS (show b≠a from λq=>U i ds a hi hs<|by rw[q];exact Lp)]at m;exact r.u6 j e b t z d m
end
section
variable{X:Cx}{e a b c:eu}{pos:g8}{st:iS}{kn:List iS}
theorem jw:bX X [] jZ:=oh dw λD d H I=>by obtain⟨E0,E,a,f,e,O,U,b⟩:=I;cases U;exact b d H a O
theorem zh{F G:CO Fl}(C:lh X st F)(J:bX X kn G):bX X (st::kn) (zN F G):=oh (vi C J) λD m H h=>by
 obtain⟨E0,E,d,j,g,i,I,O⟩:=h;obtain⟨U,f,I⟩:=zg I;refine⟨E0,E,d,j,U,i,f,?_⟩;cases U with
 | next a=>exact λk l b e=>⟨E0,E,b,a,g,e,I,O⟩
 | brk a=>cases I;exact O
 | cont a=>cases I;exact O
 | ret r=>cases I;cases r<;>exact O
theorem zt(C:lh X st F):bX X [st] F:=JE C
theorem zJ(h:o.map f=bQ y) : ∃x,o=bQ x/\f x=y:=by
 cases o with
 | none=>cases h
 | some x=>exact⟨x,rfl,by simpa using h⟩
theorem zT{f:CO D}(h:PV X e f):lh X (.Return (bQ e) pos) (jM f):=kY (Yi h) λD m H U=>by obtain⟨E0,E,g,k,l,O,I,i⟩:=U;obtain⟨d,j,I⟩:=zJ I;subst I;exact⟨g,k,d,O.rc,j,λv b a x r=>i v b a (O.ext.trans x) r⟩
theorem kN{f:CO (List D)}(h:PO X e f):lh X (.Return (bQ e) pos) (yO f):=kY (Yi h) λD u H U=>by
 obtain⟨E0,E,i,s,t,I,O,j⟩:=U;obtain⟨k,l,O⟩:=zJ O;subst O;refine⟨i,s,k,I.rc,l,λa p g b x d m n r=>j a p g b (I.ext.trans x) ?_ m n r⟩;cases q:E a with
 | none=>rfl
 | some o=>rw[I.ext.s1 a o q]at d;cases d
theorem vk(i:Nat)(h:PE X e (ur i)):lh X (.Return (bQ e) pos) (JA i):=kY (Yi h) λD t H o=>by
 obtain⟨E0,E,j,r,s,O,I,U⟩:=o;unfold JA at I;cases b:r[i]? with
 | none=>rw[b]at I;cases I
 | some c=>
  rw[b]at I;cases c with
  | no=>cases I
  | val d=>
   cases I;obtain⟨v,f,g⟩:=O.rc.val i d b;exact⟨v,f,U v H j O.ext g⟩
  | nest l=>cases I
  | own k=>
   cases I;obtain⟨a,p,f,g,m,n⟩:=O.rc.own i k b;exact⟨_,f,U a p H j O.ext (O.fresh i k a b f) g m n⟩
theorem Yg:lh X (.Continue pos) rG:=kY Vk λD b H ⟨E0,E,a,e,d,I,O,U⟩=>by cases O;exact U b H a I
theorem wj:lh X st JB:=kY lB λD e H ⟨E0,E,a,d,O,U,I,b⟩=>by cases I
theorem qJ{k:CO Bool}{F G:CO Fl}{x y:List iS}(L:ml X c k)(C:bX X x F)(J:bX X y G):lh X (.If c x y pos) (h7 k F G):=kY (AO L C J) λD i H g=>by
 obtain⟨E0,E,e,b,U,O,I,d⟩:=g;obtain⟨t,f,I⟩:=zg I;refine⟨e,b,t,O.rc,f,λh a x=>?_⟩;cases t with
 | true=>rw[RY rfl]at I ⊢;exact⟨E0,E,a,b,U,O.step x,I,d⟩
 | false=>rw[EQ LN]at I ⊢;exact⟨E0,E,a,b,U,O.step x,I,d⟩
theorem rQ(i:Nat){f:CO D}(h:PS X st (Wd (tV X.K f)<|yP i)):lh X st (jo i f):=kY h λD m H U=>by obtain⟨E0,E,b,j,l,O,I,e⟩:=U;obtain⟨d,g,I⟩:=zJ I;subst I;exact⟨b,j,d,O.rc,g,λv k a x r=>e _ _ a<|(O.step x).A3 r⟩
theorem Wv(i:Nat){f:CO (List D)}(h:PS X st (Wd (tO X.K f)<|yP i)):lh X st (xf i f):=kY h λD t H U=>by obtain⟨E0,E,d,n,p,O,I,e⟩:=U;obtain⟨g,j,I⟩:=zJ I;subst I;exact⟨d,n,g,O.rc,j,λa s o b x k l m r=>e _ _ b<|O.Ur x k l m r⟩
theorem xY(h:qL o=bQ ds):o=bQ (.own ds):=by
 cases o with
 | none=>cases h
 | some c=>cases c<;>simp[qL]at h;rw[h]
theorem aS(i:Nat){f:CO D}(h:PE X e (To X.K "list" de (ur i) (uR (tV X.K f) GP)))(hs:vu e none pos.line X.env=pure ed:=by rfl):lh X (.Expr e pos) (jV i f):=
 kY (JF h hs) λD B H u=>by
  obtain⟨E0,E,n,w,z,O,I,o⟩:=u;obtain⟨j,b,I⟩:=zg I;obtain⟨d,t,I⟩:=zg I;have b:=xY b;by_cases U:j.length<lim
  ·rw[RY U]at I;cases I
   obtain⟨a,xs,k,A,l,m⟩:=O.rc.own i j b;refine⟨_,k,.inl ⟨rfl,_,gm.of l⟩,n,w,d,O.rc,t,λv y g x r=>?_⟩;have p:=O.step x;have s:=x.s1 _ _ l;refine⟨a,xs,v,rfl,rfl,s,?_,?_⟩
   ·exact LA (by rw[m.length];exact U)<|va<|Le _
   ·exact o _ _ g<|p.rewrite (xs:=xs) b k<|(m.mono x.s0).append (ej.cons r ej.nil)
  ·rw[EQ U]at I;cases I
end
noncomputable def IC(K:IT)(C H:Hp)(Q:VK):Res->Prop
 | .val d=>∀v e b,Ext C H b e->Rep K b d v->Q v e
 | .own g=>∀a f e b,Ext C H b e->H a=none->b a=none->e a=bQ (.lst f)->ej K b g f->Q (.ref a) e
noncomputable def tv(K:IT)(n:Nat)(F:List D->Option Res):Sp:=λd H Q _=>∃a b r,f9 a H/\ej K a b d/\b.length=n/\F b=bQ r/\IC K a H Q r
theorem tv.len{K:IT}{n:Nat}{F:List D->Option Res}{ps:List Str}(C:ps.length=n) : ∀vs H Q E,tv K n F vs H Q E->vs.length=ps.length:=λvs H Q E h=>by obtain⟨d,e,r,_,a,b,_⟩:=h;rw[a.length,b,C]
section
variable{P:i3}{w:h8}{K:IT}{mg:RJ}{base:fy}
theorem Wn(s:f9 H0 H)(h:ej K H0 ds vs)(C:ds.length<=N.length):RS K H0 H H0 H (ZK N vs) (z7 N.length ds):=by
 have I:=h.length;refine⟨⟨s,by simp[L2.ZK,z7,I],λi d e=>?_,λi g e=>?_,λi j a g fs e _ _ _=>?_,n7.DH λi f e=>?_⟩,Ext.refl s,λi g a e _=>?_,λi f a l e _ _=>?_⟩
 all_goals unfold z7 at e
 ·by_cases b:i<ds.length
  ·rw[Mm (by simpa using b),Lz]at e
   cases e1:ds[i]? with
   | none=>rw[e1]at e;cases e
   | some k=>
    rw[e1]at e;cases e;obtain⟨x,O,g2⟩:=h.get e1;refine⟨x,?_,g2⟩;unfold L2.ZK;rw[Mm (by simp;omega),Lz,O];rfl
  ·rw[Mf (by simpa using b),Oc]at e
   split at e<;>cases e
 all_goals
  by_cases b:i<ds.length
  ·rw[Mm (by simpa using b),Lz]at e
   cases e1:ds[i]? with
   | none=>rw[e1]at e;cases e
   | some k=>rw[e1]at e;cases e
  ·rw[Mf (by simpa using b),Oc]at e
   split at e<;>cases e
theorem Ca{x qual:Str}{st:iS}{f:eg}{J:rr}{N ps:List Str}{k:Nat}{F:CO Fl}(U:L2.Du K x qual st f J)(S:D7 N ps (jC st))
 (L : ∀(C:eh) (A:nh) (outer:List n4) (s:eF) (H:Hp) (E:XK),o3 k (A.deeper<|envOfC qual (jC st) s.heap.objs.size f C)->bX (tH t4 P w K mg base N qual (jC st) f C A outer s H E).F7 (k5 st) F) :
 rq P w K mg base t4 (k+1) f J ps (tv K ps.length<|jn N.length F):=by
 refine U.ok S (tv.len rfl)<|λC A outer s H B Q E n h=>⟨_,L C A outer s H E n,?_⟩;obtain⟨d,i,r,p,l,y,m,I⟩:=h;obtain⟨O,j,a⟩:=zg m;have u:ps.length<=N.length:=by have:=congrArg List.length S.pre;rw[OA]at this;omega
 refine⟨d,H,d,z7 N.length i,O,Wn p l ⋯,j,?_⟩;cases O with
 | ret z=>cases a;cases r<;>exact I
 | next e=>cases a;exact λt g b o=>I .e7 g b o.ext (show V.e7 = .e7 from rfl)
 | brk e=>cases a
 | cont e=>cases a
end
section
variable{X:Cx}{es:List eu}{pos p:g8}{k:Nat}{f:eg}{fd:rr}{ps:List Str}{x:Str}{F:List D->Option Res}{g:CO (List D)}
theorem rM{A0:List eu}(G:rq X.prog X.w X.K X.mg X.base t4 k f fd ps (tv X.K ps.length F))(C:B6 X es g)(L : ∀γ ds,g γ=bQ ds->ds.length=ps.length)
 (J : ∀{t:TA},PA X es t->PE X (.Call (.Name x p) es [] pos) (pP (tv X.K ps.length F) [] E0 t)):PV X (.Call (.Name x p) es [] pos) (zC F g):=
 qC (J C) λM H Q y=>by
  obtain⟨m,γ,d,rc,I,q⟩:=y;obtain⟨ds,j,I⟩:=zg I;obtain⟨r,o,I⟩:=zJ I;refine⟨m,γ,ds,rc,j,λE B n x1 z=>⟨n,ds,r,x1.sub,by simpa using z,L γ ds j,o,?_⟩⟩;subst I;cases r with
  | val d=>exact λv e b O h=>q v e b (x1.trans O) h
  | own fs=>
   refine λa A e b O s l u h=>q _ e _ (x1.trans<|O.show s l u x1.sub) ?_;exact(show ∃U i,V.ref a = .ref U/\gm X.K _ U i/\ej X.K _ fs i from⟨a,A,rfl,gm.of zU,h.mono<|ju l _⟩)
theorem rW(G:rq X.prog X.w X.K X.mg X.base t4 k f fd ps (tv X.K ps.length F))(C:B6 X es g)(O : ∀γ ds,g γ=bQ ds->ds.length=ps.length)
 (U : ∀{t:TA},PA X es t->PE X (.Call (.Name x p) es [] pos) (pP (tv X.K ps.length F) [] E0 t)):PO X (.Call (.Name x p) es [] pos) (ja F g):=
 qC (U C) λM H Q u=>by
  obtain⟨j,γ,fs,rc,I,q⟩:=u;obtain⟨ds,e,I⟩:=zg I;obtain⟨r,m,I⟩:=zg I;refine⟨j,γ,ds,rc,e,λL J l x1 y=>⟨l,ds,r,x1.sub,by simpa using y,O γ ds e,m,?_⟩⟩;cases r with
  | val d=>cases I
  | own gs=>
   cases I;exact λa E i b B h n s A=>q a E i b (x1.trans B) (by
    cases z:H a with
    | none=>rfl
    | some o=>rw[x1.s1 a o z]at h;cases h) n s A
end
structure Walk(K:IT)(H0 Hs:Hp)(J:It)(ds:List D):Prop where
 go : ∀i H1,f9 Hs H1->i<ds.length->J.go i H1
 stop : ∀H1,f9 Hs H1->J.stop ds.length H1
 Be : ∀i H1 x SF,f9 Hs H1->i<ds.length->J.Be i H1 x SF->∃d,ds[i]? = bQ d/\∀G0,f9 H0 G0->f9 G0 H1->∃SE,Ext G0 H1 SE SF/\Rep K SE d x
theorem Walk.weak{K:IT}{C H I:Hp}{J:It}{ds:List D}(w:Walk K C H J ds)(s:f9 H I):Walk K C I J ds:=
 ⟨λi a h=>w.go i a<|s.trans h,λa h=>w.stop a<|s.trans h,λi a x b h=>w.Be i a x b<|s.trans h⟩
theorem Xy{k:Sk}{K:IT}{C H:Hp}{a:eg}{xs:List V}{ds:List D}(h:lp k K H a xs)(r:ej K C ds xs):Walk K C H (SG k K a) ds:=by
 have U:=r.length;refine⟨λi b s n=>?_,λb s=>?_,λi b x f s n y=>?_⟩
 ·have I:i<xs.length:=by omega
  cases k with
  | L=>exact⟨xs,xs[i],s.seq h,IX I⟩
  | T=>exact⟨xs,xs[i],o9 s h,IX I⟩
 ·cases k with
  | L=>exact⟨xs,s.seq h,by omega⟩
  | T=>exact⟨xs,o9 s h,by omega⟩
 ·have e:f=b/\xs[i]? = bQ x:=by
   cases k with
   | L=>exact⟨y.1,y.2 xs<|s.seq h⟩
   | T=>exact⟨y.1,y.2 xs<|o9 s h⟩
  obtain⟨j,l⟩:=e;subst j;obtain⟨d,m,O⟩:=r.FG l;exact⟨d,m,λg o p=>⟨g,Ext.refl p,O.mono o⟩⟩
theorem Zh(lo:Int)(n:Nat):(kM lo n).length=n:=by simp[kM]
theorem QO{K:IT}{C H:Hp}(lo:Int)(n:Nat):Walk K C H (Dc lo n) (kM lo n):=by
 refine⟨λi b s a=>?_,λb s=>?_,λi b x e s a y=>?_⟩
 ·rw[Zh]at a;exact a
 ·rw[Zh];exact Le _
 ·rw[Zh]at a
  obtain⟨f,g⟩:=y;subst f g;exact⟨.int<|lo+i,by simp[kM,a],λd j h=>⟨d,Ext.refl h,(show V.int (lo+i) = .int (lo+i)from rfl)⟩⟩
theorem ig{k1 k2:Sk}{K:IT}{C H:Hp}{a b:eg}{xs ys:List V}{ds es:List D}(J:lp k1 K H a xs)(O:ej K C ds xs)(L:lp k2 K H b ys)(Y:ej K C es ys) :
 Walk K C H (O8 k1 k2 K a b) (vZ ds es):=by
 have B:=O.length;have E:=Y.length;have A:(vZ ds es).length=min ds.length es.length:=by simp[vZ]
 refine⟨λi f s w=>?_,λf s=>?_,λi f x k s w y=>?_⟩
 ·exact⟨xs,ys,vv s J,vv s L,by omega,by omega⟩
 ·refine⟨xs,ys,vv s J,vv s L,?_⟩
  rw[A];omega
 ·obtain⟨p,u,v,n,I,o,g1,g2⟩:=y
  obtain⟨d,t,z⟩:=O.FG<|g1 xs<|vv s J;obtain⟨c,r,l⟩:=Y.FG<|g2 ys<|vv s L;refine⟨.tup [d,c],?_,λj h e=>⟨upd j p<|.tup [u,v],?_,?_⟩⟩
  ·have m:(ds.zip es)[i]? = bQ (d,c):=List.getElem?_zip_eq_some.mpr ⟨t,r⟩
   simp[vZ,m]
  ·rw[o];exact Ext.alloc e I _
  ·rw[n]
   exact(show ∃U g,V.ref p = .ref U/\hB K _ U g/\ej K _ [d,c] g from⟨p,[u,v],rfl,hB.of zU,ej.cons ((z.mono h).mono (ju (j3 e I) _))<|ej.cons ((l.mono h).mono (ju (j3 e I) _)) ej.nil⟩)
noncomputable def Su(K:IT)(C:CO (List D)):TI:=λg H R=>∃d f e,RC K d H g f/\C f=bQ e/\∀J b a,Ext d H a b->Walk K a b J e->R J b
noncomputable def Sv(K:IT)(C:CO (List D)):TI:=λg H R=>∃d f e,RC K d H g f/\C f=bQ e/\∀J b a,Ext d H a b->Walk K a a J e->R J b
abbrev rb(X:Cx)(tg e:eu)(src:CO (List D)):Prop:=PI X tg e (Su X.K src)
abbrev i4(X:Cx)(tg e:eu)(src:CO (List D)):Prop:=PI X tg e (Sv X.K src)
section
variable{X:Cx}{tg e a b:eu}{pos p:g8}
theorem i4.c(h:i4 X tg e src):rb X tg e src:=Vm h λi H R ⟨d,g,f,rc,I,q⟩=>⟨d,g,f,rc,I,λJ b a x w=>q J b a x<|w.weak x.sub⟩
theorem jF(h:PQ X e f):rb X tg e (zF f):=Vm (dG h) λs H R I=>by obtain⟨i,o,p,rc,O,q⟩:=I;obtain⟨⟨k,m⟩,j,l⟩:=zJ O;subst l;exact⟨i,o,k,m,rc,j,λa n g b x d _ r=>⟨a,k,rfl,⟨n,d⟩,q _ g b x<|Xy d r⟩⟩
theorem k0(h:PV X e f):i4 X tg e (zF<|zw f):=Vm (dG h) λw H R O=>by
 obtain⟨p,t,u,rc,U,q⟩:=O;obtain⟨⟨k,m⟩,g,j⟩:=zJ U;subst j;obtain⟨d,s,g⟩:=zg g;refine⟨p,t,d,rc,s,λv o b x r=>?_⟩;cases d with
 | tup fs=>
  obtain⟨j,I⟩:k = .T/\m=fs:=by simp[je]at g;exact⟨g.1.symm,g.2.symm⟩
  subst j I;obtain⟨a,i,rfl,l,n⟩:=(show ∃a i,v = .ref a/\hB X.K b a i/\ej X.K b m i from r);exact⟨a,.T,rfl,⟨i,o9 x.sub l⟩,q _ o b x<|Xy (k:= .T) l n⟩
 | lst fs=>
  obtain⟨j,I⟩:k = .L/\m=fs:=by simp[je]at g;exact⟨g.1.symm,g.2.symm⟩
  subst j I;obtain⟨a,i,rfl,l,n⟩:=(show ∃a i,v = .ref a/\gm X.K b a i/\ej X.K b m i from r);exact⟨a,.L,rfl,⟨i,x.sub.seq l⟩,q _ o b x<|Xy (k:= .L) l n⟩
 | _=>simp[je]at g
theorem qF(h:l0 d=bQ i):d = .int i:=by cases d<;>simp[l0]at h;rw[h]
theorem Ke(h:inR i=dt) : -(2 ^ 62)<=i/\i<2 ^ 62:=by unfold inR at h;have h:=of_decide_eq_true h;omega
theorem aX(O:Gl X "range")(J:X.mg "range" = none)(C:PV X a f)(hs:f6 [a] X.env=[(ed,eA a X.env)]:=by rfl):i4 X tg (.Call (.Name "range" p) [a] [] pos) (zR f):=
 Vm (dJ O J (jO C xy hs) hs) λs H R U=>by
  obtain⟨i,m,o,rc,I,q⟩:=U;obtain⟨n,e,I⟩:=zg I;obtain⟨d,j,e⟩:=zg e;by_cases g:inR n=dt
  ·rw[RY g]at I;cases I
   refine⟨i,m,d,rc,j,λv h b x r=>?_⟩;rw[qF e]at r;obtain⟨k,l⟩:=Ke g;exact⟨n,by rw[show v = .int n from r],k,l,q _ h b x<|QO 0 n.toNat⟩
  ·rw[EQ g]at I;cases I
theorem aW(L:Gl X "range")(Y:X.mg "range" = none)(C:PV X a f)(J:PV X b g)(hs:f6 [a,b] X.env=[(ed,eA a X.env),(ed,eA b X.env)]:=by rfl)(O:f6 [b] X.env=[(ed,eA b X.env)]:=by rfl) :
 i4 X tg (.Call (.Name "range" p) [a,b] [] pos) (vJ f g):=
 Vm (dH L Y (jO C (jO J xy O)<|by rw[hs,O]) hs O) λM H R B=>by
  obtain⟨l,k,K,rc,I,q⟩:=B;obtain⟨m,i,I⟩:=zg I;obtain⟨d,t,i⟩:=zg i;obtain⟨n,U,I⟩:=zg I;obtain⟨c,u,U⟩:=zg U;by_cases e:inR m=dt/\inR n=dt
  ·rw[RY e]at I;cases I
   refine⟨l,k,d,rc,t,λv G h x r=>⟨h,k,c,rc.ext x,u,λE o s F j=>?_⟩⟩;rw[qF i]at r;rw[qF U]at j;obtain⟨w,y⟩:=Ke e.1;obtain⟨z,A⟩:=Ke e.2;exact⟨m,n,by rw[show v = .int m from r,show E = .int n from j],⟨w,y,z,A⟩,q _ o s (x.trans F)<|QO m (n - m).toNat⟩
  ·rw[EQ e]at I;cases I
theorem XJ{K:IT}{H:Hp}{d:D}{v:V}{k:Sk}{ds:List D}(r:Rep K H d v)(e:je d=bQ (k,ds)) : ∃a xs,v = .ref a/\lp k K H a xs/\ej K H ds xs:=by
 cases d with
 | tup fs=>simp[je]at e;obtain⟨b,f⟩:=e;subst b f;exact r
 | lst fs=>simp[je]at e;obtain⟨b,f⟩:=e;subst b f;exact r
 | _=>simp[je]at e
theorem rY{f g:CO D}{C:List eu}{x1:Nat}{J:g8}(Z:Gl X "zip")(hm:X.mg "zip" = none)(L:PV X a f)(Y:PV X b g)(hs:f6 [a,b] X.env=[(ed,eA a X.env),(ed,eA b X.env)]:=by rfl)(U:f6 [b] X.env=[(ed,eA b X.env)]:=by rfl) :
 i4 X (.Tuple C x1 J) (.Call (.Name "zip" p) [a,b] [] pos) (aK f g):=
 Vm (AW Z hm (jO L (jO Y xy U)<|by rw[hs,U]) PyProof.Rows.boot_zip hs U) λP H R z=>by obtain⟨k,j,M,rc,I,q⟩:=z;obtain⟨⟨A,m⟩,h,I⟩:=zg I;obtain⟨d,u,h⟩:=zg h;obtain⟨⟨B,n⟩,i,I⟩:=zJ I;obtain⟨c,w,i⟩:=zg i;subst I;refine⟨k,j,d,rc,u,λv K e x r=>⟨e,j,c,rc.ext x,w,λN l t O E=>?_⟩⟩;obtain⟨o,F,rfl,g1,g2⟩:=XJ (r.mono O.s0) h;obtain⟨s,G,rfl,g3,y⟩:=XJ E i;exact⟨A,B,o,s,rfl,⟨F,vv O.sub g1⟩,⟨G,vv O.sub g3⟩,q _ l t (x.trans O)<|ig g1 g2 g3 y⟩
end
noncomputable def Wl:List Nat->List V->St->St
 | i::is,v::vs,σ=>Wl is vs<|σ.set i<|some v
 | _,_,σ=>σ
def gs:List Nat->DP
 | []=>Hf
 | i::is=>BY (yP i)<|gs is
noncomputable def p6(K:IT):Tg->TG
 | .nm i=>yP i
 | .tp is=>He K is.length<|gs is
theorem fJ : ∀{is:List Nat} {vs:List V} {C:St} {H:Hp} {Q:St->Hp->Prop},vs.length=is.length->Q (Wl is vs C) H->gs is vs C H Q
 | [],[],_,_,_,_,q=>⟨rfl,q⟩
 | i::is,v::vs,C,H,Q,hl,q=>⟨v,vs,rfl,fJ (by simpa using hl) q⟩
 | [],_::_,_,_,_,hl,_=>by simp at hl
 | _::_,[],_,_,_,hl,_=>by simp at hl
theorem RS.G3{K:IT}{E0 E I H:Hp} : ∀{is:List Nat} {ds:List D} {vs:List V} {C:St} {γ:Ctx},RS K E0 E I H C γ->ej K I ds vs->RS K E0 E I H (Wl is vs C) (xt is ds γ)
 | [],ds,vs,C,γ,r,h=>by cases ds<;>cases vs<;>exact r
 | i::is,[],vs,C,γ,r,h=>by rw[h.tr];exact r
 | i::is,d::ds,vs,C,γ,r,h=>by obtain⟨x,t,e,a,b⟩:=h.o7;subst e;show RS K E0 E I H (DL.Wl is t<|C.set i<|some x) (xt is ds<|γ.set i<|.val d);exact RS.G3 (r.A3 a) b
theorem RC.G3{K:IT}{I H:Hp} : ∀{is:List Nat} {ds:List D} {vs:List V} {C:St} {γ:Ctx},RC K I H C γ->ej K I ds vs->RC K I H (Wl is vs C) (xt is ds γ)
 | [],ds,vs,C,γ,r,h=>by cases ds<;>cases vs<;>exact r
 | i::is,[],vs,C,γ,r,h=>by rw[h.tr];exact r
 | i::is,d::ds,vs,C,γ,r,h=>by obtain⟨x,t,e,a,b⟩:=h.o7;subst e;show RC K I H (DL.Wl is t<|C.set i<|some x) (xt is ds<|γ.set i<|.val d);exact RC.G3 (r.A3 a) b
theorem wQ{K:IT}{C H:Hp}{T:Tg}{d:D}{v:V}{J:St}{γ γ1:Ctx}{Q:St->Hp->Prop}(s:f9 C H)(h:Rep K C d v)(e:x9 T d γ=bQ γ1)
 (q : ∀I,(RC K C H J γ->RC K C H I γ1)->(∀E0 E,RS K E0 E C H J γ->RS K E0 E C H I γ1)->Q I H):p6 K T v J H Q:=by
 cases T with
 | nm i=>cases e;exact q _ (λr=>r.A3 h) λE0 E r=>r.A3 h
 | tp is=>
  cases d with
  | tup g=>
   simp only[x9]at e;by_cases O:g.length=is.length
   ·rw[RY O]at e;cases e
    obtain⟨a,b,rfl,j,f⟩:=(show ∃a b,v = .ref a/\hB K C a b/\ej K C g b from h);have U:b.length=is.length:=by rw[f.length,O]
    exact⟨a,b,rfl,o9 s j,U,fJ U<|q _ (λr=>r.G3 f) λE0 E r=>r.G3 f⟩
   ·rw[EQ O]at e;cases e
  | _=>simp[x9]at e
theorem Ext.rebase{E0 E I C H B:Hp}(e:Ext E0 E I B)(x:Ext I E C H):Ext E0 E C H:=
 ⟨e.s0.trans x.s0,x.s1,x.sub,λa d b=>x.new a (e.new a d b) b⟩
theorem Ext.base{E0 E I B:Hp}(e:Ext E0 E I B):Ext I E I B:=⟨f9.refl _,e.s1,e.sub,λa h _=>h⟩
theorem Sat.rebase{K:IT}{E0 E O B:Hp}{D:Ends}{I:Fl}(e:Ext E0 E O B)(h:Sat K E0 E D I):Sat K O E D I:=by
 cases I with
 | next g=>exact λf H b r=>h f H b ⟨r.rc,e.rebase r.ext,r.fresh,r.u6⟩
 | brk g=>exact λf H b r=>h f H b ⟨r.rc,e.rebase r.ext,r.fresh,r.u6⟩
 | cont g=>exact λf H b r=>h f H b ⟨r.rc,e.rebase r.ext,r.fresh,r.u6⟩
 | ret r=>
  cases r with
  | val d=>exact λv H b x q=>h v H b (e.rebase x) q
  | own l=>exact λa k H b x i j U q=>h a k H b (e.rebase x) i j U q
section
variable{X:Cx}{tg iter:eu}{body:List iS}{pos:g8}
theorem rR{C:CO (List D)}{T:Tg}{F:CO Fl}(hp:L4 (eY X.prog X.w) X.A X.env X.xe)(hc:X.calm=dt)(hi:i4 X tg iter C)(hg:PG X tg (p6 X.K T))(hb:bX X body F)
 (hs : ∀x,n6 iter X.env x=pure x:=by intro _;rfl):lh X (.For tg iter body [] pos) (xU C T F):=
 kY (dA hp hc hi hg hb hs) λD l H hZ=>by
  obtain⟨E0,E,g,b,O,U,I,j⟩:=hZ;obtain⟨a,Y,I⟩:=zg I;refine⟨g,b,a,U.rc,Y,λJ H1 h x1 u=>?_⟩;have o:=U.step x1;have L:=o.ext;refine⟨λi m l H=>m=a.length - i/\i<=a.length/\∃g b O,RS X.K h E g H l b/\xX T F (a.drop i) b=bQ O/\Sat X.K h E D O,⟨_,rfl,Ms _,h,b,O,⟨o.rc,L.base,o.fresh,o.u6⟩,I,j.rebase L⟩,?_⟩;rintro i m l H ⟨rfl,hi,g,b,O,U,I,j⟩;have p:f9 h H:=U.ext.s0.trans U.ext.sub;by_cases k:i<a.length
  ·refine .inr ⟨u.go i H p k,λl H=>i+1<=a.length/\∃g b O,RS X.K h E g H l b/\xX T F (a.drop<|i+1) b=bQ O/\Sat X.K h E D O,λUD G n=>⟨a.length - (i+1),by omega,rfl,n.1,n.2⟩,λx G y=>?_⟩
   obtain⟨d,M,hx⟩:=u.Be i H x G p k y;obtain⟨P,N,rg⟩:=hx g U.ext.s0 U.rc.sub;have R:a.drop i=d::a.drop (i+1):=by
    have S:d=a[i]:=by rw[IX k]at M;exact(LR M).symm
    rw[S];exact Np k
   rw[R]at I;simp only[xX]at I;obtain⟨z,eb,I⟩:=zg I;obtain⟨f1,Z,I⟩:=zg I;refine wQ N.sub rg eb λO4 _ W=>⟨h,E,P,z,f1,W h E<|U.step N,Z,?_⟩;cases f1 with
   | next f=>exact λB Q s t=>⟨k,s,f,O,t,I,j⟩
   | cont f=>exact λB Q s t=>⟨k,s,f,O,t,I,j⟩
   | brk f=>cases I;exact j
   | ret r=>cases I;cases r<;>exact j
  ·have e:i=a.length:=by omega
   subst e;rw[OB]at I;cases I;exact .inl ⟨u.stop H p,j l H g U⟩
end
theorem qW(h:(z6 n fr γ)[i]? = bQ c):c = .no\/(∃d j,c = .val d/\n<=i/\fr[i - n]? = bQ j/\γ[j]? = bQ (.val d)):=by
 unfold z6 at h;by_cases b:i<n
 ·rw[Mm (by simpa using b),Oc,RY b]at h
  exact .inl (LR h).symm
 ·rw[Mf (by simpa using b),Lz,List.length_replicate]at h
  cases e:fr[i - n]? with
  | none=>rw[e]at h;cases h
  | some j=>
   rw[e]at h;have a:kg (γ[j]?.getD .no)=c:=by simpa using h
   cases e2:γ[j]? with
   | none=>rw[e2]at a;exact .inl a.symm
   | some I=>
    rw[e2]at a;cases I with
    | no=>exact .inl a.symm
    | own g=>exact .inl a.symm
    | nest f=>exact .inl a.symm
    | val d=>exact .inr ⟨d,j,a.symm,by omega,rfl,e2⟩
theorem RC.pull{K:IT}{C H:Hp}{J:St}{γ:Ctx}{own:List Str}{fr:List (Str×Nat)}(r:RC K C H J γ):RC K C H (L2.iY own fr J) (z6 own.length (fr.map (·.2)) γ):=by
 refine⟨r.sub,by simp[L2.iY,z6],λi d h=>?_,λi e h=>?_,λi j a e k h _ _ _=>?_,n7.DH λi b h=>?_⟩
 ·rcases qW h with z | ⟨d',j,z,hi,I,O⟩
  ·cases z
  ·cases z
   obtain⟨v,f,g⟩:=r.val j d O;refine⟨v,?_,g⟩;rw[Lz]at I;cases q:fr[i - own.length]? with
   | none=>rw[q]at I;cases I
   | some p=>
    rw[q]at I;have U:p.2=j:=by simpa using I
    unfold L2.iY;rw[Mf (by simpa using hi),Lz,Ly,q];simp[U,f]
 ·rcases qW h with z | ⟨d',j,z,_⟩<;>cases z
 ·rcases qW h with z | ⟨d',j,z,_⟩<;>cases z
 ·rcases qW h with z | ⟨d',j,z,_⟩<;>cases z
theorem RC.weak{K:IT}{J H:Hp}{L:St}{γ γ':Ctx}(r:RC K J H L γ)(O:γ'.length=γ.length)(U : ∀(i:Nat) d,γ'[i]? = bQ (.val d)->γ[i]? = bQ (.val d))(I : ∀(i:Nat) ds,γ'[i]? ≠ bQ (.own ds))(Y : ∀(i:Nat) C,γ'[i]? ≠ bQ (.nest C)):RC K J H L γ':=
 ⟨r.sub,by rw[O];exact r.len,λi d h=>r.val i d<|U i d h,λi ds h=>absurd h<|I i ds,λi j a ds b h _ _ _=>absurd h<|I i ds,n7.DH Y⟩
theorem RC.upd{K:IT}{J H:Hp}{L:St}{γ:Ctx}{D:eg}{o:HO}(r:RC K J H L γ)(O:J D=none)(I : ∀(i:Nat) ds,γ[i]? ≠ bQ (.own ds))(U : ∀(i:Nat) C,γ[i]? ≠ bQ (.nest C)):RC K J (upd H D o) L γ:=
 ⟨λb u q=>by rw[zS (λz=>by rw[z,O]at q;cases q)];exact r.sub b u q,r.len,r.val,λi ds h=>absurd h<|I i ds,λi j a ds d h _ _ _=>absurd h<|I i ds,n7.DH U⟩
theorem Jy : ∀{is:List Nat} {ds:List D} {γ:Ctx},(xt is ds γ).length=γ.length
 | [],ds,γ=>by cases ds<;>rfl
 | i::is,[],γ=>rfl
 | i::is,d::ds,γ=>by show(xt is ds<|γ.set i<|.val d).length=_;rw[Jy];simp
theorem Jz : ∀{is:List Nat} {ds:List D} {γ:Ctx} {i:Nat},i∉is->(xt is ds γ)[i]? = γ[i]?
 | [],ds,γ,i,_=>by cases ds<;>rfl
 | j::is,[],γ,i,_=>rfl
 | j::is,d::ds,γ,i,h=>by show(xt is ds<|γ.set j<|.val d)[i]? = _;rw[Jz (λz=>h<|Lj _ z),Lb (λz=>h<|by rw[<- z];exact Lp)]
theorem YV(h:x9 T d γ=bQ γ1):γ1.length=γ.length/\∀i,i∉T.idx->γ1[i]? = γ[i]? :=by
 cases T with
 | nm j=>cases h;exact⟨by simp,λi a=>Lb<|λz=>a<|by simp[Tg.idx,z]⟩
 | tp is=>
  cases d with
  | tup b=>
   simp only[x9]at h;by_cases I:b.length=is.length
   ·rw[RY I]at h;cases h;exact⟨Jy,λi a=>Jz a⟩
   ·rw[EQ I]at h;cases h
  | _=>simp[x9]at h
section
variable{K:IT}{own:List Str}{fr:List (Str×Nat)}{src:CO (List D)}{T:Tg}{k:CO Bool}{f:CO D}
theorem wL(hT : ∀i∈T.idx,i<own.length)(bm : ∀C H Q,tT K k C H Q->tt C H Q) : ∀C H Q,tO K (zP src T own.length (fr.map (·.2)) k f) C H Q->cK (Su K src) own fr (p6 K T) tt (tV K f) C H Q:=λC H Q hZ=>by
 obtain⟨H0,u,ds,rc,s,q⟩:=hZ;obtain⟨O,e1,s⟩:=zg s;by_cases hl:O.length<=lim
 ·rw[RY hl]at s
  refine⟨H0,u,O,rc,e1,λJ H1 R x1 wk D B=>?_⟩;have S : ∀(i:Nat) es,(z6 own.length (fr.map (·.2)) u)[i]? ≠ bQ (.own es):=λi es h=>by rcases qW h with z | ⟨d',j,z,_⟩<;>cases z
  have W : ∀(i:Nat) E,(z6 own.length (fr.map (·.2)) u)[i]? ≠ bQ (.nest E):=λi es h=>by rcases qW h with z | ⟨d',j,z,_⟩<;>cases z
  have b0:R D=none:=j3 x1.sub B;have br:H D=none:=by
   cases z:H D with
   | none=>rfl
   | some o=>rw[x1.s1 D o z]at B;cases B
  refine⟨λi m l G g=>m=O.length - i/\i<=O.length/\l.length<=i/\g D=bQ (.lst l)/\∃a A M,RC K a g G (z6 own.length (fr.map (·.2)) u)/\a D=none/\Ext R H1 a g/\ej K a A l/\zQ T k f (z6 own.length (fr.map (·.2)) u) (O.drop i)=bQ M/\ds=A++M,
   ⟨_,rfl,Ms _,Le _,zU,R,[],ds,((rc.ext x1).pull).upd b0 S W,b0,Ext.hide x1.sub B _,ej.nil,s,rfl⟩,?_⟩
  rintro i m l G g ⟨rfl,hi,hy,N,a,A,M,X,b5,t,r',I,rfl⟩;refine⟨N,?_⟩;by_cases p:i<O.length
  ·refine .inr ⟨wk.go i g t.s1 p,?_,λx Y y=>?_⟩
   ·have:=va<|Le lim;omega
   obtain⟨d,hd,hx⟩:=wk.Be i g x Y t.s1 p y;obtain⟨G0,U,rg⟩:=hx a t.s0 X.sub;have bu:O.drop i=d::O.drop (i+1):=by
    have bv:d=O[i]:=by rw[IX p]at hd;exact(LR hd).symm
    rw[bv];exact Np p
   rw[bu]at I;simp only[zQ]at I;obtain⟨n,eb,I⟩:=zg I;obtain⟨b,ek,I⟩:=zg I;have c0:G0 D=none:=U.new D b5 (by rw[N];simp);have b6:Y D=bQ (.lst l):=U.s1 _ _ N;obtain⟨bl,bg⟩:=YV eb;have b7 : ∀{L:St} {G2 H2:Hp},RC K G2 H2 L n->RC K G2 H2 L (z6 own.length (fr.map (·.2)) u):=λr=>r.weak bl.symm (λj d' hj=>by
    by_cases hm:j∈T.idx
    ·rcases qW hj with z | ⟨d2,j2,_,hn,_⟩
     ·cases z
     ·exact absurd (hT j hm) ⋯
    ·rw[bg j hm];exact hj) S W
   refine wQ U.sub rg eb λO4 bb _=>bm O4 Y _ ⟨G0,n,b,bb<|X.ext U,ek,λH3 Z x3=>?_⟩;have an:=(bb<|X.ext U).ext x3;have xa:=t.trans<|U.trans x3;have be:Z D=none:=x3.new D c0 (by rw[b6];simp);have ap:H3 D=bQ (.lst l):=x3.s1 _ _ b6;cases b with
   | true=>
    dsimp only;rw[RY rfl]at I ⊢;obtain⟨e,ee,I⟩:=zg I;obtain⟨kn,er,I⟩:=zJ I;refine⟨Z,n,e,an,ee,λv H4 bf F r4=>?_⟩;have as:bf D=none:=F.new D be (by rw[ap];simp);have c7:H4 D=bQ (.lst l):=F.s1 _ _ ap;have P:=xa.trans F;refine⟨c7,O.length - (i+1),by omega,rfl,p,by rw[Md,MX];omega,zU,bf,A++[e],kn,(b7<|an.ext F).upd as S W,as,?_,(r'.mono<|(U.trans<|x3.trans F).s0).append (ej.cons r4 ej.nil),er,?_⟩
    ·exact⟨P.s0,λc o z=>by rw[zS (λw=>by rw[w,B]at z;cases z)];exact P.s1 c o z,λc o z=>by rw[zS (λw=>by rw[w,as]at z;cases z)];exact P.sub c o z,P.new⟩
    ·rw[<- I];simp
   | false=>
    dsimp only;rw[EQ LN]at I ⊢;exact⟨O.length - (i+1),by omega,rfl,p,by omega,ap,Z,A,M,b7 an,be,xa,r'.mono<|(U.trans x3).s0,I,rfl⟩
  ·have e:i=O.length:=by omega
   subst e;rw[OB]at I;cases I;rw[Nu]at q;exact .inl ⟨wk.stop g t.s1,q D l g a (x1.trans t) br b5 N r'⟩
 ·rw[EQ hl]at s;cases s
end
section
variable{X:Cx}{scope:g9}{own:List Str}{fr:List (Str×Nat)}{elt tg iter c:eu}{pos:g8}{src:CO (List D)}{T:Tg}{k:CO Bool}{f:CO D}
theorem rV(I:X.calm=dt)(ok:qq X scope fr)(O : ∀i∈T.idx,i<own.length)(hi:rb X tg iter src)(U : ∀fp J C,PG (jx X scope (own++fr.map (·.1)) fp J C) tg<|p6 X.K T)
 (L : ∀fp J C,PV (jx X scope (own++fr.map (·.1)) fp J C) elt f) (hs : ∀x,n6 iter X.env x=pure x:=by intro _;rfl) :
 PO X (.ListComp elt [⟨tg,iter,[],0⟩] scope pos) (zP src T own.length (fr.map (·.2)) jj f):=
 qC (XZ I ok hi U (λ_ _ _=>ZV) L hs) (wL O λg H Q ⟨a,e,b,rc,d,q⟩=>by cases d;exact q H a<|Ext.refl rc.sub)
theorem dC(I:X.calm=dt)(ok:qq X scope fr)(O : ∀i∈T.idx,i<own.length)(hi:rb X tg iter src)(U : ∀fp J C,PG (jx X scope (own++fr.map (·.1)) fp J C) tg<|p6 X.K T)
 (hk : ∀fp J C,ml (jx X scope (own++fr.map (·.1)) fp J C) c k) (L : ∀fp J C,PV (jx X scope (own++fr.map (·.1)) fp J C) elt f) (hs : ∀x,n6 iter X.env x=pure x:=by intro _;rfl) :
 PO X (.ListComp elt [⟨tg,iter,[c],0⟩] scope pos) (zP src T own.length (fr.map (·.2)) k f):=
 qC (XZ I ok hi U (λfp J C=>Wz<|hk fp J C) L hs) (wL O λa H Q h=>h)
theorem lD(I:X.N.Nodup)(O:X.N[i]? = bQ y)(U:Loc X.env.scope y)(hf:X.fn y=dt\/X.env.scope.names.lookup y=bQ .local)
 (Y:X.calm=dt) (ok:qq X scope fr) (L : ∀i∈T.idx,i<own.length) (hi:rb X tg iter src) (hg : ∀fp J C,PG (jx X scope (own++fr.map (·.1)) fp J C) tg<|p6 X.K T)
 (Z : ∀fp J C,PV (jx X scope (own++fr.map (·.1)) fp J C) elt f) (hs : ∀x,n6 iter X.env x=pure x:=by intro _;rfl) :
 PS X (.Assign [.Name y py] (.ListComp elt [⟨tg,iter,[],0⟩] scope pos) spos) (Wd (tO X.K<|zP src T own.length (fr.map (·.2)) jj f)<|yP i):=
 kY (Zi I O U hf Y ok hi hg (λ_ _ _=>ZV) Z hs) λD a H h=>wL L (λa H Q g=>by obtain⟨d,j,b,rc,e,q⟩:=g;cases e;exact q H d<|Ext.refl rc.sub) a H _ h
theorem aU(I:X.N.Nodup)(O:X.N[i]? = bQ y)(U:Loc X.env.scope y)(hf:X.fn y=dt\/X.env.scope.names.lookup y=bQ .local)
 (Y:X.calm=dt) (ok:qq X scope fr) (L : ∀i∈T.idx,i<own.length) (hi:rb X tg iter src) (hg : ∀fp J C,PG (jx X scope (own++fr.map (·.1)) fp J C) tg<|p6 X.K T)
 (hk : ∀fp J C,ml (jx X scope (own++fr.map (·.1)) fp J C) c k) (Z : ∀fp J C,PV (jx X scope (own++fr.map (·.1)) fp J C) elt f) (hs : ∀x,n6 iter X.env x=pure x:=by intro _;rfl) :
 PS X (.Assign [.Name y py] (.ListComp elt [⟨tg,iter,[c],0⟩] scope pos) spos) (Wd (tO X.K<|zP src T own.length (fr.map (·.2)) k f)<|yP i):=
 kY (Zi I O U hf Y ok hi hg (λfp J C=>Wz<|hk fp J C) Z hs) λD a H h=>wL L (λa H Q h=>h) a H _ h
end
theorem jN{K:IT}{H:Hp}{i:Int}{v:V}(h:Rep K H (.int i) v):v = .int i:=h
theorem cP{K:IT}{g:Int->Int->D}{I:Int->Int->V}(U : ∀H i j,Rep K H (g i j)<|I i j):m7 K (rn I) (dI g):=λa H x y b e d Q s f h O q=>by cases b<;>cases e<;>simp[dI]at O;subst O;exact⟨_,_,jN f,jN h,q _ H a (Ext.refl s)<|U a _ _⟩
theorem cO{K:IT}{C:Int->Int->Prop}{c:Int->Int->Bool}{g:Int->Int->D}{I:Int->Int->V}(U : ∀i j,c i j=dt->C i j)(hg : ∀H i j,Rep K H (g i j)<|I i j):m7 K (rI C I) (E8 c g):=λa H x y b e d Q s k l O q=>by cases b<;>cases e<;>simp[E8]at O;obtain⟨f,h⟩:=O;subst h;exact⟨_,_,jN k,jN l,U _ _ f,q _ H a (Ext.refl s)<|hg a _ _⟩
theorem pU{K:IT}:m7 K (rn λi j=> .int (i - j)) Ja:=cP λ_ _ _=>rfl
theorem nt(h:JY i j=dt):DN i j:=by unfold JY at h;rw[MJ,decide_eq_true_eq,decide_eq_true_eq]at h;unfold DN;omega
theorem pZ{K:IT}:m7 K (rI HG λi j=> .int (i/j)) Kl:=cO (λi j h=>by unfold Cg at h;rw[Lq,decide_eq_true_eq,decide_eq_true_eq]at h;exact⟨h.1,by omega⟩) λ_ _ _=>rfl
theorem pY{K:IT}:m7 K (rI (λ_ j=>0<j) λi j=> .int (i%j)) yM:=cO (λi j h=>by unfold Eo at h;exact of_decide_eq_true h) λ_ _ _=>rfl
theorem pV{K:IT}:m7 K (rI HF λi j=> .int (i ^ j.toNat)) tG:=cO (λi j h=>by unfold Cf at h;rw[Lq,Lq,decide_eq_true_eq,decide_eq_true_eq,decide_eq_true_eq]at h;exact⟨h.1.1,by omega,h.2⟩) λ_ _ _=>rfl
theorem nR{K:IT}:m7 K (rn λi j=> .bl (decide<|i<j)) u0:=cP λ_ _ _=>rfl
theorem K5{K:IT}:m7 K (rn λi j=> .bl (decide<|i<=j)) o5:=cP λ_ _ _=>rfl
theorem nT{K:IT}:m7 K (rn λi j=> .bl (decide<|j<i)) ri:=cP λ_ _ _=>rfl
theorem uX{K:IT}:m7 K (rn λi j=> .bl (decide<|j<=i)) DT:=cP λ_ _ _=>rfl
section
variable{X:Cx}
noncomputable def nY(K:IT):R2:=λx y H Q=>∃a b d e,x = .ref a/\y = .ref b/\hB K H a d/\hB K H b e/\d.length+e.length<=gv/\
 (d=[]->Q (.ref b) H)/\(e=[]->Q (.ref a) H)/\∀p,H p=none->Q (.ref p) (upd H p<|.tup<|d++e)
theorem lX:iU X (xg .Add) (nY X.K):=by
 intro A s σ H x y v u Q I T W h;obtain⟨a,b,B,Z,rfl,rfl,L,M,w,P,R,S⟩:=h;cases T;cases W;obtain⟨d,r,U,z1⟩:=I.tuple L;obtain⟨C,f,g,z2⟩:=I.tuple M;by_cases O:B=[]
 ·have e:d=[]:=(r.M4).mpr O
  obtain⟨⟨G,J,l,Y⟩,t,m,n,p⟩:=id U;obtain⟨⟨as,E,data2,F⟩,i,j,N,k⟩:=id g;simp only at m p j k;subst m p j k;exact Ry ⟨_,t,rfl⟩ ⟨_,i,rfl⟩ RD Tf Pf Pc (OU _ _)
   (tuple_addW0 a b d.toArray C.toArray n N J E Y F<|by simp[e]) ⟨t,i,⟨.ref b,H,I,rfl,P O⟩⟩
 ·have e:d ≠ []:=λz=>O ((r.M4).mp z)
  refine HT.Ga U g e (λz=>⟨.ref a,H,I,rfl,R<|(f.M4).mp z⟩) (λ_=>?_) (by rw[<- r.length,<- f.length];exact w);refine⟨.ref s.heap.objs.size,_,I.laid (t':=s.toks) (o:= .tup (B++Z)) (λc ob q=>IW _ q) (Le _) ?_,rfl,S _<|I.gB.fresh<|Le _⟩;exact⟨by rw[Md];exact w,_,r.append f,wx.new _ _⟩
noncomputable def Au(K:IT):R2:=λx y H Q=>∃l b a d,x = .ref l/\y = .ref b/\gm K H l a/\gm K H b d/\a.length+d.length<=gv/\∀p,H p=none->Q (.ref p) (upd H p<|.lst<|a++d)
theorem lY:iU X (xg .Add) (Au X.K):=by
 intro d s M H x y v u Q I G J h;obtain⟨l,b,Y,zs,rfl,rfl,B,A,S,q⟩:=h;cases G;cases J;obtain⟨a,r,⟨o,n,e,U,f,g⟩,Z⟩:=I.list B;obtain⟨O,p,⟨E,C,m,i,j,k⟩,z2⟩:=I.list A;have T:=r.length;have W:=p.length;obtain⟨cls,lq,R,L⟩:=o;obtain⟨N,as,P,t⟩:=E;simp only at U f g i j k;subst U f g i j k;have w:EP X d M Q (.ref s.heap.objs.size) {s with heap:=s.heap.push {cls:= .type "list",data:= .seq (a++O).toArray}}:=
  ⟨.ref _,_,I.S8 (t':=s.toks) (r.append p) (by rw[Md];omega),rfl,q _ I.fresh⟩
 have z:a.toArray++O.toArray=(a++O).toArray:=by simp
 refine Ry ⟨_,e,rfl⟩ ⟨_,m,rfl⟩ noFill_list_add seq_list_add PySem.F.slot_list_add PySem.F.entry_list_add (PySem.F.args_list_add_2 _ _)
  (list_addW l b a.toArray O.toArray n C none none L t<|by rw[Li,Li];omega) ⟨e,m,?_⟩
 rw[z];exact w
end
noncomputable def yo(scope C:g9):g9:={scope with names:=scope.names.map λp=>if p.2==LO && C.kind == .function && C.names.lookup p.1==bQ .cell then (p.1,Nr)else (p.1,p.2)}
theorem aN(scope:g9)(env:n4):z4 scope env=yo scope env.scope:=by unfold z4 yo;rfl
structure SX(X:Cx)(sc:g9)(N T:List Str)(k:Nat):Prop where
 DW:X.env.scope=sc
 eN:X.N=N
 nd:N.Nodup
 calm:X.calm=dt
 room:o3 k X.A
 fn : ∀x∈T,X.fn x=dt\/sc.names.lookup x=bQ .local
noncomputable def Jk(C:g9)(N:List Str)(i:Nat)(x:Str):Bool:=
 decide (N[i]? = bQ x) && (decide (C.names.lookup x=bQ .local) || decide (C.names.lookup x=bQ .cell) || decide (C.names.lookup x=bQ .free)) && !(x==("__debug__" : Str)) && !(x==("__classdict__" : Str))
noncomputable def ym(C:g9)(N T:List Str)(i:Nat)(x:Str):Bool:=decide (x∈T) && decide (N[i]? = bQ x) && (decide (C.names.lookup x=bQ .local) || decide (C.names.lookup x=bQ .cell))
noncomputable def vp(C:g9)(x:Str):Bool:=decide (C.names.lookup x=bQ .globalImplicit) && !(x==("__name__" : Str)) && !(x==("__debug__" : Str))
section
variable{X:Cx}{sc:g9}{N T:List Str}{k:Nat}{i:Nat}{x:Str}{pos:g8}
theorem SX.var(h:SX X sc N T k)(c:Jk sc N i x=dt):PE X (.Name x pos) (ur i):=by
 unfold Jk at c;simp only[Lq,MJ,decide_eq_true_eq,Nh]at c;obtain⟨⟨⟨a,h2⟩,I⟩,O⟩:=c;refine AY (by rw[h.eN];exact a) ?_ I O;unfold P5;rw[h.DW];rcases h2 with(h2 | h2) | h2
 ·exact .inl h2
 ·exact .inr<|.inl h2
 ·exact .inr<|.inr h2
theorem SX.loc(h:SX X sc N T k)(c:ym sc N T i x=dt):X.N[i]? = bQ x/\L2.Loc X.env.scope x/\(X.fn x=dt\/X.env.scope.names.lookup x=bQ .local):=by
 unfold ym at c;simp only[Lq,MJ,decide_eq_true_eq]at c;refine⟨by rw[h.eN];exact c.1.2,?_,?_⟩
 ·unfold L2.Loc;rw[h.DW];exact c.2
 ·rw[h.DW];exact h.fn x c.1.1
theorem SX.F4(h:SX X sc N T k):X.N.Nodup:=by rw[h.eN];exact h.nd
theorem SX.C8(h:SX X sc N T k)(i:Nat)(c:ym sc N T i x=dt):PG X (.Name x pos) (yP i):=by obtain⟨a,b,I⟩:=h.loc c;exact dN h.F4 a b I
theorem SX.Tq(h:SX X sc N T k)(g:E2 X es (gs is))(C:(A5 es X.env).length=is.length:=by rfl)(I:(A5 es X.env).findIdx? (·.1)=none:=by rfl):PG X (.Tuple es j pos) (p6 X.K<|.tp is):=
 AX h.calm g C I
theorem SX.set(h:SX X sc N T k)(i:Nat)(c:ym sc N T i x=dt)(I:PE X e te)(hs:vu e (bQ (.Name x pos')) pos.line X.env=pure ed:=by rfl):PS X (.Assign [.Name x pos'] e pos) (Wd te<|yP i):=by obtain⟨a,b,O⟩:=h.loc c;exact AN h.F4 a b I hs O
theorem SX.gl(h:SX X sc N T k)(c:vp sc x=dt):Gl X x/\x ≠ "__name__"/\(x==("__debug__" : Str))=ed:=by
 unfold vp at c;simp only[Lq,decide_eq_true_eq,Nh]at c;refine⟨?_,?_,c.2⟩
 ·show X.env.scope.names.lookup x=_
  rw[h.DW];exact c.1.1
 ·intro e;rw[e]at c;simp at c
noncomputable def VM(sc scope:g9)(N:List Str)(fr:List (Str×Nat)):Bool:=
 decide (scope.kind = .function) && decide ((scope.names.map (·.1)).Nodup) && scope.names.all (λp=> !(p.2==LO) || decide (sc.names.lookup p.1=bQ .cell) || decide (sc.names.lookup p.1=bQ .free)) &&
 fr.all λp=>decide (scope.names.lookup p.1=bQ .free) && decide (N[p.2]? = bQ p.1)
noncomputable def ES(own:List Str)(scope:g9)(fr:List (Str×Nat)):Bool:=decide ((own++fr.map (·.1)).Nodup) && own.all (λx=>decide (scope.names.lookup x=bQ .local) || decide (scope.names.lookup x=bQ .cell))
theorem SX.SS(h:SX X sc N T k)(c:VM sc scope N fr=dt):qq X scope fr:=by
 unfold VM at c;simp only[Lq,decide_eq_true_eq,Mz,MJ,Nh]at c;obtain⟨⟨⟨U,a⟩,b⟩,O⟩:=c;refine⟨U,a,λp I d=>?_,λp I=>⟨(O p I).1,by rw[h.eN];exact(O p I).2⟩⟩;have e:X.env.kindOf p.1=sc.names.lookup p.1:=by show X.env.scope.names.lookup p.1=_;rw[h.DW]
 rw[e];rcases b p I with(q | q) | q
 ·rw[d]at q;exact absurd q ⋯
 ·exact .inl q
 ·exact .inr q
theorem JM(scope sc:g9)(x:Str):(yo scope sc).names.lookup x=(scope.names.lookup x).map λk=>if (k==LO && sc.kind == .function && sc.names.lookup x==bQ .cell)then Nr else k:=by
 unfold yo;dsimp only;generalize scope.names=l
 induction l with
 | nil=>rfl
 | cons p r O=>
  obtain⟨n,U⟩:=p;rw[Mc];cases hx:x==n with
  | true=>
   have e:x=n:=by simpa using hx
   subst e;dsimp only;split
   ·rename_i I;rw[Mp,Mp,beq_self_eq_true];dsimp only[PX];rw[RY I]
   ·rename_i I;rw[Mp,Mp,beq_self_eq_true];dsimp only[PX];rw[EQ I]
  | false=>
   dsimp only;split
   ·rw[Mp,Mp,hx];exact O
   ·rw[Mp,Mp,hx];exact O
theorem SX.comp(h:SX X sc N T k)(c:ES own scope fr=dt) :
 SX (jx X scope (own++fr.map (·.1)) fp s2 H2) (yo scope sc) (own++fr.map (·.1)) own k:=by
 unfold ES at c;simp only[Lq,decide_eq_true_eq,Mz,MJ]at c;refine⟨?_,rfl,c.1,h.calm,h.room,λx I=>?_⟩
 ·show z4 scope X.env=_
  rw[aN,h.DW]
 ·rcases c.2 x I with q | q
  ·right;rw[JM,q];rfl
  ·left
   show(scope.names.lookup x==bQ .cell)=dt;rw[q];rfl
theorem SX.cq(h:SX X sc N T k)(own:List Str)(fr:List (Str×Nat))(fp:List eg)(H:eF)(C:Hp)(c:ES own scope fr=dt) :
 SX (jx X scope (own++fr.map (·.1)) fp H C) (yo scope sc) (own++fr.map (·.1)) own k:=h.comp c
end
mutual
def lU:D->PyData
 | .e7=> .none
 | .bl b=> .bool b
 | .int i=> .int i
 | .str x=> .str x
 | .tup a=> .tuple (ro a)
 | .lst a=> .list (ro a)
 | .md _ _=> .none
 | .lq _ _=> .none
def ro:List D->List PyData
 | []=>[]
 | d::ds=>lU d::ro ds
end
theorem C7(h:i6 (.md ks vs)=dt):False:=by simp[i6]at h
theorem C6(h:i6 (.lq ks vs)=dt):False:=by simp[i6]at h
mutual
theorem RT : ∀x y:D,i6 x=dt->i6 y=dt->Og (lU x) (lU y)=lL x y
 | .e7,y,_,h=>by cases y<;>first | exact(C7 h).elim | exact(C6 h).elim | simp[lU,Og,lL]
 | .bl a,y,_,h=>by cases y<;>first | exact(C7 h).elim | exact(C6 h).elim | simp[lU,Og,lL]
 | .int a,y,_,h=>by cases y<;>first | exact(C7 h).elim | exact(C6 h).elim | simp[lU,Og,lL]
 | .str a,y,_,h=>by cases y<;>first | exact(C7 h).elim | exact(C6 h).elim | simp[lU,Og,lL]
 | .md c n,y,h,_=>(C7 h).elim
 | .lq c n,y,h,_=>(C6 h).elim
 | .tup xs,y,h1,h2=>by
  cases y with
  | tup b=>simp only[i6]at h1 h2;simp only[lU,Og,lL];exact RU xs b h1 h2
  | md c n=>exact(C7 h2).elim
  | lq c n=>exact(C6 h2).elim
  | _=>simp[lU,Og,lL]
 | .lst xs,y,h1,h2=>by
  cases y with
  | lst b=>simp only[i6]at h1 h2;simp only[lU,Og,lL];exact RU xs b h1 h2
  | md c n=>exact(C7 h2).elim
  | lq c n=>exact(C6 h2).elim
  | _=>simp[lU,Og,lL]
theorem RU : ∀xs ys:List D,vr xs=dt->vr ys=dt->PJ (ro xs) (ro ys)=u5 xs ys
 | [],ys,_,_=>by cases ys<;>simp[ro,PJ,u5]
 | x::xs,ys,h1,h2=>by
  cases ys with
  | nil=>simp[ro,PJ,u5]
  | cons y ys=>
   simp only[vr,Lq]at h1 h2;simp only[ro,PJ,u5];rw[RT x y h1.1 h2.1,RU xs ys h1.2 h2.2]
end
mutual
theorem S5 : ∀x:D,i6 x=dt->(lU x).canLay0=dt
 | .e7,_=>by simp[lU,Oi]
 | .bl a,_=>by simp[lU,Oi]
 | .int a,_=>by simp[lU,Oi]
 | .str a,h=>by simpa[lU,Oi,i6,PyData.strOk]using h
 | .tup xs,h=>by simp only[i6]at h;simp only[lU,Oi];exact Sa xs h
 | .lst xs,h=>by simp only[i6]at h;simp only[lU,Oi];exact Sa xs h
 | .md c n,h=>(C7 h).elim
 | .lq c n,h=>(C6 h).elim
theorem Sa : ∀xs:List D,vr xs=dt->PU (ro xs)=dt
 | [],_=>by simp[ro,PU]
 | x::xs,h=>by simp only[vr,Lq]at h;simp only[ro,PU];rw[S5 x h.1,Sa xs h.2];rfl
end
mutual
theorem SU : ∀x:D,(lU x).depth=deep x
 | .e7=>by simp[lU,NQ,deep]
 | .bl a=>by simp[lU,NQ,deep]
 | .int a=>by simp[lU,NQ,deep]
 | .str a=>by simp[lU,NQ,deep]
 | .md c n=>by simp[lU,NQ,deep]
 | .lq c n=>by simp[lU,NQ,deep]
 | .tup b=>by simp only[lU,NQ,deep];rw[RP b]
 | .lst b=>by simp only[lU,NQ,deep];rw[RP b]
theorem RP : ∀xs:List D,PyData.depthAll (ro xs)=u4 xs
 | []=>by simp[ro,PyData.depthAll,u4]
 | x::xs=>by simp only[ro,PyData.depthAll,u4];rw[SU x,RP xs]
end
theorem y9(h:m9 d=dt):i6 d=dt:=by unfold m9 at h;rw[Lq]at h;exact h.2
theorem wb(h:m9 d=dt):SeqAt.shaped (lU d)=dt:=by unfold m9 at h;rw[Lq,decide_eq_true_eq]at h;unfold SeqAt.shaped;rw[S5 d h.2,Bool.true_and,SU];exact decide_eq_true ⋯
section
variable{X:Cx}{pins:RW}{σ:St}{H0 H:Hp}{s:eF}
mutual
theorem Gx(I:Inv X pins σ H s)(sub:f9 H0 H) : ∀{d:D} {v:V} {u:eh},i6 d=dt->Rep X.K H0 d v->RelV v u->∃O,Reads s.heap u (lU d) O
 | .e7,v,u,_,h,r=>by cases (show v = .e7 from h);cases r;exact⟨_,.none⟩
 | .bl b,v,u,_,h,r=>by cases (show v = .bl b from h);cases r;exact⟨_,.bool b⟩
 | .int i,v,u,_,h,r=>by cases (show v = .int i from h);obtain⟨t,rfl⟩:=r;exact⟨_,.int i t⟩
 | .str x,v,u,_,h,r=>by cases (show v = .str x from h);obtain⟨t,rfl⟩:=r;exact⟨_,.str x t⟩
 | .md c n,v,u,o,_,_=>(C7 o).elim
 | .lq c n,v,u,o,_,_=>(C6 o).elim
 | .tup ds,v,u,o,h,r=>by obtain⟨a,e,rfl,f,g⟩:=(show ∃a e,v = .ref a/\hB X.K H0 a e/\ej X.K H0 ds e from h);cases r;simp only[i6]at o;obtain⟨m,U,⟨z,l,j,n,k⟩,y⟩:=I.tuple<|o9 sub f;obtain⟨O,w⟩:=Sh I sub o g U;exact⟨O,.tuple l j k<|by simpa using w⟩
 | .lst ds,v,u,o,h,r=>by obtain⟨a,e,rfl,f,g⟩:=(show ∃a e,v = .ref a/\gm X.K H0 a e/\ej X.K H0 ds e from h);cases r;simp only[i6]at o;obtain⟨m,U,p,y⟩:=I.list<|sub.seq f;obtain⟨z,l,j,n,k⟩:=p.isList;obtain⟨O,w⟩:=Sh I sub o g U;exact⟨_,.list l j k<|by simpa using w⟩
theorem Sh(I:Inv X pins σ H s)(sub:f9 H0 H) : ∀{ds:List D} {xs:List V} {C:List eh},vr ds=dt->ej X.K H0 ds xs->fm xs C->∃O,ReadsAll s.heap C (ro ds) O
 | [],xs,C,_,h,r=>by rw[h.tr]at r;cases r;exact⟨_,.nil⟩
 | d::ds,xs,C,o,h,r=>by
  obtain⟨x,t,e,a,b⟩:=h.o7;subst e;simp only[vr,Lq]at o;cases r with
  | cons U f=>
   obtain⟨O,g⟩:=Gx I sub o.1 a U;obtain⟨bs,i⟩:=Sh I sub o.2 b f;exact⟨_,.cons g i⟩
end
end
noncomputable def GV(K:IT):R2:=λx y H Q=>∃a b I,f9 a H/\Rep K a b x/\Rep K a I y/\m9 b=dt/\m9 I=dt/\Q (.bl<|lL b I) H
noncomputable def GU(K:IT):R2:=λx y H Q=>∃a b I,f9 a H/\Rep K a b x/\Rep K a I y/\m9 b=dt/\m9 I=dt/\Q (.bl<|!lL b I) H
theorem oq(C:X.A.units+64<cLine):iU X (o4 .Eq) (GV X.K):=by intro a s m H x y v u Q I g i h;obtain⟨j,k,l,sub,b,d,O,U,q⟩:=h;obtain⟨as,e⟩:=Gx I sub (y9 O) b g;obtain⟨bs,f⟩:=Gx I sub (y9 U) d i;exact eq_dataH e f (wb O) (wb U) C ⟨.bl _,H,I,by rw[RT _ _ (y9 O) (y9 U)];rfl,q⟩
theorem Bo(C:X.A.units+64<cLine):iU X (o4 .NotEq) (GU X.K):=by intro a s m H x y v u Q I g i h;obtain⟨j,k,l,sub,b,d,O,U,q⟩:=h;obtain⟨as,e⟩:=Gx I sub (y9 O) b g;obtain⟨bs,f⟩:=Gx I sub (y9 U) d i;exact ne_dataH e f (wb O) (wb U) C ⟨.bl _,H,I,by rw[RT _ _ (y9 O) (y9 U)];rfl,q⟩
theorem cQ{K:IT}:m7 K (GV K) iQ:=λa H x y b O d Q s U e I q=>by
 unfold iQ at I;split at I
 ·rename_i h;cases I;exact⟨a,b,O,s,U,e,h.1,h.2,q _ H a (Ext.refl s) rfl⟩
 ·cases I
theorem pW{K:IT}:m7 K (GU K) h9:=λa H x y b O d Q s U e I q=>by
 unfold h9 at I;split at I
 ·rename_i h;cases I;exact⟨a,b,O,s,U,e,h.1,h.2,q _ H a (Ext.refl s) rfl⟩
 ·cases I
theorem SX.SD(h:SX X sc N T k):X.A.units+64<cLine:=by have:=h.room.un;omega
section
variable{X:Cx}{sc:g9}{N T:List Str}{k:Nat}{a b c:eu}{pos p:g8}{fa fb fc:CO D}
theorem vy(C:PV X a fa)(I:PV X b fb):PV X (.BinOp a .Sub b pos) (zH Ja fa fb):=QW Bm pU C I
theorem vz(C:PV X a fa)(I:PV X b fb):PV X (.BinOp a .FloorDiv b pos) (zH Kl fa fb):=QW sv pZ C I
theorem qI(C:PV X a fa)(I:PV X b fb):PV X (.BinOp a .Mod b pos) (zH yM fa fb):=QW Bp pY C I
theorem dg(C:PV X a fa)(I:PV X b fb):PV X (.BinOp a .Pow b pos) (zH tG fa fb):=QW Bn pV C I
theorem AD(C:PV X a fa)(I:PV X b fb):PV X (.Compare a [.Lt] [b] pos) (zH u0 fa fb):=dm Bq nR C I<|JK b
theorem AF(C:PV X a fa)(I:PV X b fb):PV X (.Compare a [.Gt] [b] pos) (zH ri fa fb):=dm Br nT C I<|JK b
theorem aP(h:SX X sc N T k)(C:PV X a fa)(I:PV X b fb):PV X (.Compare a [.Eq] [b] pos) (zH iQ fa fb):=dm (oq h.SD) cQ C I<|JK b
theorem Yf(C:PV X a fa)(I:PV X b fb):ml X (.Compare a [.Gt] [b] pos) (sB<|zH ri fa fb):=XW Br nT C I<|JK b
theorem AJ(C:PV X a fa)(I:PV X b fb):ml X (.Compare a [.GtE] [b] pos) (sB<|zH DT fa fb):=XW Fo uX C I<|JK b
theorem ZE(h:SX X sc N T k)(C:PV X a fa)(I:PV X b fb):ml X (.Compare a [.Eq] [b] pos) (sB<|zH iQ fa fb):=XW (oq h.SD) cQ C I<|JK b
theorem yJ(h:SX X sc N T k)(C:PV X a fa)(I:PV X b fb):ml X (.Compare a [.NotEq] [b] pos) (sB<|zH h9 fa fb):=XW (Bo h.SD) pW C I<|JK b
theorem w9{K:IT}{H:Hp}{ds:List D}{v:V}(h:Rep K H (.tup ds) v) : ∃a xs,v = .ref a/\hB K H a xs/\ej K H ds xs:=h
theorem sM{K:IT}{H:Hp}{ds:List D}{v:V}(h:Rep K H (.lst ds) v) : ∃a xs,v = .ref a/\gm K H a xs/\ej K H ds xs:=h
theorem kx{K:IT}{H:Hp}{ds:List D}{a:eg}{xs:List V}(C:hB K H a xs)(I:ej K H ds xs):Rep K H (.tup ds) (.ref a):=⟨a,xs,rfl,C,I⟩
theorem vK{K:IT}{H:Hp}{ds:List D}{a:eg}{xs:List V}(C:gm K H a xs)(I:ej K H ds xs):Rep K H (.lst ds) (.ref a):=⟨a,xs,rfl,C,I⟩
theorem rf{K:IT}:m7 K (λx y H Q=>rn (λi j=> .int (i+j)) x y H Q\/nY K x y H Q) qa:=λg H x y r t d Q s U n O q=>by
 cases r<;>cases t<;>simp[qa]at O
 ·subst O;exact .inl ⟨_,_,jN U,jN n,q _ H g (Ext.refl s) rfl⟩
 ·rename_i o u
  obtain⟨w,rfl⟩:=O;obtain⟨a,z,rfl,k,f⟩:=w9 U;obtain⟨b,A,rfl,l,I⟩:=w9 n;refine .inr ⟨a,b,z,A,rfl,rfl,o9 s k,o9 s l,va (by rw[f.length,I.length];exact w),λe=>?_,λe=>?_,λp m=>?_⟩
  ·have h:o=[]:=by
    have:=f.length;rw[e]at this;exact LU this.symm
   subst h;exact q _ H g (Ext.refl s)<|kx l I
  ·have h:u=[]:=by
    have:=I.length;rw[e]at this;exact LU this.symm
   subst h;exact q _ H g (Ext.refl s) (by rw[Nu];exact kx k f)
  ·exact q _ _ _ (Ext.alloc s m _)<|kx (hB.of zU)<|(f.append I).mono (ju (j3 s m) _)
theorem qz(C:PV X a fa)(I:PV X b fb):PV X (.BinOp a .Add b pos) (zH qa fa fb):=QW (Uj.or lX) rf C I
end
theorem Xx(H:A.handled=none)(k:Sk)(I O:eg)(C:O≠I)(U:Array eh) :
 Walks P w A I [I,O] [I] U.size (λi v=>U[i]? = bQ v) (λi h=>i8 k h I O i/\l8 k h O U):=by
 cases k
 ·exact Walks.list H I O C U
 ·exact Walks.tuple H I O C U
theorem JG(C:List Int) : ∀n,preSum (λi=>C.getD i 0) n=(C.take n).sum
 | 0=>by simp[preSum]
 | n+1=>by
  have I:=JG C n;simp only[preSum,I];by_cases h:n<C.length
  ·rw[Ra h,List.sum_append]
   simp[h]
  ·rw[Oj ⋯,Oj ⋯]
   simp[h]
section
variable{X:Cx}{pins:RW}{σ:St}{H:Hp}{s:eF}
theorem gr(J:X.calm=dt):ZS X (.builtin "sum") (λxs H Q=>∃p k ys C,xs=[.ref p]/\lp k X.K H p ys/\ys=(C:List Int).map V.int/\Q (.int C.sum) H):=by
 intro pins s σ H G F Q I y h;obtain⟨p,k,ys,C,rfl,n,rfl,q⟩:=h;obtain⟨u,rfl,O⟩:=ZJ y;cases O;obtain⟨a,r,d,E⟩:=I.sq n;have lt:=d.lt;have U:=r.length;rw[Ly]at U;refine call_sum_walkG<|Yz d ⟨_,[_,p],[_],a.toArray.size,_,_,λi=>C.getD i 0,rfl,Xx (A:=X.A.in1) (I.ok.hd J) k _ p (Lw lt) a.toArray,⟨JQ k _ p,d.at λo e=>IW _ e⟩,?_,?_,?_⟩
 ·intro b j
  rw[Mn];simp only[Lo,LI,or_false]at j;rcases j with rfl | rfl
  ·exact Nl _
  ·exact Mk lt
 ·intro i v w
  have f:a[i]? = bQ v:=by simpa using w
  have l:i<C.length:=by rw[U];exact(Lh.mp f).1
  obtain⟨u,g,O⟩:=r.get (i:=i) (x:= .int C[i]) (by simp[l]);rw[f]at g;cases g;obtain⟨t,rfl⟩:=O;exact⟨t,by simp[l]⟩
 ·intro B z t' m
  have e:preSum (λi=>C.getD i 0) a.toArray.size=C.sum:=by rw[JG,Oj (by rw[Li,U];exact Le _)]
  refine⟨.int C.sum,H,I.kept (t':=z)<|λb u e=>m b u ?_ (IW _ e),⟨t',by rw[e]⟩,q⟩;simp only[Lo,LI,or_false];exact Lw<|Ln e
noncomputable def uM:V->Option Bool
 | .e7=>bQ ed
 | .bl b=>bQ b
 | .int i=>bQ (i != 0)
 | _=>none
theorem V8(r:RelV x u)(e:uM x=bQ b)(q:Q b s):wpAny (eY P w) A (G6 u) Q E s:=by
 cases x with
 | e7=>cases r;cases e;exact λ_ _ _=>q
 | bl c=>cases r;cases e;exact MZ q
 | int i=>obtain⟨t,rfl⟩:=r;cases e;exact PyProof.Rows.truthy_int q
 | _=>cases e
noncomputable def aC:List V->Option (List Bool)
 | []=>bQ []
 | x::r=>(uM x).bind λb=>(aC r).map λl=>b::l
theorem Jo : ∀{xs:List V} {bs:List Bool},aC xs=bQ bs->bs.length=xs.length/\∀(i:Nat) x,xs[i]? = bQ x->uM x=bQ (bs.getD i ed)
 | [],bs,h=>by cases h;exact⟨rfl,λi x e=>by simp at e⟩
 | y::xs,bs,h=>by
  obtain⟨b,a,h⟩:=zg h;obtain⟨l,d,h⟩:=zJ h;subst h;obtain⟨f,g⟩:=Jo d;refine⟨by simp[f],λi x e=>?_⟩;cases i with
  | zero=>simp at e;subst e;simpa using a
  | succ i=>simpa using g i x (by simpa using e)
theorem gN(bs:List Bool):(IS bs.length).all (λi=>bs.getD i ed)=bs.all id:=by
 rw[MY];simp only[Mz,IV,id_eq];constructor
 ·intro h b I
  obtain⟨i,a,e⟩:=List.mem_iff_getElem.mp I;have:=h i a;rw[IZ,IX a]at this;rw[<- e];exact this
 ·intro h i a
  rw[IZ,IX a];exact h _<|My a
theorem gM(bs:List Bool):(IS bs.length).any (λi=>bs.getD i ed)=bs.any id:=by
 rw[MY];simp only[List.any_eq_true,IV,id_eq];constructor
 ·rintro⟨i,a,h⟩
  rw[IZ,IX a]at h;exact⟨_,My a,h⟩
 ·rintro⟨b,I,h⟩
  obtain⟨i,a,e⟩:=List.mem_iff_getElem.mp I;refine⟨i,a,?_⟩;rw[IZ,IX a,Ov,e];exact h
theorem gA(C:X.calm=dt):ZS X (.builtin "all") (λxs H Q=>∃p k ys bs,xs=[.ref p]/\lp k X.K H p ys/\aC ys=bQ bs/\Q (.bl (bs.all id)) H):=by
 intro pins s σ H P N Q I B h;obtain⟨p,k,ys,bs,rfl,w,y,q⟩:=h;obtain⟨u,rfl,O⟩:=ZJ B;cases O;obtain⟨a,r,d,L⟩:=I.sq w;have lt:=d.lt;have U:=r.length;obtain⟨l,m⟩:=Jo y;refine call_all_walk<|Yz d ⟨_,[_,p],[_],a.toArray.size,_,_,λi=>bs.getD i ed,rfl,Xx (A:=X.A.in1) (I.ok.hd C) k _ p (Lw lt) a.toArray,⟨JQ k _ p,d.at λo e=>IW _ e⟩,?_,?_⟩
 ·intro i v M G F z n
  have f:a[i]? = bQ v:=by simpa using z
  have j:i<ys.length:=by rw[U];exact(Lh.mp f).1
  obtain⟨u,g,O⟩:=r.get (i:=i) (x:=ys[i]) (by simp[j]);rw[f]at g;cases g;exact V8 O (m i ys[i] (by simp[j])) n
 ·intro J E t
  have e:(IS a.toArray.size).all (λi=>bs.getD i ed)=bs.all id:=by rw[Li,<- U,<- l];exact gN bs
  refine⟨.bl<|bs.all id,H,I.kept (t':=E)<|λb u e=>t b u ?_ (IW _ e),by rw[e];rfl,q⟩;simp only[Lo,LI,or_false];exact Lw<|Ln e
theorem gz(C:X.calm=dt):ZS X (.builtin "any") (λxs H Q=>∃p k ys bs,xs=[.ref p]/\lp k X.K H p ys/\aC ys=bQ bs/\Q (.bl (bs.any id)) H):=by
 intro pins s σ H P N Q I B h;obtain⟨p,k,ys,bs,rfl,w,y,q⟩:=h;obtain⟨u,rfl,O⟩:=ZJ B;cases O;obtain⟨a,r,d,L⟩:=I.sq w;have lt:=d.lt;have U:=r.length;obtain⟨l,m⟩:=Jo y;refine call_any_walk<|Yz d ⟨_,[_,p],[_],a.toArray.size,_,_,λi=>bs.getD i ed,rfl,Xx (A:=X.A.in1) (I.ok.hd C) k _ p (Lw lt) a.toArray,⟨JQ k _ p,d.at λo e=>IW _ e⟩,?_,?_⟩
 ·intro i v M G F z n
  have f:a[i]? = bQ v:=by simpa using z
  have j:i<ys.length:=by rw[U];exact(Lh.mp f).1
  obtain⟨u,g,O⟩:=r.get (i:=i) (x:=ys[i]) (by simp[j]);rw[f]at g;cases g;exact V8 O (m i ys[i] (by simp[j])) n
 ·intro J E t
  have e:(IS a.toArray.size).any (λi=>bs.getD i ed)=bs.any id:=by rw[Li,<- U,<- l];exact gM bs
  refine⟨.bl<|bs.any id,H,I.kept (t':=E)<|λb u e=>t b u ?_ (IW _ e),by rw[e];rfl,q⟩;simp only[Lo,LI,or_false];exact Lw<|Ln e
end
section
variable{X:Cx}{sc:g9}{N T:List Str}{k:Nat}{e a b c:eu}{pos p p2:g8}{f g:CO D}{fq:CO (Sk×List D)}
theorem ET{K:IT}{H:Hp}{k:Sk}{a:eg}{xs:List V}(h:lp k K H a xs):gm K H a xs\/hB K H a xs:=by
 cases k
 ·exact .inl h
 ·exact .inr h
theorem qV(h:SX X sc N T k)(c:vp sc "len" = dt)(z:X.mg "len" = none)(I:PQ X e fq)(hs:f6 [e] X.env=[(ed,eA e X.env)]:=by rfl):PV X (.Call (.Name "len" p) [e] [] pos) (xH fq):=
 qC (kO YS (h.gl c).1 z PySem.boot_len (jO I xy hs) ⋯ ⋯ hs rfl) λu H Q O=>by obtain⟨j,s,d,rc,U,q⟩:=O;obtain⟨⟨o,f⟩,l,m⟩:=zJ U;subst m;refine⟨j,s,o,f,rc,l,λa g i b ext n t r=>⟨a,g,rfl,ET n,?_⟩⟩;exact q _ i b ext (show V.int g.length = .int f.length by rw[r.length])
theorem qE(h:SX X sc N T k)(c:vp sc "tuple" = dt)(z:X.mg "tuple" = none)(O:PQ X e fq)(hs:f6 [e] X.env=[(ed,eA e X.env)]:=by rfl):PV X (.Call (.Name "tuple" p) [e] [] pos) (zZ fq):=
 qC (Yk Kp (h.gl c).1 z PyProof.Rows.boot_tuple (jO O xy hs) ⋯ ⋯ hs rfl) λx H Q U=>by
  obtain⟨j,w,d,rc,s,q⟩:=U;obtain⟨⟨g,m⟩,n,o⟩:=zJ s;subst o;refine⟨j,w,g,m,rc,n,λa u i b ext f t r=>⟨a,u,rfl,?_⟩⟩;cases g with
  | L=>exact .inl ⟨f,λl I=>q _ _ _ (ext.trans<|Ext.alloc ext.sub I _)<|kx (hB.of zU)<|r.mono<|ju (j3 ext.sub I) _⟩
  | T=>exact .inr ⟨f,q _ i b ext (kx (t rfl) r)⟩
theorem JJ{H C:Hp}(s:f9 H C){a:eg}(h:C a=none):H a=none:=by
 cases z:H a with
 | none=>rfl
 | some o=>rw[s a o z]at h;cases h
theorem KQ : ∀{ds:List D} {n:Int},aF ds=bQ n->∃C:List Int,ds=C.map D.int/\n=C.sum
 | [],n,h=>by cases h;exact⟨[],rfl,rfl⟩
 | d::ds,n,h=>by
  cases d with
  | int i=>
   obtain⟨s,e,h⟩:=zJ h;obtain⟨C,rfl,rfl⟩:=KQ e;exact⟨i::C,rfl,by rw[<- h];simp⟩
  | _=>cases h
theorem Yc{K:IT}{H:Hp} : ∀{C:List Int} {xs:List V},ej K H (C.map D.int) xs->xs=C.map V.int
 | [],xs,h=>h.tr
 | z::C,xs,h=>by obtain⟨x,r,e,a,b⟩:=ej.o7 h;rw[e,jN a,Yc b];rfl
theorem Ye(h:SX X sc N T k)(c:vp sc "sum" = dt)(z:X.mg "sum" = none)(U:PQ X e fq)(hs:f6 [e] X.env=[(ed,eA e X.env)]:=by rfl):PV X (.Call (.Name "sum" p) [e] [] pos) (gZ fq):=
 qC (kO (gr h.calm) (h.gl c).1 z PyProof.Rows.boot_sum (jO U xy hs) ⋯ ⋯ hs rfl) λA H Q u=>by obtain⟨j,x,d,rc,I,q⟩:=u;obtain⟨⟨f,l⟩,m,I⟩:=zg I;obtain⟨n,o,s⟩:=zJ I;subst s;obtain⟨g,O,rfl⟩:=KQ o;have O:l=g.map D.int:=O;subst O;exact⟨j,x,f,_,rc,m,λa w i b ext t y r=>⟨a,f,w,g,rfl,t,Yc r,q _ i b ext rfl⟩⟩
theorem pG{K:IT}{H:Hp}{d:D}{x:V}{b:Bool}(h:Rep K H d x)(e:CD d=bQ b):uM x=bQ b:=by
 cases d with
 | e7=>cases (show x = .e7 from h);exact e
 | bl c=>cases (show x = .bl c from h);exact e
 | int i=>cases (show x = .int i from h);exact e
 | _=>cases e
theorem XD{K:IT}{H:Hp} : ∀{ds:List D} {xs:List V} {bs:List Bool},ej K H ds xs->Jn ds=bQ bs->aC xs=bQ bs
 | [],xs,bs,h,e=>by rw[h.tr];exact e
 | d::ds,xs,bs,h,e=>by obtain⟨x,r,I,g,i⟩:=h.o7;obtain⟨b,a,e⟩:=zg e;obtain⟨l,f,e⟩:=zJ e;subst I e;show(uM x).bind _=_;rw[pG g a];show((aC r).map λl=>b::l)=_;rw[XD i f];rfl
theorem og(h:SX X sc N T k)(c:vp sc "all" = dt)(z:X.mg "all" = none)(O:PQ X e fq)(hs:f6 [e] X.env=[(ed,eA e X.env)]:=by rfl):PV X (.Call (.Name "all" p) [e] [] pos) (hU fq):=
 qC (kO (gA h.calm) (h.gl c).1 z PyProof.Rows.boot_all (jO O xy hs) ⋯ ⋯ hs rfl) λw H Q U=>by obtain⟨i,s,d,rc,I,q⟩:=U;obtain⟨⟨f,t⟩,j,I⟩:=zg I;obtain⟨bs,l,m⟩:=zJ I;subst m;exact⟨i,s,f,_,rc,j,λa o g b ext n u r=>⟨a,f,o,bs,rfl,n,XD r l,q _ g b ext rfl⟩⟩
theorem AH(h:SX X sc N T k)(c:vp sc "any" = dt)(z:X.mg "any" = none)(O:PQ X e fq)(hs:f6 [e] X.env=[(ed,eA e X.env)]:=by rfl):PV X (.Call (.Name "any" p) [e] [] pos) (uu fq):=
 qC (kO (gz h.calm) (h.gl c).1 z PyProof.Rows.boot_any (jO O xy hs) ⋯ ⋯ hs rfl) λw H Q U=>by obtain⟨i,s,d,rc,I,q⟩:=U;obtain⟨⟨f,t⟩,j,I⟩:=zg I;obtain⟨bs,l,m⟩:=zJ I;subst m;exact⟨i,s,f,_,rc,j,λa o g b ext n u r=>⟨a,f,o,bs,rfl,n,XD r l,q _ g b ext rfl⟩⟩
theorem XS(h:SX X sc N T k)(c:vp sc "int" = dt)(z:X.mg "int" = none)(U:PV X e f)(hs:f6 [e] X.env=[(ed,eA e X.env)]:=by rfl):PV X (.Call (.Name "int" p) [e] [] pos) (QB f):=
 qC (Yk gy (h.gl c).1 z PyProof.Rows.boot_int (jO U xy hs) ⋯ ⋯ hs rfl) λo H Q m=>by
  obtain⟨j,n,d,rc,I,q⟩:=m;obtain⟨O,l,I⟩:=zg I;refine⟨j,n,O,rc,l,λv g a ext r=>?_⟩;cases O with
  | int i=>cases I;exact .inl ⟨i,by rw[jN r],q _ g a ext rfl⟩
  | bl b=>cases I;exact .inr ⟨b,by rw[show v = .bl b from r],q _ g a ext rfl⟩
  | _=>cases I
theorem AC(h:SX X sc N T k)(c:vp sc "max" = dt)(z:X.mg "max" = none)(C:PV X a f)(J:PV X b g)(hs:f6 [a,b] X.env=[(ed,eA a X.env),(ed,eA b X.env)]:=by rfl)(O:f6 [b] X.env=[(ed,eA b X.env)]:=by rfl) :
 PV X (.Call (.Name "max" p) [a,b] [] pos) (rB f g):=
 qC (kO (gw h.calm) (h.gl c).1 z PyProof.Rows.boot_max (jO C (jO J xy O)<|by rw[hs,O]) ⋯ ⋯ (by rw[hs,O]) (by rw[O];rfl)) λK H Q B=>by obtain⟨o,n,d,rc,I,q⟩:=B;obtain⟨i,l,I⟩:=zg I;obtain⟨u,y,l⟩:=zg l;obtain⟨j,U,I⟩:=zJ I;obtain⟨w,A,U⟩:=zg U;subst I;refine⟨o,n,u,rc,y,λv F e x r=>⟨e,n,w,rc.ext x,A,λG s t E m=>⟨i,j,?_,q _ s t (x.trans E) rfl⟩⟩⟩;rw[qF l]at r;rw[qF U]at m;rw[jN r,jN m]
end
section
variable{X:Cx}{sc:g9}{N T:List Str}{k:Nat}{e a b c:eu}{pos p p2:g8}{f g:CO D}{fq:CO (Sk×List D)}
theorem WW(h:f7 n i=bQ j):DF n i=bQ j:=by
 unfold f7 at h;unfold DF;split at h
 ·rename_i a;rw[RY a.1,RY a.2];exact h
 ·split at h
  ·rename_i a b;rw[EQ ⋯,RY ⋯];exact h
  ·cases h
theorem zL(J:PQ X a fq)(Y:PV X b g)(hs:VW b:=by intro _ _;rfl):PV X (.Subscript a b pos) (dy fq g):=
 qC (Bg (Uc.or BP) J Y hs) λN H Q C=>by
  obtain⟨s,o,d,rc,I,q⟩:=C;obtain⟨⟨n,y⟩,z,I⟩:=zg I;obtain⟨i,f,I⟩:=zg I;obtain⟨w,A,f⟩:=zg f;obtain⟨j,B,I⟩:=zg I;refine⟨s,o,n,y,rc,z,λp k G e ext m K r=>⟨e,o,w,rc.ext ext,A,λM t u O h=>?_⟩⟩;rw[qF f]at h;obtain⟨x,E,F⟩:=r.get I;have U:Dg k i=bQ x:=by unfold Dg;rw[r.length,WW B];exact E
  have l:=q x t u (ext.trans O)<|F.mono O.s0;cases n with
  | L=>exact .inl ⟨p,k,i,x,rfl,jN h,O.s1.seq m,U,l⟩
  | T=>exact .inr ⟨p,k,i,x,rfl,jN h,o9 O.s1 m,U,l⟩
theorem Zs{P:i3}{w:h8}{A:nh}{E:RQ}{s:eF}{t C:eg}{I:Array eh}{U J:eh}{lo hi:Option Int}{Q:RQ}(O:D9 s.heap t I)(hs:s.heap.IsSliceOf C U J .none)(pl:B5 U lo)(L:B5 J hi)
 (H:HT.dy I.size 0 lo=0/\HT.dy I.size I.size hi=I.size) (h:Q (.ref t) s):wpAny (eY P w) A (D0 (.ref t)<|.ref C) Q E s:=by
 obtain⟨os,a,b,f⟩:=id hs;have d:s.TypeIs (.ref C) "slice":=⟨os,a,b⟩;unfold D0
 try with_reducible refine Nq ?_
 first | refine IU (Lf ?_) | skip
 refine IU (UC O.typeIs ⋯ ?_);refine IU (Mo (name:=MT "__getitem__") O.typeIs MG
  (ML MG O.typeIs entry_tuple_getitem ?_ (TM _ _)))
 show wpAny _ _ (Builtin.Tuple.tupleItemsOf (.ref t) >>= _) _ _ s;refine IU<|Pu O ?_;refine IU<|Ph d ?_;rw[RY ⋯];refine IU<|HT.ZL hs pl L ?_;have e:(((HT.dy I.size 0 lo:Nat):Int)==0 && (1:Int)==1 && (HT.dy I.size I.size hi - HT.dy I.size 0 lo)==I.size)=dt:=by rw[H.1,H.2];simp
 show wpAny _ _ (if (((HT.dy I.size 0 lo:Nat):Int)==0 && (1:Int)==1 && (HT.dy I.size I.size hi - HT.dy I.size 0 lo)==I.size)=dt then _ else _) _ _ s;rw[RY e];refine IU (m:=NA _) ?_;unfold NA;refine IU<|Ph O.typeIs<|Lf ?_;rw[RY ⋯];exact IU<|PR<|Lf ⟨_,rfl,Lf h⟩
noncomputable def Fc(K:IT):V->Option Int->Option Int->Hp->VK->Prop:=λx lo d H Q=>∃a b,x = .ref a/\hB K H a b/\(HT.dy b.length 0 lo=0/\HT.dy b.length b.length d=b.length->Q (.ref a) H)/\∀p,H p=none->Q (.ref p) (upd H p<|.tup<|tK b lo d)
theorem rj:P0 X (Fc X.K):=by
 intro d s u H x v p t lo g o Q I O i pl U h;obtain⟨a,b,rfl,k,m,n⟩:=h;by_cases e:HT.dy b.length 0 lo=0/\HT.dy b.length b.length g=b.length
 ·cases O
  obtain⟨f,r,j,w⟩:=I.tuple k;have l:f.toArray.size=b.length:=by rw[Li];exact r.length.symm
  refine⟨"tuple",_,MG.lookup,j.typeIs,?_⟩;exact Zs j i pl U (by rw[l];exact e) ⟨.ref a,H,I,rfl,m e⟩
 ·exact uY d s u H (.ref a) v p t lo g o Q I O i pl U ⟨a,b,rfl,k,e,n⟩
theorem Jc(n d:Nat)(o:Option Int):VL n d o=HT.dy n d o:=by cases o<;>rfl
theorem iV{K:IT}{H:Hp}{ds:List D}{xs:List V}(r:ej K H ds xs)(lo hi:Option Int):ej K H (cg ds lo hi) (tK xs lo hi):=by unfold cg tK;rw[<- Jc,<- Jc,r.length];exact(r.drop _).take _
theorem gd{ds:List D}{lo hi:Option Int}(h:HT.dy ds.length 0 lo=0/\HT.dy ds.length ds.length hi=ds.length):cg ds lo hi=ds:=by unfold cg;rw[Jc,Jc,h.1,h.2];simp
noncomputable def tB(K:IT)(f:CO (Option Int)):TO:=λg H Q=>∃d e o,RC K d H g e/\f e=bQ o/\∀b a,Ext d H a b->Q o b
theorem dQ:L2.PO X none (tB X.K bZ):=λa s d H Q I ⟨b,e,o,rc,O,q⟩=>rT a s d H Q I (by cases O;exact q H b<|Ext.refl rc.sub)
theorem X0(h:PV X e f):L2.PO X (bQ e) (tB X.K<|nf f):=λa s n H Q I ⟨k,m,o,rc,O,q⟩=>rS h a s n H Q I (by
 obtain⟨i,g,l⟩:=zJ O;obtain⟨d,U,g⟩:=zg g;subst l;refine⟨k,m,d,rc,U,λv j b x r=>?_⟩;rw[qF g]at r;exact⟨i,jN r,q j b x⟩)
theorem df{lo hi:Option eu}{U C:CO (Option Int)}(J:PV X a f)(Y:L2.PO X lo (tB X.K U))(L:L2.PO X hi (tB X.K C)):PV X (.Subscript a (.Slice lo hi none p2) pos) (K7 f U C):=
 qC (lM rj J Y L) λP H Q E=>by
  obtain⟨n,g,d,rc,I,q⟩:=E;obtain⟨h,z,I⟩:=zg I;obtain⟨l,A,I⟩:=zg I;obtain⟨u,B,I⟩:=zg I;refine⟨n,g,h,rc,z,λv G b x r=>⟨b,g,l,rc.ext x,A,λM t O=>⟨t,g,u,(rc.ext x).ext O,B,λo w x3=>?_⟩⟩⟩;have m:=x.trans<|O.trans x3;cases h with
  | tup N=>
   cases I;obtain⟨s,F,rfl,i,e⟩:=w9<|r.mono (O.trans x3).s0;have y:=e.length;refine⟨s,F,rfl,o9 x3.sub i,λk=>?_,λp j=>?_⟩
   ·rw[y]at k
    exact q _ o w m (by rw[gd k];exact kx i e)
   ·exact q _ _ _ (m.trans<|Ext.alloc x3.sub j _)<|kx (hB.of zU)<|(iV e _ _).mono (ju (j3 x3.sub j) _)
  | _=>cases I
theorem Wp{K:IT}{H:Hp}{ds:List D}{xs:List V}(r:ej K H ds xs) : ∀n:Nat,ej K H (La n ds).flatten (La n xs).flatten
 | 0=>ej.nil
 | n+1=>by rw[Nk,Nk,NK,NK];exact r.append<|Wp r n
theorem oi(C:PQ X a fq)(J:PQ X b gq):PO X (.BinOp a .Add b pos) (K9 fq gq):=
 qC (Bb lY C J) λK H Q x=>by
  obtain⟨l,k,E,rc,I,q⟩:=x;obtain⟨⟨y,e⟩,s,I⟩:=zg I;obtain⟨⟨z,f⟩,t,I⟩:=zg I;cases y<;>cases z<;>try (simp at I;done)
  dsimp only at I;by_cases U:e.length+f.length<=lim
  ·rw[RY U]at I;cases I
   refine⟨l,k,.L,e,rc,s,λm i A o x1 u F g=>⟨o,k,.L,f,rc.ext x1,t,λn j B r O w G h=>⟨m,n,i,j,rfl,rfl,O.s1.seq u,w,va (by rw[g.length,h.length];exact U),λp d=>?_⟩⟩⟩;exact q p (i++j) _ r (x1.trans<|O.trans<|Ext.hide O.sub d _) (JJ (x1.trans O).s1 d) (j3 O.sub d) zU<|(g.mono O.s0).append h
  ·rw[EQ U]at I;cases I
theorem BE{K:IT}{t c:String}{b:Bool}(h:(if ((Nf t) == .type c)=dt then bQ dt else if PySem.W.kitMeta c=dt then (fastBuiltinMro t).map (·.contains (.type c))else none)=bQ b):NM K (.type t) (.type c)=bQ b:=h
noncomputable def O0:Ty->String
 | .int=>"int"
 | .bool=>"bool"
 | .str=>"str"
 | .tuple=>"tuple"
 | .list=>"list"
noncomputable def BF:D->String
 | .e7=>"NoneType"
 | .bl _=>"bool"
 | .int _=>"int"
 | .str _=>"str"
 | .tup _=>"tuple"
 | .lst _=>"list"
 | .md _ _=>"dict"
 | .lq _ _=>"dict"
theorem Yv{K:IT}(T:Ty)(d:D):NM K (.type<|BF d) (.type<|O0 T)=bQ (cf T d):=by cases d<;>cases T<;>(dsimp only[BF,O0,cf,oM,BR,oI,oH,oK];exact BE ⋯)
theorem mH{J:RW}{Y:St}{C H:Hp}{s:eF}{A:nh}{E:RQ}{Q:RQ}{d:D}{x:V}{u:eh}(I:Inv X J Y H s)(sub:f9 C H)(O:RelV x u)(r:Rep X.K C d x)(T:Ty)
 (h : ∀L,Q (.bool (cf T d)) {s with toks:=L}):wpAny (eY X.prog X.w) A (call (.builtin "isinstance") [u,.type (O0 T)]) Q E s:=by
 cases d with
 | e7=>have e:=Yv (K:=X.K) T .e7;cases (show x = .e7 from r);cases (show u=Mu from O);exact Me PySem.W.kitx_none I.mu De e (λz=>nomatch z) h
 | bl y=>have e:=Yv (K:=X.K) T<|.bl y;cases (show x = .bl y from r);cases (show u=Value.bool y from O);exact Me PySem.W.kitx_bool I.mu De e (λz=>nomatch z) h
 | int i=>have e:=Yv (K:=X.K) T<|.int i;cases (show x = .int i from r);obtain⟨t,q⟩:=(show ∃t,u=Value.int i t from O);cases q;exact Me PySem.W.kitx_int I.mu De e (λz=>nomatch z) h
 | str y=>have e:=Yv (K:=X.K) T<|.str y;cases (show x = .str y from r);obtain⟨t,q⟩:=(show ∃t,u=Value.str y t from O);cases q;exact Me PySem.W.kitx_str I.mu De e (λz=>nomatch z) h
 | tup k=>
  have e:=Yv (K:=X.K) T<|.tup k;obtain⟨a,b,rfl,f,l⟩:=w9 r;cases (show u=MD a from O);obtain⟨n,F,⟨o,U,m,_⟩,B⟩:=I.tuple<|o9 sub f;exact Me PySem.W.kitx_tuple I.mu ⟨o,U,m⟩ e (λz=>nomatch z) h
 | lst k=>
  have e:=Yv (K:=X.K) T<|.lst k;obtain⟨a,b,rfl,f,l⟩:=sM r;cases (show u=MD a from O);obtain⟨n,F,p,B⟩:=I.list<|sub.seq f;obtain⟨o,U,m,_⟩:=p.isList;exact Me PM I.mu ⟨o,U,m⟩ e (λz=>nomatch z) h
 | md g j=>
  have e:=Yv (K:=X.K) T<|.md g j;obtain⟨a,b,rfl,⟨G,_,_,f⟩,_⟩:=(show ∃a b,x = .ref a/\I0 C a g b/\ej X.K C j b from r);exact fA I O (.dK<|sub _ _ f) e h
 | lq g j=>
  have e:=Yv (K:=X.K) T<|.lq g j;obtain⟨a,b,rfl,⟨_,o,M,f,l,_⟩,_⟩:=(show ∃a b,x = .ref a/\I7 X.K C a g b/\ej X.K C j b from r);cases (show u=MD a from O);obtain⟨U,_⟩:=(show m6 X.prog X.w H s.heap a (SO a o)from I.gB a _<|sub _ _ f);exact Me PN I.mu ⟨o,U,l.1.1⟩ e (λz=>nomatch z) h
theorem iX(T:Ty)(h:SX X sc N L k)(c:vp sc "isinstance" = dt)(z:X.mg "isinstance" = none)(O:vp sc ty=dt)(Y:X.mg ty=none)(J:Dz ty=bQ (.type (O0 T)))(C:PV X a f)
 (hs:f6 [a,.Name ty p2] X.env=[(ed,eA a X.env),(ed,eA (.Name ty p2) X.env)]:=by rfl):PV X (.Call (.Name "isinstance" p) [a,.Name ty p2] [] pos) (m3 T f):=by
 intro e s G H Q I ⟨i,F,d,rc,t,q⟩;obtain⟨l,n,o⟩:=zJ t;subst o;refine Oq<|vD I (h.gl c).1 z PyProof.Rows.boot_isinstance ?_ ⋯ ⋯;refine Pw ?_ (by rw[hs];rfl) rfl;rw[hs];show wpAny _ _ (N1 ((ed,eA a X.env)::rh pos [(ed,eA (.Name ty p2) X.env)])) _ _ s;refine OS<|fk (C e s G H _ I ⟨i,F,l,rc,n,λv g b x r=>(show(λv g=>∃b,Ext i H b g/\Rep X.K b l v) v g from⟨b,x,r⟩)⟩) λu B w=>?_;obtain⟨x,j,U,y,m,x1,A⟩:=w;show wpAny _ _ (N1 ((ed,eA (.Name ty p2) X.env)::[])) _ _ B;refine OS<|vD U (h.gl O).1 Y J ?_ (h.gl O).2.1 (h.gl O).2.2;refine Rc ?_;exact mH U x1.sub y A T λE=>⟨.bl _,j,U.tok E,rfl,q _ j m x1 rfl⟩
end
section
variable{X:Cx}{sc:g9}{N L:List Str}{k:Nat}{e a b c:eu}{pos p p2:g8}{f g:CO D}{fq:CO (Sk×List D)}
theorem jk(h:SX X sc N L k)(c:vp sc "range" = dt)(z:X.mg "range" = none)(C:PV X a f)(hs:f6 [a] X.env=[(ed,eA a X.env)]:=by rfl):i4 X tg (.Call (.Name "range" p) [a] [] pos) (zR f):=aX (h.gl c).1 z C hs
theorem WA(h:SX X sc N L k)(c:vp sc "range" = dt)(z:X.mg "range" = none)(C:PV X a f)(I:PV X b g)(hs:f6 [a,b] X.env=[(ed,eA a X.env),(ed,eA b X.env)]:=by rfl)(O:f6 [b] X.env=[(ed,eA b X.env)]:=by rfl) :
 i4 X tg (.Call (.Name "range" p) [a,b] [] pos) (vJ f g):=aW (h.gl c).1 z C I hs O
theorem QX(h:SX X sc N L k)(c:vp sc "zip" = dt)(z:X.mg "zip" = none)(C:PV X a f)(I:PV X b g)(hs:f6 [a,b] X.env=[(ed,eA a X.env),(ed,eA b X.env)]:=by rfl)(O:f6 [b] X.env=[(ed,eA b X.env)]:=by rfl) :
 i4 X (.Tuple elts x1 D6) (.Call (.Name "zip" p) [a,b] [] pos) (aK f g):=rY (h.gl c).1 z C I hs O
theorem dj(h:SX X sc N L k)(c:vp sc "isinstance" = dt)(z:X.mg "isinstance" = none)(I:vp sc "int" = dt)(O:X.mg "int" = none)(C:PV X a f)
 (hs:f6 [a,.Name "int" p2] X.env=[(ed,eA a X.env),(ed,eA (.Name "int" p2) X.env)]:=by rfl):PV X (.Call (.Name "isinstance" p) [a,.Name "int" p2] [] pos) (m3 .int f):=iX .int h c z I O PyProof.Rows.boot_int C hs
theorem aO(h:SX X sc N L k)(c:vp sc "isinstance" = dt)(z:X.mg "isinstance" = none)(I:vp sc "bool" = dt)(O:X.mg "bool" = none)(C:PV X a f)
 (hs:f6 [a,.Name "bool" p2] X.env=[(ed,eA a X.env),(ed,eA (.Name "bool" p2) X.env)]:=by rfl):PV X (.Call (.Name "isinstance" p) [a,.Name "bool" p2] [] pos) (m3 .bool f):=iX .bool h c z I O PyProof.Rows.boot_bool C hs
theorem vL(h:SX X sc N L k)(c:vp sc "isinstance" = dt)(z:X.mg "isinstance" = none)(I:vp sc "tuple" = dt)(O:X.mg "tuple" = none)(C:PV X a f)
 (hs:f6 [a,.Name "tuple" p2] X.env=[(ed,eA a X.env),(ed,eA (.Name "tuple" p2) X.env)]:=by rfl):PV X (.Call (.Name "isinstance" p) [a,.Name "tuple" p2] [] pos) (m3 .tuple f):=iX .tuple h c z I O PyProof.Rows.boot_tuple C hs
theorem QV(h:SX X sc N L k)(c:vp sc "isinstance" = dt)(z:X.mg "isinstance" = none)(I:vp sc "list" = dt)(O:X.mg "list" = none)(C:PV X a f)
 (hs:f6 [a,.Name "list" p2] X.env=[(ed,eA a X.env),(ed,eA (.Name "list" p2) X.env)]:=by rfl):PV X (.Call (.Name "isinstance" p) [a,.Name "list" p2] [] pos) (m3 .list f):=iX .list h c z I O PyProof.Rows.boot_list C hs
theorem iZ(C:PQ X a fq)(O : ∀I,DE a X.env I=(do let v <- I;D4 a.pos;u7 [v] (G6 v)):=by intro _;rfl):ml X a (rz fq):=
 aQ (lg C O) λs H Q U=>by
  obtain⟨j,n,t,rc,m,q⟩:=U;obtain⟨⟨h,b⟩,k,l⟩:=zJ m;subst l;refine⟨j,n,h,b,rc,k,λp d i f ext g o r=>⟨!b.isEmpty,?_,q i f ext⟩⟩;have e:d.isEmpty=b.isEmpty:=by have:=r.length;cases d<;>cases b<;>simp_all
  rw[<- e];cases h with
  | L=>exact .inl ⟨d,g,rfl⟩
  | T=>exact .inr<|.inl ⟨d,g,rfl⟩
theorem AB(C:PV X a f):PV X (.UnaryOp .USub a pos) (rA f):=
 qC (Fk uI C) λm H Q I=>by obtain⟨h,l,d,rc,O,q⟩:=I;obtain⟨i,e,k⟩:=zJ O;obtain⟨U,j,e⟩:=zg e;subst k;refine⟨h,l,U,rc,j,λv g b x r=>?_⟩;rw[qF e]at r;exact⟨i,jN r,q _ g b x rfl⟩
theorem yq(i:Nat)(h:SX X sc N L k)(c:Jk sc N i x=dt)(H:PV X a f)(hs:f6 [a] X.env=[(ed,eA a X.env)]:=by rfl)
 (I:DQ (.Name x np) "append" X.env (eA (.Name x np) X.env)=eA (.Name x np) X.env:=by rfl)
 (O:((rh cpos<|starEach [a] X.env).all (λx=> !x.1) && (RH cpos<|keywordEach [] X.env).all (λx=>x.1.isSome)
   && decide ([a].length+([]:List Dv).length+(if ([]:List Dv).isEmpty then 0 else 1)<30))=dt:=by rfl)
 (U:(apos.endLine==cpos.line)=dt:=by rfl) (C:vu (.Call (.Attribute (.Name x np) "append" apos) [a] [] cpos) none pos.line X.env=pure ed:=by rfl) :
 lh X (.Expr (.Call (.Attribute (.Name x np) "append" apos) [a] [] cpos) pos) (jV i f):=
 aS i (sf NV PySem.F.slot_list_append PySem.F.type_list_append eO (h.var c) (jO H xy hs) I O U hs rfl) C
theorem xw(i:Nat){st:iS}{f:CO (List D)}(h:PS X st (Wd (tO X.K f)<|yP i)):lh X st (jo i<|jA f):=kY h λD w H U=>by obtain⟨E0,E,g,p,t,I,O,k⟩:=U;obtain⟨d,b,O⟩:=zJ O;obtain⟨l,m,b⟩:=zJ b;subst O b;exact⟨g,p,l,I.rc,m,λa u s j x n e o r=>k _ _ _<|(I.step<|x.show n e o I.rc.sub).A3 (vK (gm.of zU)<|r.mono<|ju e _)⟩
theorem Ul(i:Nat)(h:SX X sc N L k)(c:ym sc N L i y=dt)
 (I:X.calm=dt) (ok:qq X scope fr) (O : ∀i∈T.idx,i<own.length) (hi:rb X tg iter src) (U : ∀fp H C,PG (jx X scope (own++fr.map (·.1)) fp H C) tg<|p6 X.K T)
 (J : ∀fp H C,PV (jx X scope (own++fr.map (·.1)) fp H C) elt f) (hs : ∀x,n6 iter X.env x=pure x:=by intro _;rfl) :
 PS X (.Assign [.Name y py] (.ListComp elt [⟨tg,iter,[],0⟩] scope cpos) spos) (Wd (tO X.K<|zP src T own.length (fr.map (·.2)) jj f)<|yP i):=by
 obtain⟨a,b,d⟩:=h.loc c;exact lD h.F4 a b d I ok O hi U J hs
theorem Fi(i:Nat)(h:SX X sc N L k)(c:ym sc N L i y=dt)
 (I:X.calm=dt) (ok:qq X scope fr) (O : ∀i∈T.idx,i<own.length) (hi:rb X tg iter src) (U : ∀fp H C,PG (jx X scope (own++fr.map (·.1)) fp H C) tg<|p6 X.K T)
 (Y : ∀fp H C,ml (jx X scope (own++fr.map (·.1)) fp H C) DS kk) (J : ∀fp H C,PV (jx X scope (own++fr.map (·.1)) fp H C) elt f) (hs : ∀x,n6 iter X.env x=pure x:=by intro _;rfl) :
 PS X (.Assign [.Name y py] (.ListComp elt [⟨tg,iter,[DS],0⟩] scope cpos) spos) (Wd (tO X.K<|zP src T own.length (fr.map (·.2)) kk f)<|yP i):=by
 obtain⟨a,b,d⟩:=h.loc c;exact aU h.F4 a b d I ok O hi U Y J hs
theorem dz(i:Nat)(h:SX X sc N L k)(c:Jk sc N i x=dt)(hi:PV X b g)(Z:PV X e f)
 (Y : ∀v,t9 (.Subscript (.Name x np) b p) X.env v=(do
   let O <- u7 [v] (eA (.Name x np) X.env);let iv <- u7 [v,O] (eA b X.env)
   D4 p
   u7 [v,O,iv] (So O iv v)
   release [v,O,iv] []):=by intro _;rfl)
 (hs:N3 [.Subscript (.Name x np) b p] e pos.line X.env=pure ed:=by rfl) (hw:Sr [.Subscript (.Name x np) b p] e X.env=pure none:=by rfl)
 (C:(A5 [.Subscript (.Name x np) b p] X.env).map (·.2)=[t9 (.Subscript (.Name x np) b p) X.env]:=by rfl) :
 lh X (.Assign [.Subscript (.Name x np) b p] e pos) (Wm i g f):=
 kY (Wy Z (om (h.var c) hi Wj Y) hs hw C) λD σ H Q=>by obtain⟨E0,E,y,w,W,u,I,z⟩:=Q;obtain⟨d,J,I⟩:=zg I;obtain⟨G,l,I⟩:=zg I;obtain⟨R,o,I⟩:=zg I;obtain⟨F,K,o⟩:=zg o;obtain⟨j,M,I⟩:=zJ I;subst I;have l:=xY l;refine⟨y,w,d,u.rc,J,λv S m x r=>?_⟩;have n:=u.step x;obtain⟨a,xs,C,h2,P,s⟩:=n.rc.own i G l;refine⟨_,C,m,w,F,n.rc,K,λv2 T A U t=>?_⟩;rw[qF o]at t;have B:=n.step U;refine⟨a,xs,R,j,rfl,jN t,U.s1 _ _ P,by rw[s.length];exact WW M,?_⟩;exact z _ _ A<|B.rewrite (xs:=xs) l C<|(s.mono U.s0).set j (r.mono U.s0)
theorem vj(U:PG X tg (p6 X.K T))(J:PV X e f)(hs:N3 [tg] e pos.line X.env=pure ed:=by rfl)(Y:Sr [tg] e X.env=pure none:=by rfl)
 (C:(A5 [tg] X.env).map (·.2)=[t9 tg X.env]:=by rfl):lh X (.Assign [tg] e pos) (ZM T f):=
 kY (Wy J U hs Y C) λD p H l=>by obtain⟨E0,E,h,m,o,O,I,i⟩:=l;obtain⟨d,j,I⟩:=zg I;obtain⟨n,k,I⟩:=zJ I;subst I;refine⟨h,m,d,O.rc,j,λv g a x r=>?_⟩;exact wQ x.sub r k λb _ a4=>i b g a<|a4 E0 E<|O.step x
end
structure hG(P:i3)(w:h8)(K:IT)(mg:RJ)(base:fy)(k:Nat)(x:Str)(n:Nat)(F:List D->Option Res):Prop where
 ex : ∃(f:eg) (fd:rr) (ps:List Str),ps.length=n/\rq P w K mg base t4 k f fd ps (tv K ps.length F)/\mg x=bQ (.ref f)/\Of K (.ref f)=dt/\Binds K fd ps []
structure hL(K:IT)(mg:RJ)(x:Str)(st:iS)(ps:List Str):Prop where
 ex : ∃(f:eg) (fd:rr),L2.Du K x x st f fd/\(∀us:List eh,us.length=ps.length->bindArgs fd ⟨us,[]⟩=pure (ps.zip us))/\mg x=bQ (.ref f)
noncomputable def B7(X:Cx)(es:List eu)(n:Nat)(g:CO (List D)):Prop:=B6 X es g/\∀b a,g b=bQ a->a.length=n
section
variable{X:Cx}{sc:g9}{N L:List Str}{k:Nat}{e:eu}{es:List eu}{f:CO D}{g:CO (List D)}{n:Nat}{pos p:g8}{x:Str}
theorem zm:B7 X [] 0 zD:=⟨sk,λb a h=>by cases h;rfl⟩
theorem zb(C:PV X e f)(I:B7 X es n g)(hs:f6 (e::es) X.env=(ed,eA e X.env)::f6 es X.env:=by rfl):B7 X (e::es) (n+1) (za f g):=
 ⟨lS C I.1 hs,λb d h=>by obtain⟨y,i,h⟩:=zg h;obtain⟨r,a,h⟩:=zJ h;subst h;rw[LM,I.2 b r a]⟩
variable{j:Nat}{F:List D->Option Res}
theorem Fh(I:hG X.prog X.w X.K X.mg X.base j x n F)(O:j<=k)(h:SX X sc N L k)(c:vp sc x=dt)(C:B7 X (e::es) n g)
 (U:f6 (e::es) X.env=(ed,eA e X.env)::f6 es X.env:=by rfl) (H:(rh pos<|starEach es X.env).any (·.1)=ed:=by rfl):PV X (.Call (.Name x p) (e::es) [] pos) (zC F g):=by
 obtain⟨l,m,o,i,G,f,d,b⟩:=I.ex;subst i;exact rM (A0:=[]) G C.1 C.2 λ{t} a=>Vn G (h.room.mono O) (h.gl c).1 f d b .nil sg a (h.gl c).2.2 U H
theorem Fj(I:hG X.prog X.w X.K X.mg X.base j x n F)(O:j<=k)(h:SX X sc N L k)(c:vp sc x=dt)(C:B7 X (e::es) n g)
 (U:f6 (e::es) X.env=(ed,eA e X.env)::f6 es X.env:=by rfl) (H:(rh pos<|starEach es X.env).any (·.1)=ed:=by rfl):PO X (.Call (.Name x p) (e::es) [] pos) (ja F g):=by
 obtain⟨l,m,o,i,G,f,d,b⟩:=I.ex;subst i;exact rW G C.1 C.2 λ{t} a=>Vn G (h.room.mono O) (h.gl c).1 f d b .nil sg a (h.gl c).2.2 U H
end
section
variable{P:i3}{w:h8}{K:IT}{mg:RJ}{base:fy}
noncomputable def fX(N ps:List Str)(st:iS):Bool:=
 decide ((jC st).kind = .function) && decide ((jC st).isCoroutine=ed) && decide ((jC st).isGenerator=ed) && decide N.Nodup && decide (N.take ps.length=ps) &&
 ps.all (λx=>decide ((jC st).names.lookup x=bQ .local) || decide ((jC st).names.lookup x=bQ .cell)) && (jC st).names.all (λy=> !(y.2==LO))
theorem XM{N ps:List Str}{st:iS}(h:fX N ps st=dt):D7 N ps (jC st):=by unfold fX at h;simp only[Lq,decide_eq_true_eq,Mz,MJ,Nh]at h;obtain⟨⟨⟨⟨⟨⟨a,b⟩,I⟩,O⟩,U⟩,d⟩,f⟩:=h;exact⟨a,b,I,O,U,d,λy g e=>by have:=f y g;rw[e]at this;exact absurd this ⋯⟩
theorem dR{X:Cx}(I:X.xe=λ_ _=>False):L4 (eY X.prog X.w) X.A X.env X.xe:=by rw[I];exact PassesOwn.never
theorem kJ{x:Str}{st:iS}{N ps:List Str}{k:Nat}{F:CO Fl}(A:hL K mg x st ps)(C:fX N ps st=dt)
 (O : ∀X:Cx,X.prog=P->X.w=w->X.K=K->X.mg=mg->X.base=base->SX X (jC st) N N k->X.xe=(λ_ _=>False)->bX X (k5 st) F) :
 hG P w K mg base (k+1) x ps.length (jn N.length F):=by
 obtain⟨f,d,I,U,e⟩:=A.ex;have S:=XM C;refine⟨f,d,ps,rfl,Ca I S λb A a s H E g=>?_,e,I.kp,.all U⟩;exact O _ rfl rfl rfl rfl rfl ⟨rfl,rfl,S.nd,rfl,g,λ_ _=> .inl rfl⟩ rfl
theorem Hh{h:fy}{x:Str}{st:iS}{ps:List Str}{f:eg}{oc:eh}{od J:Option eg}{O:Array (Option eh)}{kV H L C ct:eh}(I:K.In h)(G:h.Ns vl mg)
 (a:PySem.W.nsIn K vl x=bQ (bQ (.ref f))) (l:K.lookup f=bQ ⟨oc,od,.func<|Oh x x (JW st) (k5 st) (jC st) .none kV H L J C ct,O⟩)
 (c:Po K C x=dt) (Z:Of K (.ref f)=dt)
 (b : ∀(kV H L:eh) (J:Option eg) (C ct:eh) (Y:List eh),Y.length=ps.length->bindArgs (Oh x x (JW st) (k5 st) (jC st) .none kV H L J C ct) ⟨Y,[]⟩=pure (ps.zip Y)):hL K mg x st ps:=
 ⟨f,_,BZ l c Z,b kV H L J C ct,PySem.W.mg_of I G a⟩
theorem FO{x:Str}{st:iS}{f:eg}{C:rr}{N ps:List Str}{k:Nat}{F:CO Fl}(I:L2.Du K x x st f C)(J:fX N ps st=dt)
 (O : ∀X:Cx,X.prog=P->X.w=w->X.K=K->X.mg=mg->X.base=base->SX X (jC st) N N k->X.xe=(λ_ _=>False)->bX X (k5 st) F) :
 rq P w K mg base t4 (k+1) f C ps (tv K ps.length<|jn N.length F):=by
 have S:=XM J;exact Ca I S λb A a s H E U=>O _ rfl rfl rfl rfl rfl ⟨rfl,rfl,S.nd,rfl,U,λ_ _=> .inl rfl⟩ rfl
theorem Eh{F:List D->Option Res}{H:Hp}{a:eg}{C:List Int}(I:gm K H a (C.map V.int))(O:F [.lst (C.map D.int)]=bQ (.val<|.bl dt)) :
 tv K 1 F [.ref a] H (λv _=>v = .bl dt) λ_ _ _=>False:=by
 refine⟨H,[.lst (C.map D.int)],.val<|.bl dt,f9.refl _,ej.cons (vK I ?_) ej.nil,rfl,O,λv d b _ r=>r⟩;clear O I
 induction C with
 | nil=>exact ej.nil
 | cons n C U=>exact ej.cons rfl U
end
end DL
namespace DL
open PySem PySem.Spec PyProof.Rows L2
open PySem.W (KasT kas_sort kas_ask kat_run kat_snds kat_lt kat_cons kat_no kat_kind KatTups KatGo)
noncomputable def Cw(h:fy)(v:eh)(k:Int):Prop:=∃x o a m t,v = .ref x/\h.get? x=bQ o/\o.cls = .type "tuple"/\o.data = .seq a m/\a[0]? = bQ (.int k t)
theorem oG : ∀{vs:List eh} {ks:Nat->Int},(∀i (hi:i<vs.length),Cw h vs[i] (ks i))->∃fs,KatTups h vs fs/\fs.length=vs.length/\∀f∈fs,∃k t,f=Value.int k t
 | [],ks,_=>⟨[],KatTups.nil,rfl,λf I=>by cases I⟩
 | v::vs,ks,H=>by
  obtain⟨fs,g,j,O⟩:=oG (vs:=vs) (ks:=λi=>ks<|i+1) λi hi=>H (i+1) (by simpa using hi);obtain⟨x,o,l,m,t,a,b,U,d,e⟩:=H 0 ⋯;have a:v = .ref x:=a;subst a;exact⟨.int (ks 0) t::fs,KatTups.cons b U d e g,by simp[j],λf I=>by
   rcases Lo.mp I with rfl | I
   ·exact⟨_,_,rfl⟩
   ·exact O f I⟩
end DL
namespace DL
open PySem PySem.Spec PyProof.Rows L2
open AutoSeq1 (wpAny_loadPart')
theorem ZP:fillsNumberSlot (.type "tuple") "mul" = pure ed:=
 PySem.fillsNumberSlot_seq (id:="tuple.__mul__") (r:=bQ (.builtin "tuple.__rmul__")) OI.lookup ⋯ F.slot_tuple_rmul.lookup ⋯
theorem Yd:seqRepeat? (.type "tuple")=pure (bQ (.builtin "tuple.__mul__")):=by unfold seqRepeat?;rw[PySem.seqSlot_of (T:="tuple") (name:="__mul__") (id:="tuple.__mul__") OI.lookup ⋯,PySem.seqSlot_of (T:="tuple") (name:="__rmul__") (id:="tuple.__rmul__") F.slot_tuple_rmul.lookup ⋯];rfl
theorem QL(a:Int)(t:Tok)(l:eg)(I:Array eh)(n:Nat)(O:Option eg)(C:Array (Option eh)) :
 E1 (wh.«int.__rmul__» ⟨[.int a t,.ref l],[]⟩) (λ_ R s=>s.heap.get? l=bQ {cls:= .type "tuple",dict:=O,data:= .seq I n,slots:=C}/\R (.ok (.ret Value.notImplemented)) s):=
 .of_wp λb w A R s h=>by obtain⟨U,g,d,f,os⟩:=s;obtain⟨e,h⟩:=h;wp_walk;exact⟨_,rfl,h⟩
theorem XC(a:Int)(t:Tok)(l:eg)(I:Array eh)(n:Nat)(U:Option eg)(Z:Array (Option eh))(C : ¬(decide (a < -(2 ^ 63)) || decide (a>=2 ^ 63))=dt)(H : ¬(I.isEmpty || a==1)=dt)
 (J : ¬(decide (a<=0) || I.isEmpty)=dt) (L : ¬((I.size:Int)*a>(2 ^ 63 - 1)/8)) (Y : ¬Builtin.Tuple.tupleTooMany ((I.size:Int)*a)=dt) (hz:((La a.toNat I).foldl (· ++ ·) #[]).size<=gv) :
 E1 (wh.«tuple.__mul__» ⟨[.ref l,.int a t],[]⟩) (λ_ R s=>s.heap.get? l=bQ {cls:= .type "tuple",dict:=U,data:= .seq I n,slots:=Z}/\
  R (.ok (.ret (.ref s.heap.objs.size))) {s with heap:=s.heap.push {cls:= .type "tuple",data:= .seq ((La a.toNat I).foldl (· ++ ·) #[])}}):=
 .of_wp λb w A R s h=>by
  obtain⟨e,g,d,f,os⟩:=s;obtain⟨O,h⟩:=h
  wp_walk using NN O
  rw[EQ C];refine IU<|Pu (s:=⟨e,g,d,f,os⟩) ⟨_,O,rfl,n,rfl⟩ ?_;dsimp only;rw[EQ H,EQ J,EQ L,EQ Y];refine IU (m:=MV _)<|Na ?_ hz;exact Lf ⟨_,rfl,h⟩
theorem J9(a:Int)(t:Tok)(l:eg)(I:Array eh)(n:Nat)(U:Option eg)(L:Array (Option eh))(C : ¬(decide (a < -(2 ^ 63)) || decide (a>=2 ^ 63))=dt)(H : ¬(I.isEmpty || a==1)=dt)
 (J:(decide (a<=0) || I.isEmpty)=dt) :
 E1 (wh.«tuple.__mul__» ⟨[.ref l,.int a t],[]⟩) (λ_ R s=>s.heap.get? l=bQ {cls:= .type "tuple",dict:=U,data:= .seq I n,slots:=L}/\
  R (.ok (.ret (.ref s.heap.objs.size))) {s with heap:=s.heap.push {cls:= .type "tuple",data:= .seq #[]}}):=
 .of_wp λb w A R s h=>by
  obtain⟨e,g,d,f,os⟩:=s;obtain⟨O,h⟩:=h
  wp_walk using NN O
  rw[EQ C];refine IU<|Pu (s:=⟨e,g,d,f,os⟩) ⟨_,O,rfl,n,rfl⟩ ?_;dsimp only;rw[EQ H,RY J];refine IU (m:=MV _)<|Na ?_ (Ms _);exact Lf ⟨_,rfl,h⟩
theorem J8(a:Int)(t:Tok)(l:eg)(O:Array eh)(n:Nat)(U:Option eg)(J:Array (Option eh))(C : ¬(decide (a < -(2 ^ 63)) || decide (a>=2 ^ 63))=dt)(H:(O.isEmpty || a==1)=dt) :
 E1 (wh.«tuple.__mul__» ⟨[.ref l,.int a t],[]⟩) (λ_ R s=>s.heap.get? l=bQ {cls:= .type "tuple",dict:=U,data:= .seq O n,slots:=J}/\R (.ok (.ret (.ref l))) s):=
 .of_wp λb w A R s h=>by
  obtain⟨e,g,d,f,os⟩:=s;obtain⟨I,h⟩:=h
  wp_walk using NN I
  rw[EQ C];refine IU (Pu (s:=⟨e,g,d,f,os⟩) ⟨_,I,rfl,n,rfl⟩ ?_);dsimp only;rw[RY H];refine IU (m:=NA _) ?_;unfold NA;refine IU (Ph (T:="tuple") ⟨_,I,rfl⟩ (Lf ?_));rw[RY ⋯];exact IU (PR (Lf ⟨_,rfl,h⟩))
section
variable{X:Cx}
noncomputable def Ar(K:IT):R2:=λx y H Q=>∃l k a,x = .ref l/\y = .int k/\hB K H l a/\ -(2 ^ 62)<=k/\k<2 ^ 62/\a.length*k.toNat<=gv/\(a=[]\/k=1->Q (.ref l) H)/\
 ∀p,H p=none->Q (.ref p) (upd H p<|.tup (La k.toNat a).flatten)
theorem su:iU X (xg .Mult) (Ar X.K):=by
 intro E s σ H x y v u Q I Z ry h;obtain⟨l,k,J,rfl,rfl,R,h1,h2,C,Y,G⟩:=h;cases Z;obtain⟨t,rfl⟩:=ry;obtain⟨a,r,S,z1⟩:=I.tuple R;obtain⟨⟨P,b,p,d⟩,O,z,n,A⟩:=id S;simp only at z A;subst z A;have L:=r.length;have g1 : ¬(decide (k < -(2 ^ 63)) || decide (k>=2 ^ 63))=dt:=by simp;omega
 refine wpAny_binaryOp_repeat_ref (T:="tuple") (U:="int") ⋯ ⟨_,O,rfl⟩ (λs'=>typeIs_int s' k t) ZP F.fills_int_mul F.slot_int_rmul Yd F.slot_int_index.lookup
  (OC F.slot_int_rmul (typeIs_int s k t) F.entry_int_rmul (F.args_int_rmul_2 _ _) (QL k t l a.toArray n b d) ⟨O,rfl,⟨_,O,rfl⟩,?_⟩)
 have w : ∀m:Nat,List.foldl (λx1 j=>x1++j) #[] (La m a.toArray)=(La m a).flatten.toArray:=λm=>by have:=YK a m [];rw[Pq]at this;exact this
 by_cases g2:(a.toArray.isEmpty || k==1)=dt
 ·refine OC OI ⟨_,O,rfl⟩ Rv (Rn _ _) (J8 k t l a.toArray n b d g1 g2) ⟨O,⟨.ref l,H,I,rfl,Y ?_⟩⟩
  rw[MJ]at g2;rcases g2 with g | g
  ·left
   have:a=[]:=by simpa using g
   exact(r.M4).mp this
  ·right;simpa using g
 ·have f:=g2
  simp only[MJ,not_or]at f;have M:a ≠ []:=by intro e;exact f.1 (by rw[e];rfl)
  have ax:0<a.length:=List.length_pos_iff.mpr M;by_cases g3:(decide (k<=0) || a.toArray.isEmpty)=dt
  ·have B:k.toNat=0:=by
    rw[MJ]at g3;rcases g3 with g | g
    ·have:=of_decide_eq_true g;omega
    ·exact absurd g f.1
   refine OC OI ⟨_,O,rfl⟩ Rv (Rn _ _) (J9 k t l a.toArray n b d g1 g2 g3) ⟨O,?_⟩;refine⟨.ref s.heap.objs.size,_,I.laid (t':=s.toks) (o:= .tup (La k.toNat J).flatten) (λc W q=>IW _ q) (Le _) ?_,rfl,G _<|I.gB.fresh<|Le _⟩;rw[B];exact⟨Ms _,[],.nil,wx.new _ _⟩
  ·have B : ¬k<=0:=by intro g;exact g3 (by rw[MJ];exact .inl<|decide_eq_true g)
   have i:a.length*k.toNat<=gv:=by rw[<- L];exact C
   have b0:((a.toArray.size:Nat):Int)*k<=(gv:Int):=by
    rw[Li];have e:((a.length*k.toNat:Nat):Int)=(a.length:Int)*k:=by rw[OQ,NW ⋯]
    omega
   have b5:gv=16777216:=Rh;have N:(List.foldl (λx1 j=>x1++j) #[] (La k.toNat a.toArray)).size<=gv:=by rw[w,Li,fi,Nw];exact i
   refine OC OI ⟨_,O,rfl⟩ Rv (Rn _ _) (XC k t l a.toArray n b d g1 g2 g3 ⋯ (by unfold Builtin.Tuple.tupleTooMany;simp only[decide_eq_true_eq];omega) N) ⟨O,?_⟩;rw[w];refine⟨.ref s.heap.objs.size,_,I.laid (t':=s.toks) (o:= .tup (La k.toNat J).flatten) (λc W q=>IW _ q) (Le _) ?_,rfl,G _<|I.gB.fresh<|Le _⟩;exact⟨by rw[fi,Nw];exact C,_,r.rep k.toNat,wx.new _ _⟩
theorem pX{K:IT}:m7 K (λx y H Q=>rI DN (λi j=> .int (i*j)) x y H Q\/Ar K x y H Q) kG:=λk H x y m n d Q s O U I q=>by
 cases m<;>cases n<;>simp[kG]at I
 ·obtain⟨o,g⟩:=I
  subst g;exact .inl ⟨_,_,jN O,jN U,nt o,q _ H k (Ext.refl s) rfl⟩
 ·rename_i f j
  obtain⟨⟨t,r⟩,rfl⟩:=I;obtain⟨a,z,rfl,h,b⟩:=w9 O;obtain⟨u,w⟩:=Ke r;refine .inr ⟨a,j,z,rfl,jN U,o9 s h,u,w,va (by rw[b.length];exact t),λe=>?_,λp l=>?_⟩
  ·refine q _ H k (Ext.refl s) ?_
   rcases e with e | e
   ·have g:f=[]:=by
     have:=b.length;rw[e]at this;exact LU this.symm
    subst g;rw[show(La j.toNat ([]:List D)).flatten=[]by simp];exact kx h b
   ·subst e
    rw[show(La (1:Int).toNat f).flatten=f by simp];exact kx h b
  ·exact q _ _ _ (Ext.alloc s l _)<|kx (hB.of zU)<|(Wp b _).mono (ju (j3 s l) _)
theorem xn(C:PV X a fa)(I:PV X b fb):PV X (.BinOp a .Mult b pos) (zH kG fa fb):=QW (Uk.or su) pX C I
end
end DL
namespace DL
open PySem PySem.Spec PyProof.Rows L2
theorem RC.S6{K:IT}{C H:Hp}{Y:St}{γ:Ctx}{i:Nat}{ds:List D}{a:eg}{xs:List V}(r:RC K C H Y γ)(e:γ[i]? = bQ (.own ds))(L:Y[i]? = bQ (bQ (.ref a)))(J:C a=none)(Z:H a=bQ (.lst xs))(h4:ej K C ds xs):RC K (L2.upd C a<|.lst xs) H Y (γ.set i<|.val<|.lst ds):=by
 refine⟨λb o q=>?_,by simp[r.len],λj d g=>?_,λj m g=>?_,λj k b m fs f h u w=>?_,⟨λj l g=>?_,λj k y A f h=>?_⟩⟩
 ·by_cases z:b=a
  ·subst z;rw[zU]at q;rw[Z];exact q
  ·rw[zS z]at q;exact r.sub b o q
 ·rcases zG g with⟨rfl,z,F⟩ | ⟨O,z⟩
  ·cases z;exact⟨_,L,vK (gm.of zU)<|h4.mono<|ju J _⟩
  ·obtain⟨v,U,g2⟩:=r.val j d z
   exact⟨v,U,g2.mono<|ju J _⟩
 ·rcases zG g with⟨_,z,_⟩ | ⟨O,z⟩
  ·cases z
  ·obtain⟨b,B,U,g2,g3,x⟩:=r.own j m z
   refine⟨b,B,U,?_,g3,x.mono<|ju J _⟩;rw[zS (λq=>O<|r.ne j i a m ds z e (by rw[U,q]) L)];exact g2
 ·rcases zG f with⟨_,z,_⟩ | ⟨O,I⟩
  ·cases z
  ·rcases zG h with⟨_,z,_⟩ | ⟨E,p⟩
   ·cases z
   ·exact r.ne j k b m fs I p u w
 ·rcases zG g with⟨_,z,_⟩ | ⟨O,z⟩
  ·cases z
  ·obtain⟨b,bs,f1,f2,s⟩:=r.m1.1 j l z
   have t:=s i ds a e L;refine⟨b,bs,f1,f2.move (ju J _) (λc n=>by rw[zS (λq=>t<|by rw[<- q];exact n)];exact(f2.at n).1)<|λc n=>rfl,λk fs c f h=>?_⟩;rcases zG f with⟨_,z,_⟩ | ⟨_,I⟩
   ·cases z
   ·exact s k fs c I h
 ·rcases zG f with⟨_,z,_⟩ | ⟨_,I⟩
  ·cases z
  ·rcases zG h with⟨_,z,_⟩ | ⟨_,p⟩
   ·cases z
   ·exact r.m1.2 j k y A I p
theorem RC.lend{K:IT}{J H:Hp}{L:St}{γ:Ctx}{i:Nat}{ds:List D}(r:RC K J H L γ)(e:γ[i]? = bQ (.own ds)) : ∃C,f9 J C/\RC K C H L (γ.set i<|.val<|.lst ds):=by obtain⟨a,f,d,b,I,O⟩:=r.own i ds e;exact⟨_,ju b _,r.S6 e d b I O⟩
theorem mU{J H C I L:Hp}(s:f9 J C)(x:Ext C H I L):Ext J H J L:=⟨f9.refl _,x.s1,s.trans<|x.s0.trans x.sub,λ_ h _=>h⟩
section
variable{X:Cx}{e:eu}{pos:g8}
theorem rO(i:Nat){f:CO Bool}(h:ml X e f):ml X e (rH i f):=aQ h λo H Q O=>by obtain⟨g,n,b,rc,I,q⟩:=O;obtain⟨m,j,I⟩:=zg I;obtain⟨a,k,U⟩:=rc.lend<|xY j;exact⟨a,_,b,U,I,λd l x=>q d g<|mU k x⟩
end
end DL
namespace L2
open PySem PySem.Spec PyProof.Rows
open AutoSeq1 (wpAny_loadPart')
theorem Yy(hz:IsEnum s.heap z it n old)(h:Q (.ref z) s):wpAny (eY prog w) A (M9 (.ref z)) Q E s:=by have I:s.TypeIs (.ref z) "enumerate":=⟨_,hz,rfl⟩;refine wpAny_pyIter_slot I F.slot_enumerate_iter (ML F.slot_enumerate_iter I F.entry_enumerate_iter ?_ (F.args_enumerate_iter_1 _));have O:wpAny (eY prog w) A.in1 (ret (.ref z)) (λO a=>∃v,O = .done (.ret v)/\∃T m,a.TypeIs v T/\Sz (.type T) "__next__" = pure (bQ m)/\Q v a) E s:=Lf ⟨_,rfl,"enumerate",_,I,F.slot_enumerate_next.lookup,h⟩;exact O
end L2
namespace DL
open PySem PySem.Spec PyProof.Rows L2
theorem YA{K:IT}{H:Hp} : ∀{ds:List D} {xs:List V} {l:List Int},ej K H ds xs->Kd ds=bQ l->xs=l.map V.int
 | [],xs,l,r,e=>by cases e;rw[show xs=[]from r];rfl
 | d::ds,xs,l,r,e=>by
  obtain⟨x,g,rfl,I,b⟩:=(show ∃x r,xs=x::r/\Rep K H d x/\ej K H ds r from r);cases d with
  | int i=>
   obtain⟨f,a,rfl⟩:=zJ (show(Kd ds).map (λl=>i::l)=bQ l from e);rw[YA b a,show x = .int i from I];rfl
  | _=>cases e
theorem YL : ∀l:List Int,(l.map V.int).all Kh=dt
 | []=>rfl
 | i::l=>by simp only[Mc,List.all_cons,YL l,Bool.and_true];rfl
theorem fC(i:Int) : ∀l:List Int,L9 (.int i) (l.map V.int)=decide (i∈l)
 | []=>rfl
 | j::l=>by
  have I:=fC i l;unfold L9 at I ⊢;rw[Mc,List.any_cons,I];have e:C2 (.int j) (.int i)=(j==i):=rfl;rw[e];by_cases h:i=j
  ·subst h
   rw[beq_self_eq_true,Bool.true_or];exact(decide_eq_true Lp).symm
  ·rw[beq_false_of_ne (LC h),Pj]
   exact decide_eq_decide.mpr ⟨λq=>Lj _ q,λq=>(Lo.mp q).resolve_left h⟩
section
variable{X:Cx}{sc:g9}{N L:List Str}{k:Nat}{a b c:eu}{pos p:g8}{f fa fb fc:CO D}
theorem Ws(ho:iU X (o4 op) r)(C:iU X (o4 F9) r')(s1:m7 X.K r F)(s2:m7 X.K r' G)(Y:PV X a fa)(Z:PV X b fb)(hc:PV X c fc)
 (hm:R9 [op,F9] [b,c]=ed:=by with_unfolding_all rfl):PV X (.Compare a [op,F9] [b,c] pos) (kK F G fa fb fc):=
 qC (lP ho C Y Z hc hm) λσ H Q N=>by
  obtain⟨l,e,d,rc,I,q⟩:=N;obtain⟨x,A,I⟩:=zg I;obtain⟨y,B,I⟩:=zg I;obtain⟨k,E,I⟩:=zg I;obtain⟨g,J,h⟩:=zg E;refine⟨l,e,x,rc,A,λW H1 s x1 P=>⟨s,e,y,rc.ext x1,B,λj m t O i=>s1 t m W j x y g _ O.sub (P.mono O.s0) i J λv3 n f x3 R=>?_⟩⟩;cases g with
  | bl k'=>
   cases h;refine⟨k,show v3 = .bl k from R,?_⟩;cases k with
   | true=>
    rw[RY rfl];rw[RY rfl]at I;obtain⟨z,L,M⟩:=zg I;exact⟨f,e,z,((rc.ext x1).ext O).ext x3,L,λv4 o u U S=>s2 u o j v4 y z d _ U.sub ((i.mono x3.s0).mono U.s0) S M λv5 p w x5 T=>q v5 p w (((x1.trans O).trans x3).trans (U.trans x5)) T⟩
   | false=>
    rw[EQ ⋯];rw[EQ ⋯]at I;cases I;exact q _ n f ((x1.trans O).trans x3) rfl
  | _=>cases h
theorem AE(C:PV X a fa){g:CO (Sk×List D)}(J:PQ X b g)(Y:DR .In b=ed:=by with_unfolding_all rfl):PV X (.Compare a [.In] [b] pos) (EX fa g):=
 qC (dP dY C J Y) λM H Q z=>by
  obtain⟨k,j,d,rc,I,q⟩:=z;obtain⟨x,s,I⟩:=zg I;obtain⟨⟨h,o⟩,t,I⟩:=zg I;obtain⟨i,u,I⟩:=zg I;obtain⟨l,w,rfl⟩:=zJ I;refine⟨k,j,x,rc,s,λU E m x1 O=>⟨m,j,h,o,rc.ext x1,t,λp G e n B f F r=>?_⟩⟩;rw[qF u]at O;have y:=YA r w;subst y;have A:gm X.K e p (l.map V.int)\/hB X.K e p (l.map V.int):=by
   cases h with
   | L=>exact .inl f
   | T=>exact .inr f
  refine⟨p,_,rfl,A,by rw[show U = .int i from O];rfl,YL l,?_⟩;rw[show U = .int i from O,fC];exact q _ e n (x1.trans B) rfl
end
theorem v9 : ∀{l:List Int} {C:List eh},fm (l.map V.int) C->∀i,i<C.toArray.size->∃z u,C.toArray[i]? = bQ (.int z u)/\l[i]? = bQ z
 | [],C,r,i,hi=>by cases r;exact absurd hi<|LH _
 | z::l,u::C,.cons r t,i,hi=>by
  cases i with
  | zero=>
   obtain⟨I,rfl⟩:=r;exact⟨z,I,by simp,by simp⟩
  | succ i=>
   obtain⟨O,U,a,b⟩:=v9 t i (by simpa using hi);exact⟨O,U,by simpa using a,by simpa using b⟩
theorem wN(h:wO o=bQ rows):o=bQ (.nest rows):=by
 cases o with
 | none=>cases h
 | some c=>cases c<;>first | cases h;rfl | cases h
noncomputable def tN(K:IT)(f:CO (List<|List D)):TE:=λj H Q=>∃h i d,RC K h H j i/\f i=bQ d/\
 ∀a bs g e,Ext h H e g->(∀b∈a::bs,H b=none)->s9 K e g d a bs->Q (.ref a) g
noncomputable def t7(K:IT)(I H:Hp)(C:List (List D))(bs:List eg):Prop:=bs.length=C.length/\∀(k:Nat) b row,bs[k]? = bQ b->C[k]? = bQ row->I b=none/\∃a,H b=bQ (.lst a)/\ej K I row a
theorem t7.at{K:IT}{J H:Hp}{C:List (List D)}{bs:List eg}(n:t7 K J H C bs){b:eg}(U:b∈bs):J b=none/\∃xs,H b=bQ (.lst xs):=by obtain⟨k,I⟩:=PF U;have O:=(Lh.mp I).1;rw[n.1]at O;obtain⟨a,xs,d,_⟩:=n.2 k b _ I<|IX O;exact⟨a,xs,d⟩
theorem t7.ext{K:IT}{Y H J L:Hp}{C:List (List D)}{bs:List eg}(n:t7 K Y H C bs)(e:Ext Y H J L):t7 K J L C bs:=
 ⟨n.1,λk b row a d=>by obtain⟨I,f,g2,O⟩:=n.2 k b row a d;exact⟨e.new b I (by rw[g2];simp),f,e.s1 _ _ g2,O.mono e.s0⟩⟩
theorem t7.add{K:IT}{J H:Hp}{C:List (List D)}{bs:List eg}{b:eg}{row:List D}{xs:List V}(n:t7 K J H C bs)(L:J b=none)(Y:H b=bQ (.lst xs))(O:ej K J row xs):t7 K J H (C++[row]) (bs++[b]):=
 ⟨by simp[n.1],λk c r a d=>by
  rcases Lu k bs.length with z | z
  ·rw[Mm z]at a
   rw[Mm (by rw[<- n.1];exact z)]at d;exact n.2 k c r a d
  ·rw[Mf z]at a
   rw[Mf (by rw[<- n.1];exact z)]at d;have I:k - bs.length=0:=by have:=(Lh.mp a).1;simp at this;omega
   rw[I]at a;rw[<- n.1,I]at d;cases a;cases d;exact⟨L,xs,Y,O⟩⟩
theorem t7.hide{K:IT}{J H:Hp}{C:List (List D)}{bs:List eg}{I:eg}{o:HO}(n:t7 K J H C bs)(h:I∉bs):t7 K J (upd H I o) C bs:=
 ⟨n.1,λk b row a d=>by obtain⟨O,e,g2,U⟩:=n.2 k b row a d;exact⟨O,e,by rw[zS (λq=>h<|by rw[<- q];exact LJ a)];exact g2,U⟩⟩
section
variable{K:IT}{own:List Str}{fr:List (Str×Nat)}{src:CO (List D)}{T:Tg}{f:CO (List D)}
theorem Xo(hT : ∀i∈T.idx,i<own.length){tt:TT}(c0 : ∀C H Q,tT K jj C H Q->tt C H Q) : ∀C H Q,tN K (QT src T own.length (fr.map (·.2)) f) C H Q->cK (Su K src) own fr (p6 K T) tt (tO K f) C H Q:=λC H Q hZ=>by
 obtain⟨H0,u,l,rc,s,q⟩:=hZ;obtain⟨I,e1,s⟩:=zg s;by_cases hl:I.length<=lim
 ·rw[RY hl]at s
  refine⟨H0,u,I,rc,e1,λJ A Z x1 wk D P=>?_⟩;have an : ∀(i:Nat) E,(z6 own.length (fr.map (·.2)) u)[i]? ≠ bQ (.own E):=λi E h=>by rcases qW h with z | ⟨d',j,z,_⟩<;>cases z
  have ap : ∀(i:Nat) E,(z6 own.length (fr.map (·.2)) u)[i]? ≠ bQ (.nest E):=λi E h=>by rcases qW h with z | ⟨d',j,z,_⟩<;>cases z
  have b7:Z D=none:=j3 x1.sub P;have b8 : ∀c,A c=none->H c=none:=λc R=>by
   cases z:H c with
   | none=>rfl
   | some o=>rw[x1.s1 c o z]at R;cases R
  refine⟨λi m Y G g=>m=I.length - i/\i<=I.length/\Y.length<=i/\g D=bQ (.lst Y)/\∃a bs W r2,Y=bs.map V.ref/\RC K a g G (z6 own.length (fr.map (·.2)) u)/\a D=none/\Ext Z A a g/\t7 K a g W bs/\(D::bs).Nodup/\(∀b∈bs,A b=none)/\yC T f (z6 own.length (fr.map (·.2)) u) (I.drop i)=bQ r2/\l=W++r2,
   ⟨_,rfl,Ms _,Le _,zU,Z,[],[],l,rfl,((rc.ext x1).pull).upd b7 an ap,b7,Ext.hide x1.sub P _,⟨rfl,λk b row h=>by simp at h⟩,by simp,λb hb=>by simp at hb,s,rfl⟩,?_⟩
  rintro i m Y G g ⟨rfl,hi,hy,M,a,bs,W,r2,c2,as,b9,t,N,nd,bb,O,rfl⟩;subst c2;refine⟨M,?_⟩;by_cases B:i<I.length
  ·refine .inr ⟨wk.go i g t.s1 B,?_,λx ax y=>?_⟩
   ·have:=va<|Le lim;omega
   obtain⟨d,hd,hx⟩:=wk.Be i g x ax t.s1 B y;obtain⟨G0,U,rg⟩:=hx a t.s0 as.sub;have c4:I.drop i=d::I.drop (i+1):=by
    have c5:d=I[i]:=by rw[IX B]at hd;exact(LR hd).symm
    rw[c5];exact Np B
   rw[c4]at O;simp only[yC]at O;obtain⟨p,eb,O⟩:=zg O;obtain⟨e,ee,O⟩:=zg O;obtain⟨kn,er,O⟩:=zJ O;have c8:G0 D=none:=U.new D b9 (by rw[M];simp);have bd:ax D=bQ (.lst<|bs.map V.ref):=U.s1 _ _ M;obtain⟨bl,bg⟩:=YV eb;have c9 : ∀{L:St} {G2 H2:Hp},RC K G2 H2 L p->RC K G2 H2 L (z6 own.length (fr.map (·.2)) u):=λr=>r.weak bl.symm (λj d' hj=>by
    by_cases S:j∈T.idx
    ·rcases qW hj with z | ⟨d2,j2,_,hn,_⟩
     ·cases z
     ·exact absurd (hT j S) ⋯
    ·rw[bg j S];exact hj) an ap
   refine wQ U.sub rg eb λO4 bi _=>c0 O4 ax _ ⟨G0,p,dt,bi<|as.ext U,rfl,λH3 bm x3=>?_⟩;have bn:=(bi<|as.ext U).ext x3;have xa:=t.trans<|U.trans x3;have cc:bm D=none:=x3.new D c8 (by rw[bd];simp);have b0:H3 D=bQ (.lst<|bs.map V.ref):=x3.s1 _ _ bd;dsimp only;rw[RY rfl];refine⟨bm,p,e,bn,ee,λn cw H4 bt F g1 g2 g3 g4=>?_⟩;have b5:bt D=none:=F.new D cc (by rw[b0];simp);have ci:H4 D=bQ (.lst<|bs.map V.ref):=F.s1 _ _ b0;have X:=xa.trans F;have cj:=((N.ext U).ext x3).ext F;have cl:=(N.ext U).ext x3;have bu:D∉bs:=(MI.mp nd).1;have bv:D≠n:=λz=>by rw[<- z,b0]at g1;cases g1
   have cm:n∉bs:=λS=>by obtain⟨_,cx,z⟩:=cl.at S;rw[g1]at z;cases z
   have co:A n=none:=by
    cases z:A n with
    | none=>rfl
    | some o=>rw[xa.s1 _ _ z]at g1;cases g1
   refine⟨ci,I.length - (i+1),by omega,rfl,B,by rw[Md,MX];omega,zU,bt,bs++[n],W++[e],kn,by simp,(c9<|bn.ext F).upd b5 an ap,b5,?_,?_,?_,?_,er,?_⟩
   ·exact⟨X.s0,λc o z=>by rw[zS (λw=>by rw[w,P]at z;cases z)];exact X.s1 c o z,λc o z=>by rw[zS (λw=>by rw[w,b5]at z;cases z)];exact X.sub c o z,X.new⟩
   ·exact(cj.add g2 g3 g4).hide (by simp[bu,bv])
   ·refine MI.mpr ⟨by simp[bu,bv],List.nodup_append.mpr ⟨(MI.mp nd).2,by simp,λc R c' cr=>?_⟩⟩
    have:c'=n:=by simpa using cr
    subst this;exact λz=>cm (by rw[<- z];exact R)
   ·intro b hb
    rcases Ob.mp hb with z | z
    ·exact bb b z
    ·have:b=n:=by simpa using z
     subst this;exact co
   ·rw[<- O];simp
  ·have e:i=I.length:=by omega
   subst e;rw[OB]at O;cases O;rw[Nu]at q;refine .inl ⟨wk.stop g t.s1,q D bs g a (x1.trans t) (λb hb=>?_) ⟨b9,M,nd,N.1,N.2⟩⟩;rcases Lo.mp hb with rfl | hb
   ·exact b8 _ P
   ·exact b8 b<|bb b hb
 ·rw[EQ hl]at s;cases s
end
section
variable{K:IT}{E0 E H0 H:Hp}{σ:St}{γ:Ctx}
theorem Jj(h:γ.any Xh=ed)(i:Nat)(C:List (List D)):γ[i]? ≠ bQ (.nest C):=λe=>by have a:Cell.nest C∈γ:=LJ e;have:=Rg.mp h _ a;exact this rfl
theorem RS.Uq(r:RS K E0 E G0 G σ γ)(e:Ext G0 G H0 H)(J : ∀b∈a::bs,G b=none)(n:s9 K H0 H rows a bs)(C:γ.any Xh=ed) :
 RS K E0 E H0 H (σ.set i<|some (.ref a)) (γ.set i<|.nest rows):=by
 have rc:=r.rc.ext e;have y : ∀b∈a::bs,E b=none:=λb p=>by
  cases q:E b with
  | none=>rfl
  | some o=>have:=J b p;rw[r.ext.s1 b o q]at this;cases this
 refine⟨⟨rc.sub,by simp[rc.len],λj B g=>?_,λj d g=>?_,λj k b d fs m h w x=>?_,⟨λj l g=>?_,λj k M N I g2=>?_⟩⟩,r.ext.trans e,λj d b I g2=>?_,λj l b R I g2 O=>?_⟩
 ·rcases zG g with⟨_,z,_⟩ | ⟨U,z⟩
  ·cases z
  ·obtain⟨P,I,g2⟩:=rc.val j B z
   exact⟨P,by rw[Lb (LC U)];exact I,g2⟩
 ·rcases zG g with⟨_,z,_⟩ | ⟨U,z⟩
  ·cases z
  ·obtain⟨b,A,I,g2⟩:=rc.own j d z
   exact⟨b,A,by rw[Lb (LC U)];exact I,g2⟩
 ·rcases zG m with⟨_,z,_⟩ | ⟨U,f⟩
  ·cases z
  ·rcases zG h with⟨_,z,_⟩ | ⟨s,u⟩
   ·cases z
   ·rw[Lb (LC U)]at w
    rw[Lb (LC s)]at x;exact rc.ne j k b d fs f u w x
 ·rcases zG g with⟨rfl,z,t⟩ | ⟨U,z⟩
  ·cases z
   refine⟨a,bs,Lr (by rw[rc.len];exact t),n,λk d c m h=>?_⟩;rcases zG m with⟨_,z,_⟩ | ⟨s,f⟩
   ·cases z
   ·rw[Lb (LC s)]at h
    obtain⟨Q,A,I,g2,O,_⟩:=r.rc.own k d f;rw[h]at I;cases I;intro L;rw[J c L]at O;cases O
  ·exact absurd z<|Jj C j l
 ·rcases zG I with⟨rfl,_,_⟩ | ⟨_,f⟩
  ·rcases zG g2 with⟨rfl,_,_⟩ | ⟨_,u⟩
   ·rfl
   ·exact absurd u<|Jj C k N
  ·exact absurd f<|Jj C j M
 ·rcases zG I with⟨_,z,_⟩ | ⟨U,z⟩
  ·cases z
  ·rw[Lb (LC U)]at g2;exact r.fresh j d b z g2
 ·rcases zG I with⟨rfl,z,t⟩ | ⟨U,z⟩
  ·rw[Lr (by rw[rc.len];exact t)]at g2;cases g2
   rw[n.ha]at O;injection O with O;injection O with O;subst O;refine⟨y a Lp,λb p=>?_⟩;obtain⟨c,F,q⟩:=LK.mp p;cases q;exact y b<|Lj _ F
  ·exact absurd z<|Jj C j l
theorem RS.forget(r:RS K E0 E H0 H σ γ):RS K E0 E H0 H (σ.set i v) (γ.set i .no):=by
 have h : ∀{j:Nat} {e:List D} {b:eg},(γ.set i .no)[j]? = bQ (.own e)->γ[j]? = bQ (.own e)/\(σ.set i v)[j]? = σ[j]? :=λ{j e b} g=>by
  rcases zG g with⟨_,z,_⟩ | ⟨f,z⟩
  ·cases z
  ·exact⟨z,Lb<|LC f⟩
 have m : ∀{j:Nat} {d:List (List D)},(γ.set i .no)[j]? = bQ (.nest d)->γ[j]? = bQ (.nest d)/\(σ.set i v)[j]? = σ[j]? :=λ{j d} g=>by
  rcases zG g with⟨_,z,_⟩ | ⟨f,z⟩
  ·cases z
  ·exact⟨z,Lb<|LC f⟩
 refine⟨⟨r.rc.sub,by simp[r.rc.len],λj u g=>?_,λj e g=>?_,λj k b e fs n l s t=>?_,⟨λj d g=>?_,λj k A B U g2=>r.rc.m1.2 j k A B (m U).1 (m g2).1⟩⟩,r.ext,λj e b U g2=>?_,λj d b F U g2 g3=>?_⟩
 ·rcases zG g with⟨_,z,_⟩ | ⟨f,z⟩
  ·cases z
  ·obtain⟨C,U,g2⟩:=r.rc.val j u z
   exact⟨C,by rw[Lb (LC f)];exact U,g2⟩
 ·obtain⟨I,O⟩:=h (b:=0) g
  rw[O];exact r.rc.own j e I
 ·obtain⟨I,O⟩:=h (b:=0) n
  obtain⟨o,p⟩:=h (b:=0) l;rw[O]at s;rw[p]at t;exact r.rc.ne j k b e fs I o s t
 ·obtain⟨I,O⟩:=m g
  obtain⟨a,bs,w,x,y⟩:=r.rc.m1.1 j d I;refine⟨a,bs,by rw[O];exact w,x,λk e c n l=>?_⟩;obtain⟨o,p⟩:=h (b:=0) n;rw[p]at l;exact y k e c o l
 ·obtain⟨I,O⟩:=h (b:=0) U
  rw[O]at g2;exact r.fresh j e b I g2
 ·obtain⟨I,O⟩:=m U
  rw[O]at g2;exact r.u6 j d b F I g2 g3
theorem Yq : ∀{l:List eg} {m t:Nat} {b:eg},l.Nodup->l[m]? = bQ b->l[t]? = bQ b->m=t
 | [],m,t,b,_,h,_=>by simp at h
 | c::l,m,t,b,nd,h1,h2=>by
  obtain⟨d,e⟩:=MI.mp nd;cases m with
  | zero=>
   cases t with
   | zero=>rfl
   | succ t=>
    have e1:c=b:=by simpa using h1
    have a:l[t]? = bQ b:=by simpa using h2
    exact absurd (LJ a)<|e1 ▸ d
  | succ m=>
   cases t with
   | zero=>
    have e1:c=b:=by simpa using h2
    have a:l[m]? = bQ b:=by simpa using h1
    exact absurd (LJ a)<|e1 ▸ d
   | succ t=>exact congrArg (· + 1) (Yq (b:=b) e (by simpa using h1)<|by simpa using h2)
theorem RC.row{j i t:Nat}{R:List (List D)}{a b:eg}{bs:List eg}{row:List D}(r:RC K H0 H σ γ)(J:γ[j]? = bQ (.nest R))(hs:σ[j]? = bQ (bQ (.ref a)))(L:s9 K H0 H R a bs)
 (a3 : ∀(k:Nat) ds c,γ[k]? = bQ (.own ds)->σ[k]? = bQ (bQ (.ref c))->c∉a::bs) (C:bs[t]? = bQ b) (Y:R[t]? = bQ row) (hi:i<γ.length) :
 RC K H0 H (σ.set i<|some (.ref b)) ((γ.set j .no).set i (.own row)):=by
 obtain⟨u,y,b1,b2⟩:=L.row t b row C Y;have o:b∈a::bs:=Lj _<|LJ C;have e : ∀{k:Nat} {c:Cell},c ≠ .no->(γ.set j .no)[k]? = bQ c->γ[k]? = bQ c/\k≠j:=λ{k c} x g=>by
  rcases zG g with⟨_,z,_⟩ | ⟨O,z⟩
  ·exact absurd z x
  ·exact⟨z,O⟩
 refine⟨r.sub,by simp[r.len],λk d g=>?_,λk ds g=>?_,λk m c ds s w p f h=>?_,n7.DH λk l g=>?_⟩
 ·rcases zG g with⟨_,z,_⟩ | ⟨O,z⟩
  ·cases z
  ·obtain⟨I,_⟩:=e ⋯ z
   rw[Lb (LC O)];exact r.val k d I
 ·rcases zG g with⟨rfl,z,A⟩ | ⟨O,z⟩
  ·cases z
   exact⟨b,y,Lr (by rw[r.len];exact hi),u,b1,b2⟩
  ·obtain⟨I,_⟩:=e ⋯ z
   rw[Lb (LC O)];exact r.own k ds I
 ·rcases zG w with⟨rfl,_,_⟩ | ⟨O,I⟩
  ·rcases zG p with⟨rfl,_,_⟩ | ⟨n,U⟩
   ·rfl
   ·obtain⟨U,_⟩:=e ⋯ U
    rw[Lr (by rw[r.len];exact hi)]at f;rw[Lb (LC n)]at h;cases f;exact absurd o<|a3 m s b U h
  ·obtain⟨I,_⟩:=e ⋯ I
   rcases zG p with⟨rfl,_,_⟩ | ⟨n,U⟩
   ·rw[Lr (by rw[r.len];exact hi)]at h
    rw[Lb (LC O)]at f;cases h;exact absurd o<|a3 k ds b I f
   ·obtain⟨U,_⟩:=e ⋯ U
    rw[Lb (LC O)]at f;rw[Lb (LC n)]at h;exact r.ne k m c ds s I U f h
 ·rcases zG g with⟨_,z,_⟩ | ⟨O,z⟩
  ·cases z
  ·obtain⟨I,U⟩:=e ⋯ z
   exact U<|r.m1.2 k j l R I J
theorem RS.Ue(r:RS K E0 E H0 H σ γ)(O:γ[j]? = bQ (.nest R))(hs:σ[j]? = bQ (bQ (.ref a)))(C:s9 K H0 H R a bs)
 (L : ∀(k:Nat) ds c,γ[k]? = bQ (.own ds)->σ[k]? = bQ (bQ (.ref c))->c∉a::bs) (J:bs[t]? = bQ b) (Y:ej K H0 row' ys) :
 RS K E0 E H0 (upd H b<|.lst ys) σ (γ.set j<|.nest<|R.set t row'):=by
 have A:j<γ.length:=(Lh.mp O).1;have i:b∈bs:=LJ J;have x:b≠a:=λq=>(MI.mp C.nd).1 (by rw[<- q];exact i);obtain⟨s,_⟩:=C.at<|Lj a i;obtain⟨P,y⟩:=r.u6 j R a _ O hs C.ha;have Q:E b=none:=y b<|LK.mpr ⟨b,i,rfl⟩;have U : ∀{k:Nat} {c:Cell},(∀e,c ≠ .nest e)->(γ.set j<|.nest<|R.set t row')[k]? = bQ c->γ[k]? = bQ c:=λ{k c} hc g=>by
  rcases zG g with⟨_,z,_⟩ | ⟨l,z⟩
  ·exact absurd z<|hc _
  ·exact z
 refine⟨⟨λc o q=>?_,by simp[r.rc.len],λk d g=>r.rc.val k d<|U ⋯ g,λk ds g=>?_,λk m c ds S F G M N=>r.rc.ne k m c ds S (U ⋯ F) (U ⋯ G) M N,⟨λk e g=>?_,λk m X Z I g2=>?_⟩⟩,⟨r.ext.s0,λc o q=>?_,λc o q=>?_,r.ext.new⟩,λk ds c I g2=>r.fresh k ds c (U ⋯ I) g2,λk e c p I g2 g3=>?_⟩
 ·rw[zS (λz=>by rw[z,s]at q;cases q)];exact r.rc.sub c o q
 ·have z:=U ⋯ g
  obtain⟨c,p,f,h,u,T⟩:=r.rc.own k ds z;refine⟨c,p,f,h,?_,T⟩;rw[zS (λq=>L k ds c z f<|by rw[q];exact Lj _ i)];exact u
 ·have l:k=j:=by
   rcases zG g with⟨z,_,_⟩ | ⟨_,z⟩
   ·exact z
   ·exact r.rc.m1.2 k j e R z O
  subst l;rw[Lr A]at g;cases g;refine⟨a,bs,hs,⟨C.a0,by rw[zS (LC x)];exact C.ha,C.nd,by simp[C.len],λm c row hc n=>?_⟩,λm ds c I g2=>L m ds c (U ⋯ I) g2⟩;by_cases w:m=t
  ·subst w
   rw[J]at hc;cases hc;have:m<R.length:=by rw[<- C.len];exact(Lh.mp J).1
   rw[Lr this]at n;cases n;exact⟨s,ys,zU,Y⟩
  ·rw[Lb (LC w)]at n
   obtain⟨f,p,h,u⟩:=C.row m c row hc n;have B:c≠b:=λq=>by subst q;have W:=(MI.mp C.nd).2;exact w<|Yq W hc J
   exact⟨f,p,by rw[zS B];exact h,u⟩
 ·have f:k=j:=by
   rcases zG I with⟨z,_,_⟩ | ⟨_,z⟩
   ·exact z
   ·exact r.rc.m1.2 k j X R z O
  have h:m=j:=by
   rcases zG g2 with⟨z,_,_⟩ | ⟨_,z⟩
   ·exact z
   ·exact r.rc.m1.2 m j Z R z O
  rw[f,h]
 ·rw[zS (λz=>by rw[z,Q]at q;cases q)];exact r.ext.s1 c o q
 ·rw[zS (λz=>by rw[z,s]at q;cases q)];exact r.ext.sub c o q
 ·have l:k=j:=by
   rcases zG I with⟨z,_,_⟩ | ⟨_,z⟩
   ·exact z
   ·exact r.rc.m1.2 k j e R z O
  subst l;rw[hs]at g2;cases g2;rw[zS (LC x),C.ha]at g3;injection g3 with g3;injection g3 with g3;subst g3;exact⟨P,y⟩
end
section
variable{K:IT}{E0 E H0 H:Hp}{σ:St}{γ:Ctx}
theorem RS.freeze(r:RS K E0 E H0 H σ γ)(e:γ[i]? = bQ (.own ds)) : ∃C,RS K E0 E C H σ (γ.set i<|.val<|.lst ds):=by
 obtain⟨a,p,f,g,l,m⟩:=r.rc.own i ds e;have h:=r.fresh i ds a e f;obtain⟨C,o,U⟩ : ∃C,C=upd H0 a (.lst p)/\RC K C H σ (γ.set i<|.val<|.lst ds):=by refine⟨_,rfl,?_⟩;exact RC.S6 r.rc e f g l m
 subst o;refine⟨_,U,⟨r.ext.s0.trans<|ju g _,r.ext.s1,U.sub,λc n I=>?_⟩,λj k b O g2=>?_,λj d b s O g2 g3=>?_⟩
 ·rw[zS (λz=>by rw[z,h]at I;exact I rfl)];exact r.ext.new c n I
 ·rcases zG O with⟨_,z,_⟩ | ⟨_,z⟩
  ·cases z
  ·exact r.fresh j k b z g2
 ·rcases zG O with⟨_,z,_⟩ | ⟨_,z⟩
  ·cases z
  ·exact r.u6 j d b s z g2 g3
open Classical in
noncomputable def Zp(H0 H:Hp)(L:List eg):Hp:=λc=>if c∈L then H c else H0 c
theorem yx(h:c∈L):Zp H0 H L c=H c:=by unfold Zp;rw[RY h]
theorem kz(h:c∉L):Zp H0 H L c=H0 c:=by unfold Zp;rw[EQ h]
theorem JC : ∀{C:List (List D)} {bs:List eg},bs.length=C.length->(∀(k:Nat) b row,bs[k]? = bQ b->C[k]? = bQ row->∃xs,G b=bQ (.lst xs)/\ej K G row xs)->ej K G (C.map D.lst) (bs.map V.ref)
 | [],[],_,_=>ej.nil
 | [],_::_,h,_=>by simp at h
 | _::_,[],h,_=>by simp at h
 | row::C,b::bs,h,f=>by obtain⟨xs,I,g2⟩:=f 0 b row rfl rfl;exact ej.cons (vK (gm.of I) g2) (JC (by simpa using h) λk c r a d=>f (k+1) c r (by simpa using a)<|by simpa using d)
theorem RS.T6(r:RS K E0 E H0 H σ γ)(e:γ[i]? = bQ (.nest rows)) : ∃C,RS K E0 E C H σ (γ.set i<|.val<|.lst<|rows.map D.lst):=by
 obtain⟨a,bs,t,l,x⟩:=r.rc.m1.1 i rows e;obtain⟨G,J⟩:=r.u6 i rows a _ e t l.ha;have ef : ∀b∈a::bs,E b=none:=λb hb=>by
  rcases Lo.mp hb with rfl | hb
  ·exact G
  ·exact J b<|LK.mpr ⟨b,hb,rfl⟩
 have n:f9 H0 (Zp H0 H (a::bs)):=λc o q=>by rw[kz (λh=>by rw[(l.at h).1]at q;cases q)];exact q
 have sub:f9 (Zp H0 H (a::bs)) H:=λc o q=>by
  by_cases h:c∈a::bs
  ·rw[yx h]at q;exact q
  ·rw[kz h]at q;exact r.rc.sub c o q
 have N:Rep K (Zp H0 H (a::bs)) (.lst<|rows.map D.lst) (.ref a):=vK (gm.of<|by rw[yx Lp];exact l.ha) (JC l.len λk b row I g2=>by obtain⟨_,P,s,m⟩:=l.row k b row I g2;exact⟨P,by rw[yx (Lj _<|LJ I)];exact s,m.mono n⟩)
 have u : ∀{j:Nat} {O:List (List D)},(γ.set i<|.val<|.lst<|rows.map D.lst)[j]? ≠ bQ (.nest O):=λ{j O} g=>by
  rcases zG g with⟨_,z,_⟩ | ⟨p,z⟩
  ·cases z
  ·exact p<|r.rc.m1.2 j i O rows z e
 have U : ∀{j:Nat} {f:List D},(γ.set i<|.val<|.lst<|rows.map D.lst)[j]? = bQ (.own f)->γ[j]? = bQ (.own f):=λ{j f} g=>by
  rcases zG g with⟨_,z,_⟩ | ⟨p,z⟩
  ·cases z
  ·exact z
 refine⟨_,⟨sub,by simp[r.rc.len],λj d g=>?_,λj f g=>?_,λj k c f L y A B F=>r.rc.ne j k c f L (U y) (U A) B F,n7.DH λj O=>u⟩,⟨r.ext.s0.trans n,r.ext.s1,sub,λc s m=>?_⟩,λj f b I g2=>r.fresh j f b (U I) g2,λj O b w I=>absurd I u⟩
 ·rcases zG g with⟨rfl,z,Q⟩ | ⟨p,z⟩
  ·cases z;exact⟨_,t,N⟩
  ·obtain⟨v,I,g2⟩:=r.rc.val j d z
   exact⟨v,I,g2.mono n⟩
 ·obtain⟨b,w,I,g2,g3,M⟩:=r.rc.own j f (U g)
  exact⟨b,w,I,by rw[kz (x j f b (U g) I)];exact g2,g3,M.mono n⟩
 ·rw[kz (λh=>m<|ef c h)];exact r.ext.new c s m
end
section
variable{X:Cx}{st:iS}{F:CO Fl}
theorem XX(i:Nat)(h:lh X st F):lh X st (iM i F):=kY h λD l H O=>by obtain⟨E0,E,g,k,U,f,I,b⟩:=O;obtain⟨j,e,I⟩:=zg I;obtain⟨a,d⟩:=f.freeze<|xY e;exact⟨E0,E,a,_,U,d,I,b⟩
theorem lA(i:Nat)(h:lh X st F):lh X st (iL i F):=kY h λD l H O=>by obtain⟨E0,E,j,k,U,g,I,d⟩:=O;obtain⟨b,f,I⟩:=zg I;obtain⟨a,e⟩:=g.T6<|wN f;exact⟨E0,E,a,_,U,e,I,d⟩
end
section
variable{X:Cx}{sc:g9}{N L:List Str}{k:Nat}
theorem lr(i:Nat)(h:SX X sc N L k)(c:ym sc N L i y=dt)
 (Z:X.calm=dt) (ok:qq X scope fr) (Y : ∀i∈T.idx,i<own.length) (hi:rb X tg iter src) (hg : ∀fp J C,PG (jx X scope (own++fr.map (·.1)) fp J C) tg<|p6 X.K T)
 (he : ∀fp J C,PO (jx X scope (own++fr.map (·.1)) fp J C) elt f) (hs : ∀x,n6 iter X.env x=pure x:=by intro _;rfl) :
 lh X (.Assign [.Name y py] (.ListComp elt [⟨tg,iter,[],0⟩] scope cpos) spos) (iJ i<|QT src T own.length (fr.map (·.2)) f):=by
 obtain⟨r,s,t⟩:=h.loc c;refine kY (Zi (te:=tO X.K f) h.F4 r s t Z ok hi hg (λ_ _ _=>ZV) he hs) λD m H O=>?_;obtain⟨E0,E,e,j,z,l,I,o⟩:=O;obtain⟨d,p,I⟩:=zg I;by_cases U:j.any Xh=ed
 ·rw[RY U]at I;cases I
  exact Xo Y (λm H Q O=>by obtain⟨e,j,b,rc,I,q⟩:=O;cases I;exact q H e<|Ext.refl rc.sub) m H _ ⟨e,j,d,l.rc,p,λa bs w g x u n=>o _ _ g<|l.Uq x u n U⟩
 ·rw[EQ U]at I;cases I
theorem cZ(I:i≠j)(c:Cell)(r:List D):((((γ.set j c).set i .no).set j .no).set i (.own r))=yV γ j i r:=by
 unfold yV;apply MW;intro m;simp only[Nt,List.length_set];by_cases a:i=m
 ·subst a;simp
 ·by_cases b:j=m
  ·subst b;simp[a]
  ·simp[a,b]
theorem Vr{γ:Ctx}{j i:Nat}(I:i≠j)(c O:Cell):(((γ.set j c).set i .no).set j O)=(γ.set j O).set i .no:=by rw[List.set_comm _ _ (LC I),Pp,List.set_comm _ _ I]
theorem aR(j i:Nat){x y:Str}{bg J bi:g8}{C e:eu}{g f:CO D}{p pos c6:g8}(hp:L4 (eY X.prog X.w) X.A X.env X.xe)(hc:X.calm=dt)(h:SX X sc N L k)(cj:Jk sc N j x=dt)(ci:Jk sc N i y=dt)
 (hg:PG X (.Name y bg) (yP i)) (hi:PV X C g) (he:PV X e f)
 (ha : ∀v,t9 (.Subscript (.Name y J) C p) X.env v=(do
   let ov <- u7 [v] (eA (.Name y J) X.env);let iv <- u7 [v,ov] (eA C X.env)
   D4 p
   u7 [v,ov,iv] (So ov iv v)
   release [v,ov,iv] []):=by intro _;rfl)
 (hs:N3 [.Subscript (.Name y J) C p] e pos.line X.env=pure ed:=by rfl) (hw:Sr [.Subscript (.Name y J) C p] e X.env=pure none:=by rfl)
 (h1:(A5 [.Subscript (.Name y J) C p] X.env).map (·.2)=[t9 (.Subscript (.Name y J) C p) X.env]:=by rfl)
 (hf : ∀z,n6 (.Name x bi) X.env z=pure z:=by intro _;rfl) :
 lh X (.For (.Name y bg) (.Name x bi) [.Assign [.Subscript (.Name y J) C p] e pos] [] c6) (cW j i g f):=
 kY (dA hp hc (dG<|h.var cj) hg (JE<|Wy he (om (h.var ci) hi Wj ha) hs hw h1) hf) λD B H hZ=>by
  obtain⟨E0,E,H0,o,fl,rs,u,bl⟩:=hZ;obtain⟨l,e1,u⟩:=zg u;have e1:=wN e1;by_cases ap:i=j\/o.length<=i
  ·rw[RY ap]at u;cases u
  rw[EQ ap]at u;have F:i≠j:=λz=>ap<|.inl z;have S:i<o.length:=by
   rcases Lu i o.length with z | z
   ·exact z
   ·exact absurd (.inr z) ap
  have bm:j<o.length:=(Lh.mp e1).1;obtain⟨b5,e2,u⟩:=zJ u;subst u;obtain⟨a,bs,g1,hn,dp⟩:=rs.rc.m1.1 j l e1;refine⟨_,g1,a,.L,rfl,⟨_,gm.of hn.ha⟩,?_⟩;refine⟨λt m P H'=>m=l.length - t/\t<=l.length/\∃(r:Hp) (I kn:List (List DL.D)) (U:L2.St),I.length=t/\U[j]? = bQ (bQ (V.ref a))/\(∃v,P=U.set i v)/\H' a=bQ (.lst<|bs.map V.ref)/\RS X.K E0 E r H' P ((o.set j<|.nest<|I++l.drop t).set i .no)/\kQ j i g f o (l.drop t)=bQ kn/\b5=I++kn,
   ⟨_,rfl,Ms _,H0,[],b5,B,rfl,g1,⟨B[i]?.getD none,?_⟩,hn.ha,?_,e2,rfl⟩,?_⟩
  ·apply MW
   intro m;rw[Nt];by_cases z:i=m
   ·subst z
    have:i<B.length:=by rw[rs.rc.len];exact S
    simp[this]
   ·simp[z]
  ·have:=rs.forget (i:=i) (v:=B[i]?.getD none)
   have es:B.set i (B[i]?.getD none)=B:=by
    apply MW;intro m;rw[Nt];by_cases z:i=m
    ·subst z
     have:i<B.length:=by rw[rs.rc.len];exact S
     simp[this]
    ·simp[z]
   rw[es]at this;have ec:o.set j (.nest l)=o:=by
    apply MW;intro m;rw[Nt];by_cases z:j=m
    ·subst z;rw[RY rfl,RY bm,e1]
    ·simp[z]
   simpa[ec]using this
  rintro t m P H' ⟨rfl,ht,r,I,kn,U,br,T,⟨v0,rfl⟩,W,Y,O,er⟩;have as:((o.set j<|.nest<|I++l.drop t).set i .no)[j]? = bQ (.nest<|I++l.drop t):=by rw[Lb F,Lr bm]
  obtain⟨a',s,q1,b6,cm⟩:=Y.rc.m1.1 j _ as;rw[Lb F,T]at q1;cases q1;have co:s=bs:=by have:=b6.ha;rw[W]at this;injection this with this;injection this with this;exact(yw this).symm
  subst co;have cq:s.length=l.length:=by rw[b6.len];simp;omega
  by_cases bv:t<l.length
  ·have R:s[t]? = bQ (s[t]'⋯):=IX ⋯
   generalize s[t]'⋯=b at R;have b7:l.drop t=l[t]::l.drop (t+1):=Np bv;refine .inr ⟨⟨_,.ref b,gm.of W,by rw[Lz,R];rfl⟩,λQ H2=>t+1<=l.length/\∃(r:Hp) (I kn:List (List DL.D)) (U:L2.St),I.length=t+1/\U[j]? = bQ (bQ (V.ref a))/\(∃v,Q=U.set i v)/\H2 a=bQ (.lst<|s.map V.ref)/\RS X.K E0 E r H2 Q ((o.set j<|.nest<|I++l.drop (t+1)).set i .no)/\kQ j i g f o (l.drop<|t+1)=bQ kn/\b5=I++kn,λQ H2 n=>⟨l.length - (t+1),by omega,rfl,n.1,n.2⟩,λxv H2 yl=>?_⟩;obtain⟨rfl,yl⟩:=yl;have cs:xv = .ref b:=by have:=yl _<|gm.of W;rw[Lz,R]at this;exact(LR this).symm
   subst cs;rw[b7]at O;simp only[kQ]at O;obtain⟨d,f1,O⟩:=zg O;obtain⟨kk,f2,O⟩:=zg O;obtain⟨dk,f3,f2⟩:=zg f2;obtain⟨M,f4,O⟩:=zg O;obtain⟨cy,f5,O⟩:=zJ O;have d0:(I++l.drop t)[t]? = bQ l[t]:=by rw[b7,Mf ⋯,br];simp
   have G:(U.set i v0).set i (bQ (.ref b))=U.set i (bQ (.ref b)):=Pp ..;have ax:=Y.rc.row (i:=i) as (by rw[Lb F];exact T) b6 cm R d0 (by simp;exact S);rw[cZ F,G]at ax;show ∃_,_;refine⟨r,yV o j i l[t],d,?_,f1,λv H3 d1 x3 r3=>?_⟩
   ·rw[G];exact ax
   have c0:=ax.ext x3;obtain⟨Z,xs,p1,p2,p3,p4⟩:=c0.own i l[t] (by unfold yV;rw[Lr (by simpa using S)]);have d4:Z=b:=by
    rw[Lr (by
     have:=ax.len;simp[yV]at this;rw[this];exact S)]at p1
    cases p1;rfl
   subst d4;refine⟨_,by rw[G];exact p1,d1,yV o j i l[t],dk,by rw[G];exact c0,f3,λv2 H4 d6 x4 r4=>?_⟩;rw[qF f2]at r4;refine⟨Z,xs,kk,M,rfl,jN r4,x4.s1 _ _ p3,by rw[p4.length];exact WW f4,?_⟩;have d7:=(Y.step x3).step x4;have be:=d7.forget (i:=i) (v:=bQ (.ref Z));have d8:(((o.set j<|.nest<|I++l.drop t).set i .no).set i .no)=((o.set j<|.nest<|I++l.drop t).set i .no):=Pp ..;rw[d8,G]at be;obtain⟨a2,l9,w1,bf,d9⟩:=be.rc.m1.1 j _ as;rw[Lb F,T]at w1;cases w1;have c4:H4 a=bQ (.lst<|s.map V.ref):=x4.s1 _ _<|x3.s1 _ _ W;have db:l9=s:=by have:=bf.ha;rw[c4]at this;injection this with this;injection this with this;exact(yw this).symm
   subst db;have c5:=be.Ue (t:=t) (row':=l[t].set M d) (ys:=xs.set M v) as (by rw[Lb F];exact T) bf d9 R<|(p4.mono x4.s0).set M (r3.mono x4.s0);have dd:a≠Z:=λq=>(MI.mp bf.nd).1 (by rw[q];exact LJ R);refine⟨bv,d6,I++[l[t].set M d],cy,U,by simp[br],T,⟨bQ (.ref Z),G⟩,by rw[zS dd];exact c4,?_,f5,by rw[er,<- O];simp⟩;rw[G];have eR:(I++l.drop t).set t (l[t].set M d)=(I++[l[t].set M d])++l.drop (t+1):=by rw[b7,List.set_append_right _ _ ⋯,show t - I.length=0 by omega,Rf];rfl
   rw[eR,Vr F]at c5;exact c5
  ·have et:t=l.length:=by omega
   subst et;rw[OB]at O;cases O;rw[OB]at Y;refine .inl ⟨⟨_,gm.of W,by simp[cq]⟩,?_⟩;rw[er]at bl;exact bl _ _ r Y
end
end DL
namespace L2
open PySem PySem.Spec PyProof.Rows
noncomputable def Fe(K:IT):V->List V->Hp->VK->Prop:=λx d H Q=>∃I p b,x = .str I/\d=[.ref p]/\gm K H p (b.map V.str)/\Builtin.Str.tooLong (b.toArray.foldl (λa p=>a+p.length+I.length) 0)=ed/\Q (.str<|Rw I b) H
theorem KD : ∀{H:List Str} {C:List eh},fm (H.map V.str) C->∃l:List (Str×Tok),strValues l=C/\l.map (·.1)=H
 | [],C,r=>by cases r;exact⟨[],rfl,rfl⟩
 | z::H,u::C,.cons r t=>by obtain⟨I,rfl⟩:=r;obtain⟨l,rfl,h⟩:=KD t;exact⟨(z,I)::l,rfl,by simp[h]⟩
theorem sG{X:Cx}:Pt X "str.join" (Fe X.K):=by intro a s y H x n v m Q I i g h;obtain⟨O,p,w,rfl,rfl,d,U,q⟩:=h;obtain⟨t,rfl⟩:=i;obtain⟨u,rfl,rw⟩:=ZJ g;cases rw;obtain⟨f,r,pl,j⟩:=I.list d;obtain⟨l,rfl,e⟩:=KD r;subst e;refine OC F.slot_str_join (Tt _ _ _) F.entry_str_join (F.args_str_join_2 _ _) (meets_str_join_list O t p l U) ⟨pl.isList,post_join l ⟨joinFit_length U,λt' k=>?_⟩⟩;refine⟨.str (Rw O (l.map (·.1))),H,(I.kept (h':=s.heap) (t':=k) λb o e=>e),⟨t',?_⟩,q⟩;show Value.str (Builtin.Str.glued O (l.map (·.1))) t'=_;rw[StrLaws.glued_eq_join]
end L2
namespace DL
open PySem PySem.Spec PyProof.Rows L2
theorem KR{K:IT}{H:Hp} : ∀{ds:List D} {xs:List V} {l:List Str},ej K H ds xs->KS ds=bQ l->xs=l.map V.str
 | [],xs,l,r,e=>by cases e;rw[show xs=[]from r];rfl
 | d::ds,xs,l,r,e=>by
  obtain⟨x,g,rfl,I,b⟩:=(show ∃x r,xs=x::r/\Rep K H d x/\ej K H ds r from r);cases d with
  | str i=>
   obtain⟨f,a,rfl⟩:=zJ (show(KS ds).map (λl=>i::l)=bQ l from e);rw[KR b a,show x = .str i from I];rfl
  | _=>cases e
section
variable{X:Cx}{sc:g9}{N L:List Str}{k:Nat}{o e a b:eu}{apos cpos pos p:g8}{f g:CO D}{q:CO (Sk×List D)}
theorem XI(h:jQ x=dt):x.length<=1000:=of_decide_eq_true h
theorem QS(h:jQ x=dt):x.length<=gv:=Mj (XI h) ⋯
theorem dh(ho:PV X o f)(Z:PQ X e q)(C:DQ o "join" X.env (eA o X.env)=eA o X.env:=by rfl)
 (J:((rh cpos<|starEach [e] X.env).all (λx=> !x.1) && (RH cpos<|keywordEach [] X.env).all (λx=>x.1.isSome) && decide ([e].length+([]:List Dv).length+(if ([]:List Dv).isEmpty then 0 else 1)<30))=dt:=by rfl)
 (Y:(apos.endLine==cpos.line)=dt:=by rfl) (hs:f6 [e] X.env=[(ed,eA e X.env)]:=by rfl):PV X (.Call (.Attribute o "join" apos) [e] [] cpos) (rD f q):=
 qC (sf PySem.F.plainAttrs_str PySem.F.slot_str_join PySem.F.type_str_join sG ho (jO Z xy hs) C J Y hs rfl) λW H Q z=>by
  obtain⟨h,g,d,rc,I,G⟩:=z;obtain⟨k,n,I⟩:=zg I;obtain⟨⟨E,m⟩,p,I⟩:=zg I;cases k with
  | str U=>
   cases E with
   | L=>
    obtain⟨l,s,I⟩:=zg I;by_cases O:l.length<=lim/\l.all jQ=dt/\jQ U=dt
    ·rw[RY O]at I;cases I
     refine⟨h,g,_,rc,n,λv N b x r=>?_⟩;rw[show v = .str U from r];refine⟨rfl,b,g,.L,m,rc.ext x,p,λa S i j M u P K=>?_⟩;have t:=KR K s;subst t;refine⟨U,a,l,rfl,rfl,u,StrLaws.joinFits (B:=1000) (λy A=>XI<|Mz.mp O.2.1 y A) ?_,G _ i j (x.trans M) rfl⟩;have R:=O.1;have:lim=2500:=rfl;have w:=XI O.2.2;have:l.length*U.length<=2500*1000:=Nat.mul_le_mul ⋯ w;omega
    ·rw[EQ O]at I;cases I
   | T=>cases I
  | _=>cases I
theorem XR(C:PV X a f)(U:PV X b g)(hs:VW b:=by intro _ _;rfl):PV X (.Subscript a b pos) (wc f g):=
 qC (Bg BQ C U hs) λJ H Q B=>by
  obtain⟨n,m,d,rc,I,q⟩:=B;obtain⟨s,u,I⟩:=zg I;obtain⟨i,h,I⟩:=zg I;obtain⟨t,w,h⟩:=zg h;cases s with
  | str z=>
   by_cases O:jQ z=dt
   ·have I:(if jQ z=dt then (f7 z.cps.toList.length i).bind λk=>z.cps.toList[k]?.map λc=>D.str ⟨#[c]⟩else none)=bQ d:=I
    rw[RY O]at I;obtain⟨j,y,I⟩:=zg I;obtain⟨c,A,rfl⟩:=zJ I;refine⟨n,m,_,rc,u,λv F e x r=>⟨e,m,t,rc.ext x,w,λG o p E l=>?_⟩⟩;rw[qF h]at l;refine⟨z,i,c,r,jN l,QS O,?_,q _ o p (x.trans E) rfl⟩;unfold Dg;rw[WW y];exact A
   ·have I:(if jQ z=dt then (f7 z.cps.toList.length i).bind λk=>z.cps.toList[k]?.map λc=>D.str ⟨#[c]⟩else none)=bQ d:=I
    rw[EQ O]at I;cases I
  | _=>cases I
theorem JD(h:SX X sc N L k)(c:vp sc "len" = dt)(z:X.mg "len" = none)(C:PV X e f)(hs:f6 [e] X.env=[(ed,eA e X.env)]:=by rfl):PV X (.Call (.Name "len" p) [e] [] pos) (yT f):=
 qC (kO YR (h.gl c).1 z PySem.boot_len (jO C xy hs) ⋯ ⋯ hs rfl) λm H Q U=>by
  obtain⟨g,l,d,rc,I,q⟩:=U;obtain⟨i,j,I⟩:=zg I;cases i with
  | str z=>
   by_cases O:jQ z=dt
   ·have I:(if jQ z=dt then bQ (D.int z.length)else none)=bQ d:=I
    rw[RY O]at I;cases I;refine⟨g,l,_,rc,j,λv b a x r=>⟨z,by rw[show v = .str z from r],QS O,q _ b a x rfl⟩⟩
   ·have I:(if jQ z=dt then bQ (D.int z.length)else none)=bQ d:=I
    rw[EQ O]at I;cases I
  | _=>cases I
end
section
variable{X:Cx}{sc:g9}{N L:List Str}{k:Nat}{b:eu}{f:CO D}
theorem nZ(h:SX X sc N L k)(c:vp sc "min" = dt)(z:X.mg "min" = none)(C:PV X a f)(J:PV X b g)(hs:f6 [a,b] X.env=[(ed,eA a X.env),(ed,eA b X.env)]:=by rfl)(O:f6 [b] X.env=[(ed,eA b X.env)]:=by rfl) :
 PV X (.Call (.Name "min" p) [a,b] [] pos) (iK f g):=
 qC (kO (gu h.calm) (h.gl c).1 z PyProof.Rows.boot_min (jO C (jO J xy O)<|by rw[hs,O]) ⋯ ⋯ (by rw[hs,O]) (by rw[O];rfl)) λK H Q B=>by obtain⟨o,n,d,rc,I,q⟩:=B;obtain⟨i,l,I⟩:=zg I;obtain⟨u,y,l⟩:=zg l;obtain⟨j,U,I⟩:=zJ I;obtain⟨w,A,U⟩:=zg U;subst I;refine⟨o,n,u,rc,y,λv F e x r=>⟨e,n,w,rc.ext x,A,λG s t E m=>⟨i,j,?_,q _ s t (x.trans E) rfl⟩⟩⟩;rw[qF l]at r;rw[qF U]at m;rw[jN r,jN m]
end
noncomputable def Fp(c:Xn)(C:Option eg)(H:Hp):Prop:=match c.2 with
 | none=>C=none
 | some i=>∃d,C=bQ d/\H d=bQ (.xd [(Iv c.1,.int i)])
noncomputable def Th(K:IT)(n:Nat)(G:List D->Option Xn):Sp:=λg H _ E=>∃b d c,f9 b H/\ej K b d g/\d.length=n/\G d=bQ c/\
 ∀C e a f,GN K=dt->c.1∈O3->uF K c.1=bQ C->Fp c f a->Ext b H a e->E (.ref C) f e
section ap
variable(γ:Ctx)
@[simp] def qG:=@zw.eq_1
@[simp] def xC:=@jA.eq_1
@[simp] def yF:=@jL.eq_1
@[simp] def qU:=@zc.eq_1
@[simp] def j7:=@ze.eq_1
@[simp] theorem yh(d):zv d γ=bQ d:=rfl
@[simp] def yN:=@zH.eq_1
@[simp] def gL:=@sB.eq_1
@[simp] def GI:=@iO.eq_1
@[simp] def oV:=@w5.eq_1
@[simp] def uh:=@j8.eq_1
@[simp] def Ct:=@aM.eq_1
@[simp] def Iw:=@Up.eq_1
@[simp] def Hq:=@CG.eq_1
@[simp] def oX:=@hJ.eq_1
@[simp] theorem ke:zD γ=bQ []:=rfl
@[simp] def z9:=@za.eq_1
@[simp] def Xs:=@qQ.eq_1
@[simp] def Gq:=@qm.eq_1
@[simp] def Gk:=@jZ.eq_1
@[simp] def wV:=@jM.eq_1
@[simp] def gJ:=@yO.eq_1
@[simp] def Gi:=@JA.eq_1
@[simp] def Hy:=@II.eq_1
@[simp] def GD:=@rG.eq_1
@[simp] def QM:=@h7.eq_1
@[simp] def kc:=@jo.eq_1
@[simp] def Gg:=@xf.eq_1
@[simp] def GA:=@rF.eq_1
@[simp] def xD:=@jV.eq_1
@[simp] def xj:=@zC.eq_1
@[simp] def yG:=@ja.eq_1
@[simp] def q9:=@zF.eq_1
@[simp] def yf:=@zR.eq_1
@[simp] def gK:=@vJ.eq_1
@[simp] def Hm:=@aK.eq_1
@[simp] def kT:=@xU.eq_1
@[simp] def jG:=@zP.eq_1
@[simp] theorem Hn:jj γ=bQ dt:=rfl
@[simp] def GF:=@K9.eq_1
@[simp] def Gj:=@Ac.eq_1
@[simp] def xN:=@dy.eq_1
@[simp] def Et:=@Wm.eq_1
@[simp] theorem Hr:bZ γ=bQ none:=rfl
@[simp] def GH:=@nf.eq_1
@[simp] def Cn:=@K7.eq_1
@[simp] def oW:=@xH.eq_1
@[simp] def Iy:=@m3.eq_1
@[simp] def Hu:=@IG.eq_1
@[simp] def Zx:=@zZ.eq_1
@[simp] def Co:=@rC.eq_1
@[simp] def Y4:=@gZ.eq_1
@[simp] def oY:=@hU.eq_1
@[simp] def HA:=@uu.eq_1
@[simp] def Gv:=@QB.eq_1
@[simp] def Gp:=@rB.eq_1
@[simp] def Ge:=@rz.eq_1
theorem jE(F G):zN F G γ=(F γ).bind λI=>match I with
 | .next a=>G a
 | f=>bQ f:=rfl
end ap
@[simp] theorem Ck(ds):je (.tup ds)=bQ (.T,ds):=rfl
@[simp] theorem Hj(ds):je (.lst ds)=bQ (.L,ds):=rfl
@[simp] theorem zW(d):gp (bQ (.val d))=bQ d:=rfl
@[simp] theorem zY(d):vR (bQ (.val d))=je d:=rfl
@[simp] theorem tU(d):vR (bQ (.own d))=bQ (.L,d):=rfl
@[simp] theorem tY(d):qL (bQ (.own d))=bQ d:=rfl
@[simp] theorem tW(d):VO (bQ (.val d))=bQ (.ret<|.val d):=rfl
@[simp] theorem tX(d):VO (bQ (.own d))=bQ (.ret<|.own d):=rfl
@[simp] theorem Hl(b):rd (.bl b)=bQ b:=rfl
@[simp] theorem qg(b):l0 (.int b)=bQ b:=rfl
@[simp] theorem CQ(d):Ya (.val d)=d:=rfl
@[simp] theorem CS(d):Ya (.own d) = .lst d:=rfl
@[simp] theorem CP(d):hV (.own d)=bQ d:=rfl
@[simp] theorem Ej(i j):Ja (.int i) (.int j)=bQ (.int<|i - j):=rfl
@[simp] theorem W6(i j):qa (.int i) (.int j)=bQ (.int<|i+j):=rfl
@[simp] theorem El(i j):yM (.int i) (.int j)=if 0<j then bQ (.int<|i%j)else none:=by show(if Eo i j=dt then _ else _)=_;simp[Eo]
@[simp] theorem Em(i j):Kl (.int i) (.int j)=if 0<j/\j<1073741824 then bQ (.int<|i/j)else none:=by
 show(if Cg i j=dt then _ else _)=_;have e:(Cg i j=dt)=(0<j/\j<1073741824):=by unfold Cg;rw[Lq,decide_eq_true_eq,decide_eq_true_eq];apply propext;constructor<;>intro h<;>exact⟨h.1,by omega⟩
 simp only[e]
@[simp] theorem W5(i j):kG (.int i) (.int j)=if JY i j=dt then bQ (.int<|i*j)else none:=rfl
@[simp] theorem Ek(i j):tG (.int i) (.int j)=if Cf i j=dt then bQ (.int<|i ^ j.toNat)else none:=rfl
@[simp] theorem FU(i j):u0 (.int i) (.int j)=bQ (.bl<|decide<|i<j):=rfl
@[simp] theorem FV(i j):o5 (.int i) (.int j)=bQ (.bl<|decide<|i<=j):=rfl
@[simp] theorem FX(i j):ri (.int i) (.int j)=bQ (.bl<|decide<|j<i):=rfl
@[simp] theorem FY(i j):DT (.int i) (.int j)=bQ (.bl<|decide<|j<=i):=rfl
@[simp] theorem FZ(i j):iQ (.int i) (.int j)=bQ (.bl<|decide<|i=j):=by unfold iQ;rw[RY ⟨rfl,rfl⟩];exact congrArg (λb=>bQ (D.bl b)) (by rw[MY];simp[lL])
@[simp] theorem FT(i j):h9 (.int i) (.int j)=bQ (.bl<|!decide (i=j)):=by unfold h9;rw[RY ⟨rfl,rfl⟩];exact congrArg (λb=>bQ (D.bl !b)) (by rw[MY];simp[lL])
@[simp] theorem Aa(i is d ds γ):xt (i::is) (d::ds) γ=xt is ds (γ.set i<|.val d):=rfl
@[simp] theorem uZ(ds γ):xt [] ds γ=γ:=by cases ds<;>rfl
@[simp] theorem wR(i d γ):x9 (.nm i) d γ=bQ (γ.set i<|.val d):=rfl
@[simp] theorem Cj(i j a b γ):x9 (.tp [i,j]) (.tup [a,b]) γ=bQ ((γ.set i<|.val a).set j (.val b)):=rfl
@[simp] theorem iI(γ:Ctx)(G:CO Fl):(bQ (Fl.next γ)).bind (λI=>match I with
 | .next γ'=>G γ'
 | f=>bQ f)=G γ:=rfl
theorem Xq(i j:Int)(C : -(2 ^ 64)<j)(H:j<2 ^ 64):JY i j=dt:=by unfold JY;rw[MJ];right;exact decide_eq_true ⋯
theorem vc(i j:Int)(C : -(2 ^ 64)<i)(H:i<2 ^ 64):JY i j=dt:=by unfold JY;rw[MJ];left;exact decide_eq_true ⋯
theorem wG(C : -(2 ^ 62)<i)(H:i<2 ^ 62):inR i=dt:=by unfold inR;exact decide_eq_true ⋯
@[simp] theorem jl(n k:Nat):f7 n (k:Int)=if k<n then bQ k else none:=by
 unfold f7;by_cases h:k<n
 ·rw[RY ⟨Int.natCast_nonneg k,by omega⟩,RY h];simp
 ·rw[EQ ⋯,EQ ⋯,EQ h]
theorem jm:lim=2500:=rfl
@[simp] theorem Eg:0<=lim:=Ms _
@[simp] theorem Ef:1<=lim:=by decide
@[simp] theorem Ee:2<=lim:=by decide
@[simp] theorem Ed:3<=lim:=by decide
@[simp] theorem Ec:4<=lim:=by decide
@[simp] theorem Eb:5<=lim:=by decide
@[simp] theorem Ea:6<=lim:=by decide
@[simp] theorem CZ:7<=lim:=by decide
@[simp] theorem CY:8<=lim:=by decide
@[simp] theorem CV:0<lim:=by decide
@[simp] theorem Zq(h:n<=lim):inR (n:Int)=dt:=wG ⋯ (by have:=jm;omega)
@[simp] theorem UI(n:Nat):f7 (n+1) 0=bQ 0:=jl (n+1) 0 ▸ rfl
@[simp] theorem M0(n:Nat):f7 (n+2) 1=bQ 1:=by have:=jl (n+2) 1;simpa using this
@[simp] theorem Ub(n:Nat):f7 (n+3) 2=bQ 2:=by have:=jl (n+3) 2;simpa using this
theorem zx(r:α->D) : ∀(l:List α),(∀x∈l,zQ T k f γ [g x]=bQ [r x])->zQ T k f γ (l.map g)=bQ (l.map r)
 | [],_=>rfl
 | x::l,h=>by
  have a:=h x Lp;have i:=zx r l λy I=>h y<|Lj _ I;simp only[Mc,zQ]at a ⊢;cases e1:x9 T (g x) γ with
  | none=>rw[e1]at a;simp at a
  | some d=>
   rw[e1]at a;simp only[IY]at a ⊢;cases e2:k d with
   | none=>rw[e2]at a;simp at a
   | some b=>
    rw[e2]at a;simp only[IY]at a ⊢;cases b with
    | false=>simp at a
    | true=>
     simp only[RY]at a ⊢;cases e3:f d with
     | none=>rw[e3]at a;simp at a
     | some e=>
      rw[e3]at a;simp at a;rw[i];simp[a]
theorem zy(C:x9 T d γ=bQ γ1)(H:k γ1=bQ dt)(I:f γ1=bQ e):zQ T k f γ [d]=bQ [e]:=by simp[zQ,C,H,I]
theorem jW(T F d ds γ):xX T F (d::ds) γ=(x9 T d γ).bind λγ1=>(F γ1).bind λO=>match O with
 | .next I=>xX T F ds I
 | .cont I=>xX T F ds I
 | .brk I=>bQ (.next I)
 | .ret r=>bQ (.ret r):=rfl
theorem xW(P:Nat->Ctx->Prop) : ∀(ds:List D) (k:Nat) (γ:Ctx),P k γ->(∀i d γ,ds[i]? = bQ d->P (k+i) γ->∃γ',((x9 T d γ).bind F=bQ (.next γ')\/(x9 T d γ).bind F=bQ (.cont γ'))/\P (k+i+1) γ')->
 ∃γ',xX T F ds γ=bQ (.next γ')/\P (k+ds.length) γ'
 | [],k,γ,h,_=>⟨γ,rfl,h⟩
 | d::ds,k,γ,h,step=>by
  obtain⟨a,e,g⟩:=step 0 d γ rfl h;obtain⟨γ',f,j⟩:=xW P ds (k+1) a (by simpa using g) (λi b I l O=>by have:=step (i+1) b I (by simpa using l) (by rw[show k+(i+1)=k+1+i by omega];exact O);rw[show k+(i+1)+1=k+1+i+1 by omega]at this;exact this)
  refine⟨γ',?_,by rw[show k+(d::ds).length=k+1+ds.length by simp;omega];exact j⟩;rw[jW];cases eb:x9 T d γ with
  | none=>rw[eb]at e;simp at e
  | some U=>
   rw[eb]at e;simp only[IY]at e ⊢;rcases e with e | e<;>rw[e]<;>exact f
def zA(n:Nat)(f:Nat->Int):List D:=(IS n).map λi=>D.int<|f i
theorem zV(n f):zA n f=(IS n).map λi=>D.int (f i):=rfl
noncomputable def zX(h w:Nat)(f:RK):List D:=(IS h).map λi=>D.tup<|zA w<|f i
noncomputable def jJ(h w:Nat)(f:RK):D:= .tup [.int h,.int w,.tup (zX h w f)]
@[simp] theorem vq(n f):(zA n f).length=n:=by simp[zA]
@[simp] theorem mY(h w f):(zX h w f).length=h:=by simp[zX]
@[simp] theorem FQ(f)(h:i<(zA n f).length):(zA n f)[i] = .int (f i):=by simp[zA]
theorem yB(f)(h:i<n):(zA n f)[i]? = bQ (.int<|f i):=by simp[zA,h]
@[simp] theorem FR(f)(hi:i<(zX h w f).length):(zX h w f)[i] = .tup (zA w<|f i):=by simp[zX]
theorem kR(h : ∀i,i<n->f i=g i):zA n f=zA n g:=by unfold zA;apply Ll;intro i a;rw[h i (IV.mp a)]
theorem W3(e : ∀i j,i<h->j<w->f i j=g i j):zX h w f=zX h w g:=by unfold zX;apply Ll;intro i a;rw[kR λj I=>e i j (IV.mp a) I]
theorem jv(n:Nat):kM 0 n=zA n λi=>(i:Int):=by simp[kM,zA]
theorem vY(n:Nat)(f g:Nat->Int):vZ (zA n f) (zA n g)=(IS n).map λi=>D.tup [.int (f i),.int (g i)]:=by unfold vZ zA;rw[OF];simp
theorem V1(n w:Nat)(f g:RK):vZ (zX n w f) (zX n w g)=(IS n).map λi=>D.tup [.tup (zA w<|f i),.tup (zA w<|g i)]:=by unfold vZ zX;rw[OF];simp
def zf(f:Nat->Int):Nat->Int
 | 0=>0
 | n+1=>zf f n+f n
theorem Js : ∀(xs:List Int) (y:Int),aF (xs.map D.int++[.int y])=(aF<|xs.map D.int).map λs=>s+y
 | [],y=>by simp[aF]
 | x::xs,y=>by simp only[Mc,Rp,aF];rw[Js xs y];cases e:aF (xs.map D.int)<;>simp[Int.add_assoc]
theorem yS(f:Nat->Int) : ∀n,aF (zA n f)=bQ (zf f n)
 | 0=>rfl
 | n+1=>by
  have I:=yS f n;have e : ∀m,zA m f=((IS m).map f).map D.int:=λm=>by simp[zA]
  rw[e]at I ⊢;rw[MM,Mr,Mr,List.map_singleton,List.map_singleton,Js,I];simp[zf]
noncomputable def xO:=jn 2<|jM<|zZ<|jL<|zP (zF<|ze 1) (.nm 0) 1 [0] jj (zH yM (zc 0)<|zc 1)
noncomputable def VY:=jn 3<|jM<|zC xO<|za (zc 0)<|za (jA<|zP (zF<|zw<|dy (ze 1)<|zv<|.int 2) (.nm 0) 1 [2] jj (gZ<|jL<|zP (aK (zc 0)<|zc 1) (.tp [0,1]) 2 [] jj (zH kG (zc 0)<|zc 1))) zD
noncomputable def jP:=jn 2<|zN (jo 1<|jA<|zP (zR<|dy (ze 0)<|zv<|.int 1) (.nm 0) 1 [0] jj (zZ<|jL<|zP (zF<|zw<|dy (ze 1)<|zv<|.int 2) (.nm 0) 1 [0] jj (dy (ze 0)<|zc 1)))<|jM<|qQ<|za (dy (ze 0)<|zv<|.int 1)<|za (dy (ze 0)<|zv<|.int 0)<|za (zZ<|ze 1) zD
noncomputable def kC:=jn 4<|zN (jo 3<|zC jP<|za (zc 2) zD)<|jM<|qQ<|za (dy (ze 1)<|zv<|.int 0)<|za (dy (ze 2)<|zv<|.int 1)<|za (zZ<|jL<|zP (zF<|zw<|dy (ze 1)<|zv<|.int 2) (.nm 0) 1 [0,3] jj (zC VY<|za (zc 1)<|za (zc 2)<|za (zc 0) zD)) zD
noncomputable def xG:=jn 5<|zN (jo 4<|jA<|zP (aK (dy (ze 1)<|zv<|.int 2)<|dy (ze 3)<|zv<|.int 2) (.tp [0,1]) 2 [0,2] jj (zC xO<|za (zc 2)<|za (jA<|zP (aK (zc 0)<|zc 1) (.tp [0,1]) 2 [3] jj (zH qa (zc 0)<|zH kG (zc 2)<|zc 1)) zD))<|jM<|qQ<|za (dy (ze 1)<|zv<|.int 0)<|za (dy (ze 1)<|zv<|.int 1)<|za (zZ<|ze 4) zD
noncomputable def jR:=jn 2<|zN (jo 1<|jA<|zP (zR<|zc 0) (.nm 0) 1 [0] jj (zZ<|jL<|zP (zR<|zc 1) (.nm 0) 1 [0] jj (hJ (sB<|zH iQ (zc 1)<|zc 0) (zv<|.int 1)<|zv<|.int 0)))<|jM<|qQ<|za (zc 0)<|za (zc 0)<|za (zZ<|ze 1) zD
noncomputable def QN:=jn 2<|jM<|qQ<|za (zc 0)<|za (zc 1)<|za (zH kG (qQ<|za (zH kG (qQ<|za (zv<|.int 0) zD)<|zc 1) zD)<|zc 0) zD
def jH:=jn 1<|jM<|aM (m3 .int<|zc 0)<|CG<|m3 .bool<|zc 0
noncomputable def wZ:=jn 3<|zN (xU (vJ (zv<|.int 1)<|zc 0) (.nm 2)<|h7 (sB<|zH iQ (zH yM (zH kG (zc 1)<|zc 2)<|zc 0)<|zv<|.int 1) (JA 2) jZ) JB
noncomputable def qZ:=jn 5<|zN (jo 4<|dy (ze 1)<|zc 3)<|zN (h7 (sB<|zH iQ (zc 4)<|zv<|.int 0) (JA 1) jZ)<|jM<|zC xO<|za (zc 0)<|za (jA<|zP (aK (zc 1)<|zc 2) (.tp [0,1]) 2 [4] jj (zH Ja (zc 0)<|zH kG (zc 2)<|zc 1)) zD
noncomputable def q8:=jn 9<|zN (jo 3<|jA<|zP (zF<|ze 2) (.nm 0) 1 [0] jj (zC xO<|za (zc 1)<|za (zc 0) zD))<|zN (xf 4<|qm zD)<|zN (xU (zR<|zc 1) (.nm 5)<|zN (jo 6<|jA<|zP (zF<|ze 3) (.nm 0) 1 [5] (sB<|zH h9 (dy (ze 0)<|zc 1)<|zv<|.int 0) (zc 0))<|zN (h7 (j8<|rz<|ze 6) rG jZ)<|zN (jo 7<|zC wZ<|za (zc 0)<|za (dy (zw<|dy (ze 6)<|zv<|.int 0)<|zc 5) zD)<|zN (jo 8<|zC xO<|za (zc 0)<|za (jA<|zP (zF<|zw<|dy (ze 6)<|zv<|.int 0) (.nm 0) 1 [7] jj (zH kG (zc 1)<|zc 0)) zD)<|zN (jo 3<|jA<|zP (zF<|ze 3) (.nm 0) 1 [0,5,8] jj (zC qZ<|za (zc 1)<|za (zc 0)<|za (zc 3)<|za (zc 2) zD))<|xf 4<|K9 (jL<|zP (zF<|ze 4) (.nm 0) 1 [0,5,8] jj (zC qZ<|za (zc 1)<|za (zc 0)<|za (zc 3)<|za (zc 2) zD))<|jL<|qm<|za (zc 8) zD)<|JA 4
noncomputable def jY:=jn 2<|yO<|zP (zF<|ze 1) (.nm 0) 1 [0] (j8<|sB<|uu<|zw<|K7 (zc 0) bZ<|nf<|zc 1) (K7 (zc 0) (nf<|zc 1) bZ)
noncomputable def xp:=jn 5<|zN (jo 3<|jA<|zP (aK (dy (zw<|zC jP<|za (zc 1) zD)<|zv<|.int 2)<|dy (zw<|zC jR<|za (dy (ze 1)<|zv<|.int 1) zD)<|zv<|.int 2) (.tp [0,1]) 2 [] jj (zH qa (zc 0)<|zc 1))<|zN (jo 4<|jA<|zP (zF<|ze 2) (.nm 0) 1 [1] jj (zH qa (zc 0)<|zH kG (qQ<|za (zv<|.int 0) zD)<|dy (ze 1)<|zv<|.int 1))<|yO<|ja jY<|za (dy (ze 1)<|zv<|.int 0)<|za (jA<|ja q8<|za (zc 0)<|za (zH qa (dy (ze 1)<|zv<|.int 0)<|dy (ze 1)<|zv<|.int 1)<|za (jA<|K9 (ze 3)<|ze 4) zD) zD
noncomputable def xS:=jn 2<|yO<|ja xp<|za (zc 0)<|za (zc 1)<|za (jA<|qm zD) zD
noncomputable def J7:=jn 2<|yO<|ja q8<|za (zc 0)<|za (dy (ze 1)<|zv<|.int 0)<|za (dy (zw<|zC jP<|za (zc 1) zD)<|zv<|.int 2) zD
section
variable(γ:Ctx)
@[simp] def Hz:=@IJ.eq_1
@[simp] def GG:=@rH.eq_1
@[simp] def EA:=@GS.eq_1
end
noncomputable def xE:=jn 1<|jM<|dy (jL<|zP (rE<|zc 0) (.tp [0,1]) 2 [] (sB<|zH h9 (zc 1)<|zv<|.int 0) (zc 0))<|zv<|.int 0
noncomputable def wX:=jn 7<|zN (jo 3<|dy (ze 1)<|zv<|.int 1)<|zN (xf 4<|Ac (jL<|qm<|za (zv<|.int 0) zD)<|zc 3)<|zN (xU (zF<|zw<|jA<|ja q8<|za (zc 0)<|za (zH qa (zc 3)<|zv<|.int 1)<|za (jA<|zP (aK (dy (ze 1)<|zv<|.int 2)<|zc 2) (.tp [0,1]) 2 [] jj (zH qa (zc 0)<|qQ<|za (zc 1) zD)) zD) (.nm 5)<|zN (jo 6<|zC xE<|za (zc 5) zD)<|zN (h7 (sB<|zH iQ (zc 6)<|zc 3) (jM<|zv .e7) jZ)<|Wm 4 (zc 6)<|dy (ze 5)<|zc 3)<|jM<|zZ<|ze 4
section
variable(γ:Ctx)
@[simp] def Gz:=@rE.eq_1
@[simp] def Cp:=@EX.eq_1
@[simp] def Hw:=@IH.eq_1
@[simp] theorem nD(F G a b c):kK F G a b c γ=(a γ).bind λx=>(b γ).bind λy=>((F x y).bind rd).bind λk=>if k=dt then (c γ).bind λz=>G y z else bQ (.bl ed):=rfl
@[simp] def Gf:=@ZM.eq_1
end
noncomputable def yj:=jn 5<|zN (jo 2<|dy (ze 1)<|zv<|.int 0)<|zN (h7 (sB<|zH h9 (dy (ze 1)<|zv<|.int 1)<|zc 2) (jM<|zv .e7) jZ)<|zN (jo 3<|dy (zw<|zC jR<|za (zc 2) zD)<|zv<|.int 2)<|zN (jo 4<|jA<|ja q8<|za (zc 0)<|za (zH qa (zc 2)<|zc 2)<|za (jA<|zP (aK (dy (ze 1)<|zv<|.int 2)<|zc 3) (.tp [0,1]) 2 [] jj (zH qa (zc 0)<|zc 1)) zD)<|zN (h7 (sB<|zH h9 (jA<|zP (zF<|ze 4) (.nm 0) 1 [2] jj (K7 (zc 0) bZ<|nf<|zc 1))<|jA<|rC<|ze 3) (jM<|zv .e7) jZ)<|jM<|qQ<|za (zc 2)<|za (zc 2)<|za (zZ<|jL<|zP (zF<|ze 4) (.nm 0) 1 [2] jj (K7 (zc 0) (nf<|zc 1) bZ)) zD
section
variable(γ:Ctx)
@[simp] theorem Gh(i f):iJ i f γ=(f γ).bind λC=>if γ.any Xh=ed then bQ (.next<|γ.set i<|.nest C)else none:=rfl
@[simp] def Ez:=@QT.eq_1
@[simp] def Cq:=@cW.eq_1
@[simp] def Hx:=@iM.eq_1
@[simp] def Gy:=@iL.eq_1
@[simp] def Es:=@GR.eq_1
end
@[simp] theorem nr(r):wO (bQ (.nest r))=bQ r:=rfl
section
variable(γ:Ctx)
@[simp] def Kq:=@wc.eq_1
@[simp] def Gs:=@yT.eq_1
@[simp] def GC:=@HZ.eq_1
@[simp] def ui:=@rD.eq_1
end
noncomputable def jS:=jn 2 (jM (hJ (sB (zH iQ (zc 1) (zv (.str "r")))) (zc 0) (zH qa (zc 0) (zv (.int 1)))))
noncomputable def kW:=jn 2 (jM (hJ (sB (zH iQ (zc 1) (zv (.str "r")))) (zH qa (zc 0) (zv (.int 1))) (zc 0)))
noncomputable def EW(f:CO D):CO D:=λa=>(f a).map λd=> .bl (cf .list d || cf .tuple d)
def bY:=jn 1<|jM<|aM (m3 .int<|zc 0)<|CG<|m3 .bool<|zc 0
noncomputable def Y6:=jn 2<|jM<|aM (zC bY<|za (zc 1) zD)<|kK o5 u0 (zv<|.int 0) (zc 1)<|zc 0
def VZ:=jn 2<|jM<|aM (EW<|zc 0)<|zH iQ (xH<|ze 0)<|zc 1
noncomputable def kA:=jn 1 (jM (rD (zv (.str "")) (jL (zP (zF (zw (dy (ze 0) (zv (.int 2))))) (.nm 0) 1 [] jj (dy (ze 0) (zv (.int 0)))))))
noncomputable def kr:=jn 2<|jM<|aM (zH iQ (dy (ze 0)<|zv<|.int 0)<|dy (ze 1)<|zv<|.int 0)<|zH iQ (zC kA<|za (zc 0) zD)<|zC kA<|za (zc 1) zD
noncomputable def xT:=jn 2<|h7 (j8<|sB<|zC kr<|za (zc 0)<|za (zc 1) zD) JB jZ
noncomputable def vG:List D->Option Xn:=GT 2 (G8 (j8 (sB (zC kr (za (zc 0) (za (zc 1) zD))))) (uE "Unlike") G9)
section
variable{X:Cx}{sc:g9}{N L:List Str}{k:Nat}{a e:eu}{es:List eu}{f:CO D}{g:CO (List D)}{pos p p2:g8}
theorem Wx(U:PV X e f)(hs:vu e none pos.line X.env=pure ed:=by rfl):lh X (.Expr e pos) (rF f):=kY (JF U hs) λD l H j=>by obtain⟨E0,E,g,k,m,O,I,h⟩:=j;obtain⟨d,i,I⟩:=zJ I;subst I;exact⟨g,k,d,O.rc,i,λv b a x r=>h l b a<|O.step x⟩
structure GL(K:IT)(mg:RJ)(x:Str)(d:D):Prop where
 ex : ∃u v,mg x=bQ u/\RelV v u/\∀H,Rep K H d v
theorem AG{x:Str}{d:D}(h:SX X sc N L k)(c:vp sc x=dt)(O:GL X.K X.mg x d):PV X (.Name x pos) (zv d):=by intro b s j H Q I ⟨a,i,g,rc,U,q⟩;cases U;obtain⟨u,v,e,f,h3⟩:=O.ex;exact fj I (h.gl c).1 e ⟨v,H,I,f,q v H a (Ext.refl rc.sub)<|h3 a⟩ (h.gl c).2.2
end
section
variable{K:IT}{mg:RJ}{h:fy}
theorem Hc{x:Str}{n:Int}{t:Tok}(I:K.In h)(G:h.Ns vl mg)(a:PySem.W.nsIn K vl x=bQ (bQ (.int n t))):GL K mg x (.int n):=
 ⟨_,.int n,PySem.W.mg_of I G a,⟨t,rfl⟩,λ_=>(show V.int n = .int n from rfl)⟩
end
theorem yt(h:B7 X es n g):B6 X es g:=h.1
section
variable{K:IT}{E0 E H0 H:Hp}{σ:St}{γ:Ctx}
theorem ej.dropLast : ∀{ds:List D} {xs:List V},ej K H ds xs->ej K H ds.dropLast xs.dropLast
 | [],xs,r=>by rw[r.tr];exact ej.nil
 | [d],xs,r=>by obtain⟨x,f,e,_,a⟩:=r.o7;rw[e,a.tr];exact ej.nil
 | d::d2::ds,xs,r=>by obtain⟨x,f,e,I,a⟩:=r.o7;obtain⟨O,U,b,_,_⟩:=a.o7;subst e b;exact ej.cons I<|ej.dropLast a
end
end DL
namespace L2
open PySem PySem.Spec PyProof.Rows
theorem FC(z:Str):strIterType z = "str_ascii_iterator"\/strIterType z = "str_iterator":=by unfold strIterType;split<;>simp
theorem mW{X:Cx}{C:RW}{σ:St}{H:Hp}{s:eF}{E:RQ}{z it:eg}{i J:Nat}{x:eh}{v:V}{g:fy}{L:List eu}{x1:Nat}{Y:g8}{Q:Unit->eF->Prop}
 (I:Inv X C σ H s) (Z : ∀b ∈ [z,it],Ks X C H b) (hz:z<s.heap.objs.size) (hi:it<s.heap.objs.size) (a1:IsEnumOut g z it ((i:Int)+1) x s.heap.objs.size)
 (a3:l6 g s.heap.objs.size (.int i J) x) (a5 : ∀b o,b≠z->b≠it->s.heap.get? b=bQ o->g.get? b=bQ o) (rx:RelV v x)
 (aa : ∀g2,IsEnum g2 z it ((i+1:Nat):Int) x->Ox z g g2->Inv X C σ (upd H s.heap.objs.size<|.tup [.int i,v]) {s with heap:=g2,toks:=J+1}->H s.heap.objs.size=none->
   (∀b ∈ [z,it],upd H s.heap.objs.size (.tup [.int i,v]) b=none)->Q () {s with heap:=g2,toks:=J+1}) :
 wpAny (eY X.prog X.w) X.A (M3 (.Tuple L x1 Y) (.ref z)<|.ref s.heap.objs.size) Q E {s with heap:=g,toks:=J+1}:=by
 refine wpAny_letOwnedTupleGo_enum a1 λg2 u9 a=>?_;have d:l6 g2 s.heap.objs.size (.int i J) x:=a.extBut _ _ (NX hz) a3;have h : ∀O u,O ∉ [z,it]->s.heap.get? O=bQ u->g2.get? O=bQ u:=λO u U e=>by simp only[Lo,LI,or_false,not_or]at U;exact a.extBut _ _ U.1<|a5 O u U.1 U.2 e
 refine aa g2 (by have:=u9;rwa [show((i:Int)+1)=((i+1:Nat):Int)by omega]at this) a (I.Ts (fp:=[z,it]) h Z (Le _) ⟨by show 2<=gv;decide,[.int i J,x],.cons ⟨_,rfl⟩<|.cons rx .nil,⟨_,d,rfl,_,rfl⟩⟩) I.fresh λO U=>?_;have f:O≠s.heap.objs.size:=by
  simp only[Lo,LI,or_false]at U;rcases U with rfl | rfl
  ·exact Lw hz
  ·exact Lw hi
 rw[zS f];exact(Z O U).1
noncomputable def GM(z:Str):It:=
 ⟨λi _=>i<z.cps.size,λi H x a=>∃p c,x = .ref p/\H p=none/\a=upd H p (.tup [.int i,.str ⟨#[c]⟩])/\z.cps[i]? = bQ c,λi _=>i=z.cps.size⟩
theorem YN{prog:i3}{w:h8}{A:nh}(I:A.handled=none)(it:eg)(x:Str)(t:Tok) :
 Draws prog w A it [it] x.cps.size (λi v=>∃c u,x.cps[i]? = bQ c/\v = .str ⟨#[c]⟩ u) (λi h=>h.IsStrIter it (strIterType x) x t i):=by
 rcases FC x with q | q
 ·rw[q];exact Draws.strAscii I it x t
 ·rw[q];exact Draws.strWide I it x t
theorem aB{P:i3}{w:h8}{K:IT}{elts:List eu}{x1:Nat}{D6:g8}{z it:eg}(x:Str)(t:Tok)(U:z≠it) :
 Turn P w K (.Tuple elts x1 D6) (GM x) [z,it] z (λi h=>(∃O,IsEnum h z it i O)/\h.IsStrIter it (strIterType x) x t i) where
 mem:=by simp
 obj:=λi h ⟨⟨O,hz⟩,h1⟩ y hy=>by
  simp only[Lo,LI,or_false]at hy;rcases hy with rfl | rfl
  ·exact⟨_,hz,λv q=>by cases q⟩
  ·obtain⟨o,e,c,d⟩:=h1
   exact⟨o,e,λv q=>by rw[d]at q;cases q⟩
 keep:=λi h h' ⟨⟨O,hz⟩,h1⟩ k=>⟨⟨O,k z ⋯ _ hz⟩,by obtain⟨o,e,r⟩:=h1;exact⟨o,k it ⋯ o e,r⟩⟩
 item:=by
  rintro X rfl rfl rfl hc i pins s σ H E I hf ⟨⟨O,hz⟩,h1⟩ aa;have ab:it<s.heap.objs.size:=by obtain⟨o2,e2,_⟩:=h1;exact Ln e2
  have Dr:=YN (prog:=X.prog) (w:=X.w) (A:=X.A.in1) (show X.A.in1.handled=none from I.ok.hd hc) it x t;refine wpAny_pyNext_enum_itemD Dr hz h1 aa U (by simp;exact U) λu g tk hP a1 a2 a3 a4 a5=>⟨_,rfl,?_⟩;obtain⟨c,tu,ap,rfl⟩:=hP;refine mW (v:= .str ⟨#[c]⟩) I hf (Ln hz) ab a1 a3 a5 ⟨_,rfl⟩ λg2 b1 b2 I1 ax hn=>⟨.ref s.heap.objs.size,_,I1,rfl,⟨_,_,rfl,ax,rfl,ap⟩,⟨⟨_,b1⟩,?_⟩,hn⟩;obtain⟨o,e,r⟩:=a2;exact⟨o,b2.extBut _ _ U.symm e,r⟩
 done:=by rintro X rfl rfl rfl hc i pins s σ H E I hf ⟨⟨O,hz⟩,h1⟩ hi;have hi:i=x.cps.size:=hi;subst hi;have Dr:=YN (prog:=X.prog) (w:=X.w) (A:=X.A.in1) (show X.A.in1.handled=none from I.ok.hd hc) it x t;refine wpAny_pyNext_enum_endD Dr hz h1 λg hk=>⟨rfl,?_⟩;refine I.Ol (t':=s.toks) (fp:=[z,it]) (λb' u hb e=>?_) hf;simp only[Lo,LI,or_false,not_or]at hb;exact hk b' u hb.2 e
 self:=λ_ _ _ _ _ st h=>Yy st.1.choose_spec h
noncomputable def BW(C:TA):TI:=λd H R=>C d H λb a=>∃z,b=[.str z]/\R (GM z) a
section
variable{X:Cx}{e1:eu}{ta:TA}{p pos:g8}{elts:List eu}{x1:Nat}{D6:g8}
theorem lJ(J:Gl X "enumerate")(L:X.mg "enumerate" = none)(C:PA X [e1] ta)
 (Y:Dz "enumerate" = bQ (.type "enumerate")) (hs:f6 [e1] X.env=[(ed,eA e1 X.env)]:=by rfl) :
 PI X (.Tuple elts x1 D6) (.Call (.Name "enumerate" p) [e1] [] pos) (BW ta):=by
 intro a s l H R I h;refine H9<|vD I J L Y<|MB (fk (C pos a s l H _ I h) λm b i=>?_) (by rw[hs];rfl) rfl;obtain⟨n,e,O,k,j⟩:=i;obtain⟨z,rfl,q⟩:=j;obtain⟨o,rfl,f⟩:=ZJ k;obtain⟨t,rfl⟩:=f;refine call_enumerate_str λg b1 b2 b3 b4=>Yy (s:={b with heap:=g}) b1 ?_;refine⟨_,[b.heap.objs.size+1,b.heap.objs.size],_,_,e,rfl,O.kept (t':=b.toks) b4,aB z t<|NX<|Nl _,⟨⟨_,b1⟩,b2⟩,λc U=>?_,q⟩;have d:b.heap.objs.size<=c:=by
  simp only[Lo,LI,or_false]at U;rcases U with rfl | rfl
  ·exact LY _ _
  ·exact Le _
 exact O.DY d<|O.gB.fresh d
end
end L2
namespace DL
open PySem PySem.Spec PyProof.Rows L2
theorem K6(z:Str):(ka z).length=z.cps.size:=by simp[ka]
theorem iH(z:Str){i c:Nat}(h:z.cps[i]? = bQ c):(ka z)[i]? = bQ (.str ⟨#[c]⟩):=by simp[ka,h]
theorem av{K:IT}{C H:Hp}(z:Str):Walk K C H (GM z) (k4<|ka z):=by
 have b:(k4<|ka z).length=z.cps.size:=by simp[k4,K6]
 refine⟨λi d s a=>?_,λd s=>?_,λi d x f s a y=>?_⟩
 ·rw[b]at a;exact a
 ·rw[b];exact rfl
 ·obtain⟨p,c,rfl,I,rfl,O⟩:=y
  refine⟨.tup [.int i,.str ⟨#[c]⟩],?_,λe h g=>⟨upd e p<|.tup [.int i,.str ⟨#[c]⟩],Ext.alloc g I _,?_⟩⟩
  ·rw[b]at a
   unfold k4;rw[Lz,MP (by rw[K6];exact a),Lm,iH z O];rfl
  ·exact kx (hB.of zU)<|ej.cons (show V.int i = .int i from rfl)<|ej.cons (show V.str ⟨#[c]⟩ = .str ⟨#[c]⟩from rfl) ej.nil
section
variable{X:Cx}{sc:g9}{N L:List Str}{k:Nat}{a b e:eu}{pos p p2:g8}{f fa fb:CO D}
theorem rZ{C:List eu}{x1:Nat}{J:g8}(h:SX X sc N L k)(c:vp sc "enumerate" = dt)(z:X.mg "enumerate" = none)(Y:PV X a f)(hs:f6 [a] X.env=[(ed,eA a X.env)]:=by rfl) :
 i4 X (.Tuple C x1 J) (.Call (.Name "enumerate" p) [a] [] pos) (K8 f):=
 Vm (lJ (h.gl c).1 z (jO Y xy hs) boot_enumerate hs) λm H R U=>by
  obtain⟨i,l,e,rc,I,q⟩:=U;obtain⟨d,j,I⟩:=zg I;cases d with
  | str z=>
   by_cases O:jQ z=dt
   ·have I:(if jQ z=dt then bQ (k4<|ka z)else none)=bQ e:=I
    rw[RY O]at I;cases I;exact⟨i,l,_,rc,j,λv g b x r=>⟨z,by rw[show v = .str z from r],q _ g b x<|av z⟩⟩
   ·have I:(if jQ z=dt then bQ (k4<|ka z)else none)=bQ e:=I
    rw[EQ O]at I;cases I
  | _=>cases I
end
end DL
namespace DL
open PySem L2 PyProof.Rows
open PySem.W (KasT kas_sort kas_asc kas_desc kas_tail3 kas_descPart kas_count kas_place kas_bin kas_rev)
noncomputable def Good{C:Type}(n:Nat)(P:C->Prop):KasT C->Prop
 | .ret a=>P a
 | .ask i j k=>i<n/\j<n/\∀b,Good n P<|k b
theorem Good.mono{C:Type}{n:Nat}{P I:C->Prop}(h : ∀a,P a->I a) : ∀{t:KasT C},Good n P t->Good n I t
 | .ret a,g=>h a g
 | .ask i j k,g=>⟨g.1,g.2.1,λb=>(g.2.2 b).mono h⟩
theorem Good.bind{C β:Type}{n:Nat}{P:C->Prop}{I:β->Prop}{f:C->KasT β}(O : ∀a,P a->Good n I (f a)) : ∀{t:KasT C},Good n P t->Good n I (t.bind f)
 | .ret a,g=>O a g
 | .ask i j k,g=>⟨g.1,g.2.1,λb=>(g.2.2 b).bind O⟩
theorem Good.run : ∀{t:KasT α},Good n P t->P (km lt t)
 | .ret a,g=>g
 | .ask i j k,g=>(g.2.2 _).run
def Pm(n:Nat)(p:Array Nat):Prop:=p.toList.Perm<|IS n
theorem Pm.lt(h:Pm n p)(C:0<n)(i:Nat):p.getD i 0<n:=by
 by_cases a:i<p.size
 ·have e:p.getD i 0=p[i]:=by simp[Array.getD,a]
  rw[e];exact IV.mp<|h.mem_iff.mp ⋯
 ·have e:p.getD i 0=0:=by simp[Array.getD,a]
  rw[e];exact C
theorem Pm.rev(h:Pm n p)(i j:Nat):Pm n (kas_rev p i j):=(Array.perm_iff_toList_perm.mp<|mirror_perm p i j _).trans h
theorem Pm.TQ(h:Pm n p)(i j:Nat):Pm n (bubble p i j):=(Array.perm_iff_toList_perm.mp<|bubble_perm p i j).trans h
theorem Kf(h:Pm n p)(C:0<n) : ∀f m,Good n (λ_=>True) (kas_asc p f m)
 | 0,m=>trivial
 | f+1,m=>⟨h.lt C _,h.lt C _,λb=>by
  cases b with
  | true=>exact trivial
  | false=>exact Kf h C f<|m+1⟩
theorem wH(C:0<n) : ∀f p m q,Pm n p->Good n (λr=>Pm n r.1) (kas_desc f p m q)
 | 0,p,m,q,h=>h
 | f+1,p,m,q,h=>⟨h.lt C _,h.lt C _,λb=>by
  cases b with
  | true=>
   show Good n _ (if q>0 then _ else _);split
   ·exact wH C f _ _ _<|h.rev _ _
   ·exact wH C f _ _ _ h
  | false=>exact⟨h.lt C _,h.lt C _,λd=>by
   cases d with
   | true=>exact h
   | false=>exact wH C f _ _ _ h⟩⟩
theorem YE{n:Nat}(C:0<n)(m r:Nat){p:Array Nat}(h:Pm n p):Good n (λr=>Pm n r.2) (kas_tail3 m r p):=by unfold kas_tail3;refine Good.bind (P:=λ_=>True) (λa _=>?_)<|Kf (h.rev _ _) C _ _;exact(show Pm n (kas_rev p 0 m)from h.rev _ _)
theorem YG{n:Nat}(C:0<n)(m r:Nat){p:Array Nat}(h:Pm n p):Good n (λr=>Pm n r.2) (kas_descPart m r p):=
 (wH C _ _ _ _ h).bind λa b=>by
   show Good n _ (if a.2.2>0 then _ else _);split
   ·exact YE C _ _<|Pm.rev b _ _
   ·exact YE C _ _ b
theorem bI{n:Nat}(C:0<n)(r:Nat){p:Array Nat}(h:Pm n p):Good n (λr=>Pm n r.2) (kas_count r p):=
 (Kf h C _ _).bind λm _=>by
   show Good n _ (if (m==r)=dt then _ else if m>1 then _ else _);split
   ·exact h
   ·split
    ·exact⟨h.lt C _,h.lt C _,λc=>by
      cases c with
      | true=>exact h
      | false=>exact YG C _ _<|h.rev _ _⟩
    ·exact YG C _ _ h
theorem Zr(C:0<n)(h:Pm n p)(k:Nat) : ∀f l r,Good n (λ_=>True) (kas_place p k f l r)
 | 0,l,r=>trivial
 | f+1,l,r=>by
  show Good n _ (if l>=r then _ else _);split
  ·exact trivial
  ·exact⟨h.lt C _,h.lt C _,λc=>by
    cases c with
    | true=>exact Zr C h k f _ _
    | false=>exact Zr C h k f _ _⟩
theorem WY{n:Nat}(C:0<n) : ∀f p k,Pm n p->Good n (Pm n) (kas_bin f p k)
 | 0,p,k,h=>h
 | f+1,p,k,h=>(Zr C h k k 0 k).bind λl _=>WY C f _ _<|h.TQ _ _
theorem YF{n:Nat}(C:0<n):Good n (Pm n) (kas_sort n):=
 (bI C n<|show Pm n (Ow<|IS n)from List.Perm.refl _).bind λr I=>by
   show Good n _ (if r.1<n then _ else _);split
   ·exact WY C _ _ _ I
   ·exact I
theorem qR(ps:List (Int×Int)):(xV ps).Perm (IS ps.length):=by
 unfold xV;split
 ·exact List.Perm.refl _
 ·exact(YF ⋯).run
theorem Yl : ∀{ds:List D} {ps:List (Int×Int)},ZF ds=bQ ps->ps.length=ds.length
 | [],ps,h=>by cases h;rfl
 | d::ds,ps,h=>by
  unfold ZF at h;cases e1:lR d with
  | none=>rw[e1]at h;cases h
  | some x=>
   cases e2:ZF ds with
   | none=>rw[e1,e2]at h;cases h
   | some l=>rw[e1,e2]at h;cases h;simp[Yl e2]
theorem jg(d:α) : ∀ds:List α,(IS ds.length).map (λi=>ds.getD i d)=ds:=λds=>by
 apply MW;intro i;by_cases a:i<ds.length
 ·simp[a]
 ·simp[a,Nat.not_lt.mp a]
end DL
namespace DL
open PySem PySem.Spec PyProof.Rows L2
open PySem.W (KasT kas_sort kas_ask kat_run kat_snds kat_lt kat_cons kat_no kat_yes kat_nil kat_go kat_one kat_kind KatTups KatGo)
theorem fM(I : ∀i j C,i<n->j<n->C (lt i j) s->cmp i j C s) :
 ∀{t:KasT α},Good n P t->Q (km lt t) s->t.kasWp cmp Q s
 | .ret _,_,q=>q
 | .ask i j k,g,q=>I i j _ g.1 g.2.1<|fM I (g.2.2 _) q
noncomputable def Df(h:fy)(v:eh)(k l:Int):Prop:=∃x o a m t u,v = .ref x/\h.get? x=bQ o/\o.cls = .type "tuple"/\o.data = .seq a m/\a.toList=[.int k t,.int l u]
theorem Df.keep{h h':fy}{v:eh}{k l:Int}(a:Df h v k l)(e : ∀b o,h.get? b=bQ o->o.cls = .type "tuple"->h'.get? b=bQ o):Df h' v k l:=by obtain⟨x,o,g,m,t,u,d,f,I,O,U⟩:=a;exact⟨x,o,g,m,t,u,d,e x o f I,I,O,U⟩
theorem Df.one(a:Df h v k l):Cw h v k:=by obtain⟨x,o,e,m,t,u,b,d,I,O,U⟩:=a;exact⟨x,o,e,m,t,b,d,I,O,by rw[<- Array.getElem?_toList,U];rfl⟩
section
variable{prog:i3}{w:h8}{A:nh}{E:RQ}{s:eF}
theorem JO{a:eg}{vs:List eh}{ps:List (Int×Int)}{n:Nat}{P:PySem.Fin->eF->Prop}(H:s.heap.get? a=bQ (ng "list" vs.toArray n))(L:ps.length=vs.length)(an:vs.length<64)
 (hT : ∀i (hi:i<vs.length),Df s.heap vs[i] (ps.getD i (0,0)).1 (ps.getD i (0,0)).2)
 (h:P (.done<|.ret .none) {s with heap:=sortedHeap s.heap a vs (Ow<|(xV ps).map λi=>vs.getD i Mu)}) :
 wpAny (eY prog w) A (wh.«list.sort» ⟨[.ref a],[]⟩) P E s:=by
 rw[list_sort_plain];have Z:a<s.heap.objs.size:=Ln H;have K:vs.length<=gv:=by rw[Rh];omega
 refine IU (listItems_at H rfl ?_);refine IU (listUpdate_at H rfl ?_ (by rw[Li];exact K) (Ms _));obtain⟨f,R⟩ : ∃f,(s.heap.update a (MH λ_=>#[])).get? a=bQ (ng "list" #[] f):=⟨_,get?_update_seq H (λ_=>#[])⟩;refine IU (seqEpoch_at R rfl ?_);refine IU (wpAny_newTuple ?_ (by show vs.length<=_;exact K));refine IU (wpAny_newList ?_ (Ms _));refine Nq ?_;have d:(((s.heap.update a (MH λ_=>#[])).push (ng "tuple" vs.toArray 0)).push (ng "list" #[] 0)).get? a=bQ (ng "list" #[] f):=by rw[Pe _ _ _ (by rw[size_push',Rq];exact Lw (Mk Z)),Pe _ _ _ (by rw[Rq];exact Lw Z)];exact R
 show wpAny (eY prog w) A _ P E {s with heap:=((s.heap.update a (MH λ_=>#[])).push (ng "tuple" vs.toArray 0)).push (ng "list" #[] 0)};dsimp only;have l:vs.toArray.size=vs.length:=by simp
 by_cases F:vs.toArray.size<2
 ·rw[RY F,RY F]
  refine IU<|Lf ?_;rw[StateT.run_pure];refine IU<|Lf ?_;dsimp only;refine IU<|seqEpoch_at d rfl ?_;have Y:Array.map (λx=>x.snd) (arrOf<|SortSt.mk' general' (vs.toArray.zip vs.toArray) #[] 7 none)=vs.toArray:=by show Array.map (λx=>x.snd) (vs.toArray.zip vs.toArray)=_;apply Array.ext';simp[Array.toList_map,Array.toList_zip];rw[List.map_snd_zip (Le _)]
  have ev:(xV ps).map (λi=>vs.getD i Mu)=vs:=by unfold xV;rw[RY ⋯,L];exact jg _ _
  rw[ev]at h;refine IU (listUpdate_at d rfl ?_ (Ms _) (by rw[Y,l];exact Rl K));simp only[bne_self_eq_false,Mg,if_false];have e8:({s with heap:=(((s.heap.update a (MH λx=>#[])).push (ng "tuple" vs.toArray 0)).push (ng "list" #[] 0)).update a (MH λx=>Array.map (λx=>x.snd) (arrOf (SortSt.mk' general' (vs.toArray.zip vs.toArray) #[] 7 none)))}:eF) = {s with heap:=sortedHeap s.heap a vs vs.toArray}:=by rw[Y];rfl
  refine Lf ?_;rw[<- e8]at h;exact h
 ·rw[EQ F,EQ F]
  have n2:2<=vs.length:=by rw[<- l];omega
  have keep : ∀b o,s.heap.get? b=bQ o->o.cls = .type "tuple"->(((s.heap.update a (MH λ_=>#[])).push (ng "tuple" vs.toArray 0)).push (ng "list" #[] 0)).get? b=bQ o:=λb o e hc=>by
   have b5:b≠a:=λz=>by rw[z,H]at e;cases e;exact absurd hc (by show ¬(Nf "list" = Nf "tuple");decide)
   exact IW _<|IW _<|(Heap.get?_update_ne _ _ _ _ b5).trans e
  generalize hg:((s.heap.update a (MH λ_=>#[])).push (ng "tuple" vs.toArray 0)).push (ng "list" #[] 0)=g at d keep ⊢;have M : ∀i (hi:i<vs.length),Df g vs[i] (ps.getD i (0,0)).1 (ps.getD i (0,0)).2:=λi hi=>(hT i hi).keep keep;obtain⟨fs,f1,f2,f3⟩:=oG (ks:=λi=>(ps.getD i (0,0)).1) λi hi=>(M i hi).one;refine IU (kat_kind (T:=Nf "int") (s:={s with heap:=g}) f1 ⋯ (λv hv=>?_) ⋯ ?_)
  ·obtain⟨k,t,rfl⟩:=f3 v hv
   exact PySem.W.Looks.of_pure rfl
  have ep:(km (λi j=>wB (ps.getD i (0,0))<|ps.getD j (0,0))<|kas_sort vs.length).toList=xV ps:=by unfold xV;rw[EQ ⋯,L]
  refine IU (Oe (kat_run (E:=E) (ks:=vs) (Q:=λB r=>∃p:Array Nat,arrOf B=p.map (PySem.W.kas_item<|vs.toArray.zip vs.toArray)/\failedOf B=none/\p.toList=xV ps/\r = {s with heap:=g})
   (G:=λp r=>p.toList=xV ps/\r = {s with heap:=g})
   rfl n2 an (λp B r a1 a2 a3 N=>⟨p,a2,a3,N.1,N.2⟩) (fM (lt:=λi j=>wB (ps.getD i (0,0))<|ps.getD j (0,0)) (λi j C hi hj I=>?_) (YF ⋯) ⟨ep,rfl⟩)) ?_ λ_ _ e=>e)
  ·show wpAny _ _ (keyLt' _ (vs.getD i Mu)<|vs.getD j Mu) C _ _
   rw[show vs.getD i Mu=vs[i]by simp[hi],show vs.getD j Mu=vs[j]by simp[hj]];obtain⟨x,ox,xs,m,t,u,f,e2,e3,e4,X⟩:=M i hi;obtain⟨y,oy,ys,m',t',u',d1,d2,d3,d4,S⟩:=M j hj;rw[f,d1];refine kat_lt e2 e4 d2 d4 ?_;have bn:xs.size=2:=by rw[<- Nj,X];rfl
   have br:ys.size=2:=by rw[<- Nj,S];rfl
   rw[X,S,bn,br,List.zip_cons_cons,List.zip_cons_cons];unfold wB at I;generalize ps.getD i (0,0)=U at I ⊢;generalize ps.getD j (0,0)=X2 at I ⊢;refine kat_cons<|Pn U.1 t X2.1 t' _ _ _ _ ?_;refine kat_go (λO=>?_) λO=>?_
   ·have O:U.1=X2.1:=by simpa using O
    rw[RY O]at I;refine kat_yes<|kat_cons<|Pn U.2 u X2.2 u' _ _ _ _<|kat_go (λJ=>?_) λJ=>?_
    ·have J:U.2=X2.2:=by simpa using J
     refine kat_yes<|kat_nil ?_;rw[show decide (U.2<X2.2)=ed by rw[J];simp]at I;exact I
    ·exact kat_no<|kat_one _ _<|lt_int I
   ·have O:U.1≠X2.1:=by simpa using O
    rw[EQ O]at I;exact kat_no<|oneLt_int I
  rintro⟨⟨⟩,B⟩ r ⟨p,bt,hf,hp,rfl⟩;dsimp only;have bx:=kat_snds rfl bt;have c0:((xV ps).map λi=>vs.getD i Mu).length=vs.length:=by rw[Ly,(qR ps).length_eq,LP,L]
  rw[bx,hp];refine IU<|seqEpoch_at d rfl ?_;refine IU<|listUpdate_at d rfl ?_ (Ms _) (by rw[Li];show((xV ps).map λi=>vs.getD i Mu).length<=_;rw[c0];exact Rl K);rw[hf];simp only[bne_self_eq_false,Mg,if_false];subst hg;exact Lf h
theorem K3{l:eg}{vs:List eh}{ps:List (Int×Int)}{Q:RQ}(U:s.heap.IsList l vs.toArray)(C:ps.length=vs.length)(H:vs.length<64)
 (J : ∀i (hi:i<vs.length),Df s.heap vs[i] (ps.getD i (0,0)).1 (ps.getD i (0,0)).2)
 (h:Q (.ref<|s.heap.objs.size+1) {s with heap:=sortedAll s.heap vs (Ow<|(xV ps).map λi=>vs.getD i Mu)}) :
 wpAny (eY prog w) A (call (.builtin "sorted") [.ref l]) Q E s:=by
 have d:vs.length<=gv:=by rw[Rh];omega
 refine Calls.call_function_entry kind_sorted plain_sorted entry_sorted (args_sorted1 _) ?_;unfold wh.«sorted»;refine IU (m:=checkCount "sorted" 1 1 _) (Lf ?_);refine IU (collect_list U ?_ d);refine IU (wpAny_newList ?_ d);have a:((s.heap.push (ng "list" #[] 0)).update s.heap.objs.size (MH (· ++ vs.toArray))).objs.size=s.heap.objs.size+1:=by rw[Rq,size_push']
 have O:(((s.heap.push (ng "list" #[] 0)).update s.heap.objs.size (MH (· ++ vs.toArray))).push (ng "list" vs.toArray 0)).get? (s.heap.objs.size+1)=bQ (ng "list" vs.toArray 0):=by rw[<- a];exact Lv _ rfl
 have keep : ∀b o,s.heap.get? b=bQ o->(((s.heap.push (ng "list" #[] 0)).update s.heap.objs.size (MH (· ++ vs.toArray))).push (ng "list" vs.toArray 0)).get? b=bQ o:=λb o q=>by have I:b<s.heap.objs.size:=Ln q;rw[Pe _ _ _ (by rw[a];exact Lw (Mk I)),Heap.get?_update_ne _ _ _ _ (Lw I),Pe _ _ _ (Lw I)];exact q
 show wpAny _ _ _ _ _ {s with heap:=((s.heap.push (ng "list" #[] 0)).update s.heap.objs.size (MH (· ++ vs.toArray))).push (ng "list" vs.toArray 0)};rw[a];refine IU (Nq (ML slot_list_sort ⟨_,O,rfl⟩ entry_list_sort (JO (s:={s with heap:=((s.heap.push (ng "list" #[] 0)).update s.heap.objs.size (MH (· ++ vs.toArray))).push (ng "list" vs.toArray 0)}) O C H (λi hi=>(J i hi).keep λb o e _=>keep b o e) ⟨_,rfl,?_⟩) (args_list_sort _)));exact Lf ⟨_,rfl,h⟩
end
section
variable{X:Cx}
noncomputable def Aq(K:IT):List V->Hp->VK->Prop:=λe H Q=>∃l b d,e=[.ref l]/\gm K H l b/\d.length=b.length/\b.length<64/\
 (∀i (f:i<b.length),∃a,b[i]=V.ref a/\hB K H a [.int ((d:List (Int×Int)).getD i (0,0)).1,.int (d.getD i (0,0)).2])/\∀p,H p=none->Q (.ref p) (upd H p<|.lst<|(xV d).map λi=>b.getD i .e7)
theorem YQ:ZS X (.builtin "sorted") (Aq X.K):=by
 intro B s σ H vs us Q I rv h;obtain⟨l,g,ps,rfl,R,y,ax,J,C⟩:=h;obtain⟨u,rfl,ru⟩:=ZJ rv;cases ru;obtain⟨d,r,pl,T⟩:=I.list R;have b0:=r.length;refine K3 (ps:=ps) pl.isList ⋯ ⋯ (λi f=>?_) ?_
 ·obtain⟨a,F,G⟩:=J i ⋯
  obtain⟨v,O,g2⟩:=r.get (i:=i) (x:=V.ref a) (by rw[IX ⋯,F]);have S:d[i]=v:=by rw[IX f]at O;exact LR O
  rw[S];cases g2;obtain⟨E,Z,⟨o,P,L,n,M⟩,_⟩:=I.tuple G;obtain⟨U,w,rfl,m,p⟩ : ∃U w,E=U::w/\RelV (.int (ps.getD i (0,0)).1) U/\fm [.int (ps.getD i (0,0)).2] w:=by
   cases Z with
   | cons m p=>exact⟨_,_,rfl,m,p⟩
  obtain⟨v2,rfl,Y⟩:=ZJ p;obtain⟨t,rfl⟩:=m;obtain⟨u,rfl⟩:=Y;exact⟨a,o,_,n,t,u,rfl,P,L,M,rfl⟩
 ·obtain⟨e,A⟩:=sortedAll_at s.heap d (Ow<|(xV ps).map λi=>d.getD i Mu)
  have z:((xV ps).map λi=>g.getD i V.e7).length=g.length:=by rw[Ly,(qR ps).length_eq,LP,y]
  refine⟨.ref<|s.heap.objs.size+1,_,I.laid (t':=s.toks) (o:= .lst ((xV ps).map λi=>g.getD i .e7)) (λb o q=>sortedAll_old q) (Nat.le_succ _) ?_,rfl,C _<|I.gB.fresh<|Nat.le_succ _⟩;refine⟨by rw[z];exact T,(xV ps).map λi=>d.getD i Mu,e,?_,A⟩;have k : ∀i∈xV ps,i<g.length:=λi f=>by have:=(qR ps).mem_iff.mp f;rw[y]at this;exact IV.mp this
  generalize xV ps=o at k;clear z A
  induction o with
  | nil=>exact .nil
  | cons i o W=>
   have f:=k i Lp;refine .cons ?_ (W λj N=>k j<|Lj _ N);obtain⟨v,O,g2⟩:=r.get (i:=i) (x:=g[i])<|IX f;show RelV (g.getD i V.e7) (d.getD i Mu);rw[IZ,IZ,IX f,O];exact g2
theorem WB : ∀{ds:List D} {ps:List (Int×Int)},ZF ds=bQ ps->∀(i:Nat) d,ds[i]? = bQ d->d = .tup [.int (ps.getD i (0,0)).1,.int (ps.getD i (0,0)).2]
 | [],ps,h,i,d,hd=>by simp at hd
 | c::ds,ps,h,i,d,hd=>by
  obtain⟨k,a,h⟩:=zg h;obtain⟨l,b,h⟩:=zJ h;subst h;cases i with
  | zero=>
   simp at hd;subst hd;unfold lR at a;split at a
   ·cases a;rfl
   ·cases a
  | succ i=>simpa using WB b i d (by simpa using hd)
theorem Yb{K:IT}{H:Hp}{ds:List D}{xs:List V}(r:ej K H ds xs) : ∀(o:List Nat),(∀i∈o,i<xs.length)->ej K H (o.map λi=>ds.getD i .e7) (o.map λi=>xs.getD i .e7)
 | [],_=>ej.nil
 | i::o,h=>by have a:=h i Lp;obtain⟨d,b,I⟩:=r.FG<|IX a;refine ej.cons ?_ (Yb r o λj O=>h j<|Lj _ O);show Rep K H (ds.getD i .e7) (xs.getD i .e7);rw[IZ,IZ,IX a,b];exact I
theorem lE{J:g9}{N L:List Str}{k:Nat}{e:eu}{pos p:g8}{C:CO (Sk×List D)}(h:SX X J N L k)(c:vp J "sorted" = dt)(z:X.mg "sorted" = none)(Y:PQ X e C)(hs:f6 [e] X.env=[(ed,eA e X.env)]:=by rfl) :
 PO X (.Call (.Name "sorted" p) [e] [] pos) (cU C):=
 qC (kO YQ (h.gl c).1 z ⋯ (jO Y xy hs) ⋯ ⋯ hs rfl) λσ H Q R=>by
  obtain⟨t,γ,u,rc,I,q⟩:=R;obtain⟨⟨W,g⟩,w,I⟩:=zg I;cases W with
  | T=>cases I
  | L=>
   have I:cN g=bQ u:=I;unfold cN at I;obtain⟨s,m,I⟩:=zg I;by_cases U:g.length<64
   ·rw[RY U]at I
    cases I;have ac:=Yl m;refine⟨t,γ,.L,g,rc,w,λa xs H' f ext E h2 r=>?_⟩;have ae:=r.length;refine⟨a,xs,s,rfl,E,by omega,by omega,λi j=>?_,λl O=>?_⟩
    ·obtain⟨d,S,Z⟩:=r.FG (IX j)
     have B:=WB m i d S;subst B;obtain⟨b,zs,A,o,F⟩:=w9 Z;refine⟨b,A,?_⟩;obtain⟨y,yr,x,G,K⟩:=F.o7;obtain⟨y2,an,n,M,P⟩:=K.o7;rw[P.tr]at n;rw[x,n,jN G,jN M]at o;exact o9 ext.sub o
    ·refine q l _ _ f (ext.trans<|Ext.hide ext.sub O _) (JJ ext.s1 O) (j3 ext.sub O) zU ?_
     refine Yb r _ λi j=>?_;have:=(qR s).mem_iff.mp j;have:=IV.mp this;omega
   ·rw[EQ U]at I;cases I
end
section
variable{X:Cx}{a b c:eu}{pos:g8}{fa fb fc:CO D}
theorem du{U C:CmpOp}{r J:R2}{F G:D->D->Option D}(ho:iU X (o4 U) r)(L:iU X (o4 C) J)(s1:m7 X.K r F)(s2:m7 X.K J G)(ha:PV X a fa)(hb:PV X b fb)(hc:PV X c fc)
 (hm:R9 [U,C] [b,c]=ed:=by with_unfolding_all rfl):ml X (.Compare a [U,C] [b,c] pos) (sB<|kK F G fa fb fc):=
 aQ (lj ho L ha hb hc hm) λσ H Q hZ=>by
  obtain⟨i,h,kq,rc,A,q0⟩:=hZ;obtain⟨d,I,Z⟩:=zg A;have q : ∀v f e,Ext i H e f->Rep X.K e d v->∃k,v = .bl k/\Q k f:=λv f e x o=>by rw[Jg Z]at o;exact⟨kq,o,q0 f e x⟩
  obtain⟨x,P,I⟩:=zg I;obtain⟨y,R,I⟩:=zg I;obtain⟨k,S,I⟩:=zg I;obtain⟨l,T,m⟩:=zg S;refine⟨i,h,x,rc,P,λv1 H1 B x1 r1=>⟨B,h,y,rc.ext x1,R,λp s E O n=>s1 E s v1 p x y l _ O.sub (r1.mono O.s0) n T λv3 t j x3 r3=>?_⟩⟩;cases l with
  | bl k'=>
   cases m;refine⟨k,show v3 = .bl k from r3,?_⟩;cases k with
   | true=>
    rw[RY rfl];rw[RY rfl]at I;obtain⟨z,W,Y⟩:=zg I;exact⟨j,h,z,((rc.ext x1).ext O).ext x3,W,λv4 u M g r4=>s2 M u p v4 y z d _ g.sub ((n.mono x3.s0).mono g.s0) r4 Y λv5 w N x5 r5=>q v5 w N (((x1.trans O).trans x3).trans (g.trans x5)) r5⟩
   | false=>
    rw[EQ ⋯];rw[EQ ⋯]at I;cases I;exact q _ t j ((x1.trans O).trans x3) rfl
  | _=>cases m
end
end DL
namespace DL
open PySem PySem.Spec PyProof.Rows L2
theorem Xz{H:Hp}{x:eg}{o C:HO}:upd (upd H x o) x C=upd H x C:=by
 funext b;by_cases h:b=x
 ·subst h;rw[zU,zU]
 ·rw[zS h,zS h,zS h]
section
variable{X:Cx}{pins:RW}{σ:St}{H H0:Hp}{s:eF}
theorem mV{ta:TA}{L J:eu}{p pos:g8}{Q:RQ}{xs ys:List V}(I:Inv X pins σ H s)(hg:Gl X "zip")(hm:X.mg "zip" = none)(ha:PA X [L,J] ta)
 (h:ta σ H λvs C=>∃k1 k2 a b,vs=[.ref a,.ref b]/\(∃xs,lp k1 X.K C a xs)/\(∃ys,lp k2 X.K C b ys)/\
   ∀Y z TI TO Z i2,Inv X pins σ C Y->xc z TI TO Z i2 a b->B8 k1 k2 z TI TO Z i2 a b 0 Y.heap->q5 Y.heap z TI TO .none->(∀c ∈ [z,TI,TO,Z,i2],Ks X pins C c)->Q (.ref z) Y)
 (hs:f6 [L,J] X.env=[(ed,eA L X.env),(ed,eA J X.env)]:=by rfl) (a2:f6 [J] X.env=[(ed,eA J X.env)]:=by rfl) :
 wpAny (eY X.prog X.w) X.A (eA (.Call (.Name "zip" p) [L,J] [] pos) X.env) Q X.xe s:=by
 refine H9 (vD I hg hm PyProof.Rows.boot_zip<|MB (fk (ha pos pins s σ H _ I h) λus d R=>?_) (by rw[hs,a2])<|by rw[a2];rfl);obtain⟨vs,C,O,r1,W⟩:=R;obtain⟨k1,k2,a,b,e,⟨xs,B⟩,⟨ys,E⟩,q⟩:=W;subst e;obtain⟨w1,w2,P,G,M⟩:=ik r1;subst P;cases G;cases M;obtain⟨as,be,l,z1⟩:=O.sq B;obtain⟨N,bg,r,z2⟩:=O.sq E;have S:=l.lt;have T:=r.lt;refine callType_new F.called_zip ⋯ (F.typeCall_zip_2 _ _) (F.newCall_zip_2 _ _) (λobj=>F.args_object_init_3 obj _ _) F.entry_zip_new (V2 k1 k2 a b as.toArray N.toArray) ⟨l,r,?_⟩;have keep : ∀c o,d.heap.get? c=bQ o->(yQ k1 k2 d.heap a b).get? c=bQ o:=λc o e=>
  IW _ (IW _<|IW _<|IW _<|IW _ e)
 have t:(LL d.heap<|i7 k1 a).objs.size=d.heap.objs.size+1:=Mn ..;have u:(LL (LL d.heap<|i7 k1 a)<|i7 k2 b).objs.size=d.heap.objs.size+2:=by rw[Mn,t]
 have x:(LL (LL (LL d.heap<|i7 k1 a)<|i7 k2 b)<|ky (.ref d.heap.objs.size)<|.ref<|d.heap.objs.size+1).objs.size=d.heap.objs.size+3:=by rw[Mn,u]
 have y4:(LL (LL (LL (LL d.heap<|i7 k1 a)<|i7 k2 b)<|ky (.ref d.heap.objs.size)<|.ref<|d.heap.objs.size+1)<|ky .none .none).objs.size=d.heap.objs.size+4:=by rw[Mn,x]
 have g0:i8 k1 (yQ k1 k2 d.heap a b) d.heap.objs.size a 0:=(JQ k1 d.heap a).at λo e=>IW _<|IW _<|IW _<|IW _ e;have g1:i8 k2 (yQ k1 k2 d.heap a b) (d.heap.objs.size+1) b 0:=by have q:=JQ k2 (LL d.heap<|i7 k1 a) b;rw[t]at q;exact q.at λo e=>IW _<|IW _<|IW _ e
 have g2:l6 (yQ k1 k2 d.heap a b) (d.heap.objs.size+2) (.ref d.heap.objs.size) (.ref<|d.heap.objs.size+1):=by have q:_=bQ (ky (.ref d.heap.objs.size)<|.ref<|d.heap.objs.size+1):=Lv (LL (LL d.heap<|i7 k1 a)<|i7 k2 b) (o:=ky (.ref d.heap.objs.size)<|.ref<|d.heap.objs.size+1) rfl;rw[u]at q;exact IW _<|IW _ q
 have g3:l6 (yQ k1 k2 d.heap a b) (d.heap.objs.size+3) .none .none:=by have q:_=bQ (ky .none .none):=Lv (LL (LL (LL d.heap<|i7 k1 a)<|i7 k2 b)<|ky (.ref d.heap.objs.size)<|.ref<|d.heap.objs.size+1) (o:=ky .none .none) rfl;rw[x]at q;exact IW _ q
 have i:q5 (yQ k1 k2 d.heap a b) (d.heap.objs.size+4) (d.heap.objs.size+2) (d.heap.objs.size+3) .none:=by have q:=Lv (LL (LL (LL (LL d.heap<|i7 k1 a)<|i7 k2 b)<|ky (.ref d.heap.objs.size)<|.ref<|d.heap.objs.size+1)<|ky .none .none) (o:=CB (d.heap.objs.size+2)<|d.heap.objs.size+3) rfl;rw[y4]at q;exact q
 refine⟨⟨_,i,rfl⟩,?_⟩;have y:Inv X pins σ C {d with heap:=yQ k1 k2 d.heap a b,toks:=d.toks}:=O.kept keep;have U : ∀m:Nat,a≠d.heap.objs.size+m:=λm=>Lw<|LA S<|LY _ m;have g : ∀m:Nat,b≠d.heap.objs.size+m:=λm=>Lw<|LA T<|LY _ m;have f : ∀m n:Nat,m≠n->(d.heap.objs.size+m:Nat)≠d.heap.objs.size+n:=λm n h=>by omega
 have D:xc (d.heap.objs.size+4) (d.heap.objs.size+2) (d.heap.objs.size+3) d.heap.objs.size (d.heap.objs.size+1) a b:=
  ⟨f 2 4 ⋯,f 3 4 ⋯,f 0 4 ⋯,f 1 4 ⋯,f 2 3 ⋯,f 2 0 ⋯,f 2 1 ⋯,f 3 0 ⋯,f 3 1 ⋯,f 0 1 ⋯,
   U 4,U 3,U 0,U 1,g 4,g 3,g 0,g 1⟩
 refine q _ _ _ _ _ _ y D ⟨.inl i,g2,⟨_,_,g3⟩,g0,g1⟩ i λc k=>?_;have j:d.heap.objs.size<=c:=by
  simp only[Lo,LI,or_false]at k;rcases k with rfl | rfl | rfl | rfl | rfl
  ·exact LY _ _
  ·exact LY _ _
  ·exact LY _ _
  ·exact Le _
  ·exact LY _ _
 exact O.DY j<|O.gB.fresh j
theorem JV{o:HO}{c p:eg}(h:Ks X pins H c)(I:c≠p):Ks X pins (upd H p o) c:=⟨by rw[zS I];exact h.1,h.2⟩
end
noncomputable def CH(f:CO D)(γ:Ctx):Option (List D):=((f γ).bind l0).bind λn=>if inR n=dt/\n.toNat<=lim then bQ (kM 0 n.toNat)else none
@[simp] def uA:=@CH.eq_1
noncomputable def EF(ds es fs:List D):List D:=(ds.zip<|es.zip fs).map λp=>D.tup [p.1,p.2.1,p.2.2]
noncomputable def HU(f g h:CO D)(γ:Ctx):Option (List D):=((f γ).bind je).bind λm=>((g γ).bind je).bind λn=>((h γ).bind je).map λo=>EF m.2 n.2 o.2
@[simp] def Gd:=@HU.eq_1
noncomputable def QC(i:Nat)(g:CO (Sk×List D)):CO Fl:=λb=>(qL b[i]?).bind λd=>(g b).bind λa=>match a.1 with
 | .T=>if d.length+a.2.length<=lim then bQ (.next<|b.set i<|.own<|d++a.2)else none
 | .L=>none
end DL
namespace L2
open PySem PySem.Spec PyProof.Rows
theorem bK(l b:eg)(its:Array eh)(n:Nat)(I:Array eh)(n2:Nat)(o:l7)(C : ¬(!its.isEmpty && NI (its.size+I.size))=dt)(H:its.size<=gv)(J:its.size+I.size<=gv+1) :
 E1 (wh.«list.extend» ⟨[.ref l,.ref b],[]⟩) (λ_ R s=>s.heap.get? l=bQ {cls:= .type "list",dict:=none,data:= .seq its n,slots:=#[]}/\s.heap.get? b=bQ o/\o.cls = .type "tuple"/\o.data = .seq I n2/\R (.ok (.ret Mu)) {s with heap:=s.heap.update l (MH λx=>x++I)}):=
 .of_wp λa w A R s h=>by
  obtain⟨O,U,f,g,h⟩:=h;have d:(its++I).size<=gv+1:=by rw[Array.size_append];exact J
  refine IU (m:=PySem.selfAndOne "list.extend" ⟨[.ref l,.ref b],[]⟩) (Lf ?_);show wpAny _ _ (Nc (.ref l) (.ref b) .none) _ _ s;unfold Nc;refine IU (m:=typeOf (.ref b)) (Ph ⟨o,U,f⟩ ?_);have e:(OG (.ref l) (.ref b) || Nf "tuple" == Nf "list" || Nf "tuple" == Nf "tuple")=dt:=by simp
  rw[RY e];refine IU (m:=NT<|.ref b) ?_;unfold NT;refine IU (m:=seqItems?<|.ref b)<|MQ U g<|Lf ?_;refine IU ?_;refine IU (m:=seqItems?<|.ref l)<|MQ O rfl<|Lf ?_;rw[EQ C];exact IU (m:=updateSeq l λx=>x++I)<|OY O rfl (hz:=H) (_hz':=d)<|Lf ⟨_,rfl,h⟩
noncomputable def Ff(K:IT):V->List V->Hp->VK->Prop:=λx e H Q=>∃l b a d,x = .ref l/\e=[.ref b]/\H l=bQ (.lst a)/\hB K H b d/\a.length+d.length<=gv/\Q .e7 (upd H l<|.lst<|a++d)
theorem sH{X:Cx}:O9 X "list.extend" (Ff X.K):=by
 intro f s N H x J v G Q I A y h;obtain⟨l,b,L,M,rfl,rfl,U,j,E,q⟩:=h;cases A;obtain⟨u,rfl,w⟩:=y.one;cases w;obtain⟨z,a,n,r,C,e⟩:=I.F3 U;obtain⟨O,g,⟨o,p,k,t,m⟩,B⟩:=I.tuple j;have Ik:=r.length;have Ij:=g.length;have d:a.toArray.size+O.toArray.size<=gv:=by rw[Li,Li];omega
 have i : ¬(!a.toArray.isEmpty && NI (a.toArray.size+O.toArray.size))=dt:=by rw[ma d,Bool.and_false];exact LN
 refine OC F.slot_list_extend ⟨_,e,rfl⟩ F.entry_list_extend (F.args_list_extend_2 _ _) (bK l b a.toArray n O.toArray t o i (by rw[Li];omega) ⋯) ⟨e,p,k,m,?_⟩;exact⟨.e7,_,I.Dk (its':=a++O) U e ⋯ (r.append g) (by rw[Md];omega),rfl,q⟩
end L2
namespace DL
open PySem PySem.Spec PyProof.Rows L2
section
variable{X:Cx}{sc:g9}{N L:List Str}{k:Nat}{a:eu}{g:CO (Sk×List D)}{pos:g8}
theorem Ww(i:Nat){x:Str}{C cpos O:g8}(h:SX X sc N L k)(c:Jk sc N i x=dt)(ha:PQ X a g)(hs:f6 [a] X.env=[(ed,eA a X.env)]:=by rfl)
 (J:DQ (.Name x O) "extend" X.env (eA (.Name x O) X.env)=eA (.Name x O) X.env:=by rfl)
 (Y:((rh cpos<|starEach [a] X.env).all (λx=> !x.1) && (RH cpos<|keywordEach [] X.env).all (λx=>x.1.isSome)
   && decide ([a].length+([]:List Dv).length+(if ([]:List Dv).isEmpty then 0 else 1)<30))=dt:=by rfl)
 (Z:(C.endLine==cpos.line)=dt:=by rfl) (a7:vu (.Call (.Attribute (.Name x O) "extend" C) [a] [] cpos) none pos.line X.env=pure ed:=by rfl) :
 lh X (.Expr (.Call (.Attribute (.Name x O) "extend" C) [a] [] cpos) pos) (QC i g):=
 kY (JF (sf NV PySem.F.slot_list_extend PySem.F.type_list_extend sH (h.var c) (jO ha xy hs) J Y Z hs rfl) a7) λD P H A=>by
  obtain⟨E0,E,s,r,z,U,I,u⟩:=A;obtain⟨d,e,I⟩:=zg I;obtain⟨⟨G,f⟩,y,I⟩:=zg I;have e:=xY e;cases G with
  | L=>cases I
  | T=>
   have I:(if d.length+f.length<=lim then bQ (Fl.next<|r.set i<|.own<|d++f)else none)=bQ z:=I;by_cases o:d.length+f.length<=lim
   ·rw[RY o]at I;cases I
    obtain⟨l,xs,j,M,m,n⟩:=U.rc.own i d e;refine⟨_,j,.inl ⟨rfl,_,gm.of m⟩,s,r,.T,f,U.rc,y,λb p K t x g1 g2 g3=>?_⟩;have B:xs.length+p.length<=gv:=by
     rw[n.length,g3.length];have:lim<=gv:=by decide
     omega
    refine⟨l,b,xs,p,rfl,rfl,x.s1 _ _ m,g1,B,?_⟩;have w:=U.step x;exact u _ _ _<|w.rewrite (xs:=xs) e j<|(n.mono x.s0).append g3
   ·rw[EQ o]at I;cases I
end
section
variable{X:Cx}{sc:g9}{N L:List Str}{k:Nat}
theorem rX{scope:g9}{own:List Str}{fr:List (Str×Nat)}{elt tg C:eu}{cpos:g8}{J:CO (List D)}{T:Tg}{f:CO (List D)}
 (I:X.calm=dt) (ok:qq X scope fr) (O : ∀i∈T.idx,i<own.length) (hi:rb X tg C J) (U : ∀fp Z Y,PG (jx X scope (own++fr.map (·.1)) fp Z Y) tg<|p6 X.K T)
 (he : ∀fp Z Y,PO (jx X scope (own++fr.map (·.1)) fp Z Y) elt f) (hs : ∀x,n6 C X.env x=pure x:=by intro _;rfl) :
 PE X (.ListComp elt [⟨tg,C,[],0⟩] scope cpos) (tN X.K<|QT J T own.length (fr.map (·.2)) f):=
 qC (XZ (te:=tO X.K f) I ok hi U (λ_ _ _=>ZV) he hs) (Xo O λh H Q e=>by obtain⟨a,g,b,rc,d,q⟩:=e;cases d;exact q H a<|Ext.refl rc.sub)
end
noncomputable def cV(f g:CO D)(γ:Ctx):Option (List D):=((f γ).bind je).bind λm=>((g γ).bind je).bind λn=>if m.2.length<=lim then bQ (vZ m.2 n.2)else none
@[simp] def nC:=@cV.eq_1
section
variable{prog:i3}{w:h8}{A:nh}{E:RQ}{s:eF}
theorem pb{k1 k2:Sk}{z TI TO C H J L:eg}{n:Nat}{xs ys:Array eh}{x y:eh}{Q:Option eh->eF->Prop}(D:xc z TI TO C H J L)
 (Z:B8 k1 k2 z TI TO C H J L n s.heap) (Y:l8 k1 s.heap J xs) (an:l8 k2 s.heap L ys) (hx:xs[n]? = bQ x) (hy:ys[n]? = bQ y)
 (hQ : ∀h',B8 k1 k2 z TI TO C H J L (n+1) h'->l6 h' s.heap.objs.size x y->(∀c o,c ∉ [z,TI,TO,C,H]->s.heap.get? c=bQ o->h'.get? c=bQ o)->Q (bQ (.ref s.heap.objs.size)) {s with heap:=h'}) :
 wpAny (eY prog w) A (A7<|.ref z) Q E s:=by
 obtain⟨a,j,⟨c,e,m⟩,p,r⟩:=Z;unfold A7;rcases a with a | ⟨al,b,oa,a,ha⟩
 ·have U:s.TypeIs (.ref z) "zip":=⟨_,a,rfl⟩
  refine IU (OT (Mo (name:=MT "__next__") U MO (ML MO U NY
   (KB D a j m p r Y an hx hy λg d F f h i G O=>Lf ?_) (NO _))))
  refine hQ g ⟨.inr ⟨s.heap.objs.size,ed,_,d,i⟩,O _ _ D.TIz D.TITO D.TIi1 D.TIi2 j,⟨_,_,F⟩,f,h⟩ i λc o I q=>?_;simp only[Lo,LI,or_false,not_or]at I;exact O c o I.1 I.2.2.1 I.2.2.2.1 I.2.2.2.2 q
 ·have U:s.TypeIs (.ref z) "zip":=⟨_,a,rfl⟩
  refine IU (OT (Mo (name:=MT "__next__") U MO (ML MO U NY
   (ck D a ha j p r Y an hx hy λg d f h i G O=>Lf ?_) (NO _))))
  have k : ∃l,g.get? al=bQ l:=by
   by_cases t:al=z
   ·exact⟨_,(congrArg g.get? t).trans d⟩
   ·by_cases u:al=C
    ·obtain⟨o,e,_⟩:=f.obj;exact⟨o,u ▸ e⟩
    ·by_cases B:al=H
     ·obtain⟨o,e,_⟩:=h.obj;exact⟨o,B ▸ e⟩
     ·exact⟨oa,O al oa t u B ha⟩
  obtain⟨l,k⟩:=k;refine hQ g ⟨.inr ⟨al,dt,l,d,k⟩,O _ _ D.TIz D.TIi1 D.TIi2 j,⟨_,_,O _ _ D.TOz D.TOi1 D.TOi2 m⟩,f,h⟩ i λc o I q=>?_;simp only[Lo,LI,or_false,not_or]at I;exact O c o I.1 I.2.2.2.1 I.2.2.2.2 q
end
theorem B8.keep{k1 k2:Sk}{z TI TO C H a b:eg}{n:Nat}{h h':fy}(Z:B8 k1 k2 z TI TO C H a b n h)(k : ∀c ∈ [z,TI,TO,C,H],∀o,h.get? c=bQ o->h'.get? c=bQ o)(e : ∀c o,h.get? c=bQ o->∃J,h'.get? c=bQ J):B8 k1 k2 z TI TO C H a b n h':=by
 obtain⟨I,O,⟨c,d,U⟩,g,i⟩:=Z;refine⟨?_,k TI ⋯ _ O,⟨c,d,k TO ⋯ _ U⟩,g.at λo q=>k C ⋯ o q,i.at λo q=>k H ⋯ o q⟩;rcases I with I | ⟨al,bb,oa,I,a4⟩
 ·exact .inl<|k z ⋯ _ I
 ·obtain⟨f,j⟩:=e al oa a4
  exact .inr ⟨al,bb,f,k z ⋯ _ I,j⟩
theorem dr{h:fy}{o C:l7}{c:eg}(I:c≠h.objs.size)(q:(h.push o).get? c=bQ C):h.get? c=bQ C:=by unfold Heap.get? LL at q;unfold Heap.get?;simp only[Array.getElem?_push,EQ I]at q;exact q
theorem mT{H00 Hb C H:Hp}{S p:eg}{o L:HO}(E:Ext H00 Hb C H)(O:Hb S=none)(U:C S=none)(I:H p=none)(J:p≠S):Ext H00 Hb (upd C p o) (upd (upd H p o) S L):=by
 have e:C p=none:=j3 E.sub I;refine⟨E.s0.trans<|ju e o,λb u q=>?_,λb u q=>?_,λb a d=>?_⟩
 ·have a:=E.s1 b u q
  rw[zS (λz=>by rw[z,O]at q;cases q),zS (λz=>by rw[z,I]at a;cases a)];exact a
 ·by_cases z:b=p
  ·subst z
   rw[zU]at q;rw[zS J,zU];exact q
  ·rw[zS z]at q
   rw[zS (λy=>by rw[y,U]at q;cases q),zS z];exact E.sub b u q
 ·have:b≠p:=λz=>by
   cases q:Hb b with
   | none=>exact d q
   | some u=>have:=E.s1 b u q;rw[z,I]at this;cases this
  rw[zS this];exact E.new b a d
section
variable{X:Cx}{pins:RW}{σ:St}{A:nh}{R:Result->eF->Prop}{H00 Hb:Hp}{k1 k2:Sk}{z TI TO i1 i2 a b S:eg}{xs ys:List V}{ds es:List D}{res:eh}
theorem da{K:IT}{H:Hp}{d e:D}{x y:V}{p:eg}(C:Rep K H d x)(J:Rep K H e y)(I:H p=bQ (.tup [x,y])):Rep K H (.tup [d,e]) (.ref p):=
 show ∃a xs,V.ref p = .ref a/\hB K H a xs/\ej K H [d,e] xs from⟨p,[x,y],rfl,.inl<|.inl I,.cons C<|.cons J .nil⟩
theorem ff(hh:A.handled=none)(DA:xc z TI TO i1 i2 a b)(hS:Hb S=none) : ∀(m n:Nat) (s:eF) (H C:Hp) (acc:List D) (vs:List V),n+m=(ds.zip es).length->
 Inv X pins σ H s->Ext H00 Hb C H->C S=none->lp k1 X.K C a xs->lp k2 X.K C b ys->ej X.K C ds xs->ej X.K C es ys->ej X.K C acc vs->(∀c ∈ [z,TI,TO,i1,i2],Ks X pins H c)->B8 k1 k2 z TI TO i1 i2 a b n s.heap->H S=bQ (.lst vs)->vs.length+m<=gv->
 (∀s' L J Y,Inv X pins σ L s'->Ext H00 Hb J L->J S=none->L S=bQ (.lst Y)->ej X.K J (acc++(vZ ds es).drop n) Y->R (.ok<|.ret res) s')->
 codeAny (eY X.prog X.w) A (.builtin "list.extend.loop" ⟨[.ref S,.ref z,res],[]⟩) R s:=by
 intro m
 induction m with
 | zero=>
  intro n s H C acc vs T I E l u B i j ra G Z g hz hR;obtain⟨b6,p,W,z1⟩:=I.sq<|vv E.sub u;obtain⟨b8,r,p2,z2⟩:=I.sq<|vv E.sub B;have l1:=p.length;have l2:=r.length;have l3:=i.length;have l4:=j.length;simp only[List.length_zip,Oy]at T;refine codeAny_builtin F.entry_extend_loop ?_;rw[Around.under_plainId OV _];show wpAny _ A.in1 (A7 (.ref z) >>= _) _ _ s;refine IU<|uD (s:=s) hh DA Z W p2 (by rw[T];rcases Nat.le_total ds.length es.length with q | q;left;simp;omega;right;simp;omega) λh' k=>?_;refine Lf<|hR _ H C vs (I.Ol (t':=s.toks) (fp:=[z,TI,TO,i1,i2]) k G) E l g ?_;rw[List.drop_eq_nil_of_le (by unfold vZ;simp;omega),Nu];exact ra
 | succ m ih=>
  intro n s H C acc vs T I E l u B i j ra G Z g hz hR;obtain⟨b6,p,W,z1⟩:=I.sq<|vv E.sub u;obtain⟨b8,r,p2,z2⟩:=I.sq<|vv E.sub B;have l1:=p.length;have l2:=r.length;have l3:=i.length;have l4:=j.length;have ak:n<(ds.zip es).length:=by omega
  have bg:=ak;simp only[List.length_zip]at bg;have hk:ds[n]? = bQ ds[n]:=IX ⋯;have hy:es[n]? = bQ es[n]:=IX ⋯;obtain⟨x,ex,rx⟩:=i.get hk;obtain⟨y,ey,ry⟩:=j.get hy;obtain⟨u1,bt,bu⟩:=p.get ex;obtain⟨u2,bv,bx⟩:=r.get ey;have t:H s.heap.objs.size=none:=I.fresh;have M:s.heap.objs.size≠S:=λq=>by rw[q,g]at t;cases t
  refine codeAny_builtin F.entry_extend_loop ?_;rw[Around.under_plainId OV _];show wpAny _ A.in1 (A7 (.ref z) >>= _) _ _ s;refine IU (pb (s:=s) DA Z W p2 (x:=u1) (y:=u2) (by simpa using bt) (by simpa using bv) λh' Z' hP k=>?_);have I1:Inv X pins σ (upd H s.heap.objs.size (.tup [x,y])) {s with heap:=s.heap.push {cls:= .type "tuple",data:= .seq #[u1,u2]}}:=
   I.laid (t':=s.toks) (λb o e=>IW _ e) (Le _) (show m6 X.prog X.w _ _ _ (.tup [x,y])from⟨(show 2<=gv by decide),[u1,u2],.cons bu<|.cons bx .nil,wx.new _ _⟩)
  have np : ∀c ∈ [z,TI,TO,i1,i2],c≠s.heap.objs.size:=λc O q=>by
   obtain⟨d,c5,⟨c',e',c6⟩,g1,g2⟩:=Z;obtain⟨o1,N,_⟩:=g1.obj;obtain⟨o2,e2,_⟩:=g2.obj;have Q : ∃o,s.heap.get? z=bQ o:=by
    rcases d with d | ⟨_,_,_,d,_⟩
    ·exact⟨_,d⟩
    ·exact⟨_,d⟩
   obtain⟨oz,Q⟩:=Q;simp only[Lo,LI,or_false]at O;rcases O with rfl | rfl | rfl | rfl | rfl
   ·exact absurd q<|Lw<|Ln Q
   ·exact absurd q<|Lw<|Ln c5
   ·exact absurd q<|Lw<|Ln c6
   ·exact absurd q<|Lw<|Ln N
   ·exact absurd q<|Lw<|Ln e2
  have am : ∀c ∈ [z,TI,TO,i1,i2],Ks X pins (upd H s.heap.objs.size<|.tup [x,y]) c:=λc O=>JV (G c O)<|np c O;have I2:=I1.Ol (h':=h') (t':=s.toks) (fp:=[z,TI,TO,i1,i2]) (λc o O q=>by
   by_cases e:c=s.heap.objs.size
   ·rw[e]at q ⊢
    rw[Lv _ rfl]at q;cases q;exact hP
   ·exact k c o O<|dr e q) am
  have ap:upd H s.heap.objs.size (.tup [x,y]) S=bQ (.lst vs):=by rw[zS (LC M)];exact g
  obtain⟨zz,h,c0,rl,ll,P⟩:=I2.F3 ap;show wpAny _ A.in1 (updateSeq S (·.push (.ref s.heap.objs.size)) >>= _) _ _ _;refine IU ?_;refine OY P rfl (Lf ⟨plainId_quiet OV _,?_⟩) (by rw[Li];omega) (by show(h.toArray.push _).size<=gv+1;rw[Array.size_push,Li];omega);have nS : ∀c ∈ [z,TI,TO,i1,i2],c≠S:=λc O q=>by have:=(G c O).1;rw[q,g]at this;cases this
  have I3:=I2.Dk (t':=s.toks) (f:=(·.push (.ref s.heap.objs.size))) (its':=h++[.ref s.heap.objs.size]) (ys:=vs++[.ref s.heap.objs.size]) ap P ⋯ (rl.append<|.cons (show L2.RelV (.ref s.heap.objs.size) (.ref s.heap.objs.size)from rfl) .nil) (by rw[Md,MX];omega);have E3:Ext H00 Hb (upd C s.heap.objs.size<|.tup [x,y]) (upd (upd H s.heap.objs.size<|.tup [x,y]) S<|.lst<|vs++[.ref s.heap.objs.size]):=mT E hS l t M;have U:f9 C (upd C s.heap.objs.size<|.tup [x,y]):=ju (j3 E.sub t) _;refine ih (n+1) _ _ _ (acc++[.tup [ds[n],es[n]]]) (vs++[.ref s.heap.objs.size]) ⋯ I3 E3 (by rw[zS (LC M)];exact l) (vv U u) (vv U B) (i.mono U) (j.mono U) ((ra.mono U).append (.cons (da (rx.mono U) (ry.mono U) zU) .nil)) (λc O=>JV (am c O)<|nS c O) ?_ zU (by rw[Md,MX];omega) λs' L J Y I4 E4 y1 y2 y3=>hR s' L J Y I4 E4 y1 y2 ?_
  ·refine Z'.keep (λc O o q=>(MC _ _<|LC<|nS c O).trans q) λc o q=>?_
   by_cases e:c=S
   ·exact⟨_,by rw[e];exact Nm _ P rfl⟩
   ·exact⟨o,(MC _ _<|LC e).trans q⟩
  ·have N:(vZ ds es).drop n = .tup [ds[n],es[n]]::(vZ ds es).drop (n+1):=by
    have:n<(vZ ds es).length:=by unfold vZ;simpa using ak
    rw[Np this];congr 1;simp[vZ]
   rw[N];rw[Rf]at y3;exact y3
theorem ar:Sz (.type "zip") "__len__" = pure none:=by rw[typeLookup_type,TR];kernel_rfl
theorem Va:Sz (.type "zip") "__length_hint__" = pure none:=by rw[typeLookup_type,TR];kernel_rfl
theorem bO{Q:RQ}{J H:Hp}{s:eF}(I:Inv X pins σ H s)(hh:X.A.handled=none)(E:Ext H00 Hb J H)(DA:xc z TI TO i1 i2 a b)
 (h1:lp k1 X.K J a xs) (h2:lp k2 X.K J b ys) (r1:ej X.K J ds xs) (r2:ej X.K J es ys) (Z:B8 k1 k2 z TI TO i1 i2 a b 0 s.heap) (hz:q5 s.heap z TI TO .none) (hf : ∀c ∈ [z,TI,TO,i1,i2],Ks X pins H c) (hl:(ds.zip es).length<=gv)
 (hQ : ∀s' L C S Y,Hb S=none->Inv X pins σ L s'->Ext H00 Hb C L->C S=none->L S=bQ (.lst Y)->ej X.K C (vZ ds es) Y->Q (.ref S) s'):wpAny (eY X.prog X.w) X.A (call (.type "list") [.ref z]) Q X.xe s:=by
 have l:H s.heap.objs.size=none:=I.fresh;have r:Hb s.heap.objs.size=none:=JJ E.s1 l;have G:J s.heap.objs.size=none:=j3 E.sub l;refine callType_codes (Q₁:=λobj d=>obj = .ref s.heap.objs.size/\d = {s with heap:=s.heap.push {cls:= .type "list",data:= .seq #[]}}) F.called_list (F.typeCall_list_1 _) F.entry_list_init (code_list_new _ ⟨rfl,rfl⟩) ?_;rintro obj d ⟨rfl,rfl⟩;have y:Inv X pins σ (upd H s.heap.objs.size (.lst [])) {s with heap:=s.heap.push {cls:= .type "list",data:= .seq #[]}}:=I.S8 (its:=[]) (ys:=[]) (t':=s.toks) .nil (Ms _);have u:Ext H00 Hb J (upd H s.heap.objs.size (.lst [])):=E.trans (Ext.hide E.sub l _);have U:(s.heap.push {cls:= .type "list",data:= .seq #[]}).get? s.heap.objs.size=bQ {cls:= .type "list",data:= .seq #[]}:=Lv _ rfl;have nd : ∀c ∈ [z,TI,TO,i1,i2],c≠s.heap.objs.size:=λc O q=>by
  obtain⟨bg,M,⟨c',e',N⟩,g1,g2⟩:=Z;obtain⟨o1,j,_⟩:=g1.obj;obtain⟨o2,k,_⟩:=g2.obj;simp only[Lo,LI,or_false]at O;rcases O with rfl | rfl | rfl | rfl | rfl
  ·exact absurd q<|Lw<|Ln hz
  ·exact absurd q<|Lw<|Ln M
  ·exact absurd q<|Lw<|Ln N
  ·exact absurd q<|Lw<|Ln j
  ·exact absurd q<|Lw<|Ln k
 refine⟨⟨_,U,rfl⟩,F.args_list_init_2 _ _,?_⟩;show wpAny _ X.A.in1.in1 (do let b7 <- NT (.ref s.heap.objs.size);Builtin.List.listUpdate (.ref s.heap.objs.size) (λ_=>#[]);letGo b7.toList.reverse;Nc (.ref s.heap.objs.size) (.ref z) .none) _ _ _;refine IU ?_;unfold NT;refine IU (MQ U rfl (Lf ?_));show wpAny _ _ (updateSeq s.heap.objs.size (λ_=>#[]) >>= λ_=>letGo (#[]:Array eh).toList.reverse >>= λ_=>Nc (.ref s.heap.objs.size) (.ref z) .none) _ _ _;refine IU (OY U rfl ?_);have m:=y.Dk (t':=s.toks) (f:=λ_=>#[]) (its:=[]) (its':=[]) (xs:=[]) (ys:=[]) zU U rfl .nil (Ms _);rw[Xz]at m;have g:=Nm (MH (λ_=>(#[]:Array eh))) U rfl;refine IU (wpAny_letGo ?_);unfold Nc;have h : ∀c o,c≠s.heap.objs.size->s.heap.get? c=bQ o->((s.heap.push {cls:= .type "list",data:= .seq #[]}).update s.heap.objs.size (MH (λ_=>(#[]:Array eh)))).get? c=bQ o:=λc o O q=>(MC _ _ (LC O)).trans (IW _ q);have u9:=h z _ (nd z ⋯) hz;refine IU (Ph (T:="zip") ⟨_,u9,rfl⟩ ?_);have j:OG (.ref s.heap.objs.size) (.ref z)=ed:=by have:=nd z ⋯;simp[OG,LC this]
 have k:(Nf "zip" == Nf "list")=ed:=by decide
 have R:(Nf "zip" == Nf "tuple")=ed:=by decide
 simp only[j,k,R,Bool.or_false,Mg,if_false];refine IU (RA u9 ?_);refine IU (Nq ?_);unfold Builtin.List.listLengthHint;refine IU (wpAny_specialOf (T:="zip") ⟨_,u9,rfl⟩ ar ?_);show wpAny _ _ (specialOf (MD z) (MT "__length_hint__") >>= _) _ _ _;refine IU (wpAny_specialOf (T:="zip") ⟨_,u9,rfl⟩ Va ?_);refine Lf ?_;show wpAny _ _ (rule "list.extend.makes-room" >>= λ_=>Builtin.List.listTouch (.ref s.heap.objs.size) >>= λ_=>
  again (.builtin "list.extend.loop" ⟨[.ref s.heap.objs.size,.ref z,.none],[]⟩)) _ _ _
 refine IU<|PR ?_;refine IU ?_;show wpAny _ _ (updateSeq s.heap.objs.size (·.push .none) >>= λ_=>updateSeq s.heap.objs.size (·.pop)) _ _ _;refine IU<|OY g rfl ?_;have i:=Nm (MH (·.push Mu)) g rfl;have n:=m.Dk (t':=s.toks) (f:=(·.push Mu)) (its:=[]) (its':=[.none]) (xs:=[]) (ys:=[.e7]) zU g rfl (.cons (show L2.RelV .e7 .none from rfl) .nil) ⋯;rw[Xz]at n;refine OY (hz:=by seq_fits) i rfl ?_;have P:=Nm (MH (·.pop)) i rfl;have p:=n.Dk (t':=s.toks) (f:=(·.pop)) (its:=[.none]) (its':=[]) (xs:=[.e7]) (ys:=[]) zU i rfl .nil ⋯;rw[Xz]at p;refine Lf ⟨plainId_quiet OV _,?_⟩;refine ff (A:=X.A.in1) (ds:=ds) (es:=es) (xs:=xs) (ys:=ys) (k1:=k1) (k2:=k2) (show X.A.in1.handled=none from hh) DA r (ds.zip es).length 0 _ (upd H s.heap.objs.size<|.lst []) J [] [] (LV _) p u G h1 h2 r1 r2 .nil (λc O=>JV (hf c O)<|nd c O) ?_ zU (by simpa using hl) λs' L C Y B x W y2 t=>?_
 ·refine Z.keep (λc O o q=>?_) λc o q=>?_
  ·exact(MC _ _<|LC<|nd c O).trans ((MC _ _<|LC<|nd c O).trans (h c o (nd c O) q))
  ·by_cases e:c=s.heap.objs.size
   ·exact⟨_,by rw[e];exact P⟩
   ·exact⟨o,(MC _ _<|LC e).trans ((MC _ _<|LC e).trans (h c o e q))⟩
 ·rw[Pq,List.drop_zero]at t
  exact⟨rfl,hQ s' L C _ Y r B x W y2 t⟩
end
section
variable{X:Cx}{sc:g9}{N L:List Str}{k:Nat}{a b:eu}{f g:CO D}{p p2 pos M8:g8}
theorem lF(h:SX X sc N L k)(Y:vp sc "list" = dt)(zd:X.mg "list" = none)(cz:vp sc "zip" = dt)(zz:X.mg "zip" = none)(ha:PV X a f)(hb:PV X b g)
 (hs:f6 [.Call (.Name "zip" p2) [a,b] [] M8] X.env=[(ed,eA (.Call (.Name "zip" p2) [a,b] [] M8) X.env)]:=by rfl)
 (J:f6 [a,b] X.env=[(ed,eA a X.env),(ed,eA b X.env)]:=by rfl) (C:f6 [b] X.env=[(ed,eA b X.env)]:=by rfl) :
 PO X (.Call (.Name "list" p) [.Call (.Name "zip" p2) [a,b] [] M8] [] pos) (cV f g):=by
 intro m s σ H Q I hZ;obtain⟨j,n,d,rc,O,q⟩:=hZ;obtain⟨⟨k1,K⟩,y,O⟩:=zg O;obtain⟨G,M,R⟩:=zg y;obtain⟨⟨k2,es⟩,B,O⟩:=zg O;obtain⟨F,P,T⟩:=zg B;have hh:X.A.handled=none:=I.ok.hd h.calm;dsimp only at O;by_cases l:K.length<=lim
 ·rw[RY l]at O
  cases O;refine Oq (vD I (h.gl Y).1 zd PyProof.Rows.boot_list (MB ?_ (by rw[hs];rfl) rfl) ⋯ ⋯);rw[hs];show wpAny _ _ (N1 ((ed,eA (.Call (.Name "zip" p2) [a,b] [] M8) X.env)::[])) _ _ s;refine OS (mV (xs:=[]) (ys:=[]) I (h.gl cz).1 zz (jO ha (jO hb xy C) (by rw[J,C])) ?_ J C);refine⟨j,n,G,rc,M,λv i e x r=>⟨e,n,F,rc.ext x,P,λv2 H2 br U r2=>?_⟩⟩;obtain⟨u,xs,rfl,g1,g2⟩:=XJ (r.mono U.s0) R;obtain⟨w,ys,rfl,g3,W⟩:=XJ r2 T;refine⟨k1,k2,u,w,rfl,⟨xs,vv U.sub g1⟩,⟨ys,vv U.sub g3⟩,λs2 z TI TO i1 i2 t o Z hz hf=>Rc ?_⟩;have xa:=x.trans U;refine bO (H00:=j) (Hb:=H) t hh xa o g1 g3 g2 W Z hz hf ?_ λs' i e S E y0 y1 y2 y3 y4 y5=>?_
  ·have:lim<=gv:=by decide
   simp only[List.length_zip];omega
  ·exact⟨.ref S,i,y1,rfl,q S E i e y2 y0 y3 y4 y5⟩
 ·rw[EQ l]at O;cases O
end
noncomputable def KG:List D->Option (List D×List D)
 | []=>bQ ([],[])
 | d::r=>match d with
  | .tup a=>match a with
   | [k,v]=>(KG r).map λp=>(k::p.1,v::p.2)
   | _=>none
  | _=>none
noncomputable def Ag(f:CO (List D))(γ:Ctx):Option D:=(f γ).bind λa=>(KG a).bind λp=>tE p.1 p.2
@[simp] def Ey:=@Ag.eq_1
noncomputable def EZ(C I:CO D):CO D:=λa=>(C a).bind λd=>(I a).bind λk=>match d with
 | .md b e=>(l0 k).bind λi=>uy b e i
 | _=>none
noncomputable def CJ(I C:CO D):CO D:=λa=>(I a).bind λk=>(C a).bind λd=>match d with
 | .md b e=>(l0 k).map λi=> .bl (uy b e i).isSome
 | _=>none
def FA:D->Option (List Int)
 | .tup a=>VB a
 | _=>none
noncomputable def BG:List D->Option (List<|List Int)
 | []=>bQ []
 | d::ds=>(FA d).bind λk=>(BG ds).map λr=>k::r
noncomputable def Af(f:CO (List D))(γ:Ctx):Option D:=(f γ).bind λb=>(KG b).bind λp=>(BG p.1).bind λa=>if a.Nodup/\a.length<=lim then bQ (.lq a p.2)else none
noncomputable def FM:List (List Int)->List D->List Int->Option D
 | k::ks,v::vs,i=>if k=i then bQ v else FM ks vs i
 | _,_,_=>none
noncomputable def Ia(C I:CO D)(γ:Ctx):Option D:=(C γ).bind λd=>(I γ).bind λk=>match d with
 | .lq a b=>(FA k).bind λi=>FM a b i
 | _=>none
noncomputable def FL(d k x:D):Option D:=match d with
 | .lq a b=>(FA k).map λi=>(FM a b i).getD x
 | _=>none
noncomputable def HY(C I fx:CO D)(γ:Ctx):Option D:=(C γ).bind λd=>(I γ).bind λk=>(fx γ).bind λx=>FL d k x
noncomputable def HW(f:CO D)(γ:Ctx):Option (List D):=(f γ).bind λd=>match d with
 | .lq a _=>bQ (a.map λk=> .tup (k.map .int))
 | _=>none
section
variable(γ:Ctx)
@[simp] def Ex:=@Af.eq_1
@[simp] def GB:=@Ia.eq_1
@[simp] def Gw:=@HY.eq_1
@[simp] def Gu:=@HW.eq_1
end
noncomputable def Hd:List (List Int)->List Int->List Int->Option Int
 | k::ks,n::ns,i=>if k=i then bQ n else Hd ks ns i
 | _,_,_=>none
noncomputable def eqT(ks:List (List Int))(C:List Int)(I:List (List Int))(O:List Int):Bool:=decide (ks.length=I.length) && (ks.zip C).all λx=>decide<|Hd I O x.1=bQ x.2
noncomputable def Hg(d e:D):Option Bool:=match d with
 | .lq a f=>match e with
  | .lq I O=>(VB f).bind λb=>(VB O).map λU=>eqT a b I U
  | _=>none
 | _=>none
@[simp] def IR(d e:D):Option D:=(Hg d e).map D.bl
@[simp] def IQ(d e:D):Option D:=(Hg d e).map λb=>D.bl<|!b
noncomputable def HV(f:CO D)(γ:Ctx):Option D:=(f γ).bind λd=>match d with
 | .lq a _=>bQ (.int a.length)
 | _=>none
@[simp] def Gr:=@HV.eq_1
abbrev TT:=List (List (List Int))
def mI:Cell->Bool
 | .no=>dt
 | .val _=>dt
 | _=>ed
inductive Pl where
 | out | tab (k:Nat) | row (k m:Nat)
deriving DecidableEq
theorem dE{γ:Ctx}(h:γ.all mI=dt) : ∀(i:Nat) ds,γ[i]? ≠ bQ (.own ds):=λi ds e=>by have:=Mz.mp h _<|LJ e;cases this
theorem dF{γ:Ctx}(h:γ.all mI=dt) : ∀(i:Nat) C,γ[i]? ≠ bQ (.nest C):=λi a e=>by have:=Mz.mp h _<|LJ e;cases this
theorem oj{γ:Ctx}(h:γ.all mI=dt)(j:Nat){c:Cell}(I:mI c=dt):(γ.set j c).all mI=dt:=by
 refine Mz.mpr λO U=>?_;rcases List.mem_or_eq_of_mem_set U with z | z
 ·exact Mz.mp h O z
 ·rw[z];exact I
section
variable{K:IT}{al:List (Nat×Pl)}{E0 E H0 H A4 H':Hp}{σ UD:St}{γ γ':Ctx}{Z:TT}{ad:Pl->eg}
theorem RC.pl(sub:f9 H0 H)(len:σ.length=γ.length)(val : ∀(i:Nat) d,γ[i]? = bQ (.val d)->∃v,σ[i]? = bQ (bQ v)/\Rep K H0 d v)(pn:γ.all mI=dt):RC K H0 H σ γ:=
 ⟨sub,len,val,λi b e=>absurd e<|dE pn i b,λi j a b f e=>absurd e<|dE pn i b,n7.DH<|dF pn⟩
theorem RS.pl(rc:RC K H0 H σ γ)(x:Ext E0 E H0 H)(pn:γ.all mI=dt):RS K E0 E H0 H σ γ:=
 ⟨rc,x,λi d a e=>absurd e<|dE pn i d,λi b a f e=>absurd e<|dF pn i b⟩
open Classical in
end
open Classical in
section
variable{H:Hp}{Z:TT}{ad:Pl->eg}
end
section
variable{X:Cx}{sc:g9}{N L:List Str}{k j i n w:Nat}{st:iS}{kn:List iS}{e e2:eu}{es:List eu}{f:CO D}{g:CO (List D)}{pos p:g8}{x:Str}{al:List (Nat×Pl)}
theorem eH{E H:Hp}{c:eg}(s:f9 E H)(h:H c=none):E c=none:=by
 cases q:E c with
 | none=>rfl
 | some o=>rw[s c o q]at h;cases h
end
noncomputable def Fn:Res->Option (Int×Int)
 | .val d=>match d with
  | .tup a=>match a with
   | [x,y]=>(l0 x).bind λi=>(l0 y).map λj=>(i,j)
   | _=>none
  | _=>none
 | .own _=>none
noncomputable def fv(F:List D->Option Res):List D->Option (List<|Int×Int)
 | []=>bQ []
 | d::r=>((F [d]).bind Fn).bind λp=>(fv F r).map λl=>p::l
noncomputable def nU(F:List D->Option Res)(f:CO (Sk×List D)):CO (List D):=λd=>(f d).bind λa=>match a.1 with
 | .L=>(fv F a.2).bind λb=>if a.2.length<64 then bQ ((xV b).map λi=>a.2.getD i .e7)else none
 | _=>none
section
variable{X:Cx}{sc:g9}{N L:List Str}{k j n i:Nat}{a b c e:eu}{es:List eu}{f:CO D}{g:CO (List D)}{p pos:g8}{x:Str}{st UJ UK:iS}{kn:List iS}{F:List D->Option Res}
open Classical in
def C4(H:Hp)(p:eg):Hp:=λc=>if c=p then none else H c
theorem M1{H:Hp}{p c:eg}(h:c≠p):C4 H p c=H c:=EQ h
end
section
variable{X:Cx}{sc:g9}{N L:List Str}{k j n i:Nat}{a b c e:eu}{es:List eu}{f:CO D}{g:CO (List D)}{p pos:g8}{x:Str}{st:iS}{body kn:List iS}{F:List D->Option Res}
theorem me{i:Nat}{f:CO D} : ∀γ I,jo i f γ=bQ I->∃γ',I = .next γ':=λγ I h=>by obtain⟨d,_,e⟩:=zJ h;exact⟨_,e.symm⟩
theorem eJ{f:CO D} : ∀γ I,rF f γ=bQ I->∃γ',I = .next γ':=λγ I h=>by obtain⟨d,_,e⟩:=zJ h;exact⟨_,e.symm⟩
end
mutual
def Sd:D->Bool
 | .tup a=>F5 a
 | .lst a=>F5 a
 | .md _ _=>ed
 | .lq _ _=>ed
 | _=>dt
def F5:List D->Bool
 | []=>dt
 | x::xs=>Sd x && F5 xs
end
mutual
theorem Rep.less{K:IT}{H:Hp}{p:eg}{C:fy->Prop}(O:H p=bQ (.ext C)) : ∀{d:D} {v:V},Sd d=dt->Rep K H d v->Rep K (C4 H p) d v
 | .e7,_,_,h=>h
 | .bl _,_,_,h=>h
 | .int _,_,_,h=>h
 | .str _,_,_,h=>h
 | .tup ds,v,n,h=>by
  obtain⟨a,b,f,g,i⟩:=(show ∃a b,v = .ref a/\hB K H a b/\ej K H ds b from h);refine(show ∃a b,v = .ref a/\hB K (C4 H p) a b/\ej K (C4 H p) ds b from⟨a,b,f,?_,ej.less O n i⟩);have I : ∀{u:HO},(∀C,u ≠ .ext C)->H a=bQ u->a≠p:=λU q e=>by rw[e,O]at q;exact U _ (LR q).symm
  rcases g with(hq | ⟨o',hq⟩) | hq
  ·exact .inl (.inl<|by rw[M1 (I (λ_=>by simp) hq)];exact hq)
  ·exact .inl<|.inr ⟨o',by rw[M1 (I (λ_=>by simp) hq)];exact hq⟩
  ·exact .inr hq
 | .lst ds,v,n,h=>by
  obtain⟨a,b,f,g,i⟩:=(show ∃a b,v = .ref a/\gm K H a b/\ej K H ds b from h);refine(show ∃a b,v = .ref a/\gm K (C4 H p) a b/\ej K (C4 H p) ds b from⟨a,b,f,?_,ej.less O n i⟩);have I : ∀{u:HO},(∀C,u ≠ .ext C)->H a=bQ u->a≠p:=λU q e=>by rw[e,O]at q;exact U _ (LR q).symm
  rcases g with(hq | ⟨o',hq⟩) | hq
  ·exact .inl (.inl<|by rw[M1 (I (λ_=>by simp) hq)];exact hq)
  ·exact .inl<|.inr ⟨o',by rw[M1 (I (λ_=>by simp) hq)];exact hq⟩
  ·exact .inr hq
 | .md _ _,_,n,_=>nomatch n
 | .lq _ _,_,n,_=>nomatch n
theorem ej.less{K:IT}{H:Hp}{p:eg}{C:fy->Prop}(I:H p=bQ (.ext C)) : ∀{ds:List D} {xs:List V},F5 ds=dt->ej K H ds xs->ej K (C4 H p) ds xs
 | [],_,_,h=>h
 | d::ds,xs,n,h=>by obtain⟨x,r,a,b,e⟩:=(show ∃x r,xs=x::r/\Rep K H d x/\ej K H ds r from h);have n:(Sd d && F5 ds)=dt:=n;rw[Lq]at n;exact(show ∃x r,xs=x::r/\Rep K (C4 H p) d x/\ej K (C4 H p) ds r from⟨x,r,a,Rep.less I n.1 b,ej.less I n.2 e⟩)
end
noncomputable def eW:List D->Option (List<|List D)
 | []=>bQ []
 | .lst xs::r=>(eW r).map λl=>xs::l
 | _::_=>none
noncomputable def Bz:Res->Option (List<|List D)
 | .own a=>eW a
 | .val _=>none
noncomputable def nV(F:List D->Option Res)(g:CO (List D)):CO (List<|List D):=λb=>(g b).bind λa=>(F a).bind Bz
noncomputable def aL(i j:Nat)(f:CO (List<|List D))(t:CO Bool)(G:CO Fl):CO Fl:=λa=>if (a.set i .no).all mI=dt/\(i<a.length/\j<a.length)/\i≠j then
 (f a).bind λd=>(t<|a.set i<|.val<|.lst<|d.map D.lst).bind λb=>if b=dt then bQ (.ret<|.val<|.bl ed)else G ((a.set i<|.val<|.lst []).set j .no)
 else none
theorem Xc : ∀{ds:List D} {C:List (List D)},eW ds=bQ C->ds=C.map D.lst
 | [],C,h=>by cases h;rfl
 | .lst xs::r,C,h=>by obtain⟨l,e,rfl⟩:=zJ h;rw[Xc e];rfl
 | .e7::_,_,h=>nomatch h
 | .bl _::_,_,h=>nomatch h
 | .int _::_,_,h=>nomatch h
 | .str _::_,_,h=>nomatch h
 | .tup _::_,_,h=>nomatch h
 | .md _ _::_,_,h=>nomatch h
 | .lq _ _::_,_,h=>nomatch h
theorem JL : ∀{r s:List (List D)},r.map D.lst=s.map D.lst->r=s
 | [],[],_=>rfl
 | [],_::_,h=>nomatch h
 | _::_,[],h=>nomatch h
 | x::r,y::s,h=>by injection h with h1 h2;injection h1 with h1;rw[h1,JL h2]
theorem ag{T:Tg}{f:CO (List D)}{γ:Ctx} : ∀{ds es:List D},zQ T jj (jA f) γ ds=bQ es->∃C,yC T f γ ds=bQ C/\es=C.map D.lst
 | [],es,h=>by cases h;exact⟨[],rfl,rfl⟩
 | d::ds,es,h=>by obtain⟨a,b,h⟩:=zg h;have h:((jA f a).bind λe=>(zQ T jj (jA f) γ ds).map λr=>e::r)=bQ es:=h;obtain⟨e,g,h⟩:=zg h;obtain⟨r,I,rfl⟩:=zJ h;obtain⟨i,O,rfl⟩:=zJ g;obtain⟨C,U,rfl⟩:=ag I;exact⟨i::C,by simp only[yC,b,O,U,IY,Lm],rfl⟩
noncomputable def Us(K:IT)(n:Nat)(F:List D->Option Res):Sp:=λi H Q _=>∃g h d,f9 g H/\ej K g h i/\h.length=n/\F h=bQ (.own<|d.map D.lst)/\∀a bs f e,Ext g H e f->(∀b∈a::bs,H b=none)->s9 K e f d a bs->Q (.ref a) f
structure O6(P:i3)(w:h8)(K:IT)(mg:RJ)(base:fy)(k:Nat)(x:Str)(n:Nat)(F:List D->Option Res):Prop where
 ex : ∃(f:eg) (fd:rr) (ps:List Str),ps.length=n/\rq P w K mg base t4 k f fd ps (Us K ps.length F)/\mg x=bQ (.ref f)/\Of K (.ref f)=dt/\Binds K fd ps []
noncomputable def N5(K:IT)(F:CO Fl):TS:=λI i H=>∃E0 E h g d,RS K E0 E h H i g/\F g=bQ (.ret<|.own<|d.map D.lst)/\∀a bs f e,Ext E0 E e f->(∀b∈a::bs,E b=none)->s9 K e f d a bs->I.rt (.ref a) f
section
variable{P:i3}{w:h8}{K:IT}{mg:RJ}{base:fy}
theorem Iu{x:Str}{st:iS}{N ps:List Str}{k:Nat}{F:CO Fl}(A:hL K mg x st ps)(J:fX N ps st=dt)
 (C : ∀X:Cx,X.prog=P->X.w=w->X.K=K->X.mg=mg->X.base=base->SX X (jC st) N N k->X.xe=(λ_ _=>False)->n9 X (k5 st) (N5 X.K F)) :
 O6 P w K mg base (k+1) x ps.length (jn N.length F):=by
 obtain⟨f,p,O,t,u⟩:=A.ex;have S:=XM J;refine⟨f,p,ps,rfl,?_,u,O.kp,.all t⟩;refine O.ok S (λB H Q E h=>?_)<|λj A e s H B Q E y h=>⟨_,C _ rfl rfl rfl rfl rfl ⟨rfl,rfl,S.nd,rfl,y,λ_ _=> .inl rfl⟩ rfl,?_⟩
 ·obtain⟨d,o,a,_,I,U,_⟩:=h
  rw[I.length,U]
 obtain⟨d,o,a,z,I,U,n,q⟩:=h;have G:ps.length<=N.length:=by have:=congrArg List.length S.pre;rw[OA]at this;omega
 obtain⟨g,l,b⟩:=zg n;have m:g = .ret (.own<|a.map D.lst):=by
  cases g with
  | ret r=>cases b;rfl
  | next i=>cases b
  | brk i=>cases b
  | cont i=>cases b
 subst m;exact⟨d,H,d,_,a,Wn z I ⋯,l,q⟩
end
section
variable{X:Cx}{sc:g9}{N L:List Str}{k j n i:Nat}{a b c e:eu}{es:List eu}{g:CO (List D)}{p pos:g8}{x y:Str}{st:iS}{body kn:List iS}{F:List D->Option Res}
theorem eM{F G:CO Fl}(Y : ∀γ O,F γ=bQ O->∃γ',O = .next γ')(C:lh X st F)(J:n9 X kn (N5 X.K G)):n9 X (st::kn) (N5 X.K<|zN F G):=by intro a s l H D I j;refine(vi C J) a s l H D I ?_;obtain⟨E0,E,f,γ,b,k,U,g⟩:=j;obtain⟨O,e,U⟩:=zg U;refine⟨E0,E,f,γ,O,k,e,?_⟩;obtain⟨γ',i⟩:=Y γ O e;subst i;exact λm n d h=>⟨E0,E,d,_,b,h,U,g⟩
theorem bp{t:CO Bool} : ∀γ I,h7 t JB jZ γ=bQ I->∃γ',I = .next γ':=λγ I h=>by
 obtain⟨b,_,h⟩:=zg h;cases b with
 | true=>cases h
 | false=>cases h;exact⟨_,rfl⟩
theorem Ft{C:CO (List D)}{T:Tg}{m:Nat}{fr:List Nat}{f:CO (List D)}(h:PE X e (tN X.K<|QT C T m fr f)):n9 X [.Return (bQ e) pos] (N5 X.K<|yO<|zP C T m fr jj<|jA f):=by
 intro g s P H p I L;refine(JE<|Yi h) g s P H p I ?_;obtain⟨E0,E,t,o,d,U,J,u⟩:=L;obtain⟨w,y,j⟩:=zJ J;obtain⟨n,z,O⟩:=zg y;by_cases k:n.length<=lim
 ·rw[RY k]at O
  obtain⟨l,A,B⟩:=ag O;have F:w=d.map D.lst:=by injection j with j;injection j
  have G:l=d:=JL (by rw[<- B,F]);subst G;refine⟨t,o,l,U.rc,?_,λa bs r i x hf N=>u a bs r i (U.ext.trans x) (λb M=>eH U.ext.s1<|hf b M) N⟩;show(C o).bind _=_;rw[z];show(if n.length<=lim then _ else none)=_;rw[RY k];exact A
 ·rw[EQ k]at O;cases O
theorem Ay(Z:O6 X.prog X.w X.K X.mg X.base j x n F)(hj:j<=k)(h:SX X sc N L k)(c:vp sc x=dt)(C:B7 X (e::es) n g)
 (Y:f6 (e::es) X.env=(ed,eA e X.env)::f6 es X.env:=by rfl) (J:(rh pos<|starEach es X.env).any (·.1)=ed:=by rfl) :
 PE X (.Call (.Name x p) (e::es) [] pos) (tN X.K<|nV F g):=by
 obtain⟨fa,fd,ps,R,G,P,M,O⟩:=Z.ex;subst R;refine qC (Vn (E:=E0) G (h.room.mono hj) (h.gl c).1 P M O .nil sg C.1 (h.gl c).2.2 Y J) λσ H Q B=>?_;obtain⟨s,m,f,rc,I,q⟩:=B;obtain⟨U,l,I⟩:=zg I;obtain⟨r,z,I⟩:=zg I;cases r with
 | val d=>cases I
 | own y=>
  have A:y=f.map D.lst:=Xc I;subst A;exact⟨s,m,U,rc,l,λvs W t x1 S=>⟨t,U,f,x1.sub,by simpa using S,C.2 m U l,z,λa bs o i T ab u=>q a bs o i (x1.trans T) (λb O=>eH x1.s1<|ab b O) u⟩⟩
open Classical in
noncomputable def Y9(H:Hp)(L:List eg):Hp:=λc=>if c∈L then bQ (.lst [])else H c
theorem Xp{H:Hp}{L:List eg}{c:eg}(h:c∈L):Y9 H L c=bQ (.lst []):=by unfold Y9;rw[RY h]
theorem yD{H:Hp}{L:List eg}{c:eg}(h:c∉L):Y9 H L c=H c:=by unfold Y9;rw[EQ h]
theorem tM(H:Hp):Y9 H []=H:=by funext c;exact yD LI
theorem gj(H:Hp)(L:List eg)(b:eg):upd (Y9 H L) b (.lst [])=Y9 H (L++[b]):=by
 funext c;by_cases e:c=b
 ·subst e;rw[zU,Xp ⋯]
 ·rw[zS e]
  by_cases m:c∈L
  ·rw[Xp m,Xp (PD _ m)]
  ·rw[yD m,yD (by simp[m,e])]
theorem dv(i j:Nat){e0:eu}{p0 p1 px py ny nx C cpos b8 b9 as ax bd:g8}{f:CO (List<|List D)}{t:CO Bool}{G:CO Fl}(hp:L4 (eY X.prog X.w) X.A X.env X.xe)(h:SX X sc N L k)(cx:Jk sc N i x=dt)(cy:Jk sc N j y=dt)(ty:ym sc N L j y=dt)
 (h1:PS X st (Wd (tN X.K f)<|yP i)) (hc:ml X c t) (h0:PV X e0 (zv<|.bl ed)) (h5:bX X kn G)
 (hs : ∀z,n6 (.Name x px) X.env z=pure z:=by intro _;rfl)
 (cc:DQ (.Name y ny) "clear" X.env (eA (.Name y ny) X.env)=eA (.Name y ny) X.env:=by rfl) (cd:(C.endLine==cpos.line)=dt:=by rfl)
 (ce:vu (.Call (.Attribute (.Name y ny) "clear" C) [] [] cpos) none b8.line X.env=pure ed:=by rfl)
 (ch:DQ (.Name x nx) "clear" X.env (eA (.Name x nx) X.env)=eA (.Name x nx) X.env:=by rfl) (ci:(as.endLine==ax.line)=dt:=by rfl)
 (cj:vu (.Call (.Attribute (.Name x nx) "clear" as) [] [] ax) none bd.line X.env=pure ed:=by rfl) :
 bX X (st :: .If c [.Return (bQ e0) p0] [] p1 :: .For (.Name y py) (.Name x px) [.Expr (.Call (.Attribute (.Name y ny) "clear" C) [] [] cpos) b8] [] b9 :: .Expr (.Call (.Attribute (.Name x nx) "clear" as) [] [] ax) bd::kn) (aL i j f t G):=by
 intro pins s σ H En I hZ;have co:=dA (pos:=b9) hp h.calm (se<|h.var cx (pos:=px)) (h.C8 (pos:=py) j ty) (JE<|JF (oo NV PySem.F.slot_list_clear PySem.F.type_list_clear WJ (h.var cy (pos:=ny)) cc cd) ce) hs;have cq:=JF (oo NV PySem.F.slot_list_clear PySem.F.type_list_clear WJ (h.var cx (pos:=nx)) ch ci) cj;refine(vi h1<|vi (AO hc (JE<|Yi h0) dw)<|vi co<|vi cq h5) pins s σ H En I ?_;obtain⟨E0,E,H0,γ,fl,M,O,bf⟩:=hZ;unfold aL at O;split at O
 ·next cs=>
  obtain⟨ct,⟨cv,cw⟩,cz⟩:=cs;obtain⟨T,e1,O⟩:=zg O;obtain⟨bb,e2,O⟩:=zg O;refine⟨H0,γ,T,M.rc,e1,λa bs r B x1 hf Z=>?_⟩;let p:=Zp B r (a::bs);have d0 : ∀b∈a::bs,B b=none:=λb U=>(Z.at U).1;have bi:f9 B p:=λc o q=>by show Zp B r (a::bs) c=_;rw[kz (λW=>by rw[d0 c W]at q;cases q)];exact q
  have d1:f9 p r:=λc o q=>by
   by_cases W:c∈a::bs
   ·rw[show p c=r c from yx W]at q;exact q
   ·rw[show p c=B c from kz W]at q;exact x1.sub c o q
  have X2:Ext H0 H p r:=⟨x1.s0.trans bi,x1.s1,d1,λc q1 J=>by show Zp B r (a::bs) c=none;rw[kz (λW=>J<|hf c W)];exact x1.new c q1 J⟩
  have ga:p a=bQ (.lst<|bs.map V.ref):=by show Zp B r (a::bs) a=_;rw[yx Lp];exact Z.ha
  have gb : ∀b∈bs,∃l,p b=bQ (.lst l):=λb U=>by obtain⟨_,l,q⟩:=Z.at<|Lj _ U;exact⟨l,by show Zp B r (a::bs) b=_;rw[yx (Lj _ U)];exact q⟩
  have rp:Rep X.K p (.lst<|T.map D.lst) (.ref a):=vK (gm.of ga) (JC Z.len λm b row g1 g2=>by obtain⟨_,l,q1,J⟩:=Z.row m b row g1 g2;exact⟨l,by show Zp B r (a::bs) b=_;rw[yx (Lj _<|LJ g1)];exact q1,J.mono bi⟩)
  have ab:=(M.step X2).A3 (i:=i) rp;refine⟨p,_,bb,ab.rc,e2,λR ac P=>?_⟩;cases bb with
  | true=>
   rw[RY rfl]at O ⊢;cases O;exact⟨ac,_,_,(ab.step P).rc,rfl,λv H3 d5 x3 r3=>bf v H3 d5 ((ab.step P).ext.trans x3) r3⟩
  | false=>
   rw[EQ LN]at O ⊢;have bt:=ab.step P;have bu:(σ.set i<|some (V.ref a))[i]? = bQ (bQ (.ref a)):=Lr (by rw[M.rc.len];exact cv);have a2:R a=bQ (.lst<|bs.map V.ref):=P.sub _ _<|P.s0 _ _ ga;have b2 : ∀b∈bs,∃l,R b=bQ (.lst l):=λb U=>by obtain⟨l,q⟩:=gb b U;exact⟨l,P.sub _ _<|P.s0 _ _ q⟩
   have d7:a∉bs:=(MI.mp Z.nd).1;have hE : ∀b∈a::bs,E b=none:=λb U=>eH M.ext.s1<|hf b U;have d8 : ∀b∈a::bs,H0 b=none:=λb U=>j3 M.rc.sub<|hf b U;let g:=σ.set i<|some (V.ref a);have l1:j<g.length:=by show j<(σ.set i _).length;rw[List.length_set,M.rc.len];exact cw
   show ∃v,g[i]? = bQ (bQ v)/\_;refine⟨_,bu,a,rfl,⟨_,gm.of a2⟩,λm n Q H'=>n=bs.length - m/\m<=bs.length/\(∃u,Q=g.set j u)/\H'=Y9 R (bs.take m),⟨bs.length,by simp,Ms _,⟨g[j],(List.set_getElem_self l1).symm⟩,by rw[List.take_zero,tM]⟩,?_⟩;rintro m n Q H' ⟨rfl,W,⟨u,rfl⟩,rfl⟩;have Y:Y9 R (bs.take m) a=bQ (.lst<|bs.map V.ref):=by rw[yD (λz=>d7<|List.mem_of_mem_take z)];exact a2
   by_cases ae:m<bs.length
   ·refine .inr ⟨⟨_,.ref bs[m],gm.of Y,by simp[ae]⟩,λQ H'=>∃u,Q=g.set j u/\H'=Y9 R (bs.take<|m+1),?_,?_⟩
    ·rintro dn dp ⟨u',rfl,rfl⟩
     exact⟨bs.length - (m+1),by omega,rfl,by omega,⟨u',rfl⟩,rfl⟩
    ·rintro z H' ⟨rfl,hz⟩
     have ez:=hz _<|gm.of Y;have db:z = .ref bs[m]:=by
      have:(bs.map V.ref)[m]? = bQ (V.ref bs[m]):=by simp[ae]
      rw[this]at ez;exact(LR ez).symm
     subst db;have bm : ∃l,Y9 R (bs.take m) bs[m]=bQ (.lst l):=by
      by_cases q:bs[m]∈bs.take m
      ·exact⟨[],Xp q⟩
      ·obtain⟨l,J⟩:=b2 bs[m] (My ae)
       exact⟨l,by rw[yD q];exact J⟩
     obtain⟨l,bm⟩:=bm;show ∃v,((g.set j u).set j (bQ (V.ref bs[m])))[j]? = bQ (bQ v)/\_;rw[Pp];refine⟨_,Lr l1,.inl ⟨rfl,_,gm.of bm⟩,bs[m],l,rfl,rfl,bm,_,rfl,?_⟩;rw[gj,Ra ae]
   ·have em:m=bs.length:=by omega
    subst em;refine .inl ⟨⟨_,gm.of Y,by simp⟩,?_⟩;rw[List.take_length]at Y ⊢;let S:=bs++[a];have mL : ∀{c:eg},c∈S↔c∈a::bs:=λ{c}=>by simp[S,or_comm]
    have c2:(g.set j u)[i]? = bQ (bQ (.ref a)):=by rw[Lb (LC cz)];exact bu
    show ∃v,(g.set j u)[i]? = bQ (bQ v)/\_;refine⟨_,c2,.inl ⟨rfl,_,gm.of Y⟩,a,_,rfl,rfl,Y,?_⟩;rw[gj];have sm:f9 H0 (Y9 ac S):=λc o q=>by rw[yD (λz=>by rw[d8 c (mL.mp z)]at q;cases q)];exact P.s0 _ _<|X2.s0 _ _ q
    have sb:f9 (Y9 ac S) (Y9 R S):=λc o q=>by
     by_cases z:c∈S
     ·rw[Xp z]at q ⊢;exact q
     ·rw[yD z]at q ⊢;exact P.sub c o q
    have pn:((γ.set i<|.val<|.lst []).set j .no).all mI=dt:=by have:=oj ct i (c:= .val (.lst [])) rfl;rw[Pp]at this;exact oj this j rfl
    have di:RC X.K (Y9 ac S) (Y9 R S) (g.set j u) ((γ.set i<|.val<|.lst []).set j .no):=RC.pl sb (by simp[g,M.rc.len]) (λq d e=>by
     rcases zG e with⟨_,zz,_⟩ | ⟨hq,zz⟩
     ·cases zz
     ·rcases zG zz with⟨rfl,z2,_⟩ | ⟨dl,z2⟩
      ·cases z2
       exact⟨_,c2,vK (gm.of<|Xp<|mL.mpr Lp) ej.nil⟩
      ·obtain⟨v,g1,g2⟩:=M.rc.val q d z2
       refine⟨v,?_,g2.mono sm⟩;rw[Lb (LC hq)];show(σ.set i _)[q]? = _;rw[Lb (LC dl)];exact g1) pn
    refine⟨E0,E,_,_,fl,RS.pl di ⟨M.ext.s0.trans sm,λc o q=>?_,sb,λc q1 J=>?_⟩ pn,O,bf⟩
    ·rw[yD (λz=>by rw[hE c (mL.mp z)]at q;cases q)];exact bt.ext.s1 c o q
    ·rw[yD (λz=>J<|hE c<|mL.mp z)];exact bt.ext.new c q1 J
 ·cases O
end
def C5(e:eu):Str:=match e with | .Name x _=>x | _=>""
noncomputable def A8(e:eu):List Str:=match e with | .Tuple a _ _=>a.map C5 | e=>[C5 e]
noncomputable def Di(N:List Str)(fs:List Nat):List (Str×Nat):=fs.map λi=>(N.getD i "",i)
theorem JU(N:List Str)(fs:List Nat):(Di N fs).map (·.2)=fs:=by unfold Di;rw[LG];exact List.map_id fs
def oJ(e:eu):Bool:=match e with | .Name _ _=>dt | _=>ed
theorem bo{e:eu}(h:oJ e=dt) : ∃p,e = .Name (C5 e) p:=by
 unfold oJ at h;split at h
 ·exact⟨_,rfl⟩
 ·cases h
noncomputable def GO(C:g9)(N L:List Str)(is:List Nat)(es:List eu):Bool:=match is with
 | [i,j]=>(match es with | [a,b]=>oJ a && (ym C N L i (C5 a) && (oJ b && ym C N L j (C5 b))) | _=>ed)
 | [i,j,l]=>(match es with | [a,b,c]=>oJ a && (ym C N L i (C5 a) && (oJ b && (ym C N L j (C5 b) && (oJ c && ym C N L l (C5 c))))) | _=>ed)
 | _=>ed
noncomputable def G5(C:g9)(N L:List Str)(e:eu)(T:Tg):Bool:=match T with
 | .nm i=>oJ e && ym C N L i (C5 e)
 | .tp is=>(match e with | .Tuple a _ _=>GO C N L is a | _=>ed)
theorem pJ{X:Cx}{C:g9}{N L:List Str}{k:Nat}(h:SX X C N L k){e:eu}{T:Tg}(c:G5 C N L e T=dt):PG X e (p6 X.K T):=by
 cases T with
 | nm i=>
  have c:=Bool.and_eq_true_iff.mp c;obtain⟨p,q⟩:=bo c.1;rw[q];exact h.C8 _ c.2
 | tp is=>
  unfold G5 at c;dsimp only at c;split at c
  ·next g j pos=>
   unfold GO at c;split at c
   ·split at c
    ·simp only[Lq]at c
     obtain⟨I,O,b1,b2⟩:=c;obtain⟨p,q⟩:=bo I;obtain⟨d,U⟩:=bo b1;rw[q,U];exact h.Tq<|wm (h.C8 _ O)<|wm (h.C8 _ b2) dM
    ·cases c
   ·split at c
    ·simp only[Lq]at c
     obtain⟨I,O,b1,b2,a,b⟩:=c;obtain⟨p,q⟩:=bo I;obtain⟨d,U⟩:=bo b1;obtain⟨l,f⟩:=bo a;rw[q,U,f];exact h.Tq<|wm (h.C8 _ O)<|wm (h.C8 _ b2)<|wm (h.C8 _ b) dM
    ·cases c
   ·cases c
  ·cases c
noncomputable def cB(H scope:g9)(N:List Str)(C:eu)(T:Tg)(n:Nat)(fs:List Nat):Bool:=
 VM H scope N (Di N fs) && (ES (A8 C) scope (Di N fs) && (decide (∀i∈T.idx,i<(A8 C).length) && (decide ((A8 C).length=n) && G5 (yo scope H) (A8 C++(Di N fs).map (·.1)) (A8 C) C T)))
abbrev C0(X:Cx)(scope:g9)(N:List Str)(tg:eu)(fs:List Nat):=jx X scope (A8 tg++(Di N fs).map (·.1))
abbrev SA(X:Cx)(sc scope:g9)(N:List Str)(tg:eu)(fs:List Nat)(k:Nat)(fp:List eg)(s2:eF)(H2:Hp):Prop:=SX (C0 X scope N tg fs fp s2 H2) (yo scope sc) (A8 tg++(Di N fs).map (·.1)) (A8 tg) k
section
variable{X:Cx}{sc scope:g9}{N L:List Str}{k n i:Nat}{fs:List Nat}{T:Tg}{e elt tg iter DS:eu}{es:List eu}{pos p py spos cpos:g8}{x y:Str}{f g:CO D}{fo:CO (List D)}{src gl:CO (List D)}{kk:CO Bool}
theorem cA(h:SX X sc N L k)(c:cB sc scope N tg T n fs=dt):qq X scope (Di N fs)/\(∀i∈T.idx,i<(A8 tg).length)/\(A8 tg).length=n/\(∀fp H C,SA X sc scope N tg fs k fp H C)/\∀fp H C,PG (C0 X scope N tg fs fp H C) tg (p6 X.K T):=by unfold cB at c;simp only[Lq,decide_eq_true_eq]at c;obtain⟨I,O,U,a,b⟩:=c;have s : ∀fp H C,SA X sc scope N tg fs k fp H C:=λfp H C=>h.comp O;exact⟨h.SS I,U,a,s,λfp H C=>pJ (s fp H C) b⟩
theorem qX(h:SX X sc N L k)(hi:rb X tg iter src)(I : ∀fp H C,SA X sc scope N tg fs k fp H C->PV (C0 X scope N tg fs fp H C) elt f)(c:cB sc scope N tg T n fs=dt:=by decide +kernel)(hs : ∀x,n6 iter X.env x=pure x:=by intro _;rfl) :
 PO X (.ListComp elt [⟨tg,iter,[],0⟩] scope pos) (zP src T n fs jj f):=by
 obtain⟨a,b,d,s,q⟩:=cA h c;have r:=rV (pos:=pos) h.calm a b hi q (λfp H C=>I fp H C<|s fp H C) hs;rw[d,JU]at r;exact r
theorem AU(h:SX X sc N L k)(hi:rb X tg iter src)(I : ∀fp H C,SA X sc scope N tg fs k fp H C->ml (C0 X scope N tg fs fp H C) DS kk)(O : ∀fp H C,SA X sc scope N tg fs k fp H C->PV (C0 X scope N tg fs fp H C) elt f)(c:cB sc scope N tg T n fs=dt:=by decide +kernel)(hs : ∀x,n6 iter X.env x=pure x:=by intro _;rfl) :
 PO X (.ListComp elt [⟨tg,iter,[DS],0⟩] scope pos) (zP src T n fs kk f):=by
 obtain⟨a,b,d,s,q⟩:=cA h c;have r:=dC (pos:=pos) h.calm a b hi q (λfp H C=>I fp H C<|s fp H C) (λfp H C=>O fp H C<|s fp H C) hs;rw[d,JU]at r;exact r
theorem QD(h:SX X sc N L k)(hi:rb X tg iter src)(I : ∀fp H C,SA X sc scope N tg fs k fp H C->PV (C0 X scope N tg fs fp H C) elt f)(ct:ym sc N L i y=dt:=by decide +kernel)(c:cB sc scope N tg T n fs=dt:=by decide +kernel)(hs : ∀x,n6 iter X.env x=pure x:=by intro _;rfl) :
 PS X (.Assign [.Name y py] (.ListComp elt [⟨tg,iter,[],0⟩] scope cpos) spos) (Wd (tO X.K<|zP src T n fs jj f)<|yP i):=by
 obtain⟨a,b,d,s,q⟩:=cA h c;have r:=Ul (cpos:=cpos) (spos:=spos) (py:=py) i h ct h.calm a b hi q (λfp H C=>I fp H C<|s fp H C) hs;rw[d,JU]at r;exact r
theorem AQ(h:SX X sc N L k)(hi:rb X tg iter src)(I : ∀fp H C,SA X sc scope N tg fs k fp H C->ml (C0 X scope N tg fs fp H C) DS kk)(O : ∀fp H C,SA X sc scope N tg fs k fp H C->PV (C0 X scope N tg fs fp H C) elt f)(ct:ym sc N L i y=dt:=by decide +kernel)(c:cB sc scope N tg T n fs=dt:=by decide +kernel)(hs : ∀x,n6 iter X.env x=pure x:=by intro _;rfl) :
 PS X (.Assign [.Name y py] (.ListComp elt [⟨tg,iter,[DS],0⟩] scope cpos) spos) (Wd (tO X.K<|zP src T n fs kk f)<|yP i):=by
 obtain⟨a,b,d,s,q⟩:=cA h c;have r:=Fi (cpos:=cpos) (spos:=spos) (py:=py) i h ct h.calm a b hi q (λfp H C=>I fp H C<|s fp H C) (λfp H C=>O fp H C<|s fp H C) hs;rw[d,JU]at r;exact r
theorem AM(h:SX X sc N L k)(hi:rb X tg iter src)(I : ∀fp H C,SA X sc scope N tg fs k fp H C->PO (C0 X scope N tg fs fp H C) elt fo)(ct:ym sc N L i y=dt:=by decide +kernel)(c:cB sc scope N tg T n fs=dt:=by decide +kernel)(hs : ∀x,n6 iter X.env x=pure x:=by intro _;rfl) :
 lh X (.Assign [.Name y py] (.ListComp elt [⟨tg,iter,[],0⟩] scope cpos) spos) (iJ i<|QT src T n fs fo):=by
 obtain⟨a,b,d,s,q⟩:=cA h c;have r:=lr (cpos:=cpos) (spos:=spos) (py:=py) i h ct h.calm a b hi q (λfp H C=>I fp H C<|s fp H C) hs;rw[d,JU]at r;exact r
theorem zB(h:SX X sc N L k)(c:Jk sc N i x=dt:=by decide +kernel):PV X (.Name x pos) (zc i):=Az i<|h.var c
theorem jc(h:SX X sc N L k)(c:Jk sc N i x=dt:=by decide +kernel):PQ X (.Name x pos) (ze i):=AS i<|h.var c
theorem uq(h:SX X sc N L k)(c:G5 sc N L e T=dt:=by decide +kernel):PG X e (p6 X.K T):=pJ h c
theorem j9(h:SX X sc N L k)(I:PV X e f)(c:ym sc N L i x=dt:=by decide +kernel)(hs:vu e (bQ (.Name x py)) pos.line X.env=pure ed:=by rfl):lh X (.Assign [.Name x py] e pos) (jo i f):=rQ i<|h.set i c I hs
theorem k9(h:SX X sc N L k)(I:PO X e fo)(c:ym sc N L i x=dt:=by decide +kernel)(hs:vu e (bQ (.Name x py)) pos.line X.env=pure ed:=by rfl):lh X (.Assign [.Name x py] e pos) (xf i fo):=Wv i<|h.set i c I hs
theorem qK{C:List iS}{F:CO Fl}(I:X.xe=λ_ _=>False)(h:SX X sc N L k)(hi:i4 X tg iter src)(O:bX X C F)(c:G5 sc N L tg T=dt:=by decide +kernel)(hs : ∀x,n6 iter X.env x=pure x:=by intro _;rfl):lh X (.For tg iter C [] pos) (xU src T F):=rR (dR I) h.calm hi (pJ h c) O hs
variable{j:Nat}{F:List D->Option Res}
theorem jr(I:hG X.prog X.w X.K X.mg X.base j x n F)(h:SX X sc N L k)(H:B7 X (e::es) n gl)(O:j<=k:=by decide)(c:vp sc x=dt:=by decide +kernel)
 (U:f6 (e::es) X.env=(ed,eA e X.env)::f6 es X.env:=by rfl) (C:(rh pos<|starEach es X.env).any (·.1)=ed:=by rfl):PV X (.Call (.Name x p) (e::es) [] pos) (zC F gl):=Fh I O h c H U C
theorem kZ(I:hG X.prog X.w X.K X.mg X.base j x n F)(h:SX X sc N L k)(H:B7 X (e::es) n gl)(O:j<=k:=by decide)(c:vp sc x=dt:=by decide +kernel)
 (U:f6 (e::es) X.env=(ed,eA e X.env)::f6 es X.env:=by rfl) (C:(rh pos<|starEach es X.env).any (·.1)=ed:=by rfl):PO X (.Call (.Name x p) (e::es) [] pos) (ja F gl):=Fj I O h c H U C
end
noncomputable def Xv:=jn 1 (zN (h7 (w5 (j8 (sB (m3 .str (zc 0)))) (sB (zH DT (yT (zc 0)) (zv (.int 6))))) (jM (zv (.bl ed))) jZ) (jM (hU (jL (zP (Ab (zc 0)) (.nm 0) 1 [] jj (HX (zc 0) (zw (zv (.tup [.str "r",.str "l"])))))))))
noncomputable def ZH:=jn 2<|zN (h7 (w5 (j8<|sB<|zC VZ<|za (zc 1)<|za (zv<|.int 2) zD)<|w5 (j8<|sB<|zC Y6<|za (zc 0)<|za (dy (ze 1)<|zv<|.int 0) zD)<|j8<|sB<|zC Y6<|za (zc 0)<|za (dy (ze 1)<|zv<|.int 1) zD) (jM<|zv<|.bl ed) jZ)<|jM<|zH o5 (dy (ze 1)<|zv<|.int 0)<|dy (ze 1)<|zv<|.int 1
noncomputable def jB:=jn 5<|zN (h7 (iO (sB<|zH ri (xH<|ze 0)<|zv<|.int 1)<|sB<|zH iQ (zH yM (dy (ze 0)<|zv<|.int 0)<|zv<|.int 2)<|zv<|.int 1) (zN (jo 2<|dy (ze 0)<|zH qa (zv<|.int 1)<|zH yM (zc 1)<|zH Ja (xH<|ze 0)<|zv<|.int 1)<|zN (xU (zR<|iK (zv<|.int 60)<|zH Kl (zc 1)<|zH Ja (xH<|ze 0)<|zv<|.int 1) (.nm 3)<|jo 2<|zH Kl (zc 2)<|zH tG (zv<|.int 10)<|zv<|.int 9)<|jM<|zH yM (zc 2)<|zH tG (zv<|.int 10)<|zv<|.int 9) jZ)<|zN (jo 4<|zc 1)<|zN (h7 (sB<|zH ri (xH<|ze 0)<|zv<|.int 0) (jo 4<|dy (ze 0)<|zH yM (zc 1)<|xH<|ze 0) jZ)<|jM<|zH yM (zH kG (zH yM (zH qa (zH qa (zH qa (zH kG (zH yM (zc 4)<|zH tG (zv<|.int 10)<|zv<|.int 30)<|zv<|.int 48271)<|zH kG (zH kG (zv<|.int 7)<|zc 1)<|zc 1)<|zH kG (zv<|.int 13)<|zc 1)<|zv<|.int 5)<|zv<|.int 2147483647)<|zv<|.int 69621)<|zv<|.int 1000000007
noncomputable def J3:=jn 5<|zN (jo 3<|jA<|zP (aK (dy (ze 0)<|zv<|.int 2)<|dy (ze 2)<|zv<|.int 2) (.tp [0,1]) 2 [] jj (zH qa (zc 0)<|zc 1))<|zN (jo 4<|jA<|zP (zF<|zw<|dy (ze 1)<|zv<|.int 2) (.nm 0) 1 [0] jj (zH qa (zH kG (qQ<|za (zv<|.int 0) zD)<|dy (ze 1)<|zv<|.int 1)<|zc 0))<|jM<|qQ<|za (zH qa (dy (ze 0)<|zv<|.int 0)<|dy (ze 1)<|zv<|.int 0)<|za (zH qa (dy (ze 0)<|zv<|.int 1)<|dy (ze 1)<|zv<|.int 1)<|za (zZ<|zw<|jA<|K9 (ze 3)<|ze 4) zD
noncomputable def gU:=jn 2<|jM<|zC QN<|za (dy (ze 0)<|zv<|.int 0)<|za (dy (ze 1)<|zv<|.int 1) zD
noncomputable def Zz:=jn 2<|jM<|zC J3<|za (zc 0)<|za (zc 1)<|za (zC gU<|za (zc 0)<|za (zc 1) zD) zD
noncomputable def nJ:=jn 3<|yO<|ja q8<|za (zc 0)<|za (dy (ze 1)<|zv<|.int 0)<|za (jA<|zP (zF<|ze 2) (.nm 0) 1 [0,1] jj (zC VY<|za (zc 1)<|za (zc 2)<|za (zc 0) zD)) zD
noncomputable def Cz:=jn 6<|zN (jo 3<|zC jR<|za (dy (zw<|dy (ze 0)<|zv<|.int 1)<|zc 1) zD)<|zN (xf 4<|zP (zF<|zw<|dy (ze 3)<|zv<|.int 2) (.nm 0) 1 [] jj (zH qa (zc 0)<|zc 0))<|zN (xU (zF<|zw<|K7 (dy (ze 0)<|zv<|.int 2) (nf<|zc 1)<|nf<|zc 2) (.nm 5)<|iM 4<|xf 4<|Ah nJ xp<|za (dy (ze 0)<|zv<|.int 0)<|za (dy (ze 5)<|zv<|.int 0)<|za (zC Zz<|za (zc 3)<|za (dy (ze 5)<|zv<|.int 1) zD)<|za (zc 4) zD)<|JA 4
noncomputable def jT:=jn 2 (zN (h7 (sB (zH iQ (wc (zc 0) (zc 1)) (zv (.str "r")))) (jM (qQ (za (zc 1) (za (zH qa (zc 1) (zv (.int 1))) zD)))) jZ) (jM (qQ (za (zH qa (zc 1) (zv (.int 1))) (za (zc 1) zD)))))
noncomputable def qM:=jn 8<|zN (xf 4<|qm zD)<|zN (xU (zR<|zc 2) (.nm 5)<|zN (jo 6<|zC jB<|za (zc 0)<|za (zH qa (zc 1)<|zc 5) zD)<|zN (jo 7<|zH yM (zc 6)<|zc 3)<|jV 4<|qQ<|za (zc 7)<|za (zH qa (zc 7)<|zH yM (zH Kl (zc 6)<|zc 3)<|zH Ja (zc 3)<|zc 7) zD)<|yO<|cU<|ze 4
noncomputable def xR:=jn 2 (jM (rD (zv (.str "")) (jL (zP (zR (zH Ja (zc 1) (zv (.int 1)))) (.nm 0) 1 [0] jj (wc (zv (.str "rl")) (zH yM (zH Kl (zc 1) (dy (jL (qm (za (zv (.int 1)) (za (zv (.int 2)) (za (zv (.int 4)) (za (zv (.int 8)) (za (zv (.int 16)) zD))))))) (zc 0))) (zv (.int 2))))))))
noncomputable def qT:=jn 3<|zN (jo 2<|zC kA<|za (zc 0) zD)<|yO<|zP (K8<|zc 2) (.tp [0,1]) 2 [0,1] jj (qQ<|za (dy (zw<|dy (ze 3)<|zv<|.int 1)<|zC kW<|za (zc 0)<|za (zc 1) zD)<|za (dy (zw<|dy (ze 2)<|zv<|.int 1)<|zC jS<|za (zc 0)<|za (zc 1) zD) zD)
noncomputable def xF:=jn 10<|zN (ZM (.tp [3,4])<|zc 2)<|zN (xf 5<|qm zD)<|zN (xU (zR<|yT<|zc 1) (.nm 6)<|zN (ZM (.tp [7,8])<|zC jT<|za (zc 1)<|za (zc 6) zD)<|zN (jo 9<|zZ<|jL<|zP (zF<|zw<|dy (ze 4)<|zc 6) (.nm 0) 1 [] jj (zZ<|ze 0))<|jV 5<|qQ<|za (wc (zc 1)<|zc 6)<|za (qQ<|za (dy (ze 3)<|zc 8)<|za (dy (ze 3)<|zc 7)<|za (zc 9) zD) zD)<|jM<|qQ<|za (zc 0)<|za (zZ<|ze 3)<|za (zZ<|ze 5) zD
noncomputable def qh:=jn 5<|zN (h7 (w5 (j8<|sB<|m3 .tuple<|zc 0)<|w5 (sB<|zH h9 (xH<|ze 0)<|zv<|.int 3)<|w5 (j8<|sB<|zC jH<|za (dy (ze 0)<|zv<|.int 0) zD)<|j8<|sB<|zC jH<|za (dy (ze 0)<|zv<|.int 1) zD) (jM<|zv<|.bl ed) jZ)<|zN (h7 (w5 (sB<|zH h9 (dy (ze 0)<|zv<|.int 0)<|zc 2)<|w5 (sB<|zH h9 (dy (ze 0)<|zv<|.int 1)<|zc 3)<|w5 (j8<|sB<|m3 .tuple<|dy (ze 0)<|zv<|.int 2)<|sB<|zH h9 (xH<|zw<|dy (ze 0)<|zv<|.int 2)<|zc 2) (jM<|zv<|.bl ed) jZ)<|zN (xU (zF<|zw<|dy (ze 0)<|zv<|.int 2) (.nm 4)<|zN (h7 (w5 (j8<|sB<|m3 .tuple<|zc 4)<|sB<|zH h9 (xH<|ze 4)<|zc 3) (jM<|zv<|.bl ed) jZ)<|h7 (j8<|sB<|hU<|jL<|zP (zF<|ze 4) (.nm 0) 1 [1] jj (aM (zC jH<|za (zc 0) zD)<|kK o5 u0 (zv<|.int 0) (zc 0)<|zc 1)) (jM<|zv<|.bl ed) jZ)<|jM<|zv<|.bl dt
noncomputable def qv:=jn 4<|zN (h7 (w5 (j8<|sB<|m3 .list<|zc 0)<|sB<|zH h9 (xH<|ze 0)<|xH<|ze 2) (jM<|zv<|.bl ed) jZ)<|jM<|hU<|jL<|zP (zR<|xH<|ze 2) (.nm 0) 1 [0,1,2,3] jj (zC qh<|za (dy (ze 1)<|zc 0)<|za (zc 2)<|za (dy (ze 3)<|zc 0)<|za (dy (ze 4)<|zc 0) zD)
noncomputable def xZ:=jn 2<|yO<|cV (dy (ze 1)<|zv<|.int 1)<|dy (ze 0)<|zv<|.int 1
noncomputable def j5:=jn 1<|jM<|gZ<|jL<|zP (zF<|ze 0) (.tp [0,1]) 2 [] jj (zH kG (zc 0)<|zc 1)
noncomputable def vd:=jn 4<|zN (xf 1<|qm zD)<|zN (xU (zF<|zw<|zc 0) (.nm 2)<|xU (zF<|zw<|dy (ze 2)<|zv<|.int 2) (.nm 3)<|QC 1<|ze 3)<|jM<|zZ<|ze 1
noncomputable def ao:=jn 3<|jM<|zC xG<|za (zc 0)<|za (zc 1)<|za (rA<|zv<|.int 1)<|za (zc 2) zD
noncomputable def nK:=jn 8<|zN (jo 4<|dy (ze 0)<|zv<|.int 0)<|zN (jo 5<|dy (zw<|dy (zw<|dy (ze 0)<|zv<|.int 2)<|zc 3)<|zv<|.int 0)<|zN (jo 6<|zC kC<|za (zc 4)<|za (dy (ze 2)<|zC kW<|za (zc 3)<|za (zc 5) zD)<|za (dy (zw<|dy (zw<|dy (ze 0)<|zv<|.int 2)<|zc 3)<|zv<|.int 1) zD)<|zN (jo 7<|zC kC<|za (zc 4)<|za (dy (zw<|dy (zw<|dy (ze 1)<|zv<|.int 2)<|zc 3)<|zv<|.int 1)<|za (dy (ze 2)<|zC jS<|za (zc 3)<|za (zc 5) zD) zD)<|jM<|zC ao<|za (zc 4)<|za (zc 6)<|za (zc 7) zD
noncomputable def Y8:=jn 3<|yO<|zP (zR<|xH<|zw<|dy (ze 0)<|zv<|.int 2) (.nm 0) 1 [0,1,2] jj (zC nK<|za (zc 1)<|za (zc 2)<|za (zc 3)<|za (zc 0) zD)
noncomputable def qt:=jn 7<|zN (xf 2<|qm zD)<|zN (jo 3<|zv<|.int 0)<|zN (xU (zF<|zw<|zc 0) (.tp [4,5])<|zN (jo 6<|jA<|zP (zR<|zc 4) (.nm 0) 1 [1,3,5] jj (K7 (zc 1) (nf<|zH qa (zc 2)<|zH kG (zc 0)<|zc 3)<|nf<|zH qa (zc 2)<|zH kG (zH qa (zc 0)<|zv<|.int 1)<|zc 3))<|zN (jV 2<|qQ<|za (zc 4)<|za (zc 5)<|za (zZ<|ze 6) zD)<|jo 3<|zH qa (zc 3)<|zH kG (zc 4)<|zc 5)<|JA 2
noncomputable def kU:=jn 5<|zN (jo 2<|jA<|ja xZ<|za (zc 0)<|za (zc 1) zD)<|zN (jo 3<|zC j5<|za (zc 2) zD)<|zN (jo 4<|jA<|zP (zF<|zw<|dy (zw<|zC jR<|za (zc 3) zD)<|zv<|.int 2) (.nm 0) 1 [0,1,2] jj (zC vd<|za (jA<|ja Y8<|za (zc 1)<|za (zc 2)<|za (jA<|ja qt<|za (zc 3)<|za (zc 0) zD) zD) zD))<|jM<|zC jP<|za (qQ<|za (zc 3)<|za (zC j5<|za (jA<|ja qT<|za (zc 0)<|za (zc 1) zD) zD)<|za (zZ<|ze 4) zD) zD
noncomputable def qk:=jn 1<|jM<|qQ<|za (dy (ze 0)<|zv<|.int 0)<|za (zH Ja (zH qa (dy (ze 0)<|zv<|.int 0)<|xH<|zw<|dy (ze 0)<|zv<|.int 1)<|zv<|.int 1) zD
noncomputable def qi:=jn 2<|jM<|kK o5 u0 (dy (ze 0)<|zv<|.int 0) (zc 1)<|zH qa (dy (ze 0)<|zv<|.int 0)<|xH<|zw<|dy (ze 0)<|zv<|.int 1
noncomputable def xP:=jn 2<|yO<|zP (zF<|ze 0) (.nm 0) 1 [1] (sB<|zC qi<|za (zc 0)<|za (zc 1) zD) (dy (zw<|dy (ze 0)<|zv<|.int 1)<|zH Ja (zc 1)<|dy (ze 0)<|zv<|.int 0)
noncomputable def yi:=jn 2<|jM<|zC jP<|za (qQ<|za (xH<|ze 1)<|za (zc 0)<|za (zZ<|ze 1) zD) zD
noncomputable def vf:=jn 5<|zN (jo 4<|jA<|zP (aK (zc 2)<|zc 1) (.tp [0,1]) 2 [3] (sB<|zC qi<|za (zc 1)<|za (zc 2) zD) (zc 0))<|jM<|zC VY<|za (dy (ze 0)<|zv<|.int 0)<|za (zC yi<|za (dy (zw<|dy (ze 0)<|zv<|.int 1)<|zc 3)<|za (jA<|ja xP<|za (zc 1)<|za (zc 3) zD) zD)<|za (zc 4) zD
noncomputable def VX:=jn 5<|zN (jo 3<|dy (ze 1)<|zC xE<|za (zc 2) zD)<|zN (jo 4<|jA<|zP (zR<|xH<|zw<|dy (ze 3)<|zv<|.int 1) (.nm 0) 1 [0,1,2,3] jj (zC vf<|za (zc 1)<|za (zc 2)<|za (zc 3)<|za (zH qa (dy (ze 4)<|zv<|.int 0)<|zc 0) zD))<|jM<|qQ<|za (dy (ze 3)<|zv<|.int 0)<|za (zZ<|ze 4) zD
noncomputable def Si:=(jo 3<|dy (zw<|dy (zw<|dy (ze 0)<|zv<|.int 2)<|zc 1)<|zv<|.int 0)
noncomputable def Sj:=(jo 4<|dy (zw<|dy (zw<|dy (ze 0)<|zv<|.int 2)<|zc 1)<|zv<|.int 1)
noncomputable def N0:=(jo 5 (hJ (sB (zH iQ (zc 3) (zv (.str "r")))) (jA (ja xS (za (dy (ze 0) (zv (.int 0))) (za (zc 4) zD)))) (jA (ja J7 (za (dy (ze 0) (zv (.int 0))) (za (zc 4) zD))))))
noncomputable def Sl:=(jo 6<|jA<|ja xp<|za (dy (ze 0)<|zv<|.int 0)<|za (zC yi<|za (dy (zw<|dy (ze 0)<|zv<|.int 1)<|zc 1)<|za (jA<|ja xP<|za (zc 2)<|za (zc 1) zD) zD)<|za (zc 5) zD)
noncomputable def Sm:=(jo 7<|Ag<|zP (zF<|ze 6) (.nm 0) 1 [] jj (qQ<|za (zC xE<|za (zc 0) zD)<|za (zc 0) zD))
noncomputable def Sn:=(yO<|zP (Ae<|zc 2) (.tp [0,1]) 2 [0,2,7] jj (hJ (sB<|CJ (zc 0)<|zc 4) (zC VX<|za (zc 2)<|za (zc 3)<|za (EZ (zc 4)<|zc 0) zD)<|zc 1))
def J5:=jn 8<|zN Si<|zN Sj<|zN N0<|zN Sl<|zN Sm Sn
noncomputable def D2:=(h7 (sB (zH iQ (dy (ze 1) (zv (.int 0))) (zv (.str "l")))) (jM (zC wX (za (zc 0) (za (dy (ze 1) (zv (.int 1))) (za (zc 2) zD))))) jZ)
noncomputable def M5:=(jo 3<|zC VY<|za (zc 0)<|za (dy (ze 1)<|zv<|.int 1)<|za (zc 2) zD)
def M6:=(jM<|hJ (sB<|uu<|ze 3) (zc 3)<|zv .e7)
def kE:=jn 4<|zN D2<|zN M5 M6
noncomputable def Sx:=(jo 3<|zC kE<|za (zc 0)<|za (zc 1)<|za (dy (zw<|dy (ze 2)<|zv<|.int 1)<|rA<|zv<|.int 1) zD)
noncomputable def N6:=(jM<|hJ (sB<|zH FW (zc 3)<|zv .e7) (zc 2)<|qQ<|za (dy (ze 2)<|zv<|.int 0)<|za (zH qa (dy (ze 2)<|zv<|.int 1)<|qQ<|za (zc 3) zD) zD)
def vt:=jn 4<|zN Sx N6
noncomputable def F8:=(h7 (sB (zH iQ (dy (ze 1) (zv (.int 0))) (zv (.str "l")))) (yO (ja xS (za (zc 0) (za (dy (ze 1) (zv (.int 1))) zD)))) jZ)
noncomputable def Se:=(jo 2<|jA<|zP (zF<|jL<|ja J7<|za (zc 0)<|za (dy (ze 1)<|zv<|.int 1) zD) (.nm 0) 1 [] jj (zC xE<|za (zc 0) zD))
noncomputable def Sf:=(yO<|zP (rE<|dy (zw<|zC jR<|za (dy (zw<|dy (ze 1)<|zv<|.int 1)<|zv<|.int 0) zD)<|zv<|.int 2) (.tp [0,1]) 2 [2] (sB<|Vi (zc 0)<|ze 2) (zc 1))
def vV:=jn 3<|zN F8<|zN Se Sf
def R0:=(jo 3<|dy (ze 0)<|zv<|.int 0)
def R3:=(jo 4<|dy (zw<|dy (ze 0)<|zv<|.int 2)<|zc 1)
noncomputable def R4:=(jo 5<|jA<|zP (zF<|ze 2) (.nm 0) 1 [1] (j8<|sB<|zC qi<|za (zc 0)<|za (zc 1) zD) (zc 0))
noncomputable def R5:=(jo 6<|jA<|ja J5<|za (zc 0)<|za (zc 1)<|za (jA<|zP (zF<|ze 2) (.nm 0) 1 [1] (sB<|zC qi<|za (zc 0)<|za (zc 1) zD) (zc 0)) zD)
noncomputable def R6:=(jo 7<|jA<|zP (zF<|ze 6) (.nm 0) 1 [3,4] jj (zC vt<|za (zc 1)<|za (zc 2)<|za (zc 0) zD))
noncomputable def R7:=(jo 8<|jA<|zP (zF<|jL<|ja vV<|za (zc 3)<|za (zc 4) zD) (.nm 0) 1 [1] jj (qQ<|za (zH qa (zc 1)<|zv<|.int 1)<|za (qQ<|za (zc 0) zD) zD))
noncomputable def L8:=(jM (jA (K9 (ze 5) (zw (hJ (sB (zH iQ (dy (ze 4) (zv (.int 0))) (zv (.str "r")))) (jA (K9 (ze 8) (ze 7))) (jA (K9 (ze 7) (ze 8))))))))
def Kx:=jn 9<|zN R0<|zN R3<|zN R4<|zN R5<|zN R6<|zN R7 L8
noncomputable def L5:=(jo 1<|jA<|zP (zF<|zw<|dy (zw<|zC jR<|za (dy (zw<|dy (ze 0)<|zv<|.int 1)<|zv<|.int 0) zD)<|zv<|.int 2) (.nm 0) 1 [] jj (qQ<|za (zv<|.int 0)<|za (qQ<|za (zc 0) zD) zD))
noncomputable def P7:=(xU (zR<|xH<|zw<|dy (ze 0)<|zv<|.int 2) (.nm 2)<|jo 1<|zC Kx<|za (zc 0)<|za (zc 2)<|za (zc 1) zD)
def P8:=(yO<|nU qk<|ze 1)
def vX:=jn 3<|zN L5<|zN P7 P8
def P9:=(jo 1<|jA<|ja vX<|za (zc 0) zD)
noncomputable def RE:=(jo 2<|jA<|zP (rE<|dy (ze 0)<|zv<|.int 1) (.tp [0,1]) 2 [1] jj (zC yi<|za (zc 1)<|za (jA<|ja xP<|za (zc 2)<|za (zc 0) zD) zD))
noncomputable def RF:=(jo 3<|jA<|zP (zF<|ze 2) (.nm 0) 1 [0] jj (zC yj<|za (dy (ze 1)<|zv<|.int 0)<|za (zc 0) zD))
noncomputable def RG:=(jM<|qQ<|za (jA<|zP (zF<|ze 1) (.nm 0) 1 [] jj (zC qk<|za (zc 0) zD))<|za (zc 3)<|za (zc 2) zD)
def Ky:=jn 4<|zN P9<|zN RE<|zN RF RG
noncomputable def CA:=jn 7<|zN (jo 3<|jA<|ja Cz<|za (zc 0)<|za (zc 1)<|za (zc 2) zD)<|zN (jo 4<|dy (zw<|dy (ze 0)<|zv<|.int 1)<|zc 1)<|zN (jo 5<|dy (zw<|dy (ze 0)<|zv<|.int 1)<|zc 2)<|zN (jo 6<|jA<|ja q8<|za (dy (ze 0)<|zv<|.int 0)<|za (zH qa (zc 5)<|zc 4)<|za (jA<|zP (zF<|ze 3) (.nm 0) 1 [4] jj (zH qa (K7 (zc 0) (nf<|zc 1) bZ)<|K7 (zc 0) bZ<|nf<|zc 1)) zD)<|jM<|zH Ja (zH Ja (xH<|ze 3)<|xH<|jL<|ja jY<|za (zc 5)<|za (zc 6) zD)<|xH<|jL<|ja jY<|za (zc 4)<|za (zc 3) zD
noncomputable def gC:CO (List D):=zP (zR<|xH<|ze 1) (.nm 0) 1 [1,3] (sB<|kK o5 o5 (dy (zw<|dy (ze 1)<|zc 0)<|zv<|.int 0) (zc 2)<|dy (zw<|dy (ze 1)<|zc 0)<|zv<|.int 1) (zc 0)
noncomputable def tZ:CO D:=jA<|zP (zF<|zw<|dy (ze 1)<|zc 2) (.nm 0) 1 [0] jj (QB<|zH iQ (zc 1)<|zc 0)
noncomputable def ua:CO (List D):=zP (zF<|zw<|dy (ze 2)<|zc 7) (.nm 0) 1 [2,6] jj tZ
noncomputable def nv:=zN (ZM (.tp [6,7])<|zC jT<|za (zc 0)<|za (zc 5) zD)<|jV 4<|jA ua
noncomputable def ub:=iM 4<|jM<|qQ<|za (jA<|zP (zF<|ze 2) (.nm 0) 1 [] jj (xH<|ze 0))<|za (zc 4) zD
noncomputable def qA:=jn 8<|zN (xf 2<|qm zD)<|zN (xU (zR<|zH qa (yT<|zc 0)<|zv<|.int 1) (.nm 3)<|jV 2<|jA gC)<|zN (iM 2<|xf 4<|qm zD)<|zN (xU (zR<|yT<|zc 0) (.nm 5) nv) ub
noncomputable def cE:CO (List D):=zP (zR<|xH<|ze 3) (.nm 0) 1 [0,2,3] jj (zH kG (dy (ze 3)<|zc 0)<|dy (zw<|dy (ze 2)<|zc 0)<|zc 1)
noncomputable def QA:CO (List D):=zP (zR<|zc 3) (.nm 0) 1 [0,2,5] jj (zH yM (gZ<|jL cE)<|zc 1)
noncomputable def z5:=jn 6<|zN (xf 4<|qm zD)<|zN (xU (zF<|zw<|zc 1) (.nm 5)<|jV 4<|jA QA)<|JA 4
noncomputable def N7:=(xf 4<|zP (zR<|zc 3) (.nm 0) 1 [3] jj (jA<|zP (zR<|zc 1) (.nm 0) 1 [0] jj (QB<|zH iQ (zc 1)<|zc 0)))
noncomputable def N8:=(iJ 5<|QT (zR<|zc 3) (.nm 0) 1 [3] (zP (zR<|zc 1) (.nm 0) 1 [0] jj (QB<|zH iQ (zc 1)<|zc 0)))
noncomputable def ER:=zN (Wm 4 (zc 8)<|jA<|zP (aK (dy (ze 4)<|zc 8)<|dy (ze 4)<|zc 9) (.tp [0,1]) 2 [2,10] jj (zH yM (zH qa (zc 0)<|zH kG (zc 3)<|zc 1)<|zc 2))<|cW 5 11 (zc 9)<|zH yM (zH Ja (dy (ze 11)<|zc 9)<|zH kG (zc 10)<|dy (ze 11)<|zc 8)<|zc 2
noncomputable def GQ:=zN (jo 7<|zC jB<|za (zc 0)<|za (zH qa (zc 1)<|zc 6) zD)<|zN (jo 8<|zH yM (zc 7)<|zc 3)<|zN (jo 9<|zH yM (zH qa (zH qa (zc 8)<|zv<|.int 1)<|zH yM (zH Kl (zc 7)<|zv<|.int 8)<|zH Ja (zc 3)<|zv<|.int 1)<|zc 3)<|zN (jo 10<|zH yM (zH Kl (zc 7)<|zv<|.int 64)<|zc 2) ER
noncomputable def iC:=xU (zR<|zH Ja (zH kG (zv<|.int 2)<|zc 3)<|zv<|.int 2) (.nm 6) GQ
def uS:=iL 5<|iM 4<|jM<|qQ<|za (zc 4)<|za (zc 5) zD
def qu:=jn 12<|zN N7<|zN N8<|zN iC uS
noncomputable def iP:=jV 7<|zC qu<|za (zc 0)<|za (zH qa (zc 1)<|zH kG (zv<|.int 9)<|zc 8)<|za (zc 2)<|za (dy (ze 5)<|zc 8) zD
noncomputable def Aj:=jo 12<|jA<|ja z5<|za (zc 2)<|za (dy (ze 6)<|zc 8)<|za (dy (zw<|dy (ze 7)<|zc 10)<|zv<|.int 1)<|za (dy (ze 5)<|zc 10) zD
noncomputable def Ai:=jV 9<|jA<|ja z5<|za (zc 2)<|za (dy (zw<|dy (ze 7)<|zc 11)<|zv<|.int 0)<|za (zc 12)<|za (dy (ze 5)<|zc 10) zD
noncomputable def iT:=zN (ZM (.tp [10,11])<|zC jT<|za (zc 3)<|za (zc 8) zD)<|zN Aj Ai
noncomputable def qO:=jn 13<|zN (ZM (.tp [5,6])<|zC qA<|za (zc 3)<|za (zc 4) zD)<|zN (xf 7<|qm zD)<|zN (xU (zR<|xH<|ze 5) (.nm 8) iP)<|zN (xf 9<|qm zD)<|zN (xU (zR<|yT<|zc 3) (.nm 8) iT)<|iM 9<|jM<|qQ<|za (zc 5)<|za (zc 9) zD
noncomputable def ud:CO D:=aM (EX (dy (zw<|zC jT<|za (zc 0)<|za (zc 5) zD)<|zv<|.int 0)<|jL<|qm<|za (zc 3)<|za (zc 4) zD)<|kK o5 o5 (zc 3) (dy (zw<|zC jT<|za (zc 0)<|za (zc 5) zD)<|zv<|.int 0)<|zc 4
noncomputable def vT:=h7 (w5 (sB<|zc 6)<|sB<|zc 7) (zN (jo 8 ud)<|h7 (w5 (iO (sB<|zc 6)<|j8<|sB<|zc 8)<|iO (sB<|zc 7)<|sB<|zc 8) (jM<|zv<|.int 0) jZ) jZ
noncomputable def nz:CO (List D):=zF<|zw<|jA<|qm<|za (qQ<|za (zH Ja (zc 3)<|zv<|.int 1)<|za (zH u0 (dy (ze 1)<|zv<|.int 0)<|zc 3)<|za (zH u0 (dy (ze 2)<|zv<|.int 0)<|zc 3) zD)<|za (qQ<|za (zc 4)<|za (zH ri (dy (ze 1)<|zv<|.int 1)<|zc 4)<|za (zH ri (dy (ze 2)<|zv<|.int 1)<|zc 4) zD) zD
noncomputable def jz:=jn 9<|zN (jo 3<|rB (dy (ze 1)<|zv<|.int 0)<|dy (ze 2)<|zv<|.int 0)<|zN (jo 4<|iK (dy (ze 1)<|zv<|.int 1)<|dy (ze 2)<|zv<|.int 1)<|zN (h7 (sB<|zH ri (zc 3)<|zc 4) (jM<|zv<|.int 0) jZ)<|zN (xU nz (.tp [5,6,7]) vT)<|jM<|zv<|.int 1
noncomputable def yH:=jn 3<|jM<|gZ<|jL<|zP (zF<|ze 1) (.nm 0) 1 [0,2] jj (gZ<|jL<|zP (zF<|ze 2) (.nm 0) 1 [0,1] jj (zC jz<|za (zc 2)<|za (zc 1)<|za (zc 0) zD))
noncomputable def Bk:=jo 9<|jA<|ja z5<|za (zc 0)<|za (dy (zw<|dy (ze 4)<|zc 7)<|zv<|.int 2)<|za (dy (zw<|dy (ze 2)<|zv<|.int 1)<|zc 5)<|za (zc 8) zD
noncomputable def sr:CO D:=jA<|ja z5<|za (zc 0)<|za (dy (zw<|dy (ze 3)<|zv<|.int 1)<|zc 5)<|za (dy (zw<|dy (ze 4)<|zc 6)<|zv<|.int 2)<|za (zc 8) zD
noncomputable def lV:=zN (ZM (.tp [6,7])<|zC jT<|za (zc 1)<|za (zc 5) zD)<|zN (jo 8<|dy (zw<|dy (ze 2)<|zv<|.int 0)<|zc 6)<|zN Bk<|h7 (sB<|zH h9 (zc 9) sr) (jM<|zv<|.bl ed) jZ
noncomputable def qP:=jn 10<|zN (xU (zR<|yT<|zc 1) (.nm 5) lV)<|jM<|zv<|.bl dt
noncomputable def xk:=jn 3<|zN (rF<|zC xT<|za (zc 0)<|za (zc 1) zD)<|zN (jo 2<|jA<|ja xZ<|za (zc 0)<|za (zc 1) zD)<|zN (h7 (sB<|zH ri (zC j5<|za (zc 2) zD)<|zv<|.int 60) JB jZ)<|yO<|zP (zF<|jL<|ja xS<|za (dy (ze 0)<|zv<|.int 0)<|za (zC kU<|za (zc 0)<|za (zc 1) zD) zD) (.nm 0) 1 [2] jj (jA<|ja qt<|za (zc 1)<|za (zc 0) zD)
def FF:=xf 1<|qm zD
def FE:CO Bool:=sB<|zH h9 (dy (ze 1)<|zc 0)<|zv<|.int 0
def bG:=jo 3<|jA<|zP (zR<|xH<|ze 2) (.nm 0) 1 [2] FE (zc 0)
noncomputable def bF:=h7 (w5 (sB<|zH iQ (zc 3)<|jA<|qm zD)<|sB<|zH h9 (dy (ze 2)<|dy (ze 3)<|zv<|.int 0)<|zv<|.int 1) (jM<|zv<|.bl ed) jZ
def bD:=jV 1<|dy (ze 3)<|zv<|.int 0
noncomputable def ux:=h7 (sB<|zH DT (dy (ze 1)<|zH Ja (zc 4)<|zv<|.int 1)<|dy (ze 1)<|zc 4) (jM<|zv<|.bl ed) jZ
noncomputable def fF:CO D:=jA<|zP (zF<|ze 0) (.nm 0) 1 [1,4] jj (dy (ze 0)<|dy (ze 1)<|zc 2)
noncomputable def fE:CO D:=jA<|zP (zR<|xH<|ze 1) (.nm 0) 1 [4] jj (QB<|zH iQ (zc 0)<|zc 1)
def Ei:=h7 (rH 1<|sB<|zH h9 fF fE) (jM<|zv<|.bl ed) jZ
noncomputable def jX:=jn 5<|zN FF<|zN (xU (zF<|zw<|zc 0) (.nm 2)<|zN bG<|zN bF bD)<|zN (xU (vJ (zv<|.int 1)<|xH<|ze 1) (.nm 4) ux)<|zN (xU (zR<|xH<|ze 1) (.nm 4) Ei)<|jM<|zv<|.bl dt
noncomputable def ki:=jn 4<|zN (xf 1<|qm zD)<|zN (xU (zF<|zw<|zc 0) (.nm 2)<|xU (zF<|zw<|dy (ze 2)<|zv<|.int 2) (.nm 3)<|QC 1<|ze 3)<|JA 1
noncomputable def CN:=h7 (w5 (j8<|sB<|m3 .list<|zc 0)<|sB<|zH h9 (xH<|ze 0)<|zc 5) (jM<|zv<|.bl ed) jZ
noncomputable def uv:=h7 (w5 (j8<|sB<|zC qv<|za (zc 6)<|za (zc 1)<|za (dy (ze 4)<|zv<|.int 0)<|za (dy (ze 3)<|zv<|.int 0) zD)<|j8<|sB<|zC qP<|za (zc 1)<|za (zc 2)<|za (zc 3)<|za (zc 4)<|za (zc 6) zD) (jM<|zv<|.bl ed) jZ
noncomputable def CM:CO D:=jA<|zP (zF<|ze 0) (.nm 0) 1 [] jj (jA<|ja ki<|za (zc 0) zD)
noncomputable def qY:=jn 7<|zN CN<|zN (xU (zF<|zw<|zc 0) (.nm 6) uv)<|jM<|zC jX<|za CM zD
def pF:=jo 1<|zC jB<|za (zc 0)<|za (zv<|.int 0) zD
noncomputable def pE:=jo 2<|dy (jL<|qm<|za (zv<|.int 2)<|za (zv<|.int 3)<|za (zv<|.int 5)<|za (zv<|.int 7) zD)<|zH yM (zc 1)<|zv<|.int 4
noncomputable def pD:=jo 3<|zH qa (zv<|.int 1)<|zH yM (zH Kl (zc 1)<|zv<|.int 4)<|zv<|.int 4
noncomputable def pC:=jo 4<|zC xR<|za (zH Kl (zc 1)<|zv<|.int 16)<|za (zc 3) zD
noncomputable def pB:=jo 5<|jA<|ja qM<|za (zc 0)<|za (zv<|.int 1)<|za (zH yM (zH Kl (zc 1)<|zv<|.int 512)<|zv<|.int 4)<|za (zc 3) zD
noncomputable def pA:=jo 6<|jA<|ja qM<|za (zc 0)<|za (zv<|.int 4)<|za (zH yM (zH Kl (zc 1)<|zv<|.int 2048)<|zv<|.int 4)<|za (zc 3) zD
noncomputable def pz:=jo 7<|zC qO<|za (zc 0)<|za (zv<|.int 8)<|za (zc 2)<|za (zc 4)<|za (zc 5) zD
noncomputable def pw:=jo 8<|zC qO<|za (zc 0)<|za (zv<|.int 50)<|za (zc 2)<|za (zc 4)<|za (zc 6) zD
def pv:=jo 9<|zC yH<|za (zc 4)<|za (zc 5)<|za (zc 6) zD
noncomputable def cC:=jo 10<|qQ<|za (zC xF<|za (zc 2)<|za (zc 4)<|za (zc 7) zD)<|za (zC xF<|za (zc 2)<|za (zc 4)<|za (zc 8) zD) zD
noncomputable def il:CO (List<|List D):=nV xk<|za (dy (ze 10)<|zv<|.int 0)<|za (dy (ze 10)<|zv<|.int 1) zD
noncomputable def aw:CO Bool:=j8<|sB<|zC qY<|za (zc 11)<|za (zc 2)<|za (zc 4)<|za (zc 7)<|za (zc 8)<|za (zc 9) zD
noncomputable def ay:=jM<|zC qY<|za (jA<|ja xk<|za (dy (ze 10)<|zv<|.int 0)<|za (dy (ze 10)<|zv<|.int 1) zD)<|za (zc 2)<|za (zc 4)<|za (zc 7)<|za (zc 8)<|za (zc 9) zD
noncomputable def J6:=jn 13<|zN pF<|zN pE<|zN pD<|zN pC<|zN pB<|zN pA<|zN pz<|zN pw<|zN pv<|zN cC<|aL 11 12 il aw ay
abbrev p9(k:Sk)(xs:List D):D:=match k with | .T=>D.tup xs | .L=>D.lst xs
@[simp] theorem Hk(k xs):je (p9 k xs)=bQ (k,xs):=by cases k<;>rfl
theorem Xt(k:Sk)(f:Nat->Int)(I:0<p)(C:n<=lim) :
 xO [.int p,p9 k (zA n f)]=bQ (.val<|.tup<|zA n λi=>f i%p):=by
 simp[xO,jn,z7,z6,C,kg];unfold zA;rw[zx (r:=λi=>D.int<|f i%p)]
 ·simp
 ·intro i a
  refine zy rfl rfl ?_;simp[I]
theorem gT(f:Nat->Int)(I:0<p)(C:n<=lim) :
 xO [.int p,.tup (zA n f)]=bQ (.val<|.tup<|zA n λi=>f i%p):=Xt .T f I C
theorem wY(f:Nat->Int)(I:0<p)(C:n<=lim) :
 xO [.int p,.lst (zA n f)]=bQ (.val<|.tup<|zA n λi=>f i%p):=Xt .L f I C
theorem Kv(k:Sk)(f:RK)(g:Nat->Int)(O:0<p)(I:h<=lim)(C:w<=lim)(U : ∀i j,i<h->j<w->0<=f i j/\f i j<100) :
 VY [.int p,jJ h w f,p9 k (zA w g)]=bQ (.val<|.tup<|zA h λi=>zf (λj=>f i j*g j) w%p):=by
 simp[VY,jn,z7,z6,I,kg,jJ,La];unfold zX;rw[zx (r:=λi=>D.int<|zf (λj=>f i j*g j) w)]
 ·simp
  rw[show(List.map (λi=>D.int<|zf (λj=>f i j*g j) w)<|IS h)=zA h λi=>zf (λj=>f i j*g j) w from rfl,wY _ O I];rfl
 ·intro i a
  refine zy rfl rfl ?_;simp[z6,vY,C];rw[zx (r:=λj=>D.int<|f i j*g j)]
  ·simp
   rw[show(List.map (λj=>D.int<|f i j*g j)<|IS w)=zA w λj=>f i j*g j from rfl,yS]
  ·intro j b
   refine zy rfl rfl ?_;have:=U i j (IV.mp a)<|IV.mp b;simp[vc (f i j) (g j) ⋯ ⋯]
theorem kD(f:RK)(I:h<=lim)(C:w<=lim):jP [jJ h w f]=bQ (.val<|jJ w h λi j=>f j i):=by
 simp[jP,jn,z7,z6,I,C,kg,jJ,La,jE,jv];rw[zV w λi=>(i:Int)];rw[zx (r:=λj=>D.tup<|zA h λi=>f i j)]
 ·simp
  rfl
 ·intro j O
  refine zy rfl rfl ?_;simp[z6,I,kg];unfold zX;rw[zx (r:=λi=>D.int<|f i j)]
  ·simp
   rfl
  ·intro i b
   refine zy rfl rfl ?_;have a:=IV.mp O;simp[a,yB _ a]
theorem ZG{p:Int}{h m w:Nat}(f g:RK)(I:0<p)(O:h<=lim)(C:m<=lim)(H:w<=lim)(U : ∀i j,i<m->j<w->0<=g i j/\g i j<100) :
 kC [.int p,jJ h m f,jJ m w g]=bQ (.val<|jJ h w λi j=>zf (λk=>g k j*f i k) m%p):=by
 simp[kC,jn,z7,jE,kD g C H];simp[z6,O,C,H,kg,jJ];rw[show zX h m f=(IS h).map λi=>D.tup (zA m<|f i)from rfl];rw[zx (r:=λi=>D.tup<|zA w λj=>zf (λk=>g k j*f i k) m%p)]
 ·simp
  rfl
 ·intro i n
  refine zy rfl rfl ?_;have e:=Kv .T (λi j=>g j i) (f i) I H C<|λa b d l=>U b a l d;simp[jJ]at e ⊢;rw[e];simp
theorem ZR{p:Int}{h w:Nat}(c:Int)(f g:RK)(I : -(2 ^ 64)<c)(O:c<2 ^ 64)(U:0<p)(H:h<=lim)(C:w<=lim) :
 xG [.int p,jJ h w f,.int c,jJ h w g]=bQ (.val<|jJ h w λi j=>(f i j+c*g i j)%p):=by
 simp[xG,jn,z7,jE,jJ,V1,H,z6,kg,La];rw[zx (r:=λi=>D.tup<|zA w λj=>(f i j+c*g i j)%p)]
 ·simp
  rfl
 ·intro i a
  refine zy rfl rfl ?_;simp[vY,C,z6,La];rw[zx (r:=λj=>D.int<|f i j+c*g i j)]
  ·simp
   rw[show(List.map (λj=>D.int<|f i j+c*g i j)<|IS w)=zA w λj=>f i j+c*g i j from rfl,wY _ U C];simp
  ·intro j b
   refine zy rfl rfl ?_;simp[kg,vc c _ I O]
theorem kB(C:n<=lim):jR [.int n]=bQ (.val<|jJ n n λi j=>if i=j then 1 else 0):=by
 simp[jR,jn,z7,jE,C,z6,kg,La,jv];rw[zV n λi=>(i:Int)];rw[zx (r:=λi=>D.tup<|zA n λj=>if i=j then 1 else 0)]
 ·simp
  rfl
 ·intro i a
  refine zy rfl rfl ?_;simp[C,z6,La,jv,kg];rw[zV n λi=>(i:Int)];rw[zx (r:=λj=>D.int<|if i=j then 1 else 0)]
  ·simp
   rfl
  ·intro j I
   refine zy rfl rfl ?_;simp;by_cases e:i=j
   ·simp[e]
   ·rw[EQ ⋯,EQ e]
theorem dc(d:D)(w:Nat):La w d=(IS w).map λ_=>d:=by
 induction w with
 | zero=>rfl
 | succ n I=>rw[List.replicate_succ',I,MM,Mr];simp
def Kz(C:List Int):D:= .lst (C.map D.int)
mutual
theorem RR : ∀d:D,lL d d=dt
 | .e7=>rfl
 | .bl b=>by simp[lL]
 | .int i=>by simp[lL]
 | .str x=>by simp[lL]
 | .tup e=>by simp only[lL];exact DV e
 | .lst e=>by simp only[lL];exact DV e
 | .md a b=>by simp only[lL];rw[DV a,DV b];rfl
 | .lq a b=>by simp only[lL];rw[DV b];simp
theorem DV : ∀ds:List D,u5 ds ds=dt
 | []=>rfl
 | d::ds=>by simp only[u5,RR d,DV ds,Bool.and_self]
end
theorem wJ : ∀{l:List D} {n:Nat},(∀d∈l,deep d<=n)->u4 l<=n
 | [],n,_=>Ms n
 | d::ds,n,h=>by simp only[u4];exact Nat.max_le.mpr ⟨h d Lp,wJ λe I=>h e<|Lj _ I⟩
theorem W4(n f):deep (.tup<|zA n f)<=1:=by
 simp only[deep];have:u4 (zA n f)<=0:=wJ λd a=>by simp[zA]at a;obtain⟨i,_,rfl⟩:=a;exact Le _
 omega
theorem nc(h w f):deep (.tup<|zX h w f)<=2:=by
 simp only[deep];have:u4 (zX h w f)<=1:=wJ λd a=>by simp[zX]at a;obtain⟨i,_,rfl⟩:=a;exact W4 _ _
 omega
theorem JI : ∀{l:List D},(∀d∈l,i6 d=dt)->vr l=dt
 | [],_=>rfl
 | d::ds,h=>by simp only[vr,h d Lp,JI λe I=>h e<|Lj _ I,Bool.and_self]
theorem WE(h:deep d<=n)(H:n<=20)(C:i6 d=dt):m9 d=dt:=by unfold m9;rw[C,Bool.and_true];exact decide_eq_true<|Mj h H
theorem eC(n f):i6 (.tup<|zA n f)=dt:=by
 simp only[i6];exact JI λd a=>by simp[zA]at a;obtain⟨i,_,rfl⟩:=a;rfl
theorem sD(h w f):i6 (.tup<|zX h w f)=dt:=by
 simp only[i6];exact JI λd a=>by simp[zX]at a;obtain⟨i,_,rfl⟩:=a;exact eC _ _
theorem wK{d:D}(h:m9 d=dt):h9 d d=bQ (.bl ed):=by unfold h9;rw[RY ⟨h,h⟩,RR];rfl
theorem vU(i:Int):jH [.int i]=bQ (.val<|.bl dt):=by simp[jH,jn,z7,cf]
theorem KL{C:Type}(l:List C):Jn (l.map λ_=>D.bl dt)=bQ (l.map λ_=>dt):=by
 induction l with
 | nil=>rfl
 | cons a l I=>simp[Jn,CD,I]
theorem aj{C:Type}(l:List C):((l.map λ_=>dt).all id)=dt:=by
 induction l with
 | nil=>rfl
 | cons a l I=>simp[I]
theorem Xb(k:Int)(I:0<k) : ∃n:Nat,m%k=n/\(n:Int)<k:=by have a:=LQ m (show k≠0 by omega);have d:=LB m I;obtain⟨n,b⟩:=Ny a;exact⟨n,b,by omega⟩
def ix(b:Bool):Nat:=if b then 108 else 114
def k6(c:Nat):Str:=⟨#[c]⟩
theorem Xg : ∀(l:List Nat),(Rw "" (l.map k6)).cps.toList=l
 | []=>rfl
 | [c]=>rfl
 | c::d::l=>by
  have I:=Xg (d::l);show((k6 c++("" : Str))++Rw "" ((d::l).map k6)).cps.toList=_;have e : ∀a b:Str,(a++b).cps.toList=a.cps.toList++b.cps.toList:=λa b=>by show(a.cps++b.cps).toList=_;simp
  rw[e,e,I];rfl
noncomputable def qb(m:Nat)(w:RX):Str:=Rw "" ((IS m).map λk=>k6 (ix (w k)))
theorem kl(m w):(qb m w).cps.toList=(IS m).map λk=>ix (w k):=by have:=Xg<|(IS m).map λk=>ix<|w k;rw[LG]at this;exact this
theorem v7(m w):(qb m w).length=m:=by show(qb m w).cps.size=m;rw[<- Nj,kl];simp
theorem kj{m:Nat}(w)(C:m<=1000):jQ (qb m w)=dt:=decide_eq_true (by rw[v7];exact C)
theorem XG{C:Type}(g:C->Str) : ∀l:List C,KS (l.map λx=>D.str<|g x)=bQ (l.map g)
 | []=>rfl
 | a::l=>by simp[KS,XG g l]
noncomputable def eK(w:RX)(wd:RZ)(k:Nat):Nat:=if w k then wd k else wd (k+1)
noncomputable def eX(w:RX)(wd:RZ)(k:Nat):Nat:=if w k then wd (k+1)else wd k
noncomputable def vF(w:RX)(wd:RZ)(T:RV)(k:Nat):D:= .tup [.str (k6<|ix<|w k),jJ (eK w wd k) (eX w wd k) (T k)]
noncomputable def xi(m:Nat)(w:RX)(wd:RZ)(T:RV):List D:=(IS m).map (vF w wd T)
noncomputable def jh(p:Int)(m:Nat)(w:RX)(wd:RZ)(T:RV):D:= .tup [.int p,.tup<|zA (m+1) λk=>(wd k:Int),.tup (xi m w wd T)]
@[simp] theorem Y2(m w wd T):(xi m w wd T).length=m:=by simp[xi]
theorem KW{m k:Nat}(w)(C:m<=1000)(I:k<m)(γ:Ctx)(f g:CO D)(O:f γ=bQ (.str<|qb m w))(U:g γ=bQ (.int k)):wc f g γ=bQ (.str<|k6<|ix<|w k):=by rw[Kq,O,U];simp only[IY,qg];rw[RY (kj w C),kl];simp[I,k6]
theorem Bt(b:Bool):m9 (.str<|k6<|ix b)=dt:=by cases b<;>decide +kernel
theorem VE(b:Bool):iQ (.str (k6 (ix b))) (.str "r")=bQ (.bl (!b)):=by
 have e : ∀b:Bool,(k6 (ix b)==(MT "r")) = !b:=by decide +kernel
 have I:m9 (.str (MT "r"))=dt:=by decide +kernel
 unfold iQ;rw[RY ⟨Bt b,I⟩];show bQ (D.bl (k6 (ix b)==MT "r"))=_;rw[e]
theorem gh(f:Nat->D)(H:i<=j)(C:j<=n):cg ((IS n).map f) (bQ (i:Int)) (bQ (j:Int))=(IS<|j - i).map λk=>f (i+k):=by
 have c : ∀(d k:Nat),k<=n->VL n d (bQ (k:Int))=k:=λd k O=>by show(if (k:Int)<0 then ((k:Int)+n).toNat else min (k:Int).toNat n)=k;rw[EQ ⋯];simp only[Mt];omega
 have I:((IS n).map f).length=n:=by simp
 unfold cg;rw[I,c 0 i ⋯,c n j C];apply List.ext_getElem
 ·simp;omega
 ·intro k U g2
  simp
theorem zu : ∀{n:Nat},(∀k,k<n->f k=g k)->zf f n=zf g n
 | 0,_=>rfl
 | n+1,h=>by simp only[zf];rw[zu (n:=n) λk I=>h k ⋯,h n ⋯]
theorem zO(n:Nat):zf (λ_=>0) n=0:=by
 induction n with
 | zero=>rfl
 | succ n I=>simp[zf,I]
theorem zM(hi:i<n)(h : ∀k,k<n->k≠i->f k=0):zf f n=f i:=by
 induction n with
 | zero=>omega
 | succ n I=>
  simp only[zf];by_cases e:i=n
  ·subst e
   rw[zu (g:=λ_=>0) (λk O=>h k ⋯ ⋯),zO];omega
  ·rw[I ⋯ λk O=>h k ⋯,h n ⋯ ⋯]
   omega
theorem jt(f g:Nat->Int)(n:Nat):zf (λk=>f k+g k) n=zf f n+zf g n:=by
 induction n with
 | zero=>rfl
 | succ n I=>simp only[zf,I];omega
theorem qB(f:Nat->Int)(c:Int)(n:Nat):zf (λk=>f k*c) n=zf f n*c:=by
 induction n with
 | zero=>simp[zf]
 | succ n I=>simp only[zf,I,Pk]
theorem jd(f:Nat->Int)(c:Int)(n:Nat):zf (λk=>c*f k) n=c*zf f n:=by
 induction n with
 | zero=>simp[zf]
 | succ n I=>simp only[zf,I,NG]
theorem qc(f:RK)(n m:Nat):zf (λi=>zf (λj=>f i j) m) n=zf (λj=>zf (λi=>f i j) n) m:=by
 induction n with
 | zero=>simp[zf,zO]
 | succ n I=>simp only[zf];rw[I,<- jt]
theorem zI : ∀{n:Nat},(∀k,k<n->f k%p=g k%p)->zf f n%p=zf g n%p
 | 0,_=>rfl
 | n+1,h=>by simp only[zf];rw[LZ,zI (n:=n)<|λk I=>h k ⋯,h n ⋯,<- LZ]
theorem eP(p x y:Int):(x%p*y)%p=(x*y)%p:=by rw[Lc,LF,<- Lc]
theorem wA(p x y:Int):(x*(y%p))%p=(x*y)%p:=by rw[Lc,LF,<- Lc]
theorem KO(p:Int)(a b c:RK)(m w i j:Nat) :
 zf (λk=>a i k*(zf (λl=>b k l*c l j) w%p)) m%p=zf (λl=>(zf (λk=>a i k*b k l) m%p)*c l j) w%p:=by
 rw[zI (g:=λk=>zf (λl=>a i k*(b k l*c l j)) w) (λk _=>by rw[wA,jd]),
  zI (f:=λl=>(zf (λk=>a i k*b k l) m%p)*c l j) (g:=λl=>zf (λk=>a i k*(b k l*c l j)) m) (λl _=>by rw[eP,<- qB];exact congrArg (· % p)<|zu λk _=>ME _ _ _),qc]
abbrev Vc:=Nat->Int
def Pr(p:Int):Prop:=p=2\/p=3\/p=5\/p=7
theorem Pr.pos(h:Pr p):0<p:=by unfold Pr at h;omega
theorem Pr.two(h:Pr p):2<=p:=by unfold Pr at h;omega
theorem Pr.le(h:Pr p):p<=7:=by unfold Pr at h;omega
theorem Pr.one(h:Pr p):(1:Int)%p=1:=LX ⋯ (by have:=h.two;omega)
inductive Span(p:Int)(n:Nat)(G:Vc->Prop):Vc->Prop where
 | zero {v:Vc}:(∀i,i<n->v i%p=0)->Span p n G v
 | step {v w g:Vc} {c:Int}:G g->Span p n G w->(∀i,i<n->v i%p=(w i+c*g i)%p)->Span p n G v
section
variable{p:Int}{n:Nat}{G G':Vc->Prop}
theorem Span.congr(h:Span p n G v)(e : ∀i,i<n->v' i%p=v i%p):Span p n G v':=by
 cases h with
 | zero h=>exact .zero λi a=>by rw[e i a,h i a]
 | step I b h=>exact .step I b λi a=>by rw[e i a,h i a]
theorem Span.gen(h:G g):Span p n G g:= .step (c:=1) h (.zero (v:=λ_=>0) λi _=>by simp) λi _=>by simp
theorem Span.add(O:Span p n G v)(C:Span p n G w) : ∀c:Int,Span p n G λi=>w i+c*v i:=by
 induction O with
 | zero h=>
  intro c;refine C.congr λi a=>?_;rw[LZ,Lc,h i a];simp
 | @step v d g I U f h b=>
  intro c;refine .step (c:=c*I) U (b c) λi a=>?_;have e:(c*v i)%p=(c*(d i+I*g i))%p:=by rw[Lc,h i a,<- Lc]
  rw[LZ,e,<- LZ];congr 1;rw[NG,<- ME,Int.add_assoc]
theorem Span.smul(I:Span p n G v)(c:Int):Span p n G λi=>c*v i:=
 (I.add (w:=λ_=>0) (.zero λi _=>by simp) c).congr λi _=>by simp
theorem Span.le(h:Span p n G v)(I : ∀g,G g->Span p n G' g):Span p n G' v:=by
 induction h with
 | zero h=>exact .zero h
 | step O a h U=>exact((I _ O).add U _).congr h
end
structure g5(p:Int)(n r:Nat)(B:Nat->Vc)(l:RZ):Prop where
 lt : ∀k,k<r->l k<n
 mono : ∀k m,k<m->m<r->l k<l m
 one : ∀k,k<r->B k (l k)=1
 i9 : ∀k j,k<r->j<l k->B k j=0
 oe : ∀k m,k<r->m<r->m≠k->B k (l m)=0
 ji : ∀k i,k<r->i<n->0<=B k i/\B k i<p
def el(r:Nat)(B:Nat->Vc):Vc->Prop:=λv=>∃k,k<r/\v=B k
section
variable{p:Int}{n r r':Nat}{B B':Nat->Vc}{l l':RZ}
theorem Zv(O:g5 p n r B l)(h:Span p n (el r B) v) : ∀i,i<n->v i%p=zf (λk=>v (l k)*B k i) r%p:=by
 induction h with
 | @zero v h=>
  intro i a;rw[h i a];have:zf (λk=>v (l k)*B k i) r%p=zf (λ_=>0) r%p:=zI λk I=>by rw[Lc,h _ (O.lt k I)];simp
  rw[this,zO];rfl
 | @step v w g c U o h j=>
  intro i a;obtain⟨m,b,rfl⟩:=U;rw[h i a];have e:zf (λk=>v (l k)*B k i) r%p=zf (λk=>w (l k)*B k i+c*B m (l k)*B k i) r%p:=zI λk I=>by rw[Lc,h _<|O.lt k I,<- Lc,Pk]
  have f:zf (λk=>c*B m (l k)*B k i) r=c*B m i:=by rw[zM (i:=m) b λk I d=>by rw[O.oe m k b I d];simp,O.one m b];simp
  rw[e,jt,f,LZ,j i a,<- LZ]
theorem Vy(I:g5 p n r B l)(h:Span p n (el r B) v)(U:j<n)(C:v j%p≠0)(hz : ∀i,i<j->v i%p=0) : ∃k,k<r/\l k=j:=by
 apply Mx;intro a;apply C;rw[Zv I h j U];have:zf (λk=>v (l k)*B k j) r%p=zf (λ_=>0) r%p:=zI λk O=>by
  have b:l k≠j:=λe=>a ⟨k,O,e⟩;rcases Lu (l k) j with q | q
  ·rw[Lc,hz _ q];simp
  ·rw[I.i9 k j O ⋯];simp
 rw[this,zO];rfl
theorem WT(O : ∀k m,k<m->m<r->l k<l m)(U : ∀k m,k<m->m<r'->l' k<l' m)(C : ∀k,k<r->∃m,m<r'/\l' m=l k)(H : ∀k,k<r'->∃m,m<r/\l m=l' k) :
 ∀k,k<r->k<r'/\l k=l' k:=by
 intro k
 induction k using Nat.strongRecOn with
 | ind k b=>
  intro a;obtain⟨m,d,em⟩:=C k a;have f:k<=m:=by
   rcases Lu m k with q | q
   ·have:=(b m q ⋯).2
    have:=O m k q a;omega
   ·exact q
  have I:k<r':=by omega
  refine⟨I,?_⟩;obtain⟨q,e,eq⟩:=H k I;have g:k<=q:=by
   rcases Lu q k with z | z
   ·have:=(b q z ⋯).2
    have:=U q k z I;omega
   ·exact z
  rcases Lu k m with z | z
  ·have h:=U k m z d
   have i:l k<=l q:=by
    rcases Lu k q with y | y
    ·exact Py<|O k q y e
    ·have:k=q:=by omega
     subst this;exact Le _
   omega
  ·have:m=k:=by omega
   subst this;exact em.symm
theorem JZ(J:Pr p)(O:g5 p n r B l)(U:g5 p n r' B' l')(C : ∀v,Span p n (el r B) v->Span p n (el r' B') v)(H : ∀v,Span p n (el r' B') v->Span p n (el r B) v) :
 r=r'/\(∀k,k<r->l k=l' k)/\∀k i,k<r->i<n->B k i=B' k i:=by
 have one:=J.one;have g : ∀k,k<r->∃m,m<r'/\l' m=l k:=λk I=>Vy U (C _<|.gen ⟨k,I,rfl⟩) (O.lt k I) (by rw[O.one k I,one];decide) λi a=>by rw[O.i9 k i I a];simp
 have h : ∀k,k<r'->∃m,m<r/\l m=l' k:=λk I=>Vy O (H _<|.gen ⟨k,I,rfl⟩) (U.lt k I) (by rw[U.one k I,one];decide) λi a=>by rw[U.i9 k i I a];simp
 have b:=WT O.mono U.mono g h;have o:=WT U.mono O.mono h g;have s:r=r':=by
  rcases L1 r r' with q | q | q
  ·exact absurd (o r q).1 (Mi _)
  ·exact q
  ·exact absurd (b r' q).1 (Mi _)
 subst s;refine⟨rfl,λk I=>(b k I).2,λk i I a=>?_⟩;have c:=Zv U (C _<|.gen ⟨k,I,rfl⟩) i a;rw[zM (i:=k) I λm d j=>by rw[<- (b m d).2,O.oe k m I d j];simp,<- (b k I).2,O.one k I,L3]at c;have e:=O.ji k i I a;have f:=U.ji k i I a;rw[LX e.1 e.2,LX f.1 f.2]at c;exact c
end
theorem jy(q:α->Bool)(r:α->D) : ∀(l:List α),(∀x∈l,∃γ1,x9 T (g x) γ=bQ γ1/\k γ1=bQ (q x)/\(q x=dt->f γ1=bQ (r x)))->
 zQ T k f γ (l.map g)=bQ ((l.filter q).map r)
 | [],_=>rfl
 | x::l,h=>by
  obtain⟨γ1,a,b,O⟩:=h x Lp;have I:=jy q r l λy U=>h y<|Lj _ U;simp only[Mc,zQ,a,b,IY];cases e:q x with
  | true=>simp[O e,I,e]
  | false=>simp[I,e]
theorem BS(I:Pr p)(O:0<x)(C:x<p) : ∃y:Nat,1<=y/\(y:Int)<p/\(y:Int)*x%p=1:=by
 rcases I with rfl | rfl | rfl | rfl
 ·obtain rfl:x=1:=by omega
  exact⟨1,by decide,by decide,by decide⟩
 ·rcases (show x=1\/x=2 by omega)with rfl | rfl
  ·exact⟨1,by decide,by decide,by decide⟩
  ·exact⟨2,by decide,by decide,by decide⟩
 ·rcases (show x=1\/x=2\/x=3\/x=4 by omega)with rfl | rfl | rfl | rfl
  ·exact⟨1,by decide,by decide,by decide⟩
  ·exact⟨3,by decide,by decide,by decide⟩
  ·exact⟨2,by decide,by decide,by decide⟩
  ·exact⟨4,by decide,by decide,by decide⟩
 ·rcases (show x=1\/x=2\/x=3\/x=4\/x=5\/x=6 by omega)with rfl | rfl | rfl | rfl | rfl | rfl
  ·exact⟨1,by decide,by decide,by decide⟩
  ·exact⟨4,by decide,by decide,by decide⟩
  ·exact⟨5,by decide,by decide,by decide⟩
  ·exact⟨2,by decide,by decide,by decide⟩
  ·exact⟨3,by decide,by decide,by decide⟩
  ·exact⟨6,by decide,by decide,by decide⟩
theorem YM{q:RX}{n a:Nat}{kn:List Nat}(h:(IS n).filter q=a::kn):a<n/\q a=dt/\∀i,i<a->q i=ed:=by
 have b:a∈(IS n).filter q:=by rw[h];exact Lp
 refine⟨IV.mp (Lx.mp b).1,(Lx.mp b).2,λi f=>?_⟩;apply Mx;intro I;have O:q i=dt:=by simpa using I
 have U:i∈a::kn:=by rw[<- h];exact Lx.mpr ⟨IV.mpr (by have:=IV.mp (Lx.mp b).1;omega),O⟩
 have d:(a::kn).Pairwise (· < ·):=by rw[<- h];exact Pd _ Om
 rcases Lo.mp U with e | e
 ·omega
 ·have:=(List.pairwise_cons.mp d).1 i e;omega
theorem eI(h:(IS n).filter q=[]) : ∀i,i<n->q i=ed:=λi a=>by apply Mx;intro I;have:i∈(IS n).filter q:=Lx.mpr ⟨IV.mpr a,by simpa using I⟩;rw[h]at this;simp at this
theorem Y7(I:Pr p)(O:0<x)(C:x<p) : ∃y,wZ [.int p,.int x]=bQ (.val<|.int y)/\1<=y/\y<p/\x*y%p=1:=by
 rcases I with rfl | rfl | rfl | rfl
 ·have:x=1:=by omega
  subst this;exact⟨1,rfl,by decide,by decide,by decide⟩
 ·have:x=1\/x=2:=by omega
  rcases this with rfl | rfl
  ·exact⟨1,rfl,by decide,by decide,by decide⟩
  ·exact⟨2,rfl,by decide,by decide,by decide⟩
 ·have:x=1\/x=2\/x=3\/x=4:=by omega
  rcases this with rfl | rfl | rfl | rfl
  ·exact⟨1,rfl,by decide,by decide,by decide⟩
  ·exact⟨3,rfl,by decide,by decide,by decide⟩
  ·exact⟨2,rfl,by decide,by decide,by decide⟩
  ·exact⟨4,rfl,by decide,by decide,by decide⟩
 ·have:x=1\/x=2\/x=3\/x=4\/x=5\/x=6:=by omega
  rcases this with rfl | rfl | rfl | rfl | rfl | rfl
  ·exact⟨1,rfl,by decide,by decide,by decide⟩
  ·exact⟨4,rfl,by decide,by decide,by decide⟩
  ·exact⟨5,rfl,by decide,by decide,by decide⟩
  ·exact⟨2,rfl,by decide,by decide,by decide⟩
  ·exact⟨3,rfl,by decide,by decide,by decide⟩
  ·exact⟨6,rfl,by decide,by decide,by decide⟩
theorem ZI(O:Pr p)(H:n<=lim)(I:t<n)(w P:Nat->Int)(C : ∀i,i<n->0<=w i/\w i<p) :
 qZ [.int p,.tup<|zA n w,.tup<|zA n P,.int t]=bQ (.val<|.tup<|zA n λi=>(w i - w t*P i)%p):=by
 have d:=C t I;have e:=O.le;have b : ∀x,JY (w t) x=dt:=λx=>vc _ _ ⋯ ⋯;by_cases U:w t=0
 ·simp[qZ,jn,z7,jE,I,U]
  apply kR;intro i a;rw[LX (C i a).1 (C i a).2]
 ·simp[qZ,jn,z7,jE,I,U,vY,H,z6,kg,La]
  rw[zx (r:=λi=>D.int<|w i - w t*P i)]
  ·rw[<- zV]
   simp[wY _ O.pos H]
  ·intro i a
   refine zy rfl rfl ?_;simp[b]
theorem Vt{l:RZ}{r t:Nat}(C : ∀k m,k<m->m<r->l k<l m)(I : ∀k,k<r->l k<t):r<=t:=by
 have a : ∀k,k<r->k<=l k:=by
  intro k
  induction k with
  | zero=>intro _;exact Ms _
  | succ k O=>
   intro U;have b:=O ⋯;have d:=C k (k+1) ⋯ U;omega
 cases r with
 | zero=>exact Ms _
 | succ r=>
  have b:=a r ⋯;have d:=I r ⋯;omega
noncomputable def Je:=(zN (jo 6<|jA<|zP (zF<|ze 3) (.nm 0) 1 [5] (sB<|zH h9 (dy (ze 0)<|zc 1)<|zv<|.int 0) (zc 0))<|zN (h7 (j8<|rz<|ze 6) rG jZ)<|zN (jo 7<|zC wZ<|za (zc 0)<|za (dy (zw<|dy (ze 6)<|zv<|.int 0)<|zc 5) zD)<|zN (jo 8<|zC xO<|za (zc 0)<|za (jA<|zP (zF<|zw<|dy (ze 6)<|zv<|.int 0) (.nm 0) 1 [7] jj (zH kG (zc 1)<|zc 0)) zD)<|zN (jo 3<|jA<|zP (zF<|ze 3) (.nm 0) 1 [0,5,8] jj (zC qZ<|za (zc 1)<|za (zc 0)<|za (zc 3)<|za (zc 2) zD))<|xf 4<|K9 (jL<|zP (zF<|ze 4) (.nm 0) 1 [0,5,8] jj (zC qZ<|za (zc 1)<|za (zc 0)<|za (zc 3)<|za (zc 2) zD))<|jL<|qm<|za (zc 8) zD)
noncomputable def Un(r:Nat)(B:Nat->Vc)(m:Nat)(W:Nat->Vc):Vc->Prop:=λv=>el r B v\/el m W v
structure B0(p:Int)(n m:Nat)(W:Nat->Vc)(t r:Nat)(B:Nat->Vc)(l:RZ)(Wt:Nat->Vc):Prop where
 ji : ∀j i,j<m->i<n->0<=Wt j i/\Wt j i<p
 Ds : ∀j i,j<m->i<t->Wt j i=0
 C3:g5 p n r B l
 lt : ∀k,k<r->l k<t
 span : ∀v,Span p n (Un r B m Wt) v↔Span p n (el m W) v
section
variable{p:Int}{n m:Nat}{W:Nat->Vc}{t r:Nat}{B:Nat->Vc}{l:RZ}{Wt:Nat->Vc}
theorem B0.skip(h:B0 p n m W t r B l Wt)(hz : ∀j,j<m->Wt j t=0):B0 p n m W (t+1) r B l Wt:=
 ⟨h.ji,λj i I a=>by
  rcases Lu i t with q | q
  ·exact h.Ds j i I q
  ·have:i=t:=by omega
   subst this;exact hz j I,h.C3,λk O=>Mk<|h.lt k O,h.span⟩
def iW(p:Int)(P:Vc)(t:Nat)(w:Vc):Vc:=λi=>(w i - w t*P i)%p
noncomputable def bq(p:Int)(P:Vc)(t r:Nat)(B:Nat->Vc):Nat->Vc:=λk=>if k<r then iW p P t (B k)else P
def ot(t r:Nat)(l:RZ):Nat->Nat:=λk=>if k<r then l k else t
theorem Jd(I:Span p n G P)(C:Span p n G w):Span p n G (iW p P t w):=
 (I.add C (-(w t))).congr λi _=>by unfold iW;rw[LF];congr 1;rw[Int.neg_mul];omega
theorem V6(I:Span p n G P)(C:Span p n G (iW p P t w)):Span p n G w:=
 (I.add C<|w t).congr λi _=>by unfold iW;rw[LZ,LF,<- LZ];congr 1;omega
theorem B0.next(H:Pr p)(h:B0 p n m W t r B l Wt)(L:t<n)(J:j0<m)(Y:Wt j0 t*y%p=1)(C : ∀i,i<n->P i=y*Wt j0 i%p) :
 B0 p n m W (t+1) (r+1) (bq p P t r B) (ot t r l) (λj=>iW p P t<|Wt j):=by
 have M:=H.pos;have one:=H.one;have A:P t=1:=by rw[C t L,Ml];exact Y
 have f : ∀i,i<t->P i=0:=λi a=>by rw[C i ⋯,h.Ds j0 i J a];simp
 have N : ∀i,i<n->0<=P i/\P i<p:=λi a=>by rw[C i a];exact⟨LQ _ ⋯,LB _ M⟩
 have F : ∀(w:Vc) i,0<=iW p P t w i/\iW p P t w i<p:=λw i=>⟨LQ _ ⋯,LB _ M⟩;have b : ∀(w:Vc) i,i<t->0<=w i->w i<p->iW p P t w i=w i:=λw i a S T=>by unfold iW;rw[f i a,MS,Int.sub_zero];exact LX S T
 have K : ∀w:Vc,iW p P t w t=0:=λw=>by unfold iW;rw[A,NF,Int.sub_self];simp
 refine⟨λj i O a=>F _ _,λj i O a=>?_,⟨λk I=>?_,λk q Q X=>?_,λk I=>?_,λk j I O=>?_,λk q I X R=>?_,λk i I a=>?_⟩,λk I=>?_,λv=>?_⟩
 ·rcases Lu i t with q | q
  ·have e:=h.Ds j i O q
   rw[b _ i q ⋯ ⋯];exact e
  ·have:i=t:=by omega
   subst this;exact K _
 ·unfold ot;split
  ·rename_i q;exact h.C3.lt k q
  ·exact L
 ·unfold ot
  have I:k<r:=by omega
  rw[RY I];split
  ·rename_i z;exact h.C3.mono k q Q z
  ·exact h.lt k I
 ·unfold ot bq;split
  ·rename_i q
   have e:=h.C3.one k q;have d:=h.lt k q;rw[b _ _ d ⋯ (by have:=H.two;omega)];exact e
  ·exact A
 ·unfold bq;unfold ot at O;split at O
  ·rename_i q
   have e:=h.C3.i9 k j q O;have d:=h.lt k q;rw[RY q,b _ _ ⋯ ⋯ ⋯];exact e
  ·rename_i q
   rw[EQ q];exact f j O
 ·unfold bq ot
  by_cases x:k<r
  ·rw[RY x]
   by_cases U:q<r
   ·rw[RY U]
    have e:=h.C3.oe k q x U R;have d:=h.lt q U;rw[b _ _ d ⋯ ⋯];exact e
   ·rw[EQ U];exact K _
  ·rw[EQ x]
   have U:q<r:=by omega
   rw[RY U];exact f _<|h.lt q U
 ·unfold bq;split
  ·exact F _ _
  ·exact N i a
 ·unfold ot;split
  ·rename_i q;exact Mk<|h.lt k q
  ·exact Nl _
 ·rw[<- h.span v]
  have o:Span p n (Un r B m Wt) P:=((Span.gen (p:=p) (n:=n) (G:=Un r B m Wt) (g:=Wt j0)<|.inr ⟨j0,J,rfl⟩).smul y).congr λi a=>by rw[C i a,LF]
  have E:Span p n (Un (r+1) (bq p P t r B) m λj=>iW p P t<|Wt j) P:= .gen (.inl ⟨r,Nl r,by unfold bq;rw[EQ (Mi r)]⟩);constructor
  ·refine λu=>u.le λg s=>?_
   rcases s with⟨k,I,rfl⟩ | ⟨j,O,rfl⟩
   ·unfold bq;split
    ·rename_i q;exact Jd o<|.gen<|.inl ⟨k,q,rfl⟩
    ·exact o
   ·exact Jd o<|.gen<|.inr ⟨j,O,rfl⟩
  ·refine λu=>u.le λg s=>?_
   rcases s with⟨k,I,rfl⟩ | ⟨j,O,rfl⟩
   ·refine V6 (t:=t) E (.gen<|.inl ⟨k,Mk I,?_⟩)
    unfold bq;rw[RY I]
   ·exact V6 (t:=t) E<|.gen<|.inr ⟨j,O,rfl⟩
theorem B0.done(h:B0 p n m W n r B l Wt)(v:Vc):Span p n (el r B) v↔Span p n (el m W) v:=by
 rw[<- h.span v];constructor
 ·exact λO=>O.le λg I=> .gen (.inl I)
 ·refine λO=>O.le λg I=>?_
  rcases I with I | ⟨j,U,rfl⟩
  ·exact .gen I
  ·exact .zero λi a=>by rw[h.Ds j i U a];simp
theorem fU(O:True)(P:Vc):zX (r+1) n (bq p P t r B)=zX r n (λk=>iW p P t<|B k)++[.tup (zA n P)]:=by
 unfold zX;rw[MM,Mr];congr 1
 ·apply Ll
  intro k I;have:=IV.mp I;simp[bq,this]
 ·simp[bq]
end
theorem xq{p:Int}(C:Pr p){n m:Nat}(hn:n<=100)(J:m<=lim)(H:Sk)(W:Nat->Vc) :
 ∃r B l,q8 [.int p,.int n,p9 H (zX m n W)]=bQ (.own<|zX r n B)/\g5 p n r B l/\∀v,Span p n (el r B) v↔Span p n (el m W) v:=by
 have hl:=jm;have e:n<=lim:=by omega
 have L:=C.pos;have K:=xW (T:= .nm 5) (F:=Je)
  (λt R=>∃r B l Wt u w o s,R=[.val (.int p),.val<|.int n,.val<|p9 H<|zX m n W,.val<|.lst<|zX m n Wt,.own<|zX r n B,u,w,o,s]/\B0 p n m W t r B l Wt)
  ((IS n).map λ(i:Nat)=>D.int i) 0 [.val (.int p),.val<|.int n,.val<|p9 H<|zX m n W,.val<|.lst<|zX m n λj i=>W j i%p,.own [],.no,.no,.no,.no]
  ⟨0,λ_ _=>0,λ_=>0,λj i=>W j i%p,.no,.no,.no,.no,rfl,λj i _ _=>⟨LQ _ ⋯,LB _ L⟩,λj i _ f=>absurd f<|LH _,
   ⟨λk O=>absurd O<|LH _,λk q _ O=>absurd O<|LH _,λk O=>absurd O<|LH _,λk j O=>absurd O<|LH _,λk q O=>absurd O<|LH _,λk i O=>absurd O<|LH _⟩,
   λk O=>absurd O<|LH _,λv=>⟨λE=>E.le λg A=>by
    rcases A with⟨k,O,_⟩ | ⟨j,a,rfl⟩
    ·exact absurd O<|LH _
    ·exact(Span.gen (p:=p) (n:=n) (G:=el m W) (g:=W j) ⟨j,a,rfl⟩).congr λi _=>LF _ _,λE=>E.le λg A=>by
    obtain⟨j,a,rfl⟩:=A;exact(Span.gen (p:=p) (n:=n) (G:=Un 0 (λ_ _=>0) m λj i=>W j i%p) (g:=λi=>W j i%p)<|.inr ⟨j,a,rfl⟩).congr λi _=>(LF _ _).symm⟩⟩ (by
   rintro t d R z ⟨r,B,l,Wt,u,w,o,s,rfl,U⟩;rw[LV]at U ⊢;have b:t<n:=by have:=(Lh.mp z).1;simpa using this
   have S:d = .int t:=by simp[b]at z;exact z.symm
   subst S;have h:zQ (.nm 0) (sB<|zH h9 (dy (ze 0)<|zc 1)<|zv<|.int 0) (zc 0) [Cell.no,Cell.val (.int t)] (zX m n Wt)=bQ (((IS m).filter λj=> !decide (Wt j t=0)).map λj=>D.tup<|zA n<|Wt j):=by unfold zX;refine jy _ _ _ λj a=>⟨_,rfl,?_,λ_=>rfl⟩;simp[b]
   have hr:r<=t:=Vt U.C3.mono U.lt;have X:r<=lim:=by omega
   cases hf:(IS m).filter λj=> !decide (Wt j t=0)with
   | nil=>
    have hz : ∀j,j<m->Wt j t=0:=λj a=>by apply Mx;intro M;have:j∈(IS m).filter λj=> !decide (Wt j t=0):=Lx.mpr ⟨IV.mpr a,by simp[M]⟩;rw[hf]at this;simp at this
    rw[hf]at h;refine⟨_,.inr ?_,r,B,l,Wt,.val<|.int t,.val<|.lst [],o,s,rfl,U.skip hz⟩;simp only[wR,IY,Mb,Ma,Je];rw[jE];simp[jE,z6,kg,La,h,J]
   | cons I kn=>
    have N:I∈(IS m).filter λj=> !decide (Wt j t=0):=by rw[hf];exact Lp
    have Q:I<m:=IV.mp (Lx.mp N).1;have M:Wt I t≠0:=by simpa using (Lx.mp N).2
    have Y:=U.ji I t Q b;obtain⟨y,ey,y1,y2,yy⟩:=Y7 C (x:=Wt I t) ⋯ Y.2;rw[hf]at h;have nx:=U.next C b Q yy (P:=λi=>y*Wt I i%p) λi _=>rfl;refine⟨_,.inl ?_,r+1,bq p (λi=>y*Wt I i%p) t r B,ot t r l,λj=>iW p (λi=>y*Wt I i%p) t<|Wt j,.val<|.int t,.val<|.lst<|(I::kn).map λj=>D.tup<|zA n<|Wt j,.val<|.int y,.val<|.tup<|zA n λi=>y*Wt I i%p,rfl,nx⟩;have bd:=C.le;have cy : ∀x,JY y x=dt:=λx=>vc _ _ ⋯ ⋯;have Z:zQ (.nm 0) jj (zH kG (zc 1)<|zc 0) [Cell.no,Cell.val (.int y)] (zA n<|Wt I)=bQ (zA n λi=>y*Wt I i):=by rw[zV,zV];refine zx _ _ λi f=>zy rfl rfl ?_;simp[cy]
    have as:zQ (.nm 0) jj (zC qZ<|za (zc 1)<|za (zc 0)<|za (zc 3)<|za (zc 2) zD) [Cell.no,Cell.val<|.int p,Cell.val<|.int t,Cell.val (.tup<|zA n λi=>y*Wt I i%p)] (zX m n Wt)=bQ (zX m n λj=>iW p (λi=>y*Wt I i%p) t<|Wt j):=by unfold zX;refine zx _ _ λj a=>zy rfl rfl ?_;simp[ZI C e b (Wt j) (λi=>y*Wt I i%p) λi f=>U.ji j i (IV.mp a) f];rfl
    have ax:zQ (.nm 0) jj (zC qZ<|za (zc 1)<|za (zc 0)<|za (zc 3)<|za (zc 2) zD) [Cell.no,Cell.val<|.int p,Cell.val<|.int t,Cell.val (.tup<|zA n λi=>y*Wt I i%p)] (zX r n B)=bQ (zX r n λj=>iW p (λi=>y*Wt I i%p) t<|B j):=by unfold zX;refine zx _ _ λj a=>zy rfl rfl ?_;simp[ZI C e b (B j) (λi=>y*Wt I i%p) λi f=>U.C3.ji j i (IV.mp a) f];rfl
    have b0:r+1<=lim:=by omega
    rw[fU trivial];simp only[wR,IY,Mb,Ma,Je];rw[jE];simp[jE,z6,kg,La,h,J,e,b,ey,Z,wY _ L e,as,ax,X,b0])
 obtain⟨γ',e1,r,B,l,Wt,u,w,o,s,rfl,U⟩:=K;simp only[Ly,LP,LV]at U;refine⟨r,B,l,?_,U.C3,U.done⟩;have b5:zQ (.nm 0) jj (zC xO<|za (zc 1)<|za (zc 0) zD) [Cell.no,Cell.val (.int p)] (zX m n W)=bQ (zX m n λj i=>W j i%p):=by unfold zX;refine zx _ _ λj a=>zy rfl rfl ?_;simp[gT _ L e]
 have e0:q8 [.int p,.int n,p9 H (zX m n W)]=jn 9 (zN (jo 3<|jA<|zP (zF<|ze 2) (.nm 0) 1 [0] jj (zC xO<|za (zc 1)<|za (zc 0) zD))<|zN (xf 4<|qm zD)<|zN (xU (zR<|zc 1) (.nm 5) Je)<|JA 4) [.int p,.int n,p9 H (zX m n W)]:=rfl;rw[e0];simp[jn,z7,jE,J,z6,kg,La,b5,e,jv];rw[zV n λi=>(i:Int),e1];simp
@[simp] def Cm:=@EV.eq_1
noncomputable def JS{C:Type}(q:Nat)(x:C)(f:Nat->C):Nat->C:=λk=>if k<q then f k else if k=q then x else f (k - 1)
noncomputable def ZQ(l:RZ)(r x:Nat):Nat:=((IS r).filter λk=>decide<|l k<x).length
theorem Km : ∀{r:Nat},(∀k m,k<m->m<r->l k<l m)->(∀k,k<r->l k≠x)->ZQ l r x<=r/\(∀k,k<ZQ l r x->l k<x)/\∀k,ZQ l r x<=k->k<r->x<l k
 | 0,_,_=>⟨Le _,λk I=>absurd I (by simp[ZQ]),λk _ I=>absurd I<|LH _⟩
 | r+1,hm,S0=>by
  obtain⟨h,d,O⟩:=Km (r:=r) (x:=x) (λk m a b=>hm k m a ⋯) λk I=>S0 k ⋯;have e:ZQ l (r+1) x=ZQ l r x+if l r<x then 1 else 0:=by unfold ZQ;rw[MM,Od,Md];by_cases q:l r<x<;>simp[q]
  by_cases q:l r<x
  ·rw[e,RY q]
   have U:ZQ l r x=r:=by
    rcases Lu (ZQ l r x) r with z | z
    ·have f:=O (ZQ l r x) (Le _) z
     have g:=hm (ZQ l r x) r z<|Nl r;omega
    ·omega
   rw[U];refine⟨Le _,λk I=>?_,λk a b=>absurd b ⋯⟩;rcases Lu k r with z | z
   ·exact d k ⋯
   ·have:k=r:=by omega
    subst this;exact q
  ·rw[e,EQ q,Oy]
   refine⟨by omega,d,λk a b=>?_⟩;rcases Lu k r with z | z
   ·exact O k a z
   ·have:k=r:=by omega
    subst this;have:=S0 k b;omega
section
variable{p:Int}{n r:Nat}{B:Nat->Vc}{l:RZ}{w:Vc}
structure DO(p:Int)(n r:Nat)(B:Nat->Vc)(l:RZ)(w:Vc)(k:Nat)(R:Vc):Prop where
 ji : ∀i,i<n->0<=R i/\R i<p
 Ds : ∀q,q<k->R (l q)=0
 eqv : ∀G,(∀k,k<r->Span p n G (B k))->(Span p n G w↔Span p n G R)
theorem DO.next(H:Pr p)(C:g5 p n r B l)(h:DO p n r B l w k R)(I:k<r):DO p n r B l w (k+1) (iW p (B k) (l k) R):=by
 have a:=H.pos;refine⟨λi _=>⟨LQ _ ⋯,LB _ a⟩,λq b=>?_,λG O=>?_⟩
 ·unfold iW
  rcases Lu q k with z | z
  ·rw[h.Ds q z,C.oe k q I ⋯ ⋯];simp
  ·have:q=k:=by omega
   subst this;rw[C.one q I];simp
 ·rw[h.eqv G O]
  exact⟨λU=>Jd (O k I) U,λU=>V6 (O k I) U⟩
theorem YC(O:q<=r)(U:k<r+1):(k=q/\JS q x f k=x)\/∃I,I<r/\JS q x f k=f I/\((k<q/\I=k)\/(q<k/\I+1=k)):=by
 unfold JS;rcases L1 k q with z | z | z
 ·right;exact⟨k,by omega,by rw[RY z],.inl ⟨z,rfl⟩⟩
 ·left;subst z;exact⟨rfl,by rw[EQ (Mi _),RY rfl]⟩
 ·right;exact⟨k - 1,by omega,by rw[EQ ⋯,EQ ⋯],.inr ⟨z,by omega⟩⟩
theorem S3:JS q x f q=x:=by unfold JS;rw[EQ (Mi _),RY rfl]
theorem sR : ∃I,(I<q/\I=k\/q<I/\I=k+1)/\JS q x f I=f k:=by
 rcases Lu k q with z | z
 ·exact⟨k,.inl ⟨z,rfl⟩,by unfold JS;rw[RY z]⟩
 ·exact⟨k+1,.inr ⟨by omega,rfl⟩,by unfold JS;rw[EQ ⋯,EQ ⋯];rfl⟩
theorem sS(L:Pr p)(C:g5 p n r B l)(Y:a<n)(H:R a=1)(hz : ∀i,i<a->R i=0)(J : ∀k,k<r->R (l k)=0)(hR : ∀i,i<n->0<=R i/\R i<p) :
 g5 p n (r+1) (JS (ZQ l r a) R λk=>iW p R a<|B k) (JS (ZQ l r a) a l):=by
 have W:=L.pos;have K : ∀k,k<r->l k≠a:=λk O e=>by have:=J k O;rw[e,H]at this;omega
 obtain⟨T,X,Z⟩:=Km C.mono K;have P : ∀(w:Vc) i,0<=iW p R a w i/\iW p R a w i<p:=λw i=>⟨LQ _ ⋯,LB _ W⟩;have M : ∀w:Vc,iW p R a w a=0:=λw=>by unfold iW;rw[H,NF,Int.sub_self];simp
 have E : ∀(w:Vc) k,k<r->0<=w (l k)->w (l k)<p->iW p R a w (l k)=w (l k):=λw k O H Q=>by unfold iW;rw[J k O,MS,Int.sub_zero];exact LX H Q
 have N : ∀k j,k<r->j<l k->iW p R a (B k) j=0:=λk j O t=>by
  unfold iW;rw[C.i9 k j O t];rcases Lu a (l k)with z | z
  ·rw[C.i9 k a O z];simp
  ·rw[hz j ⋯];simp
 have two:=L.two;have d : ∀k,k<r+1->(k=ZQ l r a/\JS (ZQ l r a) R (λk=>iW p R a<|B k) k=R/\JS (ZQ l r a) a l k=a)\/
  ∃I,I<r/\JS (ZQ l r a) R (λk=>iW p R a<|B k) k=iW p R a (B I)/\JS (ZQ l r a) a l k=l I/\((k<ZQ l r a/\I=k)\/(ZQ l r a<k/\I+1=k)):=by
  intro k O;rcases YC (x:=R) (f:=λk=>iW p R a<|B k) T O with⟨b,u⟩ | ⟨I,U,b,u⟩
  ·left;refine⟨b,u,?_⟩;subst b;exact S3
  ·right
   refine⟨I,U,b,?_,u⟩;rcases u with⟨F,G⟩ | ⟨F,G⟩
   ·unfold JS;rw[RY F,G]
   ·unfold JS;rw[EQ ⋯,EQ ⋯];congr 1;omega
 refine⟨λk O=>?_,λk m as y=>?_,λk O=>?_,λk j O t=>?_,λk m O y ax=>?_,λk i O S=>?_⟩
 ·rcases d k O with⟨_,_,e⟩ | ⟨I,U,_,e,_⟩
  ·rw[e];exact Y
  ·rw[e];exact C.lt I U
 ·rcases d k ⋯with⟨z,_,e⟩ | ⟨I,U,_,e,z⟩<;>rcases d m y with⟨A,_,s⟩ | ⟨h,g,_,s,A⟩<;>rw[e,s]
  ·omega
  ·exact Z h ⋯ g
  ·exact X I ⋯
  ·exact C.mono I h ⋯ g
 ·rcases d k O with⟨_,b,e⟩ | ⟨I,U,b,e,_⟩<;>rw[b,e]
  ·exact H
  ·have o:=C.one I U
   rw[E _ I U ⋯ ⋯];exact o
 ·rcases d k O with⟨_,b,e⟩ | ⟨I,U,b,e,_⟩<;>rw[b]<;>rw[e]at t
  ·exact hz j t
  ·exact N I j U t
 ·rcases d k O with⟨z,b,_⟩ | ⟨I,U,b,_,z⟩<;>rcases d m y with⟨A,_,s⟩ | ⟨h,g,_,s,A⟩<;>rw[b,s]
  ·omega
  ·exact J h g
  ·exact M _
  ·have o:=C.oe I h U g ⋯
   rw[E _ h g ⋯ ⋯];exact o
 ·rcases d k O with⟨_,b,_⟩ | ⟨I,U,b,_,_⟩<;>rw[b]
  ·exact hR i S
  ·exact P _ _
theorem sU(I:q<=r)(hR:Span p n G R)(O : ∀k,k<r->Span p n G (F k)) : ∀g,el (r+1) (JS q R F) g->Span p n G g:=by
 rintro g ⟨k,U,rfl⟩;rcases YC (x:=R) (f:=F) I U with⟨_,e⟩ | ⟨b,a,e,_⟩<;>rw[e]
 ·exact hR
 ·exact O b a
theorem sJ(O:q<=r):el (r+1) (JS q R F) R/\∀k,k<r->el (r+1) (JS q R F) (F k):=by refine⟨⟨q,by omega,S3.symm⟩,λk U=>?_⟩;obtain⟨I,h,e⟩:=sR (q:=q) (x:=R) (f:=F) (k:=k);exact⟨I,by omega,e.symm⟩
theorem mK(Z:Pr p)(Y:g5 p n r B l)(L:a<n)(hs : ∀v,Span p n (el r B) v↔Span p n (el j W) v)(U:DO p n r B l (W j) r R)(J:y*R a%p=1)(C : ∀i,i<n->R' i=y*R i%p)(H:ZQ l r a<=r)(v:Vc) :
 Span p n (el (r+1)<|JS (ZQ l r a) R' λk=>iW p R' a<|B k) v↔Span p n (el (j+1) W) v:=by
 have u : ∀v,Span p n (el j W) v->Span p n (el (j+1) W) v:=λv O=>O.le λg ⟨i,b,e⟩=> .gen ⟨i,by omega,e⟩;have a2 : ∀k,k<r->Span p n (el (j+1) W) (B k):=λk I=>u _<|(hs _).mp (.gen ⟨k,I,rfl⟩);have m:Span p n (el (j+1) W) R:=(U.eqv _ a2).mp (.gen ⟨j,by omega,rfl⟩);have d:Span p n (el (j+1) W) R':=(m.smul y).congr λi b=>by rw[C i b,LF]
 obtain⟨s,m2⟩:=sJ (R:=R') (F:=λk=>iW p R' a<|B k) H;have f:Span p n (el (r+1)<|JS (ZQ l r a) R' λk=>iW p R' a<|B k) R':= .gen s;have h : ∀k,k<r->Span p n (el (r+1)<|JS (ZQ l r a) R' λk=>iW p R' a<|B k) (B k):=λk I=>V6 (t:=a) f<|.gen<|m2 k I;have gR:Span p n (el (r+1)<|JS (ZQ l r a) R' λk=>iW p R' a<|B k) R:=(f.smul<|R a).congr λi b=>by rw[C i b,wA,<- ME,Ml (R a) y,Lc,J,L3,LF]
 constructor
 ·exact λO=>O.le<|sU H d λk I=>Jd d<|a2 k I
 ·refine λO=>O.le ?_
  rintro g ⟨i,b,rfl⟩;rcases Lu i j with z | z
  ·exact((hs _).mpr (.gen ⟨i,z,rfl⟩)).le λg o=>by obtain⟨k,I,e⟩:=o;rw[e];exact h k I
  ·have:i=j:=by omega
   subst this;exact(U.eqv _ h).mpr gR
theorem cS(hs : ∀v,Span p n (el r B) v↔Span p n (el j W) v)(O:DO p n r B l (W j) r R)(U : ∀i,i<n->R i=0)(v:Vc):Span p n (el r B) v↔Span p n (el (j+1) W) v:=by
 constructor
 ·exact λI=>((hs v).mp I).le λg ⟨i,a,e⟩=> .gen ⟨i,by omega,e⟩
 ·refine λI=>I.le ?_
  rintro g ⟨i,a,rfl⟩;rcases Lu i j with z | z
  ·exact(hs _).mpr (.gen ⟨i,z,rfl⟩)
  ·have:i=j:=by omega
   subst this;exact(O.eqv _ λk b=> .gen ⟨k,b,rfl⟩).mpr (.zero λi a=>by rw[U i a];simp)
end
section
variable{p:Int}{n m r:Nat}{G:Vc->Prop}
theorem Span.sum{u:Nat->Vc}(c:Nat->Int) : ∀{m:Nat},(∀k,k<m->Span p n G (u k))->Span p n G λi=>zf (λk=>c k*u k i) m
 | 0,_=> .zero λi _=>by simp[zf]
 | m+1,h=>(((h m ⋯).add (Span.sum c (m:=m) λk I=>h k ⋯) (c m))).congr λi _=>by simp[zf]
noncomputable def Rk(p:Int)(n m:Nat)(W:Nat->Vc)(r:Nat):Prop:=∃B l,g5 p n r B l/\∀v,Span p n (el r B) v↔Span p n (el m W) v
theorem yW(U:Pr p)(h:Rk p n m W r)(h':Rk p n m W r'):r=r':=by obtain⟨B,l,d,a⟩:=h;obtain⟨e,f,b,O⟩:=h';exact(JZ U d b (λv I=>(O v).mpr ((a v).mp I))<|λv I=>(a v).mpr ((O v).mp I)).1
theorem Wo(I:Pr p)(O:g5 p n r B l)(C : ∀i,i<n->0<=w i/\w i<p) : ∀k,k<=r->∃R,DO p n r B l w k R
 | 0,_=>⟨w,C,λq U=>absurd U<|LH _,λG _=>Iff.rfl⟩
 | k+1,h=>by obtain⟨R,hR⟩:=Wo I O C k ⋯;exact⟨_,hR.next I O ⋯⟩
theorem W0 : ∀(n:Nat) (R:Vc),(∀i,i<n->R i=0)\/∃a,a<n/\R a≠0/\∀i,i<a->R i=0
 | 0,R=> .inl λi b=>absurd b<|LH _
 | n+1,R=>by
  rcases W0 n R with h | ⟨a,h1,h2,I⟩
  ·by_cases e:R n=0
   ·exact .inl λi b=>by rcases Lu i n with z | z;exact h i z;rw[show i=n by omega];exact e
   ·exact .inr ⟨n,by omega,e,h⟩
  ·exact .inr ⟨a,by omega,h2,I⟩
theorem nX(O:Pr p)(W:Nat->Vc)(C : ∀j i,0<=W j i/\W j i<p) : ∀m,∃r,r<=m/\Rk p n m W r
 | 0=>⟨0,Le _,λ_ _=>0,λ_=>0,⟨λk I=>absurd I<|LH _,λk q _ I=>absurd I<|LH _,λk I=>absurd I<|LH _,λk j I=>absurd I<|LH _,λk q I=>absurd I<|LH _,λk i I=>absurd I<|LH _⟩,
  λv=>⟨λd=>d.le λg ⟨k,I,_⟩=>absurd I<|LH _,λd=>d.le λg ⟨k,I,_⟩=>absurd I<|LH _⟩⟩
 | m+1=>by
  obtain⟨r,z,B,l,U,f⟩:=nX O W C m;have u:=O.pos;obtain⟨R,b⟩:=Wo O U (w:=W m) (λi _=>C m i) r<|Le _;rcases W0 n R with h0 | ⟨a,ha,a6,a7⟩
  ·exact⟨r,by omega,B,l,U,cS f b h0⟩
  ·have o:=b.ji a ha
   obtain⟨y,_,_,h⟩:=BS O (x:=R a) ⋯ o.2;have s : ∀k,k<r->l k≠a:=λk I e=>by have:=b.Ds k I;rw[e]at this;exact a6 this
   exact⟨r+1,by omega,_,_,sS O U (R:=λi=>(y:Int)*R i%p) ha h (λi t=>by rw[a7 i t];simp) (λk I=>by rw[b.Ds k I];simp) λi _=>⟨LQ _ ⋯,LB _ u⟩,
    mK O (R':=λi=>(y:Int)*R i%p) U ha f b h (λi _=>rfl) (Km U.mono s).1⟩
theorem wg(I:Pr p)(m:Nat)(W:Nat->Vc) : ∃r,r<=m/\Rk p n m W r:=by
 obtain⟨r,U,B,l,a,b⟩:=nX (n:=n) I (λj i=>W j i%p) (λj i=>⟨LQ _ (by have:=I.pos;omega),LB _ I.pos⟩) m;refine⟨r,U,B,l,a,λv=>(b v).trans ⟨λh=>h.le λg ⟨k,O,e⟩=>?_,λh=>h.le λg ⟨k,O,e⟩=>?_⟩⟩
 ·subst e;exact(Span.gen (g:=W k) ⟨k,O,rfl⟩).congr λi _=>by rw[LF]
 ·subst e;exact(Span.gen (g:=λi=>W k i%p) ⟨k,O,rfl⟩).congr λi _=>by rw[LF]
theorem rJ(I:Pr p)(_:n<=100)(_:m<=8)(W:Nat->Vc) : ∃r,r<=m/\Rk p n m W r:=wg I m W
theorem nW(C:Pr p)(h:Rk p n m W r)(h':Rk p n m' W' r')(H : ∀j,j<m->Span p n (el m' W') (W j)):r<=r':=by
 obtain⟨B,l,U,A⟩:=h;obtain⟨F,o,b,t⟩:=h';have s : ∀k,k<r->∃q,q<r'/\o q=l k:=λk I=>Vy b ((t _).mpr (((A _).mp (.gen ⟨k,I,rfl⟩)).le λg ⟨j,x,e⟩=>e ▸ H j x)) (U.lt k I) (by rw[U.one k I,C.one];decide) λi w=>by rw[U.i9 k i I w];simp
 have a : ∀k,k<r->∀q,q<r'->o q=l k->k<=q:=by
  intro k
  induction k with
  | zero=>intro _ q _ _;exact Ms _
  | succ k E=>
   intro I q f e;obtain⟨O,d,u⟩:=s k ⋯;have G:=E ⋯ O d u;have J:=U.mono k (k+1) ⋯ I;rcases Lu O q with z | z
   ·omega
   ·rcases Lu q O with y | y
    ·have:=b.mono q O y d
     omega
    ·have:q=O:=by omega
     subst this;omega
 rcases Nat.eq_zero_or_pos r with z | z
 ·omega
 ·obtain⟨q,f,e⟩:=s (r - 1) ⋯
  have:=a (r - 1) ⋯ q f e;omega
end
theorem fY(h w f):deep (.lst<|zX h w f)<=2:=nc h w f
theorem lZ(h w f):i6 (.lst<|zX h w f)=dt:=sD h w f
theorem WG(h w f):m9 (.lst<|zX h w f)=dt:=WE (fY h w f) ⋯<|lZ h w f
section
variable{p:Int}{n m r h w:Nat}
theorem wa{l:RZ}(h:Nat) : ∀{r:Nat},(∀k m,k<m->m<r->l k<l m)->∃s,s<=r/\(∀k,k<s->l k<h)/\∀k,s<=k->k<r->h<=l k
 | 0,_=>⟨0,Le _,λk I=>absurd I<|LH _,λk _ I=>absurd I<|LH _⟩
 | r+1,hm=>by
  obtain⟨s,b,a,O⟩:=wa h (r:=r) λk m I U=>hm k m I ⋯;by_cases e:l r<h
  ·refine⟨r+1,Le _,λk I=>?_,λk b a=>by omega⟩
   rcases Lu k r with z | z
   ·have:=hm k r z ⋯;omega
   ·have:k=r:=by omega
    subst this;exact e
  ·refine⟨s,by omega,a,λk I d=>?_⟩
   rcases Lu k r with z | z
   ·exact O k I z
   ·have:k=r:=by omega
    subst this;omega
theorem VC(hs:s<=r)(C : ∀k,k<s->q k=ed)(H : ∀k,s<=k->k<r->q k=dt):(IS r).filter q=(IS<|r - s).map (s + ·):=by
 obtain⟨d,rfl⟩ : ∃d,r=s+d:=⟨r - s,by omega⟩;rw[Ot,Od];have a:(IS s).filter q=[]:=List.filter_eq_nil_iff.mpr λk I=>by rw[C k (IV.mp I)];decide
 have b:((IS d).map (s + ·)).filter q=(IS d).map (s + ·):=List.filter_eq_self.mpr λk I=>by obtain⟨i,e,rfl⟩:=LK.mp I;exact H _ ⋯ (by have:=IV.mp e;omega)
 rw[a,b,MK];rfl
noncomputable def kS(h:Nat)(u v:Vc):Vc:=λi=>if i<h then u i else v (i - h)
def jI(j:Nat):Vc:=λk=>if j=k then 1 else 0
theorem jU(hi:i<h):kS h u v i=u i:=RY hi
theorem qf(i:Nat):kS h u v (h+i)=v i:=by unfold kS;rw[EQ ⋯,MK]
theorem wI(h w:Nat)(u v:Vc):zA h u++zA w v=zA (h+w) (kS h u v):=by
 unfold zA;rw[Ot,Mr];congr 1
 ·exact Ll λi a=>by rw[jU (IV.mp a)]
 ·rw[LG]
  exact Ll λi _=>by simp only[PH];rw[qf]
theorem fQ(h w:Nat)(v:Vc):(zA (h+w) v).take h=zA h v:=by unfold zA;rw[<- List.map_take,List.take_range,Px (LY h w)]
theorem fR(h w:Nat)(v:Vc):(zA (h+w) v).drop h=zA w λj=>v (h+j):=by unfold zA;rw[Ot,Mr,List.drop_append_of_le_length ⋯,List.drop_eq_nil_of_le ⋯,LG];rfl
theorem W8(h w:Nat)(v:Vc):cg (zA (h+w) v) none (bQ (h:Int))=zA h v:=by
 have c : ¬((h:Int)<0):=by omega
 have e:min h (h+w)=h:=Px<|LY h w;simp[cg,VL,c,e,fQ]
theorem W7(h w:Nat)(v:Vc):cg (zA (h+w) v) (bQ (h:Int)) none=zA w λj=>v (h+j):=by
 have c : ¬((h:Int)<0):=by omega
 have e:min h (h+w)=h:=Px<|LY h w;have t : ∀g:Vc,(zA w g).take w=zA w g:=λg=>Oj ⋯;simp[cg,VL,c,e,fR,t]
theorem V9(v:Vc) : ∀n,Jn (zA n v)=bQ ((IS n).map λi=>v i != 0)
 | 0=>rfl
 | n+1=>by
  have b : ∀l:List Nat,Jn (l.map λi=>D.int<|v i)=bQ (l.map λi=>v i != 0):=by
   intro l
   induction l with
   | nil=>rfl
   | cons a l I=>simp[Jn,CD,I]
  exact b _
theorem vW(O:g5 p (h+w) r B l)(U:r<=lim)(hs:s<=r)(C : ∀k,k<s->l k<h)(h2 : ∀k,s<=k->k<r->h<=l k) :
 jY [.int h,.lst (zX r (h+w) B)]=bQ (.own<|zX (r - s) w λk j=>B (s+k)<|h+j):=by
 have d:zQ (.nm 0) (j8<|sB<|uu<|zw<|K7 (zc 0) bZ<|nf<|zc 1) (K7 (zc 0) (nf<|zc 1) bZ) [Cell.no,Cell.val (.int h)] (zX r (h+w) B)=bQ (((IS r).filter λk=>decide<|h<=l k).map λk=>D.tup<|zA w λj=>B k<|h+j):=by
  unfold zX;refine jy (λk=>decide<|h<=l k) _ _ λk I=>⟨_,rfl,?_,λg=>?_⟩
  ·have I:=IV.mp I
   simp[W8,V9];by_cases e:h<=l k
   ·simp[e]
    intro i f;have:=O.i9 k i I ⋯;simp[this]
   ·simp[e]
    exact⟨l k,by omega,by rw[O.one k I];decide⟩
  ·simp[W7]
 rw[VC hs (λk I=>decide_eq_false (by have:=C k I;omega)) (λk a b=>decide_eq_true<|h2 k a b)]at d;simp[jY,jn,z7,U,z6,kg,La,d];unfold zX;rfl
noncomputable def t5(p:Int)(h w:Nat)(f:RK)(v:Vc):Prop:=∀i,i<h->zf (λj=>f i j*v j) w%p=0
theorem WC{f:RK}{v:Vc}(O:Span p (h+w) (el w λj=>kS h (λi=>f i j)<|jI j) v) : ∀i,i<h->v i%p=zf (λj=>f i j*v (h+j)) w%p:=by
 induction O with
 | @zero v b=>
  intro i a;rw[b i ⋯];have:zf (λj=>f i j*v (h+j)) w%p=zf (λ_=>0) w%p:=zI λj U=>by rw[Lc,b (h+j) ⋯];simp
  rw[this,zO];rfl
 | @step v u g c k o I n=>
  intro i a;obtain⟨m,l,rfl⟩:=k;rw[I i ⋯,LZ,n i a,<- LZ];have e:zf (λj=>f i j*v (h+j)) w%p=zf (λj=>f i j*u (h+j)+c*(f i j*jI m j)) w%p:=zI λj U=>by rw[Lc,I (h+j) ⋯,<- Lc];simp only[qf];rw[NG,Ni]
  rw[e,jt,jd,zM (f:=λj=>f i j*jI m j) l λj _ d=>by simp[jI,LC d]];simp[jI,jU a]
theorem XA(O:Pr p)(w:Nat):g5 p w w jI id where
 lt:=λk I=>I
 mono:=λk m I _=>I
 one:=λk _=>RY rfl
 i9:=λk j _ U=>EQ (by simp only[id]at U;omega)
 oe:=λk m _ _ a0=>EQ (by simp only[id];omega)
 ji:=λk i _ _=>by have:=O.two;unfold jI;split<;>omega
theorem Span.map(t:RZ)(I : ∀i,i<n'->t i<n)(O : ∀g,G g->Span p n' G' λi=>g<|t i)(U:Span p n G v):Span p n' G' λi=>v (t i):=by
 induction U with
 | @zero v e=>exact .zero λi a=>e _<|I i a
 | @step v u g c d h b f=>exact((O _ d).add f c).congr λi a=>b _<|I i a
theorem yI(C:Pr p)(hh:h<=20)(hw:w<=20)(f:RK) :
 ∃q K l s,xS [.int p,jJ h w f]=bQ (.own<|zX q w K)/\g5 p w q K l/\(∀v,Span p w (el q K) v↔t5 p h w f v)/\Rk p h w (λj i=>f i j) s/\q+s=w:=by
 have hl:=jm;have X:h<=lim:=by omega
 have A:w<=lim:=by omega
 have Y:h+w<=lim:=by omega
 obtain⟨r,B,l,e,O,y⟩:=xq C (show h+w<=100 by omega) A .L λj=>kS h (λi=>f i j)<|jI j;have Z : ∀v,Span p (h+w) (el r B) v->∀i,i<h->v i%p=zf (λj=>f i j*v (h+j)) w%p:=λv o=>WC<|(y v).mp o;have ac:r<=w:=by obtain⟨r',G,H⟩:=wg C (n:=h+w) w λj=>kS h (λi=>f i j)<|jI j;rw[yW C ⟨B,l,O,y⟩ H];exact G
 have ae:w<=r:=by obtain⟨r',G,H⟩:=wg C (n:=w) r λk j=>B k<|h+j;refine Mj (nW C (m:=w) (W:=jI) ⟨jI,id,XA C w,λv=>Iff.rfl⟩ H λj U=>?_) G;have:=Span.map (n':=w) (G':=el r λk j=>B k<|h+j) (λi=>h+i) (λi a=>by omega) (λg ⟨k,I,b⟩=> .gen ⟨k,I,by rw[b]⟩)<|(y<|kS h (λi=>f i j)<|jI j).mpr (.gen ⟨j,U,rfl⟩);exact this.congr λi _=>by rw[qf]
 have er:r=w:=Nat.le_antisymm ac ae;subst er;obtain⟨s,hs,P,x⟩:=wa h O.mono;have eb:=vW O A hs P x;have am:g5 p r (r - s) (λk j=>B (s+k)<|h+j) (λk=>l (s+k) - h):={
  lt:=λk I=>by have:=O.lt (s+k) ⋯;have:=x (s+k) ⋯ ⋯;omega
  mono:=λk m I J=>by have:=O.mono (s+k) (s+m) ⋯ ⋯;have:=x (s+k) ⋯ ⋯;omega
  one:=λk I=>by have:=x (s+k) ⋯ ⋯;rw[show h+(l (s+k) - h)=l (s+k)by omega];exact O.one _ ⋯
  i9:=λk j I U=>O.i9 _ _ ⋯ ⋯
  oe:=λk m I J E=>by have:=x (s+m) ⋯ ⋯;rw[show h+(l (s+m) - h)=l (s+m)by omega];exact O.oe _ _ ⋯ ⋯ ⋯
  ji:=λk i I a=>O.ji _ _ ⋯ ⋯}
 refine⟨r - s,_,_,s,?_,am,λv=>⟨λo=>?_,λo=>?_⟩,?_,by omega⟩
 ·have R:=kD f X A
  have S:=kB (n:=r) A;have N:zQ (.tp [0,1]) jj (zH qa (zc 0)<|zc 1) [Cell.no,Cell.no] ((IS r).map λj=>D.tup [.tup (zA h λi=>f i j),.tup (zA r λk=>if j=k then 1 else 0)])=bQ (zX r (h+r) λj=>kS h (λi=>f i j)<|jI j):=by unfold zX;refine zx _ _ λj U=>zy rfl rfl ?_;simp[qa,Y,wI];rfl
  have zp:vZ (zX r h λi j=>f j i) (zX r r λi j=>if i=j then 1 else 0)=(IS r).map λj=>D.tup [.tup (zA h λi=>f i j),.tup (zA r λk=>if j=k then 1 else 0)]:=by unfold vZ zX;rw[OF];simp
  have c1:((h:Int)+(r:Int))=((h+r:Nat):Int):=by omega
  simp only[p9]at e;rw[<- c1]at e;unfold jJ at R S ⊢;have nl : ∀T t f γ,zQ T t f γ []=bQ []:=λ_ _ _ _=>rfl;simp[xS,xp,jn,z7,jE,R,S,zp,A,z6,La,N,nl,e,eb]
 ·intro i a
  induction o with
  | @zero v hz=>
   have:zf (λj=>f i j*v j) r%p=zf (λ_=>0) r%p:=zI λj U=>by rw[Lc,hz j U];simp
   rw[this,zO];rfl
  | @step v u g c hg hu he M=>
   obtain⟨k,I,rfl⟩:=hg;have e1:zf (λj=>f i j*v j) r%p=zf (λj=>f i j*u j+c*(f i j*B (s+k) (h+j))) r%p:=zI λj U=>by rw[Lc,he j U,<- Lc,NG,Ni]
   have Q:=Z (B<|s+k) (.gen ⟨s+k,by omega,rfl⟩) i a;have e3:B (s+k) i=0:=O.i9 _ _ ⋯ (by have:=x (s+k) ⋯ ⋯;omega);rw[e3]at Q;rw[e1,jt,jd,LZ,M,Lc,<- Q];simp
 ·
  have b6:Span p (h+r) (el r B) (kS h (λ_=>0) v):=by
   refine(y _).mpr ((Span.sum (u:=λj=>kS h (λi=>f i j)<|jI j) v (m:=r) λj U=> .gen ⟨j,U,rfl⟩).congr λi a=>?_);rcases Lu i h with z | z
   ·simp only[jU z]
    rw[zu (g:=λj=>f i j*v j) λj _=>Ml _ _,o i z];simp
   ·obtain⟨k,rfl⟩ : ∃k,i=h+k:=⟨i - h,by omega⟩
    simp only[qf];rw[zM (f:=λj=>v j*jI j k) (i:=k) ⋯ λj _ E=>by simp[jI,E]];simp[jI]
  have co:=Zv O b6;refine(Span.sum (u:=λk j=>B (s+k)<|h+j) (λk=>kS h (λ_=>0) v<|l<|s+k) (m:=r - s) λk I=> .gen ⟨k,I,rfl⟩).congr λj U=>?_;have:=co (h+j) ⋯;rw[qf]at this;rw[this];obtain⟨d,rfl⟩ : ∃d,r=s+d:=⟨r - s,by omega⟩;rw[MK];have sp : ∀(F:Nat->Int) (d:Nat),(∀k,k<s->F k=0)->zf F (s+d)=zf (λk=>F<|s+k) d:=by
   intro F d hF
   induction d with
   | zero=>
    show zf F s=0;rw[zu (g:=λ_=>0) hF,zO]
   | succ d M=>rw[<- OH];simp only[zf];rw[M]
  rw[sp _ d λk I=>by rw[jU (P k I)];simp]
 ·
  refine⟨λk i=>B k i,l,⟨λk I=>P k I,λk m I J=>O.mono k m I ⋯,λk I=>O.one k ⋯,λk j I U=>O.i9 k j ⋯ U,λk m I J E=>O.oe k m ⋯ ⋯ E,λk i I a=>O.ji k i ⋯ ⋯⟩,λv=>⟨λo=>o.le λg ⟨k,I,b⟩=>?_,λo=>o.le λg ⟨j,U,b⟩=>?_⟩⟩
  ·subst b
   exact Span.map (n':=h) (G':=el r λj i=>f i j) (λi=>i) (λi a=>by omega) (λg ⟨j,U,b⟩=>(Span.gen (g:=λi=>f i j) ⟨j,U,rfl⟩).congr λi a=>by rw[b];simp only[jU a])<|(y<|B k).mp (.gen ⟨k,by omega,rfl⟩)
  ·subst b
   have:=Span.map (n':=h) (G':=el s λk i=>B k i) (λi=>i) (λi a=>by omega) (λg hZ=>by
    obtain⟨k,I,b⟩:=hZ;subst b;rcases Lu k s with z | z
    ·exact .gen ⟨k,z,rfl⟩
    ·exact .zero λi a=>by rw[O.i9 k i I (by have:=x k z I;omega)];simp) ((y<|kS h (λi=>f i j)<|jI j).mpr (.gen ⟨j,U,rfl⟩))
   exact this.congr λi a=>by rw[jU a]
end
@[simp] def Gn:=@iK.eq_1
theorem pe{a b:Bool}(h:ix a=ix b):a=b:=by cases a<;>cases b<;>first | rfl | exact absurd h ⋯
def nH(m C:Nat)(w w':RX):Prop:=m=C/\∀k,k<m->w k=w' k
instance (m m':Nat) (w w':RX):Decidable (nH m m' w w'):=inferInstanceAs (Decidable (m=m'/\∀k,k<m->w k=w' k))
theorem ph{m C:Nat}{w w':RX}:qb m w=qb C w'↔nH m C w w':=by
 constructor
 ·intro h
  have a:=kl m w;rw[h,kl]at a;have O:m=C:=by have:=congrArg List.length a;simpa using this.symm
  subst O;refine⟨rfl,λk I=>?_⟩;have:=congrArg (λl=>l[k]?) a;simp[I]at this;exact(pe this).symm
 ·rintro⟨rfl,h⟩
  unfold qb;rw[Ll λk I=>by rw[h k (IV.mp I)]]
theorem eB(m w):m9 (.str<|qb m w)=dt:=by refine WE (n:=0) (by simp[deep]) ⋯ ?_;show(qb m w).cps.all (· < 0x110000)=dt;rw[<- Array.all_toList,kl];simp only[Mz];intro c I;obtain⟨k,_,rfl⟩:=LK.mp I;unfold ix;split<;>decide
section
variable{p p':Int}{m m':Nat}{w w':RX}{wd wd':RZ}{T T':RV}
theorem XN:je (jh p m w wd T)=bQ (.T,[.int p,.tup<|zA (m+1) λk=>(wd k:Int),.tup (xi m w wd T)]):=rfl
theorem ug(k):je (vF w wd T k)=bQ (.T,[.str (k6<|ix<|w k),jJ (eK w wd k) (eX w wd k) (T k)]):=rfl
theorem cp:zQ (.nm 0) jj (dy (ze 0)<|zv<|.int 0) [Cell.no] (xi m w wd T)=bQ ((IS m).map λk=>D.str<|k6<|ix<|w k):=by unfold xi;refine zx _ _ λk I=>zy rfl rfl ?_;simp[ug]
theorem ve(C:m<=900):kA [jh p m w wd T]=bQ (.val<|.str<|qb m w):=by
 have b:=jm;have I:m<=lim:=by omega
 have st:KS ((IS m).map λk=>D.str<|k6<|ix<|w k)=bQ ((IS m).map λk=>k6<|ix<|w k):=XG _ _;have O:((IS m).map λk=>k6<|ix<|w k).all jQ=dt:=by simp only[Mz];intro x U;obtain⟨k,_,rfl⟩:=LK.mp U;unfold ix;split<;>decide
 have a:jQ "" = dt:=by decide +kernel
 simp only[kA,jn,z7];simp only[wV,ui,yh,yF,jG,q9,qG,xN,j7,Mc,Rm,LM,Mh,La,Nu,Ld,zY,XN,IY,Lm,qg,Ub,Lg,Ck,Nat.sub_self,LV];rw[Y2,RY I,show z6 1 [] [Cell.val (jh p m w wd T)]=[Cell.no]from rfl,cp];simp only[Lm,IY,st];rw[RY ⟨by simpa using I,O,a⟩];rfl
theorem Kt(C:m<=900)(O:m'<=900):kr [jh p m w wd T,jh p' m' w' wd' T']=bQ (.val<|.bl<|decide<|p=p'/\nH m m' w w'):=by
 have I:=ve (p:=p) (wd:=wd) (T:=T) (w:=w) C;have U:=ve (p:=p') (wd:=wd') (T:=T') (w:=w') O;have d:iQ (.str<|qb m w) (.str<|qb m' w')=bQ (.bl<|decide<|nH m m' w w'):=by unfold iQ;rw[RY ⟨eB m w,eB m' w'⟩];congr 2;rw[MY];simp only[lL,SV,beq_iff_eq,decide_eq_true_eq];exact ph
 by_cases q:p=p'
 ·simp[kr,jn,z7,XN,q,I,U,d]
  subst q;simp[I,d]
 ·simp[kr,jn,z7,XN,q]
end
theorem gn(xs:List D)(n:Nat)(C:xs.length=n)(H : ∀i (h:i<n),∃z,xs[i]'(C ▸ h) = .int z)(bf:n<=63)(k:Int)(J:0<=k)(bg:k<100000) :
 ∃m,jB [.lst xs,.int k]=bQ (.val<|.int m)/\0<=m/\m<1000000007:=by
 have O : ∀x:Int,JY x 48271=dt:=λx=>Xq _ _ ⋯ ⋯;have U : ∀x:Int,JY 7 x=dt:=λx=>vc _ _ ⋯ ⋯;have e : ∀x:Int,JY 13 x=dt:=λx=>vc _ _ ⋯ ⋯;have f : ∀x:Int,JY x 69621=dt:=λx=>Xq _ _ ⋯ ⋯;have g:JY (7*k) k=dt:=Xq _ _ ⋯ ⋯;have I:Cf 10 9=dt:=by decide
 have b:Cf 10 30=dt:=by decide
 have hl:lim=2500:=rfl;by_cases K:n=0
 ·subst K
  have l:xs=[]:=LU C;subst l;simp[jB,jn,z7,jE,O,U,e,f,g,I,b];omega
 ·have o:0<n:=by omega
  obtain⟨i,R⟩:=Ny (LQ k<|show(n:Int)≠0 by omega);have u:i<n:=by have:=LB k (show(0:Int)<n by omega);omega
  obtain⟨zi,B⟩:=H i u;have X:f7 n (i:Int)=bQ i:=by rw[jl,RY u]
  by_cases P:n=1
  ·subst P
   have p:i=0:=by omega
   subst p;have k1:k%1=0:=by omega
   simp[jB,jn,z7,jE,O,U,e,f,g,I,b,C,B];omega
  ·obtain⟨z0,l⟩:=H 0 o
   have p:f7 n 0=bQ 0:=by have:=jl n 0;rw[RY o]at this;exact this
   have F:(0:Int)<(n:Int) - 1:=by omega
   have G:(1:Int)<(n:Int):=by omega
   have A:1<n:=by omega
   have Z:(n:Int) - 1<1073741824:=by omega
   have q4:(0:Int)<(n:Int):=by omega
   obtain⟨j,S⟩:=Ny (LQ k<|show(n:Int) - 1≠0 by omega);have w:1+j<n:=by have:=LB k F;omega
   obtain⟨zj,N⟩:=H (1+j) w;have Y:f7 n (1+(j:Int))=bQ (1+j):=by have:=jl n<|1+j;rw[RY w]at this;rw[<- this];congr 1
   have Q:0<=k/((n:Int) - 1)/\k/((n:Int) - 1)<=k:=⟨Int.ediv_nonneg J ⋯,Int.ediv_le_self _ J⟩;obtain⟨t,T⟩:=Ny Q.1;by_cases E:z0%2=1
   ·obtain⟨a,L,bm⟩ : ∃a:Nat,(if (t:Int)<60 then (t:Int)else 60)=a/\a<=60:=by
     split
     ·exact⟨t,rfl,by omega⟩
     ·exact⟨60,rfl,by omega⟩
    have M:inR (a:Int)=dt:=wG ⋯ ⋯;simp[jB,jn,z7,jE,O,U,e,f,g,C,o,w,G,A,l,p,F,Z,E,S,Y,N,T,I,b];rw[L,RY M];simp only[IY,jv,Mt];rw[zV a λi=>(i:Int)];have y : ∀(m s:Nat) (v:Int) (c:Cell),∃r d,xX (.nm 3) (jo 2<|zH Kl (zc 2)<|zH tG (zv<|D.int 10)<|zv<|D.int 9) ((Nx s m).map λ(i:Nat)=>D.int i) [.val (.lst xs),.val<|.int k,.val<|.int v,c,.no] =
     bQ (.next [.val (.lst xs),.val<|.int k,.val<|.int r,d,.no]):=by
     intro m
     induction m with
     | zero=>intro s v c;exact⟨v,c,rfl⟩
     | succ m W=>
      intro s v c;rw[Nz,Mc,jW];obtain⟨r,d,h⟩:=W (s+1) (v/10 ^ 9)<|.val<|.int s;refine⟨r,d,?_⟩;rw[<- h];simp[I]
    obtain⟨r,d,h⟩:=y a 0 zj .no;rw[<- Nd]at h;rw[h];simp[I];omega
   ·simp[jB,jn,z7,jE,O,U,e,f,g,C,G,A,q4,o,l,p,E,R,B,u,X,I,b]
    omega
theorem tR(C:List Int)(H:C.length<=63)(k:Int)(I:0<=k)(O:k<100000) : ∃m,jB [Kz C,.int k]=bQ (.val<|.int m)/\0<=m/\m<1000000007:=
 gn (C.map D.int) C.length ⋯ (λi a=>⟨C[i],by simp⟩) H k I O
noncomputable def yc(C:List Int)(k:Int):Int:=match jB [Kz C,.int k]with
 | some (.val<|.int m)=>m
 | _=>0
theorem VN(C:ns.length<=63)(I:0<=k)(O:k<100000):jB [Kz ns,.int k]=bQ (.val<|.int<|yc ns k)/\0<=yc ns k/\yc ns k<1000000007:=by
 obtain⟨m,h,a,b⟩:=tR ns C k I O;have e:yc ns k=m:=by unfold yc;rw[h]
 rw[e];exact⟨h,a,b⟩
noncomputable def jq(bs:List (Int×Int)):List D:=bs.map λb=>D.tup [.int b.1,.int b.2]
@[simp] theorem Y0(bs):(jq bs).length=bs.length:=by simp[jq]
theorem QY : ∀bs,ZF (jq bs)=bQ bs
 | []=>rfl
 | b::bs=>by have I:=QY bs;unfold jq at I;simp[jq,ZF,lR,I]
noncomputable def kH(bs:List (Int×Int)):List (Int×Int):=(xV bs).map λi=>bs.getD i (0,0)
theorem xJ(bs):(kH bs).Perm bs:=by have:=(qR bs).map λi=>bs.getD i (0,0);rw[jg]at this;exact this
theorem cM{bs:List (Int×Int)}(h:bs.length<64):cN (jq bs)=bQ (jq<|kH bs):=by unfold cN;rw[QY];show(if (jq bs).length<64 then bQ ((xV bs).map λi=>(jq bs).getD i .e7)else none)=_;rw[Y0,RY h];unfold kH;congr 1;unfold jq;rw[LG];refine Ll λi a=>?_;have a:i<bs.length:=IV.mp<|(qR bs).mem_iff.mp a;simp[a]
def Zy(n:Int)(b:Int×Int):Prop:=0<=b.1/\b.1<=b.2/\b.2<n
@[simp] def Er:=@cU.eq_1
section ap
variable(γ:Ctx)
@[simp] def Ep:=@Ab.eq_1
@[simp] def Eu:=@K8.eq_1
@[simp] def Ew:=@Ae.eq_1
@[simp] def Hv:=@HX.eq_1
end ap
noncomputable def mQ(b:Int×Int)(r:Int):Bool:=decide (b.1<=r) && decide (r<=b.2)
noncomputable def jf(bs:List (Int×Int))(r:Int):List Nat:=(IS bs.length).filter λi=>mQ (bs.getD i (0,0)) r
def Yt(l:List Nat):List D:=l.map λ(i:Nat)=>D.int i
@[simp] theorem X5(l):(Yt l).length=l.length:=by simp[Yt]
theorem dD(bs r):(jf bs r).length<=bs.length:=by have:=ND (λi=>mQ (bs.getD i (0,0)) r)<|IS bs.length;simpa[jf]using this
def hH(i j:Nat):Int:=if i=j then 1 else 0
noncomputable def wW(p:Int)(n:Nat)(f g:RK):Prop:=∀i j,i<n->j<n->zf (λk=>f i k*g k j) n%p=hH i j%p
theorem Vs{p x y X Y:Int}(C:x%p=X%p)(H:y%p=Y%p):(x*y)%p=(X*Y)%p:=by rw[Lc,C,H,<- Lc]
section
variable{p:Int}{n:Nat}{f g f' g':RK}
theorem ip{t:Int}{u o:Nat}(Z:u<n)(L:o<n)(H:u≠o)(C:wW p n f g)(J : ∀i k,i<n->k<n->f' i k%p=(f i k+(if i=u then t else 0)*f o k)%p)(hg : ∀k j,k<n->j<n->g' k j%p=(g k j+(if j=o then -t else 0)*g k u)%p):wW p n f' g':=by
 intro i j r O;generalize ea:(if i=u then t else 0)=a at J;have w : ∀k,k<n->f' i k%p=(f i k+(if i=u then t else 0)*f o k)%p:=λk I=>by have:=J i k r I;exact this
 rw[zI (g:=λk=>f i k*g k j+(if j=o then -t else 0)*(f i k*g k u)+((if i=u then t else 0)*(f o k*g k j)+((if i=u then t else 0)*(if j=o then -t else 0))*(f o k*g k u))) λk I=>by
  rw[Vs (w k I) (hg k j I O)];congr 1;generalize (if i=u then t else 0)=a;generalize (if j=o then -t else 0)=b;rw[Pk,NG,NG];congr 1
  ·congr 1;rw[Ni]
  ·congr 1
   ·rw[ME]
   ·rw[ME,ME];congr 1;rw[Ni]]
 rw[jt,jt,jt,jd,jd,jd];have A:=C i j r O;have B:=C i u r Z;have E:=C o j L O;have F:=C o u L Z;have U : ∀c S d:Int,S%p=d%p->(c*S)%p=(c*d)%p:=λc S d h=>Vs rfl h;have ad : ∀x y X Y:Int,x%p=X%p->y%p=Y%p->(x+y)%p=(X+Y)%p:=λx y X Y a b=>by rw[LZ,a,b,<- LZ]
 rw[ad _ _ _ _ (ad _ _ _ _ A<|U _ _ _ B) (ad _ _ _ _ (U _ _ _ E)<|U _ _ _ F)];congr 1;unfold hH;have s : ¬o=u:=λe=>H e.symm;by_cases l:i=u
 ·by_cases m:j=o
  ·subst l m;simp[H,s];omega
  ·have z : ¬o=j:=λe=>m e.symm
   simp[l,m,z,s]
 ·simp[l]
theorem cD{t:Int}{u o:Nat}(U:u<n)(Y:o<n)(C:u≠o)(H:wW p n g f)(J : ∀i k,i<n->k<n->f' i k%p=(f i k+(if i=u then t else 0)*f o k)%p)(L : ∀k j,k<n->j<n->g' k j%p=(g k j+(if j=o then -t else 0)*g k u)%p):wW p n g' f':=by
 intro i j d O;rw[<- H i j d O];rw[zI (g:=λk=>g i k*f k j+((if k=u then t*(g i u*f o j)else 0)+(if k=o then -t*(g i u*f o j)else 0))) λk I=>by
  rw[Vs (L i k d I) (J k j I O)];congr 1;by_cases b:k=u
  ·subst b
   have a : ¬k=o:=C;simp only[EQ a,if_true,Ng,NH,NG];rw[Ni]
  ·by_cases a:k=o
   ·subst a
    simp only[EQ b,if_true,Ng,NH,Int.zero_add,Pk];rw[ME]
   ·simp only[EQ b,EQ a,Ng,NH]]
 rw[jt,jt,zM (f:=λk=>if k=u then t*(g i u*f o j)else 0) U λk _ I=>EQ I,zM (f:=λk=>if k=o then -t*(g i u*f o j)else 0) Y λk _ I=>EQ I];simp only[if_true];congr 1;rw[Int.neg_mul];omega
end
def js(n:Nat)(f:RK):List D:=(IS n).map λi=>D.lst<|zA n<|f i
def xu(n:Nat)(f:RK):List (List D):=(IS n).map λi=>zA n<|f i
theorem cX(n f):(xu n f).map D.lst=js n f:=by simp[xu,js]
@[simp] theorem Am(n f):(js n f).length=n:=by simp[js]
@[simp] theorem CK(f)(hi:i<(js n f).length):(js n f)[i] = .lst (zA n<|f i):=by simp[js]
@[simp] theorem uw(r):kg (.nest r) = .no:=rfl
@[simp] theorem Bx(r):kg (.own r) = .no:=rfl
@[simp] theorem Bw(d):kg (.val d) = .val d:=rfl
@[simp] theorem CU:kg .no = .no:=rfl
theorem VG(J:a<n)(v I:Vc)(x:Int)(C:I a=x)(H : ∀i,i<n->i≠a->I i=v i):(zA n v).set a (.int x)=zA n I:=by
 apply MW;intro i;rw[Nt];by_cases b:i<n
 ·by_cases e:a=i
  ·subst e;simp[J,zA,C]
  ·have:=H i b (LC e)
   simp[e,zA,b,this]
 ·have O:(zA n v)[i]? = none:=by simp[zA];omega
  have d:(zA n I)[i]? = none:=by simp[zA];omega
  rw[O,d,EQ ⋯]
theorem cY(O:u<n)(f f':RK)(v:Vc)(C : ∀j,j<n->f' u j=v j)(H : ∀i j,i<n->i≠u->j<n->f' i j=f i j):(js n f).set u (.lst<|zA n v)=js n f':=by
 apply MW;intro i;rw[Nt];by_cases a:i<n
 ·by_cases e:u=i
  ·subst e;simp[O,js];exact kR λj I=>(C j I).symm
  ·simp[e,js,a];exact kR λj I=>(H i j a (LC e) I).symm
 ·have U:(js n f)[i]? = none:=by simp[js];omega
  have b:(js n f')[i]? = none:=by simp[js];omega
  rw[U,b,EQ ⋯]
theorem Xk : ∀(l:List Nat),(∀k∈l,∃d C m,fx (yV γ j i<|R k)=bQ d/\gx (yV γ j i<|R k)=bQ (.int C)/\f7 (R k).length C=bQ m/\(R k).set m d=R' k)->kQ j i gx fx γ (l.map R)=bQ (l.map R')
 | [],_=>rfl
 | k::l,h=>by obtain⟨d,C,m,a,b,I,O⟩:=h k Lp;have U:=Xk l λx e=>h x<|Lj _ e;simp[kQ,a,b,I,O,U]
theorem YO : ∀(l:List Nat),(∀k∈l,∃γ1,x9 T (g k) γ=bQ γ1/\f γ1=bQ (R k))->yC T f γ (l.map g)=bQ (l.map R)
 | [],_=>rfl
 | k::l,h=>by obtain⟨γ1,a,b⟩:=h k Lp;have I:=YO l λx O=>h x<|Lj _ O;simp[yC,a,b,I]
section
variable{p:Int}{n:Nat}
structure Pair(p:Int)(n:Nat)(f g:RK):Prop where
 bf : ∀i j,i<n->j<n->0<=f i j/\f i j<p
 bg : ∀i j,i<n->j<n->0<=g i j/\g i j<p
 fg:wW p n f g
 gf:wW p n g f
end
@[simp] theorem Al(n f):(xu n f).length=n:=by simp[xu]
def zE(w:RX)(k:Nat):Nat:=if w k then k+1 else k
def zK(w:RX)(k:Nat):Nat:=if w k then k else k+1
theorem uc(w:RX)(h:k<m):zE w k<m+1:=by unfold zE;split<;>omega
theorem vH(w:RX)(k:Nat):jS [.int k,.str (k6<|ix<|w k)]=bQ (.val<|.int (zE w k:Nat)):=by have q:=VE<|w k;cases h:w k<;>rw[h]at q<;>simp[jS,jn,z7,zE,q,h]
theorem aq(w:RX)(k:Nat):kW [.int k,.str (k6<|ix<|w k)]=bQ (.val<|.int (zK w k:Nat)):=by have q:=VE<|w k;cases h:w k<;>rw[h]at q<;>simp[kW,jn,z7,zK,q,h]
noncomputable def yR(m:Nat)(wd:RZ)(f:RV):List D:=(IS m).map λk=>jJ (wd k) (wd k)<|f k
@[simp] theorem uO(m wd f):(yR m wd f).length=m:=by simp[yR]
@[simp] theorem CF(wd f)(h:k<(yR m wd f).length):(yR m wd f)[k]=jJ (wd k) (wd k) (f k):=by simp[yR]
noncomputable def yk(p:Int)(w:RX)(wd:RZ)(f g T:RV)(k i j:Nat):Int:=
 zf (λb=>g (zE w k) b j*(zf (λa=>T k a b*f (zK w k) i a) (wd<|zK w k)%p)) (wd<|zE w k)%p
def b1:=(h7 (j8<|sB<|zC Xv<|za (zc 1) zD) JB jZ)
def b2:=(jo 3<|zH qa (yT<|zc 1)<|zv<|.int 1)
noncomputable def b3:=(h7 (j8<|sB<|hU<|jL<|zP (zF<|ze 2) (.nm 0) 1 [3] jj (zC ZH<|za (zc 1)<|za (zc 0) zD)) JB jZ)
def b4:=(jo 4<|jA<|cU<|ze 2)
noncomputable def x1:CO Xn:=(G8 (j8 (sB (zC Xv (za (zc 1) zD)))) (uE "NoRow") G9)
noncomputable def x3:CO Xn:=(G8 (j8 (sB (hU (jL (zP (zF (ze 2)) (.nm 0) 1 [3] jj (zC ZH (za (zc 1) (za (zc 0) zD)))))))) (uE "NoRow") G9)
noncomputable def x7:CO Xn:=(G8 (sB (zH ri (gZ (ze 6)) (zv (.int 30)))) (uE "TooMany") G9)
noncomputable def Ao(m:Nat)(bs:List (Int×Int)):List D:=(IS<|m+1).map λ(r:Nat)=>D.lst<|Yt<|jf bs r
noncomputable def pd(m:Nat)(bs:List (Int×Int)):List D:=zA (m+1) λr=>((jf bs r).length:Int)
section
variable{p:Int}{m:Nat}{w:RX}{bs:List (Int×Int)}
abbrev g0(p:Int)(z:Str)(bs:List (Int×Int)):Ctx:=[.val (.int p),.val (.str z),.val (.lst (jq bs)),.no,.no,.no,.no,.no]
abbrev g2(p:Int)(z:Str)(m:Nat)(bs:List (Int×Int)):Ctx:=[.val (.int p),.val (.str z),.val (.lst (jq bs)),.val (.int ((m+1:Nat):Int)),.no,.no,.no,.no]
abbrev g6(p:Int)(z:Str)(m:Nat)(bs:List (Int×Int)):Ctx:=[.val (.int p),.val (.str z),.val (.lst (jq bs)),.val (.int ((m+1:Nat):Int)),.val (.lst (jq (kH bs))),.val (.lst (Ao m (kH bs))),.val (.tup (pd m (kH bs))),.no]
end
section
variable{p:Int}{m:Nat}{w:RX}{bs:List (Int×Int)}
theorem sQ{b:List Nat}(x:Nat):zQ (.nm 0) jj (QB<|zH iQ (zc 1)<|zc 0) [Cell.no,Cell.val (.int x)] (Yt b)=bQ (b.map λy=>D.int<|if x=y then 1 else 0):=by
 unfold Yt;refine zx _ _ λy I=>zy rfl rfl ?_;by_cases h:x=y
 ·simp[h]
 ·have a : ¬((x:Int)=(y:Int)):=by omega
  simp[h,a]
end
theorem zk(h:F γ=bQ (.next γ'))(g:G γ'=r):zN F G γ=r:=by rw[jE,h];exact g
theorem jb(h:F (z7 n ds)=bQ (.ret r)):jn n F ds=bQ r:=by show(F<|z7 n ds).bind _=_;rw[h];rfl
theorem YI{T:Tg}{F:CO Fl}(P:Nat->Ctx->Prop)(n:Nat){γ:Ctx}(U:P 0 γ)(step : ∀s,s<n->∀γ,P s γ->∃γ1 I,x9 T (.int (s:Int)) γ=bQ γ1/\F γ1=bQ (.next I)/\P (s+1) I) :
 ∃γ',xX T F ((IS n).map λ(i:Nat)=>D.int (i:Int)) γ=bQ (.next γ')/\P n γ':=by
 have a : ∀(k s:Nat) (γ:Ctx),s+k=n->P s γ->∃γ',xX T F ((Nx s k).map λ(i:Nat)=>D.int (i:Int)) γ=bQ (.next γ')/\P n γ':=by
  intro k
  induction k with
  | zero=>
   intro s γ e O;obtain rfl:s=n:=by omega
   exact⟨γ,rfl,O⟩
  | succ k g=>
   intro s γ e O;obtain⟨γ1,I,b,d,f⟩:=step s ⋯ γ O;obtain⟨γ',h,j⟩:=g (s+1) I ⋯ f;refine⟨γ',?_,j⟩;rw[Nz,Mc,jW,b];simp only[IY,d];exact h
 have:=a n 0 γ ⋯ U;rw[<- Nd]at this;exact this
theorem qS(P:Nat->Ctx->Prop)(n:Nat)(C:n<=lim)(O:f γ=bQ (.int (n:Int)))(U:P 0 γ)(step : ∀s,s<n->∀γ,P s γ->∃γ1 I,x9 T (.int (s:Int)) γ=bQ γ1/\F γ1=bQ (.next I)/\P (s+1) I) :
 ∃γ',xU (zR f) T F γ=bQ (.next γ')/\P n γ':=by
 obtain⟨γ',e,a⟩:=YI P n U step;refine⟨γ',?_,a⟩;have b:=jm;have r:inR (n:Int)=dt:=wG ⋯ ⋯;rw[kT,yf,O];simp only[IY,qg,r,if_true,Mt,jv];rw[zV n λi=>(i:Int)];exact e
end DL
namespace DL
open PySem L2 PySem.W PyProof.Rows
def la(x y:Int×Int):Prop:=wB y x=ed
theorem wD(x):la x x:=by unfold la wB;simp
theorem X9:la x y↔x.1<y.1\/(x.1=y.1/\x.2<=y.2):=by
 unfold la wB;by_cases h:y.1=x.1
 ·rw[RY h,decide_eq_false_iff_not];omega
 ·rw[EQ h,decide_eq_false_iff_not];omega
theorem eV:wB x y=dt↔x.1<y.1\/(x.1=y.1/\x.2<y.2):=by
 unfold wB;by_cases h:x.1=y.1
 ·rw[RY h,decide_eq_true_iff];omega
 ·rw[EQ h,decide_eq_true_iff];omega
theorem wC(a:la x y)(b:la y z):la x z:=by rw[X9]at *;omega
theorem wF(a:wB x y=dt):la x y:=by rw[eV]at a;rw[X9];omega
theorem BB(a:wB x y=dt)(b:la y z):wB x z=dt:=by rw[eV]at *;rw[X9]at b;omega
theorem Ka(a:la x y)(b:la y x):x=y:=by rw[X9]at *;obtain⟨x1,I⟩:=x;obtain⟨O,U⟩:=y;simp only[Prod.mk.injEq]at *;omega
section
variable(key:Nat->Int×Int)
def vA(p:Array Nat)(i:Nat):Int×Int:=key<|p.getD i 0
def i0(i j:Nat):Bool:=wB (key i)<|key j
noncomputable def r0(p:Array Nat)(n:Nat):Prop:=∀i j,i<=j->j<n->la (vA key p i) (vA key p j)
noncomputable def Dec(p:Array Nat)(n:Nat):Prop:=∀i j,i<=j->j<n->la (vA key p j) (vA key p i)
variable{key}
theorem k7(f:α->KasT β) : ∀t:KasT α,km lt (t.bind f)=km lt (f<|km lt t)
 | .ret a=>rfl
 | .ask i j k=>k7 f<|k<|lt i j
theorem yn(p:Array Nat)(i j):(kas_rev p i j).size=p.size:=mirror_size _ _ _ _
theorem EG(p:Array Nat)(i:Nat):vA key p i=key (p[i]?.getD 0):=by unfold vA;rw[NC]
theorem cu(I:j<=p.size)(k:Nat):vA key (kas_rev p i j) k=if i<=k/\k<j then vA key p (i+j - 1 - k)else vA key p k:=by have:=getElem?_mirror_all (xs:=p) (i:=i) I k;unfold vA kas_rev;rw[NC,this];split<;>rw[NC]
theorem Jl(O:j<=p.size)(I : ∀k,i<=k->k<j->vA key p k=vA key p (j - 1))(k:Nat):vA key (kas_rev p i j) k=vA key p k:=by
 rw[cu O];split
 ·rename_i h
  rw[I _ ⋯ ⋯,I k h.1 h.2]
 ·rfl
theorem nM(I:k<p.size)(O:l<=k)(i:Nat):vA key (bubble p k<|k - l) i=if i=l then vA key p k else if l<i/\i<=k then vA key p (i - 1)else vA key p i:=by
 have:=getElem?_bubble (xs:=p) I (k - l) ⋯ i;rw[show k - (k - l)=l by omega]at this;simp only[EG];rw[this];split
 ·rfl
 ·split<;>rfl
theorem iE(C:1<=n)(hs:r0 key p n)(h:la (vA key p<|n - 1) (vA key p n)):r0 key p (n+1):=λi j I O=>by
 by_cases e:j=n
 ·subst e
  by_cases a:i=j
  ·subst a;exact wD _
  ·exact wC (hs i (j - 1) ⋯ ⋯) h
 ·exact hs i j I ⋯
theorem ZZ(C:1<=n)(hs:Dec key p n)(h:la (vA key p n) (vA key p<|n - 1)):Dec key p (n+1):=λi j I O=>by
 by_cases e:j=n
 ·subst e
  by_cases a:i=j
  ·subst a;exact wD _
  ·exact wC h<|hs i (j - 1) ⋯ ⋯
 ·exact hs i j I ⋯
theorem gG(p:Array Nat) : ∀(f n:Nat),1<=n->r0 key p n->n<=km (i0 key) (kas_asc p f n)/\km (i0 key) (kas_asc p f n)<=n+f/\r0 key p (km (i0 key)<|kas_asc p f n)/\(km (i0 key) (kas_asc p f n)=n+f\/wB (vA key p<|km (i0 key)<|kas_asc p f n) (vA key p<|km (i0 key) (kas_asc p f n) - 1)=dt)
 | 0,n,hn,hs=>⟨Le _,Le _,hs,.inl rfl⟩
 | f+1,n,hn,hs=>by
  have e:km (i0 key) (kas_asc p (f+1) n)=km (i0 key) (if wB (vA key p n) (vA key p<|n - 1)=dt then .ret n else kas_asc p f (n+1)):=rfl;rw[e];by_cases c:wB (vA key p n) (vA key p<|n - 1)=dt
  ·rw[RY c]
   exact⟨Le _,by show n<=n+(f+1);omega,hs,.inr c⟩
  ·rw[EQ c]
   obtain⟨U,a,I,O⟩:=gG p f (n+1) ⋯ (iE hn hs<|by unfold la;simpa using c);exact⟨by omega,by omega,I,O.imp (λh=>by omega) id⟩
noncomputable def H8(key:Nat->Int×Int)(p:Array Nat)(n q:Nat):Prop:=q+1<=n/\∀i,n - (q+1)<=i->i<n->vA key p i=vA key p (n - 1)
theorem VP(p:Array Nat)(C:1<=n):H8 key p n 0:=⟨C,λi a b=>by rw[show i=n - 1 by omega]⟩
theorem Kk : ∀(f:Nat) (p:Array Nat) (n q:Nat),Dec key p n->H8 key p n q->n+f<=p.size->
 ∃p' n' I,km (i0 key) (kas_desc f p n q)=(p',n',I)/\p'.size=p.size/\n<=n'/\n'<=n+f/\Dec key p' n'/\H8 key p' n' I
 | 0,p,n,q,hd,hb,_=>⟨p,n,q,rfl,rfl,Le _,Le _,hd,hb⟩
 | f+1,p,n,q,hd,hb,hs=>by
  have g:1<=n:=by have:=hb.1;omega
  have e:km (i0 key) (kas_desc (f+1) p n q)=km (i0 key) (if wB (vA key p n) (vA key p<|n - 1)=dt then (if q>0 then kas_desc f (kas_rev p (n - (q+1)) n) (n+1) 0 else kas_desc f p (n+1) 0)
   else .ask (p.getD (n - 1) 0) (p.getD n 0) λd=>if d=dt then .ret (p,n,q)else kas_desc f p (n+1) (q+1)):=rfl
  rw[e];by_cases c:wB (vA key p n) (vA key p<|n - 1)=dt
  ·rw[RY c]
   by_cases m:q>0
   ·rw[RY m]
    have l:=Jl (key:=key) (p:=p) (i:=n - (q+1)) (j:=n) ⋯ hb.2;have r:Dec key (kas_rev p (n - (q+1)) n) (n+1):=λi j s x=>by rw[l,l];exact ZZ g hd (wF c) i j s x
    obtain⟨p',n',I,a,b,h,k,O,U⟩:=Kk f (kas_rev p (n - (q+1)) n) (n+1) 0 r (VP _ ⋯) (by rw[yn];omega);exact⟨p',n',I,a,by rw[b,yn],by omega,by omega,O,U⟩
   ·rw[EQ m]
    obtain⟨p',n',I,a,b,h,k,O,U⟩:=Kk f p (n+1) 0 (ZZ g hd<|wF c) (VP _ ⋯) ⋯;exact⟨p',n',I,a,b,by omega,by omega,O,U⟩
  ·rw[EQ c]
   have u:km (i0 key) (.ask (p.getD (n - 1) 0) (p.getD n 0) λd=>if d=dt then .ret (p,n,q)else kas_desc f p (n+1) (q+1))=km (i0 key) (if wB (vA key p<|n - 1) (vA key p n)=dt then .ret (p,n,q)else kas_desc f p (n+1) (q+1)):=rfl;rw[u];by_cases d:wB (vA key p<|n - 1) (vA key p n)=dt
   ·rw[RY d]
    exact⟨p,n,q,rfl,rfl,Le _,by omega,hd,hb⟩
   ·rw[EQ d]
    have y:la (vA key p<|n - 1) (vA key p n):=by unfold la;simpa using c
    have o:la (vA key p n) (vA key p<|n - 1):=by unfold la;simpa using d
    have eq:=Ka y o;have t:H8 key p (n+1) (q+1):=⟨by have:=hb.1;omega,λi z A=>by
     rw[Nat.add_sub_cancel];by_cases w:i=n
     ·rw[w]
     ·rw[hb.2 i ⋯ ⋯,eq]⟩
    obtain⟨p',n',I,a,b,h,k,O,U⟩:=Kk f p (n+1) (q+1) (ZZ g hd o) t ⋯;exact⟨p',n',I,a,b,by omega,by omega,O,U⟩
noncomputable def gX(key:Nat->Int×Int)(C nrem:Nat)(r:Nat×Array Nat):Prop:=1<=r.1/\r.1<=nrem/\r.2.size=C/\r0 key r.2 r.1
theorem Wc(H:1<=n)(U:n<=nrem)(hs:nrem<=p.size)(C:Dec key p n):gX key p.size nrem (km (i0 key)<|kas_tail3 n nrem p):=by
 have I:r0 key (kas_rev p 0 n) n:=λi j a e=>by rw[cu ⋯,cu ⋯,RY ⟨by omega,by omega⟩,RY ⟨by omega,by omega⟩];exact C _ _ ⋯ ⋯
 obtain⟨b,d,O,_⟩:=gG (kas_rev p 0 n) (nrem - n) n H I;unfold kas_tail3;rw[k7];exact⟨by show 1<=km _ _;omega,by show km _ _<=nrem;omega,yn _ _ _,O⟩
theorem dS(H:1<=n)(J:n<nrem)(hs:nrem<=p.size)(U : ∀i,i<n->vA key p i=vA key p (n - 1))(C:wB (vA key p n) (vA key p<|n - 1)=dt):gX key p.size nrem (km (i0 key)<|kas_descPart n nrem p):=by
 have l:Dec key p n:=λi j d O=>by rw[U i ⋯,U j O];exact wD _
 obtain⟨b,a,I,h,e,m,o,f,k⟩:=Kk (nrem - (n+1)) p (n+1) 0 (ZZ H l<|wF C) (VP _ ⋯) ⋯;unfold kas_descPart;rw[k7,h];show gX key p.size nrem (km (i0 key)<|if I>0 then kas_tail3 a nrem (kas_rev b (a - (I+1)) a)else kas_tail3 a nrem b);split
 ·have g:=Jl (key:=key) (p:=b) (i:=a - (I+1)) (j:=a) ⋯ k.2
  have:=Wc (p:=kas_rev b (a - (I+1)) a) (n:=a) (nrem:=nrem) ⋯ ⋯ (by rw[yn];omega) (λi j d O=>by rw[g,g];exact f i j d O);rw[yn,e]at this;exact this
 ·have:=Wc (p:=b) (n:=a) (nrem:=nrem) ⋯ ⋯ ⋯ f
  rw[e]at this;exact this
theorem nk(C:1<=nrem)(hs:nrem<=p.size):gX key p.size nrem (km (i0 key)<|kas_count nrem p):=by
 have m:r0 key p 1:=λi j r t=>by rw[show i=j by omega];exact wD _
 obtain⟨I,g,O,b⟩:=gG p (nrem - 1) 1 (Le _) m;unfold kas_count;rw[k7];generalize km (i0 key) (kas_asc p (nrem - 1) 1)=n at I g O b;show gX key p.size nrem (km (i0 key)<|if (n==nrem)=dt then .ret (n,p)else if n>1 then .ask (p.getD 0 0) (p.getD (n - 1) 0) λc=>if c=dt then .ret (n,p)else kas_descPart n nrem (kas_rev p 0 n)else kas_descPart n nrem p);split
 ·rename_i h
  have:=eq_of_beq h;exact⟨I,by show n<=nrem;omega,rfl,O⟩
 ·rename_i h
  have s:n≠nrem:=λe=>h (by rw[e];exact beq_self_eq_true _);have d:wB (vA key p n) (vA key p<|n - 1)=dt:=b.resolve_left ⋯;split
  ·have e:km (i0 key) (.ask (p.getD 0 0) (p.getD (n - 1) 0) λc=>if c=dt then .ret (n,p)else kas_descPart n nrem (kas_rev p 0 n))=km (i0 key) (if wB (vA key p 0) (vA key p<|n - 1)=dt then .ret (n,p)else kas_descPart n nrem (kas_rev p 0 n)):=rfl
   rw[e];split
   ·exact⟨I,by show n<=nrem;omega,rfl,O⟩
   ·rename_i c
    have l:la (vA key p<|n - 1) (vA key p 0):=by unfold la;simpa using c
    have f : ∀i,i<n->vA key p i=vA key p (n - 1):=λi a=>Ka (O i (n - 1) ⋯ ⋯)<|wC l<|O 0 i ⋯ a;have U:=Jl (key:=key) (p:=p) (i:=0) (j:=n) ⋯<|λk _ o=>f k o;have:=dS (key:=key) (p:=kas_rev p 0 n) (n:=n) (nrem:=nrem) I ⋯ (by rw[yn];omega) (λi a=>by rw[U,U];exact f i a) (by rw[U,U];exact d);rw[yn]at this;exact this
  ·exact dS I ⋯ hs (λi a=>by rw[show i=n - 1 by omega]) d
theorem XY(hs:r0 key p k) : ∀(f l r:Nat),l<=r->r<=k->r - l<=f->(∀i,i<l->la (vA key p i) (vA key p k))->(∀i,r<=i->i<k->wB (vA key p k) (vA key p i)=dt)->
 km (i0 key) (kas_place p k f l r)<=k/\(∀i,i<km (i0 key) (kas_place p k f l r)->la (vA key p i) (vA key p k))/\∀i,km (i0 key) (kas_place p k f l r)<=i->i<k->wB (vA key p k) (vA key p i)=dt
 | 0,l,r,h1,h2,h3,h4,h5=>⟨by show l<=k;omega,h4,λi a I=>h5 i (by have:l<=i:=a;omega) I⟩
 | f+1,l,r,h1,h2,h3,h4,h5=>by
  have e:km (i0 key) (kas_place p k (f+1) l r)=km (i0 key) (if l>=r then .ret l else .ask (p.getD k 0) (p.getD ((l+r)/2) 0) λc=>if c=dt then kas_place p k f l ((l+r)/2)else kas_place p k f ((l+r)/2+1) r):=rfl;rw[e];by_cases O:l>=r
  ·rw[RY O]
   exact⟨by show l<=k;omega,h4,λi a I=>h5 i (by have:l<=i:=a;omega) I⟩
  ·rw[EQ O]
   have U:km (i0 key) (.ask (p.getD k 0) (p.getD ((l+r)/2) 0) λc=>if c=dt then kas_place p k f l ((l+r)/2)else kas_place p k f ((l+r)/2+1) r)=km (i0 key) (if wB (vA key p k) (vA key p<|(l+r)/2)=dt then kas_place p k f l ((l+r)/2)else kas_place p k f ((l+r)/2+1) r):=rfl;rw[U];by_cases c:wB (vA key p k) (vA key p<|(l+r)/2)=dt
   ·rw[RY c]
    exact XY hs f l ((l+r)/2) ⋯ ⋯ ⋯ h4 λi a I=>BB c<|hs _ _ a I
   ·rw[EQ c]
    have b:la (vA key p<|(l+r)/2) (vA key p k):=by unfold la;simpa using c
    exact XY hs f ((l+r)/2+1) r ⋯ h2 ⋯ (λi a=>wC (hs i ((l+r)/2) ⋯ ⋯) b) h5
theorem AI(O:k<p.size)(U:l<=k)(hs:r0 key p k)(C : ∀i,i<l->la (vA key p i) (vA key p k))(h2 : ∀i,l<=i->i<k->wB (vA key p k) (vA key p i)=dt):r0 key (bubble p k<|k - l) (k+1):=λi j e f=>by
 rw[nM O U,nM O U];by_cases d:i=l
 ·subst d
  rw[RY rfl];by_cases I:j=i
  ·rw[RY I];exact wD _
  ·rw[EQ I,RY ⟨by omega,by omega⟩]
   exact wF<|h2 _ ⋯ ⋯
 ·rw[EQ d]
  by_cases a:l<i/\i<=k
  ·rw[RY a,EQ (show ¬j=l by omega),RY ⟨by omega,by omega⟩]
   exact hs _ _ ⋯ ⋯
  ·rw[EQ a]
   by_cases I:j=l
   ·rw[RY I];exact C i ⋯
   ·rw[EQ I]
    by_cases b:l<j/\j<=k
    ·rw[RY b];exact hs _ _ ⋯ ⋯
    ·rw[EQ b];exact hs _ _ e ⋯
theorem oU : ∀(f:Nat) (p:Array Nat) (k n:Nat),k+f=n->p.size=n->r0 key p k->r0 key (km (i0 key)<|kas_bin f p k) n/\(km (i0 key)<|kas_bin f p k).size=n
 | 0,p,k,n,h1,h2,hs=>by
  obtain rfl:k=n:=by omega
  exact⟨hs,h2⟩
 | f+1,p,k,n,h1,h2,hs=>by obtain⟨I,O,U⟩:=XY hs k 0 k ⋯ (Le _) ⋯ (λi d=>by omega) (λi a b=>by omega);unfold kas_bin;rw[k7];exact oU f _ (k+1) n ⋯ (by rw[bubble_size];exact h2)<|AI ⋯ I hs O U
theorem pT(C:1<=n):r0 key (km (i0 key)<|kas_sort n) n/\(km (i0 key)<|kas_sort n).size=n:=by
 have b:(Ow<|IS n).size=n:=by simp
 obtain⟨O,U,a,I⟩:=nk (key:=key) (p:=Ow<|IS n) (nrem:=n) C ⋯;unfold kas_sort;rw[k7];generalize km (i0 key) (kas_count n<|Ow<|IS n)=r at O U a I;show r0 key (km (i0 key)<|if r.1<n then kas_bin (n - max r.1 1) r.2 (max r.1 1)else .ret r.2) n/\(km (i0 key)<|if r.1<n then kas_bin (n - max r.1 1) r.2 (max r.1 1)else .ret r.2).size=n;rw[show max r.1 1=r.1 by omega];split
 ·exact oU (n - r.1) r.2 r.1 n ⋯ ⋯ I
 ·have:r.1=n:=by omega
  rw[this]at I;exact⟨I,by show r.2.size=n;omega⟩
end
theorem ZD(bs:List (Int×Int)):(kH bs).Pairwise la:=by
 unfold kH xV;by_cases h:bs.length<2
 ·rw[RY h]
  rcases bs with _ | ⟨a,_ | ⟨b,bs⟩⟩
  ·exact NL.nil
  ·exact List.pairwise_singleton _ _
  ·simp only[LM]at h;omega
 ·rw[EQ h]
  obtain⟨f,g⟩:=pT (key:=λi=>bs.getD i (0,0)) (n:=bs.length) ⋯;have e:(km (λi j=>wB (bs.getD i (0,0))<|bs.getD j (0,0))<|kas_sort bs.length)=km (i0 λi=>bs.getD i (0,0)) (kas_sort bs.length):=rfl;rw[e];generalize km (i0 λi=>bs.getD i (0,0)) (kas_sort bs.length)=p at f g;rw[Nn];intro i j d I O;simp only[Ly,Nj]at d I;have:=f i j ⋯ ⋯;unfold vA at this;simp only[NC,Array.getElem?_eq_getElem d,Array.getElem?_eq_getElem I,Ov]at this;simpa using this
theorem Jv : ∀{a b:List (Int×Int)},a.Perm b->a.Pairwise la->b.Pairwise la->a=b
 | [],b,h,_,_=>by rw[h.nil_eq]
 | x::a,[],h,_,_=>by have:=h.length_eq;simp at this
 | x::a,y::b,h,ha,hb=>by
  have I:x∈y::b:=h.mem_iff.mp Lp;have O:y∈x::a:=h.mem_iff.mpr Lp;have e:x=y:=by
   rcases Lo.mp I with e | e
   ·exact e
   ·rcases Lo.mp O with e2 | e2
    ·exact e2.symm
    ·exact Ka (List.rel_of_pairwise_cons ha e2)<|List.rel_of_pairwise_cons hb e
  subst e;rw[Jv (List.Perm.cons_inv h) ha.of_cons hb.of_cons]
theorem Jx(h:a.Perm b):kH a=kH b:=
 Jv ((xJ a).trans (h.trans (xJ b).symm)) (ZD a) (ZD b)
end DL
namespace DL
open PySem L2
section
variable{p:Int}
noncomputable def fW(h w:Nat)(f:RK):List D:=(IS h).map λi=>D.lst<|zA w<|f i
@[simp] theorem Cd(h w f):(fW h w f).length=h:=by simp[fW]
end
@[simp] theorem uz(h w f):(fW h w f).length=h:=by simp[fW]
section
variable{p:Int}{h w q r:Nat}
def app(f:RK)(w:Nat)(v:Vc):Vc:=λi=>zf (λj=>f i j*v j) w
theorem VT(I : ∀j,j<w->v j%p=(u j+c*g j)%p)(i:Nat):app f w v i%p=(app f w u i+c*app f w g i)%p:=by
 unfold app;have e:zf (λj=>f i j*v j) w%p=zf (λj=>f i j*u j+c*(f i j*g j)) w%p:=zI λj O=>by rw[Lc,I j O,<- Lc,NG,Ni]
 rw[e,jt,jd]
theorem Jh(hz : ∀j,j<w->v j%p=0)(i:Nat):app f w v i%p=0:=by
 unfold app;have:zf (λj=>f i j*v j) w%p=zf (λ_=>0) w%p:=zI λj I=>by rw[Lc,hz j I];simp
 rw[this,zO];rfl
theorem jK(I : ∀j,j<w->v j%p=u j%p)(i:Nat):app f w v i%p=app f w u i%p:=by unfold app;exact zI λj O=>by rw[Lc,I j O,<- Lc]
theorem aD(O:g5 p (h+w) r B l)(hs:s<=r)(H : ∀k,k<s->l k<h)(C : ∀k,s<=k->k<r->h<=l k) :
 g5 p w (r - s) (λk j=>B (s+k)<|h+j) (λk=>l (s+k) - h)/\∀v,Span p w (el (r - s) λk j=>B (s+k)<|h+j) v↔Span p (h+w) (el r B) (kS h (λ_=>0) v):=by
 refine⟨{
  lt:=λk I=>by have:=O.lt (s+k) ⋯;have:=C (s+k) ⋯ ⋯;omega
  mono:=λk m I x=>by have:=O.mono (s+k) (s+m) ⋯ ⋯;have:=C (s+k) ⋯ ⋯;omega
  one:=λk I=>by have:=C (s+k) ⋯ ⋯;rw[show h+(l (s+k) - h)=l (s+k)by omega];exact O.one _ ⋯
  i9:=λk j I t=>O.i9 _ _ ⋯ ⋯
  oe:=λk m I x E=>by have:=C (s+m) ⋯ ⋯;rw[show h+(l (s+m) - h)=l (s+m)by omega];exact O.oe _ _ ⋯ ⋯ ⋯
  ji:=λk i I b=>O.ji _ _ ⋯ ⋯},λv=>⟨λU=>?_,λU=>?_⟩⟩
 ·induction U with
  | @zero v y=>
   refine .zero λi b=>?_;rcases Lu i h with z | z
   ·rw[jU z];simp
   ·obtain⟨k,rfl⟩ : ∃k,i=h+k:=⟨i - h,by omega⟩
    rw[qf];exact y k ⋯
  | @step v u g c o G n a=>
   obtain⟨k,I,rfl⟩:=o;refine .step (g:=B<|s+k) (c:=c) ⟨s+k,by omega,rfl⟩ a λi b=>?_;rcases Lu i h with z | z
   ·rw[jU z,jU z,O.i9 (s+k) i ⋯ (by have:=C (s+k) ⋯ ⋯;omega)];simp
   ·obtain⟨j,rfl⟩ : ∃k,i=h+k:=⟨i - h,by omega⟩
    rw[qf,qf];exact n j ⋯
 ·have e:=Zv O U
  refine(Span.sum (u:=λk j=>B (s+k)<|h+j) (λk=>kS h (λ_=>0) v<|l<|s+k) (m:=r - s) λk I=> .gen ⟨k,I,rfl⟩).congr λj t=>?_;have:=e (h+j) ⋯;rw[qf]at this;rw[this];obtain⟨d,rfl⟩ : ∃d,r=s+d:=⟨r - s,by omega⟩;rw[MK];have A : ∀(F:Nat->Int) (d:Nat),(∀k,k<s->F k=0)->zf F (s+d)=zf (λk=>F<|s+k) d:=by
   intro F d f
   induction d with
   | zero=>
    show zf F s=0;rw[zu (g:=λ_=>0) f,zO]
   | succ d a=>rw[<- OH];simp only[zf];rw[a]
  rw[A _ d λk I=>by rw[jU (H k I)];simp]
end
section
variable{p:Int}{h w q:Nat}
noncomputable def xr(h w:Nat)(f:RK)(g:Nat->Vc):Nat->Vc:=λm=>if m<w then kS h (λi=>f i m) (jI m)else kS h (g<|m - w) (λ_=>0)
theorem fT(f:RK)(g:Nat->Vc):zX w (h+w) (λj=>kS h (λi=>f i j)<|jI j)++zX q (h+w) (λk=>kS h (g k) λ_=>0)=zX (w+q) (h+w) (xr h w f g):=by
 unfold zX;rw[Ot,Mr,LG];congr 1
 ·refine Ll λm a=>?_
  unfold xr;rw[RY (IV.mp a)]
 ·refine Ll λm a=>?_
  simp only[PH];unfold xr;rw[EQ ⋯,MK]
theorem wU(f:RK)(I:j<w)(i:Nat):app f w (jI j) i=f i j:=by unfold app;rw[zM (f:=λk=>f i k*jI j k) I λk _ O=>by simp[jI,LC O]];simp[jI]
theorem dW(hz:Span p (h+w) (el (w+q)<|xr h w f g) z):Span p h (el q g) λi=>z i - app f w (λj=>z<|h+j) i:=by
 induction hz with
 | @zero z hz=>
  refine .zero λi a=>?_;rw[MU,hz i ⋯,Jh (p:=p) (λj l=>hz (h+j) ⋯) i];simp
 | @step z u n c k r U d=>
  obtain⟨m,o,rfl⟩:=k;have e:=λi=>VT (p:=p) (w:=w) (f:=f) (u:=λj=>u<|h+j) (g:=λj=>xr h w f g m<|h+j) (v:=λj=>z<|h+j) (c:=c) (λj l=>U (h+j) ⋯) i;have b : ∀i,i<h->(z i - app f w (λj=>z<|h+j) i)%p=((u i - app f w (λj=>u<|h+j) i)+c*(xr h w f g m i - app f w (λj=>xr h w f g m<|h+j) i))%p:=λi a=>by rw[MU,U i ⋯,e i,<- MU];congr 1;rw[Int.mul_sub];omega
  rcases Lu m w with I | I
  ·refine d.congr λi a=>?_
   rw[b i a];have t:app f w (λj=>xr h w f g m<|h+j) i=f i m:=by
    have:(λj=>xr h w f g m<|h+j)=jI m:=by funext j;unfold xr;rw[RY I,qf]
    rw[this,wU f I]
   have O:xr h w f g m i=f i m:=by unfold xr;rw[RY I,jU a]
   rw[t,O];simp
  ·refine .step (g:=g<|m - w) (c:=c) ⟨m - w,by omega,rfl⟩ d λi a=>?_
   rw[b i a];have t:app f w (λj=>xr h w f g m<|h+j) i=0:=by
    have:(λj=>xr h w f g m<|h+j)=λ_=>0:=by funext j;unfold xr;rw[EQ ⋯,qf]
    rw[this];unfold app;simp[zO]
   have O:xr h w f g m i=g (m - w) i:=by unfold xr;rw[EQ ⋯,jU a]
   rw[t,O];simp
theorem tq(I:Span p h (el q g) y):Span p (h+w) (el (w+q)<|xr h w f g) (kS h y λ_=>0):=by
 induction I with
 | @zero y b=>
  refine .zero λi a=>?_;rcases Lu i h with z | z
  ·rw[jU z];exact b i z
  ·obtain⟨k,rfl⟩ : ∃k,i=h+k:=⟨i - h,by omega⟩
   rw[qf];simp
 | @step y u l c O n U d=>
  obtain⟨k,m,rfl⟩:=O;refine .step (g:=xr h w f g<|w+k) (c:=c) ⟨w+k,by omega,rfl⟩ d λi a=>?_;have e:xr h w f g (w+k)=kS h (g k) λ_=>0:=by unfold xr;rw[EQ ⋯,MK]
  rw[e];rcases Lu i h with z | z
  ·rw[jU z,jU z,jU z];exact U i z
  ·obtain⟨j,rfl⟩ : ∃k,i=h+k:=⟨i - h,by omega⟩
   rw[qf,qf,qf];simp
theorem Ku(hp:Pr p)(hh:h<=20)(hw:w<=20)(hq:q<=100)(f:RK)(g:Nat->Vc) :
 ∃r B l,xp [.int p,jJ h w f,.lst (zX q h g)]=bQ (.own<|zX r w B)/\g5 p w r B l/\∀v,Span p w (el r B) v↔Span p h (el q g) (app f w v):=by
 have hl:=jm;have W:h<=lim:=by omega
 have I:w<=lim:=by omega
 have U:h+w<=lim:=by omega
 have X:q<=lim:=by omega
 have o:w+q<=lim:=by omega
 obtain⟨r,B,l,e,O,H⟩:=xq hp (show h+w<=100 by omega) o .L<|xr h w f g;have Y:r<=h+w:=Vt O.mono O.lt;obtain⟨s,x,C,E⟩:=wa h O.mono;have M:=vW O ⋯ x C E;obtain⟨J,R⟩:=aD O x C E;refine⟨r - s,_,_,?_,J,λv=>(R v).trans ((H _).trans ⟨λy=>?_,λy=>?_⟩)⟩
 ·have A:=kD f W I
  have F:=kB (n:=w) I;have d:zQ (.tp [0,1]) jj (zH qa (zc 0)<|zc 1) [Cell.no,Cell.no] ((IS w).map λj=>D.tup [.tup (zA h λi=>f i j),.tup (zA w λk=>if j=k then 1 else 0)])=bQ (zX w (h+w) λj=>kS h (λi=>f i j)<|jI j):=by unfold zX;refine zx _ _ λj t=>zy rfl rfl ?_;simp[qa,U,wI];rfl
  have S:vZ (zX w h λi j=>f j i) (zX w w λi j=>if i=j then 1 else 0)=(IS w).map λj=>D.tup [.tup (zA h λi=>f i j),.tup (zA w λk=>if j=k then 1 else 0)]:=by unfold vZ zX;rw[OF];simp
  have K:inR (w:Int)=dt:=Zq I;have zr:kG (.tup [.int 0]) (.int w)=bQ (.tup<|zA w λ_=>0):=by
   show(if [D.int 0].length*(w:Int).toNat<=lim/\inR (w:Int)=dt then bQ (D.tup (La (w:Int).toNat [D.int 0]).flatten)else none)=_;rw[RY ⟨by simpa using I,K⟩];congr 2;rw[Mt];clear d S F A M J R H O e K o U I hw hq C E x Y
   induction w with
   | zero=>rfl
   | succ w ih=>rw[List.replicate_succ',List.flatten_append,ih];unfold zA;rw[MM,Mr];rfl
  have N:zQ (.nm 0) jj (zH qa (zc 0)<|zH kG (qQ<|za (zv<|.int 0) zD)<|dy (ze 1)<|zv<|.int 1) [Cell.no,Cell.val (jJ h w f)] (zX q h g)=bQ (zX q (h+w) λk=>kS h (g k) λ_=>0):=by unfold zX;refine zx _ _ λk Q=>zy rfl rfl ?_;have sq:je (jJ h w f)=bQ (.T,[.int h,.int w,.tup (zX h w f)]):=rfl;simp[sq,zr,qa,U,wI]
  have Z:((h:Int)+(w:Int))=((h+w:Nat):Int):=by omega
  simp only[p9]at e;rw[<- Z,<- fT]at e;have sq:je (jJ h w f)=bQ (.T,[.int h,.int w,.tup (zX h w f)]):=rfl;unfold jJ at A F N ⊢;simp[xp,jn,z7,jE,A,F,S,I,X,o,z6,kg,La,d,N,e,M]
 ·have:=dW y
  refine(this.smul (-1)).congr λi P=>?_;congr 1;show app f w v i = -1*(kS h (λ_=>0) v i - app f w (λj=>kS h (λ_=>0) v<|h+j) i);rw[jU P,show(λj=>kS h (λ_=>0) v<|h+j)=v from funext λj=>qf j];omega
 ·have a:=Span.sum (p:=p) (n:=h+w) (G:=el (w+q)<|xr h w f g) (u:=λj=>xr h w f g j) v (m:=w) λj t=> .gen ⟨j,by omega,rfl⟩
  have b:=tq (w:=w) (f:=f) y;refine(b.add a (-1)).congr λi P=>?_;congr 1;rcases Lu i h with z | z
  ·rw[jU z,jU z]
   have:zf (λk=>v k*xr h w f g k i) w=app f w v i:=by unfold app;exact zu λk Q=>by unfold xr;rw[RY Q,jU z,Ml]
   rw[this];omega
  ·obtain⟨k,rfl⟩ : ∃k,i=h+k:=⟨i - h,by omega⟩
   rw[qf,qf];have:zf (λj=>v j*xr h w f g j (h+k)) w=v k:=by rw[zM (f:=λj=>v j*xr h w f g j (h+k)) (i:=k) ⋯ λj t as=>by unfold xr;rw[RY t,qf];simp[jI,as]];unfold xr;rw[RY (show k<w by omega),qf];simp[jI]
   rw[this];simp
end
section
variable{p p':Int}{m m':Nat}{w w':RX}{wd wd':RZ}{T T':RV}
theorem gF(C:m<=900):vG [jh p m w wd T,jh p m w wd' T']=none/\xT [jh p m w wd T,jh p m w wd' T']=bQ (.val .e7):=by
 have a:=Kt (p:=p) (p':=p) (w:=w) (w':=w) (wd:=wd) (wd':=wd') (T:=T) (T':=T') C C;rw[decide_eq_true ⟨rfl,rfl,λ_ _=>rfl⟩]at a;constructor
 ·simp[vG,GT,z7,HH,G8,uE,G9,a,La]
 ·simp[xT,jn,z7,a,La]
end
@[simp] def EC:=@Ah.eq_1
section
variable{p:Int}{m:Nat}{w:RX}{wd:RZ}{T:RV}{a:Nat}
theorem KM(F:Nat->Int)(s:Nat) : ∀d,zf F (s+d)=zf F s+zf (λk=>F<|s+k) d
 | 0=>by simp[zf]
 | d+1=>by rw[<- OH];simp only[zf];rw[KM F s d];omega
abbrev lk(p:Int)(m:Nat)(w:RX)(wd:RZ)(T:RV)(i j:Int)(a:Nat)(ds:List D)(c:Cell):Ctx:=[.val (jh p m w wd T),.val (.int i),.val (.int j),.val (jJ a a λi j=>if i=j then 1 else 0),.own ds,c]
end
@[simp] def Cr:=@EY.eq_1
section
variable{p:Int}{m:Nat}{w:RX}{wd:RZ}{T:RV}
theorem yU:je (jh p m w wd T)=bQ (.T,[.int p,.tup<|zA (m+1) λk=>(wd k:Int),.tup (xi m w wd T)]):=rfl
end
@[simp] theorem Cs(γ:Ctx)(f):K8 f γ=(f γ).bind λd=>match d with
 | .str z=>if jQ z=dt then bQ (k4<|ka z)else none
 | _=>none:=rfl
@[simp] theorem EB(γ:Ctx)(f g):Fb f g γ=(f γ).bind λd=>(g γ).bind λe=>match d,e with
 | .str x,.str y=>if jQ x=dt/\jQ y=dt then bQ (.str<|x++y)else none
 | _,_=>none:=rfl
theorem Xm(m:Nat)(w:RX):k4 (ka<|qb m w)=(IS m).map λ(k:Nat)=>D.tup [.int k,.str (k6<|ix<|w k)]:=by
 have e:ka (qb m w)=(IS m).map λk=>D.str (k6<|ix<|w k):=by unfold ka;rw[kl,LG];rfl
 unfold k4;rw[e];simp only[Ly,LP];refine Ll λk I=>?_;simp[IV.mp I]
def pr(a b:Nat):D:= .tup [.int a,.int b]
@[simp] theorem GW(a b):je (pr a b)=bQ (.T,[.int (a:Int),.int (b:Int)]):=rfl
theorem sL(a c:Nat):(if a<c then (c:Int)else (a:Int))=((max a c:Nat):Int):=by
 by_cases h:c>a
 ·rw[RY h,Nat.max_eq_right ⋯]
 ·rw[EQ h,Nat.max_eq_left ⋯]
theorem sI(a c:Nat):(if c<a then (c:Int)else (a:Int))=((min a c:Nat):Int):=by
 by_cases h:c<a
 ·rw[RY h,Nat.min_eq_right ⋯]
 ·rw[EQ h,Px ⋯]
noncomputable def Dj(w:RX)(a c:Nat):Bool:=decide (a=c) || (w (max a c - 1)==decide (a<c))
noncomputable def Dm(w:RX)(b d:Nat):Bool:=decide (b=d) || (w (min b d)==decide (b<d))
section
variable{m a b c d:Nat}{w:RX}
noncomputable def r6(w:RX)(a b c d:Nat):Bool:=decide (max a c<=min b d) && (Dj w a c && Dm w b d)
theorem kF(C:m<=5){k:Nat}(I:k<m):jT [.str (qb m w),.int k]=bQ (.val<|.tup [.int ((zE w k:Nat):Int),.int ((zK w k:Nat):Int)]):=by have O:wc (zc 0) (zc 1) [Cell.val (.str<|qb m w),Cell.val (.int k)]=bQ (.str<|k6<|ix<|w k):=KW w ⋯ I _ _ _ rfl rfl;simp only[jT,jn,z7,jE,La,LM,Mh];simp[-Kq,O,VE];cases h:w k<;>simp[h,zE,zK]
end
noncomputable def mk(lo:Nat)(ch:List Int)(r:Nat):Int:=if lo<=r then ch.getD (r - lo) 0 else 0
theorem Jt{C:List Int}(H:C.length<=63){r n:Nat}{t:Int}(ht:0<=t)(L:t<1000)(J:0<r)(Y:r<=6)(Z:n<=60) : ∃bs,qM [Kz C,.int t,.int n,.int r]=bQ (.own<|jq bs)/\(∀b∈bs,Zy r b)/\bs.length=n:=by
 have M:=jm;have o:n<=lim:=by omega
 have l : ∀(k s:Nat) (acc:List (Int×Int)) (d f g:Cell),s+k=n->acc.length=s->(∀b∈acc,Zy r b)->∃bs O U a,
  xX (.nm 5) (zN (jo 6<|zC jB<|za (zc 0)<|za (zH qa (zc 1)<|zc 5) zD)<|zN (jo 7<|zH yM (zc 6)<|zc 3)<|jV 4<|qQ<|za (zc 7)<|za (zH qa (zc 7)<|zH yM (zH Kl (zc 6)<|zc 3)<|zH Ja (zc 3)<|zc 7) zD) ((Nx s k).map λ(i:Nat)=>D.int i)
   [.val (Kz C),.val<|.int t,.val<|.int n,.val<|.int r,.own<|jq acc,d,f,g]=bQ (.next [.val (Kz C),.val<|.int t,.val<|.int n,.val<|.int r,.own<|jq bs,O,U,a])/\(∀b∈bs,Zy r b)/\bs.length=n:=by
  intro k
  induction k with
  | zero=>intro s acc d f g z m j;exact⟨acc,d,f,g,rfl,j,by omega⟩
  | succ k A=>
   intro s acc d f g z m j;obtain⟨y,G,K⟩:=VN H (k:=t+(s:Int)) ⋯ ⋯;have p:=LQ (yc C<|t+(s:Int)) (show(r:Int)≠0 by omega);have u:=LB (yc C<|t+(s:Int)) (show(0:Int)<r by omega);have F:=LQ (yc C (t+(s:Int))/r) (show(r:Int) - yc C (t+(s:Int))%r≠0 by omega);have as:=LB (yc C (t+(s:Int))/r) (show(0:Int)<(r:Int) - yc C (t+(s:Int))%r by omega);obtain⟨bs,O,U,a,h,g1,g2⟩:=A (s+1) (acc++[(yc C (t+(s:Int))%r,yc C (t+(s:Int))%r+yc C (t+(s:Int))/r%((r:Int) - yc C (t+(s:Int))%r))]) (.val<|.int s) (.val<|.int<|yc C<|t+(s:Int)) (.val<|.int<|yc C (t+(s:Int))%r) ⋯ (by simp[m]) (λb I=>by
    rcases Ob.mp I with I | I
    ·exact j b I
    ·have e:b=_:=List.mem_singleton.mp I
     subst e;exact⟨p,by show _<=_+_;omega,by show _+_<_;omega⟩)
   refine⟨bs,O,U,a,?_,g1,g2⟩;rw[<- h,Nz,Mc,jW];have w:acc.length<lim:=by omega
   have E:(0:Int)<r:=by omega
   have N:(0:Int)<(r:Int) - yc C (t+(s:Int))%r:=by omega
   have B:(r:Int)<1073741824:=by omega
   simp[jE,y,E,J,u,w,B];simp[jq]
 obtain⟨bs,O,U,a,h,g1,g2⟩:=l n 0 [] .no .no .no ⋯ rfl ⋯;refine⟨kH bs,?_,λb I=>g1 b<|(xJ bs).mem_iff.mp I,by rw[(xJ bs).length_eq,g2]⟩;rw[<- Nd]at h;simp[qM,jn,z7,jE,o,jv,La];rw[zV n λi=>(i:Int)];have x:(jq []:List D)=[]:=rfl;rw[x]at h;rw[h];simp[cM (show bs.length<64 by omega)]
theorem uH{c:Int}(C:0<=c){m:Nat}(H:m<=5) : ∃w,xR [.int c,.int (1+(m:Int))]=bQ (.val<|.str<|qb m w):=by
 have f:=jm;have I:m<=lim:=by omega
 refine⟨λk=>decide (c/2 ^ k%2=1),?_⟩;have a:zQ (.nm 0) jj (wc (zv (.str "rl")) (zH yM (zH Kl (zc 1) (dy (jL (qm (za (zv (.int 1)) (za (zv (.int 2)) (za (zv (.int 4)) (za (zv (.int 8)) (za (zv (.int 16)) zD))))))) (zc 0))) (zv (.int 2)))) [Cell.no,Cell.val (.int c)] ((IS m).map λi:Nat=>D.int (i:Int)) =
  bQ ((IS m).map λ(k:Nat)=>D.str<|k6<|ix<|decide<|c/2 ^ k%2=1):=by
  refine zx _ _ λk O=>zy rfl rfl ?_;have O:=IV.mp O;have U:zH yM (zH Kl (zc 1)<|dy (jL<|qm<|za (zv<|.int 1)<|za (zv<|.int 2)<|za (zv<|.int 4)<|za (zv<|.int 8)<|za (zv<|.int 16) zD)<|zc 0) (zv<|.int 2) [Cell.val (.int k),Cell.val (.int c)]=bQ (.int<|c/2 ^ k%2):=by
   have d:k=0\/k=1\/k=2\/k=3\/k=4:=by omega
   rcases d with rfl | rfl | rfl | rfl | rfl<;>simp[je,f7]
  show wc _ _ [Cell.val (.int k),Cell.val (.int c)]=_;rw[Kq,U];have q:c/2 ^ k%2=0\/c/2 ^ k%2=1:=by omega
  rcases q with q | q
  ·rw[q];rfl
  ·rw[q];rfl
 have all1:((IS m).map λ(k:Nat)=>k6<|ix<|decide<|c/2 ^ k%2=1).all jQ=dt:=by
  rw[List.all_map];exact Mz.mpr λk _=>by show jQ (k6 _)=dt;rfl
 have e:jQ ("" : Str)=dt:=rfl;have b:(1:Int)+(m:Int) - 1=(m:Int):=by omega
 simp[xR,jn,z7,jE,b,I,jv,z6,kg,La];rw[zV m λi=>(i:Int)];rw[a];simp only[Lm,IY,PH];rw[XG];simp only[IY];rw[RY ⟨by simpa using I,Mz.mp all1,e⟩];rfl
noncomputable def j6(h w:Nat)(f:RK):List D:=(IS h).map λi=>D.lst<|zA w<|f i
@[simp] theorem vo(h w f):(j6 h w f).length=h:=by simp[j6]
theorem j4(ds:List D):je (.lst ds)=bQ (.L,ds):=rfl
theorem jD(ds:List D):je (.tup ds)=bQ (.T,ds):=rfl
theorem kL(s:Nat)(f:Nat->α):(IS<|s+1).map f=(IS s).map f++[f s]:=by rw[MM,Mr];rfl
theorem qD(w:RX)(wd:RZ)(k:Nat):wd (zK w k)=eK w wd k:=by unfold zK eK;split<;>rfl
theorem qH(w:RX)(wd:RZ)(k:Nat):wd (zE w k)=eX w wd k:=by unfold zE eX;split<;>rfl
theorem vQ{w:RX}{k m:Nat}(h:k<m):zK w k<m+1:=by unfold zK;split<;>omega
theorem vS{w:RX}{k m:Nat}(h:k<m):zE w k<m+1:=by unfold zE;split<;>omega
noncomputable def ql(m:Nat)(w:RX)(wd:RZ)(T:RV):List D:=(IS m).map λk=>D.lst<|j6 (eK w wd k) (eX w wd k)<|T k
noncomputable def qp(m:Nat)(w:RX)(wd:RZ)(T:RV):D:= .tup [.lst (zA (m+1) λk=>(wd k:Int)),.lst (ql m w wd T)]
noncomputable def BN(m:Nat)(w:RX)(wd wd':RZ)(J:RV):List D:=(IS m).map λk=>jJ (eK w wd k) (eX w wd' k)<|J k
theorem uK(h w:Nat)(I:h<=lim)(f:RK)(γ:Ctx):zQ (.nm 0) jj (zZ<|ze 0) [Cell.no] (j6 h w f)=bQ (zX h w f):=by unfold j6 zX;exact zx _ _ λk O=>zy rfl rfl rfl
theorem ie{m k:Nat}(h:k<m+1)(wd:RZ):(zA (m+1) λk=>(wd k:Int))[k]? = bQ (.int (wd k:Int)):=by unfold zA;simp[h]
theorem nL(m:Nat)(wd:RZ):(zA (m+1) λk=>(wd k:Int)).length=m+1:=by simp[zA]
theorem iz(m w wd T):(ql m w wd T).length=m:=by simp[ql]
theorem pK{m k:Nat}(h:k<m)(w wd T):(ql m w wd T)[k]? = bQ (.lst<|j6 (eK w wd k) (eX w wd k)<|T k):=by unfold ql;simp[h]
theorem sN{h i:Nat}(hi:i<h)(w f):(j6 h w f)[i]? = bQ (.lst<|zA w<|f i):=by unfold j6;simp[hi]
theorem gH(s w wd T):xi (s+1) w wd T=xi s w wd T++[vF w wd T s]:=kL _ _
noncomputable def FK:=(zN (ZM (.tp [7,8])<|zC jT<|za (zc 1)<|za (zc 6) zD)<|zN (jo 9<|zZ<|jL<|zP (zF<|zw<|dy (ze 4)<|zc 6) (.nm 0) 1 [] jj (zZ<|ze 0))<|jV 5<|qQ<|za (wc (zc 1)<|zc 6)<|za (qQ<|za (dy (ze 3)<|zc 8)<|za (dy (ze 3)<|zc 7)<|za (zc 9) zD) zD)
theorem WX{p:Int}{m:Nat}(L:m<=4)(w:RX){wd:RZ}(C : ∀k,wd k<=9)(T:RV) :
 xF [.int p,.str<|qb m w,qp m w wd T]=bQ (.val<|jh p m w wd T):=by
 have J:=jm;have SY : ∀k,eK w wd k<=10:=λk=>by rw[<- qD];have:=C<|zK w k;omega
 have wl:=v7 m w;have o:=kj w (show m<=1000 by omega);have y:(ZM (.tp [3,4])<|zc 2) (z7 10 [.int p,.str<|qb m w,qp m w wd T])=bQ (.next [.val (.int p),.val<|.str<|qb m w,.val<|qp m w wd T,.val<|.lst<|zA (m+1) λk=>(wd k:Int),.val<|.lst<|ql m w wd T,.no,.no,.no,.no,.no]):=rfl;have z:(xf 5<|qm zD) [.val (.int p),.val<|.str<|qb m w,.val<|qp m w wd T,.val<|.lst<|zA (m+1) λk=>(wd k:Int),.val<|.lst<|ql m w wd T,.no,.no,.no,.no,.no]=bQ (.next [.val (.int p),.val<|.str<|qb m w,.val<|qp m w wd T,.val<|.lst<|zA (m+1) λk=>(wd k:Int),.val<|.lst<|ql m w wd T,.own [],.no,.no,.no,.no]):=rfl;obtain⟨H,A,⟨g,d,e,a,rfl⟩⟩:=qS (T:= .nm 6) (F:=FK) (f:=yT<|zc 1) (γ:=[.val (.int p),.val<|.str<|qb m w,.val<|qp m w wd T,.val<|.lst<|zA (m+1) λk=>(wd k:Int),.val<|.lst<|ql m w wd T,.own [],.no,.no,.no,.no])
  (λs γ=>∃g d e a,γ=[.val (.int p),.val<|.str<|qb m w,.val<|qp m w wd T,.val<|.lst<|zA (m+1) λk=>(wd k:Int),.val<|.lst<|ql m w wd T,.own<|xi s w wd T,g,d,e,a]) m ⋯ (by simp[wl,o]) ⟨_,_,_,_,rfl⟩ (by
    rintro s b γ ⟨g,d,e,a,rfl⟩;refine⟨_,[.val (.int p),.val<|.str<|qb m w,.val<|qp m w wd T,.val<|.lst<|zA (m+1) λk=>(wd k:Int),.val<|.lst<|ql m w wd T,.own<|xi (s+1) w wd T,.val<|.int (s:Int),.val<|.int ((zE w s:Nat):Int),.val<|.int ((zK w s:Nat):Int),.val (.tup<|zX (eK w wd s) (eX w wd s)<|T s)],rfl,?_,⟨_,_,_,_,rfl⟩⟩;have u:=kF (w:=w) (show m<=5 by omega) b;have O:=vQ (w:=w) b;have j:=vS (w:=w) b;have t:s<lim:=by omega
    have I:3<=lim:=by omega
    have r:2<=lim:=by omega
    have U:eK w wd s<=lim:=by have:=SY s;omega
    have x:(j6 (eK w wd s) (eX w wd s)<|T s).length<=lim:=by rw[vo];exact U
    have tp:=uK (eK w wd s) (eX w wd s) U (T s) [];have h:=ie O wd;have i:=ie j wd;rw[qD w wd]at h;rw[qH w wd]at i;have G:=pK b w wd T;have l:(ZM (.tp [7,8])<|zC jT<|za (zc 1)<|za (zc 6) zD) [.val (.int p),.val<|.str<|qb m w,.val<|qp m w wd T,.val<|.lst<|zA (m+1) λk=>(wd k:Int),.val<|.lst<|ql m w wd T,.own<|xi s w wd T,.val<|.int (s:Int),d,e,a]=bQ (.next [.val (.int p),.val<|.str<|qb m w,.val<|qp m w wd T,.val<|.lst<|zA (m+1) λk=>(wd k:Int),.val<|.lst<|ql m w wd T,.own<|xi s w wd T,.val<|.int (s:Int),.val<|.int ((zE w s:Nat):Int),.val<|.int ((zK w s:Nat):Int),a]):=by simp[u]
    refine zk l ?_;have n:(jo 9<|zZ<|jL<|zP (zF<|zw<|dy (ze 4)<|zc 6) (.nm 0) 1 [] jj (zZ<|ze 0)) [.val (.int p),.val<|.str<|qb m w,.val<|qp m w wd T,.val<|.lst<|zA (m+1) λk=>(wd k:Int),.val<|.lst<|ql m w wd T,.own<|xi s w wd T,.val<|.int (s:Int),.val<|.int ((zE w s:Nat):Int),.val<|.int ((zK w s:Nat):Int),a]=bQ (.next [.val (.int p),.val<|.str<|qb m w,.val<|qp m w wd T,.val<|.lst<|zA (m+1) λk=>(wd k:Int),.val<|.lst<|ql m w wd T,.own<|xi s w wd T,.val<|.int (s:Int),.val<|.int ((zE w s:Nat):Int),.val<|.int ((zK w s:Nat):Int),.val (.tup<|zX (eK w wd s) (eX w wd s)<|T s)]):=by simp only[kc,Zx,yF,jG,q9,qG,xN,j7,qU,Ld,Lg,zW,zY,IY,Lm,j4,qg,iz,jl,b,if_true,G,x,z6,La,Rm,Nu,tp,Mb,Ma]
    refine zk n ?_;have E:=KW w (show m<=1000 by omega) b [.val (.int p),.val<|.str<|qb m w,.val<|qp m w wd T,.val<|.lst<|zA (m+1) λk=>(wd k:Int),.val<|.lst<|ql m w wd T,.own<|xi s w wd T,.val<|.int (s:Int),.val<|.int ((zE w s:Nat):Int),.val<|.int ((zK w s:Nat):Int),.val (.tup<|zX (eK w wd s) (eX w wd s)<|T s)] (zc 1) (zc 6) rfl rfl;rw[gH,xD,Xs,z9,E];simp only[Xs,z9,ke,qU,xN,j7,Ld,Lg,LM,Mh,LV,MN,zW,zY,qL,IY,Lm,j4,qg,nL,jl,O,j,h,i,if_true,I,r,Y2,t,Mb,Ma];rfl)
 have B:(jM<|qQ<|za (zc 0)<|za (zZ<|ze 3)<|za (zZ<|ze 5) zD) [.val (.int p),.val<|.str<|qb m w,.val<|qp m w wd T,.val<|.lst<|zA (m+1) λk=>(wd k:Int),.val<|.lst<|ql m w wd T,.own<|xi m w wd T,g,d,e,a]=bQ (.ret<|.val<|jh p m w wd T):=by
  have I:3<=lim:=by omega
  simp[j4,I,jh]
 exact jb<|zk y<|zk z<|zk A B
section
variable{p:Int}{m:Nat}{w:RX}{wd wd':RZ}{T T' J:RV}
theorem kv(p m w wd T):je (jh p m w wd T)=bQ (.T,[.int p,.tup<|zA (m+1) λk=>(wd k:Int),.tup (xi m w wd T)]):=rfl
noncomputable def Wh(m:Nat)(w:RX)(wd wd':RZ):List D:=(IS m).map λk=>D.tup [.int (eK w wd k:Nat),.int (eX w wd' k:Nat)]
theorem rk(C:m<=4):qT [jh p m w wd' T',jh p m w wd T]=bQ (.own<|Wh m w wd wd'):=by
 have x:=jm;have f:m<=lim:=by omega
 have u:=kv p m w wd T;have x1:=kv p m w wd' T';have t:=ve (p:=p) (wd:=wd') (T:=T') (w:=w) (show m<=900 by omega);have g:=kj w (show m<=1000 by omega);have o:2<=lim:=by omega
 have a:zQ (.tp [0,1]) jj (qQ<|za (dy (zw<|dy (ze 3)<|zv<|.int 1)<|zC kW<|za (zc 0)<|za (zc 1) zD)<|za (dy (zw<|dy (ze 2)<|zv<|.int 1)<|zC jS<|za (zc 0)<|za (zc 1) zD) zD) [Cell.no,Cell.no,Cell.val<|jh p m w wd' T',Cell.val (jh p m w wd T)] ((IS m).map λ(k:Nat)=>D.tup [.int k,.str (k6<|ix<|w k)])=bQ (Wh m w wd wd'):=by unfold Wh;refine zx _ _ λk I=>zy rfl rfl ?_;have I:=IV.mp I;have O:=vQ (w:=w) I;have U:=vS (w:=w) I;have d:=ie O wd;have e:=ie U wd';rw[qD w wd]at d;rw[qH w wd']at e;have i:=aq w k;have j:=vH w k;have n:f7 3 1=bQ 1:=rfl;show qQ _ [Cell.val (.int (k:Int)),Cell.val<|.str<|k6<|ix<|w k,Cell.val<|jh p m w wd' T',Cell.val (jh p m w wd T)]=_;simp only[Xs,z9,ke,xN,qG,j7,qU,yh,xj,Ld,Lg,LM,Mh,LV,MN,zW,zY,IY,Lm,u,x1,qg,n,jD,i,j,Ya,nL,jl,O,U,if_true,d,e,o]
 have l:(k4<|ka<|qb m w).length<=lim:=by rw[Xm];simpa using f
 have r:(jo 2<|zC kA<|za (zc 0) zD) (z7 3 [jh p m w wd' T',jh p m w wd T])=bQ (.next [.val (jh p m w wd' T'),.val<|jh p m w wd T,.val (.str<|qb m w)]):=by simp[z7,La,t]
 have s:(yO<|zP (K8<|zc 2) (.tp [0,1]) 2 [0,1] jj (qQ<|za (dy (zw<|dy (ze 3)<|zv<|.int 1)<|zC kW<|za (zc 0)<|za (zc 1) zD)<|za (dy (zw<|dy (ze 2)<|zv<|.int 1)<|zC jS<|za (zc 0)<|za (zc 1) zD) zD)) [.val (jh p m w wd' T'),.val<|jh p m w wd T,.val (.str<|qb m w)]=bQ (.ret<|.own<|Wh m w wd wd'):=by
  have b:K8 (zc 2) [.val (jh p m w wd' T'),.val<|jh p m w wd T,.val (.str<|qb m w)]=bQ (k4<|ka<|qb m w):=by show(if jQ (qb m w)=dt then _ else _)=_;rw[RY g]
  have pc:z6 2 [0,1] [.val (jh p m w wd' T'),.val<|jh p m w wd T,.val (.str<|qb m w)]=[Cell.no,Cell.no,Cell.val<|jh p m w wd' T',Cell.val (jh p m w wd T)]:=rfl;show((zP _ _ _ _ _ _ _).map λh=>Fl.ret<|.own h)=_;rw[jG,b];simp only[IY];rw[RY l,Xm,pc,a];rfl
 exact jb<|zk r s
end
section
variable{p:Int}{m:Nat}{w:RX}{wd wd':RZ}{T T' J:RV}
theorem Ve(h w f):je (jJ h w f)=bQ (.T,[.int (h:Int),.int (w:Int),.tup (zX h w f)]):=rfl
theorem fV{h i:Nat}(hi:i<h)(w:Nat)(f:RK):(zX h w f)[i]? = bQ (.tup<|zA w<|f i):=by unfold zX;simp[hi]
theorem Zu(h w f):(zX h w f).length=h:=by simp[zX]
end
def wl(l:List Bool):Str:=⟨⟨l.map ix⟩⟩
noncomputable def Fs(n k:Nat)(u:Nat->Int):Int:=if 0<k then (if k+1<n then u (k - 1)+(u (k+1)+0)else u (k - 1)+0)else if k+1<n then u (k+1)+0 else 0
noncomputable def mv(n k:Nat)(u:Nat->Int)(i:Nat):Int:=if i=k then Fs n k u - u k else u i
noncomputable def Uo(n:Nat)(ks:List Nat)(u:Nat->Int):Nat->Int:=ks.foldl (λu k=>mv n k u) u
noncomputable def S4(n:Nat)(ks:List Nat)(u:Nat->Int):Nat->Nat->Int
 | 0=>u
 | j+1=>Uo n ks<|S4 n ks u j
noncomputable def acc(n:Nat)(ks:List Nat)(u:Nat->Int):Nat->Nat->Int
 | 0=>λ_=>0
 | j+1=>λi=>acc n ks u j i+S4 n ks u j i
theorem WH(n f):m9 (.lst<|zA n f)=dt:=WE (by
 have:=W4 n f;simp only[deep]at this ⊢;exact this) ⋯ (by
 have:=eC n f;simp only[i6]at this ⊢;exact this)
theorem Ki(b:Bool):iQ (.str (k6 (ix b))) (.str "r")=bQ (.bl (!b)):=by cases b<;>kernel_rfl
abbrev TB:=Nat×Nat×(Nat->Nat->Int)
def tD(t:TB):D:=jJ t.1 t.2.1 t.2.2
noncomputable def dU(bs:List (Int×Int))(I C:List TB):D:= .tup [.lst (jq bs),.lst<|I.map tD,.lst (C.map tD)]
theorem pQ:qu=jn 12 (zN N7<|zN N8<|zN iC uS):=rfl
section
variable{p:Int}{n:Nat}
theorem iB(hp:Pr p)(Z:n<=60){f g:RK}(h:Pair p n f g){u o:Nat}{tm:Int}(I:u<n)(O:o<n)(hc : ¬u=o)(ht:0<=tm/\tm<p)(C H J L ac:Cell) :
 ∃f' g' Y,Pair p n f' g'/\ER [C,H,.val<|.int p,.val<|.int n,.own<|js n f,.nest<|xu n g,J,L,.val<|.int o,.val<|.int u,.val<|.int tm,ac]=bQ (.next [C,H,.val<|.int p,.val<|.int n,.own<|js n f',.nest<|xu n g',J,L,.val<|.int o,.val<|.int u,.val<|.int tm,Y]):=by
 have B:=jm;have Z:n<=lim:=by omega
 have l:=hp.pos;have E:=hp.le;have r : ∀z:Int,0<=z%p/\z%p<p:=λz=>⟨LQ _ ⋯,LB _ l⟩;have m : ∀x,JY tm x=dt:=λx=>vc _ _ ⋯ ⋯;refine⟨λi j=>if i=o then (f o j+tm*f u j)%p else f i j,λi j=>if j=u then (g i u - tm*g i o)%p else g i j,.no,⟨λi j d U=>?_,λi j d U=>?_,?_,?_⟩,?_⟩
 ·by_cases e:i=o
  ·simp only[RY e];exact r _
  ·simp only[EQ e];exact h.bf i j d U
 ·by_cases e:j=u
  ·simp only[RY e];exact r _
  ·simp only[EQ e];exact h.bg i j d U
 ·refine ip (t:=tm) (u:=o) (o:=u) O I (LC hc) h.fg (λi k _ _=>?_) (λk j _ _=>?_)
  ·by_cases e:i=o
   ·simp only[RY e];rw[LF,e]
   ·simp only[EQ e,Ng,NH]
  ·by_cases e:j=u
   ·simp only[RY e];rw[LF,e,Int.neg_mul];rfl
   ·simp only[EQ e,Ng,NH]
 ·refine cD (t:=tm) (u:=o) (o:=u) O I (LC hc) h.gf (λi k _ _=>?_) (λk j _ _=>?_)
  ·by_cases e:i=o
   ·simp only[RY e];rw[LF,e]
   ·simp only[EQ e,Ng,NH]
  ·by_cases e:j=u
   ·simp only[RY e];rw[LF,e,Int.neg_mul];rfl
   ·simp only[EQ e,Ng,NH]
 ·have s:zQ (.tp [0,1]) jj (zH yM (zH qa (zc 0)<|zH kG (zc 3)<|zc 1)<|zc 2) [Cell.no,Cell.no,Cell.val<|.int p,Cell.val (.int tm)] ((IS n).map λj=>D.tup [.int (f o j),.int (f u j)])=bQ (zA n λj=>(f o j+tm*f u j)%p):=by
   rw[zV];refine zx _ _ λj U=>zy rfl rfl ?_;simp[m,l]
  have y:=cY O f (λi j=>if i=o then (f o j+tm*f u j)%p else f i j) (λj=>(f o j+tm*f u j)%p) (λj _=>by simp) (λi j _ b _=>by simp[b]);have w : ∀a:Cell,kQ 5 11 (zc 9) (zH yM (zH Ja (dy (ze 11)<|zc 9)<|zH kG (zc 10)<|dy (ze 11)<|zc 8)<|zc 2) [C,H,.val<|.int p,.val<|.int n,a,.nest<|xu n g,J,L,.val<|.int o,.val<|.int u,.val<|.int tm,ac] (xu n g)=bQ (xu n λi j=>if j=u then (g i u - tm*g i o)%p else g i j):=λa=>by
   unfold xu;refine Xk _ λk A=>⟨.int<|(g k u - tm*g k o)%p,u,u,?_,rfl,?_,VG I _ _ _ ⋯ λi _ b=>by simp[b]⟩
   ·simp[yV,I,O,m,l]
   ·simp[I]
  simp[ER,jE,I,O,Z,z6,La,vY,s,y,w]
theorem uJ{C:List Int}(Y:C.length<=63)(U:Pr p)(hn:n<=60){a:Int}(h0:0<=a)(h1:a<=10000) :
 ∃f g,Pair p n f g/\qu [Kz C,.int a,.int p,.int n]=bQ (.val<|.tup [.lst (js n f),.lst (js n g)]):=by
 have hl:=jm;have I:n<=lim:=by omega
 have M:=U.pos;have two:=U.two;have p7:=U.le;have E : ∀i:Nat,zQ (.nm 0) jj (QB<|zH iQ (zc 1)<|zc 0) [Cell.no,Cell.val (.int i)] ((IS n).map λ(j:Nat)=>D.int j)=bQ (zA n<|hH i):=λi=>by
  rw[zV];refine zx _ _ λj hj=>zy rfl rfl ?_;by_cases e:i=j
  ·subst e;simp[hH]
  ·have e' : ¬((i:Int)=(j:Int)):=by omega
   simp[hH,e,e']
 have S:zQ (.nm 0) jj (jA<|zP (zR<|zc 1) (.nm 0) 1 [0] jj (QB<|zH iQ (zc 1)<|zc 0)) [Cell.no,Cell.val (.int n)] ((IS n).map λ(j:Nat)=>D.int j)=bQ (js n hH):=by unfold js;refine zx _ _ λi A=>zy rfl rfl ?_;simp[I,jv,z6,La];rw[zV n λi=>(i:Int),E]
 have W:yC (.nm 0) (zP (zR<|zc 1) (.nm 0) 1 [0] jj (QB<|zH iQ (zc 1)<|zc 0)) [Cell.no,Cell.val (.int n)] ((IS n).map λ(j:Nat)=>D.int j)=bQ (xu n hH):=by unfold xu;refine YO _ λi A=>⟨_,rfl,?_⟩;simp[I,jv,z6,La];rw[zV n λi=>(i:Int),E]
 have ZK:Pair p n hH hH:=by
  have b : ∀i j:Nat,i<n->j<n->0<=hH i j/\hH i j<p:=λi j _ _=>by unfold hH;split<;>omega
  have u:wW p n hH hH:=λi j A hj=>by rw[zM (i:=i) A λk _ X=>by unfold hH;rw[EQ (LC X)];simp];simp[hH]
  exact⟨b,b,u,u⟩
 let γ:Cell->Cell->Cell->Cell->Cell->Cell->Cell->Cell->Ctx:=λc4 c5 x w s r h d=>[.val (Kz C),.val<|.int a,.val<|.int p,.val<|.int n,c4,c5,x,w,s,r,h,d];have s1:N7 (γ .no .no .no .no .no .no .no .no)=bQ (.next<|γ (.own<|js n hH) .no .no .no .no .no .no .no):=by unfold N7;simp[γ,I,jv,z6,La];rw[zV n λi=>(i:Int),S]
 have s2:N8 (γ (.own<|js n hH) .no .no .no .no .no .no .no)=bQ (.next<|γ (.own<|js n hH) (.nest<|xu n hH) .no .no .no .no .no .no):=by unfold N8;simp[γ,I,jv,z6,La];rw[zV n λi=>(i:Int),W];simp[Xh,I]
 obtain⟨f,g,x,w,s,r,h,d,O,B⟩ : ∃f g x w s r h d,Pair p n f g/\iC (γ (.own<|js n hH) (.nest<|xu n hH) .no .no .no .no .no .no)=bQ (.next<|γ (.own<|js n f) (.nest<|xu n g) x w s r h d):=by
  have cm:JY 2 (n:Int)=dt:=vc _ _ ⋯ ⋯;by_cases n0:n=0
  ·refine⟨hH,hH,.no,.no,.no,.no,.no,.no,ZK,?_⟩
   have e:zR (zH Ja (zH kG (zv<|.int 2)<|zc 3)<|zv<|.int 2) (γ (.own<|js n hH) (.nest<|xu n hH) .no .no .no .no .no .no)=bQ []:=by subst n0;rfl
   unfold iC;rw[kT,e];rfl
  obtain⟨γ',B,f,g,x,w,s,r,h,d,O,rfl⟩:=qS (T:= .nm 6) (F:=GQ) (f:=zH Ja (zH kG (zv<|.int 2)<|zc 3)<|zv<|.int 2)
   (λt y=>∃f g x w s r h d,Pair p n f g/\y=γ (.own<|js n f) (.nest<|xu n g) x w s r h d)
   (2*n - 2) ⋯ (γ:=γ (.own<|js n hH) (.nest<|xu n hH) .no .no .no .no .no .no) (by
     have:((2*n - 2:Nat):Int)=2*(n:Int) - 2:=by omega
     rw[this];simp[γ,cm]) ⟨hH,hH,.no,.no,.no,.no,.no,.no,ZK,rfl⟩ (by
     rintro t ht y ⟨f,g,x,w,s,r,h,d,O,rfl⟩;have bu:2<=n:=by omega
     obtain⟨H,N,b1⟩:=VN Y (k:=a+(t:Int)) ⋯ ⋯;generalize yc C (a+(t:Int))=cell at H N b1;obtain⟨o,eo,ho⟩:=Xb (m:=cell) (n:Int) ⋯;have x1:=LQ (cell/8) (show(n:Int) - 1≠0 by omega);have x2:=LB (cell/8) (show 0<(n:Int) - 1 by omega);obtain⟨u,z,hu⟩:=Xb (m:=(o:Int)+1+cell/8%((n:Int) - 1)) (n:Int) ⋯;have Z : ¬u=o:=λe=>by
      by_cases l:(o:Int)+1+cell/8%((n:Int) - 1)<n
      ·rw[LX ⋯ l]at z
       omega
      ·have e3:((o:Int)+1+cell/8%((n:Int) - 1))%n=((o:Int)+1+cell/8%((n:Int) - 1) - n)%n:=(Int.sub_emod_right _ _).symm
       rw[e3,LX ⋯ ⋯]at z;omega
     have t1:=LQ (cell/64) (show p≠0 by omega);have t2:=LB (cell/64) M;obtain⟨J,K,bb,bd,es⟩:=iB U hn O (u:=u) (o:=o) (tm:=cell/64%p) ⋯ ⋯ Z ⟨t1,t2⟩ (.val<|Kz C) (.val<|.int a) (.val<|.int t) (.val<|.int cell) d;refine⟨γ (.own<|js n f) (.nest<|xu n g) (.val<|.int t) w s r h d,γ (.own<|js n J) (.nest<|xu n K) (.val<|.int t) (.val<|.int cell) (.val<|.int o) (.val<|.int u) (.val<|.int<|cell/64%p) bb,rfl,?_,J,K,_,_,_,_,_,_,bd,rfl⟩;have G:(0:Int)<(n:Int):=by omega
     have L:0<n:=by omega
     have nm:0<(n:Int) - 1:=by omega
     have be:1<n:=by omega
     have P:(jo 7<|zC jB<|za (zc 0)<|za (zH qa (zc 1)<|zc 6) zD) (γ (.own<|js n f) (.nest<|xu n g) (.val<|.int t) w s r h d)=bQ (.next<|γ (.own<|js n f) (.nest<|xu n g) (.val<|.int t) (.val<|.int cell) s r h d):=by simp[γ,H]
     have Q:(jo 8<|zH yM (zc 7)<|zc 3) (γ (.own<|js n f) (.nest<|xu n g) (.val<|.int t) (.val<|.int cell) s r h d)=bQ (.next<|γ (.own<|js n f) (.nest<|xu n g) (.val<|.int t) (.val<|.int cell) (.val<|.int o) r h d):=by simp[γ,G,L,eo]
     have R:(jo 9<|zH yM (zH qa (zH qa (zc 8)<|zv<|.int 1)<|zH yM (zH Kl (zc 7)<|zv<|.int 8)<|zH Ja (zc 3)<|zv<|.int 1)<|zc 3) (γ (.own<|js n f) (.nest<|xu n g) (.val<|.int t) (.val<|.int cell) (.val<|.int o) r h d)=bQ (.next<|γ (.own<|js n f) (.nest<|xu n g) (.val<|.int t) (.val<|.int cell) (.val<|.int o) (.val<|.int u) h d):=by
      have Tb:(1:Int)<(n:Int):=by omega
      simp[γ,G,L,nm,be,Tb,z]
     have bl:(jo 10<|zH yM (zH Kl (zc 7)<|zv<|.int 64)<|zc 2) (γ (.own<|js n f) (.nest<|xu n g) (.val<|.int t) (.val<|.int cell) (.val<|.int o) (.val<|.int u) h d)=bQ (.next<|γ (.own<|js n f) (.nest<|xu n g) (.val<|.int t) (.val<|.int cell) (.val<|.int o) (.val<|.int u) (.val<|.int<|cell/64%p) d):=by simp[γ,M]
     exact zk P<|zk Q<|zk R<|zk bl es)
  exact⟨f,g,x,w,s,r,h,d,O,B⟩
 refine⟨f,g,O,?_⟩;rw[pQ];refine jb<|zk s1<|zk s2<|zk B ?_;show iL 5 _ (γ (.own<|js n f) (.nest<|xu n g) x w s r h d)=_;have l2:2<=lim:=by omega
 rw[<- cX n g];simp[iL,iM,γ,wO,qL,l2]
end
structure e9 where
 s:Nat
 n:Nat
 v:Nat->Vc
noncomputable def e9.has(b:e9)(r:Nat):Bool:=decide (b.s<=r) && decide (r<b.s+b.n)
theorem i5{b:e9}{r:Nat}:b.has r=dt↔b.s<=r/\r<b.s+b.n:=by simp[e9.has]
def gY:e9:=⟨0,0,λ_ _=>0⟩
structure m5(p:Int)(w:RX)(wd:RZ)(T:RV)(k:Nat)(b:e9):Prop where
 n1:1<=b.n
 le:b.s+b.n<=k+1
 ji : ∀r i,b.has r=dt->i<wd r->0<=b.v r i/\b.v r i<p
 arr : ∀j,j<k->b.has (zE w j)=dt->∀i,i<wd (zK w j)->app (T j) (wd<|zE w j) (b.v<|zE w j) i%p=(if b.has (zK w j)=dt then b.v (zK w j) i else 0)%p
noncomputable def Ord(w:RX)(a b:e9):Prop:=(a.s<b.s->w (b.s - 1)=dt)/\(b.s<a.s->w (a.s - 1)=ed)
noncomputable def HE(C:List e9)(r:Nat):Vc->Prop:=λg=>∃b,b∈C/\b.has r=dt/\g=b.v r
noncomputable def n3(p:Int)(A:Nat->e9)(N:Nat)(t:Vc)(r:Nat):Vc:=λc=>zf (λj=>if (A j).has r=dt then t j*(A j).v r c else 0) N%p
noncomputable def D1(p:Int)(A:Nat->e9)(N:Nat)(t:Vc)(i:Nat):e9:=⟨(A i).s,(A i).n,n3 p A N t⟩
section
variable{p:Int}{w:RX}{wd:RZ}{T:RV}{k N:Nat}{A:Nat->e9}
theorem yE(f:RK)(h:Nat)(t:Vc)(u:Nat->Vc)(n:Nat)(i:Nat):app f h (λc=>zf (λj=>t j*u j c) n) i=zf (λj=>t j*app f h (u j) i) n:=by
 unfold app;have e:zf (λj=>f i j*zf (λk=>t k*u k j) n) h=zf (λj=>zf (λk=>t k*(f i j*u k j)) n) h:=zu λj _=>by rw[<- jd];exact zu λk _=>by rw[<- ME,<- ME,Ml (f i j)]
 rw[e,qc];exact zu λj _=>jd ..
theorem sP(c:Prop) [Decidable c](x y:Int):(if c then x*y else 0)=x*(if c then y else 0):=by split<;>simp
theorem gI(f:RK)(h r:Nat)(t:Vc)(i:Nat):app f h (n3 p A N t r) i%p=zf (λj=>t j*(if (A j).has r=dt then app f h ((A j).v r) i else 0)) N%p:=by
 have e:app f h (n3 p A N t r) i%p=app f h (λc=>zf (λj=>t j*(if (A j).has r=dt then (A j).v r c else 0)) N) i%p:=jK (λc _=>by unfold n3;rw[LF];congr 1;exact zu λj _=>sP ..) i
 rw[e,yE];congr 1;refine zu λj _=>?_;congr 1;by_cases I:(A j).has r=dt
 ·simp only[RY I]
 ·simp only[EQ I]
  unfold app;simp[zO]
theorem BA(J:0<p)(C : ∀j,j<N->m5 p w wd T k (A j))(hk : ∀j,j<N->(A j).has k=dt){t:Vc}{i:Nat}(hi:i<N)(H : ∀c,i<c->c<N->Ord w (A i) (A c))(tz : ∀c,c<i->t c=0) :
 m5 p w wd T k (D1 p A N t i):=by
 refine⟨(C i hi).n1,(C i hi).le,λr c _ _=>⟨LQ _ ⋯,LB _ J⟩,λj l O c h=>?_⟩;have O:(A i).has (zE w j)=dt:=O;show app (T j) (wd<|zE w j) (n3 p A N t<|zE w j) c%p=(if (A i).has (zK w j)=dt then n3 p A N t (zK w j) c else 0)%p;rw[gI];have g : ∀I,I<N->t I≠0->((A i).has (zK w j)=dt->(A I).has (zK w j)=dt->(A I).has (zE w j)=dt)/\((A i).has (zK w j)=ed->(A I).has (zE w j)=dt->(A I).has (zK w j)=ed):=λI U d=>by
  have y:=i5.mp<|hk i hi;have B:=i5.mp<|hk I U;have a1:i<=I:=Nat.not_lt.mp λz=>d<|tz I z;rcases Nat.lt_or_eq_of_le a1 with a1 | a1
  ·obtain⟨u,x⟩:=H I a1 U
   have O:=i5.mp O;cases hw:w j with
   | false=>
    have b:zE w j=j:=by unfold zE;rw[hw];rfl
    have e:zK w j=j+1:=by unfold zK;rw[hw];rfl
    rw[b]at O;rw[b,e];refine⟨λ_ q=>i5.mpr ?_,λq _=>?_⟩
    ·have q:=i5.mp q
     refine⟨Nat.not_lt.mp λz=>?_,by omega⟩;have f:(A I).s=j+1:=by omega
     have:=u ⋯;rw[f]at this;simp[hw]at this
    ·exfalso
     have:(A i).has (j+1)=dt:=i5.mpr ⋯;rw[this]at q;cases q
   | true=>
    have b:zE w j=j+1:=by unfold zE;rw[hw];rfl
    have e:zK w j=j:=by unfold zK;rw[hw];rfl
    rw[b]at O;rw[b,e];refine⟨λ_ q=>i5.mpr ?_,λq _=>?_⟩
    ·have q:=i5.mp q
     omega
    ·cases a:(A I).has j with
     | false=>rfl
     | true=>
      exfalso;have a:=i5.mp a;have f:(A i).s=j+1:=by
       have : ¬((A i).s<=j):=λz=>by have:(A i).has j=dt:=i5.mpr ⋯;rw[this]at q;cases q
       omega
      have:=x ⋯;rw[f]at this;simp[hw]at this
  ·subst a1
   exact⟨λ_ _=>O,λq _=>q⟩
 have m:zf (λI=>t I*(if (A I).has (zE w j)=dt then app (T j) (wd<|zE w j) ((A I).v (zE w j)) c else 0)) N%p
  = zf (λI=>if (A i).has (zK w j)=dt then (if (A I).has (zK w j)=dt then t I*(A I).v (zK w j) c else 0)else 0) N%p:=zI λI U=>by
  by_cases d:t I=0
  ·simp[d]
  obtain⟨n,o⟩:=g I U d;cases a:(A i).has (zK w j)with
  | false=>
   cases hy:(A I).has (zE w j)with
   | false=>simp
   | true=>
    have q:=(C I U).arr j l hy c h;rw[o a hy]at q;simp only[if_true];rw[Lc,q];simp
  | true=>
   cases hy:(A I).has (zE w j)with
   | false=>
    cases hz:(A I).has (zK w j)with
    | false=>simp
    | true=>rw[n a hz]at hy;cases hy
   | true=>
    have q:=(C I U).arr j l hy c h;simp only[if_true];rw[Lc,q,<- Lc];congr 1;cases hz:(A I).has (zK w j)<;>simp
 rw[m];cases a:(A i).has (zK w j)with
 | false=>simp[zO]
 | true=>
  simp only[if_true];unfold n3;rw[LF]
theorem mn{G':Vc->Prop}{r n:Nat}{A':Nat->e9}(t:Nat->Vc)(C : ∀i,i<N->t i i=1)(hz : ∀i c,i<N->c<i->t i c=0)
 (H : ∀i,i<N->(A i).has r=dt->Span p n G' ((A' i).v r)) (J : ∀i,i<N->(A i).has r=dt->∀c,c<n->(A' i).v r c%p=n3 p A N (t i) r c%p) :
 ∀i,i<N->(A i).has r=dt->Span p n G' ((A i).v r):=by
 have f : ∀d i,N - i<=d->i<N->(A i).has r=dt->Span p n G' ((A i).v r):=by
  intro d
  induction d with
  | zero=>intro i e a;omega
  | succ d x=>
   intro i e a U;have w:Span p n G' λc=>zf (λj=>(if j=i then 0 else if (A j).has r=dt then t i j else 0)*(A j).v r c) N:=by
    have gen : ∀M,M<=N->Span p n G' λc=>zf (λj=>(if j=i then 0 else if (A j).has r=dt then t i j else 0)*(A j).v r c) M:=by
     intro M
     induction M with
     | zero=>intro _;exact .zero λc _=>by simp[zf]
     | succ M h=>
      intro y;have q:=h ⋯;by_cases I:M=i\/¬((A M).has r=dt)\/M<i
      ·refine q.congr λc _=>?_
       show(zf _ M+_)%p=_;rcases I with I | I | I
       ·simp[I]
       ·simp[I]
       ·have z:=hz i M a I;simp only[z];simp
      ·have l:M≠i/\(A M).has r=dt/\¬M<i:=by
        refine⟨λz=>I<|.inl z,?_,λz=>I<|.inr<|.inr z⟩;cases O:(A M).has r with
        | true=>rfl
        | false=>exact absurd (.inr<|.inl<|by rw[O];decide) I
       exact((x M ⋯ ⋯ l.2.1).add q (if M=i then 0 else if (A M).has r=dt then t i M else 0)).congr λc _=>rfl
    exact gen N<|Le _
   have s:=w.add (H i a U) (-1);refine s.congr λc I=>?_;have m:zf (λj=>if (A j).has r=dt then t i j*(A j).v r c else 0) N=(A i).v r c+zf (λj=>(if j=i then 0 else if (A j).has r=dt then t i j else 0)*(A j).v r c) N:=by
    have o:(A i).v r c=zf (λj=>if j=i then (A i).v r c else 0) N:=by rw[zM a λk _ u=>by simp[u]];simp
    rw[o,<- jt];refine zu λj B=>?_;by_cases g:j=i
    ·subst g;simp[U,C j a]
    ·simp only[EQ g]
     by_cases O:(A j).has r=dt
     ·simp[O]
     ·simp[O]
   have b:=J i a U c I;unfold n3 at b;rw[LF,m]at b;rw[LZ,b,<- LZ];congr 1;omega
 exact λi e a=>f N i ⋯ e a
end
section
variable{p:Int}{n m N h r r2 q:Nat}{B B2 K:Nat->Vc}{l l2 lK:RZ}{M f:RK}
theorem K0(I:Span p n (el m U) v) : ∃t:Vc,∀i,i<n->v i%p=zf (λj=>t j*U j i) m%p:=by
 induction I with
 | zero h=>exact⟨λ_=>0,λi a=>by rw[h i a];simp[zO]⟩
 | @step v w g c O s b r=>
  obtain⟨t,o⟩:=r;obtain⟨k,l,rfl⟩:=O;refine⟨λj=>t j+if j=k then c else 0,λi a=>?_⟩;rw[b i a,LZ,o i a,<- LZ];congr 1;have e:zf (λj=>(t j+if j=k then c else 0)*U j i) m=zf (λj=>t j*U j i) m+zf (λj=>(if j=k then c else 0)*U j i) m:=by rw[<- jt];exact zu λj _=>Pk ..
  rw[e,zM (f:=λj=>(if j=k then c else 0)*U j i) l λj _ d=>by simp[d]];simp
theorem xl(a b:Nat->Int)(n:Nat):zf (λj=>a j*b j) n=zf (λj=>b j*a j) n:=zu λj _=>Ml ..
theorem B9:Span p h (el N λj i=>M i j) u ↔ ∃x:Vc,∀i,i<h->u i%p=app M N x i%p:=by
 constructor
 ·intro q
  obtain⟨t,I⟩:=K0 q;exact⟨t,λi a=>by rw[I i a];unfold app;rw[xl]⟩
 ·rintro⟨x,O⟩
  refine(Span.sum (u:=λj i=>M i j) x (m:=N) λj U=> .gen ⟨j,U,rfl⟩).congr λi a=>?_;rw[O i a];unfold app;rw[xl]
theorem YH(n:Nat)(v:Vc):Span p n (el n jI) v:=by refine(Span.sum (u:=jI) v (m:=n) λj I=> .gen ⟨j,I,rfl⟩).congr λi a=>?_;rw[zM (f:=λk=>v k*jI k i) a λk _ O=>by simp[jI,O]];simp[jI]
theorem vP(I:Pr p)(C:N<=8)(hs : ∀v:Vc,∃t,∀i,i<N->v i%p=app f N t i%p)(U : ∀i,i<N->app f N t i%p=0) : ∀j,j<N->t j%p=0:=by
 obtain⟨q,K,l,s,_,n,O,g,m⟩:=yI I (h:=N) (w:=N) ⋯ ⋯ f;have a:Rk p N N (λj i=>f i j) N:=⟨jI,id,XA I N,λv=>⟨λ_=>B9.mpr<|hs v,λ_=>YH N v⟩⟩;have:=yW I g a;have e:q=0:=by omega
 subst e;have:=(O t).mpr λi d=>by have:=U i d;unfold app at this;exact this
 cases this with
 | zero h=>exact h
 | step b _ _=>obtain⟨k,O,_⟩:=b;omega
noncomputable def QJ(r:Nat)(B:Nat->Vc)(l:RZ)(t:Vc):Vc:=λi=>t i - zf (λj=>t (l j)*B j i) r
theorem Xd(O:g5 p N r B l)(t:Vc)(I:j<r):QJ r B l t (l j)=0:=by unfold QJ;rw[zM (f:=λU=>t (l U)*B U (l j)) I λk b a=>by rw[O.oe k j b I (LC a)];simp];rw[O.one j I];omega
theorem WS(t:Vc):Span p N (el r B) λi=>zf (λj=>t (l j)*B j i) r:=Span.sum (u:=B) (λj=>t<|l j) λj I=> .gen ⟨j,I,rfl⟩
theorem sV(I:g5 p N r B l)(h:Span p N (el r B) t)(hz : ∀j,j<r->t (l j)%p=0) : ∀i,i<N->t i%p=0:=λi a=>by
 rw[Zv I h i a];have e:zf (λk=>t (l k)*B k i) r%p=zf (λ_=>0) r%p:=zI λk O=>by rw[Lc,hz k O];simp
 rw[e,zO];simp
theorem V5(I:Pr p)(O:g5 p N r B l)(hi:i<N)(hn : ∀j,j<r->l j≠i) : ¬Span p N (el r B) (jI i):=λh=>by have:=sV O h (λj U=>by unfold jI;rw[EQ (LC<|hn j U)];simp) i hi;unfold jI at this;rw[RY rfl,I.one]at this;omega
theorem J1(g:RK)(w:Nat)(u v:Vc)(i:Nat):app g w (λj=>u j - v j) i=app g w u i - app g w v i:=by
 have e:app g w u i=app g w (λj=>u j - v j) i+app g w v i:=by unfold app;rw[<- jt];exact zu λj _=>by dsimp only;rw[<- NG];congr 1;omega
 omega
noncomputable def Vl(M f:RK)(N:Nat):Nat->Nat->Int:=λi j=>zf (λk=>M i k*f k j) N
theorem Ji(t:Vc)(i:Nat):app (Vl M f N) N t i=app M N (app f N t) i:=by
 unfold app Vl;have e:zf (λj=>zf (λk=>M i k*f k j) N*t j) N=zf (λj=>zf (λk=>M i k*(f k j*t j)) N) N:=zu λj _=>by rw[<- qB];exact zu λk _=>ME ..
 rw[e,qc];exact zu λk _=>jd ..
theorem uU(H:Pr p)(hN:N<=8)(hh:h<=8)(hs : ∀v:Vc,∃t,∀i,i<N->v i%p=app f N t i%p)(J:g5 p N r B l)(C : ∀t,Span p N (el r B) t↔t5 p h N M (app f N t))
 (L:g5 p h r2 B2 l2) (Y : ∀v,Span p h (el r2 B2) v↔Span p h (el N λj i=>M i j) v) :
 (∀j,j<r->∀i,i<h->app M N (app f N<|B j) i%p=0)/\(∀c,c<N->(∀j,j<r->l j≠c)->∃i,i<h/\app M N (λa=>f a c) i%p≠0)/\r+r2=N/\
   ∀U:Vc->Prop,(∀c,c<N->(∀j,j<r->l j≠c)->Span p h U (app M N λa=>f a c))->(∀c,c<h->(∀j,j<r2->l2 j≠c)->Span p h U (jI c))->∀v,Span p h U v:=by
 have k : ∀t:Vc,t5 p h N M (app f N t) ↔ ∀i,i<h->app M N (app f N t) i%p=0:=λt=>Iff.rfl;have s : ∀(c:Nat),c<N->∀i,app M N (λa=>f a c) i%p=app M N (app f N<|jI c) i%p:=λc I i=>jK (λa _=>by rw[wU f I]) i;refine⟨λj O=>(k _).mp ((C<|B j).mp (.gen ⟨j,O,rfl⟩)),λc I T=>?_,?_,λU Q R v=>?_⟩
 ·refine Mx λz=>V5 H J I T ((C _).mpr ((k _).mpr λi b=>?_))
  rw[<- s c I i];exact Mx λy=>z ⟨i,b,y⟩
 ·obtain⟨q',K',l',s',_,A,o,E,b8⟩:=yI H (h:=h) (w:=N) ⋯ ⋯ (Vl M f N)
  have e1:q'=r:=(JZ H A J (λv m=>(C v).mpr λi b=>by
   have:=(o v).mp m i b;rw[show zf (λj=>Vl M f N i j*v j) N=app (Vl M f N) N v i from rfl,Ji]at this;exact this) λv m=>(o v).mpr λi b=>by
   have:=(C v).mp m i b;rw[show zf (λj=>Vl M f N i j*v j) N=app (Vl M f N) N v i from rfl,Ji];exact this).1
  have e2:s'=r2:=by
   refine yW H E ⟨B2,l2,L,λv=>(Y v).trans ⟨λz=>?_,λz=>?_⟩⟩
   ·obtain⟨x,n⟩:=B9.mp z
    obtain⟨t,d⟩:=hs x;refine B9.mpr ⟨t,λi b=>?_⟩;rw[n i b,Ji];exact jK d i
   ·obtain⟨t,d⟩:=B9.mp z
    exact B9.mpr ⟨app f N t,λi b=>by rw[d i b,Ji]⟩
  omega
 ·
  have Z : ∀t:Vc,Span p h U (app M N<|app f N t):=λt=>by
   have X:=(k _).mp ((C _).mp (WS (p:=p) (N:=N) (B:=B) (r:=r) (l:=l) t));have e : ∀i,i<h->app M N (app f N t) i%p=app M N (app f N<|QJ r B l t) i%p:=λi b=>by
    have G:app M N (app f N<|QJ r B l t) i=app M N (app f N t) i - app M N (app f N λi=>zf (λj=>t (l j)*B j i) r) i:=by rw[<- J1];congr 1;funext a;exact J1 ..
    rw[G,MU,X i b];simp
   refine Span.congr ?_ e;have P : ∀i,app M N (app f N<|QJ r B l t) i=zf (λc=>QJ r B l t c*app M N (λa=>f a c) i) N:=λi=>by rw[<- yE];congr 1;funext a;unfold app;exact xl ..
   have s1 : ∀K,K<=N->Span p h U λi=>zf (λc=>QJ r B l t c*app M N (λa=>f a c) i) K:=by
    intro K
    induction K with
    | zero=>intro _;exact .zero λi _=>by simp[zf]
    | succ K g=>
     intro S;by_cases I : ∃j,j<r/\l j=K
     ·obtain⟨j,O,rfl⟩:=I
      refine(g ⋯).congr λi _=>?_;show(zf _ (l j)+_)%p=_;have z:=Xd J t O;simp only[z];simp
     ·exact((Q K ⋯ λj O z=>I ⟨j,O,z⟩).add (g ⋯) _).congr λi _=>rfl
   exact(s1 N<|Le _).congr λi _=>by rw[P]
  have F : ∀u,Span p h (el r2 B2) u->Span p h U u:=λu W=>by obtain⟨x,n⟩:=B9.mp<|(Y u).mp W;obtain⟨t,d⟩:=hs x;exact(Z t).congr λi b=>by rw[n i b];exact jK d i
  have s2 : ∀K,K<=h->Span p h U λi=>zf (λc=>QJ r2 B2 l2 v c*jI c i) K:=by
   intro K
   induction K with
   | zero=>intro _;exact .zero λi _=>by simp[zf]
   | succ K g=>
    intro S;by_cases I : ∃j,j<r2/\l2 j=K
    ·obtain⟨j,O,rfl⟩:=I
     refine(g ⋯).congr λi _=>?_;show(zf _ (l2 j)+_)%p=_;have z:=Xd L v O;simp only[z];simp
    ·exact((R K ⋯ λj O z=>I ⟨j,O,z⟩).add (g ⋯) _).congr λi _=>rfl
  refine((F _<|WS (B:=B2) (r:=r2) (l:=l2) v).add (s2 h<|Le _) 1).congr λi b=>?_;congr 1;rw[zM (f:=λc=>QJ r2 B2 l2 v c*jI c i) b λc _ I=>by simp[jI,I]];simp only[jI,if_true,QJ];omega
theorem uV(O:Pr p)(hN:N<=8)(hh:h<=8)(hs : ∀v:Vc,∃t,∀i,i<N->v i%p=app f N t i%p)(J:g5 p N r B l)(L : ∀t,Span p N (el r B) t↔Span p N (el h λj i=>M i j) (app f N t))
 (Y : ∀v,Span p h (el q K) v↔t5 p N h M v) (Z:Rk p N h (λj i=>M i j) s) (bi:q+s=h) :
 (∀j,j<r->∃y:Vc,∀i,i<N->app M h y i%p=app f N (B j) i%p)/\(∀c,c<N->(∀j,j<r->l j≠c)->¬∃y:Vc,∀i,i<N->app M h y i%p=f i c%p)/\r+q=h/\
   ∀(H:Vc->Prop) (x:Nat->Vc),(∀j,j<r->Span p h H (x j)/\∀i,i<N->app M h (x j) i%p=app f N (B j) i%p)->(∀j,j<q->Span p h H (K j))->∀v,Span p h H v:=by
 have w : ∀t,Span p N (el r B) t ↔ ∃y:Vc,∀i,i<N->app f N t i%p=app M h y i%p:=λt=>(L t).trans B9;have inj : ∀{t:Vc},(∀i,i<N->app f N t i%p=0)->∀j,j<N->t j%p=0:=λd=>vP O hN hs d;refine⟨λj I=>?_,λc hc hn z=>?_,?_,λH x T h2 v=>?_⟩
 ·obtain⟨y,o⟩:=(w<|B j).mp (.gen ⟨j,I,rfl⟩)
  exact⟨y,λi b=>(o i b).symm⟩
 ·obtain⟨y,o⟩:=z
  exact V5 O J hc hn<|(w _).mpr ⟨y,λi b=>by rw[wU f hc,o i b]⟩
 ·have R:s<=8/\r<=8:=by
   obtain⟨F,bl,b0⟩:=rJ O (n:=N) (m:=h) ⋯ hh λj i=>M i j;refine⟨by rw[yW O Z b0];omega,?_⟩;have : ∀E,E<=r->E<=N:=by
    intro E;have mono : ∀k,k<r->k<=l k:=by
     intro k
     induction k with
     | zero=>intro _;omega
     | succ k ih=>intro Y;have:=ih ⋯;have:=J.mono k (k+1) ⋯ Y;omega
    intro bm;cases E with
    | zero=>omega
    | succ S=>have:=mono S ⋯;have:=J.lt S ⋯;omega
   have:=this r<|Le _;omega
  have bn:s<=r:=by
   obtain⟨F,a1,G⟩:=rJ O (n:=N) (m:=r) ⋯ R.2 λj=>app f N<|B j;have e:s=F:=by
    obtain⟨C,lC,Q,A⟩:=Z;refine yW O (m:=h) (W:=λj i=>M i j) ⟨C,lC,Q,A⟩ ?_;obtain⟨C',b8,b9,bb⟩:=G;refine⟨C',b8,b9,λv=>(bb v).trans ⟨λz=>?_,λz=>?_⟩⟩
    ·exact z.le λg U=>by obtain⟨j,I,rfl⟩:=U;exact(L<|B j).mp (.gen ⟨j,I,rfl⟩)
    ·obtain⟨y,o⟩:=B9.mp z
     obtain⟨t,d⟩:=hs v;have P:Span p N (el r B) t:=(w t).mpr ⟨y,λi b=>by rw[<- d i b,o i b]⟩;refine(Span.sum (u:=λj=>app f N<|B j) (λj=>t<|l j) (m:=r) λj I=> .gen ⟨j,I,rfl⟩).congr λi b=>?_;rw[d i b,<- yE];exact jK (λj I=>Zv J P j I) i
   omega
  have br:r<=s:=by
   obtain⟨C,lC,Q,A⟩:=Z;have ex : ∀j,∃t:Vc,∀i,i<N->C j i%p=app f N t i%p:=λj=>hs<|C j;have g:Nat->Vc:=λj=>Classical.choose<|ex j;have U : ∃g:Nat->Vc,∀j i,i<N->C j i%p=app f N (g j) i%p:=⟨λj=>Classical.choose<|ex j,λj=>Classical.choose_spec<|ex j⟩;obtain⟨g,U⟩:=U;obtain⟨F,a1,G⟩:=rJ O (n:=N) (m:=s) ⋯ R.1 g;have e:r=F:=by
    refine yW O (m:=s) (W:=g) ⟨B,l,J,λv=>⟨λz=>?_,λz=>?_⟩⟩ G
    ·have hv:=(A _).mpr ((L v).mp z)
     refine(Span.sum (u:=g) (λj=>app f N v<|lC j) (m:=s) λj I=> .gen ⟨j,I,rfl⟩).congr λi b=>?_;have z0 : ∀a,a<N->app f N (λi=>v i - zf (λj=>app f N v (lC j)*g j i) s) a%p=0:=λa X=>by
      rw[J1,yE,MU,Zv Q hv a X];have e:zf (λk=>app f N v (lC k)*C k a) s%p=zf (λk=>app f N v (lC k)*app f N (g k) a) s%p:=zI λk _=>by rw[Lc,U k a X,<- Lc]
      rw[e];simp
     have:=inj z0 i b;have q2:=Nv;exact(Nv _<|PC p).symm.trans (by
      rw[LF];have:(v i - zf (λj=>app f N v (lC j)*g j i) s)%p=0:=this;exact Mq.mpr this)
    ·refine z.le λu hu=>?_
     obtain⟨j,I,rfl⟩:=hu;refine(L _).mpr (((A<|C j).mp (.gen ⟨j,I,rfl⟩)).congr λi b=>(U j i b).symm)
   omega
  omega
 ·obtain⟨t,d⟩:=hs (app M h v)
  have P:Span p N (el r B) t:=(w t).mpr ⟨v,λi b=>(d i b).symm⟩;have hx:Span p h H λc=>zf (λj=>t (l j)*x j c) r:=Span.sum (u:=x) (λj=>t<|l j) λj I=>(T j I).1;have hd:Span p h H λc=>v c - zf (λj=>t (l j)*x j c) r:=by
   refine((Y _).mpr λi b=>?_).le λg U=>by obtain⟨j,I,rfl⟩:=U;exact h2 j I
   show app M h (λc=>v c - zf (λj=>t (l j)*x j c) r) i%p=0;rw[J1,yE,MU];have e:zf (λj=>t (l j)*app M h (x j) i) r%p=app M h v i%p:=by rw[d i b,jK (λj I=>Zv J P j I) i,yE];exact zI λj I=>by rw[Lc,(T j I).2 i b,<- Lc]
   rw[e];simp
  refine(hx.add hd 1).congr λc _=>?_;congr 1;omega
end
structure B3(p:Int)(w:RX)(wd:RZ)(T:RV)(k:Nat)(mm:List e9):Prop where
 ok : ∀b,b∈mm->m5 p w wd T k b
 sp : ∀r,r<=k->∀v,Span p (wd r) (HE mm r) v
 ct : ∀r,r<=k->mm.countP (λb=>b.has r)=wd r
 od:(mm.filter λb=>b.has k).Pairwise (Ord w)
noncomputable def l5(r:Nat)(l:RZ)(i:Nat):Option Nat:=(IS r).find? λj=>l j==i
theorem xQ(h:l5 r l i=bQ j):j<r/\l j=i:=by have a:=List.find?_some h;have b:=List.mem_of_find?_eq_some h;exact⟨IV.mp b,by simpa using a⟩
theorem ZY(h:l5 r l i=none) : ∀j,j<r->l j≠i:=λj I=>by have:=List.find?_eq_none.mp h j<|IV.mpr I;simpa using this
noncomputable def hX(p:Int)(A:Nat->e9)(N r:Nat)(B:Nat->Vc)(l:RZ)(i:Nat):e9:=match l5 r l i with
 | some j=>D1 p A N (B j) i
 | none=>A i
noncomputable def j1(k:Nat)(b:e9):Option Vc->e9
 | none=>b
 | some y=>⟨b.s,b.n+1,λr=>if r=k+1 then y else b.v r⟩
def o8(k:Nat)(y:Vc):e9:=⟨k+1,1,λ_=>y⟩
noncomputable def D5(r:Nat)(B:Nat->Vc)(l:RZ)(i:Nat):Vc:=match l5 r l i with
 | some j=>B j
 | none=>jI i
theorem cL(p A N r B l i):(hX p A N r B l i).s=(A i).s:=by unfold hX;split<;>rfl
theorem uW(p A N r B l i):(hX p A N r B l i).n=(A i).n:=by unfold hX;split<;>rfl
theorem Vg(p A N r B l i rm):(hX p A N r B l i).has rm=(A i).has rm:=by unfold e9.has;rw[cL,uW]
theorem Zo:(o8 k y).has r=decide (r=k+1):=by
 unfold o8 e9.has;by_cases h:r=k+1
 ·simp[h]
 ·simp[h];intro;omega
section
variable{p:Int}{w:RX}{wd:RZ}{T:RV}{k N r:Nat}{A:Nat->e9}{B:Nat->Vc}{l:RZ}
theorem nO(I:g5 p N r B l)(hi:i<N):D5 r B l i i=1/\∀c,c<i->D5 r B l i c=0:=by
 unfold D5;cases hj:l5 r l i with
 | some j=>
  obtain⟨a,b⟩:=xQ hj;subst b;exact⟨I.one j a,λc O=>I.i9 j c a O⟩
 | none=>exact⟨by simp[jI],λc O=>by simp only[jI];rw[EQ ⋯]⟩
theorem pS(hi:i<N)(O:(A i).has rm=dt):(hX p A N r B l i).v rm c%p=n3 p A N (D5 r B l i) rm c%p:=by
 unfold hX D5;cases I:l5 r l i with
 | some j=>rfl
 | none=>
  show(A i).v rm c%p=_;unfold n3;rw[LF];congr 1;rw[zM (f:=λj=>if (A j).has rm=dt then jI i j*(A j).v rm c else 0) hi λj _ I=>by unfold jI;rw[EQ (LC I)];simp];simp[jI,O]
theorem nQ(O:0<p)(U:g5 p N r B l)(I : ∀j,j<N->m5 p w wd T k (A j))(H : ∀j,j<N->(A j).has k=dt)(C : ∀i c,i<c->c<N->Ord w (A i) (A c))(hi:i<N):m5 p w wd T k (hX p A N r B l i):=by
 unfold hX;split
 ·next j e=>
  obtain⟨a,b⟩:=xQ e;subst b;exact BA O I H hi (λc a b=>C _ c a b) λc d=>U.i9 j c a d
 ·exact I i hi
theorem Xl(I:rm<=k)(O:b.s+b.n=k+1):(j1 k b o).has rm=b.has rm/\(j1 k b o).v rm=b.v rm:=by
 cases o with
 | none=>exact⟨rfl,rfl⟩
 | some y=>
  refine⟨?_,by simp only[j1];rw[EQ ⋯]⟩;unfold j1 e9.has;simp only;congr 1;exact decide_eq_decide.mpr ⋯
theorem VD(I:b.s+b.n=k+1):(j1 k b o).has (k+1)=o.isSome:=by
 cases o with
 | none=>unfold j1 e9.has;simp;omega
 | some y=>unfold j1 e9.has;simp;omega
theorem tw(k b o):(j1 k b o).s=b.s:=by cases o<;>rfl
theorem Cb(Z:0<p)(O:b.s+b.n=k+1)(C:m5 p w wd T k b)(Y : ∀y,o=bQ y->∀c,c<wd (k+1)->0<=y c/\y c<p)
 (H:o=none->w k=ed->∀c,c<wd (k+1)->app (T k) (wd k) (b.v k) c%p=0) (J : ∀y,o=bQ y->w k=ed->∀c,c<wd (k+1)->app (T k) (wd k) (b.v k) c%p=y c%p)
 (L : ∀y,o=bQ y->w k=dt->∀c,c<wd k->app (T k) (wd<|k+1) y c%p=b.v k c%p):m5 p w wd T (k+1) (j1 k b o):=by
 have A:=C.n1;refine⟨?_,?_,λU c l I=>?_,λj B g c I=>?_⟩
 ·cases o with
  | none=>exact C.n1
  | some y=>show 1<=b.n+1;omega
 ·cases o with
  | none=>show b.s+b.n<=k+1+1;omega
  | some y=>show b.s+(b.n+1)<=k+1+1;omega
 ·by_cases t:U<=k
  ·obtain⟨d,a⟩:=Xl (o:=o) t O
   rw[d]at l;rw[a];exact C.ji U c l I
  ·have m:=i5.mp l
   cases o with
   | none=>exact absurd m.2 (by show ¬(U<b.s+b.n);omega)
   | some y=>
    have:U=k+1:=by have:U<b.s+(b.n+1):=m.2;omega
    subst this;have e:(j1 k b<|some y).v (k+1)=y:=by simp[j1]
    rw[e];exact Y y rfl c I
 ·by_cases i:j<k
  ·have g1:zE w j<=k:=by unfold zE;split<;>omega
   have g2:zK w j<=k:=by unfold zK;split<;>omega
   obtain⟨d,a⟩:=Xl (o:=o) g1 O;obtain⟨x,z⟩:=Xl (o:=o) g2 O;rw[d]at g;rw[a,x,z];exact C.arr j i g c I
  ·have i:j=k:=by omega
   subst i;obtain⟨d,a⟩:=Xl (o:=o) (Le j) O;have r:=VD (k:=j) (o:=o) O;have u:b.has j=dt:=i5.mpr ⋯;cases hw:w j with
   | false=>
    have h:zE w j=j:=by unfold zE;rw[hw];rfl
    have f:zK w j=j+1:=by unfold zK;rw[hw];rfl
    rw[f]at I;rw[h,f,a,r];cases o with
    | none=>rw[H rfl hw c I];simp
    | some y=>rw[J y rfl hw c I];simp[j1]
   | true=>
    have h:zE w j=j+1:=by unfold zE;rw[hw];rfl
    have f:zK w j=j:=by unfold zK;rw[hw];rfl
    rw[f]at I;rw[h,r]at g;rw[h,f,d,a,u];cases o with
    | none=>cases g
    | some y=>
     have e:(j1 j b<|some y).v (j+1)=y:=by simp[j1]
     rw[e,L y rfl hw c I];simp
theorem By(H : ∀c,c<wd (k+1)->0<=y c/\y c<p)(C:w k=dt->∀c,c<wd k->app (T k) (wd<|k+1) y c%p=0):m5 p w wd T (k+1) (o8 k y):=by
 refine⟨Le _,by show k+1+1<=k+1+1;omega,λg c U I=>?_,λj f O c I=>?_⟩
 ·rw[Zo]at U
  have:=of_decide_eq_true U;subst this;exact H c I
 ·rw[Zo]at O
  have O:=of_decide_eq_true O;cases hw:w j with
  | false=>
   have a:zE w j=j:=by unfold zE;rw[hw];rfl
   omega
  | true=>
   have a:zE w j=j+1:=by unfold zE;rw[hw];rfl
   have b:zK w j=j:=by unfold zK;rw[hw];rfl
   have d:j=k:=by omega
   subst d;rw[b]at I;have e:(o8 j y).has (zK w j)=ed:=by rw[Zo,b];simp
   rw[e,a];show app (T j) (wd<|j+1) y c%p=_;rw[C hw c I];simp
noncomputable def vE(p:Int)(k:Nat)(w:RX)(C:List e9)(A:Nat->e9)(N r:Nat)(B:Nat->Vc)(l:RZ)(nx:Nat->Option Vc)(I:List Vc):List e9:=
 (C.filter λb=> !b.has k)++(if w k then (IS N).map (λi=>j1 k (hX p A N r B l i)<|nx i)++I.map (o8 k)else I.map (o8 k)++(IS N).map λi=>j1 k (hX p A N r B l i)<|nx i)
theorem fK(p0:0<p)(I:B3 p w wd T k mm)(hN:(mm.filter λb=>b.has k).length=N)(H : ∀j,A j=(mm.filter λb=>b.has k).getD j gY)(O:g5 p N r B l)
 (c1 : ∀i y,i<N->nx i=bQ y->∀c,c<wd (k+1)->0<=y c/\y c<p) (c2 : ∀y,y∈news->∀c,c<wd (k+1)->0<=y c/\y c<p)
   (d0 : ∀i,i<N->nx i=none->w k=ed->∀c,c<wd (k+1)->app (T k) (wd k) ((hX p A N r B l i).v k) c%p=0)
   (d1 : ∀i y,i<N->nx i=bQ y->w k=ed->∀c,c<wd (k+1)->app (T k) (wd k) ((hX p A N r B l i).v k) c%p=y c%p)
   (d2 : ∀i y,i<N->nx i=bQ y->w k=dt->∀c,c<wd k->app (T k) (wd<|k+1) y c%p=(hX p A N r B l i).v k c%p)
   (d3 : ∀y,y∈news->w k=dt->∀c,c<wd k->app (T k) (wd<|k+1) y c%p=0)
   (s1 : ∀v,Span p (wd<|k+1) (λg=>(∃i,i<N/\nx i=bQ g)\/g∈news) v) (n1:(IS N).countP (λi=>(nx i).isSome)+news.length=wd (k+1)) :
   B3 p w wd T (k+1) (vE p k w mm A N r B l nx news):=by
  have G : ∀j,j<N->A j∈mm/\(A j).has k=dt:=λj E=>by
   have:A j∈mm.filter λb=>b.has k:=by rw[H j,IZ,IX ⋯];exact My _
   have:=Lx.mp this;exact⟨this.1,by simpa using this.2⟩
  have X : ∀j,j<N->m5 p w wd T k (A j):=λj E=>I.ok _ (G j E).1;have Z : ∀i c,i<c->c<N->Ord w (A i) (A c):=λi c m u=>by have:=Nn.mp I.od i c ⋯ ⋯ m;rw[H i,H c,IZ,IX ⋯,IZ,IX ⋯];exact this
  have i6 : ∀i,i<N->m5 p w wd T k (hX p A N r B l i):=λi d=>nQ p0 O X (λj E=>(G j E).2) Z d;have a2 : ∀i,i<N->(hX p A N r B l i).s+(hX p A N r B l i).n=k+1:=λi d=>by rw[cL,uW];have m:=i5.mp (G i d).2;have u:=(X i d).le;omega
  have J : ∀b,b∈mm->b.has k=ed->b.s+b.n<=k:=λb O S=>by have m:=(I.ok b O).le;have u:=(I.ok b O).n1;refine Nat.not_lt.mp λz=>?_;have:b.has k=dt:=i5.mpr ⋯;rw[this]at S;cases S
  have x : ∀b,b∈vE p k w mm A N r B l nx news↔(b∈mm/\b.has k=ed)\/(∃i,i<N/\b=j1 k (hX p A N r B l i) (nx i))\/∃y,y∈news/\b=o8 k y:=λb=>by
   unfold vE;rw[Ob,Lx];refine or_congr ⋯ ?_;cases w k<;>simp only[Mg,if_false,if_true,Ob,LK,IV]
   ·constructor
    ·rintro(⟨y,m,u⟩ | ⟨i,m,u⟩)
     ·exact .inr ⟨y,m,u.symm⟩
     ·exact .inl ⟨i,m,u.symm⟩
    ·rintro(⟨i,m,u⟩ | ⟨y,m,u⟩)
     ·exact .inr ⟨i,m,u.symm⟩
     ·exact .inl ⟨y,m,u.symm⟩
   ·constructor
    ·rintro(⟨i,m,u⟩ | ⟨y,m,u⟩)
     ·exact .inl ⟨i,m,u.symm⟩
     ·exact .inr ⟨y,m,u.symm⟩
    ·rintro(⟨i,m,u⟩ | ⟨y,m,u⟩)
     ·exact .inl ⟨i,m,u.symm⟩
     ·exact .inr ⟨y,m,u.symm⟩
  have cnt : ∀P:e9->Bool,(vE p k w mm A N r B l nx news).countP P=(mm.filter λb=> !b.has k).countP P+(IS N).countP (λi=>P<|j1 k (hX p A N r B l i)<|nx i)+(news.map<|o8 k).countP P:=λP=>by
   unfold vE;rw[List.countP_append];cases w k<;>simp only[Mg,if_false,if_true,List.countP_append,ON (f:=λi=>j1 k (hX p A N r B l i)<|nx i)]
   ·rw[OH,Ro (List.countP P<|List.map (o8 k) news)];rfl
   ·rw[OH];rfl
  refine⟨λb bd=>?_,λU hr v=>?_,λU hr=>?_,?_⟩
  ·rcases (x b).mp bd with⟨m,u⟩ | ⟨i,d,rfl⟩ | ⟨y,hy,rfl⟩
   ·have S:=J b m u
    have W:=I.ok b m;refine⟨W.n1,by omega,W.ji,λj E Y c Q=>?_⟩;have bl:=i5.mp Y;refine W.arr j ?_ Y c Q;have:zE w j>=j:=by unfold zE;split<;>omega
    omega
   ·exact Cb p0 (a2 i d) (i6 i d) (λy e=>c1 i y d e) (λe=>d0 i d e) (λy e=>d1 i y d e) λy e=>d2 i y d e
   ·exact By (c2 y hy)<|d3 y hy
  ·by_cases C:U<=k
   ·refine(I.sp U C v).le λg hg=>?_
    obtain⟨b,m,u,rfl⟩:=hg;cases SW:b.has k with
    | false=>exact .gen ⟨b,(x b).mpr (.inl ⟨m,SW⟩),u,rfl⟩
    | true=>
     have bf:b∈mm.filter λb=>b.has k:=Lx.mpr ⟨m,by simpa using SW⟩;obtain⟨i,d,e⟩:=OK bf;have ei:A i=b:=by rw[H i,IZ,IX d];exact e
     rw[<- ei]at u ⊢;refine mn (A:=A) (A':=λi=>hX p A N r B l i) (t:=λi=>D5 r B l i) (λi d=>(nO O d).1) (λi c d Q=>(nO O d).2 c Q) (λi d R=>?_) (λi d R c _=>pS d R) i ⋯ u;obtain⟨x1,x2⟩:=Xl (o:=nx i) C<|a2 i d;exact .gen ⟨_,(x _).mpr (.inr<|.inl ⟨i,d,rfl⟩),by rw[x1,Vg];exact R,by rw[x2]⟩
   ·have:U=k+1:=by omega
    subst this;refine(s1 v).le λg hg=>?_;rcases hg with⟨i,d,e⟩ | hg
    ·refine .gen ⟨_,(x _).mpr (.inr<|.inl ⟨i,d,rfl⟩),?_,?_⟩
     ·rw[VD (a2 i d),e];rfl
     ·rw[e];simp[j1]
    ·exact .gen ⟨_,(x _).mpr (.inr<|.inr ⟨g,hg,rfl⟩),by rw[Zo];simp,rfl⟩
  ·rw[cnt]
   by_cases C:U<=k
   ·have L:(news.map<|o8 k).countP (λb=>b.has U)=0:=OO.mpr λb O=>by
     obtain⟨y,_,rfl⟩:=LK.mp O;rw[Zo];simp;omega
    have M:(IS N).countP (λi=>(j1 k (hX p A N r B l i)<|nx i).has U)=(mm.filter λb=>b.has k).countP λb=>b.has U:=by
     have:(mm.filter λb=>b.has k)=(IS N).map A:=by rw[<- jg gY (mm.filter λb=>b.has k),hN];exact Ll λj _=>(H j).symm
     rw[this,ON];refine MR λi d=>?_;have d:=IV.mp d;rw[(Xl (o:=nx i) C<|a2 i d).1,Vg];rfl
    rw[L,M,<- I.ct U C,List.countP_eq_countP_filter_add mm (λb=>b.has U) λb=>b.has k];omega
   ·have:U=k+1:=by omega
    subst this;have K:(mm.filter λb=> !b.has k).countP (λb=>b.has<|k+1)=0:=OO.mpr λb O=>by obtain⟨m,u⟩:=Lx.mp O;have:=J b m (by simpa using u);intro z;have:=i5.mp z;omega
    have L:(news.map<|o8 k).countP (λb=>b.has<|k+1)=news.length:=by rw[List.countP_eq_length.mpr λb O=>?_,Ly];obtain⟨y,_,rfl⟩:=LK.mp O;rw[Zo];simp
    have M:(IS N).countP (λi=>(j1 k (hX p A N r B l i)<|nx i).has (k+1))=(IS N).countP λi=>(nx i).isSome:=MR λi d=>by rw[VD (a2 i<|IV.mp d)]
    rw[K,L,M];omega
  ·have K:((mm.filter λb=> !b.has k).filter λb=>b.has<|k+1)=[]:=List.filter_eq_nil_iff.mpr λb O=>by
    obtain⟨m,u⟩:=Lx.mp O;have:=J b m (by simpa using u);intro z;have:=i5.mp z;omega
   have pO:((IS N).map λi=>j1 k (hX p A N r B l i)<|nx i).Pairwise (Ord w):=by rw[Oo];refine OD (λ{a b} F O h=>?_)<|Om (n:=N);have:=Z a b h<|IV.mp O;unfold Ord;rw[tw,tw,cL,cL];exact this
   have pN:(news.map<|o8 k).Pairwise (Ord w):=by
    rw[Oo];refine Nn.mpr λ_ _ _ _ _=>⟨λz=>?_,λz=>?_⟩
    ·exact absurd z<|Mi<|k+1
    ·exact absurd z<|Mi<|k+1
   have so : ∀b,b∈(IS N).map (λi=>j1 k (hX p A N r B l i)<|nx i)->b.s<=k:=λb O=>by obtain⟨i,d,rfl⟩:=LK.mp O;have d:=IV.mp d;rw[tw,cL];exact(i5.mp (G i d).2).1
   have sn : ∀b,b∈news.map (o8 k)->b.s=k+1:=λb O=>by obtain⟨y,_,rfl⟩:=LK.mp O;rfl
   unfold vE;rw[Od,K,Pq];refine Pd _ ?_;cases hw:w k with
   | false=>
    simp only[Mg,if_false];refine List.pairwise_append.mpr ⟨pN,pO,λa F b O=>?_⟩;have m:=sn a F;have u:=so b O;exact⟨λz=>by omega,λ_=>by rw[m];exact hw⟩
   | true=>
    simp only[if_true];refine List.pairwise_append.mpr ⟨pO,pN,λa F b O=>?_⟩;have m:=sn b O;have u:=so a F;exact⟨λ_=>by rw[m];exact hw,λz=>by omega⟩
end
theorem Xu(I:Pr p)(O:h<=100)(C:w<=lim)(f:RK) :
 ∃r B l,J7 [.int p,jJ h w f]=bQ (.own<|zX r h B)/\g5 p h r B l/\∀v,Span p h (el r B) v↔Span p h (el w λj i=>f i j) v:=by
 obtain⟨r,B,l,e,U,a⟩:=xq I O C .T λj i=>f i j;have b:=jm;refine⟨r,B,l,?_,U,a⟩;simp only[p9]at e;have o:=kD f (show h<=lim by omega) C;unfold jJ at o ⊢;simp[J7,jn,z7,o,e]
theorem YJ(P:Nat->Ctx->Prop) : ∀(ds es:List D) (k:Nat) (γ:Ctx),P k γ->(∀i d γ,ds[i]? = bQ d->P (k+i) γ->∃γ',(x9 T d γ).bind F=bQ (.next γ')/\P (k+i+1) γ')->
 ∃γ',P (k+ds.length) γ'/\xX T F (ds++es) γ=xX T F es γ'
 | [],es,k,γ,h,_=>⟨γ,h,rfl⟩
 | d::ds,es,k,γ,h,step=>by
  obtain⟨a,e,g⟩:=step 0 d γ rfl h;obtain⟨γ',j,f⟩:=YJ P ds es (k+1) a (by simpa using g) (λi b I l O=>by have:=step (i+1) b I (by simpa using l) (by rw[show k+(i+1)=k+1+i by omega];exact O);rw[show k+(i+1)+1=k+1+i+1 by omega]at this;exact this)
  refine⟨γ',by rw[show k+(d::ds).length=k+1+ds.length by simp;omega];exact j,?_⟩;rw[Rp,jW];cases eb:x9 T d γ with
  | none=>rw[eb]at e;simp at e
  | some U=>
   rw[eb]at e;simp only[IY]at e ⊢;rw[e];exact f
theorem W1(n:Nat)(v:Vc):k4 (zA n v)=(IS n).map λ(i:Nat)=>D.tup [.int i,.int (v i)]:=by unfold k4;rw[vq];refine Ll λi a=>?_;have:=IV.mp a;simp[zA,this]
theorem vg(J:n<=lim)(v:Vc)(H:a<n)(I : ∀i,i<a->v i=0)(C:v a≠0):xE [.tup (zA n v)]=bQ (.val<|.int a):=by
 have d:zQ (.tp [0,1]) (sB<|zH h9 (zc 1)<|zv<|.int 0) (zc 0) [Cell.no,Cell.no] ((IS n).map λ(i:Nat)=>D.tup [.int i,.int (v i)])=bQ (((IS n).filter λi=> !decide (v i=0)).map λ(i:Nat)=>D.int i):=by refine jy _ _ _ λi g=>⟨_,rfl,?_,λ_=>rfl⟩;simp
 cases hf:(IS n).filter λi=> !decide (v i=0)with
 | nil=>exact absurd (by have:=eI hf a H;simpa using this) C
 | cons b kn=>
  obtain⟨f,O,U⟩:=YM hf;have e:b=a:=by
   rcases L1 a b with z | z | z
   ·exact absurd (by have:=U a z;simpa using this) C
   ·exact z.symm
   ·exact absurd (I b z) (by simpa using O)
  subst e;rw[hf]at d;simp[xE,jn,z7,W1,J,z6,La,d]
theorem bM(J:a<n)(v I:Vc)(x:Int)(C:I a=x)(H : ∀i,i<n->i≠a->I i=v i):(zA n v).set a (.int x)=zA n I:=by
 apply MW;intro i;rw[Nt];by_cases b:i<n
 ·by_cases e:a=i
  ·subst e;simp[J,zA,C]
  ·have:=H i b (LC e)
   simp[e,zA,b,this]
 ·have O:(zA n v)[i]? = none:=by simp[zA];omega
  have d:(zA n I)[i]? = none:=by simp[zA];omega
  rw[O,d,EQ ⋯]
noncomputable def VV(w:Nat)(B:Nat->Vc)(l:RZ)(r:Nat):Vc:=λj=>zf (λk=>if l k=j then B k w else 0) r
noncomputable def yd:=(zN (jo 6<|zC xE<|za (zc 5) zD)<|zN (h7 (sB<|zH iQ (zc 6)<|zc 3) (jM<|zv .e7) jZ)<|Wm 4 (zc 6)<|dy (ze 5)<|zc 3)
section
variable{p:Int}{h w r:Nat}
theorem WK{l:RZ}(C : ∀k m,k<m->m<r->l k<l m){k m:Nat}(I:k<r)(O:m<r)(e:l k=l m):k=m:=by
 rcases L1 k m with z | z | z
 ·have:=C k m z O;omega
 ·exact z
 ·have:=C m k z I;omega
noncomputable def aug(w:Nat)(f:RK)(b:Vc):Nat->Vc:=λi j=>if j<w then f i j else b i
theorem aH(L:w+1<=lim)(U:g5 p (w+1) r B l)(hs:s<=r)(Y : ∀k,k<s->l k<w)(es:List D)(J I O:Cell) :
 ∃C H,xX (.nm 5) yd (zX s (w+1) B++es) [J,I,O,.val<|.int w,.own<|zA w λ_=>0,.no,.no]=xX (.nm 5) yd es [J,I,O,.val<|.int w,.own<|zA w<|VV w B l s,C,H]:=by
 obtain⟨G,⟨C,H,rfl⟩,e⟩:=YJ (T:= .nm 5) (F:=yd) (λt u=>∃C H,u=[J,I,O,.val<|.int w,.own<|zA w<|VV w B l t,C,H]) (zX s (w+1) B) es 0 [J,I,O,.val<|.int w,.own<|zA w λ_=>0,.no,.no]
  ⟨.no,.no,by rw[kR (f:=VV w B l 0) (g:=λ_=>0) λi _=>rfl]⟩ (by
   rintro k d u h ⟨C,H,rfl⟩;rw[LV];have o:k<s:=by have:=(Lh.mp h).1;simpa using this
   have x:d = .tup (zA (w+1)<|B k):=by simp[o]at h;exact h.symm
   subst x;have a:k<r:=by omega
   have j:=Y k o;have le:=vg L (B k) (show l k<w+1 by omega) (λi n=>U.i9 k i a n) (by rw[U.one k a];decide);refine⟨_,?_,.val<|.tup<|zA (w+1)<|B k,.val<|.int<|l k,rfl⟩;have b : ¬((l k:Int)=(w:Int)):=by omega
   have y : ¬l k=w:=by omega
   have E:w<w+1:=by omega
   have z:=bM j (VV w B l k) (VV w B l<|k+1) (B k w) (by
    unfold VV;simp only[zf,if_true];rw[zu (g:=λ_=>0) λm A=>by rw[EQ λe=>by have:=U.mono m k A a;omega],zO]
    omega) (λi n b=>by
    unfold VV;simp only[zf];rw[EQ (LC b)];omega)
   simp[yd,jE,le,b,y,j,E,z])
 rw[mY]at e;refine⟨C,H,?_⟩;rw[e];rw[LV]
theorem ue(w:Nat)(f:RK)(b:Vc)(i:Nat):zA w (f i)++[.int (b i)]=zA (w+1) (aug w f b i):=by
 unfold zA;rw[MM,Mr];congr 1
 ·exact Ll λj I=>by simp[aug,IV.mp I]
 ·simp[aug]
theorem J4(H:Pr p)(Y:h<=90)(Z:w<=90)(f:RK)(b:Vc) :
 ∃r B l s,g5 p (w+1) r B l/\(∀v,Span p (w+1) (el r B) v↔Span p (w+1) (el h<|aug w f b) v)/\s<=r/\(∀k,k<s->l k<w)/\(∀k,s<=k->k<r->w<=l k)/\
  wX [.int p,jJ h w f,.tup (zA h b)]=bQ (.val<|if s<r then .e7 else .tup (zA w<|VV w B l s)):=by
 have W:=jm;have U:h<=lim:=by omega
 have n:w<=lim:=by omega
 have O:w+1<=lim:=by omega
 obtain⟨r,B,l,e,I,o⟩:=xq H (show w+1<=100 by omega) U .L<|aug w f b;obtain⟨s,j,m,g⟩:=wa w I.mono;refine⟨r,B,l,s,I,o,j,m,g,?_⟩;have a:zQ (.tp [0,1]) jj (zH qa (zc 0)<|qQ<|za (zc 1) zD) [Cell.no,Cell.no] ((IS h).map λi=>D.tup [.tup (zA w<|f i),.int (b i)])=bQ (zX h (w+1)<|aug w f b):=by unfold zX;refine zx _ _ λi F=>zy rfl rfl ?_;simp[qa,O,ue]
 have M:vZ (zX h w f) (zA h b)=(IS h).map λi=>D.tup [.tup (zA w<|f i),.int (b i)]:=by unfold vZ zX zA;rw[OF];simp
 have t:La w (D.int 0)=zA w λ_=>0:=by rw[dc];rfl
 have A:((w+1:Nat):Int)=(w:Int)+1:=by omega
 simp only[p9]at e;rw[A]at e;obtain⟨d,E⟩ : ∃d,r=s+d:=⟨r - s,by omega⟩;have J:zX r (w+1) B=zX s (w+1) B++zX d (w+1) λk=>B (s+k):=by unfold zX;rw[E,Ot,Mr,LG];rfl
 obtain⟨N,P,G⟩:=aH O I j m (zX d (w+1) λk=>B<|s+k) (.val<|.int p) (.val<|jJ h w f)<|.val<|.tup<|zA h b;have K:je (jJ h w f)=bQ (.T,[.int h,.int w,.tup (zX h w f)]):=rfl;have C:wX=jn 7 (zN (jo 3<|dy (ze 1)<|zv<|.int 1)<|zN (xf 4<|Ac (jL<|qm<|za (zv<|.int 0) zD)<|zc 3)<|zN (xU (zF<|zw<|jA<|ja q8<|za (zc 0)<|za (zH qa (zc 3)<|zv<|.int 1)<|za (jA<|zP (aK (dy (ze 1)<|zv<|.int 2)<|zc 2) (.tp [0,1]) 2 [] jj (zH qa (zc 0)<|qQ<|za (zc 1) zD)) zD) (.nm 5) yd)<|jM<|zZ<|ze 4):=rfl;rw[C];simp[jn,z7,jE,K,n,M,U,z6,La,a,e];rw[t,J,G];by_cases z:s<r
 ·
  have u:d=1:=by
   rcases Lu 1 d with q | q
   ·have Q:=I.mono s (s+1) ⋯ ⋯
    have R:=g s (Le _) z;have S:=I.lt (s+1) ⋯;omega
   ·omega
  subst u;have x:l s=w:=by have:=g s (Le _) z;have:=I.lt s z;omega
  have le:=vg O (B s) (show w<w+1 by omega) (λi F=>I.i9 s i z ⋯) (by have:=I.one s z;rw[x]at this;rw[this];decide);have one:zX 1 (w+1) (λk=>B<|s+k)=[.tup (zA (w+1)<|B s)]:=rfl;rw[one,jW];simp[yd,jE,le,z]
 ·have y:d=0:=by omega
  subst y;have zero:zX 0 (w+1) (λk=>B<|s+k)=[]:=rfl;rw[zero];simp[xX,z]
end
theorem uj(γ:Ctx)(i g):QC i g γ=(qL γ[i]?).bind λds=>(g γ).bind λa=>match a.1 with
 | .T=>if ds.length+a.2.length<=lim then bQ (.next<|γ.set i<|.own<|ds++a.2)else none
 | .L=>none:=rfl
noncomputable def off(hs ws:RZ):Nat->Nat
 | 0=>0
 | k+1=>off hs ws k+hs k*ws k
noncomputable def my(hs ws:RZ)(T:RV):Nat->Nat->Int
 | 0,_=>0
 | k+1,x=>if x<off hs ws k then my hs ws T k x else T k ((x - off hs ws k)/ws k) ((x - off hs ws k)%ws k)
noncomputable def fh(n:Nat)(hs ws:RZ)(T:RV):List D:=(IS n).map λk=>jJ (hs k) (ws k)<|T k
noncomputable def ij(n:Nat)(hs ws:RZ):List D:=(IS n).map λk=>D.tup [.int (hs k:Nat),.int (ws k:Nat)]
section
variable{hs ws:RZ}{T:RV}
theorem ZW{a b:Nat}(h:a<=b):off hs ws a<=off hs ws b:=by
 induction b with
 | zero=>
  obtain rfl:a=0:=by omega
  exact Le _
 | succ b I=>
  by_cases e:a=b+1
  ·subst e;exact Le _
  ·have:=I ⋯
   show _<=off hs ws b+hs b*ws b;omega
theorem tP{h w i j:Nat}(hi:i<h)(I:j<w):i*w+j<h*w:=by have:(i+1)*w<=h*w:=OE w hi;rw[OW]at this;omega
theorem bU{n k i j:Nat}(O:k<n)(hi:i<hs k)(I:j<ws k):off hs ws k+i*ws k+j<off hs ws n:=by have a:=ZW (hs:=hs) (ws:=ws) (show k+1<=n by omega);have b:=tP hi I;have:off hs ws (k+1)=off hs ws k+hs k*ws k:=rfl;omega
theorem oQ{w i j:Nat}(I:j<w):(i*w+j)/w=i/\(i*w+j)%w=j:=by
 have a:0<w:=by omega
 constructor
 ·rw[Ro,Nat.add_mul_div_right _ _ a,Ru I,LV]
 ·rw[Ro,Nat.add_mul_mod_self_right,Rt I]
theorem ZA{k i j:Nat}(hi:i<hs k)(I:j<ws k) : ∀n,k<n->my hs ws T n (off hs ws k+i*ws k+j)=T k i j
 | 0,h=>by omega
 | n+1,h=>by
  unfold my;by_cases e:k=n
  ·subst e
   rw[EQ ⋯];have:off hs ws k+i*ws k+j - off hs ws k=i*ws k+j:=by omega
   rw[this,(oQ I).1,(oQ I).2]
  ·have:=bU (hs:=hs) (ws:=ws) (show k<n by omega) hi I
   rw[RY this];exact ZA hi I n ⋯
theorem lG : ∀(n x:Nat),x<off hs ws n->∃k i j,k<n/\i<hs k/\j<ws k/\x=off hs ws k+i*ws k+j
 | 0,x,h=>by simp[off]at h
 | n+1,x,h=>by
  by_cases e:x<off hs ws n
  ·obtain⟨k,i,j,d,a,I,O⟩:=lG n x e
   exact⟨k,i,j,by omega,a,I,O⟩
  ·have h:x<off hs ws n+hs n*ws n:=h
   have b:0<ws n:=by apply Nat.pos_of_ne_zero;intro z;rw[z,Nat.mul_zero]at h;omega
   refine⟨n,(x - off hs ws n)/ws n,(x - off hs ws n)%ws n,by omega,Nat.div_lt_of_lt_mul ?_,Nat.mod_lt _ b,?_⟩
   ·rw[Nw];omega
   ·have:=Nat.div_add_mod (x - off hs ws n) (ws n)
    rw[Nw]at this;omega
theorem mX{a b:Nat}{f g h:Nat->Int}(C : ∀x,x<a->h x=f x)(H : ∀x,x<b->h (a+x)=g x):zA a f++zA b g=zA (a+b) h:=by
 unfold zA;rw[Ot,Mr,LG];congr 1
 ·exact Ll λx I=>by rw[C x (IV.mp I)]
 ·exact Ll λx I=>by simp only[PH];rw[H x (IV.mp I)]
theorem ko(n f):(zA n f).length=n:=by simp[zA]
theorem XE(n hs ws T):(fh n hs ws T).length=n:=by simp[fh]
theorem pR(n hs ws):(ij n hs ws).length=n:=by simp[ij]
theorem cG{n k:Nat}(h:k<n):(fh n hs ws T)[k]? = bQ (jJ (hs k) (ws k)<|T k):=by unfold fh;simp[h]
theorem cn(U C:Cell)(w:Nat)(f:RK)(a:Nat)(g G:Nat->Int)(J : ∀x,x<a->G x=g x)(h:Nat)(H : ∀i j,i<h->j<w->G (a+i*w+j)=f i j)(hz:a+h*w<=2000)(I:Cell) :
 ∃O,xX (.nm 3) (QC 1<|ze 3) (zX h w f) [U,.own<|zA a g,C,I]=bQ (.next [U,.own<|zA (a+h*w) G,C,O]):=by
 have p:=jm;have d : ∀(k s:Nat) (I:Cell),s+k=h->∃O,xX (.nm 3) (QC 1<|ze 3) ((Nx s k).map λi=>D.tup<|zA w<|f i) [U,.own<|zA (a+s*w) G,C,I]=bQ (.next [U,.own<|zA (a+h*w) G,C,O]):=by
  intro k
  induction k with
  | zero=>
   intro s I e;obtain rfl:s=h:=by omega
   exact⟨I,rfl⟩
  | succ k m=>
   intro s I e;obtain⟨O,q⟩:=m (s+1) (.val<|.tup<|zA w<|f s) ⋯;refine⟨O,?_⟩;rw[<- q,Nz,Mc,jW];have n:(s+1)*w<=h*w:=OE w ⋯;have o:(s+1)*w=s*w+w:=OW s w;have le:a+s*w+w<=lim:=by omega
   have l:zA (a+s*w) G++zA w (f s)=zA (a+(s+1)*w) G:=by rw[show a+(s+1)*w=a+s*w+w by omega];exact mX (λx _=>rfl) λx b=>H s x ⋯ b
   simp only[wR,IY,Mb,Ma,uj,j7,Ld,Lg,qL,zY,jD,ko,le,if_true,l]
 obtain⟨O,q⟩:=d h 0 I ⋯;refine⟨O,?_⟩;rw[<- Nd,Nat.zero_mul,Oy]at q;rw[kR (f:=g) (g:=G) λx b=>(J x b).symm];exact q
theorem au{n:Nat}(hz:off hs ws n<=2000):vd [.lst (fh n hs ws T)]=bQ (.val<|.tup<|zA (off hs ws n)<|my hs ws T n):=by
 have l:f7 3 2=bQ 2:=rfl;have b : ∀(k s:Nat) (a I:Cell),s+k=n->∃O U,xX (.nm 2) (xU (zF<|zw<|dy (ze 2)<|zv<|.int 2) (.nm 3)<|QC 1<|ze 3) ((Nx s k).map λk=>jJ (hs k) (ws k)<|T k) [.val (.lst<|fh n hs ws T),.own<|zA (off hs ws s)<|my hs ws T s,a,I]=bQ (.next [.val (.lst<|fh n hs ws T),.own<|zA (off hs ws n)<|my hs ws T n,O,U]):=by
  intro k
  induction k with
  | zero=>
   intro s a I e;obtain rfl:s=n:=by omega
   exact⟨a,I,rfl⟩
  | succ k m=>
   intro s a I e;have u:=ZW (hs:=hs) (ws:=ws) (show s+1<=n by omega);obtain⟨d,r⟩:=cn (.val<|.lst<|fh n hs ws T) (.val<|jJ (hs s) (ws s)<|T s) (ws s) (T s) (off hs ws s) (my hs ws T s) (my hs ws T<|s+1) (λx h=>by show(if x<off hs ws s then _ else _)=_;rw[RY h]) (hs s) (λi j f g=>ZA f g (s+1) ⋯) (by
    have:off hs ws (s+1)=off hs ws s+hs s*ws s:=rfl;omega) I
   obtain⟨O,U,q⟩:=m (s+1) (.val<|jJ (hs s) (ws s)<|T s) d ⋯;refine⟨O,U,?_⟩;rw[<- q,Nz,Mc,jW];have t:=Ve (hs s) (ws s)<|T s;simp only[wR,IY,Mb,Ma,kT,q9,qG,xN,j7,yh,Ld,Lg,LM,Mh,LV,MN,zY,Lm,t,qg,l,jD,r];rfl
 obtain⟨O,U,q⟩:=b n 0 .no .no ⋯;rw[<- Nd]at q;have o:(xf 1<|qm zD) (z7 4 [.lst (fh n hs ws T)])=bQ (.next [.val (.lst<|fh n hs ws T),.own<|zA (off hs ws 0)<|my hs ws T 0,.no,.no]):=rfl;have p:(xU (zF<|zw<|zc 0) (.nm 2)<|xU (zF<|zw<|dy (ze 2)<|zv<|.int 2) (.nm 3)<|QC 1<|ze 3) [.val (.lst<|fh n hs ws T),.own<|zA (off hs ws 0)<|my hs ws T 0,.no,.no]=bQ (.next [.val (.lst<|fh n hs ws T),.own<|zA (off hs ws n)<|my hs ws T n,O,U]):=by rw[kT];simp only[q9,qG,qU,Ld,zW,IY,j4,Lm];exact q
 exact jb<|zk o<|zk p rfl
theorem tJ{n a b:Nat}(u:Nat->Int)(C:a<=b)(H:b<=n):cg (zA n u) (bQ (a:Int)) (bQ (b:Int))=zA (b - a) λx=>u (a+x):=by unfold zA;exact gh (λx=>D.int<|u x) C H
noncomputable def Sw:=(zN (jo 6<|jA<|zP (zR<|zc 4) (.nm 0) 1 [1,3,5] jj (K7 (zc 1) (nf<|zH qa (zc 2)<|zH kG (zc 0)<|zc 3)<|nf<|zH qa (zc 2)<|zH kG (zH qa (zc 0)<|zv<|.int 1)<|zc 3))<|zN (jV 2<|qQ<|za (zc 4)<|za (zc 5)<|za (zZ<|ze 6) zD)<|jo 3<|zH qa (zc 3)<|zH kG (zc 4)<|zc 5)
noncomputable def x6(hs ws:RZ)(u:Nat->Int)(k i j:Nat):Int:=u<|off hs ws k+i*ws k+j
theorem ZC{n:Nat}(Z:n<=100)(J : ∀k,hs k<=100)(L : ∀k,ws k<=100)(u:Nat->Int){N:Nat}(H:N=off hs ws n):qt [.lst (ij n hs ws),.tup (zA N u)]=bQ (.own<|fh n hs ws<|x6 hs ws u):=by
 have Y:=jm;subst H;have l : ∀(k s:Nat) (I f d:Cell),s+k=n->∃O U g,xX (.tp [4,5]) Sw ((Nx s k).map λk=>D.tup [.int (hs k:Nat),.int (ws k:Nat)]) [.val (.lst<|ij n hs ws),.val<|.tup<|zA (off hs ws n) u,.own<|fh s hs ws<|x6 hs ws u,.val<|.int (off hs ws s:Nat),I,f,d]=bQ (.next [.val (.lst<|ij n hs ws),.val<|.tup<|zA (off hs ws n) u,.own<|fh n hs ws<|x6 hs ws u,.val<|.int (off hs ws n:Nat),O,U,g]):=by
  intro k
  induction k with
  | zero=>
   intro s I f d e;obtain rfl:s=n:=by omega
   exact⟨I,f,d,rfl⟩
  | succ k K=>
   intro s I f d e;obtain⟨O,U,g,q⟩:=K (s+1) (.val<|.int (hs s:Nat)) (.val<|.int (ws s:Nat)) (.val<|.lst<|zX (hs s) (ws s)<|x6 hs ws u s) ⋯;refine⟨O,U,g,?_⟩;rw[<- q,Nz,Mc,jW];have S:=J s;have h:=L s;have T:=ZW (hs:=hs) (ws:=ws) (show s+1<=n by omega);have F:off hs ws (s+1)=off hs ws s+hs s*ws s:=rfl;have r : ∀x y:Nat,y<=100->JY (x:Int) (y:Int)=dt:=λx y G=>Xq _ _ ⋯ ⋯;have t : ∀x y:Nat,y<=100->JY ((x:Int)+1) (y:Int)=dt:=λx y G=>Xq _ _ ⋯ ⋯;have E:x9 (.tp [4,5]) (.tup [.int (hs s:Nat),.int (ws s:Nat)]) [.val (.lst<|ij n hs ws),.val<|.tup<|zA (off hs ws n) u,.own<|fh s hs ws<|x6 hs ws u,.val<|.int (off hs ws s:Nat),I,f,d]=bQ [.val (.lst<|ij n hs ws),.val<|.tup<|zA (off hs ws n) u,.own<|fh s hs ws<|x6 hs ws u,.val<|.int (off hs ws s:Nat),.val<|.int (hs s:Nat),.val<|.int (ws s:Nat),d]:=rfl;have M:zQ (.nm 0) jj (K7 (zc 1) (nf<|zH qa (zc 2)<|zH kG (zc 0)<|zc 3)<|nf<|zH qa (zc 2)<|zH kG (zH qa (zc 0)<|zv<|.int 1)<|zc 3) [Cell.no,.val<|.tup<|zA (off hs ws n) u,.val<|.int (off hs ws s:Nat),.val (.int (ws s:Nat))] ((IS<|hs s).map λi:Nat=>D.int (i:Int))=bQ (zX (hs s) (ws s)<|x6 hs ws u s):=by
    unfold zX;refine zx _ _ λi j=>zy rfl rfl ?_;have j:=IV.mp j;have W:(i+1)*ws s<=hs s*ws s:=OE _ j;have X:(i+1)*ws s=i*ws s+ws s:=OW i<|ws s;have A:=tJ (n:=off hs ws n) (a:=off hs ws s+i*ws s) (b:=off hs ws s+(i+1)*ws s) u ⋯ ⋯;have B:(off hs ws s:Int)+(i:Int)*(ws s:Int)=((off hs ws s+i*ws s:Nat):Int):=by rw[PB,OQ]
    have C:(off hs ws s:Int)+((i:Int)+1)*(ws s:Int)=((off hs ws s+(i+1)*ws s:Nat):Int):=by rw[PB,OQ];rfl
    show K7 _ _ _ [Cell.val (.int (i:Int)),.val<|.tup<|zA (off hs ws n) u,.val<|.int (off hs ws s:Nat),.val (.int (ws s:Nat))]=_;simp only[Cn,qU,GH,yN,yh,Ld,Lg,zW,IY,W6,W5,r i (ws s) h,t i (ws s) h,if_true,qg,Lm,B,C,A];congr 2;rw[show off hs ws s+(i+1)*ws s - (off hs ws s+i*ws s)=ws s by omega];rfl
   have Q:inR (hs s:Int)=dt:=wG ⋯ ⋯;have w:hs s<=lim:=by omega
   have m:(jo 6<|jA<|zP (zR<|zc 4) (.nm 0) 1 [1,3,5] jj (K7 (zc 1) (nf<|zH qa (zc 2)<|zH kG (zc 0)<|zc 3)<|nf<|zH qa (zc 2)<|zH kG (zH qa (zc 0)<|zv<|.int 1)<|zc 3)) [.val (.lst<|ij n hs ws),.val<|.tup<|zA (off hs ws n) u,.own<|fh s hs ws<|x6 hs ws u,.val<|.int (off hs ws s:Nat),.val<|.int (hs s:Nat),.val<|.int (ws s:Nat),d]=bQ (.next [.val (.lst<|ij n hs ws),.val<|.tup<|zA (off hs ws n) u,.own<|fh s hs ws<|x6 hs ws u,.val<|.int (off hs ws s:Nat),.val<|.int (hs s:Nat),.val<|.int (ws s:Nat),.val (.lst<|zX (hs s) (ws s)<|x6 hs ws u s)]):=by rw[kc,xC,jG,yf,qU];simp only[Ld,Lg,zW,IY,qg,Q,if_true,Mt,jv,vq,w];rw[zV (hs s) λi=>(i:Int),show z6 1 [1,3,5] [.val (.lst<|ij n hs ws),.val<|.tup<|zA (off hs ws n) u,.own<|fh s hs ws<|x6 hs ws u,.val<|.int (off hs ws s:Nat),.val<|.int (hs s:Nat),.val<|.int (ws s:Nat),d]=[Cell.no,.val<|.tup<|zA (off hs ws n) u,.val<|.int (off hs ws s:Nat),.val (.int (ws s:Nat))]from rfl,M];rfl
   have z:s<lim:=by omega
   have P:3<=lim:=by omega
   have R:=XE s hs ws<|x6 hs ws u;have o:(jV 2<|qQ<|za (zc 4)<|za (zc 5)<|za (zZ<|ze 6) zD) [.val (.lst<|ij n hs ws),.val<|.tup<|zA (off hs ws n) u,.own<|fh s hs ws<|x6 hs ws u,.val<|.int (off hs ws s:Nat),.val<|.int (hs s:Nat),.val<|.int (ws s:Nat),.val (.lst<|zX (hs s) (ws s)<|x6 hs ws u s)]=bQ (.next [.val (.lst<|ij n hs ws),.val<|.tup<|zA (off hs ws n) u,.own<|fh (s+1) hs ws<|x6 hs ws u,.val<|.int (off hs ws s:Nat),.val<|.int (hs s:Nat),.val<|.int (ws s:Nat),.val (.lst<|zX (hs s) (ws s)<|x6 hs ws u s)]):=by rw[show fh (s+1) hs ws (x6 hs ws u)=fh s hs ws (x6 hs ws u)++[jJ (hs s) (ws s) (x6 hs ws u s)]from kL _ _];simp only[xD,Xs,z9,ke,qU,j7,Zx,Ld,Lg,zW,zY,qL,j4,IY,Lm,LM,Mh,LV,MN,P,if_true,R,z,Mb,Ma];rfl
   have p:(jo 3<|zH qa (zc 3)<|zH kG (zc 4)<|zc 5) [.val (.lst<|ij n hs ws),.val<|.tup<|zA (off hs ws n) u,.own<|fh (s+1) hs ws<|x6 hs ws u,.val<|.int (off hs ws s:Nat),.val<|.int (hs s:Nat),.val<|.int (ws s:Nat),.val (.lst<|zX (hs s) (ws s)<|x6 hs ws u s)]=bQ (.next [.val (.lst<|ij n hs ws),.val<|.tup<|zA (off hs ws n) u,.own<|fh (s+1) hs ws<|x6 hs ws u,.val<|.int (off hs ws (s+1):Nat),.val<|.int (hs s:Nat),.val<|.int (ws s:Nat),.val (.lst<|zX (hs s) (ws s)<|x6 hs ws u s)]):=by simp only[kc,yN,qU,Ld,Lg,zW,IY,W5,r (hs s) (ws s) h,if_true,W6,Lm,Mb,Ma];rw[F,PB,OQ]
   rw[E];simp only[IY];rw[show Sw _=_ from zk m (zk o p)];rfl
 obtain⟨I,f,d,q⟩:=l n 0 .no .no .no ⋯;rw[<- Nd]at q;have m:(xf 2<|qm zD) (z7 7 [.lst (ij n hs ws),.tup (zA (off hs ws n) u)])=bQ (.next [.val (.lst<|ij n hs ws),.val<|.tup<|zA (off hs ws n) u,.own<|fh 0 hs ws<|x6 hs ws u,.no,.no,.no,.no]):=rfl;have o:(jo 3<|zv<|.int 0) [.val (.lst<|ij n hs ws),.val<|.tup<|zA (off hs ws n) u,.own<|fh 0 hs ws<|x6 hs ws u,.no,.no,.no,.no]=bQ (.next [.val (.lst<|ij n hs ws),.val<|.tup<|zA (off hs ws n) u,.own<|fh 0 hs ws<|x6 hs ws u,.val<|.int (off hs ws 0:Nat),.no,.no,.no]):=rfl;have p:(xU (zF<|zw<|zc 0) (.tp [4,5]) Sw) [.val (.lst<|ij n hs ws),.val<|.tup<|zA (off hs ws n) u,.own<|fh 0 hs ws<|x6 hs ws u,.val<|.int (off hs ws 0:Nat),.no,.no,.no]=bQ (.next [.val (.lst<|ij n hs ws),.val<|.tup<|zA (off hs ws n) u,.own<|fh n hs ws<|x6 hs ws u,.val<|.int (off hs ws n:Nat),I,f,d]):=by rw[kT];simp only[q9,qG,qU,Ld,zW,IY,j4,Lm];exact q
 exact jb<|zk m<|zk o<|zk p rfl
theorem eD(hs ws:RZ) : ∀n,zf (λk=>(hs k:Int)*(ws k:Int)) n=(off hs ws n:Nat)
 | 0=>rfl
 | n+1=>by show zf _ n+_=((off hs ws n+hs n*ws n:Nat):Int);rw[eD hs ws n,PB,OQ]
theorem yv{n:Nat}(H:n<=100)(C : ∀k,ws k<=100):j5 [.lst (ij n hs ws)]=bQ (.val<|.int (off hs ws n:Nat)):=by
 have e:=jm;have I:n<=lim:=by omega
 have a:zQ (.tp [0,1]) jj (zH kG (zc 0)<|zc 1) [Cell.no,Cell.no] (ij n hs ws)=bQ (zA n λk=>(hs k:Int)*(ws k:Int)):=by unfold ij;rw[zV n λk=>(hs k:Int)*(ws k:Int)];refine zx _ _ λk d=>zy rfl rfl ?_;have O:JY (hs k:Int) (ws k:Int)=dt:=Xq _ _ ⋯ (by have:=C k;omega);show zH _ _ _ [Cell.val (.int (hs k:Nat)),Cell.val (.int (ws k:Nat))]=_;simp[O]
 have U:=yS (λk=>(hs k:Int)*(ws k:Int)) n;have b:=pR n hs ws;refine jb ?_;show((gZ _) [.val (.lst<|ij n hs ws)]).map _=_;simp only[Y4,yF,jG,q9,j7,Ld,zY,j4,Lm,IY,b,I,if_true];rw[show z6 2 [] [Cell.val (.lst<|ij n hs ws)]=[Cell.no,Cell.no]from rfl,a];simp only[Lm,IY,U,eD]
end
section
variable{p:Int}{m:Nat}{w:RX}{wd wd':RZ}{T T' S:RV}
noncomputable def oO(p:Int)(w:RX)(wd wd':RZ)(T T' S:RV)(k i j:Nat):Int:=
 (zf (λt=>T' k t j*S (zK w k) i t) (eK w wd' k)%p+(-1)*(zf (λt=>S (zE w k) t j*T k i t) (eX w wd k)%p))%p
theorem we(C:m<=4):xZ [jh p m w wd' T',jh p m w wd T]=bQ (.own<|ij (m+1) wd wd'):=by
 have U:=jm;have I:m+1<=lim:=by omega
 have O:=kv p m w wd T;have x1:=kv p m w wd' T';have a:f7 3 1=bQ 1:=rfl;have z:vZ (zA (m+1) λk=>(wd k:Int)) (zA (m+1) λk=>(wd' k:Int))=ij (m+1) wd wd':=vY (m+1) (λk=>(wd k:Int)) λk=>(wd' k:Int);refine jb ?_;show((cV _ _) [.val (jh p m w wd' T'),.val (jh p m w wd T)]).map _=_;simp only[nC,xN,j7,yh,Ld,Lg,LM,Mh,LV,MN,zY,IY,Lm,O,x1,qg,a,jD,ko,I,if_true,z]
theorem BD{h w:Nat}(f g:RK)(I:0<p)(O:h<=lim)(C:w<=lim):ao [.int p,jJ h w f,jJ h w g]=bQ (.val<|jJ h w λi j=>(f i j+(-1)*g i j)%p):=by have e:=ZR (-1) f g ⋯ ⋯ I O C;refine jb ?_;show((zC xG _) [.val (.int p),.val<|jJ h w f,.val (jJ h w g)]).map _=_;have U:rA (zv<|.int 1) [.val (.int p),.val<|jJ h w f,.val (jJ h w g)]=bQ (.int (-1)):=rfl;simp only[xj,z9,ke,qU,U,Ld,Lg,zW,IY,Lm,e,Ya]
theorem BX(O:0<p)(as:p<=100)(Y:m<=4)(C : ∀k,wd k<=9)(U : ∀k,wd' k<=9)(H : ∀k i j,0<=T' k i j/\T' k i j<p)(bS : ∀k i j,0<=S k i j/\S k i j<100){k:Nat}(I:k<m) :
 nK [jh p m w wd' T',jh p m w wd T,.lst<|fh (m+1) wd wd' S,.int (k:Int)]=bQ (.val<|jJ (eK w wd k) (eX w wd' k)<|oO p w wd wd' T T' S k):=by
 have P:=jm;have N:=kv p m w wd T;have x1:=kv p m w wd' T';have A:f7 3 0=bQ 0:=rfl;have a:f7 3 2=bQ 2:=rfl;have B:f7 2 0=bQ 0:=rfl;have f:f7 2 1=bQ 1:=rfl;have x:(xi m w wd T).length=m:=by simp[xi]
 have d:(xi m w wd' T').length=m:=by simp[xi]
 have u:(xi m w wd T)[k]? = bQ (vF w wd T k):=by unfold xi;simp[I]
 have e:(xi m w wd' T')[k]? = bQ (vF w wd' T' k):=by unfold xi;simp[I]
 have s:je (vF w wd T k)=bQ (.T,[.str (k6<|ix<|w k),jJ (eK w wd k) (eX w wd k) (T k)]):=rfl;have b:je (vF w wd' T' k)=bQ (.T,[.str (k6<|ix<|w k),jJ (eK w wd' k) (eX w wd' k) (T' k)]):=rfl;have g:=vQ (w:=w) I;have l:=vS (w:=w) I;have r:=XE (m+1) wd wd' S;have o:=cG (hs:=wd) (ws:=wd') (T:=S) g;have n:=cG (hs:=wd) (ws:=wd') (T:=S) l;rw[qD w wd,qD w wd']at o;rw[qH w wd,qH w wd']at n;have z:=aq w k;have y:=vH w k;have b1:eK w wd k<=lim:=by rw[<- qD];have:=C<|zK w k;omega
 have b2:eK w wd' k<=lim:=by rw[<- qD];have:=U<|zK w k;omega
 have b3:eX w wd k<=lim:=by rw[<- qH];have:=C<|zE w k;omega
 have b4:eX w wd' k<=lim:=by rw[<- qH];have:=U<|zE w k;omega
 have E:=ZG (h:=eK w wd k) (m:=eK w wd' k) (w:=eX w wd' k) (S<|zK w k) (T' k) O b1 b2 b4 λi j _ _=>by have:=H k i j;omega
 have F:=ZG (h:=eK w wd k) (m:=eX w wd k) (w:=eX w wd' k) (T k) (S<|zE w k) O b1 b3 b4 λi j _ _=>bS _ i j;have le:=BD (h:=eK w wd k) (w:=eX w wd' k) (λi j=>zf (λt=>T' k t j*S (zK w k) i t) (eK w wd' k)%p) (λi j=>zf (λt=>S (zE w k) t j*T k i t) (eX w wd k)%p) O b1 b4;have G:(jo 4<|dy (ze 0)<|zv<|.int 0) (z7 8 [jh p m w wd' T',jh p m w wd T,.lst<|fh (m+1) wd wd' S,.int (k:Int)])=bQ (.next [.val (jh p m w wd' T'),.val<|jh p m w wd T,.val<|.lst<|fh (m+1) wd wd' S,.val<|.int (k:Int),.val<|.int p,.no,.no,.no]):=by show(jo _ _) [.val (jh p m w wd' T'),.val<|jh p m w wd T,.val<|.lst<|fh (m+1) wd wd' S,.val<|.int (k:Int),.no,.no,.no,.no]=_;simp only[kc,xN,j7,yh,Ld,LM,Mh,LV,MN,zY,IY,Lm,x1,qg,A,Mb,Ma]
 have J:(jo 5<|dy (zw<|dy (zw<|dy (ze 0)<|zv<|.int 2)<|zc 3)<|zv<|.int 0) [.val (jh p m w wd' T'),.val<|jh p m w wd T,.val<|.lst<|fh (m+1) wd wd' S,.val<|.int (k:Int),.val<|.int p,.no,.no,.no]=bQ (.next [.val (jh p m w wd' T'),.val<|jh p m w wd T,.val<|.lst<|fh (m+1) wd wd' S,.val<|.int (k:Int),.val<|.int p,.val<|.str<|k6<|ix<|w k,.no,.no]):=by simp only[kc,xN,qG,j7,qU,yh,Ld,Lg,LM,Mh,LV,MN,zY,zW,IY,Lm,x1,qg,a,jD,d,jl,I,if_true,e,b,B,Mb,Ma]
 have K:(jo 6<|zC kC<|za (zc 4)<|za (dy (ze 2)<|zC kW<|za (zc 3)<|za (zc 5) zD)<|za (dy (zw<|dy (zw<|dy (ze 0)<|zv<|.int 2)<|zc 3)<|zv<|.int 1) zD) [.val (jh p m w wd' T'),.val<|jh p m w wd T,.val<|.lst<|fh (m+1) wd wd' S,.val<|.int (k:Int),.val<|.int p,.val<|.str<|k6<|ix<|w k,.no,.no]=bQ (.next [.val (jh p m w wd' T'),.val<|jh p m w wd T,.val<|.lst<|fh (m+1) wd wd' S,.val<|.int (k:Int),.val<|.int p,.val<|.str<|k6<|ix<|w k,.val<|jJ (eK w wd k) (eX w wd' k) λi j=>zf (λt=>T' k t j*S (zK w k) i t) (eK w wd' k)%p,.no]):=by simp only[kc,xj,z9,ke,xN,qG,j7,qU,yh,Ld,Lg,LM,Mh,LV,MN,zY,zW,IY,Lm,x1,qg,a,jD,j4,d,jl,I,g,if_true,e,b,f,z,Ya,r,o,E,Mb,Ma]
 have L:(jo 7<|zC kC<|za (zc 4)<|za (dy (zw<|dy (zw<|dy (ze 1)<|zv<|.int 2)<|zc 3)<|zv<|.int 1)<|za (dy (ze 2)<|zC jS<|za (zc 3)<|za (zc 5) zD) zD) [.val (jh p m w wd' T'),.val<|jh p m w wd T,.val<|.lst<|fh (m+1) wd wd' S,.val<|.int (k:Int),.val<|.int p,.val<|.str<|k6<|ix<|w k,.val<|jJ (eK w wd k) (eX w wd' k) λi j=>zf (λt=>T' k t j*S (zK w k) i t) (eK w wd' k)%p,.no]=bQ (.next [.val (jh p m w wd' T'),.val<|jh p m w wd T,.val<|.lst<|fh (m+1) wd wd' S,.val<|.int (k:Int),.val<|.int p,.val<|.str<|k6<|ix<|w k,.val<|jJ (eK w wd k) (eX w wd' k) λi j=>zf (λt=>T' k t j*S (zK w k) i t) (eK w wd' k)%p,.val (jJ (eK w wd k) (eX w wd' k) λi j=>zf (λt=>S (zE w k) t j*T k i t) (eX w wd k)%p)]):=by simp only[kc,xj,z9,ke,xN,qG,j7,qU,yh,Ld,Lg,LM,Mh,LV,MN,zY,zW,IY,Lm,N,qg,a,jD,j4,x,jl,I,l,if_true,u,s,f,y,Ya,r,n,F,Mb,Ma]
 have M:(jM<|zC ao<|za (zc 4)<|za (zc 6)<|za (zc 7) zD) [.val (jh p m w wd' T'),.val<|jh p m w wd T,.val<|.lst<|fh (m+1) wd wd' S,.val<|.int (k:Int),.val<|.int p,.val<|.str<|k6<|ix<|w k,.val<|jJ (eK w wd k) (eX w wd' k) λi j=>zf (λt=>T' k t j*S (zK w k) i t) (eK w wd' k)%p,.val (jJ (eK w wd k) (eX w wd' k) λi j=>zf (λt=>S (zE w k) t j*T k i t) (eX w wd k)%p)]=bQ (.ret<|.val<|jJ (eK w wd k) (eX w wd' k)<|oO p w wd wd' T T' S k):=by simp only[wV,xj,z9,ke,qU,Ld,Lg,zW,IY,Lm,le,Ya];rfl
 exact jb<|zk G<|zk J<|zk K<|zk L M
theorem td(I:0<p)(O:p<=100)(H:m<=4)(J : ∀k,wd k<=9)(U : ∀k,wd' k<=9)(C : ∀k i j,0<=T' k i j/\T' k i j<p)(bS : ∀k i j,0<=S k i j/\S k i j<100) :
 Y8 [jh p m w wd' T',jh p m w wd T,.lst (fh (m+1) wd wd' S)]=bQ (.own<|fh m (eK w wd) (eX w wd')<|oO p w wd wd' T T' S):=by
 have l:=jm;have a:m<=lim:=by omega
 have x1:=kv p m w wd' T';have e:f7 3 2=bQ 2:=rfl;have b:(xi m w wd' T').length=m:=by simp[xi]
 have h:inR (m:Int)=dt:=wG ⋯ ⋯;have f:zQ (.nm 0) jj (zC nK<|za (zc 1)<|za (zc 2)<|za (zc 3)<|za (zc 0) zD) [Cell.no,.val<|jh p m w wd' T',.val<|jh p m w wd T,.val (.lst<|fh (m+1) wd wd' S)] ((IS m).map λk:Nat=>D.int (k:Int))=bQ (fh m (eK w wd) (eX w wd')<|oO p w wd wd' T T' S):=by unfold fh;refine zx _ _ λk d=>zy rfl rfl ?_;have g:=BX (w:=w) (T:=T) (S:=S) I O H J U C bS<|IV.mp d;unfold fh at g;show zC _ _ [Cell.val (.int (k:Int)),.val<|jh p m w wd' T',.val<|jh p m w wd T,.val (.lst _)]=_;simp only[xj,z9,ke,qU,Ld,Lg,zW,IY,Lm,g,Ya]
 refine jb ?_;show((zP _ _ _ _ _ _) [.val (jh p m w wd' T'),.val<|jh p m w wd T,.val (.lst<|fh (m+1) wd wd' S)]).map _=_;simp only[jG,yf,oW,qG,xN,j7,yh,Ld,Lg,LM,Mh,LV,MN,zY,IY,Lm,x1,qg,e,jD,b,h,if_true,Mt,jv,ko,a];rw[zV m λi=>(i:Int),show z6 1 [0,1,2] [.val (jh p m w wd' T'),.val<|jh p m w wd T,.val (.lst<|fh (m+1) wd wd' S)]=[Cell.no,.val<|jh p m w wd' T',.val<|jh p m w wd T,.val (.lst<|fh (m+1) wd wd' S)]from rfl,f];rfl
def vI(c x:Nat):Int:=if c=x then 1 else 0
noncomputable def YD(p:Int)(m:Nat)(w:RX)(wd wd':RZ)(T T':RV)(e c:Nat):Int:=my (eK w wd) (eX w wd') (oO p w wd wd' T T'<|x6 wd wd'<|vI c) m e
theorem UA(C : ∀k,wd k<=9)(k):eX w wd k<=100:=by rw[<- qH];have:=C<|zE w k;omega
theorem Kg(Y:0<p)(J:p<=100)(C:m<=4)(H : ∀k,wd k<=9)(I : ∀k,wd' k<=9)(L : ∀k i j,0<=T' k i j/\T' k i j<p)(Z:off wd wd' (m+1)<=2000)(h2:off (eK w wd) (eX w wd') m<=2000) :
 kU [jh p m w wd' T',jh p m w wd T]=bQ (.val<|jJ (off (eK w wd) (eX w wd') m) (off wd wd'<|m+1)<|YD p m w wd wd' T T'):=by
 have Q:=jm;have t:=we (p:=p) (w:=w) (wd:=wd) (wd':=wd') (T:=T) (T':=T') C;have s:=yv (n:=m+1) (hs:=wd) (ws:=wd') ⋯ λk=>by have:=I k;omega
 have a:qT [jh p m w wd' T',jh p m w wd T]=bQ (.own<|ij m (eK w wd)<|eX w wd'):=rk C;have r:=yv (n:=m) (hs:=eK w wd) (ws:=eX w wd') ⋯<|UA I;generalize hN:off wd wd' (m+1)=N at *;generalize hA:off (eK w wd) (eX w wd') m=A at *;have O:N<=lim:=by omega
 have b:A<=lim:=by omega
 have B:=kB O;have E:je (jJ N N λi j=>if i=j then 1 else 0)=bQ (.T,[.int (N:Int),.int (N:Int),.tup (zX N N λi j=>if i=j then 1 else 0)]):=rfl;have f:f7 3 2=bQ 2:=rfl;have o:3<=lim:=by omega
 have l:zQ (.nm 0) jj (zC vd<|za (jA<|ja Y8<|za (zc 1)<|za (zc 2)<|za (jA<|ja qt<|za (zc 3)<|za (zc 0) zD) zD) zD) [Cell.no,.val<|jh p m w wd' T',.val<|jh p m w wd T,.val (.lst<|ij (m+1) wd wd')] (zX N N λi j=>if i=j then 1 else 0)=bQ (zX N A λc e=>YD p m w wd wd' T T' e c):=by
  unfold zX;refine zx _ _ λc P=>zy rfl rfl ?_;have G:=ZC (n:=m+1) (hs:=wd) (ws:=wd') ⋯ (λk=>by have:=H k;omega) (λk=>by have:=I k;omega) (vI c) hN.symm;have d : ∀k i j,0<=x6 wd wd' (vI c) k i j/\x6 wd wd' (vI c) k i j<100:=λk i j=>by unfold x6 vI;split<;>decide
  have g:=td (m:=m) (w:=w) (T:=T) Y J C H I L d;have U:=au (n:=m) (hs:=eK w wd) (ws:=eX w wd') (T:=oO p w wd wd' T T'<|x6 wd wd'<|vI c) ⋯;rw[hA]at U;have K:qt [.lst (ij (m+1) wd wd'),.tup (zA N λj=>if c=j then 1 else 0)]=bQ (.own<|fh (m+1) wd wd'<|x6 wd wd'<|vI c):=G;show zC _ _ [Cell.val (.tup<|zA N λj=>if c=j then 1 else 0),.val<|jh p m w wd' T',.val<|jh p m w wd T,.val (.lst<|ij (m+1) wd wd')]=_;simp only[xj,z9,ke,qU,xC,yG,Ld,Lg,zW,IY,Lm,K,hV,g,U,Ya];rfl
 have u:(jo 2<|jA<|ja xZ<|za (zc 0)<|za (zc 1) zD) (z7 5 [jh p m w wd' T',jh p m w wd T])=bQ (.next [.val (jh p m w wd' T'),.val<|jh p m w wd T,.val<|.lst<|ij (m+1) wd wd',.no,.no]):=by show(jo _ _) [.val (jh p m w wd' T'),.val<|jh p m w wd T,.no,.no,.no]=_;simp only[kc,xC,yG,z9,ke,qU,Ld,Lg,zW,IY,Lm,t,hV,Mb,Ma]
 have x:(jo 3<|zC j5<|za (zc 2) zD) [.val (jh p m w wd' T'),.val<|jh p m w wd T,.val<|.lst<|ij (m+1) wd wd',.no,.no]=bQ (.next [.val (jh p m w wd' T'),.val<|jh p m w wd T,.val<|.lst<|ij (m+1) wd wd',.val<|.int (N:Int),.no]):=by simp only[kc,xj,z9,ke,qU,Ld,Lg,zW,IY,Lm,s,Ya,Mb,Ma]
 have y:(jo 4<|jA<|zP (zF<|zw<|dy (zw<|zC jR<|za (zc 3) zD)<|zv<|.int 2) (.nm 0) 1 [0,1,2] jj (zC vd<|za (jA<|ja Y8<|za (zc 1)<|za (zc 2)<|za (jA<|ja qt<|za (zc 3)<|za (zc 0) zD) zD) zD)) [.val (jh p m w wd' T'),.val<|jh p m w wd T,.val<|.lst<|ij (m+1) wd wd',.val<|.int (N:Int),.no]=bQ (.next [.val (jh p m w wd' T'),.val<|jh p m w wd T,.val<|.lst<|ij (m+1) wd wd',.val<|.int (N:Int),.val (.lst<|zX N A λc e=>YD p m w wd wd' T T' e c)]):=by rw[kc,xC,jG];simp only[q9,qG,xN,xj,z9,ke,qU,yh,Ld,Lg,LM,Mh,LV,MN,zW,IY,Lm,B,Ya,E,qg,f,jD,Zu,O,if_true];rw[show z6 1 [0,1,2] [.val (jh p m w wd' T'),.val<|jh p m w wd T,.val<|.lst<|ij (m+1) wd wd',.val<|.int (N:Int),.no]=[Cell.no,.val<|jh p m w wd' T',.val<|jh p m w wd T,.val (.lst<|ij (m+1) wd wd')]from rfl,l];rfl
 have M:=kD (h:=N) (w:=A) (λc e=>YD p m w wd wd' T T' e c) O b;have z:(jM<|zC jP<|za (qQ<|za (zc 3)<|za (zC j5<|za (jA<|ja qT<|za (zc 0)<|za (zc 1) zD) zD)<|za (zZ<|ze 4) zD) zD) [.val (jh p m w wd' T'),.val<|jh p m w wd T,.val<|.lst<|ij (m+1) wd wd',.val<|.int (N:Int),.val (.lst<|zX N A λc e=>YD p m w wd wd' T T' e c)]=bQ (.ret<|.val<|jJ A N<|YD p m w wd wd' T T'):=by
  have F:(qQ<|za (zc 3)<|za (zC j5<|za (jA<|ja qT<|za (zc 0)<|za (zc 1) zD) zD)<|za (zZ<|ze 4) zD) [.val (jh p m w wd' T'),.val<|jh p m w wd T,.val<|.lst<|ij (m+1) wd wd',.val<|.int (N:Int),.val (.lst<|zX N A λc e=>YD p m w wd wd' T T' e c)]=bQ (jJ N A λc e=>YD p m w wd wd' T T' e c):=by simp only[Xs,z9,ke,qU,j7,Zx,xj,xC,yG,Ld,Lg,LM,Mh,LV,MN,zW,zY,j4,IY,Lm,a,hV,r,Ya,o,if_true];rfl
  simp only[wV,xj,z9,ke,F,IY,Lm,M,Ya]
 exact jb<|zk u<|zk x<|zk y z
end
theorem uk(h : ∀k,k<r->l k≠j):VV w B l r j=0:=by unfold VV;rw[zu (g:=λ_=>0) λk I=>EQ<|h k I,zO]
theorem Cu{p:Int}{w n r:Nat}{B:Nat->Vc}{l:RZ}(O:g5 p n r B l){k:Nat}(I:k<r):VV w B l r (l k)=B k w:=by unfold VV;rw[zM I λm a U=>EQ λe=>U<|WK O.mono a I e,RY rfl]
theorem iF{p:Int}{h w:Nat}{f:RK}{b y:Vc}(H : ∀i,i<h->zf (λj=>f i j*y j) w%p=b i%p){v:Vc}(C:Span p (w+1) (el h<|aug w f b) v):(v w - zf (λj=>v j*y j) w)%p=0:=by
 induction C with
 | @zero v O=>
  have e:zf (λj=>v j*y j) w%p=zf (λ_=>0) w%p:=zI λj U=>by rw[Lc,O j ⋯];simp
  rw[MU,e,O w ⋯,zO];simp
 | @step v I g c n s a r=>
  obtain⟨i,o,rfl⟩:=n;have d:zf (λj=>v j*y j) w%p=(zf (λj=>I j*y j) w+c*zf (λj=>f i j*y j) w)%p:=by
   rw[<- jd,<- jt];refine zI λj U=>?_;rw[Lc,a j ⋯,<- Lc];have:aug w f b i j=f i j:=by simp[aug,U]
   rw[this,Pk,ME]
  have k:v w%p=(I w+c*b i)%p:=by
   rw[a w ⋯];have:aug w f b i w=b i:=by simp[aug]
   rw[this]
  have l:(c*zf (λj=>f i j*y j) w)%p=(c*b i)%p:=by rw[Lc,H i o,<- Lc]
  rw[MU,d,k,<- MU];have m:(I w+c*b i - (zf (λj=>I j*y j) w+c*zf (λj=>f i j*y j) w))=(I w - zf (λj=>I j*y j) w)+(c*b i - c*zf (λj=>f i j*y j) w):=by omega
  rw[m,LZ,r,MU,l];simp
theorem iG(C:Pr p)(L:h<=90)(Y:w<=90)(f:RK)(b y:Vc)(U : ∀i,i<h->0<=b i/\b i<p)(Z : ∀i,i<h->zf (λj=>f i j*y j) w%p=b i) :
 ∃x:Vc,wX [.int p,jJ h w f,.tup (zA h b)]=bQ (.val<|.tup<|zA w x)/\(∀j,0<=x j/\x j<p)/\∀i,i<h->zf (λj=>f i j*x j) w%p=b i:=by
 have M:=C.pos;obtain⟨r,B,l,s,O,d,S,t,N,m⟩:=J4 C L Y f b;have u : ¬s<r:=λz=>by
  have Q:=O.lt s z;have R:=N s (Le _) z;have G:l s=w:=by omega
  have P:=(d<|B s).mp (.gen ⟨s,z,rfl⟩);have q:=iF (y:=y) (λi a=>by rw[Z i a,LX (U i a).1 (U i a).2]) P;have o:=O.one s z;rw[G]at o;have J:zf (λj=>B s j*y j) w=0:=by rw[zu (g:=λ_=>0) λj K=>by rw[O.i9 s j z ⋯];simp];exact zO _
  rw[o,J,Int.sub_zero,C.one]at q;omega
 rw[EQ u]at m;have H:s=r:=by omega
 subst H;refine⟨_,m,λj=>?_,λi a=>?_⟩
 ·by_cases e : ∃k,k<s/\l k=j
  ·obtain⟨k,I,rfl⟩:=e
   rw[Cu O I];exact O.ji k w I ⋯
  ·rw[uk λk I F=>e ⟨k,I,F⟩];exact⟨Int.le_refl _,M⟩
 ·have n:=Zv O ((d<|aug w f b i).mpr (.gen ⟨i,a,rfl⟩)) w ⋯
  have A:aug w f b i w=b i:=by simp[aug]
  rw[A,LX (U i a).1 (U i a).2]at n;rw[n];congr 1;unfold VV;rw[zu (g:=λj=>zf (λk=>f i j*(if l k=j then B k w else 0)) s) λj _=>(jd _ _ _).symm,qc];refine zu λk I=>?_;rw[zM (i:=l k) (t k I) λj K E=>by rw[EQ (LC E)];simp,RY rfl];simp only[aug,RY (t k I)]
theorem V4{n N:Nat}(a:Nat->Int)(idx:RZ)(x:Nat->Int)(I : ∀t,t<n->idx t<N):zf (λc=>zf (λt=>a t*vI c (idx t)) n*x c) N=zf (λt=>a t*x (idx t)) n:=by rw[zu (g:=λc=>zf (λt=>a t*vI c (idx t)*x c) n) λc _=>(qB _ _ _).symm,qc];refine zu λt O=>?_;rw[zM (i:=idx t) (I t O) λc b U=>by unfold vI;rw[EQ U];simp];unfold vI;rw[RY rfl,NF]
section
variable{p:Int}{m:Nat}{w:RX}{wd wd':RZ}{T T' S J:RV}
noncomputable def oC(w:RX)(wd wd':RZ)(T T' X:RV)(k i j:Nat):Int:=
 zf (λt=>T' k t j*X (zK w k) i t) (eK w wd' k) - zf (λt=>T k i t*X (zE w k) t j) (eX w wd k)
theorem tf(X:RV)(k i j:Nat):oO p w wd wd' T T' X k i j%p=oC w wd wd' T T' X k i j%p:=by
 unfold oO oC;rw[LF];rw[zu (f:=λt=>X (zE w k) t j*T k i t) (g:=λt=>T k i t*X (zE w k) t j) λt _=>Ml _ _];generalize zf (λt=>T' k t j*X (zK w k) i t) (eK w wd' k)=a;generalize zf (λt=>T k i t*X (zE w k) t j) (eX w wd k)=b;have:a%p + -1*(b%p)=a%p - b%p:=by omega
 rw[this,<- MU]
theorem mR(x:Nat->Int){k i j:Nat}(I:k<m)(hi:i<eK w wd k)(U:j<eX w wd' k) :
 zf (λc=>YD p m w wd wd' T T' (off (eK w wd) (eX w wd') k+i*eX w wd' k+j) c*x c) (off wd wd'<|m+1)%p=oC w wd wd' T T' (x6 wd wd' x) k i j%p:=by
 have d:=vQ (w:=w) I;have e:=vS (w:=w) I;have a:zf (λc=>YD p m w wd wd' T T' (off (eK w wd) (eX w wd') k+i*eX w wd' k+j) c*x c) (off wd wd'<|m+1)%p=zf (λc=>oC w wd wd' T T' (x6 wd wd'<|vI c) k i j*x c) (off wd wd'<|m+1)%p:=zI λc f=>by unfold YD;rw[ZA hi U m I,Lc,tf,<- Lc]
 rw[a];congr 1;have b : ∀c,oC w wd wd' T T' (x6 wd wd'<|vI c) k i j*x c=zf (λt=>T' k t j*vI c (off wd wd' (zK w k)+i*wd' (zK w k)+t)) (eK w wd' k)*x c+(-1)*(zf (λt=>T k i t*vI c (off wd wd' (zE w k)+t*wd' (zE w k)+j)) (eX w wd k)*x c):=λc=>by unfold oC x6;rw[Int.sub_mul];omega
 rw[zu (λc _=>b c),jt,jd];rw[V4 (λt=>T' k t j) (λt=>off wd wd' (zK w k)+i*wd' (zK w k)+t) x λt O=>bU d (by rw[qD w wd];exact hi) (by rw[qD w wd'];exact O)];rw[V4 (λt=>T k i t) (λt=>off wd wd' (zE w k)+t*wd' (zE w k)+j) x λt O=>bU e (by rw[qH w wd];exact O) (by rw[qH w wd'];exact U)];unfold oC x6;omega
end
noncomputable def kP(wd:RZ)(b:e9):List D:=(IS b.n).map λi=>D.tup<|zA (wd<|b.s+i)<|b.v<|b.s+i
def qw(wd:RZ)(b:e9):D:= .tup [.int b.s,.tup (kP wd b)]
@[simp] theorem bz(wd b):(kP wd b).length=b.n:=by simp[kP]
theorem WO(h:i<b.n):(kP wd b)[i]? = bQ (.tup<|zA (wd<|b.s+i)<|b.v<|b.s+i):=by simp[kP,h]
@[simp] theorem Gc(wd b):je (qw wd b)=bQ (.T,[.int b.s,.tup (kP wd b)]):=rfl
section
variable{wd:RZ}{b:e9}{mm:List e9}
theorem QQ(C:1<=b.n)(H:b.s+b.n<=100):qk [qw wd b]=bQ (.val<|.tup [.int b.s,.int ((b.s+b.n - 1:Nat):Int)]):=by
 have e:((b.s:Int)+(b.n:Int) - 1)=((b.s+b.n - 1:Nat):Int):=by omega
 simp[qk,jn,z7,qw,La];omega
theorem yA(C:b.s+b.n<=100)(r:Nat):qi [qw wd b,.int r]=bQ (.val<|.bl<|b.has r):=by
 by_cases h:b.s<=r
 ·by_cases a:r<b.s+b.n
  ·have:(r:Int)<(b.s:Int)+b.n:=by omega
   simp[qi,jn,z7,qw,La,e9.has,h,a,this]
  ·have : ¬((r:Int)<(b.s:Int)+b.n):=by omega
   simp[qi,jn,z7,qw,La,e9.has,h,a,this]
 ·simp[qi,jn,z7,qw,La,e9.has,h]
theorem vO{N:Nat}{A:Nat->e9}(I : ∀j,j<N->(A j).s+(A j).n<=100)(O:N<=lim)(r:Nat) :
 xP [.lst ((IS N).map λj=>qw wd<|A j),.int r]=bQ (.own<|((IS N).filter λj=>(A j).has r).map λj=>D.tup<|zA (wd r)<|(A j).v r):=by
 simp only[xP,jn,z7,gJ,jG,q9,j7,Mc,Rm,LM,Mh,La,Nu,Rp,Pq,Ld,vR,je,Lm,IY,Ly,LP,O,if_true];rw[jy (λj=>(A j).has r) (λj=>D.tup<|zA (wd r)<|(A j).v r) (IS N) λj U=>⟨_,rfl,?_,λf=>?_⟩]
 ·rfl
 ·have e:=yA (wd:=wd) (I j<|IV.mp U) r
  simp[z6,e]
 ·obtain⟨d,k⟩:=i5.mp f
  obtain⟨i,rfl⟩:=Nat.exists_eq_add_of_le d;have a:i<(A j).n:=by omega
  have h:(((A j).s+i:Nat):Int) - ((A j).s:Int)=(i:Int):=by omega
  have b:=WO (wd:=wd) a;have O:=jm;have g:=I j<|IV.mp U;simp[z6,qw,a,b];rw[show((A j).s:Int)+(i:Int) - ((A j).s:Int)=(i:Int)by omega,jl,RY a];exact b
theorem Zw(g:Nat->Vc)(I:q<=lim)(O:h<=lim):yi [.int h,.lst (zX q h g)]=bQ (.val<|jJ h q λi j=>g j i):=by have e:=kD (h:=q) (w:=h) g I O;unfold jJ at e;simp[yi,jn,z7,La,I,e];rfl
theorem WM(h:Nat)(u:Nat->Vc)(L:List Nat):(L.map λj=>D.tup<|zA h<|u j)=zX L.length h λi=>u (L.getD i 0):=by
 unfold zX
 conv=>lhs;rw[<- jg 0 L]
 rw[LG];rfl
theorem mq(u:Nat->Int)(L:List Nat):(L.map λj=>D.int<|u j)=zA L.length λi=>u (L.getD i 0):=by
 unfold zA
 conv=>lhs;rw[<- jg 0 L]
 rw[LG];rfl
theorem vh(P:RX)(g:Nat->Int) : ∀N,zf (λi=>g<|((IS N).filter P).getD i 0) ((IS N).filter P).length=zf (λj=>if P j=dt then g j else 0) N
 | 0=>rfl
 | N+1=>by
  have I:=vh P g N;rw[MM,Od];show _=zf _ N+_;rw[<- I];cases hP:P N with
  | false=>simp[hP]
  | true=>
   have e:([N].filter P)=[N]:=by simp[hP]
   rw[e,Md,MX];show zf _ _+_=_;simp only[if_true];congr 1
   ·refine zu λi a=>?_
    simp[IZ,Mm a]
   ·simp[IZ,hP]
end
section
variable{wd:RZ}{N m:Nat}{A:Nat->e9}{p:Int}{w:RX}{T:RV}{t:Vc}
theorem ib:vZ (zA N t) ((IS N).map λj=>qw wd<|A j)=(IS N).map λj=>D.tup [.int (t j),qw wd (A j)]:=by
 unfold vZ zA;rw[List.zip_map,LG];have e:(IS N).zip (IS N)=(IS N).map λi=>(i,i):=by rw[List.zip_eq_zipWith,List.zipWith_self]
 rw[e,LG];rfl
theorem X6(U:Pr p)(C : ∀j,j<N->(A j).s+(A j).n<=100)(Y:N<=60)(Z:m<=5)(H : ∀k,wd k<=60)(hr:r<=m)(J : ∀j i,j<N->(A j).has r=dt->i<wd r->0<=(A j).v r i/\(A j).v r i<p) :
 vf [jh p m w wd T,.lst<|(IS N).map λj=>qw wd<|A j,.tup<|zA N t,.int r]=bQ (.val<|.tup<|zA (wd r)<|n3 p A N t r):=by
 have E:=jm;have G:=U.le;have B:=H r;have a:=vO (wd:=wd) C (show N<=lim by omega) r;rw[WM (wd r) (λj=>(A j).v r)]at a;have F:((IS N).filter λj=>(A j).has r).length<=N:=by have:=ND (λj=>(A j).has r)<|IS N;simpa using this
 have g:=Zw (q:=((IS N).filter λj=>(A j).has r).length) (h:=wd r) (λi=>(A<|((IS N).filter λj=>(A j).has r).getD i 0).v r) ⋯ ⋯;have I:=Kv (p:=p) (h:=wd r) (w:=((IS N).filter λj=>(A j).has r).length) .L (λi j=>(A<|((IS N).filter λj=>(A j).has r).getD j 0).v r i) (λi=>t<|((IS N).filter λj=>(A j).has r).getD i 0) U.pos ⋯ ⋯ (λi j y O=>by
  have b:((IS N).filter λj=>(A j).has r).getD j 0∈(IS N).filter λj=>(A j).has r:=by rw[IZ,IX O];exact My _
  obtain⟨u,x⟩:=Lx.mp b;have:=J _ i (IV.mp u) (by simpa using x) y;omega)
 have l:(zA (wd r) λi=>zf (λj=>(A<|((IS N).filter λj=>(A j).has r).getD j 0).v r i*t (((IS N).filter λj=>(A j).has r).getD j 0)) ((IS N).filter λj=>(A j).has r).length%p)=zA (wd r) (n3 p A N t r):=kR λi _=>by unfold n3;rw[vh (λj=>(A j).has r) (λj=>(A j).v r i*t j) N];congr 1;refine zu λj _=>?_;rw[Ml]
 rw[l]at I;have o:zQ (.tp [0,1]) (sB<|zC qi<|za (zc 1)<|za (zc 2) zD) (zc 0) [.no,.no,.val (.int r)] ((IS N).map λj=>D.tup [.int (t j),qw wd (A j)])=bQ (zA ((IS N).filter λj=>(A j).has r).length λi=>t<|((IS N).filter λj=>(A j).has r).getD i 0):=by rw[<- mq];refine jy (λj=>(A j).has r) (λj=>D.int<|t j) _ λj O=>⟨_,rfl,?_,λ_=>rfl⟩;have e:=yA (wd:=wd) (C j<|IV.mp O) r;simp[e]
 have d:r<m+1:=by omega
 have z:=ib (N:=N) (wd:=wd) (t:=t) (A:=A);simp only[p9]at I;have f:N<=lim:=by omega
 refine jb<|zk (γ':=[.val (jh p m w wd T),.val<|.lst<|(IS N).map λj=>qw wd<|A j,.val<|.tup<|zA N t,.val<|.int r,.val (.lst<|zA ((IS N).filter λj=>(A j).has r).length λi=>t<|((IS N).filter λj=>(A j).has r).getD i 0)]) ?_ ?_
 ·simp[-IZ,z7,z6,La,z,o,f]
 ·simp[-IZ,jh,a,g,I,d]
theorem mj(Y:Pr p)(O : ∀j,j<N->(A j).s+(A j).n<=m+1)(J:N<=60)(L:m<=5)(H : ∀k,wd k<=60)(Z : ∀j r i,j<N->(A j).has r=dt->i<wd r->0<=(A j).v r i/\(A j).v r i<p)(C:a<N)(t0 : ∀i,i<a->t i=0)(t1:t a≠0) :
 VX [jh p m w wd T,.lst<|(IS N).map λj=>qw wd<|A j,.tup (zA N t)]=bQ (.val<|qw wd<|D1 p A N t a):=by
 have B:=jm;have f:N<=lim:=by omega
 have h:=vg f t C t0 t1;have z:=O a C;have l:zQ (.nm 0) jj (zC vf<|za (zc 1)<|za (zc 2)<|za (zc 3)<|za (zH qa (dy (ze 4)<|zv<|.int 0)<|zc 0) zD) [.no,.val<|jh p m w wd T,.val<|.lst<|(IS N).map λj=>qw wd<|A j,.val<|.tup<|zA N t,.val (qw wd<|A a)] ((IS (A a).n).map λ(i:Nat)=>D.int i)=bQ (kP wd<|D1 p A N t a):=by
  unfold kP;refine zx _ _ λi b=>zy rfl rfl ?_;have b:=IV.mp b;have e:=X6 (T:=T) (w:=w) (t:=t) Y (λj I=>by have:=O j I;omega) J L H (r:=(A a).s+i) (by have:i<(A a).n:=b;omega) λj c I x u=>Z j _ c I x u;have o:(((A a).s+i:Nat):Int)=((A a).s:Int)+(i:Int):=by omega
  rw[o]at e;have E:inR (((A a).s:Int)+(i:Int))=dt:=decide_eq_true (by have:i<(A a).n:=b;omega);simp[e];rfl
 have d:(A a).n<=lim:=by omega
 have y:inR ((A a).n:Int)=dt:=decide_eq_true ⋯;refine jb<|zk (γ':=[.val (jh p m w wd T),.val<|.lst<|(IS N).map λj=>qw wd<|A j,.val<|.tup<|zA N t,.val<|qw wd<|A a,.no]) ?_ (zk (γ':=[.val (jh p m w wd T),.val<|.lst<|(IS N).map λj=>qw wd<|A j,.val<|.tup<|zA N t,.val<|qw wd<|A a,.val (.lst<|kP wd<|D1 p A N t a)]) ?_ ?_)
 ·simp[z7,La,h,C]
 ·have U:=l
  rw[show((IS (A a).n).map λ(i:Nat)=>D.int i)=zA (A a).n λi=>(i:Int)from rfl]at U;simp[z6,jv,y,d,U]
 ·have g:(D1 p A N t a).n<=lim:=d
  simp[bz,g];rfl
end
section
variable{wd:RZ}{N m k r:Nat}{A:Nat->e9}{p:Int}{w:RX}{T:RV}{B:Nat->Vc}{l:RZ}
theorem WZ(l:RZ)(g:Nat->D)(i:Nat) : ∀(L:List Nat),uy (L.map λj=>D.int ((l j:Nat):Int)) (L.map g) (i:Int)=(L.find? λj=>l j==i).map g
 | []=>rfl
 | j::L=>by
  have I:=WZ l g i L;simp only[Mc,uy,List.find?_cons];by_cases h:l j=i
  ·simp[h]
  ·have a : ¬((l j:Nat):Int)=(i:Int):=by omega
   rw[EQ a,I];have:(l j==i)=ed:=by simpa using h
   rw[this]
theorem YB(l:RZ) : ∀L:List Nat,VB (L.map λj=>D.int ((l j:Nat):Int))=bQ (L.map λj=>((l j:Nat):Int))
 | []=>rfl
 | j::L=>by simp[VB,YB l L]
theorem bA(I:g5 p N r B l)(O:r<=lim):tE ((IS r).map λj=>D.int ((l j:Nat):Int)) ((IS r).map λj=>D.tup<|zA N<|B j)=bQ (.md ((IS r).map λj=>D.int ((l j:Nat):Int))<|(IS r).map λj=>D.tup<|zA N<|B j):=by unfold tE;rw[YB];dsimp only;rw[RY];refine⟨by simp,?_,by simpa using O⟩;rw[List.nodup_iff_pairwise_ne,Oo];refine OD (λ{a b} d U h=>?_)<|Om (n:=r);have:=I.mono a b h<|IV.mp U;omega
theorem KF(f g:Nat->D) : ∀L:List Nat,KG (L.map λj=>D.tup [f j,g j])=bQ (L.map f,L.map g)
 | []=>rfl
 | j::L=>by simp[KG,KF f g L]
theorem J0(h:k<(xi m w wd T).length):(xi m w wd T)[k]=vF w wd T k:=by simp[xi]
theorem ye(w wd T k):je (vF w wd T k)=bQ (.T,[.str (k6<|ix<|w k),jJ (eK w wd k) (eX w wd k) (T k)]):=rfl
theorem VF:k4 ((IS N).map λj=>qw wd<|A j)=(IS N).map λ(i:Nat)=>D.tup [.int i,qw wd (A i)]:=by unfold k4;simp only[Ly,LP];refine Ll λi a=>?_;have a:=IV.mp a;simp[a]
noncomputable def uo(p:Int)(w:RX)(wd:RZ)(T:RV)(k:Nat)(u:Vc):Prop:=if w k=dt then Span p (wd k) (el (wd<|k+1) λj i=>T k i j) u else t5 p (wd<|k+1) (wd k) (T k) u
theorem aG(O:Pr p)(U : ∀k,wd k<=8)(w)(T)(k:Nat) : ∃q g,q<=100/\(∀u,Span p (wd k) (el q g) u↔uo p w wd T k u)/\
 (if w k=dt then J7 [.int p,jJ (eK w wd k) (eX w wd k) (T k)]=bQ (.own<|zX q (wd k) g)else xS [.int p,jJ (eK w wd k) (eX w wd k) (T k)]=bQ (.own<|zX q (wd k) g)):=by
 have t:=jm;have j:=U k;have o:=U<|k+1;have f : ∀{r n:Nat} {B:Nat->Vc} {l:RZ},g5 p n r B l->r<=n:=λ{r n B l} I=>by
  have mono : ∀k,k<r->k<=l k:=by
   intro k
   induction k with
   | zero=>intro _;omega
   | succ k m=>intro j;have:=m ⋯;have:=I.mono k (k+1) ⋯ j;omega
  cases r with
  | zero=>omega
  | succ i=>have:=mono i ⋯;have:=I.lt i ⋯;omega
 cases hw:w k with
 | true=>
  have a:eK w wd k=wd k:=by unfold eK;rw[hw];rfl
  have b:eX w wd k=wd (k+1):=by unfold eX;rw[hw];rfl
  obtain⟨r,B,l,e,I,d⟩:=Xu O (h:=wd k) (w:=wd<|k+1) ⋯ ⋯<|T k;refine⟨r,B,by have:=f I;omega,λu=>by unfold uo;rw[hw,RY rfl];exact d u,?_⟩;rw[RY rfl,a,b];exact e
 | false=>
  have a:eK w wd k=wd (k+1):=by unfold eK;rw[hw];rfl
  have b:eX w wd k=wd k:=by unfold eX;rw[hw];rfl
  obtain⟨q,K,l,s,e,I,d,_⟩:=yI O (h:=wd<|k+1) (w:=wd k) ⋯ ⋯<|T k;refine⟨q,K,by have:=f I;omega,λu=>by unfold uo;rw[hw,EQ ⋯];exact d u,?_⟩;rw[EQ ⋯,a,b];exact e
theorem Vh:J5=jn 8 (zN Si<|zN Sj<|zN N0<|zN Sl<|zN Sm Sn):=rfl
theorem aJ(J:Pr p)(Z : ∀j,j<N->(A j).s+(A j).n<=m+1)(H : ∀j,j<N->(A j).has k=dt)(Y:k<m)(hN:N<=8)(hm:m<=5)(C : ∀k,wd k<=8)(hv : ∀j r i,j<N->(A j).has r=dt->i<wd r->0<=(A j).v r i/\(A j).v r i<p) :
 ∃r B l,g5 p N r B l/\(∀t,Span p N (el r B) t↔uo p w wd T k (app (λi j=>(A j).v k i) N t))/\
  J5 [jh p m w wd T,.int k,.lst ((IS N).map λj=>qw wd<|A j)]=bQ (.own<|(IS N).map λi=>qw wd<|hX p A N r B l i):=by
 have hl:=jm;obtain⟨q,g,hq,E,d⟩:=aG J C w T k;have b9:=C k;obtain⟨r,B,l,M,I,hs⟩:=Ku J (h:=wd k) (w:=N) (q:=q) ⋯ ⋯ hq (λi j=>(A j).v k i) g;refine⟨r,B,l,I,λt=>(hs t).trans (E _),?_⟩;have f:N<=lim:=by omega
 have F:k<m+1:=by omega
 have rN:r<=N:=by
  have mono : ∀k,k<r->k<=l k:=by
   intro k
   induction k with
   | zero=>intro _;omega
   | succ k ih=>intro H;have:=ih ⋯;have:=I.mono k (k+1) ⋯ H;omega
  cases r with
  | zero=>omega
  | succ u=>have:=mono u ⋯;have:=I.lt u ⋯;omega
 have x:r<=lim:=by omega
 have y:=vO (wd:=wd) (A:=A) (N:=N) (λj O=>by have:=Z j O;omega) f k;have X:((IS N).filter λj=>(A j).has k)=IS N:=List.filter_eq_self.mpr λj O=>H j<|IV.mp O;rw[X]at y;have P:=Zw (q:=N) (h:=wd k) (λj=>(A j).v k) f ⋯;have G:xP [.lst ((IS N).map λj=>qw wd<|A j),.int k]=bQ (.own<|zX N (wd k) λj=>(A j).v k):=y;have Q:zQ (.nm 0) jj (qQ<|za (zC xE<|za (zc 0) zD)<|za (zc 0) zD) [.no] (zX r N B)=bQ ((IS r).map λj=>D.tup [.int ((l j:Nat):Int),.tup (zA N<|B j)]):=by unfold zX;refine zx _ _ λj O=>zy rfl rfl ?_;have O:=IV.mp O;have e:=vg f (B j) (I.lt j O) (λi b=>I.i9 j i O b) (by rw[I.one j O];decide);simp[e]
 have R:=bA I x;have S:=KF (λj=>D.int ((l j:Nat):Int)) (λj=>D.tup<|zA N<|B j)<|IS r;let o:D:= .md ((IS r).map λj=>D.int ((l j:Nat):Int)) ((IS r).map λj=>D.tup<|zA N<|B j);let L:D:= .lst ((IS N).map λj=>qw wd<|A j);have W:zQ (.tp [0,1]) jj (hJ (sB<|CJ (zc 0)<|zc 4) (zC VX<|za (zc 2)<|za (zc 3)<|za (EZ (zc 4)<|zc 0) zD)<|zc 1) [.no,.no,.val<|jh p m w wd T,.val L,.val o] ((IS N).map λ(i:Nat)=>D.tup [.int i,qw wd (A i)])=bQ ((IS N).map λi=>qw wd<|hX p A N r B l i):=by
  refine zx _ _ λi b=>zy rfl rfl ?_;have b:=IV.mp b;have U:=WZ l (λj=>D.tup<|zA N<|B j) i<|IS r;have K:(IS r).find? (λj=>l j==i)=l5 r l i:=rfl;rw[K]at U;unfold hX;cases hx:l5 r l i with
  | none=>
   rw[hx]at U;simp[o,CJ,U]
  | some j=>
   rw[hx]at U;obtain⟨z,h2⟩:=xQ hx;have e:=mj (T:=T) (w:=w) (t:=B j) J Z ⋯ hm (λk=>by have:=C k;omega) hv (a:=i) b (λc hc=>I.i9 j c z ⋯) (by rw[<- h2,I.one j z];decide);simp[o,CJ,EZ,U,L,e]
 rw[Vh];refine jb (zk (γ':=[.val (jh p m w wd T),.val<|.int k,.val L,.val<|.str<|k6<|ix<|w k,.no,.no,.no,.no]) ?_
  (zk (γ':=[.val (jh p m w wd T),.val<|.int k,.val L,.val<|.str<|k6<|ix<|w k,.val<|jJ (eK w wd k) (eX w wd k)<|T k,.no,.no,.no]) ?_
  (zk (γ':=[.val (jh p m w wd T),.val<|.int k,.val L,.val<|.str<|k6<|ix<|w k,.val<|jJ (eK w wd k) (eX w wd k)<|T k,.val<|.lst<|zX q (wd k) g,.no,.no]) ?_
  (zk (γ':=[.val (jh p m w wd T),.val<|.int k,.val L,.val<|.str<|k6<|ix<|w k,.val<|jJ (eK w wd k) (eX w wd k)<|T k,.val<|.lst<|zX q (wd k) g,.val<|.lst<|zX r N B,.no]) ?_
  (zk (γ':=[.val (jh p m w wd T),.val<|.int k,.val L,.val<|.str<|k6<|ix<|w k,.val<|jJ (eK w wd k) (eX w wd k)<|T k,.val<|.lst<|zX q (wd k) g,.val<|.lst<|zX r N B,.val o]) ?_ ?_)))))
 ·simp[Si,z7,La,yU,ye,J0,Y];rfl
 ·simp[Sj,yU,ye,J0,Y]
 ·cases hw:w k with
  | true=>
   rw[hw,RY rfl]at d;have eq:=Ki dt;simp[N0,yU,eq,d]
  | false=>
   rw[hw,EQ ⋯]at d;have eq:=Ki ed;simp[N0,yU,eq,d]
 ·simp[Sl,yU,F,L,G,P,M]
 ·simp[Sm,z6,Q,x,S,R];rfl
 ·simp[Sn,z6,L,VF,f,W]
end
noncomputable def oD(n:Nat):Option Vc->D
 | none=> .e7
 | some y=> .tup (zA n y)
theorem aI(U:Pr p)(C:h<=90)(H:w<=90)(f:RK)(b:Vc)(O : ∀i,i<h->0<=b i/\b i<p) :
 ∃o:Option Vc,wX [.int p,jJ h w f,.tup (zA h b)]=bQ (.val<|oD w o)/\(∀x,o=bQ x->(∀j,0<=x j/\x j<p)/\∀i,i<h->app f w x i%p=b i%p)/\(o=none->¬∃y:Vc,∀i,i<h->app f w y i%p=b i%p):=by
 have n : ∀i,i<h->b i%p=b i:=λi a=>LX (O i a).1 (O i a).2;by_cases I : ∃y:Vc,∀i,i<h->app f w y i%p=b i%p
 ·obtain⟨y,I⟩:=I
  obtain⟨x,e,L,M⟩:=iG U C H f b y O λi a=>by rw[<- n i a,<- I i a];rfl
  refine⟨bQ x,e,λS J=>?_,λz=>by cases z⟩;cases J;exact⟨L,λi a=>by rw[n i a];exact M i a⟩
 ·obtain⟨r,B,l,s,N,E,Q,A,R,d⟩:=J4 U C H f b
  have m:s<r:=by
   refine Mx λm=>I ?_;have K:s=r:=by omega
   subst K;refine⟨VV w B l s,λi a=>?_⟩;have t:=Zv N ((E<|aug w f b i).mpr (.gen ⟨i,a,rfl⟩)) w ⋯;have F:aug w f b i w=b i:=by simp[aug]
   rw[F]at t;rw[t];congr 1;unfold app VV;rw[zu (g:=λj=>zf (λk=>f i j*(if l k=j then B k w else 0)) s) λj _=>(jd _ _ _).symm,qc];refine zu λk u=>?_;rw[zM (i:=l k) (A k u) λj P G=>by rw[EQ (LC G)];simp,RY rfl];simp only[aug,RY (A k u)]
  rw[RY m]at d;exact⟨none,d,nofun,λ_=>I⟩
section
variable{wd:RZ}{m k:Nat}{p:Int}{w:RX}{T:RV}
theorem mf:kE=jn 4 (zN D2<|zN M5 M6):=rfl
theorem Kj(b:Bool):iQ (.str (k6 (ix b))) (.str "l")=bQ (.bl b):=by cases b<;>kernel_rfl
theorem Yr(I:Pr p)(C : ∀k,wd k<=8)(H : ∀i j,i<eK w wd k->j<eX w wd k->0<=T k i j/\T k i j<p)(u:Vc)(J : ∀i,i<wd k->0<=u i/\u i<p) :
 ∃o:Option Vc,kE [.int p,vF w wd T k,.tup (zA (wd k) u)]=bQ (.val<|oD (wd<|k+1) o)/\(∀y,o=bQ y->∀c,c<wd (k+1)->0<=y c/\y c<p)/\
  (w k=ed->(o=none->∀c,c<wd (k+1)->app (T k) (wd k) u c%p=0)/\∀y,o=bQ y->(∀c,c<wd (k+1)->app (T k) (wd k) u c%p=y c%p)/\∃c,c<wd (k+1)/\y c%p≠0)/\
  (w k=dt->(o=none->¬∃y:Vc,∀c,c<wd k->app (T k) (wd<|k+1) y c%p=u c%p)/\∀y,o=bQ y->∀c,c<wd k->app (T k) (wd<|k+1) y c%p=u c%p):=by
 have G:=jm;have K:=I.le;have F:=C k;have E:=C<|k+1;rw[mf];cases hw:w k with
 | true=>
  have b:eK w wd k=wd k:=by unfold eK;rw[hw];rfl
  have d:eX w wd k=wd (k+1):=by unfold eX;rw[hw];rfl
  obtain⟨o,t,a,f⟩:=aI I (h:=wd k) (w:=wd<|k+1) ⋯ ⋯ (T k) u J;refine⟨o,?_,λy e c _=>(a y e).1 c,nofun,λ_=>⟨f,λy e=>(a y e).2⟩⟩;refine jb ?_;have O:=Kj dt;have x:D2 (z7 4 [.int p,vF w wd T k,.tup (zA (wd k) u)])=bQ (.ret<|.val<|oD (wd<|k+1) o):=by simp[D2,z7,La,ye,hw,O,b,d,t]
  rw[jE,x];rfl
 | false=>
  have b:eK w wd k=wd (k+1):=by unfold eK;rw[hw];rfl
  have d:eX w wd k=wd k:=by unfold eX;rw[hw];rfl
  rw[b,d]at H;have U:=Kv (p:=p) (h:=wd<|k+1) (w:=wd k) .T (T k) u I.pos ⋯ ⋯ λi j A B=>by have:=H i j A B;omega
  simp only[p9]at U;have O:=Kj ed;have r:=V9 (λi=>zf (λj=>T k i j*u j) (wd k)%p)<|wd<|k+1;by_cases g : ∃c,c<wd (k+1)/\zf (λj=>T k c j*u j) (wd k)%p≠0
  ·refine⟨bQ λi=>zf (λj=>T k i j*u j) (wd k)%p,?_,(λy e c _=>by cases e;exact⟨LQ _ (by have:=I.pos;omega),LB _ I.pos⟩),λ_=>⟨nofun,(λy e=>by cases e;exact⟨(λc _=>by rw[LF];rfl),(by obtain⟨c,a,f⟩:=g;exact⟨c,a,(by rw[LF];exact f)⟩)⟩)⟩,nofun⟩
   refine jb<|zk (γ':=[.val (.int p),.val<|vF w wd T k,.val<|.tup<|zA (wd k) u,.no]) ?_ (zk (γ':=[.val (.int p),.val<|vF w wd T k,.val<|.tup<|zA (wd k) u,.val (.tup<|zA (wd<|k+1) λi=>zf (λj=>T k i j*u j) (wd k)%p)]) ?_ ?_)
   ·simp[D2,z7,La,ye,hw,O]
   ·simp[M5,ye,b,d,U]
   ·have l:(IS<|wd<|k+1).any (λi=>(zf (λj=>T k i j*u j) (wd k)%p) != 0)=dt:=by
     obtain⟨c,a,f⟩:=g;exact List.any_eq_true.mpr ⟨c,IV.mpr a,by simpa using f⟩
    have m:uu (ze 3) [.val (.int p),.val<|vF w wd T k,.val<|.tup<|zA (wd k) u,.val (.tup<|zA (wd<|k+1) λi=>zf (λj=>T k i j*u j) (wd k)%p)]=bQ (.bl dt):=by show((Jn _).map λs=>D.bl<|s.any id)=_;rw[r];show bQ (D.bl<|((IS<|wd<|k+1).map λi=>(zf (λj=>T k i j*u j) (wd k)%p) != 0).any id)=_;rw[List.any_map];rw[show(id∘λi=>(zf (λj=>T k i j*u j) (wd k)%p) != 0)=λi=>(zf (λj=>T k i j*u j) (wd k)%p) != 0 from rfl,l]
    unfold M6;simp only[wV,oX,gL,m];rfl
  ·refine⟨none,?_,nofun,λ_=>⟨λ_ c n=>Mx λz=>g ⟨c,n,z⟩,nofun⟩,nofun⟩
   refine jb<|zk (γ':=[.val (.int p),.val<|vF w wd T k,.val<|.tup<|zA (wd k) u,.no]) ?_ (zk (γ':=[.val (.int p),.val<|vF w wd T k,.val<|.tup<|zA (wd k) u,.val (.tup<|zA (wd<|k+1) λi=>zf (λj=>T k i j*u j) (wd k)%p)]) ?_ ?_)
   ·simp[D2,z7,La,ye,hw,O]
   ·simp[M5,ye,b,d,U]
   ·have l:(IS<|wd<|k+1).any (λi=>(zf (λj=>T k i j*u j) (wd k)%p) != 0)=ed:=Rg.mpr λc n z=>g ⟨c,IV.mp n,by simpa using z⟩
    have m:uu (ze 3) [.val (.int p),.val<|vF w wd T k,.val<|.tup<|zA (wd k) u,.val (.tup<|zA (wd<|k+1) λi=>zf (λj=>T k i j*u j) (wd k)%p)]=bQ (.bl ed):=by show((Jn _).map λs=>D.bl<|s.any id)=_;rw[r];show bQ (D.bl<|((IS<|wd<|k+1).map λi=>(zf (λj=>T k i j*u j) (wd k)%p) != 0).any id)=_;rw[List.any_map];rw[show(id∘λi=>(zf (λj=>T k i j*u j) (wd k)%p) != 0)=λi=>(zf (λj=>T k i j*u j) (wd k)%p) != 0 from rfl,l]
    unfold M6;simp only[wV,oX,gL,m];rfl
end
section
variable{wd:RZ}{m k:Nat}{p:Int}{w:RX}{T:RV}
theorem mG(h:1<=n):f7 n (-1)=bQ (n - 1):=by unfold f7;rw[EQ ⋯,RY ⋯];congr 1;omega
theorem fe(I:b.s+b.n=k+1)(y:Vc):kP wd (j1 k b<|some y)=kP wd b++[D.tup (zA (wd<|k+1) y)]:=by
 unfold kP j1;dsimp only;rw[MM,Mr];congr 1
 ·refine Ll λi a=>?_
  have a:=IV.mp a;rw[EQ ⋯]
 ·simp[I]
theorem cH:vt=jn 4 (zN Sx N6):=rfl
theorem iy(C:1<=b.n)(O:b.s+b.n=k+1)(H:k<=20)(e:kE [.int p,vF w wd T k,.tup (zA (wd k)<|b.v k)]=bQ (.val<|oD (wd<|k+1) o)) :
 vt [.int p,vF w wd T k,qw wd b]=bQ (.val<|qw wd<|j1 k b o):=by
 have l:=jm;have g:=mG C;have I:=WO (wd:=wd) (b:=b) (i:=b.n - 1) ⋯;rw[show b.s+(b.n - 1)=k by omega]at I;have j:b.n - 1<b.n:=by omega
 rw[cH];refine jb<|zk (γ':=[.val (.int p),.val<|vF w wd T k,.val<|qw wd b,.val (oD (wd<|k+1) o)]) ?_ ?_
 ·unfold Sx
  have d:dy (zw<|dy (ze 2)<|zv<|.int 1) (rA<|zv<|.int 1) (z7 4 [.int p,vF w wd T k,qw wd b])=bQ (.tup<|zA (wd k)<|b.v k):=by have U : ∀h:Ctx,rA (zv<|.int 1) h=bQ (.int (-1)):=λ_=>rfl;simp[z7,La,g,U];exact I
  simp only[kc,xj,z9,ke,d];simp[z7,La,e]
 ·cases o with
  | none=>simp[N6,oD,FW,j1]
  | some y=>
   have f:b.n+1<=lim:=by omega
   have a:=fe (wd:=wd) O y;simp[N6,oD,FW,f,qa];unfold qw;rw[a];rfl
noncomputable def gQ(p:Int)(w:RX)(wd:RZ)(T:RV)(k:Nat)(L:List Vc):Prop:=
 if w k=dt then ∃q K l s,L=(IS q).map K/\g5 p (wd<|k+1) q K l/\(∀v,Span p (wd<|k+1) (el q K) v↔t5 p (wd k) (wd<|k+1) (T k) v)/\Rk p (wd k) (wd<|k+1) (λj i=>T k i j) s/\q+s=wd (k+1)
 else ∃r B l,g5 p (wd<|k+1) r B l/\(∀v,Span p (wd<|k+1) (el r B) v↔Span p (wd<|k+1) (el (wd k) λj i=>T k i j) v)/\L=((IS<|wd<|k+1).filter λ(c:Nat)=> !decide ((c:Int)∈(IS r).map λj=>((l j:Nat):Int))).map jI
theorem sF:vV=jn 3 (zN F8<|zN Se Sf):=rfl
theorem Xj(l:RZ) : ∀L:List Nat,Kd (L.map λj=>D.int ((l j:Nat):Int))=bQ (L.map λj=>((l j:Nat):Int))
 | []=>rfl
 | j::L=>by simp[Kd,Xj l L]
theorem XO(I:g5 p n r B l):r<=n:=by
 have mono : ∀k,k<r->k<=l k:=by
  intro k
  induction k with
  | zero=>intro _;omega
  | succ k U=>intro a;have:=U ⋯;have:=I.mono k (k+1) ⋯ a;omega
 cases r with
 | zero=>omega
 | succ O=>have:=mono O ⋯;have:=I.lt O ⋯;omega
theorem fP(n:Nat):k4 (zX n n λi j=>if i=j then 1 else 0)=(IS n).map λ(i:Nat)=>D.tup [.int i,.tup (zA n<|jI i)]:=by unfold k4 zX;simp only[Ly,LP];refine Ll λi a=>?_;have a:=IV.mp a;simp[a];rfl
theorem Ys(H:Pr p)(C : ∀k,wd k<=8) : ∃L:List Vc,gQ p w wd T k L/\vV [.int p,vF w wd T k]=bQ (.own<|L.map λy=>D.tup<|zA (wd<|k+1) y):=by
 have N:=jm;have M:=C k;have J:=C<|k+1;rw[sF];unfold gQ;cases hw:w k with
 | true=>
  have a:eK w wd k=wd k:=by unfold eK;rw[hw];rfl
  have b:eX w wd k=wd (k+1):=by unfold eX;rw[hw];rfl
  obtain⟨q,K,l,s,e,I,g,F,x⟩:=yI H (h:=wd k) (w:=wd<|k+1) ⋯ ⋯<|T k;refine⟨(IS q).map K,by rw[RY rfl];exact⟨q,K,l,s,rfl,I,g,F,x⟩,jb ?_⟩;have U:=Kj dt;have f:F8 (z7 3 [.int p,vF w wd T k])=bQ (.ret<|.own<|zX q (wd<|k+1) K):=by simp[F8,z7,La,ye,hw,U,a,b,e]
  rw[jE,f,LG];rfl
 | false=>
  have a:eK w wd k=wd (k+1):=by unfold eK;rw[hw];rfl
  have b:eX w wd k=wd k:=by unfold eX;rw[hw];rfl
  obtain⟨r,B,l,e,I,g⟩:=Xu H (h:=wd<|k+1) (w:=wd k) ⋯ ⋯<|T k;have P:=XO I;have z:r<=lim:=by omega
  have d:wd (k+1)<=lim:=by omega
  refine⟨_,by rw[EQ ⋯];exact⟨r,B,l,I,g,rfl⟩,?_⟩;have U:=Kj ed;have A:zQ (.nm 0) jj (zC xE<|za (zc 0) zD) [.no] (zX r (wd<|k+1) B)=bQ ((IS r).map λj=>D.int ((l j:Nat):Int)):=by unfold zX;refine zx _ _ λj O=>zy rfl rfl ?_;have O:=IV.mp O;have e:=vg d (B j) (I.lt j O) (λi m=>I.i9 j i O m) (by rw[I.one j O];decide);simp[e]
  have E:zQ (.tp [0,1]) (sB<|Vi (zc 0)<|ze 2) (zc 1) [.no,.no,.val (.lst<|(IS r).map λj=>D.int ((l j:Nat):Int))] ((IS<|wd<|k+1).map λ(i:Nat)=>D.tup [.int i,.tup (zA (wd<|k+1)<|jI i)]) =
   bQ (((IS<|wd<|k+1).filter λ(c:Nat)=> !decide ((c:Int)∈(IS r).map λj=>((l j:Nat):Int))).map λ(i:Nat)=>D.tup<|zA (wd<|k+1)<|jI i):=by
   refine jy (λ(c:Nat)=> !decide ((c:Int)∈(IS r).map λj=>((l j:Nat):Int))) (λ(i:Nat)=>D.tup<|zA (wd<|k+1)<|jI i) _ λi m=>⟨_,rfl,?_,λ_=>rfl⟩;have G:=Xj l<|IS r;show(Vi (zc 0) (ze 2) [.val (.int i),_,.val (.lst<|(IS r).map λj=>D.int ((l j:Nat):Int))]).bind rd=_;show((Kd<|(IS r).map λj=>D.int ((l j:Nat):Int)).map λl=>D.bl<|!decide ((i:Int)∈l)).bind rd=_;rw[G];rfl
  have f:=kB (n:=wd<|k+1) d;refine jb<|zk (γ':=[.val (.int p),.val<|vF w wd T k,.no]) ?_ (zk (γ':=[.val (.int p),.val<|vF w wd T k,.val (.lst<|(IS r).map λj=>D.int ((l j:Nat):Int))]) ?_ ?_)
  ·simp[F8,z7,La,ye,hw,U]
  ·simp[Se,z6,ye,a,b,e,z,A]
  ·have o:je (jJ (eK w wd k) (eX w wd k)<|T k)=bQ (.T,[.int (wd (k+1):Nat),.int (wd k:Nat),.tup (zX (wd<|k+1) (wd k)<|T k)]):=by rw[a,b];rfl
   have t:je (jJ (wd<|k+1) (wd<|k+1) λi j=>if i=j then 1 else 0)=bQ (.T,[.int (wd (k+1):Nat),.int (wd (k+1):Nat),.tup (zX (wd<|k+1) (wd<|k+1) λi j=>if i=j then 1 else 0)]):=rfl;have u:=fP<|wd<|k+1;simp[Sf,z6,ye,o,f,t,u,d];rw[E];exact congrArg bQ (congrArg (List.map _)<|SN λc _=>by simp)
end
section
variable{wd:RZ}{m k r N:Nat}{p:Int}{w:RX}{T:RV}{B:Nat->Vc}{l:RZ}{A:Nat->e9}
theorem oE(O:g5 p N r B l){j:Nat}(I:j<r):l5 r l (l j)=bQ j:=by
 cases h:l5 r l (l j)with
 | none=>exact absurd rfl<|ZY h j I
 | some i=>
  obtain⟨a,b⟩:=xQ h;rw[WK O.mono a I b]
theorem Vx{a b:List Nat}(C:a.Nodup)(I:b.Nodup)(h : ∀x,x∈a↔x∈b):a.length=b.length:=((List.perm_ext_iff_of_nodup C I).mpr h).length_eq
theorem Kn(I:g5 p N r B l):(IS N).countP (λi=>(l5 r l i).isSome)=r:=by
 rw[LW];have e:((IS N).filter λi=>(l5 r l i).isSome).length=((IS r).map l).length:=by
  refine Vx (NR.sublist OM) ?_ λx=>?_
  ·rw[List.nodup_iff_pairwise_ne,Oo]
   refine OD (λ{a b} m O h=>?_)<|Om (n:=r);have:=I.mono a b h<|IV.mp O;omega
  ·rw[Lx,LK]
   constructor
   ·rintro⟨d,f⟩
    obtain⟨j,U⟩:=Nb.mp f;obtain⟨g,k⟩:=xQ U;exact⟨j,IV.mpr g,k⟩
   ·rintro⟨j,d,f⟩
    have d:=IV.mp d;subst f;exact⟨IV.mpr<|I.lt j d,by rw[oE I d];rfl⟩
 rw[e];simp
theorem gi(q:RX)(N:Nat):(IS N).countP q+(IS N).countP (λi=> !q i)=N:=by
 have:=Rb q (l:=IS N);rw[LP]at this;rw[this];congr 1
 ·rw[<- this]
 ·rw[<- this]
  exact MR λi _=>by simp
theorem Fv(I : ∀j,j<N->(A j).has k=dt)(t:Vc)(c:Nat):n3 p A N t k c%p=app (λi j=>(A j).v k i) N t c%p:=by unfold n3 app;rw[LF];congr 1;exact zu λj O=>by rw[RY (I j O),Ml]
theorem Zf(I : ∀j,j<N->(A j).has k=dt)(h:l5 r l i=bQ j)(c:Nat):(hX p A N r B l i).v k c%p=app (λi j=>(A j).v k i) N (B j) c%p:=by unfold hX;rw[h];exact Fv I (B j) c
theorem XH(h:l5 r l i=none):hX p A N r B l i=A i:=by unfold hX;rw[h]
theorem bH(hp:Pr p)(L : ∀k,wd k<=8)(Y : ∀j,j<wd k->(A j).has k=dt)(hs : ∀v:Vc,∃t,∀i,i<wd k->v i%p=app (λi j=>(A j).v k i) (wd k) t i%p)
 (J:g5 p (wd k) r B l) (hW : ∀t,Span p (wd k) (el r B) t↔uo p w wd T k (app (λi j=>(A j).v k i) (wd k) t)) {H:List Vc} (C:gQ p w wd T k H) {nx:Nat->Option Vc}
 (hr : ∀i,i<wd k->w k=ed->(nx i=none->∀c,c<wd (k+1)->app (T k) (wd k) ((hX p A (wd k) r B l i).v k) c%p=0)/\∀y,nx i=bQ y->(∀c,c<wd (k+1)->app (T k) (wd k) ((hX p A (wd k) r B l i).v k) c%p=y c%p)/\∃c,c<wd (k+1)/\y c%p≠0)
 (Z : ∀i,i<wd k->w k=dt->(nx i=none->¬∃y:Vc,∀c,c<wd k->app (T k) (wd<|k+1) y c%p=(hX p A (wd k) r B l i).v k c%p)/\∀y,nx i=bQ y->∀c,c<wd k->app (T k) (wd<|k+1) y c%p=(hX p A (wd k) r B l i).v k c%p) :
 (∀y,y∈H->∀c,c<wd (k+1)->0<=y c/\y c<p)/\(∀y,y∈H->w k=dt->∀c,c<wd k->app (T k) (wd<|k+1) y c%p=0)/\
   (∀v,Span p (wd<|k+1) (λg=>(∃i,i<wd k/\nx i=bQ g)\/g∈H) v)/\(IS<|wd k).countP (λi=>(nx i).isSome)+H.length=wd (k+1):=by
 have two:=hp.two;cases hw:w k with
 | false=>
  have x : ∀t,Span p (wd k) (el r B) t↔t5 p (wd<|k+1) (wd k) (T k) (app (λi j=>(A j).v k i) (wd k) t):=λt=>by have:=hW t;unfold uo at this;rw[hw,EQ ⋯]at this;exact this
  unfold gQ at C;rw[hw,EQ ⋯]at C;obtain⟨u,B2,o,N,hI,f⟩:=C;obtain⟨g1,g2,g3,M⟩:=uU hp (L k) (L<|k+1) hs J x N hI;have b6 : ∀c,c<wd (k+1)->(∀j,j<u->o j≠c)->jI c∈H:=λc U C=>by rw[f];refine LK.mpr ⟨c,Lx.mpr ⟨IV.mpr U,?_⟩,rfl⟩;simp only[Nh,decide_eq_false_iff_not,LK,IV];rintro⟨j,d,m⟩;exact C j d ⋯
  have on : ∀i,i<wd k->(nx i).isSome=(l5 r l i).isNone:=λi b=>by
   cases O:l5 r l i with
   | none=>
    obtain⟨c,d,m⟩:=g2 i b<|ZY O;cases I:nx i with
    | some y=>rfl
    | none=>
     have:=(hr i b hw).1 I c d;rw[XH O]at this;exact absurd this m
   | some j=>
    obtain⟨d,m⟩:=xQ O;cases I:nx i with
    | none=>rfl
    | some y=>
     obtain⟨e,c,Q,h4⟩:=(hr i b hw).2 y I;have z:=g1 j d c Q;rw[<- jK (λa _=>Zf (B:=B) (r:=r) (l:=l) Y O a) c,e c Q]at z;exact absurd z h4
  refine⟨λy I c U=>?_,(λy I z=>by cases z),λv=>M _ (λc U E=>?_) (λc U E=> .gen (.inr<|b6 c U E)) v,?_⟩
  ·rw[f]at I
   obtain⟨i,_,rfl⟩:=LK.mp I;unfold jI;split<;>omega
  ·have O:l5 r l c=none:=by
    cases O:l5 r l c with
    | none=>rfl
    | some j=>exact absurd (xQ O).2 (E j (xQ O).1)
   have n:=on c U;rw[O]at n;obtain⟨y,I⟩:=Nb.mp n;refine(Span.gen<|.inl ⟨c,U,I⟩).congr λi b=>?_;have:=((hr c U hw).2 y I).1 i b;rw[XH O]at this;exact this
  ·have G:(IS<|wd k).countP (λi=>(nx i).isSome)=(IS<|wd k).countP λi=> !(l5 r l i).isSome:=MR λi b=>by
    rw[on i (IV.mp b)];cases l5 r l i<;>simp
   have e2:=gi (λi=>(l5 r l i).isSome)<|wd k;rw[Kn J]at e2;have e3:=gi (λi=>(l5 u o i).isSome)<|wd<|k+1;rw[Kn N]at e3;have e4:H.length=(IS<|wd<|k+1).countP λi=> !(l5 u o i).isSome:=by
    rw[f,Ly,<- LW];refine MR λi b=>?_;cases O:l5 u o i with
    | none=>
     have:=ZY O;simp only[Nh,decide_eq_false_iff_not,LK,IV];constructor
     ·intro _;rfl
     ·rintro _ ⟨j,d,m⟩
      exact this j d ⋯
    | some j=>
     obtain⟨d,m⟩:=xQ O;simp only[Nh,decide_eq_false_iff_not,LK,IV];constructor
     ·intro z;exact absurd ⟨j,d,by rw[m]⟩ z
     ·intro z;cases z
   rw[G,e4];omega
 | true=>
  have x : ∀t,Span p (wd k) (el r B) t↔Span p (wd k) (el (wd<|k+1) λj i=>T k i j) (app (λi j=>(A j).v k i) (wd k) t):=λt=>by have:=hW t;unfold uo at this;rw[hw,RY rfl]at this;exact this
  unfold gQ at C;rw[hw,RY rfl]at C;obtain⟨q,K,lK,s,f,R,P,S,W⟩:=C;obtain⟨g1,g2,g3,M⟩:=uV hp (L k) (L<|k+1) hs J x P S W;have on : ∀i,i<wd k->(nx i).isSome=(l5 r l i).isSome:=λi b=>by
   cases O:l5 r l i with
   | none=>
    cases I:nx i with
    | none=>rfl
    | some y=>
     have:=(Z i b hw).2 y I;rw[XH O]at this;exact absurd ⟨y,this⟩<|g2 i b<|ZY O
   | some j=>
    obtain⟨d,m⟩:=xQ O;cases I:nx i with
    | some y=>rfl
    | none=>
     obtain⟨y,X⟩:=g1 j d;exact absurd ⟨y,λc U=>by rw[X c U,Zf Y O c]⟩<|(Z i b hw).1 I
  refine⟨λy I c U=>?_,λy I _ c U=>?_,λv=>M _ (λj=>(nx<|l j).getD λ_=>0) (λj h=>?_) (λj h=>?_) v,?_⟩
  ·rw[f]at I
   obtain⟨j,h,rfl⟩:=LK.mp I;exact R.ji j c (IV.mp h) U
  ·rw[f]at I
   obtain⟨j,h,rfl⟩:=LK.mp I;exact(P<|K j).mp (.gen ⟨j,IV.mp h,rfl⟩) c U
  ·have O:=oE J h
   have F:=J.lt j h;have n:=on (l j) F;rw[O]at n;obtain⟨y,I⟩:=Nb.mp n;rw[I];refine⟨.gen<|.inl ⟨l j,F,I⟩,λc U=>?_⟩;have:=(Z (l j) F hw).2 y I c U;rw[Zf Y O c]at this;exact this
  ·refine .gen (.inr ?_)
   rw[f];exact LK.mpr ⟨j,IV.mpr h,rfl⟩
  ·have G:(IS<|wd k).countP (λi=>(nx i).isSome)=(IS<|wd k).countP λi=>(l5 r l i).isSome:=MR λi b=>by
    rw[on i (IV.mp b)]
   rw[G,Kn J,f,Ly,LP];omega
end
section
variable{wd:RZ}{m k:Nat}{p:Int}{w:RX}{T:RV}
theorem fL:Kx=jn 9 (zN R0<|zN R3<|zN R4<|zN R5<|zN R6<|zN R7 L8):=rfl
theorem Fq(y:Vc):qw wd (o8 k y) = .tup [.int ((k:Int)+1),.tup [.tup (zA (wd<|k+1) y)]]:=by unfold qw o8 kP;simp
theorem mS(H:Pr p)(O : ∀k,wd k<=8)(hm:m<=5)(Y:k<m)(hT : ∀i j,i<eK w wd k->j<eX w wd k->0<=T k i j/\T k i j<p){C:List e9}(I:B3 p w wd T k C)(Z:C.length<=100) :
 ∃J,B3 p w wd T (k+1) J/\J.length<=C.length+8/\Kx [jh p m w wd T,.int k,.lst (C.map<|qw wd)]=bQ (.val<|.lst<|J.map<|qw wd):=by
 have hl:=jm;have X:=H.pos;have R:C.length<=lim:=by omega
 have K:(C.filter λb=>b.has k).length=wd k:=by rw[<- LW];exact I.ct k<|Le _
 let A:Nat->e9:=λj=>(C.filter λb=>b.has k).getD j gY;have S:(C.filter λb=>b.has k)=(IS<|wd k).map A:=by rw[<- K];exact(jg gY _).symm
 have W : ∀j,j<wd k->A j∈C/\(A j).has k=dt:=λj U=>by
  have:A j∈C.filter λb=>b.has k:=by show(C.filter λb=>b.has k).getD j gY∈_;rw[IZ,IX ⋯];exact My _
  have:=Lx.mp this;exact⟨this.1,by simpa using this.2⟩
 have M : ∀j,j<wd k->m5 p w wd T k (A j):=λj U=>I.ok _ (W j U).1;have hO : ∀i c,i<c->c<wd k->Ord w (A i) (A c):=λi c f x=>by have:=Nn.mp I.od i c ⋯ ⋯ f;show Ord w ((C.filter λb=>b.has k).getD i gY) ((C.filter λb=>b.has k).getD c gY);rw[IZ,IX ⋯,IZ,IX ⋯];exact this
 have G : ∀j,j<wd k->(A j).has k=dt:=λj U=>(W j U).2;obtain⟨r,B,l,P,hW,eS⟩:=aJ (T:=T) (w:=w) (A:=A) (N:=wd k) (k:=k) H (λj U=>by have:=(M j U).le;omega) G Y (O k) hm O λj rm i U hh a=>(M j U).ji rm i hh a;have i6 : ∀i,i<wd k->m5 p w wd T k (hX p A (wd k) r B l i):=λi a=>nQ X P M G hO a;have ap : ∀i,i<wd k->(hX p A (wd k) r B l i).has k=dt:=λi a=>by rw[Vg];exact G i a
 have ex : ∀i,∃o:Option Vc,i<wd k->(kE [.int p,vF w wd T k,.tup (zA (wd k)<|(hX p A (wd k) r B l i).v k)]=bQ (.val<|oD (wd<|k+1) o)/\(∀y,o=bQ y->∀c,c<wd (k+1)->0<=y c/\y c<p)/\
  (w k=ed->(o=none->∀c,c<wd (k+1)->app (T k) (wd k) ((hX p A (wd k) r B l i).v k) c%p=0)/\∀y,o=bQ y->(∀c,c<wd (k+1)->app (T k) (wd k) ((hX p A (wd k) r B l i).v k) c%p=y c%p)/\∃c,c<wd (k+1)/\y c%p≠0)/\
  (w k=dt->(o=none->¬∃y:Vc,∀c,c<wd k->app (T k) (wd<|k+1) y c%p=(hX p A (wd k) r B l i).v k c%p)/\∀y,o=bQ y->∀c,c<wd k->app (T k) (wd<|k+1) y c%p=(hX p A (wd k) r B l i).v k c%p)):=λi=>by
  by_cases a:i<wd k
  ·obtain⟨o,h⟩:=Yr (T:=T) (w:=w) (k:=k) H O hT ((hX p A (wd k) r B l i).v k) λc hc=>(i6 i a).ji k c (ap i a) hc
   exact⟨o,λ_=>h⟩
  ·exact⟨none,λz=>absurd z a⟩
 obtain⟨nx,u⟩:=NS ex;obtain⟨d,hN,eN⟩:=Ys (T:=T) (w:=w) (k:=k) H O;have hs : ∀v:Vc,∃t,∀i,i<wd k->v i%p=app (λi j=>(A j).v k i) (wd k) t i%p:=λv=>by
  have hv:Span p (wd k) (el (wd k) λj=>(A j).v k) v:=(I.sp k (Le _) v).le λg hg=>by obtain⟨b,f,x,rfl⟩:=hg;have as:b∈C.filter λb=>b.has k:=Lx.mpr ⟨f,by simpa using x⟩;rw[S]at as;obtain⟨j,U,rfl⟩:=LK.mp as;exact .gen ⟨j,IV.mp U,rfl⟩
  obtain⟨t,ht⟩:=K0 hv;exact⟨t,λi a=>by rw[ht i a];unfold app;rw[xl]⟩
 obtain⟨f1,f2,f3,f4⟩:=bH (T:=T) (w:=w) (A:=A) H O G hs P hW hN (nx:=nx) (λi a=>(u i a).2.2.1) λi a=>(u i a).2.2.2;refine⟨vE p k w C A (wd k) r B l nx d,fK X I K (λ_=>rfl) P (λi y a e=>(u i a).2.1 y e) f1 (λi a e n=>((u i a).2.2.1 n).1 e) (λi y a e n=>(((u i a).2.2.1 n).2 y e).1) (λi y a e n=>((u i a).2.2.2 n).2 y e) f2 f3 f4,?_,?_⟩
 ·have f:(C.filter λb=> !b.has k).length+wd k=C.length:=by
   have:=Rb (λb:e9=>b.has k) (l:=C);rw[<- K,<- LW,<- LW,this];have e:C.countP (λb=> !b.has k)=C.countP λb=>decide (¬b.has k=dt):=MR λb _=>by simp
   rw[e];omega
  have x:=O<|k+1;unfold vE;rw[Md];cases w k<;>simp<;>omega
 ·
  let L:D:= .lst (C.map<|qw wd);have e3:zQ (.nm 0) (j8<|sB<|zC qi<|za (zc 0)<|za (zc 1) zD) (zc 0) [.no,.val (.int k)] (C.map<|qw wd)=bQ ((C.filter λb=> !b.has k).map (qw wd)):=by refine jy (g:=qw wd) (λb=> !b.has k) (qw wd) C λb Q=>⟨[.val (qw wd b),.val (.int k)],rfl,?_,λ_=>by rfl⟩;have e:=yA (wd:=wd) (b:=b) (by have:=(I.ok b Q).le;omega) k;simp[e]
  have e4:zQ (.nm 0) (sB<|zC qi<|za (zc 0)<|za (zc 1) zD) (zc 0) [.no,.val (.int k)] (C.map<|qw wd)=bQ ((IS<|wd k).map λj=>qw wd<|A j):=by
   have:((C.filter λb=>b.has k).map (qw wd))=(IS<|wd k).map λj=>qw wd (A j):=by rw[S,LG];rfl
   rw[<- this];refine jy (g:=qw wd) (λb=>b.has k) (qw wd) C λb Q=>⟨[.val (qw wd b),.val (.int k)],rfl,?_,λ_=>by rfl⟩;have e:=yA (wd:=wd) (b:=b) (by have:=(I.ok b Q).le;omega) k;simp[e]
  have e5:zQ (.nm 0) jj (zC vt<|za (zc 1)<|za (zc 2)<|za (zc 0) zD) [.no,.val<|.int p,.val (vF w wd T k)] ((IS<|wd k).map λi=>qw wd<|hX p A (wd k) r B l i)=bQ ((IS<|wd k).map λi=>qw wd<|j1 k (hX p A (wd k) r B l i)<|nx i):=by refine zx _ _ λi a=>zy rfl rfl ?_;have a:=IV.mp a;have f:=i5.mp<|ap i a;have e:=iy (p:=p) (i6 i a).n1 (by have:=(i6 i a).le;omega) (show k<=20 by omega) (u i a).1;simp[e]
  have e6:zQ (.nm 0) jj (qQ<|za (zH qa (zc 1)<|zv<|.int 1)<|za (qQ<|za (zc 0) zD) zD) [.no,.val (.int k)] (d.map λy=>D.tup<|zA (wd<|k+1) y)=bQ ((d.map<|o8 k).map (qw wd)):=by rw[LG];refine zx _ _ λy hy=>zy rfl rfl ?_;show _=bQ (qw wd<|o8 k y);rw[Fq];rfl
  have bx:d.length<=lim:=by have:=O<|k+1;omega
  have c0:wd k<=lim:=by have:=O k;omega
  let s:D:= .lst ((C.filter λb=> !b.has k).map (qw wd));let F:D:= .lst ((IS<|wd k).map λi=>qw wd<|hX p A (wd k) r B l i);let E:D:= .lst ((IS<|wd k).map λi=>qw wd<|j1 k (hX p A (wd k) r B l i)<|nx i);let Ne:D:= .lst ((d.map<|o8 k).map (qw wd));rw[fL];refine jb (zk (γ':=[.val (jh p m w wd T),.val<|.int k,.val L,.val<|.int p,.no,.no,.no,.no,.no]) ?_
   (zk (γ':=[.val (jh p m w wd T),.val<|.int k,.val L,.val<|.int p,.val<|vF w wd T k,.no,.no,.no,.no]) ?_
   (zk (γ':=[.val (jh p m w wd T),.val<|.int k,.val L,.val<|.int p,.val<|vF w wd T k,.val s,.no,.no,.no]) ?_
   (zk (γ':=[.val (jh p m w wd T),.val<|.int k,.val L,.val<|.int p,.val<|vF w wd T k,.val s,.val F,.no,.no]) ?_
   (zk (γ':=[.val (jh p m w wd T),.val<|.int k,.val L,.val<|.int p,.val<|vF w wd T k,.val s,.val F,.val E,.no]) ?_
   (zk (γ':=[.val (jh p m w wd T),.val<|.int k,.val L,.val<|.int p,.val<|vF w wd T k,.val s,.val F,.val E,.val Ne]) ?_ ?_))))))
  ·simp[R0,z7,La,yU,L]
  ·simp[R3,yU,J0,Y]
  ·simp[R4,z6,L,R,e3,s]
  ·simp[R5,z6,L,R,e4,eS,F]
  ·simp[R6,z6,F,c0,e5,E]
  ·simp[R7,z6,eN,bx]
   rw[e6];simp[Ne]
  ·have c3:(C.filter λb=> !b.has k).length<=100:=Mj (ND _ _) Z
   have q1:=O k;have q2:=O<|k+1;cases n:w k with
   | false=>
    have eq:=Ki ed;have f:d.length+wd k<=lim:=by omega
    have x:(C.filter λb=> !b.has k).length+(d.length+wd k)<=lim:=by omega
    simp[L8,ye,n,eq,s,E,Ne,vE,f,x]
   | true=>
    have eq:=Ki dt;have f:wd k+d.length<=lim:=by omega
    have x:(C.filter λb=> !b.has k).length+(wd k+d.length)<=lim:=by omega
    simp[L8,ye,n,eq,s,E,Ne,vE,f,x]
end
section
variable{wd:RZ}{m k:Nat}{p:Int}{w:RX}{T:RV}
def ia(c:Nat):e9:=⟨0,1,λ_=>jI c⟩
theorem tj(C:Pr p):B3 p w wd T 0 ((IS<|wd 0).map ia):=by
 have two:=C.two;have a : ∀b,b∈(IS<|wd 0).map ia ↔ ∃c,c<wd 0/\b=ia c:=λb=>by rw[LK];exact⟨λ⟨c,d,e⟩=>⟨c,IV.mp d,e.symm⟩,λ⟨c,d,e⟩=>⟨c,IV.mpr d,e.symm⟩⟩
 have U : ∀c,(ia c).has 0=dt:=λc=>i5.mpr ⟨Le _,by show 0<0+1;omega⟩;refine⟨λb I=>?_,λr h v=>?_,λr h=>?_,?_⟩
 ·obtain⟨c,O,rfl⟩:=(a b).mp I
  exact⟨Le _,by show 0+1<=0+1;omega,λr i _ _=>by show 0<=jI c i/\jI c i<p;unfold jI;split<;>omega,λj k=>by omega⟩
 ·have:r=0:=by omega
  subst this;refine(YH (wd 0) v).le λg f=>?_;obtain⟨c,O,rfl⟩:=f;exact .gen ⟨ia c,(a _).mpr ⟨c,O,rfl⟩,U c,rfl⟩
 ·have:r=0:=by omega
  subst this;rw[List.countP_eq_length.mpr λb I=>?_]
  ·simp
  ·obtain⟨c,O,rfl⟩:=(a b).mp I
   exact U c
 ·refine Pd _ ?_
  rw[Oo];exact Nn.mpr λ_ _ _ _ _=>⟨λz=>absurd z<|Mi 0,λz=>absurd z<|Mi 0⟩
theorem Kr:vX=jn 3 (zN L5<|zN P7 P8):=rfl
def Yw(b:e9):Int×Int:=((b.s:Int),((b.s+b.n - 1:Nat):Int))
theorem fu : ∀C:List e9,(∀b,b∈C->1<=b.n/\b.s+b.n<=100)->fv qk (C.map<|qw wd)=bQ (C.map Yw)
 | [],_=>rfl
 | b::C,h=>by have a:=h b Lp;have e:=QQ (wd:=wd) a.1 a.2;have I:=fu C λb O=>h b<|Lj _ O;simp only[Mc,fv,e,I,IY];rfl
noncomputable def ku(C:List e9):List e9:=(xV<|C.map Yw).map λi=>C.getD i gY
theorem Jw(C:List e9):(ku C).Perm C:=by have h:=qR<|C.map Yw;rw[Ly]at h;have:=h.map λi=>C.getD i gY;rw[jg]at this;exact this
theorem K4(C:List e9):(ku C).map Yw=kH (C.map Yw):=by unfold ku kH;rw[LG];refine Ll λi a=>?_;have h:=qR<|C.map Yw;have a:=IV.mp<|h.mem_iff.mp a;rw[Ly]at a;simp[a]
theorem Y5(O:Pr p)(U : ∀k,wd k<=8)(J:m<=5)(H : ∀k i j,k<m->i<eK w wd k->j<eX w wd k->0<=T k i j/\T k i j<p) :
 ∃C,B3 p w wd T m C/\C.length<=48/\vX [jh p m w wd T]=bQ (.own<|(ku C).map (qw wd)):=by
 have P:=jm;have N:=U 0;have g:wd 0<=lim:=by omega
 have E:=kB (n:=wd 0) g;have u:je (jJ (wd 0) (wd 0) λi j=>if i=j then 1 else 0)=bQ (.T,[.int (wd 0:Nat),.int (wd 0:Nat),.tup (zX (wd 0) (wd 0) λi j=>if i=j then 1 else 0)]):=rfl;have z:zQ (.nm 0) jj (qQ<|za (zv<|.int 0)<|za (qQ<|za (zc 0) zD) zD) [.no] (zX (wd 0) (wd 0) λi j=>if i=j then 1 else 0)=bQ (((IS<|wd 0).map ia).map (qw wd)):=by rw[LG];unfold zX;refine zx _ _ λi a=>zy rfl rfl ?_;show bQ _=bQ (qw wd<|ia i);unfold qw ia kP;simp;rfl
 have x1:L5 (z7 3 [jh p m w wd T])=bQ (.next [.val (jh p m w wd T),.val<|.lst<|((IS<|wd 0).map ia).map (qw wd),.no]):=by simp[L5,z7,La,yU,E,u,z6,g];rw[z];simp
 obtain⟨L,K,C,c,I,x,rfl⟩:=qS (T:= .nm 2) (F:=jo 1<|zC Kx<|za (zc 0)<|za (zc 2)<|za (zc 1) zD) (f:=xH<|zw<|dy (ze 0)<|zv<|.int 2)
  (λj γ=>∃C c,B3 p w wd T j C/\C.length<=8*(j+1)/\γ=[.val (jh p m w wd T),.val<|.lst<|C.map<|qw wd,c]) m ⋯ (γ:=[.val (jh p m w wd T),.val<|.lst<|((IS<|wd 0).map ia).map (qw wd),.no])
  (by simp[yU]) ⟨_,_,tj O,by simp;omega,rfl⟩ λs r γ d=>by obtain⟨C,c,I,x,rfl⟩:=d;obtain⟨l,t,M,e⟩:=mS (T:=T) (w:=w) (k:=s) O U J r (H s · · r) I ⋯;refine⟨_,[.val (jh p m w wd T),.val<|.lst<|l.map<|qw wd,.val (.int s)],rfl,?_,l,_,t,by omega,rfl⟩;simp[e]
 refine⟨C,I,by omega,?_⟩;have B:=fu (wd:=wd) C λb o=>⟨(I.ok b o).n1,by have:=(I.ok b o).le;omega⟩;rw[Kr];refine jb<|zk x1<|zk (show P7 _=_ from K) ?_;have y:C.length<64:=by omega
 unfold P8;have A:nU qk (ze 1) [.val (jh p m w wd T),.val<|.lst<|C.map<|qw wd,c]=bQ ((ku C).map (qw wd)):=by show((fv qk<|C.map<|qw wd).bind λG=>if (C.map<|qw wd).length<64 then bQ ((xV G).map λi=>(C.map<|qw wd).getD i .e7)else none)=_;rw[B];simp only[IY,Ly,y,if_true];congr 1;unfold ku;rw[LG];refine Ll λi a=>?_;have h:=qR<|C.map Yw;have a:=IV.mp<|h.mem_iff.mp a;rw[Ly]at a;simp[a]
 rw[gJ,A];rfl
theorem B3.perm(h:RI.Perm mm)(I:B3 p w wd T k mm):(∀b,b∈RI->m5 p w wd T k b)/\(∀r,r<=k->∀v,Span p (wd r) (HE RI r) v)/\∀r,r<=k->RI.countP (λb=>b.has r)=wd r:=by
 refine⟨λb U=>I.ok b<|h.mem_iff.mp U,λr O v=>(I.sp r O v).le λg f=>?_,λr O=>?_⟩
 ·obtain⟨b,a,d,e⟩:=f
  exact .gen ⟨b,h.mem_iff.mpr a,d,e⟩
 ·rw[h.countP_eq];exact I.ct r O
end
def m8(bs:List (Int×Int))(k:Nat):Nat:=(jf bs k).length
noncomputable def p8(w:RX)(bs:List (Int×Int))(k i j:Nat):Int:=if (jf bs<|zK w k).getD i 0=(jf bs<|zE w k).getD j 0 then 1 else 0
theorem V7(I:0<p)(w:RX)(wd:RZ)(f g T:RV)(k i j:Nat):0<=yk p w wd f g T k i j/\yk p w wd f g T k i j<p:=
 ⟨LQ _ ⋯,LB _ I⟩
noncomputable def aE(m:Nat)(wd:RZ)(f:RV):List TB:=(IS<|m+1).map λk=>(wd k,wd k,f k)
theorem cI(m wd f):(aE m wd f).map tD=yR (m+1) wd f:=by unfold aE yR;rw[LG];rfl
section
variable{p:Int}{n:Nat}
theorem gW(C:Pr p)(H:n<=20)(f:RK) : ∃r B l,g5 p (n+n) r B l/\(∀v,Span p (n+n) (el r B) v↔Span p (n+n) (el n λi=>kS n (f i)<|jI i) v)/\
 yj [.int p,jJ n n f]=bQ (.val<|if lL (.lst<|zX r n B) (.lst<|zX n n jI)=dt then .tup [.int n,.int n,.tup (zX r n λk j=>B k<|n+j)]else .e7):=by
 have E:=jm;have I:n<=lim:=by omega
 have s:n+n<=lim:=by omega
 obtain⟨r,B,l,e,O,t⟩:=xq C (show n+n<=100 by omega) I .L λi=>kS n (f i)<|jI i;refine⟨r,B,l,O,t,?_⟩;have U:r<=lim:=by have:r<=n+n:=Vt O.mono O.lt;omega
 have g:=kB (n:=n) I;have a:zQ (.tp [0,1]) jj (zH qa (zc 0)<|zc 1) [Cell.no,Cell.no] ((IS n).map λi=>D.tup [.tup (zA n<|f i),.tup (zA n λk=>if i=k then 1 else 0)])=bQ (zX n (n+n) λi=>kS n (f i)<|jI i):=by unfold zX;refine zx _ _ λj A=>zy rfl rfl ?_;simp[qa,s,wI];rfl
 have o:=V1 n n f λi j=>if i=j then 1 else 0;have x:((n:Int)+(n:Int))=((n+n:Nat):Int):=by omega
 simp only[p9]at e;rw[<- x]at e;have d:zQ (.nm 0) jj (K7 (zc 0) bZ<|nf<|zc 1) [Cell.no,Cell.val (.int n)] (zX r (n+n) B)=bQ (zX r n B):=by unfold zX;refine zx _ _ λk y=>zy rfl rfl ?_;simp[W8]
 have u:zQ (.nm 0) jj (K7 (zc 0) (nf<|zc 1) bZ) [Cell.no,Cell.val (.int n)] (zX r (n+n) B)=bQ (zX r n λk j=>B k<|n+j):=by unfold zX;refine zx _ _ λk y=>zy rfl rfl ?_;simp[W7]
 have b:h9 (.lst<|zX r n B) (.lst<|zX n n λi j=>if i=j then 1 else 0)=bQ (.bl<|!lL (.lst<|zX r n B) (.lst<|zX n n jI)):=by unfold h9;rw[RY ⟨WG _ _ _,WG _ _ _⟩];rfl
 have m : ∀(h w:Nat) (f:RK),je (jJ h w f)=bQ (.T,[.int h,.int w,.tup (zX h w f)]):=λ_ _ _=>rfl;by_cases q:lL (.lst<|zX r n B) (.lst<|zX n n jI)=dt
 ·rw[q]at b
  rw[RY q];simp[yj,jn,z7,jE,m,g,o,I,U,z6,kg,La,a,e,d,u,b]
 ·have z:lL (.lst<|zX r n B) (.lst<|zX n n jI)=ed:=by simpa using q
  rw[z]at b;rw[EQ q];simp[yj,jn,z7,jE,m,g,o,I,U,z6,kg,La,a,e,d,b]
theorem V0(U:Pr p)(L:n<=20)(H:wW p n f g)(J:wW p n g f)(C : ∀i j,i<n->j<n->0<=g i j/\g i j<p):yj [.int p,jJ n n f]=bQ (.val<|jJ n n g):=by
 obtain⟨r,B,l,F,t,e⟩:=gW U L f;have two:=U.two;have one:=U.one;have y:g5 p (n+n) n (λk=>kS n (jI k)<|g k) id:={
  lt:=λk I=>by simp only[id];omega
  mono:=λk m I _=>I
  one:=λk I=>by simp only[id];rw[jU I];exact RY rfl
  i9:=λk j I d=>by simp only[id]at d;rw[jU ⋯];exact EQ ⋯
  oe:=λk m I G b=>by simp only[id];rw[jU G];exact EQ ⋯
  ji:=λk i I a=>by
   rcases Lu i n with z | z
   ·rw[jU z];unfold jI;split<;>omega
   ·obtain⟨j,rfl⟩ : ∃j,i=n+j:=⟨i - n,by omega⟩
    rw[qf];exact C k j I ⋯}
 have w : ∀v,Span p (n+n) (el n λk=>kS n (jI k)<|g k) v->Span p (n+n) (el n λi=>kS n (f i)<|jI i) v:=λv O=>O.le λs o=>by
  obtain⟨k,I,h⟩:=o;subst h;refine(Span.sum (u:=λi=>kS n (f i)<|jI i) (λi=>g k i) (m:=n) λi a=> .gen ⟨i,a,rfl⟩).congr λj d=>?_;rcases Lu j n with z | z
  ·simp only[jU z]
   exact(J k j I z).symm
  ·obtain⟨m,rfl⟩ : ∃m,j=n+m:=⟨j - n,by omega⟩
   simp only[qf];rw[zM (i:=m) ⋯ λi _ b=>by simp[jI,b]];simp[jI]
 have x : ∀v,Span p (n+n) (el n λi=>kS n (f i)<|jI i) v->Span p (n+n) (el n λk=>kS n (jI k)<|g k) v:=λv O=>O.le λs o=>by
  obtain⟨i,a,h⟩:=o;subst h;refine(Span.sum (u:=λk=>kS n (jI k)<|g k) (λk=>f i k) (m:=n) λk I=> .gen ⟨k,I,rfl⟩).congr λj d=>?_;rcases Lu j n with z | z
  ·simp only[jU z]
   rw[zM (i:=j) z λk _ b=>by simp[jI,b]];simp[jI]
  ·obtain⟨m,rfl⟩ : ∃m,j=n+m:=⟨j - n,by omega⟩
   simp only[qf];exact(H i m a ⋯).symm
 obtain⟨rfl,_,u⟩:=JZ U F y (λv O=>x v<|(t v).mp O)<|λv O=>(t v).mpr (w v O);have A:zX r r B=zX r r jI:=W3 λk i I a=>by rw[u k i I ⋯,jU a]
 have E:zX r r (λk j=>B k<|r+j)=zX r r g:=W3 λk j I d=>by rw[u k (r+j) I ⋯,qf]
 rw[e,A,RY<|RR _,E];rfl
end
section
variable{wd:RZ}{m k N:Nat}{p:Int}{w:RX}{T:RV}{A:Nat->e9}
noncomputable def h6(A:Nat->e9)(N r:Nat):List Nat:=(IS N).filter λj=>(A j).has r
noncomputable def xM(A:Nat->e9)(N r:Nat):Nat->Nat->Int:=λi j=>(A<|(h6 A N r).getD j 0).v r i
theorem VA{r j:Nat}(h:j<(h6 A N r).length):(h6 A N r).getD j 0<N/\(A<|(h6 A N r).getD j 0).has r=dt:=by
 have d:(h6 A N r).getD j 0∈h6 A N r:=by rw[IZ,IX h];exact My _
 obtain⟨a,b⟩:=Lx.mp d;exact⟨IV.mp a,by simpa using b⟩
theorem KH(I:Pr p)(C:n<=8)(hs : ∀v:Vc,∃t,∀i,i<n->v i%p=app f n t i%p) : ∃g:RK,wW p n f g/\wW p n g f/\∀i j,0<=g i j/\g i j<p:=by
 have s:=I.pos;obtain⟨t,O⟩:=NS λj=>hs<|jI j;refine⟨λi j=>t j i%p,?_,?_,λi j=>⟨LQ _ ⋯,LB _ s⟩⟩
 ·intro i j d U
  have e:zf (λk=>f i k*(t j k%p)) n%p=app f n (t j) i%p:=zI λk _=>wA p _ _;rw[e,<- O j i d];unfold jI hH;simp only[eq_comm]
 ·intro i j d U
  have z : ∀a,a<n->app f n (λb=>zf (λk=>(t k b%p)*f k j) n - jI j b) a%p=0:=λa h=>by
   rw[J1,wU f U,MU];have e:app f n (λb=>zf (λk=>(t k b%p)*f k j) n) a%p=f a j%p:=by
    have l:app f n (λb=>zf (λk=>(t k b%p)*f k j) n) a=zf (λk=>f k j*app f n (λb=>t k b%p) a) n:=by rw[<- yE];congr 1;funext b;exact xl ..
    rw[l];have m:zf (λk=>f k j*app f n (λb=>t k b%p) a) n%p=zf (λk=>f k j*jI k a) n%p:=zI λk _=>by rw[Lc,jK (u:=t k) (λb _=>LF _ _) a,<- O k a h,<- Lc]
    rw[m,zM (f:=λk=>f k j*jI k a) h λk _ r=>by simp[jI,r]];simp[jI]
   rw[e];simp
  have:=vP I C hs z i d;have o:(zf (λk=>(t k i%p)*f k j) n)%p=jI j i%p:=Mq.mpr this;show zf (λk=>(t k i%p)*f k j) n%p=hH i j%p;rw[o];unfold jI hH;simp only[eq_comm]
theorem bP:Ky=jn 4 (zN P9<|zN RE<|zN RF RG):=rfl
theorem gE(H:Pr p)(C : ∀k,wd k<=8)(hm:m<=5)(hT : ∀k i j,k<m->i<eK w wd k->j<eX w wd k->0<=T k i j/\T k i j<p) :
 ∃(N:Nat) (A:Nat->e9) (g:RV),N<=48/\(∀j,j<N->m5 p w wd T m (A j))/\(∀r,r<=m->(h6 A N r).length=wd r)/\(∀r,r<=m->wW p (wd r) (xM A N r) (g r)/\wW p (wd r) (g r) (xM A N r)/\∀i j,0<=g r i j/\g r i j<p)/\
  kH ((IS N).map λj=>Yw<|A j)=((IS N).map λj=>Yw<|A j)/\
  Ky [jh p m w wd T]=bQ (.val<|dU ((IS N).map λj=>Yw<|A j) (aE m wd g)<|aE m wd λr=>xM A N r):=by
 have hl:=jm;obtain⟨a,I,K,G⟩:=Y5 (T:=T) (w:=w) H C hm hT;obtain⟨ok,sp,W⟩:=I.perm<|Jw a;have M:(ku a).length=a.length:=(Jw a).length_eq;let A:Nat->e9:=λj=>(ku a).getD j gY;have d:ku a=(IS a.length).map A:=by rw[<- M];exact(jg gY _).symm
 have o : ∀j,j<a.length->m5 p w wd T m (A j):=λj U=>ok _ (by
  rw[d];exact LK.mpr ⟨j,IV.mpr U,rfl⟩)
 have cnt : ∀r,r<=m->(h6 A a.length r).length=wd r:=λr O=>by have:=W r O;rw[d,ON,LW]at this;exact this
 have P : ∀r,r<=m->∀v:Vc,∃t,∀i,i<wd r->v i%p=app (xM A a.length r) (wd r) t i%p:=λr O v=>by
  have hv:Span p (wd r) (el (wd r) λj i=>xM A a.length r i j) v:=(sp r O v).le λgg l=>by obtain⟨b,f,x,rfl⟩:=l;rw[d]at f;obtain⟨j,U,rfl⟩:=LK.mp f;have Q:j∈h6 A a.length r:=Lx.mpr ⟨U,by simpa using x⟩;obtain⟨i,J,e⟩:=OK Q;refine .gen ⟨i,by rw[<- cnt r O];exact J,?_⟩;funext c;show(A j).v r c=(A<|(h6 A a.length r).getD i 0).v r c;rw[IZ,IX J];simp[e]
  exact B9.mp hv
 have R : ∀r,∃g:RK,r<=m->wW p (wd r) (xM A a.length r) g/\wW p (wd r) g (xM A a.length r)/\∀i j,0<=g i j/\g i j<p:=λr=>by
  by_cases O:r<=m
  ·obtain⟨g,h⟩:=KH H (C r) (P r O)
   exact⟨g,λ_=>h⟩
  ·exact⟨λ_ _=>0,λz=>absurd z O⟩
 obtain⟨g,l⟩:=NS R;have Z:(ku a).map Yw=(IS a.length).map λj=>Yw (A j):=by
  conv=>lhs;rw[d,LG]
  rfl
 refine⟨a.length,A,g,K,o,cnt,l,?_,?_⟩
 ·rw[<- Z,K4]
  refine Jx ?_;have:=(Jw a).map Yw;rw[K4]at this;exact this
 ·have y:a.length<=lim:=by omega
  have eL:((ku a).map (qw wd))=(IS a.length).map λj=>qw wd (A j):=by
   conv=>lhs;rw[d,LG]
   rfl
  rw[eL]at G;let L:D:= .lst ((IS a.length).map λj=>qw wd<|A j);have B : ∀j,j<a.length->(A j).s+(A j).n<=100:=λj U=>by have:=(o j U).le;omega
  have X:zQ (.tp [0,1]) jj (zC yi<|za (zc 1)<|za (jA<|ja xP<|za (zc 2)<|za (zc 0) zD) zD) [.no,.no,.val L] ((IS<|m+1).map λ(i:Nat)=>D.tup [.int i,.int (wd i:Nat)])=bQ (yR (m+1) wd λr=>xM A a.length r):=by unfold yR;refine zx _ _ λr O=>zy rfl rfl ?_;have O:=IV.mp O;have F:=vO (wd:=wd) B y r;rw[WM (wd r) (λj=>(A j).v r),show((IS a.length).filter λj=>(A j).has r)=h6 A a.length r from rfl,cnt r ⋯]at F;have b9:=C r;have u:=Zw (q:=wd r) (h:=wd r) (λi=>(A<|(h6 A a.length r).getD i 0).v r) ⋯ ⋯;simp[-IZ,L,F,u];rfl
  have u:zQ (.nm 0) jj (zC yj<|za (dy (ze 1)<|zv<|.int 0)<|za (zc 0) zD) [.no,.val (jh p m w wd T)] (yR (m+1) wd λr=>xM A a.length r)=bQ (yR (m+1) wd g):=by unfold yR;refine zx _ _ λr O=>zy rfl rfl ?_;have O:=IV.mp O;obtain⟨f,x,h3⟩:=l r ⋯;have e:=V0 H (n:=wd r) (by have:=C r;omega) f x λi j _ _=>h3 i j;simp[yU,e]
  have Y:zQ (.nm 0) jj (zC qk<|za (zc 0) zD) [.no] ((IS a.length).map λj=>qw wd<|A j)=bQ (jq<|(IS a.length).map λj=>Yw<|A j):=by unfold jq;rw[LG];refine zx _ _ λj U=>zy rfl rfl ?_;have U:=IV.mp U;have e:=QQ (wd:=wd) (o j U).n1 (B j U);simp[e];exact⟨rfl,rfl⟩
  have ew:k4 (zA (m+1) λk=>(wd k:Int))=(IS<|m+1).map λ(i:Nat)=>D.tup [.int i,.int (wd i:Nat)]:=W1 _ _;have E:m+1<=lim:=by omega
  have S : ∀g:RV,(yR (m+1) wd g).length=m+1:=λg=>by simp[yR]
  rw[bP];refine jb<|zk (γ':=[.val (jh p m w wd T),.val L,.no,.no]) ?_ (zk (γ':=[.val (jh p m w wd T),.val L,.val<|.lst<|yR (m+1) wd λr=>xM A a.length r,.no]) ?_ (zk (γ':=[.val (jh p m w wd T),.val L,.val<|.lst<|yR (m+1) wd λr=>xM A a.length r,.val (.lst<|yR (m+1) wd g)]) ?_ ?_))
  ·simp[P9,z7,La,G,L]
  ·simp[RE,z6,yU,ew,E,X]
  ·simp[RF,z6,S,E,u]
  ·unfold dU
   rw[cI,cI];simp[RG,z6,L,y,Y]
end
section
variable{wd:RZ}{m k N:Nat}{p:Int}{w:RX}{T:RV}{A:Nat->e9}{g:RV}
noncomputable def kI(A:Nat->e9)(N:Nat):List (Int×Int):=(IS N).map λj=>Yw<|A j
theorem sY{b:e9}(C:1<=b.n)(r:Nat):mQ (Yw b) (r:Int)=b.has r:=by
 unfold mQ Yw e9.has;dsimp only;congr 1
 ·exact decide_eq_decide.mpr ⋯
 ·exact decide_eq_decide.mpr ⋯
theorem ya(C : ∀j,j<N->1<=(A j).n)(r:Nat):jf (kI A N) (r:Int)=h6 A N r:=by unfold jf h6 kI;simp only[Ly,LP];refine SN λj I=>?_;have I:=IV.mp I;rw[IZ,Lz,MP I];exact sY (C j I) r
theorem Yx(A N r):(h6 A N r).Nodup:=NR.sublist OM
theorem bj{L:List Nat}(h:L.Nodup){a b:Nat}(C:a<L.length)(I:b<L.length)(e:L.getD a 0=L.getD b 0):a=b:=by rw[IZ,IZ,IX C,IX I]at e;exact(List.getElem_inj h).mp e
theorem mN(O : ∀j,j<N->m5 p w wd T m (A j))(U:k<m){i b:Nat}(hi:i<wd (zK w k))(C:b<(h6 A N<|zE w k).length) :
 zf (λa=>(if (h6 A N<|zK w k).getD a 0=(h6 A N<|zE w k).getD b 0 then (1:Int)else 0)*xM A N (zK w k) i a) (h6 A N<|zK w k).length%p=app (T k) (wd<|zE w k) (λc=>xM A N (zE w k) c b) i%p:=by
 obtain⟨h,s⟩:=VA C;have q:=(O _ h).arr k U s i hi;show _=app (T k) (wd<|zE w k) ((A<|(h6 A N<|zE w k).getD b 0).v (zE w k)) i%p;rw[q];congr 1;cases hx:(A<|(h6 A N<|zE w k).getD b 0).has (zK w k)with
 | true=>
  have n:(h6 A N<|zE w k).getD b 0∈h6 A N (zK w k):=Lx.mpr ⟨IV.mpr h,by simpa using hx⟩;obtain⟨l,I,r⟩:=OK n;have d:(h6 A N<|zK w k).getD l 0=(h6 A N<|zE w k).getD b 0:=by rw[<- r,IZ,IX I];rfl
  rw[zM (f:=λa=>(if (h6 A N<|zK w k).getD a 0=(h6 A N<|zE w k).getD b 0 then (1:Int)else 0)*xM A N (zK w k) i a) I λa e o=>by rw[EQ λz=>o (bj (Yx A N _) e I<|z.trans d.symm)];simp]
  rw[RY d,RY rfl];unfold xM;rw[d];simp
 | false=>
  rw[EQ ⋯];rw[zu (g:=λ_=>0) λa e=>by
   rw[EQ λz=>by have:=(VA e).2;rw[z,hx]at this;cases this]
   simp]
  exact zO _
theorem nG(L:Pr p)(U : ∀j,j<N->m5 p w wd T m (A j))(cnt : ∀r,r<=m->(h6 A N r).length=wd r)(H : ∀r,r<=m->wW p (wd r) (xM A N r) (g r))(J:k<m){i j:Nat}(hi:i<wd (zK w k))(I:j<wd (zE w k))(C:0<=T k i j/\T k i j<p) :
 T k i j=yk p w (m8<|kI A N) (λr=>xM A N r) g (p8 w<|kI A N) k i j:=by
 have d : ∀j,j<N->1<=(A j).n:=λj I=>(U j I).n1;have O:zE w k<=m:=by unfold zE;split<;>omega
 have e:zK w k<=m:=by unfold zK;split<;>omega
 unfold yk;have o:m8 (kI A N) (zE w k)=wd (zE w k):=by unfold m8;rw[ya d,cnt _ O]
 have s:m8 (kI A N) (zK w k)=wd (zK w k):=by unfold m8;rw[ya d,cnt _ e]
 rw[o,s];have f:zf (λb=>g (zE w k) b j*(zf (λa=>p8 w (kI A N) k a b*xM A N (zK w k) i a) (wd<|zK w k)%p)) (wd<|zE w k)%p
  = zf (λb=>g (zE w k) b j*app (T k) (wd<|zE w k) (λc=>xM A N (zE w k) c b) i) (wd<|zE w k)%p:=zI λb t=>by
  have:=mN (T:=T) (k:=k) U J hi (b:=b) (by rw[cnt _ O];exact t);rw[cnt _ e]at this;have h:zf (λa=>p8 w (kI A N) k a b*xM A N (zK w k) i a) (wd<|zK w k)=zf (λa=>(if (h6 A N<|zK w k).getD a 0=(h6 A N<|zE w k).getD b 0 then (1:Int)else 0)*xM A N (zK w k) i a) (wd<|zK w k):=zu λa _=>by unfold p8;rw[ya d,ya d]
  rw[h,this,wA]
 have l:zf (λb=>g (zE w k) b j*app (T k) (wd<|zE w k) (λc=>xM A N (zE w k) c b) i) (wd<|zE w k)=app (T k) (wd<|zE w k) (λc=>zf (λb=>xM A N (zE w k) c b*g (zE w k) b j)<|wd<|zE w k) i:=by rw[<- yE];congr 1;funext c;exact xl ..
 rw[show(zf (λb=>g (zE w k) b j*(zf (λa=>p8 w (kI A N) k a b*(λr=>xM A N r) (zK w k) i a) (wd<|zK w k)%p)) (wd<|zE w k)%p)=_ from f,l,
  jK (u:=jI j) (λc x=>by rw[H _ O c j x I];unfold hH jI;simp only[eq_comm]) i,wU (T k) I]
 exact(LX C.1 C.2).symm
end
structure ow(p:Int)(w:RX)(wd:RZ)(T:RV)(m N:Nat)(A:Nat->e9):Prop where
 ok : ∀j,j<N->m5 p w wd T m (A j)
 sp : ∀r,r<=m->∀v:Vc,∃t:Vc,∀i,i<wd r->v i%p=zf (λj=>if (A j).has r=dt then t j*(A j).v r i else 0) N%p
 inj : ∀r,r<=m->∀t:Vc,(∀i,i<wd r->zf (λj=>if (A j).has r=dt then t j*(A j).v r i else 0) N%p=0)->∀j,j<N->(A j).has r=dt->t j%p=0
 cnt : ∀r,r<=m->(h6 A N r).length=wd r
noncomputable def Lk(p:Int)(w:RX)(wd:RZ)(T:RV)(k:Nat)(y z:Vc):Prop:=
 if w k=dt then ∀i,i<wd k->y i%p=app (T k) (wd<|k+1) z i%p else ∀i,i<wd (k+1)->z i%p=app (T k) (wd k) y i%p
noncomputable def Wk(p:Int)(w:RX)(wd:RZ)(T:RV)(d:Nat):Nat->Vc->Vc->Prop
 | 0,u,z=>∀i,i<wd d->u i%p=z i%p
 | n+1,u,z=>∃y,Wk p w wd T d n u y/\Lk p w wd T (d+n) y z
section
variable{p:Int}{w:RX}{wd:RZ}{T:RV}{m N N':Nat}{A A':Nat->e9}{d:Nat}
theorem Vu(C:a%p=b%p)(H:a'%p=b'%p):(a+c*a')%p=(b+c*b')%p:=by rw[LZ,C,Lc,H,<- Lc,<- LZ]
theorem Cy(c:Int)(h:Lk p w wd T k y z)(h':Lk p w wd T k y' z'):Lk p w wd T k (λi=>y i+c*y' i) λi=>z i+c*z' i:=by
 unfold Lk at *;split
 ·next b=>
  rw[RY b]at h h';intro i a;rw[Vu (h i a) (h' i a)];exact(VT (λ_ _=>rfl) i).symm
 ·next b=>
  rw[EQ b]at h h';intro i a;rw[Vu (h i a) (h' i a)];exact(VT (λ_ _=>rfl) i).symm
theorem gO : ∀(n:Nat) {u z I O:Vc} (c:Int),Wk p w wd T d n u z->Wk p w wd T d n I O->Wk p w wd T d n (λi=>u i+c*I i) λi=>z i+c*O i
 | 0,u,z,I,O,c,h,h'=>λi a=>Vu (h i a)<|h' i a
 | n+1,u,z,I,O,c,⟨y,h1,h2⟩,⟨y',T8,T9⟩=>⟨_,gO n c h1 T8,Cy c h2 T9⟩
theorem gS(k:Nat):Lk p w wd T k (λ_=>0) λ_=>0:=by unfold Lk;split<;>exact λi _=>by rw[Jh (λ_ _=>by simp) i];simp
theorem J2 : ∀n,Wk p w wd T d n (λ_=>0) λ_=>0
 | 0=>λ_ _=>rfl
 | n+1=>⟨_,J2 n,gS _⟩
theorem nI(h:Lk p w wd T k y z)(hz : ∀i,i<wd (k+1)->z' i%p=z i%p):Lk p w wd T k y z':=by
 unfold Lk at *;split
 ·next b=>rw[RY b]at h;intro i a;rw[h i a];exact(jK hz i).symm
 ·next b=>rw[EQ b]at h;intro i a;rw[hz i a,h i a]
theorem Cv : ∀{n:Nat} {u z I:Vc},Wk p w wd T d n u z->(∀i,i<wd (d+n)->I i%p=z i%p)->Wk p w wd T d n u I
 | 0,u,z,I,h,hz=>λi a=>by rw[h i a,hz i a]
 | n+1,u,z,I,⟨y,h1,h2⟩,hz=>⟨y,h1,nI h2 hz⟩
theorem nF : ∀{n:Nat} {u I z:Vc},Wk p w wd T d n u z->(∀i,i<wd d->I i%p=u i%p)->Wk p w wd T d n I z
 | 0,u,I,z,h,hu=>λi a=>by rw[hu i a,h i a]
 | n+1,u,I,z,⟨y,h1,h2⟩,hu=>⟨y,nF h1 hu,h2⟩
theorem oZ(t:Vc)(u z:Nat->Vc) : ∀K,(∀j,j<K->Wk p w wd T d n (u j) (z j))->Wk p w wd T d n (λi=>zf (λj=>t j*u j i) K) λi=>zf (λj=>t j*z j i) K
 | 0,_=>J2 n
 | K+1,h=>gO n (t K) (oZ t u z K λj I=>h j ⋯)<|h K ⋯
theorem nB(O:m5 p w wd T m b)(U:k<m)(C:b.has k=dt)(H:b.has (k+1)=dt):Lk p w wd T k (b.v k) (b.v<|k+1):=by
 unfold Lk;cases hw:w k with
 | true=>
  have a:zE w k=k+1:=by unfold zE;rw[hw];rfl
  have I:zK w k=k:=by unfold zK;rw[hw];rfl
  rw[RY rfl];intro i d;have:=O.arr k U (by rw[a];exact H) i (by rw[I];exact d);rw[a,I,C,RY rfl]at this;exact this.symm
 | false=>
  have a:zE w k=k:=by unfold zE;rw[hw];rfl
  have I:zK w k=k+1:=by unfold zK;rw[hw];rfl
  rw[EQ ⋯];intro i d;have:=O.arr k U (by rw[a];exact C) i (by rw[I];exact d);rw[a,I,H,RY rfl]at this;exact this.symm
theorem Jf(I:m5 p w wd T m b)(C:b.has d=dt) : ∀n,d+n<=m->b.has (d+n)=dt->Wk p w wd T d n (b.v d) (b.v<|d+n)
 | 0,_,_=>λ_ _=>rfl
 | n+1,hn,h2=>by have O:b.has (d+n)=dt:=i5.mpr (by have:=i5.mp C;have:=i5.mp h2;omega);exact⟨_,Jf I C n ⋯ O,nB I ⋯ O h2⟩
theorem VQ(I:m5 p w wd T m b)(H:b.has d=dt)(C:w (b.s+b.n - 1)=ed) : ∀n,d+n<=m->b.has (d+n)=ed->Wk p w wd T d n (b.v d) λ_=>0
 | 0,_,h2=>by rw[Oy,H]at h2;cases h2
 | n+1,hn,h2=>by
  cases h3:b.has (d+n)with
  | false=>exact⟨_,VQ I H C n ⋯ h3,gS _⟩
  | true=>
   refine⟨_,Jf I H n ⋯ h3,?_⟩;have g:=i5.mp h3;have f : ¬(d+n+1<b.s+b.n):=λz=>by have:b.has (d+(n+1))=dt:=i5.mpr ⋯;rw[this]at h2;cases h2
   have O:b.s+b.n - 1=d+n:=by omega
   rw[O]at C;have a:zE w (d+n)=d+n:=by unfold zE;rw[C];rfl
   have U:zK w (d+n)=d+n+1:=by unfold zK;rw[C];rfl
   have:=I.arr (d+n) ⋯;rw[a,U]at this;unfold Lk;rw[C,EQ ⋯];intro i e;rw[this h3 i e,show b.has (d+n+1)=ed from h2];simp
theorem w6(D:ow p w wd T m N A) : ∀n,d+n<=m->∀{u z:Vc},Wk p w wd T d n u z->∀{a b:Vc},(∀i,i<wd d->u i%p=zf (λj=>if (A j).has d=dt then a j*(A j).v d i else 0) N%p)->(∀i,i<wd (d+n)->z i%p=zf (λj=>if (A j).has (d+n)=dt then b j*(A j).v (d+n) i else 0) N%p)->
 ∀j,j<N->(A j).has d=dt->((A j).has (d+n)=dt->a j%p=b j%p)/\((A j).has (d+n)=ed->w ((A j).s+(A j).n - 1)=dt->a j%p=0):=by
 have B : ∀r,r<=m->∀{v:Vc} {a b:Vc},(∀i,i<wd r->v i%p=zf (λj=>if (A j).has r=dt then a j*(A j).v r i else 0) N%p)->(∀i,i<wd r->v i%p=zf (λj=>if (A j).has r=dt then b j*(A j).v r i else 0) N%p)->∀j,j<N->(A j).has r=dt->a j%p=b j%p:=λr Y v a b G l j O U=>by
  have:=D.inj r Y (λj=>a j - b j) (λi f=>by
   have e:zf (λj=>if (A j).has r=dt then (a j - b j)*(A j).v r i else 0) N=zf (λj=>if (A j).has r=dt then a j*(A j).v r i else 0) N+zf (λj=>(if (A j).has r=dt then b j*(A j).v r i else 0)*(-1)) N:=by
    rw[<- jt];refine zu λj _=>?_;split
    ·rw[Int.sub_mul];omega
    ·simp
   rw[e,qB,LZ,<- G i f,Lc,<- l i f,<- Lc,<- LZ,show v i+v i * -1=0 by omega];simp) j O U
  exact Mq.mpr this
 have L : ∀k,k<m->∀(c:Vc) (r o:Nat),r=zE w k->o=zK w k->∀i,i<wd o->app (T k) (wd r) (n3 p A N c r) i%p=zf (λj=>if (A j).has o=dt then (if (A j).has r=dt then c j else 0)*(A j).v o i else 0) N%p:=λk W c r o M P i f=>by
  rw[gI];refine zI λj O=>?_;cases hx:(A j).has r with
  | false=>simp
  | true=>
   have q:=(D.ok j O).arr k W (by rw[<- M];exact hx) i (by rw[<- P];exact f);rw[<- M,<- P]at q;simp only[if_true];rw[Lc,q,<- Lc];cases hy:(A j).has o<;>simp
 intro n
 induction n with
 | zero=>
  intro X u z C a b H x j O U;refine⟨λ_=>B d ⋯ H (λi f=>by rw[C i f];exact x i f) j O U,λh=>?_⟩;rw[Oy,U]at h;cases h
 | succ n Z=>
  intro X u z C a b H x j O U;obtain⟨y,G,l⟩:=C;obtain⟨c,J⟩:=D.sp (d+n) ⋯ y;obtain⟨K,Q⟩:=Z ⋯ G H J j O U;have R : ∀i,i<wd (d+n)->y i%p=n3 p A N c (d+n) i%p:=λi f=>by rw[J i f];unfold n3;rw[LF]
  have S : ∀i,i<wd (d+n+1)->z i%p=n3 p A N b (d+n+1) i%p:=λi f=>by rw[x i f];unfold n3;rw[LF];rfl
  have qd:=i5.mp U;cases hw:w (d+n)with
  | false=>
   have E:zE w (d+n)=d+n:=by unfold zE;rw[hw];rfl
   have F:zK w (d+n)=d+n+1:=by unfold zK;rw[hw];rfl
   unfold Lk at l;rw[hw,EQ ⋯]at l;have g:=B (d+n+1) ⋯ (v:=z) x (b:=λj=>if (A j).has (d+n)=dt then c j else 0) λi f=>by rw[l i f,jK R i];exact L (d+n) ⋯ c (d+n) (d+n+1) E.symm F.symm i f
   refine⟨λh=>?_,λh t=>?_⟩
   ·have I:(A j).has (d+n)=dt:=i5.mpr (by have:=i5.mp h;omega)
    have:=g j O h;rw[I,RY rfl]at this;rw[K I,this]
   ·cases I:(A j).has (d+n)with
    | false=>exact Q I t
    | true=>
     have q3:=i5.mp I;have q2 : ¬(d+n+1<(A j).s+(A j).n):=λz=>by have:(A j).has (d+(n+1))=dt:=i5.mpr ⋯;rw[this]at h;cases h
     rw[show(A j).s+(A j).n - 1=d+n by omega,hw]at t;cases t
  | true=>
   have E:zE w (d+n)=d+n+1:=by unfold zE;rw[hw];rfl
   have F:zK w (d+n)=d+n:=by unfold zK;rw[hw];rfl
   unfold Lk at l;rw[hw,RY rfl]at l;have g:=B (d+n) ⋯ (v:=y) J (b:=λj=>if (A j).has (d+n+1)=dt then b j else 0) λi f=>by rw[l i f,jK S i];exact L (d+n) ⋯ b (d+n+1) (d+n) E.symm F.symm i f
   refine⟨λh=>?_,λh t=>?_⟩
   ·have I:(A j).has (d+n)=dt:=i5.mpr (by have:=i5.mp h;omega)
    have:=g j O I;rw[show(A j).has (d+n+1)=dt from h,RY rfl]at this;rw[K I,this]
   ·cases I:(A j).has (d+n)with
    | false=>exact Q I t
    | true=>
     have:=g j O I;rw[show(A j).has (d+n+1)=ed from h,EQ ⋯]at this;rw[K I,this];simp
end
section
variable{p:Int}{n:Nat}
theorem oN{l:RZ} : ∀{r:Nat},(∀k m,k<m->m<r->l k<l m)->∃j,j<=r/\∀k,k<r->l k≠j
 | 0,_=>⟨0,Le _,λk I=>absurd I<|LH _⟩
 | r+1,h=>by
  obtain⟨j,f,d⟩:=oN (r:=r) λk m a b=>h k m a ⋯;by_cases e:l r=j
  ·refine⟨r+1,Le _,λk I=>?_⟩
   rcases Lu k r with z | z
   ·have:=h k r z ⋯;omega
   ·rw[show k=r by omega];omega
  ·refine⟨j,by omega,λk I=>?_⟩
   rcases Lu k r with z | z
   ·exact d k z
   ·rw[show k=r by omega];exact e
theorem BU(C:Pr p){h N:Nat}{f:RK}(inj : ∀t:Vc,(∀i,i<h->app f N t i%p=0)->∀j,j<N->t j%p=0):N<=h:=by
 rcases Lu h N with a9 | a8
 ·exfalso
  obtain⟨r,E,B,l,d,y⟩:=wg (n:=N) C h f;obtain⟨O,A,a4⟩:=oN d.mono;have s:O<N:=by omega
  let t:Vc:=λj=>if j=O then 1 else zf (λk=>if l k=j then B k O*(-1)else 0) r;have w:t O=1:=RY rfl;have F : ∀k,k<r->t (l k)=B k O*(-1):=λk U=>by
   show(if l k=O then _ else _)=_;rw[EQ (a4 k U),zM (f:=λI=>if l I=l k then B I O*(-1)else 0) U λI a b=>by
    rw[EQ λe=>b (by
     rcases L1 I k with z | z | z
     ·have:=d.mono I k z U;omega
     ·exact z
     ·have:=d.mono k I z a;omega)]]
   rw[RY rfl]
  have o : ∀k,k<r->zf (λj=>B k j*t j) N=0:=λk U=>by
   have e:zf (λj=>B k j*t j) N=zf (λj=>(if j=O then B k O else 0)+zf (λI=>if l I=j then B k (l I)*(B I O*(-1))else 0) r) N:=zu λj u=>by
    by_cases z:j=O
    ·subst z
     rw[w,RY rfl,zu (g:=λ_=>0) λI a=>EQ<|a4 I a,zO];simp
    ·show B k j*(if j=O then _ else _)=_
     rw[EQ z,EQ z,Int.zero_add,Ml,<- qB];refine zu λI a=>?_;by_cases e:l I=j
     ·rw[RY e,RY e,<- e,Ml]
     ·rw[EQ e,EQ e];simp
   rw[e,jt,zM (f:=λj=>if j=O then B k O else 0) s<|λj _ b=>EQ b,RY rfl,qc];have m:zf (λI=>zf (λj=>if l I=j then B k (l I)*(B I O*(-1))else 0) N) r=zf (λI=>B k (l I)*(B I O*(-1))) r:=zu λI a=>by rw[zM (f:=λj=>if l I=j then B k (l I)*(B I O*(-1))else 0) (d.lt I a) λj _ b=>EQ<|LC b,RY rfl]
   rw[m,zM (f:=λI=>B k (l I)*(B I O*(-1))) U λI a b=>by rw[d.oe k I U a b];simp];rw[d.one k U];omega
  have:=inj t (λi x=>by
   have c:=Zv d<|(y<|f i).mpr (.gen ⟨i,x,rfl⟩);unfold app;have e:zf (λj=>f i j*t j) N%p=zf (λj=>zf (λk=>f i (l k)*B k j) r*t j) N%p:=zI λj u=>by rw[Lc,c j u,<- Lc]
   rw[e];have m:zf (λj=>zf (λk=>f i (l k)*B k j) r*t j) N=zf (λk=>f i (l k)*zf (λj=>B k j*t j) N) r:=by rw[zu (g:=λj=>zf (λk=>f i (l k)*B k j*t j) r) λj _=>(qB _ _ _).symm,qc];refine zu λk _=>?_;rw[<- jd];exact zu λj _=>ME _ _ _
   rw[m,zu (g:=λ_=>0) λk U=>by rw[o k U,MS],zO];simp) O s
  rw[w,C.one]at this;cases this
 ·exact a8
theorem XF(W:Nat->Vc)(t:Vc):Span p n (el m W) λi=>zf (λj=>t j*W j i) m:=Span.sum (u:=W) t λj I=> .gen ⟨j,I,rfl⟩
theorem oR(I:Pr p)(O:g5 p n s B l)(sp : ∀v,Span p n (el s B) v↔Span p n (el m W) v)(ind : ∀t:Vc,(∀i,i<n->zf (λj=>t j*W j i) m%p=0)->∀j,j<m->t j%p=0):m=s:=by
 have d:s<=m:=by obtain⟨r,g,hR⟩:=wg (n:=n) I m W;have:=yW I (m:=m) (W:=W) ⟨B,l,O,sp⟩ hR;omega
 have h:s<=n:=XO O;have e:m<=s:=BU I (f:=λi j=>W j<|l i) λt U=>ind t λi a=>by
  have c:=Zv O ((sp _).mpr (XF (n:=n) W t)) i a;rw[c];have:zf (λk=>zf (λj=>t j*W j (l k)) m*B k i) s%p=zf (λ_=>0) s%p:=zI λk b=>by have:=U k b;unfold app at this;rw[xl]at this;rw[Lc,this];simp
  rw[this,zO];simp
 omega
theorem mZ(Y:Pr p){s q c:Nat}{B B2 V:Nat->Vc}{l C:RZ}(L:g5 p n s B l)(U:g5 p n q B2 C)(J : ∀j,j<c->Span p n (el s B) (V j))(H : ∀v,Span p n (el q B2) v->Span p n (el s B) v)
 (Th : ∀v,Span p n (el s B) v->∃t:Vc,Span p n (el q B2) λi=>v i - zf (λj=>t j*V j i) c) (ind : ∀t:Vc,Span p n (el q B2) (λi=>zf (λj=>t j*V j i) c)->∀j,j<c->t j%p=0):q+c=s:=by
 let W:Nat->Vc:=λj=>if j<q then B2 j else V (j - q);have o : ∀j,j<q->W j=B2 j:=λj I=>RY I;have r : ∀j,W (q+j)=V j:=λj=>by show(if q+j<q then _ else _)=_;rw[EQ ⋯,MK]
 have x : ∀t:Vc,∀i,zf (λj=>t j*W j i) (q+c)=zf (λj=>t j*B2 j i) q+zf (λj=>t (q+j)*V j i) c:=λt i=>by
  rw[KM];congr 1
  ·exact zu λj I=>by rw[o j I]
  ·exact zu λj I=>by rw[r j]
 refine oR Y L (W:=W) (λv=>⟨λm=>?_,λm=>m.le λg b=>?_⟩) λt u=>?_
 ·obtain⟨t,h⟩:=Th v m
  have a:Span p n (el (q+c) W) λi=>v i - zf (λj=>t j*V j i) c:=h.le λg b=>by obtain⟨k,O,rfl⟩:=b;rw[<- o k O];exact .gen ⟨k,by omega,rfl⟩
  have E:Span p n (el (q+c) W) λi=>zf (λj=>t j*V j i) c:=Span.sum t λj I=>by rw[<- r j];exact .gen ⟨q+j,by omega,rfl⟩
  exact(E.add a 1).congr λi _=>by rw[L3,Int.sub_add_cancel]
 ·obtain⟨k,O,rfl⟩:=b
  rcases Lu k q with z | z
  ·rw[o k z];exact H _<|.gen ⟨k,z,rfl⟩
  ·obtain⟨j,rfl⟩ : ∃j,k=q+j:=⟨k - q,by omega⟩
   rw[r j];exact J j ⋯
 ·have w : ∀j,j<c->t (q+j)%p=0:=ind (λj=>t<|q+j) ((XF (n:=n) B2 λj=> -1*t j).congr λi d=>by
   have:=u i d;rw[x]at this;have e:zf (λj=> -1*t j*B2 j i) q=zf (λj=>t j*B2 j i) q * -1:=by rw[<- qB];exact zu λj _=>by rw[Ml (-1),ME,Ml (-1),ME]
   rw[e];refine Mq.mpr ?_;rw[<- this];congr 1;omega)
  intro j I;rcases Lu j q with z | z
  ·have A : ∀i,i<n->zf (λj=>t j*B2 j i) q%p=0:=λi d=>by
    have:=u i d;rw[x,LZ]at this;have e:zf (λj=>t (q+j)*V j i) c%p=zf (λ_=>0) c%p:=zI λj I=>by rw[Lc,w j I];simp
    rw[e,zO]at this;simpa using this
   have a:=A (C j)<|U.lt j z;rw[zM (f:=λk=>t k*B2 k (C j)) z λk O y=>by rw[U.oe k j O z (LC y)];simp]at a;rw[U.one j z,NF]at a;exact a
  ·obtain⟨k,rfl⟩ : ∃k,j=q+k:=⟨j - q,by omega⟩
   exact w k ⋯
end
noncomputable def n5(A:Nat->e9)(N d e:Nat):List Nat:=(IS N).filter λj=>(A j).has d && (A j).has e
section
variable{p:Int}{w:RX}{wd:RZ}{T:RV}{m N n:Nat}{A:Nat->e9}{d:Nat}
theorem gc(I:k<(n5 A N d e).length):(n5 A N d e).getD k 0<N/\(A<|(n5 A N d e).getD k 0).has d=dt/\(A<|(n5 A N d e).getD k 0).has e=dt:=by
 have f:(n5 A N d e).getD k 0∈n5 A N d e:=by rw[IZ,IX I];exact My _
 obtain⟨b,a⟩:=Lx.mp f;simp only[Lq]at a;exact⟨IV.mp b,a.1,a.2⟩
theorem Ce(D:ow p w wd T m N A)(C:d<=m)(e:Nat):(n5 A N d e).length<=wd d:=by rw[<- D.cnt d C];unfold n5 h6;rw[<- LW,<- LW];exact List.countP_mono_left λj _ h=>by simp only[Lq]at h;exact h.1
theorem nj(d e:Nat)(t:Vc) : ∃a:Vc,∀k,k<(n5 A N d e).length->a ((n5 A N d e).getD k 0)=t k:=by refine⟨λj=>t<|(n5 A N d e).idxOf j,λk I=>?_⟩;have b:(n5 A N d e).Nodup:=NR.sublist OM;show t _=_;rw[IZ,IX I,Ov,b.idxOf_getElem _ I]
theorem fZ(d e:Nat)(a:Vc)(i:Nat):zf (λk=>a ((n5 A N d e).getD k 0)*(A<|(n5 A N d e).getD k 0).v d i) (n5 A N d e).length=zf (λj=>if (A j).has d=dt then (if (A j).has e=dt then a j else 0)*(A j).v d i else 0) N:=by have:=vh (λj=>(A j).has d && (A j).has e) (λj=>a j*(A j).v d i) N;refine this.trans<|zu λj _=>?_;cases (A j).has d<;>cases (A j).has e<;>simp
theorem WV(Y:Pr p)(D:ow p w wd T m N A)(C:d+n<=m){s q:Nat}{B B2:Nat->Vc}{l Z:RZ}(L:g5 p (wd d) s B l)(U : ∀u,Span p (wd d) (el s B) u ↔ ∃z,Wk p w wd T d n u z)
 (J:g5 p (wd d) q B2 Z) (H : ∀u,Span p (wd d) (el q B2) u↔Wk p w wd T d n u λ_=>0):q+(n5 A N d<|d+n).length=s:=by
 have R:=Ce D (show d<=m by omega)<|d+n;have S:=XO J;refine mZ Y L J (V:=λk=>(A<|(n5 A N d<|d+n).getD k 0).v d) (λk I=>?_) (λv y=>(U v).mpr ⟨_,(H v).mp y⟩) (λv y=>?_) λt P=>?_
 ·obtain⟨f,g,O⟩:=gc I
  exact(U _).mpr ⟨_,Jf (D.ok _ f) g n C O⟩
 ·obtain⟨z,E⟩:=(U v).mp y
  obtain⟨a,o⟩:=D.sp d ⋯ v;obtain⟨b,K⟩:=D.sp (d+n) C z;have r:=w6 D n C E o K;refine⟨λk=>a<|(n5 A N d<|d+n).getD k 0,(H _).mpr ?_⟩;let u:Nat->Vc:=λj=>if (A j).has d=dt/\(A j).has (d+n)=ed/\w ((A j).s+(A j).n - 1)=ed then (A j).v d else λ_=>0;have Q : ∀j,j<N->Wk p w wd T d n (u j) λ_=>0:=λj x=>by
   show Wk p w wd T d n (if _ then _ else _) _;split
   ·next h=>exact VQ (D.ok j x) h.1 h.2.2 n C h.2.1
   ·exact J2 n
  have M:=oZ a u (λ_ _=>0) N Q;refine Cv (nF M λi F=>?_) λi _=>by simp[zO]
  rw[fZ d (d+n) a i];rw[MU,o i F,<- MU];have e:zf (λj=>if (A j).has d=dt then a j*(A j).v d i else 0) N - zf (λj=>if (A j).has d=dt then (if (A j).has (d+n)=dt then a j else 0)*(A j).v d i else 0) N=zf (λj=>(if (A j).has d=dt then a j*(A j).v d i else 0)+(if (A j).has d=dt then (if (A j).has (d+n)=dt then a j else 0)*(A j).v d i else 0) * -1) N:=by rw[jt,qB];omega
  rw[e];refine zI λj x=>?_;show _=a j*(if _ then (A j).v d else λ_=>0) i%p;cases f:(A j).has d with
  | false=>simp
  | true=>
   cases g:(A j).has (d+n)with
   | true=>
    have G:a j*(A j).v d i+a j*(A j).v d i * -1=0:=by omega
    simp only[if_true,G,Bool.true_eq_false,false_and,and_false,if_false,MS]
   | false=>
    cases O:w ((A j).s+(A j).n - 1)with
    | false=>simp
    | true=>
     have:=(r j x f).2 g O;simp only[if_true,Mg,if_false,Ng,NH,MS,Bool.true_eq_false,and_false];rw[Lc,this];simp
 ·obtain⟨a,o⟩:=nj (A:=A) (N:=N) d (d+n) t
  have E:=(H _).mp P;have r:=w6 D n C E (a:=λj=>if (A j).has (d+n)=dt then a j else 0) (b:=λ_=>0) (λi F=>by
   rw[<- fZ d (d+n) a i];congr 1;exact zu λk I=>by rw[o k I]) (λi _=>by
   have:zf (λj=>if (A j).has (d+n)=dt then 0*(A j).v (d+n) i else 0) N=zf (λ_=>0) N:=zu λj _=>by simp
   rw[this,zO])
  intro k I;obtain⟨f,g,O⟩:=gc I;have:=(r _ f g).1 O;rw[O,RY rfl,o k I]at this;simpa using this
end
section
variable{p:Int}{w:RX}{wd:RZ}{T:RV}{m N:Nat}{A:Nat->e9}
theorem mF(r:Nat)(t:Vc) : ∃a:Vc,∀k,k<(h6 A N r).length->a ((h6 A N r).getD k 0)=t k:=by refine⟨λj=>t<|(h6 A N r).idxOf j,λk I=>?_⟩;show t _=_;rw[IZ,IX I,Ov,(Yx A N r).idxOf_getElem _ I]
theorem fw(r:Nat)(a:Vc)(i:Nat):zf (λj=>if (A j).has r=dt then a j*(A j).v r i else 0) N=app (xM A N r) (h6 A N r).length (λk=>a<|(h6 A N r).getD k 0) i:=by have:=vh (λj=>(A j).has r) (λj=>a j*(A j).v r i) N;rw[<- this];unfold app;rw[xl];rfl
theorem BO(I:j<N)(O:(A j).has r=dt) : ∃k,k<(h6 A N r).length/\(h6 A N r).getD k 0=j:=by have U:j∈h6 A N r:=Lx.mpr ⟨IV.mpr I,by simpa using O⟩;obtain⟨i,a,e⟩:=OK U;exact⟨i,a,by rw[IZ,IX a];simpa using e⟩
theorem tF(hp:Pr p)(a2 : ∀k,wd k<=8)(ok : ∀j,j<N->m5 p w wd T m (A j))(cnt : ∀r,r<=m->(h6 A N r).length=wd r)(a0 : ∀r,r<=m->∀v:Vc,∃t,∀i,i<wd r->v i%p=app (xM A N r) (wd r) t i%p):ow p w wd T m N A where
 ok:=ok
 cnt:=cnt
 sp:=λr I v=>by obtain⟨t,O⟩:=a0 r I v;obtain⟨a,ha⟩:=mF (A:=A) (N:=N) r t;refine⟨a,λi hi=>?_⟩;rw[O i hi,fw,cnt r I];unfold app;congr 1;exact zu λk U=>by show _=_*a _;rw[ha k (by rw[cnt r I];exact U)]
 inj:=λr I t O j hj hh=>by
  obtain⟨k,U,e⟩:=BO hj hh;have:=vP hp (a2 r) (a0 r I) (t:=λk=>t<|(h6 A N r).getD k 0) (λi hi=>by have:=O i hi;rw[fw,cnt r I]at this;exact this) k (by rw[<- cnt r I];exact U)
  rw[e]at this;exact this
end
section
variable{p:Int}{w:RX}{wd:RZ}{T f g:RV}{m N:Nat}{A:Nat->e9}
theorem VS(F G:RK)(n k:Nat)(u:Vc)(i:Nat):app F n (app G k u) i=zf (λj=>zf (λb=>F i b*G b j) n*u j) k:=by
 unfold app;have e:zf (λb=>F i b*zf (λj=>G b j*u j) k) n=zf (λb=>zf (λj=>F i b*G b j*u j) k) n:=zu λb _=>by rw[<- jd];exact zu λj _=>(ME _ _ _).symm
 rw[e,qc];exact zu λj _=>qB _ _ _
theorem ZT(h:wW p n F G)(u:Vc)(hi:i<n):app F n (app G n u) i%p=u i%p:=by
 rw[VS];have e:zf (λj=>zf (λb=>F i b*G b j) n*u j) n%p=zf (λj=>hH i j*u j) n%p:=zI λj I=>by rw[Lc,h i j hi I,<- Lc]
 rw[e,zM (f:=λj=>hH i j*u j) hi λj _ O=>by unfold hH;rw[EQ (LC O),Ng]];unfold hH;rw[RY rfl,L3]
theorem ir(k:Nat)(u:Vc)(i:Nat):app (yk p w wd f g T k) (wd<|zE w k) u i%p=app (f<|zK w k) (wd<|zK w k) (app (T k) (wd<|zE w k)<|app (g<|zE w k) (wd<|zE w k) u) i%p:=by
 rw[VS];show _=app (λi b=>zf (λa=>f (zK w k) i a*T k a b)<|wd<|zK w k) (wd<|zE w k) (app (g<|zE w k) (wd<|zE w k) u) i%p;rw[VS];have e:app (yk p w wd f g T k) (wd<|zE w k) u i%p=zf (λj=>zf (λb=>zf (λa=>f (zK w k) i a*T k a b) (wd<|zK w k)*g (zE w k) b j) (wd<|zE w k)*u j) (wd<|zE w k)%p:=by
  unfold app;refine zI λj _=>?_;rw[Lc];have d:yk p w wd f g T k i j%p=zf (λb=>zf (λa=>f (zK w k) i a*T k a b) (wd<|zK w k)*g (zE w k) b j) (wd<|zE w k)%p:=by unfold yk;rw[LF];refine zI λb _=>?_;rw[Lc,LF,<- Lc,Ml,zu (g:=λa=>f (zK w k) i a*T k a b) λa _=>Ml _ _]
  rw[d,<- Lc]
 exact e
noncomputable def XB(p:Int)(wd:RZ)(f:RV)(x:e9):e9:=⟨x.s,x.n,λr i=>app (f r) (wd r) (x.v r) i%p⟩
theorem Jm(x:e9)(r i:Nat):(XB p wd f x).v r i%p=app (f r) (wd r) (x.v r) i%p:=LF _ _
theorem uT(q:RX)(t:Vc)(F:RK)(n r i:Nat)(X:Nat->e9):zf (λj=>if q j=dt then t j*app F n ((X j).v r) i else 0) N=app F n (λi=>zf (λj=>if q j=dt then t j*(X j).v r i else 0) N) i:=by
 have a:(λi=>zf (λj=>if q j=dt then t j*(X j).v r i else 0) N)=λi=>zf (λj=>(if q j=dt then t j else 0)*(X j).v r i) N:=by funext i;exact zu λj _=>by split<;>simp
 rw[a,yE F n (λj=>if q j=dt then t j else 0) (λj=>(X j).v r) N i];exact zu λj _=>by split<;>simp
theorem KJ(J:0<p)(H : ∀r,r<=m->wW p (wd r) (f r) (g r))(C : ∀r,r<=m->wW p (wd r) (g r) (f r))(D:ow p w wd T m N A):ow p w wd (yk p w wd f g T) m N λj=>XB p wd f (A j):=by
 have E : ∀z:Int,0<=z%p/\z%p<p:=λz=>⟨LQ _ ⋯,LB _ J⟩;have l : ∀r i (t:Vc),zf (λj=>if (A j).has r=dt then t j*(XB p wd f<|A j).v r i else 0) N%p=app (f r) (wd r) (λi=>zf (λj=>if (A j).has r=dt then t j*(A j).v r i else 0) N) i%p:=λr i t=>by
  rw[<- uT (λj=>(A j).has r) t (f r) (wd r) r i A];refine zI λj _=>?_;split
  ·rw[Lc,Jm,<- Lc]
  ·rfl
 refine⟨λj U=>?_,λr O v=>?_,λr O t h j U e=>?_,D.cnt⟩
 ·have b:=D.ok j U
  refine⟨b.n1,b.le,λr i _ _=>E _,λk n e i a=>?_⟩;have o:zE w k<=m:=by have:=uc w n;omega
  have d:(A j).has (zE w k)=dt:=e;rw[ir];have s : ∀x,x<wd (zE w k)->app (g<|zE w k) (wd<|zE w k) ((XB p wd f<|A j).v (zE w k)) x%p=(A j).v (zE w k) x%p:=λx I=>by rw[jK (u:=app (f<|zE w k) (wd<|zE w k)<|(A j).v (zE w k)) (λy _=>Jm _ _ _),ZT (C _ o) _ I]
  have B : ∀x,x<wd (zK w k)->app (T k) (wd<|zE w k) (app (g<|zE w k) (wd<|zE w k)<|(XB p wd f<|A j).v (zE w k)) x%p=(if (A j).has (zK w k)=dt then (A j).v (zK w k) x else 0)%p:=λx I=>by rw[jK (u:=(A j).v (zE w k)) s];exact b.arr k n d x I
  rw[jK B];show _=(if (A j).has (zK w k)=dt then (XB p wd f<|A j).v (zK w k) i else 0)%p;by_cases I:(A j).has (zK w k)=dt
  ·simp only[I,if_true]
   exact(Jm _ _ _).symm
  ·simp only[I,if_false]
   rw[Jh (λ_ _=>by simp) i];simp
 ·obtain⟨t,h⟩:=D.sp r O (app (g r) (wd r) v)
  refine⟨t,λi a=>?_⟩;show _=zf (λj=>if (A j).has r=dt then t j*(XB p wd f<|A j).v r i else 0) N%p;rw[l,<- ZT (H r O) v a];exact jK h i
 ·have d:(A j).has r=dt:=e
  refine D.inj r O t (λi a=>?_) j U d;have z : ∀x,x<wd r->app (f r) (wd r) (λi=>zf (λj=>if (A j).has r=dt then t j*(A j).v r i else 0) N) x%p=0:=λx I=>by rw[<- l];exact h x I
  rw[<- ZT (C r O) (λi=>zf (λj=>if (A j).has r=dt then t j*(A j).v r i else 0) N) a];exact Jh z i
end
noncomputable def gV(p:Int)(a b:Nat)(c:Int)(v:Vc):Vc:=λi=>if i=b then (v b+c*v a)%p else v i
def Ha(S E:RZ)(j:Nat):e9:=⟨S j,E j - S j+1,λ_ _=>0⟩
def qj(S E:RZ)(N r:Nat):List Nat:=h6 (Ha S E) N r
noncomputable def Vz(S E:RZ)(N j:Nat):e9:=⟨S j,E j - S j+1,λr i=>if (qj S E N r).getD i N=j then 1 else 0⟩
def ft(S E:RZ)(N r:Nat):Nat:=(qj S E N r).length
noncomputable def mC(w:RX)(S E:RZ)(N k i j:Nat):Int:=if (qj S E N<|zK w k).getD i N=(qj S E N<|zE w k).getD j (N+1)then 1 else 0
section
variable{S E:RZ}{N r:Nat}{w:RX}{p:Int}{m:Nat}
theorem iD:(qj S E N r).Nodup:=List.Nodup.sublist OM NR
theorem Tj{j:Nat}:j∈qj S E N r↔j<N/\(Vz S E N j).has r=dt:=by unfold qj h6;rw[Lx,IV];rfl
theorem Wg{j:Nat}(h:j<N)(O:(Vz S E N j).has r=dt) : ∃c,c<ft S E N r/\(qj S E N r)[c]? = bQ j:=by obtain⟨c,I⟩:=PF<|Tj.mpr ⟨h,O⟩;exact⟨c,(Lh.mp I).1,I⟩
theorem Ju{c d:Nat}(h:c<ft S E N r) : ∃j,(qj S E N r)[c]? = bQ j/\(qj S E N r).getD c d=j/\j<N/\(Vz S E N j).has r=dt:=by have e:=IX (l:=qj S E N r) h;obtain⟨a,b⟩:=Tj.mp<|LJ e;exact⟨_,e,by rw[IZ,e];rfl,a,b⟩
theorem KZ{c I j:Nat}(C:(qj S E N r)[c]? = bQ j)(H:(qj S E N r)[I]? = bQ j):c=I:=by exact(List.getElem?_inj (Lh.mp C).1 iD).mp (C.trans H.symm)
theorem Xf{c j:Nat}(h:c<ft S E N r):(Vz S E N j).v r c=if (qj S E N r)[c]? = bQ j then 1 else 0:=by
 obtain⟨I,a,b,_⟩:=Ju (d:=N) h;show(if (qj S E N r).getD c N=j then (1:Int)else 0)=_;rw[a,b];by_cases z:I=j
 ·rw[RY z,RY (by rw[z])]
 ·rw[EQ z,EQ (λq=>z<|LR q)]
theorem WU(H:Pr p)(C : ∀j,j<N->S j<=E j/\E j<=m):ow p w (ft S E N) (mC w S E N) m N (Vz S E N):=by
 have two:=H.two;refine⟨λj O=>⟨by show 1<=_+1;omega,by show S j+(E j - S j+1)<=m+1;have:=C j O;omega,λr i _ _=>?_,λk J l i g=>?_⟩,λr u v=>?_,λr u t B j O l=>?_,λr u=>rfl⟩
 ·show 0<=(if _ then (1:Int)else 0)/\(if _ then (1:Int)else 0)<p
  split<;>omega
 ·obtain⟨U,a,b⟩:=Wg O l
  obtain⟨A,h,x,y,o⟩:=Ju (d:=N) g;have e:app (mC w S E N k) (ft S E N<|zE w k) ((Vz S E N j).v (zE w k)) i=mC w S E N k i U:=by
   unfold app;rw[zM (f:=λc=>mC w S E N k i c*(Vz S E N j).v (zE w k) c) a λc s I=>by rw[Xf s,EQ<|λq=>I<|KZ q b,MS]]
   rw[Xf a,RY b,NF]
  rw[e];congr 1;unfold mC;rw[show(qj S E N<|zE w k).getD U (N+1)=j by rw[IZ,b];rfl];by_cases n:(Vz S E N j).has (zK w k)=dt
  ·rw[RY n];rfl
  ·rw[EQ n,x,EQ (λz=>n<|by rw[<- z];exact o)]
 ·refine⟨λj=>zf (λc=>if (qj S E N r)[c]? = bQ j then v c else 0)<|ft S E N r,λi g=>?_⟩
  obtain⟨A,h,x,y,o⟩:=Ju (d:=N) g;rw[zM (f:=λj=>if (Vz S E N j).has r=dt then zf (λc=>if (qj S E N r)[c]? = bQ j then v c else 0) (ft S E N r)*(Vz S E N j).v r i else 0) y λj O I=>by rw[Xf g,show(if (qj S E N r)[i]? = bQ j then (1:Int)else 0)=0 from EQ<|λq=>I<|LR<|q.symm.trans h,MS,ite_self]]
  rw[RY o,Xf g,RY h,NF,zM (f:=λc=>if (qj S E N r)[c]? = bQ A then v c else 0) g λc s I=>EQ λq=>I<|KZ q h,RY h]
 ·obtain⟨U,a,b⟩:=Wg O l
  have:=B U a;rw[zM (f:=λj=>if (Vz S E N j).has r=dt then t j*(Vz S E N j).v r U else 0) O λF G I=>by rw[Xf a,show(if (qj S E N r)[U]? = bQ F then (1:Int)else 0)=0 from EQ<|λq=>I<|LR<|q.symm.trans b,MS,ite_self]]at this
  rw[RY l,Xf a,RY b,NF]at this;exact this
theorem mB(I:Pr p) : ∀k x y,0<=mC w S E N k x y/\mC w S E N k x y<p:=λk x y=>by have:=I.two;unfold mC;split<;>omega
end
section
variable{p:Int}{m:Nat}{w:RX}{wd:RZ}{T:RV}
noncomputable def cJ(w:RX)(wd:RZ)(T:RV)(m:Nat):List D:=(IS m).map λk=>D.lst<|fW (eK w wd k) (eX w wd k)<|T k
@[simp] theorem uN(m):(cJ w wd T m).length=m:=by simp[cJ]
abbrev rc(p:Int)(m:Nat)(w:RX)(wd:RZ)(T:RV)(acc:List D)(c5 c6 c7 c8:Cell):Ctx:=[.val (.int p),.val (.str (qb m w)),.val (.lst (zA (m+1) λk=>(wd k:Int))),.val (.lst (cJ w wd T m)),.own acc,c5,c6,c7,c8]
end
noncomputable def stN(M:Nat):List (Nat×Nat):=(IS M).flatMap λi=>(Nx i<|M - i).map λj=>(i,j)
theorem Sb:s∈stN M↔s.1<=s.2/\s.2<M:=by
 unfold stN;simp only[List.mem_flatMap,IV,LK,List.mem_range'_1];constructor
 ·rintro⟨i,a,j,I,rfl⟩
  exact⟨I.1,by show j<M;omega⟩
 ·intro h
  exact⟨s.1,by omega,s.2,⟨h.1,by omega⟩,rfl⟩
noncomputable def Tb:=jo 2<|Af<|zP (zF<|ze 1) (.tp [0,1]) 2 [0] jj (qQ<|za (qQ<|za (zc 0)<|za (zc 1) zD)<|za (zC CA<|za (zc 2)<|za (zc 0)<|za (zc 1) zD) zD)
def w4:List Int->Int
 | []=>0
 | x::r=>x+w4 r
theorem Jr : ∀L:List Int,aF (L.map D.int)=bQ (w4 L)
 | []=>rfl
 | x::L=>by show(aF<|L.map D.int).map _=_;rw[Jr L];rfl
noncomputable def ni(K:List (Nat×Nat))(a b:Int):Nat:=K.countP λx=>decide ((x.1:Int)<=a) && decide (b<=(x.2:Int))
noncomputable def z3(K:List (Nat×Nat))(s:Nat×Nat):Nat:=K.countP λx=>decide<|x=s
theorem Jb(x:Nat×Nat)(K:List (Nat×Nat))(a b:Int):(ni (x::K) a b:Int)=(ni K a b:Int)+if (x.1:Int)<=a/\b<=(x.2:Int)then 1 else 0:=by
 unfold ni;rw[List.countP_cons];by_cases d:(x.1:Int)<=a
 ·by_cases e:b<=(x.2:Int)
  ·rw[RY (show(decide ((x.1:Int)<=a) && decide (b<=(x.2:Int)))=dt by simp only[decide_eq_true d,decide_eq_true e];rfl),RY ⟨d,e⟩];rfl
  ·rw[EQ (show ¬(decide ((x.1:Int)<=a) && decide (b<=(x.2:Int)))=dt by simp only[decide_eq_false e,Bool.and_false];decide),EQ λz=>e z.2];rfl
 ·rw[EQ (show ¬(decide ((x.1:Int)<=a) && decide (b<=(x.2:Int)))=dt by simp only[decide_eq_false d,Bool.false_and];decide),EQ λz=>d z.1];rfl
theorem mi(x s:Nat×Nat)(K:List (Nat×Nat)):(z3 (x::K) s:Int)=(z3 K s:Int)+if (x.1=s.1/\x.2=s.2)then 1 else 0:=by
 unfold z3;rw[List.countP_cons];by_cases h:x=s
 ·rw[RY (decide_eq_true h),RY (by rw[h];exact⟨rfl,rfl⟩)];rfl
 ·rw[EQ (by simpa using h),EQ λz=>h (Prod.ext z.1 z.2)];rfl
theorem JT(s:Nat×Nat) : ∀K:List (Nat×Nat),(ni K s.1 s.2:Int) - ((ni K ((s.1:Int) - 1) s.2:Int)+(ni K s.1 ((s.2:Int)+1):Int))+(ni K ((s.1:Int) - 1) ((s.2:Int)+1):Int)=(z3 K s:Int)
 | []=>rfl
 | x::K=>by
  have I:=JT s K;rw[Jb,Jb,Jb,Jb,mi];generalize (ni K s.1 s.2:Int)=O at *;generalize (ni K ((s.1:Int) - 1) s.2:Int)=U at *;generalize (ni K s.1 ((s.2:Int)+1):Int)=c3 at *;generalize (ni K ((s.1:Int) - 1) ((s.2:Int)+1):Int)=c4 at *;generalize (z3 K s:Int)=c5 at *
  repeat' split
  all_goals omega
section
variable{p:Int}{w:RX}{wd:RZ}{T:RV}{m N:Nat}{A:Nat->e9}
noncomputable def mE(A:Nat->e9)(N:Nat):List (Nat×Nat):=(IS N).map λj=>((A j).s,(A j).s+(A j).n - 1)
theorem Kb(D:ow p w wd T m N A) : ∀x,x∈mE A N->x∈stN (m+1):=λx O=>by obtain⟨j,I,rfl⟩:=LK.mp O;have a:=(D.ok j<|IV.mp I).n1;have b:=(D.ok j<|IV.mp I).le;exact Sb.mpr (by show(A j).s<=(A j).s+(A j).n - 1/\(A j).s+(A j).n - 1<m+1;omega)
theorem oT(D:ow p w wd T m N A)(O:i<=j):(n5 A N i j).length=ni (mE A N) i j:=by unfold n5 ni mE;rw[<- LW,ON];refine MR λk I=>?_;have a:=(D.ok k<|IV.mp I).n1;simp only[Lq,Function.comp_def,decide_eq_true_eq];rw[i5,i5];omega
end
def u1:=(jo 1<|zC jB<|za (zc 0)<|za (zv<|.int 0) zD)
noncomputable def u2:=(jo 2<|dy (jL<|qm<|za (zv<|.int 2)<|za (zv<|.int 3)<|za (zv<|.int 5)<|za (zv<|.int 7) zD)<|zH yM (zc 1)<|zv<|.int 4)
noncomputable def u3:=(ZM (.tp [3,4])<|dy (jL<|qm<|za (qQ<|za (zv<|.int 4)<|za (zv<|.int 2) zD)<|za (qQ<|za (zv<|.int 3)<|za (zv<|.int 2) zD)<|za (qQ<|za (zv<|.int 2)<|za (zv<|.int 2) zD)<|za (qQ<|za (zv<|.int 2)<|za (zv<|.int 2) zD)<|za (qQ<|za (zv<|.int 6)<|za (zv<|.int 1) zD)<|za (qQ<|za (zv<|.int 5)<|za (zv<|.int 1) zD)<|za (qQ<|za (zv<|.int 4)<|za (zv<|.int 1) zD)<|za (qQ<|za (zv<|.int 3)<|za (zv<|.int 1) zD) zD)<|zH yM (zc 1)<|zv<|.int 8)
theorem AV{c:Int}(h:0<=c) : ∃q:Nat,Pr (q:Int)/\([D.int 2,.int 3,.int 5,.int 7])[(c%4).toNat]? = bQ (.int q)/\f7 4 (c%4)=bQ (c%4).toNat:=by
 have a:=LQ c (show(4:Int)≠0 by decide);have b:=LB c (show(0:Int)<4 by decide);obtain⟨r,I⟩:=Ny a;rw[I];have O:r<4:=by omega
 rw[jl,RY O,Mt];rcases (by omega:r=0\/r=1\/r=2\/r=3)with e | e | e | e<;>subst e
 ·exact⟨2,.inl rfl,rfl,rfl⟩
 ·exact⟨3,.inr<|.inl rfl,rfl,rfl⟩
 ·exact⟨5,.inr<|.inr<|.inl rfl,rfl,rfl⟩
 ·exact⟨7,.inr<|.inr<|.inr rfl,rfl,rfl⟩
noncomputable def bS(bs:List (Int×Int))(j:Nat):Nat:=(bs.getD j (0,0)).1.toNat
noncomputable def bE(bs:List (Int×Int))(j:Nat):Nat:=(bs.getD j (0,0)).2.toNat
abbrev bW(bs:List (Int×Int)):Nat->Nat:=ft (bS bs) (bE bs) bs.length
abbrev bT(w:RX)(bs:List (Int×Int)):Nat->Nat->Nat->Int:=mC w (bS bs) (bE bs) bs.length
abbrev bL(bs:List (Int×Int))(r:Nat):List Nat:=qj (bS bs) (bE bs) bs.length r
section
variable{bs:List (Int×Int)}{m:Nat}{w:RX}
theorem bR(h : ∀b∈bs,Zy ((m+1:Nat):Int) b){j:Nat}(I:j<bs.length):bs[j]? = bQ ((bS bs j:Int),(bE bs j:Int))/\bS bs j<=bE bs j/\bE bs j<=m:=by have e:=IX I;have O:=h _<|LJ e;obtain⟨a,d,U⟩:=O;unfold bS bE;rw[IZ,e,Ov];refine⟨?_,by omega,by omega⟩;congr 1;exact Prod.ext (by dsimp only;omega) (by dsimp only;omega)
end
section
variable{bs:List (Int×Int)}{m:Nat}
theorem gD(h : ∀b∈bs,Zy ((m+1:Nat):Int) b):bs=(IS bs.length).map λj=>((bS bs j:Int),(bE bs j:Int)):=by
 apply MW;intro j;by_cases I:j<bs.length
 ·rw[(bR h I).1];simp[I]
 ·rw[List.getElem?_eq_none ⋯,List.getElem?_eq_none (by simpa using I)]
end
section
variable{p:Int}{w:RX}{wd:RZ}{T:RV}{m N:Nat}{A:Nat->e9}
theorem mh{M:Nat}{K I:List (Nat×Nat)}(C : ∀x,x∈K->x∈stN M)(H : ∀x,x∈I->x∈stN M)(h : ∀a b:Nat,a<=b->b<M->ni K a b=ni I a b){s:Nat×Nat}(hs:s.1<=s.2):z3 K s=z3 I s:=by
 have z : ∀{L:List (Nat×Nat)} {a b:Int},(∀x,x∈L->x∈stN M)->a<0\/(M:Int)<=b->ni L a b=0:=λ{L a b} U d=>by unfold ni;rw[OO];intro x e q;have:=Sb.mp<|U x e;simp only[Lq,decide_eq_true_eq]at q;omega
 have O : ∀{a b:Int},a<=b->ni K a b=ni I a b:=λ{a b} d=>by
  by_cases c:a<0\/(M:Int)<=b
  ·rw[z C c,z H c]
  ·have:=h a.toNat b.toNat ⋯ ⋯
   rw[NW ⋯,NW ⋯]at this;exact this
 have f:=JT s K;have g:=JT s I;rw[O ⋯,O ⋯,O ⋯,O ⋯]at f;omega
end
section
variable{p:Int}{w:RX}{wd:RZ}{T:RV}{m N N':Nat}{A A':Nat->e9}{d n:Nat}
noncomputable def DI(w:RX)(A:Nat->e9)(d n:Nat)(z:Bool)(j:Nat):Bool:=(A j).has d && ((!z && (A j).has (d+n)) || (!(A j).has (d+n) && !w ((A j).s+(A j).n - 1)))
noncomputable def DJ(w:RX)(A:Nat->e9)(d n:Nat)(z:Bool)(j:Nat):Vc:=if DI w A d n z j=dt then (A j).v d else λ_=>0
theorem sy(D:ow p w wd T m N A)(C:d+n<=m){z:Bool}{j:Nat}(O:j<N) : ∃y:Vc,Wk p w wd T d n (DJ w A d n z j) y/\(z=dt->∀i,y i=0):=by
 unfold DJ;by_cases h:DI w A d n z j=dt
 ·rw[RY h]
  unfold DI at h;simp only[Lq,MJ,Nh]at h;obtain⟨a,e⟩:=h;rcases e with⟨b,I⟩ | ⟨I,U⟩
  ·exact⟨_,Jf (D.ok j O) a n C I,λq=>by rw[q]at b;cases b⟩
  ·exact⟨_,VQ (D.ok j O) a U n C I,λ_ _=>rfl⟩
 ·rw[EQ h];exact⟨_,J2 n,λ_ _=>rfl⟩
theorem dZ(D:ow p w wd T m N A)(C:d+n<=m)(z:Bool)(u:Vc):Span p (wd d) (el N<|DJ w A d n z) u ↔ ∃y:Vc,Wk p w wd T d n u y/\(z=dt->∀i,y i%p=0):=by
 constructor
 ·intro h
  induction h with
  | zero h=>exact⟨_,nF (J2 n) λi o=>by rw[h i o];simp,λ_ _=>by simp⟩
  | step B _ e E=>
   obtain⟨y,f,k⟩:=E;obtain⟨j,U,rfl⟩:=B;obtain⟨H,g1,g2⟩:=sy D C (z:=z) U;refine⟨_,nF (gO n _ f g1) e,λq i=>?_⟩;rw[g2 q i,MS,NH];exact k q i
 ·rintro⟨y,f,k⟩
  obtain⟨a,r⟩:=D.sp d ⋯ u;obtain⟨b,l,t⟩ : ∃b:Vc,(∀i,i<wd (d+n)->y i%p=zf (λj=>if (A j).has (d+n)=dt then b j*(A j).v (d+n) i else 0) N%p)/\(z=dt->∀j,b j=0):=by
   cases z with
   | false=>
    obtain⟨b,l⟩:=D.sp (d+n) C y;exact⟨b,l,λq=>nomatch q⟩
   | true=>exact⟨λ_=>0,λi _=>by rw[k rfl i,zu (g:=λ_=>0) λj _=>by simp,zO];simp,λ_ _=>rfl⟩
  have x:=w6 D n C f r l;refine(Span.sum (u:=DJ w A d n z) a (m:=N) λj U=> .gen ⟨j,U,rfl⟩).congr λi o=>?_;rw[r i o];refine zI λj U=>?_;unfold DJ;by_cases O:(A j).has d=dt
  ·obtain⟨F,G⟩:=x j U O
   rw[RY O];by_cases I:DI w A d n z j=dt
   ·rw[RY I]
   ·rw[EQ I,MS]
    have:a j%p=0:=by
     unfold DI at I;rw[O]at I;cases h4:(A j).has (d+n)with
     | true=>
      rw[h4]at I;cases z with
      | true=>rw[F h4,t rfl j];simp
      | false=>simp at I
     | false=>
      rw[h4]at I;cases h5:w ((A j).s+(A j).n - 1)with
      | true=>exact G h4 h5
      | false=>rw[h5]at I;simp at I
    rw[Lc,this];simp
  ·have:DI w A d n z j=ed:=by unfold DI;rw[Bool.not_eq_true]at O;rw[O];rfl
   rw[EQ O,this];simp
theorem tI(I:Pr p)(D:ow p w wd T m N A)(U:ow p w wd T m N' A'){a b:Nat}(C:a<=b)(O:b<=m):ni (mE A N) a b=ni (mE A' N') a b:=by obtain⟨n,rfl⟩ : ∃n,b=a+n:=⟨b - a,by omega⟩;obtain⟨s,_,B,l,e,r⟩:=wg (n:=wd a) I N<|DJ w A a n ed;obtain⟨q,_,j,E,d,o⟩:=wg (n:=wd a) I N<|DJ w A a n dt;have g : ∀u,Span p (wd a) (el s B) u ↔ ∃z,Wk p w wd T a n u z:=λu=>(r u).trans ((dZ D O ed u).trans ⟨λ⟨y,h,_⟩=>⟨y,h⟩,λ⟨y,h⟩=>⟨y,h,λq=>nomatch q⟩⟩);have f : ∀u,Span p (wd a) (el q j) u↔Wk p w wd T a n u λ_=>0:=λu=>(o u).trans ((dZ D O dt u).trans ⟨λ⟨y,h,k⟩=>Cv h λi _=>by rw[k rfl i];simp,λh=>⟨_,h,λ_ _=>by simp⟩⟩);have t:=WV I D O e g d f;have x:=WV I U O e g d f;rw[<- oT D C,<- oT U C];omega
theorem dO(O:Pr p)(D:ow p w wd T m N A)(I:ow p w wd T m N' A'):(mE A N).Perm (mE A' N'):=by
 refine List.perm_iff_count.mpr λs=>?_;have e : ∀K:List (Nat×Nat),K.count s=z3 K s:=λK=>by unfold z3 List.count;exact MR λx _=>by simp
 rw[e,e];by_cases d:s.1<=s.2
 ·exact mh (M:=m+1) (Kb D) (Kb I) (λa b f g=>tI O D I f ⋯) d
 ·have z : ∀K:List (Nat×Nat),(∀x,x∈K->x∈stN (m+1))->z3 K s=0:=λK h=>by
   unfold z3;rw[OO];intro x U q;have:=(Sb.mp<|h x U).1;have q:=of_decide_eq_true q;rw[q]at this;exact d this
  rw[z _ (Kb D),z _ (Kb I)]
theorem ZU{bs:List (Int×Int)}(h : ∀b∈bs,Zy ((m+1:Nat):Int) b)(r:Nat):jf bs (r:Int)=bL bs r:=by
 unfold jf bL qj h6;refine SN λj I=>?_;have I:=IV.mp I;obtain⟨e,d,f⟩:=bR h I;have a:bs.getD j (0,0)=((bS bs j:Int),(bE bs j:Int)):=by rw[IZ,e];rfl
 rw[a];show mQ _ _=(decide (bS bs j<=r) && decide (r<bS bs j+(bE bs j - bS bs j+1)));unfold mQ;dsimp only;congr 1
 ·exact decide_eq_decide.mpr ⋯
 ·exact decide_eq_decide.mpr ⋯
end
theorem nu:qA=jn 8 (zN (xf 2<|qm zD)<|zN (xU (zR<|zH qa (yT<|zc 0)<|zv<|.int 1) (.nm 3)<|jV 2<|jA gC)<|zN (iM 2<|xf 4<|qm zD)<|zN (xU (zR<|yT<|zc 0) (.nm 5) nv) ub):=rfl
section
variable{p:Int}{m:Nat}{w:RX}{bs:List (Int×Int)}
theorem pL(h : ∀b∈bs,Zy ((m+1:Nat):Int) b)(k:Nat):((jf bs<|zK w k).map λx=>D.lst<|(jf bs<|zE w k).map λy=>D.int<|if x=y then 1 else 0)=j6 (eK w (bW bs) k) (eX w (bW bs) k) (bT w bs k):=by
 rw[ZU h,ZU h];unfold j6;rw[<- qD,<- qH]
 conv=>lhs;rw[<- jg bs.length (bL bs<|zK w k),LG]
 refine Ll λi a=>?_;show D.lst ((bL bs<|zE w k).map λy=>D.int<|if (bL bs<|zK w k).getD i bs.length=y then 1 else 0)=D.lst (zA _ _);congr 1;rw[zV]
 conv=>lhs;rw[<- jg (bs.length+1) (bL bs<|zE w k),LG]
 rfl
theorem Y1(Y:m<=5)(hb:bs.length<64)(h : ∀b∈bs,Zy ((m+1:Nat):Int) b):qA [.str (qb m w),.lst (jq bs)]=bQ (.val<|qp m w (bW bs)<|bT w bs):=by
 have hl:=jm;have G:m<=lim:=by omega
 have u:bs.length<=lim:=by omega
 have wl:=v7 m w;have z:=kj w (show m<=1000 by omega);have pl : ∀r:Int,(jf bs r).length<=lim:=λr=>by have:=dD bs r;omega
 let N:Nat->List D:=λs=>(IS s).map λ(r:Nat)=>D.lst<|Yt<|jf bs (r:Int);let γ:Cell->Cell->Cell->Cell->Cell->Cell->Ctx:=λO I K j a d=>[.val (.str<|qb m w),.val<|.lst<|jq bs,O,I,K,j,a,d];have one : ∀(s:Nat) O,gC (γ O (.val<|.int (s:Int)) .no .no .no .no)=bQ (Yt<|jf bs (s:Int)):=λs O=>by
  have t:zQ (.nm 0) (sB<|kK o5 o5 (dy (zw<|dy (ze 1)<|zc 0)<|zv<|.int 0) (zc 2)<|dy (zw<|dy (ze 1)<|zc 0)<|zv<|.int 1) (zc 0) [Cell.no,.val<|.lst<|jq bs,.val (.int (s:Int))] ((IS bs.length).map λ(i:Nat)=>D.int i)=bQ (((IS bs.length).filter λi=>mQ (bs.getD i (0,0)) s).map λ(i:Nat)=>D.int i):=by
   refine jy _ _ _ λi n=>⟨_,rfl,?_,λ_=>rfl⟩;have n:=IV.mp n;have e:(jq bs)[i]? = bQ (D.tup [.int (bs.getD i (0,0)).1,.int (bs.getD i (0,0)).2]):=by unfold jq;rw[Lz,IZ,IX n];rfl
   have E:zw (dy (ze 1)<|zc 0) [Cell.val (D.int (i:Int)),.val<|.lst<|jq bs,.val (.int (s:Int))]=bQ (.T,[.int (bs.getD i (0,0)).1,.int (bs.getD i (0,0)).2]):=by rw[show zw (dy (ze 1)<|zc 0) [Cell.val (D.int (i:Int)),.val<|.lst<|jq bs,.val (.int (s:Int))]=((f7 (jq bs).length (i:Int)).bind λk=>(jq bs)[k]?).bind je from rfl,Y0,jl,RY n];show((jq bs)[i]?).bind je=_;rw[e];rfl
   show sB (kK o5 o5 (dy (zw<|dy (ze 1)<|zc 0)<|zv<|.int 0) (zc 2)<|dy (zw<|dy (ze 1)<|zc 0)<|zv<|.int 1) [Cell.val (D.int (i:Int)),.val<|.lst<|jq bs,.val (.int (s:Int))]=_;have A:dy (zw<|dy (ze 1)<|zc 0) (zv<|.int 0) [Cell.val (D.int (i:Int)),.val<|.lst<|jq bs,.val (.int (s:Int))]=bQ (.int (bs.getD i (0,0)).1):=by rw[xN,E];rfl
   have B:dy (zw<|dy (ze 1)<|zc 0) (zv<|.int 1) [Cell.val (D.int (i:Int)),.val<|.lst<|jq bs,.val (.int (s:Int))]=bQ (.int (bs.getD i (0,0)).2):=by rw[xN,E];rfl
   generalize bs.getD i (0,0)=b at A B;simp[-xN,A,B,mQ];by_cases q:b.1<=(s:Int)<;>simp[q]
  unfold gC;rw[jG,show zR (xH<|ze 1) (γ O (.val<|.int (s:Int)) .no .no .no .no)=bQ ((IS bs.length).map λ(i:Nat)=>D.int i)by
   have r:inR (bs.length:Int)=dt:=Zq u;simp[γ,r,jv];rw[zV]]
  simp only[IY,Ly,LP,u,if_true];exact t
 obtain⟨γ1,W,I,rfl⟩:=qS (T:= .nm 3) (F:=jV 2<|jA gC) (f:=zH qa (yT<|zc 0)<|zv<|.int 1)
  (λs γ'=>∃I,γ'=γ (.own<|N s) I .no .no .no .no) (m+1) ⋯ (γ:=γ (.own []) .no .no .no .no .no) (by simp[γ,wl,z]) ⟨.no,rfl⟩ (by
    rintro s o γ' ⟨I,rfl⟩;refine⟨γ (.own<|N s) (.val<|.int (s:Int)) .no .no .no .no,γ (.own<|N<|s+1) (.val<|.int (s:Int)) .no .no .no .no,rfl,?_,_,rfl⟩;have p:(N s).length<lim:=by simp[N];omega
    rw[xD,xC,one];show(if (N s).length<lim then _ else none)=_;rw[RY p];show bQ (Fl.next<|γ (.own<|N s++[D.lst (Yt<|jf bs (s:Int))]) _ _ _ _ _)=_;rw[<- kL s λ(r:Nat)=>D.lst (Yt<|jf bs (r:Int))])
 have p:(N<|m+1).length=m+1:=by simp[N]
 have S : ∀{r:Nat},r<m+1->(N<|m+1)[r]? = bQ (D.lst<|Yt<|jf bs (r:Int)):=λ{r} U=>by show((IS<|m+1).map _)[r]? = _;rw[Lz,MP U];rfl
 have C : ∀{r:Nat},r<m+1->((f7 (N<|m+1).length (r:Int)).bind λk=>(N<|m+1)[k]?).bind je=bQ (.L,Yt<|jf bs (r:Int)):=λ{r} U=>by rw[p,jl,RY U];show((N<|m+1)[r]?).bind je=_;rw[S U];rfl
 obtain⟨Z,X,j,a,d,rfl⟩:=qS (T:= .nm 5) (F:=nv) (f:=yT<|zc 0)
  (λs γ'=>∃j a d,γ'=γ (.val<|.lst<|N<|m+1) I (.own<|ql s w (bW bs)<|bT w bs) j a d) m G (γ:=γ (.val<|.lst<|N<|m+1) I (.own []) .no .no .no) (by simp[γ,wl,z]) ⟨.no,.no,.no,rfl⟩ (by
    rintro s o γ' ⟨j,a,d,rfl⟩;have P:=kF (w:=w) Y o;have Q:=vQ (w:=w) o;have R:=vS (w:=w) o;let g:=γ (.val<|.lst<|N<|m+1) I (.own<|ql s w (bW bs)<|bT w bs) (.val<|.int (s:Int)) (.val<|.int (zE w s:Nat))<|.val<|.int (zK w s:Nat);refine⟨γ (.val<|.lst<|N<|m+1) I (.own<|ql s w (bW bs)<|bT w bs) (.val<|.int (s:Int)) a d,γ (.val<|.lst<|N<|m+1) I (.own<|ql (s+1) w (bW bs)<|bT w bs) (.val<|.int (s:Int)) (.val<|.int (zE w s:Nat))<|.val<|.int (zK w s:Nat),rfl,?_,_,_,_,rfl⟩;unfold nv;refine zk (γ':=g) (by simp[g,γ,P]) ?_;have lt:(ql s w (bW bs)<|bT w bs).length<lim:=by simp[ql];omega
    have t:zQ (.nm 0) jj tZ [Cell.no,.val<|.lst<|N<|m+1,.val (.int (zE w s:Nat))] (Yt<|jf bs (zK w s:Nat))=bQ ((jf bs (zK w s:Nat)).map λx=>D.lst<|(jf bs (zE w s:Nat)).map λy=>D.int<|if x=y then 1 else 0):=by
     unfold Yt;refine zx _ _ λx hx=>zy (γ1:=[.val (.int (x:Int)),.val<|.lst<|N<|m+1,.val (.int (zE w s:Nat))]) rfl rfl ?_;unfold tZ;have l:zF (zw<|dy (ze 1)<|zc 2) [Cell.val (.int (x:Int)),.val<|.lst<|N<|m+1,.val (.int (zE w s:Nat))]=bQ (Yt<|jf bs (zE w s:Nat)):=by show(((f7 (N<|m+1).length ((zE w s:Nat):Int)).bind λk=>(N<|m+1)[k]?).bind je).map (·.2)=_;rw[C R];rfl
     rw[xC,jG,l];simp only[IY,X5,pl,if_true];rw[show z6 1 [0] [Cell.val (.int (x:Int)),.val<|.lst<|N<|m+1,.val (.int (zE w s:Nat))]=[Cell.no,.val (.int (x:Int))]from rfl,sQ];rfl
    have M:ua g=bQ ((jf bs (zK w s:Nat)).map λx=>D.lst<|(jf bs (zE w s:Nat)).map λy=>D.int<|if x=y then 1 else 0):=by
     unfold ua;have l:zF (zw<|dy (ze 2)<|zc 7) g=bQ (Yt<|jf bs (zK w s:Nat)):=by show(((f7 (N<|m+1).length ((zK w s:Nat):Int)).bind λk=>(N<|m+1)[k]?).bind je).map (·.2)=_;rw[C Q];rfl
     rw[jG,l];simp only[IY,X5,pl,if_true];exact t
    rw[xD,xC,M,pL h];show(if (ql s w (bW bs)<|bT w bs).length<lim then _ else none)=_;rw[RY lt];show bQ (Fl.next<|γ _ _ (.own<|ql s w (bW bs) (bT w bs)++[D.lst (j6 (eK w (bW bs) s) (eX w (bW bs) s)<|bT w bs s)]) _ _ _)=_;unfold ql;rw[<- kL s λk=>D.lst (j6 (eK w (bW bs) k) (eX w (bW bs) k)<|bT w bs k)])
 rw[nu];refine jb<|zk (γ':=γ (.own []) .no .no .no .no .no) rfl<|zk W<|zk (γ':=γ (.val<|.lst<|N<|m+1) I (.own []) .no .no .no) rfl<|zk X ?_;have H:zQ (.nm 0) jj (xH<|ze 0) [Cell.no] (N<|m+1)=bQ (zA (m+1) λk=>(bW bs k:Int)):=by
  rw[zV];refine zx _ _ λr U=>zy (γ1:=[.val (D.lst<|Yt<|jf bs (r:Int))]) rfl rfl ?_;have e:(jf bs (r:Int)).length=bW bs r:=by rw[ZU h];rfl
  show bQ (D.int ((Yt<|jf bs (r:Int)).length:Int))=_;rw[X5,e]
 have J:m+1<=lim:=by omega
 have l2:2<=lim:=by omega
 unfold ub;show jM _ (γ (.val<|.lst<|N<|m+1) I (.val<|.lst<|ql m w (bW bs)<|bT w bs) j a d)=_;have v:zP (zF<|ze 2) (.nm 0) 1 [] jj (xH<|ze 0) (γ (.val<|.lst<|N<|m+1) I (.val<|.lst<|ql m w (bW bs)<|bT w bs) j a d)=bQ (zA (m+1) λk=>(bW bs k:Int)):=by rw[jG,show zF (ze 2) (γ (.val<|.lst<|N<|m+1) I (.val<|.lst<|ql m w (bW bs)<|bT w bs) j a d)=bQ (N<|m+1)from rfl];simp only[IY,p,J,if_true];exact H
 rw[wV,Xs,z9,xC,v];simp[γ,qp]
end
theorem Wa:z5=jn 6 (zN (xf 4<|qm zD)<|zN (xU (zF<|zw<|zc 1) (.nm 5)<|jV 4<|jA QA)<|JA 4):=rfl
theorem WQ{h w:Nat}{f g:RK}(e : ∀i j,i<h->j<w->f i j=g i j):j6 h w f=j6 h w g:=by unfold j6;refine Ll λi a=>?_;rw[kR λj I=>e i j (IV.mp a) I]
section
variable{p:Int}{h n w:Nat}{f g:RK}
theorem cF(L:0<p)(p7:p<=7)(Y:h<=60)(Z:n<=60)(hw:w<=60)(H : ∀i k,i<h->k<n->0<=f i k/\f i k<p):z5 [.int p,.lst<|j6 h n f,.lst<|j6 n w g,.int (w:Int)]=bQ (.own<|j6 h w λi j=>zf (λk=>f i k*g k j) n%p):=by
 have P:=jm;have y:n<=lim:=by omega
 have z:w<=lim:=by omega
 have G : ∀i j:Nat,i<h->j<w->cE [.val (.int (j:Int)),.val<|.int p,.val<|.lst<|j6 n w g,.val (.lst<|zA n<|f i)]=bQ (zA n λk=>f i k*g k j):=λi j u U=>by
  have l:zR (xH<|ze 3) [Cell.val (.int (j:Int)),.val<|.int p,.val<|.lst<|j6 n w g,.val (.lst<|zA n<|f i)]=bQ ((IS n).map λ(k:Nat)=>D.int (k:Int)):=by have r:inR (n:Int)=dt:=Zq y;simp[r,jv];rw[zV]
  unfold cE;rw[jG,l];simp only[IY,Ly,LP,y,if_true];rw[show z6 1 [0,2,3] [Cell.val (.int (j:Int)),.val<|.int p,.val<|.lst<|j6 n w g,.val (.lst<|zA n<|f i)]=[Cell.no,.val<|.int (j:Int),.val<|.lst<|j6 n w g,.val (.lst<|zA n<|f i)]from rfl,zV];refine zx _ _ λk I=>zy (γ1:=[.val (.int (k:Int)),.val<|.int (j:Int),.val<|.lst<|j6 n w g,.val (.lst<|zA n<|f i)]) rfl rfl ?_;have I:=IV.mp I;have C:dy (ze 3) (zc 0) [Cell.val (.int (k:Int)),.val<|.int (j:Int),.val<|.lst<|j6 n w g,.val (.lst<|zA n<|f i)]=bQ (.int<|f i k):=by show((f7 (zA n<|f i).length (k:Int)).bind λx=>(zA n<|f i)[x]?)=_;rw[vq,jl,RY I];exact yB _ I
  have E:dy (zw<|dy (ze 2)<|zc 0) (zc 1) [Cell.val (.int (k:Int)),.val<|.int (j:Int),.val<|.lst<|j6 n w g,.val (.lst<|zA n<|f i)]=bQ (.int<|g k j):=by
   show((((f7 (j6 n w g).length (k:Int)).bind λx=>(j6 n w g)[x]?).bind je).bind λa=>((bQ (D.int (j:Int))).bind l0).bind λi=>(f7 a.2.length i).bind λx=>a.2[x]?)=_;have e:(j6 n w g)[k]? = bQ (D.lst<|zA w<|g k):=by unfold j6;rw[Lz,MP I];rfl
   rw[vo,jl,RY I];show((((j6 n w g)[k]?).bind je).bind _)=_;rw[e];show((f7 (zA w<|g k).length (j:Int)).bind λx=>(zA w<|g k)[x]?)=_;rw[vq,jl,RY U];exact yB _ U
  have b:=H i k u I;have c:JY (f i k) (g k j)=dt:=vc _ _ ⋯ ⋯;rw[yN,C,E];simp[c]
 have row : ∀i:Nat,i<h->∀O,QA [.val (.int p),.val<|.lst<|j6 h n f,.val<|.lst<|j6 n w g,.val<|.int (w:Int),O,.val (.lst<|zA n<|f i)]=bQ (zA w λj=>zf (λk=>f i k*g k j) n%p):=λi u O=>by
  have l:zR (zc 3) [.val (.int p),.val<|.lst<|j6 h n f,.val<|.lst<|j6 n w g,.val<|.int (w:Int),O,.val (.lst<|zA n<|f i)]=bQ ((IS w).map λ(k:Nat)=>D.int (k:Int)):=by have r:inR (w:Int)=dt:=Zq z;simp[r,jv];rw[zV]
  unfold QA;rw[jG,l];simp only[IY,Ly,LP,z,if_true];rw[show z6 1 [0,2,5] [Cell.val (.int p),.val<|.lst<|j6 h n f,.val<|.lst<|j6 n w g,.val<|.int (w:Int),O,.val (.lst<|zA n<|f i)]=[Cell.no,.val<|.int p,.val<|.lst<|j6 n w g,.val (.lst<|zA n<|f i)]from rfl,zV];refine zx _ _ λj U=>zy (γ1:=[.val (.int (j:Int)),.val<|.int p,.val<|.lst<|j6 n w g,.val (.lst<|zA n<|f i)]) rfl rfl ?_;have e:=G i j u<|IV.mp U;rw[yN,Y4,yF,e];simp[yS,L]
 let m:Cell->Cell->Ctx:=λO o=>[.val (.int p),.val<|.lst<|j6 h n f,.val<|.lst<|j6 n w g,.val<|.int (w:Int),O,o];obtain⟨γ1,e,o,rfl⟩:=xW (T:= .nm 5) (F:=jV 4<|jA QA) (λs γ'=>∃o,γ'=m (.own<|(IS s).map λi=>D.lst<|zA w λj=>zf (λk=>f i k*g k j) n%p) o) (j6 h n f) 0 (m (.own []) .no) ⟨.no,rfl⟩ (by
  rintro s d γ' t ⟨o,rfl⟩;rw[LV]at *;obtain⟨J,rfl⟩:s<h/\d=D.lst (zA n<|f s):=by unfold j6 at t;rw[Lz]at t;obtain⟨Q,M,N⟩:=SJ.mp t;obtain⟨A,B⟩:=Lh.mp M;rw[LP]at A;rw[List.getElem_range]at B;subst B;exact⟨A,N.symm⟩
  refine⟨m (.own<|(IS<|s+1).map λi=>D.lst<|zA w λj=>zf (λk=>f i k*g k j) n%p)<|.val<|.lst<|zA n<|f s,.inl ?_,_,rfl⟩;show jV 4 (jA QA) (m (.own<|(IS s).map λi=>D.lst<|zA w λj=>zf (λk=>f i k*g k j) n%p)<|.val<|.lst<|zA n<|f s)=_;have K:((IS s).map λi=>D.lst<|zA w λj=>zf (λk=>f i k*g k j) n%p).length<lim:=by simp;omega
  rw[xD,xC,row s J];show(if _<lim then _ else none)=_;rw[RY K,kL s λi=>D.lst (zA w λj=>zf (λk=>f i k*g k j) n%p)];rfl)
 rw[Wa];refine jb<|zk (γ':=m (.own []) .no) rfl<|zk (γ':=m (.own<|j6 h w λi j=>zf (λk=>f i k*g k j) n%p) o) ?_ rfl;rw[kT,show zF (zw<|zc 1) (m (.own []) .no)=bQ (j6 h n f)from rfl];rw[LV,vo]at e;exact e
end
noncomputable def EE(h n:Nat)(f:RK)(X:D):Prop:=∃(a:Sk) (r:Nat->D),je X=bQ (a,(IS h).map r)/\∀i,i<h->∃I,je (r i)=bQ (I,zA n<|f i)
theorem eT(h n:Nat)(f:RK):EE h n f (.lst<|j6 h n f):=⟨.L,λi=>D.lst<|zA n<|f i,rfl,λi _=>⟨.L,rfl⟩⟩
theorem eQ(h n:Nat)(f:RK):EE h n f (.tup<|zX h n f):=⟨.T,λi=>D.tup<|zA n<|f i,rfl,λi _=>⟨.T,rfl⟩⟩
section
variable{p:Int}{h n w:Nat}{f g:RK}{X Y:D}
theorem Wb(p0:0<p)(p7:p<=7)(hh:h<=60)(hn:n<=60)(hw:w<=60)(Z:EE h n f X)(hY:EE n w g Y)(L : ∀i k,i<h->k<n->0<=f i k/\f i k<p):z5 [.int p,X,Y,.int (w:Int)]=bQ (.own<|j6 h w λi j=>zf (λk=>f i k*g k j) n%p):=by
 have hl:=jm;have u:n<=lim:=by omega
 have y:w<=lim:=by omega
 obtain⟨κ,r,M,Q⟩:=Z;obtain⟨UM,r',N,J⟩:=hY;have K : ∀i j:Nat,i<h->j<w->cE [.val (.int (j:Int)),.val<|.int p,.val Y,.val (r i)]=bQ (zA n λk=>f i k*g k j):=λi j t U=>by
  obtain⟨UN,A⟩:=Q i t;have l:zR (xH<|ze 3) [Cell.val (.int (j:Int)),.val<|.int p,.val Y,.val (r i)]=bQ ((IS n).map λ(k:Nat)=>D.int (k:Int)):=by have z:inR (n:Int)=dt:=Zq u;simp[A,z,jv];rw[zV]
  unfold cE;rw[jG,l];simp only[IY,Ly,LP,u,if_true];rw[show z6 1 [0,2,3] [Cell.val (.int (j:Int)),.val<|.int p,.val Y,.val (r i)]=[Cell.no,.val<|.int (j:Int),.val Y,.val (r i)]from rfl,zV];refine zx _ _ λk I=>zy (γ1:=[.val (.int (k:Int)),.val<|.int (j:Int),.val Y,.val (r i)]) rfl rfl ?_;have I:=IV.mp I;obtain⟨UO,P⟩:=J k I;have G:dy (ze 3) (zc 0) [Cell.val (.int (k:Int)),.val<|.int (j:Int),.val Y,.val (r i)]=bQ (.int<|f i k):=by show((je<|r i).bind λa=>(f7 a.2.length (k:Int)).bind λx=>a.2[x]?)=_;rw[A];show((f7 (zA n<|f i).length (k:Int)).bind λx=>(zA n<|f i)[x]?)=_;rw[vq,jl,RY I];exact yB _ I
  have H:dy (zw<|dy (ze 2)<|zc 0) (zc 1) [Cell.val (.int (k:Int)),.val<|.int (j:Int),.val Y,.val (r i)]=bQ (.int<|g k j):=by show((((je Y).bind λa=>(f7 a.2.length (k:Int)).bind λx=>a.2[x]?).bind je).bind λa=>((bQ (D.int (j:Int))).bind l0).bind λi=>(f7 a.2.length i).bind λx=>a.2[x]?)=_;rw[N];show(((f7 ((IS n).map r').length (k:Int)).bind λx=>((IS n).map r')[x]?).bind je).bind _=_;rw[Ly,LP,jl,RY I];show((((IS n).map r')[k]?).bind je).bind _=_;rw[Lz,MP I];show(je<|r' k).bind _=_;rw[P];show((f7 (zA w<|g k).length (j:Int)).bind λx=>(zA w<|g k)[x]?)=_;rw[vq,jl,RY U];exact yB _ U
  have b:=L i k t I;have c:JY (f i k) (g k j)=dt:=vc _ _ ⋯ ⋯;rw[yN,G,H];simp[c]
 have row : ∀i:Nat,i<h->∀O,QA [.val (.int p),.val X,.val Y,.val<|.int (w:Int),O,.val (r i)]=bQ (zA w λj=>zf (λk=>f i k*g k j) n%p):=λi t O=>by
  have l:zR (zc 3) [.val (.int p),.val X,.val Y,.val<|.int (w:Int),O,.val (r i)]=bQ ((IS w).map λ(k:Nat)=>D.int (k:Int)):=by have z:inR (w:Int)=dt:=Zq y;simp[z,jv];rw[zV]
  unfold QA;rw[jG,l];simp only[IY,Ly,LP,y,if_true];rw[show z6 1 [0,2,5] [Cell.val (.int p),.val X,.val Y,.val<|.int (w:Int),O,.val (r i)]=[Cell.no,.val<|.int p,.val Y,.val (r i)]from rfl,zV];refine zx _ _ λj U=>zy (γ1:=[.val (.int (j:Int)),.val<|.int p,.val Y,.val (r i)]) rfl rfl ?_;have e:=K i j t<|IV.mp U;rw[yN,Y4,yF,e];simp[yS,p0]
 let m:Cell->Cell->Ctx:=λO o=>[.val (.int p),.val X,.val Y,.val<|.int (w:Int),O,o];obtain⟨γ1,e,o,rfl⟩:=xW (T:= .nm 5) (F:=jV 4<|jA QA) (λs γ'=>∃o,γ'=m (.own<|(IS s).map λi=>D.lst<|zA w λj=>zf (λk=>f i k*g k j) n%p) o) ((IS h).map r) 0 (m (.own []) .no) ⟨.no,rfl⟩ (by
  rintro s d γ' B ⟨o,rfl⟩;rw[LV]at *;obtain⟨R,rfl⟩:s<h/\d=r s:=by rw[Lz]at B;obtain⟨k',W,q2⟩:=SJ.mp B;obtain⟨C,E⟩:=Lh.mp W;rw[LP]at C;rw[List.getElem_range]at E;subst E;exact⟨C,q2.symm⟩
  refine⟨m (.own<|(IS<|s+1).map λi=>D.lst<|zA w λj=>zf (λk=>f i k*g k j) n%p)<|.val<|r s,.inl ?_,_,rfl⟩;show jV 4 (jA QA) (m (.own<|(IS s).map λi=>D.lst<|zA w λj=>zf (λk=>f i k*g k j) n%p)<|.val<|r s)=_;have S:((IS s).map λi=>D.lst<|zA w λj=>zf (λk=>f i k*g k j) n%p).length<lim:=by simp;omega
  rw[xD,xC,row s R];show(if _<lim then _ else none)=_;rw[RY S,kL s λi=>D.lst (zA w λj=>zf (λk=>f i k*g k j) n%p)];rfl)
 rw[Wa];refine jb<|zk (γ':=m (.own []) .no) rfl<|zk (γ':=m (.own<|j6 h w λi j=>zf (λk=>f i k*g k j) n%p) o) ?_ rfl;rw[kT,show zF (zw<|zc 1) (m (.own []) .no)=bQ ((IS h).map r)by
  show(je X).map (·.2)=_;rw[M];rfl]
 rw[LV,Ly,LP]at e;exact e
end
noncomputable def mM(p:Int)(n:Nat)(f g:RK):Nat->Nat->Int:=λi j=>zf (λk=>f i k*g k j) n%p
section
variable{p:Int}{n:Nat}{f f' g g':RK}{i j:Nat}
theorem xB(p:Int)(n w:Nat)(a b c:RK)(i j:Nat):mM p n a (mM p w b c) i j=mM p w (mM p n a b) c i j:=KO p a b c n w i j
theorem qr(C : ∀k,k<n->f i k=f' i k)(H : ∀k,k<n->g k j=g' k j):mM p n f g i j=mM p n f' g' i j:=by unfold mM;rw[zu λk I=>by rw[C k I,H k I]]
theorem mw(I:0<p)(n:Nat)(f g:RK)(i j:Nat):0<=mM p n f g i j/\mM p n f g i j<p:=⟨LQ _ ⋯,LB _ I⟩
theorem eU(I:j<n)(f:RK)(i:Nat):mM p n f hH i j=f i j%p:=by unfold mM;rw[zM (i:=j) I λk _ O=>by unfold hH;rw[EQ O];simp];simp[hH]
theorem Bs(hi:i<n)(g:RK)(j:Nat):mM p n hH g i j=g i j%p:=by unfold mM;rw[zM (i:=i) hi λk _ I=>by unfold hH;rw[EQ (LC I)];simp];simp[hH]
theorem X8(two:2<=p)(u:wW p n f g)(hi:i<n)(I:j<n):mM p n f g i j=hH i j:=by have:=u i j hi I;unfold mM;rw[this];unfold hH;split<;>first | exact LX ⋯ ⋯ | rfl
theorem iu(p:Int)(w:RX)(wd:RZ)(f g T:RV)(k i j:Nat):yk p w wd f g T k i j=mM p (wd<|zE w k) (mM p (wd<|zK w k) (f<|zK w k)<|T k) (g<|zE w k) i j:=by unfold yk mM;congr 2;funext b;rw[Ml];congr 3;funext a;exact Ml _ _
end
theorem fS{n i:Nat}(h:i<n)(f:Nat->Int):(zA n f)[i]? = bQ (.int<|f i):=by unfold zA;simp[h]
theorem bB{p:Int}{h w:Nat}(H:h<=100)(J:w<=100){f:RK}(C : ∀i j,0<=f i j/\f i j<p):qh [jJ h w f,.int p,.int (h:Int),.int (w:Int)]=bQ (.val<|.bl dt):=by
 have G:=jm;have l:w<=lim:=by omega
 have O:=Ve h w f;have U:f7 3 0=bQ 0:=rfl;have b:f7 3 1=bQ 1:=rfl;have g:f7 3 2=bQ 2:=rfl;have z:=vU (h:Int);have A:=vU (w:Int);have m:cf Ty.tuple (jJ h w f)=dt:=rfl;have n:cf Ty.tuple (.tup<|zX h w f)=dt:=rfl;have s:h9 (.int ((3:Nat):Int)) (.int 3)=bQ (.bl ed):=rfl;have t:h9 (.int (h:Int)) (.int (h:Int))=bQ (.bl ed):=wK rfl;have k:h9 (.int (w:Int)) (.int (w:Int))=bQ (.bl ed):=wK rfl;have u:(h7 (w5 (j8<|sB<|m3 .tuple<|zc 0)<|w5 (sB<|zH h9 (xH<|ze 0)<|zv<|.int 3)<|w5 (j8<|sB<|zC jH<|za (dy (ze 0)<|zv<|.int 0) zD)<|j8<|sB<|zC jH<|za (dy (ze 0)<|zv<|.int 1) zD) (jM<|zv<|.bl ed) jZ) (z7 5 [jJ h w f,.int p,.int (h:Int),.int (w:Int)])=bQ (.next [.val (jJ h w f),.val<|.int p,.val<|.int (h:Int),.val<|.int (w:Int),.no]):=by show h7 _ _ _ [.val (jJ h w f),.val<|.int p,.val<|.int (h:Int),.val<|.int (w:Int),.no]=_;simp[O,m,U,b,z,A,s]
 have x:(h7 (w5 (sB<|zH h9 (dy (ze 0)<|zv<|.int 0)<|zc 2)<|w5 (sB<|zH h9 (dy (ze 0)<|zv<|.int 1)<|zc 3)<|w5 (j8<|sB<|m3 .tuple<|dy (ze 0)<|zv<|.int 2)<|sB<|zH h9 (xH<|zw<|dy (ze 0)<|zv<|.int 2)<|zc 2) (jM<|zv<|.bl ed) jZ) [.val (jJ h w f),.val<|.int p,.val<|.int (h:Int),.val<|.int (w:Int),.no]=bQ (.next [.val (jJ h w f),.val<|.int p,.val<|.int (h:Int),.val<|.int (w:Int),.no]):=by simp[O,n,U,b,g,t,k,jD,Zu]
 have ln : ∀i,zQ (.nm 0) jj (aM (zC jH<|za (zc 0) zD)<|kK o5 u0 (zv<|.int 0) (zc 0)<|zc 1) [Cell.no,.val (.int p)] (zA w<|f i)=bQ ((IS w).map λ_=>D.bl dt):=λi=>by rw[zV];refine zx _ _ λj E=>zy rfl rfl ?_;have B:=vU<|f i j;have:=C i j;show aM _ _ [Cell.val (.int<|f i j),.val (.int p)]=_;simp[B,this.1,this.2]
 obtain⟨γ',q,I,e⟩:=xW (T:= .nm 4) (F:=(zN (h7 (w5 (j8<|sB<|m3 .tuple<|zc 4)<|sB<|zH h9 (xH<|ze 4)<|zc 3) (jM<|zv<|.bl ed) jZ)<|h7 (j8<|sB<|hU<|jL<|zP (zF<|ze 4) (.nm 0) 1 [1] jj (aM (zC jH<|za (zc 0) zD)<|kK o5 u0 (zv<|.int 0) (zc 0)<|zc 1)) (jM<|zv<|.bl ed) jZ)) (λ_ γ=>∃I,γ=[.val (jJ h w f),.val<|.int p,.val<|.int (h:Int),.val<|.int (w:Int),I]) (zX h w f) 0 [.val (jJ h w f),.val<|.int p,.val<|.int (h:Int),.val<|.int (w:Int),.no] ⟨_,rfl⟩ (by
  rintro i d γ a ⟨I,rfl⟩;have r:i<h:=by have:=(Lh.mp a).1;rwa [Zu]at this
  rw[fV r]at a;cases a;refine⟨[.val (jJ h w f),.val<|.int p,.val<|.int (h:Int),.val<|.int (w:Int),.val (.tup<|zA w<|f i)],.inl ?_,_,rfl⟩;have ty:cf Ty.tuple (.tup<|zA w<|f i)=dt:=rfl;refine zk (F:=(h7 (w5 (j8<|sB<|m3 .tuple<|zc 4)<|sB<|zH h9 (xH<|ze 4)<|zc 3) (jM<|zv<|.bl ed) jZ)) (γ:=[.val (jJ h w f),.val<|.int p,.val<|.int (h:Int),.val<|.int (w:Int),.val (.tup<|zA w<|f i)]) (γ':=[.val (jJ h w f),.val<|.int p,.val<|.int (h:Int),.val<|.int (w:Int),.val (.tup<|zA w<|f i)]) ?_ ?_
  ·simp[ty,jD,k]
  ·rw[QM]
   have o:(j8<|sB<|hU<|jL<|zP (zF<|ze 4) (.nm 0) 1 [1] jj (aM (zC jH<|za (zc 0) zD)<|kK o5 u0 (zv<|.int 0) (zc 0)<|zc 1)) [.val (jJ h w f),.val<|.int p,.val<|.int (h:Int),.val<|.int (w:Int),.val (.tup<|zA w<|f i)]=bQ ed:=by rw[uh,gL,oY,yF,jG];simp only[q9,j7,Ld,Lg,zY,jD,Lm,IY,ko,l,if_true];rw[show z6 1 [1] [.val (jJ h w f),.val<|.int p,.val<|.int (h:Int),.val<|.int (w:Int),.val (.tup<|zA w<|f i)]=[Cell.no,.val (.int p)]from rfl,ln i];simp[KL,aj]
   rw[o];rfl)
 subst e;have y:(xU (zF<|zw<|dy (ze 0)<|zv<|.int 2) (.nm 4)<|zN (h7 (w5 (j8<|sB<|m3 .tuple<|zc 4)<|sB<|zH h9 (xH<|ze 4)<|zc 3) (jM<|zv<|.bl ed) jZ)<|h7 (j8<|sB<|hU<|jL<|zP (zF<|ze 4) (.nm 0) 1 [1] jj (aM (zC jH<|za (zc 0) zD)<|kK o5 u0 (zv<|.int 0) (zc 0)<|zc 1)) (jM<|zv<|.bl ed) jZ) [.val (jJ h w f),.val<|.int p,.val<|.int (h:Int),.val<|.int (w:Int),.no]=bQ (.next [.val (jJ h w f),.val<|.int p,.val<|.int (h:Int),.val<|.int (w:Int),I]):=by rw[kT];simp only[q9,qG,xN,j7,yh,Ld,Lg,LM,Mh,LV,MN,zY,IY,Lm,O,qg,g,jD];exact q
 exact jb<|zk u<|zk x<|zk y rfl
theorem Y3{p:Int}{n:Nat}(H:n<=100){hs ws:RZ}(O : ∀k,hs k<=100)(C : ∀k,ws k<=100){X:RV}(U : ∀k i j,0<=X k i j/\X k i j<p) :
 qv [.lst (fh n hs ws X),.int p,.lst<|zA n λk=>(hs k:Int),.lst (zA n λk=>(ws k:Int))]=bQ (.val<|.bl dt):=by
 have o:=jm;have b:n<=lim:=by omega
 have g:inR (n:Int)=dt:=wG ⋯ ⋯;have a:=XE n hs ws X;have ty:cf Ty.list (.lst<|fh n hs ws X)=dt:=rfl;have f:h9 (.int (n:Int)) (.int (n:Int))=bQ (.bl ed):=wK rfl;have h:(h7 (w5 (j8<|sB<|m3 .list<|zc 0)<|sB<|zH h9 (xH<|ze 0)<|xH<|ze 2) (jM<|zv<|.bl ed) jZ) (z7 4 [.lst (fh n hs ws X),.int p,.lst<|zA n λk=>(hs k:Int),.lst (zA n λk=>(ws k:Int))])=bQ (.next [.val (.lst<|fh n hs ws X),.val<|.int p,.val<|.lst<|zA n λk=>(hs k:Int),.val (.lst<|zA n λk=>(ws k:Int))]):=by show h7 _ _ _ [.val (.lst<|fh n hs ws X),.val<|.int p,.val<|.lst<|zA n λk=>(hs k:Int),.val (.lst<|zA n λk=>(ws k:Int))]=_;simp[ty,a,j4,f]
 have e:zQ (.nm 0) jj (zC qh<|za (dy (ze 1)<|zc 0)<|za (zc 2)<|za (dy (ze 3)<|zc 0)<|za (dy (ze 4)<|zc 0) zD) [Cell.no,.val<|.lst<|fh n hs ws X,.val<|.int p,.val<|.lst<|zA n λk=>(hs k:Int),.val (.lst<|zA n λk=>(ws k:Int))] ((IS n).map λi:Nat=>D.int (i:Int))=bQ ((IS n).map λ_=>D.bl dt):=by refine zx _ _ λk I=>zy rfl rfl ?_;have I:=IV.mp I;have d:=bB (p:=p) (O k) (C k)<|U k;have m:=cG (hs:=hs) (ws:=ws) (T:=X) I;show zC _ _ [Cell.val (.int (k:Int)),.val<|.lst<|fh n hs ws X,.val<|.int p,.val<|.lst<|zA n λk=>(hs k:Int),.val (.lst<|zA n λk=>(ws k:Int))]=_;simp only[xj,z9,ke,xN,j7,qU,Ld,Lg,zY,zW,j4,IY,Lm,qg,a,ko,jl,I,if_true,m,fS I,d,Ya]
 have l:(jM<|hU<|jL<|zP (zR<|xH<|ze 2) (.nm 0) 1 [0,1,2,3] jj (zC qh<|za (dy (ze 1)<|zc 0)<|za (zc 2)<|za (dy (ze 3)<|zc 0)<|za (dy (ze 4)<|zc 0) zD)) [.val (.lst<|fh n hs ws X),.val<|.int p,.val<|.lst<|zA n λk=>(hs k:Int),.val (.lst<|zA n λk=>(ws k:Int))]=bQ (.ret<|.val<|.bl dt):=by rw[wV,oY,yF,jG];simp only[yf,oW,j7,Ld,Lg,zY,j4,Lm,IY,qg,ko,g,if_true,Mt,jv,b];rw[zV n λi=>(i:Int),show z6 1 [0,1,2,3] [.val (.lst<|fh n hs ws X),.val<|.int p,.val<|.lst<|zA n λk=>(hs k:Int),.val (.lst<|zA n λk=>(ws k:Int))]=[Cell.no,.val<|.lst<|fh n hs ws X,.val<|.int p,.val<|.lst<|zA n λk=>(hs k:Int),.val (.lst<|zA n λk=>(ws k:Int))]from rfl,e];simp[KL,aj]
 exact jb<|zk h l
theorem iR:qO=jn 13 (zN (ZM (.tp [5,6])<|zC qA<|za (zc 3)<|za (zc 4) zD)<|zN (xf 7<|qm zD)<|zN (xU (zR<|xH<|ze 5) (.nm 8) iP)<|zN (xf 9<|qm zD)<|zN (xU (zR<|yT<|zc 3) (.nm 8) iT)<|iM 9<|jM<|qQ<|za (zc 5)<|za (zc 9) zD):=rfl
section
variable{ns:List Int}{p:Int}{m:Nat}{w:RX}{bs:List (Int×Int)}
theorem An(ab:ns.length<=63)(J:Pr p)(hm:m<=5)(hb:bs.length<=16)(h : ∀b∈bs,Zy ((m+1:Nat):Int) b){a:Int}(h0:0<=a)(Y:a<=1000) :
 ∃f g:RV,(∀k,k<m+1->Pair p (bW bs k) (f k) (g k))/\qO [Kz ns,.int a,.int p,.str<|qb m w,.lst (jq bs)]=bQ (.val<|qp m w (bW bs)<|yk p w (bW bs) f g<|bT w bs):=by
 have hl:=jm;have ac:m+1<=lim:=by omega
 have X:=J.pos;have p7:=J.le;have L : ∀k,bW bs k<=16:=λk=>by
  have:bW bs k<=bs.length:=by unfold bW ft qj;exact Mj (ND _ _) ⋯
  omega
 have hT : ∀k i j,0<=bT w bs k i j/\bT w bs k i j<p:=λk i j=>mB J k i j;have bt:=Y1 (w:=w) hm (show bs.length<64 by omega) h;generalize bW bs=wd at *;generalize bT w bs=T at *;have am : ∀k:Nat,∃E:(Nat->Nat->Int)×(Nat->Nat->Int),k<m+1->Pair p (wd k) E.1 E.2/\qu [Kz ns,.int<|a+9*(k:Int),.int p,.int (wd k:Nat)]=bQ (.val<|.tup [.lst (js (wd k) E.1),.lst (js (wd k) E.2)]):=λk=>by
  by_cases z:k<m+1
  ·obtain⟨f,g,Y,h2⟩:=uJ ab J (n:=wd k) (by have:=L k;omega) (show(0:Int)<=a+9*(k:Int)by omega) ⋯
   exact⟨(f,g),λ_=>⟨Y,h2⟩⟩
  ·exact⟨(λ_ _=>0,λ_ _=>0),λh=>absurd h z⟩
 obtain⟨I,G⟩:=NS am;refine⟨λk=>(I k).1,λk=>(I k).2,λk z=>(G k z).1,?_⟩;let W:List D:=zA (m+1) λk=>(wd k:Int);let A:List D:=ql m w wd T;let U:Nat->List D:=λs=>(IS s).map λk=>D.tup [.lst (js (wd k) (I k).1),.lst (js (wd k) (I k).2)];let Z:Nat->List D:=λs=>ql s w wd<|yk p w wd (λk=>(I k).1) (λk=>(I k).2) T;let γ:Cell->Cell->Cell->Cell->Cell->Cell->Ctx:=λc7 y K t u o=>[.val (Kz ns),.val<|.int a,.val<|.int p,.val<|.str<|qb m w,.val<|.lst<|jq bs,.val<|.lst W,.val<|.lst A,c7,y,K,t,u,o];have wl:=v7 m w;have an:=kj w (show m<=1000 by omega);have S:W.length=m+1:=by simp[W]
 have M : ∀{r:Nat},r<m+1->((f7 W.length (r:Int)).bind λk=>W[k]?)=bQ (.int (wd r:Int)):=λ{r} C=>by rw[S,jl,RY C];exact yB _ C
 have R : ∀s,(U s).length=s:=λs=>by simp[U]
 have Q : ∀{r:Nat},r<m+1->((f7 (U<|m+1).length (r:Int)).bind λk=>(U<|m+1)[k]?).bind je=bQ (.T,[.lst (js (wd r) (I r).1),.lst (js (wd r) (I r).2)]):=λ{r} C=>by
  rw[R,jl,RY C];show((U<|m+1)[r]?).bind je=_;rw[show(U<|m+1)[r]? = bQ (D.tup [.lst (js (wd r) (I r).1),.lst (js (wd r) (I r).2)])by
   show((IS<|m+1).map _)[r]? = _;rw[Lz,MP C];rfl]
  rfl
 have iA : ∀{k:Nat},k<m->((f7 A.length (k:Int)).bind λx=>A[x]?)=bQ (.lst<|j6 (wd<|zK w k) (wd<|zE w k)<|T k):=λ{k} z=>by rw[show A.length=m by simp[A,ql],jl,RY z,qD w wd k,qH w wd k];show((IS m).map _)[k]? = _;rw[Lz,MP z];rfl
 obtain⟨γ1,s3,y,rfl⟩:=qS (T:= .nm 8) (F:=iP) (f:=xH<|ze 5) (λs γ'=>∃y,γ'=γ (.own<|U s) y .no .no .no .no) (m+1) ac (γ:=γ (.own []) .no .no .no .no .no) (by
  show bQ (D.int (W.length:Int))=_;rw[S]) ⟨.no,rfl⟩ (by
  rintro s B γ' ⟨y,rfl⟩;refine⟨γ (.own<|U s) (.val<|.int (s:Int)) .no .no .no .no,γ (.own<|U<|s+1) (.val<|.int (s:Int)) .no .no .no .no,rfl,?_,_,rfl⟩;have e:=(G s B).2;have K:JY 9 (s:Int)=dt:=vc _ _ ⋯ ⋯;have lu:(U s).length<lim:=by rw[R];omega
  have v:zC qu (za (zc 0)<|za (zH qa (zc 1)<|zH kG (zv<|.int 9)<|zc 8)<|za (zc 2)<|za (dy (ze 5)<|zc 8) zD) (γ (.own<|U s) (.val<|.int (s:Int)) .no .no .no .no)=bQ (.tup [.lst (js (wd s) (I s).1),.lst (js (wd s) (I s).2)]):=by
   have i:dy (ze 5) (zc 8) (γ (.own<|U s) (.val<|.int (s:Int)) .no .no .no .no)=bQ (.int (wd s:Int)):=M B;have j:zH qa (zc 1) (zH kG (zv<|.int 9)<|zc 8) (γ (.own<|U s) (.val<|.int (s:Int)) .no .no .no .no)=bQ (.int<|a+9*(s:Int)):=by simp[γ,K]
   rw[xj,z9,z9,z9,z9,i,j];show(qu [Kz ns,.int<|a+9*(s:Int),.int p,.int (wd s:Int)]).map Ya=_;rw[e];rfl
  unfold iP;rw[xD,v];show(if (U s).length<lim then _ else none)=_;rw[RY lu];show bQ (Fl.next<|γ (.own<|U s++[D.tup [.lst (js (wd s) (I s).1),.lst (js (wd s) (I s).2)]]) _ _ _ _ _)=_;rw[<- kL s λk=>D.tup [.lst (js (wd k) (I k).1),.lst (js (wd k) (I k).2)]])
 obtain⟨UL,s5,y,t,u,o,rfl⟩:=qS (T:= .nm 8) (F:=iT) (f:=yT<|zc 3) (λs γ'=>∃y t u o,γ'=γ (.own<|U<|m+1) y (.own<|Z s) t u o) m ⋯ (γ:=γ (.own<|U<|m+1) y (.own []) .no .no .no) (by simp[γ,wl,an]) ⟨y,.no,.no,.no,rfl⟩ (by
  rintro s B γ' ⟨y,t,u,o,rfl⟩;have en:=kF (w:=w) hm B;have r1:=vQ (w:=w) B;have N:=vS (w:=w) B;let O:Cell->Ctx:=λo=>γ (.own<|U<|m+1) (.val<|.int (s:Int)) (.own<|Z s) (.val<|.int (zE w s:Nat)) (.val<|.int (zK w s:Nat)) o;let H:Nat->Nat->Int:=λi j=>zf (λk=>T s i k*(I<|zE w s).2 k j) (wd<|zE w s)%p;refine⟨γ (.own<|U<|m+1) (.val<|.int (s:Int)) (.own<|Z s) t u o,γ (.own<|U<|m+1) (.val<|.int (s:Int)) (.own<|Z<|s+1) (.val<|.int (zE w s:Nat)) (.val<|.int (zK w s:Nat))<|.val<|.lst<|j6 (wd<|zK w s) (wd<|zE w s) H,rfl,?_,_,_,_,_,rfl⟩;have q1:=L<|zK w s;have q2:=L<|zE w s;have b6:=cF (h:=wd<|zK w s) (n:=wd<|zE w s) (w:=wd<|zE w s) (f:=T s) (g:=(I<|zE w s).2) X p7 ⋯ ⋯ ⋯<|λi k _ _=>hT s i k;have b7:=cF (h:=wd<|zK w s) (n:=wd<|zK w s) (w:=wd<|zE w s) (f:=(I<|zK w s).1) (g:=H) X p7 ⋯ ⋯ ⋯<|λi k hi z=>(G _ r1).1.bf i k hi z;unfold iT;refine zk (γ':=O o) (by simp[O,γ,en])<|zk (γ':=O<|.val<|.lst<|j6 (wd<|zK w s) (wd<|zE w s) H) ?_ ?_
  ·have x1:dy (ze 6) (zc 8) (O o)=bQ (.lst<|j6 (wd<|zK w s) (wd<|zE w s)<|T s):=iA B
   have x2:dy (zw<|dy (ze 7)<|zc 10) (zv<|.int 1) (O o)=bQ (.lst<|js (wd<|zE w s) (I<|zE w s).2):=by rw[xN,show zw (dy (ze 7)<|zc 10) (O o)=_ from Q N];rfl
   have x3:dy (ze 5) (zc 10) (O o)=bQ (.int (wd (zE w s):Int)):=M N;unfold Aj;rw[kc,xC,yG,z9,z9,z9,z9,x1,x2,x3];show((((z5 [.int p,.lst<|j6 (wd<|zK w s) (wd<|zE w s)<|T s,.lst<|js (wd<|zE w s) (I<|zE w s).2,.int (wd (zE w s):Int)]).bind hV).map D.lst).map λd=>Fl.next<|(O o).set 12 (.val d))=_;rw[show z5 [.int p,.lst<|j6 (wd<|zK w s) (wd<|zE w s)<|T s,.lst<|js (wd<|zE w s) (I<|zE w s).2,.int (wd (zE w s):Int)]=bQ (.own<|j6 (wd<|zK w s) (wd<|zE w s) H)from b6];rfl
  ·have x1:dy (zw<|dy (ze 7)<|zc 11) (zv<|.int 0) (O<|.val<|.lst<|j6 (wd<|zK w s) (wd<|zE w s) H)=bQ (.lst<|js (wd<|zK w s) (I<|zK w s).1):=by
    rw[xN,show zw (dy (ze 7)<|zc 11) (O<|.val<|.lst<|j6 (wd<|zK w s) (wd<|zE w s) H)=_ from Q r1];rfl
   have x3:dy (ze 5) (zc 10) (O<|.val<|.lst<|j6 (wd<|zK w s) (wd<|zE w s) H)=bQ (.int (wd (zE w s):Int)):=M N;have lz:(Z s).length<lim:=by simp[Z,ql];omega
   have bb:(j6 (wd<|zK w s) (wd<|zE w s) λi j=>zf (λk=>(I<|zK w s).1 i k*H k j) (wd<|zK w s)%p)=j6 (eK w wd s) (eX w wd s) (yk p w wd (λk=>(I k).1) (λk=>(I k).2) T s):=by rw[<- qD w wd s,<- qH w wd s];refine WQ λi j _ _=>?_;show zf (λk=>(I<|zK w s).1 i k*(zf (λl=>T s k l*(I<|zE w s).2 l j) (wd<|zE w s)%p)) (wd<|zK w s)%p=_;rw[KO p (I<|zK w s).1 (T s) (I<|zE w s).2 (wd<|zK w s) (wd<|zE w s) i j];unfold yk;congr 2;funext b;rw[Ml];congr 3;funext k;exact Ml _ _
   unfold Ai;rw[xD,xC,yG,z9,z9,z9,z9,x1,x3];show(qL<|some (Cell.own<|Z s)).bind (λP=>(((z5 [.int p,.lst<|js (wd<|zK w s) (I<|zK w s).1,.lst<|j6 (wd<|zK w s) (wd<|zE w s) H,.int (wd (zE w s):Int)]).bind hV).map D.lst).bind λd=>if P.length<lim then bQ (Fl.next<|(O<|.val<|.lst<|j6 (wd<|zK w s) (wd<|zE w s) H).set 9 (.own<|P++[d]))else none)=_;rw[show z5 [.int p,.lst<|js (wd<|zK w s) (I<|zK w s).1,.lst<|j6 (wd<|zK w s) (wd<|zE w s) H,.int (wd (zE w s):Int)]=_ from b7,bb];show(if (Z s).length<lim then bQ (Fl.next<|γ _ _ (.own<|Z s++[D.lst (j6 (eK w wd s) (eX w wd s)<|yk p w wd (λk=>(I k).1) (λk=>(I k).2) T s)]) _ _ _)else none)=_;rw[RY lz,show Z s++[D.lst (j6 (eK w wd s) (eX w wd s)<|yk p w wd (λk=>(I k).1) (λk=>(I k).2) T s)]=Z (s+1)from(kL s _).symm])
 rw[iR];refine jb<|zk (γ':=γ .no .no .no .no .no .no) (by simp[z7,bt,qp,γ,W,A])<|zk (γ':=γ (.own []) .no .no .no .no .no) rfl<|zk s3<|zk (γ':=γ (.own<|U<|m+1) _ (.own []) .no .no .no) rfl<|zk s5 ?_;have l2:2<=lim:=by omega
 show jM (qQ<|za (zc 5)<|za (zc 9) zD) (γ (.own<|U<|m+1) y (.val<|.lst<|Z m) t u o)=_;simp[γ,W,Z,qp]
end
theorem lT:qP=jn 10 (zN (xU (zR<|yT<|zc 1) (.nm 5) lV)<|jM<|zv<|.bl dt):=rfl
section
variable{p:Int}{m:Nat}{w:RX}{wd:RZ}{T1 T2 Q Q':RV}
theorem VI(n:Nat)(f:Nat->Int):u4 (zA n f)<=1:=wJ λd a=>by unfold zA at a;obtain⟨i,_,rfl⟩:=LK.mp a;simp[deep]
theorem bh{h n:Nat}(f:RK):m9 (.lst<|j6 h n f)=dt:=WE (n:=3) (by
 simp only[deep];have:u4 (j6 h n f)<=2:=wJ λd a=>by unfold j6 at a;obtain⟨i,_,rfl⟩:=LK.mp a;have:=VI n<|f i;simp only[deep];omega
 omega) ⋯ (by
 simp only[i6];exact JI λd a=>by
  unfold j6 at a;obtain⟨i,_,rfl⟩:=LK.mp a;simp only[i6];exact JI λd a=>by unfold zA at a;obtain⟨j,_,rfl⟩:=LK.mp a;rfl)
end
section
variable{p:Int}{m:Nat}{w:RX}{bs:List (Int×Int)}
abbrev u9(p:Int)(z:Str)(m:Nat)(bs:List (Int×Int)):Ctx:=[.val (.int p),.val (.str z),.val (.lst (jq bs)),.val (.int ((m+1:Nat):Int))]
end
section
variable{α β:Type}
theorem Jp{K L:List Int}(h:K.Perm L):w4 K=w4 L:=by
 induction h with
 | nil=>rfl
 | cons x _ I=>simp only[w4,I]
 | swap x y l=>simp only[w4];omega
 | trans _ _ a b=>exact a.trans b
end
noncomputable def r9(w:RX)(b c:Int×Int):Int:=if r6 w b.1.toNat b.2.toNat c.1.toNat c.2.toNat=dt then 1 else 0
theorem AR{n:Int}{b:Int×Int}(h:Zy n b):D.tup [.int b.1,.int b.2]=pr b.1.toNat b.2.toNat:=by obtain⟨a,d,_⟩:=h;unfold pr;rw[NW a,NW ⋯]
noncomputable def s8(p:Int)(m:Nat)(w:RX)(wd1 wd2:RZ)(T1 T2 h:RV):Prop:=
 ∀k,k<m->∀i j,i<wd2 (zK w k)->j<wd1 (zE w k)->mM p (wd1<|zK w k) (h<|zK w k) (T1 k) i j=mM p (wd2<|zE w k) (T2 k) (h<|zE w k) i j
section
variable{p:Int}{m a b c d:Nat}{w:RX}{f:Nat->Int}
abbrev lN(a b r:Nat):Prop:=a<=r/\r<=b
structure t6(p:Int)(m:Nat)(w:RX)(a b c d:Nat)(f:Nat->Int):Prop where
 zero : ∀r,¬(lN a b r/\lN c d r)->f r=0
 pass : ∀k,k<m->lN c d (zK w k)->lN a b (zE w k)->f (zK w k)%p=f (zE w k)%p
theorem t6.next(h:t6 p m w a b c d f)(I:b<=m){r:Nat}(H:lN a b r/\lN c d r)(C:lN a b (r+1)/\lN c d (r+1)):f (r+1)%p=f r%p:=by
 have x:=h.pass r (by have:=C.1.2;omega);unfold zK zE at x;cases hw:w r with
 | true=>
  simp only[hw,if_true]at x;exact(x H.2 C.1).symm
 | false=>
  simp only[hw,Mg,if_false]at x;exact x C.2 H.1
theorem t6.const(h:t6 p m w a b c d f)(I:b<=m) : ∀s,lN a b (max a c+s)/\lN c d (max a c+s)->f (max a c+s)%p=f (max a c)%p
 | 0,_=>rfl
 | s+1,e=>by have g:lN a b (max a c+s)/\lN c d (max a c+s):=⟨⟨by omega,by have:=e.1.2;omega⟩,⟨by omega,by have:=e.2.2;omega⟩⟩;rw[<- t6.const h I s g];exact t6.next h I g e
theorem t6.all(h:t6 p m w a b c d f)(O:b<=m){r:Nat}(I:lN a b r/\lN c d r):f r%p=f (max a c)%p:=by obtain⟨s,rfl⟩ : ∃s,r=max a c+s:=⟨r - max a c,by have:=I.1.1;have:=I.2.1;omega⟩;exact h.const O s I
theorem t6.none(h:t6 p m w a b c d f)(U:a<=b)(C:c<=d)(H:b<=m)(J:d<=m)(n:r6 w a b c d=ed)(r:Nat):f r%p=0:=by
 by_cases g:lN a b r/\lN c d r
 ·obtain⟨⟨o,s⟩,t,u⟩:=g
  have i:max a c<=min b d:=by omega
  have e:=h.all H (r:=r) ⟨⟨o,s⟩,t,u⟩;unfold r6 at n;rw[decide_eq_true i,Bool.true_and,Bool.and_eq_false_iff]at n;rcases n with n | n
  ·rw[e]
   unfold Dj at n;rw[Bool.or_eq_false_iff]at n;have k : ¬a=c:=by simpa using n.1
   have I:=n.2;by_cases l:a<c
   ·rw[show max a c=c by omega]at I ⊢
    rw[decide_eq_true l]at I;have O:w (c - 1)=ed:=by simpa using I
    have x:=h.pass (c - 1) ⋯;unfold zK zE at x;simp only[O,Mg,if_false]at x;rw[show c - 1+1=c by omega]at x;rw[x ⟨by omega,C⟩ ⟨by omega,by omega⟩,h.zero (c - 1) (λq=>by have:=q.2.1;omega)];rfl
   ·rw[show max a c=a by omega]at I ⊢
    rw[decide_eq_false l]at I;have O:w (a - 1)=dt:=by simpa using I
    have x:=h.pass (a - 1) ⋯;unfold zK zE at x;simp only[O,if_true]at x;rw[show a - 1+1=a by omega]at x;rw[<- x ⟨by omega,by omega⟩ ⟨by omega,U⟩,h.zero (a - 1) (λq=>by have:=q.1.1;omega)];rfl
  ·have j:=h.all H (r:=min b d) ⟨⟨by omega,by omega⟩,by omega,by omega⟩
   rw[e,<- j];unfold Dm at n;rw[Bool.or_eq_false_iff]at n;have k : ¬b=d:=by simpa using n.1
   have I:=n.2;by_cases l:b<d
   ·rw[show min b d=b by omega]at I ⊢
    rw[decide_eq_true l]at I;have O:w b=ed:=by simpa using I
    have x:=h.pass b ⋯;unfold zK zE at x;simp only[O,Mg,if_false]at x;rw[<- x ⟨by omega,by omega⟩ ⟨U,by omega⟩,h.zero (b+1) (λq=>by have:=q.1.2;omega)];rfl
   ·rw[show min b d=d by omega]at I ⊢
    rw[decide_eq_false l]at I;have O:w d=dt:=by simpa using I
    have x:=h.pass d ⋯;unfold zK zE at x;simp only[O,if_true]at x;rw[x ⟨C,by omega⟩ ⟨by omega,by omega⟩,h.zero (d+1) (λq=>by have:=q.2.2;omega)];rfl
 ·rw[h.zero r g];rfl
theorem sj(y:r6 w a b c d=dt)(t:Int):t6 p m w a b c d λr=>if lN a b r/\lN c d r then t else 0 where
 zero:=λr h=>EQ h
 pass:=λk hk U hb=>by
  unfold r6 at y;simp only[Lq]at y;obtain⟨y1,I,O⟩:=y;have y1:=of_decide_eq_true y1;have key:(lN a b (zK w k)/\lN c d (zK w k))↔(lN a b (zE w k)/\lN c d (zE w k)):=by
   unfold Dj at I;unfold Dm at O;unfold lN at U hb ⊢;unfold zK at U ⊢;unfold zE at hb ⊢;cases hw:w k with
   | true=>
    simp only[hw,if_true]at U hb ⊢;constructor
    ·rintro⟨q1,q2⟩
     refine⟨hb,?_⟩;have : ¬(k=d):=λe=>by
      have z:min b d=d:=by omega
      have ne : ¬b=d:=by omega
      rw[z,<- e,hw]at O;simp only[decide_eq_false_iff_not.mpr (show ¬b=k by omega),Pj]at O;simp at O;omega
     omega
    ·rintro⟨q1,q2⟩
     refine⟨?_,U⟩;have : ¬(k+1=a):=λe=>by
      have z:max a c - 1=k:=by omega
      rw[z,hw]at I;simp only[decide_eq_false_iff_not.mpr (show ¬a=c by omega),Pj]at I;simp at I;omega
     omega
   | false=>
    simp only[hw,Mg,if_false]at U hb ⊢;constructor
    ·rintro⟨q1,q2⟩
     refine⟨hb,?_⟩;have : ¬(k+1=c):=λe=>by
      have z:max a c - 1=k:=by omega
      rw[z,hw]at I;simp only[decide_eq_false_iff_not.mpr (show ¬a=c by omega),Pj]at I;simp at I;omega
     omega
    ·rintro⟨q1,q2⟩
     refine⟨?_,U⟩;have : ¬(k=b):=λe=>by
      have z:min b d=b:=by omega
      rw[z,<- e,hw]at O;simp only[decide_eq_false_iff_not.mpr (show ¬k=d by omega),Pj]at O;simp at O;omega
     omega
  by_cases q:lN a b (zK w k)/\lN c d (zK w k)
  ·rw[RY q,RY (key.mp q)]
  ·rw[EQ q,EQ (λz=>q<|key.mpr z)]
end
section
variable{p:Int}{m:Nat}{w:RX}{K K1 K2:List (Int×Int)}{h:RV}
abbrev stK(K:List (Int×Int))(x:Nat):Nat:=(K.getD x (0,0)).1.toNat
abbrev p5(K:List (Int×Int))(x:Nat):Nat:=(K.getD x (0,0)).2.toNat
abbrev iN(K:List (Int×Int))(r a:Nat):Nat:=(jf K r).getD a 0
abbrev ts(K:List (Int×Int))(r x:Nat):Nat:=(jf K r).idxOf x
abbrev o6(K:List (Int×Int))(x r:Nat):Prop:=lN (stK K x) (p5 K x) r
theorem KU(O : ∀b∈K,Zy ((m+1:Nat):Int) b){x:Nat}(I:x<K.length):stK K x<=p5 K x/\p5 K x<=m/\((stK K x:Int),(p5 K x:Int))=K.getD x (0,0):=by
 have e:K.getD x (0,0)=K[x]:=by simp[I]
 obtain⟨a,d,U⟩:=O K[x] (My I);unfold stK p5;rw[e];refine⟨by omega,by omega,Prod.ext ?_ ?_⟩
 ·show((K[x].1.toNat:Nat):Int)=_;omega
 ·show((K[x].2.toNat:Nat):Int)=_;omega
theorem xo(O : ∀b∈K,Zy ((m+1:Nat):Int) b){x r:Nat}:x∈jf K r↔x<K.length/\o6 K x r:=by unfold jf;rw[Lx,IV];refine and_congr_right λU=>?_;obtain⟨_,_,I⟩:=KU O U;have a:=congrArg Prod.fst I;have d:=congrArg Prod.snd I;dsimp only at a d;unfold mQ;simp only[Lq,decide_eq_true_eq];unfold o6 lN;omega
theorem vB{r a:Nat}(C:a<m8 K r):iN K r a∈jf K r:=by unfold iN;rw[IZ,IX C];exact My C
theorem lH(K:List (Int×Int))(r:Int):(jf K r).Nodup:=NR.filter _
theorem QE{r x:Nat}(I:x∈jf K r):ts K r x<m8 K r/\iN K r (ts K r x)=x:=by have l:(jf K r).idxOf x<(jf K r).length:=OJ I;refine⟨l,?_⟩;unfold iN ts;rw[IZ,IX l];exact PY l
theorem aT{r a:Nat}(C:a<m8 K r):ts K r (iN K r a)=a:=by unfold iN ts;rw[IZ,IX C];exact(lH K r).idxOf_getElem a C
noncomputable def Yh(K1 K2:List (Int×Int))(h:RV)(x y r:Nat):Int:=if o6 K1 x r/\o6 K2 y r then h r (ts K2 r y) (ts K1 r x)else 0
theorem GJ(H : ∀b∈K1,Zy ((m+1:Nat):Int) b)(J : ∀b∈K2,Zy ((m+1:Nat):Int) b){r a b:Nat}(C:a<m8 K2 r)(I:b<m8 K1 r):Yh K1 K2 h (iN K1 r b) (iN K2 r a) r=h r a b:=by unfold Yh;rw[RY ⟨((xo H).mp (vB I)).2,((xo J).mp (vB C)).2⟩,aT C,aT I]
theorem oA(C : ∀b∈K1,Zy ((m+1:Nat):Int) b){f:RK}{k a b:Nat}(H:b<m8 K1 (zE w k)):mM p (m8 K1<|zK w k) f (p8 w K1 k) a b=(if o6 K1 (iN K1 (zE w k) b) (zK w k)then f a (ts K1 (zK w k)<|iN K1 (zE w k) b)else 0)%p:=by
 have U:=(xo C).mp (vB H);generalize ex:iN K1 (zE w k) b=x at U;unfold mM p8;have e:(jf K1<|zE w k).getD b 0=x:=ex;rw[e];by_cases q:o6 K1 x (zK w k)
 ·have i:x∈jf K1 (zK w k):=(xo C).mpr ⟨U.1,q⟩
  obtain⟨l,h⟩:=QE i;rw[RY q,zM l λc I d=>by rw[EQ,MS];intro O;have:=aT (K:=K1) (r:=zK w k) I;rw[show iN K1 (zK w k) c=x from O]at this;exact d this.symm]
  rw[show(jf K1<|zK w k).getD (ts K1 (zK w k) x) 0=x from h,RY rfl,NF]
 ·rw[EQ q,zu (g:=λ_=>0) λc I=>by rw[EQ,MS];intro O;have:=(xo C).mp (vB (K:=K1) I);rw[show iN K1 (zK w k) c=x from O]at this;exact q this.2,zO]
theorem oB(C : ∀b∈K2,Zy ((m+1:Nat):Int) b){f:RK}{k a b:Nat}(H:a<m8 K2 (zK w k)):mM p (m8 K2<|zE w k) (p8 w K2 k) f a b=(if o6 K2 (iN K2 (zK w k) a) (zE w k)then f (ts K2 (zE w k)<|iN K2 (zK w k) a) b else 0)%p:=by
 have U:=(xo C).mp (vB H);generalize ex:iN K2 (zK w k) a=x at U;unfold mM p8;have e:(jf K2<|zK w k).getD a 0=x:=ex;rw[e];by_cases q:o6 K2 x (zE w k)
 ·have i:x∈jf K2 (zE w k):=(xo C).mpr ⟨U.1,q⟩
  obtain⟨l,h⟩:=QE i;rw[RY q,zM l λc I d=>by rw[EQ,Ng];intro O;have:=aT (K:=K2) (r:=zE w k) I;rw[show iN K2 (zE w k) c=x from O.symm]at this;exact d this.symm]
  rw[show(jf K2<|zE w k).getD (ts K2 (zE w k) x) 0=x from h,RY rfl,L3]
 ·rw[EQ q,zu (g:=λ_=>0) λc I=>by rw[EQ,Ng];intro O;have:=(xo C).mp (vB (K:=K2) I);rw[show iN K2 (zE w k) c=x from O.symm]at this;exact q this.2,zO]
theorem fG(C : ∀b∈K1,Zy ((m+1:Nat):Int) b)(J : ∀b∈K2,Zy ((m+1:Nat):Int) b):s8 p m w (m8 K1) (m8 K2) (p8 w K1) (p8 w K2) h ↔ ∀x y,x<K1.length->y<K2.length->t6 p m w (stK K1 x) (p5 K1 x) (stK K2 y) (p5 K2 y) (Yh K1 K2 h x y):=by
 constructor
 ·intro H x y u A
  refine⟨λr t=>EQ t,λk g d a=>?_⟩;have mx:x∈jf K1 (zE w k):=(xo C).mpr ⟨u,a⟩;have U:y∈jf K2 (zK w k):=(xo J).mpr ⟨A,d⟩;obtain⟨l,o⟩:=QE mx;obtain⟨n,s⟩:=QE U;have:=H k g (ts K2 (zK w k) y) (ts K1 (zE w k) x) n l;rw[oA C l,oB J n,o,s]at this;unfold Yh;by_cases I:o6 K1 x (zK w k)<;>by_cases O:o6 K2 y (zE w k)
  ·rw[RY ⟨I,d⟩,RY ⟨a,O⟩];rw[RY I,RY O]at this;exact this
  ·rw[RY ⟨I,d⟩,EQ (λz=>O z.2)];rw[RY I,EQ O]at this;exact this
  ·rw[EQ (λz=>I z.1),RY ⟨a,O⟩];rw[EQ I,RY O]at this;exact this
  ·rw[EQ (λz=>I z.1),EQ (λz=>O z.2)]
 ·intro H k g i j e f
  rw[oA C f,oB J e];have mx:=(xo C).mp (vB f);have U:=(xo J).mp (vB e);have:=(H _ _ mx.1 U.1).pass k g U.2 mx.2;unfold Yh at this;rw[aT e,aT f]at this;by_cases I:o6 K1 (iN K1 (zE w k) j) (zK w k)<;>by_cases O:o6 K2 (iN K2 (zK w k) i) (zE w k)
  ·rw[RY I,RY O];rw[RY ⟨I,U.2⟩,RY ⟨mx.2,O⟩]at this;exact this
  ·rw[RY I,EQ O];rw[RY ⟨I,U.2⟩,EQ (λz=>O z.2)]at this;exact this
  ·rw[EQ I,RY O];rw[EQ (λz=>I z.1),RY ⟨mx.2,O⟩]at this;exact this
  ·rw[EQ I,EQ O]
end
section
variable{p:Int}{m:Nat}{w:RX}{wd wd':RZ}{T T' X J:RV}
abbrev fx(p:Int)(m:Nat)(w:RX)(wd wd':RZ)(T T' X J:RV)(c6 c7 c8 c9 RL RM RN RO TU:Cell):Ctx:=
 [.val (.int p),.val<|.str<|qb m w,.val<|qp m w wd T,.val<|qp m w wd' T',.val<|.lst<|BN m w wd wd' J,.val<|.lst<|fh (m+1) wd wd' X,c6,c7,c8,c9,RL,RM,RN,RO,TU]
end
section
variable{p:Int}{m:Nat}{w:RX}{wd wd':RZ}{T T' J:RV}
theorem SY(C : ∀k,wd k<=3)(k):eK w wd k<=3:=by rw[<- qD];exact C _
abbrev mx(ns:List Int)(p:Int)(m:Nat)(w:RX)(wd wd':RZ)(T T':RV)(c5 c6 c7 c8 c9 RL RM RN RO:Cell):Ctx:=
 [.val (Kz ns),.val<|.int p,.val<|.str<|qb m w,.val<|qp m w wd T,.val<|qp m w wd' T',c5,c6,c7,c8,c9,RL,RM,RN,RO]
end
theorem KP(f:Nat->Int)(a:Nat) : ∀b,zf f (a+b)=zf f a+zf (λx=>f<|a+x) b
 | 0=>by show zf f a=zf f a+0;omega
 | b+1=>by show zf f (a+b)+f (a+b)=zf f a+(zf (λx=>f<|a+x) b+f (a+b));rw[KP f a b];omega
theorem Jq(f:Nat->Int)(w:Nat) : ∀h,zf f (h*w)=zf (λi=>zf (λj=>f<|i*w+j) w) h
 | 0=>by rw[Nat.zero_mul];rfl
 | h+1=>by rw[OW,KP,Jq f w h];rfl
theorem QP(g:Nat->Int) : ∀n,w4 ((IS n).map g)=zf g n
 | 0=>rfl
 | n+1=>by rw[MM,Mr,Jp List.perm_append_comm];show g n+w4 ((IS n).map g)=zf g n+g n;rw[QP g n,Int.add_comm]
theorem We(f:Int×Int->Int)(K:List (Int×Int)):w4 (K.map f)=zf (λx=>f<|K.getD x (0,0)) K.length:=by
 rw[<- QP]
 conv=>lhs;rw[<- jg (0,0) K,LG]
 rfl
theorem Xe(q:RX) : ∀n,(((IS n).filter q).length:Int)=zf (λs=>if q s=dt then 1 else 0) n
 | 0=>rfl
 | n+1=>by
  rw[MM,Od,Md];show _=zf (λs=>if q s=dt then 1 else 0) n+_;rw[<- Xe q n];by_cases h:q n=dt
  ·simp[h]
  ·simp[h]
structure B4(p:Int)(m:Nat)(w:RX)(wd1 wd2:RZ)(T1 T2:RV)(c:Nat)(E:Nat->Nat->Nat->Nat->Int):Prop where
 F0 : ∀s,s<c->s8 p m w wd1 wd2 T1 T2 (E s)
 span : ∀h,s8 p m w wd1 wd2 T1 T2 h->∃t:Nat->Int,∀r,r<=m->∀i j,i<wd2 r->j<wd1 r->h r i j%p=zf (λs=>t s*E s r i j) c%p
 ind : ∀t:Nat->Int,(∀r,r<=m->∀i j,i<wd2 r->j<wd1 r->zf (λs=>t s*E s r i j) c%p=0)->∀s,s<c->t s%p=0
theorem W2{w:RX}{m k:Nat}(h:k<m):zK w k<=m:=by unfold zK;split<;>omega
theorem ai{w:RX}{m k:Nat}(h:k<m):zE w k<=m:=by unfold zE;split<;>omega
section
variable{p:Int}{m:Nat}{w:RX}{wd1 wd2 O1 O2:RZ}{T1 T2 S1 S2 A1 B1 A2 B2:RV}{K1 K2:List (Int×Int)}{h:RV}{c:Nat}{E:Nat->Nat->Nat->Nat->Int}
theorem s8.wd(C : ∀r,r<=m->wd1 r=O1 r)(J : ∀r,r<=m->wd2 r=O2 r)(H:s8 p m w wd1 wd2 T1 T2 h):s8 p m w O1 O2 T1 T2 h:=λk I i j b O=>by have U:=W2 (w:=w) I;have a:=ai (w:=w) I;rw[<- J _ U]at b;rw[<- C _ a]at O;rw[<- C _ U,<- J _ a];exact H k I i j b O
theorem B4.wd(e1 : ∀r,r<=m->wd1 r=O1 r)(e2 : ∀r,r<=m->wd2 r=O2 r)(H:B4 p m w wd1 wd2 T1 T2 c E):B4 p m w O1 O2 T1 T2 c E where
 F0:=λs hs=>(H.F0 s hs).wd e1 e2
 span:=λh hh=>by obtain⟨t,O⟩:=H.span h<|hh.wd (λr I=>(e1 r I).symm) λr I=>(e2 r I).symm;exact⟨t,λr I i j hi U=>O r I i j (by rw[e2 r I];exact hi)<|by rw[e1 r I];exact U⟩
 ind:=λt O s hs=>H.ind t (λr I i j hi U=>O r I i j (by rw[<- e2 r I];exact hi)<|by rw[<- e1 r I];exact U) s hs
noncomputable def xI(w:RX)(K1 K2:List (Int×Int)):List Nat:=(IS<|K1.length*K2.length).filter λs=>r6 w (stK K1<|s/K2.length) (p5 K1<|s/K2.length) (stK K2<|s%K2.length)<|p5 K2<|s%K2.length
theorem aY:((xI w K1 K2).length:Int)=w4 (K1.map λb=>w4<|K2.map λc=>r9 w b c):=by
 unfold xI;rw[Xe,Jq,We];refine zu λx O=>?_;rw[We];refine zu λy I=>?_;have a:(x*K2.length+y)/K2.length=x:=by rw[Nw,Nat.mul_add_div ⋯,Ru I,Oy]
 have d:(x*K2.length+y)%K2.length=y:=by rw[Nw,Nat.mul_add_mod,Rt I]
 rw[a,d];rfl
noncomputable def Dt(w:RX)(K1 K2:List (Int×Int))(s r a b:Nat):Int:=if iN K1 r b*K2.length+iN K2 r a=(xI w K1 K2).getD s 0 then 1 else 0
theorem WD{x y N:Nat}(I:y<N):(x*N+y)/N=x/\(x*N+y)%N=y:=by
 constructor
 ·rw[Nw,Nat.mul_add_div ⋯,Ru I,Oy]
 ·rw[Nw,Nat.mul_add_mod,Rt I]
theorem Yu{x y:Nat}(I:x<K1.length)(O:y<K2.length):x*K2.length+y∈xI w K1 K2↔r6 w (stK K1 x) (p5 K1 x) (stK K2 y) (p5 K2 y)=dt:=by
 unfold xI;obtain⟨a,b⟩:=WD (x:=x) O;rw[Lx,IV,a,b];have:x*K2.length+y<K1.length*K2.length:=by have:(x+1)*K2.length<=K1.length*K2.length:=OE _ I;rw[Nat.add_mul]at this;omega
 exact and_iff_right this
theorem KN(t:Nat->Int){L:List Nat}(C:L.Nodup)(z:Nat):zf (λs=>t s*if z=L.getD s 0 then 1 else 0) L.length=if z∈L then t (L.idxOf z)else 0:=by
 by_cases h:z∈L
 ·rw[RY h]
  have l:=OJ h;rw[zM l λs a I=>by rw[EQ,MS];intro e;rw[IZ,IX a]at e;have:=C.idxOf_getElem s a;rw[show L[s]=z from e.symm]at this;exact I this.symm]
  rw[RY,NF];rw[IZ,IX l];exact(PY l).symm
 ·rw[EQ h,zu (g:=λ_=>0) λs a=>by rw[EQ,MS];intro e;rw[IZ,IX a]at e;exact h<|e ▸ My a,zO]
theorem X3:(xI w K1 K2).Nodup:=NR.filter _
theorem fH(h1 : ∀b∈K1,Zy ((m+1:Nat):Int) b)(h2 : ∀b∈K2,Zy ((m+1:Nat):Int) b):B4 p m w (m8 K1) (m8 K2) (p8 w K1) (p8 w K2) (xI w K1 K2).length (Dt w K1 K2) where
 F0:=λs hs=>(fG h1 h2).mpr λx y O I=>by
  by_cases e:x*K2.length+y=(xI w K1 K2).getD s 0
  ·have mem:x*K2.length+y∈xI w K1 K2:=by
    rw[e,IZ,IX hs];exact My hs
   have P:=sj (p:=p) (m:=m) ((Yu O I).mp mem) 1;have:Yh K1 K2 (Dt w K1 K2 s) x y=λr=>if lN (stK K1 x) (p5 K1 x) r/\lN (stK K2 y) (p5 K2 y) r then 1 else 0:=by
    funext r;unfold Yh;by_cases q:o6 K1 x r/\o6 K2 y r
    ·rw[RY q,RY q]
     unfold Dt;rw[(QE<|(xo h1).mpr ⟨O,q.1⟩).2,(QE<|(xo h2).mpr ⟨I,q.2⟩).2,RY e]
    ·rw[EQ q,EQ q]
   rw[this];exact P
  ·have:Yh K1 K2 (Dt w K1 K2 s) x y=λ_=>0:=by
    funext r;unfold Yh;by_cases q:o6 K1 x r/\o6 K2 y r
    ·rw[RY q]
     unfold Dt;rw[(QE<|(xo h1).mpr ⟨O,q.1⟩).2,(QE<|(xo h2).mpr ⟨I,q.2⟩).2,EQ e]
    ·rw[EQ q]
   rw[this];exact⟨λ_ _=>rfl,λ_ _ _ _=>rfl⟩
 span:=λh hh=>by
  have H:=(fG h1 h2).mp hh;let N:=K2.length;refine⟨λs=>let z:=(xI w K1 K2).getD s 0;Yh K1 K2 h (z/N) (z%N) (max (stK K1<|z/N)<|stK K2<|z%N),λr hr i j hi hj=>?_⟩;have mx:=(xo h1).mp (vB hj);have U:=(xo h2).mp (vB hi);have P:=H _ _ mx.1 U.1;obtain⟨x1,x2,_⟩:=KU h1 mx.1;obtain⟨y1,y2,_⟩:=KU h2 U.1;rw[<- GJ (h:=h) h1 h2 hi hj];have d:=KN (λs=>let z:=(xI w K1 K2).getD s 0;Yh K1 K2 h (z/N) (z%N) (max (stK K1<|z/N)<|stK K2<|z%N)) (X3 (w:=w) (K1:=K1) (K2:=K2))<|iN K1 r j*K2.length+iN K2 r i;unfold Dt;rw[d];by_cases mem:iN K1 r j*K2.length+iN K2 r i∈xI w K1 K2
  ·rw[RY mem]
   have l:=OJ mem;have e:(xI w K1 K2).getD ((xI w K1 K2).idxOf (iN K1 r j*K2.length+iN K2 r i)) 0=iN K1 r j*K2.length+iN K2 r i:=by rw[IZ,IX l];exact PY l
   obtain⟨e1,e2⟩:=WD (x:=iN K1 r j) U.1;dsimp only;rw[e];show _=Yh K1 K2 h ((iN K1 r j*K2.length+iN K2 r i)/K2.length) ((iN K1 r j*K2.length+iN K2 r i)%K2.length) (max (stK K1<|(iN K1 r j*K2.length+iN K2 r i)/K2.length)<|stK K2<|(iN K1 r j*K2.length+iN K2 r i)%K2.length)%p;rw[e1,e2];exact P.all x2 ⟨mx.2,U.2⟩
  ·rw[EQ mem]
   have n:r6 w (stK K1<|iN K1 r j) (p5 K1<|iN K1 r j) (stK K2<|iN K2 r i) (p5 K2<|iN K2 r i)=ed:=Bool.eq_false_iff.mpr λI=>mem<|(Yu mx.1 U.1).mpr I;rw[P.none x1 y1 x2 y2 n r];rfl
 ind:=λt ht s hs=>by
  let z:=(xI w K1 K2)[s];have mem:z∈xI w K1 K2:=My hs;have a1:=mem;unfold xI at a1;rw[Lx,IV]at a1;obtain⟨zl,zq⟩:=a1;have n2:0<K2.length:=by
   rcases Nat.eq_zero_or_pos K2.length with e | e
   ·rw[e,Nat.mul_zero]at zl;omega
   ·exact e
  have I:z%K2.length<K2.length:=Nat.mod_lt _ n2;have O:z/K2.length<K1.length:=Nat.div_lt_of_lt_mul (by rw[Nw];exact zl);have ez:z/K2.length*K2.length+z%K2.length=z:=by rw[Nw];exact Nat.div_add_mod z K2.length
  generalize ex:z/K2.length=x at *;generalize ey:z%K2.length=y at *;obtain⟨x1,x2,_⟩:=KU h1 O;obtain⟨y1,y2,_⟩:=KU h2 I;have lo:max (stK K1 x) (stK K2 y)<=min (p5 K1 x) (p5 K2 y):=by unfold r6 at zq;simp only[Lq]at zq;exact of_decide_eq_true zq.1
  let r:=max (stK K1 x)<|stK K2 y;have qx:o6 K1 x r:=⟨by show _<=max _ _;omega,by show max _ _<=_;omega⟩;have qy:o6 K2 y r:=⟨by show _<=max _ _;omega,by show max _ _<=_;omega⟩;obtain⟨lx,px⟩:=QE<|(xo h1).mpr ⟨O,qx⟩;obtain⟨ly,py⟩:=QE<|(xo h2).mpr ⟨I,qy⟩;have g:=ht r (by show max _ _<=_;omega) _ _ ly lx;have d:=KN t (X3 (w:=w) (K1:=K1) (K2:=K2))<|x*K2.length+y;unfold Dt at g;rw[px,py,d,ez,RY mem]at g;have:=X3 (w:=w) (K1:=K1) (K2:=K2) |>.idxOf_getElem s hs;rw[show(xI w K1 K2).idxOf z=s from this]at g;exact g
theorem W9(two:2<=p)(u1 : ∀r,r<=m->wW p (wd1 r) (B1 r) (A1 r))(u2 : ∀r,r<=m->wW p (wd2 r) (B2 r) (A2 r))
 (C : ∀k,k<m->∀i j,i<wd1 (zK w k)->j<wd1 (zE w k)->T1 k i j%p=mM p (wd1<|zE w k) (mM p (wd1<|zK w k) (A1<|zK w k)<|S1 k) (B1<|zE w k) i j)
 (J : ∀k,k<m->∀i j,i<wd2 (zK w k)->j<wd2 (zE w k)->T2 k i j%p=mM p (wd2<|zE w k) (mM p (wd2<|zK w k) (A2<|zK w k)<|S2 k) (B2<|zE w k) i j)
 (H:s8 p m w wd1 wd2 S1 S2 h):s8 p m w wd1 wd2 T1 T2 λr=>mM p (wd1 r) (mM p (wd2 r) (A2 r)<|h r) (B1 r):=λk b i j B E=>by
 show mM p (wd1<|zK w k) (mM p (wd1<|zK w k) (mM p (wd2<|zK w k) (A2<|zK w k)<|h<|zK w k)<|B1<|zK w k) (T1 k) i j=mM p (wd2<|zE w k) (T2 k) (mM p (wd1<|zE w k) (mM p (wd2<|zE w k) (A2<|zE w k)<|h<|zE w k)<|B1<|zE w k) i j;have o:0<p:=by omega
 have A:=W2 (w:=w) b;have u:=ai (w:=w) b;have H:=H k b;have s:=u1 _ A;have t:=u2 _ u;have C:=C k b;have J:=J k b;generalize wd1 (zK w k)=ae at *;generalize wd1 (zE w k)=ab at *;generalize wd2 (zK w k)=O at *;generalize wd2 (zE w k)=cb at *;generalize A1 (zK w k)=as at *;generalize B1 (zK w k)=ax at *;generalize B1 (zE w k)=a5 at *;generalize A2 (zK w k)=U at *;generalize A2 (zE w k)=a8 at *;generalize B2 (zE w k)=b0 at *;generalize h (zK w k)=he at *;generalize h (zE w k)=hb at *;have F : ∀(n:Nat) (f g g':RK) (i j:Nat),(∀x,x<n->g x j%p=g' x j)->mM p n f g i j=mM p n f g' i j:=λn f g g' i j q=>by unfold mM;exact zI λx I=>by rw[<- q x I,Lc (f i x)<|g x j%p,Nv _<|PC p,<- Lc]
 have G : ∀(n:Nat) (f f' g:RK) (i j:Nat),(∀x,x<n->f i x%p=f' i x)->mM p n f g i j=mM p n f' g i j:=λn f f' g i j q=>by unfold mM;exact zI λx I=>by rw[<- q x I,Lc (f i x%p)<|g x j,Nv _<|PC p,<- Lc]
 have e : ∀(n:Nat) (f g:RK) (i j:Nat),mM p n f g i j%p=mM p n f g i j:=λn f g i j=>LX (mw o n f g i j).1 (mw o n f g i j).2;have l:mM p ae (mM p ae (mM p O U he) ax) (T1 k) i j=mM p ab (mM p O U<|mM p ae he<|S1 k) a5 i j:=by rw[F ae _ _ (mM p ab (mM p ae as<|S1 k) a5) i j λx I=>C x j I E,xB];refine qr (λx I=>?_) λ_ _=>rfl;rw[xB,qr (f':=mM p O U he) (g':=S1 k) (λy a=>?_) λ_ _=>rfl,<- xB];rw[<- xB,qr (f':=mM p O U he) (g':=hH) (λ_ _=>rfl) λz d=>X8 two s d a,eU a,e]
 have r:mM p cb (T2 k) (mM p ab (mM p cb a8 hb) a5) i j=mM p ab (mM p O U<|mM p cb (S2 k) hb) a5 i j:=by rw[xB];refine qr (λx I=>?_) λ_ _=>rfl;rw[xB,xB];refine qr (λy a=>?_) λ_ _=>rfl;rw[G cb (T2 k) (mM p cb (mM p O U<|S2 k) b0) a8 i y λx I=>J i x B I,<- xB,qr (f':=mM p O U<|S2 k) (g':=hH) (λ_ _=>rfl) λz d=>X8 two t d a,eU a,e]
 rw[l,r];refine qr (λx I=>?_) λ_ _=>rfl;exact qr (λ_ _=>rfl) λy a=>H y x a I
end
section
variable{p:Int}{m N:Nat}{w:RX}{wd:RZ}{T:RV}{A:Nat->e9}{bs:List (Int×Int)}{b c:Int×Int}
theorem mz(h : ∀b∈bs,Zy ((m+1:Nat):Int) b):kI (Vz (bS bs) (bE bs) bs.length) bs.length=bs:=by
 conv=>rhs;rw[gD h]
 unfold kI;refine Ll λj I=>?_;have:=(bR h<|IV.mp I).2.1;show((bS bs j:Int),((bS bs j+(bE bs j - bS bs j+1) - 1:Nat):Int))=_;rw[show bS bs j+(bE bs j - bS bs j+1) - 1=bE bs j by omega]
theorem Ci(bs:List (Int×Int))(k:Nat):bW bs k<=bs.length:=by unfold bW ft qj;exact Mj (ND _ _) ⋯
end
theorem nA:jz=jn 9 (zN (jo 3<|rB (dy (ze 1)<|zv<|.int 0)<|dy (ze 2)<|zv<|.int 0)<|zN (jo 4<|iK (dy (ze 1)<|zv<|.int 1)<|dy (ze 2)<|zv<|.int 1)<|zN (h7 (sB<|zH ri (zc 3)<|zc 4) (jM<|zv<|.int 0) jZ)<|zN (xU nz (.tp [5,6,7]) vT)<|jM<|zv<|.int 1):=rfl
section
variable{m a b c d:Nat}{w:RX}
theorem YY(J:m<=5){lo hi k:Nat}(H:k<m)(x y:Bool)(L:(x || y)=dt)(I O C:Cell) :
 vT [.val (.str<|qb m w),I,O,.val<|.int (lo:Int),.val<|.int (hi:Int),.val<|.int (k:Int),.val<|.bl x,.val<|.bl y,C]=(let o:=decide (zE w k=lo\/zE w k=hi) && (decide (lo<=zE w k) && decide (zE w k<=hi));if ((x && !o) || (y && o))=dt then bQ (.ret<|.val<|.int 0)else bQ (.next [.val (.str<|qb m w),I,O,.val<|.int (lo:Int),.val<|.int (hi:Int),.val<|.int (k:Int),.val<|.bl x,.val<|.bl y,.val (.bl o)])):=by
 have U:=kF (w:=w) J H;generalize zE w k=z at U;have v:ud [.val (.str<|qb m w),I,O,.val<|.int (lo:Int),.val<|.int (hi:Int),.val<|.int (k:Int),.val<|.bl x,.val<|.bl y,C]=bQ (.bl<|decide (z=lo\/z=hi) && (decide (lo<=z) && decide (z<=hi))):=by
  have a:dy (zw<|zC jT<|za (zc 0)<|za (zc 5) zD) (zv<|.int 0) [.val (.str<|qb m w),I,O,.val<|.int (lo:Int),.val<|.int (hi:Int),.val<|.int (k:Int),.val<|.bl x,.val<|.bl y,C]=bQ (.int (z:Int)):=by simp[U]
  unfold ud;have i:EX (dy (zw<|zC jT<|za (zc 0)<|za (zc 5) zD)<|zv<|.int 0) (jL<|qm<|za (zc 3)<|za (zc 4) zD) [.val (.str<|qb m w),I,O,.val<|.int (lo:Int),.val<|.int (hi:Int),.val<|.int (k:Int),.val<|.bl x,.val<|.bl y,C]=bQ (.bl<|decide<|z=lo\/z=hi):=by rw[Cp,a];show bQ (D.bl<|decide<|(z:Int) ∈ [(lo:Int),(hi:Int)])=_;congr 2;rw[MY];simp;omega
  rw[Ct,i,nD,a];by_cases q:z=lo\/z=hi
  ·by_cases b:lo<=z
   ·simp[q,b]
   ·simp[q,b]
  ·simp[q]
 unfold vT;rw[QM];have t:w5 (sB<|zc 6) (sB<|zc 7) [.val (.str<|qb m w),I,O,.val<|.int (lo:Int),.val<|.int (hi:Int),.val<|.int (k:Int),.val<|.bl x,.val<|.bl y,C]=bQ dt:=by cases x<;>cases y<;>simp_all
 rw[t];show zN _ _ _=_;rw[jE,kc,v];generalize (decide (z=lo\/z=hi) && (decide (lo<=z) && decide (z<=hi)))=o;cases x<;>cases y<;>cases o<;>rfl
theorem YZ{lo hi:Int}(k:Int)(I O C:Cell)(s:Str):vT [.val (.str s),I,O,.val<|.int lo,.val<|.int hi,.val<|.int k,.val<|.bl ed,.val<|.bl ed,C]=bQ (.next [.val (.str s),I,O,.val<|.int lo,.val<|.int hi,.val<|.int k,.val<|.bl ed,.val<|.bl ed,C]):=rfl
theorem pH(H:m<=5)(J:a<=m)(L:c<=m)(q:max a c<=min b d)(I O C:Cell) :
 (Dj w a c=dt/\∃U,vT [.val (.str<|qb m w),I,O,.val<|.int ((max a c:Nat):Int),.val<|.int ((min b d:Nat):Int),.val<|.int<|((max a c:Nat):Int) - 1,.val<|.bl<|decide<|a<max a c,.val<|.bl<|decide<|c<max a c,C]=bQ (.next [.val (.str<|qb m w),I,O,.val<|.int ((max a c:Nat):Int),.val<|.int ((min b d:Nat):Int),.val<|.int<|((max a c:Nat):Int) - 1,.val<|.bl<|decide<|a<max a c,.val<|.bl<|decide<|c<max a c,U]))\/
 (Dj w a c=ed/\vT [.val (.str<|qb m w),I,O,.val<|.int ((max a c:Nat):Int),.val<|.int ((min b d:Nat):Int),.val<|.int<|((max a c:Nat):Int) - 1,.val<|.bl<|decide<|a<max a c,.val<|.bl<|decide<|c<max a c,C]=bQ (.ret<|.val<|.int 0)):=by
 by_cases h:a=c
 ·subst h
  rw[show decide (a<max a a)=ed from decide_eq_false ⋯];exact .inl ⟨by simp[Dj],C,YZ _ _ _ _ _⟩
 ·obtain⟨k,e⟩ : ∃k:Nat,max a c=k+1:=⟨max a c - 1,by omega⟩
  have f:(((max a c:Nat):Int) - 1)=(k:Int):=by omega
  have st:=YY (w:=w) H (lo:=max a c) (hi:=min b d) (k:=k) ⋯ (decide<|a<max a c) (decide<|c<max a c) (by simp;omega) I O C;rw[f];have i:decide (a=c)=ed:=decide_eq_false h;have l:decide (c<max a c) = !decide (a<c):=by rw[MY];simp;omega
  have n:decide (a<max a c)=decide (a<c):=by rw[MY];simp;omega
  have g:Dj w a c=(w k==decide (a<c)):=by unfold Dj;rw[i,show max a c - 1=k by omega];rfl
  have o:(decide (zE w k=max a c\/zE w k=min b d) && (decide (max a c<=zE w k) && decide (zE w k<=min b d)))=w k:=by
   unfold zE;cases w k
   ·have : ¬max a c<=k:=by omega
    simp[this]
   ·have j:k+1=max a c:=e.symm
    simp[j];omega
  rw[st,o,g,l,n];cases w k<;>cases decide (a<c)
  ·exact .inl ⟨rfl,_,rfl⟩
  ·exact .inr ⟨rfl,rfl⟩
  ·exact .inr ⟨rfl,rfl⟩
  ·exact .inl ⟨rfl,_,rfl⟩
theorem pI(H:m<=5)(J:b<=m)(L:d<=m)(q:max a c<=min b d)(I O C:Cell) :
 (Dm w b d=dt/\∃U,vT [.val (.str<|qb m w),I,O,.val<|.int ((max a c:Nat):Int),.val<|.int ((min b d:Nat):Int),.val<|.int ((min b d:Nat):Int),.val<|.bl<|decide<|min b d<b,.val<|.bl<|decide<|min b d<d,C]=bQ (.next [.val (.str<|qb m w),I,O,.val<|.int ((max a c:Nat):Int),.val<|.int ((min b d:Nat):Int),.val<|.int ((min b d:Nat):Int),.val<|.bl<|decide<|min b d<b,.val<|.bl<|decide<|min b d<d,U]))\/
 (Dm w b d=ed/\vT [.val (.str<|qb m w),I,O,.val<|.int ((max a c:Nat):Int),.val<|.int ((min b d:Nat):Int),.val<|.int ((min b d:Nat):Int),.val<|.bl<|decide<|min b d<b,.val<|.bl<|decide<|min b d<d,C]=bQ (.ret<|.val<|.int 0)):=by
 by_cases h:b=d
 ·subst h
  rw[show decide (min b b<b)=ed from decide_eq_false ⋯];exact .inl ⟨by simp[Dm],C,YZ _ _ _ _ _⟩
 ·have st:=YY (w:=w) H (lo:=max a c) (hi:=min b d) (k:=min b d) ⋯ (decide<|min b d<b) (decide<|min b d<d) (by simp;omega) I O C
  have e:decide (b=d)=ed:=decide_eq_false h;have g:decide (min b d<d)=decide (b<d):=by rw[MY];simp;omega
  have i:decide (min b d<b) = !decide (b<d):=by rw[MY];simp;omega
  have f:Dm w b d=(w (min b d)==decide (b<d)):=by unfold Dm;rw[e];rfl
  have o:(decide (zE w (min b d)=max a c\/zE w (min b d)=min b d) && (decide (max a c<=zE w (min b d)) && decide (zE w (min b d)<=min b d))) = !w (min b d):=by
   unfold zE;cases w (min b d)
   ·simp
    omega
   ·have : ¬min b d+1<=min b d:=by omega
    simp[this]
  rw[st,o,f,g,i];cases w (min b d)<;>cases decide (b<d)
  ·exact .inl ⟨rfl,_,rfl⟩
  ·exact .inr ⟨rfl,rfl⟩
  ·exact .inr ⟨rfl,rfl⟩
  ·exact .inl ⟨rfl,_,rfl⟩
theorem iw(C:m<=5)(U:a<=b)(J:b<=m)(H:c<=d)(L:d<=m):jz [.str (qb m w),pr a b,pr c d]=bQ (.val<|.int<|if r6 w a b c d=dt then 1 else 0):=by
 let lo:=max a c;let f:=min b d;let γ:Cell->Cell->Cell->Cell->Ctx:=λl n o g=>[.val (.str<|qb m w),.val<|pr a b,.val<|pr c d,.val<|.int (lo:Int),.val<|.int (f:Int),l,n,o,g];rw[nA];refine jb<|zk (γ':=[.val (.str<|qb m w),.val<|pr a b,.val<|pr c d,.val<|.int (lo:Int),.no,.no,.no,.no,.no]) (by simp[z7,sL,f7,lo])<|zk (γ':=γ .no .no .no .no) (by simp[γ,sI,f7,f]) ?_;by_cases q:lo<=f
 ·have r : ¬((f:Nat):Int)<((lo:Nat):Int):=by omega
  refine zk (γ':=γ .no .no .no .no) (by rw[QM,gL,show zH ri (zc 3) (zc 4) (γ .no .no .no .no)=bQ (.bl ed)by simp[γ];omega];rfl) ?_;have k:nz (γ .no .no .no .no)=bQ [.tup [.int ((lo:Int) - 1),.bl<|decide<|a<lo,.bl (decide<|c<lo)],.tup [.int (f:Int),.bl<|decide<|f<b,.bl (decide<|f<d)]]:=by simp[nz,γ,f7]
  have O:=pH (w:=w) C (a:=a) (b:=b) (c:=c) (d:=d) ⋯ ⋯ q (.val<|pr a b) (.val<|pr c d) .no;rw[jE,kT,k,IY,jW];show((vT<|γ (.val<|.int<|(lo:Int) - 1) (.val<|.bl<|decide<|a<lo) (.val<|.bl<|decide<|c<lo) .no).bind _).bind _=_;rcases O with⟨i,g,e⟩ | ⟨i,e⟩
  ·rw[show vT (γ (.val<|.int<|(lo:Int) - 1) (.val<|.bl<|decide<|a<lo) (.val<|.bl<|decide<|c<lo) .no)=_ from e,IY]
   show(xX _ _ _ _).bind _=_;rw[jW];show((vT<|γ (.val<|.int (f:Int)) (.val<|.bl<|decide<|f<b) (.val<|.bl<|decide<|f<d) g).bind _).bind _=_;rcases pI (w:=w) C (a:=a) (b:=b) (c:=c) (d:=d) ⋯ ⋯ q (.val<|pr a b) (.val<|pr c d) g with⟨j,p,h⟩ | ⟨j,h⟩
   ·rw[show vT (γ (.val<|.int (f:Int)) (.val<|.bl<|decide<|f<b) (.val<|.bl<|decide<|f<d) g)=_ from h]
    have I:max a c<=min b d:=q;simp[r6,i,j,I,xX]
   ·rw[show vT (γ (.val<|.int (f:Int)) (.val<|.bl<|decide<|f<b) (.val<|.bl<|decide<|f<d) g)=_ from h]
    simp[r6,j]
  ·rw[show vT (γ (.val<|.int<|(lo:Int) - 1) (.val<|.bl<|decide<|a<lo) (.val<|.bl<|decide<|c<lo) .no)=_ from e]
   simp[r6,i]
 ·rw[jE,QM,gL,show zH ri (zc 3) (zc 4) (γ .no .no .no .no)=bQ (.bl dt)by simp[γ];omega]
  have I : ¬max a c<=min b d:=q;simp[r6,I]
end
section ap
variable(γ:Ctx)
@[simp] def GE:=@Fb.eq_1
@[simp] def Ho:=@IF.eq_1
@[simp] theorem Gm(f):rA f γ=((f γ).bind l0).map λi=> .int (-i):=rfl
@[simp] def uB:=@CI.eq_1
end ap
section
variable{p:Int}{m:Nat}{w:RX}{bs pk l9:List (Int×Int)}{c:Int×Int}
theorem tL(J:m<=5)(C : ∀b∈pk,Zy ((m+1:Nat):Int) b)(H : ∀b∈l9,Zy ((m+1:Nat):Int) b)(L:pk.length<=lim)(Y:l9.length<=lim):yH [.str (qb m w),.lst<|jq pk,.lst (jq l9)]=bQ (.val<|.int<|w4<|pk.map λb=>w4<|l9.map λc=>r9 w b c):=by
 have f : ∀b∈pk,∀c∈l9,jz [.str (qb m w),.tup [.int b.1,.int b.2],.tup [.int c.1,.int c.2]]=bQ (.val<|.int<|r9 w b c):=λb I c O=>by rw[AR (C b I),AR (H c O)];obtain⟨x1,g,x3⟩:=C b I;obtain⟨h,i,j⟩:=H c O;exact iw J ⋯ ⋯ ⋯ ⋯
 have d:(jq pk).length<=lim:=by simpa using L
 have e:(jq l9).length<=lim:=by simpa using Y
 have a3 : ∀b∈pk,gZ (jL<|zP (zF<|ze 2) (.nm 0) 1 [0,1] jj (zC jz<|za (zc 2)<|za (zc 1)<|za (zc 0) zD)) [.val (.tup [.int b.1,.int b.2]),.val<|.str<|qb m w,.val (.lst<|jq l9)]=bQ (.int<|w4<|l9.map λc=>r9 w b c):=λb I=>by
  have a:zQ (.nm 0) jj (zC jz<|za (zc 2)<|za (zc 1)<|za (zc 0) zD) [Cell.no,.val<|.tup [.int b.1,.int b.2],.val (.str<|qb m w)] (jq l9)=bQ (l9.map λc=>D.int<|r9 w b c):=by unfold jq;exact zx _ _ λc O=>zy (γ1:=[.val (.tup [.int c.1,.int c.2]),.val<|.tup [.int b.1,.int b.2],.val (.str<|qb m w)]) rfl rfl (by simp[f b I c O])
  have U:aF (l9.map λc=>D.int<|r9 w b c)=bQ (w4<|l9.map λc=>r9 w b c):=by rw[<- Jr,LG];rfl
  rw[Y4,yF,jG,show zF (ze 2) [Cell.val (.tup [.int b.1,.int b.2]),.val<|.str<|qb m w,.val (.lst<|jq l9)]=bQ (jq l9)from rfl];simp only[IY,e,if_true];rw[show z6 1 [0,1] [Cell.val (.tup [.int b.1,.int b.2]),.val<|.str<|qb m w,.val (.lst<|jq l9)]=[Cell.no,.val<|.tup [.int b.1,.int b.2],.val (.str<|qb m w)]from rfl,a];simp[U]
 have a:zQ (.nm 0) jj (gZ<|jL<|zP (zF<|ze 2) (.nm 0) 1 [0,1] jj (zC jz<|za (zc 2)<|za (zc 1)<|za (zc 0) zD)) [Cell.no,.val<|.str<|qb m w,.val (.lst<|jq l9)] (jq pk)=bQ (pk.map λb=>D.int<|w4<|l9.map λc=>r9 w b c):=by
  conv=>lhs;rw[show jq pk=pk.map (λb=>D.tup [.int b.1,.int b.2])from rfl]
  exact zx _ _ λb I=>zy (γ1:=[.val (.tup [.int b.1,.int b.2]),.val<|.str<|qb m w,.val (.lst<|jq l9)]) rfl rfl<|a3 b I
 have U:aF (pk.map λb=>D.int<|w4<|l9.map λc=>r9 w b c)=bQ (w4<|pk.map λb=>w4<|l9.map λc=>r9 w b c):=by rw[<- Jr,LG];rfl
 unfold yH;refine jb ?_;show jM _ [Cell.val (.str<|qb m w),.val<|.lst<|jq pk,.val (.lst<|jq l9)]=_;rw[wV,Y4,yF,jG,show zF (ze 1) [Cell.val (.str<|qb m w),.val<|.lst<|jq pk,.val (.lst<|jq l9)]=bQ (jq pk)from rfl];simp only[IY,d,if_true];rw[show z6 1 [0,2] [Cell.val (.str<|qb m w),.val<|.lst<|jq pk,.val (.lst<|jq l9)]=[Cell.no,.val<|.str<|qb m w,.val (.lst<|jq l9)]from rfl,a];simp[U]
end
structure SK(p:Int)(m:Nat)(w:RX)(wd:RZ)(K:List (Int×Int))(T F G:RV):Prop where
 pr : ∀r,r<m+1->Pair p (wd r) (F r) (G r)
 eb:Ky [jh p m w wd T]=bQ (.val<|dU K (aE m wd G)<|aE m wd F)
 et : ∀k,k<m->∀i j,i<wd (zK w k)->j<wd (zE w k)->T k i j=mM p (wd<|zE w k) (mM p (wd<|zK w k) (F<|zK w k)<|p8 w K k) (G<|zE w k) i j
 rg : ∀k i j,0<=T k i j/\T k i j<p
section
variable{p:Int}{m N:Nat}{w:RX}{wd:RZ}{T T1 T2 F1 G1 F2 G2:RV}{A:Nat->e9}{K:List (Int×Int)}
theorem si(U:Pr p)(H : ∀k,wd k<=8)(Y:m<=5)(C : ∀k i j,0<=T k i j/\T k i j<p)(D:ow p w wd T m N A) : ∃F G,SK p m w wd (kH<|kI A N) T F G:=by
 obtain⟨b,a,g,R,f,cnt,h,u,B⟩:=gE (T:=T) (w:=w) U H Y λk i j _ _ _=>C k i j;have P : ∀j,j<b->1<=(a j).n:=λj O=>(f j O).n1;have l : ∀r,r<=m->m8 (kI a b) r=wd r:=λr I=>by unfold m8;rw[ya P,cnt _ I]
 have t:ow p w wd T m b a:=tF U H f cnt λr I v=>⟨app (g r) (wd r) v,λi d=>(ZT (h r I).1 v d).symm⟩;have e : ∀(X:Nat->e9) (M:Nat),kI X M=(mE X M).map λs=>((s.1:Int),(s.2:Int)):=λX M=>by unfold kI mE;rw[LG];rfl
 have Q:(kI a b).Perm (kI A N):=by rw[e,e];exact(dO U t D).map _
 have x:kH (kI a b)=kI a b:=u;have o:kI a b=kH (kI A N):=by rw[<- x,Jx Q]
 refine⟨λr=>xM a b r,g,⟨λr I=>?_,?_,λk L i j d O=>?_,C⟩⟩
 ·obtain⟨u1,u2,u3⟩:=h r ⋯
  refine⟨λi j d O=>?_,λi j _ _=>u3 i j,u1,u2⟩;have y:j<(h6 a b r).length:=by rw[cnt r ⋯];exact O
  obtain⟨J,K⟩:=VA y;exact(f _ J).ji r i K d
 ·rw[<- o];exact B
 ·have z:zE w k<=m:=by unfold zE;split<;>omega
  have E:zK w k<=m:=by unfold zK;split<;>omega
  rw[nG U f cnt (λr I=>(h r I).1) L d O (C k i j),iu,l _ z,l _ E,o]
end
section
variable{p:Int}{n n1 n2 c i j:Nat}{A A1 B1 A2 B2 X h:RK}{E:RV}{t:Nat->Int}
theorem ou(I:0<p)(n:Nat)(f g:RK)(i j:Nat):mM p n f g i j%p=mM p n f g i j:=LX (mw I n f g i j).1 (mw I n f g i j).2
theorem Fw{g g':RK}(f:RK)(q : ∀x,x<n->g x j%p=g' x j%p):mM p n f g i j=mM p n f g' i j:=by unfold mM;exact zI λx I=>by rw[Lc,q x I,<- Lc]
theorem Zg(two:2<=p)(u2:wW p n2 A2 B2)(u1:wW p n1 A1 B1)(hi:i<n2)(I:j<n1):mM p n1 (mM p n2 A2<|mM p n1 (mM p n2 B2 h) A1) B1 i j=h i j%p:=by
 have U:0<p:=by omega
 have e : ∀x,x<n1->mM p n2 A2 (mM p n1 (mM p n2 B2 h) A1) i x=mM p n1 (λa b=>h a b%p) A1 i x:=λx O=>by rw[xB];refine qr (λy f=>?_) λ_ _=>rfl;rw[xB,qr (f':=hH) (g':=h) (λz d=>X8 two u2 hi d) λ_ _=>rfl,Bs hi]
 rw[qr (f':=mM p n1 (λa b=>h a b%p) A1) (g':=B1) e λ_ _=>rfl,<- xB,qr (f':=λa b=>h a b%p) (g':=hH) (λ_ _=>rfl) λx O=>X8 two u1 O I,eU I];exact Nv _<|PC p
theorem Vf(c:Nat)(t u:Nat->Int):zf (λs=>t s*(u s%p)) c%p=zf (λs=>t s*u s) c%p:=zI λs _=>by rw[Lc,Nv _<|PC p,<- Lc]
theorem Fx(q : ∀x,x<n->X x j%p=zf (λs=>t s*E s x j) c%p):mM p n A X i j=zf (λs=>t s*mM p n A (E s) i j) c%p:=by
 unfold mM;rw[Vf];have e:zf (λk=>A i k*X k j) n%p=zf (λk=>A i k*zf (λs=>t s*E s k j) c) n%p:=zI λx I=>by rw[Lc,q x I,<- Lc]
 rw[e];congr 1;rw[zu (g:=λk=>zf (λs=>A i k*(t s*E s k j)) c) λk _=>by rw[jd],qc];refine zu λs _=>?_;rw[<- jd];exact zu λk _=>by rw[Ni]
theorem Fy(q : ∀x,x<n->X i x%p=zf (λs=>t s*E s i x) c%p):mM p n X A i j=zf (λs=>t s*mM p n (E s) A i j) c%p:=by
 unfold mM;rw[Vf];have e:zf (λk=>X i k*A k j) n%p=zf (λk=>zf (λs=>t s*E s i k) c*A k j) n%p:=zI λx I=>by rw[Lc,q x I,<- Lc]
 rw[e];congr 1;rw[zu (g:=λk=>zf (λs=>t s*E s i k*A k j) c) λk _=>by rw[qB],qc];refine zu λs _=>?_;rw[<- jd];exact zu λk _=>ME ..
theorem WR(I:0<p)(q : ∀a b,a<n2->b<n1->X a b%p=zf (λs=>t s*E s a b) c%p)(A B:RK)(i j:Nat):mM p n1 (mM p n2 A X) B i j=zf (λs=>t s*mM p n1 (mM p n2 A<|E s) B i j) c%p:=
 Fy λx O=>by rw[ou I,Fx (t:=t) (E:=E) (c:=c) λy U=>q y x U O]
end
section
variable{p:Int}{m c:Nat}{w:RX}{wd1 wd2:RZ}{T1 T2 S1 S2 A1 B1 A2 B2:RV}{h:RV}{E:Nat->Nat->Nat->Nat->Int}
theorem B4.TX(two:2<=p)(u1 : ∀r,r<=m->wW p (wd1 r) (B1 r) (A1 r))(u2 : ∀r,r<=m->wW p (wd2 r) (B2 r) (A2 r))(Y : ∀r,r<=m->wW p (wd1 r) (A1 r) (B1 r))(Z : ∀r,r<=m->wW p (wd2 r) (A2 r) (B2 r))
 (J : ∀k,k<m->∀i j,i<wd1 (zK w k)->j<wd1 (zE w k)->T1 k i j%p=mM p (wd1<|zE w k) (mM p (wd1<|zK w k) (A1<|zK w k)<|S1 k) (B1<|zE w k) i j)
 (L : ∀k,k<m->∀i j,i<wd2 (zK w k)->j<wd2 (zE w k)->T2 k i j%p=mM p (wd2<|zE w k) (mM p (wd2<|zK w k) (A2<|zK w k)<|S2 k) (B2<|zE w k) i j)
 (H:B4 p m w wd1 wd2 S1 S2 c E):B4 p m w wd1 wd2 T1 T2 c λs r=>mM p (wd1 r) (mM p (wd2 r) (A2 r)<|E s r) (B1 r):=by
 have U:0<p:=by omega
 have G : ∀{wd:RZ} {T S A B:RV},(∀r,r<=m->wW p (wd r) (B r) (A r))->(∀k,k<m->∀i j,i<wd (zK w k)->j<wd (zE w k)->T k i j%p=mM p (wd<|zE w k) (mM p (wd<|zK w k) (A<|zK w k)<|S k) (B<|zE w k) i j)->∀k,k<m->∀i j,i<wd (zK w k)->j<wd (zE w k)->S k i j%p=mM p (wd<|zE w k) (mM p (wd<|zK w k) (B<|zK w k)<|T k) (A<|zE w k) i j:=λ{wd T S A B} u e k o i j d O=>by rw[<- Zg (h:=S k) two (u _<|W2 (w:=w) o) (u _<|ai (w:=w) o) d O];refine qr (λx N=>?_) λ_ _=>rfl;refine Fw _ λy P=>?_;rw[e k o y x P N,ou U]
 refine⟨λs C=>W9 two u1 u2 J L<|H.F0 s C,λh M=>?_,λt F s C=>?_⟩
 ·have K:=W9 (A1:=B1) (B1:=A1) (A2:=B2) (B2:=A2) two Y Z (G u1 J) (G u2 L) M
  obtain⟨t,F⟩:=H.span _ K;refine⟨t,λr I i j d O=>?_⟩;rw[<- Zg (h:=h r) two (Z r I) (Y r I) d O,WR U (t:=t) (E:=λs=>E s r) (c:=c) λa b f n=>F r I a b f n]
 ·refine H.ind t (λr I i j d O=>?_) s C
  have z : ∀s,mM p (wd1 r) (mM p (wd2 r) (B2 r)<|mM p (wd1 r) (mM p (wd2 r) (A2 r)<|E s r)<|B1 r) (A1 r) i j=E s r i j%p:=λs=>Zg (h:=E s r) two (u2 r I) (u1 r I) d O;have l:=WR (n1:=wd1 r) (n2:=wd2 r) (X:=λ_ _=>0) U (t:=t) (E:=λs=>mM p (wd1 r) (mM p (wd2 r) (A2 r)<|E s r)<|B1 r) (c:=c) (λa b f n=>(F r I a b f n).symm) (B2 r) (A1 r) i j;rw[zu (g:=λs=>t s*(E s r i j%p)) λs _=>by rw[z s],Vf]at l;rw[<- l];have Q : ∀x,mM p (wd2 r) (B2 r) (λ_ _=>0) i x=0:=λx=>by unfold mM;rw[zu (g:=λ_=>0) λk _=>MS _,zO];rfl
  unfold mM;rw[zu (g:=λ_=>0) λk _=>by have:=Q k;unfold mM at this;rw[this,Ng],zO]
  rfl
end
structure E5(p:Int)(m:Nat)(w:RX)(wd:RZ)(K:List (Int×Int))(T F G:RV):Prop where
 pp:SK p m w wd K T F G
 st : ∀b∈K,Zy ((m+1:Nat):Int) b
 br : ∀r,r<=m->m8 K r=wd r
 le:K.length<=48
theorem sW{p:Int}{m:Nat}{w:RX}{wd1 wd2:RZ}{K1 K2:List (Int×Int)}{T1 C J T2 H L:RV}(Y:Pr p)(I:E5 p m w wd1 K1 T1 C J)(O:E5 p m w wd2 K2 T2 H L) : ∃(c:Nat) (E:Nat->Nat->Nat->Nat->Int),(c:Int)=w4 (K1.map λb=>w4<|K2.map λc=>r9 w b c)/\B4 p m w wd1 wd2 T1 T2 c E:=by
 have two:=Y.two;refine⟨_,_,aY,B4.TX (S1:=p8 w K1) (S2:=p8 w K2) (A1:=C) (B1:=J) (A2:=H) (B2:=L) two (λr U=>(I.pp.pr r ⋯).gf) (λr U=>(O.pp.pr r ⋯).gf) (λr U=>(I.pp.pr r ⋯).fg) (λr U=>(O.pp.pr r ⋯).fg) (λk e i j a d=>?_) (λk e i j a d=>?_)<|(fH (p:=p) (w:=w) I.st O.st).wd I.br O.br⟩
 ·rw[LX (I.pp.rg k i j).1 (I.pp.rg k i j).2]
  exact I.pp.et k e i j a d
 ·rw[LX (O.pp.rg k i j).1 (O.pp.rg k i j).2]
  exact O.pp.et k e i j a d
noncomputable def hR(g:RK)(s k:Nat):Nat->Int:=g<|if k<=s then k - 1 else k
noncomputable def gR(p:Int)(g:RK)(r s c:Nat)(y:Int)(k j:Nat):Int:=if k<r then g k j else if k=r then g s j*y%p else (hR g s k j - hR g s k c*(g s j*y%p))%p
section
variable{p:Int}{n R:Nat}{f g:RK}
theorem VH{n j:Nat}(I:j<n)(u:Nat->Int):(zA n u)[j]? = bQ (.int<|u j):=by unfold zA;simp[I]
theorem tx{n j:Nat}{u:Nat->Int}(I:j<(zA n u).length):(zA n u)[j] = .int (u j):=by simp[zA]
theorem Zt(n:Nat)(u:Nat->Int):(zA n u).length=n:=by simp[zA]
theorem Ib(a b:Nat):kM (a:Int) b=(Nx a b).map λ(j:Nat)=>D.int j:=by unfold kM;rw[List.range'_eq_map_range,LG];exact Ll λj _=>rfl
end
theorem bN{n:Nat}{u v:Nat->Int}(h : ∀x,x<n->u x=v x):zA n u=zA n v:=by unfold zA;exact Ll λx I=>by rw[h x (IV.mp I)]
section
variable{p:Int}{m:Nat}{w:RX}{wd1 wd2:RZ}{T1 T2:RV}{h h':RV}
theorem s8.ext(e : ∀r,r<=m->∀i j,i<wd2 r->j<wd1 r->h r i j=h' r i j)(H:s8 p m w wd1 wd2 T1 T2 h):s8 p m w wd1 wd2 T1 T2 h':=λk I i j a U=>by have d:=W2 (w:=w) I;have b:=ai (w:=w) I;rw[qr (f':=h<|zK w k) (g':=T1 k) (λt O=>(e _ d i t a O).symm) λ_ _=>rfl,qr (f':=T2 k) (g':=h<|zE w k) (λ_ _=>rfl) λt O=>(e _ b t j O U).symm];exact H k I i j a U
theorem Bl{r i j:Nat}(O:r<=m)(hi:i<wd2 r)(I:j<wd1 r)(h:RV):x6 wd2 wd1 (my wd2 wd1 h<|m+1) r i j=h r i j:=ZA (T:=h) hi I (m+1) ⋯
end
section
variable{p:Int}{h w:Nat}
theorem Kw(C:Pr p)(hh:h<=50)(hw:w<=50)(f:RK) :
 ∃q K l s,xS [.int p,jJ h w f]=bQ (.own<|zX q w K)/\g5 p w q K l/\(∀v,Span p w (el q K) v↔t5 p h w f v)/\Rk p h w (λj i=>f i j) s/\q+s=w:=by
 have hl:=jm;have X:h<=lim:=by omega
 have A:w<=lim:=by omega
 have Y:h+w<=lim:=by omega
 obtain⟨r,B,l,e,O,y⟩:=xq C (show h+w<=100 by omega) A .L λj=>kS h (λi=>f i j)<|jI j;have Z : ∀v,Span p (h+w) (el r B) v->∀i,i<h->v i%p=zf (λj=>f i j*v (h+j)) w%p:=λv o=>WC<|(y v).mp o;have ac:r<=w:=by obtain⟨r',G,H⟩:=wg C (n:=h+w) w λj=>kS h (λi=>f i j)<|jI j;rw[yW C ⟨B,l,O,y⟩ H];exact G
 have ae:w<=r:=by obtain⟨r',G,H⟩:=wg C (n:=w) r λk j=>B k<|h+j;refine Mj (nW C (m:=w) (W:=jI) ⟨jI,id,XA C w,λv=>Iff.rfl⟩ H λj U=>?_) G;have:=Span.map (n':=w) (G':=el r λk j=>B k<|h+j) (λi=>h+i) (λi a=>by omega) (λg ⟨k,I,b⟩=> .gen ⟨k,I,by rw[b]⟩)<|(y<|kS h (λi=>f i j)<|jI j).mpr (.gen ⟨j,U,rfl⟩);exact this.congr λi _=>by rw[qf]
 have er:r=w:=Nat.le_antisymm ac ae;subst er;obtain⟨s,hs,P,x⟩:=wa h O.mono;have eb:=vW O A hs P x;have am:g5 p r (r - s) (λk j=>B (s+k)<|h+j) (λk=>l (s+k) - h):={
  lt:=λk I=>by have:=O.lt (s+k) ⋯;have:=x (s+k) ⋯ ⋯;omega
  mono:=λk m I J=>by have:=O.mono (s+k) (s+m) ⋯ ⋯;have:=x (s+k) ⋯ ⋯;omega
  one:=λk I=>by have:=x (s+k) ⋯ ⋯;rw[show h+(l (s+k) - h)=l (s+k)by omega];exact O.one _ ⋯
  i9:=λk j I U=>O.i9 _ _ ⋯ ⋯
  oe:=λk m I J E=>by have:=x (s+m) ⋯ ⋯;rw[show h+(l (s+m) - h)=l (s+m)by omega];exact O.oe _ _ ⋯ ⋯ ⋯
  ji:=λk i I a=>O.ji _ _ ⋯ ⋯}
 refine⟨r - s,_,_,s,?_,am,λv=>⟨λo=>?_,λo=>?_⟩,?_,by omega⟩
 ·have R:=kD f X A
  have S:=kB (n:=r) A;have N:zQ (.tp [0,1]) jj (zH qa (zc 0)<|zc 1) [Cell.no,Cell.no] ((IS r).map λj=>D.tup [.tup (zA h λi=>f i j),.tup (zA r λk=>if j=k then 1 else 0)])=bQ (zX r (h+r) λj=>kS h (λi=>f i j)<|jI j):=by unfold zX;refine zx _ _ λj U=>zy rfl rfl ?_;simp[qa,Y,wI];rfl
  have zp:vZ (zX r h λi j=>f j i) (zX r r λi j=>if i=j then 1 else 0)=(IS r).map λj=>D.tup [.tup (zA h λi=>f i j),.tup (zA r λk=>if j=k then 1 else 0)]:=by unfold vZ zX;rw[OF];simp
  have c1:((h:Int)+(r:Int))=((h+r:Nat):Int):=by omega
  simp only[p9]at e;rw[<- c1]at e;unfold jJ at R S ⊢;have nl : ∀T t f γ,zQ T t f γ []=bQ []:=λ_ _ _ _=>rfl;simp[xS,xp,jn,z7,jE,R,S,zp,A,z6,La,N,nl,e,eb]
 ·intro i a
  induction o with
  | @zero v hz=>
   have:zf (λj=>f i j*v j) r%p=zf (λ_=>0) r%p:=zI λj U=>by rw[Lc,hz j U];simp
   rw[this,zO];rfl
  | @step v u g c hg hu he M=>
   obtain⟨k,I,rfl⟩:=hg;have e1:zf (λj=>f i j*v j) r%p=zf (λj=>f i j*u j+c*(f i j*B (s+k) (h+j))) r%p:=zI λj U=>by rw[Lc,he j U,<- Lc,NG,Ni]
   have Q:=Z (B<|s+k) (.gen ⟨s+k,by omega,rfl⟩) i a;have e3:B (s+k) i=0:=O.i9 _ _ ⋯ (by have:=x (s+k) ⋯ ⋯;omega);rw[e3]at Q;rw[e1,jt,jd,LZ,M,Lc,<- Q];simp
 ·
  have b6:Span p (h+r) (el r B) (kS h (λ_=>0) v):=by
   refine(y _).mpr ((Span.sum (u:=λj=>kS h (λi=>f i j)<|jI j) v (m:=r) λj U=> .gen ⟨j,U,rfl⟩).congr λi a=>?_);rcases Lu i h with z | z
   ·simp only[jU z]
    rw[zu (g:=λj=>f i j*v j) λj _=>Ml _ _,o i z];simp
   ·obtain⟨k,rfl⟩ : ∃k,i=h+k:=⟨i - h,by omega⟩
    simp only[qf];rw[zM (f:=λj=>v j*jI j k) (i:=k) ⋯ λj _ E=>by simp[jI,E]];simp[jI]
  have co:=Zv O b6;refine(Span.sum (u:=λk j=>B (s+k)<|h+j) (λk=>kS h (λ_=>0) v<|l<|s+k) (m:=r - s) λk I=> .gen ⟨k,I,rfl⟩).congr λj U=>?_;have:=co (h+j) ⋯;rw[qf]at this;rw[this];obtain⟨d,rfl⟩ : ∃d,r=s+d:=⟨r - s,by omega⟩;rw[MK];have sp : ∀(F:Nat->Int) (d:Nat),(∀k,k<s->F k=0)->zf F (s+d)=zf (λk=>F<|s+k) d:=by
   intro F d hF
   induction d with
   | zero=>
    show zf F s=0;rw[zu (g:=λ_=>0) hF,zO]
   | succ d M=>rw[<- OH];simp only[zf];rw[M]
  rw[sp _ d λk I=>by rw[jU (P k I)];simp]
 ·
  refine⟨λk i=>B k i,l,⟨λk I=>P k I,λk m I J=>O.mono k m I ⋯,λk I=>O.one k ⋯,λk j I U=>O.i9 k j ⋯ U,λk m I J E=>O.oe k m ⋯ ⋯ E,λk i I a=>O.ji k i ⋯ ⋯⟩,λv=>⟨λo=>o.le λg ⟨k,I,b⟩=>?_,λo=>o.le λg ⟨j,U,b⟩=>?_⟩⟩
  ·subst b
   exact Span.map (n':=h) (G':=el r λj i=>f i j) (λi=>i) (λi a=>by omega) (λg ⟨j,U,b⟩=>(Span.gen (g:=λi=>f i j) ⟨j,U,rfl⟩).congr λi a=>by rw[b];simp only[jU a])<|(y<|B k).mp (.gen ⟨k,by omega,rfl⟩)
  ·subst b
   have:=Span.map (n':=h) (G':=el s λk i=>B k i) (λi=>i) (λi a=>by omega) (λg hZ=>by
    obtain⟨k,I,b⟩:=hZ;subst b;rcases Lu k s with z | z
    ·exact .gen ⟨k,z,rfl⟩
    ·exact .zero λi a=>by rw[O.i9 k i I (by have:=x k z I;omega)];simp) ((y<|kS h (λi=>f i j)<|jI j).mpr (.gen ⟨j,U,rfl⟩))
   exact this.congr λi a=>by rw[jU a]
end
section
variable{p:Int}{m:Nat}{w:RX}{wd1 wd2:RZ}{T1 T2 Q:RV}
theorem lQ(L:0<p)(Y:p<=7)(hm:m<=5)(C : ∀k,wd1 k<=60)(J : ∀k,wd2 k<=60)(Z : ∀k i j,0<=Q k i j/\Q k i j<p)(b2 : ∀k i j,0<=T2 k i j/\T2 k i j<p)
 (eq : ∀k,k<m->∀i j,i<wd2 (zK w k)->j<wd1 (zE w k)->mM p (wd1<|zK w k) (Q<|zK w k) (T1 k) i j=mM p (wd2<|zE w k) (T2 k) (Q<|zE w k) i j) :
 qP [.int p,.str<|qb m w,qp m w wd1 T1,qp m w wd2 T2,.lst (fh (m+1) wd2 wd1 Q)]=bQ (.val<|.bl dt):=by
 have hl:=jm;have wl:=v7 m w;have M:=kj w (show m<=1000 by omega);let W:List D:=zA (m+1) λk=>(wd1 k:Int);have lW:W.length=m+1:=by simp[W]
 have X : ∀{r:Nat},r<m+1->((f7 W.length (r:Int)).bind λk=>W[k]?)=bQ (.int (wd1 r:Int)):=λ{r} u=>by rw[lW,jl,RY u];exact yB _ u
 have A : ∀(wd:RZ) (T:RV) {k:Nat},k<m->((f7 (ql m w wd T).length (k:Int)).bind λx=>(ql m w wd T)[x]?)=bQ (.lst<|j6 (wd<|zK w k) (wd<|zE w k)<|T k):=λwd T {k} z=>by rw[show(ql m w wd T).length=m by simp[ql],jl,RY z,qD w wd k,qH w wd k];show((IS m).map _)[k]? = _;rw[Lz,MP z];rfl
 have B : ∀{r:Nat},r<m+1->((f7 (fh (m+1) wd2 wd1 Q).length (r:Int)).bind λx=>(fh (m+1) wd2 wd1 Q)[x]?).bind je=bQ (.T,[.int (wd2 r:Nat),.int (wd1 r:Nat),.tup (zX (wd2 r) (wd1 r)<|Q r)]):=λ{r} u=>by rw[XE,jl,RY u];show((IS<|m+1).map _)[r]?.bind je=_;rw[Lz,MP u];rfl
 let γ:Cell->Cell->Cell->Cell->Cell->Ctx:=λt e l b a=>[.val (.int p),.val<|.str<|qb m w,.val<|qp m w wd1 T1,.val<|qp m w wd2 T2,.val<|.lst<|fh (m+1) wd2 wd1 Q,t,e,l,b,a];obtain⟨γ1,s1,t,e,l,b,a,rfl⟩:=qS (T:= .nm 5) (F:=lV) (f:=yT<|zc 1) (λ_ γ'=>∃t e l b a,γ'=γ t e l b a) m ⋯ (γ:=γ .no .no .no .no .no) (by simp[γ,wl,M]) ⟨.no,.no,.no,.no,.no,rfl⟩ (by
  rintro s o γ' ⟨t,e,l,b,a,rfl⟩;have N:=kF (w:=w) hm o;have r1:=vQ (w:=w) o;have K:=vS (w:=w) o;have q1:=C<|zK w s;have E:=C<|zE w s;have G:=J<|zK w s;have q4:=J<|zE w s;let S:=Cell.val<|.int (s:Int);let I:=Cell.val<|.int (zE w s:Nat);let O:=Cell.val<|.int (zK w s:Nat);let U:=Cell.val<|.int (wd1 (zE w s):Int);let H:=j6 (wd2<|zK w s) (wd1<|zE w s)<|mM p (wd1<|zK w s) (Q<|zK w s)<|T1 s;refine⟨γ S e l b a,γ S I O U<|.val<|.lst H,rfl,?_,_,_,_,_,_,rfl⟩;have t1:=Wb (h:=wd2<|zK w s) (n:=wd1<|zK w s) (w:=wd1<|zE w s) (f:=Q<|zK w s) (g:=T1 s) L Y G q1 E (eQ _ _ _) (eT _ _ _)<|λi k _ _=>Z _ i k;have t2:=Wb (h:=wd2<|zK w s) (n:=wd2<|zE w s) (w:=wd1<|zE w s) (f:=T2 s) (g:=Q<|zE w s) L Y G q4 E (eT _ _ _) (eQ _ _ _)<|λi k _ _=>b2 _ i k;unfold lV;refine zk (γ':=γ S I O b a) (by simp[γ,S,I,O,N])<|zk (γ':=γ S I O U a) ?_ (zk (γ':=γ S I O U<|.val<|.lst H) ?_ ?_)
  ·have x:dy (zw<|dy (ze 2)<|zv<|.int 0) (zc 6) (γ S I O b a)=bQ (.int (wd1 (zE w s):Int)):=X K
   rw[kc,x];rfl
  ·have x1:dy (zw<|dy (ze 4)<|zc 7) (zv<|.int 2) (γ S I O U a)=bQ (.tup<|zX (wd2<|zK w s) (wd1<|zK w s)<|Q<|zK w s):=by
    rw[xN,show zw (dy (ze 4)<|zc 7) (γ S I O U a)=_ from B r1];rfl
   have y:dy (zw<|dy (ze 2)<|zv<|.int 1) (zc 5) (γ S I O U a)=bQ (.lst<|j6 (wd1<|zK w s) (wd1<|zE w s)<|T1 s):=A wd1 T1 o;unfold Bk;rw[kc,xC,yG,z9,z9,z9,z9,x1,y];show((((z5 [.int p,.tup<|zX (wd2<|zK w s) (wd1<|zK w s)<|Q<|zK w s,.lst<|j6 (wd1<|zK w s) (wd1<|zE w s)<|T1 s,.int (wd1 (zE w s):Int)]).bind hV).map D.lst).map λd=>Fl.next<|(γ S I O U a).set 9 (.val d))=_;rw[t1];rfl
  ·have x1:dy (zw<|dy (ze 4)<|zc 6) (zv<|.int 2) (γ S I O U<|.val<|.lst H)=bQ (.tup<|zX (wd2<|zE w s) (wd1<|zE w s)<|Q<|zE w s):=by
    rw[xN,show zw (dy (ze 4)<|zc 6) (γ S I O U<|.val<|.lst H)=_ from B K];rfl
   have y:dy (zw<|dy (ze 3)<|zv<|.int 1) (zc 5) (γ S I O U<|.val<|.lst H)=bQ (.lst<|j6 (wd2<|zK w s) (wd2<|zE w s)<|T2 s):=A wd2 T2 o;have g:sr (γ S I O U<|.val<|.lst H)=bQ (.lst H):=by unfold sr;rw[xC,yG,z9,z9,z9,z9,x1,y];show(((z5 [.int p,.lst<|j6 (wd2<|zK w s) (wd2<|zE w s)<|T2 s,.tup<|zX (wd2<|zE w s) (wd1<|zE w s)<|Q<|zE w s,.int (wd1 (zE w s):Int)]).bind hV).map D.lst)=_;rw[t2];show bQ (D.lst<|j6 (wd2<|zK w s) (wd1<|zE w s)<|mM p (wd2<|zE w s) (T2 s)<|Q<|zE w s)=_;rw[WQ λi j P R=>(eq s o i j P R).symm]
   rw[QM,gL,yN,g];show(((h9 (.lst H)<|.lst H).bind rd).bind _)=_;rw[wK (bh _)];rfl)
 rw[lT];exact jb<|zk s1 rfl
theorem sO(v:Nat->Int):t5 p (off (eK w wd2) (eX w wd1) m) (off wd2 wd1<|m+1) (YD p m w wd2 wd1 T2 T1) v↔s8 p m w wd1 wd2 T1 T2 (x6 wd2 wd1 v):=by
 have b : ∀{k i j:Nat},k<m->i<eK w wd2 k->j<eX w wd1 k->(zf (λc=>YD p m w wd2 wd1 T2 T1 (off (eK w wd2) (eX w wd1) k+i*eX w wd1 k+j) c*v c) (off wd2 wd1<|m+1)%p=0↔mM p (wd1<|zK w k) (x6 wd2 wd1 v<|zK w k) (T1 k) i j=mM p (wd2<|zE w k) (T2 k) (x6 wd2 wd1 v<|zE w k) i j):=λ{k i j} O a I=>by rw[mR v O a I];unfold oC mM;rw[<- qD,<- qH,zu (f:=λt=>T1 k t j*x6 wd2 wd1 v (zK w k) i t) (g:=λt=>x6 wd2 wd1 v (zK w k) i t*T1 k t j) λt _=>Ml ..];exact⟨λz=>Mq.mpr z,λz=>Mq.mp z⟩
 constructor
 ·intro H k O i j a I
  rw[qD w wd2 k]at a;rw[qH w wd1 k]at I;exact(b O a I).mp (H _<|bU O a I)
 ·intro H e U
  obtain⟨k,i,j,O,a,I,rfl⟩:=lG _ _ U;exact(b O a I).mpr (H k O i j (by rw[qD w wd2 k];exact a)<|by rw[qH w wd1 k];exact I)
theorem FS{K1 K2:List (Int×Int)}{J Y L Z:RV}{q:Nat}{B:Nat->Vc}{l:RZ}(C:Pr p)(P1:E5 p m w wd1 K1 T1 J Y)(P2:E5 p m w wd2 K2 T2 L Z)(hb:g5 p (off wd2 wd1<|m+1) q B l)(sp : ∀v,Span p (off wd2 wd1<|m+1) (el q B) v↔t5 p (off (eK w wd2) (eX w wd1) m) (off wd2 wd1<|m+1) (YD p m w wd2 wd1 T2 T1) v) :
 (q:Int)=w4 (K1.map λb=>w4<|K2.map λc=>r9 w b c):=by
 obtain⟨c,E,g,H⟩:=sW C P1 P2;have:=oR C hb (W:=λs=>my wd2 wd1 (E s)<|m+1) (m:=c) (λv=>?_) λt U s d=>?_
 ·omega
 ·constructor
  ·intro e
   obtain⟨t,U⟩:=H.span _<|(sO v).mp ((sp v).mp e);refine(XF (m:=c) (λs=>my wd2 wd1 (E s)<|m+1) t).congr λx f=>?_;obtain⟨r,i,j,O,a,I,rfl⟩:=lG _ _ f;have:=U r ⋯ i j a I;rw[show x6 wd2 wd1 v r i j=v (off wd2 wd1 r+i*wd1 r+j)from rfl]at this;rw[this];exact zI λs _=>by rw[ZA (T:=E s) a I (m+1) O]
  ·intro e
   refine e.le ?_;rintro _ ⟨s,d,rfl⟩;exact(sp _).mpr ((sO _).mpr ((H.F0 s d).ext λr O i j a I=>(Bl O a I<|E s).symm))
 ·refine H.ind t (λr O i j a I=>?_) s d
  have:=U _<|bU (show r<m+1 by omega) a I;rw[<- this];exact zI λs _=>by rw[ZA (T:=E s) a I (m+1) ⋯]
end
section
variable{p:Int}{m:Nat}{w:RX}{wd1 wd2:RZ}{T1 T2 Q:RV}{hs ws:RZ}{T:RV}
theorem BC{n:Nat}(hz:off hs ws n<=2000):ki [.lst (fh n hs ws T)]=bQ (.own<|zA (off hs ws n)<|my hs ws T n):=by
 have l:f7 3 2=bQ 2:=rfl;have b : ∀(k s:Nat) (a I:Cell),s+k=n->∃O U,xX (.nm 2) (xU (zF<|zw<|dy (ze 2)<|zv<|.int 2) (.nm 3)<|QC 1<|ze 3) ((Nx s k).map λk=>jJ (hs k) (ws k)<|T k) [.val (.lst<|fh n hs ws T),.own<|zA (off hs ws s)<|my hs ws T s,a,I]=bQ (.next [.val (.lst<|fh n hs ws T),.own<|zA (off hs ws n)<|my hs ws T n,O,U]):=by
  intro k
  induction k with
  | zero=>
   intro s a I e;obtain rfl:s=n:=by omega
   exact⟨a,I,rfl⟩
  | succ k m=>
   intro s a I e;have u:=ZW (hs:=hs) (ws:=ws) (show s+1<=n by omega);obtain⟨d,r⟩:=cn (.val<|.lst<|fh n hs ws T) (.val<|jJ (hs s) (ws s)<|T s) (ws s) (T s) (off hs ws s) (my hs ws T s) (my hs ws T<|s+1) (λx h=>by show(if x<off hs ws s then _ else _)=_;rw[RY h]) (hs s) (λi j f g=>ZA f g (s+1) ⋯) (by
    have:off hs ws (s+1)=off hs ws s+hs s*ws s:=rfl;omega) I
   obtain⟨O,U,q⟩:=m (s+1) (.val<|jJ (hs s) (ws s)<|T s) d ⋯;refine⟨O,U,?_⟩;rw[<- q,Nz,Mc,jW];have t:=Ve (hs s) (ws s)<|T s;simp only[wR,IY,Mb,Ma,kT,q9,qG,xN,j7,yh,Ld,Lg,LM,Mh,LV,MN,zY,Lm,t,qg,l,jD,r];rfl
 obtain⟨O,U,q⟩:=b n 0 .no .no ⋯;rw[<- Nd]at q;have o:(xf 1<|qm zD) (z7 4 [.lst (fh n hs ws T)])=bQ (.next [.val (.lst<|fh n hs ws T),.own<|zA (off hs ws 0)<|my hs ws T 0,.no,.no]):=rfl;have p:(xU (zF<|zw<|zc 0) (.nm 2)<|xU (zF<|zw<|dy (ze 2)<|zv<|.int 2) (.nm 3)<|QC 1<|ze 3) [.val (.lst<|fh n hs ws T),.own<|zA (off hs ws 0)<|my hs ws T 0,.no,.no]=bQ (.next [.val (.lst<|fh n hs ws T),.own<|zA (off hs ws n)<|my hs ws T n,O,U]):=by rw[kT];simp only[q9,qG,qU,Ld,zW,IY,j4,Lm];exact q
 exact jb<|zk o<|zk p rfl
theorem uG{n x:Nat}(u:Nat->Int)(I:x<off hs ws n):my hs ws (x6 hs ws u) n x=u x:=by obtain⟨k,i,j,O,a,U,rfl⟩:=lG _ _ I;rw[ZA a U n O];rfl
abbrev Xw(m:Nat)(wd1 wd2:RZ)(u:Nat->Int):List D:=fh (m+1) wd2 wd1 (x6 wd2 wd1 u)
theorem Vd(O:Pr p)(J:m<=4)(C : ∀k,wd1 k<=9)(H : ∀k,wd2 k<=9)(U : ∀k i j,0<=T1 k i j/\T1 k i j<p)(L:off wd2 wd1 (m+1)<=50)(hR:off (eK w wd2) (eX w wd1) m<=50) :
 ∃q B l,xk [jh p m w wd1 T1,jh p m w wd2 T2]=bQ (.own<|(IS q).map λs=>D.lst<|Xw m wd1 wd2<|B s)/\g5 p (off wd2 wd1<|m+1) q B l/\∀v,Span p (off wd2 wd1<|m+1) (el q B) v↔t5 p (off (eK w wd2) (eX w wd1) m) (off wd2 wd1<|m+1) (YD p m w wd2 wd1 T2 T1) v:=by
 have z:=jm;have t:=O.pos;have E:=O.le;obtain⟨q,B,l,s,f,h,x,_,eq⟩:=Kw (p:=p) O hR L<|YD p m w wd2 wd1 T2 T1;refine⟨q,B,l,?_,h,x⟩;have d:=(gF (p:=p) (w:=w) (wd:=wd1) (T:=T1) (wd':=wd2) (T':=T2)<|show m<=900 by omega).2;have b:=we (p:=p) (w:=w) (wd:=wd2) (T:=T2) (wd':=wd1) (T':=T1) J;have o:=yv (hs:=wd2) (ws:=wd1) (n:=m+1) ⋯ (λk=>by have:=C k;omega);have gt:=Kg (p:=p) (w:=w) (wd:=wd2) (wd':=wd1) (T:=T2) (T':=T1) t ⋯ J H C U ⋯ ⋯;have sq:=XN (p:=p) (m:=m) (w:=w) (wd:=wd1) (T:=T1);have y : ∀u:Nat->Int,qt [.lst (ij (m+1) wd2 wd1),.tup (zA (off wd2 wd1<|m+1) u)]=bQ (.own<|Xw m wd1 wd2 u):=λu=>ZC ⋯ (λk=>by have:=H k;omega) (λk=>by have:=C k;omega) u rfl;have g:zQ (.nm 0) jj (jA<|ja qt<|za (zc 1)<|za (zc 0) zD) [Cell.no,.val (.lst<|ij (m+1) wd2 wd1)] (zX q (off wd2 wd1<|m+1) B)=bQ ((IS q).map λs=>D.lst<|Xw m wd1 wd2<|B s):=by unfold zX;refine zx _ _ λs hs=>zy (γ1:=[.val (.tup<|zA (off wd2 wd1<|m+1)<|B s),.val (.lst<|ij (m+1) wd2 wd1)]) rfl rfl ?_;simp[y]
 generalize jh p m w wd1 T1=I at *;generalize jh p m w wd2 T2=R2 at *;let S:=Cell.val<|.lst<|ij (m+1) wd2 wd1;have A : ¬((off wd2 wd1 (m+1):Int)>60):=by omega
 have r:(zX q (off wd2 wd1<|m+1) B).length<=lim:=by rw[show(zX q (off wd2 wd1<|m+1) B).length=q by simp[zX]];omega
 unfold xk;refine jb<|zk (γ':=[.val I,.val R2,.no]) (by simp[z7,d])<|zk (γ':=[.val I,.val R2,S]) (by simp[b,S])<|zk (γ':=[.val I,.val R2,S]) ?_ ?_
 ·rw[QM,show sB (zH ri (zC j5<|za (zc 2) zD)<|zv<|.int 60) [.val I,.val R2,S]=bQ ed by simp[S,o];omega]
  rfl
 ·have a:zF (jL<|ja xS<|za (dy (ze 0)<|zv<|.int 0)<|za (zC kU<|za (zc 0)<|za (zc 1) zD) zD) [.val I,.val R2,S]=bQ (zX q (off wd2 wd1<|m+1) B):=by
   simp[sq,f7,gt,f]
  show((zP _ _ _ _ _ _ [Cell.val I,.val R2,S]).map λe=>Fl.ret<|.own e)=_;rw[jG,a,IY,RY r,show z6 1 [2] [Cell.val I,.val R2,S]=[Cell.no,S]from rfl,g];rfl
end
theorem BV:jX=jn 5 (zN FF<|zN (xU (zF<|zw<|zc 0) (.nm 2)<|zN bG<|zN bF bD)<|zN (xU (vJ (zv<|.int 1)<|xH<|ze 1) (.nm 4) ux)<|zN (xU (zR<|xH<|ze 1) (.nm 4) Ei)<|jM<|zv<|.bl dt):=rfl
theorem fO{N a:Nat}{f:RX}(H:a<N)(C:f a=dt)(I : ∀k,k<a->f k=ed) : ∃t,(IS N).filter f=a::t:=by
 have e:(IS N).find? f=bQ a:=List.find?_range_eq_some.mpr ⟨C,IV.mpr H,λj O=>by rw[I j O];rfl⟩;rw[<- List.head?_filter]at e;cases q:(IS N).filter f with
 | nil=>rw[q]at e;cases e
 | cons b t=>rw[q]at e;cases e;exact⟨t,rfl⟩
section
variable{p:Int}{N q:Nat}{B:Nat->Vc}{l:RZ}
theorem fD(C:g5 p N q B l)(hN:N<=1000)(hq:q<=1000):jX [.lst (j6 q N B)]=bQ (.val<|.bl dt):=by
 have hl:=jm;let X:D:= .lst (j6 q N B);let ld:Nat->List D:=λs=>zA s λk=>(l k:Int);let Γ:Nat->Cell->Cell->Cell->Ctx:=λs O I b=>[.val X,.own<|ld s,O,I,b];have sa:FF (z7 5 [X])=bQ (.next<|Γ 0 .no .no .no):=rfl;have A : ∃O I,xU (zF<|zw<|zc 0) (.nm 2) (zN bG<|zN bF bD) (Γ 0 .no .no .no)=bQ (.next<|Γ q O I .no):=by
  rw[kT,show zF (zw<|zc 0) (Γ 0 .no .no .no)=bQ (j6 q N B)from rfl,IY];obtain⟨x,e,O,I,rfl⟩:=xW (T:= .nm 2) (F:=zN bG<|zN bF bD) (λs γ=>∃O I,γ=Γ s O I .no) (j6 q N B) 0 (Γ 0 .no .no .no) ⟨_,_,rfl⟩ (by
   rintro s M γ m ⟨O,I,rfl⟩;rw[LV];have d:s<q:=by
    have:=(Lh.mp m).1
    rwa [vo]at this
   rw[sN d]at m;cases m;let Y:=Cell.val<|.lst<|zA N<|B s;obtain⟨t,R⟩:=fO (f:=λk=>decide<|B s k≠0) (C.lt s d) (by rw[C.one s d];rfl) (λk U=>by rw[C.i9 s k d U];rfl);let Z:=Cell.val<|.lst<|((l s)::t).map λ(j:Nat)=>D.int j;have s1:bG (Γ s Y I .no)=bQ (.next<|Γ s Y Z .no):=by
    have g:zR (xH<|ze 2) (Γ s Y I .no)=bQ ((IS N).map λ(j:Nat)=>D.int j):=by have r:inR (N:Int)=dt:=wG ⋯ ⋯;rw[yf];show(if inR ((zA N<|B s).length:Int)=dt then bQ (kM 0 ((zA N<|B s).length:Int).toNat)else none)=_;rw[Zt,RY r,Mt,jv,zV]
    have o:zQ (.nm 0) FE (zc 0) [Cell.no,Y] ((IS N).map λ(j:Nat)=>D.int j)=bQ ((((l s)::t)).map λ(j:Nat)=>D.int j):=by rw[<- R];refine jy _ _ _ λk U=>⟨[.val (.int (k:Int)),Y],rfl,?_,λ_=>rfl⟩;have U:=IV.mp U;simp[FE,Y,tx,U,Zt]
    have w:((IS N).map λ(j:Nat)=>D.int (j:Int)).length<=lim:=by simp;omega
    unfold bG;rw[kc,xC,jG,g,IY,RY w,show z6 1 [2] (Γ s Y I .no)=[Cell.no,Y]from rfl,o];rfl
   have H:dy (ze 3) (zv<|.int 0) (Γ s Y Z .no)=bQ (.int (l s:Int)):=by simp[Γ,Z,f7]
   have s2:bF (Γ s Y Z .no)=bQ (.next<|Γ s Y Z .no):=by
    have x1:sB (zH iQ (zc 3)<|jA<|qm zD) (Γ s Y Z .no)=bQ ed:=by
     have ok:m9 (.lst<|((l s)::t).map λ(j:Nat)=>D.int j)=dt:=by
      have:=WH ((l s)::t).length λi=>((((l s)::t).getD i 0:Nat):Int);unfold zA at this;have e:((IS ((l s)::t).length).map λi=>D.int ((((l s)::t).getD i 0:Nat):Int))=((l s)::t).map λ(j:Nat)=>D.int j:=by
       conv=>rhs;rw[<- jg 0 ((l s)::t),LG]
       rfl
      rwa [e]at this
     have e:iQ (.lst<|((l s)::t).map λ(j:Nat)=>D.int j) (.lst [])=bQ (.bl ed):=by unfold iQ;rw[RY ⟨ok,rfl⟩];rfl
     rw[gL,yN];show((iQ (.lst<|((l s)::t).map λ(j:Nat)=>D.int j)<|.lst []).bind rd)=_;rw[e];rfl
    have G:sB (zH h9 (dy (ze 2)<|dy (ze 3)<|zv<|.int 0)<|zv<|.int 1) (Γ s Y Z .no)=bQ ed:=by
     have y:dy (ze 2) (dy (ze 3)<|zv<|.int 0) (Γ s Y Z .no)=bQ (.int 1):=by rw[xN,H];show((f7 (zA N<|B s).length (l s:Int)).bind λk=>(zA N<|B s)[k]?)=_;rw[Zt,jl,RY (C.lt s d)];show(zA N<|B s)[l s]? = _;rw[VH (C.lt s d),C.one s d]
     rw[gL,yN,y];rfl
    unfold bF;rw[QM,oV,x1,G];rfl
   have K:(ld s).length<lim:=by show(zA s _).length<lim;rw[Zt];omega
   have s3:bD (Γ s Y Z .no)=bQ (.next<|Γ (s+1) Y Z .no):=by
    unfold bD;rw[xD,H];show(if (ld s).length<lim then bQ (Fl.next [.val X,.own<|ld s++[.int (l s:Int)],Y,Z,.no])else none)=_;rw[RY K];have e:ld s++[.int (l s:Int)]=ld (s+1):=by show zA s _++_=zA (s+1) _;unfold zA;rw[MM,Mr];rfl
    rw[e]
   exact⟨_,.inl<|zk s1<|zk s2 s3,Y,Z,rfl⟩)
  refine⟨O,I,?_⟩;rw[e,vo,LV]
 obtain⟨O,I,A⟩:=A;have n:(ld q).length=q:=Zt _ _;have M0 : ∀{k:Nat},k<q->(ld q)[k]? = bQ (.int (l k:Int)):=λU=>VH U _;have E : ∃b,xU (vJ (zv<|.int 1)<|xH<|ze 1) (.nm 4) ux (Γ q O I .no)=bQ (.next<|Γ q O I b):=by
  have g:vJ (zv<|.int 1) (xH<|ze 1) (Γ q O I .no)=bQ ((Nx 1<|q - 1).map λ(j:Nat)=>D.int j):=by
   have W:inR 1=dt:=by decide
   have r2:inR (q:Int)=dt:=wG ⋯ ⋯;rw[gK];show(if inR 1=dt/\inR ((ld q).length:Int)=dt then bQ (kM 1 (((ld q).length:Int) - 1).toNat)else none)=_;rw[n,RY ⟨W,r2⟩,show((q:Int) - 1).toNat=q - 1 by omega,show(1:Int)=((1:Nat):Int)from rfl,Ib]
  rw[kT,g,IY];obtain⟨x,e,b,rfl⟩:=xW (T:= .nm 4) (F:=ux) (λ_ γ=>∃b,γ=Γ q O I b) ((Nx 1<|q - 1).map λ(j:Nat)=>D.int j) 0 (Γ q O I .no) ⟨_,rfl⟩ (by
   rintro s M γ m ⟨b,rfl⟩;rw[Lz]at m;obtain⟨k,S,rfl⟩:=SJ.mp m;have mk:=List.mem_range'_1.mp<|LJ S;have U:k<q:=by omega
   have lt:=C.mono (k - 1) k ⋯ U;have J : ¬((l k:Int)<=(l (k - 1):Int)):=by omega
   have x1:dy (ze 1) (zH Ja (zc 4)<|zv<|.int 1) (Γ q O I<|.val<|.int (k:Int))=bQ (.int (l (k - 1):Int)):=by
    have y:zH Ja (zc 4) (zv<|.int 1) (Γ q O I<|.val<|.int (k:Int))=bQ (.int ((k - 1:Nat):Int)):=by simp[Γ];omega
    rw[xN,y];show((f7 (ld q).length ((k - 1:Nat):Int)).bind λz=>(ld q)[z]?)=_;rw[n,jl,RY ⋯];exact M0 ⋯
   have G:dy (ze 1) (zc 4) (Γ q O I<|.val<|.int (k:Int))=bQ (.int (l k:Int)):=by rw[xN];show((f7 (ld q).length (k:Int)).bind λz=>(ld q)[z]?)=_;rw[n,jl,RY U];exact M0 U
   refine⟨Γ q O I<|.val<|.int (k:Int),.inl ?_,_,rfl⟩;show ux (Γ q O I<|.val<|.int (k:Int))=_;unfold ux;rw[QM,gL,yN,x1,G];simp[DT,dI,J])
  exact⟨b,e⟩
 obtain⟨b,E⟩:=E;obtain⟨x,sd,d4,rfl⟩:=qS (T:= .nm 4) (F:=Ei) (f:=xH<|ze 1) (λ_ γ=>∃b,γ=Γ q O I b) q ⋯ (γ:=Γ q O I b) (by show bQ (D.int ((ld q).length:Int))=_;rw[n]) ⟨_,rfl⟩ (by
  rintro k U γ ⟨b,rfl⟩;let a:=Cell.val<|.int (k:Int);let Γ':Ctx:=[.val X,.val<|.lst<|ld q,O,I,a];refine⟨Γ q O I a,Γ q O I a,rfl,?_,_,rfl⟩;let h:Nat->Int:=λs=>if s=k then 1 else 0;have P:fF Γ'=bQ (.lst<|zA q h):=by
   have o:zQ (.nm 0) jj (dy (ze 0)<|dy (ze 1)<|zc 2) [Cell.no,.val<|.lst<|ld q,a] (j6 q N B)=bQ (zA q h):=by
    unfold j6;rw[zV];refine zx _ _ λs d=>zy (γ1:=[.val (.lst<|zA N<|B s),.val<|.lst<|ld q,a]) rfl rfl ?_;have d:=IV.mp d;have y:dy (ze 1) (zc 2) [Cell.val (.lst<|zA N<|B s),.val<|.lst<|ld q,a]=bQ (.int (l k:Int)):=by rw[xN];show((f7 (ld q).length (k:Int)).bind λz=>(ld q)[z]?)=_;rw[n,jl,RY U];exact M0 U
    rw[xN,y];show((f7 (zA N<|B s).length (l k:Int)).bind λz=>(zA N<|B s)[z]?)=_;rw[Zt,jl,RY (C.lt k U)];show(zA N<|B s)[l k]? = _;rw[VH (C.lt k U)];show bQ (D.int<|B s<|l k)=bQ (D.int<|if s=k then 1 else 0);by_cases z:s=k
    ·rw[RY z,z,C.one k U]
    ·rw[EQ z,C.oe s k d U (λu=>z u.symm)]
   have w:(j6 q N B).length<=lim:=by rw[vo];omega
   unfold fF;rw[xC,jG,show zF (ze 0) Γ'=bQ (j6 q N B)from rfl,IY,RY w,show z6 1 [1,4] Γ'=[Cell.no,.val<|.lst<|ld q,a]from rfl,o];rfl
  have Q:fE Γ'=bQ (.lst<|zA q h):=by
   have g:zR (xH<|ze 1) Γ'=bQ ((IS q).map λ(j:Nat)=>D.int j):=by have r:inR (q:Int)=dt:=wG ⋯ ⋯;rw[yf];show(if inR ((ld q).length:Int)=dt then bQ (kM 0 ((ld q).length:Int).toNat)else none)=_;rw[n,RY r,Mt,jv,zV]
   have o:zQ (.nm 0) jj (QB<|zH iQ (zc 0)<|zc 1) [Cell.no,a] ((IS q).map λ(j:Nat)=>D.int j)=bQ (zA q h):=by
    rw[zV];refine zx _ _ λs d=>zy (γ1:=[.val (.int (s:Int)),a]) rfl rfl ?_;by_cases z:s=k
    ·simp[a,z,h]
    ·have z' : ¬((s:Int)=(k:Int)):=by omega
     simp[a,z,z',h]
   have w:((IS q).map λ(j:Nat)=>D.int (j:Int)).length<=lim:=by simp;omega
   unfold fE;rw[xC,jG,g,IY,RY w,show z6 1 [4] Γ'=[Cell.no,a]from rfl,o];rfl
  unfold Ei;rw[QM];have L:rH 1 (sB<|zH h9 fF fE) (Γ q O I a)=bQ ed:=by show(sB (zH h9 fF fE) Γ')=_;rw[gL,yN,P,Q];show((h9 (.lst<|zA q h)<|.lst<|zA q h).bind rd)=_;rw[wK (WH _ _)];rfl
  rw[L];rfl)
 rw[BV];exact jb<|zk sa<|zk A<|zk E<|zk sd rfl
end
theorem eE{hs ws:RZ}{a b:Nat}(C : ∀k,hs k<=a)(h2 : ∀k,ws k<=b) : ∀n,off hs ws n<=n*(a*b)
 | 0=>Ms _
 | n+1=>by have:=eE C h2 n;have:=Nat.mul_le_mul (C n)<|h2 n;show off hs ws n+hs n*ws n<=_;rw[OW];omega
theorem Xr{m:Nat}{bs:List (Int×Int)}(h : ∀b∈bs,Zy ((m+1:Nat):Int) b)(k:Nat):bW bs k=bs.countP λx=>decide (x.1<=(k:Int)) && decide ((k:Int)<=x.2):=by
 conv=>rhs;rw[gD h]
 rw[ON];unfold bW ft qj h6;rw[<- LW];refine MR λj I=>?_;have:=(bR h<|IV.mp I).2.1;unfold e9.has Ha;simp;omega
theorem GX{p:Int}{m:Nat}{w:RX}{bs:List (Int×Int)}{T:RV}{f:RV}(O:Pr p)(J:m<=3)(st : ∀b∈bs,Zy ((m+1:Nat):Int) b)(H : ∀k,bW bs k<=8)(U : ∀k i j,0<=T k i j/\T k i j<p)(C:ow p w (bW bs) T m bs.length λj=>XB p (bW bs) f<|Vz (bS bs) (bE bs) bs.length j)(le:bs.length<=3) : ∃F G,E5 p m w (bW bs) (kH bs) T F G:=by obtain⟨F,G,P⟩:=si O H (show m<=5 by omega) U C;rw[show kI (λj=>XB p (bW bs) f<|Vz (bS bs) (bE bs) bs.length j) bs.length=bs from mz st]at P;have a:=xJ bs;have I : ∀b∈kH bs,Zy ((m+1:Nat):Int) b:=λb d=>st b<|a.mem_iff.mp d;refine⟨F,G,P,I,λr e=>?_,by rw[a.length_eq];omega⟩;unfold m8;rw[ZU I];show bW (kH bs) r=_;rw[Xr I,Xr st];exact a.countP_eq _
theorem Ap:qY=jn 7 (zN CN<|zN (xU (zF<|zw<|zc 0) (.nm 6) uv)<|jM<|zC jX<|za CM zD):=rfl
section
variable{p:Int}{m:Nat}{w:RX}{wd1 wd2:RZ}{T1 T2:RV}
theorem pf{u v:Nat->Int}(h : ∀x,x<off wd2 wd1 (m+1)->u x=v x):Xw m wd1 wd2 u=Xw m wd1 wd2 v:=by unfold Xw fh;refine Ll λk I=>?_;have I:=IV.mp I;unfold jJ zX zA;refine congrArg (λL=>D.tup [.int (wd2 k:Int),.int (wd1 k:Int),.tup L])<|Ll λi a=>?_;refine congrArg D.tup<|Ll λj O=>?_;exact congrArg D.int<|h _<|bU I (IV.mp a)<|IV.mp O
theorem rK(L:Pr p)(hm:m<=4)(C : ∀k,wd1 k<=9)(H : ∀k,wd2 k<=9)(Z : ∀k i j,0<=T2 k i j/\T2 k i j<p)(hN:off wd2 wd1 (m+1)<=50){q:Nat}{B:Nat->Vc}{l:RZ}(J:g5 p (off wd2 wd1<|m+1) q B l)
 (sp : ∀v,Span p (off wd2 wd1<|m+1) (el q B) v↔t5 p (off (eK w wd2) (eX w wd1) m) (off wd2 wd1<|m+1) (YD p m w wd2 wd1 T2 T1) v) (Y:q<=1000) :
 qY [.lst ((IS q).map λs=>D.lst<|Xw m wd1 wd2<|B s),.int p,.str<|qb m w,qp m w wd1 T1,qp m w wd2 T2,.int (q:Int)]=bQ (.val<|.bl dt):=by
 have hl:=jm;have P:=L.pos;have Q:=L.le;let I:List D:=(IS q).map λs=>D.lst<|Xw m wd1 wd2<|B s;have U:I.length=q:=by simp[I]
 have y : ∀s,s<q->qv [.lst (Xw m wd1 wd2<|B s),.int p,.lst<|zA (m+1) λk=>(wd2 k:Int),.lst (zA (m+1) λk=>(wd1 k:Int))]=bQ (.val<|.bl dt)/\qP [.int p,.str<|qb m w,qp m w wd1 T1,qp m w wd2 T2,.lst (Xw m wd1 wd2<|B s)]=bQ (.val<|.bl dt):=λs hs=>by
  let u:Nat->Int:=λx=>if x<off wd2 wd1 (m+1)then B s x else 0;have g : ∀x,0<=u x/\u x<p:=λx=>by
   show 0<=(if x<off wd2 wd1 (m+1)then B s x else 0)/\(if x<off wd2 wd1 (m+1)then B s x else 0)<p;split
   ·next h=>exact J.ji s x hs h
   ·omega
  have e:Xw m wd1 wd2 (B s)=Xw m wd1 wd2 u:=pf λx O=>by show _=if _ then _ else _;rw[RY O]
  have d:s8 p m w wd1 wd2 T1 T2 (x6 wd2 wd1 u):=(sO u).mp ((sp u).mp ((Span.gen ⟨s,hs,rfl⟩:Span p _ (el q B) (B s)).congr λx O=>by show(if _ then _ else _)%p=_;rw[RY O]));rw[e];refine⟨Y3 (p:=p) (n:=m+1) ⋯ (hs:=wd2) (ws:=wd1) (λk=>by have:=H k;omega) (λk=>by have:=C k;omega) (X:=x6 wd2 wd1 u) λk i j=>g _,?_⟩;exact lQ P Q (show m<=5 by omega) (λk=>by have:=C k;omega) (λk=>by have:=H k;omega) (λk i j=>g _) Z d
 have z:je (qp m w wd1 T1)=bQ (.T,[.lst (zA (m+1) λk=>(wd1 k:Int)),.lst (ql m w wd1 T1)]):=rfl;have A:je (qp m w wd2 T2)=bQ (.T,[.lst (zA (m+1) λk=>(wd2 k:Int)),.lst (ql m w wd2 T2)]):=rfl;let Γ:Cell->Ctx:=λa=>[.val (.lst I),.val<|.int p,.val<|.str<|qb m w,.val<|qp m w wd1 T1,.val<|qp m w wd2 T2,.val<|.int (q:Int),a];have R:CN (Γ .no)=bQ (.next<|Γ .no):=by
  have ty:cf Ty.list (.lst I)=dt:=rfl;have x1:j8 (sB<|m3 .list<|zc 0) (Γ .no)=bQ ed:=by simp[Γ,ty]
  have S:sB (zH h9 (xH<|ze 0)<|zc 5) (Γ .no)=bQ ed:=by rw[gL,yN,show xH (ze 0) (Γ .no)=bQ (.int (q:Int))by show bQ (D.int (I.length:Int))=_;rw[U]];show((h9 (.int (q:Int))<|.int (q:Int)).bind rd)=_;simp
  unfold CN;rw[QM,oV,x1,S];rfl
 have f : ∃a,xU (zF<|zw<|zc 0) (.nm 6) uv (Γ .no)=bQ (.next<|Γ a):=by
  rw[kT,show zF (zw<|zc 0) (Γ .no)=bQ I from rfl,IY];obtain⟨γ',e,a,rfl⟩:=xW (T:= .nm 6) (F:=uv) (λ_ o=>∃a,o=Γ a) I 0 (Γ .no) ⟨_,rfl⟩ (by
   rintro s W o b ⟨a,rfl⟩;have hs:s<q:=by
    have:=(Lh.mp b).1
    rwa [U]at this
   have G:I[s]? = bQ (.lst<|Xw m wd1 wd2<|B s):=by simp[I,hs]
   rw[G]at b;cases b;obtain⟨r,t⟩:=y s hs;refine⟨Γ<|.val<|.lst<|Xw m wd1 wd2<|B s,.inl ?_,_,rfl⟩;show uv (Γ<|.val<|.lst<|Xw m wd1 wd2<|B s)=_;simp[uv,Γ,z,A,f7,r,t])
  exact⟨a,e⟩
 obtain⟨a,f⟩:=f;have E:CM (Γ a)=bQ (.lst<|j6 q (off wd2 wd1<|m+1) B):=by
  have M:zQ (.nm 0) jj (jA<|ja ki<|za (zc 0) zD) [Cell.no] I=bQ (j6 q (off wd2 wd1<|m+1) B):=by show zQ _ _ _ _ ((IS q).map λs=>D.lst<|Xw m wd1 wd2<|B s)=_;unfold j6;refine zx _ _ λs hs=>zy (γ1:=[.val (.lst<|Xw m wd1 wd2<|B s)]) rfl rfl ?_;have ld:=BC (n:=m+1) (hs:=wd2) (ws:=wd1) (T:=x6 wd2 wd1<|B s) ⋯;rw[bN λx O=>uG (hs:=wd2) (ws:=wd1) (B s) O]at ld;simp[ld]
  have N:I.length<=lim:=by rw[U];omega
  unfold CM;rw[xC,jG,show zF (ze 0) (Γ a)=bQ I from rfl,IY,RY N,show z6 1 [] (Γ a)=[Cell.no]from rfl,M];rfl
 have K:=fD J ⋯ Y;rw[Ap];refine jb<|zk (γ':=Γ .no) R<|zk f ?_;rw[wV,xj,z9,E];show((jX [.lst (j6 q (off wd2 wd1<|m+1) B)]).map Ya).map _=_;rw[K];rfl
end
theorem pq:J6=jn 13 (zN pF<|zN pE<|zN pD<|zN pC<|zN pB<|zN pA<|zN pz<|zN pw<|zN pv<|zN cC<|aL 11 12 il aw ay):=rfl
theorem WN : ∀C:List (List D),eW (C.map D.lst)=bQ C
 | []=>rfl
 | r::C=>by show(eW<|C.map D.lst).map _=_;rw[WN C];rfl
theorem Fz(C:List Int)(H:C.length<=63):J6 [Kz C]=bQ (.val<|.bl dt):=by
 have hl:=jm;obtain⟨e1,Y,b1⟩:=VN H (k:=0) ⋯ ⋯;generalize yc C 0=c at e1 Y b1;obtain⟨p,U,ep,be⟩:=AV Y;have E:=U.pos;have p7:=U.le;obtain⟨m,em,hm⟩ : ∃m:Nat,1+c/4%4=1+(m:Int)/\m<=3:=⟨(c/4%4).toNat,by omega,by omega⟩;obtain⟨n1,bg,co⟩ : ∃n:Nat,c/512%4=(n:Int)/\n<=3:=⟨(c/512%4).toNat,by omega,by omega⟩;obtain⟨n2,bi,cq⟩ : ∃n:Nat,c/2048%4=(n:Int)/\n<=3:=⟨(c/2048%4).toNat,by omega,by omega⟩;obtain⟨w,ew⟩:=uH (c:=c/16) ⋯ (m:=m) ⋯;have bn:((m+1:Nat):Int)=1+(m:Int):=by omega
 obtain⟨d,s1,y,l1⟩:=Jt H (t:=1) ⋯ ⋯ (r:=m+1) (n:=n1) ⋯ ⋯ ⋯;obtain⟨e,s2,z,l2⟩:=Jt H (t:=4) ⋯ ⋯ (r:=m+1) (n:=n2) ⋯ ⋯ ⋯;rw[bn]at s1 s2;obtain⟨f1,g1,Z,as⟩:=An (w:=w) H U (show m<=5 by omega) (show d.length<=16 by omega) y (a:=8) ⋯ ⋯;obtain⟨f2,g2,b0,b5⟩:=An (w:=w) H U (show m<=5 by omega) (show e.length<=16 by omega) z (a:=50) ⋯ ⋯;have u : ∀k,bW d k<=3:=λk=>by have:=Ci d k;omega
 have x : ∀k,bW e k<=3:=λk=>by have:=Ci e k;omega
 let T1:=yk (p:Int) w (bW d) f1 g1<|bT w d;let T2:=yk (p:Int) w (bW e) f2 g2<|bT w e;have b6 : ∀k i j,0<=T1 k i j/\T1 k i j<(p:Int):=λk i j=>V7 E w (bW d) f1 g1 (bT w d) k i j;have b7 : ∀k i j,0<=T2 k i j/\T2 k i j<(p:Int):=λk i j=>V7 E w (bW e) f2 g2 (bT w e) k i j;obtain⟨F1,G1,S⟩:=GX U hm y (λk=>by have:=u k;omega) b6 (KJ E (λr N=>(Z r ⋯).fg) (λr N=>(Z r ⋯).gf)<|WU (p:=(p:Int)) (w:=w) (m:=m) U λj L=>(bR y L).2) (show d.length<=3 by omega);obtain⟨F2,G2,X⟩:=GX U hm z (λk=>by have:=x k;omega) b7 (KJ E (λr N=>(b0 r ⋯).fg) (λr N=>(b0 r ⋯).gf)<|WU (p:=(p:Int)) (w:=w) (m:=m) U λj L=>(bR z L).2) (show e.length<=3 by omega);have hN:off (bW e) (bW d) (m+1)<=36:=Mj (eE x u<|m+1) ⋯;have hR:off (eK w<|bW e) (eX w<|bW d) m<=27:=Mj (eE (a:=3) (b:=3) (λk=>by rw[<- qD];exact x _) (λk=>by rw[<- qH];exact u _) m) ⋯;obtain⟨q,B,l,F,A,R⟩:=Vd (w:=w) (wd1:=bW d) (wd2:=bW e) (T1:=T1) (T2:=T2) U (show m<=4 by omega) (λk=>by have:=u k;omega) (λk=>by have:=x k;omega) b6 ⋯ ⋯;have dq:=FS U S X A R;have qN:q<=36:=Mj (XO A) hN;have Q:=rK (w:=w) (T1:=T1) U (show m<=4 by omega) (λk=>by have:=u k;omega) (λk=>by have:=x k;omega) b7 ⋯ A R ⋯;have ct:=tL (w:=w) (show m<=5 by omega) y z ⋯ ⋯;have bt:w4 ((kH d).map λb=>w4<|(kH e).map λc=>r9 w b c)=w4 (d.map λb=>w4<|e.map λc=>r9 w b c):=by rw[Jp ((xJ d).map _)];exact congrArg w4<|Ll λb _=>Jp<|(xJ e).map _
 rw[bt]at dq;rw[<- dq]at ct;have bu:=WX (p:=(p:Int)) (show m<=4 by omega) w (wd:=bW d) (λk=>by have:=u k;omega) T1;have bv:=WX (p:=(p:Int)) (show m<=4 by omega) w (wd:=bW e) (λk=>by have:=x k;omega) T2;have bx:qO [Kz C,.int 8,.int p,.str<|qb m w,.lst (jq d)]=bQ (.val<|qp m w (bW d) T1):=as;have c0:qO [Kz C,.int 50,.int p,.str<|qb m w,.lst (jq e)]=bQ (.val<|qp m w (bW e) T2):=b5;let f:List (List D):=(IS q).map λs=>Xw m (bW d) (bW e)<|B s;have er:((IS q).map λs=>D.lst<|Xw m (bW d) (bW e)<|B s)=f.map D.lst:=by show _=((IS q).map _).map _;rw[LG];rfl
 rw[er]at F Q;clear S X A R as b5;generalize qp m w (bW d) T1=O at *;generalize qp m w (bW e) T2=U2 at *;generalize jh (p:Int) m w (bW d) T1=R1 at *;generalize jh (p:Int) m w (bW e) T2=R2 at *
 clear_value f
 let γ:Cell->Cell->Cell->Cell->Cell->Cell->Cell->Cell->Cell->Cell->Cell->Ctx:=λc2 c3 c4 c5 c6 c7 c8 c9 G J K=>[.val (Kz C),.val<|.int c,c2,c3,c4,c5,c6,c7,c8,c9,G,J,K];let P:=Cell.val<|.int p;let M:=Cell.val<|.int<|1+(m:Int);let W:=Cell.val<|.str<|qb m w;let g:=Cell.val<|.lst<|jq d;let h:=Cell.val<|.lst<|jq e;let I:=Cell.val<|.int (q:Int);let o:=Cell.val<|.tup [R1,R2];have sx:je (.tup [R1,R2])=bQ (.T,[R1,R2]):=rfl;have cd:2<=lim:=by omega
 have ce:aL 11 12 il aw ay (γ P M W g h (.val O) (.val U2) I o .no .no)=bQ (.ret<|.val<|.bl dt):=by
  have hf:il (γ P M W g h (.val O) (.val U2) I o .no .no)=bQ f:=by show((za (dy (ze 10)<|zv<|.int 0) (za (dy (ze 10)<|zv<|.int 1) zD)<|γ P M W g h (.val O) (.val U2) I o .no .no).bind λds=>(xk ds).bind Bz)=_;rw[show za (dy (ze 10)<|zv<|.int 0) (za (dy (ze 10)<|zv<|.int 1) zD) (γ P M W g h (.val O) (.val U2) I o .no .no)=bQ [R1,R2]from rfl,IY,F];exact WN f
  have ht:aw (γ P M W g h (.val O) (.val U2) I o (.val<|.lst<|f.map D.lst) .no)=bQ ed:=by simp[aw,γ,P,W,I,Q]
  have hg:ay (γ P M W g h (.val O) (.val U2) I o (.val<|.lst []) .no)=bQ (.ret<|.val<|.bl dt):=by simp[ay,γ,P,W,I,o,f7,F,Q]
  unfold aL;rw[RY ⟨rfl,⟨(show 11<13 by decide),(show 12<13 by decide)⟩,(show(11:Nat)≠12 by decide)⟩,hf,IY];show((aw<|γ P M W g h (.val O) (.val U2) I o (.val<|.lst<|f.map D.lst) .no).bind λb=>if b=dt then bQ (Fl.ret<|.val<|.bl ed)else ay (γ P M W g h (.val O) (.val U2) I o (.val<|.lst []) .no))=_;rw[ht,IY,EQ ⋯];exact hg
 rw[pq];refine jb<|zk (γ':=γ .no .no .no .no .no .no .no .no .no .no .no) (by simp[pF,z7,e1,γ])<|zk (γ':=γ P .no .no .no .no .no .no .no .no .no .no) (by simp[pE,γ,be,ep,P])<|zk (γ':=γ P M .no .no .no .no .no .no .no .no .no) (by simp[pD,γ,em,P,M])<|zk (γ':=γ P M W .no .no .no .no .no .no .no .no) (by simp[pC,γ,ew,W,P,M])<|zk (γ':=γ P M W g .no .no .no .no .no .no .no) (by simp[pB,γ,bg,s1,g,P,M,W])<|zk (γ':=γ P M W g h .no .no .no .no .no .no) (by simp[pA,γ,bi,s2,g,h,P,M,W])<|zk (γ':=γ P M W g h (.val O) .no .no .no .no .no) (by simp[pz,γ,P,M,W,g,bx])<|zk (γ':=γ P M W g h (.val O) (.val U2) .no .no .no .no) (by simp[pw,γ,P,M,W,h,c0])<|zk (γ':=γ P M W g h (.val O) (.val U2) I .no .no .no) (by simp[pv,γ,W,g,h,I,ct])<|zk (γ':=γ P M W g h (.val O) (.val U2) I o .no .no) (by simp[cC,γ,P,W,o,bu,bv,cd]) ce
open PySem.Spec PyProof.Rows
noncomputable def top(i:Nat):PySem.Stmt:=PySem.Challenge.pw_barsplit_k36_a_base_of_ways.main.body.getD i<|.Pass ⟨0,0,0,0⟩
section
variable{CR CL:PySem.Addr}{P:PySem.Program}{w:PySem.World}{K:IT}{mg:PySem.Str->Option PySem.Value}{base:PySem.Heap}
theorem QK(h:us.length=n+1) : ∃a t,us=a::t/\t.length=n:=by
 cases us with
 | nil=>exact absurd h<|Nat.zero_ne_add_one n
 | cons a t=>exact⟨a,t,rfl,Nat.succ.inj h⟩
theorem Ik(h:us.length=1) : ∃a,us=[a]:=by obtain⟨a,O,rfl,I⟩:=QK h;rw[LU I];exact⟨a,rfl⟩
theorem Ij(h:us.length=2) : ∃a b,us=[a,b]:=by obtain⟨a,O,rfl,I⟩:=QK h;obtain⟨b,U,rfl,d⟩:=QK I;rw[LU d];exact⟨a,b,rfl⟩
theorem IP(h:us.length=3) : ∃a b c,us=[a,b,c]:=by obtain⟨a,O,rfl,I⟩:=QK h;obtain⟨b,U,rfl,d⟩:=QK I;obtain⟨c,f,rfl,e⟩:=QK d;rw[LU e];exact⟨a,b,c,rfl⟩
theorem IM(h:us.length=4) : ∃a b c d,us=[a,b,c,d]:=by obtain⟨a,U,rfl,I⟩:=QK h;obtain⟨b,g,rfl,e⟩:=QK I;obtain⟨c,i,rfl,f⟩:=QK e;obtain⟨d,j,rfl,O⟩:=QK f;rw[LU O];exact⟨a,b,c,d,rfl⟩
theorem IL{H:Type}{C:List H}(h:C.length=5) : ∃a b c d e,C=[a,b,c,d,e]:=by obtain⟨a,i,rfl,I⟩:=QK h;obtain⟨b,j,rfl,f⟩:=QK I;obtain⟨c,k,rfl,g⟩:=QK f;obtain⟨d,l,rfl,O⟩:=QK g;obtain⟨e,m,rfl,U⟩:=QK O;rw[LU U];exact⟨a,b,c,d,e,rfl⟩
theorem IK{H:Type}{C:List H}(h:C.length=6) : ∃a b c d e f,C=[a,b,c,d,e,f]:=by obtain⟨a,k,rfl,I⟩:=QK h;obtain⟨b,l,rfl,g⟩:=QK I;obtain⟨c,m,rfl,i⟩:=QK g;obtain⟨d,n,rfl,O⟩:=QK i;obtain⟨e,o,rfl,U⟩:=QK O;obtain⟨f,p,rfl,j⟩:=QK U;rw[LU j];exact⟨a,b,c,d,e,f,rfl⟩
structure E0(K:IT)(mg:PySem.Str->Option PySem.Value):Prop where
 Q0:hL K mg "_law_cell" (top 38) ["_law_script","_law_k"]
 Q1:hL K mg "_law_ways" (top 42) ["_law_cell_here","_law_rooms"]
 Q2:hL K mg "_law_stretches" (top 41) ["_law_script","_law_at","_law_many","_law_rooms"]
 Q3:hL K mg "_law_ends" (top 40) ["_law_ways_here","_law_k"]
 Q4:hL K mg "_law_bar_tables" (top 44) ["_law_ways_here","_law_bars"]
 Q5:hL K mg "_law_times" (top 43) ["_law_p","_law_one","_law_other","_law_wide"]
 Q6:hL K mg "_law_turn" (top 45) ["_law_script","_law_at","_law_p","_law_size"]
 Q7:hL K mg "_law_row" (top 46) ["_law_script","_law_at","_law_p","_law_ways_here","_law_bars"]
 Q8:hL K mg "_law_bar_to_bar" (top 51) ["_law_ways_here","_law_one","_law_other"]
 Q9:hL K mg "_law_count" (top 52) ["_law_ways_here","_law_ones","_law_others"]
 Qa:hL K mg "ways_of" (top 23) ["row"]
 Qb:hL K mg "one_kind" (top 24) ["one","other"]
 Qc:hL K mg "ask_one_kind" (top 25) ["one","other"]
 Qd:hL K mg "room_sizes" (top 28) ["one","other"]
 Qe:hL K mg "numbers_in" (top 30) ["sizes"]
 Qf:hL K mg "tables_in" (top 32) ["sizes","load"]
 Qg:hL K mg "behind_noughts" (top 17) ["many","base"]
 Qh:hL K mg "rests" (top 6) ["p","numbers"]
 Qi:hL K mg "inverse" (top 7) ["p","x"]
 Qj:hL K mg "cleared" (top 15) ["p","load","pivot","place"]
 Qk:hL K mg "base_of" (top 16) ["p","long","loads"]
 Ql:hL K mg "turned_over" (top 12) ["table"]
 Qm:hL K mg "same_table" (top 13) ["many"]
 Qn:hL K mg "led_into" (top 18) ["p","table","base"]
 Qo:hL K mg "kernel" (top 19) ["p","table"]
 Qp:hL K mg "written" (top 31) ["tables"]
 Qq:hL K mg "led" (top 8) ["p","table","load"]
 Qr:hL K mg "product" (top 9) ["p","one","other"]
 Qs:hL K mg "added_times" (top 10) ["p","one","much","other"]
 Qt:hL K mg "less" (top 11) ["p","one","other"]
 Qu:hL K mg "end_of" (top 22) ["k","way"]
 Qv:hL K mg "beginning_of" (top 21) ["k","way"]
 Qw:hL K mg "gap" (top 33) ["one","other","tables","k"]
 Qx:hL K mg "gaps" (top 34) ["one","other","tables"]
 Qy:hL K mg "arrow_sizes" (top 29) ["one","other"]
 Qz:hL K mg "gaps_table" (top 35) ["one","other"]
 SM:hL K mg "ways_base" (top 36) ["one","other"]
 Tw:hL K mg "_law_in_form" (top 54) ["_law_loads"]
 Tx:hL K mg "_law_load" (top 53) ["_law_way"]
 Tz:hL K mg "_law_whole" (top 39) ["_law_found"]
 TC:hL K mg "_law_is_table" (top 48) ["_law_found","_law_p","_law_high","_law_wide"]
 TF:hL K mg "_law_are_tables" (top 49) ["_law_found","_law_p","_law_highs","_law_wides"]
 TH:hL K mg "_law_passes" (top 50) ["_law_p","_law_ways_here","_law_one","_law_other","_law_tables"]
 TJ:hL K mg "_law_right" (top 55) ["_law_found","_law_p","_law_ways_here","_law_one","_law_other","_law_due"]
 TK:hL K mg "_law_handed" (top 47) ["_law_p","_law_ways_here","_law_row_here"]
 TL:hL K mg "law" (top 56) ["_law_script"]
 Z0:mg "len" = none
 Z1:mg "min" = none
 Z2:mg "range" = none
 Z3:mg "sorted" = none
 Z4:mg "int" = none
 Z5:mg "sum" = none
 Z6:mg "zip" = none
 Z7:mg "max" = none
 Z8:mg "list" = none
 Z9:mg "tuple" = none
 Za:mg "any" = none
 Zb:mg "enumerate" = none
 Zc:mg "bool" = none
 Zd:mg "isinstance" = none
 Ze:mg "all" = none
 G0:GL K mg "MOST_NUMBERS" (.int 60)
theorem vN(E:E0 K mg):hG P w K mg base 1 "_law_cell" 2 jB:=
 kJ (N:=["_law_script","_law_k","_law_cell_here","_law_turn_here","_law_given"]) E.Q0 ⋯ λX O d U b a I e=>by subst O d U b a;exact by refine zh (qJ (ZN (Vj (Yf (qV I ⋯ E.Z0 (jc I)) zo) (XQ (ZE I (qI (zL (jc I) zo) zo) zo)))) (by refine zh (j9 I (zL (jc I) (qz zo (qI (zB I) (vy (qV I ⋯ E.Z0 (jc I)) zo))))) ?_;refine zh (qK e I (jk I ⋯ E.Z2 (nZ I ⋯ E.Z1 zo (vz (zB I) (vy (qV I ⋯ E.Z0 (jc I)) zo)))) (zt (j9 I (vz (zB I) (dg zo zo))))) ?_;exact(zt (zT (qI (zB I) (dg zo zo))))) jw) ?_;refine zh (j9 I (zB I)) ?_;refine zh (qJ (Yf (qV I ⋯ E.Z0 (jc I)) zo) (zt (j9 I (zL (jc I) (qI (zB I) (qV I ⋯ E.Z0 (jc I)))))) jw) ?_;exact(zt (zT (qI (xn (qI (qz (qz (qz (xn (qI (zB I) (dg zo zo)) zo) (xn (xn zo (zB I)) (zB I))) (xn zo (zB I))) zo) zo) zo) zo)))
theorem JH(E:E0 K mg):hG P w K mg base 1 "_law_ways" 2 xR:=
 kJ (N:=["_law_cell_here","_law_rooms"]) E.Q1 ⋯ λX O e U d b I f=>by subst O e U d b;exact zt (zT (dh QU (PO.q (qX I (i4.c (jk I ⋯ E.Z2 (vy (zB I) zo))) (λ_ _ _ a=>XR QU (qI (vz (zB a) (zL (PO.q (xx (yt (zb zo (zb zo (zb zo (zb zo (zb zo zm)))))))) (zB a))) zo))))))
theorem yK(E:E0 K mg):hG P w K mg base 2 "_law_stretches" 4 qM:=
 kJ (N:=["_law_script","_law_at","_law_many","_law_rooms","_law_some","_law_k","_law_cell_here","_law_i"]) E.Q2 ⋯ λX O d U b a I e=>by subst O d U b a;exact by refine zh (k9 I (xx (yt zm))) ?_;refine zh (qK e I (jk I ⋯ E.Z2 (zB I)) (by refine zh (j9 I (jr (vN E) I (zb (zB I) (zb (qz (zB I) (zB I)) zm)))) ?_;refine zh (j9 I (qI (zB I) (zB I))) ?_;exact(zt (yq 4 I ⋯ (xm (yt (zb (zB I) (zb (qz (zB I) (qI (vz (zB I) (zB I)) (vy (zB I) (zB I)))) zm)))))))) ?_;exact(zt (kN (lE I ⋯ E.Z3 (jc I))))
theorem xK(E:E0 K mg):hG P w K mg base 1 "_law_ends" 2 jT:=
 kJ (N:=["_law_ways_here","_law_k"]) E.Q3 ⋯ λX O d U b a I e=>by subst O d U b a;exact by refine zh (qJ (ZE I (XR (zB I) (zB I)) QU) (zt (zT (xm (yt (zb (zB I) (zb (qz (zB I) zo) zm)))))) jw) ?_;exact(zt (zT (xm (yt (zb (qz (zB I) zo) (zb (zB I) zm))))))
theorem Zm(E:E0 K mg):hG P w K mg base 2 "_law_bar_tables" 2 qA:=
 kJ (N:=["_law_ways_here","_law_bars","_law_numbered","_law_room","_law_tables","_law_k","_law_begin","_law_end"]) E.Q4 ⋯ λX U g d f e I O=>by subst U g d f e;exact by refine zh (k9 I (xx (yt zm))) ?_;refine zh (qK O I (jk I ⋯ E.Z2 (qz (JD I ⋯ E.Z0 (zB I)) zo)) (zt (yq 2 I ⋯ (PO.v (AU I (i4.c (jk I ⋯ E.Z2 (qV I ⋯ E.Z0 (jc I)))) (λ_ _ _ a=>du dX dX K5 K5 (zL (PV.q (zL (jc a) (zB a))) zo) (zB a) (zL (PV.q (zL (jc a) (zB a))) zo)) (λ_ _ _ a=>zB a)))))) ?_;exact(by refine zh (XX 2 (k9 I (xx (yt zm)))) ?_;exact(by refine zh (qK O I (jk I ⋯ E.Z2 (JD I ⋯ E.Z0 (zB I))) (by refine zh (vj (uq I) (jr (xK E) I (zb (zB I) (zb (zB I) zm)))) ?_;exact(zt (yq 4 I ⋯ (PO.v (qX I (jF (PV.q (zL (jc I) (zB I)))) (λ_ _ _ a=>PO.v (qX a (jF (PV.q (zL (jc a) (zB a)))) (λ_ _ _ b=>XS b ⋯ E.Z4 (aP b (zB b) (zB b))))))))))) ?_;exact(zt (XX 4 (zT (xm (yt (zb (PO.v (qX I (jF (jc I)) (λ_ _ _ a=>qV a ⋯ E.Z0 (jc a)))) (zb (zB I) zm)))))))))
theorem xA(E:E0 K mg):hG P w K mg base 1 "_law_times" 4 z5:=
 kJ (N:=["_law_p","_law_one","_law_other","_law_wide","_law_rows","_law_row_here"]) E.Q5 ⋯ λX O f U e d I g=>by subst O f U e d;exact by refine zh (k9 I (xx (yt zm))) ?_;refine zh (qK g I (k0 (zB I)) (zt (yq 4 I ⋯ (PO.v (qX I (i4.c (jk I ⋯ E.Z2 (zB I))) (λ_ _ _ a=>qI (Ye a ⋯ E.Z5 (PO.q (qX a (i4.c (jk a ⋯ E.Z2 (qV a ⋯ E.Z0 (jc a)))) (λ_ _ _ b=>xn (zL (jc b) (zB b)) (zL (PV.q (zL (jc b) (zB b))) (zB b)))))) (zB a))))))) ?_;exact(zt (vk 4 (I.var ⋯)))
theorem QF(E:E0 K mg):hG P w K mg base 2 "_law_turn" 4 qu:=
 kJ (N:=["_law_script","_law_at","_law_p","_law_size","_law_turn_here","_law_back","_law_k","_law_cell_here","_law_i","_law_j","_law_times_here","_law_row_here"]) E.Q6 ⋯ λX U g d f e I O=>by subst U g d f e;exact by refine zh (Wv 4 (QD I (i4.c (jk I ⋯ E.Z2 (zB I))) (λ_ _ _ a=>PO.v (qX a (i4.c (jk a ⋯ E.Z2 (zB a))) (λ_ _ _ b=>XS b ⋯ E.Z4 (aP b (zB b) (zB b))))))) ?_;refine zh (AM I (i4.c (jk I ⋯ E.Z2 (zB I))) (λ_ _ _ a=>qX a (i4.c (jk a ⋯ E.Z2 (zB a))) (λ_ _ _ b=>XS b ⋯ E.Z4 (aP b (zB b) (zB b))))) ?_;refine zh (qK O I (jk I ⋯ E.Z2 (vy (xn zo (zB I)) zo)) (by refine zh (j9 I (jr (vN E) I (zb (zB I) (zb (qz (zB I) (zB I)) zm)))) ?_;refine zh (j9 I (qI (zB I) (zB I))) ?_;refine zh (j9 I (qI (qz (qz (zB I) zo) (qI (vz (zB I) zo) (vy (zB I) zo))) (zB I))) ?_;refine zh (j9 I (qI (vz (zB I) zo) (zB I))) ?_;refine zh (dz 4 I ⋯ (zB I) (PO.v (qX I (i4.c (QX I ⋯ E.Z6 (zL (jc I) (zB I)) (zL (jc I) (zB I)))) (λ_ _ _ a=>qI (qz (zB a) (xn (zB a) (zB a))) (zB a))))) ?_;exact(zt (aR 5 11 (dR O) I.calm I ⋯ ⋯ (I.C8 11 ⋯) (zB I) (qI (vy (zL (jc I) (zB I)) (xn (zB I) (zL (jc I) (zB I)))) (zB I)))))) ?_;exact(zt (lA 5 (XX 4 (zT (xm (yt (zb (zB I) (zb (zB I) zm))))))))
theorem wu(E:E0 K mg):hG P w K mg base 3 "_law_row" 5 qO:=
 kJ (N:=["_law_script","_law_at","_law_p","_law_ways_here","_law_bars","_law_widths","_law_tables","_law_turns","_law_k","_law_made","_law_begin","_law_end","_law_half"]) E.Q7 ⋯ λX U e a d b I O=>by subst U e a d b;exact by refine zh (vj (uq I) (jr (Zm E) I (zb (zB I) (zb (zB I) zm)))) ?_;refine zh (k9 I (xx (yt zm))) ?_;refine zh (qK O I (jk I ⋯ E.Z2 (qV I ⋯ E.Z0 (jc I))) (zt (yq 7 I ⋯ (jr (QF E) I (zb (zB I) (zb (qz (zB I) (xn zo (zB I))) (zb (zB I) (zb (zL (jc I) (zB I)) zm)))))))) ?_;refine zh (k9 I (xx (yt zm))) ?_;refine zh (qK O I (jk I ⋯ E.Z2 (JD I ⋯ E.Z0 (zB I))) (by refine zh (vj (uq I) (jr (xK E) I (zb (zB I) (zb (zB I) zm)))) ?_;refine zh (j9 I (PO.v (kZ (xA E) I (zb (zB I) (zb (zL (jc I) (zB I)) (zb (zL (PV.q (zL (jc I) (zB I))) zo) (zb (zL (jc I) (zB I)) zm))))))) ?_;exact(zt (yq 9 I ⋯ (PO.v (kZ (xA E) I (zb (zB I) (zb (zL (PV.q (zL (jc I) (zB I))) zo) (zb (zB I) (zb (zL (jc I) (zB I)) zm)))))))))) ?_;exact(zt (XX 9 (zT (xm (yt (zb (zB I) (zb (zB I) zm)))))))
theorem Zl(E:E0 K mg):hG P w K mg base 2 "_law_bar_to_bar" 3 jz:=
 kJ (N:=["_law_ways_here","_law_one","_law_other","_law_low","_law_high","_law_k","_law_here","_law_there","_law_out"]) E.Q8 ⋯ λX O d U b a I e=>by subst O d U b a;exact by refine zh (j9 I (AC I ⋯ E.Z7 (zL (jc I) zo) (zL (jc I) zo))) ?_;refine zh (j9 I (nZ I ⋯ E.Z1 (zL (jc I) zo) (zL (jc I) zo))) ?_;refine zh (qJ (Yf (zB I) (zB I)) (zt (zT zo)) jw) ?_;refine zh (qK e I (k0 (PO.v (xx (yt (zb (xm (yt (zb (vy (zB I) zo) (zb (AD (zL (jc I) zo) (zB I)) (zb (AD (zL (jc I) zo) (zB I)) zm))))) (zb (xm (yt (zb (zB I) (zb (AF (zL (jc I) zo) (zB I)) (zb (AF (zL (jc I) zo) (zB I)) zm))))) zm)))))) (zt (qJ (ZN (k8 (qo (zB I)) (yp (qo (zB I))))) (by refine zh (j9 I (Wu (AE (zL (PV.q (jr (xK E) I (zb (zB I) (zb (zB I) zm)))) zo) (PO.q (xx (yt (zb (zB I) (zb (zB I) zm)))))) (Wr (Ws dX dX K5 K5 (zB I) (zL (PV.q (jr (xK E) I (zb (zB I) (zb (zB I) zm)))) zo) (zB I))))) ?_;exact(zt (qJ (ZN (k8 (ZN (Vj (qo (zB I)) (XQ (xh (qo (zB I)))))) (yp (ZN (Vj (qo (zB I)) (XQ (qo (zB I)))))))) (zt (zT zo)) jw))) jw))) ?_;exact(zt (zT zo))
theorem Yn(E:E0 K mg):hG P w K mg base 3 "_law_count" 3 yH:=
 kJ (N:=["_law_ways_here","_law_ones","_law_others"]) E.Q9 ⋯ λX O f U e d I g=>by subst O f U e d;exact zt (zT (Ye I ⋯ E.Z5 (PO.q (qX I (jF (jc I)) (λ_ _ _ b=>Ye b ⋯ E.Z5 (PO.q (qX b (jF (jc b)) (λ_ _ _ a=>jr (Zl E) a (zb (zB a) (zb (zB a) (zb (zB a) zm)))))))))))
theorem Zj(E:E0 K mg):hG P w K mg base 1 "ways_of" 1 kA:=
 kJ (N:=["row"]) E.Qa ⋯ λX O e U d b I f=>by subst O e U d b;exact zt (zT (dh QU (PO.q (qX I (jF (PV.q (zL (jc I) zo))) (λ_ _ _ a=>zL (jc a) zo)))))
theorem Vp(E:E0 K mg):hG P w K mg base 2 "one_kind" 2 kr:=
 kJ (N:=["one","other"]) E.Qb ⋯ λX O d U b a I e=>by subst O d U b a;exact zt (zT (Wu (aP I (zL (jc I) zo) (zL (jc I) zo)) (Wr (aP I (jr (Zj E) I (zb (zB I) zm)) (jr (Zj E) I (zb (zB I) zm))))))
theorem y8(E:E0 K mg):hG P w K mg base 3 "ask_one_kind" 2 xT:=
 kJ (N:=["one","other"]) E.Qc ⋯ λX O d U b a I e=>by subst O d U b a;exact zt (qJ (xh (qo (jr (Vp E) I (zb (zB I) (zb (zB I) zm))))) (zt wj) jw)
theorem yu(E:E0 K mg):hG P w K mg base 1 "room_sizes" 2 xZ:=
 kJ (N:=["one","other"]) E.Qd ⋯ λX O d U b a I e=>by subst O d U b a;exact zt (kN (lF I ⋯ E.Z8 ⋯ E.Z6 (zL (jc I) zo) (zL (jc I) zo)))
theorem kf(E:E0 K mg):hG P w K mg base 1 "numbers_in" 1 j5:=
 kJ (N:=["sizes"]) E.Qe ⋯ λX O e U d b I f=>by subst O e U d b;exact zt (zT (Ye I ⋯ E.Z5 (PO.q (qX I (jF (jc I)) (λ_ _ _ a=>xn (zB a) (zB a))))))
theorem yX(E:E0 K mg):hG P w K mg base 1 "tables_in" 2 qt:=
 kJ (N:=["sizes","load","made","begin","high","wide","lines"]) E.Qf ⋯ λX O e U d b I f=>by subst O e U d b;exact by refine zh (k9 I (xx (yt zm))) ?_;refine zh (j9 I zo) ?_;refine zh (qK f I (k0 (zB I)) (by refine zh (xw 6 (QD I (i4.c (jk I ⋯ E.Z2 (zB I))) (λ_ _ _ a=>df (zB a) (X0 (qz (zB a) (xn (zB a) (zB a)))) (X0 (qz (zB a) (xn (qz (zB a) zo) (zB a))))))) ?_;refine zh (yq 2 I ⋯ (xm (yt (zb (zB I) (zb (zB I) (zb (qE I ⋯ E.Z9 (jc I)) zm)))))) ?_;exact(zt (j9 I (qz (zB I) (xn (zB I) (zB I))))))) ?_;exact(zt (vk 2 (I.var ⋯)))
theorem Zn(E:E0 K mg):hG P w K mg base 1 "behind_noughts" 2 jY:=
 kJ (N:=["many","base"]) E.Qg ⋯ λX O e U d b I f=>by subst O e U d b;exact zt (kN (AU I (jF (jc I)) (λ_ _ _ a=>xh (qo (AH a ⋯ E.Za (PV.q (df (zB a) dQ (X0 (zB a))))))) (λ_ _ _ a=>df (zB a) (X0 (zB a)) dQ)))
theorem wt(E:E0 K mg):hG P w K mg base 1 "rests" 2 xO:=
 kJ (N:=["p","numbers"]) E.Qh ⋯ λX O e U d b I f=>by subst O e U d b;exact zt (zT (qE I ⋯ E.Z9 (PO.q (qX I (jF (jc I)) (λ_ _ _ a=>qI (zB a) (zB a))))))
theorem ba(E:E0 K mg):hG P w K mg base 1 "inverse" 2 wZ:=
 kJ (N:=["p","x","y"]) E.Qi ⋯ λX O d U b a I e=>by subst O d U b a;exact by refine zh (qK e I (WA I ⋯ E.Z2 zo (zB I)) (zt (qJ (ZE I (qI (xn (zB I) (zB I)) (zB I)) zo) (zt (vk 2 (I.var ⋯))) jw))) ?_;exact(zt wj)
theorem Xa(E:E0 K mg):hG P w K mg base 2 "cleared" 4 qZ:=
 kJ (N:=["p","load","pivot","place","much"]) E.Qj ⋯ λX O e U d b I f=>by subst O e U d b;exact by refine zh (j9 I (zL (jc I) (zB I))) ?_;refine zh (qJ (ZE I (zB I) zo) (zt (vk 1 (I.var ⋯))) jw) ?_;exact(zt (zT (jr (wt E) I (zb (zB I) (zb (PO.v (qX I (i4.c (QX I ⋯ E.Z6 (zB I) (zB I))) (λ_ _ _ a=>vy (zB a) (xn (zB a) (zB a))))) zm)))))
theorem bc(E:E0 K mg):hG P w K mg base 3 "base_of" 3 q8:=
 kJ (N:=["p","long","loads","left","base","place","leading","times","pivot"]) E.Qk ⋯ λX O e U d b I f=>by subst O e U d b;exact by refine zh (xw 3 (QD I (jF (jc I)) (λ_ _ _ a=>jr (wt E) a (zb (zB a) (zb (zB a) zm))))) ?_;refine zh (k9 I (xx (yt zm))) ?_;refine zh (qK f I (jk I ⋯ E.Z2 (zB I)) (by refine zh (xw 6 (AQ I (jF (jc I)) (λ_ _ _ a=>yJ a (zL (jc a) (zB a)) zo) (λ_ _ _ a=>zB a))) ?_;refine zh (qJ (xh (iZ (jc I))) (zt Yg) jw) ?_;refine zh (j9 I (jr (ba E) I (zb (zB I) (zb (zL (PV.q (zL (jc I) zo)) (zB I)) zm)))) ?_;refine zh (j9 I (jr (wt E) I (zb (zB I) (zb (PO.v (qX I (jF (PV.q (zL (jc I) zo))) (λ_ _ _ a=>xn (zB a) (zB a)))) zm)))) ?_;refine zh (xw 3 (QD I (jF (jc I)) (λ_ _ _ a=>jr (Xa E) a (zb (zB a) (zb (zB a) (zb (zB a) (zb (zB a) zm))))))) ?_;exact(zt (k9 I (oi (PO.q (qX I (jF (jc I)) (λ_ _ _ a=>jr (Xa E) a (zb (zB a) (zb (zB a) (zb (zB a) (zb (zB a) zm))))))) (PO.q (xx (yt (zb (zB I) zm))))))))) ?_;exact(zt (vk 4 (I.var ⋯)))
theorem k3(E:E0 K mg):hG P w K mg base 1 "turned_over" 1 jP:=
 kJ (N:=["table","columns"]) E.Ql ⋯ λX O f U e d I g=>by subst O f U e d;exact by refine zh (xw 1 (QD I (i4.c (jk I ⋯ E.Z2 (zL (jc I) zo))) (λ_ _ _ a=>qE a ⋯ E.Z9 (PO.q (qX a (jF (PV.q (zL (jc a) zo))) (λ_ _ _ b=>zL (jc b) (zB b))))))) ?_;exact(zt (zT (xm (yt (zb (zL (jc I) zo) (zb (zL (jc I) zo) (zb (qE I ⋯ E.Z9 (jc I)) zm)))))))
theorem wq(E:E0 K mg):hG P w K mg base 1 "same_table" 1 jR:=
 kJ (N:=["many","rows"]) E.Qm ⋯ λX O f U e d I g=>by subst O f U e d;exact by refine zh (xw 1 (QD I (i4.c (jk I ⋯ E.Z2 (zB I))) (λ_ _ _ a=>qE a ⋯ E.Z9 (PO.q (qX a (i4.c (jk a ⋯ E.Z2 (zB a))) (λ_ _ _ b=>XT (ZE b (zB b) (zB b)) zo zo)))))) ?_;exact(zt (zT (xm (yt (zb (zB I) (zb (zB I) (zb (qE I ⋯ E.Z9 (jc I)) zm)))))))
theorem Vq(E:E0 K mg):hG P w K mg base 4 "led_into" 3 xp:=
 kJ (N:=["p","table","base","pairs","free"]) E.Qn ⋯ λX O e U d b I f=>by subst O e U d b;exact by refine zh (xw 3 (QD I (i4.c (QX I ⋯ E.Z6 (zL (PV.q (jr (k3 E) I (zb (zB I) zm))) zo) (zL (PV.q (jr (wq E) I (zb (zL (jc I) zo) zm))) zo))) (λ_ _ _ a=>qz (zB a) (zB a)))) ?_;refine zh (xw 4 (QD I (jF (jc I)) (λ_ _ _ a=>qz (zB a) (xn (xm (yt (zb zo zm))) (zL (jc a) zo))))) ?_;exact(zt (kN (kZ (Zn E) I (zb (zL (jc I) zo) (zb (PO.v (kZ (bc E) I (zb (zB I) (zb (qz (zL (jc I) zo) (zL (jc I) zo)) (zb (PO.v (oi (jc I) (jc I))) zm))))) zm)))))
theorem Yo(E:E0 K mg):hG P w K mg base 5 "kernel" 2 xS:=
 kJ (N:=["p","table"]) E.Qo ⋯ λX O d U b a I e=>by subst O d U b a;exact zt (kN (kZ (Vq E) I (zb (zB I) (zb (zB I) (zb (PO.v (xx (yt zm))) zm)))))
theorem aZ(E:E0 K mg):hG P w K mg base 1 "written" 1 vd:=
 kJ (N:=["tables","load","table","line"]) E.Qp ⋯ λX U e a d b I O=>by subst U e a d b;exact by refine zh (k9 I (xx (yt zm))) ?_;refine zh (qK O I (k0 (zB I)) (zt (qK O I (k0 (zL (jc I) zo)) (zt (Ww 1 I ⋯ (jc I)))))) ?_;exact(zt (zT (qE I ⋯ E.Z9 (jc I))))
theorem Bu(E:E0 K mg):hG P w K mg base 2 "led" 3 VY:=
 kJ (N:=["p","table","load"]) E.Qq ⋯ λX O f U e d I g=>by subst O f U e d;exact zt (zT (jr (wt E) I (zb (zB I) (zb (PO.v (qX I (jF (PV.q (zL (jc I) zo))) (λ_ _ _ a=>Ye a ⋯ E.Z5 (PO.q (qX a (i4.c (QX a ⋯ E.Z6 (zB a) (zB a))) (λ_ _ _ b=>xn (zB b) (zB b))))))) zm))))
theorem QZ(E:E0 K mg):hG P w K mg base 3 "product" 3 kC:=
 kJ (N:=["p","one","other","over"]) E.Qr ⋯ λX O e U d b I f=>by subst O e U d b;exact by refine zh (j9 I (jr (k3 E) I (zb (zB I) zm))) ?_;exact(zt (zT (xm (yt (zb (zL (jc I) zo) (zb (zL (jc I) zo) (zb (qE I ⋯ E.Z9 (PO.q (qX I (jF (PV.q (zL (jc I) zo))) (λ_ _ _ a=>jr (Bu E) a (zb (zB a) (zb (zB a) (zb (zB a) zm))))))) zm)))))))
theorem QI(E:E0 K mg):hG P w K mg base 2 "added_times" 4 xG:=
 kJ (N:=["p","one","much","other","rows"]) E.Qs ⋯ λX O f U e d I g=>by subst O f U e d;exact by refine zh (xw 4 (QD I (i4.c (QX I ⋯ E.Z6 (zL (jc I) zo) (zL (jc I) zo))) (λ_ _ _ a=>jr (wt E) a (zb (zB a) (zb (PO.v (qX a (i4.c (QX a ⋯ E.Z6 (zB a) (zB a))) (λ_ _ _ b=>qz (zB b) (xn (zB b) (zB b))))) zm))))) ?_;exact(zt (zT (xm (yt (zb (zL (jc I) zo) (zb (zL (jc I) zo) (zb (qE I ⋯ E.Z9 (jc I)) zm)))))))
theorem sA(E:E0 K mg):hG P w K mg base 3 "less" 3 ao:=
 kJ (N:=["p","one","other"]) E.Qt ⋯ λX O d U b a I e=>by subst O d U b a;exact zt (zT (jr (QI E) I (zb (zB I) (zb (zB I) (zb (AB zo) (zb (zB I) zm))))))
theorem Yp(E:E0 K mg):hG P w K mg base 1 "end_of" 2 kW:=
 kJ (N:=["k","way"]) E.Qu ⋯ λX O d U b a I e=>by subst O d U b a;exact zt (zT (XT (ZE I (zB I) QU) (qz (zB I) zo) (zB I)))
theorem y7(E:E0 K mg):hG P w K mg base 1 "beginning_of" 2 jS:=
 kJ (N:=["k","way"]) E.Qv ⋯ λX O d U b a I e=>by subst O d U b a;exact zt (zT (XT (ZE I (zB I) QU) (zB I) (qz (zB I) zo)))
theorem Bv(E:E0 K mg):hG P w K mg base 4 "gap" 4 nK:=
 kJ (N:=["one","other","tables","k","p","way","first_along","first_across"]) E.Qw ⋯ λX O d U b a I e=>by subst O d U b a;exact by refine zh (j9 I (zL (jc I) zo)) ?_;refine zh (j9 I (zL (PV.q (zL (PV.q (zL (jc I) zo)) (zB I))) zo)) ?_;refine zh (j9 I (jr (QZ E) I (zb (zB I) (zb (zL (jc I) (jr (Yp E) I (zb (zB I) (zb (zB I) zm)))) (zb (zL (PV.q (zL (PV.q (zL (jc I) zo)) (zB I))) zo) zm))))) ?_;refine zh (j9 I (jr (QZ E) I (zb (zB I) (zb (zL (PV.q (zL (PV.q (zL (jc I) zo)) (zB I))) zo) (zb (zL (jc I) (jr (y7 E) I (zb (zB I) (zb (zB I) zm)))) zm))))) ?_;exact(zt (zT (jr (sA E) I (zb (zB I) (zb (zB I) (zb (zB I) zm))))))
theorem sC(E:E0 K mg):hG P w K mg base 5 "gaps" 3 Y8:=
 kJ (N:=["one","other","tables"]) E.Qx ⋯ λX O e U d b I f=>by subst O e U d b;exact zt (kN (qX I (i4.c (jk I ⋯ E.Z2 (qV I ⋯ E.Z0 (PV.q (zL (jc I) zo))))) (λ_ _ _ a=>jr (Bv E) a (zb (zB a) (zb (zB a) (zb (zB a) (zb (zB a) zm)))))))
theorem QH(E:E0 K mg):hG P w K mg base 2 "arrow_sizes" 2 qT:=
 kJ (N:=["one","other","ways"]) E.Qy ⋯ λX O e U d b I f=>by subst O e U d b;exact by refine zh (j9 I (jr (Zj E) I (zb (zB I) zm))) ?_;exact(zt (kN (qX I (i4.c (rZ I ⋯ E.Zb (zB I))) (λ_ _ _ a=>xm (yt (zb (zL (PV.q (zL (jc a) zo)) (jr (Yp E) a (zb (zB a) (zb (zB a) zm)))) (zb (zL (PV.q (zL (jc a) zo)) (jr (y7 E) a (zb (zB a) (zb (zB a) zm)))) zm)))))))
theorem wz(E:E0 K mg):hG P w K mg base 6 "gaps_table" 2 kU:=
 kJ (N:=["one","other","sizes","many","led_units"]) E.Qz ⋯ λX O e U d b I f=>by subst O e U d b;exact by refine zh (j9 I (PO.v (kZ (yu E) I (zb (zB I) (zb (zB I) zm))))) ?_;refine zh (j9 I (jr (kf E) I (zb (zB I) zm))) ?_;refine zh (xw 4 (QD I (jF (PV.q (zL (PV.q (jr (wq E) I (zb (zB I) zm))) zo))) (λ_ _ _ a=>jr (aZ E) a (zb (PO.v (kZ (sC E) a (zb (zB a) (zb (zB a) (zb (PO.v (kZ (yX E) a (zb (zB a) (zb (zB a) zm)))) zm))))) zm)))) ?_;exact(zt (zT (jr (k3 E) I (zb (xm (yt (zb (zB I) (zb (jr (kf E) I (zb (PO.v (kZ (QH E) I (zb (zB I) (zb (zB I) zm)))) zm)) (zb (qE I ⋯ E.Z9 (jc I)) zm))))) zm))))
theorem Ym(E:E0 K mg):hG P w K mg base 7 "ways_base" 2 xk:=
 kJ (N:=["one","other","sizes"]) E.SM ⋯ λX O e U d b I f=>by subst O e U d b;exact by refine zh (Wx (jr (y8 E) I (zb (zB I) (zb (zB I) zm)))) ?_;refine zh (j9 I (PO.v (kZ (yu E) I (zb (zB I) (zb (zB I) zm))))) ?_;refine zh (qJ (Yf (jr (kf E) I (zb (zB I) zm)) (AG I ⋯ E.G0)) (zt wj) jw) ?_;exact(zt (kN (qX I (jF (PO.q (kZ (Yo E) I (zb (zL (jc I) zo) (zb (jr (wz E) I (zb (zB I) (zb (zB I) zm))) zm))))) (λ_ _ _ a=>PO.v (kZ (yX E) a (zb (zB a) (zb (zB a) zm)))))))
theorem X4(E:E0 K mg):O6 P w K mg base 7 "ways_base" 2 xk:=
 Iu (N:=["one","other","sizes"]) E.SM ⋯ λX O h U g f I i=>by subst O h U g f;exact eM eJ (Wx (jr (y8 E) I (zb (zB I) (zb (zB I) zm)))) (eM me (j9 I (PO.v (kZ (yu E) I (zb (zB I) (zb (zB I) zm))))) (eM bp (qJ (Yf (jr (kf E) I (zb (zB I) zm)) (AG I ⋯ E.G0)) (zt wj) jw) (Ft (rX (own:=["load"]) (fr:=[("sizes",2)]) (T:= .nm 0) I.calm (I.SS (fr:=[("sizes",2)]) ⋯) ⋯ (jF (PO.q (kZ (Yo E) I (zb (zL (jc I) zo) (zb (jr (wz E) I (zb (zB I) (zb (zB I) zm))) zm))))) (λd e b=>have a:=I.cq ["load"] [("sizes",2)] d e b ⋯;a.C8 0 ⋯) (λd e b=>have a:=I.cq ["load"] [("sizes",2)] d e b ⋯;kZ (yX E) a (zb (zB a) (zb (zB a) zm)))))))
theorem Zk(E:E0 K mg):hG P w K mg base 1 "_law_in_form" 1 jX:=
 kJ (N:=["_law_loads","_law_leads","_law_load_here","_law_places","_law_k"]) E.Tw ⋯ λX U f b e d I O=>by subst U f b e d;exact by refine zh (k9 I (xx (yt zm))) ?_;refine zh (qK O I (k0 (zB I)) (by refine zh (xw 3 (AQ I (i4.c (jk I ⋯ E.Z2 (qV I ⋯ E.Z0 (jc I)))) (λ_ _ _ a=>yJ a (zL (jc a) (zB a)) zo) (λ_ _ _ a=>zB a))) ?_;refine zh (qJ (ZN (k8 (ZE I (zB I) (PO.v (xx (yt zm)))) (yp (yJ I (zL (jc I) (zL (jc I) zo)) zo)))) (zt (zT vM)) jw) ?_;exact(zt (yq 1 I ⋯ (zL (jc I) zo))))) ?_;refine zh (qK O I (WA I ⋯ E.Z2 zo (qV I ⋯ E.Z0 (jc I))) (zt (qJ (AJ (zL (jc I) (vy (zB I) zo)) (zL (jc I) (zB I))) (zt (zT vM)) jw))) ?_;refine zh (qK O I (jk I ⋯ E.Z2 (qV I ⋯ E.Z0 (jc I))) (zt (qJ (rO 1 (yJ I (PO.v (qX I (jF (jc I)) (λ_ _ _ a=>zL (jc a) (zL (jc a) (zB a))))) (PO.v (qX I (i4.c (jk I ⋯ E.Z2 (qV I ⋯ E.Z0 (jc I)))) (λ_ _ _ a=>XS a ⋯ E.Z4 (aP a (zB a) (zB a))))))) (zt (zT vM)) jw))) ?_;exact(zt (zT vM))
theorem QG(E:E0 K mg):hG P w K mg base 1 "_law_load" 1 ki:=
 kJ (N:=["_law_way","_law_load_here","_law_table","_law_row_here"]) E.Tx ⋯ λX U e a d b I O=>by subst U e a d b;exact by refine zh (k9 I (xx (yt zm))) ?_;refine zh (qK O I (k0 (zB I)) (zt (qK O I (k0 (zL (jc I) zo)) (zt (Ww 1 I ⋯ (jc I)))))) ?_;exact(zt (vk 1 (I.var ⋯)))
theorem yY(E:E0 K mg):hG P w K mg base 1 "_law_whole" 1 jH:=
 kJ (N:=["_law_found"]) E.Tz ⋯ λX O d U b a I e=>by subst O d U b a;exact zt (zT (Wu (dj I ⋯ E.Zd ⋯ E.Z4 (zB I)) (Wr (AA (aO I ⋯ E.Zd ⋯ E.Zc (zB I))))))
theorem wy(E:E0 K mg):hG P w K mg base 2 "_law_is_table" 4 qh:=
 kJ (N:=["_law_found","_law_p","_law_high","_law_wide","_law_row_here"]) E.TC ⋯ λX O e U d b I f=>by subst O e U d b;exact by refine zh (qJ (ZN (k8 (xh (qo (vL I ⋯ E.Zd ⋯ E.Z9 (zB I)))) (k8 (yJ I (qV I ⋯ E.Z0 (jc I)) zo) (k8 (xh (qo (jr (yY E) I (zb (zL (jc I) zo) zm)))) (yp (xh (qo (jr (yY E) I (zb (zL (jc I) zo) zm))))))))) (zt (zT vM)) jw) ?_;refine zh (qJ (ZN (k8 (yJ I (zL (jc I) zo) (zB I)) (k8 (yJ I (zL (jc I) zo) (zB I)) (k8 (xh (qo (vL I ⋯ E.Zd ⋯ E.Z9 (zL (jc I) zo)))) (yp (yJ I (qV I ⋯ E.Z0 (PV.q (zL (jc I) zo))) (zB I))))))) (zt (zT vM)) jw) ?_;refine zh (qK f I (k0 (zL (jc I) zo)) (by refine zh (qJ (ZN (k8 (xh (qo (vL I ⋯ E.Zd ⋯ E.Z9 (zB I)))) (yp (yJ I (qV I ⋯ E.Z0 (jc I)) (zB I))))) (zt (zT vM)) jw) ?_;exact(zt (qJ (xh (qo (og I ⋯ E.Ze (PO.q (qX I (jF (jc I)) (λ_ _ _ a=>Wu (jr (yY E) a (zb (zB a) zm)) (Wr (Ws dX Bq K5 nR zo (zB a) (zB a))))))))) (zt (zT vM)) jw)))) ?_;exact(zt (zT vM))
theorem vw(E:E0 K mg):hG P w K mg base 3 "_law_are_tables" 4 qv:=
 kJ (N:=["_law_found","_law_p","_law_highs","_law_wides"]) E.TF ⋯ λX O e U d b I f=>by subst O e U d b;exact by refine zh (qJ (ZN (k8 (xh (qo (QV I ⋯ E.Zd ⋯ E.Z8 (zB I)))) (yp (yJ I (qV I ⋯ E.Z0 (jc I)) (qV I ⋯ E.Z0 (jc I)))))) (zt (zT vM)) jw) ?_;exact(zt (zT (og I ⋯ E.Ze (PO.q (qX I (i4.c (jk I ⋯ E.Z2 (qV I ⋯ E.Z0 (jc I)))) (λ_ _ _ a=>jr (wy E) a (zb (zL (jc a) (zB a)) (zb (zB a) (zb (zL (jc a) (zB a)) (zb (zL (jc a) (zB a)) zm))))))))))
theorem ZO(E:E0 K mg):hG P w K mg base 2 "_law_passes" 5 qP:=
 kJ (N:=["_law_p","_law_ways_here","_law_one","_law_other","_law_tables","_law_k","_law_begin","_law_end","_law_wide","_law_first"]) E.TH ⋯ λX O d U b a I e=>by subst O d U b a;exact by refine zh (qK e I (jk I ⋯ E.Z2 (JD I ⋯ E.Z0 (zB I))) (by refine zh (vj (uq I) (jr (xK E) I (zb (zB I) (zb (zB I) zm)))) ?_;refine zh (j9 I (zL (PV.q (zL (jc I) zo)) (zB I))) ?_;refine zh (j9 I (PO.v (kZ (xA E) I (zb (zB I) (zb (zL (PV.q (zL (jc I) (zB I))) zo) (zb (zL (PV.q (zL (jc I) zo)) (zB I)) (zb (zB I) zm))))))) ?_;exact(zt (qJ (yJ I (zB I) (PO.v (kZ (xA E) I (zb (zB I) (zb (zL (PV.q (zL (jc I) zo)) (zB I)) (zb (zL (PV.q (zL (jc I) (zB I))) zo) (zb (zB I) zm))))))) (zt (zT vM)) jw)))) ?_;exact(zt (zT vM))
theorem yZ(E:E0 K mg):hG P w K mg base 4 "_law_right" 6 qY:=
 kJ (N:=["_law_found","_law_p","_law_ways_here","_law_one","_law_other","_law_due","_law_way"]) E.TJ ⋯ λX O e U d b I f=>by subst O e U d b;exact by refine zh (qJ (ZN (k8 (xh (qo (QV I ⋯ E.Zd ⋯ E.Z8 (zB I)))) (yp (yJ I (qV I ⋯ E.Z0 (jc I)) (zB I))))) (zt (zT vM)) jw) ?_;refine zh (qK f I (k0 (zB I)) (zt (qJ (ZN (k8 (xh (qo (jr (vw E) I (zb (zB I) (zb (zB I) (zb (zL (jc I) zo) (zb (zL (jc I) zo) zm))))))) (yp (xh (qo (jr (ZO E) I (zb (zB I) (zb (zB I) (zb (zB I) (zb (zB I) (zb (zB I) zm))))))))))) (zt (zT vM)) jw))) ?_;exact(zt (zT (jr (Zk E) I (zb (PO.v (qX I (jF (jc I)) (λ_ _ _ a=>PO.v (kZ (QG E) a (zb (zB a) zm))))) zm))))
theorem yL(E:E0 K mg):hG P w K mg base 2 "_law_handed" 3 xF:=
 kJ (N:=["_law_p","_law_ways_here","_law_row_here","_law_widths","_law_tables","_law_arrows","_law_k","_law_begin","_law_end","_law_rows"]) E.TK ⋯ λX O e U d b I f=>by subst O e U d b;exact by refine zh (vj (uq I) (zB I)) ?_;refine zh (k9 I (xx (yt zm))) ?_;refine zh (qK f I (jk I ⋯ E.Z2 (JD I ⋯ E.Z0 (zB I))) (by refine zh (vj (uq I) (jr (xK E) I (zb (zB I) (zb (zB I) zm)))) ?_;refine zh (j9 I (qE I ⋯ E.Z9 (PO.q (qX I (jF (PV.q (zL (jc I) (zB I)))) (λ_ _ _ a=>qE a ⋯ E.Z9 (jc a)))))) ?_;exact(zt (yq 5 I ⋯ (xm (yt (zb (XR (zB I) (zB I)) (zb (xm (yt (zb (zL (jc I) (zB I)) (zb (zL (jc I) (zB I)) (zb (zB I) zm))))) zm)))))))) ?_;exact(zt (zT (xm (yt (zb (zB I) (zb (qE I ⋯ E.Z9 (jc I)) (zb (qE I ⋯ E.Z9 (jc I)) zm)))))))
theorem GZ(D:L2.Du K "law" "law" (top 56) f fd)(E:E0 K mg):rq P w K mg base t4 8 f fd ["_law_script"] (tv K 1 J6):=
 FO (N:=["_law_script","_law_cell_here","_law_p","_law_rooms","_law_ways_here","_law_ones","_law_others","_law_one","_law_other","_law_due","_law_handed_here","_law_found","_law_way"]) D ⋯ λX O d U b a I e=>by subst O d U b a;exact by refine zh (j9 I (jr (vN E) I (zb (zB I) (zb zo zm)))) ?_;refine zh (j9 I (zL (PO.q (xx (yt (zb zo (zb zo (zb zo (zb zo zm))))))) (qI (zB I) zo))) ?_;refine zh (j9 I (qz zo (qI (vz (zB I) zo) zo))) ?_;refine zh (j9 I (jr (JH E) I (zb (vz (zB I) zo) (zb (zB I) zm)))) ?_;refine zh (j9 I (PO.v (kZ (yK E) I (zb (zB I) (zb zo (zb (qI (vz (zB I) zo) zo) (zb (zB I) zm))))))) ?_;refine zh (j9 I (PO.v (kZ (yK E) I (zb (zB I) (zb zo (zb (qI (vz (zB I) zo) zo) (zb (zB I) zm))))))) ?_;refine zh (j9 I (jr (wu E) I (zb (zB I) (zb zo (zb (zB I) (zb (zB I) (zb (zB I) zm))))))) ?_;refine zh (j9 I (jr (wu E) I (zb (zB I) (zb zo (zb (zB I) (zb (zB I) (zb (zB I) zm))))))) ?_;refine zh (j9 I (jr (Yn E) I (zb (zB I) (zb (zB I) (zb (zB I) zm))))) ?_;refine zh (j9 I (xm (yt (zb (jr (yL E) I (zb (zB I) (zb (zB I) (zb (zB I) zm)))) (zb (jr (yL E) I (zb (zB I) (zb (zB I) (zb (zB I) zm)))) zm))))) ?_;exact(dv 11 12 (dR e) I ⋯ ⋯ ⋯ (I.set 11 ⋯ (Ay (X4 E) ⋯ I ⋯ (zb (zL (jc I) zo) (zb (zL (jc I) zo) zm)))) (xh (qo (jr (yZ E) I (zb (zB I) (zb (zB I) (zb (zB I) (zb (zB I) (zb (zB I) (zb (zB I) zm))))))))) vM (zt (zT (jr (yZ E) I (zb (PO.v (kZ (Ym E) I (zb (zL (jc I) zo) (zb (zL (jc I) zo) zm)))) (zb (zB I) (zb (zB I) (zb (zB I) (zb (zB I) (zb (zB I) zm))))))))))
end
end DL
namespace PySem.W.Fast
def tw13114745485624796508:=0
def tw16446103117289647778:=0
def tw16654354010303500023:=0
def tw3821431450061435218:=0
def tw15626035241925287393:=0
def tw12053315556537122439:=0
def tw17394220669240168766:=0
def tw2708171770871813194:=0
def tw14889541419529278129:=0
def tw16766354766383943660:=0
def tw2603911348256917130:=0
def tw14815422720213657131:=0
def tw14500395272047943600:=0
def tw12015344393200707485:=0
def tw8450682189748738543:=0
def tw12749280579409879123:=0
def tw12032948214293443722:=0
def tw11582165803369400674:=0
def tw15471369345043853597:=0
def tw7761688244151211689:=0
def tw3484561453877542035:=0
def tw14379009920672268815:=0
def tw7918771282671549841:=0
def tw892079382395662505:=0
def tw12240565328515675473:=0
def tw644852851029611063:=0
def tw9529262114041792163:=0
def tw16151154506095451697:=0
def tw15991798277457847041:=0
def tw12806645501259720884:=0
def tw8497992068116886612:=0
def tw8620553693628979593:=0
def tw5184063872177664288:=0
def tw15562636143144211055:=0
def tw12841932369560751069:=0
def tw3340169062933411368:=0
def tw12022703247115816204:=0
def tw16968475640110044446:=0
def tw16286634246837153228:=0
def tw2986019737137156130:=0
def tw8021325906447172838:=0
def tw17058705528781618021:=0
def tw13671734348101731900:=0
def tw17192052566579098156:=0
def tw11989467752848717181:=0
def tw13518704218150699762:=0
def tw9952901733560390929:=0
def tw7941801361182392910:=0
def tw18022329610289630929:=0
def tw2547909726304142372:=0
def tw13887854236664175934:=0
def tw803653000972579188:=0
def tw13028486483280942837:=0
def tw16329429659718232612:=0
def tw11826698503376025829:=0
def tw7128354489331303380:=0
def tw5789704251179972023:=0
def tw1205414465130128947:=0
def tw10661011413098692255:=0
def tw17041843054085713355:=0
def tw1454852318004228111:=0
def tw2194492090458951053:=0
def tw4452589075376430026:=0
def tw6079372193059187541:=0
def tw9582665477992632021:=0
def tw10871772167814035521:=0
def tw10940494418019312867:=0
def tw2708788461754239383:=0
def tw189018556267301067:=0
def tw375286061615731640:=0
def tw16728346998863294736:=0
def tw9858881660330068567:=0
def tw2619140781452991920:=0
def tw8558479931313148039:=0
def tw626292609564148267:=0
def tw14946213020663592998:=0
def tw4796309407820840554:=0
def tw5761073485019005143:=0
def tw4687854907872110216:=0
def tw9061087150909149290:=0
def tw17765473498919179978:=0
def tw7684107209861522769:=0
def tw13724703453933611704:=0
def tw7361479008393028989:=0
def tw2219650520861138897:=0
def tw10282039302277526849:=0
def tw13020202566949296928:=0
def tw13952339490329909306:=0
def tw10212803913586040781:=0
def tw17994082531187575318:=0
def tw2080416356104776627:=0
def tw3821566613062260276:=0
def tw13287181523981694613:=0
def tw18390983888762367758:=0
def tw17780762144785362678:=0
def tw8174770763156210937:=0
def tw10178843377878475191:=0
def tw8533198991156223723:=0
def tw2429951475380316140:=0
def tw14219443933916538028:=0
def tw17985885617754981237:=0
def tw6660850790607214953:=0
def tw2277545970532699478:=0
def tw6935867471882773242:=0
def tw13815174794658813650:=0
def tw15011958976682481480:=0
def tw6115802112901742182:=0
def tw14012913199569424915:=0
def tw1842710352585429262:=0
def tw5219599307151601393:=0
def tw9923669143901656300:=0
def tw8978295928877423073:=0
def tw13389101495750297327:=0
def tw8124687426259769143:=0
def tw12013514928339038454:=0
def tw5439837999758511955:=0
def tw5817237155440107229:=0
def tw4934121961882801836:=0
def tw12783845342988029284:=0
def tw12182361326431139054:=0
def tw9334704952209880933:=0
def tw6083980444408995702:=0
def tw10237160123129659858:=0
def tw3426600934647594401:=0
def tw14346238218171215915:=0
def tw5518223708135612987:=0
def tw6139353946638385464:=0
def tw9728809426377549305:=0
def tw18386322679246678036:=0
def tw16411003642437423154:=0
def tw14394496058632773562:=0
def tw2590880877989022543:=0
def tw17618457315907403475:=0
def tw7310128510201039715:=0
def tw16997228064883732199:=0
def tw13519606242736343830:=0
def tw17093962288906297294:=0
def tw9100181558907436177:=0
def tw4206613438055759441:=0
def tw12837694334797083257:=0
def tw9922274555973889723:=0
def tw9960213074477060044:=0
def tw8646754911479957482:=0
end PySem.W.Fast
open PySem PySem.W PyProof.Rows
set_option maxRecDepth 100000 in
set_option maxHeartbeats 0 in
theorem PySem.Challenge.cw_barsplit_k36_a_base_of_ways_holds : PySem.Challenge.rw_barsplit_k36_a_base_of_ways.Holds := by
 w_on;o_law;k_head;(case hw=>w_witness2)
 k_fill
 refine L2.CC (l:=Ou) (n:=63) (k:=8) (x:="_law_script") (CX:=L2.t4) (sp:=λK=>DL.tv K 1 DL.J6) rfl ⋯ rfl ⟨rfl,by decide,by decide⟩ (λw h Y=>PySem.W.kIn_of Y) ?F ?S ?C
 case S=>exact λK H a ns I hO U=>DL.Eh U (DL.Fz ns I)
 case C=>exact λ_ _ _ _ z=>z
 case F=>
  intro w mg fa h O G a0;have a5:DL.GL (L2.Ls O) mg "MOST_NUMBERS" (.int 60):=by
   dsimp only[L2.Ls];refine' DL.Hc O G ?a
   (case a=>k_is)
  have E:DL.E0 (L2.Ls O) mg:=by
   constructor
   all_goals first
    | assumption
    | exact PySem.W.mg_none_of O G (by k_is)
    | (dsimp only[L2.Ls];refine' DL.Hh O G ?a ?l ?c ?k ?b;(case a=>k_is);(case l=>k_is);(case c=>k_is);(case k=>k_is);(case b=>intro _ _ _ _ _ _ us I;first | (obtain⟨_,rfl⟩:=DL.Ik I;rfl) | (obtain⟨_,_,rfl⟩:=DL.Ij I;rfl) | (obtain⟨_,_,_,rfl⟩:=DL.IP I;rfl) | (obtain⟨_,_,_,_,rfl⟩:=DL.IM I;rfl) | (obtain⟨_,_,_,_,_,rfl⟩:=DL.IL I;rfl) | (obtain⟨_,_,_,_,_,_,rfl⟩:=DL.IK I;rfl)))
  obtain⟨f,fd,Fu,hb,hm⟩:=E.TL.ex;have e0:=a0.symm.trans hm;cases e0;refine⟨fd,λs u=> .of_eq (hb [u] rfl),λbase kb nb=>?_⟩;exact DL.GZ Fu E
