import PyProof.Rows.All
import Wide.All
import OpenK.AllK
import Wide.FinOn
import Lean
import PyProof.EqAt
import PyProof.EqKinds
import PyProof.TupleCall
import PySem.Str
import PyProof.ZipIter
import PyProof.IsiBase
import KE.KItemsList
import KE.KIsAll
import OpenK.KOwn
import KE.KSortAsk
import PyProof.StrBlockI
import PyProof.Rows.EqDataRows
import PyProof.Rows.InDataRows
import PyProof.SumWalkG
import PyProof.ConsumeWalk
import PyProof.WalksMore
import KE.KSortTup
import PyProof.ListMulRoad
import PyProof.EnumFor
import PyProof.Rows.EnumRows
import PyProof.StrBlockL
import PyProof.JoinWalk
import PyProof.NsDelKeeps
import KE.KTryDeep
import PyProof.InstStoreFacts
import PyProof.NsCount
import PyProof.ExcClass2
import PyProof.Rows.FStr
import PyProof.StationsW
import PyProof.Rows.Catch
import KE.KRevIter
import PyProof.CollectIter
import PyProof.TupleOfGen
import PyProof.Rows.Tup
import PyProof.Draws
import PyProof.EnumMake
import PyProof.StrWalks
import PyProof.SliceStr2
import PyProof.ListNew
import KE.KDictOf
import PyProof.ListRange
import PyProof.Rows.GenSrcRange
import PyProof.ListCopy
import PyProof.AttrMissHeap
import PyProof.DictWalks
import PyProof.FactsDict
import KE.KSortKey
import PyProof.TableCode
import PyProof.Rows.KernelRfl
import PySem.Challenge.RW_barsplit_k51_rooms_not_turned_about
open PySem.Challenge renaming rw_barsplit_k51_rooms_not_turned_about → Bn
open PySem.W renaming Frag → Bo,kia_one → BO,mg_none_of → BV,findIn → Cv,mroIn → CB,kitOne → CT,keepIn → Ek,clsIn → EF,fnOf → EM,typeIn → EU,cellsFrom_some → EV,hideAll_get → Fm,nsIn → Fn,specialIn → Fy,hideAll → FP,tail_of_in → FT,callWith_K → FU,tailIn → FZ,nsOkIn → Ga,codeIn → Gb,kitx_dict → Ge,mg_of → Gr,findCls → GD,of_hideAll → GS,Looks → Lc,methodObj → Hd,kitx_list → He,plainGet → Ho
open PySem renaming wpAny_bind → Bp,wpAny_pure → Bv,wpAny_mono → BN,wpAny_field → Cw,wpAny_Call_Name_kw → CI,wpAny_holding → CQ,wpAny_callSpecial?_slot → CS,wpAny_setField_rec → CY,wpAny_truthy_bool → Ee,wpAny_call_entry → Em,wpAny_newObj_type → Es,wpAny_loadPart' → Eu,wpAny_seqItems → ED,wpAny_loadPart_at → EE,sizeLine_eq → EZ,mem_of_lookup → Fo,codeAny_call_builtin → Fq,Builtin → Fv,wpAny_getItem_str_slice → FC,wpAny_attempt → FD,strLen_append → FE,wpAny_call → FN,codeAny_mono → FQ,wpAny_execs_cons → FY,wpAny_standAt → Gd,call_meets → Gi,wpAny_passesOwn → Gn,pushCells_keeps → Gq,wpAny_typeOf → Gz,wpAny_pyIter_tuple → GA,wpAny_of_eq → GK,wpAny_execs_nil → GZ,post_val_or_str → Ha,wpAny_rule → Hg,wpAny_updateSeq_pair → Hm,wpAny_Expr_any → Hq,Within → Hu,wpAny_onRaise → HH,concat_meets → HK,noFill_tuple_add → HL,Addr → eH,Value → eM,Shared → hA,model → hH,Expr → hI,eval → hM,Heap → ia,Pos → ik,starEach → iv,World → i5,sizeLine → i6,Scope → i7,Program → i8,Stmt → l0,Around → l9,Env → mr,Obj → m7,backTo → o8,mainGlobals → p9,IsPair → q5,compareOp → ro,FuncData → ts,cellsFrom → t8,foldedSetIterable → vp,swapsWith → vt,spliced → A6,binaryOp → B0,IsEnum → B6,IsZip → B7,NameKind → B8,behindInMarks → C3,relabel → C6,assign → Df,IsPart → Dp,assignEach → Ds,bootBuiltins → Dt,getItem → Dy,holding → Dz,sysModules → DI,bindC → DQ,bindL → DR,pushCells → DW,rawInt → DX,Keyword → D2,callerA → D8,isTrue → E1,Meets → E8,pyNext → G6,standAt → G7,BindsTo → HP,attributeBase → HX,setField → Ii,typeLookup → Iu,letOwnedTupleGo → IU,pyIter → IY,strIterType → I0,IsEnumOut → Ld,ZipApart → Li,backToKw → Lm,checkBuiltinCall → Lp,lastMarks → Lv,swapsWithSole → LJ,PassesOwn → L5,builtinsNs → Mb,newFunctionEnv → Mo,newList → Mp,seqIndex_neg → Ms,seqIndex_of → Mt,seq_tuple_add → Mu,setItem → Mv,swappedStores → Mw,typeIs_int → ME,wpAny_Name → MG,callType_new → M5,firstArgMember → Nd,wpAny_assign_Name → NN,wpAny_letOwnedTupleGo_enum → NO,wpAny_newTuple → NP,wpAny_pyIter_list → NQ,wpAny_sequenceKey → NR
open PySem.Heap renaming get?_push_of_some → Bq,lt_size → Bz,get?_push_size → BI,size_push → Cm,push → Cq,FlyingW → EH,get?_update_self → Ff,get?_update_ne → Fp,SameBut → FK,get?_push_ne → Gw,get?_update_other → GH,get?_none_of_le → GR,size_update → HG
open List renaming range → Br,replicate → Bu,getElem?_eq_getElem → Bx,size_toArray → By,getElem?_set_ne → BA,mem_cons → BC,mem_range → BD,getElem?_cons_zero → BE,getElem?_cons_succ → BG,mem_cons_of_mem → BL,getElem?_eq_some_iff → BP,mem_cons_self → BQ,not_mem_nil → BR,getElem?_append_right → BW,getD_eq_getElem?_getD → BX,map_cons → BY,length_map → Cb,getElem?_map → Ce,eq_nil_of_length_eq_zero → Cf,getElem?_append_left → Ck,lookup_cons → Cp,length_append → Cs,mem_append_right → Ct,getElem?_set_self → CC,set_cons_zero → CD,map_congr_left → CJ,set_cons_succ → CU,all_eq_true → Ea,mem_filter → Ef,getElem?_range → En,length_cons → Et,length_range → Ez,replicate_succ → EC,length_take → EG,range_eq_range' → EK,range_succ → EO,append_nil → ER,take_of_length_le → EY,map_append → Fd,find?_cons → Fe,flatten_cons → Fj,map_map → Ft,getElem?_replicate → Fw,mem_map → FG,length_singleton → FH,getElem?_eq_none → FJ,nodup_cons → FV,length_nil → FW,zip_cons_cons → Gg,mem_filterMap → Gh,ext_getElem? → Gu,append_assoc → Gv,any_cons → GB,all_cons → GC,range'_succ → Lb,mem_flatMap → GF,length_drop → GG,of_mem_zip → GJ,mem_of_getElem? → GQ,range_add → GU,lookup → GX,filterMap_cons → GY,mem_singleton → Hj,filter_append → Hk,toArray → Hx,map_nil → Hy,getElem_mem → HD
open Bool renaming and_eq_true → Bt,false_ne_true → BJ,or_eq_true → Cj,false_eq_true → CV,not_eq_true' → EB,not_true → Fx,eq_iff_iff → FX,not_false → Gm,true → d6,false → eF
open Option renaming bind_some → Bw,map_some → BZ,some → CZ,isSome_iff_exists → Ec,map → Hi,some → cI,none → cS
open Nat renaming le_refl → BB,lt_of_lt_of_le → BF,ne_of_lt → BH,not_lt_zero → BK,lt_or_ge → Cc,lt_succ_of_lt → Cg,le_trans → Co,le_add_right → Cz,lt_irrefl → CF,zero_le → Eo,lt_succ_self → Ew,add_sub_cancel_left → Ex,ne_of_gt → EI,min_eq_left → Fg,lt_trichotomy → FF,zero_add → GN,le_of_lt → GO,le_succ_of_le → Hw,mul_comm → HC
open PySem.NameKind renaming free → BM,cell → EN
open PySem.Builtin.SmallTypes renaming nextOf → BS,ownedTupleIsFree → Cn,ownedTupleHandOut → El,ownedTupleFields → Gc
open PySem.Value renaming ref → BU,none → Cy,type → Ej,int → FR,str → Hb
open Int renaming emod_lt_of_pos → Ca,toNat_natCast → Cr,mul_emod → Cu,emod_nonneg → CA,emod_eq_of_lt → CN,emod_emod → Ep,add_emod → EA,eq_ofNat_of_zero_le → EW,sub_zero → HE,mul_comm → HF
open Option.some renaming inj → Cd
open PySem.Calls renaming spliced_cons → Ci,spliced_nil → EL,evalArgs_plain → GP,Constant_str → Hf
open PySem.SeqAt renaming EqAt → CG
open PyProof.Rows renaming slot_tuple_getitem → CH,callWith_builtin1 → CK,callWith_type1 → Eb,boot_isinstance → Er,boot_int → Gk,slot_tupleiter_next → Gp,tupleItemsOf_ → ID,AllBare → Dm,envOfC → F5,IsTup → HR,Call_ → Iz,IntsAre → IE,Subscript_ → L6,args_tuple_getitem → MS,args_tupleiter_next → MT,entry_tupleiter_next → M8,subscriptTail_builtinR → NI
open False renaming elim → CM
open Ne renaming symm → CP
open Sum renaming inl → Ed,inr → Hv
open PySem.Obj renaming mapSeq → Eg
open PySem.Str renaming ofString → Eh,join → HJ
open PySem.Builtin.Tuple renaming tupleExact → Ei,tupleIsExact → EX
open True renaming intro → Ey
open PySem.F renaming store_ValueError → EJ,excBase_ValueError → Fc,slot_enumerate_next → Fk,attr_ValueError → Fs,slot_tuple_mul → IC,args_tuple_add_2 → Gf,entry_tuple_add → Gs,slot_tuple_add → Gx,slot_zip_next → GV,args_tuple_mul_2 → Hz,entry_tuple_mul → HI
open PySem.PyData renaming depth → ES,eqv → Fz,canLay0 → FA,eqvAll → GW,canLayAll0 → Hh
open Array renaming length_toList → ET
open PySem.Builtin.Slice renaming slicePlaces → Fb,sliceAdjust → LV
open Classical renaming byContradiction → Fh
open PySem.Builtin.List renaming listTooLong → Fi
open List.cons renaming injEq → FL
open PySem.Sem renaming wp → Gj
open ForInStep renaming yield → Gy
open PySem.SeqAt.EqAt renaming int_int → GI
open PySem.Code renaming quiet_builtin → Hl
open PySem.Txt renaming slice_le → HA
local macro_rules | `(⋯) => `(by first | decide +kernel | omega | simp)
set_option autoImplicit true
noncomputable section
set_option Elab.async false
set_option linter.all false
set_option maxRecDepth 100000
set_option maxHeartbeats 4000000
abbrev MQ:=PySem.Value->PySem.Shared->Prop
abbrev MW:=List (PySem.Addr×PySem.Obj)
abbrev MV:=Nat->Nat->Nat->Int
abbrev MK:=Nat->Nat->Int
abbrev MX:=Nat->Bool
abbrev MZ:=Nat->Nat
abbrev MJ:=PySem.Str->Option PySem.Value
theorem MY{c:Prop}{h:Decidable c}(z:c){α}{a b:α}:ite c a b=a:=if_pos z
theorem RQ{c:Prop}{h:Decidable c}(z:¬c){α}{a b:α}:ite c a b=b:=if_neg z
namespace L2
open PySem PySem.Spec PyProof.Rows
abbrev Key:=Sum Int Str
noncomputable def Kt:Key->eM->Bool
 | .inl k,v=>Value.isInt k v
 | .inr x,v=>Value.isStrOf x v
noncomputable def AL(w:i5):Key->Int
 | .inl k=>hashInt k
 | .inr x=>hashStr w x
theorem jD : ∀{k:Key} {v:eM},Kt k v=d6->(∃i t,k=Ed i/\v=FR i t)\/(∃x t,k=Hv x/\v=Hb x t)
 | .inl i,v,h=>by obtain⟨t,e⟩:=Value.isInt_shape (k:=i) (v:=v) h;exact .inl ⟨i,t,rfl,e⟩
 | .inr x,v,h=>by obtain⟨t,e⟩:=Value.isStrOf_shape (x:=x) (v:=v) h;exact .inr ⟨x,t,rfl,e⟩
theorem VC(i:Int)(t:Tok):Kt (.inl i) (.int i t)=d6:=by simp[Kt,Value.isInt]
theorem VB(x:Str)(t:Tok):Kt (.inr x) (.str x t)=d6:=by simp[Kt,Value.isStrOf]
theorem mV(a b:Int):decide ((Ed a:Key)=Ed b)=(a==b):=by
 by_cases e:a=b
 ·subst e;simp
 ·have h : ¬(Ed a:Key)=Ed b:=λq=>e (Ed.inj q)
  rw[decide_eq_false h];exact(beq_eq_false_iff_ne.mpr e).symm
theorem mS(a b:Str):decide ((Hv a:Key)=Hv b)=decide (a=b):=by
 by_cases e:a=b
 ·subst e;simp
 ·have h : ¬(Hv a:Key)=Hv b:=λq=>e (Hv.inj q)
  rw[decide_eq_false h,decide_eq_false e]
theorem mU(a:Int)(b:Str):decide ((Ed a:Key)=Hv b)=eF:=decide_eq_false<|λq=>nomatch q
theorem mT(a:Str)(b:Int):decide ((Hv a:Key)=Ed b)=eF:=decide_eq_false<|λq=>nomatch q
noncomputable def j9(prog:i8)(w:i5):PySem.KeyKind prog w Key where
 is:=Kt
 hash:=AL w
 inj:=λv a b ha I=>by
  rcases jD ha with⟨i,t,rfl,rfl⟩ | ⟨x,t,rfl,rfl⟩
  ·rcases jD I with⟨j,u,rfl,e⟩ | ⟨y,u,rfl,e⟩
   ·injection e with e1 _;rw[e1]
   ·exact nomatch e
  ·rcases jD I with⟨j,u,rfl,e⟩ | ⟨y,u,rfl,e⟩
   ·exact nomatch e
   ·injection e with e1 _;rw[e1]
 byValue:=λk v h=>by rcases jD h with⟨i,t,rfl,rfl⟩ | ⟨x,t,rfl,rfl⟩<;>rfl
 pyHash:=λz h=>by
  rcases jD z with⟨i,t,rfl,rfl⟩ | ⟨x,t,rfl,rfl⟩
  ·exact wpAny_pyHash_int h
  ·exact wpAny_pyHash_str h
 eqBool:=λO z h=>by
  rcases jD O with⟨i,t,rfl,rfl⟩ | ⟨x,t,rfl,rfl⟩
  ·rcases jD z with⟨j,u,rfl,rfl⟩ | ⟨y,u,rfl,rfl⟩
   ·rw[mV]at h;exact wpAny_eqBool_int h
   ·rw[mU]at h;exact CG.int_str i t y u _ _ _ _ h
  ·rcases jD z with⟨j,u,rfl,rfl⟩ | ⟨y,u,rfl,rfl⟩
   ·rw[mT]at h;exact CG.str_int x t j u _ _ _ _ h
   ·rw[mS]at h;exact wpAny_eqBool_str h
 «strs» :=λk x t v h=>by
  rcases jD h with⟨i,u,rfl,e⟩ | ⟨y,u,rfl,e⟩
  ·exact nomatch e
  ·injection e with e1 _
   subst e1;cases v<;>rfl
theorem Qp(prog:i8)(w:i5)(i:Int)(t:Tok):(j9 prog w).is (.inl i) (.int i t)=d6:=VC i t
theorem Qo(prog:i8)(w:i5)(x:Str)(t:Tok):(j9 prog w).is (.inr x) (.str x t)=d6:=VB x t
inductive V where
 | i3 | bl (b:Bool) | int (i:Int) | str (x:Str) | HY (b:Array UInt8) | F8 (b:UInt64) | ref (a:eH) | ty (n:String)
 deriving DecidableEq
noncomputable def RelV:V->eM->Prop
 | .i3,u=>u=Cy
 | .bl b,u=>u=Value.bool b
 | .int i,u=>∃t,u=FR i t
 | .str x,u=>∃t,u=Hb x t
 | .HY b,u=>∃t,u=Value.bytes b t
 | .F8 b,u=>∃t,u=Value.float b t
 | .ref a,u=>u=BU a
 | .ty n,u=>u=Ej n
abbrev i0:List V->List eM->Prop:=Paired RelV
theorem i0.length(r:i0 xs us):xs.length=us.length:=Paired.length r
theorem i0.get : ∀{xs:List V} {z:List eM} {i:Nat} {x:V},i0 xs z->xs[i]? = cI x->∃u,z[i]? = cI u/\RelV x u
 | _,_,_,_,.nil,e=>by simp at e
 | _,_,0,_,.cons r _,e=>by simp at e;subst e;exact⟨_,rfl,r⟩
 | _,_,i+1,x,.cons _ t,e=>by obtain⟨u,a,b⟩:=i0.get (i:=i) (x:=x) t (by simpa using e);exact⟨u,by simpa using a,b⟩
theorem i0.set(r:RelV x u) : ∀{xs:List V} {z:List eM} (i:Nat),i0 xs z->i0 (xs.set i x) (z.set i u)
 | _,_,_,.nil=> .nil
 | _,_,0,.cons _ t=> .cons r t
 | _,_,i+1,.cons q t=> .cons q (i0.set r i t)
theorem i0.append : ∀{xs I:List V} {H z:List eM},i0 xs H->i0 I z->i0 (xs++I) (H++z)
 | _,_,_,_,.nil,s=>s
 | _,_,_,_,.cons r t,s=> .cons r (i0.append t s)
theorem i0.take : ∀{xs:List V} {z:List eM} (n:Nat),i0 xs z->i0 (xs.take n) (z.take n)
 | _,_,0,_=> .nil
 | _,_,_+1,.nil=> .nil
 | _,_,n+1,.cons r t=> .cons r (i0.take n t)
theorem i0.drop : ∀{xs:List V} {z:List eM} (n:Nat),i0 xs z->i0 (xs.drop n) (z.drop n)
 | _,_,0,r=>r
 | _,_,_+1,.nil=> .nil
 | _,_,n+1,.cons _ t=>i0.drop n t
noncomputable def B9:Option V->Option eM->Prop
 | some v,cI u=>RelV v u
 | none,cS=>True
 | _,_=>False
noncomputable def KV{z:Type}:List (z×V)->List (z×eM)->Prop:=Paired λ(p:z×V) (q:z×eM)=>p.1=q.1/\RelV p.2 q.2
def kV:Key->V
 | .inl i=> .int i
 | .inr x=> .str x
inductive HO where
 | lst (xs:List V)
 | tup (xs:List V)
 | dK (m8:List (Key×V)) | dT (m8:List (List Key×V))
 | set (S:Int->Bool) (n:Nat)
 | ins (C dx:eH) (fs:List (Str×V))
 | own (x:eH)
 | xd (fs:List (Str×V))
 | met (f x:eH)
 | sx (lo hi:Int)
 | ri (o:m7) (u:HO)
 | DZ (ps:Array eM)
 | ext (φ:ia->Prop)
abbrev Hp:=eH->Option HO
def upd(H:Hp)(a:eH)(o:HO):Hp:=λb=>if b=a then cI o else H b
theorem zu:upd H a o a=cI o:=by unfold upd;rw[MY rfl]
theorem zt(h:b≠a):upd H a o b=H b:=by unfold upd;rw[RQ h]
theorem J7{H:Hp}{a:eH}{o u:HO}:upd (upd H a o) a u=upd H a u:=by funext b;unfold upd;split<;>rfl
theorem zI{H:Hp}{a b:eH}{o:HO}(h:H a=cI o)(h':H b=cS):a≠b:=by intro e;subst e;rw[h]at h';cases h'
noncomputable def Dd(h:ia)(a:eH)(z:Array eM):Prop:=∃o,h.get? a=cI o/\(o.cls,o.dict)=(Ej "tuple",cS)/\∃n,o.data = .seq z n
theorem Dd.new(h:ia)(z:Array eM):Dd (h.push {cls:= .type "tuple",data:= .seq z}) h.objs.size z:=⟨_,BI _ rfl,rfl,_,rfl⟩
theorem Dd.tup(x:Dd h a items):HR h a items:=let ⟨o,e,c,r⟩:=x;⟨o,e,(Prod.mk.inj c).1,r⟩
section
variable(P:i8)(w:i5)
noncomputable def l8(H:Hp)(h:ia)(a:eH):HO->Prop
 | .lst d=>d.length<=i6/\∃(z:List eM) (n:Nat),i0 d z/\h.get? a=cI {cls:= .type "list",data:= .seq z.toArray n}
 | .tup d=>d.length<=i6/\∃z:List eM,i0 d z/\Dd h a z.toArray
 | .dK b=>b.length<=i6/\(a==DI)=eF/\∃l,KV b l/\h.DictOf (j9 P w) a l
 | .dT b=>b.length<=i6/\(a==DI)=eF/\∃d:List (List Key×eH×eM),
  Paired (λ(p:List Key×V) (q:List Key×eH×eM)=>p.1=q.1/\H q.2.1=cI (.tup<|p.1.map kV)/\RelV p.2 q.2.2) b d/\
  ∃o i I,h.get? a=cI o/\o.ExactDict/\o.data = .dict i I/\i.toList=d.map (entryOfKey<|tupleKind<|j9 P w)/\(d.map (·.1)).Nodup
 | .set S n=>h.SetOf (intKind P w) a S n
 | .ins C e fs=>H e=cI (.own a)/\fs.length<=1000/\e≠a/\h.get? a=cI (PySem.W.instObj C e)/\
  ∃mA,h.Ns1 e mA/\(∀f,B9 (fs.lookup f)<|mA f)/\Hu mA (fs.map (·.1))
 | .own _=>∃o,h.get? a=cI o
 | .xd fs=>∃mA,h.Ns1 a mA/\∀f,B9 (fs.lookup f)<|mA f
 | .sx lo m=>∃t u v,h.get? a=cI {cls:= .type "range",data:= .fields #[.int lo t,.int m u,.int 1 v]}
 | .ri o u=>h.get? a=cI o/\l8 H h a u
 | .DZ r=>h.get? a=cI {cls:= .none,data:= .fields r}
 | .met f x=>h.get? a=cI (Hd (.ref f)<|.ref x)
 | .ext g=>g h/\(∃o,h.get? a=cI o)/\∀j k:ia,g j->(∀o,j.get? a=cI o->k.get? a=cI o)->g k
def m5(H:Hp)(h:ia):Prop:=∀a o,H a=cI o->l8 P w H h a o
end
section
variable{P:i8}{w:i5}{H H':Hp}{h h':ia}{a:eH}{o:HO}
theorem l8.lt(x:l8 P w H h a o):a<h.objs.size:=by
 cases o with
 | lst d=>obtain⟨_,_,_,_,e⟩:=x;exact Bz e
 | tup d=>obtain⟨_,_,_,p⟩:=x;exact p.tup.lt
 | dK b=>obtain⟨_,_,_,_,o,_,_,e,_⟩:=x;exact Bz e
 | dT b=>obtain⟨_,_,_,_,o,_,_,e,_⟩:=x;exact Bz e
 | set S n=>obtain⟨o,_,_,_,e,_⟩:=x;exact Bz e
 | ins C g fs=>obtain⟨_,_,_,e,_⟩:=x;exact Bz e
 | own y=>obtain⟨_,e⟩:=x;exact Bz e
 | xd fs=>obtain⟨_,⟨_,_,_,e,_⟩,_⟩:=x;exact Bz e
 | sx lo i=>obtain⟨_,_,_,e⟩:=x;exact Bz e
 | ri z u=>obtain⟨e,_⟩:=x;exact Bz e
 | DZ j=>exact Bz (show h.get? a=cI _ from x)
 | met f y=>exact Bz (show h.get? a=cI _ from x)
 | ext k=>obtain⟨_,⟨_,e⟩,_⟩:=x;exact Bz e
theorem Paired.Mn : ∀{z:List α} {I:List β},Paired F z I->(∀a b,F a b->G a b)->Paired G z I
 | _,_,.nil,_=> .nil
 | _,_,.cons r t,f=> .cons (f _ _ r) (Paired.Mn t f)
theorem l8.A7(x:l8 P w H h a o)(k : ∀b u,(b=a\/H b=cI (.own a))->h.get? b=cI u->h'.get? b=cI u)
 (Y : ∀b,H b=cI (.own a)->H' b=cI (.own a)) (J : ∀b xs,H b=cI (.tup xs)->H' b=cI (.tup xs)):l8 P w H' h' a o:=by
 induction o with
 | lst xs=>obtain⟨z,U,n,r,e⟩:=x;exact⟨z,U,n,r,k _ _ (.inl rfl) e⟩
 | tup xs=>obtain⟨z,U,r,I,e,c⟩:=x;exact⟨z,U,r,I,k _ _ (.inl rfl) e,c⟩
 | dK i=>obtain⟨z,y,E,r,I,g,O,e,c⟩:=x;exact⟨z,y,E,r,I,g,O,k _ _ (.inl rfl) e,c⟩
 | dT i=>
  obtain⟨z,y,xs,r,I,g,O,e,c⟩:=x;exact⟨z,y,xs,Paired.Mn r λp q z=>⟨z.1,J _ _ z.2.1,z.2.2⟩,I,g,O,k _ _ (.inl rfl) e,c⟩
 | set S n=>obtain⟨I,g,O,t,e,c⟩:=x;exact⟨I,g,O,t,k _ _ (.inl rfl) e,c⟩
 | ins C F fs=>
  obtain⟨d,z,B,e,j,⟨l,g,O,s,c⟩,r⟩:=x;exact⟨Y _ d,z,B,k _ _ (.inl rfl) e,j,⟨l,g,O,k _ _ (.inr d) s,c⟩,r⟩
 | own y=>obtain⟨I,e⟩:=x;exact⟨I,k _ _ (.inl rfl) e⟩
 | xd fs=>obtain⟨j,⟨l,g,O,e,c⟩,r⟩:=x;exact⟨j,⟨l,g,O,k _ _ (.inl rfl) e,c⟩,r⟩
 | sx lo G=>obtain⟨t,u,v,e⟩:=x;exact⟨t,u,v,k _ _ (.inl rfl) e⟩
 | ri I u A=>obtain⟨e,q⟩:=x;exact⟨k _ _ (.inl rfl) e,A q⟩
 | DZ m=>
  have e:h.get? a=cI {cls:= .none,data:= .fields m}:=x;show h'.get? a=cI {cls:= .none,data:= .fields m};exact k a _ (.inl rfl) e
 | met f y=>
  have e:h.get? a=cI (Hd (.ref f)<|.ref y):=x;show h'.get? a=cI (Hd (.ref f)<|.ref y);exact k a _ (.inl rfl) e
 | ext K=>obtain⟨p,⟨o,e⟩,st⟩:=x;exact⟨st _ _ p λo q=>k _ _ (.inl rfl) q,⟨o,k _ _ (.inl rfl) e⟩,st⟩
theorem m5.lt(x:m5 P w H h)(e:H a=cI o):a<h.objs.size:=(x a o e).lt
theorem m5.fresh(x:m5 P w H h)(e:h.objs.size<=a):H a=cS:=by
 cases q:H a with
 | none=>rfl
 | some u=>exact absurd (BF (x.lt q) e)<|CF _
theorem m5.kept(x:m5 P w H h)(k : ∀b u,h.get? b=cI u->h'.get? b=cI u):m5 P w H h':=λa o e=>
 (x a o e).A7 (λb u _ q=>k b u q) (λ_ q=>q) λ_ _ q=>q
theorem m5.laid(x:m5 P w H h)(k : ∀b u,h.get? b=cI u->h'.get? b=cI u)(I:h.objs.size<=a)(new:l8 P w (upd H a o) h' a o):m5 P w (upd H a o) h':=λb u e=>by
 have d:=x.fresh I;by_cases z:b=a
 ·subst z;rw[zu]at e;cases e;exact new
 ·rw[zt z]at e
  exact(x b u e).A7 (λc v _ q=>k c v q) (λc q=>by rw[zt (zI q d)];exact q) λc f q=>by rw[zt (zI q d)];exact q
end
noncomputable def Rd(H:Hp)(a:eH)(u:HO):Prop:=H a=cI u\/∃o,H a=cI (.ri o u)
theorem Rd.ok(r:Rd H a u)(x:m5 P w H h):l8 P w H h a u:=by
 rcases r with r | ⟨o,r⟩
 ·exact x a u r
 ·obtain⟨_,q⟩:=x a _ r
  exact q
noncomputable def HV:Option HO->Prop
 | some (.lst _)=>True
 | some (.dK _)=>True
 | some (.dT _)=>True
 | some (.set _ _)=>True
 | some (.ins _ _ _)=>True
 | some (.ext _)=>True
 | _=>False
section
variable{P:i8}{w:i5}{H:Hp}{h h':ia}{x e:eH}{o':HO}
theorem m5.write(ok:m5 P w H h)(I:HV (H x))(J:e=x\/H e=cI (.own x))(k : ∀b u,b≠e->h.get? b=cI u->h'.get? b=cI u)(L : ∃u,h'.get? e=cI u)
 (new:l8 P w (upd H x o') h' x o'):m5 P w (upd H x o') h':=λb u q=>by
 have d : ∀c y,H c=cI (.own y)->c≠x:=λc y r z=>by subst z;rw[r]at I;exact I
 have g : ∀c a,H c=cI (.tup a)->c≠x:=λc a r z=>by subst z;rw[r]at I;exact I
 by_cases O:b=x
 ·subst O;rw[zu]at q;cases q;exact new
 ·rw[zt O]at q
  by_cases U:b=e
  ·have f:H b=cI (.own x):=by
    rcases J with z | z
    ·exact absurd (U.trans z) O
    ·rw[U];exact z
   rw[q]at f;cases f;obtain⟨v,i⟩:=L;exact⟨v,by rw[U];exact i⟩
  ·refine(ok b u q).A7 (λc v Y r=>k c v ?_ r) (λc r=>by rw[zt (d c b r)];exact r) λc a r=>by rw[zt (g c a r)];exact r
   rcases Y with rfl | Y
   ·exact U
   ·rintro rfl
    rcases J with z | z
    ·exact d c b Y z
    ·rw[Y]at z;cases z;exact O rfl
end
structure Un(fs ex:List eH)(H H':Hp)(h h':ia):Prop where
 keep : ∀b o,h.get? b=cI o->H b=cS->b∉fs->b∉ex->h'.get? b=cI o
 slot : ∀b o,h.get? b=cI o->H b=cS->b∈fs->b∉ex->∃sl,h'.get? b=cI {o with slots:=sl}
 free : ∀b o,h.get? b=cI o->H b=cS->b∉ex->H' b=cS
 there : ∀b o,h.get? b=cI o->b∉ex->∃o',h'.get? b=cI o'
 xC : ∀b xs,H b=cI (.tup xs)->H' b=cI (.tup xs)
 vr : ∀b o u,H b=cI (.ri o u)->H' b=cI (.ri o u)
 xg : ∀b ps,H b=cI (.DZ ps)->∃more,H' b=cI (.DZ<|ps++more)
section
variable{fs Ng ex NW:List eH}{H H1 H2:Hp}{h h1 h2 h':ia}{a x e:eH}{o:HO}
theorem Un.any(u:Un fs ex H H1 h h1)(q:h.get? b=cI ob)(n:H b=cS)(z:b∉ex) : ∃J,h1.get? b=cI {ob with slots:=J}:=by
 by_cases I:b∈fs
 ·exact u.slot b ob q n I z
 ·exact⟨ob.slots,u.keep b ob q n I z⟩
theorem Un.kept(k : ∀b u,h.get? b=cI u->h'.get? b=cI u):Un fs ex H H h h':=
 ⟨λb z q _ _ _=>k b z q,λb z q _ _ _=>⟨z.slots,k b z q⟩,λ_ _ _ n _=>n,λb z q _=>⟨z,k b z q⟩,λ_ _ q=>q,λ_ _ _ q=>q,λ_ a q=>⟨#[],by rw[q];simp⟩⟩
theorem Un.refl:Un fs ex H H h h:=Un.kept λ_ _ q=>q
theorem Un.laid(k : ∀b u,h.get? b=cI u->h'.get? b=cI u)(z:h.objs.size<=a)(hn:H a=cS):Un fs ex H (upd H a o) h h' where
 keep:=λb u q _ _ _=>k b u q
 slot:=λb u q _ _ _=>⟨u.slots,k b u q⟩
 free:=λb u q n _=>by rw[zt (BH<|BF (Bz q) z)];exact n
 there:=λb u q _=>⟨u,k b u q⟩
 xC:=λb xs q=>by rw[zt (zI q hn)];exact q
 vr:=λb u xs q=>by rw[zt (zI q hn)];exact q
 xg:=λb ps q=>⟨#[],by rw[zt (zI q hn),q];simp⟩
theorem Un.write(I:HV (H x))(L:e=x\/H e=cI (.own x))(k : ∀b u,b≠e->h.get? b=cI u->h'.get? b=cI u)(J : ∃u,h'.get? e=cI u):Un fs ex H (upd H x o) h h':=by
 have O : ∀b,H b=cS->b≠x:=λb n z=>by subst z;rw[n]at I;exact I
 have U : ∀b,H b=cS->b≠e:=λb n z=>by
  subst z;rcases L with r | r
  ·exact O b n r
  ·rw[n]at r;cases r
 have a : ∀b u,H b=cI u->¬HV (cI u)->b≠x:=λb u q nm z=>by subst z;rw[q]at I;exact nm I
 refine⟨λb u q n _ _=>k b u (U b n) q,λb u q n _ _=>⟨u.slots,k b u (U b n) q⟩,λb u q n _=>by rw[zt (O b n)];exact n,λb u q _=>?_,
  λb d q=>by rw[zt (a b _ q λz=>z)];exact q,λb u d q=>by rw[zt (a b _ q λz=>z)];exact q,λb f q=>⟨#[],by rw[zt (a b _ q λz=>z),q];simp⟩⟩
 by_cases Y:b=e
 ·subst Y;exact J
 ·exact⟨u,k b u Y q⟩
end
noncomputable def I8(h:ia)(H:Hp):List eH:=(Br h.objs.size).filter λa=>(H a).isSome
def bu(h:ia)(H:Hp):ia:=FP h<|I8 h H
theorem VP(h:ia)(H:Hp):(bu h H).objs.size=h.objs.size:=PySem.W.hideAll_size _ _
theorem bt(e:h.get? b=cI o)(n:H b=cS):(bu h H).get? b=cI o:=
 Fm _ e λa=>by have q:(H b).isSome=d6:=(Ef.mp a).2;rw[n]at q;simp at q
theorem fM(e:(bu h H).get? b=cI o):h.get? b=cI o/\H b=cS:=by
 have I:h.get? b=cI o:=GS (I8 h H) e;refine⟨I,?_⟩;cases q:H b with
 | none=>rfl
 | some x=>
  have a:b∈I8 h H:=Ef.mpr ⟨BD.mpr<|Bz I,by simp[q]⟩;have z:(bu h H).get? b=cS:=PySem.W.hideAll_none (I8 h H) a;rw[z]at e;cases e
noncomputable def gY(g h:ia)(L:eH):List (eH×m7):=(Br h.objs.size).filterMap λa=>if a=L\/(g.get? a).isSome=d6 then cS else (h.get? a).map λo=>(a,o)
noncomputable def rest(g h:ia)(L d:eH):List (eH×m7):=(gY g h L).filter λp=>decide<|p.1≠d
structure Mod(K:Bo)(mg:MJ)(base:ia):Prop where
 DB:K.In base
 glob:base.Ns p9 mg
 blt : ∃mb,base.Ns Mb mb/\∀x:Str,x ≠ "__name__"->mb x=Dt x
 nolimit:base.NoLimit
structure Cx where
 prog:i8
 w:i5
 K:Bo
 mg:Str->Option eM
 base:ia
 A:l9
 N:List Str
 l5:hA
 DM:Hp
 env:mr
 outer:List mr
 stack:List mr
 ex:List eH
 fn:Str->Bool
 calm:Bool
 pn:List (eH×m7)
 xe:eM->hA->Prop
def n5(l:List mr):List eH:=l.filterMap (·.frame)
abbrev Cx.fs(X:Cx):List eH:=n5 X.outer
noncomputable def IH(z:i7)(x:Str):Prop:=z.names.lookup x=cI .local\/z.names.lookup x=cI .cell\/z.names.lookup x=cI .free
noncomputable def Loc(z:i7)(x:Str):Prop:=z.names.lookup x=cI .local\/z.names.lookup x=cI .cell
noncomputable def Bc(env:mr)(h:ia)(m:MJ)(x:Str)(u:eM):Prop:=
 (env.kindOf x=cI .local/\m x=cI u)\/((env.kindOf x=cI .cell\/env.kindOf x=cI .free)/\∃c,env.cells.lookup x=cI c/\h.IsCell c (cI u))
structure Cx.Ok(X:Cx):Prop where
 mod:Mod X.K X.mg X.base
 kind:X.env.scope.kind = .function
 glob:X.env.globals=p9
 blt:X.env.builtins=Mb
 above:X.l5.heap.objs.size<=X.env.locals
 inj : ∀x y c,X.env.cells.lookup x=cI c->X.env.cells.lookup y=cI c->x=y
 has : ∀x,(X.env.kindOf x=cI .cell\/X.env.kindOf x=cI .free)->∃c,X.env.cells.lookup x=cI c
 D7 : ∀x c,X.fn x=d6->X.env.cells.lookup x=cI c->X.l5.heap.objs.size<=c
 hd:X.calm=d6->X.A.handled=cS
 frames:X.A.frames=cI X.stack
 Dk:X.stack=X.outer\/(X.stack=X.env::X.outer/\X.env.frame=cI X.env.locals)
 F7 : ∀b∈X.ex,b≠X.env.locals/\∀x c,X.env.cells.lookup x=cI c->c≠b
 bs : ∀b o,X.base.get? b=cI o->X.l5.heap.get? b=cI o/\X.DM b=cS
 B1:X.base.objs.size<=X.l5.heap.objs.size
 E5 : ∀b o,X.base.get? b=cI o->b∉X.ex
 D9 : ∀b∈X.ex,b∉X.fs
 rk:X.l5.heap.FunFrames X.base X.outer
 B4 : ∀b∈X.fs,X.DM b=cS
structure Inv(X:Cx)(pins:MW)(σ:List (Option V))(H:Hp)(s:hA):Prop where
 ok:X.Ok
 os:s.os=X.l5.os
 bare:Dm s.gens
 base:Un X.fs X.ex X.DM H X.l5.heap s.heap
 loc : ∃m,s.heap.Ns X.env.locals m/\∀(i:Nat) (x:Str) (v:V),X.N[i]? = cI x->σ[i]? = cI (cI v)->IH X.env.scope x->∃u,RelV v u/\Bc X.env s.heap m x u
 cell : ∀x c,X.env.cells.lookup x=cI c->∃v,s.heap.IsCell c v
 free:H X.env.locals=cS
 wh : ∀x c,X.env.cells.lookup x=cI c->H c=cS
 pin : ∀p∈X.pn++pins,s.heap.get? p.1=cI p.2/\H p.1=cS/\p.1≠X.env.locals/\p.1∉X.fs/\∀v,p.2.data ≠ .cell v
 ij:m5 X.prog X.w H s.heap
 len:σ.length=X.N.length
section
variable{X:Cx}{pins:MW}{σ:List (Option V)}{H H':Hp}{s:hA}{h':ia}
theorem Cx.Ok.Nv(ok:X.Ok)(e:X.base.get? b=cI o):b∉X.fs:=λz=>by have:=(ok.rk.mem z).1;rw[e]at this;cases this
theorem Inv.bs(I:Inv X pins σ H s) : ∀b o,X.base.get? b=cI o->s.heap.get? b=cI o/\H b=cS:=λb o e=>
 ⟨I.base.keep b o (I.ok.bs b o e).1 (I.ok.bs b o e).2 (I.ok.Nv e) (I.ok.E5 b o e),I.base.free b o (I.ok.bs b o e).1 (I.ok.bs b o e).2 (I.ok.E5 b o e)⟩
theorem Inv.bk(I:Inv X pins σ H s) : ∀b o,X.base.get? b=cI o->s.heap.get? b=cI o:=λb o e=>(I.bs b o e).1
theorem Inv.mod(I:Inv X pins σ H s):Mod X.K X.mg X.base:=I.ok.mod
theorem Inv.l7(I:Inv X pins σ H s):X.K.In s.heap:=I.ok.mod.DB.keeps I.bk
theorem Inv.lt(I:Inv X pins σ H s):X.env.locals<s.heap.objs.size:=let ⟨_,a,_⟩:=I.loc;a.lt
theorem Inv.sz(I:Inv X pins σ H s):X.l5.heap.objs.size<=s.heap.objs.size:=Co I.ok.above<|GO I.lt
theorem Inv.Nx(I:Inv X pins σ H s)(h:s.heap.objs.size<=a):a∉X.fs:=λz=>by obtain⟨_,o,O,_⟩:=I.ok.rk.mem z;exact absurd (BF (Bz O)<|Co I.sz h)<|CF _
theorem Inv.Du(I:Inv X pins σ H s) : ∀x c,X.env.cells.lookup x=cI c->c≠X.env.locals:=λx c e z=>by obtain⟨v,o,O,a⟩:=I.cell x c e;obtain⟨m,⟨f,d,b,U,Y,_⟩,_⟩:=I.loc;rw[z,U]at O;cases O;rw[Y]at a;cases a
theorem Inv.rk(I:Inv X pins σ H s):s.heap.FunFrames X.base X.outer:=by
 have all : ∀(l:List mr),(∀b∈n5 l,b∈X.fs)->X.l5.heap.FunFrames X.base l->s.heap.FunFrames X.base l:=by
  intro l
  induction l with
  | nil=>intro _ _;trivial
  | cons d r m=>
   intro Y h;obtain⟨g,⟨L,o,a,i,j,f⟩,k⟩:=h;have O:L∈X.fs:=Y L (by unfold n5;rw[GY,a];exact BQ);obtain⟨n,e⟩:=I.base.slot L o j (I.ok.B4 L O) O λz=>I.ok.D9 L z O;exact⟨g,⟨L,_,a,i,e,f⟩,m (λb U=>Y b<|by unfold n5;rw[GY,a];exact BL _ U) k⟩
 exact all X.outer (λ_ U=>U) I.ok.rk
theorem Inv.stack(I:Inv X pins σ H s):s.heap.FunFrames X.base X.stack:=by
 rcases I.ok.Dk with e | ⟨e,hf⟩
 ·rw[e];exact I.rk
 ·rw[e]
  obtain⟨m,a,_⟩:=I.loc;refine .cons (by rw[I.ok.kind];decide) hf a ?_ I.rk;exact GR<|Co I.ok.B1 I.ok.above
theorem Inv.G9(I:Inv X pins σ H s) : ∀b∈n5 X.stack,b∈X.env.locals::X.fs:=λb z=>by
 rcases I.ok.Dk with e | ⟨e,hf⟩
 ·rw[e]at z;exact BL _ z
 ·rw[e]at z
  unfold n5 at z;rw[GY,hf]at z;exact z
theorem Inv.G8(I:Inv X pins σ H s) : ∀b∈n5 X.stack,H b=cS:=λb O=>by
 rcases BC.mp (I.G9 b O)with e | O
 ·rw[e];exact I.free
 ·obtain⟨_,o,U,_⟩:=I.ok.rk.mem O
  exact I.base.free b o U (I.ok.B4 b O) λz=>I.ok.D9 b z O
theorem Inv.step{g':Array GenState}{t':Nat}{d':Drawn}{ch:List eH}(I:Inv X pins σ H s)
 (Z : ∀b∈ch,(b∈X.ex\/X.l5.heap.objs.size<=b)/\b≠X.env.locals/\(∀x c,X.env.cells.lookup x=cI c->c≠b)/\∀p∈X.pn++pins,p.1≠b)
 (keep : ∀b o,b≠X.env.locals->b∉X.fs->b∉ch->s.heap.get? b=cI o->H b=cS->h'.get? b=cI o)
 (J : ∀b o,b≠X.env.locals->b∈X.fs->b∉ch->s.heap.get? b=cI o->H b=cS->∃sl,h'.get? b=cI {o with slots:=sl}) (free : ∀b o,b∉ch->s.heap.get? b=cI o->H b=cS->H' b=cS)
 (L : ∀b o,b∉ch->s.heap.get? b=cI o->∃o',h'.get? b=cI o')
 (xC : ∀b xs,H b=cI (.tup xs)->H' b=cI (.tup xs)) (vr : ∀b o u,H b=cI (.ri o u)->H' b=cI (.ri o u)) (xg : ∀b ps,H b=cI (.DZ ps)->∃more,H' b=cI (.DZ<|ps++more))
 (ns : ∀m,s.heap.Ns X.env.locals m->h'.Ns X.env.locals m) (ij:m5 X.prog X.w H' h') (hg:Dm g') :
 Inv X pins σ H' {s with heap:=h',gens:=g',drawn:=d',toks:=t'}:=by
 have t : ∀b o,X.l5.heap.get? b=cI o->b≠X.env.locals:=λb o e=>BH<|BF (Bz e) I.ok.above;have h : ∀b o,X.l5.heap.get? b=cI o->b∉X.ex->b∉ch:=λb o e O U=>by
  rcases (Z b U).1 with z | z
  ·exact O z
  ·exact absurd (BF (Bz e) z)<|CF _
 have y : ∀x c,X.env.cells.lookup x=cI c->∀v,s.heap.IsCell c v->h'.IsCell c v:=λx c e v K=>by
  obtain⟨o,Y,j⟩:=K;have f:c∉ch:=λz=>(Z c z).2.2.1 x c e rfl;by_cases A:c∈X.fs
  ·obtain⟨sl,q⟩:=J c o (I.Du x c e) A f Y (I.wh x c e)
   exact⟨_,q,j⟩
  ·exact⟨o,keep c o (I.Du x c e) A f Y<|I.wh x c e,j⟩
 refine⟨I.ok,I.os,hg,⟨λb o e n U O=>?_,λb o e n U O=>?_,λb o e n O=>?_,λb o e O=>?_,λb xs e=>xC b xs<|I.base.xC b xs e,λb o xs e=>vr b o xs<|I.base.vr b o xs e,λb ps e=>?_⟩,?_,λx c e=>?_,?_,λx c e=>?_,λp B=>?_,ij,I.len⟩
 ·exact keep b o (t b o e) U (h b o e O) (I.base.keep b o e n U O)<|I.base.free b o e n O
 ·obtain⟨sl,a⟩:=I.base.slot b o e n U O
  obtain⟨F,g⟩:=J b _ (t b o e) U (h b o e O) a<|I.base.free b o e n O;exact⟨F,g⟩
 ·obtain⟨o',a⟩:=I.base.there b o e O
  exact free b o' (h b o e O) a<|I.base.free b o e n O
 ·obtain⟨o',a⟩:=I.base.there b o e O
  exact L b o' (h b o e O) a
 ·obtain⟨P,a⟩:=I.base.xg b ps e
  obtain⟨Q,g⟩:=xg b _ a;exact⟨P++Q,by rw[g,Array.append_assoc]⟩
 ·obtain⟨m,N,M⟩:=I.loc
  refine⟨m,ns m N,λi x v a g G=>?_⟩;obtain⟨u,r,l⟩:=M i x v a g G;refine⟨u,r,?_⟩;rcases l with l | ⟨k,c,e,z⟩
  ·exact .inl l
  ·exact .inr ⟨k,c,e,y x c e _ z⟩
 ·obtain⟨v,z⟩:=I.cell x c e
  exact⟨v,y x c e v z⟩
 ·obtain⟨m,⟨o,_,_,Y,_⟩,_⟩:=I.loc
  exact free _ o (λz=>(Z _ z).2.1 rfl) Y I.free
 ·obtain⟨v,o,Y,j⟩:=I.cell x c e
  exact free c o (λz=>(Z c z).2.2.1 x c e rfl) Y<|I.wh x c e
 ·obtain⟨e,n,C,E,d⟩:=I.pin p B
  have f:p.1∉ch:=λz=>(Z p.1 z).2.2.2 p B rfl;exact⟨keep p.1 p.2 C E f e n,free p.1 p.2 f e n,C,E,d⟩
theorem Inv.un{t':Nat}(I:Inv X pins σ H s)(u:Un X.fs [] H H' s.heap h')(J:m5 X.prog X.w H' h'):Inv X pins σ H' {s with heap:=h',toks:=t'}:=by
 obtain⟨m,⟨o,j,i,U,r⟩,_⟩:=id I.loc;obtain⟨p,f⟩:=u.any U I.free ⋯;exact I.step (g':=s.gens) (d':=s.drawn) (ch:=[]) (λ_ z=>nomatch z) (λb o _ O _ e n=>u.keep b o e n O ⋯) (λb o _ O _ e n=>u.slot b o e n O ⋯) (λb o _ e n=>u.free b o e n ⋯) (λb o _ e=>u.there b o e ⋯) u.xC u.vr u.xg (λk g=>by obtain⟨l,a,d,Y,h⟩:=g;rw[U]at Y;cases Y;exact⟨_,a,d,f,h⟩) J I.bare
theorem Inv.call{g':Array GenState}{t':Nat}{d':Drawn}{ch:List eH}(I:Inv X pins σ H s)(u:Un (n5 X.stack) ch H H' s.heap h')(J:m5 X.prog X.w H' h')(L:Dm g')
 (Y : ∀b∈ch,(b∈X.ex\/X.l5.heap.objs.size<=b)/\b≠X.env.locals/\(∀x c,X.env.cells.lookup x=cI c->c≠b)/\∀p∈X.pn++pins,p.1≠b) :
 Inv X pins σ H' {s with heap:=h',gens:=g',drawn:=d',toks:=t'}:=by
 obtain⟨m,⟨o,l,k,d,r⟩,_⟩:=id I.loc;obtain⟨A,U⟩:=u.any d I.free λz=>(Y _ z).2.1 rfl;exact I.step (ch:=ch) Y (λb o U h O e n=>u.keep b o e n (λz=>(BC.mp<|I.G9 b z).elim U h) O) (λb o _ _ O e n=>u.any e n O) (λb o O e n=>u.free b o e n O) (λb o O e=>u.there b o e O) u.xC u.vr u.xg (λt i=>by obtain⟨y,f,g,a,j⟩:=i;rw[d]at a;cases a;exact⟨_,f,g,U,j⟩) J L
theorem Inv.turned{t':Nat}{it:eH}(I:Inv X pins σ H s)(k : ∀b o,b≠it->s.heap.get? b=cI o->h'.get? b=cI o)(hn:H it=cS)(U:it≠X.env.locals)
 (J:it∈X.ex\/X.l5.heap.objs.size<=it) (L : ∀x c,X.env.cells.lookup x=cI c->c≠it) (Z : ∀p∈X.pn++pins,p.1≠it):Inv X pins σ H {s with heap:=h',toks:=t'}:=by
 have Y : ∀b u,H b=cI u->b≠it:=λb u e z=>by rw[z,hn]at e;cases e
 refine I.step (g':=s.gens) (d':=s.drawn) (ch:=[it]) (λb f=>?_) (λb o _ _ O e _=>k b o (λz=>O<|by simp[z]) e) (λb o _ _ O e _=>⟨o.slots,k b o (λz=>O<|by simp[z]) e⟩) (λ_ _ _ _ n=>n)
  (λb o O e=>⟨o,k b o (λz=>O<|by simp[z]) e⟩) (λ_ _ e=>e) (λ_ _ _ e=>e) (λb i e=>⟨#[],by rw[e];simp⟩) (λm g=>?_) (λb u e=>?_) I.bare
 ·have e:b=it:=by simpa using f
  subst e;exact⟨J,U,L,Z⟩
 ·obtain⟨o,d,a,h,r⟩:=g
  exact⟨o,d,a,k _ o (CP U) h,r⟩
 ·refine(I.ij b u e).A7 (λc v O q=>k c v ?_ q) (λ_ q=>q) λ_ _ q=>q
  rcases O with z | z
  ·rw[z];exact Y b u e
  ·exact Y c _ z
theorem Inv.tok(I:Inv X pins σ H s)(t:Nat):Inv X pins σ H {s with toks:=t}:=I.un (h':=s.heap) (t':=t) Un.refl I.ij
theorem Inv.kept(I:Inv X pins σ H s)(k : ∀b u,s.heap.get? b=cI u->h'.get? b=cI u):Inv X pins σ H {s with heap:=h',toks:=t'}:=I.un (Un.kept k)<|I.ij.kept k
theorem Inv.laid(I:Inv X pins σ H s)(k : ∀b u,s.heap.get? b=cI u->h'.get? b=cI u)(z:s.heap.objs.size<=a)(new:l8 X.prog X.w (upd H a o) h' a o) :
 Inv X pins σ (upd H a o) {s with heap:=h',toks:=t'}:=I.un (Un.laid k z<|I.ij.fresh z)<|I.ij.laid k z new
theorem Inv.write(I:Inv X pins σ H s)(z:HV (H x))(O:e=x\/H e=cI (.own x))(k : ∀b u,b≠e->s.heap.get? b=cI u->h'.get? b=cI u)(U : ∃u,h'.get? e=cI u)
 (new:l8 X.prog X.w (upd H x o) h' x o):Inv X pins σ (upd H x o) {s with heap:=h',toks:=t'}:=I.un (Un.write z O k U)<|I.ij.write z O k U new
theorem Inv.Mq(I:Inv X pins σ H s)(h : ∀p∈O,s.heap.get? p.1=cI p.2/\H p.1=cS/\p.1≠X.env.locals/\p.1∉X.fs/\∀v,p.2.data ≠ .cell v):Inv X O σ H s:=
 ⟨I.ok,I.os,I.bare,I.base,I.loc,I.cell,I.free,I.wh,λp U=>(List.mem_append.mp U).elim (λz=>I.pin p<|List.mem_append_left _ z) (h p),I.ij,I.len⟩
theorem Zz{N:List Str}(z:N.Nodup){i j:Nat}{x:Str}(a:N[i]? = cI x)(b:N[j]? = cI x):i=j:=by obtain⟨e,d⟩:=BP.mp a;obtain⟨f,I⟩:=BP.mp b;exact(List.getElem_inj z).mp (d.trans I.symm)
theorem Ja{M:Model}{A:l9}{E:MQ}{i:Nat}{x:Str}{v:V}{u:eM}{Q:Unit->hA->Prop}(I:Inv X pins σ H s)(hN:X.N.Nodup)(J:X.N[i]? = cI x)(Y:Loc X.env.scope x)(r:RelV v u)
 (h : ∀s',Inv X pins (σ.set i<|some v) H s'->(∃a,FK a s.heap s'.heap/\(a=X.env.locals\/X.env.cells.lookup x=cI a))->Q () s') (hf:X.fn x=d6\/X.env.scope.names.lookup x=cI .local:=by first | exact .inl rfl | exact .inr rfl | assumption):wpAny M A (storeName X.env x u) Q E s:=by
 obtain⟨m,L,hl⟩:=id I.loc;have ax:(X.env.scope.kind == .class || (X.env.scope.kind == .module && X.env.locals != X.env.globals))=eF:=by rw[I.ok.kind];rfl
 have ag:i<σ.length:=by rw[I.len];exact(BP.mp J).1
 have Du:=I.Du;have am : ∀{a:eH} {h':ia},(∃o,s.heap.get? a=cI o/\H a=cS)->FK a s.heap h'->m5 X.prog X.w H h':=λ{a h'} ha O b ob e=>by
  obtain⟨_,_,an⟩:=ha;refine(I.ij b ob e).A7 (λc F U q=>(O.2 c ?_).trans q) (λ_ q=>q) λ_ _ q=>q;rintro rfl;rcases U with rfl | U
  ·rw[an]at e;cases e
  ·rw[an]at U;cases U
 rcases Y with hk | hk
 ·refine wpAny_storeName_local hk L (λh' bb O=>?_) ax
  obtain⟨oL,_,_,be,_⟩:=id L;refine h _ ⟨I.ok,I.os,I.bare,⟨λb o e n l Y=>?_,λb o e n l Y=>?_,I.base.free,λb o e Y=>?_,I.base.xC,I.base.vr,I.base.xg⟩,⟨_,bb,λj y v' f g K=>?_⟩,λy c e=>?_,I.free,I.wh,λp P=>?_,am ⟨oL,be,I.free⟩ O,by simpa using I.len⟩ ⟨_,O,.inl rfl⟩
  ·exact(O.2 b<|BH<|BF (Bz e) I.ok.above).trans (I.base.keep b o e n l Y)
  ·obtain⟨W,f⟩:=I.base.slot b o e n l Y
   exact⟨W,(O.2 b<|BH<|BF (Bz e) I.ok.above).trans f⟩
  ·obtain⟨S,f⟩:=I.base.there b o e Y
   exact⟨S,(O.2 b<|BH<|BF (Bz e) I.ok.above).trans f⟩
  ·by_cases t:j=i
   ·subst t
    rw[J]at f;cases f;rw[CC ag]at g;cases g;exact⟨u,r,.inl ⟨hk,by simp⟩⟩
   ·rw[BA (CP t)]at g
    obtain⟨Z,T,q⟩:=hl j y v' f g K;refine⟨Z,T,?_⟩;rcases q with⟨k,e⟩ | ⟨k,c,e,z⟩
    ·refine .inl ⟨k,?_⟩
     have:y≠x:=λe=>t<|Zz hN f<|e ▸ J;simp[this,e]
    ·exact .inr ⟨k,c,e,z.sameBut O<|Du y c e⟩
  ·obtain⟨F,z⟩:=I.cell y c e
   exact⟨F,z.sameBut O<|Du y c e⟩
  ·obtain⟨e,n,C,R,d⟩:=I.pin p P
   exact⟨(O.2 p.1 C).trans e,n,C,R,d⟩
 ·have G:X.fn x=d6:=by
   rcases hf with z | z
   ·exact z
   ·rw[z]at hk;cases hk
  obtain⟨c,U⟩:=I.ok.has x<|.inl hk;obtain⟨F,z⟩:=I.cell x c U;refine wpAny_storeName_cell I.ok.kind hk U z<|λh' ap O=>?_;obtain⟨oc,ar,bg⟩:=id z;refine h {s with heap:=h'} ⟨I.ok,I.os,I.bare,⟨λb o e n l Y=>?_,λb o e n l Y=>?_,I.base.free,λb o e Y=>?_,I.base.xC,I.base.vr,I.base.xg⟩,⟨m,L.sameBut O<|CP<|Du x c U,λj y v' f g K=>?_⟩,λy B e=>?_,I.free,I.wh,λp P=>?_,am ⟨oc,ar,I.wh x c U⟩ O,by simpa using I.len⟩ ⟨c,O,.inr U⟩
  ·exact(O.2 b<|BH<|BF (Bz e)<|I.ok.D7 x c G U).trans (I.base.keep b o e n l Y)
  ·obtain⟨W,f⟩:=I.base.slot b o e n l Y
   exact⟨W,(O.2 b<|BH<|BF (Bz e)<|I.ok.D7 x c G U).trans f⟩
  ·obtain⟨S,f⟩:=I.base.there b o e Y
   exact⟨S,(O.2 b<|BH<|BF (Bz e)<|I.ok.D7 x c G U).trans f⟩
  ·by_cases t:j=i
   ·subst t
    rw[J]at f;cases f;rw[CC ag]at g;cases g;exact⟨u,r,.inr ⟨.inl hk,c,U,ap⟩⟩
   ·rw[BA (CP t)]at g
    obtain⟨Z,T,q⟩:=hl j y v' f g K;refine⟨Z,T,?_⟩;rcases q with q | ⟨k,B,e,z'⟩
    ·exact .inl q
    ·refine .inr ⟨k,B,e,z'.sameBut O ?_⟩
     rintro rfl;exact t<|Zz hN f<|I.ok.inj _ _ _ e U ▸ J
  ·by_cases as:B=c
   ·subst as;exact⟨_,ap⟩
   ·obtain⟨w2,z2⟩:=I.cell y B e
    exact⟨w2,z2.sameBut O as⟩
  ·obtain⟨e,n,C,R,d⟩:=I.pin p P
   refine⟨(O.2 p.1 ?_).trans e,n,C,R,d⟩;intro q;rw[q,ar]at e;have q':oc=p.2:=Cd e;exact d F (by rw[<- q'];exact bg)
theorem Zr(I:Inv X pins σ H s)(z:X.N.Nodup)(L:X.N[i]? = cI x)(O:Loc X.env.scope x)(r:RelV v u)
 (h : ∀s',Inv X pins (σ.set i<|some v) H s'->Q () s') (J:X.fn x=d6\/X.env.scope.names.lookup x=cI .local:=by first | exact .inl rfl | exact .inr rfl | assumption):wpAny M A (storeName X.env x u) Q E s:=
 Ja I z L O r (λs' U _=>h s' U) J
theorem Inv.Mc(I:Inv X pins σ H s)(z:s'.os=s.os)(u:Un (n5 X.stack) ch H H' s.heap s'.heap)(J:m5 X.prog X.w H' s'.heap)(O:Dm s'.gens)
 (U : ∀b∈ch,(b∈X.ex\/X.l5.heap.objs.size<=b)/\b≠X.env.locals/\(∀x c,X.env.cells.lookup x=cI c->c≠b)/\∀p∈X.pn++pins,p.1≠b):Inv X pins σ H' s':=by
 obtain⟨h',g',d',t',a⟩:=s';have e:a=s.os:=z;subst e;exact I.call (g':=g') (t':=t') (d':=d') u J O U
end
abbrev XK:=eM->Option eH->Hp->Prop
abbrev St:=List (Option V)
abbrev VK:=V->Hp->Prop
abbrev TE:=St->Hp->VK->Prop
abbrev TT:=St->Hp->(Bool->Hp->Prop)->Prop
abbrev TA:=St->Hp->(List V->Hp->Prop)->Prop
structure Ends where
 nx:St->Hp->Prop
 rt:VK
 bk:St->Hp->Prop:=λ_ _=>False
 ct:St->Hp->Prop:=λ_ _=>False
abbrev TS:=Ends->St->Hp->Prop
noncomputable def EP(X:Cx)(z:MW)(H:St)(Q:VK)(u:eM)(s':hA):Prop:=∃v a,Inv X z H a s'/\RelV v u/\Q v a
noncomputable def TP(X:Cx)(z:MW)(H:St)(Q:Bool->Hp->Prop)(b:Bool)(s':hA):Prop:=∃a,Inv X z H a s'/\Q b a
noncomputable def AP(X:Cx)(z:MW)(I:St)(Q:List V->Hp->Prop)(H:List eM)(s':hA):Prop:=∃b a,Inv X z I a s'/\i0 b H/\Q b a
noncomputable def SP(X:Cx)(z:MW)(D:Ends)(f:Flow)(s':hA):Prop:=
 match f with
 | .next=>∃a b,Inv X z a b s'/\D.nx a b
 | .brk=>∃a b,Inv X z a b s'/\D.bk a b
 | .cont=>∃a b,Inv X z a b s'/\D.ct a b
 | .ret u=>∃v a b,Inv X z a b s'/\RelV v u/\D.rt v b
noncomputable def PE(X:Cx)(e:hI)(t:TE):Prop:=
 ∀(a:MW) (s:hA) (b:St) (H:Hp) (Q:VK),Inv X a b H s->t b H Q->wpAny (hH X.prog X.w) X.A (hM e X.env) (EP X a b Q) X.xe s
noncomputable def PT(X:Cx)(e:hI)(t:TT):Prop:=
 ∀(a:MW) (s:hA) (b:St) (H:Hp) (Q:Bool->Hp->Prop),Inv X a b H s->t b H Q->wpAny (hH X.prog X.w) X.A (E1 e X.env<|eval e X.env) (TP X a b Q) X.xe s
noncomputable def PW(X:Cx)(e:hI)(t:TT):Prop:=
 ∀(z:Sem eM) (a:MW) (s:hA) (b:St) (H:Hp) (Q:Bool->Hp->Prop),Inv X a b H s->t b H Q->wpAny (hH X.prog X.w) X.A (E1 e X.env z) (TP X a b Q) X.xe s
theorem PW.pt(h:PW X e t):PT X e t:=h _
noncomputable def PA(X:Cx)(z:List hI)(t:TA):Prop:=
 ∀(pos:ik) (a:MW) (s:hA) (b:St) (H:Hp) (Q:List V->Hp->Prop),Inv X a b H s->t b H Q->wpAny (hH X.prog X.w) X.A (A6<|backTo pos<|starEach z X.env) (AP X a b Q) X.xe s
noncomputable def PS(X:Cx)(st:l0)(t:TS):Prop:=
 ∀(a:MW) (s:hA) (b:St) (H:Hp) (D:Ends),Inv X a b H s->t D b H->wpAny (hH X.prog X.w) X.A (exec st X.env) (SP X a D) X.xe s
noncomputable def tx(X:Cx)(st:List l0)(t:TS):Prop:=
 ∀(a:MW) (s:hA) (b:St) (H:Hp) (D:Ends),Inv X a b H s->t D b H->wpAny (hH X.prog X.w) X.A (execs st X.env) (SP X a D) X.xe s
theorem ih(h:wpAny M A t Q E s)(z : ∀a s,Q a s->Q' a s):wpAny M A t Q' E s:=BN h z λ_ _ x=>x
section
variable{X:Cx}
def dE(i:Nat):TE:=λa H Q=>∃v,a[i]? = cI (cI v)/\Q v H
def tC(v:V):TE:=λ_ H Q=>Q v H
theorem cJ(Y:X.N[i]? = cI x)(Z:IH X.env.scope x)(J:(x==("__debug__" : Str))=eF:=by decide)(L:(x==("__classdict__" : Str))=eF:=by decide):PE X (.Name x pos) (dE i):=by
 intro a s g H Q I h;obtain⟨v,e,h⟩:=h;obtain⟨m,f,b⟩:=I.loc;obtain⟨u,r,l⟩:=b i x v Y e Z;have z:EP X a g Q u s:=⟨v,H,I,r,h⟩;rcases l with⟨hk,d⟩ | ⟨hk,c,O,U⟩
 ·exact MG (wpAny_loadName_local I.ok.kind hk f d z) J
 ·rcases hk with hk | hk
  ·exact MG (wpAny_loadName_cell I.ok.kind hk O U z) J
  ·exact MG (wpAny_loadName_free I.ok.kind hk O U z L) J
theorem mf:PE X (.Constant (.int i) j pos) (tC<|.int i):=λ_ _ _ H _ I h=>wpAny_Constant_int ⟨.int i,H,I.tok _,⟨_,rfl⟩,h⟩
theorem rM:PE X (.Constant (.bool b) j pos) (tC<|.bl b):=λ_ _ _ H _ I h=>Constant_bool ⟨.bl b,H,I,rfl,h⟩
theorem lY:PE X (.Constant (.str x) j pos) (tC<|.str x):=λ_ _ _ H _ I h=>Hf ⟨.str x,H,I.tok _,⟨_,rfl⟩,h⟩
def Gl(X:Cx)(x:Str):Prop:=X.env.kindOf x=cI .globalImplicit
theorem xw(I:Inv X pins σ H s)(z:Gl X x)(L:X.mg x=cI u)(h:Q u s)
 (J:(x==("__debug__" : Str))=eF:=by decide):wpAny (hH X.prog X.w) X.A (hM (.Name x pos) X.env) Q E s:=
 Calls.Name_function_global I.ok.kind z (Calls.loadGlobal_global (by rw[I.ok.glob];exact I.mod.glob.keeps I.bk) L h) J
theorem qU(I:Inv X pins σ H s)(z:Gl X x)(L:X.mg x=cS)(O:Dt x=cI u)(h:Q u s)
 (Y:x ≠ "__name__":=by decide) (J:(x==("__debug__" : Str))=eF:=by decide):wpAny (hH X.prog X.w) X.A (hM (.Name x pos) X.env) Q E s:=by
 obtain⟨d,a,b⟩:=I.mod.blt;exact Calls.Name_function_global I.ok.kind z (Calls.loadGlobal_builtin (by rw[I.ok.glob];exact I.mod.glob.keeps I.bk) L (by rw[I.ok.blt];exact a.keeps I.bk) ((b x Y).trans O) h) J
variable{a b:hI}{ta tb:TE}{pos:ik}
noncomputable def PC(X:Cx)(z:CmpOp)(a b:hI)(t:TE):Prop:=
 ∀(d:MW) (s:hA) (e:St) (H:Hp) (Q:VK),Inv X d e H s->t e H Q->
  wpAny (hH X.prog X.w) X.A (hM a X.env) (λv I=>wpAny (hH X.prog X.w) X.A (hM b X.env) (λu O=>wpAny (hH X.prog X.w) X.A (ro z v u) (EP X d e Q) X.xe O) X.xe I) X.xe s
theorem aX(b:hI)(h:op ≠ .In)(H:op ≠ .NotIn):C3 op b=eF:=by
 have a:(op==CmpOp.In)=eF:=by cases op<;>first | rfl | exact absurd rfl h
 have z:(op==CmpOp.NotIn)=eF:=by cases op<;>first | rfl | exact absurd rfl H
 cases b<;>simp[C3,a,z]
def tB(t:TE):TT:=λb H Q=>t b H λx a=>∃c,x = .bl c/\Q c a
theorem lP(h:PC X op a b t)(J:C3 op b=eF:=by first | exact aX _ ⋯ ⋯ | rfl):PT X (.Compare a [op] [b] pos) (tB t):=by intro e s j H Q I i;refine wpAny_isTrue_Compare1 (ih (h e s j H _ I i) λv k J=>ih J λu l g=>ih g λc m z=>?_) J;obtain⟨x,f,O,U,Y⟩:=z;obtain⟨d,rfl,q⟩:=Y;cases U;exact Ee ⟨f,O,q⟩
theorem lN(h:PE X e t)(O : ∀z,E1 e X.env z=(do let v <- z;G7 e.pos;Dz [v] (truthy v)):=by intro _;rfl):PT X e (tB t):=by intro a s j H Q I f;refine isTrue_plain (ih (h a s j H _ I f) λv k U=>?_)<|O _;obtain⟨x,b,Y,i,g⟩:=U;obtain⟨d,rfl,q⟩:=g;cases i;exact Ee ⟨b,Y,q⟩
variable{tA I7:TT}{rest:List hI}
noncomputable def Ar(t u:TT):TT:=λb H Q=>t b H λc a=>if c=d6 then u b a Q else Q eF a
noncomputable def NJ(t u:TT):TT:=λb H Q=>t b H λc a=>if c=d6 then Q d6 a else u b a Q
def Am(t:TT):TT:=λb H Q=>t b H λc a=>Q (!c) a
theorem eJ(J:PT X a tA):PW X (.BoolOp .And [a] pos) tA:=by
 intro z b s d H Q I h;refine isTrue_and<|ih (J b s d H Q I h) λc f e=>?_;cases c with
 | true=>exact isTrue_and_nil e
 | false=>exact e
theorem lB(J:PT X a tA):PW X (.BoolOp .Or [a] pos) tA:=by
 intro z b s d H Q I h;refine isTrue_or<|ih (J b s d H Q I h) λc f e=>?_;cases c with
 | false=>exact isTrue_or_nil e
 | true=>exact e
theorem lC(J:PT X a tA)(U:PW X (.BoolOp .And (b::rest) pos) I7):PW X (.BoolOp .And (a::b::rest) pos) (Ar tA I7):=by
 intro Y d s f H Q I h;refine isTrue_and<|ih (J d s f H _ I h) λc i g=>?_;obtain⟨e,z,O⟩:=g;cases c with
 | true=>exact U Y d i f e Q z O
 | false=>exact⟨e,z,O⟩
theorem rD(J:PT X a tA)(U:PW X (.BoolOp .Or (b::rest) pos) I7):PW X (.BoolOp .Or (a::b::rest) pos) (NJ tA I7):=by
 intro Y d s f H Q I h;refine isTrue_or<|ih (J d s f H _ I h) λc i g=>?_;obtain⟨e,z,O⟩:=g;cases c with
 | true=>exact⟨e,z,O⟩
 | false=>exact U Y d i f e Q z O
theorem lO(ha:PT X a tA):PT X (.UnaryOp .Not a pos) (Am tA):=by intro b s e H Q I h;exact isTrue_not<|ha b s e H (λc d=>Q (!c) d) I h
noncomputable def pS(ta tb:TE):TE:=λb H Q=>ta b H λx a=>∃c,x = .bl c/\if c=d6 then tb b a Q else Q (.bl eF) a
noncomputable def pK(ta:TE):TE:=λb H Q=>ta b H λx a=>∃c,x = .bl c/\Q (.bl<|!c) a
theorem lZ(h:PE X a t):PE X (.BoolOp op [a] pos) t:=λb s e H Q I d=>BoolOp_one<|h b s e H Q I d
theorem mh(J:PE X a ta)(U:PE X (.BoolOp .And (b::rest) pos) tb):PE X (.BoolOp .And (a::b::rest) pos) (pS ta tb):=by
 intro d s f H Q I h;refine BoolOp_and<|ih (J d s f H _ I h) λv i Y=>?_;obtain⟨x,e,O,g,z⟩:=Y;obtain⟨c,rfl,z⟩:=z;cases g;refine Ee ?_;cases c with
 | true=>exact U d i f e Q O z
 | false=>exact⟨.bl eF,e,O,rfl,z⟩
theorem ma(J:PE X a ta):PE X (.UnaryOp .Not a pos) (pK ta):=by intro b s e H Q I h;refine UnaryOp_<|ih (J b s e H _ I h) λv f O=>?_;obtain⟨x,d,U,Y,z⟩:=O;obtain⟨c,rfl,z⟩:=z;cases Y;exact not_of<|Ee ⟨.bl<|!c,d,U,rfl,z⟩
noncomputable def LK(t:TT)(ta tb:TE):TE:=λa H Q=>t a H λc b=>if c=d6 then ta a b Q else tb a b Q
theorem aF(U:PT X c tA)(J:PE X a ta)(Y:PE X b tb):PE X (.IfExp c a b pos) (LK tA ta tb):=by
 intro e s f H Q I h;refine wpAny_IfExp<|ih (U e s f H _ I h) λd i j=>?_;obtain⟨g,z,O⟩:=j;cases d with
 | true=>exact J e i f g Q z O
 | false=>exact Y e i f g Q z O
end
noncomputable def kv(K:Bo)(H:Hp)(a:eH)(xs:List V):Prop:=
 Rd H a (.lst xs)\/
  ∃(o:m7) (z:Array eM) (n:Nat),K.lookup a=cI o/\o.cls = .type "list"/\o.dict=cS/\o.data = .seq z n/\z.size<=i6/\i0 xs z.toList
noncomputable def lb(K:Bo)(H:Hp)(a:eH)(xs:List V):Prop:=
 Rd H a (.tup xs)\/
  ∃(o:m7) (z:Array eM) (n:Nat),K.lookup a=cI o/\(o.cls,o.dict)=(Ej "tuple",cS)/\o.data = .seq z n/\z.size<=i6/\i0 xs z.toList
noncomputable def AY:eM->Option V
 | .none=>cI .i3
 | .bool b=>cI (.bl b)
 | .int i _=>cI (.int i)
 | .str x _=>cI (.str x)
 | .bytes b _=>cI (.HY b)
 | .float b _=>cI (.F8 b)
 | .ref a=>cI (.ref a)
 | .type n=>cI (.ty n)
 | _=>cS
theorem RelV.abs(r:RelV x u):AY u=cI x:=by
 cases x with
 | i3=>cases r;rfl
 | bl _=>cases r;rfl
 | int _=>obtain⟨t,rfl⟩:=r;rfl
 | str _=>obtain⟨t,rfl⟩:=r;rfl
 | HY _=>obtain⟨t,rfl⟩:=r;rfl
 | F8 _=>obtain⟨t,rfl⟩:=r;rfl
 | ref _=>cases r;rfl
 | ty _=>cases r;rfl
theorem RelV.inj(r:RelV x u)(q:RelV y u):x=y:=Cd<|r.abs.symm.trans q.abs
theorem i0.inj : ∀{xs H:List V} {z:List eM},i0 xs z->i0 H z->xs=H
 | _,_,_,.nil,.nil=>rfl
 | _,_,_,.cons r t,.cons r' t'=>by rw[r.inj r',i0.inj t t']
section
variable{X:Cx}{pins:MW}{σ:St}{H:Hp}{s:hA}{a:eH}{xs ys:List V}
theorem kv.of{K:Bo}(h:H a=cI (.lst xs)):kv K H a xs:= .inl (.inl h)
theorem lb.of{K:Bo}(h:H a=cI (.tup xs)):lb K H a xs:= .inl (.inl h)
theorem Inv.list(I:Inv X pins σ H s)(h:kv X.K H a xs) : ∃O:List eM,i0 xs O/\PlainL s.heap a O.toArray/\xs.length<=i6:=by
 rcases h with h | ⟨o,O,n,hk,U,hd,Y,hz,r⟩
 ·obtain⟨z,O,n,r,e⟩:=h.ok I.ij
  exact⟨O,r,⟨_,n,e,rfl,rfl,rfl⟩,z⟩
 ·refine⟨O.toList,r,⟨o,n,I.l7 a o hk,U,hd,by simpa using Y⟩,?_⟩
  have e:=r.length;simp only[ET]at e;omega
theorem Inv.tuple(I:Inv X pins σ H s)(h:lb X.K H a xs) : ∃O:List eM,i0 xs O/\HR s.heap a O.toArray/\xs.length<=i6:=by
 rcases h with h | ⟨o,O,n,hk,U,Y,hz,r⟩
 ·obtain⟨z,O,r,p⟩:=h.ok I.ij
  exact⟨O,r,p.tup,z⟩
 ·refine⟨O.toList,r,⟨o,I.l7 a o hk,(Prod.mk.inj U).1,n,by simpa using Y⟩,?_⟩
  have e:=r.length;simp only[ET]at e;omega
theorem Inv.Mk(I:Inv X pins σ H s)(h:kv X.K H a xs)(h':kv X.K H a ys):xs=ys:=by
 obtain⟨O,r,⟨o,n,e,_,_,d⟩,_⟩:=I.list h;obtain⟨b,g,⟨j,i,z,_,_,f⟩,_⟩:=I.list h';rw[e]at z;cases z;rw[d]at f;injection f with U _;have:O=b:=by simpa using congrArg Array.toList U
 subst this;exact r.inj g
theorem Inv.MC(I:Inv X pins σ H s)(h:lb X.K H a xs)(h':lb X.K H a ys):xs=ys:=by
 obtain⟨O,r,⟨o,e,_,n,d⟩,_⟩:=I.tuple h;obtain⟨b,g,⟨j,z,_,i,f⟩,_⟩:=I.tuple h';rw[e]at z;cases z;rw[d]at f;injection f with U _;have:O=b:=by simpa using congrArg Array.toList U
 subst this;exact r.inj g
end
abbrev Cx.m6(X:Cx)(E:MQ):Cx:={X with xe:=E}
abbrev Cx.o9(X:Cx):Cx:=X.m6 λ_ _=>False
theorem Cx.Ok.m6{X:Cx}(ok:X.Ok)(E:MQ):(X.m6 E).Ok:=
 ⟨ok.mod,ok.kind,ok.glob,ok.blt,ok.above,ok.inj,ok.has,ok.D7,ok.hd,ok.frames,ok.Dk,ok.F7,ok.bs,ok.B1,ok.E5,ok.D9,ok.rk,ok.B4⟩
theorem Cx.Ok.u6{X:Cx}{E:MQ}(ok:(X.m6 E).Ok):X.Ok:=
 ⟨ok.mod,ok.kind,ok.glob,ok.blt,ok.above,ok.inj,ok.has,ok.D7,ok.hd,ok.frames,ok.Dk,ok.F7,ok.bs,ok.B1,ok.E5,ok.D9,ok.rk,ok.B4⟩
section
variable{X:Cx}{pins:MW}{σ:St}{H:Hp}{s:hA}{E:MQ}
theorem Inv.m6(I:Inv X pins σ H s)(E:MQ):Inv (X.m6 E) pins σ H s:=⟨I.ok.m6 E,I.os,I.bare,I.base,I.loc,I.cell,I.free,I.wh,I.pin,I.ij,I.len⟩
theorem Inv.u6(I:Inv (X.m6 E) pins σ H s):Inv X pins σ H s:=⟨I.ok.u6,I.os,I.bare,I.base,I.loc,I.cell,I.free,I.wh,I.pin,I.ij,I.len⟩
theorem SP.u6(h:SP (X.m6 E) pins D f s'):SP X pins D f s':=by
 cases f with
 | next=>obtain⟨a,b,I,q⟩:=h;exact⟨a,b,I.u6,q⟩
 | brk=>obtain⟨a,b,I,q⟩:=h;exact⟨a,b,I.u6,q⟩
 | cont=>obtain⟨a,b,I,q⟩:=h;exact⟨a,b,I.u6,q⟩
 | ret u=>obtain⟨v,a,b,I,r,q⟩:=h;exact⟨v,a,b,I.u6,r,q⟩
theorem tx.o9{st:List l0}{t:TS}(h:tx X.o9 st t):tx X st t:=λpins s σ H D I a=>
 BN (h pins s σ H D (I.m6 _) a) (λ_ _ q=>q.u6) λ_ _ z=>CM z
end
section
variable{X:Cx}{st:l0}{rest:List l0}{t u:TS}{e:hI}{te:TE}{pos:ik}
def pM:TS:=λD a H=>D.nx a H
def pH(t u:TS):TS:=λD a H=>t {D with nx:=u D} a H
theorem eU:tx X [] pM:=λ_ _ a H _ I h=>GZ ⟨a,H,I,h⟩
theorem Xa(J:PS X st t)(L:tx X rest u):tx X (st::rest) (pH t u):=by
 intro a s g H D I h;refine FY<|ih (J a s g H {D with nx:=u D} I h) λf e q=>?_;cases f with
 | next=>
  obtain⟨b,d,z,q⟩:=q;exact L a e b d D z q
 | ret v=>exact q
 | brk=>exact q
 | cont=>exact q
theorem YW(z:PS X st t):tx X [st] t:=by
 intro a s b H D I h;refine FY<|ih (z a s b H D I h) λf d q=>?_;cases f with
 | next=>exact GZ q
 | ret v=>exact q
 | brk=>exact q
 | cont=>exact q
def pR:TS:=λD a H=>D.ct a H
theorem Qj:PS X (.Continue pos) pR:=λ_ _ a H _ I h=>wpAny_Continue ⟨a,H,I,h⟩
theorem Inv.quiet(I:Inv X pins σ H s):interactive X.env=eF:=by simp[interactive,I.ok.kind]
def pO(te:TE):TS:=λD a H=>te a H λ_ b=>D.nx a b
theorem Qi(z:PE X e te)(O:vt e cS pos.line X.env=pure eF:=by rfl):PS X (.Expr e pos) (pO te):=by intro a s b H D I h;exact Hq (ih (z a s b H _ I h) λv g ⟨x,d,U,f,Y⟩=>⟨b,d,U,Y⟩) I.quiet O
def Al(te:TE):TS:=λD a H=>te a H D.rt
theorem YX(z:PE X e te):PS X (.Return (cI e) pos) (Al te):=by intro a s b H D I h;exact wpAny_Return_some<|ih (z a s b H _ I h) λv f ⟨x,d,O,U,Y⟩=>⟨x,b,d,O,U,Y⟩
noncomputable def Ao(c:TT)(t u:TS):TS:=λD a H=>c a H λb d=>if b=d6 then t D a d else u D a d
theorem rJ(U:PT X c tc)(J:tx X a t)(Y:tx X b u):PS X (.If c a b pos) (Ao tc t u):=by
 intro e s f H D I h;refine wpAny_If<|ih (U e s f H _ I h) λd i j=>?_;obtain⟨g,z,O⟩:=j;cases d with
 | true=>exact J e i f g D z O
 | false=>exact Y e i f g D z O
def iR:TS:=λ_ _ _=>False
theorem az:PS X st iR:=λ_ _ _ _ _ _ h=>h.elim
end
abbrev TG:=V->St->Hp->(St->Hp->Prop)->Prop
abbrev FI:=List V->St->Hp->(St->Hp->Prop)->Prop
noncomputable def PG(X:Cx)(z:hI)(t:TG):Prop:=
 ∀(a:MW) (s:hA) (e:St) (H:Hp) (v:V) (u:eM) (Q:St->Hp->Prop),Inv X a e H s->RelV v u->t v e H Q->
  wpAny (hH X.prog X.w) X.A (Df z X.env u) (λ_ f=>∃b d,Inv X a b d f/\Q b d) X.xe s
noncomputable def HW(X:Cx)(z:List hI)(t:FI):Prop:=
 ∀(a:MW) (s:hA) (g:St) (H:Hp) (f:List V) (e:List eM) (Q:St->Hp->Prop),Inv X a g H s->i0 f e->t f g H Q->
  wpAny (hH X.prog X.w) X.A (assignInOrder ((Ds z X.env).map (·.2)) e) (λ_ h=>∃b d,Inv X a b d h/\Q b d) X.xe s
abbrev uY:=V->V->V->Hp->(Hp->Prop)->Prop
noncomputable def uZ(X:Cx)(t:uY):Prop:=
 ∀(a:MW) (s:hA) (d:St) (H:Hp) (o i v:V) (z I u:eM) (Q:Hp->Prop),Inv X a d H s->RelV o z->RelV i I->RelV v u->t o i v H Q->
  wpAny (hH X.prog X.w) X.A (Mv z I u) (λ_ e=>∃b,Inv X a d b e/\Q b) X.xe s
section
variable{X:Cx}{pos:ik}
def ke(i:Nat):TG:=λv a H Q=>Q (a.set i<|some v) H
theorem Y6(z:X.N.Nodup)(L:X.N[i]? = cI x)(O:Loc X.env.scope x)(J:X.fn x=d6\/X.env.scope.names.lookup x=cI .local:=by first | exact .inl rfl | exact .inr rfl | assumption):PG X (.Name x pos) (ke i):=by intro a s d H v u Q I r h;exact NN<|Zr I z L O r (λb U=>⟨_,H,U,h⟩) J
def ux:FI:=λa b H Q=>a=[]/\Q b H
noncomputable def ni(t:TG)(u:FI):FI:=λd e H Q=>∃v r,d=v::r/\t v e H λa b=>u r a b Q
theorem Y5:HW X [] ux:=by intro a s b H f d Q I r h;obtain⟨e,h⟩:=h;subst e;cases r;exact assignInOrder_nil ⟨b,H,I,h⟩
theorem yd(J:PG X e t)(L:HW X es u)
 (z:(Ds (e::es) X.env).map (·.2)=Df e X.env::(Ds es X.env).map (·.2):=by rfl):HW X (e::es) (ni t u):=by
 intro a s j H m k Q I r h;obtain⟨v,l,f,h⟩:=h;subst f;cases r with
 | cons r O=>
  rw[z];refine assignInOrder_cons<|ih (J a s j H _ _ _ I r h) λ_ i U=>?_;obtain⟨Y,b,d,g⟩:=U;exact L a i Y b _ _ Q d O g
noncomputable def uw(K:Bo)(n:Nat)(t:FI):TG:=λv d H Q=>∃a b,v = .ref a/\lb K H a b/\b.length=n/\t b d H Q
theorem lV(O:X.calm=d6)(h:HW X es t)
 (J:(Ds es X.env).length=n:=by rfl) (U:(Ds es X.env).findIdx? (·.1)=cS:=by rfl):PG X (.Tuple es k pos) (uw X.K n t):=by
 intro d s g H v u Q I r f;obtain⟨a,x,j,Y,m,f⟩:=f;subst j;cases r;obtain⟨y,z,p,A⟩:=I.tuple Y;refine assign_Tuple_tuple (I.ok.hd O) p (by simp[J,<- m,z.length]) U λl w=>?_;have i:Inv X d g H {s with heap:=l}:=I.kept (t':=s.toks) λb o e=>w b o (BH<|Bz e) e;exact h d _ g H x _ Q i (by simpa using z) f
noncomputable def AR(to z:TE)(t:uY):TG:=λv a H Q=>to a H λo b=>z a b λi d=>t o i v d λI=>Q a I
theorem lW(Y:PE X o to)(L:PE X i ti)(Z:uZ X t)
 (J : ∀v,Df (.Subscript o i pos) X.env v=(do
   let z <- Dz [v] (hM o X.env);let O <- Dz [v,z] (hM i X.env)
   G7 pos
   Dz [v,z,O] (Mv z O v)
   release [v,z,O] []):=by intro _;rfl):PG X (.Subscript o i pos) (AR to ti t):=by
 intro a s b H v u Q I r h;rw[J];refine Bp<|CQ<|ih (Y a s b H _ I h) λz A U=>?_;obtain⟨x,d,g,p,l⟩:=U;refine Bp<|CQ<|ih (L a A b d _ g l) λO B U=>?_;obtain⟨y,e,j,w,m⟩:=U;refine Bp<|Gd<|Bp<|CQ<|ih (Z a B b e x y v z O u _ j p w r m) λ_ C U=>?_;obtain⟨f,k,n⟩:=U;exact wpAny_release ⟨b,f,k,n⟩
def QW(z:TE)(g:TG):TS:=λD a H=>z a H λx b=>g x a b D.nx
theorem YY(z:PE X e te)(O:PG X tg g)(U:LJ [tg] e pos.line X.env=pure eF:=by rfl)(L:Mw [tg] e X.env=pure cS:=by rfl)
 (J:(Ds [tg] X.env).map (·.2)=[Df tg X.env]:=by rfl):PS X (.Assign [tg] e pos) (QW te g):=by
 intro a s b H D I h;refine wpAny_Assign_stores (ih (z a s b H _ I h) λv k Y=>?_) U L;obtain⟨x,d,f,j,i⟩:=Y;rw[J];exact ih (O a k b d x v _ f j i) λ_ l q=>q
theorem cD(z:X.N.Nodup)(L:X.N[i]? = cI x)(O:Loc X.env.scope x)(U:PE X e te)(Y:vt e (cI (.Name x pos')) pos.line X.env=pure eF:=by rfl)(J:X.fn x=d6\/X.env.scope.names.lookup x=cI .local:=by first | exact .inl rfl | exact .inr rfl | assumption) :
 PS X (.Assign [.Name x pos'] e pos) (QW te<|ke i):=by
 intro a s l H D I h;refine wpAny_Assign_Name (ih (U a s l H _ I h) λv m g=>?_) Y;obtain⟨y,b,d,k,j⟩:=g;exact Zr d z L O k (λn f=>⟨_,b,f,j⟩) J
end
structure It where
 go:Nat->Hp->Prop
 DK:Nat->Hp->V->Hp->Prop
 stop:Nat->Hp->Prop
noncomputable def KU(X:Cx)(z:MW)(H:Hp)(b:eH):Prop:=
 H b=cS/\b≠X.env.locals/\b∉X.fs/\(b∈X.ex\/X.l5.heap.objs.size<=b)/\(∀x c,X.env.cells.lookup x=cI c->c≠b)/\∀p∈X.pn++z,p.1≠b
theorem Inv.H9(I:Inv X pins σ H s)(O:s.heap.objs.size<=b)(J:H' b=cS):KU X pins H' b:=by
 refine⟨J,EI<|BF I.lt O,I.Nx O,.inr<|Co I.sz O,λx c e z=>?_,λp U z=>?_⟩
 ·obtain⟨v,q⟩:=I.cell x c e
  exact absurd (BF q.lt<|by rw[z];exact O)<|CF _
 ·exact absurd (BF (Bz (I.pin p U).1)<|by rw[z];exact O)<|CF _
structure Turn(P:i8)(w:i5)(K:Bo)(tg:hI)(J:It)(fp:List eH)(it:eH)(tn:Nat->ia->Prop):Prop where
 mem:it∈fp
 obj : ∀i h,tn i h->∀b∈fp,∃o,h.get? b=cI o/\∀v,o.data ≠ .cell v
 keep : ∀i h h',tn i h->(∀b∈fp,∀o,h.get? b=cI o->h'.get? b=cI o)->tn i h'
 item : ∀(X:Cx),X.prog=P->X.w=w->X.K=K->X.calm=d6->∀(i:Nat) (pins:MW) (s:hA) (σ:St) (H:Hp) (E:MQ),Inv X pins σ H s->(∀b∈fp,KU X pins H b)->tn i s.heap->J.go i H->
  wpAny (hH P w) X.A (G6<|.ref it) (λr s1=>∃u,r=cI u/\
   wpAny (hH P w) X.A (IU tg (.ref it) u) (λ_ s2=>∃x H',Inv X pins σ H' s2/\RelV x u/\J.DK i H x H'/\tn (i+1) s2.heap/\∀b∈fp,H' b=cS) E s1) E s
 done : ∀(X:Cx),X.prog=P->X.w=w->X.K=K->X.calm=d6->∀(i:Nat) (pins:MW) (s:hA) (σ:St) (H:Hp) (E:MQ),Inv X pins σ H s->(∀b∈fp,KU X pins H b)->tn i s.heap->J.stop i H->
  wpAny (hH P w) X.A (G6<|.ref it) (λr s1=>r=cS/\Inv X pins σ H s1) E s
 self : ∀(A:l9) (i:Nat) (s:hA) (Q:MQ) (E:MQ),tn i s.heap->Q (.ref it) s->wpAny (hH P w) A (IY<|.ref it) Q E s
abbrev TI:=St->Hp->(It->Hp->Prop)->Prop
noncomputable def L4(X:Cx)(H:MW)(O:St)(L:hI)(R:It->Hp->Prop)(z:eM)(I:hA):Prop:=
 ∃(e:eH) (d:List eH) (f:Nat->ia->Prop) (J:It) (a:Hp),z = .ref e/\Inv X H O a I/\Turn X.prog X.w X.K L J d e f/\f 0 I.heap/\(∀b∈d,KU X H a b)/\R J a
noncomputable def PI(X:Cx)(I z:hI)(J:TI):Prop:=
 ∀(a:MW) (s:hA) (b:St) (H:Hp) (R:It->Hp->Prop),Inv X a b H s->J b H R->
  wpAny (hH X.prog X.w) X.A (hM z X.env) (λv d=>wpAny (hH X.prog X.w) X.A (IY v) (L4 X a b I R) X.xe d) X.xe s
theorem gx(I:s.heap.get? it=cI o)(O:o.cls = .type n)(H:o.data = .fields vs)
 (J:["enumerate","zip","dict_itemiterator","dict_reverseitemiterator","odict_iterator","itertools.zip_longest","itertools.pairwise"].contains n=eF) (z:Q () s):wpAny M A (IU tg (.ref it) u) Q E s:=by
 unfold IU;cases tg<;>first
  | exact Bv z
  | (cases u<;>first
      | exact Bv z
      | (refine Bp (wpAny_load I ?_)
         rw[O,H];show wpAny M A (if (["enumerate","zip","dict_itemiterator","dict_reverseitemiterator","odict_iterator","itertools.zip_longest","itertools.pairwise"].contains n && vs[0]? == cI (DX _))=d6 then _ else _) Q E s;rw[RQ (by intro h;rw[J,Bool.false_and]at h;cases h)];exact Bv z))
noncomputable def HS(K:Bo)(a:eH):It:=
 ⟨λi H=>∃b x,kv K H a b/\b[i]? = cI x,λi H x d=>d=H/\∀b,kv K H a b->b[i]? = cI x,λi H=>∃b,kv K H a b/\b.length<=i⟩
noncomputable def LZ(K:Bo)(a:eH):It:=
 ⟨λi H=>∃b x,lb K H a b/\b[i]? = cI x,λi H x d=>d=H/\∀b,lb K H a b->b[i]? = cI x,λi H=>∃b,lb K H a b/\b.length<=i⟩
noncomputable def HU(lo:Int)(n:Nat):It:=⟨λi _=>i<n,λi H x a=>a=H/\x = .int (lo+i),λi _=>n<=i⟩
theorem Yh{P:i8}{w:i5}{K:Bo}{tg:hI}(a it:eH):Turn P w K tg (HS K a) [it] it (λi h=>h.IsListIter it a i) where
 mem:=by simp
 obj:=λi h st b O=>by
  have e:b=it:=by simpa using O
  subst e;obtain⟨o,e,c,d⟩:=st;exact⟨o,e,λv z=>by rw[d]at z;cases z⟩
 keep:=λi h h' st k=>st.at λo e=>k it ⋯ o e
 item:=by intro X Y hw hK hc i pins s σ H E I hf st hg;subst Y hw hK;obtain⟨xs,x,U,hx⟩:=hg;obtain⟨ae,rv,p,hz⟩:=I.list U;obtain⟨u,hu,ru⟩:=rv.get hx;obtain⟨f0,f1,f2,f3,f4,f5⟩:=hf it ⋯;refine wpAny_pyNext_list_item st p.isList (x:=u) (by simpa using hu) λh' ac sb=>?_;have I1:Inv X pins σ H {s with heap:=h'}:=I.turned (t':=s.toks) (λb o O e=>(sb.2 b O).trans e) f0 f1 f3 f4 f5;obtain⟨o,e,c,d⟩:=id ac;exact⟨u,rfl,gx (s:={s with heap:=h'}) e c d ⋯ ⟨x,H,I1,ru,⟨rfl,λys hy=>by rw[I.Mk hy U];exact hx⟩,ac,λb O=>(hf b O).1⟩⟩
 done:=by intro X Y hw hK hc i pins s σ H E I hf st hg;subst Y hw hK;obtain⟨xs,U,hx⟩:=hg;obtain⟨ae,rv,p,hz⟩:=I.list U;obtain⟨f0,f1,f2,f3,f4,f5⟩:=hf it ⋯;have hl:=rv.length;exact wpAny_pyNext_list_end (I.ok.hd hc) st p.isList (by simp;omega) λh' eb=>⟨rfl,I.turned (t':=s.toks) (λb o O e=>eb b o O e) f0 f1 f3 f4 f5⟩
 self:=λ_ _ _ _ _ st h=>wpAny_pyIter_listiter st h
theorem XY{P:i8}{w:i5}{K:Bo}{tg:hI}(a it:eH):Turn P w K tg (LZ K a) [it] it (λi h=>h.IsTupleIter it a i) where
 mem:=by simp
 obj:=λi h st b O=>by
  have e:b=it:=by simpa using O
  subst e;obtain⟨o,e,c,d⟩:=st;exact⟨o,e,λv z=>by rw[d]at z;cases z⟩
 keep:=λi h h' st k=>st.at λo e=>k it ⋯ o e
 item:=by intro X Y hw hK hc i pins s σ H E I hf st hg;subst Y hw hK;obtain⟨xs,x,U,hx⟩:=hg;obtain⟨a4,rv,p,hz⟩:=I.tuple U;obtain⟨u,hu,ru⟩:=rv.get hx;obtain⟨f0,f1,f2,f3,f4,f5⟩:=hf it ⋯;refine wpAny_pyNext_tuple_item st (show s.heap.IsTuple a a4.toArray from p) (x:=u) (by simpa using hu) λh' ae sb=>?_;have I1:Inv X pins σ H {s with heap:=h'}:=I.turned (t':=s.toks) (λb o O e=>(sb.2 b O).trans e) f0 f1 f3 f4 f5;obtain⟨o,e,c,d⟩:=id ae;exact⟨u,rfl,gx (s:={s with heap:=h'}) e c d ⋯ ⟨x,H,I1,ru,⟨rfl,λys hy=>by rw[I.MC hy U];exact hx⟩,ae,λb O=>(hf b O).1⟩⟩
 done:=by intro X Y hw hK hc i pins s σ H E I hf st hg;subst Y hw hK;obtain⟨xs,U,hx⟩:=hg;obtain⟨a4,rv,p,hz⟩:=I.tuple U;obtain⟨f0,f1,f2,f3,f4,f5⟩:=hf it ⋯;have hl:=rv.length;exact wpAny_pyNext_tuple_end (I.ok.hd hc) st (show s.heap.IsTuple a a4.toArray from p) (by simp;omega) λh' eb=>⟨rfl,I.turned (t':=s.toks) (λb o O e=>eb b o O e) f0 f1 f3 f4 f5⟩
 self:=λ_ _ _ _ _ st h=>wpAny_pyIter_tupleiter st h
theorem XZ{P:i8}{w:i5}{K:Bo}{tg:hI}(it:eH)(lo:Int)(n:Nat):Turn P w K tg (HU lo n) [it] it (λi h=>IsRangeIter h it (lo+(i:Nat)*1) ((n:Int) - (i:Nat)) 1) where
 mem:=by simp
 obj:=λi h st b O=>by
  have e:b=it:=by simpa using O
  subst e;exact⟨_,st,λv z=>by have z':Data.fields _=Data.cell v:=z;cases z'⟩
 keep:=λi h h' st k=>k it ⋯ _ st
 item:=by intro X U hw Y hc i pins s σ H E I hf st hg;subst U hw Y;obtain⟨f0,f1,f2,f3,f4,f5⟩:=hf it ⋯;have W:=Walks.range (prog:=X.prog) (w:=X.w) (I.ok.hd hc) it lo 1 n;refine W.item i s _ _ hg st λv h' tk hv a8 kk=>?_;obtain⟨t,rfl⟩:=hv;have I1:Inv X pins σ H {s with heap:=h',toks:=tk}:=I.turned (λb o O e=>kk b o (by simpa using O) e) f0 f1 f3 f4 f5;refine⟨_,rfl,gx (s:={s with heap:=h',toks:=tk}) (n:="range_iterator") a8 rfl rfl ⋯ ⟨.int (lo+i),H,I1,⟨t,?_⟩,⟨rfl,rfl⟩,a8,λb O=>(hf b O).1⟩⟩;rw[Int.mul_one]
 done:=by intro X U hw Y hc i pins s σ H E I hf st hg;subst U hw Y;obtain⟨f0,f1,f2,f3,f4,f5⟩:=hf it ⋯;exact wpAny_pyNext_range_end (I.ok.hd hc) st (by have:n<=i:=hg;omega) λh' eb=>⟨rfl,I.turned (t':=s.toks) (λb o O e=>eb b o O e) f0 f1 f3 f4 f5⟩
 self:=λ_ _ _ _ _ st h=>wpAny_pyIter_rangeiter st h
section
variable{X:Cx}{tg:hI}
theorem Q5{L:MW}{σ:St}{H:Hp}{s:hA}{R:It->Hp->Prop}{E:MQ}{lo J:Int}{t u v:Tok}{Z:Nat}(I:Inv X L σ H s)(h1 : -(2 ^ 62)<=lo)(h2:lo<2 ^ 62)(O : -(2 ^ 62)<=J)(U:J<2 ^ 62)
 (q:R (HU lo (J - lo).toNat) H):wpAny (hH X.prog X.w) X.A (IY (.ref s.heap.objs.size)) (L4 X L σ tg R) E {s with heap:=s.heap.push {cls:= .type "range",data:= .fields #[.int lo t,.int J u,.int 1 v]},toks:=Z}:=by
 refine wpAny_pyIter_range (IsRange.new ..) (small_one h1 h2 O U) ?_;have z:Inv X L σ H {s with heap:=s.heap.push {cls:= .type "range",data:= .fields #[.int lo t,.int J u,.int 1 v]},toks:=Z}:=I.kept λb o e=>Bq _ e;refine⟨(s.heap.push {cls:= .type "range",data:= .fields #[.int lo t,.int J u,.int 1 v]}).objs.size,[(s.heap.push {cls:= .type "range",data:= .fields #[.int lo t,.int J u,.int 1 v]}).objs.size],_,_,H,rfl,
  z.kept (t':=Z) λb o e=>Bq _ e,XZ _ lo (J - lo).toNat,?_,λb Y=>?_,q⟩
 ·have a:lo+((0:Nat):Int)*1=lo:=by simp
  have d:(((J - lo).toNat:Nat):Int) - ((0:Nat):Int)=Builtin.Range.rangeSize lo J 1:=by rw[rangeSize_one];split<;>omega
  show IsRangeIter _ _ (lo+((0:Nat):Int)*1) ((((J - lo).toNat:Nat):Int) - ((0:Nat):Int)) 1;rw[a,d];exact BI _ rfl
 ·have e:b=(s.heap.push {cls:= .type "range",data:= .fields #[.int lo t,.int J u,.int 1 v]}).objs.size:=by simpa using Y
  subst e;exact z.H9 (BB _)<|z.ij.fresh<|BB _
noncomputable def sg(z:TA):TI:=λd H R=>z d H λb a=>∃j:Int,b=[.int j]/\ -(2 ^ 62)<=j/\j<2 ^ 62/\R (HU 0 j.toNat) a
noncomputable def sf(z:TA):TI:=λd H R=>z d H λb a=>∃i j:Int,b=[.int i,.int j]/\(-(2 ^ 62)<=i/\i<2 ^ 62/\ -(2 ^ 62)<=j/\j<2 ^ 62)/\R (HU i (j - i).toNat) a
theorem Y4{a:hI}{J:TA}{p pos:ik}(O:Gl X "range")(Z:X.mg "range" = cS)(L:PA X [a] J)(U:iv [a] X.env=[(eF,hM a X.env)]:=by rfl):PI X tg (.Call (.Name "range" p) [a] [] pos) (sg J):=by
 intro b s k H R I h;refine Iz<|qU I O Z boot_range<|Eb (ih (L pos b s k H _ I h) λn m Y=>?_) U rfl;obtain⟨o,l,d,g,z⟩:=Y;obtain⟨j,e,z,f,q⟩:=z;subst e;cases g with
 | cons r i=>
  cases i;obtain⟨t,rfl⟩:=r;exact call_range_1 (Q5 d ⋯ ⋯ z f<|by simpa using q)
theorem Y3(Y:Gl X "range")(L:X.mg "range" = cS)(J:PA X [a,b] ta)(Z:iv [a,b] X.env=[(eF,hM a X.env),(eF,hM b X.env)]:=by rfl)(U:iv [b] X.env=[(eF,hM b X.env)]:=by rfl) :
 PI X tg (.Call (.Name "range" p) [a,b] [] pos) (sf ta):=by
 intro d s u H R I h;refine Iz (qU I Y L boot_range<|Eb (ih (J pos d s u H _ I h) λA x g=>?_) (by rw[Z,U])<|by rw[U];rfl);obtain⟨B,w,f,o,z⟩:=g;obtain⟨i,j,e,⟨z,k,l,m⟩,q⟩:=z;subst e;cases o with
 | cons r O=>
  cases O with
  | cons n O=>
   cases O;obtain⟨t,rfl⟩:=r;obtain⟨y,rfl⟩:=n;exact call_range_2<|Q5 f z k l m q
noncomputable def Ap(L:TI)(g:TG)(I:TS):TS:=λD a H=>L a H λJ f=>∃W:Nat->Nat->St->Hp->Prop,(∃m,W 0 m a f)/\∀i m a H,W i m a H->
 (J.stop i H/\D.nx a H)\/(J.go i H/\∃N:St->Hp->Prop,(∀d b,N d b->∃e,e<m/\W (i+1) e d b)/\∀x b,J.DK i H x b->g x a b λz h=>I {D with nx:=N,ct:=N,bk:=D.nx} z h)
noncomputable def Jp(fp:List eH)(h:ia):List (eH×m7):=fp.filterMap λb=>(h.get? b).map λo=>(b,o)
theorem kC(z:b∈fp)(e:h.get? b=cI o):(b,o)∈Jp fp h:=Gh.mpr ⟨b,z,by rw[e];rfl⟩
theorem Vo(z:p∈Jp fp h):p.1∈fp/\h.get? p.1=cI p.2:=by
 obtain⟨b,I,e⟩:=Gh.mp z;cases q:h.get? b with
 | none=>rw[q]at e;cases e
 | some o=>
  rw[q]at e;have O:(b,o)=p:=Cd e;subst O;exact⟨I,q⟩
theorem Inv.pinned(I:Inv X pins σ H s)(J : ∀b∈fp,KU X pins H b)(Y : ∀b∈fp,∃o,s.heap.get? b=cI o/\∀v,o.data ≠ .cell v):Inv X (pins++Jp fp s.heap) σ H s:=
 I.Mq λp f=>(List.mem_append.mp f).elim (λz=>I.pin p<|Ct _ z) λz=>by obtain⟨O,e⟩:=Vo z;obtain⟨a,f1,f2,_⟩:=J p.1 O;obtain⟨o,U,d⟩:=Y p.1 O;rw[e]at U;cases U;exact⟨e,a,f1,f2,d⟩
theorem Inv.Iw(I:Inv X (pins++pl) σ H s):Inv X pins σ H s:=I.Mq λp z=>I.pin p<|Ct _<|List.mem_append_left _ z
theorem lQ(L:L5 (hH X.prog X.w) X.A X.env X.xe)(hc:X.calm=d6)(hi:PI X tg iter wi)(hg:PG X tg g)(z:tx X body tb)
 (hs : ∀x,vp iter X.env x=pure x:=by intro _;rfl):PS X (.For tg iter body [] pos) (Ap wi g tb):=by
 intro a s σ H D I h;refine wpAny_For (ih (hi a s σ H _ I h) λv s1 h1=>ih h1 λcf s2 h2=>?_) hs;obtain⟨it,y,tn,J,H2,e,I2,T,bb,f2,W,⟨m0,w0⟩,bg⟩:=h2;subst e;have G : ∀{l:Hp},(∀b∈y,l b=cS)->∀b∈y,KU X a l b:=λhn b z=>⟨hn b z,(f2 b z).2⟩;refine codeAny_forLoop_any (λn s'=>∃i j l,Inv X a j l s'/\tn i s'.heap/\(∀b∈y,l b=cS)/\W i n j l) ?_ m0 ⟨0,σ,H2,I2,bb,λb z=>(f2 b z).1,w0⟩;rintro n s3 ⟨i,k,F,S,C,Z,w3⟩;rcases bg i n k F w3 with⟨E,qn⟩ | ⟨go,N,hN,step⟩
 ·refine Gn L (ih (T.done X rfl rfl rfl hc i a s3 k F X.xe S (G Z) C E) λr s4 t=>?_)
  obtain⟨M,I4⟩:=t;subst M;exact GZ ⟨k,F,I4,qn⟩
 ·refine Gn L (ih (T.item X rfl rfl rfl hc i a s3 k F X.xe S (G Z) C go) λr s4 t=>?_)
  obtain⟨u,M,h4⟩:=t;subst M;refine Gn L<|ih h4 λ_ s5 t=>?_;obtain⟨x,R,I5,r5,y5,K,c5⟩:=t;have c6:=I5.pinned (G c5)<|T.obj _ _ K;refine Gn L<|ih (hg _ s5 k R x u _ c6 r5<|step x R y5) λ_ s6 t=>?_;obtain⟨Q,H6,I6,q6⟩:=t;refine Gn L<|ih (z _ s6 Q H6 _ I6 q6) λf P p=>?_;have again : ∀{O:St} {U:Hp},Inv X (a++Jp y s5.heap) O U P->N O U->∃m,m<n/\∃i j l,Inv X a j l P/\tn i P.heap/\(∀b∈y,l b=cS)/\W i m j l:=λ{O U} Y B=>by obtain⟨m',hm,w7⟩:=hN O U B;refine⟨m',hm,i+1,O,U,Y.Iw,T.keep _ _ _ K λb z o e=>(Y.pin (b,o)<|Ct _<|Ct _<|kC z e).1,λb z=>?_,w7⟩;obtain⟨o,e,d⟩:=T.obj _ _ K b z;exact(Y.pin (b,o)<|Ct _<|Ct _<|kC z e).2.1
  cases f with
  | next=>obtain⟨O,U,Y,B⟩:=p;exact again Y B
  | cont=>obtain⟨O,U,Y,B⟩:=p;exact again Y B
  | brk=>obtain⟨O,U,Y,p⟩:=p;exact⟨O,U,Y.Iw,p⟩
  | ret v=>obtain⟨x7,O,U,Y,r7,p⟩:=p;exact⟨x7,O,U,Y.Iw,r7,p⟩
end
theorem ZL{K:Bo}{a:eH}{xs:List V}{g:TG}{tb:TS}{D:Ends}{J:St}{H:Hp}(z:Nat->St->Hp->Prop)(h0:z 0 J H)(U : ∀i J H,i<=xs.length->z i J H->kv K H a xs)
 (Y : ∀i x J H,xs[i]? = cI x->z i J H->g x J H λI H2=>tb {D with nx:=z<|i+1,ct:=z<|i+1,bk:=D.nx} I H2) (hd : ∀J H,z xs.length J H->D.nx J H) :
 ∃W:Nat->Nat->St->Hp->Prop,(∃m,W 0 m J H)/\∀i m J H,W i m J H->
  ((HS K a).stop i H/\D.nx J H)\/((HS K a).go i H/\∃N:St->Hp->Prop,(∀Z L,N Z L->∃m',m'<m/\W (i+1) m' Z L)/\∀x L,(HS K a).DK i H x L->g x J L λI H2=>tb {D with nx:=N,ct:=N,bk:=D.nx} I H2):=by
 refine⟨λi m J H=>m=xs.length - i/\i<=xs.length/\z i J H,⟨xs.length,by simp,Eo _,h0⟩,?_⟩;rintro i m J H ⟨rfl,b,p⟩;have q:=U i J H b p;by_cases O:i<xs.length
 ·refine .inr ⟨⟨xs,xs[i],q,by simp[O]⟩,z<|i+1,λZ L d=>⟨xs.length - (i+1),by omega,rfl,O,d⟩,λx L y=>?_⟩
  obtain⟨e,y⟩:=y;subst e;exact Y i x J _ (y xs q) p
 ·have e:i=xs.length:=by omega
  subst e;exact .inl ⟨⟨xs,q,BB _⟩,hd J H p⟩
abbrev R2:=V->V->Hp->VK->Prop
noncomputable def mu(X:Cx)(f:eM->eM->Sem eM)(r:R2):Prop:=
 ∀(a:MW) (s:hA) (b:St) (H:Hp) (x y:V) (v u:eM) (Q:VK),Inv X a b H s->RelV x v->RelV y u->r x y H Q->
  wpAny (hH X.prog X.w) X.A (f v u) (EP X a b Q) X.xe s
noncomputable def Lh(X:Cx)(f:eM->Sem eM)(r:V->Hp->VK->Prop):Prop:=
 ∀(a:MW) (s:hA) (b:St) (H:Hp) (x:V) (v:eM) (Q:VK),Inv X a b H s->RelV x v->r x H Q->
  wpAny (hH X.prog X.w) X.A (f v) (EP X a b Q) X.xe s
noncomputable def yX(X:Cx)(f:eM)(r:List V->Hp->VK->Prop):Prop:=
 ∀(a:MW) (s:hA) (e:St) (H:Hp) (d:List V) (b:List eM) (Q:VK),Inv X a e H s->i0 d b->r d H Q->
  wpAny (hH X.prog X.w) X.A (call f b) (EP X a e Q) X.xe s
noncomputable def AZ(X:Cx)(r:V->Hp->(Bool->Hp->Prop)->Prop):Prop:=
 ∀(a:MW) (s:hA) (b:St) (H:Hp) (x:V) (v:eM) (Q:Bool->Hp->Prop),Inv X a b H s->RelV x v->r x H Q->
  wpAny (hH X.prog X.w) X.A (truthy v) (TP X a b Q) X.xe s
noncomputable def Ik(r:R2)(z I:TE):TE:=λa H Q=>z a H λx b=>I a b λy d=>r x y d Q
noncomputable def NL(r:V->Hp->VK->Prop)(z:TE):TE:=λb H Q=>z b H λx a=>r x a Q
noncomputable def rI(C:Int->Int->Prop)(g:Int->Int->V):R2:=λx y H Q=>∃i j,x = .int i/\y = .int j/\C i j/\Q (g i j) H
noncomputable def A4(g:Int->Int->V):R2:=λx y H Q=>∃i j,x = .int i/\y = .int j/\Q (g i j) H
noncomputable def rU(g:Int->V):V->Hp->VK->Prop:=λx H Q=>∃i,x = .int i/\Q (g i) H
section
variable{X:Cx}{a b c:hI}{ta tb tc:TE}{pos:ik}
theorem sO(ha:PE X a ta)(O:PE X b tb){J:MW}{s:hA}{Z:St}{H:Hp}{R:V->V->Hp->Prop}(I:Inv X J Z H s)
 (h:ta Z H λx H1=>tb Z H1 λy L=>R x y L) {Q:MQ} {f:eM->eM->Sem eM}
 (hf : ∀v u s2 x y L,Inv X J Z L s2->RelV x v->RelV y u->R x y L->wpAny (hH X.prog X.w) X.A (f v u) Q X.xe s2) :
 wpAny (hH X.prog X.w) X.A (hM a X.env) (λv U=>wpAny (hH X.prog X.w) X.A (hM b X.env) (λu Y=>wpAny (hH X.prog X.w) X.A (f v u) Q X.xe Y) X.xe U) X.xe s:=by
 refine ih (ha J s Z H _ I h) λv l z=>?_;obtain⟨x,H1,d,j,g⟩:=z;refine ih (O J l Z H1 _ d g) λu s2 z=>?_;obtain⟨y,L,e,k,i⟩:=z;exact hf v u s2 x y L e j k i
theorem fj{z:Operator}{r:R2}(O:mu X (B0 z) r)(J:PE X a ta)(U:PE X b tb):PE X (.BinOp a z b pos) (Ik r ta tb):=by intro d s i H Q I h;exact wpAny_BinOp<|sO J U I h λv u g x y e Y rx f q=>O d g i e x y v u Q Y rx f q
theorem rL(z:Lh X (unaryOp op) r)(J:PE X a ta):PE X (.UnaryOp op a pos) (NL r ta):=by intro b s d H Q I h;exact UnaryOp_<|ih (J b s d H _ I h) λv f ⟨x,e,O,U,Y⟩=>z b f d e x v Q O U Y
theorem IX{f:eM->eM->Sem eM}{C:Int->Int->Prop}{g:Int->Int->Int}
 (rule : ∀(i j:Int) (t u:Tok) (s:hA) (Q:MQ) (E:MQ),C i j->Q (.int (g i j) s.toks) {s with toks:=s.toks+1}->wpAny (hH X.prog X.w) X.A (f (.int i t)<|.int j u) Q E s) :
 mu X f (rI C λi j=> .int (g i j)):=by
 intro a s d H x y v u Q I rx z h;obtain⟨i,j,rfl,rfl,O,q⟩:=h;obtain⟨t,rfl⟩:=rx;obtain⟨b,rfl⟩:=z;exact rule i j t b s _ _ O ⟨.int<|g i j,H,I.tok _,⟨_,rfl⟩,q⟩
theorem um{f:eM->eM->Sem eM}{g:Int->Int->Int}
 (rule : ∀(i j:Int) (t u:Tok) (s:hA) (Q:MQ) (E:MQ),Q (.int (g i j) s.toks) {s with toks:=s.toks+1}->wpAny (hH X.prog X.w) X.A (f (.int i t)<|.int j u) Q E s) :
 mu X f (A4 λi j=> .int (g i j)):=by
 intro a s d H x y v u Q I rx z h;obtain⟨i,j,rfl,rfl,q⟩:=h;obtain⟨t,rfl⟩:=rx;obtain⟨b,rfl⟩:=z;exact rule i j t b s _ _ ⟨.int<|g i j,H,I.tok _,⟨_,rfl⟩,q⟩
theorem rO{f:eM->eM->Sem eM}{g:Int->Int->Bool}
 (rule : ∀(i j:Int) (t u:Tok) (s:hA) (Q:MQ) (E:MQ),Q (.bool<|g i j) s->wpAny (hH X.prog X.w) X.A (f (.int i t)<|.int j u) Q E s) :
 mu X f (A4 λi j=> .bl (g i j)):=by
 intro a s d H x y v u Q I rx z h;obtain⟨i,j,rfl,rfl,q⟩:=h;obtain⟨t,rfl⟩:=rx;obtain⟨b,rfl⟩:=z;exact rule i j t b s _ _ ⟨.bl<|g i j,H,I,rfl,q⟩
def Ac(i j:Int):Prop:=0<j/\j<1073741824
def Ab(i j:Int):Prop:=0<=j/\j<=1000000/\i.natAbs<2 ^ 64
noncomputable def E6(i j:Int):Prop:=(-(2 ^ 64)<i/\i<2 ^ 64)\/(-(2 ^ 64)<j/\j<2 ^ 64)
theorem E6.ok(h:E6 i j):IntMulOk i j:=by
 rcases h with⟨a,b⟩ | ⟨a,b⟩
 ·exact .of_left<|intBits_le_64 a b
 ·exact .of_right<|intBits_le_64 a b
theorem Ny:mu X (B0 .Add) (A4 λi j=> .int (i+j)):=um λ_ _ _ _ _ _ _ q=>add_int q
theorem mn:mu X (B0 .Sub) (A4 λi j=> .int (i - j)):=um λ_ _ _ _ _ _ _ q=>sub_int q
theorem Nz:mu X (B0 .Mult) (rI E6 λi j=> .int (i*j)):=IX λ_ _ _ _ _ _ _ z q=>mul_int q z.ok
theorem fC:mu X (B0 .FloorDiv) (rI Ac λi j=> .int (i/j)):=IX λi j _ _ _ _ _ z q=>by have a:(0:Int)<j:=z.1;have b:j<1073741824:=z.2;exact floordiv_int ⋯ (by rw[Int.fdiv_eq_ediv_of_nonneg i ⋯];exact q)<|.inl<|PyProof.noPylong_small ⋯
theorem my:mu X (B0 .Mod) (rI (λ_ j=>0<j) λi j=> .int (i%j)):=IX λi j _ _ _ _ _ z q=>by have a:(0:Int)<j:=z;exact mod_int' ⋯ (by rw[Int.fmod_eq_emod_of_nonneg i ⋯];exact q)
theorem mq:mu X (B0 .Pow) (rI Ab λi j=> .int (i ^ j.toNat)):=IX λ_ _ _ _ _ _ _ z q=>pow_int_small z.1 z.2.1 z.2.2 q
theorem NM{f:eM->Sem eM}{g:Int->Int}
 (rule : ∀(i:Int) (t:Tok) (s:hA) (Q:MQ) (E:MQ),Q (.int (g i) s.toks) {s with toks:=s.toks+1}->wpAny (hH X.prog X.w) X.A (f<|.int i t) Q E s) :
 Lh X f (rU λi=> .int (g i)):=by
 intro a s b H x v Q I rx h;obtain⟨i,rfl,q⟩:=h;obtain⟨t,rfl⟩:=rx;exact rule i t s _ _ ⟨.int<|g i,H,I.tok _,⟨_,rfl⟩,q⟩
theorem iL:Lh X (unaryOp .USub) (rU λi=> .int (-i)):=NM λ_ _ _ _ _ q=>neg_int q
end
section
variable{X:Cx}{a b c:hI}{ta tb tc:TE}{pos:ik}
theorem aL:mu X (ro .Lt) (A4 λi j=> .bl (decide<|i<j)):=rO λ_ _ _ _ _ _ _ q=>lt_int q
theorem Kj:mu X (ro .LtE) (A4 λi j=> .bl (decide<|i<=j)):=rO λ_ _ _ _ _ _ _ q=>le_int q
theorem rN:mu X (ro .Gt) (A4 λi j=> .bl (decide<|j<i)):=rO λ_ _ _ _ _ _ _ q=>gt_int q
def sd:HO->Bool
 | .lst _=>d6
 | .ins _ _ _=>d6
 | _=>eF
theorem xJ{J:MW}{s:hA}{L:St}{H:Hp}{a:eH}{o:HO}(I:Inv X J L H s)(h:H a=cI o)(p:sd o=d6) : ∃U,s.heap.get? a=cI U/\U.cls ≠ .type "tuple":=by
 cases o with
 | lst b=>
  obtain⟨_,O,n,_,e⟩:b.length<=i6/\∃(O:List eM) (n:Nat),i0 b O/\s.heap.get? a=cI {cls:= .type "list",data:= .seq O.toArray n}:=I.ij a _ h;exact⟨_,e,(by show Ej "list" ≠ .type "tuple";decide +kernel)⟩
 | ins C d fs=>
  have x:=I.ij a _ h;obtain⟨_,_,_,e,_⟩:=x;exact⟨_,e,(by show BU C ≠ .type "tuple";exact λz=>by cases z)⟩
 | _=>exact absurd (show eF=d6 from p) BJ
theorem mu.or(h:mu X f r)(h':mu X f r'):mu X f (λx y H Q=>r x y H Q\/r' x y H Q):=by
 intro a s b H x y v u Q I rx z q;rcases q with q | q
 ·exact h a s b H x y v u Q I rx z q
 ·exact h' a s b H x y v u Q I rx z q
theorem Jv(b:hI)(h:op ≠ .In:=by decide)(H:op ≠ .NotIn:=by decide):C3 op b=eF:=by
 have a:(op==CmpOp.In)=eF:=by cases op<;>first | rfl | exact absurd rfl h
 have z:(op==CmpOp.NotIn)=eF:=by cases op<;>first | rfl | exact absurd rfl H
 cases b<;>simp[C3,a,z]
theorem fv{z:CmpOp}{r:R2}(O:mu X (ro z) r)(J:PE X a ta)(U:PE X b tb)(L:C3 z b=eF):PE X (.Compare a [z] [b] pos) (Ik r ta tb):=by intro d s i H Q I h;exact wpAny_Compare1 (sO J U I h λv u g x y e Y rx f q=>O d g i e x y v u Q Y rx f q) L
def iQ(t:TE):TT:=λb H Q=>t b H λx a=>∃k,x = .bl k/\Q k a
theorem Qg(O:mu X (ro op) r)(J:PE X a ta)(U:PE X b tb)(L:C3 op b=eF):PT X (.Compare a [op] [b] pos) (iQ<|Ik r ta tb):=by
 intro d s f H Q I h;refine wpAny_isTrue_Compare1 (ih (J d s f H _ I h) λv B ⟨x,g,Y,t,n⟩=>ih (U d B f g _ Y n) λu C ⟨y,i,l,w,o⟩=>
  ih (O d C f i x y v u _ l t w o) λc E ⟨z,j,m,A,k,e,p⟩=>?_) L
 subst e;cases A;exact Ee ⟨j,m,p⟩
noncomputable def bX(r J:R2)(ta tb tc:TE):TE:=λa H Q=>ta a H λx b=>tb a b λy d=>r x y d λz I=>∃k,z = .bl k/\
 (if k=d6 then tc a I λe O=>J y e O Q else Q (.bl eF) I)
theorem aG(ho:mu X (ro op) r)(J:mu X (ro Ic) r')(L:PE X a ta)(Z:PE X b tb)(hc:PE X c tc)
 (hm:Lv [op,Ic] [b,c]=eF:=by with_unfolding_all rfl):PE X (.Compare a [op,Ic] [b,c] pos) (bX r r' ta tb tc):=by
 intro f s g H Q I h;refine Compare_chain (ih (L f s g H _ I h) λv F ⟨x,j,n,B,t⟩=>chain_link (ih (Z f F g j _ n t) λu G ⟨y,l,o,O,w⟩=>
  ih (ho f G g l x y v u _ o B O w) λd K ⟨z,U,Y,C,k,e,i⟩=>?_)) hm
 subst e;cases C;refine Ee ?_;cases k with
 | false=>exact ite_ff ⟨.bl eF,U,Y,rfl,i⟩
 | true=>exact ite_tt<|chain_last<|ih (hc f K g U _ Y i) λN M ⟨P,m,p,E,A⟩=>J f M g m y P u N Q p O E A
theorem au{O U:CmpOp}{r J:R2}(ho:mu X (ro O) r)(L:mu X (ro U) J)(Z:PE X a ta)(hb:PE X b tb)(hc:PE X c tc)
 (hm:Lv [O,U] [b,c]=eF:=by with_unfolding_all rfl):PT X (.Compare a [O,U] [b,c] pos) (iQ<|bX r J ta tb tc):=by
 intro f s g H Q I h;refine isTrue_chain (ih (Z f s g H _ I h) λv W ⟨x,m,t,P,G⟩=>test_link (ih (hb f W g m _ t G) λu s2 ⟨y,n,w,Y,K⟩=>
  ih (ho f s2 g n x y v u _ w P Y K) λd s3 ⟨z,i,j,R,k,e,l⟩=>?_)) hm
 subst e;cases R;refine Ee ?_;cases k with
 | false=>
  obtain⟨k',C,F⟩:=l;cases C;exact ite_ff ⟨i,j,F⟩
 | true=>
  refine ite_tt<|test_last<|ih (hc f s3 g i _ j l) λw' s4 ⟨z',o,A,S,M⟩=>ih (L f s4 g o y z' u w' _ A Y S M) λd' s5 ⟨z2,p,B,T,k2,E,N⟩=>?_;subst E;cases T;exact Ee ⟨p,B,N⟩
noncomputable def uX(K:Bo)(x:V)(H:Hp)(k:Bool):Prop:=
 match x with
 | .i3=>k=eF
 | .bl b=>k=b
 | .int i=>k=(i != 0)
 | .str y=>y.length<=i6/\k=((y.length:Int) != 0)
 | .HY y=>y.size<=i6/\k=((y.size:Int) != 0)
 | .ref p=>(∃d,kv K H p d/\k = !d.isEmpty)\/(∃d,lb K H p d/\k = !d.isEmpty)\/∃a,H p=cI (.dK a)/\k = !a.isEmpty
 | _=>False
theorem Kv(r:KV m8 vs):(!vs.isEmpty) = !m8.isEmpty:=by cases r<;>rfl
theorem wY(r:i0 xs Nl):(!Nl.toArray.isEmpty) = !xs.isEmpty:=by cases r<;>simp
theorem vH:(i6:Nat)<2 ^ 63:=by rw[EZ];decide
theorem iN:AZ X (λx H Q=>∃k,uX X.K x H k/\Q k H):=by
 intro l s B H x v Q I rx h;obtain⟨k,e,q⟩:=h;have u:=vH;have A:i6=16777216:=EZ;cases x with
 | i3=>
  cases rx;have z:k=eF:=e;subst z;exact truthy_none ⟨H,I,q⟩
 | bl b=>
  cases rx;have z:k=b:=e;subst z;exact Ee ⟨H,I,q⟩
 | int i=>
  obtain⟨t,rfl⟩:=rx;have z:k=(i != 0):=e;subst z;exact PySem.P.truthy_int ⟨H,I,q⟩
 | str y=>
  obtain⟨t,rfl⟩:=rx;obtain⟨Y,z⟩:y.length<=i6/\k=((y.length:Int) != 0):=e;subst z;exact PySem.P.truthy_str ⋯ ⟨H,I.tok _,q⟩
 | HY y=>
  obtain⟨t,rfl⟩:=rx;obtain⟨Y,z⟩:y.size<=i6/\k=((y.size:Int) != 0):=e;subst z;exact PySem.W.truthy_bytes ⋯ ⟨H,I.tok _,q⟩
 | ref p=>
  cases rx;have z:(∃d,kv X.K H p d/\k = !d.isEmpty)\/(∃d,lb X.K H p d/\k = !d.isEmpty)\/∃a,H p=cI (.dK a)/\k = !a.isEmpty:=e;rcases z with⟨d,O,z⟩ | ⟨d,O,z⟩ | ⟨a,O,z⟩
  ·subst z
   obtain⟨n,r,g,j⟩:=I.list O;have U:=r.length;exact wpAny_truthy_list g.isList (by simp only[By];omega) ⟨H,I.tok _,by rw[wY r];exact q⟩
  ·subst z
   obtain⟨n,r,g,j⟩:=I.tuple O;have U:=r.length;exact truthy_tuple g (by simp only[By];omega) ⟨H,I.tok _,by rw[wY r];exact q⟩
  ·subst z
   obtain⟨j,o,f,r,m⟩:a.length<=i6/\(p==DI)=eF/\∃f,KV a f/\s.heap.DictOf (j9 X.prog X.w) p f:=I.ij p _ O;have U:a.length=f.length:=Paired.length r;exact wpAny_truthy_dict o m ⋯ ⟨H,I.tok _,by rw[Kv r];exact q⟩
 | _=>exact(show False from e).elim
theorem aq(Z:PE X a ta)(O : ∀z,E1 a X.env z=(do let v <- z;G7 a.pos;Dz [v] (truthy v))) :
 PT X a (λJ H Q=>ta J H λx L=>∃k,uX X.K x L k/\Q k L):=by
 intro b s J H Q I h;exact isTrue_plain (ih (Z b s J H _ I h) λv f ⟨x,d,U,Y,e⟩=>iN b f J d x v Q U Y e)<|O _
theorem Kk:mu X (B0 .Add) (λx y H Q=>∃i j,x = .str i/\y = .str j/\i.length+j.length<=i6/\Q (.str<|i++j) H):=by intro a s f H x y v u Q I rx z h;obtain⟨i,j,rfl,rfl,b,q⟩:=h;obtain⟨t,rfl⟩:=rx;obtain⟨d,rfl⟩:=z;exact add_str (λd e=>⟨.str<|i++j,H,I.tok _,⟨_,rfl⟩,q⟩) b
theorem kH(r:i0 [x] us) : ∃u,us=[u]/\RelV x u:=by
 cases r with
 | cons z I=>cases I;exact⟨_,rfl,z⟩
theorem iK(r:i0 [x,y] us) : ∃u H,us=[u,H]/\RelV x u/\RelV y H:=by
 cases r with
 | cons z I=>
  cases I with
  | cons O U=>cases U;exact⟨_,_,rfl,z,O⟩
theorem Wk(O:X.calm=d6):yX X (.builtin "min") (λxs H Q=>∃i j,xs=[.int i,.int j]/\Q (.int (if j<i then j else i)) H):=by
 intro a s l H xs f Q I r h;obtain⟨i,j,rfl,q⟩:=h;obtain⟨u,g,rfl,⟨t,rfl⟩,⟨d,rfl⟩⟩:=iK r;refine min_two_ints (I.ok.hd O) λb e k=>⟨_,H,I.kept k,?_,q⟩;by_cases z:j<i
 ·rw[MY z,MY z];exact⟨_,rfl⟩
 ·rw[RQ z,RQ z];exact⟨_,rfl⟩
theorem JT:yX X (.type "int") (λxs H Q=>(∃i,xs=[.int i]/\Q (.int i) H)\/∃k,xs=[.bl k]/\Q (.int (if k then 1 else 0)) H):=by
 intro a s d H xs b Q I r h;rcases h with⟨i,rfl,q⟩ | ⟨k,rfl,q⟩
 ·obtain⟨u,rfl,t,rfl⟩:=kH r
  exact call_int_int ⟨.int i,H,I,⟨_,rfl⟩,q⟩
 ·obtain⟨u,rfl,z⟩:=kH r
  cases z;exact call_int_bool ⟨.int<|if k then 1 else 0,H,I.tok _,⟨_,rfl⟩,q⟩
end
structure Lg(h:ia)(x dx C:eH)(mA:MJ):Prop where
 obj:h.get? x=cI (PySem.W.instObj C dx)
 ns:h.Ns1 dx mA
 ne:dx≠x
theorem Vv{h:ia}{H:eH}{J:MJ}(n:h.Ns1 H J) : ∃od,h.get? H=cI od/\∀name,PySem.W.lookIn name od=cI (J name):=by
 obtain⟨o,b,i,I,d,f,_,g⟩:=n;refine⟨o,I,λname=>?_⟩;have e:=g name;unfold nsFind findBy at e;rw[<- Array.find?_toList]at e;unfold PySem.W.lookIn;rw[d];dsimp only;split
 ·rename_i y q
  rw[q]at e;exact congrArg cI e
 ·rename_i q
  rw[q]at e;have a:b.toList.any (·.refKey)=eF:=by rw[List.any_eq_false];intro y O;obtain⟨z,t,U⟩:=f y<|Array.mem_toList_iff.mp O;simp[DictEntry.refKey,U]
  have Y : ¬b.toList.any (·.refKey)=d6:=by rw[a];exact BJ
  rw[RQ Y];exact congrArg cI e
theorem Lg.look(I:Lg h x dx C mA) : ∃od,PySem.W.InstAt h x (PySem.W.instObj C dx) C (cI od)/\∀name,PySem.W.lookIn name od=cI (mA name):=
 let ⟨od,z,O⟩:=Vv I.ns
 ⟨od,⟨I.obj,rfl,rfl,z⟩,O⟩
noncomputable def rG(f:Str)(v:V):List (Str×V)->List (Str×V)
 | []=>[(f,v)]
 | (g,x)::r=>if g=f then (g,v)::r else (g,x)::rG f v r
theorem B9.some_of(r:B9 (cI v) o) : ∃u,o=cI u/\RelV v u:=by
 cases o with
 | none=>exact(show False from r).elim
 | some u=>exact⟨u,rfl,r⟩
section
variable{P:i8}{w:i5}{H H':Hp}{h h':ia}{a C dx:eH}{fs Ng:List (Str×V)}
theorem gp(J:m5 P w H h)(e:H a=cI (.ins C dx fs)) : ∃mA,Lg h a dx C mA/\(∀f,B9 (fs.lookup f)<|mA f)/\Hu mA (fs.map (·.1))/\fs.length<=1000/\H dx=cI (.own a):=by obtain⟨d,z,b,I,mA,n,r,q⟩:=(show l8 P w H h a (.ins C dx fs)from J a _ e);exact⟨mA,⟨I,n,b⟩,r,q,z,d⟩
end
structure IA(K:Bo)(C:eH):Prop where
 pg:Ho K C Str.empty=d6
 hd:PySem.W.hasDictIn K C=d6
 po:PySem.W.plainOver K C=d6
 sa:Cv K (.ref C) "__setattr__" = cI (cI (.builtin "object.__setattr__"))
theorem IA.get{K:Bo}{C:eH}(c:IA K C)(f:Str):Ho K C f=d6:=c.pg
section
variable{X:Cx}{pins:MW}{σ:St}{H:Hp}{s:hA}{a C dx:eH}{fs:List (Str×V)}{f:Str}{v:V}{A:l9}{E:MQ}
theorem gO(z:HX e f env (hM e env)=hM e env)
 (h:wpAny (hH prog w) A (hM e env) (λo I=>wpAny (hH prog w) A (getAttr o f d6) Q E I) E s):wpAny (hH prog w) A (hM (.Attribute e f pos) env) Q E s:=
 Attribute_any_ h (by rw[arm_eval_Attribute,z])
end
section
variable{X:Cx}{pins:MW}{σ:St}{H:Hp}{s:hA}{A:l9}{E:MQ}{Q:MQ}{c:eM}{b:Bool}
inductive y9(K:Bo)(H:Hp):V->eM->Prop where
 | i3:y9 K H .i3 (.type "NoneType")
 | bl (x:Bool):y9 K H (.bl x) (.type "bool")
 | int (i:Int):y9 K H (.int i) (.type "int")
 | str (x:Str):y9 K H (.str x) (.type "str")
 | F8 (x:UInt64):y9 K H (.F8 x) (.type "float")
 | lst {a:eH} {xs:List V} (e:H a=cI (.lst xs)):y9 K H (.ref a) (.type "list")
 | ri {a:eH} {o:m7} {xs:List V} (e:H a=cI (.ri o (.lst xs))):y9 K H (.ref a) (.type "list")
 | tup {a:eH} {xs:List V} (e:H a=cI (.tup xs)):y9 K H (.ref a) (.type "tuple")
 | dK {a:eH} {m8:List (Key×V)} (e:H a=cI (.dK m8)):y9 K H (.ref a) (.type "dict")
 | dT {a:eH} {m8:List (List Key×V)} (e:H a=cI (.dT m8)):y9 K H (.ref a) (.type "dict")
 | ins {a C dx:eH} {fs:List (Str×V)} (e:H a=cI (.ins C dx fs)) (cl:IA K C) (ha:Cv K (.ref C) "__class__" = cI (cI (.builtin "object.__class__")))
  (hn:Fy K (.builtin "object.__class__") "__get__" = cI (cI (.builtin "getset_descriptor.__get__"))) (NX:PySem.W.takesIn K (.builtin "object.__class__")=cI d6)
  (hm:CB K C (.type "object")=cI d6):y9 K H (.ref a) (.ref C)
theorem VH(I:Inv X pins σ H s)(rx:RelV x u)(ty:y9 X.K H x t)(e:CT X.K t c=cI b)(h : ∀L,Q (.bool b) {s with toks:=L}) :
 wpAny (hH X.prog X.w) A (call (.builtin "isinstance") [u,c]) Q E s:=by
 cases ty with
 | i3=>cases (show u=Cy from rx);exact BO PySem.W.kitx_none I.l7 Ey e (λz=>nomatch z) h
 | bl y=>cases (show u=Value.bool y from rx);exact BO PySem.W.kitx_bool I.l7 Ey e (λz=>nomatch z) h
 | int i=>obtain⟨t,q⟩:=(show ∃t,u=FR i t from rx);cases q;exact BO PySem.W.kitx_int I.l7 Ey e (λz=>nomatch z) h
 | str y=>obtain⟨t,q⟩:=(show ∃t,u=Hb y t from rx);cases q;exact BO PySem.W.kitx_str I.l7 Ey e (λz=>nomatch z) h
 | F8 y=>obtain⟨t,q⟩:=(show ∃t,u=Value.float y t from rx);cases q;exact BO PySem.W.kitx_float I.l7 Ey e (λz=>nomatch z) h
 | @lst a g U=>
  cases (show u=BU a from rx);obtain⟨_,_,n,_,d⟩:=(show l8 X.prog X.w H s.heap a (.lst g)from I.ij a _ U);exact BO He I.l7 ⟨_,d,rfl⟩ e (λz=>nomatch z) h
 | @ri a Y g U=>
  cases (show u=BU a from rx);obtain⟨_,_,_,n,_,d⟩:=(show l8 X.prog X.w H s.heap a (.ri Y<|.lst g)from I.ij a _ U);exact BO He I.l7 ⟨_,d,rfl⟩ e (λz=>nomatch z) h
 | @tup a g U=>
  cases (show u=BU a from rx);obtain⟨_,_,_,p⟩:=(show l8 X.prog X.w H s.heap a (.tup g)from I.ij a _ U);obtain⟨o,d,j,_⟩:=p;exact BO PySem.W.kitx_tuple I.l7 ⟨o,d,(Prod.mk.inj j).1⟩ e (λz=>nomatch z) h
 | @dK a f U=>
  cases (show u=BU a from rx);obtain⟨_,_,R,_,p⟩:=(show l8 X.prog X.w H s.heap a (.dK f)from I.ij a _ U);obtain⟨o,r,m,d,j,_⟩:=p;exact BO Ge I.l7 ⟨o,d,j.1⟩ e (λz=>nomatch z) h
 | @dT a f U=>
  cases (show u=BU a from rx);obtain⟨_,_,g,_,o,r,m,d,j,_⟩:=(show l8 X.prog X.w H s.heap a (.dT f)from I.ij a _ U);exact BO Ge I.l7 ⟨o,d,j.1⟩ e (λz=>nomatch z) h
 | @ins a C M fs U l B G k F=>
  cases (show u=BU a from rx);obtain⟨N,O,_⟩:=gp I.ij U;obtain⟨P,J,_⟩:=O.look;exact BO (PySem.W.kitx_own (l.get _) l.hd B G k F) I.l7 J e (λz=>nomatch z) h
end
structure q7(k:Nat)(A:l9):Prop where
 hd:A.handled=cS
 dp:A.depth+3*k+5<recursionLimit
 un:A.units+16*k+200<cLine
theorem q7.mono(r:q7 k A)(h:j<=k):q7 j A:=⟨r.hd,by have:=r.dp;omega,by have:=r.un;omega⟩
theorem q7.deeper(r:q7 (k+1) A)(env:mr):q7 k (A.deeper env):=
 ⟨r.hd,by have:=r.dp;show A.depth+1+3*k+5<_;omega,by have:=r.un;show A.units+3+16*k+200<_;omega⟩
theorem Kq{A:l9}{C:eH}{H:List eM}{z:List (Str×eM)}:(A.under (.builtin "type.__call__" ⟨.ref C::H,z⟩)).depth=A.depth+1:=by first | rfl | simp[Around.under,Code.weight,Code.isCreation,Code.isGuard,Code.isCaller,Code.frames,Code.isFrame,guardIds]
theorem Kp{A:l9}{C:eH}{H:List eM}{z:List (Str×eM)}:(A.under (.builtin "type.__call__" ⟨.ref C::H,z⟩)).units=A.units+1:=by first | rfl | simp[Around.under,Code.cUnits,Code.frames,Code.isFrame]
theorem q7.make(r:q7 (k+1) A)(C:eH)(H:List eM)(z:List (Str×eM)):q7 k (A.under (.builtin "type.__call__" ⟨.ref C::H,z⟩)):=
 ⟨r.hd,by have:=r.dp;rw[Kq];omega,by have:=r.un;rw[Kp];omega⟩
theorem q7.depth(r:q7 k A):A.depth<recursionLimit:=by have:=r.dp;omega
def tZ:TA:=λ_ H Q=>Q [] H
noncomputable def iS(I:TE)(z:TA):TA:=λa H Q=>I a H λx b=>z a b λe d=>Q (x::e) d
section
variable{X:Cx}{e:hI}{es:List hI}{te:TE}{t:TA}{pos:ik}
theorem jT:PA X [] tZ:=λ_ _ _ _ H Q I h=>EL ⟨[],H,I,.nil,h⟩
theorem z7(J:PE X e te)(z:PA X es t)(O:iv (e::es) X.env=(eF,hM e X.env)::iv es X.env:=by rfl):PA X (e::es) (iS te t):=by intro pos a s b H Q I h;rw[O];show wpAny _ _ (A6 ((eF,hM e X.env)::o8 pos (iv es X.env))) _ _ s;refine Ci<|ih (J a s b H _ I h) λu m U=>?_;obtain⟨x,d,Y,k,i⟩:=U;exact ih (z pos a m b d _ Y i) λp o ⟨n,f,g,l,j⟩=>⟨x::n,f,g,.cons k l,j⟩
noncomputable def Ak(t:TA):TE:=λd H Q=>t d H λb a=>b.length<=i6/\∀p,a p=cS->Q (.ref p) (upd a p<|.tup b)
noncomputable def An(t:TA):TE:=λd H Q=>t d H λb a=>b.length<=i6/\∀p,a p=cS->Q (.ref p) (upd a p<|.lst b)
theorem lX(h:PA X es t):PE X (.Tuple es x1 pos) (Ak t):=by intro a s k H Q I U;refine wpAny_Tuple_spliced<|ih (h pos a s k H _ I U) λi d ⟨j,f,O,r,z,q⟩=>⟨by rw[<- r.length];exact z,?_⟩;have g:f d.heap.objs.size=cS:=O.ij.fresh<|BB _;refine⟨.ref d.heap.objs.size,upd f d.heap.objs.size<|.tup j,O.laid (t':=d.toks) (λb u e=>Bq _ e) (BB _) ?_,rfl,q _ g⟩;exact⟨z,i,r,⟨_,BI _ rfl,rfl,_,rfl⟩⟩
theorem md(h:PA X es t):PE X (.List es pos) (An t):=by intro a s k H Q I U;refine wpAny_List_spliced<|ih (h pos a s k H _ I U) λi d ⟨j,f,O,r,z,q⟩=>⟨by rw[<- r.length];exact z,?_⟩;have g:f d.heap.objs.size=cS:=O.ij.fresh<|BB _;refine⟨.ref d.heap.objs.size,upd f d.heap.objs.size<|.lst j,O.laid (t':=d.toks) (λb u e=>Bq _ e) (BB _) ?_,rfl,q _ g⟩;exact⟨z,i,0,r,BI _ rfl⟩
end
abbrev Sp:=List V->Hp->VK->XK->Prop
abbrev A8:=List mr->Hp->hA->XK->eM->hA->Prop
structure Dc(P:i8)(w:i5)(K:Bo)(mg:MJ)(base:ia)(A:l9)(outer:List mr)(s:hA)(H:Hp):Prop where
 frames:A.frames=cI outer
 mod:Mod K mg base
 bs : ∀b o,base.get? b=cI o->s.heap.get? b=cI o/\H b=cS
 B1:base.objs.size<=s.heap.objs.size
 rk:s.heap.FunFrames base outer
 B4 : ∀b∈n5 outer,H b=cS
 ij:m5 P w H s.heap
 bare:Dm s.gens
noncomputable def CE(outer:List mr)(P:i8)(w:i5)(H:Hp)(s:hA)(Q:VK)(u:eM)(s':hA):Prop:=
 ∃v a,s'.os=s.os/\Dm s'.gens/\Un (n5 outer) [] H a s.heap s'.heap/\m5 P w a s'.heap/\RelV v u/\Q v a
noncomputable def CR(CX:A8)(outer:List mr)(P:i8)(w:i5)(H:Hp)(s:hA)(Q:VK)(E:XK)(r:Result)(s':hA):Prop:=
 match r with
 | .ok (.ret u)=>CE outer P w H s Q u s'
 | .ok _=>False
 | .error e=>CX outer H s E e s'
structure t4(P:i8)(w:i5)(K:Bo)(mg:MJ)(base:ia)(CX:A8)(k:Nat)(f:eH)(fd:ts)(ps:List Str)(sp:Sp):Prop where
 len : ∀vs H Q E,sp vs H Q E->vs.length=ps.length
 run : ∀(A:l9) (outer:List mr) (s:hA) (H:Hp) (args:Args) (us:List eM) (vs:List V) (Q:VK) (E:XK),q7 k A->Dc P w K mg base A outer s H->HP s fd args (ps.zip us)->i0 vs us->sp vs H Q E->
  codeAny (hH P w) A (.call (.ref f) args) (CR CX outer P w H s Q E) s
theorem Dc.make{P:i8}{w:i5}{K:Bo}{I:MJ}{base:ia}{A:l9}{outer:List mr}{s:hA}{H:Hp}(e:Dc P w K I base A outer s H)(C:eH)(J:List eM)(z:List (Str×eM)) :
 Dc P w K I base (A.under (.builtin "type.__call__" ⟨.ref C::J,z⟩)) outer s H:=⟨by first | exact e.frames | (simpa[Around.under,Code.envs,Code.isFrame,pushEnvs]using e.frames),e.mod,e.bs,e.B1,e.rk,e.B4,e.ij,e.bare⟩
section
variable{X:Cx}{pins:MW}{σ:St}{H:Hp}{s s':hA}
theorem Inv.IM(I:Inv X pins σ H s):Dc X.prog X.w X.K X.mg X.base X.A X.stack s H:=
 ⟨I.ok.frames,I.ok.mod,I.bs,Co I.ok.B1 I.sz,I.stack,I.G8,I.ij,I.bare⟩
theorem Inv.after(I:Inv X pins σ H s)(h:CE X.stack X.prog X.w H s Q u s'):EP X pins σ Q u s':=by obtain⟨v,f,os,a,un,e,r,q⟩:=h;obtain⟨O,g,d,t,U⟩:=s';obtain rfl:U=s.os:=os;exact⟨v,f,I.call (h':=O) (g':=g) (d':=d) (t':=t) (ch:=[]) un e a<|λb z=>absurd z ⋯,r,q⟩
end
noncomputable def dG(sp:Sp)(z:List V)(E:XK)(t:TA):TE:=λd H Q=>t d H λb a=>sp (b++z) a Q E
noncomputable def Binds(K:Bo)(H:ts)(ps:List Str)(z:List eM):Prop:=
 ∀(s:hA) (a:List eM),K.In s.heap->(a++z).length=ps.length->HP s H ⟨a,[]⟩ (ps.zip<|a++z)
theorem Binds.all{K:Bo}{I:ts}{ps:List Str}(h : ∀H:List eM,H.length=ps.length->bindArgs I ⟨H,[]⟩=pure (ps.zip H)):Binds K I ps []:=λs H _ z=>by rw[ER]at z ⊢;exact .of_eq<|h H z
noncomputable def WC(CX:A8)(X:Cx)(E:XK):Prop:=∀(a:MW) (d:St) (H:Hp) (s:hA) (e:eM) (b:hA),Inv X a d H s->CX X.stack H s E e b->X.xe e b
section
variable{X:Cx}{CX:A8}{k:Nat}{f C:eH}{fd:ts}{ps:List Str}{sp:Sp}{F4:List V}{ds:List eM}{E:XK}{x m:Str}{p pos apos:ik}{e o:hI}{es:List hI}{ta:TE}{t:TA}
theorem lq(F:t4 X.prog X.w X.K X.mg X.base CX k f fd ps sp)(U:q7 k X.A)(Y:Binds X.K fd ps ds)(J:i0 F4 ds)(L:WC CX X E)
 (I:Inv X pins σ H s) (r:i0 vs us) (h:sp (vs++F4) H Q E):wpAny (hH X.prog X.w) X.A (call (.ref f) us) (EP X pins σ Q) X.xe s:=by
 have O:i0 (vs++F4) (us++ds):=r.append J;have b:(us++ds).length=ps.length:=by rw[<- O.length];exact F.len _ _ _ _ h
 refine FN<|FQ (F.run X.A X.stack s H ⟨us,[]⟩ (us++ds) (vs++F4) Q E U I.IM (Y s us I.l7 b) O h) λr d z=>?_;cases r with
 | error e=>exact L pins σ H s e d I z
 | ok a=>
  cases a with
  | ret u=>exact I.after z
  | next=>exact CM z
  | brk=>exact CM z
  | cont=>exact CM z
theorem Y7(F:t4 X.prog X.w X.K X.mg X.base CX k f fd ps sp)(O:q7 k X.A)(U:Gl X x)(hm:X.mg x=cI (.ref f))(hk:Ek X.K (.ref f)=d6)(Y:Binds X.K fd ps ds)(hd:i0 F4 ds)(hx:WC CX X E)
 (Z:PA X (e::es) t) (J:(x==("__debug__" : Str))=eF:=by decide) (he:iv (e::es) X.env=(eF,hM e X.env)::iv es X.env:=by rfl) (L:(o8 pos (iv es X.env)).any (·.1)=eF:=by rfl) :
 PE X (.Call (.Name x p) (e::es) [] pos) (dG sp F4 E t):=by
 intro a s b H Q I h;refine CI<|xw I U hm ?_ J;refine FU (h₀:=X.base) I.ok.mod.DB hk (ih (Z pos a s b H _ I h) λi g ⟨j,d,z,r,q⟩=>⟨z.l7,?_⟩) he L;exact lq F O Y hd hx z r q
end
structure E7(N P:List Str)(sc:i7):Prop where
 kind:sc.kind = .function
 co:sc.isCoroutine=eF
 gen:sc.isGenerator=eF
 nd:N.Nodup
 pre:N.take P.length=P
 par : ∀x∈P,sc.names.lookup x=cI .local\/sc.names.lookup x=cI .cell
 Nw : ∀y∈sc.names,y.2 ≠ .free
theorem JU{kindOf:Str->Option B8}{x:Str} : ∀{binds:List (Str×eM)} {m:MJ},(∀v,(x,v)∉binds)->DR kindOf binds m x=m x
 | [],_,_=>rfl
 | (n,v)::r,m,h=>by
  unfold DR;rw[JU λw a=>h w (BL _ a)];split
  ·have:x≠n:=by rintro rfl;exact h v BQ
   simp[this]
  ·rfl
theorem JX{kindOf:Str->Option B8}{x:Str} : ∀{binds:List (Str×eM)} {m:MJ},(∀v,(x,v)∉binds)->DQ kindOf binds m x=m x
 | [],_,_=>rfl
 | (n,v)::r,m,h=>by
  unfold DQ;rw[JX λw a=>h w (BL _ a)];split
  ·rfl
  ·have:x≠n:=by rintro rfl;exact h v BQ
   simp[this]
theorem JV{kindOf:Str->Option B8}{x:Str}{v:eM} : ∀{P:List Str} {vs:List eM} {i:Nat} {m:MJ},P.Nodup->P[i]? = cI x->vs[i]? = cI v->kindOf x=cI .local->
 DR kindOf (P.zip vs) m x=cI v
 | [],_,_,_,_,h,_,_=>by simp at h
 | _::_,[],_,_,_,_,h,_=>by simp at h
 | p::P,w::vs,0,m,nd,h1,h2,hk=>by simp at h1 h2;subst h1;subst h2;show DR kindOf ((p,w)::P.zip vs) m p=_;unfold DR;rw[JU λv z=>(FV.mp nd).1 (GJ z).1,MY hk];simp
 | p::P,w::vs,i+1,m,nd,h1,h2,hk=>by show DR kindOf ((p,w)::P.zip vs) m x=_;unfold DR;exact JV (i:=i) (FV.mp nd).2 (by simpa using h1) (by simpa using h2) hk
theorem JY{kindOf:Str->Option B8}{x:Str}{v:eM} : ∀{P:List Str} {vs:List eM} {i:Nat} {m:MJ},P.Nodup->P[i]? = cI x->vs[i]? = cI v->kindOf x≠cI .local->
 DQ kindOf (P.zip vs) m x=cI v
 | [],_,_,_,_,h,_,_=>by simp at h
 | _::_,[],_,_,_,_,h,_=>by simp at h
 | p::P,w::vs,0,m,nd,h1,h2,hk=>by simp at h1 h2;subst h1;subst h2;show DQ kindOf ((p,w)::P.zip vs) m p=_;unfold DQ;rw[JX λv z=>(FV.mp nd).1 (GJ z).1,RQ hk];simp
 | p::P,w::vs,i+1,m,nd,h1,h2,hk=>by show DQ kindOf ((p,w)::P.zip vs) m x=_;unfold DQ;exact JY (i:=i) (FV.mp nd).2 (by simpa using h1) (by simpa using h2) hk
noncomputable def yA(N:List Str)(vs:List V):St:=vs.map cI++Bu (N.length - vs.length) cS
noncomputable def Z2(CX:A8)(P:i8)(w:i5)(K:Bo)(mg:MJ)(base:ia)(N:List Str)(qual:Str)(scope:i7)(f:eH)(cd:eM)(A:l9)(outer:List mr)(s:hA)(H:Hp)(E:XK):Cx where
 prog:=P
 w:=w
 K:=K
 mg:=mg
 base:=base
 A:=A.deeper<|envOfC qual scope s.heap.objs.size f cd
 N:=N
 l5:=s
 DM:=H
 env:=F5 qual scope s.heap.objs.size f cd
 outer:=outer
 stack:=F5 qual scope s.heap.objs.size f cd::outer
 ex:=[]
 calm:=d6
 fn:=λ_=>d6
 pn:=[]
 xe:=λe s'=>wpAny (hH P w) (A.deeper<|envOfC qual scope s.heap.objs.size f cd) (leaving (F5 qual scope s.heap.objs.size f cd) e) (λ_ z=>CX outer H s E e z) (λI z=>CX outer H s E I z) s'
theorem XE{z:i7}{n:Nat}{x:Str}(h:z.names.lookup x=cI .cell) : ∃c,(t8 n z.names []).lookup x=cI c:=by have q:=EV z.names n [] (.inl h);exact Ec.mp q
theorem JB{CX:A8}{P:i8}{w:i5}{K:Bo}{J:MJ}{base:ia}{N ps:List Str}{qual:Str}{scope:i7}{f:eH}{cd:eM}{A:l9}{outer:List mr}{s Z:hA}{H:Hp}{E:XK}{L:List eM}{vs:List V}
 (S:E7 N ps scope) (hd:A.handled=cS) (I:Dc P w K J base A outer s H) (hl:vs.length=ps.length) (r:i0 vs L)
 (x:InCallC s s.heap.objs.size (DR (F5 qual scope s.heap.objs.size f cd).kindOf (ps.zip L) λ_=>cS) (t8 (s.heap.objs.size+1) scope.names []) (DQ (F5 qual scope s.heap.objs.size f cd).kindOf (ps.zip L) λ_=>cS) Z) :
 Inv (Z2 CX P w K J base N qual scope f cd A outer s H E) [] (yA N vs) H Z:=by
 have C:ps.length<=N.length:=by have:=congrArg List.length S.pre;rw[EG]at this;omega
 obtain⟨g,G,rfl,m⟩:=x.done;have Y : ∀b:eH,b∉(Z2 CX P w K J base N qual scope f cd A outer s H E).ex:=λb z=>absurd (show b∈([]:List eH)from z) ⋯;refine⟨⟨I.mod,S.kind,rfl,rfl,BB _,λy z c g d=>?_,λy O=>?_,λy c _ h=>?_,λ_=>hd,Around.frames_deeper I.frames,.inr ⟨rfl,rfl⟩,λb z=>absurd z<|Y b,I.bs,I.B1,λb _ _=>Y b,λb z=>absurd z<|Y b,I.rk,I.B4⟩,
  rfl,I.bare,Un.kept m,⟨_,x.toInCall.ns,λi y v g d F=>?_⟩,λy c h=>⟨_,x.cell y c h⟩,I.ij.fresh<|BB _,λy c h=>?_,λp U=>absurd (show p∈([]:MW)from U) ⋯,I.ij.kept m,?_⟩
 ·exact name_of_addr x.apart (Fo g)<|Fo d
 ·have O:scope.names.lookup y=cI .cell\/scope.names.lookup y=cI .free:=O
  rcases O with O | O
  ·exact XE O
  ·exact absurd rfl<|S.Nw _<|Fo O
 ·exact GO<|x.above y c<|Fo h
 ·have j:i<vs.length:=by
   unfold yA at d;by_cases j:i<vs.length
   ·exact j
   ·rw[BW (by simpa using j)]at d
    rw[Fw]at d;split at d<;>cases d
  have t:vs[i]? = cI v:=by
   unfold yA at d;rw[Ck (by simpa using j),Ce]at d;cases e:vs[i]? with
   | none=>rw[e]at d;cases d
   | some a=>rw[e]at d;cases d;rfl
  obtain⟨u,o,B⟩:=r.get t;have U:ps[i]? = cI y:=by rw[<- S.pre,List.getElem?_take_of_lt ⋯];exact g
  have l:ps.Nodup:=by rw[<- S.pre];exact S.nd.sublist<|List.take_sublist _ _
  refine⟨u,B,?_⟩;rcases S.par y (GQ U)with k | k
  ·exact .inl ⟨k,JV l U o k⟩
  ·obtain⟨c,e⟩:=XE (n:=s.heap.objs.size+1) k
   refine .inr ⟨.inl k,c,e,?_⟩;have q:=x.cell y c e;rw[JY l U o (by show scope.names.lookup y≠_;rw[k];decide)]at q;exact q
 ·exact I.ij.fresh<|GO<|x.above y c<|Fo h
 ·unfold yA
  show _=N.length;rw[Cs,Cb,List.length_replicate];omega
theorem nj{CX:A8}{P:i8}{w:i5}{K:Bo}{mg:MJ}{base:ia}{k:Nat}{f:eH}{name qual:Str}{a1:Arguments}{Z:List l0}{scope:i7}{dV kV doc pm L ct oc:eM}{an od:Option eH}
 {G5:Array (Option eM)} {N ps:List Str} {sp:Sp} (lk:K.lookup f=cI ⟨oc,od,.func<|EM name qual a1 Z scope dV kV doc pm an L ct,G5⟩) (a6:Gb K L qual=d6) (S:E7 N ps scope)
 (len : ∀vs H Q E,sp vs H Q E->vs.length=ps.length)
 (a7 : ∀(A:l9) (outer:List mr) (s:hA) (H:Hp) (vs:List V) (Q:VK) (E:XK),q7 k (A.deeper<|envOfC qual scope s.heap.objs.size f L)->sp vs H Q E->
   ∃t,tx (Z2 CX P w K mg base N qual scope f L A outer s H E) Z t/\t {nx:=λ_ H'=>Q .i3 H',rt:=Q} (yA N vs) H) :
 t4 P w K mg base CX (k+1) f (EM name qual a1 Z scope dV kV doc pm an L ct) ps sp:=by
 refine⟨len,λA outer s H j T vs Q E U O hb r h=>?_⟩;have F:=len _ _ _ _ h;have g:K.In s.heap:=O.mod.DB.keeps λb o e=>(O.bs b o e).1;have lim:s.heap.NoLimit:=O.mod.nolimit.keeps λb o e=>(O.bs b o e).1;have m : ∀y∈ps.zip T,scope.names.lookup y.1=cI .local\/(scope.names.lookup y.1=cI .cell/\((t8 (s.heap.objs.size+1) scope.names []).lookup y.1).isSome=d6):=λ⟨n,v⟩ R=>by
  rcases S.par n (GJ R).1 with q | q
  ·exact .inl q
  ·exact .inr ⟨q,EV _ _ _<|.inl q⟩
 refine codeAny_call_function U.depth (g _ _ lk) rfl S.co S.gen rfl (PySem.W.codeRec_of g a6)<|hb _ _ _ _ ?_;refine wpAny_newFunctionEnv_cells S.kind m λp C l x=>?_;subst C;refine⟨lim.keeps x.toInCall.keep,codeAny_func ?_⟩;obtain⟨t,M,G⟩:=a7 A outer s H vs Q E (U.deeper _) h;have I:Inv (Z2 CX P w K mg base N qual scope f L A outer s H E) [] (yA N vs) H l:=JB S U.hd O F r x;refine BN (M [] l (yA N vs) H _ I G) (λB d z=>?_) λe d z=>z;have i : ∀{a:St} {H':Hp} {v:V} {u:eM},Inv (Z2 CX P w K mg base N qual scope f L A outer s H E) [] a H' d->RelV v u->Q v H'->CE outer P w H s Q u d:=
  λ{a H' v u} J Y q=>⟨v,H',J.os,J.bare,J.base,J.ij,Y,q⟩
 cases B with
 | ret u=>
  obtain⟨v,a,H',J,Y,q⟩:=z;exact i J Y q
 | next=>
  obtain⟨a,H',J,q⟩:=z;exact i (v:=V.i3) (u:=Cy) J rfl q
 | brk=>
  obtain⟨_,_,_,q⟩:=z;exact CM q
 | cont=>
  obtain⟨_,_,_,q⟩:=z;exact CM q
section
variable{X:Cx}{x:Str}{p pos:ik}{e:hI}{es:List hI}{t:TA}{id T:String}{r:List V->Hp->VK->Prop}
noncomputable def My(r:List V->Hp->VK->Prop)(t:TA):TE:=λd H Q=>t d H λb a=>r b a Q
theorem xp(z:yX X (.builtin id) r)(O:Gl X x)(hm:X.mg x=cS)(U:Dt x=cI (.builtin id))(L:PA X (e::es) t)(hn:x ≠ "__name__":=by decide)(Y:(x==("__debug__" : Str))=eF:=by decide)
 (Z:iv (e::es) X.env=(eF,hM e X.env)::iv es X.env:=by rfl) (J:(o8 pos<|starEach es X.env).any (·.1)=eF:=by rfl):PE X (.Call (.Name x p) (e::es) [] pos) (My r t):=by
 intro a s b H Q I h;refine CI<|qU I O hm U ?_ hn Y;exact CK (ih (L pos a s b H _ I h) λk j ⟨l,d,f,i,g⟩=>z a j b d l k Q f i g) Z J
theorem vy(z:yX X (.type T) r)(O:Gl X x)(hm:X.mg x=cS)(U:Dt x=cI (.type T))(L:PA X (e::es) t)(hn:x ≠ "__name__":=by decide)(Y:(x==("__debug__" : Str))=eF:=by decide)
 (Z:iv (e::es) X.env=(eF,hM e X.env)::iv es X.env:=by rfl) (J:(o8 pos<|starEach es X.env).any (·.1)=eF:=by rfl):PE X (.Call (.Name x p) (e::es) [] pos) (My r t):=by
 intro a s b H Q I h;refine CI<|qU I O hm U ?_ hn Y;exact Eb (ih (L pos a s b H _ I h) λk j ⟨l,d,f,i,g⟩=>z a j b d l k Q f i g) Z J
end
end L2
namespace HT
open PySem PyProof.Rows
section
variable{prog:i8}{w:i5}{A:l9}{E:MQ}{s:hA}
theorem sN(ht:HR s.heap t vs.toArray)(Z:HR s.heap b z.toArray)(U:vs ≠ [])
 (J:z=[]->Q (.ref t) s) (L:z ≠ []->Q (.ref s.heap.objs.size) {s with heap:=s.heap.push {cls:= .type "tuple",data:= .seq (vs++z).toArray}})
 (H:vs.length+z.length<=i6):wpAny (hH prog w) A (B0 .Add (.ref t)<|.ref b) Q E s:=by
 obtain⟨⟨cls,i,data,l⟩,I,Y,n,j⟩:=id ht;obtain⟨⟨m,d,data2,f⟩,O,g,k,h⟩:=id Z;simp only at Y j g h;subst Y j g h;have e:vs.toArray++z.toArray=(vs++z).toArray:=by simp
 by_cases a:z=[]
 ·exact HK ⟨_,I,rfl⟩ ⟨_,O,rfl⟩ HL Mu Gx Gs (Gf _ _)
   (tuple_addW1 t b vs.toArray z.toArray n k i d l f (by simpa using U)<|by simp[a]) ⟨I,O,J a⟩
 ·refine HK ⟨_,I,rfl⟩ ⟨_,O,rfl⟩ HL Mu Gx Gs (Gf _ _)
   (tuple_addW2 t b vs.toArray z.toArray n k i d l f (by simpa using U) (by simpa using a)<|by rw[By,By];exact H) ⟨I,O,?_⟩
  rw[e];exact L a
noncomputable def gB(n d:Nat):Option Int->Nat
 | none=>d
 | some v=>if v<0 then (v+(n:Int)).toNat else min v.toNat n
theorem lh(n d:Nat)(H:d<=n)(o:Option Int):gB n d o<=n:=by
 cases o with
 | none=>exact H
 | some v=>
  show(if v<0 then (v+(n:Int)).toNat else min v.toNat n)<=n;by_cases z:v<0
  ·rw[MY z];omega
  ·rw[RQ z];exact Nat.min_le_right _ _
theorem Wf(v:Int)(n d:Nat):(if v<0 then max (v+(n:Int)) 0 else min v (n:Int))=((gB n d (cI v):Nat):Int):=by
 show(if v<0 then max (v+(n:Int)) 0 else min v (n:Int))=(((if v<0 then (v+(n:Int)).toNat else min v.toNat n):Nat):Int);by_cases z:v<0
 ·simp only[MY z];omega
 ·simp only[RQ z];omega
theorem KR(lo z:Option Int)(n:Nat):LV lo z 1 (n:Int)=(((gB n 0 lo:Nat):Int),((gB n n z:Nat):Int)):=by
 have a : ¬((1:Int)<0):=by omega
 unfold LV;simp only[a,if_false];refine Prod.ext ?_ ?_
 ·cases lo with
  | none=>rfl
  | some v=>exact Wf v n 0
 ·cases z with
  | none=>rfl
  | some v=>exact Wf v n n
theorem Kg(i j:Nat):Fb (i:Int) (j:Int) 1=j - i:=by
 unfold Fb;have a:(1:Int)>0:=by omega
 simp only[a,if_true,Int.ediv_one];split<;>omega
theorem wH(p:Dp v o)(h:Q o s):wpAny (hH prog w) A (Builtin.Slice.slicePartIndex v) Q E s:=by
 cases p with
 | none=>exact slicePart_none h
 | int i t=>exact slicePart_int h
theorem yT{J:eH}{z I:eM}{lo H:Option Int}{n:Nat}{Q:Int×Int×Nat->hA->Prop}(Y:s.heap.IsSliceOf J z I .none)(L:Dp z lo)(Z:Dp I H)
 (h:Q (((gB n 0 lo:Nat):Int),1,gB n n H - gB n 0 lo) s):wpAny (hH prog w) A (Builtin.Slice.sliceApplied (.ref J)<|pure (n:Int)) Q E s:=by
 obtain⟨os,O,a,U⟩:=id Y;unfold Builtin.Slice.sliceApplied Builtin.Slice.sliceFields;refine Bp<|Bp<|Cw O U (x:=z) rfl<|Bp<|Cw O U (x:=I) rfl<|Bp<|Cw O U (x:= .none) rfl<|Bv ?_;refine Bp<|slicePart_none ?_;show wpAny _ _ (if ((1:Int)==0)=d6 then _ else _) _ _ s;rw[RQ ⋯];refine Bp<|wH L<|Bp<|wH Z<|Bp<|Bv ?_;show wpAny _ _ (match LV lo H 1 (n:Int)with | (lo,H)=>pure (lo,(1:Int),Fb lo H 1)) _ _ s;rw[KR lo H n];show wpAny _ _ (pure (((gB n 0 lo:Nat):Int),(1:Int),Fb ((gB n 0 lo:Nat):Int) ((gB n n H:Nat):Int) 1)) _ _ s;rw[Kg];exact Bv h
theorem aD(xs:Array eM)(i k:Nat):((Br k).filterMap λ(m:Nat)=>xs[((i:Int)+(m:Int)*1).toNat]?).toArray=((xs.toList.drop i).take k).toArray:=by
 have e:(λ(m:Nat)=>xs[((i:Int)+(m:Int)*1).toNat]?)=λm=>xs[i+m]? :=by
  funext m;have:((i:Int)+(m:Int)*1).toNat=i+m:=by omega
  rw[this]
 rw[e];have:=pick_run xs i k;rw[List.filterMap_map]at this;have z:((λx=>xs[x]?)∘λx=>i+x)=λm=>xs[i+m]? :=rfl;rw[z]at this;rw[this]
theorem Ky{t J:eH}{z:Array eM}{U Y:eM}{lo H:Option Int}{Q:MQ}(I:HR s.heap t z)(L:s.heap.IsSliceOf J U Y .none)(pl:Dp U lo)(pu:Dp Y H)
 (Z : ¬(gB z.size 0 lo=0/\gB z.size z.size H=z.size))
 (h:Q (.ref s.heap.objs.size) {s with heap:=s.heap.push {cls:= .type "tuple",data:= .seq ((z.toList.drop (gB z.size 0 lo)).take (gB z.size z.size H - gB z.size 0 lo)).toArray}})
 (a7:z.size<=i6):wpAny (hH prog w) A (Dy (.ref t)<|.ref J) Q E s:=by
 have O:sizeOk (.seq ((z.toList.drop<|gB z.size 0 lo).take (gB z.size z.size H - gB z.size 0 lo)).toArray):=by show((z.toList.drop<|gB z.size 0 lo).take (gB z.size z.size H - gB z.size 0 lo)).toArray.size<=i6;rw[By,EG,GG,ET];omega
 have g:gB z.size z.size H<=z.size:=lh _ _ (BB _) H;obtain⟨os,a,b,f⟩:=id L;have d:s.TypeIs (.ref J) "slice":=⟨os,a,b⟩;unfold Dy
 try with_reducible refine CQ ?_
 first | refine Bp (Bv ?_) | skip
 refine Bp (NR I.typeIs ⋯ ?_);refine Bp (CS (name:=Eh "__getitem__") I.typeIs CH
  (Em CH I.typeIs entry_tuple_getitem ?_ (MS _ _)))
 show wpAny _ _ (Builtin.Tuple.tupleItemsOf (.ref t) >>= _) _ _ s;refine Bp<|ID I ?_;refine Bp<|Gz d ?_;rw[MY ⋯];refine Bp<|yT L pl pu ?_;have e : ¬((((gB z.size 0 lo:Nat):Int)==0 && (1:Int)==1 && (gB z.size z.size H - gB z.size 0 lo)==z.size)=d6):=by intro q;rw[Bt,Bt]at q;have i:((gB z.size 0 lo:Nat):Int)=0:=eq_of_beq q.1.1;have j:gB z.size z.size H - gB z.size 0 lo=z.size:=eq_of_beq q.2;exact Z ⟨by omega,by omega⟩
 show wpAny _ _ (if (((gB z.size 0 lo:Nat):Int)==0 && (1:Int)==1 && (gB z.size z.size H - gB z.size 0 lo)==z.size)=d6 then _ else _) _ _ s;rw[RQ e,aD]
 first
  | exact Bp (m:=Ei _)<|Es (Bv ⟨_,rfl,Bv h⟩) O
  | exact Bp (m:=Ei _)<|Es (Bp<|Bv<|Bv ⟨_,rfl,Bv h⟩) O
  | exact Bp<|Bp (m:=Ei _)<|Es (Bv<|Bv ⟨_,rfl,Bv h⟩) O
  | exact Bp<|Bp (m:=Ei _)<|Es (Bv ⟨_,rfl,Bv h⟩) O
end
end HT
namespace L2
open PySem PySem.Spec PyProof.Rows
abbrev TO:=St->Hp->(Option Int->Hp->Prop)->Prop
noncomputable def PO(X:Cx)(e:Option hI)(t:TO):Prop:=
 ∀(a:MW) (s:hA) (b:St) (H:Hp) (Q:Option Int->Hp->Prop),Inv X a b H s->t b H Q->
  wpAny (hH X.prog X.w) X.A (evalPart e X.env) (λu f=>∃o d,Inv X a b d f/\Dp u o/\Q o d) X.xe s
def dF:TO:=λ_ H Q=>Q cS H
noncomputable def pJ(t:TE):TO:=λb H Q=>t b H λx a=>∃i,x = .int i/\Q (cI i) a
section
variable{X:Cx}{e:hI}{te:TE}{lo hi:Option hI}{tl th:TO}{pos p2:ik}
theorem eZ:PO X cS dF:=by intro a s b H Q I h;rw[evalPart_none];exact Bv ⟨cS,H,I,.none,h⟩
theorem eY(h:PE X e te):PO X (cI e) (pJ te):=by intro a s f H Q I d;rw[evalPart_some];refine ih (h a s f H _ I d) λu g z=>?_;obtain⟨x,b,O,U,Y⟩:=z;obtain⟨i,rfl,q⟩:=Y;obtain⟨t,rfl⟩:=U;exact⟨cI i,b,O,.int i t,q⟩
noncomputable def IG(X:Cx)(r:V->Option Int->Option Int->Hp->VK->Prop):Prop:=
 ∀(a:MW) (s:hA) (d:St) (H:Hp) (x:V) (v z I:eM) (lo hi:Option Int) (b:eH) (Q:VK),Inv X a d H s->RelV x v->s.heap.IsSliceOf b z I .none->Dp z lo->Dp I hi->r x lo hi H Q->
  ∃T id,Iu (.type T) "__getitem__" = pure (cI (.builtin id))/\s.TypeIs v T/\wpAny (hH X.prog X.w) X.A (Dy v (.ref b)) (EP X a d Q) X.xe s
noncomputable def NK(r:V->Option Int->Option Int->Hp->VK->Prop)(te:TE)(tl th:TO):TE:=λa H Q=>te a H λx b=>tl a b λl d=>th a d λu z=>r x l u z Q
theorem Xh(Z:IG X r)(J:PE X e te)(L:PO X lo tl)(hu:PO X hi th):PE X (.Subscript e (.Slice lo hi cS p2) pos) (NK r te tl th):=by intro a s d H Q I h;refine L6 (ih (J a s d H _ I h) λv K o=>?_);obtain⟨x,f,i,G,C⟩:=o;refine wpAny_Slice (ih (L a K d f _ i C) λO M ⟨l,g,j,y,E⟩=>ih (hu a M d g _ j E) λU z ⟨u,Y,k,B,F⟩=>?_);rw[evalPart_none];refine Bv ?_;have m:Inv X a d Y {z with heap:=z.heap.push {cls:= .type "slice",data:= .fields #[O,U,.none]}}:=k.kept (t':=z.toks) λb N q=>Bq _ q;obtain⟨T,id,n,t,p⟩:=Z a {z with heap:=z.heap.push {cls:= .type "slice",data:= .fields #[O,U,.none]}} d Y x v O U l u z.heap.objs.size Q m G (Heap.IsSliceOf.new ..) y B F;show wpAny (hH X.prog X.w) X.A (subscriptTail e (.Slice lo hi cS p2) v (.ref z.heap.objs.size)) (EP X a d Q) X.xe {z with heap:=z.heap.push {cls:= .type "slice",data:= .fields #[O,U,.none]}};exact tail_any (ops:=[.ref z.heap.objs.size,v]) t n p (by with_unfolding_all rfl)
noncomputable def gG(xs:List V)(lo hi:Option Int):List V:=(xs.drop<|HT.gB xs.length 0 lo).take (HT.gB xs.length xs.length hi - HT.gB xs.length 0 lo)
theorem QC(xs:List V)(lo hi:Option Int):(gG xs lo hi).length<=xs.length:=by unfold gG;rw[EG,GG];omega
noncomputable def AD(K:Bo):V->Option Int->Option Int->Hp->VK->Prop:=λx lo hi H Q=>∃a b,x = .ref a/\lb K H a b/\
 ¬(HT.gB b.length 0 lo=0/\HT.gB b.length b.length hi=b.length)/\∀p,H p=cS->Q (.ref p) (upd H p<|.tup<|gG b lo hi)
theorem iU:IG X (AD X.K):=by
 intro f s t H x v n p lo hi m Q I rx U k Y h;obtain⟨a,d,rfl,j,i,q⟩:=h;cases rx;obtain⟨g,r,O,e⟩:=I.tuple j;have z:g.toArray.size=d.length:=by rw[By];exact r.length.symm
 refine⟨"tuple",_,CH.lookup,O.typeIs,?_⟩;refine HT.Ky O U k Y (by rw[z];exact i) ?_ (by rw[z];exact e);rw[z];refine⟨.ref s.heap.objs.size,_,I.laid (t':=s.toks) (o:= .tup (gG d lo hi)) (λb l q=>Bq _ q) (BB _) ?_,rfl,q _ (I.ij.fresh (BB _))⟩;exact⟨Co (QC d lo hi) e,_,(r.drop (HT.gB d.length 0 lo)).take (HT.gB d.length d.length hi - HT.gB d.length 0 lo),Dd.new _ _⟩
theorem i0.IW(r:i0 xs us):us=[]↔xs=[]:=by
 cases r with
 | nil=>simp
 | cons _ _=>simp
end
noncomputable def E2(n:Nat)(i:Int):Option Nat:=if 0<=i then (if i<n then cI i.toNat else cS)else if -(n:Int)<=i then cI (i+n).toNat else cS
noncomputable def DP{z:Type}(xs:List z)(i:Int):Option z:=(E2 xs.length i).bind λj=>xs[j]?
theorem VF(h:E2 n i=cI j):seqIndex? i n=cI j/\j<n/\ -(n:Int)<=i/\i<n:=by
 unfold E2 at h;by_cases b:0<=i
 ·rw[MY b]at h
  by_cases a:i<n
  ·rw[MY a]at h
   have e:i.toNat=j:=Cd h;exact⟨by rw[Mt b a,e],by omega,by omega,a⟩
  ·rw[RQ a]at h;cases h
 ·rw[RQ b]at h
  by_cases a : -(n:Int)<=i
  ·rw[MY a]at h
   have e:(i+n).toNat=j:=Cd h;exact⟨by rw[Ms ⋯ a,e],by omega,a,by omega⟩
  ·rw[RQ a]at h;cases h
theorem QH(h:DP xs i=cI v) : ∃j,seqIndex? i xs.length=cI j/\xs[j]? = cI v/\j<xs.length/\ -(xs.length:Int)<=i/\i<xs.length:=by
 unfold DP at h;cases e:E2 xs.length i with
 | none=>rw[e]at h;cases h
 | some j=>
  rw[e]at h;obtain⟨a,b,z,I⟩:=VF e;exact⟨j,a,h,b,z,I⟩
noncomputable def QL(b:hI):Prop:=∀o i,subscripted b eF o i=operate [o,i] (Dy o i)
noncomputable def DN(X:Cx)(r:R2):Prop:=
 ∀(value z:hI) (a:MW) (s:hA) (b:St) (H:Hp) (x y:V) (v u:eM) (Q:VK),Inv X a b H s->RelV x v->RelV y u->r x y H Q->
  subscripted z eF v u=operate [v,u] (Dy v u)->wpAny (hH X.prog X.w) X.A (subscriptTail value z v u) (EP X a b Q) X.xe s
noncomputable def L3(X:Cx)(id:String)(r:V->List V->Hp->VK->Prop):Prop:=
 ∀(a:MW) (s:hA) (e:St) (H:Hp) (x:V) (d:List V) (v:eM) (b:List eM) (Q:VK),Inv X a e H s->RelV x v->i0 d b->r x d H Q->
  wpAny (hH X.prog X.w) X.A (call (.builtin id) (v::b)) (EP X a e Q) X.xe s
section
variable{X:Cx}{a b:hI}{ta tb:TE}{pos:ik}
theorem DN.or(h:DN X r)(h':DN X r'):DN X (λx y H Q=>r x y H Q\/r' x y H Q):=by
 intro value z a s b H x y v u Q I rx O q U;rcases q with q | q
 ·exact h value z a s b H x y v u Q I rx O q U
 ·exact h' value z a s b H x y v u Q I rx O q U
theorem me(z:DN X r)(J:PE X a ta)(O:PE X b tb)(U:QL b):PE X (.Subscript a b pos) (Ik r ta tb):=by intro d s i H Q I h;exact L6<|sO J O I h λv u g x y e Y rx f q=>z a b d g i e x y v u Q Y rx f q<|U _ _
noncomputable def AG(K:Bo):R2:=λx y H Q=>∃p a i v,x = .ref p/\y = .int i/\kv K H p a/\DP a i=cI v/\Q v H
noncomputable def AE(K:Bo):R2:=λx y H Q=>∃p a i v,x = .ref p/\y = .int i/\lb K H p a/\DP a i=cI v/\Q v H
noncomputable def AF:R2:=λx y H Q=>∃z i c,x = .str z/\y = .int i/\z.length<=i6/\DP z.cps.toList i=cI c/\Q (.str ⟨#[c]⟩) H
theorem Np:DN X (AG X.K):=by
 intro value G a s g H x y v u Q I rx E h U;obtain⟨p,N,i,z,rfl,rfl,C,A,q⟩:=h;cases rx;obtain⟨t,rfl⟩:=E;obtain⟨k,r,d,M⟩:=I.list C;obtain⟨j,b,m,J,n,o⟩:=QH A;obtain⟨w,Y,l⟩:=r.get m;have B:=r.length;have L:=vH;have e:EP X a g Q w s:=⟨z,H,I,l,q⟩;by_cases f:0<=i
 ·have O:i.toNat=j:=by
   rw[Mt f o]at b;exact Cd b
  exact item_listR d.isList f ⋯ (by rw[O];simpa using Y) e U
 ·have O:(i+(k.toArray.size:Int)).toNat=j:=by
   rw[Ms ⋯ n]at b;rw[By,<- B];exact Cd b
  exact NI (x:=w) d.isList.typeIs slot_list_getitem.lookup
   (wpAny_getItem_list_neg (Q:=λr F=>r=w/\EP X a g Q r F) d.isList ⋯ (by rw[By]<;>omega) ⋯ (by rw[O];simpa using Y) ⟨rfl,e⟩) U
theorem mX:DN X (AE X.K):=by
 intro value A a s d H x y v u Q I rx O h U;obtain⟨p,L,i,z,rfl,rfl,Y,m,q⟩:=h;cases rx;obtain⟨t,rfl⟩:=O;obtain⟨B,r,b,J⟩:=I.tuple Y;obtain⟨j,k,l,C,E,F⟩:=QH m;obtain⟨w,g,e⟩:=r.get l;have n:=r.length;have G:=vH;have f:EP X a d Q w s:=⟨z,H,I,e,q⟩;exact NI (x:=w) b.typeIs slot_tuple_getitem.lookup
  (getItem_tuple (j:=j) (Q:=λr o=>r=w/\EP X a d Q r o) b ⋯ ⋯ (by rw[By,<- n];exact k) (by simpa using g) ⟨rfl,f⟩) U
theorem mY:DN X AF:=by
 intro value m b s w H x y v u Q I rx O h U;obtain⟨z,i,c,rfl,rfl,p,Y,q⟩:=h;obtain⟨t,rfl⟩:=rx;obtain⟨r,rfl⟩:=O;obtain⟨j,a,f,n,g,k⟩:=QH Y;have l:z.cps.toList.length=z.length:=by simp[Str.length]
 rw[l]at a g k;have o:=vH;exact tail_any (typeIs_str s z t) slot_str_getitem.lookup (getItem_str (c:=c) (by
  have d:decide (i < -(2 ^ 63:Int))=eF:=decide_eq_false ⋯;have e:decide (i>=2 ^ 63)=eF:=decide_eq_false ⋯;rw[d,e,Bool.or_false]) (by rw[a];simpa using f) ⟨.str ⟨#[c]⟩,H,I.tok _,⟨_,rfl⟩,q⟩) U
theorem Ko(z:List eM)(n j:Nat)(u:eM):Eg (·.setIfInBounds j u) {cls:= .type "list",data:= .seq z.toArray n} = {cls:= .type "list",data:= .seq (z.set j u).toArray n}:=by simp[Eg]
theorem Inv.lst(I:Inv X pins σ H s)(h:H p=cI (.lst xs)) :
 ∃(O:List eM) (n:Nat),i0 xs O/\s.heap.get? p=cI {cls:= .type "list",data:= .seq O.toArray n}/\xs.length<=i6:=by
 obtain⟨z,O,n,r,e⟩:=I.ij p _ h;exact⟨O,n,r,e,z⟩
theorem Inv.Nt{J:MW}{Z:St}{H:Hp}{s:hA}{p:eH}{xs L:List V}{z its':List eM}{n n':Nat}{f:m7->m7}(I:Inv X J Z H s)(h:H p=cI (.lst xs))
 (O:s.heap.get? p=cI {cls:= .type "list",data:= .seq z.toArray n}) (Y:f {cls:= .type "list",data:= .seq z.toArray n} = {cls:= .type "list",data:= .seq its'.toArray n'}) (r:i0 L its') (hz:L.length<=i6) (t:Nat) :
 Inv X J Z (upd H p<|.lst L) {s with heap:=s.heap.update p f,toks:=t}:=by
 have e:(s.heap.update p f).get? p=cI {cls:= .type "list",data:= .seq its'.toArray n'}:=by rw[Ff f O (by rw[Y]<;>rfl),Y]
 refine I.write (x:=p) (e:=p) (by rw[h];trivial) (.inl rfl) (λb u U q=>(GH _ _<|CP U).trans q) ⟨_,e⟩ ?_;exact⟨hz,its',n',r,e⟩
noncomputable def rA:V->V->V->Hp->(Hp->Prop)->Prop:=λo i v H Q=>∃p a k j,o = .ref p/\i = .int k/\H p=cI (.lst a)/\E2 a.length k=cI j/\Q (upd H p<|.lst<|a.set j v)
theorem W6:uZ X rA:=by
 intro a s C H o i v J G u Q I y x A h;obtain⟨p,B,k,j,rfl,rfl,U,m,q⟩:=h;cases y;obtain⟨t,rfl⟩:=x;obtain⟨Y,n,r,z,w⟩:=I.lst U;obtain⟨b,E,g,l⟩:=VF m;have O:=r.length;have F:=vH;have e:Inv X a C (upd H p<|.lst<|B.set j v) {s with heap:=s.heap.update p (Eg (·.setIfInBounds j u))}:=
  I.Nt U z (Ko Y n j u) (r.set A j) (by rw[List.length_set];exact w) s.toks
 by_cases f:0<=k
 ·have d:k.toNat=j:=by
   rw[Mt f l]at b;exact Cd b
  exact PySem.W.ki_setAt z f ⋯ (by rw[By,<- O];exact l) (by rw[d];exact⟨_,e,q⟩)
 ·have d:(k+(Y.toArray.size:Int)).toNat=j:=by
   rw[Ms ⋯ g]at b;rw[By,<- O];exact Cd b
  exact PySem.W.ki_setBack z ⋯ (by rw[By,<- O];exact g) ⋯ (by rw[d];exact⟨_,e,q⟩)
noncomputable def ZM:V->Bool
 | .i3=>d6
 | .bl _=>d6
 | .int _=>d6
 | .str _=>d6
 | _=>eF
noncomputable def Dw:V->V->Bool
 | .i3,.i3=>d6
 | .bl a,.bl b=>a==b
 | .bl a,.int b=>(if a then 1 else 0)==b
 | .int a,.bl b=>a==(if b then 1 else 0)
 | .int a,.int b=>a==b
 | .str a,.str b=>a==b
 | _,_=>eF
theorem nq(z:RelV y u)(rx:RelV x v)(I:ZM y=d6)(fx:ZM x=d6):CG A s u v (Dw y x):=by
 cases y with
 | i3=>
  cases z;cases x with
  | i3=>cases rx;exact CG.same _
  | bl b=>cases rx;exact CG.none_bool b
  | int b=>obtain⟨t,rfl⟩:=rx;exact CG.none_int b t
  | str b=>obtain⟨t,rfl⟩:=rx;exact CG.none_str b t
  | _=>exact absurd (show eF=d6 from fx) BJ
 | bl a=>
  cases z;cases x with
  | i3=>cases rx;exact CG.bool_none a
  | bl b=>cases rx;exact CG.bool_bool a b
  | int b=>obtain⟨t,rfl⟩:=rx;exact CG.bool_int a b t
  | str b=>obtain⟨t,rfl⟩:=rx;exact CG.bool_str a b t
  | _=>exact absurd (show eF=d6 from fx) BJ
 | int a=>
  obtain⟨d,rfl⟩:=z;cases x with
  | i3=>cases rx;exact CG.int_none a d
  | bl b=>cases rx;exact CG.int_bool a d b
  | int b=>obtain⟨t,rfl⟩:=rx;exact GI a d b t
  | str b=>obtain⟨t,rfl⟩:=rx;exact CG.int_str a d b t
  | _=>exact absurd (show eF=d6 from fx) BJ
 | str a=>
  obtain⟨d,rfl⟩:=z;cases x with
  | i3=>cases rx;exact CG.str_none a d
  | bl b=>cases rx;exact CG.str_bool a d b
  | int b=>obtain⟨t,rfl⟩:=rx;exact CG.str_int a d b t
  | str b=>obtain⟨t,rfl⟩:=rx;exact CG.str_str a d b t
  | _=>exact absurd (show eF=d6 from fx) BJ
 | _=>exact absurd (show eF=d6 from I) BJ
noncomputable def vl(x:V)(u:eM):Bool:=match u with
 | .none=>Dw .i3 x
 | .bool b=>Dw (.bl b) x
 | .int i _=>Dw (.int i) x
 | .str z _=>Dw (.str z) x
 | _=>eF
theorem dh(r:RelV y u)(f:ZM y=d6):vl x u=Dw y x:=by
 cases y with
 | i3=>cases r;rfl
 | bl b=>cases r;rfl
 | int i=>obtain⟨t,rfl⟩:=r;rfl
 | str z=>obtain⟨t,rfl⟩:=r;rfl
 | _=>exact absurd (show eF=d6 from f) BJ
theorem vW : ∀{xs:List V} {z:List eM},i0 xs z->xs.all ZM=d6->z.any (vl x)=xs.any λy=>Dw y x
 | _,_,.nil,_=>rfl
 | y::xs,u::z,.cons r t,f=>by rw[GC,Bt]at f;rw[GB,GB,dh r f.1,vW t f.2]
theorem yf(rx:RelV x v)(fx:ZM x=d6) : ∀{xs:List V} {H:List eM},i0 xs H->xs.all ZM=d6->∀u∈H,CG A s u v (vl x u)
 | _,_,.nil,_=>λu z=>by cases z
 | y::xs,u::H,.cons r t,f=>λI z=>by
  rw[GC,Bt]at f;rcases BC.mp z with rfl | z
  ·rw[dh r f.1];exact nq r rx f.1 fx
  ·exact yf rx fx t f.2 I z
def IS(x:V)(xs:List V):Bool:=xs.any λy=>Dw y x
noncomputable def Mr(K:Bo)(z:Bool):R2:=λx y H Q=>∃p a,y = .ref p/\(kv K H p a\/lb K H p a)/\ZM x=d6/\a.all ZM=d6/\Q (.bl<|if z then !IS x a else IS x a) H
theorem Y8:mu X (ro .In) (Mr X.K eF):=by
 intro d s g H x y v u Q I rx U h;obtain⟨p,f,rfl,z,fx,fs,q⟩:=h;cases U;rcases z with z | z
 ·obtain⟨O,r,b,e⟩:=I.list z
  refine SeqAt.in_listAt (vl x) b.isList (λw a=>yf rx fx r fs w<|by simpa using a) ⟨.bl _,H,I,rfl,?_⟩;rw[show O.toArray.any (vl x)=O.any (vl x)by simp,vW r fs];exact q
 ·obtain⟨O,r,b,e⟩:=I.tuple z
  refine SeqAt.in_tupleAt (vl x) b (λw a=>yf rx fx r fs w<|by simpa using a) ⟨.bl _,H,I,rfl,?_⟩;rw[show O.toArray.any (vl x)=O.any (vl x)by simp,vW r fs];exact q
theorem Js:mu X (ro .NotIn) (Mr X.K d6):=by
 intro d s g H x y v u Q I rx U h;obtain⟨p,f,rfl,z,fx,fs,q⟩:=h;cases U;rcases z with z | z
 ·obtain⟨O,r,b,e⟩:=I.list z
  refine SeqAt.notIn_listAt (vl x) b.isList (λw a=>yf rx fx r fs w<|by simpa using a) ⟨.bl _,H,I,rfl,?_⟩;rw[show O.toArray.any (vl x)=O.any (vl x)by simp,vW r fs];exact q
 ·obtain⟨O,r,b,e⟩:=I.tuple z
  refine SeqAt.notIn_tupleAt (vl x) b (λw a=>yf rx fx r fs w<|by simpa using a) ⟨.bl _,H,I,rfl,?_⟩;rw[show O.toArray.any (vl x)=O.any (vl x)by simp,vW r fs];exact q
theorem JS:yX X (.builtin "len") (λxs H Q=>∃p J,xs=[.ref p]/\(kv X.K H p J\/lb X.K H p J)/\Q (.int J.length) H):=by
 intro d s i H xs g Q I r h;obtain⟨p,J,rfl,z,q⟩:=h;obtain⟨u,rfl,rx⟩:=kH r;cases rx;have f:=vH;rcases z with z | z
 ·obtain⟨U,b,a,e⟩:=I.list z
  have O:=b.length;exact Calls.call_len_list a.isList (by simp only[By]<;>omega) ⟨.int J.length,H,I.tok _,⟨s.toks+1,by rw[By,O]⟩,q⟩
 ·obtain⟨U,b,a,e⟩:=I.tuple z
  have O:=b.length;exact len_tuple a (by simp only[By]<;>omega) ⟨.int J.length,H,I.tok _,⟨s.toks+1,by rw[By,O]⟩,q⟩
theorem JR:yX X (.builtin "len") (λxs H Q=>∃z,xs=[.str z]/\z.length<=i6/\Q (.int z.length) H):=by intro a s f H xs e Q I r h;obtain⟨z,rfl,d,q⟩:=h;obtain⟨u,rfl,t,rfl⟩:=kH r;have b:=vH;exact len_str ⋯ ⟨.int z.length,H,I.tok _,⟨_,rfl⟩,q⟩
theorem ZU:yX X (.type "tuple") (λxs H Q=>∃p J,xs=[.ref p]/\((kv X.K H p J/\∀l,H l=cS->Q (.ref l) (upd H l (.tup J)))\/(lb X.K H p J/\Q (.ref p) H))):=by
 intro a s j H xs n Q I r h;obtain⟨p,J,rfl,h⟩:=h;obtain⟨u,rfl,rx⟩:=kH r;cases rx;rcases h with⟨z,q⟩ | ⟨z,q⟩
 ·obtain⟨O,g,f,i⟩:=I.list z
  have m:=g.length;refine call_tuple_list f.isList (λd k=>?_) (by simp only[By]<;>omega);have U:Inv X a j H {s with heap:=d}:=I.kept (t':=s.toks) k;have Y:Inv X a j (upd H d.objs.size (.tup J)) {s with heap:=d.push {cls:= .type "tuple",data:= .seq O.toArray}}:=
   U.laid (t':=s.toks) (λb o e=>Bq _ e) (BB _) (show l8 X.prog X.w _ _ _ (.tup J)from⟨i,O,g,Dd.new _ _⟩)
  exact⟨.ref d.objs.size,_,Y,rfl,q _<|U.ij.fresh<|BB _⟩
 ·obtain⟨O,g,f,i⟩:=I.tuple z
  exact call_tuple_same f ⟨.ref p,H,I,rfl,q⟩
noncomputable def MD(K:Bo)(T:String)(x:V)(H:Hp):Prop:=match x with
 | .str _=>T = "str"
 | .int _=>T = "int"
 | .ref p=>(T = "list"/\∃b,kv K H p b)\/(T = "tuple"/\∃o,K.lookup p=cI o/\o.cls = .type "tuple"/\o.dict=cS)\/
  (T = "dict"/\((∃a,H p=cI (.dK a))\/∃a,H p=cI (.dT a)))\/(T = "set"/\∃S n,H p=cI (.set S n))
 | _=>False
theorem iM(I:Inv X pins σ H s)(r:RelV x v)(ty:MD X.K T x H) :
 s.TypeIs v T/\∀a,v = .ref a->∃U,s.heap.get? a=cI U/\U.dict=cS:=by
 cases x with
 | str z=>
  obtain⟨t,rfl⟩:=r;cases (show T = "str" from ty);exact⟨typeIs_str s z t,λ_ e=>nomatch e⟩
 | int i=>
  obtain⟨t,rfl⟩:=r;cases (show T = "int" from ty);exact⟨ME s i t,λ_ e=>nomatch e⟩
 | ref p=>
  cases r;rcases ty with⟨rfl,l,Y⟩ | ⟨rfl,o,b,j,f⟩ | ⟨rfl,b⟩ | ⟨rfl,S,n,b⟩
  ·obtain⟨k,_,h,_⟩:=I.list Y
   refine⟨h.isList.typeIs,λa e=>?_⟩;cases e;obtain⟨o,n,e,c,f,_⟩:=h;exact⟨o,e,f⟩
  ·refine⟨⟨o,I.l7 p o b,j⟩,λa e=>?_⟩
   cases e;exact⟨o,I.l7 _ o b,f⟩
  ·have z : ∃o,s.heap.get? p=cI o/\o.ExactDict:=by
    rcases b with⟨g,b⟩ | ⟨g,b⟩
    ·obtain⟨_,_,_,_,o,_,_,e,d,_⟩:=I.ij p _ b
     exact⟨o,e,d⟩
    ·obtain⟨_,_,_,_,o,_,_,e,d,_⟩:=I.ij p _ b
     exact⟨o,e,d⟩
   obtain⟨o,e,d⟩:=z;refine⟨⟨o,e,d.1⟩,λa O=>?_⟩;cases O;exact⟨o,e,d.2.1⟩
  ·obtain⟨o,_,_,_,e,d,_⟩:=I.ij p _ b
   refine⟨⟨o,e,d.1⟩,λa O=>?_⟩;cases O;exact⟨o,e,d.2.1⟩
 | _=>exact CM ty
noncomputable def Mx(K:Bo)(T:String)(r:V->List V->Hp->VK->Prop)(to:TE)(t:TA):TE:=λb H Q=>to b H λx a=>MD K T x a/\t b a λe d=>r x e d Q
variable{o e:hI}{es:List hI}{to:TE}{t:TA}{name:Str}{apos cpos:ik}{T id:String}{r:V->List V->Hp->VK->Prop}
theorem fw(Y:PlainAttrs T)(J:Slot T name id)(L:typeOf (.builtin id)=pure (.type "method_descriptor"))(hm:L3 X id r)(ho:PE X o to)(ha:PA X (e::es) t)
 (Z:HX o name X.env (hM o X.env)=hM o X.env:=by rfl)
 (a4:((o8 cpos<|starEach (e::es) X.env).all (λx=> !x.1) && (Lm cpos<|keywordEach [] X.env).all (λx=>x.1.isSome)
   && decide ((e::es).length+([]:List D2).length+(if ([]:List D2).isEmpty then 0 else 1)<30))=d6:=by rfl)
 (a5:(apos.endLine==cpos.line)=d6:=by rfl) (hs:iv (e::es) X.env=(eF,hM e X.env)::iv es X.env:=by rfl) (a7:(o8 cpos<|starEach es X.env).any (·.1)=eF:=by rfl) :
 PE X (.Call (.Attribute o name apos) (e::es) [] cpos) (Mx X.K T r to t):=by
 intro a s b H Q I h;refine wpAny_Call_method_late Z a4 a5 rfl<|ih (ho a s b H _ I h) λv p k=>?_;obtain⟨x,d,z,O,ty,l⟩:=k;obtain⟨i,j⟩:=iM z O ty;refine⟨T,id,Y,J,L,i,j,?_⟩;have U:=ha cpos a p b d _ z l;rw[hs]at U ⊢;refine Calls.callWith_builtin (by show(eF || (o8 cpos<|starEach es X.env).any (·.1))=eF;rw[a7]<;>rfl)<|GP ?_;exact ih U λw u ⟨y,f,g,n,m⟩=>hm a u b f x y v w Q g O n m
end
noncomputable def L1(X:Cx)(id:String)(r:V->List V->Hp->VK->Prop):Prop:=
 ∀(a:MW) (s:hA) (e:St) (H:Hp) (x:V) (d:List V) (v:eM) (b:List eM) (Q:VK),Inv X a e H s->RelV x v->i0 d b->r x d H Q->
  wpAny (hH X.prog X.w) X.A (call (.builtin id) (v::b)) (EP X a e Q) X.xe s
theorem i0.one : ∀{x:V} {z:List eM},i0 [x] z->∃u,z=[u]/\RelV x u
 | _,_,.cons r .nil=>⟨_,rfl,r⟩
theorem i0.dropLast(h:i0 xs us):i0 xs.dropLast us.dropLast:=by
 induction h with
 | nil=>exact .nil
 | cons r t z=>
  cases t with
  | nil=>exact .nil
  | cons q a=>exact .cons r z
theorem i0.rep(h:i0 xs us) : ∀k:Nat,i0 (Bu k xs).flatten (Bu k us).flatten
 | 0=> .nil
 | k+1=>by rw[EC,EC,Fj,Fj];exact i0.append h<|i0.rep h k
theorem JK(z:List eM) : ∀(k:Nat) (acc:List eM),
 List.foldl (λx1 I=>x1++I) acc.toArray (Bu k z.toArray)=(acc++(Bu k z).flatten).toArray
 | 0,acc=>by simp
 | k+1,acc=>by
  have e:acc.toArray++z.toArray=(acc++z).toArray:=by simp
  have O:(acc++z)++(Bu k z).flatten=acc++(Bu (k+1) z).flatten:=by rw[EC,Fj,Gv]
  rw[<- O,<- JK z k (acc++z),<- e,EC,List.foldl_cons]
section
variable{X:Cx}{pins:MW}{σ:St}{H:Hp}{s:hA}{l b:eH}{xs ys zs:List V}
theorem Inv.Ly{z its':List eM}{n:Nat}{f:Array eM->Array eM}{t':Nat}(I:Inv X pins σ H s)(O:H l=cI (.lst xs))
 (e:s.heap.get? l=cI {cls:= .type "list",data:= .seq z.toArray n}) (J:f z.toArray=its'.toArray) (U:i0 ys its') (hz:ys.length<=i6) :
 Inv X pins σ (upd H l<|.lst ys) {s with heap:=s.heap.update l<|Eg f,toks:=t'}:=by
 have q:=PySem.IsL.update e f;rw[J]at q;refine I.write (x:=l) (e:=l) (by rw[O];exact trivial) (.inl rfl) (λb u Y a=>(GH s.heap (Eg f)<|CP Y).trans a) ⟨_,q⟩ ?_;exact⟨hz,its',_,U,q⟩
theorem Inv.Nr(I:Inv X pins σ H s)(O:i0 ys z)(hz:ys.length<=i6) :
 Inv X pins σ (upd H s.heap.objs.size (.lst ys)) {s with heap:=s.heap.push {cls:= .type "list",data:= .seq z.toArray},toks:=t'}:=
 I.laid (λ_ _ q=>Bq _ q) (BB _) ⟨hz,z,0,O,BI _ rfl⟩
theorem Inv.fresh(I:Inv X pins σ H s):H s.heap.objs.size=cS:=I.ij.fresh<|BB _
theorem Inv.Lz(I:Inv X pins σ H s)(U:H l=cI (.lst xs)):xs.length<=i6/\∃(O:List eM) (n:Nat),i0 xs O/\xs.length=O.length/\s.heap.get? l=cI {cls:= .type "list",data:= .seq O.toArray n}:=by obtain⟨z,O,n,r,e⟩:=I.ij l _ U;exact⟨z,O,n,r,r.length,e⟩
theorem aW(h:n<=i6):Fi n=eF:=by unfold Fi;exact decide_eq_false ⋯
end
section
variable{X:Cx}
noncomputable def YN:V->List V->Hp->VK->Prop:=λx b H Q=>∃l a y,x = .ref l/\b=[y]/\H l=cI (.lst a)/\a.length<i6/\Q .i3 (upd H l<|.lst<|a++[y])
theorem Vr:L1 X "list.append" YN:=by intro a s k H x i v g Q I rx Y h;obtain⟨l,j,y,rfl,rfl,O,f,q⟩:=h;cases rx;obtain⟨u,rfl,b⟩:=Y.one;obtain⟨z,U,n,r,d,e⟩:=I.Lz O;refine Gi F.slot_list_append ⟨_,e,rfl⟩ F.entry_list_append (F.args_list_append_2 _ _) (PySem.list_append l U.toArray n u (by rw[By];omega)) ⟨e,?_⟩;refine⟨.i3,_,I.Ly (its':=U++[u]) O e ⋯ (r.append (.cons b .nil)) ?_,rfl,q⟩;rw[Cs,FH];omega
theorem Vx(xs:List α)(k:Nat):(Bu k xs).flatten.length=k*xs.length:=by
 induction k with
 | zero=>simp
 | succ k z=>rw[EC,Fj,Cs,z,Nat.succ_mul,Nat.add_comm]
end
end L2
namespace Att
open PySem PySem.W PySem.Calls PyProof.Rows
theorem vJ : ∀(H:List Int) (vs:List eM),WellAll P h vs (H.map WData.int)->IE vs H:=by
 intro H
 induction H with
 | nil=>
  intro vs w;rw[Hy]at w;cases w;exact .nil
 | cons n H z=>
  intro vs w;rw[BY]at w;cases w with
  | cons a b=>
   cases a;exact .cons _ _<|z _ b
theorem YA{l:OpenLaw}{n:Nat}(L:l.most=cI n){P:Params}{h:ia}{args:List WData}{O:List eM}
 (U:l.row.toRowW.claim.pre args=d6) (J:WellAll P h O args) :
 ∃a vs H,O=[BU a]/\args=[WData.list (H.map WData.int)]/\h.get? a=cI {cls:= .type "list",data:= .seq vs.toArray}/\IE vs H/\H.length<=n:=by
 have b:WShape.hasAll [] args [.list .int]=d6:=(pre_splitW U).1;have Y:l.pre.holds [] {args:=args}=d6:=(pre_splitW U).2;obtain⟨d,r,rfl,g,i⟩:=hasAllW_cons b;obtain rfl:=hasAllW_nil i;obtain⟨s,rfl,j⟩:=hasW_list g;obtain⟨H,rfl⟩:=items_int j;have e:H.length<=n:=by
  unfold OpenLaw.pre at Y;have z:(WTm.not<|.lt (.lit<|.int (n:Int))<|.len<|.arg 0).holds [] {args:=[.list (H.map .int)]}=d6:=by have z:=(holds_andW Y).1;rw[L]at z;exact z
  have I:=condW_of z<|w_not<|w_lt w_lit<|w_len_list<|w_arg rfl;rw[Cb]at I;refine Nat.le_of_not_lt λq=>?_;have m:(n:Int)<((H.length:Nat):Int):=by omega
  first
   | (rw[decide_eq_true m]at I;exact absurd I ⋯)
   | (simp at I;omega)
 cases J with
 | cons o p=>
  cases p;cases o with
  | list k f=>exact⟨_,_,H,rfl,rfl,k,vJ H _ f,e⟩
theorem YZ(l:OpenLaw)(args:List WData):l.row.toRowW.claim.post args (.bool d6) args=d6:=
 postW_of (r:=l.row.toRowW) (X:=(d6==d6))
  (show WShape.has [] (.bool d6) .bool=d6 by first | rfl | decide | simp[WShape.has,WShape.arms,WShape.armsAll])
  (show(WTm.eq .res<|.lit<|.bool d6).value [] {args:=args,res:=cI (.bool d6),after:=args}=cI (.bool<|true==d6)from w_eq_bool (w_res rfl) w_lit) rfl
theorem gP{l:OpenLaw}{n:Nat}{q:i8}{I:List Str}{O:(Str->Option eM)->ia->Prop}{U:i5->ia->Prop}{d:DefRec}
 (hn:l.most=cI n) (a2:d.params.defaults=[])
 (call : ∀(w:i5) (l5 z:hA) (L mb:MJ) (J:eH) (o:m7) (pm cd H:eM) (a:eH) (vs:List eM) (Z:List Int),
   Ground q I [] O w l5 L mb z.heap->U w z.heap->
   z.heap.get? J=cI o->o.data = .func (docDef d.name d.params d.body d.scope pm cd H)->z.heap.CodeRec cd d.name->L d.name=cI (.ref J)->
   z.heap.get? a=cI {cls:= .type "list",data:= .seq vs.toArray}->IE vs Z->Z.length<=n->z.gens = #[]->
   codeAny (hH l.prog w) D8 (.call (.ref J) ⟨[.ref a],[]⟩) (λr s'=>r = .ok (.ret<|.bool d6)/\OldK z.heap s'.heap/\s'.os=z.os/\Dm s'.gens) z) :
 WalkO q I O U l.row.toRowW d [] (λf vs=>PySem.call f vs):=by
 intro w l5 z L mb G Y J o pm cd H s kV C y g e h A b F as i K M j N;obtain rfl:s = .none:=Dflts.none e a2;obtain rfl:kV = .none:=Dflts.noKw e;obtain⟨a,vs,Z,rfl,rfl,k,m,p⟩:=YA hn i j;refine enter_call<|FQ (call w l5 z L mb J o pm cd H a vs Z G Y C (fd_plain y) g h k m p A) λr s' E=>?_;obtain⟨rfl,t,u,x⟩:=E;exact⟨.inl ⟨.bool d6,.bool d6,[],rfl,λ_=>rfl,.bool d6,YZ l _,λ_=>⟨List.Pairwise.nil,λ_ B=>(nomatch B)⟩⟩,t,u,x⟩
end Att
namespace L2
open PySem PySem.Spec PyProof.Rows
theorem kY : ∀{vs:List eM} {z:List Int},IE vs z->i0 (z.map V.int) vs
 | _,_,.nil=> .nil
 | _,_,.cons n t h=> .cons ⟨t,rfl⟩ (kY h)
def pj(H:Hp):Prop:=∀b,H b=cS\/∃o a,H b=cI (.ri o<|.lst a)
theorem bc{P:i8}{w:i5}{K:Bo}{J mb:MJ}{CX:A8}{k:Nat}{fa a:eH}{fd:ts}{x:Str}{sp:Sp}{I:hA}{vs:List eM}{L:List Int}
 (KX:K.In I.heap) (a4:I.heap.Ns p9 J) (O:I.heap.Ns Mb mb) (ae : ∀x:Str,x ≠ "__name__"->mb x=Dt x) (ag:I.heap.NoLimit) (hg:I.gens = #[])
 (Z:I.heap.get? a=cI {cls:= .type "list",data:= .seq vs.toArray}) (hi:IE vs L) (hl:L.length<=i6) (hr:q7 k D8)
 (F : ∀base:ia,K.In base->base.Ns p9 J->t4 P w K J base CX k fa fd [x] sp) (ap : ∀(s:hA) (u:eM),HP s fd ⟨[u],[]⟩ [(x,u)])
 (ar : ∀H:Hp,pj H->kv K H a (L.map V.int)->sp [.ref a] H (λv _=>v = .bl d6) λ_ _ _=>False)
 (as : ∀H e s',CX [] H I (λ_ _ _=>False) e s'->False) :
 codeAny (hH P w) D8 (.call (.ref fa) ⟨[.ref a],[]⟩) (λr s'=>r = .ok (.ret<|.bool d6)/\OldK I.heap s'.heap/\s'.os=I.os/\Dm s'.gens) I:=by
 have C:=kY hi;have E:=hi.length;have l : ∀H:Hp,pj H->kv K H a (L.map V.int)->m5 P w H I.heap->(∀b,H b≠cS->b=a)->(H a≠cS->K.lookup a=cS)->
  codeAny (hH P w) D8 (.call (.ref fa) ⟨[.ref a],[]⟩) (λr s'=>r = .ok (.ret<|.bool d6)/\OldK I.heap s'.heap/\s'.os=I.os/\Dm s'.gens) I:=by
  intro H B hS i A W;have p : ∀{b:eH} {o:m7},I.heap.get? b=cI o->H b=cS->(bu I.heap H).get? b=cI o:=λe n=>bt e n;have bd : ∀{b:eH} {o:m7} {g:Array DictEntry} {U:Nat},I.heap.get? b=cI o->o.data = .dict g U->H b=cS:=λ{b o g U} e d=>by
   cases q:H b with
   | none=>rfl
   | some u=>
    have j:b=a:=A b (by rw[q];simp);subst j;rw[Z]at e;cases e;have M:Data.seq vs.toArray _=Data.dict g U:=d;cases M
  have a1 : ∀{b:eH} {m:MJ},I.heap.Ns b m->(bu I.heap H).Ns b m:=λ{b m} ⟨o,g,U,e,d,r⟩=>⟨o,g,U,p e<|bd e d,d,r⟩;have t:K.In (bu I.heap H):=λb o e=>p (KX b o e) (by
   cases q:H b with
   | none=>rfl
   | some u=>
    have j:b=a:=A b (by rw[q];simp);subst j;rw[W (by rw[q];simp)]at e;cases e)
  have X:Mod K J (bu I.heap H):=⟨t,a1 a4,⟨mb,a1 O,ae⟩,let ⟨mc,S,T⟩:=ag;⟨mc,a1 S,T⟩⟩;have N:Dc P w K J (bu I.heap H) D8 [] I H:=⟨rfl,X,λb o e=>fM e,Nat.le_of_eq<|VP _ _,trivial,λb O=>absurd (show b∈([]:List eH)from O) ⋯,i,.of_eq hg⟩;refine FQ ((F _ t<|a1 a4).run D8 [] I H ⟨[.ref a],[]⟩ [.ref a] [.ref a] _ _ hr N (ap I<|.ref a) (.cons rfl .nil) (ar H B hS)) λr s' h=>?_;cases r with
  | error e=>exact(as H e s' h).elim
  | ok R=>
   cases R with
   | next=>exact CM h
   | brk=>exact CM h
   | cont=>exact CM h
   | ret u=>
    obtain⟨v,H',os,f,un,G,r',q⟩:=h;have q':v = .bl d6:=q;subst q';obtain rfl:u=Value.bool d6:=r';refine⟨rfl,OldK.of_keep λb o e=>?_,os,f⟩;cases q:H b with
    | none=>exact un.keep b o e q (by intro z;exact absurd (show b∈([]:List eH)from z) ⋯) ⋯
    | some u=>
     rcases B b with z | ⟨ob,xs,z⟩
     ·rw[q]at z;cases z
     ·have z2:=un.vr b ob _ z
      obtain⟨y,_⟩:=i b _ z;obtain⟨Q,_⟩:=G b _ z2;rw[e]at y;cases y;exact Q
 cases hk:K.lookup a with
 | some o=>
  have e:=KX a o hk;rw[Z]at e;cases e;refine l (λ_=>cS) (λ_=> .inl rfl) (.inr ⟨_,vs.toArray,_,hk,rfl,rfl,rfl,by rw[By,E];exact hl,by simpa using C⟩) (λb u z=>by have Y:(cS:Option HO)=cI u:=z;cases Y) (λb z=>absurd rfl z) λz=>absurd rfl z
 | none=>
  refine l (λb=>if b=a then cI (.ri {cls:= .type "list",data:= .seq vs.toArray} (.lst (L.map V.int)))else cS) (λb=>?_) (.inl (.inr ⟨{cls:= .type "list",data:= .seq vs.toArray},MY rfl⟩)) (λb u z=>?_) (λb z=>?_) λ_=>hk
  ·by_cases O:b=a
   ·exact .inr ⟨_,_,MY O⟩
   ·exact .inl<|RQ O
  ·by_cases O:b=a
   ·have Y:=(MY O).symm.trans z
    cases Y;subst O;exact⟨Z,by rw[Cb];exact hl,vs,_,C,Z⟩
   ·have Y:=(RQ O).symm.trans z
    cases Y
  ·by_cases O:b=a
   ·exact O
   ·exact absurd (RQ O) z
abbrev f9{K:Bo}{h:ia}(_:K.In h):Bo:=K
theorem dA{l:PySem.W.OpenLaw}{n k:Nat}{q:i8}{U:List Str}{XP:(Str->Option eM)->ia->Prop}{z:i5->ia->Prop}{d:DefRec}{K:Params->Bo}{CX:i5->A8}{sp:i5->Sp}{x:Str}
 (hn:l.most=cI n) (a2:n<=i6) (a3:d.params.defaults=[]) (hr:q7 k D8)
 (hY : ∀(w:i5) (h:ia),z w h->(K w.params).In h)
 (F : ∀(w:i5) (J:MJ) (L:eH) (h:ia),(K w.params).In h->h.Ns p9 J->J d.name=cI (.ref L)->
   ∃fd:ts,(∀(s:hA) (u:eM),HP s fd ⟨[u],[]⟩ [(x,u)])/\
    ∀base:ia,(K w.params).In base->base.Ns p9 J->t4 l.prog w (K w.params) J base (CX w) k L fd [x] (sp w))
 (a6 : ∀(w:i5) (H:Hp) (a:eH) (Z:List Int),Z.length<=n->pj H->kv (K w.params) H a (Z.map V.int)->sp w [.ref a] H (λv _=>v = .bl d6) λ_ _ _=>False)
 (a7 : ∀(w:i5) (H:Hp) (s:hA) (e:eM) (s':hA),CX w [] H s (λ_ _ _=>False) e s'->False) :
 PySem.W.WalkO q U XP z l.row.toRowW d [] (λf vs=>PySem.call f vs):=by
 refine Att.gP hn a3 λw j i J Q L o R M t a vs Z G Y P N as m p r I E=>?_;have O:=hY w _ Y;obtain⟨fd,C,y⟩:=F w J L _ O G.T.g m;exact bc O G.T.g G.T.b G.T.builtins G.T.nolimit E p r (Co I a2) hr y C (λH A B=>a6 w H a Z I A B) λH e s'=>a7 w H i e s'
theorem nU{l:PySem.W.OpenLaw}{n k:Nat}{q:i8}{I:List Str}{O:(Str->Option eM)->ia->Prop}{z:i5->ia->Prop}{d:DefRec}{K:Params->Bo}{CX:A8}{sp:Bo->Sp}{x:Str}
 (hn:l.most=cI n) (U:n<=i6) (Y:d.params.defaults=[]) (hr:q7 k D8)
 (hY : ∀(w:i5) (h:ia),z w h->(K w.params).In h)
 (F : ∀(w:i5) (J:MJ) (Z:eH) (h:ia),(K w.params).In h->h.Ns p9 J->J d.name=cI (.ref Z)->
   ∃fd:ts,(∀(s:hA) (u:eM),HP s fd ⟨[u],[]⟩ [(x,u)])/\
    ∀base:ia,(K w.params).In base->base.Ns p9 J->t4 l.prog w (K w.params) J base CX k Z fd [x] (sp<|K w.params))
 (a3 : ∀(K:Bo) (H:Hp) (a:eH) (L:List Int),L.length<=n->pj H->kv K H a (L.map V.int)->sp K [.ref a] H (λv _=>v = .bl d6) λ_ _ _=>False)
 (a4 : ∀(H:Hp) (s:hA) (e:eM) (s':hA),CX [] H s (λ_ _ _=>False) e s'->False) :
 PySem.W.WalkO q I O z l.row.toRowW d [] (λf vs=>PySem.call f vs):=
 dA (K:=K) (CX:=λ_=>CX) (sp:=λw=>sp<|K w.params) hn U Y hr hY F (λw H a L b g i=>a3 (K w.params) H a L b g i) λ_ H s e s'=>a4 H s e s'
noncomputable def kg(s:l0):Arguments:=match s with
 | .FunctionDef _ a _ _ _ _ _ _ _ _=>a
 | _=>{posonlyargs:=[],args:=[],vararg:=cS,kwonlyargs:=[],kw_defaults:=[],kwarg:=cS,defaults:=[]}
noncomputable def jN(s:l0):List l0:=match s with
 | .FunctionDef _ _ b _ _ _ _ _ _ _=>b
 | _=>[]
noncomputable def zB(s:l0):i7:=match s with
 | .FunctionDef _ _ _ _ _ _ a _ _ _=>a
 | _=>{kind:= .function,names:=[],isGenerator:=eF,isCoroutine:=eF}
abbrev t2:A8:=λ_ _ _ _ _ _=>False
abbrev E0:XK:=λ_ _ _=>False
theorem ml:WC t2 X E0:=λ_ _ _ _ _ _ _ h=>h.elim
structure B5(K:Bo)(x qual:Str)(st:l0)(f:eH)(fd:ts):Prop where
 ex : ∃(oc:eM) (od:Option eH) (kV doc pm:eM) (an:Option eH) (Lo ct:eM) (G5:Array (Option eM)),
  fd=EM x qual (kg st) (jN st) (zB st) .none kV doc pm an Lo ct/\K.lookup f=cI ⟨oc,od,.func fd,G5⟩/\Gb K Lo qual=d6
 kp:Ek K (.ref f)=d6
section
variable{P:i8}{w:i5}{K:Bo}{mg:MJ}{base:ia}
theorem B5.ok{x qual:Str}{st:l0}{f:eH}{L:ts}{N ps:List Str}{k:Nat}{sp:Sp}(F:B5 K x qual st f L)(S:E7 N ps (zB st))(len : ∀vs H Q E,sp vs H Q E->vs.length=ps.length)
 (z : ∀(J:eM) (A:l9) (outer:List mr) (s:hA) (H:Hp) (vs:List V) (Q:VK) (E:XK),q7 k (A.deeper<|envOfC qual (zB st) s.heap.objs.size f J)->sp vs H Q E->
   ∃t,tx (Z2 t2 P w K mg base N qual (zB st) f J A outer s H E).o9 (jN st) t/\t {nx:=λ_ Y=>Q .i3 Y,rt:=Q} (yA N vs) H):t4 P w K mg base t2 (k+1) f L ps sp:=by
 obtain⟨oc,g,kV,a,i,d,J,e,b,rfl,lk,I⟩:=F.ex;refine nj lk I S len λA outer s H vs Q E O U=>?_;obtain⟨t,h,q⟩:=z J A outer s H vs Q E O U;exact⟨t,h.o9,q⟩
theorem B5.binds{x qual:Str}{st:l0}{f:eH}{Y:ts}{ps:List Str}(F:B5 K x qual st f Y)
 (h : ∀(kV I L:eM) (J:Option eH) (H ct:eM) (O:List eM),O.length=ps.length->bindArgs (EM x qual (kg st) (jN st) (zB st) .none kV I L J H ct) ⟨O,[]⟩=pure (ps.zip O)):Binds K Y ps []:=by
 obtain⟨oc,b,kV,I,L,J,H,ct,a,rfl,lk,z⟩:=F.ex;exact .all<|h kV I L J H ct
theorem dg{x qual:Str}{st:l0}{f:eH}{oc:eM}{od J:Option eH}{I:Array (Option eM)}{kV H L z ct:eM}(l:K.lookup f=cI ⟨oc,od,.func<|EM x qual (kg st) (jN st) (zB st) .none kV H L J z ct,I⟩)
 (c:Gb K z qual=d6) (k:Ek K (.ref f)=d6):B5 K x qual st f (EM x qual (kg st) (jN st) (zB st) .none kV H L J z ct):=⟨⟨oc,od,kV,H,L,J,z,ct,I,rfl,l,c⟩,k⟩
end
def kr(H z:Hp):Prop:=∀b o,H b=cI o->z b=cI o
theorem kr.refl(H:Hp):kr H H:=λ_ _ h=>h
theorem kr.trans(a:kr H H1)(b:kr H1 H2):kr H H2:=λc o h=>b c o<|a c o h
theorem kr.free(e:kr H H')(h:H' l=Option.none):H l=Option.none:=by
 cases q:H l with
 | none=>rfl
 | some o=>
  rw[e l o q]at h;cases h
theorem kr.seq{K:Bo}{H z:Hp}{a:eH}{xs:List V}(e:kr H z)(h:kv K H a xs):kv K z a xs:=by
 rcases h with(h | ⟨o,h⟩) | h
 ·exact .inl<|.inl<|e _ _ h
 ·exact .inl<|.inr ⟨o,e _ _ h⟩
 ·exact .inr h
noncomputable def Z3(cells:List (Str×eH)):List (Str×B8)->List (Str×eH)->List (Str×eH)
 | [],acc=>acc
 | (n,k)::r,acc=>Z3 cells r<|if k==BM then (match cells.lookup n with | some c=>(n,c)::acc | none=>acc)else acc
theorem ki(f:Str×B8->List (Str×eH)->Sem (ForInStep<|List<|Str×eH))
 (H : ∀name kind z,f (name,kind) z=if kind==BM then (do let a <- cellOf env name;pure (.yield ((name,a)::z)))else pure (.yield z)) :
 ∀(names:List (Str×B8)) (acc:List (Str×eH)),(∀n,(n,BM)∈names->∃c,env.cells.lookup n=cI c)->
  forIn names acc f=(pure (Z3 env.cells names acc):Sem _)
 | [],acc,_=>by rw[List.forIn_nil];rfl
 | (n,k)::r,acc,h=>by
  rw[List.forIn_cons,H];have I : ∀n,(n,BM)∈r->∃c,env.cells.lookup n=cI c:=λm d=>h m<|BL _ d;unfold Z3;by_cases b:(k==BM)=d6
  ·rw[MY b,MY b]
   have U:k=BM:=by simpa using b
   subst U;obtain⟨c,O⟩:=h n BQ;have e:cellOf env n=pure c:=by unfold cellOf;rw[O]
   rw[e,O];exact ki f H r _ I
  ·rw[RQ b,RQ b]
   exact ki f H r acc I
theorem ZS(h : ∀n,(n,BM)∈scope.names->∃c,env.cells.lookup n=cI c) :
 closureFor scope env=pure (Z3 env.cells scope.names []):=by
 simp only[closureFor];rw[ki (env:=env) _ (λb a z=>by cases hk:a==BM<;>simp[hk]) scope.names [] h];rfl
theorem xq
 (z:Q {scope:=scope,locals:=s.heap.objs.size,globals:=globals,cells:=t8 (s.heap.objs.size+1) scope.names cl,qual:=qual,func:=cS,code:=env.code,frame:=env.frame,builtins:=env.builtins}
   {s with heap:=DW (s.heap.push {cls:= .type "dict",data:= .dict #[]}) scope.names}) :
 wpAny M A (Mo scope globals cl [] qual cS .none (cI env)) Q E s:=by
 simp only[Mo,Option.isSome_some,if_true];refine Bp (wpAny_alloc ?_);refine Bp (wpAny_layCells _ (λb a cells=>by cases Nh:a==EN<;>simp[Nh]) _ _ _ _ ?_);rw[show({s with heap:=s.heap.push {cls:= .type "dict",data:= .dict #[]}}:hA).heap.objs.size=s.heap.objs.size+1 from Cm ..];exact Bp (Bv (Bv z))
theorem Xk : ∀{names:List (Str×B8)} {acc:List (Str×eH)},(n,c)∈Z3 cells names acc->(n,c)∈acc\/((n,BM)∈names/\cells.lookup n=cI c)
 | [],acc,h=> .inl h
 | (m,k)::r,acc,h=>by
  unfold Z3 at h;rcases Xk h with g | ⟨h1,h2⟩
  ·clear h
   by_cases a:(k==BM)=d6
   ·rw[MY a]at g
    have z:k=BM:=by simpa using a
    subst z;cases e:cells.lookup m with
    | none=>rw[e]at g;exact .inl g
    | some I=>
     rw[e]at g;rcases BC.mp g with g | g
     ·cases g;exact .inr ⟨BQ,e⟩
     ·exact .inl g
   ·rw[RQ a]at g;exact .inl g
  ·exact .inr ⟨BL _ h1,h2⟩
theorem vF : ∀{names:List (Str×B8)} {acc:List (Str×eH)},((acc.lookup n).isSome=d6\/((n,BM)∈names/\(cells.lookup n).isSome=d6))->((Z3 cells names acc).lookup n).isSome=d6
 | [],acc,h=>by
  rcases h with h | ⟨h,_⟩
  ·exact h
  ·cases h
 | (m,k)::r,acc,h=>by
  unfold Z3;apply vF;by_cases a:(k==BM)=d6
  ·rw[MY a]
   have I:k=BM:=by simpa using a
   subst I;cases e:cells.lookup m with
   | none=>
    rcases h with h | ⟨h1,h2⟩
    ·exact .inl h
    ·rcases BC.mp h1 with h1 | h1
     ·cases h1;rw[e]at h2;cases h2
     ·exact .inr ⟨h1,h2⟩
   | some O=>
    dsimp only;by_cases z:n=m
    ·subst z;left;simp
    ·rcases h with h | ⟨h1,h2⟩
     ·left;rw[Cp];split<;>simp_all
     ·rcases BC.mp h1 with h1 | h1
      ·cases h1;exact absurd rfl z
      ·exact .inr ⟨h1,h2⟩
  ·rw[RQ a]
   rcases h with h | ⟨h1,h2⟩
   ·exact .inl h
   ·rcases BC.mp h1 with h1 | h1
    ·cases h1;exact absurd rfl a
    ·exact .inr ⟨h1,h2⟩
theorem qQ : ∀{names:List (Str×B8)} {k:Nat} {acc:List (Str×eH)},(n,c)∈t8 k names acc->(n,c)∈acc\/(k<=c/\(n,EN)∈names)
 | [],_,_,h=> .inl h
 | (m,kd)::r,k,acc,h=>by
  unfold t8 at h;split at h
  ·rename_i a
   have z:kd=EN:=by simpa using a
   subst z;rcases qQ h with h | ⟨h1,h2⟩
   ·rcases BC.mp h with h | h
    ·cases h;exact .inr ⟨BB _,BQ⟩
    ·exact .inl h
   ·exact .inr ⟨by omega,BL _ h2⟩
  ·rcases qQ h with h | ⟨h1,h2⟩
   ·exact .inl h
   ·exact .inr ⟨h1,BL _ h2⟩
theorem xR : ∀{names:List (Str×B8)} {k:Nat} {acc:List (Str×eH)},(∀p∈acc,∀q∈acc,p.2=q.2->p.1=q.1)->(∀p∈acc,p.2<k)->
 ∀p∈t8 k names acc,∀q∈t8 k names acc,p.2=q.2->p.1=q.1
 | [],_,_,h,_=>h
 | (m,kd)::r,k,acc,h,hl=>by
  unfold t8;split
  ·refine xR (λp z q I e=>?_) (λp z=>?_)
   ·rcases BC.mp z with rfl | z<;>rcases BC.mp I with rfl | I
    ·rfl
    ·have O:k=q.2:=e
     exact absurd (O ▸ hl q I)<|CF _
    ·have O:p.2=k:=e
     exact absurd (O ▸ hl p z)<|CF _
    ·exact h p z q I e
   ·rcases BC.mp z with rfl | z
    ·exact Ew _
    ·exact Cg<|hl p z
  ·exact xR h hl
theorem vR : ∀{names:List (Str×B8)} {h:ia} {acc:List (Str×eH)} {n:Str} {c:eH},(n,c)∈t8 h.objs.size names acc->(n,c)∈acc\/(DW h names).IsCell c cS
 | [],_,_,_,_,hm=> .inl hm
 | (m,kd)::r,h,acc,n,c,hm=>by
  unfold t8 at hm;unfold DW;split at hm
  ·rename_i a
   rw[MY a];have e:h.objs.size+1=(h.push {cls:= .type "cell",data:= .cell cS}).objs.size:=(Cm ..).symm;rw[e]at hm;rcases vR hm with hm | hm
   ·rcases BC.mp hm with hm | hm
    ·cases hm
     have z:(h.push {cls:= .type "cell",data:= .cell cS}).IsCell h.objs.size cS:=⟨{cls:= .type "cell",data:= .cell cS},BI _ rfl,rfl⟩;exact .inr (z.keeps λb o q=>Gq _ _ b o q)
    ·exact .inl hm
   ·exact .inr hm
  ·rename_i a
   rw[RQ a];exact vR hm
theorem kD{J:Type}{l:List (Str×J)}(H:(l.map (·.1)).Nodup) : ∀{n:Str} {a:J},(n,a)∈l->l.lookup n=cI a:=by
 induction l with
 | nil=>intro n a h;cases h
 | cons p r z=>
  intro n a h;obtain⟨m,b⟩:=p;rw[BY,FV]at H;rw[Cp];rcases BC.mp h with h | h
  ·cases h;simp
  ·have I:(n==m)=eF:=by
    have:n≠m:=λe=>H.1 (by rw[<- e];exact FG.mpr ⟨(n,a),h,rfl⟩);simpa using this
   rw[I];exact z H.2 h
theorem kP(scope:i7)(env:mr)(x:Str):(C6 scope env).names.lookup x =
 (scope.names.lookup x).map λk=>if (k==BM && env.scope.kind == .function && env.kindOf x==cI .cell)then EN else k:=by
 unfold C6;dsimp only;generalize scope.names=l
 induction l with
 | nil=>rfl
 | cons p r I=>
  obtain⟨n,k⟩:=p;rw[BY];cases hx:x==n with
  | true=>
   have e:x=n:=by simpa using hx
   subst e;rw[Cp,Cp];dsimp only;by_cases z:(k==BM && env.scope.kind == .function && env.kindOf x==cI .cell)=d6
   ·rw[MY z,beq_self_eq_true];dsimp only[Hi];rw[MY z]
   ·rw[RQ z,beq_self_eq_true];dsimp only[Hi];rw[RQ z]
  | false=>
   have : ∀O,GX x ((n,O)::(r.map λx=>match x with | (n,k)=>if (k==BM && env.scope.kind == .function && env.kindOf n==cI .cell)=d6 then (n,EN)else (n,k)))=GX x (r.map λx=>match x with | (n,k)=>if (k==BM && env.scope.kind == .function && env.kindOf n==cI .cell)=d6 then (n,EN)else (n,k)):=λO=>by rw[Cp,hx]
   rw[Cp (k:=n),hx];dsimp only;split
   ·rw[this];exact I
   ·rw[this];exact I
noncomputable def yp(scope:i7)(env:mr)(L:eH):mr:=
 {scope:=C6 scope env,locals:=L,globals:=env.globals,cells:=t8 (L+1) scope.names<|Z3 env.cells scope.names [],qual:=env.qual,func:=cS,code:=env.code,frame:=env.frame,builtins:=env.builtins}
noncomputable def z6(X:Cx)(scope:i7)(z:List Str)(fp:List eH)(H:hA)(I:Hp):Cx:=
 {X with N:=z,l5:=H,DM:=I,env:=yp scope X.env<|H.heap.objs.size+1,outer:=X.stack,stack:=X.stack,ex:=fp,fn:=λx=>scope.names.lookup x==cI .cell,pn:=[],xe:=λ_ _=>False}
structure y6(X:Cx)(scope:i7)(fr:List (Str×Nat)):Prop where
 kind:scope.kind = .function
 nd:(scope.names.map (·.1)).Nodup
 free : ∀p∈scope.names,p.2=BM->X.env.kindOf p.1=cI .cell\/X.env.kindOf p.1=cI .free
 fr : ∀p∈fr,scope.names.lookup p.1=cI .free/\X.N[p.2]? = cI p.1
noncomputable def cz(own:List Str)(z:List (Str×Nat))(H:St):St:=own.map (λ_=>cS)++z.map λp=>(H[p.2]?).join
abbrev Qq:m7:={cls:= .type "list",data:= .seq #[]}
abbrev dj:m7:={cls:= .type "dict",data:= .dict #[]}
theorem bq{X:Cx}{L:MW}{σ:St}{Z:Hp}{H:hA}{scope:i7}{own:List Str}{J:List (Str×Nat)}{fp:List eH}(I:Inv X L σ Z H)(ok:y6 X scope J)
 (a6 : ∀b∈fp,KU X L Z b) (ax : ∀b∈fp,∃o,H.heap.get? b=cI o) :
 Inv (z6 X scope (own++J.map (·.1)) fp H Z) [] (cz own J σ) (upd Z H.heap.objs.size<|.lst []) {H with heap:=DW ((H.heap.push Qq).push dj) scope.names}:=by
 have K:(H.heap.push Qq).objs.size=H.heap.objs.size+1:=Cm ..;have z2:((H.heap.push Qq).push dj).objs.size=H.heap.objs.size+2:=by rw[Cm,K]
 have a1 : ∀n c,(n,c)∈Z3 X.env.cells scope.names []->(n,BM)∈scope.names/\X.env.cells.lookup n=cI c:=λn c h=>(Xk h).resolve_left ⋯;have ae : ∀n c,X.env.cells.lookup n=cI c->c<H.heap.objs.size:=λn c h=>by obtain⟨v,q⟩:=I.cell n c h;exact q.lt
 have M : ∀p∈Z3 X.env.cells scope.names [],p.2<H.heap.objs.size+1+1:=λp U=>by exact Cg<|Cg<|ae p.1 p.2 (a1 p.1 p.2 U).2
 have hC:(yp scope X.env<|H.heap.objs.size+1).cells=t8 (H.heap.objs.size+2) scope.names (Z3 X.env.cells scope.names []):=rfl;have a : ∀x c,(yp scope X.env<|H.heap.objs.size+1).cells.lookup x=cI c->((x,BM)∈scope.names/\X.env.cells.lookup x=cI c)\/(H.heap.objs.size+2<=c/\(x,EN)∈scope.names):=λx c h=>by
  rcases qQ (mem_of_lookup h)with h | h
  ·exact .inl<|a1 x c h
  ·exact .inr h
 have B : ∀x,(x,BM)∈scope.names->∃c,X.env.cells.lookup x=cI c/\(yp scope X.env<|H.heap.objs.size+1).cells.lookup x=cI c:=λx l=>by
  obtain⟨c,d⟩:=I.ok.has x<|ok.free (x,.free) l rfl;have t:((Z3 X.env.cells scope.names []).lookup x).isSome=d6:=vF<|.inr ⟨l,by rw[d];rfl⟩;have j:=EV scope.names (H.heap.objs.size+2) (Z3 X.env.cells scope.names [])<|.inr t;obtain⟨F,C⟩:=Ec.mp j;refine⟨c,d,?_⟩;rcases a x F C with⟨_,q⟩ | ⟨_,q⟩
  ·rw[d]at q;cases q;exact C
  ·exact absurd ((kD ok.nd q).symm.trans (kD ok.nd l)) ⋯
 have keep : ∀b o,H.heap.get? b=cI o->(DW ((H.heap.push Qq).push dj) scope.names).get? b=cI o:=λb o e=>
  Gq _ _ b o (Bq _<|Bq _ e)
 have ap : ∀b∈fp,b<H.heap.objs.size:=λb O=>by obtain⟨o,e⟩:=ax b O;exact Bz e
 have fresh:Z H.heap.objs.size=cS:=I.ij.fresh<|BB _;have E : ∀c,H.heap.objs.size<c->(upd Z H.heap.objs.size<|.lst []) c=cS:=λc d=>by rw[zt (EI d)];exact I.ij.fresh<|GO d
 obtain⟨m0,N⟩ : ∃m,(DW ((H.heap.push Qq).push dj) scope.names).Ns (H.heap.objs.size+1) m:=by have q:=(Heap.Ns.new (H.heap.push Qq) (.type "dict")).keeps (λb o e=>Gq scope.names _ b o e);rw[K]at q;exact⟨_,q⟩
 refine⟨⟨I.ok.mod,ok.kind,I.ok.glob,I.ok.blt,Nat.le_succ _,λx y c t j=>?_,λx l=>?_,λx c W h=>?_,I.ok.hd,I.ok.frames,.inl rfl,λb O=>⟨?_,λx c h z=>?_⟩,λb o e=>I.bs b o e,?_,λb o e O=>?_,λb O hs=>?_,I.stack,I.G8⟩,
  rfl,I.bare,Un.laid keep (BB _) fresh,⟨m0,N,λi x v G Y e3=>?_⟩,λx c h=>?_,?_,λx c h=>?_,λp U=>?_,?_,?_⟩
 ·have q:=xR (names:=scope.names) (k:=H.heap.objs.size+2) (acc:=Z3 X.env.cells scope.names []) (λp U q hq e=>I.ok.inj p.1 q.1 p.2 (a1 _ _ U).2 (by rw[e];exact(a1 _ _ hq).2)) M
  exact q (x,c) (mem_of_lookup t) (y,c) (mem_of_lookup j) rfl
 ·have f:(C6 scope X.env).names.lookup x=cI .cell\/(C6 scope X.env).names.lookup x=cI .free:=l
  have:scope.names.lookup x=cI .cell\/scope.names.lookup x=cI .free:=by
   rw[kP]at f;cases e:scope.names.lookup x with
   | none=>rw[e]at f;simp at f
   | some k=>
    rw[e]at f;cases k<;>simp at f ⊢
  rcases this with h | h
  ·exact Ec.mp<|EV scope.names _ _<|.inl h
  ·obtain⟨c,_,j⟩:=B x<|mem_of_lookup h;exact⟨c,j⟩
 ·have bl:(scope.names.lookup x==cI .cell)=d6:=W
  have P:scope.names.lookup x=cI .cell:=by simpa using bl
  rcases a x c h with⟨q,_⟩ | ⟨q,_⟩
  ·exact absurd ((kD ok.nd q).symm.trans P) ⋯
  ·exact Co (Cz _ 2) q
 ·exact BH<|Cg<|ap b O
 ·rcases a x c h with⟨_,q⟩ | ⟨q,_⟩
  ·exact(a6 b O).2.2.2.2.1 x c q z
  ·exact absurd (BF (ap b O)<|Co (Cz _ 2)<|z ▸ q)<|CF _
 ·exact Co I.ok.B1 I.sz
 ·rcases (a6 b O).2.2.2.1 with q | q
  ·exact I.ok.E5 b o e q
  ·exact absurd (BF (Bz e)<|Co I.ok.B1 q)<|CF _
 ·rcases BC.mp (I.G9 b hs)with q | q
  ·exact(a6 b O).2.1 q
  ·exact(a6 b O).2.2.1 q
 ·have hi:i<(own++J.map (·.1)).length:=(BP.mp G).1
  by_cases s:i<own.length
  ·unfold cz at Y
   rw[Ck (by simpa using s)]at Y;simp[Ce,s]at Y
  ·have hj : ∃p,J[i - own.length]? = cI p/\p.1=x/\(σ[p.2]?).join=cI v:=by
    unfold cz at Y;have g:(own++J.map (·.1))[i]? = cI x:=G;rw[BW ⋯,Ce]at g;rw[BW (by simpa using s),Ce,Cb]at Y;cases q:J[i - own.length]? with
    | none=>rw[q]at g;cases g
    | some p=>
     rw[q]at g Y;exact⟨p,rfl,by simpa using g,by simpa using Y⟩
   obtain⟨p,U,Q,r⟩:=hj;obtain⟨g1,g2⟩:=ok.fr p<|GQ U;rw[Q]at g1 g2;have w:σ[p.2]? = cI (cI v):=by
    cases q:σ[p.2]? with
    | none=>rw[q]at r;cases r
    | some o=>rw[q]at r;simpa using r
   have as:=ok.free (x,.free) (mem_of_lookup g1) rfl;obtain⟨m,hn,hl⟩:=I.loc;obtain⟨u,ru,lk⟩:=hl p.2 x v g2 w (by rcases as with k | k;exact .inr<|.inl k;exact .inr<|.inr k);refine⟨u,ru,.inr ?_⟩;obtain⟨c,R,S⟩:=B x<|mem_of_lookup g1;have T:H.heap.IsCell c (cI u):=by
    rcases lk with⟨k,_⟩ | ⟨_,F,e,z⟩
    ·rcases as with k' | k'<;>rw[k]at k'<;>cases k'
    ·rw[R]at e;cases e;exact z
   refine⟨?_,c,S,T.keeps keep⟩;show(C6 scope X.env).names.lookup x=cI .cell\/(C6 scope X.env).names.lookup x=cI .free;rw[kP,g1];dsimp only[Hi];split
   ·exact .inl rfl
   ·exact .inr rfl
 ·rcases qQ (mem_of_lookup h)with q | q
  ·obtain⟨v,A⟩:=I.cell x c (a1 x c q).2
   exact⟨v,A.keeps keep⟩
  ·have q2:=mem_of_lookup h
   have q3:(x,c)∈t8 ((H.heap.push Qq).push dj).objs.size scope.names (Z3 X.env.cells scope.names []):=by rw[z2];exact q2
   rcases vR q3 with q4 | q4
   ·obtain⟨v,A⟩:=I.cell x c (a1 x c q4).2
    exact⟨v,A.keeps keep⟩
   ·exact⟨cS,q4⟩
 ·exact E _<|Ew _
 ·rcases a x c h with⟨_,q⟩ | ⟨q,_⟩
  ·rw[zt (BH<|ae x c q)];exact I.wh x c q
  ·exact E c<|BF (Cg<|Ew _) q
 ·exact absurd (show p∈([]:MW)from U) ⋯
 ·refine I.ij.laid keep (BB _) ⟨Eo _,[],0,.nil,?_⟩
  exact Gq _ _ _ _<|Bq _<|BI _ rfl
 ·show(cz own J σ).length=(own++J.map (·.1)).length
  simp[cz]
theorem kK(I:Nat->hA->Prop)
 (J : ∀n s,I n s->wpAny (hH prog w) A (G6 it) (λr z=>match r with
   | none=>R (.ok .next) z
   | some v=>wpAny (hH prog w) A (IU target it v) (λ_ z=>wpAny (hH prog w) A (Df target env v) (λ_ U=>
    wpAny (hH prog w) A (forIn ifs d6 λc r=>if r=d6 then do let ok <- E1 c env (hM c env);pure (Gy ok)else pure (Gy r)) (λok O=>
     if ok=d6 then wpAny (hH prog w) A (hM elt env) (λx Y=>
      wpAny (hH prog w) A (call (.builtin "list.append") [acc,x]) (λ_ H=>∃m,m<n/\I m H) (λ_ _=>False) Y) (λ_ _=>False) O
     else ∃m,m<n/\I m O) (λ_ _=>False) U) (λ_ _=>False) z) (λ_ _=>False) z) (λ_ _=>False) s)
 (n:Nat) (h:I n s) :
 codeAny (hH prog w) A (.compLoop (.ListComp elt [⟨target,iter,ifs,0⟩] scope pos) 0 it acc env) R s:=by
 refine codeAny_loop rfl I (λn s j=>?_) n h;show wpAny _ A ((compTurn (.ListComp elt [⟨target,iter,ifs,0⟩] scope pos) 0 it acc env).onRaise (λx=>do noteFrame x env;theTreesLotGoes x)) _ _ s;refine wpAny_noted ?_;rw[compTurn_list];refine Bp<|Gd<|Bp<|BN (J n s j) (λr z b=>?_) λ_ _ a=>a.elim;cases r with
 | none=>exact Bv b
 | some v=>
  refine Bp<|BN b (λ_ k i=>?_) λ_ _ a=>a.elim;refine Bp<|BN i (λ_ U e=>Bp<|BN e (λok O d=>?_) λ_ _ a=>a.elim) λ_ _ a=>a.elim;cases ok with
  | false=>exact Bv ⟨rfl,d⟩
  | true=>
   exact Bp<|Bp<|BN d (λx Y f=>Bp<|BN f (λ_ H g=>Bv<|Bv ⟨rfl,g⟩) λ_ _ a=>a.elim) λ_ _ a=>a.elim
noncomputable def iD(X:Cx)(z:List hI)(t:TT):Prop:=
 ∀(a:MW) (s:hA) (b:St) (H:Hp) (Q:Bool->Hp->Prop),Inv X a b H s->t b H Q->
  wpAny (hH X.prog X.w) X.A (forIn z d6 λc r=>if r=d6 then do let ok <- E1 c X.env (hM c X.env);pure (Gy ok)else pure (Gy r)) (TP X a b Q) X.xe s
def pL:TT:=λ_ H Q=>Q d6 H
theorem Xe:iD X [] pL:=λ_ _ _ H _ I h=>wpAny_tests_nil ⟨H,I,h⟩
theorem Xd(h:PT X c t):iD X [c] t:=λa s b H Q I z=>wpAny_tests_one<|h a s b H Q I z
noncomputable def CW(J:It)(g:TG)(Y:TT)(L:TE)(D:eH)(Q:VK)(W:Nat->Nat->List V->St->Hp->Prop):Prop:=
 ∀i m a f H,W i m a f H->H D=cI (.lst a)/\((J.stop i H/\Q (.ref D) H)\/(J.go i H/\a.length<i6/\∀x e,J.DK i H x e->g x f e λz h=>Y z h λb I=>
  if b=d6 then L z I λv O=>O D=cI (.lst a)/\∃d,d<m/\W (i+1) d (a++[v]) z (upd O D<|.lst<|a++[v])else ∃d,d<m/\W (i+1) d a z I))
noncomputable def bU(X:Cx)(z:MW)(H:Hp)(L:eH):Prop:=
 H L=cS/\L≠X.env.locals/\X.l5.heap.objs.size<=L/\(∀x c,X.env.cells.lookup x=cI c->c≠L)/\∀p∈X.pn++z,p.1≠L
theorem bO
 (hc:X.calm=d6) (I:Inv X pins σ H2 s2) (ok:y6 X scope fr) (T:Turn X.prog X.w X.K tg J fp it tn) (st:tn 0 s2.heap) (Y : ∀b∈fp,KU X pins H2 b)
 (hg:PG (z6 X scope (own++fr.map (·.1)) fp s2 H2) tg g) (ht:iD (z6 X scope (own++fr.map (·.1)) fp s2 H2) ifs tt) (he:PE (z6 X scope (own++fr.map (·.1)) fp s2 H2) elt te)
 (hW : ∀D,H2 D=cS->∃W:Nat->Nat->List V->St->Hp->Prop,(∃m,W 0 m [] (cz own fr σ) (upd H2 D<|.lst []))/\CW J g tt te D Q W) :
 wpAny (hH X.prog X.w) X.A (Mp []) (λacc L=>wpAny (hH X.prog X.w) X.A (Mo scope X.env.globals (Z3 X.env.cells scope.names []) [] X.env.qual cS .none (cI X.env)) (λac Z=>
  codeAny (hH X.prog X.w) X.A (.compStart (.ListComp elt [⟨tg,iter,ifs,0⟩] scope pos) 0 (.ref it) acc {ac with scope:=C6 scope X.env})
   (λr s'=>(∃f,r = .ok f)/\∃D H,acc = .ref D/\Inv X pins σ H s'/\Q (.ref D) H/\(∃m,s'.heap.Ns ac.locals m)/\bU X pins H ac.locals) Z) E L) E s2:=by
 have b0 : ∀b∈fp,∃o,s2.heap.get? b=cI o:=λb O=>by obtain⟨o,e,_⟩:=T.obj 0 _ st b O;exact⟨o,e⟩
 have N:=bq (own:=own) I ok Y b0;obtain⟨W,⟨m0,w0⟩,cw⟩:=hW _ I.fresh;refine Es<|xq ?_;have z1:(s2.heap.push Qq).objs.size=s2.heap.objs.size+1:=Cm ..;show codeAny _ _ (.compStart _ 0 (.ref it) (.ref s2.heap.objs.size) {scope:=C6 scope X.env,locals:=(s2.heap.push Qq).objs.size,globals:=X.env.globals,cells:=t8 ((s2.heap.push Qq).objs.size+1) scope.names<|Z3 X.env.cells scope.names [],qual:=X.env.qual,func:=cS,code:=X.env.code,frame:=X.env.frame,builtins:=X.env.builtins})
  (λr s'=>(∃f,r = .ok f)/\∃D H,BU s2.heap.objs.size = .ref D/\Inv X pins σ H s'/\Q (.ref D) H/\(∃m,s'.heap.Ns (s2.heap.push Qq).objs.size m)/\bU X pins H (s2.heap.push Qq).objs.size) {s2 with heap:=DW ((s2.heap.push Qq).push dj) scope.names}
 rw[z1];have bb:tn 0 (DW ((s2.heap.push Qq).push dj) scope.names):=T.keep 0 _ _ st λb _ o e=>Gq _ _ b o<|Bq _<|Bq _ e;have cc : ∀b∈fp,b<s2.heap.objs.size:=λb O=>by obtain⟨o,e⟩:=b0 b O;exact Bz e
 have ae : ∀{H:Hp},(∀b∈fp,H b=cS)->∀b∈fp,KU (z6 X scope (own++fr.map (·.1)) fp s2 H2) [] H b:=λhn b O=>
  ⟨hn b O,(N.ok.F7 b O).1,N.ok.D9 b O,.inl O,(N.ok.F7 b O).2,λp hp=>absurd (show p∈([]:MW)from hp) ⋯⟩
 have bd:codeAny (hH X.prog X.w) X.A (.compLoop (.ListComp elt [⟨tg,iter,ifs,0⟩] scope pos) 0 (.ref it) (.ref s2.heap.objs.size)<|yp scope X.env<|s2.heap.objs.size+1)
  (λr s'=>(∃f,r = .ok f)/\∃D H,BU s2.heap.objs.size = .ref D/\Inv X pins σ H s'/\Q (.ref D) H/\(∃m,s'.heap.Ns (s2.heap.objs.size+1) m)/\bU X pins H (s2.heap.objs.size+1)) {s2 with heap:=DW ((s2.heap.push Qq).push dj) scope.names}:=by
  refine kK (λn s'=>∃i y B H,Inv (z6 X scope (own++fr.map (·.1)) fp s2 H2) [] B H s'/\tn i s'.heap/\(∀b∈fp,H b=cS)/\W i n y B H) ?_ m0
   ⟨0,[],_,_,N,bb,λb O=>by rw[zt (BH<|cc b O)];exact(Y b O).1,w0⟩
  rintro n s3 ⟨i,y,a,G,I3,s,bi,w3⟩;obtain⟨hD,cf⟩:=cw i n y a G w3;rcases cf with⟨t,qn⟩ | ⟨go,hz,step⟩
  ·refine ih (T.done (z6 X scope (own++fr.map (·.1)) fp s2 H2) rfl rfl rfl hc i [] s3 a G _ I3 (ae bi) s t) λr s4 U=>?_
   obtain⟨hr,j⟩:=U;subst hr;refine⟨⟨_,rfl⟩,_,G,rfl,I.Mc (ch:=fp) j.os j.base j.ij j.bare<|λb O=>⟨(Y b O).2.2.2.1,(Y b O).2.1,(Y b O).2.2.2.2.1,(Y b O).2.2.2.2.2⟩,qn,?_,j.free,?_,?_,?_,?_⟩
   ·obtain⟨m,hn,_⟩:=j.loc
    exact⟨m,hn⟩
   ·exact EI<|Cg I.lt
   ·exact Hw I.sz
   ·intro x c e z
    obtain⟨v,q⟩:=I.cell x c e;exact absurd (Cg q.lt) (by rw[z];exact CF _)
   ·intro p hp z
    exact absurd (Cg<|Bz (I.pin p hp).1) (by rw[z];exact CF _)
  ·refine ih (T.item (z6 X scope (own++fr.map (·.1)) fp s2 H2) rfl rfl rfl hc i [] s3 a G _ I3 (ae bi) s go) λr s4 U=>?_
   obtain⟨u,hr,h4⟩:=U;subst hr;refine ih h4 λ_ s5 U=>?_;obtain⟨x,H5,I5,r5,y5,an,cr⟩:=U;have cs:=I5.pinned (ae cr)<|T.obj _ _ an;refine ih (hg _ s5 a H5 x u _ cs r5<|step x H5 y5) λ_ s6 U=>?_;obtain⟨h,H6,I6,q6⟩:=U;refine ih (ht _ s6 h H6 _ I6 q6) λb s7 U=>?_;obtain⟨H7,P,R⟩:=U;have after : ∀{C:St} {M:Hp} {l:hA},Inv (z6 X scope (own++fr.map (·.1)) fp s2 H2) ([]++Jp fp s5.heap) C M l->tn (i+1) l.heap/\∀b∈fp,M b=cS:=λ{C M l} k=>by refine⟨T.keep _ _ _ an λb O o e=>(k.pin (b,o)<|Ct _<|Ct _<|kC O e).1,λb O=>?_⟩;obtain⟨o,e,d⟩:=T.obj _ _ an b O;exact(k.pin (b,o)<|Ct _<|Ct _<|kC O e).2.1
   cases b with
   | false=>
    rw[RQ BJ]at R ⊢;obtain⟨m',hm,w7⟩:=R;exact⟨m',hm,i+1,y,h,H7,P.Iw,(after P).1,(after P).2,w7⟩
   | true=>
    rw[MY rfl]at R ⊢;refine ih (he _ s7 h H7 _ P R) λv8 l U=>?_;obtain⟨x8,M,k,r8,c1,m',hm,w8⟩:=U;obtain⟨z8,c2,n8,rv,da,e8⟩:=k.Lz c1;refine Gi F.slot_list_append ⟨_,e8,rfl⟩ F.entry_list_append (F.args_list_append_2 _ _) (PySem.list_append _ c2.toArray n8 v8<|by rw[By];omega) ⟨e8,?_⟩;have S:=k.Ly (its':=c2++[v8]) (f:=(·.push v8)) (t':=l.toks) c1 e8 ⋯ (rv.append<|.cons r8 .nil) (by rw[Cs,FH];omega);exact⟨m',hm,i+1,y++[x8],h,_,S.Iw,(after S).1,(after S).2,w8⟩
 exact codeAny_compStart_list bd<|T.self _ 0 _ _ _ bb bd
noncomputable def W2(O:TI)(own:List Str)(z:List (Str×Nat))(g:TG)(L:TT)(I:TE):TE:=λb H Q=>O b H λJ a=>∀D,a D=cS->
 ∃W:Nat->Nat->List V->St->Hp->Prop,(∃m,W 0 m [] (cz own z b) (upd a D<|.lst []))/\CW J g L I D Q W
section
variable{X:Cx}{scope:i7}{own:List Str}{fr:List (Str×Nat)}{elt tg iter:hI}{ifs:List hI}{pos:ik}{wi:TI}{g:TG}{tt:TT}{te:TE}
theorem XD
 (z:X.calm=d6) (ok:y6 X scope fr) (hi:PI X tg iter wi) (O : ∀fp s2 Z,PG (z6 X scope (own++fr.map (·.1)) fp s2 Z) tg g)
 (U : ∀fp s2 Z,iD (z6 X scope (own++fr.map (·.1)) fp s2 Z) ifs tt) (Y : ∀fp s2 Z,PE (z6 X scope (own++fr.map (·.1)) fp s2 Z) elt te)
 (I:Inv X pins σ H s) (h:W2 wi own fr g tt te σ H Q)
 (hR : ∀D H' s' L,Inv X pins σ H' s'->Q (.ref D) H'->(∃m,s'.heap.Ns L m)->bU X pins H' L->
   compPost (hH X.prog X.w) X.A X.xe use R (.ref D) L (.ok .next) s')
 (hs : ∀x,vp iter X.env x=pure x:=by intro _;rfl) :
 wpAny (hH X.prog X.w) X.A (comprehension (.ListComp elt [⟨tg,iter,ifs,0⟩] scope pos) scope X.env (firstIterPos [⟨tg,iter,ifs,0⟩] pos) (Mp []) eF (hM iter X.env) use) R X.xe s:=by
 refine wpAny_comprehension_free rfl hs (ZS λn a=>I.ok.has n<|ok.free (n,.free) a rfl) ok.kind (λx F e=>by rw[<- e];exact kD ok.nd<|show(x.1,x.2)∈scope.names from F) ?_;refine ih (hi pins s σ H _ I h) λv N l=>ih l λK s2 o=>?_;obtain⟨M,fp,W,J,Z,e,d,T,i,f2,B⟩:=o;subst e;refine ih (bO (own:=own) (Q:=Q) (E:=X.xe) z d ok T i f2 (O fp s2 Z) (U fp s2 Z) (Y fp s2 Z) B) λacc P p=>ih p λj S t=>FQ t λr s' u=>?_;obtain⟨⟨f,C⟩,D,H',k,b,q,a,y⟩:=u;subst C;subst k;have G:=hR D H' s' j.locals b q a y;cases use<;>exact G
theorem Qm(z:X.calm=d6)(ok:y6 X scope fr)(hi:PI X tg iter wi)(O : ∀fp Z J,PG (z6 X scope (own++fr.map (·.1)) fp Z J) tg g)
 (U : ∀fp Z J,iD (z6 X scope (own++fr.map (·.1)) fp Z J) ifs tt) (Y : ∀fp Z J,PE (z6 X scope (own++fr.map (·.1)) fp Z J) elt te)
 (hs : ∀x,vp iter X.env x=pure x:=by intro _;rfl) :
 PE X (.ListComp elt [⟨tg,iter,ifs,0⟩] scope pos) (W2 wi own fr g tt te):=by
 intro a s B H Q I h;rw[eval_ListComp];refine XD (use:=cS) z ok hi O U Y I h (λD d l L f q k y=>?_) hs;obtain⟨m,j⟩:=k;obtain⟨p,r,t,u,w⟩:=y;refine⟨m,j,λA n=>⟨.ref D,d,f.turned (t':=l.toks) (it:=L) (λb o i e=>n.extBut b o i e) p r (.inr t) u w,rfl,q⟩⟩
theorem wR(O:X.N.Nodup)(U:X.N[i]? = cI y)(Y:Loc X.env.scope y)(hf:X.fn y=d6\/X.env.scope.names.lookup y=cI .local)
 (hc:X.calm=d6) (ok:y6 X scope fr) (hi:PI X tg iter wi) (hg : ∀fp Z J,PG (z6 X scope (own++fr.map (·.1)) fp Z J) tg g)
 (ht : ∀fp Z J,iD (z6 X scope (own++fr.map (·.1)) fp Z J) ifs tt) (he : ∀fp Z J,PE (z6 X scope (own++fr.map (·.1)) fp Z J) elt te)
 (hs : ∀x,vp iter X.env x=pure x:=by intro _;rfl) :
 PS X (.Assign [.Name y py] (.ListComp elt [⟨tg,iter,ifs,0⟩] scope pos) spos) (QW (W2 wi own fr g tt te)<|ke i):=by
 have z : ∃b:Bool,vt (.ListComp elt [⟨tg,iter,ifs,0⟩] scope pos) (cI (.Name y py)) spos.line X.env=pure b:=⟨_,rfl⟩;obtain⟨b,z⟩:=z;cases b with
 | false=>
  have u:LJ [.Name y py] (.ListComp elt [⟨tg,iter,ifs,0⟩] scope pos) spos.line X.env=vt (.ListComp elt [⟨tg,iter,ifs,0⟩] scope pos) (cI (.Name y py)) spos.line X.env:=rfl;exact YY (Qm hc ok hi hg ht he hs) (Y6 O U Y hf) (by rw[u];exact z)
 | true=>
  intro d s S H D I h;rw[exec_Assign_Name_used _ _ _ _ z];refine Bp<|Gd<|Bp ?_;show wpAny _ X.A (do let _ <- comprehension (.ListComp elt [⟨tg,iter,ifs,0⟩] scope pos) scope X.env _ (Mp []) eF (hM iter X.env) (cI (Df (.Name y py) X.env))) _ _ s;refine Bp<|ih (XD (R:=λ_ f=>SP X d D .next f) (use:=cI (Df (.Name y py) X.env)) hc ok hi hg ht he I h (λj P f L l q C M=>?_) hs) λ_ f q=>Bv<|Bv q;obtain⟨F,k,G,y4,K⟩:=M;obtain⟨m,B⟩:=C;show wpAny _ _ (Df (.Name y py) X.env<|.ref j) _ _ _;refine NN<|Ja l O U Y (v:= .ref j) rfl (λn p r=>?_) hf;obtain⟨a,E,w⟩:=r;have as:L≠a:=by
   rcases w with e | e
   ·rw[e];exact k
   ·exact CP<|y4 _ _ e
  refine⟨m,B.sameBut E as,λQ t=>⟨_,_,p.turned (t':=n.toks) (it:=L) (λb o z e=>t.extBut b o z e) F k (.inr G) y4 K,q⟩⟩
end
inductive Sk where
 | L | T
 deriving DecidableEq
end L2
namespace DL
open PySem L2
inductive D where
 | i3 | bl (b:Bool) | int (i:Int) | str (x:Str) | tup (xs:List D) | lst (xs:List D)
 | exc (c:Str) (n:Option Int)
 | o1 (ks vs:List D)
 | n4 (ks:List (List Int)) (vs:List D)
 | ins (c:Str) (p t:D)
inductive Cell where
 | no | val (d:D) | own (ds:List D) | nest (rows:List (List D))
abbrev Ctx:=List Cell
abbrev CO (a : Type) := Ctx -> Option a
def lim:Nat:=2500
noncomputable def jf:D->Option (Sk×List D)
 | .tup a=>cI (.T,a)
 | .lst a=>cI (.L,a)
 | _=>cS
def zT(f:CO D)(γ:Ctx):Option (Sk×List D):=(f γ).bind jf
def qS(f:CO (List D))(γ:Ctx):Option D:=(f γ).map D.lst
noncomputable def jj(f:CO (List D))(γ:Ctx):Option (Sk×List D):=(f γ).map λa=>(Sk.L,a)
def Wh:Option Cell->Option D
 | some (.val d)=>cI d
 | _=>cS
noncomputable def yH:Option Cell->Option (Sk×List D)
 | some (.val d)=>jf d
 | some (.own ds)=>cI (.L,ds)
 | _=>cS
def zf(i:Nat)(γ:Ctx):Option D:=Wh γ[i]?
def zl(i:Nat)(γ:Ctx):Option (Sk×List D):=yH γ[i]?
noncomputable def zm(d:D):CO D:=λ_=>cI d
noncomputable def zw(F:D->D->Option D)(z H:CO D)(γ:Ctx):Option D:=(z γ).bind λx=>(H γ).bind λy=>F x y
def De:D->Option Bool
 | .bl b=>cI b
 | _=>cS
def oI:D->Option Int
 | .int i=>cI i
 | _=>cS
def sB(f:CO D)(γ:Ctx):Option Bool:=(f γ).bind De
noncomputable def YH(f g:CO Bool)(γ:Ctx):Option Bool:=(f γ).bind λb=>if b=d6 then g γ else cI eF
noncomputable def hJ(f g:CO Bool)(γ:Ctx):Option Bool:=(f γ).bind λb=>if b=d6 then cI d6 else g γ
def xf(f:CO Bool)(γ:Ctx):Option Bool:=(f γ).map λb=> !b
noncomputable def lp(f g:CO D)(γ:Ctx):Option D:=((f γ).bind De).bind λb=>if b=d6 then g γ else cI (.bl eF)
noncomputable def ND(f g:CO D)(γ:Ctx):Option D:=((f γ).bind De).bind λb=>if b=d6 then cI (.bl d6)else g γ
noncomputable def pY(f:CO D)(γ:Ctx):Option D:=((f γ).bind De).map λb=> .bl (!b)
noncomputable def Z1(c:CO Bool)(f g:CO D)(γ:Ctx):Option D:=(c γ).bind λb=>if b=d6 then f γ else g γ
def zx:CO (List D):=λ_=>cI []
noncomputable def zb(f:CO D)(g:CO (List D))(γ:Ctx):Option (List D):=(f γ).bind λx=>(g γ).map λr=>x::r
noncomputable def k6(f:CO (List D))(γ:Ctx):Option D:=(f γ).bind λa=>if a.length<=lim then cI (.tup a)else cS
noncomputable def qw(f:CO (List D))(γ:Ctx):Option (List D):=(f γ).bind λa=>if a.length<=lim then cI a else cS
inductive Res where
 | val (d:D) | own (ds:List D)
inductive Fl where
 | next (γ:Ctx) | brk (γ:Ctx) | cont (γ:Ctx) | ret (r:Res)
def jK(γ:Ctx):Option Fl:=cI (.next γ)
noncomputable def zF(F G:CO Fl):CO Fl:=λb=>(F b).bind λz=>match z with
 | .next a=>G a
 | f=>cI f
noncomputable def qv(f:CO D)(γ:Ctx):Option Fl:=(f γ).map λd=> .ret (.val d)
noncomputable def wo(f:CO (List D))(γ:Ctx):Option Fl:=(f γ).map λd=> .ret (.own d)
noncomputable def QE:Option Cell->Option Fl
 | some (.val d)=>cI (.ret<|.val d)
 | some (.own ds)=>cI (.ret<|.own ds)
 | _=>cS
def yU(i:Nat)(γ:Ctx):Option Fl:=QE γ[i]?
def Bh(γ:Ctx):Option Fl:=cI (.brk γ)
def eo(γ:Ctx):Option Fl:=cI (.cont γ)
def k8:CO Fl:=λ_=>cS
noncomputable def m3(k:CO Bool)(F G:CO Fl)(γ:Ctx):Option Fl:=(k γ).bind λb=>if b=d6 then F γ else G γ
noncomputable def jn(i:Nat)(f:CO D)(γ:Ctx):Option Fl:=(f γ).map λd=> .next (γ.set i<|.val d)
noncomputable def k7(i:Nat)(f:CO (List D))(γ:Ctx):Option Fl:=(f γ).map λa=> .next (γ.set i<|.own a)
def wq(f:CO D)(γ:Ctx):Option Fl:=(f γ).map λ_=> .next γ
noncomputable def qb:Option Cell->Option (List D)
 | some (.own ds)=>cI ds
 | _=>cS
noncomputable def kT(i:Nat)(f:CO D)(γ:Ctx):Option Fl:=(qb γ[i]?).bind λa=>(f γ).bind λd=>if a.length<lim then cI (.next<|γ.set i<|.own<|a++[d])else cS
noncomputable def je(n:Nat)(z:List D):Ctx:=z.map Cell.val++Bu (n - z.length) Cell.no
noncomputable def jg(n:Nat)(F:CO Fl)(ds:List D):Option Res:=(F<|je n ds).bind λz=>match z with
 | .ret r=>cI r
 | .next _=>cI (.val .i3)
 | _=>cS
def nZ:Res->D
 | .val d=>d
 | .own a=> .lst a
noncomputable def zq(F:List D->Option Res)(g:CO (List D))(γ:Ctx):Option D:=(g γ).bind λa=>(F a).map nZ
def rq:Res->Option (List D)
 | .own a=>cI a
 | _=>cS
noncomputable def qi(F:List D->Option Res)(g:CO (List D))(γ:Ctx):Option (List D):=(g γ).bind λa=>(F a).bind rq
noncomputable def kL(lo:Int)(n:Nat):List D:=(Br n).map λ(i:Nat)=>D.int<|lo+(i:Int)
noncomputable def WI(z H:List D):List D:=(z.zip H).map λp=>D.tup [p.1,p.2]
noncomputable def zQ(f:CO (Sk×List D))(γ:Ctx):Option (List D):=(f γ).map (·.2)
def inR(i:Int):Bool:=decide<|i.natAbs<2 ^ 62
noncomputable def jz(f:CO D)(γ:Ctx):Option (List D):=((f γ).bind oI).bind λn=>if inR n=d6 then cI (kL 0 n.toNat)else cS
noncomputable def Zs(f g:CO D)(γ:Ctx):Option (List D):=((f γ).bind oI).bind λm=>((g γ).bind oI).bind λn=>if inR m=d6/\inR n=d6 then cI (kL m (n - m).toNat)else cS
noncomputable def iY(f g:CO D)(γ:Ctx):Option (List D):=((f γ).bind jf).bind λm=>((g γ).bind jf).map λn=>WI m.2 n.2
inductive Tg where
 | nm (i:Nat) | tp (is:List Nat)
noncomputable def qg:List Nat->List D->Ctx->Ctx
 | i::is,d::ds,γ=>qg is ds<|γ.set i<|.val d
 | _,_,γ=>γ
noncomputable def xj:Tg->D->CO Ctx
 | .nm i,d,γ=>cI (γ.set i<|.val d)
 | .tp is,.tup ds,γ=>if ds.length=is.length then cI (qg is ds γ)else cS
 | _,_,_=>cS
noncomputable def qM(T:Tg)(F:CO Fl):List D->CO Fl
 | [],a=>cI (.next a)
 | d::b,a=>(xj T d a).bind λI=>(F I).bind λO=>match O with
  | .next z=>qM T F b z
  | .cont z=>qM T F b z
  | .brk z=>cI (.next z)
  | .ret r=>cI (.ret r)
noncomputable def Jg(z:CO (List D))(T:Tg)(F:CO Fl)(γ:Ctx):Option Fl:=(z γ).bind λa=>qM T F a γ
def qx:Cell->Cell
 | .own _=> .no
 | .nest _=> .no
 | c=>c
noncomputable def jx(n:Nat)(z:List Nat)(γ:Ctx):Ctx:=Bu n Cell.no++z.map λj=>qx<|γ[j]?.getD .no
noncomputable def zU(T:Tg)(k:CO Bool)(f:CO D)(γ:Ctx):List D->Option (List D)
 | []=>cI []
 | d::ds=>(xj T d γ).bind λz=>(k z).bind λb=>if b=d6 then (f z).bind λe=>(zU T k f γ ds).map λr=>e::r else zU T k f γ ds
noncomputable def zN(z:CO (List D))(T:Tg)(n:Nat)(H:List Nat)(k:CO Bool)(f:CO D)(γ:Ctx):Option (List D):=(z γ).bind λa=>if a.length<=lim then zU T k f (jx n H γ) a else cS
def jX:CO Bool:=λ_=>cI d6
def Tg.idx:Tg->List Nat
 | .nm i=>[i]
 | .tp is=>is
noncomputable def dI(g:Int->Int->D):D->D->Option D
 | .int i,.int j=>cI (g i j)
 | _,_=>cS
noncomputable def HZ(c:Int->Int->Bool)(g:Int->Int->D):D->D->Option D
 | .int i,.int j=>if c i j=d6 then cI (g i j)else cS
 | _,_=>cS
def wb:D->D->Option D:=dI λi j=> .int (i - j)
noncomputable def QF(i j:Int):Bool:=decide (i.natAbs<2 ^ 64) || decide (j.natAbs<2 ^ 64)
noncomputable def nz(_ j:Int):Bool:=decide (0<j) && decide (j.natAbs<1073741824)
def K5:D->D->Option D:=HZ nz λi j=> .int (i/j)
def oQ(_ j:Int):Bool:=decide<|0<j
def kh:D->D->Option D:=HZ oQ λi j=> .int (i%j)
noncomputable def ny(i j:Int):Bool:=decide (0<=j) && decide (j.natAbs<=1000000) && decide (i.natAbs<2 ^ 64)
def gF:D->D->Option D:=HZ ny λi j=> .int (i ^ j.toNat)
def DU:D->D->Option D:=dI λi j=> .bl (decide<|i<j)
def A1:D->D->Option D:=dI λi j=> .bl (decide<|i<=j)
def B2:D->D->Option D:=dI λi j=> .bl (decide<|j<i)
def Md:D->D->Option D:=dI λi j=> .bl (decide<|j<=i)
noncomputable def qo:D->D->Option D
 | .int i,.int j=>cI (.int<|i+j)
 | .tup xs,.tup ys=>if xs.length+ys.length<=lim then cI (.tup<|xs++ys)else cS
 | _,_=>cS
noncomputable def J5:D->D->Option D
 | .int i,.int j=>if QF i j=d6 then cI (.int<|i*j)else cS
 | .tup xs,.int j=>if xs.length*j.toNat<=lim/\inR j=d6 then cI (.tup (Bu j.toNat xs).flatten)else cS
 | _,_=>cS
noncomputable def Jh(f g:CO (Sk×List D))(γ:Ctx):Option (List D):=(f γ).bind λa=>(g γ).bind λb=>
 match a.1,b.1 with
 | .L,.L=>if a.2.length+b.2.length<=lim then cI (a.2++b.2)else cS
 | _,_=>cS
noncomputable def pX(f:CO (Sk×List D))(g:CO D)(γ:Ctx):Option (List D):=(f γ).bind λa=>((g γ).bind oI).bind λj=>
 match a.1 with
 | .L=>if a.2.length*j.toNat<=lim/\inR j=d6 then cI (Bu j.toNat a.2).flatten else cS
 | _=>cS
noncomputable def o3(n:Nat)(i:Int):Option Nat:=if 0<=i/\i<n then cI i.toNat else if i<0/\0<=i+n then cI (i+n).toNat else cS
noncomputable def gB(f:CO (Sk×List D))(g:CO D)(γ:Ctx):Option D:=(f γ).bind λa=>((g γ).bind oI).bind λi=>(o3 a.2.length i).bind λk=>a.2[k]?
noncomputable def vm(i:Nat)(g f:CO D)(γ:Ctx):Option Fl:=(f γ).bind λd=>(qb γ[i]?).bind λa=>((g γ).bind oI).bind λk=>(o3 a.length k).map λj=> .next (γ.set i<|.own<|a.set j d)
noncomputable def ZQ(n dflt:Nat):Option Int->Nat
 | none=>dflt
 | some i=>if i<0 then (i+n).toNat else min i.toNat n
noncomputable def wx(xs:List D)(lo z:Option Int):List D:=(xs.drop<|ZQ xs.length 0 lo).take (ZQ xs.length xs.length z - ZQ xs.length 0 lo)
def J4:CO (Option Int):=λ_=>cI cS
noncomputable def u4(f:CO D)(γ:Ctx):Option (Option Int):=((f γ).bind oI).map cI
noncomputable def YE(f:CO D)(l h:CO (Option Int))(γ:Ctx):Option D:=(f γ).bind λd=>(l γ).bind λlo=>(h γ).bind λa=>match d with
 | .tup b=>cI (.tup<|wx b lo a)
 | _=>cS
noncomputable def wJ(f:CO (Sk×List D))(γ:Ctx):Option D:=(f γ).map λa=> .int a.2.length
inductive Ty where
 | int | bool | str | tuple | list
 deriving DecidableEq
@[simp] def VI:D->Bool
 | .int _=>d6
 | .bl _=>d6
 | _=>eF
@[simp] def mZ:D->Bool
 | .bl _=>d6
 | _=>eF
@[simp] def cW:D->Bool
 | .str _=>d6
 | _=>eF
@[simp] def cV:D->Bool
 | .tup _=>d6
 | _=>eF
@[simp] def cY:D->Bool
 | .lst _=>d6
 | _=>eF
noncomputable def bp:Ty->D->Bool
 | .int=>VI
 | .bool=>mZ
 | .str=>cW
 | .tuple=>cV
 | .list=>cY
noncomputable def DY(T:Ty)(f:CO D)(γ:Ctx):Option D:=(f γ).map λd=> .bl (bp T d)
noncomputable def rZ:Ty->Sk->Bool
 | .tuple,.T=>d6
 | .list,.L=>d6
 | _,_=>eF
noncomputable def Be(T:Ty)(f:CO (Sk×List D))(γ:Ctx):Option D:=(f γ).map λa=> .bl (rZ T a.1)
@[simp] def Na:D->Bool
 | .i3=>d6
 | _=>eF
@[simp] noncomputable def eqB(a:Bool):D->Bool
 | .bl b=>a==b
 | .int b=>(if a then 1 else 0)==b
 | _=>eF
@[simp] noncomputable def M9(a:Int):D->Bool
 | .bl b=>a==(if b then 1 else 0)
 | .int b=>a==b
 | _=>eF
@[simp] def Nb(a:Str):D->Bool
 | .str b=>a==b
 | _=>eF
@[simp] noncomputable def Nc(a:Str)(i:Option Int):D->Bool
 | .exc b j=>a==b && i==j
 | _=>eF
mutual
def n9:D->D->Bool
 | .i3,y=>Na y
 | .bl a,y=>eqB a y
 | .int a,y=>M9 a y
 | .str a,y=>Nb a y
 | .tup xs,y=>match y with
  | .tup e=>B3 xs e
  | _=>eF
 | .lst xs,y=>match y with
  | .lst e=>B3 xs e
  | _=>eF
 | .exc a i,y=>Nc a i y
 | .o1 a b,y=>match y with
  | .o1 c d=>B3 a c && B3 b d
  | _=>eF
 | .n4 a b,y=>match y with
  | .n4 c d=>a==c && B3 b d
  | _=>eF
 | .ins a b c,y=>match y with
  | .ins z I O=>a==z && (n9 b I && n9 c O)
  | _=>eF
def B3:List D->List D->Bool
 | [],[]=>d6
 | x::xs,y::ys=>n9 x y && B3 xs ys
 | _,_=>eF
end
mutual
def deep:D->Nat
 | .tup a=>F3 a+1
 | .lst a=>F3 a+1
 | _=>0
def F3:List D->Nat
 | []=>0
 | x::xs=>max (deep x)<|F3 xs
end
mutual
def qq:D->Bool
 | .str x=>x.cps.all (· < 0x110000)
 | .exc _ _=>eF
 | .o1 _ _=>eF
 | .n4 _ _=>eF
 | .ins _ _ _=>eF
 | .tup a=>Di a
 | .lst a=>Di a
 | _=>d6
def Di:List D->Bool
 | []=>d6
 | x::xs=>qq x && Di xs
end
def u3(d:D):Bool:=decide (deep d<=20) && qq d
noncomputable def i9(x y:D):Option D:=if u3 x=d6/\u3 y=d6 then cI (.bl<|n9 x y)else cS
noncomputable def r6(x y:D):Option D:=if u3 x=d6/\u3 y=d6 then cI (.bl<|!n9 x y)else cS
noncomputable def zS(f:CO (Sk×List D))(γ:Ctx):Option D:=(f γ).map λa=> .tup a.2
noncomputable def rf(f:CO (Sk×List D))(γ:Ctx):Option (List D):=(f γ).map λa=>a.2
noncomputable def QX:List D->Option Int
 | []=>cI 0
 | .int i::r=>(QX r).map λs=>i+s
 | _::_=>cS
noncomputable def YC(f:CO (Sk×List D))(γ:Ctx):Option D:=(f γ).bind λa=>(QX a.2).map D.int
noncomputable def pE:D->Option Bool
 | .i3=>cI eF
 | .bl b=>cI b
 | .int i=>cI (i != 0)
 | _=>cS
noncomputable def J8:List D->Option (List Bool)
 | []=>cI []
 | d::r=>(pE d).bind λb=>(J8 r).map λs=>b::s
noncomputable def et(f:CO (Sk×List D))(γ:Ctx):Option D:=(f γ).bind λa=>(J8 a.2).map λs=> .bl (s.all id)
noncomputable def rm(f:CO (Sk×List D))(γ:Ctx):Option D:=(f γ).bind λa=>(J8 a.2).map λs=> .bl (s.any id)
noncomputable def xh(f:CO D)(γ:Ctx):Option D:=(f γ).bind λd=>match d with
 | .int i=>cI (.int i)
 | .bl b=>cI (.int<|if b then 1 else 0)
 | _=>cS
noncomputable def Au(f g:CO D)(γ:Ctx):Option D:=((f γ).bind oI).bind λi=>((g γ).bind oI).map λj=> .int (if j>i then j else i)
noncomputable def dX(f:CO (Sk×List D))(γ:Ctx):Option Bool:=(f γ).map λa=> !a.2.isEmpty
def pZ(f:CO D):CO D:=λa=>((f a).bind oI).map λi=> .int (-i)
noncomputable def qh(F G:D->D->Option D)(H I J:CO D):CO D:=λa=>(H a).bind λx=>(I a).bind λy=>((F x y).bind De).bind λb=>if b=d6 then (J a).bind λz=>G y z else cI (.bl eF)
noncomputable def YF(T:Tg)(f:CO D)(γ:Ctx):Option Fl:=(f γ).bind λd=>(xj T d γ).map .next
def AM:D->Option Int
 | .tup (.int k::_)=>cI k
 | _=>cS
noncomputable def mR:List D->Option (List Int)
 | []=>cI []
 | d::r=>(AM d).bind λk=>(mR r).map λl=>k::l
noncomputable def uB:List Int->Bool
 | a::b::r=>decide (a<b) && uB (b::r)
 | _=>d6
noncomputable def AH(ks:List Int):Nat:=(ks.dropLast.filter λk=>decide<|k<ks.getLast?.getD 0).length
noncomputable def AN(q:Nat)(z:List D):List D:=z.dropLast.take q++(z.drop (z.length - 1)++z.dropLast.drop q)
noncomputable def pV(z:List D):Option (List D):=(mR z).bind λa=>if (1<=z.length/\z.length<=8)/\uB a.dropLast=d6/\decide (a.getLast?.getD 0∈a.dropLast)=eF then cI (AN (AH a) z)else cS
noncomputable def pW(f:CO (Sk×List D))(γ:Ctx):Option (List D):=(f γ).bind λa=>match a.1 with
 | .L=>pV a.2
 | _=>cS
noncomputable def su:D->Bool
 | .tup _=>eF
 | .lst _=>eF
 | .exc _ _=>eF
 | .o1 _ _=>eF
 | .n4 _ _=>eF
 | .ins _ _ _=>eF
 | _=>d6
end DL
namespace L2
open PySem PySem.Spec PyProof.Rows
noncomputable def n7(k:Sk)(h:ia)(i l:eH)(n:Nat):Prop:=match k with
 | .L=>h.IsListIter i l n
 | .T=>h.IsTupleIter i l n
noncomputable def rd(k:Sk)(h:ia)(l:eH)(xs:Array eM):Prop:=match k with
 | .L=>h.IsList l xs
 | .T=>h.IsTuple l xs
noncomputable def pa(k:Sk)(l:eH):m7:=match k with
 | .L=>{cls:= .type "list_iterator",data:= .fields #[.ref l,.int 0 0]}
 | .T=>{cls:= .type "tuple_iterator",data:= .fields #[.ref l,.int 0 0]}
theorem n7.at(x:n7 k h i l n)(e : ∀o,h.get? i=cI o->h'.get? i=cI o):n7 k h' i l n:=by cases k<;>exact let ⟨o,z,r⟩:=x;⟨o,e _ z,r⟩
theorem rd.at(x:rd k h l xs)(e : ∀o,h.get? l=cI o->h'.get? l=cI o):rd k h' l xs:=by cases k<;>exact let ⟨o,z,r⟩:=x;⟨o,e _ z,r⟩
theorem n7.obj(x:n7 k h i l n) : ∃o,h.get? i=cI o/\∀v,o.data ≠ .cell v:=by cases k<;>exact let ⟨o,I,_,d⟩:=x;⟨o,I,λv z=>by rw[d]at z;cases z⟩
theorem rd.lt(x:rd k h l xs):l<h.objs.size:=by cases k<;>exact let ⟨o,z,_⟩:=x;Bz z
theorem wX(k:Sk)(h:ia)(l:eH):n7 k (h.push<|pa k l) h.objs.size l 0:=by cases k<;>exact⟨_,BI _ rfl,rfl,rfl⟩
section
variable{prog:i8}{w:i5}{A:l9}{E:MQ}{s:hA}
theorem Jz(z:rd k s.heap l xs)(I:Q (.ref s.heap.objs.size) {s with heap:=s.heap.push (pa k l)}):wpAny (hH prog w) A (IY<|.ref l) Q E s:=by
 cases k
 ·exact NQ z I
 ·exact GA z I
theorem ye(O:n7 k s.heap it l i)(U:rd k s.heap l items)(Y:items[i]? = cI x)
 (H : ∀h',n7 k h' it l (i+1)->FK it s.heap h'->Q x {s with heap:=h'}):wpAny (hH prog w) A (BS<|.ref it) Q E s:=by
 cases k with
 | L=>exact wpAny_nextOf_list_item O U Y H
 | T=>
  have I:s.heap.IsTupleIter it l i:=O;obtain⟨o,z,e,a⟩:=id I;obtain⟨g,b,_,f,d⟩:=(show s.heap.IsTuple l items from U);unfold BS;refine Bp (CS (name:=Eh "__next__") I.typeIs Gp (Em Gp I.typeIs M8 ?_ (MT _)));refine Bp (m:=field (.ref it) 0) (Cw z a (x:= .ref l) rfl ?_);show wpAny _ _ (if (BU l==Cy)=d6 then _ else _) _ _ s;rw[RQ (show ¬((BU l==Cy)=d6)from BJ)];refine Bp (m:=field (.ref it) 1) (Cw z a (x:= .int i 0) rfl ?_);refine Bp (m:=seqItems? (.ref l)) (ED b d ?_);simp only[Cr,Y];refine Bp (wpAny_setField z a ⋯ (Bv ⟨x,rfl,Bv (H _ ?_ (FK.update ..))⟩));show Heap.IsTupleIter _ it l (i+1);exact⟨_,Ff _ z (Obj.isFreed_of_fields (Obj.data_mapFields a _)),(Obj.cls_mapFields ..).trans e,by rw[Obj.data_mapFields a];simp[DX]⟩
theorem ZA(z:A.handled=cS)(U:n7 k s.heap it l i)(Y:rd k s.heap l items)(H:items[i]? = cS)
 (hE : ∀h' e,Heap.ExtBut it s.heap h'->(∃o,h'.get? e=cI o/\o.cls = .type "StopIteration")->E (.ref e) {s with heap:=h'}):wpAny (hH prog w) A (BS (.ref it)) Q E s:=by
 cases k with
 | L=>exact wpAny_nextOf_list_end z U Y H hE
 | T=>
  have I:s.heap.IsTupleIter it l i:=U;obtain⟨o,O,g,b⟩:=id I;obtain⟨j,d,_,h,f⟩:=(show s.heap.IsTuple l items from Y);unfold BS;refine Bp (CS (name:=Eh "__next__") I.typeIs Gp (Em Gp I.typeIs M8 ?_ (MT _)));refine Bp (m:=field (.ref it) 0) (Cw O b (x:= .ref l) rfl ?_);show wpAny _ _ (if (BU l==Cy)=d6 then _ else _) _ _ s;rw[RQ (show ¬((BU l==Cy)=d6)from BJ)];refine Bp (m:=field (.ref it) 1) (Cw O b (x:= .int i 0) rfl ?_);refine Bp (m:=seqItems? (.ref l)) (ED d f ?_);simp only[Cr,H];refine Bp (Hg (Bp (wpAny_setField O b ⋯ ?_)));refine Bp (m:=newExc (.type "StopIteration") []) ?_;simp only[newExc,newTuple];refine Bp (Es ?_ (by size_fits));refine Bp (m:=Nd _ _) (GK (a:=Cy) (by first | rfl | (simp only[Nd];rfl)) ?_);refine Es ?_ (by size_fits);simp only[raiseNew];refine Bp (wpAny_handled ?_)
  first | rw[show A.in1.handled=cS from z] | rw[z]
  exact Bp<|Bv<|wpAny_throw<|hE _ _ (((FK.update ..).extBut.push _).push _) ⟨_,BI _ rfl,rfl⟩
theorem K6{k1 k2:Sk}{z TI TO O U H J:eH}{L Z:Nat}{xs ys:Array eM}{x y a b:eM}{Q:MQ}(D:Li z TI TO O U H J)
 (hz:B7 s.heap z TI TO .none) (bl:q5 s.heap TI (.ref O) (.ref U)) (bn:q5 s.heap TO a b)
 (h1:n7 k1 s.heap O H L) (h2:n7 k2 s.heap U J Z) (bv:rd k1 s.heap H xs) (c0:rd k2 s.heap J ys) (hx:xs[L]? = cI x) (hy:ys[Z]? = cI y)
 (hQ : ∀h',B7 h' z TI TO (DX s.heap.objs.size)->q5 h' TO x y->n7 k1 h' O H (L+1)->n7 k2 h' U J (Z+1)->q5 h' s.heap.objs.size x y->h'.objs.size=s.heap.objs.size+1->
   (∀c o,c≠z->c≠TO->c≠O->c≠U->s.heap.get? c=cI o->h'.get? c=cI o)->Q (.ref s.heap.objs.size) {s with heap:=h'}) :
 wpAny (hH prog w) A (Builtin.«zip.__next__» ⟨[.ref z],[]⟩) (λc8 s'=>∃v,c8 = .done (.ret v)/\Q v s') E s:=by
 refine Bp (m:=field (.ref z) 2)<|Cw hz rfl (x:= .bool eF) rfl ?_;refine Bp (m:=field (.ref z) 3)<|Cw hz rfl (x:= .ref TI) rfl ?_;refine Bp<|ED bl rfl ?_;refine Bp (m:=Cn<|.ref z) ?_;unfold Cn;refine Bp<|Cw hz rfl (x:= .none) rfl<|Bv ?_;simp only[if_true];refine Bp<|Hg<|Bp<|Cw hz rfl (x:= .ref TO) rfl ?_;refine Bp<|CY hz ⋯ λg1 r Y=>?_;replace r:B7 g1 z TI TO .ellipsis:=r;refine Bp ?_;simp only[List.zipIdx_cons,List.zipIdx_nil,List.forIn_cons,List.forIn_nil];refine Bp<|Bp<|HH ?_;refine Bp (m:=BS<|.ref O)<|ye (h1.at λo e=>Y.extBut _ _ D.i1z e) (bv.at λo e=>Y.extBut _ _ D.l1z e) hx λg2 T f=>Bv ?_;have G:q5 g2 TO a b:=f.extBut _ _ D.TOi1<|Y.extBut _ _ D.TOz bn;refine Bp<|ED G rfl<|Bp<|Hm G λg3 t g=>?_;replace t:q5 g3 TO x b:=t;refine Bp<|wpAny_letGo<|Bv<|Bp<|Bp<|HH ?_;refine Bp (m:=BS<|.ref U)<|ye (h2.at λo e=>g.extBut _ _ D.TOi2.symm<|f.extBut _ _ D.i12.symm<|Y.extBut _ _ D.i2z e) (c0.at λo e=>g.extBut _ _ D.l2TO<|f.extBut _ _ D.l2i1<|Y.extBut _ _ D.l2z e) hy λg4 W h=>Bv ?_;have K:q5 g4 TO x b:=h.extBut _ _ D.TOi2 t;refine Bp<|ED K rfl<|Bp<|Hm K λI k i=>?_;replace k:q5 I TO x y:=k;refine Bp<|wpAny_letGo<|Bv<|Bv<|Bp<|ED k rfl<|Bp<|wpAny_newTuple ?_;have M:I.objs.size=s.heap.objs.size:=by rw[i.1,h.1,g.1,f.1,Y.1]
 have N:B7 I z TI TO .ellipsis:=i.extBut _ _ D.TOz.symm (h.extBut _ _ D.i2z.symm (g.extBut _ _ D.TOz.symm (f.extBut _ _ D.i1z.symm r)));have cf : ∀c o,c≠z->c≠TO->c≠O->c≠U->s.heap.get? c=cI o->I.get? c=cI o:=λc o d n C F e=>i.extBut _ _ n (h.extBut _ _ F (g.extBut _ _ n (f.extBut _ _ C (Y.extBut _ _ d e))));have X:n7 k1 I O H (L+1):=T.at λo e=>i.extBut _ _ D.TOi1.symm (h.extBut _ _ D.i12 (g.extBut _ _ D.TOi1.symm e));have ci:n7 k2 I U J (Z+1):=W.at λo e=>i.extBut _ _ D.TOi2.symm e;have P:z<I.objs.size:=Bz N;refine Bp (m:=El (.ref z) (.ref I.objs.size)) ?_;unfold El;have cl:B7 (I.push {cls:= .type "tuple",data:= .seq #[x,y]}) z TI TO .ellipsis:=Bq _ N;refine Bp (CY cl ⋯ λg7 u B=>?_);replace u:B7 g7 z TI TO (DX I.objs.size):=u;refine CY u ⋯ λj l as=>?_;replace l:B7 j z TI TO (DX I.objs.size):=l;have p : ∀c o,c≠z->I.get? c=cI o->j.get? c=cI o:=λc o d e=>as.extBut _ _ d (B.extBut _ _ d (Bq _ e));have R:q5 j I.objs.size x y:=as.extBut _ _ (EI P) (B.extBut _ _ (EI P) (BI _ rfl));have S:j.objs.size=I.objs.size+1:=by rw[as.1,B.1,Cm]
 rw[M]at l R S;refine Bv ⟨_,rfl,?_⟩;show Q (.ref I.objs.size) _;rw[M];exact hQ j l (p _ _ D.TOz k) (X.at λo e=>p _ o D.i1z e) (ci.at λo e=>p _ o D.i2z e) R S λc o d n C F e=>p c o d<|cf c o d n C F e
theorem WU{k1 k2:Sk}{z TI TO U H J L:eH}{Z n2:Nat}{xs ys:Array eM}{a b:eM}{Q:Fin->hA->Prop}(hh:A.handled=cS)(D:Li z TI TO U H J L)
 (hz:B7 s.heap z TI TO .none) (as:q5 s.heap TI (.ref U) (.ref H)) (ax:q5 s.heap TO a b)
 (h1:n7 k1 s.heap U J Z) (h2:n7 k2 s.heap H L n2) (ag:rd k1 s.heap J xs) (b0:rd k2 s.heap L ys) (bb:xs[Z]? = cS\/ys[n2]? = cS)
 (hE : ∀h' e,(∀c o,c≠z->c≠TO->c≠U->c≠H->s.heap.get? c=cI o->h'.get? c=cI o)->(∃o,h'.get? e=cI o/\o.cls = .type "StopIteration")->E (.ref e) {s with heap:=h'}) :
 wpAny (hH prog w) A (Builtin.«zip.__next__» ⟨[.ref z],[]⟩) Q E s:=by
 refine Bp (m:=field (.ref z) 2) (Cw hz rfl (x:= .bool eF) rfl ?_);refine Bp (m:=field (.ref z) 3) (Cw hz rfl (x:= .ref TI) rfl ?_);refine Bp (ED as rfl ?_);refine Bp (m:=Cn (.ref z)) ?_;unfold Cn;refine Bp (Cw hz rfl (x:= .none) rfl (Bv ?_));simp only[if_true];refine Bp (Hg (Bp (Cw hz rfl (x:= .ref TO) rfl ?_)));refine Bp (CY hz ⋯ λg1 l I=>?_);replace l:B7 g1 z TI TO .ellipsis:=l;refine Bp ?_;simp only[List.zipIdx_cons,List.zipIdx_nil,List.forIn_cons,List.forIn_nil];refine Bp (Bp (HH ?_));have t : ∀{g e:_} {j:m7},B7 g z TI TO .ellipsis->(∀c o,c≠z->c≠TO->c≠U->c≠H->s.heap.get? c=cI o->g.get? c=cI o)->g.get? e=cI j->j.cls = .type "StopIteration"->
  wpAny (hH prog w) A (Ii (.ref z) 0 .none) (λ_ F=>E (.ref e) F) E {s with heap:=g}:=λ{g e j} A2 hk Y f=>by
  have B:e≠z:=λq=>by subst q;rw[A2]at Y;cases Y;simp at f
  exact CY A2 ⋯ λg3 _ d=>hE g3 e (λc o i n k p q=>d.extBut _ _ i<|hk c o i n k p q) ⟨j,d.extBut _ _ B Y,f⟩
 cases hx:xs[Z]? with
 | none=>
  refine Bp (m:=BS<|.ref U)<|ZA hh (h1.at λo e=>I.extBut _ _ D.i1z e) (ag.at λo e=>I.extBut _ _ D.l1z e) hx λg2 e O r=>?_;obtain⟨j,Y,f⟩:=r;exact t (O _ _ D.i1z.symm l) (λc o i _ k _ q=>O _ _ k<|I.extBut _ _ i q) Y f
 | some x=>
  have C:ys[n2]? = cS:=by rcases bb with h | h;rw[hx]at h;cases h;exact h
  refine Bp (m:=BS<|.ref U)<|ye (h1.at λo e=>I.extBut _ _ D.i1z e) (ag.at λo e=>I.extBut _ _ D.l1z e) hx λg2 bl O=>Bv ?_;have u:q5 g2 TO a b:=O.extBut _ _ D.TOi1<|I.extBut _ _ D.TOz ax;refine Bp<|ED u rfl<|Bp<|Hm u λg3 G d=>?_;refine Bp<|wpAny_letGo<|Bv<|Bp<|Bp<|HH ?_;refine Bp (m:=BS<|.ref H)<|ZA hh (h2.at λo e=>d.extBut _ _ D.TOi2.symm<|O.extBut _ _ D.i12.symm<|I.extBut _ _ D.i2z e) (b0.at λo e=>d.extBut _ _ D.l2TO<|O.extBut _ _ D.l2i1<|I.extBut _ _ D.l2z e) C λK e y r=>?_;obtain⟨j,Y,f⟩:=r;exact t (y _ _ D.i2z.symm<|d.extBut _ _ D.TOz.symm<|O.extBut _ _ D.i1z.symm l) (λc o i n k p q=>y _ _ p<|d.extBut _ _ n<|O.extBut _ _ k<|I.extBut _ _ i q) Y f
end
def yD(a b:eM):m7:={cls:= .type "tuple",data:= .seq #[a,b]}
noncomputable def pk(TI TO:eH):m7:={cls:= .type "zip",data:= .fields #[.none,.bool eF,.bool eF,.ref TI,.ref TO]}
noncomputable def wc(k1 k2:Sk)(h:ia)(z I:eH):ia:=
 Cq (Cq (Cq (Cq (Cq h<|pa k1 z)<|pa k2 I)<|yD (.ref h.objs.size)<|.ref<|h.objs.size+1)<|yD .none .none) (pk (h.objs.size+2)<|h.objs.size+3)
theorem WT(k1 k2:Sk)(z I:eH)(xs H:Array eM) :
 E8 (Builtin.«zip.__new__» ⟨[.type "zip",.ref z,.ref I],[]⟩) (λ_ R s=>rd k1 s.heap z xs/\rd k2 s.heap I H/\
  R (.ok<|.ret<|.ref<|s.heap.objs.size+4) {s with heap:=wc k1 k2 s.heap z I}):=
 .of_wp λa w A R s h=>by
  obtain⟨O,g,d,b,os⟩:=s;obtain⟨U,Y,h⟩:=h;have j:=sub_zip;have f:rd k1 (Shared.heap ⟨O,g,d,b,os⟩) z xs:=U;have i:rd k2 (Shared.heap ⟨O.push<|pa k1 z,g,d,b,os⟩) I H:=Y.at λo e=>Bq _ e
  wp_walk using Jz f,Jz i
  refine⟨_,rfl,?_⟩;simp only[wc,yD,pk,Cm]at h ⊢;exact h
section
variable{X:Cx}{pins:MW}{σ:St}{H:Hp}{s:hA}{h':ia}
theorem Inv.LN{t':Nat}{fp:List eH}{a:eH}{o:HO}(I:Inv X pins σ H s)(k : ∀b u,b∉fp->s.heap.get? b=cI u->h'.get? b=cI u)(J : ∀b∈fp,KU X pins H b)
 (L:s.heap.objs.size<=a) (new:l8 X.prog X.w (upd H a o) h' a o):Inv X pins σ (upd H a o) {s with heap:=h',toks:=t'}:=by
 have d:H a=cS:=I.ij.fresh L;have f : ∀b u,H b=cI u->b∉fp:=λb u e z=>by rw[(J b z).1]at e;cases e
 have h : ∀b u,s.heap.get? b=cI u->b≠a:=λb u e=>BH<|BF (Bz e) L;refine I.step (g':=s.gens) (d':=s.drawn) (ch:=fp) (λb O=>⟨(J b O).2.2.2.1,(J b O).2.1,(J b O).2.2.2.2.1,(J b O).2.2.2.2.2⟩) (λb u _ _ U e _=>k b u U e) (λb u _ _ U e _=>⟨u.slots,k b u U e⟩)
  (λb u _ e n=>by rw[zt (h b u e)];exact n) (λb u U e=>⟨u,k b u U e⟩) (λb g e=>by rw[zt (zI e d)];exact e) (λb Y g e=>by rw[zt (zI e d)];exact e)
  (λb t e=>⟨#[],by rw[zt (zI e d),e];simp⟩) (λm l=>?_) (λb u e=>?_) I.bare
 ·obtain⟨Y,j,i,p,r⟩:=l
  refine⟨Y,j,i,k _ Y (λz=>(J _ z).2.1 rfl) p,r⟩
 ·by_cases O:b=a
  ·subst O;rw[zu]at e;cases e;exact new
  ·rw[zt O]at e
   refine(I.ij b u e).A7 (λc v U q=>k c v ?_ q) (λc q=>by rw[zt (zI q d)];exact q) λc g q=>by rw[zt (zI q d)];exact q
   rcases U with z | z
   ·rw[z];exact f b u e
   ·exact f c _ z
theorem Inv.LO{t':Nat}{fp:List eH}(I:Inv X pins σ H s)(k : ∀b u,b∉fp->s.heap.get? b=cI u->h'.get? b=cI u)(J : ∀b∈fp,KU X pins H b):Inv X pins σ H {s with heap:=h',toks:=t'}:=by
 have a : ∀b u,H b=cI u->b∉fp:=λb u e z=>by rw[(J b z).1]at e;cases e
 refine I.step (g':=s.gens) (d':=s.drawn) (ch:=fp) (λb U=>⟨(J b U).2.2.2.1,(J b U).2.1,(J b U).2.2.2.2.1,(J b U).2.2.2.2.2⟩) (λb u _ _ O e _=>k b u O e) (λb u _ _ O e _=>⟨u.slots,k b u O e⟩)
  (λb u _ e n=>n) (λb u O e=>⟨u,k b u O e⟩) (λb d e=>e) (λb Y d e=>e)
  (λb j e=>⟨#[],by rw[e];simp⟩) (λm h=>?_) (λb u e=>?_) I.bare
 ·obtain⟨Y,g,f,i,r⟩:=h
  refine⟨Y,g,f,k _ Y (λz=>(J _ z).2.1 rfl) i,r⟩
 ·refine(I.ij b u e).A7 (λc v O q=>k c v ?_ q) (λc q=>q) λc d q=>q
  rcases O with z | z
  ·rw[z];exact a b u e
  ·exact a c _ z
end
noncomputable def ow(k:Sk)(K:Bo)(H:Hp)(a:eH)(xs:List V):Prop:=match k with
 | .L=>kv K H a xs
 | .T=>lb K H a xs
theorem Inv.sq(I:Inv X pins σ H s)(h:ow k X.K H a xs) :
 ∃O:List eM,i0 xs O/\rd k s.heap a O.toArray/\xs.length<=i6:=by
 cases k with
 | L=>obtain⟨O,r,p,z⟩:=I.list h;exact⟨O,r,p.isList,z⟩
 | T=>obtain⟨O,r,p,z⟩:=I.tuple h;exact⟨O,r,p,z⟩
theorem Inv.LI(I:Inv X pins σ H s)(h:ow k X.K H a xs)(h':ow k X.K H a ys):xs=ys:=by
 cases k with
 | L=>exact I.Mk h h'
 | T=>exact I.MC h h'
noncomputable def Lf(k1 k2:Sk)(K:Bo)(a b:eH):It:=
 ⟨λi H=>∃d e,ow k1 K H a d/\ow k2 K H b e/\i<d.length/\i<e.length,
  λi H x f=>∃p u v,x = .ref p/\H p=cS/\f=upd H p (.tup [u,v])/\(∀d,ow k1 K H a d->d[i]? = cI u)/\(∀e,ow k2 K H b e->e[i]? = cI v),
  λi H=>∃d e,ow k1 K H a d/\ow k2 K H b e/\(d.length<=i\/e.length<=i)⟩
theorem W0{P:i8}{w:i5}{K:Bo}{elts:List hI}{x1:Nat}{xr:ik}(k1 k2:Sk){z TI TO i1 i2 a b:eH}(D:Li z TI TO i1 i2 a b) :
 Turn P w K (.Tuple elts x1 xr) (Lf k1 k2 K a b) [z,TI,TO,i1,i2] z (λi h=>B7 h z TI TO .none/\q5 h TI (.ref i1) (.ref i2)/\(∃c d,q5 h TO c d)/\n7 k1 h i1 a i/\n7 k2 h i2 b i) where
 mem:=by simp
 obj:=λi h ⟨hz,Y,⟨c,d,aa⟩,h1,h2⟩ y hy=>by
  simp only[BC,BR,or_false]at hy;rcases hy with rfl | rfl | rfl | rfl | rfl
  ·exact⟨_,hz,λv q=>by cases q⟩
  ·exact⟨_,Y,λv q=>by cases q⟩
  ·exact⟨_,aa,λv q=>by cases q⟩
  ·exact h1.obj
  ·exact h2.obj
 keep:=λi h h' ⟨hz,Y,⟨c,d,aa⟩,h1,h2⟩ k=>
  ⟨k z ⋯ _ hz,k TI ⋯ _ Y,⟨c,d,k TO ⋯ _ aa⟩,h1.at λo e=>k i1 ⋯ o e,h2.at λo e=>k i2 ⋯ o e⟩
 item:=by
  rintro X hP hw hK hc i pins s σ H E I hf ⟨hz,Y,⟨c,d,aa⟩,h1,h2⟩ ⟨xs,ys,am,an,bg,bi⟩;subst hP hw hK;obtain⟨bl,as,p1,z1⟩:=I.sq am;obtain⟨bn,ax,p2,z2⟩:=I.sq an;have hx:xs[i]? = cI xs[i]:=Bx bg;have hy:ys[i]? = cI ys[i]:=Bx bi;obtain⟨u1,c0,c1⟩:=as.get hx;obtain⟨u2,c2,c3⟩:=ax.get hy;have hT:s.TypeIs (.ref z) "zip":=⟨_,hz,rfl⟩;unfold G6;refine Bp (FD (CS (name:=Eh "__next__") hT GV (Em GV hT F.entry_zip_next
   (K6 D hz Y aa h1 h2 p1 p2 (x:=u1) (y:=u2) (by simpa using c0) (by simpa using c2) λg a1 a2 a3 a4 a5 a6 a7=>Bv ⟨_,rfl,?_⟩) (F.args_zip_next_1 _))))
  refine wpAny_letOwnedTupleGo_zip a1 λg2 A2 ac=>?_;have lt : ∀{c o},s.heap.get? c=cI o->s.heap.objs.size≠c:=λe=>EI<|Bz e;have c9:q5 g2 s.heap.objs.size u1 u2:=ac.extBut _ _ (lt hz) a5;have kk : ∀U u,U ∉ [z,TI,TO,i1,i2]->s.heap.get? U=cI u->g2.get? U=cI u:=λU u O e=>by simp only[BC,BR,or_false,not_or]at O;exact ac.extBut _ _ O.1<|a7 U u O.1 O.2.2.1 O.2.2.2.1 O.2.2.2.2 e
  have I1:Inv X pins σ (upd H s.heap.objs.size<|.tup [xs[i],ys[i]]) {s with heap:=g2,toks:=s.toks}:=
   I.LN (fp:=[z,TI,TO,i1,i2]) kk hf (BB _) ⟨by show 2<=i6;decide,[u1,u2],.cons c1<|.cons c3 .nil,⟨_,c9,rfl,_,rfl⟩⟩
  have cb:H s.heap.objs.size=cS:=I.fresh;refine⟨.ref s.heap.objs.size,_,I1,rfl,⟨_,_,_,rfl,cb,rfl,λcl b0=>by rw[I.LI b0 am];exact hx,λcm b0=>by rw[I.LI b0 an];exact hy⟩,?_,λU O=>?_⟩
  ·exact⟨A2,ac.extBut _ _ D.TIz<|a7 _ _ D.TIz D.TITO D.TIi1 D.TIi2 Y,⟨_,_,ac.extBut _ _ D.TOz a2⟩,a3.at λo e=>ac.extBut _ _ D.i1z e,a4.at λo e=>ac.extBut _ _ D.i2z e⟩
  ·have cc:U≠s.heap.objs.size:=by
    simp only[BC,BR,or_false]at O;rcases O with rfl | rfl | rfl | rfl | rfl
    ·exact(lt hz).symm
    ·exact(lt Y).symm
    ·exact(lt aa).symm
    ·obtain⟨o,e,_⟩:=h1.obj;exact(lt e).symm
    ·obtain⟨o,e,_⟩:=h2.obj;exact(lt e).symm
   rw[zt cc];exact(hf U O).1
 done:=by
  rintro X hP hw hK hc i pins s σ H E I hf ⟨hz,Y,⟨c,d,aa⟩,h1,h2⟩ ⟨xs,ys,am,an,hi⟩;subst hP hw hK;obtain⟨bl,as,p1,z1⟩:=I.sq am;obtain⟨bn,ax,p2,z2⟩:=I.sq an;have hT:s.TypeIs (.ref z) "zip":=⟨_,hz,rfl⟩;have l1:=as.length;have l2:=ax.length;unfold G6;refine Bp (FD (CS (name:=Eh "__next__") hT GV (Em GV hT F.entry_zip_next
   (WU (show X.A.handled=cS from I.ok.hd hc) D hz Y aa h1 h2 p1 p2 (by rcases hi with q | q;left;simp;omega;right;simp;omega) λg e hk he=>?_) (F.args_zip_next_1 _))))
  obtain⟨o,ho,ch⟩:=he;refine Bp (wpAny_isInstance (T:="StopIteration") (b:=d6) ⟨o,ho,ch⟩ isSubtype_stop (Bv ⟨rfl,?_⟩));refine I.LO (t':=s.toks) (fp:=[z,TI,TO,i1,i2]) (λU u O e=>?_) hf;simp only[BC,BR,or_false,not_or]at O;exact hk U u O.1 O.2.2.1 O.2.2.2.1 O.2.2.2.2 e
 self:=λ_ _ _ _ _ st h=>wpAny_pyIter_zip st.1 h
noncomputable def AO(K:Bo)(z:TA):TI:=λj H R=>z j H λg d=>∃e f a b,g=[.ref a,.ref b]/\(∃h,ow e K d a h)/\(∃i,ow f K d b i)/\R (Lf e f K a b) d
theorem lT{X:Cx}{Z z:hI}{ta:TA}{p pos:ik}{J:List hI}{x1:Nat}{L:ik}(hg:Gl X "zip")(hm:X.mg "zip" = cS)(ha:PA X [Z,z] ta)
 (hv:Dt "zip" = cI (.type "zip")) (hs:iv [Z,z] X.env=[(eF,hM Z X.env),(eF,hM z X.env)]:=by rfl) (a2:iv [z] X.env=[(eF,hM z X.env)]:=by rfl) :
 PI X (.Tuple J x1 L) (.Call (.Name "zip" p) [Z,z] [] pos) (AO X.K ta):=by
 intro j s B H R I h;refine Iz (qU I hg hm hv<|Eb (ih (ha pos j s B H _ I h) λus d S=>?_) (by rw[hs,a2])<|by rw[a2];rfl);obtain⟨vs,l,O,r1,q1⟩:=S;obtain⟨f,g,a,b,e,⟨xs,E⟩,⟨ys,G⟩,q⟩:=q1;subst e;obtain⟨w1,w2,Q,M,as⟩:=iK r1;subst Q;cases M;cases as;obtain⟨N,bn,u,z1⟩:=O.sq E;obtain⟨P,bv,w,z2⟩:=O.sq G;have T:=u.lt;have W:=w.lt;refine M5 F.called_zip ⋯ (F.typeCall_zip_2 _ _) (F.newCall_zip_2 _ _) (λobj=>F.args_object_init_3 obj _ _) F.entry_zip_new (WT f g a b N.toArray P.toArray) ⟨u,w,?_⟩;have keep : ∀c o,d.heap.get? c=cI o->(wc f g d.heap a b).get? c=cI o:=λc o e=>
  Bq _ (Bq _<|Bq _<|Bq _<|Bq _ e)
 have x:(Cq d.heap<|pa f a).objs.size=d.heap.objs.size+1:=Cm ..;have y:(Cq (Cq d.heap<|pa f a)<|pa g b).objs.size=d.heap.objs.size+2:=by rw[Cm,x]
 have A:(Cq (Cq (Cq d.heap<|pa f a)<|pa g b)<|yD (.ref d.heap.objs.size)<|.ref<|d.heap.objs.size+1).objs.size=d.heap.objs.size+3:=by rw[Cm,y]
 have y4:(Cq (Cq (Cq (Cq d.heap<|pa f a)<|pa g b)<|yD (.ref d.heap.objs.size)<|.ref<|d.heap.objs.size+1)<|yD .none .none).objs.size=d.heap.objs.size+4:=by rw[Cm,A]
 have g0:n7 f (wc f g d.heap a b) d.heap.objs.size a 0:=(wX f d.heap a).at λo e=>Bq _<|Bq _<|Bq _<|Bq _ e;have g1:n7 g (wc f g d.heap a b) (d.heap.objs.size+1) b 0:=by have q:=wX g (Cq d.heap<|pa f a) b;rw[x]at q;exact q.at λo e=>Bq _<|Bq _<|Bq _ e
 have g2:q5 (wc f g d.heap a b) (d.heap.objs.size+2) (.ref d.heap.objs.size) (.ref<|d.heap.objs.size+1):=by have q:_=cI (yD (.ref d.heap.objs.size)<|.ref<|d.heap.objs.size+1):=BI (Cq (Cq d.heap<|pa f a)<|pa g b) (o:=yD (.ref d.heap.objs.size)<|.ref<|d.heap.objs.size+1) rfl;rw[y]at q;exact Bq _<|Bq _ q
 have g3:q5 (wc f g d.heap a b) (d.heap.objs.size+3) .none .none:=by have q:_=cI (yD .none .none):=BI (Cq (Cq (Cq d.heap<|pa f a)<|pa g b)<|yD (.ref d.heap.objs.size)<|.ref<|d.heap.objs.size+1) (o:=yD .none .none) rfl;rw[A]at q;exact Bq _ q
 have k:B7 (wc f g d.heap a b) (d.heap.objs.size+4) (d.heap.objs.size+2) (d.heap.objs.size+3) .none:=by have q:=BI (Cq (Cq (Cq (Cq d.heap<|pa f a)<|pa g b)<|yD (.ref d.heap.objs.size)<|.ref<|d.heap.objs.size+1)<|yD .none .none) (o:=pk (d.heap.objs.size+2)<|d.heap.objs.size+3) rfl;rw[y4]at q;exact q
 refine⟨⟨_,k,rfl⟩,wpAny_pyIter_zip (s:={d with heap:=wc f g d.heap a b}) k ?_⟩;have C:Inv X j B l {d with heap:=wc f g d.heap a b,toks:=d.toks}:=O.kept keep;have nn : ∀m:Nat,d.heap.objs.size≠d.heap.objs.size+m+1:=λm=>by omega
 have U : ∀m:Nat,a≠d.heap.objs.size+m:=λm=>BH<|BF T<|Cz _ m;have Y : ∀m:Nat,b≠d.heap.objs.size+m:=λm=>BH<|BF W<|Cz _ m;have i : ∀m n:Nat,m≠n->(d.heap.objs.size+m:Nat)≠d.heap.objs.size+n:=λm n h=>by omega
 have D:Li (d.heap.objs.size+4) (d.heap.objs.size+2) (d.heap.objs.size+3) d.heap.objs.size (d.heap.objs.size+1) a b:=
  ⟨i 2 4 ⋯,i 3 4 ⋯,i 0 4 ⋯,i 1 4 ⋯,i 2 3 ⋯,i 2 0 ⋯,i 2 1 ⋯,i 3 0 ⋯,i 3 1 ⋯,i 0 1 ⋯,
   U 4,U 3,U 0,U 1,Y 4,Y 3,Y 0,Y 1⟩
 refine⟨_,[d.heap.objs.size+4,d.heap.objs.size+2,d.heap.objs.size+3,d.heap.objs.size,d.heap.objs.size+1],_,_,l,rfl,C,W0 f g D,⟨k,g2,⟨_,_,g3⟩,g0,g1⟩,λc t=>?_,q⟩;have r:d.heap.objs.size<=c:=by
  simp only[BC,BR,or_false]at t;rcases t with rfl | rfl | rfl | rfl | rfl
  ·exact Cz _ _
  ·exact Cz _ _
  ·exact Cz _ _
  ·exact BB _
  ·exact Cz _ _
 exact O.H9 r<|O.ij.fresh r
noncomputable def LY(k:Sk)(K:Bo)(a:eH):It:=match k with
 | .L=>HS K a
 | .T=>LZ K a
noncomputable def uq(K:Bo)(z:TE):TI:=λe H R=>z e H λx b=>∃a k,x = .ref a/\(∃d,ow k K b a d)/\R (LY k K a) b
theorem cG(U:PE X l tl):PI X tg l (uq X.K tl):=by
 intro d s r H R I h;refine ih (U d s r H _ I h) λv f Y=>?_;obtain⟨x,g,z,n,m⟩:=Y;obtain⟨a,k,e,⟨y,j⟩,q⟩:=m;subst e;cases n;have O : ∀b ∈ [f.heap.objs.size],KU X d g b:=λb i=>by
  have e:b=f.heap.objs.size:=by simpa using i
  subst e;exact z.H9 (BB _)<|z.ij.fresh<|BB _
 obtain⟨t,w,p,u⟩:=z.sq j;cases k with
 | L=>exact NQ p ⟨f.heap.objs.size,[f.heap.objs.size],_,_,g,rfl,z.kept (t':=f.toks) λb o e=>Bq _ e,Yh a _,⟨_,BI _ rfl,rfl,rfl⟩,O,q⟩
 | T=>exact GA p ⟨f.heap.objs.size,[f.heap.objs.size],_,_,g,rfl,z.kept (t':=f.toks) λb o e=>Bq _ e,XY a _,⟨_,BI _ rfl,rfl,rfl⟩,O,q⟩
section
variable{κ:Type} [DecidableEq κ]
noncomputable def QS(H:List (κ×V))(k:κ):Option V:=(H.find? λz=>decide<|z.1=k).map (·.2)
noncomputable def ak(H:List (κ×V))(k:κ)(v:V):List (κ×V):=
 if (H.any λz=>decide<|z.1=k)=d6 then H.map (λz=>if z.1=k then (z.1,v)else z)else H++[(k,v)]
theorem Zn{p:κ×V}{r:List (κ×V)}{k:κ}(e:p.1=k):QS (p::r) k=cI p.2:=by simp[QS,Fe,e]
theorem QR{p:κ×V}{r:List (κ×V)}{k:κ}(e : ¬p.1=k):QS (p::r) k=QS r k:=by simp[QS,Fe,e]
theorem Qs(z:List (κ×V))(k:κ)(v:V):(ak z k v).length<=z.length+1:=by
 unfold ak;split
 ·rw[Cb];omega
 ·rw[Cs,Et,FW];omega
theorem B9.Mh(r:B9 o u):o.isSome=u.isSome:=by
 cases o with
 | none=>cases u with
  | none=>rfl
  | some _=>exact(show False from r).elim
 | some _=>cases u with
  | none=>exact(show False from r).elim
  | some _=>rfl
theorem KV.val{H:List (κ×V)}{vs:List (κ×eM)}(r:KV H vs)(k:κ):B9 (QS H k) (valueAt vs k):=by
 unfold KV at r
 induction r with
 | nil=>exact Ey
 | @cons p q f I h t U=>
  obtain⟨a,d⟩:=h;by_cases e:p.1=k
  ·have O:q.1=k:=a.symm.trans e
   have b:valueAt (q::I) k=cI q.2:=by simp[valueAt,Fe,O]
   rw[Zn e,b];exact d
  ·have O : ¬q.1=k:=λz=>e (a.trans z)
   have b:valueAt (q::I) k=valueAt I k:=by simp[valueAt,Fe,O]
   rw[QR e,b];exact U
theorem KV.any(r:KV m8 vs)(k:κ):(m8.any λz=>decide<|z.1=k)=vs.any λz=>decide (z.1=k):=by
 unfold KV at r
 induction r with
 | nil=>rfl
 | cons h t I=>rw[GB,GB,I,h.1]
theorem KV.NB(r:KV m8 vs)(k:κ)(O:RelV y u) :
 KV (m8.map λI=>if I.1=k then (I.1,y)else I) (vs.map λI=>if I.1=k then (I.1,u)else I):=by
 unfold KV at r ⊢
 induction r with
 | nil=>exact .nil
 | @cons p q d Y h t U=>
  rw[BY,BY];refine .cons ?_ U;obtain⟨a,b⟩:=h;by_cases e:p.1=k
  ·rw[MY e,MY (a.symm.trans e)];exact⟨a,O⟩
  ·rw[RQ e,RQ (λz=>e<|a.trans z)];exact⟨a,b⟩
theorem KV.put(r:KV m8 vs)(k:κ)(z:RelV y u):KV (ak m8 k y) (stored vs k u):=by
 unfold ak stored;rw[r.any k];by_cases e:(vs.any λI=>decide<|I.1=k)=d6
 ·rw[MY e,MY e];exact r.NB k z
 ·rw[RQ e,RQ e];exact Paired.snoc r ⟨rfl,z⟩
end
theorem bf(r:RelV (kV k) u):(j9 P w).is k u=d6:=by
 cases k with
 | inl i=>obtain⟨t,e⟩:=(show ∃t,u=FR i t from r);subst e;exact Qp P w i t
 | inr x=>obtain⟨t,e⟩:=(show ∃t,u=Hb x t from r);subst e;exact Qo P w x t
theorem JA : ∀{ks:List Key} {z:List eM},i0 (ks.map kV) z->ItemsAre (j9 P w) ks z
 | [],_,r=>by rw[Hy]at r;cases r;exact .nil
 | k::ks,_,r=>by
  rw[BY]at r;cases r with
  | cons h t=>exact .cons (bf h)<|JA t
abbrev KT(H:Hp):List (List Key×V)->List (List Key×eH×eM)->Prop:=Paired λp q=>p.1=q.1/\H q.2.1=cI (.tup (p.1.map kV))/\RelV p.2 q.2.2
theorem KT.val{H:Hp}{J:List (List Key×V)}{xs:List (List Key×eH×eM)}(r:KT H J xs)(k:List Key):B9 (QS J k) ((atKey xs k).map (·.2)):=by
 induction r with
 | nil=>exact Ey
 | @cons p q f I h t U=>
  obtain⟨a,_,d⟩:=h;by_cases e:p.1=k
  ·have O:q.1=k:=a.symm.trans e
   have b:atKey (q::I) k=cI q.2:=by simp[atKey,Fe,O]
   rw[Zn e,b];exact d
  ·have O : ¬q.1=k:=λz=>e (a.trans z)
   have b:atKey (q::I) k=atKey I k:=by simp[atKey,Fe,O]
   rw[QR e,b];exact U
section
variable{P:i8}{w:i5}{H:Hp}{h:ia}{a:eH}
theorem lx(ok:m5 P w H h)(e:Rd H a u):l8 P w H h a u:=e.ok ok
theorem bI(ok:m5 P w H h)(e:Rd H a (.dK m8)):m8.length<=i6/\(a==DI)=eF/\∃vs,KV m8 vs/\h.DictOf (j9 P w) a vs:=
 show l8 P w H h a (.dK m8)from lx ok e
theorem sE(ok:m5 P w H h)(e:H a=cI (.dK m8)):m8.length<=i6/\(a==DI)=eF/\∃vs,KV m8 vs/\h.DictOf (j9 P w) a vs:=bI ok<|.inl e
theorem VA(ok:m5 P w H h)(e:H a=cI (.tup<|ks.map kV)):(tupleKind<|j9 P w).is h ks a:=by obtain⟨_,z,r,o,b,d,n,I⟩:=(show l8 P w H h a (.tup<|ks.map kV)from ok a _ e);exact⟨o,z.toArray,n,b,(Prod.mk.inj d).1,I,by simpa using JA r⟩
theorem gA(ok:m5 P w H h)(e:Rd H a (.dT m8)):m8.length<=i6/\(a==DI)=eF/\
 ∃xs,KT H m8 xs/\h.DictOfH (tupleKind<|j9 P w) a xs:=by
 obtain⟨z,y,xs,r,o,b,U,d,f,Y,g,i⟩:=(show l8 P w H h a (.dT m8)from lx ok e);refine⟨z,y,xs,r,o,b,U,d,f,Y,g,λx I=>?_,i⟩;have all : ∀{l:List (List Key×V)} {m:List (List Key×eH×eM)},KT H l m->∀x∈m,(tupleKind<|j9 P w).is h x.1 x.2.1:=by
  intro l m q
  induction q with
  | nil=>intro x I;exact nomatch I
  | @cons p q k n O t j=>
   intro x I;rcases BC.mp I with e | I
   ·subst e
    exact VA ok (by rw[<- O.1];exact O.2.1)
   ·exact j x I
 exact all r x I
end
noncomputable def nT(H:Hp)(a:eH)(y:V)(r:Option V):Prop:=
 (∃d k,Rd H a (.dK d)/\y=kV k/\r=QS d k)\/∃d k b,Rd H a (.dT d)/\y = .ref b/\H b=cI (.tup<|k.map kV)/\r=QS d k
section
variable{X:Cx}{pins:MW}{σ:St}{H:Hp}{s:hA}{a:eH}{y v:V}{u r:eM}{o:Option V}{A:l9}{E:MQ}
theorem Inv.big(I:Inv X pins σ H s):DI<s.heap.objs.size:=by have h:p9<s.heap.objs.size:=(I.mod.glob.keeps I.bk).lt;exact Nat.lt_trans ⋯ h
theorem Wc(Z:A.units+1<cLine)(I:Inv X pins σ H s)(g:nT H a y (cI v))(L:RelV y u)(h : ∀J s',Inv X pins σ H s'->RelV v J->Q J s') :
 wpAny (hH X.prog X.w) A (Dy (.ref a) u) Q E s:=by
 rcases g with⟨i,k,e,O,l⟩ | ⟨i,k,b,e,O,m,l⟩
 ·subst O
  obtain⟨z,n,t,U,d⟩:=bI I.ij e;obtain⟨J,f,Y⟩:=B9.some_of (v:=v) (o:=valueAt t k) (by rw[l];exact U.val k);exact wpAny_getItem_of (bf L) d.mapOf f<|h J _ (I.tok _) Y
 ·subst O
  cases (show u=BU b from L);obtain⟨z,n,x,U,d⟩:=gA I.ij e;obtain⟨J,f,Y⟩:=B9.some_of (v:=v) (o:=(atKey x k).map (·.2)) (by rw[l];exact U.val k);obtain⟨p,r,j⟩:=Option.map_eq_some_iff.mp f;refine wpAny_getItem_heap (tupleKind_room_in1 Z) (VA I.ij m) d r ?_;rw[j];exact h J _ (I.tok _) Y
theorem AU(J:A.units+1<cLine)(I:Inv X pins σ H s)(g:nT H a y o)(Y:RelV y u)(h : ∀s',Inv X pins σ H s'->Q (.bool o.isSome) s') :
 wpAny (hH X.prog X.w) A (ro .In u<|.ref a) Q E s:=by
 rcases g with⟨i,k,e,O,l⟩ | ⟨i,k,b,e,O,j,l⟩
 ·subst O
  obtain⟨z,f,m,U,d⟩:=bI I.ij e;refine wpAny_in_of (bf Y) f d.mapOf ?_;rw[<- (U.val k).Mh,<- l];exact h _<|I.tok _
 ·subst O
  cases (show u=BU b from Y);obtain⟨z,f,n,U,d⟩:=gA I.ij e;refine wpAny_in_heap (tupleKind_room_in1 J) (VA I.ij j) f d ?_;have q:=(U.val k).Mh;rw[Option.isSome_map]at q;rw[<- q,<- l];exact h _<|I.tok _
theorem gD(I:Inv X pins σ H s)(O:HV (H a))(U:FK a s.heap h')(Y : ∃q,h'.get? a=cI q)(new:l8 X.prog X.w (upd H a ob) h' a ob) :
 Inv X pins σ (upd H a ob) {s with heap:=h',toks:=t'}:=
 I.write (x:=a) (e:=a) O (.inl rfl) (λb q d z=>(U.2 b d).trans z) Y new
theorem nu(z:m8.length<=i6)(J:(a==DI)=eF)(I:KV m8 vs)(dd:h'.DictOf (j9 P w) a vs) :
 l8 P w H' h' a (.dK m8):=⟨z,J,vs,I,dd⟩
end
noncomputable def tR(i:hI):Prop:=∀z I,subscripted i eF z I=operate [z,I] (Dy z I)
theorem dH{prog:i8}{w:i5}{A:l9}{E:MQ}{s:hA}{env:mr}{value z:hI}{pos:ik}{T id:String}{Q:MQ}
 (H:Iu (.type T) "__getitem__" = pure (cI (.builtin id))) (J:tR z)
 (h:wpAny (hH prog w) A (hM value env) (λo Y=>wpAny (hH prog w) A (hM z env) (λi I=>I.TypeIs o T/\wpAny (hH prog w) A (Dy o i) Q E I) E Y) E s) :
 wpAny (hH prog w) A (hM (.Subscript value z pos) env) Q E s:=by
 refine L6<|BN h (λo Y b=>BN b (λi I O=>?_) λ_ _ x=>x) λ_ _ x=>x;obtain⟨e,O⟩:=O;unfold subscriptTail;refine Bp ?_;rw[getitemInPython_of_ne e.not_modules];refine Bp<|wpAny_specialOf e H ?_;have U:wpAny (hH prog w) A (subscripted z eF o i) (λr a=>wpAny (hH prog w) A (letTemporaryGo value o r >>= λ_=>pure r) Q E a) E I:=by rw[J o i];exact wpAny_operating<|BN O (λr a d=>Bp<|wpAny_letTemporaryGo<|Bv d) λ_ _ x=>x
 first
  | exact Bv<|Bp U
  | exact Bp<|Bv<|Bp U
  | exact Bp U
theorem QB(I:Inv X pins σ H s)(g:nT H a y o):s.TypeIs (.ref a) "dict":=by
 rcases g with⟨f,k,e,_,_⟩ | ⟨f,k,b,e,_,_,_⟩
 ·obtain⟨_,_,h,_,d⟩:=bI I.ij e
  exact d.typeIs
 ·obtain⟨_,_,i,_,d⟩:=gA I.ij e
  exact d.typeIs
noncomputable def pQ(z ty:TE):TE:=λd H Q=>z d H λx e=>ty d e λy b=>∃a v,x = .ref a/\nT b a y (cI v)/\Q v b
noncomputable def Aq(ty z:TE):TE:=λd H Q=>ty d H λy e=>z d e λx b=>∃a o,x = .ref a/\nT b a y o/\Q (.bl o.isSome) b
section
variable{X:Cx}{o i e value:hI}{pos pos' xr:ik}{td ty tv:TE}
theorem fu(O:X.A.units+1<cLine)(U:PE X o td)(J:PE X i ty)(Y:tR i):PE X (.Subscript o i pos) (pQ td ty):=by intro b s d H Q I h;refine dH PySem.F.slot_dict_getitem.lookup Y<|ih (U b s d H _ I h) λu t ⟨x,e,j,rx,n⟩=>ih (J b t d e _ j n) λw B ⟨y,f,z,r,a,v,m,g,p⟩=>?_;subst m;obtain rfl:u=BU a:=rx;exact⟨QB z g,Wc O z g r λE C k l=>⟨v,f,k,l,p⟩⟩
theorem mi(z:X.A.units+1<cLine)(J:PE X i ty)(O:PE X o td):PC X .In i o (Aq ty td):=by intro b s d H Q I h;refine ih (J b s d H _ I h) λt r ⟨y,e,U,Y,n⟩=>ih (O b r d e _ U n) λu w ⟨x,f,j,rx,a,m,l,g,p⟩=>?_;subst l;obtain rfl:u=BU a:=rx;exact AU z j g Y λB k=>⟨.bl m.isSome,f,k,rfl,p⟩
end
theorem bJ(h:ia)(z:DI<h.objs.size):l8 P w H (h.push {cls:= .type "dict",data:= .dict #[]}) h.objs.size (.dK []):=
 ⟨Eo _,beq_eq_false_iff_ne.mpr<|CP<|BH z,[],.nil,Heap.DictOf.new h⟩
noncomputable def Yx:List (TE×TE)->St->Hp->(List (V×V)->Hp->Prop)->Prop
 | [],_,H,Q=>Q [] H
 | (tk,tv)::r,σ,H,Q=>tk σ H λx a=>tv σ a λy b=>Yx r σ b λd z=>Q ((x,y)::d) z
abbrev VV:List (V×V)->List (eM×eM)->Prop:=Paired λp q=>RelV p.1 q.1/\RelV p.2 q.2
noncomputable def IF(X:Cx)(pos:ik)(z:List (Option hI))(I:List hI)(O:List (TE×TE)):Prop:=
 ∀(a:MW) (s:hA) (b:St) (H:Hp) (Q:List (V×V)->Hp->Prop),Inv X a b H s->Yx O b H Q->
  wpAny (hH X.prog X.w) X.A (evalPairs<|pairTrees z I X.env pos) (λg f=>∃e d,Inv X a b d f/\VV e g/\Q e d) X.xe s
theorem eX{X:Cx}{pos:ik}:IF X pos [] [] []:=λa s b H Q I h=>pairTrees_nil_walk ⟨[],H,I,.nil,h⟩
theorem Xc{X:Cx}{pos:ik}{k v:hI}{ks:List (Option hI)}{vs:List hI}{J L:TE}{z:List (TE×TE)}(Z:PE X k J)(O:PE X v L)(U:IF X pos ks vs z) :
 IF X pos (cI k::ks) (v::vs) ((J,L)::z):=λa s b H Q I h=>
 pairTrees_cons_walk (ih (Z a s b H _ I h) λu r ⟨x,d,Y,rx,m⟩=>ih (O a r b d _ Y m) λA t ⟨y,e,g,p,n⟩=>
  ih (U a t b e _ g n) λws w ⟨l,f,i,j,o⟩=>⟨(x,y)::l,f,i,.cons ⟨rx,p⟩ j,o⟩)
noncomputable def vB(H more:List (Key×V)):List (Key×V):=more.foldl (λacc z=>ak acc z.1 z.2) H
theorem KV.merge : ∀{more:List (Key×V)} {z:List (Key×eM)} {H:List (Key×V)} {vs:List (Key×eM)},KV more z->KV H vs->KV (vB H more) (merged vs z):=by
 intro more z H vs r;unfold KV at r
 induction r generalizing H vs with
 | nil=>intro q;exact q
 | @cons p q a U h t I=>
  intro O;have e:KV (ak H p.1 p.2) (stored vs q.1 q.2):=by have:=O.put p.1 h.2;rw[<- h.1];exact this
  exact I e
theorem yh : ∀(more z:List (Key×V)),(vB z more).length<=z.length+more.length
 | [],z=>by show z.length<=z.length+0;omega
 | p::r,z=>by have a:=yh r<|ak z p.1 p.2;have b:=Qs z p.1 p.2;show(vB (ak z p.1 p.2) r).length<=_;rw[Et];omega
theorem Zd{P:i8}{w:i5} : ∀{H:List (Key×V)} {I:List (eM×eM)},VV (H.map λO=>(kV O.1,O.2)) I->∃z,Carries (j9 P w) I z/\KV H z
 | [],_,r=>by rw[Hy]at r;cases r;exact⟨[],Ey,.nil⟩
 | p::H,_,r=>by
  rw[BY]at r;cases r with
  | @cons a b U bs h t=>
   obtain⟨z,c,q⟩:=Zd (P:=P) (w:=w) t;obtain⟨b1,b2⟩:=b;exact⟨(p.1,b2)::z,⟨bf h.1,rfl,c⟩,.cons ⟨rfl,h.2⟩ q⟩
noncomputable def pP(I:List (TE×TE)):TE:=λe H Q=>∀p,H p=cS->Yx I e (upd H p<|.dK []) λd b=>b p=cI (.dK [])/\∃a:List (Key×V),d=a.map (λz=>(kV z.1,z.2))/\a.length<=15/\Q (.ref p) (upd b p<|.dK<|vB [] a)
theorem ft{X:Cx}{pos:ik}{O:List (Option hI)}{U:List hI}{Y:List (TE×TE)}(h:IF X pos O U Y)(J:O.all (·.isSome)=d6)(hl:O.length=U.length)(Z:O ≠ [])
 (L:O.length<=15):PE X (.Dict O U pos) (pP Y):=by
 intro d s E H Q I q;have r:=I.ij.fresh (BB s.heap.objs.size);have i:=I.laid (a:=s.heap.objs.size) (o:= .dK []) (h':=s.heap.push {cls:= .type "dict",data:= .dict #[]}) (t':=s.toks) (λ_ _ q=>Bq _ q) (BB _) (bJ s.heap I.big);refine wpAny_Dict_walk (knd:=j9 X.prog X.w) J hl Z L (ih (h d _ E _ _ i (q _ r)) λws M ⟨K,F,f,j,e,b,l,lk,y⟩=>?_);subst l;obtain⟨C,c,B⟩:=Zd (P:=X.prog) (w:=X.w) j;obtain⟨z,n,G,A,k⟩:=sE f.ij e;cases A;refine⟨C,c,k,λh' g u=>⟨.ref s.heap.objs.size,_,?_,rfl,y⟩⟩;have x:(vB [] b).length<=i6:=by have m:=yh b [];rw[FW]at m;rw[EZ];omega
 have p : ∃q,h'.get? s.heap.objs.size=cI q:=let ⟨q,_,_,t,_⟩:=g;⟨q,t⟩;exact gD f (by rw[e];exact Ey) u p<|nu x n (B.merge .nil) g
end L2
namespace DL
open PySem PySem.Spec PyProof.Rows L2
noncomputable def o5:List Str:=["NoPrime","Nought","NoTable","NoWidths","NoRow","Unlike","TooMany","NoTurn","NoLine","Nothing","NoArrow","NoText","NoRoom"]
noncomputable def t7:List eM:=[.type "ValueError",.type "Exception",.type "BaseException",.type "object"]
noncomputable def xV(K:Bo)(c:Str):Option eH:=match Fn K p9 c with
 | some (cI (.ref C))=>cI C
 | _=>cS
noncomputable def WV(K:Bo)(C:eH):Bool:=
 ["int","bool","str","tuple","list"].all (λt=>CT K (.ref C) (.type t)==cI eF) && CT K (.ref C) (.type "ValueError")==cI d6 &&
 Cv K (.ref C) "__getattribute__" == cI (cI (.builtin "BaseException.__getattribute__")) && Cv K (.ref C) "__getattr__" == cI cS &&
 Cv K (.ref C) "__class__" == cI (cI (.builtin "object.__class__")) && CB K C (.type "object")==cI d6 && CB K C (.type "BaseException")==cI d6 &&
 Fy K (.builtin "object.__class__") "__get__" == cI (cI (.builtin "getset_descriptor.__get__")) && PySem.W.takesIn K (.builtin "object.__class__")==cI d6 &&
 (EF K C).any (λa=> !a.hasDel) && EU K (.ref C)==cI (.type "type")
noncomputable def wA(K:Bo):Bool:=match xV K "SplitError" with
 | some S=>o5.all λc=>match xV K c with
  | some C=>WV K C && CT K (.ref C) (.ref S)==cI d6 && o5.all λz=>match xV K z with
   | some I=>CT K (.ref C) (.ref I)==cI (c==z)
   | none=>eF
  | none=>eF
 | none=>eF
noncomputable def KS(h:ia)(a:eH)(C:eH):Prop:=∃o b,h.get? a=cI o/\o.cls = .ref C/\o.data = .fields b
structure vv(K:Bo)(H:Hp)(c:Str)(n:Option Int)(a:eH):Prop where
 all:wA K=d6
 mem:c∈o5
 ex : ∃C φ,xV K c=cI C/\H a=cI (.ext φ)/\(∀h,φ h->KS h a C)/\
  match n with
  | none=>True
  | some i=>∃d,(∀h,φ h->∃o,h.get? a=cI o/\o.dict=cI d)/\H d=cI (.xd [(if c==("NoRoom" : Str)then "room" else "at",.int i)])
theorem vv.mono{K:Bo}{H J:Hp}{c:Str}{n:Option Int}{a:eH}(e : ∀b o,H b=cI o->J b=cI o)(h:vv K H c n a):vv K J c n a:=by
 obtain⟨f,g,C,j,I,g2,O,z⟩:=h;refine⟨f,g,C,j,I,e _ _ g2,O,?_⟩;cases n with
 | none=>exact z
 | some i=>obtain⟨d,U,Y⟩:=z;exact⟨d,U,e _ _ Y⟩
theorem kR{K:Bo}{c:Str}{C:eH}(h:wA K=d6)(O:c∈o5)(e:xV K c=cI C) : ∃S,xV K "SplitError" = cI S/\WV K C=d6/\CT K (.ref C) (.ref S)=cI d6/\
 ∀z I,z∈o5->xV K z=cI I->CT K (.ref C) (.ref I)=cI (c==z):=by
 unfold wA at h;split at h
 ·rename_i S U
  have a:=Ea.mp h c O;rw[e]at a;simp only[Bt,beq_iff_eq]at a;refine⟨S,U,a.1.1,a.1.2,λz I Y d=>?_⟩;have b:=Ea.mp a.2 z Y;rw[d]at b;exact beq_iff_eq.mp b
 ·cases h
abbrev St:=L2.St
noncomputable def rX:D->Option Key
 | .int i=>cI (.inl i)
 | .str x=>cI (.inr x)
 | _=>cS
noncomputable def Vz:List D->Option (List Key)
 | []=>cI []
 | d::ds=>(rX d).bind λk=>(Vz ds).map λr=>k::r
noncomputable def D1(H:Hp)(a:eH)(ks:List D)(xs:List V):Prop:=∃b,Vz ks=cI b/\b.length=xs.length/\∃o,H a=cI (.ri o<|.dK<|b.zip xs)
noncomputable def pF(k:List Int):Int:=reduceHash<|Builtin.Tuple.tupleHashOf<|k.map hashInt
noncomputable def Bd(o:m7)(xs:List (List Int×eH×eM)):Prop:=o.ExactDict/\∃a z,o.data = .dict a z/\a.toList=xs.map (λx=>⟨pF x.1,.ref x.2.1,x.2.2⟩)/\(xs.map (·.1)).Nodup
def Ma(a:eH)(o:m7):HO:= .ext λh=>h.get? a=cI o
noncomputable def IB(K:Bo)(H:Hp)(a:eH)(ks:List (List Int))(z:List V):Prop:=
 (a==DI)=eF/\∃o b,H a=cI (Ma a o)/\Bd o b/\b.map (·.1)=ks/\b.length<=i6/\(∀x∈b,lb K H x.2.1<|x.1.map V.int)/\i0 z (b.map (·.2.2))
def IQ(z I:V):List (Str×V):=rG "table" I (rG "p" z [])
noncomputable def JD(K:Bo)(C:eH):Bool:=Ho K C Str.empty && (PySem.W.hasDictIn K C && (PySem.W.plainOver K C && (Cv K (.ref C) "__setattr__" == cI (cI (.builtin "object.__setattr__")) && (Cv K (.ref C) "__class__" == cI (cI (.builtin "object.__class__")) &&
 (Fy K (.builtin "object.__class__") "__get__" == cI (cI (.builtin "getset_descriptor.__get__")) && (PySem.W.takesIn K (.builtin "object.__class__")==cI d6 && (CB K C (.type "object")==cI d6 && ["int","bool","str","tuple","list"].all λt=>CT K (.ref C) (.type t)==cI eF)))))))
noncomputable def G3(K:Bo)(c:Str):Option eH:=match Fn K p9 c with
 | some (cI (.ref C))=>if JD K C=d6 then cI C else cS
 | _=>cS
theorem Xp{K:Bo}{c:Str}{C:eH}(h:G3 K c=cI C):JD K C=d6:=by
 unfold G3 at h;split at h
 ·split at h
  ·rename_i a;cases h;exact a
  ·cases h
 ·cases h
mutual
def Rep(K:Bo)(H:Hp):D->V->Prop
 | .i3,v=>v = .i3
 | .bl b,v=>v = .bl b
 | .int i,v=>v = .int i
 | .str x,v=>v = .str x
 | .tup ds,v=>∃a d,v = .ref a/\lb K H a d/\gE K H ds d
 | .lst ds,v=>∃a d,v = .ref a/\kv K H a d/\gE K H ds d
 | .exc c n,v=>∃a,v = .ref a/\vv K H c n a
 | .o1 ks vs,v=>∃a d,v = .ref a/\D1 H a ks d/\gE K H vs d
 | .n4 ks vs,v=>∃a d,v = .ref a/\IB K H a ks d/\gE K H vs d
 | .ins c p t,v=>∃a C e z I,v = .ref a/\G3 K c=cI C/\H a=cI (.ins C e<|IQ z I)/\Rep K H p z/\Rep K H t I
def gE(K:Bo)(H:Hp):List D->List V->Prop
 | [],xs=>xs=[]
 | d::ds,xs=>∃x r,xs=x::r/\Rep K H d x/\gE K H ds r
end
theorem qs{K:Bo}{H z:Hp}{a:eH}{xs:List V}(e:kr H z)(h:lb K H a xs):lb K z a xs:=by
 rcases h with(h | ⟨o,h⟩) | h
 ·exact .inl<|.inl<|e _ _ h
 ·exact .inl<|.inr ⟨o,e _ _ h⟩
 ·exact .inr h
theorem Je{k:Sk}{K:Bo}{H z:Hp}{a:eH}{xs:List V}(e:kr H z)(h:ow k K H a xs):ow k K z a xs:=by
 cases k
 ·exact e.seq h
 ·exact qs e h
mutual
theorem Rep.mono{K:Bo}{H J:Hp}(e:kr H J) : ∀{d:D} {v:V},Rep K H d v->Rep K J d v
 | .i3,_,h=>h
 | .bl _,_,h=>h
 | .int _,_,h=>h
 | .str _,_,h=>h
 | .tup ds,v,h=>by obtain⟨a,b,f,i,g⟩:=(show ∃a b,v = .ref a/\lb K H a b/\gE K H ds b from h);exact(show ∃a b,v = .ref a/\lb K J a b/\gE K J ds b from⟨a,b,f,qs e i,gE.mono e g⟩)
 | .lst ds,v,h=>by obtain⟨a,b,f,i,g⟩:=(show ∃a b,v = .ref a/\kv K H a b/\gE K H ds b from h);exact(show ∃a b,v = .ref a/\kv K J a b/\gE K J ds b from⟨a,b,f,e.seq i,gE.mono e g⟩)
 | .exc c n,v,h=>by obtain⟨a,f,i⟩:=(show ∃a,v = .ref a/\vv K H c n a from h);exact(show ∃a,v = .ref a/\vv K J c n a from⟨a,f,i.mono e⟩)
 | .o1 ks vs,v,h=>by obtain⟨a,b,f,⟨u,O,g2,o,U⟩,g⟩:=(show ∃a b,v = .ref a/\D1 H a ks b/\gE K H vs b from h);exact(show ∃a b,v = .ref a/\D1 J a ks b/\gE K J vs b from⟨a,b,f,⟨u,O,g2,o,e _ _ U⟩,gE.mono e g⟩)
 | .n4 ks vs,v,h=>by obtain⟨a,b,f,⟨O,o,w,g2,U,Y,k,g6,l⟩,g⟩:=(show ∃a b,v = .ref a/\IB K H a ks b/\gE K H vs b from h);exact(show ∃a b,v = .ref a/\IB K J a ks b/\gE K J vs b from⟨a,b,f,⟨O,o,w,e _ _ g2,U,Y,k,λx s=>qs e<|g6 x s,l⟩,gE.mono e g⟩)
 | .ins c p t,v,h=>by obtain⟨a,C,j,z,I,f,i,g,m,r⟩:=(show ∃a C j z I,v = .ref a/\G3 K c=cI C/\H a=cI (.ins C j<|IQ z I)/\Rep K H p z/\Rep K H t I from h);exact(show ∃a C j z I,v = .ref a/\G3 K c=cI C/\J a=cI (.ins C j<|IQ z I)/\Rep K J p z/\Rep K J t I from⟨a,C,j,z,I,f,i,e _ _ g,Rep.mono e m,Rep.mono e r⟩)
theorem gE.mono{K:Bo}{H I:Hp}(e:kr H I) : ∀{z:List D} {xs:List V},gE K H z xs->gE K I z xs
 | [],_,h=>h
 | d::z,xs,h=>by obtain⟨x,r,a,b,f⟩:=(show ∃x r,xs=x::r/\Rep K H d x/\gE K H z r from h);exact(show ∃x r,xs=x::r/\Rep K I d x/\gE K I z r from⟨x,r,a,Rep.mono e b,gE.mono e f⟩)
end
section
variable{K:Bo}{H:Hp}
theorem gE.nil:gE K H [] []:=(show([]:List V)=[]from rfl)
theorem gE.cons(h:Rep K H d x)(t:gE K H ds xs):gE K H (d::ds) (x::xs):=⟨x,xs,rfl,h,t⟩
theorem gE.xb(h:gE K H [] xs):xs=[]:=h
theorem gE.r9(h:gE K H (d::ds) xs) : ∃x r,xs=x::r/\Rep K H d x/\gE K H ds r:=h
theorem gE.length : ∀{z:List D} {xs:List V},gE K H z xs->xs.length=z.length
 | [],xs,h=>by rw[h.xb];rfl
 | d::z,xs,h=>by obtain⟨x,r,e,_,t⟩:=h.r9;rw[e,Et,Et,gE.length t]
theorem gE.get : ∀{I:List D} {xs:List V} {i:Nat} {d:D},gE K H I xs->I[i]? = cI d->∃x,xs[i]? = cI x/\Rep K H d x
 | [],_,_,_,_,e=>by simp at e
 | c::I,xs,0,d,h,e=>by obtain⟨x,r,a,b,_⟩:=h.r9;simp at e;subst e;exact⟨x,by rw[a];rfl,b⟩
 | c::I,xs,i+1,d,h,e=>by obtain⟨x,r,a,_,t⟩:=h.r9;obtain⟨y,z,g2⟩:=gE.get (i:=i) (d:=d) t (by simpa using e);exact⟨y,by rw[a];simpa using z,g2⟩
theorem gE.F9{z:List D}{xs:List V}{i:Nat}{x:V}(h:gE K H z xs)(e:xs[i]? = cI x) : ∃d,z[i]? = cI d/\Rep K H d x:=by
 have b:i<z.length:=by rw[<- h.length];exact(BP.mp e).1
 obtain⟨y,a,r⟩:=h.get<|Bx b;rw[e]at a;cases a;exact⟨_,Bx b,r⟩
theorem gE.append : ∀{z I:List D} {xs J:List V},gE K H z xs->gE K H I J->gE K H (z++I) (xs++J)
 | [],_,xs,_,h,g=>by rw[h.xb];exact g
 | d::z,I,xs,J,h,g=>by obtain⟨x,r,e,a,t⟩:=h.r9;rw[e];exact gE.cons a<|gE.append t g
theorem gE.drop : ∀{z:List D} {xs:List V} (n:Nat),gE K H z xs->gE K H (z.drop n) (xs.drop n)
 | _,_,0,h=>h
 | [],xs,n+1,h=>by rw[h.xb];exact gE.nil
 | d::z,xs,n+1,h=>by obtain⟨x,r,e,_,t⟩:=h.r9;rw[e];exact gE.drop n t
theorem gE.take : ∀{z:List D} {xs:List V} (n:Nat),gE K H z xs->gE K H (z.take n) (xs.take n)
 | _,_,0,h=>by simp;exact gE.nil
 | [],xs,n+1,h=>by rw[h.xb];exact gE.nil
 | d::z,xs,n+1,h=>by obtain⟨x,r,e,a,t⟩:=h.r9;rw[e];exact gE.cons a<|gE.take n t
theorem gE.set : ∀{z:List D} {xs:List V} {d:D} {x:V} (i:Nat),gE K H z xs->Rep K H d x->gE K H (z.set i d) (xs.set i x)
 | [],xs,_,_,_,h,_=>by rw[h.xb];exact gE.nil
 | c::z,xs,d,x,0,h,g=>by obtain⟨y,r,e,_,t⟩:=h.r9;rw[e];exact gE.cons g t
 | c::z,xs,d,x,i+1,h,g=>by obtain⟨y,r,e,a,t⟩:=h.r9;rw[e];exact gE.cons a<|gE.set i t g
end
structure Ext(H0 H t5 H':Hp):Prop where
 s0:kr H0 t5
 s1:kr H H'
 sub:kr t5 H'
 new : ∀a,H0 a=cS->H a≠cS->t5 a=cS
theorem Ext.refl(s:kr H0 H):Ext H0 H H0 H:=⟨kr.refl _,kr.refl _,s,λ_ h _=>h⟩
theorem Ext.trans(a:Ext H0 H H1 G1)(b:Ext H1 G1 H2 G2):Ext H0 H H2 G2:=
 ⟨a.s0.trans b.s0,a.s1.trans b.s1,b.sub,λc e d=>b.new c (a.new c e d) (by
  cases q:H c with
  | none=>exact absurd q d
  | some o=>rw[a.s1 c o q];simp)⟩
theorem ja(h:H p=cS)(o:HO):kr H (upd H p o):=λb u q=>by rw[zt (zI q h)];exact q
theorem jC(s:kr H0 H)(h:H p=cS):H0 p=cS:=s.free h
theorem Jd(s:kr H0 H):kr (upd H0 p o) (upd H p o):=λb u q=>by
 by_cases e:b=p
 ·subst e;rw[zu]at q ⊢;exact q
 ·rw[zt e]at q ⊢;exact s b u q
theorem Ext.alloc(s:kr H0 H)(h:H p=cS)(o:HO):Ext H0 H (upd H0 p o) (upd H p o):=
 ⟨ja (jC s h) o,ja h o,Jd s,λa b d=>by rw[zt (λe=>d<|by rw[e];exact h)];exact b⟩
theorem Ext.hide(s:kr H0 H)(h:H p=cS)(o:HO):Ext H0 H H0 (upd H p o):=
 ⟨kr.refl _,ja h o,s.trans<|ja h o,λa b _=>b⟩
theorem Ext.show(e:Ext H0 H t5 H')(J:H a=cS)(L:t5 a=cS)(O:H' a=cI o)(s:kr H0 H):Ext H0 H (upd t5 a o) H':=
 ⟨e.s0.trans<|ja L o,e.s1,λb u q=>by
  by_cases z:b=a
  ·subst z;rw[zu]at q;rw[O];exact q
  ·rw[zt z]at q;exact e.sub b u q,λb U I=>by
  rw[zt (λz=>I<|by rw[z];exact J)];exact e.new b U I⟩
structure D3(K:Bo)(H0 H:Hp)(rows:List (List D))(a:eH)(bs:List eH):Prop where
 a0:H0 a=cS
 ha:H a=cI (.lst<|bs.map V.ref)
 nd:(a::bs).Nodup
 len:bs.length=rows.length
 row : ∀(k:Nat) b row,bs[k]? = cI b->rows[k]? = cI row->H0 b=cS/\∃xs,H b=cI (.lst xs)/\gE K H0 row xs
theorem D3.at{K:Bo}{L H:Hp}{J:List (List D)}{a:eH}{bs:List eH}(n:D3 K L H J a bs){b:eH}(z:b∈a::bs):L b=cS/\∃xs,H b=cI (.lst xs):=by
 rcases BC.mp z with rfl | z
 ·exact⟨n.a0,_,n.ha⟩
 ·obtain⟨k,d⟩:=List.getElem?_of_mem z
  have I:=(BP.mp d).1;rw[n.len]at I;obtain⟨e,xs,f,_⟩:=n.row k b _ d<|Bx I;exact⟨e,xs,f⟩
theorem D3.move{K:Bo}{Z H L Y:Hp}{J:List (List D)}{a:eH}{bs:List eH}(n:D3 K Z H J a bs)(s:kr Z L)(h0 : ∀b∈a::bs,L b=cS)(h : ∀b∈a::bs,Y b=H b):D3 K L Y J a bs:=
 ⟨h0 a BQ,by rw[h a BQ];exact n.ha,n.nd,n.len,λk b row d I=>by obtain⟨_,f,e,O⟩:=n.row k b row d I;have z:b∈a::bs:=BL _<|GQ d;exact⟨h0 b z,f,by rw[h b z];exact e,O.mono s⟩⟩
noncomputable def t6(K:Bo)(L H:Hp)(J:St)(γ:Ctx):Prop:=
 (∀(i:Nat) b,γ[i]? = cI (.nest b)->∃a bs,J[i]? = cI (cI (.ref a))/\D3 K L H b a bs/\∀(j:Nat) d c,γ[j]? = cI (.own d)->J[j]? = cI (cI (.ref c))->c∉a::bs)/\
 ∀(i j:Nat) z I,γ[i]? = cI (.nest z)->γ[j]? = cI (.nest I)->i=j
theorem t6.IV{K:Bo}{L H:Hp}{O:St}{γ:Ctx}(h : ∀(i:Nat) J,γ[i]? ≠ cI (.nest J)):t6 K L H O γ:=⟨λi J e=>absurd e<|h i J,λi j z I e=>absurd e<|h i z⟩
theorem t6.move{K:Bo}{Y H L Z:Hp}{O:St}{γ:Ctx}(n:t6 K Y H O γ)(s:kr Y L)(h : ∀(i:Nat) J a bs,γ[i]? = cI (.nest J)->O[i]? = cI (cI (.ref a))->D3 K Y H J a bs->(∀(j:Nat) ds c,γ[j]? = cI (.own ds)->O[j]? = cI (cI (.ref c))->c∉a::bs)->∀b∈a::bs,L b=cS/\Z b=H b):t6 K L Z O γ:=
 ⟨λi J e=>by obtain⟨a,bs,d,f,z⟩:=n.1 i J e;exact⟨a,bs,d,f.move s (λb I=>(h i J a bs e d f z b I).1)<|λb I=>(h i J a bs e d f z b I).2,z⟩,n.2⟩
theorem t6.ext{K:Bo}{O H J L:Hp}{Y:St}{γ:Ctx}(n:t6 K O H Y γ)(e:Ext O H J L):t6 K J L Y γ:=
 n.move e.s0 λi d a bs _ _ f _ b z=>by obtain⟨I,g,g2⟩:=f.at z;exact⟨e.new b I (by rw[g2];simp),by rw[e.s1 b _ g2,g2]⟩
structure RC(K:Bo)(H0 H:Hp)(σ:St)(γ:Ctx):Prop where
 sub:kr H0 H
 len:σ.length=γ.length
 val : ∀(i:Nat) d,γ[i]? = cI (.val d)->∃v,σ[i]? = cI (cI v)/\Rep K H0 d v
 own : ∀(i:Nat) ds,γ[i]? = cI (.own ds)->∃a xs,σ[i]? = cI (cI (.ref a))/\H0 a=cS/\H a=cI (.lst xs)/\gE K H0 ds xs
 ne : ∀(i j:Nat) a ds es,γ[i]? = cI (.own ds)->γ[j]? = cI (.own es)->σ[i]? = cI (cI (.ref a))->σ[j]? = cI (cI (.ref a))->i=j
 C4:t6 K H0 H σ γ
theorem RC.ext{K:Bo}{O H J L:Hp}{Y:St}{γ:Ctx}(r:RC K O H Y γ)(e:Ext O H J L):RC K J L Y γ:=
 ⟨e.sub,r.len,λi d h=>let ⟨v,b,f⟩:=r.val i d h;⟨v,b,f.mono e.s0⟩,
  λi g h=>let ⟨a,j,b,f,z,I⟩:=r.own i g h;⟨a,j,b,e.new a f (by rw[z];simp),e.s1 _ _ z,I.mono e.s0⟩,r.ne,r.C4.ext e⟩
noncomputable def tV(K:Bo)(f:CO D):TE:=λh H Q=>∃e g d,RC K e H h g/\f g=cI d/\∀v b a,Ext e H a b->Rep K a d v->Q v b
noncomputable def tQ(K:Bo)(f:CO (Sk×List D)):TE:=λj H Q=>∃g i k h,RC K g H j i/\f i=cI (k,h)/\∀a e d b,Ext g H b d->ow k K d a e->(k = .T->lb K b a e)->gE K b h e->Q (.ref a) d
noncomputable def tO(K:Bo)(f:CO (List D)):TE:=λj H Q=>∃e i g,RC K e H j i/\f i=cI g/\
 ∀a h d b,Ext e H b d->H a=cS->b a=cS->d a=cI (.lst h)->gE K b g h->Q (.ref a) d
noncomputable def tT(K:Bo)(f:CO Bool):TT:=λh H Q=>∃e g b,RC K e H h g/\f g=cI b/\∀d a,Ext e H a d->Q b d
noncomputable def tA(K:Bo)(f:CO (List D)):TA:=λi H Q=>∃d h e,RC K d H i h/\f h=cI e/\∀g b a,Ext d H a b->gE K a e g->Q g b
abbrev PV(X:Cx)(e:hI)(f:CO D):Prop:=PE X e (tV X.K f)
abbrev PQ(X:Cx)(e:hI)(f:CO (Sk×List D)):Prop:=PE X e (tQ X.K f)
abbrev PO(X:Cx)(e:hI)(f:CO (List D)):Prop:=PE X e (tO X.K f)
abbrev o4(X:Cx)(e:hI)(f:CO Bool):Prop:=PT X e (tT X.K f)
abbrev D4(X:Cx)(e:hI)(f:CO Bool):Prop:=PW X e (tT X.K f)
abbrev Dq(X:Cx)(es:List hI)(f:CO (List D)):Prop:=PA X es (tA X.K f)
theorem jB(h:PE X e t)(i : ∀z H Q,t' z H Q->t z H Q):PE X e t':=λa s z H Q I q=>h a s z H Q I<|i z H Q q
theorem Jn(h:PT X e t)(i : ∀z H Q,t' z H Q->t z H Q):PT X e t':=λa s z H Q I q=>h a s z H Q I<|i z H Q q
theorem lD(h:PW X e t)(i : ∀J H Q,t' J H Q->t J H Q):PW X e t':=λz a s J H Q I q=>h z a s J H Q I<|i J H Q q
theorem mm(h:PA X es t)(i : ∀z H Q,t' z H Q->t z H Q):PA X es t':=λpos a s z H Q I q=>h pos a s z H Q I<|i z H Q q
theorem ka{X:Cx}{st:l0}{t t':TS}(h:PS X st t)(i : ∀D z H,t' D z H->t D z H):PS X st t':=λa s z H D I q=>h a s z H D I<|i D z H q
theorem cC{X:Cx}{st:List l0}{t t':TS}(h:tx X st t)(i : ∀D z H,t' D z H->t D z H):tx X st t':=λa s z H D I q=>h a s z H D I<|i D z H q
theorem Jq(h:PI X tg e t)(i : ∀z H R,t' z H R->t z H R):PI X tg e t':=λa s z H R I q=>h a s z H R I<|i z H R q
theorem kU(h:n<=lim):n<=i6:=Co h ⋯
section
variable{X:Cx}{e a b c:hI}{pos:ik}
theorem PV.q(h:PV X e f):PQ X e (zT f):=jB h λs H Q Y=>by
 obtain⟨p,o,k,i,rc,I,q⟩:=Y;unfold zT at I;cases e1:f o with
 | none=>rw[e1]at I;cases I
 | some d=>
  rw[e1]at I;refine⟨p,o,d,rc,e1,λv n b ext r=>?_⟩;cases d with
  | tup l=>
   obtain⟨O,U⟩:k = .T/\i=l:=by simp[jf]at I;exact⟨I.1.symm,I.2.symm⟩
   subst O U;obtain⟨a,g,rfl,j,m⟩:=(show ∃a g,v = .ref a/\lb X.K b a g/\gE X.K b i g from r);exact q a g n b ext (qs ext.sub j) (λ_=>j) m
  | lst l=>
   obtain⟨O,U⟩:k = .L/\i=l:=by simp[jf]at I;exact⟨I.1.symm,I.2.symm⟩
   subst O U;obtain⟨a,g,rfl,j,m⟩:=(show ∃a g,v = .ref a/\kv X.K b a g/\gE X.K b i g from r);exact q a g n b ext (ext.sub.seq j) (λz=>nomatch z) m
  | _=>simp[jf]at I
theorem PO.v(h:PO X e f):PV X e (qS f):=jB h λo H Q U=>by
 obtain⟨j,i,d,rc,z,q⟩:=U;unfold qS at z;cases e1:f i with
 | none=>rw[e1]at z;cases z
 | some b=>
  rw[e1]at z;cases z;refine⟨j,i,b,rc,e1,λa m n k ext l g Y r=>?_⟩;exact q _ _ _ (ext.show l g Y rc.sub) (show ∃I O,V.ref a = .ref I/\kv X.K _ I O/\gE X.K _ b O from⟨a,m,rfl,kv.of zu,r.mono<|ja g _⟩)
theorem PO.q(h:PO X e f):PQ X e (jj f):=jB h λp H Q O=>by
 obtain⟨i,d,k,l,rc,I,q⟩:=O;unfold jj at I;cases e1:f d with
 | none=>rw[e1]at I;cases I
 | some m=>
  rw[e1]at I;cases I;exact⟨i,d,_,rc,e1,λa j g b ext n o U r=>q a j g b ext (kv.of U) (λz=>nomatch z) r⟩
theorem jL(i:Nat)(h:PE X e (dE i)):PV X e (zf i):=jB h λm H Q I=>by
 obtain⟨b,j,d,rc,z,q⟩:=I;unfold zf at z;cases e1:j[i]? with
 | none=>rw[e1]at z;cases z
 | some c=>
  rw[e1]at z;cases c with
  | val k=>
   cases z;obtain⟨v,f,g⟩:=rc.val i d e1;exact⟨v,f,q v H b (Ext.refl rc.sub) g⟩
  | no=>cases z
  | own l=>cases z
  | nest a=>cases z
theorem lR(i:Nat)(h:PE X e (dE i)):PQ X e (zl i):=jB h λt H Q r=>by
 obtain⟨f,s,k,g,rc,I,q⟩:=r;unfold zl at I;cases e1:s[i]? with
 | none=>rw[e1]at I;cases I
 | some c=>
  rw[e1]at I;cases c with
  | no=>cases I
  | nest n=>cases I
  | own j=>
   cases I;obtain⟨a,b,l,m,o,p⟩:=rc.own i g e1;exact⟨_,l,q a b H f (Ext.refl rc.sub) (kv.of o) (λz=>nomatch z) p⟩
  | val d=>
   obtain⟨v,l,m⟩:=rc.val i d e1;refine⟨v,l,?_⟩;cases d with
   | tup j=>
    obtain⟨U,Y⟩:k = .T/\g=j:=by simp[yH,jf]at I;exact⟨I.1.symm,I.2.symm⟩
    subst U Y;obtain⟨a,b,rfl,O,g2⟩:=(show ∃a b,v = .ref a/\lb X.K f a b/\gE X.K f g b from m);exact q a b H f (Ext.refl rc.sub) (qs rc.sub O) (λ_=>O) g2
   | lst j=>
    obtain⟨U,Y⟩:k = .L/\g=j:=by simp[yH,jf]at I;exact⟨I.1.symm,I.2.symm⟩
    subst U Y;obtain⟨a,b,rfl,O,g2⟩:=(show ∃a b,v = .ref a/\kv X.K f a b/\gE X.K f g b from m);exact q a b H f (Ext.refl rc.sub) (rc.sub.seq O) (λz=>nomatch z) g2
   | _=>simp[yH,jf]at I
theorem Zx(h:PE X e (tC v))(r : ∀H,Rep X.K H d v):PV X e (zm d):=jB h λg H Q z=>by obtain⟨a,f,b,rc,I,q⟩:=z;cases I;exact q v H a (Ext.refl rc.sub)<|r a
theorem zg:PV X (.Constant (.int i) j pos) (zm<|.int i):=Zx mf λ_=>(show V.int i = .int i from rfl)
theorem rF:PV X (.Constant (.bool x) j pos) (zm<|.bl x):=Zx rM λ_=>(show V.bl x = .bl x from rfl)
theorem ju:PV X (.Constant (.str x) j pos) (zm<|.str x):=Zx lY λ_=>(show V.str x = .str x from rfl)
noncomputable def rb(K:Bo)(r:R2)(F:D->D->Option D):Prop:=∀b H x y f z d Q,kr b H->Rep K b f x->Rep K b z y->F f z=cI d->(∀v e a,Ext b H a e->Rep K a d v->Q v e)->r x y H Q
theorem zc(h:o.bind f=cI y) : ∃x,o=cI x/\f x=cI y:=by
 cases o with
 | none=>cases h
 | some x=>exact⟨x,rfl,h⟩
theorem Qn{K:Bo}{r:R2}{F:D->D->Option D}{L Z:CO D}(O:rb K r F) : ∀J H Q,tV K (zw F L Z) J H Q->Ik r (tV K L) (tV K Z) J H Q:=λJ H Q U=>by obtain⟨f,b,d,rc,z,q⟩:=U;obtain⟨x,j,z⟩:=zc z;obtain⟨y,Y,z⟩:=zc z;refine⟨f,b,x,rc,j,λn p h x1 k=>⟨h,b,y,rc.ext x1,Y,λo g i I l=>?_⟩⟩;exact O i g n o x y d Q I.sub (k.mono I.s0) l z λv e a x3 m=>q v e a (x1.trans<|I.trans x3) m
theorem wN(z:mu X (B0 op) r)(I:rb X.K r F)(H:PV X a fa)(O:PV X b fb):PV X (.BinOp a op b pos) (zw F fa fb):=
 jB (fj z H O) (Qn I)
theorem cv(z:mu X (ro op) r)(I:rb X.K r F)(H:PV X a fa)(O:PV X b fb)(J:C3 op b=eF):PV X (.Compare a [op] [b] pos) (zw F fa fb):=
 jB (fv z H O J) (Qn I)
theorem vd{d:D}{b:Bool}(h:De d=cI b):d = .bl b:=by cases d<;>simp[De]at h;rw[h]
theorem Qf(I:mu X (ro op) r)(O:rb X.K r F)(J:PV X a fa)(U:PV X b fb)(L:C3 op b=eF):o4 X (.Compare a [op] [b] pos) (sB<|zw F fa fb):=
 Jn (Qg I J U L) λj H Q Y=>by obtain⟨g,i,k,rc,z,q⟩:=Y;obtain⟨d,h,z⟩:=zc z;refine Qn O j H _ ⟨g,i,d,rc,h,λv f e x r=>?_⟩;rw[vd z]at r;exact⟨k,r,q f e x⟩
theorem qm{f:CO D}(h:PV X e f)(O : ∀I,E1 e X.env I=(do let v <- I;G7 e.pos;Dz [v] (truthy v)):=by intro _;rfl):o4 X e (sB f):=
 Jn (lN h O) λl H Q U=>by obtain⟨g,j,k,rc,z,q⟩:=U;obtain⟨d,i,z⟩:=zc z;refine⟨g,j,d,rc,i,λv b a x r=>?_⟩;rw[vd z]at r;exact⟨k,r,q b a x⟩
theorem yY(h:o4 X a f):D4 X (.BoolOp .And [a] pos) f:=eJ h
theorem YQ(h:o4 X a f):D4 X (.BoolOp .Or [a] pos) f:=lB h
theorem Zv{f g:CO Bool}{rest:List hI}(J:o4 X a f)(I:D4 X (.BoolOp .And (b::rest) pos) g):D4 X (.BoolOp .And (a::b::rest) pos) (YH f g):=
 lD (lC J I) λm H Q O=>by
  obtain⟨i,e,k,rc,z,q⟩:=O;obtain⟨c,l,z⟩:=zc z;refine⟨i,e,c,rc,l,λh d x=>?_⟩;cases c with
  | true=>rw[MY rfl]at z ⊢;exact⟨d,e,k,rc.ext x,z,λj U Y=>q j U<|x.trans Y⟩
  | false=>rw[RQ BJ]at z ⊢;cases z;exact q h d x
theorem cp{f g:CO Bool}{rest:List hI}(J:o4 X a f)(I:D4 X (.BoolOp .Or (b::rest) pos) g):D4 X (.BoolOp .Or (a::b::rest) pos) (hJ f g):=
 lD (rD J I) λm H Q O=>by
  obtain⟨i,e,k,rc,z,q⟩:=O;obtain⟨c,l,z⟩:=zc z;refine⟨i,e,c,rc,l,λh d x=>?_⟩;cases c with
  | true=>rw[MY rfl]at z ⊢;cases z;exact q h d x
  | false=>rw[RQ BJ]at z ⊢;exact⟨d,e,k,rc.ext x,z,λj U Y=>q j U<|x.trans Y⟩
theorem xu(J:o4 X a f):o4 X (.UnaryOp .Not a pos) (xf f):=
 Jn (lO J) λh H Q I=>by
  obtain⟨g,d,k,rc,z,q⟩:=I;unfold xf at z;cases e1:f d with
  | none=>rw[e1]at z;cases z
  | some c=>rw[e1]at z;cases z;exact⟨g,d,c,rc,e1,λe b x=>q e b x⟩
theorem Kc(h:D4 X e f):o4 X e f:=h.pt
theorem Q8(h:PV X a f):PV X (.BoolOp op [a] pos) f:=lZ h
theorem Q9{f g:CO D}{rest:List hI}(J:PV X a f)(I:PV X (.BoolOp .And (b::rest) pos) g):PV X (.BoolOp .And (a::b::rest) pos) (lp f g):=
 jB (mh J I) λs H Q O=>by
  obtain⟨k,i,d,rc,z,q⟩:=O;obtain⟨c,h,z⟩:=zc z;obtain⟨U,Y,h⟩:=zc h;refine⟨k,i,U,rc,Y,λv j e x r=>?_⟩;rw[vd h]at r;refine⟨c,r,?_⟩;cases c with
  | true=>rw[MY rfl]at z ⊢;exact⟨e,i,d,rc.ext x,z,λo l m p n=>q o l m (x.trans p) n⟩
  | false=>rw[RQ BJ]at z ⊢;cases z;exact q _ j e x (show V.bl eF = .bl eF from rfl)
theorem lE(J:PV X a f):PV X (.UnaryOp .Not a pos) (pY f):=
 jB (ma J) λi H Q O=>by
  obtain⟨h,e,d,rc,z,q⟩:=O;unfold pY at z;cases e1:f e with
  | none=>rw[e1]at z;cases z
  | some I=>
   rw[e1]at z;refine⟨h,e,I,rc,e1,λv g b x r=>?_⟩;cases I with
   | bl c=>cases z;exact⟨c,r,q _ g b x<|show V.bl (!c) = .bl (!c)from rfl⟩
   | _=>cases z
theorem jS(Z:o4 X c k)(J:PV X a f)(L:PV X b g):PV X (.IfExp c a b pos) (Z1 k f g):=
 jB (aF Z J L) λo H Q m=>by
  obtain⟨j,i,d,rc,z,q⟩:=m;obtain⟨t,l,z⟩:=zc z;refine⟨j,i,t,rc,l,λn e x=>?_⟩;cases t with
  | true=>rw[MY rfl]at z ⊢;exact⟨e,i,d,rc.ext x,z,λI h O U Y=>q I h O (x.trans U) Y⟩
  | false=>rw[RQ BJ]at z ⊢;exact⟨e,i,d,rc.ext x,z,λI h O U Y=>q I h O (x.trans U) Y⟩
theorem fA:Dq X [] zx:=mm jT λe H Q z=>by obtain⟨a,d,b,rc,I,q⟩:=z;cases I;exact q [] H a (Ext.refl rc.sub) gE.nil
theorem aK(J:PV X e f)(U:Dq X es g)(Y:iv (e::es) X.env=(eF,hM e X.env)::iv es X.env:=by rfl):Dq X (e::es) (zb f g):=
 mm (z7 J U Y) λs H Q k=>by
  obtain⟨b,a,p,rc,z,q⟩:=k;obtain⟨x,j,z⟩:=zc z;cases I:g a with
  | none=>rw[I]at z;cases z
  | some r=>
   rw[I]at z;cases z;exact⟨b,a,x,rc,j,λv o h x1 l=>⟨h,a,r,rc.ext x1,I,λn d i O m=>q (v::n) d i (x1.trans O)<|gE.cons (l.mono O.s0) m⟩⟩
theorem jM(h:Dq X es f):PV X (.Tuple es x1 pos) (k6 f):=
 jB (lX h) λn H Q Y=>by
  obtain⟨g,k,d,rc,z,q⟩:=Y;obtain⟨b,i,z⟩:=zc z;by_cases I:b.length<=lim
  ·rw[MY I]at z;cases z
   refine⟨g,k,b,rc,i,λj l m x1 O=>⟨kU (by rw[O.length];exact I),λp U=>?_⟩⟩;exact q _ _ _ (x1.trans<|Ext.alloc x1.sub U _) (show ∃a e,V.ref p = .ref a/\lb X.K _ a e/\gE X.K _ b e from⟨p,j,rfl,lb.of zu,O.mono<|ja (jC x1.sub U) _⟩)
  ·rw[RQ I]at z;cases z
theorem qG(h:Dq X es f):PO X (.List es pos) (qw f):=
 jB (md h) λm H Q i=>by
  obtain⟨a,k,d,rc,I,q⟩:=i;obtain⟨e,g,I⟩:=zc I;by_cases U:e.length<=lim
  ·rw[MY U]at I;cases I
   refine⟨a,k,_,rc,g,λj l b x1 Y=>⟨kU (by rw[Y.length];exact U),λp O=>?_⟩⟩;exact q p j _ b (x1.trans<|Ext.hide x1.sub O _) (by
    cases z:H p with
    | none=>rfl
    | some o=>rw[x1.s1 p o z]at O;cases O) (jC x1.sub O) zu Y
  ·rw[RQ U]at I;cases I
end
noncomputable def Bi(i:Nat)(f:CO D)(γ:Ctx):Option D:=(qb γ[i]?).bind λa=>(f<|γ.set i<|.val<|.lst a).bind λd=>if su d=d6 then cI d else cS
noncomputable def AC(i:Nat)(f:CO Bool)(γ:Ctx):Option Bool:=(qb γ[i]?).bind λa=>f<|γ.set i<|.val<|.lst a
noncomputable def ug(i:Nat)(γ:Ctx):Option Fl:=(qb γ[i]?).map λ_=> .next (γ.set i<|.own [])
noncomputable def xy(z:List D):List D:=(Br z.length).map λ(i:Nat)=>D.tup [.int i,z[i]?.getD .i3]
noncomputable def X6(f:CO D)(γ:Ctx):Option (List D):=(f γ).bind λd=>match d with
 | .tup a=>cI (xy a)
 | _=>cS
noncomputable def yk:List D->Option (List Int)
 | []=>cI []
 | .int i::r=>(yk r).map λl=>i::l
 | _::_=>cS
noncomputable def uc(f:CO D)(g:CO (Sk×List D))(γ:Ctx):Option D:=(f γ).bind λd=>(g γ).bind λa=>(oI d).bind λi=>(yk a.2).map λl=> .bl (decide<|i∈l)
noncomputable def VW(k:Int):List Int->Option Nat
 | []=>cS
 | i::r=>if i=k then cI 0 else (VW k r).map (· + 1)
noncomputable def Bf(f g:CO D)(γ:Ctx):Option D:=(f γ).bind λd=>((g γ).bind oI).bind λk=>match d with
 | .tup a=>(yk a).bind λl=>(VW k l).map λ(j:Nat)=>D.int (j:Int)
 | _=>cS
noncomputable def We(T:Tg)(f:CO (List D))(γ:Ctx):List D->Option (List<|List D)
 | []=>cI []
 | d::ds=>(xj T d γ).bind λz=>(f z).bind λe=>(We T f γ ds).map λr=>e::r
noncomputable def uf(z:CO (List D))(T:Tg)(n:Nat)(H:List Nat)(f:CO (List D))(γ:Ctx):Option (List<|List D):=(z γ).bind λa=>if a.length<=lim then We T f (jx n H γ) a else cS
noncomputable def ZT:Option Cell->Option (List<|List D)
 | some (.nest rows)=>cI rows
 | _=>cS
noncomputable def bZ(γ:Ctx)(j i:Nat)(r:List D):Ctx:=(γ.set j .no).set i (.own r)
noncomputable def Xr(j i:Nat)(g f:CO D)(γ:Ctx):List (List D)->Option (List<|List D)
 | []=>cI []
 | r::rs=>(f<|bZ γ j i r).bind λd=>((g<|bZ γ j i r).bind oI).bind λk=>(o3 r.length k).bind λm=>(Xr j i g f γ rs).map λt=>r.set m d::t
noncomputable def rj(j i:Nat)(g f:CO D)(γ:Ctx):Option Fl:=(ZT γ[j]?).bind λa=>if i=j\/γ.length<=i then cS else (Xr j i g f γ a).map λz=> .next ((γ.set j<|.nest z).set i .no)
noncomputable def Bg(i:Nat)(F:CO Fl)(γ:Ctx):Option Fl:=(qb γ[i]?).bind λa=>F<|γ.set i<|.val<|.lst a
noncomputable def Az(i:Nat)(F:CO Fl)(γ:Ctx):Option Fl:=(ZT γ[i]?).bind λa=>F<|γ.set i<|.val<|.lst<|a.map D.lst
noncomputable def ua(is:List Nat)(f:CO D)(γ:Ctx):Option Fl:=(f γ).bind λd=>match d with
 | .lst a=>if a.length=is.length then cI (.next<|qg is a γ)else cS
 | _=>cS
noncomputable def Z9:List D->Option (List Str)
 | []=>cI []
 | .str x::r=>(Z9 r).map λl=>x::l
 | _::_=>cS
def zY(x:Str):Bool:=decide<|x.length<=1000
noncomputable def dY(f:CO D)(g:CO (Sk×List D))(γ:Ctx):Option D:=(f γ).bind λd=>(g γ).bind λa=>match d,a.1 with
 | .str sep,.L=>(Z9 a.2).bind λl=>if l.length<=lim/\l.all zY=d6/\zY sep=d6 then cI (.str<|HJ sep l)else cS
 | _,_=>cS
noncomputable def wI(f g:CO D)(γ:Ctx):Option D:=(f γ).bind λd=>((g γ).bind oI).bind λi=>match d with
 | .str z=>if zY z=d6 then (o3 z.cps.toList.length i).bind λk=>z.cps.toList[k]?.map λc=> .str ⟨#[c]⟩else cS
 | _=>cS
noncomputable def Jf(f:CO D)(γ:Ctx):Option D:=(f γ).bind λd=>match d with
 | .str z=>if zY z=d6 then cI (.int z.length)else cS
 | _=>cS
noncomputable def AA(k1 z k2 I:Str)(f:CO D)(γ:Ctx):Option D:=(f γ).bind λd=>match d with
 | .str x=>if k1=k2 then cS else if x=k1 then cI (.str z)else if x=k2 then cI (.str I)else cS
 | _=>cS
noncomputable def W8(f g:CO D)(γ:Ctx):Option D:=((f γ).bind oI).bind λi=>((g γ).bind oI).map λj=> .int (if j<i then j else i)
abbrev Xn:=Str×Option Int
def o6:CO Xn:=λ_=>cS
def dw(c:Str):CO Xn:=λ_=>cI (c,cS)
noncomputable def iF(c:Str)(f:CO D):CO Xn:=λa=>((f a).bind oI).bind λi=>if inR i=d6 then cI (c,cI i)else cS
noncomputable def yg(k:CO Bool)(G H:CO Xn):CO Xn:=λa=>(k a).bind λb=>if b=d6 then G a else H a
noncomputable def yv(G:CO Xn)(F:CO Fl)(H:CO Xn):CO Xn:=λb=>match G b with
 | some c=>cI c
 | none=>(F b).bind λz=>match z with
  | .next a=>H a
  | _=>cS
noncomputable def xU(G:List D->Option Xn)(g:CO (List D)):CO Xn:=λa=>(g a).bind G
def YI(n:Nat)(G:CO Xn)(z:List D):Option Xn:=G<|je n z
noncomputable def Qd(c:Str)(f:CO D):CO D:=λa=>(f a).bind λd=>match d with
 | .exc z _=>cI (.bl<|z==c)
 | _=>cS
noncomputable def dZ(f:CO D):CO D:=λa=>(f a).bind λd=>match d with
 | .exc _ _=>cI (.bl d6)
 | _=>cS
noncomputable def ZW(c:Str):Str:=if c==("NoRoom" : Str)then "room" else "at"
noncomputable def ll(nm:Str)(f:CO D):CO D:=λa=>(f a).bind λd=>match d with
 | .exc c (cI n)=>if (ZW c==nm)=d6 then cI (.int n)else cS
 | _=>cS
noncomputable def Qc(f:CO D)(g:CO (Sk×List D)):CO D:=λb=>(f b).bind λd=>(g b).bind λa=>(oI d).bind λi=>(yk a.2).map λl=> .bl (!decide (i∈l))
end DL
namespace DL
open PySem L2
open PySem.W (KasT kas_sort)
def xl(z:Str):List D:=z.cps.toList.map λc=>D.str ⟨#[c]⟩
noncomputable def iZ(f:CO D)(γ:Ctx):Option (List D):=(f γ).bind λd=>match d with
 | .str z=>if zY z=d6 then cI (xl z)else cS
 | _=>cS
noncomputable def yM(f:CO D)(γ:Ctx):Option (List D):=(f γ).bind λd=>match d with
 | .str z=>if zY z=d6 then cI (xy<|xl z)else cS
 | _=>cS
noncomputable def lj(f:CO D)(γ:Ctx):Option (List D):=(f γ).bind λd=>match d with
 | .lst a=>cI (xy a)
 | _=>cS
noncomputable def Ax(f:CO D)(g:CO (Sk×List D))(γ:Ctx):Option D:=(f γ).bind λd=>(g γ).bind λa=>match d with
 | .str x=>(Z9 a.2).map λl=> .bl (l.any λy=>y==x)
 | _=>cS
noncomputable def af(f g:CO D)(γ:Ctx):Option D:=(f γ).bind λd=>(g γ).bind λe=>match d,e with
 | .str x,.str y=>if zY x=d6/\zY y=d6 then cI (.str<|x++y)else cS
 | _,_=>cS
noncomputable def lg(f:CO D)(l h:CO (Option Int))(γ:Ctx):Option D:=(f γ).bind λd=>(l γ).bind λlo=>(h γ).bind λa=>match d with
 | .str z=>if zY z=d6 then cI (.str<|Txt.slice z lo a)else cS
 | _=>cS
noncomputable def nW(f:CO (Sk×List D))(γ:Ctx):Option (List D):=(f γ).bind λa=>match a.1 with
 | .L=>if a.2.length<=lim then cI a.2.reverse else cS
 | _=>cS
noncomputable def fz:D->Option (Int×Int)
 | .tup [.int a,.int b]=>cI (a,b)
 | _=>cS
noncomputable def wU:List D->Option (List<|Int×Int)
 | []=>cI []
 | d::r=>(fz d).bind λp=>(wU r).map λl=>p::l
noncomputable def ou(x y:Int×Int):Bool:=if x.1=y.1 then decide (x.2<y.2)else decide (x.1<y.1)
noncomputable def lr{z:Type}(lt:Nat->Nat->Bool):KasT z->z
 | .ret a=>a
 | .ask i j k=>lr lt<|k<|lt i j
noncomputable def xv(ps:List (Int×Int)):List Nat:=if ps.length<2 then Br ps.length else (lr (λi j=>ou (ps.getD i (0,0))<|ps.getD j (0,0))<|kas_sort ps.length).toList
noncomputable def dJ(z:List D):Option (List D):=(wU z).bind λa=>if z.length<64 then cI ((xv a).map λi=>z.getD i .i3)else cS
noncomputable def YD(f:CO (Sk×List D))(γ:Ctx):Option (List D):=(f γ).bind λa=>match a.1 with
 | .L=>dJ a.2
 | _=>cS
end DL
namespace DL
open PySem L2
noncomputable def ec(i:Nat)(f:CO (List D))(γ:Ctx):Option Fl:=(qb γ[i]?).bind λa=>(f γ).bind λb=>if a.length+b.length<=lim then cI (.next<|γ.set i<|.own<|a++b)else cS
noncomputable def uh(F G:List D->Option Res)(g:CO (List D))(γ:Ctx):Option (List D):=(g γ).bind λl=>match l with
 | [p,.str z,t,b]=>((if z=("r" : Str)then F else G) [p,t,b]).bind rq
 | _=>cS
noncomputable def VM:List D->Option (List Int)
 | []=>cI []
 | .int i::r=>(VM r).map λl=>i::l
 | _::_=>cS
noncomputable def sF(z H:List D):Option D:=match VM z with
 | some a=>if z.length=H.length/\a.Nodup/\z.length<=lim then cI (.o1 z H)else cS
 | none=>cS
noncomputable def JI:List D->List D->Int->Option D
 | k::ks,v::vs,i=>match k with
  | .int j=>if j=i then cI v else JI ks vs i
  | _=>JI ks vs i
 | _,_,_=>cS
open PySem.Spec PyProof.Rows
structure RS(K:Bo)(E0 E H0 H:Hp)(σ:St)(γ:Ctx):Prop where
 rc:RC K H0 H σ γ
 ext:Ext E0 E H0 H
 fresh : ∀(i:Nat) ds a,γ[i]? = cI (.own ds)->σ[i]? = cI (cI (.ref a))->E a=cS
 Dx : ∀(i:Nat) rows a xs,γ[i]? = cI (.nest rows)->σ[i]? = cI (cI (.ref a))->H a=cI (.lst xs)->E a=cS/\∀b,V.ref b∈xs->E b=cS
noncomputable def Sat(K:Bo)(E0 E:Hp)(D:Ends):Fl->Prop
 | .next f=>∀e H b,RS K E0 E b H e f->D.nx e H
 | .brk f=>∀e H b,RS K E0 E b H e f->D.bk e H
 | .cont f=>∀e H b,RS K E0 E b H e f->D.ct e H
 | .ret (.val d)=>∀v H b,Ext E0 E b H->Rep K b d v->D.rt v H
 | .ret (.own es)=>∀a g H b,Ext E0 E b H->E a=cS->b a=cS->H a=cI (.lst g)->gE K b es g->D.rt (.ref a) H
noncomputable def tS(K:Bo)(F:CO Fl):TS:=λD d H=>∃E0 E b a z,RS K E0 E b H d a/\F a=cI z/\Sat K E0 E D z
abbrev o7(X:Cx)(st:l0)(F:CO Fl):Prop:=PS X st (tS X.K F)
abbrev XO(X:Cx)(NH:List l0)(F:CO Fl):Prop:=tx X NH (tS X.K F)
section
variable{K:Bo}{E0 E H0 H t5 H':Hp}{σ:St}{γ:Ctx}
theorem RS.step(r:RS K E0 E H0 H σ γ)(e:Ext H0 H t5 H'):RS K E0 E t5 H' σ γ:=⟨r.rc.ext e,r.ext.trans e,r.fresh,λi b a g d f I=>by obtain⟨O,bs,z,g2,_⟩:=r.rc.C4.1 i b d;rw[f]at z;cases z;have:=e.s1 a _ g2.ha;rw[I]at this;cases this;exact r.Dx i b a _ d f g2.ha⟩
theorem zM{I:Type}{l:List I}{i j:Nat}{x y:I}(h:(l.set i x)[j]? = cI y):(j=i/\y=x/\i<l.length)\/(j≠i/\l[j]? = cI y):=by
 by_cases e:i=j
 ·subst e
  by_cases z:i<l.length
  ·rw[CC z]at h;cases h;exact .inl ⟨rfl,rfl,z⟩
  ·rw[List.set_eq_of_length_le ⋯]at h
   exact absurd (BP.mp h).1 z
 ·rw[BA e]at h;exact .inr ⟨CP e,h⟩
theorem t6.C7{i:Nat}{d:D}{v:V}(n:t6 K H0 H σ γ):t6 K H0 H (σ.set i<|some v) (γ.set i<|.val d):=
 ⟨λj b e=>by
  rcases zM e with⟨_,z,_⟩ | ⟨O,z⟩
  ·cases z
  ·obtain⟨a,bs,l,m,U⟩:=n.1 j b z
   refine⟨a,bs,by rw[BA (CP O)];exact l,m,λk h c f I=>?_⟩;rcases zM f with⟨_,z,_⟩ | ⟨o,g⟩
   ·cases z
   ·rw[BA (CP o)]at I;exact U k h c g I,
 λj k Y p f I=>by
  rcases zM f with⟨_,z,_⟩ | ⟨_,g⟩
  ·cases z
  ·rcases zM I with⟨_,z,_⟩ | ⟨_,r⟩
   ·cases z
   ·exact n.2 j k Y p g r⟩
theorem RC.C7{i:Nat}{d:D}{v:V}(r:RC K H0 H σ γ)(h:Rep K H0 d v):RC K H0 H (σ.set i<|some v) (γ.set i<|.val d):=by
 refine⟨r.sub,by simp[r.len],λj g e=>?_,λj b e=>?_,λj k a b n l m U Y=>?_,r.C4.C7⟩
 ·rcases zM e with⟨rfl,z,f⟩ | ⟨I,z⟩
  ·cases z;exact⟨v,CC (by rw[r.len];exact f),h⟩
  ·obtain⟨p,O,g2⟩:=r.val j g z
   exact⟨p,by rw[BA (CP I)];exact O,g2⟩
 ·rcases zM e with⟨rfl,z,f⟩ | ⟨I,z⟩
  ·cases z
  ·obtain⟨a,s,O,g2⟩:=r.own j b z
   exact⟨a,s,by rw[BA (CP I)];exact O,g2⟩
 ·rcases zM l with⟨_,z,_⟩ | ⟨I,t⟩
  ·cases z
  ·rcases zM m with⟨_,z,_⟩ | ⟨o,u⟩
   ·cases z
   ·rw[BA (CP I)]at U
    rw[BA (CP o)]at Y;exact r.ne j k a b n t u U Y
theorem RS.C7{i:Nat}{d:D}{v:V}(r:RS K E0 E H0 H σ γ)(h:Rep K H0 d v):RS K E0 E H0 H (σ.set i<|some v) (γ.set i<|.val d):=
 ⟨r.rc.C7 h,r.ext,λj f a e I=>by
  rcases zM e with⟨_,z,_⟩ | ⟨O,z⟩
  ·cases z
  ·rw[BA (CP O)]at I;exact r.fresh j f a z I,
 λj b a g e I U=>by
  rcases zM e with⟨_,z,_⟩ | ⟨O,z⟩
  ·cases z
  ·rw[BA (CP O)]at I;exact r.Dx j b a g z I U⟩
theorem vC : ∀{z bs:List eH},z.map V.ref=bs.map V.ref->z=bs
 | [],[],_=>rfl
 | [],_::_,h=>by cases h
 | _::_,[],h=>by cases h
 | a::z,b::bs,h=>by rw[BY,BY]at h;injection h with h1 h2;injection h1 with h1;rw[h1,vC h2]
theorem RS.NF{i:Nat}{Z:List D}{a:eH}{xs:List V}{L G:Hp}(r:RS K E0 E L G σ γ)(e:Ext L G H0 H)(J:G a=cS)(h2:H0 a=cS)(h3:H a=cI (.lst xs))(h4:gE K H0 Z xs) :
 RS K E0 E H0 H (σ.set i<|some (.ref a)) (γ.set i<|.own Z):=by
 have rc:=r.rc.ext e;have no : ∀(j:Nat) f,γ[j]? = cI (.own f)->¬σ[j]? = cI (cI (.ref a)):=λj f g z=>by obtain⟨b,u,I,g2,g3,_⟩:=r.rc.own j f g;rw[z]at I;cases I;rw[J]at g3;cases g3
 refine⟨⟨rc.sub,by simp[rc.len],λj x g=>?_,λj f g=>?_,λj k b f fs t Y h l=>?_,⟨λj d g=>?_,λj k C F I g2=>?_⟩⟩,r.ext.trans e,λj f b I g2=>?_,λj d b xs I g2 g3=>?_⟩
 ·rcases zM g with⟨_,z,_⟩ | ⟨O,z⟩
  ·cases z
  ·obtain⟨M,I,g2⟩:=rc.val j x z
   exact⟨M,by rw[BA (CP O)];exact I,g2⟩
 ·rcases zM g with⟨rfl,z,U⟩ | ⟨O,z⟩
  ·cases z;exact⟨a,xs,CC (by rw[rc.len];exact U),h2,h3,h4⟩
  ·obtain⟨b,u,I,g2⟩:=rc.own j f z
   exact⟨b,u,by rw[BA (CP O)];exact I,g2⟩
 ·rcases zM t with⟨rfl,z,U⟩ | ⟨O,m⟩
  ·rcases zM Y with⟨rfl,_,_⟩ | ⟨n,p⟩
   ·rfl
   ·rw[CC (by rw[rc.len];exact U)]at h
    rw[BA (CP n)]at l;cases h;exact absurd l<|no k fs p
  ·rcases zM Y with⟨rfl,z,U⟩ | ⟨n,p⟩
   ·rw[CC (by rw[rc.len];exact U)]at l
    rw[BA (CP O)]at h;cases l;exact absurd h<|no j f m
   ·rw[BA (CP O)]at h
    rw[BA (CP n)]at l;exact rc.ne j k b f fs m p h l
 ·rcases zM g with⟨_,z,_⟩ | ⟨O,z⟩
  ·cases z
  ·obtain⟨b,bs,I,g2,g3⟩:=r.rc.C4.1 j d z
   obtain⟨P,s,f1,f2,A⟩:=rc.C4.1 j d z;rw[I]at f1;cases f1;have y:s.map V.ref=bs.map V.ref:=by have:=e.s1 b _ g2.ha;rw[f2.ha]at this;injection this with this;injection this
   have w:s=bs:=vC y;subst w;refine⟨b,s,by rw[BA (CP O)];exact I,f2,λk f c t Y=>?_⟩;rcases zM t with⟨rfl,_,U⟩ | ⟨n,m⟩
   ·rw[CC (by rw[rc.len];exact U)]at Y;cases Y
    intro B;obtain⟨_,N,q⟩:=g2.at B;rw[J]at q;cases q
   ·rw[BA (CP n)]at Y;exact A k f c m Y
 ·rcases zM I with⟨_,z,_⟩ | ⟨_,m⟩
  ·cases z
  ·rcases zM g2 with⟨_,z,_⟩ | ⟨_,p⟩
   ·cases z
   ·exact rc.C4.2 j k C F m p
 ·rcases zM I with⟨rfl,z,U⟩ | ⟨O,z⟩
  ·rw[CC (by rw[rc.len];exact U)]at g2;cases g2
   cases q:E a with
   | none=>rfl
   | some o=>rw[r.ext.s1 a o q]at J;cases J
  ·rw[BA (CP O)]at g2;exact r.fresh j f b z g2
 ·rcases zM I with⟨_,z,_⟩ | ⟨O,z⟩
  ·cases z
  ·rw[BA (CP O)]at g2;exact(r.step e).Dx j d b xs z g2 g3
theorem RS.rewrite{i:Nat}{J es:List D}{a:eH}{xs Z:List V}(r:RS K E0 E H0 H σ γ)(L:γ[i]? = cI (.own J))(U:σ[i]? = cI (cI (.ref a)))(h4:gE K H0 es Z) :
 RS K E0 E H0 (upd H a<|.lst Z) σ (γ.set i<|.own es):=by
 obtain⟨G,M,g1,g2,g3,P⟩:=r.rc.own i J L;rw[U]at g1;cases g1;have as:i<γ.length:=(BP.mp L).1;refine⟨⟨λb o q=>?_,by simp[r.rc.len],λj y g=>?_,λj fs g=>?_,λj k b fs gs e I m A=>?_,⟨λj d g=>?_,λj k C F e I=>?_⟩⟩,⟨r.ext.s0,λb o q=>?_,λb o q=>?_,r.ext.new⟩,λj fs b e I=>?_,λj d b t e I m=>?_⟩
 ·rw[zt (λz=>by rw[z,g2]at q;cases q)];exact r.rc.sub b o q
 ·rcases zM g with⟨_,z,_⟩ | ⟨n,z⟩
  ·cases z
  ·exact r.rc.val j y z
 ·rcases zM g with⟨rfl,z,Q⟩ | ⟨n,z⟩
  ·cases z;exact⟨a,Z,U,g2,zu,h4⟩
  ·obtain⟨b,t,O,Y,h,B⟩:=r.rc.own j fs z
   refine⟨b,t,O,Y,?_,B⟩;rw[zt (λq=>n<|r.rc.ne j i a fs J z L (by rw[O,q]) U)];exact h
 ·have w : ∃f,γ[j]? = cI (.own f):=by
   rcases zM e with⟨q,_,_⟩ | ⟨_,z⟩
   ·exact⟨J,by rw[q];exact L⟩
   ·exact⟨fs,z⟩
  have x : ∃f,γ[k]? = cI (.own f):=by
   rcases zM I with⟨q,_,_⟩ | ⟨_,z⟩
   ·exact⟨J,by rw[q];exact L⟩
   ·exact⟨gs,z⟩
  obtain⟨O,l⟩:=w;obtain⟨Y,s⟩:=x;exact r.rc.ne j k b O Y l s m A
 ·rcases zM g with⟨_,z,_⟩ | ⟨n,z⟩
  ·cases z
  ·obtain⟨b,bs,O,Y,h⟩:=r.rc.C4.1 j d z
   have u:=h i J a L U;refine⟨b,bs,O,Y.move (kr.refl _) (λc p=>(Y.at p).1)<|λc p=>zt λq=>u<|q ▸ p,λk fs c e I=>?_⟩;rcases zM e with⟨q,_,_⟩ | ⟨_,l⟩
   ·rw[q,U]at I;cases I;exact u
   ·exact h k fs c l I
 ·rcases zM e with⟨_,z,_⟩ | ⟨_,l⟩
  ·cases z
  ·rcases zM I with⟨_,z,_⟩ | ⟨_,s⟩
   ·cases z
   ·exact r.rc.C4.2 j k C F l s
 ·rw[zt (λz=>by rw[z,r.fresh i J a L U]at q;cases q)];exact r.ext.s1 b o q
 ·rw[zt (λz=>by rw[z,g2]at q;cases q)];exact r.ext.sub b o q
 ·rcases zM e with⟨q,_,_⟩ | ⟨_,z⟩
  ·rw[q]at I;exact r.fresh i J b L I
  ·exact r.fresh j fs b z I
 ·rcases zM e with⟨_,z,_⟩ | ⟨n,z⟩
  ·cases z
  ·obtain⟨N,bs,O,Y,h⟩:=r.rc.C4.1 j d z
   rw[I]at O;cases O;rw[zt (show b≠a from λq=>h i J a L U<|by rw[q];exact BQ)]at m;exact r.Dx j d b t z I m
end
section
variable{X:Cx}{e a b c:hI}{pos:ik}{st:l0}{rest:List l0}
theorem zR:XO X [] jK:=cC eU λD b H z=>by obtain⟨E0,E,a,d,Y,I,O,U⟩:=z;cases O;exact U b H a I
theorem zd{F G:CO Fl}(J:o7 X st F)(L:XO X rest G):XO X (st::rest) (zF F G):=cC (Xa J L) λD k H U=>by
 obtain⟨E0,E,d,h,Y,g,z,I⟩:=U;obtain⟨O,f,z⟩:=zc z;refine⟨E0,E,d,h,O,g,f,?_⟩;cases O with
 | next a=>exact λi j b e=>⟨E0,E,b,a,Y,e,z,I⟩
 | brk a=>cases z;exact I
 | cont a=>cases z;exact I
 | ret r=>cases z;cases r<;>exact I
theorem zh(z:o7 X st F):XO X [st] F:=YW z
theorem zr(h:o.map f=cI y) : ∃x,o=cI x/\f x=y:=by
 cases o with
 | none=>cases h
 | some x=>exact⟨x,rfl,by simpa using h⟩
theorem zA{f:CO D}(h:PV X e f):o7 X (.Return (cI e) pos) (qv f):=ka (YX h) λD k H O=>by obtain⟨E0,E,g,j,Y,I,z,U⟩:=O;obtain⟨d,i,z⟩:=zr z;subst z;exact⟨g,j,d,I.rc,i,λv b a x r=>U v b a (I.ext.trans x) r⟩
theorem xo{f:CO (List D)}(h:PO X e f):o7 X (.Return (cI e) pos) (wo f):=ka (YX h) λD s H O=>by
 obtain⟨E0,E,i,n,p,z,I,U⟩:=O;obtain⟨j,k,I⟩:=zr I;subst I;refine⟨i,n,j,z.rc,k,λa m g b x d l Y r=>U a m g b (z.ext.trans x) ?_ l Y r⟩;cases q:E a with
 | none=>rfl
 | some o=>rw[z.ext.s1 a o q]at d;cases d
theorem qP(i:Nat)(h:PE X e (dE i)):o7 X (.Return (cI e) pos) (yU i):=ka (YX h) λD r H U=>by
 obtain⟨E0,E,j,o,p,I,z,O⟩:=U;unfold yU at z;cases b:o[i]? with
 | none=>rw[b]at z;cases z
 | some c=>
  rw[b]at z;cases c with
  | no=>cases z
  | val d=>
   cases z;obtain⟨v,f,g⟩:=I.rc.val i d b;exact⟨v,f,O v H j I.ext g⟩
  | nest l=>cases z
  | own k=>
   cases z;obtain⟨a,n,f,g,Y,m⟩:=I.rc.own i k b;exact⟨_,f,O a n H j I.ext (I.fresh i k a b f) g Y m⟩
theorem Jo:o7 X (.Continue pos) eo:=ka Qj λD b H ⟨E0,E,a,d,U,z,I,O⟩=>by cases I;exact O b H a z
theorem x9:o7 X st k8:=ka az λD d H ⟨E0,E,a,b,I,O,z,U⟩=>by cases z
theorem jy{k:CO Bool}{F G:CO Fl}{x y:List l0}(Y:o4 X c k)(J:XO X x F)(L:XO X y G):o7 X (.If c x y pos) (m3 k F G):=ka (rJ Y J L) λD h H f=>by
 obtain⟨E0,E,d,b,O,I,z,U⟩:=f;obtain⟨t,e,z⟩:=zc z;refine⟨d,b,t,I.rc,e,λg a x=>?_⟩;cases t with
 | true=>rw[MY rfl]at z ⊢;exact⟨E0,E,a,b,O,I.step x,z,U⟩
 | false=>rw[RQ BJ]at z ⊢;exact⟨E0,E,a,b,O,I.step x,z,U⟩
theorem xP(i:Nat){f:CO D}(h:PS X st (QW (tV X.K f)<|ke i)):o7 X st (jn i f):=ka h λD k H O=>by obtain⟨E0,E,b,g,Y,I,z,U⟩:=O;obtain⟨d,e,z⟩:=zr z;subst z;exact⟨b,g,d,I.rc,e,λv j a x r=>U _ _ a<|(I.step x).C7 r⟩
theorem Zy(i:Nat){f:CO (List D)}(h:PS X st (QW (tO X.K f)<|ke i)):o7 X st (k7 i f):=ka h λD p H O=>by obtain⟨E0,E,d,l,n,I,z,U⟩:=O;obtain⟨e,g,z⟩:=zr z;subst z;exact⟨d,l,e,I.rc,g,λa o m b x j k Y r=>U _ _ b<|I.NF x j k Y r⟩
theorem kl(h:qb o=cI ds):o=cI (.own ds):=by
 cases o with
 | none=>cases h
 | some c=>cases c<;>simp[qb]at h;rw[h]
theorem Ke(i:Nat){f:CO D}(h:PE X e (Mx X.K "list" YN (dE i) (iS (tV X.K f) tZ)))(J:vt e cS pos.line X.env=pure eF:=by rfl):o7 X (.Expr e pos) (kT i f):=
 ka (Qi h J) λD A H s=>by
  obtain⟨E0,E,l,t,w,I,z,m⟩:=s;obtain⟨j,b,z⟩:=zc z;obtain⟨d,p,z⟩:=zc z;have b:=kl b;by_cases O:j.length<lim
  ·rw[MY O]at z;cases z
   obtain⟨a,xs,k,y,U,Y⟩:=I.rc.own i j b;refine⟨_,k,.inl ⟨rfl,_,kv.of U⟩,l,t,d,I.rc,p,λv u g x r=>?_⟩;have n:=I.step x;have o:=x.s1 _ _ U;refine⟨a,xs,v,rfl,rfl,o,?_,?_⟩
   ·exact BF (by rw[Y.length];exact O)<|kU<|BB _
   ·exact m _ _ g<|n.rewrite (xs:=xs) b k<|(Y.mono x.s0).append (gE.cons r gE.nil)
  ·rw[RQ O]at z;cases z
end
noncomputable def Ba(K:Bo)(z H:Hp)(Q:VK):Res->Prop
 | .val d=>∀v e b,Ext z H b e->Rep K b d v->Q v e
 | .own g=>∀a f e b,Ext z H b e->H a=cS->b a=cS->e a=cI (.lst f)->gE K b g f->Q (.ref a) e
noncomputable def u5(K:Bo)(n:Nat)(F:List D->Option Res):Sp:=λd H Q _=>∃a b r,kr a H/\gE K a b d/\b.length=n/\F b=cI r/\Ba K a H Q r
theorem u5.len{K:Bo}{n:Nat}{F:List D->Option Res}{ps:List Str}(z:ps.length=n) : ∀vs H Q E,u5 K n F vs H Q E->vs.length=ps.length:=λvs H Q E h=>by obtain⟨d,e,r,_,a,b,_⟩:=h;rw[a.length,b,z]
section
variable{P:i8}{w:i5}{K:Bo}{mg:MJ}{base:ia}
theorem Zt(s:kr H0 H)(h:gE K H0 ds vs)(J:ds.length<=N.length):RS K H0 H H0 H (yA N vs) (je N.length ds):=by
 have z:=h.length;refine⟨⟨s,by simp[L2.yA,je,z],λi d e=>?_,λi g e=>?_,λi j a g fs e _ _ _=>?_,t6.IV λi f e=>?_⟩,Ext.refl s,λi g a e _=>?_,λi f a l e _ _=>?_⟩
 all_goals unfold je at e
 ·by_cases b:i<ds.length
  ·rw[Ck (by simpa using b),Ce]at e
   cases e1:ds[i]? with
   | none=>rw[e1]at e;cases e
   | some k=>
    rw[e1]at e;cases e;obtain⟨x,I,g2⟩:=h.get e1;refine⟨x,?_,g2⟩;unfold L2.yA;rw[Ck (by simp;omega),Ce,I];rfl
  ·rw[BW (by simpa using b),Fw]at e
   split at e<;>cases e
 all_goals
  by_cases b:i<ds.length
  ·rw[Ck (by simpa using b),Ce]at e
   cases e1:ds[i]? with
   | none=>rw[e1]at e;cases e
   | some k=>rw[e1]at e;cases e
  ·rw[BW (by simpa using b),Fw]at e
   split at e<;>cases e
theorem gy{x qual:Str}{st:l0}{f:eH}{L:ts}{N ps:List Str}{k:Nat}{F:CO Fl}(U:L2.B5 K x qual st f L)(S:E7 N ps (zB st))
 (Y : ∀(J:eM) (A:l9) (outer:List mr) (s:hA) (H:Hp) (E:XK),q7 k (A.deeper<|envOfC qual (zB st) s.heap.objs.size f J)->XO (Z2 t2 P w K mg base N qual (zB st) f J A outer s H E).o9 (jN st) F) :
 t4 P w K mg base t2 (k+1) f L ps (u5 K ps.length<|jg N.length F):=by
 refine U.ok S (u5.len rfl)<|λJ A outer s H B Q E m h=>⟨_,Y J A outer s H E m,?_⟩;obtain⟨b,g,r,o,j,u,l,I⟩:=h;obtain⟨O,i,z⟩:=zc l;have t:ps.length<=N.length:=by have:=congrArg List.length S.pre;rw[EG]at this;omega
 refine⟨b,H,b,je N.length g,O,Zt o j ⋯,i,?_⟩;cases O with
 | ret y=>cases z;cases r<;>exact I
 | next d=>cases z;exact λp e a n=>I .i3 e a n.ext (show V.i3 = .i3 from rfl)
 | brk d=>cases z
 | cont d=>cases z
end
section
variable{X:Cx}{es:List hI}{pos p:ik}{k:Nat}{f:eH}{fd:ts}{ps:List Str}{x:Str}{F:List D->Option Res}{g:CO (List D)}
theorem eP{A0:List hI}(G:t4 X.prog X.w X.K X.mg X.base t2 k f fd ps (u5 X.K ps.length F))(L:Dq X es g)(hl : ∀γ J,g γ=cI J->J.length=ps.length)
 (Z : ∀{t:TA},PA X es t->PE X (.Call (.Name x p) es [] pos) (dG (u5 X.K ps.length F) [] E0 t)):PV X (.Call (.Name x p) es [] pos) (zq F g):=
 jB (Z L) λC H Q s=>by
  obtain⟨j,γ,d,rc,z,q⟩:=s;obtain⟨J,h,z⟩:=zc z;obtain⟨r,m,z⟩:=zr z;refine⟨j,γ,J,rc,h,λB A l x1 u=>⟨l,J,r,x1.sub,by simpa using u,hl γ J h,m,?_⟩⟩;subst z;cases r with
  | val d=>exact λv e b I O=>q v e b (x1.trans I) O
  | own fs=>
   refine λa y e b I n i o O=>q _ e _ (x1.trans<|I.show n i o x1.sub) ?_;exact(show ∃U Y,V.ref a = .ref U/\kv X.K _ U Y/\gE X.K _ fs Y from⟨a,y,rfl,kv.of zu,O.mono<|ja i _⟩)
theorem ff(G:t4 X.prog X.w X.K X.mg X.base t2 k f fd ps (u5 X.K ps.length F))(L:Dq X es g)(O : ∀γ J,g γ=cI J->J.length=ps.length)
 (U : ∀{t:TA},PA X es t->PE X (.Call (.Name x p) es [] pos) (dG (u5 X.K ps.length F) [] E0 t)):PO X (.Call (.Name x p) es [] pos) (qi F g):=
 jB (U L) λM H Q Y=>by
  obtain⟨j,γ,fs,rc,I,q⟩:=Y;obtain⟨J,e,I⟩:=zc I;obtain⟨r,m,I⟩:=zc I;refine⟨j,γ,J,rc,e,λE C l x1 u=>⟨l,J,r,x1.sub,by simpa using u,O γ J e,m,?_⟩⟩;cases r with
  | val d=>cases I
  | own gs=>
   cases I;exact λa B i b A h n s y=>q a B i b (x1.trans A) (by
    cases z:H a with
    | none=>rfl
    | some o=>rw[x1.s1 a o z]at h;cases h) n s y
end
structure Walk(K:Bo)(H0 Hs:Hp)(J:It)(ds:List D):Prop where
 go : ∀i H1,kr Hs H1->i<ds.length->J.go i H1
 stop : ∀H1,kr Hs H1->J.stop ds.length H1
 DK : ∀i H1 x LX,kr Hs H1->i<ds.length->J.DK i H1 x LX->∃d,ds[i]? = cI d/\∀G0,kr H0 G0->kr G0 H1->∃LW,Ext G0 H1 LW LX/\Rep K LW d x
theorem Walk.weak{K:Bo}{H I z:Hp}{J:It}{L:List D}(w:Walk K H I J L)(s:kr I z):Walk K H z J L:=
 ⟨λi a h=>w.go i a<|s.trans h,λa h=>w.stop a<|s.trans h,λi a x b h=>w.DK i a x b<|s.trans h⟩
theorem Zm{k:Sk}{K:Bo}{H J:Hp}{a:eH}{xs:List V}{Y:List D}(h:ow k K J a xs)(r:gE K H Y xs):Walk K H J (LY k K a) Y:=by
 have U:=r.length;refine⟨λi b s m=>?_,λb s=>?_,λi b x f s m y=>?_⟩
 ·have z:i<xs.length:=by omega
  cases k with
  | L=>exact⟨xs,xs[i],s.seq h,Bx z⟩
  | T=>exact⟨xs,xs[i],qs s h,Bx z⟩
 ·cases k with
  | L=>exact⟨xs,s.seq h,by omega⟩
  | T=>exact⟨xs,qs s h,by omega⟩
 ·have e:f=b/\xs[i]? = cI x:=by
   cases k with
   | L=>exact⟨y.1,y.2 xs<|s.seq h⟩
   | T=>exact⟨y.1,y.2 xs<|qs s h⟩
  obtain⟨j,I⟩:=e;subst j;obtain⟨d,l,O⟩:=r.F9 I;exact⟨d,l,λg n o=>⟨g,Ext.refl o,O.mono n⟩⟩
theorem yC(lo:Int)(n:Nat):(kL lo n).length=n:=by simp[kL]
theorem wB{K:Bo}{H I:Hp}(lo:Int)(n:Nat):Walk K H I (HU lo n) (kL lo n):=by
 refine⟨λi b s a=>?_,λb s=>?_,λi b x e s a y=>?_⟩
 ·rw[yC]at a;exact a
 ·rw[yC];exact BB _
 ·rw[yC]at a
  obtain⟨f,z⟩:=y;subst f z;exact⟨.int<|lo+i,by simp[kL,a],λd h g=>⟨d,Ext.refl g,(show V.int (lo+i) = .int (lo+i)from rfl)⟩⟩
theorem WY{k1 k2:Sk}{K:Bo}{Z Hs:Hp}{a b:eH}{xs L:List V}{H J:List D}(h1:ow k1 K Hs a xs)(I:gE K Z H xs)(h2:ow k2 K Hs b L)(O:gE K Z J L) :
 Walk K Z Hs (Lf k1 k2 K a b) (WI H J):=by
 have B:=I.length;have C:=O.length;have A:(WI H J).length=min H.length J.length:=by simp[WI]
 refine⟨λi f s t=>?_,λf s=>?_,λi f x j s t y=>?_⟩
 ·exact⟨xs,L,Je s h1,Je s h2,by omega,by omega⟩
 ·refine⟨xs,L,Je s h1,Je s h2,?_⟩
  rw[A];omega
 ·obtain⟨p,u,v,m,z,n,g1,g2⟩:=y
  obtain⟨d,r,w⟩:=I.F9<|g1 xs<|Je s h1;obtain⟨c,o,k⟩:=O.F9<|g2 L<|Je s h2;refine⟨.tup [d,c],?_,λh g e=>⟨upd h p<|.tup [u,v],?_,?_⟩⟩
  ·have l:(H.zip J)[i]? = cI (d,c):=List.getElem?_zip_eq_some.mpr ⟨r,o⟩
   simp[WI,l]
  ·rw[n];exact Ext.alloc e z _
  ·rw[m]
   exact(show ∃U Y,V.ref p = .ref U/\lb K _ U Y/\gE K _ [d,c] Y from⟨p,[u,v],rfl,lb.of zu,gE.cons ((w.mono g).mono (ja (jC e z) _))<|gE.cons ((k.mono g).mono (ja (jC e z) _)) gE.nil⟩)
noncomputable def Mz(K:Bo)(z:CO (List D)):TI:=λg H R=>∃d f e,RC K d H g f/\z f=cI e/\∀J b a,Ext d H a b->Walk K a b J e->R J b
noncomputable def LK(K:Bo)(z:CO (List D)):TI:=λg H R=>∃d f e,RC K d H g f/\z f=cI e/\∀J b a,Ext d H a b->Walk K a a J e->R J b
abbrev A9(X:Cx)(tg e:hI)(src:CO (List D)):Prop:=PI X tg e (Mz X.K src)
abbrev ov(X:Cx)(tg e:hI)(src:CO (List D)):Prop:=PI X tg e (LK X.K src)
section
variable{X:Cx}{tg e a b:hI}{pos p:ik}
theorem ov.c(h:ov X tg e src):A9 X tg e src:=Jq h λi H R ⟨d,g,f,rc,z,q⟩=>⟨d,g,f,rc,z,λJ b a x w=>q J b a x<|w.weak x.sub⟩
theorem jo(h:PQ X e f):A9 X tg e (zQ f):=Jq (cG h) λp H R z=>by obtain⟨i,n,o,rc,I,q⟩:=z;obtain⟨⟨k,l⟩,j,O⟩:=zr I;subst O;exact⟨i,n,k,l,rc,j,λa m g b x d _ r=>⟨a,k,rfl,⟨m,d⟩,q _ g b x<|Zm d r⟩⟩
theorem Qk(h:PV X e f):ov X tg e (zQ<|zT f):=Jq (cG h) λt H R O=>by
 obtain⟨o,p,s,rc,U,q⟩:=O;obtain⟨⟨k,l⟩,g,z⟩:=zr U;subst z;obtain⟨d,Y,g⟩:=zc g;refine⟨o,p,d,rc,Y,λv n b x r=>?_⟩;cases d with
 | tup fs=>
  obtain⟨z,I⟩:k = .T/\l=fs:=by simp[jf]at g;exact⟨g.1.symm,g.2.symm⟩
  subst z I;obtain⟨a,i,rfl,j,m⟩:=(show ∃a i,v = .ref a/\lb X.K b a i/\gE X.K b l i from r);exact⟨a,.T,rfl,⟨i,qs x.sub j⟩,q _ n b x<|Zm (k:= .T) j m⟩
 | lst fs=>
  obtain⟨z,I⟩:k = .L/\l=fs:=by simp[jf]at g;exact⟨g.1.symm,g.2.symm⟩
  subst z I;obtain⟨a,i,rfl,j,m⟩:=(show ∃a i,v = .ref a/\kv X.K b a i/\gE X.K b l i from r);exact⟨a,.L,rfl,⟨i,x.sub.seq j⟩,q _ n b x<|Zm (k:= .L) j m⟩
 | _=>simp[jf]at g
theorem jm(h:oI d=cI i):d = .int i:=by cases d<;>simp[oI]at h;rw[h]
theorem ZG(h:inR i=d6) : -(2 ^ 62)<=i/\i<2 ^ 62:=by unfold inR at h;have h:=of_decide_eq_true h;omega
theorem Ki(O:Gl X "range")(L:X.mg "range" = cS)(J:PV X a f)(I:iv [a] X.env=[(eF,hM a X.env)]:=by rfl):ov X tg (.Call (.Name "range" p) [a] [] pos) (jz f):=
 Jq (Y4 O L (z7 J jT I) I) λo H R U=>by
  obtain⟨i,l,m,rc,z,q⟩:=U;obtain⟨n,e,z⟩:=zc z;obtain⟨d,Y,e⟩:=zc e;by_cases g:inR n=d6
  ·rw[MY g]at z;cases z
   refine⟨i,l,d,rc,Y,λv h b x r=>?_⟩;rw[jm e]at r;obtain⟨j,k⟩:=ZG g;exact⟨n,by rw[show v = .int n from r],j,k,q _ h b x<|wB 0 n.toNat⟩
  ·rw[RQ g]at z;cases z
theorem Kh(Z:Gl X "range")(hm:X.mg "range" = cS)(J:PV X a f)(L:PV X b g)(U:iv [a,b] X.env=[(eF,hM a X.env),(eF,hM b X.env)]:=by rfl)(I:iv [b] X.env=[(eF,hM b X.env)]:=by rfl) :
 ov X tg (.Call (.Name "range" p) [a,b] [] pos) (Zs f g):=
 Jq (Y3 Z hm (z7 J (z7 L jT I)<|by rw[U,I]) U I) λK H R B=>by
  obtain⟨k,j,G,rc,z,q⟩:=B;obtain⟨m,i,z⟩:=zc z;obtain⟨d,s,i⟩:=zc i;obtain⟨n,O,z⟩:=zc z;obtain⟨c,t,O⟩:=zc O;by_cases e:inR m=d6/\inR n=d6
  ·rw[MY e]at z;cases z
   refine⟨k,j,d,rc,s,λv F h x r=>⟨h,j,c,rc.ext x,t,λC l o E Y=>?_⟩⟩;rw[jm i]at r;rw[jm O]at Y;obtain⟨u,w⟩:=ZG e.1;obtain⟨y,A⟩:=ZG e.2;exact⟨m,n,by rw[show v = .int m from r,show C = .int n from Y],⟨u,w,y,A⟩,q _ l o (x.trans E)<|wB m (n - m).toNat⟩
  ·rw[RQ e]at z;cases z
theorem Yz{K:Bo}{H:Hp}{d:D}{v:V}{k:Sk}{I:List D}(r:Rep K H d v)(e:jf d=cI (k,I)) : ∃a xs,v = .ref a/\ow k K H a xs/\gE K H I xs:=by
 cases d with
 | tup fs=>simp[jf]at e;obtain⟨b,z⟩:=e;subst b z;exact r
 | lst fs=>simp[jf]at e;obtain⟨b,z⟩:=e;subst b z;exact r
 | _=>simp[jf]at e
theorem fg{f g:CO D}{J:List hI}{x1:Nat}{L:ik}(hg:Gl X "zip")(hm:X.mg "zip" = cS)(Z:PV X a f)(hb:PV X b g)(Y:iv [a,b] X.env=[(eF,hM a X.env),(eF,hM b X.env)]:=by rfl)(O:iv [b] X.env=[(eF,hM b X.env)]:=by rfl) :
 ov X (.Tuple J x1 L) (.Call (.Name "zip" p) [a,b] [] pos) (iY f g):=
 Jq (lT hg hm (z7 Z (z7 hb jT O)<|by rw[Y,O]) PyProof.Rows.boot_zip Y O) λN H R y=>by obtain⟨j,i,K,rc,z,q⟩:=y;obtain⟨⟨A,m⟩,h,z⟩:=zc z;obtain⟨d,t,h⟩:=zc h;obtain⟨⟨B,n⟩,U,z⟩:=zr z;obtain⟨c,u,U⟩:=zc U;subst z;refine⟨j,i,d,rc,t,λv G e x r=>⟨e,i,c,rc.ext x,u,λM k s I C=>?_⟩⟩;obtain⟨l,E,rfl,g1,g2⟩:=Yz (r.mono I.s0) h;obtain⟨o,F,rfl,g3,w⟩:=Yz C U;exact⟨A,B,l,o,rfl,⟨E,Je I.sub g1⟩,⟨F,Je I.sub g3⟩,q _ k s (x.trans I)<|WY g1 g2 g3 w⟩
end
noncomputable def Q1:List Nat->List V->St->St
 | i::is,v::vs,σ=>Q1 is vs<|σ.set i<|some v
 | _,_,σ=>σ
def gs:List Nat->FI
 | []=>ux
 | i::is=>ni (ke i)<|gs is
noncomputable def wy(K:Bo):Tg->TG
 | .nm i=>ke i
 | .tp is=>uw K is.length<|gs is
theorem VR : ∀{is:List Nat} {vs:List V} {z:St} {H:Hp} {Q:St->Hp->Prop},vs.length=is.length->Q (Q1 is vs z) H->gs is vs z H Q
 | [],[],_,_,_,_,q=>⟨rfl,q⟩
 | i::is,v::vs,z,H,Q,hl,q=>⟨v,vs,rfl,VR (by simpa using hl) q⟩
 | [],_::_,_,_,_,hl,_=>by simp at hl
 | _::_,[],_,_,_,hl,_=>by simp at hl
theorem RS.Ih{K:Bo}{E0 E J H:Hp} : ∀{is:List Nat} {z:List D} {vs:List V} {I:St} {γ:Ctx},RS K E0 E J H I γ->gE K J z vs->RS K E0 E J H (Q1 is vs I) (qg is z γ)
 | [],z,vs,I,γ,r,h=>by cases z<;>cases vs<;>exact r
 | i::is,[],vs,I,γ,r,h=>by rw[h.xb];exact r
 | i::is,d::z,vs,I,γ,r,h=>by obtain⟨x,t,e,a,b⟩:=h.r9;subst e;show RS K E0 E J H (DL.Q1 is t<|I.set i<|some x) (qg is z<|γ.set i<|.val d);exact RS.Ih (r.C7 a) b
theorem RC.Ih{K:Bo}{J H:Hp} : ∀{is:List Nat} {z:List D} {vs:List V} {I:St} {γ:Ctx},RC K J H I γ->gE K J z vs->RC K J H (Q1 is vs I) (qg is z γ)
 | [],z,vs,I,γ,r,h=>by cases z<;>cases vs<;>exact r
 | i::is,[],vs,I,γ,r,h=>by rw[h.xb];exact r
 | i::is,d::z,vs,I,γ,r,h=>by obtain⟨x,t,e,a,b⟩:=h.r9;subst e;show RC K J H (DL.Q1 is t<|I.set i<|some x) (qg is z<|γ.set i<|.val d);exact RC.Ih (r.C7 a) b
theorem vS{K:Bo}{J H:Hp}{T:Tg}{d:D}{v:V}{L:St}{γ z:Ctx}{Q:St->Hp->Prop}(s:kr J H)(h:Rep K J d v)(e:xj T d γ=cI z)
 (q : ∀I,(RC K J H L γ->RC K J H I z)->(∀E0 E,RS K E0 E J H L γ->RS K E0 E J H I z)->Q I H):wy K T v L H Q:=by
 cases T with
 | nm i=>cases e;exact q _ (λr=>r.C7 h) λE0 E r=>r.C7 h
 | tp is=>
  cases d with
  | tup g=>
   simp only[xj]at e;by_cases O:g.length=is.length
   ·rw[MY O]at e;cases e
    obtain⟨a,b,rfl,j,f⟩:=(show ∃a b,v = .ref a/\lb K J a b/\gE K J g b from h);have U:b.length=is.length:=by rw[f.length,O]
    exact⟨a,b,rfl,qs s j,U,VR U<|q _ (λr=>r.Ih f) λE0 E r=>r.Ih f⟩
   ·rw[RQ O]at e;cases e
  | _=>simp[xj]at e
theorem Ext.rebase{E0 E z I H B:Hp}(e:Ext E0 E z B)(x:Ext z E I H):Ext E0 E I H:=
 ⟨e.s0.trans x.s0,x.s1,x.sub,λa d b=>x.new a (e.new a d b) b⟩
theorem Ext.base{E0 E z B:Hp}(e:Ext E0 E z B):Ext z E z B:=⟨kr.refl _,e.s1,e.sub,λa h _=>h⟩
theorem Sat.rebase{K:Bo}{E0 E I B:Hp}{D:Ends}{z:Fl}(e:Ext E0 E I B)(h:Sat K E0 E D z):Sat K I E D z:=by
 cases z with
 | next g=>exact λf H b r=>h f H b ⟨r.rc,e.rebase r.ext,r.fresh,r.Dx⟩
 | brk g=>exact λf H b r=>h f H b ⟨r.rc,e.rebase r.ext,r.fresh,r.Dx⟩
 | cont g=>exact λf H b r=>h f H b ⟨r.rc,e.rebase r.ext,r.fresh,r.Dx⟩
 | ret r=>
  cases r with
  | val d=>exact λv H b x q=>h v H b (e.rebase x) q
  | own l=>exact λa k H b x i j O q=>h a k H b (e.rebase x) i j O q
section
variable{X:Cx}{tg iter:hI}{body:List l0}{pos:ik}
theorem eV{L:CO (List D)}{T:Tg}{F:CO Fl}(hp:L5 (hH X.prog X.w) X.A X.env X.xe)(hc:X.calm=d6)(Z:ov X tg iter L)(hg:PG X tg (wy X.K T))(hb:XO X body F)
 (hs : ∀x,vp iter X.env x=pure x:=by intro _;rfl):o7 X (.For tg iter body [] pos) (Jg L T F):=
 ka (lQ hp hc Z hg hb hs) λD j H hZ=>by
  obtain⟨E0,E,g,b,I,O,z,Y⟩:=hZ;obtain⟨a,S,z⟩:=zc z;refine⟨g,b,a,O.rc,S,λJ H1 U x1 p=>?_⟩;have Ig:=O.step x1;have B:=Ig.ext;refine⟨λi m j H=>m=a.length - i/\i<=a.length/\∃g b I,RS X.K U E g H j b/\qM T F (a.drop i) b=cI I/\Sat X.K U E D I,⟨_,rfl,Eo _,U,b,I,⟨Ig.rc,B.base,Ig.fresh,Ig.Dx⟩,z,Y.rebase B⟩,?_⟩;rintro i m j H ⟨rfl,Z,g,b,I,O,z,Y⟩;have k:kr U H:=O.ext.s0.trans O.ext.sub;by_cases h:i<a.length
  ·refine .inr ⟨p.go i H k h,λj H=>i+1<=a.length/\∃g b I,RS X.K U E g H j b/\qM T F (a.drop<|i+1) b=cI I/\Sat X.K U E D I,λNS u n=>⟨a.length - (i+1),by omega,rfl,n.1,n.2⟩,λx u y=>?_⟩
   obtain⟨d,C,hx⟩:=p.DK i H x u k h y;obtain⟨M,G,rg⟩:=hx g O.ext.s0 O.rc.sub;have P:a.drop i=d::a.drop (i+1):=by
    have Q:d=a[i]:=by rw[Bx h]at C;exact(Cd C).symm
    rw[Q];exact List.drop_eq_getElem_cons h
   rw[P]at z;simp only[qM]at z;obtain⟨s,eb,z⟩:=zc z;obtain⟨f1,W,z⟩:=zc z;refine vS G.sub rg eb λMN _ R=>⟨U,E,M,s,f1,R U E<|O.step G,W,?_⟩;cases f1 with
   | next f=>exact λt N l o=>⟨h,l,f,I,o,z,Y⟩
   | cont f=>exact λt N l o=>⟨h,l,f,I,o,z,Y⟩
   | brk f=>cases z;exact Y
   | ret r=>cases z;cases r<;>exact Y
  ·have e:i=a.length:=by omega
   subst e;rw[List.drop_length]at z;cases z;exact .inl ⟨p.stop H k,Y j H g O⟩
end
theorem qT(h:(jx n fr γ)[i]? = cI c):c = .no\/(∃d j,c = .val d/\n<=i/\fr[i - n]? = cI j/\γ[j]? = cI (.val d)):=by
 unfold jx at h;by_cases b:i<n
 ·rw[Ck (by simpa using b),Fw,MY b]at h
  exact .inl (Cd h).symm
 ·rw[BW (by simpa using b),Ce,List.length_replicate]at h
  cases e:fr[i - n]? with
  | none=>rw[e]at h;cases h
  | some j=>
   rw[e]at h;have a:qx (γ[j]?.getD .no)=c:=by simpa using h
   cases e2:γ[j]? with
   | none=>rw[e2]at a;exact .inl a.symm
   | some z=>
    rw[e2]at a;cases z with
    | no=>exact .inl a.symm
    | own g=>exact .inl a.symm
    | nest f=>exact .inl a.symm
    | val d=>exact .inr ⟨d,j,a.symm,by omega,rfl,e2⟩
theorem RC.pull{K:Bo}{L H:Hp}{Y:St}{γ:Ctx}{own:List Str}{J:List (Str×Nat)}(r:RC K L H Y γ):RC K L H (L2.cz own J Y) (jx own.length (J.map (·.2)) γ):=by
 refine⟨r.sub,by simp[L2.cz,jx],λi d h=>?_,λi e h=>?_,λi j a e k h _ _ _=>?_,t6.IV λi b h=>?_⟩
 ·rcases qT h with z | ⟨d',j,z,hi,I,O⟩
  ·cases z
  ·cases z
   obtain⟨v,f,g⟩:=r.val j d O;refine⟨v,?_,g⟩;rw[Ce]at I;cases q:J[i - own.length]? with
   | none=>rw[q]at I;cases I
   | some p=>
    rw[q]at I;have U:p.2=j:=by simpa using I
    unfold L2.cz;rw[BW (by simpa using hi),Ce,Cb,q];simp[U,f]
 ·rcases qT h with z | ⟨d',j,z,_⟩<;>cases z
 ·rcases qT h with z | ⟨d',j,z,_⟩<;>cases z
 ·rcases qT h with z | ⟨d',j,z,_⟩<;>cases z
theorem RC.weak{K:Bo}{Y H:Hp}{Z:St}{γ γ':Ctx}(r:RC K Y H Z γ)(I:γ'.length=γ.length)(O : ∀(i:Nat) d,γ'[i]? = cI (.val d)->γ[i]? = cI (.val d))(z : ∀(i:Nat) J,γ'[i]? ≠ cI (.own J))(U : ∀(i:Nat) L,γ'[i]? ≠ cI (.nest L)):RC K Y H Z γ':=
 ⟨r.sub,by rw[I];exact r.len,λi d h=>r.val i d<|O i d h,λi J h=>absurd h<|z i J,λi j a J b h _ _ _=>absurd h<|z i J,t6.IV U⟩
theorem RC.upd{K:Bo}{Y H:Hp}{Z:St}{γ:Ctx}{D:eH}{o:HO}(r:RC K Y H Z γ)(h0:Y D=cS)(I : ∀(i:Nat) J,γ[i]? ≠ cI (.own J))(O : ∀(i:Nat) L,γ[i]? ≠ cI (.nest L)):RC K Y (upd H D o) Z γ:=
 ⟨λb u q=>by rw[zt (λz=>by rw[z,h0]at q;cases q)];exact r.sub b u q,r.len,r.val,λi J h=>absurd h<|I i J,λi j a J d h _ _ _=>absurd h<|I i J,t6.IV O⟩
theorem vj : ∀{is:List Nat} {z:List D} {γ:Ctx},(qg is z γ).length=γ.length
 | [],z,γ=>by cases z<;>rfl
 | i::is,[],γ=>rfl
 | i::is,d::z,γ=>by show(qg is z<|γ.set i<|.val d).length=_;rw[vj];simp
theorem vk : ∀{is:List Nat} {H:List D} {γ:Ctx} {i:Nat},i∉is->(qg is H γ)[i]? = γ[i]?
 | [],H,γ,i,_=>by cases H<;>rfl
 | j::is,[],γ,i,_=>rfl
 | j::is,d::H,γ,i,h=>by show(qg is H<|γ.set j<|.val d)[i]? = _;rw[vk (λz=>h<|BL _ z),BA (λz=>h<|by rw[<- z];exact BQ)]
theorem Wq(h:xj T d γ=cI Iy):Iy.length=γ.length/\∀i,i∉T.idx->Iy[i]? = γ[i]? :=by
 cases T with
 | nm j=>cases h;exact⟨by simp,λi a=>BA<|λz=>a<|by simp[Tg.idx,z]⟩
 | tp is=>
  cases d with
  | tup b=>
   simp only[xj]at h;by_cases I:b.length=is.length
   ·rw[MY I]at h;cases h;exact⟨vj,λi a=>vk a⟩
   ·rw[RQ I]at h;cases h
  | _=>simp[xj]at h
section
variable{K:Bo}{own:List Str}{fr:List (Str×Nat)}{src:CO (List D)}{T:Tg}{k:CO Bool}{f:CO D}
theorem yo(hT : ∀i∈T.idx,i<own.length)(c6 : ∀L H Q,tT K k L H Q->tt L H Q) : ∀L H Q,tO K (zN src T own.length (fr.map (·.2)) k f) L H Q->W2 (Mz K src) own fr (wy K T) tt (tV K f) L H Q:=λL H Q hZ=>by
 obtain⟨H0,t,ds,rc,Y,q⟩:=hZ;obtain⟨O,e1,Y⟩:=zc Y;by_cases hl:O.length<=lim
 ·rw[MY hl]at Y
  refine⟨H0,t,O,rc,e1,λJ H1 P x1 wk D A=>?_⟩;have R : ∀(i:Nat) es,(jx own.length (fr.map (·.2)) t)[i]? ≠ cI (.own es):=λi es h=>by rcases qT h with z | ⟨d',j,z,_⟩<;>cases z
  have S : ∀(i:Nat) B,(jx own.length (fr.map (·.2)) t)[i]? ≠ cI (.nest B):=λi es h=>by rcases qT h with z | ⟨d',j,z,_⟩<;>cases z
  have b0:P D=cS:=jC x1.sub A;have c8:H D=cS:=by
   cases z:H D with
   | none=>rfl
   | some o=>rw[x1.s1 D o z]at A;cases A
  refine⟨λi m l E g=>m=O.length - i/\i<=O.length/\l.length<=i/\g D=cI (.lst l)/\∃a u G,RC K a g E (jx own.length (fr.map (·.2)) t)/\a D=cS/\Ext P H1 a g/\gE K a u l/\zU T k f (jx own.length (fr.map (·.2)) t) (O.drop i)=cI G/\ds=u++G,
   ⟨_,rfl,Eo _,BB _,zu,P,[],ds,((rc.ext x1).pull).upd b0 R S,b0,Ext.hide x1.sub A _,gE.nil,Y,rfl⟩,?_⟩
  rintro i m l E g ⟨rfl,hi,hy,M,a,u,G,W,bb,s,r',I,rfl⟩;refine⟨M,?_⟩;by_cases p:i<O.length
  ·refine .inr ⟨wk.go i g s.s1 p,?_,λx X y=>?_⟩
   ·have:=kU<|BB lim;omega
   obtain⟨d,hd,hx⟩:=wk.DK i g x X s.s1 p y;obtain⟨G0,U,rg⟩:=hx a s.s0 W.sub;have cb:O.drop i=d::O.drop (i+1):=by
    have cc:d=O[i]:=by rw[Bx p]at hd;exact(Cd hd).symm
    rw[cc];exact List.drop_eq_getElem_cons p
   rw[cb]at I;simp only[zU]at I;obtain⟨n,eb,I⟩:=zc I;obtain⟨b,ek,I⟩:=zc I;have cf:G0 D=cS:=U.new D bb (by rw[M];simp);have be:X D=cI (.lst l):=U.s1 _ _ M;obtain⟨bl,bg⟩:=Wq eb;have bi : ∀{F:St} {G2 H2:Hp},RC K G2 H2 F n->RC K G2 H2 F (jx own.length (fr.map (·.2)) t):=λr=>r.weak bl.symm (λj d' hj=>by
    by_cases hm:j∈T.idx
    ·rcases qT hj with z | ⟨d2,j2,_,hn,_⟩
     ·cases z
     ·exact absurd (hT j hm) ⋯
    ·rw[bg j hm];exact hj) R S
   refine vS U.sub rg eb λMN c1 _=>c6 MN X _ ⟨G0,n,b,c1<|W.ext U,ek,λH3 Z x3=>?_⟩;have ap:=(c1<|W.ext U).ext x3;have xa:=s.trans<|U.trans x3;have c3:Z D=cS:=x3.new D cf (by rw[be];simp);have ar:H3 D=cI (.lst l):=x3.s1 _ _ be;cases b with
   | true=>
    dsimp only;rw[MY rfl]at I ⊢;obtain⟨e,ee,I⟩:=zc I;obtain⟨rest,er,I⟩:=zr I;refine⟨Z,n,e,ap,ee,λv H4 c4 C r4=>?_⟩;have as:c4 D=cS:=C.new D c3 (by rw[ar];simp);have cr:H4 D=cI (.lst l):=C.s1 _ _ ar;have N:=xa.trans C;refine⟨cr,O.length - (i+1),by omega,rfl,p,by rw[Cs,FH];omega,zu,c4,u++[e],rest,(bi<|ap.ext C).upd as R S,as,?_,(r'.mono<|(U.trans<|x3.trans C).s0).append (gE.cons r4 gE.nil),er,?_⟩
    ·exact⟨N.s0,λc o z=>by rw[zt (λw=>by rw[w,A]at z;cases z)];exact N.s1 c o z,λc o z=>by rw[zt (λw=>by rw[w,as]at z;cases z)];exact N.sub c o z,N.new⟩
    ·rw[<- I];simp
   | false=>
    dsimp only;rw[RQ BJ]at I ⊢;exact⟨O.length - (i+1),by omega,rfl,p,by omega,ar,Z,u,G,bi ap,c3,xa,r'.mono<|(U.trans x3).s0,I,rfl⟩
  ·have e:i=O.length:=by omega
   subst e;rw[List.drop_length]at I;cases I;rw[ER]at q;exact .inl ⟨wk.stop g s.s1,q D l g a (x1.trans s) c8 bb M r'⟩
 ·rw[RQ hl]at Y;cases Y
end
section
variable{X:Cx}{scope:i7}{own:List Str}{fr:List (Str×Nat)}{elt tg iter c:hI}{pos:ik}{src:CO (List D)}{T:Tg}{k:CO Bool}{f:CO D}
theorem fe(z:X.calm=d6)(ok:y6 X scope fr)(I : ∀i∈T.idx,i<own.length)(Z:A9 X tg iter src)(O : ∀fp L J,PG (z6 X scope (own++fr.map (·.1)) fp L J) tg<|wy X.K T)
 (U : ∀fp L J,PV (z6 X scope (own++fr.map (·.1)) fp L J) elt f) (Y : ∀x,vp iter X.env x=pure x:=by intro _;rfl) :
 PO X (.ListComp elt [⟨tg,iter,[],0⟩] scope pos) (zN src T own.length (fr.map (·.2)) jX f):=
 jB (Qm z ok Z O (λ_ _ _=>Xe) U Y) (yo I λg H Q ⟨a,e,b,rc,d,q⟩=>by cases d;exact q H a<|Ext.refl rc.sub)
theorem Y1(z:X.calm=d6)(ok:y6 X scope fr)(I : ∀i∈T.idx,i<own.length)(Z:A9 X tg iter src)(O : ∀fp L J,PG (z6 X scope (own++fr.map (·.1)) fp L J) tg<|wy X.K T)
 (hk : ∀fp L J,o4 (z6 X scope (own++fr.map (·.1)) fp L J) c k) (U : ∀fp L J,PV (z6 X scope (own++fr.map (·.1)) fp L J) elt f) (Y : ∀x,vp iter X.env x=pure x:=by intro _;rfl) :
 PO X (.ListComp elt [⟨tg,iter,[c],0⟩] scope pos) (zN src T own.length (fr.map (·.2)) k f):=
 jB (Qm z ok Z O (λfp L J=>Xd<|hk fp L J) U Y) (yo I λa H Q h=>h)
theorem aB(z:X.N.Nodup)(I:X.N[i]? = cI y)(O:Loc X.env.scope y)(hf:X.fn y=d6\/X.env.scope.names.lookup y=cI .local)
 (U:X.calm=d6) (ok:y6 X scope fr) (Y : ∀i∈T.idx,i<own.length) (hi:A9 X tg iter src) (hg : ∀fp L J,PG (z6 X scope (own++fr.map (·.1)) fp L J) tg<|wy X.K T)
 (Z : ∀fp L J,PV (z6 X scope (own++fr.map (·.1)) fp L J) elt f) (hs : ∀x,vp iter X.env x=pure x:=by intro _;rfl) :
 PS X (.Assign [.Name y py] (.ListComp elt [⟨tg,iter,[],0⟩] scope pos) spos) (QW (tO X.K<|zN src T own.length (fr.map (·.2)) jX f)<|ke i):=
 ka (wR z I O hf U ok hi hg (λ_ _ _=>Xe) Z hs) λD a H h=>yo Y (λa H Q g=>by obtain⟨d,j,b,rc,e,q⟩:=g;cases e;exact q H d<|Ext.refl rc.sub) a H _ h
theorem Kf(z:X.N.Nodup)(I:X.N[i]? = cI y)(O:Loc X.env.scope y)(hf:X.fn y=d6\/X.env.scope.names.lookup y=cI .local)
 (U:X.calm=d6) (ok:y6 X scope fr) (Y : ∀i∈T.idx,i<own.length) (hi:A9 X tg iter src) (hg : ∀fp L J,PG (z6 X scope (own++fr.map (·.1)) fp L J) tg<|wy X.K T)
 (hk : ∀fp L J,o4 (z6 X scope (own++fr.map (·.1)) fp L J) c k) (Z : ∀fp L J,PV (z6 X scope (own++fr.map (·.1)) fp L J) elt f) (hs : ∀x,vp iter X.env x=pure x:=by intro _;rfl) :
 PS X (.Assign [.Name y py] (.ListComp elt [⟨tg,iter,[c],0⟩] scope pos) spos) (QW (tO X.K<|zN src T own.length (fr.map (·.2)) k f)<|ke i):=
 ka (wR z I O hf U ok hi hg (λfp L J=>Xd<|hk fp L J) Z hs) λD a H h=>yo Y (λa H Q h=>h) a H _ h
end
theorem jk{K:Bo}{H:Hp}{i:Int}{v:V}(h:Rep K H (.int i) v):v = .int i:=h
theorem W4{K:Bo}{g:Int->Int->D}{z:Int->Int->V}(O : ∀H i j,Rep K H (g i j)<|z i j):rb K (A4 z) (dI g):=λa H x y b U d Q s rx Y I q=>by cases b<;>cases U<;>simp[dI]at I;subst I;exact⟨_,_,jk rx,jk Y,q _ H a (Ext.refl s)<|O a _ _⟩
theorem Yy{K:Bo}{C:Int->Int->Prop}{c:Int->Int->Bool}{g:Int->Int->D}{z:Int->Int->V}(O : ∀i j,c i j=d6->C i j)(U : ∀H i j,Rep K H (g i j)<|z i j):rb K (rI C z) (HZ c g):=λa H x y b Y d Q s rx h I q=>by cases b<;>cases Y<;>simp[HZ]at I;obtain⟨e,f⟩:=I;subst f;exact⟨_,_,jk rx,jk h,O _ _ e,q _ H a (Ext.refl s)<|U a _ _⟩
theorem dN{K:Bo}:rb K (A4 λi j=> .int (i - j)) wb:=W4 λ_ _ _=>rfl
theorem bQ(h:QF i j=d6):E6 i j:=by unfold QF at h;rw[Cj,decide_eq_true_eq,decide_eq_true_eq]at h;unfold E6;omega
theorem dS{K:Bo}:rb K (rI Ac λi j=> .int (i/j)) K5:=Yy (λi j h=>by unfold nz at h;rw[Bt,decide_eq_true_eq,decide_eq_true_eq]at h;exact⟨h.1,by omega⟩) λ_ _ _=>rfl
theorem dR{K:Bo}:rb K (rI (λ_ j=>0<j) λi j=> .int (i%j)) kh:=Yy (λi j h=>by unfold oQ at h;exact of_decide_eq_true h) λ_ _ _=>rfl
theorem dO{K:Bo}:rb K (rI Ab λi j=> .int (i ^ j.toNat)) gF:=Yy (λi j h=>by unfold ny at h;rw[Bt,Bt,decide_eq_true_eq,decide_eq_true_eq,decide_eq_true_eq]at h;exact⟨h.1.1,by omega,h.2⟩) λ_ _ _=>rfl
theorem Q0{K:Bo}:rb K (A4 λi j=> .bl (decide<|i<j)) DU:=W4 λ_ _ _=>rfl
theorem wG{K:Bo}:rb K (A4 λi j=> .bl (decide<|i<=j)) A1:=W4 λ_ _ _=>rfl
theorem iT{K:Bo}:rb K (A4 λi j=> .bl (decide<|j<i)) B2:=W4 λ_ _ _=>rfl
section
variable{X:Cx}
noncomputable def ck(K:Bo):R2:=λx y H Q=>∃a b d e,x = .ref a/\y = .ref b/\lb K H a d/\lb K H b e/\d.length+e.length<=i6/\
 (d=[]->Q (.ref b) H)/\(e=[]->Q (.ref a) H)/\∀p,H p=cS->Q (.ref p) (upd H p<|.tup<|d++e)
theorem aM:mu X (B0 .Add) (ck X.K):=by
 intro w s σ H x y v u Q I rx S h;obtain⟨a,b,A,W,rfl,rfl,J,L,t,N,P,R⟩:=h;cases rx;cases S;obtain⟨O,r,p,z1⟩:=I.tuple J;obtain⟨B,U,e,z2⟩:=I.tuple L;by_cases Y:A=[]
 ·have d:O=[]:=(r.IW).mpr Y
  obtain⟨⟨F,G,j,T⟩,m,k,n,l⟩:=id p;obtain⟨⟨as,C,data2,E⟩,f,g,M,i⟩:=id e;simp only at k l g i;subst k l g i;exact HK ⟨_,m,rfl⟩ ⟨_,f,rfl⟩ HL Mu Gx Gs (Gf _ _)
   (tuple_addW0 a b O.toArray B.toArray n M G C T E<|by simp[d]) ⟨m,f,⟨.ref b,H,I,rfl,N Y⟩⟩
 ·have d:O ≠ []:=λz=>Y ((r.IW).mp z)
  refine HT.sN p e d (λz=>⟨.ref a,H,I,rfl,P<|(U.IW).mp z⟩) (λ_=>?_) (by rw[<- r.length,<- U.length];exact t);refine⟨.ref s.heap.objs.size,_,I.laid (t':=s.toks) (o:= .tup (A++W)) (λc Z q=>Bq _ q) (BB _) ?_,rfl,R _<|I.ij.fresh<|BB _⟩;exact⟨by rw[Cs];exact t,_,r.append U,Dd.new _ _⟩
noncomputable def lA(K:Bo):R2:=λx y H Q=>∃l b a d,x = .ref l/\y = .ref b/\kv K H l a/\kv K H b d/\a.length+d.length<=i6/\∀p,H p=cS->Q (.ref p) (upd H p<|.lst<|a++d)
theorem aN:mu X (B0 .Add) (lA X.K):=by
 intro a s J H x y v u Q I rx E h;obtain⟨l,b,T,zs,rfl,rfl,A,w,P,q⟩:=h;cases rx;cases E;obtain⟨z,r,⟨o,n,e,U,d,f⟩,W⟩:=I.list A;obtain⟨O,Y,⟨C,B,k,g,i,j⟩,Z⟩:=I.list w;have R:=r.length;have S:=Y.length;obtain⟨cls,n4,N,G⟩:=o;obtain⟨L,as,M,m⟩:=C;simp only at U d f g i j;subst U d f g i j;have p:EP X a J Q (.ref s.heap.objs.size) {s with heap:=s.heap.push {cls:= .type "list",data:= .seq (z++O).toArray}}:=
  ⟨.ref _,_,I.Nr (t':=s.toks) (r.append Y) (by rw[Cs];omega),rfl,q _ I.fresh⟩
 have t:z.toArray++O.toArray=(z++O).toArray:=by simp
 refine HK ⟨_,e,rfl⟩ ⟨_,k,rfl⟩ noFill_list_add seq_list_add PySem.F.slot_list_add PySem.F.entry_list_add (PySem.F.args_list_add_2 _ _)
  (list_addW l b z.toArray O.toArray n B cS cS G m<|by rw[By,By];omega) ⟨e,k,?_⟩
 rw[t];exact p
end
noncomputable def xO(scope z:i7):i7:={scope with names:=scope.names.map λp=>if p.2==BM && z.kind == .function && z.names.lookup p.1==cI .cell then (p.1,EN)else (p.1,p.2)}
theorem X8(scope:i7)(env:mr):C6 scope env=xO scope env.scope:=by unfold C6 xO;rfl
structure SX(X:Cx)(sc:i7)(N T:List Str)(k:Nat):Prop where
 t9:X.env.scope=sc
 eN:X.N=N
 nd:N.Nodup
 calm:X.calm=d6
 room:q7 k X.A
 fn : ∀x∈T,X.fn x=d6\/sc.names.lookup x=cI .local
noncomputable def yz(z:i7)(N:List Str)(i:Nat)(x:Str):Bool:=
 decide (N[i]? = cI x) && (decide (z.names.lookup x=cI .local) || decide (z.names.lookup x=cI .cell) || decide (z.names.lookup x=cI .free)) && !(x==("__debug__" : Str)) && !(x==("__classdict__" : Str))
noncomputable def xD(z:i7)(N T:List Str)(i:Nat)(x:Str):Bool:=decide (x∈T) && decide (N[i]? = cI x) && (decide (z.names.lookup x=cI .local) || decide (z.names.lookup x=cI .cell))
noncomputable def qR(z:i7)(x:Str):Bool:=decide (z.names.lookup x=cI .globalImplicit) && !(x==("__name__" : Str)) && !(x==("__debug__" : Str))
section
variable{X:Cx}{sc:i7}{N T:List Str}{k:Nat}{i:Nat}{x:Str}{pos:ik}
theorem SX.var(h:SX X sc N T k)(c:yz sc N i x=d6):PE X (.Name x pos) (dE i):=by
 unfold yz at c;simp only[Bt,Cj,decide_eq_true_eq,EB]at c;obtain⟨⟨⟨a,h2⟩,z⟩,I⟩:=c;refine cJ (by rw[h.eN];exact a) ?_ z I;unfold IH;rw[h.t9];rcases h2 with(h2 | h2) | h2
 ·exact .inl h2
 ·exact .inr<|.inl h2
 ·exact .inr<|.inr h2
theorem SX.loc(h:SX X sc N T k)(c:xD sc N T i x=d6):X.N[i]? = cI x/\L2.Loc X.env.scope x/\(X.fn x=d6\/X.env.scope.names.lookup x=cI .local):=by
 unfold xD at c;simp only[Bt,Cj,decide_eq_true_eq]at c;refine⟨by rw[h.eN];exact c.1.2,?_,?_⟩
 ·unfold L2.Loc;rw[h.t9];exact c.2
 ·rw[h.t9];exact h.fn x c.1.1
theorem SX.G4(h:SX X sc N T k):X.N.Nodup:=by rw[h.eN];exact h.nd
theorem SX.Hr(h:SX X sc N T k)(i:Nat)(c:xD sc N T i x=d6):PG X (.Name x pos) (ke i):=by obtain⟨a,b,z⟩:=h.loc c;exact Y6 h.G4 a b z
theorem SX.MB(h:SX X sc N T k)(g:HW X es (gs is))(H:(Ds es X.env).length=is.length:=by rfl)(z:(Ds es X.env).findIdx? (·.1)=cS:=by rfl):PG X (.Tuple es j pos) (wy X.K<|.tp is):=
 lV h.calm g H z
theorem SX.set(h:SX X sc N T k)(i:Nat)(c:xD sc N T i x=d6)(z:PE X e te)(I:vt e (cI (.Name x pos')) pos.line X.env=pure eF:=by rfl):PS X (.Assign [.Name x pos'] e pos) (QW te<|ke i):=by obtain⟨a,b,O⟩:=h.loc c;exact cD h.G4 a b z I O
theorem SX.gl(h:SX X sc N T k)(c:qR sc x=d6):Gl X x/\x ≠ "__name__"/\(x==("__debug__" : Str))=eF:=by
 unfold qR at c;simp only[Bt,decide_eq_true_eq,EB]at c;refine⟨?_,?_,c.2⟩
 ·show X.env.scope.names.lookup x=_
  rw[h.t9];exact c.1.1
 ·intro e;rw[e]at c;simp at c
noncomputable def QD(sc scope:i7)(N:List Str)(z:List (Str×Nat)):Bool:=
 decide (scope.kind = .function) && decide ((scope.names.map (·.1)).Nodup) && scope.names.all (λp=> !(p.2==BM) || decide (sc.names.lookup p.1=cI .cell) || decide (sc.names.lookup p.1=cI .free)) &&
 z.all λp=>decide (scope.names.lookup p.1=cI .free) && decide (N[p.2]? = cI p.1)
noncomputable def pT(own:List Str)(scope:i7)(z:List (Str×Nat)):Bool:=decide ((own++z.map (·.1)).Nodup) && own.all (λx=>decide (scope.names.lookup x=cI .local) || decide (scope.names.lookup x=cI .cell))
theorem SX.M6(h:SX X sc N T k)(c:QD sc scope N fr=d6):y6 X scope fr:=by
 unfold QD at c;simp only[Bt,decide_eq_true_eq,Ea,Cj,EB]at c;obtain⟨⟨⟨I,b⟩,d⟩,a⟩:=c;refine⟨I,b,λp z f=>?_,λp z=>⟨(a p z).1,by rw[h.eN];exact(a p z).2⟩⟩;have e:X.env.kindOf p.1=sc.names.lookup p.1:=by show X.env.scope.names.lookup p.1=_;rw[h.t9]
 rw[e];rcases d p z with(q | q) | q
 ·rw[f]at q;exact absurd q ⋯
 ·exact .inl q
 ·exact .inr q
theorem vE(scope sc:i7)(x:Str):(xO scope sc).names.lookup x=(scope.names.lookup x).map λk=>if (k==BM && sc.kind == .function && sc.names.lookup x==cI .cell)then EN else k:=by
 unfold xO;dsimp only;generalize scope.names=l
 induction l with
 | nil=>rfl
 | cons p r I=>
  obtain⟨n,O⟩:=p;rw[BY];cases hx:x==n with
  | true=>
   have e:x=n:=by simpa using hx
   subst e;dsimp only;split
   ·rename_i z;rw[Cp,Cp,beq_self_eq_true];dsimp only[Hi];rw[MY z]
   ·rename_i z;rw[Cp,Cp,beq_self_eq_true];dsimp only[Hi];rw[RQ z]
  | false=>
   dsimp only;split
   ·rw[Cp,Cp,hx];exact I
   ·rw[Cp,Cp,hx];exact I
theorem SX.comp(h:SX X sc N T k)(c:pT own scope fr=d6) :
 SX (z6 X scope (own++fr.map (·.1)) fp s2 H2) (xO scope sc) (own++fr.map (·.1)) own k:=by
 unfold pT at c;simp only[Bt,decide_eq_true_eq,Ea,Cj]at c;refine⟨?_,rfl,c.1,h.calm,h.room,λx z=>?_⟩
 ·show C6 scope X.env=_
  rw[X8,h.t9]
 ·rcases c.2 x z with q | q
  ·right;rw[vE,q];rfl
  ·left
   show(scope.names.lookup x==cI .cell)=d6;rw[q];rfl
end
mutual
def m9:D->PyData
 | .i3=> .none
 | .bl b=> .bool b
 | .int i=> .int i
 | .str x=> .str x
 | .tup a=> .tuple (vu a)
 | .lst a=> .list (vu a)
 | .exc _ _=> .none
 | .o1 _ _=> .none
 | .n4 _ _=> .none
 | .ins _ _ _=> .none
def vu:List D->List PyData
 | []=>[]
 | d::ds=>m9 d::vu ds
end
theorem DG(h:qq (.exc c n)=d6):False:=by simp[qq]at h
theorem DF(h:qq (.o1 ks vs)=d6):False:=by simp[qq]at h
theorem DH{c:Str}{p t:D}(h:qq (.ins c p t)=d6):False:=by simp[qq]at h
theorem DE(h:qq (.n4 ks vs)=d6):False:=by simp[qq]at h
mutual
theorem Lr : ∀x y:D,qq x=d6->qq y=d6->Fz (m9 x) (m9 y)=n9 x y
 | .i3,y,_,h=>by cases y<;>first | exact(DG h).elim | exact(DF h).elim | exact(DE h).elim | exact(DH h).elim | simp[m9,Fz,n9]
 | .bl a,y,_,h=>by cases y<;>first | exact(DG h).elim | exact(DF h).elim | exact(DE h).elim | exact(DH h).elim | simp[m9,Fz,n9]
 | .int a,y,_,h=>by cases y<;>first | exact(DG h).elim | exact(DF h).elim | exact(DE h).elim | exact(DH h).elim | simp[m9,Fz,n9]
 | .str a,y,_,h=>by cases y<;>first | exact(DG h).elim | exact(DF h).elim | exact(DE h).elim | exact(DH h).elim | simp[m9,Fz,n9]
 | .exc c n,y,h,_=>(DG h).elim
 | .o1 c n,y,h,_=>(DF h).elim
 | .n4 c n,y,h,_=>(DE h).elim
 | .ins c p t,y,h,_=>(DH h).elim
 | .tup xs,y,h1,h2=>by
  cases y with
  | tup b=>simp only[qq]at h1 h2;simp only[m9,Fz,n9];exact Ls xs b h1 h2
  | exc c n=>exact(DG h2).elim
  | o1 c n=>exact(DF h2).elim
  | n4 c n=>exact(DE h2).elim
  | ins c p t=>exact(DH h2).elim
  | _=>simp[m9,Fz,n9]
 | .lst xs,y,h1,h2=>by
  cases y with
  | lst b=>simp only[qq]at h1 h2;simp only[m9,Fz,n9];exact Ls xs b h1 h2
  | exc c n=>exact(DG h2).elim
  | o1 c n=>exact(DF h2).elim
  | n4 c n=>exact(DE h2).elim
  | ins c p t=>exact(DH h2).elim
  | _=>simp[m9,Fz,n9]
theorem Ls : ∀xs z:List D,Di xs=d6->Di z=d6->GW (vu xs) (vu z)=B3 xs z
 | [],z,_,_=>by cases z<;>simp[vu,GW,B3]
 | x::xs,z,h1,h2=>by
  cases z with
  | nil=>simp[vu,GW,B3]
  | cons y z=>
   simp only[Di,Bt]at h1 h2;simp only[vu,GW,B3];rw[Lr x y h1.1 h2.1,Ls xs z h1.2 h2.2]
end
mutual
theorem Mj : ∀x:D,qq x=d6->(m9 x).canLay0=d6
 | .i3,_=>by simp[m9,FA]
 | .bl a,_=>by simp[m9,FA]
 | .int a,_=>by simp[m9,FA]
 | .str a,h=>by simpa[m9,FA,qq,PyData.strOk]using h
 | .tup xs,h=>by simp only[qq]at h;simp only[m9,FA];exact Lw xs h
 | .lst xs,h=>by simp only[qq]at h;simp only[m9,FA];exact Lw xs h
 | .exc c n,h=>(DG h).elim
 | .o1 c n,h=>(DF h).elim
 | .n4 c n,h=>(DE h).elim
 | .ins c p t,h=>(DH h).elim
theorem Lw : ∀xs:List D,Di xs=d6->Hh (vu xs)=d6
 | [],_=>by simp[vu,Hh]
 | x::xs,h=>by simp only[Di,Bt]at h;simp only[vu,Hh];rw[Mj x h.1,Lw xs h.2];rfl
end
mutual
theorem Me : ∀x:D,(m9 x).depth=deep x
 | .i3=>by simp[m9,ES,deep]
 | .bl a=>by simp[m9,ES,deep]
 | .int a=>by simp[m9,ES,deep]
 | .str a=>by simp[m9,ES,deep]
 | .exc c n=>by simp[m9,ES,deep]
 | .o1 c n=>by simp[m9,ES,deep]
 | .n4 c n=>by simp[m9,ES,deep]
 | .ins c p t=>by simp[m9,ES,deep]
 | .tup b=>by simp only[m9,ES,deep];rw[Lq b]
 | .lst b=>by simp only[m9,ES,deep];rw[Lq b]
theorem Lq : ∀xs:List D,PyData.depthAll (vu xs)=F3 xs
 | []=>by simp[vu,PyData.depthAll,F3]
 | x::xs=>by simp only[vu,PyData.depthAll,F3];rw[Me x,Lq xs]
end
theorem kc(h:u3 d=d6):qq d=d6:=by unfold u3 at h;rw[Bt]at h;exact h.2
theorem k4(h:u3 d=d6):SeqAt.shaped (m9 d)=d6:=by unfold u3 at h;rw[Bt,decide_eq_true_eq]at h;unfold SeqAt.shaped;rw[Mj d h.2,Bool.true_and,Me];exact decide_eq_true ⋯
section
variable{X:Cx}{pins:MW}{σ:St}{H0 H:Hp}{s:hA}
mutual
theorem Ie(I:Inv X pins σ H s)(sub:kr H0 H) : ∀{d:D} {v:V} {u:eM},qq d=d6->Rep X.K H0 d v->RelV v u->∃z,Reads s.heap u (m9 d) z
 | .i3,v,u,_,h,r=>by cases (show v = .i3 from h);cases r;exact⟨_,.none⟩
 | .bl b,v,u,_,h,r=>by cases (show v = .bl b from h);cases r;exact⟨_,.bool b⟩
 | .int i,v,u,_,h,r=>by cases (show v = .int i from h);obtain⟨t,rfl⟩:=r;exact⟨_,.int i t⟩
 | .str x,v,u,_,h,r=>by cases (show v = .str x from h);obtain⟨t,rfl⟩:=r;exact⟨_,.str x t⟩
 | .exc c n,v,u,o,_,_=>(DG o).elim
 | .o1 c n,v,u,o,_,_=>(DF o).elim
 | .n4 c n,v,u,o,_,_=>(DE o).elim
 | .ins c p t,v,u,o,_,_=>(DH o).elim
 | .tup ds,v,u,o,h,r=>by obtain⟨a,e,rfl,f,g⟩:=(show ∃a e,v = .ref a/\lb X.K H0 a e/\gE X.K H0 ds e from h);cases r;simp only[qq]at o;obtain⟨l,O,⟨w,U,Y,n,j⟩,m⟩:=I.tuple<|qs sub f;obtain⟨z,k⟩:=LH I sub o g O;exact⟨z,.tuple U Y j<|by simpa using k⟩
 | .lst ds,v,u,o,h,r=>by obtain⟨a,e,rfl,f,g⟩:=(show ∃a e,v = .ref a/\kv X.K H0 a e/\gE X.K H0 ds e from h);cases r;simp only[qq]at o;obtain⟨l,O,p,m⟩:=I.list<|sub.seq f;obtain⟨w,U,Y,n,j⟩:=p.isList;obtain⟨z,k⟩:=LH I sub o g O;exact⟨_,.list U Y j<|by simpa using k⟩
theorem LH(I:Inv X pins σ H s)(sub:kr H0 H) : ∀{J:List D} {xs:List V} {L:List eM},Di J=d6->gE X.K H0 J xs->i0 xs L->∃z,ReadsAll s.heap L (vu J) z
 | [],xs,L,_,h,r=>by rw[h.xb]at r;cases r;exact⟨_,.nil⟩
 | d::J,xs,L,o,h,r=>by
  obtain⟨x,t,e,a,b⟩:=h.r9;subst e;simp only[Di,Bt]at o;cases r with
  | cons O U=>
   obtain⟨z,f⟩:=Ie I sub o.1 a O;obtain⟨bs,Y⟩:=LH I sub o.2 b U;exact⟨_,.cons f Y⟩
end
end
noncomputable def uj(K:Bo):R2:=λx y H Q=>∃a b z,kr a H/\Rep K a b x/\Rep K a z y/\u3 b=d6/\u3 z=d6/\Q (.bl<|n9 b z) H
noncomputable def ui(K:Bo):R2:=λx y H Q=>∃a b z,kr a H/\Rep K a b x/\Rep K a z y/\u3 b=d6/\u3 z=d6/\Q (.bl<|!n9 b z) H
theorem Y9(U:X.A.units+64<cLine):mu X (ro .Eq) (uj X.K):=by intro a s k H x y v u Q I rx Y h;obtain⟨g,i,j,sub,b,d,z,O,q⟩:=h;obtain⟨as,e⟩:=Ie I sub (kc z) b rx;obtain⟨bs,f⟩:=Ie I sub (kc O) d Y;exact eq_dataH e f (k4 z) (k4 O) U ⟨.bl _,H,I,by rw[Lr _ _ (kc z) (kc O)];rfl,q⟩
theorem mx(U:X.A.units+64<cLine):mu X (ro .NotEq) (ui X.K):=by intro a s k H x y v u Q I rx Y h;obtain⟨g,i,j,sub,b,d,z,O,q⟩:=h;obtain⟨as,e⟩:=Ie I sub (kc z) b rx;obtain⟨bs,f⟩:=Ie I sub (kc O) d Y;exact ne_dataH e f (k4 z) (k4 O) U ⟨.bl _,H,I,by rw[Lr _ _ (kc z) (kc O)];rfl,q⟩
theorem Qb{K:Bo}:rb K (uj K) i9:=λa H x y b I d Q s rx O z q=>by
 unfold i9 at z;split at z
 ·rename_i h;cases z;exact⟨a,b,I,s,rx,O,h.1,h.2,q _ H a (Ext.refl s) rfl⟩
 ·cases z
theorem dP{K:Bo}:rb K (ui K) r6:=λa H x y b I d Q s rx O z q=>by
 unfold r6 at z;split at z
 ·rename_i h;cases z;exact⟨a,b,I,s,rx,O,h.1,h.2,q _ H a (Ext.refl s) rfl⟩
 ·cases z
theorem SX.Iv(h:SX X sc N T k):X.A.units+64<cLine:=by have:=h.room.un;omega
section
variable{X:Cx}{sc:i7}{N T:List Str}{k:Nat}{a b c:hI}{pos p:ik}{fa fb fc:CO D}
theorem qN(H:PV X a fa)(z:PV X b fb):PV X (.BinOp a .Sub b pos) (zw wb fa fb):=wN mn dN H z
theorem wM(H:PV X a fa)(z:PV X b fb):PV X (.BinOp a .FloorDiv b pos) (zw K5 fa fb):=wN fC dS H z
theorem qd(H:PV X a fa)(z:PV X b fb):PV X (.BinOp a .Mod b pos) (zw kh fa fb):=wN my dR H z
theorem YR(H:PV X a fa)(z:PV X b fb):PV X (.BinOp a .Pow b pos) (zw gF fa fb):=wN mq dO H z
theorem YU(h:SX X sc N T k)(H:PV X a fa)(z:PV X b fb):PV X (.Compare a [.Eq] [b] pos) (zw i9 fa fb):=cv (Y9 h.Iv) Qb H z<|Jv b
theorem wO(H:PV X a fa)(z:PV X b fb):o4 X (.Compare a [.Gt] [b] pos) (sB<|zw B2 fa fb):=Qf rN iT H z<|Jv b
theorem jJ(h:SX X sc N T k)(H:PV X a fa)(z:PV X b fb):o4 X (.Compare a [.Eq] [b] pos) (sB<|zw i9 fa fb):=Qf (Y9 h.Iv) Qb H z<|Jv b
theorem yO(h:SX X sc N T k)(H:PV X a fa)(z:PV X b fb):o4 X (.Compare a [.NotEq] [b] pos) (sB<|zw r6 fa fb):=Qf (mx h.Iv) dP H z<|Jv b
theorem kS{K:Bo}{H:Hp}{z:List D}{v:V}(h:Rep K H (.tup z) v) : ∃a xs,v = .ref a/\lb K H a xs/\gE K H z xs:=h
theorem fS{K:Bo}{H:Hp}{z:List D}{v:V}(h:Rep K H (.lst z) v) : ∃a xs,v = .ref a/\kv K H a xs/\gE K H z xs:=h
theorem qJ{K:Bo}{H:Hp}{z:List D}{a:eH}{xs:List V}(I:lb K H a xs)(J:gE K H z xs):Rep K H (.tup z) (.ref a):=⟨a,xs,rfl,I,J⟩
theorem YM{K:Bo}{H:Hp}{z:List D}{a:eH}{xs:List V}(I:kv K H a xs)(J:gE K H z xs):Rep K H (.lst z) (.ref a):=⟨a,xs,rfl,I,J⟩
theorem dU{K:Bo}:rb K (λx y H Q=>A4 (λi j=> .int (i+j)) x y H Q\/ck K x y H Q) qo:=λg H x y m n d Q s rx U I q=>by
 cases m<;>cases n<;>simp[qo]at I
 ·subst I;exact .inl ⟨_,_,jk rx,jk U,q _ H g (Ext.refl s) rfl⟩
 ·rename_i l o
  obtain⟨r,rfl⟩:=I;obtain⟨a,t,rfl,h,f⟩:=kS rx;obtain⟨b,u,rfl,Y,z⟩:=kS U;refine .inr ⟨a,b,t,u,rfl,rfl,qs s h,qs s Y,kU (by rw[f.length,z.length];exact r),λe=>?_,λe=>?_,λp k=>?_⟩
  ·have O:l=[]:=by
    have:=f.length;rw[e]at this;exact Cf this.symm
   subst O;exact q _ H g (Ext.refl s)<|qJ Y z
  ·have O:o=[]:=by
    have:=z.length;rw[e]at this;exact Cf this.symm
   subst O;exact q _ H g (Ext.refl s) (by rw[ER];exact qJ h f)
  ·exact q _ _ _ (Ext.alloc s k _)<|qJ (lb.of zu)<|(f.append z).mono (ja (jC s k) _)
theorem zE(H:PV X a fa)(z:PV X b fb):PV X (.BinOp a .Add b pos) (zw qo fa fb):=wN (Ny.or aM) dU H z
end
theorem Zl(U:A.handled=cS)(k:Sk)(I z:eH)(Y:z≠I)(O:Array eM) :
 Walks P w A I [I,z] [I] O.size (λi v=>O[i]? = cI v) (λi h=>n7 k h I z i/\rd k h z O):=by
 cases k
 ·exact Walks.list U I z Y O
 ·exact Walks.tuple U I z Y O
theorem vx(H:List Int) : ∀n,preSum (λi=>H.getD i 0) n=(H.take n).sum
 | 0=>by simp[preSum]
 | n+1=>by
  have z:=vx H n;simp only[preSum,z];by_cases h:n<H.length
  ·rw[List.take_succ_eq_append_getElem h,List.sum_append]
   simp[h]
  ·rw[EY ⋯,EY ⋯]
   simp[h]
section
variable{X:Cx}{pins:MW}{σ:St}{H:Hp}{s:hA}
theorem Wj(Z:X.calm=d6):yX X (.builtin "sum") (λxs H Q=>∃p k L J,xs=[.ref p]/\ow k X.K H p L/\L=(J:List Int).map V.int/\Q (.int J.sum) H):=by
 intro pins s σ H E C Q I n h;obtain⟨p,k,L,J,rfl,l,rfl,q⟩:=h;obtain⟨u,rfl,O⟩:=kH n;cases O;obtain⟨z,r,U,B⟩:=I.sq l;have lt:=U.lt;have Y:=r.length;rw[Cb]at Y;refine call_sum_walkG<|Jz U ⟨_,[_,p],[_],z.toArray.size,_,_,λi=>J.getD i 0,rfl,Zl (A:=X.A.in1) (I.ok.hd Z) k _ p (BH lt) z.toArray,⟨wX k _ p,U.at λo e=>Bq _ e⟩,?_,?_,?_⟩
 ·intro b f
  rw[Cm];simp only[BC,BR,or_false]at f;rcases f with rfl | rfl
  ·exact Ew _
  ·exact Cg lt
 ·intro i v m
  have a:z[i]? = cI v:=by simpa using m
  have g:i<J.length:=by rw[Y];exact(BP.mp a).1
  obtain⟨u,d,O⟩:=r.get (i:=i) (x:= .int J[i]) (by simp[g]);rw[a]at d;cases d;obtain⟨t,rfl⟩:=O;exact⟨t,by simp[g]⟩
 ·intro y w t' j
  have e:preSum (λi=>J.getD i 0) z.toArray.size=J.sum:=by rw[vx,EY (by rw[By,Y];exact BB _)]
  refine⟨.int J.sum,H,I.kept (t':=w)<|λb u e=>j b u ?_ (Bq _ e),⟨t',by rw[e]⟩,q⟩;simp only[BC,BR,or_false];exact BH<|Bz e
noncomputable def iO:V->Option Bool
 | .i3=>cI eF
 | .bl b=>cI b
 | .int i=>cI (i != 0)
 | _=>cS
theorem QV(r:RelV x u)(e:iO x=cI b)(q:Q b s):wpAny (hH P w) A (truthy u) Q E s:=by
 cases x with
 | i3=>cases r;cases e;exact λ_ _ _=>q
 | bl c=>cases r;cases e;exact Ee q
 | int i=>obtain⟨t,rfl⟩:=r;cases e;exact PyProof.Rows.truthy_int q
 | _=>cases e
noncomputable def X3:List V->Option (List Bool)
 | []=>cI []
 | x::r=>(iO x).bind λb=>(X3 r).map λl=>b::l
theorem vf : ∀{xs:List V} {bs:List Bool},X3 xs=cI bs->bs.length=xs.length/\∀(i:Nat) x,xs[i]? = cI x->iO x=cI (bs.getD i eF)
 | [],bs,h=>by cases h;exact⟨rfl,λi x e=>by simp at e⟩
 | y::xs,bs,h=>by
  obtain⟨b,a,h⟩:=zc h;obtain⟨l,z,h⟩:=zr h;subst h;obtain⟨d,f⟩:=vf z;refine⟨by simp[d],λi x e=>?_⟩;cases i with
  | zero=>simp at e;subst e;simpa using a
  | succ i=>simpa using f i x (by simpa using e)
theorem WB(bs:List Bool):(Br bs.length).all (λi=>bs.getD i eF)=bs.all id:=by
 rw[FX];simp only[Ea,BD,id_eq];constructor
 ·intro h b z
  obtain⟨i,a,e⟩:=List.mem_iff_getElem.mp z;have:=h i a;rw[BX,Bx a]at this;rw[<- e];exact this
 ·intro h i a
  rw[BX,Bx a];exact h _<|HD a
theorem WA(bs:List Bool):(Br bs.length).any (λi=>bs.getD i eF)=bs.any id:=by
 rw[FX];simp only[List.any_eq_true,BD,id_eq];constructor
 ·rintro⟨i,a,h⟩
  rw[BX,Bx a]at h;exact⟨_,HD a,h⟩
 ·rintro⟨b,z,h⟩
  obtain⟨i,a,e⟩:=List.mem_iff_getElem.mp z;refine⟨i,a,?_⟩;rw[BX,Bx a,Option.getD_some,e];exact h
theorem Wn(L:X.calm=d6):yX X (.builtin "all") (λxs H Q=>∃p k J bs,xs=[.ref p]/\ow k X.K H p J/\X3 J=cI bs/\Q (.bl (bs.all id)) H):=by
 intro pins s σ H P N Q I y h;obtain⟨p,k,J,bs,rfl,n,t,q⟩:=h;obtain⟨u,rfl,O⟩:=kH y;cases O;obtain⟨z,r,U,G⟩:=I.sq n;have lt:=U.lt;have Y:=r.length;obtain⟨g,j⟩:=vf t;refine call_all_walk<|Jz U ⟨_,[_,p],[_],z.toArray.size,_,_,λi=>bs.getD i eF,rfl,Zl (A:=X.A.in1) (I.ok.hd L) k _ p (BH lt) z.toArray,⟨wX k _ p,U.at λo e=>Bq _ e⟩,?_,?_⟩
 ·intro i v M E C w l
  have a:z[i]? = cI v:=by simpa using w
  have f:i<J.length:=by rw[Y];exact(BP.mp a).1
  obtain⟨u,d,O⟩:=r.get (i:=i) (x:=J[i]) (by simp[f]);rw[a]at d;cases d;exact QV O (j i J[i] (by simp[f])) l
 ·intro F B m
  have e:(Br z.toArray.size).all (λi=>bs.getD i eF)=bs.all id:=by rw[By,<- Y,<- g];exact WB bs
  refine⟨.bl<|bs.all id,H,I.kept (t':=B)<|λb u e=>m b u ?_ (Bq _ e),by rw[e];rfl,q⟩;simp only[BC,BR,or_false];exact BH<|Bz e
theorem Wm(L:X.calm=d6):yX X (.builtin "any") (λxs H Q=>∃p k J bs,xs=[.ref p]/\ow k X.K H p J/\X3 J=cI bs/\Q (.bl (bs.any id)) H):=by
 intro pins s σ H P N Q I y h;obtain⟨p,k,J,bs,rfl,n,t,q⟩:=h;obtain⟨u,rfl,O⟩:=kH y;cases O;obtain⟨z,r,U,G⟩:=I.sq n;have lt:=U.lt;have Y:=r.length;obtain⟨g,j⟩:=vf t;refine call_any_walk<|Jz U ⟨_,[_,p],[_],z.toArray.size,_,_,λi=>bs.getD i eF,rfl,Zl (A:=X.A.in1) (I.ok.hd L) k _ p (BH lt) z.toArray,⟨wX k _ p,U.at λo e=>Bq _ e⟩,?_,?_⟩
 ·intro i v M E C w l
  have a:z[i]? = cI v:=by simpa using w
  have f:i<J.length:=by rw[Y];exact(BP.mp a).1
  obtain⟨u,d,O⟩:=r.get (i:=i) (x:=J[i]) (by simp[f]);rw[a]at d;cases d;exact QV O (j i J[i] (by simp[f])) l
 ·intro F B m
  have e:(Br z.toArray.size).any (λi=>bs.getD i eF)=bs.any id:=by rw[By,<- Y,<- g];exact WA bs
  refine⟨.bl<|bs.any id,H,I.kept (t':=B)<|λb u e=>m b u ?_ (Bq _ e),by rw[e];rfl,q⟩;simp only[BC,BR,or_false];exact BH<|Bz e
end
section
variable{X:Cx}{sc:i7}{N T:List Str}{k:Nat}{e a b c:hI}{pos p p2:ik}{f g:CO D}{fq:CO (Sk×List D)}
theorem pU{K:Bo}{H:Hp}{k:Sk}{a:eH}{xs:List V}(h:ow k K H a xs):kv K H a xs\/lb K H a xs:=by
 cases k
 ·exact .inl h
 ·exact .inr h
theorem xH(h:SX X sc N T k)(c:qR sc "len" = d6)(z:X.mg "len" = cS)(O:PQ X e fq)(I:iv [e] X.env=[(eF,hM e X.env)]:=by rfl):PV X (.Call (.Name "len" p) [e] [] pos) (wJ fq):=
 jB (xp JS (h.gl c).1 z PySem.boot_len (z7 O jT I) ⋯ ⋯ I rfl) λu H Q U=>by obtain⟨j,s,d,rc,Y,q⟩:=U;obtain⟨⟨o,f⟩,l,m⟩:=zr Y;subst m;refine⟨j,s,o,f,rc,l,λa g i b ext n t r=>⟨a,g,rfl,pU n,?_⟩⟩;exact q _ i b ext (show V.int g.length = .int f.length by rw[r.length])
theorem jA(h:SX X sc N T k)(c:qR sc "tuple" = d6)(z:X.mg "tuple" = cS)(U:PQ X e fq)(I:iv [e] X.env=[(eF,hM e X.env)]:=by rfl):PV X (.Call (.Name "tuple" p) [e] [] pos) (zS fq):=
 jB (vy ZU (h.gl c).1 z PyProof.Rows.boot_tuple (z7 U jT I) ⋯ ⋯ I rfl) λx H Q Y=>by
  obtain⟨j,w,d,rc,s,q⟩:=Y;obtain⟨⟨g,m⟩,n,o⟩:=zr s;subst o;refine⟨j,w,g,m,rc,n,λa u i b ext f t r=>⟨a,u,rfl,?_⟩⟩;cases g with
  | L=>exact .inl ⟨f,λl O=>q _ _ _ (ext.trans<|Ext.alloc ext.sub O _)<|qJ (lb.of zu)<|r.mono<|ja (jC ext.sub O) _⟩
  | T=>exact .inr ⟨f,q _ i b ext (qJ (t rfl) r)⟩
theorem vA{H I:Hp}(s:kr H I){a:eH}(h:I a=cS):H a=cS:=by
 cases z:H a with
 | none=>rfl
 | some o=>rw[s a o z]at h;cases h
theorem Z7 : ∀{H:List D} {n:Int},QX H=cI n->∃z:List Int,H=z.map D.int/\n=z.sum
 | [],n,h=>by cases h;exact⟨[],rfl,rfl⟩
 | d::H,n,h=>by
  cases d with
  | int i=>
   obtain⟨s,e,h⟩:=zr h;obtain⟨z,rfl,rfl⟩:=Z7 e;exact⟨i::z,rfl,by rw[<- h];simp⟩
  | _=>cases h
theorem Jk{K:Bo}{H:Hp} : ∀{I:List Int} {xs:List V},gE K H (I.map D.int) xs->xs=I.map V.int
 | [],xs,h=>h.xb
 | z::I,xs,h=>by obtain⟨x,r,e,a,b⟩:=gE.r9 h;rw[e,jk a,Jk b];rfl
theorem Jm(h:SX X sc N T k)(c:qR sc "sum" = d6)(z:X.mg "sum" = cS)(Y:PQ X e fq)(U:iv [e] X.env=[(eF,hM e X.env)]:=by rfl):PV X (.Call (.Name "sum" p) [e] [] pos) (YC fq):=
 jB (xp (Wj h.calm) (h.gl c).1 z PyProof.Rows.boot_sum (z7 Y jT U) ⋯ ⋯ U rfl) λA H Q u=>by obtain⟨j,x,d,rc,I,q⟩:=u;obtain⟨⟨f,l⟩,m,I⟩:=zc I;obtain⟨n,o,s⟩:=zr I;subst s;obtain⟨g,O,rfl⟩:=Z7 o;have O:l=g.map D.int:=O;subst O;exact⟨j,x,f,_,rc,m,λa w i b ext t y r=>⟨a,f,w,g,rfl,t,Jk r,q _ i b ext rfl⟩⟩
theorem dB{K:Bo}{H:Hp}{d:D}{x:V}{b:Bool}(h:Rep K H d x)(e:pE d=cI b):iO x=cI b:=by
 cases d with
 | i3=>cases (show x = .i3 from h);exact e
 | bl c=>cases (show x = .bl c from h);exact e
 | int i=>cases (show x = .int i from h);exact e
 | _=>cases e
theorem Zp{K:Bo}{H:Hp} : ∀{J:List D} {xs:List V} {bs:List Bool},gE K H J xs->J8 J=cI bs->X3 xs=cI bs
 | [],xs,bs,h,e=>by rw[h.xb];exact e
 | d::J,xs,bs,h,e=>by obtain⟨x,r,z,f,g⟩:=h.r9;obtain⟨b,a,e⟩:=zc e;obtain⟨l,I,e⟩:=zr e;subst z e;show(iO x).bind _=_;rw[dB f a];show((X3 r).map λl=>b::l)=_;rw[Zp g I];rfl
theorem YV(h:SX X sc N T k)(c:qR sc "all" = d6)(z:X.mg "all" = cS)(U:PQ X e fq)(O:iv [e] X.env=[(eF,hM e X.env)]:=by rfl):PV X (.Call (.Name "all" p) [e] [] pos) (et fq):=
 jB (xp (Wn h.calm) (h.gl c).1 z PyProof.Rows.boot_all (z7 U jT O) ⋯ ⋯ O rfl) λw H Q Y=>by obtain⟨i,s,d,rc,I,q⟩:=Y;obtain⟨⟨f,t⟩,j,I⟩:=zc I;obtain⟨bs,l,m⟩:=zr I;subst m;exact⟨i,s,f,_,rc,j,λa o g b ext n u r=>⟨a,f,o,bs,rfl,n,Zp r l,q _ g b ext rfl⟩⟩
theorem lM(h:SX X sc N T k)(c:qR sc "any" = d6)(z:X.mg "any" = cS)(U:PQ X e fq)(O:iv [e] X.env=[(eF,hM e X.env)]:=by rfl):PV X (.Call (.Name "any" p) [e] [] pos) (rm fq):=
 jB (xp (Wm h.calm) (h.gl c).1 z PyProof.Rows.boot_any (z7 U jT O) ⋯ ⋯ O rfl) λw H Q Y=>by obtain⟨i,s,d,rc,I,q⟩:=Y;obtain⟨⟨f,t⟩,j,I⟩:=zc I;obtain⟨bs,l,m⟩:=zr I;subst m;exact⟨i,s,f,_,rc,j,λa o g b ext n u r=>⟨a,f,o,bs,rfl,n,Zp r l,q _ g b ext rfl⟩⟩
theorem ql(h:SX X sc N T k)(c:qR sc "int" = d6)(z:X.mg "int" = cS)(Y:PV X e f)(O:iv [e] X.env=[(eF,hM e X.env)]:=by rfl):PV X (.Call (.Name "int" p) [e] [] pos) (xh f):=
 jB (vy JT (h.gl c).1 z Gk (z7 Y jT O) ⋯ ⋯ O rfl) λo H Q m=>by
  obtain⟨j,n,d,rc,I,q⟩:=m;obtain⟨U,l,I⟩:=zc I;refine⟨j,n,U,rc,l,λv g a ext r=>?_⟩;cases U with
  | int i=>cases I;exact .inl ⟨i,by rw[jk r],q _ g a ext rfl⟩
  | bl b=>cases I;exact .inr ⟨b,by rw[show v = .bl b from r],q _ g a ext rfl⟩
  | _=>cases I
end
end DL
namespace DL
open PySem PySem.Spec PySem.Calls PyProof.Rows PySem.W PySem.Builtin PySem.Builtin.ObjectAttr PySem.Builtin.Getset_descriptor
section
variable{prog:i8}{w:i5}{A:l9}{E:MQ}{s:hA}{K:Frag}{x C:eH}
theorem ym(x:KS h a C):Looks M h (typeOf<|.ref a) (.ref C):=by obtain⟨o,d,z,I,b⟩:=x;exact I ▸ (Looks.ld z).andThen .now
structure D6(K:Frag)(C:eH):Prop where
 ga:findIn K (.ref C) "__getattribute__" = cI (cI (.builtin "BaseException.__getattribute__"))
 gn:findIn K (.ref C) "__getattr__" = cI cS
 ca:findIn K (.ref C) "__class__" = cI (cI (.builtin "object.__class__"))
 gt:specialIn K (.builtin "object.__class__") "__get__" = cI (cI (.builtin "getset_descriptor.__get__"))
 tk:takesIn K (.builtin "object.__class__")=cI d6
 mo:mroIn K C (.type "object")=cI d6
 mb:mroIn K C (.type "BaseException")=cI d6
theorem bz(X:K.In h)(G:D6 K C):Looks M h (find (.ref x) (.ref C) "__class__") (.bind (.builtin "getset_descriptor.__get__") (.builtin "object.__class__")):=by have z:=looks_findIn (M:=M) X G.ca;have I:Looks M h (getOf (cI (.builtin "object.__class__"))) (cI (.builtin "getset_descriptor.__get__")):=looks_specialIn X G.gt;have O:=looks_takesIn (M:=M) X G.tk;have U:Looks M h (dataDescriptor? (cI (.builtin "object.__class__")) (cI (.builtin "getset_descriptor.__get__"))) (cI (.builtin "getset_descriptor.__get__",.builtin "object.__class__")):=O.andThen .now;exact z.andThen (I.andThen (U.andThen (Looks.tag .now)))
theorem bA(X:K.In s.heap)(I:KS s.heap x C)(G:D6 K C)(h:R (.ok<|.ret<|.ref C) s) :
 codeAny (hH prog w) A (.call (.builtin "getset_descriptor.__get__") ⟨[.builtin "object.__class__",.ref x,tp],[]⟩) R s:=by
 obtain⟨b,g0,z,O,U⟩:=s;have Y:=ym (M:=hH prog w) I;have a:=looks_mroIn (M:=hH prog w) X G.mo;refine Fq KF.slot_gs.plain KF.entry_gs<|KF.slot_gs.check _ _ _ _ _ _ _ _ KF.type_class (KF.args_gs _ _ _) ?_;unfold Builtin.«getset_descriptor.__get__» descrGet;rw[dga_obj];refine Bp<|Bv ?_;unfold descrGetter descrCheckInstance descrNameAndClass isInstance;simp only[KF.owner_class]
 repeat lk
 refine And.intro (Hl _ ⋯)<|codeAny_builtin KF.entry_class ?_;unfold Builtin.«object.__class__» shownTypeOf
 repeat lk
 exact h
theorem JM(X:K.In s.heap)(I:KS s.heap x C)(G:D6 K C)(z:Q () s):wpAny M A (Lp "BaseException.__getattribute__" ⟨[.ref x,Nu],[]⟩) Q E s:=by
 obtain⟨f,g0,e,t0,g⟩:=s;have O:=ym (M:=M) I;have U:=looks_mroIn (M:=M) X G.mb;have b:builtinKind "BaseException.__getattribute__" = cI .slot:=by decide +kernel
 have Y:splitId "BaseException.__getattribute__" = cI ("BaseException","__getattribute__"):=by decide +kernel
 have a:=PySem.F.args_bexc_ga (.ref x) Nu;simp only[Lp,b,Y];refine Bp (show wpAny _ _ (isInstance (.ref x) (.type "BaseException")) _ _ _ from ?_);refine(O.andThen U).at ?_;rw[RQ ⋯];unfold argsOk at a;cases hs:Manifest.signature? "BaseException.__getattribute__" with
 | none=>exact Bv z
 | some d=>
  rw[hs]at a;exact GK a z
theorem VX(X:K.In s.heap)(I:KS s.heap x C)(G:D6 K C)(h:Q (cI (.ref C)) {s with toks:=s.toks+1}):wpAny (hH prog w) A (getAttr? (.ref x) "__class__") Q E s:=by obtain⟨a,g0,z,O,U⟩:=s;have Y:=ym (M:=hH prog w) I;have b:=looks_findIn (M:=hH prog w) X G.ga;have d:=looks_findIn (M:=hH prog w) X G.gn;have e:=bz (M:=hH prog w) (x:=x) X G;have B:=Fs.ga.bind (.ref x);unfold getAttr? getAttrBy? getAttrBy;refine Bp (wpAny_mkText (Bp (FD (CQ (Bp (Y.at (Bp (b.at ?_))))))));show wpAny _ _ (getAttrByItsOwn _ _ _ _ _ _) _ _ _;unfold getAttrByItsOwn;refine Bp (d.at ?_);refine Bp (FD (CQ ?_));show wpAny _ _ (boundAndCalled (.builtin "BaseException.__getattribute__") (.ref x) _) _ _ _;unfold boundAndCalled;refine Bp (GK B ?_);refine FN (Fq Fs.ga.plain PySem.F.entry_bexc_ga (JM (s:=⟨a,g0,z,O+1,U⟩) X I G ?_));refine Bp (Bv ?_);refine Bp (Bv ?_);refine Bp (Y.at (Bp (e.at ?_)));show wpAny _ _ (bindTo _ _ _ _) _ _ _;unfold bindTo;refine Bp (CQ (FN (bA (s:=⟨a,g0,z,O+1,U⟩) X I G ?_)));refine Bv ?_;exact Bv (Bv h)
theorem J6(h:WV K C=d6):D6 K C:=by unfold WV at h;simp only[Bt,beq_iff_eq]at h;exact⟨h.1.1.1.1.1.1.1.1.2,h.1.1.1.1.1.1.1.2,h.1.1.1.1.1.1.2,h.1.1.1.2,h.1.1.2,h.1.1.1.1.1.2,h.1.1.1.1.2⟩
theorem Xm(G:D6 K C)(Y:(clsIn K C).isSome=d6):KitX K (.ref x) (.ref C) (λh=>KS h x C) where
 ty:=λ_ _ _ I=>ym I
 it:=λ_ _ X _=>by
  obtain⟨cd,O⟩:=Ec.mp Y;unfold clsIn at O;split at O
  ·rename_i c' d' a2 a3 U
   intro A' Q' E' s' k q;unfold isType loadHead;exact Bp<|wpAny_loadPart (k _ _<|X _ _ U)<|Bv q
  ·cases O
 ne:=λh tp dd a7 n sl X a4=>by
  obtain⟨cd,O⟩:=Ec.mp Y;refine Bool.eq_false_iff.mpr λq=>?_;have e:C=tp:=BU.inj<|beq_iff_eq.mp q;subst e;unfold clsIn at O;split at O
  ·rename_i c' d' a2 a3 U
   have z:=(X _ _ U).symm.trans a4;cases z
  ·cases O
 ca:=λX I k=>VX X I G k
theorem K7(h:WV K C=d6):(clsIn K C).isSome=d6:=by
 unfold WV at h;simp only[Bt]at h;have:=h.1.2;cases q:clsIn K C with
 | none=>rw[q]at this;cases this
 | some a=>rfl
end
end DL
namespace DL
open PySem PySem.Spec PyProof.Rows L2
section
variable{X:Cx}{sc:i7}{N T:List Str}{k:Nat}{e a b c:hI}{pos p p2:ik}{f g:CO D}{fq:CO (Sk×List D)}
theorem VG(h:o3 n i=cI j):E2 n i=cI j:=by
 unfold o3 at h;unfold E2;split at h
 ·rename_i a;rw[MY a.1,MY a.2];exact h
 ·split at h
  ·rename_i a b;rw[RQ ⋯,MY ⋯];exact h
  ·cases h
theorem zK(J:PQ X a fq)(Z:PV X b g)(hs:QL b:=by intro _ _;rfl):PV X (.Subscript a b pos) (gB fq g):=
 jB (me (Np.or mX) J Z hs) λK H Q B=>by
  obtain⟨n,m,d,rc,z,q⟩:=B;obtain⟨⟨l,u⟩,w,z⟩:=zc z;obtain⟨i,O,z⟩:=zc z;obtain⟨t,y,O⟩:=zc O;obtain⟨j,A,z⟩:=zc z;refine⟨n,m,l,u,rc,w,λp f E e ext k F r=>⟨e,m,t,rc.ext ext,y,λG o s I U=>?_⟩⟩;rw[jm O]at U;obtain⟨x,C,rx⟩:=r.get z;have Y:DP f i=cI x:=by unfold DP;rw[r.length,VG A];exact C
  have h:=q x o s (ext.trans I)<|rx.mono I.s0;cases l with
  | L=>exact .inl ⟨p,f,i,x,rfl,jk U,I.s1.seq k,Y,h⟩
  | T=>exact .inr ⟨p,f,i,x,rfl,jk U,qs I.s1 k,Y,h⟩
theorem yG{P:i8}{w:i5}{A:l9}{E:MQ}{s:hA}{t J:eH}{z:Array eM}{O U:eM}{lo H:Option Int}{Q:MQ}(I:HR s.heap t z)(Y:s.heap.IsSliceOf J O U .none)(Z:Dp O lo)(pu:Dp U H)
 (L:HT.gB z.size 0 lo=0/\HT.gB z.size z.size H=z.size) (h:Q (.ref t) s):wpAny (hH P w) A (Dy (.ref t)<|.ref J) Q E s:=by
 obtain⟨os,a,b,f⟩:=id Y;have d:s.TypeIs (.ref J) "slice":=⟨os,a,b⟩;unfold Dy
 try with_reducible refine CQ ?_
 first | refine Bp (Bv ?_) | skip
 refine Bp (NR I.typeIs ⋯ ?_);refine Bp (CS (name:=Eh "__getitem__") I.typeIs CH
  (Em CH I.typeIs entry_tuple_getitem ?_ (MS _ _)))
 show wpAny _ _ (Builtin.Tuple.tupleItemsOf (.ref t) >>= _) _ _ s;refine Bp<|ID I ?_;refine Bp<|Gz d ?_;rw[MY ⋯];refine Bp<|HT.yT Y Z pu ?_;have e:(((HT.gB z.size 0 lo:Nat):Int)==0 && (1:Int)==1 && (HT.gB z.size z.size H - HT.gB z.size 0 lo)==z.size)=d6:=by rw[L.1,L.2];simp
 show wpAny _ _ (if (((HT.gB z.size 0 lo:Nat):Int)==0 && (1:Int)==1 && (HT.gB z.size z.size H - HT.gB z.size 0 lo)==z.size)=d6 then _ else _) _ _ s;rw[MY e];refine Bp (m:=EX _) ?_;unfold EX;refine Bp<|Gz I.typeIs<|Bv ?_;rw[MY ⋯];exact Bp<|Hg<|Bv ⟨_,rfl,Bv h⟩
noncomputable def rz(K:Bo):V->Option Int->Option Int->Hp->VK->Prop:=λx lo d H Q=>∃a b,x = .ref a/\lb K H a b/\(HT.gB b.length 0 lo=0/\HT.gB b.length b.length d=b.length->Q (.ref a) H)/\∀p,H p=cS->Q (.ref p) (upd H p<|.tup<|gG b lo d)
theorem dW:IG X (rz X.K):=by
 intro d s p H x v n o lo f m Q I rx z g O h;obtain⟨a,b,rfl,U,k,l⟩:=h;by_cases e:HT.gB b.length 0 lo=0/\HT.gB b.length b.length f=b.length
 ·cases rx
  obtain⟨i,r,Y,t⟩:=I.tuple U;have j:i.toArray.size=b.length:=by rw[By];exact r.length.symm
  refine⟨"tuple",_,CH.lookup,Y.typeIs,?_⟩;exact yG Y z g O (by rw[j];exact e) ⟨.ref a,H,I,rfl,k e⟩
 ·exact iU d s p H (.ref a) v n o lo f m Q I rx z g O ⟨a,b,rfl,U,e,l⟩
theorem va(n d:Nat)(o:Option Int):ZQ n d o=HT.gB n d o:=by cases o<;>rfl
theorem ai{K:Bo}{H:Hp}{z:List D}{xs:List V}(r:gE K H z xs)(lo I:Option Int):gE K H (wx z lo I) (gG xs lo I):=by unfold wx gG;rw[<- va,<- va,r.length];exact(r.drop _).take _
theorem Wd{z:List D}{lo H:Option Int}(h:HT.gB z.length 0 lo=0/\HT.gB z.length z.length H=z.length):wx z lo H=z:=by unfold wx;rw[va,va,h.1,h.2];simp
noncomputable def tB(K:Bo)(f:CO (Option Int)):TO:=λg H Q=>∃d e o,RC K d H g e/\f e=cI o/\∀b a,Ext d H a b->Q o b
theorem qL:L2.PO X cS (tB X.K J4):=λa s d H Q I ⟨b,e,o,rc,z,q⟩=>eZ a s d H Q I (by cases z;exact q H b<|Ext.refl rc.sub)
theorem qK(h:PV X e f):L2.PO X (cI e) (tB X.K<|u4 f):=λa s m H Q I ⟨k,l,o,rc,z,q⟩=>eY h a s m H Q I (by
 obtain⟨i,g,O⟩:=zr z;obtain⟨d,U,g⟩:=zc g;subst O;refine⟨k,l,d,rc,U,λv j b x r=>?_⟩;rw[jm g]at r;exact⟨i,jk r,q j b x⟩)
theorem yN{lo J:Option hI}{O U:CO (Option Int)}(L:PV X a f)(hl:L2.PO X lo (tB X.K O))(Z:L2.PO X J (tB X.K U)):PV X (.Subscript a (.Slice lo J cS p2) pos) (YE f O U):=
 jB (Xh dW L hl Z) λN H Q C=>by
  obtain⟨m,g,d,rc,z,q⟩:=C;obtain⟨Y,y,z⟩:=zc z;obtain⟨l,A,z⟩:=zc z;obtain⟨u,B,z⟩:=zc z;refine⟨m,g,Y,rc,y,λv F b x r=>⟨b,g,l,rc.ext x,A,λG s I=>⟨s,g,u,(rc.ext x).ext I,B,λn t x3=>?_⟩⟩⟩;have k:=x.trans<|I.trans x3;cases Y with
  | tup M=>
   cases z;obtain⟨o,E,rfl,h,e⟩:=kS<|r.mono (I.trans x3).s0;have w:=e.length;refine⟨o,E,rfl,qs x3.sub h,λj=>?_,λp i=>?_⟩
   ·rw[w]at j
    exact q _ n t k (by rw[Wd j];exact qJ h e)
   ·exact q _ _ _ (k.trans<|Ext.alloc x3.sub i _)<|qJ (lb.of zu)<|(ai e _ _).mono (ja (jC x3.sub i) _)
  | _=>cases z
theorem Q4{K:Bo}{H:Hp}{z:List D}{xs:List V}(r:gE K H z xs) : ∀n:Nat,gE K H (Bu n z).flatten (Bu n xs).flatten
 | 0=>gE.nil
 | n+1=>by rw[EC,EC,Fj,Fj];exact r.append<|Q4 r n
theorem Y2(J:PQ X a fq)(Z:PQ X b gq):PO X (.BinOp a .Add b pos) (Jh fq gq):=
 jB (fj aN J Z) λF H Q u=>by
  obtain⟨j,i,B,rc,z,q⟩:=u;obtain⟨⟨w,Y⟩,o,z⟩:=zc z;obtain⟨⟨x,d⟩,r,z⟩:=zc z;cases w<;>cases x<;>try (simp at z;done)
  dsimp only at z;by_cases O:Y.length+d.length<=lim
  ·rw[MY O]at z;cases z
   refine⟨j,i,.L,Y,rc,o,λk g y m x1 s C e=>⟨m,i,.L,d,rc.ext x1,r,λl h A n I t E f=>⟨k,l,g,h,rfl,rfl,I.s1.seq s,t,kU (by rw[e.length,f.length];exact O),λp U=>?_⟩⟩⟩;exact q p (g++h) _ n (x1.trans<|I.trans<|Ext.hide I.sub U _) (vA (x1.trans I).s1 U) (jC I.sub U) zu<|(e.mono I.s0).append f
  ·rw[RQ O]at z;cases z
theorem mO{K:Bo}{t c:String}{b:Bool}(h:(if ((Ej t) == .type c)=d6 then cI d6 else if PySem.W.kitMeta c=d6 then (fastBuiltinMro t).map (·.contains (.type c))else cS)=cI b):CT K (.type t) (.type c)=cI b:=h
noncomputable def Ht:Ty->String
 | .int=>"int"
 | .bool=>"bool"
 | .str=>"str"
 | .tuple=>"tuple"
 | .list=>"list"
noncomputable def mP:D->String
 | .i3=>"NoneType"
 | .bl _=>"bool"
 | .int _=>"int"
 | .str _=>"str"
 | .tup _=>"tuple"
 | .lst _=>"list"
 | .exc _ _=>""
 | .o1 _ _=>"dict"
 | .n4 _ _=>"dict"
 | .ins _ _ _=>""
theorem Jy{K:Bo}(T:Ty)(d:D)(I : ∀c n,d ≠ .exc c n)(H : ∀c p t,d ≠ .ins c p t:=by intro _ _ _ z;exact nomatch z):CT K (.type<|mP d) (.type<|Ht T)=cI (bp T d):=by cases d<;>cases T<;>first | exact absurd rfl (I _ _) | exact absurd rfl (H _ _ _) | (dsimp only[mP,Ht,bp,VI,mZ,cW,cV,cY];exact mO ⋯)
theorem gu{K:Bo}{C:eH}(b:JD K C=d6):IA K C:=by unfold JD at b;simp only[Bt,beq_iff_eq]at b;exact⟨b.1,b.2.1,b.2.2.1,b.2.2.2.1⟩
theorem ng{K:Bo}{H:Hp}{a C z:eH}{fs:List (Str×V)}(b:JD K C=d6)(e:H a=cI (.ins C z fs)):y9 K H (.ref a) (.ref C):=by have c:=gu b;unfold JD at b;simp only[Bt,beq_iff_eq]at b;obtain⟨_,_,_,_,b5,b6,b7,b8,_⟩:=b;exact .ins e c b5 b6 b7 b8
theorem gj{K:Bo}{C:eH}{c:Str}{p t:D}(b:JD K C=d6)(T:Ty):CT K (.ref C) (.type<|Ht T)=cI (bp T<|.ins c p t):=by
 unfold JD at b;simp only[Bt,beq_iff_eq,GC,List.all_nil]at b;obtain⟨_,_,_,_,_,_,_,_,b1,b2,b3,b4,b5,_⟩:=b;cases T
 ·exact b1
 ·exact b2
 ·exact b3
 ·exact b4
 ·exact b5
theorem bo{L:MW}{σ:St}{J H:Hp}{s:hA}{A:l9}{E:MQ}{Q:MQ}{d:D}{x:V}{u:eM}(I:Inv X L σ H s)(sub:kr J H)(rx:RelV x u)(r:Rep X.K J d x)(T:Ty)
 (h : ∀Z,Q (.bool (bp T d)) {s with toks:=Z}):wpAny (hH X.prog X.w) A (call (.builtin "isinstance") [u,.type (Ht T)]) Q E s:=by
 cases d with
 | i3=>have e:=Jy (K:=X.K) T .i3<|λ_ _ z=>nomatch z;cases (show x = .i3 from r);cases (show u=Cy from rx);exact BO PySem.W.kitx_none I.l7 Ey e (λz=>nomatch z) h
 | bl y=>have e:=Jy (K:=X.K) T (.bl y)<|λ_ _ z=>nomatch z;cases (show x = .bl y from r);cases (show u=Value.bool y from rx);exact BO PySem.W.kitx_bool I.l7 Ey e (λz=>nomatch z) h
 | int i=>have e:=Jy (K:=X.K) T (.int i)<|λ_ _ z=>nomatch z;cases (show x = .int i from r);obtain⟨t,q⟩:=(show ∃t,u=FR i t from rx);cases q;exact BO PySem.W.kitx_int I.l7 Ey e (λz=>nomatch z) h
 | str y=>have e:=Jy (K:=X.K) T (.str y)<|λ_ _ z=>nomatch z;cases (show x = .str y from r);obtain⟨t,q⟩:=(show ∃t,u=Hb y t from rx);cases q;exact BO PySem.W.kitx_str I.l7 Ey e (λz=>nomatch z) h
 | tup l=>
  have e:=Jy (K:=X.K) T (.tup l)<|λ_ _ z=>nomatch z;obtain⟨a,f,rfl,b,g⟩:=kS r;cases (show u=BU a from rx);obtain⟨G,R,⟨o,O,U,_⟩,N⟩:=I.tuple<|qs sub b;exact BO PySem.W.kitx_tuple I.l7 ⟨o,O,U⟩ e (λz=>nomatch z) h
 | lst l=>
  have e:=Jy (K:=X.K) T (.lst l)<|λ_ _ z=>nomatch z;obtain⟨a,f,rfl,b,g⟩:=fS r;cases (show u=BU a from rx);obtain⟨G,R,p,N⟩:=I.list<|sub.seq b;obtain⟨o,O,U,_⟩:=p.isList;exact BO He I.l7 ⟨o,O,U⟩ e (λz=>nomatch z) h
 | exc c n=>
  obtain⟨a,rfl,Y⟩:=(show ∃a,x = .ref a/\vv X.K J c n a from r);cases (show u=BU a from rx);obtain⟨C,φ,g1,g2,g3,_⟩:=Y.ex;obtain⟨S,_,x1,_,_⟩:=kR Y.all Y.mem g1;obtain⟨p,_,_⟩:=(show l8 X.prog X.w H s.heap a (.ext φ)from I.ij a _<|sub _ _ g2);have e:CT X.K (.ref C) (.type<|Ht T)=cI (bp T<|.exc c n):=by
   unfold WV at x1;simp only[Bt,GC,List.all_nil,beq_iff_eq]at x1;have t:=x1.1.1.1.1.1.1.1.1.1.1;cases T
   ·exact t.1
   ·exact t.2.1
   ·exact t.2.2.1
   ·exact t.2.2.2.1
   ·exact t.2.2.2.2.1
  exact BO (Xm (J6 x1)<|K7 x1) I.l7 (g3 _ p) e (λz=>nomatch z) h
 | o1 j k=>
  have e:=Jy (K:=X.K) T (.o1 j k)<|λ_ _ z=>nomatch z;obtain⟨a,f,rfl,⟨P,_,_,o,b⟩,_⟩:=(show ∃a f,x = .ref a/\D1 J a j f/\gE X.K J k f from r);cases (show u=BU a from rx);obtain⟨_,_,_,_,_,M⟩:=(show l8 X.prog X.w H s.heap a (.ri o<|.dK<|P.zip f)from I.ij a _<|sub _ _ b);exact BO Ge I.l7 M.typeIs e (λz=>nomatch z) h
 | n4 j k=>
  have e:=Jy (K:=X.K) T (.n4 j k)<|λ_ _ z=>nomatch z;obtain⟨a,f,rfl,⟨_,o,zs,b,g,_⟩,_⟩:=(show ∃a f,x = .ref a/\IB X.K J a j f/\gE X.K J k f from r);cases (show u=BU a from rx);obtain⟨O,_⟩:=(show l8 X.prog X.w H s.heap a (Ma a o)from I.ij a _<|sub _ _ b);exact BO Ge I.l7 ⟨o,O,g.1.1⟩ e (λz=>nomatch z) h
 | ins c p t=>
  obtain⟨a,C,F,m,B,rfl,b,g,_,_⟩:=(show ∃a C F m B,x = .ref a/\G3 X.K c=cI C/\J a=cI (.ins C F<|IQ m B)/\Rep X.K J p m/\Rep X.K J t B from r);exact VH I rx (ng (Xp b)<|sub _ _ g) (gj (Xp b) T) h
theorem lG(T:Ty)(h:SX X sc N L k)(c:qR sc "isinstance" = d6)(z:X.mg "isinstance" = cS)(J:qR sc ty=d6)(z2:X.mg ty=cS)(hb:Dt ty=cI (.type (Ht T)))(Z:PV X a f)
 (U:iv [a,.Name ty p2] X.env=[(eF,hM a X.env),(eF,hM (.Name ty p2) X.env)]:=by rfl):PV X (.Call (.Name "isinstance" p) [a,.Name ty p2] [] pos) (DY T f):=by
 intro e s E H Q I ⟨i,C,d,rc,o,q⟩;obtain⟨Y,m,n⟩:=zr o;subst n;refine CI<|qU I (h.gl c).1 z Er ?_ ⋯ ⋯;refine CK ?_ (by rw[U];rfl) rfl;rw[U];show wpAny _ _ (A6 ((eF,hM a X.env)::o8 pos [(eF,hM (.Name ty p2) X.env)])) _ _ s;refine Ci<|ih (Z e s E H _ I ⟨i,C,Y,rc,m,λv g b x r=>(show(λv g=>∃b,Ext i H b g/\Rep X.K b Y v) v g from⟨b,x,r⟩)⟩) λu A t=>?_;obtain⟨x,j,O,w,l,x1,y⟩:=t;show wpAny _ _ (A6 ((eF,hM (.Name ty p2) X.env)::[])) _ _ A;refine Ci<|qU O (h.gl J).1 z2 hb ?_ (h.gl J).2.1 (h.gl J).2.2;refine EL ?_;exact bo O x1.sub w y T λB=>⟨.bl _,j,O.tok B,rfl,q _ j l x1 rfl⟩
end
section
variable{X:Cx}{sc:i7}{N L:List Str}{k:Nat}{e a b c:hI}{pos p p2:ik}{f g:CO D}{fq:CO (Sk×List D)}
theorem qB(h:SX X sc N L k)(c:qR sc "range" = d6)(z:X.mg "range" = cS)(H:PV X a f)(I:iv [a] X.env=[(eF,hM a X.env)]:=by rfl):ov X tg (.Call (.Name "range" p) [a] [] pos) (jz f):=Ki (h.gl c).1 z H I
theorem Xf(h:SX X sc N L k)(c:qR sc "range" = d6)(z:X.mg "range" = cS)(H:PV X a f)(I:PV X b g)(O:iv [a,b] X.env=[(eF,hM a X.env),(eF,hM b X.env)]:=by rfl)(U:iv [b] X.env=[(eF,hM b X.env)]:=by rfl) :
 ov X tg (.Call (.Name "range" p) [a,b] [] pos) (Zs f g):=Kh (h.gl c).1 z H I O U
theorem cF(h:SX X sc N L k)(c:qR sc "zip" = d6)(z:X.mg "zip" = cS)(H:PV X a f)(I:PV X b g)(O:iv [a,b] X.env=[(eF,hM a X.env),(eF,hM b X.env)]:=by rfl)(U:iv [b] X.env=[(eF,hM b X.env)]:=by rfl) :
 ov X (.Tuple elts x1 xr) (.Call (.Name "zip" p) [a,b] [] pos) (iY f g):=fg (h.gl c).1 z H I O U
theorem YT(h:SX X sc N L k)(c:qR sc "isinstance" = d6)(z:X.mg "isinstance" = cS)(H:qR sc "int" = d6)(I:X.mg "int" = cS)(J:PV X a f)
 (O:iv [a,.Name "int" p2] X.env=[(eF,hM a X.env),(eF,hM (.Name "int" p2) X.env)]:=by rfl):PV X (.Call (.Name "isinstance" p) [a,.Name "int" p2] [] pos) (DY .int f):=lG .int h c z H I Gk J O
theorem wL(h:SX X sc N L k)(c:qR sc "isinstance" = d6)(z:X.mg "isinstance" = cS)(H:qR sc "bool" = d6)(I:X.mg "bool" = cS)(J:PV X a f)
 (O:iv [a,.Name "bool" p2] X.env=[(eF,hM a X.env),(eF,hM (.Name "bool" p2) X.env)]:=by rfl):PV X (.Call (.Name "isinstance" p) [a,.Name "bool" p2] [] pos) (DY .bool f):=lG .bool h c z H I PyProof.Rows.boot_bool J O
theorem ao(J:PQ X a fq)(I : ∀z,E1 a X.env z=(do let v <- z;G7 a.pos;Dz [v] (truthy v)):=by intro _;rfl):o4 X a (dX fq):=
 Jn (aq J I) λn H Q O=>by
  obtain⟨j,l,t,rc,U,q⟩:=O;obtain⟨⟨h,b⟩,k,Y⟩:=zr U;subst Y;refine⟨j,l,h,b,rc,k,λp d i f ext g m r=>⟨!b.isEmpty,?_,q i f ext⟩⟩;have e:d.isEmpty=b.isEmpty:=by have:=r.length;cases d<;>cases b<;>simp_all
  rw[<- e];cases h with
  | L=>exact .inl ⟨d,g,rfl⟩
  | T=>exact .inr<|.inl ⟨d,g,rfl⟩
theorem lF(J:PV X a f):PV X (.UnaryOp .USub a pos) (pZ f):=
 jB (rL iL J) λk H Q z=>by obtain⟨h,j,d,rc,I,q⟩:=z;obtain⟨i,e,O⟩:=zr I;obtain⟨U,Y,e⟩:=zc e;subst O;refine⟨h,j,U,rc,Y,λv g b x r=>?_⟩;rw[jm e]at r;exact⟨i,jk r,q _ g b x rfl⟩
theorem Qh(i:Nat)(h:SX X sc N L k)(c:yz sc N i x=d6)(H:PV X a f)(z:iv [a] X.env=[(eF,hM a X.env)]:=by rfl)
 (I:HX (.Name x np) "append" X.env (hM (.Name x np) X.env)=hM (.Name x np) X.env:=by rfl)
 (O:((o8 cpos<|starEach [a] X.env).all (λx=> !x.1) && (Lm cpos<|keywordEach [] X.env).all (λx=>x.1.isSome)
   && decide ([a].length+([]:List D2).length+(if ([]:List D2).isEmpty then 0 else 1)<30))=d6:=by rfl)
 (U:(apos.endLine==cpos.line)=d6:=by rfl) (Y:vt (.Call (.Attribute (.Name x np) "append" apos) [a] [] cpos) cS pos.line X.env=pure eF:=by rfl) :
 o7 X (.Expr (.Call (.Attribute (.Name x np) "append" apos) [a] [] cpos) pos) (kT i f):=
 Ke i (fw PySem.F.plainAttrs_list PySem.F.slot_list_append PySem.F.type_list_append Vr (h.var c) (z7 H jT z) I O U z rfl) Y
theorem j6(i:Nat){st:l0}{f:CO (List D)}(h:PS X st (QW (tO X.K f)<|ke i)):o7 X st (jn i<|qS f):=ka h λD t H O=>by obtain⟨E0,E,g,n,p,z,I,U⟩:=O;obtain⟨d,b,I⟩:=zr I;obtain⟨k,Y,b⟩:=zr b;subst I b;exact⟨g,n,k,z.rc,Y,λa s o j x l e m r=>U _ _ _<|(z.step<|x.show l e m z.rc.sub).C7 (YM (kv.of zu)<|r.mono<|ja e _)⟩
theorem NA(i:Nat)(h:SX X sc N L k)(c:xD sc N L i y=d6)
 (z:X.calm=d6) (ok:y6 X scope fr) (I : ∀i∈T.idx,i<own.length) (Z:A9 X tg iter src) (O : ∀fp J H,PG (z6 X scope (own++fr.map (·.1)) fp J H) tg<|wy X.K T)
 (U : ∀fp J H,PV (z6 X scope (own++fr.map (·.1)) fp J H) elt f) (Y : ∀x,vp iter X.env x=pure x:=by intro _;rfl) :
 PS X (.Assign [.Name y py] (.ListComp elt [⟨tg,iter,[],0⟩] scope cpos) spos) (QW (tO X.K<|zN src T own.length (fr.map (·.2)) jX f)<|ke i):=by
 obtain⟨a,b,d⟩:=h.loc c;exact aB h.G4 a b d z ok I Z O U Y
theorem rH(i:Nat)(h:SX X sc N L k)(c:xD sc N L i y=d6)
 (z:X.calm=d6) (ok:y6 X scope fr) (I : ∀i∈T.idx,i<own.length) (Z:A9 X tg iter src) (O : ∀fp J H,PG (z6 X scope (own++fr.map (·.1)) fp J H) tg<|wy X.K T)
 (hk : ∀fp J H,o4 (z6 X scope (own++fr.map (·.1)) fp J H) F2 kk) (U : ∀fp J H,PV (z6 X scope (own++fr.map (·.1)) fp J H) elt f) (Y : ∀x,vp iter X.env x=pure x:=by intro _;rfl) :
 PS X (.Assign [.Name y py] (.ListComp elt [⟨tg,iter,[F2],0⟩] scope cpos) spos) (QW (tO X.K<|zN src T own.length (fr.map (·.2)) kk f)<|ke i):=by
 obtain⟨a,b,d⟩:=h.loc c;exact Kf h.G4 a b d z ok I Z O hk U Y
theorem vw(i:Nat)(h:SX X sc N L k)(c:yz sc N i x=d6)(hi:PV X b g)(he:PV X e f)
 (Z : ∀v,Df (.Subscript (.Name x np) b p) X.env v=(do
   let I <- Dz [v] (hM (.Name x np) X.env);let Y <- Dz [v,I] (hM b X.env)
   G7 p
   Dz [v,I,Y] (Mv I Y v)
   release [v,I,Y] []):=by intro _;rfl)
 (hs:LJ [.Subscript (.Name x np) b p] e pos.line X.env=pure eF:=by rfl) (hw:Mw [.Subscript (.Name x np) b p] e X.env=pure cS:=by rfl)
 (J:(Ds [.Subscript (.Name x np) b p] X.env).map (·.2)=[Df (.Subscript (.Name x np) b p) X.env]:=by rfl) :
 o7 X (.Assign [.Subscript (.Name x np) b p] e pos) (vm i g f):=
 ka (YY he (lW (h.var c) hi W6 Z) hs hw J) λD σ H Q=>by obtain⟨E0,E,w,u,W,t,z,y⟩:=Q;obtain⟨d,G,z⟩:=zc z;obtain⟨F,O,z⟩:=zc z;obtain⟨R,n,z⟩:=zc z;obtain⟨C,K,n⟩:=zc n;obtain⟨j,M,z⟩:=zr z;subst z;have O:=kl O;refine⟨w,u,d,t.rc,G,λv S l x r=>?_⟩;have m:=t.step x;obtain⟨a,xs,J,h2,P,o⟩:=m.rc.own i F O;refine⟨_,J,l,u,C,m.rc,K,λv2 T A U s=>?_⟩;rw[jm n]at s;have B:=m.step U;refine⟨a,xs,R,j,rfl,jk s,U.s1 _ _ P,by rw[o.length];exact VG M,?_⟩;exact y _ _ A<|B.rewrite (xs:=xs) O J<|(o.mono U.s0).set j (r.mono U.s0)
theorem Xb(O:PG X tg (wy X.K T))(U:PV X e f)(Y:LJ [tg] e pos.line X.env=pure eF:=by rfl)(Z:Mw [tg] e X.env=pure cS:=by rfl)
 (J:(Ds [tg] X.env).map (·.2)=[Df tg X.env]:=by rfl):o7 X (.Assign [tg] e pos) (YF T f):=
 ka (YY U O Y Z J) λD p H l=>by obtain⟨E0,E,h,m,o,I,z,i⟩:=l;obtain⟨d,j,z⟩:=zc z;obtain⟨n,k,z⟩:=zr z;subst z;refine⟨h,m,d,I.rc,j,λv g a x r=>?_⟩;exact vS x.sub r k λb _ a5=>i b g a<|a5 E0 E<|I.step x
end
structure fh(P:i8)(w:i5)(K:Bo)(mg:MJ)(base:ia)(k:Nat)(x:Str)(n:Nat)(F:List D->Option Res):Prop where
 ex : ∃(f:eH) (fd:ts) (ps:List Str),ps.length=n/\t4 P w K mg base t2 k f fd ps (u5 K ps.length F)/\mg x=cI (.ref f)/\Ek K (.ref f)=d6/\Binds K fd ps []
structure ie(K:Bo)(mg:MJ)(x:Str)(st:l0)(ps:List Str):Prop where
 ex : ∃(f:eH) (fd:ts),L2.B5 K x x st f fd/\(∀us:List eM,us.length=ps.length->bindArgs fd ⟨us,[]⟩=pure (ps.zip us))/\mg x=cI (.ref f)
noncomputable def y8(X:Cx)(z:List hI)(n:Nat)(g:CO (List D)):Prop:=Dq X z g/\∀b a,g b=cI a->a.length=n
section
variable{X:Cx}{sc:i7}{N L:List Str}{k:Nat}{e:hI}{es:List hI}{f:CO D}{g:CO (List D)}{n:Nat}{pos p:ik}{x:Str}
theorem ze:y8 X [] 0 zx:=⟨fA,λb a h=>by cases h;rfl⟩
theorem za(H:PV X e f)(z:y8 X es n g)(I:iv (e::es) X.env=(eF,hM e X.env)::iv es X.env:=by rfl):y8 X (e::es) (n+1) (zb f g):=
 ⟨aK H z.1 I,λa b h=>by obtain⟨y,d,h⟩:=zc h;obtain⟨r,O,h⟩:=zr h;subst h;rw[Et,z.2 a r O]⟩
variable{j:Nat}{F:List D->Option Res}
theorem lJ(J:fh X.prog X.w X.K X.mg X.base j x n F)(z:j<=k)(h:SX X sc N L k)(c:qR sc x=d6)(H:y8 X (e::es) n g)
 (I:iv (e::es) X.env=(eF,hM e X.env)::iv es X.env:=by rfl) (O:(o8 pos<|starEach es X.env).any (·.1)=eF:=by rfl):PV X (.Call (.Name x p) (e::es) [] pos) (zq F g):=by
 obtain⟨f,i,l,d,G,b,a,U⟩:=J.ex;subst d;exact eP (A0:=[]) G H.1 H.2 λ{t} Y=>Y7 G (h.room.mono z) (h.gl c).1 b a U .nil ml Y (h.gl c).2.2 I O
theorem rK(J:fh X.prog X.w X.K X.mg X.base j x n F)(z:j<=k)(h:SX X sc N L k)(c:qR sc x=d6)(H:y8 X (e::es) n g)
 (I:iv (e::es) X.env=(eF,hM e X.env)::iv es X.env:=by rfl) (O:(o8 pos<|starEach es X.env).any (·.1)=eF:=by rfl):PO X (.Call (.Name x p) (e::es) [] pos) (qi F g):=by
 obtain⟨f,i,l,d,G,b,a,U⟩:=J.ex;subst d;exact ff G H.1 H.2 λ{t} Y=>Y7 G (h.room.mono z) (h.gl c).1 b a U .nil ml Y (h.gl c).2.2 I O
end
section
variable{P:i8}{w:i5}{K:Bo}{mg:MJ}{base:ia}
noncomputable def ZO(N ps:List Str)(st:l0):Bool:=
 decide ((zB st).kind = .function) && decide ((zB st).isCoroutine=eF) && decide ((zB st).isGenerator=eF) && decide N.Nodup && decide (N.take ps.length=ps) &&
 ps.all (λx=>decide ((zB st).names.lookup x=cI .local) || decide ((zB st).names.lookup x=cI .cell)) && (zB st).names.all (λy=> !(y.2==BM))
theorem kA{N ps:List Str}{st:l0}(h:ZO N ps st=d6):E7 N ps (zB st):=by unfold ZO at h;simp only[Bt,decide_eq_true_eq,Ea,Cj,EB]at h;obtain⟨⟨⟨⟨⟨⟨a,b⟩,z⟩,I⟩,O⟩,U⟩,Y⟩:=h;exact⟨a,b,z,I,O,U,λy d e=>by have:=Y y d;rw[e]at this;exact absurd this ⋯⟩
theorem mj{X:Cx}(z:X.xe=λ_ _=>False):L5 (hH X.prog X.w) X.A X.env X.xe:=by rw[z];exact PassesOwn.never
theorem xi{x:Str}{st:l0}{N ps:List Str}{k:Nat}{F:CO Fl}(A:ie K mg x st ps)(J:ZO N ps st=d6)
 (I : ∀X:Cx,X.prog=P->X.w=w->X.K=K->X.mg=mg->X.base=base->SX X (zB st) N N k->X.xe=(λ_ _=>False)->XO X (jN st) F) :
 fh P w K mg base (k+1) x ps.length (jg N.length F):=by
 obtain⟨f,d,z,O,e⟩:=A.ex;have S:=kA J;refine⟨f,d,ps,rfl,gy z S λb A a s H E U=>?_,e,z.kp,.all O⟩;exact I _ rfl rfl rfl rfl rfl ⟨rfl,rfl,S.nd,rfl,U,λ_ _=> .inl rfl⟩ rfl
theorem uz{h:ia}{x:Str}{st:l0}{ps:List Str}{f:eH}{oc:eM}{od J:Option eH}{O:Array (Option eM)}{kV I L H ct:eM}(z:K.In h)(G:h.Ns p9 mg)
 (a:Fn K p9 x=cI (cI (.ref f))) (l:K.lookup f=cI ⟨oc,od,.func<|EM x x (kg st) (jN st) (zB st) .none kV I L J H ct,O⟩)
 (c:Gb K H x=d6) (Z:Ek K (.ref f)=d6)
 (b : ∀(kV I L:eM) (J:Option eH) (H ct:eM) (Y:List eM),Y.length=ps.length->bindArgs (EM x x (kg st) (jN st) (zB st) .none kV I L J H ct) ⟨Y,[]⟩=pure (ps.zip Y)):ie K mg x st ps:=
 ⟨f,_,dg l c Z,b kV I L J H ct,Gr z G a⟩
theorem sr{x:Str}{st:l0}{f:eH}{J:ts}{N ps:List Str}{k:Nat}{F:CO Fl}(z:L2.B5 K x x st f J)(L:ZO N ps st=d6)
 (I : ∀X:Cx,X.prog=P->X.w=w->X.K=K->X.mg=mg->X.base=base->SX X (zB st) N N k->X.xe=(λ_ _=>False)->XO X (jN st) F) :
 t4 P w K mg base t2 (k+1) f J ps (u5 K ps.length<|jg N.length F):=by
 have S:=kA L;exact gy z S λb A a s H E O=>I _ rfl rfl rfl rfl rfl ⟨rfl,rfl,S.nd,rfl,O,λ_ _=> .inl rfl⟩ rfl
theorem oK{F:List D->Option Res}{H:Hp}{a:eH}{J:List Int}(z:kv K H a (J.map V.int))(I:F [.lst (J.map D.int)]=cI (.val<|.bl d6)) :
 u5 K 1 F [.ref a] H (λv _=>v = .bl d6) λ_ _ _=>False:=by
 refine⟨H,[.lst (J.map D.int)],.val<|.bl d6,kr.refl _,gE.cons (YM z ?_) gE.nil,rfl,I,λv d b _ r=>r⟩;clear I z
 induction J with
 | nil=>exact gE.nil
 | cons n J O=>exact gE.cons rfl O
end
end DL
namespace DL
open PySem PySem.Spec PyProof.Rows L2
open PySem.W (KasT kas_sort kas_ask kat_run kat_snds kat_lt kat_cons kat_no kat_kind KatTups KatGo)
noncomputable def nR(h:ia)(v:eM)(k:Int):Prop:=∃x o a m t,v = .ref x/\h.get? x=cI o/\o.cls = .type "tuple"/\o.data = .seq a m/\a[0]? = cI (.int k t)
theorem cU : ∀{vs:List eM} {ks:Nat->Int},(∀i (J:i<vs.length),nR h vs[i] (ks i))->∃fs,KatTups h vs fs/\fs.length=vs.length/\∀f∈fs,∃k t,f=FR k t
 | [],ks,_=>⟨[],KatTups.nil,rfl,λf hf=>by cases hf⟩
 | v::vs,ks,H=>by
  obtain⟨fs,b,d,z⟩:=cU (vs:=vs) (ks:=λi=>ks<|i+1) λi J=>H (i+1) (by simpa using J);obtain⟨x,o,e,m,t,a,I,O,U,Y⟩:=H 0 ⋯;have a:v = .ref x:=a;subst a;exact⟨.int (ks 0) t::fs,KatTups.cons I O U Y b,by simp[d],λf hf=>by
   rcases BC.mp hf with rfl | hf
   ·exact⟨_,_,rfl⟩
   ·exact z f hf⟩
end DL
namespace DL
open PySem PySem.Spec PyProof.Rows L2
open AutoSeq1 (wpAny_loadPart')
theorem yV:fillsNumberSlot (.type "tuple") "mul" = pure eF:=
 PySem.fillsNumberSlot_seq (id:="tuple.__mul__") (r:=cI (.builtin "tuple.__rmul__")) IC.lookup ⋯ F.slot_tuple_rmul.lookup ⋯
theorem Jl:seqRepeat? (.type "tuple")=pure (cI (.builtin "tuple.__mul__")):=by unfold seqRepeat?;rw[PySem.seqSlot_of (T:="tuple") (name:="__mul__") (id:="tuple.__mul__") IC.lookup ⋯,PySem.seqSlot_of (T:="tuple") (name:="__rmul__") (id:="tuple.__rmul__") F.slot_tuple_rmul.lookup ⋯];rfl
theorem wu(a:Int)(t:Tok)(l:eH)(z:Array eM)(n:Nat)(dd:Option eH)(H:Array (Option eM)) :
 E8 (Builtin.«int.__rmul__» ⟨[.int a t,.ref l],[]⟩) (λ_ R s=>s.heap.get? l=cI {cls:= .type "tuple",dict:=dd,data:= .seq z n,slots:=H}/\R (.ok (.ret Value.notImplemented)) s):=
 .of_wp λb w A R s h=>by obtain⟨I,g,d,e,os⟩:=s;obtain⟨O,h⟩:=h;wp_walk;exact⟨_,rfl,h⟩
theorem Zo(a:Int)(t:Tok)(l:eH)(z:Array eM)(n:Nat)(dd:Option eH)(L:Array (Option eM))(H : ¬(decide (a < -(2 ^ 63)) || decide (a>=2 ^ 63))=d6)(J : ¬(z.isEmpty || a==1)=d6)
 (O : ¬(decide (a<=0) || z.isEmpty)=d6) (U : ¬((z.size:Int)*a>(2 ^ 63 - 1)/8)) (Y : ¬Builtin.Tuple.tupleTooMany ((z.size:Int)*a)=d6) (hz:((Bu a.toNat z).foldl (· ++ ·) #[]).size<=i6) :
 E8 (Builtin.«tuple.__mul__» ⟨[.ref l,.int a t],[]⟩) (λ_ R s=>s.heap.get? l=cI {cls:= .type "tuple",dict:=dd,data:= .seq z n,slots:=L}/\
  R (.ok (.ret (.ref s.heap.objs.size))) {s with heap:=s.heap.push {cls:= .type "tuple",data:= .seq ((Bu a.toNat z).foldl (· ++ ·) #[])}}):=
 .of_wp λb w A R s h=>by
  obtain⟨e,g,d,f,os⟩:=s;obtain⟨I,h⟩:=h
  wp_walk using Eu I
  rw[RQ H];refine Bp<|ID (s:=⟨e,g,d,f,os⟩) ⟨_,I,rfl,n,rfl⟩ ?_;dsimp only;rw[RQ J,RQ O,RQ U,RQ Y];refine Bp (m:=Ei _)<|Es ?_ hz;exact Bv ⟨_,rfl,h⟩
theorem wm(a:Int)(t:Tok)(l:eH)(z:Array eM)(n:Nat)(dd:Option eH)(L:Array (Option eM))(H : ¬(decide (a < -(2 ^ 63)) || decide (a>=2 ^ 63))=d6)(J : ¬(z.isEmpty || a==1)=d6)
 (O:(decide (a<=0) || z.isEmpty)=d6) :
 E8 (Builtin.«tuple.__mul__» ⟨[.ref l,.int a t],[]⟩) (λ_ R s=>s.heap.get? l=cI {cls:= .type "tuple",dict:=dd,data:= .seq z n,slots:=L}/\
  R (.ok (.ret (.ref s.heap.objs.size))) {s with heap:=s.heap.push {cls:= .type "tuple",data:= .seq #[]}}):=
 .of_wp λb w A R s h=>by
  obtain⟨U,g,d,e,os⟩:=s;obtain⟨I,h⟩:=h
  wp_walk using Eu I
  rw[RQ H];refine Bp<|ID (s:=⟨U,g,d,e,os⟩) ⟨_,I,rfl,n,rfl⟩ ?_;dsimp only;rw[RQ J,MY O];refine Bp (m:=Ei _)<|Es ?_ (Eo _);exact Bv ⟨_,rfl,h⟩
theorem wj(a:Int)(t:Tok)(l:eH)(I:Array eM)(n:Nat)(dd:Option eH)(L:Array (Option eM))(H : ¬(decide (a < -(2 ^ 63)) || decide (a>=2 ^ 63))=d6)(J:(I.isEmpty || a==1)=d6) :
 E8 (Builtin.«tuple.__mul__» ⟨[.ref l,.int a t],[]⟩) (λ_ R s=>s.heap.get? l=cI {cls:= .type "tuple",dict:=dd,data:= .seq I n,slots:=L}/\R (.ok (.ret (.ref l))) s):=
 .of_wp λb w A R s h=>by
  obtain⟨O,g,d,e,os⟩:=s;obtain⟨z,h⟩:=h
  wp_walk using Eu z
  rw[RQ H];refine Bp (ID (s:=⟨O,g,d,e,os⟩) ⟨_,z,rfl,n,rfl⟩ ?_);dsimp only;rw[MY J];refine Bp (m:=EX _) ?_;unfold EX;refine Bp (Gz (T:="tuple") ⟨_,z,rfl⟩ (Bv ?_));rw[MY ⋯];exact Bp (Hg (Bv ⟨_,rfl,h⟩))
section
variable{X:Cx}
noncomputable def lz(K:Bo):R2:=λx y H Q=>∃l k a,x = .ref l/\y = .int k/\lb K H l a/\ -(2 ^ 62)<=k/\k<2 ^ 62/\a.length*k.toNat<=i6/\(a=[]\/k=1->Q (.ref l) H)/\
 ∀p,H p=cS->Q (.ref p) (upd H p<|.tup (Bu k.toNat a).flatten)
theorem fB:mu X (B0 .Mult) (lz X.K):=by
 intro C s σ H x y v u Q I rx ry h;obtain⟨l,k,G,rfl,rfl,R,h1,h2,B,Z,E⟩:=h;cases rx;obtain⟨t,rfl⟩:=ry;obtain⟨z,r,S,z1⟩:=I.tuple R;obtain⟨⟨P,a,i,b⟩,O,p,n,w⟩:=id S;simp only at p w;subst p w;have J:=r.length;have g1 : ¬(decide (k < -(2 ^ 63)) || decide (k>=2 ^ 63))=d6:=by simp;omega
 refine wpAny_binaryOp_repeat_ref (T:="tuple") (U:="int") ⋯ ⟨_,O,rfl⟩ (λs'=>ME s' k t) yV F.fills_int_mul F.slot_int_rmul Jl F.slot_int_index.lookup
  (Gi F.slot_int_rmul (ME s k t) F.entry_int_rmul (F.args_int_rmul_2 _ _) (wu k t l z.toArray n a b) ⟨O,rfl,⟨_,O,rfl⟩,?_⟩)
 have j : ∀m:Nat,List.foldl (λx1 f=>x1++f) #[] (Bu m z.toArray)=(Bu m z).flatten.toArray:=λm=>by have:=JK z m [];rw[List.nil_append]at this;exact this
 by_cases g2:(z.toArray.isEmpty || k==1)=d6
 ·refine Gi IC ⟨_,O,rfl⟩ HI (Hz _ _) (wj k t l z.toArray n a b g1 g2) ⟨O,⟨.ref l,H,I,rfl,Z ?_⟩⟩
  rw[Cj]at g2;rcases g2 with g | g
  ·left
   have:z=[]:=by simpa using g
   exact(r.IW).mp this
  ·right;simpa using g
 ·have d:=g2
  simp only[Cj,not_or]at d;have L:z ≠ []:=by intro e;exact d.1 (by rw[e];rfl)
  have ap:0<z.length:=List.length_pos_iff.mpr L;by_cases Y:(decide (k<=0) || z.toArray.isEmpty)=d6
  ·have A:k.toNat=0:=by
    rw[Cj]at Y;rcases Y with g | g
    ·have:=of_decide_eq_true g;omega
    ·exact absurd g d.1
   refine Gi IC ⟨_,O,rfl⟩ HI (Hz _ _) (wm k t l z.toArray n a b g1 g2 Y) ⟨O,?_⟩;refine⟨.ref s.heap.objs.size,_,I.laid (t':=s.toks) (o:= .tup (Bu k.toNat G).flatten) (λc W q=>Bq _ q) (BB _) ?_,rfl,E _<|I.ij.fresh<|BB _⟩;rw[A];exact⟨Eo _,[],.nil,Dd.new _ _⟩
  ·have A : ¬k<=0:=by intro g;exact Y (by rw[Cj];exact .inl<|decide_eq_true g)
   have M:z.length*k.toNat<=i6:=by rw[<- J];exact B
   have ar:((z.toArray.size:Nat):Int)*k<=(i6:Int):=by
    rw[By];have e:((z.length*k.toNat:Nat):Int)=(z.length:Int)*k:=by rw[Int.natCast_mul,Int.toNat_of_nonneg ⋯]
    omega
   have as:i6=16777216:=EZ;have N:(List.foldl (λx1 f=>x1++f) #[] (Bu k.toNat z.toArray)).size<=i6:=by rw[j,By,Vx,HC];exact M
   refine Gi IC ⟨_,O,rfl⟩ HI (Hz _ _) (Zo k t l z.toArray n a b g1 g2 Y ⋯ (by unfold Builtin.Tuple.tupleTooMany;simp only[decide_eq_true_eq];omega) N) ⟨O,?_⟩;rw[j];refine⟨.ref s.heap.objs.size,_,I.laid (t':=s.toks) (o:= .tup (Bu k.toNat G).flatten) (λc W q=>Bq _ q) (BB _) ?_,rfl,E _<|I.ij.fresh<|BB _⟩;exact⟨by rw[Vx,HC];exact B,_,r.rep k.toNat,Dd.new _ _⟩
theorem dQ{K:Bo}:rb K (λx y H Q=>rI E6 (λi j=> .int (i*j)) x y H Q\/lz K x y H Q) J5:=λh H x y k Y d Q s rx O z q=>by
 cases k<;>cases Y<;>simp[J5]at z
 ·obtain⟨l,I⟩:=z
  subst I;exact .inl ⟨_,_,jk rx,jk O,bQ l,q _ H h (Ext.refl s) rfl⟩
 ·rename_i f j
  obtain⟨⟨n,m⟩,rfl⟩:=z;obtain⟨a,t,rfl,g,b⟩:=kS rx;obtain⟨o,r⟩:=ZG m;refine .inr ⟨a,j,t,rfl,jk O,qs s g,o,r,kU (by rw[b.length];exact n),λe=>?_,λp U=>?_⟩
  ·refine q _ H h (Ext.refl s) ?_
   rcases e with e | e
   ·have I:f=[]:=by
     have:=b.length;rw[e]at this;exact Cf this.symm
    subst I;rw[show(Bu j.toNat ([]:List D)).flatten=[]by simp];exact qJ g b
   ·subst e
    rw[show(Bu (1:Int).toNat f).flatten=f by simp];exact qJ g b
  ·exact q _ _ _ (Ext.alloc s U _)<|qJ (lb.of zu)<|(Q4 b _).mono (ja (jC s U) _)
theorem ya(H:PV X a fa)(z:PV X b fb):PV X (.BinOp a .Mult b pos) (zw J5 fa fb):=wN (Nz.or fB) dQ H z
end
end DL
namespace L2
open PySem PySem.Spec PyProof.Rows
open AutoSeq1 (wpAny_loadPart')
section
variable{prog:i8}{w:i5}{A:l9}{E:MQ}{s:hA}
theorem KB{z it l:eH}{n:Nat}{xs:Array eM}{x U:eM}{Q:MQ}(hz:B6 s.heap z it n U)(Z:n7 .T s.heap it l n)(hl:rd .T s.heap l xs)(hx:xs[n]? = cI x)(H:z≠it)
 (hQ : ∀g,Ld g z it ((n:Int)+1) x s.heap.objs.size->n7 .T g it l (n+1)->q5 g s.heap.objs.size (.int n s.toks) x->g.objs.size=s.heap.objs.size+1->
   (∀c o,c≠z->c≠it->s.heap.get? c=cI o->g.get? c=cI o)->Q (.ref s.heap.objs.size) {s with heap:=g,toks:=s.toks+1}) :
 wpAny (hH prog w) A (Builtin.«enumerate.__next__» ⟨[.ref z],[]⟩) (λJ s'=>∃v,J = .done (.ret v)/\Q v s') E s:=by
 refine Bp (m:=field (.ref z) 2) (Cw hz rfl (x:= .ref it) rfl ?_);refine Bp (m:=BS (.ref it)) (ye Z hl hx λg1 G d=>?_);have f:B6 g1 z it n U:=d.extBut _ _ H hz;refine Bp (m:=field (.ref z) 3) (Cw f rfl (x:=DX n) rfl ?_);refine Bp (m:=field (.ref z) 4) (Cw f rfl (x:= .none) rfl ?_);refine Bp (m:=mkInt n) (wpAny_mkInt ?_);refine Bp (m:=Ii (.ref z) 3 (DX ((n:Int)+1))) (CY f ⋯ λg2 A2 h=>?_);replace A2:B6 g2 z it ((n:Int)+1) U:=A2;refine Bp (m:=Ii (.ref z) 4 .none) (CY A2 ⋯ λY i j=>?_);replace i:B6 Y z it ((n:Int)+1) U:=i;refine Bp (m:=newTuple [.int n s.toks,x]) (NP ?_);have b:B6 (Y.push {cls:= .type "tuple",data:= .seq #[.int n s.toks,x]}) z it ((n:Int)+1) U:=Bq _ i;generalize a4:Y.push {cls:= .type "tuple",data:= .seq #[.int n s.toks,x]}=O at b;have S:g1.objs.size=s.heap.objs.size:=d.1;have W:g2.objs.size=g1.objs.size:=h.1;have X:Y.objs.size=g2.objs.size:=j.1;have k:Y.objs.size=s.heap.objs.size:=by rw[X,W,S]
 have K:z<s.heap.objs.size:=Bz hz;have L:q5 O s.heap.objs.size (.int n s.toks) x:=by show O.get? _=_;rw[<- a4,<- k];exact BI _ rfl
 have y4:O.objs.size=s.heap.objs.size+1:=by rw[<- a4,Cm,k]
 have c4 : ∀c o,c≠z->c≠it->s.heap.get? c=cI o->O.get? c=cI o:=λc o I u e=>by rw[<- a4];exact Bq _<|j.extBut _ _ I<|h.extBut _ _ I<|d.extBut _ _ u e
 have M:n7 .T O it l (n+1):=G.at λo e=>by rw[<- a4];exact Bq _<|j.extBut _ _ H.symm<|h.extBut _ _ H.symm e
 refine Bp (m:=Cn<|.ref z) ?_;unfold Cn;refine Bp<|Cw b rfl (x:= .none) rfl<|Bv ?_;simp only[if_true];refine Bp<|Hg<|Bp<|Cw b rfl (x:=U) rfl ?_;refine Bp<|CY b ⋯ λy p C=>?_;replace p:B6 y z it ((n:Int)+1) x:=p;rw[k];refine Bp (m:=El (.ref z)<|.ref s.heap.objs.size) ?_;unfold El;refine Bp<|CY p ⋯ λg6 r as=>?_;replace r:Ld g6 z it ((n:Int)+1) x s.heap.objs.size:=r;refine CY r ⋯ λa t F=>?_;replace t:Ld a z it ((n:Int)+1) x s.heap.objs.size:=t;have B : ∀c o,c≠z->O.get? c=cI o->a.get? c=cI o:=λc o I e=>F.extBut _ _ I<|as.extBut _ _ I<|C.extBut _ _ I e;have y7:a.objs.size=s.heap.objs.size+1:=by have N:y.objs.size=O.objs.size:=C.1;have P:g6.objs.size=y.objs.size:=as.1;have R:a.objs.size=g6.objs.size:=F.1;rw[R,P,N,y4]
 exact Bp<|wpAny_letGo<|Bv ⟨_,rfl,hQ a t (M.at λo e=>B _ o H.symm e) (B _ _ (EI K) L) y7 λc o I u e=>B c o I<|c4 c o I u e⟩
theorem V2{z it l:eH}{n:Nat}{xs:Array eM}{I:eM}{Q:Fin->hA->Prop}(O:A.handled=cS)(hz:B6 s.heap z it n I)(H:n7 .T s.heap it l n)(U:rd .T s.heap l xs)(Y:xs[n]? = cS)
 (J : ∀g e,Heap.ExtBut it s.heap g->(∃o,g.get? e=cI o/\o.cls = .type "StopIteration")->E (.ref e) {s with heap:=g}) :
 wpAny (hH prog w) A (Builtin.«enumerate.__next__» ⟨[.ref z],[]⟩) Q E s:=
 Bp (m:=field (.ref z) 2) (Cw hz rfl (x:= .ref it) rfl<|Bp (m:=BS<|.ref it)<|ZA O H U Y J)
end
noncomputable def gz(i:eH):m7:={cls:= .type "enumerate",data:= .fields #[.none,.bool eF,.ref i,DX 0,.none,.none]}
def vM(h:ia)(l:eH):ia:=Cq (Cq h<|pa .T l)<|gz h.objs.size
theorem V1(l:eH)(xs:Array eM) :
 E8 (Builtin.«enumerate.__new__» ⟨[.type "enumerate",.ref l],[]⟩) (λ_ R s=>rd .T s.heap l xs/\R (.ok (.ret (.ref (s.heap.objs.size+1)))) {s with heap:=vM s.heap l}):=
 .of_wp λb w A R s h=>by
  obtain⟨U,g,d,f,os⟩:=s;obtain⟨Y,h⟩:=h;have i:=sub_enumerate;have z:Heap.IsTuple (Shared.heap ⟨U,g,d,f,os⟩) l xs:=Y;obtain⟨o,I,O,m,a⟩:=id z;obtain⟨e,n4,j,k⟩:=o;simp only at O a;subst O a;simp only[vM,gz,pa,Cm]at h
  wp_walk using Eu I
  refine wpAny_stack_any λst=>Bv ?_;split
  ·rename_i c _ _ _ _ _
   cases (c==Ej "enumerate")<;>(wp_walk using Eu I,GA z;exact⟨_,rfl,by simpa[Cm,Gc]using h⟩)
  ·wp_walk using Eu I,GA z
   exact⟨_,rfl,by simpa[Cm,Gc]using h⟩
noncomputable def Le(K:Bo)(a:eH):It:=
 ⟨λi H=>∃b,ow .T K H a b/\i<b.length,
  λi H x d=>∃p u,x = .ref p/\H p=cS/\d=upd H p (.tup [.int i,u])/\(∀b,ow .T K H a b->b[i]? = cI u),
  λi H=>∃b,ow .T K H a b/\b.length<=i⟩
theorem yi(hz:B6 s.heap z it n old)(h:Q (.ref z) s):wpAny (hH prog w) A (IY (.ref z)) Q E s:=by have I:s.TypeIs (.ref z) "enumerate":=⟨_,hz,rfl⟩;refine wpAny_pyIter_slot I F.slot_enumerate_iter (Em F.slot_enumerate_iter I F.entry_enumerate_iter ?_ (F.args_enumerate_iter_1 _));have O:wpAny (hH prog w) A.in1 (ret (.ref z)) (λO a=>∃v,O = .done (.ret v)/\∃T m,a.TypeIs v T/\Iu (.type T) "__next__" = pure (cI m)/\Q v a) E s:=Bv ⟨_,rfl,"enumerate",_,I,Fk.lookup,h⟩;exact O
theorem Yi{P:i8}{w:i5}{K:Bo}{elts:List hI}{x1:Nat}{xr:ik}{z it a:eH}(ae:z≠it) :
 Turn P w K (.Tuple elts x1 xr) (Le K a) [z,it] z (λi h=>(∃Y,B6 h z it i Y)/\n7 .T h it a i) where
 mem:=by simp
 obj:=λi h ⟨⟨Y,hz⟩,h1⟩ y hy=>by
  simp only[BC,BR,or_false]at hy;rcases hy with rfl | rfl
  ·exact⟨_,hz,λv q=>by cases q⟩
  ·exact h1.obj
 keep:=λi h h' ⟨⟨Y,hz⟩,h1⟩ k=>⟨⟨Y,k z ⋯ _ hz⟩,h1.at λo e=>k it ⋯ o e⟩
 item:=by
  rintro X hP hw hK hc i pins s σ H E I hf ⟨⟨Y,hz⟩,h1⟩ ⟨xs,a7,ap⟩;subst hP hw hK;obtain⟨ar,aa,p1,z1⟩:=I.sq a7;have hx:xs[i]? = cI xs[i]:=Bx ap;obtain⟨u1,as,ax⟩:=aa.get hx;have hT:s.TypeIs (.ref z) "enumerate":=⟨_,hz,rfl⟩;unfold G6;refine Bp (FD (CS (name:=Eh "__next__") hT Fk (Em Fk hT F.entry_enumerate_next
   (KB hz h1 p1 (x:=u1) (by simpa using as) ae λg a1 a2 a3 a4 a5=>Bv ⟨_,rfl,?_⟩) (F.args_enumerate_next_1 _))))
  refine NO a1 λg2 A2 ac=>?_;have lt : ∀{c o},s.heap.get? c=cI o->s.heap.objs.size≠c:=λe=>EI<|Bz e;have bg:q5 g2 s.heap.objs.size (.int i s.toks) u1:=ac.extBut _ _ (lt hz) a3;have kk : ∀U u,U ∉ [z,it]->s.heap.get? U=cI u->g2.get? U=cI u:=λU u O e=>by simp only[BC,BR,or_false,not_or]at O;exact ac.extBut _ _ O.1<|a5 U u O.1 O.2 e
  have I1:Inv X pins σ (upd H s.heap.objs.size<|.tup [.int i,xs[i]]) {s with heap:=g2,toks:=s.toks+1}:=
   I.LN (fp:=[z,it]) kk hf (BB _) ⟨by show 2<=i6;decide,[.int i s.toks,u1],.cons ⟨_,rfl⟩<|.cons ax .nil,⟨_,bg,rfl,_,rfl⟩⟩
  have bl:H s.heap.objs.size=cS:=I.fresh;refine⟨.ref s.heap.objs.size,_,I1,rfl,⟨_,_,rfl,bl,rfl,λc4 bn=>by rw[I.LI bn a7];exact hx⟩,?_,λU O=>?_⟩
  ·exact⟨⟨_,by have:=A2;rwa [show((i:Int)+1)=((i+1:Nat):Int)by omega]at this⟩,a2.at λo e=>ac.extBut _ _ ae.symm e⟩
  ·have bv:U≠s.heap.objs.size:=by
    simp only[BC,BR,or_false]at O;rcases O with rfl | rfl
    ·exact(lt hz).symm
    ·obtain⟨o,e,_⟩:=h1.obj;exact(lt e).symm
   rw[zt bv];exact(hf U O).1
 done:=by
  rintro X hP hw hK hc i pins s σ H E I hf ⟨⟨Y,hz⟩,h1⟩ ⟨xs,a7,hi⟩;subst hP hw hK;obtain⟨ar,aa,p1,z1⟩:=I.sq a7;have hT:s.TypeIs (.ref z) "enumerate":=⟨_,hz,rfl⟩;have l1:=aa.length;unfold G6;refine Bp (FD (CS (name:=Eh "__next__") hT Fk (Em Fk hT F.entry_enumerate_next
   (V2 (show X.A.handled=cS from I.ok.hd hc) hz h1 p1 (by simp;omega) λg e hk he=>?_) (F.args_enumerate_next_1 _))))
  obtain⟨o,ho,c2⟩:=he;refine Bp (wpAny_isInstance (T:="StopIteration") (b:=d6) ⟨o,ho,c2⟩ isSubtype_stop (Bv ⟨rfl,?_⟩));refine I.LO (t':=s.toks) (fp:=[z,it]) (λU u O e=>?_) hf;simp only[BC,BR,or_false,not_or]at O;exact hk U u O.2 e
 self:=λ_ _ _ _ _ st h=>yi st.1.choose_spec h
noncomputable def si(K:Bo)(z:TA):TI:=λf H R=>z f H λd b=>∃a,d=[.ref a]/\(∃e,ow .T K b a e)/\R (Le K a) b
theorem fi{X:Cx}{Z:hI}{ta:TA}{p pos:ik}{J:List hI}{x1:Nat}{L:ik}(hg:Gl X "enumerate")(hm:X.mg "enumerate" = cS)(ha:PA X [Z] ta)
 (hv:Dt "enumerate" = cI (.type "enumerate")) (hs:iv [Z] X.env=[(eF,hM Z X.env)]:=by rfl) :
 PI X (.Tuple J x1 L) (.Call (.Name "enumerate" p) [Z] [] pos) (si X.K ta):=by
 intro d s i H R I h;refine Iz<|qU I hg hm hv<|Eb (ih (ha pos d s i H _ I h) λA b r=>?_) (by rw[hs];rfl) rfl;obtain⟨B,f,z,u,t⟩:=r;obtain⟨a,e,⟨E,k⟩,q⟩:=t;subst e;obtain⟨C,n,l⟩:=kH u;subst n;cases l;obtain⟨m,x,g,G⟩:=z.sq k;have y:=g.lt;refine M5 F.called_enumerate ⋯ (F.typeCall_enumerate_1 _) (F.newCall_enumerate_1 _) (λobj=>F.args_object_init_2 obj _) F.entry_enumerate_new (V1 a m.toArray) ⟨g,?_⟩;have keep : ∀c o,b.heap.get? c=cI o->(vM b.heap a).get? c=cI o:=λc o e=>Bq _<|Bq _ e;have w:(Cq b.heap<|pa .T a).objs.size=b.heap.objs.size+1:=Cm ..;have g0:n7 .T (vM b.heap a) b.heap.objs.size a 0:=(wX .T b.heap a).at λo e=>Bq _ e;have O:B6 (vM b.heap a) (b.heap.objs.size+1) b.heap.objs.size 0 .none:=by have q:=BI (Cq b.heap<|pa .T a) (o:=gz b.heap.objs.size) rfl;rw[w]at q;exact q
 refine⟨⟨_,O,rfl⟩,yi (s:={b with heap:=vM b.heap a}) O ?_⟩;have j:Inv X d i f {b with heap:=vM b.heap a,toks:=b.toks}:=z.kept keep;refine⟨_,[b.heap.objs.size+1,b.heap.objs.size],_,_,f,rfl,j,Yi<|EI<|Ew _,⟨⟨_,O⟩,g0⟩,λc U=>?_,q⟩;have Y:b.heap.objs.size<=c:=by
  simp only[BC,BR,or_false]at U;rcases U with rfl | rfl
  ·exact Cz _ _
  ·exact BB _
 exact z.H9 Y<|z.ij.fresh Y
end L2
namespace DL
open PySem PySem.Spec PyProof.Rows L2
theorem yj{K:Bo}{H:Hp} : ∀{J:List D} {xs:List V} {l:List Int},gE K H J xs->yk J=cI l->xs=l.map V.int
 | [],xs,l,r,e=>by cases e;rw[show xs=[]from r];rfl
 | d::J,xs,l,r,e=>by
  obtain⟨x,f,rfl,z,I⟩:=(show ∃x r,xs=x::r/\Rep K H d x/\gE K H J r from r);cases d with
  | int i=>
   obtain⟨b,a,rfl⟩:=zr (show(yk J).map (λl=>i::l)=cI l from e);rw[yj I a,show x = .int i from z];rfl
  | _=>cases e
theorem vL : ∀l:List Int,(l.map V.int).all ZM=d6
 | []=>rfl
 | i::l=>by simp only[BY,GC,vL l,Bool.and_true];rfl
theorem Qw(i:Int) : ∀l:List Int,IS (.int i) (l.map V.int)=decide (i∈l)
 | []=>rfl
 | j::l=>by
  have z:=Qw i l;unfold IS at z ⊢;rw[BY,GB,z];have e:Dw (.int j) (.int i)=(j==i):=rfl;rw[e];by_cases h:i=j
  ·subst h
   rw[beq_self_eq_true,Bool.true_or];exact(decide_eq_true BQ).symm
  ·rw[beq_false_of_ne (CP h),Bool.false_or]
   exact decide_eq_decide.mpr ⟨λq=>BL _ q,λq=>(BC.mp q).resolve_left h⟩
theorem Yf{K:Bo}{J L:Hp}{a:eH}{xs:List V}{H:List D}(h:lb K L a xs)(r:gE K J H xs):Walk K J L (Le K a) (xy H):=by
 have n:=r.length;have o:(xy H).length=H.length:=by simp[xy]
 refine⟨λi b s l=>?_,λb s=>?_,λi b x g s l y=>?_⟩
 ·exact⟨xs,qs s h,by omega⟩
 ·exact⟨xs,qs s h,by omega⟩
 ·obtain⟨p,u,j,z,I,O⟩:=y
  obtain⟨d,k,U⟩:=r.F9<|O xs<|qs s h;refine⟨.tup [.int i,d],?_,λf m e=>⟨upd f p<|.tup [.int i,u],?_,?_⟩⟩
  ·have Y:i<H.length:=by omega
   unfold xy;rw[Ce,En Y,BZ,k];rfl
  ·rw[I];exact Ext.alloc e z _
  ·rw[j]
   exact qJ (lb.of zu)<|gE.cons (show V.int i = .int i from rfl)<|gE.cons ((U.mono m).mono (ja (jC e z) _)) gE.nil
section
variable{X:Cx}{sc:i7}{N L:List Str}{k:Nat}{a b c:hI}{pos p:ik}{f fa fb fc:CO D}
theorem Xg(h:SX X sc N L k)(c:qR sc "enumerate" = d6)(z:X.mg "enumerate" = cS)(J:PV X a f)(O:iv [a] X.env=[(eF,hM a X.env)]:=by rfl) :
 ov X (.Tuple elts x1 xr) (.Call (.Name "enumerate" p) [a] [] pos) (X6 f):=
 Jq (fi (h.gl c).1 z (z7 J jT O) boot_enumerate O) λs H R Y=>by
  obtain⟨g,m,n,rc,I,q⟩:=Y;obtain⟨d,j,I⟩:=zc I;cases d with
  | tup o=>
   cases I;refine⟨g,m,_,rc,j,λv e b x r=>?_⟩;obtain⟨i,l,rfl,U,g2⟩:=kS r;exact⟨i,rfl,⟨l,qs x.sub U⟩,q _ e b x<|Yf U g2⟩
  | _=>cases I
theorem aj(ho:mu X (ro op) r)(J:mu X (ro Ic) r')(s1:rb X.K r F)(s2:rb X.K r' G)(Z:PV X a fa)(hb:PV X b fb)(hc:PV X c fc)
 (hm:Lv [op,Ic] [b,c]=eF:=by with_unfolding_all rfl):PV X (.Compare a [op,Ic] [b,c] pos) (qh F G fa fb fc):=
 jB (aG ho J Z hb hc hm) λσ H Q M=>by
  obtain⟨j,e,d,rc,I,q⟩:=M;obtain⟨x,w,I⟩:=zc I;obtain⟨y,A,I⟩:=zc I;obtain⟨k,B,I⟩:=zc I;obtain⟨Y,C,g⟩:=zc B;refine⟨j,e,x,rc,w,λT H1 p x1 N=>⟨p,e,y,rc.ext x1,A,λi l s O h=>s1 s l T i x y Y _ O.sub (N.mono O.s0) h C λW m f x3 P=>?_⟩⟩;cases Y with
  | bl k'=>
   cases g;refine⟨k,show W = .bl k from P,?_⟩;cases k with
   | true=>
    rw[MY rfl];rw[MY rfl]at I;obtain⟨z,E,L⟩:=zc I;exact⟨f,e,z,((rc.ext x1).ext O).ext x3,E,λv4 n t U R=>s2 t n i v4 y z d _ U.sub ((h.mono x3.s0).mono U.s0) R L λv5 o u x5 S=>q v5 o u (((x1.trans O).trans x3).trans (U.trans x5)) S⟩
   | false=>
    rw[RQ ⋯];rw[RQ ⋯]at I;cases I;exact q _ m f ((x1.trans O).trans x3) rfl
  | _=>cases g
end
theorem kY : ∀{l:List Int} {H:List eM},i0 (l.map V.int) H->∀i,i<H.toArray.size->∃z u,H.toArray[i]? = cI (.int z u)/\l[i]? = cI z
 | [],H,r,i,hi=>by cases r;exact absurd hi<|BK _
 | z::l,u::H,.cons r t,i,hi=>by
  cases i with
  | zero=>
   obtain⟨b,rfl⟩:=r;exact⟨z,b,by simp,by simp⟩
  | succ i=>
   obtain⟨I,O,a,U⟩:=kY t i (by simpa using hi);exact⟨I,O,by simpa using a,by simpa using U⟩
section
variable{K:Bo}{E0 E H0 H:Hp}{σ:St}{γ:Ctx}
theorem RS.forget(r:RS K E0 E H0 H σ γ):RS K E0 E H0 H (σ.set i v) (γ.set i .no):=by
 have U : ∀{j:Nat} {e:List D} {b:eH},(γ.set i .no)[j]? = cI (.own e)->γ[j]? = cI (.own e)/\(σ.set i v)[j]? = σ[j]? :=λ{j e b} g=>by
  rcases zM g with⟨_,z,_⟩ | ⟨Y,z⟩
  ·cases z
  ·exact⟨z,BA<|CP Y⟩
 have nw : ∀{j:Nat} {d:List (List D)},(γ.set i .no)[j]? = cI (.nest d)->γ[j]? = cI (.nest d)/\(σ.set i v)[j]? = σ[j]? :=λ{j d} g=>by
  rcases zM g with⟨_,z,_⟩ | ⟨Y,z⟩
  ·cases z
  ·exact⟨z,BA<|CP Y⟩
 refine⟨⟨r.rc.sub,by simp[r.rc.len],λj s g=>?_,λj e g=>?_,λj k b e fs l h o p=>?_,⟨λj d g=>?_,λj k x y O g2=>r.rc.C4.2 j k x y (nw O).1 (nw g2).1⟩⟩,r.ext,λj e b O g2=>?_,λj d b B O g2 g3=>?_⟩
 ·rcases zM g with⟨_,z,_⟩ | ⟨Y,z⟩
  ·cases z
  ·obtain⟨A,O,g2⟩:=r.rc.val j s z
   exact⟨A,by rw[BA (CP Y)];exact O,g2⟩
 ·obtain⟨f,I⟩:=U (b:=0) g
  rw[I];exact r.rc.own j e f
 ·obtain⟨f,I⟩:=U (b:=0) l
  obtain⟨m,n⟩:=U (b:=0) h;rw[I]at o;rw[n]at p;exact r.rc.ne j k b e fs f m o p
 ·obtain⟨f,I⟩:=nw g
  obtain⟨a,bs,t,u,w⟩:=r.rc.C4.1 j d f;refine⟨a,bs,by rw[I];exact t,u,λk e c l h=>?_⟩;obtain⟨m,n⟩:=U (b:=0) l;rw[n]at h;exact w k e c m h
 ·obtain⟨f,I⟩:=U (b:=0) O
  rw[I]at g2;exact r.fresh j e b f g2
 ·obtain⟨f,I⟩:=nw O
  rw[I]at g2;exact r.Dx j d b B f g2 g3
end
section
variable{K:Bo}{E0 E H0 H:Hp}{σ:St}{γ:Ctx}
open Classical in
end
end DL
namespace L2
open PySem PySem.Spec PyProof.Rows
noncomputable def rB(K:Bo):V->List V->Hp->VK->Prop:=λx d H Q=>∃z p b,x = .str z/\d=[.ref p]/\kv K H p (b.map V.str)/\Builtin.Str.tooLong (b.toArray.foldl (λa p=>a+p.length+z.length) 0)=eF/\Q (.str<|HJ z b) H
theorem Z5 : ∀{I:List Str} {H:List eM},i0 (I.map V.str) H->∃l:List (Str×Tok),strValues l=H/\l.map (·.1)=I
 | [],H,r=>by cases r;exact⟨[],rfl,rfl⟩
 | z::I,u::H,.cons r t=>by obtain⟨a,rfl⟩:=r;obtain⟨l,rfl,h⟩:=Z5 t;exact⟨(z,a)::l,rfl,by simp[h]⟩
theorem fN{X:Cx}:L3 X "str.join" (rB X.K):=by intro a s u H x j v i Q I rx U h;obtain⟨z,p,n,rfl,rfl,Y,O,q⟩:=h;obtain⟨t,rfl⟩:=rx;obtain⟨m,rfl,rw⟩:=kH U;cases rw;obtain⟨f,r,d,g⟩:=I.list Y;obtain⟨l,rfl,e⟩:=Z5 r;subst e;refine Gi F.slot_str_join (typeIs_str _ _ _) F.entry_str_join (F.args_str_join_2 _ _) (meets_str_join_list z t p l O) ⟨d.isList,post_join l ⟨joinFit_length O,λt' k=>?_⟩⟩;refine⟨.str (HJ z (l.map (·.1))),H,(I.kept (h':=s.heap) (t':=k) λb o e=>e),⟨t',?_⟩,q⟩;show Hb (Builtin.Str.glued z (l.map (·.1))) t'=_;rw[StrLaws.glued_eq_join]
end L2
namespace DL
open PySem PySem.Spec PyProof.Rows L2
theorem Z8{K:Bo}{H:Hp} : ∀{J:List D} {xs:List V} {l:List Str},gE K H J xs->Z9 J=cI l->xs=l.map V.str
 | [],xs,l,r,e=>by cases e;rw[show xs=[]from r];rfl
 | d::J,xs,l,r,e=>by
  obtain⟨x,f,rfl,z,I⟩:=(show ∃x r,xs=x::r/\Rep K H d x/\gE K H J r from r);cases d with
  | str i=>
   obtain⟨b,a,rfl⟩:=zr (show(Z9 J).map (λl=>i::l)=cI l from e);rw[Z8 I a,show x = .str i from z];rfl
  | _=>cases e
section
variable{X:Cx}{sc:i7}{N L:List Str}{k:Nat}{o e a b:hI}{apos cpos pos p:ik}{f g:CO D}{q:CO (Sk×List D)}
theorem kZ(h:zY x=d6):x.length<=1000:=of_decide_eq_true h
theorem yB(h:zY x=d6):x.length<=i6:=Co (kZ h) ⋯
theorem YS(Y:PV X o f)(he:PQ X e q)(J:HX o "join" X.env (hM o X.env)=hM o X.env:=by rfl)
 (Z:((o8 cpos<|starEach [e] X.env).all (λx=> !x.1) && (Lm cpos<|keywordEach [] X.env).all (λx=>x.1.isSome) && decide ([e].length+([]:List D2).length+(if ([]:List D2).isEmpty then 0 else 1)<30))=d6:=by rfl)
 (a4:(apos.endLine==cpos.line)=d6:=by rfl) (U:iv [e] X.env=[(eF,hM e X.env)]:=by rfl):PV X (.Call (.Attribute o "join" apos) [e] [] cpos) (dY f q):=
 jB (fw PySem.F.plainAttrs_str PySem.F.slot_str_join PySem.F.type_str_join fN Y (z7 he jT U) J Z a4 U rfl) λW H Q A=>by
  obtain⟨h,g,d,rc,z,G⟩:=A;obtain⟨k,n,z⟩:=zc z;obtain⟨⟨E,m⟩,p,z⟩:=zc z;cases k with
  | str O=>
   cases E with
   | L=>
    obtain⟨l,s,z⟩:=zc z;by_cases I:l.length<=lim/\l.all zY=d6/\zY O=d6
    ·rw[MY I]at z;cases z
     refine⟨h,g,_,rc,n,λv N b x r=>?_⟩;rw[show v = .str O from r];refine⟨rfl,b,g,.L,m,rc.ext x,p,λa S i j M u P K=>?_⟩;have t:=Z8 K s;subst t;refine⟨O,a,l,rfl,rfl,u,StrLaws.joinFits (B:=1000) (λy C=>kZ<|Ea.mp I.2.1 y C) ?_,G _ i j (x.trans M) rfl⟩;have R:=I.1;have:lim=2500:=rfl;have w:=kZ I.2.2;have:l.length*O.length<=2500*1000:=Nat.mul_le_mul ⋯ w;omega
    ·rw[RQ I]at z;cases z
   | T=>cases z
  | _=>cases z
theorem Zw(J:PV X a f)(Z:PV X b g)(hs:QL b:=by intro _ _;rfl):PV X (.Subscript a b pos) (wI f g):=
 jB (me mY J Z hs) λE H Q y=>by
  obtain⟨l,h,d,rc,I,q⟩:=y;obtain⟨o,s,I⟩:=zc I;obtain⟨i,O,I⟩:=zc I;obtain⟨p,t,O⟩:=zc O;cases o with
  | str z=>
   by_cases U:zY z=d6
   ·have I:(if zY z=d6 then (o3 z.cps.toList.length i).bind λk=>z.cps.toList[k]?.map λc=>D.str ⟨#[c]⟩else cS)=cI d:=I
    rw[MY U]at I;obtain⟨j,u,I⟩:=zc I;obtain⟨c,w,rfl⟩:=zr I;refine⟨l,h,_,rc,s,λv B e x r=>⟨e,h,p,rc.ext x,t,λC m n A Y=>?_⟩⟩;rw[jm O]at Y;refine⟨z,i,c,r,jk Y,yB U,?_,q _ m n (x.trans A) rfl⟩;unfold DP;rw[VG u];exact w
   ·have I:(if zY z=d6 then (o3 z.cps.toList.length i).bind λk=>z.cps.toList[k]?.map λc=>D.str ⟨#[c]⟩else cS)=cI d:=I
    rw[RQ U]at I;cases I
  | _=>cases I
theorem vq(h:SX X sc N L k)(c:qR sc "len" = d6)(z:X.mg "len" = cS)(J:PV X e f)(U:iv [e] X.env=[(eF,hM e X.env)]:=by rfl):PV X (.Call (.Name "len" p) [e] [] pos) (Jf f):=
 jB (xp JR (h.gl c).1 z PySem.boot_len (z7 J jT U) ⋯ ⋯ U rfl) λm H Q Y=>by
  obtain⟨g,l,d,rc,I,q⟩:=Y;obtain⟨i,j,I⟩:=zc I;cases i with
  | str z=>
   by_cases O:zY z=d6
   ·have I:(if zY z=d6 then cI (D.int z.length)else cS)=cI d:=I
    rw[MY O]at I;cases I;refine⟨g,l,_,rc,j,λv b a x r=>⟨z,by rw[show v = .str z from r],yB O,q _ b a x rfl⟩⟩
   ·have I:(if zY z=d6 then cI (D.int z.length)else cS)=cI d:=I
    rw[RQ O]at I;cases I
  | _=>cases I
end
section
variable{X:Cx}{sc:i7}{N L:List Str}{k:Nat}{b:hI}{f:CO D}
theorem cu(h:SX X sc N L k)(c:qR sc "min" = d6)(z:X.mg "min" = cS)(J:PV X a f)(Z:PV X b g)(Y:iv [a,b] X.env=[(eF,hM a X.env),(eF,hM b X.env)]:=by rfl)(O:iv [b] X.env=[(eF,hM b X.env)]:=by rfl) :
 PV X (.Call (.Name "min" p) [a,b] [] pos) (W8 f g):=
 jB (xp (Wk h.calm) (h.gl c).1 z PyProof.Rows.boot_min (z7 J (z7 Z jT O)<|by rw[Y,O]) ⋯ ⋯ (by rw[Y,O]) (by rw[O];rfl)) λG H Q B=>by obtain⟨o,n,d,rc,I,q⟩:=B;obtain⟨i,l,I⟩:=zc I;obtain⟨u,y,l⟩:=zc l;obtain⟨j,U,I⟩:=zr I;obtain⟨w,A,U⟩:=zc U;subst I;refine⟨o,n,u,rc,y,λv E e x r=>⟨e,n,w,rc.ext x,A,λF s t C m=>⟨i,j,?_,q _ s t (x.trans C) rfl⟩⟩⟩;rw[jm l]at r;rw[jm U]at m;rw[jk r,jk m]
end
end DL
namespace DL
open PySem PySem.Spec PySem.Calls PyProof.Rows PySem.W PySem.Builtin PySem.Builtin.ObjectAttr
section
variable{prog:i8}{w:i5}{A:l9}{E:MQ}{h:ia}{g:Array GenState}{d:Drawn}{t:Nat}{os:OsState}{K:Frag}{x C S:eH}{cd:ClassData}{vs:Array eM}{name:Str}{v:eM}
theorem XQ{H:Tok}{Q:Fin->hA->Prop}(X:K.In h){od:Option eH}(J:od=cS)(z:h.get? x=cI ⟨.ref C,od,.fields vs,#[]⟩)(I:clsIn K C=cI cd)(Z:cd.mro = .ref C :: .ref S::t7)(ap:cd.hasDict=d6)(hn:findIn K (.ref C) name=cI cS)
 (hq : ∀h' e L,h.get? e=cS->h'.get? x=cI ⟨.ref C,cI e,.fields vs,#[]⟩->h'.Ns1 e (λy=>if y=name then cI v else cS)->(∀b o,b≠x->h.get? b=cI o->h'.get? b=cI o)->Q (.done<|.ret .none) ⟨h',g,d,L,os⟩) :
 wpAny (hH prog w) A (Builtin.«object.__setattr__» ⟨[.ref x,.str name H,v],[]⟩) Q E ⟨h,g,d,t,os⟩:=by
 have l:=EJ.passes<|.ref x;have O:Looks (hH prog w) h (mroOf<|.ref C) cd.mro:=(looks_clsIn X I).andThen .now;have j:=looks_findIn (M:=hH prog w) X hn;have k:=looks_clsIn (M:=hH prog w) X I;rw[Z]at O;unfold Builtin.«object.__setattr__»
 repeat (first | rw[refuse_eq] | (rw[refuseLoop_ref,refuseLoop_ref];show wpAny _ _ (refuseLoop _ _ t7) _ _ _;unfold t7;rw[l]) | (with_reducible refine EE z ?_) | (with_reducible refine O.at ?_) | (with_reducible refine j.at ?_) | (with_reducible refine k.at ?_) | wp_step)
 subst J;have U:(h.push {cls:= .type "dict",data:= .dict #[]}).get? x=cI ⟨.ref C,cS,.fields vs,#[]⟩:=Bq _ z;have Y:x≠h.objs.size:=BH (Bz z);show wpAny _ _ (alloc {cls:=Ej "dict",data:=Data.dict #[]} >>= _) _ _ _;refine Bp (wpAny_alloc' ?_);refine Bp (wpAny_update' U ?_);refine Bv ?_;show wpAny _ _ (storeInDict h.objs.size (.str name H) name v) _ _ _;unfold storeInDict newKeyGuard;have m:((h.push {cls:= .type "dict",data:= .dict #[]}).update x λo=>{cls:=o.cls,dict:=cI h.objs.size,data:=o.data,slots:=o.slots}).get? h.objs.size=cI {cls:= .type "dict",data:= .dict #[]}:=
  (Fp _ _ _ _ Y.symm).trans (Heap.get?_push_at rfl rfl)
 have n:((h.push {cls:= .type "dict",data:= .dict #[]}).update x λo=>{cls:=o.cls,dict:=cI h.objs.size,data:=o.data,slots:=o.slots}).Ns h.objs.size (λ_=>cS):=
  ⟨_,#[],_,m,rfl,λe B=>absurd B ⋯,λ_=>rfl⟩
 refine Bp<|Bv<|Bp<|wpAny_nsSet1 (Heap.Ns1.of_empty n) λh' a i=>?_;obtain⟨oD,F,as,p,r,s⟩:=a.count<|Hu.cons name v Hu.nil;refine Bp<|wpAny_lookBehind p (by rw[r];exact pastItsLine_dict<|Co s<|by rw[Et,FW,EZ];omega) ?_;refine Bv<|hq h' h.objs.size _ (GR<|BB _) ?_ a λb o u f=>?_
 ·refine(i.2 x Y).trans (Ff _ U rfl)
 ·exact(i.2 b<|BH<|Bz f).trans ((Fp _ _ _ _ u).trans (Bq _ f))
theorem XR{o:m7}{z:eM}{Q:Unit->hA->Prop}{M:Model}(X:K.In h)(O:h.get? x=cI o)(U:o.cls = .ref C)(Y:mroIn K C (.type "object")=cI d6)(I:Q () ⟨h,g,d,t,os⟩) :
 wpAny M A (Lp "object.__setattr__" ⟨[.ref x,z,v],[]⟩) Q E ⟨h,g,d,t,os⟩:=by
 have b:Looks M h (typeOf (.ref x)) (.ref C):=U ▸ (Looks.ld O).andThen .now;have e:=looks_mroIn (M:=M) X Y;have i:builtinKind "object.__setattr__" = cI .slot:=EJ.kind;have f:splitId "object.__setattr__" = cI ("object","__setattr__"):=EJ.split;have a:=EJ.args (.ref x) z v;simp only[Lp,i,f];refine Bp (m:=isInstance (.ref x) (.type "object")) ?_;refine(b.andThen e).at ?_;rw[RQ ⋯];unfold argsOk at a;cases hs:Manifest.signature? "object.__setattr__" with
 | none=>exact Bv I
 | some j=>
  rw[hs]at a;exact GK a I
theorem Ad{Q:Unit->hA->Prop}(X:K.In h)(z:h.get? x=cI ⟨.ref C,cS,.fields vs,#[]⟩)(O:findIn K (.ref C) "__setattr__" = cI (cI (.builtin "object.__setattr__")))(U:mroIn K C (.type "object")=cI d6)
 (Y:clsIn K C=cI cd) (J:cd.mro = .ref C :: .ref S::t7) (H:cd.hasDict=d6) (L:findIn K (.ref C) name=cI cS)
 (Z : ∀h' e I,h.get? e=cS->h'.get? x=cI ⟨.ref C,cI e,.fields vs,#[]⟩->h'.Ns1 e (λy=>if y=name then cI v else cS)->(∀b o,b≠x->h.get? b=cI o->h'.get? b=cI o)->Q () ⟨h',g,d,I,os⟩) :
 wpAny (hH prog w) A (setAttr (.ref x) name v) Q E ⟨h,g,d,t,os⟩:=by
 have a:Looks (hH prog w) h (typeOf<|.ref x) (.ref C):=(Looks.ld z).andThen .now;have f:=looks_findIn (M:=hH prog w) X O;have n:=EJ.slot.bind<|.ref x;unfold setAttr callSpecial? specialOf
 repeat (any_goals (first | assumption | (with_reducible refine a.at ?_) | (with_reducible refine f.at ?_) | wp_step))
 refine Fq EJ.slot.plain EJ.entry<|XR (o:=⟨.ref C,cS,.fields vs,#[]⟩) X z rfl U<|XQ (cd:=cd) (S:=S) X rfl z Y J H L λh' e I i j k l=>?_;have m:=Z h' e I i j k l
 repeat (any_goals (first | assumption | wp_step))
end
end DL
namespace DL
open PySem PySem.Spec PySem.Calls PyProof.Rows PySem.W
noncomputable def ZN(C:eH)(dd:Option eH)(a0:eH):m7:=⟨.ref C,dd,.fields #[.ref a0,.none,.none,.none,.bool eF,.none],#[]⟩
section
variable{prog:i8}{w:i5}{A:l9}{E:MQ}{h:ia}{g:Array GenState}{d:Drawn}{t:Nat}{os:OsState}
variable{nm q:Str}{C N x:eH}{bs bm:List eM}{hdct:Bool}{sn:List Str}{sub:List eM}{ab:Bool}{col:Option Bool}{dd:Option eH}{k0 k1 k2 k3 k5:Option eM}{a0:eH}{u:eM}
theorem pw{Q:MQ}(T:OwnTail h t7 bm)(I:h.get? C=cI (excClassObj nm q C N bs bm hdct sn sub ab col dd k0 k1 k2 k3 k5 "ValueError.__new__"))(z:h.get? x=cI (ZN C cS a0))
 (O : ∀h' U,h'.get? x=cI (ZN C cS U)->(∀b o,b≠x->h.get? b=cI o->h'.get? b=cI o)->Q .none ⟨h',g,d,t,os⟩) :
 wpAny (hH prog w) A (call (.builtin "ValueError.__init__") [.ref x,u]) Q E ⟨h,g,d,t,os⟩:=by
 have F:=Fc;refine FN<|Fq F.init.plain F.initEntry<|wpAny_check_init_subT F T I z rfl ?_
 wp_walk
 have f:x<h.objs.size:=Bz z;have Y:(h.push {cls:= .type "tuple",data:= .seq #[u]}).get? x=cI (ZN C cS a0):=Bq _ z;refine O _ h.objs.size ?_ λb o a e=>?_
 ·rw[Ff _ Y rfl];rfl
 ·exact(Fp _ _ _ _ a).trans (Bq _ e)
theorem XT{rest:List eM}{H:eH}{J:m7}{Q:Fin->hA->Prop}(T:OwnTail h t7 bm)(I:h.get? C=cI (excClassObj nm q C N bs bm hdct sn sub ab col dd k0 k1 k2 k3 k5 "ValueError.__new__"))
 (hL:Looks (hH prog w) h (Iu (.ref C) "__init__") (cI (.ref H))) (L:h.get? H=cI J) (Z:J.cls = .type "function") (hr:rest.length<=i6)
 (hq : ∀h' e a0,h.get? e=cS->h'.get? e=cI (ZN C cS a0)->(∀b o,h.get? b=cI o->h'.get? b=cI o)->wpAny (hH prog w) A (call (.ref H) (.ref e::rest)) (λr s'=>r = .none/\Q (.done<|.ret<|.ref e) s') E ⟨h',g,d,t,os⟩) :
 wpAny (hH prog w) A (Builtin.«type.__call__» ⟨.ref C::rest,[]⟩) Q E ⟨h,g,d,t,os⟩:=by
 have F:=Fc
 repeat (first | with_reducible refine wpAny_madeBy_exc I ?_ | with_reducible refine EE I ?_ | wp_step)
 refine codeAny_call_builtin_code (Hl _ F.quiet) (wpAny_check_new_subT F T I (codeAny_exc_new_subT F T I ?_ hr));show wpAny _ _ _ _ _ _;have O : ∀b o,h.get? b=cI o->((h.push {cls:= .type "tuple",data:= .seq rest.toArray}).push (ZN C cS h.objs.size)).get? b=cI o:=λb o e=>Bq _ (Bq _ e);have U:((h.push {cls:= .type "tuple",data:= .seq rest.toArray}).push (ZN C cS h.objs.size)).get? (h.objs.size+1)=cI (ZN C cS h.objs.size):=by heap_get
 have a:=hL.keeps O;have f:(BU C::bm).contains (.ref C)=d6:=by simp
 have i:h.get? (h.objs.size+1)=cS:=GR (Nat.le_succ _);change wpAny _ _ _ _ _ ⟨(h.push {cls:= .type "tuple",data:= .seq rest.toArray}).push (ZN C cS h.objs.size),_,_,_,_⟩;have l:=T.keeps O;have j:=O _ _ I;have k:=O _ _ L;have Y:=λe=>hq _ (h.objs.size+1) h.objs.size i U e;have Y:=Y O;generalize (h.push {cls:= .type "tuple",data:= .seq rest.toArray}).push (ZN C cS h.objs.size)=h2 at *;unfold isInstance
 repeat (first | with_reducible refine EE U ?_ | wp_step)
 show wpAny _ _ (isSubtype (.ref C)<|.ref C) _ _ _;refine wpAny_isSubtype_exc j ?_;rw[f];simp only[Fx,CV,if_false];refine Bp<|CQ ?_;unfold callSpecial? specialOf
 repeat (first | with_reducible refine EE U ?_ | wp_step)
 show wpAny _ _ (Iu (.ref C) _) _ _ _;refine a.at ?_;refine CQ (Bp ?_);unfold bindSpecial;refine Bp (Gz (T:="function") ⟨_,k,Z⟩ ?_);rw[MY ⋯];refine Bv (Bp (BN Y (λr s' z=>?_) λ_ _ z=>z));obtain⟨rfl,z⟩:=z
 wp_walk
 exact z
theorem pz{rest:List eM}{H:eH}{I:m7}{Q:MQ}(T:OwnTail h t7 bm)(z:h.get? C=cI (excClassObj nm q C N bs bm hdct sn sub ab col dd k0 k1 k2 k3 k5 "ValueError.__new__"))
 (O:Looks (hH prog w) h (Iu (.ref C) "__init__") (cI (.ref H))) (U:h.get? H=cI I) (Y:I.cls = .type "function") (L:rest.length<=i6)
 (J : ∀h' e a0,h.get? e=cS->h'.get? e=cI (ZN C cS a0)->(∀b o,h.get? b=cI o->h'.get? b=cI o)->
   wpAny (hH prog w) (A.under (.builtin "type.__call__" ⟨.ref C::rest,[]⟩)) (call (.ref H) (.ref e::rest)) (λr s'=>r = .none/\Q (.ref e) s') E ⟨h',g,d,t,os⟩) :
 wpAny (hH prog w) A (call (.ref C) rest) Q E ⟨h,g,d,t,os⟩:=by
 have f1:=tc_lookup;have f2:=tc_bind (.ref C);have j:(⟨h,g,d,t,os⟩:hA).TypeIs (.ref C) "type":=⟨_,z,rfl⟩;refine FN (codeAny_of_tree (show wpAny _ _ (callAny (.ref C) _) _ _ _ from ?_))
 repeat (any_goals (first | assumption | with_reducible refine EE z ?_ | wp_step))
 refine⟨rfl,codeAny_call_builtin_at (Hl _ ⋯) entry_typeCall<|wpAny_check_type_call_sub z<|XT T z O U Y L λh' e a0 a f i=>?_⟩;exact J h' e a0 a f i
end
end DL
namespace DL
open PySem PySem.Spec PySem.Calls PyProof.Rows PySem.W PySem.Builtin PySem.Builtin.ObjectAttr
section
variable{prog:i8}{w:i5}{A:l9}{E:MQ}{h:ia}{g:Array GenState}{dr:Drawn}{t:Nat}{os:OsState}{K:Frag}{x C d a0:eH}{cd:ClassData}{name:Str}{mA:MJ}{i:Int}{tk:Tok}
theorem XU{Z:Tok}{Q:Fin->hA->Prop}(X:K.In h){vs:Array eM}{L:Array (Option eM)}(z:h.get? x=cI ⟨.ref C,cI d,.fields vs,L⟩)(J:h.Ns1 d mA)(H:mA name=cI (.int i tk))(I:clsIn K C=cI cd)(a2:cd.hasDict=d6)(O:findIn K (.ref C) name=cI cS)
 (U:Q (.done<|.ret<|.int i tk) ⟨h,g,dr,t,os⟩):wpAny (hH prog w) A (Builtin.«object.__getattribute__» ⟨[.ref x,.str name Z],[]⟩) Q E ⟨h,g,dr,t,os⟩:=by
 have Y:Looks (hH prog w) h (typeOf<|.ref x) (.ref C):=(Looks.ld z).andThen .now;have a:=looks_findIn (M:=hH prog w) X O;have b:=looks_clsIn (M:=hH prog w) X I;unfold Builtin.«object.__getattribute__»
 repeat (first | (with_reducible refine wpAny_nsGet J.ns ?_;rw[H]) | (with_reducible refine Y.at ?_) | (with_reducible refine a.at ?_) | (with_reducible refine b.at ?_) | (with_reducible refine EE z ?_) | wp_step)
 all_goals exact U
theorem Ai{ex:Bool}{Q:MQ}(X:K.In h)(G:D6 K C){vs:Array eM}{sl:Array (Option eM)}(I:h.get? x=cI ⟨.ref C,cI d,.fields vs,sl⟩)(Z:h.Ns1 d mA)(L:mA name=cI (.int i tk))(Y:clsIn K C=cI cd)(H:cd.hasDict=d6)(J:findIn K (.ref C) name=cI cS)
 (hq : ∀t',Q (.int i tk) ⟨h,g,dr,t',os⟩):wpAny (hH prog w) A (getAttr (.ref x) name ex) Q E ⟨h,g,dr,t,os⟩:=by
 have O:KS h x C:=⟨_,_,I,rfl,rfl⟩;have e:Looks (hH prog w) h (typeOf (.ref x)) (.ref C):=(Looks.ld I).andThen .now;have f:=looks_findIn (M:=hH prog w) X G.ga;have j:=looks_findIn (M:=hH prog w) X G.gn;have B:=Fs.ga.bind (.ref x);unfold getAttr getAttrBy;refine Bp (wpAny_mkText (CQ (Bp (e.at (Bp (f.at ?_))))));show wpAny _ _ (getAttrByItsOwn _ _ _ _ _ _) _ _ _;unfold getAttrByItsOwn;refine Bp (j.at ?_);refine Bp (FD (CQ ?_));have a:wpAny (hH prog w) A (boundAndCalled (.builtin "BaseException.__getattribute__") (.ref x) (.str name t)) (λv b=>v = .int i tk/\b=⟨h,g,dr,t+1,os⟩) (λ_ _=>False) ⟨h,g,dr,t+1,os⟩:=by unfold boundAndCalled;refine Bp (GK B ?_);refine FN (Fq Fs.ga.plain PySem.F.entry_bexc_ga (JM (s:=⟨h,g,dr,t+1,os⟩) X O G (XU X I Z L Y H J ?_)));exact⟨rfl,rfl⟩
 have U : ∀b,b=(⟨h,g,dr,t+1,os⟩:hA)->wpAny (hH prog w) A (handedOut<|.int i tk) Q E b:=λb z=>by subst z;exact handed_on rfl<|hq _
 cases ex with
 | false=>
  refine BN (show wpAny (hH prog w) A (boundAndCalled (.builtin "BaseException.__getattribute__") (.ref x) (.str name t)) _ _ _ from a) (λv b z=>?_) λ_ _ z=>z.elim;obtain⟨rfl,z⟩:=z;exact U _ z
 | true=>
  refine BN (show wpAny (hH prog w) A (boundAndCalled (.builtin "BaseException.__getattribute__") (.ref x) (.str name t)) _ _ _ from a) (λv b z=>?_) λ_ _ z=>z.elim;obtain⟨rfl,z⟩:=z;exact U _ z
end
end DL
namespace DL
open PySem PySem.Spec PySem.Calls PyProof.Rows
def v7(e d:eH)(h:ia):Prop:=∃o,h.get? e=cI o/\o.dict=cI d
inductive DS{α:Type}:Sem α->Prop
 | pure (a:α):DS (.pure a)
 | raise (e:eM):DS (.raise e)
 | C8 (w:String):DS (.unsupported w)
 | rule {t:String} {k:Unit->Sem α} (h : ∀u,DS<|k u):DS (.rule t k)
 | at {p:ik} {k:Unit->Sem α} (h : ∀u,DS<|k u):DS (.at p k)
 | load {a:eH} {p:Option eM} {k:m7->Sem α} (h : ∀o,DS<|k o):DS (.load a p k)
 | update {a:eH} {p:Option eM} {f:m7->m7} {k:Unit->Sem α} (hf : ∀o,(f o).dict=o.dict/\(o.isFreed=eF->(f o).isFreed=eF)) (h : ∀u,DS<|k u):DS (.update a p f k)
 | alloc {o:m7} {k:eH->Sem α} (h : ∀a,DS<|k a):DS (.alloc o k)
 | register {a:eH} {k:Unit->Sem α}:DS (.register a k)
 | fresh {k:Tok->Sem α} (h : ∀a,DS<|k a):DS (.fresh k)
 | ask {k:Setting->Sem α} (h : ∀a,DS<|k a):DS (.ask k)
 | stack {k:List (Code×ik)->Sem α} (h : ∀a,DS<|k a):DS (.stack k)
 | handled {b:Bool} {k:Option eM->Sem α} (h : ∀a,DS<|k a):DS (.handled b k)
 | point {l:List eM} {k:Unit->Sem α} (h : ∀a,DS<|k a):DS (.point l k)
theorem pB{J:Type}{M:Model}{Γ:PySem.Ctx}{e d:eH}{t:Sem J}(h:DS t) : ∀{Q:J->ik->hA->Prop} {E:eM->ik->hA->Prop} {p:ik} {s:hA},v7 e d s.heap->Gj M Γ t Q E p s->
 Gj M Γ t (λa H s'=>Q a H s'/\v7 e d s'.heap) (λx H s'=>E x H s'/\v7 e d s'.heap) p s:=by
 induction h with
 | pure a=>intro Q E p s b w;rw[Gj]at w ⊢;exact⟨w,b⟩
 | raise x=>intro Q E p s b w;rw[Gj]at w ⊢;exact⟨w,b⟩
 | C8 x=>intro Q E p s b w;rw[Gj]at w;exact w.elim
 | rule h z=>intro Q E p s b w;rw[Gj]at w ⊢;exact z _ b w
 | «at» h z=>intro Q E p s b w;rw[Gj]at w ⊢;exact z _ b w
 | load h z=>intro Q E p s b w;rw[Gj]at w ⊢;obtain⟨o,I,w⟩:=w;exact⟨o,I,z _ b w⟩
 | @update a p f k g h z=>
  intro Q E p s b w;rw[Gj]at w ⊢;obtain⟨U,w⟩:=w;refine⟨U,z _ ?_ w⟩;obtain⟨o,I,O⟩:=b;by_cases q:a=e
  ·subst q
   exact⟨f o,Ff _ I<|(g o).2 (Heap.get?_some_iff.mp I).2,by rw[(g o).1];exact O⟩
  ·exact⟨o,(GH _ _ q).trans I,O⟩
 | alloc h z=>intro Q E p s b w;rw[Gj]at w ⊢;obtain⟨o,I,O⟩:=b;exact z _ ⟨o,Bq _ I,O⟩ w
 | register=>intro Q E p s b w;rw[Gj]at w;exact w.elim
 | fresh h z=>intro Q E p s b w;rw[Gj]at w ⊢;exact z _ b w
 | ask h z=>intro Q E p s b w;rw[Gj]at w ⊢;exact z _ b w
 | stack h z=>intro Q E p s b w;rw[Gj]at w ⊢;exact z _ b w
 | handled h z=>intro Q E p s b w;rw[Gj]at w ⊢;exact z _ b w
 | point h z=>intro Q E p s b w;rw[Gj]at w ⊢;exact z _ b w
theorem WW{H:Type}{M:Model}{A:l9}{e d:eH}{t:Sem H}{Q:H->hA->Prop}{E:MQ}{s:hA}(h:DS t)(I:v7 e d s.heap)(w:wpAny M A t Q E s) :
 wpAny M A t (λa s'=>Q a s'/\v7 e d s'.heap) (λx s'=>E x s'/\v7 e d s'.heap) s:=λΓ p z=>pB h I<|w Γ p z
theorem DS.bind{H J:Type}{t:Sem H}{k:H->Sem J}(h:DS t)(I : ∀a,DS<|k a):DS (t >>= k):=by
 show DS (Sem.bind t k)
 induction h with
 | pure a=>exact I a
 | raise x=>exact .raise x
 | C8 x=>exact .C8 x
 | rule h z=>exact .rule z
 | «at» h z=>exact .at z
 | load h z=>exact .load z
 | update b h z=>exact .update b z
 | alloc h z=>exact .alloc z
 | register=>exact .register
 | fresh h z=>exact .fresh z
 | ask h z=>exact .ask z
 | stack h z=>exact .stack z
 | handled h z=>exact .handled z
 | point h z=>exact .point z
theorem vD(g:Array eM->Array eM)(o:m7):(Obj.mapFields g o).dict=o.dict/\(o.isFreed=eF->(Obj.mapFields g o).isFreed=eF):=by obtain⟨c,d,z,a⟩:=o;cases z<;>exact⟨rfl,λh=>h⟩
theorem y0(v:eM)(i:Nat):DS (field v i):=by
 unfold field fieldsOf load
 repeat (first | exact DS.C8 _ | exact DS.pure _ | exact DS.raise _ | exact DS.register | refine DS.bind ?_ λ_=>?_ | refine DS.load λ_=>?_ | refine DS.rule λ_=>?_ | refine DS.alloc λ_=>?_ | refine DS.stack λ_=>?_ | refine DS.update (λo=>⟨rfl,λh=>h⟩) λ_=>?_ | refine DS.update (vD _) λ_=>?_ | split)
theorem kW(v:eM)(i:Nat)(x:eM):DS (Ii v i x):=by
 unfold Ii updateField update load
 repeat (first | exact DS.C8 _ | exact DS.pure _ | exact DS.raise _ | exact DS.register | refine DS.bind ?_ λ_=>?_ | refine DS.load λ_=>?_ | refine DS.rule λ_=>?_ | refine DS.alloc λ_=>?_ | refine DS.stack λ_=>?_ | refine DS.update (λo=>⟨rfl,λh=>h⟩) λ_=>?_ | refine DS.update (vD _) λ_=>?_ | split)
theorem kf(e:eM)(f:Option eH):DS (setFlight e f):=by
 unfold setFlight;refine DS.bind (y0 _ _) λ_=>?_;split
 ·exact kW _ _ _
 ·exact DS.pure _
theorem nr(ty:String)(vs:List eM):DS (newFields ty vs):=by
 unfold newFields newObj newObjAsIs
 repeat (first | exact DS.C8 _ | exact DS.pure _ | exact DS.raise _ | exact DS.register | refine DS.bind ?_ λ_=>?_ | refine DS.load λ_=>?_ | refine DS.rule λ_=>?_ | refine DS.alloc λ_=>?_ | refine DS.stack λ_=>?_ | refine DS.update (λo=>⟨rfl,λh=>h⟩) λ_=>?_ | refine DS.update (vD _) λ_=>?_ | split)
theorem bF(f:eH)(b:Bool):DS (entryPlaceOf f b):=by
 unfold entryPlaceOf stack
 repeat (first | exact DS.C8 _ | exact DS.pure _ | exact DS.raise _ | exact DS.register | refine DS.bind ?_ λ_=>?_ | refine DS.load λ_=>?_ | refine DS.rule λ_=>?_ | refine DS.alloc λ_=>?_ | refine DS.stack λ_=>?_ | refine DS.update (λo=>⟨rfl,λh=>h⟩) λ_=>?_ | refine DS.update (vD _) λ_=>?_ | split)
theorem V9:DS underTheClaimsCaller:=by
 unfold underTheClaimsCaller
 repeat (first | exact DS.C8 _ | exact DS.pure _ | exact DS.raise _ | exact DS.register | refine DS.bind ?_ λ_=>?_ | refine DS.load λ_=>?_ | refine DS.rule λ_=>?_ | refine DS.alloc λ_=>?_ | refine DS.stack λ_=>?_ | refine DS.update (λo=>⟨rfl,λh=>h⟩) λ_=>?_ | refine DS.update (vD _) λ_=>?_ | split)
theorem Wa(env:mr)(outer:List mr):DS (behindIsImport env outer):=by
 unfold behindIsImport;split
 ·exact DS.pure _
 ·split
  ·exact DS.pure _
  ·exact DS.bind (y0 _ _) λ_=>DS.pure _
theorem gC(env:mr)(b:Bool)(outer:List mr):DS (keptBack env b outer):=by
 unfold keptBack;split
 ·split
  ·exact DS.pure _
  ·exact DS.bind V9 λ_=>DS.pure _
 ·exact DS.pure _
theorem Xw : ∀l:List mr,DS (readyFrames l)
 | []=>DS.pure _
 | env::outer=>by
  unfold readyFrames;split
  ·unfold load update
   refine DS.bind (DS.load λ_=>DS.pure _) λo=>?_;split
   ·exact DS.pure _
   ·refine DS.bind (Wa _ _) λ_=>DS.bind (gC _ _ _) λ_=>DS.bind (DS.update (λo=>⟨rfl,λh=>by obtain⟨c,d,z,a⟩:=o;cases z<;>exact h⟩) λ_=>DS.pure _) λ_=>Xw outer
  ·exact DS.C8 _
theorem bG(env:mr):DS (PySem.frameOf env):=by
 unfold PySem.frameOf frameEnvs stack;refine DS.bind (DS.bind (DS.stack λ_=>DS.pure _) λ_=>DS.pure _) λl=>DS.bind ?_ λ_=>?_
 ·unfold frameObject
  split
  ·exact DS.pure _
  ·exact DS.bind (Xw _) λ_=>DS.pure _
 ·split
  ·exact DS.pure _
  ·exact DS.C8 _
theorem V8(e:eM)(env:mr):DS (noteFrame e env):=by
 unfold noteFrame;split
 ·refine DS.bind (y0 _ _) λa=>?_
  have z : ∀f:eH,∀b:Bool,DS (do Ii e 1 (<- EntryCells.newEntry a (<- PySem.frameOf env) .none (DX f) .none (<- entryPlaceOf f b))):=λf b=>by refine DS.bind (bG _) λ_=>DS.bind (bF _ _) λ_=>?_;unfold EntryCells.newEntry;exact DS.bind (nr _ _) λ_=>kW _ _ _
  split
  ·refine DS.bind (y0 _ _) λ_=>?_
   split
   ·exact DS.pure _
   ·exact DS.bind (kW _ _ _) λ_=>z _ _
  ·exact z _ _
 ·exact DS.C8 _
theorem Za(env:mr)(e:eM):DS (leaving env e):=by unfold leaving;exact DS.bind (V8 _ _) λ_=>kf _ _
def u7(od:Option eH)(e:eH)(h:ia):Prop:=∀d,od=cI d->v7 e d h
theorem xX{H:Type}{M:Model}{A:l9}{e:eH}{od:Option eH}{t:Sem H}{Q:H->hA->Prop}{E:MQ}{s:hA}(h:DS t)(I:u7 od e s.heap)(w:wpAny M A t Q E s) :
 wpAny M A t (λa s'=>Q a s'/\u7 od e s'.heap) E s:=by
 cases od with
 | none=>exact BN w (λa s' z=>⟨z,λd q=>nomatch q⟩) λ_ _ z=>z
 | some d=>exact BN (WW h (I d rfl) w) (λa s' z=>⟨z.1,λb q=>by cases q;exact z.2⟩) λ_ _ z=>z.1
section
variable{M:Model}{A:l9}{E:MQ}{s:hA}{base:ia}{env:mr}{l outer:List mr}{L e:eH}{cls a0:eM}{od:Option eH}{Q:Unit->hA->Prop}
theorem mK(I:A.frames=cI (env::outer))(J:env.frame=cI L)(O:EH base (env::outer) e cls a0 s.heap)(H:u7 od e s.heap)
 (U : ∀h',Heap.HeldW base (env::outer) e cls a0 L h'->s.heap.UpToSlots h'->u7 od e h'->Q () {s with heap:=h'}):wpAny M A (noteFrame (.ref e) env) Q E s:=by
 refine BN (xX (V8 _ _) H<|wpAny_looks_onW (Q:=λ_ a=>∃h',a = {s with heap:=h'}/\Heap.HeldW base (env::outer) e cls a0 L h'/\s.heap.UpToSlots h') I J O λh' x y=>⟨h',rfl,x,y⟩) (λ_ a z=>?_) λ_ _ z=>z;obtain⟨⟨h',rfl,x,y⟩,w⟩:=z;exact U h' x y w
theorem mM(I:Heap.HeldW base l e cls a0 L s.heap)(H:u7 od e s.heap)(O : ∀h',EH base l e cls a0 h'->s.heap.UpToSlots h'->u7 od e h'->Q () {s with heap:=h'}):wpAny M A (setFlight (.ref e) cS) Q E s:=by refine BN (xX (kf _ _) H<|wpAny_landsW (Q:=λ_ a=>∃h',a = {s with heap:=h'}/\EH base l e cls a0 h'/\s.heap.UpToSlots h') I λh' x y=>⟨h',rfl,x,y⟩) (λ_ a z=>?_) λ_ _ z=>z;obtain⟨⟨h',rfl,x,y⟩,w⟩:=z;exact O h' x y w
theorem nO(I:EH base l e cls a0 s.heap)(H:u7 od e s.heap)(O : ∀h',EH base l e cls a0 h'->s.heap.UpToSlots h'->u7 od e h'->Q () {s with heap:=h'}):wpAny M A (setFlight (.ref e) cS) Q E s:=by refine BN (xX (kf _ _) H<|lands_againW (Q:=λ_ a=>∃h',a = {s with heap:=h'}/\EH base l e cls a0 h'/\s.heap.UpToSlots h') I λh' x y=>⟨h',rfl,x,y⟩) (λ_ a z=>?_) λ_ _ z=>z;obtain⟨⟨h',rfl,x,y⟩,w⟩:=z;exact O h' x y w
theorem fU(I:A.frames=cI (env::outer))(J:env.frame=cI L)(O:EH base (env::outer) e cls a0 s.heap)(H:u7 od e s.heap)
 (U : ∀h',EH base outer e cls a0 h'->s.heap.UpToSlots h'->u7 od e h'->Q () {s with heap:=h'}):wpAny M A (leaving env<|.ref e) Q E s:=by
 refine BN (xX (Za _ _) H<|wpAny_leaves_onW (Q:=λ_ a=>∃h',a = {s with heap:=h'}/\EH base outer e cls a0 h'/\s.heap.UpToSlots h') I J O λh' x y=>⟨h',rfl,x,y⟩) (λ_ a z=>?_) λ_ _ z=>z;obtain⟨⟨h',rfl,x,y⟩,w⟩:=z;exact U h' x y w
theorem nk{I:m7}{vs:Array eM}(O:A.frames=cI (env::outer))(U:s.heap.FunFrames base (env::outer))(hf:env.frame=cI L)(Y:s.heap.get? e=cI I)(H:base.StaysIn s.heap)(J:base.get? e=cS)(Z:I.data = .fields vs)
 (h1:vs[1]? = cI .none) (h0:vs[0]? = cI a0) (hd:u7 od e s.heap) (hQ : ∀h',Heap.LeftW base (env::outer) e I.cls a0 s.heap h'->u7 od e h'->Q () {s with heap:=h'}):wpAny M A (leaving env<|.ref e) Q E s:=by
 refine BN (xX (Za _ _) hd<|wpAny_leaving_firstW (Q:=λ_ a=>∃h',a = {s with heap:=h'}/\Heap.LeftW base (env::outer) e I.cls a0 s.heap h') O U hf Y H J Z h1 h0 λh' x=>⟨h',rfl,x⟩) (λ_ a z=>?_) λ_ _ z=>z;obtain⟨⟨h',rfl,x⟩,w⟩:=z;exact hQ h' x w
end
end DL
namespace DL
open PySem PySem.Spec PyProof.Rows L2
theorem xJ{P:i8}{w:i5}{H:Hp}{h:ia}{a:eH}{o:HO}(x:l8 P w H h a o) : ∃z,h.get? a=cI z:=by
 induction o with
 | lst d=>obtain⟨_,_,_,_,e⟩:=x;exact⟨_,e⟩
 | tup d=>obtain⟨_,_,_,z,e,_⟩:=x;exact⟨_,e⟩
 | dK b=>obtain⟨_,_,_,_,o,_,_,e,_⟩:=x;exact⟨_,e⟩
 | dT b=>obtain⟨_,_,_,_,o,_,_,e,_⟩:=x;exact⟨_,e⟩
 | set S n=>obtain⟨o,_,_,_,e,_⟩:=x;exact⟨_,e⟩
 | ins C g fs=>obtain⟨_,_,_,e,_⟩:=x;exact⟨_,e⟩
 | own y=>obtain⟨_,e⟩:=x;exact⟨_,e⟩
 | xd fs=>obtain⟨_,⟨_,_,_,e,_⟩,_⟩:=x;exact⟨_,e⟩
 | sx lo i=>obtain⟨_,_,_,e⟩:=x;exact⟨_,e⟩
 | ri z u _=>obtain⟨e,_⟩:=x;exact⟨_,e⟩
 | DZ j=>exact⟨_,(show h.get? a=cI _ from x)⟩
 | met f y=>exact⟨_,(show h.get? a=cI _ from x)⟩
 | ext k=>obtain⟨_,⟨_,e⟩,_⟩:=x;exact⟨_,e⟩
theorem xS{P:i8}{w:i5}{H:Hp}{h h':ia}(x:m5 P w H h)(k : ∀b u,H b≠cS->h.get? b=cI u->h'.get? b=cI u):m5 P w H h':=λa o e=>
 (x a o e).A7 (λb u z q=>k b u (by
   rcases z with rfl | z
   ·rw[e];simp
   ·rw[z];simp) q) (λ_ q=>q) λ_ _ q=>q
theorem gw{P:i8}{w:i5}{H:Hp}{h:ia}{a:eH}{J:ia->Prop}(x:m5 P w H h)(L:H a=cS)(Y:J h)(Z : ∃o,h.get? a=cI o)
 (O : ∀z g2:ia,J z->(∀o,z.get? a=cI o->g2.get? a=cI o)->J g2):m5 P w (upd H a<|.ext J) h:=λb o e=>by
 by_cases I:b=a
 ·subst I;rw[zu]at e;cases e;exact⟨Y,Z,O⟩
 ·rw[zt I]at e
  exact(x b o e).A7 (λ_ _ _ q=>q) (λc q=>by rw[zt (zI q L)];exact q) λc d q=>by rw[zt (zI q L)];exact q
structure MO(l:List mr)(a C:eH)(H':Hp)(h0 h:ia):Prop where
 ex : ∃B t,EH B l a (.ref C) (.ref t) h/\(∀b o,h.get? b=cI o->H' b≠cS->B.get? b=cI o)/\∀b o,h.get? b=cI o->h0.get? b≠cS->b∉n5 l->B.get? b=cI o
noncomputable def rn(P:i8)(w:i5):A8:=λb H s E e d=>∃a C f g,e = .ref a/\E (.ref C) g f/\u7 g a d.heap/\d.os=s.os/\Dm d.gens/\Un (n5 b) [] H f s.heap d.heap/\m5 P w f d.heap/\f a=cS/\s.heap.get? a=cS/\MO b a C f s.heap d.heap
section
variable{P:i8}{w:i5}{K:Bo}{mg:MJ}{base:ia}{N:List Str}{qual:Str}{scope:i7}{f:eH}{cd:eM}{A:l9}{outer:List mr}{s:hA}{H:Hp}{E:XK}
theorem Kr{Z:MW}{σ:St}{L:Hp}{J:hA}{h':ia}{a C:eH}{vs:List eM}(I:Inv (Z2 (rn P w) P w K mg base N qual scope f cd A outer s H E) Z σ L J)
 (Y:Heap.MadeExcOf J.heap h' a (.ref C) vs) (hE:E (.ref C) cS L):(Z2 (rn P w) P w K mg base N qual scope f cd A outer s H E).xe (.ref a) {J with heap:=h'}:=by
 generalize U:Z2 (rn P w) P w K mg base N qual scope f cd A outer s H E=X at I;have y:X.stack=X.env::X.outer:=by rw[<- U];rfl
 have R:X.env.frame=cI X.env.locals:=by rw[<- U];rfl
 have i:X.ex=[]:=by rw[<- U];rfl
 have S:=I.stack;have Dk:=I.G8;have as : ∀env∈X.stack,∀b,env.frame=cI b->b∈n5 X.stack:=λenv he b O=>Gh.mpr ⟨env,he,O⟩;have m : ∀b o,X.l5.heap.get? b=cI o->∃e,J.heap.get? b=cI e:=λb o q=>I.base.there b o q (by rw[i];simp);have T : ∀b o,X.l5.heap.get? b=cI o->b≠X.env.locals:=λb o q=>BH<|BF (Bz q) I.ok.above;have a5 : ∀b o,X.l5.heap.get? b=cI o->b∉X.fs->b∉n5 X.stack:=λb o q n g=>by
  rcases BC.mp (I.G9 b g)with z | z
  ·exact T b o q z
  ·exact n z
 have F:wpAny (hH P w) X.A (leaving X.env<|.ref a) (λ_ p=>rn P w outer H s E (.ref a) p) (λe' p=>rn P w outer H s E e' p) {J with heap:=h'}:=by
  refine wpAny_leaves_madeW (base:=FP J.heap<|n5 X.stack) (h:=J.heap) (env:=X.env) (outer:=X.outer) (by rw[<- y];exact I.ok.frames) R (λb o q=>GS _ q)
   (by rw[<- y];exact PySem.W.funFrames_hide S as) Y λbd t x1 x2 x3 Q=>?_
  have Dh : ∀b o,J.heap.get? b=cI o->b∉n5 X.stack->bd.get? b=cI o:=λb o q n=>x1.1 b o<|Fm _ q n;have e1:X.outer=outer:=by rw[<- U];rfl
  have e2:X.DM=H:=by rw[<- U];rfl
  have e3:X.l5=s:=by rw[<- U];rfl
  have e4:X.prog=P:=by rw[<- U];rfl
  have e5:X.w=w:=by rw[<- U];rfl
  have M : ∀b u,L b=cI u->∃o,J.heap.get? b=cI o:=λb u q=>xJ<|I.ij b u q;have ae : ∀b u,L b=cI u->b∉n5 X.stack:=λb u q g=>by rw[Dk b g]at q;cases q
  have bn:L a=cS:=by
   cases q:L a with
   | none=>rfl
   | some u=>obtain⟨o,z⟩:=M a u q;rw[Y.new]at z;cases z
  have bv:X.l5.heap.get? a=cS:=by
   cases q:X.l5.heap.get? a with
   | none=>rfl
   | some o=>obtain⟨e,z⟩:=m a o q;rw[Y.new]at z;cases z
  rw[<- e3]at *;rw[<- e2]at *;subst e1;refine⟨a,C,L,cS,rfl,hE,(λd q=>nomatch q),?_,I.bare,⟨λb o q n O _=>?_,λb o q n O _=>?_,λb o q n _=>?_,λb o q _=>?_,I.base.xC,I.base.vr,I.base.xg⟩,?_,bn,bv,⟨_,t,x1,λb o q n=>?_,λb o q n O=>?_⟩⟩
  ·exact I.os
  ·exact Dh b o (I.base.keep b o q n O<|by rw[i];simp)<|a5 b o q O
  ·obtain⟨sl,z⟩:=I.base.slot b o q n O (by rw[i];simp)
   have j : ∀vs,o.data ≠ .fields vs:=by obtain⟨_,e,l,x⟩:=I.ok.rk.mem O;rw[q]at l;cases l;exact x
   obtain⟨B,r⟩:=Q b _ (Y.keeps b _ z) j;exact⟨B,r⟩
  ·exact I.base.free b o q n (by rw[i];simp)
  ·obtain⟨e,z⟩:=m b o q
   by_cases O:b∈X.fs
   ·obtain⟨_,k,l,x⟩:=I.rk.mem O
    obtain⟨B,r⟩:=Q b _ (Y.keeps b _ l) x;exact⟨_,r⟩
   ·exact⟨e,Dh b e z<|a5 b o q O⟩
  ·rw[<- e4,<- e5]
   exact xS I.ij λb u n q=>Dh b u q λg=>n<|Dk b g
  ·cases q1:L b with
   | none=>exact absurd q1 n
   | some u=>
    obtain⟨k,z⟩:=M b u q1;have:=Dh b k z<|ae b u q1;rw[q]at this;cases this;exact Fm _ z<|ae b u q1
  ·cases q1:X.l5.heap.get? b with
   | none=>exact absurd q1 n
   | some G=>
    obtain⟨k,z⟩:=m b G q1;have j:=a5 b G q1 O;have:=Dh b k z j;rw[q]at this;cases this;exact Fm _ z j
 rw[<- U]at F ⊢;exact F
theorem Qt{L:MW}{σ:St}{H1:Hp}{Z s':hA}{e:eM}{E':XK}(I:Inv (Z2 (rn P w) P w K mg base N qual scope f cd A outer s H E) L σ H1 Z)
 (hx:rn P w (Z2 (rn P w) P w K mg base N qual scope f cd A outer s H E).stack H1 Z E' e s') (hE : ∀c o J,E' c o J->E c o J):(Z2 (rn P w) P w K mg base N qual scope f cd A outer s H E).xe e s':=by
 generalize hX:Z2 (rn P w) P w K mg base N qual scope f cd A outer s H E=X at I hx;have x:X.stack=X.env::X.outer:=by rw[<- hX];rfl
 have S:X.env.frame=cI X.env.locals:=by rw[<- hX];rfl
 have Y:X.ex=[]:=by rw[<- hX];rfl
 have Dk:=I.G8;have i : ∀b o,X.l5.heap.get? b=cI o->∃k,Z.heap.get? b=cI k:=λb o q=>I.base.there b o q (by rw[Y];simp);have T : ∀b o,X.l5.heap.get? b=cI o->b≠X.env.locals:=λb o q=>BH<|BF (Bz q) I.ok.above;have a6 : ∀b o,X.l5.heap.get? b=cI o->b∉X.fs->b∉n5 X.stack:=λb o q n hm=>by
  rcases BC.mp (I.G9 b hm)with z | z
  ·exact T b o q z
  ·exact n z
 obtain⟨a,C,J,od,rfl,hC,W,be,bg,un,ij,bi,bl,⟨B,t,y,am,a8⟩⟩:=hx;have F:wpAny (hH P w) X.A (leaving X.env<|.ref a) (λ_ p=>rn P w outer H s E (.ref a) p) (λe' p=>rn P w outer H s E e' p) s':=by
  rw[x]at y;refine fU (by rw[<- x];exact I.ok.frames) S y W λbv x1 M c0=>?_;have st : ∀b o,B.get? b=cI o->bv.get? b=cI o:=λb o q=>x1.1 b o q;have e1:X.outer=outer:=by rw[<- hX];rfl
  have e2:X.DM=H:=by rw[<- hX];rfl
  have e3:X.l5=s:=by rw[<- hX];rfl
  have tr : ∀b u,J b=cI u->∃o,s'.heap.get? b=cI o:=λb u q=>xJ<|ij b u q;have c4:X.l5.heap.get? a=cS:=by
   cases q:X.l5.heap.get? a with
   | none=>rfl
   | some o=>obtain⟨k,z⟩:=i a o q;rw[bl]at z;cases z
  rw[<- e3]at *;rw[<- e2]at *;subst e1;refine⟨a,C,J,od,rfl,hE _ _ _ hC,c0,?_,bg,⟨λb o q n O _=>?_,λb o q n O _=>?_,λb o q n _=>?_,λb o q _=>?_,λb Q q=>un.xC b Q<|I.base.xC b Q q,λb o u q=>un.vr b o u<|I.base.vr b o u q,λb ps q=>?_⟩,?_,bi,c4,⟨B,t,x1,λb o q n=>?_,λb o q n O=>?_⟩⟩
  ·exact be.trans I.os
  ·have j:=I.base.keep b o q n O (by rw[Y];simp)
   have k2:=un.keep b o j (I.base.free b o q n<|by rw[Y];simp) (a6 b o q O) ⋯;exact st b o<|a8 b o k2 (by rw[j];simp)<|a6 b o q O
  ·obtain⟨sl,z⟩:=I.base.slot b o q n O (by rw[Y];simp)
   have r : ∀vs,o.data ≠ .fields vs:=by obtain⟨_,k,l,U⟩:=I.ok.rk.mem O;rw[q]at l;cases l;exact U
   obtain⟨c5,U⟩:=un.any z (I.base.free b o q n<|by rw[Y];simp) ⋯;obtain⟨c6,z'⟩:=M b _ U r;exact⟨c6,z'⟩
  ·obtain⟨d,j⟩:=i b o q
   exact un.free b d j (I.base.free b o q n<|by rw[Y];simp) ⋯
  ·obtain⟨d,z⟩:=i b o q
   obtain⟨h,U⟩:=un.there b d z ⋯;by_cases O:b∈X.fs
   ·obtain⟨_,k,R,y2⟩:=I.ok.rk.mem O
    rw[q]at R;cases R;obtain⟨sl,g⟩:=I.base.any q (I.ok.B4 b O) (by rw[Y];simp);obtain⟨c5,m⟩:=un.any g (I.base.free b o q (I.ok.B4 b O)<|by rw[Y];simp) ⋯;obtain⟨cc,z5⟩:=M b _ m y2;exact⟨_,z5⟩
   ·exact⟨h,st b h<|a8 b h U (by rw[z];simp)<|a6 b o q O⟩
  ·obtain⟨m1,l⟩:=I.base.xg b ps q
   obtain⟨m2,U⟩:=un.xg b _ l;exact⟨m1++m2,by rw[U,Array.append_assoc]⟩
  ·exact xS ij λb u n q=>st b u<|am b u q n
  ·cases q1:J b with
   | none=>exact absurd q1 n
   | some u=>
    obtain⟨d,z⟩:=tr b u q1;have U:=am b d z (by rw[q1];simp);have g:=st b d U;rw[q]at g;cases g;exact U
  ·cases q1:X.l5.heap.get? b with
   | none=>exact absurd q1 n
   | some G=>
    obtain⟨d,z⟩:=i b G q1;obtain⟨h,U⟩:=un.there b d z ⋯;have r:=a6 b G q1 O;have g:=a8 b h U (by rw[z];simp) r;have m:=st b h g;rw[q]at m;cases m;exact g
 rw[<- hX]at F ⊢;exact F
theorem Ks{pins:MW}{σ:St}{L:Hp}{J:hA}{a C d t:eH}{Z:ia->Prop}(I:Inv (Z2 (rn P w) P w K mg base N qual scope f cd A outer s H E) pins σ L J)
 (Ni:L a=cI (.ext Z)) (he:J.heap.get? a=cI (ZN C (cI d) t)) (hs:s.heap.get? a=cS) (hE:E (.ref C) (cI d) (λb=>if b=a then cS else L b)):(Z2 (rn P w) P w K mg base N qual scope f cd A outer s H E).xe (.ref a) J:=by
 generalize U:Z2 (rn P w) P w K mg base N qual scope f cd A outer s H E=X at I;have M:X.stack=X.env::X.outer:=by rw[<- U];rfl
 have bg:X.env.frame=cI X.env.locals:=by rw[<- U];rfl
 have i:X.ex=[]:=by rw[<- U];rfl
 have bi:=I.stack;have y:=I.G8;have bl : ∀env∈X.stack,∀b,env.frame=cI b->b∈a::n5 X.stack:=λenv he b O=>BL _<|Gh.mpr ⟨env,he,O⟩;have Q : ∀b o,X.l5.heap.get? b=cI o->∃h,J.heap.get? b=cI h:=λb o q=>I.base.there b o q (by rw[i];simp);have bn : ∀b o,X.l5.heap.get? b=cI o->b≠X.env.locals:=λb o q=>BH<|BF (Bz q) I.ok.above;have a9 : ∀b o,X.l5.heap.get? b=cI o->b∉X.fs->b∉n5 X.stack:=λb o q n x=>by
  rcases BC.mp (I.G9 b x)with z | z
  ·exact bn b o q z
  ·exact n z
 have e1:X.outer=outer:=by rw[<- U];rfl
 have e2:X.DM=H:=by rw[<- U];rfl
 have T:X.l5=s:=by rw[<- U];rfl
 have e4:X.prog=P:=by rw[<- U];rfl
 have e5:X.w=w:=by rw[<- U];rfl
 have off : ∀b o,L b=cI o->(∀Z,o ≠ .ext Z)->(if b=a then cS else L b)=cI o:=λb o q z=>by rw[RQ (λw=>by rw[w,Ni]at q;cases q;exact z _ rfl),q]
 have R:X.l5.heap.get? a=cS:=by rw[T];exact hs
 have c2:m5 X.prog X.w (λb=>if b=a then cS else L b) J.heap:=λb o q=>by
  have q:(if b=a then cS else L b)=cI o:=q;by_cases O:b=a
  ·rw[MY O]at q;cases q
  ·rw[RQ O]at q
   exact(I.ij b o q).A7 (λ_ _ _ z=>z) (λc z=>off c _ z<|λZ w=>nomatch w) λc xs z=>off c _ z<|λZ w=>nomatch w
 have go:wpAny (hH P w) X.A (leaving X.env<|.ref a) (λ_ r=>rn P w outer H s E (.ref a) r) (λe' r=>rn P w outer H s E e' r) J:=by
  have as:(FP J.heap (a::n5 X.stack)).get? a=cS:=PySem.W.hideAll_none _ ⋯;refine nk (od:=cI d) (base:=FP J.heap (a::n5 X.stack)) (env:=X.env) (outer:=X.outer) (a0:= .ref t) (by rw[<- M];exact I.ok.frames) (by rw[<- M];exact PySem.W.funFrames_hide bi bl) bg he (λb o q=>GS _ q) as rfl rfl rfl
   (λd' q=>by cases q;exact⟨_,he,rfl⟩) λc4 hL c6=>?_
  obtain⟨k1,⟨_,_,k2⟩,k3,x4⟩:=hL;have Dh : ∀b o,J.heap.get? b=cI o->b≠a->b∉n5 X.stack->(FP J.heap (a::n5 X.stack)).get? b=cI o:=λb o q Y e=>Fm _ q (by simp[Y];exact e);have g : ∀b o,J.heap.get? b=cI o->b≠a->b∉n5 X.stack->c4.get? b=cI o:=λb o q Y e=>k1 b o<|Dh b o q Y e;rw[<- T]at *;rw[<- e2]at *;subst e1;have na : ∀b o,X.l5.heap.get? b=cI o->b≠a:=λb o q z=>by rw[z,R]at q;cases q
  have B : ∀b,(if b=a then cS else L b)≠cS->b≠a/\b∉n5 X.stack/\∃o,J.heap.get? b=cI o:=λb n=>by
   by_cases O:b=a
   ·rw[MY O]at n;exact absurd rfl n
   ·rw[RQ O]at n
    cases q:L b with
    | none=>exact absurd q n
    | some u=>exact⟨O,(λx=>by rw[y b x]at q;cases q),xJ<|I.ij b u q⟩
  refine⟨a,C,_,cI d,rfl,hE,c6,I.os,I.bare,⟨λb o q n O _=>?_,λb o q n O _=>?_,λb o q n _=>?_,λb o q _=>?_,λb xs q=>off b _ (I.base.xC b xs q)<|λZ w=>(nomatch w),λb o u q=>off b _ (I.base.vr b o u q)<|λZ w=>(nomatch w),λb ps q=>?_⟩,?_,MY rfl,R,⟨_,t,⟨k1,as,k2,k3⟩,λb o q n=>?_,λb o q n O=>?_⟩⟩
  ·exact g b o (I.base.keep b o q n O<|by rw[i];simp) (na b o q)<|a9 b o q O
  ·obtain⟨sl,z⟩:=I.base.slot b o q n O (by rw[i];simp)
   have j : ∀vs,o.data ≠ .fields vs:=by obtain⟨_,h,p,G⟩:=I.ok.rk.mem O;rw[q]at p;cases p;exact G
   obtain⟨S,F⟩:=x4 b _ z j;exact⟨S,F⟩
  ·rw[RQ (na b o q)];exact I.base.free b o q n (by rw[i];simp)
  ·obtain⟨h,z⟩:=Q b o q
   by_cases O:b∈X.fs
   ·obtain⟨_,l,p,G⟩:=I.rk.mem O
    obtain⟨S,F⟩:=x4 b _ p G;exact⟨_,F⟩
   ·exact⟨h,g b h z (na b o q)<|a9 b o q O⟩
  ·obtain⟨m,z⟩:=I.base.xg b ps q
   exact⟨m,off b _ z<|λZ w=>nomatch w⟩
  ·rw[<- e4,<- e5]
   exact xS c2 λb u n q=>g b u q (B b n).1 (B b n).2.1
  ·obtain⟨Y,e,l,z⟩:=B b n
   have:=g b l z Y e;rw[q]at this;cases this;exact Dh b o z Y e
  ·cases q1:X.l5.heap.get? b with
   | none=>exact absurd q1 n
   | some k=>
    obtain⟨l,z⟩:=Q b k q1;have j:=a9 b k q1 O;have:=g b l z (na b k q1) j;rw[q]at this;cases this;exact Dh b o z (na b k q1) j
 rw[<- U]at go ⊢;exact go
end
noncomputable def iy(o:m7):Option ClassData:=match o.data with
 | .cls a=>cI a
 | _=>cS
noncomputable def pA(K:Bo)(C:eH):Bool:=match K.lookup C with
 | some o=>o.cls==Ej "type" && o.slots.size==6 && (o.slots.toList.drop 4).take 1 == [cI (Value.builtin "ValueError.__new__")] && (match iy o with
  | some a=>a.mro.take 1 == [BU C] && !a.hasDel && FZ K t7 (a.mro.drop 1) && Ga K a.ns && Fn K a.ns "__init__" == cI cS
  | none=>eF)
 | none=>eF
theorem bY{H:Type}{l:List H}{a:H}(h:l.length=6)(e:(l.drop 4).take 1=[a]) : ∃z b1 b2 b3 b5,l=[z,b1,b2,b3,a,b5]:=by
 cases l with
 | nil=>cases h
 | cons z l=>cases l with
  | nil=>cases h
  | cons b1 l=>cases l with
   | nil=>cases h
   | cons b2 l=>cases l with
    | nil=>cases h
    | cons b3 l=>cases l with
     | nil=>cases h
     | cons b4 l=>cases l with
      | nil=>cases h
      | cons b5 l=>cases l with
       | nil=>
        cases e;exact⟨z,b1,b2,b3,b5,rfl⟩
       | cons b6 l=>simp at h
theorem cK{z:Type}{l:List z}{a:z}(e:l.take 1=[a]):l=a::l.drop 1:=by
 cases l with
 | nil=>cases e
 | cons b l=>cases e;rfl
structure XC(K:Bo)(mg:MJ)(c:Str):Prop where
 all:wA K=d6
 mem:c∈o5
 ex : ∃C,xV K c=cI C/\mg c=cI (.ref C)/\pA K C=d6
noncomputable def Ju(c:Xn)(od:Option eH)(z:Hp):Prop:=match c.2 with
 | none=>od=cS
 | some i=>∃d,od=cI d/\z d=cI (.xd [(ZW c.1,.int i)])
noncomputable def XW(X:Cx)(O U:Hp)(c:Xn):Prop:=(∀(f:MW) (I:St) (g z:Hp) (h:hA) (k:ia) (a C:eH) (o:List eM),Inv X f I g h->Ext O U z g->wA X.K=d6->c.1∈o5->xV X.K c.1=cI C->c.2=cS->
 Heap.MadeExcOf h.heap k a (.ref C) o->X.xe (.ref a) {h with heap:=k})/\
 (∀(f:MW) (I:St) (g z:Hp) (h:hA) (e:eM) (l:hA),Inv X f I g h->Ext O U z g->
   rn X.prog X.w X.stack g h (λj n m=>∃C i,j = .ref C/\wA X.K=d6/\c.1∈o5/\xV X.K c.1=cI C/\Ju c n i/\Ext z g i m) e l->X.xe e l)/\
 ∀(f:MW) (I:St) (g z:Hp) (h:hA) (a C d t:eH) (p:ia->Prop),Inv X f I g h->g a=cI (.ext p)->h.heap.get? a=cI (ZN C (cI d) t)->(X.ex=[]->X.l5.heap.get? a=cS)->
  Ext O U z (λb=>if b=a then cS else g b)->wA X.K=d6->c.1∈o5->xV X.K c.1=cI C->Ju c (cI d) z->X.xe (.ref a) h
noncomputable def Px(X:Cx)(st:l0)(G:CO Xn):Prop:=∀(a:MW) (s:hA) (d:St) (H z I e:Hp) (b:Ctx) (c:Xn),Inv X a d H s->RS X.K z I e H d b->G b=cI c->XW X z I c->
 wpAny (hH X.prog X.w) X.A (exec st X.env) (λ_ _=>False) X.xe s
noncomputable def D5(X:Cx)(J:List l0)(G:CO Xn):Prop:=∀(a:MW) (s:hA) (d:St) (H z I e:Hp) (b:Ctx) (c:Xn),Inv X a d H s->RS X.K z I e H d b->G b=cI c->XW X z I c->
 wpAny (hH X.prog X.w) X.A (execs J X.env) (λ_ _=>False) X.xe s
section
variable{X:Cx}{sc:i7}{N L:List Str}{k:Nat}{st:l0}{rest:List l0}{G G':CO Xn}{F:CO Fl}
theorem SX.m6(h:SX X sc N L k)(E:MQ):SX (X.m6 E) sc N L k:=⟨h.t9,h.eN,h.nd,h.calm,h.room,h.fn⟩
theorem Ka:Px X st o6:=λa s f H z O b d c I U e _=>by cases e
theorem wK{J:List l0}:D5 X J o6:=λa s f H z O b d c I U e _=>by cases e
theorem qj{rest:List l0}(h:Px X st G):D5 X (st::rest) G:=λa s f H O U b d c I Y e w=>
 FY (BN (h a s f H O U b d c I Y e w) (λ_ _ z=>z.elim) λ_ _ z=>z)
theorem qk(J:Px X st G)(Z:o7 X.o9 st F)(h3:D5 X rest G'):D5 X (st::rest) (yv G F G'):=λb s m H O U k j c I l e w=>by
 unfold yv at e;cases q:G j with
 | some t=>
  rw[q]at e;cases e;exact qj J b s m H O U k j c I l q w
 | none=>
  rw[q]at e;obtain⟨p,o,Y⟩:=zc e;cases p with
  | next d=>
   have Y:G' d=cI c:=Y;refine FY<|BN (Z b s m H {nx:=λg h=>∃a,RS X.K O U a h g d,rt:=λ_ _=>False} (I.m6 _) ⟨O,U,k,j,.next d,l,o,λg h a i=>⟨a,i⟩⟩) (λf r z=>?_) λ_ _ z=>z.elim;cases f with
   | next=>
    obtain⟨g,h,n,a,i⟩:=z;exact h3 b r g h O U a d c n.u6 i Y w
   | ret v=>obtain⟨_,_,_,_,_,z⟩:=z;exact z.elim
   | brk=>obtain⟨_,_,_,z⟩:=z;exact z.elim
   | cont=>obtain⟨_,_,_,z⟩:=z;exact z.elim
  | _=>cases Y
theorem Kb{J:CO Bool}{c:hI}{x y:List l0}{pos:ik}(hc:o4 X.o9 c J)(Z:D5 X x G)(hb:D5 X y G'):Px X (.If c x y pos) (yg J G G'):=λa s g H Y h j f n I U e w=>by
 obtain⟨t,p,O⟩:=zc e;refine wpAny_If<|BN (hc a s g H (λb i=>b=t/\∃d,Ext j H d i) (I.m6 _) ⟨j,f,t,U.rc,p,λi d x=>⟨rfl,d,x⟩⟩) (λb o z=>?_) λ_ _ z=>z.elim;obtain⟨k,l,rfl,m,x1⟩:=z;cases b with
 | true=>rw[MY rfl]at O;exact Z a o g k Y h m f n l.u6 (U.step x1) O w
 | false=>rw[RQ BJ]at O;exact hb a o g k Y h m f n l.u6 (U.step x1) O w
theorem Q6{a:hI}{f:CO D}{c:Str}{np cpos pos:ik}(h:SX X.o9 sc N L k)(hc:qR sc c=d6)(x:XC X.K X.mg c)(ha:PV X.o9 a f)(hf : ∀γ,∃d,f γ=cI d:=by intro γ;exact⟨_,rfl⟩)
 (O:iv [a] X.env=[(eF,hM a X.env)]:=by rfl):Px X (.Raise (cI (.Call (.Name c np) [a] [] cpos)) cS pos) (dw c):=λi s σ H F0 F1 P γ cc I rs e w=>by
 cases e;obtain⟨C,x1,x2,x3⟩:=x.ex;have FB:=Fc;have hh:X.A.handled=cS:=I.ok.hd (show X.calm=d6 from h.calm);have R:=h.gl hc;obtain⟨d,j⟩:=hf γ;have KI:=I.l7;have cls : ∃nm q N bs bm hdct sn sub ab col dd k0 k1 k2 k3 k5,X.K.lookup C=cI (excClassObj nm q C N bs bm hdct sn sub ab col dd k0 k1 k2 k3 k5 "ValueError.__new__")/\FZ X.K t7 bm=d6/\Ga X.K N=d6/\Fn X.K N "__init__" = cI cS:=by
  unfold pA at x3;cases y:X.K.lookup C with
  | none=>rw[y]at x3;cases x3
  | some o=>
   rw[y]at x3;obtain⟨oc,dd,G,J⟩:=o;simp only[Bt,beq_iff_eq]at x3;obtain⟨⟨⟨y1,y2⟩,y3⟩,p⟩:=x3;subst y1;obtain⟨k0,k1,k2,k3,k5,O⟩:=bY (by simpa using y2) y3;cases j:iy ⟨.type "type",dd,G,J⟩with
   | none=>rw[j]at p;cases p
   | some Z=>
    rw[j]at p;have be:G = .cls Z:=by
     unfold iy at j;cases G with
     | cls c6=>cases j;rfl
     | _=>cases j
    subst be;simp only[Bt,beq_iff_eq,EB]at p;obtain⟨⟨⟨⟨y5,S⟩,n⟩,b⟩,r⟩:=p;obtain⟨nm,bs,mro,ns,qn,bi,sn,sub,ab,col,c7⟩:=Z;dsimp only at y5 S n b r;subst S;have bl:J = #[k0,k1,k2,k3,cI (.builtin "ValueError.__new__"),k5]:=by obtain⟨l⟩:=J;simp only at O;rw[O]
    subst bl;have t:=cK y5;generalize mro.drop 1=bm at t n;subst t;exact⟨nm,qn,ns,bs,bm,bi,sn,sub,ab,col,dd,k0,k1,k2,k3,k5,rfl,n,b,r⟩
 obtain⟨nm,q,U,bs,bm,hdct,sn,sub,ab,col,dd,k0,k1,k2,k3,k5,y,n,b,r⟩:=cls;have T0 : ∀{g:ia},X.K.In g->OwnTail g t7 bm:=λY=>FT Y n;refine wpAny_Raise_call_subT (C:=C) (nm:=nm) (q:=q) (N:=U) (bs:=bs) (bm:=bm) (hdct:=hdct) (sn:=sn) (sub:=sub) (ab:=ab) (col:=col) (dd:=dd) (k0:=k0) (k1:=k1) (k2:=k2) (k3:=k3) (k5:=k5)
  FB (mN:=X.base.nsMap U) ((T0 KI).hasType FB.hasBase) hh (by rw[O];rfl) (PySem.W.nsMap_none_of_in I.ok.mod.DB b r) (xw I (show Gl X c from R.1) x2 ⟨rfl,?_⟩ R.2.2)
 have bn:PA X.o9 [a] _:=z7 ha jT (show iv [a] X.o9.env=[(eF,hM a X.o9.env)]from O);have T:=bn cpos i s σ H (λvs E=>∃v,vs=[v]/\∃F,Ext P H F E) (I.m6 _) ⟨P,γ,d,rs.rc,j,λv H' B M rr=>⟨v,rfl,B,M⟩⟩;rw[O];rw[show iv [a] X.o9.env=[(eF,hM a X.env)]from O]at T;refine GP<|BN T (λus s2 hZ=>?_) λ_ _ z=>z.elim;obtain⟨vs,E,m,rv,v,ev,F,M⟩:=hZ;subst ev;obtain⟨u,rfl,ru⟩:=kH rv;have m:=m.u6;have Q:=m.l7;have n1:X.base.Ns U (X.base.nsMap U):= .of_isNs (PySem.W.isNs_of_in I.ok.mod.DB b);have c3:s2.heap.Ns U (X.base.nsMap U):=n1.keeps m.bk;exact⟨rfl,by show 1<=i6;decide,Q _ _ y,c3,T0 Q,λh' e t=>w.1 i σ E F s2 h' e C _ m (rs.ext.trans M) x.all x.mem x1 rfl t⟩
end
noncomputable def IZ(K:Bo)(n:Nat)(G:List D->Option Xn):Sp:=λg H _ E=>∃b d c,kr b H/\gE K b d g/\d.length=n/\G d=cI c/\
 ∀C e a f,wA K=d6->c.1∈o5->xV K c.1=cI C->Ju c f a->Ext b H a e->E (.ref C) f e
theorem IZ.len{K:Bo}{n:Nat}{G:List D->Option Xn}{ps:List Str}(z:ps.length=n) : ∀vs H Q E,IZ K n G vs H Q E->vs.length=ps.length:=λvs H Q E h=>by obtain⟨d,e,c,_,a,b,_⟩:=h;rw[a.length,b,z]
structure n0(P:i8)(w:i5)(K:Bo)(mg:MJ)(base:ia)(k:Nat)(x:Str)(n:Nat)(G:List D->Option Xn):Prop where
 ex : ∃(f:eH) (fd:ts) (ps:List Str),ps.length=n/\t4 P w K mg base (rn P w) k f fd ps (IZ K ps.length G)/\mg x=cI (.ref f)/\Ek K (.ref f)=d6/\Binds K fd ps []
theorem Qz{P:i8}{w:i5}{K:Bo}{J:MJ}{base:ia}{x:Str}{st:l0}{N ps:List Str}{k:Nat}{G:CO Xn}(A:ie K J x st ps)(hd:ZO N ps st=d6)
 (aa : ∀X:Cx,X.prog=P->X.w=w->X.K=K->X.mg=J->X.base=base->SX X (zB st) N N k->D5 X (jN st) G):n0 P w K J base (k+1) x ps.length (YI N.length G):=by
 obtain⟨f,fd,F,hb,hm⟩:=A.ex;have S:=kA hd;have bi:ps.length<=N.length:=by have:=congrArg List.length S.pre;rw[EG]at this;omega
 refine⟨f,fd,ps,rfl,?_,hm,F.kp,.all hb⟩;obtain⟨oc,T,kV,doc,pm,an,Lo,ct,G5,rfl,lk,ae⟩:=F.ex;refine nj lk ae S (IZ.len rfl) λA p s H vs Q E hr am=>⟨λ_ Z g=>Z=yA N vs/\g=H,λh s1 Z M D I n=>?_,rfl,rfl⟩;obtain⟨rfl,rfl⟩:=n;obtain⟨L,ds,c,s0,h1,h2,h3,h4⟩:=am;refine BN (aa _ rfl rfl rfl rfl rfl ⟨rfl,rfl,S.nd,rfl,hr,λ_ _=> .inl rfl⟩ h s1 _ M L M L (je N.length ds) c I (Zt s0 h1 ⋯) h3 ⟨λR i j O W h' a C us U Y r y u B m=>?_,λR i j O W e s' U Y m=>?_,λR i j O W a C d t φ U y1 y2 y3 Y r y u B=>?_⟩) (λ_ _ z=>z.elim) λ_ _ z=>z
 ·exact Kr U m<|h4 C j O cS r y u (by unfold Ju;rw[B]) Y
 ·refine Qt (E':=λl T g=>∃C b,l = .ref C/\wA K=d6/\c.1∈o5/\xV K c.1=cI C/\Ju c T b/\Ext O j b g) U m λcc o g z=>?_
  obtain⟨C,b,rfl,z1,z2,z3,z4,z5⟩:=z;exact h4 C g b o z1 z2 z3 z4<|Y.trans z5
 ·exact Ks U y1 y2 (y3 rfl)<|h4 C _ O (cI d) r y u B Y
section
variable{X:Cx}{sc:i7}{N L:List Str}{k j n:Nat}{e:hI}{es:List hI}{g:CO (List D)}{G:List D->Option Xn}{x:Str}{p pos:ik}
noncomputable def Aa(X:Cx)(I:MW)(Y:St)(O H:Hp)(J:Xn)(e:eM)(s':hA):Prop:=∃b z f,Inv X I Y b f/\Ext O H z b/\
 rn X.prog X.w X.stack b f (λd h g=>∃C a,d = .ref C/\wA X.K=d6/\J.1∈o5/\xV X.K J.1=cI C/\Ju J h a/\Ext z b a g) e s'
theorem VY{J:MW}{σ:St}{H H0:Hp}{γ:Ctx}{Z:List D}{cc:Xn}{s:hA}(hf:n0 X.prog X.w X.K X.mg X.base j x n G)(hj:j<=k)(h:SX X sc N L k)(c:qR sc x=d6)(ha:y8 X.o9 (e::es) n g)
 (I:Inv X J σ H s) (rc:RC X.K H0 H σ γ) (eg:g γ=cI Z) (eG:G Z=cI cc)
 (he:iv (e::es) X.env=(eF,hM e X.env)::iv es X.env:=by rfl) (a7:(o8 pos<|starEach es X.env).any (·.1)=eF:=by rfl) :
 wpAny (hH X.prog X.w) X.A (hM (.Call (.Name x p) (e::es) [] pos) X.env) (λ_ _=>False) (Aa X J σ H0 H cc) s:=by
 obtain⟨fa,fd,t,T,F,S,Q,P⟩:=hf.ex;subst T;refine CI<|xw I (h.gl c).1 S ?_ (h.gl c).2.2;refine FU (h₀:=X.base) I.ok.mod.DB Q (BN (ha.1 pos J s σ H (λd b=>∃O,Ext H0 H O b/\gE X.K O Z d) (I.m6 _) ⟨H0,γ,Z,rc,eg,λd i a x r=>⟨a,x,r⟩⟩) (λf m ⟨d,b,U,B,O,x1,y⟩=>⟨U.u6.l7,?_⟩) λ_ _ z=>z.elim) he a7;have U:=U.u6;have E:d.length=t.length:=by rw[y.length];exact ha.2 γ Z eg
 have R:f.length=t.length:=by rw[<- B.length];exact E
 refine FN (FQ (F.run X.A X.stack m b ⟨f,[]⟩ f d (λ_ _=>False) (λl o i=>∃C a,l = .ref C/\wA X.K=d6/\cc.1∈o5/\xV X.K cc.1=cI C/\Ju cc o a/\Ext O b a i) (h.room.mono hj) U.IM
  (by simpa using P m f U.l7 (by simpa using R)) B ⟨O,Z,cc,x1.sub,y,ha.2 γ Z eg,eG,λC i a o W xm xc xn xx=>⟨C,a,rfl,W,xm,xc,xn,xx⟩⟩) λr s' Y=>?_)
 cases r with
 | error e=>exact⟨b,O,m,U,x1,Y⟩
 | ok M=>
  cases M with
  | ret u=>obtain⟨_,_,_,_,_,_,_,z⟩:=Y;exact z.elim
  | next=>exact Y.elim
  | brk=>exact Y.elim
  | cont=>exact Y.elim
theorem vo{spos:ik}(hf:n0 X.prog X.w X.K X.mg X.base j x n G)(U:j<=k)(h:SX X.o9 sc N L k)(c:qR sc x=d6)(Z:y8 X.o9 (e::es) n g)
 (Y:iv (e::es) X.env=(eF,hM e X.env)::iv es X.env:=by rfl) (J:(o8 pos<|starEach es X.env).any (·.1)=eF:=by rfl)
 (hs:vt (.Call (.Name x p) (e::es) [] pos) cS spos.line X.env=pure eF:=by rfl) :
 Px X (.Expr (.Call (.Name x p) (e::es) [] pos) spos) (xU G g):=λa s t H u y A E B I O eq w=>by
 obtain⟨C,l,m⟩:=zc eq;refine Hq (BN (VY hf U (⟨h.t9,h.eN,h.nd,h.calm,h.room,h.fn⟩:SX X sc N L k) c Z I O.rc l m Y J) (λ_ _ z=>z.elim) λev o z=>?_) I.quiet hs;obtain⟨b,f,r,d,x1,i⟩:=z;exact w.2.1 a t b f r ev o d (O.ext.trans x1) i
end
noncomputable def E4(X:Cx)(e:eM):Cx:={X with A:=X.A.mark<|some e,calm:=eF,xe:=λ_ _=>False}
theorem VL{X:Cx}{J:MW}{L:St}{H:Hp}{s:hA}(I:L2.Inv X J L H s)(e:eM):L2.Inv (E4 X e) J L H s:=
 ⟨⟨I.ok.mod,I.ok.kind,I.ok.glob,I.ok.blt,I.ok.above,I.ok.inj,I.ok.has,I.ok.D7,(λz=>nomatch z),I.ok.frames,I.ok.Dk,I.ok.F7,I.ok.bs,I.ok.B1,I.ok.E5,I.ok.D9,I.ok.rk,I.ok.B4⟩,I.os,I.bare,I.base,I.loc,I.cell,I.free,I.wh,I.pin,I.ij,I.len⟩
theorem VJ{X:Cx}{z:MW}{J:St}{H:Hp}{s:hA}{e:eM}(ok:X.Ok)(I:L2.Inv (E4 X e) z J H s):L2.Inv X z J H s:=
 ⟨ok,I.os,I.bare,I.base,I.loc,I.cell,I.free,I.wh,I.pin,I.ij,I.len⟩
theorem Vq{X:Cx}{J:MW}{L:St}{H:Hp}{s:hA}{M:Model}{A:l9}{E:MQ}{Q:Unit->hA->Prop}{i:Nat}{n:Str}{pos:ik}(I:L2.Inv X J L H s)(Z:X.N.Nodup)(hi:X.N[i]? = cI n)(hl:X.env.scope.names.lookup n=cI .local)
 (h : ∀s',L2.Inv X J (L.set i cS) H s'->Q () s'):wpAny M A (do bindName X.env n .none;unbindBehindTheSuite X.env n pos) Q E s:=by
 obtain⟨m,B,F⟩:=id I.loc;have t:(X.env.scope.kind == .class || (X.env.scope.kind == .module && X.env.locals != X.env.globals))=eF:=by rw[I.ok.kind];rfl
 refine wpAny_nameGoes_keeps hl B t λh' v u O=>h _ ?_;have a1 : ∀b o,X.l5.heap.get? b=cI o->b≠X.env.locals:=λb o e=>BH<|BF (Bz e) I.ok.above;refine⟨I.ok,I.os,I.bare,⟨λb o e n f Y=>?_,λb o e n f Y=>?_,I.base.free,λb o e Y=>?_,I.base.xC,I.base.vr,I.base.xg⟩,⟨_,u,λj y W g a w=>?_⟩,λy c e=>?_,I.free,I.wh,λp C=>?_,λb P e=>?_,by simpa using I.len⟩
 ·exact(O.2 b<|a1 b o e).trans (I.base.keep b o e n f Y)
 ·obtain⟨S,z⟩:=I.base.slot b o e n f Y
  exact⟨S,(O.2 b<|a1 b o e).trans z⟩
 ·obtain⟨K,z⟩:=I.base.there b o e Y
  exact⟨K,(O.2 b<|a1 b o e).trans z⟩
 ·rcases zM a with⟨_,z,_⟩ | ⟨x,a⟩
  ·cases z
  ·obtain⟨T,R,q⟩:=F j y W g a w
   refine⟨T,R,?_⟩;rcases q with⟨k,e⟩ | ⟨k,c,e,z⟩
   ·refine .inl ⟨k,?_⟩
    have:y≠n:=λe=>x<|Zz Z g<|e ▸ hi;simp[this,e]
   ·exact .inr ⟨k,c,e,z.sameBut O<|I.Du y c e⟩
 ·obtain⟨r,z⟩:=I.cell y c e
  exact⟨r,z.sameBut O<|I.Du y c e⟩
 ·obtain⟨e,n,l,G,d⟩:=I.pin p C
  exact⟨(O.2 p.1 l).trans e,n,l,G,d⟩
 ·refine(I.ij b P e).A7 (λc r U q=>(O.2 c ?_).trans q) (λ_ q=>q) λ_ _ q=>q
  rintro rfl;rcases U with U | U
  ·rw[<- U,I.free]at e;cases e
  ·rw[I.free]at U;cases U
structure XS(K:Bo)(mg:MJ):Prop where
 ex : ∃S,xV K "SplitError" = cI S/\mg "SplitError" = cI (.ref S)/\EU K (.ref S)=cI (.type "type")/\CB K S (.type "BaseException")=cI d6/\(EF K S).isSome=d6/\CB K S (.ref S)=cI d6
section ap
variable(γ:Ctx)
@[simp] def XM:=@zT.eq_1
@[simp] def dm:=@qS.eq_1
@[simp] def QK:=@jj.eq_1
@[simp] def qO:=@zf.eq_1
@[simp] def kX:=@zl.eq_1
@[simp] theorem Zh(d):zm d γ=cI d:=rfl
@[simp] def yQ:=@zw.eq_1
@[simp] def tN:=@sB.eq_1
@[simp] def tM:=@YH.eq_1
@[simp] def uJ:=@hJ.eq_1
@[simp] def sU:=@xf.eq_1
@[simp] def uV:=@lp.eq_1
@[simp] def AV:=@ND.eq_1
@[simp] def uK:=@pY.eq_1
@[simp] def uP:=@Z1.eq_1
@[simp] theorem Zg:zx γ=cI []:=rfl
@[simp] def yJ:=@zb.eq_1
@[simp] def nE:=@k6.eq_1
@[simp] def sY:=@qw.eq_1
@[simp] def sV:=@jK.eq_1
@[simp] def nI:=@qv.eq_1
@[simp] def sS:=@wo.eq_1
@[simp] def sR:=@yU.eq_1
@[simp] def uS:=@Bh.eq_1
@[simp] def tH:=@eo.eq_1
@[simp] def Wz:=@m3.eq_1
@[simp] def nH:=@jn.eq_1
@[simp] def Wy:=@k7.eq_1
@[simp] def tE:=@wq.eq_1
@[simp] def vV:=@kT.eq_1
@[simp] def vU:=@zq.eq_1
@[simp] def pf:=@qi.eq_1
@[simp] def XN:=@zQ.eq_1
@[simp] def yq:=@jz.eq_1
@[simp] def nJ:=@Zs.eq_1
@[simp] def uE:=@iY.eq_1
@[simp] def Zi:=@Jg.eq_1
@[simp] def yK:=@zN.eq_1
@[simp] theorem uF:jX γ=cI d6:=rfl
@[simp] def tK:=@Jh.eq_1
@[simp] def sT:=@pX.eq_1
@[simp] def KN:=@gB.eq_1
@[simp] def ZY:=@vm.eq_1
@[simp] theorem uL:J4 γ=cI cS:=rfl
@[simp] def AX:=@u4.eq_1
@[simp] def uG:=@YE.eq_1
@[simp] def nL:=@wJ.eq_1
@[simp] def AW:=@DY.eq_1
@[simp] def uM:=@Be.eq_1
@[simp] def KM:=@zS.eq_1
@[simp] def nK:=@rf.eq_1
@[simp] def nF:=@YC.eq_1
@[simp] def uW:=@et.eq_1
@[simp] def uU:=@rm.eq_1
@[simp] def tm:=@xh.eq_1
@[simp] def sX:=@Au.eq_1
@[simp] def sQ:=@dX.eq_1
theorem jt(F G):zF F G γ=(F γ).bind λz=>match z with
 | .next a=>G a
 | f=>cI f:=rfl
end ap
@[simp] theorem nB(ds):jf (.tup ds)=cI (.T,ds):=rfl
@[simp] theorem Ze(ds):jf (.lst ds)=cI (.L,ds):=rfl
@[simp] theorem zP(d):Wh (cI (.val d))=cI d:=rfl
@[simp] theorem qa(d):yH (cI (.val d))=jf d:=rfl
@[simp] theorem gK(d):yH (cI (.own d))=cI (.L,d):=rfl
@[simp] theorem qV(d):qb (cI (.own d))=cI d:=rfl
@[simp] theorem gL(d):QE (cI (.val d))=cI (.ret<|.val d):=rfl
@[simp] theorem gM(d):QE (cI (.own d))=cI (.ret<|.own d):=rfl
@[simp] theorem uD(b):De (.bl b)=cI b:=rfl
@[simp] theorem qW(b):oI (.int b)=cI b:=rfl
@[simp] theorem k9(d):nZ (.val d)=d:=rfl
@[simp] theorem nY(d):nZ (.own d) = .lst d:=rfl
@[simp] theorem nX(d):rq (.own d)=cI d:=rfl
@[simp] theorem oM(i j):wb (.int i) (.int j)=cI (.int<|i - j):=rfl
@[simp] theorem XB(i j):qo (.int i) (.int j)=cI (.int<|i+j):=rfl
@[simp] theorem oP(i j):kh (.int i) (.int j)=if 0<j then cI (.int<|i%j)else cS:=by show(if oQ i j=d6 then _ else _)=_;simp[oQ]
@[simp] theorem bK(i j):K5 (.int i) (.int j)=if 0<j/\j<1073741824 then cI (.int<|i/j)else cS:=by
 show(if nz i j=d6 then _ else _)=_;have e:(nz i j=d6)=(0<j/\j<1073741824):=by unfold nz;rw[Bt,decide_eq_true_eq,decide_eq_true_eq];apply propext;constructor<;>intro h<;>exact⟨h.1,by omega⟩
 simp only[e]
@[simp] theorem oO(i j):J5 (.int i) (.int j)=if QF i j=d6 then cI (.int<|i*j)else cS:=rfl
@[simp] theorem oN(i j):gF (.int i) (.int j)=if ny i j=d6 then cI (.int<|i ^ j.toNat)else cS:=rfl
@[simp] theorem sH(i j):DU (.int i) (.int j)=cI (.bl<|decide<|i<j):=rfl
@[simp] theorem sI(i j):A1 (.int i) (.int j)=cI (.bl<|decide<|i<=j):=rfl
@[simp] theorem sJ(i j):B2 (.int i) (.int j)=cI (.bl<|decide<|j<i):=rfl
@[simp] theorem sL(i j):Md (.int i) (.int j)=cI (.bl<|decide<|j<=i):=rfl
@[simp] theorem sM(i j):i9 (.int i) (.int j)=cI (.bl<|decide<|i=j):=by unfold i9;rw[MY ⟨rfl,rfl⟩];exact congrArg (λb=>cI (D.bl b)) (by rw[FX];simp[n9])
@[simp] theorem sG(i j):r6 (.int i) (.int j)=cI (.bl<|!decide (i=j)):=by unfold r6;rw[MY ⟨rfl,rfl⟩];exact congrArg (λb=>cI (D.bl !b)) (by rw[FX];simp[n9])
@[simp] theorem iX(i is d ds γ):qg (i::is) (d::ds) γ=qg is ds (γ.set i<|.val d):=rfl
@[simp] theorem iW(ds γ):qg [] ds γ=γ:=by cases ds<;>rfl
@[simp] theorem ZV(i d γ):xj (.nm i) d γ=cI (γ.set i<|.val d):=rfl
@[simp] theorem JW(i j a b γ):xj (.tp [i,j]) (.tup [a,b]) γ=cI ((γ.set i<|.val a).set j (.val b)):=rfl
@[simp] theorem W7(γ:Ctx)(G:CO Fl):(cI (Fl.next γ)).bind (λz=>match z with
 | .next γ'=>G γ'
 | f=>cI f)=G γ:=rfl
theorem Wo(i j:Int)(z : -(2 ^ 64)<j)(H:j<2 ^ 64):QF i j=d6:=by unfold QF;rw[Cj];right;exact decide_eq_true ⋯
theorem XF(i j:Int)(z : -(2 ^ 64)<i)(H:i<2 ^ 64):QF i j=d6:=by unfold QF;rw[Cj];left;exact decide_eq_true ⋯
theorem dc(z : -(2 ^ 62)<i)(H:i<2 ^ 62):inR i=d6:=by unfold inR;exact decide_eq_true ⋯
@[simp] theorem jv(n k:Nat):o3 n (k:Int)=if k<n then cI k else cS:=by
 unfold o3;by_cases h:k<n
 ·rw[MY ⟨Int.natCast_nonneg k,by omega⟩,MY h];simp
 ·rw[RQ ⋯,RQ ⋯,RQ h]
theorem jU:lim=2500:=rfl
@[simp] theorem oJ:0<=lim:=Eo _
@[simp] theorem oH:1<=lim:=by decide
@[simp] theorem oG:2<=lim:=by decide
@[simp] theorem oF:3<=lim:=by decide
@[simp] theorem oE:4<=lim:=by decide
@[simp] theorem oC:5<=lim:=by decide
@[simp] theorem oB:6<=lim:=by decide
@[simp] theorem oA:7<=lim:=by decide
@[simp] theorem oz:8<=lim:=by decide
@[simp] theorem oq:0<lim:=by decide
@[simp] theorem ZF(h:n<=lim):inR (n:Int)=d6:=dc ⋯ (by have:=jU;omega)
@[simp] theorem NZ(n:Nat):o3 (n+1) 0=cI 0:=jv (n+1) 0 ▸ rfl
@[simp] theorem N0(n:Nat):o3 (n+2) 1=cI 1:=by have:=jv (n+2) 1;simpa using this
@[simp] theorem Nm(n:Nat):o3 (n+3) 2=cI 2:=by have:=jv (n+3) 2;simpa using this
theorem zL(r:α->D) : ∀(l:List α),(∀x∈l,zU T k f γ [g x]=cI [r x])->zU T k f γ (l.map g)=cI (l.map r)
 | [],_=>rfl
 | x::l,h=>by
  have a:=h x BQ;have d:=zL r l λy I=>h y<|BL _ I;simp only[BY,zU]at a ⊢;cases e1:xj T (g x) γ with
  | none=>rw[e1]at a;simp at a
  | some z=>
   rw[e1]at a;simp only[Bw]at a ⊢;cases e2:k z with
   | none=>rw[e2]at a;simp at a
   | some b=>
    rw[e2]at a;simp only[Bw]at a ⊢;cases b with
    | false=>simp at a
    | true=>
     simp only[MY]at a ⊢;cases e3:f z with
     | none=>rw[e3]at a;simp at a
     | some e=>
      rw[e3]at a;simp at a;rw[d];simp[a]
theorem zO(H:xj T d γ=cI Iy)(I:k Iy=cI d6)(z:f Iy=cI e):zU T k f γ [d]=cI [e]:=by simp[zU,H,I,z]
theorem jG(T F d H γ):qM T F (d::H) γ=(xj T d γ).bind λI=>(F I).bind λO=>match O with
 | .next z=>qM T F H z
 | .cont z=>qM T F H z
 | .brk z=>cI (.next z)
 | .ret r=>cI (.ret r):=rfl
theorem JJ(P:Nat->Ctx->Prop) : ∀(H:List D) (k:Nat) (γ:Ctx),P k γ->(∀i d γ,H[i]? = cI d->P (k+i) γ->∃γ',((xj T d γ).bind F=cI (.next γ')\/(xj T d γ).bind F=cI (.cont γ'))/\P (k+i+1) γ')->
 ∃γ',qM T F H γ=cI (.next γ')/\P (k+H.length) γ'
 | [],k,γ,h,_=>⟨γ,rfl,h⟩
 | d::H,k,γ,h,step=>by
  obtain⟨z,e,b⟩:=step 0 d γ rfl h;obtain⟨γ',I,f⟩:=JJ P H (k+1) z (by simpa using b) (λi a O g U=>by have:=step (i+1) a O (by simpa using g) (by rw[show k+(i+1)=k+1+i by omega];exact U);rw[show k+(i+1)+1=k+1+i+1 by omega]at this;exact this)
  refine⟨γ',?_,by rw[show k+(d::H).length=k+1+H.length by simp;omega];exact f⟩;rw[jG];cases eb:xj T d γ with
  | none=>rw[eb]at e;simp at e
  | some Y=>
   rw[eb]at e;simp only[Bw]at e ⊢;rcases e with e | e<;>rw[e]<;>exact I
def zC(n:Nat)(f:Nat->Int):List D:=(Br n).map λi=>D.int<|f i
theorem jl(n f):zC n f=(Br n).map λi=>D.int (f i):=rfl
noncomputable def ji(h w:Nat)(f:MK):List D:=(Br h).map λi=>D.tup<|zC w<|f i
noncomputable def jW(h w:Nat)(f:MK):D:= .tup [.int h,.int w,.tup (ji h w f)]
@[simp] theorem qC(n f):(zC n f).length=n:=by simp[zC]
@[simp] theorem Xx(h w f):(ji h w f).length=h:=by simp[ji]
@[simp] theorem sv(f)(h:i<(zC n f).length):(zC n f)[i] = .int (f i):=by simp[zC]
theorem j7(f)(h:i<n):(zC n f)[i]? = cI (.int<|f i):=by simp[zC,h]
@[simp] theorem sy(f)(z:i<(ji h w f).length):(ji h w f)[i] = .tup (zC w<|f i):=by simp[ji]
theorem kE(h : ∀i,i<n->f i=g i):zC n f=zC n g:=by unfold zC;apply CJ;intro i a;rw[h i (BD.mp a)]
theorem kF(e : ∀i j,i<h->j<w->f i j=g i j):ji h w f=ji h w g:=by unfold ji;apply CJ;intro i a;rw[kE λj z=>e i j (BD.mp a) z]
theorem yn{h w:Nat}{f g:MK}(e : ∀i j,i<h->j<w->f i j=g i j):jW h w f=jW h w g:=by unfold jW;rw[kF e]
theorem qA(n:Nat):kL 0 n=zC n λi=>(i:Int):=by simp[kL,zC]
theorem WR(n:Nat)(f g:Nat->Int):WI (zC n f) (zC n g)=(Br n).map λi=>D.tup [.int (f i),.int (g i)]:=by unfold WI zC;rw[List.zip_map'];simp
def zz(f:Nat->Int):Nat->Int
 | 0=>0
 | n+1=>zz f n+f n
theorem vi : ∀(xs:List Int) (y:Int),QX (xs.map D.int++[.int y])=(QX<|xs.map D.int).map λs=>s+y
 | [],y=>by simp[QX]
 | x::xs,y=>by simp only[BY,List.cons_append,QX];rw[vi xs y];cases e:QX (xs.map D.int)<;>simp[Int.add_assoc]
theorem xZ(f:Nat->Int) : ∀n,QX (zC n f)=cI (zz f n)
 | 0=>rfl
 | n+1=>by
  have z:=xZ f n;have e : ∀m,zC m f=((Br m).map f).map D.int:=λm=>by simp[zC]
  rw[e]at z ⊢;rw[EO,Fd,Fd,List.map_singleton,List.map_singleton,vi,z];simp[zz]
noncomputable def qz:=jg 2<|qv<|zS<|jj<|zN (zQ<|zl 1) (.nm 0) 1 [0] jX (zw kh (zf 0)<|zf 1)
noncomputable def zD:=jg 2<|zF (jn 1<|qS<|zN (jz<|gB (zl 0)<|zm<|.int 1) (.nm 0) 1 [0] jX (zS<|jj<|zN (zQ<|zT<|gB (zl 1)<|zm<|.int 2) (.nm 0) 1 [0] jX (gB (zl 0)<|zf 1)))<|qv<|k6<|zb (gB (zl 0)<|zm<|.int 1)<|zb (gB (zl 0)<|zm<|.int 0)<|zb (zS<|zl 1) zx
noncomputable def jP:=jg 2<|zF (jn 1<|qS<|zN (jz<|zf 0) (.nm 0) 1 [0] jX (zS<|jj<|zN (jz<|zf 1) (.nm 0) 1 [0] jX (Z1 (sB<|zw i9 (zf 1)<|zf 0) (zm<|.int 1)<|zm<|.int 0)))<|qv<|k6<|zb (zf 0)<|zb (zf 0)<|zb (zS<|zl 1) zx
noncomputable def kx:=jg 3<|zF (Jg (Zs (zm<|.int 1)<|zf 0) (.nm 2)<|m3 (sB<|zw i9 (zw kh (zw J5 (zf 1)<|zf 2)<|zf 0)<|zm<|.int 1) (yU 2) jK) k8
noncomputable def jh:=jg 5<|zF (jn 4<|gB (zl 1)<|zf 3)<|zF (m3 (sB<|zw i9 (zf 4)<|zm<|.int 0) (yU 1) jK)<|qv<|zq qz<|zb (zf 0)<|zb (qS<|zN (iY (zf 1)<|zf 2) (.tp [0,1]) 2 [4] jX (zw wb (zf 0)<|zw J5 (zf 2)<|zf 1)) zx
noncomputable def q8:=jg 9<|zF (jn 3<|qS<|zN (zQ<|zl 2) (.nm 0) 1 [0] jX (zq qz<|zb (zf 1)<|zb (zf 0) zx))<|zF (k7 4<|qw zx)<|zF (Jg (jz<|zf 1) (.nm 5)<|zF (jn 6<|qS<|zN (zQ<|zl 3) (.nm 0) 1 [5] (sB<|zw r6 (gB (zl 0)<|zf 1)<|zm<|.int 0) (zf 0))<|zF (m3 (xf<|dX<|zl 6) eo jK)<|zF (jn 7<|zq kx<|zb (zf 0)<|zb (gB (zT<|gB (zl 6)<|zm<|.int 0)<|zf 5) zx)<|zF (jn 8<|zq qz<|zb (zf 0)<|zb (qS<|zN (zQ<|zT<|gB (zl 6)<|zm<|.int 0) (.nm 0) 1 [7] jX (zw J5 (zf 1)<|zf 0)) zx)<|zF (jn 3<|qS<|zN (zQ<|zl 3) (.nm 0) 1 [0,5,8] jX (zq jh<|zb (zf 1)<|zb (zf 0)<|zb (zf 3)<|zb (zf 2) zx))<|k7 4<|Jh (jj<|zN (zQ<|zl 4) (.nm 0) 1 [0,5,8] jX (zq jh<|zb (zf 1)<|zb (zf 0)<|zb (zf 3)<|zb (zf 2) zx))<|jj<|qw<|zb (zf 8) zx)<|yU 4
noncomputable def jF:=jg 2<|wo<|zN (zQ<|zl 1) (.nm 0) 1 [0] (xf<|sB<|rm<|zT<|YE (zf 0) J4<|u4<|zf 1) (YE (zf 0) (u4<|zf 1) J4)
noncomputable def kG:=jg 5<|zF (jn 3<|qS<|zN (iY (gB (zT<|zq zD<|zb (zf 1) zx)<|zm<|.int 2)<|gB (zT<|zq jP<|zb (gB (zl 1)<|zm<|.int 1) zx)<|zm<|.int 2) (.tp [0,1]) 2 [] jX (zw qo (zf 0)<|zf 1))<|zF (jn 4<|qS<|zN (zQ<|zl 2) (.nm 0) 1 [1] jX (zw qo (zf 0)<|zw J5 (k6<|zb (zm<|.int 0) zx)<|gB (zl 1)<|zm<|.int 1))<|wo<|qi jF<|zb (gB (zl 1)<|zm<|.int 0)<|zb (qS<|qi q8<|zb (zf 0)<|zb (zw qo (gB (zl 1)<|zm<|.int 0)<|gB (zl 1)<|zm<|.int 1)<|zb (qS<|Jh (zl 3)<|zl 4) zx) zx
noncomputable def yu:=jg 2<|wo<|qi kG<|zb (zf 0)<|zb (zf 1)<|zb (qS<|qw zx) zx
noncomputable def vZ:=jg 2<|wo<|qi q8<|zb (zf 0)<|zb (gB (zl 1)<|zm<|.int 0)<|zb (gB (zT<|zq zD<|zb (zf 1) zx)<|zm<|.int 2) zx
section
variable(γ:Ctx)
@[simp] def uT:=@Bi.eq_1
@[simp] def tL:=@AC.eq_1
@[simp] def pb:=@ug.eq_1
end
noncomputable def qr:=jg 1<|qv<|gB (jj<|zN (X6<|zf 0) (.tp [0,1]) 2 [] (sB<|zw r6 (zf 1)<|zm<|.int 0) (zf 0))<|zm<|.int 0
section
variable(γ:Ctx)
@[simp] def tD:=@X6.eq_1
@[simp] def uO:=@uc.eq_1
@[simp] def uQ:=@Bf.eq_1
@[simp] theorem pe(F G a b c):qh F G a b c γ=(a γ).bind λx=>(b γ).bind λy=>((F x y).bind De).bind λk=>if k=d6 then (c γ).bind λz=>G y z else cI (.bl eF):=rfl
@[simp] def Wx:=@YF.eq_1
end
section
variable(γ:Ctx)
@[simp] def oZ:=@uf.eq_1
@[simp] def nM:=@rj.eq_1
@[simp] def uR:=@Bg.eq_1
@[simp] def tw:=@Az.eq_1
@[simp] def oT:=@ua.eq_1
end
@[simp] theorem bP(r):ZT (cI (.nest r))=cI r:=rfl
section
variable(γ:Ctx)
@[simp] def bS:=@wI.eq_1
@[simp] def tf:=@Jf.eq_1
@[simp] def tG:=@AA.eq_1
@[simp] def gW:=@dY.eq_1
end
noncomputable def qE:=jg 2 (qv (Z1 (sB (zw i9 (zf 1) (zm (.str "r")))) (zf 0) (zw qo (zf 0) (zm (.int 1)))))
noncomputable def ve:=jg 2 (qv (Z1 (sB (zw i9 (zf 1) (zm (.str "r")))) (zw qo (zf 0) (zm (.int 1))) (zf 0)))
noncomputable def jQ:=jg 1 (qv (Z1 (sB (zw i9 (zf 0) (zm (.str "r")))) (zm (.str "l")) (zm (.str "r"))))
noncomputable def rh(f:CO D):CO D:=λa=>(f a).map λd=> .bl (bp .list d || bp .tuple d)
def yL:=jg 1<|qv<|lp (DY .int<|zf 0)<|pY<|DY .bool<|zf 0
noncomputable def j4:=jg 2<|qv<|lp (zq yL<|zb (zf 1) zx)<|qh A1 DU (zm<|.int 0) (zf 1)<|zf 0
def QM:=jg 2<|qv<|lp (rh<|zf 0)<|zw i9 (wJ<|zl 0)<|zf 1
noncomputable def jZ:=jg 1 (qv (dY (zm (.str "")) (jj (zN (zQ (zT (gB (zl 0) (zm (.int 2))))) (.nm 0) 1 [] jX (gB (zl 0) (zm (.int 0)))))))
section
variable{X:Cx}{sc:i7}{N L:List Str}{k:Nat}{a e:hI}{es:List hI}{f:CO D}{g:CO (List D)}{pos p p2:ik}
theorem xQ(O:PV X e f)(U:vt e cS pos.line X.env=pure eF:=by rfl):o7 X (.Expr e pos) (wq f):=ka (Qi O U) λD k H Y=>by obtain⟨E0,E,g,j,l,I,z,h⟩:=Y;obtain⟨d,i,z⟩:=zr z;subst z;exact⟨g,j,d,I.rc,i,λv b a x r=>h k b a<|I.step x⟩
theorem so{P:i8}{w:i5}{K:Bo}{J:MJ}{base:ia}{x:Str}{st:l0}{N ps:List Str}{k:Nat}{F:CO Fl}(A:ie K J x st ps)(Y:ZO N ps st=d6)
 (I : ∀X:Cx,X.prog=P->X.w=w->X.K=K->X.mg=J->X.base=base->SX X (zB st) N N k->X.xe=(λ_ _=>False)->(X.stack=X.env::X.outer/\X.env.frame=cI X.env.locals)->XO X (jN st) F) :
 fh P w K J base (k+1) x ps.length (jg N.length F):=by
 obtain⟨f,b,z,O,d⟩:=A.ex;have S:=kA Y;refine⟨f,b,ps,rfl,gy z S λa A outer s H E U=>?_,d,z.kp,.all O⟩;exact I _ rfl rfl rfl rfl rfl ⟨rfl,rfl,S.nd,rfl,U,λ_ _=> .inl rfl⟩ rfl ⟨rfl,rfl⟩
structure XI(K:Bo)(mg:MJ)(c:Str):Prop where
 mem:c∈o5
 ex : ∃C,xV K c=cI C/\mg c=cI (.ref C)
theorem Xo{J:MW}{σ:St}{H:Hp}{s:hA}{A:l9}{E:MQ}{Q:MQ}{b:eH}{t:eM}{c:Str}{n:Option Int}{Z:Hp}{r:Bool}(I:L2.Inv X J σ H s)(sub:kr Z H)(O:vv X.K Z c n b)
 (Y : ∀C,xV X.K c=cI C->CT X.K (.ref C) t=cI r) (h : ∀tk,Q (.bool r) {s with toks:=tk}):wpAny (hH X.prog X.w) A (call (.builtin "isinstance") [.ref b,t]) Q E s:=by
 obtain⟨C,a,U,g2,g3,_⟩:=O.ex;obtain⟨S,_,x1,_,_⟩:=kR O.all O.mem U;obtain⟨p,_,_⟩:=(show l8 X.prog X.w H s.heap b (.ext a)from I.ij b _<|sub _ _ g2);exact BO (Xm (J6 x1)<|K7 x1) I.l7 (g3 _ p) (Y C U) (λz=>nomatch z) h
theorem xI{c:Str}(h:SX X sc N L k)(ci:qR sc "isinstance" = d6)(z:X.mg "isinstance" = cS)(J:qR sc c=d6)(x:XI X.K X.mg c)(ha:PV X a f)
 (Z:iv [a,.Name c p2] X.env=[(eF,hM a X.env),(eF,hM (.Name c p2) X.env)]:=by rfl):PV X (.Call (.Name "isinstance" p) [a,.Name c p2] [] pos) (Qd c f):=by
 intro g s T H Q I ⟨l,R,d,rc,O,q⟩;obtain⟨w,y,O⟩:=zc O;obtain⟨C,x1,M⟩:=x.ex;cases w with
 | exc U n=>
  cases O;refine CI<|qU I (h.gl ci).1 z Er ?_ ⋯ ⋯;refine CK ?_ (by rw[Z];rfl) rfl;rw[Z];show wpAny _ _ (A6 ((eF,hM a X.env)::o8 pos [(eF,hM (.Name c p2) X.env)])) _ _ s;refine Ci<|ih (ha g s T H (λv j=>∃e,Ext l H e j/\Rep X.K e (.exc U n) v) I ⟨l,R,_,rc,y,λv j e x r=>⟨e,x,r⟩⟩) λu F A=>?_;obtain⟨v,m,Y,B,o,t,E⟩:=A;obtain⟨b,rfl,i⟩:=(show ∃b,v = .ref b/\vv X.K o U n b from E);cases (show u=BU b from B);show wpAny _ _ (A6 ((eF,hM (.Name c p2) X.env)::[])) _ _ F;refine Ci<|xw Y (h.gl J).1 M ?_ (h.gl J).2.2;refine EL ?_;refine Xo Y t.sub i (λW g1=>?_) λG=>⟨.bl<|U==c,m,Y.tok G,rfl,q _ m o t rfl⟩;obtain⟨S,_,_,_,P⟩:=kR i.all i.mem g1;exact P c C x.mem x1
 | _=>cases O
theorem Wp:Dt "ValueError" = cI (.type "ValueError"):=by decide +kernel
theorem eL(h:SX X sc N L k)(ci:qR sc "isinstance" = d6)(z:X.mg "isinstance" = cS)(J:qR sc "ValueError" = d6)(zv:X.mg "ValueError" = cS)(ha:PV X a f)
 (Z:iv [a,.Name "ValueError" p2] X.env=[(eF,hM a X.env),(eF,hM (.Name "ValueError" p2) X.env)]:=by rfl):PV X (.Call (.Name "isinstance" p) [a,.Name "ValueError" p2] [] pos) (dZ f):=by
 intro g s P H Q I ⟨l,M,d,rc,O,q⟩;obtain⟨y,A,O⟩:=zc O;cases y with
 | exc w n=>
  cases O;refine CI (qU I (h.gl ci).1 z Er ?_ ⋯ ⋯);refine CK ?_ (by rw[Z];rfl) rfl;rw[Z];show wpAny _ _ (A6 ((eF,hM a X.env)::o8 pos [(eF,hM (.Name "ValueError" p2) X.env)])) _ _ s;refine Ci (ih (ha g s P H (λv j=>∃e,Ext l H e j/\Rep X.K e (.exc w n) v) I ⟨l,M,_,rc,A,λv j e x r=>⟨e,x,r⟩⟩) λu F B=>?_);obtain⟨v,m,U,C,o,t,E⟩:=B;obtain⟨b,rfl,Y⟩:=(show ∃b,v = .ref b/\vv X.K o w n b from E);cases (show u=BU b from C);show wpAny _ _ (A6 ((eF,hM (.Name "ValueError" p2) X.env)::[])) _ _ F;refine Ci (qU U (h.gl J).1 zv Wp ?_ (h.gl J).2.1 (h.gl J).2.2);refine EL ?_;refine Xo (r:=d6) U t.sub Y (λR g1=>?_) λG=>⟨.bl d6,m,U.tok G,rfl,q _ m o t rfl⟩;obtain⟨S,_,i,_,_⟩:=kR Y.all Y.mem g1;unfold WV at i;simp only[Bt,beq_iff_eq]at i;exact i.1.1.1.1.1.1.1.1.1.2
 | _=>cases O
structure GL(K:Bo)(mg:MJ)(x:Str)(d:D):Prop where
 ex : ∃u v,mg x=cI u/\RelV v u/\∀H,Rep K H d v
theorem lH{x:Str}{d:D}(h:SX X sc N L k)(c:qR sc x=d6)(z:GL X.K X.mg x d):PV X (.Name x pos) (zm d):=by intro b s j H Q I ⟨a,i,g,rc,O,q⟩;cases O;obtain⟨u,v,e,f,U⟩:=z.ex;exact xw I (h.gl c).1 e ⟨v,H,I,f,q v H a (Ext.refl rc.sub)<|U a⟩ (h.gl c).2.2
end
section
variable{K:Bo}{mg:MJ}{h:ia}
theorem Xj{c:Str}{C:eH}(z:K.In h)(G:h.Ns p9 mg)(e:xV K c=cI C):mg c=cI (.ref C):=by
 unfold xV at e;split at e
 ·rename_i I q
  cases e;exact Gr z G q
 ·cases e
noncomputable def MM(K:Bo):Bool:=match xV K "SplitError" with
 | some S=>EU K (.ref S)==cI (.type "type") && CB K S (.type "BaseException")==cI d6 && (EF K S).isSome && CB K S (.ref S)==cI d6
 | none=>eF
noncomputable def MI(K:Bo)(c:Str):Bool:=match xV K c with
 | some C=>pA K C
 | none=>eF
theorem Ae(z:K.In h)(G:h.Ns p9 mg)(e:MM K=d6):XS K mg:=by
 unfold MM at e;split at e
 ·rename_i S q
  simp only[Bt,beq_iff_eq]at e;exact⟨S,q,Xj z G q,e.1.1.1,e.1.1.2,e.1.2,e.2⟩
 ·cases e
theorem Af{c:Str}(z:K.In h)(G:h.Ns p9 mg)(e:wA K=d6)(H:c∈o5):XI K mg c:=by
 unfold wA at e;split at e
 ·have a:=Ea.mp e c H
  split at a
  ·rename_i C q
   exact⟨H,C,q,Xj z G q⟩
  ·cases a
 ·cases e
theorem Ah{c:Str}(z:K.In h)(G:h.Ns p9 mg)(e:wA K=d6)(H:c∈o5)(b:MI K c=d6):XC K mg c:=by
 unfold MI at b;split at b
 ·rename_i C q
  exact⟨e,H,C,q,Xj z G q,b⟩
 ·cases b
theorem ur{x:Str}{n:Int}{t:Tok}(z:K.In h)(G:h.Ns p9 mg)(a:Fn K p9 x=cI (cI (.int n t))):GL K mg x (.int n):=
 ⟨_,.int n,Gr z G a,⟨t,rfl⟩,λ_=>(show V.int n = .int n from rfl)⟩
end
theorem xN(h:y8 X es n g):Dq X es g:=h.1
section
variable{K:Bo}{E0 E H0 H:Hp}{σ:St}{γ:Ctx}
theorem gE.dropLast : ∀{J:List D} {xs:List V},gE K H J xs->gE K H J.dropLast xs.dropLast
 | [],xs,r=>by rw[r.xb];exact gE.nil
 | [d],xs,r=>by obtain⟨x,a,e,_,z⟩:=r.r9;rw[e,z.xb];exact gE.nil
 | d::d2::J,xs,r=>by obtain⟨x,a,e,I,z⟩:=r.r9;obtain⟨U,Y,O,_,_⟩:=z.r9;subst e O;exact gE.cons I<|gE.dropLast z
end
section
variable{X:Cx}{sc:i7}{N L:List Str}{k:Nat}{a b e:hI}{pos p p2:ik}{f g:CO D}
theorem Kd{c:hI}{J:CO D}(Z:PV X a J){O:CO (Sk×List D)}(Y:PQ X c O)(hm:C3 .NotIn c=eF:=by with_unfolding_all rfl):o4 X (.Compare a [.NotIn] [c] pos) (sB<|Qc J O):=
 Jn (Qg Js Z Y hm) λN H Q A=>by
  obtain⟨h,g,d,rc,z,q⟩:=A;obtain⟨F,n,w⟩:=zc z;obtain⟨x,o,z⟩:=zc n;obtain⟨⟨f,m⟩,s,z⟩:=zc z;obtain⟨i,t,z⟩:=zc z;obtain⟨l,u,rfl⟩:=zr z;cases w;refine⟨h,g,x,rc,o,λU E j x1 I=>⟨j,g,f,m,rc.ext x1,s,λp M b k C e G r=>?_⟩⟩;rw[jm t]at I;have y:=yj r u;subst y;have B:kv X.K b p (l.map V.int)\/lb X.K b p (l.map V.int):=by
   cases f with
   | L=>exact .inl e
   | T=>exact .inr e
  refine⟨p,_,rfl,B,by rw[show U = .int i from I];rfl,vL l,?_⟩;rw[show U = .int i from I,Qw];exact⟨_,rfl,q b k<|x1.trans C⟩
end
end DL
namespace L2
open PySem PySem.Spec PyProof.Rows
theorem rY(z:Str):I0 z = "str_ascii_iterator"\/I0 z = "str_iterator":=by unfold I0;split<;>simp
theorem bC{X:Cx}{J:MW}{σ:St}{H:Hp}{s:hA}{E:MQ}{z it:eH}{i L:Nat}{x:eM}{v:V}{g:ia}{Z:List hI}{x1:Nat}{xr:ik}{Q:Unit->hA->Prop}
 (I:Inv X J σ H s) (hf : ∀b ∈ [z,it],KU X J H b) (hz:z<s.heap.objs.size) (hi:it<s.heap.objs.size) (a1:Ld g z it ((i:Int)+1) x s.heap.objs.size)
 (a3:q5 g s.heap.objs.size (.int i L) x) (a5 : ∀b o,b≠z->b≠it->s.heap.get? b=cI o->g.get? b=cI o) (rx:RelV v x)
 (a7 : ∀g2,B6 g2 z it ((i+1:Nat):Int) x->FK z g g2->Inv X J σ (upd H s.heap.objs.size<|.tup [.int i,v]) {s with heap:=g2,toks:=L+1}->H s.heap.objs.size=cS->
   (∀b ∈ [z,it],upd H s.heap.objs.size (.tup [.int i,v]) b=cS)->Q () {s with heap:=g2,toks:=L+1}) :
 wpAny (hH X.prog X.w) X.A (IU (.Tuple Z x1 xr) (.ref z)<|.ref s.heap.objs.size) Q E {s with heap:=g,toks:=L+1}:=by
 refine NO a1 λg2 A2 Y=>?_;have a:q5 g2 s.heap.objs.size (.int i L) x:=Y.extBut _ _ (EI hz) a3;have f : ∀O u,O ∉ [z,it]->s.heap.get? O=cI u->g2.get? O=cI u:=λO u U e=>by simp only[BC,BR,or_false,not_or]at U;exact Y.extBut _ _ U.1<|a5 O u U.1 U.2 e
 refine a7 g2 (by have:=A2;rwa [show((i:Int)+1)=((i+1:Nat):Int)by omega]at this) Y (I.LN (fp:=[z,it]) f hf (BB _) ⟨by show 2<=i6;decide,[.int i L,x],.cons ⟨_,rfl⟩<|.cons rx .nil,⟨_,a,rfl,_,rfl⟩⟩) I.fresh λO U=>?_;have d:O≠s.heap.objs.size:=by
  simp only[BC,BR,or_false]at U;rcases U with rfl | rfl
  ·exact BH hz
  ·exact BH hi
 rw[zt d];exact(hf O U).1
noncomputable def tU(z:Str):It:=
 ⟨λi _=>i<z.cps.size,λi H x a=>∃p c,x = .ref p/\H p=cS/\a=upd H p (.tup [.int i,.str ⟨#[c]⟩])/\z.cps[i]? = cI c,λi _=>i=z.cps.size⟩
theorem JO{prog:i8}{w:i5}{A:l9}(z:A.handled=cS)(it:eH)(x:Str)(t:Tok) :
 Draws prog w A it [it] x.cps.size (λi v=>∃c u,x.cps[i]? = cI c/\v = .str ⟨#[c]⟩ u) (λi h=>h.IsStrIter it (I0 x) x t i):=by
 rcases rY x with q | q
 ·rw[q];exact Draws.strAscii z it x t
 ·rw[q];exact Draws.strWide z it x t
theorem X0{P:i8}{w:i5}{K:Bo}{elts:List hI}{x1:Nat}{xr:ik}{z it:eH}(x:Str)(t:Tok)(U:z≠it) :
 Turn P w K (.Tuple elts x1 xr) (tU x) [z,it] z (λi h=>(∃O,B6 h z it i O)/\h.IsStrIter it (I0 x) x t i) where
 mem:=by simp
 obj:=λi h ⟨⟨O,hz⟩,h1⟩ y hy=>by
  simp only[BC,BR,or_false]at hy;rcases hy with rfl | rfl
  ·exact⟨_,hz,λv q=>by cases q⟩
  ·obtain⟨o,e,c,d⟩:=h1
   exact⟨o,e,λv q=>by rw[d]at q;cases q⟩
 keep:=λi h h' ⟨⟨O,hz⟩,h1⟩ k=>⟨⟨O,k z ⋯ _ hz⟩,by obtain⟨o,e,r⟩:=h1;exact⟨o,k it ⋯ o e,r⟩⟩
 item:=by
  rintro X rfl rfl rfl Y i pins s σ H E I hf ⟨⟨O,hz⟩,h1⟩ a9;have aa:it<s.heap.objs.size:=by obtain⟨o2,e2,_⟩:=h1;exact Bz e2
  have Dr:=JO (prog:=X.prog) (w:=X.w) (A:=X.A.in1) (show X.A.in1.handled=cS from I.ok.hd Y) it x t;refine wpAny_pyNext_enum_itemD Dr hz h1 a9 U (by simp;exact U) λu g tk hP a1 a2 a3 a4 a5=>⟨_,rfl,?_⟩;obtain⟨c,tu,ar,rfl⟩:=hP;refine bC (v:= .str ⟨#[c]⟩) I hf (Bz hz) aa a1 a3 a5 ⟨_,rfl⟩ λg2 b1 b2 I1 ax hn=>⟨.ref s.heap.objs.size,_,I1,rfl,⟨_,_,rfl,ax,rfl,ar⟩,⟨⟨_,b1⟩,?_⟩,hn⟩;obtain⟨o,e,r⟩:=a2;exact⟨o,b2.extBut _ _ U.symm e,r⟩
 done:=by rintro X rfl rfl rfl Y i pins s σ H E I hf ⟨⟨O,hz⟩,h1⟩ hi;have hi:i=x.cps.size:=hi;subst hi;have Dr:=JO (prog:=X.prog) (w:=X.w) (A:=X.A.in1) (show X.A.in1.handled=cS from I.ok.hd Y) it x t;refine wpAny_pyNext_enum_endD Dr hz h1 λg hk=>⟨rfl,?_⟩;refine I.LO (t':=s.toks) (fp:=[z,it]) (λb' u hb e=>?_) hf;simp only[BC,BR,or_false,not_or]at hb;exact hk b' u hb.2 e
 self:=λ_ _ _ _ _ st h=>yi st.1.choose_spec h
noncomputable def nh(I:TA):TI:=λd H R=>I d H λb a=>∃z,b=[.str z]/\R (tU z) a
section
variable{X:Cx}{e1:hI}{ta:TA}{p pos:ik}{elts:List hI}{x1:Nat}{xr:ik}
theorem aE(L:Gl X "enumerate")(Z:X.mg "enumerate" = cS)(J:PA X [e1] ta)
 (hv:Dt "enumerate" = cI (.type "enumerate")) (hs:iv [e1] X.env=[(eF,hM e1 X.env)]:=by rfl) :
 PI X (.Tuple elts x1 xr) (.Call (.Name "enumerate" p) [e1] [] pos) (nh ta):=by
 intro a s k H R I h;refine Iz<|qU I L Z hv<|Eb (ih (J pos a s k H _ I h) λl b f=>?_) (by rw[hs];rfl) rfl;obtain⟨m,d,O,j,i⟩:=f;obtain⟨z,rfl,q⟩:=i;obtain⟨n,rfl,e⟩:=kH j;obtain⟨t,rfl⟩:=e;refine call_enumerate_str λg b1 b2 b3 b4=>yi (s:={b with heap:=g}) b1 ?_;refine⟨_,[b.heap.objs.size+1,b.heap.objs.size],_,_,d,rfl,O.kept (t':=b.toks) b4,X0 z t<|EI<|Ew _,⟨⟨_,b1⟩,b2⟩,λc U=>?_,q⟩;have Y:b.heap.objs.size<=c:=by
  simp only[BC,BR,or_false]at U;rcases U with rfl | rfl
  ·exact Cz _ _
  ·exact BB _
 exact O.H9 Y<|O.ij.fresh Y
end
theorem iV{X:Cx}:IG X (λx lo J H Q=>∃z,x = .str z/\z.length<=i6/\Q (.str<|Txt.slice z lo J) H):=by
 rintro a s h H x v j m lo J i Q I rx ⟨o,O,U,b⟩ f g ⟨z,rfl,d,q⟩;obtain⟨t,rfl⟩:=rx;have Y : ∀e k,EP X a h Q (.str (Txt.slice z lo J) e) {s with toks:=k}:=λe k=>⟨.str _,H,I.tok k,⟨_,rfl⟩,q⟩;refine⟨"str",_,F.slot_str_getitem.lookup,typeIs_str _ _ _,?_⟩;cases f<;>cases g
 ·exact FC (l:=cS) (u:=cS) (st:=cS) ⟨o,O,U,b⟩ rfl<|Ha ⟨Co (HA z _ _) d,Y⟩
 ·exact FC (l:=cS) (u:=cI (_,_)) (st:=cS) ⟨o,O,U,b⟩ rfl<|Ha ⟨Co (HA z _ _) d,Y⟩
 ·exact FC (l:=cI (_,_)) (u:=cS) (st:=cS) ⟨o,O,U,b⟩ rfl<|Ha ⟨Co (HA z _ _) d,Y⟩
 ·exact FC (l:=cI (_,_)) (u:=cI (_,_)) (st:=cS) ⟨o,O,U,b⟩ rfl<|Ha ⟨Co (HA z _ _) d,Y⟩
end L2
namespace DL
open PySem PySem.Spec PyProof.Rows L2
theorem Jc(z:Str):(xl z).length=z.cps.size:=by simp[xl]
theorem W5(z:Str){i c:Nat}(h:z.cps[i]? = cI c):(xl z)[i]? = cI (.str ⟨#[c]⟩):=by simp[xl,h]
theorem XX{K:Bo}{H J:Hp}(z:Str):Walk K H J (tU z) (xy<|xl z):=by
 have b:(xy<|xl z).length=z.cps.size:=by simp[xy,Jc]
 refine⟨λi d s a=>?_,λd s=>?_,λi d x f s a y=>?_⟩
 ·rw[b]at a;exact a
 ·rw[b];exact rfl
 ·obtain⟨p,c,rfl,I,rfl,O⟩:=y
  refine⟨.tup [.int i,.str ⟨#[c]⟩],?_,λe h g=>⟨upd e p<|.tup [.int i,.str ⟨#[c]⟩],Ext.alloc g I _,?_⟩⟩
  ·rw[b]at a
   unfold xy;rw[Ce,En (by rw[Jc];exact a),BZ,W5 z O];rfl
  ·exact qJ (lb.of zu)<|gE.cons (show V.int i = .int i from rfl)<|gE.cons (show V.str ⟨#[c]⟩ = .str ⟨#[c]⟩from rfl) gE.nil
section
variable{X:Cx}{sc:i7}{N L:List Str}{k:Nat}{a b e:hI}{pos p p2:ik}{f fa fb:CO D}
theorem Ql{J:List hI}{x1:Nat}{Z:ik}(h:SX X sc N L k)(c:qR sc "enumerate" = d6)(z:X.mg "enumerate" = cS)(ha:PV X a f)(O:iv [a] X.env=[(eF,hM a X.env)]:=by rfl) :
 ov X (.Tuple J x1 Z) (.Call (.Name "enumerate" p) [a] [] pos) (yM f):=
 Jq (aE (h.gl c).1 z (z7 ha jT O) boot_enumerate O) λm H R Y=>by
  obtain⟨i,l,e,rc,I,q⟩:=Y;obtain⟨d,j,I⟩:=zc I;cases d with
  | str z=>
   by_cases U:zY z=d6
   ·have I:(if zY z=d6 then cI (xy<|xl z)else cS)=cI e:=I
    rw[MY U]at I;cases I;exact⟨i,l,_,rc,j,λv g b x r=>⟨z,by rw[show v = .str z from r],q _ g b x<|XX z⟩⟩
   ·have I:(if zY z=d6 then cI (xy<|xl z)else cS)=cI e:=I
    rw[RQ U]at I;cases I
  | _=>cases I
theorem eO(J:PV X a fa)(O:PV X b fb):PV X (.BinOp a .Add b pos) (af fa fb):=
 jB (fj Kk J O) λt H Q U=>by
  obtain⟨f,e,d,rc,z,q⟩:=U;obtain⟨x,j,z⟩:=zc z;obtain⟨y,Y,z⟩:=zc z;cases x with
  | str u=>
   cases y with
   | str w=>
    by_cases I:zY u=d6/\zY w=d6
    ·have z:(if zY u=d6/\zY w=d6 then cI (D.str<|u++w)else cS)=cI d:=z
     rw[MY I]at z;cases z;refine⟨f,e,_,rc,j,λr n h x1 k=>⟨h,e,_,rc.ext x1,Y,λs g i m l=>⟨u,w,k,l,?_,q _ g i (x1.trans m) rfl⟩⟩⟩;have o:=kZ I.1;have p:=kZ I.2;have:2000<=i6:=by decide
     omega
    ·have z:(if zY u=d6/\zY w=d6 then cI (D.str<|u++w)else cS)=cI d:=z
     rw[RQ I]at z;cases z
   | _=>cases z
  | _=>cases z
theorem Q7{lo J:Option hI}{U Y:CO (Option Int)}(Z:PV X a f)(hl:L2.PO X lo (tB X.K U))(hh:L2.PO X J (tB X.K Y)):PV X (.Subscript a (.Slice lo J cS p2) pos) (lg f U Y):=
 jB (Xh iV Z hl hh) λA H Q s=>by
  obtain⟨i,e,d,rc,I,q⟩:=s;obtain⟨g,n,I⟩:=zc I;obtain⟨l,o,I⟩:=zc I;obtain⟨u,p,I⟩:=zc I;refine⟨i,e,g,rc,n,λv w b x r=>⟨b,e,l,rc.ext x,o,λy k h=>⟨k,e,u,(rc.ext x).ext h,p,λj m x3=>?_⟩⟩⟩;have t:=x.trans<|h.trans x3;cases g with
  | str z=>
   by_cases O:zY z=d6
   ·have I:(if zY z=d6 then cI (D.str<|Txt.slice z l u)else cS)=cI d:=I
    rw[MY O]at I;cases I;exact⟨z,r,yB O,q _ j m t rfl⟩
   ·have I:(if zY z=d6 then cI (D.str<|Txt.slice z l u)else cS)=cI d:=I
    rw[RQ O]at I;cases I
  | _=>cases I
end
end DL
namespace DL
open PySem L2 PyProof.Rows
open PySem.W (KasT kas_sort kas_asc kas_desc kas_tail3 kas_descPart kas_count kas_place kas_bin kas_rev)
noncomputable def Good{z:Type}(n:Nat)(P:z->Prop):KasT z->Prop
 | .ret a=>P a
 | .ask i j k=>i<n/\j<n/\∀b,Good n P<|k b
theorem Good.mono{H:Type}{n:Nat}{P z:H->Prop}(h : ∀a,P a->z a) : ∀{t:KasT H},Good n P t->Good n z t
 | .ret a,g=>h a g
 | .ask i j k,g=>⟨g.1,g.2.1,λb=>(g.2.2 b).mono h⟩
theorem Good.bind{H J:Type}{n:Nat}{P:H->Prop}{z:J->Prop}{f:H->KasT J}(I : ∀a,P a->Good n z (f a)) : ∀{t:KasT H},Good n P t->Good n z (t.bind f)
 | .ret a,g=>I a g
 | .ask i j k,g=>⟨g.1,g.2.1,λb=>(g.2.2 b).bind I⟩
theorem Good.run : ∀{t:KasT α},Good n P t->P (lr lt t)
 | .ret a,g=>g
 | .ask i j k,g=>(g.2.2 _).run
def Pm(n:Nat)(p:Array Nat):Prop:=p.toList.Perm<|Br n
theorem Pm.lt(h:Pm n p)(z:0<n)(i:Nat):p.getD i 0<n:=by
 by_cases a:i<p.size
 ·have e:p.getD i 0=p[i]:=by simp[Array.getD,a]
  rw[e];exact BD.mp<|h.mem_iff.mp ⋯
 ·have e:p.getD i 0=0:=by simp[Array.getD,a]
  rw[e];exact z
theorem Pm.rev(h:Pm n p)(i j:Nat):Pm n (kas_rev p i j):=(Array.perm_iff_toList_perm.mp<|mirror_perm p i j _).trans h
theorem Pm.MU(h:Pm n p)(i j:Nat):Pm n (bubble p i j):=(Array.perm_iff_toList_perm.mp<|bubble_perm p i j).trans h
theorem ZH(h:Pm n p)(z:0<n) : ∀f m,Good n (λ_=>True) (kas_asc p f m)
 | 0,m=>trivial
 | f+1,m=>⟨h.lt z _,h.lt z _,λb=>by
  cases b with
  | true=>exact trivial
  | false=>exact ZH h z f<|m+1⟩
theorem yl(z:0<n) : ∀f p m q,Pm n p->Good n (λr=>Pm n r.1) (kas_desc f p m q)
 | 0,p,m,q,h=>h
 | f+1,p,m,q,h=>⟨h.lt z _,h.lt z _,λb=>by
  cases b with
  | true=>
   show Good n _ (if q>0 then _ else _);split
   ·exact yl z f _ _ _<|h.rev _ _
   ·exact yl z f _ _ _ h
  | false=>exact⟨h.lt z _,h.lt z _,λd=>by
   cases d with
   | true=>exact h
   | false=>exact yl z f _ _ _ h⟩⟩
theorem JF{n:Nat}(z:0<n)(m r:Nat){p:Array Nat}(h:Pm n p):Good n (λr=>Pm n r.2) (kas_tail3 m r p):=by unfold kas_tail3;refine Good.bind (P:=λ_=>True) (λa _=>?_)<|ZH (h.rev _ _) z _ _;exact(show Pm n (kas_rev p 0 m)from h.rev _ _)
theorem JH{n:Nat}(z:0<n)(m r:Nat){p:Array Nat}(h:Pm n p):Good n (λr=>Pm n r.2) (kas_descPart m r p):=
 (yl z _ _ _ _ h).bind λa b=>by
   show Good n _ (if a.2.2>0 then _ else _);split
   ·exact JF z _ _<|Pm.rev b _ _
   ·exact JF z _ _ b
theorem Kx{n:Nat}(z:0<n)(r:Nat){p:Array Nat}(h:Pm n p):Good n (λr=>Pm n r.2) (kas_count r p):=
 (ZH h z _ _).bind λm _=>by
   show Good n _ (if (m==r)=d6 then _ else if m>1 then _ else _);split
   ·exact h
   ·split
    ·exact⟨h.lt z _,h.lt z _,λc=>by
      cases c with
      | true=>exact h
      | false=>exact JH z _ _<|h.rev _ _⟩
    ·exact JH z _ _ h
theorem yF(z:0<n)(h:Pm n p)(k:Nat) : ∀f l r,Good n (λ_=>True) (kas_place p k f l r)
 | 0,l,r=>trivial
 | f+1,l,r=>by
  show Good n _ (if l>=r then _ else _);split
  ·exact trivial
  ·exact⟨h.lt z _,h.lt z _,λc=>by
    cases c with
    | true=>exact yF z h k f _ _
    | false=>exact yF z h k f _ _⟩
theorem Xq{n:Nat}(z:0<n) : ∀f p k,Pm n p->Good n (Pm n) (kas_bin f p k)
 | 0,p,k,h=>h
 | f+1,p,k,h=>(yF z h k k 0 k).bind λl _=>Xq z f _ _<|h.MU _ _
theorem JG{n:Nat}(H:0<n):Good n (Pm n) (kas_sort n):=
 (Kx H n<|show Pm n (Hx<|Br n)from List.Perm.refl _).bind λr z=>by
   show Good n _ (if r.1<n then _ else _);split
   ·exact Xq H _ _ _ z
   ·exact z
theorem kB(ps:List (Int×Int)):(xv ps).Perm (Br ps.length):=by
 unfold xv;split
 ·exact List.Perm.refl _
 ·exact(JG ⋯).run
theorem Jr : ∀{z:List D} {ps:List (Int×Int)},wU z=cI ps->ps.length=z.length
 | [],ps,h=>by cases h;rfl
 | d::z,ps,h=>by
  unfold wU at h;cases e1:fz d with
  | none=>rw[e1]at h;cases h
  | some x=>
   cases e2:wU z with
   | none=>rw[e1,e2]at h;cases h
   | some l=>rw[e1,e2]at h;cases h;simp[Jr e2]
theorem kN(d:α) : ∀z:List α,(Br z.length).map (λi=>z.getD i d)=z:=λz=>by
 apply Gu;intro i;by_cases a:i<z.length
 ·simp[a]
 ·simp[a,Nat.not_lt.mp a]
end DL
namespace DL
open PySem PySem.Spec PyProof.Rows L2
open PySem.W (KasT kas_sort kas_ask kat_run kat_snds kat_lt kat_cons kat_no kat_yes kat_nil kat_go kat_one kat_kind KatTups KatGo)
theorem VS(z : ∀i j C,i<n->j<n->C (lt i j) s->cmp i j C s) :
 ∀{t:KasT α},Good n P t->Q (lr lt t) s->t.kasWp cmp Q s
 | .ret _,_,q=>q
 | .ask i j k,g,q=>z i j _ g.1 g.2.1<|VS z (g.2.2 _) q
noncomputable def DO(h:ia)(v:eM)(k l:Int):Prop:=∃x o a m t u,v = .ref x/\h.get? x=cI o/\o.cls = .type "tuple"/\o.data = .seq a m/\a.toList=[.int k t,.int l u]
theorem DO.keep{h h':ia}{v:eM}{k l:Int}(a:DO h v k l)(e : ∀b o,h.get? b=cI o->o.cls = .type "tuple"->h'.get? b=cI o):DO h' v k l:=by obtain⟨x,o,g,m,t,u,d,f,z,I,O⟩:=a;exact⟨x,o,g,m,t,u,d,e x o f z,z,I,O⟩
theorem DO.one(a:DO h v k l):nR h v k:=by obtain⟨x,o,e,m,t,u,b,d,z,I,O⟩:=a;exact⟨x,o,e,m,t,b,d,z,I,by rw[<- Array.getElem?_toList,O];rfl⟩
section
variable{prog:i8}{w:i5}{A:l9}{E:MQ}{s:hA}
theorem vG{a:eH}{vs:List eM}{ps:List (Int×Int)}{n:Nat}{P:PySem.Fin->hA->Prop}(J:s.heap.get? a=cI (seqObj "list" vs.toArray n))(L:ps.length=vs.length)(ar:vs.length<64)
 (hT : ∀i (H:i<vs.length),DO s.heap vs[i] (ps.getD i (0,0)).1 (ps.getD i (0,0)).2)
 (h:P (.done<|.ret .none) {s with heap:=sortedHeap s.heap a vs (Hx<|(xv ps).map λi=>vs.getD i Cy)}) :
 wpAny (hH prog w) A (Builtin.«list.sort» ⟨[.ref a],[]⟩) P E s:=by
 rw[list_sort_plain];have ha:a<s.heap.objs.size:=Bz J;have K:vs.length<=i6:=by rw[EZ];omega
 refine Bp (listItems_at J rfl ?_);refine Bp (listUpdate_at J rfl ?_ (by rw[By];exact K) (Eo _));obtain⟨f,R⟩ : ∃f,(s.heap.update a (Eg λ_=>#[])).get? a=cI (seqObj "list" #[] f):=⟨_,get?_update_seq J (λ_=>#[])⟩;refine Bp (seqEpoch_at R rfl ?_);refine Bp (NP ?_ (by show vs.length<=_;exact K));refine Bp (wpAny_newList ?_ (Eo _));refine CQ ?_;have d:(((s.heap.update a (Eg λ_=>#[])).push (seqObj "tuple" vs.toArray 0)).push (seqObj "list" #[] 0)).get? a=cI (seqObj "list" #[] f):=by rw[Gw _ _ _ (by rw[size_push',HG];exact BH (Cg ha)),Gw _ _ _ (by rw[HG];exact BH ha)];exact R
 show wpAny (hH prog w) A _ P E {s with heap:=((s.heap.update a (Eg λ_=>#[])).push (seqObj "tuple" vs.toArray 0)).push (seqObj "list" #[] 0)};dsimp only;have S:vs.toArray.size=vs.length:=by simp
 by_cases B:vs.toArray.size<2
 ·rw[MY B,MY B]
  refine Bp<|Bv ?_;rw[StateT.run_pure];refine Bp<|Bv ?_;dsimp only;refine Bp<|seqEpoch_at d rfl ?_;have e7:Array.map (λx=>x.snd) (arrOf<|SortSt.mk' general' (vs.toArray.zip vs.toArray) #[] 7 cS)=vs.toArray:=by show Array.map (λx=>x.snd) (vs.toArray.zip vs.toArray)=_;apply Array.ext';simp[Array.toList_map,Array.toList_zip];rw[List.map_snd_zip (BB _)]
  have ev:(xv ps).map (λi=>vs.getD i Cy)=vs:=by unfold xv;rw[MY ⋯,L];exact kN _ _
  rw[ev]at h;refine Bp (listUpdate_at d rfl ?_ (Eo _) (by rw[e7,S];exact Hw K));simp only[bne_self_eq_false,CV,if_false];have e8:({s with heap:=(((s.heap.update a (Eg λx=>#[])).push (seqObj "tuple" vs.toArray 0)).push (seqObj "list" #[] 0)).update a (Eg λx=>Array.map (λx=>x.snd) (arrOf (SortSt.mk' general' (vs.toArray.zip vs.toArray) #[] 7 cS)))}:hA) = {s with heap:=sortedHeap s.heap a vs vs.toArray}:=by rw[e7];rfl
  refine Bv ?_;rw[<- e8]at h;exact h
 ·rw[RQ B,RQ B]
  have n2:2<=vs.length:=by rw[<- S];omega
  have keep : ∀b o,s.heap.get? b=cI o->o.cls = .type "tuple"->(((s.heap.update a (Eg λ_=>#[])).push (seqObj "tuple" vs.toArray 0)).push (seqObj "list" #[] 0)).get? b=cI o:=λb o e hc=>by
   have be:b≠a:=λz=>by rw[z,J]at e;cases e;exact absurd hc (by show ¬(Ej "list" = Ej "tuple");decide)
   exact Bq _<|Bq _<|(Fp _ _ _ _ be).trans e
  generalize hg:((s.heap.update a (Eg λ_=>#[])).push (seqObj "tuple" vs.toArray 0)).push (seqObj "list" #[] 0)=g at d keep ⊢;have M : ∀i (H:i<vs.length),DO g vs[i] (ps.getD i (0,0)).1 (ps.getD i (0,0)).2:=λi H=>(hT i H).keep keep;obtain⟨fs,f1,f2,f3⟩:=cU (ks:=λi=>(ps.getD i (0,0)).1) λi H=>(M i H).one;refine Bp (kat_kind (T:=Ej "int") (s:={s with heap:=g}) f1 ⋯ (λv hv=>?_) ⋯ ?_)
  ·obtain⟨k,t,rfl⟩:=f3 v hv
   exact Lc.of_pure rfl
  have ep:(lr (λi j=>ou (ps.getD i (0,0))<|ps.getD j (0,0))<|kas_sort vs.length).toList=xv ps:=by unfold xv;rw[RQ ⋯,L]
  refine Bp (BN (kat_run (E:=E) (ks:=vs) (Q:=λr l=>∃p:Array Nat,arrOf r=p.map (PySem.W.kas_item<|vs.toArray.zip vs.toArray)/\failedOf r=cS/\p.toList=xv ps/\l = {s with heap:=g})
   (G:=λp l=>p.toList=xv ps/\l = {s with heap:=g})
   rfl n2 ar (λp r l a1 a2 a3 N=>⟨p,a2,a3,N.1,N.2⟩) (VS (lt:=λi j=>ou (ps.getD i (0,0))<|ps.getD j (0,0)) (λi j C H hj I=>?_) (JG ⋯) ⟨ep,rfl⟩)) ?_ λ_ _ e=>e)
  ·show wpAny _ _ (keyLt' _ (vs.getD i Cy)<|vs.getD j Cy) C _ _
   rw[show vs.getD i Cy=vs[i]by simp[H],show vs.getD j Cy=vs[j]by simp[hj]];obtain⟨x,ox,xs,m,t,u,f,e2,e3,e4,Z⟩:=M i H;obtain⟨y,oy,ys,m',t',u',d1,d2,d3,d4,X⟩:=M j hj;rw[f,d1];refine kat_lt e2 e4 d2 d4 ?_;have c8:xs.size=2:=by rw[<- ET,Z];rfl
   have c9:ys.size=2:=by rw[<- ET,X];rfl
   rw[Z,X,c8,c9,Gg,Gg];unfold ou at I;generalize ps.getD i (0,0)=U at I ⊢;generalize ps.getD j (0,0)=Y at I ⊢;refine kat_cons<|GI U.1 t Y.1 t' _ _ _ _ ?_;refine kat_go (λO=>?_) λO=>?_
   ·have O:U.1=Y.1:=by simpa using O
    rw[MY O]at I;refine kat_yes<|kat_cons<|GI U.2 u Y.2 u' _ _ _ _<|kat_go (λF=>?_) λF=>?_
    ·have F:U.2=Y.2:=by simpa using F
     refine kat_yes<|kat_nil ?_;rw[show decide (U.2<Y.2)=eF by rw[F];simp]at I;exact I
    ·exact kat_no<|kat_one _ _<|lt_int I
   ·have O:U.1≠Y.1:=by simpa using O
    rw[RQ O]at I;exact kat_no<|oneLt_int I
  rintro⟨⟨⟩,r⟩ l ⟨p,ca,hf,hp,rfl⟩;dsimp only;have cc:=kat_snds rfl ca;have ce:((xv ps).map λi=>vs.getD i Cy).length=vs.length:=by rw[Cb,(kB ps).length_eq,Ez,L]
  rw[cc,hp];refine Bp<|seqEpoch_at d rfl ?_;refine Bp<|listUpdate_at d rfl ?_ (Eo _) (by rw[By];show((xv ps).map λi=>vs.getD i Cy).length<=_;rw[ce];exact Hw K);rw[hf];simp only[bne_self_eq_false,CV,if_false];subst hg;exact Bv h
theorem Jb{l:eH}{vs:List eM}{ps:List (Int×Int)}{Q:MQ}(U:s.heap.IsList l vs.toArray)(Y:ps.length=vs.length)(J:vs.length<64)
 (L : ∀i (H:i<vs.length),DO s.heap vs[i] (ps.getD i (0,0)).1 (ps.getD i (0,0)).2)
 (h:Q (.ref<|s.heap.objs.size+1) {s with heap:=sortedAll s.heap vs (Hx<|(xv ps).map λi=>vs.getD i Cy)}) :
 wpAny (hH prog w) A (call (.builtin "sorted") [.ref l]) Q E s:=by
 have a:vs.length<=i6:=by rw[EZ];omega
 refine Calls.call_function_entry kind_sorted plain_sorted entry_sorted (args_sorted1 _) ?_;unfold Builtin.«sorted»;refine Bp (m:=checkCount "sorted" 1 1 _) (Bv ?_);refine Bp (collect_list U ?_ a);refine Bp (wpAny_newList ?_ a);have z:((s.heap.push (seqObj "list" #[] 0)).update s.heap.objs.size (Eg (· ++ vs.toArray))).objs.size=s.heap.objs.size+1:=by rw[HG,size_push']
 have O:(((s.heap.push (seqObj "list" #[] 0)).update s.heap.objs.size (Eg (· ++ vs.toArray))).push (seqObj "list" vs.toArray 0)).get? (s.heap.objs.size+1)=cI (seqObj "list" vs.toArray 0):=by rw[<- z];exact BI _ rfl
 have keep : ∀b o,s.heap.get? b=cI o->(((s.heap.push (seqObj "list" #[] 0)).update s.heap.objs.size (Eg (· ++ vs.toArray))).push (seqObj "list" vs.toArray 0)).get? b=cI o:=λb o q=>by have I:b<s.heap.objs.size:=Bz q;rw[Gw _ _ _ (by rw[z];exact BH (Cg I)),Fp _ _ _ _ (BH I),Gw _ _ _ (BH I)];exact q
 show wpAny _ _ _ _ _ {s with heap:=((s.heap.push (seqObj "list" #[] 0)).update s.heap.objs.size (Eg (· ++ vs.toArray))).push (seqObj "list" vs.toArray 0)};rw[z];refine Bp (CQ (Em slot_list_sort ⟨_,O,rfl⟩ entry_list_sort (vG (s:={s with heap:=((s.heap.push (seqObj "list" #[] 0)).update s.heap.objs.size (Eg (· ++ vs.toArray))).push (seqObj "list" vs.toArray 0)}) O Y J (λi H=>(L i H).keep λb o e _=>keep b o e) ⟨_,rfl,?_⟩) (args_list_sort _)));exact Bv ⟨_,rfl,h⟩
end
section
variable{X:Cx}
noncomputable def ly(K:Bo):List V->Hp->VK->Prop:=λe H Q=>∃l b d,e=[.ref l]/\kv K H l b/\d.length=b.length/\b.length<64/\
 (∀i (f:i<b.length),∃a,b[i]=V.ref a/\lb K H a [.int ((d:List (Int×Int)).getD i (0,0)).1,.int (d.getD i (0,0)).2])/\∀p,H p=cS->Q (.ref p) (upd H p<|.lst<|(xv d).map λi=>b.getD i .i3)
theorem JQ:yX X (.builtin "sorted") (ly X.K):=by
 intro A s σ H vs us Q I rv h;obtain⟨l,f,ps,rfl,P,p,bb,G,B⟩:=h;obtain⟨u,rfl,ru⟩:=kH rv;cases ru;obtain⟨z,r,W,S⟩:=I.list P;have bd:=r.length;refine Jb (ps:=ps) W.isList ⋯ ⋯ (λi d=>?_) ?_
 ·obtain⟨a,E,F⟩:=G i ⋯
  obtain⟨v,O,g2⟩:=r.get (i:=i) (x:=V.ref a) (by rw[Bx ⋯,E]);have R:z[i]=v:=by rw[Bx d]at O;exact Cd O
  rw[R];cases g2;obtain⟨C,r2,⟨o,N,J,n,L⟩,_⟩:=I.tuple F;obtain⟨U,Y,rfl,k,m⟩ : ∃U Y,C=U::Y/\RelV (.int (ps.getD i (0,0)).1) U/\i0 [.int (ps.getD i (0,0)).2] Y:=by
   cases r2 with
   | cons k m=>exact⟨_,_,rfl,k,m⟩
  obtain⟨v2,rfl,Z⟩:=kH m;obtain⟨t,rfl⟩:=k;obtain⟨u,rfl⟩:=Z;exact⟨a,o,_,n,t,u,rfl,N,J,L,rfl⟩
 ·obtain⟨e,y⟩:=sortedAll_at s.heap z (Hx<|(xv ps).map λi=>z.getD i Cy)
  have w:((xv ps).map λi=>f.getD i V.i3).length=f.length:=by rw[Cb,(kB ps).length_eq,Ez,p]
  refine⟨.ref<|s.heap.objs.size+1,_,I.laid (t':=s.toks) (o:= .lst ((xv ps).map λi=>f.getD i .i3)) (λb o q=>sortedAll_old q) (Nat.le_succ _) ?_,rfl,B _<|I.ij.fresh<|Nat.le_succ _⟩;refine⟨by rw[w];exact S,(xv ps).map λi=>z.getD i Cy,e,?_,y⟩;have g : ∀i∈xv ps,i<f.length:=λi d=>by have:=(kB ps).mem_iff.mp d;rw[p]at this;exact BD.mp this
  generalize xv ps=o at g;clear w y
  induction o with
  | nil=>exact .nil
  | cons i o T=>
   have d:=g i BQ;refine .cons ?_ (T λj M=>g j<|BL _ M);obtain⟨v,O,g2⟩:=r.get (i:=i) (x:=f[i])<|Bx d;show RelV (f.getD i V.i3) (z.getD i Cy);rw[BX,BX,Bx d,O];exact g2
theorem Xi : ∀{H:List D} {ps:List (Int×Int)},wU H=cI ps->∀(i:Nat) d,H[i]? = cI d->d = .tup [.int (ps.getD i (0,0)).1,.int (ps.getD i (0,0)).2]
 | [],ps,h,i,d,hd=>by simp at hd
 | c::H,ps,h,i,d,hd=>by
  obtain⟨k,a,h⟩:=zc h;obtain⟨l,z,h⟩:=zr h;subst h;cases i with
  | zero=>
   simp at hd;subst hd;unfold fz at a;split at a
   ·cases a;rfl
   ·cases a
  | succ i=>simpa using Xi z i d (by simpa using hd)
theorem Jj{K:Bo}{H:Hp}{J:List D}{xs:List V}(r:gE K H J xs) : ∀(o:List Nat),(∀i∈o,i<xs.length)->gE K H (o.map λi=>J.getD i .i3) (o.map λi=>xs.getD i .i3)
 | [],_=>gE.nil
 | i::o,h=>by have a:=h i BQ;obtain⟨d,b,z⟩:=r.F9<|Bx a;refine gE.cons ?_ (Jj r o λj I=>h j<|BL _ I);show Rep K H (J.getD i .i3) (xs.getD i .i3);rw[BX,BX,Bx a,b];exact z
theorem aC{Z:i7}{N L:List Str}{k:Nat}{e:hI}{pos p:ik}{J:CO (Sk×List D)}(h:SX X Z N L k)(c:qR Z "sorted" = d6)(z:X.mg "sorted" = cS)(hq:PQ X e J)(U:iv [e] X.env=[(eF,hM e X.env)]:=by rfl) :
 PO X (.Call (.Name "sorted" p) [e] [] pos) (YD J):=
 jB (xp JQ (h.gl c).1 z ⋯ (z7 hq jT U) ⋯ ⋯ U rfl) λσ H Q P=>by
  obtain⟨t,γ,u,rc,I,q⟩:=P;obtain⟨⟨S,g⟩,w,I⟩:=zc I;cases S with
  | T=>cases I
  | L=>
   have I:dJ g=cI u:=I;unfold dJ at I;obtain⟨s,Y,I⟩:=zc I;by_cases o:g.length<64
   ·rw[MY o]at I
    cases I;have an:=Jr Y;refine⟨t,γ,.L,g,rc,w,λa xs H' f ext C h2 r=>?_⟩;have ap:=r.length;refine⟨a,xs,s,rfl,C,by omega,by omega,λi j=>?_,λl O=>?_⟩
    ·obtain⟨d,R,W⟩:=r.F9 (Bx j)
     have B:=Xi Y i d R;subst B;obtain⟨b,zs,A,n,E⟩:=kS W;refine⟨b,A,?_⟩;obtain⟨y,yr,x,F,G⟩:=E.r9;obtain⟨y2,ax,m,K,M⟩:=G.r9;rw[M.xb]at m;rw[x,m,jk F,jk K]at n;exact qs ext.sub n
    ·refine q l _ _ f (ext.trans<|Ext.hide ext.sub O _) (vA ext.s1 O) (jC ext.sub O) zu ?_
     refine Jj r _ λi j=>?_;have:=(kB s).mem_iff.mp j;have:=BD.mp this;omega
   ·rw[RQ o]at I;cases I
end
section
variable{X:Cx}{a b c:hI}{pos:ik}{fa fb fc:CO D}
theorem yb{U Y:CmpOp}{r J:R2}{F G:D->D->Option D}(ho:mu X (ro U) r)(L:mu X (ro Y) J)(s1:rb X.K r F)(s2:rb X.K J G)(ha:PV X a fa)(hb:PV X b fb)(hc:PV X c fc)
 (hm:Lv [U,Y] [b,c]=eF:=by with_unfolding_all rfl):o4 X (.Compare a [U,Y] [b,c] pos) (sB<|qh F G fa fb fc):=
 Jn (au ho L ha hb hc hm) λσ H Q hZ=>by
  obtain⟨i,h,kq,rc,A,q0⟩:=hZ;obtain⟨d,I,Z⟩:=zc A;have q : ∀v f e,Ext i H e f->Rep X.K e d v->∃k,v = .bl k/\Q k f:=λv f e x o=>by rw[vd Z]at o;exact⟨kq,o,q0 f e x⟩
  obtain⟨x,N,I⟩:=zc I;obtain⟨y,P,I⟩:=zc I;obtain⟨k,R,I⟩:=zc I;obtain⟨l,S,m⟩:=zc R;refine⟨i,h,x,rc,N,λv1 H1 B x1 r1=>⟨B,h,y,rc.ext x1,P,λp s C O n=>s1 C s v1 p x y l _ O.sub (r1.mono O.s0) n S λv3 t j x3 r3=>?_⟩⟩;cases l with
  | bl k'=>
   cases m;refine⟨k,show v3 = .bl k from r3,?_⟩;cases k with
   | true=>
    rw[MY rfl];rw[MY rfl]at I;obtain⟨z,T,W⟩:=zc I;exact⟨j,h,z,((rc.ext x1).ext O).ext x3,T,λv4 u E g r4=>s2 E u p v4 y z d _ g.sub ((n.mono x3.s0).mono g.s0) r4 W λv5 w M x5 r5=>q v5 w M (((x1.trans O).trans x3).trans (g.trans x5)) r5⟩
   | false=>
    rw[RQ ⋯];rw[RQ ⋯]at I;cases I;exact q _ t j ((x1.trans O).trans x3) rfl
  | _=>cases m
end
end DL
namespace DL
open PySem PySem.Spec PyProof.Rows L2
theorem J7{H:Hp}{x:eH}{o z:HO}:upd (upd H x o) x z=upd H x z:=by
 funext b;by_cases h:b=x
 ·subst h;rw[zu,zu]
 ·rw[zt h,zt h,zt h]
noncomputable def gH:l0->List l0
 | .ClassDef _ _ _ b _ _ _ _ _ _ _=>b
 | _=>[]
def se(st:l0)(j:Nat):l0:=(gH st).getD j (.Pass ⟨0,0,0,0⟩)
section
variable{X:Cx}{pins:MW}{σ:St}{H:Hp}{s:hA}{p:eH}{m8:List (Key×V)}
theorem Inv.Nf(I:Inv X pins σ H s)(O:H p=cI (.dK m8)) : ∃o,Inv X pins σ (upd H p<|.ri o<|.dK m8) s:=by
 have a:=(show l8 X.prog X.w H s.heap p (.dK m8)from I.ij p _ O);obtain⟨o,U⟩ : ∃o,s.heap.get? p=cI o:=by obtain⟨_,_,_,_,o,_,_,e,_⟩:=a;exact⟨_,e⟩
 exact⟨o,I.write (x:=p) (e:=p) (o:= .ri o (.dK m8)) (t':=s.toks) (h':=s.heap) (by rw[O];exact Ey) (.inl rfl) (λb q Y z=>z) ⟨_,U⟩ ⟨U,a⟩⟩
end
theorem ZI{K:Bo}{H:Hp}{i:Int} : ∀{ks vs:List D} {J:List Key} {xs:List V},Vz ks=cI J->J.length=xs.length->gE K H vs xs->
 (∀d,JI ks vs i=cI d->∃v,QS (J.zip xs) (Ed i)=cI v/\Rep K H d v)/\(JI ks vs i=cS->QS (J.zip xs) (Ed i)=cS)
 | [],vs,J,xs,e,l,r=>by cases e;exact⟨(λd q=>by cases q),λ_=>rfl⟩
 | k::ks,[],J,xs,e,l,r=>by rw[r.xb]at l ⊢;rw[List.length_eq_zero_iff.mp l];exact⟨(λd q=>by cases q),λ_=>rfl⟩
 | k::ks,v::vs,J,xs,e,l,r=>by
  obtain⟨f,a,Y⟩:=zc e;obtain⟨I,g,h⟩:=zr Y;subst h;obtain⟨x,O,rfl,n,o⟩:=r.r9;have U:=ZI (i:=i) g (by simpa using l) o;have step:f≠Ed i->QS ((f::I).zip (x::O)) (Ed i)=QS (I.zip O) (Ed i):=λb=>by rw[Gg];simp[QS,Fe,b]
  cases k with
  | int j=>
   cases a;by_cases z:j=i
   ·subst z
    refine⟨λd q=>⟨x,?_,?_⟩,λq=>?_⟩
    ·rw[Gg];exact Zn rfl
    ·have:v=d:=by simpa[JI]using q
     exact this ▸ n
    ·simp[JI]at q
   ·have b:(Ed j:Key)≠Ed i:=λq=>z (Ed.inj q)
    rw[step b];have m:JI (.int j::ks) (v::vs) i=JI ks vs i:=by simp[JI,z]
    rw[m];exact U
  | str y=>
   cases a;rw[step (λq=>by cases q)];exact U
  | _=>cases a
section
variable{X:Cx}{a:hI}{pos:ik}
theorem eR{c:hI}{J:CO D}(Z:PV X a J){O:CO (Sk×List D)}(Y:PQ X c O)(hm:C3 .In c=eF:=by with_unfolding_all rfl):o4 X (.Compare a [.In] [c] pos) (sB<|uc J O):=
 Jn (Qg Y8 Z Y hm) λN H Q A=>by
  obtain⟨h,g,d,rc,z,q⟩:=A;obtain⟨F,n,w⟩:=zc z;obtain⟨x,o,z⟩:=zc n;obtain⟨⟨f,m⟩,s,z⟩:=zc z;obtain⟨i,t,z⟩:=zc z;obtain⟨l,u,rfl⟩:=zr z;cases w;refine⟨h,g,x,rc,o,λU E j x1 I=>⟨j,g,f,m,rc.ext x1,s,λp M b k C e G r=>?_⟩⟩;rw[jm t]at I;have y:=yj r u;subst y;have B:kv X.K b p (l.map V.int)\/lb X.K b p (l.map V.int):=by
   cases f with
   | L=>exact .inl e
   | T=>exact .inr e
  refine⟨p,_,rfl,B,by rw[show U = .int i from I];rfl,vL l,?_⟩;rw[show U = .int i from I,Qw];exact⟨_,rfl,q b k<|x1.trans C⟩
end
def C5(C e:eH):ia->Prop:=λh=>∃a,h.get? e=cI (ZN C cS a)
noncomputable def A3(C e d:eH):ia->Prop:=λh=>∃a,h.get? e=cI (ZN C (cI d) a)
theorem cH{P:i8}{w:i5}{H:Hp}{h:ia}{C e a0:eH}(q:h.get? e=cI (ZN C cS a0)):l8 P w H h e (.ext<|C5 C e):=
 ⟨⟨a0,q⟩,⟨_,q⟩,λb d z k=>by obtain⟨a,z⟩:=z;exact⟨a,k _ z⟩⟩
theorem lU{P:i8}{w:i5}{H:Hp}{h:ia}{C e d a0:eH}(q:h.get? e=cI (ZN C (cI d) a0)):l8 P w H h e (.ext<|A3 C e d):=
 ⟨⟨a0,q⟩,⟨_,q⟩,λb f z k=>by obtain⟨a,z⟩:=z;exact⟨a,k _ z⟩⟩
section
variable{X:Cx}{pins:MW}{σ:St}{H:Hp}{s:hA}{h':ia}
theorem rV{a:eH}{o:HO}{t':Nat}(I:Inv X pins σ H s)(k : ∀b u,s.heap.get? b=cI u->h'.get? b=cI u)(J:s.heap.get? a=cS)(new:l8 X.prog X.w (upd H a o) h' a o):H a=cS/\Inv X pins σ (upd H a o) {s with heap:=h',toks:=t'}:=by
 have d:H a=cS:=by
  cases q:H a with
  | none=>rfl
  | some u=>obtain⟨U,e⟩:=xJ<|I.ij a u q;rw[J]at e;cases e
 have f : ∀b u,s.heap.get? b=cI u->b≠a:=λb u e z=>by rw[z,J]at e;cases e
 refine⟨d,I.un ⟨λb u e n _ _=>k b u e,λb u e n _ _=>⟨u.slots,k b u e⟩,λb u e n _=>by rw[zt (f b u e)];exact n,λb u e _=>⟨u,k b u e⟩,λb g e=>?_,λb U u e=>?_,λb h e=>⟨#[],?_⟩⟩ λb u e=>?_⟩
 ·rw[zt (zI e d)];exact e
 ·rw[zt (zI e d)];exact e
 ·rw[zt (zI e d),e];simp
 ·by_cases O:b=a
  ·subst O;rw[zu]at e;cases e;exact new
  ·rw[zt O]at e
   exact(I.ij b u e).A7 (λc v _ q=>k c v q) (λc q=>by rw[zt (zI q d)];exact q) λc g q=>by rw[zt (zI q d)];exact q
end
noncomputable def gZ(K:Bo)(C:eH):Option eH:=match K.lookup C with
 | some o=>if (o.cls==Ej "type" && o.slots.size==6 && (o.slots.toList.drop 4).take 1 == [cI (Value.builtin "ValueError.__new__")])=d6 then (match iy o with
  | some a=>if (a.mro.take 1 == [BU C] && !a.hasDel && FZ K t7 (a.mro.drop 1) && Ga K a.ns)=d6 then cI a.ns else cS
  | none=>cS)else cS
 | none=>cS
theorem dq{K:Bo}{C N:eH}(e:gZ K C=cI N) : ∃nm q bs bm hdct sn sub ab col dd k0 k1 k2 k3 k5,K.lookup C=cI (excClassObj nm q C N bs bm hdct sn sub ab col dd k0 k1 k2 k3 k5 "ValueError.__new__")/\FZ K t7 bm=d6/\Ga K N=d6:=by
 unfold gZ at e;cases ho:K.lookup C with
 | none=>rw[ho]at e;cases e
 | some o=>
  rw[ho]at e;obtain⟨oc,dd,I,d⟩:=o;dsimp only at e;by_cases z:(oc==Ej "type" && d.size==6 && (d.toList.drop 4).take 1 == [cI (Value.builtin "ValueError.__new__")])=d6
  ·rw[MY z]at e
   simp only[Bt,beq_iff_eq]at z;obtain⟨⟨n,p⟩,r⟩:=z;subst n;obtain⟨k0,k1,k2,k3,k5,U⟩:=bY (by simpa using p) r;cases hd:iy ⟨.type "type",dd,I,d⟩with
   | none=>rw[hd]at e;cases e
   | some a=>
    rw[hd]at e;dsimp only at e;have i:I = .cls a:=by
     unfold iy at hd;cases I with
     | cls s=>cases hd;rfl
     | _=>cases hd
    subst i;by_cases f:(a.mro.take 1 == [BU C] && !a.hasDel && FZ K t7 (a.mro.drop 1) && Ga K a.ns)=d6
    ·rw[MY f]at e
     cases e;simp only[Bt,beq_iff_eq,EB]at f;obtain⟨⟨⟨Y,g⟩,O⟩,b⟩:=f;obtain⟨nm,bs,mro,u,m,j,sn,sub,ab,col,t⟩:=a;dsimp only at Y g O b;subst g;have k:d = #[k0,k1,k2,k3,cI (.builtin "ValueError.__new__"),k5]:=by obtain⟨l⟩:=d;simp only at U;rw[U]
     subst k;have h:=cK Y;generalize mro.drop 1=bm at h O;subst h;exact⟨nm,m,bs,bm,j,sn,sub,ab,col,dd,k0,k1,k2,k3,k5,rfl,O,b⟩
    ·rw[RQ f]at e;cases e
  ·rw[RQ z]at e;cases e
section
variable{X:Cx}{pins:MW}{σ:St}{H:Hp}{s:hA}{h':ia}
theorem Aj{x d C a0:eH}{att:Str}{i:Int}{u:eM}{t':Nat}(I:Inv X pins σ H s)(U:H x=cI (.ext<|C5 C x))(L:s.heap.get? d=cS)(J:h'.get? x=cI (ZN C (cI d) a0))(Z:h'.Ns1 d (λy=>if y=att then cI u else cS))(ru:RelV (.int i) u)
 (k : ∀b o,b≠x->s.heap.get? b=cI o->h'.get? b=cI o):H d=cS/\d≠x/\Inv X pins σ (upd (upd H x<|.ext<|A3 C x d) d<|.xd [(att,.int i)]) {s with heap:=h',toks:=t'}:=by
 have g:H d=cS:=by
  cases q:H d with
  | none=>rfl
  | some o=>obtain⟨p,e⟩:=xJ<|I.ij d o q;rw[L]at e;cases e
 have j:d≠x:=λq=>by rw[q,U]at g;cases g
 have m : ∀b o,s.heap.get? b=cI o->b≠d:=λb o e z=>by rw[z,L]at e;cases e
 have h : ∀b,H b=cS->b≠x:=λb e z=>by rw[z,U]at e;cases e
 have off : ∀b,b≠x->b≠d->upd (upd H x<|.ext<|A3 C x d) d (.xd [(att,.int i)]) b=H b:=λb t w=>by rw[zt w,zt t]
 have mt : ∀b o,H b=cI o->(∀a,o ≠ .ext a)->upd (upd H x<|.ext<|A3 C x d) d (.xd [(att,.int i)]) b=cI o:=λb o e z=>by rw[off b (λq=>by rw[q,U]at e;cases e;exact z _ rfl) (λq=>by rw[q,g]at e;cases e),e]
 refine⟨g,j,I.un ⟨λb o e n _ _=>k b o (h b n) e,λb o e n _ _=>⟨o.slots,k b o (h b n) e⟩,λb o e n _=>?_,λb o e _=>?_,λb r e=>mt b _ e<|λa z=>(nomatch z),λb p B e=>mt b _ e<|λa z=>(nomatch z),λb A e=>⟨#[],?_⟩⟩ λb o e=>?_⟩
 ·rw[off b (h b n) (m b o e)];exact n
 ·by_cases O:b=x
  ·exact⟨_,(congrArg h'.get? O).trans J⟩
  ·exact⟨o,k b o O e⟩
 ·rw[mt b _ e (λa z=>nomatch z)];simp
 ·by_cases O:b=d
  ·rw[O]at e ⊢
   rw[zu]at e;cases e;refine⟨_,Z,λf=>?_⟩;by_cases q:f=att
   ·subst q
    rw[MY rfl];simp[GX];exact ru
   ·rw[RQ q]
    have:([(att,V.int i)]:List (Str×V)).lookup f=cS:=by simp[GX,beq_eq_false_iff_ne.mpr q]
    rw[this];trivial
  ·rw[zt O]at e
   by_cases Y:b=x
   ·rw[Y]at e ⊢
    rw[zu]at e;cases e;exact lU J
   ·rw[zt Y]at e
    refine(I.ij b o e).A7 (λc v l q=>k c v ?_ q) (λc q=>mt c _ q<|λa z=>nomatch z) λc r q=>mt c _ q<|λa z=>nomatch z;rcases l with z | z
    ·rw[z];exact Y
    ·rintro rfl
     rw[U]at z;cases z
end
structure XA(K:Bo)(mg:MJ)(C:eH)(att:Str):Prop where
 ex : ∃S N cd,mg "SplitError" = cI (.ref S)/\gZ K C=cI N/\EF K C=cI cd/\cd.mro = .ref C :: .ref S::t7/\cd.hasDict=d6/\
  Cv K (.ref C) "__setattr__" = cI (cI (.builtin "object.__setattr__"))/\CB K C (.type "object")=cI d6/\Cv K (.ref C) att=cI cS/\
  Fy K (.ref S) "__getattribute__" = cI (cI (.builtin "type.__getattribute__"))/\PySem.W.readsIn K S (.type "type")=d6/\
  GD K (.ref S) (.type "type") "__init__" = cI (.val (.builtin "ValueError.__init__"))
noncomputable def Yw(C:eH):TS:=λD a H=>∃e i,a[0]? = cI (cI (V.ref e))/\a[1]? = cI (cI (V.int i))/\inR i=d6/\H e=cI (.ext<|C5 C e)/\D.nx a H
noncomputable def dD(C:eH)(att:Str):TS:=λD a H=>∃e i,a[0]? = cI (cI (V.ref e))/\a[1]? = cI (cI (V.int i))/\H e=cI (.ext<|C5 C e)/\
 ∀d,H d=cS->d≠e->D.nx a (upd (upd H e<|.ext<|A3 C e d) d<|.xd [(att,.int i)])
section
variable{X:Cx}{sc:i7}{N L:List Str}{k:Nat}{C:eH}{att x0 x1:Str}{p0 p1 p2 p3 p4 p5 p6 p7 p8 pos pos':ik}
theorem eW(h:SX X sc N L k)(A:XA X.K X.mg C att)(J:yz sc N 0 x0=d6)(Z:yz sc N 1 x1=d6)(hs:vt (.Name x1 p1) (cI (.Attribute (.Name x0 p0) att pos')) pos.line X.env=pure eF:=by rfl) :
 PS X (.Assign [.Attribute (.Name x0 p0) att pos'] (.Name x1 p1) pos) (dD C att):=by
 intro a s f H D I F;obtain⟨e,i,Q,R,O,q⟩:=F;obtain⟨S,Nn,cd,a1,a2,n,o,p,r,t,x,_⟩:=A.ex;refine plainObj_wpAny_Assign_Attribute (ih (h.var Z a s f H (λv b=>v = .int i/\b=H) I ⟨_,R,rfl,rfl⟩) λu y j=>ih (h.var J a y f H (λv b=>v = .ref e/\b=H) (by obtain⟨v,b,U,Y,rfl,rfl⟩:=j;exact U) ⟨_,Q,rfl,rfl⟩) λM T z2=>?_) hs;obtain⟨v1,b,U,Y,rfl,rfl⟩:=j;obtain⟨v2,l,z,P,rfl,rfl⟩:=z2;cases (show M=BU e from P);obtain⟨G,g,dr,tk,os⟩:=T;obtain⟨⟨a0,B⟩,_,_⟩:=(show l8 X.prog X.w l G e (.ext<|C5 C e)from z.ij e _ O);refine Ad (S:=S) z.l7 B r t n o p x λh' d E W y2 y3 y4=>?_;obtain⟨b1,b2,m⟩:=Aj (t':=E) (att:=att) (i:=i) z O W (a0:=a0) y2 y3 Y y4;exact⟨f,_,m,q d b1 b2⟩
theorem ay{O U:Str}{J Y:Nat}(h:SX X sc N L k)(A:XA X.K X.mg C att)(Z:qR sc "SplitError" = d6)(c0:yz sc N 0 x0=d6)(c1:yz sc N 1 x1=d6)(l1:O.length<=1000)(l2:U.length<=1000)
 (hs:vt (.Call (.Attribute (.Name "SplitError" p0) "__init__" p1) [.Name x0 p2,.JoinedStr [.Constant (.str O) J p3,.FormattedValue (.Name x1 p4) (-1) cS p5,.Constant (.str U) Y p6] p7] [] p8) cS pos.line X.env=pure eF:=by rfl)
 (bd:(p1.endLine==p8.line)=d6:=by rfl) :
 PS X (.Expr (.Call (.Attribute (.Name "SplitError" p0) "__init__" p1) [.Name x0 p2,.JoinedStr [.Constant (.str O) J p3,.FormattedValue (.Name x1 p4) (-1) cS p5,.Constant (.str U) Y p6] p7] [] p8) pos) (Yw C):=by
 intro a s n H D I hZ;obtain⟨e,i,s0,s1,E,m,q⟩:=hZ;obtain⟨S,Nn,cd,P,Q,a3,a4,a5,a6,a7,a8,R,T,bv⟩:=A.ex;refine Hq ?_ I.quiet hs;rw[arm_eval_Call];refine Bp (xw I (h.gl Z).1 P ?_ (h.gl Z).2.2);refine Bp (Gd ?_);have c2:methodCallPos d6 (.Name "SplitError" p0) X.env p1 p8=pure p8:=by unfold methodCallPos;simp[bd]
 unfold methodCall;refine Bp<|CQ<|PySem.W.method_cls I.l7 R<|PySem.W.cls_value I.l7 T bv ⋯ ?_;refine Bp<|GK c2 ?_;refine Calls.callWith_builtin rfl<|GP ?_;show wpAny _ _ (A6 ((eF,hM (.Name x0 p2) X.env)::o8 p8 [(eF,hM (.JoinedStr [.Constant (.str O) J p3,.FormattedValue (.Name x1 p4) (-1) cS p5,.Constant (.str U) Y p6] p7) X.env)])) _ _ _;refine Ci<|ih (h.var c0 a _ n H (λv f=>v = .ref e/\f=H) (I.tok _) ⟨_,s0,rfl,rfl⟩) λu0 s2 z2=>?_;obtain⟨v2,p,M,r2,rfl,rfl⟩:=z2;cases (show u0=BU e from r2);show wpAny _ _ (A6 ((eF,hM (.JoinedStr [.Constant (.str O) J p3,.FormattedValue (.Name x1 p4) (-1) cS p5,.Constant (.str U) Y p6] p7) X.env)::[])) _ _ s2;have d0:=EZ;have y:i.natAbs.log2<1920:=by
  have h1:i.natAbs<2 ^ 62:=by unfold inR at E;exact of_decide_eq_true E
  by_cases z:i.natAbs=0
  ·rw[z];decide
  ·have:=(Nat.log2_lt z).mpr h1
   omega
 refine Ci<|JoinedStr_many<|joinParts_cons<|Hf ?_;dsimp only;refine⟨by rw[FE];show 0+_<=_;omega,?_⟩;refine joinParts_cons<|FormattedValue_plain<|ih (h.var c1 a _ n p (λv f=>v = .int i/\f=p) (M.tok _) ⟨_,s1,rfl,rfl⟩) λu1 s3 z3=>?_;obtain⟨v3,d,j,r3,rfl,rfl⟩:=z3;obtain⟨F,rfl⟩:=(show ∃F,u1=FR i F from r3);refine formatField_int_small y ?_;dsimp only;have d2:(Eh<|toString i).length<=1921:=by have e:=int_text_length_le (k:=1920) ⋯ y;rw[PySem.ofString_length];exact e
 have l:(Str.empty++O).length=O.length:=by rw[FE];show 0+_=_;omega
 refine⟨by rw[FE,l,EZ];omega,?_⟩;show wpAny _ _ (joinParts _ [hM (.Constant (.str U) Y p6) X.env]) _ _ _;refine joinParts_cons<|Hf ?_;dsimp only;refine⟨by rw[FE,FE,l,EZ];omega,?_⟩;refine joinParts_nil ?_ (by rw[FE,FE,l,EZ];omega);refine EL ?_;obtain⟨nm,qn,bs,bm,B,sn,sub,ab,col,dd,k0,k1,k2,k3,k5,ho,ht,ij⟩:=dq Q;obtain⟨hp,g,dr,ce,os⟩:=s3;have t:=j.l7;obtain⟨⟨a0,cf⟩,_,_⟩:=(show l8 X.prog X.w d hp e (.ext<|C5 C e)from j.ij e _ m);refine pw (FT t ht) (t _ _ ho) cf λh' d4 G y2=>?_;have r:=j.write (x:=e) (e:=e) (o:= .ext (C5 C e)) (t':=ce+1+1+1+1) (by rw[m];exact Ey) (.inl rfl) (λb u hb q=>y2 b u hb q) ⟨_,G⟩<|cH G;have e4:upd d e (.ext<|C5 C e)=d:=by
  funext b;by_cases z:b=e
  ·rw[z,zu,m]
  ·rw[zt z]
 rw[e4]at r;exact⟨n,d,r.tok _,q⟩
end
noncomputable def Qa(C:eH)(att:Str):Sp:=λa H Q _=>∃e i,a=[.ref e,.int i]/\inR i=d6/\H e=cI (.ext<|C5 C e)/\∀d,H d=cS->d≠e->Q .i3 (upd (upd H e<|.ext<|A3 C e d) d<|.xd [(att,.int i)])
theorem bx{P:i8}{w:i5}{K:Bo}{L:MJ}{base:ia}{q x1:Str}{st:l0}{f C:eH}{J:ts}{att:Str}{k:Nat}(I:L2.B5 K "__init__" q st f J)(Z:ZO ["self",x1] ["self",x1] st=d6)
 (O : ∀X:Cx,X.prog=P->X.w=w->X.K=K->X.mg=L->X.base=base->SX X (zB st) ["self",x1] ["self",x1] k->tx X (jN st) (pH (Yw C) (dD C att))) :
 t4 P w K L base t2 (k+1) f J ["self",x1] (Qa C att):=by
 have S:=kA Z;refine I.ok S (λg H Q E h=>by obtain⟨e,i,rfl,_⟩:=h;rfl) λb A a s H g Q E U Y=>⟨_,O _ rfl rfl rfl rfl rfl ⟨rfl,rfl,S.nd,rfl,U,λ_ _=> .inl rfl⟩,?_⟩;obtain⟨e,i,rfl,d,z,q⟩:=Y;exact⟨e,i,rfl,rfl,d,z,e,i,rfl,rfl,z,q⟩
structure XJ(P:i8)(w:i5)(K:Bo)(mg:MJ)(base:ia)(k:Nat)(c:Str):Prop where
 all:wA K=d6
 mem:c∈o5
 ex : ∃C N fI fd ps,xV K c=cI C/\mg c=cI (.ref C)/\gZ K C=cI N/\Cv K (.ref C) "__init__" = cI (cI (.ref fI))/\Ek K (.ref C)=d6/\EU K (.ref fI)=cI (.type "function")/\
  t4 P w K mg base t2 k fI fd ps (Qa C<|ZW c)/\Binds K fd ps []
noncomputable def tW(K:Bo)(att:Str):Bool:=o5.all λc=> !(ZW c==att) || match xV K c with
 | some C=>(EF K C).any (λa=>a.hasDict) && Cv K (.ref C) att==cI cS
 | none=>eF
section
variable{X:Cx}{a:hI}{f:CO D}{att:Str}{pos:ik}
theorem eQ(x:tW X.K att=d6)(ha:PV X a f)(hb:HX a att X.env (hM a X.env)=hM a X.env:=by rfl):PV X (.Attribute a att pos) (ll att f):=by
 intro j s σ H Q I hZ;obtain⟨F,γ,d,rc,O,q⟩:=hZ;obtain⟨d1,e1,O⟩:=zc O;cases d1 with
 | exc c n=>
  cases n with
  | none=>cases O
  | some i=>
   have O:(if (ZW c==att)=d6 then cI (D.int i)else cS)=cI d:=O;by_cases m:(ZW c==att)=d6
   ·rw[MY m]at O
    cases O;refine gO hb (ih (ha j s σ H (λv E=>∃e,Ext F H e E/\Rep X.K e (.exc c (cI i)) v) I ⟨F,γ,_,rc,e1,λv E e U r=>⟨e,U,r⟩⟩) λu B z=>?_);obtain⟨v,k,l,r1,G,U,rr⟩:=z;obtain⟨b,rfl,y⟩:=(show ∃b,v = .ref b/\vv X.K G c (cI i) b from rr);cases (show u=BU b from r1);obtain⟨C,φ,g1,g2,g3,N,g4,g5⟩:=y.ex;obtain⟨S,_,y1,_,_⟩:=kR y.all y.mem g1;have A:=Ea.mp x c y.mem;rw[m,g1]at A;simp only[Fx,Bool.false_or,Bt,beq_iff_eq]at A;obtain⟨w1,w2⟩:=A;obtain⟨cd,w3,w4⟩:=PySem.W.any_some w1;obtain⟨p,_,_⟩:=(show l8 X.prog X.w k B.heap b (.ext φ)from l.ij b _ (U.sub _ _ g2));obtain⟨o,R,P⟩:=g4 _ p;obtain⟨o',vs,J,L,M⟩:=g3 _ p;rw[R]at J;cases J;obtain⟨T,Z,bg⟩:=(show l8 X.prog X.w k B.heap N (.xd _)from l.ij N _ (U.sub _ _ g5));have ea:ZW c=att:=beq_iff_eq.mp m;have Y:=bg att;have lk:([(if c==("NoRoom" : Str)then ("room" : Str)else "at",V.int i)]:List (Str×V)).lookup att=cI (.int i):=by rw[<- ea];unfold ZW;simp[GX]
    rw[lk]at Y;obtain⟨h,hm⟩ : ∃h,T att=cI (.int i h):=by
     cases hz:T att with
     | none=>rw[hz]at Y;exact CM Y
     | some uu=>rw[hz]at Y;obtain⟨h,rfl⟩:=(show ∃h,uu=FR i h from Y);exact⟨h,rfl⟩
    obtain⟨oc,od,bn,G5⟩:=o;dsimp only at P L M;subst P L M;obtain⟨hp,g,dr,t,os⟩:=B;exact Ai l.l7 (J6 y1) R Z hm w3 w4 w2 λt'=>⟨.int i,k,l.tok t',⟨h,rfl⟩,q _ k G U rfl⟩
   ·rw[RQ m]at O;cases O
 | _=>cases O
end
noncomputable def VO(K:Bo)(S:eH):Bool:=match GD K (.ref S) (.type "type") "__init__" with
 | some (.val (.builtin b))=>b == "ValueError.__init__"
 | _=>eF
noncomputable def MH(K:Bo)(C S:eH)(att:Str):Bool:=(gZ K C).isSome && Ek K (.ref C) && (EF K C).any (λa=>a.mro == .ref C :: .ref S::t7 && a.hasDict) &&
 Cv K (.ref C) "__setattr__" == cI (cI (.builtin "object.__setattr__")) && CB K C (.type "object")==cI d6 && Cv K (.ref C) att==cI cS &&
 Fy K (.ref S) "__getattribute__" == cI (cI (.builtin "type.__getattribute__")) && PySem.W.readsIn K S (.type "type") && VO K S
theorem VN{K:Bo}{S:eH}(b:VO K S=d6):GD K (.ref S) (.type "type") "__init__" = cI (.val (.builtin "ValueError.__init__")):=by
 unfold VO at b;cases q:GD K (.ref S) (.type "type") "__init__" with
 | none=>rw[q]at b;cases b
 | some r=>
  rw[q]at b;cases r with
  | get _ _ _ _=>cases b
  | val v=>
   cases v with
   | builtin n=>rw[beq_iff_eq.mp b]
   | _=>cases b
structure II(K:Bo)(mg:MJ)(c q x1:Str)(st:l0)(att:Str):Prop where
 all:wA K=d6
 mem:c∈o5
 ex : ∃C N fI fd,xV K c=cI C/\mg c=cI (.ref C)/\gZ K C=cI N/\Cv K (.ref C) "__init__" = cI (cI (.ref fI))/\Ek K (.ref C)=d6/\EU K (.ref fI)=cI (.type "function")/\
  XA K mg C att/\L2.B5 K "__init__" q st fI fd/\Binds K fd ["self",x1] []
theorem px{K:Bo}{mg:MJ}{h:ia}{c q x1 att:Str}{st:l0}{C S H:eH}{Y:eM}{eI aI:Option eH}{lI:Array (Option eM)}{kI dI pI z tI:eM}(I:K.In h)(G:h.Ns p9 mg)(e:wA K=d6)(hm:c∈o5)
 (nC:Fn K p9 c=cI (cI (.ref C))) (nS:Fn K p9 "SplitError" = cI (cI (.ref S))) (iC:Cv K (.ref C) "__init__" = cI (cI (.ref H)))
 (uI:K.lookup H=cI ⟨Y,eI,.func (EM "__init__" q (kg st) (jN st) (zB st) .none kI dI pI aI z tI),lI⟩) (vI:Gb K z q=d6) (w1:Ek K (.ref H)=d6) (z1:PySem.W.isFn K (.ref H)=d6) (b:MH K C S att=d6)
 (gI : ∀(kV L pm:eM) (an:Option eH) (J ct:eM) (Z:List eM),Z.length=2->bindArgs (EM "__init__" q (kg st) (jN st) (zB st) .none kV L pm an J ct) ⟨Z,[]⟩=pure ((["self",x1]:List Str).zip Z)):II K mg c q x1 st att:=by
 have O:=dg uI vI w1;unfold MH at b;simp only[Bt,beq_iff_eq]at b;obtain⟨⟨⟨⟨⟨⟨⟨⟨b1,b2⟩,b3⟩,b4⟩,b5⟩,b6⟩,b7⟩,b8⟩,b9⟩:=b;obtain⟨N,U⟩:=Ec.mp b1;obtain⟨f,d,a⟩:=PySem.W.any_some b3;simp only[Bt,beq_iff_eq]at a;have g:xV K c=cI C:=by unfold xV;rw[nC]
 exact⟨e,hm,C,N,H,_,g,Gr I G nC,U,iC,b2,beq_iff_eq.mp z1,⟨S,N,f,Gr I G nS,U,d,a.1,a.2,b4,b5,b6,b7,b8,VN b9⟩,O,O.binds gI⟩
theorem pv{P:i8}{w:i5}{K:Bo}{H:MJ}{base:ia}{c q x1 att:Str}{st:l0}{k:Nat}(A:II K H c q x1 st att)(L:ZO ["self",x1] ["self",x1] st=d6)(J:ZW c=att)
 (z : ∀C,XA K H C att->∀X:Cx,X.prog=P->X.w=w->X.K=K->X.mg=H->X.base=base->SX X (zB st) ["self",x1] ["self",x1] k->tx X (jN st) (pH (Yw C) (dD C att))):XJ P w K H base (k+1) c:=by
 subst J;obtain⟨C,N,a,b,I,O,U,Y,d,e,f,g,h⟩:=A.ex;exact⟨A.all,A.mem,C,N,a,b,_,I,O,U,Y,d,e,bx g L<|z C f,h⟩
section
variable{M:Model}{A:l9}{E:MQ}{env:mr}
variable{nm q:Str}{C N:eH}{bs bm:List eM}{hdct:Bool}{sn:List Str}{sub:List eM}{ab:Bool}{col:Option Bool}{dd:Option eH}{k0 k1 k2 k3 k5:Option eM}{newId:String}
theorem X9{s:hA}{x:Sem eM}{Q:Flow->hA->Prop}(U:bm.contains (.type "BaseException")=d6)(Y:A.handled=cS)
 (h:wpAny M A x (λv z=>∃e t d,v = .ref e/\z.heap.get? C=cI (excClassObj nm q C N bs bm hdct sn sub ab col dd k0 k1 k2 k3 k5 newId)/\
   z.heap.get? e=cI (ZN C (cI d) t)/\E (.ref e) z) E s) :
 wpAny M A (raiseStmt env (cI x) cS) Q E s:=by
 have b:(BU C::bm).contains (.type "BaseException")=d6:=by rw[List.contains_cons,U,Bool.or_true]
 unfold raiseStmt;refine Bp<|BN h (λv z a=>?_) λ_ _ x=>x;obtain⟨e,t,d,rfl,I,O,f⟩:=a;obtain⟨j,g,i,k,os⟩:=z;unfold ZN at O
 repeat (first | with_reducible refine EE O ?_ | with_reducible refine EE I ?_ | (with_reducible refine wpAny_isSubtype_exc I ?_;rw[b]) | wp_step)
 exact wpAny_raiseNew_none Y f
end
section
variable{X:Cx}{sc:i7}{N L:List Str}{k j:Nat}{a:hI}{f:CO D}{c:Str}{np pos cpos:ik}{pins:MW}{σ:St}{H H0:Hp}{s:hA}{γ:Ctx}{i:Int}
theorem VZ(h:SX X sc N L k)(Z:qR sc c=d6)(x:XJ X.prog X.w X.K X.mg X.base j c)(hj:j+1<=k)(ha:PV X a f)(I:Inv X pins σ H s)(rc:RC X.K H0 H σ γ)(e1:f γ=cI (.int i))(hi:inR i=d6)(he:iv [a] X.env=[(eF,hM a X.env)]:=by rfl) :
 wpAny (hH X.prog X.w) X.A (hM (.Call (.Name c np) [a] [] pos) X.env) (λu s'=>∃e d C J U,u = .ref e/\Inv X pins σ (upd (upd J e<|.ext<|A3 C e d) d<|.xd [(ZW c,.int i)]) s'/\Ext H0 H U J/\J e=cS/\J d=cS/\d≠e/\xV X.K c=cI C/\(X.ex=[]->X.l5.heap.get? e=cS)) X.xe s:=by
 obtain⟨C,Nn,y,fd,ps,x1,x2,x3,x4,x5,O,F,hb⟩:=x.ex;obtain⟨nm,qn,bs,bm,M,sn,sub,ab,col,dd,k0,k1,k2,k3,k5,ho,ht,ij⟩:=dq x3;refine CI<|xw I (h.gl Z).1 x2 ?_ (h.gl Z).2.2;have ar:PA X [a] _:=z7 ha jT he;refine FU (h₀:=X.base) I.ok.mod.DB x5 (ih (ar pos pins s σ H (λB J=>B=[.int i]/\∃U,Ext H0 H U J) I ⟨H0,γ,.int i,rc,e1,λv S p E rr=>⟨by rw[show v = .int i from rr],p,E⟩⟩) λus s1 P=>⟨?_,?_⟩) (by rw[he];rfl) rfl
 ·obtain⟨B,J,Y,_⟩:=P;exact Y.l7
 obtain⟨B,J,Y,rv,ev,U,E⟩:=P;subst ev;obtain⟨u,rfl,ru⟩:=kH rv;have m:=Y.l7;obtain⟨l,bb,bd⟩ : ∃l,X.K.lookup y=cI l/\l.cls = .type "function":=by
  have O:(X.K.lookup y).map (·.cls)=cI (.type "function"):=O;cases z:X.K.lookup y with
  | none=>rw[z]at O;cases O
  | some l=>rw[z]at O;exact⟨l,rfl,Cd O⟩
 obtain⟨hp,g,dr,tk,os⟩:=s1;refine pz (FT m ht) (m _ _ ho) (PySem.W.looks_findIn m x4) (m _ _ bb) bd (by show 1<=i6;decide) λh' e a0 R y2 y3=>?_;obtain⟨hn,t⟩:=rV (o:= .ext (C5 C e)) (t':=tk) Y y3 R<|cH y2;have bl:X.ex=[]->X.l5.heap.get? e=cS:=λbn=>by
  cases q:X.l5.heap.get? e with
  | none=>rfl
  | some o=>
   obtain⟨o',z⟩:=Y.base.there e o q (by rw[bn];simp);rw[show hp.get? e=cS from R]at z;cases z
 have Q:Qa C (ZW c) [.ref e,.int i] (upd J e<|.ext<|C5 C e) (λv T=>v = .i3/\∃d,J d=cS/\d≠e/\T=upd (upd J e<|.ext<|A3 C e d) d (.xd [(ZW c,.int i)])) (λ_ _ _=>False):=by
  refine⟨e,i,rfl,hi,zu,λd G n=>⟨rfl,d,?_,n,?_⟩⟩
  ·rw[zt n]at G;exact G
  ·rw[J7]
 have hl:[BU e,u].length=ps.length:=(F.len _ _ _ _ Q).symm ▸ rfl;refine FN<|FQ (F.run _ X.stack _ _ ⟨[.ref e,u],[]⟩ [.ref e,u] [.ref e,.int i] _ _ ((h.room.mono hj).make C [u] []) (t.IM.make C [u] []) (by simpa using hb _ [.ref e,u] t.l7 (by simpa using hl)) (.cons rfl<|.cons ru .nil) Q) λr s' b=>?_;cases r with
 | error ee=>exact CM b
 | ok fl=>
  cases fl with
  | ret uu=>
   obtain⟨v,S,I3,c2,ev,d,c3,n,rfl⟩:=t.after b;subst ev;exact⟨c2,⟨e,d,C,J,U,rfl,I3,E,hn,c3,n,x1,bl⟩⟩
  | next=>exact CM b
  | brk=>exact CM b
  | cont=>exact CM b
theorem YO(h:SX X.o9 sc N L k)(hc:qR sc c=d6)(x:XJ X.prog X.w X.K X.mg X.base j c)(hj:j+1<=k)(Z:PV X.o9 a f)
 (hs:iv [a] X.env=[(eF,hM a X.env)]:=by rfl):Px X (.Raise (cI (.Call (.Name c np) [a] [] cpos)) cS pos) (iF c f):=λpins s σ H F0 F1 H0 γ cc I t e w=>by
 obtain⟨i,o,e⟩:=zc e;obtain⟨d0,E,o⟩:=zc o;rw[jm o]at E;by_cases p:inR i=d6
 ·rw[MY p]at e
  cases e;have S:X.A.handled=cS:=I.ok.hd (show X.calm=d6 from h.calm);obtain⟨C,P,fI,fd,ps,x1,x2,x3,x4,x5,x6,FO,hb⟩:=x.ex;obtain⟨nm,qn,bs,bm,hdct,sn,sub,ab,col,dd,k0,k1,k2,k3,k5,W,ht,ij⟩:=dq x3;have T0 : ∀{g:ia},X.K.In g->OwnTail g t7 bm:=λY=>FT Y ht;have FB:=Fc;rw[arm_exec_Raise];refine Bp (Gd ?_);show wpAny _ _ (raiseStmt X.env (cI (do let v <- hM (.Call (.Name c np) [a] [] cpos) X.env;G7 pos;pure v)) cS) _ _ _;refine X9 (C:=C) (nm:=nm) (q:=qn) (N:=P) (bs:=bs) (bm:=bm) (hdct:=hdct) (sn:=sn) (sub:=sub) (ab:=ab) (col:=col) (dd:=dd) (k0:=k0) (k1:=k1) (k2:=k2) (k3:=k3) (k5:=k5) (newId:="ValueError.__new__") ((T0 I.l7).hasType FB.hasBase) S ?_;refine Bp (BN (VZ (X:=X.o9) h hc x hj Z (I.m6 _) t.rc E p hs) (λu G z=>Bp (Gd (Bv ?_))) λ_ _ z=>z.elim);obtain⟨e,d,J,m,c3,rfl,O,U,T,n,B,l,Q⟩:=z;have l:xV X.K c=cI J:=l;rw[x1]at l;cases l;have O:=O.u6;have F:upd (upd m e (.ext (A3 C e d))) d (.xd [(ZW c,.int i)]) e=cI (.ext (A3 C e d)):=by rw[zt (CP B),zu]
  obtain⟨⟨y,g1⟩,_,_⟩:=(show l8 X.prog X.w _ G.heap e (.ext<|A3 C e d)from O.ij e _ F);refine⟨e,y,d,rfl,O.l7 _ _ W,g1,?_⟩;have R:(λb=>if b=e then cS else upd (upd m e<|.ext<|A3 C e d) d (.xd [(ZW c,.int i)]) b)=upd m d (.xd [(ZW c,.int i)]):=by
   funext b;by_cases q:b=e
   ·rw[MY q,q,zt<|CP B,T]
   ·rw[RQ q]
    by_cases r:b=d
    ·rw[r,zu,zu]
    ·rw[zt r,zt q,zt r]
  have M:=t.ext.trans<|(U.trans<|Ext.hide U.sub n<|.xd [(ZW c,.int i)]).show (vA U.s1 n) (jC U.sub n) zu t.rc.sub;exact w.2.2 pins σ _ _ G e C d y (A3 C e d) O F g1 Q (by rw[R];exact M) x.all x.mem x1 ⟨d,rfl,zu⟩
 ·rw[RQ p]at e;cases e
end
noncomputable def nV(f:CO D)(γ:Ctx):Option (List D):=((f γ).bind oI).bind λn=>if inR n=d6/\n.toNat<=lim then cI (kL 0 n.toNat)else cS
@[simp] def iA:=@nV.eq_1
end DL
namespace L2
open PySem PySem.Spec PyProof.Rows
theorem wC : ∀{ks:List Int} {z:List eM},i0 (ks.map V.int) z->∀(i:Nat) (v:eM),z[i]? = cI v->∃k t,ks[i]? = cI k/\v = .int k t
 | [],_,.nil,i,v,h=>by cases h
 | k::ks,_,.cons h r,0,v,hv=>by obtain⟨t,e⟩:=h;cases hv;exact⟨k,t,rfl,e⟩
 | k::ks,_,.cons h r,i+1,v,hv=>wC r i v hv
end L2
namespace DL
open PySem L2
noncomputable def pq(z H fs:List D):List D:=(z.zip<|H.zip fs).map λp=>D.tup [p.1,p.2.1,p.2.2]
noncomputable def As(f g h:CO D)(γ:Ctx):Option (List D):=((f γ).bind jf).bind λm=>((g γ).bind jf).bind λn=>((h γ).bind jf).map λo=>pq m.2 n.2 o.2
@[simp] def sP:=@As.eq_1
noncomputable def W9(i:Nat)(g:CO (Sk×List D)):CO Fl:=λb=>(qb b[i]?).bind λd=>(g b).bind λa=>match a.1 with
 | .T=>if d.length+a.2.length<=lim then cI (.next<|b.set i<|.own<|d++a.2)else cS
 | .L=>cS
end DL
namespace L2
open PySem PySem.Spec PyProof.Rows
theorem Kz(l b:eH)(z:Array eM)(n:Nat)(I:Array eM)(Y:Nat)(o:m7)(H : ¬(!z.isEmpty && Fi (z.size+I.size))=d6)(J:z.size<=i6)(L:z.size+I.size<=i6+1) :
 E8 (Builtin.«list.extend» ⟨[.ref l,.ref b],[]⟩) (λ_ R s=>s.heap.get? l=cI {cls:= .type "list",dict:=cS,data:= .seq z n,slots:=#[]}/\s.heap.get? b=cI o/\o.cls = .type "tuple"/\o.data = .seq I Y/\R (.ok (.ret Cy)) {s with heap:=s.heap.update l (Eg λx=>x++I)}):=
 .of_wp λa w A R s h=>by
  obtain⟨O,U,f,g,h⟩:=h;have d:(z++I).size<=i6+1:=by rw[Array.size_append];exact L
  refine Bp (m:=PySem.selfAndOne "list.extend" ⟨[.ref l,.ref b],[]⟩) (Bv ?_);show wpAny _ _ (Builtin.List.listExtendWith (.ref l) (.ref b) .none) _ _ s;unfold Builtin.List.listExtendWith;refine Bp (m:=typeOf (.ref b)) (Gz ⟨o,U,f⟩ ?_);have e:(Builtin.List.listSameRef (.ref l) (.ref b) || Ej "tuple" == Ej "list" || Ej "tuple" == Ej "tuple")=d6:=by simp
  rw[MY e];refine Bp (m:=Builtin.List.listItems<|.ref b) ?_;unfold Builtin.List.listItems;refine Bp (m:=seqItems?<|.ref b)<|ED U g<|Bv ?_;refine Bp ?_;refine Bp (m:=seqItems?<|.ref l)<|ED O rfl<|Bv ?_;rw[RQ H];exact Bp (m:=updateSeq l λx=>x++I)<|wpAny_updateSeq O rfl (hz:=J) (_hz':=d)<|Bv ⟨_,rfl,h⟩
noncomputable def rC(K:Bo):V->List V->Hp->VK->Prop:=λx e H Q=>∃l b a d,x = .ref l/\e=[.ref b]/\H l=cI (.lst a)/\lb K H b d/\a.length+d.length<=i6/\Q .i3 (upd H l<|.lst<|a++d)
theorem fO{X:Cx}:L1 X "list.extend" (rC X.K):=by
 intro a s L H x E v C Q I rx w h;obtain⟨l,b,G,J,rfl,rfl,Y,i,B,q⟩:=h;cases rx;obtain⟨u,rfl,t⟩:=w.one;cases t;obtain⟨z,O,n,r,A,e⟩:=I.Lz Y;obtain⟨U,d,⟨o,m,j,p,k⟩,y⟩:=I.tuple i;have AK:=r.length;have AJ:=d.length;have f:O.toArray.size+U.toArray.size<=i6:=by rw[By,By];omega
 have g : ¬(!O.toArray.isEmpty && Fi (O.toArray.size+U.toArray.size))=d6:=by rw[aW f,Bool.and_false];exact BJ
 refine Gi F.slot_list_extend ⟨_,e,rfl⟩ F.entry_list_extend (F.args_list_extend_2 _ _) (Kz l b O.toArray n U.toArray p o g (by rw[By];omega) ⋯) ⟨e,m,j,k,?_⟩;exact⟨.i3,_,I.Ly (its':=O++U) Y e ⋯ (r.append d) (by rw[Cs];omega),rfl,q⟩
end L2
namespace DL
open PySem PySem.Spec PyProof.Rows L2
section
variable{X:Cx}{sc:i7}{N L:List Str}{k:Nat}{a:hI}{g:CO (Sk×List D)}{pos:ik}
theorem aw(i:Nat){x:Str}{J cpos np:ik}(h:SX X sc N L k)(c:yz sc N i x=d6)(ha:PQ X a g)(O:iv [a] X.env=[(eF,hM a X.env)]:=by rfl)
 (Z:HX (.Name x np) "extend" X.env (hM (.Name x np) X.env)=hM (.Name x np) X.env:=by rfl)
 (a4:((o8 cpos<|starEach [a] X.env).all (λx=> !x.1) && (Lm cpos<|keywordEach [] X.env).all (λx=>x.1.isSome)
   && decide ([a].length+([]:List D2).length+(if ([]:List D2).isEmpty then 0 else 1)<30))=d6:=by rfl)
 (a5:(J.endLine==cpos.line)=d6:=by rfl) (a6:vt (.Call (.Attribute (.Name x np) "extend" J) [a] [] cpos) cS pos.line X.env=pure eF:=by rfl) :
 o7 X (.Expr (.Call (.Attribute (.Name x np) "extend" J) [a] [] cpos) pos) (W9 i g):=
 ka (Qi (fw PySem.F.plainAttrs_list PySem.F.slot_list_extend PySem.F.type_list_extend fO (h.var c) (z7 ha jT O) Z a4 a5 O rfl) a6) λD K H y=>by
  obtain⟨E0,E,p,o,w,I,z,s⟩:=y;obtain⟨d,e,z⟩:=zc z;obtain⟨⟨B,f⟩,u,z⟩:=zc z;have e:=kl e;cases B with
  | L=>cases z
  | T=>
   have z:(if d.length+f.length<=lim then cI (Fl.next<|o.set i<|.own<|d++f)else cS)=cI w:=z;by_cases U:d.length+f.length<=lim
   ·rw[MY U]at z;cases z
    obtain⟨l,xs,j,G,Y,m⟩:=I.rc.own i d e;refine⟨_,j,.inl ⟨rfl,_,kv.of Y⟩,p,o,.T,f,I.rc,u,λb n C r x g1 g2 g3=>?_⟩;have A:xs.length+n.length<=i6:=by
     rw[m.length,g3.length];have:lim<=i6:=by decide
     omega
    refine⟨l,b,xs,n,rfl,rfl,x.s1 _ _ Y,g1,A,?_⟩;have t:=I.step x;exact s _ _ _<|t.rewrite (xs:=xs) e j<|(m.mono x.s0).append g3
   ·rw[RQ U]at z;cases z
end
section
variable{X:Cx}{sc:i7}{N L:List Str}{k j n:Nat}{e:hI}{es:List hI}{g:CO (List D)}{G:List D->Option Xn}{x:Str}{p pos:ik}
theorem Zu{spos:ik}(hf:n0 X.prog X.w X.K X.mg X.base j x n G)(U:j<=k)(h:SX X.o9 sc N L k)(c:qR sc x=d6)(Z:y8 X.o9 (e::es) n g)
 (Y:iv (e::es) X.env=(eF,hM e X.env)::iv es X.env:=by rfl) (J:(o8 pos<|starEach es X.env).any (·.1)=eF:=by rfl) :
 Px X (.Return (cI (.Call (.Name x p) (e::es) [] pos)) spos) (xU G g):=λa s t H u y A E B I O eq w=>by
 obtain⟨C,l,m⟩:=zc eq;refine wpAny_Return_some<|BN (VY hf U (⟨h.t9,h.eN,h.nd,h.calm,h.room,h.fn⟩:SX X sc N L k) c Z I O.rc l m Y J) (λ_ _ z=>z.elim) λev o z=>?_;obtain⟨b,f,r,d,x1,i⟩:=z;exact w.2.1 a t b f r ev o d (O.ext.trans x1) i
end
noncomputable def ub(f g:CO D)(γ:Ctx):Option (List D):=((f γ).bind jf).bind λm=>((g γ).bind jf).bind λn=>if m.2.length<=lim then cI (WI m.2 n.2)else cS
@[simp] def oU:=@ub.eq_1
noncomputable def Yg:List D->Option (List D×List D)
 | []=>cI ([],[])
 | d::r=>match d with
  | .tup a=>match a with
   | [k,v]=>(Yg r).map λp=>(k::p.1,v::p.2)
   | _=>cS
  | _=>cS
noncomputable def ue(f:CO (List D))(γ:Ctx):Option D:=(f γ).bind λa=>(Yg a).bind λp=>sF p.1 p.2
@[simp] def oY:=@ue.eq_1
noncomputable def hU(z H:CO D):CO D:=λa=>(z a).bind λd=>(H a).bind λk=>match d with
 | .o1 b e=>(oI k).bind λi=>JI b e i
 | _=>cS
noncomputable def eh(H z:CO D):CO D:=λa=>(H a).bind λk=>(z a).bind λd=>match d with
 | .o1 b e=>(oI k).map λi=> .bl (JI b e i).isSome
 | _=>cS
section
variable{X:Cx}{sc:i7}{N L:List Str}{k:Nat}{a o i:hI}{f:CO (List D)}{fd fk:CO D}{p pos:ik}
theorem lK(h:SX X sc N L k)(Z:PV X o fd)(J:PV X i fk)(hs:tR i:=by intro _ _;rfl):PV X (.Subscript o i pos) (hU fd fk):=
 jB (fu (by have:=h.Iv;omega) Z J hs) λS H Q B=>by
  obtain⟨f,e,d,rc,z,q⟩:=B;obtain⟨p,s,z⟩:=zc z;obtain⟨P,t,z⟩:=zc z;cases p with
  | o1 E G=>
   obtain⟨j,u,w⟩:=zc z;refine⟨f,e,_,rc,s,λv M I x r=>⟨I,e,_,rc.ext x,t,λy g l O U=>?_⟩⟩;obtain⟨ad,b,rfl,⟨R,g1,g2,F,g3⟩,A⟩:=(show ∃a b,v = .ref a/\D1 I a E b/\gE X.K I G b from r);rw[jm u]at U;have C:y = .int j:=U;obtain⟨Y,m,n⟩:=(ZI (i:=j) g1 g2<|A.mono O.s0).1 d w;refine⟨ad,Y,rfl,?_,q Y g l (x.trans O) n⟩;rw[C,<- m];exact .inl ⟨_,Ed j,.inr ⟨F,O.s1 _ _<|x.sub _ _ g3⟩,rfl,rfl⟩
  | _=>cases z
theorem eT(h:SX X sc N L k)(Z:PV X i fk)(ho:PV X o fd)(hm:C3 .In o=eF:=by with_unfolding_all rfl):o4 X (.Compare i [.In] [o] pos) (sB<|eh fk fd):=
 Jn (lP (mi (by have:=h.Iv;omega) Z ho) hm) λσ H Q P=>by
  obtain⟨n,m,b,rc,z,q⟩:=P;obtain⟨W,B,J⟩:=zc z;obtain⟨k1,C,z⟩:=zc B;obtain⟨w,E,z⟩:=zc z;cases w with
  | o1 g l=>
   obtain⟨j,F,G⟩:=zr z;subst G;cases J;refine⟨n,m,_,rc,C,λy S p x U=>⟨p,m,_,rc.ext x,E,λv e I O r=>?_⟩⟩;obtain⟨ad,d,rfl,⟨kk,g1,g2,Y,g3⟩,M⟩:=(show ∃a d,v = .ref a/\D1 I a g d/\gE X.K I l d from r);rw[jm F]at U;have f:y = .int j:=U;obtain⟨s,t⟩:=ZI (i:=j) g1 g2 M;cases hv:JI g l j with
   | none=>
    refine⟨ad,cS,rfl,?_,_,rfl,?_⟩
    ·rw[f,<- t hv]
     exact .inl ⟨_,Ed j,.inr ⟨Y,O.sub _ _ g3⟩,rfl,rfl⟩
    ·rw[hv]at q;exact q e I<|x.trans O
   | some A=>
    obtain⟨R,u,T⟩:=s A hv;refine⟨ad,cI R,rfl,?_,_,rfl,?_⟩
    ·rw[f,<- u]
     exact .inl ⟨_,Ed j,.inr ⟨Y,O.sub _ _ g3⟩,rfl,rfl⟩
    ·rw[hv]at q;exact q e I<|x.trans O
  | _=>cases z
end
def rW:D->Option (List Int)
 | .tup a=>VM a
 | _=>cS
noncomputable def mQ:List D->Option (List<|List Int)
 | []=>cI []
 | d::ds=>(rW d).bind λk=>(mQ ds).map λr=>k::r
noncomputable def ud(f:CO (List D))(γ:Ctx):Option D:=(f γ).bind λb=>(Yg b).bind λp=>(mQ p.1).bind λa=>if a.Nodup/\a.length<=lim then cI (.n4 a p.2)else cS
noncomputable def sk:List (List Int)->List D->List Int->Option D
 | k::ks,v::vs,i=>if k=i then cI v else sk ks vs i
 | _,_,_=>cS
noncomputable def AB(z H:CO D)(γ:Ctx):Option D:=(z γ).bind λd=>(H γ).bind λk=>match d with
 | .n4 a b=>(rW k).bind λi=>sk a b i
 | _=>cS
noncomputable def sj(d k x:D):Option D:=match d with
 | .n4 a b=>(rW k).map λi=>(sk a b i).getD x
 | _=>cS
noncomputable def Ay(z H fx:CO D)(γ:Ctx):Option D:=(z γ).bind λd=>(H γ).bind λk=>(fx γ).bind λx=>sj d k x
noncomputable def Aw(f:CO D)(γ:Ctx):Option (List D):=(f γ).bind λd=>match d with
 | .n4 a _=>cI (a.map λk=> .tup (k.map .int))
 | _=>cS
section
variable(γ:Ctx)
@[simp] def oX:=@ud.eq_1
@[simp] def tF:=@AB.eq_1
@[simp] def tq:=@Ay.eq_1
@[simp] def tj:=@Aw.eq_1
end
noncomputable def uv:List (List Int)->List Int->List Int->Option Int
 | k::ks,n::ns,i=>if k=i then cI n else uv ks ns i
 | _,_,_=>cS
noncomputable def eqT(ks:List (List Int))(H:List Int)(z:List (List Int))(I:List Int):Bool:=decide (ks.length=z.length) && (ks.zip H).all λx=>decide<|uv z I x.1=cI x.2
noncomputable def uy(d e:D):Option Bool:=match d with
 | .n4 a f=>match e with
  | .n4 z I=>(VM f).bind λb=>(VM I).map λO=>eqT a b z O
  | _=>cS
 | _=>cS
@[simp] def Bm(d e:D):Option D:=(uy d e).map D.bl
@[simp] def Bl(d e:D):Option D:=(uy d e).map λb=>D.bl<|!b
noncomputable def Av(f:CO D)(γ:Ctx):Option D:=(f γ).bind λd=>match d with
 | .n4 a _=>cI (.int a.length)
 | _=>cS
@[simp] def sZ:=@Av.eq_1
abbrev TT:=List (List (List Int))
inductive Pl where
 | out | tab (k:Nat) | row (k m:Nat)
deriving DecidableEq
noncomputable def oj(Z:TT):Pl->Prop
 | .out=>True
 | .tab k=>k<Z.length
 | .row k m=>k<Z.length/\m<(Z.getD k []).length
noncomputable def nv(Z:TT)(ad:Pl->eH):Pl->List V
 | .out=>(Br Z.length).map λk=>V.ref<|ad<|.tab k
 | .tab k=>(Br (Z.getD k []).length).map λm=>V.ref<|ad<|.row k m
 | .row k m=>((Z.getD k []).getD m []).map V.int
structure N3(H:Hp)(Z:TT)(ad:Pl->eH):Prop where
 cont : ∀pl,oj Z pl->H (ad pl)=cI (.lst<|nv Z ad pl)
 inj : ∀pl LG,oj Z pl->oj Z LG->ad pl=ad LG->pl=LG
section
variable{K:Bo}{al:List (Nat×Pl)}{E0 E H0 H t5 H':Hp}{σ NS:St}{γ γ':Ctx}{Z:TT}{ad:Pl->eH}
open Classical in
end
open Classical in
section
variable{H:Hp}{Z:TT}{ad:Pl->eH}
end
noncomputable def Bb(K:Bo)(E0 E:Hp)(Q:VK)(d:D)(Z:TT):Prop:=∀t v ad b a,Ext E0 E a b->Rep K a d v->b t=cI (.tup [v,.ref (ad .out)])->N3 b Z ad->(∀e,oj Z e->a (ad e)=cS/\E (ad e)=cS)->Q (.ref t) b
noncomputable def NG(K:Bo)(n:Nat)(F:List D->Option (D×TT)):Sp:=λd H Q _=>∃a b r,kr a H/\gE K a b d/\b.length=n/\F b=cI r/\Bb K a H Q r.1 r.2
section
variable{X:Cx}{sc:i7}{N L:List Str}{k j n i:Nat}{a b c e:hI}{es:List hI}{f:CO D}{g:CO (List D)}{p pos:ik}{x:Str}{st N2 N4:l0}{rest:List l0}{F:List D->Option Res}
open Classical in
def DC(H:Hp)(p:eH):Hp:=λc=>if c=p then cS else H c
theorem IT{H:Hp}{p c:eH}(h:c≠p):DC H p c=H c:=RQ h
end
noncomputable def rl(z ga H I:CO D):CO D:=λa=>((z a).bind oI).bind λi=>(ga a).bind λx=>((H a).bind oI).bind λj=>(I a).bind λy=>if i=j then cS else cI (.o1 [.int i,.int j] [x,y])
mutual
def LF:D->Bool
 | .tup a=>Ib a
 | .lst a=>Ib a
 | .exc _ _=>eF
 | .o1 _ _=>eF
 | .n4 _ _=>eF
 | .ins _ _ _=>eF
 | _=>d6
def Ib:List D->Bool
 | []=>d6
 | x::xs=>LF x && Ib xs
end
theorem Ext.put{L H I J:Hp}{p:eH}{o:HO}(x:Ext L H I J)(z:H p=cS)(O:I p=cS):Ext L H (upd I p o) (upd J p o):=
 ⟨x.s0.trans<|ja O o,λb u q=>by rw[zt (λe=>by rw[e,z]at q;cases q)];exact x.s1 b u q,Jd x.sub,λa f d=>by rw[zt (λe=>d<|by rw[e];exact z)];exact x.new a f d⟩
noncomputable def pN(t:TE):TE:=λd H Q=>t d H λv b=>∃p a,v = .ref p/\b p=cI (.dK a)/\∀o,Q (.ref p)<|upd b p<|.ri o<|.dK a
theorem fm{X:Cx}{e:hI}{t:TE}(h:PE X e t):PE X e (pN t):=λa s g H Q I z=>ih (h a s g H _ I z) λr j O=>by obtain⟨v,i,U,Y,p,f,rfl,d,q⟩:=O;obtain⟨o,b⟩:=Inv.Nf U d;exact⟨.ref p,_,b,Y,q o⟩
section
variable{X:Cx}{a b c e:hI}{fa ga fb gb:CO D}{pos:ik}
theorem lL(Z:PV X a fa)(h2:PV X b ga)(h3:PV X c fb)(h4:PV X e gb):PV X (.Dict [cI a,cI c] [b,e] pos) (rl fa ga fb gb):=
 jB (fm<|ft (Xc Z h2<|Xc h3 h4 eX) rfl rfl ⋯ ⋯) λσ H Q hZ=>by
  obtain⟨h,g,d,rc,I,q⟩:=hZ;obtain⟨i,l,I⟩:=zc I;obtain⟨N,R,l⟩:=zc l;obtain⟨w,S,I⟩:=zc I;obtain⟨j,m,I⟩:=zc I;obtain⟨P,T,m⟩:=zc m;obtain⟨x,W,I⟩:=zc I;by_cases k:i=j
  ·rw[MY k]at I;cases I
  rw[RQ k]at I;cases I;intro p n;have f:=Ext.hide rc.sub n<|.dK [];refine⟨h,g,N,rc.ext f,R,λv1 H1 E x1 y=>⟨E,g,w,(rc.ext f).ext x1,S,λU H2 F o r2=>⟨F,g,P,((rc.ext f).ext x1).ext o,T,λv3 H3 G x3 A=>⟨G,g,x,(((rc.ext f).ext x1).ext o).ext x3,W,λY s O B r4=>?_⟩⟩⟩⟩;have r:=x1.trans<|o.trans<|x3.trans B;rw[jm l]at y;rw[jm m]at A;have J:s p=cI (.dK []):=r.s1 _ _ zu;have L:h p=cS:=jC rc.sub n;have t:O p=cS:=r.new p L (by rw[zu];simp);have xa:Ext h H O s:=f.trans r;refine⟨J,[(Ed i,U),(Ed j,Y)],?_,by simp,?_⟩
  ·rw[show v1=V.int i from y,show v3=V.int j from A];rfl
  have M : ¬((Ed i:Key)=Ed j):=λz=>k<|Ed.inj z;have em:vB [] [((Ed i:Key),U),(Ed j,Y)]=[((Ed i:Key),U),(Ed j,Y)]:=by simp[vB,ak,M]
  rw[em];refine⟨p,_,rfl,zu,λof=>?_⟩;rw[J7];have u:kr O (upd O p<|.ri of<|.dK [((Ed i:Key),U),(Ed j,Y)]):=ja t _;refine q (.ref p) _ _ (xa.put n t) (show ∃a C,V.ref p = .ref a/\D1 (upd O p _) a [.int i,.int j] C/\gE X.K (upd O p _) [w,x] C from⟨p,[U,Y],rfl,⟨[Ed i,Ed j],rfl,rfl,of,zu⟩,?_⟩);exact gE.cons ((r2.mono<|x3.s0.trans B.s0).mono u)<|gE.cons (r4.mono u) gE.nil
end
mutual
theorem Rep.less{K:Bo}{H:Hp}{p:eH}{J:ia->Prop}(I:H p=cI (.ext J)) : ∀{d:D} {v:V},LF d=d6->Rep K H d v->Rep K (DC H p) d v
 | .i3,_,_,h=>h
 | .bl _,_,_,h=>h
 | .int _,_,_,h=>h
 | .str _,_,_,h=>h
 | .tup ds,v,n,h=>by
  obtain⟨a,b,f,g,i⟩:=(show ∃a b,v = .ref a/\lb K H a b/\gE K H ds b from h);refine(show ∃a b,v = .ref a/\lb K (DC H p) a b/\gE K (DC H p) ds b from⟨a,b,f,?_,gE.less I n i⟩);have z : ∀{u:HO},(∀J,u ≠ .ext J)->H a=cI u->a≠p:=λO q e=>by rw[e,I]at q;exact O _ (Cd q).symm
  rcases g with(hq | ⟨o',hq⟩) | hq
  ·exact .inl (.inl<|by rw[IT (z (λ_=>by simp) hq)];exact hq)
  ·exact .inl<|.inr ⟨o',by rw[IT (z (λ_=>by simp) hq)];exact hq⟩
  ·exact .inr hq
 | .lst ds,v,n,h=>by
  obtain⟨a,b,f,g,i⟩:=(show ∃a b,v = .ref a/\kv K H a b/\gE K H ds b from h);refine(show ∃a b,v = .ref a/\kv K (DC H p) a b/\gE K (DC H p) ds b from⟨a,b,f,?_,gE.less I n i⟩);have z : ∀{u:HO},(∀J,u ≠ .ext J)->H a=cI u->a≠p:=λO q e=>by rw[e,I]at q;exact O _ (Cd q).symm
  rcases g with(hq | ⟨o',hq⟩) | hq
  ·exact .inl (.inl<|by rw[IT (z (λ_=>by simp) hq)];exact hq)
  ·exact .inl<|.inr ⟨o',by rw[IT (z (λ_=>by simp) hq)];exact hq⟩
  ·exact .inr hq
 | .exc _ _,_,n,_=>nomatch n
 | .o1 _ _,_,n,_=>nomatch n
 | .n4 _ _,_,n,_=>nomatch n
 | .ins _ _ _,_,n,_=>nomatch n
theorem gE.less{K:Bo}{H:Hp}{p:eH}{J:ia->Prop}(z:H p=cI (.ext J)) : ∀{I:List D} {xs:List V},Ib I=d6->gE K H I xs->gE K (DC H p) I xs
 | [],_,_,h=>h
 | d::I,xs,n,h=>by obtain⟨x,r,a,b,e⟩:=(show ∃x r,xs=x::r/\Rep K H d x/\gE K H I r from h);have n:(LF d && Ib I)=d6:=n;rw[Bt]at n;exact(show ∃x r,xs=x::r/\Rep K (DC H p) d x/\gE K (DC H p) I r from⟨x,r,a,Rep.less z n.1 b,gE.less z n.2 e⟩)
end
structure SW(X:Cx)(sc:i7)(N T:List Str)(k:Nat):Prop where
 t9:X.env.scope=sc
 eN:X.N=N
 nd:N.Nodup
 dp:X.A.depth+3*k+5<recursionLimit
 un:X.A.units+16*k+200<cLine
 fn : ∀x∈T,X.fn x=d6\/sc.names.lookup x=cI .local
structure MR(k:Nat)(A:l9):Prop where
 dp:A.depth+3*k+5<recursionLimit
 un:A.units+16*k+200<cLine
section
variable{X:Cx}{sc:i7}{N T:List Str}{k:Nat}{i:Nat}{x:Str}{pos:ik}
theorem SW.var(h:SW X sc N T k)(c:yz sc N i x=d6):PE X (.Name x pos) (dE i):=by
 unfold yz at c;simp only[Bt,Cj,decide_eq_true_eq,EB]at c;obtain⟨⟨⟨a,h2⟩,z⟩,I⟩:=c;refine cJ (by rw[h.eN];exact a) ?_ z I;unfold IH;rw[h.t9];rcases h2 with(h2 | h2) | h2
 ·exact .inl h2
 ·exact .inr<|.inl h2
 ·exact .inr<|.inr h2
theorem SW.loc(h:SW X sc N T k)(c:xD sc N T i x=d6):X.N[i]? = cI x/\L2.Loc X.env.scope x/\(X.fn x=d6\/X.env.scope.names.lookup x=cI .local):=by
 unfold xD at c;simp only[Bt,Cj,decide_eq_true_eq]at c;refine⟨by rw[h.eN];exact c.1.2,?_,?_⟩
 ·unfold L2.Loc;rw[h.t9];exact c.2
 ·rw[h.t9];exact h.fn x c.1.1
theorem SW.set(h:SW X sc N T k)(i:Nat){e:hI}{H:TE}{pos':ik}(c:xD sc N T i x=d6)(z:PE X e H)(I:vt e (cI (.Name x pos')) pos.line X.env=pure eF:=by rfl):PS X (.Assign [.Name x pos'] e pos) (QW H<|ke i):=by obtain⟨a,b,O⟩:=h.loc c;exact cD (by rw[h.eN];exact h.nd) a b z I O
theorem SW.gl(h:SW X sc N T k)(c:qR sc x=d6):Gl X x/\x ≠ "__name__"/\(x==("__debug__" : Str))=eF:=by
 unfold qR at c;simp only[Bt,decide_eq_true_eq,EB]at c;refine⟨?_,?_,c.2⟩
 ·show X.env.scope.names.lookup x=_
  rw[h.t9];exact c.1.1
 ·intro e;rw[e]at c;simp at c
end
section
variable{X:Cx}{sc:i7}{N L T:List Str}{k:Nat}{e a:hI}{f:CO D}{p p2 pos:ik}
theorem jV(h:SW X sc N T k)(c:qR sc "int" = d6)(z:X.mg "int" = cS)(Y:PV X e f)(O:iv [e] X.env=[(eF,hM e X.env)]:=by rfl):PV X (.Call (.Name "int" p) [e] [] pos) (xh f):=
 jB (vy JT (h.gl c).1 z Gk (z7 Y jT O) ⋯ ⋯ O rfl) λo H Q m=>by
  obtain⟨j,n,d,rc,I,q⟩:=m;obtain⟨U,l,I⟩:=zc I;refine⟨j,n,U,rc,l,λv g a ext r=>?_⟩;cases U with
  | int i=>cases I;exact .inl ⟨i,by rw[jk r],q _ g a ext rfl⟩
  | bl b=>cases I;exact .inr ⟨b,by rw[show v = .bl b from r],q _ g a ext rfl⟩
  | _=>cases I
theorem xG{c:Str}(h:SW X sc N L k)(ci:qR sc "isinstance" = d6)(z:X.mg "isinstance" = cS)(J:qR sc c=d6)(x:XI X.K X.mg c)(ha:PV X a f)
 (Z:iv [a,.Name c p2] X.env=[(eF,hM a X.env),(eF,hM (.Name c p2) X.env)]:=by rfl):PV X (.Call (.Name "isinstance" p) [a,.Name c p2] [] pos) (Qd c f):=by
 intro g s T H Q I U;obtain⟨m,R,d,rc,O,q⟩:=U;obtain⟨y,A,O⟩:=zc O;obtain⟨C,x1,M⟩:=x.ex;cases y with
 | exc Y n=>
  cases O;refine CI<|qU I (h.gl ci).1 z Er ?_ ⋯ ⋯;refine CK ?_ (by rw[Z];rfl) rfl;rw[Z];show wpAny _ _ (A6 ((eF,hM a X.env)::o8 pos [(eF,hM (.Name c p2) X.env)])) _ _ s;refine Ci<|ih (ha g s T H (λv l=>∃e,Ext m H e l/\Rep X.K e (.exc Y n) v) I ⟨m,R,_,rc,A,λv l e x r=>⟨e,x,r⟩⟩) λu F U=>?_;obtain⟨v,o,i,B,t,w,E⟩:=U;obtain⟨b,rfl,j⟩:=(show ∃b,v = .ref b/\vv X.K t Y n b from E);cases (show u=BU b from B);show wpAny _ _ (A6 ((eF,hM (.Name c p2) X.env)::[])) _ _ F;refine Ci<|xw i (h.gl J).1 M ?_ (h.gl J).2.2;refine EL ?_;refine Xo i w.sub j (λW g1=>?_) λG=>⟨.bl<|Y==c,o,i.tok G,rfl,q _ o t w rfl⟩;obtain⟨S,_,_,_,P⟩:=kR j.all j.mem g1;exact P c C x.mem x1
 | _=>cases O
theorem eD(h:SW X sc N L k)(ci:qR sc "isinstance" = d6)(z:X.mg "isinstance" = cS)(J:qR sc "ValueError" = d6)(zv:X.mg "ValueError" = cS)(ha:PV X a f)
 (Z:iv [a,.Name "ValueError" p2] X.env=[(eF,hM a X.env),(eF,hM (.Name "ValueError" p2) X.env)]:=by rfl):PV X (.Call (.Name "isinstance" p) [a,.Name "ValueError" p2] [] pos) (dZ f):=by
 intro g s P H Q I U;obtain⟨m,M,d,rc,O,q⟩:=U;obtain⟨A,B,O⟩:=zc O;cases A with
 | exc y n=>
  cases O;refine CI (qU I (h.gl ci).1 z Er ?_ ⋯ ⋯);refine CK ?_ (by rw[Z];rfl) rfl;rw[Z];show wpAny _ _ (A6 ((eF,hM a X.env)::o8 pos [(eF,hM (.Name "ValueError" p2) X.env)])) _ _ s;refine Ci (ih (ha g s P H (λv l=>∃e,Ext m H e l/\Rep X.K e (.exc y n) v) I ⟨m,M,_,rc,B,λv l e x r=>⟨e,x,r⟩⟩) λu F U=>?_);obtain⟨v,o,Y,C,t,w,E⟩:=U;obtain⟨b,rfl,i⟩:=(show ∃b,v = .ref b/\vv X.K t y n b from E);cases (show u=BU b from C);show wpAny _ _ (A6 ((eF,hM (.Name "ValueError" p2) X.env)::[])) _ _ F;refine Ci (qU Y (h.gl J).1 zv Wp ?_ (h.gl J).2.1 (h.gl J).2.2);refine EL ?_;refine Xo (r:=d6) Y w.sub i (λR g1=>?_) λG=>⟨.bl d6,o,Y.tok G,rfl,q _ o t w rfl⟩;obtain⟨S,_,j,_,_⟩:=kR i.all i.mem g1;unfold WV at j;simp only[Bt,beq_iff_eq]at j;exact j.1.1.1.1.1.1.1.1.1.2
 | _=>cases O
end
structure HQ(P:i8)(w:i5)(K:Bo)(mg:MJ)(base:ia)(k:Nat)(x:Str)(n:Nat)(F:List D->Option Res):Prop where
 ex : ∃(f:eH) (fd:ts) (ps:List Str),ps.length=n/\(∀(A:l9) (outer:List mr) (s:hA) (H:Hp) (args:Args) (us:List eM) (vs:List V) (Q:VK) (E:XK),MR k A->Dc P w K mg base A outer s H->HP s fd args (ps.zip us)->i0 vs us->u5 K ps.length F vs H Q E->
  codeAny (hH P w) A (.call (.ref f) args) (CR t2 outer P w H s Q E) s)/\mg x=cI (.ref f)/\Ek K (.ref f)=d6/\Binds K fd ps []
noncomputable def IL(P:i8)(w:i5)(K:Bo)(z:MJ)(base:ia)(N:List Str)(qual:Str)(scope:i7)(f:eH)(cd:eM)(A:l9)(outer:List mr)(s:hA)(H:Hp)(E:XK):Cx:=
 {Z2 t2 P w K z base N qual scope f cd A outer s H E with calm:=eF,xe:=λ_ _=>False}
section
variable{P:i8}{w:i5}{K:Bo}{mg:MJ}{base:ia}
theorem Kw{N ps:List Str}{qual:Str}{scope:i7}{f:eH}{cd:eM}{A:l9}{outer:List mr}{s L:hA}{H:Hp}{E:XK}{J:List eM}{vs:List V}
 (S:E7 N ps scope) (O:Dc P w K mg base A outer s H) (U:vs.length=ps.length) (r:i0 vs J)
 (x:InCallC s s.heap.objs.size (DR (F5 qual scope s.heap.objs.size f cd).kindOf (ps.zip J) λ_=>cS) (t8 (s.heap.objs.size+1) scope.names []) (DQ (F5 qual scope s.heap.objs.size f cd).kindOf (ps.zip J) λ_=>cS) L) :
 Inv (IL P w K mg base N qual scope f cd A outer s H E) [] (yA N vs) H L:=by
 have a:Dc P w K mg base {A with handled:=cS} outer s H:=⟨O.frames,O.mod,O.bs,O.B1,O.rk,O.B4,O.ij,O.bare⟩;have I:=JB (CX:=t2) (E:=E) (qual:=qual) (f:=f) (cd:=cd) S rfl a U r x;exact⟨⟨I.ok.mod,I.ok.kind,I.ok.glob,I.ok.blt,I.ok.above,I.ok.inj,I.ok.has,I.ok.D7,(λz=>nomatch z),Around.frames_deeper O.frames,I.ok.Dk,I.ok.F7,I.ok.bs,I.ok.B1,I.ok.E5,I.ok.D9,I.ok.rk,I.ok.B4⟩,I.os,I.bare,I.base,I.loc,I.cell,I.free,I.wh,I.pin,I.ij,I.len⟩
theorem AS{x:Str}{st:l0}{N ps:List Str}{k:Nat}{F:CO Fl}(A:ie K mg x st ps)(hd:ZO N ps st=d6)
 (a9 : ∀X:Cx,X.prog=P->X.w=w->X.K=K->X.mg=mg->X.base=base->SW X (zB st) N N k->X.xe=(λ_ _=>False)->XO X (jN st) F) :
 HQ P w K mg base (k+1) x ps.length (jg N.length F):=by
 obtain⟨f,fd,p,hb,hm⟩:=A.ex;have S:=kA hd;refine⟨f,fd,ps,rfl,?_,hm,p.kp,.all hb⟩;obtain⟨oc,od,kV,doc,pm,an,h,ct,G5,rfl,lk,ac⟩:=p.ex;intro A a s H L us T Q E j O ae r C;have hl:=u5.len (K:=K) (ps:=ps) rfl _ _ _ _ C;have B:K.In s.heap:=O.mod.DB.keeps λb o e=>(O.bs b o e).1;have lim:s.heap.NoLimit:=O.mod.nolimit.keeps λb o e=>(O.bs b o e).1;have am : ∀y∈ps.zip us,(zB st).names.lookup y.1=cI .local\/((zB st).names.lookup y.1=cI .cell/\((t8 (s.heap.objs.size+1) (zB st).names []).lookup y.1).isSome=d6):=λy hy=>by
  obtain⟨n,v⟩:=y;rcases S.par n (GJ hy).1 with q | q
  ·exact .inl q
  ·exact .inr ⟨q,EV _ _ _<|.inl q⟩
 refine codeAny_call_function (by have:=j.dp;omega) (B _ _ lk) rfl S.co S.gen rfl (PySem.W.codeRec_of B ac)<|ae _ _ _ _ ?_;refine wpAny_newFunctionEnv_cells S.kind am λenv he R Z=>?_;subst he;refine⟨lim.keeps Z.toInCall.keep,codeAny_func ?_⟩;have I:Inv (IL P w K mg base N x (zB st) f h A a s H E) [] (yA N T) H R:=Kw S O hl r Z;have hB:=a9 (IL P w K mg base N x (zB st) f h A a s H E) rfl rfl rfl rfl rfl ⟨rfl,rfl,S.nd,by have:=j.dp;show A.depth+1+3*k+5<_;omega,by have:=j.un;show A.units+3+16*k+200<_;omega,λ_ _=> .inl rfl⟩ rfl;obtain⟨t,ds,r0,s0,h1,h2,h3,M⟩:=C;obtain⟨U,e1,Y⟩:=zc h3;have bd:ps.length<=N.length:=by have:=congrArg List.length S.pre;rw[EG]at this;omega
 refine BN (hB [] R (yA N T) H {nx:=λ_ g=>Q .i3 g,rt:=Q} I ⟨t,H,t,je N.length ds,U,Zt s0 h1 ⋯,e1,?_⟩) (λU m z=>?_) λe m z=>z.elim
 ·cases U with
  | ret r'=>cases Y;cases r0<;>exact M
  | next γ=>cases Y;exact λd g i rs=>M .i3 g i rs.ext (show V.i3 = .i3 from rfl)
  | brk γ=>cases Y
  | cont γ=>cases Y
 ·have G : ∀{d:St} {g:Hp} {v:V} {u:eM},Inv (IL P w K mg base N x (zB st) f h A a s H E) [] d g m->RelV v u->Q v g->CE a P w H s Q u m:=
   λ{d g v u} J l q=>⟨v,g,J.os,J.bare,J.base,J.ij,l,q⟩
  cases U with
  | ret u=>
   obtain⟨v,d,g,J,l,q⟩:=z;exact G J l q
  | next=>
   obtain⟨d,g,J,q⟩:=z;exact G (v:=V.i3) (u:=Cy) J rfl q
  | brk=>obtain⟨_,_,_,q⟩:=z;exact CM q
  | cont=>obtain⟨_,_,_,q⟩:=z;exact CM q
end
section
variable{X:Cx}{sc:i7}{N L:List Str}{k j n:Nat}{e:hI}{es:List hI}{g:CO (List D)}{F:List D->Option Res}{x:Str}{p pos:ik}
theorem eE(hf:HQ X.prog X.w X.K X.mg X.base j x n F)(hj:j<=k)(h:SW X sc N L k)(c:qR sc x=d6)(J:y8 X (e::es) n g)
 (he:iv (e::es) X.env=(eF,hM e X.env)::iv es X.env:=by rfl) (a9:(o8 pos<|starEach es X.env).any (·.1)=eF:=by rfl):PV X (.Call (.Name x p) (e::es) [] pos) (zq F g):=by
 obtain⟨fa,fd,C,hn,run,hm,hk,hb⟩:=hf.ex;subst hn;intro l s σ H Q I Y;obtain⟨P,M,d,rc,z,q⟩:=Y;obtain⟨i,B,z⟩:=zc z;obtain⟨r,e2,z⟩:=zr z;refine CI<|xw I (h.gl c).1 hm ?_ (h.gl c).2.2;refine FU (h₀:=X.base) I.ok.mod.DB hk (ih (J.1 pos l s σ H (λf o=>∃t,Ext P H t o/\gE X.K t i f) I ⟨P,M,i,rc,B,λf m b x r=>⟨b,x,r⟩⟩) λy s1 Y=>⟨by obtain⟨_,_,O,_⟩:=Y;exact O.l7,?_⟩) he a9;obtain⟨f,o,O,Z,t,x1,W⟩:=Y;have ae:f.length=C.length:=by rw[W.length];exact J.2 M i B
 have hl:y.length=C.length:=by rw[<- Z.length];exact ae
 have sp:u5 X.K C.length F f o Q (λ_ _ _=>False):=by
  refine⟨t,i,r,x1.sub,W,J.2 M i B,e2,?_⟩;subst z;cases r with
  | val d=>exact λv m b G E=>q v m b (x1.trans G) E
  | own fs=>
   refine λa xs m b G h1 T h3 E=>q _ m _ (x1.trans<|G.show h1 T h3 x1.sub) ?_;exact(show ∃R S,V.ref a = .ref R/\kv X.K _ R S/\gE X.K _ fs S from⟨a,xs,rfl,kv.of zu,E.mono<|ja T _⟩)
 refine FN<|FQ (run X.A X.stack s1 o ⟨y,[]⟩ y f Q (λ_ _ _=>False) ⟨by have:=h.dp;omega,by have:=h.un;omega⟩ O.IM (by simpa using hb s1 y O.l7 (by simpa using hl)) Z sp) λrr s' U=>?_;cases rr with
 | error e=>exact CM U
 | ok fl=>
  cases fl with
  | ret u=>exact O.after U
  | next=>exact CM U
  | brk=>exact CM U
  | cont=>exact CM U
end
def de:Xn->CO Fl:=λ_ _=>cS
noncomputable def JE(c:Str)(z:Nat)(S:CO Fl)(I:Xn->CO Fl):Xn->CO Fl:=λa d=>if a.1=c then (S<|d.set z<|.val<|.exc a.1 a.2).bind λO=>match O with
 | .next b=>cI (.next<|b.set z .no)
 | _=>cS
 else I a d
noncomputable def X5(F:List D->Option Res)(G:List D->Option Xn)(g:CO (List D))(z:Xn->CO Fl):CO Fl:=λa=>(g a).bind λb=>match G b with
 | some c=>z c a
 | none=>(F b).map λ_=> .next a
noncomputable def ML(K:Bo)(c:Str):Bool:=match xV K c with
 | some C=>EU K (.ref C)==cI (.type "type") && CB K C (.type "BaseException")==cI d6 && (EF K C).isSome && o5.all λa=>match xV K a with
  | some b=>CB K b (.ref C)==cI (a==c)
  | none=>d6
 | none=>eF
structure XH(K:Bo)(mg:MJ)(c:Str):Prop where
 ex : ∃C,xV K c=cI C/\mg c=cI (.ref C)/\EU K (.ref C)=cI (.type "type")/\CB K C (.type "BaseException")=cI d6/\(EF K C).isSome=d6/\∀c2 C2,c2∈o5->xV K c2=cI C2->CB K C2 (.ref C)=cI (c2==c)
theorem Ag{K:Bo}{H:MJ}{h:ia}{c:Str}(I:K.In h)(G:h.Ns p9 H)(e:ML K c=d6):XH K H c:=by
 unfold ML at e;split at e
 ·rename_i C z
  simp only[Bt,beq_iff_eq,Ea]at e;obtain⟨⟨⟨b,O⟩,U⟩,Y⟩:=e;refine⟨C,z,Xj I G z,b,O,U,λa g f d=>?_⟩;have:=Y a f;rw[d]at this;simpa using this
 ·cases e
theorem KA{M:Model}{h:ia}{K:Bo}{a C S:eH}{b:Bool}(X:K.In h)(I:KS h a C)(H:EU K (.ref S)=cI (.type "type"))(J:CB K S (.type "BaseException")=cI d6)(L:(EF K S).isSome=d6)(Z:CB K C (.ref S)=cI b) :
 Lc M h (excMatches (.ref a)<|.ref S) b:=by
 have g:=ym (M:=M) I;have i:=PySem.W.looks_typeIn (M:=M) X H;have j:=PySem.W.looks_mroIn (M:=M) X J;have l:Lc M h (isType<|.ref S) d6:=by
  obtain⟨y,z⟩:=Ec.mp L;unfold EF at z;split at z
  ·rename_i x B u w o
   intro p t r P k q;unfold isType loadHead;exact Bp<|wpAny_loadPart (k _ _<|X _ _ o)<|Bv q
  ·cases z
 have m:=PySem.W.looks_mroIn (M:=M) X Z;have n:Lc M h (isSubtype (.type "type") (.type "tuple")) eF:= .of_pure tc_notTuple;intro A Q E s k q;obtain⟨G,g0,F,t0,N⟩:=s;have O:=g.keeps k;have U:=i.keeps k;have Y:=j.keeps k;have d:=l.keeps k;have e:=m.keeps k;have f:=n.keeps k;unfold excMatches isExcClass isInstance;cases b with
 | true=>
  repeat (first | with_reducible refine U.at ?_ | with_reducible refine f.at ?_ | with_reducible refine d.at ?_ | with_reducible refine Y.at ?_ | with_reducible refine O.at ?_ | with_reducible refine e.at ?_ | wp_step)
  exact q
 | false=>
  repeat (first | with_reducible refine U.at ?_ | with_reducible refine f.at ?_ | with_reducible refine d.at ?_ | with_reducible refine Y.at ?_ | with_reducible refine O.at ?_ | with_reducible refine e.at ?_ | wp_step)
  exact q
structure L0(X:Cx)(pins:MW)(σ:St)(H0 H:Hp)(cc:Xn)(a:eH)(s:hA):Prop where
 ex : ∃H' t5 C φ,L2.Inv X pins σ (upd H' a<|.ext φ) s/\Ext H0 H t5 H'/\H' a=cS/\wA X.K=d6/\cc.1∈o5/\xV X.K cc.1=cI C/\Rep X.K (upd t5 a<|.ext φ) (.exc cc.1 cc.2) (.ref a)/\KS s.heap a C
 go : ∀{A:l9} {E:MQ} {Q:Unit->hA->Prop},(∀s',(∃H' t5 C φ,L2.Inv X pins σ (upd H' a<|.ext φ) s'/\Ext H0 H t5 H'/\H' a=cS/\wA X.K=d6/\cc.1∈o5/\xV X.K cc.1=cI C/\Rep X.K (upd t5 a<|.ext φ) (.exc cc.1 cc.2) (.ref a)/\KS s'.heap a C)->Q () s')->wpAny (hH X.prog X.w) A (setFlight (.ref a) cS) Q E s
section
variable{X:Cx}{sc:i7}{N L:List Str}{k:Nat}
theorem fV{J:MW}{σ:St}{H H0:Hp}{Z:Xn}{ev:eM}{s':hA}{Q:Flow->hA->Prop}{E:MQ}{t:Sem Flow}(a3:X.stack=X.env::X.outer/\X.env.frame=cI X.env.locals)(lf:Aa X J σ H0 H Z ev s')
 (h : ∀a s,ev = .ref a->L0 X J σ H0 H Z a s->wpAny (hH X.prog X.w) X.A t Q E s) :
 wpAny (hH X.prog X.w) X.A (noteFrame ev X.env) (λ_ s2=>wpAny (hH X.prog X.w) X.A (setFlight ev cS) (λ_ s3=>wpAny (hH X.prog X.w) X.A t Q E s3) E s2) E s':=by
 obtain⟨H1,co,s1,p,x1,a,C,l,od,rfl,⟨U,j,eC,xa,xm,xc,G,x2⟩,bg,bi,bl,un,y,Y,bn,⟨B,t',R,bv,ac⟩⟩:=lf;obtain rfl:U=C:=(BU.inj eC).symm;have c0:X.A.frames=cI (X.env::X.outer):=by rw[<- a3.1];exact p.ok.frames
 rw[a3.1]at R;have ae : ∀O:ia,EH B (X.env::X.outer) a (.ref U) (.ref t') O->s'.heap.UpToSlots O->u7 od a O->∃l j C φ,L2.Inv X J σ (upd l a<|.ext φ) {s' with heap:=O}/\Ext H0 H j l/\l a=cS/\wA X.K=d6/\Z.1∈o5/\xV X.K Z.1=cI C/\Rep X.K (upd j a<|.ext φ) (.exc Z.1 Z.2) (.ref a)/\KS O a C:=λO f sm dk=>by
  have obj:KS O a U:=by obtain⟨oe,m,_,_,_,e1,⟨e2,_⟩,e3,_⟩:=f.2.2.2;exact⟨oe,m,e1,e2,e3⟩
  have ne : ∀b o,s1.heap.get? b=cI o->b≠a:=λb o q z=>by rw[z,bn]at q;cases q
  have L : ∀b,b∈n5 X.stack->∃o,s1.heap.get? b=cI o/\(∀m,o.data ≠ .fields m)/\∃F,O.get? b=cI {o with slots:=F}:=λb I=>by obtain⟨_,o,q,W⟩:=p.stack.mem I;obtain⟨F,z⟩:=un.slot b o q (p.G8 b I) I ⋯;obtain⟨c6,z'⟩:=sm b _ z W;exact⟨o,q,W,c6,z'⟩
  refine⟨l,j,U,λg=>KS g a U/\u7 od a g,p.Mc (s':={s' with heap:=O}) (ch:=[]) bi ⟨λb o q n I _=>?_,λb o q n I _=>?_,λb o q n _=>?_,λb o q _=>?_,λb xs q=>?_,λb o u q=>?_,λb ps q=>?_⟩ ?_ bl (λ_ z=>nomatch z),x1.trans x2,Y,xa,xm,xc,?_,obj⟩
  ·exact f.1 b o<|ac b o (un.keep b o q n I ⋯) (by rw[q];simp) I
  ·obtain⟨k,q',_,z⟩:=L b I
   rw[q]at q';cases q';exact z
  ·rw[zt (ne b o q)];exact un.free b o q n ⋯
  ·by_cases I:b∈n5 X.stack
   ·obtain⟨k,_,_,F,z⟩:=L b I
    exact⟨_,z⟩
   ·obtain⟨k,z⟩:=un.there b o q ⋯
    exact⟨k,f.1 b k<|ac b k z (by rw[q];simp) I⟩
  ·have z:=un.xC b xs q
   rw[zt (zI z Y)];exact z
  ·have z:=un.vr b o u q
   rw[zt (zI z Y)];exact z
  ·obtain⟨more,z⟩:=un.xg b ps q
   exact⟨more,by rw[zt (zI z Y)];exact z⟩
  ·refine gw (xS y λb u n q=>f.1 b u<|bv b u q n) Y ⟨obj,dk⟩ ?_ ?_
   ·obtain⟨o,_,e,_⟩:=obj;exact⟨o,e⟩
   ·rintro g1 g2 ⟨⟨o,m,e,r⟩,c8⟩ T
    exact⟨⟨o,m,T o e,r⟩,λd q=>by obtain⟨k,e',r'⟩:=c8 d q;exact⟨k,T k e',r'⟩⟩
  ·refine(show ∃b,V.ref a = .ref b/\vv X.K _ Z.1 Z.2 b from⟨a,rfl,xa,xm,U,_,xc,zu,λ_ z=>z.1,?_⟩)
   unfold Ju at G;cases hc:Z.2 with
   | none=>trivial
   | some i=>
    rw[hc]at G;obtain⟨d,ca,x⟩:=G;have cb:d≠a:=λq=>by rw[q,x2.sub.free Y]at x;cases x
    exact⟨d,λg z=>z.2 d ca,by rw[zt cb];exact x⟩
 refine mK c0 a3.2 R bg λh4 ce M cf=>?_;refine mM ce cf λS as N P=>?_;refine h a _ rfl ⟨ae S as (M.trans N) P,λ{A E Q} q=>?_⟩;exact nO (s:={s' with heap:=S}) as P λh6 cl cm cn=>q _<|ae h6 cl ((M.trans N).trans cm) cn
noncomputable def HB(X:Cx)(U:List ExceptHandler)(Y:Xn->CO Fl):Prop:=∀(b:MW) (g:St) (d H z I:Hp) (e:Xn) (a:eH) (s:hA) (f:Ctx) (O:Fl) (D:Ends),RS X.K z I d H g f->L0 X b g d H e a s->Y e f=cI O->Sat X.K z I D O->
 wpAny (hH X.prog X.w) X.A (handleBy (.ref a) X.env U) (SP X b D) X.xe s
theorem bw{z:List ExceptHandler}:HB X z de:=λ_ _ _ _ _ _ _ _ _ _ _ _ _ _ e=>by cases e
theorem Qy{O nx:Str}{np as:ik}{b0:l0}{J:List l0}{rest:List ExceptHandler}{S:CO Fl}{Z:Xn->CO Fl}(U:Nat)(h:SX X sc N L k)(x:XH X.K X.mg O)(hg:qR sc O=d6)(cn:xD sc N L U nx=d6)(cl:decide (sc.names.lookup nx=cI .local)=d6)
 (hb : ∀e,SW (E4 X e) sc N L k->XO (E4 X e) (b0::J) S) (hr:HB X rest Z):HB X (.ExceptHandler (cI (.Name O np)) (cI nx) (b0::J) as::rest) (JE O U S Z):=by
 intro b M R H l m d a s γ fl D E p e y;obtain⟨Q,n,C,P,I,t,A,xa,G,F,rep,obj⟩:=p.ex;obtain⟨C1,x1,x2,x3,x4,x5,x6⟩:=x.ex;have w:=VL I<|.ref a;refine wpAny_handleBy_cons (codeAny_handlers_test<|xw (X:=E4 X<|.ref a) w (show Gl X _ from(h.gl hg).1) x2 ?_ (h.gl hg).2.2) (by intro q;cases q);refine(KA w.l7 obj x3 x4 x5<|x6 d.1 C G F) _ _ _ _ (λ_ _ z=>z) ?_;unfold JE at e;by_cases Y:d.1=O
 ·rw[MY Y]at e
  rw[show(d.1==O)=d6 by rw[Y];exact beq_self_eq_true _];obtain⟨f1,eS,e⟩:=zc e;cases f1 with
  | next g=>
   cases e;obtain⟨B,n2,n3⟩:=h.loc cn;refine codeAny_handlers_suite_as<|p.go λs6 c5=>?_;obtain⟨Q,n,C,P,I,t,A,xa,G,F,rep,obj⟩:=c5;have T:=VL I<|.ref a;refine Zr (X:=E4 X<|.ref a) (v:= .ref a) T (show X.N.Nodup from h.G4) B n2 rfl (λs7 W=>?_) n3;have xt:=t.trans<|Ext.alloc t.sub A<|.ext P;have r1:=(E.step xt).C7 (i:=U) rep;have hw:SW (E4 X<|.ref a) sc N L k:=⟨h.t9,h.eN,h.nd,h.room.dp,h.room.un,h.fn⟩;have run:=hb (.ref a) hw b s7 (M.set U<|some (.ref a)) _ {nx:=λj u=>∃r,RS X.K l m r u j g,rt:=λ_ _=>False} W ⟨l,m,_,_,.next g,r1,eS,λj u r rr=>⟨r,rr⟩⟩;refine BN run (λf s8 z=>?_) λ_ _ z=>z.elim;cases f with
   | next=>
    obtain⟨N5,H8,o,cr,r8⟩:=z;have o:=VJ I.ok o;refine Vq o h.G4 B (by rw[h.t9];exact of_decide_eq_true cl) λs9 I9=>⟨_,_,I9,?_⟩;exact y _ _ _<|r8.forget (i:=U) (v:=cS)
   | ret v=>obtain⟨_,_,_,_,_,z⟩:=z;exact z.elim
   | brk=>obtain⟨_,_,_,z⟩:=z;exact z.elim
   | cont=>obtain⟨_,_,_,z⟩:=z;exact z.elim
  | _=>cases e
 ·rw[RQ Y]at e
  rw[show(d.1==O)=eF by simpa using Y];exact hr b M R H l m d a s γ fl D E p e y
theorem av{fx:Str}{fp cpos J xr:ik}{n j1 j2:Nat}{e:hI}{Z:List hI}{g:CO (List D)}{F:List D->Option Res}{G:List D->Option Xn}{hd:ExceptHandler}{hs:List ExceptHandler}{Y:Xn->CO Fl}(h:SX X sc N L k)(ag:X.stack=X.env::X.outer/\X.env.frame=cI X.env.locals)
 (cf:qR sc fx=d6) (hf:fh X.prog X.w X.K X.mg X.base j1 fx n F) (hx:n0 X.prog X.w X.K X.mg X.base j2 fx n G) (an:j1<=k) (ap:j2<=k) (ha:y8 X.o9 (e::Z) n g) (hh:HB X (hd::hs) Y)
 (he:iv (e::Z) X.env=(eF,hM e X.env)::iv Z X.env:=by rfl) (a7:(o8 cpos<|starEach Z X.env).any (·.1)=eF:=by rfl)
 (a8:vt (.Call (.Name fx fp) (e::Z) [] cpos) cS J.line X.env=pure eF:=by rfl) :
 o7 X (.Try [.Expr (.Call (.Name fx fp) (e::Z) [] cpos) J] (hd::hs) [] [] xr) (X5 F G g Y):=by
 intro b s t H D I M;obtain⟨i,j,l,d,U,f,O,m⟩:=M;obtain⟨y,p,O⟩:=zc O;refine wpAny_Try_except ?_;cases q:G y with
 | some o=>
  rw[q]at O;have O:Y o d=cI U:=O;refine FY<|Hq (BN (VY hx ap h cf ha I f.rc p q he a7) (λ_ _ z=>z.elim) λev Q z=>?_) I.quiet a8;refine fV ag z λa P C u=>?_;subst C;exact hh b t l H i j o a P d U D f u O m
 | none=>
  rw[q]at O;obtain⟨r,B,O⟩:=zr O;subst O;have E:=h.m6 λ_ _=>False;have x:o7 X.o9 (.Expr (.Call (.Name fx fp) (e::Z) [] cpos) J) (wq<|zq F g):=xQ (lJ (X:=X.o9) hf an E cf ha he a7) a8;have A:wq (zq F g) d=cI (.next d):=by unfold wq zq;rw[p];simp only[Bw];rw[B];rfl
  refine BN (zh x b s t H D (I.m6 _) ⟨i,j,l,d,_,f,A,m⟩) (λU R z=>?_) λ_ _ z=>z.elim;have z:=z.u6;cases U with
  | next=>exact GZ z
  | ret v=>exact z
  | brk=>exact z
  | cont=>exact z
end
abbrev L7:=Ctx->List Int->List D->Option (Ctx×List Int×List D)
noncomputable def uq(F G:L7):L7:=λd a b=>(F d a b).bind λr=>G r.1 r.2.1 r.2.2
def DD(e:hI):Str:=match e with | .Name x _=>x | _=>""
noncomputable def Dl(e:hI):List Str:=match e with | .Tuple a _ _=>a.map DD | e=>[DD e]
noncomputable def DV(N:List Str)(fs:List Nat):List (Str×Nat):=fs.map λi=>(N.getD i "",i)
theorem ZK(N:List Str)(fs:List Nat):(DV N fs).map (·.2)=fs:=by unfold DV;rw[Ft];exact List.map_id fs
def cX(e:hI):Bool:=match e with | .Name _ _=>d6 | _=>eF
theorem Km{e:hI}(h:cX e=d6) : ∃p,e = .Name (DD e) p:=by
 unfold cX at h;split at h
 ·exact⟨_,rfl⟩
 ·cases h
noncomputable def tX(z:i7)(N L:List Str)(is:List Nat)(H:List hI):Bool:=match is with
 | [i,j]=>(match H with | [a,b]=>cX a && (xD z N L i (DD a) && (cX b && xD z N L j (DD b))) | _=>eF)
 | [i,j,l]=>(match H with | [a,b,c]=>cX a && (xD z N L i (DD a) && (cX b && (xD z N L j (DD b) && (cX c && xD z N L l (DD c))))) | _=>eF)
 | _=>eF
noncomputable def Ir(z:i7)(N L:List Str)(e:hI)(T:Tg):Bool:=match T with
 | .nm i=>cX e && xD z N L i (DD e)
 | .tp is=>(match e with | .Tuple a _ _=>tX z N L is a | _=>eF)
theorem dC{X:Cx}{H:i7}{N L:List Str}{k:Nat}(h:SX X H N L k){e:hI}{T:Tg}(c:Ir H N L e T=d6):PG X e (wy X.K T):=by
 cases T with
 | nm i=>
  have c:=Bool.and_eq_true_iff.mp c;obtain⟨p,q⟩:=Km c.1;rw[q];exact h.Hr _ c.2
 | tp is=>
  unfold Ir at c;dsimp only at c;split at c
  ·next d j pos=>
   unfold tX at c;split at c
   ·split at c
    ·simp only[Bt]at c
     obtain⟨z,I,b1,b2⟩:=c;obtain⟨p,q⟩:=Km z;obtain⟨b,O⟩:=Km b1;rw[q,O];exact h.MB<|yd (h.Hr _ I)<|yd (h.Hr _ b2) Y5
    ·cases c
   ·split at c
    ·simp only[Bt]at c
     obtain⟨z,I,b1,b2,U,a⟩:=c;obtain⟨p,q⟩:=Km z;obtain⟨b,O⟩:=Km b1;obtain⟨f,Y⟩:=Km U;rw[q,O,Y];exact h.MB<|yd (h.Hr _ I)<|yd (h.Hr _ b2)<|yd (h.Hr _ a) Y5
    ·cases c
   ·cases c
  ·cases c
noncomputable def cB(H scope:i7)(N:List Str)(z:hI)(T:Tg)(n:Nat)(fs:List Nat):Bool:=
 QD H scope N (DV N fs) && (pT (Dl z) scope (DV N fs) && (decide (∀i∈T.idx,i<(Dl z).length) && (decide ((Dl z).length=n) && Ir (xO scope H) (Dl z++(DV N fs).map (·.1)) (Dl z) z T)))
abbrev DT(X:Cx)(scope:i7)(N:List Str)(tg:hI)(fs:List Nat):=z6 X scope (Dl tg++(DV N fs).map (·.1))
abbrev SA(X:Cx)(sc scope:i7)(N:List Str)(tg:hI)(fs:List Nat)(k:Nat)(fp:List eH)(s2:hA)(H2:Hp):Prop:=SX (DT X scope N tg fs fp s2 H2) (xO scope sc) (Dl tg++(DV N fs).map (·.1)) (Dl tg) k
section
variable{X:Cx}{sc scope:i7}{N L:List Str}{k n i:Nat}{fs:List Nat}{T:Tg}{e elt tg iter F2:hI}{es:List hI}{pos p py spos cpos:ik}{x y:Str}{f g:CO D}{fo:CO (List D)}{src gl:CO (List D)}{kk:CO Bool}
theorem cA(h:SX X sc N L k)(c:cB sc scope N tg T n fs=d6):y6 X scope (DV N fs)/\(∀i∈T.idx,i<(Dl tg).length)/\(Dl tg).length=n/\(∀fp I H,SA X sc scope N tg fs k fp I H)/\∀fp I H,PG (DT X scope N tg fs fp I H) tg (wy X.K T):=by unfold cB at c;simp only[Bt,decide_eq_true_eq]at c;obtain⟨z,a,b,d,e⟩:=c;have s : ∀fp I H,SA X sc scope N tg fs k fp I H:=λfp I H=>h.comp a;exact⟨h.M6 z,b,d,s,λfp I H=>dC (s fp I H) e⟩
theorem kJ(h:SX X sc N L k)(O:A9 X tg iter src)(z : ∀fp J H,SA X sc scope N tg fs k fp J H->PV (DT X scope N tg fs fp J H) elt f)(c:cB sc scope N tg T n fs=d6:=by decide +kernel)(I : ∀x,vp iter X.env x=pure x:=by intro _;rfl) :
 PO X (.ListComp elt [⟨tg,iter,[],0⟩] scope pos) (zN src T n fs jX f):=by
 obtain⟨a,b,d,s,q⟩:=cA h c;have r:=fe (pos:=pos) h.calm a b O q (λfp J H=>z fp J H<|s fp J H) I;rw[d,ZK]at r;exact r
theorem Y0(h:SX X sc N L k)(O:A9 X tg iter src)(Y : ∀fp J H,SA X sc scope N tg fs k fp J H->o4 (DT X scope N tg fs fp J H) F2 kk)(z : ∀fp J H,SA X sc scope N tg fs k fp J H->PV (DT X scope N tg fs fp J H) elt f)(c:cB sc scope N tg T n fs=d6:=by decide +kernel)(I : ∀x,vp iter X.env x=pure x:=by intro _;rfl) :
 PO X (.ListComp elt [⟨tg,iter,[F2],0⟩] scope pos) (zN src T n fs kk f):=by
 obtain⟨a,b,d,s,q⟩:=cA h c;have r:=Y1 (pos:=pos) h.calm a b O q (λfp J H=>Y fp J H<|s fp J H) (λfp J H=>z fp J H<|s fp J H) I;rw[d,ZK]at r;exact r
theorem wt(h:SX X sc N L k)(O:A9 X tg iter src)(z : ∀fp J H,SA X sc scope N tg fs k fp J H->PV (DT X scope N tg fs fp J H) elt f)(ct:xD sc N L i y=d6:=by decide +kernel)(c:cB sc scope N tg T n fs=d6:=by decide +kernel)(I : ∀x,vp iter X.env x=pure x:=by intro _;rfl) :
 PS X (.Assign [.Name y py] (.ListComp elt [⟨tg,iter,[],0⟩] scope cpos) spos) (QW (tO X.K<|zN src T n fs jX f)<|ke i):=by
 obtain⟨a,b,d,s,q⟩:=cA h c;have r:=NA (cpos:=cpos) (spos:=spos) (py:=py) i h ct h.calm a b O q (λfp J H=>z fp J H<|s fp J H) I;rw[d,ZK]at r;exact r
theorem aA(h:SX X sc N L k)(O:A9 X tg iter src)(Y : ∀fp J H,SA X sc scope N tg fs k fp J H->o4 (DT X scope N tg fs fp J H) F2 kk)(z : ∀fp J H,SA X sc scope N tg fs k fp J H->PV (DT X scope N tg fs fp J H) elt f)(ct:xD sc N L i y=d6:=by decide +kernel)(c:cB sc scope N tg T n fs=d6:=by decide +kernel)(I : ∀x,vp iter X.env x=pure x:=by intro _;rfl) :
 PS X (.Assign [.Name y py] (.ListComp elt [⟨tg,iter,[F2],0⟩] scope cpos) spos) (QW (tO X.K<|zN src T n fs kk f)<|ke i):=by
 obtain⟨a,b,d,s,q⟩:=cA h c;have r:=rH (cpos:=cpos) (spos:=spos) (py:=py) i h ct h.calm a b O q (λfp J H=>Y fp J H<|s fp J H) (λfp J H=>z fp J H<|s fp J H) I;rw[d,ZK]at r;exact r
theorem zk(h:SX X sc N L k)(c:yz sc N i x=d6:=by decide +kernel):PV X (.Name x pos) (zf i):=jL i<|h.var c
theorem z9(h:SX X sc N L k)(c:yz sc N i x=d6:=by decide +kernel):PQ X (.Name x pos) (zl i):=lR i<|h.var c
theorem tY(h:SX X sc N L k)(c:Ir sc N L e T=d6:=by decide +kernel):PG X e (wy X.K T):=dC h c
theorem jb(h:SX X sc N L k)(z:PV X e f)(c:xD sc N L i x=d6:=by decide +kernel)(I:vt e (cI (.Name x py)) pos.line X.env=pure eF:=by rfl):o7 X (.Assign [.Name x py] e pos) (jn i f):=xP i<|h.set i c z I
theorem wQ(h:SX X sc N L k)(z:PO X e fo)(c:xD sc N L i x=d6:=by decide +kernel)(I:vt e (cI (.Name x py)) pos.line X.env=pure eF:=by rfl):o7 X (.Assign [.Name x py] e pos) (k7 i fo):=Zy i<|h.set i c z I
theorem kM{H:List l0}{F:CO Fl}(z:X.xe=λ_ _=>False)(h:SX X sc N L k)(J:ov X tg iter src)(I:XO X H F)(c:Ir sc N L tg T=d6:=by decide +kernel)(O : ∀x,vp iter X.env x=pure x:=by intro _;rfl):o7 X (.For tg iter H [] pos) (Jg src T F):=eV (mj z) h.calm J (dC h c) I O
variable{j:Nat}{F:List D->Option Res}
theorem zH(J:fh X.prog X.w X.K X.mg X.base j x n F)(h:SX X sc N L k)(H:y8 X (e::es) n gl)(z:j<=k:=by decide)(c:qR sc x=d6:=by decide +kernel)
 (I:iv (e::es) X.env=(eF,hM e X.env)::iv es X.env:=by rfl) (O:(o8 pos<|starEach es X.env).any (·.1)=eF:=by rfl):PV X (.Call (.Name x p) (e::es) [] pos) (zq F gl):=lJ J z h c H I O
theorem yc(J:fh X.prog X.w X.K X.mg X.base j x n F)(h:SX X sc N L k)(H:y8 X (e::es) n gl)(z:j<=k:=by decide)(c:qR sc x=d6:=by decide +kernel)
 (I:iv (e::es) X.env=(eF,hM e X.env)::iv es X.env:=by rfl) (O:(o8 pos<|starEach es X.env).any (·.1)=eF:=by rfl):PO X (.Call (.Name x p) (e::es) [] pos) (qi F gl):=rK J z h c H I O
end
noncomputable def YG(g:CO (Sk×List D)):CO D:=λd=>(g d).bind λa=>match a.1 with
 | .L=>(yk a.2).bind λb=>b.max?.map D.int
 | .T=>cS
theorem gU(g:CO (Sk×List D))(γ:Ctx):YG g γ=(g γ).bind λks=>match ks.1 with
 | .L=>(yk ks.2).bind λa=>a.max?.map D.int
 | .T=>cS:=rfl
theorem Wl{X:Cx}(L:X.calm=d6):yX X (.builtin "max") (λxs H Q=>∃p J,∃M:Int,xs=[.ref p]/\kv X.K H p ((J:List Int).map V.int)/\M∈J/\(∀a,a∈J->a<=M)/\Q (.int M) H):=by
 intro x s σ H vs us Q I S h;obtain⟨p,J,M,rfl,N,o,F,q⟩:=h;obtain⟨u,rfl,R⟩:=kH S;cases R;obtain⟨z,r,P,f⟩:=I.list N;have Y:=λi v=>wC r i v;have y:AllInts z.toArray:=λv O=>by rw[List.mem_toArray]at O;obtain⟨i,b⟩:=List.getElem?_of_mem O;obtain⟨k,t,_,e⟩:=Y i v b;exact⟨k,t,e⟩
 obtain⟨xs,d⟩:=y.items;have A:=r.length;rw[Cb]at A;have T:xs.size=z.length:=by have:=congrArg Array.size d;simpa[intItems]using this.symm
 have B:0<xs.size:=by have:=List.length_pos_of_mem o;omega
 have w:=P.isList;rw[d]at w;have g : ∀i,i<xs.size->∃b:i<J.length,numAt xs i=J[i]:=λi b=>by
  have l:i<z.length:=by omega
  obtain⟨k,t,m,U⟩:=Y i z[i] (Bx l);have f:i<J.length:=by omega
  rw[Bx f]at m;cases m;refine⟨f,?_⟩;have C:(intItems xs)[i]? = cI z[i]:=by rw[<- d];simp[l]
  obtain⟨t',n⟩:=intItems_at C;rw[U]at n;exact(FR.inj n).1.symm
 refine max_intList (I.ok.hd L) w B λv Z tk O G=>?_;obtain⟨t,rfl⟩:=intItems_at O;obtain⟨b1,b2⟩:=argBest_gt (numAt xs)<|xs.size - 1;obtain⟨b,e⟩:=g (argBest (λi j=>decide<|numAt xs i>numAt xs j)<|xs.size - 1) ⋯;have E:numAt xs (argBest (λi j=>decide<|numAt xs i>numAt xs j)<|xs.size - 1)=M:=by refine Int.le_antisymm (by rw[e];exact F _<|HD b) ?_;obtain⟨j,hj,rfl⟩:=List.getElem_of_mem o;obtain⟨W,U⟩:=g j ⋯;rw[<- U];exact b2 j ⋯
 rw[E];exact⟨.int M,H,I.kept G,⟨_,rfl⟩,q⟩
section
variable{X:Cx}{sc:i7}{N T:List Str}{k:Nat}{e:hI}{fq:CO (Sk×List D)}{p pos:ik}
theorem eK(h:SX X sc N T k)(c:qR sc "max" = d6)(z:X.mg "max" = cS)(U:PQ X e fq)(O:iv [e] X.env=[(eF,hM e X.env)]:=by rfl):PV X (.Call (.Name "max" p) [e] [] pos) (YG fq):=
 jB (xp (Wl h.calm) (h.gl c).1 z PyProof.Rows.boot_max (z7 U jT O) ⋯ ⋯ O rfl) λB H Q Y=>by
  obtain⟨g,w,d,rc,I,q⟩:=Y;obtain⟨⟨o,x⟩,i,I⟩:=zc I;cases o with
  | T=>cases I
  | L=>
   obtain⟨u,j,I⟩:=zc I;obtain⟨M,l,rfl⟩:=zr I;obtain⟨s,t⟩:=List.max?_eq_some_iff.mp l;refine⟨g,w,.L,_,rc,i,λa A f b ext n y r=>?_⟩;have m:=yj r j;subst m;exact⟨a,u,M,rfl,n,s,t,q _ f b ext rfl⟩
end
theorem rE{X:Cx}{L:i7}{N T:List Str}{k:Nat}{a b:hI}{H I:CO D}{pos:ik}(h:SW X L N T k)(J:PV X a H)(z:PV X b I):PV X (.Compare a [.Eq] [b] pos) (zw i9 H I):=cv (Y9 (by have:=h.un;omega)) Qb J z<|Jv b
noncomputable def Zk:=jg 1 (zF (m3 (hJ (xf (sB (DY .str (zf 0)))) (sB (zw Md (Jf (zf 0)) (zm (.int 6))))) (qv (zm (.bl eF))) jK) (qv (et (jj (zN (iZ (zf 0)) (.nm 0) 1 [] jX (Ax (zf 0) (zT (zm (.tup [.str "r",.str "l"])))))))))
noncomputable def yR:=jg 2<|zF (m3 (hJ (xf<|sB<|zq QM<|zb (zf 1)<|zb (zm<|.int 2) zx)<|hJ (xf<|sB<|zq j4<|zb (zf 0)<|zb (gB (zl 1)<|zm<|.int 0) zx)<|xf<|sB<|zq j4<|zb (zf 0)<|zb (gB (zl 1)<|zm<|.int 1) zx) (qv<|zm<|.bl eF) jK)<|qv<|zw A1 (gB (zl 1)<|zm<|.int 0)<|gB (zl 1)<|zm<|.int 1
noncomputable def WH:=jg 2<|wo<|zN (lj<|zf 0) (.tp [0,1]) 2 [1] (sB<|qh A1 A1 (gB (zl 1)<|zm<|.int 0) (zf 2)<|gB (zl 1)<|zm<|.int 1) (zf 0)
noncomputable def QO:=jg 3<|zF (jn 2<|qS<|zN (zQ<|zl 0) (.nm 0) 1 [1] jX (zS<|jj<|zN (zQ<|zl 1) (.nm 0) 1 [0] jX (Z1 (sB<|zw i9 (zf 1)<|zf 0) (zm<|.int 1)<|zm<|.int 0)))<|qv<|k6<|zb (wJ<|zl 0)<|zb (wJ<|zl 1)<|zb (zS<|zl 2) zx
noncomputable def zy:=jg 5<|zF (m3 (YH (sB<|zw B2 (wJ<|zl 0)<|zm<|.int 1)<|sB<|zw i9 (zw kh (gB (zl 0)<|zm<|.int 0)<|zm<|.int 2)<|zm<|.int 1) (zF (jn 2<|gB (zl 0)<|zw qo (zm<|.int 1)<|zw kh (zf 1)<|zw wb (wJ<|zl 0)<|zm<|.int 1)<|zF (Jg (jz<|W8 (zm<|.int 60)<|zw K5 (zf 1)<|zw wb (wJ<|zl 0)<|zm<|.int 1) (.nm 3)<|jn 2<|zw K5 (zf 2)<|zw gF (zm<|.int 10)<|zm<|.int 9)<|qv<|zw kh (zf 2)<|zw gF (zm<|.int 10)<|zm<|.int 9) jK)<|zF (jn 4<|zf 1)<|zF (m3 (sB<|zw B2 (wJ<|zl 0)<|zm<|.int 0) (jn 4<|gB (zl 0)<|zw kh (zf 1)<|wJ<|zl 0) jK)<|qv<|zw kh (zw J5 (zw kh (zw qo (zw qo (zw qo (zw J5 (zw kh (zf 4)<|zw gF (zm<|.int 10)<|zm<|.int 30)<|zm<|.int 48271)<|zw J5 (zw J5 (zm<|.int 7)<|zf 1)<|zf 1)<|zw J5 (zm<|.int 13)<|zf 1)<|zm<|.int 5)<|zm<|.int 2147483647)<|zm<|.int 69621)<|zm<|.int 1000000007
noncomputable def yt:=jg 3<|qv<|zS<|jj<|zN (zQ<|zl 1) (.nm 0) 1 [0,2] jX (zw kh (YC<|jj<|zN (iY (zf 0)<|zf 2) (.tp [0,1]) 2 [] jX (zw J5 (zf 0)<|zf 1))<|zf 1)
noncomputable def jd:=jg 2 (zF (m3 (sB (zw i9 (zf 1) (zm (.str "r")))) (qv (k6 (zb (zf 0) (zb (zw qo (zf 0) (zm (.int 1))) zx)))) jK) (qv (k6 (zb (zw qo (zf 0) (zm (.int 1))) (zb (zf 0) zx)))))
noncomputable def Ji:=(zF (YF (.tp [7,8])<|zq jd<|zb (zf 5)<|zb (zf 6) zx)<|kT 4<|k6<|zb (zf 6)<|zb (k6<|zb (gB (zl 2)<|zf 8)<|zb (gB (zl 2)<|zf 7)<|zb (zS<|jj<|zN (zQ<|zT<|gB (zl 3)<|zf 5) (.nm 0) 1 [] jX (zS<|zl 0)) zx) zx)
noncomputable def qt:=jg 9<|zF (k7 4<|qw zx)<|zF (Jg (yM<|zf 1) (.tp [5,6]) Ji)<|qv<|k6<|zb (zf 0)<|zb (zS<|zl 2)<|zb (zS<|zl 4) zx
noncomputable def j3:=jg 4 (zF (jn 2 (zm (.str ""))) (zF (Jg (jz (zw wb (zf 1) (zm (.int 1)))) (.nm 3) (zF (jn 2 (af (zf 2) (wI (zm (.str "rl")) (zw kh (zf 0) (zm (.int 2)))))) (jn 0 (zw K5 (zf 0) (zm (.int 2)))))) (yU 2)))
noncomputable def vX:=jg 6 (zF (YF (.tp [4,5]) (zf 1)) (zF (m3 (sB (zw i9 (zf 4) (zm (.str "r")))) (qv (zw i9 (zq yt (zb (zf 0) (zb (gB (zl 5) (zm (.int 2))) (zb (zf 2) zx)))) (zf 3))) jK) (qv (zw i9 (zq yt (zb (zf 0) (zb (gB (zl 5) (zm (.int 2))) (zb (zf 3) zx)))) (zf 2)))))
abbrev Dv(k:Sk)(xs:List D):D:=match k with | .T=>D.tup xs | .L=>D.lst xs
@[simp] theorem uC(k xs):jf (Dv k xs)=cI (k,xs):=by cases k<;>rfl
theorem Zj(k:Sk)(f:Nat->Int)(z:0<p)(H:n<=lim) :
 qz [.int p,Dv k (zC n f)]=cI (.val<|.tup<|zC n λi=>f i%p):=by
 simp[qz,jg,je,jx,H,qx];unfold zC;rw[zL (r:=λi=>D.int<|f i%p)]
 ·simp
 ·intro i a
  refine zO rfl rfl ?_;simp[z]
theorem WE(f:Nat->Int)(z:0<p)(H:n<=lim) :
 qz [.int p,.tup (zC n f)]=cI (.val<|.tup<|zC n λi=>f i%p):=Zj .T f z H
theorem J2(f:Nat->Int)(z:0<p)(H:n<=lim) :
 qz [.int p,.lst (zC n f)]=cI (.val<|.tup<|zC n λi=>f i%p):=Zj .L f z H
theorem xK(f:MK)(z:h<=lim)(H:w<=lim):zD [jW h w f]=cI (.val<|jW w h λi j=>f j i):=by
 simp[zD,jg,je,jx,z,H,qx,jW,Bu,jt,qA];rw[jl w λi=>(i:Int)];rw[zL (r:=λj=>D.tup<|zC h λi=>f i j)]
 ·simp
  rfl
 ·intro j I
  refine zO rfl rfl ?_;simp[jx,z,qx];unfold ji;rw[zL (r:=λi=>D.int<|f i j)]
  ·simp
   rfl
  ·intro i b
   refine zO rfl rfl ?_;have a:=BD.mp I;simp[a,j7 _ a]
theorem J1(H:n<=lim):jP [.int n]=cI (.val<|jW n n λi j=>if i=j then 1 else 0):=by
 simp[jP,jg,je,jt,H,jx,qx,Bu,qA];rw[jl n λi=>(i:Int)];rw[zL (r:=λi=>D.tup<|zC n λj=>if i=j then 1 else 0)]
 ·simp
  rfl
 ·intro i a
  refine zO rfl rfl ?_;simp[H,jx,Bu,qA,qx];rw[jl n λi=>(i:Int)];rw[zL (r:=λj=>D.int<|if i=j then 1 else 0)]
  ·simp
   rfl
  ·intro j z
   refine zO rfl rfl ?_;simp;by_cases e:i=j
   ·simp[e]
   ·rw[RQ ⋯,RQ e]
def Xy(z:List Int):D:= .lst (z.map D.int)
mutual
theorem IP : ∀d:D,n9 d d=d6
 | .i3=>rfl
 | .bl b=>by simp[n9]
 | .int i=>by simp[n9]
 | .str x=>by simp[n9]
 | .tup e=>by simp only[n9];exact F6 e
 | .lst e=>by simp only[n9];exact F6 e
 | .exc c n=>by simp[n9]
 | .o1 a b=>by simp only[n9];rw[F6 a,F6 b];rfl
 | .n4 a b=>by simp only[n9];rw[F6 b];simp
 | .ins a b c=>by simp only[n9];rw[IP b,IP c];simp
theorem F6 : ∀z:List D,B3 z z=d6
 | []=>rfl
 | d::z=>by simp only[B3,IP d,F6 z,Bool.and_self]
end
theorem Xz(h:u3 d=d6):i9 d d=cI (.bl d6):=by unfold i9;rw[MY ⟨h,h⟩,IP]
theorem uA(a b c:D):wx [a,b,c] cS (cI 2)=[a,b]:=by simp[wx,ZQ]
def l6(b:Bool):Nat:=if b then 108 else 114
def q9(c:Nat):Str:=⟨#[c]⟩
theorem wW : ∀(l:List Nat),(HJ "" (l.map q9)).cps.toList=l
 | []=>rfl
 | [c]=>rfl
 | c::d::l=>by
  have z:=wW (d::l);show((q9 c++("" : Str))++HJ "" ((d::l).map q9)).cps.toList=_;have e : ∀a b:Str,(a++b).cps.toList=a.cps.toList++b.cps.toList:=λa b=>by show(a.cps++b.cps).toList=_;simp
  rw[e,e,z];rfl
noncomputable def xT(m:Nat)(w:MX):Str:=HJ "" ((Br m).map λk=>q9 (l6 (w k)))
theorem xB(m w):(xT m w).cps.toList=(Br m).map λk=>l6 (w k):=by have:=wW<|(Br m).map λk=>l6<|w k;rw[Ft]at this;exact this
theorem WX(m w):(xT m w).length=m:=by show(xT m w).cps.size=m;rw[<- ET,xB];simp
theorem yx{m:Nat}(w)(z:m<=1000):zY (xT m w)=d6:=decide_eq_true (by rw[WX];exact z)
theorem QY{z:Type}(g:z->Str) : ∀l:List z,Z9 (l.map λx=>D.str<|g x)=cI (l.map g)
 | []=>rfl
 | a::l=>by simp[Z9,QY g l]
noncomputable def nf(w:MX)(wd:MZ)(k:Nat):Nat:=if w k then wd k else wd (k+1)
noncomputable def n6(w:MX)(wd:MZ)(k:Nat):Nat:=if w k then wd (k+1)else wd k
noncomputable def Zf(w:MX)(wd:MZ)(T:MV)(k:Nat):D:= .tup [.str (q9<|l6<|w k),jW (nf w wd k) (n6 w wd k) (T k)]
noncomputable def qf(m:Nat)(w:MX)(wd:MZ)(T:MV):List D:=(Br m).map (Zf w wd T)
noncomputable def xF(p:Int)(m:Nat)(w:MX)(wd:MZ)(T:MV):D:= .tup [.int p,.tup<|zC (m+1) λk=>(wd k:Int),.tup (qf m w wd T)]
@[simp] theorem Wv(m w wd T):(qf m w wd T).length=m:=by simp[qf]
theorem mB(b:Bool):u3 (.str<|q9<|l6 b)=d6:=by cases b<;>decide +kernel
theorem V0(b:Bool):i9 (.str (q9 (l6 b))) (.str "r")=cI (.bl (!b)):=by
 have e : ∀b:Bool,(q9 (l6 b)==(Eh "r")) = !b:=by decide +kernel
 have z:u3 (.str (Eh "r"))=d6:=by decide +kernel
 unfold i9;rw[MY ⟨mB b,z⟩];show cI (D.bl (q9 (l6 b)==Eh "r"))=_;rw[e]
theorem pC:Eh "r" = q9 (l6 eF):=by decide +kernel
theorem pD:Eh "l" = q9 (l6 d6):=by decide +kernel
theorem wz(b:Bool):jQ [.str (q9<|l6 b)]=cI (.val<|.str<|q9<|l6 !b):=by have a:=pC;have z:=pD;have q:=V0 b;rw[a]at q;cases b<;>simp[jQ,jg,je,a,z]at q ⊢ <;> simp[q]
section
variable{p:Int}
noncomputable def vQ(h w:Nat)(f:MK):List D:=(Br h).map λi=>D.lst<|zC w<|f i
@[simp] theorem nt(h w f):(vQ h w f).length=h:=by simp[vQ]
end
theorem jY : ∀{n:Nat},(∀k,k<n->f k=g k)->zz f n=zz g n
 | 0,_=>rfl
 | n+1,h=>by simp only[zz];rw[jY (n:=n) λk a=>h k ⋯,h n ⋯]
theorem jR(n:Nat):zz (λ_=>0) n=0:=by
 induction n with
 | zero=>rfl
 | succ n z=>simp[zz,z]
theorem xE(H:i<n)(h : ∀k,k<n->k≠i->f k=0):zz f n=f i:=by
 induction n with
 | zero=>omega
 | succ n z=>
  simp only[zz];by_cases e:i=n
  ·subst e
   rw[jY (g:=λ_=>0) (λk a=>h k ⋯ ⋯),jR];omega
  ·rw[z ⋯ λk a=>h k ⋯,h n ⋯ ⋯]
   omega
theorem xY(f g:Nat->Int)(n:Nat):zz (λk=>f k+g k) n=zz f n+zz g n:=by
 induction n with
 | zero=>rfl
 | succ n z=>simp only[zz,z];omega
theorem wF(f:Nat->Int)(c:Int)(n:Nat):zz (λk=>c*f k) n=c*zz f n:=by
 induction n with
 | zero=>simp[zz]
 | succ n z=>simp only[zz,z,Int.mul_add]
theorem X4(f:MK)(n m:Nat):zz (λi=>zz (λj=>f i j) m) n=zz (λj=>zz (λi=>f i j) n) m:=by
 induction n with
 | zero=>simp[zz,jR]
 | succ n z=>simp only[zz];rw[z,<- xY]
theorem qF : ∀{n:Nat},(∀k,k<n->f k%p=g k%p)->zz f n%p=zz g n%p
 | 0,_=>rfl
 | n+1,h=>by simp only[zz];rw[EA,qF (n:=n)<|λk a=>h k ⋯,h n ⋯,<- EA]
theorem Vt(p x y:Int):(x%p*y)%p=(x*y)%p:=by rw[Cu,Ep,<- Cu]
theorem Vs(p x y:Int):(x*(y%p))%p=(x*y)%p:=by rw[Cu,Ep,<- Cu]
abbrev Vc:=Nat->Int
def Pr(p:Int):Prop:=p=2\/p=3\/p=5\/p=7
theorem Pr.pos(h:Pr p):0<p:=by unfold Pr at h;omega
theorem Pr.two(h:Pr p):2<=p:=by unfold Pr at h;omega
theorem Pr.le(h:Pr p):p<=7:=by unfold Pr at h;omega
theorem Pr.one(h:Pr p):(1:Int)%p=1:=CN ⋯ (by have:=h.two;omega)
inductive Span(p:Int)(n:Nat)(G:Vc->Prop):Vc->Prop where
 | zero {v:Vc}:(∀i,i<n->v i%p=0)->Span p n G v
 | step {v w g:Vc} {c:Int}:G g->Span p n G w->(∀i,i<n->v i%p=(w i+c*g i)%p)->Span p n G v
section
variable{p:Int}{n:Nat}{G G':Vc->Prop}
theorem Span.congr(h:Span p n G v)(e : ∀i,i<n->v' i%p=v i%p):Span p n G v':=by
 cases h with
 | zero h=>exact .zero λi a=>by rw[e i a,h i a]
 | step z b h=>exact .step z b λi a=>by rw[e i a,h i a]
theorem Span.gen(h:G g):Span p n G g:= .step (c:=1) h (.zero (v:=λ_=>0) λi _=>by simp) λi _=>by simp
theorem Span.add(I:Span p n G v)(H:Span p n G w) : ∀c:Int,Span p n G λi=>w i+c*v i:=by
 induction I with
 | zero h=>
  intro c;refine H.congr λi a=>?_;rw[EA,Cu,h i a];simp
 | @step v b g z O Y h U=>
  intro c;refine .step (c:=c*z) O (U c) λi a=>?_;have e:(c*v i)%p=(c*(b i+z*g i))%p:=by rw[Cu,h i a,<- Cu]
  rw[EA,e,<- EA];congr 1;rw[Int.mul_add,<- Int.mul_assoc,Int.add_assoc]
theorem Span.smul(z:Span p n G v)(c:Int):Span p n G λi=>c*v i:=
 (z.add (w:=λ_=>0) (.zero λi _=>by simp) c).congr λi _=>by simp
theorem Span.le(h:Span p n G v)(z : ∀g,G g->Span p n G' g):Span p n G' v:=by
 induction h with
 | zero h=>exact .zero h
 | step I a h O=>exact((z _ I).add O _).congr h
end
structure pd(p:Int)(n r:Nat)(B:Nat->Vc)(l:MZ):Prop where
 lt : ∀k,k<r->l k<n
 mono : ∀k m,k<m->m<r->l k<l m
 one : ∀k,k<r->B k (l k)=1
 u9 : ∀k j,k<r->j<l k->B k j=0
 Dj : ∀k m,k<r->m<r->m≠k->B k (l m)=0
 sx : ∀k i,k<r->i<n->0<=B k i/\B k i<p
def l4(r:Nat)(B:Nat->Vc):Vc->Prop:=λv=>∃k,k<r/\v=B k
section
variable{p:Int}{n r r':Nat}{B B':Nat->Vc}{l l':MZ}
theorem bN(z:pd p n r B l)(h:Span p n (l4 r B) v) : ∀i,i<n->v i%p=zz (λk=>v (l k)*B k i) r%p:=by
 induction h with
 | @zero v h=>
  intro i b;rw[h i b];have:zz (λk=>v (l k)*B k i) r%p=zz (λ_=>0) r%p:=qF λk a=>by rw[Cu,h _ (z.lt k a)];simp
  rw[this,jR];rfl
 | @step v w g c I f h O=>
  intro i b;obtain⟨m,d,rfl⟩:=I;rw[h i b];have e:zz (λk=>v (l k)*B k i) r%p=zz (λk=>w (l k)*B k i+c*B m (l k)*B k i) r%p:=qF λk a=>by rw[Cu,h _<|z.lt k a,<- Cu,Int.add_mul]
  have U:zz (λk=>c*B m (l k)*B k i) r=c*B m i:=by rw[xE (i:=m) d λk a Y=>by rw[z.Dj m k d a Y];simp,z.one m d];simp
  rw[e,xY,U,EA,O i b,<- EA]
theorem Qu(z:pd p n r B l)(h:Span p n (l4 r B) v)(I:j<n)(H:v j%p≠0)(hz : ∀i,i<j->v i%p=0) : ∃k,k<r/\l k=j:=by
 apply Fh;intro O;apply H;rw[bN z h j I];have:zz (λk=>v (l k)*B k j) r%p=zz (λ_=>0) r%p:=qF λk a=>by
  have U:l k≠j:=λe=>O ⟨k,a,e⟩;rcases Cc (l k) j with q | q
  ·rw[Cu,hz _ q];simp
  ·rw[z.u9 k j a ⋯];simp
 rw[this,jR];rfl
theorem Xl(O : ∀k m,k<m->m<r->l k<l m)(U : ∀k m,k<m->m<r'->l' k<l' m)(H : ∀k,k<r->∃m,m<r'/\l' m=l k)(J : ∀k,k<r'->∃m,m<r/\l m=l' k) :
 ∀k,k<r->k<r'/\l k=l' k:=by
 intro k
 induction k using Nat.strongRecOn with
 | ind k Y=>
  intro a;obtain⟨m,b,em⟩:=H k a;have e:k<=m:=by
   rcases Cc m k with q | q
   ·have:=(Y m q ⋯).2
    have:=O m k q a;omega
   ·exact q
  have I:k<r':=by omega
  refine⟨I,?_⟩;obtain⟨q,d,eq⟩:=J k I;have f:k<=q:=by
   rcases Cc q k with z | z
   ·have:=(Y q z ⋯).2
    have:=U q k z I;omega
   ·exact z
  rcases Cc k m with z | z
  ·have g:=U k m z b
   have h:l k<=l q:=by
    rcases Cc k q with y | y
    ·exact GO<|O k q y d
    ·have:k=q:=by omega
     subst this;exact BB _
   omega
  ·have:m=k:=by omega
   subst this;exact em.symm
theorem Ws(Y:Pr p)(z:pd p n r B l)(I:pd p n r' B' l')(H : ∀v,Span p n (l4 r B) v->Span p n (l4 r' B') v)(J : ∀v,Span p n (l4 r' B') v->Span p n (l4 r B) v) :
 r=r'/\(∀k,k<r->l k=l' k)/\∀k i,k<r->i<n->B k i=B' k i:=by
 have one:=Y.one;have f : ∀k,k<r->∃m,m<r'/\l' m=l k:=λk a=>Qu I (H _<|.gen ⟨k,a,rfl⟩) (z.lt k a) (by rw[z.one k a,one];decide) λi b=>by rw[z.u9 k i a b];simp
 have g : ∀k,k<r'->∃m,m<r/\l m=l' k:=λk a=>Qu z (J _<|.gen ⟨k,a,rfl⟩) (I.lt k a) (by rw[I.one k a,one];decide) λi b=>by rw[I.u9 k i a b];simp
 have d:=Xl z.mono I.mono f g;have j:=Xl I.mono z.mono g f;have o:r=r':=by
  rcases FF r r' with q | q | q
  ·exact absurd (j r q).1 (CF _)
  ·exact q
  ·exact absurd (d r' q).1 (CF _)
 subst o;refine⟨rfl,λk a=>(d k a).2,λk i a b=>?_⟩;have c:=bN I (H _<|.gen ⟨k,a,rfl⟩) i b;rw[xE (i:=k) a λm e h=>by rw[<- (d m e).2,z.Dj k m a e h];simp,<- (d k a).2,z.one k a,Int.one_mul]at c;have O:=z.sx k i a b;have U:=I.sx k i a b;rw[CN O.1 O.2,CN U.1 U.2]at c;exact c
end
theorem qp(q:α->Bool)(r:α->D) : ∀(l:List α),(∀x∈l,∃z,xj T (g x) γ=cI z/\k z=cI (q x)/\(q x=d6->f z=cI (r x)))->
 zU T k f γ (l.map g)=cI ((l.filter q).map r)
 | [],_=>rfl
 | x::l,h=>by
  obtain⟨z,a,b,O⟩:=h x BQ;have I:=qp q r l λy U=>h y<|BL _ U;simp only[BY,zU,a,b,Bw];cases e:q x with
  | true=>simp[O e,I,e]
  | false=>simp[I,e]
theorem nc(z:Pr p)(H:0<x)(I:x<p) : ∃y:Nat,1<=y/\(y:Int)<p/\(y:Int)*x%p=1:=by
 rcases z with rfl | rfl | rfl | rfl
 ·obtain rfl:x=1:=by omega
  exact⟨1,by decide,by decide,by decide⟩
 ·rcases (show x=1\/x=2 by omega)with rfl | rfl
  ·exact⟨1,by decide,by decide,by decide⟩
  ·exact⟨2,by decide,by decide,by decide⟩
 ·rcases (show x=1\/x=2\/x=3\/x=4 by omega)with rfl | rfl | rfl | rfl
  ·exact⟨1,by decide,by decide,by decide⟩
  ·exact⟨3,by decide,by decide,by decide⟩
  ·exact⟨2,by decide,by decide,by decide⟩
  ·exact⟨4,by decide,by decide,by decide⟩
 ·rcases (show x=1\/x=2\/x=3\/x=4\/x=5\/x=6 by omega)with rfl | rfl | rfl | rfl | rfl | rfl
  ·exact⟨1,by decide,by decide,by decide⟩
  ·exact⟨4,by decide,by decide,by decide⟩
  ·exact⟨5,by decide,by decide,by decide⟩
  ·exact⟨2,by decide,by decide,by decide⟩
  ·exact⟨3,by decide,by decide,by decide⟩
  ·exact⟨6,by decide,by decide,by decide⟩
theorem JL{q:MX}{n a:Nat}{rest:List Nat}(h:(Br n).filter q=a::rest):a<n/\q a=d6/\∀i,i<a->q i=eF:=by
 have b:a∈(Br n).filter q:=by rw[h];exact BQ
 refine⟨BD.mp (Ef.mp b).1,(Ef.mp b).2,λi d=>?_⟩;apply Fh;intro z;have I:q i=d6:=by simpa using z
 have O:i∈a::rest:=by rw[<- h];exact Ef.mpr ⟨BD.mpr (by have:=BD.mp (Ef.mp b).1;omega),I⟩
 have U:(a::rest).Pairwise (· < ·):=by rw[<- h];exact List.Pairwise.filter _ List.pairwise_lt_range
 rcases BC.mp O with e | e
 ·omega
 ·have:=(List.pairwise_cons.mp U).1 i e;omega
theorem Vp(h:(Br n).filter q=[]) : ∀i,i<n->q i=eF:=λi a=>by apply Fh;intro z;have:i∈(Br n).filter q:=Ef.mpr ⟨BD.mpr a,by simpa using z⟩;rw[h]at this;simp at this
theorem J3(z:Pr p)(H:0<x)(I:x<p) : ∃y,kx [.int p,.int x]=cI (.val<|.int y)/\1<=y/\y<p/\x*y%p=1:=by
 rcases z with rfl | rfl | rfl | rfl
 ·have:x=1:=by omega
  subst this;exact⟨1,rfl,by decide,by decide,by decide⟩
 ·have:x=1\/x=2:=by omega
  rcases this with rfl | rfl
  ·exact⟨1,rfl,by decide,by decide,by decide⟩
  ·exact⟨2,rfl,by decide,by decide,by decide⟩
 ·have:x=1\/x=2\/x=3\/x=4:=by omega
  rcases this with rfl | rfl | rfl | rfl
  ·exact⟨1,rfl,by decide,by decide,by decide⟩
  ·exact⟨3,rfl,by decide,by decide,by decide⟩
  ·exact⟨2,rfl,by decide,by decide,by decide⟩
  ·exact⟨4,rfl,by decide,by decide,by decide⟩
 ·have:x=1\/x=2\/x=3\/x=4\/x=5\/x=6:=by omega
  rcases this with rfl | rfl | rfl | rfl | rfl | rfl
  ·exact⟨1,rfl,by decide,by decide,by decide⟩
  ·exact⟨4,rfl,by decide,by decide,by decide⟩
  ·exact⟨5,rfl,by decide,by decide,by decide⟩
  ·exact⟨2,rfl,by decide,by decide,by decide⟩
  ·exact⟨3,rfl,by decide,by decide,by decide⟩
  ·exact⟨6,rfl,by decide,by decide,by decide⟩
theorem kz(I:Pr p)(J:n<=lim)(z:t<n)(w P:Nat->Int)(H : ∀i,i<n->0<=w i/\w i<p) :
 jh [.int p,.tup<|zC n w,.tup<|zC n P,.int t]=cI (.val<|.tup<|zC n λi=>(w i - w t*P i)%p):=by
 have U:=H t z;have Y:=I.le;have O : ∀x,QF (w t) x=d6:=λx=>XF _ _ ⋯ ⋯;by_cases b:w t=0
 ·simp[jh,jg,je,jt,z,b]
  apply kE;intro i a;rw[CN (H i a).1 (H i a).2]
 ·simp[jh,jg,je,jt,z,b,WR,J,jx,qx,Bu]
  rw[zL (r:=λi=>D.int<|w i - w t*P i)]
  ·rw[<- jl]
   simp[J2 _ I.pos J]
  ·intro i a
   refine zO rfl rfl ?_;simp[O]
theorem fP{l:MZ}{r t:Nat}(H : ∀k m,k<m->m<r->l k<l m)(z : ∀k,k<r->l k<t):r<=t:=by
 have I : ∀k,k<r->k<=l k:=by
  intro k
  induction k with
  | zero=>intro _;exact Eo _
  | succ k O=>
   intro d;have a:=O ⋯;have b:=H k (k+1) ⋯ d;omega
 cases r with
 | zero=>exact Eo _
 | succ r=>
  have a:=I r ⋯;have b:=z r ⋯;omega
noncomputable def vc:=(zF (jn 6<|qS<|zN (zQ<|zl 3) (.nm 0) 1 [5] (sB<|zw r6 (gB (zl 0)<|zf 1)<|zm<|.int 0) (zf 0))<|zF (m3 (xf<|dX<|zl 6) eo jK)<|zF (jn 7<|zq kx<|zb (zf 0)<|zb (gB (zT<|gB (zl 6)<|zm<|.int 0)<|zf 5) zx)<|zF (jn 8<|zq qz<|zb (zf 0)<|zb (qS<|zN (zQ<|zT<|gB (zl 6)<|zm<|.int 0) (.nm 0) 1 [7] jX (zw J5 (zf 1)<|zf 0)) zx)<|zF (jn 3<|qS<|zN (zQ<|zl 3) (.nm 0) 1 [0,5,8] jX (zq jh<|zb (zf 1)<|zb (zf 0)<|zb (zf 3)<|zb (zf 2) zx))<|k7 4<|Jh (jj<|zN (zQ<|zl 4) (.nm 0) 1 [0,5,8] jX (zq jh<|zb (zf 1)<|zb (zf 0)<|zb (zf 3)<|zb (zf 2) zx))<|jj<|qw<|zb (zf 8) zx)
noncomputable def Un(r:Nat)(B:Nat->Vc)(m:Nat)(W:Nat->Vc):Vc->Prop:=λv=>l4 r B v\/l4 m W v
structure Dn(p:Int)(n m:Nat)(W:Nat->Vc)(t r:Nat)(B:Nat->Vc)(l:MZ)(Wt:Nat->Vc):Prop where
 sx : ∀j i,j<m->i<n->0<=Wt j i/\Wt j i<p
 D0 : ∀j i,j<m->i<t->Wt j i=0
 DA:pd p n r B l
 lt : ∀k,k<r->l k<t
 span : ∀v,Span p n (Un r B m Wt) v↔Span p n (l4 m W) v
section
variable{p:Int}{n m:Nat}{W:Nat->Vc}{t r:Nat}{B:Nat->Vc}{l:MZ}{Wt:Nat->Vc}
theorem Dn.skip(h:Dn p n m W t r B l Wt)(hz : ∀j,j<m->Wt j t=0):Dn p n m W (t+1) r B l Wt:=
 ⟨h.sx,λj i z b=>by
  rcases Cc i t with q | q
  ·exact h.D0 j i z q
  ·have:i=t:=by omega
   subst this;exact hz j z,h.DA,λk a=>Cg<|h.lt k a,h.span⟩
def mw(p:Int)(P:Vc)(t:Nat)(w:Vc):Vc:=λi=>(w i - w t*P i)%p
noncomputable def Kn(p:Int)(P:Vc)(t r:Nat)(B:Nat->Vc):Nat->Vc:=λk=>if k<r then mw p P t (B k)else P
def cT(t r:Nat)(l:MZ):Nat->Nat:=λk=>if k<r then l k else t
theorem vb(z:Span p n G P)(H:Span p n G w):Span p n G (mw p P t w):=
 (z.add H (-(w t))).congr λi _=>by unfold mw;rw[Ep];congr 1;rw[Int.neg_mul];omega
theorem QT(z:Span p n G P)(H:Span p n G (mw p P t w)):Span p n G w:=
 (z.add H<|w t).congr λi _=>by unfold mw;rw[EA,Ep,<- EA];congr 1;omega
theorem Dn.next(H:Pr p)(h:Dn p n m W t r B l Wt)(L:t<n)(J:j0<m)(Z:Wt j0 t*y%p=1)(U : ∀i,i<n->P i=y*Wt j0 i%p) :
 Dn p n m W (t+1) (r+1) (Kn p P t r B) (cT t r l) (λj=>mw p P t<|Wt j):=by
 have K:=H.pos;have one:=H.one;have A:P t=1:=by rw[U t L,HF];exact Z
 have f : ∀i,i<t->P i=0:=λi b=>by rw[U i ⋯,h.D0 j0 i J b];simp
 have M : ∀i,i<n->0<=P i/\P i<p:=λi b=>by rw[U i b];exact⟨CA _ ⋯,Ca _ K⟩
 have E : ∀(w:Vc) i,0<=mw p P t w i/\mw p P t w i<p:=λw i=>⟨CA _ ⋯,Ca _ K⟩;have Y : ∀(w:Vc) i,i<t->0<=w i->w i<p->mw p P t w i=w i:=λw i b R S=>by unfold mw;rw[f i b,Int.mul_zero,HE];exact CN R S
 have F : ∀w:Vc,mw p P t w t=0:=λw=>by unfold mw;rw[A,Int.mul_one,Int.sub_self];simp
 refine⟨λj i I b=>E _ _,λj i I b=>?_,⟨λk a=>?_,λk q N T=>?_,λk a=>?_,λk j a I=>?_,λk q a T Q=>?_,λk i a b=>?_⟩,λk a=>?_,λv=>?_⟩
 ·rcases Cc i t with q | q
  ·have e:=h.D0 j i I q
   rw[Y _ i q ⋯ ⋯];exact e
  ·have:i=t:=by omega
   subst this;exact F _
 ·unfold cT;split
  ·rename_i q;exact h.DA.lt k q
  ·exact L
 ·unfold cT
  have a:k<r:=by omega
  rw[MY a];split
  ·rename_i z;exact h.DA.mono k q N z
  ·exact h.lt k a
 ·unfold cT Kn;split
  ·rename_i q
   have e:=h.DA.one k q;have d:=h.lt k q;rw[Y _ _ d ⋯ (by have:=H.two;omega)];exact e
  ·exact A
 ·unfold Kn;unfold cT at I;split at I
  ·rename_i q
   have e:=h.DA.u9 k j q I;have d:=h.lt k q;rw[MY q,Y _ _ ⋯ ⋯ ⋯];exact e
  ·rename_i q
   rw[RQ q];exact f j I
 ·unfold Kn cT
  by_cases x:k<r
  ·rw[MY x]
   by_cases O:q<r
   ·rw[MY O]
    have e:=h.DA.Dj k q x O Q;have d:=h.lt q O;rw[Y _ _ d ⋯ ⋯];exact e
   ·rw[RQ O];exact F _
  ·rw[RQ x]
   have O:q<r:=by omega
   rw[MY O];exact f _<|h.lt q O
 ·unfold Kn;split
  ·exact E _ _
  ·exact M i b
 ·unfold cT;split
  ·rename_i q;exact Cg<|h.lt k q
  ·exact Ew _
 ·rw[<- h.span v]
  have o:Span p n (Un r B m Wt) P:=((Span.gen (p:=p) (n:=n) (G:=Un r B m Wt) (g:=Wt j0)<|.inr ⟨j0,J,rfl⟩).smul y).congr λi b=>by rw[U i b,Ep]
  have C:Span p n (Un (r+1) (Kn p P t r B) m λj=>mw p P t<|Wt j) P:= .gen (.inl ⟨r,Ew r,by unfold Kn;rw[RQ (CF r)]⟩);constructor
  ·refine λu=>u.le λg s=>?_
   rcases s with⟨k,a,rfl⟩ | ⟨j,I,rfl⟩
   ·unfold Kn;split
    ·rename_i q;exact vb o<|.gen<|.inl ⟨k,q,rfl⟩
    ·exact o
   ·exact vb o<|.gen<|.inr ⟨j,I,rfl⟩
  ·refine λu=>u.le λg s=>?_
   rcases s with⟨k,a,rfl⟩ | ⟨j,I,rfl⟩
   ·refine QT (t:=t) C (.gen<|.inl ⟨k,Cg a,?_⟩)
    unfold Kn;rw[MY a]
   ·exact QT (t:=t) C<|.gen<|.inr ⟨j,I,rfl⟩
theorem Dn.done(h:Dn p n m W n r B l Wt)(v:Vc):Span p n (l4 r B) v↔Span p n (l4 m W) v:=by
 rw[<- h.span v];constructor
 ·exact λI=>I.le λg z=> .gen (.inl z)
 ·refine λI=>I.le λg z=>?_
  rcases z with z | ⟨j,O,rfl⟩
  ·exact .gen z
  ·exact .zero λi a=>by rw[h.D0 j i O a];simp
theorem Wb(z:True)(P:Vc):ji (r+1) n (Kn p P t r B)=ji r n (λk=>mw p P t<|B k)++[.tup (zC n P)]:=by
 unfold ji;rw[EO,Fd];congr 1
 ·apply CJ
  intro k a;have:=BD.mp a;simp[Kn,this]
 ·simp[Kn]
end
theorem yS{p:Int}(Y:Pr p){n m:Nat}(hn:n<=100)(J:m<=lim)(H:Sk)(W:Nat->Vc) :
 ∃r B l,q8 [.int p,.int n,Dv H (ji m n W)]=cI (.own<|ji r n B)/\pd p n r B l/\∀v,Span p n (l4 r B) v↔Span p n (l4 m W) v:=by
 have hl:=jU;have b:n<=lim:=by omega
 have E:=Y.pos;have Q:=JJ (T:= .nm 5) (F:=vc)
  (λt N=>∃r B l Wt s u h o,N=[.val (.int p),.val<|.int n,.val<|Dv H<|ji m n W,.val<|.lst<|ji m n Wt,.own<|ji r n B,s,u,h,o]/\Dn p n m W t r B l Wt)
  ((Br n).map λ(i:Nat)=>D.int i) 0 [.val (.int p),.val<|.int n,.val<|Dv H<|ji m n W,.val<|.lst<|ji m n λj i=>W j i%p,.own [],.no,.no,.no,.no]
  ⟨0,λ_ _=>0,λ_=>0,λj i=>W j i%p,.no,.no,.no,.no,rfl,λj i _ _=>⟨CA _ ⋯,Ca _ E⟩,λj i _ e=>absurd e<|BK _,
   ⟨λk a=>absurd a<|BK _,λk q _ a=>absurd a<|BK _,λk a=>absurd a<|BK _,λk j a=>absurd a<|BK _,λk q a=>absurd a<|BK _,λk i a=>absurd a<|BK _⟩,
   λk a=>absurd a<|BK _,λv=>⟨λC=>C.le λg A=>by
    rcases A with⟨k,a,_⟩ | ⟨j,O,rfl⟩
    ·exact absurd a<|BK _
    ·exact(Span.gen (p:=p) (n:=n) (G:=l4 m W) (g:=W j) ⟨j,O,rfl⟩).congr λi _=>Ep _ _,λC=>C.le λg A=>by
    obtain⟨j,O,rfl⟩:=A;exact(Span.gen (p:=p) (n:=n) (G:=Un 0 (λ_ _=>0) m λj i=>W j i%p) (g:=λi=>W j i%p)<|.inr ⟨j,O,rfl⟩).congr λi _=>(Ep _ _).symm⟩⟩ (by
   rintro t d N w ⟨r,B,l,Wt,s,u,h,o,rfl,I⟩;rw[GN]at I ⊢;have U:t<n:=by have:=(BP.mp w).1;simpa using this
   have R:d = .int t:=by simp[U]at w;exact w.symm
   subst R;have f:zU (.nm 0) (sB<|zw r6 (gB (zl 0)<|zf 1)<|zm<|.int 0) (zf 0) [Cell.no,Cell.val (.int t)] (ji m n Wt)=cI (((Br m).filter λj=> !decide (Wt j t=0)).map λj=>D.tup<|zC n<|Wt j):=by unfold ji;refine qp _ _ _ λj O=>⟨_,rfl,?_,λ_=>rfl⟩;simp[U]
   have hr:r<=t:=fP I.DA.mono I.lt;have S:r<=lim:=by omega
   cases hf:(Br m).filter λj=> !decide (Wt j t=0)with
   | nil=>
    have hz : ∀j,j<m->Wt j t=0:=λj O=>by apply Fh;intro K;have:j∈(Br m).filter λj=> !decide (Wt j t=0):=Ef.mpr ⟨BD.mpr O,by simp[K]⟩;rw[hf]at this;simp at this
    rw[hf]at f;refine⟨_,.inr ?_,r,B,l,Wt,.val<|.int t,.val<|.lst [],h,o,rfl,I.skip hz⟩;simp only[ZV,Bw,CU,CD,vc];rw[jt];simp[jt,jx,qx,Bu,f,J]
   | cons z rest=>
    have L:z∈(Br m).filter λj=> !decide (Wt j t=0):=by rw[hf];exact BQ
    have M:z<m:=BD.mp (Ef.mp L).1;have K:Wt z t≠0:=by simpa using (Ef.mp L).2
    have X:=I.sx z t M U;obtain⟨y,ey,y1,y2,yy⟩:=J3 Y (x:=Wt z t) ⋯ X.2;rw[hf]at f;have nx:=I.next Y U M yy (P:=λi=>y*Wt z i%p) λi _=>rfl;refine⟨_,.inl ?_,r+1,Kn p (λi=>y*Wt z i%p) t r B,cT t r l,λj=>mw p (λi=>y*Wt z i%p) t<|Wt j,.val<|.int t,.val<|.lst<|(z::rest).map λj=>D.tup<|zC n<|Wt j,.val<|.int y,.val<|.tup<|zC n λi=>y*Wt z i%p,rfl,nx⟩;have bl:=Y.le;have cy : ∀x,QF y x=d6:=λx=>XF _ _ ⋯ ⋯;have Z:zU (.nm 0) jX (zw J5 (zf 1)<|zf 0) [Cell.no,Cell.val (.int y)] (zC n<|Wt z)=cI (zC n λi=>y*Wt z i):=by rw[jl,jl];refine zL _ _ λi e=>zO rfl rfl ?_;simp[cy]
    have ap:zU (.nm 0) jX (zq jh<|zb (zf 1)<|zb (zf 0)<|zb (zf 3)<|zb (zf 2) zx) [Cell.no,Cell.val<|.int p,Cell.val<|.int t,Cell.val (.tup<|zC n λi=>y*Wt z i%p)] (ji m n Wt)=cI (ji m n λj=>mw p (λi=>y*Wt z i%p) t<|Wt j):=by unfold ji;refine zL _ _ λj O=>zO rfl rfl ?_;simp[kz Y b U (Wt j) (λi=>y*Wt z i%p) λi e=>I.sx j i (BD.mp O) e];rfl
    have ar:zU (.nm 0) jX (zq jh<|zb (zf 1)<|zb (zf 0)<|zb (zf 3)<|zb (zf 2) zx) [Cell.no,Cell.val<|.int p,Cell.val<|.int t,Cell.val (.tup<|zC n λi=>y*Wt z i%p)] (ji r n B)=cI (ji r n λj=>mw p (λi=>y*Wt z i%p) t<|B j):=by unfold ji;refine zL _ _ λj O=>zO rfl rfl ?_;simp[kz Y b U (B j) (λi=>y*Wt z i%p) λi e=>I.DA.sx j i (BD.mp O) e];rfl
    have as:r+1<=lim:=by omega
    rw[Wb trivial];simp only[ZV,Bw,CU,CD,vc];rw[jt];simp[jt,jx,qx,Bu,f,J,b,U,ey,Z,J2 _ E b,ap,ar,S,as])
 obtain⟨γ',e1,r,B,l,Wt,s,u,h,o,rfl,I⟩:=Q;simp only[Cb,Ez,GN]at I;refine⟨r,B,l,?_,I.DA,I.done⟩;have ax:zU (.nm 0) jX (zq qz<|zb (zf 1)<|zb (zf 0) zx) [Cell.no,Cell.val (.int p)] (ji m n W)=cI (ji m n λj i=>W j i%p):=by unfold ji;refine zL _ _ λj O=>zO rfl rfl ?_;simp[WE _ E b]
 have e0:q8 [.int p,.int n,Dv H (ji m n W)]=jg 9 (zF (jn 3<|qS<|zN (zQ<|zl 2) (.nm 0) 1 [0] jX (zq qz<|zb (zf 1)<|zb (zf 0) zx))<|zF (k7 4<|qw zx)<|zF (Jg (jz<|zf 1) (.nm 5) vc)<|yU 4) [.int p,.int n,Dv H (ji m n W)]:=rfl;rw[e0];simp[jg,je,jt,J,jx,qx,Bu,ax,b,qA];rw[jl n λi=>(i:Int),e1];simp
@[simp] def nG:=@pW.eq_1
noncomputable def vK{z:Type}(q:Nat)(x:z)(f:Nat->z):Nat->z:=λk=>if k<q then f k else if k=q then x else f (k - 1)
noncomputable def yW(l:MZ)(r x:Nat):Nat:=((Br r).filter λk=>decide<|l k<x).length
theorem ZR : ∀{r:Nat},(∀k m,k<m->m<r->l k<l m)->(∀k,k<r->l k≠x)->yW l r x<=r/\(∀k,k<yW l r x->l k<x)/\∀k,yW l r x<=k->k<r->x<l k
 | 0,_,_=>⟨BB _,λk d=>absurd d (by simp[yW]),λk _ d=>absurd d<|BK _⟩
 | r+1,hm,Mf=>by
  obtain⟨g,f,I⟩:=ZR (r:=r) (x:=x) (λk m a b=>hm k m a ⋯) λk d=>Mf k ⋯;have e:yW l (r+1) x=yW l r x+if l r<x then 1 else 0:=by unfold yW;rw[EO,Hk,Cs];by_cases q:l r<x<;>simp[q]
  by_cases q:l r<x
  ·rw[e,MY q]
   have O:yW l r x=r:=by
    rcases Cc (yW l r x) r with z | z
    ·have U:=I (yW l r x) (BB _) z
     have Y:=hm (yW l r x) r z<|Ew r;omega
    ·omega
   rw[O];refine⟨BB _,λk d=>?_,λk a b=>absurd b ⋯⟩;rcases Cc k r with z | z
   ·exact f k ⋯
   ·have:k=r:=by omega
    subst this;exact q
  ·rw[e,RQ q,Nat.add_zero]
   refine⟨by omega,f,λk a b=>?_⟩;rcases Cc k r with z | z
   ·exact I k a z
   ·have:k=r:=by omega
    subst this;have:=Mf k b;omega
section
variable{p:Int}{n r:Nat}{B:Nat->Vc}{l:MZ}{w:Vc}
structure E9(p:Int)(n r:Nat)(B:Nat->Vc)(l:MZ)(w:Vc)(k:Nat)(R:Vc):Prop where
 sx : ∀i,i<n->0<=R i/\R i<p
 D0 : ∀q,q<k->R (l q)=0
 eqv : ∀G,(∀k,k<r->Span p n G (B k))->(Span p n G w↔Span p n G R)
theorem E9.next(Y:Pr p)(U:pd p n r B l)(h:E9 p n r B l w k R)(H:k<r):E9 p n r B l w (k+1) (mw p (B k) (l k) R):=by
 have a:=Y.pos;refine⟨λi _=>⟨CA _ ⋯,Ca _ a⟩,λq b=>?_,λG I=>?_⟩
 ·unfold mw
  rcases Cc q k with z | z
  ·rw[h.D0 q z,U.Dj k q H ⋯ ⋯];simp
  ·have:q=k:=by omega
   subst this;rw[U.one q H];simp
 ·rw[h.eqv G I]
  exact⟨λO=>vb (I k H) O,λO=>QT (I k H) O⟩
theorem JC(O:q<=r)(H:k<r+1):(k=q/\vK q x f k=x)\/∃I,I<r/\vK q x f k=f I/\((k<q/\I=k)\/(q<k/\I+1=k)):=by
 unfold vK;rcases FF k q with z | z | z
 ·right;exact⟨k,by omega,by rw[MY z],.inl ⟨z,rfl⟩⟩
 ·left;subst z;exact⟨rfl,by rw[RQ (CF _),MY rfl]⟩
 ·right;exact⟨k - 1,by omega,by rw[RQ ⋯,RQ ⋯],.inr ⟨z,by omega⟩⟩
theorem Mg:vK q x f q=x:=by unfold vK;rw[RQ (CF _),MY rfl]
theorem gi : ∃I,(I<q/\I=k\/q<I/\I=k+1)/\vK q x f I=f k:=by
 rcases Cc k q with z | z
 ·exact⟨k,.inl ⟨z,rfl⟩,by unfold vK;rw[MY z]⟩
 ·exact⟨k+1,.inr ⟨by omega,rfl⟩,by unfold vK;rw[RQ ⋯,RQ ⋯];rfl⟩
theorem gm(L:Pr p)(Y:pd p n r B l)(Z:a<n)(H:R a=1)(hz : ∀i,i<a->R i=0)(J : ∀k,k<r->R (l k)=0)(hR : ∀i,i<n->0<=R i/\R i<p) :
 pd p n (r+1) (vK (yW l r a) R λk=>mw p R a<|B k) (vK (yW l r a) a l):=by
 have T:=L.pos;have G : ∀k,k<r->l k≠a:=λk b e=>by have:=J k b;rw[e,H]at this;omega
 obtain⟨S,W,X⟩:=ZR Y.mono G;have N : ∀(w:Vc) i,0<=mw p R a w i/\mw p R a w i<p:=λw i=>⟨CA _ ⋯,Ca _ T⟩;have K : ∀w:Vc,mw p R a w a=0:=λw=>by unfold mw;rw[H,Int.mul_one,Int.sub_self];simp
 have C : ∀(w:Vc) k,k<r->0<=w (l k)->w (l k)<p->mw p R a w (l k)=w (l k):=λw k b H P=>by unfold mw;rw[J k b,Int.mul_zero,HE];exact CN H P
 have M : ∀k j,k<r->j<l k->mw p R a (B k) j=0:=λk j b t=>by
  unfold mw;rw[Y.u9 k j b t];rcases Cc a (l k)with z | z
  ·rw[Y.u9 k a b z];simp
  ·rw[hz j ⋯];simp
 have two:=L.two;have U : ∀k,k<r+1->(k=yW l r a/\vK (yW l r a) R (λk=>mw p R a<|B k) k=R/\vK (yW l r a) a l k=a)\/
  ∃I,I<r/\vK (yW l r a) R (λk=>mw p R a<|B k) k=mw p R a (B I)/\vK (yW l r a) a l k=l I/\((k<yW l r a/\I=k)\/(yW l r a<k/\I+1=k)):=by
  intro k b;rcases JC (x:=R) (f:=λk=>mw p R a<|B k) S b with⟨d,u⟩ | ⟨I,O,d,u⟩
  ·left;refine⟨d,u,?_⟩;subst d;exact Mg
  ·right
   refine⟨I,O,d,?_,u⟩;rcases u with⟨E,F⟩ | ⟨E,F⟩
   ·unfold vK;rw[MY E,F]
   ·unfold vK;rw[RQ ⋯,RQ ⋯];congr 1;omega
 refine⟨λk b=>?_,λk m an y=>?_,λk b=>?_,λk j b t=>?_,λk m b y ap=>?_,λk i b Q=>?_⟩
 ·rcases U k b with⟨_,_,e⟩ | ⟨I,O,_,e,_⟩
  ·rw[e];exact Z
  ·rw[e];exact Y.lt I O
 ·rcases U k ⋯with⟨z,_,e⟩ | ⟨I,O,_,e,z⟩<;>rcases U m y with⟨A,_,s⟩ | ⟨h,g,_,s,A⟩<;>rw[e,s]
  ·omega
  ·exact X h ⋯ g
  ·exact W I ⋯
  ·exact Y.mono I h ⋯ g
 ·rcases U k b with⟨_,d,e⟩ | ⟨I,O,d,e,_⟩<;>rw[d,e]
  ·exact H
  ·have o:=Y.one I O
   rw[C _ I O ⋯ ⋯];exact o
 ·rcases U k b with⟨_,d,e⟩ | ⟨I,O,d,e,_⟩<;>rw[d]<;>rw[e]at t
  ·exact hz j t
  ·exact M I j O t
 ·rcases U k b with⟨z,d,_⟩ | ⟨I,O,d,_,z⟩<;>rcases U m y with⟨A,_,s⟩ | ⟨h,g,_,s,A⟩<;>rw[d,s]
  ·omega
  ·exact J h g
  ·exact K _
  ·have o:=Y.Dj I h O g ⋯
   rw[C _ h g ⋯ ⋯];exact o
 ·rcases U k b with⟨_,d,_⟩ | ⟨I,O,d,_,_⟩<;>rw[d]
  ·exact hR i Q
  ·exact N _ _
theorem gr(z:q<=r)(hR:Span p n G R)(I : ∀k,k<r->Span p n G (F k)) : ∀g,l4 (r+1) (vK q R F) g->Span p n G g:=by
 rintro g ⟨k,a,rfl⟩;rcases JC (x:=R) (f:=F) z a with⟨_,e⟩ | ⟨O,U,e,_⟩<;>rw[e]
 ·exact hR
 ·exact I O U
theorem fR(I:q<=r):l4 (r+1) (vK q R F) R/\∀k,k<r->l4 (r+1) (vK q R F) (F k):=by refine⟨⟨q,by omega,Mg.symm⟩,λk a=>?_⟩;obtain⟨z,h,e⟩:=gi (q:=q) (x:=R) (f:=F) (k:=k);exact⟨z,by omega,e.symm⟩
theorem br(hp:Pr p)(Z:pd p n r B l)(L:a<n)(O : ∀v,Span p n (l4 r B) v↔Span p n (l4 j W) v)(U:E9 p n r B l (W j) r R)(J:y*R a%p=1)(Y : ∀i,i<n->R' i=y*R i%p)(H:yW l r a<=r)(v:Vc) :
 Span p n (l4 (r+1)<|vK (yW l r a) R' λk=>mw p R' a<|B k) v↔Span p n (l4 (j+1) W) v:=by
 have w : ∀v,Span p n (l4 j W) v->Span p n (l4 (j+1) W) v:=λv I=>I.le λg ⟨i,d,e⟩=> .gen ⟨i,by omega,e⟩;have a2 : ∀k,k<r->Span p n (l4 (j+1) W) (B k):=λk b=>w _<|(O _).mp (.gen ⟨k,b,rfl⟩);have o:Span p n (l4 (j+1) W) R:=(U.eqv _ a2).mp (.gen ⟨j,by omega,rfl⟩);have f:Span p n (l4 (j+1) W) R':=(o.smul y).congr λi d=>by rw[Y i d,Ep]
 obtain⟨u,m2⟩:=fR (R:=R') (F:=λk=>mw p R' a<|B k) H;have h:Span p n (l4 (r+1)<|vK (yW l r a) R' λk=>mw p R' a<|B k) R':= .gen u;have m : ∀k,k<r->Span p n (l4 (r+1)<|vK (yW l r a) R' λk=>mw p R' a<|B k) (B k):=λk b=>QT (t:=a) h<|.gen<|m2 k b;have gR:Span p n (l4 (r+1)<|vK (yW l r a) R' λk=>mw p R' a<|B k) R:=(h.smul<|R a).congr λi d=>by rw[Y i d,Vs,<- Int.mul_assoc,HF (R a) y,Cu,J,Int.one_mul,Ep]
 constructor
 ·exact λI=>I.le<|gr H f λk b=>vb f<|a2 k b
 ·refine λI=>I.le ?_
  rintro g ⟨i,d,rfl⟩;rcases Cc i j with z | z
  ·exact((O _).mpr (.gen ⟨i,z,rfl⟩)).le λg s=>by obtain⟨k,b,e⟩:=s;rw[e];exact m k b
  ·have:i=j:=by omega
   subst this;exact(U.eqv _ m).mpr gR
theorem YB(O : ∀v,Span p n (l4 r B) v↔Span p n (l4 j W) v)(U:E9 p n r B l (W j) r R)(H : ∀i,i<n->R i=0)(v:Vc):Span p n (l4 r B) v↔Span p n (l4 (j+1) W) v:=by
 constructor
 ·exact λI=>((O v).mp I).le λg ⟨i,a,e⟩=> .gen ⟨i,by omega,e⟩
 ·refine λI=>I.le ?_
  rintro g ⟨i,a,rfl⟩;rcases Cc i j with z | z
  ·exact(O _).mpr (.gen ⟨i,z,rfl⟩)
  ·have:i=j:=by omega
   subst this;exact(U.eqv _ λk b=> .gen ⟨k,b,rfl⟩).mpr (.zero λi a=>by rw[H i a];simp)
end
@[simp] theorem KD(h w f):(vQ h w f).length=h:=by simp[vQ]
section
variable{p:Int}{n m r:Nat}{G:Vc->Prop}
theorem Span.sum{u:Nat->Vc}(c:Nat->Int) : ∀{m:Nat},(∀k,k<m->Span p n G (u k))->Span p n G λi=>zz (λk=>c k*u k i) m
 | 0,_=> .zero λi _=>by simp[zz]
 | m+1,h=>(((h m ⋯).add (Span.sum c (m:=m) λk a=>h k ⋯) (c m))).congr λi _=>by simp[zz]
noncomputable def Rk(p:Int)(n m:Nat)(W:Nat->Vc)(r:Nat):Prop:=∃B l,pd p n r B l/\∀v,Span p n (l4 r B) v↔Span p n (l4 m W) v
theorem Qe(U:Pr p)(h:Rk p n m W r)(h':Rk p n m W r'):r=r':=by obtain⟨B,l,Y,I⟩:=h;obtain⟨b,d,a,O⟩:=h';exact(Ws U Y a (λv z=>(O v).mpr ((I v).mp z))<|λv z=>(I v).mpr ((O v).mp z)).1
theorem Q3(z:Pr p)(I:pd p n r B l)(H : ∀i,i<n->0<=w i/\w i<p) : ∀k,k<=r->∃R,E9 p n r B l w k R
 | 0,_=>⟨w,H,λq O=>absurd O<|BK _,λG _=>Iff.rfl⟩
 | k+1,h=>by obtain⟨R,hR⟩:=Q3 z I H k ⋯;exact⟨_,hR.next z I ⋯⟩
theorem Xs : ∀(n:Nat) (R:Vc),(∀i,i<n->R i=0)\/∃a,a<n/\R a≠0/\∀i,i<a->R i=0
 | 0,R=> .inl λi b=>absurd b<|BK _
 | n+1,R=>by
  rcases Xs n R with h | ⟨a,h1,h2,I⟩
  ·by_cases e:R n=0
   ·exact .inl λi b=>by rcases Cc i n with z | z;exact h i z;rw[show i=n by omega];exact e
   ·exact .inr ⟨n,by omega,e,h⟩
  ·exact .inr ⟨a,by omega,h2,I⟩
theorem cj(z:Pr p)(W:Nat->Vc)(Y : ∀j i,0<=W j i/\W j i<p) : ∀m,∃r,r<=m/\Rk p n m W r
 | 0=>⟨0,BB _,λ_ _=>0,λ_=>0,⟨λk b=>absurd b<|BK _,λk q _ b=>absurd b<|BK _,λk b=>absurd b<|BK _,λk j b=>absurd b<|BK _,λk q b=>absurd b<|BK _,λk i b=>absurd b<|BK _⟩,
  λv=>⟨λU=>U.le λg ⟨k,b,_⟩=>absurd b<|BK _,λU=>U.le λg ⟨k,b,_⟩=>absurd b<|BK _⟩⟩
 | m+1=>by
  obtain⟨r,u,B,l,I,d⟩:=cj z W Y m;have t:=z.pos;obtain⟨R,O⟩:=Q3 z I (w:=W m) (λi _=>Y m i) r<|BB _;rcases Xs n R with h0 | ⟨a,ha,a3,a4⟩
  ·exact⟨r,by omega,B,l,I,YB d O h0⟩
  ·have h:=O.sx a ha
   obtain⟨y,_,_,f⟩:=nc z (x:=R a) ⋯ h.2;have o : ∀k,k<r->l k≠a:=λk b e=>by have:=O.D0 k b;rw[e]at this;exact a3 this
   exact⟨r+1,by omega,_,_,gm z I (R:=λi=>(y:Int)*R i%p) ha f (λi s=>by rw[a4 i s];simp) (λk b=>by rw[O.D0 k b];simp) λi _=>⟨CA _ ⋯,Ca _ t⟩,
    br z (R':=λi=>(y:Int)*R i%p) I ha d O f (λi _=>rfl) (ZR I.mono o).1⟩
theorem Q2(z:Pr p)(m:Nat)(W:Nat->Vc) : ∃r,r<=m/\Rk p n m W r:=by
 obtain⟨r,I,B,l,O,U⟩:=cj (n:=n) z (λj i=>W j i%p) (λj i=>⟨CA _ (by have:=z.pos;omega),Ca _ z.pos⟩) m;refine⟨r,I,B,l,O,λv=>(U v).trans ⟨λh=>h.le λg ⟨k,a,e⟩=>?_,λh=>h.le λg ⟨k,a,e⟩=>?_⟩⟩
 ·subst e;exact(Span.gen (g:=W k) ⟨k,a,rfl⟩).congr λi _=>by rw[Ep]
 ·subst e;exact(Span.gen (g:=λi=>W k i%p) ⟨k,a,rfl⟩).congr λi _=>by rw[Ep]
theorem cg(H:Pr p)(h:Rk p n m W r)(h':Rk p n m' W' r')(J : ∀j,j<m->Span p n (l4 m' W') (W j)):r<=r':=by
 obtain⟨B,l,O,x⟩:=h;obtain⟨C,d,U,o⟩:=h';have f : ∀k,k<r->∃q,q<r'/\d q=l k:=λk a=>Qu U ((o _).mpr (((x _).mp (.gen ⟨k,a,rfl⟩)).le λg ⟨j,w,e⟩=>e ▸ J j w)) (O.lt k a) (by rw[O.one k a,H.one];decide) λi u=>by rw[O.u9 k i a u];simp
 have s : ∀k,k<r->∀q,q<r'->d q=l k->k<=q:=by
  intro k
  induction k with
  | zero=>intro _ q _ _;exact Eo _
  | succ k A=>
   intro a q Y e;obtain⟨I,b,t⟩:=f k ⋯;have E:=A ⋯ I b t;have F:=O.mono k (k+1) ⋯ a;rcases Cc I q with z | z
   ·omega
   ·rcases Cc q I with y | y
    ·have:=U.mono q I y b
     omega
    ·have:q=I:=by omega
     subst this;omega
 rcases Nat.eq_zero_or_pos r with z | z
 ·omega
 ·obtain⟨q,Y,e⟩:=f (r - 1) ⋯
  have:=s (r - 1) ⋯ q Y e;omega
theorem YK(z:Pr p){h w:Nat}{f:MK}{rc I:Nat}{b c:Nat}(H:h<=b)(J:w<=c)(O:Rk p h w (λj i=>f i j) rc)(U:Rk p w h f I):I<=rc:=by
 have t:rc<=w:=by obtain⟨x,d,a⟩:=Q2 z (n:=h) w λj i=>f i j;rw[Qe z O a];exact d
 obtain⟨B,l,Y,s⟩:=O;obtain⟨y,a,e⟩:=Q2 z (n:=w) rc λk=>f<|l k;refine Co (cg z U e λi g=>?_) a;refine(Span.sum (u:=λk=>f<|l k) (λk=>B k i) (m:=rc) λk r=> .gen ⟨k,r,rfl⟩).congr λj o=>?_;have:=bN Y ((s λi=>f i j).mpr (.gen ⟨j,o,rfl⟩)) i g;rw[this];congr 1;exact jY λk _=>HF _ _
theorem eA(z:Pr p){h w:Nat}{f:MK}{rc I:Nat}{b c:Nat}(O:h<=b)(H:w<=c)(U:Rk p h w (λj i=>f i j) rc)(Y:Rk p w h f I):I=rc:=
 Nat.le_antisymm (YK z O H U Y) (YK z (f:=λi j=>f j i) H O Y U)
end
section
variable{p:Int}{n m r h w:Nat}
theorem QZ{l:MZ}(h:Nat) : ∀{r:Nat},(∀k m,k<m->m<r->l k<l m)->∃s,s<=r/\(∀k,k<s->l k<h)/\∀k,s<=k->k<r->h<=l k
 | 0,_=>⟨0,BB _,λk a=>absurd a<|BK _,λk _ a=>absurd a<|BK _⟩
 | r+1,hm=>by
  obtain⟨s,d,b,I⟩:=QZ h (r:=r) λk m a O=>hm k m a ⋯;by_cases e:l r<h
  ·refine⟨r+1,BB _,λk a=>?_,λk d b=>by omega⟩
   rcases Cc k r with z | z
   ·have:=hm k r z ⋯;omega
   ·have:k=r:=by omega
    subst this;exact e
  ·refine⟨s,by omega,b,λk a U=>?_⟩
   rcases Cc k r with z | z
   ·exact I k a z
   ·have:k=r:=by omega
    subst this;omega
theorem QA(I:s<=r)(H : ∀k,k<s->q k=eF)(J : ∀k,s<=k->k<r->q k=d6):(Br r).filter q=(Br<|r - s).map (s + ·):=by
 obtain⟨d,rfl⟩ : ∃d,r=s+d:=⟨r - s,by omega⟩;rw[GU,Hk];have b:(Br s).filter q=[]:=List.filter_eq_nil_iff.mpr λk a=>by rw[H k (BD.mp a)];decide
 have z:((Br d).map (s + ·)).filter q=(Br d).map (s + ·):=List.filter_eq_self.mpr λk a=>by obtain⟨i,e,rfl⟩:=FG.mp a;exact J _ ⋯ (by have:=BD.mp e;omega)
 rw[b,z,Ex];rfl
noncomputable def KH(h:Nat)(u v:Vc):Vc:=λi=>if i<h then u i else v (i - h)
def v9(j:Nat):Vc:=λk=>if j=k then 1 else 0
theorem Zc(z:i<h):KH h u v i=u i:=MY z
theorem JP(i:Nat):KH h u v (h+i)=v i:=by unfold KH;rw[RQ ⋯,Ex]
theorem bD(h w:Nat)(u v:Vc):zC h u++zC w v=zC (h+w) (KH h u v):=by
 unfold zC;rw[GU,Fd];congr 1
 ·exact CJ λi a=>by rw[Zc (BD.mp a)]
 ·rw[Ft]
  exact CJ λi _=>by simp only[Function.comp];rw[JP]
theorem V5(h w:Nat)(v:Vc):(zC (h+w) v).take h=zC h v:=by unfold zC;rw[<- List.map_take,List.take_range,Fg (Cz h w)]
theorem V6(h w:Nat)(v:Vc):(zC (h+w) v).drop h=zC w λj=>v (h+j):=by unfold zC;rw[GU,Fd,List.drop_append_of_le_length ⋯,List.drop_eq_nil_of_le ⋯,Ft];rfl
theorem bM(h w:Nat)(v:Vc):wx (zC (h+w) v) cS (cI (h:Int))=zC h v:=by
 have c : ¬((h:Int)<0):=by omega
 have e:min h (h+w)=h:=Fg<|Cz h w;simp[wx,ZQ,c,e,V5]
theorem bL(h w:Nat)(v:Vc):wx (zC (h+w) v) (cI (h:Int)) cS=zC w λj=>v (h+j):=by
 have c : ¬((h:Int)<0):=by omega
 have e:min h (h+w)=h:=Fg<|Cz h w;have t : ∀g:Vc,(zC w g).take w=zC w g:=λg=>EY ⋯;simp[wx,ZQ,c,e,V6,t]
theorem W1(v:Vc) : ∀n,J8 (zC n v)=cI ((Br n).map λi=>v i != 0)
 | 0=>rfl
 | n+1=>by
  have z : ∀l:List Nat,J8 (l.map λi=>D.int<|v i)=cI (l.map λi=>v i != 0):=by
   intro l
   induction l with
   | nil=>rfl
   | cons a l I=>simp[J8,pE,I]
  exact z _
theorem QN(z:pd p (h+w) r B l)(O:r<=lim)(U:s<=r)(H : ∀k,k<s->l k<h)(h2 : ∀k,s<=k->k<r->h<=l k) :
 jF [.int h,.lst (ji r (h+w) B)]=cI (.own<|ji (r - s) w λk j=>B (s+k)<|h+j):=by
 have I:zU (.nm 0) (xf<|sB<|rm<|zT<|YE (zf 0) J4<|u4<|zf 1) (YE (zf 0) (u4<|zf 1) J4) [Cell.no,Cell.val (.int h)] (ji r (h+w) B)=cI (((Br r).filter λk=>decide<|h<=l k).map λk=>D.tup<|zC w λj=>B k<|h+j):=by
  unfold ji;refine qp (λk=>decide<|h<=l k) _ _ λk d=>⟨_,rfl,?_,λY=>?_⟩
  ·have d:=BD.mp d
   simp[bM,W1];by_cases e:h<=l k
   ·simp[e]
    intro i f;have:=z.u9 k i d ⋯;simp[this]
   ·simp[e]
    exact⟨l k,by omega,by rw[z.one k d];decide⟩
  ·simp[bL]
 rw[QA U (λk d=>decide_eq_false (by have:=H k d;omega)) (λk a b=>decide_eq_true<|h2 k a b)]at I;simp[jF,jg,je,O,jx,qx,Bu,I];unfold ji;rfl
noncomputable def MP(p:Int)(h w:Nat)(f:MK)(v:Vc):Prop:=∀i,i<h->zz (λj=>f i j*v j) w%p=0
theorem aH{f:MK}{v:Vc}(I:Span p (h+w) (l4 w λj=>KH h (λi=>f i j)<|v9 j) v) : ∀i,i<h->v i%p=zz (λj=>f i j*v (h+j)) w%p:=by
 induction I with
 | @zero v b=>
  intro i a;rw[b i ⋯];have:zz (λj=>f i j*v (h+j)) w%p=zz (λ_=>0) w%p:=qF λj O=>by rw[Cu,b (h+j) ⋯];simp
  rw[this,jR];rfl
 | @step v u g c U l z Y=>
  intro i a;obtain⟨m,k,rfl⟩:=U;rw[z i ⋯,EA,Y i a,<- EA];have e:zz (λj=>f i j*v (h+j)) w%p=zz (λj=>f i j*u (h+j)+c*(f i j*v9 m j)) w%p:=qF λj O=>by rw[Cu,z (h+j) ⋯,<- Cu];simp only[JP];rw[Int.mul_add,Int.mul_left_comm]
  rw[e,xY,wF,xE (f:=λj=>f i j*v9 m j) k λj _ d=>by simp[v9,CP d]];simp[v9,Zc a]
theorem WZ(z:Pr p)(w:Nat):pd p w w v9 id where
 lt:=λk hk=>hk
 mono:=λk m hk _=>hk
 one:=λk _=>MY rfl
 u9:=λk j _ I=>RQ (by simp only[id]at I;omega)
 Dj:=λk m _ _ O=>RQ (by simp only[id];omega)
 sx:=λk i _ _=>by have:=z.two;unfold v9;split<;>omega
theorem Span.map(t:MZ)(z : ∀i,i<n'->t i<n)(I : ∀g,G g->Span p n' G' λi=>g<|t i)(O:Span p n G v):Span p n' G' λi=>v (t i):=by
 induction O with
 | @zero v b=>exact .zero λi a=>b _<|z i a
 | @step v u g c U e Y d=>exact((I _ U).add d c).congr λi a=>Y _<|z i a
end
section
variable{p:Int}{h w q r:Nat}
def app(f:MK)(w:Nat)(v:Vc):Vc:=λi=>zz (λj=>f i j*v j) w
end
@[simp] theorem ix(r):qx (.nest r) = .no:=rfl
@[simp] theorem mG(r):qx (.own r) = .no:=rfl
@[simp] theorem mF(d):qx (.val d) = .val d:=rfl
@[simp] theorem om:qx .no = .no:=rfl
def yP(w:MX)(k:Nat):Nat:=if w k then k+1 else k
def vN(w:MX)(k:Nat):Nat:=if w k then k else k+1
theorem VQ(w:MX)(wd:MZ)(k):nf w wd k=wd (vN w k):=by unfold nf vN;split<;>rfl
theorem bV(w:MX)(wd:MZ)(k):n6 w wd k=wd (yP w k):=by unfold n6 yP;split<;>rfl
theorem Wr(w:MX)(h:k<m):yP w k<m+1:=by unfold yP;split<;>omega
theorem V4(w:MX)(h:k<m):vN w k<m+1:=by unfold vN;split<;>omega
section
variable{p:Int}{m:Nat}{w:MX}{wd:MZ}{f g T:MV}
theorem w6(m:Nat)(F:Nat->D):xy ((Br m).map F)=(Br m).map λ(k:Nat)=>D.tup [.int k,F k]:=by unfold xy;rw[Cb,Ez];apply CJ;intro k a;have a:=BD.mp a;simp[a]
end
structure La where
 s:Nat
 n:Nat
 v:Nat->Vc
def jH:=jg 1<|m3 (sB<|zw B2 (YC<|zl 0)<|zm<|.int 30) k8 jK
noncomputable def jq:List D->Option Xn:=YI 1 (yg (sB (zw B2 (YC (zl 0)) (zm (.int 30)))) (dw "TooMany") o6)
noncomputable def ky:=jg 2<|qv<|zq zD<|zb (k6<|zb (wJ<|zl 1)<|zb (zf 0)<|zb (zS<|zl 1) zx) zx
theorem zo(h:F γ=cI (.next γ'))(g:G γ'=r):zF F G γ=r:=by rw[jt,h];exact g
theorem j8(h:F (je n ds)=cI (.ret r)):jg n F ds=cI r:=by show(F<|je n ds).bind _=_;rw[h];rfl
@[simp] def gT:=@W8.eq_1
def tP(m z:Nat)(w H:MX):Prop:=m=z/\∀k,k<m->w k=H k
instance (m m':Nat) (w w':MX):Decidable (tP m m' w w'):=inferInstanceAs (Decidable (m=m'/\∀k,k<m->w k=w' k))
section
variable{p p':Int}{m m':Nat}{w w':MX}{wd DJ:MZ}{T T':MV}
theorem ez:jf (xF p m w wd T)=cI (.T,[.int p,.tup<|zC (m+1) λk=>(wd k:Int),.tup (qf m w wd T)]):=rfl
theorem gS(k):jf (Zf w wd T k)=cI (.T,[.str (q9<|l6<|w k),jW (nf w wd k) (n6 w wd k) (T k)]):=rfl
theorem Yd:zU (.nm 0) jX (gB (zl 0)<|zm<|.int 0) [Cell.no] (qf m w wd T)=cI ((Br m).map λk=>D.str<|q9<|l6<|w k):=by unfold qf;refine zL _ _ λk a=>zO rfl rfl ?_;simp[gS]
theorem ko(H:m<=900):jZ [xF p m w wd T]=cI (.val<|.str<|xT m w):=by
 have U:=jU;have z:m<=lim:=by omega
 have st:Z9 ((Br m).map λk=>D.str<|q9<|l6<|w k)=cI ((Br m).map λk=>q9<|l6<|w k):=QY _ _;have I:((Br m).map λk=>q9<|l6<|w k).all zY=d6:=by simp only[Ea];intro x O;obtain⟨k,_,rfl⟩:=FG.mp O;unfold l6;split<;>decide
 have a:zY "" = d6:=by decide +kernel
 simp only[jZ,jg,je];simp only[nI,gW,Zh,QK,yK,XN,XM,KN,kX,BY,Hy,Et,FW,Bu,ER,BE,qa,ez,Bw,BZ,qW,Nm,BG,nB,Nat.sub_self,GN];rw[Wv,MY z,show jx 1 [] [Cell.val (xF p m w wd T)]=[Cell.no]from rfl,Yd];simp only[BZ,Bw,st];rw[MY ⟨by simpa using z,I,a⟩];rfl
end
theorem Wg(xs:List D)(n:Nat)(H:xs.length=n)(J : ∀i (h:i<n),∃z,xs[i]'(H ▸ h) = .int z)(bl:n<=63)(k:Int)(L:0<=k)(bn:k<100000) :
 ∃m,zy [.lst xs,.int k]=cI (.val<|.int m)/\0<=m/\m<1000000007:=by
 have O : ∀x:Int,QF x 48271=d6:=λx=>Wo _ _ ⋯ ⋯;have d : ∀x:Int,QF 7 x=d6:=λx=>XF _ _ ⋯ ⋯;have e : ∀x:Int,QF 13 x=d6:=λx=>XF _ _ ⋯ ⋯;have f : ∀x:Int,QF x 69621=d6:=λx=>Wo _ _ ⋯ ⋯;have g:QF (7*k) k=d6:=Wo _ _ ⋯ ⋯;have I:ny 10 9=d6:=by decide
 have U:ny 10 30=d6:=by decide
 have hl:lim=2500:=rfl;by_cases E:n=0
 ·subst E
  have Y:xs=[]:=Cf H;subst Y;simp[zy,jg,je,jt,O,d,e,f,g,I,U];omega
 ·have l:0<n:=by omega
  obtain⟨i,Q⟩:=EW (CA k<|show(n:Int)≠0 by omega);have r:i<n:=by have:=Ca k (show(0:Int)<n by omega);omega
  obtain⟨zi,y⟩:=J i r;have ii:o3 n (i:Int)=cI i:=by rw[jv,MY r]
  by_cases N:n=1
  ·subst N
   have o:i=0:=by omega
   subst o;have k1:k%1=0:=by omega
   simp[zy,jg,je,jt,O,d,e,f,g,I,U,H,y];omega
  ·obtain⟨z0,Y⟩:=J 0 l
   have o:o3 n 0=cI 0:=by have:=jv n 0;rw[MY l]at this;exact this
   have B:(0:Int)<(n:Int) - 1:=by omega
   have C:(1:Int)<(n:Int):=by omega
   have w:1<n:=by omega
   have X:(n:Int) - 1<1073741824:=by omega
   have Z:(0:Int)<(n:Int):=by omega
   obtain⟨j,R⟩:=EW (CA k<|show(n:Int) - 1≠0 by omega);have u:1+j<n:=by have:=Ca k B;omega
   obtain⟨zj,M⟩:=J (1+j) u;have W:o3 n (1+(j:Int))=cI (1+j):=by have:=jv n<|1+j;rw[MY u]at this;rw[<- this];congr 1
   have P:0<=k/((n:Int) - 1)/\k/((n:Int) - 1)<=k:=⟨Int.ediv_nonneg L ⋯,Int.ediv_le_self _ L⟩;obtain⟨t,S⟩:=EW P.1;by_cases A:z0%2=1
   ·obtain⟨a,F,c6⟩ : ∃a:Nat,(if (t:Int)<60 then (t:Int)else 60)=a/\a<=60:=by
     split
     ·exact⟨t,rfl,by omega⟩
     ·exact⟨60,rfl,by omega⟩
    have G:inR (a:Int)=d6:=dc ⋯ ⋯;simp[zy,jg,je,jt,O,d,e,f,g,H,l,u,C,w,Y,o,B,X,A,R,W,M,S,I,U];rw[F,MY G];simp only[Bw,qA,Cr];rw[jl a λi=>(i:Int)];have K : ∀(m s:Nat) (v:Int) (c:Cell),∃p b,qM (.nm 3) (jn 2<|zw K5 (zf 2)<|zw gF (zm<|D.int 10)<|zm<|D.int 9) ((List.range' s m).map λ(i:Nat)=>D.int i) [.val (.lst xs),.val<|.int k,.val<|.int v,c,.no] =
     cI (.next [.val (.lst xs),.val<|.int k,.val<|.int p,b,.no]):=by
     intro m
     induction m with
     | zero=>intro s v c;exact⟨v,c,rfl⟩
     | succ m T=>
      intro s v c;rw[Lb,BY,jG];obtain⟨p,b,h⟩:=T (s+1) (v/10 ^ 9)<|.val<|.int s;refine⟨p,b,?_⟩;rw[<- h];simp[I]
    obtain⟨p,b,h⟩:=K a 0 zj .no;rw[<- EK]at h;rw[h];simp[I];omega
   ·simp[zy,jg,je,jt,O,d,e,f,g,H,C,w,Z,l,Y,o,A,Q,y,r,ii,I,U]
    omega
theorem gJ(H:List Int)(J:H.length<=63)(k:Int)(I:0<=k)(z:k<100000) : ∃m,zy [Xy H,.int k]=cI (.val<|.int m)/\0<=m/\m<1000000007:=
 Wg (H.map D.int) H.length ⋯ (λi a=>⟨H[i],by simp⟩) J k I z
noncomputable def qy(z:List Int)(k:Int):Int:=match zy [Xy z,.int k]with
 | some (.val<|.int m)=>m
 | _=>0
theorem kj(I:ns.length<=63)(H:0<=k)(z:k<100000):zy [Xy ns,.int k]=cI (.val<|.int<|qy ns k)/\0<=qy ns k/\qy ns k<1000000007:=by
 obtain⟨m,h,a,b⟩:=gJ ns I k H z;have e:qy ns k=m:=by unfold qy;rw[h]
 rw[e];exact⟨h,a,b⟩
noncomputable def QG(bs:List (Int×Int)):List D:=bs.map λb=>D.tup [.int b.1,.int b.2]
@[simp] theorem nA(bs):(QG bs).length=bs.length:=by simp[QG]
noncomputable def dM(bs:List (Int×Int)):List (Int×Int):=(xv bs).map λi=>bs.getD i (0,0)
@[simp] def oS:=@YD.eq_1
section ap
variable(γ:Ctx)
@[simp] def oR:=@iZ.eq_1
@[simp] def oV:=@yM.eq_1
@[simp] def oW:=@lj.eq_1
@[simp] def uN:=@Ax.eq_1
end ap
noncomputable def AQ(b:Int×Int)(r:Int):Bool:=decide (b.1<=r) && decide (r<=b.2)
noncomputable def cE(bs:List (Int×Int))(r:Int):List Nat:=(Br bs.length).filter λi=>AQ (bs.getD i (0,0)) r
def rQ(l:List Nat):List D:=l.map λ(i:Nat)=>D.int i
@[simp] theorem oo(l):(rQ l).length=l.length:=by simp[rQ]
theorem KW(z:Pr p)(I:h<=100)(H:w<=lim)(f:MK) :
 ∃r B l,vZ [.int p,jW h w f]=cI (.own<|ji r h B)/\pd p h r B l/\∀v,Span p h (l4 r B) v↔Span p h (l4 w λj i=>f i j) v:=by
 obtain⟨r,B,l,e,O,U⟩:=yS z I H .T λj i=>f i j;have Y:=jU;refine⟨r,B,l,?_,O,U⟩;simp only[Dv]at e;have o:=xK f (show h<=lim by omega) H;unfold jW at o ⊢;simp[vZ,jg,je,o,e]
theorem bB(n:Nat)(v:Vc):xy (zC n v)=(Br n).map λ(i:Nat)=>D.tup [.int i,.int (v i)]:=by unfold xy;rw[qC];refine CJ λi a=>?_;have:=BD.mp a;simp[zC,this]
theorem WG(Z:n<=lim)(v:Vc)(L:a<n)(J : ∀i,i<a->v i=0)(H:v a≠0):qr [.tup (zC n v)]=cI (.val<|.int a):=by
 have I:zU (.tp [0,1]) (sB<|zw r6 (zf 1)<|zm<|.int 0) (zf 0) [Cell.no,Cell.no] ((Br n).map λ(i:Nat)=>D.tup [.int i,.int (v i)])=cI (((Br n).filter λi=> !decide (v i=0)).map λ(i:Nat)=>D.int i):=by refine qp _ _ _ λi d=>⟨_,rfl,?_,λ_=>rfl⟩;simp
 cases hf:(Br n).filter λi=> !decide (v i=0)with
 | nil=>exact absurd (by have:=Vp hf a L;simpa using this) H
 | cons b rest=>
  obtain⟨Y,O,U⟩:=JL hf;have e:b=a:=by
   rcases FF a b with z | z | z
   ·exact absurd (by have:=U a z;simpa using this) H
   ·exact z.symm
   ·exact absurd (J b z) (by simpa using O)
  subst e;rw[hf]at I;simp[qr,jg,je,bB,Z,jx,Bu,I]
theorem KC(L:a<n)(v z:Vc)(x:Int)(H:z a=x)(J : ∀i,i<n->i≠a->z i=v i):(zC n v).set a (.int x)=zC n z:=by
 apply Gu;intro i;rw[List.getElem?_set];by_cases b:i<n
 ·by_cases e:a=i
  ·subst e;simp[L,zC,H]
  ·have:=J i b (CP e)
   simp[e,zC,b,this]
 ·have I:(zC n v)[i]? = cS:=by simp[zC];omega
  have O:(zC n z)[i]? = cS:=by simp[zC];omega
  rw[I,O,RQ ⋯]
theorem bH(h h' w:Nat)(f g F:MK)(H : ∀i j,i<h->j<w->F i j=f i j)(I : ∀i j,i<h'->j<w->F (h+i) j=g i j):ji h w f++ji h' w g=ji (h+h') w F:=by
 unfold ji;rw[GU,Fd,Ft];congr 1
 ·exact CJ λi a=>by rw[kE λj z=>(H i j (BD.mp a) z).symm]
 ·exact CJ λi a=>by simp only[Function.comp];rw[kE λj z=>(I i j (BD.mp a) z).symm]
@[simp] def ph:=@uh.eq_1
section
variable{p:Int}{m:Nat}{w:MX}{wd:MZ}{T:MV}{a:Nat}
abbrev lk(p:Int)(m:Nat)(w:MX)(wd:MZ)(T:MV)(i j:Int)(a:Nat)(ds:List D)(c:Cell):Ctx:=[.val (xF p m w wd T),.val (.int i),.val (.int j),.val (jW a a λi j=>if i=j then 1 else 0),.own ds,c]
end
@[simp] def nN:=@ec.eq_1
noncomputable def Dh:=(ec 7<|zN (zQ<|zl 6) (.nm 0) 1 [0,1,5,8,9] (sB<|zq vX<|zb (zf 1)<|zb (gB (zT<|gB (zl 2)<|zm<|.int 2)<|zf 3)<|zb (zf 5)<|zb (zf 0) zx) (k6<|zb (zf 4)<|zb (zf 0) zx))
section
variable{p:Int}{m:Nat}{w:MX}{wd:MZ}{T:MV}
theorem vn:jf (xF p m w wd T)=cI (.T,[.int p,.tup<|zC (m+1) λk=>(wd k:Int),.tup (qf m w wd T)]):=rfl
end
@[simp] theorem J0(γ:Ctx)(f):yM f γ=(f γ).bind λd=>match d with
 | .str z=>if zY z=d6 then cI (xy<|xl z)else cS
 | _=>cS:=rfl
@[simp] theorem bT(γ:Ctx)(f g):af f g γ=(f γ).bind λd=>(g γ).bind λe=>match d,e with
 | .str x,.str y=>if zY x=d6/\zY y=d6 then cI (.str<|x++y)else cS
 | _,_=>cS:=rfl
theorem w5(m:Nat)(w:MX):xy (xl<|xT m w)=(Br m).map λ(k:Nat)=>D.tup [.int k,.str (q9<|l6<|w k)]:=by
 have e:xl (xT m w)=(Br m).map λk=>D.str (q9<|l6<|w k):=by unfold xl;rw[xB,Ft];rfl
 unfold xy;rw[e];simp only[Cb,Ez];refine CJ λk a=>?_;simp[BD.mp a]
theorem V3(w:MX)(k:Nat):jd [.int k,.str (q9<|l6<|w k)]=cI (.val<|.tup [.int ((yP w k:Nat):Int),.int ((vN w k:Nat):Int)]):=by have q:=V0<|w k;cases h:w k<;>rw[h]at q<;>simp[jd,jg,je,jt,q,yP,vN,h]
theorem Ye(s:Nat)(w:MX):xT s w++q9 (l6<|w s)=xT (s+1) w:=by
 have h:(xT s w++q9 (l6<|w s)).cps.toList=(xT (s+1) w).cps.toList:=by show((xT s w).cps++(q9<|l6<|w s).cps).toList=_;rw[Array.toList_append,xB,xB,EO,Fd];rfl
 have d:=Array.toList_inj.mp h;generalize xT s w++q9 (l6<|w s)=a at d;generalize xT (s+1) w=b at d;cases a;cases b;exact congrArg Str.mk d
theorem iJ{c:Int}(H:0<=c){m:Nat}(J:m<=5) : ∃w,j3 [.int c,.int (1+(m:Int))]=cI (.val<|.str<|xT m w):=by
 have p:=jU;have O:m<=lim:=by omega
 refine⟨λk=>decide (c/2 ^ k%2=1),?_⟩;generalize hw:(λk:Nat=>decide (c/2 ^ k%2=1))=w;have U : ∀(k s:Nat) (a:Cell),s+k=m->∃z I,qM (.nm 3) (zF (jn 2 (af (zf 2) (wI (zm (.str "rl")) (zw kh (zf 0) (zm (.int 2)))))) (jn 0 (zw K5 (zf 0) (zm (.int 2))))) ((List.range' s k).map λ(i:Nat)=>D.int i) [.val (.int (c/2 ^ s)),.val (.int (1+(m:Int))),.val (.str (xT s w)),a] =
  cI (.next [z,.val<|.int<|1+(m:Int),.val<|.str<|xT m w,I]):=by
  intro k
  induction k with
  | zero=>
   intro s a h;obtain rfl:s=m:=by omega
   exact⟨_,a,rfl⟩
  | succ k Y=>
   intro s a h;obtain⟨z,I,e⟩:=Y (s+1) (.val (.int s)) ⋯;refine⟨z,I,?_⟩;rw[Lb,BY,jG];have l:wI (zm (.str "rl")) (zw kh (zf 0) (zm (.int 2))) [.val (.int (c/2 ^ s)),.val (.int (1+(m:Int))),.val (.str (xT s w)),.val (.int s)]=cI (.str (q9 (l6 (w s)))):=by
    have ev:zw kh (zf 0) (zm<|.int 2) [.val (.int<|c/2 ^ s),.val<|.int<|1+(m:Int),.val<|.str<|xT s w,.val (.int s)]=cI (.int<|c/2 ^ s%2):=by simp
    rw[bS,ev];have q:c/2 ^ s%2=0\/c/2 ^ s%2=1:=by omega
    have ws:w s=decide (c/2 ^ s%2=1):=by rw[<- hw]
    rw[ws];rcases q with q | q
    ·rw[q];rfl
    ·rw[q];rfl
   have g:=yx w (show s<=1000 by omega);have j:zY (q9<|l6<|w s)=d6:=rfl;have d:c/2 ^ s/2=c/2 ^ (s+1):=by rw[Int.pow_succ,Int.ediv_ediv_of_nonneg (Int.pow_nonneg ⋯)]
   simp only[ZV,Bw,CU,CD];rw[jt];simp only[nH,bT,qO,BE,BG,zP,Bw,l,g,j,and_self,if_true,Ye,BZ,CU,CD];simp only[yQ,qO,Zh,BE,zP,Bw,bK];rw[MY ⟨by omega,by omega⟩,d];exact e
 obtain⟨o,a,e⟩:=U m 0 .no ⋯;rw[<- EK]at e;have b:c/2 ^ 0=c:=by simp
 have f:(1:Int)+(m:Int) - 1=(m:Int):=by omega
 have n:xT 0 w=("" : Str):=rfl;rw[b,n]at e;simp[j3,jg,je,jt,f,O,qA,Bu];rw[jl m λi=>(i:Int),e];simp
def pr(a b:Nat):D:= .tup [.int a,.int b]
@[simp] theorem uk(a b):jf (pr a b)=cI (.T,[.int (a:Int),.int (b:Int)]):=rfl
noncomputable def mk(lo:Nat)(ch:List Int)(r:Nat):Int:=if lo<=r then ch.getD (r - lo) 0 else 0
noncomputable def rS(h w:Nat)(f:MK):List D:=(Br h).map λi=>D.lst<|zC w<|f i
@[simp] theorem ot(h w f):(rS h w f).length=h:=by simp[rS]
noncomputable def pG(m:Nat)(w:MX)(wd:MZ)(T:MV):List D:=(Br m).map λk=>D.lst<|rS (nf w wd k) (n6 w wd k)<|T k
noncomputable def aJ(m:Nat)(w:MX)(wd:MZ)(T:MV):D:= .tup [.lst (zC (m+1) λk=>(wd k:Int)),.lst (pG m w wd T)]
noncomputable def mW(m:Nat)(w:MX)(wd z:MZ)(J:MV):List D:=(Br m).map λk=>jW (nf w wd k) (n6 w z k)<|J k
noncomputable def zZ:=jg 2<|wo<|zN (zQ<|zT<|k6<|zb (zw wb (zf 1)<|zm<|.int 1)<|zb (zf 1) zx) (.nm 0) 1 [0] (sB<|qh A1 DU (zm<|.int 0) (zf 0)<|Jf<|zf 1) (zf 0)
noncomputable def qu:=jg 2<|qv<|et<|jj<|zN (zQ<|jj<|qi zZ<|zb (zf 0)<|zb (zf 1) zx) (.nm 0) 1 [0,1] jX (zw i9 (zq ve<|zb (zf 0)<|zb (wI (zf 1)<|zf 0) zx)<|zf 2)
noncomputable def j5:=jg 2<|qv<|et<|jj<|zN (zQ<|jj<|qi zZ<|zb (zf 0)<|zb (zf 1) zx) (.nm 0) 1 [0,1] jX (zw i9 (zq qE<|zb (zf 0)<|zb (wI (zf 1)<|zf 0) zx)<|zf 2)
noncomputable def zX:=jg 2<|zF (m3 (xf<|sB<|zq j4<|zb (zw qo (Jf<|zf 0)<|zm<|.int 1)<|zb (zf 1) zx) k8 jK)<|m3 (YH (xf<|sB<|zq qu<|zb (zf 0)<|zb (zf 1) zx)<|xf<|sB<|zq j5<|zb (zf 0)<|zb (zf 1) zx) k8 jK
noncomputable def jw:List D->Option Xn:=YI 2 (yv (yg (xf (sB (zq j4 (zb (zw qo (Jf (zf 0)) (zm (.int 1))) (zb (zf 1) zx))))) (iF "NoRoom" (zf 1)) o6) (m3 (xf (sB (zq j4 (zb (zw qo (Jf (zf 0)) (zm (.int 1))) (zb (zf 1) zx))))) k8 jK) (yg (YH (xf (sB (zq qu (zb (zf 0) (zb (zf 1) zx))))) (xf (sB (zq j5 (zb (zf 0) (zb (zf 1) zx)))))) (dw "NoTurn") o6))
noncomputable def ZZ:=jg 3<|zF (jn 2<|YC<|jj<|zN (zQ<|zT<|k6<|zb (zw wb (zf 1)<|zm<|.int 1)<|zb (zw qo (zf 1)<|zm<|.int 1) zx) (.nm 0) 1 [0] (sB<|zq j4<|zb (wJ<|zl 1)<|zb (zf 0) zx) (gB (zl 1)<|zf 0))<|qv<|zS<|jj<|zN (X6<|zf 0) (.tp [0,1]) 2 [1,2] jX (Z1 (sB<|zw i9 (zf 0)<|zf 2) (zw wb (zf 3)<|zf 1)<|zf 1)
noncomputable def qD:=jg 3<|zF (wq<|zq zX<|zb (zf 0)<|zb (zf 1) zx)<|qv<|zq ZZ<|zb (zf 2)<|zb (zf 1) zx
noncomputable def xA:List D->Option Xn:=YI 3<|xU jw<|zb (zf 0)<|zb (zf 1) zx
noncomputable def qH:=jg 3 (zF (wq (zq zX (zb (zf 0) (zb (zf 1) zx)))) (zF (jn 2 (qS (qi zZ (zb (zf 0) (zb (zf 1) zx))))) (qv (dY (zm (.str "")) (jj (zN (yM (zf 0)) (.tp [0,1]) 2 [2] jX (Z1 (sB (uc (zf 0) (zl 2))) (zq jQ (zb (zf 1) zx)) (zf 1))))))))
noncomputable def km:List D->Option Xn:=YI 3<|xU jw<|zb (zf 0)<|zb (zf 1) zx
noncomputable def qY:=jg 4 (zF (m3 (xf (sB (qh A1 A1 (zm (.int 0)) (zf 1) (Jf (zf 0))))) (qv (zm (.str "room"))) jK) (zF (jn 2 (lg (lg (zf 0) J4 (u4 (zf 1))) (u4 (pZ (zm (.int 1)))) J4)) (zF (jn 3 (lg (lg (zf 0) (u4 (zf 1)) J4) J4 (u4 (zm (.int 1))))) (zF (m3 (YH (sB (zw i9 (zf 2) (zf 3))) (sB (zw r6 (zf 2) (zm (.str ""))))) (qv (zm (.str "turn"))) jK) (qv (zm (.str "told")))))))
noncomputable def ku:=jg 3<|zF (m3 (sB<|zw i9 (zf 0)<|zf 1) (yU 2) jK)<|qv<|Z1 (sB<|zw i9 (zf 0)<|zf 2) (zf 1)<|zf 0
noncomputable def qI:=jg 4<|zF (wq<|zq zX<|zb (zf 0)<|zb (zf 1) zx)<|zF (jn 3<|qS<|zN (zQ<|zl 2) (.nm 0) 1 [1] (hJ (sB<|zw r6 (gB (zl 0)<|zm<|.int 0)<|zf 1)<|sB<|zw r6 (gB (zl 0)<|zm<|.int 1)<|zf 1) (zf 0))<|wo<|YD<|jj<|zN (zQ<|zl 3) (.tp [0,1]) 2 [1] jX (k6<|zb (zq ku<|zb (zf 0)<|zb (zf 2)<|zb (zw qo (zf 2)<|zm<|.int 1) zx)<|zb (zq ku<|zb (zf 1)<|zb (zw wb (zf 2)<|zm<|.int 1)<|zb (zf 2) zx) zx)
noncomputable def kn:List D->Option Xn:=YI 4<|xU jw<|zb (zf 0)<|zb (zf 1) zx
def wl(l:List Bool):Str:=⟨⟨l.map l6⟩⟩
theorem yw(m w):xT m w=wl ((Br m).map w):=by have h:=xB m w;rw[show(Br m).map (λk=>l6<|w k)=((Br m).map w).map l6 by rw[Ft];rfl]at h;unfold wl;generalize xT m w=a at h;obtain⟨⟨l⟩⟩:=a;exact congrArg (λx=>Str.mk ⟨x⟩) h
theorem kO{z I:Type}{f g:z->I}{xs:List z}(h:xs.map f=xs.map g){a:z}(H:a∈xs):f a=g a:=List.map_inj_left.mp h a H
noncomputable def K8:Nat->List (List Bool)
 | 0=>[[]]
 | n+1=>(K8 n).flatMap λl=>[eF::l,d6::l]
def words:List (List Bool):=(Br 6).flatMap K8
theorem wV : ∀l:List Bool,l∈K8 l.length
 | []=>Hj.mpr rfl
 | b::l=>GF.mpr ⟨l,wV l,by cases b<;>simp⟩
theorem Jx{l:List Bool}(h:l.length<=5):l∈words:=GF.mpr ⟨l.length,BD.mpr ⋯,wV l⟩
noncomputable def HN:List (List Bool×Nat):=words.flatMap λl=>(Br<|l.length+1).map λk=>(l,k)
theorem yE{l:List Bool}{k:Nat}(h:l.length<=5)(z:k<=l.length):(l,k)∈HN:=
 GF.mpr ⟨l,Jx h,FG.mpr ⟨k,BD.mpr ⋯,rfl⟩⟩
noncomputable def vg(l:List Bool)(k:Nat):Bool:=k==0 || k==l.length || l[k - 1]? != l[k]?
def LU:List (List Bool×Nat):=HN.filter λa=>vg a.1 a.2
theorem Vu{l:List Bool}{k:Nat}(h:l.length<=5)(H:k<=l.length)(z:vg l k=d6):(l,k)∈LU:=
 Ef.mpr ⟨yE h H,z⟩
theorem JZ:LU.map (λa=>zX [.str (wl a.1),.int (a.2:Int)])=LU.map λ_=>cI (.val .i3):=by kernel_rfl
theorem QI{l:List Bool}{k:Nat}(h:l.length<=5)(H:k<=l.length)(z:vg l k=d6):zX [.str (wl l),.int (k:Int)]=cI (.val .i3):=by have q:=kO JZ<|Vu h H z;dsimp only at q;exact q
noncomputable def rP(n k:Nat)(u:Nat->Int):Int:=if 0<k then (if k+1<n then u (k - 1)+(u (k+1)+0)else u (k - 1)+0)else if k+1<n then u (k+1)+0 else 0
noncomputable def mv(n k:Nat)(u:Nat->Int)(i:Nat):Int:=if i=k then rP n k u - u k else u i
theorem gX(γ:Ctx)(i g):W9 i g γ=(qb γ[i]?).bind λz=>(g γ).bind λa=>match a.1 with
 | .T=>if z.length+a.2.length<=lim then cI (.next<|γ.set i<|.own<|z++a.2)else cS
 | .L=>cS:=rfl
def off(z I:MZ):Nat->Nat
 | 0=>0
 | k+1=>off z I k+z k*I k
noncomputable def MA(n:Nat)(z I:MZ)(T:MV):List D:=(Br n).map λk=>jW (z k) (I k)<|T k
section
variable{wd:MZ}{b:La}{NV:List La}
theorem KG(g:Nat->Vc)(z:q<=lim)(I:h<=lim):ky [.int h,.lst (ji q h g)]=cI (.val<|jW h q λi j=>g j i):=by have e:=xK (h:=q) (w:=h) g z I;unfold jW at e;simp[ky,jg,je,Bu,z,e];rfl
theorem aZ(u:Nat->Int)(L:List Nat):(L.map λj=>D.int<|u j)=zC L.length λi=>u (L.getD i 0):=by
 unfold zC
 conv=>lhs;rw[<- kN 0 L]
 rw[Ft];rfl
theorem wD(P:MX)(g:Nat->Int) : ∀N,zz (λi=>g<|((Br N).filter P).getD i 0) ((Br N).filter P).length=zz (λj=>if P j=d6 then g j else 0) N
 | 0=>rfl
 | N+1=>by
  have z:=wD P g N;rw[EO,Hk];show _=zz _ N+_;rw[<- z];cases hP:P N with
  | false=>simp[hP]
  | true=>
   have e:([N].filter P)=[N]:=by simp[hP]
   rw[e,Cs,FH];show zz _ _+_=_;simp only[if_true];congr 1
   ·refine jY λi a=>?_
    simp[BX,Ck a]
   ·simp[BX,hP]
end
def b1:=(m3 (xf<|sB<|zq Zk<|zb (zf 1) zx) k8 jK)
def b2:=(jn 3<|zw qo (Jf<|zf 1)<|zm<|.int 1)
noncomputable def b3:=(m3 (xf<|sB<|et<|jj<|zN (zQ<|zl 2) (.nm 0) 1 [3] jX (zq yR<|zb (zf 1)<|zb (zf 0) zx)) k8 jK)
def b4:=(jn 4<|qS<|YD<|zl 2)
noncomputable def b5:=(jn 5<|qS<|zN (jz<|zf 3) (.nm 0) 1 [4] jX (qS<|qi WH<|zb (zf 1)<|zb (zf 0) zx))
noncomputable def b6:=(jn 6<|zS<|jj<|zN (zQ<|zl 5) (.nm 0) 1 [] jX (wJ<|zl 0))
def b7:=(m3 (sB<|zw B2 (YC<|zl 6)<|zm<|.int 30) k8 jK)
noncomputable def b8:=(jn 7<|qS<|zN (yM<|zf 1) (.tp [0,1]) 2 [5] jX (k6<|zb (zf 1)<|zb (zq QO<|zb (gB (zl 2)<|zq ve<|zb (zf 0)<|zb (zf 1) zx)<|zb (gB (zl 2)<|zq qE<|zb (zf 0)<|zb (zf 1) zx) zx) zx))
def b9:=(qv<|k6<|zb (zf 0)<|zb (zf 6)<|zb (zS<|zl 7) zx)
noncomputable def x1:CO Xn:=(yg (xf (sB (zq Zk (zb (zf 1) zx)))) (dw "NoRow") o6)
noncomputable def x3:CO Xn:=(yg (xf (sB (et (jj (zN (zQ (zl 2)) (.nm 0) 1 [3] jX (zq yR (zb (zf 1) (zb (zf 0) zx)))))))) (dw "NoRow") o6)
noncomputable def x7:CO Xn:=(yg (sB (zw B2 (YC (zl 6)) (zm (.int 30)))) (dw "TooMany") o6)
noncomputable def lu(m:Nat)(bs:List (Int×Int)):List D:=(Br<|m+1).map λ(r:Nat)=>D.lst<|rQ<|cE bs r
noncomputable def dz(m:Nat)(bs:List (Int×Int)):List D:=zC (m+1) λr=>((cE bs r).length:Int)
section
variable{p:Int}{m:Nat}{w:MX}{bs:List (Int×Int)}
abbrev g0(p:Int)(z:Str)(bs:List (Int×Int)):Ctx:=[.val (.int p),.val (.str z),.val (.lst (QG bs)),.no,.no,.no,.no,.no]
abbrev g2(p:Int)(z:Str)(m:Nat)(bs:List (Int×Int)):Ctx:=[.val (.int p),.val (.str z),.val (.lst (QG bs)),.val (.int ((m+1:Nat):Int)),.no,.no,.no,.no]
abbrev g6(p:Int)(z:Str)(m:Nat)(bs:List (Int×Int)):Ctx:=[.val (.int p),.val (.str z),.val (.lst (QG bs)),.val (.int ((m+1:Nat):Int)),.val (.lst (QG (dM bs))),.val (.lst (lu m (dM bs))),.val (.tup (dz m (dM bs))),.no]
end
noncomputable def NC(n:Nat)(ks:List Nat)(u:Nat->Int):Nat->Int:=ks.foldl (λu k=>mv n k u) u
noncomputable def Mi(n:Nat)(ks:List Nat)(u:Nat->Int):Nat->Nat->Int
 | 0=>u
 | j+1=>NC n ks<|Mi n ks u j
noncomputable def acc(n:Nat)(ks:List Nat)(u:Nat->Int):Nat->Nat->Int
 | 0=>λ_=>0
 | j+1=>λi=>acc n ks u j i+Mi n ks u j i
section
variable{wd:MZ}{N m k r:Nat}{A:Nat->La}{p:Int}{w:MX}{T:MV}{B:Nat->Vc}{l:MZ}
theorem bR(h:k<m):(qf m w wd T)[k]? = cI (Zf w wd T k):=by simp[qf,h]
theorem Wu(h:k<(qf m w wd T).length):(qf m w wd T)[k]=Zf w wd T k:=by simp[qf]
theorem Ww(w wd T k):jf (Zf w wd T k)=cI (.T,[.str (q9<|l6<|w k),jW (nf w wd k) (n6 w wd k) (T k)]):=rfl
end
noncomputable def oD(n:Nat):Option Vc->D
 | none=> .i3
 | some y=> .tup (zC n y)
section
variable{wd:MZ}{m k:Nat}{p:Int}{w:MX}{T:MV}
theorem wZ(l:MZ) : ∀L:List Nat,yk (L.map λj=>D.int ((l j:Nat):Int))=cI (L.map λj=>((l j:Nat):Int))
 | []=>rfl
 | j::L=>by simp[yk,wZ l L]
theorem eB(z:pd p n r B l):r<=n:=by
 have mono : ∀k,k<r->k<=l k:=by
  intro k
  induction k with
  | zero=>intro _;omega
  | succ k O=>intro a;have:=O ⋯;have:=z.mono k (k+1) ⋯ a;omega
 cases r with
 | zero=>omega
 | succ I=>have:=mono I ⋯;have:=z.lt I ⋯;omega
end
abbrev TB:=Nat×Nat×(Nat->Nat->Int)
section
variable{p:Int}{m:Nat}{w:MX}{wd DJ:MZ}{T T' X J:MV}
abbrev fx(p:Int)(m:Nat)(w:MX)(wd DJ:MZ)(T T' X J:MV)(c6 c7 c8 c9 Ln M0 M1 M3 M4:Cell):Ctx:=
 [.val (.int p),.val<|.str<|xT m w,.val<|aJ m w wd T,.val<|aJ m w DJ T',.val<|.lst<|mW m w wd DJ J,.val<|.lst<|MA (m+1) wd DJ X,c6,c7,c8,c9,Ln,M0,M1,M3,M4]
end
structure Loc(p:Int)(wl wr wk N:Nat)(la ra hk:MX)(x y u:Nat->Vc)(Tl Tr:MK):Prop where
 NG : ∀z:Vc,∃a:Vc,∀i,i<wl->z i%p=zz (λj=>if la j=d6 then a j*x j i else 0) N%p
 N1 : ∀z:Vc,∃a:Vc,∀i,i<wr->z i%p=zz (λj=>if ra j=d6 then a j*y j i else 0) N%p
 NY : ∀t:Vc,(∀i,i<wl->zz (λj=>if la j=d6 then t j*x j i else 0) N%p=0)->∀j,j<N->la j=d6->t j%p=0
 inR : ∀t:Vc,(∀i,i<wr->zz (λj=>if ra j=d6 then t j*y j i else 0) N%p=0)->∀j,j<N->ra j=d6->t j%p=0
 Nj : ∀t:Vc,(∀i,i<wk->zz (λj=>if hk j=d6 then t j*u j i else 0) N%p=0)->∀j,j<N->hk j=d6->t j%p=0
 NT : ∀j,j<N->la j=d6->∀i,i<wk->app Tl wl (x j) i%p=(if hk j=d6 then u j i else 0)%p
 NU : ∀j,j<N->ra j=d6->∀i,i<wk->app Tr wr (y j) i%p=(if hk j=d6 then u j i else 0)%p
 both : ∀j,la j=d6->ra j=d6->hk j=d6
def kI(s:Nat×Nat):List Int:=[(s.1:Int),(s.2:Int)]
theorem YJ:qt=jg 9 (zF (k7 4<|qw zx)<|zF (Jg (yM<|zf 1) (.tp [5,6]) Ji)<|qv<|k6<|zb (zf 0)<|zb (zS<|zl 2)<|zb (zS<|zl 4) zx):=rfl
section
variable{p:Int}{m:Nat}{w:MX}{wd:MZ}{T:MV}
noncomputable def xk(w:MX)(wd:MZ)(T:MV)(m:Nat):List D:=(Br m).map λk=>D.lst<|vQ (nf w wd k) (n6 w wd k)<|T k
@[simp] theorem Yv(m):(xk w wd T m).length=m:=by simp[xk]
theorem J9(k):xk w wd T (k+1)=xk w wd T k++[D.lst (vQ (nf w wd k) (n6 w wd k)<|T k)]:=by simp[xk,EO]
theorem KJ(k):qf (k+1) w wd T=qf k w wd T++[Zf w wd T k]:=by simp[qf,EO]
theorem aY(h v:Nat)(f:MK):zU (.nm 0) jX (zS<|zl 0) [Cell.no] (vQ h v f)=cI (ji h v f):=by unfold vQ ji;refine zL _ _ λy z=>zO rfl rfl ?_;simp
abbrev rc(p:Int)(m:Nat)(w:MX)(wd:MZ)(T:MV)(acc:List D)(c5 c6 c7 c8:Cell):Ctx:=[.val (.int p),.val (.str (xT m w)),.val (.lst (zC (m+1) λk=>(wd k:Int))),.val (.lst (xk w wd T m)),.own acc,c5,c6,c7,c8]
end
def u1:=(jn 1<|zq zy<|zb (zf 0)<|zb (zm<|.int 0) zx)
noncomputable def u2:=(jn 2<|gB (jj<|qw<|zb (zm<|.int 2)<|zb (zm<|.int 3)<|zb (zm<|.int 5)<|zb (zm<|.int 7) zx)<|zw kh (zf 1)<|zm<|.int 4)
theorem Jw{c:Int}{n:Nat}(z:0<n) : ∃a:Nat,c%(n:Int)=a/\a<n:=by obtain⟨a,b⟩:=EW (CA c<|show(n:Int)≠0 by omega);have:=Ca c (show(0:Int)<n by omega);exact⟨a,b,by omega⟩
theorem lS{c:Int}(h:0<=c) : ∃q:Nat,Pr (q:Int)/\([D.int 2,.int 3,.int 5,.int 7])[(c%4).toNat]? = cI (.int q)/\o3 4 (c%4)=cI (c%4).toNat:=by
 have a:=CA c (show(4:Int)≠0 by decide);have b:=Ca c (show(0:Int)<4 by decide);obtain⟨r,z⟩:=EW a;rw[z];have I:r<4:=by omega
 rw[jv,MY I,Cr];rcases (by omega:r=0\/r=1\/r=2\/r=3)with e | e | e | e<;>subst e
 ·exact⟨2,.inl rfl,rfl,rfl⟩
 ·exact⟨3,.inr<|.inl rfl,rfl,rfl⟩
 ·exact⟨5,.inr<|.inr<|.inl rfl,rfl,rfl⟩
 ·exact⟨7,.inr<|.inr<|.inr rfl,rfl,rfl⟩
section
variable{p:Int}{n r q:Nat}{Bs:Nat->Vc}{ls:MZ}
noncomputable def AI(r:Nat)(Bs:Nat->Vc)(ls:MZ)(v:Vc):Vc:=λx=>v x - zz (λj=>v (ls j)*Bs j x) r
def cZ(r:Nat)(ls:MZ)(i:Nat):Bool:=(Br r).any λj=>ls j==i
theorem Lu{i:Nat}:cZ r ls i=d6 ↔ ∃j,j<r/\ls j=i:=by simp[cZ]
noncomputable def Dg(n r:Nat)(ls:MZ):List Nat:=(Br n).filter λi=> !cZ r ls i
noncomputable def Ia(p:Int)(n r:Nat)(Bs:Nat->Vc)(ls:MZ)(c:Nat):Vc:=λi=>AI r Bs ls (v9 i) ((Dg n r ls).getD c 0)%p
end
def Ml:=(k7 3<|qw zx)
noncomputable def Lx:=(Jg (zQ<|zT<|qS<|qi zZ<|zb (zq jZ<|zb (zf 0) zx)<|zb (zf 1) zx) (.nm 4)<|zF (jn 5<|gB (zT<|gB (zT<|gB (zl 0)<|zm<|.int 2)<|zf 4)<|zm<|.int 1)<|W9 3<|zT<|Z1 (sB<|zf 2) (gB (zT<|zq zD<|zb (zf 5) zx)<|zm<|.int 2)<|gB (zl 5)<|zm<|.int 2)
def Mm:=(qv<|zS<|zl 3)
def qc:=jg 6<|zF Ml<|zF Lx Mm
noncomputable def LD:=(qv<|zq ky<|zb (gB (zl 1)<|zm<|.int 0)<|zb (qS<|qi yu<|zb (zf 0)<|zb (zq zD<|zb (zf 1) zx) zx) zx)
def jc:=jg 2 LD
def MF:=(jn 3<|zf 2)
noncomputable def K3:=(Jg (zQ<|zT<|zf 1) (.nm 4)<|jn 3<|zq jh<|zb (zf 0)<|zb (zf 3)<|zb (zf 4)<|zb (zq qr<|zb (zf 4) zx) zx)
noncomputable def LR:=(jn 5<|qS<|zN (zQ<|zl 1) (.nm 0) 1 [] jX (zq qr<|zb (zf 0) zx))
noncomputable def LS:=(qv<|zS<|jj<|zN (X6<|zf 3) (.tp [0,1]) 2 [5] (sB<|Qc (zf 0)<|zl 2) (zf 1))
def jr:=jg 6<|zF MF<|zF K3<|zF LR LS
def LA:=(jn 2<|qS<|qi vZ<|zb (zf 0)<|zb (zf 1) zx)
noncomputable def LB:=(jn 3<|qS<|zN (zQ<|zT<|gB (zT<|zq jP<|zb (gB (zl 1)<|zm<|.int 0) zx)<|zm<|.int 2) (.nm 0) 1 [0,2] jX (zq jr<|zb (zf 1)<|zb (zf 2)<|zb (zf 0) zx))
noncomputable def LC:=(qv<|k6<|zb (gB (zl 1)<|zm<|.int 0)<|zb (zw wb (gB (zl 1)<|zm<|.int 0)<|wJ<|zl 2)<|zb (zS<|zl 3) zx)
def zJ:=jg 4<|zF LA<|zF LB LC
def Lk:=(jn 4<|k6<|zb (wJ<|zl 2)<|zb (zf 1)<|zb (zf 2) zx)
noncomputable def Ll:=(qv<|k6<|zb (zq jQ<|zb (zf 0) zx)<|zb (Z1 (sB<|zf 3) (zf 4)<|zq zD<|zb (zf 4) zx) zx)
def jE:=jg 5<|zF Lk Ll
noncomputable def IJ:=(jn 4<|Z1 (sB<|zw B2 (zf 1)<|zm<|.int 0) (gB (zT<|gB (zl 0)<|zm<|.int 1)<|zw wb (zf 1)<|zm<|.int 1)<|zm<|.int 0)
noncomputable def Lj:=(jn 5<|rl (zw wb (zf 1)<|zm<|.int 1) (YE (gB (zl 2)<|zm<|.int 2) J4<|u4<|zf 4) (zf 1)<|YE (gB (zl 2)<|zm<|.int 2) (u4<|zf 4) J4)
def L8:=(k7 6<|qw zx)
noncomputable def IK:=(Jg (X6<|gB (zl 0)<|zm<|.int 2) (.tp [7,8])<|kT 6<|Z1 (sB<|eh (zf 7)<|zf 5) (zq jE<|zb (gB (zl 8)<|zm<|.int 0)<|zb (gB (zl 2)<|zm<|.int 1)<|zb (hU (zf 5)<|zf 7)<|zb (zf 3) zx)<|zf 8)
def L9:=(qv<|zS<|zl 6)
def jI:=jg 9<|zF IJ<|zF Lj<|zF L8<|zF IK L9
def Hc:=(jn 2<|zq jZ<|zb (zf 0) zx)
def Il:=(wq<|zq zX<|zb (zf 2)<|zb (zf 1) zx)
def Im:=(jn 3<|zq qu<|zb (zf 2)<|zb (zf 1) zx)
def Io:=(jn 4<|zq qc<|zb (zf 0)<|zb (zf 1)<|zb (zf 3) zx)
noncomputable def Ip:=(jn 5<|k6<|zb (wJ<|zl 4)<|zb (gB (zT<|gB (zl 0)<|zm<|.int 1)<|zf 1)<|zb (zf 4) zx)
noncomputable def Hn:=(jn 6<|Z1 (sB<|zf 3) (zq jc<|zb (gB (zl 0)<|zm<|.int 0)<|zb (zf 5) zx)<|zq zJ<|zb (gB (zl 0)<|zm<|.int 0)<|zb (zf 5) zx)
noncomputable def Iq:=(jn 7<|zw qo (zw qo (YE (gB (zl 0)<|zm<|.int 1) J4<|u4<|zf 1)<|k6<|zb (gB (zl 6)<|zm<|.int 1) zx)<|YE (gB (zl 0)<|zm<|.int 1) (u4<|zw qo (zf 1)<|zm<|.int 1) J4)
def LL:=(wq<|zq jH<|zb (zf 7) zx)
noncomputable def LM:=(qv<|k6<|zb (gB (zl 0)<|zm<|.int 0)<|zb (zf 7)<|zb (zq jI<|zb (zf 0)<|zb (zf 1)<|zb (zf 6)<|zb (zf 3) zx) zx)
noncomputable def zV:=jg 8<|zF Hc<|zF Il<|zF Im<|zF Io<|zF Ip<|zF Hn<|zF Iq<|zF LL LM
theorem VU{T:Tg}{F:CO Fl}{g:Nat->D}(P:Nat->Ctx->Prop)(n:Nat){γ:Ctx}(H:P 0 γ)(step : ∀s,s<n->∀γ,P s γ->∃I z,xj T (g s) γ=cI I/\F I=cI (.next z)/\P (s+1) z) :
 ∃γ',qM T F ((Br n).map g) γ=cI (.next γ')/\P n γ':=by
 have U : ∀(k s:Nat) (γ:Ctx),s+k=n->P s γ->∃γ',qM T F ((List.range' s k).map g) γ=cI (.next γ')/\P n γ':=by
  intro k
  induction k with
  | zero=>
   intro s γ e O;obtain rfl:s=n:=by omega
   exact⟨γ,rfl,O⟩
  | succ k Y=>
   intro s γ e O;obtain⟨I,z,a,b,d⟩:=step s ⋯ γ O;obtain⟨γ',f,h⟩:=Y (s+1) z ⋯ d;refine⟨γ',?_,h⟩;rw[Lb,BY,jG,a];simp only[Bw,b];exact f
 have:=U n 0 γ ⋯ H;rw[<- EK]at this;exact this
section
variable{p:Int}{m:Nat}{w:MX}{wd DJ:MZ}{T T' S J X:MV}
abbrev rx(p:Int)(m:Nat)(w:MX)(wd DJ:MZ)(T T' X:MV)(r:Nat)(c6 c7 c8 c9 Ln:Cell):Ctx:=
 [.val (.int p),.val<|.str<|xT m w,.val<|aJ m w wd T,.val<|aJ m w DJ T',.val<|.lst<|MA m (n6 w DJ) (nf w wd) λk i j=>X k j i,.val<|.int (r:Int),c6,c7,c8,c9,Ln]
noncomputable def Ig:=(jn 6<|qS<|zN (jz<|gB (zT<|gB (zl 3)<|zm<|.int 0)<|zf 5) (.nm 0) 1 [2,5] jX (qS<|pX (jj<|qw<|zb (zm<|.int 0) zx)<|gB (zT<|gB (zl 1)<|zm<|.int 0)<|zf 2))
end
theorem mL:qc=jg 6 (zF Ml<|zF Lx Mm):=rfl
theorem iG:jr=jg 6 (zF MF<|zF K3<|zF LR LS):=rfl
theorem mI:jc=jg 2 LD:=rfl
theorem mJ:zJ=jg 4 (zF LA<|zF LB LC):=rfl
theorem nD:jE=jg 5 (zF Lk Ll):=rfl
theorem nP:jI=jg 9 (zF IJ<|zF Lj<|zF L8<|zF IK L9):=rfl
theorem iP:zV=jg 8 (zF Hc<|zF Il<|zF Im<|zF Io<|zF Ip<|zF Hn<|zF Iq<|zF LL LM):=rfl
noncomputable def WQ(m k:Nat):List Nat:=(if 0<k then [k - 1]else [])++if k<m then [k]else []
theorem KL:HN.map (λa=>zZ [.str (wl a.1),.int (a.2:Int)])=HN.map λa=>cI (.own<|(WQ a.1.length a.2).map λ(i:Nat)=>D.int (i:Int)):=by kernel_rfl
noncomputable def vO(l:List Bool)(k:Nat):Bool:=(k==0 || l[k - 1]? == cI eF) && (k==l.length || l[k]? == cI d6)
theorem Ku:HN.map (λa=>qu [.str (wl a.1),.int (a.2:Int)])=HN.map λa=>cI (.val<|.bl<|vO a.1 a.2):=by kernel_rfl
section
variable{p:Int}{w:MX}{wd:MZ}{T:MV}{m k:Nat}
theorem QJ(H:m<=5)(z:k<=m):zZ [.str (xT m w),.int (k:Int)]=cI (.own<|(WQ m k).map λ(i:Nat)=>D.int (i:Int)):=by have q:=kO KL (yE (l:=(Br m).map w) (k:=k) (by simpa using H)<|by simpa using z);dsimp only at q;rw[Cb,Ez]at q;rw[yw];exact q
theorem Qv(H:m<=5)(z:k<=m):qu [.str (xT m w),.int (k:Int)]=cI (.val<|.bl<|vO ((Br m).map w) k):=by have q:=kO Ku (yE (l:=(Br m).map w) (k:=k) (by simpa using H)<|by simpa using z);rw[yw];exact q
theorem w9(H:k<=m):vO ((Br m).map w) k=d6↔(0<k->w (k - 1)=eF)/\(k<m->w k=d6):=by
 unfold vO;simp only[Cb,Ez,Bt,Cj,beq_iff_eq,Ce];constructor
 ·rintro⟨b,d⟩
  refine⟨λa=>?_,λa=>?_⟩
  ·rcases b with z | z
   ·omega
   ·rw[En ⋯]at z;simpa using z
  ·rcases d with z | z
   ·omega
   ·rw[En a]at z;simpa using z
 ·rintro⟨b,d⟩
  refine⟨?_,?_⟩
  ·by_cases a:0<k
   ·right;rw[En ⋯];simp[b a]
   ·left;omega
  ·by_cases a:k<m
   ·right;rw[En a];simp[d a]
   ·left;omega
theorem gN(H:k<=m)(I:vg ((Br m).map w) k=d6)(O:vO ((Br m).map w) k=eF):(0<k->w (k - 1)=d6)/\(k<m->w k=eF):=by
 have d : ¬((0<k->w (k - 1)=eF)/\(k<m->w k=d6)):=λz=>by rw[(w9 H).mpr z]at O;cases O
 have U:0<k->k<m->w (k - 1)≠w k:=λb a=>by
  unfold vg at I;simp only[Cb,Ez,Cj,beq_iff_eq,bne_iff_ne,Ce]at I;rcases I with(z | z) | z
  ·omega
  ·omega
  ·rw[En ⋯,En a]at z
   intro e;apply z;simp[e]
 refine⟨λb=>?_,λa=>?_⟩
 ·cases e:w (k - 1)with
  | true=>rfl
  | false=>
   exfalso;apply d;refine⟨λ_=>e,λa=>?_⟩;have:=U b a;rw[e]at this;cases e2:w k with
   | true=>rfl
   | false=>rw[e2]at this;exact absurd rfl this
 ·cases e:w k with
  | false=>rfl
  | true=>
   exfalso;apply d;refine⟨λb=>?_,λ_=>e⟩;have:=U b a;rw[e]at this;cases e2:w (k - 1)with
   | false=>rfl
   | true=>rw[e2]at this;exact absurd rfl this
noncomputable def sh(e:Bool)(w:MX)(wd:MZ)(T:MV)(a:Nat):List D:=if e=d6 then ji (n6 w wd a) (nf w wd a) (λi j=>T a j i)else ji (nf w wd a) (n6 w wd a) (T a)
theorem Qx{n:Nat}(z : ∀k,wd k<=n)(a:Nat):nf w wd a<=n/\n6 w wd a<=n:=by unfold nf n6;constructor<;>(split<;>exact z _)
theorem fT{n:Nat}(z : ∀k,wd k<=n)(e:Bool)(a:Nat):(sh e w wd T a).length<=n:=by
 unfold sh;cases e
 ·rw[RQ ⋯,Xx];exact(Qx z a).1
 ·rw[MY rfl,Xx];exact(Qx z a).2
noncomputable def E3:=(zF (jn 5<|gB (zT<|gB (zT<|gB (zl 0)<|zm<|.int 2)<|zf 4)<|zm<|.int 1)<|W9 3<|zT<|Z1 (sB<|zf 2) (gB (zT<|zq zD<|zb (zf 5) zx)<|zm<|.int 2)<|gB (zl 5)<|zm<|.int 2)
theorem ZE(I : ∀k,wd k<=100)(e:Bool){a:Nat}(H:a<m){acc:List D}(U:acc.length<=100)(J:Cell)(k:Int) :
 E3 [.val (xF p m w wd T),.val<|.int k,.val<|.bl e,.own acc,.val<|.int (a:Int),J]=cI (.next [.val (xF p m w wd T),.val<|.int k,.val<|.bl e,.own<|acc++sh e w wd T a,.val<|.int (a:Int),.val (jW (nf w wd a) (n6 w wd a)<|T a)]):=by
 have Y:=jU;obtain⟨d,f⟩:=Qx (w:=w) I a;have z:=xK (T a) (show nf w wd a<=lim by omega) (show n6 w wd a<=lim by omega);have b:=bR (w:=w) (wd:=wd) (T:=T) H;have O:(qf m w wd T).length=m:=by simp[qf]
 unfold E3;refine zo (γ':=[.val (xF p m w wd T),.val<|.int k,.val<|.bl e,.own acc,.val<|.int (a:Int),.val (jW (nf w wd a) (n6 w wd a)<|T a)]) ?_ ?_
 ·simp[vn,Ww,jv,O,H,Wu]
 ·rw[gX]
  cases e with
  | true=>
   have b1:acc.length+n6 w wd a<=lim:=by omega
   simp[z,jW,jf,sh,qb,b1];simp[jW]at z;simp[z,jf,b1]
  | false=>
   have b1:acc.length+nf w wd a<=lim:=by omega
   simp[jW,jf,sh,qb,b1]
theorem ba(z : ∀k,wd k<=100)(J:m<=5)(H:k<=m)(e:Bool):qc [xF p m w wd T,.int (k:Int),.bl e]=cI (.val<|.tup<|(WQ m k).flatMap λa=>sh e w wd T a):=by
 have U:=jU;have I:=ko (p:=p) (w:=w) (wd:=wd) (T:=T) (show m<=900 by omega);have O:=QJ (w:=w) J H;have j : ∃g h,qM (.nm 4) E3 ((WQ m k).map λ(i:Nat)=>D.int (i:Int)) [.val (xF p m w wd T),.val<|.int k,.val<|.bl e,.own [],.no,.no]=cI (.next [.val (xF p m w wd T),.val<|.int k,.val<|.bl e,.own<|(WQ m k).flatMap λa=>sh e w wd T a,g,h]):=by
  unfold WQ;by_cases f:0<k
  ·by_cases b:k<m
   ·have d:=ZE (p:=p) (w:=w) (T:=T) z e (a:=k - 1) (m:=m) ⋯ (acc:=[]) ⋯ .no (k:Int)
    have n:=ZE (p:=p) (w:=w) (T:=T) z e (a:=k) b (acc:=[]++sh e w wd T (k - 1)) (by simpa using fT z e (k - 1)) (.val<|jW (nf w wd<|k - 1) (n6 w wd<|k - 1)<|T<|k - 1) (k:Int);refine⟨.val<|.int (k:Int),.val<|jW (nf w wd k) (n6 w wd k)<|T k,?_⟩;rw[MY f,MY b];show qM _ _ [.int ((k - 1:Nat):Int),.int (k:Int)] _=_;rw[jG];show(E3 [.val (xF p m w wd T),.val<|.int k,.val<|.bl e,.own [],.val<|.int ((k - 1:Nat):Int),.no]).bind _=_;rw[d,Bw];show qM _ _ [.int (k:Int)] _=_;rw[jG];show(E3 [.val (xF p m w wd T),.val<|.int k,.val<|.bl e,.own<|[]++sh e w wd T (k - 1),.val<|.int (k:Int),_]).bind _=_;rw[n,Bw];simp[qM]
   ·have d:=ZE (p:=p) (w:=w) (T:=T) z e (a:=k - 1) (m:=m) ⋯ (acc:=[]) ⋯ .no (k:Int)
    refine⟨.val<|.int ((k - 1:Nat):Int),.val<|jW (nf w wd<|k - 1) (n6 w wd<|k - 1)<|T<|k - 1,?_⟩;rw[MY f,RQ b];show qM _ _ [.int ((k - 1:Nat):Int)] _=_;rw[jG];show(E3 [.val (xF p m w wd T),.val<|.int k,.val<|.bl e,.own [],.val<|.int ((k - 1:Nat):Int),.no]).bind _=_;rw[d,Bw];simp[qM]
  ·by_cases b:k<m
   ·have d:=ZE (p:=p) (w:=w) (T:=T) z e (a:=k) b (acc:=[]) ⋯ .no (k:Int)
    refine⟨.val<|.int (k:Int),.val<|jW (nf w wd k) (n6 w wd k)<|T k,?_⟩;rw[RQ f,MY b];show qM _ _ [.int (k:Int)] _=_;rw[jG];show(E3 [.val (xF p m w wd T),.val<|.int k,.val<|.bl e,.own [],.val<|.int (k:Int),.no]).bind _=_;rw[d,Bw];simp[qM]
   ·refine⟨.no,.no,?_⟩
    rw[RQ f,RQ b];rfl
 obtain⟨g,h,j⟩:=j;rw[mL];refine j8<|zo (γ':=[.val (xF p m w wd T),.val<|.int k,.val<|.bl e,.own [],.no,.no]) rfl<|zo (γ':=[.val (xF p m w wd T),.val<|.int k,.val<|.bl e,.own<|(WQ m k).flatMap λa=>sh e w wd T a,g,h]) ?_ rfl;unfold Lx;rw[Zi];have l:zQ (zT<|qS<|qi zZ<|zb (zq jZ<|zb (zf 0) zx)<|zb (zf 1) zx) [.val (xF p m w wd T),.val<|.int k,.val<|.bl e,.own [],.no,.no]=cI ((WQ m k).map λ(i:Nat)=>D.int (i:Int)):=by simp[I,O,jf]
 rw[l];exact j
end
section
variable{p:Int}{n r:Nat}{Bs:Nat->Vc}{ls:MZ}
noncomputable def Qr(p:Int)(Bs:Nat->Vc)(ls:MZ)(v:Vc)(s:Nat):Vc:=λx=>(v x - zz (λj=>v (ls j)*Bs j x) s)%p
theorem VT(U:pd p n r Bs ls):(Dg n r ls).length+r=n:=by
 have l:((Dg n r ls).length:Int)=zz (λi=>if (!cZ r ls i)=d6 then 1 else 0) n:=by
  have:=wD (λi=> !cZ r ls i) (λ_=>1) n;rw[<- this];have : ∀k:Nat,zz (λ_=>1) k=(k:Int):=λk=>by
   induction k with
   | zero=>rfl
   | succ k O=>show zz _ k+1=_;rw[O];omega
  rw[this];rfl
 have inj : ∀{a b:Nat},a<r->b<r->ls a=ls b->a=b:=λ{a b} s f e=>by
  rcases FF a b with z | z | z
  ·have:=U.mono a b z f;omega
  ·exact z
  ·have:=U.mono b a z s;omega
 have m : ∀i,(if (!cZ r ls i)=d6 then (1:Int)else 0)+zz (λj=>if ls j=i then 1 else 0) r=1:=λi=>by
  cases h:cZ r ls i with
  | false=>
   rw[jY (g:=λ_=>0) λj I=>RQ λz=>by(rw[Lu.mpr ⟨j,I,z⟩]at h;cases h),jR];rfl
  | true=>
   obtain⟨j,I,e⟩:=Lu.mp h;rw[xE (i:=j) I λc t Y=>RQ λz=>Y (inj t I<|by rw[z,e]),MY e];rfl
 have d:zz (λi=>(if (!cZ r ls i)=d6 then (1:Int)else 0)+zz (λj=>if ls j=i then 1 else 0) r) n=n:=by
  rw[jY (g:=λ_=>1) λi _=>m i];generalize n=k
  induction k with
  | zero=>rfl
  | succ k O=>show zz _ k+1=_;rw[O];omega
 rw[xY,<- l,X4]at d;have o:zz (λj=>zz (λi=>if ls j=i then (1:Int)else 0) n) r=r:=by
  have:zz (λj=>zz (λi=>if ls j=i then (1:Int)else 0) n) r=zz (λ_=>1) r:=jY λj I=>by rw[xE (i:=ls j) (U.lt j I) λc _ Y=>RQ<|CP Y,MY rfl]
  rw[this];generalize r=k
  induction k with
  | zero=>rfl
  | succ k O=>show zz _ k+1=_;rw[O];omega
 rw[o]at d;omega
theorem Vy(U:Pr p)(H:n<=100)(I:pd p n r Bs ls){i:Nat}:jr [.int p,.lst<|ji r n Bs,.tup (zC n<|v9 i)]=cI (.val<|.tup<|zC (Dg n r ls).length λc=>Ia p n r Bs ls c i):=by
 have C:=jU;have y:=U.pos;have O:n<=lim:=by omega
 have E:=eB I;have f:r<=lim:=by omega
 have ld : ∀j,j<r->qr [.tup (zC n<|Bs j)]=cI (.val<|.int<|ls j):=λj z=>WG O (Bs j) (I.lt j z) (λi b=>I.u9 j i z b) (by rw[I.one j z];decide);let v:Vc:=v9 i;have Y : ∀x,0<=v x/\v x<p:=λx=>by have:=U.two;show 0<=(if _ then (1:Int)else 0)/\(if _ then (1:Int)else 0)<p;split<;>omega
 have k:zC n v=zC n (Qr p Bs ls v 0):=kE λx _=>by show v x=(v x - 0)%p;rw[HE,CN (Y x).1 (Y x).2]
 have h : ∀j,j<r->jh [.int p,.tup<|zC n<|Qr p Bs ls v j,.tup<|zC n<|Bs j,.int (ls j)]=cI (.val<|.tup<|zC n<|Qr p Bs ls v<|j+1):=λj z=>by
  rw[kz U O (I.lt j z) (Qr p Bs ls v j) (Bs j) λx _=>⟨CA _ ⋯,Ca _ y⟩];congr 3;refine kE λx _=>?_;have u:Qr p Bs ls v j (ls j)=v (ls j)%p:=by show(v (ls j) - _)%p=_;rw[jY (g:=λ_=>0) λc B=>by rw[I.Dj c j ⋯ z ⋯];simp,jR,HE]
  show((v x - zz (λj=>v (ls j)*Bs j x) j)%p - Qr p Bs ls v j (ls j)*Bs j x)%p=(v x - (zz (λj=>v (ls j)*Bs j x) j+v (ls j)*Bs j x))%p;rw[u,Int.sub_emod,Ep,Vt,<- Int.sub_emod];congr 1;omega
 have L : ∃a,K3 [.val (.int p),.val<|.lst<|ji r n Bs,.val<|.tup<|zC n v,.val<|.tup<|zC n v,.no,.no]=cI (.next [.val (.int p),.val<|.lst<|ji r n Bs,.val<|.tup<|zC n v,.val<|.tup<|zC n<|Qr p Bs ls v r,a,.no]):=by
  unfold K3;rw[Zi];show ∃a,Option.bind (cI (ji r n Bs)) _=_;rw[Bw];obtain⟨γ',e,a,rfl⟩:=VU (T:= .nm 4) (g:=λj=>D.tup<|zC n<|Bs j) (F:=(jn 3<|zq jh<|zb (zf 0)<|zb (zf 3)<|zb (zf 4)<|zb (zq qr<|zb (zf 4) zx) zx))
   (λs γ=>∃a,γ=[.val (.int p),.val<|.lst<|ji r n Bs,.val<|.tup<|zC n v,.val<|.tup<|zC n<|Qr p Bs ls v s,a,.no]) r (γ:=[.val (.int p),.val<|.lst<|ji r n Bs,.val<|.tup<|zC n v,.val<|.tup<|zC n v,.no,.no]) ⟨.no,by rw[<- k]⟩ (by
   rintro s d γ ⟨a,rfl⟩;refine⟨[.val (.int p),.val<|.lst<|ji r n Bs,.val<|.tup<|zC n v,.val<|.tup<|zC n<|Qr p Bs ls v s,.val<|.tup<|zC n<|Bs s,.no],_,rfl,?_,.val<|.tup<|zC n<|Bs s,rfl⟩;simp[ld s d,h s d])
  exact⟨a,e⟩
 obtain⟨a,L⟩:=L;have m:zU (.nm 0) jX (zq qr<|zb (zf 0) zx) [.no] (ji r n Bs)=cI ((Br r).map λj=>D.int ((ls j:Nat):Int)):=by unfold ji;refine zL _ _ λj z=>zO rfl rfl ?_;simp[ld j (BD.mp z)]
 have o:zU (.tp [0,1]) (sB<|Qc (zf 0)<|zl 2) (zf 1) [.no,.no,.val (.lst<|(Br r).map λj=>D.int ((ls j:Nat):Int))] ((Br n).map λ(x:Nat)=>D.tup [.int x,.int (Qr p Bs ls v r x)]) =
  cI (((Br n).filter λ(c:Nat)=> !decide ((c:Int)∈(Br r).map λj=>((ls j:Nat):Int))).map λ(x:Nat)=>D.int<|Qr p Bs ls v r x):=by
  refine qp (λ(c:Nat)=> !decide ((c:Int)∈(Br r).map λj=>((ls j:Nat):Int))) (λ(x:Nat)=>D.int<|Qr p Bs ls v r x) _ λi b=>⟨_,rfl,?_,λ_=>rfl⟩;have im:=wZ ls<|Br r;show((yk<|(Br r).map λj=>D.int ((ls j:Nat):Int)).map λl=>D.bl<|!decide ((i:Int)∈l)).bind De=_;rw[im];rfl
 have t:((Br n).filter λ(c:Nat)=> !decide ((c:Int)∈(Br r).map λj=>((ls j:Nat):Int)))=Dg n r ls:=List.filter_congr λc _=>by
  congr 1;rw[FX,Lu,decide_eq_true_eq,FG];constructor
  ·rintro⟨j,z,e⟩;exact⟨j,BD.mp z,by omega⟩
  ·rintro⟨j,z,e⟩;exact⟨j,BD.mpr z,by omega⟩
 rw[iG];refine j8<|zo (γ':=[.val (.int p),.val<|.lst<|ji r n Bs,.val<|.tup<|zC n v,.val<|.tup<|zC n v,.no,.no]) rfl<|zo L<|zo (γ':=[.val (.int p),.val<|.lst<|ji r n Bs,.val<|.tup<|zC n v,.val<|.tup<|zC n<|Qr p Bs ls v r,a,.val (.lst<|(Br r).map λj=>D.int ((ls j:Nat):Int))]) ?_ ?_
 ·simp[LR,jx,jf,f,m]
 ·have w:xy (zC n<|Qr p Bs ls v r)=(Br n).map λ(x:Nat)=>D.tup [.int x,.int (Qr p Bs ls v r x)]:=by rw[jl,w6]
  have A:(Br n).length<=lim:=by simpa using O
  simp[LS,jx,w,O,qx];rw[o,t];simp only[BZ,CZ.injEq];rw[aZ];rfl
end
theorem ZP(xs:List D){a:Nat}(h:a<=xs.length):wx xs cS (cI (a:Int))=xs.take a:=by
 have z : ¬((a:Int)<0):=by omega
 simp[wx,ZQ,z,Fg h]
theorem Zb(xs:List D){a:Nat}(h:a<=xs.length):wx xs (cI (a:Int)) cS=xs.drop a:=by
 have z : ¬((a:Int)<0):=by omega
 simp only[wx,ZQ,z,if_false,Cr,Fg h];rw[EY (by rw[GG];omega)]
section
variable{p:Int}
theorem mH(I:Pr p){n wk:Nat}(L:n<=100)(Z:wk<=lim)(M:MK) : ∃r H J,zJ [.int p,jW n wk M]=cI (.val<|jW n (Dg n r J).length λi c=>Ia p n r H J c i)/\pd p n r H J/\(∀v,Span p n (l4 r H) v↔Span p n (l4 wk λj i=>M i j) v):=by
 have g:=jU;obtain⟨r,H,J,e,z,U⟩:=KW I L Z M;have O:n<=lim:=by omega
 have a:=J1 O;have d:=VT z;refine⟨r,H,J,?_,z,U⟩;have Y:zU (.nm 0) jX (zq jr<|zb (zf 1)<|zb (zf 2)<|zb (zf 0) zx) [.no,.val<|.int p,.val (.lst<|ji r n H)] (ji n n λi j=>if i=j then 1 else 0)=cI (ji n (Dg n r J).length λi c=>Ia p n r H J c i):=by unfold ji;refine zL _ _ λi f=>zO rfl rfl ?_;have:=Vy I L z (i:=i);show(jr [.int p,.lst<|ji r n H,.tup (zC n<|v9 i)]).map nZ=_;rw[this];rfl
 rw[mJ];refine j8<|zo (γ':=[.val (.int p),.val<|jW n wk M,.val<|.lst<|ji r n H,.no]) ?_ (zo (γ':=[.val (.int p),.val<|jW n wk M,.val<|.lst<|ji r n H,.val (.lst<|ji n (Dg n r J).length λi c=>Ia p n r H J c i)]) ?_ ?_)
 ·simp[LA,je,Bu,e]
 ·simp only[jW]at a ⊢
  simp[LB,jf,a,jx,qx,O];rw[Y]
 ·have b:(n:Int) - (r:Int)=((Dg n r J).length:Int):=by omega
  simp[LC,jW,jf,b]
theorem kQ{h q:Nat}(z:h<=lim)(I:q<=lim)(b e:Bool)(f:MK):jE [.str (q9<|l6 b),.int q,.tup<|ji h q f,.bl e]=cI (.val<|.tup [.str (q9<|l6 !b),if e=d6 then jW h q f else jW q h λi j=>f j i]):=by
 have O:=xK f z I;have U:=wz b;rw[nD];refine j8<|zo (γ':=[.val (.str<|q9<|l6 b),.val<|.int q,.val<|.tup<|ji h q f,.val<|.bl e,.val (jW h q f)]) ?_ ?_
 ·simp[Lk,je,Bu,jf,jW]
 ·cases e<;>simp[Ll,U,O]
variable{w:MX}{wd:MZ}{T:MV}{m k n q:Nat}
noncomputable def wa(k:Nat)(w:MX)(a:Nat):Bool:=if a+1=k\/a=k then !w a else w a
def m4(k q:Nat)(wd:MZ)(r:Nat):Nat:=if r=k then q else wd r
noncomputable def C0(p:Int)(e:Bool)(k wl:Nat)(G:MK)(T:MV)(a i c:Nat):Int:=
 if a+1=k then (if e=d6 then G i c else G c i)%p else if a=k then (if e=d6 then G (wl+i) c else G (wl+c) i)%p else T a i c
theorem ZJ(i j:Int)(x y:D)(a:Int):JI [.int i,.int j] [x,y] a=if i=a then cI x else if j=a then cI y else cS:=by simp[JI]
theorem vT{wl wr:Nat}(hn:n=wl+wr)(J:wl=if 0<k then wd (k - 1)else 0)(L:wr=if k<m then wd (k+1)else 0)(hm:m<=5)(hk:k<=m)(Z : ∀k,wd k<=100)(hq:q<=100)(e:Bool)(hE:(0<k->w (k - 1) = !e)/\(k<m->w k=e))(G:MK)(H : ∀i c,i<n->c<q->0<=G i c/\G i c<p) :
 jI [xF p m w wd T,.int (k:Int),jW n q G,.bl e]=cI (.val<|.tup<|qf m (wa k w) (m4 k q wd)<|C0 p e k wl G T):=by
 have hl:=jU;have X:wl<=100:=by rw[J];split;exact Z _;omega
 have bg:wr<=100:=by rw[L];split;exact Z _;omega
 let I:D:= .tup (ji wl q G);let O:D:= .tup (ji wr q λi=>G<|wl+i);let z:D:= .o1 [.int ((k:Int) - 1),.int (k:Int)] [I,O];have bi:(qf m w wd T).length=m:=by simp[qf]
 have P:wx (ji n q G) cS (cI (wl:Int))=ji wl q G:=by rw[ZP _ (by simp;omega),hn];unfold ji;rw[<- List.map_take,List.take_range,Fg ⋯]
 have uA:wx (ji n q G) (cI (wl:Int)) cS=ji wr q λi=>G (wl+i):=by rw[Zb _ (by simp;omega),hn];unfold ji;rw[<- List.map_drop,EK,List.drop_range',EK];refine List.ext_getElem ⋯ λi f r=>?_;simp
 have one : ∀a,a<m->(Z1 (sB<|eh (zf 7)<|zf 5) (zq jE<|zb (gB (zl 8)<|zm<|.int 0)<|zb (gB (zl 2)<|zm<|.int 1)<|zb (hU (zf 5)<|zf 7)<|zb (zf 3) zx)<|zf 8) [.val (xF p m w wd T),.val<|.int k,.val<|jW n q G,.val<|.bl e,.val<|.int wl,.val z,.own<|qf a (wa k w) (m4 k q wd)<|C0 p e k wl G T,.val<|.int (a:Int),.val (Zf w wd T a)]=cI (Zf (wa k w) (m4 k q wd) (C0 p e k wl G T) a):=λa M=>by
  by_cases f:a+1=k
  ·have N:0<k:=by omega
   have u:=hE.1 N;rw[show k - 1=a by omega]at u;have Y:JI [.int ((k:Int) - 1),.int (k:Int)] [I,O] (a:Int)=cI I:=by rw[ZJ,MY ⋯]
   have A:=kQ (h:=wl) (q:=q) ⋯ ⋯ (w a) e G;have C:wl=wd a:=by rw[J,MY N,show k - 1=a by omega]
   have o:(.tup [.str (q9<|l6 !w a),if e=d6 then jW wl q G else jW q wl λi j=>G j i]:D)=Zf (wa k w) (m4 k q wd) (C0 p e k wl G T) a:=by
    unfold Zf;have f1:wa k w a = !w a:=MY<|.inl f;have u1:m4 k q wd a=wd a:=RQ ⋯;have u2:m4 k q wd (a+1)=q:=MY f;unfold nf n6;rw[f1,u];cases e
    ·simp only[Gm,Fx,CV,if_false,u1,u2]
     rw[C];congr 2;rw[FL];refine⟨yn λi j l U=>?_,rfl⟩;have:=H j i ⋯ l;show _=(if a+1=k then (if eF=d6 then G i j else G j i)%p else _);rw[MY f,RQ ⋯,CN this.1 this.2]
    ·simp only[Fx,Gm,if_true,u1,u2]
     rw[C];congr 2;rw[FL];refine⟨yn λi j l U=>?_,rfl⟩;have:=H i j ⋯ U;show _=(if a+1=k then (if d6=d6 then G i j else G j i)%p else _);rw[MY f,MY rfl,CN this.1 this.2]
   rw[<- o];have t:jf (jW n q G)=cI (.T,[.int n,.int q,.tup (ji n q G)]):=rfl;simp[eh,hU,z,Y,Ww,t,I,A]
  ·by_cases r:a=k
   ·subst r
    have u:=hE.2 M;have Y:JI [.int ((a:Int) - 1),.int (a:Int)] [I,O] (a:Int)=cI O:=by rw[ZJ,RQ ⋯,MY rfl]
    have A:=kQ (h:=wr) (q:=q) ⋯ ⋯ (w a) e λi=>G<|wl+i;have E:wr=wd (a+1):=by rw[L,MY M]
    have o:(.tup [.str (q9<|l6 !w a),if e=d6 then jW wr q (λi=>G<|wl+i)else jW q wr λi j=>G (wl+j) i]:D)=Zf (wa a w) (m4 a q wd) (C0 p e a wl G T) a:=by
     unfold Zf;have f1:wa a w a = !w a:=MY<|.inr rfl;have u1:m4 a q wd a=q:=MY rfl;have u2:m4 a q wd (a+1)=wd (a+1):=RQ ⋯;unfold nf n6;rw[f1,u];cases e
     ·simp only[Gm,Fx,CV,if_false,if_true,u1,u2]
      rw[E];congr 2;rw[FL];refine⟨yn λi j l U=>?_,rfl⟩;have:=H (wl+j) i ⋯ l;show _=(if a+1=a then _ else if a=a then (if eF=d6 then G (wl+i) j else G (wl+j) i)%p else _);rw[RQ ⋯,MY rfl,RQ ⋯,CN this.1 this.2]
     ·simp only[Fx,Gm,CV,if_false,if_true,u1,u2]
      rw[E];congr 2;rw[FL];refine⟨yn λi j l U=>?_,rfl⟩;have:=H (wl+i) j ⋯ U;show _=(if a+1=a then _ else if a=a then (if d6=d6 then G (wl+i) j else G (wl+j) i)%p else _);rw[RQ ⋯,MY rfl,MY rfl,CN this.1 this.2]
    rw[<- o];have t:jf (jW n q G)=cI (.T,[.int n,.int q,.tup (ji n q G)]):=rfl;simp[eh,hU,z,Y,Ww,t,O,A]
   ·have Y:JI [.int ((k:Int) - 1),.int (k:Int)] [I,O] (a:Int)=cS:=by rw[ZJ,RQ ⋯,RQ ⋯]
    have o:Zf (wa k w) (m4 k q wd) (C0 p e k wl G T) a=Zf w wd T a:=by unfold Zf;have f1:wa k w a=w a:=RQ ⋯;have u1:m4 k q wd a=wd a:=RQ ⋯;have u2:m4 k q wd (a+1)=wd (a+1):=RQ ⋯;unfold nf n6;rw[f1,u1,u2];congr 2;rw[FL];refine⟨yn λi j l U=>?_,rfl⟩;show(if a+1=k then _ else if a=k then _ else _)=_;rw[RQ f,RQ r]
    rw[o];simp[eh,z,Y]
 have x : ∃b d,IK [.val (xF p m w wd T),.val<|.int k,.val<|jW n q G,.val<|.bl e,.val<|.int wl,.val z,.own [],.no,.no]=cI (.next [.val (xF p m w wd T),.val<|.int k,.val<|jW n q G,.val<|.bl e,.val<|.int wl,.val z,.own<|qf m (wa k w) (m4 k q wd)<|C0 p e k wl G T,b,d]):=by
  unfold IK;rw[Zi];have B:X6 (gB (zl 0)<|zm<|.int 2) [.val (xF p m w wd T),.val<|.int k,.val<|jW n q G,.val<|.bl e,.val<|.int wl,.val z,.own [],.no,.no]=cI ((Br m).map λ(k:Nat)=>D.tup [.int k,Zf w wd T k]):=by rw[<- w6];rfl
  rw[B,Bw];obtain⟨γ',eq,b,d,rfl⟩:=VU (T:= .tp [7,8]) (g:=λ(a:Nat)=>D.tup [.int a,Zf w wd T a]) (F:=(kT 6<|Z1 (sB<|eh (zf 7)<|zf 5) (zq jE<|zb (gB (zl 8)<|zm<|.int 0)<|zb (gB (zl 2)<|zm<|.int 1)<|zb (hU (zf 5)<|zf 7)<|zb (zf 3) zx)<|zf 8))
   (λs γ=>∃b d,γ=[.val (xF p m w wd T),.val<|.int k,.val<|jW n q G,.val<|.bl e,.val<|.int wl,.val z,.own<|qf s (wa k w) (m4 k q wd)<|C0 p e k wl G T,b,d]) m (γ:=[.val (xF p m w wd T),.val<|.int k,.val<|jW n q G,.val<|.bl e,.val<|.int wl,.val z,.own [],.no,.no]) ⟨.no,.no,rfl⟩ (by
   rintro s W γ ⟨b,d,rfl⟩;refine⟨[.val (xF p m w wd T),.val<|.int k,.val<|jW n q G,.val<|.bl e,.val<|.int wl,.val z,.own<|qf s (wa k w) (m4 k q wd)<|C0 p e k wl G T,.val<|.int (s:Int),.val (Zf w wd T s)],_,rfl,?_,.val<|.int (s:Int),.val<|Zf w wd T s,rfl⟩;have Q:(qf s (wa k w) (m4 k q wd)<|C0 p e k wl G T).length<lim:=by simp[qf];omega
   rw[vV,one s W];simp only[BG,BE,qb,Bw,MY Q];simp[qf,EO])
  exact⟨b,d,eq⟩
 obtain⟨b,d,x⟩:=x;rw[nP];refine j8<|zo (γ':=[.val (xF p m w wd T),.val<|.int k,.val<|jW n q G,.val<|.bl e,.val<|.int wl,.no,.no,.no,.no]) ?_ (zo (γ':=[.val (xF p m w wd T),.val<|.int k,.val<|jW n q G,.val<|.bl e,.val<|.int wl,.val z,.no,.no,.no]) ?_ (zo (γ':=[.val (xF p m w wd T),.val<|.int k,.val<|jW n q G,.val<|.bl e,.val<|.int wl,.val z,.own [],.no,.no]) rfl<|zo x rfl))
 ·rw[J]
  by_cases K:0<k
  ·have y:(0:Int)<(k:Int):=by omega
   have R:(k:Int) - 1=((k - 1:Nat):Int):=by omega
   have r:k - 1<m+1:=by omega
   simp[IJ,je,Bu,vn,K,y,R,jv,r]
  ·have y : ¬(0:Int)<(k:Int):=by omega
   simp[IJ,je,Bu,K,y]
 ·have t:jf (jW n q G)=cI (.T,[.int n,.int q,.tup (ji n q G)]):=rfl
  have S : ¬(k:Int) - 1=(k:Int):=by omega
  simp[Lj,rl,t,P,uA,S,z,I,O]
end
section
variable{p:Int}{w:MX}{wd:MZ}{T:MV}{m k n q wl wr:Nat}
noncomputable def ZD(e:Bool)(k wl:Nat)(T:MV)(i c:Nat):Int:=if i<wl then (if e=d6 then T (k - 1) c i else T (k - 1) i c)else (if e=d6 then T k c (i - wl)else T k (i - wl) c)
theorem Vw(Y:wl=if 0<k then wd (k - 1)else 0)(O:wr=if k<m then wd (k+1)else 0)(J:k<=m)(e:Bool)(H:(0<k->w (k - 1) = !e)/\(k<m->w k=e)) :
 ((WQ m k).flatMap λa=>sh e w wd T a)=ji (wl+wr) (wd k) (ZD e k wl T):=by
 have g:0<k->sh e w wd T (k - 1)=ji wl (wd k) (ZD e k wl T):=λb=>by
  have U:=H.1 b;have l:k - 1+1=k:=by omega
  have I:wl=wd (k - 1):=by rw[Y,MY b]
  unfold sh nf n6;rw[U,l];cases e
  ·simp only[Gm,CV,if_false,if_true]
   rw[<- I];refine kF λi j f _=>?_;show _=if i<wl then _ else _;rw[MY f,RQ ⋯]
  ·simp only[Fx,CV,if_false,if_true]
   rw[<- I];refine kF λi j f _=>?_;show _=if i<wl then _ else _;rw[MY f,MY rfl]
 have h:k<m->sh e w wd T k=ji wr (wd k) λi=>ZD e k wl T (wl+i):=λb=>by
  have U:=H.2 b;have I:wr=wd (k+1):=by rw[O,MY b]
  unfold sh nf n6;rw[U];cases e
  ·simp only[CV,if_false,if_true]
   rw[<- I];refine kF λi j f _=>?_;show _=if wl+i<wl then _ else _;rw[RQ ⋯,RQ ⋯,Ex]
  ·simp only[CV,if_false,if_true]
   rw[<- I];refine kF λi j f _=>?_;show _=if wl+i<wl then _ else _;rw[RQ ⋯,MY rfl,Ex]
 unfold WQ;by_cases b:0<k
 ·by_cases d:k<m
  ·rw[MY b,MY d]
   show sh e w wd T (k - 1)++(sh e w wd T k++[])=_;rw[ER,g b,h d];exact bH _ _ _ _ _ _ (λ_ _ _ _=>rfl) λ_ _ _ _=>rfl
  ·rw[MY b,RQ d]
   show sh e w wd T (k - 1)++[]=_;rw[ER,g b,O,RQ d];rfl
 ·have z:wl=0:=by rw[Y,RQ b]
  by_cases d:k<m
  ·rw[RQ b,MY d]
   show sh e w wd T k++[]=_;rw[ER,h d,z,GN];refine kF λi j _ _=>?_;rw[GN]
  ·rw[RQ b,RQ d,z,O,RQ d]
   rfl
theorem we(H:k<=m)(J:m<=5):qo (.tup<|wx (zC (m+1) λr=>(wd r:Int)) cS (cI (k:Int))++[D.int (q:Int)]) (.tup<|wx (zC (m+1) λr=>(wd r:Int)) (cI ((k:Int)+1)) cS)=cI (.tup<|zC (m+1) λr=>(m4 k q wd r:Int)):=by
 have U:=jU;have e:((k:Int)+1)=((k+1:Nat):Int):=by omega
 rw[e,ZP _ (by simp;omega),Zb _ (by simp;omega)];have z:(zC (m+1) λr=>(wd r:Int)).take k++[D.int (q:Int)]++(zC (m+1) λr=>(wd r:Int)).drop (k+1)=zC (m+1) λr=>(m4 k q wd r:Int):=by
  refine Gu λi=>?_;rcases FF i k with h | h | h
  ·rw[Gv,Ck (by simp;omega),List.getElem?_take_of_lt h,j7 _ ⋯,j7 _ ⋯]
   simp[m4,show i≠k by omega]
  ·subst h
   rw[Gv,BW (by simp;omega),j7 _ ⋯];simp[m4,Fg (show i<=m+1 by omega)]
  ·rw[BW (by simp;omega)]
   have I:((zC (m+1) λr=>(wd r:Int)).take k++[D.int (q:Int)]).length=k+1:=by simp;omega
   rw[I,List.getElem?_drop,show k+1+(i - (k+1))=i by omega];by_cases a:i<m+1
   ·rw[j7 _ a,j7 _ a];simp[m4,show i≠k by omega]
   ·rw[FJ (by simp;omega),FJ (by simp;omega)]
 have O:((zC (m+1) λr=>(wd r:Int)).take k++[D.int (q:Int)]).length+((zC (m+1) λr=>(wd r:Int)).drop (k+1)).length<=lim:=by simp;omega
 show(if _<=lim then cI (D.tup<|_++_)else cS)=_;rw[MY O,z]
end
theorem ZL{H:Type}{T:Tg}{F:CO Fl}{g:H->D}{W:List H}(P:List H->Ctx->Prop) : ∀(L z:List H) (γ:Ctx),z++L=W->P z γ->(∀a z R γ,z++a::R=W->P z γ->∃O I,xj T (g a) γ=cI O/\F O=cI (.next I)/\P (z++[a]) I)->
 ∃γ',qM T F (L.map g) γ=cI (.next γ')/\P W γ'
 | [],z,γ,hw,h,_=>⟨γ,rfl,by rw[ER]at hw;rw[<- hw];exact h⟩
 | a::L,z,γ,hw,h,st=>by obtain⟨O,I,b,U,d⟩:=st a z L γ hw h;obtain⟨γ',Y,e⟩:=ZL P L (z++[a]) I (by rw[Gv];exact hw) d st;refine⟨γ',?_,e⟩;rw[BY,jG,b,Bw,U,Bw];exact Y
section
variable{p:Int}{m k wl wr:Nat}{w:MX}{wd:MZ}{T:MV}
theorem fQ(I:Pr p)(z:Int):0<=z%p/\z%p<p:=⟨CA _ (by have:=I.pos;omega),Ca _ I.pos⟩
end
noncomputable def gV(p:Int)(a b:Nat)(c:Int)(v:Vc):Vc:=λi=>if i=b then (v b+c*v a)%p else v i
section
variable{p:Int}{m:Nat}{w:MX}{bs:List (Int×Int)}
abbrev A2(p:Int)(z:Str)(m:Nat)(bs:List (Int×Int)):Ctx:=[.val (.int p),.val (.str z),.val (.lst (QG bs)),.val (.int ((m+1:Nat):Int))]
end
section
variable{p:Int}{m a b c d:Nat}{w:MX}{f:Nat->Int}
abbrev Nk(a b r:Nat):Prop:=a<=r/\r<=b
end
section
variable{p:Int}{m:Nat}{w:MX}{K K1 K2:List (Int×Int)}{h:MV}
abbrev stK(K:List (Int×Int))(x:Nat):Nat:=(K.getD x (0,0)).1.toNat
abbrev M7(K:List (Int×Int))(x:Nat):Nat:=(K.getD x (0,0)).2.toNat
abbrev Nj(K:List (Int×Int))(x r:Nat):Prop:=Nk (stK K x) (M7 K x) r
end
section ap
variable(γ:Ctx)
@[simp] def tJ:=@af.eq_1
@[simp] def uH:=@lg.eq_1
@[simp] theorem sW(f):pZ f γ=((f γ).bind oI).map λi=> .int (-i):=rfl
@[simp] def iB:=@nW.eq_1
end ap
noncomputable def hR(g:MK)(s k:Nat):Nat->Int:=g<|if k<=s then k - 1 else k
noncomputable def gR(p:Int)(g:MK)(r s c:Nat)(y:Int)(k j:Nat):Int:=if k<r then g k j else if k=r then g s j*y%p else (hR g s k j - hR g s k c*(g s j*y%p))%p
section
variable{p:Int}{h w:Nat}
theorem Z0(H:Pr p)(hh:h<=50)(hw:w<=50)(f:MK) :
 ∃q K l s,yu [.int p,jW h w f]=cI (.own<|ji q w K)/\pd p w q K l/\(∀v,Span p w (l4 q K) v↔MP p h w f v)/\Rk p h w (λj i=>f i j) s/\q+s=w:=by
 have hl:=jU;have R:h<=lim:=by omega
 have y:w<=lim:=by omega
 have S:h+w<=lim:=by omega
 obtain⟨r,B,l,e,I,x⟩:=yS H (show h+w<=100 by omega) y .L λj=>KH h (λi=>f i j)<|v9 j;have X : ∀v,Span p (h+w) (l4 r B) v->∀i,i<h->v i%p=zz (λj=>f i j*v (h+j)) w%p:=λv U=>aH<|(x v).mp U;have Z:r<=w:=by obtain⟨r',C,E⟩:=Q2 H (n:=h+w) w λj=>KH h (λi=>f i j)<|v9 j;rw[Qe H ⟨B,l,I,x⟩ E];exact C
 have ag:w<=r:=by obtain⟨r',C,E⟩:=Q2 H (n:=w) r λk j=>B k<|h+j;refine Co (cg H (m:=w) (W:=v9) ⟨v9,id,WZ H w,λv=>Iff.rfl⟩ E λj O=>?_) C;have:=Span.map (n':=w) (G':=l4 r λk j=>B k<|h+j) (λi=>h+i) (λi b=>by omega) (λg ⟨k,a,Y⟩=> .gen ⟨k,a,by rw[Y]⟩)<|(x<|KH h (λi=>f i j)<|v9 j).mpr (.gen ⟨j,O,rfl⟩);exact this.congr λi _=>by rw[JP]
 have er:r=w:=Nat.le_antisymm Z ag;subst er;obtain⟨s,hs,M,o⟩:=QZ h I.mono;have eb:=QN I y hs M o;have ar:pd p r (r - s) (λk j=>B (s+k)<|h+j) (λk=>l (s+k) - h):={
  lt:=λk a=>by have:=I.lt (s+k) ⋯;have:=o (s+k) ⋯ ⋯;omega
  mono:=λk m a G=>by have:=I.mono (s+k) (s+m) ⋯ ⋯;have:=o (s+k) ⋯ ⋯;omega
  one:=λk a=>by have:=o (s+k) ⋯ ⋯;rw[show h+(l (s+k) - h)=l (s+k)by omega];exact I.one _ ⋯
  u9:=λk j a O=>I.u9 _ _ ⋯ ⋯
  Dj:=λk m a G A=>by have:=o (s+m) ⋯ ⋯;rw[show h+(l (s+m) - h)=l (s+m)by omega];exact I.Dj _ _ ⋯ ⋯ ⋯
  sx:=λk i a b=>I.sx _ _ ⋯ ⋯}
 refine⟨r - s,_,_,s,?_,ar,λv=>⟨λU=>?_,λU=>?_⟩,?_,by omega⟩
 ·have P:=xK f R y
  have Q:=J1 (n:=r) y;have as:zU (.tp [0,1]) jX (zw qo (zf 0)<|zf 1) [Cell.no,Cell.no] ((Br r).map λj=>D.tup [.tup (zC h λi=>f i j),.tup (zC r λk=>if j=k then 1 else 0)])=cI (ji r (h+r) λj=>KH h (λi=>f i j)<|v9 j):=by unfold ji;refine zL _ _ λj O=>zO rfl rfl ?_;simp[qo,S,bD];rfl
  have zp:WI (ji r h λi j=>f j i) (ji r r λi j=>if i=j then 1 else 0)=(Br r).map λj=>D.tup [.tup (zC h λi=>f i j),.tup (zC r λk=>if j=k then 1 else 0)]:=by unfold WI ji;rw[List.zip_map'];simp
  have c1:((h:Int)+(r:Int))=((h+r:Nat):Int):=by omega
  simp only[Dv]at e;rw[<- c1]at e;unfold jW at P Q ⊢;have nl : ∀T t f γ,zU T t f γ []=cI []:=λ_ _ _ _=>rfl;simp[yu,kG,jg,je,jt,P,Q,zp,y,jx,Bu,as,nl,e,eb]
 ·intro i b
  induction U with
  | @zero v hz=>
   have:zz (λj=>f i j*v j) r%p=zz (λ_=>0) r%p:=qF λj O=>by rw[Cu,hz j O];simp
   rw[this,jR];rfl
  | @step v u g c hg hu he J=>
   obtain⟨k,a,rfl⟩:=hg;have e1:zz (λj=>f i j*v j) r%p=zz (λj=>f i j*u j+c*(f i j*B (s+k) (h+j))) r%p:=qF λj O=>by rw[Cu,he j O,<- Cu,Int.mul_add,Int.mul_left_comm]
   have N:=X (B<|s+k) (.gen ⟨s+k,by omega,rfl⟩) i b;have e3:B (s+k) i=0:=I.u9 _ _ ⋯ (by have:=o (s+k) ⋯ ⋯;omega);rw[e3]at N;rw[e1,xY,wF,EA,J,Cu,<- N];simp
 ·
  have bi:Span p (h+r) (l4 r B) (KH h (λ_=>0) v):=by
   refine(x _).mpr ((Span.sum (u:=λj=>KH h (λi=>f i j)<|v9 j) v (m:=r) λj O=> .gen ⟨j,O,rfl⟩).congr λi b=>?_);rcases Cc i h with z | z
   ·simp only[Zc z]
    rw[jY (g:=λj=>f i j*v j) λj _=>HF _ _,U i z];simp
   ·obtain⟨k,rfl⟩ : ∃k,i=h+k:=⟨i - h,by omega⟩
    simp only[JP];rw[xE (f:=λj=>v j*v9 j k) (i:=k) ⋯ λj _ A=>by simp[v9,A]];simp[v9]
  have co:=bN I bi;refine(Span.sum (u:=λk j=>B (s+k)<|h+j) (λk=>KH h (λ_=>0) v<|l<|s+k) (m:=r - s) λk a=> .gen ⟨k,a,rfl⟩).congr λj O=>?_;have:=co (h+j) ⋯;rw[JP]at this;rw[this];obtain⟨d,rfl⟩ : ∃d,r=s+d:=⟨r - s,by omega⟩;rw[Ex];have sp : ∀(F:Nat->Int) (d:Nat),(∀k,k<s->F k=0)->zz F (s+d)=zz (λk=>F<|s+k) d:=by
   intro F d hF
   induction d with
   | zero=>
    show zz F s=0;rw[jY (g:=λ_=>0) hF,jR]
   | succ d J=>rw[<- Nat.add_assoc];simp only[zz];rw[J]
  rw[sp _ d λk a=>by rw[Zc (M k a)];simp]
 ·
  refine⟨λk i=>B k i,l,⟨λk a=>M k a,λk m a G=>I.mono k m a ⋯,λk a=>I.one k ⋯,λk j a O=>I.u9 k j ⋯ O,λk m a G A=>I.Dj k m ⋯ ⋯ A,λk i a b=>I.sx k i ⋯ ⋯⟩,λv=>⟨λU=>U.le λg ⟨k,a,Y⟩=>?_,λU=>U.le λg ⟨j,O,Y⟩=>?_⟩⟩
  ·subst Y
   exact Span.map (n':=h) (G':=l4 r λj i=>f i j) (λi=>i) (λi b=>by omega) (λg ⟨j,O,Y⟩=>(Span.gen (g:=λi=>f i j) ⟨j,O,rfl⟩).congr λi b=>by rw[Y];simp only[Zc b])<|(x<|B k).mp (.gen ⟨k,by omega,rfl⟩)
  ·subst Y
   have:=Span.map (n':=h) (G':=l4 s λk i=>B k i) (λi=>i) (λi b=>by omega) (λg hZ=>by
    obtain⟨k,a,Y⟩:=hZ;subst Y;rcases Cc k s with z | z
    ·exact .gen ⟨k,z,rfl⟩
    ·exact .zero λi b=>by rw[I.u9 k i a (by have:=o k z a;omega)];simp) ((x<|KH h (λi=>f i j)<|v9 j).mpr (.gen ⟨j,O,rfl⟩))
   exact this.congr λi b=>by rw[Zc b]
end
noncomputable def QQ:=(k7 3<|zN (jz<|zf 1) (.nm 0) 1 [0] jX (zw kh (zq zy<|zb (zf 1)<|zb (zw qo (zm<|.int 10)<|zf 0) zx)<|zm<|.int 3))
noncomputable def Yb:=(m3 (sB<|zw i9 (zw kh (zq zy<|zb (zf 0)<|zb (zm<|.int 1) zx)<|zm<|.int 2)<|zm<|.int 1) (zF (k7 3<|zN (jz<|zf 1) (.nm 0) 1 [] jX (zm<|.int 0))<|zF (jn 4<|qS<|zN (zQ<|jj<|qw<|zb (zw wb (zf 2)<|zm<|.int 1)<|zb (zw qo (zf 2)<|zm<|.int 1) zx) (.nm 0) 1 [1] (sB<|qh A1 DU (zm<|.int 0) (zf 0)<|zf 1) (zf 0))<|zF (Jg (zQ<|zT<|zf 4) (.nm 5)<|zF (vm 3 (zf 5)<|zw qo (zm<|.int 6)<|zw kh (zq zy<|zb (zf 0)<|zb (zw qo (zm<|.int 20)<|zf 5) zx)<|zm<|.int 4)<|m3 (sB<|zw i9 (wJ<|zl 4)<|zm<|.int 1) (vm 3 (zf 5)<|zw qo (zm<|.int 13)<|zw kh (zq zy<|zb (zf 0)<|zb (zw qo (zm<|.int 20)<|zf 5) zx)<|zm<|.int 6) jK)<|vm 3 (zf 2)<|zw kh (zw K5 (zq zy<|zb (zf 0)<|zb (zm<|.int 20) zx)<|zm<|.int 16)<|zm<|.int 5) jK)
def QP:=(yU 3)
def qe:=jg 6<|zF QQ<|zF Yb QP
def cL:=(k7 2<|qw zx)
noncomputable def Vd:=(Jg (yM<|zf 0) (.tp [3,4])<|zF (YF (.tp [5,6])<|zq jd<|zb (zf 3)<|zb (zf 4) zx)<|kT 2<|qS<|zN (jz<|gB (zl 1)<|zf 6) (.nm 0) 1 [1,5] jX (qS<|zN (jz<|gB (zl 1)<|zf 2) (.nm 0) 1 [0] jX (xh<|zw i9 (zf 1)<|zf 0)))
def Vb:=(yU 2)
def xM:=jg 7<|zF cL<|zF Vd Vb
noncomputable def zG:List D->Option Xn:=YI 8<|yv o6 (jn 2<|zq jZ<|zb (zf 0) zx)<|yv (xU jw<|zb (zf 2)<|zb (zf 1) zx) (wq<|zq zX<|zb (zf 2)<|zb (zf 1) zx)<|yv o6 (jn 3<|zq qu<|zb (zf 2)<|zb (zf 1) zx)<|yv o6 (jn 4<|zq qc<|zb (zf 0)<|zb (zf 1)<|zb (zf 3) zx)<|yv o6 (jn 5<|k6<|zb (wJ<|zl 4)<|zb (gB (zT<|gB (zl 0)<|zm<|.int 1)<|zf 1)<|zb (zf 4) zx)<|yv o6 (jn 6<|Z1 (sB<|zf 3) (zq jc<|zb (gB (zl 0)<|zm<|.int 0)<|zb (zf 5) zx)<|zq zJ<|zb (gB (zl 0)<|zm<|.int 0)<|zb (zf 5) zx)<|yv o6 (jn 7<|zw qo (zw qo (YE (gB (zl 0)<|zm<|.int 1) J4<|u4<|zf 1)<|k6<|zb (gB (zl 6)<|zm<|.int 1) zx)<|YE (gB (zl 0)<|zm<|.int 1) (u4<|zw qo (zf 1)<|zm<|.int 1) J4)<|xU jq<|zb (zf 7) zx
noncomputable def qZ:=jg 4<|zF (m3 (sB<|zw i9 (zf 0)<|zm<|.int 0) (qv<|zq zV<|zb (zf 1)<|zb (zf 3) zx) jK)<|zF (m3 (sB<|zw i9 (zf 0)<|zm<|.int 1) (wo<|qi qI<|zb (zf 2)<|zb (zf 3)<|zb (qS<|qw<|zb (k6<|zb (zm<|.int 0)<|zb (zm<|.int 0) zx) zx) zx) jK)<|zF (m3 (sB<|zw i9 (zf 0)<|zm<|.int 2) (qv<|zq qH<|zb (zf 2)<|zb (zf 3) zx) jK)<|qv<|zq qD<|zb (zf 2)<|zb (zf 3)<|zb (gB (zl 1)<|zm<|.int 1) zx
noncomputable def jO:List D->Option Xn:=YI 4<|yv (yg (sB<|zw i9 (zf 0)<|zm<|.int 0) (xU zG<|zb (zf 1)<|zb (zf 3) zx) o6) (m3 (sB<|zw i9 (zf 0)<|zm<|.int 0) (qv<|zq zV<|zb (zf 1)<|zb (zf 3) zx) jK)<|yv (yg (sB<|zw i9 (zf 0)<|zm<|.int 1) (xU kn<|zb (zf 2)<|zb (zf 3)<|zb (qS<|qw<|zb (k6<|zb (zm<|.int 0)<|zb (zm<|.int 0) zx) zx) zx) o6) (m3 (sB<|zw i9 (zf 0)<|zm<|.int 1) (wo<|qi qI<|zb (zf 2)<|zb (zf 3)<|zb (qS<|qw<|zb (k6<|zb (zm<|.int 0)<|zb (zm<|.int 0) zx) zx) zx) jK)<|yv (yg (sB<|zw i9 (zf 0)<|zm<|.int 2) (xU km<|zb (zf 2)<|zb (zf 3) zx) o6) (m3 (sB<|zw i9 (zf 0)<|zm<|.int 2) (qv<|zq qH<|zb (zf 2)<|zb (zf 3) zx) jK)<|xU xA<|zb (zf 2)<|zb (zf 3)<|zb (gB (zl 1)<|zm<|.int 1) zx
noncomputable def js:=jg 2 (zF (jn 1 (zw qo (zw qo (xh (Qd "NoArrow" (zf 0))) (xh (Qd "NoLine" (zf 0)))) (xh (Qd "NoPrime" (zf 0))))) (zF (jn 1 (zw qo (zw qo (zw qo (zf 1) (xh (Qd "NoRoom" (zf 0)))) (xh (Qd "NoRow" (zf 0)))) (xh (Qd "NoTable" (zf 0))))) (zF (jn 1 (zw qo (zw qo (zw qo (zf 1) (xh (Qd "NoText" (zf 0)))) (xh (Qd "NoTurn" (zf 0)))) (xh (Qd "NoWidths" (zf 0))))) (zF (jn 1 (zw qo (zw qo (zw qo (zf 1) (xh (Qd "Nothing" (zf 0)))) (xh (Qd "Nought" (zf 0)))) (xh (Qd "TooMany" (zf 0))))) (qv (lp (zw i9 (zw qo (zf 1) (xh (Qd "Unlike" (zf 0)))) (zm (.int 1))) (dZ (zf 0))))))))
def Yu:=(jn 4 (zm (.str "told")))
def Yt:=(jn 5<|zf 3)
noncomputable def vh:=(X5 qZ jO (zb (zf 0) (zb (zf 1) (zb (zf 2) (zb (zf 3) zx)))) (JE "NoRoom" 6 (zF (jn 4 (gB (jj (qw (zb (zm (.str "otherwise")) (zb (zm (.str "room")) zx)))) (xh (zq js (zb (zf 6) zx))))) (jn 5 (ll "room" (zf 6)))) (JE "NoTurn" 6 (jn 4 (gB (jj (qw (zb (zm (.str "otherwise")) (zb (zm (.str "turn")) zx)))) (xh (zq js (zb (zf 6) zx))))) (JE "TooMany" 6 (jn 4 (gB (jj (qw (zb (zm (.str "otherwise")) (zb (zm (.str "many")) zx)))) (xh (zq js (zb (zf 6) zx))))) de))))
noncomputable def Ys:=(m3 (hJ (sB (DY .bool (zf 5))) (sB (zw r6 (zf 5) (zf 3)))) (qv (zm (.str "otherwise"))) jK)
def Yr:=(yU 4)
def zW:=jg 7<|zF Yu<|zF Yt<|zF vh<|zF Ys Yr
def Xv:=(jn 3<|zq qY<|zb (zf 0)<|zb (zf 2) zx)
noncomputable def Xu:=(m3 (sB (zw r6 (zf 3) (zm (.str "told")))) (yU 3) jK)
noncomputable def vP:=(jn 4<|qS<|zN (zQ<|jj<|qw<|zb (zw wb (zf 2)<|zm<|.int 1)<|zb (zw qo (zf 2)<|zm<|.int 1) zx) (.nm 0) 1 [1] (sB<|qh A1 DU (zm<|.int 0) (zf 0)<|wJ<|zl 1) (gB (zl 1)<|zf 0))
noncomputable def Xt:=(m3 (sB (zw B2 (zw wb (zw qo (zw wb (YC (zl 1)) (gB (zl 1) (zf 2))) (YC (zl 4))) (W8 (gB (zl 1) (zf 2)) (YG (jj (Jh (zl 4) (jj (qw (zb (zm (.int 0)) zx)))))))) (zm (.int 30)))) (qv (zm (.str "many"))) jK)
def V7:=(qv (zm (.str "told")))
def qX:=jg 5<|zF Xv<|zF Xu<|zF vP<|zF Xt V7
def gh:=(jn 1<|zq zy<|zb (zf 0)<|zb (zm<|.int 0) zx)
noncomputable def gf:=(jn 2<|gB (jj<|qw<|zb (zm<|.int 2)<|zb (zm<|.int 3)<|zb (zm<|.int 5)<|zb (zm<|.int 7) zx)<|zw kh (zf 1)<|zm<|.int 4)
noncomputable def gd:=(jn 3<|zw qo (zm<|.int 1)<|zw kh (zw K5 (zf 1)<|zm<|.int 4)<|zm<|.int 6)
noncomputable def gc:=(jn 4<|zq j3<|zb (zw K5 (zf 1)<|zm<|.int 32)<|zb (zf 3) zx)
noncomputable def fZ:=(jn 5<|zw kh (zq zy<|zb (zf 0)<|zb (zm<|.int 2) zx)<|zf 3)
noncomputable def fY:=(jn 6<|qS<|qi qe<|zb (zf 0)<|zb (zf 3)<|zb (zf 5) zx)
noncomputable def fX:=(jn 7<|zq qt<|zb (zf 2)<|zb (zf 4)<|zb (zf 6)<|zb (qS<|qi xM<|zb (zf 4)<|zb (zf 6) zx) zx)
noncomputable def fW:=(jn 8<|zw wb (zw kh (zq zy<|zb (zf 0)<|zb (zm<|.int 3) zx)<|zm<|.int 10)<|zm<|.int 2)
noncomputable def bj:=(m3 (sB<|zw i9 (zw kh (zq zy<|zb (zf 0)<|zb (zm<|.int 4) zx)<|zm<|.int 2)<|zm<|.int 1) (jn 8<|zf 5) jK)
noncomputable def VE:=(m3 (sB<|zw r6 (zq zW<|zb (zm<|.int 0)<|zb (zf 7)<|zb (zf 4)<|zb (zf 8) zx)<|zq qX<|zb (zf 4)<|zb (zf 6)<|zb (zf 8) zx) (qv<|zm<|.bl eF) jK)
noncomputable def VD:=(qv<|et<|jj<|zN (Zs (zm<|.int 1)<|zm<|.int 4) (.nm 0) 1 [4,7,8] jX (zw i9 (zq zW<|zb (zf 0)<|zb (zf 2)<|zb (zf 1)<|zb (zf 3) zx)<|zq qY<|zb (zf 1)<|zb (zf 3) zx))
noncomputable def vY:=jg 9<|zF gh<|zF gf<|zF gd<|zF gc<|zF fZ<|zF fY<|zF fX<|zF fW<|zF bj<|zF VE VD
section
variable{p:Int}{m k wl wr:Nat}{w:MX}{wd:MZ}{T:MV}
theorem rR(I:Pr p){n wk:Nat}(J:n<=50)(H:wk<=50)(M:MK) : ∃q K l s,jc [.int p,jW n wk M]=cI (.val<|jW n q λi c=>K c i)/\pd p n q K l/\Rk p wk n (λj i=>M j i) s/\q+s=n:=by have b:=jU;obtain⟨q,K,l,s,e,O,d,U,Y⟩:=Z0 I H J λi j=>M j i;have z:=xK M (show n<=lim by omega) (show wk<=lim by omega);have a:=KG (q:=q) (h:=n) K ⋯ ⋯;refine⟨q,K,l,s,?_,O,U,Y⟩;rw[mI];refine j8 ?_;simp only[jW]at z e a ⊢;simp[LD,je,Bu,jf,z,e,a]
def vz(_ i j:Nat):Int:=if i=j then 1 else 0
theorem ZC(e:Bool)(i c:Nat):ZD e k wl vz i c=if (if i<wl then i else i - wl)=c then 1 else 0:=by
 unfold ZD vz;by_cases h:i<wl
 ·simp only[MY h]
  cases e<;>simp[eq_comm]
 ·simp only[RQ h]
  cases e<;>simp[eq_comm]
theorem YL(z:Pr p){wk:Nat}(e:Bool):Rk p wk (wl+wr) (λj i=>ZD e k wl vz j i) (min wk<|max wl wr):=by
 have l:=z.one;have f:=z.pos;have a:1<p:=by rcases z with rfl | rfl | rfl | rfl<;>decide
 refine⟨λk i=>if i=k then 1 else 0,λk=>k,⟨λk d=>by omega,λk m h _=>h,λk _=>MY rfl,λk j _ O=>RQ ⋯,λk m _ _ h=>RQ h,λk i _ _=>by split<;>omega⟩,λv=>⟨λh=>h.le λg I=>?_,λh=>h.le λg I=>?_⟩⟩
 ·obtain⟨c,U,rfl⟩:=I
  by_cases h:c<wl
  ·refine(Span.gen (G:=l4 _ _) ⟨c,by omega,rfl⟩).congr λi _=>?_
   show _=ZD e k wl vz c i%p;rw[ZC,MY h];simp only[eq_comm]
  ·refine(Span.gen (G:=l4 _ _) ⟨wl+c,by omega,rfl⟩).congr λi _=>?_
   show _=ZD e k wl vz (wl+c) i%p;rw[ZC,RQ (show ¬wl+c<wl by omega),Ex];simp only[eq_comm]
 ·obtain⟨j,O,rfl⟩:=I
  by_cases h:(if j<wl then j else j - wl)<wk
  ·refine(Span.gen (G:=l4 _ _) ⟨if j<wl then j else j - wl,by split at h<;>(split<;>omega),rfl⟩).congr λi _=>?_
   show ZD e k wl vz j i%p=_;rw[ZC];simp only[eq_comm]
  ·refine .zero λi b=>?_
   show ZD e k wl vz j i%p=0;rw[ZC,RQ ⋯];simp
end
def Nq:List Int:=(Br 10).map λ(i:Nat)=>(i:Int) - 2
noncomputable def C9:List (List Bool×Int):=words.flatMap λl=>Nq.map λk=>(l,k)
theorem yZ{l:List Bool}{k:Int}(h:l.length<=5)(z : -2<=k)(H:k<=7):(l,k)∈C9:=
 GF.mpr ⟨l,Jx h,FG.mpr ⟨k,FG.mpr ⟨(k+2).toNat,BD.mpr ⋯,by omega⟩,rfl⟩⟩
noncomputable def yI(l:List Bool)(k:Int):Str:=if 0<=k/\k<=(l.length:Int)then (if vg l k.toNat=d6 then "told" else "turn")else "room"
noncomputable def iz(l:List Bool)(k:Int):Option Xn:=if 0<=k/\k<=(l.length:Int)then (if vg l k.toNat=d6 then cS else cI ("NoTurn",cS))else cI ("NoRoom",cI k)
theorem Wi:C9.map (λa=>qY [.str (wl a.1),.int a.2])=C9.map λa=>cI (.val<|.str<|yI a.1 a.2):=by kernel_rfl
theorem XG:C9.map (λa=>jw [.str (wl a.1),.int a.2])=C9.map λa=>iz a.1 a.2:=by kernel_rfl
theorem Yp(R:D):C9.map (λa=>zW [.int 1,R,.str<|wl a.1,.int a.2])=C9.map λa=>cI (.val<|.str<|yI a.1 a.2):=by kernel_rfl
theorem Yo(R:D):C9.map (λa=>zW [.int 2,R,.str<|wl a.1,.int a.2])=C9.map λa=>cI (.val<|.str<|yI a.1 a.2):=by kernel_rfl
theorem Yn(A C:D)(u:Nat->Int):C9.map (λa=>zW [.int 3,.tup [A,.tup<|zC (a.1.length+1) u,C],.str<|wl a.1,.int a.2])=C9.map λa=>cI (.val<|.str<|yI a.1 a.2):=by kernel_rfl
theorem Yq:zW=jg 7 (zF Yu<|zF Yt<|zF vh<|zF Ys Yr):=rfl
theorem xW{G:CO Xn}{F:CO Fl}{H:CO Xn}{γ γ':Ctx}{r:Option Xn}(I:G γ=cS)(J:F γ=cI (.next γ'))(z:H γ'=r):yv G F H γ=r:=by unfold yv;rw[I,J];exact z
theorem iE{G:CO Xn}{F:CO Fl}{H:CO Xn}{γ:Ctx}{c:Xn}(z:G γ=cI c):yv G F H γ=cI c:=by unfold yv;rw[z]
theorem df:zG=YI 8 (yv o6 Hc<|yv (xU jw<|zb (zf 2)<|zb (zf 1) zx) Il<|yv o6 Im<|yv o6 Io<|yv o6 Ip<|yv o6 Hn<|yv o6 Iq<|xU jq<|zb (zf 7) zx):=rfl
theorem ZX(R W:D)(k:Int):jO [.int 0,R,W,.int k]=zG [R,.int k]:=by
 have a:(yg (sB<|zw i9 (zf 0)<|zm<|.int 0) (xU zG<|zb (zf 1)<|zb (zf 3) zx) o6) (je 4 [.int 0,R,W,.int k])=zG [R,.int k]:=by simp[yg,xU,je,Bu]
 show yv _ _ _ _=_;unfold yv;rw[a];cases zG [R,.int k]with
 | some c=>rfl
 | none=>
  cases h:zV [R,.int k]<;>simp[je,Bu,h]
theorem gQ{R W v:D}{k:Int}(h:zV [R,.int k]=cI (.val v)):qZ [.int 0,R,W,.int k]=cI (.val v):=by refine j8 ?_;simp[jt,je,Bu,h]
theorem KP(k:Int):js [.exc "NoRoom" (cI k)]=cI (.val (.bl d6)):=by kernel_rfl
theorem KO:js [.exc "NoTurn" cS]=cI (.val (.bl d6)):=by kernel_rfl
theorem KQ:js [.exc "TooMany" cS]=cI (.val (.bl d6)):=by kernel_rfl
section
variable{i k:Int}{R W:D}
abbrev Ij(i k:Int)(R W:D)(c4 c5 c6:Cell):Ctx:=[.val (.int i),.val R,.val W,.val (.int k),c4,c5,c6]
theorem Zq{s:Str}(h:vh (Ij i k R W (.val (.str "told")) (.val (.int k)) .no)=cI (.next (Ij i k R W (.val (.str s)) (.val (.int k)) .no))):zW [.int i,R,W,.int k]=cI (.val (.str s)):=by rw[Yq];refine j8 (zo (γ':=Ij i k R W (.val (.str "told")) .no .no) (by simp[Yu,je,Bu]) (zo (γ':=Ij i k R W (.val (.str "told")) (.val (.int k)) .no) (by simp[Yt]) (zo h (zo (γ':=Ij i k R W (.val (.str s)) (.val (.int k)) .no) (by simp[Ys,bp,VI]) (by simp[Yr])))))
theorem Yl(h:jO [.int i,R,W,.int k]=cI (("NoRoom" : Str),cI k)):zW [.int i,R,W,.int k]=cI (.val (.str "room")):=by refine Zq ?_;have a:=KP k;simp[vh,X5,h,JE,a,ll,ZW,gB,jt]
theorem Yj(h:jO [.int i,R,W,.int k]=cI (("NoTurn" : Str),cS)):zW [.int i,R,W,.int k]=cI (.val (.str "turn")):=by
 refine Zq ?_;have a:=KO;have z : ¬("NoTurn" : Str) = "NoRoom":=by decide
 simp[vh,X5,h,JE,a,ll,ZW,gB,jt,z]
theorem Ym(h:jO [.int i,R,W,.int k]=cI (("TooMany" : Str),cS)):zW [.int i,R,W,.int k]=cI (.val (.str "many")):=by
 refine Zq ?_;have a:=KQ;have z : ¬("TooMany" : Str) = "NoRoom":=by decide
 have I : ¬("TooMany" : Str) = "NoTurn":=by decide
 simp[vh,X5,h,JE,a,ll,ZW,gB,jt,z,I]
theorem Yk{r:Res}(h:jO [.int i,R,W,.int k]=cS)(z:qZ [.int i,R,W,.int k]=cI r):zW [.int i,R,W,.int k]=cI (.val (.str "told")):=by refine Zq ?_;simp[vh,X5,h,z]
end
section
variable{p:Int}{m k wl wr:Nat}{w:MX}{wd:MZ}{T:MV}
theorem Z6(J:m<=5){k:Int}(H : -2<=k)(I:k<=7){c:Xn}(h:iz ((Br m).map w) k=cI c):zG [xF p m w wd T,.int k]=cI c:=by
 have z:=ko (p:=p) (w:=w) (wd:=wd) (T:=T) (show m<=900 by omega);have a:=kO XG<|yZ (l:=(Br m).map w) (k:=k) (by simpa using J) H I;dsimp only at a;rw[<- yw,h]at a;rw[df];show yv _ _ _ _=_;refine xW (γ':=[.val (xF p m w wd T),.val<|.int k,.val<|.str<|xT m w,.no,.no,.no,.no,.no]) rfl ?_ (iE ?_)
 ·simp[Hc,je,Bu,z]
 ·simp[xU,a]
theorem QU(J:m<=5)(H:k<=m)(Y : ∀k,wd k<=20)(Z:wl=if 0<k then wd (k - 1)else 0)(a5:wr=if k<m then wd (k+1)else 0)(ht:vg ((Br m).map w) k=d6)
 (e:Bool) (G:MK) (q:Nat) (hq:q<=wl+wr) (he:vO ((Br m).map w) k=e) (hE:(0<k->w (k - 1) = !e)/\(k<m->w k=e)) (hG : ∀i c,i<wl+wr->c<q->0<=G i c/\G i c<p)
 (L:if e=d6 then jc [.int p,jW (wl+wr) (wd k) (ZD e k wl T)]=cI (.val<|jW (wl+wr) q G)else zJ [.int p,jW (wl+wr) (wd k) (ZD e k wl T)]=cI (.val<|jW (wl+wr) q G)) :
 (30<zz (λr=>(m4 k q wd r:Int)) (m+1)->zG [xF p m w wd T,.int (k:Int)]=cI (("TooMany" : Str),cS))/\
 (¬30<zz (λr=>(m4 k q wd r:Int)) (m+1)->zG [xF p m w wd T,.int (k:Int)]=cS/\∃v,zV [xF p m w wd T,.int (k:Int)]=cI (.val v)):=by
 have hl:=jU;have P:=ko (p:=p) (w:=w) (wd:=wd) (T:=T) (show m<=900 by omega);have d:=QI (l:=(Br m).map w) (k:=k) (by simpa using J) (by simpa using H) ht;have a:=kO XG<|yZ (l:=(Br m).map w) (k:=(k:Int)) (by simpa using J) ⋯ ⋯;dsimp only at a;have B:iz ((Br m).map w) (k:Int)=cS:=by unfold iz;rw[MY ⟨by omega,by simp;omega⟩,Cr,MY ht]
 rw[B]at a;rw[<- yw]at d a;have j:=Qv (w:=w) J H;have Q:=Y k;have S:wl<=20:=by rw[Z];split;exact Y _;omega
 have X:wr<=20:=by rw[a5];split;exact Y _;omega
 have f : ∀k,wd k<=100:=λk=>by have:=Y k;omega
 have li:=ba (p:=p) (w:=w) (T:=T) f J H e;rw[Vw Z a5 H e hE]at li;have A:=vT (T:=T) (p:=p) (q:=q) rfl Z a5 J H f ⋯ e hE G hG;rw[he]at j;let R:=xF p m w wd T;let W:D:= .str (xT m w);let z:D:= .tup (ji (wl+wr) (wd k)<|ZD e k wl T);let I:=jW (wl+wr) (wd k)<|ZD e k wl T;let U:=jW (wl+wr) q G;let O:D:= .tup (zC (m+1) λr=>(m4 k q wd r:Int));have n:Hc (je 8 [R,.int (k:Int)])=cI (.next [.val R,.val<|.int k,.val W,.no,.no,.no,.no,.no]):=by simp[Hc,je,Bu,P,R,W]
 have o:Il [.val R,.val<|.int k,.val W,.no,.no,.no,.no,.no]=cI (.next [.val R,.val<|.int k,.val W,.no,.no,.no,.no,.no]):=by simp[Il,W,d]
 have s:Im [.val R,.val<|.int k,.val W,.no,.no,.no,.no,.no]=cI (.next [.val R,.val<|.int k,.val W,.val<|.bl e,.no,.no,.no,.no]):=by simp[Im,W,j]
 have t:Io [.val R,.val<|.int k,.val W,.val<|.bl e,.no,.no,.no,.no]=cI (.next [.val R,.val<|.int k,.val W,.val<|.bl e,.val z,.no,.no,.no]):=by simp[Io,R,li,z]
 have u:Ip [.val R,.val<|.int k,.val W,.val<|.bl e,.val z,.no,.no,.no]=cI (.next [.val R,.val<|.int k,.val W,.val<|.bl e,.val z,.val I,.no,.no]):=by
  have F:k<m+1:=by omega
  have M:jf (.tup<|ji (wl+wr) (wd k)<|ZD e k wl T)=cI (.T,ji (wl+wr) (wd k)<|ZD e k wl T):=rfl;simp[Ip,R,vn,jv,F,z,M,I,jW]
 have x:Hn [.val R,.val<|.int k,.val W,.val<|.bl e,.val z,.val I,.no,.no]=cI (.next [.val R,.val<|.int k,.val W,.val<|.bl e,.val z,.val I,.val U,.no]):=by
  cases e with
  | true=>rw[MY rfl]at L;simp[Hn,R,vn,I,U,L]
  | false=>rw[RQ ⋯]at L;simp[Hn,R,vn,I,U,L]
 have y:Iq [.val R,.val<|.int k,.val W,.val<|.bl e,.val z,.val I,.val U,.no]=cI (.next [.val R,.val<|.int k,.val W,.val<|.bl e,.val z,.val I,.val U,.val O]):=by
  have K:jf (jW (wl+wr) q G)=cI (.T,[.int (wl+wr:Nat),.int q,.tup (ji (wl+wr) q G)]):=rfl;have N:=we (wd:=wd) (q:=q) H J;have C:qo (.tup<|wx (zC (m+1) λr=>(wd r:Int)) cS<|some (k:Int)) (.tup [D.int (q:Int)])=cI (.tup<|wx (zC (m+1) λr=>(wd r:Int)) cS (cI (k:Int))++[D.int (q:Int)]):=by show(if _<=lim then _ else cS)=_;rw[ZP _ (by simp;omega),MY (by simp;omega)]
  simp[Iq,R,vn,U,K,C,N,O]
 have g : ∀r,jq [O]=r->zG [R,.int (k:Int)]=r:=λr h=>by rw[df];show yv _ _ _ _=_;refine xW rfl n<|xW (by simp[xU,W,a]) o<|xW rfl s<|xW rfl t<|xW rfl u<|xW rfl x<|xW rfl y ?_;simp[xU,h]
 refine⟨λb=>g _ ?_,λb=>⟨g _ ?_,?_⟩⟩
 ·simp[jq,YI,yg,dw,je,Bu,jf,O,xZ,b]
 ·simp[jq,YI,yg,o6,je,Bu,jf,O,xZ,b]
 ·refine⟨xF p m (wa k w) (m4 k q wd)<|C0 p e k wl G T,?_⟩
  rw[iP];refine j8<|zo n<|zo o<|zo s<|zo t<|zo u<|zo x<|zo y<|zo (γ':=[.val R,.val<|.int k,.val W,.val<|.bl e,.val z,.val I,.val U,.val O]) ?_ ?_
  ·have E:jH [O]=cI (.val .i3):=by
    simp[jH,jg,je,Bu,jf,O,xZ,b]
   simp[LL,E]
  ·simp[LM,R,vn,U,A,O]
   rfl
theorem mz(z:Pr p)(L:m<=5)(H:k<=m)(I : ∀k,wd k<=20)(U:wl=if 0<k then wd (k - 1)else 0)(Y:wr=if k<m then wd (k+1)else 0)(J:vg ((Br m).map w) k=d6){q:Nat}(eq:q=wl+wr - min (wd k) (max wl wr)) :
 (30<zz (λr=>(m4 k q wd r:Int)) (m+1)->zG [xF p m w wd vz,.int (k:Int)]=cI (("TooMany" : Str),cS))/\
 (¬30<zz (λr=>(m4 k q wd r:Int)) (m+1)->zG [xF p m w wd vz,.int (k:Int)]=cS/\∃v,zV [xF p m w wd vz,.int (k:Int)]=cI (.val v)):=by
 have E:=jU;have u:=I k;have x:wl<=20:=by rw[U];split;exact I _;omega
 have y:wr<=20:=by rw[Y];split;exact I _;omega
 cases he:vO ((Br m).map w) k with
 | true=>
  have b:=(w9 H).mp he;obtain⟨d,K,l,s,a,O,o,A⟩:=rR z (show wl+wr<=50 by omega) (show wd k<=50 by omega)<|ZD d6 k wl vz;have e:=Qe z o<|YL z d6;obtain rfl:d=q:=by omega
  exact QU L H I U Y J d6 (λi c=>K c i) d ⋯ he b (λi c h g=>O.sx c i g h) (by rw[MY rfl];exact a)
 | false=>
  have b:=gN H J he;obtain⟨r,B,l,a,O,t⟩:=mH z (n:=wl+wr) ⋯ (show wd k<=lim by omega)<|ZD eF k wl vz;have e:=eA z (f:=λi j=>ZD eF k wl vz i j) (BB _) (BB _) ⟨B,l,O,t⟩<|YL (wk:=wd k) z eF;have C:=VT O;obtain rfl:(Dg (wl+wr) r l).length=q:=by omega
  exact QU L H I U Y J eF (λi c=>Ia p (wl+wr) r B l c i) _ ⋯ he b (λi c _ _=>fQ z _) (by rw[RQ ⋯];exact a)
end
theorem JN:qX=jg 5 (zF Xv<|zF Xu<|zF vP<|zF Xt V7):=rfl
theorem W3(k q:Nat)(wd:MZ) : ∀n,k<n->zz (λr=>(m4 k q wd r:Int)) n=zz (λr=>(wd r:Int)) n - (wd k:Int)+(q:Int)
 | 0,h=>absurd h ⋯
 | n+1,h=>by
  have e : ∀j,k<j\/j<=k->zz (λr=>(m4 k q wd r:Int)) j=zz (λr=>(wd r:Int)) j+if k<j then (q:Int) - (wd k:Int)else 0:=by
   intro j _
   induction j with
   | zero=>simp[zz]
   | succ j z=>
    show zz _ j+((m4 k q wd j:Nat):Int)=zz _ j+((wd j:Nat):Int)+_;rw[z ⋯];unfold m4;by_cases h:j=k
    ·subst h;rw[MY rfl,RQ ⋯,MY ⋯];omega
    ·by_cases a:k<j
     ·rw[RQ h,MY a,MY ⋯];omega
     ·rw[RQ h,RQ a,RQ ⋯];omega
  rw[e (n+1) ⋯,MY h];omega
section
variable{m k wl wr:Nat}{w:MX}{wd:MZ}
noncomputable def KY(m k:Nat)(wd:MZ):List Int:=(if 0<k then [(wd (k - 1):Int)]else [])++if k<m then [(wd (k+1):Int)]else []
theorem bE(L:m<=5)(hk:k<=m)(H:wl=if 0<k then wd (k - 1)else 0)(J:wr=if k<m then wd (k+1)else 0)(Z:vg ((Br m).map w) k=d6){q:Nat}(eq:q=wl+wr - min (wd k) (max wl wr)) :
 qX [.str (xT m w),.lst (zC (m+1) λr=>(wd r:Int)),.int (k:Int)]=cI (.val (.str (if 30<zz (λr=>(m4 k q wd r:Int)) (m+1)then "many" else "told"))):=by
 have X:=jU;have a:=kO Wi (yZ (l:=(Br m).map w) (k:=(k:Int)) (by simpa using L) ⋯ ⋯);dsimp only at a;have t:yI ((Br m).map w) (k:Int) = "told":=by unfold yI;rw[MY ⟨by omega,by simp;omega⟩,Cr,MY Z]
 rw[t,<- yw]at a;let W:Cell:= .val (.str (xT m w));let V:Cell:= .val (.lst (zC (m+1) λr=>(wd r:Int)));let K:Cell:= .val (.int (k:Int));let I:Cell:= .val (.str "told");let O:Cell:= .val (.lst ((KY m k wd).map D.int));have B:vP [W,V,K,I,.no]=cI (.next [W,V,K,I,O]):=by
  have f:0<k->o3 (m+1) ((k:Int) - 1)=cI (k - 1):=λh=>by rw[show(k:Int) - 1=((k - 1:Nat):Int)by omega,jv,MY ⋯]
  have g:k<m->o3 (m+1) ((k:Int)+1)=cI (k+1):=λh=>by rw[show(k:Int)+1=((k+1:Nat):Int)by omega,jv,MY ⋯]
  have g1:(zC (m+1) λr=>(wd r:Int))[k - 1]? = cI (.int (wd (k - 1):Int)):=j7 (n:=m+1) (λk=>(wd k:Int)) ⋯;have S : ∀j:Int,zU (.nm 0) (sB<|qh A1 DU (zm<|.int 0) (zf 0)<|wJ<|zl 1) (gB (zl 1)<|zf 0) [.no,V] []=cI []:=λ_=>rfl;by_cases d:0<k
  ·by_cases b:k<m
   ·have U:(1:Int)<=(k:Int):=by omega
    have i:(k:Int) - 1<(m:Int)+1:=by omega
    have o:(0:Int)<=(k:Int)+1:=by omega
    have Y:(k:Int)+1<((m+1:Nat):Int):=by omega
    simp[vP,W,V,K,I,O,KY,d,b,jx,qx,zU,qh,f,g,U,i,o,Y,g1]
   ·have U:(1:Int)<=(k:Int):=by omega
    have i:(k:Int) - 1<(m:Int)+1:=by omega
    have Y : ¬(k:Int)+1<((m+1:Nat):Int):=by omega
    simp[vP,W,V,K,I,O,KY,d,b,jx,qx,zU,qh,f,g,U,i,Y,g1]
  ·by_cases b:k<m
   ·have U : ¬(1:Int)<=(k:Int):=by omega
    have o:(0:Int)<=(k:Int)+1:=by omega
    have Y:(k:Int)+1<((m+1:Nat):Int):=by omega
    simp[vP,W,V,K,I,O,KY,d,b,jx,qx,zU,qh,f,g,U,o,Y]
   ·have U : ¬(1:Int)<=(k:Int):=by omega
    have Y : ¬(k:Int)+1<((m+1:Nat):Int):=by omega
    simp[vP,W,V,K,I,O,KY,d,b,jx,qx,zU,qh,f,g,U,Y]
 have u:QX ((KY m k wd).map D.int)=cI ((wl:Int)+(wr:Int))/\((KY m k wd)++[0]).max? = cI ((max wl wr:Nat):Int)/\(KY m k wd).length<=2:=by
  unfold KY;rw[H,J];by_cases d:0<k
  ·by_cases b:k<m
   ·simp only[MY d,MY b]
    refine⟨by simp[QX],?_,by simp⟩;simp[List.max?];omega
   ·simp only[MY d,RQ b]
    refine⟨by simp[QX],?_,by simp⟩;simp[List.max?]
  ·by_cases b:k<m
   ·simp only[RQ d,MY b]
    refine⟨by simp[QX],?_,by simp⟩;simp[List.max?]
   ·simp only[RQ d,RQ b]
    exact⟨by simp[QX],by simp[List.max?],by simp⟩
 obtain⟨x,y,T⟩:=u;have Q:=W3 k q wd (m+1) ⋯;have F:(zC (m+1) λr=>(wd r:Int))[k]? = cI (.int (wd k:Int)):=j7 (n:=m+1) (λk=>(wd k:Int)) ⋯;have N:o3 (m+1) (k:Int)=cI k:=by rw[jv,MY ⋯]
 have s : ∀e:List Int,yk (e.map D.int)=cI e:=λe=>by
  induction e with
  | nil=>rfl
  | cons z e M=>show((yk<|e.map D.int).map _)=_;rw[M];rfl
 have C:YG (jj<|Jh (zl 4)<|jj<|qw<|zb (zm<|.int 0) zx) [W,V,K,I,O]=cI (.int ((max wl wr:Nat):Int)):=by
  have A:(Jh (zl 4)<|jj<|qw<|zb (zm<|.int 0) zx) [W,V,K,I,O]=cI (((KY m k wd)++[0]).map D.int):=by
   have G:(KY m k wd).length+1<=lim:=by omega
   simp[O,G]
  rw[gU,QK,A];show((yk _).bind _)=_;rw[s];show(((KY m k wd)++[0]).max?.map D.int)=_;rw[y];rfl
 have p:(zw B2 (zw wb (zw qo (zw wb (YC<|zl 1)<|gB (zl 1)<|zf 2)<|YC<|zl 4)<|W8 (gB (zl 1)<|zf 2)<|YG<|jj<|Jh (zl 4)<|jj<|qw<|zb (zm<|.int 0) zx)<|zm<|.int 30) [W,V,K,I,O]=cI (.bl<|decide<|30<zz (λr=>(m4 k q wd r:Int)) (m+1)):=by
  have E:(zz (λr=>(wd r:Int)) (m+1) - (wd k:Int)+((wl:Int)+(wr:Int)) - (if ((max wl wr:Nat):Int)<(wd k:Int)then ((max wl wr:Nat):Int)else (wd k:Int)))=zz (λr=>(m4 k q wd r:Int)) (m+1):=by rw[Q];split<;>omega
  rw[yQ,yQ,yQ,yQ,gT,C];have R:k<m+1:=by omega
  simp only[W,V,K,I,O,nF,KN,kX,qO,Zh,BE,BG,zP,qa,Ze,Bw,BZ,xZ,qW,qC,F,N,x];rw[<- E];rfl
 rw[JN];refine j8 (zo (γ':=[W,V,K,I,.no]) (by simp[Xv,je,Bu,a,W,V,K,I]) (zo (γ':=[W,V,K,I,.no]) (by
  have P:r6 (.str "told") (.str "told")=cI (.bl eF):=by kernel_rfl
  simp[Xu,I,P]) (zo B ?_)))
 by_cases h:30<zz (λr=>(m4 k q wd r:Int)) (m+1)
 ·rw[jt,Xt,Wz,tN,p]
  simp[h]
 ·refine zo (γ':=[W,V,K,I,O]) ?_ (by simp[V7,h])
  rw[Xt,Wz,tN,p];simp[h]
end
theorem Va:xM=jg 7 (zF cL<|zF Vd Vb):=rfl
theorem Ya:qe=jg 6 (zF QQ<|zF Yb QP):=rfl
section
variable{p:Int}{m:Nat}{w:MX}{wd:MZ}{T:MV}
theorem X7(hm:m<=5)(z : ∀k,wd k<=20){k:Nat}(H:k<m)(acc:List D)(Z:acc.length<lim)(J L:Cell) : ∃I O,Ji (rc p m w wd T acc (.val<|.int k) (.val<|.str<|q9<|l6<|w k) J L)=cI (.next<|rc p m w wd T (acc++[Zf w wd T k]) (.val<|.int k) (.val<|.str<|q9<|l6<|w k) I O):=by
 have j:=jU;have a:=V4 w H;have b:=Wr w H;have U:nf w wd k<=lim:=by rw[VQ];have:=z<|vN w k;omega
 have Y:o3 (m+1) ((vN w k:Nat):Int)=cI (vN w k):=by rw[jv,MY a]
 have e:o3 (m+1) ((yP w k:Nat):Int)=cI (yP w k):=by rw[jv,MY b]
 have f:o3 m (k:Int)=cI k:=by rw[jv,MY H]
 have h:(zC (m+1) λk=>(wd k:Int))[vN w k]? = cI (.int (wd (vN w k):Int)):=j7 (n:=m+1) (λk=>(wd k:Int)) a;have i:(zC (m+1) λk=>(wd k:Int))[yP w k]? = cI (.int (wd (yP w k):Int)):=j7 (n:=m+1) (λk=>(wd k:Int)) b;have g:(xk w wd T m)[k]? = cI (D.lst<|vQ (nf w wd k) (n6 w wd k)<|T k):=by simp[xk,H]
 refine⟨.val<|.int ((yP w k:Nat):Int),.val<|.int ((vN w k:Nat):Int),?_⟩;unfold Ji;rw[jt,Wx,vU];simp only[rc,yJ,Zg,qO,BE,BG,zP,Bw,BZ,V3,k9,JW,CU,CD];have d:(zN (zQ<|zT<|gB (zl 3)<|zf 5) (.nm 0) 1 [] jX (zS<|zl 0)) [.val (.int p),.val<|.str<|xT m w,.val<|.lst<|zC (m+1) λk=>(wd k:Int),.val<|.lst<|xk w wd T m,.own acc,.val<|.int k,.val<|.str<|q9<|l6<|w k,.val<|.int ((yP w k:Nat):Int),.val (.int ((vN w k:Nat):Int))]=cI (ji (nf w wd k) (n6 w wd k)<|T k):=by simp only[yK,XN,XM,KN,kX,qO,BE,BG,zP,qa,Ze,Bw,BZ,qW,Yv,f,g,KD,U,if_true];exact aY _ _ _
 simp only[vV,nE,yJ,Zg,qO,KN,kX,KM,QK,d,BE,BG,zP,qa,qV,Ze,Bw,BZ,qW,qC,Y,e,h,i,Et,FW,Z,if_true];rw[<- VQ w wd k,<- bV w wd k];rfl
theorem Z4{F:CO Fl}{i j:Nat}{γ:Nat->Cell->Cell->Cell->Cell->Ctx}(Y : ∀s L Z H J,xj (.tp [i,j]) (.tup [.int (s:Nat),.str (q9<|l6<|w s)]) (γ s L Z H J)=cI (γ s (.val<|.int s) (.val<|.str<|q9<|l6<|w s) H J))
 (h : ∀s H J,s<m->∃z I,F (γ s (.val<|.int s) (.val<|.str<|q9<|l6<|w s) H J)=cI (.next<|γ (s+1) (.val<|.int s) (.val<|.str<|q9<|l6<|w s) z I)) :
 ∃L Z H J,qM (.tp [i,j]) F ((Br m).map λ(k:Nat)=>D.tup [.int k,.str (q9<|l6<|w k)]) (γ 0 .no .no .no .no)=cI (.next<|γ m L Z H J):=by
 have a : ∀(k s:Nat) (L Z H J:Cell),s+k=m->∃b d z I,qM (.tp [i,j]) F ((List.range' s k).map λ(k:Nat)=>D.tup [.int k,.str (q9<|l6<|w k)]) (γ s L Z H J)=cI (.next<|γ m b d z I):=by
  intro k
  induction k with
  | zero=>
   intro s L Z H J h;obtain rfl:s=m:=by omega
   exact⟨L,Z,H,J,rfl⟩
  | succ k t=>
   intro s L Z H J u;obtain⟨O,U,e⟩:=h s H J ⋯;obtain⟨f,g,l,n,r⟩:=t (s+1) (.val<|.int s) (.val<|.str<|q9<|l6<|w s) O U ⋯;refine⟨f,g,l,n,?_⟩;rw[Lb,BY,jG,Y,Bw,e];exact r
 obtain⟨o,p,O,U,e⟩:=a m 0 .no .no .no .no ⋯;rw[<- EK]at e;exact⟨o,p,O,U,e⟩
theorem ah(H:m<=5)(z : ∀k,wd k<=20):qt [.int p,.str<|xT m w,.lst<|zC (m+1) λk=>(wd k:Int),.lst (xk w wd T m)]=cI (.val<|xF p m w wd T):=by
 have U:=jU;have I:=yx w (show m<=1000 by omega);obtain⟨Y,d,f,g,e⟩:=Z4 (m:=m) (w:=w) (F:=Ji) (i:=5) (j:=6) (γ:=λs=>rc p m w wd T<|qf s w wd T) (λ_ _ _ _ _=>rfl) λs a b h=>by rw[KJ];exact X7 H z h _ (by simp;omega) a b
 rw[YJ];unfold jg;rw[jt];show(zF _ _<|rc p m w wd T [] .no .no .no .no).bind _=_;rw[jt,Zi,J0];simp only[rc,qO,BE,BG,zP,Bw,I,if_true,w5];have O:qf 0 w wd T=[]:=rfl;simp only[rc,O]at e;rw[e];simp;rfl
abbrev oc(m:Nat)(w:MX)(wd:MZ)(s:Nat)(c3 c4 c5 c6:Cell):Ctx:=[.val (.str (xT m w)),.val (.lst (zC (m+1) λk=>(wd k:Int))),.own (xk w wd vz s),c3,c4,c5,c6]
noncomputable def oa:=(zF (YF (.tp [5,6])<|zq jd<|zb (zf 3)<|zb (zf 4) zx)<|kT 2<|qS<|zN (jz<|gB (zl 1)<|zf 6) (.nm 0) 1 [1,5] jX (qS<|zN (jz<|gB (zl 1)<|zf 2) (.nm 0) 1 [0] jX (xh<|zw i9 (zf 1)<|zf 0)))
theorem aP:Vd=Jg (yM<|zf 0) (.tp [3,4]) oa:=rfl
theorem aO(Z:m<=5)(z : ∀k,wd k<=20){k:Nat}(H:k<m)(J L:Cell) : ∃U Y,oa (oc m w wd k (.val<|.int k) (.val<|.str<|q9<|l6<|w k) J L)=cI (.next<|oc m w wd (k+1) (.val<|.int k) (.val<|.str<|q9<|l6<|w k) U Y):=by
 have r:=jU;have a:=V4 w H;have b:=Wr w H;have p:=z<|vN w k;have o:=z<|yP w k;have f:o3 (m+1) ((vN w k:Nat):Int)=cI (vN w k):=by rw[jv,MY a]
 have g:o3 (m+1) ((yP w k:Nat):Int)=cI (yP w k):=by rw[jv,MY b]
 have j:(zC (m+1) λk=>(wd k:Int))[vN w k]? = cI (.int (wd (vN w k):Int)):=j7 (n:=m+1) (λk=>(wd k:Int)) a;have l:(zC (m+1) λk=>(wd k:Int))[yP w k]? = cI (.int (wd (yP w k):Int)):=j7 (n:=m+1) (λk=>(wd k:Int)) b;have h:(xk w wd vz k).length<lim:=by simp;omega
 have I:wd (vN w k)<=lim:=by omega
 have O:wd (yP w k)<=lim:=by omega
 let V:Cell:= .val (.lst<|zC (m+1) λk=>(wd k:Int));have d : ∀x:Nat,zU (.nm 0) jX (xh<|zw i9 (zf 1)<|zf 0) [Cell.no,.val (.int (x:Int))] (zC (wd<|yP w k) λi=>(i:Int))=cI (zC (wd<|yP w k)<|vz k x):=λx=>by
  rw[jl,jl];refine zL _ _ λy t=>zO rfl rfl ?_;simp[vz]
  norm_cast
 have e:zU (.nm 0) jX (qS<|zN (jz<|gB (zl 1)<|zf 2) (.nm 0) 1 [0] jX (xh<|zw i9 (zf 1)<|zf 0)) [Cell.no,V,.val (.int ((yP w k:Nat):Int))] (zC (wd<|vN w k) λi=>(i:Int))=cI (vQ (wd<|vN w k) (wd<|yP w k)<|vz k):=by unfold vQ;rw[jl];refine zL _ _ λx s=>zO rfl rfl ?_;have:=d x;simp only[V,dm,yK,yq,KN,kX,qO,BE,BG,CD,zP,qa,Ze,Bw,BZ,qW,qC,g,l,ZF O,if_true,Cr,qA,O];rw[show jx 1 [0] [Cell.val (.int (x:Int)),Cell.val<|.lst<|zC (m+1) λk=>(wd k:Int),.val (.int ((yP w k:Nat):Int))]=[Cell.no,.val (.int (x:Int))]from rfl,this];rfl
 refine⟨.val<|.int ((yP w k:Nat):Int),.val<|.int ((vN w k:Nat):Int),?_⟩;unfold oa;rw[jt,Wx,vU];simp only[oc,yJ,Zg,qO,BE,BG,zP,Bw,BZ,V3,k9,JW,CU,CD];rw[vV];simp only[dm,yK,yq,KN,kX,qO,BE,BG,zP,qa,qV,Ze,Bw,BZ,qW,qC,f,j,ZF I,if_true,Cr,qA,I];rw[show jx 1 [1,5] [Cell.val (.str<|xT m w),Cell.val<|.lst<|zC (m+1) λk=>(wd k:Int),.own<|xk w wd vz k,.val<|.int k,.val<|.str<|q9<|l6<|w k,.val<|.int ((yP w k:Nat):Int),.val (.int ((vN w k:Nat):Int))]=[Cell.no,V,.val (.int ((yP w k:Nat):Int))]from rfl,e];simp only[BZ,Bw,h,if_true,CU,CD];rw[J9,VQ,bV]
theorem fD(H:m<=5)(z : ∀k,wd k<=20):xM [.str (xT m w),.lst (zC (m+1) λk=>(wd k:Int))]=cI (.own<|xk w wd vz m):=by have f:=jU;have I:=yx w (show m<=1000 by omega);obtain⟨O,U,Y,d,e⟩:=Z4 (m:=m) (w:=w) (F:=oa) (i:=3) (j:=4) (γ:=oc m w wd) (λ_ _ _ _ _=>rfl) λs a b h=>aO H z h a b;rw[Va];refine j8<|zo (γ':=oc m w wd 0 .no .no .no .no) rfl<|zo (γ':=oc m w wd m O U Y d) ?_ (by simp[Vb]);rw[aP,Zi,J0];simp only[oc,qO,BE,BG,zP,Bw,I,if_true,w5];exact e
end
def LP:=(k7 3<|zN (jz<|zf 1) (.nm 0) 1 [] jX (zm<|.int 0))
noncomputable def HM:=(jn 4<|qS<|zN (zQ<|jj<|qw<|zb (zw wb (zf 2)<|zm<|.int 1)<|zb (zw qo (zf 2)<|zm<|.int 1) zx) (.nm 0) 1 [1] (sB<|qh A1 DU (zm<|.int 0) (zf 0)<|zf 1) (zf 0))
noncomputable def iI:=(vm 3 (zf 5)<|zw qo (zm<|.int 6)<|zw kh (zq zy<|zb (zf 0)<|zb (zw qo (zm<|.int 20)<|zf 5) zx)<|zm<|.int 4)
noncomputable def iH:=(m3 (sB<|zw i9 (wJ<|zl 4)<|zm<|.int 1) (vm 3 (zf 5)<|zw qo (zm<|.int 13)<|zw kh (zq zy<|zb (zf 0)<|zb (zw qo (zm<|.int 20)<|zf 5) zx)<|zm<|.int 6) jK)
noncomputable def LQ:=(vm 3 (zf 2)<|zw kh (zw K5 (zq zy<|zb (zf 0)<|zb (zm<|.int 20) zx)<|zm<|.int 16)<|zm<|.int 5)
theorem bW:Yb=m3 (sB<|zw i9 (zw kh (zq zy<|zb (zf 0)<|zb (zm<|.int 1) zx)<|zm<|.int 2)<|zm<|.int 1) (zF LP<|zF HM<|zF (Jg (zQ<|zT<|zf 4) (.nm 5)<|zF iI iH) LQ) jK:=rfl
section
variable{ns:List Int}{m i:Nat}
abbrev wg(ns:List Int)(m i:Nat)(c3 c4 c5:Cell):Ctx:=[.val (Xy ns),.val (.int (1+(m:Int))),.val (.int (i:Int)),c3,c4,c5]
def nQ(u:Nat->Int):Prop:=∀r,0<=u r/\u r<=20
theorem Yc{u:Nat->Int}(I:nQ u){a:Nat}(H:a<m+1){x:Int}(O:0<=x/\x<=20) : ∃z,nQ z/\(zC (m+1) u).set a (.int x)=zC (m+1) z:=by
 refine⟨λr=>if r=a then x else u r,λr=>?_,KC H u _ x (MY rfl) λr _ h=>RQ h⟩;show 0<=(if r=a then x else u r)/\(if r=a then x else u r)<=20;split
 ·exact O
 ·exact I r
noncomputable def A5(m i:Nat):List Nat:=(if 0<i then [i - 1]else [])++if i<m then [i+1]else []
theorem K9(H:ns.length<=63)(hm:m<=5)(hi:i<=m) : ∃wd:MZ,(∀r,wd r<=20)/\qe [Xy ns,.int<|1+(m:Int),.int (i:Int)]=cI (.own<|zC (m+1) λr=>(wd r:Int)):=by
 have hl:=jU;have l:m+1<=lim:=by omega
 suffices h : ∃u,nQ u/\qe [Xy ns,.int<|1+(m:Int),.int (i:Int)]=cI (.own<|zC (m+1) u)by
  obtain⟨u,U,e⟩:=h;refine⟨λr=>(u r).toNat,λr=>by have:=U r;show(u r).toNat<=20;omega,?_⟩;rw[e,show(λr=>(((u r).toNat:Nat):Int))=u from funext λr=>Int.toNat_of_nonneg (U r).1]
 have K:(1:Int)+(m:Int)=((m+1:Nat):Int):=by omega
 have w : ∀(z n:Int),0<n->0<=z%n/\z%n<n:=λz n h=>⟨CA _ ⋯,Ca _ h⟩;have Q:QQ (wg ns m i .no .no .no)=cI (.next<|wg ns m i (.own<|zC (m+1) λr=>qy ns (10+(r:Int))%3) .no .no):=by
  have G:zU (.nm 0) jX (zw kh (zq zy<|zb (zf 1)<|zb (zw qo (zm<|.int 10)<|zf 0) zx)<|zm<|.int 3) [Cell.no,Cell.val (Xy ns)] (zC (m+1) λi=>(i:Int))=cI (zC (m+1) λr=>qy ns (10+(r:Int))%3):=by rw[jl,jl];refine zL _ _ λk E=>zO rfl rfl ?_;have E:=BD.mp E;simp[(kj H (k:=10+(k:Int)) ⋯ ⋯).1]
  rw[QQ,Wy,yK,yq];simp only[wg,qO,BE,BG,zP,Bw,qW];rw[K];simp only[ZF l,if_true,Cr,Bw,qA,qC,l];rw[show jx 1 [0] [Cell.val (Xy ns),Cell.val<|D.int ((m+1:Nat):Int),Cell.val<|D.int (i:Int),Cell.no,Cell.no,Cell.no]=[Cell.no,Cell.val (Xy ns)]from rfl,G];rfl
 have sA : ∀d,LP (wg ns m i d .no .no)=cI (.next<|wg ns m i (.own<|zC (m+1) λ_=>0) .no .no):=λd=>by
  have G:zU (.nm 0) jX (zm<|.int 0) [Cell.no] (zC (m+1) λi=>(i:Int))=cI (zC (m+1) λ_=>0):=by rw[jl,jl];exact zL _ _ λk E=>zO rfl rfl rfl
  rw[LP,Wy,yK,yq];simp only[wg,qO,BE,BG,zP,Bw,qW];rw[K];simp only[ZF l,if_true,Cr,Bw,qA,qC,l];rw[show jx 1 [] [Cell.val (Xy ns),Cell.val<|D.int ((m+1:Nat):Int),Cell.val<|D.int (i:Int),d,Cell.no,Cell.no]=[Cell.no]from rfl,G];rfl
 let I:Cell:= .val (.lst<|(A5 m i).map λ(r:Nat)=>D.int (r:Int));have Z : ∀d,HM (wg ns m i d .no .no)=cI (.next<|wg ns m i d I .no):=λd=>by
  by_cases p:0<i
  ·have P:(((i - 1:Nat)):Int)=(i:Int) - 1:=by omega
   by_cases j:i<m
   ·have Y:(1:Int)<=(i:Int):=by omega
    have y:(i:Int) - 1<1+(m:Int):=by omega
    have A:(0:Int)<=(i:Int)+1:=by omega
    have f:(i:Int)+1<1+(m:Int):=by omega
    simp[HM,I,A5,p,j,jx,qx,zU,qh,Y,y,A,f,P]
   ·have Y:(1:Int)<=(i:Int):=by omega
    have y:(i:Int) - 1<1+(m:Int):=by omega
    have f : ¬(i:Int)+1<1+(m:Int):=by omega
    simp[HM,I,A5,p,j,jx,qx,zU,qh,Y,y,f,P]
  ·by_cases j:i<m
   ·have Y : ¬(1:Int)<=(i:Int):=by omega
    have A:(0:Int)<=(i:Int)+1:=by omega
    have f:(i:Int)+1<1+(m:Int):=by omega
    simp[HM,I,A5,p,j,jx,qx,zU,qh,Y,A,f]
   ·have Y : ¬(1:Int)<=(i:Int):=by omega
    have f : ¬(i:Int)+1<1+(m:Int):=by omega
    simp[HM,I,A5,p,j,jx,qx,zU,qh,Y,f]
 have ar : ∀r∈A5 m i,r<m+1:=λr O=>by
  unfold A5 at O;rw[List.mem_append]at O;rcases O with O | O
  ·split at O
   ·have:=Hj.mp O;omega
   ·cases O
  ·split at O
   ·have:=Hj.mp O;omega
   ·cases O
 have sC : ∃u,nQ u/\∃b,(Jg (zQ<|zT<|zf 4) (.nm 5)<|zF iI iH) (wg ns m i (.own<|zC (m+1) λ_=>0) I .no)=cI (.next<|wg ns m i (.own<|zC (m+1) u) I b):=by
  obtain⟨γ',e,u,b,U,rfl⟩:=ZL (T:= .nm 5) (F:=zF iI iH) (g:=λ(r:Nat)=>D.int (r:Int)) (W:=A5 m i) (λ_ X=>∃u b,nQ u/\X=wg ns m i (.own<|zC (m+1) u) I b) (A5 m i) [] (wg ns m i (.own<|zC (m+1) λ_=>0) I .no) rfl ⟨_,_,λ_=>by decide,rfl⟩ (λa dn R X hW hP=>by
   obtain⟨u,b,U,rfl⟩:=hP;have C:a<m+1:=ar a (by rw[<- hW];simp);have M:=(kj H (k:=20+(a:Int)) ⋯ ⋯).1;have s:o3 (m+1) (a:Int)=cI a:=by rw[jv,MY C]
   obtain⟨u1,o,B⟩:=Yc U C (x:=6+qy ns (20+(a:Int))%4) (by have:=w (qy ns<|20+(a:Int)) 4 ⋯;omega);obtain⟨u2,bb,e2⟩:=Yc o C (x:=13+qy ns (20+(a:Int))%6) (by have:=w (qy ns<|20+(a:Int)) 6 ⋯;omega);have S:iI (wg ns m i (.own<|zC (m+1) u) I<|.val<|.int (a:Int))=cI (.next<|wg ns m i (.own<|zC (m+1) u1) I<|.val<|.int (a:Int)):=by rw[<- B];simp only[iI,wg,ZY,yQ,Zh,vU,yJ,Zg,qO,BE,BG,zP,qV,Bw,BZ,XB,M,k9,qW,qC,s,CU,CD];rfl
   by_cases hn:(A5 m i).length=1
   ·refine⟨_,_,rfl,zo S ?_,u2,.val<|.int (a:Int),bb,rfl⟩
    have lt:i9 (.int ((A5 m i).length:Int)) (.int 1)=cI (.bl d6):=by rw[hn];rfl
    rw[<- e2];simp only[iH,Wz,tN,yQ,nL,kX,I,wg,ZY,Zh,vU,yJ,Zg,qO,BE,BG,zP,qa,Ze,Cb,lt,qV,Bw,BZ,XB,M,k9,qW,qC,s,CU,CD];rfl
   ·refine⟨_,_,rfl,zo S ?_,u1,.val<|.int (a:Int),o,rfl⟩
    have ne : ¬((A5 m i).length:Int)=1:=by omega
    simp[iH,I,ne])
  refine⟨u,U,b,?_⟩;rw[Zi];have J:(zQ<|zT<|zf 4) (wg ns m i (.own<|zC (m+1) λ_=>0) I .no)=cI ((A5 m i).map λ(r:Nat)=>D.int (r:Int)):=by simp[I]
  rw[J];exact e
 rw[Ya];have L:=(kj H (k:=1) ⋯ ⋯).1;have be:=(kj H (k:=20) ⋯ ⋯).1;by_cases N:qy ns 1%2=1
 ·obtain⟨u,U,b,eC⟩:=sC
  have s:o3 (m+1) (i:Int)=cI i:=by rw[jv,MY ⋯]
  obtain⟨u1,o,B⟩:=Yc U (show i<m+1 by omega) (x:=qy ns 20/16%5) (by have:=w (qy ns 20/16) 5 ⋯;omega);have sD:LQ (wg ns m i (.own<|zC (m+1) u) I b)=cI (.next<|wg ns m i (.own<|zC (m+1) u1) I b):=by rw[<- B];simp only[LQ,wg,ZY,yQ,Zh,vU,yJ,Zg,qO,BE,BG,zP,qV,Bw,BZ,be,k9,qW,qC,s,CU,CD];rfl
  refine⟨u1,o,j8<|zo (γ':=wg ns m i (.own<|zC (m+1) λr=>qy ns (10+(r:Int))%3) .no .no) Q<|zo (γ':=wg ns m i (.own<|zC (m+1) u1) I b) ?_ (by simp[QP])⟩;rw[bW,Wz];have t:(sB<|zw i9 (zw kh (zq zy<|zb (zf 0)<|zb (zm<|.int 1) zx)<|zm<|.int 2)<|zm<|.int 1) (wg ns m i (.own<|zC (m+1) λr=>qy ns (10+(r:Int))%3) .no .no)=cI d6:=by simp[L,N]
  rw[t,Bw,MY rfl];exact zo (sA _)<|zo (Z _)<|zo eC sD
 ·refine⟨λr=>qy ns (10+(r:Int))%3,λr=>by have:=w (qy ns<|10+(r:Int)) 3 ⋯;show 0<=qy ns (10+(r:Int))%3/\qy ns (10+(r:Int))%3<=20;omega,j8<|zo (γ':=wg ns m i (.own<|zC (m+1) λr=>qy ns (10+(r:Int))%3) .no .no) Q<|zo (γ':=wg ns m i (.own<|zC (m+1) λr=>qy ns (10+(r:Int))%3) .no .no) ?_ (by simp[QP])⟩
  rw[bW,Wz];have t:(sB<|zw i9 (zw kh (zq zy<|zb (zf 0)<|zb (zm<|.int 1) zx)<|zm<|.int 2)<|zm<|.int 1) (wg ns m i (.own<|zC (m+1) λr=>qy ns (10+(r:Int))%3) .no .no)=cI eF:=by simp[L,N]
  rw[t,Bw];rfl
end
theorem bh:vY=jg 9 (zF gh<|zF gf<|zF gd<|zF gc<|zF fZ<|zF fY<|zF fX<|zF fW<|zF bj<|zF VE VD):=rfl
theorem rT(H:List Int)(Y:H.length<=63):vY [Xy H]=cI (.val<|.bl d6):=by
 have hl:=jU;obtain⟨J,K,S⟩:=kj Y (k:=0) ⋯ ⋯;obtain⟨b1,b2,b3⟩:=kj Y (k:=2) ⋯ ⋯;obtain⟨M,d2,d3⟩:=kj Y (k:=3) ⋯ ⋯;obtain⟨g1,g2,g3⟩:=kj Y (k:=4) ⋯ ⋯;generalize qy H 0=c at J K S;generalize qy H 2=b at b1 b2 b3;generalize qy H 3=d at M d2 d3;generalize qy H 4=g at g1 g2 g3;obtain⟨q,hp,ep,W⟩:=lS K;obtain⟨m,em,cq⟩:=Jw (c:=c/4) (n:=6) ⋯;have a:m<=5:=by omega
 obtain⟨w,hw⟩:=iJ (c:=c/32) ⋯ a;obtain⟨i,ei,hi⟩:=Jw (c:=b) (n:=m+1) ⋯;obtain⟨e,B,X⟩:=K9 Y a (show i<=m by omega);have one:=fD (w:=w) a B;have row:=ah (p:=(q:Int)) (w:=w) (T:=vz) a B;have f:((Br m).map w).length=m:=by simp
 have Z:c/4%6=(m:Int):=em;have rp:(0:Int)<1+(m:Int):=by omega
 have ca:b%(1+(m:Int))=(i:Int):=by rw[<- ei];congr 1;omega
 let R:=xF q m w e vz;let V:D:= .lst (zC (m+1) λr=>(e r:Int));let I:D:= .str (xT m w);obtain⟨k,u,C,E⟩ : ∃k:Int,k=(if g%2=1 then (i:Int)else d%10 - 2)/\ -2<=k/\k<=7:=by refine⟨_,rfl,?_,?_⟩<;>split<;>omega
 have A:=yZ (l:=(Br m).map w) (k:=k) ⋯ C E;have o:=kO Wi A;have F:=kO (Yp R) A;have G:=kO (Yo R) A;have O:=kO (Yn (.int q) (.tup<|qf m w e vz) λr=>(e r:Int)) A;dsimp only at o F G O;rw[f]at O;rw[<- yw]at o F G O;have O:zW [.int 3,R,I,.int k]=cI (.val<|.str<|yI ((Br m).map w) k):=O;obtain⟨s,U,e1,e2⟩ : ∃s:Str,u3 (.str s)=d6/\zW [.int 0,R,I,.int k]=cI (.val<|.str s)/\qX [I,V,.int k]=cI (.val<|.str s):=by
  have no : ∀s:Str,yI ((Br m).map w) k=s->r6 (.str s) (.str "told")=cI (.bl d6)->qX [I,V,.int k]=cI (.val (.str s)):=λs x h2=>by rw[x]at o;rw[JN];refine j8 (zo (γ':=[.val I,.val V,.val (.int k),.val (.str s),.no]) (by simp[Xv,je,Bu,o,I]) ?_);simp[jt,Xu,h2]
  by_cases h:0<=k/\k<=(m:Int)
  ·obtain⟨N,x⟩:=h
   obtain⟨j,rfl⟩ : ∃j:Nat,k=(j:Int):=⟨k.toNat,by omega⟩;have P:j<=m:=by omega
   by_cases y:vg ((Br m).map w) j=d6
   ·obtain⟨wl,as⟩ : ∃wl,wl=if 0<j then e (j - 1)else 0:=⟨_,rfl⟩
    obtain⟨wr,L⟩ : ∃wr,wr=if j<m then e (j+1)else 0:=⟨_,rfl⟩;have t:=bE (w:=w) a P as L y rfl;have Q:=mz (w:=w) hp a P B as L y rfl;by_cases U:30<zz (λr=>(m4 j (wl+wr - min (e j) (max wl wr)) e r:Int)) (m+1)
    ·rw[MY U]at t
     exact⟨"many",by kernel_rfl,Ym (by rw[ZX];exact Q.1 U),t⟩
    ·rw[RQ U]at t
     obtain⟨x1,v,x2⟩:=Q.2 U;exact⟨"told",by kernel_rfl,Yk (by rw[ZX];exact x1) (gQ x2),t⟩
   ·refine⟨"turn",by kernel_rfl,Yj ?_,no "turn" ?_ (by kernel_rfl)⟩
    ·rw[ZX]
     refine Z6 a C E ?_;unfold iz;rw[MY ⟨N,by rw[f];exact x⟩,Cr,RQ y]
    ·unfold yI
     rw[MY ⟨N,by rw[f];exact x⟩,Cr,RQ y]
  ·refine⟨"room",by kernel_rfl,Yl ?_,no "room" ?_ (by kernel_rfl)⟩
   ·rw[ZX]
    refine Z6 a C E ?_;unfold iz;rw[f,RQ h]
   ·unfold yI
    rw[f,RQ h]
 have q1:r6 (.str s) (.str s)=cI (.bl eF):=by have:=Xz (d:= .str s) U;simp[r6,i9]at this ⊢;simp[this]
 have q2:i9 (.str<|yI ((Br m).map w) k) (.str<|yI ((Br m).map w) k)=cI (.bl d6):=Xz (by
  unfold yI;split
  ·split<;>kernel_rfl
  ·kernel_rfl)
 let z:Cell->Cell->Cell->Cell->Cell->Ctx:=λc4 c5 c6 c7 c8=>[.val (Xy H),.val<|.int c,.val<|.int q,.val<|.int<|1+(m:Int),c4,c5,c6,c7,c8];rw[bh];refine j8 (zo (γ':=[.val (Xy H),.val<|.int c,.no,.no,.no,.no,.no,.no,.no]) (by simp[gh,je,Bu,J])
  (zo (γ':=[.val (Xy H),.val<|.int c,.val<|.int q,.no,.no,.no,.no,.no,.no]) (by simp[gf,W,ep])
  (zo (γ':=z .no .no .no .no .no) (by simp[gd,Z,z])
  (zo (γ':=z (.val I) .no .no .no .no) (by simp[gc,z,hw,I])
  (zo (γ':=z (.val I) (.val<|.int (i:Int)) .no .no .no) (by simp[fZ,z,b1,rp,ca])
  (zo (γ':=z (.val I) (.val<|.int (i:Int)) (.val V) .no .no) (by simp[fY,z,X,V])
  (zo (γ':=z (.val I) (.val<|.int (i:Int)) (.val V) (.val R) .no) (by simp[fX,z,V,I,one,row,R])
  (zo (γ':=z (.val I) (.val<|.int (i:Int)) (.val V) (.val R)<|.val<|.int<|d%10 - 2) (by simp[fW,z,M])
  (zo (γ':=z (.val I) (.val<|.int (i:Int)) (.val V) (.val R)<|.val<|.int k) ?_
  (zo (γ':=z (.val I) (.val<|.int (i:Int)) (.val V) (.val R)<|.val<|.int k) (by simp[VE,z,e1,e2,q1]) ?_))))))))))
 ·by_cases h:g%2=1
  ·rw[MY h]at u
   simp[bj,z,g1,h,u]
  ·rw[RQ h]at u
   simp[bj,z,g1,h,u]
 ·have i1:inR 1=d6:=by kernel_rfl
  have i4:inR 4=d6:=by kernel_rfl
  have rg:(List.map (λ(i:Nat)=>D.int<|1+(i:Int))<|Br 3)=[.int 1,.int 2,.int 3]:=rfl;have l3:3<=lim:=by omega
  have co:zU (Tg.nm 0) jX (zw i9 (zq zW<|zb (zf 0)<|zb (zf 2)<|zb (zf 1)<|zb (zf 3) zx)<|zq qY<|zb (zf 1)<|zb (zf 3) zx) [Cell.no,Cell.val<|D.str<|xT m w,Cell.val R,Cell.val (D.int k)] [.int 1,.int 2,.int 3]=cI [.bl d6,.bl d6,.bl d6]:=by simp[zU,F,G,O,o,q2,I]
  simp[VD,z,jx,qx,kL,I,i1,i4,rg,l3];rw[co];rfl
noncomputable def top(i:Nat):PySem.Stmt:=PySem.Challenge.pw_barsplit_k51_rooms_not_turned_about.main.body.getD i<|.Pass ⟨0,0,0,0⟩
section
variable{CR CL:PySem.Addr}{P:PySem.Program}{w:PySem.World}{K:Bo}{mg:PySem.Str->Option PySem.Value}{base:PySem.Heap}
theorem WO(h:us.length=n+1) : ∃a t,us=a::t/\t.length=n:=by
 cases us with
 | nil=>exact absurd h<|Nat.zero_ne_add_one n
 | cons a t=>exact⟨a,t,rfl,Nat.succ.inj h⟩
theorem AK(h:us.length=1) : ∃a,us=[a]:=by obtain⟨a,z,rfl,b⟩:=WO h;rw[Cf b];exact⟨a,rfl⟩
theorem AJ(h:us.length=2) : ∃a b,us=[a,b]:=by obtain⟨a,z,rfl,d⟩:=WO h;obtain⟨b,I,rfl,e⟩:=WO d;rw[Cf e];exact⟨a,b,rfl⟩
theorem Bk(h:us.length=3) : ∃a b c,us=[a,b,c]:=by obtain⟨a,z,rfl,d⟩:=WO h;obtain⟨b,I,rfl,e⟩:=WO d;obtain⟨c,O,rfl,f⟩:=WO e;rw[Cf f];exact⟨a,b,c,rfl⟩
theorem Bj(h:us.length=4) : ∃a b c d,us=[a,b,c,d]:=by obtain⟨a,I,rfl,e⟩:=WO h;obtain⟨b,O,rfl,f⟩:=WO e;obtain⟨c,U,rfl,g⟩:=WO f;obtain⟨d,Y,rfl,z⟩:=WO g;rw[Cf z];exact⟨a,b,c,d,rfl⟩
theorem fH(D:ie K mg "_law_cell" (top 58) ["_law_script","_law_k"])(z:mg "len" = cS)(I:mg "min" = cS)(O:mg "range" = cS):fh P w K mg base 1 "_law_cell" 2 zy:=
 xi (N:=["_law_script","_law_k","_law_cell_here","_law_turn","_law_given"]) D ⋯ λX U e Y d b a f=>by subst U e Y d b;exact by refine zd (jy (Kc (Zv (wO (xH a ⋯ z (z9 a)) zg) (yY (jJ a (qd (zK (z9 a) zg) zg) zg)))) (by refine zd (jb a (zK (z9 a) (zE zg (qd (zk a) (qN (xH a ⋯ z (z9 a)) zg))))) ?_;refine zd (kM f a (qB a ⋯ O (cu a ⋯ I zg (wM (zk a) (qN (xH a ⋯ z (z9 a)) zg)))) (zh (jb a (wM (zk a) (YR zg zg))))) ?_;exact(zh (zA (qd (zk a) (YR zg zg))))) zR) ?_;refine zd (jb a (zk a)) ?_;refine zd (jy (wO (xH a ⋯ z (z9 a)) zg) (zh (jb a (zK (z9 a) (qd (zk a) (xH a ⋯ z (z9 a)))))) zR) ?_;exact(zh (zA (qd (ya (qd (zE (zE (zE (ya (qd (zk a) (YR zg zg)) zg) (ya (ya zg (zk a)) (zk a))) (ya zg (zk a))) zg) zg) zg) zg)))
theorem Vi(D:ie K mg "_law_ways" (top 61) ["_law_cell_here","_law_rooms"])(z:mg "range" = cS):fh P w K mg base 1 "_law_ways" 2 j3:=
 xi (N:=["_law_cell_here","_law_rooms","_law_ways_here","_law_k"]) D ⋯ λX I d O b U a Y=>by subst I d O b U;exact by refine zd (jb a ju) ?_;refine zd (kM Y a (qB a ⋯ z (qN (zk a) zg)) (by refine zd (jb a (eO (zk a) (Zw ju (qd (zk a) zg)))) ?_;exact(zh (jb a (wM (zk a) zg))))) ?_;exact(zh (qP 2 (a.var ⋯)))
theorem aU(D:ie K mg "_law_widths" (top 64) ["_law_script","_law_rooms","_law_room"])(z:fh P w K mg base 1 "_law_cell" 2 zy)(O:mg "len" = cS)(I:mg "range" = cS):fh P w K mg base 2 "_law_widths" 3 qe:=
 xi (N:=["_law_script","_law_rooms","_law_room","_law_widths_here","_law_some","_law_k"]) D ⋯ λX U f Y e d a g=>by subst U f Y e d;exact by refine zd (Zy 3 (wt a (ov.c (qB a ⋯ I (zk a))) (λ_ _ _ b=>qd (zH z b (za (zk b) (za (zE zg (zk b)) ze))) zg))) ?_;refine zd (jy (jJ a (qd (zH z a (za (zk a) (za zg ze))) zg) zg) (by refine zd (Zy 3 (wt a (ov.c (qB a ⋯ I (zk a))) (λ_ _ _ _=>zg))) ?_;refine zd (j6 4 (aA a (jo (PO.q (qG (xN (za (qN (zk a) zg) (za (zE (zk a) zg) ze)))))) (λ_ _ _ b=>yb Kj aL wG Q0 zg (zk b) (zk b)) (λ_ _ _ b=>zk b))) ?_;refine zd (kM g a (Qk (zk a)) (by refine zd (vw 3 a ⋯ (zk a) (zE zg (qd (zH z a (za (zk a) (za (zE zg (zk a)) ze))) zg))) ?_;exact(zh (jy (jJ a (xH a ⋯ O (z9 a)) zg) (zh (vw 3 a ⋯ (zk a) (zE zg (qd (zH z a (za (zk a) (za (zE zg (zk a)) ze))) zg)))) zR)))) ?_;exact(zh (vw 3 a ⋯ (zk a) (qd (wM (zH z a (za (zk a) (za zg ze))) zg) zg)))) zR) ?_;exact(zh (qP 3 (a.var ⋯)))
theorem Vj(D:ie K mg "_law_ends" (top 59) ["_law_k","_law_way"]):fh P w K mg base 1 "_law_ends" 2 jd:=
 xi (N:=["_law_k","_law_way"]) D ⋯ λX z d I b O a U=>by subst z d I b O;exact by refine zd (jy (jJ a (zk a) ju) (zh (zA (jM (xN (za (zk a) (za (zE (zk a) zg) ze)))))) zR) ?_;exact(zh (zA (jM (xN (za (zE (zk a) zg) (za (zk a) ze))))))
theorem WM(D:ie K mg "_law_row" (top 60) ["_law_p","_law_ways_here","_law_widths_here","_law_tables"])(I:fh P w K mg base 1 "_law_ends" 2 jd)(O:mg "enumerate" = cS)(z:mg "tuple" = cS):fh P w K mg base 2 "_law_row" 4 qt:=
 xi (N:=["_law_p","_law_ways_here","_law_widths_here","_law_tables","_law_arrows","_law_k","_law_way","_law_begin","_law_end"]) D ⋯ λX U f Y e d a g=>by subst U f Y e d;exact by refine zd (wQ a (qG (xN ze))) ?_;refine zd (kM g a (Ql a ⋯ O (zk a)) (by refine zd (Xb (tY a) (zH I a (za (zk a) (za (zk a) ze)))) ?_;exact(zh (Qh 4 a ⋯ (jM (xN (za (zk a) (za (jM (xN (za (zK (z9 a) (zk a)) (za (zK (z9 a) (zk a)) (za (jA a ⋯ z (PO.q (kJ a (jo (PV.q (zK (z9 a) (zk a)))) (λ_ _ _ b=>jA b ⋯ z (z9 b))))) ze))))) ze)))))))) ?_;exact(zh (zA (jM (xN (za (zk a) (za (jA a ⋯ z (z9 a)) (za (jA a ⋯ z (z9 a)) ze)))))))
theorem fG(D:ie K mg "_law_ones" (top 65) ["_law_ways_here","_law_widths_here"])(I:fh P w K mg base 1 "_law_ends" 2 jd)(O:mg "enumerate" = cS)(U:mg "int" = cS)(z:mg "range" = cS):fh P w K mg base 2 "_law_ones" 2 xM:=
 xi (N:=["_law_ways_here","_law_widths_here","_law_tables","_law_k","_law_way","_law_begin","_law_end"]) D ⋯ λX Y h e g f a i=>by subst Y h e g f;exact by refine zd (wQ a (qG (xN ze))) ?_;refine zd (kM i a (Ql a ⋯ O (zk a)) (by refine zd (Xb (tY a) (zH I a (za (zk a) (za (zk a) ze)))) ?_;exact(zh (Qh 2 a ⋯ (PO.v (kJ a (ov.c (qB a ⋯ z (zK (z9 a) (zk a)))) (λ_ _ _ b=>PO.v (kJ b (ov.c (qB b ⋯ z (zK (z9 b) (zk b)))) (λ_ _ _ d=>ql d ⋯ U (YU d (zk d) (zk d))))))))))) ?_;exact(zh (qP 2 (a.var ⋯)))
theorem fK(D:ie K mg "is_whole" (top 16) ["x"])(I:mg "bool" = cS)(O:mg "int" = cS)(z:mg "isinstance" = cS):fh P w K mg base 1 "is_whole" 1 yL:=
 xi (N:=["x"]) D ⋯ λX U e Y d b a f=>by subst U e Y d b;exact zh (zA (Q9 (YT a ⋯ z ⋯ O (zk a)) (Q8 (lE (wL a ⋯ z ⋯ I (zk a))))))
theorem ip(D:ie K mg "is_room" (top 36) ["many","k"])(z:fh P w K mg base 1 "is_whole" 1 yL):fh P w K mg base 2 "is_room" 2 j4:=
 xi (N:=["many","k"]) D ⋯ λX I d O b U a Y=>by subst I d O b U;exact zh (zA (Q9 (zH z a (za (zk a) ze)) (Q8 (aj Kj aL wG Q0 zg (zk a) (zk a)))))
theorem mE(D:ie K mg "end_of" (top 34) ["k","way"]):fh P w K mg base 1 "end_of" 2 ve:=
 xi (N:=["k","way"]) D ⋯ λX z d I b O a U=>by subst z d I b O;exact zh (zA (jS (jJ a (zk a) ju) (zE (zk a) zg) (zk a)))
theorem cR(D:ie K mg "arrows_of" (top 40) ["ways","k"])(z:mg "len" = cS):fh P w K mg base 1 "arrows_of" 2 zZ:=
 xi (N:=["ways","k"]) D ⋯ λX I e O d U b Y=>by subst I e O d U;exact zh (xo (Y0 b (jo (PV.q (jM (xN (za (qN (zk b) zg) (za (zk b) ze)))))) (λ_ _ _ a=>yb Kj aL wG Q0 zg (zk a) (vq a ⋯ z (zk a))) (λ_ _ _ a=>zk a)))
theorem mD(D:ie K mg "is_end" (top 41) ["ways","k"])(z:fh P w K mg base 1 "end_of" 2 ve)(I:fh P w K mg base 1 "arrows_of" 2 zZ)(O:mg "all" = cS):fh P w K mg base 2 "is_end" 2 qu:=
 xi (N:=["ways","k"]) D ⋯ λX U f Y e d b g=>by subst U f Y e d;exact zh (zA (YV b ⋯ O (PO.q (kJ b (jo (PO.q (yc I b (za (zk b) (za (zk b) ze))))) (λ_ _ _ a=>YU a (zH z a (za (zk a) (za (Zw (zk a) (zk a)) ze))) (zk a))))))
theorem Vl(D:ie K mg "beginning_of" (top 33) ["k","way"]):fh P w K mg base 1 "beginning_of" 2 qE:=
 xi (N:=["k","way"]) D ⋯ λX z d I b O a U=>by subst z d I b O;exact zh (zA (jS (jJ a (zk a) ju) (zk a) (zE (zk a) zg)))
theorem Vk(D:ie K mg "is_beginning" (top 42) ["ways","k"])(z:fh P w K mg base 1 "beginning_of" 2 qE)(I:fh P w K mg base 1 "arrows_of" 2 zZ)(O:mg "all" = cS):fh P w K mg base 2 "is_beginning" 2 j5:=
 xi (N:=["ways","k"]) D ⋯ λX U f Y e d b g=>by subst U f Y e d;exact zh (zA (YV b ⋯ O (PO.q (kJ b (jo (PO.q (yc I b (za (zk b) (za (zk b) ze))))) (λ_ _ _ a=>YU a (zH z a (za (zk a) (za (Zw (zk a) (zk a)) ze))) (zk a))))))
theorem fL(D:ie K mg "ask_turn" (top 43) ["ways","k"])(z:fh P w K mg base 2 "is_room" 2 j4)(I:fh P w K mg base 2 "is_end" 2 qu)(O:fh P w K mg base 2 "is_beginning" 2 j5)(U:mg "len" = cS):fh P w K mg base 3 "ask_turn" 2 zX:=
 xi (N:=["ways","k"]) D ⋯ λX Y f b e d a g=>by subst Y f b e d;exact by refine zd (jy (xu (qm (zH z a (za (zE (vq a ⋯ U (zk a)) zg) (za (zk a) ze))))) (zh x9) zR) ?_;exact(zh (jy (Kc (Zv (xu (qm (zH I a (za (zk a) (za (zk a) ze))))) (yY (xu (qm (zH O a (za (zk a) (za (zk a) ze)))))))) (zh x9) zR))
theorem cM(D:ie K mg "ask_turn" (top 43) ["ways","k"])(I:fh P w K mg base 2 "is_room" 2 j4)(U:fh P w K mg base 2 "is_end" 2 qu)(Y:fh P w K mg base 2 "is_beginning" 2 j5)(O:mg "len" = cS)(H:XJ P w K mg base 1 "NoRoom")(J:XC K mg "NoTurn"):n0 P w K mg base 3 "ask_turn" 2 jw:=
 Qz (N:=["ways","k"]) D ⋯ λX d g b f e a=>by subst d g b f e;have z:=a.m6 (λ_ _=>False);have h:(X.m6 λ_ _=>False).xe=(λ_ _=>False):=rfl;exact qk (Kb (xu (qm (zH I z (za (zE (vq z ⋯ O (zk z)) zg) (za (zk z) ze))))) (qj (YO z ⋯ H ⋯ (zk z))) wK) (jy (xu (qm (zH I z (za (zE (vq z ⋯ O (zk z)) zg) (za (zk z) ze))))) (zh x9) zR) (qj (Kb (Kc (Zv (xu (qm (zH U z (za (zk z) (za (zk z) ze))))) (yY (xu (qm (zH Y z (za (zk z) (za (zk z) ze)))))))) (qj (Q6 z ⋯ J ju)) wK))
theorem oh(D:ie K mg "moved" (top 54) ["widths","k"])(z:fh P w K mg base 2 "is_room" 2 j4)(I:mg "enumerate" = cS)(O:mg "len" = cS)(U:mg "sum" = cS)(Y:mg "tuple" = cS):fh P w K mg base 3 "moved" 2 ZZ:=
 xi (N:=["widths","k","near"]) D ⋯ λX e h d g f b i=>by subst e h d g f;exact by refine zd (jb b (Jm b ⋯ U (PO.q (Y0 b (jo (PV.q (jM (xN (za (qN (zk b) zg) (za (zE (zk b) zg) ze)))))) (λ_ _ _ a=>qm (zH z a (za (xH a ⋯ O (z9 a)) (za (zk a) ze)))) (λ_ _ _ a=>zK (z9 a) (zk a)))))) ?_;exact(zh (zA (jA b ⋯ Y (PO.q (kJ b (ov.c (Xg b ⋯ I (zk b))) (λ_ _ _ a=>jS (jJ a (zk a) (zk a)) (qN (zk a) (zk a)) (zk a)))))))
theorem Ve(D:ie K mg "widths_about" (top 55) ["ways","k","widths"])(z:fh P w K mg base 3 "ask_turn" 2 zX)(I:fh P w K mg base 3 "moved" 2 ZZ):fh P w K mg base 4 "widths_about" 3 qD:=
 xi (N:=["ways","k","widths"]) D ⋯ λX O d U b Y a e=>by subst O d U b Y;exact by refine zd (xQ (zH z a (za (zk a) (za (zk a) ze)))) ?_;exact(zh (zA (zH I a (za (zk a) (za (zk a) ze)))))
theorem KZ(D:ie K mg "widths_about" (top 55) ["ways","k","widths"])(H:fh P w K mg base 3 "ask_turn" 2 zX)(J:fh P w K mg base 3 "moved" 2 ZZ)(I:n0 P w K mg base 3 "ask_turn" 2 jw):n0 P w K mg base 4 "widths_about" 3 xA:=
 Qz (N:=["ways","k","widths"]) D ⋯ λX O d U b Y a=>by subst O d U b Y;have z:=a.m6 (λ_ _=>False);have e:(X.m6 λ_ _=>False).xe=(λ_ _=>False):=rfl;exact qj (vo I ⋯ z ⋯ (za (zk z) (za (zk z) ze)))
theorem hV(D:ie K mg "ways_of" (top 37) ["row"]):fh P w K mg base 1 "ways_of" 1 jZ:=
 xi (N:=["row"]) D ⋯ λX z e I d O a U=>by subst z e I d O;exact zh (zA (YS ju (PO.q (kJ a (jo (PV.q (zK (z9 a) zg))) (λ_ _ _ b=>zK (z9 b) zg)))))
theorem WL(D:ie K mg "turned_over" (top 19) ["table"])(I:mg "range" = cS)(z:mg "tuple" = cS):fh P w K mg base 1 "turned_over" 1 zD:=
 xi (N:=["table","columns"]) D ⋯ λX O f U e Y a g=>by subst O f U e Y;exact by refine zd (j6 1 (wt a (ov.c (qB a ⋯ I (zK (z9 a) zg))) (λ_ _ _ b=>jA b ⋯ z (PO.q (kJ b (jo (PV.q (zK (z9 b) zg))) (λ_ _ _ d=>zK (z9 d) (zk d))))))) ?_;exact(zh (zA (jM (xN (za (zK (z9 a) zg) (za (zK (z9 a) zg) (za (jA a ⋯ z (z9 a)) ze)))))))
theorem cO(D:ie K mg "lines_met" (top 44) ["row","k","ends"])(z:fh P w K mg base 1 "arrows_of" 2 zZ)(I:fh P w K mg base 1 "ways_of" 1 jZ)(O:fh P w K mg base 1 "turned_over" 1 zD)(U:mg "tuple" = cS):fh P w K mg base 2 "lines_met" 3 qc:=
 xi (N:=["row","k","ends","lines","at","table"]) D ⋯ λX Y f b e d a g=>by subst Y f b e d;exact by refine zd (wQ a (qG (xN ze))) ?_;refine zd (kM g a (Qk (PO.v (yc z a (za (zH I a (za (zk a) ze)) (za (zk a) ze))))) (by refine zd (jb a (zK (PV.q (zK (PV.q (zK (z9 a) zg)) (zk a))) zg)) ?_;exact(zh (aw 3 a ⋯ (PV.q (jS (qm (zk a)) (zK (PV.q (zH O a (za (zk a) ze))) zg) (zK (z9 a) zg))))))) ?_;exact(zh (zA (jA a ⋯ U (z9 a))))
theorem Vm(D:ie K mg "ask_together" (top 38) ["widths"])(z:mg "sum" = cS)(I:GL K mg "MOST_TOGETHER" (.int 30)):fh P w K mg base 1 "ask_together" 1 jH:=
 xi (N:=["widths"]) D ⋯ λX O d U b Y a e=>by subst O d U b Y;exact zh (jy (wO (Jm a ⋯ z (z9 a)) (lH a ⋯ I)) (zh x9) zR)
theorem K4(D:ie K mg "ask_together" (top 38) ["widths"])(I:mg "sum" = cS)(O:GL K mg "MOST_TOGETHER" (.int 30))(U:XC K mg "TooMany"):n0 P w K mg base 1 "ask_together" 1 jq:=
 Qz (N:=["widths"]) D ⋯ λX Y f b e d a=>by subst Y f b e d;have z:=a.m6 (λ_ _=>False);have g:(X.m6 λ_ _=>False).xe=(λ_ _=>False):=rfl;exact qj (Kb (wO (Jm z ⋯ I (z9 z)) (lH z ⋯ O)) (qj (Q6 z ⋯ U ju)) wK)
theorem ir(D:ie K mg "columns" (top 30) ["high","loads"])(z:fh P w K mg base 1 "turned_over" 1 zD)(I:mg "len" = cS)(O:mg "tuple" = cS):fh P w K mg base 2 "columns" 2 ky:=
 xi (N:=["high","loads"]) D ⋯ λX U e Y d b a f=>by subst U e Y d b;exact zh (zA (zH z a (za (jM (xN (za (xH a ⋯ I (z9 a)) (za (zk a) (za (jA a ⋯ O (z9 a)) ze))))) ze)))
theorem Kl(D:ie K mg "behind_noughts" (top 25) ["many","base"])(z:mg "any" = cS):fh P w K mg base 1 "behind_noughts" 2 jF:=
 xi (N:=["many","base"]) D ⋯ λX I e O d U b Y=>by subst I e O d U;exact zh (xo (Y0 b (jo (z9 b)) (λ_ _ _ a=>xu (qm (lM a ⋯ z (PV.q (yN (zk a) qL (qK (zk a))))))) (λ_ _ _ a=>yN (zk a) (qK (zk a)) qL)))
theorem og(D:ie K mg "rests" (top 17) ["p","numbers"])(z:mg "tuple" = cS):fh P w K mg base 1 "rests" 2 qz:=
 xi (N:=["p","numbers"]) D ⋯ λX I e O d U a Y=>by subst I e O d U;exact zh (zA (jA a ⋯ z (PO.q (kJ a (jo (z9 a)) (λ_ _ _ b=>qd (zk b) (zk b))))))
theorem iq(D:ie K mg "inverse" (top 18) ["p","x"])(z:mg "range" = cS):fh P w K mg base 1 "inverse" 2 kx:=
 xi (N:=["p","x","y"]) D ⋯ λX I d O b U a Y=>by subst I d O b U;exact by refine zd (kM Y a (Xf a ⋯ z zg (zk a)) (zh (jy (jJ a (qd (ya (zk a) (zk a)) (zk a)) zg) (zh (qP 2 (a.var ⋯))) zR))) ?_;exact(zh x9)
theorem iu(D:ie K mg "cleared" (top 23) ["p","load","pivot","place"])(z:fh P w K mg base 1 "rests" 2 qz)(I:mg "zip" = cS):fh P w K mg base 2 "cleared" 4 jh:=
 xi (N:=["p","load","pivot","place","much"]) D ⋯ λX O e U d Y a f=>by subst O e U d Y;exact by refine zd (jb a (zK (z9 a) (zk a))) ?_;refine zd (jy (jJ a (zk a) zg) (zh (qP 1 (a.var ⋯))) zR) ?_;exact(zh (zA (zH z a (za (zk a) (za (PO.v (kJ a (ov.c (cF a ⋯ I (zk a) (zk a))) (λ_ _ _ b=>qN (zk b) (ya (zk b) (zk b))))) ze)))))
theorem iw(D:ie K mg "base_of" (top 24) ["p","long","loads"])(z:fh P w K mg base 1 "rests" 2 qz)(O:fh P w K mg base 1 "inverse" 2 kx)(I:fh P w K mg base 2 "cleared" 4 jh)(U:mg "range" = cS):fh P w K mg base 3 "base_of" 3 q8:=
 xi (N:=["p","long","loads","left","base","place","leading","times","pivot"]) D ⋯ λX Y g d f e a h=>by subst Y g d f e;exact by refine zd (j6 3 (wt a (jo (z9 a)) (λ_ _ _ b=>zH z b (za (zk b) (za (zk b) ze))))) ?_;refine zd (wQ a (qG (xN ze))) ?_;refine zd (kM h a (qB a ⋯ U (zk a)) (by refine zd (j6 6 (aA a (jo (z9 a)) (λ_ _ _ b=>yO b (zK (z9 b) (zk b)) zg) (λ_ _ _ b=>zk b))) ?_;refine zd (jy (xu (ao (z9 a))) (zh Jo) zR) ?_;refine zd (jb a (zH O a (za (zk a) (za (zK (PV.q (zK (z9 a) zg)) (zk a)) ze)))) ?_;refine zd (jb a (zH z a (za (zk a) (za (PO.v (kJ a (jo (PV.q (zK (z9 a) zg))) (λ_ _ _ b=>ya (zk b) (zk b)))) ze)))) ?_;refine zd (j6 3 (wt a (jo (z9 a)) (λ_ _ _ b=>zH I b (za (zk b) (za (zk b) (za (zk b) (za (zk b) ze))))))) ?_;exact(zh (wQ a (Y2 (PO.q (kJ a (jo (z9 a)) (λ_ _ _ b=>zH I b (za (zk b) (za (zk b) (za (zk b) (za (zk b) ze))))))) (PO.q (qG (xN (za (zk a) ze))))))))) ?_;exact(zh (qP 4 (a.var ⋯)))
theorem aT(D:ie K mg "same_table" (top 20) ["many"])(z:mg "range" = cS)(I:mg "tuple" = cS):fh P w K mg base 1 "same_table" 1 jP:=
 xi (N:=["many","rows"]) D ⋯ λX O f U e Y a g=>by subst O f U e Y;exact by refine zd (j6 1 (wt a (ov.c (qB a ⋯ z (zk a))) (λ_ _ _ b=>jA b ⋯ I (PO.q (kJ b (ov.c (qB b ⋯ z (zk b))) (λ_ _ _ d=>jS (jJ d (zk d) (zk d)) zg zg)))))) ?_;exact(zh (zA (jM (xN (za (zk a) (za (zk a) (za (jA a ⋯ I (z9 a)) ze)))))))
theorem fE(D:ie K mg "led_into" (top 26) ["p","table","base"])(z:fh P w K mg base 1 "behind_noughts" 2 jF)(I:fh P w K mg base 3 "base_of" 3 q8)(O:fh P w K mg base 1 "turned_over" 1 zD)(U:fh P w K mg base 1 "same_table" 1 jP)(Y:mg "zip" = cS):fh P w K mg base 4 "led_into" 3 kG:=
 xi (N:=["p","table","base","pairs","free"]) D ⋯ λX e h d g f a i=>by subst e h d g f;exact by refine zd (j6 3 (wt a (ov.c (cF a ⋯ Y (zK (PV.q (zH O a (za (zk a) ze))) zg) (zK (PV.q (zH U a (za (zK (z9 a) zg) ze))) zg))) (λ_ _ _ b=>zE (zk b) (zk b)))) ?_;refine zd (j6 4 (wt a (jo (z9 a)) (λ_ _ _ b=>zE (zk b) (ya (jM (xN (za zg ze))) (zK (z9 b) zg))))) ?_;exact(zh (xo (yc z a (za (zK (z9 a) zg) (za (PO.v (yc I a (za (zk a) (za (zE (zK (z9 a) zg) (zK (z9 a) zg)) (za (PO.v (Y2 (z9 a) (z9 a))) ze))))) ze)))))
theorem mC(D:ie K mg "kernel" (top 27) ["p","table"])(z:fh P w K mg base 4 "led_into" 3 kG):fh P w K mg base 5 "kernel" 2 yu:=
 xi (N:=["p","table"]) D ⋯ λX I d O b U a Y=>by subst I d O b U;exact zh (xo (yc z a (za (zk a) (za (zk a) (za (PO.v (qG (xN ze))) ze)))))
theorem Vh(D:ie K mg "met_from_end" (top 45) ["p","met"])(z:fh P w K mg base 2 "columns" 2 ky)(I:fh P w K mg base 5 "kernel" 2 yu)(O:fh P w K mg base 1 "turned_over" 1 zD):fh P w K mg base 6 "met_from_end" 2 jc:=
 xi (N:=["p","met"]) D ⋯ λX U e Y d b a f=>by subst U e Y d b;exact zh (zA (zH z a (za (zK (z9 a) zg) (za (PO.v (yc I a (za (zk a) (za (zH O a (za (zk a) ze)) ze)))) ze))))
theorem oi(D:ie K mg "image" (top 28) ["p","table"])(z:fh P w K mg base 3 "base_of" 3 q8)(I:fh P w K mg base 1 "turned_over" 1 zD):fh P w K mg base 4 "image" 2 vZ:=
 xi (N:=["p","table"]) D ⋯ λX O d U b Y a e=>by subst O d U b Y;exact zh (xo (yc z a (za (zk a) (za (zK (z9 a) zg) (za (zK (PV.q (zH I a (za (zk a) ze))) zg) ze)))))
theorem ic(D:ie K mg "lead_of" (top 22) ["load"])(z:mg "enumerate" = cS):fh P w K mg base 1 "lead_of" 1 qr:=
 xi (N:=["load"]) D ⋯ λX I e O d U b Y=>by subst I e O d U;exact zh (zA (zK (PO.q (Y0 b (ov.c (Xg b ⋯ z (zk b))) (λ_ _ _ a=>yO a (zk a) zg) (λ_ _ _ a=>zk a))) zg))
theorem Vf(D:ie K mg "what_is_left" (top 46) ["p","base","load"])(I:fh P w K mg base 2 "cleared" 4 jh)(z:fh P w K mg base 1 "lead_of" 1 qr)(O:mg "enumerate" = cS)(U:mg "tuple" = cS):fh P w K mg base 3 "what_is_left" 3 jr:=
 xi (N:=["p","base","load","left","pivot","leads"]) D ⋯ λX Y g d f e a h=>by subst Y g d f e;exact by refine zd (jb a (zk a)) ?_;refine zd (kM h a (Qk (zk a)) (zh (jb a (zH I a (za (zk a) (za (zk a) (za (zk a) (za (zH z a (za (zk a) ze)) ze)))))))) ?_;refine zd (j6 5 (wt a (jo (z9 a)) (λ_ _ _ b=>zH z b (za (zk b) ze)))) ?_;exact(zh (zA (jA a ⋯ U (PO.q (Y0 a (ov.c (Xg a ⋯ O (zk a))) (λ_ _ _ b=>Kd (zk b) (z9 b)) (λ_ _ _ b=>zk b))))))
theorem Jt(D:ie K mg "met_from_beginning" (top 47) ["p","met"])(z:fh P w K mg base 4 "image" 2 vZ)(I:fh P w K mg base 3 "what_is_left" 3 jr)(O:fh P w K mg base 1 "same_table" 1 jP)(U:mg "len" = cS)(Y:mg "tuple" = cS):fh P w K mg base 5 "met_from_beginning" 2 zJ:=
 xi (N:=["p","met","base","lines"]) D ⋯ λX e h d g f a i=>by subst e h d g f;exact by refine zd (jb a (PO.v (yc z a (za (zk a) (za (zk a) ze))))) ?_;refine zd (j6 3 (wt a (jo (PV.q (zK (PV.q (zH O a (za (zK (z9 a) zg) ze))) zg))) (λ_ _ _ b=>zH I b (za (zk b) (za (zk b) (za (zk b) ze)))))) ?_;exact(zh (zA (jM (xN (za (zK (z9 a) zg) (za (qN (zK (z9 a) zg) (xH a ⋯ U (z9 a))) (za (jA a ⋯ Y (z9 a)) ze)))))))
theorem cN(D:ie K mg "other_way" (top 35) ["way"]):fh P w K mg base 1 "other_way" 1 jQ:=
 xi (N:=["way"]) D ⋯ λX z d I b O a U=>by subst z d I b O;exact zh (zA (jS (jJ a (zk a) ju) ju ju))
theorem WN(D:ie K mg "arrow_about" (top 48) ["way","wide","lines","ends"])(z:fh P w K mg base 1 "other_way" 1 jQ)(I:fh P w K mg base 1 "turned_over" 1 zD)(O:mg "len" = cS):fh P w K mg base 2 "arrow_about" 4 jE:=
 xi (N:=["way","wide","lines","ends","table"]) D ⋯ λX U e Y d b a f=>by subst U e Y d b;exact by refine zd (jb a (jM (xN (za (xH a ⋯ O (z9 a)) (za (zk a) (za (zk a) ze)))))) ?_;exact(zh (zA (jM (xN (za (zH z a (za (zk a) ze)) (za (jS (qm (zk a)) (zk a) (zH I a (za (zk a) ze))) ze))))))
theorem Vn(D:ie K mg "arrows_about" (top 49) ["row","k","met","ends"])(z:fh P w K mg base 2 "arrow_about" 4 jE)(I:mg "enumerate" = cS)(O:mg "tuple" = cS):fh P w K mg base 3 "arrows_about" 4 jI:=
 xi (N:=["row","k","met","ends","split","parts","made","at","arrow"]) D ⋯ λX U e Y d b a f=>by subst U e Y d b;exact by refine zd (jb a (jS (wO (zk a) zg) (zK (PV.q (zK (z9 a) zg)) (qN (zk a) zg)) zg)) ?_;refine zd (jb a (lL (qN (zk a) zg) (yN (zK (z9 a) zg) qL (qK (zk a))) (zk a) (yN (zK (z9 a) zg) (qK (zk a)) qL))) ?_;refine zd (wQ a (qG (xN ze))) ?_;refine zd (kM f a (Xg a ⋯ I (zK (z9 a) zg)) (zh (Qh 6 a ⋯ (jS (eT a (zk a) (zk a)) (zH z a (za (zK (z9 a) zg) (za (zK (z9 a) zg) (za (lK a (zk a) (zk a)) (za (zk a) ze))))) (zk a))))) ?_;exact(zh (zA (jA a ⋯ O (z9 a))))
theorem Vg(D:ie K mg "turned_about" (top 50) ["row","k"])(z:fh P w K mg base 1 "ways_of" 1 jZ)(I:fh P w K mg base 3 "ask_turn" 2 zX)(O:fh P w K mg base 2 "is_end" 2 qu)(U:fh P w K mg base 2 "lines_met" 3 qc)(Y:fh P w K mg base 1 "ask_together" 1 jH)(H:fh P w K mg base 6 "met_from_end" 2 jc)(J:fh P w K mg base 5 "met_from_beginning" 2 zJ)(L:fh P w K mg base 3 "arrows_about" 4 jI)(Z:mg "len" = cS):fh P w K mg base 7 "turned_about" 2 zV:=
 xi (N:=["row","k","ways","ends","lines","old","new","widths"]) D ⋯ λX d g b f e a h=>by subst d g b f e;exact by refine zd (jb a (zH z a (za (zk a) ze))) ?_;refine zd (xQ (zH I a (za (zk a) (za (zk a) ze)))) ?_;refine zd (jb a (zH O a (za (zk a) (za (zk a) ze)))) ?_;refine zd (jb a (zH U a (za (zk a) (za (zk a) (za (zk a) ze))))) ?_;refine zd (jb a (jM (xN (za (xH a ⋯ Z (z9 a)) (za (zK (PV.q (zK (z9 a) zg)) (zk a)) (za (zk a) ze)))))) ?_;refine zd (jb a (jS (qm (zk a)) (zH H a (za (zK (z9 a) zg) (za (zk a) ze))) (zH J a (za (zK (z9 a) zg) (za (zk a) ze))))) ?_;refine zd (jb a (zE (zE (yN (zK (z9 a) zg) qL (qK (zk a))) (jM (xN (za (zK (z9 a) zg) ze)))) (yN (zK (z9 a) zg) (qK (zE (zk a) zg)) qL))) ?_;refine zd (xQ (zH Y a (za (zk a) ze))) ?_;exact(zh (zA (jM (xN (za (zK (z9 a) zg) (za (zk a) (za (zH L a (za (zk a) (za (zk a) (za (zk a) (za (zk a) ze))))) ze)))))))
theorem K0(D:ie K mg "turned_about" (top 50) ["row","k"])(I:fh P w K mg base 1 "ways_of" 1 jZ)(O:fh P w K mg base 3 "ask_turn" 2 zX)(U:fh P w K mg base 2 "is_end" 2 qu)(Y:fh P w K mg base 2 "lines_met" 3 qc)(a9:fh P w K mg base 1 "ask_together" 1 jH)(H:fh P w K mg base 6 "met_from_end" 2 jc)(J:fh P w K mg base 5 "met_from_beginning" 2 zJ)(aa:fh P w K mg base 3 "arrows_about" 4 jI)(L:mg "len" = cS)(Z:n0 P w K mg base 1 "ask_together" 1 jq)(a5:n0 P w K mg base 3 "ask_turn" 2 jw):n0 P w K mg base 7 "turned_about" 2 zG:=
 Qz (N:=["row","k","ways","ends","lines","old","new","widths"]) D ⋯ λX d g b f e a=>by subst d g b f e;have z:=a.m6 (λ_ _=>False);have h:(X.m6 λ_ _=>False).xe=(λ_ _=>False):=rfl;exact qk Ka (jb z (zH I z (za (zk z) ze))) (qk (vo a5 ⋯ z ⋯ (za (zk z) (za (zk z) ze))) (xQ (zH O z (za (zk z) (za (zk z) ze)))) (qk Ka (jb z (zH U z (za (zk z) (za (zk z) ze)))) (qk Ka (jb z (zH Y z (za (zk z) (za (zk z) (za (zk z) ze))))) (qk Ka (jb z (jM (xN (za (xH z ⋯ L (z9 z)) (za (zK (PV.q (zK (z9 z) zg)) (zk z)) (za (zk z) ze)))))) (qk Ka (jb z (jS (qm (zk z)) (zH H z (za (zK (z9 z) zg) (za (zk z) ze))) (zH J z (za (zK (z9 z) zg) (za (zk z) ze))))) (qk Ka (jb z (zE (zE (yN (zK (z9 z) zg) qL (qK (zk z))) (jM (xN (za (zK (z9 z) zg) ze)))) (yN (zK (z9 z) zg) (qK (zE (zk z) zg)) qL))) (qj (vo Z ⋯ z ⋯ (za (zk z) ze)))))))))
theorem ib(D:ie K mg "swapped" (top 51) ["room","one","other"]):fh P w K mg base 1 "swapped" 3 ku:=
 xi (N:=["room","one","other"]) D ⋯ λX z d I b O a U=>by subst z d I b O;exact by refine zd (jy (jJ a (zk a) (zk a)) (zh (qP 2 (a.var ⋯))) zR) ?_;exact(zh (zA (jS (jJ a (zk a) (zk a)) (zk a) (zk a))))
theorem aV(D:ie K mg "bars_about" (top 52) ["ways","k","bars"])(I:fh P w K mg base 3 "ask_turn" 2 zX)(z:fh P w K mg base 1 "swapped" 3 ku)(O:mg "sorted" = cS):fh P w K mg base 4 "bars_about" 3 qI:=
 xi (N:=["ways","k","bars","left"]) D ⋯ λX U f Y e d b g=>by subst U f Y e d;exact by refine zd (xQ (zH I b (za (zk b) (za (zk b) ze)))) ?_;refine zd (j6 3 (aA b (jo (z9 b)) (λ_ _ _ a=>Kc (cp (yO a (zK (z9 a) zg) (zk a)) (YQ (yO a (zK (z9 a) zg) (zk a))))) (λ_ _ _ a=>zk a))) ?_;exact(zh (xo (aC b ⋯ O (PO.q (kJ b (jo (z9 b)) (λ_ _ _ a=>jM (xN (za (zH z a (za (zk a) (za (zk a) (za (zE (zk a) zg) ze)))) (za (zH z a (za (zk a) (za (qN (zk a) zg) (za (zk a) ze)))) ze)))))))))
theorem WK(D:ie K mg "bars_about" (top 52) ["ways","k","bars"])(H:fh P w K mg base 3 "ask_turn" 2 zX)(J:fh P w K mg base 1 "swapped" 3 ku)(L:mg "sorted" = cS)(I:n0 P w K mg base 3 "ask_turn" 2 jw):n0 P w K mg base 4 "bars_about" 3 kn:=
 Qz (N:=["ways","k","bars","left"]) D ⋯ λX O d U b Y a=>by subst O d U b Y;have z:=a.m6 (λ_ _=>False);have e:(X.m6 λ_ _=>False).xe=(λ_ _=>False):=rfl;exact qj (vo I ⋯ z ⋯ (za (zk z) (za (zk z) ze)))
theorem aS(D:ie K mg "ways_about" (top 56) ["ways","k"])(z:fh P w K mg base 3 "ask_turn" 2 zX)(I:fh P w K mg base 1 "arrows_of" 2 zZ)(O:fh P w K mg base 1 "other_way" 1 jQ)(U:mg "enumerate" = cS):fh P w K mg base 4 "ways_about" 2 qH:=
 xi (N:=["ways","k","turned"]) D ⋯ λX Y g d f e a h=>by subst Y g d f e;exact by refine zd (xQ (zH z a (za (zk a) (za (zk a) ze)))) ?_;refine zd (jb a (PO.v (yc I a (za (zk a) (za (zk a) ze))))) ?_;exact(zh (zA (YS ju (PO.q (kJ a (ov.c (Ql a ⋯ U (zk a))) (λ_ _ _ b=>jS (eR (zk b) (z9 b)) (zH O b (za (zk b) ze)) (zk b)))))))
theorem WJ(D:ie K mg "ways_about" (top 56) ["ways","k"])(H:fh P w K mg base 3 "ask_turn" 2 zX)(J:fh P w K mg base 1 "arrows_of" 2 zZ)(L:fh P w K mg base 1 "other_way" 1 jQ)(Z:mg "enumerate" = cS)(I:n0 P w K mg base 3 "ask_turn" 2 jw):n0 P w K mg base 4 "ways_about" 2 km:=
 Qz (N:=["ways","k","turned"]) D ⋯ λX O d U b Y a=>by subst O d U b Y;have z:=a.m6 (λ_ _=>False);have e:(X.m6 λ_ _=>False).xe=(λ_ _=>False):=rfl;exact qj (vo I ⋯ z ⋯ (za (zk z) (za (zk z) ze)))
theorem cP(D:ie K mg "_law_asked" (top 67) ["_law_which","_law_row_here","_law_ways_here","_law_k"])(z:fh P w K mg base 4 "widths_about" 3 qD)(I:fh P w K mg base 7 "turned_about" 2 zV)(O:fh P w K mg base 4 "bars_about" 3 qI)(U:fh P w K mg base 4 "ways_about" 2 qH):fh P w K mg base 8 "_law_asked" 4 qZ:=
 xi (N:=["_law_which","_law_row_here","_law_ways_here","_law_k"]) D ⋯ λX Y f b e d a g=>by subst Y f b e d;exact by refine zd (jy (jJ a (zk a) zg) (zh (zA (zH I a (za (zk a) (za (zk a) ze))))) zR) ?_;refine zd (jy (jJ a (zk a) zg) (zh (xo (yc O a (za (zk a) (za (zk a) (za (PO.v (qG (xN (za (jM (xN (za zg (za zg ze)))) ze)))) ze)))))) zR) ?_;refine zd (jy (jJ a (zk a) zg) (zh (zA (zH U a (za (zk a) (za (zk a) ze))))) zR) ?_;exact(zh (zA (zH z a (za (zk a) (za (zk a) (za (zK (z9 a) zg) ze))))))
theorem aQ(D:ie K mg "_law_asked" (top 67) ["_law_which","_law_row_here","_law_ways_here","_law_k"])(Z:fh P w K mg base 4 "widths_about" 3 qD)(I:fh P w K mg base 7 "turned_about" 2 zV)(O:fh P w K mg base 4 "bars_about" 3 qI)(U:fh P w K mg base 4 "ways_about" 2 qH)(Y:n0 P w K mg base 4 "bars_about" 3 kn)(H:n0 P w K mg base 7 "turned_about" 2 zG)(J:n0 P w K mg base 4 "ways_about" 2 km)(L:n0 P w K mg base 4 "widths_about" 3 xA):n0 P w K mg base 8 "_law_asked" 4 jO:=
 Qz (N:=["_law_which","_law_row_here","_law_ways_here","_law_k"]) D ⋯ λX d g b f e a=>by subst d g b f e;have z:=a.m6 (λ_ _=>False);have h:(X.m6 λ_ _=>False).xe=(λ_ _=>False):=rfl;exact qk (Kb (jJ z (zk z) zg) (qj (Zu H ⋯ z ⋯ (za (zk z) (za (zk z) ze)))) wK) (jy (jJ z (zk z) zg) (zh (zA (zH I z (za (zk z) (za (zk z) ze))))) zR) (qk (Kb (jJ z (zk z) zg) (qj (Zu Y ⋯ z ⋯ (za (zk z) (za (zk z) (za (PO.v (qG (xN (za (jM (xN (za zg (za zg ze)))) ze)))) ze))))) wK) (jy (jJ z (zk z) zg) (zh (xo (yc O z (za (zk z) (za (zk z) (za (PO.v (qG (xN (za (jM (xN (za zg (za zg ze)))) ze)))) ze)))))) zR) (qk (Kb (jJ z (zk z) zg) (qj (Zu J ⋯ z ⋯ (za (zk z) (za (zk z) ze)))) wK) (jy (jJ z (zk z) zg) (zh (zA (zH U z (za (zk z) (za (zk z) ze))))) zR) (qj (Zu L ⋯ z ⋯ (za (zk z) (za (zk z) (za (zK (z9 z) zg) ze)))))))
theorem aR(D:ie K mg "_law_alone" (top 62) ["_law_e"])(U:mg "ValueError" = cS)(O:mg "int" = cS)(I:mg "isinstance" = cS)(Y:XI K mg "NoArrow")(H:XI K mg "NoLine")(J:XI K mg "NoPrime")(L:XI K mg "NoRoom")(Z:XI K mg "NoRow")(a5:XI K mg "NoTable")(a6:XI K mg "NoText")(a7:XI K mg "NoTurn")(a8:XI K mg "NoWidths")(a9:XI K mg "Nothing")(aa:XI K mg "Nought")(ac:XI K mg "TooMany")(ae:XI K mg "Unlike"):HQ P w K mg base 1 "_law_alone" 1 js:=
 AS (N:=["_law_e","_law_kinds"]) D ⋯ λX b f a e d z g=>by subst b f a e d;exact by refine zd (xP 1 (z.set 1 ⋯ (zE (zE (jV z ⋯ O (xG z ⋯ I ⋯ Y (jL 0 (z.var ⋯)))) (jV z ⋯ O (xG z ⋯ I ⋯ H (jL 0 (z.var ⋯))))) (jV z ⋯ O (xG z ⋯ I ⋯ J (jL 0 (z.var ⋯))))))) ?_;refine zd (xP 1 (z.set 1 ⋯ (zE (zE (zE (jL 1 (z.var ⋯)) (jV z ⋯ O (xG z ⋯ I ⋯ L (jL 0 (z.var ⋯))))) (jV z ⋯ O (xG z ⋯ I ⋯ Z (jL 0 (z.var ⋯))))) (jV z ⋯ O (xG z ⋯ I ⋯ a5 (jL 0 (z.var ⋯))))))) ?_;refine zd (xP 1 (z.set 1 ⋯ (zE (zE (zE (jL 1 (z.var ⋯)) (jV z ⋯ O (xG z ⋯ I ⋯ a6 (jL 0 (z.var ⋯))))) (jV z ⋯ O (xG z ⋯ I ⋯ a7 (jL 0 (z.var ⋯))))) (jV z ⋯ O (xG z ⋯ I ⋯ a8 (jL 0 (z.var ⋯))))))) ?_;refine zd (xP 1 (z.set 1 ⋯ (zE (zE (zE (jL 1 (z.var ⋯)) (jV z ⋯ O (xG z ⋯ I ⋯ a9 (jL 0 (z.var ⋯))))) (jV z ⋯ O (xG z ⋯ I ⋯ aa (jL 0 (z.var ⋯))))) (jV z ⋯ O (xG z ⋯ I ⋯ ac (jL 0 (z.var ⋯))))))) ?_;exact(zh (zA (Q9 (rE z (zE (jL 1 (z.var ⋯)) (jV z ⋯ O (xG z ⋯ I ⋯ ae (jL 0 (z.var ⋯))))) zg) (Q8 (eD z ⋯ I ⋯ U (jL 0 (z.var ⋯)))))))
theorem cQ(D:ie K mg "_law_alone" (top 62) ["_law_e"])(O:mg "ValueError" = cS)(I:mg "int" = cS)(z:mg "isinstance" = cS)(U:XI K mg "NoArrow")(Y:XI K mg "NoLine")(H:XI K mg "NoPrime")(J:XI K mg "NoRoom")(L:XI K mg "NoRow")(Z:XI K mg "NoTable")(a5:XI K mg "NoText")(a6:XI K mg "NoTurn")(a7:XI K mg "NoWidths")(a8:XI K mg "Nothing")(a9:XI K mg "Nought")(aa:XI K mg "TooMany")(ac:XI K mg "Unlike"):fh P w K mg base 1 "_law_alone" 1 js:=
 xi (N:=["_law_e","_law_kinds"]) D ⋯ λX d g b f e a h=>by subst d g b f e;exact by refine zd (jb a (zE (zE (ql a ⋯ I (xI a ⋯ z ⋯ U (zk a))) (ql a ⋯ I (xI a ⋯ z ⋯ Y (zk a)))) (ql a ⋯ I (xI a ⋯ z ⋯ H (zk a))))) ?_;refine zd (jb a (zE (zE (zE (zk a) (ql a ⋯ I (xI a ⋯ z ⋯ J (zk a)))) (ql a ⋯ I (xI a ⋯ z ⋯ L (zk a)))) (ql a ⋯ I (xI a ⋯ z ⋯ Z (zk a))))) ?_;refine zd (jb a (zE (zE (zE (zk a) (ql a ⋯ I (xI a ⋯ z ⋯ a5 (zk a)))) (ql a ⋯ I (xI a ⋯ z ⋯ a6 (zk a)))) (ql a ⋯ I (xI a ⋯ z ⋯ a7 (zk a))))) ?_;refine zd (jb a (zE (zE (zE (zk a) (ql a ⋯ I (xI a ⋯ z ⋯ a8 (zk a)))) (ql a ⋯ I (xI a ⋯ z ⋯ a9 (zk a)))) (ql a ⋯ I (xI a ⋯ z ⋯ aa (zk a))))) ?_;exact(zh (zA (Q9 (YU a (zE (zk a) (ql a ⋯ I (xI a ⋯ z ⋯ ac (zk a)))) zg) (Q8 (eL a ⋯ z ⋯ O (zk a))))))
theorem fF(D:ie K mg "_law_told" (top 68) ["_law_which","_law_row_here","_law_ways_here","_law_k"])(Y:fh P w K mg base 8 "_law_asked" 4 qZ)(ae:fh P w K mg base 1 "_law_alone" 1 js)(H:mg "bool" = cS)(O:mg "int" = cS)(J:mg "isinstance" = cS)(ag:XS K mg)(L:tW K "room" = d6)(Z:n0 P w K mg base 8 "_law_asked" 4 jO)(a5:XH K mg "NoRoom")(a6:XH K mg "NoTurn")(a7:XH K mg "TooMany")(U:HQ P w K mg base 1 "_law_alone" 1 js):fh P w K mg base 9 "_law_told" 4 zW:=
 so (N:=["_law_which","_law_row_here","_law_ways_here","_law_k","_law_word","_law_room","_law_e"]) D ⋯ λX e h d g f a i b=>by subst e h d g f;exact by refine zd (jb a ju) ?_;refine zd (jb a (zk a)) ?_;refine zd (av a b ⋯ Y Z ⋯ ⋯ (have I:=a.m6 (λ_ _=>False);za (zk I) (za (zk I) (za (zk I) (za (zk I) ze)))) (Qy 6 a a5 ⋯ ⋯ ⋯ (λ_ z=>by refine zd (xP 4 (z.set 4 ⋯ (zK (PO.q (qG (xN (za ju (za ju ze))))) (jV z ⋯ O (eE U ⋯ z ⋯ (za (jL 6 (z.var ⋯)) ze)))))) ?_;exact(zh (xP 5 (z.set 5 ⋯ (eQ L (jL 6 (z.var ⋯))))))) (Qy 6 a a6 ⋯ ⋯ ⋯ (λ_ z=>zh (xP 4 (z.set 4 ⋯ (zK (PO.q (qG (xN (za ju (za ju ze))))) (jV z ⋯ O (eE U ⋯ z ⋯ (za (jL 6 (z.var ⋯)) ze))))))) (Qy 6 a a7 ⋯ ⋯ ⋯ (λ_ z=>zh (xP 4 (z.set 4 ⋯ (zK (PO.q (qG (xN (za ju (za ju ze))))) (jV z ⋯ O (eE U ⋯ z ⋯ (za (jL 6 (z.var ⋯)) ze))))))) bw)))) ?_;refine zd (jy (Kc (cp (qm (wL a ⋯ J ⋯ H (zk a))) (YQ (yO a (zk a) (zk a))))) (zh (zA ju)) zR) ?_;exact(zh (qP 4 (a.var ⋯)))
theorem il(D:ie K mg "_law_can" (top 63) ["_law_ways_here","_law_k"])(z:mg "len" = cS):fh P w K mg base 1 "_law_can" 2 qY:=
 xi (N:=["_law_ways_here","_law_k","_law_left","_law_right"]) D ⋯ λX I d O b U a Y=>by subst I d O b U;exact by refine zd (jy (xu (yb Kj Kj wG wG zg (zk a) (vq a ⋯ z (zk a)))) (zh (zA ju)) zR) ?_;refine zd (jb a (Q7 (Q7 (zk a) qL (qK (zk a))) (qK (lF zg)) qL)) ?_;refine zd (jb a (Q7 (Q7 (zk a) (qK (zk a)) qL) qL (qK zg))) ?_;refine zd (jy (Kc (Zv (jJ a (zk a) (zk a)) (yY (yO a (zk a) ju)))) (zh (zA ju)) zR) ?_;exact(zh (zA ju))
theorem ig(D:ie K mg "_law_due" (top 66) ["_law_ways_here","_law_widths_here","_law_k"])(I:fh P w K mg base 1 "_law_can" 2 qY)(O:mg "len" = cS)(U:mg "max" = cS)(Y:mg "min" = cS)(z:mg "sum" = cS):fh P w K mg base 2 "_law_due" 3 qX:=
 xi (N:=["_law_ways_here","_law_widths_here","_law_k","_law_word","_law_some"]) D ⋯ λX e h d g f a i=>by subst e h d g f;exact by refine zd (jb a (zH I a (za (zk a) (za (zk a) ze)))) ?_;refine zd (jy (yO a (zk a) ju) (zh (qP 3 (a.var ⋯))) zR) ?_;refine zd (j6 4 (aA a (jo (PO.q (qG (xN (za (qN (zk a) zg) (za (zE (zk a) zg) ze)))))) (λ_ _ _ b=>yb Kj aL wG Q0 zg (zk b) (xH b ⋯ O (z9 b))) (λ_ _ _ b=>zK (z9 b) (zk b)))) ?_;refine zd (jy (wO (qN (zE (qN (Jm a ⋯ z (z9 a)) (zK (z9 a) (zk a))) (Jm a ⋯ z (z9 a))) (cu a ⋯ Y (zK (z9 a) (zk a)) (eK a ⋯ U (PO.q (Y2 (z9 a) (PO.q (qG (xN (za zg ze))))))))) zg) (zh (zA ju)) zR) ?_;exact(zh (zA ju))
theorem uo(D:L2.B5 K "law" "law" (top 69) f fd)(z:fh P w K mg base 1 "_law_cell" 2 zy)(O:fh P w K mg base 1 "_law_ways" 2 j3)(U:fh P w K mg base 2 "_law_widths" 3 qe)(Y:fh P w K mg base 2 "_law_row" 4 qt)(H:fh P w K mg base 2 "_law_ones" 2 xM)(I:fh P w K mg base 9 "_law_told" 4 zW)(J:fh P w K mg base 2 "_law_due" 3 qX)(L:fh P w K mg base 1 "_law_can" 2 qY)(Z:mg "all" = cS)(a5:mg "range" = cS):t4 P w K mg base t2 10 f fd ["_law_script"] (u5 K 1 vY):=
 sr (N:=["_law_script","_law_cell_here","_law_p","_law_rooms","_law_ways_here","_law_room","_law_widths_here","_law_row_here","_law_k"]) D ⋯ λX e i d h g a j=>by subst e i d h g;exact by refine zd (jb a (zH z a (za (zk a) (za zg ze)))) ?_;refine zd (jb a (zK (PO.q (qG (xN (za zg (za zg (za zg (za zg ze))))))) (qd (zk a) zg))) ?_;refine zd (jb a (zE zg (qd (wM (zk a) zg) zg))) ?_;refine zd (jb a (zH O a (za (wM (zk a) zg) (za (zk a) ze)))) ?_;refine zd (jb a (qd (zH z a (za (zk a) (za zg ze))) (zk a))) ?_;refine zd (jb a (PO.v (yc U a (za (zk a) (za (zk a) (za (zk a) ze)))))) ?_;refine zd (jb a (zH Y a (za (zk a) (za (zk a) (za (zk a) (za (PO.v (yc H a (za (zk a) (za (zk a) ze)))) ze)))))) ?_;refine zd (jb a (qN (qd (zH z a (za (zk a) (za zg ze))) zg) zg)) ?_;refine zd (jy (jJ a (qd (zH z a (za (zk a) (za zg ze))) zg) zg) (zh (jb a (zk a))) zR) ?_;refine zd (jy (yO a (zH I a (za zg (za (zk a) (za (zk a) (za (zk a) ze))))) (zH J a (za (zk a) (za (zk a) (za (zk a) ze))))) (zh (zA rF)) zR) ?_;exact(zh (zA (YV a ⋯ Z (PO.q (kJ a (ov.c (Xf a ⋯ a5 zg zg)) (λ_ _ _ b=>YU b (zH I b (za (zk b) (za (zk b) (za (zk b) (za (zk b) ze))))) (zH L b (za (zk b) (za (zk b) ze)))))))))
theorem fJ(A:II K mg "NoRoom" "NoRoom.__init__" "room" (se (top 14) 0) "room"):XJ P w K mg base 1 "NoRoom":=
 pv (k:=0) A ⋯ ⋯ λC z X I d O b U a=>by subst I d O b U;exact Xa (ay a z ⋯ ⋯ ⋯ ⋯ ⋯)<|YW<|eW a z ⋯ ⋯
end
end DL
namespace PySem.W.Fast
def tw15705062943830311704:=0
def tw9971156524370525845:=0
def tw12715670162379513136:=0
def tw5484743889567649446:=0
def tw14379029208485197690:=0
def tw6443235180527570683:=0
def tw63592238271200043:=0
def tw8189627041776440031:=0
def tw2623201608155230984:=0
def tw15744082752794968536:=0
def tw16356675499245404567:=0
def tw17139830561711126828:=0
def tw10139757126203260342:=0
def tw7312108918319033292:=0
def tw12926133859781791300:=0
def tw1269837342450491189:=0
def tw4838607698906715132:=0
def tw17776428468780646199:=0
def tw4785625400526555680:=0
def tw10923548304615175944:=0
def tw16941906396925516104:=0
def tw1907435421507648136:=0
def tw5714692728974138712:=0
def tw17481883427994066475:=0
def tw5623385001412583450:=0
def tw636366099346837307:=0
def tw1326100392393357896:=0
def tw15313979505943869134:=0
def tw4687297317962068244:=0
def tw18299393051197072368:=0
def tw9508988933980953026:=0
def tw10175271398037566404:=0
def tw3734746498445461169:=0
def tw6555686177123618133:=0
def tw8414376240415360623:=0
def tw2519290070952930586:=0
def tw12647809569289006129:=0
def tw16824760776975086637:=0
def tw1700638303090751035:=0
def tw16130315532659745821:=0
def tw4392716483687041085:=0
def tw1271597993696008267:=0
def tw17258996320248478758:=0
def tw13904104524622269904:=0
def tw16774300595155907801:=0
def tw69047837672531984:=0
def tw6244409533743987751:=0
def tw11907252571767239464:=0
def tw11292995660097970717:=0
def tw15901987498208855483:=0
def tw2458547420236139698:=0
def tw9301866678619465885:=0
def tw12998835570631960907:=0
def tw15903978013832624951:=0
def tw119734458425735884:=0
def tw13942218254254302322:=0
def tw15970229115161606366:=0
def tw18284928081463009094:=0
def tw5121378463987134759:=0
def tw6730825605849272236:=0
def tw5803029691444561816:=0
def tw16984764754529195367:=0
def tw4060957579150207600:=0
def tw7098293304444543163:=0
def tw11996962470793185593:=0
def tw15210126743878679280:=0
def tw18200237516881104502:=0
def tw13547910727639598962:=0
def tw7278062546134670100:=0
def tw14820101827996046086:=0
def tw8427180850231810043:=0
def tw4057150268098571505:=0
def tw9027277642408075976:=0
def tw11575701192155793076:=0
def tw1300549239100012678:=0
def tw10222355223835154756:=0
def tw15090787138164085731:=0
def tw16173651269843391166:=0
def tw14319618669595862946:=0
def tw11026080419378325689:=0
def tw556294040577758163:=0
def tw235103102276052718:=0
def tw11033974233575706490:=0
def tw10918792031315313475:=0
def tw5673447334678449798:=0
def tw10395312340548704039:=0
def tw18322451991450441763:=0
def tw8332721406027385363:=0
def tw8930351758595309774:=0
def tw7571770318639846031:=0
def tw6898742087615130292:=0
def tw6722358545598856013:=0
def tw14958806728318782017:=0
def tw15434835742027397300:=0
def tw14223824984314447303:=0
def tw7906479796948988797:=0
def tw9911438721804172153:=0
def tw17203853107711311821:=0
def tw8352817198548041384:=0
def tw8221741849013157841:=0
def tw5292089449581748051:=0
def tw15978165753506412956:=0
def tw3226075100633368610:=0
def tw6831649314308850230:=0
def tw6764487511500494820:=0
def tw5614865114216463036:=0
def tw12589248739469401:=0
def tw3583773294647424335:=0
def tw12011742631611637870:=0
def tw11618379732194781206:=0
def tw13509524949210200528:=0
def tw7371714932258605443:=0
def tw4144310295706658949:=0
def tw9557235576012782891:=0
def tw9026826283843673829:=0
def tw12430843580539193660:=0
def tw14223823796653607444:=0
def tw13043027034463830022:=0
def tw14761123672614728048:=0
def tw6985399283465649414:=0
def tw13264932633769957201:=0
def tw8515032041999650236:=0
def tw17437445299064204843:=0
def tw126154437895423993:=0
def tw15967319168696584255:=0
def tw6926319751215800628:=0
def tw15167763215819645289:=0
def tw4262803103584031656:=0
def tw11281836587599411475:=0
def tw3662855843773100393:=0
def tw15278107934416221282:=0
def tw3385011386032549904:=0
def tw18283811642402033288:=0
def tw17607055012544574773:=0
def tw2487636475852775394:=0
def tw17905099617831356327:=0
def tw16921183966634688616:=0
def tw15559978470940330277:=0
def tw3481289594803926830:=0
def tw15173598397121917966:=0
def tw16809063808050354073:=0
def tw6271069600413106201:=0
def tw12188712061359311538:=0
def tw8864926987470430085:=0
def tw14419825750636635965:=0
def tw16143482198649035941:=0
def tw15675022860130859712:=0
def tw7841829606656872981:=0
def tw12813287647213002539:=0
def tw11352796124827368923:=0
def tw5789582544256810614:=0
def tw5720403377209397793:=0
def tw5710773542477783196:=0
def tw13733525436464129306:=0
def tw15717929377029213209:=0
def tw13800640625505776002:=0
def tw11855555586944607571:=0
def tw8476179678887752810:=0
def tw7748195009161196087:=0
def tw55918801110397723:=0
def tw5459589798956136171:=0
def tw391939001899630811:=0
def tw2869264104212537563:=0
def tw286584039071481158:=0
def tw13087418518058404701:=0
def tw17357317317815318667:=0
def tw3687995213883647159:=0
def tw10262328116797503504:=0
def tw18161709567111224534:=0
def tw1633972458750918536:=0
def tw9048534946502357097:=0
def tw6754772268238860617:=0
def tw4203021265495292574:=0
def tw1911610850981921313:=0
def tw18374675862673518146:=0
def tw1740156461773744674:=0
def tw12700016639399035443:=0
def tw1696150639274850508:=0
def tw5942140768327465406:=0
def tw551673746263762920:=0
def tw3146813267264351043:=0
def tw15837719492585745117:=0
def tw7495750911740382418:=0
def tw10862477921519594312:=0
def tw7467056330881269635:=0
def tw5459841628271080227:=0
def tw14379253529869585212:=0
def tw2351756214034428714:=0
def tw8145298601471437027:=0
def tw7508951296356776701:=0
def tw9712773030788986739:=0
def tw2420295383605502347:=0
def tw18249952236347305679:=0
def tw4776161763553230908:=0
def tw264495391970059617:=0
def tw18290143794044072379:=0
def tw17956344548325912255:=0
def tw16686582904297998397:=0
def tw12687522598163210573:=0
def tw14079106547951895067:=0
def tw7604362647313842794:=0
def tw2211592190124989581:=0
def tw16161317236131815318:=0
def tw16045446293276561284:=0
def tw15542803739365379661:=0
def tw15283230468565228417:=0
def tw1361218767759294828:=0
def tw17032856993060290466:=0
def tw5777037358682741558:=0
def tw7599533119586088779:=0
def tw1427392167514897261:=0
def tw5929548094374279911:=0
def tw3468023106348843932:=0
def tw8818854541924286746:=0
def tw2987121107712322190:=0
end PySem.W.Fast
open PySem PySem.W PyProof.Rows
set_option maxRecDepth 100000 in
set_option maxHeartbeats 0 in
theorem PySem.Challenge.cw_barsplit_k51_rooms_not_turned_about_holds : PySem.Challenge.rw_barsplit_k51_rooms_not_turned_about.Holds := by
 w_on;o_law;k_head;(case hw=>w_witness2)
 k_fill
 refine L2.nU (l:=Bn) (n:=63) (k:=10) (x:="_law_script") (CX:=L2.t2) (sp:=λK=>DL.u5 K 1 DL.vY) rfl ⋯ rfl ⟨rfl,by decide,by decide⟩ (λw h Y=>PySem.W.kIn_of Y) ?F ?S ?C
 case S=>exact λK H a ns O hO hS=>DL.oK hS (DL.rT ns O)
 case C=>exact λ_ _ _ _ z=>z
 case F=>
  intro w mg fa h I G d7;have ar:mg "ValueError" = cS:=BV I G (by k_is);have ag:mg "all" = cS:=BV I G (by k_is);have d8:mg "any" = cS:=BV I G (by k_is);have as:mg "bool" = cS:=BV I G (by k_is);have a4:mg "enumerate" = cS:=BV I G (by k_is);have a7:mg "int" = cS:=BV I G (by k_is);have a9:mg "isinstance" = cS:=BV I G (by k_is);have a1:mg "len" = cS:=BV I G (by k_is);have d9:mg "max" = cS:=BV I G (by k_is);have ax:mg "min" = cS:=BV I G (by k_is);have a3:mg "range" = cS:=BV I G (by k_is);have b0:mg "sorted" = cS:=BV I G (by k_is);have aa:mg "sum" = cS:=BV I G (by k_is);have a2:mg "tuple" = cS:=BV I G (by k_is);have bb:mg "zip" = cS:=BV I G (by k_is);have U:DL.wA (L2.f9 I)=d6:=by kernel_rfl
  have bd:DL.XI (L2.f9 I) mg "NoArrow":=DL.Af I G U ⋯;have be:DL.XI (L2.f9 I) mg "NoLine":=DL.Af I G U ⋯;have bg:DL.XI (L2.f9 I) mg "NoPrime":=DL.Af I G U ⋯;have bi:DL.XI (L2.f9 I) mg "NoRoom":=DL.Af I G U ⋯;have bl:DL.XI (L2.f9 I) mg "NoRow":=DL.Af I G U ⋯;have bn:DL.XI (L2.f9 I) mg "NoTable":=DL.Af I G U ⋯;have bv:DL.XI (L2.f9 I) mg "NoText":=DL.Af I G U ⋯;have c0:DL.XI (L2.f9 I) mg "NoTurn":=DL.Af I G U ⋯;have c1:DL.XI (L2.f9 I) mg "NoWidths":=DL.Af I G U ⋯;have c2:DL.XI (L2.f9 I) mg "Nothing":=DL.Af I G U ⋯;have c3:DL.XI (L2.f9 I) mg "Nought":=DL.Af I G U ⋯;have da:DL.XS (L2.f9 I) mg:=DL.Ae I G (by kernel_rfl);have c4:DL.XI (L2.f9 I) mg "TooMany":=DL.Af I G U ⋯;have c5:DL.XI (L2.f9 I) mg "Unlike":=DL.Af I G U ⋯;have db:DL.XH (L2.f9 I) mg "NoRoom":=DL.Ag I G (by kernel_rfl);have di:DL.XH (L2.f9 I) mg "NoTurn":=DL.Ag I G (by kernel_rfl);have dk:DL.XH (L2.f9 I) mg "TooMany":=DL.Ag I G (by kernel_rfl);have dl:DL.XC (L2.f9 I) mg "NoTurn":=DL.Ah I G U ⋯ (by kernel_rfl);have dn:DL.XC (L2.f9 I) mg "TooMany":=DL.Ah I G U ⋯ (by kernel_rfl);have dp:DL.II (L2.f9 I) mg "NoRoom" "NoRoom.__init__" "room" (DL.se (DL.top 14) 0) "room":=by
   dsimp only[L2.f9];refine' DL.px I G U ⋯ ?nC ?nS ?iC ?uI ?vI ?w1 ?z1 ?b ?gI
   (case nC=>k_is)
   (case nS=>k_is)
   (case iC=>k_is)
   (case uI=>k_is)
   (case vI=>k_is)
   (case w1=>k_is)
   (case z1=>k_is)
   (case b=>kernel_rfl)
   (case gI=>intro _ _ _ _ _ _ us O;obtain⟨_,_,rfl⟩:=DL.AJ O;rfl)
  have dt:DL.tW (L2.f9 I) "room" = d6:=by kernel_rfl
  have c6:DL.GL (L2.f9 I) mg "MOST_TOGETHER" (.int 30):=by
   dsimp only[L2.f9];refine' DL.ur I G ?a
   (case a=>k_is)
  have du:DL.ie (L2.f9 I) mg "_law_cell" (DL.top 58) ["_law_script","_law_k"]:=by
   dsimp only[L2.f9];refine' DL.uz I G ?a ?l ?c ?k ?b
   (case a=>k_is);(case l=>k_is);(case c=>k_is);(case k=>k_is)
   (case b=>intro _ _ _ _ _ _ us O;obtain⟨_,_,rfl⟩:=DL.AJ O;rfl)
  have dv:DL.ie (L2.f9 I) mg "_law_ways" (DL.top 61) ["_law_cell_here","_law_rooms"]:=by
   dsimp only[L2.f9];refine' DL.uz I G ?a ?l ?c ?k ?b
   (case a=>k_is);(case l=>k_is);(case c=>k_is);(case k=>k_is)
   (case b=>intro _ _ _ _ _ _ us O;obtain⟨_,_,rfl⟩:=DL.AJ O;rfl)
  have dy:DL.ie (L2.f9 I) mg "_law_widths" (DL.top 64) ["_law_script","_law_rooms","_law_room"]:=by
   dsimp only[L2.f9];refine' DL.uz I G ?a ?l ?c ?k ?b
   (case a=>k_is);(case l=>k_is);(case c=>k_is);(case k=>k_is)
   (case b=>intro _ _ _ _ _ _ us O;obtain⟨_,_,_,rfl⟩:=DL.Bk O;rfl)
  have e2:DL.ie (L2.f9 I) mg "_law_ends" (DL.top 59) ["_law_k","_law_way"]:=by
   dsimp only[L2.f9];refine' DL.uz I G ?a ?l ?c ?k ?b
   (case a=>k_is);(case l=>k_is);(case c=>k_is);(case k=>k_is)
   (case b=>intro _ _ _ _ _ _ us O;obtain⟨_,_,rfl⟩:=DL.AJ O;rfl)
  have e3:DL.ie (L2.f9 I) mg "_law_row" (DL.top 60) ["_law_p","_law_ways_here","_law_widths_here","_law_tables"]:=by
   dsimp only[L2.f9];refine' DL.uz I G ?a ?l ?c ?k ?b
   (case a=>k_is);(case l=>k_is);(case c=>k_is);(case k=>k_is)
   (case b=>intro _ _ _ _ _ _ us O;obtain⟨_,_,_,_,rfl⟩:=DL.Bj O;rfl)
  have e4:DL.ie (L2.f9 I) mg "_law_ones" (DL.top 65) ["_law_ways_here","_law_widths_here"]:=by
   dsimp only[L2.f9];refine' DL.uz I G ?a ?l ?c ?k ?b
   (case a=>k_is);(case l=>k_is);(case c=>k_is);(case k=>k_is)
   (case b=>intro _ _ _ _ _ _ us O;obtain⟨_,_,rfl⟩:=DL.AJ O;rfl)
  have e5:DL.ie (L2.f9 I) mg "is_whole" (DL.top 16) ["x"]:=by
   dsimp only[L2.f9];refine' DL.uz I G ?a ?l ?c ?k ?b
   (case a=>k_is);(case l=>k_is);(case c=>k_is);(case k=>k_is)
   (case b=>intro _ _ _ _ _ _ us O;obtain⟨_,rfl⟩:=DL.AK O;rfl)
  have e6:DL.ie (L2.f9 I) mg "is_room" (DL.top 36) ["many","k"]:=by
   dsimp only[L2.f9];refine' DL.uz I G ?a ?l ?c ?k ?b
   (case a=>k_is);(case l=>k_is);(case c=>k_is);(case k=>k_is)
   (case b=>intro _ _ _ _ _ _ us O;obtain⟨_,_,rfl⟩:=DL.AJ O;rfl)
  have e7:DL.ie (L2.f9 I) mg "end_of" (DL.top 34) ["k","way"]:=by
   dsimp only[L2.f9];refine' DL.uz I G ?a ?l ?c ?k ?b
   (case a=>k_is);(case l=>k_is);(case c=>k_is);(case k=>k_is)
   (case b=>intro _ _ _ _ _ _ us O;obtain⟨_,_,rfl⟩:=DL.AJ O;rfl)
  have e8:DL.ie (L2.f9 I) mg "arrows_of" (DL.top 40) ["ways","k"]:=by
   dsimp only[L2.f9];refine' DL.uz I G ?a ?l ?c ?k ?b
   (case a=>k_is);(case l=>k_is);(case c=>k_is);(case k=>k_is)
   (case b=>intro _ _ _ _ _ _ us O;obtain⟨_,_,rfl⟩:=DL.AJ O;rfl)
  have e9:DL.ie (L2.f9 I) mg "is_end" (DL.top 41) ["ways","k"]:=by
   dsimp only[L2.f9];refine' DL.uz I G ?a ?l ?c ?k ?b
   (case a=>k_is);(case l=>k_is);(case c=>k_is);(case k=>k_is)
   (case b=>intro _ _ _ _ _ _ us O;obtain⟨_,_,rfl⟩:=DL.AJ O;rfl)
  have ea:DL.ie (L2.f9 I) mg "beginning_of" (DL.top 33) ["k","way"]:=by
   dsimp only[L2.f9];refine' DL.uz I G ?a ?l ?c ?k ?b
   (case a=>k_is);(case l=>k_is);(case c=>k_is);(case k=>k_is)
   (case b=>intro _ _ _ _ _ _ us O;obtain⟨_,_,rfl⟩:=DL.AJ O;rfl)
  have eb:DL.ie (L2.f9 I) mg "is_beginning" (DL.top 42) ["ways","k"]:=by
   dsimp only[L2.f9];refine' DL.uz I G ?a ?l ?c ?k ?b
   (case a=>k_is);(case l=>k_is);(case c=>k_is);(case k=>k_is)
   (case b=>intro _ _ _ _ _ _ us O;obtain⟨_,_,rfl⟩:=DL.AJ O;rfl)
  have c7:DL.ie (L2.f9 I) mg "ask_turn" (DL.top 43) ["ways","k"]:=by
   dsimp only[L2.f9];refine' DL.uz I G ?a ?l ?c ?k ?b
   (case a=>k_is);(case l=>k_is);(case c=>k_is);(case k=>k_is)
   (case b=>intro _ _ _ _ _ _ us O;obtain⟨_,_,rfl⟩:=DL.AJ O;rfl)
  have ed:DL.ie (L2.f9 I) mg "moved" (DL.top 54) ["widths","k"]:=by
   dsimp only[L2.f9];refine' DL.uz I G ?a ?l ?c ?k ?b
   (case a=>k_is);(case l=>k_is);(case c=>k_is);(case k=>k_is)
   (case b=>intro _ _ _ _ _ _ us O;obtain⟨_,_,rfl⟩:=DL.AJ O;rfl)
  have c8:DL.ie (L2.f9 I) mg "widths_about" (DL.top 55) ["ways","k","widths"]:=by
   dsimp only[L2.f9];refine' DL.uz I G ?a ?l ?c ?k ?b
   (case a=>k_is);(case l=>k_is);(case c=>k_is);(case k=>k_is)
   (case b=>intro _ _ _ _ _ _ us O;obtain⟨_,_,_,rfl⟩:=DL.Bk O;rfl)
  have ee:DL.ie (L2.f9 I) mg "ways_of" (DL.top 37) ["row"]:=by
   dsimp only[L2.f9];refine' DL.uz I G ?a ?l ?c ?k ?b
   (case a=>k_is);(case l=>k_is);(case c=>k_is);(case k=>k_is)
   (case b=>intro _ _ _ _ _ _ us O;obtain⟨_,rfl⟩:=DL.AK O;rfl)
  have ef:DL.ie (L2.f9 I) mg "turned_over" (DL.top 19) ["table"]:=by
   dsimp only[L2.f9];refine' DL.uz I G ?a ?l ?c ?k ?b
   (case a=>k_is);(case l=>k_is);(case c=>k_is);(case k=>k_is)
   (case b=>intro _ _ _ _ _ _ us O;obtain⟨_,rfl⟩:=DL.AK O;rfl)
  have eg:DL.ie (L2.f9 I) mg "lines_met" (DL.top 44) ["row","k","ends"]:=by
   dsimp only[L2.f9];refine' DL.uz I G ?a ?l ?c ?k ?b
   (case a=>k_is);(case l=>k_is);(case c=>k_is);(case k=>k_is)
   (case b=>intro _ _ _ _ _ _ us O;obtain⟨_,_,_,rfl⟩:=DL.Bk O;rfl)
  have c9:DL.ie (L2.f9 I) mg "ask_together" (DL.top 38) ["widths"]:=by
   dsimp only[L2.f9];refine' DL.uz I G ?a ?l ?c ?k ?b
   (case a=>k_is);(case l=>k_is);(case c=>k_is);(case k=>k_is)
   (case b=>intro _ _ _ _ _ _ us O;obtain⟨_,rfl⟩:=DL.AK O;rfl)
  have ei:DL.ie (L2.f9 I) mg "columns" (DL.top 30) ["high","loads"]:=by
   dsimp only[L2.f9];refine' DL.uz I G ?a ?l ?c ?k ?b
   (case a=>k_is);(case l=>k_is);(case c=>k_is);(case k=>k_is)
   (case b=>intro _ _ _ _ _ _ us O;obtain⟨_,_,rfl⟩:=DL.AJ O;rfl)
  have ej:DL.ie (L2.f9 I) mg "behind_noughts" (DL.top 25) ["many","base"]:=by
   dsimp only[L2.f9];refine' DL.uz I G ?a ?l ?c ?k ?b
   (case a=>k_is);(case l=>k_is);(case c=>k_is);(case k=>k_is)
   (case b=>intro _ _ _ _ _ _ us O;obtain⟨_,_,rfl⟩:=DL.AJ O;rfl)
  have ek:DL.ie (L2.f9 I) mg "rests" (DL.top 17) ["p","numbers"]:=by
   dsimp only[L2.f9];refine' DL.uz I G ?a ?l ?c ?k ?b
   (case a=>k_is);(case l=>k_is);(case c=>k_is);(case k=>k_is)
   (case b=>intro _ _ _ _ _ _ us O;obtain⟨_,_,rfl⟩:=DL.AJ O;rfl)
  have el:DL.ie (L2.f9 I) mg "inverse" (DL.top 18) ["p","x"]:=by
   dsimp only[L2.f9];refine' DL.uz I G ?a ?l ?c ?k ?b
   (case a=>k_is);(case l=>k_is);(case c=>k_is);(case k=>k_is)
   (case b=>intro _ _ _ _ _ _ us O;obtain⟨_,_,rfl⟩:=DL.AJ O;rfl)
  have em:DL.ie (L2.f9 I) mg "cleared" (DL.top 23) ["p","load","pivot","place"]:=by
   dsimp only[L2.f9];refine' DL.uz I G ?a ?l ?c ?k ?b
   (case a=>k_is);(case l=>k_is);(case c=>k_is);(case k=>k_is)
   (case b=>intro _ _ _ _ _ _ us O;obtain⟨_,_,_,_,rfl⟩:=DL.Bj O;rfl)
  have en:DL.ie (L2.f9 I) mg "base_of" (DL.top 24) ["p","long","loads"]:=by
   dsimp only[L2.f9];refine' DL.uz I G ?a ?l ?c ?k ?b
   (case a=>k_is);(case l=>k_is);(case c=>k_is);(case k=>k_is)
   (case b=>intro _ _ _ _ _ _ us O;obtain⟨_,_,_,rfl⟩:=DL.Bk O;rfl)
  have ep:DL.ie (L2.f9 I) mg "same_table" (DL.top 20) ["many"]:=by
   dsimp only[L2.f9];refine' DL.uz I G ?a ?l ?c ?k ?b
   (case a=>k_is);(case l=>k_is);(case c=>k_is);(case k=>k_is)
   (case b=>intro _ _ _ _ _ _ us O;obtain⟨_,rfl⟩:=DL.AK O;rfl)
  have eq:DL.ie (L2.f9 I) mg "led_into" (DL.top 26) ["p","table","base"]:=by
   dsimp only[L2.f9];refine' DL.uz I G ?a ?l ?c ?k ?b
   (case a=>k_is);(case l=>k_is);(case c=>k_is);(case k=>k_is)
   (case b=>intro _ _ _ _ _ _ us O;obtain⟨_,_,_,rfl⟩:=DL.Bk O;rfl)
  have er:DL.ie (L2.f9 I) mg "kernel" (DL.top 27) ["p","table"]:=by
   dsimp only[L2.f9];refine' DL.uz I G ?a ?l ?c ?k ?b
   (case a=>k_is);(case l=>k_is);(case c=>k_is);(case k=>k_is)
   (case b=>intro _ _ _ _ _ _ us O;obtain⟨_,_,rfl⟩:=DL.AJ O;rfl)
  have eu:DL.ie (L2.f9 I) mg "met_from_end" (DL.top 45) ["p","met"]:=by
   dsimp only[L2.f9];refine' DL.uz I G ?a ?l ?c ?k ?b
   (case a=>k_is);(case l=>k_is);(case c=>k_is);(case k=>k_is)
   (case b=>intro _ _ _ _ _ _ us O;obtain⟨_,_,rfl⟩:=DL.AJ O;rfl)
  have ev:DL.ie (L2.f9 I) mg "image" (DL.top 28) ["p","table"]:=by
   dsimp only[L2.f9];refine' DL.uz I G ?a ?l ?c ?k ?b
   (case a=>k_is);(case l=>k_is);(case c=>k_is);(case k=>k_is)
   (case b=>intro _ _ _ _ _ _ us O;obtain⟨_,_,rfl⟩:=DL.AJ O;rfl)
  have ew:DL.ie (L2.f9 I) mg "lead_of" (DL.top 22) ["load"]:=by
   dsimp only[L2.f9];refine' DL.uz I G ?a ?l ?c ?k ?b
   (case a=>k_is);(case l=>k_is);(case c=>k_is);(case k=>k_is)
   (case b=>intro _ _ _ _ _ _ us O;obtain⟨_,rfl⟩:=DL.AK O;rfl)
  have ey:DL.ie (L2.f9 I) mg "what_is_left" (DL.top 46) ["p","base","load"]:=by
   dsimp only[L2.f9];refine' DL.uz I G ?a ?l ?c ?k ?b
   (case a=>k_is);(case l=>k_is);(case c=>k_is);(case k=>k_is)
   (case b=>intro _ _ _ _ _ _ us O;obtain⟨_,_,_,rfl⟩:=DL.Bk O;rfl)
  have f0:DL.ie (L2.f9 I) mg "met_from_beginning" (DL.top 47) ["p","met"]:=by
   dsimp only[L2.f9];refine' DL.uz I G ?a ?l ?c ?k ?b
   (case a=>k_is);(case l=>k_is);(case c=>k_is);(case k=>k_is)
   (case b=>intro _ _ _ _ _ _ us O;obtain⟨_,_,rfl⟩:=DL.AJ O;rfl)
  have f1:DL.ie (L2.f9 I) mg "other_way" (DL.top 35) ["way"]:=by
   dsimp only[L2.f9];refine' DL.uz I G ?a ?l ?c ?k ?b
   (case a=>k_is);(case l=>k_is);(case c=>k_is);(case k=>k_is)
   (case b=>intro _ _ _ _ _ _ us O;obtain⟨_,rfl⟩:=DL.AK O;rfl)
  have f2:DL.ie (L2.f9 I) mg "arrow_about" (DL.top 48) ["way","wide","lines","ends"]:=by
   dsimp only[L2.f9];refine' DL.uz I G ?a ?l ?c ?k ?b
   (case a=>k_is);(case l=>k_is);(case c=>k_is);(case k=>k_is)
   (case b=>intro _ _ _ _ _ _ us O;obtain⟨_,_,_,_,rfl⟩:=DL.Bj O;rfl)
  have f3:DL.ie (L2.f9 I) mg "arrows_about" (DL.top 49) ["row","k","met","ends"]:=by
   dsimp only[L2.f9];refine' DL.uz I G ?a ?l ?c ?k ?b
   (case a=>k_is);(case l=>k_is);(case c=>k_is);(case k=>k_is)
   (case b=>intro _ _ _ _ _ _ us O;obtain⟨_,_,_,_,rfl⟩:=DL.Bj O;rfl)
  have ca:DL.ie (L2.f9 I) mg "turned_about" (DL.top 50) ["row","k"]:=by
   dsimp only[L2.f9];refine' DL.uz I G ?a ?l ?c ?k ?b
   (case a=>k_is);(case l=>k_is);(case c=>k_is);(case k=>k_is)
   (case b=>intro _ _ _ _ _ _ us O;obtain⟨_,_,rfl⟩:=DL.AJ O;rfl)
  have f4:DL.ie (L2.f9 I) mg "swapped" (DL.top 51) ["room","one","other"]:=by
   dsimp only[L2.f9];refine' DL.uz I G ?a ?l ?c ?k ?b
   (case a=>k_is);(case l=>k_is);(case c=>k_is);(case k=>k_is)
   (case b=>intro _ _ _ _ _ _ us O;obtain⟨_,_,_,rfl⟩:=DL.Bk O;rfl)
  have cb:DL.ie (L2.f9 I) mg "bars_about" (DL.top 52) ["ways","k","bars"]:=by
   dsimp only[L2.f9];refine' DL.uz I G ?a ?l ?c ?k ?b
   (case a=>k_is);(case l=>k_is);(case c=>k_is);(case k=>k_is)
   (case b=>intro _ _ _ _ _ _ us O;obtain⟨_,_,_,rfl⟩:=DL.Bk O;rfl)
  have cc:DL.ie (L2.f9 I) mg "ways_about" (DL.top 56) ["ways","k"]:=by
   dsimp only[L2.f9];refine' DL.uz I G ?a ?l ?c ?k ?b
   (case a=>k_is);(case l=>k_is);(case c=>k_is);(case k=>k_is)
   (case b=>intro _ _ _ _ _ _ us O;obtain⟨_,_,rfl⟩:=DL.AJ O;rfl)
  have ce:DL.ie (L2.f9 I) mg "_law_asked" (DL.top 67) ["_law_which","_law_row_here","_law_ways_here","_law_k"]:=by
   dsimp only[L2.f9];refine' DL.uz I G ?a ?l ?c ?k ?b
   (case a=>k_is);(case l=>k_is);(case c=>k_is);(case k=>k_is)
   (case b=>intro _ _ _ _ _ _ us O;obtain⟨_,_,_,_,rfl⟩:=DL.Bj O;rfl)
  have cf:DL.ie (L2.f9 I) mg "_law_alone" (DL.top 62) ["_law_e"]:=by
   dsimp only[L2.f9];refine' DL.uz I G ?a ?l ?c ?k ?b
   (case a=>k_is);(case l=>k_is);(case c=>k_is);(case k=>k_is)
   (case b=>intro _ _ _ _ _ _ us O;obtain⟨_,rfl⟩:=DL.AK O;rfl)
  have f5:DL.ie (L2.f9 I) mg "_law_told" (DL.top 68) ["_law_which","_law_row_here","_law_ways_here","_law_k"]:=by
   dsimp only[L2.f9];refine' DL.uz I G ?a ?l ?c ?k ?b
   (case a=>k_is);(case l=>k_is);(case c=>k_is);(case k=>k_is)
   (case b=>intro _ _ _ _ _ _ us O;obtain⟨_,_,_,_,rfl⟩:=DL.Bj O;rfl)
  have f6:DL.ie (L2.f9 I) mg "_law_can" (DL.top 63) ["_law_ways_here","_law_k"]:=by
   dsimp only[L2.f9];refine' DL.uz I G ?a ?l ?c ?k ?b
   (case a=>k_is);(case l=>k_is);(case c=>k_is);(case k=>k_is)
   (case b=>intro _ _ _ _ _ _ us O;obtain⟨_,_,rfl⟩:=DL.AJ O;rfl)
  have f7:DL.ie (L2.f9 I) mg "_law_due" (DL.top 66) ["_law_ways_here","_law_widths_here","_law_k"]:=by
   dsimp only[L2.f9];refine' DL.uz I G ?a ?l ?c ?k ?b
   (case a=>k_is);(case l=>k_is);(case c=>k_is);(case k=>k_is)
   (case b=>intro _ _ _ _ _ _ us O;obtain⟨_,_,_,rfl⟩:=DL.Bk O;rfl)
  have f8:DL.ie (L2.f9 I) mg "law" (DL.top 69) ["_law_script"]:=by
   dsimp only[L2.f9];refine' DL.uz I G ?a ?l ?c ?k ?b
   (case a=>k_is);(case l=>k_is);(case c=>k_is);(case k=>k_is)
   (case b=>intro _ _ _ _ _ _ us O;obtain⟨_,rfl⟩:=DL.AK O;rfl)
  obtain⟨f,fd,Fu,hb,hm⟩:=f8.ex;have e0:=d7.symm.trans hm;cases e0;refine⟨fd,λs u=> .of_eq (hb [u] rfl),λbase kb nb=>?_⟩;have fn:DL.XJ (Bn).prog w (L2.f9 I) mg base 1 "NoRoom":=DL.fJ dp;have ch:DL.fh (Bn).prog w (L2.f9 I) mg base 1 "_law_cell" 2 DL.zy:=DL.fH du a1 ax a3;have fp:DL.fh (Bn).prog w (L2.f9 I) mg base 1 "_law_ways" 2 DL.j3:=DL.Vi dv a3;have fy:DL.fh (Bn).prog w (L2.f9 I) mg base 2 "_law_widths" 3 DL.qe:=DL.aU dy ch a1 a3;have ci:DL.fh (Bn).prog w (L2.f9 I) mg base 1 "_law_ends" 2 DL.jd:=DL.Vj e2;have g1:DL.fh (Bn).prog w (L2.f9 I) mg base 2 "_law_row" 4 DL.qt:=DL.WM e3 ci a4 a2;have g3:DL.fh (Bn).prog w (L2.f9 I) mg base 2 "_law_ones" 2 DL.xM:=DL.fG e4 ci a4 a7 a3;have g4:DL.fh (Bn).prog w (L2.f9 I) mg base 1 "is_whole" 1 DL.yL:=DL.fK e5 as a7 a9;have am:DL.fh (Bn).prog w (L2.f9 I) mg base 2 "is_room" 2 DL.j4:=DL.ip e6 g4;have g5:DL.fh (Bn).prog w (L2.f9 I) mg base 1 "end_of" 2 DL.ve:=DL.mE e7;have a8:DL.fh (Bn).prog w (L2.f9 I) mg base 1 "arrows_of" 2 DL.zZ:=DL.cR e8 a1;have ac:DL.fh (Bn).prog w (L2.f9 I) mg base 2 "is_end" 2 DL.qu:=DL.mD e9 g5 a8 ag;have g7:DL.fh (Bn).prog w (L2.f9 I) mg base 1 "beginning_of" 2 DL.qE:=DL.Vl ea;have cl:DL.fh (Bn).prog w (L2.f9 I) mg base 2 "is_beginning" 2 DL.j5:=DL.Vk eb g7 a8 ag;have a5:DL.fh (Bn).prog w (L2.f9 I) mg base 3 "ask_turn" 2 DL.zX:=DL.fL c7 am ac cl a1;have ae:DL.n0 (Bn).prog w (L2.f9 I) mg base 3 "ask_turn" 2 DL.jw:=DL.cM c7 am ac cl a1 fn dl;have cm:DL.fh (Bn).prog w (L2.f9 I) mg base 3 "moved" 2 DL.ZZ:=DL.oh ed am a4 a1 aa a2;have cn:DL.fh (Bn).prog w (L2.f9 I) mg base 4 "widths_about" 3 DL.qD:=DL.Ve c8 a5 cm;have g8:DL.n0 (Bn).prog w (L2.f9 I) mg base 4 "widths_about" 3 DL.xA:=DL.KZ c8 a5 cm ae;have an:DL.fh (Bn).prog w (L2.f9 I) mg base 1 "ways_of" 1 DL.jZ:=DL.hV ee;have a6:DL.fh (Bn).prog w (L2.f9 I) mg base 1 "turned_over" 1 DL.zD:=DL.WL ef a3 a2;have co:DL.fh (Bn).prog w (L2.f9 I) mg base 2 "lines_met" 3 DL.qc:=DL.cO eg a8 an a6 a2;have cq:DL.fh (Bn).prog w (L2.f9 I) mg base 1 "ask_together" 1 DL.jH:=DL.Vm c9 aa c6;have g9:DL.n0 (Bn).prog w (L2.f9 I) mg base 1 "ask_together" 1 DL.jq:=DL.K4 c9 aa c6 dn;have ge:DL.fh (Bn).prog w (L2.f9 I) mg base 2 "columns" 2 DL.ky:=DL.ir ei a6 a1 a2;have gg:DL.fh (Bn).prog w (L2.f9 I) mg base 1 "behind_noughts" 2 DL.jF:=DL.Kl ej d8;have cr:DL.fh (Bn).prog w (L2.f9 I) mg base 1 "rests" 2 DL.qz:=DL.og ek a2;have gk:DL.fh (Bn).prog w (L2.f9 I) mg base 1 "inverse" 2 DL.kx:=DL.iq el a3;have cs:DL.fh (Bn).prog w (L2.f9 I) mg base 2 "cleared" 4 DL.jh:=DL.iu em cr bb;have ct:DL.fh (Bn).prog w (L2.f9 I) mg base 3 "base_of" 3 DL.q8:=DL.iw en cr gk cs a3;have cw:DL.fh (Bn).prog w (L2.f9 I) mg base 1 "same_table" 1 DL.jP:=DL.aT ep a3 a2;have gn:DL.fh (Bn).prog w (L2.f9 I) mg base 4 "led_into" 3 DL.kG:=DL.fE eq gg ct a6 cw bb;have go:DL.fh (Bn).prog w (L2.f9 I) mg base 5 "kernel" 2 DL.yu:=DL.mC er gn;have cx:DL.fh (Bn).prog w (L2.f9 I) mg base 6 "met_from_end" 2 DL.jc:=DL.Vh eu ge go a6;have gq:DL.fh (Bn).prog w (L2.f9 I) mg base 4 "image" 2 DL.vZ:=DL.oi ev ct a6;have gt:DL.fh (Bn).prog w (L2.f9 I) mg base 1 "lead_of" 1 DL.qr:=DL.ic ew a4;have gv:DL.fh (Bn).prog w (L2.f9 I) mg base 3 "what_is_left" 3 DL.jr:=DL.Vf ey cs gt a4 a2;have cy:DL.fh (Bn).prog w (L2.f9 I) mg base 5 "met_from_beginning" 2 DL.zJ:=DL.Jt f0 gq gv cw a1 a2;have ap:DL.fh (Bn).prog w (L2.f9 I) mg base 1 "other_way" 1 DL.jQ:=DL.cN f1;have h0:DL.fh (Bn).prog w (L2.f9 I) mg base 2 "arrow_about" 4 DL.jE:=DL.WN f2 ap a6 a1;have d0:DL.fh (Bn).prog w (L2.f9 I) mg base 3 "arrows_about" 4 DL.jI:=DL.Vn f3 h0 a4 a2;have d1:DL.fh (Bn).prog w (L2.f9 I) mg base 7 "turned_about" 2 DL.zV:=DL.Vg ca an a5 ac co cq cx cy d0 a1;have h3:DL.n0 (Bn).prog w (L2.f9 I) mg base 7 "turned_about" 2 DL.zG:=DL.K0 ca an a5 ac co cq cx cy d0 a1 g9 ae;have d2:DL.fh (Bn).prog w (L2.f9 I) mg base 1 "swapped" 3 DL.ku:=DL.ib f4;have d3:DL.fh (Bn).prog w (L2.f9 I) mg base 4 "bars_about" 3 DL.qI:=DL.aV cb a5 d2 b0;have h4:DL.n0 (Bn).prog w (L2.f9 I) mg base 4 "bars_about" 3 DL.kn:=DL.WK cb a5 d2 b0 ae;have d4:DL.fh (Bn).prog w (L2.f9 I) mg base 4 "ways_about" 2 DL.qH:=DL.aS cc a5 a8 ap a4;have h5:DL.n0 (Bn).prog w (L2.f9 I) mg base 4 "ways_about" 2 DL.km:=DL.WJ cc a5 a8 ap a4 ae;have h6:DL.fh (Bn).prog w (L2.f9 I) mg base 8 "_law_asked" 4 DL.qZ:=DL.cP ce cn d1 d3 d4;have h7:DL.n0 (Bn).prog w (L2.f9 I) mg base 8 "_law_asked" 4 DL.jO:=DL.aQ ce cn d1 d3 d4 h4 h3 h5 g8;have h8:DL.fh (Bn).prog w (L2.f9 I) mg base 1 "_law_alone" 1 DL.js:=DL.cQ cf ar a7 a9 bd be bg bi bl bn bv c0 c1 c2 c3 c4 c5;have h9:DL.HQ (Bn).prog w (L2.f9 I) mg base 1 "_law_alone" 1 DL.js:=DL.aR cf ar a7 a9 bd be bg bi bl bn bv c0 c1 c2 c3 c4 c5;have ha:DL.fh (Bn).prog w (L2.f9 I) mg base 9 "_law_told" 4 DL.zW:=DL.fF f5 h6 h8 as a7 a9 da dt h7 db di dk h9;have d5:DL.fh (Bn).prog w (L2.f9 I) mg base 1 "_law_can" 2 DL.qY:=DL.il f6 a1;have hc:DL.fh (Bn).prog w (L2.f9 I) mg base 2 "_law_due" 3 DL.qX:=DL.ig f7 d5 a1 d9 ax aa;exact DL.uo Fu ch fp fy g1 g3 ha hc d5 ag a3
