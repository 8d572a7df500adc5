import PyProof.Rows.All
import Wide.All
import OpenK.ZHead
import KE.KDictList
import KE.KEqDict
import KE.KFromBytes
import KE.KIntText
import KE.KItem
import KE.KxBytes
import OpenK.KCall
import OpenK.KCls
import OpenK.KDescr
import OpenK.KFacts
import OpenK.KGet
import OpenK.KLine
import OpenK.KMake
import OpenK.KMore
import OpenK.KOps
import OpenK.KRaise
import OpenK.KWalk
import OpenK.Peek
import Wide.FinOn
import Lean
import PyProof.EqAt
import PyProof.EqKinds
import PyProof.TupleCall
import PySem.Str
import PyProof.ZipIter
import PyProof.IsiBase
import KE.KItemsList
import KE.KIsAll
import OpenK.KOwn
import KE.KSortAsk
import PyProof.StrBlockI
import PyProof.Rows.EqDataRows
import PyProof.Rows.InDataRows
import PyProof.SumWalkG
import PyProof.ConsumeWalk
import PyProof.WalksMore
import KE.KSortTup
import PyProof.ListMulRoad
import PyProof.EnumFor
import PyProof.Rows.EnumRows
import PyProof.StrBlockL
import PyProof.JoinWalk
import PyProof.NsDelKeeps
import KE.KTryDeep
import PyProof.InstStoreFacts
import PyProof.NsCount
import PyProof.ExcClass2
import PyProof.Rows.FStr
import PyProof.StationsW
import PyProof.Rows.Catch
import KE.KRevIter
import PyProof.CollectIter
import PyProof.TupleOfGen
import PyProof.Rows.Tup
import PyProof.Draws
import PyProof.EnumMake
import PyProof.StrWalks
import PyProof.SliceStr2
import PyProof.ListNew
import KE.KDictOf
import PyProof.ListRange
import PyProof.Rows.GenSrcRange
import PyProof.ListCopy
import PyProof.AttrMissHeap
import PyProof.DictWalks
import PyProof.FactsDict
import KE.KSortKey
import KE.IntText
import PyProof.TableCode
import PyProof.Rows.KernelRfl
import PySem.Challenge.RW_barsplit_k63_what_is_no_line
open PySem.Challenge renaming rw_barsplit_k63_what_is_no_line → rQ
open PySem.W renaming Frag → rR,mg_none_of → sy,kia_one → sA,findIn → sH,kitOne → sU,keepIn → tR,emptyDict → tX,kia_tup → ua,mroIn → uj,fnOf → uk,nsIn → uw,instObj → uC,mg_of → uP,kitx_dict → uQ,plainGet → uZ,hideAll_get → Ab,cellsFrom_some → Ai,hasDictIn → Ao,codeIn → Aq,hideAll → AD,typeIn → AJ,plainOver → AL,kitx_list → AM,clsIn → AY,Looks → AZ,isFn → Bi,lookIn → Bo,plainGet_of → Bt,of_hideAll → Bv,kitx_tuple → Bw,callWith_K → Bx,specialIn → BD,methodObj → BE,kitx_none → BF,kitx_bool → BG,kitx_str → BN,kitx_int → BO,clsIn → EX,looks_findIn → Gd
open PySem renaming wpAny_bind → rS,wpAny_pure → rW,wpAny_mono → sC,wpAny_field → tf,wpAny_newObj_type → tG,wpAny_callSpecial?_slot → tH,wpAny_setField_rec → tK,wpAny_Call_Name_kw → tL,wpAny_truthy_bool → tU,wpAny_holding → uf,wpAny_loadPart' → ui,wpAny_call_entry → uo,wpAny_seqItems → uF,wpAny_execs_cons → uO,call_meets → uR,mem_of_lookup → Ad,Builtin → Ah,sizeLine_eq → An,wpAny_getItem_str_slice → Aw,wpAny_execs_nil → Ax,wpAny_attempt → Ay,codeAny_mono → AG,wpAny_rule → AR,wpAny_passesOwn → AU,pushCells_keeps → AW,wpAny_typeOf → Bf,wpAny_pyIter_tuple → Bg,post_val_or_str → BC,wpAny_call → BH,typeIs_str → BI,wpAny_updateSeq_pair → BL,codeAny_call_builtin → BM,Within → BR,wpAny_letGo → BV,wpAny_standAt → Cd,wpAny_onRaise → Ce,wpAny_pyIter_list → Cj,typeIs_int → Ck,strKind_is → Cm,slot_list_getitem → Cn,concat_meets → Cp,noFill_tuple_add → Cq,Addr → eH,Value → eI,Shared → g8,Expr → g9,eval → hH,model → hR,Heap → il,starEach → lp,Pos → l0,sizeLine → l4,World → l6,Stmt → l7,Scope → l9,Program → m3,Around → m7,Env → m9,Obj → n7,Sem → oD,mainGlobals → o7,FuncData → o9,backTo → pk,compareOp → p5,Tok → ro,IsPair → r9,behindInMarks → vr,foldedSetIterable → A3,cellsFrom → A9,binaryOp → B4,swapsWith → B6,spliced → Cv,IsZip → CB,NameKind → CC,relabel → CG,sysModules → CH,IsPart → CU,Keyword → CV,assign → CZ,bootBuiltins → C0,getItem → C7,sliceBounds → Dg,standAt → Dh,Model → Dn,assignEach → Dq,pushCells → Du,rawInt → Dv,backToKw → DD,bindC → DE,bindL → DF,cLine → DG,callerA → DH,isTrue → DN,leaving → DQ,atKey → DZ,attributeBase → D0,pyNext → Ea,valueAt → Ej,bindArgs → Ex,letOwnedTupleGo → EC,setField → EI,strIterType → EJ,BindsTo → EN,noteFrame → E6,pyIter → Fb,setFlight → Fd,typeLookup → Fh,ZipApart → Fo,lastMarks → Fy,slicePick → FG,subscripted → FI,GenState → FU,PassesOwn → F2,builtinsNs → F4,entryPlaceOf → F7,isInstance → Ga,newFunctionEnv → Gg,newList → Gh,seq_tuple_add → Gj,swapsWithSole → Gm,tupleKind → Gs,wpAny_Name → Gw,boundAndCalled → GI,checkBuiltinCall → GN,comprehension → GP,getAttrByItsOwn → G4,recursionLimit → Hk,underTheClaimsCaller → Hx,wpAny_Tuple_spliced → Hy,wpAny_assign_Name → Hz,wpAny_getItem_list_slice → HA,wpAny_sequenceKey → HB
open PySem.Heap renaming get?_push_of_some → rT,get?_push_size → se,lt_size → sg,size_push → sG,get?_update_other → sN,push → sW,FlyingW → uA,get?_update_self → uU,SameBut → uV,size_update → Bk
open List renaming getElem?_eq_getElem → rV,size_toArray → rX,getElem?_set_ne → rZ,mem_cons → sd,mem_append_right → sj,replicate → so,getElem?_eq_some_iff → su,mem_cons_of_mem → sv,not_mem_nil → sD,map_cons → sL,getElem?_set_self → sM,eq_nil_of_length_eq_zero → sO,mem_cons_self → sP,lookup_cons → sS,getElem?_map → sV,getD_eq_getElem?_getD → sY,length_map → sZ,getElem?_append_right → tF,range → tJ,getElem?_append_left → ub,length_append → ug,length_cons → uh,replicate_succ → uu,all_eq_true → uy,lookup → uK,mem_singleton → uM,find?_cons → uS,flatten_cons → uW,filterMap_cons_some → Af,filterMap_cons_none → Ag,nodup_cons → Aj,getElem?_replicate → Ak,all_cons → Al,find?_cons_of_pos → Au,find?_cons_of_neg → Av,mem_range → Az,getElem?_eq_none → AA,length_take → EM,mem_of_getElem? → AE,zip_cons_cons → AO,mem_filterMap → AQ,drop_eq_getElem_cons → AS,any_cons → Bh,take_of_length_le → Bl,length_singleton → Bp,mem_append_left → Bu,filterMap_cons → BB,map_inj_left → BS,foldl → BU,mem_map → BX,getElem_mem → Cc
open Bool renaming and_eq_true → rY,false_ne_true → sh,or_eq_true → tx,not_eq_true' → uX,eq_iff_iff → Bq,true → cT,false → dV
open Nat renaming le_refl → sf,lt_of_lt_of_le → si,ne_of_lt → sr,le_trans → sF,le_add_right → tD,lt_succ_of_lt → tP,lt_irrefl → ur,zero_le → uv,lt_succ_self → uz,ne_of_gt → uB,le_succ → Bj,le_of_lt → Cb
open PySem.Value renaming ref → sk,none → sR,int → Aa,type → Ae,str → AX,bool → Bm
open PySem.NameKind renaming free → sx,cell → uE
open PySem.Builtin.SmallTypes renaming nextOf → sE,ownedTupleIsFree → sQ,ownedTupleHandOut → tZ,ownedTupleFields → AK
open Option.some renaming inj → sJ
open PySem.Calls renaming spliced_cons → sX,spliced_nil → uD
open PySem.Obj renaming mapSeq → tj,data_mapFields → BP
open PySem.Str renaming ofString → tm
open PyProof.Rows renaming callWith_type1 → tq,slot_tuple_getitem → tw,callWith_builtin1 → tW,boot_isinstance → uG,slot_tupleiter_next → AV,tupleItemsOf_ → Br,listUpdate_at → Cf,AllBare → CT,IsTup → Eo,IntsAre → EO,envOfC → EZ,Subscript_ → Fm,subscriptTail → Gk,args_tuple_getitem → GG,args_tupleiter_next → GH,entry_tupleiter_next → GR,subscriptTail_builtinR → Hq
open PySem.SeqAt renaming EqAt → tu
open Ne renaming symm → tE
open Option renaming some → tM,isSome_iff_exists → uc,bind_some → Ac,map → BK,some → aI,none → cI
open True renaming intro → tN
open PySem.Builtin.Tuple renaming tupleExact → tY,tupleIsExact → uL
open PySem.Builtin.Str renaming occurrences → ud,partsBetween → AI
open False renaming elim → ue
open Array renaming getElem?_setIfInBounds → um,length_toList → uJ
open Sum renaming inl → uq,inr → BW
open PySem.Sem renaming wp → ux
open PySem.PyData renaming depth → uH,eqv → Ar,canLay0 → As,eqvAll → BA,canLayAll0 → BJ
open PySem.Builtin.Slice renaming slicePlaces → uN,sliceAdjust → AB
open PySem.F renaming slot_enumerate_next → uY,slot_list_getattribute → Am,slot_tuple_mul → AH,args_tuple_add_2 → AN,entry_tuple_add → Ba,slot_tuple_add → Bb,plainAttrs_str → Bc,slot_zip_next → By,slot_int_rmul → Bz,args_tuple_mul_2 → BY,args_str_split_2 → BZ,entry_tuple_mul → Cg,entry_str_split → Ci,slot_str_split → Co
open Int renaming eq_ofNat_of_zero_le → Ap,toNat_natCast → Bd,emod_lt_of_pos → BQ
open PySem.Builtin.List renaming listTooLong → AF
open ForInStep renaming yield → Be
open PySem.SeqAt.EqAt renaming int_int → Bn
open PySem.Txt renaming split → Bs,slice_le → Ca
local macro_rules | `(⋯) => `(by first | decide +kernel | omega | simp)
set_option autoImplicit true
noncomputable section
set_option Elab.async false
set_option linter.all false
set_option maxRecDepth 100000
set_option maxHeartbeats 4000000
abbrev GQ:=PySem.Value->PySem.Shared->Prop
abbrev GW:=List (PySem.Addr×PySem.Obj)
abbrev GV:=PySem.Str->Option PySem.Value
theorem GK{c:Prop}{h:Decidable c}(z:c){α}{a b:α}:ite c a b=a:=if_pos z
theorem GX{c:Prop}{h:Decidable c}(z:¬c){α}{a b:α}:ite c a b=b:=if_neg z
namespace L2
open PySem PySem.Spec PyProof.Rows
abbrev Key:=Sum Int Str
noncomputable def Qx:Key->eI->Bool
 | .inl k,v=>Value.isInt k v
 | .inr x,v=>Value.isStrOf x v
noncomputable def pS(w:l6):Key->Int
 | .inl k=>hashInt k
 | .inr x=>hashStr w x
theorem jd : ∀{k:Key} {v:eI},Qx k v=cT->(∃i t,k=uq i/\v=Aa i t)\/(∃x t,k=BW x/\v=AX x t)
 | .inl i,v,h=>by obtain⟨t,e⟩:=Value.isInt_shape (k:=i) (v:=v) h;exact .inl ⟨i,t,rfl,e⟩
 | .inr x,v,h=>by obtain⟨t,e⟩:=Value.isStrOf_shape (x:=x) (v:=v) h;exact .inr ⟨x,t,rfl,e⟩
theorem Ka(i:Int)(t:ro):Qx (.inl i) (.int i t)=cT:=by simp[Qx,Value.isInt]
theorem X9(x:Str)(t:ro):Qx (.inr x) (.str x t)=cT:=by simp[Qx,Value.isStrOf]
theorem eU(a b:Int):decide ((uq a:Key)=uq b)=(a==b):=by
 by_cases e:a=b
 ·subst e;simp
 ·have h : ¬(uq a:Key)=uq b:=λq=>e (uq.inj q)
  rw[decide_eq_false h];exact(beq_eq_false_iff_ne.mpr e).symm
theorem eQ(a b:Str):decide ((BW a:Key)=BW b)=decide (a=b):=by
 by_cases e:a=b
 ·subst e;simp
 ·have h : ¬(BW a:Key)=BW b:=λq=>e (BW.inj q)
  rw[decide_eq_false h,decide_eq_false e]
theorem eS(a:Int)(b:Str):decide ((uq a:Key)=BW b)=dV:=decide_eq_false<|λq=>nomatch q
theorem eR(a:Str)(b:Int):decide ((BW a:Key)=uq b)=dV:=decide_eq_false<|λq=>nomatch q
noncomputable def jM(prog:m3)(w:l6):PySem.KeyKind prog w Key where
 is:=Qx
 hash:=pS w
 inj:=λv a b ha hb=>by
  rcases jd ha with⟨i,t,rfl,rfl⟩ | ⟨x,t,rfl,rfl⟩
  ·rcases jd hb with⟨j,u,rfl,e⟩ | ⟨y,u,rfl,e⟩
   ·injection e with e1 _;rw[e1]
   ·exact nomatch e
  ·rcases jd hb with⟨j,u,rfl,e⟩ | ⟨y,u,rfl,e⟩
   ·exact nomatch e
   ·injection e with e1 _;rw[e1]
 byValue:=λk v h=>by rcases jd h with⟨i,t,rfl,rfl⟩ | ⟨x,t,rfl,rfl⟩<;>rfl
 pyHash:=λz h=>by
  rcases jd z with⟨i,t,rfl,rfl⟩ | ⟨x,t,rfl,rfl⟩
  ·exact wpAny_pyHash_int h
  ·exact wpAny_pyHash_str h
 eqBool:=λB z h=>by
  rcases jd B with⟨i,t,rfl,rfl⟩ | ⟨x,t,rfl,rfl⟩
  ·rcases jd z with⟨j,u,rfl,rfl⟩ | ⟨y,u,rfl,rfl⟩
   ·rw[eU]at h;exact wpAny_eqBool_int h
   ·rw[eS]at h;exact tu.int_str i t y u _ _ _ _ h
  ·rcases jd z with⟨j,u,rfl,rfl⟩ | ⟨y,u,rfl,rfl⟩
   ·rw[eR]at h;exact tu.str_int x t j u _ _ _ _ h
   ·rw[eQ]at h;exact wpAny_eqBool_str h
 «strs» :=λk x t v h=>by
  rcases jd h with⟨i,u,rfl,e⟩ | ⟨y,u,rfl,e⟩
  ·exact nomatch e
  ·injection e with e1 _
   subst e1;cases v<;>rfl
theorem Jd(prog:m3)(w:l6)(i:Int)(t:ro):(jM prog w).is (.inl i) (.int i t)=cT:=Ka i t
theorem Jc(prog:m3)(w:l6)(x:Str)(t:ro):(jM prog w).is (.inr x) (.str x t)=cT:=X9 x t
inductive V where
 | hI | bl (b:Bool) | int (i:Int) | str (x:Str) | D1 (b:Array UInt8) | DJ (b:UInt64) | ref (a:eH) | ty (n:String)
 deriving DecidableEq
noncomputable def RelV:V->eI->Prop
 | .hI,u=>u=sR
 | .bl b,u=>u=Bm b
 | .int i,u=>∃t,u=Aa i t
 | .str x,u=>∃t,u=AX x t
 | .D1 b,u=>∃t,u=Value.bytes b t
 | .DJ b,u=>∃t,u=Value.float b t
 | .ref a,u=>u=sk a
 | .ty n,u=>u=Ae n
abbrev kA:List V->List eI->Prop:=Paired RelV
theorem kA.length(r:kA xs us):xs.length=us.length:=Paired.length r
theorem kA.get : ∀{xs:List V} {us:List eI} {i:Nat} {x:V},kA xs us->xs[i]? = aI x->∃u,us[i]? = aI u/\RelV x u
 | _,_,_,_,.nil,e=>by simp at e
 | _,_,0,_,.cons r _,e=>by simp at e;subst e;exact⟨_,rfl,r⟩
 | _,_,i+1,x,.cons _ t,e=>by obtain⟨u,a,b⟩:=kA.get (i:=i) (x:=x) t (by simpa using e);exact⟨u,by simpa using a,b⟩
theorem kA.set(r:RelV x u) : ∀{xs:List V} {us:List eI} (i:Nat),kA xs us->kA (xs.set i x) (us.set i u)
 | _,_,_,.nil=> .nil
 | _,_,0,.cons _ t=> .cons r t
 | _,_,i+1,.cons q t=> .cons q (kA.set r i t)
theorem kA.append : ∀{xs ys:List V} {us z:List eI},kA xs us->kA ys z->kA (xs++ys) (us++z)
 | _,_,_,_,.nil,s=>s
 | _,_,_,_,.cons r t,s=> .cons r (kA.append t s)
theorem kA.take : ∀{xs:List V} {us:List eI} (n:Nat),kA xs us->kA (xs.take n) (us.take n)
 | _,_,0,_=> .nil
 | _,_,_+1,.nil=> .nil
 | _,_,n+1,.cons r t=> .cons r (kA.take n t)
theorem kA.drop : ∀{xs:List V} {us:List eI} (n:Nat),kA xs us->kA (xs.drop n) (us.drop n)
 | _,_,0,r=>r
 | _,_,_+1,.nil=> .nil
 | _,_,n+1,.cons _ t=>kA.drop n t
noncomputable def u9:Option V->Option eI->Prop
 | some v,aI u=>RelV v u
 | none,cI=>True
 | _,_=>False
noncomputable def KV{I:Type}:List (I×V)->List (I×eI)->Prop:=Paired λ(p:I×V) (q:I×eI)=>p.1=q.1/\RelV p.2 q.2
def kV:Key->V
 | .inl i=> .int i
 | .inr x=> .str x
inductive HO where
 | lst (xs:List V)
 | tup (xs:List V)
 | dK (n4:List (Key×V)) | dT (n4:List (List Key×V))
 | set (S:Int->Bool) (n:Nat)
 | ins (C dx:eH) (fs:List (Str×V))
 | own (x:eH)
 | xd (fs:List (Str×V))
 | met (f x:eH)
 | Fc (lo hi:Int)
 | t8 (o:n7) (u:HO)
 | Dw (ps:Array eI)
 | ext (φ:il->Prop)
abbrev Hp:=eH->Option HO
def upd(H:Hp)(a:eH)(o:HO):Hp:=λb=>if b=a then aI o else H b
theorem zr:upd H a o a=aI o:=by unfold upd;rw[GK rfl]
theorem zw(h:b≠a):upd H a o b=H b:=by unfold upd;rw[GX h]
theorem vZ{H:Hp}{a:eH}{o u:HO}:upd (upd H a o) a u=upd H a u:=by funext b;unfold upd;split<;>rfl
theorem zS{H:Hp}{a b:eH}{o:HO}(h:H a=aI o)(h':H b=cI):a≠b:=by intro e;subst e;rw[h]at h';cases h'
noncomputable def CJ(h:il)(a:eH)(items:Array eI):Prop:=∃o,h.get? a=aI o/\(o.cls,o.dict)=(Ae "tuple",cI)/\∃n,o.data = .seq items n
theorem CJ.new(h:il)(items:Array eI):CJ (h.push {cls:= .type "tuple",data:= .seq items}) h.objs.size items:=⟨_,se _ rfl,rfl,_,rfl⟩
theorem CJ.tup(x:CJ h a items):Eo h a items:=let ⟨o,e,c,r⟩:=x;⟨o,e,(Prod.mk.inj c).1,r⟩
section
variable(P:m3)(w:l6)
noncomputable def m8(H:Hp)(h:il)(a:eH):HO->Prop
 | .lst d=>d.length<=l4/\∃(z:List eI) (n:Nat),kA d z/\h.get? a=aI {cls:= .type "list",data:= .seq z.toArray n}
 | .tup d=>d.length<=l4/\∃z:List eI,kA d z/\CJ h a z.toArray
 | .dK b=>b.length<=l4/\(a==CH)=dV/\∃l,KV b l/\h.DictOf (jM P w) a l
 | .dT b=>b.length<=l4/\(a==CH)=dV/\∃d:List (List Key×eH×eI),
  Paired (λ(p:List Key×V) (q:List Key×eH×eI)=>p.1=q.1/\H q.2.1=aI (.tup<|p.1.map kV)/\RelV p.2 q.2.2) b d/\
  ∃o i m,h.get? a=aI o/\o.ExactDict/\o.data = .dict i m/\i.toList=d.map (entryOfKey<|tupleKind<|jM P w)/\(d.map (·.1)).Nodup
 | .set S n=>h.SetOf (intKind P w) a S n
 | .ins C e fs=>H e=aI (.own a)/\fs.length<=1000/\e≠a/\h.get? a=aI (uC C e)/\
  ∃mA,h.Ns1 e mA/\(∀f,u9 (fs.lookup f)<|mA f)/\BR mA (fs.map (·.1))
 | .own _=>∃o,h.get? a=aI o
 | .xd fs=>∃mA,h.Ns1 a mA/\∀f,u9 (fs.lookup f)<|mA f
 | .Fc lo r=>∃t u v,h.get? a=aI {cls:= .type "range",data:= .fields #[.int lo t,.int r u,.int 1 v]}
 | .t8 o u=>h.get? a=aI o/\m8 H h a u
 | .Dw s=>h.get? a=aI {cls:= .none,data:= .fields s}
 | .met f x=>h.get? a=aI (BE (.ref f)<|.ref x)
 | .ext g=>g h/\(∃o,h.get? a=aI o)/\∀j k:il,g j->(∀o,j.get? a=aI o->k.get? a=aI o)->g k
def n0(H:Hp)(h:il):Prop:=∀a o,H a=aI o->m8 P w H h a o
end
section
variable{P:m3}{w:l6}{H H':Hp}{h h':il}{a:eH}{o:HO}
theorem m8.lt(x:m8 P w H h a o):a<h.objs.size:=by
 cases o with
 | lst d=>obtain⟨_,_,_,_,e⟩:=x;exact sg e
 | tup d=>obtain⟨_,_,_,p⟩:=x;exact p.tup.lt
 | dK b=>obtain⟨_,_,_,_,o,_,_,e,_⟩:=x;exact sg e
 | dT b=>obtain⟨_,_,_,_,o,_,_,e,_⟩:=x;exact sg e
 | set S n=>obtain⟨o,_,_,_,e,_⟩:=x;exact sg e
 | ins C g fs=>obtain⟨_,_,_,e,_⟩:=x;exact sg e
 | own y=>obtain⟨_,e⟩:=x;exact sg e
 | xd fs=>obtain⟨_,⟨_,_,_,e,_⟩,_⟩:=x;exact sg e
 | Fc lo i=>obtain⟨_,_,_,e⟩:=x;exact sg e
 | t8 z u=>obtain⟨e,_⟩:=x;exact sg e
 | Dw j=>exact sg (show h.get? a=aI _ from x)
 | met f y=>exact sg (show h.get? a=aI _ from x)
 | ext k=>obtain⟨_,⟨_,e⟩,_⟩:=x;exact sg e
theorem Paired.Gf : ∀{z:List α} {B:List β},Paired F z B->(∀a b,F a b->G a b)->Paired G z B
 | _,_,.nil,_=> .nil
 | _,_,.cons r t,f=> .cons (f _ _ r) (Paired.Gf t f)
theorem m8.Cw(x:m8 P w H h a o)(k : ∀b u,(b=a\/H b=aI (.own a))->h.get? b=aI u->h'.get? b=aI u)
 (J : ∀b,H b=aI (.own a)->H' b=aI (.own a)) (O : ∀b xs,H b=aI (.tup xs)->H' b=aI (.tup xs)):m8 P w H' h' a o:=by
 induction o with
 | lst xs=>obtain⟨z,I,n,r,e⟩:=x;exact⟨z,I,n,r,k _ _ (.inl rfl) e⟩
 | tup xs=>obtain⟨z,I,r,B,e,c⟩:=x;exact⟨z,I,r,B,k _ _ (.inl rfl) e,c⟩
 | dK j=>obtain⟨z,y,F,r,B,i,g,e,c⟩:=x;exact⟨z,y,F,r,B,i,g,k _ _ (.inl rfl) e,c⟩
 | dT j=>
  obtain⟨z,y,xs,r,B,i,g,e,c⟩:=x;exact⟨z,y,xs,Paired.Gf r λp q z=>⟨z.1,O _ _ z.2.1,z.2.2⟩,B,i,g,k _ _ (.inl rfl) e,c⟩
 | set S n=>obtain⟨B,i,g,t,e,c⟩:=x;exact⟨B,i,g,t,k _ _ (.inl rfl) e,c⟩
 | ins C G fs=>
  obtain⟨d,z,E,e,l,⟨m,i,g,A,c⟩,r⟩:=x;exact⟨J _ d,z,E,k _ _ (.inl rfl) e,l,⟨m,i,g,k _ _ (.inr d) A,c⟩,r⟩
 | own y=>obtain⟨B,e⟩:=x;exact⟨B,k _ _ (.inl rfl) e⟩
 | xd fs=>obtain⟨l,⟨m,i,g,e,c⟩,r⟩:=x;exact⟨l,⟨m,i,g,k _ _ (.inl rfl) e,c⟩,r⟩
 | Fc lo K=>obtain⟨t,u,v,e⟩:=x;exact⟨t,u,v,k _ _ (.inl rfl) e⟩
 | t8 B u U=>obtain⟨e,q⟩:=x;exact⟨k _ _ (.inl rfl) e,U q⟩
 | Dw s=>
  have e:h.get? a=aI {cls:= .none,data:= .fields s}:=x;show h'.get? a=aI {cls:= .none,data:= .fields s};exact k a _ (.inl rfl) e
 | met f y=>
  have e:h.get? a=aI (BE (.ref f)<|.ref y):=x;show h'.get? a=aI (BE (.ref f)<|.ref y);exact k a _ (.inl rfl) e
 | ext L=>obtain⟨p,⟨o,e⟩,st⟩:=x;exact⟨st _ _ p λo q=>k _ _ (.inl rfl) q,⟨o,k _ _ (.inl rfl) e⟩,st⟩
theorem n0.lt(x:n0 P w H h)(e:H a=aI o):a<h.objs.size:=(x a o e).lt
theorem n0.fresh(x:n0 P w H h)(e:h.objs.size<=a):H a=cI:=by
 cases q:H a with
 | none=>rfl
 | some u=>exact absurd (si (x.lt q) e)<|ur _
theorem n0.kept(x:n0 P w H h)(k : ∀b u,h.get? b=aI u->h'.get? b=aI u):n0 P w H h':=λa o e=>
 (x a o e).Cw (λb u _ q=>k b u q) (λ_ q=>q) λ_ _ q=>q
theorem n0.laid(x:n0 P w H h)(k : ∀b u,h.get? b=aI u->h'.get? b=aI u)(I:h.objs.size<=a)(new:m8 P w (upd H a o) h' a o):n0 P w (upd H a o) h':=λb u e=>by
 have f:=x.fresh I;by_cases d:b=a
 ·subst d;rw[zr]at e;cases e;exact new
 ·rw[zw d]at e
  exact(x b u e).Cw (λc v _ q=>k c v q) (λc q=>by rw[zw (zS q f)];exact q) λc g q=>by rw[zw (zS q f)];exact q
end
noncomputable def Rd(H:Hp)(a:eH)(u:HO):Prop:=H a=aI u\/∃o,H a=aI (.t8 o u)
theorem Rd.ok(r:Rd H a u)(x:n0 P w H h):m8 P w H h a u:=by
 rcases r with r | ⟨o,r⟩
 ·exact x a u r
 ·obtain⟨_,q⟩:=x a _ r
  exact q
noncomputable def Ep:Option HO->Prop
 | some (.lst _)=>True
 | some (.dK _)=>True
 | some (.dT _)=>True
 | some (.set _ _)=>True
 | some (.ins _ _ _)=>True
 | some (.ext _)=>True
 | _=>False
section
variable{P:m3}{w:l6}{H:Hp}{h h':il}{x e:eH}{o':HO}
theorem n0.write(ok:n0 P w H h)(B:Ep (H x))(L:e=x\/H e=aI (.own x))(k : ∀b u,b≠e->h.get? b=aI u->h'.get? b=aI u)(S : ∃u,h'.get? e=aI u)
 (new:m8 P w (upd H x o') h' x o'):n0 P w (upd H x o') h':=λb u q=>by
 have J : ∀c y,H c=aI (.own y)->c≠x:=λc y r z=>by subst z;rw[r]at B;exact B
 have U : ∀c d,H c=aI (.tup d)->c≠x:=λc d r z=>by subst z;rw[r]at B;exact B
 by_cases a:b=x
 ·subst a;rw[zr]at q;cases q;exact new
 ·rw[zw a]at q
  by_cases I:b=e
  ·have O:H b=aI (.own x):=by
    rcases L with z | z
    ·exact absurd (I.trans z) a
    ·rw[I];exact z
   rw[q]at O;cases O;obtain⟨v,W⟩:=S;exact⟨v,by rw[I];exact W⟩
  ·refine(ok b u q).Cw (λc v hc r=>k c v ?_ r) (λc r=>by rw[zw (J c b r)];exact r) λc d r=>by rw[zw (U c d r)];exact r
   rcases hc with rfl | hc
   ·exact I
   ·rintro rfl
    rcases L with z | z
    ·exact J c b hc z
    ·rw[hc]at z;cases z;exact a rfl
end
structure Un(fs ex:List eH)(H H':Hp)(h h':il):Prop where
 keep : ∀b o,h.get? b=aI o->H b=cI->b∉fs->b∉ex->h'.get? b=aI o
 slot : ∀b o,h.get? b=aI o->H b=cI->b∈fs->b∉ex->∃sl,h'.get? b=aI {o with slots:=sl}
 free : ∀b o,h.get? b=aI o->H b=cI->b∉ex->H' b=cI
 there : ∀b o,h.get? b=aI o->b∉ex->∃o',h'.get? b=aI o'
 A8 : ∀b xs,H b=aI (.tup xs)->H' b=aI (.tup xs)
 wh : ∀b o u,H b=aI (.t8 o u)->H' b=aI (.t8 o u)
 A6 : ∀b ps,H b=aI (.Dw ps)->∃more,H' b=aI (.Dw<|ps++more)
section
variable{fs G3 ex HC:List eH}{H H1 H2:Hp}{h h1 h2 h':il}{a x e:eH}{o:HO}
theorem Un.any(u:Un fs ex H H1 h h1)(q:h.get? b=aI ob)(n:H b=cI)(hx:b∉ex) : ∃I,h1.get? b=aI {ob with slots:=I}:=by
 by_cases a:b∈fs
 ·exact u.slot b ob q n a hx
 ·exact⟨ob.slots,u.keep b ob q n a hx⟩
theorem Un.kept(k : ∀b u,h.get? b=aI u->h'.get? b=aI u):Un fs ex H H h h':=
 ⟨λb z q _ _ _=>k b z q,λb z q _ _ _=>⟨z.slots,k b z q⟩,λ_ _ _ n _=>n,λb z q _=>⟨z,k b z q⟩,λ_ _ q=>q,λ_ _ _ q=>q,λ_ a q=>⟨#[],by rw[q];simp⟩⟩
theorem Un.refl:Un fs ex H H h h:=Un.kept λ_ _ q=>q
theorem Un.laid(k : ∀b u,h.get? b=aI u->h'.get? b=aI u)(hp:h.objs.size<=a)(hn:H a=cI):Un fs ex H (upd H a o) h h' where
 keep:=λb u q _ _ _=>k b u q
 slot:=λb u q _ _ _=>⟨u.slots,k b u q⟩
 free:=λb u q n _=>by rw[zw (sr<|si (sg q) hp)];exact n
 there:=λb u q _=>⟨u,k b u q⟩
 A8:=λb xs q=>by rw[zw (zS q hn)];exact q
 wh:=λb u xs q=>by rw[zw (zS q hn)];exact q
 A6:=λb ps q=>⟨#[],by rw[zw (zS q hn),q];simp⟩
theorem Un.write(B:Ep (H x))(L:e=x\/H e=aI (.own x))(k : ∀b u,b≠e->h.get? b=aI u->h'.get? b=aI u)(J : ∃u,h'.get? e=aI u):Un fs ex H (upd H x o) h h':=by
 have f : ∀b,H b=cI->b≠x:=λb n z=>by subst z;rw[n]at B;exact B
 have d : ∀b,H b=cI->b≠e:=λb n z=>by
  subst z;rcases L with r | r
  ·exact f b n r
  ·rw[n]at r;cases r
 have a : ∀b u,H b=aI u->¬Ep (aI u)->b≠x:=λb u q nm z=>by subst z;rw[q]at B;exact nm B
 refine⟨λb u q n _ _=>k b u (d b n) q,λb u q n _ _=>⟨u.slots,k b u (d b n) q⟩,λb u q n _=>by rw[zw (f b n)];exact n,λb u q _=>?_,
  λb g q=>by rw[zw (a b _ q λz=>z)];exact q,λb u g q=>by rw[zw (a b _ q λz=>z)];exact q,λb i q=>⟨#[],by rw[zw (a b _ q λz=>z),q];simp⟩⟩
 by_cases I:b=e
 ·subst I;exact J
 ·exact⟨u,k b u I q⟩
end
noncomputable def Fg(h:il)(H:Hp):List eH:=(tJ h.objs.size).filter λa=>(H a).isSome
def Va(h:il)(H:Hp):il:=AD h<|Fg h H
theorem Ki(h:il)(H:Hp):(Va h H).objs.size=h.objs.size:=PySem.W.hideAll_size _ _
theorem Y9(e:h.get? b=aI o)(n:H b=cI):(Va h H).get? b=aI o:=
 Ab _ e λa=>by have q:(H b).isSome=cT:=(List.mem_filter.mp a).2;rw[n]at q;simp at q
theorem aB(e:(Va h H).get? b=aI o):h.get? b=aI o/\H b=cI:=by
 have B:h.get? b=aI o:=Bv (Fg h H) e;refine⟨B,?_⟩;cases q:H b with
 | none=>rfl
 | some x=>
  have a:b∈Fg h H:=List.mem_filter.mpr ⟨Az.mpr<|sg B,by simp[q]⟩;have z:(Va h H).get? b=cI:=PySem.W.hideAll_none (Fg h H) a;rw[z]at e;cases e
noncomputable def bt(g h:il)(L:eH):List (eH×n7):=(tJ h.objs.size).filterMap λa=>if a=L\/(g.get? a).isSome=cT then cI else (h.get? a).map λo=>(a,o)
noncomputable def rest(g h:il)(L d:eH):List (eH×n7):=(bt g h L).filter λp=>decide<|p.1≠d
structure Mod(K:rR)(mg:GV)(base:il):Prop where
 DP:K.In base
 glob:base.Ns o7 mg
 blt : ∃mb,base.Ns F4 mb/\∀x:Str,x ≠ "__name__"->mb x=C0 x
 nolimit:base.NoLimit
structure Cx where
 prog:m3
 w:l6
 K:rR
 mg:Str->Option eI
 base:il
 A:m7
 N:List Str
 m5:g8
 Dl:Hp
 env:m9
 outer:List m9
 stack:List m9
 ex:List eH
 fn:Str->Bool
 calm:Bool
 pn:List (eH×n7)
 xe:eI->g8->Prop
def o1(l:List m9):List eH:=l.filterMap (·.frame)
abbrev Cx.fs(X:Cx):List eH:=o1 X.outer
noncomputable def Ew(I:l9)(x:Str):Prop:=I.names.lookup x=aI .local\/I.names.lookup x=aI .cell\/I.names.lookup x=aI .free
noncomputable def Loc(I:l9)(x:Str):Prop:=I.names.lookup x=aI .local\/I.names.lookup x=aI .cell
noncomputable def rC(env:m9)(h:il)(m:GV)(x:Str)(u:eI):Prop:=
 (env.kindOf x=aI .local/\m x=aI u)\/((env.kindOf x=aI .cell\/env.kindOf x=aI .free)/\∃c,env.cells.lookup x=aI c/\h.IsCell c (aI u))
structure Cx.Ok(X:Cx):Prop where
 mod:Mod X.K X.mg X.base
 kind:X.env.scope.kind = .function
 glob:X.env.globals=o7
 blt:X.env.builtins=F4
 above:X.m5.heap.objs.size<=X.env.locals
 inj : ∀x y c,X.env.cells.lookup x=aI c->X.env.cells.lookup y=aI c->x=y
 has : ∀x,(X.env.kindOf x=aI .cell\/X.env.kindOf x=aI .free)->∃c,X.env.cells.lookup x=aI c
 D2 : ∀x c,X.fn x=cT->X.env.cells.lookup x=aI c->X.m5.heap.objs.size<=c
 hd:X.calm=cT->X.A.handled=cI
 frames:X.A.frames=aI X.stack
 Di:X.stack=X.outer\/(X.stack=X.env::X.outer/\X.env.frame=aI X.env.locals)
 EA : ∀b∈X.ex,b≠X.env.locals/\∀x c,X.env.cells.lookup x=aI c->c≠b
 bs : ∀b o,X.base.get? b=aI o->X.m5.heap.get? b=aI o/\X.Dl b=cI
 Cr:X.base.objs.size<=X.m5.heap.objs.size
 D9 : ∀b o,X.base.get? b=aI o->b∉X.ex
 D6 : ∀b∈X.ex,b∉X.fs
 t5:X.m5.heap.FunFrames X.base X.outer
 Cs : ∀b∈X.fs,X.Dl b=cI
structure Inv(X:Cx)(pins:GW)(σ:List (Option V))(H:Hp)(s:g8):Prop where
 ok:X.Ok
 os:s.os=X.m5.os
 bare:CT s.gens
 base:Un X.fs X.ex X.Dl H X.m5.heap s.heap
 loc : ∃m,s.heap.Ns X.env.locals m/\∀(i:Nat) (x:Str) (v:V),X.N[i]? = aI x->σ[i]? = aI (aI v)->Ew X.env.scope x->∃u,RelV v u/\rC X.env s.heap m x u
 cell : ∀x c,X.env.cells.lookup x=aI c->∃v,s.heap.IsCell c v
 free:H X.env.locals=cI
 B0 : ∀x c,X.env.cells.lookup x=aI c->H c=cI
 pin : ∀p∈X.pn++pins,s.heap.get? p.1=aI p.2/\H p.1=cI/\p.1≠X.env.locals/\p.1∉X.fs/\∀v,p.2.data ≠ .cell v
 iv:n0 X.prog X.w H s.heap
 len:σ.length=X.N.length
section
variable{X:Cx}{pins:GW}{σ:List (Option V)}{H H':Hp}{s:g8}{h':il}
theorem Cx.Ok.He(ok:X.Ok)(e:X.base.get? b=aI o):b∉X.fs:=λa=>by have:=(ok.t5.mem a).1;rw[e]at this;cases this
theorem Inv.bs(I:Inv X pins σ H s) : ∀b o,X.base.get? b=aI o->s.heap.get? b=aI o/\H b=cI:=λb o e=>
 ⟨I.base.keep b o (I.ok.bs b o e).1 (I.ok.bs b o e).2 (I.ok.He e) (I.ok.D9 b o e),I.base.free b o (I.ok.bs b o e).1 (I.ok.bs b o e).2 (I.ok.D9 b o e)⟩
theorem Inv.bk(I:Inv X pins σ H s) : ∀b o,X.base.get? b=aI o->s.heap.get? b=aI o:=λb o e=>(I.bs b o e).1
theorem Inv.mod(I:Inv X pins σ H s):Mod X.K X.mg X.base:=I.ok.mod
theorem Inv.m4(I:Inv X pins σ H s):X.K.In s.heap:=I.ok.mod.DP.keeps I.bk
theorem Inv.lt(I:Inv X pins σ H s):X.env.locals<s.heap.objs.size:=let ⟨_,a,_⟩:=I.loc;a.lt
theorem Inv.sz(I:Inv X pins σ H s):X.m5.heap.objs.size<=s.heap.objs.size:=sF I.ok.above<|Cb I.lt
theorem Inv.Hg(I:Inv X pins σ H s)(h:s.heap.objs.size<=a):a∉X.fs:=λb=>by obtain⟨_,o,z,_⟩:=I.ok.t5.mem b;exact absurd (si (sg z)<|sF I.sz h)<|ur _
theorem Inv.C1(I:Inv X pins σ H s) : ∀x c,X.env.cells.lookup x=aI c->c≠X.env.locals:=λx c e z=>by obtain⟨v,o,B,a⟩:=I.cell x c e;obtain⟨m,⟨f,d,b,J,O,_⟩,_⟩:=I.loc;rw[z,J]at B;cases B;rw[O]at a;cases a
theorem Inv.t5(I:Inv X pins σ H s):s.heap.FunFrames X.base X.outer:=by
 have all : ∀(l:List m9),(∀b∈o1 l,b∈X.fs)->X.m5.heap.FunFrames X.base l->s.heap.FunFrames X.base l:=by
  intro l
  induction l with
  | nil=>intro _ _;trivial
  | cons g r J=>
   intro f O;obtain⟨S,⟨L,o,d,i,U,h⟩,j⟩:=O;have B:L∈X.fs:=f L (by unfold o1;rw[BB,d];exact sP);obtain⟨k,e⟩:=I.base.slot L o U (I.ok.Cs L B) B λz=>I.ok.D6 L z B;exact⟨S,⟨L,_,d,i,e,h⟩,J (λb a=>f b<|by unfold o1;rw[BB,d];exact sv _ a) j⟩
 exact all X.outer (λ_ a=>a) I.ok.t5
theorem Inv.stack(I:Inv X pins σ H s):s.heap.FunFrames X.base X.stack:=by
 rcases I.ok.Di with e | ⟨e,hf⟩
 ·rw[e];exact I.t5
 ·rw[e]
  obtain⟨m,a,_⟩:=I.loc;refine .cons (by rw[I.ok.kind];decide) hf a ?_ I.t5;exact Heap.get?_none_of_le<|sF I.ok.Cr I.ok.above
theorem Inv.Ed(I:Inv X pins σ H s) : ∀b∈o1 X.stack,b∈X.env.locals::X.fs:=λb a=>by
 rcases I.ok.Di with e | ⟨e,hf⟩
 ·rw[e]at a;exact sv _ a
 ·rw[e]at a
  unfold o1 at a;rw[BB,hf]at a;exact a
theorem Inv.Ec(I:Inv X pins σ H s) : ∀b∈o1 X.stack,H b=cI:=λb hb=>by
 rcases sd.mp (I.Ed b hb)with e | hb
 ·rw[e];exact I.free
 ·obtain⟨_,o,B,_⟩:=I.ok.t5.mem hb
  exact I.base.free b o B (I.ok.Cs b hb) λz=>I.ok.D6 b z hb
theorem Inv.step{g':Array FU}{t':Nat}{d':Drawn}{ch:List eH}(I:Inv X pins σ H s)
 (J : ∀b∈ch,(b∈X.ex\/X.m5.heap.objs.size<=b)/\b≠X.env.locals/\(∀x c,X.env.cells.lookup x=aI c->c≠b)/\∀p∈X.pn++pins,p.1≠b)
 (L : ∀b o,b≠X.env.locals->b∉X.fs->b∉ch->s.heap.get? b=aI o->H b=cI->h'.get? b=aI o)
 (Z : ∀b o,b≠X.env.locals->b∈X.fs->b∉ch->s.heap.get? b=aI o->H b=cI->∃sl,h'.get? b=aI {o with slots:=sl}) (free : ∀b o,b∉ch->s.heap.get? b=aI o->H b=cI->H' b=cI)
 (there : ∀b o,b∉ch->s.heap.get? b=aI o->∃o',h'.get? b=aI o')
 (A8 : ∀b xs,H b=aI (.tup xs)->H' b=aI (.tup xs)) (wh : ∀b o u,H b=aI (.t8 o u)->H' b=aI (.t8 o u)) (A6 : ∀b ps,H b=aI (.Dw ps)->∃more,H' b=aI (.Dw<|ps++more))
 (ns : ∀m,s.heap.Ns X.env.locals m->h'.Ns X.env.locals m) (iv:n0 X.prog X.w H' h') (hg:CT g') :
 Inv X pins σ H' {s with heap:=h',gens:=g',drawn:=d',toks:=t'}:=by
 have U : ∀b o,X.m5.heap.get? b=aI o->b≠X.env.locals:=λb o e=>sr<|si (sg e) I.ok.above;have S : ∀b o,X.m5.heap.get? b=aI o->b∉X.ex->b∉ch:=λb o e a g=>by
  rcases (J b g).1 with z | z
  ·exact a z
  ·exact absurd (si (sg e) z)<|ur _
 have W : ∀x c,X.env.cells.lookup x=aI c->∀v,s.heap.IsCell c v->h'.IsCell c v:=λx c e v F=>by
  obtain⟨o,B,j⟩:=F;have O:c∉ch:=λz=>(J c z).2.2.1 x c e rfl;by_cases t:c∈X.fs
  ·obtain⟨sl,q⟩:=Z c o (I.C1 x c e) t O B (I.B0 x c e)
   exact⟨_,q,j⟩
  ·exact⟨o,L c o (I.C1 x c e) t O B<|I.B0 x c e,j⟩
 refine⟨I.ok,I.os,hg,⟨λb o e n g a=>?_,λb o e n g a=>?_,λb o e n a=>?_,λb o e a=>?_,λb xs e=>A8 b xs<|I.base.A8 b xs e,λb o xs e=>wh b o xs<|I.base.wh b o xs e,λb ps e=>?_⟩,?_,λx c e=>?_,?_,λx c e=>?_,λp y=>?_,iv,I.len⟩
 ·exact L b o (U b o e) g (S b o e a) (I.base.keep b o e n g a)<|I.base.free b o e n a
 ·obtain⟨sl,f⟩:=I.base.slot b o e n g a
  obtain⟨C,h⟩:=Z b _ (U b o e) g (S b o e a) f<|I.base.free b o e n a;exact⟨C,h⟩
 ·obtain⟨o',f⟩:=I.base.there b o e a
  exact free b o' (S b o e a) f<|I.base.free b o e n a
 ·obtain⟨o',f⟩:=I.base.there b o e a
  exact there b o' (S b o e a) f
 ·obtain⟨M,f⟩:=I.base.A6 b ps e
  obtain⟨N,h⟩:=A6 b _ f;exact⟨M++N,by rw[h,Array.append_assoc]⟩
 ·obtain⟨m,K,G⟩:=I.loc
  refine⟨m,ns m K,λi x v f h E=>?_⟩;obtain⟨u,r,l⟩:=G i x v f h E;refine⟨u,r,?_⟩;rcases l with l | ⟨k,c,e,z⟩
  ·exact .inl l
  ·exact .inr ⟨k,c,e,W x c e _ z⟩
 ·obtain⟨v,z⟩:=I.cell x c e
  exact⟨v,W x c e v z⟩
 ·obtain⟨m,⟨o,_,_,B,_⟩,_⟩:=I.loc
  exact free _ o (λz=>(J _ z).2.1 rfl) B I.free
 ·obtain⟨v,o,B,j⟩:=I.cell x c e
  exact free c o (λz=>(J c z).2.2.1 x c e rfl) B<|I.B0 x c e
 ·obtain⟨e,n,A,Y,d⟩:=I.pin p y
  have O:p.1∉ch:=λz=>(J p.1 z).2.2.2 p y rfl;exact⟨L p.1 p.2 A Y O e n,free p.1 p.2 O e n,A,Y,d⟩
theorem Inv.un{t':Nat}(I:Inv X pins σ H s)(u:Un X.fs [] H H' s.heap h')(L:n0 X.prog X.w H' h'):Inv X pins σ H' {s with heap:=h',toks:=t'}:=by
 obtain⟨m,⟨o,g,f,B,r⟩,_⟩:=id I.loc;obtain⟨j,O⟩:=u.any B I.free ⋯;exact I.step (g':=s.gens) (d':=s.drawn) (ch:=[]) (λ_ z=>nomatch z) (λb o _ a _ e n=>u.keep b o e n a ⋯) (λb o _ a _ e n=>u.slot b o e n a ⋯) (λb o _ e n=>u.free b o e n ⋯) (λb o _ e=>u.there b o e ⋯) u.A8 u.wh u.A6 (λh d=>by obtain⟨i,S,U,J,W⟩:=d;rw[B]at J;cases J;exact⟨_,S,U,O,W⟩) L I.bare
theorem Inv.call{g':Array FU}{t':Nat}{d':Drawn}{ch:List eH}(I:Inv X pins σ H s)(u:Un (o1 X.stack) ch H H' s.heap h')(L:n0 X.prog X.w H' h')(U:CT g')
 (J : ∀b∈ch,(b∈X.ex\/X.m5.heap.objs.size<=b)/\b≠X.env.locals/\(∀x c,X.env.cells.lookup x=aI c->c≠b)/\∀p∈X.pn++pins,p.1≠b) :
 Inv X pins σ H' {s with heap:=h',gens:=g',drawn:=d',toks:=t'}:=by
 obtain⟨m,⟨o,i,h,O,r⟩,_⟩:=id I.loc;obtain⟨l,B⟩:=u.any O I.free λz=>(J _ z).2.1 rfl;exact I.step (ch:=ch) J (λb o B d a e n=>u.keep b o e n (λz=>(sd.mp<|I.Ed b z).elim B d) a) (λb o _ _ a e n=>u.any e n a) (λb o a e n=>u.free b o e n a) (λb o a e=>u.there b o e a) u.A8 u.wh u.A6 (λj f=>by obtain⟨k,W,Y,S,g⟩:=f;rw[O]at S;cases S;exact⟨_,W,Y,B,g⟩) L U
theorem Inv.turned{t':Nat}{it:eH}(I:Inv X pins σ H s)(k : ∀b o,b≠it->s.heap.get? b=aI o->h'.get? b=aI o)(Y:H it=cI)(B:it≠X.env.locals)
 (L:it∈X.ex\/X.m5.heap.objs.size<=it) (W : ∀x c,X.env.cells.lookup x=aI c->c≠it) (O : ∀p∈X.pn++pins,p.1≠it):Inv X pins σ H {s with heap:=h',toks:=t'}:=by
 have J : ∀b u,H b=aI u->b≠it:=λb u e z=>by rw[z,Y]at e;cases e
 refine I.step (g':=s.gens) (d':=s.drawn) (ch:=[it]) (λb g=>?_) (λb o _ _ a e _=>k b o (λz=>a<|by simp[z]) e) (λb o _ _ a e _=>⟨o.slots,k b o (λz=>a<|by simp[z]) e⟩) (λ_ _ _ _ n=>n)
  (λb o a e=>⟨o,k b o (λz=>a<|by simp[z]) e⟩) (λ_ _ e=>e) (λ_ _ _ e=>e) (λb i e=>⟨#[],by rw[e];simp⟩) (λm h=>?_) (λb u e=>?_) I.bare
 ·have e:b=it:=by simpa using g
  subst e;exact⟨L,B,W,O⟩
 ·obtain⟨o,f,d,S,r⟩:=h
  exact⟨o,f,d,k _ o (tE B) S,r⟩
 ·refine(I.iv b u e).Cw (λc v a q=>k c v ?_ q) (λ_ q=>q) λ_ _ q=>q
  rcases a with z | z
  ·rw[z];exact J b u e
  ·exact J c _ z
theorem Inv.tok(I:Inv X pins σ H s)(t:Nat):Inv X pins σ H {s with toks:=t}:=I.un (h':=s.heap) (t':=t) Un.refl I.iv
theorem Inv.kept(I:Inv X pins σ H s)(k : ∀b u,s.heap.get? b=aI u->h'.get? b=aI u):Inv X pins σ H {s with heap:=h',toks:=t'}:=I.un (Un.kept k)<|I.iv.kept k
theorem Inv.laid(I:Inv X pins σ H s)(k : ∀b u,s.heap.get? b=aI u->h'.get? b=aI u)(J:s.heap.objs.size<=a)(new:m8 X.prog X.w (upd H a o) h' a o) :
 Inv X pins σ (upd H a o) {s with heap:=h',toks:=t'}:=I.un (Un.laid k J<|I.iv.fresh J)<|I.iv.laid k J new
theorem Inv.write(I:Inv X pins σ H s)(z:Ep (H x))(J:e=x\/H e=aI (.own x))(k : ∀b u,b≠e->s.heap.get? b=aI u->h'.get? b=aI u)(B : ∃u,h'.get? e=aI u)
 (new:m8 X.prog X.w (upd H x o) h' x o):Inv X pins σ (upd H x o) {s with heap:=h',toks:=t'}:=I.un (Un.write z J k B)<|I.iv.write z J k B new
theorem Inv.E9(I:Inv X pins σ H s)(h : ∀p∈B,s.heap.get? p.1=aI p.2/\H p.1=cI/\p.1≠X.env.locals/\p.1∉X.fs/\∀v,p.2.data ≠ .cell v):Inv X B σ H s:=
 ⟨I.ok,I.os,I.bare,I.base,I.loc,I.cell,I.free,I.B0,λp a=>(List.mem_append.mp a).elim (λz=>I.pin p<|Bu _ z) (h p),I.iv,I.len⟩
theorem wx{N:List Str}(z:N.Nodup){i j:Nat}{x:Str}(a:N[i]? = aI x)(b:N[j]? = aI x):i=j:=by obtain⟨f,d⟩:=su.mp a;obtain⟨g,e⟩:=su.mp b;exact(List.getElem_inj z).mp (d.trans e.symm)
theorem wX{M:Dn}{A:m7}{E:GQ}{i:Nat}{x:Str}{v:V}{u:eI}{Q:Unit->g8->Prop}(I:Inv X pins σ H s)(hN:X.N.Nodup)(L:X.N[i]? = aI x)(hx:Loc X.env.scope x)(r:RelV v u)
 (h : ∀s',Inv X pins (σ.set i<|some v) H s'->(∃a,uV a s.heap s'.heap/\(a=X.env.locals\/X.env.cells.lookup x=aI a))->Q () s') (hf:X.fn x=cT\/X.env.scope.names.lookup x=aI .local:=by first | exact .inl rfl | exact .inr rfl | assumption):wpAny M A (storeName X.env x u) Q E s:=by
 obtain⟨m,K,hl⟩:=id I.loc;have ac:(X.env.scope.kind == .class || (X.env.scope.kind == .module && X.env.locals != X.env.globals))=dV:=by rw[I.ok.kind];rfl
 have a5:i<σ.length:=by rw[I.len];exact(su.mp L).1
 have C1:=I.C1;have a6 : ∀{a:eH} {h':il},(∃o,s.heap.get? a=aI o/\H a=cI)->uV a s.heap h'->n0 X.prog X.w H h':=λ{a h'} ha f b ob e=>by
  obtain⟨_,_,a7⟩:=ha;refine(I.iv b ob e).Cw (λc F hc q=>(f.2 c ?_).trans q) (λ_ q=>q) λ_ _ q=>q;rintro rfl;rcases hc with rfl | hc
  ·rw[a7]at e;cases e
  ·rw[a7]at hc;cases hc
 rcases hx with B | B
 ·refine wpAny_storeName_local B K (λh' an f=>?_) ac
  obtain⟨oL,_,_,as,_⟩:=id K;refine h _ ⟨I.ok,I.os,I.bare,⟨λb o e n t hx=>?_,λb o e n t hx=>?_,I.base.free,λb o e hx=>?_,I.base.A8,I.base.wh,I.base.A6⟩,⟨_,an,λj y S g l U=>?_⟩,λy c e=>?_,I.free,I.B0,λp P=>?_,a6 ⟨oL,as,I.free⟩ f,by simpa using I.len⟩ ⟨_,f,.inl rfl⟩
  ·exact(f.2 b<|sr<|si (sg e) I.ok.above).trans (I.base.keep b o e n t hx)
  ·obtain⟨Z,g⟩:=I.base.slot b o e n t hx
   exact⟨Z,(f.2 b<|sr<|si (sg e) I.ok.above).trans g⟩
  ·obtain⟨T,g⟩:=I.base.there b o e hx
   exact⟨T,(f.2 b<|sr<|si (sg e) I.ok.above).trans g⟩
  ·by_cases J:j=i
   ·subst J
    rw[L]at g;cases g;rw[sM a5]at l;cases l;exact⟨u,r,.inl ⟨B,by simp⟩⟩
   ·rw[rZ (tE J)]at l
    obtain⟨W,Y,q⟩:=hl j y S g l U;refine⟨W,Y,?_⟩;rcases q with⟨k,e⟩ | ⟨k,c,e,z⟩
    ·refine .inl ⟨k,?_⟩
     have:y≠x:=λe=>J<|wx hN g<|e ▸ L;simp[this,e]
    ·exact .inr ⟨k,c,e,z.sameBut f<|C1 y c e⟩
  ·obtain⟨F,z⟩:=I.cell y c e
   exact⟨F,z.sameBut f<|C1 y c e⟩
  ·obtain⟨e,n,C,R,d⟩:=I.pin p P
   exact⟨(f.2 p.1 C).trans e,n,C,R,d⟩
 ·have G:X.fn x=cT:=by
   rcases hf with z | z
   ·exact z
   ·rw[z]at B;cases B
  obtain⟨c,hc⟩:=I.ok.has x<|.inl B;obtain⟨F,z⟩:=I.cell x c hc;refine wpAny_storeName_cell I.ok.kind B hc z<|λh' a8 f=>?_;obtain⟨oc,a9,ax⟩:=id z;refine h {s with heap:=h'} ⟨I.ok,I.os,I.bare,⟨λb o e n t hx=>?_,λb o e n t hx=>?_,I.base.free,λb o e hx=>?_,I.base.A8,I.base.wh,I.base.A6⟩,⟨m,K.sameBut f<|tE<|C1 x c hc,λj y S g l U=>?_⟩,λy O e=>?_,I.free,I.B0,λp P=>?_,a6 ⟨oc,a9,I.B0 x c hc⟩ f,by simpa using I.len⟩ ⟨c,f,.inr hc⟩
  ·exact(f.2 b<|sr<|si (sg e)<|I.ok.D2 x c G hc).trans (I.base.keep b o e n t hx)
  ·obtain⟨Z,g⟩:=I.base.slot b o e n t hx
   exact⟨Z,(f.2 b<|sr<|si (sg e)<|I.ok.D2 x c G hc).trans g⟩
  ·obtain⟨T,g⟩:=I.base.there b o e hx
   exact⟨T,(f.2 b<|sr<|si (sg e)<|I.ok.D2 x c G hc).trans g⟩
  ·by_cases J:j=i
   ·subst J
    rw[L]at g;cases g;rw[sM a5]at l;cases l;exact⟨u,r,.inr ⟨.inl B,c,hc,a8⟩⟩
   ·rw[rZ (tE J)]at l
    obtain⟨W,Y,q⟩:=hl j y S g l U;refine⟨W,Y,?_⟩;rcases q with q | ⟨k,O,e,z'⟩
    ·exact .inl q
    ·refine .inr ⟨k,O,e,z'.sameBut f ?_⟩
     rintro rfl;exact J<|wx hN g<|I.ok.inj _ _ _ e hc ▸ L
  ·by_cases ab:O=c
   ·subst ab;exact⟨_,a8⟩
   ·obtain⟨w2,z2⟩:=I.cell y O e
    exact⟨w2,z2.sameBut f ab⟩
  ·obtain⟨e,n,C,R,d⟩:=I.pin p P
   refine⟨(f.2 p.1 ?_).trans e,n,C,R,d⟩;intro q;rw[q,a9]at e;have q':oc=p.2:=sJ e;exact d F (by rw[<- q'];exact ax)
theorem wa(I:Inv X pins σ H s)(z:X.N.Nodup)(L:X.N[i]? = aI x)(hx:Loc X.env.scope x)(r:RelV v u)
 (h : ∀s',Inv X pins (σ.set i<|some v) H s'->Q () s') (J:X.fn x=cT\/X.env.scope.names.lookup x=aI .local:=by first | exact .inl rfl | exact .inr rfl | assumption):wpAny M A (storeName X.env x u) Q E s:=
 wX I z L hx r (λs' B _=>h s' B) J
theorem Inv.F5(I:Inv X pins σ H s)(z:s'.os=s.os)(u:Un (o1 X.stack) ch H H' s.heap s'.heap)(L:n0 X.prog X.w H' s'.heap)(B:CT s'.gens)
 (J : ∀b∈ch,(b∈X.ex\/X.m5.heap.objs.size<=b)/\b≠X.env.locals/\(∀x c,X.env.cells.lookup x=aI c->c≠b)/\∀p∈X.pn++pins,p.1≠b):Inv X pins σ H' s':=by
 obtain⟨h',g',d',t',a⟩:=s';have e:a=s.os:=z;subst e;exact I.call (g':=g') (t':=t') (d':=d') u L B J
end
abbrev XK:=eI->Option eH->Hp->Prop
abbrev St:=List (Option V)
abbrev VK:=V->Hp->Prop
abbrev TE:=St->Hp->VK->Prop
abbrev TT:=St->Hp->(Bool->Hp->Prop)->Prop
abbrev TA:=St->Hp->(List V->Hp->Prop)->Prop
structure Ends where
 nx:St->Hp->Prop
 rt:VK
 bk:St->Hp->Prop:=λ_ _=>False
 ct:St->Hp->Prop:=λ_ _=>False
abbrev TS:=Ends->St->Hp->Prop
noncomputable def EP(X:Cx)(I:GW)(J:St)(Q:VK)(u:eI)(s':g8):Prop:=∃v a,Inv X I J a s'/\RelV v u/\Q v a
noncomputable def TP(X:Cx)(I:GW)(J:St)(Q:Bool->Hp->Prop)(b:Bool)(s':g8):Prop:=∃a,Inv X I J a s'/\Q b a
noncomputable def AP(X:Cx)(I:GW)(J:St)(Q:List V->Hp->Prop)(us:List eI)(s':g8):Prop:=∃b a,Inv X I J a s'/\kA b us/\Q b a
noncomputable def SP(X:Cx)(I:GW)(D:Ends)(f:Flow)(s':g8):Prop:=
 match f with
 | .next=>∃a b,Inv X I a b s'/\D.nx a b
 | .brk=>∃a b,Inv X I a b s'/\D.bk a b
 | .cont=>∃a b,Inv X I a b s'/\D.ct a b
 | .ret u=>∃v a b,Inv X I a b s'/\RelV v u/\D.rt v b
noncomputable def PE(X:Cx)(e:g9)(t:TE):Prop:=
 ∀(a:GW) (s:g8) (b:St) (H:Hp) (Q:VK),Inv X a b H s->t b H Q->wpAny (hR X.prog X.w) X.A (hH e X.env) (EP X a b Q) X.xe s
noncomputable def PT(X:Cx)(e:g9)(t:TT):Prop:=
 ∀(a:GW) (s:g8) (b:St) (H:Hp) (Q:Bool->Hp->Prop),Inv X a b H s->t b H Q->wpAny (hR X.prog X.w) X.A (DN e X.env<|eval e X.env) (TP X a b Q) X.xe s
noncomputable def PW(X:Cx)(e:g9)(t:TT):Prop:=
 ∀(z:oD eI) (a:GW) (s:g8) (b:St) (H:Hp) (Q:Bool->Hp->Prop),Inv X a b H s->t b H Q->wpAny (hR X.prog X.w) X.A (DN e X.env z) (TP X a b Q) X.xe s
theorem PW.pt(h:PW X e t):PT X e t:=h _
noncomputable def PA(X:Cx)(I:List g9)(t:TA):Prop:=
 ∀(b:l0) (a:GW) (s:g8) (d:St) (H:Hp) (Q:List V->Hp->Prop),Inv X a d H s->t d H Q->wpAny (hR X.prog X.w) X.A (Cv<|backTo b<|starEach I X.env) (AP X a d Q) X.xe s
noncomputable def PS(X:Cx)(st:l7)(t:TS):Prop:=
 ∀(a:GW) (s:g8) (b:St) (H:Hp) (D:Ends),Inv X a b H s->t D b H->wpAny (hR X.prog X.w) X.A (exec st X.env) (SP X a D) X.xe s
noncomputable def ri(X:Cx)(st:List l7)(t:TS):Prop:=
 ∀(a:GW) (s:g8) (b:St) (H:Hp) (D:Ends),Inv X a b H s->t D b H->wpAny (hR X.prog X.w) X.A (execs st X.env) (SP X a D) X.xe s
theorem kr(h:wpAny M A t Q E s)(z : ∀a s,Q a s->Q' a s):wpAny M A t Q' E s:=sC h z λ_ _ x=>x
section
variable{X:Cx}
def wL(i:Nat):TE:=λa H Q=>∃v,a[i]? = aI (aI v)/\Q v H
def tC(v:V):TE:=λ_ H Q=>Q v H
theorem VT(O:X.N[i]? = aI x)(S:Ew X.env.scope x)(L:(x==("__debug__" : Str))=dV:=by decide)(U:(x==("__classdict__" : Str))=dV:=by decide):PE X (.Name x pos) (wL i):=by
 intro a s g H Q I h;obtain⟨v,e,h⟩:=h;obtain⟨m,f,W⟩:=I.loc;obtain⟨u,r,l⟩:=W i x v O e S;have B:EP X a g Q u s:=⟨v,H,I,r,h⟩;rcases l with⟨z,d⟩ | ⟨z,c,b,J⟩
 ·exact Gw (wpAny_loadName_local I.ok.kind z f d B) L
 ·rcases z with z | z
  ·exact Gw (wpAny_loadName_cell I.ok.kind z b J B) L
  ·exact Gw (wpAny_loadName_free I.ok.kind z b J B U) L
theorem dN:PE X (.Constant (.int i) j pos) (tC<|.int i):=λ_ _ _ H _ I h=>wpAny_Constant_int ⟨.int i,H,I.tok _,⟨_,rfl⟩,h⟩
theorem Qh:PE X (.Constant (.bool b) j pos) (tC<|.bl b):=λ_ _ _ H _ I h=>Constant_bool ⟨.bl b,H,I,rfl,h⟩
theorem vM:PE X (.Constant .none j pos) (tC .hI):=λ_ _ _ H _ I h=>Constant_none ⟨.hI,H,I,rfl,h⟩
theorem dG:PE X (.Constant (.str x) j pos) (tC<|.str x):=λ_ _ _ H _ I h=>Calls.Constant_str ⟨.str x,H,I.tok _,⟨_,rfl⟩,h⟩
def Gl(X:Cx)(x:Str):Prop:=X.env.kindOf x=aI .globalImplicit
theorem qt(I:Inv X pins σ H s)(z:Gl X x)(L:X.mg x=aI u)(h:Q u s)
 (J:(x==("__debug__" : Str))=dV:=by decide):wpAny (hR X.prog X.w) X.A (hH (.Name x pos) X.env) Q E s:=
 Calls.Name_function_global I.ok.kind z (Calls.loadGlobal_global (by rw[I.ok.glob];exact I.mod.glob.keeps I.bk) L h) J
theorem jP(I:Inv X pins σ H s)(z:Gl X x)(L:X.mg x=cI)(B:C0 x=aI u)(h:Q u s)
 (O:x ≠ "__name__":=by decide) (J:(x==("__debug__" : Str))=dV:=by decide):wpAny (hR X.prog X.w) X.A (hH (.Name x pos) X.env) Q E s:=by
 obtain⟨d,a,b⟩:=I.mod.blt;exact Calls.Name_function_global I.ok.kind z (Calls.loadGlobal_builtin (by rw[I.ok.glob];exact I.mod.glob.keeps I.bk) L (by rw[I.ok.blt];exact a.keeps I.bk) ((b x O).trans B) h) J
variable{a b:g9}{ta tb:TE}{pos:l0}
noncomputable def PC(X:Cx)(z:CmpOp)(a b:g9)(t:TE):Prop:=
 ∀(d:GW) (s:g8) (e:St) (H:Hp) (Q:VK),Inv X d e H s->t e H Q->
  wpAny (hR X.prog X.w) X.A (hH a X.env) (λv B=>wpAny (hR X.prog X.w) X.A (hH b X.env) (λu I=>wpAny (hR X.prog X.w) X.A (p5 z v u) (EP X d e Q) X.xe I) X.xe B) X.xe s
theorem Y0(b:g9)(h:op ≠ .In)(I:op ≠ .NotIn):vr op b=dV:=by
 have a:(op==CmpOp.In)=dV:=by cases op<;>first | rfl | exact absurd rfl h
 have d:(op==CmpOp.NotIn)=dV:=by cases op<;>first | rfl | exact absurd rfl I
 cases b<;>simp[vr,a,d]
def tB(t:TE):TT:=λb H Q=>t b H λx a=>∃c,x = .bl c/\Q c a
theorem du(h:PC X op a b t)(L:vr op b=dV:=by first | exact Y0 _ ⋯ ⋯ | rfl):PT X (.Compare a [op] [b] pos) (tB t):=by intro e s j H Q I i;refine wpAny_isTrue_Compare1 (kr (h e s j H _ I i) λv k L=>kr L λu l g=>kr g λc S z=>?_) L;obtain⟨x,f,B,J,O⟩:=z;obtain⟨d,rfl,q⟩:=O;cases J;exact tU ⟨f,B,q⟩
theorem dn(h:PE X e t)(he : ∀z,DN e X.env z=(do let v <- z;Dh e.pos;holding [v] (truthy v)):=by intro _;rfl):PT X e (tB t):=by intro a s g H Q I f;refine isTrue_plain (kr (h a s g H _ I f) λv i B=>?_)<|he _;obtain⟨x,b,J,O,S⟩:=B;obtain⟨d,rfl,q⟩:=S;cases O;exact tU ⟨b,J,q⟩
variable{tA Fe:TT}{rest:List g9}
noncomputable def mX(t u:TT):TT:=λb H Q=>t b H λc a=>if c=cT then u b a Q else Q dV a
noncomputable def Hr(t u:TT):TT:=λb H Q=>t b H λc a=>if c=cT then Q cT a else u b a Q
def oZ(t:TT):TT:=λb H Q=>t b H λc a=>Q (!c) a
theorem Z3(J:PT X a tA):PW X (.BoolOp .And [a] pos) tA:=by
 intro z b s d H Q I h;refine isTrue_and<|kr (J b s d H Q I h) λc f e=>?_;cases c with
 | true=>exact isTrue_and_nil e
 | false=>exact e
theorem VE(J:PT X a tA):PW X (.BoolOp .Or [a] pos) tA:=by
 intro z b s d H Q I h;refine isTrue_or<|kr (J b s d H Q I h) λc f e=>?_;cases c with
 | false=>exact isTrue_or_nil e
 | true=>exact e
theorem Xj(L:PT X a tA)(S:PW X (.BoolOp .And (b::rest) pos) Fe):PW X (.BoolOp .And (a::b::rest) pos) (mX tA Fe):=by
 intro J d s f H Q I h;refine isTrue_and<|kr (L d s f H _ I h) λc g O=>?_;obtain⟨e,z,B⟩:=O;cases c with
 | true=>exact S J d g f e Q z B
 | false=>exact⟨e,z,B⟩
theorem cY(L:PT X a tA)(S:PW X (.BoolOp .Or (b::rest) pos) Fe):PW X (.BoolOp .Or (a::b::rest) pos) (Hr tA Fe):=by
 intro J d s f H Q I h;refine isTrue_or<|kr (L d s f H _ I h) λc g O=>?_;obtain⟨e,z,B⟩:=O;cases c with
 | true=>exact⟨e,z,B⟩
 | false=>exact S J d g f e Q z B
theorem dq(ha:PT X a tA):PT X (.UnaryOp .Not a pos) (oZ tA):=by intro b s e H Q I h;exact isTrue_not<|ha b s e H (λc d=>Q (!c) d) I h
noncomputable def iE(ta tb:TE):TE:=λb H Q=>ta b H λx a=>∃c,x = .bl c/\if c=cT then tb b a Q else Q (.bl dV) a
noncomputable def iy(ta:TE):TE:=λb H Q=>ta b H λx a=>∃c,x = .bl c/\Q (.bl<|!c) a
theorem dH(h:PE X a t):PE X (.BoolOp op [a] pos) t:=λb s e H Q I d=>BoolOp_one<|h b s e H Q I d
theorem dO(L:PE X a ta)(S:PE X (.BoolOp .And (b::rest) pos) tb):PE X (.BoolOp .And (a::b::rest) pos) (iE ta tb):=by
 intro d s f H Q I h;refine BoolOp_and<|kr (L d s f H _ I h) λv g J=>?_;obtain⟨x,e,B,O,z⟩:=J;obtain⟨c,rfl,z⟩:=z;cases O;refine tU ?_;cases c with
 | true=>exact S d g f e Q B z
 | false=>exact⟨.bl dV,e,B,rfl,z⟩
theorem dJ(L:PE X a ta):PE X (.UnaryOp .Not a pos) (iy ta):=by intro b s e H Q I h;refine UnaryOp_<|kr (L b s e H _ I h) λv f B=>?_;obtain⟨x,d,J,O,z⟩:=B;obtain⟨c,rfl,z⟩:=z;cases O;exact not_of<|tU ⟨.bl<|!c,d,J,rfl,z⟩
noncomputable def FJ(t:TT)(ta tb:TE):TE:=λa H Q=>t a H λc b=>if c=cT then ta a b Q else tb a b Q
theorem YI(S:PT X c tA)(L:PE X a ta)(O:PE X b tb):PE X (.IfExp c a b pos) (FJ tA ta tb):=by
 intro e s f H Q I h;refine wpAny_IfExp<|kr (S e s f H _ I h) λd i J=>?_;obtain⟨g,z,B⟩:=J;cases d with
 | true=>exact L e i f g Q z B
 | false=>exact O e i f g Q z B
end
noncomputable def l8(K:rR)(H:Hp)(a:eH)(xs:List V):Prop:=
 Rd H a (.lst xs)\/
  ∃(o:n7) (z:Array eI) (n:Nat),K.lookup a=aI o/\o.cls = .type "list"/\o.dict=cI/\o.data = .seq z n/\z.size<=l4/\kA xs z.toList
noncomputable def mu(K:rR)(H:Hp)(a:eH)(xs:List V):Prop:=
 Rd H a (.tup xs)\/
  ∃(o:n7) (z:Array eI) (n:Nat),K.lookup a=aI o/\(o.cls,o.dict)=(Ae "tuple",cI)/\o.data = .seq z n/\z.size<=l4/\kA xs z.toList
noncomputable def rq:eI->Option V
 | .none=>aI .hI
 | .bool b=>aI (.bl b)
 | .int i _=>aI (.int i)
 | .str x _=>aI (.str x)
 | .bytes b _=>aI (.D1 b)
 | .float b _=>aI (.DJ b)
 | .ref a=>aI (.ref a)
 | .type n=>aI (.ty n)
 | _=>cI
theorem RelV.abs(r:RelV x u):rq u=aI x:=by
 cases x with
 | hI=>cases r;rfl
 | bl _=>cases r;rfl
 | int _=>obtain⟨t,rfl⟩:=r;rfl
 | str _=>obtain⟨t,rfl⟩:=r;rfl
 | D1 _=>obtain⟨t,rfl⟩:=r;rfl
 | DJ _=>obtain⟨t,rfl⟩:=r;rfl
 | ref _=>cases r;rfl
 | ty _=>cases r;rfl
theorem RelV.inj(r:RelV x u)(q:RelV y u):x=y:=sJ<|r.abs.symm.trans q.abs
theorem kA.inj : ∀{xs ys:List V} {us:List eI},kA xs us->kA ys us->xs=ys
 | _,_,_,.nil,.nil=>rfl
 | _,_,_,.cons r t,.cons r' t'=>by rw[r.inj r',kA.inj t t']
section
variable{X:Cx}{pins:GW}{σ:St}{H:Hp}{s:g8}{a:eH}{xs ys:List V}
theorem l8.of{K:rR}(h:H a=aI (.lst xs)):l8 K H a xs:= .inl (.inl h)
theorem mu.of{K:rR}(h:H a=aI (.tup xs)):mu K H a xs:= .inl (.inl h)
theorem Inv.list(I:Inv X pins σ H s)(h:l8 X.K H a xs) : ∃B:List eI,kA xs B/\PlainL s.heap a B.toArray/\xs.length<=l4:=by
 rcases h with h | ⟨o,B,n,J,hc,hd,hs,O,r⟩
 ·obtain⟨z,B,n,r,e⟩:=h.ok I.iv
  exact⟨B,r,⟨_,n,e,rfl,rfl,rfl⟩,z⟩
 ·refine⟨B.toList,r,⟨o,n,I.m4 a o J,hc,hd,by simpa using hs⟩,?_⟩
  have e:=r.length;simp only[uJ]at e;omega
theorem Inv.tuple(I:Inv X pins σ H s)(h:mu X.K H a xs) : ∃B:List eI,kA xs B/\Eo s.heap a B.toArray/\xs.length<=l4:=by
 rcases h with h | ⟨o,B,n,J,hc,hs,O,r⟩
 ·obtain⟨z,B,r,p⟩:=h.ok I.iv
  exact⟨B,r,p.tup,z⟩
 ·refine⟨B.toList,r,⟨o,I.m4 a o J,(Prod.mk.inj hc).1,n,by simpa using hs⟩,?_⟩
  have e:=r.length;simp only[uJ]at e;omega
theorem Inv.FD(I:Inv X pins σ H s)(h:l8 X.K H a xs)(h':l8 X.K H a ys):xs=ys:=by
 obtain⟨B,r,⟨o,n,e,_,_,d⟩,_⟩:=I.list h;obtain⟨b,J,⟨g,S,z,_,_,f⟩,_⟩:=I.list h';rw[e]at z;cases z;rw[d]at f;injection f with O _;have:B=b:=by simpa using congrArg Array.toList O
 subst this;exact r.inj J
theorem Inv.Gu(I:Inv X pins σ H s)(h:mu X.K H a xs)(h':mu X.K H a ys):xs=ys:=by
 obtain⟨B,r,⟨o,e,_,n,d⟩,_⟩:=I.tuple h;obtain⟨b,J,⟨g,z,_,S,f⟩,_⟩:=I.tuple h';rw[e]at z;cases z;rw[d]at f;injection f with O _;have:B=b:=by simpa using congrArg Array.toList O
 subst this;exact r.inj J
end
abbrev Cx.p7(X:Cx)(E:GQ):Cx:={X with xe:=E}
abbrev Cx.p3(X:Cx):Cx:=X.p7 λ_ _=>False
theorem Cx.Ok.p7{X:Cx}(ok:X.Ok)(E:GQ):(X.p7 E).Ok:=
 ⟨ok.mod,ok.kind,ok.glob,ok.blt,ok.above,ok.inj,ok.has,ok.D2,ok.hd,ok.frames,ok.Di,ok.EA,ok.bs,ok.Cr,ok.D9,ok.D6,ok.t5,ok.Cs⟩
theorem Cx.Ok.u7{X:Cx}{E:GQ}(ok:(X.p7 E).Ok):X.Ok:=
 ⟨ok.mod,ok.kind,ok.glob,ok.blt,ok.above,ok.inj,ok.has,ok.D2,ok.hd,ok.frames,ok.Di,ok.EA,ok.bs,ok.Cr,ok.D9,ok.D6,ok.t5,ok.Cs⟩
section
variable{X:Cx}{pins:GW}{σ:St}{H:Hp}{s:g8}{E:GQ}
theorem Inv.p7(I:Inv X pins σ H s)(E:GQ):Inv (X.p7 E) pins σ H s:=⟨I.ok.p7 E,I.os,I.bare,I.base,I.loc,I.cell,I.free,I.B0,I.pin,I.iv,I.len⟩
theorem Inv.u7(I:Inv (X.p7 E) pins σ H s):Inv X pins σ H s:=⟨I.ok.u7,I.os,I.bare,I.base,I.loc,I.cell,I.free,I.B0,I.pin,I.iv,I.len⟩
theorem SP.u7(h:SP (X.p7 E) pins D f s'):SP X pins D f s':=by
 cases f with
 | next=>obtain⟨a,b,I,q⟩:=h;exact⟨a,b,I.u7,q⟩
 | brk=>obtain⟨a,b,I,q⟩:=h;exact⟨a,b,I.u7,q⟩
 | cont=>obtain⟨a,b,I,q⟩:=h;exact⟨a,b,I.u7,q⟩
 | ret u=>obtain⟨v,a,b,I,r,q⟩:=h;exact⟨v,a,b,I.u7,r,q⟩
theorem ri.p3{st:List l7}{t:TS}(h:ri X.p3 st t):ri X st t:=λpins s σ H D I a=>
 sC (h pins s σ H D (I.p7 _) a) (λ_ _ q=>q.u7) λ_ _ z=>ue z
end
section
variable{X:Cx}{st:l7}{rest:List l7}{t u:TS}{e:g9}{te:TE}{pos:l0}
def Yi:TS:=λD a H=>D.nx a H
def Yh(t u:TS):TS:=λD a H=>t {D with nx:=u D} a H
theorem kx:ri X [] Yi:=λ_ _ a H _ I h=>Ax ⟨a,H,I,h⟩
theorem jF(J:PS X st t)(L:ri X rest u):ri X (st::rest) (Yh t u):=by
 intro a s g H D I h;refine uO<|kr (J a s g H {D with nx:=u D} I h) λf e q=>?_;cases f with
 | next=>
  obtain⟨b,d,z,q⟩:=q;exact L a e b d D z q
 | ret v=>exact q
 | brk=>exact q
 | cont=>exact q
theorem j0(J:PS X st t):ri X [st] t:=by
 intro a s b H D I h;refine uO<|kr (J a s b H D I h) λf d q=>?_;cases f with
 | next=>exact Ax q
 | ret v=>exact q
 | brk=>exact q
 | cont=>exact q
def iD:TS:=λD a H=>D.ct a H
theorem Z7:PS X (.Continue pos) iD:=λ_ _ a H _ I h=>wpAny_Continue ⟨a,H,I,h⟩
theorem Inv.quiet(I:Inv X pins σ H s):interactive X.env=dV:=by simp[interactive,I.ok.kind]
def iA(te:TE):TS:=λD a H=>te a H λ_ b=>D.nx a b
theorem Xx(L:PE X e te)(hs:B6 e cI pos.line X.env=pure dV:=by rfl):PS X (.Expr e pos) (iA te):=by intro a s b H D I h;exact wpAny_Expr_any (kr (L a s b H _ I h) λv f ⟨x,d,z,J,B⟩=>⟨b,d,z,B⟩) I.quiet hs
def fU(te:TE):TS:=λD a H=>te a H D.rt
theorem xo(L:PE X e te):PS X (.Return (aI e) pos) (fU te):=by intro a s b H D I h;exact wpAny_Return_some<|kr (L a s b H _ I h) λv f ⟨x,d,z,B,J⟩=>⟨x,b,d,z,B,J⟩
noncomputable def fV(c:TT)(t u:TS):TS:=λD a H=>c a H λb d=>if b=cT then t D a d else u D a d
theorem Xw(S:PT X c tc)(L:ri X a t)(O:ri X b u):PS X (.If c a b pos) (fV tc t u):=by
 intro e s f H D I h;refine wpAny_If<|kr (S e s f H _ I h) λd i J=>?_;obtain⟨g,z,B⟩:=J;cases d with
 | true=>exact L e i f g D z B
 | false=>exact O e i f g D z B
def vx:TS:=λ_ _ _=>False
theorem YA:PS X st vx:=λ_ _ _ _ _ _ h=>h.elim
theorem yw{I:List l7}:ri X I vx:=λ_ _ _ _ _ _ h=>h.elim
end
abbrev TG:=V->St->Hp->(St->Hp->Prop)->Prop
abbrev DW:=List V->St->Hp->(St->Hp->Prop)->Prop
noncomputable def PG(X:Cx)(z:g9)(t:TG):Prop:=
 ∀(a:GW) (s:g8) (e:St) (H:Hp) (v:V) (u:eI) (Q:St->Hp->Prop),Inv X a e H s->RelV v u->t v e H Q->
  wpAny (hR X.prog X.w) X.A (CZ z X.env u) (λ_ f=>∃b d,Inv X a b d f/\Q b d) X.xe s
noncomputable def Er(X:Cx)(I:List g9)(t:DW):Prop:=
 ∀(a:GW) (s:g8) (g:St) (H:Hp) (f:List V) (e:List eI) (Q:St->Hp->Prop),Inv X a g H s->kA f e->t f g H Q->
  wpAny (hR X.prog X.w) X.A (assignInOrder ((Dq I X.env).map (·.2)) e) (λ_ h=>∃b d,Inv X a b d h/\Q b d) X.xe s
abbrev oN:=V->V->V->Hp->(Hp->Prop)->Prop
noncomputable def oP(X:Cx)(t:oN):Prop:=
 ∀(a:GW) (s:g8) (d:St) (H:Hp) (o i v:V) (z B u:eI) (Q:Hp->Prop),Inv X a d H s->RelV o z->RelV i B->RelV v u->t o i v H Q->
  wpAny (hR X.prog X.w) X.A (setItem z B u) (λ_ e=>∃b,Inv X a d b e/\Q b) X.xe s
section
variable{X:Cx}{pos:l0}
def j4(i:Nat):TG:=λv a H Q=>Q (a.set i<|some v) H
theorem XH(z:X.N.Nodup)(L:X.N[i]? = aI x)(hx:Loc X.env.scope x)(J:X.fn x=cT\/X.env.scope.names.lookup x=aI .local:=by first | exact .inl rfl | exact .inr rfl | assumption):PG X (.Name x pos) (j4 i):=by intro a s d H v u Q I r h;exact Hz<|wa I z L hx r (λb B=>⟨_,H,B,h⟩) J
def nL:DW:=λa b H Q=>a=[]/\Q b H
noncomputable def ff(t:TG)(u:DW):DW:=λd e H Q=>∃v r,d=v::r/\t v e H λa b=>u r a b Q
theorem XG:Er X [] nL:=by intro a s b H f d Q I r h;obtain⟨e,h⟩:=h;subst e;cases r;exact assignInOrder_nil ⟨b,H,I,h⟩
theorem xP(L:PG X e t)(W:Er X es u)
 (hs:(Dq (e::es) X.env).map (·.2)=CZ e X.env::(Dq es X.env).map (·.2):=by rfl):Er X (e::es) (ff t u):=by
 intro a s g H j i Q I r h;obtain⟨v,U,d,h⟩:=h;subst d;cases r with
 | cons r z=>
  rw[hs];refine assignInOrder_cons<|kr (L a s g H _ _ _ I r h) λ_ f B=>?_;obtain⟨J,b,O,S⟩:=B;exact W a f J b _ _ Q O z S
noncomputable def nK(K:rR)(n:Nat)(t:DW):TG:=λv d H Q=>∃a b,v = .ref a/\mu K H a b/\b.length=n/\t b d H Q
theorem dD(L:X.calm=cT)(h:Er X es t)
 (Y:(Dq es X.env).length=n:=by rfl) (B:(Dq es X.env).findIdx? (·.1)=cI:=by rfl):PG X (.Tuple es k pos) (nK X.K n t):=by
 intro d s g H v u Q I r f;obtain⟨a,p,i,l,J,f⟩:=f;subst i;cases r;obtain⟨U,z,O,W⟩:=I.tuple l;refine assign_Tuple_tuple (I.ok.hd L) O (by simp[Y,<- J,z.length]) B λj m=>?_;have S:Inv X d g H {s with heap:=j}:=I.kept (t':=s.toks) λb o e=>m b o (sr<|sg e) e;exact h d _ g H p _ Q S (by simpa using z) f
noncomputable def pY(to z:TE)(t:oN):TG:=λv a H Q=>to a H λo b=>z a b λi d=>t o i v d λB=>Q a B
theorem dE(O:PE X o to)(Z:PE X i ti)(hs:oP X t)
 (L : ∀v,CZ (.Subscript o i pos) X.env v=(do
   let z <- holding [v] (hH o X.env);let B <- holding [v,z] (hH i X.env)
   Dh pos
   holding [v,z,B] (setItem z B v)
   release [v,z,B] []):=by intro _;rfl):PG X (.Subscript o i pos) (pY to ti t):=by
 intro a s b H v u Q I r h;rw[L];refine rS<|uf<|kr (O a s b H _ I h) λz m J=>?_;obtain⟨x,d,S,U,W⟩:=J;refine rS<|uf<|kr (Z a m b d _ S W) λB n J=>?_;obtain⟨y,e,Y,l,j⟩:=J;refine rS<|Cd<|rS<|uf<|kr (hs a n b e x y v z B u _ Y U l r j) λ_ p J=>?_;obtain⟨f,g,k⟩:=J;exact wpAny_release ⟨b,f,g,k⟩
def vy(I:TE)(g:TG):TS:=λD a H=>I a H λx b=>g x a b D.nx
theorem VO(W:PE X e te)(z:PG X tg g)(hs:Gm [tg] e pos.line X.env=pure dV:=by rfl)(Y:swappedStores [tg] e X.env=pure cI:=by rfl)
 (L:(Dq [tg] X.env).map (·.2)=[CZ tg X.env]:=by rfl):PS X (.Assign [tg] e pos) (vy te g):=by
 intro a s b H D I h;refine wpAny_Assign_stores (kr (W a s b H _ I h) λv f B=>?_) hs Y;obtain⟨x,d,J,O,S⟩:=B;rw[L];exact kr (z a f b d x v _ J O S) λ_ i q=>q
theorem VM(z:X.N.Nodup)(Y:X.N[i]? = aI x)(hx:Loc X.env.scope x)(L:PE X e te)(hs:B6 e (aI (.Name x pos')) pos.line X.env=pure dV:=by rfl)(W:X.fn x=cT\/X.env.scope.names.lookup x=aI .local:=by first | exact .inl rfl | exact .inr rfl | assumption) :
 PS X (.Assign [.Name x pos'] e pos) (vy te<|j4 i):=by
 intro a s d H D I h;refine wpAny_Assign_Name (kr (L a s d H _ I h) λv f B=>?_) hs;obtain⟨y,b,J,O,S⟩:=B;exact wa J z Y hx O (λg U=>⟨_,b,U,S⟩) W
end
structure It where
 go:Nat->Hp->Prop
 CS:Nat->Hp->V->Hp->Prop
 stop:Nat->Hp->Prop
noncomputable def kW(X:Cx)(I:GW)(H:Hp)(b:eH):Prop:=
 H b=cI/\b≠X.env.locals/\b∉X.fs/\(b∈X.ex\/X.m5.heap.objs.size<=b)/\(∀x c,X.env.cells.lookup x=aI c->c≠b)/\∀p∈X.pn++I,p.1≠b
theorem Inv.C6(I:Inv X pins σ H s)(J:s.heap.objs.size<=b)(L:H' b=cI):kW X pins H' b:=by
 refine⟨L,uB<|si I.lt J,I.Hg J,.inr<|sF I.sz J,λx c e z=>?_,λp a z=>?_⟩
 ·obtain⟨v,q⟩:=I.cell x c e
  exact absurd (si q.lt<|by rw[z];exact J)<|ur _
 ·exact absurd (si (sg (I.pin p a).1)<|by rw[z];exact J)<|ur _
structure Turn(P:m3)(w:l6)(K:rR)(tg:g9)(J:It)(fp:List eH)(it:eH)(tn:Nat->il->Prop):Prop where
 mem:it∈fp
 obj : ∀i h,tn i h->∀b∈fp,∃o,h.get? b=aI o/\∀v,o.data ≠ .cell v
 keep : ∀i h h',tn i h->(∀b∈fp,∀o,h.get? b=aI o->h'.get? b=aI o)->tn i h'
 item : ∀(X:Cx),X.prog=P->X.w=w->X.K=K->X.calm=cT->∀(i:Nat) (pins:GW) (s:g8) (σ:St) (H:Hp) (E:GQ),Inv X pins σ H s->(∀b∈fp,kW X pins H b)->tn i s.heap->J.go i H->
  wpAny (hR P w) X.A (Ea<|.ref it) (λr s1=>∃u,r=aI u/\
   wpAny (hR P w) X.A (EC tg (.ref it) u) (λ_ s2=>∃x H',Inv X pins σ H' s2/\RelV x u/\J.CS i H x H'/\tn (i+1) s2.heap/\∀b∈fp,H' b=cI) E s1) E s
 done : ∀(X:Cx),X.prog=P->X.w=w->X.K=K->X.calm=cT->∀(i:Nat) (pins:GW) (s:g8) (σ:St) (H:Hp) (E:GQ),Inv X pins σ H s->(∀b∈fp,kW X pins H b)->tn i s.heap->J.stop i H->
  wpAny (hR P w) X.A (Ea<|.ref it) (λr s1=>r=cI/\Inv X pins σ H s1) E s
 self : ∀(A:m7) (i:Nat) (s:g8) (Q:GQ) (E:GQ),tn i s.heap->Q (.ref it) s->wpAny (hR P w) A (Fb<|.ref it) Q E s
abbrev TI:=St->Hp->(It->Hp->Prop)->Prop
noncomputable def FZ(X:Cx)(I:GW)(S:St)(O:g9)(R:It->Hp->Prop)(z:eI)(L:g8):Prop:=
 ∃(e:eH) (d:List eH) (f:Nat->il->Prop) (J:It) (a:Hp),z = .ref e/\Inv X I S a L/\Turn X.prog X.w X.K O J d e f/\f 0 L.heap/\(∀b∈d,kW X I a b)/\R J a
noncomputable def PI(X:Cx)(J I:g9)(L:TI):Prop:=
 ∀(a:GW) (s:g8) (b:St) (H:Hp) (R:It->Hp->Prop),Inv X a b H s->L b H R->
  wpAny (hR X.prog X.w) X.A (hH I X.env) (λv d=>wpAny (hR X.prog X.w) X.A (Fb v) (FZ X a b J R) X.xe d) X.xe s
theorem Vb(B:s.heap.get? it=aI o)(I:o.cls = .type n)(J:o.data = .fields vs)
 (L:["enumerate","zip","dict_itemiterator","dict_reverseitemiterator","odict_iterator","itertools.zip_longest","itertools.pairwise"].contains n=dV) (z:Q () s):wpAny M A (EC tg (.ref it) u) Q E s:=by
 unfold EC;cases tg<;>first
  | exact rW z
  | (cases u<;>first
      | exact rW z
      | (refine rS (wpAny_load B ?_)
         rw[I,J];show wpAny M A (if (["enumerate","zip","dict_itemiterator","dict_reverseitemiterator","odict_iterator","itertools.zip_longest","itertools.pairwise"].contains n && vs[0]? == aI (Dv _))=cT then _ else _) Q E s;rw[GX (by intro h;rw[L,Bool.false_and]at h;cases h)];exact rW z))
noncomputable def FX(K:rR)(a:eH):It:=
 ⟨λi H=>∃b x,l8 K H a b/\b[i]? = aI x,λi H x d=>d=H/\∀b,l8 K H a b->b[i]? = aI x,λi H=>∃b,l8 K H a b/\b.length<=i⟩
noncomputable def FY(K:rR)(a:eH):It:=
 ⟨λi H=>∃b x,mu K H a b/\b[i]? = aI x,λi H x d=>d=H/\∀b,mu K H a b->b[i]? = aI x,λi H=>∃b,mu K H a b/\b.length<=i⟩
noncomputable def Dm(lo:Int)(n:Nat):It:=⟨λi _=>i<n,λi H x a=>a=H/\x = .int (lo+i),λi _=>n<=i⟩
theorem QV{P:m3}{w:l6}{K:rR}{tg:g9}(a it:eH):Turn P w K tg (FX K a) [it] it (λi h=>h.IsListIter it a i) where
 mem:=by simp
 obj:=λi h st b hb=>by
  have e:b=it:=by simpa using hb
  subst e;obtain⟨o,e,c,d⟩:=st;exact⟨o,e,λv z=>by rw[d]at z;cases z⟩
 keep:=λi h h' st k=>st.at λo e=>k it ⋯ o e
 item:=by intro X B hw J hc i pins s σ H E I hf st O;subst B hw J;obtain⟨xs,x,hq,hx⟩:=O;obtain⟨a3,S,p,hz⟩:=I.list hq;obtain⟨u,hu,ru⟩:=S.get hx;obtain⟨U,f1,f2,W,Y,f5⟩:=hf it ⋯;refine wpAny_pyNext_list_item st p.isList (x:=u) (by simpa using hu) λh' a2 sb=>?_;have I1:Inv X pins σ H {s with heap:=h'}:=I.turned (t':=s.toks) (λb o hb e=>(sb.2 b hb).trans e) U f1 W Y f5;obtain⟨o,e,c,d⟩:=id a2;exact⟨u,rfl,Vb (s:={s with heap:=h'}) e c d ⋯ ⟨x,H,I1,ru,⟨rfl,λys hy=>by rw[I.FD hy hq];exact hx⟩,a2,λb hb=>(hf b hb).1⟩⟩
 done:=by intro X B hw J hc i pins s σ H E I hf st O;subst B hw J;obtain⟨xs,hq,hx⟩:=O;obtain⟨a3,S,p,hz⟩:=I.list hq;obtain⟨U,f1,f2,W,Y,f5⟩:=hf it ⋯;have hl:=S.length;exact wpAny_pyNext_list_end (I.ok.hd hc) st p.isList (by simp;omega) λh' eb=>⟨rfl,I.turned (t':=s.toks) (λb o hb e=>eb b o hb e) U f1 W Y f5⟩
 self:=λ_ _ _ _ _ st h=>wpAny_pyIter_listiter st h
theorem JZ{P:m3}{w:l6}{K:rR}{tg:g9}(a it:eH):Turn P w K tg (FY K a) [it] it (λi h=>h.IsTupleIter it a i) where
 mem:=by simp
 obj:=λi h st b hb=>by
  have e:b=it:=by simpa using hb
  subst e;obtain⟨o,e,c,d⟩:=st;exact⟨o,e,λv z=>by rw[d]at z;cases z⟩
 keep:=λi h h' st k=>st.at λo e=>k it ⋯ o e
 item:=by intro X B hw J hc i pins s σ H E I hf st O;subst B hw J;obtain⟨xs,x,hq,hx⟩:=O;obtain⟨S,U,p,hz⟩:=I.tuple hq;obtain⟨u,hu,ru⟩:=U.get hx;obtain⟨W,f1,f2,Y,f4,f5⟩:=hf it ⋯;refine wpAny_pyNext_tuple_item st (show s.heap.IsTuple a S.toArray from p) (x:=u) (by simpa using hu) λh' a3 sb=>?_;have I1:Inv X pins σ H {s with heap:=h'}:=I.turned (t':=s.toks) (λb o hb e=>(sb.2 b hb).trans e) W f1 Y f4 f5;obtain⟨o,e,c,d⟩:=id a3;exact⟨u,rfl,Vb (s:={s with heap:=h'}) e c d ⋯ ⟨x,H,I1,ru,⟨rfl,λys hy=>by rw[I.Gu hy hq];exact hx⟩,a3,λb hb=>(hf b hb).1⟩⟩
 done:=by intro X B hw J hc i pins s σ H E I hf st O;subst B hw J;obtain⟨xs,hq,hx⟩:=O;obtain⟨S,U,p,hz⟩:=I.tuple hq;obtain⟨W,f1,f2,Y,f4,f5⟩:=hf it ⋯;have hl:=U.length;exact wpAny_pyNext_tuple_end (I.ok.hd hc) st (show s.heap.IsTuple a S.toArray from p) (by simp;omega) λh' eb=>⟨rfl,I.turned (t':=s.toks) (λb o hb e=>eb b o hb e) W f1 Y f4 f5⟩
 self:=λ_ _ _ _ _ st h=>wpAny_pyIter_tupleiter st h
theorem J0{P:m3}{w:l6}{K:rR}{tg:g9}(it:eH)(lo:Int)(n:Nat):Turn P w K tg (Dm lo n) [it] it (λi h=>IsRangeIter h it (lo+(i:Nat)*1) ((n:Int) - (i:Nat)) 1) where
 mem:=by simp
 obj:=λi h st b hb=>by
  have e:b=it:=by simpa using hb
  subst e;exact⟨_,st,λv z=>by have z':Data.fields _=Data.cell v:=z;cases z'⟩
 keep:=λi h h' st k=>k it ⋯ _ st
 item:=by intro X B hw J hc i pins s σ H E I hf st O;subst B hw J;obtain⟨S,f1,f2,U,Y,f5⟩:=hf it ⋯;have W:=Walks.range (prog:=X.prog) (w:=X.w) (I.ok.hd hc) it lo 1 n;refine W.item i s _ _ O st λv h' tk hv a2 kk=>?_;obtain⟨t,rfl⟩:=hv;have I1:Inv X pins σ H {s with heap:=h',toks:=tk}:=I.turned (λb o hb e=>kk b o (by simpa using hb) e) S f1 U Y f5;refine⟨_,rfl,Vb (s:={s with heap:=h',toks:=tk}) (n:="range_iterator") a2 rfl rfl ⋯ ⟨.int (lo+i),H,I1,⟨t,?_⟩,⟨rfl,rfl⟩,a2,λb hb=>(hf b hb).1⟩⟩;rw[Int.mul_one]
 done:=by intro X B hw J hc i pins s σ H E I hf st O;subst B hw J;obtain⟨S,f1,f2,U,Y,f5⟩:=hf it ⋯;exact wpAny_pyNext_range_end (I.ok.hd hc) st (by have:n<=i:=O;omega) λh' eb=>⟨rfl,I.turned (t':=s.toks) (λb o hb e=>eb b o hb e) S f1 U Y f5⟩
 self:=λ_ _ _ _ _ st h=>wpAny_pyIter_rangeiter st h
section
variable{X:Cx}{tg:g9}
theorem JB{O:GW}{W:St}{H:Hp}{s:g8}{R:It->Hp->Prop}{E:GQ}{lo L:Int}{t u v:ro}{S:Nat}(I:Inv X O W H s)(Y : -(2 ^ 62)<=lo)(Z:lo<2 ^ 62)(B : -(2 ^ 62)<=L)(J:L<2 ^ 62)
 (q:R (Dm lo (L - lo).toNat) H):wpAny (hR X.prog X.w) X.A (Fb (.ref s.heap.objs.size)) (FZ X O W tg R) E {s with heap:=s.heap.push {cls:= .type "range",data:= .fields #[.int lo t,.int L u,.int 1 v]},toks:=S}:=by
 refine wpAny_pyIter_range (IsRange.new ..) (small_one Y Z B J) ?_;have z:Inv X O W H {s with heap:=s.heap.push {cls:= .type "range",data:= .fields #[.int lo t,.int L u,.int 1 v]},toks:=S}:=I.kept λb o e=>rT _ e;refine⟨(s.heap.push {cls:= .type "range",data:= .fields #[.int lo t,.int L u,.int 1 v]}).objs.size,[(s.heap.push {cls:= .type "range",data:= .fields #[.int lo t,.int L u,.int 1 v]}).objs.size],_,_,H,rfl,
  z.kept (t':=S) λb o e=>rT _ e,J0 _ lo (L - lo).toNat,?_,λb f=>?_,q⟩
 ·have a:lo+((0:Nat):Int)*1=lo:=by simp
  have d:(((L - lo).toNat:Nat):Int) - ((0:Nat):Int)=Builtin.Range.rangeSize lo L 1:=by rw[rangeSize_one];split<;>omega
  show IsRangeIter _ _ (lo+((0:Nat):Int)*1) ((((L - lo).toNat:Nat):Int) - ((0:Nat):Int)) 1;rw[a,d];exact se _ rfl
 ·have e:b=(s.heap.push {cls:= .type "range",data:= .fields #[.int lo t,.int L u,.int 1 v]}).objs.size:=by simpa using f
  subst e;exact z.C6 (sf _)<|z.iv.fresh<|sf _
noncomputable def lB(I:TA):TI:=λd H R=>I d H λb a=>∃j:Int,b=[.int j]/\ -(2 ^ 62)<=j/\j<2 ^ 62/\R (Dm 0 j.toNat) a
noncomputable def lA(I:TA):TI:=λd H R=>I d H λb a=>∃i j:Int,b=[.int i,.int j]/\(-(2 ^ 62)<=i/\i<2 ^ 62/\ -(2 ^ 62)<=j/\j<2 ^ 62)/\R (Dm i (j - i).toNat) a
theorem XF{a:g9}{L:TA}{p pos:l0}(B:Gl X "range")(Z:X.mg "range" = cI)(Y:PA X [a] L)(hs:lp [a] X.env=[(dV,hH a X.env)]:=by rfl):PI X tg (.Call (.Name "range" p) [a] [] pos) (lB L):=by
 intro b s d H R I h;refine Call_<|jP I B Z boot_range<|tq (kr (Y pos b s d H _ I h) λi g J=>?_) hs rfl;obtain⟨k,f,O,S,z⟩:=J;obtain⟨j,e,z,U,q⟩:=z;subst e;cases S with
 | cons r W=>
  cases W;obtain⟨t,rfl⟩:=r;exact call_range_1 (JB O ⋯ ⋯ z U<|by simpa using q)
theorem XE(O:Gl X "range")(Z:X.mg "range" = cI)(L:PA X [a,b] ta)(hs:lp [a,b] X.env=[(dV,hH a X.env),(dV,hH b X.env)]:=by rfl)(J:lp [b] X.env=[(dV,hH b X.env)]:=by rfl) :
 PI X tg (.Call (.Name "range" p) [a,b] [] pos) (lA ta):=by
 intro d s l H R I h;refine Call_ (jP I O Z boot_range<|tq (kr (L pos d s l H _ I h) λu n S=>?_) (by rw[hs,J])<|by rw[J];rfl);obtain⟨w,m,U,W,z⟩:=S;obtain⟨i,j,e,⟨z,Y,f,g⟩,q⟩:=z;subst e;cases W with
 | cons r B=>
  cases B with
  | cons k B=>
   cases B;obtain⟨t,rfl⟩:=r;obtain⟨o,rfl⟩:=k;exact call_range_2<|JB U z Y f g q
noncomputable def pd(L:TI)(g:TG)(I:TS):TS:=λD a H=>L a H λJ f=>∃W:Nat->Nat->St->Hp->Prop,(∃m,W 0 m a f)/\∀i m a H,W i m a H->
 (J.stop i H/\D.nx a H)\/(J.go i H/\∃N:St->Hp->Prop,(∀d b,N d b->∃e,e<m/\W (i+1) e d b)/\∀x b,J.CS i H x b->g x a b λz h=>I {D with nx:=N,ct:=N,bk:=D.nx} z h)
noncomputable def Zk(fp:List eH)(h:il):List (eH×n7):=fp.filterMap λb=>(h.get? b).map λo=>(b,o)
theorem qZ(I:b∈fp)(e:h.get? b=aI o):(b,o)∈Zk fp h:=AQ.mpr ⟨b,I,by rw[e];rfl⟩
theorem XX(I:p∈Zk fp h):p.1∈fp/\h.get? p.1=aI p.2:=by
 obtain⟨b,a,e⟩:=AQ.mp I;cases q:h.get? b with
 | none=>rw[q]at e;cases e
 | some o=>
  rw[q]at e;have z:(b,o)=p:=sJ e;subst z;exact⟨a,q⟩
theorem Inv.pinned(I:Inv X pins σ H s)(L : ∀b∈fp,kW X pins H b)(J : ∀b∈fp,∃o,s.heap.get? b=aI o/\∀v,o.data ≠ .cell v):Inv X (pins++Zk fp s.heap) σ H s:=
 I.E9 λp f=>(List.mem_append.mp f).elim (λz=>I.pin p<|sj _ z) λz=>by obtain⟨a,e⟩:=XX z;obtain⟨O,f1,S,_⟩:=L p.1 a;obtain⟨o,B,d⟩:=J p.1 a;rw[e]at B;cases B;exact⟨e,O,f1,S,d⟩
theorem Inv.EK(I:Inv X (pins++pl) σ H s):Inv X pins σ H s:=I.E9 λp a=>I.pin p<|sj _<|Bu _ a
theorem dw(Z:F2 (hR X.prog X.w) X.A X.env X.xe)(hc:X.calm=cT)(hi:PI X tg iter wi)(hg:PG X tg g)(L:ri X body tb)
 (hs : ∀x,A3 iter X.env x=pure x:=by intro _;rfl):PS X (.For tg iter body [] pos) (pd wi g tb):=by
 intro a s σ H D I h;refine wpAny_For (kr (hi a s σ H _ I h) λv s1 h1=>kr h1 λc1 s2 h2=>?_) hs;obtain⟨it,l,tn,J,H2,e,I2,T,ap,f2,W,⟨m0,w0⟩,b0⟩:=h2;subst e;have E : ∀{k:Hp},(∀b∈l,k b=cI)->∀b∈l,kW X a k b:=λhn b L=>⟨hn b L,(f2 b L).2⟩;refine codeAny_forLoop_any (λn s'=>∃i j k,Inv X a j k s'/\tn i s'.heap/\(∀b∈l,k b=cI)/\W i n j k) ?_ m0 ⟨0,σ,H2,I2,ap,λb L=>(f2 b L).1,w0⟩;rintro n s3 ⟨i,Y,C,Q,t,R,w3⟩;rcases b0 i n Y C w3 with⟨y,qn⟩ | ⟨go,N,hN,step⟩
 ·refine AU Z (kr (T.done X rfl rfl rfl hc i a s3 Y C X.xe Q (E R) t y) λr s4 U=>?_)
  obtain⟨G,I4⟩:=U;subst G;exact Ax ⟨Y,C,I4,qn⟩
 ·refine AU Z (kr (T.item X rfl rfl rfl hc i a s3 Y C X.xe Q (E R) t go) λr s4 U=>?_)
  obtain⟨u,G,h4⟩:=U;subst G;refine AU Z<|kr h4 λ_ s5 U=>?_;obtain⟨x,P,I5,r5,y5,F,bb⟩:=U;have bd:=I5.pinned (E bb)<|T.obj _ _ F;refine AU Z<|kr (hg _ s5 Y P x u _ bd r5<|step x P y5) λ_ s6 U=>?_;obtain⟨M,H6,I6,q6⟩:=U;refine AU Z<|kr (L _ s6 M H6 _ I6 q6) λf K S=>?_;have again : ∀{z:St} {B:Hp},Inv X (a++Zk l s5.heap) z B K->N z B->∃m,m<n/\∃i j k,Inv X a j k K/\tn i K.heap/\(∀b∈l,k b=cI)/\W i m j k:=λ{z B} O p=>by obtain⟨m',hm,w7⟩:=hN z B p;refine⟨m',hm,i+1,z,B,O.EK,T.keep _ _ _ F λb L o e=>(O.pin (b,o)<|sj _<|sj _<|qZ L e).1,λb L=>?_,w7⟩;obtain⟨o,e,d⟩:=T.obj _ _ F b L;exact(O.pin (b,o)<|sj _<|sj _<|qZ L e).2.1
  cases f with
  | next=>obtain⟨z,B,O,p⟩:=S;exact again O p
  | cont=>obtain⟨z,B,O,p⟩:=S;exact again O p
  | brk=>obtain⟨z,B,O,S⟩:=S;exact⟨z,B,O.EK,S⟩
  | ret v=>obtain⟨x7,z,B,O,r7,S⟩:=S;exact⟨x7,z,B,O.EK,r7,S⟩
end
theorem ZD{lo:Int}{n:Nat}{g:TG}{Z:TS}{D:Ends}{L:St}{H:Hp}(z:Nat->St->Hp->Prop)(h0:z 0 L H)
 (hs : ∀i L H,i<n->z i L H->g (.int<|lo+i) L H λB S=>Z {D with nx:=z<|i+1,ct:=z<|i+1,bk:=D.nx} B S) (hd : ∀L H,z n L H->D.nx L H) :
 ∃W:Nat->Nat->St->Hp->Prop,(∃m,W 0 m L H)/\∀i m L H,W i m L H->
  ((Dm lo n).stop i H/\D.nx L H)\/((Dm lo n).go i H/\∃N:St->Hp->Prop,(∀O H',N O H'->∃Y,Y<m/\W (i+1) Y O H')/\∀x H',(Dm lo n).CS i H x H'->g x L H' λB S=>Z {D with nx:=N,ct:=N,bk:=D.nx} B S):=by
 refine⟨λi m L H=>m=n - i/\i<=n/\z i L H,⟨n,by simp,uv _,h0⟩,?_⟩;rintro i m L H ⟨rfl,a,p⟩;by_cases I:i<n
 ·refine .inr ⟨I,z<|i+1,λO H' J=>⟨n - (i+1),by omega,rfl,I,J⟩,λx H' y=>?_⟩
  obtain⟨e,y⟩:=y;subst e y;exact hs i L _ I p
 ·have e:i=n:=by omega
  subst e;exact .inl ⟨sf _,hd L H p⟩
abbrev R2:=V->V->Hp->VK->Prop
noncomputable def m6(X:Cx)(f:eI->eI->oD eI)(r:R2):Prop:=
 ∀(a:GW) (s:g8) (b:St) (H:Hp) (x y:V) (v u:eI) (Q:VK),Inv X a b H s->RelV x v->RelV y u->r x y H Q->
  wpAny (hR X.prog X.w) X.A (f v u) (EP X a b Q) X.xe s
noncomputable def Fn(X:Cx)(f:eI->oD eI)(r:V->Hp->VK->Prop):Prop:=
 ∀(a:GW) (s:g8) (b:St) (H:Hp) (x:V) (v:eI) (Q:VK),Inv X a b H s->RelV x v->r x H Q->
  wpAny (hR X.prog X.w) X.A (f v) (EP X a b Q) X.xe s
noncomputable def y9(X:Cx)(f:eI)(r:List V->Hp->VK->Prop):Prop:=
 ∀(a:GW) (s:g8) (e:St) (H:Hp) (d:List V) (b:List eI) (Q:VK),Inv X a e H s->kA d b->r d H Q->
  wpAny (hR X.prog X.w) X.A (call f b) (EP X a e Q) X.xe s
noncomputable def rz(X:Cx)(r:V->Hp->(Bool->Hp->Prop)->Prop):Prop:=
 ∀(a:GW) (s:g8) (b:St) (H:Hp) (x:V) (v:eI) (Q:Bool->Hp->Prop),Inv X a b H s->RelV x v->r x H Q->
  wpAny (hR X.prog X.w) X.A (truthy v) (TP X a b Q) X.xe s
noncomputable def Ef(r:R2)(I J:TE):TE:=λa H Q=>I a H λx b=>J a b λy d=>r x y d Q
noncomputable def Hu(r:V->Hp->VK->Prop)(I:TE):TE:=λb H Q=>I b H λx a=>r x a Q
noncomputable def rI(C:Int->Int->Prop)(g:Int->Int->V):R2:=λx y H Q=>∃i j,x = .int i/\y = .int j/\C i j/\Q (g i j) H
noncomputable def A5(g:Int->Int->V):R2:=λx y H Q=>∃i j,x = .int i/\y = .int j/\Q (g i j) H
noncomputable def rU(g:Int->V):V->Hp->VK->Prop:=λx H Q=>∃i,x = .int i/\Q (g i) H
section
variable{X:Cx}{a b c:g9}{ta tb tc:TE}{pos:l0}
theorem lW(ha:PE X a ta)(hb:PE X b tb){L:GW}{s:g8}{σ:St}{H:Hp}{R:V->V->Hp->Prop}(I:Inv X L σ H s)
 (h:ta σ H λx H1=>tb σ H1 λy Z=>R x y Z) {Q:GQ} {f:eI->eI->oD eI}
 (hf : ∀v u s2 x y Z,Inv X L σ Z s2->RelV x v->RelV y u->R x y Z->wpAny (hR X.prog X.w) X.A (f v u) Q X.xe s2) :
 wpAny (hR X.prog X.w) X.A (hH a X.env) (λv B=>wpAny (hR X.prog X.w) X.A (hH b X.env) (λu J=>wpAny (hR X.prog X.w) X.A (f v u) Q X.xe J) X.xe B) X.xe s:=by
 refine kr (ha L s σ H _ I h) λv e z=>?_;obtain⟨x,H1,O,S,U⟩:=z;refine kr (hb L e σ H1 _ O U) λu s2 z=>?_;obtain⟨y,Z,W,Y,d⟩:=z;exact hf v u s2 x y Z W S Y d
theorem YG{z:Operator}{r:R2}(B:m6 X (B4 z) r)(L:PE X a ta)(W:PE X b tb):PE X (.BinOp a z b pos) (Ef r ta tb):=by intro d s g H Q I h;exact wpAny_BinOp<|lW L W I h λv u f x y e J O S q=>B d f g e x y v u Q J O S q
theorem lh(z:Fn X (unaryOp op) r)(L:PE X a ta):PE X (.UnaryOp op a pos) (Hu r ta):=by intro b s d H Q I h;exact UnaryOp_<|kr (L b s d H _ I h) λv f ⟨x,e,B,J,O⟩=>z b f d e x v Q B J O
theorem E7{f:eI->eI->oD eI}{C:Int->Int->Prop}{g:Int->Int->Int}
 (rule : ∀(i j:Int) (t u:ro) (s:g8) (Q:GQ) (E:GQ),C i j->Q (.int (g i j) s.toks) {s with toks:=s.toks+1}->wpAny (hR X.prog X.w) X.A (f (.int i t)<|.int j u) Q E s) :
 m6 X f (rI C λi j=> .int (g i j)):=by
 intro a s e H x y v u Q I z B h;obtain⟨i,j,rfl,rfl,b,q⟩:=h;obtain⟨t,rfl⟩:=z;obtain⟨d,rfl⟩:=B;exact rule i j t d s _ _ b ⟨.int<|g i j,H,I.tok _,⟨_,rfl⟩,q⟩
theorem nB{f:eI->eI->oD eI}{g:Int->Int->Int}
 (rule : ∀(i j:Int) (t u:ro) (s:g8) (Q:GQ) (E:GQ),Q (.int (g i j) s.toks) {s with toks:=s.toks+1}->wpAny (hR X.prog X.w) X.A (f (.int i t)<|.int j u) Q E s) :
 m6 X f (A5 λi j=> .int (g i j)):=by
 intro a s d H x y v u Q I z B h;obtain⟨i,j,rfl,rfl,q⟩:=h;obtain⟨t,rfl⟩:=z;obtain⟨b,rfl⟩:=B;exact rule i j t b s _ _ ⟨.int<|g i j,H,I.tok _,⟨_,rfl⟩,q⟩
theorem gb{f:eI->eI->oD eI}{g:Int->Int->Bool}
 (rule : ∀(i j:Int) (t u:ro) (s:g8) (Q:GQ) (E:GQ),Q (.bool<|g i j) s->wpAny (hR X.prog X.w) X.A (f (.int i t)<|.int j u) Q E s) :
 m6 X f (A5 λi j=> .bl (g i j)):=by
 intro a s d H x y v u Q I z B h;obtain⟨i,j,rfl,rfl,q⟩:=h;obtain⟨t,rfl⟩:=z;obtain⟨b,rfl⟩:=B;exact rule i j t b s _ _ ⟨.bl<|g i j,H,I,rfl,q⟩
def oS(i j:Int):Prop:=0<j/\j<1073741824
def oR(i j:Int):Prop:=0<=j/\j<=1000000/\i.natAbs<2 ^ 64
noncomputable def DV(i j:Int):Prop:=(-(2 ^ 64)<i/\i<2 ^ 64)\/(-(2 ^ 64)<j/\j<2 ^ 64)
theorem DV.ok(h:DV i j):IntMulOk i j:=by
 rcases h with⟨a,b⟩ | ⟨a,b⟩
 ·exact .of_left<|intBits_le_64 a b
 ·exact .of_right<|intBits_le_64 a b
theorem Hh:m6 X (B4 .Add) (A5 λi j=> .int (i+j)):=nB λ_ _ _ _ _ _ _ q=>add_int q
theorem dS:m6 X (B4 .Sub) (A5 λi j=> .int (i - j)):=nB λ_ _ _ _ _ _ _ q=>sub_int q
theorem Hi:m6 X (B4 .Mult) (rI DV λi j=> .int (i*j)):=E7 λ_ _ _ _ _ _ _ a q=>mul_int q a.ok
theorem ag:m6 X (B4 .FloorDiv) (rI oS λi j=> .int (i/j)):=E7 λi j _ _ _ _ _ a q=>by have b:(0:Int)<j:=a.1;have d:j<1073741824:=a.2;exact floordiv_int ⋯ (by rw[Int.fdiv_eq_ediv_of_nonneg i ⋯];exact q)<|.inl<|PyProof.noPylong_small ⋯
theorem dX:m6 X (B4 .Mod) (rI (λ_ j=>0<j) λi j=> .int (i%j)):=E7 λi j _ _ _ _ _ a q=>by have b:(0:Int)<j:=a;exact mod_int' ⋯ (by rw[Int.fmod_eq_emod_of_nonneg i ⋯];exact q)
theorem dW:m6 X (B4 .Pow) (rI oR λi j=> .int (i ^ j.toNat)):=E7 λ_ _ _ _ _ _ _ a q=>pow_int_small a.1 a.2.1 a.2.2 q
theorem Hw{f:eI->oD eI}{g:Int->Int}
 (rule : ∀(i:Int) (t:ro) (s:g8) (Q:GQ) (E:GQ),Q (.int (g i) s.toks) {s with toks:=s.toks+1}->wpAny (hR X.prog X.w) X.A (f<|.int i t) Q E s) :
 Fn X f (rU λi=> .int (g i)):=by
 intro a s b H x v Q I z h;obtain⟨i,rfl,q⟩:=h;obtain⟨t,rfl⟩:=z;exact rule i t s _ _ ⟨.int<|g i,H,I.tok _,⟨_,rfl⟩,q⟩
theorem bU:Fn X (unaryOp .USub) (rU λi=> .int (-i)):=Hw λ_ _ _ _ _ q=>neg_int q
end
section
variable{X:Cx}{a b c:g9}{ta tb tc:TE}{pos:l0}
theorem Wh(I:Inv X pins σ H s)(q:Q (.bl k) H)(e:k=k'):EP X pins σ Q (.bool k') s:=by subst e;exact⟨.bl k,H,I,rfl,q⟩
theorem dY:m6 X (p5 .Lt) (A5 λi j=> .bl (decide<|i<j)):=gb λ_ _ _ _ _ _ _ q=>lt_int q
theorem Qj:m6 X (p5 .LtE) (A5 λi j=> .bl (decide<|i<=j)):=gb λ_ _ _ _ _ _ _ q=>le_int q
theorem dZ:m6 X (p5 .Gt) (A5 λi j=> .bl (decide<|j<i)):=gb λ_ _ _ _ _ _ _ q=>gt_int q
theorem lq:m6 X (p5 .GtE) (A5 λi j=> .bl (decide<|j<=i)):=gb λ_ _ _ _ _ _ _ q=>ge_int q
theorem XQ:m6 X (p5 .In) (λx y H Q=>∃i j,x = .str i/\y = .str j/\Q (.bl<|!(ud j i 0 j.length 1).isEmpty) H):=by intro a s d H x y v u Q I z B h;obtain⟨i,j,rfl,rfl,q⟩:=h;obtain⟨t,rfl⟩:=z;obtain⟨b,rfl⟩:=B;exact in_str<|Wh I q rfl
theorem XO:m6 X (p5 .Is) (λx y H Q=>y = .hI/\Q (.bl<|decide<|x = .hI) H):=by
 intro a s b H x y v u Q I z B h;obtain⟨rfl,q⟩:=h;cases B;refine is_none_gen<|Wh I q ?_;cases x<;>first
  | (cases z;rfl)
  | (obtain⟨t,rfl⟩:=z;rfl)
def ly:HO->Bool
 | .lst _=>cT
 | .ins _ _ _=>cT
 | _=>dV
theorem xS{L:GW}{s:g8}{O:St}{H:Hp}{a:eH}{o:HO}(I:Inv X L O H s)(h:H a=aI o)(p:ly o=cT) : ∃J,s.heap.get? a=aI J/\J.cls ≠ .type "tuple":=by
 cases o with
 | lst b=>
  obtain⟨_,B,n,_,e⟩:b.length<=l4/\∃(B:List eI) (n:Nat),kA b B/\s.heap.get? a=aI {cls:= .type "list",data:= .seq B.toArray n}:=I.iv a _ h;exact⟨_,e,(by show Ae "list" ≠ .type "tuple";decide +kernel)⟩
 | ins C d fs=>
  have x:=I.iv a _ h;obtain⟨_,_,_,e,_⟩:=x;exact⟨_,e,(by show sk C ≠ .type "tuple";exact λz=>by cases z)⟩
 | _=>exact absurd (show dV=cT from p) sh
theorem m6.or(h:m6 X f r)(h':m6 X f r'):m6 X f (λx y H Q=>r x y H Q\/r' x y H Q):=by
 intro a s b H x y v u Q I z B q;rcases q with q | q
 ·exact h a s b H x y v u Q I z B q
 ·exact h' a s b H x y v u Q I z B q
theorem qz(b:g9)(h:op ≠ .In:=by decide)(I:op ≠ .NotIn:=by decide):vr op b=dV:=by
 have a:(op==CmpOp.In)=dV:=by cases op<;>first | rfl | exact absurd rfl h
 have d:(op==CmpOp.NotIn)=dV:=by cases op<;>first | rfl | exact absurd rfl I
 cases b<;>simp[vr,a,d]
theorem wq{z:CmpOp}{r:R2}(B:m6 X (p5 z) r)(L:PE X a ta)(W:PE X b tb)(Y:vr z b=dV):PE X (.Compare a [z] [b] pos) (Ef r ta tb):=by intro d s g H Q I h;exact wpAny_Compare1 (lW L W I h λv u f x y e J O S q=>B d f g e x y v u Q J O S q) Y
def Wt(t:TE):TT:=λb H Q=>t b H λx a=>∃k,x = .bl k/\Q k a
theorem qI(B:m6 X (p5 op) r)(L:PE X a ta)(Z:PE X b tb)(hm:vr op b=dV):PT X (.Compare a [op] [b] pos) (Wt<|Ef r ta tb):=by
 intro d s f H Q I h;refine wpAny_isTrue_Compare1 (kr (L d s f H _ I h) λv o ⟨x,g,J,O,S⟩=>kr (Z d o f g _ J S) λu p ⟨y,i,U,W,Y⟩=>
  kr (B d p f i x y v u _ U O W Y) λc t ⟨z,j,l,n,k,e,m⟩=>?_) hm
 subst e;cases n;exact tU ⟨j,l,m⟩
noncomputable def Vv(r I:R2)(ta tb tc:TE):TE:=λa H Q=>ta a H λx b=>tb a b λy d=>r x y d λz B=>∃k,z = .bl k/\
 (if k=cT then tc a B λe J=>I y e J Q else Q (.bl dV) B)
theorem YJ(U:m6 X (p5 op) r)(W:m6 X (p5 EF) r')(L:PE X a ta)(Z:PE X b tb)(hc:PE X c tc)
 (hm:Fy [op,EF] [b,c]=dV:=by with_unfolding_all rfl):PE X (.Compare a [op,EF] [b,c] pos) (Vv r r' ta tb tc):=by
 intro f s g H Q I h;refine Compare_chain (kr (L f s g H _ I h) λv E ⟨x,i,Y,w,o⟩=>chain_link (kr (Z f E g i _ Y o) λu F ⟨y,j,m,B,p⟩=>
  kr (U f F g j x y v u _ m w B p) λd G ⟨z,J,O,A,k,e,S⟩=>?_)) hm
 subst e;cases A;refine tU ?_;cases k with
 | false=>exact ite_ff ⟨.bl dV,J,O,rfl,S⟩
 | true=>exact ite_tt<|chain_last<|kr (hc f G g J _ O S) λM K ⟨N,l,n,C,t⟩=>W f K g l y N u M Q n B C t
theorem Yw{B J:CmpOp}{r O:R2}(ho:m6 X (p5 B) r)(L:m6 X (p5 J) O)(Z:PE X a ta)(hb:PE X b tb)(hc:PE X c tc)
 (hm:Fy [B,J] [b,c]=dV:=by with_unfolding_all rfl):PT X (.Compare a [B,J] [b,c] pos) (Wt<|Vv r O ta tb tc):=by
 intro f s g H Q I h;refine isTrue_chain (kr (Z f s g H _ I h) λv T ⟨x,i,n,M,E⟩=>test_link (kr (hb f T g i _ n E) λu s2 ⟨y,j,o,S,F⟩=>
  kr (ho f s2 g j x y v u _ o M S F) λd s3 ⟨z,U,W,N,k,e,Y⟩=>?_)) hm
 subst e;cases N;refine tU ?_;cases k with
 | false=>
  obtain⟨k',w,C⟩:=Y;cases w;exact ite_ff ⟨U,W,C⟩
 | true=>
  refine ite_tt<|test_last<|kr (hc f s3 g U _ W Y) λw' s4 ⟨z',l,p,P,G⟩=>kr (L f s4 g l y z' u w' _ p S P G) λd' s5 ⟨z2,m,t,R,k2,A,K⟩=>?_;subst A;cases R;exact tU ⟨m,t,K⟩
noncomputable def oM(K:rR)(x:V)(H:Hp)(k:Bool):Prop:=
 match x with
 | .hI=>k=dV
 | .bl b=>k=b
 | .int i=>k=(i != 0)
 | .str y=>y.length<=l4/\k=((y.length:Int) != 0)
 | .D1 y=>y.size<=l4/\k=((y.size:Int) != 0)
 | .ref p=>(∃d,l8 K H p d/\k = !d.isEmpty)\/(∃d,mu K H p d/\k = !d.isEmpty)\/∃a,H p=aI (.dK a)/\k = !a.isEmpty
 | _=>False
theorem Qy(r:KV n4 vs):(!vs.isEmpty) = !n4.isEmpty:=by cases r<;>rfl
theorem vO(r:kA xs G8):(!G8.toArray.isEmpty) = !xs.isEmpty:=by cases r<;>simp
theorem Zr:(l4:Nat)<2 ^ 63:=by rw[An];decide
theorem bW:rz X (λx H Q=>∃k,oM X.K x H k/\Q k H):=by
 intro l s u H x v Q I B h;obtain⟨k,e,q⟩:=h;have n:=Zr;have o:l4=16777216:=An;cases x with
 | hI=>
  cases B;have z:k=dV:=e;subst z;exact truthy_none ⟨H,I,q⟩
 | bl b=>
  cases B;have z:k=b:=e;subst z;exact tU ⟨H,I,q⟩
 | int i=>
  obtain⟨t,rfl⟩:=B;have z:k=(i != 0):=e;subst z;exact PySem.P.truthy_int ⟨H,I,q⟩
 | str y=>
  obtain⟨t,rfl⟩:=B;obtain⟨S,z⟩:y.length<=l4/\k=((y.length:Int) != 0):=e;subst z;exact PySem.P.truthy_str ⋯ ⟨H,I.tok _,q⟩
 | D1 y=>
  obtain⟨t,rfl⟩:=B;obtain⟨S,z⟩:y.size<=l4/\k=((y.size:Int) != 0):=e;subst z;exact PySem.W.truthy_bytes ⋯ ⟨H,I.tok _,q⟩
 | ref p=>
  cases B;have z:(∃d,l8 X.K H p d/\k = !d.isEmpty)\/(∃d,mu X.K H p d/\k = !d.isEmpty)\/∃a,H p=aI (.dK a)/\k = !a.isEmpty:=e;rcases z with⟨d,f,z⟩ | ⟨d,f,z⟩ | ⟨a,f,z⟩
  ·subst z
   obtain⟨U,r,j,J⟩:=I.list f;have O:=r.length;exact wpAny_truthy_list j.isList (by simp only[rX];omega) ⟨H,I.tok _,by rw[vO r];exact q⟩
  ·subst z
   obtain⟨U,r,j,J⟩:=I.tuple f;have O:=r.length;exact truthy_tuple j (by simp only[rX];omega) ⟨H,I.tok _,by rw[vO r];exact q⟩
  ·subst z
   obtain⟨J,Y,g,r,m⟩:a.length<=l4/\(p==CH)=dV/\∃g,KV a g/\s.heap.DictOf (jM X.prog X.w) p g:=I.iv p _ f;have O:a.length=g.length:=Paired.length r;exact wpAny_truthy_dict Y m ⋯ ⟨H,I.tok _,by rw[Qy r];exact q⟩
 | _=>exact(show False from e).elim
theorem Yv(S:PE X a ta)(he : ∀z,DN a X.env z=(do let v <- z;Dh a.pos;holding [v] (truthy v))) :
 PT X a (λL H Q=>ta L H λx H'=>∃k,oM X.K x H' k/\Q k H'):=by
 intro b s L H Q I h;exact isTrue_plain (kr (S b s L H _ I h) λv e ⟨x,d,B,J,O⟩=>bW b e L d x v Q B J O)<|he _
theorem Qk:m6 X (B4 .Add) (λx y H Q=>∃i j,x = .str i/\y = .str j/\i.length+j.length<=l4/\Q (.str<|i++j) H):=by intro a s e H x y v u Q I z B h;obtain⟨i,j,rfl,rfl,J,q⟩:=h;obtain⟨t,rfl⟩:=z;obtain⟨b,rfl⟩:=B;exact add_str (λb d=>⟨.str<|i++j,H,I.tok _,⟨_,rfl⟩,q⟩) J
theorem qC(r:kA [x] us) : ∃u,us=[u]/\RelV x u:=by
 cases r with
 | cons z B=>cases B;exact⟨_,rfl,z⟩
theorem bS(r:kA [x,y] us) : ∃u L,us=[u,L]/\RelV x u/\RelV y L:=by
 cases r with
 | cons z B=>
  cases B with
  | cons I J=>cases J;exact⟨_,_,rfl,z,I⟩
theorem KG(J:X.calm=cT):y9 X (.builtin "min") (λxs H Q=>∃i j,xs=[.int i,.int j]/\Q (.int (if j<i then j else i)) H):=by
 intro a s l H xs f Q I r h;obtain⟨i,j,rfl,q⟩:=h;obtain⟨u,g,rfl,⟨t,rfl⟩,⟨d,rfl⟩⟩:=bS r;refine min_two_ints (I.ok.hd J) λb e k=>⟨_,H,I.kept k,?_,q⟩;by_cases z:j<i
 ·rw[GK z,GK z];exact⟨_,rfl⟩
 ·rw[GX z,GX z];exact⟨_,rfl⟩
theorem ZH:y9 X (.type "str") (λxs H Q=>∃i,xs=[.int i]/\i.natAbs.log2<1920/\Q (.str (toString i)) H):=by intro a s d H xs b Q I r h;obtain⟨i,rfl,z,q⟩:=h;obtain⟨u,rfl,t,rfl⟩:=qC r;exact PySem.P.str_of_int z ⟨.str _,H,I.tok _,⟨_,rfl⟩,q⟩
end
structure DB(h:il)(x dx C:eH)(mA:GV):Prop where
 obj:h.get? x=aI (uC C dx)
 ns:h.Ns1 dx mA
 ne:dx≠x
theorem X5{h:il}{L:eH}{W:GV}(n:h.Ns1 L W) : ∃od,h.get? L=aI od/\∀name,Bo name od=aI (W name):=by
 obtain⟨o,b,g,B,d,I,_,f⟩:=n;refine⟨o,B,λname=>?_⟩;have e:=f name;unfold nsFind findBy at e;rw[<- Array.find?_toList]at e;unfold Bo;rw[d];dsimp only;split
 ·rename_i y q
  rw[q]at e;exact congrArg aI e
 ·rename_i q
  rw[q]at e;have a:b.toList.any (·.refKey)=dV:=by rw[List.any_eq_false];intro y J;obtain⟨z,t,O⟩:=I y<|Array.mem_toList_iff.mp J;simp[DictEntry.refKey,O]
  have S : ¬b.toList.any (·.refKey)=cT:=by rw[a];exact sh
  rw[GX S];exact congrArg aI e
theorem DB.look(I:DB h x dx C mA) : ∃od,PySem.W.InstAt h x (uC C dx) C (aI od)/\∀name,Bo name od=aI (mA name):=
 let ⟨od,z,B⟩:=X5 I.ns
 ⟨od,⟨I.obj,rfl,rfl,z⟩,B⟩
section
variable{prog:m3}{w:l6}{A:m7}{E:GQ}{s:g8}{K:rR}{x dx C f:eH}{mA:GV}{name:Str}{v:eI}
theorem aL(X:K.In s.heap)(I:DB s.heap x dx C mA)(z:uZ K C name=cT)(B:Ao K C=cT)
 (L:sH K (.ref C) name=aI cI) (O:mA name=aI v) (S:PySem.W.handedIn v=cT) (h:Q v {s with toks:=s.toks+1}) :
 wpAny (hR prog w) A (getAttr (.ref x) name expr) Q E s:=by
 obtain⟨a,J,U⟩:=I.look;exact PySem.W.get_value X J (Bt z).1 (PySem.W.findObj_own B L rfl<|by rw[U,O]) S h
theorem Vd(X:K.In s.heap)(I:DB s.heap x dx C mA)(z:uZ K C name=cT)
 (L:sH K (.ref C) name=aI (aI (.ref f))) (B:Bi K (.ref f)=cT) (O:mA name=cI) (h:Q (.ref f,[.ref x]) s) :
 wpAny (hR prog w) A (getMethod (.ref x) name pl) Q E s:=by
 obtain⟨a,J,S⟩:=I.look;exact PySem.W.method_fn X J (Bt z).1 (Bt z).2 L (beq_iff_eq.mp B) (by show(Bo name a).map (·.isSome)=aI dV;rw[S,O];rfl) h
theorem WG(X:K.In s.heap)(I:DB s.heap x dx C mA)
 (hs:sH K (.ref C) "__setattr__" = aI (aI (.builtin "object.__setattr__"))) (L:AL K C=cT) (O:PySem.W.takerIn K C name=aI cI) (S:Ao K C=cT)
 (Z:BR mA ns) (hsz:ns.length<=l4)
 (h : ∀h',DB h' x dx C (λy=>if y=name then aI v else mA y)->uV dx s.heap h'->Q () {s with heap:=h',toks:=s.toks+2}) :
 wpAny (hR prog w) A (setAttr (.ref x) name v) Q E s:=by
 obtain⟨n,J,l⟩:=I.look;refine PySem.W.set_plain X J hs<|PySem.W.osa_open (s:={s with toks:=s.toks+1}) (r:=cI) X J L O λb=>?_;obtain⟨k,f,U⟩:=PySem.W.any_some S;have g:s.heap.get? x=aI ⟨.ref C,aI dx,.plain,#[]⟩:=I.obj;refine rS<|rW<|rS<|rS<|wpAny_loadPart g<|rS<|AZ.here (s:={s with toks:=s.toks+1}) (PySem.W.looks_clsIn X f) ?_;rw[U];refine rW (a:=aI dx)<|rS<|rW<|rS ?_;refine wpAny_nsSet1 (s:={s with toks:=s.toks+1}) I.ns λh' z B=>?_;obtain⟨m,i,j,Y,d,e⟩:=z.count<|BR.cons name v Z;refine rS<|wpAny_lookBehind Y (by rw[d];exact pastItsLine_dict<|sF e<|by rw[uh];omega) ?_;exact rW<|h _ ⟨(B.2 _<|tE I.ne).trans I.obj,z,I.ne⟩ B
theorem Y2(X:K.In s.heap)(L:PySem.W.makesIn K C=cT)
 (J:sH K (.ref C) "__init__" = aI (aI (.ref f))) (I:AJ K (.ref f)=aI (.type "function"))
 (h:codeAny (hR prog w) (A.under (.builtin "type.__call__" ⟨.ref C::vs,kw⟩)) (.call (.ref f) ⟨.ref (s.heap.objs.size+1)::vs,kw⟩) (PySem.W.InitBack (s.heap.objs.size+1) R)
   {s with heap:=(s.heap.push tX).push (uC C s.heap.objs.size)}) :
 codeAny (hR prog w) A (.call (.ref C) ⟨vs,kw⟩) R s:=by
 obtain⟨z,g,d,t,os⟩:=s;exact PySem.W.make_core (PySem.W.makes_of X L) (PySem.W.looks_findIn X J) (λa=>PySem.W.bind_fn X a I) (.inl rfl) h
end
noncomputable def vK(f:Str)(v:V):List (Str×V)->List (Str×V)
 | []=>[(f,v)]
 | (g,x)::r=>if g=f then (g,v)::r else (g,x)::vK f v r
theorem qr(f g:Str)(v:V) : ∀fs:List (Str×V),(vK f v fs).lookup g=if g=f then aI v else fs.lookup g
 | []=>by
  show uK g [(f,v)]=_;by_cases h:g=f
  ·have a:(g==f)=cT:=beq_iff_eq.mpr h
   simp only[uK,a,GK h]
  ·have a:(g==f)=dV:=beq_eq_false_iff_ne.mpr h
   simp only[uK,a,GX h]
 | (k,x)::r=>by
  have B:=qr f g v r;rw[show vK f v ((k,x)::r)=(if k=f then (k,v)::r else (k,x)::vK f v r)from rfl];by_cases z:k=f
  ·rw[GK z]
   by_cases h:g=k
   ·have a:(g==k)=cT:=beq_iff_eq.mpr h
    simp only[uK,a,GK (h.trans z)]
   ·have a:(g==k)=dV:=beq_eq_false_iff_ne.mpr h
    simp only[uK,a,GX (λe:g=f=>h<|e.trans z.symm)]
  ·rw[GX z]
   by_cases h:g=k
   ·have a:(g==k)=cT:=beq_iff_eq.mpr h
    simp only[uK,a,GX (λe:g=f=>z<|h.symm.trans e)]
   ·have a:(g==k)=dV:=beq_eq_false_iff_ne.mpr h
    simp only[uK,a];exact B
theorem yJ(f:Str)(v:V) : ∀fs:List (Str×V),f∈(vK f v fs).map (·.1)/\∀g,g∈fs.map (·.1)->g∈(vK f v fs).map (·.1)
 | []=>⟨by simp[vK],λg h=>by simp at h⟩
 | (k,x)::r=>by
  obtain⟨B,I⟩:=yJ f v r;rw[show vK f v ((k,x)::r)=(if k=f then (k,v)::r else (k,x)::vK f v r)from rfl];by_cases z:k=f
  ·rw[GK z]
   subst z;exact⟨by simp,λg h=>by simpa using h⟩
  ·rw[GX z]
   refine⟨?_,λg h=>?_⟩
   ·rw[sL]
    exact sv _ B
   ·rw[sL]at h ⊢
    rcases sd.mp h with e | e
    ·exact sd.mpr<|.inl e
    ·exact sv _<|I g e
theorem yI(f:Str)(v:V) : ∀fs:List (Str×V),(vK f v fs).length<=fs.length+1
 | []=>by simp[vK]
 | (k,x)::r=>by
  have B:=yI f v r;rw[show vK f v ((k,x)::r)=(if k=f then (k,v)::r else (k,x)::vK f v r)from rfl];by_cases z:k=f
  ·rw[GK z,uh,uh];omega
  ·rw[GX z,uh,uh];omega
theorem u9.some_of(r:u9 (aI v) o) : ∃u,o=aI u/\RelV v u:=by
 cases o with
 | none=>exact(show False from r).elim
 | some u=>exact⟨u,rfl,r⟩
theorem u9.none_of(r:u9 cI o):o=cI:=by
 cases o with
 | none=>rfl
 | some u=>exact(show False from r).elim
theorem Kj(r:RelV v u):PySem.W.handedIn u=cT:=by
 cases v with
 | hI=>cases (show u=sR from r);rfl
 | bl b=>cases (show u=Bm b from r);rfl
 | int i=>obtain⟨t,e⟩:=(show ∃t,u=Aa i t from r);cases e;rfl
 | str x=>obtain⟨t,e⟩:=(show ∃t,u=AX x t from r);cases e;rfl
 | D1 b=>obtain⟨t,e⟩:=(show ∃t,u=Value.bytes b t from r);cases e;rfl
 | DJ b=>obtain⟨t,e⟩:=(show ∃t,u=Value.float b t from r);cases e;rfl
 | ref a=>cases (show u=sk a from r);rfl
 | ty n=>cases (show u=Ae n from r);rfl
section
variable{P:m3}{w:l6}{H H':Hp}{h h':il}{a C dx:eH}{fs G3:List (Str×V)}
theorem yM(I:n0 P w H h)(e:H a=aI (.ins C dx fs)) : ∃mA,DB h a dx C mA/\(∀f,u9 (fs.lookup f)<|mA f)/\BR mA (fs.map (·.1))/\fs.length<=1000/\H dx=aI (.own a):=by obtain⟨d,z,b,B,mA,n,r,q⟩:=(show m8 P w H h a (.ins C dx fs)from I a _ e);exact⟨mA,⟨B,n,b⟩,r,q,z,d⟩
end
structure CA(K:rR)(C:eH):Prop where
 pg:uZ K C Str.empty=cT
 hd:Ao K C=cT
 po:AL K C=cT
 sa:sH K (.ref C) "__setattr__" = aI (aI (.builtin "object.__setattr__"))
theorem CA.get{K:rR}{C:eH}(c:CA K C)(f:Str):uZ K C f=cT:=c.pg
def DA(K:rR)(C:eH)(f:Str):Prop:=sH K (.ref C) f=aI cI
theorem DA.Hv{K:rR}{C:eH}{f:Str}(n:DA K C f):PySem.W.takerIn K C f=aI cI:=by unfold PySem.W.takerIn;rw[show sH K (.ref C) f=aI cI from n];rfl
structure ES(K:rR)(C:eH)(m:Str)(f:eH):Prop where
 at_:sH K (.ref C) m=aI (aI (.ref f))
 fn:Bi K (.ref f)=cT
 kp:tR K (.ref f)=cT
section
variable{X:Cx}{pins:GW}{σ:St}{H:Hp}{s:g8}{a C dx:eH}{fs:List (Str×V)}{f:Str}{v:V}{A:m7}{E:GQ}
theorem QB(I:Inv X pins σ H s)(e:H a=aI (.ins C dx fs))(c:CA X.K C)(n:DA X.K C f)(l:fs.lookup f=aI v)
 (h : ∀u s',Inv X pins σ H s'->RelV v u->Q u s'):wpAny (hR X.prog X.w) A (getAttr (.ref a) f b) Q E s:=by
 obtain⟨d,O,r,_,_,_⟩:=yM I.iv e;obtain⟨u,B,z⟩:=u9.some_of (v:=v) (o:=d f) (by rw[<- l];exact r f);exact aL I.m4 O (c.get f) c.hd n B (Kj z)<|h u _ (I.tok _) z
theorem vQ(I:Inv X pins σ H s)(e:H a=aI (.ins C dx fs))(c:CA X.K C)(k:ES X.K C m g)(l:fs.lookup m=cI)
 (h:Q (.ref g,[.ref a]) s):wpAny (hR X.prog X.w) A (getMethod (.ref a) m pl) Q E s:=by
 obtain⟨d,O,r,_,_,_⟩:=yM I.iv e;have b:d m=cI:=u9.none_of (by rw[<- l];exact r m);exact Vd I.m4 O (c.get m) k.at_ k.fn b h
theorem J4(I:Inv X pins σ H s)(e:H a=aI (.ins C dx fs))(c:CA X.K C)(n:DA X.K C f)(L:fs.length<1000)(S:RelV y u)
 (h : ∀s',Inv X pins σ (upd H a<|.ins C dx<|vK f y fs) s'->Q () s'):wpAny (hR X.prog X.w) A (setAttr (.ref a) f u) Q E s:=by
 obtain⟨d,O,r,i,_,J⟩:=yM I.iv e;have U:(fs.map (·.1)).length<=l4:=by rw[sZ,An];omega
 refine WG I.m4 O c.sa c.po n.Hv c.hd i U λj B W=>h _ ?_;have l : ∃o,j.get? dx=aI o:=let ⟨o,_,_,Y,_⟩:=B.ns;⟨o,Y⟩;refine I.write (x:=a) (e:=dx) (by rw[e];exact tN) (.inr J) (λb q k z=>(W.2 b k).trans z) l ?_;refine⟨by rw[zw O.ne];exact J,?_,O.ne,B.obj,_,B.ns,λg=>?_,λg m=>?_⟩
 ·have:=yI f y fs;omega
 ·show u9 ((vK f y fs).lookup g) (if g=f then aI u else d g)
  rw[qr];by_cases q:g=f
  ·rw[GK q,GK q];exact S
  ·rw[GX q,GX q];exact r g
 ·by_cases q:g=f
  ·rw[q];exact(yJ f y fs).1
  ·refine(yJ f y fs).2 g (i g λz=>m ?_)
   show(if g=f then aI u else d g)=cI;rw[GX q];exact z
theorem Inv.made(I:Inv X pins σ H s):Inv X pins σ (upd (upd H s.heap.objs.size<|.own<|s.heap.objs.size+1) (s.heap.objs.size+1)<|.ins C s.heap.objs.size [])
 {s with heap:=(s.heap.push tX).push (uC C s.heap.objs.size)}:=by
 have d:(s.heap.push tX).get? s.heap.objs.size=aI tX:=se s.heap rfl;have g:((s.heap.push tX).push (uC C s.heap.objs.size)).get? (s.heap.objs.size+1)=aI (uC C s.heap.objs.size):=by
  have:=se (s.heap.push tX) (o:=uC C s.heap.objs.size) rfl
  rwa [sG]at this
 have z:(s.heap.push tX).Ns s.heap.objs.size (λ_=>cI):=⟨tX,#[],_,d,rfl,(λe h=>absurd h ⋯),λ_=>rfl⟩;have B:=I.laid (a:=s.heap.objs.size) (o:= .own (s.heap.objs.size+1)) (h':=s.heap.push tX) (t':=s.toks) (λb u q=>rT _ q) (sf _) ⟨_,d⟩;refine B.laid (a:=s.heap.objs.size+1) (o:= .ins C s.heap.objs.size []) (t':=s.toks) (λb u q=>rT _ q) (Nat.le_of_eq<|sG _ _) ?_;have f:s.heap.objs.size≠s.heap.objs.size+1:=sr<|uz _;refine⟨by rw[zw f,zr],uv _,f,g,λ_=>cI,(Heap.Ns1.of_empty z).at λo q=>rT _ q,λ_=>tN,λy J=>absurd rfl J⟩
theorem bj(I:D0 e f env (hH e env)=hH e env)
 (h:wpAny (hR prog w) A (hH e env) (λo z=>wpAny (hR prog w) A (getAttr o f cT) Q E z) E s):wpAny (hR prog w) A (hH (.Attribute e f pos) env) Q E s:=
 Attribute_any_ h (by rw[arm_eval_Attribute,I])
end
noncomputable def mW(K:rR)(I:TE)(f:Str):TE:=λe H Q=>I e H λx b=>∃a C d fs v,x = .ref a/\b a=aI (.ins C d fs)/\CA K C/\DA K C f/\fs.lookup f=aI v/\Q v b
noncomputable def iP(K:rR)(I J:TE)(f:Str):TS:=λD b H=>J b H λy g=>I b g λx d=>∃a C e fs,x = .ref a/\d a=aI (.ins C e fs)/\CA K C/\DA K C f/\fs.length<1000/\
 D.nx b (upd d a<|.ins C e<|vK f y fs)
section
variable{X:Cx}{o e value:g9}{f:Str}{pos pos' u4:l0}{ta tv:TE}
theorem Zl(Y:PE X e ta)(L:D0 e f X.env (hH e X.env)=hH e X.env):PE X (.Attribute e f pos) (mW X.K ta f):=by intro b s i H Q I h;refine bj L<|kr (Y b s i H _ I h) λu k z=>?_;obtain⟨x,d,B,J,a,C,j,fs,v,g,O,c,n,l,q⟩:=z;subst g;obtain rfl:u=sk a:=J;exact QB B O c n l λW m S U=>⟨v,d,S,U,q⟩
theorem VN(L:PE X o ta)(z:PE X value tv)(hs:B6 value (aI (.Attribute o f pos')) pos.line X.env=pure dV):PS X (.Assign [.Attribute o f pos'] value pos) (iP X.K ta tv f):=by intro b s d H D I h;refine plainObj_wpAny_Assign_Attribute (kr (z b s d H _ I h) λu j ⟨y,e,B,J,q⟩=>kr (L b j d e _ B q) λO p ⟨x,k,S,U,a,C,m,fs,i,W,c,n,l,Y⟩=>?_) hs;subst i;obtain rfl:O=sk a:=U;exact J4 S W c n l J λr g=>⟨d,_,g,Y⟩
end
section
variable{X:Cx}{pins:GW}{σ:St}{H:Hp}{s:g8}{A:m7}{E:GQ}{Q:GQ}{c:eI}{b:Bool}
inductive B3(K:rR)(H:Hp):V->eI->Prop where
 | hI:B3 K H .hI (.type "NoneType")
 | bl (x:Bool):B3 K H (.bl x) (.type "bool")
 | int (i:Int):B3 K H (.int i) (.type "int")
 | str (x:Str):B3 K H (.str x) (.type "str")
 | DJ (x:UInt64):B3 K H (.DJ x) (.type "float")
 | lst {a:eH} {xs:List V} (e:H a=aI (.lst xs)):B3 K H (.ref a) (.type "list")
 | t8 {a:eH} {o:n7} {xs:List V} (e:H a=aI (.t8 o (.lst xs))):B3 K H (.ref a) (.type "list")
 | tup {a:eH} {xs:List V} (e:H a=aI (.tup xs)):B3 K H (.ref a) (.type "tuple")
 | dK {a:eH} {n4:List (Key×V)} (e:H a=aI (.dK n4)):B3 K H (.ref a) (.type "dict")
 | dT {a:eH} {n4:List (List Key×V)} (e:H a=aI (.dT n4)):B3 K H (.ref a) (.type "dict")
 | ins {a C dx:eH} {fs:List (Str×V)} (e:H a=aI (.ins C dx fs)) (cl:CA K C) (ha:sH K (.ref C) "__class__" = aI (aI (.builtin "object.__class__")))
  (hn:BD K (.builtin "object.__class__") "__get__" = aI (aI (.builtin "getset_descriptor.__get__"))) (F8:PySem.W.takesIn K (.builtin "object.__class__")=aI cT)
  (hm:uj K C (.type "object")=aI cT):B3 K H (.ref a) (.ref C)
theorem Kc(I:Inv X pins σ H s)(B:RelV x u)(ty:B3 X.K H x t)(e:sU X.K t c=aI b)(h : ∀Y,Q (.bool b) {s with toks:=Y}) :
 wpAny (hR X.prog X.w) A (call (.builtin "isinstance") [u,c]) Q E s:=by
 cases ty with
 | hI=>cases (show u=sR from B);exact sA BF I.m4 tN e (λz=>nomatch z) h
 | bl y=>cases (show u=Bm y from B);exact sA BG I.m4 tN e (λz=>nomatch z) h
 | int i=>obtain⟨t,q⟩:=(show ∃t,u=Aa i t from B);cases q;exact sA BO I.m4 tN e (λz=>nomatch z) h
 | str y=>obtain⟨t,q⟩:=(show ∃t,u=AX y t from B);cases q;exact sA BN I.m4 tN e (λz=>nomatch z) h
 | DJ y=>obtain⟨t,q⟩:=(show ∃t,u=Value.float y t from B);cases q;exact sA PySem.W.kitx_float I.m4 tN e (λz=>nomatch z) h
 | @lst a g S=>
  cases (show u=sk a from B);obtain⟨_,_,n,_,d⟩:=(show m8 X.prog X.w H s.heap a (.lst g)from I.iv a _ S);exact sA AM I.m4 ⟨_,d,rfl⟩ e (λz=>nomatch z) h
 | @t8 a U g S=>
  cases (show u=sk a from B);obtain⟨_,_,_,n,_,d⟩:=(show m8 X.prog X.w H s.heap a (.t8 U<|.lst g)from I.iv a _ S);exact sA AM I.m4 ⟨_,d,rfl⟩ e (λz=>nomatch z) h
 | @tup a g S=>
  cases (show u=sk a from B);obtain⟨_,_,_,p⟩:=(show m8 X.prog X.w H s.heap a (.tup g)from I.iv a _ S);obtain⟨o,d,j,_⟩:=p;exact sA Bw I.m4 ⟨o,d,(Prod.mk.inj j).1⟩ e (λz=>nomatch z) h
 | @dK a f S=>
  cases (show u=sk a from B);obtain⟨_,_,R,_,p⟩:=(show m8 X.prog X.w H s.heap a (.dK f)from I.iv a _ S);obtain⟨o,r,m,d,j,_⟩:=p;exact sA uQ I.m4 ⟨o,d,j.1⟩ e (λz=>nomatch z) h
 | @dT a f S=>
  cases (show u=sk a from B);obtain⟨_,_,g,_,o,r,m,d,j,_⟩:=(show m8 X.prog X.w H s.heap a (.dT f)from I.iv a _ S);exact sA uQ I.m4 ⟨o,d,j.1⟩ e (λz=>nomatch z) h
 | @ins a C M fs S l F L k G=>
  cases (show u=sk a from B);obtain⟨N,O,_⟩:=yM I.iv S;obtain⟨P,J,_⟩:=O.look;exact sA (PySem.W.kitx_own (l.get _) l.hd F L k G) I.m4 J e (λz=>nomatch z) h
end
structure ow(k:Nat)(A:m7):Prop where
 hd:A.handled=cI
 dp:A.depth+3*k+5<Hk
 un:A.units+16*k+200<DG
theorem ow.mono(r:ow k A)(h:j<=k):ow j A:=⟨r.hd,by have:=r.dp;omega,by have:=r.un;omega⟩
theorem ow.deeper(r:ow (k+1) A)(env:m9):ow k (A.deeper env):=
 ⟨r.hd,by have:=r.dp;show A.depth+1+3*k+5<_;omega,by have:=r.un;show A.units+3+16*k+200<_;omega⟩
theorem ow.in1(r:ow (k+1) A):ow k A.in1:=
 ⟨r.hd,by have:=r.dp;show A.depth+3*k+5<_;omega,by have:=r.un;show A.units+1+16*k+200<_;omega⟩
theorem Qq{A:m7}{C:eH}{us:List eI}{z:List (Str×eI)}:(A.under (.builtin "type.__call__" ⟨.ref C::us,z⟩)).depth=A.depth+1:=by first | rfl | simp[Around.under,Code.weight,Code.isCreation,Code.isGuard,Code.isCaller,Code.frames,Code.isFrame,guardIds]
theorem Qp{A:m7}{C:eH}{us:List eI}{z:List (Str×eI)}:(A.under (.builtin "type.__call__" ⟨.ref C::us,z⟩)).units=A.units+1:=by first | rfl | simp[Around.under,Code.cUnits,Code.frames,Code.isFrame]
theorem ow.make(r:ow (k+1) A)(C:eH)(us:List eI)(z:List (Str×eI)):ow k (A.under (.builtin "type.__call__" ⟨.ref C::us,z⟩)):=
 ⟨r.hd,by have:=r.dp;rw[Qq];omega,by have:=r.un;rw[Qp];omega⟩
theorem ow.depth(r:ow k A):A.depth<Hk:=by have:=r.dp;omega
def KZ:TA:=λ_ H Q=>Q [] H
noncomputable def wU(I:TE)(z:TA):TA:=λa H Q=>I a H λx b=>z a b λe d=>Q (x::e) d
section
variable{X:Cx}{e:g9}{es:List g9}{te:TE}{t:TA}{pos:l0}
theorem jc:PA X [] KZ:=λ_ _ _ _ H Q I h=>uD ⟨[],H,I,.nil,h⟩
theorem zK(L:PE X e te)(Y:PA X es t)(hs:lp (e::es) X.env=(dV,hH e X.env)::lp es X.env:=by rfl):PA X (e::es) (wU te t):=by intro pos a s b H Q I h;rw[hs];show wpAny _ _ (Cv ((dV,hH e X.env)::pk pos (lp es X.env))) _ _ s;refine sX<|kr (L a s b H _ I h) λu g z=>?_;obtain⟨x,d,B,J,O⟩:=z;exact kr (Y pos a g b d _ B O) λk j ⟨i,f,S,U,W⟩=>⟨x::i,f,S,.cons J U,W⟩
noncomputable def oX(t:TA):TE:=λd H Q=>t d H λb a=>b.length<=l4/\∀p,a p=cI->Q (.ref p) (upd a p<|.tup b)
noncomputable def pb(t:TA):TE:=λd H Q=>t d H λb a=>b.length<=l4/\∀p,a p=cI->Q (.ref p) (upd a p<|.lst b)
theorem dF(h:PA X es t):PE X (.Tuple es x1 pos) (oX t):=by intro a s l H Q I i;refine Hy<|kr (h pos a s l H _ I i) λj d ⟨k,f,B,r,z,q⟩=>⟨by rw[<- r.length];exact z,?_⟩;have g:f d.heap.objs.size=cI:=B.iv.fresh<|sf _;refine⟨.ref d.heap.objs.size,upd f d.heap.objs.size<|.tup k,B.laid (t':=d.toks) (λb u e=>rT _ e) (sf _) ?_,rfl,q _ g⟩;exact⟨z,j,r,⟨_,se _ rfl,rfl,_,rfl⟩⟩
theorem dM(h:PA X es t):PE X (.List es pos) (pb t):=by intro a s l H Q I i;refine wpAny_List_spliced<|kr (h pos a s l H _ I i) λj d ⟨k,f,B,r,z,q⟩=>⟨by rw[<- r.length];exact z,?_⟩;have g:f d.heap.objs.size=cI:=B.iv.fresh<|sf _;refine⟨.ref d.heap.objs.size,upd f d.heap.objs.size<|.lst k,B.laid (t':=d.toks) (λb u e=>rT _ e) (sf _) ?_,rfl,q _ g⟩;exact⟨z,j,0,r,se _ rfl⟩
end
abbrev Sp:=List V->Hp->VK->XK->Prop
abbrev B1:=List m9->Hp->g8->XK->eI->g8->Prop
structure B7(P:m3)(w:l6)(K:rR)(mg:GV)(base:il)(A:m7)(outer:List m9)(s:g8)(H:Hp):Prop where
 frames:A.frames=aI outer
 mod:Mod K mg base
 bs : ∀b o,base.get? b=aI o->s.heap.get? b=aI o/\H b=cI
 Cr:base.objs.size<=s.heap.objs.size
 t5:s.heap.FunFrames base outer
 Cs : ∀b∈o1 outer,H b=cI
 iv:n0 P w H s.heap
 bare:CT s.gens
noncomputable def CE(outer:List m9)(P:m3)(w:l6)(H:Hp)(s:g8)(Q:VK)(u:eI)(s':g8):Prop:=
 ∃v a,s'.os=s.os/\CT s'.gens/\Un (o1 outer) [] H a s.heap s'.heap/\n0 P w a s'.heap/\RelV v u/\Q v a
noncomputable def CR(CX:B1)(outer:List m9)(P:m3)(w:l6)(H:Hp)(s:g8)(Q:VK)(E:XK)(r:Result)(s':g8):Prop:=
 match r with
 | .ok (.ret u)=>CE outer P w H s Q u s'
 | .ok _=>False
 | .error e=>CX outer H s E e s'
structure oT(P:m3)(w:l6)(K:rR)(mg:GV)(base:il)(CX:B1)(k:Nat)(f:eH)(fd:o9)(ps:List Str)(sp:Sp):Prop where
 len : ∀vs H Q E,sp vs H Q E->vs.length=ps.length
 run : ∀(A:m7) (outer:List m9) (s:g8) (H:Hp) (args:Args) (us:List eI) (vs:List V) (Q:VK) (E:XK),ow k A->B7 P w K mg base A outer s H->EN s fd args (ps.zip us)->kA vs us->sp vs H Q E->
  codeAny (hR P w) A (.call (.ref f) args) (CR CX outer P w H s Q E) s
theorem B7.make{P:m3}{w:l6}{K:rR}{I:GV}{base:il}{A:m7}{outer:List m9}{s:g8}{H:Hp}(e:B7 P w K I base A outer s H)(C:eH)(us:List eI)(z:List (Str×eI)) :
 B7 P w K I base (A.under (.builtin "type.__call__" ⟨.ref C::us,z⟩)) outer s H:=⟨by first | exact e.frames | (simpa[Around.under,Code.envs,Code.isFrame,pushEnvs]using e.frames),e.mod,e.bs,e.Cr,e.t5,e.Cs,e.iv,e.bare⟩
theorem B7.in1{P:m3}{w:l6}{K:rR}{I:GV}{base:il}{A:m7}{outer:List m9}{s:g8}{H:Hp}(e:B7 P w K I base A outer s H) :
 B7 P w K I base A.in1 outer s H:=⟨e.frames,e.mod,e.bs,e.Cr,e.t5,e.Cs,e.iv,e.bare⟩
section
variable{X:Cx}{pins:GW}{σ:St}{H:Hp}{s s':g8}
theorem Inv.CF(I:Inv X pins σ H s):B7 X.prog X.w X.K X.mg X.base X.A X.stack s H:=
 ⟨I.ok.frames,I.ok.mod,I.bs,sF I.ok.Cr I.sz,I.stack,I.Ec,I.iv,I.bare⟩
theorem Inv.after(I:Inv X pins σ H s)(h:CE X.stack X.prog X.w H s Q u s'):EP X pins σ Q u s':=by obtain⟨v,f,os,a,un,e,r,q⟩:=h;obtain⟨B,g,d,t,J⟩:=s';obtain rfl:J=s.os:=os;exact⟨v,f,I.call (h':=B) (g':=g) (d':=d) (t':=t) (ch:=[]) un e a<|λb z=>absurd z ⋯,r,q⟩
end
noncomputable def wV(sp:Sp)(I:List V)(E:XK)(t:TA):TE:=λd H Q=>t d H λb a=>sp (b++I) a Q E
noncomputable def cm(C:eH)(m:Str)(sp:Sp)(I:List V)(E:XK)(J:TE)(t:TA):TE:=λd H Q=>J d H λx b=>∃a f fs,x = .ref a/\b a=aI (.ins C f fs)/\fs.lookup m=cI/\
 t d b λg e=>sp (x::(g++I)) e Q E
noncomputable def Wv(C:eH)(sp:Sp)(I:List V)(E:XK)(t:TA):TE:=λf H Q=>t f H λe b=>∀x a,b x=cI->b a=cI->a≠x->
 sp (.ref x::(e++I)) (upd (upd b a<|.own x) x<|.ins C a []) (λv d=>v = .hI/\Q (.ref x) d) E
noncomputable def Binds(K:rR)(I:o9)(ps:List Str)(ds:List eI):Prop:=
 ∀(s:g8) (a:List eI),K.In s.heap->(a++ds).length=ps.length->EN s I ⟨a,[]⟩ (ps.zip<|a++ds)
theorem Binds.all{K:rR}{I:o9}{ps:List Str}(h : ∀us:List eI,us.length=ps.length->Ex I ⟨us,[]⟩=pure (ps.zip us)):Binds K I ps []:=λs us _ z=>by rw[List.append_nil]at z ⊢;exact .of_eq<|h us z
noncomputable def yV(CX:B1)(X:Cx)(E:XK):Prop:=∀(a:GW) (d:St) (H:Hp) (s:g8) (e:eI) (b:g8),Inv X a d H s->CX X.stack H s E e b->X.xe e b
section
variable{X:Cx}{CX:B1}{k:Nat}{f C:eH}{fd:o9}{ps:List Str}{sp:Sp}{A1:List V}{ds:List eI}{E:XK}{x m:Str}{p pos apos:l0}{e o:g9}{es:List g9}{ta:TE}{t:TA}
theorem Xb(F:oT X.prog X.w X.K X.mg X.base CX k f fd ps sp)(S:ow k X.A)(L:Binds X.K fd ps ds)(O:kA A1 ds)(hx:yV CX X E)
 (I:Inv X pins σ H s) (r:kA vs us) (h:sp (vs++A1) H Q E):wpAny (hR X.prog X.w) X.A (call (.ref f) us) (EP X pins σ Q) X.xe s:=by
 have z:kA (vs++A1) (us++ds):=r.append O;have B:(us++ds).length=ps.length:=by rw[<- z.length];exact F.len _ _ _ _ h
 refine BH<|AG (F.run X.A X.stack s H ⟨us,[]⟩ (us++ds) (vs++A1) Q E S I.CF (L s us I.m4 B) z h) λr b a=>?_;cases r with
 | error e=>exact hx pins σ H s e b I a
 | ok J=>
  cases J with
  | ret u=>exact I.after a
  | next=>exact ue a
  | brk=>exact ue a
  | cont=>exact ue a
theorem wt(F:oT X.prog X.w X.K X.mg X.base CX k f fd ps sp)(hr:ow k X.A)(B:Gl X x)(hm:X.mg x=aI (.ref f))(J:tR X.K (.ref f)=cT)(W:Binds X.K fd ps ds)(Y:kA A1 ds)(hx:yV CX X E)
 (L:PA X (e::es) t) (O:(x==("__debug__" : Str))=dV:=by decide) (Z:lp (e::es) X.env=(dV,hH e X.env)::lp es X.env:=by rfl) (S:(pk pos (lp es X.env)).any (·.1)=dV:=by rfl) :
 PE X (.Call (.Name x p) (e::es) [] pos) (wV sp A1 E t):=by
 intro a s b H Q I h;refine tL<|qt I B hm ?_ O;refine Bx (h₀:=X.base) I.ok.mod.DP J (kr (L pos a s b H _ I h) λi g ⟨j,d,z,r,q⟩=>⟨z.m4,?_⟩) Z S;exact Xb F hr W Y hx z r q
theorem YK(F:oT X.prog X.w X.K X.mg X.base CX k f fd ps sp)(Y:ow k X.A)(z:Gl X x)(S:X.mg x=aI (.ref f))(B:tR X.K (.ref f)=cT)(L:Binds X.K fd ps ds)(O:kA A1 ds)(hx:yV CX X E)
 (J:(x==("__debug__" : Str))=dV:=by decide):PE X (.Call (.Name x p) [] [] pos) (wV sp A1 E KZ):=by
 intro a s b H Q I h;refine tL<|qt I z S ?_ J;exact PySem.W.callWith_K0 I.m4 B<|Xb (us:=[]) F Y L O hx I .nil h
theorem W8(he:PE X o ta)(c:CA X.K C)(L:ES X.K C m f)(F:oT X.prog X.w X.K X.mg X.base CX k f fd ps sp)(hr:ow k X.A)(hb:Binds X.K fd ps ds)(hd:kA A1 ds)(hx:yV CX X E)(Z:PA X (e::es) t)
 (O:lp (e::es) X.env=(dV,hH e X.env)::lp es X.env:=by rfl) (S:(pk pos<|starEach es X.env).any (·.1)=dV:=by rfl)
 (U:hH (.Call (.Attribute o m apos) (e::es) [] pos) X.env=(do
   let z <- hH o X.env
   Dh apos.atName
   let (f,first) <- holding [z] (getMethod z m pl)
   callWith pos f first (pk pos<|starEach (e::es) X.env) (DD pos<|keywordEach [] X.env)):=by rfl) :
 PE X (.Call (.Attribute o m apos) (e::es) [] pos) (cm C m sp A1 E ta t):=by
 intro b s d H Q I h;refine PySem.W.methodCall_KW (pl:=pl) (kr (he b s d H _ I h) λu y Y=>?_) U;obtain⟨x,g,B,p,a,M,fs,j,i,l,q⟩:=Y;subst j;obtain rfl:u=sk a:=p;refine vQ B i c L l ?_;refine Bx (first:=[.ref a]) (h₀:=X.base) I.ok.mod.DP L.kp (kr (Z pos b y d g _ B q) λus N ⟨vs,G,J,r,n⟩=>⟨J.m4,?_⟩) O S;exact Xb (us:= .ref a::us) (vs:= .ref a::vs) F hr hb hd hx J (.cons rfl r) n
structure Mk(K:rR)(C f:eH):Prop where
 makes:PySem.W.makesIn K C=cT
 init:sH K (.ref C) "__init__" = aI (aI (.ref f))
 fn:Bi K (.ref f)=cT
 kp:tR K (.ref C)=cT
theorem Ys(M:Mk X.K C f)(F:oT X.prog X.w X.K X.mg X.base CX k f fd ps sp)(hr:ow (k+1) X.A)(hb:Binds X.K fd ps ds)(hd:kA A1 ds)
 (hx:yV CX X E) (I:Inv X pins σ H s) (r:kA vs us)
 (h : ∀x L,H x=cI->H L=cI->L≠x->sp (.ref x::(vs++A1)) (upd (upd H L<|.own x) x<|.ins C L []) (λv Z=>v = .hI/\Q (.ref x) Z) E) :
 wpAny (hR X.prog X.w) X.A (call (.ref C) us) (EP X pins σ Q) X.xe s:=by
 have a:=h (s.heap.objs.size+1) s.heap.objs.size (I.iv.fresh<|Bj _) (I.iv.fresh<|sf _)<|sr<|uz _;have B:=Inv.made (C:=C) I;have J:kA (V.ref (s.heap.objs.size+1)::(vs++A1)) (sk (s.heap.objs.size+1)::(us++ds)):= .cons rfl (r.append hd);have O:(sk (s.heap.objs.size+1)::us++ds).length=ps.length:=by have e:=J.length;rw[F.len _ _ _ _ a]at e;exact e.symm
 refine BH (Y2 (f:=f) I.m4 M.makes M.init (beq_iff_eq.mp M.fn) (AG (F.run _ X.stack _ _ ⟨sk (s.heap.objs.size+1)::us,[]⟩ (sk (s.heap.objs.size+1)::(us++ds)) _ _ E (hr.make C us [])
  (B.CF.make C us []) (hb _ (sk (s.heap.objs.size+1)::us) B.m4 O) J a) λr g z=>?_))
 cases r with
 | error e=>exact hx pins σ _ _ e g B z
 | ok S=>
  cases S with
  | ret u=>
   obtain⟨v,b,U,W,Y,d⟩:=B.after z;subst Y;exact⟨W,⟨V.ref<|s.heap.objs.size+1,b,U,rfl,d⟩⟩
  | next=>exact ue z
  | brk=>exact ue z
  | cont=>exact ue z
theorem YH(M:Mk X.K C f)(F:oT X.prog X.w X.K X.mg X.base CX k f fd ps sp)(S:ow (k+1) X.A)(z:Gl X x)(O:X.mg x=aI (.ref C))(J:Binds X.K fd ps ds)(L:kA A1 ds)(hx:yV CX X E)
 (B:(x==("__debug__" : Str))=dV:=by decide):PE X (.Call (.Name x p) [] [] pos) (Wv C sp A1 E KZ):=by
 intro a s b H Q I h;refine tL<|qt I z O ?_ B;exact PySem.W.callWith_K0 I.m4 M.kp<|Ys (us:=[]) M F S J L hx I .nil h
end
structure Em(N P:List Str)(sc:l9):Prop where
 kind:sc.kind = .function
 co:sc.isCoroutine=dV
 gen:sc.isGenerator=dV
 nd:N.Nodup
 pre:N.take P.length=P
 par : ∀x∈P,sc.names.lookup x=aI .local\/sc.names.lookup x=aI .cell
 Hf : ∀y∈sc.names,y.2 ≠ .free
theorem ZL{kindOf:Str->Option CC}{x:Str} : ∀{binds:List (Str×eI)} {m:GV},(∀v,(x,v)∉binds)->DF kindOf binds m x=m x
 | [],_,_=>rfl
 | (n,v)::r,m,h=>by
  unfold DF;rw[ZL λw a=>h w (sv _ a)];split
  ·have:x≠n:=by rintro rfl;exact h v sP
   simp[this]
  ·rfl
theorem ZN{kindOf:Str->Option CC}{x:Str} : ∀{binds:List (Str×eI)} {m:GV},(∀v,(x,v)∉binds)->DE kindOf binds m x=m x
 | [],_,_=>rfl
 | (n,v)::r,m,h=>by
  unfold DE;rw[ZN λw a=>h w (sv _ a)];split
  ·rfl
  ·have:x≠n:=by rintro rfl;exact h v sP
   simp[this]
theorem ZM{kindOf:Str->Option CC}{x:Str}{v:eI} : ∀{P:List Str} {vs:List eI} {i:Nat} {m:GV},P.Nodup->P[i]? = aI x->vs[i]? = aI v->kindOf x=aI .local->
 DF kindOf (P.zip vs) m x=aI v
 | [],_,_,_,_,h,_,_=>by simp at h
 | _::_,[],_,_,_,_,h,_=>by simp at h
 | p::P,w::vs,0,m,nd,h1,h2,hk=>by simp at h1 h2;subst h1;subst h2;show DF kindOf ((p,w)::P.zip vs) m p=_;unfold DF;rw[ZL λv z=>(Aj.mp nd).1 (List.of_mem_zip z).1,GK hk];simp
 | p::P,w::vs,i+1,m,nd,h1,h2,hk=>by show DF kindOf ((p,w)::P.zip vs) m x=_;unfold DF;exact ZM (i:=i) (Aj.mp nd).2 (by simpa using h1) (by simpa using h2) hk
theorem ZO{kindOf:Str->Option CC}{x:Str}{v:eI} : ∀{P:List Str} {vs:List eI} {i:Nat} {m:GV},P.Nodup->P[i]? = aI x->vs[i]? = aI v->kindOf x≠aI .local->
 DE kindOf (P.zip vs) m x=aI v
 | [],_,_,_,_,h,_,_=>by simp at h
 | _::_,[],_,_,_,_,h,_=>by simp at h
 | p::P,w::vs,0,m,nd,h1,h2,hk=>by simp at h1 h2;subst h1;subst h2;show DE kindOf ((p,w)::P.zip vs) m p=_;unfold DE;rw[ZN λv z=>(Aj.mp nd).1 (List.of_mem_zip z).1,GX hk];simp
 | p::P,w::vs,i+1,m,nd,h1,h2,hk=>by show DE kindOf ((p,w)::P.zip vs) m x=_;unfold DE;exact ZO (i:=i) (Aj.mp nd).2 (by simpa using h1) (by simpa using h2) hk
noncomputable def qE(N:List Str)(vs:List V):St:=vs.map aI++so (N.length - vs.length) cI
noncomputable def vU(CX:B1)(P:m3)(w:l6)(K:rR)(mg:GV)(base:il)(N:List Str)(qual:Str)(scope:l9)(f:eH)(cd:eI)(A:m7)(outer:List m9)(s:g8)(H:Hp)(E:XK):Cx where
 prog:=P
 w:=w
 K:=K
 mg:=mg
 base:=base
 A:=A.deeper<|envOfC qual scope s.heap.objs.size f cd
 N:=N
 m5:=s
 Dl:=H
 env:=EZ qual scope s.heap.objs.size f cd
 outer:=outer
 stack:=EZ qual scope s.heap.objs.size f cd::outer
 ex:=[]
 calm:=cT
 fn:=λ_=>cT
 pn:=[]
 xe:=λe s'=>wpAny (hR P w) (A.deeper<|envOfC qual scope s.heap.objs.size f cd) (DQ (EZ qual scope s.heap.objs.size f cd) e) (λ_ z=>CX outer H s E e z) (λB z=>CX outer H s E B z) s'
theorem JW{I:l9}{n:Nat}{x:Str}(h:I.names.lookup x=aI .cell) : ∃c,(A9 n I.names []).lookup x=aI c:=by have q:=Ai I.names n [] (.inl h);exact uc.mp q
theorem Kf{CX:B1}{P:m3}{w:l6}{K:rR}{Z:GV}{base:il}{N ps:List Str}{qual:Str}{scope:l9}{f:eH}{L:eI}{A:m7}{outer:List m9}{s s1:g8}{H:Hp}{E:XK}{us:List eI}{vs:List V}
 (S:Em N ps scope) (hd:A.handled=cI) (B:B7 P w K Z base A outer s H) (hl:vs.length=ps.length) (r:kA vs us)
 (x:InCallC s s.heap.objs.size (DF (EZ qual scope s.heap.objs.size f L).kindOf (ps.zip us) λ_=>cI) (A9 (s.heap.objs.size+1) scope.names []) (DE (EZ qual scope s.heap.objs.size f L).kindOf (ps.zip us) λ_=>cI) s1) :
 Inv (vU CX P w K Z base N qual scope f L A outer s H E) [] (qE N vs) H s1:=by
 have o:ps.length<=N.length:=by have:=congrArg List.length S.pre;rw[EM]at this;omega
 obtain⟨j,C,rfl,O⟩:=x.done;have J : ∀b:eH,b∉(vU CX P w K Z base N qual scope f L A outer s H E).ex:=λb z=>absurd (show b∈([]:List eH)from z) ⋯;refine⟨⟨B.mod,S.kind,rfl,rfl,sf _,λy z c j d=>?_,λy I=>?_,λy c _ h=>?_,λ_=>hd,Around.frames_deeper B.frames,.inr ⟨rfl,rfl⟩,λb z=>absurd z<|J b,B.bs,B.Cr,λb _ _=>J b,λb z=>absurd z<|J b,B.t5,B.Cs⟩,
  rfl,B.bare,Un.kept O,⟨_,x.toInCall.ns,λi y v j d t=>?_⟩,λy c h=>⟨_,x.cell y c h⟩,B.iv.fresh<|sf _,λy c h=>?_,λp g=>absurd (show p∈([]:GW)from g) ⋯,B.iv.kept O,?_⟩
 ·exact name_of_addr x.apart (Ad j)<|Ad d
 ·have I:scope.names.lookup y=aI .cell\/scope.names.lookup y=aI .free:=I
  rcases I with I | I
  ·exact JW I
  ·exact absurd rfl<|S.Hf _<|Ad I
 ·exact Cb<|x.above y c<|Ad h
 ·have l:i<vs.length:=by
   unfold qE at d;by_cases l:i<vs.length
   ·exact l
   ·rw[tF (by simpa using l)]at d
    rw[Ak]at d;split at d<;>cases d
  have m:vs[i]? = aI v:=by
   unfold qE at d;rw[ub (by simpa using l),sV]at d;cases e:vs[i]? with
   | none=>rw[e]at d;cases d
   | some a=>rw[e]at d;cases d;rfl
  obtain⟨u,U,Y⟩:=r.get m;have g:ps[i]? = aI y:=by rw[<- S.pre,List.getElem?_take_of_lt ⋯];exact j
  have W:ps.Nodup:=by rw[<- S.pre];exact S.nd.sublist<|List.take_sublist _ _
  refine⟨u,Y,?_⟩;rcases S.par y (AE g)with k | k
  ·exact .inl ⟨k,ZM W g U k⟩
  ·obtain⟨c,e⟩:=JW (n:=s.heap.objs.size+1) k
   refine .inr ⟨.inl k,c,e,?_⟩;have q:=x.cell y c e;rw[ZO W g U (by show scope.names.lookup y≠_;rw[k];decide)]at q;exact q
 ·exact B.iv.fresh<|Cb<|x.above y c<|Ad h
 ·unfold qE
  show _=N.length;rw[ug,sZ,List.length_replicate];omega
theorem fi{CX:B1}{P:m3}{w:l6}{K:rR}{mg:GV}{base:il}{k:Nat}{f:eH}{name qual:Str}{O:Arguments}{Z:List l7}{scope:l9}{U kV doc pm L ct oc:eI}{an od:Option eH}
 {E8:Array (Option eI)} {N ps:List Str} {sp:Sp} (lk:K.lookup f=aI ⟨oc,od,.func<|uk name qual O Z scope U kV doc pm an L ct,E8⟩) (a4:Aq K L qual=cT) (S:Em N ps scope)
 (len : ∀vs H Q E,sp vs H Q E->vs.length=ps.length)
 (a5 : ∀(A:m7) (outer:List m9) (s:g8) (H:Hp) (vs:List V) (Q:VK) (E:XK),ow k (A.deeper<|envOfC qual scope s.heap.objs.size f L)->sp vs H Q E->
   ∃t,ri (vU CX P w K mg base N qual scope f L A outer s H E) Z t/\t {nx:=λ_ H'=>Q .hI H',rt:=Q} (qE N vs) H) :
 oT P w K mg base CX (k+1) f (uk name qual O Z scope U kV doc pm an L ct) ps sp:=by
 refine⟨len,λA outer s H l us vs Q E g z hb r Y=>?_⟩;have M:=len _ _ _ _ Y;have i:K.In s.heap:=z.mod.DP.keeps λb o e=>(z.bs b o e).1;have lim:s.heap.NoLimit:=z.mod.nolimit.keeps λb o e=>(z.bs b o e).1;have p : ∀y∈ps.zip us,scope.names.lookup y.1=aI .local\/(scope.names.lookup y.1=aI .cell/\((A9 (s.heap.objs.size+1) scope.names []).lookup y.1).isSome=cT):=λ⟨n,v⟩ X=>by
  rcases S.par n (List.of_mem_zip X).1 with q | q
  ·exact .inl q
  ·exact .inr ⟨q,Ai _ _ _<|.inl q⟩
 refine codeAny_call_function g.depth (i _ _ lk) rfl S.co S.gen rfl (PySem.W.codeRec_of i a4)<|hb _ _ _ _ ?_;refine wpAny_newFunctionEnv_cells S.kind p λC G m x=>?_;subst G;refine⟨lim.keeps x.toInCall.keep,codeAny_func ?_⟩;obtain⟨t,T,R⟩:=a5 A outer s H vs Q E (g.deeper _) Y;have I:Inv (vU CX P w K mg base N qual scope f L A outer s H E) [] (qE N vs) H m:=Kf S g.hd z M r x;refine sC (T [] m (qE N vs) H _ I R) (λF h d=>?_) λe h d=>d;have j : ∀{a:St} {H':Hp} {v:V} {u:eI},Inv (vU CX P w K mg base N qual scope f L A outer s H E) [] a H' h->RelV v u->Q v H'->CE outer P w H s Q u h:=
  λ{a H' v u} J B q=>⟨v,H',J.os,J.bare,J.base,J.iv,B,q⟩
 cases F with
 | ret u=>
  obtain⟨v,a,H',J,B,q⟩:=d;exact j J B q
 | next=>
  obtain⟨a,H',J,q⟩:=d;exact j (v:=V.hI) (u:=sR) J rfl q
 | brk=>
  obtain⟨_,_,_,q⟩:=d;exact ue q
 | cont=>
  obtain⟨_,_,_,q⟩:=d;exact ue q
section
variable{X:Cx}{x:Str}{p pos:l0}{e:g9}{es:List g9}{t:TA}{id T:String}{r:List V->Hp->VK->Prop}
noncomputable def Gp(r:List V->Hp->VK->Prop)(t:TA):TE:=λd H Q=>t d H λb a=>r b a Q
theorem xR(Y:y9 X (.builtin id) r)(z:Gl X x)(hm:X.mg x=cI)(B:C0 x=aI (.builtin id))(L:PA X (e::es) t)(hn:x ≠ "__name__":=by decide)(J:(x==("__debug__" : Str))=dV:=by decide)
 (Z:lp (e::es) X.env=(dV,hH e X.env)::lp es X.env:=by rfl) (O:(pk pos<|starEach es X.env).any (·.1)=dV:=by rfl):PE X (.Call (.Name x p) (e::es) [] pos) (Gp r t):=by
 intro a s b H Q I h;refine tL<|jP I z hm B ?_ hn J;exact tW (kr (L pos a s b H _ I h) λg f ⟨i,d,S,U,W⟩=>Y a f b d i g Q S U W) Z O
theorem xQ(Y:y9 X (.type T) r)(z:Gl X x)(hm:X.mg x=cI)(B:C0 x=aI (.type T))(L:PA X (e::es) t)(hn:x ≠ "__name__":=by decide)(J:(x==("__debug__" : Str))=dV:=by decide)
 (Z:lp (e::es) X.env=(dV,hH e X.env)::lp es X.env:=by rfl) (O:(pk pos<|starEach es X.env).any (·.1)=dV:=by rfl):PE X (.Call (.Name x p) (e::es) [] pos) (Gp r t):=by
 intro a s b H Q I h;refine tL<|jP I z hm B ?_ hn J;exact tq (kr (L pos a s b H _ I h) λg f ⟨i,d,S,U,W⟩=>Y a f b d i g Q S U W) Z O
end
end L2
namespace HT
open PySem PyProof.Rows
section
variable{prog:m3}{w:l6}{A:m7}{E:GQ}{s:g8}
theorem lV(ht:Eo s.heap t vs.toArray)(hb:Eo s.heap b z.toArray)(J:vs ≠ [])
 (L:z=[]->Q (.ref t) s) (Z:z ≠ []->Q (.ref s.heap.objs.size) {s with heap:=s.heap.push {cls:= .type "tuple",data:= .seq (vs++z).toArray}})
 (hsz:vs.length+z.length<=l4):wpAny (hR prog w) A (B4 .Add (.ref t)<|.ref b) Q E s:=by
 obtain⟨⟨cls,d,data,h⟩,B,f,n,g⟩:=id ht;obtain⟨⟨i,O,data2,S⟩,I,U,W,Y⟩:=id hb;simp only at f g U Y;subst f g U Y;have e:vs.toArray++z.toArray=(vs++z).toArray:=by simp
 by_cases a:z=[]
 ·exact Cp ⟨_,B,rfl⟩ ⟨_,I,rfl⟩ Cq Gj Bb Ba (AN _ _)
   (tuple_addW1 t b vs.toArray z.toArray n W d O h S (by simpa using J)<|by simp[a]) ⟨B,I,L a⟩
 ·refine Cp ⟨_,B,rfl⟩ ⟨_,I,rfl⟩ Cq Gj Bb Ba (AN _ _)
   (tuple_addW2 t b vs.toArray z.toArray n W d O h S (by simpa using J) (by simpa using a)<|by rw[rX,rX];exact hsz) ⟨B,I,?_⟩
  rw[e];exact Z a
noncomputable def g6(n d:Nat):Option Int->Nat
 | none=>d
 | some v=>if v<0 then (v+(n:Int)).toNat else min v.toNat n
theorem cM(n d:Nat)(I:d<=n)(o:Option Int):g6 n d o<=n:=by
 cases o with
 | none=>exact I
 | some v=>
  show(if v<0 then (v+(n:Int)).toNat else min v.toNat n)<=n;by_cases z:v<0
  ·rw[GK z];omega
  ·rw[GX z];exact Nat.min_le_right _ _
theorem KA(v:Int)(n d:Nat):(if v<0 then max (v+(n:Int)) 0 else min v (n:Int))=((g6 n d (aI v):Nat):Int):=by
 show(if v<0 then max (v+(n:Int)) 0 else min v (n:Int))=(((if v<0 then (v+(n:Int)).toNat else min v.toNat n):Nat):Int);by_cases z:v<0
 ·simp only[GK z];omega
 ·simp only[GX z];omega
theorem QH(lo I:Option Int)(n:Nat):AB lo I 1 (n:Int)=(((g6 n 0 lo:Nat):Int),((g6 n n I:Nat):Int)):=by
 have a : ¬((1:Int)<0):=by omega
 unfold AB;simp only[a,if_false];refine Prod.ext ?_ ?_
 ·cases lo with
  | none=>rfl
  | some v=>exact KA v n 0
 ·cases I with
  | none=>rfl
  | some v=>exact KA v n n
theorem Qe(i j:Nat):uN (i:Int) (j:Int) 1=j - i:=by
 unfold uN;have a:(1:Int)>0:=by omega
 simp only[a,if_true,Int.ediv_one];split<;>omega
theorem vA(p:CU v o)(h:Q o s):wpAny (hR prog w) A (Builtin.Slice.slicePartIndex v) Q E s:=by
 cases p with
 | none=>exact slicePart_none h
 | int i t=>exact slicePart_int h
theorem kX{W:eH}{z B:eI}{lo L:Option Int}{n:Nat}{Q:Int×Int×Nat->g8->Prop}(hs:s.heap.IsSliceOf W z B .none)(pl:CU z lo)(O:CU B L)
 (h:Q (((g6 n 0 lo:Nat):Int),1,g6 n n L - g6 n 0 lo) s):wpAny (hR prog w) A (Builtin.Slice.sliceApplied (.ref W)<|pure (n:Int)) Q E s:=by
 obtain⟨os,I,S,J⟩:=id hs;unfold Builtin.Slice.sliceApplied Builtin.Slice.sliceFields;refine rS<|rS<|tf I J (x:=z) rfl<|rS<|tf I J (x:=B) rfl<|rS<|tf I J (x:= .none) rfl<|rW ?_;refine rS<|slicePart_none ?_;show wpAny _ _ (if ((1:Int)==0)=cT then _ else _) _ _ s;rw[GX ⋯];refine rS<|vA pl<|rS<|vA O<|rS<|rW ?_;show wpAny _ _ (match AB lo L 1 (n:Int)with | (lo,L)=>pure (lo,(1:Int),uN lo L 1)) _ _ s;rw[QH lo L n];show wpAny _ _ (pure (((g6 n 0 lo:Nat):Int),(1:Int),uN ((g6 n 0 lo:Nat):Int) ((g6 n n L:Nat):Int) 1)) _ _ s;rw[Qe];exact rW h
theorem YE(xs:Array eI)(i k:Nat):((tJ k).filterMap λ(m:Nat)=>xs[((i:Int)+(m:Int)*1).toNat]?).toArray=((xs.toList.drop i).take k).toArray:=by
 have e:(λ(m:Nat)=>xs[((i:Int)+(m:Int)*1).toNat]?)=λm=>xs[i+m]? :=by
  funext m;have:((i:Int)+(m:Int)*1).toNat=i+m:=by omega
  rw[this]
 rw[e];have:=pick_run xs i k;rw[List.filterMap_map]at this;have a:((λx=>xs[x]?)∘λx=>i+x)=λm=>xs[i+m]? :=rfl;rw[a]at this;rw[this]
theorem QC{t Z:eH}{items:Array eI}{I J:eI}{lo L:Option Int}{Q:GQ}(z:Eo s.heap t items)(hs:s.heap.IsSliceOf Z I J .none)(pl:CU I lo)(O:CU J L)
 (hw : ¬(g6 items.size 0 lo=0/\g6 items.size items.size L=items.size))
 (h:Q (.ref s.heap.objs.size) {s with heap:=s.heap.push {cls:= .type "tuple",data:= .seq ((items.toList.drop (g6 items.size 0 lo)).take (g6 items.size items.size L - g6 items.size 0 lo)).toArray}})
 (hsz:items.size<=l4):wpAny (hR prog w) A (C7 (.ref t)<|.ref Z) Q E s:=by
 have B:sizeOk (.seq ((items.toList.drop<|g6 items.size 0 lo).take (g6 items.size items.size L - g6 items.size 0 lo)).toArray):=by show((items.toList.drop<|g6 items.size 0 lo).take (g6 items.size items.size L - g6 items.size 0 lo)).toArray.size<=l4;rw[rX,EM,List.length_drop,uJ];omega
 have b:g6 items.size items.size L<=items.size:=cM _ _ (sf _) L;obtain⟨os,S,U,a⟩:=id hs;have W:s.TypeIs (.ref Z) "slice":=⟨os,S,U⟩;unfold C7
 try with_reducible refine uf ?_
 first | refine rS (rW ?_) | skip
 refine rS (HB z.typeIs ⋯ ?_);refine rS (tH (name:=tm "__getitem__") z.typeIs tw
  (uo tw z.typeIs entry_tuple_getitem ?_ (GG _ _)))
 show wpAny _ _ (Builtin.Tuple.tupleItemsOf (.ref t) >>= _) _ _ s;refine rS<|Br z ?_;refine rS<|Bf W ?_;rw[GK ⋯];refine rS<|kX hs pl O ?_;have Y : ¬((((g6 items.size 0 lo:Nat):Int)==0 && (1:Int)==1 && (g6 items.size items.size L - g6 items.size 0 lo)==items.size)=cT):=by intro q;rw[rY,rY]at q;have d:((g6 items.size 0 lo:Nat):Int)=0:=eq_of_beq q.1.1;have e:g6 items.size items.size L - g6 items.size 0 lo=items.size:=eq_of_beq q.2;exact hw ⟨by omega,by omega⟩
 show wpAny _ _ (if (((g6 items.size 0 lo:Nat):Int)==0 && (1:Int)==1 && (g6 items.size items.size L - g6 items.size 0 lo)==items.size)=cT then _ else _) _ _ s;rw[GX Y,YE]
 first
  | exact rS (m:=tY _)<|tG (rW ⟨_,rfl,rW h⟩) B
  | exact rS (m:=tY _)<|tG (rS<|rW<|rW ⟨_,rfl,rW h⟩) B
  | exact rS<|rS (m:=tY _)<|tG (rW<|rW ⟨_,rfl,rW h⟩) B
  | exact rS<|rS (m:=tY _)<|tG (rW ⟨_,rfl,rW h⟩) B
end
end HT
namespace L2
open PySem PySem.Spec PyProof.Rows
abbrev TO:=St->Hp->(Option Int->Hp->Prop)->Prop
noncomputable def PO(X:Cx)(e:Option g9)(t:TO):Prop:=
 ∀(a:GW) (s:g8) (b:St) (H:Hp) (Q:Option Int->Hp->Prop),Inv X a b H s->t b H Q->
  wpAny (hR X.prog X.w) X.A (evalPart e X.env) (λu f=>∃o d,Inv X a b d f/\CU u o/\Q o d) X.xe s
def Wu:TO:=λ_ H Q=>Q cI H
noncomputable def ix(t:TE):TO:=λb H Q=>t b H λx a=>∃i,x = .int i/\Q (aI i) a
section
variable{X:Cx}{e:g9}{te:TE}{lo hi:Option g9}{tl th:TO}{pos p2:l0}
theorem W1:PO X cI Wu:=by intro a s b H Q I h;rw[evalPart_none];exact rW ⟨cI,H,I,.none,h⟩
theorem W0(h:PE X e te):PO X (aI e) (ix te):=by intro a s f H Q I d;rw[evalPart_some];refine kr (h a s f H _ I d) λu g z=>?_;obtain⟨x,b,B,J,O⟩:=z;obtain⟨i,rfl,q⟩:=O;obtain⟨t,rfl⟩:=J;exact⟨aI i,b,B,.int i t,q⟩
noncomputable def Et(X:Cx)(r:V->Option Int->Option Int->Hp->VK->Prop):Prop:=
 ∀(a:GW) (s:g8) (d:St) (H:Hp) (x:V) (v z B:eI) (lo hi:Option Int) (b:eH) (Q:VK),Inv X a d H s->RelV x v->s.heap.IsSliceOf b z B .none->CU z lo->CU B hi->r x lo hi H Q->
  ∃T id,Fh (.type T) "__getitem__" = pure (aI (.builtin id))/\s.TypeIs v T/\wpAny (hR X.prog X.w) X.A (C7 v (.ref b)) (EP X a d Q) X.xe s
noncomputable def Ht(r:V->Option Int->Option Int->Hp->VK->Prop)(te:TE)(tl th:TO):TE:=λa H Q=>te a H λx b=>tl a b λl d=>th a d λu z=>r x l u z Q
theorem wo(Z:Et X r)(L:PE X e te)(S:PO X lo tl)(U:PO X hi th):PE X (.Subscript e (.Slice lo hi cI p2) pos) (Ht r te tl th):=by intro a s d H Q I h;refine Fm (kr (L a s d H _ I h) λv G W=>?_);obtain⟨x,f,Y,F,y⟩:=W;refine wpAny_Slice (kr (S a G d f _ Y y) λB K ⟨l,g,i,p,C⟩=>kr (U a K d g _ i C) λJ z ⟨u,O,j,t,E⟩=>?_);rw[evalPart_none];refine rW ?_;have k:Inv X a d O {z with heap:=z.heap.push {cls:= .type "slice",data:= .fields #[B,J,.none]}}:=j.kept (t':=z.toks) λb M q=>rT _ q;obtain⟨T,id,m,o,n⟩:=Z a {z with heap:=z.heap.push {cls:= .type "slice",data:= .fields #[B,J,.none]}} d O x v B J l u z.heap.objs.size Q k F (Heap.IsSliceOf.new ..) p t E;show wpAny (hR X.prog X.w) X.A (Gk e (.Slice lo hi cI p2) v (.ref z.heap.objs.size)) (EP X a d Q) X.xe {z with heap:=z.heap.push {cls:= .type "slice",data:= .fields #[B,J,.none]}};exact tail_any (ops:=[.ref z.heap.objs.size,v]) o m n (by with_unfolding_all rfl)
noncomputable def Vn(xs:List V)(lo hi:Option Int):List V:=(xs.drop<|HT.g6 xs.length 0 lo).take (HT.g6 xs.length xs.length hi - HT.g6 xs.length 0 lo)
theorem yS(xs:List V)(lo hi:Option Int):(Vn xs lo hi).length<=xs.length:=by unfold Vn;rw[EM,List.length_drop];omega
noncomputable def pH(K:rR):V->Option Int->Option Int->Hp->VK->Prop:=λx lo hi H Q=>∃a b,x = .ref a/\mu K H a b/\
 ¬(HT.g6 b.length 0 lo=0/\HT.g6 b.length b.length hi=b.length)/\∀p,H p=cI->Q (.ref p) (upd H p<|.tup<|Vn b lo hi)
theorem cE:Et X (pH X.K):=by
 intro e s m H x v W Y lo hi l Q I O f j S h;obtain⟨a,d,rfl,i,g,q⟩:=h;cases O;obtain⟨U,r,B,J⟩:=I.tuple i;have z:U.toArray.size=d.length:=by rw[rX];exact r.length.symm
 refine⟨"tuple",_,tw.lookup,B.typeIs,?_⟩;refine HT.QC B f j S (by rw[z];exact g) ?_ (by rw[z];exact J);rw[z];refine⟨.ref s.heap.objs.size,_,I.laid (t':=s.toks) (o:= .tup (Vn d lo hi)) (λb k q=>rT _ q) (sf _) ?_,rfl,q _ (I.iv.fresh (sf _))⟩;exact⟨sF (yS d lo hi) J,_,(r.drop (HT.g6 d.length 0 lo)).take (HT.g6 d.length d.length hi - HT.g6 d.length 0 lo),CJ.new _ _⟩
theorem kA.E5(r:kA xs us):us=[]↔xs=[]:=by
 cases r with
 | nil=>simp
 | cons _ _=>simp
end
noncomputable def DO(n:Nat)(i:Int):Option Nat:=if 0<=i then (if i<n then aI i.toNat else cI)else if -(n:Int)<=i then aI (i+n).toNat else cI
noncomputable def DY{I:Type}(xs:List I)(i:Int):Option I:=(DO xs.length i).bind λj=>xs[j]?
theorem Kb(h:DO n i=aI j):seqIndex? i n=aI j/\j<n/\ -(n:Int)<=i/\i<n:=by
 unfold DO at h;by_cases b:0<=i
 ·rw[GK b]at h
  by_cases a:i<n
  ·rw[GK a]at h
   have e:i.toNat=j:=sJ h;exact⟨by rw[seqIndex_of b a,e],by omega,by omega,a⟩
  ·rw[GX a]at h;cases h
 ·rw[GX b]at h
  by_cases a : -(n:Int)<=i
  ·rw[GK a]at h
   have e:(i+n).toNat=j:=sJ h;exact⟨by rw[seqIndex_neg ⋯ a,e],by omega,a,by omega⟩
  ·rw[GX a]at h;cases h
theorem KO(h:DY xs i=aI v) : ∃j,seqIndex? i xs.length=aI j/\xs[j]? = aI v/\j<xs.length/\ -(xs.length:Int)<=i/\i<xs.length:=by
 unfold DY at h;cases e:DO xs.length i with
 | none=>rw[e]at h;cases h
 | some j=>
  rw[e]at h;obtain⟨a,b,z,B⟩:=Kb e;exact⟨j,a,h,b,z,B⟩
def KS(b:g9):Prop:=∀o i,FI b dV o i=operate [o,i] (C7 o i)
noncomputable def Dy(X:Cx)(r:R2):Prop:=
 ∀(b z:g9) (a:GW) (s:g8) (d:St) (H:Hp) (x y:V) (v u:eI) (Q:VK),Inv X a d H s->RelV x v->RelV y u->r x y H Q->
  FI z dV v u=operate [v,u] (C7 v u)->wpAny (hR X.prog X.w) X.A (Gk b z v u) (EP X a d Q) X.xe s
noncomputable def ET(X:Cx)(id:String)(r:V->List V->Hp->VK->Prop):Prop:=
 ∀(a:GW) (s:g8) (e:St) (H:Hp) (x:V) (d:List V) (v:eI) (b:List eI) (Q:VK),Inv X a e H s->RelV x v->kA d b->r x d H Q->
  wpAny (hR X.prog X.w) X.A (call (.builtin id) (v::b)) (EP X a e Q) X.xe s
section
variable{X:Cx}{a b:g9}{ta tb:TE}{pos:l0}
theorem Dy.or(h:Dy X r)(h':Dy X r'):Dy X (λx y H Q=>r x y H Q\/r' x y H Q):=by
 intro a z b s e H x y v u Q I B J q d;rcases q with q | q
 ·exact h a z b s e H x y v u Q I B J q d
 ·exact h' a z b s e H x y v u Q I B J q d
theorem lj(S:Dy X r)(L:PE X a ta)(O:PE X b tb)(hs:KS b):PE X (.Subscript a b pos) (Ef r ta tb):=by intro d s g H Q I h;exact Fm<|lW L O I h λv u f x y e z B J q=>S a b d f g e x y v u Q z B J q<|hs _ _
noncomputable def pM(K:rR):R2:=λx y H Q=>∃p a i v,x = .ref p/\y = .int i/\l8 K H p a/\DY a i=aI v/\Q v H
noncomputable def pL(K:rR):R2:=λx y H Q=>∃p a i v,x = .ref p/\y = .int i/\mu K H p a/\DY a i=aI v/\Q v H
theorem G9:Dy X (pM X.K):=by
 intro e F a s k H x y v u Q I S U h g;obtain⟨p,N,i,z,rfl,rfl,C,o,q⟩:=h;cases S;obtain⟨t,rfl⟩:=U;obtain⟨W,r,d,M⟩:=I.list C;obtain⟨j,b,m,G,Y,n⟩:=KO o;obtain⟨w,J,l⟩:=r.get m;have A:=r.length;have L:=Zr;have O:EP X a k Q w s:=⟨z,H,I,l,q⟩;by_cases f:0<=i
 ·have B:i.toNat=j:=by
   rw[seqIndex_of f n]at b;exact sJ b
  exact item_listR d.isList f ⋯ (by rw[B];simpa using J) O g
 ·have B:(i+(W.toArray.size:Int)).toNat=j:=by
   rw[seqIndex_neg ⋯ Y]at b;rw[rX,<- A];exact sJ b
  exact Hq (x:=w) d.isList.typeIs Cn.lookup
   (wpAny_getItem_list_neg (Q:=λr E=>r=w/\EP X a k Q r E) d.isList ⋯ (by rw[rX]<;>omega) ⋯ (by rw[B];simpa using J) ⟨rfl,O⟩) g
theorem eW:Dy X (pL X.K):=by
 intro b Y a s e H x y v u Q I B J h m;obtain⟨p,L,i,z,rfl,rfl,l,k,q⟩:=h;cases B;obtain⟨t,rfl⟩:=J;obtain⟨o,r,d,G⟩:=I.tuple l;obtain⟨j,f,g,A,C,E⟩:=KO k;obtain⟨w,O,S⟩:=r.get g;have U:=r.length;have F:=Zr;have W:EP X a e Q w s:=⟨z,H,I,S,q⟩;exact Hq (x:=w) d.typeIs slot_tuple_getitem.lookup
  (getItem_tuple (j:=j) (Q:=λr n=>r=w/\EP X a e Q r n) d ⋯ ⋯ (by rw[rX,<- U];exact f) (by simpa using O) ⟨rfl,W⟩) m
theorem Qo(z:List eI)(n j:Nat)(u:eI):tj (·.setIfInBounds j u) {cls:= .type "list",data:= .seq z.toArray n} = {cls:= .type "list",data:= .seq (z.set j u).toArray n}:=by simp[tj]
theorem Inv.lst(I:Inv X pins σ H s)(h:H p=aI (.lst xs)) :
 ∃(B:List eI) (n:Nat),kA xs B/\s.heap.get? p=aI {cls:= .type "list",data:= .seq B.toArray n}/\xs.length<=l4:=by
 obtain⟨z,B,n,r,e⟩:=I.iv p _ h;exact⟨B,n,r,e,z⟩
theorem Inv.Hc{L:GW}{W:St}{H:Hp}{s:g8}{p:eH}{xs ys:List V}{B its':List eI}{n z:Nat}{f:n7->n7}(I:Inv X L W H s)(h:H p=aI (.lst xs))
 (J:s.heap.get? p=aI {cls:= .type "list",data:= .seq B.toArray n}) (S:f {cls:= .type "list",data:= .seq B.toArray n} = {cls:= .type "list",data:= .seq its'.toArray z}) (r:kA ys its') (O:ys.length<=l4) (t:Nat) :
 Inv X L W (upd H p<|.lst ys) {s with heap:=s.heap.update p f,toks:=t}:=by
 have e:(s.heap.update p f).get? p=aI {cls:= .type "list",data:= .seq its'.toArray z}:=by rw[uU f J (by rw[S]<;>rfl),S]
 refine I.write (x:=p) (e:=p) (by rw[h];trivial) (.inl rfl) (λb u a q=>(sN _ _<|tE a).trans q) ⟨_,e⟩ ?_;exact⟨O,its',z,r,e⟩
noncomputable def iS:V->V->V->Hp->(Hp->Prop)->Prop:=λo i v H Q=>∃p a k j,o = .ref p/\i = .int k/\H p=aI (.lst a)/\DO a.length k=aI j/\Q (upd H p<|.lst<|a.set j v)
theorem Yl:oP X iS:=by
 intro a s y H o i v F E u Q I m l w h;obtain⟨p,x,k,j,rfl,rfl,e,f,q⟩:=h;cases m;obtain⟨t,rfl⟩:=l;obtain⟨O,n,r,z,g⟩:=I.lst e;obtain⟨b,A,S,U⟩:=Kb f;have B:=r.length;have C:=Zr;have Y:Inv X a y (upd H p<|.lst<|x.set j v) {s with heap:=s.heap.update p (tj (·.setIfInBounds j u))}:=
  I.Hc e z (Qo O n j u) (r.set w j) (by rw[List.length_set];exact g) s.toks
 by_cases d:0<=k
 ·have J:k.toNat=j:=by
   rw[seqIndex_of d U]at b;exact sJ b
  exact PySem.W.ki_setAt z d ⋯ (by rw[rX,<- B];exact U) (by rw[J];exact⟨_,Y,q⟩)
 ·have J:(k+(O.toArray.size:Int)).toNat=j:=by
   rw[seqIndex_neg ⋯ S]at b;rw[rX,<- B];exact sJ b
  exact PySem.W.ki_setBack z ⋯ (by rw[rX,<- B];exact S) ⋯ (by rw[J];exact⟨_,Y,q⟩)
theorem wY(lo I:Option Int)(n:Nat):(Dg lo I cI n).1=((HT.g6 n 0 lo:Nat):Int)/\(Dg lo I cI n).2.1=((HT.g6 n n I:Nat):Int)/\(Dg lo I cI n).2.2=1:=by
 refine⟨?_,?_,rfl⟩
 ·cases lo with
  | none=>simp[Dg,HT.g6]
  | some i=>
   simp only[Dg,HT.g6,Option.getD_none,show(1:Int)>0 by decide,if_true];by_cases h:i<0
   ·simp only[h,if_true]<;>omega
   ·simp only[h,if_false]<;>omega
 ·cases I with
  | none=>simp[Dg,HT.g6]
  | some i=>
   simp only[Dg,HT.g6,Option.getD_none,show(1:Int)>0 by decide,if_true];by_cases h:i<0
   ·simp only[h,if_true]<;>omega
   ·simp only[h,if_false]<;>omega
theorem wb(z:List eI)(lo I:Option Int):FG z.toArray lo I cI=((z.drop<|HT.g6 z.length 0 lo).take (HT.g6 z.length z.length I - HT.g6 z.length 0 lo)).toArray:=by obtain⟨a,b,B⟩:=wY lo I z.toArray.size;unfold FG;rw[a,b,B];simp only[sliceRange_one,pick_run,rX]<;>rfl
noncomputable def pJ(K:rR):V->Option Int->Option Int->Hp->VK->Prop:=λx lo d H Q=>∃a b,x = .ref a/\l8 K H a b/\∀p,H p=cI->Q (.ref p) (upd H p<|.lst<|Vn b lo d)
theorem WE:Et X (pJ X.K):=by intro f s m H x v U W lo e l Q I B g j J h;obtain⟨a,d,rfl,i,q⟩:=h;cases B;obtain⟨Y,r,z,O⟩:=I.list i;have S:=r.length;refine⟨"list",_,Cn.lookup,z.isList.typeIs,?_⟩;refine HA z.isList g j J .none ⋯ ?_ (by rw[rX]<;>omega);rw[wb,<- S];refine⟨.ref s.heap.objs.size,_,I.laid (t':=s.toks) (o:= .lst (Vn d lo e)) (λb k q=>rT _ q) (sf _) ?_,rfl,q _ (I.iv.fresh (sf _))⟩;exact⟨sF (yS d lo e) O,_,0,(r.drop (HT.g6 d.length 0 lo)).take (HT.g6 d.length d.length e - HT.g6 d.length 0 lo),se _ rfl⟩
noncomputable def vj:V->Bool
 | .hI=>cT
 | .bl _=>cT
 | .int _=>cT
 | .str _=>cT
 | _=>dV
noncomputable def C4:V->V->Bool
 | .hI,.hI=>cT
 | .bl a,.bl b=>a==b
 | .bl a,.int b=>(if a then 1 else 0)==b
 | .int a,.bl b=>a==(if b then 1 else 0)
 | .int a,.int b=>a==b
 | .str a,.str b=>a==b
 | _,_=>dV
theorem fm(B:RelV y u)(z:RelV x v)(J:vj y=cT)(I:vj x=cT):tu A s u v (C4 y x):=by
 cases y with
 | hI=>
  cases B;cases x with
  | hI=>cases z;exact tu.same _
  | bl b=>cases z;exact tu.none_bool b
  | int b=>obtain⟨t,rfl⟩:=z;exact tu.none_int b t
  | str b=>obtain⟨t,rfl⟩:=z;exact tu.none_str b t
  | _=>exact absurd (show dV=cT from I) sh
 | bl a=>
  cases B;cases x with
  | hI=>cases z;exact tu.bool_none a
  | bl b=>cases z;exact tu.bool_bool a b
  | int b=>obtain⟨t,rfl⟩:=z;exact tu.bool_int a b t
  | str b=>obtain⟨t,rfl⟩:=z;exact tu.bool_str a b t
  | _=>exact absurd (show dV=cT from I) sh
 | int a=>
  obtain⟨d,rfl⟩:=B;cases x with
  | hI=>cases z;exact tu.int_none a d
  | bl b=>cases z;exact tu.int_bool a d b
  | int b=>obtain⟨t,rfl⟩:=z;exact Bn a d b t
  | str b=>obtain⟨t,rfl⟩:=z;exact tu.int_str a d b t
  | _=>exact absurd (show dV=cT from I) sh
 | str a=>
  obtain⟨d,rfl⟩:=B;cases x with
  | hI=>cases z;exact tu.str_none a d
  | bl b=>cases z;exact tu.str_bool a d b
  | int b=>obtain⟨t,rfl⟩:=z;exact tu.str_int a d b t
  | str b=>obtain⟨t,rfl⟩:=z;exact tu.str_str a d b t
  | _=>exact absurd (show dV=cT from I) sh
 | _=>exact absurd (show dV=cT from J) sh
noncomputable def A2(x:V)(u:eI):Bool:=match u with
 | .none=>C4 .hI x
 | .bool b=>C4 (.bl b) x
 | .int i _=>C4 (.int i) x
 | .str z _=>C4 (.str z) x
 | _=>dV
theorem Wi(r:RelV y u)(f:vj y=cT):A2 x u=C4 y x:=by
 cases y with
 | hI=>cases r;rfl
 | bl b=>cases r;rfl
 | int i=>obtain⟨t,rfl⟩:=r;rfl
 | str z=>obtain⟨t,rfl⟩:=r;rfl
 | _=>exact absurd (show dV=cT from f) sh
theorem yU : ∀{xs:List V} {us:List eI},kA xs us->xs.all vj=cT->us.any (A2 x)=xs.any λy=>C4 y x
 | _,_,.nil,_=>rfl
 | y::xs,u::us,.cons r t,f=>by rw[Al,rY]at f;rw[Bh,Bh,Wi r f.1,yU t f.2]
theorem xU(B:RelV x v)(I:vj x=cT) : ∀{xs:List V} {us:List eI},kA xs us->xs.all vj=cT->∀u∈us,tu A s u v (A2 x u)
 | _,_,.nil,_=>λu z=>by cases z
 | y::xs,u::us,.cons r t,f=>λJ z=>by
  rw[Al,rY]at f;rcases sd.mp z with rfl | z
  ·rw[Wi r f.1];exact fm r B f.1 I
  ·exact xU B I t f.2 J z
def CN(x:V)(xs:List V):Bool:=xs.any λy=>C4 y x
noncomputable def Gi(K:rR)(z:Bool):R2:=λx y H Q=>∃p a,y = .ref p/\(l8 K H p a\/mu K H p a)/\vj x=cT/\a.all vj=cT/\Q (.bl<|if z then !CN x a else CN x a) H
theorem yB:m6 X (p5 .In) (Gi X.K dV):=by
 intro d s f H x y v u Q I B O h;obtain⟨p,e,rfl,hq,J,fs,q⟩:=h;cases O;rcases hq with hq | hq
 ·obtain⟨z,r,b,S⟩:=I.list hq
  refine SeqAt.in_listAt (A2 x) b.isList (λw a=>xU B J r fs w<|by simpa using a) ⟨.bl _,H,I,rfl,?_⟩;rw[show z.toArray.any (A2 x)=z.any (A2 x)by simp,yU r fs];exact q
 ·obtain⟨z,r,b,S⟩:=I.tuple hq
  refine SeqAt.in_tupleAt (A2 x) b (λw a=>xU B J r fs w<|by simpa using a) ⟨.bl _,H,I,rfl,?_⟩;rw[show z.toArray.any (A2 x)=z.any (A2 x)by simp,yU r fs];exact q
theorem kR:m6 X (p5 .NotIn) (Gi X.K cT):=by
 intro d s f H x y v u Q I B O h;obtain⟨p,e,rfl,hq,J,fs,q⟩:=h;cases O;rcases hq with hq | hq
 ·obtain⟨z,r,b,S⟩:=I.list hq
  refine SeqAt.notIn_listAt (A2 x) b.isList (λw a=>xU B J r fs w<|by simpa using a) ⟨.bl _,H,I,rfl,?_⟩;rw[show z.toArray.any (A2 x)=z.any (A2 x)by simp,yU r fs];exact q
 ·obtain⟨z,r,b,S⟩:=I.tuple hq
  refine SeqAt.notIn_tupleAt (A2 x) b (λw a=>xU B J r fs w<|by simpa using a) ⟨.bl _,H,I,rfl,?_⟩;rw[show z.toArray.any (A2 x)=z.any (A2 x)by simp,yU r fs];exact q
theorem ZJ:y9 X (.builtin "len") (λxs H Q=>∃p ys,xs=[.ref p]/\(l8 X.K H p ys\/mu X.K H p ys)/\Q (.int ys.length) H):=by
 intro b s f H xs e Q I r h;obtain⟨p,ys,rfl,hq,q⟩:=h;obtain⟨u,rfl,J⟩:=qC r;cases J;have d:=Zr;rcases hq with hq | hq
 ·obtain⟨O,z,a,S⟩:=I.list hq
  have B:=z.length;exact Calls.call_len_list a.isList (by simp only[rX]<;>omega) ⟨.int ys.length,H,I.tok _,⟨s.toks+1,by rw[rX,B]⟩,q⟩
 ·obtain⟨O,z,a,S⟩:=I.tuple hq
  have B:=z.length;exact len_tuple a (by simp only[rX]<;>omega) ⟨.int ys.length,H,I.tok _,⟨s.toks+1,by rw[rX,B]⟩,q⟩
theorem ZI:y9 X (.type "list") (λxs H Q=>∃p ys,xs=[.ref p]/\(l8 X.K H p ys\/mu X.K H p ys)/\∀l,H l=cI->Q (.ref l) (upd H l (.lst ys))):=by
 intro f s m H xs t Q I r h;obtain⟨p,ys,rfl,hq,q⟩:=h;obtain⟨u,rfl,W⟩:=qC r;cases W;have U : ∀(z:List eI),kA ys z->ys.length<=l4->∀(a:il) (B:Nat),(∀b k,s.heap.get? b=aI k->a.get? b=aI k)->
  a.get? s.heap.objs.size=aI {cls:= .type "list",dict:=cI,data:= .seq z.toArray B,slots:=#[]}->EP X f m Q (.ref s.heap.objs.size) {s with heap:=a}:=λz J O a B d e=>
  ⟨.ref s.heap.objs.size,_,I.laid (t':=s.toks) d (sf _) (show m8 X.prog X.w _ a _ (.lst ys)from⟨O,z,B,J,e⟩),rfl,q _<|I.iv.fresh<|sf _⟩
 rcases hq with hq | hq
 ·obtain⟨z,J,j,O⟩:=I.list hq
  have Y:=J.length;obtain⟨o,S,g,n,i⟩:=j.isList;exact call_list_seq p (.inl rfl) S g i (λa B d e=>U z J O a B d e) (by simp only[rX]<;>omega)
 ·obtain⟨z,J,j,O⟩:=I.tuple hq
  have Y:=J.length;obtain⟨o,S,g,n,i⟩:=j;exact call_list_seq p (.inr rfl) S g i (λa B d e=>U z J O a B d e) (by simp only[rX]<;>omega)
theorem wI:y9 X (.type "tuple") (λxs H Q=>∃p ys,xs=[.ref p]/\((l8 X.K H p ys/\∀l,H l=cI->Q (.ref l) (upd H l (.tup ys)))\/(mu X.K H p ys/\Q (.ref p) H))):=by
 intro a s i H xs k Q I r h;obtain⟨p,ys,rfl,h⟩:=h;obtain⟨u,rfl,S⟩:=qC r;cases S;rcases h with⟨f,q⟩ | ⟨f,q⟩
 ·obtain⟨z,B,g,J⟩:=I.list f
  have W:=B.length;refine call_tuple_list g.isList (λd j=>?_) (by simp only[rX]<;>omega);have O:Inv X a i H {s with heap:=d}:=I.kept (t':=s.toks) j;have U:Inv X a i (upd H d.objs.size (.tup ys)) {s with heap:=d.push {cls:= .type "tuple",data:= .seq z.toArray}}:=
   O.laid (t':=s.toks) (λb o e=>rT _ e) (sf _) (show m8 X.prog X.w _ _ _ (.tup ys)from⟨J,z,B,CJ.new _ _⟩)
  exact⟨.ref d.objs.size,_,U,rfl,q _<|O.iv.fresh<|sf _⟩
 ·obtain⟨z,B,g,J⟩:=I.tuple f
  exact call_tuple_same g ⟨.ref p,H,I,rfl,q⟩
noncomputable def Gv(K:rR)(T:String)(x:V)(H:Hp):Prop:=match x with
 | .str _=>T = "str"
 | .int _=>T = "int"
 | .ref p=>(T = "list"/\∃b,l8 K H p b)\/(T = "tuple"/\∃o,K.lookup p=aI o/\o.cls = .type "tuple"/\o.dict=cI)\/
  (T = "dict"/\((∃a,H p=aI (.dK a))\/∃a,H p=aI (.dT a)))\/(T = "set"/\∃S n,H p=aI (.set S n))
 | _=>False
theorem bV(I:Inv X pins σ H s)(r:RelV x v)(ty:Gv X.K T x H) :
 s.TypeIs v T/\∀a,v = .ref a->∃J,s.heap.get? a=aI J/\J.dict=cI:=by
 cases x with
 | str z=>
  obtain⟨t,rfl⟩:=r;cases (show T = "str" from ty);exact⟨BI s z t,λ_ e=>nomatch e⟩
 | int i=>
  obtain⟨t,rfl⟩:=r;cases (show T = "int" from ty);exact⟨Ck s i t,λ_ e=>nomatch e⟩
 | ref p=>
  cases r;rcases ty with⟨rfl,l,k⟩ | ⟨rfl,o,B,j,f⟩ | ⟨rfl,B⟩ | ⟨rfl,S,n,B⟩
  ·obtain⟨O,_,h,_⟩:=I.list k
   refine⟨h.isList.typeIs,λa e=>?_⟩;cases e;obtain⟨o,n,e,c,f,_⟩:=h;exact⟨o,e,f⟩
  ·refine⟨⟨o,I.m4 p o B,j⟩,λa e=>?_⟩
   cases e;exact⟨o,I.m4 _ o B,f⟩
  ·have z : ∃o,s.heap.get? p=aI o/\o.ExactDict:=by
    rcases B with⟨g,B⟩ | ⟨g,B⟩
    ·obtain⟨_,_,_,_,o,_,_,e,b,_⟩:=I.iv p _ B
     exact⟨o,e,b⟩
    ·obtain⟨_,_,_,_,o,_,_,e,b,_⟩:=I.iv p _ B
     exact⟨o,e,b⟩
   obtain⟨o,e,b⟩:=z;refine⟨⟨o,e,b.1⟩,λa d=>?_⟩;cases d;exact⟨o,e,b.2.1⟩
  ·obtain⟨o,_,_,_,e,b,_⟩:=I.iv p _ B
   refine⟨⟨o,e,b.1⟩,λa d=>?_⟩;cases d;exact⟨o,e,b.2.1⟩
 | _=>exact ue ty
noncomputable def Gn(K:rR)(T:String)(r:V->List V->Hp->VK->Prop)(to:TE)(t:TA):TE:=λb H Q=>to b H λx a=>Gv K T x a/\t b a λe d=>r x e d Q
variable{o e:g9}{es:List g9}{to:TE}{t:TA}{name:Str}{apos cpos:l0}{T id:String}{r:V->List V->Hp->VK->Prop}
theorem YL(O:PlainAttrs T)(L:Slot T name id)(S:typeOf (.builtin id)=pure (.type "method_descriptor"))(hm:ET X id r)(U:PE X o to)(ha:PA X (e::es) t)
 (W:D0 o name X.env (hH o X.env)=hH o X.env:=by rfl)
 (Y:((pk cpos<|starEach (e::es) X.env).all (λx=> !x.1) && (DD cpos<|keywordEach [] X.env).all (λx=>x.1.isSome)
   && decide ((e::es).length+([]:List CV).length+(if ([]:List CV).isEmpty then 0 else 1)<30))=cT:=by rfl)
 (Z:(apos.endLine==cpos.line)=cT:=by rfl) (hs:lp (e::es) X.env=(dV,hH e X.env)::lp es X.env:=by rfl) (a2:(pk cpos<|starEach es X.env).any (·.1)=dV:=by rfl) :
 PE X (.Call (.Attribute o name apos) (e::es) [] cpos) (Gn X.K T r to t):=by
 intro a s b H Q I h;refine wpAny_Call_method_late W Y Z rfl<|kr (U a s b H _ I h) λv p k=>?_;obtain⟨x,d,z,B,ty,l⟩:=k;obtain⟨i,j⟩:=bV z B ty;refine⟨T,id,O,L,S,i,j,?_⟩;have J:=ha cpos a p b d _ z l;rw[hs]at J ⊢;refine Calls.callWith_builtin (by show(dV || (pk cpos<|starEach es X.env).any (·.1))=dV;rw[a2]<;>rfl)<|Calls.evalArgs_plain ?_;exact kr J λw u ⟨y,f,g,n,m⟩=>hm a u b f x y v w Q g B n m
end
noncomputable def GC(X:Cx)(id:String)(r:V->List V->Hp->VK->Prop):Prop:=
 ∀(a:GW) (s:g8) (e:St) (H:Hp) (x:V) (d:List V) (v:eI) (b:List eI) (Q:VK),Inv X a e H s->RelV x v->kA d b->r x d H Q->
  wpAny (hR X.prog X.w) X.A (call (.builtin id) (v::b)) (EP X a e Q) X.xe s
theorem kA.one : ∀{x:V} {us:List eI},kA [x] us->∃u,us=[u]/\RelV x u
 | _,_,.cons r .nil=>⟨_,rfl,r⟩
theorem kA.dropLast(h:kA xs us):kA xs.dropLast us.dropLast:=by
 induction h with
 | nil=>exact .nil
 | cons r t z=>
  cases t with
  | nil=>exact .nil
  | cons q a=>exact .cons r z
theorem kA.rep(h:kA xs us) : ∀k:Nat,kA (so k xs).flatten (so k us).flatten
 | 0=> .nil
 | k+1=>by rw[uu,uu,uW,uW];exact kA.append h<|kA.rep h k
theorem yP(z:List eI) : ∀(k:Nat) (acc:List eI),
 BU (λI B=>I++B) acc.toArray (so k z.toArray)=(acc++(so k z).flatten).toArray
 | 0,acc=>by simp
 | k+1,acc=>by
  have e:acc.toArray++z.toArray=(acc++z).toArray:=by simp
  have a:(acc++z)++(so k z).flatten=acc++(so (k+1) z).flatten:=by rw[uu,uW,List.append_assoc]
  rw[<- a,<- yP z k (acc++z),<- e,uu,List.foldl_cons]
section
variable{X:Cx}{pins:GW}{σ:St}{H:Hp}{s:g8}{l b:eH}{xs ys zs:List V}
theorem Inv.Ge{z its':List eI}{n:Nat}{f:Array eI->Array eI}{t':Nat}(I:Inv X pins σ H s)(B:H l=aI (.lst xs))
 (e:s.heap.get? l=aI {cls:= .type "list",data:= .seq z.toArray n}) (L:f z.toArray=its'.toArray) (J:kA ys its') (O:ys.length<=l4) :
 Inv X pins σ (upd H l<|.lst ys) {s with heap:=s.heap.update l<|tj f,toks:=t'}:=by
 have q:=PySem.IsL.update e f;rw[L]at q;refine I.write (x:=l) (e:=l) (by rw[B];exact trivial) (.inl rfl) (λU u a S=>(sN s.heap (tj f)<|tE a).trans S) ⟨_,q⟩ ?_;exact⟨O,its',_,J,q⟩
theorem Inv.E3(I:Inv X pins σ H s)(B:kA ys z)(J:ys.length<=l4) :
 Inv X pins σ (upd H s.heap.objs.size (.lst ys)) {s with heap:=s.heap.push {cls:= .type "list",data:= .seq z.toArray},toks:=t'}:=
 I.laid (λ_ _ q=>rT _ q) (sf _) ⟨J,z,0,B,se _ rfl⟩
theorem Inv.fresh(I:Inv X pins σ H s):H s.heap.objs.size=cI:=I.iv.fresh<|sf _
theorem Inv.D8(I:Inv X pins σ H s)(J:H l=aI (.lst xs)):xs.length<=l4/\∃(B:List eI) (n:Nat),kA xs B/\xs.length=B.length/\s.heap.get? l=aI {cls:= .type "list",data:= .seq B.toArray n}:=by obtain⟨z,B,n,r,e⟩:=I.iv l _ J;exact⟨z,B,n,r,r.length,e⟩
theorem YZ(h:n<=l4):AF n=dV:=by unfold AF;exact decide_eq_false ⋯
end
section
variable{X:Cx}
noncomputable def Xf:V->List V->Hp->VK->Prop:=λx b H Q=>∃l a y,x = .ref l/\b=[y]/\H l=aI (.lst a)/\a.length<l4/\Q .hI (upd H l<|.lst<|a++[y])
theorem X3:GC X "list.append" Xf:=by intro a s g H x d v b Q I O S h;obtain⟨l,f,y,rfl,rfl,B,W,q⟩:=h;cases O;obtain⟨u,rfl,U⟩:=S.one;obtain⟨z,J,n,r,Y,e⟩:=I.D8 B;refine uR F.slot_list_append ⟨_,e,rfl⟩ F.entry_list_append (F.args_list_append_2 _ _) (PySem.list_append l J.toArray n u (by rw[rX];omega)) ⟨e,?_⟩;refine⟨.hI,_,I.Ge (its':=J++[u]) B e ⋯ (r.append (.cons U .nil)) ?_,rfl,q⟩;rw[ug,Bp];omega
noncomputable def pK:R2:=λx y H Q=>∃l k a,x = .ref l/\y = .int k/\H l=aI (.lst a)/\ -(2 ^ 63)<=k/\k<2 ^ 63/\a.length*k.toNat<=l4/\
 ∀p,H p=cI->Q (.ref p) (upd H p<|.lst (so k.toNat a).flatten)
theorem Jg(xs:List α)(k:Nat):(so k xs).flatten.length=k*xs.length:=by
 induction k with
 | zero=>simp
 | succ k z=>rw[uu,uW,ug,z,Nat.succ_mul,Nat.add_comm]
theorem dU:m6 X (B4 .Mult) pK:=by
 intro d s L H x y v u Q I S W h;obtain⟨l,k,K,rfl,rfl,Y,w,A,O,q⟩:=h;cases S;obtain⟨t,rfl⟩:=W;obtain⟨z,B,n,r,C,e⟩:=I.D8 Y;have f:B.toArray.size*k.toNat<=l4:=by rw[rX,<- C];exact O
 have g : ¬B.toArray.size*k.toNat>(2 ^ 63 - 1)/8:=by
  have:(l4:Nat)<=(2 ^ 63 - 1)/8:=by decide
  omega
 have i : ¬(!Builtin.List.listFitsIndex k)=cT:=by rw[fitsIndex_both w A];exact sh
 have j : ¬AF (B.toArray.size*k.toNat)=cT:=by rw[YZ f];exact sh
 have o:BU (λb J=>b++J) #[] (so (if B.toArray.isEmpty=cT then 0 else k.toNat) B.toArray)=(so k.toNat B).flatten.toArray:=by
  have p : ∀m:Nat,BU (λb J=>b++J) #[] (so m B.toArray)=(so m B).flatten.toArray:=λm=>by have:=yP B m [];rw[List.nil_append]at this;exact this
  rw[p];cases B with
  | nil=>simp
  | cons a G=>rw[GX ⋯]
 refine wpAny_binaryOp_repeat_ref (T:="list") (U:="int") ⋯ ⟨_,e,rfl⟩ (λE=>Ck E k t) noFill_list_mul F.fills_int_mul Bz repeat_list F.slot_int_index.lookup
  (uR Bz (Ck s k t) F.entry_int_rmul (F.args_int_rmul_2 _ _) (int___rmul___int_list k t l B.toArray n)
    ⟨e,rfl,⟨_,e,rfl⟩,uR F.slot_list_mul ⟨_,e,rfl⟩ F.entry_list_mul (F.args_list_mul_2 _ _) (AutoListH.list___mul___list_int_3 l B.toArray n k t i g j) ⟨e,?_⟩⟩)
 rw[o];exact⟨.ref _,_,I.E3 (t':=s.toks) (r.rep k.toNat) (by rw[Jg,Nat.mul_comm];exact O),rfl,q _ I.fresh⟩
end
end L2
namespace Att
open PySem PySem.W PySem.Calls PyProof.Rows
theorem yL : ∀(I:List Int) (vs:List eI),WellAll P h vs (I.map WData.int)->EO vs I:=by
 intro I
 induction I with
 | nil=>
  intro vs w;rw[List.map_nil]at w;cases w;exact .nil
 | cons n I z=>
  intro vs w;rw[sL]at w;cases w with
  | cons a b=>
   cases a;exact .cons _ _<|z _ b
theorem Q3{l:OpenLaw}{n:Nat}(Z:l.most=aI n){P:Params}{h:il}{args:List WData}{I:List eI}
 (J:l.row.toRowW.claim.pre args=cT) (O:WellAll P h I args) :
 ∃a vs L,I=[sk a]/\args=[WData.list (L.map WData.int)]/\h.get? a=aI {cls:= .type "list",data:= .seq vs.toArray}/\EO vs L/\L.length<=n:=by
 have S:WShape.hasAll [] args [.list .int]=cT:=(pre_splitW J).1;have b:l.pre.holds [] {args:=args}=cT:=(pre_splitW J).2;obtain⟨d,r,rfl,f,g⟩:=hasAllW_cons S;obtain rfl:=hasAllW_nil g;obtain⟨m,rfl,U⟩:=hasW_list f;obtain⟨L,rfl⟩:=items_int U;have W:L.length<=n:=by
  unfold OpenLaw.pre at b;have z:(WTm.not<|.lt (.lit<|.int (n:Int))<|.len<|.arg 0).holds [] {args:=[.list (L.map .int)]}=cT:=by have z:=(holds_andW b).1;rw[Z]at z;exact z
  have B:=condW_of z<|w_not<|w_lt w_lit<|w_len_list<|w_arg rfl;rw[sZ]at B;refine Nat.le_of_not_lt λq=>?_;have Y:(n:Int)<((L.length:Nat):Int):=by omega
  first
   | (rw[decide_eq_true Y]at B;exact absurd B ⋯)
   | (simp at B;omega)
 cases O with
 | cons j k=>
  cases k;cases j with
  | list i e=>exact⟨_,_,L,rfl,rfl,i,yL L _ e,W⟩
theorem Xy(l:OpenLaw)(args:List WData):l.row.toRowW.claim.post args (.bool cT) args=cT:=
 postW_of (r:=l.row.toRowW) (X:=(cT==cT))
  (show WShape.has [] (.bool cT) .bool=cT by first | rfl | decide | simp[WShape.has,WShape.arms,WShape.armsAll])
  (show(WTm.eq .res<|.lit<|.bool cT).value [] {args:=args,res:=aI (.bool cT),after:=args}=aI (.bool<|true==cT)from w_eq_bool (w_res rfl) w_lit) rfl
theorem bo{l:OpenLaw}{n:Nat}{q:m3}{B:List Str}{I:(Str->Option eI)->il->Prop}{J:l6->il->Prop}{d:DefRec}
 (hn:l.most=aI n) (S:d.params.defaults=[])
 (call : ∀(w:l6) (m5 z:g8) (mg mb:GV) (Z:eH) (o:n7) (pm cd L:eI) (a:eH) (vs:List eI) (ns:List Int),
   Ground q B [] I w m5 mg mb z.heap->J w z.heap->
   z.heap.get? Z=aI o->o.data = .func (docDef d.name d.params d.body d.scope pm cd L)->z.heap.CodeRec cd d.name->mg d.name=aI (.ref Z)->
   z.heap.get? a=aI {cls:= .type "list",data:= .seq vs.toArray}->EO vs ns->ns.length<=n->z.gens = #[]->
   codeAny (hR l.prog w) DH (.call (.ref Z) ⟨[.ref a],[]⟩) (λr s'=>r = .ok (.ret<|.bool cT)/\OldK z.heap s'.heap/\s'.os=z.os/\CT s'.gens) z) :
 WalkO q B I J l.row.toRowW d [] (λf vs=>PySem.call f vs):=by
 intro w m5 z mg mb G Y Z o pm cd L U kV W u e O g x b C as h E F i H;obtain rfl:U = .none:=Dflts.none O S;obtain rfl:kV = .none:=Dflts.noKw O;obtain⟨a,vs,ns,rfl,rfl,j,k,m⟩:=Q3 hn h i;refine enter_call<|AG (call w m5 z mg mb Z o pm cd L a vs ns G Y W (fd_plain u) e g j k m x) λr s' A=>?_;obtain⟨rfl,p,s,t⟩:=A;exact⟨.inl ⟨.bool cT,.bool cT,[],rfl,λ_=>rfl,.bool cT,Xy l _,λ_=>⟨List.Pairwise.nil,λ_ y=>(nomatch y)⟩⟩,p,s,t⟩
end Att
namespace L2
open PySem PySem.Spec PyProof.Rows
theorem xJ : ∀{vs:List eI} {I:List Int},EO vs I->kA (I.map V.int) vs
 | _,_,.nil=> .nil
 | _,_,.cons n t h=> .cons ⟨t,rfl⟩ (xJ h)
def hU(H:Hp):Prop:=∀b,H b=cI\/∃o a,H b=aI (.t8 o<|.lst a)
theorem Y3{P:m3}{w:l6}{K:rR}{Z mb:GV}{CX:B1}{k:Nat}{fa a:eH}{fd:o9}{x:Str}{sp:Sp}{B:g8}{vs:List eI}{ns:List Int}
 (S:K.In B.heap) (U:B.heap.Ns o7 Z) (L:B.heap.Ns F4 mb) (a6 : ∀x:Str,x ≠ "__name__"->mb x=C0 x) (a7:B.heap.NoLimit) (hg:B.gens = #[])
 (ha:B.heap.get? a=aI {cls:= .type "list",data:= .seq vs.toArray}) (hi:EO vs ns) (W:ns.length<=l4) (hr:ow k DH)
 (F : ∀base:il,K.In base->base.Ns o7 Z->oT P w K Z base CX k fa fd [x] sp) (a9 : ∀(s:g8) (u:eI),EN s fd ⟨[u],[]⟩ [(x,u)])
 (ab : ∀H:Hp,hU H->l8 K H a (ns.map V.int)->sp [.ref a] H (λv _=>v = .bl cT) λ_ _ _=>False)
 (ac : ∀H e s',CX [] H B (λ_ _ _=>False) e s'->False) :
 codeAny (hR P w) DH (.call (.ref fa) ⟨[.ref a],[]⟩) (λr s'=>r = .ok (.ret<|.bool cT)/\OldK B.heap s'.heap/\s'.os=B.os/\CT s'.gens) B:=by
 have Y:=xJ hi;have E:=hi.length;have l : ∀H:Hp,hU H->l8 K H a (ns.map V.int)->n0 P w H B.heap->(∀b,H b≠cI->b=a)->(H a≠cI->K.lookup a=cI)->
  codeAny (hR P w) DH (.call (.ref fa) ⟨[.ref a],[]⟩) (λr s'=>r = .ok (.ret<|.bool cT)/\OldK B.heap s'.heap/\s'.os=B.os/\CT s'.gens) B:=by
  intro H C hS j A hK;have p : ∀{b:eH} {o:n7},B.heap.get? b=aI o->H b=cI->(Va B.heap H).get? b=aI o:=λe n=>Y9 e n;have as : ∀{b:eH} {o:n7} {i:Array DictEntry} {g:Nat},B.heap.get? b=aI o->o.data = .dict i g->H b=cI:=λ{b o i g} e d=>by
   cases q:H b with
   | none=>rfl
   | some u=>
    have O:b=a:=A b (by rw[q];simp);subst O;rw[ha]at e;cases e;have M:Data.seq vs.toArray _=Data.dict i g:=d;cases M
  have J : ∀{b:eH} {m:GV},B.heap.Ns b m->(Va B.heap H).Ns b m:=λ{b m} ⟨o,i,g,e,d,r⟩=>⟨o,i,g,p e<|as e d,d,r⟩;have t:K.In (Va B.heap H):=λb o e=>p (S b o e) (by
   cases q:H b with
   | none=>rfl
   | some u=>
    have O:b=a:=A b (by rw[q];simp);subst O;rw[hK (by rw[q];simp)]at e;cases e)
  have hM:Mod K Z (Va B.heap H):=⟨t,J U,⟨mb,J L,a6⟩,let ⟨mc,T,X⟩:=a7;⟨mc,J T,X⟩⟩;have N:B7 P w K Z (Va B.heap H) DH [] B H:=⟨rfl,hM,λb o e=>aB e,Nat.le_of_eq<|Ki _ _,trivial,λb L=>absurd (show b∈([]:List eH)from L) ⋯,j,.of_eq hg⟩;refine AG ((F _ t<|J U).run DH [] B H ⟨[.ref a],[]⟩ [.ref a] [.ref a] _ _ hr N (a9 B<|.ref a) (.cons rfl .nil) (ab H C hS)) λr s' h=>?_;cases r with
  | error e=>exact(ac H e s' h).elim
  | ok R=>
   cases R with
   | next=>exact ue h
   | brk=>exact ue h
   | cont=>exact ue h
   | ret u=>
    obtain⟨v,H',os,f,un,G,r',q⟩:=h;have q':v = .bl cT:=q;subst q';obtain rfl:u=Bm cT:=r';refine⟨rfl,OldK.of_keep λb o e=>?_,os,f⟩;cases q:H b with
    | none=>exact un.keep b o e q (by intro z;exact absurd (show b∈([]:List eH)from z) ⋯) ⋯
    | some u=>
     rcases C b with z | ⟨ob,xs,z⟩
     ·rw[q]at z;cases z
     ·have z2:=un.wh b ob _ z
      obtain⟨y,_⟩:=j b _ z;obtain⟨Q,_⟩:=G b _ z2;rw[e]at y;cases y;exact Q
 cases hk:K.lookup a with
 | some o=>
  have e:=S a o hk;rw[ha]at e;cases e;refine l (λ_=>cI) (λ_=> .inl rfl) (.inr ⟨_,vs.toArray,_,hk,rfl,rfl,rfl,by rw[rX,E];exact W,by simpa using Y⟩) (λb u z=>by have I:(cI:Option HO)=aI u:=z;cases I) (λb z=>absurd rfl z) λz=>absurd rfl z
 | none=>
  refine l (λb=>if b=a then aI (.t8 {cls:= .type "list",data:= .seq vs.toArray} (.lst (ns.map V.int)))else cI) (λb=>?_) (.inl (.inr ⟨{cls:= .type "list",data:= .seq vs.toArray},GK rfl⟩)) (λb u z=>?_) (λb z=>?_) λ_=>hk
  ·by_cases L:b=a
   ·exact .inr ⟨_,_,GK L⟩
   ·exact .inl<|GX L
  ·by_cases L:b=a
   ·have I:=(GK L).symm.trans z
    cases I;subst L;exact⟨ha,by rw[sZ];exact W,vs,_,Y,ha⟩
   ·have I:=(GX L).symm.trans z
    cases I
  ·by_cases L:b=a
   ·exact L
   ·exact absurd (GX L) z
abbrev eT{K:rR}{h:il}(_:K.In h):rR:=K
theorem Wn{l:PySem.W.OpenLaw}{n k:Nat}{q:m3}{J:List Str}{O:(Str->Option eI)->il->Prop}{z:l6->il->Prop}{d:DefRec}{K:Params->rR}{CX:l6->B1}{sp:l6->Sp}{x:Str}
 (hn:l.most=aI n) (S:n<=l4) (U:d.params.defaults=[]) (hr:ow k DH)
 (hY : ∀(w:l6) (h:il),z w h->(K w.params).In h)
 (F : ∀(w:l6) (L:GV) (Z:eH) (h:il),(K w.params).In h->h.Ns o7 L->L d.name=aI (.ref Z)->
   ∃fd:o9,(∀(s:g8) (u:eI),EN s fd ⟨[u],[]⟩ [(x,u)])/\
    ∀base:il,(K w.params).In base->base.Ns o7 L->oT l.prog w (K w.params) L base (CX w) k Z fd [x] (sp w))
 (a2 : ∀(w:l6) (H:Hp) (a:eH) (ns:List Int),ns.length<=n->hU H->l8 (K w.params) H a (ns.map V.int)->sp w [.ref a] H (λv _=>v = .bl cT) λ_ _ _=>False)
 (a3 : ∀(w:l6) (H:Hp) (s:g8) (e:eI) (s':g8),CX w [] H s (λ_ _ _=>False) e s'->False) :
 PySem.W.WalkO q J O z l.row.toRowW d [] (λf vs=>PySem.call f vs):=by
 refine Att.bo hn U λw j i L X Z o pm P t a vs ns G Y R Q N m p r B M=>?_;have I:=hY w _ Y;obtain⟨fd,E,y⟩:=F w L Z _ I G.T.g m;exact Y3 I G.T.g G.T.b G.T.builtins G.T.nolimit M p r (sF B S) hr y E (λH A C=>a2 w H a ns B A C) λH e s'=>a3 w H i e s'
theorem fQ{l:PySem.W.OpenLaw}{n k:Nat}{q:m3}{B:List Str}{I:(Str->Option eI)->il->Prop}{z:l6->il->Prop}{d:DefRec}{K:Params->rR}{CX:B1}{sp:rR->Sp}{x:Str}
 (hn:l.most=aI n) (J:n<=l4) (O:d.params.defaults=[]) (hr:ow k DH)
 (S : ∀(w:l6) (h:il),z w h->(K w.params).In h)
 (F : ∀(w:l6) (L:GV) (fa:eH) (h:il),(K w.params).In h->h.Ns o7 L->L d.name=aI (.ref fa)->
   ∃fd:o9,(∀(s:g8) (u:eI),EN s fd ⟨[u],[]⟩ [(x,u)])/\
    ∀base:il,(K w.params).In base->base.Ns o7 L->oT l.prog w (K w.params) L base CX k fa fd [x] (sp<|K w.params))
 (U : ∀(K:rR) (H:Hp) (a:eH) (Z:List Int),Z.length<=n->hU H->l8 K H a (Z.map V.int)->sp K [.ref a] H (λv _=>v = .bl cT) λ_ _ _=>False)
 (Y : ∀(H:Hp) (s:g8) (e:eI) (s':g8),CX [] H s (λ_ _ _=>False) e s'->False) :
 PySem.W.WalkO q B I z l.row.toRowW d [] (λf vs=>PySem.call f vs):=
 Wn (K:=K) (CX:=λ_=>CX) (sp:=λw=>sp<|K w.params) hn J O hr S F (λw H a Z b g i=>U (K w.params) H a Z b g i) λ_ H s e s'=>Y H s e s'
noncomputable def qf(s:l7):Arguments:=match s with
 | .FunctionDef _ a _ _ _ _ _ _ _ _=>a
 | _=>{posonlyargs:=[],args:=[],vararg:=cI,kwonlyargs:=[],kw_defaults:=[],kwarg:=cI,defaults:=[]}
noncomputable def jj(s:l7):List l7:=match s with
 | .FunctionDef _ _ b _ _ _ _ _ _ _=>b
 | _=>[]
noncomputable def zE(s:l7):l9:=match s with
 | .FunctionDef _ _ _ _ _ _ a _ _ _=>a
 | _=>{kind:= .function,names:=[],isGenerator:=dV,isCoroutine:=dV}
abbrev rb:B1:=λ_ _ _ _ _ _=>False
abbrev E0:XK:=λ_ _ _=>False
theorem Ja:yV rb X E0:=λ_ _ _ _ _ _ _ h=>h.elim
structure u5(K:rR)(x qual:Str)(st:l7)(f:eH)(fd:o9):Prop where
 ex : ∃(oc:eI) (od:Option eH) (kV doc pm:eI) (an:Option eH) (EW ct:eI) (E8:Array (Option eI)),
  fd=uk x qual (qf st) (jj st) (zE st) .none kV doc pm an EW ct/\K.lookup f=aI ⟨oc,od,.func fd,E8⟩/\Aq K EW qual=cT
 kp:tR K (.ref f)=cT
section
variable{P:m3}{w:l6}{K:rR}{mg:GV}{base:il}
theorem u5.ok{x qual:Str}{st:l7}{f:eH}{O:o9}{N ps:List Str}{k:Nat}{sp:Sp}(F:u5 K x qual st f O)(S:Em N ps (zE st))(len : ∀vs H Q E,sp vs H Q E->vs.length=ps.length)
 (z : ∀(L:eI) (A:m7) (outer:List m9) (s:g8) (H:Hp) (vs:List V) (Q:VK) (E:XK),ow k (A.deeper<|envOfC qual (zE st) s.heap.objs.size f L)->sp vs H Q E->
   ∃t,ri (vU rb P w K mg base N qual (zE st) f L A outer s H E).p3 (jj st) t/\t {nx:=λ_ H'=>Q .hI H',rt:=Q} (qE N vs) H):oT P w K mg base rb (k+1) f O ps sp:=by
 obtain⟨i,j,kV,a,l,e,L,g,d,rfl,B,I⟩:=F.ex;refine fi B I S len λA outer s H vs Q E b J=>?_;obtain⟨t,h,q⟩:=z L A outer s H vs Q E b J;exact⟨t,h.p3,q⟩
theorem u5.binds{x qual:Str}{st:l7}{f:eH}{S:o9}{ps:List Str}(F:u5 K x qual st f S)
 (h : ∀(kV J O:eI) (L:Option eH) (I ct:eI) (us:List eI),us.length=ps.length->Ex (uk x qual (qf st) (jj st) (zE st) .none kV J O L I ct) ⟨us,[]⟩=pure (ps.zip us)):Binds K S ps []:=by
 obtain⟨b,d,kV,J,O,L,I,ct,a,rfl,z,B⟩:=F.ex;exact .all<|h kV J O L I ct
theorem Km{x qual:Str}{st:l7}{f:eH}{W:eI}{od O:Option eH}{L:Array (Option eI)}{kV J S I ct:eI}(l:K.lookup f=aI ⟨W,od,.func<|uk x qual (qf st) (jj st) (zE st) .none kV J S O I ct,L⟩)
 (c:Aq K I qual=cT) (k:tR K (.ref f)=cT):u5 K x qual st f (uk x qual (qf st) (jj st) (zE st) .none kV J S O I ct):=⟨⟨W,od,kV,J,S,O,I,ct,L,rfl,l,c⟩,k⟩
end
def l5(H H':Hp):Prop:=∀b o,H b=aI o->H' b=aI o
theorem l5.refl(H:Hp):l5 H H:=λ_ _ h=>h
theorem l5.trans(a:l5 H H1)(b:l5 H1 H2):l5 H H2:=λc o h=>b c o<|a c o h
theorem l5.free(e:l5 H H')(h:H' l=Option.none):H l=Option.none:=by
 cases q:H l with
 | none=>rfl
 | some o=>
  rw[e l o q]at h;cases h
theorem l5.seq{K:rR}{H H':Hp}{a:eH}{xs:List V}(e:l5 H H')(h:l8 K H a xs):l8 K H' a xs:=by
 rcases h with(h | ⟨o,h⟩) | h
 ·exact .inl<|.inl<|e _ _ h
 ·exact .inl<|.inr ⟨o,e _ _ h⟩
 ·exact .inr h
noncomputable def wM(cells:List (Str×eH)):List (Str×CC)->List (Str×eH)->List (Str×eH)
 | [],acc=>acc
 | (n,k)::r,acc=>wM cells r<|if k==sx then (match cells.lookup n with | some c=>(n,c)::acc | none=>acc)else acc
theorem qN(f:Str×CC->List (Str×eH)->oD (ForInStep<|List<|Str×eH))
 (J : ∀name kind B,f (name,kind) B=if kind==sx then (do let a <- cellOf env name;pure (.yield ((name,a)::B)))else pure (.yield B)) :
 ∀(names:List (Str×CC)) (acc:List (Str×eH)),(∀n,(n,sx)∈names->∃c,env.cells.lookup n=aI c)->
  forIn names acc f=(pure (wM env.cells names acc):oD _)
 | [],acc,_=>by rw[List.forIn_nil];rfl
 | (n,k)::r,acc,h=>by
  rw[List.forIn_cons,J];have d : ∀n,(n,sx)∈r->∃c,env.cells.lookup n=aI c:=λm g=>h m<|sv _ g;unfold wM;by_cases z:(k==sx)=cT
  ·rw[GK z,GK z]
   have I:k=sx:=by simpa using z
   subst I;obtain⟨c,b⟩:=h n sP;have e:cellOf env n=pure c:=by unfold cellOf;rw[b]
   rw[e,b];exact qN f J r _ d
  ·rw[GX z,GX z]
   exact qN f J r acc d
theorem wG(h : ∀n,(n,sx)∈scope.names->∃c,env.cells.lookup n=aI c) :
 closureFor scope env=pure (wM env.cells scope.names []):=by
 simp only[closureFor];rw[qN (env:=env) _ (λb a z=>by cases hk:a==sx<;>simp[hk]) scope.names [] h];rfl
theorem qc
 (z:Q {scope:=scope,locals:=s.heap.objs.size,globals:=globals,cells:=A9 (s.heap.objs.size+1) scope.names cl,qual:=qual,func:=cI,code:=env.code,frame:=env.frame,builtins:=env.builtins}
   {s with heap:=Du (s.heap.push {cls:= .type "dict",data:= .dict #[]}) scope.names}) :
 wpAny M A (Gg scope globals cl [] qual cI .none (aI env)) Q E s:=by
 simp only[Gg,Option.isSome_some,if_true];refine rS (wpAny_alloc ?_);refine rS (wpAny_layCells _ (λb a cells=>by cases G5:a==uE<;>simp[G5]) _ _ _ _ ?_);rw[show({s with heap:=s.heap.push {cls:= .type "dict",data:= .dict #[]}}:g8).heap.objs.size=s.heap.objs.size+1 from sG ..];exact rS (rW (rW z))
theorem JL : ∀{names:List (Str×CC)} {acc:List (Str×eH)},(n,c)∈wM cells names acc->(n,c)∈acc\/((n,sx)∈names/\cells.lookup n=aI c)
 | [],acc,h=> .inl h
 | (m,k)::r,acc,h=>by
  unfold wM at h;rcases JL h with g | ⟨h1,h2⟩
  ·clear h
   by_cases z:(k==sx)=cT
   ·rw[GK z]at g
    have B:k=sx:=by simpa using z
    subst B;cases e:cells.lookup m with
    | none=>rw[e]at g;exact .inl g
    | some I=>
     rw[e]at g;rcases sd.mp g with g | g
     ·cases g;exact .inr ⟨sP,e⟩
     ·exact .inl g
   ·rw[GX z]at g;exact .inl g
  ·exact .inr ⟨sv _ h1,h2⟩
theorem yF : ∀{names:List (Str×CC)} {acc:List (Str×eH)},((acc.lookup n).isSome=cT\/((n,sx)∈names/\(cells.lookup n).isSome=cT))->((wM cells names acc).lookup n).isSome=cT
 | [],acc,h=>by
  rcases h with h | ⟨h,_⟩
  ·exact h
  ·cases h
 | (m,k)::r,acc,h=>by
  unfold wM;apply yF;by_cases z:(k==sx)=cT
  ·rw[GK z]
   have I:k=sx:=by simpa using z
   subst I;cases e:cells.lookup m with
   | none=>
    rcases h with h | ⟨h1,h2⟩
    ·exact .inl h
    ·rcases sd.mp h1 with h1 | h1
     ·cases h1;rw[e]at h2;cases h2
     ·exact .inr ⟨h1,h2⟩
   | some J=>
    dsimp only;by_cases B:n=m
    ·subst B;left;simp
    ·rcases h with h | ⟨h1,h2⟩
     ·left;rw[sS];split<;>simp_all
     ·rcases sd.mp h1 with h1 | h1
      ·cases h1;exact absurd rfl B
      ·exact .inr ⟨h1,h2⟩
  ·rw[GX z]
   rcases h with h | ⟨h1,h2⟩
   ·exact .inl h
   ·rcases sd.mp h1 with h1 | h1
    ·cases h1;exact absurd rfl z
    ·exact .inr ⟨h1,h2⟩
theorem jW : ∀{names:List (Str×CC)} {k:Nat} {acc:List (Str×eH)},(n,c)∈A9 k names acc->(n,c)∈acc\/(k<=c/\(n,uE)∈names)
 | [],_,_,h=> .inl h
 | (m,kd)::r,k,acc,h=>by
  unfold A9 at h;split at h
  ·rename_i z
   have B:kd=uE:=by simpa using z
   subst B;rcases jW h with h | ⟨h1,h2⟩
   ·rcases sd.mp h with h | h
    ·cases h;exact .inr ⟨sf _,sP⟩
    ·exact .inl h
   ·exact .inr ⟨by omega,sv _ h2⟩
  ·rcases jW h with h | ⟨h1,h2⟩
   ·exact .inl h
   ·exact .inr ⟨h1,sv _ h2⟩
theorem qu : ∀{names:List (Str×CC)} {k:Nat} {acc:List (Str×eH)},(∀p∈acc,∀q∈acc,p.2=q.2->p.1=q.1)->(∀p∈acc,p.2<k)->
 ∀p∈A9 k names acc,∀q∈A9 k names acc,p.2=q.2->p.1=q.1
 | [],_,_,h,_=>h
 | (m,kd)::r,k,acc,h,hl=>by
  unfold A9;split
  ·refine qu (λp hp q hq e=>?_) (λp hp=>?_)
   ·rcases sd.mp hp with rfl | hp<;>rcases sd.mp hq with rfl | hq
    ·rfl
    ·have z:k=q.2:=e
     exact absurd (z ▸ hl q hq)<|ur _
    ·have z:p.2=k:=e
     exact absurd (z ▸ hl p hp)<|ur _
    ·exact h p hp q hq e
   ·rcases sd.mp hp with rfl | hp
    ·exact uz _
    ·exact tP<|hl p hp
  ·exact qu h hl
theorem yT : ∀{names:List (Str×CC)} {h:il} {acc:List (Str×eH)} {n:Str} {c:eH},(n,c)∈A9 h.objs.size names acc->(n,c)∈acc\/(Du h names).IsCell c cI
 | [],_,_,_,_,hm=> .inl hm
 | (m,kd)::r,h,acc,n,c,hm=>by
  unfold A9 at hm;unfold Du;split at hm
  ·rename_i z
   rw[GK z];have e:h.objs.size+1=(h.push {cls:= .type "cell",data:= .cell cI}).objs.size:=(sG ..).symm;rw[e]at hm;rcases yT hm with hm | hm
   ·rcases sd.mp hm with hm | hm
    ·cases hm
     have B:(h.push {cls:= .type "cell",data:= .cell cI}).IsCell h.objs.size cI:=⟨{cls:= .type "cell",data:= .cell cI},se _ rfl,rfl⟩;exact .inr (B.keeps λb o q=>AW _ _ b o q)
    ·exact .inl hm
   ·exact .inr hm
  ·rename_i z
   rw[GX z];exact yT hm
theorem q9{J:Type}{l:List (Str×J)}(I:(l.map (·.1)).Nodup) : ∀{n:Str} {a:J},(n,a)∈l->l.lookup n=aI a:=by
 induction l with
 | nil=>intro n a h;cases h
 | cons p r z=>
  intro n a h;obtain⟨m,b⟩:=p;rw[sL,Aj]at I;rw[sS];rcases sd.mp h with h | h
  ·cases h;simp
  ·have B:(n==m)=dV:=by
    have:n≠m:=λe=>I.1 (by rw[<- e];exact BX.mpr ⟨(n,a),h,rfl⟩);simpa using this
   rw[B];exact z I.2 h
theorem xp(scope:l9)(env:m9)(x:Str):(CG scope env).names.lookup x =
 (scope.names.lookup x).map λk=>if (k==sx && env.scope.kind == .function && env.kindOf x==aI .cell)then uE else k:=by
 unfold CG;dsimp only;generalize scope.names=l
 induction l with
 | nil=>rfl
 | cons p r z=>
  obtain⟨n,k⟩:=p;rw[sL];cases hx:x==n with
  | true=>
   have e:x=n:=by simpa using hx
   subst e;rw[sS,sS];dsimp only;by_cases a:(k==sx && env.scope.kind == .function && env.kindOf x==aI .cell)=cT
   ·rw[GK a,beq_self_eq_true];dsimp only[BK];rw[GK a]
   ·rw[GX a,beq_self_eq_true];dsimp only[BK];rw[GX a]
  | false=>
   have : ∀B,uK x ((n,B)::(r.map λx=>match x with | (n,k)=>if (k==sx && env.scope.kind == .function && env.kindOf n==aI .cell)=cT then (n,uE)else (n,k)))=uK x (r.map λx=>match x with | (n,k)=>if (k==sx && env.scope.kind == .function && env.kindOf n==aI .cell)=cT then (n,uE)else (n,k)):=λB=>by rw[sS,hx]
   rw[sS (k:=n),hx];dsimp only;split
   ·rw[this];exact z
   ·rw[this];exact z
noncomputable def ka(scope:l9)(env:m9)(L:eH):m9:=
 {scope:=CG scope env,locals:=L,globals:=env.globals,cells:=A9 (L+1) scope.names<|wM env.cells scope.names [],qual:=env.qual,func:=cI,code:=env.code,frame:=env.frame,builtins:=env.builtins}
noncomputable def zT(X:Cx)(scope:l9)(z:List Str)(fp:List eH)(I:g8)(J:Hp):Cx:=
 {X with N:=z,m5:=I,Dl:=J,env:=ka scope X.env<|I.heap.objs.size+1,outer:=X.stack,stack:=X.stack,ex:=fp,fn:=λx=>scope.names.lookup x==aI .cell,pn:=[],xe:=λ_ _=>False}
structure B2(X:Cx)(scope:l9)(fr:List (Str×Nat)):Prop where
 kind:scope.kind = .function
 nd:(scope.names.map (·.1)).Nodup
 free : ∀p∈scope.names,p.2=sx->X.env.kindOf p.1=aI .cell\/X.env.kindOf p.1=aI .free
 fr : ∀p∈fr,scope.names.lookup p.1=aI .free/\X.N[p.2]? = aI p.1
noncomputable def VI(own:List Str)(fr:List (Str×Nat))(I:St):St:=own.map (λ_=>cI)++fr.map λp=>(I[p.2]?).join
abbrev Jf:n7:={cls:= .type "list",data:= .seq #[]}
abbrev Wk:n7:={cls:= .type "dict",data:= .dict #[]}
theorem Y8{X:Cx}{Z:GW}{σ:St}{H2:Hp}{L:g8}{scope:l9}{own:List Str}{fr:List (Str×Nat)}{fp:List eH}(I:Inv X Z σ H2 L)(ok:B2 X scope fr)
 (S : ∀b∈fp,kW X Z H2 b) (ac : ∀b∈fp,∃o,L.heap.get? b=aI o) :
 Inv (zT X scope (own++fr.map (·.1)) fp L H2) [] (VI own fr σ) (upd H2 L.heap.objs.size<|.lst []) {L with heap:=Du ((L.heap.push Jf).push Wk) scope.names}:=by
 have M:(L.heap.push Jf).objs.size=L.heap.objs.size+1:=sG ..;have z2:((L.heap.push Jf).push Wk).objs.size=L.heap.objs.size+2:=by rw[sG,M]
 have B : ∀n c,(n,c)∈wM X.env.cells scope.names []->(n,sx)∈scope.names/\X.env.cells.lookup n=aI c:=λn c h=>(JL h).resolve_left ⋯;have a3 : ∀n c,X.env.cells.lookup n=aI c->c<L.heap.objs.size:=λn c h=>by obtain⟨v,q⟩:=I.cell n c h;exact q.lt
 have N : ∀p∈wM X.env.cells scope.names [],p.2<L.heap.objs.size+1+1:=λp j=>by exact tP<|tP<|a3 p.1 p.2 (B p.1 p.2 j).2
 have hC:(ka scope X.env<|L.heap.objs.size+1).cells=A9 (L.heap.objs.size+2) scope.names (wM X.env.cells scope.names []):=rfl;have a : ∀x c,(ka scope X.env<|L.heap.objs.size+1).cells.lookup x=aI c->((x,sx)∈scope.names/\X.env.cells.lookup x=aI c)\/(L.heap.objs.size+2<=c/\(x,uE)∈scope.names):=λx c h=>by
  rcases jW (mem_of_lookup h)with h | h
  ·exact .inl<|B x c h
  ·exact .inr h
 have C : ∀x,(x,sx)∈scope.names->∃c,X.env.cells.lookup x=aI c/\(ka scope X.env<|L.heap.objs.size+1).cells.lookup x=aI c:=λx s=>by
  obtain⟨c,l⟩:=I.ok.has x<|ok.free (x,.free) s rfl;have t:((wM X.env.cells scope.names []).lookup x).isSome=cT:=yF<|.inr ⟨s,by rw[l];rfl⟩;have r:=Ai scope.names (L.heap.objs.size+2) (wM X.env.cells scope.names [])<|.inr t;obtain⟨H,E⟩:=uc.mp r;refine⟨c,l,?_⟩;rcases a x H E with⟨_,q⟩ | ⟨_,q⟩
  ·rw[l]at q;cases q;exact E
  ·exact absurd ((q9 ok.nd q).symm.trans (q9 ok.nd s)) ⋯
 have d : ∀b o,L.heap.get? b=aI o->(Du ((L.heap.push Jf).push Wk) scope.names).get? b=aI o:=λb o e=>
  AW _ _ b o (rT _<|rT _ e)
 have a7 : ∀b∈fp,b<L.heap.objs.size:=λb f=>by obtain⟨o,e⟩:=ac b f;exact sg e
 have fresh:H2 L.heap.objs.size=cI:=I.iv.fresh<|sf _;have F : ∀c,L.heap.objs.size<c->(upd H2 L.heap.objs.size<|.lst []) c=cI:=λc l=>by rw[zw (uB l)];exact I.iv.fresh<|Cb l
 obtain⟨m0,P⟩ : ∃m,(Du ((L.heap.push Jf).push Wk) scope.names).Ns (L.heap.objs.size+1) m:=by have q:=(Heap.Ns.new (L.heap.push Jf) (.type "dict")).keeps (λb o e=>AW scope.names _ b o e);rw[M]at q;exact⟨_,q⟩
 refine⟨⟨I.ok.mod,ok.kind,I.ok.glob,I.ok.blt,Bj _,λx y c t r=>?_,λx s=>?_,λx c hf h=>?_,I.ok.hd,I.ok.frames,.inl rfl,λb f=>⟨?_,λx c h z=>?_⟩,λb o e=>I.bs b o e,?_,λb o e f=>?_,λb f hs=>?_,I.stack,I.Ec⟩,
  rfl,I.bare,Un.laid d (sf _) fresh,⟨m0,P,λi x v K g e3=>?_⟩,λx c h=>?_,?_,λx c h=>?_,λp j=>?_,?_,?_⟩
 ·have q:=qu (names:=scope.names) (k:=L.heap.objs.size+2) (acc:=wM X.env.cells scope.names []) (λp j q hq e=>I.ok.inj p.1 q.1 p.2 (B _ _ j).2 (by rw[e];exact(B _ _ hq).2)) N
  exact q (x,c) (mem_of_lookup t) (y,c) (mem_of_lookup r) rfl
 ·have J:(CG scope X.env).names.lookup x=aI .cell\/(CG scope X.env).names.lookup x=aI .free:=s
  have:scope.names.lookup x=aI .cell\/scope.names.lookup x=aI .free:=by
   rw[xp]at J;cases e:scope.names.lookup x with
   | none=>rw[e]at J;simp at J
   | some k=>
    rw[e]at J;cases k<;>simp at J ⊢
  rcases this with h | h
  ·exact uc.mp<|Ai scope.names _ _<|.inl h
  ·obtain⟨c,_,r⟩:=C x<|mem_of_lookup h;exact⟨c,r⟩
 ·have as:(scope.names.lookup x==aI .cell)=cT:=hf
  have Q:scope.names.lookup x=aI .cell:=by simpa using as
  rcases a x c h with⟨q,_⟩ | ⟨q,_⟩
  ·exact absurd ((q9 ok.nd q).symm.trans Q) ⋯
  ·exact sF (tD _ 2) q
 ·exact sr<|tP<|a7 b f
 ·rcases a x c h with⟨_,q⟩ | ⟨q,_⟩
  ·exact(S b f).2.2.2.2.1 x c q z
  ·exact absurd (si (a7 b f)<|sF (tD _ 2)<|z ▸ q)<|ur _
 ·exact sF I.ok.Cr I.sz
 ·rcases (S b f).2.2.2.1 with q | q
  ·exact I.ok.D9 b o e q
  ·exact absurd (si (sg e)<|sF I.ok.Cr q)<|ur _
 ·rcases sd.mp (I.Ed b hs)with q | q
  ·exact(S b f).2.1 q
  ·exact(S b f).2.2.1 q
 ·have hi:i<(own++fr.map (·.1)).length:=(su.mp K).1
  by_cases Y:i<own.length
  ·unfold VI at g
   rw[ub (by simpa using Y)]at g;simp[sV,Y]at g
  ·have hj : ∃p,fr[i - own.length]? = aI p/\p.1=x/\(σ[p.2]?).join=aI v:=by
    unfold VI at g;have O:(own++fr.map (·.1))[i]? = aI x:=K;rw[tF ⋯,sV]at O;rw[tF (by simpa using Y),sV,sZ]at g;cases q:fr[i - own.length]? with
    | none=>rw[q]at O;cases O
    | some p=>
     rw[q]at O g;exact⟨p,rfl,by simpa using O,by simpa using g⟩
   obtain⟨p,j,R,U⟩:=hj;obtain⟨W,g2⟩:=ok.fr p<|AE j;rw[R]at W g2;have w:σ[p.2]? = aI (aI v):=by
    cases q:σ[p.2]? with
    | none=>rw[q]at U;cases U
    | some o=>rw[q]at U;simpa using U
   have G:=ok.free (x,.free) (mem_of_lookup W) rfl;obtain⟨m,hn,hl⟩:=I.loc;obtain⟨u,ru,lk⟩:=hl p.2 x v g2 w (by rcases G with k | k;exact .inr<|.inl k;exact .inr<|.inr k);refine⟨u,ru,.inr ?_⟩;obtain⟨c,T,b7⟩:=C x<|mem_of_lookup W;have b8:L.heap.IsCell c (aI u):=by
    rcases lk with⟨k,_⟩ | ⟨_,H,e,z⟩
    ·rcases G with k' | k'<;>rw[k]at k'<;>cases k'
    ·rw[T]at e;cases e;exact z
   refine⟨?_,c,b7,b8.keeps d⟩;show(CG scope X.env).names.lookup x=aI .cell\/(CG scope X.env).names.lookup x=aI .free;rw[xp,W];dsimp only[BK];split
   ·exact .inl rfl
   ·exact .inr rfl
 ·rcases jW (mem_of_lookup h)with q | q
  ·obtain⟨v,A⟩:=I.cell x c (B x c q).2
   exact⟨v,A.keeps d⟩
  ·have q2:=mem_of_lookup h
   have q3:(x,c)∈A9 ((L.heap.push Jf).push Wk).objs.size scope.names (wM X.env.cells scope.names []):=by rw[z2];exact q2
   rcases yT q3 with q4 | q4
   ·obtain⟨v,A⟩:=I.cell x c (B x c q4).2
    exact⟨v,A.keeps d⟩
   ·exact⟨cI,q4⟩
 ·exact F _<|uz _
 ·rcases a x c h with⟨_,q⟩ | ⟨q,_⟩
  ·rw[zw (sr<|a3 x c q)];exact I.B0 x c q
  ·exact F c<|si (tP<|uz _) q
 ·exact absurd (show p∈([]:GW)from j) ⋯
 ·refine I.iv.laid d (sf _) ⟨uv _,[],0,.nil,?_⟩
  exact AW _ _ _ _<|rT _<|se _ rfl
 ·show(VI own fr σ).length=(own++fr.map (·.1)).length
  simp[VI]
theorem xk(I:Nat->g8->Prop)
 (Y : ∀n s,I n s->wpAny (hR prog w) A (Ea it) (λr z=>match r with
   | none=>R (.ok .next) z
   | some v=>wpAny (hR prog w) A (EC target it v) (λ_ z=>wpAny (hR prog w) A (CZ target env v) (λ_ J=>
    wpAny (hR prog w) A (forIn ifs cT λc r=>if r=cT then do let ok <- DN c env (hH c env);pure (Be ok)else pure (Be r)) (λok B=>
     if ok=cT then wpAny (hR prog w) A (hH elt env) (λx O=>
      wpAny (hR prog w) A (call (.builtin "list.append") [acc,x]) (λ_ S=>∃m,m<n/\I m S) (λ_ _=>False) O) (λ_ _=>False) B
     else ∃m,m<n/\I m B) (λ_ _=>False) J) (λ_ _=>False) z) (λ_ _=>False) z) (λ_ _=>False) s)
 (n:Nat) (h:I n s) :
 codeAny (hR prog w) A (.compLoop (.ListComp elt [⟨target,iter,ifs,0⟩] scope pos) 0 it acc env) R s:=by
 refine codeAny_loop rfl I (λn s g=>?_) n h;show wpAny _ A ((compTurn (.ListComp elt [⟨target,iter,ifs,0⟩] scope pos) 0 it acc env).onRaise (λx=>do E6 x env;theTreesLotGoes x)) _ _ s;refine wpAny_noted ?_;rw[compTurn_list];refine rS<|Cd<|rS<|sC (Y n s g) (λr z U=>?_) λ_ _ a=>a.elim;cases r with
 | none=>exact rW U
 | some v=>
  refine rS<|sC U (λ_ i f=>?_) λ_ _ a=>a.elim;refine rS<|sC f (λ_ J b=>rS<|sC b (λok B W=>?_) λ_ _ a=>a.elim) λ_ _ a=>a.elim;cases ok with
  | false=>exact rW ⟨rfl,W⟩
  | true=>
   exact rS<|rS<|sC W (λx O d=>rS<|sC d (λ_ S e=>rW<|rW ⟨rfl,e⟩) λ_ _ a=>a.elim) λ_ _ a=>a.elim
noncomputable def bQ(X:Cx)(I:List g9)(t:TT):Prop:=
 ∀(a:GW) (s:g8) (b:St) (H:Hp) (Q:Bool->Hp->Prop),Inv X a b H s->t b H Q->
  wpAny (hR X.prog X.w) X.A (forIn I cT λc r=>if r=cT then do let ok <- DN c X.env (hH c X.env);pure (Be ok)else pure (Be r)) (TP X a b Q) X.xe s
def iz:TT:=λ_ H Q=>Q cT H
theorem JK:bQ X [] iz:=λ_ _ _ H _ I h=>wpAny_tests_nil ⟨H,I,h⟩
theorem JJ(h:PT X c t):bQ X [c] t:=λa s d H Q I b=>wpAny_tests_one<|h a s d H Q I b
noncomputable def CW(J:It)(g:TG)(O:TT)(L:TE)(D:eH)(Q:VK)(W:Nat->Nat->List V->St->Hp->Prop):Prop:=
 ∀i m a f H,W i m a f H->H D=aI (.lst a)/\((J.stop i H/\Q (.ref D) H)\/(J.go i H/\a.length<l4/\∀x e,J.CS i H x e->g x f e λz h=>O z h λb B=>
  if b=cT then L z B λv I=>I D=aI (.lst a)/\∃d,d<m/\W (i+1) d (a++[v]) z (upd I D<|.lst<|a++[v])else ∃d,d<m/\W (i+1) d a z B))
noncomputable def Vt(X:Cx)(I:GW)(H:Hp)(L:eH):Prop:=
 H L=cI/\L≠X.env.locals/\X.m5.heap.objs.size<=L/\(∀x c,X.env.cells.lookup x=aI c->c≠L)/\∀p∈X.pn++I,p.1≠L
theorem Vp
 (hc:X.calm=cT) (I:Inv X pins σ H2 s2) (ok:B2 X scope fr) (T:Turn X.prog X.w X.K tg J fp it tn) (st:tn 0 s2.heap) (O : ∀b∈fp,kW X pins H2 b)
 (hg:PG (zT X scope (own++fr.map (·.1)) fp s2 H2) tg g) (ht:bQ (zT X scope (own++fr.map (·.1)) fp s2 H2) ifs tt) (he:PE (zT X scope (own++fr.map (·.1)) fp s2 H2) elt te)
 (hW : ∀D,H2 D=cI->∃W:Nat->Nat->List V->St->Hp->Prop,(∃m,W 0 m [] (VI own fr σ) (upd H2 D<|.lst []))/\CW J g tt te D Q W) :
 wpAny (hR X.prog X.w) X.A (Gh []) (λacc L=>wpAny (hR X.prog X.w) X.A (Gg scope X.env.globals (wM X.env.cells scope.names []) [] X.env.qual cI .none (aI X.env)) (λa8 Z=>
  codeAny (hR X.prog X.w) X.A (.compStart (.ListComp elt [⟨tg,iter,ifs,0⟩] scope pos) 0 (.ref it) acc {a8 with scope:=CG scope X.env})
   (λr s'=>(∃f,r = .ok f)/\∃D H',acc = .ref D/\Inv X pins σ H' s'/\Q (.ref D) H'/\(∃m,s'.heap.Ns a8.locals m)/\Vt X pins H' a8.locals) Z) E L) E s2:=by
 have ap : ∀b∈fp,∃o,s2.heap.get? b=aI o:=λb a=>by obtain⟨o,e,_⟩:=T.obj 0 _ st b a;exact⟨o,e⟩
 have H:=Y8 (own:=own) I ok O ap;obtain⟨W,⟨m0,w0⟩,cw⟩:=hW _ I.fresh;refine tG<|qc ?_;have z1:(s2.heap.push Jf).objs.size=s2.heap.objs.size+1:=sG ..;show codeAny _ _ (.compStart _ 0 (.ref it) (.ref s2.heap.objs.size) {scope:=CG scope X.env,locals:=(s2.heap.push Jf).objs.size,globals:=X.env.globals,cells:=A9 ((s2.heap.push Jf).objs.size+1) scope.names<|wM X.env.cells scope.names [],qual:=X.env.qual,func:=cI,code:=X.env.code,frame:=X.env.frame,builtins:=X.env.builtins})
  (λr s'=>(∃f,r = .ok f)/\∃D H',sk s2.heap.objs.size = .ref D/\Inv X pins σ H' s'/\Q (.ref D) H'/\(∃m,s'.heap.Ns (s2.heap.push Jf).objs.size m)/\Vt X pins H' (s2.heap.push Jf).objs.size) {s2 with heap:=Du ((s2.heap.push Jf).push Wk) scope.names}
 rw[z1];have as:tn 0 (Du ((s2.heap.push Jf).push Wk) scope.names):=T.keep 0 _ _ st λb _ o e=>AW _ _ b o<|rT _<|rT _ e;have bn : ∀b∈fp,b<s2.heap.objs.size:=λb a=>by obtain⟨o,e⟩:=ap b a;exact sg e
 have R : ∀{H':Hp},(∀b∈fp,H' b=cI)->∀b∈fp,kW (zT X scope (own++fr.map (·.1)) fp s2 H2) [] H' b:=λhn b a=>
  ⟨hn b a,(H.ok.EA b a).1,H.ok.D6 b a,.inl a,(H.ok.EA b a).2,λp hp=>absurd (show p∈([]:GW)from hp) ⋯⟩
 have ax:codeAny (hR X.prog X.w) X.A (.compLoop (.ListComp elt [⟨tg,iter,ifs,0⟩] scope pos) 0 (.ref it) (.ref s2.heap.objs.size)<|ka scope X.env<|s2.heap.objs.size+1)
  (λr s'=>(∃f,r = .ok f)/\∃D H',sk s2.heap.objs.size = .ref D/\Inv X pins σ H' s'/\Q (.ref D) H'/\(∃m,s'.heap.Ns (s2.heap.objs.size+1) m)/\Vt X pins H' (s2.heap.objs.size+1)) {s2 with heap:=Du ((s2.heap.push Jf).push Wk) scope.names}:=by
  refine xk (λn s'=>∃i s t H',Inv (zT X scope (own++fr.map (·.1)) fp s2 H2) [] t H' s'/\tn i s'.heap/\(∀b∈fp,H' b=cI)/\W i n s t H') ?_ m0
   ⟨0,[],_,_,H,as,λb a=>by rw[zw (sr<|bn b a)];exact(O b a).1,w0⟩
  rintro n s3 ⟨i,s,h,C,I3,k,b2,w3⟩;obtain⟨hD,c0⟩:=cw i n s h C w3;rcases c0 with⟨l,qn⟩ | ⟨go,hz,step⟩
  ·refine kr (T.done (zT X scope (own++fr.map (·.1)) fp s2 H2) rfl rfl rfl hc i [] s3 h C _ I3 (R b2) k l) λr s4 B=>?_
   obtain⟨hr,S⟩:=B;subst hr;refine⟨⟨_,rfl⟩,_,C,rfl,I.F5 (ch:=fp) S.os S.base S.iv S.bare<|λb a=>⟨(O b a).2.2.2.1,(O b a).2.1,(O b a).2.2.2.2.1,(O b a).2.2.2.2.2⟩,qn,?_,S.free,?_,?_,?_,?_⟩
   ·obtain⟨m,hn,_⟩:=S.loc
    exact⟨m,hn⟩
   ·exact uB<|tP I.lt
   ·exact Nat.le_succ_of_le I.sz
   ·intro x c e z
    obtain⟨v,q⟩:=I.cell x c e;exact absurd (tP q.lt) (by rw[z];exact ur _)
   ·intro p hp z
    exact absurd (tP<|sg (I.pin p hp).1) (by rw[z];exact ur _)
  ·refine kr (T.item (zT X scope (own++fr.map (·.1)) fp s2 H2) rfl rfl rfl hc i [] s3 h C _ I3 (R b2) k go) λr s4 B=>?_
   obtain⟨u,hr,h4⟩:=B;subst hr;refine kr h4 λ_ s5 B=>?_;obtain⟨x,H5,I5,r5,y5,ab,c8⟩:=B;have c9:=I5.pinned (R c8)<|T.obj _ _ ab;refine kr (hg _ s5 h H5 x u _ c9 r5<|step x H5 y5) λ_ s6 B=>?_;obtain⟨j,H6,I6,q6⟩:=B;refine kr (ht _ s6 j H6 _ I6 q6) λb s7 B=>?_;obtain⟨H7,M,N⟩:=B;have after : ∀{y:St} {G:Hp} {U:g8},Inv (zT X scope (own++fr.map (·.1)) fp s2 H2) ([]++Zk fp s5.heap) y G U->tn (i+1) U.heap/\∀b∈fp,G b=cI:=λ{y G U} Y=>by refine⟨T.keep _ _ _ ab λb a o e=>(Y.pin (b,o)<|sj _<|sj _<|qZ a e).1,λb a=>?_⟩;obtain⟨o,e,d⟩:=T.obj _ _ ab b a;exact(Y.pin (b,o)<|sj _<|sj _<|qZ a e).2.1
   cases b with
   | false=>
    rw[GX sh]at N ⊢;obtain⟨m',hm,w7⟩:=N;exact⟨m',hm,i+1,s,j,H7,M.EK,(after M).1,(after M).2,w7⟩
   | true=>
    rw[GK rfl]at N ⊢;refine kr (he _ s7 j H7 _ M N) λv8 U B=>?_;obtain⟨x8,G,Y,r8,b7,m',hm,w8⟩:=B;obtain⟨z8,b8,n8,rv,cz,e8⟩:=Y.D8 b7;refine uR F.slot_list_append ⟨_,e8,rfl⟩ F.entry_list_append (F.args_list_append_2 _ _) (PySem.list_append _ b8.toArray n8 v8<|by rw[rX];omega) ⟨e8,?_⟩;have P:=Y.Ge (its':=b8++[v8]) (f:=(·.push v8)) (t':=U.toks) b7 e8 ⋯ (rv.append<|.cons r8 .nil) (by rw[ug,Bp];omega);exact⟨m',hm,i+1,s++[x8],j,_,P.EK,(after P).1,(after P).2,w8⟩
 exact codeAny_compStart_list ax<|T.self _ 0 _ _ _ as ax
noncomputable def Yj(O:TI)(own:List Str)(fr:List (Str×Nat))(g:TG)(L:TT)(I:TE):TE:=λb H Q=>O b H λJ a=>∀D,a D=cI->
 ∃W:Nat->Nat->List V->St->Hp->Prop,(∃m,W 0 m [] (VI own fr b) (upd a D<|.lst []))/\CW J g L I D Q W
section
variable{X:Cx}{scope:l9}{own:List Str}{fr:List (Str×Nat)}{elt tg iter:g9}{ifs:List g9}{pos:l0}{wi:TI}{g:TG}{tt:TT}{te:TE}
theorem JV
 (hc:X.calm=cT) (ok:B2 X scope fr) (hi:PI X tg iter wi) (z : ∀fp s2 Z,PG (zT X scope (own++fr.map (·.1)) fp s2 Z) tg g)
 (B : ∀fp s2 Z,bQ (zT X scope (own++fr.map (·.1)) fp s2 Z) ifs tt) (he : ∀fp s2 Z,PE (zT X scope (own++fr.map (·.1)) fp s2 Z) elt te)
 (I:Inv X pins σ H s) (h:Yj wi own fr g tt te σ H Q)
 (O : ∀D H' s' L,Inv X pins σ H' s'->Q (.ref D) H'->(∃m,s'.heap.Ns L m)->Vt X pins H' L->
   compPost (hR X.prog X.w) X.A X.xe use R (.ref D) L (.ok .next) s')
 (hs : ∀x,A3 iter X.env x=pure x:=by intro _;rfl) :
 wpAny (hR X.prog X.w) X.A (GP (.ListComp elt [⟨tg,iter,ifs,0⟩] scope pos) scope X.env (firstIterPos [⟨tg,iter,ifs,0⟩] pos) (Gh []) dV (hH iter X.env) use) R X.xe s:=by
 refine wpAny_comprehension_free rfl hs (wG λn a=>I.ok.has n<|ok.free (n,.free) a rfl) ok.kind (λx u e=>by rw[<- e];exact q9 ok.nd<|show(x.1,x.2)∈scope.names from u) ?_;refine kr (hi pins s σ H _ I h) λv K j=>kr j λF s2 k=>?_;obtain⟨G,fp,P,J,Z,e,S,T,U,W,Y⟩:=k;subst e;refine kr (Vp (own:=own) (Q:=Q) (E:=X.xe) hc S ok T U W (z fp s2 Z) (B fp s2 Z) (he fp s2 Z) Y) λacc M l=>kr l λd N o=>AG o λr s' p=>?_;obtain⟨⟨f,t⟩,D,H',i,b,q,a,y⟩:=p;subst t;subst i;have C:=O D H' s' d.locals b q a y;cases use<;>exact C
theorem Z9(hc:X.calm=cT)(ok:B2 X scope fr)(hi:PI X tg iter wi)(z : ∀fp s2 Z,PG (zT X scope (own++fr.map (·.1)) fp s2 Z) tg g)
 (B : ∀fp s2 Z,bQ (zT X scope (own++fr.map (·.1)) fp s2 Z) ifs tt) (he : ∀fp s2 Z,PE (zT X scope (own++fr.map (·.1)) fp s2 Z) elt te)
 (hs : ∀x,A3 iter X.env x=pure x:=by intro _;rfl) :
 PE X (.ListComp elt [⟨tg,iter,ifs,0⟩] scope pos) (Yj wi own fr g tt te):=by
 intro a s p H Q I h;rw[eval_ListComp];refine JV (use:=cI) hc ok hi z B he I h (λD d k L J q j y=>?_) hs;obtain⟨m,i⟩:=j;obtain⟨O,S,U,W,Y⟩:=y;refine⟨m,i,λn l=>⟨.ref D,d,J.turned (t':=k.toks) (it:=L) (λb o f e=>l.extBut b o f e) O S (.inr U) W Y,rfl,q⟩⟩
theorem vL(z:X.N.Nodup)(B:X.N[i]? = aI y)(J:Loc X.env.scope y)(hf:X.fn y=cT\/X.env.scope.names.lookup y=aI .local)
 (hc:X.calm=cT) (ok:B2 X scope fr) (hi:PI X tg iter wi) (O : ∀fp s2 Z,PG (zT X scope (own++fr.map (·.1)) fp s2 Z) tg g)
 (S : ∀fp s2 Z,bQ (zT X scope (own++fr.map (·.1)) fp s2 Z) ifs tt) (he : ∀fp s2 Z,PE (zT X scope (own++fr.map (·.1)) fp s2 Z) elt te)
 (hs : ∀x,A3 iter X.env x=pure x:=by intro _;rfl) :
 PS X (.Assign [.Name y py] (.ListComp elt [⟨tg,iter,ifs,0⟩] scope pos) spos) (vy (Yj wi own fr g tt te)<|j4 i):=by
 have d : ∃b:Bool,B6 (.ListComp elt [⟨tg,iter,ifs,0⟩] scope pos) (aI (.Name y py)) spos.line X.env=pure b:=⟨_,rfl⟩;obtain⟨b,d⟩:=d;cases b with
 | false=>
  have u:Gm [.Name y py] (.ListComp elt [⟨tg,iter,ifs,0⟩] scope pos) spos.line X.env=B6 (.ListComp elt [⟨tg,iter,ifs,0⟩] scope pos) (aI (.Name y py)) spos.line X.env:=rfl;exact VO (Z9 hc ok hi O S he hs) (XH z B J hf) (by rw[u];exact d)
 | true=>
  intro f s σ H D I h;rw[exec_Assign_Name_used _ _ _ _ d];refine rS<|Cd<|rS ?_;show wpAny _ X.A (do let _ <- GP (.ListComp elt [⟨tg,iter,ifs,0⟩] scope pos) scope X.env _ (Gh []) dV (hH iter X.env) (aI (CZ (.Name y py) X.env))) _ _ s;refine rS<|kr (JV (R:=λ_ j=>SP X f D .next j) (use:=aI (CZ (.Name y py) X.env)) hc ok hi O S he I h (λU Q j L k q E P=>?_) hs) λ_ j q=>rW<|rW q;obtain⟨G,W,K,Y,M⟩:=P;obtain⟨m,C⟩:=E;show wpAny _ _ (CZ (.Name y py) X.env<|.ref U) _ _ _;refine Hz<|wX k z B J (v:= .ref U) rfl (λl n p=>?_) hf;obtain⟨a,F,w⟩:=p;have r:L≠a:=by
   rcases w with e | e
   ·rw[e];exact W
   ·exact tE<|Y _ _ e
  refine⟨m,C.sameBut F r,λT t=>⟨_,_,n.turned (t':=l.toks) (it:=L) (λb o d e=>t.extBut b o d e) G W (.inr K) Y M,q⟩⟩
end
inductive Sk where
 | L | T
 deriving DecidableEq
end L2
namespace DL
open PySem L2
inductive D where
 | hI | bl (b:Bool) | int (i:Int) | str (x:Str) | tup (xs:List D) | lst (xs:List D)
 | exc (c:Str) (n:Option Int)
 | o6 (ks vs:List D)
 | n9 (ks:List (List Int)) (vs:List D)
 | ins (c:Str) (p t:D)
inductive Cell where
 | no | val (d:D) | own (ds:List D) | nest (rows:List (List D))
abbrev Ctx:=List Cell
abbrev CO (a : Type) := Ctx -> Option a
def lim:Nat:=2500
noncomputable def jU:D->Option (Sk×List D)
 | .tup a=>aI (.T,a)
 | .lst a=>aI (.L,a)
 | _=>cI
def zM(f:CO D)(γ:Ctx):Option (Sk×List D):=(f γ).bind jU
def jr(f:CO (List D))(γ:Ctx):Option D:=(f γ).map D.lst
noncomputable def jb(f:CO (List D))(γ:Ctx):Option (Sk×List D):=(f γ).map λa=>(Sk.L,a)
def KC:Option Cell->Option D
 | some (.val d)=>aI d
 | _=>cI
noncomputable def kD:Option Cell->Option (Sk×List D)
 | some (.val d)=>jU d
 | some (.own ds)=>aI (.L,ds)
 | _=>cI
def zo(i:Nat)(γ:Ctx):Option D:=KC γ[i]?
def zl(i:Nat)(γ:Ctx):Option (Sk×List D):=kD γ[i]?
noncomputable def zp(d:D):CO D:=λ_=>aI d
noncomputable def zR(F:D->D->Option D)(I J:CO D)(γ:Ctx):Option D:=(I γ).bind λx=>(J γ).bind λy=>F x y
def CD:D->Option Bool
 | .bl b=>aI b
 | _=>cI
def p0:D->Option Int
 | .int i=>aI i
 | _=>cI
def sB(f:CO D)(γ:Ctx):Option Bool:=(f γ).bind CD
noncomputable def WK(f g:CO Bool)(γ:Ctx):Option Bool:=(f γ).bind λb=>if b=cT then g γ else aI dV
noncomputable def bA(f g:CO Bool)(γ:Ctx):Option Bool:=(f γ).bind λb=>if b=cT then aI cT else g γ
def qj(f:CO Bool)(γ:Ctx):Option Bool:=(f γ).map λb=> !b
noncomputable def WL(f g:CO D)(γ:Ctx):Option D:=((f γ).bind CD).bind λb=>if b=cT then g γ else aI (.bl dV)
noncomputable def Hm(f g:CO D)(γ:Ctx):Option D:=((f γ).bind CD).bind λb=>if b=cT then aI (.bl cT)else g γ
noncomputable def iN(f:CO D)(γ:Ctx):Option D:=((f γ).bind CD).map λb=> .bl (!b)
noncomputable def QK(c:CO Bool)(f g:CO D)(γ:Ctx):Option D:=(c γ).bind λb=>if b=cT then f γ else g γ
def zI:CO (List D):=λ_=>aI []
noncomputable def ze(f:CO D)(g:CO (List D))(γ:Ctx):Option (List D):=(f γ).bind λx=>(g γ).map λr=>x::r
noncomputable def vb(f:CO (List D))(γ:Ctx):Option D:=(f γ).bind λa=>if a.length<=lim then aI (.tup a)else cI
noncomputable def jJ(f:CO (List D))(γ:Ctx):Option (List D):=(f γ).bind λa=>if a.length<=lim then aI a else cI
inductive Res where
 | val (d:D) | own (ds:List D)
inductive Fl where
 | next (γ:Ctx) | brk (γ:Ctx) | cont (γ:Ctx) | ret (r:Res)
def jq(γ:Ctx):Option Fl:=aI (.next γ)
noncomputable def zP(F G:CO Fl):CO Fl:=λb=>(F b).bind λz=>match z with
 | .next a=>G a
 | f=>aI f
noncomputable def jA(f:CO D)(γ:Ctx):Option Fl:=(f γ).map λd=> .ret (.val d)
noncomputable def qF(f:CO (List D))(γ:Ctx):Option Fl:=(f γ).map λd=> .ret (.own d)
noncomputable def Jo:Option Cell->Option Fl
 | some (.val d)=>aI (.ret<|.val d)
 | some (.own ds)=>aI (.ret<|.own ds)
 | _=>cI
def J6(i:Nat)(γ:Ctx):Option Fl:=Jo γ[i]?
def rG(γ:Ctx):Option Fl:=aI (.brk γ)
def cQ(γ:Ctx):Option Fl:=aI (.cont γ)
def j9:CO Fl:=λ_=>cI
noncomputable def n5(k:CO Bool)(F G:CO Fl)(γ:Ctx):Option Fl:=(k γ).bind λb=>if b=cT then F γ else G γ
noncomputable def jk(i:Nat)(f:CO D)(γ:Ctx):Option Fl:=(f γ).map λd=> .next (γ.set i<|.val d)
noncomputable def wc(i:Nat)(f:CO (List D))(γ:Ctx):Option Fl:=(f γ).map λa=> .next (γ.set i<|.own a)
def cP(f:CO D)(γ:Ctx):Option Fl:=(f γ).map λ_=> .next γ
noncomputable def qw:Option Cell->Option (List D)
 | some (.own ds)=>aI ds
 | _=>cI
noncomputable def yk(i:Nat)(f:CO D)(γ:Ctx):Option Fl:=(qw γ[i]?).bind λa=>(f γ).bind λd=>if a.length<lim then aI (.next<|γ.set i<|.own<|a++[d])else cI
noncomputable def k4(n:Nat)(ds:List D):Ctx:=ds.map Cell.val++so (n - ds.length) Cell.no
noncomputable def jl(n:Nat)(F:CO Fl)(ds:List D):Option Res:=(F<|k4 n ds).bind λz=>match z with
 | .ret r=>aI r
 | .next _=>aI (.val .hI)
 | _=>cI
def QL:Res->D
 | .val d=>d
 | .own a=> .lst a
noncomputable def zG(F:List D->Option Res)(g:CO (List D))(γ:Ctx):Option D:=(g γ).bind λa=>(F a).map QL
def ny:Res->Option (List D)
 | .own a=>aI a
 | _=>cI
noncomputable def jo(F:List D->Option Res)(g:CO (List D))(γ:Ctx):Option (List D):=(g γ).bind λa=>(F a).bind ny
noncomputable def xN(lo:Int)(n:Nat):List D:=(tJ n).map λ(i:Nat)=>D.int<|lo+(i:Int)
noncomputable def bu(ds I:List D):List D:=(ds.zip I).map λp=>D.tup [p.1,p.2]
noncomputable def zQ(f:CO (Sk×List D))(γ:Ctx):Option (List D):=(f γ).map (·.2)
def inR(i:Int):Bool:=decide<|i.natAbs<2 ^ 62
noncomputable def jK(f:CO D)(γ:Ctx):Option (List D):=((f γ).bind p0).bind λn=>if inR n=cT then aI (xN 0 n.toNat)else cI
noncomputable def ZX(f g:CO D)(γ:Ctx):Option (List D):=((f γ).bind p0).bind λm=>((g γ).bind p0).bind λn=>if inR m=cT/\inR n=cT then aI (xN m (n - m).toNat)else cI
noncomputable def Yn(f g:CO D)(γ:Ctx):Option (List D):=((f γ).bind jU).bind λm=>((g γ).bind jU).map λn=>bu m.2 n.2
inductive Tg where
 | nm (i:Nat) | tp (is:List Nat)
noncomputable def jC:List Nat->List D->Ctx->Ctx
 | i::is,d::ds,γ=>jC is ds<|γ.set i<|.val d
 | _,_,γ=>γ
noncomputable def xA:Tg->D->CO Ctx
 | .nm i,d,γ=>aI (γ.set i<|.val d)
 | .tp is,.tup ds,γ=>if ds.length=is.length then aI (jC is ds γ)else cI
 | _,_,_=>cI
noncomputable def kZ(T:Tg)(F:CO Fl):List D->CO Fl
 | [],a=>aI (.next a)
 | d::b,a=>(xA T d a).bind λB=>(F B).bind λI=>match I with
  | .next z=>kZ T F b z
  | .cont z=>kZ T F b z
  | .brk z=>aI (.next z)
  | .ret r=>aI (.ret r)
noncomputable def Xa(I:CO (List D))(T:Tg)(F:CO Fl)(γ:Ctx):Option Fl:=(I γ).bind λa=>kZ T F a γ
def eD:Cell->Cell
 | .own _=> .no
 | .nest _=> .no
 | c=>c
noncomputable def yt(n:Nat)(fr:List Nat)(γ:Ctx):Ctx:=so n Cell.no++fr.map λj=>eD<|γ[j]?.getD .no
noncomputable def ZG(T:Tg)(k:CO Bool)(f:CO D)(γ:Ctx):List D->Option (List D)
 | []=>aI []
 | d::ds=>(xA T d γ).bind λz=>(k z).bind λb=>if b=cT then (f z).bind λe=>(ZG T k f γ ds).map λr=>e::r else ZG T k f γ ds
noncomputable def zL(I:CO (List D))(T:Tg)(n:Nat)(fr:List Nat)(k:CO Bool)(f:CO D)(γ:Ctx):Option (List D):=(I γ).bind λa=>if a.length<=lim then ZG T k f (yt n fr γ) a else cI
def jR:CO Bool:=λ_=>aI cT
def Tg.idx:Tg->List Nat
 | .nm i=>[i]
 | .tp is=>is
noncomputable def dI(g:Int->Int->D):D->D->Option D
 | .int i,.int j=>aI (g i j)
 | _,_=>cI
noncomputable def Ey(c:Int->Int->Bool)(g:Int->Int->D):D->D->Option D
 | .int i,.int j=>if c i j=cT then aI (g i j)else cI
 | _,_=>cI
def Wl:D->D->Option D:=dI λi j=> .int (i - j)
noncomputable def QG(i j:Int):Bool:=decide (i.natAbs<2 ^ 64) || decide (j.natAbs<2 ^ 64)
noncomputable def fC(_ j:Int):Bool:=decide (0<j) && decide (j.natAbs<1073741824)
def K6:D->D->Option D:=Ey fC λi j=> .int (i/j)
def gN(_ j:Int):Bool:=decide<|0<j
def vS:D->D->Option D:=Ey gN λi j=> .int (i%j)
noncomputable def fB(i j:Int):Bool:=decide (0<=j) && decide (j.natAbs<=1000000) && decide (i.natAbs<2 ^ 64)
def aU:D->D->Option D:=Ey fB λi j=> .int (i ^ j.toNat)
def Ez:D->D->Option D:=dI λi j=> .bl (decide<|i<j)
def C3:D->D->Option D:=dI λi j=> .bl (decide<|i<=j)
def DI:D->D->Option D:=dI λi j=> .bl (decide<|j<i)
def EY:D->D->Option D:=dI λi j=> .bl (decide<|j<=i)
noncomputable def yb:D->D->Option D
 | .int i,.int j=>aI (.int<|i+j)
 | .tup xs,.tup ys=>if xs.length+ys.length<=lim then aI (.tup<|xs++ys)else cI
 | _,_=>cI
noncomputable def JU:D->D->Option D
 | .int i,.int j=>if QG i j=cT then aI (.int<|i*j)else cI
 | .tup xs,.int j=>if xs.length*j.toNat<=lim/\inR j=cT then aI (.tup (so j.toNat xs).flatten)else cI
 | _,_=>cI
noncomputable def xq(f g:CO (Sk×List D))(γ:Ctx):Option (List D):=(f γ).bind λa=>(g γ).bind λb=>
 match a.1,b.1 with
 | .L,.L=>if a.2.length+b.2.length<=lim then aI (a.2++b.2)else cI
 | _,_=>cI
noncomputable def cK(f:CO (Sk×List D))(g:CO D)(γ:Ctx):Option (List D):=(f γ).bind λa=>((g γ).bind p0).bind λj=>
 match a.1 with
 | .L=>if a.2.length*j.toNat<=lim/\inR j=cT then aI (so j.toNat a.2).flatten else cI
 | _=>cI
noncomputable def A4(n:Nat)(i:Int):Option Nat:=if 0<=i/\i<n then aI i.toNat else if i<0/\0<=i+n then aI (i+n).toNat else cI
noncomputable def g6(f:CO (Sk×List D))(g:CO D)(γ:Ctx):Option D:=(f γ).bind λa=>((g γ).bind p0).bind λi=>(A4 a.2.length i).bind λk=>a.2[k]?
noncomputable def Vz(i:Nat)(g f:CO D)(γ:Ctx):Option Fl:=(f γ).bind λd=>(qw γ[i]?).bind λa=>((g γ).bind p0).bind λk=>(A4 a.length k).map λj=> .next (γ.set i<|.own<|a.set j d)
noncomputable def Vo(n dflt:Nat):Option Int->Nat
 | none=>dflt
 | some i=>if i<0 then (i+n).toNat else min i.toNat n
noncomputable def bN(xs:List D)(lo I:Option Int):List D:=(xs.drop<|Vo xs.length 0 lo).take (Vo xs.length xs.length I - Vo xs.length 0 lo)
def Jx:CO (Option Int):=λ_=>aI cI
noncomputable def t7(f:CO D)(γ:Ctx):Option (Option Int):=((f γ).bind p0).map aI
noncomputable def bx(f:CO D)(l h:CO (Option Int))(γ:Ctx):Option D:=(f γ).bind λd=>(l γ).bind λlo=>(h γ).bind λa=>match d with
 | .tup b=>aI (.tup<|bN b lo a)
 | _=>cI
noncomputable def vc(f:CO (Sk×List D))(γ:Ctx):Option D:=(f γ).map λa=> .int a.2.length
inductive Ty where
 | int | bool | str | tuple | list
 deriving DecidableEq
@[simp] def Wd:D->Bool
 | .int _=>cT
 | .bl _=>cT
 | _=>dV
@[simp] def eX:D->Bool
 | .bl _=>cT
 | _=>dV
@[simp] def Wa:D->Bool
 | .str _=>cT
 | _=>dV
@[simp] def V9:D->Bool
 | .tup _=>cT
 | _=>dV
@[simp] def Wc:D->Bool
 | .lst _=>cT
 | _=>dV
noncomputable def K5:Ty->D->Bool
 | .int=>Wd
 | .bool=>eX
 | .str=>Wa
 | .tuple=>V9
 | .list=>Wc
noncomputable def Eb(T:Ty)(f:CO D)(γ:Ctx):Option D:=(f γ).map λd=> .bl (K5 T d)
noncomputable def lx:Ty->Sk->Bool
 | .tuple,.T=>cT
 | .list,.L=>cT
 | _,_=>dV
noncomputable def rE(T:Ty)(f:CO (Sk×List D))(γ:Ctx):Option D:=(f γ).map λa=> .bl (lx T a.1)
@[simp] def D5:D->Bool
 | .hI=>cT
 | _=>dV
@[simp] noncomputable def eqB(a:Bool):D->Bool
 | .bl b=>a==b
 | .int b=>(if a then 1 else 0)==b
 | _=>dV
@[simp] noncomputable def GS(a:Int):D->Bool
 | .bl b=>a==(if b then 1 else 0)
 | .int b=>a==b
 | _=>dV
@[simp] def GU(a:Str):D->Bool
 | .str b=>a==b
 | _=>dV
@[simp] noncomputable def GY(a:Str)(i:Option Int):D->Bool
 | .exc b j=>a==b && i==j
 | _=>dV
mutual
def u3:D->D->Bool
 | .hI,y=>D5 y
 | .bl a,y=>eqB a y
 | .int a,y=>GS a y
 | .str a,y=>GU a y
 | .tup xs,y=>match y with
  | .tup e=>CK xs e
  | _=>dV
 | .lst xs,y=>match y with
  | .lst e=>CK xs e
  | _=>dV
 | .exc a i,y=>GY a i y
 | .o6 a b,y=>match y with
  | .o6 c d=>CK a c && CK b d
  | _=>dV
 | .n9 a b,y=>match y with
  | .n9 c d=>a==c && CK b d
  | _=>dV
 | .ins a b c,y=>match y with
  | .ins z B I=>a==z && (u3 b B && u3 c I)
  | _=>dV
def CK:List D->List D->Bool
 | [],[]=>cT
 | x::xs,y::ys=>u3 x y && CK xs ys
 | _,_=>dV
end
mutual
def deep:D->Nat
 | .tup a=>D4 a+1
 | .lst a=>D4 a+1
 | _=>0
def D4:List D->Nat
 | []=>0
 | x::xs=>max (deep x)<|D4 xs
end
mutual
def r0:D->Bool
 | .str x=>x.cps.all (· < 0x110000)
 | .exc _ _=>dV
 | .o6 _ _=>dV
 | .n9 _ _=>dV
 | .ins _ _ _=>dV
 | .tup a=>CP a
 | .lst a=>CP a
 | _=>cT
def CP:List D->Bool
 | []=>cT
 | x::xs=>r0 x && CP xs
end
def Cu(d:D):Bool:=decide (deep d<=20) && r0 d
noncomputable def o5(x y:D):Option D:=if Cu x=cT/\Cu y=cT then aI (.bl<|u3 x y)else cI
noncomputable def t6(x y:D):Option D:=if Cu x=cT/\Cu y=cT then aI (.bl<|!u3 x y)else cI
noncomputable def gK:D->D->Option D
 | x,.hI=>aI (.bl<|match x with | .hI=>cT | _=>dV)
 | _,_=>cI
noncomputable def jm(f:CO (Sk×List D))(γ:Ctx):Option D:=(f γ).map λa=> .tup a.2
noncomputable def Q9(f:CO (Sk×List D))(γ:Ctx):Option (List D):=(f γ).map λa=>a.2
noncomputable def iF:List D->Option Int
 | []=>aI 0
 | .int i::r=>(iF r).map λs=>i+s
 | _::_=>cI
noncomputable def iJ(f:CO (Sk×List D))(γ:Ctx):Option D:=(f γ).bind λa=>(iF a.2).map D.int
noncomputable def mU:D->Option Bool
 | .hI=>aI dV
 | .bl b=>aI b
 | .int i=>aI (i != 0)
 | _=>cI
noncomputable def Yg:List D->Option (List Bool)
 | []=>aI []
 | d::r=>(mU d).bind λb=>(Yg r).map λs=>b::s
noncomputable def VB(f:CO (Sk×List D))(γ:Ctx):Option D:=(f γ).bind λa=>(Yg a.2).map λs=> .bl (s.all id)
noncomputable def iQ(f:CO (Sk×List D))(γ:Ctx):Option D:=(f γ).bind λa=>(Yg a.2).map λs=> .bl (s.any id)
noncomputable def px(f:CO D)(γ:Ctx):Option D:=(f γ).bind λd=>match d with
 | .int i=>aI (.int i)
 | .bl b=>aI (.int<|if b then 1 else 0)
 | _=>cI
noncomputable def pj(f g:CO D)(γ:Ctx):Option D:=((f γ).bind p0).bind λi=>((g γ).bind p0).map λj=> .int (if j>i then j else i)
noncomputable def WH(f:CO (Sk×List D))(γ:Ctx):Option Bool:=(f γ).map λa=> !a.2.isEmpty
def bB(f:CO D):CO D:=λa=>((f a).bind p0).map λi=> .int (-i)
noncomputable def vC(F G:D->D->Option D)(I J L:CO D):CO D:=λa=>(I a).bind λx=>(J a).bind λy=>((F x y).bind CD).bind λb=>if b=cT then (L a).bind λz=>G y z else aI (.bl dV)
noncomputable def ph(T:Tg)(f:CO D)(γ:Ctx):Option Fl:=(f γ).bind λd=>(xA T d γ).map .next
def pU:D->Option Int
 | .tup (.int k::_)=>aI k
 | _=>cI
noncomputable def eP:List D->Option (List Int)
 | []=>aI []
 | d::r=>(pU d).bind λk=>(eP r).map λl=>k::l
noncomputable def nQ:List Int->Bool
 | a::b::r=>decide (a<b) && nQ (b::r)
 | _=>cT
noncomputable def pO(ks:List Int):Nat:=(ks.dropLast.filter λk=>decide<|k<ks.getLast?.getD 0).length
noncomputable def pV(q:Nat)(ds:List D):List D:=ds.dropLast.take q++(ds.drop (ds.length - 1)++ds.dropLast.drop q)
noncomputable def iI(ds:List D):Option (List D):=(eP ds).bind λa=>if (1<=ds.length/\ds.length<=8)/\nQ a.dropLast=cT/\decide (a.getLast?.getD 0∈a.dropLast)=dV then aI (pV (pO a) ds)else cI
noncomputable def iK(f:CO (Sk×List D))(γ:Ctx):Option (List D):=(f γ).bind λa=>match a.1 with
 | .L=>iI a.2
 | _=>cI
noncomputable def lJ:D->Bool
 | .tup _=>dV
 | .lst _=>dV
 | .exc _ _=>dV
 | .o6 _ _=>dV
 | .n9 _ _=>dV
 | .ins _ _ _=>dV
 | _=>cT
end DL
namespace L2
open PySem PySem.Spec PyProof.Rows
noncomputable def o3(k:Sk)(h:il)(i l:eH)(n:Nat):Prop:=match k with
 | .L=>h.IsListIter i l n
 | .T=>h.IsTupleIter i l n
noncomputable def t4(k:Sk)(h:il)(l:eH)(xs:Array eI):Prop:=match k with
 | .L=>h.IsList l xs
 | .T=>h.IsTuple l xs
noncomputable def ra(k:Sk)(l:eH):n7:=match k with
 | .L=>{cls:= .type "list_iterator",data:= .fields #[.ref l,.int 0 0]}
 | .T=>{cls:= .type "tuple_iterator",data:= .fields #[.ref l,.int 0 0]}
theorem o3.at(x:o3 k h i l n)(e : ∀o,h.get? i=aI o->h'.get? i=aI o):o3 k h' i l n:=by cases k<;>exact let ⟨o,z,r⟩:=x;⟨o,e _ z,r⟩
theorem t4.at(x:t4 k h l xs)(e : ∀o,h.get? l=aI o->h'.get? l=aI o):t4 k h' l xs:=by cases k<;>exact let ⟨o,z,r⟩:=x;⟨o,e _ z,r⟩
theorem o3.obj(x:o3 k h i l n) : ∃o,h.get? i=aI o/\∀v,o.data ≠ .cell v:=by cases k<;>exact let ⟨o,B,_,d⟩:=x;⟨o,B,λv z=>by rw[d]at z;cases z⟩
theorem t4.lt(x:t4 k h l xs):l<h.objs.size:=by cases k<;>exact let ⟨o,z,_⟩:=x;sg z
theorem vN(k:Sk)(h:il)(l:eH):o3 k (h.push<|ra k l) h.objs.size l 0:=by cases k<;>exact⟨_,se _ rfl,rfl,rfl⟩
section
variable{prog:m3}{w:l6}{A:m7}{E:GQ}{s:g8}
theorem Zv(z:t4 k s.heap l xs)(B:Q (.ref s.heap.objs.size) {s with heap:=s.heap.push (ra k l)}):wpAny (hR prog w) A (Fb<|.ref l) Q E s:=by
 cases k
 ·exact Cj z B
 ·exact Bg z B
theorem xT(I:o3 k s.heap it l i)(J:t4 k s.heap l items)(hx:items[i]? = aI x)
 (O : ∀h',o3 k h' it l (i+1)->uV it s.heap h'->Q x {s with heap:=h'}):wpAny (hR prog w) A (sE<|.ref it) Q E s:=by
 cases k with
 | L=>exact wpAny_nextOf_list_item I J hx O
 | T=>
  have B:s.heap.IsTupleIter it l i:=I;obtain⟨o,z,b,a⟩:=id B;obtain⟨W,S,_,Y,U⟩:=(show s.heap.IsTuple l items from J);unfold sE;refine rS (tH (name:=tm "__next__") B.typeIs AV (uo AV B.typeIs GR ?_ (GH _)));refine rS (m:=field (.ref it) 0) (tf z a (x:= .ref l) rfl ?_);show wpAny _ _ (if (sk l==sR)=cT then _ else _) _ _ s;rw[GX (show ¬((sk l==sR)=cT)from sh)];refine rS (m:=field (.ref it) 1) (tf z a (x:= .int i 0) rfl ?_);refine rS (m:=seqItems? (.ref l)) (uF S U ?_);simp only[Bd,hx];refine rS (wpAny_setField z a ⋯ (rW ⟨x,rfl,rW (O _ ?_ (uV.update ..))⟩));show Heap.IsTupleIter _ it l (i+1);exact⟨_,uU _ z (Obj.isFreed_of_fields (BP a _)),(Obj.cls_mapFields ..).trans b,by rw[BP a];simp[Dv]⟩
theorem wy(z:A.handled=cI)(J:o3 k s.heap it l i)(O:t4 k s.heap l items)(hx:items[i]? = cI)
 (S : ∀h' e,Heap.ExtBut it s.heap h'->(∃o,h'.get? e=aI o/\o.cls = .type "StopIteration")->E (.ref e) {s with heap:=h'}):wpAny (hR prog w) A (sE (.ref it)) Q E s:=by
 cases k with
 | L=>exact wpAny_nextOf_list_end z J O hx S
 | T=>
  have B:s.heap.IsTupleIter it l i:=J;obtain⟨o,I,d,b⟩:=id B;obtain⟨Y,U,_,f,W⟩:=(show s.heap.IsTuple l items from O);unfold sE;refine rS (tH (name:=tm "__next__") B.typeIs AV (uo AV B.typeIs GR ?_ (GH _)));refine rS (m:=field (.ref it) 0) (tf I b (x:= .ref l) rfl ?_);show wpAny _ _ (if (sk l==sR)=cT then _ else _) _ _ s;rw[GX (show ¬((sk l==sR)=cT)from sh)];refine rS (m:=field (.ref it) 1) (tf I b (x:= .int i 0) rfl ?_);refine rS (m:=seqItems? (.ref l)) (uF U W ?_);simp only[Bd,hx];refine rS (AR (rS (wpAny_setField I b ⋯ ?_)));refine rS (m:=newExc (.type "StopIteration") []) ?_;simp only[newExc,newTuple];refine rS (tG ?_ (by size_fits));refine rS (m:=firstArgMember _ _) (wpAny_of_eq (a:=sR) (by first | rfl | (simp only[firstArgMember];rfl)) ?_);refine tG ?_ (by size_fits);simp only[raiseNew];refine rS (wpAny_handled ?_)
  first | rw[show A.in1.handled=cI from z] | rw[z]
  exact rS<|rW<|wpAny_throw<|S _ _ (((uV.update ..).extBut.push _).push _) ⟨_,se _ rfl,rfl⟩
theorem QS{k1 k2:Sk}{z TI TO I J Y Z:eH}{n1 n2:Nat}{xs ys:Array eI}{x y a b:eI}{Q:GQ}(D:Fo z TI TO I J Y Z)
 (L:CB s.heap z TI TO .none) (b7:r9 s.heap TI (.ref I) (.ref J)) (b8:r9 s.heap TO a b)
 (h1:o3 k1 s.heap I Y n1) (h2:o3 k2 s.heap J Z n2) (b9:t4 k1 s.heap Y xs) (bb:t4 k2 s.heap Z ys) (hx:xs[n1]? = aI x) (hy:ys[n2]? = aI y)
 (hQ : ∀h',CB h' z TI TO (Dv s.heap.objs.size)->r9 h' TO x y->o3 k1 h' I Y (n1+1)->o3 k2 h' J Z (n2+1)->r9 h' s.heap.objs.size x y->h'.objs.size=s.heap.objs.size+1->
   (∀c o,c≠z->c≠TO->c≠I->c≠J->s.heap.get? c=aI o->h'.get? c=aI o)->Q (.ref s.heap.objs.size) {s with heap:=h'}) :
 wpAny (hR prog w) A (Builtin.«zip.__next__» ⟨[.ref z],[]⟩) (λbg s'=>∃v,bg = .done (.ret v)/\Q v s') E s:=by
 refine rS (m:=field (.ref z) 2)<|tf L rfl (x:= .bool dV) rfl ?_;refine rS (m:=field (.ref z) 3)<|tf L rfl (x:= .ref TI) rfl ?_;refine rS<|uF b7 rfl ?_;refine rS (m:=sQ<|.ref z) ?_;unfold sQ;refine rS<|tf L rfl (x:= .none) rfl<|rW ?_;simp only[if_true];refine rS<|AR<|rS<|tf L rfl (x:= .ref TO) rfl ?_;refine rS<|tK L ⋯ λg1 n O=>?_;replace n:CB g1 z TI TO .ellipsis:=n;refine rS ?_;simp only[List.zipIdx_cons,List.zipIdx_nil,List.forIn_cons,List.forIn_nil];refine rS<|rS<|Ce ?_;refine rS (m:=sE<|.ref I)<|xT (h1.at λo e=>O.extBut _ _ D.i1z e) (b9.at λo e=>O.extBut _ _ D.l1z e) hx λg2 P U=>rW ?_;have F:r9 g2 TO a b:=U.extBut _ _ D.TOi1<|O.extBut _ _ D.TOz b8;refine rS<|uF F rfl<|rS<|BL F λg3 p W=>?_;replace p:r9 g3 TO x b:=p;refine rS<|BV<|rW<|rS<|rS<|Ce ?_;refine rS (m:=sE<|.ref J)<|xT (h2.at λo e=>W.extBut _ _ D.TOi2.symm<|U.extBut _ _ D.i12.symm<|O.extBut _ _ D.i2z e) (bb.at λo e=>W.extBut _ _ D.l2TO<|U.extBut _ _ D.l2i1<|O.extBut _ _ D.l2z e) hy λg4 R d=>rW ?_;have G:r9 g4 TO x b:=d.extBut _ _ D.TOi2 p;refine rS<|uF G rfl<|rS<|BL G λB i f=>?_;replace i:r9 B TO x y:=i;refine rS<|BV<|rW<|rW<|rS<|uF i rfl<|rS<|wpAny_newTuple ?_;have h:B.objs.size=s.heap.objs.size:=by rw[f.1,d.1,W.1,U.1,O.1]
 have H:CB B z TI TO .ellipsis:=f.extBut _ _ D.TOz.symm (d.extBut _ _ D.i2z.symm (W.extBut _ _ D.TOz.symm (U.extBut _ _ D.i1z.symm n)));have c5 : ∀c o,c≠z->c≠TO->c≠I->c≠J->s.heap.get? c=aI o->B.get? c=aI o:=λc o S k u C e=>f.extBut _ _ k (d.extBut _ _ C (W.extBut _ _ k (U.extBut _ _ u (O.extBut _ _ S e))));have T:o3 k1 B I Y (n1+1):=P.at λo e=>f.extBut _ _ D.TOi1.symm (d.extBut _ _ D.i12 (W.extBut _ _ D.TOi1.symm e));have X:o3 k2 B J Z (n2+1):=R.at λo e=>f.extBut _ _ D.TOi2.symm e;have K:z<B.objs.size:=sg H;refine rS (m:=tZ (.ref z) (.ref B.objs.size)) ?_;unfold tZ;have c8:CB (B.push {cls:= .type "tuple",data:= .seq #[x,y]}) z TI TO .ellipsis:=rT _ H;refine rS (tK c8 ⋯ λg7 as r=>?_);replace as:CB g7 z TI TO (Dv B.objs.size):=as;refine tK as ⋯ λg j t=>?_;replace j:CB g z TI TO (Dv B.objs.size):=j;have l : ∀c o,c≠z->B.get? c=aI o->g.get? c=aI o:=λc o S e=>t.extBut _ _ S (r.extBut _ _ S (rT _ e));have M:r9 g B.objs.size x y:=t.extBut _ _ (uB K) (r.extBut _ _ (uB K) (se _ rfl));have N:g.objs.size=B.objs.size+1:=by rw[t.1,r.1,sG]
 rw[h]at j M N;refine rW ⟨_,rfl,?_⟩;show Q (.ref B.objs.size) _;rw[h];exact hQ g j (l _ _ D.TOz i) (T.at λo e=>l _ o D.i1z e) (X.at λo e=>l _ o D.i2z e) M N λc o S k u C e=>l c o S<|c5 c o S k u C e
theorem K8{k1 k2:Sk}{z TI TO J U Z l2:eH}{n1 n2:Nat}{xs ys:Array eI}{a b:eI}{Q:Fin->g8->Prop}(hh:A.handled=cI)(D:Fo z TI TO J U Z l2)
 (L:CB s.heap z TI TO .none) (b1:r9 s.heap TI (.ref J) (.ref U)) (b2:r9 s.heap TO a b)
 (h1:o3 k1 s.heap J Z n1) (h2:o3 k2 s.heap U l2 n2) (ac:t4 k1 s.heap Z xs) (b3:t4 k2 s.heap l2 ys) (b4:xs[n1]? = cI\/ys[n2]? = cI)
 (hE : ∀h' e,(∀c o,c≠z->c≠TO->c≠J->c≠U->s.heap.get? c=aI o->h'.get? c=aI o)->(∃o,h'.get? e=aI o/\o.cls = .type "StopIteration")->E (.ref e) {s with heap:=h'}) :
 wpAny (hR prog w) A (Builtin.«zip.__next__» ⟨[.ref z],[]⟩) Q E s:=by
 refine rS (m:=field (.ref z) 2) (tf L rfl (x:= .bool dV) rfl ?_);refine rS (m:=field (.ref z) 3) (tf L rfl (x:= .ref TI) rfl ?_);refine rS (uF b1 rfl ?_);refine rS (m:=sQ (.ref z)) ?_;unfold sQ;refine rS (tf L rfl (x:= .none) rfl (rW ?_));simp only[if_true];refine rS (AR (rS (tf L rfl (x:= .ref TO) rfl ?_)));refine rS (tK L ⋯ λg1 i B=>?_);replace i:CB g1 z TI TO .ellipsis:=i;refine rS ?_;simp only[List.zipIdx_cons,List.zipIdx_nil,List.forIn_cons,List.forIn_nil];refine rS (rS (Ce ?_));have n : ∀{g e:_} {W:n7},CB g z TI TO .ellipsis->(∀c o,c≠z->c≠TO->c≠J->c≠U->s.heap.get? c=aI o->g.get? c=aI o)->g.get? e=aI W->W.cls = .type "StopIteration"->
  wpAny (hR prog w) A (EI (.ref z) 0 .none) (λ_ C=>E (.ref e) C) E {s with heap:=g}:=λ{g e W} p hk O Y=>by
  have u:e≠z:=λq=>by subst q;rw[p]at O;cases O;simp at Y
  exact tK p ⋯ λg3 _ S=>hE g3 e (λc o d j f k q=>S.extBut _ _ d<|hk c o d j f k q) ⟨W,S.extBut _ _ u O,Y⟩
 cases hx:xs[n1]? with
 | none=>
  refine rS (m:=sE<|.ref J)<|wy hh (h1.at λo e=>B.extBut _ _ D.i1z e) (ac.at λo e=>B.extBut _ _ D.l1z e) hx λg2 e I l=>?_;obtain⟨W,O,Y⟩:=l;exact n (I _ _ D.i1z.symm i) (λc o d _ f _ q=>I _ _ f<|B.extBut _ _ d q) O Y
 | some x=>
  have y:ys[n2]? = cI:=by rcases b4 with h | h;rw[hx]at h;cases h;exact h
  refine rS (m:=sE<|.ref J)<|xT (h1.at λo e=>B.extBut _ _ D.i1z e) (ac.at λo e=>B.extBut _ _ D.l1z e) hx λg2 F I=>rW ?_;have r:r9 g2 TO a b:=I.extBut _ _ D.TOi1<|B.extBut _ _ D.TOz b2;refine rS<|uF r rfl<|rS<|BL r λg3 G S=>?_;refine rS<|BV<|rW<|rS<|rS<|Ce ?_;refine rS (m:=sE<|.ref U)<|wy hh (h2.at λo e=>S.extBut _ _ D.TOi2.symm<|I.extBut _ _ D.i12.symm<|B.extBut _ _ D.i2z e) (b3.at λo e=>S.extBut _ _ D.l2TO<|I.extBut _ _ D.l2i1<|B.extBut _ _ D.l2z e) y λH e t l=>?_;obtain⟨W,O,Y⟩:=l;exact n (t _ _ D.i2z.symm<|S.extBut _ _ D.TOz.symm<|I.extBut _ _ D.i1z.symm i) (λc o d j f k q=>t _ _ k<|S.extBut _ _ j<|I.extBut _ _ f<|B.extBut _ _ d q) O Y
end
def ky(a b:eI):n7:={cls:= .type "tuple",data:= .seq #[a,b]}
noncomputable def ia(TI TO:eH):n7:={cls:= .type "zip",data:= .fields #[.none,.bool dV,.bool dV,.ref TI,.ref TO]}
noncomputable def vd(k1 k2:Sk)(h:il)(z B:eH):il:=
 sW (sW (sW (sW (sW h<|ra k1 z)<|ra k2 B)<|ky (.ref h.objs.size)<|.ref<|h.objs.size+1)<|ky .none .none) (ia (h.objs.size+2)<|h.objs.size+3)
theorem K7(k1 k2:Sk)(z B:eH)(xs ys:Array eI) :
 Meets (Builtin.«zip.__new__» ⟨[.type "zip",.ref z,.ref B],[]⟩) (λ_ R s=>t4 k1 s.heap z xs/\t4 k2 s.heap B ys/\
  R (.ok<|.ret<|.ref<|s.heap.objs.size+4) {s with heap:=vd k1 k2 s.heap z B}):=
 .of_wp λb w A R s h=>by
  obtain⟨a,g,d,f,os⟩:=s;obtain⟨I,J,h⟩:=h;have U:=sub_zip;have O:t4 k1 (Shared.heap ⟨a,g,d,f,os⟩) z xs:=I;have S:t4 k2 (Shared.heap ⟨a.push<|ra k1 z,g,d,f,os⟩) B ys:=J.at λo e=>rT _ e
  wp_walk using Zv O,Zv S
  refine⟨_,rfl,?_⟩;simp only[vd,ky,ia,sG]at h ⊢;exact h
section
variable{X:Cx}{pins:GW}{σ:St}{H:Hp}{s:g8}{h':il}
theorem Inv.FL{t':Nat}{fp:List eH}{a:eH}{o:HO}(I:Inv X pins σ H s)(k : ∀b u,b∉fp->s.heap.get? b=aI u->h'.get? b=aI u)(L : ∀b∈fp,kW X pins H b)
 (W:s.heap.objs.size<=a) (new:m8 X.prog X.w (upd H a o) h' a o):Inv X pins σ (upd H a o) {s with heap:=h',toks:=t'}:=by
 have g:H a=cI:=I.iv.fresh W;have J : ∀b u,H b=aI u->b∉fp:=λb u e z=>by rw[(L b z).1]at e;cases e
 have O : ∀b u,s.heap.get? b=aI u->b≠a:=λb u e=>sr<|si (sg e) W;refine I.step (g':=s.gens) (d':=s.drawn) (ch:=fp) (λb d=>⟨(L b d).2.2.2.1,(L b d).2.1,(L b d).2.2.2.2.1,(L b d).2.2.2.2.2⟩) (λb u _ _ f e _=>k b u f e) (λb u _ _ f e _=>⟨u.slots,k b u f e⟩)
  (λb u _ e n=>by rw[zw (O b u e)];exact n) (λb u f e=>⟨u,k b u f e⟩) (λb h e=>by rw[zw (zS e g)];exact e) (λb B h e=>by rw[zw (zS e g)];exact e)
  (λb p e=>⟨#[],by rw[zw (zS e g),e];simp⟩) (λm l=>?_) (λb u e=>?_) I.bare
 ·obtain⟨B,j,i,S,r⟩:=l
  refine⟨B,j,i,k _ B (λz=>(L _ z).2.1 rfl) S,r⟩
 ·by_cases d:b=a
  ·subst d;rw[zr]at e;cases e;exact new
  ·rw[zw d]at e
   refine(I.iv b u e).Cw (λc v f q=>k c v ?_ q) (λc q=>by rw[zw (zS q g)];exact q) λc h q=>by rw[zw (zS q g)];exact q
   rcases f with z | z
   ·rw[z];exact J b u e
   ·exact J c _ z
theorem Inv.Dx{t':Nat}{fp:List eH}(I:Inv X pins σ H s)(k : ∀b u,b∉fp->s.heap.get? b=aI u->h'.get? b=aI u)(L : ∀b∈fp,kW X pins H b):Inv X pins σ H {s with heap:=h',toks:=t'}:=by
 have J : ∀b u,H b=aI u->b∉fp:=λb u e z=>by rw[(L b z).1]at e;cases e
 refine I.step (g':=s.gens) (d':=s.drawn) (ch:=fp) (λb d=>⟨(L b d).2.2.2.1,(L b d).2.1,(L b d).2.2.2.2.1,(L b d).2.2.2.2.2⟩) (λb u _ _ a e _=>k b u a e) (λb u _ _ a e _=>⟨u.slots,k b u a e⟩)
  (λb u _ e n=>n) (λb u a e=>⟨u,k b u a e⟩) (λb f e=>e) (λb B f e=>e)
  (λb j e=>⟨#[],by rw[e];simp⟩) (λm i=>?_) (λb u e=>?_) I.bare
 ·obtain⟨B,h,g,O,r⟩:=i
  refine⟨B,h,g,k _ B (λz=>(L _ z).2.1 rfl) O,r⟩
 ·refine(I.iv b u e).Cw (λc v a q=>k c v ?_ q) (λc q=>q) λc f q=>q
  rcases a with z | z
  ·rw[z];exact J b u e
  ·exact J c _ z
end
noncomputable def pa(k:Sk)(K:rR)(H:Hp)(a:eH)(xs:List V):Prop:=match k with
 | .L=>l8 K H a xs
 | .T=>mu K H a xs
theorem Inv.sq(I:Inv X pins σ H s)(h:pa k X.K H a xs) :
 ∃B:List eI,kA xs B/\t4 k s.heap a B.toArray/\xs.length<=l4:=by
 cases k with
 | L=>obtain⟨B,r,p,z⟩:=I.list h;exact⟨B,r,p.isList,z⟩
 | T=>obtain⟨B,r,p,z⟩:=I.tuple h;exact⟨B,r,p,z⟩
theorem Inv.FH(I:Inv X pins σ H s)(h:pa k X.K H a xs)(h':pa k X.K H a ys):xs=ys:=by
 cases k with
 | L=>exact I.FD h h'
 | T=>exact I.Gu h h'
noncomputable def Fk(k1 k2:Sk)(K:rR)(a b:eH):It:=
 ⟨λi H=>∃d e,pa k1 K H a d/\pa k2 K H b e/\i<d.length/\i<e.length,
  λi H x f=>∃p u v,x = .ref p/\H p=cI/\f=upd H p (.tup [u,v])/\(∀d,pa k1 K H a d->d[i]? = aI u)/\(∀e,pa k2 K H b e->e[i]? = aI v),
  λi H=>∃d e,pa k1 K H a d/\pa k2 K H b e/\(d.length<=i\/e.length<=i)⟩
theorem Ye{P:m3}{w:l6}{K:rR}{elts:List g9}{x1:Nat}{u4:l0}(k1 k2:Sk){z TI TO S U a b:eH}(D:Fo z TI TO S U a b) :
 Turn P w K (.Tuple elts x1 u4) (Fk k1 k2 K a b) [z,TI,TO,S,U] z (λi h=>CB h z TI TO .none/\r9 h TI (.ref S) (.ref U)/\(∃c d,r9 h TO c d)/\o3 k1 h S a i/\o3 k2 h U b i) where
 mem:=by simp
 obj:=λi h ⟨B,O,⟨c,d,W⟩,h1,h2⟩ y hy=>by
  simp only[sd,sD,or_false]at hy;rcases hy with rfl | rfl | rfl | rfl | rfl
  ·exact⟨_,B,λv q=>by cases q⟩
  ·exact⟨_,O,λv q=>by cases q⟩
  ·exact⟨_,W,λv q=>by cases q⟩
  ·exact h1.obj
  ·exact h2.obj
 keep:=λi h h' ⟨B,O,⟨c,d,W⟩,h1,h2⟩ k=>
  ⟨k z ⋯ _ B,k TI ⋯ _ O,⟨c,d,k TO ⋯ _ W⟩,h1.at λo e=>k S ⋯ o e,h2.at λo e=>k U ⋯ o e⟩
 item:=by
  rintro X hP hw hK hc i pins s σ H E I hf ⟨B,O,⟨c,d,W⟩,h1,h2⟩ ⟨xs,ys,ab,ac,b5,b6⟩;subst hP hw hK;obtain⟨b7,ap,p1,z1⟩:=I.sq ab;obtain⟨b8,ax,p2,z2⟩:=I.sq ac;have hx:xs[i]? = aI xs[i]:=rV b5;have hy:ys[i]? = aI ys[i]:=rV b6;obtain⟨u1,b9,bb⟩:=ap.get hx;obtain⟨u2,bd,be⟩:=ax.get hy;have hT:s.TypeIs (.ref z) "zip":=⟨_,B,rfl⟩;unfold Ea;refine rS (Ay (tH (name:=tm "__next__") hT By (uo By hT F.entry_zip_next
   (QS D B O W h1 h2 p1 p2 (x:=u1) (y:=u2) (by simpa using b9) (by simpa using bd) λg a1 a2 a3 a4 a5 a6 a7=>rW ⟨_,rfl,?_⟩) (F.args_zip_next_1 _))))
  refine wpAny_letOwnedTupleGo_zip a1 λg2 bv Y=>?_;have lt : ∀{c o},s.heap.get? c=aI o->s.heap.objs.size≠c:=λe=>uB<|sg e;have c0:r9 g2 s.heap.objs.size u1 u2:=Y.extBut _ _ (lt B) a5;have kk : ∀J u,J ∉ [z,TI,TO,S,U]->s.heap.get? J=aI u->g2.get? J=aI u:=λJ u hb e=>by simp only[sd,sD,or_false,not_or]at hb;exact Y.extBut _ _ hb.1<|a7 J u hb.1 hb.2.2.1 hb.2.2.2.1 hb.2.2.2.2 e
  have I1:Inv X pins σ (upd H s.heap.objs.size<|.tup [xs[i],ys[i]]) {s with heap:=g2,toks:=s.toks}:=
   I.FL (fp:=[z,TI,TO,S,U]) kk hf (sf _) ⟨by show 2<=l4;decide,[u1,u2],.cons bb<|.cons be .nil,⟨_,c0,rfl,_,rfl⟩⟩
  have c3:H s.heap.objs.size=cI:=I.fresh;refine⟨.ref s.heap.objs.size,_,I1,rfl,⟨_,_,_,rfl,c3,rfl,λc9 b3=>by rw[I.FH b3 ab];exact hx,λca b3=>by rw[I.FH b3 ac];exact hy⟩,?_,λJ hb=>?_⟩
  ·exact⟨bv,Y.extBut _ _ D.TIz<|a7 _ _ D.TIz D.TITO D.TIi1 D.TIi2 O,⟨_,_,Y.extBut _ _ D.TOz a2⟩,a3.at λo e=>Y.extBut _ _ D.i1z e,a4.at λo e=>Y.extBut _ _ D.i2z e⟩
  ·have c4:J≠s.heap.objs.size:=by
    simp only[sd,sD,or_false]at hb;rcases hb with rfl | rfl | rfl | rfl | rfl
    ·exact(lt B).symm
    ·exact(lt O).symm
    ·exact(lt W).symm
    ·obtain⟨o,e,_⟩:=h1.obj;exact(lt e).symm
    ·obtain⟨o,e,_⟩:=h2.obj;exact(lt e).symm
   rw[zw c4];exact(hf J hb).1
 done:=by
  rintro X hP hw hK hc i pins s σ H E I hf ⟨B,O,⟨c,d,W⟩,h1,h2⟩ ⟨xs,ys,ab,ac,hi⟩;subst hP hw hK;obtain⟨b7,ap,p1,z1⟩:=I.sq ab;obtain⟨b8,ax,p2,z2⟩:=I.sq ac;have hT:s.TypeIs (.ref z) "zip":=⟨_,B,rfl⟩;have l1:=ap.length;have l2:=ax.length;unfold Ea;refine rS (Ay (tH (name:=tm "__next__") hT By (uo By hT F.entry_zip_next
   (K8 (show X.A.handled=cI from I.ok.hd hc) D B O W h1 h2 p1 p2 (by rcases hi with q | q;left;simp;omega;right;simp;omega) λg e hk he=>?_) (F.args_zip_next_1 _))))
  obtain⟨o,ho,c7⟩:=he;refine rS (wpAny_isInstance (T:="StopIteration") (b:=cT) ⟨o,ho,c7⟩ isSubtype_stop (rW ⟨rfl,?_⟩));refine I.Dx (t':=s.toks) (fp:=[z,TI,TO,S,U]) (λJ u hb e=>?_) hf;simp only[sd,sD,or_false,not_or]at hb;exact hk J u hb.1 hb.2.2.1 hb.2.2.2.1 hb.2.2.2.2 e
 self:=λ_ _ _ _ _ st h=>wpAny_pyIter_zip st.1 h
noncomputable def pW(K:rR)(I:TA):TI:=λj H R=>I j H λg d=>∃e f a b,g=[.ref a,.ref b]/\(∃h,pa e K d a h)/\(∃i,pa f K d b i)/\R (Fk e f K a b) d
theorem dB{X:Cx}{e1 L:g9}{ta:TA}{p pos:l0}{Z:List g9}{x1:Nat}{u4:l0}(hg:Gl X "zip")(hm:X.mg "zip" = cI)(ha:PA X [e1,L] ta)
 (hv:C0 "zip" = aI (.type "zip")) (hs:lp [e1,L] X.env=[(dV,hH e1 X.env),(dV,hH L X.env)]:=by rfl) (S:lp [L] X.env=[(dV,hH L X.env)]:=by rfl) :
 PI X (.Tuple Z x1 u4) (.Call (.Name "zip" p) [e1,L] [] pos) (pW X.K ta):=by
 intro j s x H R I h;refine Call_ (jP I hg hm hv<|tq (kr (ha pos j s x H _ I h) λus d T=>?_) (by rw[hs,S])<|by rw[S];rfl);obtain⟨vs,l,z,r1,q1⟩:=T;obtain⟨f,g,a,b,e,⟨xs,A⟩,⟨ys,C⟩,q⟩:=q1;subst e;obtain⟨w1,w2,P,E,G⟩:=bS r1;subst P;cases E;cases G;obtain⟨M,b6,U,z1⟩:=z.sq A;obtain⟨N,b7,u,z2⟩:=z.sq C;have la:=U.lt;have lb:=u.lt;refine callType_new F.called_zip ⋯ (F.typeCall_zip_2 _ _) (F.newCall_zip_2 _ _) (λobj=>F.args_object_init_3 obj _ _) F.entry_zip_new (K7 f g a b M.toArray N.toArray) ⟨U,u,?_⟩;have k : ∀c o,d.heap.get? c=aI o->(vd f g d.heap a b).get? c=aI o:=λc o e=>
  rT _ (rT _<|rT _<|rT _<|rT _ e)
 have W:(sW d.heap<|ra f a).objs.size=d.heap.objs.size+1:=sG ..;have Y:(sW (sW d.heap<|ra f a)<|ra g b).objs.size=d.heap.objs.size+2:=by rw[sG,W]
 have w:(sW (sW (sW d.heap<|ra f a)<|ra g b)<|ky (.ref d.heap.objs.size)<|.ref<|d.heap.objs.size+1).objs.size=d.heap.objs.size+3:=by rw[sG,Y]
 have y4:(sW (sW (sW (sW d.heap<|ra f a)<|ra g b)<|ky (.ref d.heap.objs.size)<|.ref<|d.heap.objs.size+1)<|ky .none .none).objs.size=d.heap.objs.size+4:=by rw[sG,w]
 have Q:o3 f (vd f g d.heap a b) d.heap.objs.size a 0:=(vN f d.heap a).at λo e=>rT _<|rT _<|rT _<|rT _ e;have g1:o3 g (vd f g d.heap a b) (d.heap.objs.size+1) b 0:=by have q:=vN g (sW d.heap<|ra f a) b;rw[W]at q;exact q.at λo e=>rT _<|rT _<|rT _ e
 have g2:r9 (vd f g d.heap a b) (d.heap.objs.size+2) (.ref d.heap.objs.size) (.ref<|d.heap.objs.size+1):=by have q:_=aI (ky (.ref d.heap.objs.size)<|.ref<|d.heap.objs.size+1):=se (sW (sW d.heap<|ra f a)<|ra g b) (o:=ky (.ref d.heap.objs.size)<|.ref<|d.heap.objs.size+1) rfl;rw[Y]at q;exact rT _<|rT _ q
 have g3:r9 (vd f g d.heap a b) (d.heap.objs.size+3) .none .none:=by have q:_=aI (ky .none .none):=se (sW (sW (sW d.heap<|ra f a)<|ra g b)<|ky (.ref d.heap.objs.size)<|.ref<|d.heap.objs.size+1) (o:=ky .none .none) rfl;rw[w]at q;exact rT _ q
 have O:CB (vd f g d.heap a b) (d.heap.objs.size+4) (d.heap.objs.size+2) (d.heap.objs.size+3) .none:=by have q:=se (sW (sW (sW (sW d.heap<|ra f a)<|ra g b)<|ky (.ref d.heap.objs.size)<|.ref<|d.heap.objs.size+1)<|ky .none .none) (o:=ia (d.heap.objs.size+2)<|d.heap.objs.size+3) rfl;rw[y4]at q;exact q
 refine⟨⟨_,O,rfl⟩,wpAny_pyIter_zip (s:={d with heap:=vd f g d.heap a b}) O ?_⟩;have y:Inv X j x l {d with heap:=vd f g d.heap a b,toks:=d.toks}:=z.kept k;have nn : ∀m:Nat,d.heap.objs.size≠d.heap.objs.size+m+1:=λm=>by omega
 have B : ∀m:Nat,a≠d.heap.objs.size+m:=λm=>sr<|si la<|tD _ m;have J : ∀m:Nat,b≠d.heap.objs.size+m:=λm=>sr<|si lb<|tD _ m;have i : ∀m n:Nat,m≠n->(d.heap.objs.size+m:Nat)≠d.heap.objs.size+n:=λm n h=>by omega
 have D:Fo (d.heap.objs.size+4) (d.heap.objs.size+2) (d.heap.objs.size+3) d.heap.objs.size (d.heap.objs.size+1) a b:=
  ⟨i 2 4 ⋯,i 3 4 ⋯,i 0 4 ⋯,i 1 4 ⋯,i 2 3 ⋯,i 2 0 ⋯,i 2 1 ⋯,i 3 0 ⋯,i 3 1 ⋯,i 0 1 ⋯,
   B 4,B 3,B 0,B 1,J 4,J 3,J 0,J 1⟩
 refine⟨_,[d.heap.objs.size+4,d.heap.objs.size+2,d.heap.objs.size+3,d.heap.objs.size,d.heap.objs.size+1],_,_,l,rfl,y,Ye f g D,⟨O,g2,⟨_,_,g3⟩,Q,g1⟩,λc t=>?_,q⟩;have r:d.heap.objs.size<=c:=by
  simp only[sd,sD,or_false]at t;rcases t with rfl | rfl | rfl | rfl | rfl
  ·exact tD _ _
  ·exact tD _ _
  ·exact tD _ _
  ·exact sf _
  ·exact tD _ _
 exact z.C6 r<|z.iv.fresh r
noncomputable def FW(k:Sk)(K:rR)(a:eH):It:=match k with
 | .L=>FX K a
 | .T=>FY K a
noncomputable def nF(K:rR)(I:TE):TI:=λe H R=>I e H λx b=>∃a k,x = .ref a/\(∃d,pa k K b a d)/\R (FW k K a) b
theorem VS(J:PE X l tl):PI X tg l (nF X.K tl):=by
 intro d s m H R I h;refine kr (J d s m H _ I h) λv f O=>?_;obtain⟨x,g,z,S,U⟩:=O;obtain⟨a,k,e,⟨r,j⟩,q⟩:=U;subst e;cases S;have B : ∀b ∈ [f.heap.objs.size],kW X d g b:=λb i=>by
  have e:b=f.heap.objs.size:=by simpa using i
  subst e;exact z.C6 (sf _)<|z.iv.fresh<|sf _
 obtain⟨W,Y,p,n⟩:=z.sq j;cases k with
 | L=>exact Cj p ⟨f.heap.objs.size,[f.heap.objs.size],_,_,g,rfl,z.kept (t':=f.toks) λb o e=>rT _ e,QV a _,⟨_,se _ rfl,rfl,rfl⟩,B,q⟩
 | T=>exact Bg p ⟨f.heap.objs.size,[f.heap.objs.size],_,_,g,rfl,z.kept (t':=f.toks) λb o e=>rT _ e,JZ a _,⟨_,se _ rfl,rfl,rfl⟩,B,q⟩
section
variable{κ:Type} [DecidableEq κ]
noncomputable def Jt(I:List (κ×V))(k:κ):Option V:=(I.find? λa=>decide<|a.1=k).map (·.2)
noncomputable def QM(I:List (κ×V))(k:κ)(v:V):List (κ×V):=
 if (I.any λa=>decide<|a.1=k)=cT then I.map (λa=>if a.1=k then (a.1,v)else a)else I++[(k,v)]
theorem vY{p:κ×V}{r:List (κ×V)}{k:κ}(e:p.1=k):Jt (p::r) k=aI p.2:=by simp[Jt,uS,e]
theorem Js{p:κ×V}{r:List (κ×V)}{k:κ}(e : ¬p.1=k):Jt (p::r) k=Jt r k:=by simp[Jt,uS,e]
theorem yH(I:List (κ×V))(k:κ)(v:V):(QM I k v).length<=I.length+1:=by
 unfold QM;split
 ·rw[sZ];omega
 ·rw[ug,uh,List.length_nil];omega
theorem u9.Gb(r:u9 o u):o.isSome=u.isSome:=by
 cases o with
 | none=>cases u with
  | none=>rfl
  | some _=>exact(show False from r).elim
 | some _=>cases u with
  | none=>exact(show False from r).elim
  | some _=>rfl
theorem KV.val{L:List (κ×V)}{vs:List (κ×eI)}(r:KV L vs)(k:κ):u9 (Jt L k) (Ej vs k):=by
 unfold KV at r
 induction r with
 | nil=>exact tN
 | @cons p q f B h t J=>
  obtain⟨a,d⟩:=h;by_cases e:p.1=k
  ·have I:q.1=k:=a.symm.trans e
   have b:Ej (q::B) k=aI q.2:=by simp[Ej,uS,I]
   rw[vY e,b];exact d
  ·have I : ¬q.1=k:=λz=>e (a.trans z)
   have b:Ej (q::B) k=Ej B k:=by simp[Ej,uS,I]
   rw[Js e,b];exact J
theorem KV.any(r:KV n4 vs)(k:κ):(n4.any λI=>decide<|I.1=k)=vs.any λI=>decide (I.1=k):=by
 unfold KV at r
 induction r with
 | nil=>rfl
 | cons h t z=>rw[Bh,Bh,z,h.1]
theorem KV.Hl(r:KV n4 vs)(k:κ)(B:RelV y u) :
 KV (n4.map λL=>if L.1=k then (L.1,y)else L) (vs.map λL=>if L.1=k then (L.1,u)else L):=by
 unfold KV at r ⊢
 induction r with
 | nil=>exact .nil
 | @cons p q d J h t I=>
  rw[sL,sL];refine .cons ?_ I;obtain⟨a,b⟩:=h;by_cases e:p.1=k
  ·rw[GK e,GK (a.symm.trans e)];exact⟨a,B⟩
  ·rw[GX e,GX (λz=>e<|a.trans z)];exact⟨a,b⟩
theorem KV.put(r:KV n4 vs)(k:κ)(z:RelV y u):KV (QM n4 k y) (stored vs k u):=by
 unfold QM stored;rw[r.any k];by_cases e:(vs.any λa=>decide<|a.1=k)=cT
 ·rw[GK e,GK e];exact r.Hl k z
 ·rw[GX e,GX e];exact Paired.snoc r ⟨rfl,z⟩
theorem KV.length(r:KV n4 vs):n4.length=vs.length:=Paired.length r
end
theorem Y5(r:RelV (kV k) u):(jM P w).is k u=cT:=by
 cases k with
 | inl i=>obtain⟨t,e⟩:=(show ∃t,u=Aa i t from r);subst e;exact Jd P w i t
 | inr x=>obtain⟨t,e⟩:=(show ∃t,u=AX x t from r);subst e;exact Jc P w x t
theorem Zw : ∀{ks:List Key} {us:List eI},kA (ks.map kV) us->ItemsAre (jM P w) ks us
 | [],_,r=>by rw[List.map_nil]at r;cases r;exact .nil
 | k::ks,_,r=>by
  rw[sL]at r;cases r with
  | cons h t=>exact .cons (Y5 h)<|Zw t
abbrev KT(H:Hp):List (List Key×V)->List (List Key×eH×eI)->Prop:=Paired λp q=>p.1=q.1/\H q.2.1=aI (.tup (p.1.map kV))/\RelV p.2 q.2.2
theorem KT.val{H:Hp}{L:List (List Key×V)}{xs:List (List Key×eH×eI)}(r:KT H L xs)(k:List Key):u9 (Jt L k) ((DZ xs k).map (·.2)):=by
 induction r with
 | nil=>exact tN
 | @cons p q f B h t J=>
  obtain⟨a,_,d⟩:=h;by_cases e:p.1=k
  ·have I:q.1=k:=a.symm.trans e
   have b:DZ (q::B) k=aI q.2:=by simp[DZ,uS,I]
   rw[vY e,b];exact d
  ·have I : ¬q.1=k:=λz=>e (a.trans z)
   have b:DZ (q::B) k=DZ B k:=by simp[DZ,uS,I]
   rw[Js e,b];exact J
section
variable{P:m3}{w:l6}{H:Hp}{h:il}{a:eH}
theorem cV(ok:n0 P w H h)(e:Rd H a u):m8 P w H h a u:=e.ok ok
theorem Kw(ok:n0 P w H h)(e:Rd H a (.dK n4)):n4.length<=l4/\(a==CH)=dV/\∃vs,KV n4 vs/\h.DictOf (jM P w) a vs:=
 show m8 P w H h a (.dK n4)from cV ok e
theorem lL(ok:n0 P w H h)(e:H a=aI (.dK n4)):n4.length<=l4/\(a==CH)=dV/\∃vs,KV n4 vs/\h.DictOf (jM P w) a vs:=Kw ok<|.inl e
theorem X8(ok:n0 P w H h)(e:H a=aI (.tup<|ks.map kV)):(Gs<|jM P w).is h ks a:=by obtain⟨_,z,r,o,b,d,n,B⟩:=(show m8 P w H h a (.tup<|ks.map kV)from ok a _ e);exact⟨o,z.toArray,n,b,(Prod.mk.inj d).1,B,by simpa using Zw r⟩
theorem aQ(ok:n0 P w H h)(e:Rd H a (.dT n4)):n4.length<=l4/\(a==CH)=dV/\
 ∃xs,KT H n4 xs/\h.DictOfH (Gs<|jM P w) a xs:=by
 obtain⟨z,y,xs,r,o,f,d,g,i,B,I,J⟩:=(show m8 P w H h a (.dT n4)from cV ok e);refine⟨z,y,xs,r,o,f,d,g,i,B,I,λx hx=>?_,J⟩;have all : ∀{l:List (List Key×V)} {m:List (List Key×eH×eI)},KT H l m->∀x∈m,(Gs<|jM P w).is h x.1 x.2.1:=by
  intro l m q
  induction q with
  | nil=>intro x hx;exact nomatch hx
  | @cons p q j S b t O=>
   intro x hx;rcases sd.mp hx with e | hx
   ·subst e
    exact X8 ok (by rw[<- b.1];exact b.2.1)
   ·exact O x hx
 exact all r x hx
end
noncomputable def fP(H:Hp)(a:eH)(y:V)(r:Option V):Prop:=
 (∃d k,Rd H a (.dK d)/\y=kV k/\r=Jt d k)\/∃d k b,Rd H a (.dT d)/\y = .ref b/\H b=aI (.tup<|k.map kV)/\r=Jt d k
section
variable{X:Cx}{pins:GW}{σ:St}{H:Hp}{s:g8}{a:eH}{y v:V}{u r:eI}{o:Option V}{A:m7}{E:GQ}
theorem Inv.big(I:Inv X pins σ H s):CH<s.heap.objs.size:=by have h:o7<s.heap.objs.size:=(I.mod.glob.keeps I.bk).lt;exact Nat.lt_trans ⋯ h
theorem Kx(U:A.units+1<DG)(I:Inv X pins σ H s)(g:fP H a y (aI v))(S:RelV y u)(h : ∀L s',Inv X pins σ H s'->RelV v L->Q L s') :
 wpAny (hR X.prog X.w) A (C7 (.ref a) u) Q E s:=by
 rcases g with⟨i,k,e,B,l⟩ | ⟨i,k,b,e,B,W,l⟩
 ·subst B
  obtain⟨z,j,n,J,d⟩:=Kw I.iv e;obtain⟨L,f,O⟩:=u9.some_of (v:=v) (o:=Ej n k) (by rw[l];exact J.val k);exact wpAny_getItem_of (Y5 S) d.mapOf f<|h L _ (I.tok _) O
 ·subst B
  cases (show u=sk b from S);obtain⟨z,j,r,J,d⟩:=aQ I.iv e;obtain⟨L,f,O⟩:=u9.some_of (v:=v) (o:=(DZ r k).map (·.2)) (by rw[l];exact J.val k);obtain⟨p,m,Y⟩:=Option.map_eq_some_iff.mp f;refine wpAny_getItem_heap (tupleKind_room_in1 U) (X8 I.iv W) d m ?_;rw[Y];exact h L _ (I.tok _) O
theorem rf(S:A.units+1<DG)(I:Inv X pins σ H s)(g:fP H a y o)(O:RelV y u)(h : ∀s',Inv X pins σ H s'->Q (.bool o.isSome) s') :
 wpAny (hR X.prog X.w) A (p5 .In u<|.ref a) Q E s:=by
 rcases g with⟨i,k,e,B,l⟩ | ⟨i,k,b,e,B,U,l⟩
 ·subst B
  obtain⟨z,f,j,J,d⟩:=Kw I.iv e;refine wpAny_in_of (Y5 O) f d.mapOf ?_;rw[<- (J.val k).Gb,<- l];exact h _<|I.tok _
 ·subst B
  cases (show u=sk b from O);obtain⟨z,f,m,J,d⟩:=aQ I.iv e;refine wpAny_in_heap (tupleKind_room_in1 S) (X8 I.iv U) f d ?_;have q:=(J.val k).Gb;rw[Option.isSome_map]at q;rw[<- q,<- l];exact h _<|I.tok _
theorem aS(I:Inv X pins σ H s)(B:Ep (H a))(hs:uV a s.heap h')(J : ∃q,h'.get? a=aI q)(new:m8 X.prog X.w (upd H a ob) h' a ob) :
 Inv X pins σ (upd H a ob) {s with heap:=h',toks:=t'}:=
 I.write (x:=a) (e:=a) B (.inl rfl) (λb q d z=>(hs.2 b d).trans z) J new
theorem fv(z:n4.length<=l4)(I:(a==CH)=dV)(B:KV n4 vs)(dd:h'.DictOf (jM P w) a vs) :
 m8 P w H' h' a (.dK n4):=⟨z,I,vs,B,dd⟩
end
def hV(i:g9):Prop:=∀z B,FI i dV z B=operate [z,B] (C7 z B)
theorem QX{prog:m3}{w:l6}{A:m7}{E:GQ}{s:g8}{env:m9}{L z:g9}{pos:l0}{T id:String}{Q:GQ}
 (W:Fh (.type T) "__getitem__" = pure (aI (.builtin id))) (hs:hV z)
 (h:wpAny (hR prog w) A (hH L env) (λo O=>wpAny (hR prog w) A (hH z env) (λi B=>B.TypeIs o T/\wpAny (hR prog w) A (C7 o i) Q E B) E O) E s) :
 wpAny (hR prog w) A (hH (.Subscript L z pos) env) Q E s:=by
 refine Fm<|sC h (λo O Y=>sC Y (λi B I=>?_) λ_ _ x=>x) λ_ _ x=>x;obtain⟨S,I⟩:=I;unfold Gk;refine rS ?_;rw[getitemInPython_of_ne S.not_modules];refine rS<|wpAny_specialOf S W ?_;have J:wpAny (hR prog w) A (FI z dV o i) (λr U=>wpAny (hR prog w) A (letTemporaryGo L o r >>= λ_=>pure r) Q E U) E B:=by rw[hs o i];exact wpAny_operating<|sC I (λr U a=>rS<|wpAny_letTemporaryGo<|rW a) λ_ _ x=>x
 first
  | exact rW<|rS J
  | exact rS<|rW<|rS J
  | exact rS J
theorem Jm(I:Inv X pins σ H s)(g:fP H a y o):s.TypeIs (.ref a) "dict":=by
 rcases g with⟨f,k,e,_,_⟩ | ⟨f,k,b,e,_,_,_⟩
 ·obtain⟨_,_,h,_,d⟩:=Kw I.iv e
  exact d.typeIs
 ·obtain⟨_,_,i,_,d⟩:=aQ I.iv e
  exact d.typeIs
noncomputable def iB(I ty:TE):TE:=λd H Q=>I d H λx e=>ty d e λy b=>∃a v,x = .ref a/\fP b a y (aI v)/\Q v b
noncomputable def pe(ty I:TE):TE:=λd H Q=>ty d H λy e=>I d e λx b=>∃a o,x = .ref a/\fP b a y o/\Q (.bl o.isSome) b
section
variable{X:Cx}{o i e value:g9}{pos pos' u4:l0}{td ty tv:TE}
theorem W9(B:X.A.units+1<DG)(J:PE X o td)(L:PE X i ty)(hs:hV i):PE X (.Subscript o i pos) (iB td ty):=by intro b s d H Q I h;refine QX PySem.F.slot_dict_getitem.lookup hs<|kr (J b s d H _ I h) λu m ⟨x,e,O,S,U⟩=>kr (L b m d e _ O U) λn p ⟨y,f,z,W,a,v,l,g,Y⟩=>?_;subst l;obtain rfl:u=sk a:=S;exact⟨Jm z g,Kx B z g W λt r j k=>⟨v,f,j,k,Y⟩⟩
theorem dP(z:X.A.units+1<DG)(L:PE X i ty)(B:PE X o td):PC X .In i o (pe ty td):=by intro b s d H Q I h;refine kr (L b s d H _ I h) λn m ⟨y,e,J,O,S⟩=>kr (B b m d e _ J S) λu p ⟨x,f,U,W,a,Y,k,g,l⟩=>?_;subst k;obtain rfl:u=sk a:=W;exact rf z U g O λr j=>⟨.bl Y.isSome,f,j,rfl,l⟩
end
theorem Vm(h:il)(I:CH<h.objs.size):m8 P w H (h.push {cls:= .type "dict",data:= .dict #[]}) h.objs.size (.dK []):=
 ⟨uv _,beq_eq_false_iff_ne.mpr<|tE<|sr I,[],.nil,Heap.DictOf.new h⟩
end L2
namespace DL
open PySem PySem.Spec PyProof.Rows L2
noncomputable def yg:List Str:=["NoPrime","Nought","NoTable","NoWidths","NoRow","Unlike","TooMany","NoTurn","NoLine","Nothing","NoArrow","NoText","NoRoom"]
noncomputable def Fq:List eI:=[.type "ValueError",.type "Exception",.type "BaseException",.type "object"]
noncomputable def va(K:rR)(c:Str):Option eH:=match uw K o7 c with
 | some (aI (.ref C))=>aI C
 | _=>cI
noncomputable def K9(K:rR)(C:eH):Bool:=
 ["int","bool","str","tuple","list"].all (λt=>sU K (.ref C) (.type t)==aI dV) && sU K (.ref C) (.type "ValueError")==aI cT &&
 sH K (.ref C) "__getattribute__" == aI (aI (.builtin "BaseException.__getattribute__")) && sH K (.ref C) "__getattr__" == aI cI &&
 sH K (.ref C) "__class__" == aI (aI (.builtin "object.__class__")) && uj K C (.type "object")==aI cT && uj K C (.type "BaseException")==aI cT &&
 BD K (.builtin "object.__class__") "__get__" == aI (aI (.builtin "getset_descriptor.__get__")) && PySem.W.takesIn K (.builtin "object.__class__")==aI cT &&
 (AY K C).any (λa=> !a.hasDel) && AJ K (.ref C)==aI (.type "type")
noncomputable def Jr(K:rR):Bool:=match va K "SplitError" with
 | some S=>yg.all λc=>match va K c with
  | some C=>K9 K C && sU K (.ref C) (.ref S)==aI cT && yg.all λz=>match va K z with
   | some B=>sU K (.ref C) (.ref B)==aI (c==z)
   | none=>dV
  | none=>dV
 | none=>dV
noncomputable def QI(h:il)(a:eH)(C:eH):Prop:=∃o b,h.get? a=aI o/\o.cls = .ref C/\o.data = .fields b
structure B9(K:rR)(H:Hp)(c:Str)(n:Option Int)(a:eH):Prop where
 all:Jr K=cT
 mem:c∈yg
 ex : ∃C φ,va K c=aI C/\H a=aI (.ext φ)/\(∀h,φ h->QI h a C)/\
  match n with
  | none=>True
  | some i=>∃d,(∀h,φ h->∃o,h.get? a=aI o/\o.dict=aI d)/\H d=aI (.xd [(if c==("NoRoom" : Str)then "room" else "at",.int i)])
theorem B9.mono{K:rR}{H H':Hp}{c:Str}{n:Option Int}{a:eH}(e : ∀b o,H b=aI o->H' b=aI o)(h:B9 K H c n a):B9 K H' c n a:=by
 obtain⟨f,g,C,j,B,I,J,z⟩:=h;refine⟨f,g,C,j,B,e _ _ I,J,?_⟩;cases n with
 | none=>exact z
 | some i=>obtain⟨d,f1,O⟩:=z;exact⟨d,f1,e _ _ O⟩
theorem kj{K:rR}{c:Str}{C:eH}(h:Jr K=cT)(L:c∈yg)(e:va K c=aI C) : ∃S,va K "SplitError" = aI S/\K9 K C=cT/\sU K (.ref C) (.ref S)=aI cT/\
 ∀z B,z∈yg->va K z=aI B->sU K (.ref C) (.ref B)=aI (c==z):=by
 unfold Jr at h;split at h
 ·rename_i S I
  have a:=uy.mp h c L;rw[e]at a;simp only[rY,beq_iff_eq]at a;refine⟨S,I,a.1.1,a.1.2,λz B J O=>?_⟩;have b:=uy.mp a.2 z J;rw[O]at b;exact beq_iff_eq.mp b
 ·cases h
abbrev St:=L2.St
noncomputable def eV:D->Option Key
 | .int i=>aI (.inl i)
 | .str x=>aI (.inr x)
 | _=>cI
noncomputable def Zt:List D->Option (List Key)
 | []=>aI []
 | d::ds=>(eV d).bind λk=>(Zt ds).map λr=>k::r
noncomputable def Dk(H:Hp)(a:eH)(ks:List D)(xs:List V):Prop:=∃b,Zt ks=aI b/\b.length=xs.length/\∃o,H a=aI (.t8 o<|.dK<|b.zip xs)
noncomputable def iu(k:List Int):Int:=reduceHash<|Builtin.Tuple.tupleHashOf<|k.map hashInt
noncomputable def rD(o:n7)(xs:List (List Int×eH×eI)):Prop:=o.ExactDict/\∃a b,o.data = .dict a b/\a.toList=xs.map (λx=>⟨iu x.1,.ref x.2.1,x.2.2⟩)/\(xs.map (·.1)).Nodup
def Fp(a:eH)(o:n7):HO:= .ext λh=>h.get? a=aI o
noncomputable def El(K:rR)(H:Hp)(a:eH)(ks:List (List Int))(ys:List V):Prop:=
 (a==CH)=dV/\∃o b,H a=aI (Fp a o)/\rD o b/\b.map (·.1)=ks/\b.length<=l4/\(∀x∈b,mu K H x.2.1<|x.1.map V.int)/\kA ys (b.map (·.2.2))
def EB(z B:V):List (Str×V):=vK "table" B (vK "p" z [])
noncomputable def Zy(K:rR)(C:eH):Bool:=uZ K C Str.empty && (Ao K C && (AL K C && (sH K (.ref C) "__setattr__" == aI (aI (.builtin "object.__setattr__")) && (sH K (.ref C) "__class__" == aI (aI (.builtin "object.__class__")) &&
 (BD K (.builtin "object.__class__") "__get__" == aI (aI (.builtin "getset_descriptor.__get__")) && (PySem.W.takesIn K (.builtin "object.__class__")==aI cT && (uj K C (.type "object")==aI cT && ["int","bool","str","tuple","list"].all λt=>sU K (.ref C) (.type t)==aI dV)))))))
noncomputable def DM(K:rR)(c:Str):Option eH:=match uw K o7 c with
 | some (aI (.ref C))=>if Zy K C=cT then aI C else cI
 | _=>cI
theorem xX{K:rR}{c:Str}{C:eH}(h:DM K c=aI C):Zy K C=cT:=by
 unfold DM at h;split at h
 ·split at h
  ·rename_i z;cases h;exact z
  ·cases h
 ·cases h
mutual
def Rep(K:rR)(H:Hp):D->V->Prop
 | .hI,v=>v = .hI
 | .bl b,v=>v = .bl b
 | .int i,v=>v = .int i
 | .str x,v=>v = .str x
 | .tup ds,v=>∃a d,v = .ref a/\mu K H a d/\g5 K H ds d
 | .lst ds,v=>∃a d,v = .ref a/\l8 K H a d/\g5 K H ds d
 | .exc c n,v=>∃a,v = .ref a/\B9 K H c n a
 | .o6 ks vs,v=>∃a d,v = .ref a/\Dk H a ks d/\g5 K H vs d
 | .n9 ks vs,v=>∃a d,v = .ref a/\El K H a ks d/\g5 K H vs d
 | .ins c p t,v=>∃a C e z B,v = .ref a/\DM K c=aI C/\H a=aI (.ins C e<|EB z B)/\Rep K H p z/\Rep K H t B
def g5(K:rR)(H:Hp):List D->List V->Prop
 | [],xs=>xs=[]
 | d::ds,xs=>∃x r,xs=x::r/\Rep K H d x/\g5 K H ds r
end
theorem p6{K:rR}{H H':Hp}{a:eH}{xs:List V}(e:l5 H H')(h:mu K H a xs):mu K H' a xs:=by
 rcases h with(h | ⟨o,h⟩) | h
 ·exact .inl<|.inl<|e _ _ h
 ·exact .inl<|.inr ⟨o,e _ _ h⟩
 ·exact .inr h
theorem w4{k:Sk}{K:rR}{H H':Hp}{a:eH}{xs:List V}(e:l5 H H')(h:pa k K H a xs):pa k K H' a xs:=by
 cases k
 ·exact e.seq h
 ·exact p6 e h
mutual
theorem Rep.mono{K:rR}{H H':Hp}(e:l5 H H') : ∀{d:D} {v:V},Rep K H d v->Rep K H' d v
 | .hI,_,h=>h
 | .bl _,_,h=>h
 | .int _,_,h=>h
 | .str _,_,h=>h
 | .tup ds,v,h=>by obtain⟨a,b,f,i,g⟩:=(show ∃a b,v = .ref a/\mu K H a b/\g5 K H ds b from h);exact(show ∃a b,v = .ref a/\mu K H' a b/\g5 K H' ds b from⟨a,b,f,p6 e i,g5.mono e g⟩)
 | .lst ds,v,h=>by obtain⟨a,b,f,i,g⟩:=(show ∃a b,v = .ref a/\l8 K H a b/\g5 K H ds b from h);exact(show ∃a b,v = .ref a/\l8 K H' a b/\g5 K H' ds b from⟨a,b,f,e.seq i,g5.mono e g⟩)
 | .exc c n,v,h=>by obtain⟨a,f,i⟩:=(show ∃a,v = .ref a/\B9 K H c n a from h);exact(show ∃a,v = .ref a/\B9 K H' c n a from⟨a,f,i.mono e⟩)
 | .o6 ks vs,v,h=>by obtain⟨a,b,f,⟨r,I,J,o,O⟩,g⟩:=(show ∃a b,v = .ref a/\Dk H a ks b/\g5 K H vs b from h);exact(show ∃a b,v = .ref a/\Dk H' a ks b/\g5 K H' vs b from⟨a,b,f,⟨r,I,J,o,e _ _ O⟩,g5.mono e g⟩)
 | .n9 ks vs,v,h=>by obtain⟨a,b,f,⟨I,o,s,J,O,S,U,W,Y⟩,g⟩:=(show ∃a b,v = .ref a/\El K H a ks b/\g5 K H vs b from h);exact(show ∃a b,v = .ref a/\El K H' a ks b/\g5 K H' vs b from⟨a,b,f,⟨I,o,s,e _ _ J,O,S,U,λx m=>p6 e<|W x m,Y⟩,g5.mono e g⟩)
 | .ins c p t,v,h=>by obtain⟨a,C,j,z,B,f,i,g,k,l⟩:=(show ∃a C j z B,v = .ref a/\DM K c=aI C/\H a=aI (.ins C j<|EB z B)/\Rep K H p z/\Rep K H t B from h);exact(show ∃a C j z B,v = .ref a/\DM K c=aI C/\H' a=aI (.ins C j<|EB z B)/\Rep K H' p z/\Rep K H' t B from⟨a,C,j,z,B,f,i,e _ _ g,Rep.mono e k,Rep.mono e l⟩)
theorem g5.mono{K:rR}{H H':Hp}(e:l5 H H') : ∀{ds:List D} {xs:List V},g5 K H ds xs->g5 K H' ds xs
 | [],_,h=>h
 | d::ds,xs,h=>by obtain⟨x,r,a,b,f⟩:=(show ∃x r,xs=x::r/\Rep K H d x/\g5 K H ds r from h);exact(show ∃x r,xs=x::r/\Rep K H' d x/\g5 K H' ds r from⟨x,r,a,Rep.mono e b,g5.mono e f⟩)
end
section
variable{K:rR}{H:Hp}
theorem g5.nil:g5 K H [] []:=(show([]:List V)=[]from rfl)
theorem g5.cons(h:Rep K H d x)(t:g5 K H ds xs):g5 K H (d::ds) (x::xs):=⟨x,xs,rfl,h,t⟩
theorem g5.xb(h:g5 K H [] xs):xs=[]:=h
theorem g5.rp(h:g5 K H (d::ds) xs) : ∃x r,xs=x::r/\Rep K H d x/\g5 K H ds r:=h
theorem g5.length : ∀{ds:List D} {xs:List V},g5 K H ds xs->xs.length=ds.length
 | [],xs,h=>by rw[h.xb];rfl
 | d::ds,xs,h=>by obtain⟨x,r,e,_,t⟩:=h.rp;rw[e,uh,uh,g5.length t]
theorem g5.get : ∀{ds:List D} {xs:List V} {i:Nat} {d:D},g5 K H ds xs->ds[i]? = aI d->∃x,xs[i]? = aI x/\Rep K H d x
 | [],_,_,_,_,e=>by simp at e
 | c::ds,xs,0,d,h,e=>by obtain⟨x,r,a,b,_⟩:=h.rp;simp at e;subst e;exact⟨x,by rw[a];rfl,b⟩
 | c::ds,xs,i+1,d,h,e=>by obtain⟨x,r,a,_,t⟩:=h.rp;obtain⟨y,z,B⟩:=g5.get (i:=i) (d:=d) t (by simpa using e);exact⟨y,by rw[a];simpa using z,B⟩
theorem g5.D7{ds:List D}{xs:List V}{i:Nat}{x:V}(h:g5 K H ds xs)(e:xs[i]? = aI x) : ∃d,ds[i]? = aI d/\Rep K H d x:=by
 have b:i<ds.length:=by rw[<- h.length];exact(su.mp e).1
 obtain⟨y,a,r⟩:=h.get<|rV b;rw[e]at a;cases a;exact⟨_,rV b,r⟩
theorem g5.append : ∀{ds I:List D} {xs ys:List V},g5 K H ds xs->g5 K H I ys->g5 K H (ds++I) (xs++ys)
 | [],_,xs,_,h,g=>by rw[h.xb];exact g
 | d::ds,I,xs,ys,h,g=>by obtain⟨x,r,e,a,t⟩:=h.rp;rw[e];exact g5.cons a<|g5.append t g
theorem g5.drop : ∀{ds:List D} {xs:List V} (n:Nat),g5 K H ds xs->g5 K H (ds.drop n) (xs.drop n)
 | _,_,0,h=>h
 | [],xs,n+1,h=>by rw[h.xb];exact g5.nil
 | d::ds,xs,n+1,h=>by obtain⟨x,r,e,_,t⟩:=h.rp;rw[e];exact g5.drop n t
theorem g5.take : ∀{ds:List D} {xs:List V} (n:Nat),g5 K H ds xs->g5 K H (ds.take n) (xs.take n)
 | _,_,0,h=>by simp;exact g5.nil
 | [],xs,n+1,h=>by rw[h.xb];exact g5.nil
 | d::ds,xs,n+1,h=>by obtain⟨x,r,e,a,t⟩:=h.rp;rw[e];exact g5.cons a<|g5.take n t
theorem g5.set : ∀{ds:List D} {xs:List V} {d:D} {x:V} (i:Nat),g5 K H ds xs->Rep K H d x->g5 K H (ds.set i d) (xs.set i x)
 | [],xs,_,_,_,h,_=>by rw[h.xb];exact g5.nil
 | c::ds,xs,d,x,0,h,g=>by obtain⟨y,r,e,_,t⟩:=h.rp;rw[e];exact g5.cons g t
 | c::ds,xs,d,x,i+1,h,g=>by obtain⟨y,r,e,a,t⟩:=h.rp;rw[e];exact g5.cons a<|g5.set i t g
end
structure Ext(H0 H yr H':Hp):Prop where
 s0:l5 H0 yr
 s1:l5 H H'
 sub:l5 yr H'
 new : ∀a,H0 a=cI->H a≠cI->yr a=cI
theorem Ext.refl(s:l5 H0 H):Ext H0 H H0 H:=⟨l5.refl _,l5.refl _,s,λ_ h _=>h⟩
theorem Ext.trans(a:Ext H0 H H1 G1)(b:Ext H1 G1 H2 G2):Ext H0 H H2 G2:=
 ⟨a.s0.trans b.s0,a.s1.trans b.s1,b.sub,λc e d=>b.new c (a.new c e d) (by
  cases q:H c with
  | none=>exact absurd q d
  | some o=>rw[a.s1 c o q];simp)⟩
theorem zN(h:H p=cI)(o:HO):l5 H (upd H p o):=λb u q=>by rw[zw (zS q h)];exact q
theorem zO(s:l5 H0 H)(h:H p=cI):H0 p=cI:=s.free h
theorem Q4(s:l5 H0 H):l5 (upd H0 p o) (upd H p o):=λb u q=>by
 by_cases e:b=p
 ·subst e;rw[zr]at q ⊢;exact q
 ·rw[zw e]at q ⊢;exact s b u q
theorem Ext.alloc(s:l5 H0 H)(h:H p=cI)(o:HO):Ext H0 H (upd H0 p o) (upd H p o):=
 ⟨zN (zO s h) o,zN h o,Q4 s,λa b d=>by rw[zw (λe=>d<|by rw[e];exact h)];exact b⟩
theorem Ext.hide(s:l5 H0 H)(h:H p=cI)(o:HO):Ext H0 H H0 (upd H p o):=
 ⟨l5.refl _,zN h o,s.trans<|zN h o,λa b _=>b⟩
theorem Ext.show(e:Ext H0 H yr H')(L:H a=cI)(O:yr a=cI)(I:H' a=aI o)(s:l5 H0 H):Ext H0 H (upd yr a o) H':=
 ⟨e.s0.trans<|zN O o,e.s1,λb u q=>by
  by_cases z:b=a
  ·subst z;rw[zr]at q;rw[I];exact q
  ·rw[zw z]at q;exact e.sub b u q,λb J B=>by
  rw[zw (λz=>B<|by rw[z];exact L)];exact e.new b J B⟩
structure Dz(K:rR)(H0 H:Hp)(rows:List (List D))(a:eH)(bs:List eH):Prop where
 a0:H0 a=cI
 ha:H a=aI (.lst<|bs.map V.ref)
 nd:(a::bs).Nodup
 len:bs.length=rows.length
 row : ∀(k:Nat) b row,bs[k]? = aI b->rows[k]? = aI row->H0 b=cI/\∃xs,H b=aI (.lst xs)/\g5 K H0 row xs
theorem Dz.at{K:rR}{H0 H:Hp}{I:List (List D)}{a:eH}{bs:List eH}(n:Dz K H0 H I a bs){b:eH}(hb:b∈a::bs):H0 b=cI/\∃xs,H b=aI (.lst xs):=by
 rcases sd.mp hb with rfl | hb
 ·exact⟨n.a0,_,n.ha⟩
 ·obtain⟨k,z⟩:=List.getElem?_of_mem hb
  have B:=(su.mp z).1;rw[n.len]at B;obtain⟨d,xs,e,_⟩:=n.row k b _ z<|rV B;exact⟨d,xs,e⟩
theorem Dz.move{K:rR}{H0 H J H':Hp}{I:List (List D)}{a:eH}{bs:List eH}(n:Dz K H0 H I a bs)(s:l5 H0 J)(L : ∀b∈a::bs,J b=cI)(h : ∀b∈a::bs,H' b=H b):Dz K J H' I a bs:=
 ⟨L a sP,by rw[h a sP];exact n.ha,n.nd,n.len,λk b row z f=>by obtain⟨_,g,e,B⟩:=n.row k b row z f;have d:b∈a::bs:=sv _<|AE z;exact⟨L b d,g,by rw[h b d];exact e,B.mono s⟩⟩
noncomputable def u6(K:rR)(H0 H:Hp)(I:St)(γ:Ctx):Prop:=
 (∀(i:Nat) b,γ[i]? = aI (.nest b)->∃a bs,I[i]? = aI (aI (.ref a))/\Dz K H0 H b a bs/\∀(j:Nat) d c,γ[j]? = aI (.own d)->I[j]? = aI (aI (.ref c))->c∉a::bs)/\
 ∀(i j:Nat) z B,γ[i]? = aI (.nest z)->γ[j]? = aI (.nest B)->i=j
theorem u6.ED{K:rR}{H0 H:Hp}{J:St}{γ:Ctx}(h : ∀(i:Nat) I,γ[i]? ≠ aI (.nest I)):u6 K H0 H J γ:=⟨λi I e=>absurd e<|h i I,λi j z B e=>absurd e<|h i z⟩
theorem u6.move{K:rR}{H0 H J H':Hp}{L:St}{γ:Ctx}(n:u6 K H0 H L γ)(s:l5 H0 J)(h : ∀(i:Nat) I a bs,γ[i]? = aI (.nest I)->L[i]? = aI (aI (.ref a))->Dz K H0 H I a bs->(∀(j:Nat) ds c,γ[j]? = aI (.own ds)->L[j]? = aI (aI (.ref c))->c∉a::bs)->∀b∈a::bs,J b=cI/\H' b=H b):u6 K J H' L γ:=
 ⟨λi I e=>by obtain⟨a,bs,d,f,z⟩:=n.1 i I e;exact⟨a,bs,d,f.move s (λb g=>(h i I a bs e d f z b g).1)<|λb g=>(h i I a bs e d f z b g).2,z⟩,n.2⟩
theorem u6.ext{K:rR}{H0 H I H':Hp}{J:St}{γ:Ctx}(n:u6 K H0 H J γ)(e:Ext H0 H I H'):u6 K I H' J γ:=
 n.move e.s0 λi d a bs _ _ f _ b g=>by obtain⟨B,h,z⟩:=f.at g;exact⟨e.new b B (by rw[z];simp),by rw[e.s1 b _ z,z]⟩
structure RC(K:rR)(H0 H:Hp)(σ:St)(γ:Ctx):Prop where
 sub:l5 H0 H
 len:σ.length=γ.length
 val : ∀(i:Nat) d,γ[i]? = aI (.val d)->∃v,σ[i]? = aI (aI v)/\Rep K H0 d v
 own : ∀(i:Nat) ds,γ[i]? = aI (.own ds)->∃a xs,σ[i]? = aI (aI (.ref a))/\H0 a=cI/\H a=aI (.lst xs)/\g5 K H0 ds xs
 ne : ∀(i j:Nat) a ds es,γ[i]? = aI (.own ds)->γ[j]? = aI (.own es)->σ[i]? = aI (aI (.ref a))->σ[j]? = aI (aI (.ref a))->i=j
 B5:u6 K H0 H σ γ
theorem RC.ext{K:rR}{H0 H I H':Hp}{J:St}{γ:Ctx}(r:RC K H0 H J γ)(e:Ext H0 H I H'):RC K I H' J γ:=
 ⟨e.sub,r.len,λi d h=>let ⟨v,b,f⟩:=r.val i d h;⟨v,b,f.mono e.s0⟩,
  λi g h=>let ⟨a,j,b,f,z,B⟩:=r.own i g h;⟨a,j,b,e.new a f (by rw[z];simp),e.s1 _ _ z,B.mono e.s0⟩,r.ne,r.B5.ext e⟩
noncomputable def tV(K:rR)(f:CO D):TE:=λh H Q=>∃e g d,RC K e H h g/\f g=aI d/\∀v b a,Ext e H a b->Rep K a d v->Q v b
noncomputable def tQ(K:rR)(f:CO (Sk×List D)):TE:=λj H Q=>∃g i k h,RC K g H j i/\f i=aI (k,h)/\∀a e d b,Ext g H b d->pa k K d a e->(k = .T->mu K b a e)->g5 K b h e->Q (.ref a) d
noncomputable def tO(K:rR)(f:CO (List D)):TE:=λj H Q=>∃e i g,RC K e H j i/\f i=aI g/\
 ∀a h d b,Ext e H b d->H a=cI->b a=cI->d a=aI (.lst h)->g5 K b g h->Q (.ref a) d
noncomputable def tT(K:rR)(f:CO Bool):TT:=λh H Q=>∃e g b,RC K e H h g/\f g=aI b/\∀d a,Ext e H a d->Q b d
noncomputable def tA(K:rR)(f:CO (List D)):TA:=λi H Q=>∃d h e,RC K d H i h/\f h=aI e/\∀g b a,Ext d H a b->g5 K a e g->Q g b
abbrev PV(X:Cx)(e:g9)(f:CO D):Prop:=PE X e (tV X.K f)
abbrev PQ(X:Cx)(e:g9)(f:CO (Sk×List D)):Prop:=PE X e (tQ X.K f)
abbrev PO(X:Cx)(e:g9)(f:CO (List D)):Prop:=PE X e (tO X.K f)
abbrev o4(X:Cx)(e:g9)(f:CO Bool):Prop:=PT X e (tT X.K f)
abbrev DC(X:Cx)(e:g9)(f:CO Bool):Prop:=PW X e (tT X.K f)
abbrev CY(X:Cx)(es:List g9)(f:CO (List D)):Prop:=PA X es (tA X.K f)
theorem z6(h:PE X e t)(i : ∀J H Q,t' J H Q->t J H Q):PE X e t':=λa s J H Q I q=>h a s J H Q I<|i J H Q q
theorem yv(h:PT X e t)(i : ∀J H Q,t' J H Q->t J H Q):PT X e t':=λa s J H Q I q=>h a s J H Q I<|i J H Q q
theorem WO(h:PW X e t)(i : ∀J H Q,t' J H Q->t J H Q):PW X e t':=λz a s J H Q I q=>h z a s J H Q I<|i J H Q q
theorem dR(h:PA X es t)(i : ∀J H Q,t' J H Q->t J H Q):PA X es t':=λb a s J H Q I q=>h b a s J H Q I<|i J H Q q
theorem xj{X:Cx}{st:l7}{t t':TS}(h:PS X st t)(i : ∀D J H,t' D J H->t D J H):PS X st t':=λa s J H D I q=>h a s J H D I<|i D J H q
theorem VL{X:Cx}{st:List l7}{t t':TS}(h:ri X st t)(i : ∀D J H,t' D J H->t D J H):ri X st t':=λa s J H D I q=>h a s J H D I<|i D J H q
theorem wm(h:PI X tg e t)(i : ∀J H R,t' J H R->t J H R):PI X tg e t':=λa s J H R I q=>h a s J H R I<|i J H R q
theorem qK(h:n<=lim):n<=l4:=sF h ⋯
section
variable{X:Cx}{e a b c:g9}{pos:l0}
theorem PV.q(h:PV X e f):PQ X e (zM f):=z6 h λt H Q J=>by
 obtain⟨s,p,k,i,rc,B,q⟩:=J;unfold zM at B;cases e1:f p with
 | none=>rw[e1]at B;cases B
 | some d=>
  rw[e1]at B;refine⟨s,p,d,rc,e1,λv o b ext r=>?_⟩;cases d with
  | tup m=>
   obtain⟨l,I⟩:k = .T/\i=m:=by simp[jU]at B;exact⟨B.1.symm,B.2.symm⟩
   subst l I;obtain⟨a,g,rfl,j,n⟩:=(show ∃a g,v = .ref a/\mu X.K b a g/\g5 X.K b i g from r);exact q a g o b ext (p6 ext.sub j) (λ_=>j) n
  | lst m=>
   obtain⟨l,I⟩:k = .L/\i=m:=by simp[jU]at B;exact⟨B.1.symm,B.2.symm⟩
   subst l I;obtain⟨a,g,rfl,j,n⟩:=(show ∃a g,v = .ref a/\l8 X.K b a g/\g5 X.K b i g from r);exact q a g o b ext (ext.sub.seq j) (λz=>nomatch z) n
  | _=>simp[jU]at B
theorem PO.v(h:PO X e f):PV X e (jr f):=z6 h λo H Q J=>by
 obtain⟨j,i,d,rc,z,q⟩:=J;unfold jr at z;cases e1:f i with
 | none=>rw[e1]at z;cases z
 | some b=>
  rw[e1]at z;cases z;refine⟨j,i,b,rc,e1,λa m n k ext l g O r=>?_⟩;exact q _ _ _ (ext.show l g O rc.sub) (show ∃B I,V.ref a = .ref B/\l8 X.K _ B I/\g5 X.K _ b I from⟨a,m,rfl,l8.of zr,r.mono<|zN g _⟩)
theorem PO.q(h:PO X e f):PQ X e (jb f):=z6 h λp H Q I=>by
 obtain⟨i,d,k,l,rc,B,q⟩:=I;unfold jb at B;cases e1:f d with
 | none=>rw[e1]at B;cases B
 | some m=>
  rw[e1]at B;cases B;exact⟨i,d,_,rc,e1,λa j g b ext n o J r=>q a j g b ext (l8.of J) (λz=>nomatch z) r⟩
theorem JF(i:Nat)(h:PE X e (wL i)):PV X e (zo i):=z6 h λm H Q B=>by
 obtain⟨b,j,d,rc,z,q⟩:=B;unfold zo at z;cases e1:j[i]? with
 | none=>rw[e1]at z;cases z
 | some c=>
  rw[e1]at z;cases c with
  | val k=>
   cases z;obtain⟨v,f,g⟩:=rc.val i d e1;exact⟨v,f,q v H b (Ext.refl rc.sub) g⟩
  | no=>cases z
  | own l=>cases z
  | nest a=>cases z
theorem VP(i:Nat)(h:PE X e (wL i)):PQ X e (zl i):=z6 h λr H Q S=>by
 obtain⟨f,p,k,g,rc,B,q⟩:=S;unfold zl at B;cases e1:p[i]? with
 | none=>rw[e1]at B;cases B
 | some c=>
  rw[e1]at B;cases c with
  | no=>cases B
  | nest o=>cases B
  | own j=>
   cases B;obtain⟨a,b,m,n,U,W⟩:=rc.own i g e1;exact⟨_,m,q a b H f (Ext.refl rc.sub) (l8.of U) (λz=>nomatch z) W⟩
  | val d=>
   obtain⟨v,m,n⟩:=rc.val i d e1;refine⟨v,m,?_⟩;cases d with
   | tup j=>
    obtain⟨l,J⟩:k = .T/\g=j:=by simp[kD,jU]at B;exact⟨B.1.symm,B.2.symm⟩
    subst l J;obtain⟨a,b,rfl,I,O⟩:=(show ∃a b,v = .ref a/\mu X.K f a b/\g5 X.K f g b from n);exact q a b H f (Ext.refl rc.sub) (p6 rc.sub I) (λ_=>I) O
   | lst j=>
    obtain⟨l,J⟩:k = .L/\g=j:=by simp[kD,jU]at B;exact⟨B.1.symm,B.2.symm⟩
    subst l J;obtain⟨a,b,rfl,I,O⟩:=(show ∃a b,v = .ref a/\l8 X.K f a b/\g5 X.K f g b from n);exact q a b H f (Ext.refl rc.sub) (rc.sub.seq I) (λz=>nomatch z) O
   | _=>simp[kD,jU]at B
theorem k7(h:PE X e (tC v))(r : ∀H,Rep X.K H d v):PV X e (zp d):=z6 h λg H Q z=>by obtain⟨a,f,b,rc,B,q⟩:=z;cases B;exact q v H a (Ext.refl rc.sub)<|r a
theorem zh:PV X (.Constant (.int i) j pos) (zp<|.int i):=k7 dN λ_=>(show V.int i = .int i from rfl)
theorem Xq:PV X (.Constant (.bool x) j pos) (zp<|.bl x):=k7 Qh λ_=>(show V.bl x = .bl x from rfl)
theorem vE:PV X (.Constant .none j pos) (zp .hI):=k7 vM λ_=>(show V.hI = .hI from rfl)
theorem zk:PV X (.Constant (.str x) j pos) (zp<|.str x):=k7 dG λ_=>(show V.str x = .str x from rfl)
noncomputable def p9(K:rR)(r:R2)(F:D->D->Option D):Prop:=∀b H x y f z d Q,l5 b H->Rep K b f x->Rep K b z y->F f z=aI d->(∀v e a,Ext b H a e->Rep K a d v->Q v e)->r x y H Q
theorem zb(h:o.bind f=aI y) : ∃x,o=aI x/\f x=aI y:=by
 cases o with
 | none=>cases h
 | some x=>exact⟨x,rfl,h⟩
theorem Jb{K:rR}{r:R2}{F:D->D->Option D}{Z fb:CO D}(hs:p9 K r F) : ∀L H Q,tV K (zR F Z fb) L H Q->Ef r (tV K Z) (tV K fb) L H Q:=λL H Q I=>by obtain⟨g,e,d,rc,z,q⟩:=I;obtain⟨x,i,z⟩:=zb z;obtain⟨y,j,z⟩:=zb z;refine⟨g,e,x,rc,i,λJ m O b S=>⟨O,e,y,rc.ext b,j,λU h W B Y=>?_⟩⟩;exact hs W h J U x y d Q B.sub (S.mono B.s0) Y z λv f a l k=>q v f a (b.trans<|B.trans l) k
theorem vG(z:m6 X (B4 op) r)(hs:p9 X.K r F)(I:PV X a fa)(J:PV X b fb):PV X (.BinOp a op b pos) (zR F fa fb):=
 z6 (YG z I J) (Jb hs)
theorem Zh(z:m6 X (p5 op) r)(hs:p9 X.K r F)(I:PV X a fa)(J:PV X b fb)(L:vr op b=dV):PV X (.Compare a [op] [b] pos) (zR F fa fb):=
 z6 (wq z I J L) (Jb hs)
theorem kc{d:D}{b:Bool}(h:CD d=aI b):d = .bl b:=by cases d<;>simp[CD]at h;rw[h]
theorem wj(B:m6 X (p5 op) r)(hs:p9 X.K r F)(J:PV X a fa)(L:PV X b fb)(O:vr op b=dV):o4 X (.Compare a [op] [b] pos) (sB<|zR F fa fb):=
 yv (qI B J L O) λj H Q I=>by obtain⟨g,i,k,rc,z,q⟩:=I;obtain⟨d,h,z⟩:=zb z;refine Jb hs j H _ ⟨g,i,d,rc,h,λv f e x r=>?_⟩;rw[kc z]at r;exact⟨k,r,q f e x⟩
theorem zY{f:CO D}(h:PV X e f)(J : ∀B,DN e X.env B=(do let v <- B;Dh e.pos;holding [v] (truthy v)):=by intro _;rfl):o4 X e (sB f):=
 yv (dn h J) λl H Q I=>by obtain⟨g,j,k,rc,z,q⟩:=I;obtain⟨d,i,z⟩:=zb z;refine⟨g,j,d,rc,i,λv b a x r=>?_⟩;rw[kc z]at r;exact⟨k,r,q b a x⟩
theorem JE(h:o4 X a f):DC X (.BoolOp .And [a] pos) f:=Z3 h
theorem ym(h:o4 X a f):DC X (.BoolOp .Or [a] pos) f:=VE h
theorem Xi{f g:CO Bool}{rest:List g9}(L:o4 X a f)(O:DC X (.BoolOp .And (b::rest) pos) g):DC X (.BoolOp .And (a::b::rest) pos) (WK f g):=
 WO (Xj L O) λm H Q B=>by
  obtain⟨i,e,k,rc,z,q⟩:=B;obtain⟨c,l,z⟩:=zb z;refine⟨i,e,c,rc,l,λh d x=>?_⟩;cases c with
  | true=>rw[GK rfl]at z ⊢;exact⟨d,e,k,rc.ext x,z,λj I J=>q j I<|x.trans J⟩
  | false=>rw[GX sh]at z ⊢;cases z;exact q h d x
theorem Zc{f g:CO Bool}{rest:List g9}(L:o4 X a f)(O:DC X (.BoolOp .Or (b::rest) pos) g):DC X (.BoolOp .Or (a::b::rest) pos) (bA f g):=
 WO (cY L O) λm H Q B=>by
  obtain⟨i,e,k,rc,z,q⟩:=B;obtain⟨c,l,z⟩:=zb z;refine⟨i,e,c,rc,l,λh d x=>?_⟩;cases c with
  | true=>rw[GK rfl]at z ⊢;cases z;exact q h d x
  | false=>rw[GX sh]at z ⊢;exact⟨d,e,k,rc.ext x,z,λj I J=>q j I<|x.trans J⟩
theorem jh(I:o4 X a f):o4 X (.UnaryOp .Not a pos) (qj f):=
 yv (dq I) λh H Q B=>by
  obtain⟨g,d,k,rc,z,q⟩:=B;unfold qj at z;cases e1:f d with
  | none=>rw[e1]at z;cases z
  | some c=>rw[e1]at z;cases z;exact⟨g,d,c,rc,e1,λe b x=>q e b x⟩
theorem Z5(h:DC X e f):o4 X e f:=h.pt
theorem vD(h:PV X a f):PV X (.BoolOp op [a] pos) f:=dH h
theorem vH{f g:CO D}{rest:List g9}(L:PV X a f)(Y:PV X (.BoolOp .And (b::rest) pos) g):PV X (.BoolOp .And (a::b::rest) pos) (WL f g):=
 z6 (dO L Y) λm H Q B=>by
  obtain⟨k,i,d,rc,z,q⟩:=B;obtain⟨c,h,z⟩:=zb z;obtain⟨I,J,h⟩:=zb h;refine⟨k,i,I,rc,J,λv j e x r=>?_⟩;rw[kc h]at r;refine⟨c,r,?_⟩;cases c with
  | true=>rw[GK rfl]at z ⊢;exact⟨e,i,d,rc.ext x,z,λO l S U W=>q O l S (x.trans U) W⟩
  | false=>rw[GX sh]at z ⊢;cases z;exact q _ j e x (show V.bl dV = .bl dV from rfl)
theorem cZ(J:PV X a f):PV X (.UnaryOp .Not a pos) (iN f):=
 z6 (dJ J) λi H Q I=>by
  obtain⟨h,e,d,rc,z,q⟩:=I;unfold iN at z;cases e1:f e with
  | none=>rw[e1]at z;cases z
  | some B=>
   rw[e1]at z;refine⟨h,e,B,rc,e1,λv g b x r=>?_⟩;cases B with
   | bl c=>cases z;exact⟨c,r,q _ g b x<|show V.bl (!c) = .bl (!c)from rfl⟩
   | _=>cases z
theorem jE(Y:o4 X c k)(L:PV X a f)(W:PV X b g):PV X (.IfExp c a b pos) (QK k f g):=
 z6 (YI Y L W) λn H Q S=>by
  obtain⟨j,i,d,rc,z,q⟩:=S;obtain⟨t,l,z⟩:=zb z;refine⟨j,i,t,rc,l,λm e x=>?_⟩;cases t with
  | true=>rw[GK rfl]at z ⊢;exact⟨e,i,d,rc.ext x,z,λB h I J O=>q B h I (x.trans J) O⟩
  | false=>rw[GX sh]at z ⊢;exact⟨e,i,d,rc.ext x,z,λB h I J O=>q B h I (x.trans J) O⟩
theorem wu:CY X [] zI:=dR jc λe H Q z=>by obtain⟨a,d,b,rc,B,q⟩:=z;cases B;exact q [] H a (Ext.refl rc.sub) g5.nil
theorem zF(L:PV X e f)(W:CY X es g)(hs:lp (e::es) X.env=(dV,hH e X.env)::lp es X.env:=by rfl):CY X (e::es) (ze f g):=
 dR (zK L W hs) λn H Q I=>by
  obtain⟨h,b,m,rc,z,q⟩:=I;obtain⟨x,j,z⟩:=zb z;cases a:g b with
  | none=>rw[a]at z;cases z
  | some r=>
   rw[a]at z;cases z;exact⟨h,b,x,rc,j,λv l J d O=>⟨J,b,r,rc.ext d,a,λk i S B U=>q (v::k) i S (d.trans B)<|g5.cons (O.mono B.s0) U⟩⟩
theorem js(h:CY X es f):PV X (.Tuple es L pos) (vb f):=
 z6 (dF h) λn H Q J=>by
  obtain⟨i,l,d,rc,z,q⟩:=J;obtain⟨b,j,z⟩:=zb z;by_cases B:b.length<=lim
  ·rw[GK B]at z;cases z
   refine⟨i,l,b,rc,j,λk m O L I=>⟨qK (by rw[I.length];exact B),λp e=>?_⟩⟩;exact q _ _ _ (L.trans<|Ext.alloc L.sub e _) (show ∃a g,V.ref p = .ref a/\mu X.K _ a g/\g5 X.K _ b g from⟨p,k,rfl,mu.of zr,I.mono<|zN (zO L.sub e) _⟩)
  ·rw[GX B]at z;cases z
theorem jf(h:CY X es f):PO X (.List es pos) (jJ f):=
 z6 (dM h) λm H Q O=>by
  obtain⟨e,k,d,rc,B,q⟩:=O;obtain⟨g,i,B⟩:=zb B;by_cases I:g.length<=lim
  ·rw[GK I]at B;cases B
   refine⟨e,k,_,rc,i,λj l S b J=>⟨qK (by rw[J.length];exact I),λp a=>?_⟩⟩;exact q p j _ S (b.trans<|Ext.hide b.sub a _) (by
    cases z:H p with
    | none=>rfl
    | some o=>rw[b.s1 p o z]at a;cases a) (zO b.sub a) zr J
  ·rw[GX I]at B;cases B
end
noncomputable def Yu(I:List (Key×V))(ps:List (Key×V)):List (Key×V):=ps.foldl (λacc a=>QM acc a.1 a.2) I
theorem qL:entryFor table "dict.update.loop" = aI Builtin.«dict.update.loop» :=entryFor_of_tree (by kernel_rfl)
theorem qH(args:Args):(Code.builtin "dict.update.loop" args).quiet=cT:=Code.quiet_builtin _ ⋯
noncomputable def rH(i:Nat)(f:CO D)(γ:Ctx):Option D:=(qw γ[i]?).bind λa=>(f<|γ.set i<|.val<|.lst a).bind λd=>if lJ d=cT then aI d else cI
noncomputable def pG(i:Nat)(f:CO Bool)(γ:Ctx):Option Bool:=(qw γ[i]?).bind λa=>f<|γ.set i<|.val<|.lst a
noncomputable def nv(i:Nat)(γ:Ctx):Option Fl:=(qw γ[i]?).map λ_=> .next (γ.set i<|.own [])
noncomputable def vm(ds:List D):List D:=(tJ ds.length).map λ(i:Nat)=>D.tup [.int i,ds[i]?.getD .hI]
noncomputable def Yq(f:CO D)(γ:Ctx):Option (List D):=(f γ).bind λd=>match d with
 | .tup a=>aI (vm a)
 | _=>cI
noncomputable def Qz:List D->Option (List Int)
 | []=>aI []
 | .int i::r=>(Qz r).map λl=>i::l
 | _::_=>cI
noncomputable def nh(f:CO D)(g:CO (Sk×List D))(γ:Ctx):Option D:=(f γ).bind λd=>(g γ).bind λa=>(p0 d).bind λi=>(Qz a.2).map λl=> .bl (decide<|i∈l)
noncomputable def Kn(k:Int):List Int->Option Nat
 | []=>cI
 | i::r=>if i=k then aI 0 else (Kn k r).map (· + 1)
noncomputable def rF(f g:CO D)(γ:Ctx):Option D:=(f γ).bind λd=>((g γ).bind p0).bind λk=>match d with
 | .tup a=>(Qz a).bind λl=>(Kn k l).map λ(j:Nat)=>D.int (j:Int)
 | _=>cI
noncomputable def Kz(T:Tg)(f:CO (List D))(γ:Ctx):List D->Option (List<|List D)
 | []=>aI []
 | d::ds=>(xA T d γ).bind λz=>(f z).bind λe=>(Kz T f γ ds).map λr=>e::r
noncomputable def nu(I:CO (List D))(T:Tg)(n:Nat)(fr:List Nat)(f:CO (List D))(γ:Ctx):Option (List<|List D):=(I γ).bind λa=>if a.length<=lim then Kz T f (yt n fr γ) a else cI
noncomputable def wH:Option Cell->Option (List<|List D)
 | some (.nest rows)=>aI rows
 | _=>cI
noncomputable def VC(γ:Ctx)(j i:Nat)(r:List D):Ctx:=(γ.set j .no).set i (.own r)
noncomputable def JR(j i:Nat)(g f:CO D)(γ:Ctx):List (List D)->Option (List<|List D)
 | []=>aI []
 | r::rs=>(f<|VC γ j i r).bind λd=>((g<|VC γ j i r).bind p0).bind λk=>(A4 r.length k).bind λm=>(JR j i g f γ rs).map λt=>r.set m d::t
noncomputable def iO(j i:Nat)(g f:CO D)(γ:Ctx):Option Fl:=(wH γ[j]?).bind λa=>if i=j\/γ.length<=i then cI else (JR j i g f γ a).map λz=> .next ((γ.set j<|.nest z).set i .no)
noncomputable def ni(i:Nat)(F:CO Fl)(γ:Ctx):Option Fl:=(qw γ[i]?).bind λa=>F<|γ.set i<|.val<|.lst a
noncomputable def pD(i:Nat)(F:CO Fl)(γ:Ctx):Option Fl:=(wH γ[i]?).bind λa=>F<|γ.set i<|.val<|.lst<|a.map D.lst
noncomputable def mZ(is:List Nat)(f:CO D)(γ:Ctx):Option Fl:=(f γ).bind λd=>match d with
 | .lst a=>if a.length=is.length then aI (.next<|jC is a γ)else cI
 | _=>cI
noncomputable def J3:List D->Option (List Str)
 | []=>aI []
 | .str x::r=>(J3 r).map λl=>x::l
 | _::_=>cI
def zV(x:Str):Bool:=decide<|x.length<=1000
noncomputable def ZY(f:CO D)(g:CO (Sk×List D))(γ:Ctx):Option D:=(f γ).bind λd=>(g γ).bind λa=>match d,a.1 with
 | .str sep,.L=>(J3 a.2).bind λl=>if l.length<=lim/\l.all zV=cT/\zV sep=cT then aI (.str<|Str.join sep l)else cI
 | _,_=>cI
noncomputable def mY(f g:CO D)(γ:Ctx):Option D:=(f γ).bind λd=>((g γ).bind p0).bind λi=>match d with
 | .str z=>if zV z=cT then (A4 z.cps.toList.length i).bind λk=>z.cps.toList[k]?.map λc=> .str ⟨#[c]⟩else cI
 | _=>cI
noncomputable def pv(f:CO D)(γ:Ctx):Option D:=(f γ).bind λd=>match d with
 | .str z=>if zV z=cT then aI (.int z.length)else cI
 | _=>cI
noncomputable def pE(k1 z k2 B:Str)(f:CO D)(γ:Ctx):Option D:=(f γ).bind λd=>match d with
 | .str x=>if k1=k2 then cI else if x=k1 then aI (.str z)else if x=k2 then aI (.str B)else cI
 | _=>cI
noncomputable def cL(f g:CO D)(γ:Ctx):Option D:=((f γ).bind p0).bind λi=>((g γ).bind p0).map λj=> .int (if j<i then j else i)
abbrev Xn:=Str×Option Int
def ie(c:Str):CO Xn:=λ_=>aI (c,cI)
noncomputable def Jy(c:Str)(f:CO D):CO D:=λa=>(f a).bind λd=>match d with
 | .exc z _=>aI (.bl<|z==c)
 | _=>cI
noncomputable def cN(f:CO D):CO D:=λa=>(f a).bind λd=>match d with
 | .exc _ _=>aI (.bl cT)
 | _=>cI
noncomputable def rh(c:Str):Str:=if c==("NoRoom" : Str)then "room" else "at"
noncomputable def Q7(f:CO D)(g:CO (Sk×List D)):CO D:=λb=>(f b).bind λd=>(g b).bind λa=>(p0 d).bind λi=>(Qz a.2).map λl=> .bl (!decide (i∈l))
end DL
namespace DL
open PySem L2
open PySem.W (KasT kas_sort)
def kN(z:Str):List D:=z.cps.toList.map λc=>D.str ⟨#[c]⟩
noncomputable def Q5(f:CO D):CO (List D):=λa=>(f a).bind λd=>match d with
 | .str z=>if zV z=cT then aI (kN z)else cI
 | _=>cI
noncomputable def Jz(f:CO D):CO (List D):=λb=>(f b).bind λd=>match d with
 | .lst a=>aI (vm a)
 | _=>cI
noncomputable def bC(f:CO D)(g:CO (Sk×List D)):CO D:=λb=>(f b).bind λd=>(g b).bind λa=>match d with
 | .str x=>(J3 a.2).map λl=> .bl (l.any λy=>y==x)
 | _=>cI
noncomputable def cR(f g:CO D):CO D:=λa=>(f a).bind λd=>(g a).bind λe=>match d,e with
 | .str x,.str y=>if zV x=cT/\zV y=cT then aI (.str<|x++y)else cI
 | _,_=>cI
noncomputable def bz(f:CO D)(l h:CO (Option Int)):CO D:=λa=>(f a).bind λd=>(l a).bind λlo=>(h a).bind λb=>match d with
 | .str z=>if zV z=cT then aI (.str<|Txt.slice z lo b)else cI
 | _=>cI
noncomputable def gm(x y:Int×Int):Bool:=if x.1=y.1 then decide (x.2<y.2)else decide (x.1<y.1)
noncomputable def cS{I:Type}(lt:Nat->Nat->Bool):KasT I->I
 | .ret a=>a
 | .ask i j k=>cS lt<|k<|lt i j
noncomputable def qA(ps:List (Int×Int)):List Nat:=if ps.length<2 then tJ ps.length else (cS (λi j=>gm (ps.getD i (0,0))<|ps.getD j (0,0))<|kas_sort ps.length).toList
end DL
namespace DL
open PySem L2
noncomputable def Zx:List D->Option (List Int)
 | []=>aI []
 | .int i::r=>(Zx r).map λl=>i::l
 | _::_=>cI
noncomputable def fw(ds I:List D):Option D:=match Zx ds with
 | some a=>if ds.length=I.length/\a.Nodup/\ds.length<=lim then aI (.o6 ds I)else cI
 | none=>cI
noncomputable def QQ:List D->List D->Int->Option D
 | k::ks,v::vs,i=>match k with
  | .int j=>if j=i then aI v else QQ ks vs i
  | _=>QQ ks vs i
 | _,_,_=>cI
open PySem.Spec PyProof.Rows
structure RS(K:rR)(E0 E H0 H:Hp)(σ:St)(γ:Ctx):Prop where
 rc:RC K H0 H σ γ
 ext:Ext E0 E H0 H
 fresh : ∀(i:Nat) ds a,γ[i]? = aI (.own ds)->σ[i]? = aI (aI (.ref a))->E a=cI
 CM : ∀(i:Nat) rows a xs,γ[i]? = aI (.nest rows)->σ[i]? = aI (aI (.ref a))->H a=aI (.lst xs)->E a=cI/\∀b,V.ref b∈xs->E b=cI
noncomputable def Sat(K:rR)(E0 E:Hp)(D:Ends):Fl->Prop
 | .next f=>∀e H b,RS K E0 E b H e f->D.nx e H
 | .brk f=>∀e H b,RS K E0 E b H e f->D.bk e H
 | .cont f=>∀e H b,RS K E0 E b H e f->D.ct e H
 | .ret (.val d)=>∀v H b,Ext E0 E b H->Rep K b d v->D.rt v H
 | .ret (.own es)=>∀a g H b,Ext E0 E b H->E a=cI->b a=cI->H a=aI (.lst g)->g5 K b es g->D.rt (.ref a) H
noncomputable def tS(K:rR)(F:CO Fl):TS:=λD d H=>∃E0 E b a z,RS K E0 E b H d a/\F a=aI z/\Sat K E0 E D z
abbrev p8(X:Cx)(st:l7)(F:CO Fl):Prop:=PS X st (tS X.K F)
abbrev QJ(X:Cx)(Ee:List l7)(F:CO Fl):Prop:=ri X Ee (tS X.K F)
section
variable{K:rR}{E0 E H0 H yr H':Hp}{σ:St}{γ:Ctx}
theorem RS.step(r:RS K E0 E H0 H σ γ)(e:Ext H0 H yr H'):RS K E0 E yr H' σ γ:=⟨r.rc.ext e,r.ext.trans e,r.fresh,λi b a g d f I=>by obtain⟨J,bs,z,B,_⟩:=r.rc.B5.1 i b d;rw[f]at z;cases z;have:=e.s1 a _ B.ha;rw[I]at this;cases this;exact r.CM i b a _ d f B.ha⟩
theorem zB{I:Type}{l:List I}{i j:Nat}{x y:I}(h:(l.set i x)[j]? = aI y):(j=i/\y=x/\i<l.length)\/(j≠i/\l[j]? = aI y):=by
 by_cases e:i=j
 ·subst e
  by_cases z:i<l.length
  ·rw[sM z]at h;cases h;exact .inl ⟨rfl,rfl,z⟩
  ·rw[List.set_eq_of_length_le ⋯]at h
   exact absurd (su.mp h).1 z
 ·rw[rZ e]at h;exact .inr ⟨tE e,h⟩
theorem u6.t9{i:Nat}{d:D}{v:V}(n:u6 K H0 H σ γ):u6 K H0 H (σ.set i<|some v) (γ.set i<|.val d):=
 ⟨λj b e=>by
  rcases zB e with⟨_,z,_⟩ | ⟨B,z⟩
  ·cases z
  ·obtain⟨a,bs,m,o,I⟩:=n.1 j b z
   refine⟨a,bs,by rw[rZ (tE B)];exact m,o,λk l c g f=>?_⟩;rcases zB g with⟨_,z,_⟩ | ⟨J,h⟩
   ·cases z
   ·rw[rZ (tE J)]at f;exact I k l c h f,
 λj k O S g f=>by
  rcases zB g with⟨_,z,_⟩ | ⟨_,h⟩
  ·cases z
  ·rcases zB f with⟨_,z,_⟩ | ⟨_,p⟩
   ·cases z
   ·exact n.2 j k O S h p⟩
theorem RC.t9{i:Nat}{d:D}{v:V}(r:RC K H0 H σ γ)(h:Rep K H0 d v):RC K H0 H (σ.set i<|some v) (γ.set i<|.val d):=by
 refine⟨r.sub,by simp[r.len],λj f e=>?_,λj b e=>?_,λj k a b m g l O S=>?_,r.B5.t9⟩
 ·rcases zB e with⟨rfl,z,U⟩ | ⟨B,z⟩
  ·cases z;exact⟨v,sM (by rw[r.len];exact U),h⟩
  ·obtain⟨W,I,J⟩:=r.val j f z
   exact⟨W,by rw[rZ (tE B)];exact I,J⟩
 ·rcases zB e with⟨rfl,z,U⟩ | ⟨B,z⟩
  ·cases z
  ·obtain⟨a,n,I,J⟩:=r.own j b z
   exact⟨a,n,by rw[rZ (tE B)];exact I,J⟩
 ·rcases zB g with⟨_,z,_⟩ | ⟨B,o⟩
  ·cases z
  ·rcases zB l with⟨_,z,_⟩ | ⟨Y,p⟩
   ·cases z
   ·rw[rZ (tE B)]at O
    rw[rZ (tE Y)]at S;exact r.ne j k a b m o p O S
theorem RS.t9{i:Nat}{d:D}{v:V}(r:RS K E0 E H0 H σ γ)(h:Rep K H0 d v):RS K E0 E H0 H (σ.set i<|some v) (γ.set i<|.val d):=
 ⟨r.rc.t9 h,r.ext,λj g a f b=>by
  rcases zB f with⟨_,z,_⟩ | ⟨B,z⟩
  ·cases z
  ·rw[rZ (tE B)]at b;exact r.fresh j g a z b,
 λj e a k f b I=>by
  rcases zB f with⟨_,z,_⟩ | ⟨B,z⟩
  ·cases z
  ·rw[rZ (tE B)]at b;exact r.CM j e a k z b I⟩
theorem yC : ∀{z bs:List eH},z.map V.ref=bs.map V.ref->z=bs
 | [],[],_=>rfl
 | [],_::_,h=>by cases h
 | _::_,[],h=>by cases h
 | a::z,b::bs,h=>by rw[sL,sL]at h;injection h with h1 h2;injection h1 with h1;rw[h1,yC h2]
theorem RS.Ho{i:Nat}{es:List D}{a:eH}{xs:List V}{Z G:Hp}(r:RS K E0 E Z G σ γ)(e:Ext Z G H0 H)(L:G a=cI)(h2:H0 a=cI)(h3:H a=aI (.lst xs))(h4:g5 K H0 es xs) :
 RS K E0 E H0 H (σ.set i<|some (.ref a)) (γ.set i<|.own es):=by
 have rc:=r.rc.ext e;have no : ∀(j:Nat) f,γ[j]? = aI (.own f)->¬σ[j]? = aI (aI (.ref a)):=λj f g z=>by obtain⟨b,s,I,B,W,_⟩:=r.rc.own j f g;rw[z]at I;cases I;rw[L]at W;cases W
 refine⟨⟨rc.sub,by simp[rc.len],λj u g=>?_,λj f g=>?_,λj k b f fs p h S U=>?_,⟨λj d g=>?_,λj k A C I B=>?_⟩⟩,r.ext.trans e,λj f b I B=>?_,λj d b xs I B W=>?_⟩
 ·rcases zB g with⟨_,z,_⟩ | ⟨J,z⟩
  ·cases z
  ·obtain⟨F,I,B⟩:=rc.val j u z
   exact⟨F,by rw[rZ (tE J)];exact I,B⟩
 ·rcases zB g with⟨rfl,z,O⟩ | ⟨J,z⟩
  ·cases z;exact⟨a,xs,sM (by rw[rc.len];exact O),h2,h3,h4⟩
  ·obtain⟨b,s,I,B⟩:=rc.own j f z
   exact⟨b,s,by rw[rZ (tE J)];exact I,B⟩
 ·rcases zB p with⟨rfl,z,O⟩ | ⟨J,l⟩
  ·rcases zB h with⟨rfl,_,_⟩ | ⟨Y,m⟩
   ·rfl
   ·rw[sM (by rw[rc.len];exact O)]at S
    rw[rZ (tE Y)]at U;cases S;exact absurd U<|no k fs m
  ·rcases zB h with⟨rfl,z,O⟩ | ⟨Y,m⟩
   ·rw[sM (by rw[rc.len];exact O)]at U
    rw[rZ (tE J)]at S;cases U;exact absurd S<|no j f l
   ·rw[rZ (tE J)]at S
    rw[rZ (tE Y)]at U;exact rc.ne j k b f fs l m S U
 ·rcases zB g with⟨_,z,_⟩ | ⟨J,z⟩
  ·cases z
  ·obtain⟨b,bs,I,B,W⟩:=r.rc.B5.1 j d z
   obtain⟨N,n,f1,f2,x⟩:=rc.B5.1 j d z;rw[I]at f1;cases f1;have w:n.map V.ref=bs.map V.ref:=by have:=e.s1 b _ B.ha;rw[f2.ha]at this;injection this with this;injection this
   have t:n=bs:=yC w;subst t;refine⟨b,n,by rw[rZ (tE J)];exact I,f2,λk f c p h=>?_⟩;rcases zB p with⟨rfl,_,O⟩ | ⟨Y,l⟩
   ·rw[sM (by rw[rc.len];exact O)]at h;cases h
    intro y;obtain⟨_,M,q⟩:=B.at y;rw[L]at q;cases q
   ·rw[rZ (tE Y)]at h;exact x k f c l h
 ·rcases zB I with⟨_,z,_⟩ | ⟨_,l⟩
  ·cases z
  ·rcases zB B with⟨_,z,_⟩ | ⟨_,m⟩
   ·cases z
   ·exact rc.B5.2 j k A C l m
 ·rcases zB I with⟨rfl,z,O⟩ | ⟨J,z⟩
  ·rw[sM (by rw[rc.len];exact O)]at B;cases B
   cases q:E a with
   | none=>rfl
   | some o=>rw[r.ext.s1 a o q]at L;cases L
  ·rw[rZ (tE J)]at B;exact r.fresh j f b z B
 ·rcases zB I with⟨_,z,_⟩ | ⟨J,z⟩
  ·cases z
  ·rw[rZ (tE J)]at B;exact(r.step e).CM j d b xs z B W
theorem RS.rewrite{i:Nat}{ds Z:List D}{a:eH}{xs ys:List V}(r:RS K E0 E H0 H σ γ)(L:γ[i]? = aI (.own ds))(hs:σ[i]? = aI (aI (.ref a)))(Y:g5 K H0 Z ys) :
 RS K E0 E H0 (upd H a<|.lst ys) σ (γ.set i<|.own Z):=by
 obtain⟨C,F,U,S,g3,N⟩:=r.rc.own i ds L;rw[hs]at U;cases U;have G:i<γ.length:=(su.mp L).1;refine⟨⟨λb o q=>?_,by simp[r.rc.len],λj u g=>?_,λj fs g=>?_,λj k b fs gs f d J w=>?_,⟨λj e g=>?_,λj k y A f d=>?_⟩⟩,⟨r.ext.s0,λb o q=>?_,λb o q=>?_,r.ext.new⟩,λj fs b f d=>?_,λj e b p f d J=>?_⟩
 ·rw[zw (λz=>by rw[z,S]at q;cases q)];exact r.rc.sub b o q
 ·rcases zB g with⟨_,z,_⟩ | ⟨O,z⟩
  ·cases z
  ·exact r.rc.val j u z
 ·rcases zB g with⟨rfl,z,P⟩ | ⟨O,z⟩
  ·cases z;exact⟨a,ys,hs,S,zr,Y⟩
  ·obtain⟨b,p,f1,B,I,x⟩:=r.rc.own j fs z
   refine⟨b,p,f1,B,?_,x⟩;rw[zw (λq=>O<|r.rc.ne j i a fs ds z L (by rw[f1,q]) hs)];exact I
 ·have s : ∃h,γ[j]? = aI (.own h):=by
   rcases zB f with⟨q,_,_⟩ | ⟨_,z⟩
   ·exact⟨ds,by rw[q];exact L⟩
   ·exact⟨fs,z⟩
  have t : ∃h,γ[k]? = aI (.own h):=by
   rcases zB d with⟨q,_,_⟩ | ⟨_,z⟩
   ·exact⟨ds,by rw[q];exact L⟩
   ·exact⟨gs,z⟩
  obtain⟨f1,l⟩:=s;obtain⟨B,n⟩:=t;exact r.rc.ne j k b f1 B l n J w
 ·rcases zB g with⟨_,z,_⟩ | ⟨O,z⟩
  ·cases z
  ·obtain⟨b,bs,f1,B,I⟩:=r.rc.B5.1 j e z
   have W:=I i ds a L hs;refine⟨b,bs,f1,B.move (l5.refl _) (λc m=>(B.at m).1)<|λc m=>zw λq=>W<|q ▸ m,λk fs c f d=>?_⟩;rcases zB f with⟨q,_,_⟩ | ⟨_,l⟩
   ·rw[q,hs]at d;cases d;exact W
   ·exact I k fs c l d
 ·rcases zB f with⟨_,z,_⟩ | ⟨_,l⟩
  ·cases z
  ·rcases zB d with⟨_,z,_⟩ | ⟨_,n⟩
   ·cases z
   ·exact r.rc.B5.2 j k y A l n
 ·rw[zw (λz=>by rw[z,r.fresh i ds a L hs]at q;cases q)];exact r.ext.s1 b o q
 ·rw[zw (λz=>by rw[z,S]at q;cases q)];exact r.ext.sub b o q
 ·rcases zB f with⟨q,_,_⟩ | ⟨_,z⟩
  ·rw[q]at d;exact r.fresh i ds b L d
  ·exact r.fresh j fs b z d
 ·rcases zB f with⟨_,z,_⟩ | ⟨O,z⟩
  ·cases z
  ·obtain⟨M,bs,f1,B,I⟩:=r.rc.B5.1 j e z
   rw[d]at f1;cases f1;rw[zw (show b≠a from λq=>I i ds a L hs<|by rw[q];exact sP)]at J;exact r.CM j e b p z d J
end
section
variable{X:Cx}{e a b c:g9}{pos:l0}{st:l7}{rest:List l7}
theorem zC:QJ X [] jq:=VL kx λD d H z=>by obtain⟨E0,E,a,e,J,b,B,I⟩:=z;cases B;exact I d H a b
theorem zc{F G:CO Fl}(L:p8 X st F)(S:QJ X rest G):QJ X (st::rest) (zP F G):=VL (jF L S) λD j H I=>by
 obtain⟨E0,E,d,g,J,f,z,B⟩:=I;obtain⟨f1,e,z⟩:=zb z;refine⟨E0,E,d,g,f1,f,e,?_⟩;cases f1 with
 | next a=>exact λh i b O=>⟨E0,E,b,a,J,O,z,B⟩
 | brk a=>cases z;exact B
 | cont a=>cases z;exact B
 | ret r=>cases z;cases r<;>exact B
theorem zg(I:p8 X st F):QJ X [st] F:=j0 I
theorem zm(h:o.map f=aI y) : ∃x,o=aI x/\f x=y:=by
 cases o with
 | none=>cases h
 | some x=>exact⟨x,rfl,by simpa using h⟩
theorem zu{f:CO D}(h:PV X e f):p8 X (.Return (aI e) pos) (jA f):=xj (xo h) λD l H B=>by obtain⟨E0,E,i,k,J,b,z,I⟩:=B;obtain⟨d,j,z⟩:=zm z;subst z;exact⟨i,k,d,b.rc,j,λv g a x r=>I v g a (b.ext.trans x) r⟩
theorem ja{f:CO (List D)}(h:PO X e f):p8 X (.Return (aI e) pos) (qF f):=xj (xo h) λD s H B=>by
 obtain⟨E0,E,j,p,O,d,z,I⟩:=B;obtain⟨k,l,z⟩:=zm z;subst z;refine⟨j,p,k,d.rc,l,λa n i b x g m J r=>I a n i b (d.ext.trans x) ?_ m J r⟩;cases q:E a with
 | none=>rfl
 | some o=>rw[d.ext.s1 a o q]at g;cases g
theorem k8(i:Nat)(h:PE X e (wL i)):p8 X (.Return (aI e) pos) (J6 i):=xj (xo h) λD p H I=>by
 obtain⟨E0,E,k,o,S,f,z,B⟩:=I;unfold J6 at z;cases b:o[i]? with
 | none=>rw[b]at z;cases z
 | some c=>
  rw[b]at z;cases c with
  | no=>cases z
  | val d=>
   cases z;obtain⟨v,g,j⟩:=f.rc.val i d b;exact⟨v,g,B v H k f.ext j⟩
  | nest m=>cases z
  | own l=>
   cases z;obtain⟨a,n,g,j,J,O⟩:=f.rc.own i l b;exact⟨_,g,B a n H k f.ext (f.fresh i l a b g) j J O⟩
theorem Zi:p8 X (.Continue pos) cQ:=xj Z7 λD d H ⟨E0,E,a,e,I,b,z,B⟩=>by cases z;exact B d H a b
theorem jG:p8 X st j9:=xj YA λD e H ⟨E0,E,a,d,B,b,z,I⟩=>by cases z
theorem zU{k:CO Bool}{F G:CO Fl}{x y:List l7}(S:o4 X c k)(L:QJ X x F)(O:QJ X y G):p8 X (.If c x y pos) (n5 k F G):=xj (Xw S L O) λD h H J=>by
 obtain⟨E0,E,e,d,B,b,z,I⟩:=J;obtain⟨t,f,z⟩:=zb z;refine⟨e,d,t,b.rc,f,λg a x=>?_⟩;cases t with
 | true=>rw[GK rfl]at z ⊢;exact⟨E0,E,a,d,B,b.step x,z,I⟩
 | false=>rw[GX sh]at z ⊢;exact⟨E0,E,a,d,B,b.step x,z,I⟩
theorem yx(i:Nat){f:CO D}(h:PS X st (vy (tV X.K f)<|j4 i)):p8 X st (jk i f):=xj h λD l H B=>by obtain⟨E0,E,e,j,J,b,z,I⟩:=B;obtain⟨d,g,z⟩:=zm z;subst z;exact⟨e,j,d,b.rc,g,λv k a x r=>I _ _ a<|(b.step x).t9 r⟩
theorem Yy(i:Nat){f:CO (List D)}(h:PS X st (vy (tO X.K f)<|j4 i)):p8 X st (wc i f):=xj h λD p H B=>by obtain⟨E0,E,e,m,O,d,z,I⟩:=B;obtain⟨g,j,z⟩:=zm z;subst z;exact⟨e,m,g,d.rc,j,λa o n b x k l J r=>I _ _ b<|d.Ho x k l J r⟩
theorem qO(h:qw o=aI ds):o=aI (.own ds):=by
 cases o with
 | none=>cases h
 | some c=>cases c<;>simp[qw]at h;rw[h]
theorem Qb(i:Nat){f:CO D}(h:PE X e (Gn X.K "list" Xf (wL i) (wU (tV X.K f) KZ)))(hs:B6 e cI pos.line X.env=pure dV:=by rfl):p8 X (.Expr e pos) (yk i f):=
 xj (Xx h hs) λD t H O=>by
  obtain⟨E0,E,m,o,Y,j,z,S⟩:=O;obtain⟨k,b,z⟩:=zb z;obtain⟨d,n,z⟩:=zb z;have b:=qO b;by_cases B:k.length<lim
  ·rw[GK B]at z;cases z
   obtain⟨a,xs,l,s,I,J⟩:=j.rc.own i k b;refine⟨_,l,.inl ⟨rfl,_,l8.of I⟩,m,o,d,j.rc,n,λv p g x r=>?_⟩;have U:=j.step x;have W:=x.s1 _ _ I;refine⟨a,xs,v,rfl,rfl,W,?_,?_⟩
   ·exact si (by rw[J.length];exact B)<|qK<|sf _
   ·exact S _ _ g<|U.rewrite (xs:=xs) b l<|(J.mono x.s0).append (g5.cons r g5.nil)
  ·rw[GX B]at z;cases z
end
noncomputable def oO(K:rR)(H0 H:Hp)(Q:VK):Res->Prop
 | .val d=>∀v e b,Ext H0 H b e->Rep K b d v->Q v e
 | .own g=>∀a f e b,Ext H0 H b e->H a=cI->b a=cI->e a=aI (.lst f)->g5 K b g f->Q (.ref a) e
noncomputable def u0(K:rR)(n:Nat)(F:List D->Option Res):Sp:=λd H Q _=>∃a b r,l5 a H/\g5 K a b d/\b.length=n/\F b=aI r/\oO K a H Q r
theorem u0.len{K:rR}{n:Nat}{F:List D->Option Res}{ps:List Str}(I:ps.length=n) : ∀vs H Q E,u0 K n F vs H Q E->vs.length=ps.length:=λvs H Q E h=>by obtain⟨d,e,r,_,a,b,_⟩:=h;rw[a.length,b,I]
section
variable{P:m3}{w:l6}{K:rR}{mg:GV}{base:il}
theorem we(s:l5 H0 H)(h:g5 K H0 ds vs)(J:ds.length<=N.length):RS K H0 H H0 H (qE N vs) (k4 N.length ds):=by
 have z:=h.length;refine⟨⟨s,by simp[L2.qE,k4,z],λi d e=>?_,λi g e=>?_,λi j a g fs e _ _ _=>?_,u6.ED λi f e=>?_⟩,Ext.refl s,λi g a e _=>?_,λi f a l e _ _=>?_⟩
 all_goals unfold k4 at e
 ·by_cases b:i<ds.length
  ·rw[ub (by simpa using b),sV]at e
   cases e1:ds[i]? with
   | none=>rw[e1]at e;cases e
   | some k=>
    rw[e1]at e;cases e;obtain⟨x,B,I⟩:=h.get e1;refine⟨x,?_,I⟩;unfold L2.qE;rw[ub (by simp;omega),sV,B];rfl
  ·rw[tF (by simpa using b),Ak]at e
   split at e<;>cases e
 all_goals
  by_cases b:i<ds.length
  ·rw[ub (by simpa using b),sV]at e
   cases e1:ds[i]? with
   | none=>rw[e1]at e;cases e
   | some k=>rw[e1]at e;cases e
  ·rw[tF (by simpa using b),Ak]at e
   split at e<;>cases e
theorem fg{x qual:Str}{st:l7}{f:eH}{Y:o9}{N ps:List Str}{k:Nat}{F:CO Fl}(I:L2.u5 K x qual st f Y)(S:Em N ps (zE st))
 (J : ∀(L:eI) (A:m7) (outer:List m9) (s:g8) (H:Hp) (E:XK),ow k (A.deeper<|envOfC qual (zE st) s.heap.objs.size f L)->QJ (vU rb P w K mg base N qual (zE st) f L A outer s H E).p3 (jj st) F) :
 oT P w K mg base rb (k+1) f Y ps (u0 K ps.length<|jl N.length F):=by
 refine I.ok S (u0.len rfl)<|λL A outer s H u Q E m h=>⟨_,J L A outer s H E m,?_⟩;obtain⟨d,i,r,o,l,t,O,z⟩:=h;obtain⟨B,j,a⟩:=zb O;have U:ps.length<=N.length:=by have:=congrArg List.length S.pre;rw[EM]at this;omega
 refine⟨d,H,d,k4 N.length i,B,we o l ⋯,j,?_⟩;cases B with
 | ret W=>cases a;cases r<;>exact z
 | next e=>cases a;exact λp g b n=>z .hI g b n.ext (show V.hI = .hI from rfl)
 | brk e=>cases a
 | cont e=>cases a
end
section
variable{X:Cx}{es:List g9}{pos p:l0}{k:Nat}{f:eH}{fd:o9}{ps:List Str}{x:Str}{F:List D->Option Res}{g:CO (List D)}
theorem WT{A0:List g9}(G:oT X.prog X.w X.K X.mg X.base rb k f fd ps (u0 X.K ps.length F))(L:CY X es g)(S : ∀γ ds,g γ=aI ds->ds.length=ps.length)
 (Z : ∀{t:TA},PA X es t->PE X (.Call (.Name x p) es [] pos) (wV (u0 X.K ps.length F) [] E0 t)):PV X (.Call (.Name x p) es [] pos) (zG F g):=
 z6 (Z L) λA H Q U=>by
  obtain⟨l,γ,d,rc,z,q⟩:=U;obtain⟨ds,i,z⟩:=zb z;obtain⟨r,m,z⟩:=zm z;refine⟨l,γ,ds,rc,i,λy u W e Y=>⟨W,ds,r,e.sub,by simpa using Y,S γ ds i,m,?_⟩⟩;subst z;cases r with
  | val d=>exact λv h b B I=>q v h b (e.trans B) I
  | own fs=>
   refine λa s h b B n j o I=>q _ h _ (e.trans<|B.show n j o e.sub) ?_;exact(show ∃J O,V.ref a = .ref J/\l8 X.K _ J O/\g5 X.K _ fs O from⟨a,s,rfl,l8.of zr,I.mono<|zN j _⟩)
theorem W4(G:oT X.prog X.w X.K X.mg X.base rb k f fd ps (u0 X.K ps.length F))(L:CY X es g)(I : ∀γ ds,g γ=aI ds->ds.length=ps.length)
 (Z : ∀{t:TA},PA X es t->PE X (.Call (.Name x p) es [] pos) (wV (u0 X.K ps.length F) [] E0 t)):PO X (.Call (.Name x p) es [] pos) (jo F g):=
 z6 (Z L) λA H Q J=>by
  obtain⟨l,γ,fs,rc,B,q⟩:=J;obtain⟨ds,h,B⟩:=zb B;obtain⟨r,m,B⟩:=zb B;refine⟨l,γ,ds,rc,h,λy u O e S=>⟨O,ds,r,e.sub,by simpa using S,I γ ds h,m,?_⟩⟩;cases r with
  | val d=>cases B
  | own gs=>
   cases B;exact λa s j b U i n W Y=>q a s j b (e.trans U) (by
    cases z:H a with
    | none=>rfl
    | some o=>rw[e.s1 a o z]at i;cases i) n W Y
end
structure Walk(K:rR)(H0 Hs:Hp)(J:It)(ds:List D):Prop where
 go : ∀i H1,l5 Hs H1->i<ds.length->J.go i H1
 stop : ∀H1,l5 Hs H1->J.stop ds.length H1
 CS : ∀i H1 x FV,l5 Hs H1->i<ds.length->J.CS i H1 x FV->∃d,ds[i]? = aI d/\∀G0,l5 H0 G0->l5 G0 H1->∃FT,Ext G0 H1 FT FV/\Rep K FT d x
theorem Walk.weak{K:rR}{H0 I z:Hp}{J:It}{ds:List D}(w:Walk K H0 I J ds)(s:l5 I z):Walk K H0 z J ds:=
 ⟨λi a h=>w.go i a<|s.trans h,λa h=>w.stop a<|s.trans h,λi a x b h=>w.CS i a x b<|s.trans h⟩
theorem vW{k:Sk}{K:rR}{H0 I:Hp}{a:eH}{xs:List V}{ds:List D}(h:pa k K I a xs)(r:g5 K H0 ds xs):Walk K H0 I (FW k K a) ds:=by
 have z:=r.length;refine⟨λi b s o=>?_,λb s=>?_,λi b x f s o y=>?_⟩
 ·have g:i<xs.length:=by omega
  cases k with
  | L=>exact⟨xs,xs[i],s.seq h,rV g⟩
  | T=>exact⟨xs,xs[i],p6 s h,rV g⟩
 ·cases k with
  | L=>exact⟨xs,s.seq h,by omega⟩
  | T=>exact⟨xs,p6 s h,by omega⟩
 ·have e:f=b/\xs[i]? = aI x:=by
   cases k with
   | L=>exact⟨y.1,y.2 xs<|s.seq h⟩
   | T=>exact⟨y.1,y.2 xs<|p6 s h⟩
  obtain⟨l,m⟩:=e;subst l;obtain⟨d,n,p⟩:=r.D7 m;exact⟨d,n,λj t u=>⟨j,Ext.refl u,p.mono t⟩⟩
theorem km(lo:Int)(n:Nat):(xN lo n).length=n:=by simp[xN]
theorem vo{K:rR}{H0 I:Hp}(lo:Int)(n:Nat):Walk K H0 I (Dm lo n) (xN lo n):=by
 refine⟨λi b s a=>?_,λb s=>?_,λi b x e s a y=>?_⟩
 ·rw[km]at a;exact a
 ·rw[km];exact sf _
 ·rw[km]at a
  obtain⟨f,g⟩:=y;subst f g;exact⟨.int<|lo+i,by simp[xN,a],λd j h=>⟨d,Ext.refl h,(show V.int (lo+i) = .int (lo+i)from rfl)⟩⟩
theorem Yc{k1 k2:Sk}{K:rR}{H0 Z:Hp}{a b:eH}{xs ys:List V}{ds L:List D}(h1:pa k1 K Z a xs)(z:g5 K H0 ds xs)(h2:pa k2 K Z b ys)(B:g5 K H0 L ys) :
 Walk K H0 Z (Fk k1 k2 K a b) (bu ds L):=by
 have w:=z.length;have A:=B.length;have O:(bu ds L).length=min ds.length L.length:=by simp[bu]
 refine⟨λi g s r=>?_,λg s=>?_,λi g x k s r y=>?_⟩
 ·exact⟨xs,ys,w4 s h1,w4 s h2,by omega,by omega⟩
 ·refine⟨xs,ys,w4 s h1,w4 s h2,?_⟩
  rw[O];omega
 ·obtain⟨p,u,v,l,e,m,S,U⟩:=y
  obtain⟨d,o,t⟩:=z.D7<|S xs<|w4 s h1;obtain⟨c,n,W⟩:=B.D7<|U ys<|w4 s h2;refine⟨.tup [d,c],?_,λj h f=>⟨upd j p<|.tup [u,v],?_,?_⟩⟩
  ·have Y:(ds.zip L)[i]? = aI (d,c):=List.getElem?_zip_eq_some.mpr ⟨o,n⟩
   simp[bu,Y]
  ·rw[m];exact Ext.alloc f e _
  ·rw[l]
   exact(show ∃I J,V.ref p = .ref I/\mu K _ I J/\g5 K _ [d,c] J from⟨p,[u,v],rfl,mu.of zr,g5.cons ((t.mono h).mono (zN (zO f e) _))<|g5.cons ((W.mono h).mono (zN (zO f e) _)) g5.nil⟩)
noncomputable def Gq(K:rR)(I:CO (List D)):TI:=λg H R=>∃d f e,RC K d H g f/\I f=aI e/\∀J b a,Ext d H a b->Walk K a b J e->R J b
noncomputable def FJ(K:rR)(I:CO (List D)):TI:=λg H R=>∃d f e,RC K d H g f/\I f=aI e/\∀J b a,Ext d H a b->Walk K a a J e->R J b
abbrev B8(X:Cx)(tg e:g9)(src:CO (List D)):Prop:=PI X tg e (Gq X.K src)
abbrev n6(X:Cx)(tg e:g9)(src:CO (List D)):Prop:=PI X tg e (FJ X.K src)
section
variable{X:Cx}{tg e a b:g9}{pos p:l0}
theorem n6.c(h:n6 X tg e src):B8 X tg e src:=wm h λi H R ⟨d,g,f,rc,z,q⟩=>⟨d,g,f,rc,z,λJ b a x w=>q J b a x<|w.weak x.sub⟩
theorem zH(h:PQ X e f):B8 X tg e (zQ f):=wm (VS h) λs H R z=>by obtain⟨i,o,p,rc,B,q⟩:=z;obtain⟨⟨k,m⟩,j,l⟩:=zm B;subst l;exact⟨i,o,k,m,rc,j,λa n g b x d _ r=>⟨a,k,rfl,⟨n,d⟩,q _ g b x<|vW d r⟩⟩
theorem W6(h:PV X e f):n6 X tg e (zQ<|zM f):=wm (VS h) λu H R B=>by
 obtain⟨p,s,t,rc,I,q⟩:=B;obtain⟨⟨k,m⟩,g,j⟩:=zm I;subst j;obtain⟨d,J,g⟩:=zb g;refine⟨p,s,d,rc,J,λv o b x r=>?_⟩;cases d with
 | tup fs=>
  obtain⟨j,z⟩:k = .T/\m=fs:=by simp[jU]at g;exact⟨g.1.symm,g.2.symm⟩
  subst j z;obtain⟨a,i,rfl,l,n⟩:=(show ∃a i,v = .ref a/\mu X.K b a i/\g5 X.K b m i from r);exact⟨a,.T,rfl,⟨i,p6 x.sub l⟩,q _ o b x<|vW (k:= .T) l n⟩
 | lst fs=>
  obtain⟨j,z⟩:k = .L/\m=fs:=by simp[jU]at g;exact⟨g.1.symm,g.2.symm⟩
  subst j z;obtain⟨a,i,rfl,l,n⟩:=(show ∃a i,v = .ref a/\l8 X.K b a i/\g5 X.K b m i from r);exact⟨a,.L,rfl,⟨i,x.sub.seq l⟩,q _ o b x<|vW (k:= .L) l n⟩
 | _=>simp[jU]at g
theorem z7(h:p0 d=aI i):d = .int i:=by cases d<;>simp[p0]at h;rw[h]
theorem yN(h:inR i=cT) : -(2 ^ 62)<=i/\i<2 ^ 62:=by unfold inR at h;have h:=of_decide_eq_true h;omega
theorem Qg(B:Gl X "range")(O:X.mg "range" = cI)(L:PV X a f)(hs:lp [a] X.env=[(dV,hH a X.env)]:=by rfl):n6 X tg (.Call (.Name "range" p) [a] [] pos) (jK f):=
 wm (XF B O (zK L jc hs) hs) λo H R I=>by
  obtain⟨i,l,m,rc,z,q⟩:=I;obtain⟨n,e,z⟩:=zb z;obtain⟨d,J,e⟩:=zb e;by_cases g:inR n=cT
  ·rw[GK g]at z;cases z
   refine⟨i,l,d,rc,J,λv h b x r=>?_⟩;rw[z7 e]at r;obtain⟨j,k⟩:=yN g;exact⟨n,by rw[show v = .int n from r],j,k,q _ h b x<|vo 0 n.toNat⟩
  ·rw[GX g]at z;cases z
theorem Qf(O:Gl X "range")(hm:X.mg "range" = cI)(L:PV X a f)(Z:PV X b g)(hs:lp [a,b] X.env=[(dV,hH a X.env),(dV,hH b X.env)]:=by rfl)(B:lp [b] X.env=[(dV,hH b X.env)]:=by rfl) :
 n6 X tg (.Call (.Name "range" p) [a,b] [] pos) (ZX f g):=
 wm (XE O hm (zK L (zK Z jc B)<|by rw[hs,B]) hs B) λE H R S=>by
  obtain⟨k,j,C,rc,z,q⟩:=S;obtain⟨m,i,z⟩:=zb z;obtain⟨d,U,i⟩:=zb i;obtain⟨n,I,z⟩:=zb z;obtain⟨c,o,I⟩:=zb I;by_cases e:inR m=cT/\inR n=cT
  ·rw[GK e]at z;cases z
   refine⟨k,j,d,rc,U,λv A h x r=>⟨h,j,c,rc.ext x,o,λW l Y y J=>?_⟩⟩;rw[z7 i]at r;rw[z7 I]at J;obtain⟨s,t⟩:=yN e.1;obtain⟨u,w⟩:=yN e.2;exact⟨m,n,by rw[show v = .int m from r,show W = .int n from J],⟨s,t,u,w⟩,q _ l Y (x.trans y)<|vo m (n - m).toNat⟩
  ·rw[GX e]at z;cases z
theorem Q2{K:rR}{H:Hp}{d:D}{v:V}{k:Sk}{ds:List D}(r:Rep K H d v)(e:jU d=aI (k,ds)) : ∃a xs,v = .ref a/\pa k K H a xs/\g5 K H ds xs:=by
 cases d with
 | tup fs=>simp[jU]at e;obtain⟨b,f⟩:=e;subst b f;exact r
 | lst fs=>simp[jU]at e;obtain⟨b,f⟩:=e;subst b f;exact r
 | _=>simp[jU]at e
theorem W5{f g:CO D}{L:List g9}{x1:Nat}{Z:l0}(U:Gl X "zip")(hm:X.mg "zip" = cI)(ha:PV X a f)(hb:PV X b g)(hs:lp [a,b] X.env=[(dV,hH a X.env),(dV,hH b X.env)]:=by rfl)(I:lp [b] X.env=[(dV,hH b X.env)]:=by rfl) :
 n6 X (.Tuple L x1 Z) (.Call (.Name "zip" p) [a,b] [] pos) (Yn f g):=
 wm (dB U hm (zK ha (zK hb jc I)<|by rw[hs,I]) PyProof.Rows.boot_zip hs I) λM H R W=>by obtain⟨j,i,G,rc,z,q⟩:=W;obtain⟨⟨w,m⟩,h,z⟩:=zb z;obtain⟨d,Y,h⟩:=zb h;obtain⟨⟨y,n⟩,J,z⟩:=zm z;obtain⟨c,t,J⟩:=zb J;subst z;refine⟨j,i,d,rc,Y,λv F e x r=>⟨e,i,c,rc.ext x,t,λK k s B A=>?_⟩⟩;obtain⟨l,C,rfl,O,g2⟩:=Q2 (r.mono B.s0) h;obtain⟨o,E,rfl,S,u⟩:=Q2 A J;exact⟨w,y,l,o,rfl,⟨C,w4 B.sub O⟩,⟨E,w4 B.sub S⟩,q _ k s (x.trans B)<|Yc O g2 S u⟩
end
noncomputable def Jv:List Nat->List V->St->St
 | i::is,v::vs,σ=>Jv is vs<|σ.set i<|some v
 | _,_,σ=>σ
def gs:List Nat->DW
 | []=>nL
 | i::is=>ff (j4 i)<|gs is
noncomputable def Ct(K:rR):Tg->TG
 | .nm i=>j4 i
 | .tp is=>nK K is.length<|gs is
theorem Kk : ∀{is:List Nat} {vs:List V} {I:St} {H:Hp} {Q:St->Hp->Prop},vs.length=is.length->Q (Jv is vs I) H->gs is vs I H Q
 | [],[],_,_,_,_,q=>⟨rfl,q⟩
 | i::is,v::vs,I,H,Q,hl,q=>⟨v,vs,rfl,Kk (by simpa using hl) q⟩
 | [],_::_,_,_,_,hl,_=>by simp at hl
 | _::_,[],_,_,_,hl,_=>by simp at hl
theorem RS.EH{K:rR}{E0 E H0 H:Hp} : ∀{is:List Nat} {ds:List D} {vs:List V} {I:St} {γ:Ctx},RS K E0 E H0 H I γ->g5 K H0 ds vs->RS K E0 E H0 H (Jv is vs I) (jC is ds γ)
 | [],ds,vs,I,γ,r,h=>by cases ds<;>cases vs<;>exact r
 | i::is,[],vs,I,γ,r,h=>by rw[h.xb];exact r
 | i::is,d::ds,vs,I,γ,r,h=>by obtain⟨x,t,e,a,b⟩:=h.rp;subst e;show RS K E0 E H0 H (DL.Jv is t<|I.set i<|some x) (jC is ds<|γ.set i<|.val d);exact RS.EH (r.t9 a) b
theorem RC.EH{K:rR}{H0 H:Hp} : ∀{is:List Nat} {ds:List D} {vs:List V} {I:St} {γ:Ctx},RC K H0 H I γ->g5 K H0 ds vs->RC K H0 H (Jv is vs I) (jC is ds γ)
 | [],ds,vs,I,γ,r,h=>by cases ds<;>cases vs<;>exact r
 | i::is,[],vs,I,γ,r,h=>by rw[h.xb];exact r
 | i::is,d::ds,vs,I,γ,r,h=>by obtain⟨x,t,e,a,b⟩:=h.rp;subst e;show RC K H0 H (DL.Jv is t<|I.set i<|some x) (jC is ds<|γ.set i<|.val d);exact RC.EH (r.t9 a) b
theorem ZK{K:rR}{H0 H:Hp}{T:Tg}{d:D}{v:V}{J:St}{γ z:Ctx}{Q:St->Hp->Prop}(s:l5 H0 H)(h:Rep K H0 d v)(e:xA T d γ=aI z)
 (q : ∀B,(RC K H0 H J γ->RC K H0 H B z)->(∀E0 E,RS K E0 E H0 H J γ->RS K E0 E H0 H B z)->Q B H):Ct K T v J H Q:=by
 cases T with
 | nm i=>cases e;exact q _ (λr=>r.t9 h) λE0 E r=>r.t9 h
 | tp is=>
  cases d with
  | tup g=>
   simp only[xA]at e;by_cases I:g.length=is.length
   ·rw[GK I]at e;cases e
    obtain⟨a,b,rfl,k,f⟩:=(show ∃a b,v = .ref a/\mu K H0 a b/\g5 K H0 g b from h);have j:b.length=is.length:=by rw[f.length,I]
    exact⟨a,b,rfl,p6 s k,j,Kk j<|q _ (λr=>r.EH f) λE0 E r=>r.EH f⟩
   ·rw[GX I]at e;cases e
  | _=>simp[xA]at e
theorem Ext.rebase{E0 E z H0 H B:Hp}(e:Ext E0 E z B)(x:Ext z E H0 H):Ext E0 E H0 H:=
 ⟨e.s0.trans x.s0,x.s1,x.sub,λa d b=>x.new a (e.new a d b) b⟩
theorem Ext.base{E0 E z B:Hp}(e:Ext E0 E z B):Ext z E z B:=⟨l5.refl _,e.s1,e.sub,λa h _=>h⟩
theorem Sat.rebase{K:rR}{E0 E I B:Hp}{D:Ends}{z:Fl}(e:Ext E0 E I B)(h:Sat K E0 E D z):Sat K I E D z:=by
 cases z with
 | next g=>exact λf H b r=>h f H b ⟨r.rc,e.rebase r.ext,r.fresh,r.CM⟩
 | brk g=>exact λf H b r=>h f H b ⟨r.rc,e.rebase r.ext,r.fresh,r.CM⟩
 | cont g=>exact λf H b r=>h f H b ⟨r.rc,e.rebase r.ext,r.fresh,r.CM⟩
 | ret r=>
  cases r with
  | val d=>exact λv H b x q=>h v H b (e.rebase x) q
  | own l=>exact λa k H b x i j J q=>h a k H b (e.rebase x) i j J q
section
variable{X:Cx}{tg iter:g9}{body:List l7}{pos:l0}
theorem WX{L:CO (List D)}{T:Tg}{F:CO Fl}(hp:F2 (hR X.prog X.w) X.A X.env X.xe)(hc:X.calm=cT)(Z:n6 X tg iter L)(hg:PG X tg (Ct X.K T))(hb:QJ X body F)
 (hs : ∀x,A3 iter X.env x=pure x:=by intro _;rfl):p8 X (.For tg iter body [] pos) (Xa L T F):=
 xj (dw hp hc Z hg hb hs) λD h H hZ=>by
  obtain⟨E0,E,g,f,B,b,z,O⟩:=hZ;obtain⟨a,R,z⟩:=zb z;refine⟨g,f,a,b.rc,R,λJ H1 I x1 Y=>?_⟩;have U:=b.step x1;have t:=U.ext;refine⟨λi m h H=>m=a.length - i/\i<=a.length/\∃g f B,RS X.K I E g H h f/\kZ T F (a.drop i) f=aI B/\Sat X.K I E D B,⟨_,rfl,uv _,I,f,B,⟨U.rc,t.base,U.fresh,U.CM⟩,z,O.rebase t⟩,?_⟩;rintro i m h H ⟨rfl,Z,g,f,B,b,z,O⟩;have j:l5 I H:=b.ext.s0.trans b.ext.sub;by_cases S:i<a.length
  ·refine .inr ⟨Y.go i H j S,λh H=>i+1<=a.length/\∃g f B,RS X.K I E g H h f/\kZ T F (a.drop<|i+1) f=aI B/\Sat X.K I E D B,λEL s n=>⟨a.length - (i+1),by omega,rfl,n.1,n.2⟩,λx s y=>?_⟩
   obtain⟨d,u,hx⟩:=Y.CS i H x s j S y;obtain⟨G,C,rg⟩:=hx g b.ext.s0 b.rc.sub;have N:a.drop i=d::a.drop (i+1):=by
    have P:d=a[i]:=by rw[rV S]at u;exact(sJ u).symm
    rw[P];exact AS S
   rw[N]at z;simp only[kZ]at z;obtain⟨o,eb,z⟩:=zb z;obtain⟨f1,eF,z⟩:=zb z;refine ZK C.sub rg eb λGA _ Q=>⟨I,E,G,o,f1,Q I E<|b.step C,eF,?_⟩;cases f1 with
   | next W=>exact λp M k l=>⟨S,k,W,B,l,z,O⟩
   | cont W=>exact λp M k l=>⟨S,k,W,B,l,z,O⟩
   | brk W=>cases z;exact O
   | ret r=>cases z;cases r<;>exact O
  ·have e:i=a.length:=by omega
   subst e;rw[List.drop_length]at z;cases z;exact .inl ⟨Y.stop H j,O h H g b⟩
end
theorem jZ(h:(yt n fr γ)[i]? = aI c):c = .no\/(∃d j,c = .val d/\n<=i/\fr[i - n]? = aI j/\γ[j]? = aI (.val d)):=by
 unfold yt at h;by_cases b:i<n
 ·rw[ub (by simpa using b),Ak,GK b]at h
  exact .inl (sJ h).symm
 ·rw[tF (by simpa using b),sV,List.length_replicate]at h
  cases e:fr[i - n]? with
  | none=>rw[e]at h;cases h
  | some j=>
   rw[e]at h;have a:eD (γ[j]?.getD .no)=c:=by simpa using h
   cases e2:γ[j]? with
   | none=>rw[e2]at a;exact .inl a.symm
   | some z=>
    rw[e2]at a;cases z with
    | no=>exact .inl a.symm
    | own g=>exact .inl a.symm
    | nest f=>exact .inl a.symm
    | val d=>exact .inr ⟨d,j,a.symm,by omega,rfl,e2⟩
theorem RC.pull{K:rR}{H0 H:Hp}{L:St}{γ:Ctx}{own:List Str}{fr:List (Str×Nat)}(r:RC K H0 H L γ):RC K H0 H (L2.VI own fr L) (yt own.length (fr.map (·.2)) γ):=by
 refine⟨r.sub,by simp[L2.VI,yt],λi d h=>?_,λi e h=>?_,λi j a e k h _ _ _=>?_,u6.ED λi b h=>?_⟩
 ·rcases jZ h with z | ⟨d',j,z,hi,B,I⟩
  ·cases z
  ·cases z
   obtain⟨v,f,g⟩:=r.val j d I;refine⟨v,?_,g⟩;rw[sV]at B;cases q:fr[i - own.length]? with
   | none=>rw[q]at B;cases B
   | some p=>
    rw[q]at B;have J:p.2=j:=by simpa using B
    unfold L2.VI;rw[tF (by simpa using hi),sV,sZ,q];simp[J,f]
 ·rcases jZ h with z | ⟨d',j,z,_⟩<;>cases z
 ·rcases jZ h with z | ⟨d',j,z,_⟩<;>cases z
 ·rcases jZ h with z | ⟨d',j,z,_⟩<;>cases z
theorem RC.weak{K:rR}{H0 H:Hp}{O:St}{γ γ':Ctx}(r:RC K H0 H O γ)(B:γ'.length=γ.length)(I : ∀(i:Nat) d,γ'[i]? = aI (.val d)->γ[i]? = aI (.val d))(z : ∀(i:Nat) ds,γ'[i]? ≠ aI (.own ds))(J : ∀(i:Nat) L,γ'[i]? ≠ aI (.nest L)):RC K H0 H O γ':=
 ⟨r.sub,by rw[B];exact r.len,λi d h=>r.val i d<|I i d h,λi ds h=>absurd h<|z i ds,λi j a ds b h _ _ _=>absurd h<|z i ds,u6.ED J⟩
theorem RC.upd{K:rR}{H0 H:Hp}{L:St}{γ:Ctx}{D:eH}{o:HO}(r:RC K H0 H L γ)(O:H0 D=cI)(B : ∀(i:Nat) ds,γ[i]? ≠ aI (.own ds))(I : ∀(i:Nat) J,γ[i]? ≠ aI (.nest J)):RC K H0 (upd H D o) L γ:=
 ⟨λb u q=>by rw[zw (λz=>by rw[z,O]at q;cases q)];exact r.sub b u q,r.len,r.val,λi ds h=>absurd h<|B i ds,λi j a ds d h _ _ _=>absurd h<|B i ds,u6.ED I⟩
theorem yi : ∀{is:List Nat} {ds:List D} {γ:Ctx},(jC is ds γ).length=γ.length
 | [],ds,γ=>by cases ds<;>rfl
 | i::is,[],γ=>rfl
 | i::is,d::ds,γ=>by show(jC is ds<|γ.set i<|.val d).length=_;rw[yi];simp
theorem yj : ∀{is:List Nat} {ds:List D} {γ:Ctx} {i:Nat},i∉is->(jC is ds γ)[i]? = γ[i]?
 | [],ds,γ,i,_=>by cases ds<;>rfl
 | j::is,[],γ,i,_=>rfl
 | j::is,d::ds,γ,i,h=>by show(jC is ds<|γ.set j<|.val d)[i]? = _;rw[yj (λz=>h<|sv _ z),rZ (λz=>h<|by rw[<- z];exact sP)]
theorem KN(h:xA T d γ=aI Gz):Gz.length=γ.length/\∀i,i∉T.idx->Gz[i]? = γ[i]? :=by
 cases T with
 | nm j=>cases h;exact⟨by simp,λi a=>rZ<|λz=>a<|by simp[Tg.idx,z]⟩
 | tp is=>
  cases d with
  | tup b=>
   simp only[xA]at h;by_cases B:b.length=is.length
   ·rw[GK B]at h;cases h;exact⟨yi,λi a=>yj a⟩
   ·rw[GX B]at h;cases h
  | _=>simp[xA]at h
section
variable{K:rR}{own:List Str}{fr:List (Str×Nat)}{src:CO (List D)}{T:Tg}{k:CO Bool}{f:CO D}
theorem x9(hT : ∀i∈T.idx,i<own.length)(bn : ∀L H Q,tT K k L H Q->tt L H Q) : ∀L H Q,tO K (zL src T own.length (fr.map (·.2)) k f) L H Q->Yj (Gq K src) own fr (Ct K T) tt (tV K f) L H Q:=λL H Q hZ=>by
 obtain⟨H0,p,ds,rc,O,q⟩:=hZ;obtain⟨items,e1,O⟩:=zb O;by_cases hl:items.length<=lim
 ·rw[GK hl]at O
  refine⟨H0,p,items,rc,e1,λJ H1 N u wk D Y=>?_⟩;have P : ∀(i:Nat) es,(yt own.length (fr.map (·.2)) p)[i]? ≠ aI (.own es):=λi es h=>by rcases jZ h with z | ⟨d',j,z,_⟩<;>cases z
  have R : ∀(i:Nat) t,(yt own.length (fr.map (·.2)) p)[i]? ≠ aI (.nest t):=λi es h=>by rcases jZ h with z | ⟨d',j,z,_⟩<;>cases z
  have b2:N D=cI:=zO u.sub Y;have c0:H D=cI:=by
   cases z:H D with
   | none=>rfl
   | some o=>rw[u.s1 D o z]at Y;cases Y
  refine⟨λi m l C g=>m=items.length - i/\i<=items.length/\l.length<=i/\g D=aI (.lst l)/\∃a s F,RC K a g C (yt own.length (fr.map (·.2)) p)/\a D=cI/\Ext N H1 a g/\g5 K a s l/\ZG T k f (yt own.length (fr.map (·.2)) p) (items.drop i)=aI F/\ds=s++F,
   ⟨_,rfl,uv _,sf _,zr,N,[],ds,((rc.ext u).pull).upd b2 P R,b2,Ext.hide u.sub Y _,g5.nil,O,rfl⟩,?_⟩
  rintro i m l C g ⟨rfl,hi,hy,G,a,s,F,X,b3,S,r',B,rfl⟩;refine⟨G,?_⟩;by_cases U:i<items.length
  ·refine .inr ⟨wk.go i g S.s1 U,?_,λx Z y=>?_⟩
   ·have:=qK<|sf lim;omega
   obtain⟨d,hd,hx⟩:=wk.CS i g x Z S.s1 U y;obtain⟨G0,I,rg⟩:=hx a S.s0 X.sub;have c3:items.drop i=d::items.drop (i+1):=by
    have c4:d=items[i]:=by rw[rV U]at hd;exact(sJ hd).symm
    rw[c4];exact AS U
   rw[c3]at B;simp only[ZG]at B;obtain⟨n,eb,B⟩:=zb B;obtain⟨b,ek,B⟩:=zb B;have c6:G0 D=cI:=I.new D b3 (by rw[G];simp);have b5:Z D=aI (.lst l):=I.s1 _ _ G;obtain⟨bl,bg⟩:=KN eb;have b6 : ∀{E:St} {G2 H2:Hp},RC K G2 H2 E n->RC K G2 H2 E (yt own.length (fr.map (·.2)) p):=λr=>r.weak bl.symm (λj d' hj=>by
    by_cases hm:j∈T.idx
    ·rcases jZ hj with z | ⟨d2,j2,_,hn,_⟩
     ·cases z
     ·exact absurd (hT j hm) ⋯
    ·rw[bg j hm];exact hj) P R
   refine ZK I.sub rg eb λGA bb _=>bn GA Z _ ⟨G0,n,b,bb<|X.ext I,ek,λH3 ap W=>?_⟩;have as:=(bb<|X.ext I).ext W;have xa:=S.trans<|I.trans W;have be:ap D=cI:=W.new D c6 (by rw[b5];simp);have ax:H3 D=aI (.lst l):=W.s1 _ _ b5;cases b with
   | true=>
    dsimp only;rw[GK rfl]at B ⊢;obtain⟨e,ee,B⟩:=zb B;obtain⟨rest,er,B⟩:=zm B;refine⟨ap,n,e,as,ee,λv H4 bi A r4=>?_⟩;have b0:bi D=cI:=A.new D be (by rw[ax];simp);have ci:H4 D=aI (.lst l):=A.s1 _ _ ax;have M:=xa.trans A;refine⟨ci,items.length - (i+1),by omega,rfl,U,by rw[ug,Bp];omega,zr,bi,s++[e],rest,(b6<|as.ext A).upd b0 P R,b0,?_,(r'.mono<|(I.trans<|W.trans A).s0).append (g5.cons r4 g5.nil),er,?_⟩
    ·exact⟨M.s0,λc o z=>by rw[zw (λw=>by rw[w,Y]at z;cases z)];exact M.s1 c o z,λc o z=>by rw[zw (λw=>by rw[w,b0]at z;cases z)];exact M.sub c o z,M.new⟩
    ·rw[<- B];simp
   | false=>
    dsimp only;rw[GX sh]at B ⊢;exact⟨items.length - (i+1),by omega,rfl,U,by omega,ax,ap,s,F,b6 as,be,xa,r'.mono<|(I.trans W).s0,B,rfl⟩
  ·have e:i=items.length:=by omega
   subst e;rw[List.drop_length]at B;cases B;rw[List.append_nil]at q;exact .inl ⟨wk.stop g S.s1,q D l g a (u.trans S) c0 b3 G r'⟩
 ·rw[GX hl]at O;cases O
end
section
variable{X:Cx}{scope:l9}{own:List Str}{fr:List (Str×Nat)}{elt tg iter c:g9}{pos:l0}{src:CO (List D)}{T:Tg}{k:CO Bool}{f:CO D}
theorem W3(O:X.calm=cT)(ok:B2 X scope fr)(z : ∀i∈T.idx,i<own.length)(W:B8 X tg iter src)(B : ∀fp L J,PG (zT X scope (own++fr.map (·.1)) fp L J) tg<|Ct X.K T)
 (S : ∀fp L J,PV (zT X scope (own++fr.map (·.1)) fp L J) elt f) (hs : ∀x,A3 iter X.env x=pure x:=by intro _;rfl) :
 PO X (.ListComp elt [⟨tg,iter,[],0⟩] scope pos) (zL src T own.length (fr.map (·.2)) jR f):=
 z6 (Z9 O ok W B (λ_ _ _=>JK) S hs) (x9 z λe H Q ⟨a,d,b,rc,I,q⟩=>by cases I;exact q H a<|Ext.refl rc.sub)
theorem Xz(O:X.calm=cT)(ok:B2 X scope fr)(z : ∀i∈T.idx,i<own.length)(W:B8 X tg iter src)(B : ∀fp L J,PG (zT X scope (own++fr.map (·.1)) fp L J) tg<|Ct X.K T)
 (I : ∀fp L J,o4 (zT X scope (own++fr.map (·.1)) fp L J) c k) (S : ∀fp L J,PV (zT X scope (own++fr.map (·.1)) fp L J) elt f) (hs : ∀x,A3 iter X.env x=pure x:=by intro _;rfl) :
 PO X (.ListComp elt [⟨tg,iter,[c],0⟩] scope pos) (zL src T own.length (fr.map (·.2)) k f):=
 z6 (Z9 O ok W B (λfp L J=>JJ<|I fp L J) S hs) (x9 z λa H Q h=>h)
theorem YB(z:X.N.Nodup)(B:X.N[i]? = aI y)(I:Loc X.env.scope y)(hf:X.fn y=cT\/X.env.scope.names.lookup y=aI .local)
 (Y:X.calm=cT) (ok:B2 X scope fr) (J : ∀i∈T.idx,i<own.length) (hi:B8 X tg iter src) (O : ∀fp W L,PG (zT X scope (own++fr.map (·.1)) fp W L) tg<|Ct X.K T)
 (Z : ∀fp W L,PV (zT X scope (own++fr.map (·.1)) fp W L) elt f) (hs : ∀x,A3 iter X.env x=pure x:=by intro _;rfl) :
 PS X (.Assign [.Name y py] (.ListComp elt [⟨tg,iter,[],0⟩] scope pos) spos) (vy (tO X.K<|zL src T own.length (fr.map (·.2)) jR f)<|j4 i):=
 xj (vL z B I hf Y ok hi O (λ_ _ _=>JK) Z hs) λD a H h=>x9 J (λa H Q S=>by obtain⟨d,e,b,rc,U,q⟩:=S;cases U;exact q H d<|Ext.refl rc.sub) a H _ h
theorem Qc(z:X.N.Nodup)(B:X.N[i]? = aI y)(I:Loc X.env.scope y)(hf:X.fn y=cT\/X.env.scope.names.lookup y=aI .local)
 (Y:X.calm=cT) (ok:B2 X scope fr) (J : ∀i∈T.idx,i<own.length) (hi:B8 X tg iter src) (O : ∀fp W L,PG (zT X scope (own++fr.map (·.1)) fp W L) tg<|Ct X.K T)
 (S : ∀fp W L,o4 (zT X scope (own++fr.map (·.1)) fp W L) c k) (Z : ∀fp W L,PV (zT X scope (own++fr.map (·.1)) fp W L) elt f) (hs : ∀x,A3 iter X.env x=pure x:=by intro _;rfl) :
 PS X (.Assign [.Name y py] (.ListComp elt [⟨tg,iter,[c],0⟩] scope pos) spos) (vy (tO X.K<|zL src T own.length (fr.map (·.2)) k f)<|j4 i):=
 xj (vL z B I hf Y ok hi O (λfp W L=>JJ<|S fp W L) Z hs) λD a H h=>x9 J (λa H Q h=>h) a H _ h
end
theorem zX{K:rR}{H:Hp}{i:Int}{v:V}(h:Rep K H (.int i) v):v = .int i:=h
theorem Q0{K:rR}{g:Int->Int->D}{z:Int->Int->V}(I : ∀H i j,Rep K H (g i j)<|z i j):p9 K (A5 z) (dI g):=λa H x y b J d Q s O S B q=>by cases b<;>cases J<;>simp[dI]at B;subst B;exact⟨_,_,zX O,zX S,q _ H a (Ext.refl s)<|I a _ _⟩
theorem QZ{K:rR}{C:Int->Int->Prop}{c:Int->Int->Bool}{g:Int->Int->D}{z:Int->Int->V}(L : ∀i j,c i j=cT->C i j)(I : ∀H i j,Rep K H (g i j)<|z i j):p9 K (rI C z) (Ey c g):=λa H x y b J d Q s O S B q=>by cases b<;>cases J<;>simp[Ey]at B;obtain⟨e,f⟩:=B;subst f;exact⟨_,_,zX O,zX S,L _ _ e,q _ H a (Ext.refl s)<|I a _ _⟩
theorem Ww{K:rR}:p9 K (A5 λi j=> .int (i - j)) Wl:=Q0 λ_ _ _=>rfl
theorem Vs(h:QG i j=cT):DV i j:=by unfold QG at h;rw[tx,decide_eq_true_eq,decide_eq_true_eq]at h;unfold DV;omega
theorem WB{K:rR}:p9 K (rI oS λi j=> .int (i/j)) K6:=QZ (λi j h=>by unfold fC at h;rw[rY,decide_eq_true_eq,decide_eq_true_eq]at h;exact⟨h.1,by omega⟩) λ_ _ _=>rfl
theorem Wz{K:rR}:p9 K (rI (λ_ j=>0<j) λi j=> .int (i%j)) vS:=QZ (λi j h=>by unfold gN at h;exact of_decide_eq_true h) λ_ _ _=>rfl
theorem Wx{K:rR}:p9 K (rI oR λi j=> .int (i ^ j.toNat)) aU:=QZ (λi j h=>by unfold fB at h;rw[rY,rY,decide_eq_true_eq,decide_eq_true_eq,decide_eq_true_eq]at h;exact⟨h.1.1,by omega,h.2⟩) λ_ _ _=>rfl
theorem Vw{K:rR}:p9 K (A5 λi j=> .bl (decide<|i<j)) Ez:=Q0 λ_ _ _=>rfl
theorem vz{K:rR}:p9 K (A5 λi j=> .bl (decide<|i<=j)) C3:=Q0 λ_ _ _=>rfl
theorem Vx{K:rR}:p9 K (A5 λi j=> .bl (decide<|j<i)) DI:=Q0 λ_ _ _=>rfl
theorem cD{K:rR}:p9 K (A5 λi j=> .bl (decide<|j<=i)) EY:=Q0 λ_ _ _=>rfl
section
variable{X:Cx}
noncomputable def VD(K:rR):R2:=λx y H Q=>∃a b d e,x = .ref a/\y = .ref b/\mu K H a d/\mu K H b e/\d.length+e.length<=l4/\
 (d=[]->Q (.ref b) H)/\(e=[]->Q (.ref a) H)/\∀p,H p=cI->Q (.ref p) (upd H p<|.tup<|d++e)
theorem YM:m6 X (B4 .Add) (VD X.K):=by
 intro l s σ H x y v u Q I P R h;obtain⟨a,b,m,Z,rfl,rfl,E,F,O,L,M,N⟩:=h;cases P;cases R;obtain⟨B,r,S,z1⟩:=I.tuple E;obtain⟨p,J,U,z2⟩:=I.tuple F;by_cases e:m=[]
 ·have d:B=[]:=(r.E5).mpr e
  obtain⟨⟨A,C,i,T⟩,W,j,n,k⟩:=id S;obtain⟨⟨am,t,data2,w⟩,Y,f,G,g⟩:=id U;simp only at j k f g;subst j k f g;exact Cp ⟨_,W,rfl⟩ ⟨_,Y,rfl⟩ Cq Gj Bb Ba (AN _ _)
   (tuple_addW0 a b B.toArray p.toArray n G C t T w<|by simp[d]) ⟨W,Y,⟨.ref b,H,I,rfl,L e⟩⟩
 ·have d:B ≠ []:=λz=>e ((r.E5).mp z)
  refine HT.lV S U d (λz=>⟨.ref a,H,I,rfl,M<|(J.E5).mp z⟩) (λ_=>?_) (by rw[<- r.length,<- J.length];exact O);refine⟨.ref s.heap.objs.size,_,I.laid (t':=s.toks) (o:= .tup (m++Z)) (λc ob q=>rT _ q) (sf _) ?_,rfl,N _<|I.iv.fresh<|sf _⟩;exact⟨by rw[ug];exact O,_,r.append J,CJ.new _ _⟩
noncomputable def cX(K:rR):R2:=λx y H Q=>∃l b a d,x = .ref l/\y = .ref b/\l8 K H l a/\l8 K H b d/\a.length+d.length<=l4/\∀p,H p=cI->Q (.ref p) (upd H p<|.lst<|a++d)
theorem YN:m6 X (B4 .Add) (cX X.K):=by
 intro a s E H x y v u Q I w A h;obtain⟨l,b,T,zs,rfl,rfl,m,k,N,q⟩:=h;cases w;cases A;obtain⟨z,r,⟨o,n,e,J,d,O⟩,Z⟩:=I.list m;obtain⟨B,S,⟨t,p,f,U,W,Y⟩,z2⟩:=I.list k;have P:=r.length;have R:=S.length;obtain⟨cls,n9,M,C⟩:=o;obtain⟨G,as,L,g⟩:=t;simp only at J d O U W Y;subst J d O U W Y;have i:EP X a E Q (.ref s.heap.objs.size) {s with heap:=s.heap.push {cls:= .type "list",data:= .seq (z++B).toArray}}:=
  ⟨.ref _,_,I.E3 (t':=s.toks) (r.append S) (by rw[ug];omega),rfl,q _ I.fresh⟩
 have j:z.toArray++B.toArray=(z++B).toArray:=by simp
 refine Cp ⟨_,e,rfl⟩ ⟨_,f,rfl⟩ noFill_list_add seq_list_add PySem.F.slot_list_add PySem.F.entry_list_add (PySem.F.args_list_add_2 _ _)
  (list_addW l b z.toArray B.toArray n p cI cI C g<|by rw[rX,rX];omega) ⟨e,f,?_⟩
 rw[j];exact i
end
noncomputable def qo(scope I:l9):l9:={scope with names:=scope.names.map λp=>if p.2==sx && I.kind == .function && I.names.lookup p.1==aI .cell then (p.1,uE)else (p.1,p.2)}
theorem J7(scope:l9)(env:m9):CG scope env=qo scope env.scope:=by unfold CG qo;rfl
structure SX(X:Cx)(sc:l9)(N T:List Str)(k:Nat):Prop where
 C5:X.env.scope=sc
 eN:X.N=N
 nd:N.Nodup
 calm:X.calm=cT
 room:ow k X.A
 fn : ∀x∈T,X.fn x=cT\/sc.names.lookup x=aI .local
noncomputable def vX(I:l9)(N:List Str)(i:Nat)(x:Str):Bool:=
 decide (N[i]? = aI x) && (decide (I.names.lookup x=aI .local) || decide (I.names.lookup x=aI .cell) || decide (I.names.lookup x=aI .free)) && !(x==("__debug__" : Str)) && !(x==("__classdict__" : Str))
noncomputable def qd(I:l9)(N T:List Str)(i:Nat)(x:Str):Bool:=decide (x∈T) && decide (N[i]? = aI x) && (decide (I.names.lookup x=aI .local) || decide (I.names.lookup x=aI .cell))
noncomputable def j3(I:l9)(x:Str):Bool:=decide (I.names.lookup x=aI .globalImplicit) && !(x==("__name__" : Str)) && !(x==("__debug__" : Str))
section
variable{X:Cx}{sc:l9}{N T:List Str}{k:Nat}{i:Nat}{x:Str}{pos:l0}
theorem SX.var(h:SX X sc N T k)(c:vX sc N i x=cT):PE X (.Name x pos) (wL i):=by
 unfold vX at c;simp only[rY,tx,decide_eq_true_eq,uX]at c;obtain⟨⟨⟨a,h2⟩,z⟩,B⟩:=c;refine VT (by rw[h.eN];exact a) ?_ z B;unfold Ew;rw[h.C5];rcases h2 with(h2 | h2) | h2
 ·exact .inl h2
 ·exact .inr<|.inl h2
 ·exact .inr<|.inr h2
theorem SX.loc(h:SX X sc N T k)(c:qd sc N T i x=cT):X.N[i]? = aI x/\L2.Loc X.env.scope x/\(X.fn x=cT\/X.env.scope.names.lookup x=aI .local):=by
 unfold qd at c;simp only[rY,tx,decide_eq_true_eq]at c;refine⟨by rw[h.eN];exact c.1.2,?_,?_⟩
 ·unfold L2.Loc;rw[h.C5];exact c.2
 ·rw[h.C5];exact h.fn x c.1.1
theorem SX.DT(h:SX X sc N T k):X.N.Nodup:=by rw[h.eN];exact h.nd
theorem SX.Eg(h:SX X sc N T k)(i:Nat)(c:qd sc N T i x=cT):PG X (.Name x pos) (j4 i):=by obtain⟨a,b,z⟩:=h.loc c;exact XH h.DT a b z
theorem SX.Gr(h:SX X sc N T k)(g:Er X es (gs is))(I:(Dq es X.env).length=is.length:=by rfl)(z:(Dq es X.env).findIdx? (·.1)=cI:=by rfl):PG X (.Tuple es j pos) (Ct X.K<|.tp is):=
 dD h.calm g I z
theorem SX.set(h:SX X sc N T k)(i:Nat)(c:qd sc N T i x=cT)(I:PE X e te)(hs:B6 e (aI (.Name x pos')) pos.line X.env=pure dV:=by rfl):PS X (.Assign [.Name x pos'] e pos) (vy te<|j4 i):=by obtain⟨a,b,z⟩:=h.loc c;exact VM h.DT a b I hs z
theorem SX.gl(h:SX X sc N T k)(c:j3 sc x=cT):Gl X x/\x ≠ "__name__"/\(x==("__debug__" : Str))=dV:=by
 unfold j3 at c;simp only[rY,decide_eq_true_eq,uX]at c;refine⟨?_,?_,c.2⟩
 ·show X.env.scope.names.lookup x=_
  rw[h.C5];exact c.1.1
 ·intro e;rw[e]at c;simp at c
noncomputable def Jn(sc scope:l9)(N:List Str)(fr:List (Str×Nat)):Bool:=
 decide (scope.kind = .function) && decide ((scope.names.map (·.1)).Nodup) && scope.names.all (λp=> !(p.2==sx) || decide (sc.names.lookup p.1=aI .cell) || decide (sc.names.lookup p.1=aI .free)) &&
 fr.all λp=>decide (scope.names.lookup p.1=aI .free) && decide (N[p.2]? = aI p.1)
noncomputable def iG(own:List Str)(scope:l9)(fr:List (Str×Nat)):Bool:=decide ((own++fr.map (·.1)).Nodup) && own.all (λx=>decide (scope.names.lookup x=aI .local) || decide (scope.names.lookup x=aI .cell))
theorem SX.GO(h:SX X sc N T k)(c:Jn sc scope N fr=cT):B2 X scope fr:=by
 unfold Jn at c;simp only[rY,decide_eq_true_eq,uy,tx,uX]at c;obtain⟨⟨⟨B,b⟩,I⟩,z⟩:=c;refine⟨B,b,λp a J=>?_,λp a=>⟨(z p a).1,by rw[h.eN];exact(z p a).2⟩⟩;have e:X.env.kindOf p.1=sc.names.lookup p.1:=by show X.env.scope.names.lookup p.1=_;rw[h.C5]
 rw[e];rcases I p a with(q | q) | q
 ·rw[J]at q;exact absurd q ⋯
 ·exact .inl q
 ·exact .inr q
theorem yE(scope sc:l9)(x:Str):(qo scope sc).names.lookup x=(scope.names.lookup x).map λk=>if (k==sx && sc.kind == .function && sc.names.lookup x==aI .cell)then uE else k:=by
 unfold qo;dsimp only;generalize scope.names=l
 induction l with
 | nil=>rfl
 | cons p r z=>
  obtain⟨n,B⟩:=p;rw[sL];cases hx:x==n with
  | true=>
   have e:x=n:=by simpa using hx
   subst e;dsimp only;split
   ·rename_i a;rw[sS,sS,beq_self_eq_true];dsimp only[BK];rw[GK a]
   ·rename_i a;rw[sS,sS,beq_self_eq_true];dsimp only[BK];rw[GX a]
  | false=>
   dsimp only;split
   ·rw[sS,sS,hx];exact z
   ·rw[sS,sS,hx];exact z
theorem SX.comp(h:SX X sc N T k)(c:iG own scope fr=cT) :
 SX (zT X scope (own++fr.map (·.1)) fp s2 H2) (qo scope sc) (own++fr.map (·.1)) own k:=by
 unfold iG at c;simp only[rY,decide_eq_true_eq,uy,tx]at c;refine⟨?_,rfl,c.1,h.calm,h.room,λx a=>?_⟩
 ·show CG scope X.env=_
  rw[J7,h.C5]
 ·rcases c.2 x a with q | q
  ·right;rw[yE,q];rfl
  ·left
   show(scope.names.lookup x==aI .cell)=cT;rw[q];rfl
end
mutual
def oI:D->PyData
 | .hI=> .none
 | .bl b=> .bool b
 | .int i=> .int i
 | .str x=> .str x
 | .tup a=> .tuple (A7 a)
 | .lst a=> .list (A7 a)
 | .exc _ _=> .none
 | .o6 _ _=> .none
 | .n9 _ _=> .none
 | .ins _ _ _=> .none
def A7:List D->List PyData
 | []=>[]
 | d::ds=>oI d::A7 ds
end
theorem De(h:r0 (.exc c n)=cT):False:=by simp[r0]at h
theorem Dd(h:r0 (.o6 ks vs)=cT):False:=by simp[r0]at h
theorem Df{c:Str}{p t:D}(h:r0 (.ins c p t)=cT):False:=by simp[r0]at h
theorem Dc(h:r0 (.n9 ks vs)=cT):False:=by simp[r0]at h
mutual
theorem Ft : ∀x y:D,r0 x=cT->r0 y=cT->Ar (oI x) (oI y)=u3 x y
 | .hI,y,_,h=>by cases y<;>first | exact(De h).elim | exact(Dd h).elim | exact(Dc h).elim | exact(Df h).elim | simp[oI,Ar,u3]
 | .bl a,y,_,h=>by cases y<;>first | exact(De h).elim | exact(Dd h).elim | exact(Dc h).elim | exact(Df h).elim | simp[oI,Ar,u3]
 | .int a,y,_,h=>by cases y<;>first | exact(De h).elim | exact(Dd h).elim | exact(Dc h).elim | exact(Df h).elim | simp[oI,Ar,u3]
 | .str a,y,_,h=>by cases y<;>first | exact(De h).elim | exact(Dd h).elim | exact(Dc h).elim | exact(Df h).elim | simp[oI,Ar,u3]
 | .exc c n,y,h,_=>(De h).elim
 | .o6 c n,y,h,_=>(Dd h).elim
 | .n9 c n,y,h,_=>(Dc h).elim
 | .ins c p t,y,h,_=>(Df h).elim
 | .tup xs,y,h1,h2=>by
  cases y with
  | tup b=>simp only[r0]at h1 h2;simp only[oI,Ar,u3];exact Fv xs b h1 h2
  | exc c n=>exact(De h2).elim
  | o6 c n=>exact(Dd h2).elim
  | n9 c n=>exact(Dc h2).elim
  | ins c p t=>exact(Df h2).elim
  | _=>simp[oI,Ar,u3]
 | .lst xs,y,h1,h2=>by
  cases y with
  | lst b=>simp only[r0]at h1 h2;simp only[oI,Ar,u3];exact Fv xs b h1 h2
  | exc c n=>exact(De h2).elim
  | o6 c n=>exact(Dd h2).elim
  | n9 c n=>exact(Dc h2).elim
  | ins c p t=>exact(Df h2).elim
  | _=>simp[oI,Ar,u3]
theorem Fv : ∀xs ys:List D,CP xs=cT->CP ys=cT->BA (A7 xs) (A7 ys)=CK xs ys
 | [],ys,_,_=>by cases ys<;>simp[A7,BA,CK]
 | x::xs,ys,h1,h2=>by
  cases ys with
  | nil=>simp[A7,BA,CK]
  | cons y ys=>
   simp only[CP,rY]at h1 h2;simp only[A7,BA,CK];rw[Ft x y h1.1 h2.1,Fv xs ys h1.2 h2.2]
end
mutual
theorem Gc : ∀x:D,r0 x=cT->(oI x).canLay0=cT
 | .hI,_=>by simp[oI,As]
 | .bl a,_=>by simp[oI,As]
 | .int a,_=>by simp[oI,As]
 | .str a,h=>by simpa[oI,As,r0,PyData.strOk]using h
 | .tup xs,h=>by simp only[r0]at h;simp only[oI,As];exact Fz xs h
 | .lst xs,h=>by simp only[r0]at h;simp only[oI,As];exact Fz xs h
 | .exc c n,h=>(De h).elim
 | .o6 c n,h=>(Dd h).elim
 | .n9 c n,h=>(Dc h).elim
 | .ins c p t,h=>(Df h).elim
theorem Fz : ∀xs:List D,CP xs=cT->BJ (A7 xs)=cT
 | [],_=>by simp[A7,BJ]
 | x::xs,h=>by simp only[CP,rY]at h;simp only[A7,BJ];rw[Gc x h.1,Fz xs h.2];rfl
end
mutual
theorem F6 : ∀x:D,(oI x).depth=deep x
 | .hI=>by simp[oI,uH,deep]
 | .bl a=>by simp[oI,uH,deep]
 | .int a=>by simp[oI,uH,deep]
 | .str a=>by simp[oI,uH,deep]
 | .exc c n=>by simp[oI,uH,deep]
 | .o6 c n=>by simp[oI,uH,deep]
 | .n9 c n=>by simp[oI,uH,deep]
 | .ins c p t=>by simp[oI,uH,deep]
 | .tup b=>by simp only[oI,uH,deep];rw[Fs b]
 | .lst b=>by simp only[oI,uH,deep];rw[Fs b]
theorem Fs : ∀xs:List D,PyData.depthAll (A7 xs)=D4 xs
 | []=>by simp[A7,PyData.depthAll,D4]
 | x::xs=>by simp only[A7,PyData.depthAll,D4];rw[F6 x,Fs xs]
end
theorem qJ(h:Cu d=cT):r0 d=cT:=by unfold Cu at h;rw[rY]at h;exact h.2
theorem xM(h:Cu d=cT):SeqAt.shaped (oI d)=cT:=by unfold Cu at h;rw[rY,decide_eq_true_eq]at h;unfold SeqAt.shaped;rw[Gc d h.2,Bool.true_and,F6];exact decide_eq_true ⋯
section
variable{X:Cx}{pins:GW}{σ:St}{H0 H:Hp}{s:g8}
mutual
theorem EG(I:Inv X pins σ H s)(sub:l5 H0 H) : ∀{d:D} {v:V} {u:eI},r0 d=cT->Rep X.K H0 d v->RelV v u->∃z,Reads s.heap u (oI d) z
 | .hI,v,u,_,h,r=>by cases (show v = .hI from h);cases r;exact⟨_,.none⟩
 | .bl b,v,u,_,h,r=>by cases (show v = .bl b from h);cases r;exact⟨_,.bool b⟩
 | .int i,v,u,_,h,r=>by cases (show v = .int i from h);obtain⟨t,rfl⟩:=r;exact⟨_,.int i t⟩
 | .str x,v,u,_,h,r=>by cases (show v = .str x from h);obtain⟨t,rfl⟩:=r;exact⟨_,.str x t⟩
 | .exc c n,v,u,o,_,_=>(De o).elim
 | .o6 c n,v,u,o,_,_=>(Dd o).elim
 | .n9 c n,v,u,o,_,_=>(Dc o).elim
 | .ins c p t,v,u,o,_,_=>(Df o).elim
 | .tup ds,v,u,o,h,r=>by obtain⟨a,e,rfl,f,g⟩:=(show ∃a e,v = .ref a/\mu X.K H0 a e/\g5 X.K H0 ds e from h);cases r;simp only[r0]at o;obtain⟨S,B,⟨U,J,j,n,k⟩,W⟩:=I.tuple<|p6 sub f;obtain⟨z,O⟩:=FF I sub o g B;exact⟨z,.tuple J j k<|by simpa using O⟩
 | .lst ds,v,u,o,h,r=>by obtain⟨a,e,rfl,f,g⟩:=(show ∃a e,v = .ref a/\l8 X.K H0 a e/\g5 X.K H0 ds e from h);cases r;simp only[r0]at o;obtain⟨S,B,p,W⟩:=I.list<|sub.seq f;obtain⟨U,J,j,n,k⟩:=p.isList;obtain⟨z,O⟩:=FF I sub o g B;exact⟨_,.list J j k<|by simpa using O⟩
theorem FF(I:Inv X pins σ H s)(sub:l5 H0 H) : ∀{ds:List D} {xs:List V} {us:List eI},CP ds=cT->g5 X.K H0 ds xs->kA xs us->∃z,ReadsAll s.heap us (A7 ds) z
 | [],xs,us,_,h,r=>by rw[h.xb]at r;cases r;exact⟨_,.nil⟩
 | d::ds,xs,us,o,h,r=>by
  obtain⟨x,t,e,a,b⟩:=h.rp;subst e;simp only[CP,rY]at o;cases r with
  | cons B J=>
   obtain⟨z,O⟩:=EG I sub o.1 a B;obtain⟨bs,S⟩:=FF I sub o.2 b J;exact⟨_,.cons O S⟩
end
end
noncomputable def nA(K:rR):R2:=λx y H Q=>∃a b z,l5 a H/\Rep K a b x/\Rep K a z y/\Cu b=cT/\Cu z=cT/\Q (.bl<|u3 b z) H
noncomputable def nz(K:rR):R2:=λx y H Q=>∃a b z,l5 a H/\Rep K a b x/\Rep K a z y/\Cu b=cT/\Cu z=cT/\Q (.bl<|!u3 b z) H
theorem VV(J:X.A.units+64<DG):m6 X (p5 .Eq) (nA X.K):=by intro a s g H x y v u Q I O S h;obtain⟨d,e,f,sub,U,W,z,B,q⟩:=h;obtain⟨as,Y⟩:=EG I sub (qJ z) U O;obtain⟨bs,b⟩:=EG I sub (qJ B) W S;exact eq_dataH Y b (xM z) (xM B) J ⟨.bl _,H,I,by rw[Ft _ _ (qJ z) (qJ B)];rfl,q⟩
theorem VU(J:X.A.units+64<DG):m6 X (p5 .NotEq) (nz X.K):=by intro a s g H x y v u Q I O S h;obtain⟨d,e,f,sub,U,W,z,B,q⟩:=h;obtain⟨as,Y⟩:=EG I sub (qJ z) U O;obtain⟨bs,b⟩:=EG I sub (qJ B) W S;exact ne_dataH Y b (xM z) (xM B) J ⟨.bl _,H,I,by rw[Ft _ _ (qJ z) (qJ B)];rfl,q⟩
theorem Q1{K:rR}:p9 K (nA K) o5:=λa H x y b B d Q s I J z q=>by
 unfold o5 at z;split at z
 ·rename_i h;cases z;exact⟨a,b,B,s,I,J,h.1,h.2,q _ H a (Ext.refl s) rfl⟩
 ·cases z
theorem QY{K:rR}:p9 K (nz K) t6:=λa H x y b B d Q s I J z q=>by
 unfold t6 at z;split at z
 ·rename_i h;cases z;exact⟨a,b,B,s,I,J,h.1,h.2,q _ H a (Ext.refl s) rfl⟩
 ·cases z
theorem SX.Ei(h:SX X sc N T k):X.A.units+64<DG:=by have:=h.room.un;omega
section
variable{X:Cx}{sc:l9}{N T:List Str}{k:Nat}{a b c:g9}{pos p:l0}{fa fb fc:CO D}
theorem Zd(I:PV X a fa)(J:PV X b fb):PV X (.BinOp a .Sub b pos) (zR Wl fa fb):=vG dS Ww I J
theorem JG(I:PV X a fa)(J:PV X b fb):PV X (.BinOp a .FloorDiv b pos) (zR K6 fa fb):=vG ag WB I J
theorem jY(I:PV X a fa)(J:PV X b fb):PV X (.BinOp a .Mod b pos) (zR vS fa fb):=vG dX Wz I J
theorem Xl(I:PV X a fa)(J:PV X b fb):PV X (.BinOp a .Pow b pos) (zR aU fa fb):=vG dW Wx I J
theorem iU(I:PV X a fa)(J:PV X b fb):PV X (.Compare a [.Lt] [b] pos) (zR Ez fa fb):=Zh dY Vw I J<|qz b
theorem iV(I:PV X a fa)(J:PV X b fb):PV X (.Compare a [.LtE] [b] pos) (zR C3 fa fb):=Zh Qj vz I J<|qz b
theorem iW(I:PV X a fa)(J:PV X b fb):PV X (.Compare a [.Gt] [b] pos) (zR DI fa fb):=Zh dZ Vx I J<|qz b
theorem iX(I:PV X a fa)(J:PV X b fb):PV X (.Compare a [.GtE] [b] pos) (zR EY fa fb):=Zh lq cD I J<|qz b
theorem iY(h:SX X sc N T k)(I:PV X a fa)(J:PV X b fb):PV X (.Compare a [.Eq] [b] pos) (zR o5 fa fb):=Zh (VV h.Ei) Q1 I J<|qz b
theorem VJ(I:PV X a fa)(J:PV X b fb):o4 X (.Compare a [.Gt] [b] pos) (sB<|zR DI fa fb):=wj dZ Vx I J<|qz b
theorem jt(h:SX X sc N T k)(I:PV X a fa)(J:PV X b fb):o4 X (.Compare a [.Eq] [b] pos) (sB<|zR o5 fa fb):=wj (VV h.Ei) Q1 I J<|qz b
theorem yu(h:SX X sc N T k)(I:PV X a fa)(J:PV X b fb):o4 X (.Compare a [.NotEq] [b] pos) (sB<|zR t6 fa fb):=wj (VU h.Ei) QY I J<|qz b
theorem yl{K:rR}{H:Hp}{d:D}(h:Rep K H d .hI):d = .hI:=by
 cases d with
 | hI=>rfl
 | bl b=>exact V.noConfusion (show V.hI = .bl b from h)
 | int b=>exact V.noConfusion (show V.hI = .int b from h)
 | str b=>exact V.noConfusion (show V.hI = .str b from h)
 | tup b=>obtain⟨a,f,e,_⟩:=h;cases e
 | lst b=>obtain⟨a,f,e,_⟩:=h;cases e
 | exc c n=>obtain⟨a,e,_⟩:=h;cases e
 | o6 c n=>obtain⟨a,f,e,_⟩:=h;cases e
 | n9 c n=>obtain⟨a,f,e,_⟩:=h;cases e
 | ins c p t=>obtain⟨a,C,g,z,B,e,_⟩:=h;cases e
theorem WA{K:rR}:p9 K (λx y H Q=>y = .hI/\Q (.bl<|decide<|x = .hI) H) gK:=λa H x y b I d Q s z J B q=>by
 cases I with
 | hI=>
  refine⟨J,?_⟩;cases b with
  | hI=>cases B;rw[show x=V.hI from z];exact q _ H a (Ext.refl s) (by simp;rfl)
  | _=>
   cases B;refine q _ H a (Ext.refl s) ?_;have : ¬x=V.hI:=λe=>by rw[e]at z;exact D.noConfusion<|yl z
   rw[decide_eq_false this];rfl
 | _=>cases b<;>cases B
theorem Xs(I:PV X a fa)(J:PV X b fb):o4 X (.Compare a [.Is] [b] pos) (sB<|zR gK fa fb):=wj XO WA I J<|qz b
theorem qm{K:rR}{H:Hp}{ds:List D}{v:V}(h:Rep K H (.tup ds) v) : ∃a xs,v = .ref a/\mu K H a xs/\g5 K H ds xs:=h
theorem Je{K:rR}{H:Hp}{ds:List D}{v:V}(h:Rep K H (.lst ds) v) : ∃a xs,v = .ref a/\l8 K H a xs/\g5 K H ds xs:=h
theorem jS{K:rR}{H:Hp}{ds:List D}{a:eH}{xs:List V}(I:mu K H a xs)(J:g5 K H ds xs):Rep K H (.tup ds) (.ref a):=⟨a,xs,rfl,I,J⟩
theorem Z1{K:rR}{H:Hp}{ds:List D}{a:eH}{xs:List V}(I:l8 K H a xs)(J:g5 K H ds xs):Rep K H (.lst ds) (.ref a):=⟨a,xs,rfl,I,J⟩
theorem WC{K:rR}:p9 K (λx y H Q=>A5 (λi j=> .int (i+j)) x y H Q\/VD K x y H Q) yb:=λg H x y n S d Q s I J B q=>by
 cases n<;>cases S<;>simp[yb]at B
 ·subst B;exact .inl ⟨_,_,zX I,zX J,q _ H g (Ext.refl s) rfl⟩
 ·rename_i m o
  obtain⟨U,rfl⟩:=B;obtain⟨a,r,rfl,k,f⟩:=qm I;obtain⟨b,t,rfl,O,z⟩:=qm J;refine .inr ⟨a,b,r,t,rfl,rfl,p6 s k,p6 s O,qK (by rw[f.length,z.length];exact U),λe=>?_,λe=>?_,λp l=>?_⟩
  ·have h:m=[]:=by
    have:=f.length;rw[e]at this;exact sO this.symm
   subst h;exact q _ H g (Ext.refl s)<|jS O z
  ·have h:o=[]:=by
    have:=z.length;rw[e]at this;exact sO this.symm
   subst h;exact q _ H g (Ext.refl s) (by rw[List.append_nil];exact jS k f)
  ·exact q _ _ _ (Ext.alloc s l _)<|jS (mu.of zr)<|(f.append z).mono (zN (zO s l) _)
theorem jy(I:PV X a fa)(J:PV X b fb):PV X (.BinOp a .Add b pos) (zR yb fa fb):=vG (Hh.or YM) WC I J
end
theorem vV(B:A.handled=cI)(k:Sk)(I z:eH)(J:z≠I)(items:Array eI) :
 Walks P w A I [I,z] [I] items.size (λi v=>items[i]? = aI v) (λi h=>o3 k h I z i/\t4 k h z items):=by
 cases k
 ·exact Walks.list B I z J items
 ·exact Walks.tuple B I z J items
theorem yz(I:List Int) : ∀n,preSum (λi=>I.getD i 0) n=(I.take n).sum
 | 0=>by simp[preSum]
 | n+1=>by
  have z:=yz I n;simp only[preSum,z];by_cases h:n<I.length
  ·rw[List.take_succ_eq_append_getElem h,List.sum_append]
   simp[h]
  ·rw[Bl ⋯,Bl ⋯]
   simp[h]
section
variable{X:Cx}{pins:GW}{σ:St}{H:Hp}{s:g8}
theorem KD(Z:X.calm=cT):y9 X (.builtin "sum") (λxs H Q=>∃p k ys L,xs=[.ref p]/\pa k X.K H p ys/\ys=(L:List Int).map V.int/\Q (.int L.sum) H):=by
 intro pins s σ H w n Q I S h;obtain⟨p,k,ys,L,rfl,j,rfl,q⟩:=h;obtain⟨u,rfl,B⟩:=qC S;cases B;obtain⟨z,r,a,Y⟩:=I.sq j;have lt:=a.lt;have J:=r.length;rw[sZ]at J;refine call_sum_walkG<|Zv a ⟨_,[_,p],[_],z.toArray.size,_,_,λi=>L.getD i 0,rfl,vV (A:=X.A.in1) (I.ok.hd Z) k _ p (sr lt) z.toArray,⟨vN k _ p,a.at λo e=>rT _ e⟩,?_,?_,?_⟩
 ·intro b f
  rw[sG];simp only[sd,sD,or_false]at f;rcases f with rfl | rfl
  ·exact uz _
  ·exact tP lt
 ·intro i v U
  have O:z[i]? = aI v:=by simpa using U
  have g:i<L.length:=by rw[J];exact(su.mp O).1
  obtain⟨u,d,B⟩:=r.get (i:=i) (x:= .int L[i]) (by simp[g]);rw[O]at d;cases d;obtain⟨t,rfl⟩:=B;exact⟨t,by simp[g]⟩
 ·intro m l t' W
  have e:preSum (λi=>L.getD i 0) z.toArray.size=L.sum:=by rw[yz,Bl (by rw[rX,J];exact sf _)]
  refine⟨.int L.sum,H,I.kept (t':=l)<|λb u e=>W b u ?_ (rT _ e),⟨t',by rw[e]⟩,q⟩;simp only[sd,sD,or_false];exact sr<|sg e
noncomputable def bX:V->Option Bool
 | .hI=>aI dV
 | .bl b=>aI b
 | .int i=>aI (i != 0)
 | _=>cI
theorem Ju(r:RelV x u)(e:bX x=aI b)(q:Q b s):wpAny (hR P w) A (truthy u) Q E s:=by
 cases x with
 | hI=>cases r;cases e;exact λ_ _ _=>q
 | bl c=>cases r;cases e;exact tU q
 | int i=>obtain⟨t,rfl⟩:=r;cases e;exact PyProof.Rows.truthy_int q
 | _=>cases e
noncomputable def J2:List V->Option (List Bool)
 | []=>aI []
 | x::r=>(bX x).bind λb=>(J2 r).map λl=>b::l
theorem yh : ∀{xs:List V} {bs:List Bool},J2 xs=aI bs->bs.length=xs.length/\∀(i:Nat) x,xs[i]? = aI x->bX x=aI (bs.getD i dV)
 | [],bs,h=>by cases h;exact⟨rfl,λi x e=>by simp at e⟩
 | y::xs,bs,h=>by
  obtain⟨b,a,h⟩:=zb h;obtain⟨l,d,h⟩:=zm h;subst h;obtain⟨f,g⟩:=yh d;refine⟨by simp[f],λi x e=>?_⟩;cases i with
  | zero=>simp at e;subst e;simpa using a
  | succ i=>simpa using g i x (by simpa using e)
theorem KR(bs:List Bool):(tJ bs.length).all (λi=>bs.getD i dV)=bs.all id:=by
 rw[Bq];simp only[uy,Az,id_eq];constructor
 ·intro h b d
  obtain⟨i,a,e⟩:=List.mem_iff_getElem.mp d;have:=h i a;rw[sY,rV a]at this;rw[<- e];exact this
 ·intro h i a
  rw[sY,rV a];exact h _<|Cc a
theorem KQ(bs:List Bool):(tJ bs.length).any (λi=>bs.getD i dV)=bs.any id:=by
 rw[Bq];simp only[List.any_eq_true,Az,id_eq];constructor
 ·rintro⟨i,a,h⟩
  rw[sY,rV a]at h;exact⟨_,Cc a,h⟩
 ·rintro⟨b,d,h⟩
  obtain⟨i,a,e⟩:=List.mem_iff_getElem.mp d;refine⟨i,a,?_⟩;rw[sY,rV a,Option.getD_some,e];exact h
theorem KL(L:X.calm=cT):y9 X (.builtin "all") (λxs H Q=>∃p k ys bs,xs=[.ref p]/\pa k X.K H p ys/\J2 ys=aI bs/\Q (.bl (bs.all id)) H):=by
 intro pins s σ H G F Q I S h;obtain⟨p,k,ys,bs,rfl,l,U,q⟩:=h;obtain⟨u,rfl,B⟩:=qC S;cases B;obtain⟨z,r,a,C⟩:=I.sq l;have lt:=a.lt;have J:=r.length;obtain⟨W,Y⟩:=yh U;refine call_all_walk<|Zv a ⟨_,[_,p],[_],z.toArray.size,_,_,λi=>bs.getD i dV,rfl,vV (A:=X.A.in1) (I.ok.hd L) k _ p (sr lt) z.toArray,⟨vN k _ p,a.at λo e=>rT _ e⟩,?_,?_⟩
 ·intro i v E w t m g
  have O:z[i]? = aI v:=by simpa using m
  have f:i<ys.length:=by rw[J];exact(su.mp O).1
  obtain⟨u,d,B⟩:=r.get (i:=i) (x:=ys[i]) (by simp[f]);rw[O]at d;cases d;exact Ju B (Y i ys[i] (by simp[f])) g
 ·intro y n j
  have e:(tJ z.toArray.size).all (λi=>bs.getD i dV)=bs.all id:=by rw[rX,<- J,<- W];exact KR bs
  refine⟨.bl<|bs.all id,H,I.kept (t':=n)<|λb u e=>j b u ?_ (rT _ e),by rw[e];rfl,q⟩;simp only[sd,sD,or_false];exact sr<|sg e
theorem KJ(L:X.calm=cT):y9 X (.builtin "any") (λxs H Q=>∃p k ys bs,xs=[.ref p]/\pa k X.K H p ys/\J2 ys=aI bs/\Q (.bl (bs.any id)) H):=by
 intro pins s σ H G F Q I S h;obtain⟨p,k,ys,bs,rfl,l,U,q⟩:=h;obtain⟨u,rfl,B⟩:=qC S;cases B;obtain⟨z,r,a,C⟩:=I.sq l;have lt:=a.lt;have J:=r.length;obtain⟨W,Y⟩:=yh U;refine call_any_walk<|Zv a ⟨_,[_,p],[_],z.toArray.size,_,_,λi=>bs.getD i dV,rfl,vV (A:=X.A.in1) (I.ok.hd L) k _ p (sr lt) z.toArray,⟨vN k _ p,a.at λo e=>rT _ e⟩,?_,?_⟩
 ·intro i v E w t m g
  have O:z[i]? = aI v:=by simpa using m
  have f:i<ys.length:=by rw[J];exact(su.mp O).1
  obtain⟨u,d,B⟩:=r.get (i:=i) (x:=ys[i]) (by simp[f]);rw[O]at d;cases d;exact Ju B (Y i ys[i] (by simp[f])) g
 ·intro y n j
  have e:(tJ z.toArray.size).any (λi=>bs.getD i dV)=bs.any id:=by rw[rX,<- J,<- W];exact KQ bs
  refine⟨.bl<|bs.any id,H,I.kept (t':=n)<|λb u e=>j b u ?_ (rT _ e),by rw[e];rfl,q⟩;simp only[sd,sD,or_false];exact sr<|sg e
end
section
variable{X:Cx}{sc:l9}{N T:List Str}{k:Nat}{e a b c:g9}{pos p p2:l0}{f g:CO D}{fq:CO (Sk×List D)}
theorem cp{K:rR}{H:Hp}{k:Sk}{a:eH}{xs:List V}(h:pa k K H a xs):l8 K H a xs\/mu K H a xs:=by
 cases k
 ·exact .inl h
 ·exact .inr h
theorem jD(h:SX X sc N T k)(c:j3 sc "len" = cT)(z:X.mg "len" = cI)(J:PQ X e fq)(hs:lp [e] X.env=[(dV,hH e X.env)]:=by rfl):PV X (.Call (.Name "len" p) [e] [] pos) (vc fq):=
 z6 (xR ZJ (h.gl c).1 z PySem.boot_len (zK J jc hs) ⋯ ⋯ hs rfl) λu H Q B=>by obtain⟨j,s,d,rc,I,q⟩:=B;obtain⟨⟨o,f⟩,l,m⟩:=zm I;subst m;refine⟨j,s,o,f,rc,l,λa g i b ext n t r=>⟨a,g,rfl,cp n,?_⟩⟩;exact q _ i b ext (show V.int g.length = .int f.length by rw[r.length])
theorem jw(h:SX X sc N T k)(c:j3 sc "tuple" = cT)(z:X.mg "tuple" = cI)(O:PQ X e fq)(hs:lp [e] X.env=[(dV,hH e X.env)]:=by rfl):PV X (.Call (.Name "tuple" p) [e] [] pos) (jm fq):=
 z6 (xQ wI (h.gl c).1 z PyProof.Rows.boot_tuple (zK O jc hs) ⋯ ⋯ hs rfl) λw H Q I=>by
  obtain⟨j,u,d,rc,J,q⟩:=I;obtain⟨⟨g,m⟩,n,o⟩:=zm J;subst o;refine⟨j,u,g,m,rc,n,λa t i b ext f s r=>⟨a,t,rfl,?_⟩⟩;cases g with
  | L=>exact .inl ⟨f,λl B=>q _ _ _ (ext.trans<|Ext.alloc ext.sub B _)<|jS (mu.of zr)<|r.mono<|zN (zO ext.sub B) _⟩
  | T=>exact .inr ⟨f,q _ i b ext (jS (s rfl) r)⟩
theorem j1{H H':Hp}(s:l5 H H'){a:eH}(h:H' a=cI):H a=cI:=by
 cases z:H a with
 | none=>rfl
 | some o=>rw[s a o z]at h;cases h
theorem W2(h:SX X sc N T k)(c:j3 sc "list" = cT)(z:X.mg "list" = cI)(L:PQ X e fq)(hs:lp [e] X.env=[(dV,hH e X.env)]:=by rfl):PO X (.Call (.Name "list" p) [e] [] pos) (Q9 fq):=
 z6 (xQ ZI (h.gl c).1 z PyProof.Rows.boot_list (zK L jc hs) ⋯ ⋯ hs rfl) λw H Q I=>by obtain⟨g,s,d,rc,J,q⟩:=I;obtain⟨⟨o,i⟩,j,m⟩:=zm J;subst m;refine⟨g,s,o,i,rc,j,λa f t b ext n u r=>⟨a,f,rfl,cp n,λl B=>?_⟩⟩;exact q l f _ b (ext.trans<|Ext.hide ext.sub B _) (j1 ext.s1 B) (zO ext.sub B) zr r
theorem wW : ∀{ds:List D} {n:Int},iF ds=aI n->∃I:List Int,ds=I.map D.int/\n=I.sum
 | [],n,h=>by cases h;exact⟨[],rfl,rfl⟩
 | d::ds,n,h=>by
  cases d with
  | int i=>
   obtain⟨s,e,h⟩:=zm h;obtain⟨I,rfl,rfl⟩:=wW e;exact⟨i::I,rfl,by rw[<- h];simp⟩
  | _=>cases h
theorem Za{K:rR}{H:Hp} : ∀{I:List Int} {xs:List V},g5 K H (I.map D.int) xs->xs=I.map V.int
 | [],xs,h=>h.xb
 | z::I,xs,h=>by obtain⟨x,r,e,a,b⟩:=g5.rp h;rw[e,zX a,Za b];rfl
theorem VF(h:SX X sc N T k)(c:j3 sc "sum" = cT)(z:X.mg "sum" = cI)(L:PQ X e fq)(hs:lp [e] X.env=[(dV,hH e X.env)]:=by rfl):PV X (.Call (.Name "sum" p) [e] [] pos) (iJ fq):=
 z6 (xR (KD h.calm) (h.gl c).1 z PyProof.Rows.boot_sum (zK L jc hs) ⋯ ⋯ hs rfl) λx H Q J=>by obtain⟨j,u,d,rc,B,q⟩:=J;obtain⟨⟨f,l⟩,m,B⟩:=zb B;obtain⟨n,o,O⟩:=zm B;subst O;obtain⟨g,I,rfl⟩:=wW o;have I:l=g.map D.int:=I;subst I;exact⟨j,u,f,_,rc,m,λa t i b ext s w r=>⟨a,f,t,g,rfl,s,Za r,q _ i b ext rfl⟩⟩
theorem Wq{K:rR}{H:Hp}{d:D}{x:V}{b:Bool}(h:Rep K H d x)(e:mU d=aI b):bX x=aI b:=by
 cases d with
 | hI=>cases (show x = .hI from h);exact e
 | bl c=>cases (show x = .bl c from h);exact e
 | int i=>cases (show x = .int i from h);exact e
 | _=>cases e
theorem v9{K:rR}{H:Hp} : ∀{ds:List D} {xs:List V} {bs:List Bool},g5 K H ds xs->Yg ds=aI bs->J2 xs=aI bs
 | [],xs,bs,h,e=>by rw[h.xb];exact e
 | d::ds,xs,bs,h,e=>by obtain⟨x,r,z,g,i⟩:=h.rp;obtain⟨b,a,e⟩:=zb e;obtain⟨l,f,e⟩:=zm e;subst z e;show(bX x).bind _=_;rw[Wq g a];show((J2 r).map λl=>b::l)=_;rw[v9 i f];rfl
theorem yq(h:SX X sc N T k)(c:j3 sc "all" = cT)(z:X.mg "all" = cI)(L:PQ X e fq)(hs:lp [e] X.env=[(dV,hH e X.env)]:=by rfl):PV X (.Call (.Name "all" p) [e] [] pos) (VB fq):=
 z6 (xR (KL h.calm) (h.gl c).1 z PyProof.Rows.boot_all (zK L jc hs) ⋯ ⋯ hs rfl) λu H Q I=>by obtain⟨i,o,d,rc,B,q⟩:=I;obtain⟨⟨f,s⟩,j,B⟩:=zb B;obtain⟨bs,l,J⟩:=zm B;subst J;exact⟨i,o,f,_,rc,j,λa n g b ext m t r=>⟨a,f,n,bs,rfl,m,v9 r l,q _ g b ext rfl⟩⟩
theorem VH(h:SX X sc N T k)(c:j3 sc "any" = cT)(z:X.mg "any" = cI)(L:PQ X e fq)(hs:lp [e] X.env=[(dV,hH e X.env)]:=by rfl):PV X (.Call (.Name "any" p) [e] [] pos) (iQ fq):=
 z6 (xR (KJ h.calm) (h.gl c).1 z PyProof.Rows.boot_any (zK L jc hs) ⋯ ⋯ hs rfl) λu H Q I=>by obtain⟨i,o,d,rc,B,q⟩:=I;obtain⟨⟨f,s⟩,j,B⟩:=zb B;obtain⟨bs,l,J⟩:=zm B;subst J;exact⟨i,o,f,_,rc,j,λa n g b ext m t r=>⟨a,f,n,bs,rfl,m,v9 r l,q _ g b ext rfl⟩⟩
end
end DL
namespace DL
open PySem PySem.Spec PySem.Calls PyProof.Rows PySem.W PySem.Builtin PySem.Builtin.ObjectAttr PySem.Builtin.Getset_descriptor
section
variable{prog:m3}{w:l6}{A:m7}{E:GQ}{s:g8}{K:Frag}{x C:eH}
theorem xZ(x:QI h a C):Looks M h (typeOf<|.ref a) (.ref C):=by obtain⟨o,e,z,b,d⟩:=x;exact b ▸ (Looks.ld z).andThen .now
structure DX(K:Frag)(C:eH):Prop where
 ga:findIn K (.ref C) "__getattribute__" = aI (aI (.builtin "BaseException.__getattribute__"))
 gn:findIn K (.ref C) "__getattr__" = aI cI
 ca:findIn K (.ref C) "__class__" = aI (aI (.builtin "object.__class__"))
 gt:specialIn K (.builtin "object.__class__") "__get__" = aI (aI (.builtin "getset_descriptor.__get__"))
 tk:takesIn K (.builtin "object.__class__")=aI cT
 mo:mroIn K C (.type "object")=aI cT
 mb:mroIn K C (.type "BaseException")=aI cT
theorem Vh(X:K.In h)(G:DX K C):Looks M h (find (.ref x) (.ref C) "__class__") (.bind (.builtin "getset_descriptor.__get__") (.builtin "object.__class__")):=by have z:=Gd (M:=M) X G.ca;have B:Looks M h (getOf (aI (.builtin "object.__class__"))) (aI (.builtin "getset_descriptor.__get__")):=looks_specialIn X G.gt;have I:=looks_takesIn (M:=M) X G.tk;have J:Looks M h (dataDescriptor? (aI (.builtin "object.__class__")) (aI (.builtin "getset_descriptor.__get__"))) (aI (.builtin "getset_descriptor.__get__",.builtin "object.__class__")):=I.andThen .now;exact z.andThen (B.andThen (J.andThen (Looks.tag .now)))
theorem Vi(X:K.In s.heap)(I:QI s.heap x C)(G:DX K C)(h:R (.ok<|.ret<|.ref C) s) :
 codeAny (hR prog w) A (.call (.builtin "getset_descriptor.__get__") ⟨[.builtin "object.__class__",.ref x,tp],[]⟩) R s:=by
 obtain⟨a,z,B,J,O⟩:=s;have S:=xZ (M:=hR prog w) I;have U:=looks_mroIn (M:=hR prog w) X G.mo;refine BM KF.slot_gs.plain KF.entry_gs<|KF.slot_gs.check _ _ _ _ _ _ _ _ KF.type_class (KF.args_gs _ _ _) ?_;unfold Builtin.«getset_descriptor.__get__» descrGet;rw[dga_obj];refine rS<|rW ?_;unfold descrGetter descrCheckInstance descrNameAndClass Ga;simp only[KF.owner_class]
 repeat lk
 refine And.intro (Code.quiet_builtin _ ⋯)<|codeAny_builtin KF.entry_class ?_;unfold Builtin.«object.__class__» shownTypeOf
 repeat lk
 exact h
theorem Kp(X:K.In s.heap)(I:QI s.heap x C)(G:DX K C)(L:Q () s):wpAny M A (GN "BaseException.__getattribute__" ⟨[.ref x,Hd],[]⟩) Q E s:=by
 obtain⟨d,S,U,W,Y⟩:=s;have z:=xZ (M:=M) I;have B:=looks_mroIn (M:=M) X G.mb;have J:builtinKind "BaseException.__getattribute__" = aI .slot:=by decide +kernel
 have O:splitId "BaseException.__getattribute__" = aI ("BaseException","__getattribute__"):=by decide +kernel
 have a:=PySem.F.args_bexc_ga (.ref x) Hd;simp only[GN,J,O];refine rS (show wpAny _ _ (Ga (.ref x) (.type "BaseException")) _ _ _ from ?_);refine(z.andThen B).at ?_;rw[GX ⋯];unfold argsOk at a;cases hs:Manifest.signature? "BaseException.__getattribute__" with
 | none=>exact rW L
 | some b=>
  rw[hs]at a;exact wpAny_of_eq a L
theorem Ko(X:K.In s.heap)(I:QI s.heap x C)(G:DX K C)(h:Q (aI (.ref C)) {s with toks:=s.toks+1}):wpAny (hR prog w) A (getAttr? (.ref x) "__class__") Q E s:=by obtain⟨a,z,J,O,S⟩:=s;have U:=xZ (M:=hR prog w) I;have W:=Gd (M:=hR prog w) X G.ga;have b:=Gd (M:=hR prog w) X G.gn;have Y:=Vh (M:=hR prog w) (x:=x) X G;have B:=PySem.F.attr_ValueError.ga.bind (.ref x);unfold getAttr? getAttrBy? getAttrBy;refine rS (wpAny_mkText (rS (Ay (uf (rS (U.at (rS (W.at ?_))))))));show wpAny _ _ (G4 _ _ _ _ _ _) _ _ _;unfold G4;refine rS (b.at ?_);refine rS (Ay (uf ?_));show wpAny _ _ (GI (.builtin "BaseException.__getattribute__") (.ref x) _) _ _ _;unfold GI;refine rS (wpAny_of_eq B ?_);refine BH (BM PySem.F.attr_ValueError.ga.plain PySem.F.entry_bexc_ga (Kp (s:=⟨a,z,J,O+1,S⟩) X I G ?_));refine rS (rW ?_);refine rS (rW ?_);refine rS (U.at (rS (Y.at ?_)));show wpAny _ _ (bindTo _ _ _ _) _ _ _;unfold bindTo;refine rS (uf (BH (Vi (s:=⟨a,z,J,O+1,S⟩) X I G ?_)));refine rW ?_;exact rW (rW h)
theorem ZQ(h:K9 K C=cT):DX K C:=by unfold K9 at h;simp only[rY,beq_iff_eq]at h;exact⟨h.1.1.1.1.1.1.1.1.2,h.1.1.1.1.1.1.1.2,h.1.1.1.1.1.1.2,h.1.1.1.2,h.1.1.2,h.1.1.1.1.1.2,h.1.1.1.1.2⟩
theorem wA(G:DX K C)(hc:(EX K C).isSome=cT):KitX K (.ref x) (.ref C) (λh=>QI h x C) where
 ty:=λ_ _ _ I=>xZ I
 it:=λ_ _ X _=>by
  obtain⟨cd,B⟩:=uc.mp hc;unfold EX at B;split at B
  ·rename_i O d' S U J
   intro Y Q' E' s' k q;unfold isType loadHead;exact rS<|wpAny_loadPart (k _ _<|X _ _ J)<|rW q
  ·cases B
 ne:=λh tp dd a2 n sl X W=>by
  obtain⟨cd,B⟩:=uc.mp hc;refine Bool.eq_false_iff.mpr λq=>?_;have e:C=tp:=sk.inj<|beq_iff_eq.mp q;subst e;unfold EX at B;split at B
  ·rename_i O d' S U J
   have z:=(X _ _ J).symm.trans W;cases z
  ·cases B
 ca:=λX I k=>Ko X I G k
theorem ZR(h:K9 K C=cT):(EX K C).isSome=cT:=by
 unfold K9 at h;simp only[rY]at h;have:=h.1.2;cases q:EX K C with
 | none=>rw[q]at this;cases this
 | some a=>rfl
end
end DL
namespace DL
open PySem PySem.Spec PyProof.Rows L2
section
variable{X:Cx}{sc:l9}{N T:List Str}{k:Nat}{e a b c:g9}{pos p p2:l0}{f g:CO D}{fq:CO (Sk×List D)}
theorem V7(h:A4 n i=aI j):DO n i=aI j:=by
 unfold A4 at h;unfold DO;split at h
 ·rename_i a;rw[GK a.1,GK a.2];exact h
 ·split at h
  ·rename_i a b;rw[GX ⋯,GK ⋯];exact h
  ·cases h
theorem zy(Z:PQ X a fq)(hb:PV X b g)(hs:KS b:=by intro _ _;rfl):PV X (.Subscript a b pos) (g6 fq g):=
 z6 (lj (G9.or eW) Z hb hs) λF H Q S=>by
  obtain⟨n,m,d,rc,z,q⟩:=S;obtain⟨⟨l,t⟩,u,z⟩:=zb z;obtain⟨i,f,z⟩:=zb z;obtain⟨U,W,f⟩:=zb f;obtain⟨j,Y,z⟩:=zb z;refine⟨n,m,l,t,rc,u,λp h A e ext k C r=>⟨e,m,U,rc.ext ext,W,λE o s B I=>?_⟩⟩;rw[z7 f]at I;obtain⟨x,w,y⟩:=r.get z;have J:DY h i=aI x:=by unfold DY;rw[r.length,V7 Y];exact w
  have O:=q x o s (ext.trans B)<|y.mono B.s0;cases l with
  | L=>exact .inl ⟨p,h,i,x,rfl,zX I,B.s1.seq k,J,O⟩
  | T=>exact .inr ⟨p,h,i,x,rfl,zX I,p6 B.s1 k,J,O⟩
theorem kB{P:m3}{w:l6}{A:m7}{E:GQ}{s:g8}{t Z:eH}{items:Array eI}{B I:eI}{lo L:Option Int}{Q:GQ}(z:Eo s.heap t items)(hs:s.heap.IsSliceOf Z B I .none)(pl:CU B lo)(J:CU I L)
 (hw:HT.g6 items.size 0 lo=0/\HT.g6 items.size items.size L=items.size) (h:Q (.ref t) s):wpAny (hR P w) A (C7 (.ref t)<|.ref Z) Q E s:=by
 obtain⟨os,O,S,Y⟩:=id hs;have U:s.TypeIs (.ref Z) "slice":=⟨os,O,S⟩;unfold C7
 try with_reducible refine uf ?_
 first | refine rS (rW ?_) | skip
 refine rS (HB z.typeIs ⋯ ?_);refine rS (tH (name:=tm "__getitem__") z.typeIs tw
  (uo tw z.typeIs entry_tuple_getitem ?_ (GG _ _)))
 show wpAny _ _ (Builtin.Tuple.tupleItemsOf (.ref t) >>= _) _ _ s;refine rS<|Br z ?_;refine rS<|Bf U ?_;rw[GK ⋯];refine rS<|HT.kX hs pl J ?_;have W:(((HT.g6 items.size 0 lo:Nat):Int)==0 && (1:Int)==1 && (HT.g6 items.size items.size L - HT.g6 items.size 0 lo)==items.size)=cT:=by rw[hw.1,hw.2];simp
 show wpAny _ _ (if (((HT.g6 items.size 0 lo:Nat):Int)==0 && (1:Int)==1 && (HT.g6 items.size items.size L - HT.g6 items.size 0 lo)==items.size)=cT then _ else _) _ _ s;rw[GK W];refine rS (m:=uL _) ?_;unfold uL;refine rS<|Bf z.typeIs<|rW ?_;rw[GK ⋯];exact rS<|AR<|rW ⟨_,rfl,rW h⟩
noncomputable def iR(K:rR):V->Option Int->Option Int->Hp->VK->Prop:=λx lo d H Q=>∃a b,x = .ref a/\mu K H a b/\(HT.g6 b.length 0 lo=0/\HT.g6 b.length b.length d=b.length->Q (.ref a) H)/\∀p,H p=cI->Q (.ref p) (upd H p<|.tup<|Vn b lo d)
theorem WD:Et X (iR X.K):=by
 intro d s m H x v O S lo f l Q I z g j B h;obtain⟨a,b,rfl,i,U,W⟩:=h;by_cases e:HT.g6 b.length 0 lo=0/\HT.g6 b.length b.length f=b.length
 ·cases z
  obtain⟨Y,r,J,n⟩:=I.tuple i;have k:Y.toArray.size=b.length:=by rw[rX];exact r.length.symm
  refine⟨"tuple",_,tw.lookup,J.typeIs,?_⟩;exact kB J g j B (by rw[k];exact e) ⟨.ref a,H,I,rfl,U e⟩
 ·exact cE d s m H (.ref a) v O S lo f l Q I z g j B ⟨a,b,rfl,i,e,W⟩
theorem yc(n d:Nat)(o:Option Int):Vo n d o=HT.g6 n d o:=by cases o<;>rfl
theorem JA{K:rR}{H:Hp}{ds:List D}{xs:List V}(r:g5 K H ds xs)(lo I:Option Int):g5 K H (bN ds lo I) (Vn xs lo I):=by unfold bN Vn;rw[<- yc,<- yc,r.length];exact(r.drop _).take _
theorem Ky{ds:List D}{lo I:Option Int}(h:HT.g6 ds.length 0 lo=0/\HT.g6 ds.length ds.length I=ds.length):bN ds lo I=ds:=by unfold bN;rw[yc,yc,h.1,h.2];simp
noncomputable def tB(K:rR)(f:CO (Option Int)):TO:=λg H Q=>∃d e o,RC K d H g e/\f e=aI o/\∀b a,Ext d H a b->Q o b
theorem jT:L2.PO X cI (tB X.K Jx):=λa s d H Q I ⟨b,e,o,rc,z,q⟩=>W1 a s d H Q I (by cases z;exact q H b<|Ext.refl rc.sub)
theorem ji(h:PV X e f):L2.PO X (aI e) (tB X.K<|t7 f):=λa s n H Q I ⟨k,m,o,rc,z,q⟩=>W0 h a s n H Q I (by
 obtain⟨i,g,l⟩:=zm z;obtain⟨d,B,g⟩:=zb g;subst l;refine⟨k,m,d,rc,B,λv j b x r=>?_⟩;rw[z7 g]at r;exact⟨i,zX r,q j b x⟩)
theorem Ze{lo L:Option g9}{J O:CO (Option Int)}(Z:PV X a f)(W:L2.PO X lo (tB X.K J))(Y:L2.PO X L (tB X.K O)):PV X (.Subscript a (.Slice lo L cI p2) pos) (bx f J O):=
 z6 (wo WD Z W Y) λN H Q C=>by
  obtain⟨k,g,d,rc,z,q⟩:=C;obtain⟨S,w,z⟩:=zb z;obtain⟨l,y,z⟩:=zb z;obtain⟨u,A,z⟩:=zb z;refine⟨k,g,S,rc,w,λv F b x r=>⟨b,g,l,rc.ext x,y,λG o I=>⟨o,g,u,(rc.ext x).ext I,A,λm s B=>?_⟩⟩⟩;have U:=x.trans<|I.trans B;cases S with
  | tup M=>
   cases z;obtain⟨n,E,rfl,h,e⟩:=qm<|r.mono (I.trans B).s0;have t:=e.length;refine⟨n,E,rfl,p6 B.sub h,λj=>?_,λp i=>?_⟩
   ·rw[t]at j
    exact q _ m s U (by rw[Ky j];exact jS h e)
   ·exact q _ _ _ (U.trans<|Ext.alloc B.sub i _)<|jS (mu.of zr)<|(JA e _ _).mono (zN (zO B.sub i) _)
  | _=>cases z
theorem wg{K:rR}{H:Hp}{ds:List D}{xs:List V}(r:g5 K H ds xs) : ∀n:Nat,g5 K H (so n ds).flatten (so n xs).flatten
 | 0=>g5.nil
 | n+1=>by rw[uu,uu,uW,uW];exact r.append<|wg r n
theorem qa(Z:PQ X a fq)(hb:PQ X b gq):PO X (.BinOp a .Add b pos) (xq fq gq):=
 z6 (YG YN Z hb) λC H Q W=>by
  obtain⟨i,h,x,rc,z,q⟩:=W;obtain⟨⟨s,J⟩,m,z⟩:=zb z;obtain⟨⟨t,O⟩,n,z⟩:=zb z;cases s<;>cases t<;>try (simp at z;done)
  dsimp only at z;by_cases I:J.length+O.length<=lim
  ·rw[GK I]at z;cases z
   refine⟨i,h,.L,J,rc,m,λY f u k e o y S=>⟨k,h,.L,O,rc.ext e,n,λj g w l B r A U=>⟨Y,j,f,g,rfl,rfl,B.s1.seq o,r,qK (by rw[S.length,U.length];exact I),λp d=>?_⟩⟩⟩;exact q p (f++g) _ l (e.trans<|B.trans<|Ext.hide B.sub d _) (j1 (e.trans B).s1 d) (zO B.sub d) zr<|(S.mono B.s0).append U
  ·rw[GX I]at z;cases z
theorem dz(L:PO X a gn)(Z:PV X b g):PO X (.BinOp a .Mult b pos) (cK (jb gn) g):=
 z6 (YG dU L Z) λG H Q U=>by
  obtain⟨k,i,x,rc,z,q⟩:=U;obtain⟨⟨C,J⟩,d,z⟩:=zb z;obtain⟨w,W,d⟩:=zm d;cases d;obtain⟨j,e,z⟩:=zb z;obtain⟨Y,o,e⟩:=zb e;dsimp only at z;by_cases I:J.length*j.toNat<=lim/\inR j=cT
  ·rw[GK I]at z;cases z
   refine⟨k,i,J,rc,W,λl s t m h y A r O=>⟨m,i,Y,rc.ext h,o,λv u n B S=>?_⟩⟩;rw[z7 e]at S;obtain⟨E,F⟩:=yN I.2;refine⟨l,j,s,rfl,zX S,B.s1 _ _ r,by omega,by omega,qK (by rw[O.length];exact I.1),λp f=>?_⟩;exact q p _ _ n (h.trans<|B.trans<|Ext.hide B.sub f _) (j1 (h.trans B).s1 f) (zO B.sub f) zr<|(wg O _).mono B.s0
  ·rw[GX I]at z;cases z
theorem eL{K:rR}{t c:String}{b:Bool}(h:(if ((Ae t) == .type c)=cT then aI cT else if PySem.W.kitMeta c=cT then (fastBuiltinMro t).map (·.contains (.type c))else cI)=aI b):sU K (.type t) (.type c)=aI b:=h
noncomputable def Eh:Ty->String
 | .int=>"int"
 | .bool=>"bool"
 | .str=>"str"
 | .tuple=>"tuple"
 | .list=>"list"
noncomputable def eM:D->String
 | .hI=>"NoneType"
 | .bl _=>"bool"
 | .int _=>"int"
 | .str _=>"str"
 | .tup _=>"tuple"
 | .lst _=>"list"
 | .exc _ _=>""
 | .o6 _ _=>"dict"
 | .n9 _ _=>"dict"
 | .ins _ _ _=>""
theorem jX{K:rR}(T:Ty)(d:D)(hx : ∀c n,d ≠ .exc c n)(I : ∀c p t,d ≠ .ins c p t:=by intro _ _ _ z;exact nomatch z):sU K (.type<|eM d) (.type<|Eh T)=aI (K5 T d):=by cases d<;>cases T<;>first | exact absurd rfl (hx _ _) | exact absurd rfl (I _ _ _) | (dsimp only[eM,Eh,K5,Wd,eX,Wa,V9,Wc];exact eL ⋯)
theorem aH{K:rR}{C:eH}(b:Zy K C=cT):CA K C:=by unfold Zy at b;simp only[rY,beq_iff_eq]at b;exact⟨b.1,b.2.1,b.2.2.1,b.2.2.2.1⟩
theorem We{K:rR}{H:Hp}{a C L:eH}{fs:List (Str×V)}(b:Zy K C=cT)(e:H a=aI (.ins C L fs)):B3 K H (.ref a) (.ref C):=by have c:=aH b;unfold Zy at b;simp only[rY,beq_iff_eq]at b;obtain⟨_,_,_,_,z,B,I,J,_⟩:=b;exact .ins e c z B I J
theorem Jj{K:rR}{C:eH}{c:Str}{p t:D}(b:Zy K C=cT)(T:Ty):sU K (.ref C) (.type<|Eh T)=aI (K5 T<|.ins c p t):=by
 unfold Zy at b;simp only[rY,beq_iff_eq,Al,List.all_nil]at b;obtain⟨_,_,_,_,_,_,_,_,z,B,I,J,O,_⟩:=b;cases T
 ·exact z
 ·exact B
 ·exact I
 ·exact J
 ·exact O
theorem Y7{L:GW}{σ:St}{H0 H:Hp}{s:g8}{A:m7}{E:GQ}{Q:GQ}{d:D}{x:V}{u:eI}(I:Inv X L σ H s)(sub:l5 H0 H)(B:RelV x u)(r:Rep X.K H0 d x)(T:Ty)
 (h : ∀Z,Q (.bool (K5 T d)) {s with toks:=Z}):wpAny (hR X.prog X.w) A (call (.builtin "isinstance") [u,.type (Eh T)]) Q E s:=by
 cases d with
 | hI=>have e:=jX (K:=X.K) T .hI<|λ_ _ z=>nomatch z;cases (show x = .hI from r);cases (show u=sR from B);exact sA BF I.m4 tN e (λz=>nomatch z) h
 | bl y=>have e:=jX (K:=X.K) T (.bl y)<|λ_ _ z=>nomatch z;cases (show x = .bl y from r);cases (show u=Bm y from B);exact sA BG I.m4 tN e (λz=>nomatch z) h
 | int i=>have e:=jX (K:=X.K) T (.int i)<|λ_ _ z=>nomatch z;cases (show x = .int i from r);obtain⟨t,q⟩:=(show ∃t,u=Aa i t from B);cases q;exact sA BO I.m4 tN e (λz=>nomatch z) h
 | str y=>have e:=jX (K:=X.K) T (.str y)<|λ_ _ z=>nomatch z;cases (show x = .str y from r);obtain⟨t,q⟩:=(show ∃t,u=AX y t from B);cases q;exact sA BN I.m4 tN e (λz=>nomatch z) h
 | tup m=>
  have e:=jX (K:=X.K) T (.tup m)<|λ_ _ z=>nomatch z;obtain⟨a,f,rfl,b,g⟩:=qm r;cases (show u=sk a from B);obtain⟨Y,R,⟨o,J,F,_⟩,N⟩:=I.tuple<|p6 sub b;exact sA Bw I.m4 ⟨o,J,F⟩ e (λz=>nomatch z) h
 | lst m=>
  have e:=jX (K:=X.K) T (.lst m)<|λ_ _ z=>nomatch z;obtain⟨a,f,rfl,b,g⟩:=Je r;cases (show u=sk a from B);obtain⟨Y,R,p,N⟩:=I.list<|sub.seq b;obtain⟨o,J,F,_⟩:=p.isList;exact sA AM I.m4 ⟨o,J,F⟩ e (λz=>nomatch z) h
 | exc c n=>
  obtain⟨a,rfl,O⟩:=(show ∃a,x = .ref a/\B9 X.K H0 c n a from r);cases (show u=sk a from B);obtain⟨C,φ,g1,g2,g3,_⟩:=O.ex;obtain⟨S,_,l,_,_⟩:=kj O.all O.mem g1;obtain⟨p,_,_⟩:=(show m8 X.prog X.w H s.heap a (.ext φ)from I.iv a _<|sub _ _ g2);have e:sU X.K (.ref C) (.type<|Eh T)=aI (K5 T<|.exc c n):=by
   unfold K9 at l;simp only[rY,Al,List.all_nil,beq_iff_eq]at l;have t:=l.1.1.1.1.1.1.1.1.1.1;cases T
   ·exact t.1
   ·exact t.2.1
   ·exact t.2.2.1
   ·exact t.2.2.2.1
   ·exact t.2.2.2.2.1
  exact sA (wA (ZQ l)<|ZR l) I.m4 (g3 _ p) e (λz=>nomatch z) h
 | o6 j k=>
  have e:=jX (K:=X.K) T (.o6 j k)<|λ_ _ z=>nomatch z;obtain⟨a,f,rfl,⟨P,_,_,o,b⟩,_⟩:=(show ∃a f,x = .ref a/\Dk H0 a j f/\g5 X.K H0 k f from r);cases (show u=sk a from B);obtain⟨_,_,_,_,_,M⟩:=(show m8 X.prog X.w H s.heap a (.t8 o<|.dK<|P.zip f)from I.iv a _<|sub _ _ b);exact sA uQ I.m4 M.typeIs e (λz=>nomatch z) h
 | n9 j k=>
  have e:=jX (K:=X.K) T (.n9 j k)<|λ_ _ z=>nomatch z;obtain⟨a,f,rfl,⟨_,o,zs,b,g,_⟩,_⟩:=(show ∃a f,x = .ref a/\El X.K H0 a j f/\g5 X.K H0 k f from r);cases (show u=sk a from B);obtain⟨J,_⟩:=(show m8 X.prog X.w H s.heap a (Fp a o)from I.iv a _<|sub _ _ b);exact sA uQ I.m4 ⟨o,J,g.1.1⟩ e (λz=>nomatch z) h
 | ins c p t=>
  obtain⟨a,C,G,U,W,rfl,b,g,_,_⟩:=(show ∃a C G U W,x = .ref a/\DM X.K c=aI C/\H0 a=aI (.ins C G<|EB U W)/\Rep X.K H0 p U/\Rep X.K H0 t W from r);exact Kc I B (We (xX b)<|sub _ _ g) (Jj (xX b) T) h
theorem df(T:Ty)(h:SX X sc N L k)(c:j3 sc "isinstance" = cT)(z:X.mg "isinstance" = cI)(Z:j3 sc ty=cT)(z2:X.mg ty=cI)(hb:C0 ty=aI (.type (Eh T)))(ha:PV X a f)
 (hs:lp [a,.Name ty p2] X.env=[(dV,hH a X.env),(dV,hH (.Name ty p2) X.env)]:=by rfl):PV X (.Call (.Name "isinstance" p) [a,.Name ty p2] [] pos) (Eb T f):=by
 intro e s y H Q I ⟨i,w,d,rc,O,q⟩;obtain⟨J,m,n⟩:=zm O;subst n;refine tL<|jP I (h.gl c).1 z uG ?_ ⋯ ⋯;refine tW ?_ (by rw[hs];rfl) rfl;rw[hs];show wpAny _ _ (Cv ((dV,hH a X.env)::pk pos [(dV,hH (.Name ty p2) X.env)])) _ _ s;refine sX<|kr (ha e s y H _ I ⟨i,w,J,rc,m,λv g b x r=>(show(λv g=>∃b,Ext i H b g/\Rep X.K b J v) v g from⟨b,x,r⟩)⟩) λu o S=>?_;obtain⟨x,j,B,U,W,l,Y⟩:=S;show wpAny _ _ (Cv ((dV,hH (.Name ty p2) X.env)::[])) _ _ o;refine sX<|jP B (h.gl Z).1 z2 hb ?_ (h.gl Z).2.1 (h.gl Z).2.2;refine uD ?_;exact Y7 B l.sub U Y T λt=>⟨.bl _,j,B.tok t,rfl,q _ j W l rfl⟩
end
section
variable{X:Cx}{sc:l9}{N L:List Str}{k:Nat}{e a b c:g9}{pos p p2:l0}{f g:CO D}{fq:CO (Sk×List D)}
theorem jO(h:SX X sc N L k)(c:j3 sc "range" = cT)(z:X.mg "range" = cI)(I:PV X a f)(hs:lp [a] X.env=[(dV,hH a X.env)]:=by rfl):n6 X tg (.Call (.Name "range" p) [a] [] pos) (jK f):=Qg (h.gl c).1 z I hs
theorem YD(h:SX X sc N L k)(c:j3 sc "range" = cT)(z:X.mg "range" = cI)(I:PV X a f)(J:PV X b g)(hs:lp [a,b] X.env=[(dV,hH a X.env),(dV,hH b X.env)]:=by rfl)(B:lp [b] X.env=[(dV,hH b X.env)]:=by rfl) :
 n6 X tg (.Call (.Name "range" p) [a,b] [] pos) (ZX f g):=Qf (h.gl c).1 z I J hs B
theorem yA(h:SX X sc N L k)(c:j3 sc "zip" = cT)(z:X.mg "zip" = cI)(I:PV X a f)(J:PV X b g)(hs:lp [a,b] X.env=[(dV,hH a X.env),(dV,hH b X.env)]:=by rfl)(B:lp [b] X.env=[(dV,hH b X.env)]:=by rfl) :
 n6 X (.Tuple elts x1 u4) (.Call (.Name "zip" p) [a,b] [] pos) (Yn f g):=W5 (h.gl c).1 z I J hs B
theorem Xm(h:SX X sc N L k)(c:j3 sc "isinstance" = cT)(z:X.mg "isinstance" = cI)(I:j3 sc "int" = cT)(O:X.mg "int" = cI)(J:PV X a f)
 (hs:lp [a,.Name "int" p2] X.env=[(dV,hH a X.env),(dV,hH (.Name "int" p2) X.env)]:=by rfl):PV X (.Call (.Name "isinstance" p) [a,.Name "int" p2] [] pos) (Eb .int f):=df .int h c z I O PyProof.Rows.boot_int J hs
theorem J8(h:SX X sc N L k)(c:j3 sc "isinstance" = cT)(z:X.mg "isinstance" = cI)(I:j3 sc "bool" = cT)(O:X.mg "bool" = cI)(J:PV X a f)
 (hs:lp [a,.Name "bool" p2] X.env=[(dV,hH a X.env),(dV,hH (.Name "bool" p2) X.env)]:=by rfl):PV X (.Call (.Name "isinstance" p) [a,.Name "bool" p2] [] pos) (Eb .bool f):=df .bool h c z I O PyProof.Rows.boot_bool J hs
theorem JI(J:PQ X a fq)(O : ∀z,DN a X.env z=(do let v <- z;Dh a.pos;holding [v] (truthy v)):=by intro _;rfl):o4 X a (WH fq):=
 yv (Yv J O) λo H Q B=>by
  obtain⟨j,m,t,rc,I,q⟩:=B;obtain⟨⟨h,b⟩,k,l⟩:=zm I;subst l;refine⟨j,m,h,b,rc,k,λp d i f ext g n r=>⟨!b.isEmpty,?_,q i f ext⟩⟩;have e:d.isEmpty=b.isEmpty:=by have:=r.length;cases d<;>cases b<;>simp_all
  rw[<- e];cases h with
  | L=>exact .inl ⟨d,g,rfl⟩
  | T=>exact .inr<|.inl ⟨d,g,rfl⟩
theorem Zg(O:PV X a f):PV X (.UnaryOp .USub a pos) (bB f):=
 z6 (lh bU O) λl H Q z=>by obtain⟨h,k,d,rc,B,q⟩:=z;obtain⟨i,e,j⟩:=zm B;obtain⟨I,J,e⟩:=zb e;subst j;refine⟨h,k,I,rc,J,λv g b x r=>?_⟩;rw[z7 e]at r;exact⟨i,zX r,q _ g b x rfl⟩
theorem Z6(i:Nat)(h:SX X sc N L k)(c:vX sc N i x=cT)(O:PV X a f)(hs:lp [a] X.env=[(dV,hH a X.env)]:=by rfl)
 (z:D0 (.Name x np) "append" X.env (hH (.Name x np) X.env)=hH (.Name x np) X.env:=by rfl)
 (B:((pk cpos<|starEach [a] X.env).all (λx=> !x.1) && (DD cpos<|keywordEach [] X.env).all (λx=>x.1.isSome)
   && decide ([a].length+([]:List CV).length+(if ([]:List CV).isEmpty then 0 else 1)<30))=cT:=by rfl)
 (I:(apos.endLine==cpos.line)=cT:=by rfl) (J:B6 (.Call (.Attribute (.Name x np) "append" apos) [a] [] cpos) cI pos.line X.env=pure dV:=by rfl) :
 p8 X (.Expr (.Call (.Attribute (.Name x np) "append" apos) [a] [] cpos) pos) (yk i f):=
 Qb i (YL PySem.F.plainAttrs_list PySem.F.slot_list_append PySem.F.type_list_append X3 (h.var c) (zK O jc hs) z B I hs rfl) J
theorem zZ(i:Nat){st:l7}{f:CO (List D)}(h:PS X st (vy (tO X.K f)<|j4 i)):p8 X st (jk i<|jr f):=xj h λD s H B=>by obtain⟨E0,E,j,n,S,e,z,I⟩:=B;obtain⟨d,b,z⟩:=zm z;obtain⟨l,J,b⟩:=zm b;subst z b;exact⟨j,n,l,e.rc,J,λa p o k x m g O r=>I _ _ _<|(e.step<|x.show m g O e.rc.sub).t9 (Z1 (l8.of zr)<|r.mono<|zN g _)⟩
theorem Hj(i:Nat)(h:SX X sc N L k)(c:qd sc N L i y=cT)
 (S:X.calm=cT) (ok:B2 X scope fr) (z : ∀i∈T.idx,i<own.length) (Y:B8 X tg iter src) (B : ∀fp O J,PG (zT X scope (own++fr.map (·.1)) fp O J) tg<|Ct X.K T)
 (W : ∀fp O J,PV (zT X scope (own++fr.map (·.1)) fp O J) elt f) (hs : ∀x,A3 iter X.env x=pure x:=by intro _;rfl) :
 PS X (.Assign [.Name y py] (.ListComp elt [⟨tg,iter,[],0⟩] scope cpos) spos) (vy (tO X.K<|zL src T own.length (fr.map (·.2)) jR f)<|j4 i):=by
 obtain⟨a,b,I⟩:=h.loc c;exact YB h.DT a b I S ok z Y B W hs
theorem iZ(i:Nat)(h:SX X sc N L k)(c:qd sc N L i y=cT)
 (W:X.calm=cT) (ok:B2 X scope fr) (z : ∀i∈T.idx,i<own.length) (Z:B8 X tg iter src) (B : ∀fp S O,PG (zT X scope (own++fr.map (·.1)) fp S O) tg<|Ct X.K T)
 (I : ∀fp S O,o4 (zT X scope (own++fr.map (·.1)) fp S O) D3 kk) (Y : ∀fp S O,PV (zT X scope (own++fr.map (·.1)) fp S O) elt f) (hs : ∀x,A3 iter X.env x=pure x:=by intro _;rfl) :
 PS X (.Assign [.Name y py] (.ListComp elt [⟨tg,iter,[D3],0⟩] scope cpos) spos) (vy (tO X.K<|zL src T own.length (fr.map (·.2)) kk f)<|j4 i):=by
 obtain⟨a,b,J⟩:=h.loc c;exact Qc h.DT a b J W ok z Z B I Y hs
theorem Xv(i:Nat)(h:SX X sc N L k)(c:vX sc N i x=cT)(hi:PV X b g)(he:PV X e f)
 (ha : ∀v,CZ (.Subscript (.Name x np) b p) X.env v=(do
   let B <- holding [v] (hH (.Name x np) X.env);let J <- holding [v,B] (hH b X.env)
   Dh p
   holding [v,B,J] (setItem B J v)
   release [v,B,J] []):=by intro _;rfl)
 (hs:Gm [.Subscript (.Name x np) b p] e pos.line X.env=pure dV:=by rfl) (hw:swappedStores [.Subscript (.Name x np) b p] e X.env=pure cI:=by rfl)
 (Z:(Dq [.Subscript (.Name x np) b p] X.env).map (·.2)=[CZ (.Subscript (.Name x np) b p) X.env]:=by rfl) :
 p8 X (.Assign [.Subscript (.Name x np) b p] e pos) (Vz i g f):=
 xj (VO he (dE (h.var c) hi Yl ha) hs hw Z) λD σ H Y=>by obtain⟨E0,E,s,o,R,n,z,t⟩:=Y;obtain⟨d,C,z⟩:=zb z;obtain⟨A,l,z⟩:=zb z;obtain⟨M,O,z⟩:=zb z;obtain⟨y,F,O⟩:=zb O;obtain⟨j,G,z⟩:=zm z;subst z;have l:=qO l;refine⟨s,o,d,n.rc,C,λv P m x r=>?_⟩;have S:=n.step x;obtain⟨a,xs,Z,T,K,U⟩:=S.rc.own i A l;refine⟨_,Z,m,o,y,S.rc,F,λv2 Q u I W=>?_⟩;rw[z7 O]at W;have w:=S.step I;refine⟨a,xs,M,j,rfl,zX W,I.s1 _ _ K,by rw[U.length];exact V7 G,?_⟩;exact t _ _ u<|w.rewrite (xs:=xs) l Z<|(U.mono I.s0).set j (r.mono I.s0)
end
structure fA(P:m3)(w:l6)(K:rR)(mg:GV)(base:il)(k:Nat)(x:Str)(n:Nat)(F:List D->Option Res):Prop where
 ex : ∃(f:eH) (fd:o9) (ps:List Str),ps.length=n/\oT P w K mg base rb k f fd ps (u0 K ps.length F)/\mg x=aI (.ref f)/\tR K (.ref f)=cT/\Binds K fd ps []
structure ij(K:rR)(mg:GV)(x:Str)(st:l7)(ps:List Str):Prop where
 ex : ∃(f:eH) (fd:o9),L2.u5 K x x st f fd/\(∀us:List eI,us.length=ps.length->Ex fd ⟨us,[]⟩=pure (ps.zip us))/\mg x=aI (.ref f)
noncomputable def Dp(X:Cx)(I:List g9)(n:Nat)(g:CO (List D)):Prop:=CY X I g/\∀b a,g b=aI a->a.length=n
section
variable{X:Cx}{sc:l9}{N L:List Str}{k:Nat}{e:g9}{es:List g9}{f:CO D}{g:CO (List D)}{n:Nat}{pos p:l0}{x:Str}
theorem zf:Dp X [] 0 zI:=⟨wu,λb a h=>by cases h;rfl⟩
theorem za(J:PV X e f)(I:Dp X es n g)(hs:lp (e::es) X.env=(dV,hH e X.env)::lp es X.env:=by rfl):Dp X (e::es) (n+1) (ze f g):=
 ⟨zF J I.1 hs,λb d h=>by obtain⟨y,i,h⟩:=zb h;obtain⟨r,a,h⟩:=zm h;subst h;rw[uh,I.2 b r a]⟩
variable{j:Nat}{F:List D->Option Res}
theorem dh(W:fA X.prog X.w X.K X.mg X.base j x n F)(z:j<=k)(h:SX X sc N L k)(c:j3 sc x=cT)(O:Dp X (e::es) n g)
 (S:lp (e::es) X.env=(dV,hH e X.env)::lp es X.env:=by rfl) (B:(pk pos<|starEach es X.env).any (·.1)=dV:=by rfl):PV X (.Call (.Name x p) (e::es) [] pos) (zG F g):=by
 obtain⟨f,i,l,d,G,b,I,a⟩:=W.ex;subst d;exact WT (A0:=[]) G O.1 O.2 λ{t} J=>wt G (h.room.mono z) (h.gl c).1 b I a .nil Ja J (h.gl c).2.2 S B
theorem lg(W:fA X.prog X.w X.K X.mg X.base j x n F)(z:j<=k)(h:SX X sc N L k)(c:j3 sc x=cT)(O:Dp X (e::es) n g)
 (S:lp (e::es) X.env=(dV,hH e X.env)::lp es X.env:=by rfl) (B:(pk pos<|starEach es X.env).any (·.1)=dV:=by rfl):PO X (.Call (.Name x p) (e::es) [] pos) (jo F g):=by
 obtain⟨f,i,l,d,G,b,I,a⟩:=W.ex;subst d;exact W4 G O.1 O.2 λ{t} J=>wt G (h.room.mono z) (h.gl c).1 b I a .nil Ja J (h.gl c).2.2 S B
end
section
variable{P:m3}{w:l6}{K:rR}{mg:GV}{base:il}
noncomputable def ZE(N ps:List Str)(st:l7):Bool:=
 decide ((zE st).kind = .function) && decide ((zE st).isCoroutine=dV) && decide ((zE st).isGenerator=dV) && decide N.Nodup && decide (N.take ps.length=ps) &&
 ps.all (λx=>decide ((zE st).names.lookup x=aI .local) || decide ((zE st).names.lookup x=aI .cell)) && (zE st).names.all (λy=> !(y.2==sx))
theorem qX{N ps:List Str}{st:l7}(h:ZE N ps st=cT):Em N ps (zE st):=by unfold ZE at h;simp only[rY,decide_eq_true_eq,uy,tx,uX]at h;obtain⟨⟨⟨⟨⟨⟨a,b⟩,z⟩,B⟩,I⟩,J⟩,O⟩:=h;exact⟨a,b,z,B,I,J,λy S e=>by have:=O y S;rw[e]at this;exact absurd this ⋯⟩
theorem dQ{X:Cx}(hx:X.xe=λ_ _=>False):F2 (hR X.prog X.w) X.A X.env X.xe:=by rw[hx];exact PassesOwn.never
theorem jB{x:Str}{st:l7}{N ps:List Str}{k:Nat}{F:CO Fl}(A:ij K mg x st ps)(I:ZE N ps st=cT)
 (B : ∀X:Cx,X.prog=P->X.w=w->X.K=K->X.mg=mg->X.base=base->SX X (zE st) N N k->X.xe=(λ_ _=>False)->QJ X (jj st) F) :
 fA P w K mg base (k+1) x ps.length (jl N.length F):=by
 obtain⟨f,d,z,e,g⟩:=A.ex;have S:=qX I;refine⟨f,d,ps,rfl,fg z S λb A a s H E h=>?_,g,z.kp,.all e⟩;exact B _ rfl rfl rfl rfl rfl ⟨rfl,rfl,S.nd,rfl,h,λ_ _=> .inl rfl⟩ rfl
theorem nO{h:il}{x:Str}{st:l7}{ps:List Str}{f:eH}{Y:eI}{od L:Option eH}{S:Array (Option eI)}{kV J O I ct:eI}(z:K.In h)(G:h.Ns o7 mg)
 (a:uw K o7 x=aI (aI (.ref f))) (l:K.lookup f=aI ⟨Y,od,.func<|uk x x (qf st) (jj st) (zE st) .none kV J O L I ct,S⟩)
 (c:Aq K I x=cT) (W:tR K (.ref f)=cT)
 (b : ∀(kV J O:eI) (L:Option eH) (I ct:eI) (us:List eI),us.length=ps.length->Ex (uk x x (qf st) (jj st) (zE st) .none kV J O L I ct) ⟨us,[]⟩=pure (ps.zip us)):ij K mg x st ps:=
 ⟨f,_,Km l c W,b kV J O L I ct,uP z G a⟩
theorem lH{x:Str}{st:l7}{f:eH}{I:o9}{N ps:List Str}{k:Nat}{F:CO Fl}(z:L2.u5 K x x st f I)(J:ZE N ps st=cT)
 (B : ∀X:Cx,X.prog=P->X.w=w->X.K=K->X.mg=mg->X.base=base->SX X (zE st) N N k->X.xe=(λ_ _=>False)->QJ X (jj st) F) :
 oT P w K mg base rb (k+1) f I ps (u0 K ps.length<|jl N.length F):=by
 have S:=qX J;exact fg z S λb A a s H E d=>B _ rfl rfl rfl rfl rfl ⟨rfl,rfl,S.nd,rfl,d,λ_ _=> .inl rfl⟩ rfl
theorem gC{F:List D->Option Res}{H:Hp}{a:eH}{J:List Int}(z:l8 K H a (J.map V.int))(B:F [.lst (J.map D.int)]=aI (.val<|.bl cT)) :
 u0 K 1 F [.ref a] H (λv _=>v = .bl cT) λ_ _ _=>False:=by
 refine⟨H,[.lst (J.map D.int)],.val<|.bl cT,l5.refl _,g5.cons (Z1 z ?_) g5.nil,rfl,B,λv d b _ r=>r⟩;clear B z
 induction J with
 | nil=>exact g5.nil
 | cons n J I=>exact g5.cons rfl I
end
end DL
namespace DL
open PySem PySem.Spec PyProof.Rows L2
open PySem.W (KasT kas_sort kas_ask kat_run kat_snds kat_lt kat_cons kat_no kat_kind KatTups KatGo)
noncomputable def fO(h:il)(v:eI)(k:Int):Prop:=∃x o a m t,v = .ref x/\h.get? x=aI o/\o.cls = .type "tuple"/\o.data = .seq a m/\a[0]? = aI (.int k t)
theorem V6 : ∀{vs:List eI} {ks:Nat->Int},(∀i (L:i<vs.length),fO h vs[i] (ks i))->∃fs,KatTups h vs fs/\fs.length=vs.length/\∀f∈fs,∃k t,f=Aa k t
 | [],ks,_=>⟨[],KatTups.nil,rfl,λf hf=>by cases hf⟩
 | v::vs,ks,H=>by
  obtain⟨fs,d,e,z⟩:=V6 (vs:=vs) (ks:=λi=>ks<|i+1) λi L=>H (i+1) (by simpa using L);obtain⟨x,o,g,m,t,a,b,B,I,J⟩:=H 0 ⋯;have a:v = .ref x:=a;subst a;exact⟨.int (ks 0) t::fs,KatTups.cons b B I J d,by simp[e],λf hf=>by
   rcases sd.mp hf with rfl | hf
   ·exact⟨_,_,rfl⟩
   ·exact z f hf⟩
end DL
namespace DL
open PySem PySem.Spec PyProof.Rows L2
open AutoSeq1 (wpAny_loadPart')
theorem kY:fillsNumberSlot (.type "tuple") "mul" = pure dV:=
 PySem.fillsNumberSlot_seq (id:="tuple.__mul__") (r:=aI (.builtin "tuple.__rmul__")) AH.lookup ⋯ F.slot_tuple_rmul.lookup ⋯
theorem Zb:seqRepeat? (.type "tuple")=pure (aI (.builtin "tuple.__mul__")):=by unfold seqRepeat?;rw[PySem.seqSlot_of (T:="tuple") (name:="__mul__") (id:="tuple.__mul__") AH.lookup ⋯,PySem.seqSlot_of (T:="tuple") (name:="__rmul__") (id:="tuple.__rmul__") F.slot_tuple_rmul.lookup ⋯];rfl
theorem vi(a:Int)(t:ro)(l:eH)(items:Array eI)(n:Nat)(dd:Option eH)(I:Array (Option eI)) :
 Meets (Builtin.«int.__rmul__» ⟨[.int a t,.ref l],[]⟩) (λ_ R s=>s.heap.get? l=aI {cls:= .type "tuple",dict:=dd,data:= .seq items n,slots:=I}/\R (.ok (.ret Value.notImplemented)) s):=
 .of_wp λb w A R s h=>by obtain⟨e,g,d,f,os⟩:=s;obtain⟨z,h⟩:=h;wp_walk;exact⟨_,rfl,h⟩
theorem v7(a:Int)(t:ro)(l:eH)(items:Array eI)(n:Nat)(dd:Option eH)(W:Array (Option eI))(L : ¬(decide (a < -(2 ^ 63)) || decide (a>=2 ^ 63))=cT)(S : ¬(items.isEmpty || a==1)=cT)
 (B : ¬(decide (a<=0) || items.isEmpty)=cT) (I : ¬((items.size:Int)*a>(2 ^ 63 - 1)/8)) (J : ¬Builtin.Tuple.tupleTooMany ((items.size:Int)*a)=cT) (O:((so a.toNat items).foldl (· ++ ·) #[]).size<=l4) :
 Meets (Builtin.«tuple.__mul__» ⟨[.ref l,.int a t],[]⟩) (λ_ R s=>s.heap.get? l=aI {cls:= .type "tuple",dict:=dd,data:= .seq items n,slots:=W}/\
  R (.ok (.ret (.ref s.heap.objs.size))) {s with heap:=s.heap.push {cls:= .type "tuple",data:= .seq ((so a.toNat items).foldl (· ++ ·) #[])}}):=
 .of_wp λb w A R s h=>by
  obtain⟨e,g,d,f,os⟩:=s;obtain⟨z,h⟩:=h
  wp_walk using ui z
  rw[GX L];refine rS<|Br (s:=⟨e,g,d,f,os⟩) ⟨_,z,rfl,n,rfl⟩ ?_;dsimp only;rw[GX S,GX B,GX I,GX J];refine rS (m:=tY _)<|tG ?_ O;exact rW ⟨_,rfl,h⟩
theorem vf(a:Int)(t:ro)(l:eH)(items:Array eI)(n:Nat)(dd:Option eH)(L:Array (Option eI))(I : ¬(decide (a < -(2 ^ 63)) || decide (a>=2 ^ 63))=cT)(J : ¬(items.isEmpty || a==1)=cT)
 (B:(decide (a<=0) || items.isEmpty)=cT) :
 Meets (Builtin.«tuple.__mul__» ⟨[.ref l,.int a t],[]⟩) (λ_ R s=>s.heap.get? l=aI {cls:= .type "tuple",dict:=dd,data:= .seq items n,slots:=L}/\
  R (.ok (.ret (.ref s.heap.objs.size))) {s with heap:=s.heap.push {cls:= .type "tuple",data:= .seq #[]}}):=
 .of_wp λb w A R s h=>by
  obtain⟨e,g,d,f,os⟩:=s;obtain⟨z,h⟩:=h
  wp_walk using ui z
  rw[GX I];refine rS<|Br (s:=⟨e,g,d,f,os⟩) ⟨_,z,rfl,n,rfl⟩ ?_;dsimp only;rw[GX J,GK B];refine rS (m:=tY _)<|tG ?_ (uv _);exact rW ⟨_,rfl,h⟩
theorem ve(a:Int)(t:ro)(l:eH)(items:Array eI)(n:Nat)(dd:Option eH)(L:Array (Option eI))(I : ¬(decide (a < -(2 ^ 63)) || decide (a>=2 ^ 63))=cT)(J:(items.isEmpty || a==1)=cT) :
 Meets (Builtin.«tuple.__mul__» ⟨[.ref l,.int a t],[]⟩) (λ_ R s=>s.heap.get? l=aI {cls:= .type "tuple",dict:=dd,data:= .seq items n,slots:=L}/\R (.ok (.ret (.ref l))) s):=
 .of_wp λb w A R s h=>by
  obtain⟨e,g,d,f,os⟩:=s;obtain⟨z,h⟩:=h
  wp_walk using ui z
  rw[GX I];refine rS (Br (s:=⟨e,g,d,f,os⟩) ⟨_,z,rfl,n,rfl⟩ ?_);dsimp only;rw[GK J];refine rS (m:=uL _) ?_;unfold uL;refine rS (Bf (T:="tuple") ⟨_,z,rfl⟩ (rW ?_));rw[GK ⋯];exact rS (AR (rW ⟨_,rfl,h⟩))
section
variable{X:Cx}
noncomputable def cW(K:rR):R2:=λx y H Q=>∃l k a,x = .ref l/\y = .int k/\mu K H l a/\ -(2 ^ 62)<=k/\k<2 ^ 62/\a.length*k.toNat<=l4/\(a=[]\/k=1->Q (.ref l) H)/\
 ∀p,H p=cI->Q (.ref p) (upd H p<|.tup (so k.toNat a).flatten)
theorem af:m6 X (B4 .Mult) (cW X.K):=by
 intro E s σ H x y v u Q I rx ry h;obtain⟨l,k,L,rfl,rfl,Z,h1,h2,C,q1,G⟩:=h;cases rx;obtain⟨t,rfl⟩:=ry;obtain⟨z,r,ht,z1⟩:=I.tuple Z;obtain⟨⟨R,a,i,b⟩,B,p,n,w⟩:=id ht;simp only at p w;subst p w;have M:=r.length;have S : ¬(decide (k < -(2 ^ 63)) || decide (k>=2 ^ 63))=cT:=by simp;omega
 refine wpAny_binaryOp_repeat_ref (T:="tuple") (U:="int") ⋯ ⟨_,B,rfl⟩ (λs'=>Ck s' k t) kY F.fills_int_mul Bz Zb F.slot_int_index.lookup
  (uR Bz (Ck s k t) F.entry_int_rmul (F.args_int_rmul_2 _ _) (vi k t l z.toArray n a b) ⟨B,rfl,⟨_,B,rfl⟩,?_⟩)
 have j : ∀m:Nat,BU (λf W=>f++W) #[] (so m z.toArray)=(so m z).flatten.toArray:=λm=>by have:=yP z m [];rw[List.nil_append]at this;exact this
 by_cases J:(z.toArray.isEmpty || k==1)=cT
 ·refine uR AH ⟨_,B,rfl⟩ Cg (BY _ _) (ve k t l z.toArray n a b S J) ⟨B,⟨.ref l,H,I,rfl,q1 ?_⟩⟩
  rw[tx]at J;rcases J with g | g
  ·left
   have:z=[]:=by simpa using g
   exact(r.E5).mp this
  ·right;simpa using g
 ·have Y:=J
  simp only[tx,not_or]at Y;have N:z ≠ []:=by intro e;exact Y.1 (by rw[e];rfl)
  have an:0<z.length:=List.length_pos_iff.mpr N;by_cases O:(decide (k<=0) || z.toArray.isEmpty)=cT
  ·have A:k.toNat=0:=by
    rw[tx]at O;rcases O with g | g
    ·have:=of_decide_eq_true g;omega
    ·exact absurd g Y.1
   refine uR AH ⟨_,B,rfl⟩ Cg (BY _ _) (vf k t l z.toArray n a b S J O) ⟨B,?_⟩;refine⟨.ref s.heap.objs.size,_,I.laid (t':=s.toks) (o:= .tup (so k.toNat L).flatten) (λc ob q=>rT _ q) (sf _) ?_,rfl,G _<|I.iv.fresh<|sf _⟩;rw[A];exact⟨uv _,[],.nil,CJ.new _ _⟩
  ·have A : ¬k<=0:=by intro g;exact O (by rw[tx];exact .inl<|decide_eq_true g)
   have d:z.length*k.toNat<=l4:=by rw[<- M];exact C
   have ap:((z.toArray.size:Nat):Int)*k<=(l4:Int):=by
    rw[rX];have e:((z.length*k.toNat:Nat):Int)=(z.length:Int)*k:=by rw[Int.natCast_mul,Int.toNat_of_nonneg ⋯]
    omega
   have as:l4=16777216:=An;have P:(BU (λf W=>f++W) #[] (so k.toNat z.toArray)).size<=l4:=by rw[j,rX,Jg,Nat.mul_comm];exact d
   refine uR AH ⟨_,B,rfl⟩ Cg (BY _ _) (v7 k t l z.toArray n a b S J O ⋯ (by unfold Builtin.Tuple.tupleTooMany;simp only[decide_eq_true_eq];omega) P) ⟨B,?_⟩;rw[j];refine⟨.ref s.heap.objs.size,_,I.laid (t':=s.toks) (o:= .tup (so k.toNat L).flatten) (λc ob q=>rT _ q) (sf _) ?_,rfl,G _<|I.iv.fresh<|sf _⟩;exact⟨by rw[Jg,Nat.mul_comm];exact C,_,r.rep k.toNat,CJ.new _ _⟩
theorem Wy{K:rR}:p9 K (λx y H Q=>rI DV (λi j=> .int (i*j)) x y H Q\/cW K x y H Q) JU:=λk H x y m J d Q s B I z q=>by
 cases m<;>cases J<;>simp[JU]at z
 ·obtain⟨n,g⟩:=z
  subst g;exact .inl ⟨_,_,zX B,zX I,Vs n,q _ H k (Ext.refl s) rfl⟩
 ·rename_i f j
  obtain⟨⟨O,S⟩,rfl⟩:=z;obtain⟨a,o,rfl,h,b⟩:=qm B;obtain⟨U,W⟩:=yN S;refine .inr ⟨a,j,o,rfl,zX I,p6 s h,U,W,qK (by rw[b.length];exact O),λe=>?_,λp l=>?_⟩
  ·refine q _ H k (Ext.refl s) ?_
   rcases e with e | e
   ·have g:f=[]:=by
     have:=b.length;rw[e]at this;exact sO this.symm
    subst g;rw[show(so j.toNat ([]:List D)).flatten=[]by simp];exact jS h b
   ·subst e
    rw[show(so (1:Int).toNat f).flatten=f by simp];exact jS h b
  ·exact q _ _ _ (Ext.alloc s l _)<|jS (mu.of zr)<|(wg b _).mono (zN (zO s l) _)
theorem xl(I:PV X a fa)(J:PV X b fb):PV X (.BinOp a .Mult b pos) (zR JU fa fb):=vG (Hi.or af) Wy I J
end
end DL
namespace DL
open PySem PySem.Spec PyProof.Rows L2
theorem RC.Hb{K:rR}{H0 H:Hp}{σ:St}{γ:Ctx}{i:Nat}{ds:List D}{a:eH}{xs:List V}(r:RC K H0 H σ γ)(e:γ[i]? = aI (.own ds))(Z:σ[i]? = aI (aI (.ref a)))(L:H0 a=cI)(U:H a=aI (.lst xs))(W:g5 K H0 ds xs):RC K (L2.upd H0 a<|.lst xs) H σ (γ.set i<|.val<|.lst ds):=by
 refine⟨λb o q=>?_,by simp[r.len],λj d g=>?_,λj n g=>?_,λj k b n fs f h Y u=>?_,⟨λj l g=>?_,λj k x y f h=>?_⟩⟩
 ·by_cases z:b=a
  ·subst z;rw[zr]at q;rw[U];exact q
  ·rw[zw z]at q;exact r.sub b o q
 ·rcases zB g with⟨rfl,z,E⟩ | ⟨B,z⟩
  ·cases z;exact⟨_,Z,Z1 (l8.of zr)<|W.mono<|zN L _⟩
  ·obtain⟨v,I,J⟩:=r.val j d z
   exact⟨v,I,J.mono<|zN L _⟩
 ·rcases zB g with⟨_,z,_⟩ | ⟨B,z⟩
  ·cases z
  ·obtain⟨b,A,I,J,g3,w⟩:=r.own j n z
   refine⟨b,A,I,?_,g3,w.mono<|zN L _⟩;rw[zw (λq=>B<|r.ne j i a n ds z e (by rw[I,q]) Z)];exact J
 ·rcases zB f with⟨_,z,_⟩ | ⟨B,m⟩
  ·cases z
  ·rcases zB h with⟨_,z,_⟩ | ⟨C,s⟩
   ·cases z
   ·exact r.ne j k b n fs m s Y u
 ·rcases zB g with⟨_,z,_⟩ | ⟨B,z⟩
  ·cases z
  ·obtain⟨b,bs,f1,O,S⟩:=r.B5.1 j l z
   have t:=S i ds a e Z;refine⟨b,bs,f1,O.move (zN L _) (λc p=>by rw[zw (λq=>t<|by rw[<- q];exact p)];exact(O.at p).1)<|λc p=>rfl,λk fs c f h=>?_⟩;rcases zB f with⟨_,z,_⟩ | ⟨_,m⟩
   ·cases z
   ·exact S k fs c m h
 ·rcases zB f with⟨_,z,_⟩ | ⟨_,m⟩
  ·cases z
  ·rcases zB h with⟨_,z,_⟩ | ⟨_,s⟩
   ·cases z
   ·exact r.B5.2 j k x y m s
end DL
namespace L2
open PySem PySem.Spec PyProof.Rows
open AutoSeq1 (wpAny_loadPart')
section
variable{prog:m3}{w:l6}{A:m7}{E:GQ}{s:g8}
theorem QD{z it l:eH}{n:Nat}{xs:Array eI}{x J:eI}{Q:GQ}(L:IsEnum s.heap z it n J)(h1:o3 .T s.heap it l n)(hl:t4 .T s.heap l xs)(hx:xs[n]? = aI x)(U:z≠it)
 (hQ : ∀g,IsEnumOut g z it ((n:Int)+1) x s.heap.objs.size->o3 .T g it l (n+1)->r9 g s.heap.objs.size (.int n s.toks) x->g.objs.size=s.heap.objs.size+1->
   (∀c o,c≠z->c≠it->s.heap.get? c=aI o->g.get? c=aI o)->Q (.ref s.heap.objs.size) {s with heap:=g,toks:=s.toks+1}) :
 wpAny (hR prog w) A (Builtin.«enumerate.__next__» ⟨[.ref z],[]⟩) (λZ s'=>∃v,Z = .done (.ret v)/\Q v s') E s:=by
 refine rS (m:=field (.ref z) 2) (tf L rfl (x:= .ref it) rfl ?_);refine rS (m:=sE (.ref it)) (xT h1 hl hx λg1 K b=>?_);have d:IsEnum g1 z it n J:=b.extBut _ _ U L;refine rS (m:=field (.ref z) 3) (tf d rfl (x:=Dv n) rfl ?_);refine rS (m:=field (.ref z) 4) (tf d rfl (x:= .none) rfl ?_);refine rS (m:=mkInt n) (wpAny_mkInt ?_);refine rS (m:=EI (.ref z) 3 (Dv ((n:Int)+1))) (tK d ⋯ λg2 f h=>?_);replace f:IsEnum g2 z it ((n:Int)+1) J:=f;refine rS (m:=EI (.ref z) 4 .none) (tK f ⋯ λO i j=>?_);replace i:IsEnum O z it ((n:Int)+1) J:=i;refine rS (m:=newTuple [.int n s.toks,x]) (wpAny_newTuple ?_);have W:IsEnum (O.push {cls:= .type "tuple",data:= .seq #[.int n s.toks,x]}) z it ((n:Int)+1) J:=rT _ i;generalize Y:O.push {cls:= .type "tuple",data:= .seq #[.int n s.toks,x]}=I at W;have y1:g1.objs.size=s.heap.objs.size:=b.1;have y2:g2.objs.size=g1.objs.size:=h.1;have y3:O.objs.size=g2.objs.size:=j.1;have a:O.objs.size=s.heap.objs.size:=by rw[y3,y2,y1]
 have M:z<s.heap.objs.size:=sg L;have N:r9 I s.heap.objs.size (.int n s.toks) x:=by show I.get? _=_;rw[<- Y,<- a];exact se _ rfl
 have y4:I.objs.size=s.heap.objs.size+1:=by rw[<- Y,sG,a]
 have be : ∀c o,c≠z->c≠it->s.heap.get? c=aI o->I.get? c=aI o:=λc o B t e=>by rw[<- Y];exact rT _<|j.extBut _ _ B<|h.extBut _ _ B<|b.extBut _ _ t e
 have P:o3 .T I it l (n+1):=K.at λo e=>by rw[<- Y];exact rT _<|j.extBut _ _ U.symm<|h.extBut _ _ U.symm e
 refine rS (m:=sQ<|.ref z) ?_;unfold sQ;refine rS<|tf W rfl (x:= .none) rfl<|rW ?_;simp only[if_true];refine rS<|AR<|rS<|tf W rfl (x:=J) rfl ?_;refine rS<|tK W ⋯ λu k F=>?_;replace k:IsEnum u z it ((n:Int)+1) x:=k;rw[a];refine rS (m:=tZ (.ref z)<|.ref s.heap.objs.size) ?_;unfold tZ;refine rS<|tK k ⋯ λy p G=>?_;replace p:IsEnumOut y z it ((n:Int)+1) x s.heap.objs.size:=p;refine tK p ⋯ λS r H=>?_;replace r:IsEnumOut S z it ((n:Int)+1) x s.heap.objs.size:=r;have C : ∀c o,c≠z->I.get? c=aI o->S.get? c=aI o:=λc o B e=>H.extBut _ _ B<|G.extBut _ _ B<|F.extBut _ _ B e;have y7:S.objs.size=s.heap.objs.size+1:=by have R:u.objs.size=I.objs.size:=F.1;have X:y.objs.size=u.objs.size:=G.1;have q7:S.objs.size=y.objs.size:=H.1;rw[q7,X,R,y4]
 exact rS<|BV<|rW ⟨_,rfl,hQ S r (P.at λo e=>C _ o U.symm e) (C _ _ (uB M) N) y7 λc o B t e=>C c o B<|be c o B t e⟩
theorem Kr{z it l:eH}{n:Nat}{xs:Array eI}{B:eI}{Q:Fin->g8->Prop}(I:A.handled=cI)(J:IsEnum s.heap z it n B)(L:o3 .T s.heap it l n)(O:t4 .T s.heap l xs)(hx:xs[n]? = cI)
 (S : ∀g e,Heap.ExtBut it s.heap g->(∃o,g.get? e=aI o/\o.cls = .type "StopIteration")->E (.ref e) {s with heap:=g}) :
 wpAny (hR prog w) A (Builtin.«enumerate.__next__» ⟨[.ref z],[]⟩) Q E s:=
 rS (m:=field (.ref z) 2) (tf J rfl (x:= .ref it) rfl<|rS (m:=sE<|.ref it)<|wy I L O hx S)
end
noncomputable def aP(i:eH):n7:={cls:= .type "enumerate",data:= .fields #[.none,.bool dV,.ref i,Dv 0,.none,.none]}
def yR(h:il)(l:eH):il:=sW (sW h<|ra .T l)<|aP h.objs.size
theorem Kq(l:eH)(xs:Array eI) :
 Meets (Builtin.«enumerate.__new__» ⟨[.type "enumerate",.ref l],[]⟩) (λ_ R s=>t4 .T s.heap l xs/\R (.ok (.ret (.ref (s.heap.objs.size+1)))) {s with heap:=yR s.heap l}):=
 .of_wp λe w A R s h=>by
  obtain⟨i,g,d,j,os⟩:=s;obtain⟨I,h⟩:=h;have J:=sub_enumerate;have z:Heap.IsTuple (Shared.heap ⟨i,g,d,j,os⟩) l xs:=I;obtain⟨o,B,a,m,b⟩:=id z;obtain⟨f,n9,O,k⟩:=o;simp only at a b;subst a b;simp only[yR,aP,ra,sG]at h
  wp_walk using ui B
  refine wpAny_stack_any λst=>rW ?_;split
  ·rename_i c _ _ _ _ _
   cases (c==Ae "enumerate")<;>(wp_walk using ui B,Bg z;exact⟨_,rfl,by simpa[sG,AK]using h⟩)
  ·wp_walk using ui B,Bg z
   exact⟨_,rfl,by simpa[sG,AK]using h⟩
noncomputable def Fj(K:rR)(a:eH):It:=
 ⟨λi H=>∃b,pa .T K H a b/\i<b.length,
  λi H x d=>∃p u,x = .ref p/\H p=cI/\d=upd H p (.tup [.int i,u])/\(∀b,pa .T K H a b->b[i]? = aI u),
  λi H=>∃b,pa .T K H a b/\b.length<=i⟩
theorem xW(J:IsEnum s.heap z it n old)(h:Q (.ref z) s):wpAny (hR prog w) A (Fb (.ref z)) Q E s:=by have B:s.TypeIs (.ref z) "enumerate":=⟨_,J,rfl⟩;refine wpAny_pyIter_slot B F.slot_enumerate_iter (uo F.slot_enumerate_iter B F.entry_enumerate_iter ?_ (F.args_enumerate_iter_1 _));have I:wpAny (hR prog w) A.in1 (ret (.ref z)) (λI a=>∃v,I = .done (.ret v)/\∃T m,a.TypeIs v T/\Fh (.type T) "__next__" = pure (aI m)/\Q v a) E s:=rW ⟨_,rfl,"enumerate",_,B,uY.lookup,h⟩;exact I
theorem QW{P:m3}{w:l6}{K:rR}{elts:List g9}{x1:Nat}{u4:l0}{z it a:eH}(ac:z≠it) :
 Turn P w K (.Tuple elts x1 u4) (Fj K a) [z,it] z (λi h=>(∃O,IsEnum h z it i O)/\o3 .T h it a i) where
 mem:=by simp
 obj:=λi h ⟨⟨O,B⟩,h1⟩ y hy=>by
  simp only[sd,sD,or_false]at hy;rcases hy with rfl | rfl
  ·exact⟨_,B,λv q=>by cases q⟩
  ·exact h1.obj
 keep:=λi h h' ⟨⟨O,B⟩,h1⟩ k=>⟨⟨O,k z ⋯ _ B⟩,h1.at λo e=>k it ⋯ o e⟩
 item:=by
  rintro X W hw Y hc i pins s σ H E I hf ⟨⟨O,B⟩,h1⟩ ⟨xs,U,an⟩;subst W hw Y;obtain⟨ap,a6,p1,z1⟩:=I.sq U;have hx:xs[i]? = aI xs[i]:=rV an;obtain⟨u1,as,ax⟩:=a6.get hx;have S:s.TypeIs (.ref z) "enumerate":=⟨_,B,rfl⟩;unfold Ea;refine rS (Ay (tH (name:=tm "__next__") S uY (uo uY S F.entry_enumerate_next
   (QD B h1 p1 (x:=u1) (by simpa using as) ac λg a1 a2 a3 a4 a5=>rW ⟨_,rfl,?_⟩) (F.args_enumerate_next_1 _))))
  refine wpAny_letOwnedTupleGo_enum a1 λg2 b4 ab=>?_;have lt : ∀{c o},s.heap.get? c=aI o->s.heap.objs.size≠c:=λe=>uB<|sg e;have b5:r9 g2 s.heap.objs.size (.int i s.toks) u1:=ab.extBut _ _ (lt B) a3;have kk : ∀J u,J ∉ [z,it]->s.heap.get? J=aI u->g2.get? J=aI u:=λJ u hb e=>by simp only[sd,sD,or_false,not_or]at hb;exact ab.extBut _ _ hb.1<|a5 J u hb.1 hb.2 e
  have I1:Inv X pins σ (upd H s.heap.objs.size<|.tup [.int i,xs[i]]) {s with heap:=g2,toks:=s.toks+1}:=
   I.FL (fp:=[z,it]) kk hf (sf _) ⟨by show 2<=l4;decide,[.int i s.toks,u1],.cons ⟨_,rfl⟩<|.cons ax .nil,⟨_,b5,rfl,_,rfl⟩⟩
  have b7:H s.heap.objs.size=cI:=I.fresh;refine⟨.ref s.heap.objs.size,_,I1,rfl,⟨_,_,rfl,b7,rfl,λbi b8=>by rw[I.FH b8 U];exact hx⟩,?_,λJ hb=>?_⟩
  ·exact⟨⟨_,by have:=b4;rwa [show((i:Int)+1)=((i+1:Nat):Int)by omega]at this⟩,a2.at λo e=>ab.extBut _ _ ac.symm e⟩
  ·have b9:J≠s.heap.objs.size:=by
    simp only[sd,sD,or_false]at hb;rcases hb with rfl | rfl
    ·exact(lt B).symm
    ·obtain⟨o,e,_⟩:=h1.obj;exact(lt e).symm
   rw[zw b9];exact(hf J hb).1
 done:=by
  rintro X W hw Y hc i pins s σ H E I hf ⟨⟨O,B⟩,h1⟩ ⟨xs,U,hi⟩;subst W hw Y;obtain⟨ap,a6,p1,z1⟩:=I.sq U;have S:s.TypeIs (.ref z) "enumerate":=⟨_,B,rfl⟩;have l1:=a6.length;unfold Ea;refine rS (Ay (tH (name:=tm "__next__") S uY (uo uY S F.entry_enumerate_next
   (Kr (show X.A.handled=cI from I.ok.hd hc) B h1 p1 (by simp;omega) λg e hk he=>?_) (F.args_enumerate_next_1 _))))
  obtain⟨o,ho,be⟩:=he;refine rS (wpAny_isInstance (T:="StopIteration") (b:=cT) ⟨o,ho,be⟩ isSubtype_stop (rW ⟨rfl,?_⟩));refine I.Dx (t':=s.toks) (fp:=[z,it]) (λJ u hb e=>?_) hf;simp only[sd,sD,or_false,not_or]at hb;exact hk J u hb.2 e
 self:=λ_ _ _ _ _ st h=>xW st.1.choose_spec h
noncomputable def lC(K:rR)(I:TA):TI:=λf H R=>I f H λd b=>∃a,d=[.ref a]/\(∃e,pa .T K b a e)/\R (Fj K a) b
theorem W7{X:Cx}{e1:g9}{ta:TA}{p pos:l0}{L:List g9}{x1:Nat}{Z:l0}(S:Gl X "enumerate")(hm:X.mg "enumerate" = cI)(ha:PA X [e1] ta)
 (U:C0 "enumerate" = aI (.type "enumerate")) (hs:lp [e1] X.env=[(dV,hH e1 X.env)]:=by rfl) :
 PI X (.Tuple L x1 Z) (.Call (.Name "enumerate" p) [e1] [] pos) (lC X.K ta):=by
 intro d s j H R I h;refine Call_<|jP I S hm U<|tq (kr (ha pos d s j H _ I h) λA b W=>?_) (by rw[hs];rfl) rfl;obtain⟨C,g,z,Y,u⟩:=W;obtain⟨a,e,⟨G,l⟩,q⟩:=u;subst e;obtain⟨E,r,m⟩:=qC Y;subst r;cases m;obtain⟨n,x,J,M⟩:=z.sq l;have y:=J.lt;refine callType_new F.called_enumerate ⋯ (F.typeCall_enumerate_1 _) (F.newCall_enumerate_1 _) (λobj=>F.args_object_init_2 obj _) F.entry_enumerate_new (Kq a n.toArray) ⟨J,?_⟩;have f : ∀c o,b.heap.get? c=aI o->(yR b.heap a).get? c=aI o:=λc o e=>rT _<|rT _ e;have w:(sW b.heap<|ra .T a).objs.size=b.heap.objs.size+1:=sG ..;have t:o3 .T (yR b.heap a) b.heap.objs.size a 0:=(vN .T b.heap a).at λo e=>rT _ e;have B:IsEnum (yR b.heap a) (b.heap.objs.size+1) b.heap.objs.size 0 .none:=by have q:=se (sW b.heap<|ra .T a) (o:=aP b.heap.objs.size) rfl;rw[w]at q;exact q
 refine⟨⟨_,B,rfl⟩,xW (s:={b with heap:=yR b.heap a}) B ?_⟩;have k:Inv X d j g {b with heap:=yR b.heap a,toks:=b.toks}:=z.kept f;refine⟨_,[b.heap.objs.size+1,b.heap.objs.size],_,_,g,rfl,k,QW<|uB<|uz _,⟨⟨_,B⟩,t⟩,λc i=>?_,q⟩;have O:b.heap.objs.size<=c:=by
  simp only[sd,sD,or_false]at i;rcases i with rfl | rfl
  ·exact tD _ _
  ·exact sf _
 exact z.C6 O<|z.iv.fresh O
end L2
namespace DL
open PySem PySem.Spec PyProof.Rows L2
theorem yK{K:rR}{H:Hp} : ∀{ds:List D} {xs:List V} {l:List Int},g5 K H ds xs->Qz ds=aI l->xs=l.map V.int
 | [],xs,l,r,e=>by cases e;rw[show xs=[]from r];rfl
 | d::ds,xs,l,r,e=>by
  obtain⟨x,I,rfl,z,B⟩:=(show ∃x r,xs=x::r/\Rep K H d x/\g5 K H ds r from r);cases d with
  | int i=>
   obtain⟨J,a,rfl⟩:=zm (show(Qz ds).map (λl=>i::l)=aI l from e);rw[yK B a,show x = .int i from z];rfl
  | _=>cases e
theorem yQ : ∀l:List Int,(l.map V.int).all vj=cT
 | []=>rfl
 | i::l=>by simp only[sL,Al,yQ l,Bool.and_true];rfl
theorem Jk(i:Int) : ∀l:List Int,CN (.int i) (l.map V.int)=decide (i∈l)
 | []=>rfl
 | j::l=>by
  have z:=Jk i l;unfold CN at z ⊢;rw[sL,Bh,z];have e:C4 (.int j) (.int i)=(j==i):=rfl;rw[e];by_cases h:i=j
  ·subst h
   rw[beq_self_eq_true,Bool.true_or];exact(decide_eq_true sP).symm
  ·rw[beq_false_of_ne (tE h),Bool.false_or]
   exact decide_eq_decide.mpr ⟨λq=>sv _ q,λq=>(sd.mp q).resolve_left h⟩
theorem QT{K:rR}{H0 L:Hp}{a:eH}{xs:List V}{ds:List D}(h:mu K L a xs)(r:g5 K H0 ds xs):Walk K H0 L (Fj K a) (vm ds):=by
 have I:=r.length;have J:(vm ds).length=ds.length:=by simp[vm]
 refine⟨λi b s n=>?_,λb s=>?_,λi b x j s n y=>?_⟩
 ·exact⟨xs,p6 s h,by omega⟩
 ·exact⟨xs,p6 s h,by omega⟩
 ·obtain⟨p,u,k,e,l,z⟩:=y
  obtain⟨d,m,o⟩:=r.D7<|z xs<|p6 s h;refine⟨.tup [.int i,d],?_,λg t f=>⟨upd g p<|.tup [.int i,u],?_,?_⟩⟩
  ·have B:i<ds.length:=by omega
   unfold vm;rw[sV,List.getElem?_range B,Option.map_some,m];rfl
  ·rw[l];exact Ext.alloc f e _
  ·rw[k]
   exact jS (mu.of zr)<|g5.cons (show V.int i = .int i from rfl)<|g5.cons ((o.mono t).mono (zN (zO f e) _)) g5.nil
section
variable{X:Cx}{sc:l9}{N L:List Str}{k:Nat}{a b c:g9}{pos p:l0}{f fa fb fc:CO D}
theorem XB(h:SX X sc N L k)(c:j3 sc "enumerate" = cT)(z:X.mg "enumerate" = cI)(W:PV X a f)(hs:lp [a] X.env=[(dV,hH a X.env)]:=by rfl) :
 n6 X (.Tuple elts x1 u4) (.Call (.Name "enumerate" p) [a] [] pos) (Yq f):=
 wm (W7 (h.gl c).1 z (zK W jc hs) boot_enumerate hs) λn H R J=>by
  obtain⟨g,j,l,rc,B,q⟩:=J;obtain⟨d,O,B⟩:=zb B;cases d with
  | tup m=>
   cases B;refine⟨g,j,_,rc,O,λv e b x r=>?_⟩;obtain⟨S,i,rfl,I,U⟩:=qm r;exact⟨S,rfl,⟨i,p6 x.sub I⟩,q _ e b x<|QT I U⟩
  | _=>cases B
theorem JH(ho:m6 X (p5 op) r)(Z:m6 X (p5 EF) r')(s1:p9 X.K r F)(s2:p9 X.K r' G)(ha:PV X a fa)(hb:PV X b fb)(hc:PV X c fc)
 (hm:Fy [op,EF] [b,c]=dV:=by with_unfolding_all rfl):PV X (.Compare a [op,EF] [b,c] pos) (vC F G fa fb fc):=
 z6 (YJ ho Z ha hb hc hm) λσ H Q L=>by
  obtain⟨h,f,d,rc,B,q⟩:=L;obtain⟨x,t,B⟩:=zb B;obtain⟨y,u,B⟩:=zb B;obtain⟨k,w,B⟩:=zb B;obtain⟨S,A,U⟩:=zb w;refine⟨h,f,x,rc,t,λT H1 n e M=>⟨n,f,y,rc.ext e,u,λW i o I Y=>s1 o i T W x y S _ I.sub (M.mono I.s0) Y A λv3 j g J N=>?_⟩⟩;cases S with
  | bl k'=>
   cases U;refine⟨k,show v3 = .bl k from N,?_⟩;cases k with
   | true=>
    rw[GK rfl];rw[GK rfl]at B;obtain⟨z,C,E⟩:=zb B;exact⟨g,f,z,((rc.ext e).ext I).ext J,C,λv4 l p O P=>s2 p l W v4 y z d _ O.sub ((Y.mono J.s0).mono O.s0) P E λv5 m s x5 R=>q v5 m s (((e.trans I).trans J).trans (O.trans x5)) R⟩
   | false=>
    rw[GX ⋯];rw[GX ⋯]at B;cases B;exact q _ j g ((e.trans I).trans J) rfl
  | _=>cases U
theorem dg(Z:PV X a fa){g:CO (Sk×List D)}(hb:PQ X b g)(hm:vr .In b=dV:=by with_unfolding_all rfl):PV X (.Compare a [.In] [b] pos) (nh fa g):=
 z6 (wq yB Z hb hm) λC H Q J=>by
  obtain⟨m,k,d,rc,z,q⟩:=J;obtain⟨x,o,z⟩:=zb z;obtain⟨⟨h,n⟩,s,z⟩:=zb z;obtain⟨i,O,z⟩:=zb z;obtain⟨l,S,rfl⟩:=zm z;refine⟨m,k,x,rc,o,λI w U j B=>⟨U,k,h,n,rc.ext j,s,λp A e W Y f y r=>?_⟩⟩;rw[z7 O]at B;have t:=yK r S;subst t;have u:l8 X.K e p (l.map V.int)\/mu X.K e p (l.map V.int):=by
   cases h with
   | L=>exact .inl f
   | T=>exact .inr f
  refine⟨p,_,rfl,u,by rw[show I = .int i from B];rfl,yQ l,?_⟩;rw[show I = .int i from B,Jk];exact q _ e W (j.trans Y) rfl
end
theorem xJ : ∀{l:List Int} {us:List eI},kA (l.map V.int) us->∀i,i<us.toArray.size->∃z u,us.toArray[i]? = aI (.int z u)/\l[i]? = aI z
 | [],us,r,i,hi=>by cases r;exact absurd hi<|Nat.not_lt_zero _
 | z::l,u::us,.cons r t,i,hi=>by
  cases i with
  | zero=>
   obtain⟨d,rfl⟩:=r;exact⟨z,d,by simp,by simp⟩
  | succ i=>
   obtain⟨B,I,a,b⟩:=xJ t i (by simpa using hi);exact⟨B,I,by simpa using a,by simpa using b⟩
section
variable{K:rR}{E0 E H0 H:Hp}{σ:St}{γ:Ctx}
theorem RS.forget(r:RS K E0 E H0 H σ γ):RS K E0 E H0 H (σ.set i v) (γ.set i .no):=by
 have J : ∀{j:Nat} {e:List D} {b:eH},(γ.set i .no)[j]? = aI (.own e)->γ[j]? = aI (.own e)/\(σ.set i v)[j]? = σ[j]? :=λ{j e b} g=>by
  rcases zB g with⟨_,z,_⟩ | ⟨O,z⟩
  ·cases z
  ·exact⟨z,rZ<|tE O⟩
 have S : ∀{j:Nat} {d:List (List D)},(γ.set i .no)[j]? = aI (.nest d)->γ[j]? = aI (.nest d)/\(σ.set i v)[j]? = σ[j]? :=λ{j d} g=>by
  rcases zB g with⟨_,z,_⟩ | ⟨O,z⟩
  ·cases z
  ·exact⟨z,rZ<|tE O⟩
 refine⟨⟨r.rc.sub,by simp[r.rc.len],λj o g=>?_,λj e g=>?_,λj k b e fs m l Y n=>?_,⟨λj d g=>?_,λj k u w I B=>r.rc.B5.2 j k u w (S I).1 (S B).1⟩⟩,r.ext,λj e b I B=>?_,λj d b y I B g3=>?_⟩
 ·rcases zB g with⟨_,z,_⟩ | ⟨O,z⟩
  ·cases z
  ·obtain⟨x,I,B⟩:=r.rc.val j o z
   exact⟨x,by rw[rZ (tE O)];exact I,B⟩
 ·obtain⟨f,h⟩:=J (b:=0) g
  rw[h];exact r.rc.own j e f
 ·obtain⟨f,h⟩:=J (b:=0) m
  obtain⟨U,W⟩:=J (b:=0) l;rw[h]at Y;rw[W]at n;exact r.rc.ne j k b e fs f U Y n
 ·obtain⟨f,h⟩:=S g
  obtain⟨a,bs,p,s,t⟩:=r.rc.B5.1 j d f;refine⟨a,bs,by rw[h];exact p,s,λk e c m l=>?_⟩;obtain⟨U,W⟩:=J (b:=0) m;rw[W]at l;exact t k e c U l
 ·obtain⟨f,h⟩:=J (b:=0) I
  rw[h]at B;exact r.fresh j e b f B
 ·obtain⟨f,h⟩:=S I
  rw[h]at B;exact r.CM j d b y f B g3
end
section
variable{K:rR}{E0 E H0 H:Hp}{σ:St}{γ:Ctx}
theorem RS.freeze(r:RS K E0 E H0 H σ γ)(e:γ[i]? = aI (.own ds)) : ∃L,RS K E0 E L H σ (γ.set i<|.val<|.lst ds):=by
 obtain⟨a,l,f,g,S,U⟩:=r.rc.own i ds e;have W:=r.fresh i ds a e f;obtain⟨L,k,O⟩ : ∃L,L=upd H0 a (.lst l)/\RC K L H σ (γ.set i<|.val<|.lst ds):=by refine⟨_,rfl,?_⟩;exact RC.Hb r.rc e f g S U
 subst k;refine⟨_,O,⟨r.ext.s0.trans<|zN g _,r.ext.s1,O.sub,λc Y B=>?_⟩,λj h b I J=>?_,λj d b m I J g3=>?_⟩
 ·rw[zw (λz=>by rw[z,W]at B;exact B rfl)];exact r.ext.new c Y B
 ·rcases zB I with⟨_,z,_⟩ | ⟨_,z⟩
  ·cases z
  ·exact r.fresh j h b z J
 ·rcases zB I with⟨_,z,_⟩ | ⟨_,z⟩
  ·cases z
  ·exact r.CM j d b m z J g3
open Classical in
end
section
variable{X:Cx}{st:l7}{F:CO Fl}
theorem WW(i:Nat)(h:p8 X st F):p8 X st (ni i F):=xj h λD j H B=>by obtain⟨E0,E,e,g,I,d,z,J⟩:=B;obtain⟨f,b,z⟩:=zb z;obtain⟨a,O⟩:=d.freeze<|qO b;exact⟨E0,E,a,_,I,O,z,J⟩
end
end DL
namespace L2
open PySem PySem.Spec PyProof.Rows
noncomputable def iT(K:rR):V->List V->Hp->VK->Prop:=λx d H Q=>∃z p b,x = .str z/\d=[.ref p]/\l8 K H p (b.map V.str)/\Builtin.Str.tooLong (b.toArray.foldl (λa p=>a+p.length+z.length) 0)=dV/\Q (.str<|Str.join z b) H
theorem wO : ∀{I:List Str} {us:List eI},kA (I.map V.str) us->∃l:List (Str×ro),strValues l=us/\l.map (·.1)=I
 | [],us,r=>by cases r;exact⟨[],rfl,rfl⟩
 | z::I,u::us,.cons r t=>by obtain⟨a,rfl⟩:=r;obtain⟨l,rfl,h⟩:=wO t;exact⟨(z,a)::l,rfl,by simp[h]⟩
theorem aD{X:Cx}:ET X "str.join" (iT X.K):=by intro a s n H x i v g Q I J O h;obtain⟨z,p,m,rfl,rfl,d,B,q⟩:=h;obtain⟨t,rfl⟩:=J;obtain⟨j,rfl,rw⟩:=qC O;cases rw;obtain⟨S,r,f,U⟩:=I.list d;obtain⟨l,rfl,e⟩:=wO r;subst e;refine uR F.slot_str_join (BI _ _ _) F.entry_str_join (F.args_str_join_2 _ _) (meets_str_join_list z t p l B) ⟨f.isList,post_join l ⟨joinFit_length B,λt' k=>?_⟩⟩;refine⟨.str (Str.join z (l.map (·.1))),H,(I.kept (h':=s.heap) (t':=k) λb o e=>e),⟨t',?_⟩,q⟩;show AX (Builtin.Str.glued z (l.map (·.1))) t'=_;rw[StrLaws.glued_eq_join]
end L2
namespace DL
open PySem PySem.Spec PyProof.Rows L2
theorem qD{K:rR}{H:Hp} : ∀{ds:List D} {xs:List V} {l:List Str},g5 K H ds xs->J3 ds=aI l->xs=l.map V.str
 | [],xs,l,r,e=>by cases e;rw[show xs=[]from r];rfl
 | d::ds,xs,l,r,e=>by
  obtain⟨x,I,rfl,z,B⟩:=(show ∃x r,xs=x::r/\Rep K H d x/\g5 K H ds r from r);cases d with
  | str i=>
   obtain⟨J,a,rfl⟩:=zm (show(J3 ds).map (λl=>i::l)=aI l from e);rw[qD B a,show x = .str i from z];rfl
  | _=>cases e
section
variable{X:Cx}{sc:l9}{N L:List Str}{k:Nat}{o e a b:g9}{apos cpos pos p:l0}{f g:CO D}{q:CO (Sk×List D)}
theorem qW(h:zV x=cT):x.length<=1000:=of_decide_eq_true h
theorem vB(h:zV x=cT):x.length<=l4:=sF (qW h) ⋯
theorem kn(J:PV X o f)(Z:PQ X e q)(O:D0 o "join" X.env (hH o X.env)=hH o X.env:=by rfl)
 (S:((pk cpos<|starEach [e] X.env).all (λx=> !x.1) && (DD cpos<|keywordEach [] X.env).all (λx=>x.1.isSome) && decide ([e].length+([]:List CV).length+(if ([]:List CV).isEmpty then 0 else 1)<30))=cT:=by rfl)
 (U:(apos.endLine==cpos.line)=cT:=by rfl) (hs:lp [e] X.env=[(dV,hH e X.env)]:=by rfl):PV X (.Call (.Attribute o "join" apos) [e] [] cpos) (ZY f q):=
 z6 (YL Bc PySem.F.slot_str_join PySem.F.type_str_join aD J (zK Z jc hs) O S U hs rfl) λσ H Q W=>by
  obtain⟨i,h,d,rc,z,Y⟩:=W;obtain⟨m,p,z⟩:=zb z;obtain⟨⟨E,n⟩,s,z⟩:=zb z;cases m with
  | str I=>
   cases E with
   | L=>
    obtain⟨l,t,z⟩:=zb z;by_cases b:l.length<=lim/\l.all zV=cT/\zV I=cT
    ·rw[GK b]at z;cases z
     refine⟨i,h,_,rc,p,λv M g x r=>?_⟩;rw[show v = .str I from r];refine⟨rfl,g,h,.L,n,rc.ext x,s,λa R j k K w N G=>?_⟩;have u:=qD G t;subst u;refine⟨I,a,l,rfl,rfl,w,StrLaws.joinFits (B:=1000) (λy C=>qW<|uy.mp b.2.1 y C) ?_,Y _ j k (x.trans K) rfl⟩;have P:=b.1;have:lim=2500:=rfl;have A:=qW b.2.2;have:l.length*I.length<=2500*1000:=Nat.mul_le_mul ⋯ A;omega
    ·rw[GX b]at z;cases z
   | T=>cases z
  | _=>cases z
end
section
variable{X:Cx}{sc:l9}{N L:List Str}{k:Nat}{b:g9}{f:CO D}
theorem dc(h:SX X sc N L k)(c:j3 sc "min" = cT)(z:X.mg "min" = cI)(Z:PV X a f)(hb:PV X b g)(hs:lp [a,b] X.env=[(dV,hH a X.env),(dV,hH b X.env)]:=by rfl)(I:lp [b] X.env=[(dV,hH b X.env)]:=by rfl) :
 PV X (.Call (.Name "min" p) [a,b] [] pos) (cL f g):=
 z6 (xR (KG h.calm) (h.gl c).1 z PyProof.Rows.boot_min (zK Z (zK hb jc I)<|by rw[hs,I]) ⋯ ⋯ (by rw[hs,I]) (by rw[I];rfl)) λA H Q S=>by obtain⟨n,m,d,rc,B,q⟩:=S;obtain⟨i,l,B⟩:=zb B;obtain⟨U,W,l⟩:=zb l;obtain⟨j,J,B⟩:=zm B;obtain⟨Y,t,J⟩:=zb J;subst B;refine⟨n,m,U,rc,W,λv w e x r=>⟨e,m,Y,rc.ext x,t,λy o s u O=>⟨i,j,?_,q _ o s (x.trans u) rfl⟩⟩⟩;rw[z7 l]at r;rw[z7 J]at O;rw[zX r,zX O]
end
end DL
namespace DL
open PySem PySem.Spec PySem.Calls PyProof.Rows PySem.W
noncomputable def nM(C:eH)(dd:Option eH)(a0:eH):n7:=⟨.ref C,dd,.fields #[.ref a0,.none,.none,.none,.bool dV,.none],#[]⟩
end DL
namespace DL
open PySem PySem.Spec PySem.Calls PyProof.Rows
def y8(e d:eH)(h:il):Prop:=∃o,h.get? e=aI o/\o.dict=aI d
noncomputable def Vu(e:eH)(h:il):Prop:=∃o a,h.get? e=aI o/\o.data = .fields a/\a[2]? = aI sR
inductive DS{α:Type}:oD α->Prop
 | pure (a:α):DS (.pure a)
 | raise (e:eI):DS (.raise e)
 | Cz (w:String):DS (.unsupported w)
 | rule {t:String} {k:Unit->oD α} (h : ∀u,DS<|k u):DS (.rule t k)
 | at {p:l0} {k:Unit->oD α} (h : ∀u,DS<|k u):DS (.at p k)
 | load {a:eH} {p:Option eI} {k:n7->oD α} (h : ∀o,DS<|k o):DS (.load a p k)
 | update {a:eH} {p:Option eI} {f:n7->n7} {k:Unit->oD α} (hf : ∀o,(f o).dict=o.dict/\(o.isFreed=dV->(f o).isFreed=dV)/\∀vs,o.data = .fields vs->∃FN,(f o).data = .fields FN/\FN[2]? = vs[2]?) (h : ∀u,DS<|k u):DS (.update a p f k)
 | alloc {o:n7} {k:eH->oD α} (h : ∀a,DS<|k a):DS (.alloc o k)
 | register {a:eH} {k:Unit->oD α}:DS (.register a k)
 | fresh {k:ro->oD α} (h : ∀a,DS<|k a):DS (.fresh k)
 | ask {k:Setting->oD α} (h : ∀a,DS<|k a):DS (.ask k)
 | stack {k:List (Code×l0)->oD α} (h : ∀a,DS<|k a):DS (.stack k)
 | handled {b:Bool} {k:Option eI->oD α} (h : ∀a,DS<|k a):DS (.handled b k)
 | point {l:List eI} {k:Unit->oD α} (h : ∀a,DS<|k a):DS (.point l k)
theorem ig{L:Type}{M:Dn}{Γ:PySem.Ctx}{e d:eH}{t:oD L}(h:DS t) : ∀{Q:L->l0->g8->Prop} {E:eI->l0->g8->Prop} {p:l0} {s:g8},y8 e d s.heap->ux M Γ t Q E p s->
 ux M Γ t (λa J s'=>Q a J s'/\y8 e d s'.heap) (λx J s'=>E x J s'/\y8 e d s'.heap) p s:=by
 induction h with
 | pure a=>intro Q E p s b w;rw[ux]at w ⊢;exact⟨w,b⟩
 | raise x=>intro Q E p s b w;rw[ux]at w ⊢;exact⟨w,b⟩
 | Cz x=>intro Q E p s b w;rw[ux]at w;exact w.elim
 | rule h z=>intro Q E p s b w;rw[ux]at w ⊢;exact z _ b w
 | «at» h z=>intro Q E p s b w;rw[ux]at w ⊢;exact z _ b w
 | load h z=>intro Q E p s b w;rw[ux]at w ⊢;obtain⟨o,B,w⟩:=w;exact⟨o,B,z _ b w⟩
 | @update a p f k g h z=>
  intro Q E p s b w;rw[ux]at w ⊢;obtain⟨i,w⟩:=w;refine⟨i,z _ ?_ w⟩;obtain⟨o,B,I⟩:=b;by_cases q:a=e
  ·subst q
   exact⟨f o,uU _ B<|(g o).2.1 (Heap.get?_some_iff.mp B).2,by rw[(g o).1];exact I⟩
  ·exact⟨o,(sN _ _ q).trans B,I⟩
 | alloc h z=>intro Q E p s b w;rw[ux]at w ⊢;obtain⟨o,B,I⟩:=b;exact z _ ⟨o,rT _ B,I⟩ w
 | register=>intro Q E p s b w;rw[ux]at w;exact w.elim
 | fresh h z=>intro Q E p s b w;rw[ux]at w ⊢;exact z _ b w
 | ask h z=>intro Q E p s b w;rw[ux]at w ⊢;exact z _ b w
 | stack h z=>intro Q E p s b w;rw[ux]at w ⊢;exact z _ b w
 | handled h z=>intro Q E p s b w;rw[ux]at w ⊢;exact z _ b w
 | point h z=>intro Q E p s b w;rw[ux]at w ⊢;exact z _ b w
theorem bR{L:Type}{M:Dn}{Γ:PySem.Ctx}{e:eH}{t:oD L}(h:DS t) : ∀{Q:L->l0->g8->Prop} {E:eI->l0->g8->Prop} {p:l0} {s:g8},Vu e s.heap->ux M Γ t Q E p s->
 ux M Γ t (λa J s'=>Q a J s'/\Vu e s'.heap) (λx J s'=>E x J s'/\Vu e s'.heap) p s:=by
 induction h with
 | pure a=>intro Q E p s b w;rw[ux]at w ⊢;exact⟨w,b⟩
 | raise x=>intro Q E p s b w;rw[ux]at w ⊢;exact⟨w,b⟩
 | Cz x=>intro Q E p s b w;rw[ux]at w;exact w.elim
 | rule h z=>intro Q E p s b w;rw[ux]at w ⊢;exact z _ b w
 | «at» h z=>intro Q E p s b w;rw[ux]at w ⊢;exact z _ b w
 | load h z=>intro Q E p s b w;rw[ux]at w ⊢;obtain⟨o,B,w⟩:=w;exact⟨o,B,z _ b w⟩
 | @update a p f k j h z=>
  intro Q E p s b w;rw[ux]at w ⊢;obtain⟨l,w⟩:=w;refine⟨l,z _ ?_ w⟩;obtain⟨o,d,B,I,i⟩:=b;by_cases q:a=e
  ·subst q
   obtain⟨g,m,n⟩:=(j o).2.2 d I;exact⟨f o,g,uU _ B<|(j o).2.1 (Heap.get?_some_iff.mp B).2,m,n.trans i⟩
  ·exact⟨o,d,(sN _ _ q).trans B,I,i⟩
 | alloc h z=>intro Q E p s b w;rw[ux]at w ⊢;obtain⟨o,d,B,I⟩:=b;exact z _ ⟨o,d,rT _ B,I⟩ w
 | register=>intro Q E p s b w;rw[ux]at w;exact w.elim
 | fresh h z=>intro Q E p s b w;rw[ux]at w ⊢;exact z _ b w
 | ask h z=>intro Q E p s b w;rw[ux]at w ⊢;exact z _ b w
 | stack h z=>intro Q E p s b w;rw[ux]at w ⊢;exact z _ b w
 | handled h z=>intro Q E p s b w;rw[ux]at w ⊢;exact z _ b w
 | point h z=>intro Q E p s b w;rw[ux]at w ⊢;exact z _ b w
theorem Yb{I:Type}{M:Dn}{A:m7}{e d:eH}{t:oD I}{Q:I->g8->Prop}{E:GQ}{s:g8}(h:DS t)(J:y8 e d s.heap)(w:wpAny M A t Q E s) :
 wpAny M A t (λa s'=>Q a s'/\y8 e d s'.heap) (λx s'=>E x s'/\y8 e d s'.heap) s:=λΓ p z=>ig h J<|w Γ p z
theorem wN{I:Type}{M:Dn}{A:m7}{e:eH}{t:oD I}{Q:I->g8->Prop}{E:GQ}{s:g8}(h:DS t)(J:Vu e s.heap)(w:wpAny M A t Q E s) :
 wpAny M A t (λa s'=>Q a s'/\Vu e s'.heap) (λx s'=>E x s'/\Vu e s'.heap) s:=λΓ p z=>bR h J<|w Γ p z
theorem DS.bind{I β:Type}{t:oD I}{k:I->oD β}(h:DS t)(B : ∀a,DS<|k a):DS (t >>= k):=by
 show DS (Sem.bind t k)
 induction h with
 | pure a=>exact B a
 | raise x=>exact .raise x
 | Cz x=>exact .Cz x
 | rule h z=>exact .rule z
 | «at» h z=>exact .at z
 | load h z=>exact .load z
 | update b h z=>exact .update b z
 | alloc h z=>exact .alloc z
 | register=>exact .register
 | fresh h z=>exact .fresh z
 | ask h z=>exact .ask z
 | stack h z=>exact .stack z
 | handled h z=>exact .handled z
 | point h z=>exact .point z
theorem yD(g:Array eI->Array eI)(z : ∀vs,(g vs)[2]? = vs[2]?)(o:n7):(Obj.mapFields g o).dict=o.dict/\(o.isFreed=dV->(Obj.mapFields g o).isFreed=dV)/\∀vs,o.data = .fields vs->∃I,(Obj.mapFields g o).data = .fields I/\I[2]? = vs[2]? :=by obtain⟨c,d,B,a⟩:=o;cases B<;>first | exact⟨rfl,λh=>h,λvs q=>by cases q;exact⟨_,rfl,z _⟩⟩ | exact⟨rfl,λh=>h,λvs q=>nomatch q⟩
theorem ya(v:eI)(i:Nat):DS (field v i):=by
 unfold field fieldsOf load
 repeat (first | exact DS.Cz _ | exact DS.pure _ | exact DS.raise _ | exact DS.register | refine DS.bind ?_ λ_=>?_ | refine DS.load λ_=>?_ | refine DS.rule λ_=>?_ | refine DS.alloc λ_=>?_ | refine DS.stack λ_=>?_ | refine DS.update (λo=>⟨rfl,λh=>h,λa q=>⟨a,q,rfl⟩⟩) λ_=>?_ | refine DS.update (yD _<|by intro a;simp[um,Fw]) λ_=>?_ | split)
theorem xy(v:eI)(i:Nat)(x:eI)(z:i≠2:=by decide):DS (EI v i x):=by
 unfold EI updateField update load
 repeat (first | exact DS.Cz _ | exact DS.pure _ | exact DS.raise _ | exact DS.register | refine DS.bind ?_ λ_=>?_ | refine DS.load λ_=>?_ | refine DS.rule λ_=>?_ | refine DS.alloc λ_=>?_ | refine DS.stack λ_=>?_ | refine DS.update (λo=>⟨rfl,λh=>h,λa q=>⟨a,q,rfl⟩⟩) λ_=>?_ | refine DS.update (yD _<|by intro a;simp[um,z]) λ_=>?_ | split)
theorem qM(e:eI)(f:Option eH):DS (Fd e f):=by
 unfold Fd;refine DS.bind (ya _ _) λ_=>?_;split
 ·exact xy _ _ _
 ·exact DS.pure _
theorem fu(ty:String)(vs:List eI):DS (newFields ty vs):=by
 unfold newFields newObj newObjAsIs
 repeat (first | exact DS.Cz _ | exact DS.pure _ | exact DS.raise _ | exact DS.register | refine DS.bind ?_ λ_=>?_ | refine DS.load λ_=>?_ | refine DS.rule λ_=>?_ | refine DS.alloc λ_=>?_ | refine DS.stack λ_=>?_ | refine DS.update (λo=>⟨rfl,λh=>h,λvs q=>⟨vs,q,rfl⟩⟩) λ_=>?_ | refine DS.update (yD _<|by intro vs;simp[um,Fw]) λ_=>?_ | split)
theorem Vk(f:eH)(b:Bool):DS (F7 f b):=by
 unfold F7 stack
 repeat (first | exact DS.Cz _ | exact DS.pure _ | exact DS.raise _ | exact DS.register | refine DS.bind ?_ λ_=>?_ | refine DS.load λ_=>?_ | refine DS.rule λ_=>?_ | refine DS.alloc λ_=>?_ | refine DS.stack λ_=>?_ | refine DS.update (λo=>⟨rfl,λh=>h,λa q=>⟨a,q,rfl⟩⟩) λ_=>?_ | refine DS.update (yD _<|by intro a;simp[um,Fw]) λ_=>?_ | split)
theorem Kt:DS Hx:=by
 unfold Hx
 repeat (first | exact DS.Cz _ | exact DS.pure _ | exact DS.raise _ | exact DS.register | refine DS.bind ?_ λ_=>?_ | refine DS.load λ_=>?_ | refine DS.rule λ_=>?_ | refine DS.alloc λ_=>?_ | refine DS.stack λ_=>?_ | refine DS.update (λo=>⟨rfl,λh=>h,λa q=>⟨a,q,rfl⟩⟩) λ_=>?_ | refine DS.update (yD _<|by intro a;simp[um,Fw]) λ_=>?_ | split)
theorem Ku(env:m9)(outer:List m9):DS (behindIsImport env outer):=by
 unfold behindIsImport;split
 ·exact DS.pure _
 ·split
  ·exact DS.pure _
  ·exact DS.bind (ya _ _) λ_=>DS.pure _
theorem aR(env:m9)(b:Bool)(outer:List m9):DS (keptBack env b outer):=by
 unfold keptBack;split
 ·split
  ·exact DS.pure _
  ·exact DS.bind Kt λ_=>DS.pure _
 ·exact DS.pure _
theorem JT : ∀l:List m9,DS (readyFrames l)
 | []=>DS.pure _
 | env::outer=>by
  unfold readyFrames;split
  ·unfold load update
   refine DS.bind (DS.load λ_=>DS.pure _) λo=>?_;split
   ·exact DS.pure _
   ·refine DS.bind (Ku _ _) λ_=>DS.bind (aR _ _ _) λ_=>DS.bind (DS.update (λo=>⟨rfl,λh=>by obtain⟨c,d,z,a⟩:=o;cases z<;>exact h,λb q=>⟨b,by obtain⟨c,d,z,a⟩:=o;cases q;rfl,rfl⟩⟩) λ_=>DS.pure _) λ_=>JT outer
  ·exact DS.Cz _
theorem Vl(env:m9):DS (PySem.frameOf env):=by
 unfold PySem.frameOf frameEnvs stack;refine DS.bind (DS.bind (DS.stack λ_=>DS.pure _) λ_=>DS.pure _) λl=>DS.bind ?_ λ_=>?_
 ·unfold frameObject
  split
  ·exact DS.pure _
  ·exact DS.bind (JT _) λ_=>DS.pure _
 ·split
  ·exact DS.pure _
  ·exact DS.Cz _
theorem Ks(e:eI)(env:m9):DS (E6 e env):=by
 unfold E6;split
 ·refine DS.bind (ya _ _) λa=>?_
  have z : ∀f:eH,∀b:Bool,DS (do EI e 1 (<- EntryCells.newEntry a (<- PySem.frameOf env) .none (Dv f) .none (<- F7 f b))):=λf b=>by refine DS.bind (Vl _) λ_=>DS.bind (Vk _ _) λ_=>?_;unfold EntryCells.newEntry;exact DS.bind (fu _ _) λ_=>xy _ _ _
  split
  ·refine DS.bind (ya _ _) λ_=>?_
   split
   ·exact DS.pure _
   ·exact DS.bind (xy _ _ _) λ_=>z _ _
  ·exact z _ _
 ·exact DS.Cz _
theorem kC(env:m9)(e:eI):DS (DQ env e):=by unfold DQ;exact DS.bind (Ks _ _) λ_=>qM _ _
noncomputable def r6(od:Option eH)(e:eH)(h:il):Prop:=(∀d,od=aI d->y8 e d h)/\(od=cI->Vu e h)
theorem r6.obj{od:Option eH}{e:eH}{B I:il}(x:r6 od e B)(k : ∀o,B.get? e=aI o->I.get? e=aI o):r6 od e I:=
 ⟨λd q=>by obtain⟨o,z,r⟩:=x.1 d q;exact⟨o,k o z,r⟩,λq=>by obtain⟨o,a,z,r⟩:=x.2 q;exact⟨o,a,k o z,r⟩⟩
theorem qB{J:Type}{M:Dn}{A:m7}{e:eH}{od:Option eH}{t:oD J}{Q:J->g8->Prop}{E:GQ}{s:g8}(h:DS t)(I:r6 od e s.heap)(w:wpAny M A t Q E s) :
 wpAny M A t (λa s'=>Q a s'/\r6 od e s'.heap) E s:=by
 cases od with
 | none=>exact sC (wN h (I.2 rfl) w) (λa s' z=>⟨z.1,(λd q=>nomatch q),λ_=>z.2⟩) λ_ _ z=>z.1
 | some d=>exact sC (Yb h (I.1 d rfl) w) (λa s' z=>⟨z.1,(λb q=>by cases q;exact z.2),λq=>nomatch q⟩) λ_ _ z=>z.1
section
variable{M:Dn}{A:m7}{E:GQ}{s:g8}{base:il}{env:m9}{l outer:List m9}{L e:eH}{cls a0:eI}{od:Option eH}{Q:Unit->g8->Prop}
theorem eJ(B:A.frames=aI (env::outer))(S:env.frame=aI L)(I:uA base (env::outer) e cls a0 s.heap)(O:r6 od e s.heap)
 (J : ∀h',Heap.HeldW base (env::outer) e cls a0 L h'->s.heap.UpToSlots h'->r6 od e h'->Q () {s with heap:=h'}):wpAny M A (E6 (.ref e) env) Q E s:=by
 refine sC (qB (Ks _ _) O<|wpAny_looks_onW (Q:=λ_ a=>∃h',a = {s with heap:=h'}/\Heap.HeldW base (env::outer) e cls a0 L h'/\s.heap.UpToSlots h') B S I λh' x y=>⟨h',rfl,x,y⟩) (λ_ a z=>?_) λ_ _ z=>z;obtain⟨⟨h',rfl,x,y⟩,w⟩:=z;exact J h' x y w
theorem eK(B:Heap.HeldW base l e cls a0 L s.heap)(J:r6 od e s.heap)(I : ∀h',uA base l e cls a0 h'->s.heap.UpToSlots h'->r6 od e h'->Q () {s with heap:=h'}):wpAny M A (Fd (.ref e) cI) Q E s:=by refine sC (qB (qM _ _) J<|wpAny_landsW (Q:=λ_ a=>∃h',a = {s with heap:=h'}/\uA base l e cls a0 h'/\s.heap.UpToSlots h') B λh' x y=>⟨h',rfl,x,y⟩) (λ_ a z=>?_) λ_ _ z=>z;obtain⟨⟨h',rfl,x,y⟩,w⟩:=z;exact I h' x y w
theorem fN(B:uA base l e cls a0 s.heap)(J:r6 od e s.heap)(I : ∀h',uA base l e cls a0 h'->s.heap.UpToSlots h'->r6 od e h'->Q () {s with heap:=h'}):wpAny M A (Fd (.ref e) cI) Q E s:=by refine sC (qB (qM _ _) J<|lands_againW (Q:=λ_ a=>∃h',a = {s with heap:=h'}/\uA base l e cls a0 h'/\s.heap.UpToSlots h') B λh' x y=>⟨h',rfl,x,y⟩) (λ_ a z=>?_) λ_ _ z=>z;obtain⟨⟨h',rfl,x,y⟩,w⟩:=z;exact I h' x y w
theorem aE(B:A.frames=aI (env::outer))(S:env.frame=aI L)(I:uA base (env::outer) e cls a0 s.heap)(O:r6 od e s.heap)
 (J : ∀h',uA base outer e cls a0 h'->s.heap.UpToSlots h'->r6 od e h'->Q () {s with heap:=h'}):wpAny M A (DQ env<|.ref e) Q E s:=by
 refine sC (qB (kC _ _) O<|wpAny_leaves_onW (Q:=λ_ a=>∃h',a = {s with heap:=h'}/\uA base outer e cls a0 h'/\s.heap.UpToSlots h') B S I λh' x y=>⟨h',rfl,x,y⟩) (λ_ a z=>?_) λ_ _ z=>z;obtain⟨⟨h',rfl,x,y⟩,w⟩:=z;exact J h' x y w
theorem fj{B:n7}{vs:Array eI}(I:A.frames=aI (env::outer))(J:s.heap.FunFrames base (env::outer))(hf:env.frame=aI L)(he:s.heap.get? e=aI B)(O:base.StaysIn s.heap)(S:base.get? e=cI)(U:B.data = .fields vs)
 (Z:vs[1]? = aI .none) (Y:vs[0]? = aI a0) (hd:r6 od e s.heap) (W : ∀h',Heap.LeftW base (env::outer) e B.cls a0 s.heap h'->r6 od e h'->Q () {s with heap:=h'}):wpAny M A (DQ env<|.ref e) Q E s:=by
 refine sC (qB (kC _ _) hd<|wpAny_leaving_firstW (Q:=λ_ a=>∃h',a = {s with heap:=h'}/\Heap.LeftW base (env::outer) e B.cls a0 s.heap h') I J hf he O S U Z Y λh' x=>⟨h',rfl,x⟩) (λ_ a z=>?_) λ_ _ z=>z;obtain⟨⟨h',rfl,x⟩,w⟩:=z;exact W h' x w
end
end DL
namespace DL
open PySem PySem.Spec PyProof.Rows L2
theorem xS{P:m3}{w:l6}{H:Hp}{h:il}{a:eH}{o:HO}(x:m8 P w H h a o) : ∃z,h.get? a=aI z:=by
 induction o with
 | lst d=>obtain⟨_,_,_,_,e⟩:=x;exact⟨_,e⟩
 | tup d=>obtain⟨_,_,_,z,e,_⟩:=x;exact⟨_,e⟩
 | dK b=>obtain⟨_,_,_,_,o,_,_,e,_⟩:=x;exact⟨_,e⟩
 | dT b=>obtain⟨_,_,_,_,o,_,_,e,_⟩:=x;exact⟨_,e⟩
 | set S n=>obtain⟨o,_,_,_,e,_⟩:=x;exact⟨_,e⟩
 | ins C g fs=>obtain⟨_,_,_,e,_⟩:=x;exact⟨_,e⟩
 | own y=>obtain⟨_,e⟩:=x;exact⟨_,e⟩
 | xd fs=>obtain⟨_,⟨_,_,_,e,_⟩,_⟩:=x;exact⟨_,e⟩
 | Fc lo i=>obtain⟨_,_,_,e⟩:=x;exact⟨_,e⟩
 | t8 z u _=>obtain⟨e,_⟩:=x;exact⟨_,e⟩
 | Dw j=>exact⟨_,(show h.get? a=aI _ from x)⟩
 | met f y=>exact⟨_,(show h.get? a=aI _ from x)⟩
 | ext k=>obtain⟨_,⟨_,e⟩,_⟩:=x;exact⟨_,e⟩
theorem qv{P:m3}{w:l6}{H:Hp}{h h':il}(x:n0 P w H h)(k : ∀b u,H b≠cI->h.get? b=aI u->h'.get? b=aI u):n0 P w H h':=λa o e=>
 (x a o e).Cw (λb u hb q=>k b u (by
   rcases hb with rfl | hb
   ·rw[e];simp
   ·rw[hb];simp) q) (λ_ q=>q) λ_ _ q=>q
theorem aK{P:m3}{w:l6}{H:Hp}{h:il}{a:eH}{J:il->Prop}(x:n0 P w H h)(L:H a=cI)(O:J h)(S : ∃o,h.get? a=aI o)
 (I : ∀z B:il,J z->(∀o,z.get? a=aI o->B.get? a=aI o)->J B):n0 P w (upd H a<|.ext J) h:=λb o e=>by
 by_cases d:b=a
 ·subst d;rw[zr]at e;cases e;exact⟨O,S,I⟩
 ·rw[zw d]at e
  exact(x b o e).Cw (λ_ _ _ q=>q) (λc q=>by rw[zw (zS q L)];exact q) λc f q=>by rw[zw (zS q L)];exact q
structure GB(l:List m9)(a C:eH)(H':Hp)(h0 h:il):Prop where
 ex : ∃B t,uA B l a (.ref C) (.ref t) h/\(∀b o,h.get? b=aI o->H' b≠cI->B.get? b=aI o)/\∀b o,h.get? b=aI o->h0.get? b≠cI->b∉o1 l->B.get? b=aI o
noncomputable def o8(P:m3)(w:l6):B1:=λb H s E e d=>∃a C f g,e = .ref a/\E (.ref C) g f/\r6 g a d.heap/\d.os=s.os/\CT d.gens/\Un (o1 b) [] H f s.heap d.heap/\n0 P w f d.heap/\f a=cI/\s.heap.get? a=cI/\GB b a C f s.heap d.heap
section
variable{P:m3}{w:l6}{K:rR}{mg:GV}{base:il}{N:List Str}{qual:Str}{scope:l9}{f:eH}{cd:eI}{A:m7}{outer:List m9}{s:g8}{H:Hp}{E:XK}
theorem Qt{pins:GW}{σ:St}{Z:Hp}{L:g8}{h':il}{a C:eH}{vs:List eI}(I:Inv (vU (o8 P w) P w K mg base N qual scope f cd A outer s H E) pins σ Z L)
 (hx:Heap.MadeExcOf L.heap h' a (.ref C) vs) (hE:E (.ref C) cI Z):(vU (o8 P w) P w K mg base N qual scope f cd A outer s H E).xe (.ref a) {L with heap:=h'}:=by
 generalize B:vU (o8 P w) P w K mg base N qual scope f cd A outer s H E=X at I;have x:X.stack=X.env::X.outer:=by rw[<- B];rfl
 have am:X.env.frame=aI X.env.locals:=by rw[<- B];rfl
 have S:X.ex=[]:=by rw[<- B];rfl
 have an:=I.stack;have Di:=I.Ec;have ap : ∀env∈X.stack,∀b,env.frame=aI b->b∈o1 X.stack:=λenv he b g=>AQ.mpr ⟨env,he,g⟩;have l : ∀b o,X.m5.heap.get? b=aI o->∃i,L.heap.get? b=aI i:=λb o q=>I.base.there b o q (by rw[S];simp);have as : ∀b o,X.m5.heap.get? b=aI o->b≠X.env.locals:=λb o q=>sr<|si (sg q) I.ok.above;have a2 : ∀b o,X.m5.heap.get? b=aI o->b∉X.fs->b∉o1 X.stack:=λb o q n j=>by
  rcases sd.mp (I.Ed b j)with z | z
  ·exact as b o q z
  ·exact n z
 have F:wpAny (hR P w) X.A (DQ X.env<|.ref a) (λ_ J=>o8 P w outer H s E (.ref a) J) (λm J=>o8 P w outer H s E m J) {L with heap:=h'}:=by
  have f2:Vu a h':=by obtain⟨t,q,_⟩:=hx.there;exact⟨_,_,q,rfl,rfl⟩
  refine sC (wN (e:=a) (s:={L with heap:=h'}) (kC X.env<|.ref a) f2 (Q:=λ_ J=>Vu a J.heap->o8 P w outer H s E (.ref a) J) (E:=λm J=>o8 P w outer H s E m J) ?_) (λ_ _ z=>z.1 z.2) λ_ _ z=>z.1;refine wpAny_leaves_madeW (base:=AD L.heap<|o1 X.stack) (h:=L.heap) (env:=X.env) (outer:=X.outer) (by rw[<- x];exact I.ok.frames) am (λb o q=>Bv _ q)
   (by rw[<- x];exact PySem.W.funFrames_hide an ap) hx λb0 t R x2 x3 T b1=>?_
  have O : ∀b o,L.heap.get? b=aI o->b∉o1 X.stack->b0.get? b=aI o:=λb o q n=>R.1 b o<|Ab _ q n;have e1:X.outer=outer:=by rw[<- B];rfl
  have e2:X.Dl=H:=by rw[<- B];rfl
  have e3:X.m5=s:=by rw[<- B];rfl
  have e4:X.prog=P:=by rw[<- B];rfl
  have e5:X.w=w:=by rw[<- B];rfl
  have M : ∀b u,Z b=aI u->∃o,L.heap.get? b=aI o:=λb u q=>xS<|I.iv b u q;have a8 : ∀b u,Z b=aI u->b∉o1 X.stack:=λb u q j=>by rw[Di b j]at q;cases q
  have b5:Z a=cI:=by
   cases q:Z a with
   | none=>rfl
   | some u=>obtain⟨o,z⟩:=M a u q;rw[hx.new]at z;cases z
  have b6:X.m5.heap.get? a=cI:=by
   cases q:X.m5.heap.get? a with
   | none=>rfl
   | some o=>obtain⟨i,z⟩:=l a o q;rw[hx.new]at z;cases z
  rw[<- e3]at *;rw[<- e2]at *;subst e1;refine⟨a,C,Z,cI,rfl,hE,⟨(λd q=>nomatch q),λ_=>b1⟩,?_,I.bare,⟨λb o q n g _=>?_,λb o q n g _=>?_,λb o q n _=>?_,λb o q _=>?_,I.base.A8,I.base.wh,I.base.A6⟩,?_,b5,b6,⟨_,t,R,λb o q n=>?_,λb o q n g=>?_⟩⟩
  ·exact I.os
  ·exact O b o (I.base.keep b o q n g<|by rw[S];simp)<|a2 b o q g
  ·obtain⟨sl,z⟩:=I.base.slot b o q n g (by rw[S];simp)
   have U : ∀vs,o.data ≠ .fields vs:=by obtain⟨_,i,k,r⟩:=I.ok.t5.mem g;rw[q]at k;cases k;exact r
   obtain⟨y,p⟩:=T b _ (hx.keeps b _ z) U;exact⟨y,p⟩
  ·exact I.base.free b o q n (by rw[S];simp)
  ·obtain⟨i,z⟩:=l b o q
   by_cases g:b∈X.fs
   ·obtain⟨_,Y,k,r⟩:=I.t5.mem g
    obtain⟨y,p⟩:=T b _ (hx.keeps b _ k) r;exact⟨_,p⟩
   ·exact⟨i,O b i z<|a2 b o q g⟩
  ·rw[<- e4,<- e5]
   exact qv I.iv λb u n q=>O b u q λj=>n<|Di b j
  ·cases q1:Z b with
   | none=>exact absurd q1 n
   | some u=>
    obtain⟨Y,z⟩:=M b u q1;have:=O b Y z<|a8 b u q1;rw[q]at this;cases this;exact Ab _ z<|a8 b u q1
  ·cases q1:X.m5.heap.get? b with
   | none=>exact absurd q1 n
   | some G=>
    obtain⟨Y,z⟩:=l b G q1;have U:=a2 b G q1 g;have:=O b Y z U;rw[q]at this;cases this;exact Ab _ z U
 rw[<- B]at F ⊢;exact F
theorem Jh{L:GW}{σ:St}{H1:Hp}{Z s':g8}{e:eI}{E':XK}(I:Inv (vU (o8 P w) P w K mg base N qual scope f cd A outer s H E) L σ H1 Z)
 (hx:o8 P w (vU (o8 P w) P w K mg base N qual scope f cd A outer s H E).stack H1 Z E' e s') (hE : ∀c o H',E' c o H'->E c o H'):(vU (o8 P w) P w K mg base N qual scope f cd A outer s H E).xe e s':=by
 generalize S:vU (o8 P w) P w K mg base N qual scope f cd A outer s H E=X at I hx;have p:X.stack=X.env::X.outer:=by rw[<- S];rfl
 have R:X.env.frame=aI X.env.locals:=by rw[<- S];rfl
 have J:X.ex=[]:=by rw[<- S];rfl
 have Di:=I.Ec;have Y : ∀b o,X.m5.heap.get? b=aI o->∃i,Z.heap.get? b=aI i:=λb o q=>I.base.there b o q (by rw[J];simp);have T : ∀b o,X.m5.heap.get? b=aI o->b≠X.env.locals:=λb o q=>sr<|si (sg q) I.ok.above;have a1 : ∀b o,X.m5.heap.get? b=aI o->b∉X.fs->b∉o1 X.stack:=λb o q n hm=>by
  rcases sd.mp (I.Ed b hm)with z | z
  ·exact T b o q z
  ·exact n z
 obtain⟨a,C,H',od,rfl,hC,ax,b0,b1,un,iv,b2,b3,⟨B,t,r,a8,a3⟩⟩:=hx;have x:wpAny (hR P w) X.A (DQ X.env<|.ref a) (λ_ l=>o8 P w outer H s E (.ref a) l) (λe' l=>o8 P w outer H s E e' l) s':=by
  rw[p]at r;refine aE (by rw[<- p];exact I.ok.frames) R r ax λb5 F G b6=>?_;have st : ∀b o,B.get? b=aI o->b5.get? b=aI o:=λb o q=>F.1 b o q;have e1:X.outer=outer:=by rw[<- S];rfl
  have e2:X.Dl=H:=by rw[<- S];rfl
  have e3:X.m5=s:=by rw[<- S];rfl
  have tr : ∀b u,H' b=aI u->∃o,s'.heap.get? b=aI o:=λb u q=>xS<|iv b u q;have b9:X.m5.heap.get? a=cI:=by
   cases q:X.m5.heap.get? a with
   | none=>rfl
   | some o=>obtain⟨i,z⟩:=Y a o q;rw[b3]at z;cases z
  rw[<- e3]at *;rw[<- e2]at *;subst e1;refine⟨a,C,H',od,rfl,hE _ _ _ hC,b6,?_,b1,⟨λb o q n d _=>?_,λb o q n d _=>?_,λb o q n _=>?_,λb o q _=>?_,λb M q=>un.A8 b M<|I.base.A8 b M q,λb o u q=>un.wh b o u<|I.base.wh b o u q,λb ps q=>?_⟩,?_,b2,b9,⟨B,t,F,λb o q n=>?_,λb o q n d=>?_⟩⟩
  ·exact b0.trans I.os
  ·have h:=I.base.keep b o q n d (by rw[J];simp)
   have k2:=un.keep b o h (I.base.free b o q n<|by rw[J];simp) (a1 b o q d) ⋯;exact st b o<|a3 b o k2 (by rw[h];simp)<|a1 b o q d
  ·obtain⟨sl,z⟩:=I.base.slot b o q n d (by rw[J];simp)
   have m : ∀vs,o.data ≠ .fields vs:=by obtain⟨_,i,j,g⟩:=I.ok.t5.mem d;rw[q]at j;cases j;exact g
   obtain⟨bb,g⟩:=un.any z (I.base.free b o q n<|by rw[J];simp) ⋯;obtain⟨bd,z'⟩:=G b _ g m;exact⟨bd,z'⟩
  ·obtain⟨O,h⟩:=Y b o q
   exact un.free b O h (I.base.free b o q n<|by rw[J];simp) ⋯
  ·obtain⟨O,z⟩:=Y b o q
   obtain⟨W,g⟩:=un.there b O z ⋯;by_cases d:b∈X.fs
   ·obtain⟨_,i,Q,y2⟩:=I.ok.t5.mem d
    rw[q]at Q;cases Q;obtain⟨sl,U⟩:=I.base.any q (I.ok.Cs b d) (by rw[J];simp);obtain⟨bb,k⟩:=un.any U (I.base.free b o q (I.ok.Cs b d)<|by rw[J];simp) ⋯;obtain⟨bn,z5⟩:=G b _ k y2;exact⟨_,z5⟩
   ·exact⟨W,st b W<|a3 b W g (by rw[z];simp)<|a1 b o q d⟩
  ·obtain⟨m1,j⟩:=I.base.A6 b ps q
   obtain⟨m2,g⟩:=un.A6 b _ j;exact⟨m1++m2,by rw[g,Array.append_assoc]⟩
  ·exact qv iv λb u n q=>st b u<|a8 b u q n
  ·cases q1:H' b with
   | none=>exact absurd q1 n
   | some u=>
    obtain⟨O,z⟩:=tr b u q1;have g:=a8 b O z (by rw[q1];simp);have U:=st b O g;rw[q]at U;cases U;exact g
  ·cases q1:X.m5.heap.get? b with
   | none=>exact absurd q1 n
   | some y=>
    obtain⟨O,z⟩:=Y b y q1;obtain⟨W,g⟩:=un.there b O z ⋯;have m:=a1 b y q1 d;have U:=a3 b W g (by rw[z];simp) m;have k:=st b W U;rw[q]at k;cases k;exact U
 rw[<- S]at x ⊢;exact x
theorem Qu{pins:GW}{σ:St}{Z:Hp}{L:g8}{a C d t:eH}{φ:il->Prop}(I:Inv (vU (o8 P w) P w K mg base N qual scope f cd A outer s H E) pins σ Z L)
 (G7:Z a=aI (.ext φ)) (he:L.heap.get? a=aI (nM C (aI d) t)) (hs:s.heap.get? a=cI) (hE:E (.ref C) (aI d) (λb=>if b=a then cI else Z b)):(vU (o8 P w) P w K mg base N qual scope f cd A outer s H E).xe (.ref a) L:=by
 generalize B:vU (o8 P w) P w K mg base N qual scope f cd A outer s H E=X at I;have M:X.stack=X.env::X.outer:=by rw[<- B];rfl
 have b2:X.env.frame=aI X.env.locals:=by rw[<- B];rfl
 have h:X.ex=[]:=by rw[<- B];rfl
 have b3:=I.stack;have x:=I.Ec;have b4 : ∀env∈X.stack,∀b,env.frame=aI b->b∈a::o1 X.stack:=λenv he b e=>sv _<|AQ.mpr ⟨env,he,e⟩;have Q : ∀b o,X.m5.heap.get? b=aI o->∃g,L.heap.get? b=aI g:=λb o q=>I.base.there b o q (by rw[h];simp);have b5 : ∀b o,X.m5.heap.get? b=aI o->b≠X.env.locals:=λb o q=>sr<|si (sg q) I.ok.above;have a5 : ∀b o,X.m5.heap.get? b=aI o->b∉X.fs->b∉o1 X.stack:=λb o q n r=>by
  rcases sd.mp (I.Ed b r)with z | z
  ·exact b5 b o q z
  ·exact n z
 have e1:X.outer=outer:=by rw[<- B];rfl
 have e2:X.Dl=H:=by rw[<- B];rfl
 have e3:X.m5=s:=by rw[<- B];rfl
 have e4:X.prog=P:=by rw[<- B];rfl
 have e5:X.w=w:=by rw[<- B];rfl
 have S : ∀b o,Z b=aI o->(∀φ,o ≠ .ext φ)->(if b=a then cI else Z b)=aI o:=λb o q z=>by rw[GX (λw=>by rw[w,G7]at q;cases q;exact z _ rfl),q]
 have R:X.m5.heap.get? a=cI:=by rw[e3];exact hs
 have b8:n0 X.prog X.w (λb=>if b=a then cI else Z b) L.heap:=λb o q=>by
  have q:(if b=a then cI else Z b)=aI o:=q;by_cases e:b=a
  ·rw[GK e]at q;cases q
  ·rw[GX e]at q
   exact(I.iv b o q).Cw (λ_ _ _ z=>z) (λc z=>S c _ z<|λφ w=>nomatch w) λc xs z=>S c _ z<|λφ w=>nomatch w
 have go:wpAny (hR P w) X.A (DQ X.env<|.ref a) (λ_ p=>o8 P w outer H s E (.ref a) p) (λe' p=>o8 P w outer H s E e' p) L:=by
  have T:(AD L.heap (a::o1 X.stack)).get? a=cI:=PySem.W.hideAll_none _ ⋯;refine fj (od:=aI d) (base:=AD L.heap (a::o1 X.stack)) (env:=X.env) (outer:=X.outer) (a0:= .ref t) (by rw[<- M];exact I.ok.frames) (by rw[<- M];exact PySem.W.funFrames_hide b3 b4) b2 he (λb o q=>Bv _ q) T rfl rfl rfl
   ⟨(λd' q=>by cases q;exact⟨_,he,rfl⟩),λq=>nomatch q⟩ λbb hL be=>?_
  obtain⟨k1,⟨_,_,k2⟩,k3,x4⟩:=hL;have a7 : ∀b o,L.heap.get? b=aI o->b≠a->b∉o1 X.stack->(AD L.heap (a::o1 X.stack)).get? b=aI o:=λb o q J O=>Ab _ q (by simp[J];exact O);have U : ∀b o,L.heap.get? b=aI o->b≠a->b∉o1 X.stack->bb.get? b=aI o:=λb o q J O=>k1 b o<|a7 b o q J O;rw[<- e3]at *;rw[<- e2]at *;subst e1;have Y : ∀b o,X.m5.heap.get? b=aI o->b≠a:=λb o q z=>by rw[z,R]at q;cases q
  have y : ∀b,(if b=a then cI else Z b)≠cI->b≠a/\b∉o1 X.stack/\∃o,L.heap.get? b=aI o:=λb n=>by
   by_cases e:b=a
   ·rw[GK e]at n;exact absurd rfl n
   ·rw[GX e]at n
    cases q:Z b with
    | none=>exact absurd q n
    | some u=>exact⟨e,(λr=>by rw[x b r]at q;cases q),xS<|I.iv b u q⟩
  refine⟨a,C,_,aI d,rfl,hE,be,I.os,I.bare,⟨λb o q n e _=>?_,λb o q n e _=>?_,λb o q n _=>?_,λb o q _=>?_,λb xs q=>S b _ (I.base.A8 b xs q)<|λφ w=>(nomatch w),λb o u q=>S b _ (I.base.wh b o u q)<|λφ w=>(nomatch w),λb ps q=>?_⟩,?_,GK rfl,R,⟨_,t,⟨k1,T,k2,k3⟩,λb o q n=>?_,λb o q n e=>?_⟩⟩
  ·exact U b o (I.base.keep b o q n e<|by rw[h];simp) (Y b o q)<|a5 b o q e
  ·obtain⟨sl,z⟩:=I.base.slot b o q n e (by rw[h];simp)
   have i : ∀vs,o.data ≠ .fields vs:=by obtain⟨_,g,l,G⟩:=I.ok.t5.mem e;rw[q]at l;cases l;exact G
   obtain⟨ax,F⟩:=x4 b _ z i;exact⟨ax,F⟩
  ·rw[GX (Y b o q)];exact I.base.free b o q n (by rw[h];simp)
  ·obtain⟨g,z⟩:=Q b o q
   by_cases e:b∈X.fs
   ·obtain⟨_,k,l,G⟩:=I.t5.mem e
    obtain⟨ax,F⟩:=x4 b _ l G;exact⟨_,F⟩
   ·exact⟨g,U b g z (Y b o q)<|a5 b o q e⟩
  ·obtain⟨m,z⟩:=I.base.A6 b ps q
   exact⟨m,S b _ z<|λφ w=>nomatch w⟩
  ·rw[<- e4,<- e5]
   exact qv b8 λb u n q=>U b u q (y b n).1 (y b n).2.1
  ·obtain⟨J,O,k,z⟩:=y b n
   have:=U b k z J O;rw[q]at this;cases this;exact a7 b o z J O
  ·cases q1:X.m5.heap.get? b with
   | none=>exact absurd q1 n
   | some j=>
    obtain⟨k,z⟩:=Q b j q1;have i:=a5 b j q1 e;have:=U b k z (Y b j q1) i;rw[q]at this;cases this;exact a7 b o z (Y b j q1) i
 rw[<- B]at go ⊢;exact go
end
noncomputable def lU(o:n7):Option ClassData:=match o.data with
 | .cls a=>aI a
 | _=>cI
noncomputable def ic(K:rR)(C:eH):Bool:=match K.lookup C with
 | some o=>o.cls==Ae "type" && o.slots.size==6 && (o.slots.toList.drop 4).take 1 == [aI (Value.builtin "ValueError.__new__")] && (match lU o with
  | some a=>a.mro.take 1 == [sk C] && !a.hasDel && PySem.W.tailIn K Fq (a.mro.drop 1) && PySem.W.nsOkIn K a.ns && uw K a.ns "__init__" == aI cI
  | none=>dV)
 | none=>dV
theorem cG{L:Type}{l:List L}{a:L}(h:l.length=6)(e:(l.drop 4).take 1=[a]) : ∃z B I J O,l=[z,B,I,J,a,O]:=by
 cases l with
 | nil=>cases h
 | cons z l=>cases l with
  | nil=>cases h
  | cons B l=>cases l with
   | nil=>cases h
   | cons I l=>cases l with
    | nil=>cases h
    | cons J l=>cases l with
     | nil=>cases h
     | cons S l=>cases l with
      | nil=>cases h
      | cons O l=>cases l with
       | nil=>
        cases e;exact⟨z,B,I,J,O,rfl⟩
       | cons U l=>simp at h
theorem ec{I:Type}{l:List I}{a:I}(e:l.take 1=[a]):l=a::l.drop 1:=by
 cases l with
 | nil=>cases e
 | cons b l=>cases e;rfl
structure XC(K:rR)(mg:GV)(c:Str):Prop where
 all:Jr K=cT
 mem:c∈yg
 ex : ∃C,va K c=aI C/\mg c=aI (.ref C)/\ic K C=cT
noncomputable def Zn(c:Xn)(od:Option eH)(H0:Hp):Prop:=match c.2 with
 | none=>od=cI
 | some i=>∃d,od=aI d/\H0 d=aI (.xd [(rh c.1,.int i)])
noncomputable def XW(X:Cx)(I J:Hp)(c:Xn):Prop:=(∀(f:GW) (B:St) (g z:Hp) (h:g8) (k:il) (a C:eH) (o:List eI),Inv X f B g h->Ext I J z g->Jr X.K=cT->c.1∈yg->va X.K c.1=aI C->c.2=cI->
 Heap.MadeExcOf h.heap k a (.ref C) o->X.xe (.ref a) {h with heap:=k})/\
 (∀(f:GW) (B:St) (g z:Hp) (h:g8) (e:eI) (l:g8),Inv X f B g h->Ext I J z g->
   o8 X.prog X.w X.stack g h (λj n m=>∃C i,j = .ref C/\Jr X.K=cT/\c.1∈yg/\va X.K c.1=aI C/\Zn c n i/\Ext z g i m) e l->X.xe e l)/\
 ∀(f:GW) (B:St) (g z:Hp) (h:g8) (a C d t:eH) (p:il->Prop),Inv X f B g h->g a=aI (.ext p)->h.heap.get? a=aI (nM C (aI d) t)->(X.ex=[]->X.m5.heap.get? a=cI)->
  Ext I J z (λb=>if b=a then cI else g b)->Jr X.K=cT->c.1∈yg->va X.K c.1=aI C->Zn c (aI d) z->X.xe (.ref a) h
noncomputable def Px(X:Cx)(st:l7)(G:CO Xn):Prop:=∀(a:GW) (s:g8) (d:St) (H z B e:Hp) (b:Ctx) (c:Xn),Inv X a d H s->RS X.K z B e H d b->G b=aI c->XW X z B c->
 wpAny (hR X.prog X.w) X.A (exec st X.env) (λ_ _=>False) X.xe s
noncomputable def GF(X:Cx)(I:List l7)(G:CO Xn):Prop:=∀(a:GW) (s:g8) (d:St) (H z B e:Hp) (b:Ctx) (c:Xn),Inv X a d H s->RS X.K z B e H d b->G b=aI c->XW X z B c->
 wpAny (hR X.prog X.w) X.A (execs I X.env) (λ_ _=>False) X.xe s
section
variable{X:Cx}{sc:l9}{N L:List Str}{k:Nat}{st:l7}{rest:List l7}{G G':CO Xn}{F:CO Fl}
theorem SX.p7(h:SX X sc N L k)(E:GQ):SX (X.p7 E) sc N L k:=⟨h.C5,h.eN,h.nd,h.calm,h.room,h.fn⟩
theorem Xh{rest:List l7}(h:Px X st G):GF X (st::rest) G:=λa s g H B J b f c I d e w=>
 uO (sC (h a s g H B J b f c I d e w) (λ_ _ z=>z.elim) λ_ _ z=>z)
theorem JD{a:g9}{f:CO D}{c:Str}{np cpos pos:l0}(h:SX X.p3 sc N L k)(hc:j3 sc c=cT)(x:XC X.K X.mg c)(ha:PV X.p3 a f)(hf : ∀γ,∃d,f γ=aI d:=by intro γ;exact⟨_,rfl⟩)
 (hs:lp [a] X.env=[(dV,hH a X.env)]:=by rfl):Px X (.Raise (aI (.Call (.Name c np) [a] [] cpos)) cI pos) (ie c):=λi s σ H F0 F1 Q γ cc I rs e w=>by
 cases e;obtain⟨C,x1,x2,B⟩:=x.ex;have P:=PySem.F.excBase_ValueError;have hh:X.A.handled=cI:=I.ok.hd (show X.calm=cT from h.calm);have Z:=h.gl hc;obtain⟨d,j⟩:=hf γ;have KI:=I.m4;have cls : ∃nm q N bs bm hdct sn sub ab col dd k0 k1 k2 k3 k5,X.K.lookup C=aI (excClassObj nm q C N bs bm hdct sn sub ab col dd k0 k1 k2 k3 k5 "ValueError.__new__")/\PySem.W.tailIn X.K Fq bm=cT/\PySem.W.nsOkIn X.K N=cT/\uw X.K N "__init__" = aI cI:=by
  unfold ic at B;cases p:X.K.lookup C with
  | none=>rw[p]at B;cases B
  | some o=>
   rw[p]at B;obtain⟨oc,dd,E,G⟩:=o;simp only[rY,beq_iff_eq]at B;obtain⟨⟨⟨y1,y2⟩,y3⟩,O⟩:=B;subst y1;obtain⟨k0,k1,k2,k3,k5,hs⟩:=cG (by simpa using y2) y3;cases j:lU ⟨.type "type",dd,E,G⟩with
   | none=>rw[j]at O;cases O
   | some cd=>
    rw[j]at O;have b4:E = .cls cd:=by
     unfold lU at j;cases E with
     | cls c0=>cases j;rfl
     | _=>cases j
    subst b4;simp only[rY,beq_iff_eq,uX]at O;obtain⟨⟨⟨⟨y5,a9⟩,S⟩,b⟩,m⟩:=O;obtain⟨nm,bs,b5,ns,qn,b7,sn,sub,ab,col,c1⟩:=cd;dsimp only at y5 a9 S b m;subst a9;have b8:G = #[k0,k1,k2,k3,aI (.builtin "ValueError.__new__"),k5]:=by obtain⟨l⟩:=G;simp only at hs;rw[hs]
    subst b8;have n:=ec y5;generalize b5.drop 1=bm at n S;subst n;exact⟨nm,qn,ns,bs,bm,b7,sn,sub,ab,col,dd,k0,k1,k2,k3,k5,rfl,S,b,m⟩
 obtain⟨nm,q,J,bs,bm,hdct,sn,sub,ab,col,dd,k0,k1,k2,k3,k5,p,S,b,m⟩:=cls;have T : ∀{g:il},X.K.In g->OwnTail g Fq bm:=λY=>PySem.W.tail_of_in Y S;refine wpAny_Raise_call_subT (C:=C) (nm:=nm) (q:=q) (N:=J) (bs:=bs) (bm:=bm) (hdct:=hdct) (sn:=sn) (sub:=sub) (ab:=ab) (col:=col) (dd:=dd) (k0:=k0) (k1:=k1) (k2:=k2) (k3:=k3) (k5:=k5)
  P (mN:=X.base.nsMap J) ((T KI).hasType P.hasBase) hh (by rw[hs];rfl) (PySem.W.nsMap_none_of_in I.ok.mod.DP b m) (qt I (show Gl X c from Z.1) x2 ⟨rfl,?_⟩ Z.2.2)
 have b9:PA X.p3 [a] _:=zK ha jc (show lp [a] X.p3.env=[(dV,hH a X.p3.env)]from hs);have am:=b9 cpos i s σ H (λvs t=>∃v,vs=[v]/\∃y,Ext Q H y t) (I.p7 _) ⟨Q,γ,d,rs.rc,j,λv H' r M rr=>⟨v,rfl,r,M⟩⟩;rw[hs];rw[show lp [a] X.p3.env=[(dV,hH a X.env)]from hs]at am;refine Calls.evalArgs_plain<|sC am (λus s2 hZ=>?_) λ_ _ z=>z.elim;obtain⟨vs,t,U,rv,v,ev,y,M⟩:=hZ;subst ev;obtain⟨u,rfl,ru⟩:=qC rv;have U:=U.u7;have R:=U.m4;have n1:X.base.Ns J (X.base.nsMap J):= .of_isNs (PySem.W.isNs_of_in I.ok.mod.DP b);have bi:s2.heap.Ns J (X.base.nsMap J):=n1.keeps U.bk;exact⟨rfl,by show 1<=l4;decide,R _ _ p,bi,T R,λh' e n=>w.1 i σ t y s2 h' e C _ U (rs.ext.trans M) x.all x.mem x1 rfl n⟩
end
section
variable{X:Cx}{sc:l9}{N L:List Str}{k j n:Nat}{e:g9}{es:List g9}{g:CO (List D)}{G:List D->Option Xn}{x:Str}{p pos:l0}
noncomputable def oQ(X:Cx)(I:GW)(J:St)(H0 H:Hp)(z:Xn)(e:eI)(s':g8):Prop:=∃b B f,Inv X I J b f/\Ext H0 H B b/\
 o8 X.prog X.w X.stack b f (λd h g=>∃C a,d = .ref C/\Jr X.K=cT/\z.1∈yg/\va X.K z.1=aI C/\Zn z h a/\Ext B b a g) e s'
end
noncomputable def DR(X:Cx)(e:eI):Cx:={X with A:=X.A.mark<|some e,calm:=dV,xe:=λ_ _=>False}
theorem Kg{X:Cx}{J:GW}{L:St}{H:Hp}{s:g8}(I:L2.Inv X J L H s)(e:eI):L2.Inv (DR X e) J L H s:=
 ⟨⟨I.ok.mod,I.ok.kind,I.ok.glob,I.ok.blt,I.ok.above,I.ok.inj,I.ok.has,I.ok.D2,(λz=>nomatch z),I.ok.frames,I.ok.Di,I.ok.EA,I.ok.bs,I.ok.Cr,I.ok.D9,I.ok.D6,I.ok.t5,I.ok.Cs⟩,I.os,I.bare,I.base,I.loc,I.cell,I.free,I.B0,I.pin,I.iv,I.len⟩
theorem Kd{X:Cx}{J:GW}{L:St}{H:Hp}{s:g8}{e:eI}(ok:X.Ok)(I:L2.Inv (DR X e) J L H s):L2.Inv X J L H s:=
 ⟨ok,I.os,I.bare,I.base,I.loc,I.cell,I.free,I.B0,I.pin,I.iv,I.len⟩
theorem XZ{X:Cx}{L:GW}{Z:St}{H:Hp}{s:g8}{M:Dn}{A:m7}{E:GQ}{Q:Unit->g8->Prop}{i:Nat}{n:Str}{pos:l0}(I:L2.Inv X L Z H s)(J:X.N.Nodup)(hi:X.N[i]? = aI n)(O:X.env.scope.names.lookup n=aI .local)
 (h : ∀s',L2.Inv X L (Z.set i cI) H s'->Q () s'):wpAny M A (do bindName X.env n .none;unbindBehindTheSuite X.env n pos) Q E s:=by
 obtain⟨m,C,S⟩:=id I.loc;have U:(X.env.scope.kind == .class || (X.env.scope.kind == .module && X.env.locals != X.env.globals))=dV:=by rw[I.ok.kind];rfl
 refine wpAny_nameGoes_keeps O C U λh' v W a=>h _ ?_;have B : ∀b o,X.m5.heap.get? b=aI o->b≠X.env.locals:=λb o e=>sr<|si (sg e) I.ok.above;refine⟨I.ok,I.os,I.bare,⟨λb o e n l f=>?_,λb o e n l f=>?_,I.base.free,λb o e f=>?_,I.base.A8,I.base.wh,I.base.A6⟩,⟨_,W,λj y Y r g w=>?_⟩,λy c e=>?_,I.free,I.B0,λp F=>?_,λb P e=>?_,by simpa using I.len⟩
 ·exact(a.2 b<|B b o e).trans (I.base.keep b o e n l f)
 ·obtain⟨T,z⟩:=I.base.slot b o e n l f
  exact⟨T,(a.2 b<|B b o e).trans z⟩
 ·obtain⟨K,z⟩:=I.base.there b o e f
  exact⟨K,(a.2 b<|B b o e).trans z⟩
 ·rcases zB g with⟨_,z,_⟩ | ⟨x,g⟩
  ·cases z
  ·obtain⟨u',R,q⟩:=S j y Y r g w
   refine⟨u',R,?_⟩;rcases q with⟨k,e⟩ | ⟨k,c,e,z⟩
   ·refine .inl ⟨k,?_⟩
    have:y≠n:=λe=>x<|wx J r<|e ▸ hi;simp[this,e]
   ·exact .inr ⟨k,c,e,z.sameBut a<|I.C1 y c e⟩
 ·obtain⟨u,z⟩:=I.cell y c e
  exact⟨u,z.sameBut a<|I.C1 y c e⟩
 ·obtain⟨e,n,t,G,d⟩:=I.pin p F
  exact⟨(a.2 p.1 t).trans e,n,t,G,d⟩
 ·refine(I.iv b P e).Cw (λc u hc q=>(a.2 c ?_).trans q) (λ_ q=>q) λ_ _ q=>q
  rintro rfl;rcases hc with hc | hc
  ·rw[<- hc,I.free]at e;cases e
  ·rw[I.free]at hc;cases hc
structure XS(K:rR)(mg:GV):Prop where
 ex : ∃S,va K "SplitError" = aI S/\mg "SplitError" = aI (.ref S)/\AJ K (.ref S)=aI (.type "type")/\uj K S (.type "BaseException")=aI cT/\(AY K S).isSome=cT/\uj K S (.ref S)=aI cT
theorem Jl{M:Dn}{h:il}{K:rR}{a C S:eH}(X:K.In h)(I:QI h a C)(L:AJ K (.ref S)=aI (.type "type"))(Z:uj K S (.type "BaseException")=aI cT)(B:(AY K S).isSome=cT)(J:uj K C (.ref S)=aI cT) :
 AZ M h (excMatches (.ref a)<|.ref S) cT:=by
 have O:=xZ (M:=M) I;have U:=PySem.W.looks_typeIn (M:=M) X L;have b:=PySem.W.looks_mroIn (M:=M) X Z;have Y:AZ M h (isType<|.ref S) cT:=by
  obtain⟨x,z⟩:=uc.mp B;unfold AY at z;split at z
  ·rename_i w y t u f
   intro o r p P k q;unfold isType loadHead;exact rS<|wpAny_loadPart (k _ _<|X _ _ f)<|rW q
  ·cases z
 have d:=PySem.W.looks_mroIn (M:=M) X J;have e:AZ M h (isSubtype (.type "type") (.type "tuple")) dV:= .of_pure tc_notTuple;intro A Q E s k q;obtain⟨H,G,F,R,N⟩:=s;have g:=O.keeps k;have i:=U.keeps k;have j:=b.keeps k;have l:=Y.keeps k;have m:=d.keeps k;have n:=e.keeps k;unfold excMatches isExcClass Ga
 repeat (first | with_reducible refine i.at ?_ | with_reducible refine n.at ?_ | with_reducible refine l.at ?_ | with_reducible refine j.at ?_ | with_reducible refine g.at ?_ | with_reducible refine m.at ?_ | wp_step)
 exact q
section ap
variable(γ:Ctx)
@[simp] def gS:=@zM.eq_1
@[simp] def ot:=@jr.eq_1
@[simp] def md:=@jb.eq_1
@[simp] def nW:=@zo.eq_1
@[simp] def br:=@zl.eq_1
@[simp] theorem ou(d):zp d γ=aI d:=rfl
@[simp] def fL:=@zR.eq_1
@[simp] def rP:=@sB.eq_1
@[simp] def mO:=@WK.eq_1
@[simp] def oi:=@bA.eq_1
@[simp] def mi:=@qj.eq_1
@[simp] def oJ:=@WL.eq_1
@[simp] def rj:=@Hm.eq_1
@[simp] def oj:=@iN.eq_1
@[simp] def oB:=@QK.eq_1
@[simp] theorem oq:zI γ=aI []:=rfl
@[simp] def mI:=@ze.eq_1
@[simp] def nX:=@vb.eq_1
@[simp] def mn:=@jJ.eq_1
@[simp] def mj:=@jq.eq_1
@[simp] def oh:=@jA.eq_1
@[simp] def mf:=@qF.eq_1
@[simp] def me:=@J6.eq_1
@[simp] def oF:=@rG.eq_1
@[simp] def mH:=@cQ.eq_1
@[simp] def rm:=@n5.eq_1
@[simp] def og:=@jk.eq_1
@[simp] def ma:=@wc.eq_1
@[simp] def mE:=@cP.eq_1
@[simp] def fM:=@yk.eq_1
@[simp] def mL:=@zG.eq_1
@[simp] def hJ:=@jo.eq_1
@[simp] def gV:=@zQ.eq_1
@[simp] def KP:=@jK.eq_1
@[simp] def fF:=@ZX.eq_1
@[simp] def nU:=@Yn.eq_1
@[simp] def fK:=@Xa.eq_1
@[simp] def mJ:=@zL.eq_1
@[simp] theorem nV:jR γ=aI cT:=rfl
@[simp] def mK:=@xq.eq_1
@[simp] def mh:=@cK.eq_1
@[simp] def mx:=@g6.eq_1
@[simp] def gR:=@Vz.eq_1
@[simp] theorem om:Jx γ=aI cI:=rfl
@[simp] def rn:=@t7.eq_1
@[simp] def nZ:=@bx.eq_1
@[simp] def fH:=@vc.eq_1
@[simp] def rk:=@Eb.eq_1
@[simp] def oz:=@rE.eq_1
@[simp] def bO:=@jm.eq_1
@[simp] def fG:=@Q9.eq_1
@[simp] def nY:=@iJ.eq_1
@[simp] def oK:=@VB.eq_1
@[simp] def oH:=@iQ.eq_1
@[simp] def my:=@px.eq_1
@[simp] def mm:=@pj.eq_1
@[simp] def lY:=@WH.eq_1
theorem ZP(F G):zP F G γ=(F γ).bind λz=>match z with
 | .next a=>G a
 | f=>aI f:=rfl
end ap
@[simp] theorem nR(ds):jU (.tup ds)=aI (.T,ds):=rfl
@[simp] theorem nS(ds):jU (.lst ds)=aI (.L,ds):=rfl
@[simp] theorem aX(d):KC (aI (.val d))=aI d:=rfl
@[simp] theorem aY(d):kD (aI (.val d))=jU d:=rfl
@[simp] theorem aZ(d):kD (aI (.own d))=aI (.L,d):=rfl
@[simp] theorem bf(d):qw (aI (.own d))=aI d:=rfl
@[simp] theorem ba(d):Jo (aI (.val d))=aI (.ret<|.val d):=rfl
@[simp] theorem bc(d):Jo (aI (.own d))=aI (.ret<|.own d):=rfl
@[simp] theorem nT(b):CD (.bl b)=aI b:=rfl
@[simp] theorem bp(b):p0 (.int b)=aI b:=rfl
@[simp] theorem fY(d):QL (.val d)=d:=rfl
@[simp] theorem fZ(d):QL (.own d) = .lst d:=rfl
@[simp] theorem fX(d):ny (.own d)=aI d:=rfl
@[simp] theorem gF(i j):Wl (.int i) (.int j)=aI (.int<|i - j):=rfl
@[simp] theorem gM(i j):yb (.int i) (.int j)=aI (.int<|i+j):=rfl
@[simp] theorem gJ(i j):vS (.int i) (.int j)=if 0<j then aI (.int<|i%j)else cI:=by show(if gN i j=cT then _ else _)=_;simp[gN]
@[simp] theorem gL(i j):K6 (.int i) (.int j)=if 0<j/\j<1073741824 then aI (.int<|i/j)else cI:=by
 show(if fC i j=cT then _ else _)=_;have e:(fC i j=cT)=(0<j/\j<1073741824):=by unfold fC;rw[rY,decide_eq_true_eq,decide_eq_true_eq];apply propext;constructor<;>intro h<;>exact⟨h.1,by omega⟩
 simp only[e]
@[simp] theorem gH(i j):JU (.int i) (.int j)=if QG i j=cT then aI (.int<|i*j)else cI:=rfl
@[simp] theorem gG(i j):aU (.int i) (.int j)=if fB i j=cT then aI (.int<|i ^ j.toNat)else cI:=rfl
@[simp] theorem lO(i j):Ez (.int i) (.int j)=aI (.bl<|decide<|i<j):=rfl
@[simp] theorem lP(i j):C3 (.int i) (.int j)=aI (.bl<|decide<|i<=j):=rfl
@[simp] theorem lQ(i j):DI (.int i) (.int j)=aI (.bl<|decide<|j<i):=rfl
@[simp] theorem lR(i j):EY (.int i) (.int j)=aI (.bl<|decide<|j<=i):=rfl
@[simp] theorem lS(i j):o5 (.int i) (.int j)=aI (.bl<|decide<|i=j):=by unfold o5;rw[GK ⟨rfl,rfl⟩];exact congrArg (λb=>aI (D.bl b)) (by rw[Bq];simp[u3])
@[simp] theorem lN(i j):t6 (.int i) (.int j)=aI (.bl<|!decide (i=j)):=by unfold t6;rw[GK ⟨rfl,rfl⟩];exact congrArg (λb=>aI (D.bl !b)) (by rw[Bq];simp[u3])
@[simp] theorem cJ(i is d ds γ):jC (i::is) (d::ds) γ=jC is ds (γ.set i<|.val d):=rfl
@[simp] theorem cH(ds γ):jC [] ds γ=γ:=by cases ds<;>rfl
@[simp] theorem gO(i d γ):xA (.nm i) d γ=aI (γ.set i<|.val d):=rfl
@[simp] theorem fD(i j a b γ):xA (.tp [i,j]) (.tup [a,b]) γ=aI ((γ.set i<|.val a).set j (.val b)):=rfl
@[simp] theorem Ym(γ:Ctx)(G:CO Fl):(aI (Fl.next γ)).bind (λz=>match z with
 | .next γ'=>G γ'
 | f=>aI f)=G γ:=rfl
theorem KM(i j:Int)(I : -(2 ^ 64)<j)(J:j<2 ^ 64):QG i j=cT:=by unfold QG;rw[tx];right;exact decide_eq_true ⋯
theorem Wm(i j:Int)(I : -(2 ^ 64)<i)(J:i<2 ^ 64):QG i j=cT:=by unfold QG;rw[tx];left;exact decide_eq_true ⋯
theorem Kh(I : -(2 ^ 62)<i)(J:i<2 ^ 62):inR i=cT:=by unfold inR;exact decide_eq_true ⋯
@[simp] theorem xv(n k:Nat):A4 n (k:Int)=if k<n then aI k else cI:=by
 unfold A4;by_cases h:k<n
 ·rw[GK ⟨Int.natCast_nonneg k,by omega⟩,GK h];simp
 ·rw[GX ⋯,GX ⋯,GX h]
theorem JM:lim=2500:=rfl
@[simp] theorem gB:0<=lim:=uv _
@[simp] theorem gA:1<=lim:=by decide
@[simp] theorem gz:2<=lim:=by decide
@[simp] theorem gy:3<=lim:=by decide
@[simp] theorem gx:4<=lim:=by decide
@[simp] theorem gw:5<=lim:=by decide
@[simp] theorem gu:6<=lim:=by decide
@[simp] theorem gr:7<=lim:=by decide
@[simp] theorem gp:8<=lim:=by decide
@[simp] theorem gk:0<lim:=by decide
@[simp] theorem lz(h:n<=lim):inR (n:Int)=cT:=Kh ⋯ (by have:=JM;omega)
@[simp] theorem HD(n:Nat):A4 (n+1) 0=aI 0:=xv (n+1) 0 ▸ rfl
@[simp] theorem HE(n:Nat):A4 (n+2) 1=aI 1:=by have:=xv (n+2) 1;simpa using this
@[simp] theorem HF(n:Nat):A4 (n+3) 2=aI 2:=by have:=xv (n+3) 2;simpa using this
theorem vR(T F d ds γ):kZ T F (d::ds) γ=(xA T d γ).bind λB=>(F B).bind λI=>match I with
 | .next z=>kZ T F ds z
 | .cont z=>kZ T F ds z
 | .brk z=>aI (.next z)
 | .ret r=>aI (.ret r):=rfl
def Wj(n:Nat)(f:Nat->Int):List D:=(tJ n).map λi=>D.int<|f i
theorem JS(n f):Wj n f=(tJ n).map λi=>D.int (f i):=rfl
@[simp] theorem gE(n f):(Wj n f).length=n:=by simp[Wj]
@[simp] theorem lK(f)(h:i<(Wj n f).length):(Wj n f)[i] = .int (f i):=by simp[Wj]
theorem JC(n:Nat):xN 0 n=Wj n λi=>(i:Int):=by simp[xN,Wj]
noncomputable def qh:=jl 2<|jA<|jm<|jb<|zL (zQ<|zl 1) (.nm 0) 1 [0] jR (zR vS (zo 0)<|zo 1)
noncomputable def KY:=jl 3<|jA<|zG qh<|ze (zo 0)<|ze (jr<|zL (zQ<|zM<|g6 (zl 1)<|zp<|.int 2) (.nm 0) 1 [2] jR (iJ<|jb<|zL (Yn (zo 0)<|zo 1) (.tp [0,1]) 2 [] jR (zR JU (zo 0)<|zo 1))) zI
noncomputable def je:=jl 2<|zP (jk 1<|jr<|zL (jK<|g6 (zl 0)<|zp<|.int 1) (.nm 0) 1 [0] jR (jm<|jb<|zL (zQ<|zM<|g6 (zl 1)<|zp<|.int 2) (.nm 0) 1 [0] jR (g6 (zl 0)<|zo 1)))<|jA<|vb<|ze (g6 (zl 0)<|zp<|.int 1)<|ze (g6 (zl 0)<|zp<|.int 0)<|ze (jm<|zl 1) zI
noncomputable def z9:=jl 2<|zP (jk 1<|jr<|zL (jK<|zo 0) (.nm 0) 1 [0] jR (jm<|jb<|zL (jK<|zo 1) (.nm 0) 1 [0] jR (QK (sB<|zR o5 (zo 1)<|zo 0) (zp<|.int 1)<|zp<|.int 0)))<|jA<|vb<|ze (zo 0)<|ze (zo 0)<|ze (jm<|zl 1) zI
noncomputable def yZ:=jl 3<|zP (Xa (ZX (zp<|.int 1)<|zo 0) (.nm 2)<|n5 (sB<|zR o5 (zR vS (zR JU (zo 1)<|zo 2)<|zo 0)<|zp<|.int 1) (J6 2) jq) j9
noncomputable def kh:=jl 5<|zP (jk 4<|g6 (zl 1)<|zo 3)<|zP (n5 (sB<|zR o5 (zo 4)<|zp<|.int 0) (J6 1) jq)<|jA<|zG qh<|ze (zo 0)<|ze (jr<|zL (Yn (zo 1)<|zo 2) (.tp [0,1]) 2 [4] jR (zR Wl (zo 0)<|zR JU (zo 2)<|zo 1)) zI
noncomputable def jI:=jl 9<|zP (jk 3<|jr<|zL (zQ<|zl 2) (.nm 0) 1 [0] jR (zG qh<|ze (zo 1)<|ze (zo 0) zI))<|zP (wc 4<|jJ zI)<|zP (Xa (jK<|zo 1) (.nm 5)<|zP (jk 6<|jr<|zL (zQ<|zl 3) (.nm 0) 1 [5] (sB<|zR t6 (g6 (zl 0)<|zo 1)<|zp<|.int 0) (zo 0))<|zP (n5 (qj<|WH<|zl 6) cQ jq)<|zP (jk 7<|zG yZ<|ze (zo 0)<|ze (g6 (zM<|g6 (zl 6)<|zp<|.int 0)<|zo 5) zI)<|zP (jk 8<|zG qh<|ze (zo 0)<|ze (jr<|zL (zQ<|zM<|g6 (zl 6)<|zp<|.int 0) (.nm 0) 1 [7] jR (zR JU (zo 1)<|zo 0)) zI)<|zP (jk 3<|jr<|zL (zQ<|zl 3) (.nm 0) 1 [0,5,8] jR (zG kh<|ze (zo 1)<|ze (zo 0)<|ze (zo 3)<|ze (zo 2) zI))<|wc 4<|xq (jb<|zL (zQ<|zl 4) (.nm 0) 1 [0,5,8] jR (zG kh<|ze (zo 1)<|ze (zo 0)<|ze (zo 3)<|ze (zo 2) zI))<|jb<|jJ<|ze (zo 8) zI)<|J6 4
noncomputable def jV:=jl 2<|qF<|zL (zQ<|zl 1) (.nm 0) 1 [0] (qj<|sB<|iQ<|zM<|bx (zo 0) Jx<|t7<|zo 1) (bx (zo 0) (t7<|zo 1) Jx)
noncomputable def ql:=jl 5<|zP (jk 3<|jr<|zL (Yn (g6 (zM<|zG je<|ze (zo 1) zI)<|zp<|.int 2)<|g6 (zM<|zG z9<|ze (g6 (zl 1)<|zp<|.int 1) zI)<|zp<|.int 2) (.tp [0,1]) 2 [] jR (zR yb (zo 0)<|zo 1))<|zP (jk 4<|jr<|zL (zQ<|zl 2) (.nm 0) 1 [1] jR (zR yb (zo 0)<|zR JU (vb<|ze (zp<|.int 0) zI)<|g6 (zl 1)<|zp<|.int 1))<|qF<|jo jV<|ze (g6 (zl 1)<|zp<|.int 0)<|ze (jr<|jo jI<|ze (zo 0)<|ze (zR yb (g6 (zl 1)<|zp<|.int 0)<|g6 (zl 1)<|zp<|.int 1)<|ze (jr<|xq (zl 3)<|zl 4) zI) zI
noncomputable def ke:=jl 2<|qF<|jo ql<|ze (zo 0)<|ze (zo 1)<|ze (jr<|jJ zI) zI
noncomputable def y0:=jl 2<|qF<|jo jI<|ze (zo 0)<|ze (g6 (zl 1)<|zp<|.int 0)<|ze (g6 (zM<|zG je<|ze (zo 1) zI)<|zp<|.int 2) zI
section
variable(γ:Ctx)
@[simp] def oG:=@rH.eq_1
@[simp] def mM:=@pG.eq_1
@[simp] def gZ:=@nv.eq_1
end
noncomputable def jH:=jl 1<|jA<|g6 (jb<|zL (Yq<|zo 0) (.tp [0,1]) 2 [] (sB<|zR t6 (zo 1)<|zp<|.int 0) (zo 0))<|zp<|.int 0
noncomputable def wJ:=jl 7<|zP (jk 3<|g6 (zl 1)<|zp<|.int 1)<|zP (wc 4<|cK (jb<|jJ<|ze (zp<|.int 0) zI)<|zo 3)<|zP (Xa (zQ<|zM<|jr<|jo jI<|ze (zo 0)<|ze (zR yb (zo 3)<|zp<|.int 1)<|ze (jr<|zL (Yn (g6 (zl 1)<|zp<|.int 2)<|zo 2) (.tp [0,1]) 2 [] jR (zR yb (zo 0)<|vb<|ze (zo 1) zI)) zI) (.nm 5)<|zP (jk 6<|zG jH<|ze (zo 5) zI)<|zP (n5 (sB<|zR o5 (zo 6)<|zo 3) (jA<|zp .hI) jq)<|Vz 4 (zo 6)<|g6 (zl 5)<|zo 3)<|jA<|jm<|zl 4
section
variable(γ:Ctx)
@[simp] def mD:=@Yq.eq_1
@[simp] def oA:=@nh.eq_1
@[simp] def oC:=@rF.eq_1
@[simp] theorem hG(F G a b c):vC F G a b c γ=(a γ).bind λx=>(b γ).bind λy=>((F x y).bind CD).bind λk=>if k=cT then (c γ).bind λz=>G y z else aI (.bl dV):=rfl
@[simp] def lZ:=@ph.eq_1
end
noncomputable def y6:=jl 5<|zP (jk 2<|g6 (zl 1)<|zp<|.int 0)<|zP (n5 (sB<|zR t6 (g6 (zl 1)<|zp<|.int 1)<|zo 2) (jA<|zp .hI) jq)<|zP (jk 3<|g6 (zM<|zG z9<|ze (zo 2) zI)<|zp<|.int 2)<|zP (jk 4<|jr<|jo jI<|ze (zo 0)<|ze (zR yb (zo 2)<|zo 2)<|ze (jr<|zL (Yn (g6 (zl 1)<|zp<|.int 2)<|zo 3) (.tp [0,1]) 2 [] jR (zR yb (zo 0)<|zo 1)) zI)<|zP (n5 (sB<|zR t6 (jr<|zL (zQ<|zl 4) (.nm 0) 1 [2] jR (bx (zo 0) Jx<|t7<|zo 1))<|jr<|Q9<|zl 3) (jA<|zp .hI) jq)<|jA<|vb<|ze (zo 2)<|ze (zo 2)<|ze (jm<|jb<|zL (zQ<|zl 4) (.nm 0) 1 [2] jR (bx (zo 0) (t7<|zo 1) Jx)) zI
section
variable(γ:Ctx)
@[simp] def gY:=@nu.eq_1
@[simp] def fJ:=@iO.eq_1
@[simp] def oE:=@ni.eq_1
@[simp] def mB:=@pD.eq_1
@[simp] def gQ:=@mZ.eq_1
end
@[simp] theorem Vq(r):wH (aI (.nest r))=aI r:=rfl
section
variable(γ:Ctx)
@[simp] def gP:=@mY.eq_1
@[simp] def mr:=@pv.eq_1
@[simp] def mG:=@pE.eq_1
@[simp] def mw:=@ZY.eq_1
end
noncomputable def qi:=jl 2 (jA (QK (sB (zR o5 (zo 1) (zp (.str "r")))) (zo 0) (zR yb (zo 0) (zp (.int 1)))))
noncomputable def kg:=jl 2 (jA (QK (sB (zR o5 (zo 1) (zp (.str "r")))) (zR yb (zo 0) (zp (.int 1))) (zo 0)))
noncomputable def WI(f:CO D):CO D:=λa=>(f a).map λd=> .bl (K5 .list d || K5 .tuple d)
def jn:=jl 1<|jA<|WL (Eb .int<|zo 0)<|iN<|Eb .bool<|zo 0
noncomputable def xF:=jl 3 (zP (wc 1 (jJ (ze (Jy "NoPrime" (zo 0)) (ze (Jy "Nought" (zo 0)) (ze (Jy "NoTable" (zo 0)) (ze (Jy "NoWidths" (zo 0)) zI)))))) (zP (wc 1 (xq (zl 1) (jb (jJ (ze (Jy "NoRow" (zo 0)) (ze (Jy "Unlike" (zo 0)) (ze (Jy "TooMany" (zo 0)) (ze (Jy "NoTurn" (zo 0)) zI)))))))) (zP (wc 1 (xq (zl 1) (jb (jJ (ze (Jy "NoLine" (zo 0)) (ze (Jy "Nothing" (zo 0)) (ze (Jy "NoArrow" (zo 0)) (ze (Jy "NoText" (zo 0)) zI)))))))) (zP (yk 1 (Jy "NoRoom" (zo 0))) (zP (jk 2 (jr (jJ (ze (zp (.str "NoPrime")) (ze (zp (.str "Nought")) (ze (zp (.str "NoTable")) (ze (zp (.str "NoWidths")) (ze (zp (.str "NoRow")) (ze (zp (.str "Unlike")) (ze (zp (.str "TooMany")) (ze (zp (.str "NoTurn")) (ze (zp (.str "NoLine")) (ze (zp (.str "Nothing")) zI))))))))))))) (zP (jk 2 (jr (xq (zl 2) (jb (jJ (ze (zp (.str "NoArrow")) (ze (zp (.str "NoText")) (ze (zp (.str "NoRoom")) zI)))))))) (zP (n5 (qj (sB (cN (zo 0)))) (qF (jJ (ze (zp (.str "no ValueError")) zI))) jq) (ni 1 (qF (zL (jK (zp (.int 13))) (.nm 0) 1 [1,2] (sB (g6 (zl 1) (zo 0))) (g6 (zl 2) (zo 0))))))))))))
noncomputable def kH:=jl 1<|jA<|WL (zG jn<|ze (zo 0) zI)<|nh (zo 0)<|zM<|zp<|.tup [.int 2,.int 3,.int 5,.int 7]
noncomputable def kf:=jl 1<|jA<|WL (zG jn<|ze (zo 0) zI)<|vC C3 C3 (zp<|.int 0) (zo 0)<|zp<|.int 30
def jx:=jl 2<|jA<|WL (WI<|zo 0)<|zR o5 (vc<|zl 0)<|zo 1
noncomputable def yY:=jl 2<|jA<|WL (zG jx<|ze (zo 1)<|ze (zo 0) zI)<|VB<|jb<|zL (zQ<|zl 1) (.nm 0) 1 [] jR (zG jn<|ze (zo 0) zI)
noncomputable def kF:=jl 4<|zP (n5 (qj<|sB<|zG kH<|ze (zo 0) zI) j9 jq)<|zP (n5 (bA (qj<|sB<|zG kf<|ze (zo 1) zI)<|qj<|sB<|zG kf<|ze (zo 2) zI) j9 jq)<|zP (n5 (bA (qj<|sB<|zG jx<|ze (zo 3)<|ze (zo 1) zI)<|qj<|sB<|VB<|jb<|zL (zQ<|zl 3) (.nm 0) 1 [2] jR (zG yY<|ze (zo 1)<|ze (zo 0) zI)) j9 jq)<|jA<|vb<|ze (zo 1)<|ze (zo 2)<|ze (jm<|jb<|zL (zQ<|zl 3) (.nm 0) 1 [0] jR (zG qh<|ze (zo 1)<|ze (zo 0) zI)) zI
noncomputable def iL(f:CO (Sk×List D))(l h:CO (Option Int)):CO (List D):=λb=>(f b).bind λa=>(l b).bind λlo=>(h b).bind λd=>match a.1 with
 | .L=>aI (bN a.2 lo d)
 | .T=>cI
section
variable{X:Cx}{sc:l9}{N L:List Str}{k:Nat}{a e:g9}{es:List g9}{f:CO D}{g:CO (List D)}{pos p p2:l0}
theorem Yz(O:PV X e f)(hs:B6 e cI pos.line X.env=pure dV:=by rfl):p8 X (.Expr e pos) (cP f):=xj (Xx O hs) λD k H B=>by obtain⟨E0,E,h,j,J,b,z,I⟩:=B;obtain⟨d,i,z⟩:=zm z;subst z;exact⟨h,j,d,b.rc,i,λv g a x r=>I k g a<|b.step x⟩
structure XI(K:rR)(mg:GV)(c:Str):Prop where
 mem:c∈yg
 ex : ∃C,va K c=aI C/\mg c=aI (.ref C)
theorem V8{Y:GW}{σ:St}{H:Hp}{s:g8}{A:m7}{E:GQ}{Q:GQ}{b:eH}{t:eI}{c:Str}{n:Option Int}{H0:Hp}{r:Bool}(I:L2.Inv X Y σ H s)(sub:l5 H0 H)(B:B9 X.K H0 c n b)
 (O : ∀C,va X.K c=aI C->sU X.K (.ref C) t=aI r) (h : ∀Z,Q (.bool r) {s with toks:=Z}):wpAny (hR X.prog X.w) A (call (.builtin "isinstance") [.ref b,t]) Q E s:=by
 obtain⟨C,d,J,U,W,_⟩:=B.ex;obtain⟨S,_,a,_,_⟩:=kj B.all B.mem J;obtain⟨p,_,_⟩:=(show m8 X.prog X.w H s.heap b (.ext d)from I.iv b _<|sub _ _ U);exact sA (wA (ZQ a)<|ZR a) I.m4 (W _ p) (O C J) (λz=>nomatch z) h
theorem qk{c:Str}(h:SX X sc N L k)(Z:j3 sc "isinstance" = cT)(z:X.mg "isinstance" = cI)(W:j3 sc c=cT)(x:XI X.K X.mg c)(ha:PV X a f)
 (hs:lp [a,.Name c p2] X.env=[(dV,hH a X.env),(dV,hH (.Name c p2) X.env)]:=by rfl):PV X (.Call (.Name "isinstance" p) [a,.Name c p2] [] pos) (Jy c f):=by
 intro g s T H Q I ⟨j,R,d,rc,B,q⟩;obtain⟨o,t,B⟩:=zb B;obtain⟨C,G,M⟩:=x.ex;cases o with
 | exc J n=>
  cases B;refine tL<|jP I (h.gl Z).1 z uG ?_ ⋯ ⋯;refine tW ?_ (by rw[hs];rfl) rfl;rw[hs];show wpAny _ _ (Cv ((dV,hH a X.env)::pk pos [(dV,hH (.Name c p2) X.env)])) _ _ s;refine sX<|kr (ha g s T H (λv i=>∃e,Ext j H e i/\Rep X.K e (.exc J n) v) I ⟨j,R,_,rc,t,λv i e x r=>⟨e,x,r⟩⟩) λu E w=>?_;obtain⟨v,l,O,y,Y,m,A⟩:=w;obtain⟨b,rfl,U⟩:=(show ∃b,v = .ref b/\B9 X.K Y J n b from A);cases (show u=sk b from y);show wpAny _ _ (Cv ((dV,hH (.Name c p2) X.env)::[])) _ _ E;refine sX<|qt O (h.gl W).1 M ?_ (h.gl W).2.2;refine uD ?_;refine V8 O m.sub U (λC2 g1=>?_) λF=>⟨.bl<|J==c,l,O.tok F,rfl,q _ l Y m rfl⟩;obtain⟨S,_,_,_,P⟩:=kj U.all U.mem g1;exact P c C x.mem G
 | _=>cases B
theorem bh:C0 "ValueError" = aI (.type "ValueError"):=by decide +kernel
theorem WQ(h:SX X sc N L k)(Z:j3 sc "isinstance" = cT)(z:X.mg "isinstance" = cI)(J:j3 sc "ValueError" = cT)(zv:X.mg "ValueError" = cI)(ha:PV X a f)
 (hs:lp [a,.Name "ValueError" p2] X.env=[(dV,hH a X.env),(dV,hH (.Name "ValueError" p2) X.env)]:=by rfl):PV X (.Call (.Name "isinstance" p) [a,.Name "ValueError" p2] [] pos) (cN f):=by
 intro g s M H Q I ⟨j,G,d,rc,B,q⟩;obtain⟨t,w,B⟩:=zb B;cases t with
 | exc Y n=>
  cases B;refine tL (jP I (h.gl Z).1 z uG ?_ ⋯ ⋯);refine tW ?_ (by rw[hs];rfl) rfl;rw[hs];show wpAny _ _ (Cv ((dV,hH a X.env)::pk pos [(dV,hH (.Name "ValueError" p2) X.env)])) _ _ s;refine sX (kr (ha g s M H (λv i=>∃e,Ext j H e i/\Rep X.K e (.exc Y n) v) I ⟨j,G,_,rc,w,λv i e x r=>⟨e,x,r⟩⟩) λu E y=>?_);obtain⟨v,l,O,A,m,o,C⟩:=y;obtain⟨b,rfl,U⟩:=(show ∃b,v = .ref b/\B9 X.K m Y n b from C);cases (show u=sk b from A);show wpAny _ _ (Cv ((dV,hH (.Name "ValueError" p2) X.env)::[])) _ _ E;refine sX (jP O (h.gl J).1 zv bh ?_ (h.gl J).2.1 (h.gl J).2.2);refine uD ?_;refine V8 (r:=cT) O o.sub U (λP g1=>?_) λF=>⟨.bl cT,l,O.tok F,rfl,q _ l m o rfl⟩;obtain⟨S,_,W,_,_⟩:=kj U.all U.mem g1;unfold K9 at W;simp only[rY,beq_iff_eq]at W;exact W.1.1.1.1.1.1.1.1.1.2
 | _=>cases B
structure GL(K:rR)(mg:GV)(x:Str)(d:D):Prop where
 ex : ∃u v,mg x=aI u/\RelV v u/\∀H,Rep K H d v
theorem yo{x:Str}{d:D}(h:SX X sc N L k)(c:j3 sc x=cT)(z:GL X.K X.mg x d):PV X (.Name x pos) (zp d):=by intro b s j H Q I ⟨a,i,g,rc,B,q⟩;cases B;obtain⟨u,v,e,f,J⟩:=z.ex;exact qt I (h.gl c).1 e ⟨v,H,I,f,q v H a (Ext.refl rc.sub)<|J a⟩ (h.gl c).2.2
theorem Xo{Z p4:l0}{j:Nat}(h:SX X sc N L k)(c:j3 sc "isinstance" = cT)(z:X.mg "isinstance" = cI)(c2:j3 sc "list" = cT)(z2:X.mg "list" = cI)(c3:j3 sc "tuple" = cT)(z3:X.mg "tuple" = cI)(ha:PV X a f)
 (hs:lp [a,.Tuple [.Name "list" p2,.Name "tuple" Z] j p4] X.env=[(dV,hH a X.env),(dV,hH (.Tuple [.Name "list" p2,.Name "tuple" Z] j p4) X.env)]:=by rfl)
 (b5:lp [.Name "list" p2,.Name "tuple" Z] X.env=[(dV,hH (.Name "list" p2) X.env),(dV,hH (.Name "tuple" Z) X.env)]:=by rfl) :
 PV X (.Call (.Name "isinstance" p) [a,.Tuple [.Name "list" p2,.Name "tuple" Z] j p4] [] pos) (WI f):=by
 intro l s σ H Q I ⟨H0,γ,d,rc,ef,q⟩;obtain⟨d1,e1,e2⟩:=zm ef;subst e2;refine tL (jP I (h.gl c).1 z uG ?_ ⋯ ⋯);refine tW ?_ (by rw[hs];rfl) rfl;rw[hs];show wpAny _ _ (Cv ((dV,hH a X.env)::pk pos [(dV,hH (.Tuple [.Name "list" p2,.Name "tuple" Z] j p4) X.env)])) _ _ s;refine sX (kr (ha l s σ H (λv H'=>∃E,Ext H0 H E H'/\Rep X.K E d1 v) I ⟨H0,γ,d1,rc,e1,λv H' E x r=>⟨E,x,r⟩⟩) λu A hZ=>?_);obtain⟨x,T,I1,U,F,R,Y⟩:=hZ;show wpAny _ _ (Cv ((dV,hH (.Tuple [.Name "list" p2,.Name "tuple" Z] j p4) X.env)::[])) _ _ A;refine sX (Hy ?_);rw[b5];show wpAny _ _ (Cv ((dV,hH (.Name "list" p2) X.env)::pk p4 [(dV,hH (.Name "tuple" Z) X.env)])) _ _ A;refine sX (jP I1 (h.gl c2).1 z2 PyProof.Rows.boot_list ?_ (h.gl c2).2.1 (h.gl c2).2.2);show wpAny _ _ (Cv ((dV,hH (.Name "tuple" Z) X.env)::[])) _ _ A;refine sX (jP I1 (h.gl c3).1 z3 PyProof.Rows.boot_tuple ?_ (h.gl c3).2.1 (h.gl c3).2.2);refine uD ⟨by decide,?_⟩;refine uD ?_;have B:L2.Inv X l σ T {A with heap:=A.heap.push {cls:= .type "tuple",data:= .seq #[.type "list",.type "tuple"]},toks:=A.toks}:=I1.kept λb u e=>rT _ e;have tp:(A.heap.push {cls:= .type "tuple",data:= .seq #[.type "list",.type "tuple"]}).get? A.heap.objs.size=aI ⟨.type "tuple",cI,.seq [Ae "list",.type "tuple"].toArray 0,#[]⟩:=se _ rfl;have m : ∀tk,EP X l σ Q (.bool (K5 .list d1 || K5 .tuple d1)) {A with heap:=A.heap.push {cls:= .type "tuple",data:= .seq #[.type "list",.type "tuple"]},toks:=tk}:=λtk=>⟨.bl _,T,B.tok tk,rfl,q _ T F R rfl⟩;have any : ∀{t:eI} {b1 b2:Bool},sU X.K t (.type "list")=aI b1->sU X.K t (.type "tuple")=aI b2->PySem.W.kitAny X.K t [.type "list",.type "tuple"]=aI (b1 || b2):=λ{t b1 b2} g1 g2=>by
  unfold PySem.W.kitAny;rw[g1];cases b1 with
  | true=>rfl
  | false=>
   dsimp only;unfold PySem.W.kitAny;rw[g2];cases b2<;>rfl
 cases d1 with
 | hI=>cases (show x = .hI from Y);cases (show u=sR from U);exact ua BF B.m4 tN tp (any (jX .list .hI<|λ_ _ z=>nomatch z)<|jX .tuple .hI<|λ_ _ z=>nomatch z) (λz=>nomatch z) m
 | bl y=>cases (show x = .bl y from Y);cases (show u=Bm y from U);exact ua BG B.m4 tN tp (any (jX .list (.bl y)<|λ_ _ z=>nomatch z)<|jX .tuple (.bl y)<|λ_ _ z=>nomatch z) (λz=>nomatch z) m
 | int i=>cases (show x = .int i from Y);obtain⟨t,qq⟩:=(show ∃t,u=Aa i t from U);cases qq;exact ua BO B.m4 tN tp (any (jX .list (.int i)<|λ_ _ z=>nomatch z)<|jX .tuple (.int i)<|λ_ _ z=>nomatch z) (λz=>nomatch z) m
 | str y=>cases (show x = .str y from Y);obtain⟨t,qq⟩:=(show ∃t,u=AX y t from U);cases qq;exact ua BN B.m4 tN tp (any (jX .list (.str y)<|λ_ _ z=>nomatch z)<|jX .tuple (.str y)<|λ_ _ z=>nomatch z) (λz=>nomatch z) m
 | tup ds=>
  obtain⟨a,G,rfl,g,h2⟩:=qm Y;cases (show u=sk a from U);obtain⟨b8,rv,⟨o,ho,hc,_⟩,hz⟩:=B.tuple<|p6 R.sub g;exact ua Bw B.m4 ⟨o,ho,hc⟩ tp (any (jX .list (.tup ds)<|λ_ _ z=>nomatch z)<|jX .tuple (.tup ds)<|λ_ _ z=>nomatch z) (λz=>nomatch z) m
 | lst ds=>
  obtain⟨a,G,rfl,g,h2⟩:=Je Y;cases (show u=sk a from U);obtain⟨b8,rv,p,hz⟩:=B.list<|R.sub.seq g;obtain⟨o,ho,hc,_⟩:=p.isList;exact ua AM B.m4 ⟨o,ho,hc⟩ tp (any (jX .list (.lst ds)<|λ_ _ z=>nomatch z)<|jX .tuple (.lst ds)<|λ_ _ z=>nomatch z) (λz=>nomatch z) m
 | exc c n=>
  obtain⟨b,rfl,xr⟩:=(show ∃b,x = .ref b/\B9 X.K F c n b from Y);cases (show u=sk b from U);obtain⟨C,φ,g1,g2,g3,_⟩:=xr.ex;obtain⟨S,_,y1,_,_⟩:=kj xr.all xr.mem g1;obtain⟨p,_,_⟩:=(show m8 X.prog X.w T _ b (.ext φ)from B.iv b _<|R.sub _ _ g2);have ax:=y1;unfold K9 at ax;simp only[rY,Al,List.all_nil,beq_iff_eq]at ax;have t:=ax.1.1.1.1.1.1.1.1.1.1;exact ua (wA (ZQ y1)<|ZR y1) B.m4 (g3 _ p) tp (any t.2.2.2.2.1 t.2.2.2.1) (λz=>nomatch z) m
 | o6 M P=>
  obtain⟨a,G,rfl,⟨kk,_,_,o,g⟩,_⟩:=(show ∃a G,x = .ref a/\Dk F a M G/\g5 X.K F P G from Y);cases (show u=sk a from U);obtain⟨_,_,FN,_,dd⟩:=Kw B.iv<|.inr ⟨o,R.sub _ _ g⟩;exact ua uQ B.m4 dd.typeIs tp (any (jX .list (.o6 M P)<|λ_ _ z=>nomatch z)<|jX .tuple (.o6 M P)<|λ_ _ z=>nomatch z) (λz=>nomatch z) m
 | n9 M P=>
  obtain⟨a,G,rfl,⟨_,o,zs,g,h2,_⟩,_⟩:=(show ∃a G,x = .ref a/\El X.K F a M G/\g5 X.K F P G from Y);cases (show u=sk a from U);obtain⟨ho,_⟩:=(show m8 X.prog X.w T _ a (Fp a o)from B.iv a _<|R.sub _ _ g);exact ua uQ B.m4 ⟨o,ho,h2.1.1⟩ tp (any (jX .list (.n9 M P)<|λ_ _ z=>nomatch z)<|jX .tuple (.n9 M P)<|λ_ _ z=>nomatch z) (λz=>nomatch z) m
 | ins c p t=>
  obtain⟨a,C,dx,vp,vt,rfl,g,h2,_,_⟩:=(show ∃a C dx vp vt,x = .ref a/\DM X.K c=aI C/\F a=aI (.ins C dx<|EB vp vt)/\Rep X.K F p vp/\Rep X.K F t vt from Y);cases (show u=sk a from U);have ty:=We (xX g)<|R.sub _ _ h2;cases ty with
  | ins ea cl ha hn F8 hm=>
   obtain⟨mA,O,_⟩:=yM B.iv ea;obtain⟨od,J,_⟩:=O.look;exact ua (PySem.W.kitx_own (cl.get _) cl.hd ha hn F8 hm) B.m4 J tp (any (Jj (c:=c) (p:=p) (t:=t) (xX g) .list)<|Jj (c:=c) (p:=p) (t:=t) (xX g) .tuple) (λz=>nomatch z) m
theorem VQ{lo hi:Option g9}{Z:CO (Sk×List D)}{J O:CO (Option Int)}(ha:PQ X a Z)(U:L2.PO X lo (tB X.K J))(W:L2.PO X hi (tB X.K O)):PO X (.Subscript a (.Slice lo hi cI p2) pos) (iL Z J O):=
 z6 (wo WE ha U W) λE H Q Y=>by
  obtain⟨g,f,A,rc,z,q⟩:=Y;obtain⟨⟨o,es⟩,j,z⟩:=zb z;obtain⟨l,k,z⟩:=zb z;obtain⟨u,m,z⟩:=zb z;cases o with
  | T=>cases z
  | L=>
   cases z;refine⟨g,f,.L,es,rc,j,λb s t d x n C r=>⟨d,f,l,rc.ext x,k,λw h I=>⟨h,f,u,(rc.ext x).ext I,m,λy i B=>?_⟩⟩⟩;have S:=x.trans<|I.trans B;refine⟨b,s,rfl,(I.trans B).s1.seq n,λp e=>?_⟩;exact q p _ _ i (S.trans<|Ext.hide B.sub e _) (j1 S.s1 e) (zO B.sub e) zr<|JA (r.mono (I.trans B).s0) _ _
end
section
variable{K:rR}{mg:GV}{h:il}
theorem X4{c:Str}{C:eH}(z:K.In h)(G:h.Ns o7 mg)(e:va K c=aI C):mg c=aI (.ref C):=by
 unfold va at e;split at e
 ·rename_i B q
  cases e;exact uP z G q
 ·cases e
noncomputable def Gy(K:rR):Bool:=match va K "SplitError" with
 | some S=>AJ K (.ref S)==aI (.type "type") && uj K S (.type "BaseException")==aI cT && (AY K S).isSome && uj K S (.ref S)==aI cT
 | none=>dV
noncomputable def Gx(K:rR)(c:Str):Bool:=match va K c with
 | some C=>ic K C
 | none=>dV
theorem oU(z:K.In h)(G:h.Ns o7 mg)(e:Gy K=cT):XS K mg:=by
 unfold Gy at e;split at e
 ·rename_i S q
  simp only[rY,beq_iff_eq]at e;exact⟨S,q,X4 z G q,e.1.1.1,e.1.1.2,e.1.2,e.2⟩
 ·cases e
theorem oV{c:Str}(z:K.In h)(G:h.Ns o7 mg)(e:Jr K=cT)(I:c∈yg):XI K mg c:=by
 unfold Jr at e;split at e
 ·have a:=uy.mp e c I
  split at a
  ·rename_i C q
   exact⟨I,C,q,X4 z G q⟩
  ·cases a
 ·cases e
theorem oW{c:Str}(z:K.In h)(G:h.Ns o7 mg)(e:Jr K=cT)(I:c∈yg)(b:Gx K c=cT):XC K mg c:=by
 unfold Gx at b;split at b
 ·rename_i C q
  exact⟨e,I,C,q,X4 z G q,b⟩
 ·cases b
theorem nH{x:Str}{n:Int}{t:ro}(z:K.In h)(G:h.Ns o7 mg)(a:uw K o7 x=aI (aI (.int n t))):GL K mg x (.int n):=
 ⟨_,.int n,uP z G a,⟨t,rfl⟩,λ_=>(show V.int n = .int n from rfl)⟩
noncomputable def Ji:List eI->Option (List Int)
 | []=>aI []
 | .int i _::r=>(Ji r).map λl=>i::l
 | _::_=>cI
theorem kU : ∀{us:List eI} {I:List Int},Ji us=aI I->kA (I.map V.int) us
 | [],I,e=>by cases e;exact .nil
 | u::us,I,e=>by
  cases u with
  | int i t=>
   obtain⟨l,a,b⟩:=zm e;subst b;exact .cons ⟨t,rfl⟩<|kU a
  | _=>cases e
theorem kO{H:Hp} : ∀I:List Int,g5 K H (I.map D.int) (I.map V.int)
 | []=>g5.nil
 | n::I=>g5.cons (show V.int n = .int n from rfl)<|kO I
theorem lE{x:Str}{ad:eH}{B:Array eI}{m:Nat}{L:Array (Option eI)}(J:List Int)(I:K.In h)(G:h.Ns o7 mg)(a:uw K o7 x=aI (aI (.ref ad)))
 (l:K.lookup ad=aI ⟨.type "tuple",cI,.seq B m,L⟩) (v:Ji B.toList=aI J) (z:B.size<=l4):GL K mg x (.tup (J.map D.int)):=
 ⟨_,.ref ad,uP I G a,rfl,λH=>(show ∃b d,V.ref ad = .ref b/\mu K H b d/\g5 K H (J.map D.int) d from⟨ad,J.map V.int,rfl,.inr ⟨_,B,m,l,rfl,rfl,z,kU v⟩,kO J⟩)⟩
end
theorem qe(h:Dp X es n g):CY X es g:=h.1
section
variable{K:rR}{E0 E H0 H:Hp}{σ:St}{γ:Ctx}
theorem g5.dropLast : ∀{ds:List D} {xs:List V},g5 K H ds xs->g5 K H ds.dropLast xs.dropLast
 | [],xs,r=>by rw[r.xb];exact g5.nil
 | [d],xs,r=>by obtain⟨x,B,e,_,z⟩:=r.rp;rw[e,z.xb];exact g5.nil
 | d::d2::ds,xs,r=>by obtain⟨x,B,e,I,z⟩:=r.rp;obtain⟨J,O,a,_,_⟩:=z.rp;subst e a;exact g5.cons I<|g5.dropLast z
end
section
variable{X:Cx}{sc:l9}{N L:List Str}{k:Nat}{a b e:g9}{pos p p2:l0}{f g:CO D}
theorem J9{c:g9}{Z:CO D}(ha:PV X a Z){I:CO (Sk×List D)}(hb:PQ X c I)(hm:vr .NotIn c=dV:=by with_unfolding_all rfl):o4 X (.Compare a [.NotIn] [c] pos) (sB<|Q7 Z I):=
 yv (qI kR ha hb hm) λF H Q O=>by
  obtain⟨j,h,d,rc,z,q⟩:=O;obtain⟨A,S,U⟩:=zb z;obtain⟨x,o,z⟩:=zb S;obtain⟨⟨f,n⟩,s,z⟩:=zb z;obtain⟨i,W,z⟩:=zb z;obtain⟨l,Y,rfl⟩:=zm z;cases U;refine⟨j,h,x,rc,o,λJ y k g B=>⟨k,h,f,n,rc.ext g,s,λp E b m w e C r=>?_⟩⟩;rw[z7 W]at B;have t:=yK r Y;subst t;have u:l8 X.K b p (l.map V.int)\/mu X.K b p (l.map V.int):=by
   cases f with
   | L=>exact .inl e
   | T=>exact .inr e
  refine⟨p,_,rfl,u,by rw[show J = .int i from B];rfl,yQ l,?_⟩;rw[show J = .int i from B,Jk];exact⟨_,rfl,q b m<|g.trans w⟩
end
end DL
namespace L2
open PySem PySem.Spec PyProof.Rows
noncomputable def ER(z:Str):It:=⟨λi _=>i<z.cps.size,λi H x a=>a=H/\∃c,z.cps[i]? = aI c/\x = .str ⟨#[c]⟩,λi _=>z.cps.size<=i⟩
theorem Y6(z:Str):EJ z = "str_ascii_iterator"\/EJ z = "str_iterator":=by unfold EJ;split<;>simp
theorem Yf{P:m3}{w:l6}{K:rR}{tg:g9}(z:Str)(t:ro)(it:eH):Turn P w K tg (ER z) [it] it (λi h=>h.IsStrIter it (EJ z) z t i) where
 mem:=by simp
 obj:=λi h st b hb=>by
  have e:b=it:=by simpa using hb
  subst e;obtain⟨o,e,c,d⟩:=st;exact⟨o,e,λv q=>by rw[d]at q;cases q⟩
 keep:=λi h h' st k=>by obtain⟨o,e,r⟩:=st;exact⟨o,k it ⋯ o e,r⟩
 item:=by
  rintro X rfl rfl rfl hc i pins s σ H E I hf st Y;obtain⟨O,f1,f2,S,U,W⟩:=hf it ⋯;have hi:i<z.cps.size:=Y;have hx:z.cps[i]? = aI z.cps[i]:=by simp[hi]
  have a2 : ∀h',h'.IsStrIter it (EJ z) z t (i+1)->uV it s.heap h'->wpAny (hR X.prog X.w) X.A (EC tg (.ref it)<|.str ⟨#[z.cps[i]]⟩ s.toks)
   (λ_ s2=>∃x H',Inv X pins σ H' s2/\RelV x (.str ⟨#[z.cps[i]]⟩ s.toks)/\(ER z).CS i H x H'/\s2.heap.IsStrIter it (EJ z) z t (i+1)/\∀b ∈ [it],H' b=cI) E {s with heap:=h',toks:=s.toks+1}:=λh' B J=>by
   have I1:Inv X pins σ H {s with heap:=h',toks:=s.toks+1}:=I.turned (λb o hb e=>(J.2 b hb).trans e) O f1 S U W;obtain⟨o,e,c,d⟩:=id B;refine Vb (s:={s with heap:=h',toks:=s.toks+1}) e c d ?_ ⟨.str ⟨#[z.cps[i]]⟩,H,I1,⟨_,rfl⟩,⟨rfl,_,hx,rfl⟩,B,λb hb=>(hf b hb).1⟩;rcases Y6 z with q | q<;>rw[q]<;>decide
  rcases Y6 z with q | q
  ·rw[q]at st
   exact wpAny_pyNext_ascii_item st hx λh' B J=>⟨_,rfl,a2 h' (by rw[q];exact B) J⟩
  ·rw[q]at st
   exact wpAny_pyNext_wide_item st hx λh' B J=>⟨_,rfl,a2 h' (by rw[q];exact B) J⟩
 done:=by
  rintro X rfl rfl rfl hc i pins s σ H E I hf st Y;obtain⟨O,f1,f2,S,U,W⟩:=hf it ⋯;have hi:z.cps.size<=i:=Y;have hx:z.cps[i]? = cI:=by simp[hi]
  have hh:=I.ok.hd hc;rcases Y6 z with q | q
  ·rw[q]at st
   exact wpAny_pyNext_ascii_end hh st hx λh' eb=>⟨rfl,I.turned (t':=s.toks) (λb o hb e=>eb b o hb e) O f1 S U W⟩
  ·rw[q]at st
   exact wpAny_pyNext_wide_end hh st hx λh' eb=>⟨rfl,I.turned (t':=s.toks) (λb o hb e=>eb b o hb e) O f1 S U W⟩
 self:=λA i s Q E st h=>by
  rcases Y6 z with q | q
  ·rw[q]at st;exact wpAny_pyIter_striter_ascii st h
  ·rw[q]at st;exact wpAny_pyIter_striter_wide st h
noncomputable def pX(I:TE):TI:=λb H R=>I b H λx a=>∃z,x = .str z/\R (ER z) a
theorem dC{X:Cx}{W l:g9}{L:TE}(J:PE X l L):PI X W l (pX L):=by
 intro a s i H R I h;refine kr (J a s i H _ I h) λv d O=>?_;obtain⟨x,f,B,S,U⟩:=O;obtain⟨z,rfl,q⟩:=U;obtain⟨t,rfl⟩:=S;refine wpAny_pyIter_strU ?_;refine⟨d.heap.objs.size,[d.heap.objs.size],_,_,f,rfl,B.kept (t':=d.toks) λb o e=>rT _ e,Yf z t _,⟨_,se _ rfl,rfl,rfl⟩,λb g=>?_,q⟩;have e:b=d.heap.objs.size:=by simpa using g
 subst e;exact B.C6 (sf _)<|B.iv.fresh<|sf _
theorem Vj{X:Cx}{L:GW}{σ:St}{H:Hp}{s:g8}{E:GQ}{z it:eH}{i Z:Nat}{x:eI}{v:V}{g:il}{elts:List g9}{x1:Nat}{u4:l0}{Q:Unit->g8->Prop}
 (I:Inv X L σ H s) (hf : ∀b ∈ [z,it],kW X L H b) (S:z<s.heap.objs.size) (hi:it<s.heap.objs.size) (U:IsEnumOut g z it ((i:Int)+1) x s.heap.objs.size)
 (W:r9 g s.heap.objs.size (.int i Z) x) (Y : ∀b o,b≠z->b≠it->s.heap.get? b=aI o->g.get? b=aI o) (rx:RelV v x)
 (a4 : ∀B,IsEnum B z it ((i+1:Nat):Int) x->uV z g B->Inv X L σ (upd H s.heap.objs.size<|.tup [.int i,v]) {s with heap:=B,toks:=Z+1}->H s.heap.objs.size=cI->
   (∀b ∈ [z,it],upd H s.heap.objs.size (.tup [.int i,v]) b=cI)->Q () {s with heap:=B,toks:=Z+1}) :
 wpAny (hR X.prog X.w) X.A (EC (.Tuple elts x1 u4) (.ref z)<|.ref s.heap.objs.size) Q E {s with heap:=g,toks:=Z+1}:=by
 refine wpAny_letOwnedTupleGo_enum U λB d O=>?_;have f:r9 B s.heap.objs.size (.int i Z) x:=O.extBut _ _ (uB S) W;have j : ∀J u,J ∉ [z,it]->s.heap.get? J=aI u->B.get? J=aI u:=λJ u a e=>by simp only[sd,sD,or_false,not_or]at a;exact O.extBut _ _ a.1<|Y J u a.1 a.2 e
 refine a4 B (by have:=d;rwa [show((i:Int)+1)=((i+1:Nat):Int)by omega]at this) O (I.FL (fp:=[z,it]) j hf (sf _) ⟨by show 2<=l4;decide,[.int i Z,x],.cons ⟨_,rfl⟩<|.cons rx .nil,⟨_,f,rfl,_,rfl⟩⟩) I.fresh λJ a=>?_;have h:J≠s.heap.objs.size:=by
  simp only[sd,sD,or_false]at a;rcases a with rfl | rfl
  ·exact sr S
  ·exact sr hi
 rw[zw h];exact(hf J a).1
noncomputable def mQ(K:rR)(a:eH):It:=
 ⟨λi H=>∃b,l8 K H a b/\i<b.length,
  λi H x d=>∃p u,x = .ref p/\H p=cI/\d=upd H p (.tup [.int i,u])/\(∀b,l8 K H a b->b[i]? = aI u),
  λi H=>∃b,l8 K H a b/\b.length=i⟩
theorem J1{P:m3}{w:l6}{K:rR}{elts:List g9}{x1:Nat}{u4:l0}{z it a:eH}(a7:z≠it) :
 Turn P w K (.Tuple elts x1 u4) (mQ K a) [z,it] z (λi h=>(∃O,IsEnum h z it i O)/\h.IsListIter it a i) where
 mem:=by simp
 obj:=λi h ⟨⟨O,B⟩,h1⟩ y hy=>by
  simp only[sd,sD,or_false]at hy;rcases hy with rfl | rfl
  ·exact⟨_,B,λv q=>by cases q⟩
  ·obtain⟨o,e,c,d⟩:=h1
   exact⟨o,e,λv q=>by rw[d]at q;cases q⟩
 keep:=λi h h' ⟨⟨O,B⟩,h1⟩ k=>⟨⟨O,k z ⋯ _ B⟩,h1.at λo e=>k it ⋯ o e⟩
 item:=by
  rintro X rfl rfl rfl hc i pins s σ H E I hf ⟨⟨O,B⟩,h1⟩ ⟨xs,U,an⟩;obtain⟨W,Y,p1,z1⟩:=I.list U;have S:=p1.isList;have hx:xs[i]? = aI xs[i]:=rV an;have l1:=Y.length;have a9:a≠it:=λe=>by obtain⟨o,e1,J,_⟩:=S;obtain⟨o2,e2,c2,_⟩:=h1;rw[e,e2]at e1;cases e1;rw[c2]at J;exact absurd J ⋯
  have as:z≠a:=λe=>by obtain⟨o,e1,J,_⟩:=S;have am:s.heap.get? z=aI _:=B;rw[e,e1]at am;cases am;exact absurd J ⋯
  have ax:it<s.heap.objs.size:=by obtain⟨o2,e2,_⟩:=h1;exact sg e2
  have Dr:=Draws.list (prog:=X.prog) (w:=X.w) (A:=X.A.in1) (show X.A.in1.handled=cI from I.ok.hd hc) it a a9 W.toArray;refine wpAny_pyNext_enum_itemD Dr B ⟨h1,S⟩ (by simp;omega) a7 (by simp;exact⟨a7,as⟩) λx g tk hP a1 a2 a3 a4 a5=>⟨_,rfl,?_⟩;obtain⟨u1,b8,b9⟩:=Y.get hx;obtain rfl:u1=x:=by have:=hP;simp[b8]at this;exact this
  refine Vj I hf (sg B) ax a1 a3 a5 b9 λg2 b1 b2 I1 bg hn=>⟨.ref s.heap.objs.size,_,I1,rfl,⟨_,_,rfl,bg,rfl,λc3 bi=>by rw[I.FD bi U];exact hx⟩,⟨⟨_,b1⟩,a2.1.at λo e=>b2.extBut _ _ a7.symm e⟩,hn⟩
 done:=by
  rintro X rfl rfl rfl hc i pins s σ H E I hf ⟨⟨O,B⟩,h1⟩ ⟨xs,U,hi⟩;obtain⟨W,Y,p1,z1⟩:=I.list U;have S:=p1.isList;have l1:=Y.length;have a9:a≠it:=λe=>by obtain⟨o,e1,J,_⟩:=S;obtain⟨o2,e2,c2,_⟩:=h1;rw[e,e2]at e1;cases e1;rw[c2]at J;exact absurd J ⋯
  have Dr:=Draws.list (prog:=X.prog) (w:=X.w) (A:=X.A.in1) (show X.A.in1.handled=cI from I.ok.hd hc) it a a9 W.toArray;have en:W.toArray.size=i:=by simp;omega
  rw[en]at Dr;refine wpAny_pyNext_enum_endD Dr B ⟨h1,S⟩ λg hk=>⟨rfl,?_⟩;refine I.Dx (t':=s.toks) (fp:=[z,it]) (λb' u hb e=>?_) hf;simp only[sd,sD,or_false,not_or]at hb;exact hk b' u hb.2 e
 self:=λ_ _ _ _ _ st h=>xW st.1.choose_spec h
noncomputable def eY(K:rR)(I:TA):TI:=λf H R=>I f H λd b=>∃a,d=[.ref a]/\(∃e,l8 K b a e)/\R (mQ K a) b
section
variable{X:Cx}{e1:g9}{ta:TA}{p pos:l0}{elts:List g9}{x1:Nat}{u4:l0}
theorem YF(O:Gl X "enumerate")(Z:X.mg "enumerate" = cI)(L:PA X [e1] ta)
 (S:C0 "enumerate" = aI (.type "enumerate")) (hs:lp [e1] X.env=[(dV,hH e1 X.env)]:=by rfl) :
 PI X (.Tuple elts x1 u4) (.Call (.Name "enumerate" p) [e1] [] pos) (eY X.K ta):=by
 intro b s n H R I h;refine Call_<|jP I O Z S<|tq (kr (L pos b s n H _ I h) λu d U=>?_) (by rw[hs];rfl) rfl;obtain⟨w,f,z,W,Y⟩:=U;obtain⟨a,rfl,⟨y,i⟩,q⟩:=Y;obtain⟨x,rfl,j⟩:=qC W;cases j;obtain⟨o,r,m,A⟩:=z.list i;refine call_enumerate_list m.isList λg B k t l=>xW (s:={d with heap:=g}) B ?_;refine⟨_,[d.heap.objs.size+1,d.heap.objs.size],_,_,f,rfl,z.kept (t':=d.toks) l,J1<|uB<|uz _,⟨⟨_,B⟩,k⟩,λc e=>?_,q⟩;have J:d.heap.objs.size<=c:=by
  simp only[sd,sD,or_false]at e;rcases e with rfl | rfl
  ·exact tD _ _
  ·exact sf _
 exact z.C6 J<|z.iv.fresh J
end
theorem cF{X:Cx}:Et X (λx lo L H Q=>∃z,x = .str z/\z.length<=l4/\Q (.str<|Txt.slice z lo L) H):=by
 rintro a s g H x v W Y lo L h Q I S ⟨o,B,b,d⟩ f U ⟨z,rfl,J,q⟩;obtain⟨t,rfl⟩:=S;have O : ∀e k,EP X a g Q (.str (Txt.slice z lo L) e) {s with toks:=k}:=λe k=>⟨.str _,H,I.tok k,⟨_,rfl⟩,q⟩;refine⟨"str",_,F.slot_str_getitem.lookup,BI _ _ _,?_⟩;cases f<;>cases U
 ·exact Aw (l:=cI) (u:=cI) (st:=cI) ⟨o,B,b,d⟩ rfl<|BC ⟨sF (Ca z _ _) J,O⟩
 ·exact Aw (l:=cI) (u:=aI (_,_)) (st:=cI) ⟨o,B,b,d⟩ rfl<|BC ⟨sF (Ca z _ _) J,O⟩
 ·exact Aw (l:=aI (_,_)) (u:=cI) (st:=cI) ⟨o,B,b,d⟩ rfl<|BC ⟨sF (Ca z _ _) J,O⟩
 ·exact Aw (l:=aI (_,_)) (u:=aI (_,_)) (st:=cI) ⟨o,B,b,d⟩ rfl<|BC ⟨sF (Ca z _ _) J,O⟩
end L2
namespace DL
open PySem PySem.Spec PyProof.Rows L2
theorem wZ(z:Str):(kN z).length=z.cps.size:=by simp[kN]
theorem Yk(z:Str){i c:Nat}(h:z.cps[i]? = aI c):(kN z)[i]? = aI (.str ⟨#[c]⟩):=by simp[kN,h]
theorem Yd{K:rR}{H0 I:Hp}(z:Str):Walk K H0 I (ER z) (kN z):=by
 refine⟨λi b s a=>?_,λb s=>?_,λi b x e s a y=>?_⟩
 ·rw[wZ]at a;exact a
 ·rw[wZ];exact sf _
 ·obtain⟨rfl,c,f,rfl⟩:=y
  exact⟨_,Yk z f,λd h g=>⟨d,Ext.refl g,rfl⟩⟩
theorem JX{K:rR}{H0 J:Hp}{a:eH}{xs:List V}{ds:List D}(h:l8 K J a xs)(r:g5 K H0 ds xs):Walk K H0 J (mQ K a) (vm ds):=by
 have B:=r.length;have I:(vm ds).length=ds.length:=by simp[vm]
 refine⟨λi b s l=>?_,λb s=>?_,λi b x j s l y=>?_⟩
 ·exact⟨xs,s.seq h,by omega⟩
 ·exact⟨xs,s.seq h,by omega⟩
 ·obtain⟨p,u,rfl,e,rfl,z⟩:=y
  obtain⟨d,k,m⟩:=r.D7<|z xs<|s.seq h;refine⟨.tup [.int i,d],?_,λg n f=>⟨upd g p<|.tup [.int i,u],Ext.alloc f e _,?_⟩⟩
  ·unfold vm
   rw[sV,List.getElem?_range ⋯,Option.map_some,k];rfl
  ·exact jS (mu.of zr)<|g5.cons (show V.int i = .int i from rfl)<|g5.cons ((m.mono n).mono (zN (zO f e) _)) g5.nil
theorem xK : ∀l:List Str,(l.map V.str).all vj=cT
 | []=>rfl
 | i::l=>by simp only[sL,Al,xK l,Bool.and_true];rfl
section
variable{X:Cx}{sc:l9}{N L:List Str}{k:Nat}{a b e:g9}{pos p p2:l0}{f fa fb:CO D}
theorem XA{S:g9}(O:PV X a f):n6 X S a (Q5 f):=
 wm (dC O) λk H R I=>by
  obtain⟨i,j,e,rc,B,q⟩:=I;obtain⟨d,J,B⟩:=zb B;cases d with
  | str z=>
   by_cases g:zV z=cT
   ·have B:(if zV z=cT then aI (kN z)else cI)=aI e:=B
    rw[GK g]at B;cases B;exact⟨i,j,_,rc,J,λv h b x r=>⟨z,r,q _ h b x<|Yd z⟩⟩
   ·have B:(if zV z=cT then aI (kN z)else cI)=aI e:=B
    rw[GX g]at B;cases B
  | _=>cases B
theorem Z8(h:SX X sc N L k)(c:j3 sc "enumerate" = cT)(z:X.mg "enumerate" = cI)(W:PV X a f)(hs:lp [a] X.env=[(dV,hH a X.env)]:=by rfl) :
 n6 X (.Tuple elts x1 u4) (.Call (.Name "enumerate" p) [a] [] pos) (Jz f):=
 wm (YF (h.gl c).1 z (zK W jc hs) boot_enumerate hs) λn H R J=>by
  obtain⟨g,j,l,rc,B,q⟩:=J;obtain⟨d,O,B⟩:=zb B;cases d with
  | lst m=>
   cases B;refine⟨g,j,_,rc,O,λv e b x r=>?_⟩;obtain⟨S,i,rfl,I,U⟩:=Je r;exact⟨S,rfl,⟨i,x.sub.seq I⟩,q _ e b x<|JX I U⟩
  | _=>cases B
theorem Xp(Y:PV X a fa){g:CO (Sk×List D)}(Z:PQ X b g)(hm:vr .In b=dV:=by with_unfolding_all rfl):PV X (.Compare a [.In] [b] pos) (bC fa g):=
 z6 (wq yB Y Z hm) λE H Q I=>by
  obtain⟨k,j,d,rc,z,q⟩:=I;obtain⟨x,n,z⟩:=zb z;obtain⟨⟨h,m⟩,o,z⟩:=zb z;cases x with
  | str w=>
   obtain⟨l,J,rfl⟩:=zm z;refine⟨k,j,_,rc,n,λO u S i B=>⟨S,j,h,m,rc.ext i,o,λp C e U W f A r=>?_⟩⟩;have s:=qD r J;subst s;have t:l8 X.K e p (l.map V.str)\/mu X.K e p (l.map V.str):=by
    cases h with
    | L=>exact .inl f
    | T=>exact .inr f
   have B:O = .str w:=B;subst B;refine⟨p,_,rfl,t,rfl,xK l,?_⟩;have:CN (.str w) (l.map V.str)=l.any λy=>y==w:=by unfold CN;rw[List.any_map];rfl
   rw[GX sh,this];exact q _ e U (i.trans W) rfl
  | _=>cases z
theorem WS(Z:PV X a fa)(hb:PV X b fb):PV X (.BinOp a .Add b pos) (cR fa fb):=
 z6 (YG Qk Z hb) λo H Q B=>by
  obtain⟨h,g,d,rc,z,q⟩:=B;obtain⟨x,j,z⟩:=zb z;obtain⟨y,k,z⟩:=zb z;cases x with
  | str u=>
   cases y with
   | str w=>
    by_cases e:zV u=cT/\zV w=cT
    ·have z:(if zV u=cT/\zV w=cT then aI (D.str<|u++w)else cI)=aI d:=z
     rw[GK e]at z;cases z;refine⟨h,g,_,rc,j,λW l I f J=>⟨I,g,_,rc.ext f,k,λY i O S U=>⟨u,w,J,U,?_,q _ i O (f.trans S) rfl⟩⟩⟩;have m:=qW e.1;have n:=qW e.2;have:2000<=l4:=by decide
     omega
    ·have z:(if zV u=cT/\zV w=cT then aI (D.str<|u++w)else cI)=aI d:=z
     rw[GX e]at z;cases z
   | _=>cases z
  | _=>cases z
theorem Zf{lo Z:Option g9}{I J:CO (Option Int)}(ha:PV X a f)(U:L2.PO X lo (tB X.K I))(W:L2.PO X Z (tB X.K J)):PV X (.Subscript a (.Slice lo Z cI p2) pos) (bz f I J):=
 z6 (wo cF ha U W) λy H Q Y=>by
  obtain⟨h,g,d,rc,B,q⟩:=Y;obtain⟨O,m,B⟩:=zb B;obtain⟨l,n,B⟩:=zb B;obtain⟨u,o,B⟩:=zb B;refine⟨h,g,O,rc,m,λv t b x r=>⟨b,g,l,rc.ext x,n,λw j S=>⟨j,g,u,(rc.ext x).ext S,o,λi k p=>?_⟩⟩⟩;have s:=x.trans<|S.trans p;cases O with
  | str z=>
   by_cases e:zV z=cT
   ·have B:(if zV z=cT then aI (D.str<|Txt.slice z l u)else cI)=aI d:=B
    rw[GK e]at B;cases B;exact⟨z,r,vB e,q _ i k s rfl⟩
   ·have B:(if zV z=cT then aI (D.str<|Txt.slice z l u)else cI)=aI d:=B
    rw[GX e]at B;cases B
  | _=>cases B
end
section
variable{K:rR}{mg:GV}{h:il}
noncomputable def ZW:List eI->Option (List Str)
 | []=>aI []
 | .str i _::r=>(ZW r).map λl=>i::l
 | _::_=>cI
theorem kM : ∀{us:List eI} {I:List Str},ZW us=aI I->kA (I.map V.str) us
 | [],I,e=>by cases e;exact .nil
 | u::us,I,e=>by
  cases u with
  | str i t=>
   obtain⟨l,a,b⟩:=zm e;subst b;exact .cons ⟨t,rfl⟩<|kM a
  | _=>cases e
theorem qG{H:Hp} : ∀I:List Str,g5 K H (I.map D.str) (I.map V.str)
 | []=>g5.nil
 | n::I=>g5.cons (show V.str n = .str n from rfl)<|qG I
theorem lD{x:Str}{ad:eH}{B:Array eI}{m:Nat}{L:Array (Option eI)}(J:List Str)(I:K.In h)(G:h.Ns o7 mg)(a:uw K o7 x=aI (aI (.ref ad)))
 (l:K.lookup ad=aI ⟨.type "tuple",cI,.seq B m,L⟩) (v:ZW B.toList=aI J) (z:B.size<=l4):GL K mg x (.tup (J.map D.str)):=
 ⟨_,.ref ad,uP I G a,rfl,λH=>(show ∃b d,V.ref ad = .ref b/\mu K H b d/\g5 K H (J.map D.str) d from⟨ad,J.map V.str,rfl,.inr ⟨_,B,m,l,rfl,rfl,z,kM v⟩,qG J⟩)⟩
end
end DL
namespace DL
open PySem L2 PyProof.Rows
open PySem.W (KasT kas_sort kas_asc kas_desc kas_tail3 kas_descPart kas_count kas_place kas_bin kas_rev)
noncomputable def Good{I:Type}(n:Nat)(P:I->Prop):KasT I->Prop
 | .ret a=>P a
 | .ask i j k=>i<n/\j<n/\∀b,Good n P<|k b
theorem Good.mono{I:Type}{n:Nat}{P z:I->Prop}(h : ∀a,P a->z a) : ∀{t:KasT I},Good n P t->Good n z t
 | .ret a,g=>h a g
 | .ask i j k,g=>⟨g.1,g.2.1,λb=>(g.2.2 b).mono h⟩
theorem Good.bind{I β:Type}{n:Nat}{P:I->Prop}{z:β->Prop}{f:I->KasT β}(J : ∀a,P a->Good n z (f a)) : ∀{t:KasT I},Good n P t->Good n z (t.bind f)
 | .ret a,g=>J a g
 | .ask i j k,g=>⟨g.1,g.2.1,λb=>(g.2.2 b).bind J⟩
theorem Good.run : ∀{t:KasT α},Good n P t->P (cS lt t)
 | .ret a,g=>g
 | .ask i j k,g=>(g.2.2 _).run
def Pm(n:Nat)(p:Array Nat):Prop:=p.toList.Perm<|tJ n
theorem Pm.lt(h:Pm n p)(I:0<n)(i:Nat):p.getD i 0<n:=by
 by_cases a:i<p.size
 ·have e:p.getD i 0=p[i]:=by simp[Array.getD,a]
  rw[e];exact Az.mp<|h.mem_iff.mp ⋯
 ·have e:p.getD i 0=0:=by simp[Array.getD,a]
  rw[e];exact I
theorem Pm.rev(h:Pm n p)(i j:Nat):Pm n (kas_rev p i j):=(Array.perm_iff_toList_perm.mp<|mirror_perm p i j _).trans h
theorem Pm.GJ(h:Pm n p)(i j:Nat):Pm n (bubble p i j):=(Array.perm_iff_toList_perm.mp<|bubble_perm p i j).trans h
theorem wC(h:Pm n p)(I:0<n) : ∀f m,Good n (λ_=>True) (kas_asc p f m)
 | 0,m=>trivial
 | f+1,m=>⟨h.lt I _,h.lt I _,λb=>by
  cases b with
  | true=>exact trivial
  | false=>exact wC h I f<|m+1⟩
theorem xY(I:0<n) : ∀f p m q,Pm n p->Good n (λr=>Pm n r.1) (kas_desc f p m q)
 | 0,p,m,q,h=>h
 | f+1,p,m,q,h=>⟨h.lt I _,h.lt I _,λb=>by
  cases b with
  | true=>
   show Good n _ (if q>0 then _ else _);split
   ·exact xY I f _ _ _<|h.rev _ _
   ·exact xY I f _ _ _ h
  | false=>exact⟨h.lt I _,h.lt I _,λd=>by
   cases d with
   | true=>exact h
   | false=>exact xY I f _ _ _ h⟩⟩
theorem Zz{n:Nat}(I:0<n)(m r:Nat){p:Array Nat}(h:Pm n p):Good n (λr=>Pm n r.2) (kas_tail3 m r p):=by unfold kas_tail3;refine Good.bind (P:=λ_=>True) (λa _=>?_)<|wC (h.rev _ _) I _ _;exact(show Pm n (kas_rev p 0 m)from h.rev _ _)
theorem ZC{n:Nat}(I:0<n)(m r:Nat){p:Array Nat}(h:Pm n p):Good n (λr=>Pm n r.2) (kas_descPart m r p):=
 (xY I _ _ _ _ h).bind λa b=>by
   show Good n _ (if a.2.2>0 then _ else _);split
   ·exact Zz I _ _<|Pm.rev b _ _
   ·exact Zz I _ _ b
theorem QA{n:Nat}(I:0<n)(r:Nat){p:Array Nat}(h:Pm n p):Good n (λr=>Pm n r.2) (kas_count r p):=
 (wC h I _ _).bind λm _=>by
   show Good n _ (if (m==r)=cT then _ else if m>1 then _ else _);split
   ·exact h
   ·split
    ·exact⟨h.lt I _,h.lt I _,λc=>by
      cases c with
      | true=>exact h
      | false=>exact ZC I _ _<|h.rev _ _⟩
    ·exact ZC I _ _ h
theorem kz(I:0<n)(h:Pm n p)(k:Nat) : ∀f l r,Good n (λ_=>True) (kas_place p k f l r)
 | 0,l,r=>trivial
 | f+1,l,r=>by
  show Good n _ (if l>=r then _ else _);split
  ·exact trivial
  ·exact⟨h.lt I _,h.lt I _,λc=>by
    cases c with
    | true=>exact kz I h k f _ _
    | false=>exact kz I h k f _ _⟩
theorem JP{n:Nat}(I:0<n) : ∀f p k,Pm n p->Good n (Pm n) (kas_bin f p k)
 | 0,p,k,h=>h
 | f+1,p,k,h=>(kz I h k k 0 k).bind λl _=>JP I f _ _<|h.GJ _ _
theorem ZA{n:Nat}(I:0<n):Good n (Pm n) (kas_sort n):=
 (QA I n<|show Pm n (List.toArray<|tJ n)from List.Perm.refl _).bind λr a=>by
   show Good n _ (if r.1<n then _ else _);split
   ·exact JP I _ _ _ a
   ·exact a
theorem qY(ps:List (Int×Int)):(qA ps).Perm (tJ ps.length):=by
 unfold qA;split
 ·exact List.Perm.refl _
 ·exact(ZA ⋯).run
theorem vg(d:α) : ∀ds:List α,(tJ ds.length).map (λi=>ds.getD i d)=ds:=λds=>by
 apply List.ext_getElem?;intro i;by_cases a:i<ds.length
 ·simp[a]
 ·simp[a,Nat.not_lt.mp a]
end DL
namespace DL
open PySem PySem.Spec PyProof.Rows L2
open PySem.W (KasT kas_sort kas_ask kat_run kat_snds kat_lt kat_cons kat_no kat_yes kat_nil kat_go kat_one kat_kind KatTups KatGo)
theorem Kl(I : ∀i j C,i<n->j<n->C (lt i j) s->cmp i j C s) :
 ∀{t:KasT α},Good n P t->Q (cS lt t) s->t.kasWp cmp Q s
 | .ret _,_,q=>q
 | .ask i j k,g,q=>I i j _ g.1 g.2.1<|Kl I (g.2.2 _) q
noncomputable def EV(h:il)(v:eI)(k l:Int):Prop:=∃x o a m t u,v = .ref x/\h.get? x=aI o/\o.cls = .type "tuple"/\o.data = .seq a m/\a.toList=[.int k t,.int l u]
theorem EV.one(a:EV h v k l):fO h v k:=by obtain⟨x,o,e,m,t,u,b,d,z,B,I⟩:=a;exact⟨x,o,e,m,t,b,d,z,B,by rw[<- Array.getElem?_toList,I];rfl⟩
section
variable{X:Cx}
theorem w9{K:rR}{H:Hp}{ds:List D}{xs:List V}(r:g5 K H ds xs) : ∀(o:List Nat),(∀i∈o,i<xs.length)->g5 K H (o.map λi=>ds.getD i .hI) (o.map λi=>xs.getD i .hI)
 | [],_=>g5.nil
 | i::o,h=>by have a:=h i sP;obtain⟨d,b,z⟩:=r.D7<|rV a;refine g5.cons ?_ (w9 r o λj B=>h j<|sv _ B);show Rep K H (ds.getD i .hI) (xs.getD i .hI);rw[sY,sY,rV a,b];exact z
end
section
variable{X:Cx}{a b c:g9}{pos:l0}{fa fb fc:CO D}
theorem Xt{O S:CmpOp}{r W:R2}{F G:D->D->Option D}(ho:m6 X (p5 O) r)(L:m6 X (p5 S) W)(s1:p9 X.K r F)(s2:p9 X.K W G)(ha:PV X a fa)(hb:PV X b fb)(hc:PV X c fc)
 (hm:Fy [O,S] [b,c]=dV:=by with_unfolding_all rfl):o4 X (.Compare a [O,S] [b,c] pos) (sB<|vC F G fa fb fc):=
 yv (Yw ho L ha hb hc hm) λσ H Q hZ=>by
  obtain⟨i,h,kq,rc,w,q0⟩:=hZ;obtain⟨d,B,e9⟩:=zb w;have q : ∀v f e,Ext i H e f->Rep X.K e d v->∃k,v = .bl k/\Q k f:=λv f e x Y=>by rw[kc e9]at Y;exact⟨kq,Y,q0 f e x⟩
  obtain⟨x,N,B⟩:=zb B;obtain⟨y,P,B⟩:=zb B;obtain⟨k,R,B⟩:=zb B;obtain⟨l,T,m⟩:=zb R;refine⟨i,h,x,rc,N,λv1 H1 A g r1=>⟨A,h,y,rc.ext g,P,λo p C I n=>s1 C p v1 o x y l _ I.sub (r1.mono I.s0) n T λv3 s j J r3=>?_⟩⟩;cases l with
  | bl k'=>
   cases m;refine⟨k,show v3 = .bl k from r3,?_⟩;cases k with
   | true=>
    rw[GK rfl];rw[GK rfl]at B;obtain⟨z,Z,e7⟩:=zb B;exact⟨j,h,z,((rc.ext g).ext I).ext J,Z,λv4 t E U r4=>s2 E t o v4 y z d _ U.sub ((n.mono J.s0).mono U.s0) r4 e7 λv5 u M x5 r5=>q v5 u M (((g.trans I).trans J).trans (U.trans x5)) r5⟩
   | false=>
    rw[GX ⋯];rw[GX ⋯]at B;cases B;exact q _ s j ((g.trans I).trans J) rfl
  | _=>cases m
end
end DL
namespace DL
open PySem PySem.Spec PyProof.Rows L2
theorem vZ{H:Hp}{x:eH}{o I:HO}:upd (upd H x o) x I=upd H x I:=by
 funext b;by_cases h:b=x
 ·subst h;rw[zr,zr]
 ·rw[zw h,zw h,zw h]
noncomputable def aV:l7->List l7
 | .ClassDef _ _ _ b _ _ _ _ _ _ _=>b
 | _=>[]
def aJ(st:l7)(j:Nat):l7:=(aV st).getD j (.Pass ⟨0,0,0,0⟩)
theorem vP : ∀{ds:List D} {I:List Int},Zx ds=aI I->Zt ds=aI (I.map uq)
 | [],I,e=>by cases e;rfl
 | d::ds,I,e=>by
  cases d with
  | int i=>
   obtain⟨l,a,b⟩:=zm e;subst b;show((eV<|.int i).bind λk=>(Zt ds).map λr=>k::r)=_;rw[vP a];rfl
  | _=>cases e
theorem vJ : ∀(ps acc:List (Key×V)),((acc++ps).map (·.1)).Nodup->Yu acc ps=acc++ps
 | [],acc,_=>by simp[Yu]
 | (k,v)::ps,acc,h=>by
  have e : ¬((acc.any λa=>decide<|a.1=k)=cT):=λq=>by obtain⟨a,b,d⟩:=List.any_eq_true.mp q;rw[List.map_append,sL]at h;have:=(List.nodup_append.mp h).2.2 a.1 (BX.mpr ⟨a,b,rfl⟩) k ⋯;exact this<|of_decide_eq_true d
  show Yu (QM acc k v) ps=_;rw[show QM acc k v=acc++[(k,v)]by unfold QM;rw[GX e]];rw[vJ ps (acc++[(k,v)]) (by simpa using h)];simp
theorem Zo : ∀{I:List Int},I.Nodup->(I.map<|uq (β:=Str)).Nodup
 | [],_=>by simp
 | n::I,h=>by simp only[sL,Aj,BX,uq.injEq,exists_eq_right]at h ⊢;exact⟨h.1,Zo h.2⟩
section
variable{X:Cx}{pins:GW}{σ:St}{H:Hp}{s:g8}{p:eH}{n4:List (Key×V)}
theorem Inv.GZ(I:Inv X pins σ H s)(L:H p=aI (.dK n4)) : ∃o,Inv X pins σ (upd H p<|.t8 o<|.dK n4) s:=by
 have B:=(show m8 X.prog X.w H s.heap p (.dK n4)from I.iv p _ L);obtain⟨o,J⟩ : ∃o,s.heap.get? p=aI o:=by obtain⟨_,_,_,_,o,_,_,e,_⟩:=B;exact⟨_,e⟩
 exact⟨o,I.write (x:=p) (e:=p) (o:= .t8 o (.dK n4)) (t':=s.toks) (h':=s.heap) (by rw[L];exact tN) (.inl rfl) (λb q a z=>z) ⟨_,J⟩ ⟨J,B⟩⟩
end
theorem wD{K:rR}{H:Hp}{i:Int} : ∀{ks vs:List D} {L:List Key} {xs:List V},Zt ks=aI L->L.length=xs.length->g5 K H vs xs->
 (∀d,QQ ks vs i=aI d->∃v,Jt (L.zip xs) (uq i)=aI v/\Rep K H d v)/\(QQ ks vs i=cI->Jt (L.zip xs) (uq i)=cI)
 | [],vs,L,xs,e,l,r=>by cases e;exact⟨(λd q=>by cases q),λ_=>rfl⟩
 | k::ks,[],L,xs,e,l,r=>by rw[r.xb]at l ⊢;rw[List.length_eq_zero_iff.mp l];exact⟨(λd q=>by cases q),λ_=>rfl⟩
 | k::ks,v::vs,L,xs,e,l,r=>by
  obtain⟨f,a,g⟩:=zb e;obtain⟨B,O,S⟩:=zm g;subst S;obtain⟨x,I,rfl,h,m⟩:=r.rp;have J:=wD (i:=i) O (by simpa using l) m;have step:f≠uq i->Jt ((f::B).zip (x::I)) (uq i)=Jt (B.zip I) (uq i):=λb=>by rw[AO];simp[Jt,uS,b]
  cases k with
  | int j=>
   cases a;by_cases z:j=i
   ·subst z
    refine⟨λd q=>⟨x,?_,?_⟩,λq=>?_⟩
    ·rw[AO];exact vY rfl
    ·have:v=d:=by simpa[QQ]using q
     exact this ▸ h
    ·simp[QQ]at q
   ·have b:(uq j:Key)≠uq i:=λq=>z (uq.inj q)
    rw[step b];have U:QQ (.int j::ks) (v::vs) i=QQ ks vs i:=by simp[QQ,z]
    rw[U];exact J
  | str y=>
   cases a;rw[step (λq=>by cases q)];exact J
  | _=>cases a
noncomputable def fW(f:CO D)(γ:Ctx):Option (List D):=((f γ).bind p0).bind λn=>if inR n=cT/\n.toNat<=lim then aI (xN 0 n.toNat)else cI
@[simp] def bP:=@fW.eq_1
noncomputable def ib(ds I fs:List D):List D:=(ds.zip<|I.zip fs).map λp=>D.tup [p.1,p.2.1,p.2.2]
noncomputable def pf(f g h:CO D)(γ:Ctx):Option (List D):=((f γ).bind jU).bind λm=>((g γ).bind jU).bind λn=>((h γ).bind jU).map λo=>ib m.2 n.2 o.2
@[simp] def lX:=@pf.eq_1
noncomputable def nc(f g:CO D)(γ:Ctx):Option (List D):=((f γ).bind jU).bind λm=>((g γ).bind jU).bind λn=>if m.2.length<=lim then aI (bu m.2 n.2)else cI
@[simp] def gU:=@nc.eq_1
theorem Zq:Fh (.type "list") "keys" = pure cI:=by rw[typeLookup_type,builtinLookup_eq_fast];kernel_rfl
theorem vn:entryFor table "list.__getattribute__" = aI Builtin.«object.__getattribute__» :=
 entryFor_alias (id':="object.__getattribute__") (by kernel_rfl) (by first | rfl | decide +kernel) ⋯ (by kernel_rfl)
section
variable{prog:m3}{w:l6}{A:m7}{E:GQ}{h:il}{g:Array FU}{d:Drawn}{t:Nat}{os:OsState}{a:eH}{o:n7}
theorem yG(hx:h.get? a=aI ⟨.type "list",cI,.seq vs nk,sl⟩)(J:A.handled=cI)
 (O : ∀h' e t',(∀b u,h.get? b=aI u->h'.get? b=aI u)->(∃B,h'.get? e=aI B/\B.cls = .type "AttributeError")->E (.ref e) ⟨h',g,d,t',os⟩) :
 wpAny (hR prog w) A (Builtin.«object.__getattribute__» ⟨[.ref a,.str "keys" tk],[]⟩) Q E ⟨h,g,d,t,os⟩:=by
 have S:(⟨h,g,d,t,os⟩:g8).TypeIs (.ref a) "list":=⟨_,hx,rfl⟩;have U:=Zq
 repeat (any_goals (first | assumption | wp_step))
 unfold raiseAttrError;have i:((tm (toString "'" ++ toString ((Manifest.find? "list").elim "list" λx=>x.tpName)++toString "' object has no attribute '")++tm "keys" ++ tm "'"):Str).length<=l4:=by decide +kernel
 generalize (tm (toString "'" ++ toString ((Manifest.find? "list").elim "list" λx=>x.tpName)++toString "' object has no attribute '")++tm "keys" ++ tm "'")=z at i ⊢;refine rS (wpAny_mkStr (hx:=i) ?_);refine rS ?_;unfold newExc newTuple;refine rS (tG ?_ (by size_fits));refine rS (m:=firstArgMember _ _) (wpAny_of_eq (a:=sR) (by first | rfl | (simp only[firstArgMember];rfl)) ?_);refine tG ?_ (by size_fits);simp only[sG];have f:((h.push {cls:= .type "tuple",data:= .seq #[.str z t]}).push {cls:= .type "AttributeError",data:= .fields (#[.ref h.objs.size,.none,.none,.none,.bool dV,.none]++ownMembersOf (.type "AttributeError") [.str z t])}).get? (h.objs.size+1) =
  aI {cls:= .type "AttributeError",data:= .fields (#[.ref h.objs.size,.none,.none,.none,.bool dV,.none]++ownMembersOf (.type "AttributeError") [.str z t])}:=by heap_get
 have I : ∀b u,h.get? b=aI u->((h.push {cls:= .type "tuple",data:= .seq #[.str z t]}).push {cls:= .type "AttributeError",data:= .fields (#[.ref h.objs.size,.none,.none,.none,.bool dV,.none]++ownMembersOf (.type "AttributeError") [.str z t])}).get? b=aI u:=λb u e=>rT _ (rT _ e);have j:h.get? (h.objs.size+1)=cI:=Heap.get?_none_of_le (Bj _);generalize ((h.push {cls:= .type "tuple",data:= .seq #[.str z t]}).push {cls:= .type "AttributeError",data:= .fields (#[.ref h.objs.size,.none,.none,.none,.bool dV,.none]++ownMembersOf (.type "AttributeError") [.str z t])})=h2 at f I ⊢;refine rS (wpAny_mkText ?_);unfold noteAttr lacksNameAndObj;have W:(⟨h2,g,d,t+1+1,os⟩:g8).TypeIs (.ref (h.objs.size+1)) "AttributeError":=⟨_,f,rfl⟩;have Y:isSubtype (.type "AttributeError") (.type "AttributeError")=pure cT:=by rw[isSubtype_type];kernel_rfl
 repeat (any_goals (first | assumption | with_reducible refine wpAny_loadPart_at f ?_ | with_reducible refine wpAny_load f ?_ | wp_step))
 refine wpAny_raiseNew_none J<|O _ _ _ (λb u e=>?_) ⟨_,uU _ f<|Obj.isFreed_of_fields<|BP rfl _,Obj.cls_mapFields ..⟩;rw[sN _ _ (λq=>by rw[<- q]at e;rw[j]at e;cases e)];exact I b u e
theorem vh(hx:h.get? a=aI ⟨.type "list",cI,.seq vs nk,sl⟩)(B:A.handled=cI)
 (I : ∀h' e t',(∀b u,h.get? b=aI u->h'.get? b=aI u)->(∃z,h'.get? e=aI z/\z.cls = .type "AttributeError")->R (.error (.ref e)) ⟨h',g,d,t',os⟩) :
 codeAny (hR prog w) A (.call (.builtin "list.__getattribute__") ⟨[.ref a,.str "keys" tk],[]⟩) R ⟨h,g,d,t,os⟩:=
 BM Am.plain vn (Am.check _ _ _ _ _ _ _ _ (show(⟨h,g,d,t,os⟩:g8).TypeIs (.ref a) "list" from⟨_,hx,rfl⟩) (F.args_list_getattribute_2 _ _) (yG hx B I))
theorem Qs:Fh (.type "list") "__getattr__" = pure cI:=by rw[typeLookup_type,builtinLookup_eq_fast];kernel_rfl
theorem X6(hx:h.get? a=aI ⟨.type "list",cI,.seq vs nk,sl⟩)(z:A.handled=cI)
 (L : ∀h' t',(∀b u,h.get? b=aI u->h'.get? b=aI u)->Q cI ⟨h',g,d,t',os⟩):wpAny (hR prog w) A (getAttr? (.ref a) "keys") Q E ⟨h,g,d,t,os⟩:=by
 have J:(⟨h,g,d,t+1,os⟩:g8).TypeIs (.ref a) "list":=⟨_,hx,rfl⟩;have O:=Am.lookup;have S:=Am.bind (.ref a);have U:=Qs;have W:isSubtype (.type "AttributeError") (.type "AttributeError")=pure cT:=by rw[isSubtype_type];kernel_rfl
 unfold getAttr? getAttrBy? getAttrBy
 repeat (any_goals (first | assumption | wp_step))
 refine vh (g:=g) (d:=d) (os:=os) hx z λh' e t' B f=>?_;obtain⟨I,f,i⟩:=f;have Y:(⟨h',g,d,t',os⟩:g8).TypeIs (.ref e) "AttributeError":=⟨I,f,i⟩;have j:=L h' t' B;show wpAny _ _ (getattributeRaised _ _ _ _ _ _ _) _ _ _;unfold getattributeRaised hookOrError attributeErrorLeaves
 repeat (any_goals (first | assumption | wp_step))
end
noncomputable def yf:List D->Option (List D×List D)
 | []=>aI ([],[])
 | d::r=>match d with
  | .tup a=>match a with
   | [k,v]=>(yf r).map λp=>(k::p.1,v::p.2)
   | _=>cI
  | _=>cI
noncomputable def VA(f:CO (List D))(γ:Ctx):Option D:=(f γ).bind λa=>(yf a).bind λp=>fw p.1 p.2
@[simp] def gX:=@VA.eq_1
noncomputable def nq(I J:CO D):CO D:=λa=>(I a).bind λd=>(J a).bind λk=>match d with
 | .o6 b e=>(p0 k).bind λi=>QQ b e i
 | _=>cI
noncomputable def nt(J I:CO D):CO D:=λa=>(J a).bind λk=>(I a).bind λd=>match d with
 | .o6 b e=>(p0 k).map λi=> .bl (QQ b e i).isSome
 | _=>cI
section
variable{X:Cx}{pins:GW}{σ:St}{A:m7}{R:Result->g8->Prop}{H0:Hp}{l it d:eH}{ks:List Key}{ys xs:List V}
theorem QE(hh:A.handled=cI)(hx:xs.length=ks.length)(hy:ys.length=ks.length)(hp : ∀(n:Nat) (h1:n<xs.length) (h2:n<ks.length) (h3:n<ys.length),∃p,xs[n] = .ref p/\mu X.K H0 p [kV ks[n],ys[n]])(Z:H0 d=cI)(ab:l≠d) : ∀(m n:Nat) (s:g8) (H:Hp) (L:List (Key×V)) (i:Int) (t:ro),n+m=ks.length->
 Inv X pins σ H s->l5 H0 H->H l=aI (.lst xs)->s.heap.IsListIter it l n->kW X pins H it->H d=aI (.dK L)->L.length+m<=l4->
 (∀s',Inv X pins σ (upd H d<|.dK<|Yu L<|(ks.zip ys).drop n) s'->R (.ok<|.ret .none) s')->
 codeAny (hR X.prog X.w) A (.builtin "dict.update.loop" ⟨[.ref d,.ref it,.int i t,.none],[]⟩) R s:=by
 intro m
 induction m with
 | zero=>
  intro n s H L i t hn I sub B st f g hz J;obtain⟨z1,O,c,F,ll,S⟩:=I.D8 B;refine codeAny_builtin qL ?_;unfold Builtin.«dict.update.loop»;have U:s.heap.IsList l O.toArray:=⟨_,S,rfl,_,rfl⟩;refine rS<|wpAny_pyNext_list_end (s:=s) hh st U (by simp;omega) λh' eb=>?_;refine rS<|rW ?_;have e0:upd H d (.dK<|Yu L<|(ks.zip ys).drop n)=H:=by
   rw[List.drop_eq_nil_of_le (by simp;omega)];funext c;by_cases q:c=d
   ·rw[q,zr,g];rfl
   ·rw[zw q]
  rw[e0]at J;exact rW (J _<|I.Dx (t':=s.toks) (fp:=[it]) (λb o a e=>eb b o (by simpa using a) e)<|λb a=>by rw[uM.mp a];exact f)
 | succ m ih=>
  intro n s H L i t hn I sub B st f g hz J;obtain⟨z1,O,c,F,ll,S⟩:=I.D8 B;have U:s.heap.IsList l O.toArray:=⟨_,S,rfl,_,rfl⟩;have P:n<ks.length:=by omega
  obtain⟨p,ep,Q⟩:=hp n ⋯ P ⋯;obtain⟨u,hu,E⟩:=F.get (rV<|show n<xs.length by omega);rw[ep]at E;have eu:u = .ref p:=E;subst eu;refine codeAny_builtin qL ?_;unfold Builtin.«dict.update.loop»;refine rS<|wpAny_pyNext_list_item (s:=s) st U (x:= .ref p) (by simpa using hu) λh' T sb=>?_;have W:=I.Dx (h':=h') (t':=s.toks) (fp:=[it]) (λb o a e=>(sb.2 b<|by simpa using a).trans e) (λb a=>by rw[uM.mp a];exact f);obtain⟨ts,rt,⟨o,r,co,nn,b5⟩,zt⟩:=W.tuple<|p6 sub Q;obtain⟨z,Y,rfl,b6,h⟩ : ∃z Y,ts=z::Y/\RelV (kV ks[n]) z/\kA [ys[n]] Y:=by
   cases rt with
   | cons q1 h=>exact⟨_,_,rfl,q1,h⟩
  obtain⟨G,rfl,b8⟩:=qC h;have b9:({s with heap:=h'}:g8).TypeIs (.ref p) "tuple":=⟨_,r,co⟩;refine rS (uf (rS (wpAny_tryCatch ?_)));unfold Builtin.Dict.pairItems;refine rS (Bf b9 ?_);rw[GK ⋯];refine rS (uF r b5 (rW ?_));show wpAny _ _ (holding [z,G] (dictSet d z G)) _ _ _;obtain⟨zz,bd,vs,j,dd⟩:=lL W.iv g;have be:vs.length<=l4:=by rw[<- j.length];exact zz
  have bg:(QM L ks[n] ys[n]).length<=l4:=by have:=yH L ks[n] ys[n];omega
  refine uf<|wpAny_dictSet_pairs (hsz:=be) (Y5 b6) dd λbi k y=>?_;have he : ∃q,bi.get? d=aI q:=let ⟨q,_,_,hq,_⟩:=k;⟨q,hq⟩;have M:=aS (t':=s.toks+1) W (by rw[g];exact tN) y he<|fv bg bd (j.put ks[n] b8) k;have C:it≠d:=λq=>by have:=f.1;rw[q,g]at this;cases this
  refine rW ⟨qH _,ih (n+1) _ _ (QM L ks[n] ys[n]) (i+1) 0 ⋯ M (λc o e=>?_) (by rw[zw ab];exact B) (T.at λo q=>(y.2 it C).trans q) ⟨by rw[zw C];exact f.1,f.2⟩ zr (by have:=yH L ks[n] ys[n];omega) λs' N=>J s' ?_⟩
  ·rw[zw (λq=>by rw[q,Z]at e;cases e)];exact sub _ _ e
  ·have bn:n<(ks.zip ys).length:=by simp;omega
   have e1:(ks.zip ys).drop n=(ks[n],ys[n])::(ks.zip ys).drop (n+1):=by rw[AS bn];simp
   have e2:upd (upd H d<|.dK<|QM L ks[n] ys[n]) d (.dK<|Yu (QM L ks[n] ys[n])<|(ks.zip ys).drop (n+1))=upd H d (.dK<|Yu L<|(ks.zip ys).drop n):=by
    funext c;by_cases q:c=d
    ·rw[q,zr,zr,e1];rfl
    ·rw[zw q,zw q,zw q]
   rw[<- e2];exact N
theorem QF(I:Inv X pins σ H s)(S:X.A.handled=cI)(sub:l5 H0 H)(z:H l=aI (.lst xs))(hx:xs.length=ks.length)(hy:ys.length=ks.length)
 (Z : ∀(n:Nat) (h1:n<xs.length) (h2:n<ks.length) (h3:n<ys.length),∃p,xs[n] = .ref p/\mu X.K H0 p [kV ks[n],ys[n]]) (hz:ks.length<=l4)
 (L : ∀s' p,H p=cI->Inv X pins σ (upd H p (.dK (Yu [] (ks.zip ys)))) s'->Q (.ref p) s'):wpAny (hR X.prog X.w) X.A (call (.type "dict") [.ref l]) Q X.xe s:=by
 have B:H s.heap.objs.size=cI:=I.fresh;have m:H0 s.heap.objs.size=cI:=zO sub B;have U:l≠s.heap.objs.size:=λq=>by rw[q,B]at z;cases z
 refine callType_codes (Q₁:=λobj W=>obj = .ref s.heap.objs.size/\W = {s with heap:=s.heap.push {cls:= .type "dict",data:= .dict #[]}}) F.kt_called_dict (F.kt_typeCall_dict_1 _) F.entry_dict_init (kt_code_dict_new _ ⟨rfl,rfl⟩) ?_;rintro obj W ⟨rfl,rfl⟩;have i:=I.laid (a:=s.heap.objs.size) (o:= .dK []) (t':=s.toks) (λ_ _ q=>rT {cls:= .type "dict",data:= .dict #[]} q) (sf _) (Vm s.heap I.big);have Y:({s with heap:=s.heap.push {cls:= .type "dict",data:= .dict #[]}}:g8).TypeIs (.ref s.heap.objs.size) "dict":=⟨_,se _ rfl,rfl⟩;obtain⟨G,h,c,E,C,u⟩:=I.D8 z;have J:(s.heap.push {cls:= .type "dict",data:= .dict #[]}).get? l=aI {cls:= .type "list",data:= .seq h.toArray c}:=rT _ u;refine⟨Y,F.args_dict_init_2 _ _,?_⟩;unfold Builtin.«dict.__init__»;refine rS ?_;unfold Builtin.Dict.selfAndRest;refine rS (wpAny_notOrdered_dict Y ?_);show wpAny _ _ (pure (s.heap.objs.size,[sk l])) _ _ _;refine rW ?_;show wpAny _ _ (Builtin.Dict.updateFrom "dict.__init__" s.heap.objs.size (.ref l) [] .none) _ _ _;unfold Builtin.Dict.updateFrom;refine rS (Bf (T:="list") ⟨_,J,rfl⟩ ?_);rw[GK ⋯];refine rS (X6 (g:=s.gens) (d:=s.drawn) (t:=s.toks) (os:=s.os) J (show X.A.in1.in1.handled=cI from S) λh' t' k=>?_);have O:Inv X pins σ (upd H s.heap.objs.size (.dK [])) {s with heap:=h',toks:=t'}:=i.kept k;have r:=k _ _ J;simp only[Option.isNone_none,if_true];refine rS (AR (rS (Cj (items:=h.toArray) ⟨_,r,rfl,_,rfl⟩ ?_)));refine rW ⟨qH _,?_⟩;have j:=O.kept (h':=h'.push {cls:= .type "list_iterator",data:= .fields #[.ref l,.int 0 0]}) (t':=t') λb o e=>rT _ e;have y:s.heap.objs.size<h'.objs.size:=by have:=sg (k _ _ (se s.heap (o:={cls:= .type "dict",data:= .dict #[]}) rfl));exact this
 have x:=O.C6 (b:=h'.objs.size) (H':=upd H s.heap.objs.size<|.dK []) (sf _) O.fresh;refine QE (H0:=H0) (l:=l) (it:=h'.objs.size) (ks:=ks) (ys:=ys) (xs:=xs) (show X.A.in1.handled=cI from S) hx hy Z m U ks.length 0 _ (upd H s.heap.objs.size<|.dK []) [] 0 0 (Nat.zero_add _) j (sub.trans<|zN B _) (by rw[zw U];exact z) ⟨_,se _ rfl,rfl,rfl⟩ x zr (by simpa using hz) λs' f=>?_;rw[vZ,List.drop_zero]at f;exact⟨rfl,L s' _ B f⟩
end
theorem wR : ∀{ps ks vs:List D},yf ps=aI (ks,vs)->ks.length=ps.length/\vs.length=ps.length
 | [],ks,vs,h=>by cases h;exact⟨rfl,rfl⟩
 | d::r,ks,vs,h=>by
  unfold yf at h;split at h
  ·split at h
   ·obtain⟨⟨a,b⟩,e,f⟩:=zm h
    cases f;obtain⟨z,B⟩:=wR e;exact⟨by simp[z],by simp[B]⟩
   ·cases h
  ·cases h
theorem vw{K:rR}{H:Hp} : ∀{ps ks vs:List D} {xs:List V} {L:List Int},yf ps=aI (ks,vs)->g5 K H ps xs->Zx ks=aI L->
 ∃ys,g5 K H vs ys/\ys.length=L.length/\xs.length=L.length/\∀(n:Nat) (Z:n<xs.length) (h2:n<L.length) (z:n<ys.length),∃p,xs[n] = .ref p/\mu K H p [.int L[n],ys[n]]
 | [],ks,vs,xs,L,h,r,hi=>by cases h;cases hi;rw[r.xb];exact⟨[],g5.nil,rfl,rfl,λn Z=>by cases Z⟩
 | d::ps,ks,vs,xs,L,h,r,hi=>by
  unfold yf at h;split at h
  ·split at h
   ·rename_i k v
    obtain⟨⟨a,b⟩,e,f⟩:=zm h;cases f;obtain⟨x,t,rfl,Z,h2⟩:=r.rp;cases k with
    | int j=>
     obtain⟨s,B,I⟩:=zm hi;subst I;obtain⟨ys,J,O,S,U⟩:=vw e h2 B;obtain⟨q,y,rfl,z,W⟩:=qm Z;obtain⟨u,w,rfl,Y,g⟩:=W.rp;obtain⟨m,o,rfl,i,l⟩:=g.rp;rw[l.xb,zX Y]at z;refine⟨m::ys,g5.cons i J,by simp[O],by simp[S],λn g1 g2 g3=>?_⟩;cases n with
     | zero=>exact⟨q,rfl,z⟩
     | succ n=>exact U n (by simpa using g1) (by simpa using g2) (by simpa using g3)
    | _=>cases hi
   ·cases h
  ·cases h
section
variable{X:Cx}{sc:l9}{N L:List Str}{k:Nat}{a o i:g9}{f:CO (List D)}{fd fk:CO D}{p pos:l0}
theorem Yt(h:SX X sc N L k)(Z:j3 sc "dict" = cT)(zd:X.mg "dict" = cI)(ha:PO X a f)(hs:lp [a] X.env=[(dV,hH a X.env)]:=by rfl) :
 PV X (.Call (.Name "dict" p) [a] [] pos) (VA f):=by
 intro i s σ H Q I S;obtain⟨H0,γ,d,rc,z,q⟩:=S;obtain⟨w,E,z⟩:=zb z;obtain⟨⟨b,m⟩,u,z⟩:=zb z;have P:X.A.handled=cI:=I.ok.hd h.calm;unfold fw at z;cases hi:Zx b with
 | none=>rw[show(b,m).1=b from rfl,hi]at z;cases z
 | some g=>
  rw[show(b,m).1=b from rfl,hi]at z;dsimp only at z;by_cases r:b.length=m.length/\g.Nodup/\b.length<=lim
  ·rw[GK r]at z
   cases z;refine Call_<|jP I (h.gl Z).1 zd PyProof.Rows.boot_dict (tq ?_ (by rw[hs];rfl) rfl);rw[hs];show wpAny _ _ (Cv ((dV,hH a X.env)::[])) _ _ s;refine sX<|kr (ha i s σ H (λv j=>∃l xs B,v = .ref l/\Ext H0 H B j/\B l=cI/\j l=aI (.lst xs)/\g5 X.K B w xs) I ⟨H0,γ,w,rc,E,λl xs j B e g1 Y U O=>⟨l,xs,B,rfl,e,Y,U,O⟩⟩) λv s1 S=>?_;obtain⟨y,j,x,ry,l,xs,B,rfl,e,Y,U,O⟩:=S;cases ry;refine uD ?_;obtain⟨ys,R,T,r3,r4⟩:=vw u O hi;have W:(g.map<|uq (β:=Str)).length=g.length:=by simp
   have nl:g.length=b.length:=by have:=(wR u).1;have:=O.length;omega
   refine QF (H0:=B) (ks:=g.map uq) (ys:=ys) (xs:=xs) x P e.sub U (by rw[W];exact r3) (by rw[W];exact T) (λn F G M=>?_) ?_ λs' p o J=>?_
   ·obtain⟨t,t1,t2⟩:=r4 n F (by simpa using G) M
    refine⟨t,t1,?_⟩;simpa[kV]using t2
   ·have:lim<=l4:=by decide
    rw[W];omega
   ·have C:Yu [] ((g.map<|uq (β:=Str)).zip ys)=(g.map uq).zip ys:=by
     rw[vJ _ []]
     ·simp
     ·rw[List.nil_append,List.map_fst_zip ⋯]
      exact Zo r.2.1
    rw[C]at J;obtain⟨of,J⟩:=Inv.GZ J zr;rw[vZ]at J;exact⟨.ref p,_,J,rfl,q (.ref p) _ _ ((e.trans<|Ext.hide e.sub o _).show (j1 e.s1 o) (zO e.sub o) zr rc.sub)
     (show ∃a xs,V.ref p = .ref a/\Dk (upd B p _) a b xs/\g5 X.K (upd B p _) m xs from⟨p,ys,rfl,⟨_,vP hi,by omega,of,zr⟩,R.mono<|zN (zO e.sub o) _⟩)⟩
  ·rw[GX r]at z;cases z
theorem dm(h:SX X sc N L k)(S:PV X o fd)(Z:PV X i fk)(hs:hV i:=by intro _ _;rfl):PV X (.Subscript o i pos) (nq fd fk):=
 z6 (W9 (by have:=h.Ei;omega) S Z hs) λP H Q U=>by
  obtain⟨f,e,d,rc,z,q⟩:=U;obtain⟨W,p,z⟩:=zb z;obtain⟨G,s,z⟩:=zb z;cases W with
  | o6 A E=>
   obtain⟨j,Y,t⟩:=zb z;refine⟨f,e,_,rc,p,λv F B x r=>⟨B,e,_,rc.ext x,s,λy g l I J=>?_⟩⟩;obtain⟨ad,b,rfl,⟨M,g1,g2,C,g3⟩,u⟩:=(show ∃a b,v = .ref a/\Dk B a A b/\g5 X.K B E b from r);rw[z7 Y]at J;have w:y = .int j:=J;obtain⟨O,m,n⟩:=(wD (i:=j) g1 g2<|u.mono I.s0).1 d t;refine⟨ad,O,rfl,?_,q O g l (x.trans I) n⟩;rw[w,<- m];exact .inl ⟨_,uq j,.inr ⟨C,I.s1 _ _<|x.sub _ _ g3⟩,rfl,rfl⟩
  | _=>cases z
theorem WV(h:SX X sc N L k)(Z:PV X i fk)(W:PV X o fd)(hm:vr .In o=dV:=by with_unfolding_all rfl):o4 X (.Compare i [.In] [o] pos) (sB<|nt fk fd):=
 yv (du (dP (by have:=h.Ei;omega) Z W) hm) λσ H Q Y=>by
  obtain⟨m,l,b,rc,z,q⟩:=Y;obtain⟨db,A,M⟩:=zb z;obtain⟨k1,C,z⟩:=zb A;obtain⟨u,E,z⟩:=zb z;cases u with
  | o6 f g=>
   obtain⟨j,F,G⟩:=zm z;subst G;cases M;refine⟨m,l,_,rc,C,λy T n x J=>⟨n,l,_,rc.ext x,E,λv e B I r=>?_⟩⟩;obtain⟨ad,d,rfl,⟨kk,g1,g2,O,S⟩,P⟩:=(show ∃a d,v = .ref a/\Dk B a f d/\g5 X.K B g d from r);rw[z7 F]at J;have U:y = .int j:=J;obtain⟨p,s⟩:=wD (i:=j) g1 g2 P;cases hv:QQ f g j with
   | none=>
    refine⟨ad,cI,rfl,?_,_,rfl,?_⟩
    ·rw[U,<- s hv]
     exact .inl ⟨_,uq j,.inr ⟨O,I.sub _ _ S⟩,rfl,rfl⟩
    ·rw[hv]at q;exact q e B<|x.trans I
   | some w=>
    obtain⟨R,t,c4⟩:=p w hv;refine⟨ad,aI R,rfl,?_,_,rfl,?_⟩
    ·rw[U,<- t]
     exact .inl ⟨_,uq j,.inr ⟨O,I.sub _ _ S⟩,rfl,rfl⟩
    ·rw[hv]at q;exact q e B<|x.trans I
  | _=>cases z
end
def lu:D->Option (List Int)
 | .tup a=>Zx a
 | _=>cI
noncomputable def eO:List D->Option (List<|List Int)
 | []=>aI []
 | d::ds=>(lu d).bind λk=>(eO ds).map λr=>k::r
noncomputable def nj(f:CO (List D))(γ:Ctx):Option D:=(f γ).bind λb=>(yf b).bind λp=>(eO p.1).bind λa=>if a.Nodup/\a.length<=lim then aI (.n9 a p.2)else cI
noncomputable def lG:List (List Int)->List D->List Int->Option D
 | k::ks,v::vs,i=>if k=i then aI v else lG ks vs i
 | _,_,_=>cI
noncomputable def pF(I J:CO D)(γ:Ctx):Option D:=(I γ).bind λd=>(J γ).bind λk=>match d with
 | .n9 a b=>(lu k).bind λi=>lG a b i
 | _=>cI
noncomputable def lF(d k x:D):Option D:=match d with
 | .n9 a b=>(lu k).map λi=>(lG a b i).getD x
 | _=>cI
noncomputable def pC(I J z:CO D)(γ:Ctx):Option D:=(I γ).bind λd=>(J γ).bind λk=>(z γ).bind λx=>lF d k x
noncomputable def pw(f:CO D)(γ:Ctx):Option (List D):=(f γ).bind λd=>match d with
 | .n9 a _=>aI (a.map λk=> .tup (k.map .int))
 | _=>cI
section
variable(γ:Ctx)
@[simp] def gW:=@nj.eq_1
@[simp] def mF:=@pF.eq_1
@[simp] def mz:=@pC.eq_1
@[simp] def mv:=@pw.eq_1
end
noncomputable def nI:List (List Int)->List Int->List Int->Option Int
 | k::ks,n::ns,i=>if k=i then aI n else nI ks ns i
 | _,_,_=>cI
noncomputable def eqT(ks:List (List Int))(I:List Int)(z:List (List Int))(B:List Int):Bool:=decide (ks.length=z.length) && (ks.zip I).all λx=>decide<|nI z B x.1=aI x.2
noncomputable def nN(d e:D):Option Bool:=match d with
 | .n9 b g=>match e with
  | .n9 z a=>(Zx g).bind λf=>(Zx a).map λB=>eqT b f z B
  | _=>cI
 | _=>cI
@[simp] def rO(d e:D):Option D:=(nN d e).map D.bl
@[simp] def rN(d e:D):Option D:=(nN d e).map λb=>D.bl<|!b
def wB:Cell->Bool
 | .nest _=>cT
 | _=>dV
theorem XY{γ:Ctx}(h:γ.any wB=dV) : ∀(i:Nat) I,γ[i]? ≠ aI (.nest I):=λi I e=>by have:=List.any_eq_false.mp h _<|AE e;exact this rfl
noncomputable def pq(f:CO D)(γ:Ctx):Option D:=(f γ).bind λd=>match d with
 | .n9 a _=>aI (.int a.length)
 | _=>cI
@[simp] def mq:=@pq.eq_1
abbrev TT:=List (List (List Int))
inductive Pl where
 | out | tab (k:Nat) | row (k m:Nat)
deriving DecidableEq
section
variable{K:rR}{al:List (Nat×Pl)}{E0 E H0 H yr H':Hp}{σ EL:St}{γ γ':Ctx}{Z:TT}{ad:Pl->eH}
open Classical in
end
open Classical in
section
variable{H:Hp}{Z:TT}{ad:Pl->eH}
end
section
variable{X:Cx}{sc:l9}{N L:List Str}{k j i n w:Nat}{st:l7}{rest:List l7}{e e2:g9}{es:List g9}{f:CO D}{g:CO (List D)}{pos p:l0}{x:Str}{al:List (Nat×Pl)}
theorem eB{E H:Hp}{c:eH}(s:l5 E H)(h:H c=cI):E c=cI:=by
 cases q:E c with
 | none=>rfl
 | some o=>rw[s c o q]at h;cases h
end
end DL
namespace DL
open PySem PySem.Spec PyProof.Rows L2
open PySem.W (KasT kas_sort kas_ask kat_run kat_snds kat_lt kat_cons kat_no kat_yes kat_nil kat_go kat_one kat_kind KatTups KatGo)
section
variable{prog:m3}{w:l6}{A:m7}{E:GQ}{s:g8}
theorem JO{a kS:eH}{W:List eI}{out:List eI}{e L:Nat}{P:PySem.Fin->g8->Prop}{st:SortSt}(B:s.heap.get? kS=aI (seqObj "list" W.toArray e))(Y:s.heap.get? a=aI (seqObj "list" #[] L))(I:kS≠a)(J:W.length<=l4)(O:out.length<=l4)
 (S:(arrOf st).map (·.2)=out.toArray) (Z:failedOf st=cI)
 (h : ∀h' c,h'.objs.size=s.heap.objs.size->(∀b o,b≠a->b≠kS->s.heap.get? b=aI o->h'.get? b=aI o)->h'.get? a=aI (seqObj "list" out.toArray c)->P (.done (.ret .none)) {s with heap:=h'}) :
 wpAny (hR prog w) A (ksk_tail a dV L (.ref kS) st) P E s:=by
 unfold ksk_tail;refine rS (Cf B rfl ?_ (by rw[rX];exact J) (uv _));refine rS (BV ?_);have z:(s.heap.update kS (tj λ_=>(#[]:Array eI))).get? a=aI (seqObj "list" #[] L):=(sN _ _ I).trans Y;refine rS (seqEpoch_at z rfl ?_);simp only[Bool.false_eq_true,if_false];rw[S];refine rS (Cf z rfl ?_ (uv _) (by show out.toArray.size<=_;rw[rX];exact Nat.le_succ_of_le O));rw[Z];simp only[bne_self_eq_false,Bool.false_eq_true,if_false];obtain⟨c,g⟩ : ∃c,((s.heap.update kS (tj λ_=>(#[]:Array eI))).update a (tj λ_=>out.toArray)).get? a=aI (seqObj "list" out.toArray c):=⟨_,get?_update_seq z λ_=>out.toArray⟩;refine rW (h _ c (by rw[Bk,Bk]) (λb o d f q=>?_) g);exact(sN _ _ (tE d)).trans ((sN _ _ (tE f)).trans q)
theorem aF{a kS:eH}{vs L:List eI}{ps:List (Int×Int)}{e Z:Nat}{P:PySem.Fin->g8->Prop}(U:s.heap.get? kS=aI (seqObj "list" L.toArray e))(ha:s.heap.get? a=aI (seqObj "list" #[] Z))(Y:kS≠a)(a5:L.length=vs.length)(O:ps.length=vs.length)(am:vs.length<64)
 (S : ∀i (hi:i<L.length),EV s.heap L[i] (ps.getD i (0,0)).1 (ps.getD i (0,0)).2)
 (h : ∀h' c,h'.objs.size=s.heap.objs.size->(∀b o,b≠a->b≠kS->s.heap.get? b=aI o->h'.get? b=aI o)->h'.get? a=aI (seqObj "list" (List.toArray ((qA ps).map λi=>vs.getD i sR)) c)->P (.done (.ret .none)) {s with heap:=h'}) :
 wpAny (hR prog w) A (ksk_end a dV vs.toArray Z (.ref kS) L.toArray) P E s:=by
 have hz:vs.length<=l4:=by rw[An];omega
 have n:vs.toArray.size=vs.length:=by simp
 have bg:((qA ps).map λi=>vs.getD i sR).length=vs.length:=by rw[sZ,(qY ps).length_eq,List.length_range,O]
 have step : ∀t:oD PySem.Fin,wpAny (hR prog w) A t P E s->wpAny (hR prog w) A (if dV=cT then (do let _ <- rule "list.sort.reverse";t)else t) P E s:=λt ht=>ht;unfold ksk_end
 try dsimp only
 refine step _ ?_;by_cases g:vs.toArray.size<2
 ·rw[GK g,GK g]
  refine rS<|rW ?_;rw[StateT.run_pure];refine rS<|rW ?_;dsimp only;have ev:(qA ps).map (λi=>vs.getD i sR)=vs:=by unfold qA;rw[GK ⋯,O];exact vg _ _
  have e7:Array.map (λx=>x.snd) (arrOf<|SortSt.mk' general' (L.toArray.zip vs.toArray) #[] 7 cI)=((qA ps).map (λi=>vs.getD i sR)).toArray:=by show Array.map (λx=>x.snd) (L.toArray.zip vs.toArray)=_;rw[ev];apply Array.ext';simp[Array.toList_map,Array.toList_zip];rw[List.map_snd_zip ⋯]
  exact JO U ha Y ⋯ ⋯ e7 rfl h
 ·rw[GX g,GX g]
  have n2:2<=vs.length:=by rw[<- n];omega
  obtain⟨fs,f1,f2,f3⟩:=V6 (ks:=λi=>(ps.getD i (0,0)).1) λi hi=>(S i hi).one;refine rS (kat_kind (T:=Ae "int") f1 ⋯ (λv hv=>?_) ⋯ ?_)
  ·obtain⟨k,t,rfl⟩:=f3 v hv
   exact AZ.of_pure rfl
  have ep:(cS (λi j=>gm (ps.getD i (0,0))<|ps.getD j (0,0))<|kas_sort vs.length).toList=qA ps:=by unfold qA;rw[GX ⋯,O]
  refine rS (sC (kat_run (E:=E) (ks:=L) (Q:=λJ f=>∃p:Array Nat,arrOf J=p.map (PySem.W.kas_item<|L.toArray.zip vs.toArray)/\failedOf J=cI/\p.toList=qA ps/\f=s)
   (G:=λp f=>p.toList=qA ps/\f=s)
   a5 n2 am (λp J f a1 R X r=>⟨p,R,X,r.1,r.2⟩) (Kl (lt:=λi j=>gm (ps.getD i (0,0))<|ps.getD j (0,0)) (λi j C hi hj z=>?_) (ZA ⋯) ⟨ep,rfl⟩)) ?_ λ_ _ e=>e)
  ·show wpAny _ _ (keyLt' _ (L.getD i sR)<|L.getD j sR) C _ _
   have F:i<L.length:=by omega
   have H:j<L.length:=by omega
   rw[show L.getD i sR=L[i]by simp[F],show L.getD j sR=L[j]by simp[H]];obtain⟨x,ox,xs,m,t,u,Z,e2,e3,e4,N⟩:=S i F;obtain⟨y,oy,ys,m',t',u',d1,d2,d3,d4,M⟩:=S j H;rw[Z,d1];refine kat_lt e2 e4 d2 d4 ?_;have b9:xs.size=2:=by rw[<- uJ,N];rfl
   have bb:ys.size=2:=by rw[<- uJ,M];rfl
   rw[N,M,b9,bb,AO,AO];unfold gm at z;generalize ps.getD i (0,0)=B at z ⊢;generalize ps.getD j (0,0)=I at z ⊢;refine kat_cons<|Bn B.1 t I.1 t' _ _ _ _ ?_;refine kat_go (λd=>?_) λd=>?_
   ·have d:B.1=I.1:=by simpa using d
    rw[GK d]at z;refine kat_yes<|kat_cons<|Bn B.2 u I.2 u' _ _ _ _<|kat_go (λl=>?_) λl=>?_
    ·have l:B.2=I.2:=by simpa using l
     refine kat_yes<|kat_nil ?_;rw[show decide (B.2<I.2)=dV by rw[l];simp]at z;exact z
    ·exact kat_no<|kat_one _ _<|lt_int z
   ·have d:B.1≠I.1:=by simpa using d
    rw[GX d]at z;exact kat_no<|oneLt_int z
  rintro⟨⟨⟩,J⟩ f ⟨p,bd,hf,hp,rfl⟩;dsimp only;have K:=kat_snds a5 bd;rw[hp]at K;exact JO U ha Y ⋯ ⋯ K hf h
end
end DL
namespace DL
open PySem PySem.Spec PyProof.Rows L2
section
variable{X:Cx}{pins:GW}{σ:St}{H:Hp}{s:g8}{a:eH}{o:HO}
theorem Ke(I:Inv X pins σ H s)(f:kW X pins H a)(new:m8 X.prog X.w (upd H a o) s.heap a o):Inv X pins σ (upd H a o) s:=by
 obtain⟨f1,J,W,O,S,U⟩:=f;have d : ∀b u,H b=aI u->b≠a:=λb u q z=>by rw[z,f1]at q;cases q
 refine⟨I.ok,I.os,I.bare,⟨I.base.keep,I.base.slot,λb B q n i=>?_,I.base.there,λb j q=>?_,λb B u q=>?_,λb k q=>?_⟩,I.loc,I.cell,?_,λx c e=>?_,λp h=>?_,λb u e=>?_,I.len⟩
 ·have g:b≠a:=λz=>by
   rcases O with z1 | z1
   ·exact i<|z ▸ z1
   ·have:=sg q
    rw[z]at this;exact absurd this<|Nat.not_lt_of_le z1
  rw[zw g];exact I.base.free b B q n i
 ·have:=I.base.A8 b j q
  rw[zw (d b _ this)];exact this
 ·have:=I.base.wh b B u q
  rw[zw (d b _ this)];exact this
 ·obtain⟨m,this⟩:=I.base.A6 b k q
  exact⟨m,by rw[zw (d b _ this)];exact this⟩
 ·rw[zw (tE J)];exact I.free
 ·rw[zw (S x c e)];exact I.B0 x c e
 ·obtain⟨e,n,r⟩:=I.pin p h
  exact⟨e,by rw[zw (U p h)];exact n,r⟩
 ·by_cases g:b=a
  ·subst g;rw[zr]at e;cases e;exact new
  ·rw[zw g]at e
   exact(I.iv b u e).Cw (λ_ _ _ q=>q) (λc q=>by rw[zw (d c _ q)];exact q) λc j q=>by rw[zw (d c _ q)];exact q
theorem WN{A:m7}{Q:VK}{us:List eI}{vs:List V}{CX:B1}{k:Nat}{f:eH}{J:o9}{ps:List Str}{sp:Sp}(F:oT X.prog X.w X.K X.mg X.base rb k f J ps sp)(S:ow k A)(O:B7 X.prog X.w X.K X.mg X.base A X.stack s H)(L:Binds X.K J ps [])
 (I:Inv X pins σ H s) (r:kA vs us) (h:sp vs H Q E0):wpAny (hR X.prog X.w) A (call (.ref f) us) (EP X pins σ Q) (λ_ _=>False) s:=by
 have z:us.length=ps.length:=by rw[<- r.length];exact F.len _ _ _ _ h
 refine BH<|AG (F.run A X.stack s H ⟨us,[]⟩ us vs Q E0 S O (by simpa using L s us I.m4 (by simpa using z)) r h) λr b a=>?_;cases r with
 | error e=>exact a.elim
 | ok B=>
  cases B with
  | ret u=>exact I.after a
  | next=>exact ue a
  | brk=>exact ue a
  | cont=>exact ue a
theorem cU(I:Inv X pins σ H s)(O:kW X pins H kS)(L:kW X pins H a)(z:s.heap.get? kS=aI ok)(S:s.heap.get? a=aI oa)(B : ∀v,ok.data ≠ .cell v)(J : ∀v,oa.data ≠ .cell v):Inv X (pins++[(kS,ok),(a,oa)]) σ H s:=
 I.E9 λp hp=>by
  rcases List.mem_append.mp hp with hp | hp
  ·exact I.pin p<|sj _ hp
  ·rcases sd.mp hp with rfl | hp
   ·exact⟨z,O.1,O.2.1,O.2.2.1,B⟩
   ·rw[uM.mp hp];exact⟨S,L.1,L.2.1,L.2.2.1,J⟩
theorem bT(I:Inv X (pins++more) σ H s):Inv X pins σ H s:=I.E9 λp a=>I.pin p<|sj _<|Bu _ a
end
noncomputable def Zm(ps:List (Int×Int)):List D:=ps.map λp=>D.tup [.int p.1,.int p.2]
section
variable{X:Cx}{pins:GW}{σ:St}{F:List D->Option Res}{k:Nat}{f:eH}{fd:o9}{pr:List Str}{A:m7}{E:GQ}
theorem Wp(I:Inv X pins σ H s)(sub:l5 H0 H)(r:Rep X.K H0 (.tup [.int i,.int j]) v)(W:RelV v u):EV s.heap u i j:=by
 obtain⟨b,F,rfl,S,Y⟩:=qm r;obtain⟨y,E,d,e,f⟩:=Y.rp;obtain⟨C,x,U,g,h⟩:=f.rp;rw[h.xb]at U;rw[d,U,zX e,zX g]at S;cases W;obtain⟨a,w,⟨o,m,k,n,l⟩,_⟩:=I.tuple<|p6 sub S;obtain⟨z,B,rfl,J,O⟩ : ∃z B,a=z::B/\RelV (.int i) z/\kA [.int j] B:=by
  cases w with
  | cons J O=>exact⟨_,_,rfl,J,O⟩
 obtain⟨A,rfl,p⟩:=qC O;obtain⟨t,rfl⟩:=J;obtain⟨u,rfl⟩:=p;exact⟨b,o,_,n,t,u,rfl,m,k,l,rfl⟩
theorem Y4{a kS:eH}{vs:List eI}{xs:List V}{ds:List D}{ps:List (Int×Int)}{Z:Nat}{P:PySem.Fin->g8->Prop}{H0 H:Hp}{s:g8}
 (G:oT X.prog X.w X.K X.mg X.base rb k f fd pr (u0 X.K pr.length F)) (h1:pr.length=1) (hr:ow k A) (b4:A.frames=aI X.stack) (hb:Binds X.K fd pr [])
 (I:Inv X pins σ H s) (sub:l5 H0 H) (rv:kA xs vs) (rd:g5 X.K H0 ds xs) (an:ps.length=vs.length) (b5:vs.length<64)
 (hF : ∀(i:Nat) d p,ds[i]? = aI d->ps[i]? = aI p->F [d]=aI (.val<|.tup [.int p.1,.int p.2]))
 (hk:s.heap.get? kS=aI (seqObj "list" #[] 0)) (ha:s.heap.get? a=aI (seqObj "list" #[] Z)) (ap:kS≠a) (fk:kW X pins H kS) (fa:kW X pins H a)
 (h : ∀s' H' L c,Inv X pins σ H' s'->Ext H0 H L H'->s'.heap.get? a=aI (seqObj "list" (List.toArray ((qA ps).map λi=>vs.getD i sR)) c)->kW X pins H' a->P (.done (.ret .none)) s') :
 wpAny (hR X.prog X.w) A (ksk_rest a (.ref f) dV vs.toArray Z<|.ref kS) P E s:=by
 have c4:=rv.length;have c5:=rd.length;have hz:vs.length<=l4:=by rw[An];omega
 unfold ksk_rest;refine rS (AR ?_);rw[List.forIn_toArray];refine rS (ksk_fold (λj s'=>∃l S B e,Inv X (pins++[(kS,seqObj "list" B e),(a,seqObj "list" #[] Z)]) σ l s'/\Ext H0 H S l/\∃g:List V,kA g B.toList/\g5 X.K S (Zm (ps.take j)) g) vs 0 s
  ⟨H,H0,#[],0,cU I fk fa hk ha (λv z=>by cases z) (λv z=>by cases z),Ext.refl sub,[],.nil,g5.nil⟩ ?step ?done)
 case step=>
  rintro j x s' hx ⟨l,S,B,e,J,m,g,W,O⟩;simp only[Nat.zero_add]at O ⊢;have hj:j<vs.length:=(su.mp hx).1;have hp:ps[j]? = aI ps[j]:=rV ⋯;have hd:ds[j]? = aI ds[j]:=rV ⋯;have as:xs[j]? = aI xs[j]:=rV ⋯;obtain⟨u',ax,b7⟩:=rv.get as;rw[hx]at ax;cases ax;obtain⟨x',b0,b8⟩:=rd.get hd;rw[as]at b0;cases b0;have env:B7 X.prog X.w X.K X.mg X.base A X.stack s' l:=⟨b4,J.CF.mod,J.CF.bs,J.CF.Cr,J.CF.t5,J.CF.Cs,J.CF.iv,J.CF.bare⟩;refine rS (Ay (sC (WN (CX:=rb) (Q:=λv H'=>∃L,Ext S l L H'/\Rep X.K L (.tup [.int ps[j].1,.int ps[j].2]) v) G hr env hb J (vs:=[xs[j]]) (us:=[x]) (.cons b7 .nil)
   ⟨S,[ds[j]],_,m.sub,g5.cons (b8.mono m.s0) g5.nil,by rw[h1];rfl,hF j _ _ hd hp,λv H' L C r2=>⟨L,C,r2⟩⟩) (λv n he=>?_) λ_ _ hF=>hF.elim))
  obtain⟨vv,M,Y,bb,bd,C,r2⟩:=he
  try dsimp only
  obtain⟨U,N,_⟩:=Y.pin (kS,seqObj "list" B e) (sj _ (sj _ (.head _)));obtain⟨na,R,_⟩:=Y.pin (a,seqObj "list" #[] Z) (sj _ (sj _ (.tail _ (.head _))));have be:=bT Y;have r:kW X pins M kS:=⟨N,fk.2⟩;have t:kW X pins M a:=⟨R,fa.2⟩;have kl:B.size=j:=by have:=W.length;have:=O.length;simp only[Zm,sZ,EM,uJ]at *;omega
  refine rS (Cf U rfl ?_ (by rw[kl,An];omega) (sF (Nat.le_of_eq (Array.size_push ..)) (by rw[kl,An];omega)));obtain⟨T,bg⟩ : ∃T,(n.heap.update kS (tj (·.push v))).get? kS=aI (seqObj "list" (B.push v) T):=⟨_,get?_update_seq U (·.push v)⟩;have I3:=be.Dx (h':=n.heap.update kS (tj (·.push v))) (t':=n.toks) (fp:=[kS]) (λb o hb q=>(sN _ _ (λz=>hb (by rw[z];exact List.mem_singleton_self _))).trans q) (λb hb=>by rw[uM.mp hb];exact r);have bl:(n.heap.update kS (tj (·.push v))).get? a=aI (seqObj "list" #[] Z):=(sN _ _ ap).trans na;refine rW ⟨rfl,M,bd,B.push v,T,cU I3 r t bg bl (λv z=>by cases z) (λv z=>by cases z),m.trans C,g++[vv],?_,?_⟩
  ·rw[Array.toList_push];exact W.append<|.cons bb .nil
  ·have ek:ps.take (j+1)=ps.take j++[ps[j]]:=by rw[List.take_add_one,hp];simp
   rw[ek];unfold Zm at O ⊢;rw[List.map_append];exact(O.mono C.s0).append (g5.cons r2 g5.nil)
 case done=>
  rintro s' ⟨l,S,B,e,J,m,g,W,O⟩;rw[Nat.zero_add,<- an,List.take_length]at O;obtain⟨U,N,_⟩:=J.pin (kS,seqObj "list" B e) (sj _ (sj _ (.head _)));obtain⟨na,R,_⟩:=J.pin (a,seqObj "list" #[] Z) (sj _ (sj _ (.tail _ (.head _))));have b2:=bT J;have r:kW X pins l kS:=⟨N,fk.2⟩;have t:kW X pins l a:=⟨R,fa.2⟩
  try dsimp only
  refine rS<|listItems_at U rfl ?_;have l1:=W.length;have l2:=O.length;simp only[Zm,sZ]at l2;have ek:B=B.toList.toArray:=by simp
  rw[ek]at U ⊢;refine aF U na ap ⋯ an b5 (λi hi=>?_) λh' c hsz kp hA=>?_
  ·have bv:i<ps.length:=by omega
   obtain⟨y,ey,ry⟩:=O.get (i:=i) (d:= .tup [.int (ps.getD i (0,0)).1,.int (ps.getD i (0,0)).2]) (by unfold Zm;simp[bv]);obtain⟨u,hu,ru⟩:=W.get ey;have:B.toList[i]=u:=by rw[rV hi]at hu;exact sJ hu
   rw[this];exact Wp b2 m.sub ry ru
  ·have Y:=b2.Dx (h':=h') (t':=s'.toks) (fp:=[a,kS]) (λb o hb q=>kp b o (λz=>hb<|by rw[z];simp) (λz=>hb<|by rw[z];simp) q) (λb hb=>by
    rcases sd.mp hb with rfl | hb
    ·exact t
    ·rw[uM.mp hb];exact r)
   exact h _ l S c Y m hA t
end
noncomputable def ae:Res->Option (Int×Int)
 | .val d=>match d with
  | .tup a=>match a with
   | [x,y]=>(p0 x).bind λi=>(p0 y).map λj=>(i,j)
   | _=>cI
  | _=>cI
 | .own _=>cI
noncomputable def X7(F:List D->Option Res):List D->Option (List<|Int×Int)
 | []=>aI []
 | d::r=>((F [d]).bind ae).bind λp=>(X7 F r).map λl=>p::l
noncomputable def Vy(F:List D->Option Res)(f:CO (Sk×List D)):CO (List D):=λd=>(f d).bind λa=>match a.1 with
 | .L=>(X7 F a.2).bind λb=>if a.2.length<64 then aI ((qA b).map λi=>a.2.getD i .hI)else cI
 | _=>cI
theorem wQ(z:kA xs vs) : ∀(o:List Nat),(∀i∈o,i<xs.length)->kA (o.map λi=>xs.getD i .hI) (o.map λi=>vs.getD i sR)
 | [],_=> .nil
 | i::o,h=>by have a:=h i sP;refine .cons ?_ (wQ z o λj B=>h j<|sv _ B);obtain⟨v,I,J⟩:=z.get (i:=i) (x:=xs[i])<|rV a;show RelV (xs.getD i V.hI) (vs.getD i sR);rw[sY,sY,rV a,I];exact J
section
variable{X:Cx}{pins:GW}{σ:St}{F:List D->Option Res}{k:Nat}{f:eH}{fd:o9}{pr:List Str}
theorem Qw
 (G:oT X.prog X.w X.K X.mg X.base rb k f fd pr (u0 X.K pr.length F)) (h1:pr.length=1) (hr:ow (k+1+1) X.A) (Z:Binds X.K fd pr [])
 (I:Inv X pins σ H s) (sub:l5 H0 H) (hl:s.heap.IsList l vs.toArray) (O:kA xs vs) (rd:g5 X.K H0 ds xs) (U:ps.length=vs.length) (a4:vs.length<64)
 (hF : ∀(i:Nat) d p,ds[i]? = aI d->ps[i]? = aI p->F [d]=aI (.val<|.tup [.int p.1,.int p.2]))
 (h : ∀s' H' L D,H D=cI->H' D=cI->Ext H0 H L H'->Inv X pins σ (upd H' D<|.lst<|(qA ps).map λi=>xs.getD i .hI) s'->Q (.ref D) s') :
 wpAny (hR X.prog X.w) X.A (call (.builtin "sorted") [.ref l] [(tm "key",.ref f)]) Q E s:=by
 have ap:=O.length;have B:vs.length<=l4:=by rw[An];omega
 refine call_function_entry_kw kind_sorted plain_sorted entry_sorted (ksk_s1 _ _) ?_;unfold Builtin.«sorted»;refine rS (m:=checkCount "sorted" 1 1 _) (rW ?_);refine rS (collect_list hl ?_ B);refine rS (wpAny_newList ?_ B);have a:((s.heap.push (seqObj "list" #[] 0)).update s.heap.objs.size (tj (· ++ vs.toArray))).objs.size=s.heap.objs.size+1:=by rw[Bk,size_push']
 have J:(((s.heap.push (seqObj "list" #[] 0)).update s.heap.objs.size (tj (· ++ vs.toArray))).push (seqObj "list" vs.toArray 0)).get? (s.heap.objs.size+1)=aI (seqObj "list" vs.toArray 0):=by rw[<- a];exact se _ rfl
 have e : ∀b o,s.heap.get? b=aI o->(((s.heap.push (seqObj "list" #[] 0)).update s.heap.objs.size (tj (· ++ vs.toArray))).push (seqObj "list" vs.toArray 0)).get? b=aI o:=λb o q=>by have S:b<s.heap.objs.size:=sg q;rw[Heap.get?_push_ne _ _ _ (by rw[a];exact sr (tP S)),Heap.get?_update_ne _ _ _ _ (sr S),Heap.get?_push_ne _ _ _ (sr S)];exact q
 have W:(((s.heap.push (seqObj "list" #[] 0)).update s.heap.objs.size (tj (· ++ vs.toArray))).push (seqObj "list" vs.toArray 0)).objs.size=s.heap.objs.size+2:=by rw[size_push',a]
 show wpAny _ _ _ _ _ {s with heap:=((s.heap.push (seqObj "list" #[] 0)).update s.heap.objs.size (tj (· ++ vs.toArray))).push (seqObj "list" vs.toArray 0)};rw[a];generalize ((s.heap.push (seqObj "list" #[] 0)).update s.heap.objs.size (tj (· ++ vs.toArray))).push (seqObj "list" vs.toArray 0)=g at J e W ⊢;have C:Inv X pins σ H {s with heap:=g}:=I.kept (t':=s.toks) e;have r:kW X pins H (s.heap.objs.size+1):=I.C6 (Bj _) (I.iv.fresh (Bj _));refine rS (uf (wpAny_call_entry_kw slot_list_sort ⟨_,J,rfl⟩ entry_list_sort ?body (ksk_l1 _ _)))
 case body=>
  show wpAny (hR X.prog X.w) X.A.in1.in1 (Builtin.«list.sort» ⟨[.ref (s.heap.objs.size+1)],[(tm "key",.ref f)]⟩) _ _ _;rw[ksk_t1];unfold ksk_tree;refine rS (listItems_at J rfl ?_);refine rS (Cf J rfl ?_ (by rw[rX];exact B) (uv _));obtain⟨j,Y⟩ : ∃j,(g.update (s.heap.objs.size+1) (tj λ_=>(#[]:Array eI))).get? (s.heap.objs.size+1)=aI (seqObj "list" #[] j):=⟨_,get?_update_seq J λ_=>#[]⟩;refine rS (seqEpoch_at Y rfl ?_);refine rS (wpAny_newTuple ?_ (by show vs.length<=_;exact B));refine rS (wpAny_newList ?_ (uv _));refine uf ?_;have u:=C.Dx (h':=g.update (s.heap.objs.size+1) (tj λ_=>(#[]:Array eI))) (t':=s.toks) (fp:=[s.heap.objs.size+1]) (λb o Z q=>(sN _ _ (λz=>Z (by rw[z];exact List.mem_singleton_self _))).trans q) (λb Z=>by rw[uM.mp Z];exact r);have x:=u.kept (h':=((g.update (s.heap.objs.size+1) (tj λ_=>(#[]:Array eI))).push (seqObj "tuple" vs.toArray 0)).push (seqObj "list" #[] 0)) (t':=s.toks) (λb o q=>rT _ (rT _ q));have t:((g.update (s.heap.objs.size+1) (tj λ_=>(#[]:Array eI))).push (seqObj "tuple" vs.toArray 0)).objs.size=s.heap.objs.size+3:=by rw[size_push',Bk,W]
  have P:kW X pins H (s.heap.objs.size+3):=I.C6 (tD _ _) (I.iv.fresh (tD _ _));refine Y4 (A:=X.A.in1.in1) (ps:=ps) (xs:=xs) (ds:=ds) (H0:=H0) (H:=H) (s:={s with heap:=((g.update (s.heap.objs.size+1) (tj λ_=>(#[]:Array eI))).push (seqObj "tuple" vs.toArray 0)).push (seqObj "list" #[] 0)}) (kS:=((g.update (s.heap.objs.size+1) (tj λ_=>(#[]:Array eI))).push (seqObj "tuple" vs.toArray 0)).objs.size)
   G h1 hr.in1.in1 I.CF.in1.in1.frames Z x sub O rd U a4 hF (se _ rfl) (rT _<|rT _ Y) (by rw[t];exact λz=>absurd (Nat.add_left_cancel z) ⋯) (by rw[t];exact P) r λs' H' L c y x3 R n=>⟨_,rfl,?_⟩
  refine rW ⟨_,rfl,h s' H' L _ (I.iv.fresh<|Bj _) n.1 x3<|Ke y n ?_⟩;have M : ∀i∈qA ps,i<xs.length:=λi T=>by have:=(qY ps).mem_iff.mp T;have:=Az.mp this;omega
  have N:((qA ps).map λi=>xs.getD i V.hI).length=vs.length:=by rw[sZ,(qY ps).length_eq,List.length_range,U]
  exact⟨by rw[N];exact B,(qA ps).map λi=>vs.getD i sR,c,wQ O _ M,R⟩
end
theorem Zu : ∀{ds:List D} {ps:List (Int×Int)},X7 F ds=aI ps->ps.length=ds.length
 | [],ps,h=>by cases h;rfl
 | d::r,ps,h=>by obtain⟨p,_,a⟩:=zb h;obtain⟨l,z,B⟩:=zm a;subst B;simp[Zu z]
theorem Qi(h:ae r=aI p):r = .val (.tup [.int p.1,.int p.2]):=by
 unfold ae at h;split at h
 ·split at h
  ·split at h
   ·obtain⟨i,a,b⟩:=zb h
    obtain⟨j,z,B⟩:=zm b;subst B;rw[z7 a,z7 z]
   ·cases h
  ·cases h
 ·cases h
theorem JN : ∀{ds:List D} {ps:List (Int×Int)},X7 F ds=aI ps->∀(i:Nat) d p,ds[i]? = aI d->ps[i]? = aI p->F [d]=aI (.val<|.tup [.int p.1,.int p.2])
 | [],ps,h,i,d,p,hd,hp=>by simp at hd
 | c::r,ps,h,i,d,p,hd,hp=>by
  obtain⟨q,e,f⟩:=zb h;obtain⟨l,z,B⟩:=zm f;subst B;cases i with
  | zero=>
   simp at hd hp;subst hd hp;obtain⟨g,a,b⟩:=zb e;rw[a,Qi b]
  | succ i=>exact JN z i d p (by simpa using hd) (by simpa using hp)
section
variable{X:Cx}{sc:l9}{N L:List Str}{k j:Nat}{e:g9}{fq:CO (Sk×List D)}{F:List D->Option Res}{x:Str}{p p2 pos Ha:l0}
theorem YC(hf:fA X.prog X.w X.K X.mg X.base j x 1 F)(h:SX X sc N L k)(hj:j+1+1<=k)(c:j3 sc "sorted" = cT)(z:X.mg "sorted" = cI)(Z:j3 sc x=cT)(hq:PQ X e fq)
 (hs:lp [e] X.env=[(dV,hH e X.env)]:=by rfl) :
 PO X (.Call (.Name "sorted" p) [e] [⟨aI "key",.Name x p2,Ha⟩] pos) (Vy F fq):=by
 intro b s σ H Q I U;obtain⟨H0,γ,out,rc,B,q⟩:=U;obtain⟨⟨kk,ds⟩,A,B⟩:=zb B;obtain⟨C,fd,pr,hn,G,R,hk,M⟩:=hf.ex;cases kk with
 | T=>cases B
 | L=>
  have B:((X7 F ds).bind λps=>if ds.length<64 then aI ((qA ps).map λi=>ds.getD i .hI)else cI)=aI out:=B;obtain⟨ps,m,B⟩:=zb B;by_cases n:ds.length<64
  ·rw[GK n]at B
   cases B;refine tL (jP (u:= .builtin "sorted") I (h.gl c).1 z ⋯ (callWith_kw ?_ (by rw[hs];rfl) (by rw[hs];rfl)) ⋯ ⋯);refine kr ((zK hq jc hs) pos b s σ H (λvs f=>∃a xs J,vs=[.ref a]/\Ext H0 H J f/\l8 X.K f a xs/\g5 X.K J ds xs) I ⟨H0,γ,.L,ds,rc,A,λa xs f J d W g2 O=>⟨a,xs,J,rfl,d,W,O⟩⟩) λus o U=>?_;obtain⟨vs,f,Y,rv,a,xs,J,rfl,d,W,O⟩:=U;obtain⟨u,rfl,ru⟩:=qC rv;cases ru;show wpAny _ _ (evalAll ((do let v <- hH (.Name x p2) X.env;Dh pos;pure v)::[])) _ _ o;refine wpAny_evalAll_cons (rS (qt Y (h.gl Z).1 R (rS (Cd (rW ?_))) (h.gl Z).2.2));refine wpAny_evalAll_nil ?_;obtain⟨y,r,pl,hz⟩:=Y.list W;have l1:=r.length;have l2:=O.length;have l3:=Zu m;show wpAny _ _ (call (.builtin "sorted") [.ref a] [(tm "key",.ref C)]) _ _ o;refine Qw (H0:=J) (ps:=ps) (xs:=xs) (ds:=ds) (vs:=y) (F:=F) G hn (h.room.mono hj) M Y d.sub pl.isList r O ⋯ ⋯ (JN m) λs' H' g D E l S t=>?_;refine⟨.ref D,_,t,rfl,q D _ _ g (d.trans (S.trans (Ext.hide S.sub l _))) (j1 d.s1 E) (zO S.sub l) zr ?_⟩;refine w9 (O.mono S.s0) _ λi P=>?_;have:=(qY ps).mem_iff.mp P;have:=Az.mp this;omega
  ·rw[GX n]at B;cases B
end
section
variable{X:Cx}{sc:l9}{N L:List Str}{k j n i:Nat}{a b c e:g9}{es:List g9}{f:CO D}{g:CO (List D)}{p pos:l0}{x:Str}{st HG HH:l7}{rest:List l7}{F:List D->Option Res}
open Classical in
def C8(H:Hp)(p:eH):Hp:=λc=>if c=p then cI else H c
theorem E2{H:Hp}{p c:eH}(h:c≠p):C8 H p c=H c:=GX h
end
mutual
def FE:D->Bool
 | .tup a=>EE a
 | .lst a=>EE a
 | .exc _ _=>dV
 | .o6 _ _=>dV
 | .n9 _ _=>dV
 | .ins _ _ _=>dV
 | _=>cT
def EE:List D->Bool
 | []=>cT
 | x::xs=>FE x && EE xs
end
mutual
theorem Rep.less{K:rR}{H:Hp}{p:eH}{I:il->Prop}(J:H p=aI (.ext I)) : ∀{d:D} {v:V},FE d=cT->Rep K H d v->Rep K (C8 H p) d v
 | .hI,_,_,h=>h
 | .bl _,_,_,h=>h
 | .int _,_,_,h=>h
 | .str _,_,_,h=>h
 | .tup ds,v,n,h=>by
  obtain⟨a,b,f,g,i⟩:=(show ∃a b,v = .ref a/\mu K H a b/\g5 K H ds b from h);refine(show ∃a b,v = .ref a/\mu K (C8 H p) a b/\g5 K (C8 H p) ds b from⟨a,b,f,?_,g5.less J n i⟩);have z : ∀{u:HO},(∀I,u ≠ .ext I)->H a=aI u->a≠p:=λB q e=>by rw[e,J]at q;exact B _ (sJ q).symm
  rcases g with(hq | ⟨o',hq⟩) | hq
  ·exact .inl (.inl<|by rw[E2 (z (λ_=>by simp) hq)];exact hq)
  ·exact .inl<|.inr ⟨o',by rw[E2 (z (λ_=>by simp) hq)];exact hq⟩
  ·exact .inr hq
 | .lst ds,v,n,h=>by
  obtain⟨a,b,f,g,i⟩:=(show ∃a b,v = .ref a/\l8 K H a b/\g5 K H ds b from h);refine(show ∃a b,v = .ref a/\l8 K (C8 H p) a b/\g5 K (C8 H p) ds b from⟨a,b,f,?_,g5.less J n i⟩);have z : ∀{u:HO},(∀I,u ≠ .ext I)->H a=aI u->a≠p:=λB q e=>by rw[e,J]at q;exact B _ (sJ q).symm
  rcases g with(hq | ⟨o',hq⟩) | hq
  ·exact .inl (.inl<|by rw[E2 (z (λ_=>by simp) hq)];exact hq)
  ·exact .inl<|.inr ⟨o',by rw[E2 (z (λ_=>by simp) hq)];exact hq⟩
  ·exact .inr hq
 | .exc _ _,_,n,_=>nomatch n
 | .o6 _ _,_,n,_=>nomatch n
 | .n9 _ _,_,n,_=>nomatch n
 | .ins _ _ _,_,n,_=>nomatch n
theorem g5.less{K:rR}{H:Hp}{p:eH}{J:il->Prop}(I:H p=aI (.ext J)) : ∀{ds:List D} {xs:List V},EE ds=cT->g5 K H ds xs->g5 K (C8 H p) ds xs
 | [],_,_,h=>h
 | d::ds,xs,n,h=>by obtain⟨x,r,a,b,e⟩:=(show ∃x r,xs=x::r/\Rep K H d x/\g5 K H ds r from h);have n:(FE d && EE ds)=cT:=n;rw[rY]at n;exact(show ∃x r,xs=x::r/\Rep K (C8 H p) d x/\g5 K (C8 H p) ds r from⟨x,r,a,Rep.less I n.1 b,g5.less I n.2 e⟩)
end
section
variable{X:Cx}{sc:l9}{N L:List Str}{k j n i:Nat}{a b c e:g9}{es:List g9}{g:CO (List D)}{p pos:l0}{x y:Str}{st:l7}{body rest:List l7}{F:List D->Option Res}
open Classical in
end
noncomputable def wd(f:CO D)(g:CO (Sk×List D)):CO D:=λb=>(f b).bind λd=>(g b).bind λa=>match d with
 | .str x=>(J3 a.2).map λl=> .bl (!l.any λy=>y==x)
 | _=>cI
section
variable{X:Cx}{sc:l9}{N L:List Str}{k j n i:Nat}{a b c e:g9}{es:List g9}{g:CO (List D)}{p pos:l0}{x:Str}{st:l7}{body rest:List l7}{F:List D->Option Res}
theorem Yx{Z:ExceptHandler}{J:List ExceptHandler}{Y:l0}{F:CO Fl}(h:p8 X.p3 st F):p8 X (.Try [st] (Z::J) [] [] Y) F:=by
 intro a s f H D I ⟨O,S,b,e,B,d,U,W⟩;refine wpAny_Try_except ?_;refine sC (zg h a s f H D (I.p7 _) ⟨O,S,b,e,_,d,U,W⟩) (λB g z=>?_) λ_ _ z=>z.elim;have z:=z.u7;cases B with
 | next=>exact Ax z
 | ret v=>exact z
 | brk=>exact z
 | cont=>exact z
end
section
variable{X:Cx}{sc:l9}{N L:List Str}{k j n i:Nat}{a b c e:g9}{es:List g9}{g:CO (List D)}{p pos:l0}{x:Str}{st:l7}{body rest:List l7}{F:List D->Option Res}
theorem ko{c:g9}{Z:CO D}(ha:PV X a Z){I:CO (Sk×List D)}(hb:PQ X c I)(hm:vr .NotIn c=dV:=by with_unfolding_all rfl):o4 X (.Compare a [.NotIn] [c] pos) (sB<|wd Z I):=
 yv (qI kR ha hb hm) λF H Q J=>by
  obtain⟨i,h,d,rc,z,q⟩:=J;obtain⟨A,O,S⟩:=zb z;obtain⟨x,m,z⟩:=zb O;obtain⟨⟨f,k⟩,n,z⟩:=zb z;cases x with
  | str w=>
   obtain⟨l,U,rfl⟩:=zm z;cases S;refine⟨i,h,_,rc,m,λW u Y g B=>⟨Y,h,f,k,rc.ext g,n,λp E b j t e C r=>?_⟩⟩;have o:=qD r U;subst o;have s:l8 X.K b p (l.map V.str)\/mu X.K b p (l.map V.str):=by
    cases f with
    | L=>exact .inl e
    | T=>exact .inr e
   have B:W = .str w:=B;subst B;refine⟨p,_,rfl,s,rfl,xK l,?_⟩;have:CN (.str w) (l.map V.str)=l.any λy=>y==w:=by unfold CN;rw[List.any_map];rfl
   rw[this];exact⟨_,rfl,q b j<|g.trans t⟩
  | _=>cases z
end
abbrev F3:=Ctx->List Int->List D->Option (Ctx×List Int×List D)
noncomputable def nF(F G:F3):F3:=λd a b=>(F d a b).bind λr=>G r.1 r.2.1 r.2.2
def C9(e:g9):Str:=match e with | .Name x _=>x | _=>""
noncomputable def CQ(e:g9):List Str:=match e with | .Tuple a _ _=>a.map C9 | e=>[C9 e]
noncomputable def Dt(N:List Str)(fs:List Nat):List (Str×Nat):=fs.map λi=>(N.getD i "",i)
theorem wF(N:List Str)(fs:List Nat):(Dt N fs).map (·.2)=fs:=by unfold Dt;rw[List.map_map];exact List.map_id fs
def Wb(e:g9):Bool:=match e with | .Name _ _=>cT | _=>dV
theorem Qm{e:g9}(h:Wb e=cT) : ∃p,e = .Name (C9 e) p:=by
 unfold Wb at h;split at h
 ·exact⟨_,rfl⟩
 ·cases h
noncomputable def mV(I:l9)(N L:List Str)(is:List Nat)(J:List g9):Bool:=match is with
 | [i,j]=>(match J with | [a,b]=>Wb a && (qd I N L i (C9 a) && (Wb b && qd I N L j (C9 b))) | _=>dV)
 | [i,j,l]=>(match J with | [a,b,c]=>Wb a && (qd I N L i (C9 a) && (Wb b && (qd I N L j (C9 b) && (Wb c && qd I N L l (C9 c))))) | _=>dV)
 | _=>dV
noncomputable def Ff(I:l9)(N L:List Str)(e:g9)(T:Tg):Bool:=match T with
 | .nm i=>Wb e && qd I N L i (C9 e)
 | .tp is=>(match e with | .Tuple a _ _=>mV I N L is a | _=>dV)
theorem cf{X:Cx}{Y:l9}{N L:List Str}{k:Nat}(h:SX X Y N L k){e:g9}{T:Tg}(c:Ff Y N L e T=cT):PG X e (Ct X.K T):=by
 cases T with
 | nm i=>
  have c:=Bool.and_eq_true_iff.mp c;obtain⟨p,q⟩:=Qm c.1;rw[q];exact h.Eg _ c.2
 | tp is=>
  unfold Ff at c;dsimp only at c;split at c
  ·next d j b=>
   unfold mV at c;split at c
   ·split at c
    ·simp only[rY]at c
     obtain⟨z,B,I,J⟩:=c;obtain⟨p,q⟩:=Qm z;obtain⟨S,O⟩:=Qm I;rw[q,O];exact h.Gr<|xP (h.Eg _ B)<|xP (h.Eg _ J) XG
    ·cases c
   ·split at c
    ·simp only[rY]at c
     obtain⟨z,B,I,J,U,a⟩:=c;obtain⟨p,q⟩:=Qm z;obtain⟨S,O⟩:=Qm I;obtain⟨f,W⟩:=Qm U;rw[q,O,W];exact h.Gr<|xP (h.Eg _ B)<|xP (h.Eg _ J)<|xP (h.Eg _ a) XG
    ·cases c
   ·cases c
  ·cases c
noncomputable def cB(J scope:l9)(N:List Str)(I:g9)(T:Tg)(n:Nat)(fs:List Nat):Bool:=
 Jn J scope N (Dt N fs) && (iG (CQ I) scope (Dt N fs) && (decide (∀i∈T.idx,i<(CQ I).length) && (decide ((CQ I).length=n) && Ff (qo scope J) (CQ I++(Dt N fs).map (·.1)) (CQ I) I T)))
abbrev Ds(X:Cx)(scope:l9)(N:List Str)(tg:g9)(fs:List Nat):=zT X scope (CQ tg++(Dt N fs).map (·.1))
abbrev SA(X:Cx)(sc scope:l9)(N:List Str)(tg:g9)(fs:List Nat)(k:Nat)(fp:List eH)(s2:g8)(H2:Hp):Prop:=SX (Ds X scope N tg fs fp s2 H2) (qo scope sc) (CQ tg++(Dt N fs).map (·.1)) (CQ tg) k
section
variable{X:Cx}{sc scope:l9}{N L:List Str}{k n i:Nat}{fs:List Nat}{T:Tg}{e elt tg iter D3:g9}{es:List g9}{pos p py spos cpos:l0}{x y:Str}{f g:CO D}{fo:CO (List D)}{src gl:CO (List D)}{kk:CO Bool}
theorem cA(h:SX X sc N L k)(c:cB sc scope N tg T n fs=cT):B2 X scope (Dt N fs)/\(∀i∈T.idx,i<(CQ tg).length)/\(CQ tg).length=n/\(∀fp S O,SA X sc scope N tg fs k fp S O)/\∀fp S O,PG (Ds X scope N tg fs fp S O) tg (Ct X.K T):=by unfold cB at c;simp only[rY,decide_eq_true_eq]at c;obtain⟨z,a,B,I,J⟩:=c;have s : ∀fp S O,SA X sc scope N tg fs k fp S O:=λfp S O=>h.comp a;exact⟨h.GO z,B,I,s,λfp S O=>cf (s fp S O) J⟩
theorem ju(h:SX X sc N L k)(S:B8 X tg iter src)(O : ∀fp J I,SA X sc scope N tg fs k fp J I->PV (Ds X scope N tg fs fp J I) elt f)(c:cB sc scope N tg T n fs=cT:=by decide +kernel)(hs : ∀x,A3 iter X.env x=pure x:=by intro _;rfl) :
 PO X (.ListComp elt [⟨tg,iter,[],0⟩] scope pos) (zL src T n fs jR f):=by
 obtain⟨a,b,d,s,q⟩:=cA h c;have r:=W3 (pos:=pos) h.calm a b S q (λfp J I=>O fp J I<|s fp J I) hs;rw[d,wF]at r;exact r
theorem Qd(h:SX X sc N L k)(S:B8 X tg iter src)(z : ∀fp J I,SA X sc scope N tg fs k fp J I->o4 (Ds X scope N tg fs fp J I) D3 kk)(O : ∀fp J I,SA X sc scope N tg fs k fp J I->PV (Ds X scope N tg fs fp J I) elt f)(c:cB sc scope N tg T n fs=cT:=by decide +kernel)(hs : ∀x,A3 iter X.env x=pure x:=by intro _;rfl) :
 PO X (.ListComp elt [⟨tg,iter,[D3],0⟩] scope pos) (zL src T n fs kk f):=by
 obtain⟨a,b,d,s,q⟩:=cA h c;have r:=Xz (pos:=pos) h.calm a b S q (λfp J I=>z fp J I<|s fp J I) (λfp J I=>O fp J I<|s fp J I) hs;rw[d,wF]at r;exact r
theorem xO(h:SX X sc N L k)(S:B8 X tg iter src)(O : ∀fp J I,SA X sc scope N tg fs k fp J I->PV (Ds X scope N tg fs fp J I) elt f)(ct:qd sc N L i y=cT:=by decide +kernel)(c:cB sc scope N tg T n fs=cT:=by decide +kernel)(hs : ∀x,A3 iter X.env x=pure x:=by intro _;rfl) :
 PS X (.Assign [.Name y py] (.ListComp elt [⟨tg,iter,[],0⟩] scope cpos) spos) (vy (tO X.K<|zL src T n fs jR f)<|j4 i):=by
 obtain⟨a,b,d,s,q⟩:=cA h c;have r:=Hj (cpos:=cpos) (spos:=spos) (py:=py) i h ct h.calm a b S q (λfp J I=>O fp J I<|s fp J I) hs;rw[d,wF]at r;exact r
theorem WZ(h:SX X sc N L k)(S:B8 X tg iter src)(z : ∀fp J I,SA X sc scope N tg fs k fp J I->o4 (Ds X scope N tg fs fp J I) D3 kk)(O : ∀fp J I,SA X sc scope N tg fs k fp J I->PV (Ds X scope N tg fs fp J I) elt f)(ct:qd sc N L i y=cT:=by decide +kernel)(c:cB sc scope N tg T n fs=cT:=by decide +kernel)(hs : ∀x,A3 iter X.env x=pure x:=by intro _;rfl) :
 PS X (.Assign [.Name y py] (.ListComp elt [⟨tg,iter,[D3],0⟩] scope cpos) spos) (vy (tO X.K<|zL src T n fs kk f)<|j4 i):=by
 obtain⟨a,b,d,s,q⟩:=cA h c;have r:=iZ (cpos:=cpos) (spos:=spos) (py:=py) i h ct h.calm a b S q (λfp J I=>z fp J I<|s fp J I) (λfp J I=>O fp J I<|s fp J I) hs;rw[d,wF]at r;exact r
theorem zq(h:SX X sc N L k)(c:vX sc N i x=cT:=by decide +kernel):PV X (.Name x pos) (zo i):=JF i<|h.var c
theorem zD(h:SX X sc N L k)(c:vX sc N i x=cT:=by decide +kernel):PQ X (.Name x pos) (zl i):=VP i<|h.var c
theorem zW(h:SX X sc N L k)(I:PV X e f)(c:qd sc N L i x=cT:=by decide +kernel)(hs:B6 e (aI (.Name x py)) pos.line X.env=pure dV:=by rfl):p8 X (.Assign [.Name x py] e pos) (jk i f):=yx i<|h.set i c I hs
theorem yy(h:SX X sc N L k)(I:PO X e fo)(c:qd sc N L i x=cT:=by decide +kernel)(hs:B6 e (aI (.Name x py)) pos.line X.env=pure dV:=by rfl):p8 X (.Assign [.Name x py] e pos) (wc i fo):=Yy i<|h.set i c I hs
theorem kQ{I:List l7}{F:CO Fl}(hx:X.xe=λ_ _=>False)(h:SX X sc N L k)(O:n6 X tg iter src)(J:QJ X I F)(c:Ff sc N L tg T=cT:=by decide +kernel)(hs : ∀x,A3 iter X.env x=pure x:=by intro _;rfl):p8 X (.For tg iter I [] pos) (Xa src T F):=WX (dQ hx) h.calm O (cf h c) J hs
variable{j:Nat}{F:List D->Option Res}
theorem zJ(O:fA X.prog X.w X.K X.mg X.base j x n F)(h:SX X sc N L k)(I:Dp X (e::es) n gl)(z:j<=k:=by decide)(c:j3 sc x=cT:=by decide +kernel)
 (J:lp (e::es) X.env=(dV,hH e X.env)::lp es X.env:=by rfl) (B:(pk pos<|starEach es X.env).any (·.1)=dV:=by rfl):PV X (.Call (.Name x p) (e::es) [] pos) (zG F gl):=dh O z h c I J B
theorem qp(O:fA X.prog X.w X.K X.mg X.base j x n F)(h:SX X sc N L k)(I:Dp X (e::es) n gl)(z:j<=k:=by decide)(c:j3 sc x=cT:=by decide +kernel)
 (J:lp (e::es) X.env=(dV,hH e X.env)::lp es X.env:=by rfl) (B:(pk pos<|starEach es X.env).any (·.1)=dV:=by rfl):PO X (.Call (.Name x p) (e::es) [] pos) (jo F gl):=lg O z h c I J B
end
def iq(i:Int):Str:=tm<|toString i
noncomputable def J5(f:CO D):CO D:=λa=>((f a).bind p0).bind λi=>if inR i=cT then aI (.str<|iq i)else cI
noncomputable def Q6(f g:CO D):CO D:=λa=>(f a).bind λd=>(g a).bind λe=>match d,e with
 | .str x,.str y=>aI (.bl<|Txt.startswith x y)
 | _,_=>cI
noncomputable def pZ(d:D):Option Str:=match d with
 | .int i=>if inR i=cT then aI (iq i)else cI
 | .str x=>if zV x=cT then aI x else cI
 | _=>cI
def WJ(f:CO D):CO D:=λa=>((f a).bind pZ).map .str
noncomputable def nP(d:D):Option Str:=match d with
 | .str x=>if zV x=cT then aI x else cI
 | _=>cI
noncomputable def Yp(fs:List (CO D))(out:Str):CO D:=λa=>match fs with
 | []=>aI (.str out)
 | f::r=>((f a).bind nP).bind λx=>Yp r (out++x) a
noncomputable def ZZ(fs:List (CO D)):CO D:=λa=>if fs.length<=10 then Yp fs Str.empty a else cI
noncomputable def dA(n:Nat)(lo I st:Option Int):List Nat:=sliceRange (Dg lo I st n).1 (Dg lo I st n).2.1 (Dg lo I st n).2.2
noncomputable def xu{I:Type}(xs:List I)(lo J st:Option Int):List I:=(dA xs.length lo J st).filterMap λi=>xs[i]?
noncomputable def iM(f:CO (Sk×List D))(l h s:CO (Option Int)):CO (List D):=λb=>(f b).bind λa=>(l b).bind λlo=>(h b).bind λd=>(s b).bind λst=>match a.1 with
 | .L=>if st=aI 0 then cI else if (xu a.2 lo d st).length<=lim then aI (xu a.2 lo d st)else cI
 | .T=>cI
noncomputable def w5(f g:CO D):CO (List D):=λa=>(f a).bind λd=>(g a).bind λe=>match d,e with
 | .str x,.str y=>if x.length<=20000/\(y.length==0)=dV then aI ((Bs x y).map D.str)else cI
 | _,_=>cI
noncomputable def Yo(f:CO D):CO D:=λa=>(f a).bind λd=>match d with
 | .str x=>if x.length<=640 then (PySem.intText? x).map D.int else cI
 | _=>cI
noncomputable def cO(f g:CO D):CO D:=λa=>(f a).bind λd=>(g a).bind λe=>match d,e with
 | .str x,.str y=>aI (.bl<|!(ud y x 0 y.length 1).isEmpty)
 | _,_=>cI
end DL
namespace L2
open PySem PySem.Spec PyProof.Rows
theorem X0{X:Cx}:ET X "str.startswith" (λx vs H Q=>∃z y,x = .str z/\vs=[.str y]/\Q (.bl (Txt.startswith z y)) H):=by intro a s d H x vs v b Q I B J h;obtain⟨z,y,rfl,rfl,q⟩:=h;obtain⟨t,rfl⟩:=B;obtain⟨u,rfl,O,rfl⟩:=qC J;exact PySem.SC.startswith ⟨.bl _,H,I,rfl,q⟩
theorem vq : ∀l:List (Str×ro),kA ((l.map (·.1)).map V.str) (strValues l)
 | []=> .nil
 | (z,t)::l=> .cons ⟨t,rfl⟩ (vq l)
theorem Y1{X:Cx}:ET X "str.split" (λx vs H Q=>∃z y,x = .str z/\vs=[.str y]/\(y.length==0)=dV/\z.length<=20000/\∀l,H l=cI->Q (.ref l) (upd H l (.lst ((Bs z y).map V.str)))):=by
 intro a s f H x vs v j Q I U W h;obtain⟨z,y,rfl,rfl,O,i,q⟩:=h;obtain⟨t,rfl⟩:=U;obtain⟨u,rfl,B,rfl⟩:=qC W;have big:30000<=l4:=by decide
 have J : ∀(l:List (Str×ro)) (k:Nat),l.map (·.1)=Bs z y->l.length<=l4->EP X a f Q (.ref s.heap.objs.size) {s with heap:=s.heap.push {cls:= .type "list",data:= .seq (strValues l).toArray},toks:=k}:=λl k e Y=>by have S:=vq l;rw[e]at S;exact⟨.ref s.heap.objs.size,_,I.E3 S (by rw[<- e];simpa using Y),rfl,q _ (I.iv.fresh (sf _))⟩
 cases c1:(decide (z.length<y.length) || decide (Builtin.Str.strKind z<Builtin.Str.strKind y))with
 | true=>
  have b:Bs z y=[z]:=GK c1;refine uR Co (BI _ _ _) Ci (BZ _ _) (meets_str_split_cannot_occur z y t B c1) ?_;exact J [(z,t)] s.toks (by rw[b];rfl) (by simp;omega)
 | false=>
  cases c2:(ud z y 0 z.length<|z.length+1).isEmpty with
  | true=>
   have b:Bs z y=[z]:=(GX<|by rw[c1];simp).trans (GK c2);refine uR Co (BI _ _ _) Ci (BZ _ _) (meets_str_split_not_found z y t B c1 O c2) ?_;exact J [(z,t)] s.toks (by rw[b];rfl) (by simp;omega)
  | false=>
   have b:Bs z y=AI z (ud z y 0 z.length<|z.length+1) y.length:=(GX<|by rw[c1];simp).trans (GX<|by rw[c2];simp);have d:(AI z (ud z y 0 z.length<|z.length+1) y.length).length<=l4:=by have g:=StrLaws.occ_length_le z y 0 z.length<|z.length+1;rw[length_partsBetween];omega
   refine uR Co (BI _ _ _) Ci (BZ _ _) (meets_str_split_sep z y t B c1 O c2 ⋯ d) ?_;rw[strsFrom_eq];exact J (numbered s.toks _) _ ((numbered_texts _ _).trans b.symm) (by
    have:=congrArg List.length<|numbered_texts s.toks<|AI z (ud z y 0 z.length<|z.length+1) y.length;rw[sZ]at this;rw[this];exact d)
end L2
namespace DL
open PySem PySem.Spec PyProof.Rows L2
theorem Zp{i:Int}(h:inR i=cT):i.natAbs.log2<1920:=by
 unfold inR at h;have h:=of_decide_eq_true h;by_cases z:i.natAbs=0
 ·rw[z];decide
 ·refine(Nat.log2_lt z).mpr (si h ?_)
  exact Nat.pow_le_pow_right ⋯ ⋯
section
variable{X:Cx}{sc:l9}{N L:List Str}{k:Nat}{a b e o:g9}{f g:CO D}{p pos:l0}
theorem yn(h:SX X sc N L k)(c:j3 sc "str" = cT)(z:X.mg "str" = cI)(I:PV X e f)(hs:lp [e] X.env=[(dV,hH e X.env)]:=by rfl):PV X (.Call (.Name "str" p) [e] [] pos) (J5 f):=
 z6 (xQ ZH (h.gl c).1 z PyProof.Rows.boot_str (zK I jc hs) ⋯ ⋯ hs rfl) λn H Q J=>by
  obtain⟨l,m,d,rc,B,q⟩:=J;obtain⟨i,b,B⟩:=zb B;obtain⟨O,S,b⟩:=zb b;by_cases g:inR i=cT
  ·rw[GK g]at B;cases B
   refine⟨l,m,O,rc,S,λv j a x r=>?_⟩;rw[z7 b]at r;exact⟨i,by rw[zX r],Zp g,q _ j a x rfl⟩
  ·rw[GX g]at B;cases B
theorem Xk{Z cpos:l0}(I:PV X o f)(he:PV X e g)(J:D0 o "startswith" X.env (hH o X.env)=hH o X.env:=by rfl)
 (O:((pk cpos<|starEach [e] X.env).all (λx=> !x.1) && (DD cpos<|keywordEach [] X.env).all (λx=>x.1.isSome) && decide ([e].length+([]:List CV).length+(if ([]:List CV).isEmpty then 0 else 1)<30))=cT:=by rfl)
 (S:(Z.endLine==cpos.line)=cT:=by rfl) (hs:lp [e] X.env=[(dV,hH e X.env)]:=by rfl):PV X (.Call (.Attribute o "startswith" Z) [e] [] cpos) (Q6 f g):=
 z6 (YL Bc PySem.F.slot_str_startswith PySem.F.type_str_startswith X0 I (zK he jc hs) J O S hs rfl) λt H Q U=>by
  obtain⟨h,b,d,rc,B,q⟩:=U;obtain⟨W,k,B⟩:=zb B;obtain⟨Y,l,B⟩:=zb B;cases W with
  | str z=>
   cases Y with
   | str y=>
    cases B;refine⟨h,b,_,rc,k,λv s a x r=>?_⟩;rw[show v = .str z from r];refine⟨rfl,a,b,_,rc.ext x,l,λn i j p m=>?_⟩;rw[show n = .str y from m];exact⟨z,y,rfl,rfl,q _ i j (x.trans p) rfl⟩
   | _=>cases B
  | _=>cases B
theorem vF{j:Int}(Y:j = -1)(Z:PV X a f):PV X (.FormattedValue a j cI pos) (WJ f):=by
 subst Y;intro l s L H Q I J;obtain⟨p,G,d,rc,C,q⟩:=J;obtain⟨y,g,rfl⟩:=zm C;obtain⟨O,w,g⟩:=zb g;refine FormattedValue_plain<|kr (Z l s L H (λv n=>∃h,Ext p H h n/\Rep X.K h O v) I ⟨p,G,O,rc,w,λv n h x r=>⟨h,x,r⟩⟩) λv E J=>?_;obtain⟨x,m,S,B,U,u,W⟩:=J;cases O with
 | int i=>
  have g:(if inR i=cT then aI (iq i)else cI)=aI y:=g;by_cases k:inR i=cT
  ·rw[GK k]at g;cases g
   rw[show x = .int i from W]at B;obtain⟨t,rfl⟩:=B;exact formatField_int_small (Zp k) ⟨.str _,m,(S.tok _).tok _,⟨_,rfl⟩,q _ m U u rfl⟩
  ·rw[GX k]at g;cases g
 | str z=>
  have g:(if zV z=cT then aI z else cI)=aI y:=g;by_cases k:zV z=cT
  ·rw[GK k]at g;cases g
   have A:x = .str _:=W;rw[A]at B;obtain⟨t,rfl⟩:=B;exact formatField_str (λt' F=>⟨.str _,m,(S.kept (h':=E.heap) (t':=F) λb o e=>e),⟨_,rfl⟩,q _ m U u rfl⟩)<|vB k
  ·rw[GX k]at g;cases g
 | _=>cases g
theorem bq(x y:Str):(x++y).length=x.length+y.length:=by
 show(x++y).cps.size=x.cps.size+y.cps.size;have:=congrArg List.length (show(x++y).cps.toList=x.cps.toList++y.cps.toList from by
  show(x.cps++y.cps).toList=_;simp)
 simpa using this
noncomputable def PJ(X:Cx)(I:List g9)(fs:List (CO D)):Prop:=∀(out:Str) (m:Nat) a s e H Q,out.length<=1000*m->m+fs.length<=10->Inv X a e H s->(∃g h d,RC X.K g H e h/\Yp fs out h=aI d/\∀v f b,Ext g H b f->Rep X.K b d v->Q v f)->
 wpAny (hR X.prog X.w) X.A (joinParts out<|evalEach I X.env) (EP X a e Q) X.xe s
theorem Zj:PJ X [] []:=λout m a s g H Q z e I B=>by obtain⟨b,f,d,rc,J,q⟩:=B;cases J;exact joinParts_nilE<|joinParts_nil ⟨.str out,H,I.tok _,⟨_,rfl⟩,q _ H b (Ext.refl rc.sub) rfl⟩<|sF z<|sF (Nat.mul_le_mul_left 1000<|show m<=10 by simp at e;omega) ⋯
theorem jL{Z:List g9}{fs:List (CO D)}(h1:PV X e f)(h2:PJ X Z fs):PJ X (e::Z) (f::fs):=λout m g s n H Q N C I J=>by
 obtain⟨k,i,d,rc,B,q⟩:=J;have B:((f i).bind nP).bind (λx=>Yp fs (out++x) i)=aI d:=B;obtain⟨y,b,B⟩:=zb B;obtain⟨O,W,b⟩:=zb b;have A:O = .str y/\zV y=cT:=by
  cases O with
  | str z=>
   have b:(if zV z=cT then aI z else cI)=aI y:=b;by_cases j:zV z=cT
   ·rw[GK j]at b;cases b;exact⟨rfl,j⟩
   ·rw[GX j]at b;cases b
  | _=>cases b
 obtain⟨rfl,Y⟩:=A;have M:=qW Y;have u:m+1+fs.length<=10:=by simp at C;omega
 have S:(out++y).length<=1000*(m+1):=by rw[bq];omega
 refine joinParts_consE<|joinParts_cons<|kr (h1 g s n H (λv h=>∃a,Ext k H a h/\Rep X.K a (.str y) v) I ⟨k,i,_,rc,W,λv h a x r=>⟨a,x,r⟩⟩) λv G J=>?_;obtain⟨x,o,p,U,w,l,F⟩:=J;rw[show x = .str y from F]at U;obtain⟨t,rfl⟩:=U;exact⟨sF S<|sF (Nat.mul_le_mul_left 1000<|show m+1<=10 by omega) ⋯,h2 (out++y) (m+1) g G n o Q S u p ⟨w,i,d,rc.ext l,B,λv h a L E=>q v h a (l.trans L) E⟩⟩
theorem yp{O S:g9}{W:List g9}{fs:List (CO D)}(h:PJ X (O::S::W) fs):PV X (.JoinedStr (O::S::W) pos) (ZZ fs):=by
 intro a s f H Q I J;obtain⟨b,e,d,rc,z,q⟩:=J;unfold ZZ at z;by_cases B:fs.length<=10
 ·rw[GK B]at z
  exact JoinedStr_many<|h Str.empty 0 a s f H Q (sf _) ⋯ I ⟨b,e,d,rc,z,q⟩
 ·rw[GX B]at z;cases z
theorem k9{Z cpos:l0}(O:PV X o f)(he:PV X e g)(S:D0 o "split" X.env (hH o X.env)=hH o X.env:=by rfl)
 (U:((pk cpos<|starEach [e] X.env).all (λx=> !x.1) && (DD cpos<|keywordEach [] X.env).all (λx=>x.1.isSome) && decide ([e].length+([]:List CV).length+(if ([]:List CV).isEmpty then 0 else 1)<30))=cT:=by rfl)
 (W:(Z.endLine==cpos.line)=cT:=by rfl) (hs:lp [e] X.env=[(dV,hH e X.env)]:=by rfl):PO X (.Call (.Attribute o "split" Z) [e] [] cpos) (w5 f g):=
 z6 (YL Bc PySem.F.slot_str_split PySem.F.type_str_split Y1 O (zK he jc hs) S U W hs rfl) λA H Q Y=>by
  obtain⟨h,d,m,rc,B,q⟩:=Y;obtain⟨j,n,B⟩:=zb B;obtain⟨k,p,B⟩:=zb B;cases j with
  | str z=>
   cases k with
   | str y=>
    have B:(if z.length<=20000/\(y.length==0)=dV then aI ((Bs z y).map D.str)else cI)=aI m:=B;by_cases a:z.length<=20000/\(y.length==0)=dV
    ·rw[GK a]at B;cases B
     refine⟨h,d,_,rc,n,λv u b x r=>?_⟩;rw[show v = .str z from r];refine⟨rfl,b,d,_,rc.ext x,p,λt w i I s=>?_⟩;rw[show t = .str y from s];refine⟨z,y,rfl,rfl,a.2,a.1,λl J=>?_⟩;exact q l _ _ i ((x.trans I).trans (Ext.hide I.sub J _)) (eB (x.trans I).s1 J) (zO I.sub J) zr<|qG _
    ·rw[GX a]at B;cases B
   | _=>cases B
  | _=>cases B
theorem KH{X:Cx}:y9 X (.type "int") (λxs H Q=>∃z n,xs=[.str z]/\PySem.intText? z=aI n/\z.length<=640/\Q (.int n) H):=by intro a s e H xs d Q I r h;obtain⟨z,n,rfl,b,B,q⟩:=h;obtain⟨u,rfl,t,rfl⟩:=qC r;exact PySem.W.KIN.call_text b B ⟨.int n,H,I.tok _,⟨_,rfl⟩,q⟩
theorem Z4(h:SX X sc N L k)(c:j3 sc "int" = cT)(z:X.mg "int" = cI)(O:PV X e f)(hs:lp [e] X.env=[(dV,hH e X.env)]:=by rfl):PV X (.Call (.Name "int" p) [e] [] pos) (Yo f):=
 z6 (xQ KH (h.gl c).1 z PyProof.Rows.boot_int (zK O jc hs) ⋯ ⋯ hs rfl) λm H Q S=>by
  obtain⟨g,l,d,rc,B,q⟩:=S;obtain⟨J,i,B⟩:=zb B;refine⟨g,l,J,rc,i,λv b a ext r=>?_⟩;cases J with
  | str w=>
   have B:(if w.length<=640 then (PySem.intText? w).map D.int else cI)=aI d:=B;by_cases I:w.length<=640
   ·rw[GK I]at B
    obtain⟨n,j,rfl⟩:=zm B;exact⟨w,n,by rw[show v = .str w from r],j,I,q _ b a ext rfl⟩
   ·rw[GX I]at B;cases B
  | _=>cases B
theorem WR(Z:PV X a f)(hb:PV X b g)(hm:vr .In b=dV:=by with_unfolding_all rfl):PV X (.Compare a [.In] [b] pos) (cO f g):=
 z6 (wq XQ Z hb hm) λn H Q I=>by
  obtain⟨i,h,d,rc,B,q⟩:=I;obtain⟨J,k,B⟩:=zb B;obtain⟨O,l,B⟩:=zb B;cases J with
  | str z=>
   cases O with
   | str y=>
    cases B;exact⟨i,h,_,rc,k,λv m e x r=>⟨e,h,_,rc.ext x,l,λY j S U W=>⟨z,y,r,W,q _ j S (x.trans U) rfl⟩⟩⟩
   | _=>cases B
  | _=>cases B
end
theorem ZU{xs:List V}{us:List eI}(h:kA xs us) : ∀l:List Nat,kA (l.filterMap λi=>xs[i]?) (l.filterMap λi=>us[i]?)
 | []=> .nil
 | i::l=>by
  by_cases a:i<xs.length
  ·obtain⟨u,e,r⟩:=h.get (rV a)
   rw[Af (rV a),Af e];exact .cons r<|ZU h l
  ·have z : ¬i<us.length:=by rw[<- h.length];exact a
   rw[Ag (AA ⋯),Ag (AA ⋯)];exact ZU h l
theorem Z0{K:rR}{H:Hp}{ds:List D}{xs:List V}(h:g5 K H ds xs) : ∀l:List Nat,g5 K H (l.filterMap λi=>ds[i]?) (l.filterMap λi=>xs[i]?)
 | []=>g5.nil
 | i::l=>by
  by_cases a:i<ds.length
  ·obtain⟨u,e,r⟩:=h.get (rV a)
   rw[Af (rV a),Af e];exact g5.cons r<|Z0 h l
  ·have z : ¬i<xs.length:=by rw[h.length];exact a
   rw[Ag (AA ⋯),Ag (AA ⋯)];exact Z0 h l
noncomputable def oY(K:rR)(I:TE)(L J O:TO):TE:=λb H Q=>I b H λx e=>L b e λl f=>J b f λu B=>O b B λk z=>k≠aI 0/\∃a d,x = .ref a/\l8 K z a d/\(xu d l u k).length<=l4/\∀p,z p=cI->Q (.ref p) (upd z p<|.lst<|xu d l u k)
section
variable{X:Cx}{a e:g9}{p2 pos:l0}
theorem XJ{lo L:Option g9}{st:g9}{Z:TE}{tl th ts:TO}(he:PE X e Z)(S:L2.PO X lo tl)(U:L2.PO X L th)(W:L2.PO X (aI st) ts):PE X (.Subscript e (.Slice lo L (aI st) p2) pos) (oY X.K Z tl th ts):=by
 intro a s d H Q I h;refine Fm (kr (he a s d H _ I h) λv s1 Y=>?_);obtain⟨x,g,m,r1,P⟩:=Y;refine wpAny_Slice (kr (S a s1 d g _ m P) λvl s2 ⟨l,i,n,M,R⟩=>kr (U a s2 d i _ n R) λvu s3 ⟨u,j,o,N,q3⟩=>kr (W a s3 d j _ o q3) λvk z ⟨f,k,p,G,q4⟩=>?_);obtain⟨F,b,xs,rfl,E,t,q⟩:=q4;cases r1;have B:Inv X a d k {z with heap:=z.heap.push {cls:= .type "slice",data:= .fields #[vl,vu,vk]}}:=p.kept (t':=z.toks) λb ob q=>rT _ q;obtain⟨J,r,O,A⟩:=B.list E;have y:=r.length;refine tail_any (ops:=[.ref b,.ref z.heap.objs.size]) (T:="list") O.isList.typeIs Cn.lookup ?_ (by with_unfolding_all rfl);refine HA O.isList (Heap.IsSliceOf.new ..) M N G F ?_ (by rw[rX];omega);have w:FG J.toArray l u f=(xu J l u f).toArray:=by unfold FG xu dA;simp
 rw[w];have C:kA (xu xs l u f) (xu J l u f):=by unfold xu;rw[y];exact ZU r _
 exact⟨.ref _,_,B.E3 (t':=z.toks) C t,rfl,q _<|B.iv.fresh<|sf _⟩
theorem VR{lo hi:Option g9}{st:g9}{Z:CO (Sk×List D)}{O S fs:CO (Option Int)}(ha:PQ X a Z)(hl:L2.PO X lo (tB X.K O))(hh:L2.PO X hi (tB X.K S))(hk:L2.PO X (aI st) (tB X.K fs)):PO X (.Subscript a (.Slice lo hi (aI st) p2) pos) (iM Z O S fs):=
 z6 (XJ ha hl hh hk) λσ H Q A=>by
  obtain⟨k,e,o,rc,z,q⟩:=A;obtain⟨⟨C,d⟩,p,z⟩:=zb z;obtain⟨l,s,z⟩:=zb z;obtain⟨u,t,z⟩:=zb z;obtain⟨c,w,z⟩:=zb z;cases C with
  | T=>cases z
  | L=>
   have z:(if c=aI 0 then cI else if (xu d l u c).length<=lim then aI (xu d l u c)else cI)=aI o:=z;by_cases g:c=aI 0
   ·rw[GK g]at z;cases z
   rw[GX g]at z;by_cases h:(xu d l u c).length<=lim
   ·rw[GK h]at z;cases z
    refine⟨k,e,.L,d,rc,p,λb j G f x y R r=>⟨f,e,l,rc.ext x,s,λM m B=>⟨m,e,u,(rc.ext x).ext B,t,λN n J=>⟨n,e,c,((rc.ext x).ext B).ext J,w,λP U I=>?_⟩⟩⟩⟩;have W:=x.trans<|B.trans<|J.trans I;have Y:g5 X.K U (xu d l u c) (xu j l u c):=by have F:=r.mono (B.trans<|J.trans I).s0;unfold xu;rw[r.length];exact Z0 F _
    refine⟨g,b,j,rfl,(B.trans<|J.trans I).s1.seq y,sF (by rw[Y.length];exact h) ⋯,λE i=>?_⟩;exact q E _ _ U (W.trans<|Ext.hide I.sub i _) (j1 W.s1 i) (zO I.sub i) zr Y
   ·rw[GX h]at z;cases z
end
theorem nG{K:rR}{I:GV}{h:il}{x z:Str}{t:ro}(B:K.In h)(G:h.Ns o7 I)(a:uw K o7 x=aI (aI (.str z t))):GL K I x (.str z):=
 ⟨_,.str z,uP B G a,⟨t,rfl⟩,λ_=>(show V.str z = .str z from rfl)⟩
section
variable{X:Cx}{sc:l9}{N L:List Str}{k:Nat}
theorem Vr{Z:GW}{σ:St}{H H0:Hp}{U:Xn}{ev:eI}{s':g8}{D:Ends}{J j:Nat}{nx zx:Str}{np pz pn a7 bv:l0}(h:SX X sc N L k)(a8:X.stack=X.env::X.outer/\X.env.frame=aI X.env.locals)
 (x:XS X.K X.mg) (b1:j3 sc "SplitError" = cT) (cn:qd sc N L J nx=cT) (cl:decide (sc.names.lookup nx=aI .local)=cT) (cv:vX sc N J nx=cT) (cz:qd sc N L j zx=cT)
 (lf:oQ X Z σ H0 H U ev s') (c4 : ∀b G G0,Ext H0 H G0 G->Rep X.K G0 (.exc U.1 U.2) (.ref b)->D.nx (((σ.set J<|some (.ref b)).set j (aI (.ref b))).set J cI) G)
 (hs:B6 (.Name nx pn) (aI (.Name zx pz)) a7.line X.env=pure dV:=by rfl) :
 wpAny (hR X.prog X.w) X.A (E6 ev X.env) (λ_ s2=>wpAny (hR X.prog X.w) X.A (Fd ev cI) (λ_ s3=>
  wpAny (hR X.prog X.w) X.A (handleBy ev X.env [.ExceptHandler (aI (.Name "SplitError" np)) (aI nx) [.Assign [.Name zx pz] (.Name nx pn) a7] bv]) (SP X Z D) X.xe s3) X.xe s2) X.xe s':=by
 obtain⟨H1,ea,s1,s,x1,a,C,H',F,rfl,⟨I,P,eC,xa,xm,xc,xn,x2⟩,c7,c8,c9,un,iv,y,ca,⟨B,t,fl,ce,b6⟩⟩:=lf;obtain rfl:I=C:=(sk.inj eC).symm;have ci:X.A.frames=aI (X.env::X.outer):=by rw[<- a8.1];exact s.ok.frames
 rw[a8.1]at fl;obtain⟨S,co,cq,cr,cs,ct,cw⟩:=x.ex;obtain⟨M,b7,y1,O,y3⟩:=kj xa xm xc;obtain rfl:M=S:=by rw[co]at b7;exact(sJ b7).symm
 have b8 : ∀m:il,uA B (X.env::X.outer) a (.ref I) (.ref t) m->s'.heap.UpToSlots m->r6 F a m->L2.Inv X Z σ (upd H' a<|.ext λg=>QI g a I/\r6 F a g) {s' with heap:=m}:=λm f sm dk=>by
  have obj:QI m a I:=by obtain⟨oe,p,_,_,_,e1,⟨e2,_⟩,e3,_⟩:=f.2.2.2;exact⟨oe,p,e1,e2,e3⟩
  have ne : ∀b o,s1.heap.get? b=aI o->b≠a:=λb o q z=>by rw[z,ca]at q;cases q
  have b9 : ∀b,b∈o1 X.stack->∃o,s1.heap.get? b=aI o/\(∀p,o.data ≠ .fields p)/\∃sl,m.get? b=aI {o with slots:=sl}:=λb l=>by obtain⟨_,o,q,nf⟩:=s.stack.mem l;obtain⟨sl,z⟩:=un.slot b o q (s.Ec b l) l ⋯;obtain⟨d0,z'⟩:=sm b _ z nf;exact⟨o,q,nf,d0,z'⟩
  refine s.F5 (s':={s' with heap:=m}) (ch:=[]) c8 ⟨λb o q n l _=>?_,λb o q n l _=>?_,λb o q n _=>?_,λb o q _=>?_,λb xs q=>?_,λb o u q=>?_,λb ps q=>?_⟩ ?_ c9 (λ_ z=>nomatch z)
  ·exact f.1 b o<|b6 b o (un.keep b o q n l ⋯) (by rw[q];simp) l
  ·obtain⟨E,q',_,z⟩:=b9 b l
   rw[q]at q';cases q';exact z
  ·rw[zw (ne b o q)];exact un.free b o q n ⋯
  ·by_cases l:b∈o1 X.stack
   ·obtain⟨E,_,_,sl,z⟩:=b9 b l
    exact⟨_,z⟩
   ·obtain⟨E,z⟩:=un.there b o q ⋯
    exact⟨E,f.1 b E<|b6 b E z (by rw[q];simp) l⟩
  ·have z:=un.A8 b xs q
   rw[zw (zS z y)];exact z
  ·have z:=un.wh b o u q
   rw[zw (zS z y)];exact z
  ·obtain⟨more,z⟩:=un.A6 b ps q
   exact⟨more,by rw[zw (zS z y)];exact z⟩
  ·refine aK (qv iv λb u n q=>f.1 b u<|ce b u q n) y ⟨obj,dk⟩ ?_ ?_
   ·obtain⟨o,_,e,_⟩:=obj;exact⟨o,e⟩
   ·rintro g1 g2 ⟨⟨o,p,e,r⟩,d2⟩ kk
    exact⟨⟨o,p,kk o e,r⟩,d2.obj kk⟩
 refine eJ ci a8.2 fl c7 λh4 d3 be d4=>?_;refine eK d3 d4 λh5 R bi bl=>?_;have I5:=Kg (b8 h5 R (be.trans bi) bl)<|.ref a;have d5:QI h5 a I:=by obtain⟨oe,p,_,_,_,e1,⟨e2,_⟩,e3,_⟩:=R.2.2.2;exact⟨oe,p,e1,e2,e3⟩
 have mS:uj X.K I (.ref M)=aI cT:=by
  have O:=O;unfold sU at O;by_cases z:(sk I==sk M)=cT
  ·have e:I=M:=sk.inj (beq_iff_eq.mp z)
   subst e;exact cw
  ·rw[GX z]at O
   unfold PySem.W.kitCls at O;dsimp only at O;split at O
   ·exact O
   ·cases O
 refine wpAny_handleBy_cons (codeAny_handlers_test<|qt (X:=DR X<|.ref a) I5 (show Gl X _ from(h.gl b1).1) cq ?_ (h.gl b1).2.2) (by intro q;cases q);refine(Jl I5.m4 d5 cr cs ct mS) _ _ _ _ (λ_ _ z=>z) ?_;refine codeAny_handlers_suite_as<|fN R bl λh6 d8 d9 da=>?_;have I6:=Kg (b8 h6 d8 ((be.trans bi).trans d9) da)<|.ref a;obtain⟨n1,n2,n3⟩:=h.loc cn;obtain⟨z1,z2,z3⟩:=h.loc cz;refine wa (X:=DR X<|.ref a) (v:= .ref a) I6 (show X.N.Nodup from h.DT) n1 n2 rfl (λs7 I7=>?_) n3;have hv:PE (DR X<|.ref a) (.Name nx pn) (wL J):=by
  unfold vX at cv;simp only[rY,tx,decide_eq_true_eq,uX]at cv;obtain⟨⟨⟨v1,Y⟩,v3⟩,v4⟩:=cv;refine VT (by show X.N[J]? = aI nx;rw[h.eN];exact v1) ?_ v3 v4;show Ew X.env.scope nx;unfold Ew;rw[h.C5];rcases Y with(Y | Y) | Y
  ·exact .inl Y
  ·exact .inr<|.inl Y
  ·exact .inr<|.inr Y
 have e0:PS (DR X<|.ref a) (.Assign [.Name zx pz] (.Name nx pn) a7) (vy (wL J)<|j4 j):=VM (X:=DR X<|.ref a) (show X.N.Nodup from h.DT) z1 z2 hv hs z3;have e4:J<σ.length:=by rw[s.len];exact(su.mp n1).1
 have run:=(j0 e0) Z s7 (σ.set J<|some (.ref a)) _ {nx:=λEL Hn=>EL=(σ.set J<|some (.ref a)).set j (aI (.ref a))/\Hn=upd H' a (.ext λg=>QI g a I/\r6 F a g),rt:=λ_ _=>False} I7
  ⟨.ref a,sM e4,rfl,rfl⟩
 refine sC run (λf s8 z=>?_) λ_ _ z=>z.elim;cases f with
 | next=>
  obtain⟨HI,H8,Q,rfl,rfl⟩:=z;have Q:=Kd s.ok Q;refine XZ Q h.DT n1 (by rw[h.C5];exact of_decide_eq_true cl) λs9 I9=>⟨_,_,I9,?_⟩;have xt:=x1.trans<|x2.trans<|Ext.alloc x2.sub y<|.ext λg=>QI g a I/\r6 F a g;have rep:Rep X.K (upd P a<|.ext λg=>QI g a I/\r6 F a g) (.exc U.1 U.2) (.ref a):=by
   refine(show ∃b,V.ref a = .ref b/\B9 X.K _ U.1 U.2 b from⟨a,rfl,xa,xm,I,_,xc,zr,λ_ z=>z.1,?_⟩);unfold Zn at xn;cases hc:U.2 with
   | none=>trivial
   | some i=>
    rw[hc]at xn;obtain⟨d,e8,T⟩:=xn;have e9:d≠a:=λq=>by rw[q,x2.sub.free y]at T;cases T
    exact⟨d,λg z=>z.2.1 d e8,by rw[zw e9];exact T⟩
  exact c4 a _ _ xt rep
 | ret v=>obtain⟨_,_,_,_,_,z⟩:=z;exact z.elim
 | brk=>obtain⟨_,_,_,z⟩:=z;exact z.elim
 | cont=>obtain⟨_,_,_,z⟩:=z;exact z.elim
end
abbrev ZF:=List D->Option (D×D)
noncomputable def cg(f1:CO D)(tA tB:CO Bool):List D->Option Xn:=λe=>match e with
 | [d,l]=>(f1 [.no,.val l,.no]).bind λz=>(tA [.no,.val l,.val z]).bind λa=>if a=cT then aI (("NoLine" : Str),cI)else
  if D5 d=cT then (tB [.no,.val l,.val z]).bind λb=>if b=cT then aI (("Nothing" : Str),cI)else cI else cI
 | _=>cI
noncomputable def cj(f1:CO D)(tA tB tC:CO Bool)(I J L:List D->Option Res):ZF:=λe=>match e with
 | [d,l]=>(f1 [.no,.val l,.no]).bind λz=>(tA [.no,.val l,.val z]).bind λa=>if a=cT then cI else
  (if D5 d=cT then tB [.no,.val l,.val z]else aI dV).bind λb=>if b=cT then cI else
  (tC [.no,.val l,.val z]).bind λc=>if c=cT then (I [d,z]).map λr=>(QL r,d)else (J [d,z]).bind λr=>(L [QL r]).map λq=>(QL q,QL r)
 | _=>cI
noncomputable def Ws(J:ZF)(TG:List D->Option Xn)(I:List D->Option Res):ZF:=λa=>match TG a with
 | some c=>(I [.exc c.1 c.2]).bind λr=>a.head?.map λd=>(QL r,d)
 | none=>J a
abbrev ZT:=Ctx->D->Option (Bool×D)
noncomputable def CI(I:ZF)(J fr:CO D):ZT:=λa d=>(J a).bind λl=>(I [d,l]).bind λo=>(fr a).bind λr=>((t6 o.1 r).bind CD).map λb=>(b,o.2)
noncomputable def Ek(t u:ZT):ZT:=λa d=>(t a d).bind λr=>if r.1=cT then aI (cT,r.2)else u a r.2
noncomputable def bw:List ZT->Ctx->D->Option Fl
 | [],a,_=>aI (.next a)
 | t::ts,a,d=>(t a d).bind λr=>if r.1=cT then aI (.ret<|.val<|.bl dV)else bw ts a r.2
noncomputable def Yr(i:Nat)(I:List ZT):CO Fl:=λa=>if (a.set i .no).any wB=dV/\i<a.length then bw I (a.set i .no) .hI else cI
noncomputable def Q8(ks:List Str)(f:CO D):CO D:=λa=>(f a).bind λd=>match d with
 | .str x=>aI (.bl<|!decide (x∈ks))
 | _=>cI
noncomputable def ng(I:List (Str×Int))(f:CO D):CO D:=λa=>(f a).bind λd=>match d with
 | .str x=>(I.lookup x).map D.int
 | _=>cI
def qs(v:V):List (Str×V):=vK "row" v []
theorem yO(v:V):(qs v).lookup ("row" : Str)=aI v:=by unfold qs;rw[qr,GK rfl]
theorem JQ(v:V):(qs v).lookup ("tell" : Str)=cI:=by unfold qs;rw[qr,GX ⋯];rfl
theorem aM(v w:V):vK "row" w (qs v)=qs w:=by show(if ("row" : Str) = "row" then (("row" : Str),w)::[]else _)=_;rw[GK rfl];rfl
structure Dj(K:rR)(C:eH):Prop where
 cls:CA K C
 nr:DA K C "row"
def wz(H:Hp)(p:eH):Hp:=λb=>if b=p then cI else H b
theorem xV{H:Hp}{p:eH}:wz H p p=cI:=GK rfl
theorem xf{H:Hp}{p b:eH}(h:b≠p):wz H p b=H b:=GX h
theorem Zs{H:Hp}{p:eH}:l5 (wz H p) H:=λb o e=>by
 by_cases z:b=p
 ·rw[z,xV]at e;cases e
 ·rw[xf z]at e;exact e
theorem aG{C I:eH}{fs:List (Str×V)} : ∀xs,HO.ins C I fs ≠ .lst xs:=λxs z=>by cases z
section
variable{K:rR}{E0 E H0 H yr H':Hp}{σ:St}{γ:Ctx}{p:eH}{u:HO}
theorem RS.less(r:RS K E0 E H0 H σ γ)(L:γ.any wB=dV)(Y:H p=aI u)(J : ∀xs,u ≠ .lst xs)(S:H0 p=cI)(W:E p=cI):RS K E0 E H0 (wz H p) σ γ:=by
 have B:l5 H0 (wz H p):=λb o e=>by rw[xf (λz=>by rw[z,S]at e;cases e)];exact r.rc.sub b o e
 have j : ∀{a:eH} {xs:List V},H a=aI (.lst xs)->a≠p:=λe z=>by rw[z,Y]at e;exact J _<|sJ e
 refine⟨⟨B,r.rc.len,r.rc.val,λi f e=>?_,r.rc.ne,u6.ED<|XY L⟩,⟨r.ext.s0,λb o e=>by rw[xf (λz=>by rw[z,W]at e;cases e)];exact r.ext.s1 b o e,B,r.ext.new⟩,r.fresh,λi d a xs e=>absurd e<|XY L i d⟩;obtain⟨a,xs,g,h,I,O⟩:=r.rc.own i f e;exact⟨a,xs,g,h,by rw[xf (j I)];exact I,O⟩
theorem Jw{Q:VK}{r:Res}(s:l5 H0 H)(q : ∀v H' yr,Ext H0 H yr H'->Rep K yr (QL r) v->Q v H'):oO K H0 H Q r:=by
 cases r with
 | val d=>exact q
 | own fs=>exact λa f H' yr I e b J O=>q _ H' _ (I.show e b J s) (show ∃z B,V.ref a = .ref z/\l8 K _ z B/\g5 K _ fs B from⟨a,f,rfl,l8.of zr,O.mono<|zN b _⟩)
theorem Xe{d:D}{v:V}(h:Rep K H d v):decide (v = .hI)=D5 d:=by
 by_cases z:d = .hI
 ·subst z
  rw[show v = .hI from h];rfl
 ·have : ¬v = .hI:=λq=>z (yl<|q ▸ h)
  rw[decide_eq_false this];cases d with
  | hI=>exact absurd rfl z
  | _=>rfl
end
noncomputable def cu(K:rR)(C:eH)(F:ZF):Sp:=λh H Q _=>∃b p g v d l z o f,h=[.ref p,z]/\l5 b H/\b p=cI/\H p=aI (.ins C g<|qs v)/\Rep K b d v/\Rep K b l z/\F [d,l]=aI (o,f)/\
 ∀u B e a,Ext b (wz H p) a e->e p=aI (.ins C g<|qs B)->a p=cI->Rep K a o u->Rep K a f B->Q u e
noncomputable def iH(K:rR)(C:eH)(G:List D->Option Xn):Sp:=λh H _ E=>∃a p g v d l z c,h=[.ref p,z]/\l5 a H/\a p=cI/\H p=aI (.ins C g<|qs v)/\Rep K a d v/\Rep K a l z/\G [d,l]=aI c/\
 ∀B e b f,Jr K=cT->c.1∈yg->va K c.1=aI B->Zn c f b->Ext a H b e->E (.ref B) f e
def vx:TS:=λ_ _ _=>False
theorem yw{X:Cx}{I:List l7}:ri X I vx:=λ_ _ _ _ _ _ h=>h.elim
abbrev fS(K:rR):TE:=mW K (wL 0) "row"
abbrev pN:R2:=λx y H Q=>y = .hI/\Q (.bl (decide (x = .hI))) H
abbrev ZV(K:rR)(tB:CO Bool):L2.TT:=mX (Wt (Ef pN (fS K) (tC .hI))) (tT K tB)
noncomputable def iw(K:rR)(f1:CO D)(tA tB tC:CO Bool)(I J L:List D->Option Res):TS:=
 Yh (vy (tV K f1)<|j4 2) (Yh (fV (tT K tA) vx Yi) (Yh (fV (ZV K tB) vx Yi) (Yh (fV (tT K tC) (fU<|wV (u0 K 2 I) [] E0 (wU (fS K)<|wU (tV K<|zo 2) KZ)) Yi)
  (Yh (iP K (wL 0) (wV (u0 K 2 J) [] E0 (wU (fS K) (wU (tV K (zo 2)) KZ))) "row") (fU (wV (u0 K 1 L) [] E0 (wU (fS K) KZ)))))))
theorem Xd{K:rR}{H0 H:Hp}{p:eH}{l:D}{z:V}(I:l5 H0 H)(B:Rep K H0 l z):RS K H0 H H0 H (qE ["self","line","words"] [.ref p,z]) [.no,.val l,.no]:=
 (we (N:=["self","line","words"]) I (g5.cons (d:=D.hI) (x:=V.hI) (show V.hI = .hI from rfl) (g5.cons B g5.nil)) (show 2<=3 by decide)).forget (i:=0) (v:=aI (.ref p))
theorem Fx{A B:Prop}(h:B):if (dV=cT)then A else B:=by rw[GX sh];exact h
theorem F9{A B:Prop}(h:A):if (cT=cT)then A else B:=by rw[GK rfl];exact h
section
variable{P:m3}{w:l6}{K:rR}{mg:GV}{base:il}{k:Nat}{q:Str}{st:l7}{f C:eH}{fd:o9}{f1:CO D}{tA tB tC:CO Bool}{FA FC FR:List D->Option Res}
theorem Vf(Fu:L2.u5 K "tell" q st f fd)(hd:ZE ["self","line","words"] ["self","line"] st=cT)(c:Dj K C)
 (c0 : ∀X:Cx,X.prog=P->X.w=w->X.K=K->X.mg=mg->X.base=base->SX X (zE st) ["self","line","words"] ["self","line","words"] k->ri X (jj st) (iw X.K f1 tA tB tC FA FC FR)) :
 oT P w K mg base rb (k+1) f fd ["self","line"] (cu K C (cj f1 tA tB tC FA FC FR)):=by
 have S:=qX hd;refine Fu.ok S (λvs H Q E h=>by obtain⟨Z,p,j,v,d,l,lv,o,d',rfl,_⟩:=h;rfl) λEW A outer s H vs Q E hr c1=>⟨_,c0 _ rfl rfl rfl rfl rfl ⟨rfl,rfl,S.nd,rfl,hr,λ_ _=> .inl rfl⟩,?_⟩;obtain⟨Z,p,j,v,d,l,lv,o,d',rfl,s0,h0,hp,rv,rl,B,qq⟩:=c1;obtain⟨W,e1,B⟩:=zb B;obtain⟨a,e2,B⟩:=zb B;have b2:=Xd (p:=p) s0 rl;cases a with
 | true=>cases B
 | false=>
  rw[GX sh]at B;obtain⟨b,e3,B⟩:=zb B;cases b with
  | true=>cases B
  | false=>
   rw[GX sh]at B;obtain⟨cc,e4,B⟩:=zb B;refine⟨Z,_,W,b2.rc,e1,λwv H1 b5 x1 r1=>?_⟩;have b6:RC K b5 H1 _ [.no,.val l,.val W]:=(b2.rc.ext x1).t9 (i:=2) r1;refine⟨b5,_,dV,b6,e2,λH2 a6 x2=>Fx ?_⟩;have F:=x1.trans x2;have b8:=b6.ext x2;have c7:=F.s1 _ _ hp;have c8:=rv.mono F.s0;have T : ∀(D:Bool->Hp->Prop),(∀t g,Ext a6 H2 g t->D dV t)->ZV K tB ((qE ["self","line","words"] [.ref p,lv]).set 2 (aI wv)) H2 D:=λD hD=>by
    refine⟨.ref p,rfl,p,C,j,qs v,v,rfl,c7,c.cls,c.nr,yO v,rfl,_,rfl,?_⟩;rw[Xe c8];cases hn:D5 d with
    | true=>
     rw[hn,GK rfl]at e3;rw[GK rfl];exact⟨a6,_,dV,b8,e3,λt g x=>hD t g x⟩
    | false=>
     rw[GX sh];exact hD H2 a6<|Ext.refl F.sub
   refine T _ λH3 c9 x3=>Fx ?_;have ca:=F.trans x3;have bd:=b8.ext x3;refine⟨c9,_,cc,bd,e4,λH4 a7 x4=>?_⟩;have L:=ca.trans x4;have bg:=bd.ext x4;have Y:=L.s1 _ _ hp;have a8:=rv.mono L.s0;have bi:=L.new p h0 (by rw[hp];simp);have E4 : ∀{G R},Ext a7 H4 R G->Ext Z (wz H p) R G:=λ{G R} y=>by
    have z:=L.trans y;exact⟨z.s0,λb o e=>z.s1 b o<|Zs b o e,z.sub,λb q1 O=>by
     by_cases m:b=p
     ·subst m;exact absurd xV O
     ·rw[xf m]at O;exact z.new b q1 O⟩
   cases cc with
   | true=>
    rw[GK rfl]at B;obtain⟨r,e5,e6⟩:=zm B;cases e6;refine F9 ⟨.ref p,rfl,p,C,j,qs v,v,rfl,Y,c.cls,c.nr,yO v,a7,_,W,bg,rfl,λch H5 am I r5=>?_⟩;refine⟨am,[d,W],r,I.sub,g5.cons (a8.mono I.s0)<|g5.cons r5 g5.nil,rfl,e5,Jw I.sub λu H6 M x6 N=>?_⟩;have J:=I.trans x6;exact qq u v H6 M (E4 J) (J.s1 _ _ Y) (J.new p bi<|by rw[Y];simp) N<|a8.mono J.s0
   | false=>
    rw[GX sh]at B;obtain⟨r,e5,B⟩:=zb B;obtain⟨r2,e6,e7⟩:=zm B;cases e7;refine Fx ⟨.ref p,rfl,p,C,j,qs v,v,rfl,Y,c.cls,c.nr,yO v,a7,_,W,bg,rfl,λch H5 am I r5=>?_⟩;refine⟨am,[d,W],r,I.sub,g5.cons (a8.mono I.s0)<|g5.cons r5 g5.nil,rfl,e5,Jw I.sub λu H6 M x6 N=>?_⟩;have J:=I.trans x6;have co:=J.s1 _ _ Y;have bm:=J.new p bi (by rw[Y];simp);refine⟨.ref p,rfl,p,C,j,qs v,rfl,co,c.cls,c.nr,by show 1<1000;decide,?_⟩;rw[aM];have s6:l5 M (upd H6 p<|.ins C j<|qs u):=λb n e=>by rw[zw (λz=>by rw[z,bm]at e;cases e)];exact J.sub b n e
    refine⟨.ref p,rfl,p,C,j,qs u,u,rfl,zr,c.cls,c.nr,yO u,?_⟩;refine⟨M,[QL r],r2,s6,g5.cons N g5.nil,rfl,e6,Jw s6 λu2 H7 cs U r7=>?_⟩;have z:=E4 J;refine qq u2 u H7 cs ⟨z.s0.trans U.s0,λb n e=>?_,U.sub,λb q1 O=>?_⟩ (U.s1 _ _ zr) (U.new p bm<|by rw[zr];simp) r7<|N.mono U.s0
    ·have m:b≠p:=λy=>by rw[y,xV]at e;cases e
     exact U.s1 b n (by rw[zw m];exact z.s1 b n e)
    ·have m:b≠p:=λy=>by rw[y,xV]at O;exact O rfl
     refine U.new b (z.new b q1 O) ?_;rw[zw m];cases y:wz H p b with
     | none=>exact absurd y O
     | some n=>rw[z.s1 b n y];simp
end
structure GD(X:Cx)(Ee:List l7)(f1:CO D)(tA tB:CO Bool):Prop where
 ex : ∃s1 cA rA pA cB rB pB rest,Ee=s1 :: .If cA [rA] [] pA :: .If cB [rB] [] pB::rest/\PS X.p3 s1 (vy (tV X.K f1) (j4 2))/\o4 X.p3 cA tA/\Px X rA (ie "NoLine")/\PT X.p3 cB (ZV X.K tB)/\Px X rB (ie "Nothing")
section
variable{P:m3}{w:l6}{K:rR}{mg:GV}{base:il}{k:Nat}{q:Str}{st:l7}{f C:eH}{fd:o9}{f1:CO D}{tA tB:CO Bool}
theorem Ve(Fu:L2.u5 K "tell" q st f fd)(hd:ZE ["self","line","words"] ["self","line"] st=cT)(c:Dj K C)
 (be : ∀X:Cx,X.prog=P->X.w=w->X.K=K->X.mg=mg->X.base=base->SX X (zE st) ["self","line","words"] ["self","line","words"] k->GD X (jj st) f1 tA tB) :
 oT P w K mg base (o8 P w) (k+1) f fd ["self","line"] (iH K C (cg f1 tA tB)):=by
 have S:=qX hd;obtain⟨oc,od,kV,doc,pm,an,F,ct,E8,rfl,lk,bi⟩:=Fu.ex;refine fi lk bi S (λvs H Q E h=>by obtain⟨y,p,dx,v,d,l,lv,W,rfl,_⟩:=h;rfl) λA m s H vs Q E hr bl=>⟨λ_ σ n=>σ=qE ["self","line","words"] vs/\n=H,λj s1 σ r D I G6=>?_,rfl,rfl⟩;obtain⟨rfl,rfl⟩:=G6;obtain⟨y,p,dx,v,d,l,lv,W,rfl,s0,h0,hp,rv,rl,B,Z⟩:=bl;obtain⟨c0,cA,rA,pA,cB,rB,pB,rest,eb,b0,hA,b3,hB,b5⟩:=(be (vU (o8 P w) P w K mg base ["self","line","words"] q (zE st) f F A m s r E) rfl rfl rfl rfl rfl ⟨rfl,rfl,S.nd,rfl,hr,λ_ _=> .inl rfl⟩).ex;rw[eb];have b6:=Xd (p:=p) s0 rl;have xw:XW (vU (o8 P w) P w K mg base ["self","line","words"] q (zE st) f F A m s r E) y r W:=⟨λb7 G u J M h' a C us U O xa xm xc xn hx=>Qt U hx (Z C u J cI xa xm xc (by unfold Zn;rw[xn]) O),λb7 G u J M e s' U O hx=>by refine Jh (E':=λT od n=>∃C g,T = .ref C/\Jr K=cT/\W.1∈yg/\va K W.1=aI C/\Zn W od g/\Ext J u g n) U hx λcl o n z=>?_;obtain⟨C,g,rfl,z1,z2,z3,z4,z5⟩:=z;exact Z C n g o z1 z2 z3 z4 (O.trans z5),λb7 G u J M a C d t φ U y1 y2 y3 O xa xm xc xn=>Qu U y1 y2 (y3 rfl) (Z C _ J (aI d) xa xm xc xn O)⟩
 generalize hX:vU (o8 P w) P w K mg base ["self","line","words"] q (zE st) f F A m s r E=X at b0 hA b3 hB b5 xw I;have hK:X.K=K:=by rw[<- hX];rfl
 have hP:X.prog=P:=by rw[<- hX];rfl
 have hW:X.w=w:=by rw[<- hX];rfl
 subst hK;obtain⟨ws,e1,B⟩:=zb B;obtain⟨a,e2,B⟩:=zb B;refine sC (?_:wpAny (hR X.prog X.w) X.A (execs (c0 :: .If cA [rA] [] pA :: .If cB [rB] [] pB::rest) X.env) (λ_ _=>False) X.xe s1) (λ_ _ z=>z.elim) λ_ _ z=>z;refine uO (sC (b0 j s1 _ r {nx:=λEL n=>∃g Y,EL=(qE ["self","line","words"] [V.ref p,lv]).set 2 (aI Y)/\Ext y r g n/\Rep X.K g ws Y,rt:=λ_ _=>False} (I.p7 _) ⟨y,_,ws,b6.rc,e1,λY u J O r2=>⟨J,Y,rfl,O,r2⟩⟩) (λfl M z=>?_) λ_ _ z=>z.elim);cases fl with
 | ret v=>obtain⟨_,_,_,_,_,z⟩:=z;exact z.elim
 | brk=>obtain⟨_,_,_,z⟩:=z;exact z.elim
 | cont=>obtain⟨_,_,_,z⟩:=z;exact z.elim
 | next=>
  obtain⟨G,u,U,J,Y,rfl,O,r2⟩:=z;have U:=U.u7;have b8:RS X.K y r J u _ [.no,.val l,.val ws]:=(b6.step O).t9 (i:=2) r2;refine uO<|wpAny_If<|sC (hA j M _ u (λb n=>b=a/\∃g,Ext J u g n) (U.p7 _) ⟨J,_,a,b8.rc,e2,λn g x=>⟨rfl,g,x⟩⟩) (λb s3 z=>?_) λ_ _ z=>z.elim;obtain⟨N,L,rfl,R,x3⟩:=z;have L:=L.u7;have as:=b8.step x3;cases b with
  | true=>
   rw[GK rfl]at B;refine sC (Xh b3 j s3 _ N y r R _ W L as B xw) (λ_ _ z=>z.elim) λ_ _ z=>z
  | false=>
   rw[GX sh]at B;refine Ax ?_;by_cases hn:D5 d=cT
   ·rw[GK hn]at B
    obtain⟨b2,e3,B⟩:=zb B;cases b2 with
    | false=>cases B
    | true=>
     rw[GK rfl]at B;have ci:=O.trans x3;refine uO<|wpAny_If<|sC (hB j s3 _ N (λb n=>b=cT/\∃g,Ext R N g n) (L.p7 _) ⟨.ref p,rfl,p,C,dx,qs v,v,rfl,ci.s1 _ _ hp,c.cls,c.nr,yO v,rfl,_,rfl,?_⟩) (λb s4 z=>?_) λ_ _ z=>z.elim
     ·rw[Xe rv,hn]
      exact F9 ⟨R,_,cT,as.rc,e3,λn g x=>⟨rfl,g,x⟩⟩
     ·obtain⟨H4,I4,rfl,cr,x4⟩:=z
      exact sC (Xh b5 j s4 _ H4 y r cr _ W I4.u7 (as.step x4) B xw) (λ_ _ z=>z.elim) λ_ _ z=>z
   ·rw[GX hn]at B;cases B
end
noncomputable def cC(C:eH):Sp:=λb H Q _=>∃x a,b=[.ref x]/\H x=aI (.ins C a [])/\Q .hI (upd H x<|.ins C a<|qs .hI)
structure EU(P:m3)(w:l6)(K:rR)(mg:GV)(base:il)(j:Nat)(C:eH)(TF:ZF)(TG:List D->Option Xn):Prop where
 ex : ∃(f:eH) (fd:o9),Dj K C/\ES K C "tell" f/\oT P w K mg base rb j f fd ["self","line"] (cu K C TF)/\oT P w K mg base (o8 P w) j f fd ["self","line"] (iH K C TG)/\Binds K fd ["self","line"] []
structure Eu(P:m3)(w:l6)(K:rR)(mg:GV)(base:il)(j:Nat)(x:Str)(C:eH)(TF:ZF):Prop where
 ex : ∃(f:eH) (fd:o9) (ps:List Str),ps.length=2/\oT P w K mg base rb j f fd ps (cu K C TF)/\mg x=aI (.ref f)/\tR K (.ref f)=cT/\Binds K fd ps []
section
variable{P:m3}{w:l6}{K:rR}{mg:GV}{base:il}{k:Nat}{q:Str}{st:l7}{f C:eH}{fd:o9}
theorem Vg(z:L2.u5 K "__init__" q st f fd)(L:ZE ["self"] ["self"] st=cT)(c:Dj K C)
 (B : ∀X:Cx,X.prog=P->X.w=w->X.K=K->X.mg=mg->X.base=base->SX X (zE st) ["self"] ["self"] k->ri X (jj st) (iP X.K (wL 0) (tC .hI) "row")) :
 oT P w K mg base rb (k+1) f fd ["self"] (cC C):=by
 have S:=qX L;refine z.ok S (λi H Q E h=>by obtain⟨x,b,rfl,_⟩:=h;rfl) λd A a s H i Q E e I=>⟨_,B _ rfl rfl rfl rfl rfl ⟨rfl,rfl,S.nd,rfl,e,λ_ _=> .inl rfl⟩,?_⟩;obtain⟨x,b,rfl,g,J⟩:=I;exact⟨.ref x,rfl,x,C,b,[],rfl,g,c.cls,c.nr,by decide,J⟩
end
noncomputable def ck(K:rR)(C:eH)(I:ZF)(TG:List D->Option Xn):TS:=λD f H=>∃e p j v d l z,f[0]? = aI (aI (.ref p))/\f[1]? = aI (aI z)/\l5 e H/\e p=cI/\H p=aI (.ins C j<|qs v)/\Rep K e d v/\Rep K e l z/\
 ((∃c,TG [d,l]=aI c/\∀b G h,Ext e H h G->Rep K h (.exc c.1 c.2) (.ref b)->D.nx (((f.set 4<|some (.ref b)).set 2 (aI (.ref b))).set 4 cI) G)\/
  ∃o i,I [d,l]=aI (o,i)/\∀u B g a,Ext e (wz H p) a g->g p=aI (.ins C j<|qs B)->a p=cI->Rep K a o u->Rep K a i B->D.nx (f.set 3<|some u) g)
section
variable{X:Cx}{sc:l9}{N L:List Str}{k j:Nat}{C:eH}{TF:ZF}{TG:List D->Option Xn}{o a:g9}
theorem aO{Z:GW}{σ:St}{H H0:Hp}{d l:D}{v O:V}{p dx:eH}{B:Xn}{s:g8}{apos pos:l0}(hT:EU X.prog X.w X.K X.mg X.base j C TF TG)(hj:j<=k)(h:SX X sc N L k)(ho:PE X.p3 o (wL 0))(ha:PE X.p3 a (wL 1))
 (I:Inv X Z σ H s) (z0:σ[0]? = aI (aI (.ref p))) (z1:σ[1]? = aI (aI O)) (s0:l5 H0 H) (h0:H0 p=cI) (hp:H p=aI (.ins C dx<|qs v)) (rv:Rep X.K H0 d v) (rl:Rep X.K H0 l O) (eG:TG [d,l]=aI B)
 (U:lp [a] X.env=(dV,hH a X.env)::lp [] X.env:=by rfl) (a8:(pk pos<|starEach [] X.env).any (·.1)=dV:=by rfl) {pl:oD Bool}
 (ht:hH (.Call (.Attribute o "tell" apos) [a] [] pos) X.env=(do
   let Y <- hH o X.env
   Dh apos.atName
   let (f,first) <- holding [Y] (getMethod Y "tell" pl)
   callWith pos f first (pk pos<|starEach [a] X.env) (DD pos<|keywordEach [] X.env)):=by rfl) :
 wpAny (hR X.prog X.w) X.A (hH (.Call (.Attribute o "tell" apos) [a] [] pos) X.env) (λ_ _=>False) (oQ X Z σ H0 H B) s:=by
 obtain⟨f,fd,c,G,_,F,hb⟩:=hT.ex;refine PySem.W.methodCall_KW (pl:=pl) (sC (ho Z s σ H (λx m=>x = .ref p/\m=H) (I.p7 _) ⟨_,z0,rfl,rfl⟩) (λu s1 hZ=>?_) λ_ _ z=>z.elim) ht;obtain⟨x,m,S,rx,rfl,rfl⟩:=hZ;obtain rfl:u=sk p:=rx;have S:=S.u7;refine vQ S hp c.cls G (JQ v) ?_;have Q:PA X.p3 [a] _:=zK ha jc (show lp [a] X.p3.env=(dV,hH a X.p3.env)::lp [] X.p3.env from U);refine Bx (first:=[.ref p]) (h₀:=X.base) I.ok.mod.DP G.kp (sC (Q pos Z s1 σ m (λP g=>P=[O]/\g=m) (S.p7 _) ⟨_,z1,rfl,rfl⟩) (λn y ⟨P,g,J,r,T,R⟩=>⟨J.u7.m4,?_⟩) λ_ _ z=>z.elim) U a8;subst T R;have J:=J.u7;have hl:n.length=1:=by rw[<- r.length];rfl
 refine BH (AG (F.run X.A X.stack y g ⟨sk p::n,[]⟩ (sk p::n) (V.ref p::[O]) (λ_ _=>False) (λt M E=>∃C b,t = .ref C/\Jr X.K=cT/\B.1∈yg/\va X.K B.1=aI C/\Zn B M b/\Ext H0 g b E) (h.room.mono hj) J.CF
  (by simpa using hb y (sk p::n) J.m4 (by simpa using hl)) (.cons rfl r) ⟨H0,p,dx,v,d,l,O,B,rfl,s0,h0,hp,rv,rl,eG,λC E b M xa xm xc xn xx=>⟨C,b,rfl,xa,xm,xc,xn,xx⟩⟩) λr s' i=>?_)
 cases r with
 | error e=>exact⟨g,H0,y,J,Ext.refl s0,i⟩
 | ok fl=>
  cases fl with
  | ret u=>obtain⟨_,_,_,_,_,_,_,z⟩:=i;exact z.elim
  | next=>exact i.elim
  | brk=>exact i.elim
  | cont=>exact i.elim
theorem WY{y nx J:Str}{py cpos Z B np S pn U ac u4:l0}(W:EU X.prog X.w X.K X.mg X.base j C TF TG)(Y:j<=k)(h:SX X sc N L k)(am:X.stack=X.env::X.outer/\X.env.frame=aI X.env.locals)
 (cy:qd sc N L 3 y=cT) (ap:j3 sc "SplitError" = cT) (cn:qd sc N L 4 nx=cT) (cl:decide (sc.names.lookup nx=aI .local)=cT) (cv:vX sc N 4 nx=cT) (cz:qd sc N L 2 J=cT) (x:XS X.K X.mg)
 (ho:PE X.p3 o (wL 0)) (ha:PE X.p3 a (wL 1))
 (he:lp [a] X.env=(dV,hH a X.env)::lp [] X.env:=by rfl) (a2:(pk cpos<|starEach [] X.env).any (·.1)=dV:=by rfl) {pl:oD Bool}
 (ht:hH (.Call (.Attribute o "tell" B) [a] [] cpos) X.env=(do
   let ov <- hH o X.env
   Dh B.atName
   let (f,first) <- holding [ov] (getMethod ov "tell" pl)
   callWith cpos f first (pk cpos<|starEach [a] X.env) (DD cpos<|keywordEach [] X.env)):=by rfl)
 (a5:B6 (.Call (.Attribute o "tell" B) [a] [] cpos) (aI (.Name y py)) Z.line X.env=pure dV:=by rfl)
 (hs:B6 (.Name nx pn) (aI (.Name J S)) U.line X.env=pure dV:=by rfl) :
 PS X (.Try [.Assign [.Name y py] (.Call (.Attribute o "tell" B) [a] [] cpos) Z] [.ExceptHandler (aI (.Name "SplitError" np)) (aI nx) [.Assign [.Name J S] (.Name nx pn) U] ac] [] [] u4) (ck X.K C TF TG):=by
 intro b s σ H D I hZ;obtain⟨P,p,i,v,d,l,lv,A,G,t,m,g,r,n,hc⟩:=hZ;refine wpAny_Try_except ?_;rcases hc with⟨cc,eG,O⟩ | ⟨oo,R,T,O⟩
 ·refine uO (wpAny_Assign_Name (sC (aO W Y h ho ha I A G t m g r n eG he a2 (pl:=pl) ht) (λ_ _ z=>z.elim) λev s' z=>?_) a5)
  exact Vr h am x ap cn cl cv cz z O hs
 ·obtain⟨f,fd,c,hm,F,_,hb⟩:=W.ex
  have hN:=h.p7 λ_ _=>False;have Q:PS X.p3 (.Assign [.Name y py] (.Call (.Attribute o "tell" B) [a] [] cpos) Z) (vy (cm C "tell" (cu X.K C TF) [] E0 (wL 0) (wU (wL 1) KZ)) (j4 3)):=
   hN.set 3 cy (W8 (pl:=pl) (X:=X.p3) (E:=E0) ho c.cls hm F (h.room.mono Y) hb .nil Ja (zK ha jc he) he a2 ht) a5
  refine sC (j0 Q b s σ H D (I.p7 _) ⟨.ref p,A,p,i,qs v,rfl,g,JQ v,lv,G,P,p,i,v,d,l,lv,oo,R,rfl,t,m,g,r,n,T,λu v' M e x1 x2 x3 x4 x5=>O u v' M e x1 x2 x3 x4 x5⟩) (λfl s1 z=>?_) λ_ _ z=>z.elim;have z:=z.u7;cases fl with
  | next=>exact Ax z
  | ret v=>exact z
  | brk=>exact z
  | cont=>exact z
end
noncomputable def FP(I:List D->Option Res):CO Fl:=zP (n5 (sB<|zR gK (zo 2)<|zp .hI) (J6 3) jq)<|jA<|zG I<|ze (zo 2) zI
noncomputable def ir(K:rR)(C:eH)(J:ZF)(TG:List D->Option Xn)(I:List D->Option Res):TS:=
 Yh (vy (tC .hI)<|j4 2) (Yh (vy (tC .hI)<|j4 3)<|Yh (ck K C J TG)<|tS K<|FP I)
theorem Xc{K:rR}{H0 H:Hp}{p:eH}{l:D}{z:V}{N:List Str}(B:N.length=5)(J:l5 H0 H)(I:Rep K H0 l z):RS K H0 H H0 H (qE N [.ref p,z]) [.no,.val l,.no,.no,.no]:=by have r:=(we (N:=N) J (g5.cons (d:=D.hI) (x:=V.hI) (show V.hI = .hI from rfl)<|g5.cons I g5.nil)<|by show 2<=N.length;omega).forget (i:=0) (v:=aI (.ref p));rw[B]at r;exact r
section
variable{P:m3}{w:l6}{K:rR}{mg:GV}{base:il}{k:Nat}{x:Str}{st:l7}{C:eH}{TF:ZF}{TG:List D->Option Xn}{FK:List D->Option Res}{N ps:List Str}
theorem aN(A:ij K mg x st ps)(hd:ZE N ps st=cT)(O:N.length=5)(Y:ps.length=2)
 (a6 : ∀X:Cx,X.prog=P->X.w=w->X.K=K->X.mg=mg->X.base=base->SX X (zE st) N N k->(X.stack=X.env::X.outer/\X.env.frame=aI X.env.locals)->ri X (jj st) (ir X.K C TF TG FK)) :
 Eu P w K mg base (k+1) x C (Ws TF TG FK):=by
 obtain⟨f,fd,M,t,hm⟩:=A.ex;have S:=qX hd;refine⟨f,fd,ps,Y,?_,hm,M.kp,.all t⟩;refine M.ok S (λvs H Q E h=>by obtain⟨g,p,Z,v,d,l,B,o,T,rfl,_⟩:=h;exact Y.symm) λEW A outer s H vs Q E hr a7=>⟨_,a6 _ rfl rfl rfl rfl rfl ⟨rfl,rfl,S.nd,rfl,hr,λ_ _=> .inl rfl⟩ ⟨rfl,rfl⟩,?_⟩;obtain⟨g,p,Z,v,d,l,B,o,T,rfl,s0,h0,F,rv,U,I,qq⟩:=a7;have hl:(qE N [V.ref p,B]).length=5:=by simp[L2.qE,O]
 have g0:(qE N [V.ref p,B])[0]? = aI (aI (.ref p)):=by simp[L2.qE]
 have g1:(qE N [V.ref p,B])[1]? = aI (aI B):=by simp[L2.qE]
 have m : ∀G:Hp,Rep K G .hI .hI:=λG=>(show V.hI = .hI from rfl);refine⟨g,p,Z,v,d,l,B,?_,?_,s0,h0,F,rv,U,?_⟩
 ·rw[rZ ⋯,rZ ⋯];exact g0
 ·rw[rZ ⋯,rZ ⋯];exact g1
 unfold Ws at I;cases eG:TG [d,l]with
 | some c=>
  rw[eG]at I;obtain⟨r,e1,e2⟩:=zb I;cases e2;refine .inl ⟨c,rfl,λb G G0 j rx=>?_⟩;have L:=((((((Xc (p:=p) O s0 U).t9 (i:=2) (m g)).t9 (i:=3) (m g)).step j).t9 (i:=4) rx).t9 (i:=2) rx).forget (i:=4) (v:=cI);refine⟨g,H,G0,_,.ret<|.val<|QL r,L,?_,λu n a z W=>?_⟩
  ·show(zP _ _ _)=_
   unfold zP;show Option.bind (aI (Fl.next [.no,.val l,.val<|.exc c.1 c.2,.val .hI,.no])) _=_;show((FK [.exc c.1 c.2]).map QL).map _=_;rw[e1];rfl
  ·refine qq u v n a ⟨z.s0,λb o e=>z.s1 b o<|Zs b o e,z.sub,λb q1 J=>?_⟩ (z.s1 _ _ F) (z.new p h0<|by rw[F];simp) W (rv.mono z.s0)
   have t:b≠p:=λy=>by rw[y,xV]at J;exact J rfl
   rw[xf t]at J;exact z.new b q1 J
 | none=>
  rw[eG]at I;refine .inr ⟨o,T,I,λu v' n a j R am W an=>?_⟩;have L:=(((Xc (p:=p) O j.sub<|U.mono j.s0).t9 (i:=2) (m a)).t9 (i:=3) (m a)).t9 (i:=3) W;refine⟨a,n,a,_,.ret<|.val o,L,rfl,λu2 H2 as z r2=>?_⟩;exact qq u2 v' H2 as (j.trans z) (z.s1 _ _ R) (z.new p am<|by rw[R];simp) r2<|an.mono z.s0
end
structure ZS(K:rR)(i:Nat)(C p dx:eH)(E0 E H0 H:Hp)(σ:St)(γ:Ctx)(d:D):Prop where
 rs:RS K E0 E H0 H σ γ
 nn:γ.any wB=dV
 sl:σ[i]? = aI (aI (.ref p))
 h0:H0 p=cI
 he:E p=cI
 hp : ∃v,H p=aI (.ins C dx<|qs v)/\Rep K H0 d v
theorem ZS.step{K:rR}{i:Nat}{C p J:eH}{E0 E H0 H I H':Hp}{L:St}{γ:Ctx}{d:D}(z:ZS K i C p J E0 E H0 H L γ d)(e:Ext H0 H I H'):ZS K i C p J E0 E I H' L γ d:=by obtain⟨v,a,b⟩:=z.hp;exact⟨z.rs.step e,z.nn,z.sl,e.new p z.h0 (by rw[a];simp),z.he,v,e.s1 _ _ a,b.mono e.s0⟩
noncomputable def DU(K:rR)(i:Nat)(C:eH)(t:ZT):L2.TT:=λg H Q=>∃p f E0 E h b d r,ZS K i C p f E0 E h H g b d/\t b d=aI r/\∀e a,ZS K i C p f E0 E a e g b r.2->Q r.1 e
section
variable{X:Cx}{sc:l9}{N L:List Str}{k j i:Nat}{C:eH}{TF:ZF}{e r o c c2:g9}{fe fr:CO D}{t u:ZT}{pos cpos fp:l0}{x:Str}
theorem kP(hT:Eu X.prog X.w X.K X.mg X.base j x C TF)(hj:j<=k)(h:SX X sc N L k)(O:j3 sc x=cT)(ho:PE X o (wL i))(he:PV X e fe)(hr:PV X r fr)
 (hs:lp [o,e] X.env=(dV,hH o X.env)::lp [e] X.env:=by rfl) (Z:lp [e] X.env=(dV,hH e X.env)::lp [] X.env:=by rfl) (a6:(pk cpos<|starEach [e] X.env).any (·.1)=dV:=by rfl) :
 PT X (.Compare (.Call (.Name x fp) [o,e] [] cpos) [.NotEq] [r] pos) (DU X.K i C<|CI TF fe fr):=by
 obtain⟨f,fd,ps,bl,F,hm,hk,hb⟩:=hT.ex;refine yv (qI (VU h.Ei) (wt (E:=E0) F (h.room.mono hj) (h.gl O).1 hm hk hb .nil Ja (zK ho (zK he jc Z) hs) (h.gl O).2.2 hs a6) hr<|qz r) λσ H Q hZ=>?_;obtain⟨p,dx,F0,F1,t,s,d,rr,z,B,G⟩:=hZ;obtain⟨l,e1,B⟩:=zb B;obtain⟨g,e2,B⟩:=zb B;obtain⟨S,e3,B⟩:=zb B;obtain⟨b,e4,B⟩:=zm B;obtain⟨db,e5,e6⟩:=zb e4;subst B;refine⟨.ref p,z.sl,t,s,l,z.rs.rc,e1,λlv H1 M n r1=>?_⟩;have a:=z.step n;obtain⟨v,U,g2⟩:=a.hp;refine⟨M,p,dx,v,d,l,lv,g.1,g.2,rfl,n.sub,a.h0,U,g2,r1,e2,λu v' H2 P x2 W R ru T=>?_⟩;have Y:=(a.rs.less a.nn U aG a.h0 a.he).step x2;refine⟨P,s,S,Y.rc,e3,λrv y bb J r3=>?_⟩;refine QY bb y u rv g.1 S db _ J.sub (ru.mono J.s0) r3 e5 λw A bg x4 m=>?_;rw[kc e6]at m;have I:=J.trans x4;exact⟨b,m,G A bg ⟨Y.step I,z.nn,z.sl,I.new p R (by rw[W];simp),z.he,v',I.s1 _ _ W,T.mono I.s0⟩⟩
theorem Z2(I:PT X c (DU X.K i C t)):PW X (.BoolOp .Or [c] pos) (DU X.K i C t):=VE I
theorem Xr(Z:PT X c (DU X.K i C t))(h2:PW X (.BoolOp .Or [c2] pos) (DU X.K i C u)):PT X (.BoolOp .Or [c,c2] pos) (DU X.K i C<|Ek t u):=by
 refine(WO (cY Z h2) λk H Q W=>?_).pt;obtain⟨p,a,J,O,g,f,d,Y,z,B,S⟩:=W;obtain⟨I,j,B⟩:=zb B;refine⟨p,a,J,O,g,f,d,I,z,j,λh U e=>?_⟩;by_cases b:I.1=cT
 ·rw[GK b]at B ⊢
  cases B;exact S h U e
 ·rw[GX b]at B ⊢
  exact⟨p,a,J,O,U,f,I.2,Y,e,B,S⟩
inductive Es(X:Cx)(i:Nat)(C:eH):List l7->List ZT->Prop
 | nil:Es X i C [] []
 | cons {c:g9} {t:ZT} {b:List l7} {rest:List l7} {ts:List ZT} {pos:l0} (hc:PT X c (DU X.K i C t)) (hb:ri X b (fU<|tC<|.bl dV)) (hr:Es X i C rest ts):Es X i C (.If c b [] pos::rest) (t::ts)
theorem Xg : ∀{Ee:List l7} {ts:List ZT},Es X i C Ee ts->ri X Ee (λD Z H=>∃p dx J O H0 γ d S,ZS X.K i C p dx J O H0 H Z γ d/\bw ts γ d=aI S/\Sat X.K J O D S)
 | _,_,.nil=>by intro a s Z H D I W;obtain⟨p,dx,J,O,H0,γ,d,S,z,B,U⟩:=W;cases B;exact kx a s Z H D I<|U Z H H0 z.rs
 | _,_,.cons hc b hr=>by
  have h:=Xg hr;intro a s Z H D I W;refine(jF (Xw hc b kx) h) a s Z H D I ?_;obtain⟨p,dx,J,O,H0,γ,d,S,z,B,U⟩:=W;obtain⟨r,g,B⟩:=zb B;refine⟨p,dx,J,O,H0,γ,d,r,z,g,λf Y e=>?_⟩;by_cases b:r.1=cT
  ·rw[GK b]at B
   cases B;rw[GK b];exact U (.bl dV) f Y e.rs.ext rfl
  ·rw[GX b]at B
   rw[GX b];exact⟨p,dx,J,O,Y,γ,r.2,S,e,B,U⟩
theorem Xu(i:Nat){st:l7}{Z:List l7}{ts:List ZT}(h1:PS X st (vy (Wv C (cC C) [] E0 KZ)<|j4 i))(h2:Es X i C Z ts):QJ X (st::Z) (Yr i ts):=by
 intro d s o H D I J;refine(jF h1<|Xg h2) d s o H D I ?_;obtain⟨O,S,b,n,U,e,z,W⟩:=J;unfold Yr at z;split at z
 ·next j=>
  obtain⟨k,Y⟩:=j;intro p a B g h;refine⟨p,a,rfl,zr,rfl,?_⟩;rw[vZ];have f:Ext b H b (upd H a<|.own p):=Ext.hide e.rc.sub g _;have m:Ext b (upd H a<|.own p) b (upd (upd H a<|.own p) p<|.ins C a<|qs .hI):=Ext.hide f.sub (by rw[zw (tE h)];exact B) _;have l:=(e.forget (i:=i) (v:=aI (.ref p))).step (f.trans m);exact⟨p,a,O,S,b,n.set i .no,.hI,U,⟨l,k,by rw[sM (by rw[e.rc.len];exact Y)],zO e.rc.sub B,zO e.ext.s1 B,.hI,zr,rfl⟩,z,W⟩
 ·cases z
end
abbrev GE:=Str×ro×Int×ro
structure En(w:l6)(K:rR)(mg:GV)(x:Str)(kv:List (Str×Int)):Prop where
 ex : ∃a o es ep,∃zs:List GE,mg x=aI (.ref a)/\(a==CH)=dV/\K.lookup a=aI o/\o.ExactDict/\o.data = .dict es ep/\es.toList=zs.map (λz=>⟨hashStr w z.1,.str z.1 z.2.1,.int z.2.2.1 z.2.2.2⟩)/\zs.map (λz=>(z.1,z.2.2.1))=kv
theorem Wg{P:m3}{w:l6}(k:Str) : ∀I:List GE,(((I.map λz=>(⟨hashStr w z.1,.str z.1 z.2.1,.int z.2.2.1 z.2.2.2⟩:DictEntry)).find? λe=>(strKind P w).is k e.key).map (·.val))=(I.find? λz=>z.1==k).map λz=>Aa z.2.2.1 z.2.2.2
 | []=>rfl
 | z::I=>by
  have B:=Wg (P:=P) (w:=w) k I;rw[sL];by_cases h:z.1=k
  ·have:(strKind P w).is k (.str z.1 z.2.1)=cT:=by rw[h];exact Cm P w k _
   rw[Au (by exact this),Au (by simpa using h)];rfl
  ·have : ¬(strKind P w).is k (.str z.1 z.2.1)=cT:=λq=>h ((strKind P w).inj _ _ _ (Cm P w z.1 z.2.1) q)
   rw[Av (by exact this),Av (by simpa using h)];exact B
theorem eZ{P:m3}{w:l6}{h:il}{a:eH}{o:n7}{I:Array DictEntry}{L:Nat}{J:List GE}(B:h.get? a=aI o)(hx:o.ExactDict)(S:o.data = .dict I L)(O:I.toList=J.map (λz=>⟨hashStr w z.1,.str z.1 z.2.1,.int z.2.2.1 z.2.2.2⟩)) :
 h.MapOf (strKind P w) a (λk=>(J.find? λz=>z.1==k).map λz=>Aa z.2.2.1 z.2.2.2):=by
 refine⟨o,I,L,B,hx,S,λe b=>?_,λk=>?_⟩
 ·have b:e∈I.toList:=by simpa using b
  rw[O]at b;obtain⟨z,_,rfl⟩:=BX.mp b;exact⟨z.1,Cm P w z.1 _,rfl⟩
 ·unfold findBy
  have:=Wg (P:=P) (w:=w) k J;rw[<- O,Array.find?_toList]at this;exact this
theorem Wf(k:Str) : ∀I:List GE,((I.find? λz=>z.1==k).map λz=>Aa z.2.2.1 z.2.2.2).isSome=decide (k∈(I.map λz=>(z.1,z.2.2.1)).map (·.1))
 | []=>by simp
 | z::I=>by
  have B:=Wf k I;by_cases h:z.1=k
  ·rw[Au (by simpa using h)]
   simp[h]
  ·rw[Av (by simpa using h),B]
   have a : ¬k=z.1:=λq=>h q.symm;simp[a]
theorem nJ{k:Str}{i:Int} : ∀{I:List GE},(I.map λz=>(z.1,z.2.2.1)).lookup k=aI i->∃t,((I.find? λz=>z.1==k).map λz=>Aa z.2.2.1 z.2.2.2)=aI (.int i t)
 | [],e=>by cases e
 | z::I,e=>by
  by_cases h:z.1=k
  ·rw[Au (by simpa using h)]
   have:(k==z.1)=cT:=by simp[h]
   simp[uK,this]at e;exact⟨z.2.2.2,by rw[<- e];rfl⟩
  ·rw[Av (by simpa using h)]
   have:(k==z.1)=dV:=beq_eq_false_iff_ne.mpr λq=>h q.symm;simp only[sL,uK,this]at e;exact nJ e
section
variable{X:Cx}{sc:l9}{N L:List Str}{k:Nat}{a:g9}{f:CO D}{pos p:l0}{x:Str}{kv:List (Str×Int)}
theorem XM{b:eH}(h:SX X sc N L k)(c:j3 sc x=cT)(J:X.mg x=aI (.ref b)):PE X (.Name x p) (tC<|.ref b):=λa s e H Q I d=>qt I (h.gl c).1 J ⟨.ref b,H,I,rfl,d⟩ (h.gl c).2.2
theorem Qa(G:En X.w X.K X.mg x kv)(h:SX X sc N L k)(Z:PV X a f)(c:j3 sc x=cT:=by decide +kernel)(hm:vr .NotIn (.Name x p)=dV:=by with_unfolding_all rfl):o4 X (.Compare a [.NotIn] [.Name x p] pos) (sB<|Q8 (kv.map (·.1)) f):=by
 obtain⟨b,o,es,ep,zs,J,O,S,U,W,Y,A⟩:=G.ex;have op:m6 X (p5 .NotIn) (λx y H Q=>∃k,x = .str k/\y = .ref b/\Q (.bl<|!decide (k∈kv.map (·.1))) H):=by intro g s σ H x y v u Q I M R E;obtain⟨F,rfl,rfl,q⟩:=E;obtain⟨t,rfl⟩:=M;cases (show u=sk b from R);refine wpAny_notIn_of (Cm X.prog X.w F t) O (eZ (P:=X.prog) (w:=X.w) (I.m4 _ _ S) U W Y) ⟨.bl _,H,I.tok _,rfl,?_⟩;rw[Wf,A];exact q
 refine yv (qI op Z (XM h c J) hm) λσ H Q C=>?_;obtain⟨j,T,t,rc,B,q⟩:=C;obtain⟨db,l,n⟩:=zb B;obtain⟨d,m,B⟩:=zb l;cases d with
 | str z=>
  cases B;cases n;exact⟨j,T,_,rc,m,λv i e x r=>⟨z,r,rfl,_,rfl,q i e x⟩⟩
 | _=>cases B
theorem de(G:En X.w X.K X.mg x kv)(h:SX X sc N L k)(ha:PV X a f)(c:j3 sc x=cT:=by decide +kernel)(hs:hV a:=by intro _ _;rfl):PV X (.Subscript (.Name x p) a pos) (ng kv f):=by
 obtain⟨b,o,es,ep,zs,Y,g2,g3,R,T,Z,g7⟩:=G.ex;intro e s u H Q I hZ;obtain⟨m,γ,d,rc,B,q⟩:=hZ;obtain⟨C,E,B⟩:=zb B;cases C with
 | str z=>
  obtain⟨i,n,rfl⟩:=zm B;rw[<- g7]at n;obtain⟨t,M⟩:=nJ n;refine QX PySem.F.slot_dict_getitem.lookup hs<|kr (XM h c Y e s u H (λy g=>y = .ref b/\g=H) I ⟨rfl,rfl⟩) λu1 s1 J=>?_;obtain⟨y,g,A,O,rfl,rfl⟩:=J;cases (show u1=sk b from O);refine kr (ha e s1 u g (λy j=>∃S,Ext m g S j/\y = .str z) A ⟨m,γ,_,rc,E,λv H' l x r=>⟨l,x,r⟩⟩) λu2 s2 J=>?_;obtain⟨y,j,U,O,S,x2,rfl⟩:=J;obtain⟨t2,rfl⟩:=O;have W:=eZ (P:=X.prog) (w:=X.w) (U.m4 _ _ g3) R T Z;exact⟨W.typeIs,wpAny_getItem_of (Cm X.prog X.w z t2) W M ⟨.int i,j,U.tok _,⟨t,rfl⟩,q _ j S x2 rfl⟩⟩
 | _=>cases B
end
theorem ku{X:Cx}{L:List l7}:QJ X L j9:=λa s f H D I h=>by obtain⟨E0,E,b,e,B,d,z,J⟩:=h;cases z
section
variable{X:Cx}{sc:l9}{N L:List Str}{k j n:Nat}{e:g9}{es:List g9}{F:List D->Option Res}{x:Str}{p pos:l0}{t:TA}{C:eH}
theorem XN(S:fA X.prog X.w X.K X.mg X.base j x n F)(h:SX X sc N L k)(J:PA X (e::es) t)(z:j<=k:=by decide)(c:j3 sc x=cT:=by decide +kernel)
 (O:lp (e::es) X.env=(dV,hH e X.env)::lp es X.env:=by rfl) (B:(pk pos<|starEach es X.env).any (·.1)=dV:=by rfl):PE X (.Call (.Name x p) (e::es) [] pos) (wV (u0 X.K n F) [] E0 t):=by
 obtain⟨f,g,i,d,G,b,I,a⟩:=S.ex;subst d;exact wt G (h.room.mono z) (h.gl c).1 b I a .nil Ja J (h.gl c).2.2 O B
end
section
variable{X:Cx}{sc:l9}{N L:List Str}{k j:Nat}{F:List D->Option Res}{x:Str}{p pos:l0}
theorem VG(S:fA X.prog X.w X.K X.mg X.base j x 0 F)(B:j<=k)(h:SX X sc N L k)(c:j3 sc x=cT):PV X (.Call (.Name x p) [] [] pos) (zG F zI):=by obtain⟨o,s,t,m,G,l,I,i⟩:=S.ex;refine z6 (YK (E:=E0) G (h.room.mono B) (h.gl c).1 l I i .nil Ja (h.gl c).2.2) λy H Q J=>?_;obtain⟨e,u,d,rc,z,q⟩:=J;obtain⟨n,f,z⟩:=zb z;cases f;obtain⟨r,g,rfl⟩:=zm z;exact⟨e,[],r,rc.sub,g5.nil,m.symm,g,Jw rc.sub λv b a x O=>q v b a x O⟩
end
section
variable{X:Cx}{a:g9}{pos:l0}
theorem WU{c:g9}{Z:CO D}(ha:PV X a Z){I:CO (Sk×List D)}(hb:PQ X c I)(hm:vr .In c=dV:=by with_unfolding_all rfl):o4 X (.Compare a [.In] [c] pos) (sB<|bC Z I):=
 yv (qI yB ha hb hm) λF H Q J=>by
  obtain⟨i,h,d,rc,z,q⟩:=J;obtain⟨A,O,S⟩:=zb z;obtain⟨x,m,z⟩:=zb O;obtain⟨⟨f,k⟩,n,z⟩:=zb z;cases x with
  | str w=>
   obtain⟨l,U,rfl⟩:=zm z;cases S;refine⟨i,h,_,rc,m,λW u Y g B=>⟨Y,h,f,k,rc.ext g,n,λp E b j t e C r=>?_⟩⟩;have o:=qD r U;subst o;have s:l8 X.K b p (l.map V.str)\/mu X.K b p (l.map V.str):=by
    cases f with
    | L=>exact .inl e
    | T=>exact .inr e
   have B:W = .str w:=B;subst B;refine⟨p,_,rfl,s,rfl,xK l,?_⟩;have:CN (.str w) (l.map V.str)=l.any λy=>y==w:=by unfold CN;rw[List.any_map];rfl
   rw[this];exact⟨_,rfl,q b j<|g.trans t⟩
  | _=>cases z
end
section
variable{X:Cx}{sc:l9}{N L:List Str}{k:Nat}{p pos:l0}{C:eH}
structure Fi(P:m3)(w:l6)(K:rR)(mg:GV)(base:il)(C:eH):Prop where
 ex : ∃(f:eH) (fd:o9),Mk K C f/\oT P w K mg base rb 1 f fd ["self"] (cC C)/\mg "Desk" = aI (.ref C)/\Binds K fd ["self"] []
theorem aa(z:Fi X.prog X.w X.K X.mg X.base C)(B:2<=k)(h:SX X sc N L k)(c:j3 sc "Desk" = cT):PE X (.Call (.Name "Desk" p) [] [] pos) (Wv C (cC C) [] E0 KZ):=by obtain⟨f,d,M,F,b,a⟩:=z.ex;exact YH M F (h.room.mono B) (h.gl c).1 b a .nil Ja (h.gl c).2.2
end
structure FO(K:rR)(mg:GV)(sI sT:l7):Prop where
 ex : ∃(C fI fT:eH) (dI dT:o9),mg "Desk" = aI (.ref C)/\Mk K C fI/\Dj K C/\ES K C "tell" fT/\L2.u5 K "__init__" "Desk.__init__" sI fI dI/\L2.u5 K "tell" "Desk.tell" sT fT dT/\Binds K dI ["self"] []/\Binds K dT ["self","line"] []
noncomputable def fz(K:rR)(C:eH):Bool:=PySem.W.makesIn K C && tR K (.ref C) && uZ K C Str.empty && Ao K C && AL K C &&
 sH K (.ref C) "__setattr__" == aI (aI (.builtin "object.__setattr__")) && sH K (.ref C) "row" == aI cI
section
variable{K:rR}{mg:GV}{h:il}
theorem lM{sI sT:l7}{C fI fT:eH}{O S:eI}{U W Y aT:Option eH}{lI lT:Array (Option eI)}{kI dI pI z tI kT dT pT B tT:eI}(KX:K.In h)(G:h.Ns o7 mg)
 (nC:uw K o7 "Desk" = aI (aI (.ref C))) (iC:sH K (.ref C) "__init__" = aI (aI (.ref fI))) (mC:sH K (.ref C) "tell" = aI (aI (.ref fT)))
 (uI:K.lookup fI=aI ⟨O,U,.func (uk "__init__" "Desk.__init__" (qf sI) (jj sI) (zE sI) .none kI dI pI Y z tI),lI⟩)
 (uT:K.lookup fT=aI ⟨S,W,.func (uk "tell" "Desk.tell" (qf sT) (jj sT) (zE sT) .none kT dT pT aT B tT),lT⟩)
 (vI:Aq K z "Desk.__init__" = cT) (vT:Aq K B "Desk.tell" = cT) (w1:tR K (.ref fI)=cT) (w2:tR K (.ref fT)=cT)
 (z1:Bi K (.ref fI)=cT) (z2:Bi K (.ref fT)=cT) (b:fz K C=cT)
 (gI : ∀(kV Z pm:eI) (an:Option eH) (L ct:eI) (us:List eI),us.length=1->Ex (uk "__init__" "Desk.__init__" (qf sI) (jj sI) (zE sI) .none kV Z pm an L ct) ⟨us,[]⟩=pure ((["self"]:List Str).zip us))
 (gT : ∀(kV Z pm:eI) (an:Option eH) (L ct:eI) (us:List eI),us.length=2->Ex (uk "tell" "Desk.tell" (qf sT) (jj sT) (zE sT) .none kV Z pm an L ct) ⟨us,[]⟩=pure ((["self","line"]:List Str).zip us)):FO K mg sI sT:=by
 unfold fz at b;simp only[rY,beq_iff_eq]at b;obtain⟨⟨⟨⟨⟨⟨a,d⟩,e⟩,f⟩,g⟩,i⟩,j⟩:=b;have I:=Km uI vI w1;have J:=Km uT vT w2;exact⟨C,fI,fT,_,_,uP KX G nC,⟨a,iC,z1,d⟩,⟨⟨e,f,g,i⟩,j⟩,⟨mC,z2,w2⟩,I,J,I.binds gI,J.binds gT⟩
theorem gD{w:l6}{x:Str}{O:List (Str×Int)}{a:eH}{o:n7}{I:Array DictEntry}{L:Nat}(J:List GE)(B:K.In h)(G:h.Ns o7 mg)(n:uw K o7 x=aI (aI (.ref a)))(l:K.lookup a=aI o)(s:(a==CH)=dV)(e:o.ExactDict)(d:o.data = .dict I L)
 (z:I.toList=J.map (λz=>⟨hashStr w z.1,.str z.1 z.2.1,.int z.2.2.1 z.2.2.2⟩)) (k:J.map (λz=>(z.1,z.2.2.1))=O):En w K mg x O:=⟨a,o,I,L,J,uP B G n,s,l,e,d,z,k⟩
end
noncomputable def jg:=jl 5<|zP (n5 (WK (sB<|zR DI (vc<|zl 0)<|zp<|.int 1)<|sB<|zR o5 (zR vS (g6 (zl 0)<|zp<|.int 0)<|zp<|.int 2)<|zp<|.int 1) (zP (jk 2<|g6 (zl 0)<|zR yb (zp<|.int 1)<|zR vS (zo 1)<|zR Wl (vc<|zl 0)<|zp<|.int 1)<|zP (Xa (jK<|cL (zp<|.int 60)<|zR K6 (zo 1)<|zR Wl (vc<|zl 0)<|zp<|.int 1) (.nm 3)<|jk 2<|zR K6 (zo 2)<|zR aU (zp<|.int 10)<|zp<|.int 9)<|jA<|zR vS (zo 2)<|zR aU (zp<|.int 10)<|zp<|.int 9) jq)<|zP (jk 4<|zo 1)<|zP (n5 (sB<|zR DI (vc<|zl 0)<|zp<|.int 0) (jk 4<|g6 (zl 0)<|zR vS (zo 1)<|vc<|zl 0) jq)<|jA<|zR vS (zR JU (zR vS (zR yb (zR yb (zR yb (zR JU (zR vS (zo 4)<|zR aU (zp<|.int 10)<|zp<|.int 30)<|zp<|.int 48271)<|zR JU (zR JU (zp<|.int 7)<|zo 1)<|zo 1)<|zR JU (zp<|.int 13)<|zo 1)<|zp<|.int 5)<|zp<|.int 2147483647)<|zp<|.int 69621)<|zp<|.int 1000000007
noncomputable def jQ:=jl 1<|jA<|vb<|ze (g6 (zl 0)<|zp<|.int 0)<|ze (zR Wl (zR yb (g6 (zl 0)<|zp<|.int 0)<|vc<|zM<|g6 (zl 0)<|zp<|.int 1)<|zp<|.int 1) zI
noncomputable def jz:=jl 2<|jA<|vC C3 Ez (g6 (zl 0)<|zp<|.int 0) (zo 1)<|zR yb (g6 (zl 0)<|zp<|.int 0)<|vc<|zM<|g6 (zl 0)<|zp<|.int 1
noncomputable def jN:=jl 2<|qF<|zL (zQ<|zl 0) (.nm 0) 1 [1] (sB<|zG jz<|ze (zo 0)<|ze (zo 1) zI) (g6 (zM<|g6 (zl 0)<|zp<|.int 1)<|zR Wl (zo 1)<|g6 (zl 0)<|zp<|.int 0)
noncomputable def j8:=jl 2<|jA<|zG je<|ze (vb<|ze (vc<|zl 1)<|ze (zo 0)<|ze (jm<|zl 1) zI) zI
noncomputable def qR:=jl 5<|zP (jk 4<|jr<|zL (Yn (zo 2)<|zo 1) (.tp [0,1]) 2 [3] (sB<|zG jz<|ze (zo 1)<|ze (zo 2) zI) (zo 0))<|jA<|zG KY<|ze (g6 (zl 0)<|zp<|.int 0)<|ze (zG j8<|ze (g6 (zM<|g6 (zl 0)<|zp<|.int 1)<|zo 3)<|ze (jr<|jo jN<|ze (zo 1)<|ze (zo 3) zI) zI)<|ze (zo 4) zI
noncomputable def Jp:=jl 5<|zP (jk 3<|g6 (zl 1)<|zG jH<|ze (zo 2) zI)<|zP (jk 4<|jr<|zL (jK<|vc<|zM<|g6 (zl 3)<|zp<|.int 1) (.nm 0) 1 [0,1,2,3] jR (zG qR<|ze (zo 1)<|ze (zo 2)<|ze (zo 3)<|ze (zR yb (g6 (zl 4)<|zp<|.int 0)<|zo 0) zI))<|jA<|vb<|ze (g6 (zl 3)<|zp<|.int 0)<|ze (jm<|zl 4) zI
noncomputable def yW:=jl 8 (zP (jk 3 (g6 (zM (g6 (zM (g6 (zl 0) (zp (.int 2)))) (zo 1))) (zp (.int 0)))) (zP (jk 4 (g6 (zM (g6 (zM (g6 (zl 0) (zp (.int 2)))) (zo 1))) (zp (.int 1)))) (zP (jk 5 (QK (sB (zR o5 (zo 3) (zp (.str "r")))) (jr (jo ke (ze (g6 (zl 0) (zp (.int 0))) (ze (zo 4) zI)))) (jr (jo y0 (ze (g6 (zl 0) (zp (.int 0))) (ze (zo 4) zI)))))) (zP (jk 6 (jr (jo ql (ze (g6 (zl 0) (zp (.int 0))) (ze (zG j8 (ze (g6 (zM (g6 (zl 0) (zp (.int 1)))) (zo 1)) (ze (jr (jo jN (ze (zo 2) (ze (zo 1) zI)))) zI))) (ze (zo 5) zI)))))) (zP (jk 7 (VA (zL (zQ (zl 6)) (.nm 0) 1 [] jR (vb (ze (zG jH (ze (zo 0) zI)) (ze (zo 0) zI)))))) (qF (zL (Jz (zo 2)) (.tp [0,1]) 2 [0,2,7] jR (QK (sB (nt (zo 0) (zo 4))) (zG Jp (ze (zo 2) (ze (zo 3) (ze (nq (zo 4) (zo 0)) zI)))) (zo 1)))))))))
noncomputable def xD:=jl 4 (zP (n5 (sB (zR o5 (g6 (zl 1) (zp (.int 0))) (zp (.str "l")))) (jA (zG wJ (ze (zo 0) (ze (g6 (zl 1) (zp (.int 1))) (ze (zo 2) zI))))) jq) (zP (jk 3 (zG KY (ze (zo 0) (ze (g6 (zl 1) (zp (.int 1))) (ze (zo 2) zI))))) (jA (QK (sB (iQ (zl 3))) (zo 3) (zp .hI)))))
noncomputable def kE:=jl 4<|zP (jk 3<|zG xD<|ze (zo 0)<|ze (zo 1)<|ze (g6 (zM<|g6 (zl 2)<|zp<|.int 1)<|bB<|zp<|.int 1) zI)<|jA<|QK (sB<|zR gK (zo 3)<|zp .hI) (zo 2)<|vb<|ze (g6 (zl 2)<|zp<|.int 0)<|ze (zR yb (g6 (zl 2)<|zp<|.int 1)<|vb<|ze (zo 3) zI) zI
noncomputable def xE:=jl 3 (zP (n5 (sB (zR o5 (g6 (zl 1) (zp (.int 0))) (zp (.str "l")))) (qF (jo ke (ze (zo 0) (ze (g6 (zl 1) (zp (.int 1))) zI)))) jq) (zP (jk 2 (jr (zL (zQ (jb (jo y0 (ze (zo 0) (ze (g6 (zl 1) (zp (.int 1))) zI))))) (.nm 0) 1 [] jR (zG jH (ze (zo 0) zI))))) (qF (zL (Yq (g6 (zM (zG z9 (ze (g6 (zM (g6 (zl 1) (zp (.int 1)))) (zp (.int 0))) zI))) (zp (.int 2)))) (.tp [0,1]) 2 [2] (sB (Q7 (zo 0) (zl 2))) (zo 1)))))
noncomputable def Jq:=jl 9 (zP (jk 3 (g6 (zl 0) (zp (.int 0)))) (zP (jk 4 (g6 (zM (g6 (zl 0) (zp (.int 2)))) (zo 1))) (zP (jk 5 (jr (zL (zQ (zl 2)) (.nm 0) 1 [1] (qj (sB (zG jz (ze (zo 0) (ze (zo 1) zI))))) (zo 0)))) (zP (jk 6 (jr (jo yW (ze (zo 0) (ze (zo 1) (ze (jr (zL (zQ (zl 2)) (.nm 0) 1 [1] (sB (zG jz (ze (zo 0) (ze (zo 1) zI)))) (zo 0))) zI)))))) (zP (jk 7 (jr (zL (zQ (zl 6)) (.nm 0) 1 [3,4] jR (zG kE (ze (zo 1) (ze (zo 2) (ze (zo 0) zI))))))) (zP (jk 8 (jr (zL (zQ (jb (jo xE (ze (zo 3) (ze (zo 4) zI))))) (.nm 0) 1 [1] jR (vb (ze (zR yb (zo 1) (zp (.int 1))) (ze (vb (ze (zo 0) zI)) zI)))))) (jA (jr (xq (zl 5) (zM (QK (sB (zR o5 (g6 (zl 4) (zp (.int 0))) (zp (.str "r")))) (jr (xq (zl 8) (zl 7))) (jr (xq (zl 7) (zl 8))))))))))))))
noncomputable def xI:=jl 3<|zP (jk 1<|jr<|zL (zQ<|zM<|g6 (zM<|zG z9<|ze (g6 (zM<|g6 (zl 0)<|zp<|.int 1)<|zp<|.int 0) zI)<|zp<|.int 2) (.nm 0) 1 [] jR (vb<|ze (zp<|.int 0)<|ze (vb<|ze (zo 0) zI) zI))<|zP (Xa (jK<|vc<|zM<|g6 (zl 0)<|zp<|.int 2) (.nm 2)<|jk 1<|zG Jq<|ze (zo 0)<|ze (zo 2)<|ze (zo 1) zI)<|qF<|Vy jQ<|zl 1
noncomputable def wK:=jl 4<|zP (jk 1<|jr<|jo xI<|ze (zo 0) zI)<|zP (jk 2<|jr<|zL (Yq<|g6 (zl 0)<|zp<|.int 1) (.tp [0,1]) 2 [1] jR (zG j8<|ze (zo 1)<|ze (jr<|jo jN<|ze (zo 2)<|ze (zo 0) zI) zI))<|zP (jk 3<|jr<|zL (zQ<|zl 2) (.nm 0) 1 [0] jR (zG y6<|ze (g6 (zl 1)<|zp<|.int 0)<|ze (zo 0) zI))<|jA<|vb<|ze (jr<|zL (zQ<|zl 1) (.nm 0) 1 [] jR (zG jQ<|ze (zo 0) zI))<|ze (zo 3)<|ze (zo 2) zI
noncomputable def qV:=jl 1<|zP (n5 (bA (qj<|sB<|WI<|zo 0)<|qj<|sB<|vC C3 C3 (zp<|.int 1) (vc<|zl 0)<|zp<|.int 6) (jA<|zp<|.bl dV) jq)<|zP (n5 (qj<|sB<|VB<|jb<|zL (zQ<|zl 0) (.nm 0) 1 [] jR (WL (zG jn<|ze (zo 0) zI)<|zR EY (zo 0)<|zp<|.int 0)) (jA<|zp<|.bl dV) jq)<|jA<|zR C3 (iJ<|zl 0)<|zp<|.int 30
noncomputable def xB:=jl 1<|zP (n5 (qj<|sB<|zG qV<|ze (zo 0) zI) j9 jq)<|jA<|jm<|zl 0
noncomputable def kK:=jl 6 (zP (n5 (bA (qj (sB (zG jx (ze (zo 3) (ze (zp (.int 2)) zI))))) (sB (wd (g6 (zl 3) (zp (.int 0))) (zM (zp (.tup [.str "r",.str "l"])))))) j9 jq) (zP (jk 4 (g6 (zl 3) (zp (.int 0)))) (zP (jk 5 (zG kF (ze (zo 0) (ze (g6 (zl 1) (zG kg (ze (zo 2) (ze (zo 4) zI)))) (ze (g6 (zl 1) (zG qi (ze (zo 2) (ze (zo 4) zI)))) (ze (g6 (zl 3) (zp (.int 1))) zI)))))) (jA (vb (ze (zo 4) (ze (zo 5) zI)))))))
noncomputable def qP:=jl 1 (jA (ZY (zp (.str "/")) (jb (zL (zQ (zM (g6 (zl 0) (zp (.int 2))))) (.nm 0) 1 [] jR (ZY (zp (.str "")) (jb (zL (zQ (zl 0)) (.nm 0) 1 [] jR (J5 (zo 0)))))))))
noncomputable def qT:=jl 2 (zP (jk 1 (zG qP (ze (g6 (zl 0) (zp (.int 1))) zI))) (jA (QK (sB (zR o5 (g6 (zl 0) (zp (.int 0))) (zp (.str "r")))) (ZZ [zp (.str "-"),WJ (zo 1),zp (.str ">")]) (ZZ [zp (.str "<"),WJ (zo 1),zp (.str "-")]))))
noncomputable def xh:=jl 5 (zP (jk 1 (g6 (zl 0) (zp (.int 0)))) (zP (wc 2 (jJ (ze (ZZ [WJ (zo 1),zp (.str ":")]) (ze (J5 (g6 (zM (g6 (zl 0) (zp (.int 1)))) (zp (.int 0)))) zI)))) (zP (Xa (Yn (g6 (zl 0) (zp (.int 2))) (bx (g6 (zl 0) (zp (.int 1))) (t7 (zp (.int 1))) Jx)) (.tp [3,4]) (zP (yk 2 (zG qT (ze (zo 3) zI))) (yk 2 (J5 (zo 4))))) (jA (ZY (zp (.str " ")) (zl 2))))))
noncomputable def j6:=jl 1 (jA (bC (zo 0) (jb (zL (zQ (zM (zp (.tup [.int 2,.int 3,.int 5,.int 7])))) (.nm 0) 1 [] jR (ZZ [WJ (zo 0),zp (.str ":")])))))
noncomputable def j5:=jl 1<|jA<|bC (zo 0)<|jb<|zL (jK<|zR yb (zp<|.int 30)<|zp<|.int 1) (.nm 0) 1 [] jR (J5<|zo 0)
noncomputable def j7:=jl 1 (zP (n5 (sB (wd (cR (bz (zo 0) Jx (t7 (zp (.int 1)))) (bz (zo 0) (t7 (bB (zp (.int 1)))) Jx)) (zM (vb (ze (zp (.str "->")) (ze (zp (.str "<-")) zI)))))) (jA (zp (.bl dV))) jq) (jA (VB (jb (zL (Q5 (bz (zo 0) (t7 (zp (.int 1))) (t7 (bB (zp (.int 1)))))) (.nm 0) 1 [] jR (cO (zo 0) (zp (.str "0123456789/"))))))))
noncomputable def kJ:=jl 2<|zP (n5 (sB<|zR o5 (zo 0)<|zp<|.int 0) (jA<|zG j6<|ze (zo 1) zI) jq)<|zP (n5 (sB<|zR o5 (zR vS (zo 0)<|zp<|.int 2)<|zp<|.int 1) (jA<|zG j5<|ze (zo 1) zI) jq)<|jA<|zG j7<|ze (zo 1) zI
noncomputable def qy:=jl 3<|zP (Xa (Jz<|zo 0) (.tp [1,2])<|n5 (qj<|sB<|zG kJ<|ze (zo 1)<|ze (zo 2) zI) j9 jq)<|n5 (sB<|zR o5 (zR vS (vc<|zl 0)<|zp<|.int 2)<|zp<|.int 1) j9 jq
def qS:=jl 1<|qF<|zL (Q5<|zo 0) (.nm 0) 1 [] jR (Yo<|zo 0)
noncomputable def xC:=jl 2 (zP (n5 (WK (sB (zR o5 (zo 0) (zp (.str "")))) (sB (zR o5 (zo 1) (zp (.int 0))))) (qF (jJ zI)) jq) (qF (zL (zQ (jb (w5 (zo 0) (zp (.str "/"))))) (.nm 0) 1 [] jR (jr (jo qS (ze (zo 0) zI))))))
noncomputable def xH:=jl 2<|jA<|VB<|jb<|zL (zQ<|zl 1) (.nm 0) 1 [0] jR (zR Ez (zo 0)<|zo 1)
noncomputable def qU:=jl 6 (zP (jk 4 (QK (sB (Q6 (zo 3) (zp (.str "-")))) (zp (.str "r")) (zp (.str "l")))) (zP (jk 5 (jr (jo xC (ze (bz (zo 3) (t7 (zp (.int 1))) (t7 (bB (zp (.int 1))))) (ze (g6 (zl 1) (zG kg (ze (zo 2) (ze (zo 4) zI)))) zI))))) (zP (n5 (qj (sB (VB (jb (zL (zQ (zl 5)) (.nm 0) 1 [0] jR (zG xH (ze (zo 1) (ze (zo 0) zI)))))))) j9 jq) (jA (zG kK (ze (zo 0) (ze (zo 1) (ze (zo 2) (ze (vb (ze (zo 4) (ze (zo 5) zI))) zI)))))))))
noncomputable def kG:=jl 5 (zP (jk 1 (jr (w5 (zo 0) (zp (.str " "))))) (zP (cP (zG qy (ze (zo 1) zI))) (zP (jk 2 (Yo (bz (g6 (zl 1) (zp (.int 0))) Jx (t7 (bB (zp (.int 1))))))) (zP (jk 3 (zG xB (ze (jr (zL (zQ (jb (iM (zl 1) (t7 (zp (.int 1))) Jx (t7 (zp (.int 2)))))) (.nm 0) 1 [] jR (Yo (zo 0)))) zI))) (zP (jk 4 (jr (zL (Jz (jr (iM (zl 1) (t7 (zp (.int 2))) Jx (t7 (zp (.int 2)))))) (.tp [0,1]) 2 [2,3] jR (zG qU (ze (zo 2) (ze (zo 3) (ze (zo 0) (ze (zo 1) zI)))))))) (jA (vb (ze (zo 2) (ze (zo 3) (ze (jm (zl 4)) zI))))))))))
noncomputable def E1:List (Str×Int):=[("cut",2),("mirror",0),("opposite",0),("about",1),("split",0),("bars",0),("kept",2),("widths",0)]
noncomputable def qx:=jl 1 (zP (jk 0 (jr (jJ (ze (zp (.str "")) (ze (zp (.str " ")) (ze (zp (.str "row")) (ze (zp (.str "rows 5: 1")) (ze (zp (.str "Row 5: 1")) (ze (zp (.str " row 5: 1")) (ze (zp (.str "beside")) (ze (zp (.str "ways")) (ze (zp (.str "upon")) (ze (zp (.str "alike")) (ze (zp (.str "cut")) (ze (zp (.str "cut 0")) zI))))))))))))))) (zP (jk 0 (jr (xq (zl 0) (jb (jJ (ze (zp (.str "cut 0 0 0")) (ze (zp (.str "cut 0 6")) (ze (zp (.str "cut 00 0")) (ze (zp (.str "cut -1 0")) (ze (zp (.str "cut 0  0")) (ze (zp (.str "cut 0 0 ")) (ze (zp (.str "cut a 0")) (ze (zp (.str "mirror 0")) zI))))))))))))) (zP (jk 0 (jr (xq (zl 0) (jb (jJ (ze (zp (.str "mirror ")) (ze (zp (.str " mirror")) (ze (zp (.str "opposite opposite")) (ze (zp (.str "about")) (ze (zp (.str "about 6")) (ze (zp (.str "about 0 0")) (ze (zp (.str "about +0")) (ze (zp (.str "split 0")) zI))))))))))))) (zP (jk 0 (jr (xq (zl 0) (jb (jJ (ze (zp (.str "split ")) (ze (zp (.str "bars 0")) (ze (zp (.str "bars ")) (ze (zp (.str "kept")) (ze (zp (.str "kept 0")) (ze (zp (.str "kept 0 0 0")) (ze (zp (.str "kept 0 9")) (ze (zp (.str "kept 0,0")) (ze (zp (.str "widths 0")) zI)))))))))))))) (qF (xq (zl 0) (jb (jJ (ze (zp (.str "width")) (ze (zp (.str "bar")) (ze (zp (.str "5: 1")) (ze (zp (.str "kept  0 0")) zI))))))))))))
noncomputable def qb:=jl 1 (zP (jk 0 (jr (jJ (ze (zp (.str "beside 5: 1")) (ze (zp (.str "beside ")) (ze (zp (.str "beside x")) (ze (zp (.str "ways 2: 0")) (ze (zp (.str "ways 4: 1")) (ze (zp (.str "upon 5: 1")) (ze (zp (.str "upon ")) (ze (zp (.str "alike 7: 1 -1> 1")) zI))))))))))) (zP (jk 0 (jr (xq (zl 0) (jb (jJ (ze (zp (.str "alike ")) (ze (zp (.str "cut 0 0")) (ze (zp (.str "cut 5 0")) (ze (zp (.str "mirror")) (ze (zp (.str "opposite")) (ze (zp (.str "about 0")) (ze (zp (.str "about 5")) (ze (zp (.str "split")) (ze (zp (.str "bars")) zI)))))))))))))) (qF (xq (zl 0) (jb (jJ (ze (zp (.str "kept 0 0")) (ze (zp (.str "kept 3 2")) (ze (zp (.str "widths")) (ze (zp (.str "beside  ")) (ze (zp (.str "ways 5: 31")) zI)))))))))))
noncomputable def jv:=jl 2 (zP (jk 1 (g6 (zl 0) (zp (.int 0)))) (zP (n5 (sB (bC (zo 1) (zM (zp (.tup [.str "row",.str "beside",.str "ways",.str "upon",.str "alike"]))))) (jA (zR DI (vc (zl 0)) (zp (.int 1)))) jq) (zP (n5 (bA (sB (Q8 (E1.map (·.1)) (zo 1))) (sB (zR t6 (vc (zl 0)) (zR yb (ng E1 (zo 1)) (zp (.int 1)))))) (jA (zp (.bl dV))) jq) (jA (VB (jb (zL (zQ (jb (iL (zl 0) (t7 (zp (.int 1))) Jx))) (.nm 0) 1 [] jR (bC (zo 0) (zM (zp (.tup [.str "0",.str "1",.str "2",.str "3",.str "4",.str "5"])))))))))))
noncomputable def qg:=jl 3 (zP (jk 1 (g6 (zl 0) (zp (.int 0)))) (zP (jk 2 (g6 (zl 0) (zp (.int 1)))) (jA (ZZ [WJ (zo 1),zp (.str "-"),WJ (zo 2)]))))
noncomputable def xG:=jl 2 (zP (jk 1 (g6 (zM (zG wK (ze (zo 0) zI))) (zp (.int 0)))) (jA (QK (WH (zl 1)) (ZY (zp (.str " ")) (jb (zL (zQ (zl 1)) (.nm 0) 1 [] jR (zG qg (ze (zo 0) zI))))) (zp (.str "none")))))
noncomputable def xi:=jl 3 (zP (jk 2 (g6 (zl 1) (zp (.int 0)))) (zP (n5 (sB (zR o5 (zo 2) (zp (.str "bars")))) (jA (zG xG (ze (zo 0) zI))) jq) (zP (n5 (sB (zR o5 (zo 2) (zp (.str "kept")))) j9 jq) (zP (n5 (sB (zR o5 (zo 2) (zp (.str "widths")))) (jA (ZY (zp (.str " ")) (jb (zL (zQ (zM (g6 (zl 0) (zp (.int 1))))) (.nm 0) 1 [] jR (J5 (zo 0)))))) jq) j9))))
noncomputable def qQ:=jl 1 (jA (zG kG (ze (ZY (zp (.str " ")) (jb (iL (zl 0) (t7 (zp (.int 1))) Jx))) zI)))
noncomputable def ki:=jl 4 (zP (jk 2 (g6 (zl 1) (zp (.int 0)))) (zP (n5 (sB (zR o5 (zo 2) (zp (.str "row")))) (jA (zG qQ (ze (zo 1) zI))) jq) j9))
noncomputable def KW:ZF:=cj (jr (w5 (zo 1) (zp (.str " ")))) (qj (sB (zG jv (ze (zo 2) zI)))) (sB (zR t6 (g6 (zl 2) (zp (.int 0))) (zp (.str "row")))) (sB (wd (g6 (zl 2) (zp (.int 0))) (zM (zp (.tup [.str "row",.str "beside",.str "cut",.str "mirror",.str "opposite",.str "about",.str "split"]))))) xi ki xh
noncomputable def KU:List D->Option Xn:=cg (jr (w5 (zo 1) (zp (.str " ")))) (qj (sB (zG jv (ze (zo 2) zI)))) (sB (zR t6 (g6 (zl 2) (zp (.int 0))) (zp (.str "row"))))
def zA:ZF:=Ws KW KU xF
def ip:=(jk 1<|zG qx zI)
def ik:=(jk 2<|zG qb zI)
noncomputable def fR:=(zP (jk 4 (zG jg (ze (zo 0) (ze (zo 3) zI)))) (Yr 5 [CI zA (g6 (zl 1) (zR vS (zo 4) (vc (zl 1)))) (jr (jJ (ze (zp (.str "NoLine")) zI))),CI zA (g6 (zl 2) (zR vS (zR K6 (zo 4) (zp (.int 64))) (vc (zl 2)))) (jr (jJ (ze (zp (.str "Nothing")) zI))),Ek (CI zA (zp (.str "widths")) (jr (jJ (ze (zp (.str "Nothing")) zI)))) (CI zA (zp (.str "row 5: 2 -13> 1")) (zp (.str "5: 2 -13> 1"))),Ek (CI zA (g6 (zl 1) (zR vS (zR K6 (zo 4) (zp (.int 4096))) (vc (zl 1)))) (jr (jJ (ze (zp (.str "NoLine")) zI)))) (CI zA (zp (.str "widths")) (zp (.str "2 1"))),Ek (CI zA (g6 (zl 1) (zR vS (zo 4) (vc (zl 1)))) (jr (jJ (ze (zp (.str "NoLine")) zI)))) (CI zA (zp (.str "bars")) (zp (.str "0-0 0-1")))]))
def mT:=(Xa (jK<|zp<|.int 6) (.nm 3) fR)
def mR:=(jA<|zp<|.bl cT)
def yX:=jl 6<|zP ip<|zP ik<|zP mT mR
def Kv(I:List Int):D:= .lst (I.map D.int)
theorem Qn(k:Int)(z:0<k) : ∃n:Nat,m%k=n/\(n:Int)<k:=by have a:=Int.emod_nonneg m (show k≠0 by omega);have d:=BQ m z;obtain⟨n,b⟩:=Ap a;exact⟨n,b,by omega⟩
abbrev Vc:=Nat->Int
def FQ(r:Nat)(B:Nat->Vc):Vc->Prop:=λv=>∃k,k<r/\v=B k
noncomputable def Un(r:Nat)(B:Nat->Vc)(m:Nat)(W:Nat->Vc):Vc->Prop:=λv=>FQ r B v\/FQ m W v
@[simp] def fE:=@iK.eq_1
@[simp] def ml:=@cL.eq_1
def mP(m I:Nat)(w J:Nat->Bool):Prop:=m=I/\∀k,k<m->w k=J k
instance (m m':Nat) (w w':Nat->Bool):Decidable (mP m m' w w'):=inferInstanceAs (Decidable (m=m'/\∀k,k<m->w k=w' k))
theorem KB(xs:List D)(n:Nat)(L:xs.length=n)(Z : ∀i (h:i<n),∃z,xs[i]'(L ▸ h) = .int z)(b8:n<=63)(k:Int)(hk:0<=k)(b9:k<100000) :
 ∃m,jg [.lst xs,.int k]=aI (.val<|.int m)/\0<=m/\m<1000000007:=by
 have I : ∀x:Int,QG x 48271=cT:=λx=>KM _ _ ⋯ ⋯;have d : ∀x:Int,QG 7 x=cT:=λx=>Wm _ _ ⋯ ⋯;have J : ∀x:Int,QG 13 x=cT:=λx=>Wm _ _ ⋯ ⋯;have O : ∀x:Int,QG x 69621=cT:=λx=>KM _ _ ⋯ ⋯;have S:QG (7*k) k=cT:=KM _ _ ⋯ ⋯;have B:fB 10 9=cT:=by decide
 have U:fB 10 30=cT:=by decide
 have hl:lim=2500:=rfl;by_cases y:n=0
 ·subst y
  have W:xs=[]:=sO L;subst W;simp[jg,jl,k4,ZP,I,d,J,O,S,B,U];omega
 ·have e:0<n:=by omega
  obtain⟨i,K⟩:=Ap (Int.emod_nonneg k<|show(n:Int)≠0 by omega);have g:i<n:=by have:=BQ k (show(0:Int)<n by omega);omega
  obtain⟨zi,p⟩:=Z i g;have ii:A4 n (i:Int)=aI i:=by rw[xv,GK g]
  by_cases G:n=1
  ·subst G
   have Y:i=0:=by omega
   subst Y;have k1:k%1=0:=by omega
   simp[jg,jl,k4,ZP,I,d,J,O,S,B,U,L,p];omega
  ·obtain⟨X,W⟩:=Z 0 e
   have Y:A4 n 0=aI 0:=by have:=xv n 0;rw[GK e]at this;exact this
   have u:(0:Int)<(n:Int) - 1:=by omega
   have w:(1:Int)<(n:Int):=by omega
   have o:1<n:=by omega
   have R:(n:Int) - 1<1073741824:=by omega
   have T:(0:Int)<(n:Int):=by omega
   obtain⟨j,M⟩:=Ap (Int.emod_nonneg k<|show(n:Int) - 1≠0 by omega);have l:1+j<n:=by have:=BQ k u;omega
   obtain⟨zj,F⟩:=Z (1+j) l;have Q:A4 n (1+(j:Int))=aI (1+j):=by have:=xv n<|1+j;rw[GK l]at this;rw[<- this];congr 1
   have H:0<=k/((n:Int) - 1)/\k/((n:Int) - 1)<=k:=⟨Int.ediv_nonneg hk ⋯,Int.ediv_le_self _ hk⟩;obtain⟨t,N⟩:=Ap H.1;by_cases r:X%2=1
   ·obtain⟨a,A,be⟩ : ∃a:Nat,(if (t:Int)<60 then (t:Int)else 60)=a/\a<=60:=by
     split
     ·exact⟨t,rfl,by omega⟩
     ·exact⟨60,rfl,by omega⟩
    have C:inR (a:Int)=cT:=Kh ⋯ ⋯;simp[jg,jl,k4,ZP,I,d,J,O,S,L,e,l,w,o,W,Y,u,R,r,M,Q,F,N,B,U];rw[A,GK C];simp only[Ac,JC,Bd];rw[JS a λi=>(i:Int)];have E : ∀(m s:Nat) (v:Int) (c:Cell),∃f b,kZ (.nm 3) (jk 2<|zR K6 (zo 2)<|zR aU (zp<|D.int 10)<|zp<|D.int 9) ((List.range' s m).map λ(i:Nat)=>D.int i) [.val (.lst xs),.val<|.int k,.val<|.int v,c,.no] =
     aI (.next [.val (.lst xs),.val<|.int k,.val<|.int f,b,.no]):=by
     intro m
     induction m with
     | zero=>intro s v c;exact⟨v,c,rfl⟩
     | succ m P=>
      intro s v c;rw[List.range'_succ,sL,vR];obtain⟨f,b,h⟩:=P (s+1) (v/10 ^ 9)<|.val<|.int s;refine⟨f,b,?_⟩;rw[<- h];simp[B]
    obtain⟨f,b,h⟩:=E a 0 zj .no;rw[<- List.range_eq_range']at h;rw[h];simp[B];omega
   ·simp[jg,jl,k4,ZP,I,d,J,O,S,L,w,o,T,e,W,Y,r,K,p,g,ii,B,U]
    omega
theorem aW(I:List Int)(J:I.length<=63)(k:Int)(z:0<=k)(B:k<100000) : ∃m,jg [Kv I,.int k]=aI (.val<|.int m)/\0<=m/\m<1000000007:=
 KB (I.map D.int) I.length ⋯ (λi a=>⟨I[i],by simp⟩) J k z B
theorem k6(h:F γ=aI (.next γ'))(g:G γ'=r):zP F G γ=r:=by rw[ZP,h];exact g
theorem WM(h:F (k4 n ds)=aI (.ret r)):jl n F ds=aI r:=by show(F<|k4 n ds).bind _=_;rw[h];rfl
theorem ZD{T:Tg}{F:CO Fl}(P:Nat->Ctx->Prop)(n:Nat){γ:Ctx}(L:P 0 γ)(step : ∀s,s<n->∀γ,P s γ->∃B z,xA T (.int (s:Int)) γ=aI B/\F B=aI (.next z)/\P (s+1) z) :
 ∃γ',kZ T F ((tJ n).map λ(i:Nat)=>D.int (i:Int)) γ=aI (.next γ')/\P n γ':=by
 have I : ∀(k s:Nat) (γ:Ctx),s+k=n->P s γ->∃γ',kZ T F ((List.range' s k).map λ(i:Nat)=>D.int (i:Int)) γ=aI (.next γ')/\P n γ':=by
  intro k
  induction k with
  | zero=>
   intro s γ e a;obtain rfl:s=n:=by omega
   exact⟨γ,rfl,a⟩
  | succ k J=>
   intro s γ e a;obtain⟨B,z,b,d,O⟩:=step s ⋯ γ a;obtain⟨γ',S,U⟩:=J (s+1) z ⋯ O;refine⟨γ',?_,U⟩;rw[List.range'_succ,sL,vR,b];simp only[Ac,d];exact S
 have:=I n 0 γ ⋯ L;rw[<- List.range_eq_range']at this;exact this
theorem Qr(P:Nat->Ctx->Prop)(n:Nat)(O:n<=lim)(L:f γ=aI (.int (n:Int)))(J:P 0 γ)(step : ∀s,s<n->∀γ,P s γ->∃z B,xA T (.int (s:Int)) γ=aI z/\F z=aI (.next B)/\P (s+1) B) :
 ∃γ',Xa (jK f) T F γ=aI (.next γ')/\P n γ':=by
 obtain⟨γ',e,a⟩:=ZD P n J step;refine⟨γ',?_,a⟩;have I:=JM;have r:inR (n:Int)=cT:=Kh ⋯ ⋯;rw[fK,KP,L];simp only[Ac,bp,r,if_true,Bd,JC];rw[JS n λi=>(i:Int)];exact e
noncomputable def xg:List Str:=([""," ","row","rows 5: 1","Row 5: 1"," row 5: 1","beside","ways","upon","alike","cut","cut 0","cut 0 0 0","cut 0 6","cut 00 0","cut -1 0","cut 0  0","cut 0 0 ","cut a 0","mirror 0"]:List Str)++(["mirror "," mirror","opposite opposite","about","about 6","about 0 0","about +0","split 0","split ","bars 0","bars ","kept","kept 0","kept 0 0 0","kept 0 9"]:List Str)++(["kept 0,0","widths 0","width","bar","5: 1","kept  0 0"]:List Str)
noncomputable def Cy:List Str:=(["beside 5: 1","beside ","beside x","ways 2: 0","ways 4: 1","upon 5: 1","upon ","alike 7: 1 -1> 1","alike ","cut 0 0","cut 5 0","mirror","opposite","about 0","about 5","split","bars","kept 0 0","kept 3 2","widths"]:List Str)++(["beside  ","ways 5: 31"]:List Str)
noncomputable def w6:D:= .tup [.int 5,.tup [.int 2,.int 1],.tup [.tup [.str "r",.tup [.int 1,.int 2,.tup [.tup [.int 1,.int 3]]]]]]
theorem Ya:qx []=aI (.own<|xg.map D.str):=by kernel_rfl
theorem QU:qb []=aI (.own<|Cy.map D.str):=by kernel_rfl
theorem ye(d:D)(h:d = .hI\/d=w6) : ∀x∈xg,zA [d,.str x]=aI (.lst [.str "NoLine"],d):=by
 rcases h with rfl | rfl
 ·have e:(xg.map λx=>zA [.hI,.str x])=xg.map λ_=>aI (.lst [.str "NoLine"],.hI):=by kernel_rfl
  exact BS.mp e
 ·have e:(xg.map λx=>zA [w6,.str x])=xg.map λ_=>aI (.lst [.str "NoLine"],w6):=by kernel_rfl
  exact BS.mp e
theorem JY : ∀x∈Cy,zA [.hI,.str x]=aI (.lst [.str "Nothing"],.hI):=by
 have e:(Cy.map λx=>zA [.hI,.str x])=Cy.map λ_=>aI (.lst [.str "Nothing"],.hI):=by kernel_rfl
 exact BS.mp e
theorem Wr:zA [.hI,.str "widths"]=aI (.lst [.str "Nothing"],.hI):=by kernel_rfl
theorem bZ:zA [.hI,.str "row 5: 2 -13> 1"]=aI (.str "5: 2 -13> 1",w6):=by kernel_rfl
theorem bY:zA [w6,.str "widths"]=aI (.str "2 1",w6):=by kernel_rfl
theorem cb:zA [w6,.str "bars"]=aI (.str "0-0 0-1",w6):=by kernel_rfl
theorem aC:t6 (.lst [.str "NoLine"]) (.lst [.str "NoLine"])=aI (.bl dV):=by kernel_rfl
theorem eE:t6 (.lst [.str "Nothing"]) (.lst [.str "Nothing"])=aI (.bl dV):=by kernel_rfl
theorem pQ:t6 (.str "5: 2 -13> 1") (.str "5: 2 -13> 1")=aI (.bl dV):=by kernel_rfl
theorem pP:t6 (.str "2 1") (.str "2 1")=aI (.bl dV):=by kernel_rfl
theorem pR:t6 (.str "0-0 0-1") (.str "0-0 0-1")=aI (.bl dV):=by kernel_rfl
theorem kL{I:ZF}{J fr:CO D}{γ:Ctx}{d d' l o:D}(L:J γ=aI l)(O:I [d,l]=aI (o,d'))(z:fr γ=aI o)(B:t6 o o=aI (.bl dV)):CI I J fr γ d=aI (dV,d'):=by unfold CI;rw[L,Ac,O,Ac,z,Ac];show((t6 o o).bind CD).map _=_;rw[B];rfl
theorem QR{t u:ZT}{γ:Ctx}{d d' z:D}(I:t γ d=aI (dV,d'))(J:u γ d'=aI (dV,z)):Ek t u γ d=aI (dV,z):=by unfold Ek;rw[I];exact J
theorem yd{t:ZT}{I:List ZT}{γ:Ctx}{d d':D}{r:Option Fl}(J:t γ d=aI (dV,d'))(L:bw I γ d'=r):bw (t::I) γ d=r:=by show(t γ d).bind _=_;rw[J];exact L
theorem XD{l:List Str}{γ:Ctx}{i:Nat}{f:CO D}{z:Int}(B:l ≠ [])(J:γ[i]? = aI (.val<|.lst<|l.map D.str))(O:f γ=aI (.int z)) : ∃x∈l,g6 (zl i) (zR vS f<|vc<|zl i) γ=aI (.str x):=by
 have b:0<l.length:=List.length_pos_iff.mpr B;obtain⟨n,I,a⟩:=Qn (m:=z) (l.length:Int) ⋯;have a:n<l.length:=by omega
 refine⟨l[n],Cc a,?_⟩;have q:zl i γ=aI (.L,l.map D.str):=by rw[br,J];rfl
 have e:zR vS f (vc<|zl i) γ=aI (.int (n:Int)):=by
  have c:(0:Int)<(l.length:Int):=by omega
  rw[fL,O,fH,q];simp[I,b]
 rw[mx,q,e];show((A4 (l.map D.str).length (n:Int)).bind λk=>(l.map D.str)[k]?)=_;rw[sZ,xv,GK a];show(l.map D.str)[n]? = _;rw[sV,rV a];rfl
theorem Qv{L:List Int}{k:Nat}{z:Int}(S:jg [Kv L,.int (k:Int)]=aI (.val<|.int z))(Z:0<=z)(U I:Cell):fR [.val (Kv L),.val<|.lst<|xg.map D.str,.val<|.lst<|Cy.map D.str,.val<|.int (k:Int),U,I]=aI (.next [.val (Kv L),.val<|.lst<|xg.map D.str,.val<|.lst<|Cy.map D.str,.val<|.int (k:Int),.val<|.int z,.no]):=by
 have J:1<=lim:=by have:=JM;omega
 let γ:Ctx:=[.val (Kv L),.val (.lst (xg.map D.str)),.val (.lst (Cy.map D.str)),.val (.int (k:Int)),.val (.int z),.no];have B:jr (jJ (ze (zp (.str "NoLine")) zI)) γ=aI (.lst [.str "NoLine"]):=by simp[J]
 have no:jr (jJ (ze (zp (.str "Nothing")) zI)) γ=aI (.lst [.str "Nothing"]):=by simp[J]
 obtain⟨b,O,a⟩:=XD (l:=xg) (γ:=γ) (i:=1) (f:=zo 4) (z:=z) ⋯ rfl rfl;obtain⟨W,Y,d⟩:=XD (l:=Cy) (γ:=γ) (i:=2) (f:=zR K6 (zo 4)<|zp<|.int 64) (z:=z/64) ⋯ rfl (by simp[γ]);obtain⟨h,g,e⟩:=XD (l:=xg) (γ:=γ) (i:=1) (f:=zR K6 (zo 4)<|zp<|.int 4096) (z:=z/4096) ⋯ rfl (by simp[γ]);unfold fR;refine k6 (γ':=[.val (Kv L),.val<|.lst<|xg.map D.str,.val<|.lst<|Cy.map D.str,.val<|.int (k:Int),.val<|.int z,I]) (by simp[S]) ?_;unfold Yr;rw[GK ⟨rfl,by show 5<6;decide⟩];show bw _ γ .hI=_;exact yd (kL a (ye _ (.inl rfl) b O) B aC)<|yd (kL d (JY W Y) no eE)<|yd (QR (kL rfl Wr no eE)<|kL rfl bZ rfl pQ)<|yd (QR (kL e (ye _ (.inr rfl) h g) B aC)<|kL rfl bY rfl pP)<|yd (QR (kL a (ye _ (.inr rfl) b O) B aC)<|kL rfl cb rfl pR) rfl
theorem Wo:yX=jl 6 (zP ip<|zP ik<|zP mT mR):=rfl
theorem lr(L:List Int)(O:L.length<=63):yX [Kv L]=aI (.val<|.bl cT):=by
 have b:=JM;obtain⟨γ',S,J,B,I,rfl⟩:=Qr (T:= .nm 3) (F:=fR) (f:=zp<|.int 6)
  (λ_ γ=>∃J B I,γ=[.val (Kv L),.val<|.lst<|xg.map D.str,.val<|.lst<|Cy.map D.str,J,B,I]) 6 ⋯ (γ:=[.val (Kv L),.val<|.lst<|xg.map D.str,.val<|.lst<|Cy.map D.str,.no,.no,.no]) rfl ⟨_,_,_,rfl⟩ λk a γ U=>by obtain⟨J,B,I,rfl⟩:=U;obtain⟨z,W,Y,_⟩:=aW L O (k:Int) ⋯ ⋯;exact⟨_,_,rfl,Qv W Y B I,_,_,_,rfl⟩
 rw[Wo];refine WM<|k6 (γ':=[.val (Kv L),.val<|.lst<|xg.map D.str,.no,.no,.no,.no]) ?_ (k6 (γ':=[.val (Kv L),.val<|.lst<|xg.map D.str,.val<|.lst<|Cy.map D.str,.no,.no,.no]) ?_ (k6 S rfl))
 ·simp[ip,k4,so,Ya]
 ·simp[ik,QU]
noncomputable def top(i:Nat):PySem.Stmt:=PySem.Challenge.pw_barsplit_k63_what_is_no_line.main.body.getD i<|.Pass ⟨0,0,0,0⟩
section
variable{CR CL:PySem.Addr}{P:PySem.Program}{w:PySem.World}{K:rR}{mg:PySem.Str->Option PySem.Value}{base:PySem.Heap}
theorem K4(h:us.length=n+1) : ∃a t,us=a::t/\t.length=n:=by
 cases us with
 | nil=>exact absurd h<|Nat.zero_ne_add_one n
 | cons a t=>exact⟨a,t,rfl,Nat.succ.inj h⟩
theorem rM(h:us.length=1) : ∃a,us=[a]:=by obtain⟨a,z,rfl,b⟩:=K4 h;rw[sO b];exact⟨a,rfl⟩
theorem rL(h:us.length=2) : ∃a b,us=[a,b]:=by obtain⟨a,z,rfl,d⟩:=K4 h;obtain⟨b,B,rfl,e⟩:=K4 d;rw[sO e];exact⟨a,b,rfl⟩
theorem rK(h:us.length=3) : ∃a b c,us=[a,b,c]:=by obtain⟨a,z,rfl,d⟩:=K4 h;obtain⟨b,B,rfl,e⟩:=K4 d;obtain⟨c,I,rfl,f⟩:=K4 e;rw[sO f];exact⟨a,b,c,rfl⟩
theorem rJ(h:us.length=4) : ∃a b c d,us=[a,b,c,d]:=by obtain⟨a,B,rfl,e⟩:=K4 h;obtain⟨b,I,rfl,f⟩:=K4 e;obtain⟨c,J,rfl,g⟩:=K4 f;obtain⟨d,O,rfl,z⟩:=K4 g;rw[sO z];exact⟨a,b,c,d,rfl⟩
theorem V0(D:ij K mg "_law_wrong" (top 162) []):fA P w K mg base 1 "_law_wrong" 0 qx:=
 jB (N:=["_law_some"]) D ⋯ λX z e B d b a f=>by subst z e B d b;exact by refine zc ?_ ?_;exact(by(with_reducible refine yx 0 ?_);(with_reducible refine SX.set a 0 ?hc ?_ (hs:=?hq));(case hc=>decide +kernel);(case hq=>rfl);(with_reducible refine PO.v ?_);(with_reducible refine jf ?_);(with_reducible refine zF zk ?_ (hs:=?hq));(case hq=>rfl);(with_reducible refine zF zk ?_ (hs:=?hq));(case hq=>rfl);(with_reducible refine zF zk ?_ (hs:=?hq));(case hq=>rfl);(with_reducible refine zF zk ?_ (hs:=?hq));(case hq=>rfl);(with_reducible refine zF zk ?_ (hs:=?hq));(case hq=>rfl);(with_reducible refine zF zk ?_ (hs:=?hq));(case hq=>rfl);(with_reducible refine zF zk ?_ (hs:=?hq));(case hq=>rfl);(with_reducible refine zF zk ?_ (hs:=?hq));(case hq=>rfl);(with_reducible refine zF zk ?_ (hs:=?hq));(case hq=>rfl);(with_reducible refine zF zk ?_ (hs:=?hq));(case hq=>rfl);(with_reducible refine zF zk ?_ (hs:=?hq));(case hq=>rfl);(with_reducible refine zF zk ?_ (hs:=?hq));(case hq=>rfl);(with_reducible exact wu));refine zc (zW a (PO.v (qa (zD a) (PO.q (jf (qe (za zk (za zk (za zk (za zk (za zk (za zk (za zk (za zk zf)))))))))))))) ?_;refine zc (zW a (PO.v (qa (zD a) (PO.q (jf (qe (za zk (za zk (za zk (za zk (za zk (za zk (za zk (za zk zf)))))))))))))) ?_;refine zc (zW a (PO.v (qa (zD a) (PO.q (jf (qe (za zk (za zk (za zk (za zk (za zk (za zk (za zk (za zk (za zk zf))))))))))))))) ?_;exact(zg (ja (qa (zD a) (PO.q (jf (qe (za zk (za zk (za zk (za zk zf))))))))))
theorem YU(D:ij K mg "_law_unkept" (top 163) []):fA P w K mg base 1 "_law_unkept" 0 qb:=
 jB (N:=["_law_some"]) D ⋯ λX z e B d b a f=>by subst z e B d b;exact by refine zc (by(with_reducible refine yx 0 ?_);(with_reducible refine SX.set a 0 ?hc ?_ (hs:=?hq));(case hc=>decide +kernel);(case hq=>rfl);(with_reducible refine PO.v ?_);(with_reducible refine jf ?_);(with_reducible refine zF zk ?_ (hs:=?hq));(case hq=>rfl);(with_reducible refine zF zk ?_ (hs:=?hq));(case hq=>rfl);(with_reducible refine zF zk ?_ (hs:=?hq));(case hq=>rfl);(with_reducible refine zF zk ?_ (hs:=?hq));(case hq=>rfl);(with_reducible refine zF zk ?_ (hs:=?hq));(case hq=>rfl);(with_reducible refine zF zk ?_ (hs:=?hq));(case hq=>rfl);(with_reducible refine zF zk ?_ (hs:=?hq));(case hq=>rfl);(with_reducible refine zF zk ?_ (hs:=?hq));(case hq=>rfl);(with_reducible exact wu)) ?_;refine zc (zW a (PO.v (qa (zD a) (PO.q (jf (qe (za zk (za zk (za zk (za zk (za zk (za zk (za zk (za zk (za zk zf))))))))))))))) ?_;exact(zg (ja (qa (zD a) (PO.q (jf (qe (za zk (za zk (za zk (za zk (za zk zf)))))))))))
theorem ar(D:ij K mg "_law_cell" (top 159) ["_law_script","_law_k"])(z:mg "len" = cI)(B:mg "min" = cI)(I:mg "range" = cI):fA P w K mg base 1 "_law_cell" 2 jg:=
 jB (N:=["_law_script","_law_k","_law_cell_here","_law_turn","_law_given"]) D ⋯ λX J e O d b a f=>by subst J e O d b;exact by refine zc (zU (Z5 (Xi (VJ (jD a ⋯ z (zD a)) zh) (JE (jt a (jY (zy (zD a) zh) zh) zh)))) (by refine zc (zW a (zy (zD a) (jy zh (jY (zq a) (Zd (jD a ⋯ z (zD a)) zh))))) ?_;refine zc (kQ f a (jO a ⋯ I (dc a ⋯ B zh (JG (zq a) (Zd (jD a ⋯ z (zD a)) zh)))) (zg (zW a (JG (zq a) (Xl zh zh))))) ?_;exact(zg (zu (jY (zq a) (Xl zh zh))))) zC) ?_;refine zc (zW a (zq a)) ?_;refine zc (zU (VJ (jD a ⋯ z (zD a)) zh) (zg (zW a (zy (zD a) (jY (zq a) (jD a ⋯ z (zD a)))))) zC) ?_;exact(zg (zu (jY (xl (jY (jy (jy (jy (xl (jY (zq a) (Xl zh zh)) zh) (xl (xl zh (zq a)) (zq a))) (xl zh (zq a))) zh) zh) zh) zh)))
theorem XT(D:ij K mg "is_desk_line" (top 147) ["words"])(I:mg "all" = cI)(z:mg "len" = cI)(J:GL K mg "LINES_WITH_A_ROW" (.tup [.str "row",.str "beside",.str "ways",.str "upon",.str "alike"]))(B:En w K mg "ROOMS_BEHIND" E1)(O:GL K mg "ROOM_WORDS" (.tup [.str "0",.str "1",.str "2",.str "3",.str "4",.str "5"])):fA P w K mg base 1 "is_desk_line" 1 jv:=
 jB (N:=["words","first"]) D ⋯ λX S f U e d a g=>by subst S f U e d;exact by refine zc (zW a (zy (zD a) zh)) ?_;refine zc (zU (WU (zq a) (PV.q (yo a ⋯ J))) (zg (zu (iW (jD a ⋯ z (zD a)) zh))) zC) ?_;refine zc (zU (Z5 (Zc (Qa B a (zq a)) (ym (yu a (jD a ⋯ z (zD a)) (jy (de B a (zq a)) zh))))) (zg (zu Xq)) zC) ?_;exact(zg (zu (yq a ⋯ I (PO.q (ju a (zH (PO.q (VQ (zD a) (ji zh) jT))) (λ_ _ _ b=>Xp (zq b) (PV.q (yo b ⋯ O))))))))
theorem Ql(D:ij K mg "behind_noughts" (top 35) ["many","base"])(z:mg "any" = cI):fA P w K mg base 1 "behind_noughts" 2 jV:=
 jB (N:=["many","base"]) D ⋯ λX B f I e d b g=>by subst B f I e d;exact zg (ja (Qd b (zH (zD b)) (λ_ _ _ a=>jh (zY (VH a ⋯ z (PV.q (Ze (zq a) jT (ji (zq a))))))) (λ_ _ _ a=>Ze (zq a) (ji (zq a)) jT)))
theorem gf(D:ij K mg "rests" (top 20) ["p","numbers"])(z:mg "tuple" = cI):fA P w K mg base 1 "rests" 2 qh:=
 jB (N:=["p","numbers"]) D ⋯ λX B f I e d a g=>by subst B f I e d;exact zg (zu (jw a ⋯ z (PO.q (ju a (zH (zD a)) (λ_ _ _ b=>jY (zq b) (zq b))))))
theorem bH(D:ij K mg "inverse" (top 21) ["p","x"])(z:mg "range" = cI):fA P w K mg base 1 "inverse" 2 yZ:=
 jB (N:=["p","x","y"]) D ⋯ λX B e I d b a f=>by subst B e I d b;exact by refine zc (kQ f a (YD a ⋯ z zh (zq a)) (zg (zU (jt a (jY (xl (zq a) (zq a)) (zq a)) zh) (zg (k8 2 (a.var ⋯))) zC))) ?_;exact(zg jG)
theorem bJ(D:ij K mg "cleared" (top 33) ["p","load","pivot","place"])(z:fA P w K mg base 1 "rests" 2 qh)(B:mg "zip" = cI):fA P w K mg base 2 "cleared" 4 kh:=
 jB (N:=["p","load","pivot","place","much"]) D ⋯ λX I f J e d a g=>by subst I f J e d;exact by refine zc (zW a (zy (zD a) (zq a))) ?_;refine zc (zU (jt a (zq a) zh) (zg (k8 1 (a.var ⋯))) zC) ?_;exact(zg (zu (zJ z a (za (zq a) (za (PO.v (ju a (n6.c (yA a ⋯ B (zq a) (zq a))) (λ_ _ _ b=>Zd (zq b) (xl (zq b) (zq b))))) zf)))))
theorem bL(D:ij K mg "base_of" (top 34) ["p","long","loads"])(z:fA P w K mg base 1 "rests" 2 qh)(I:fA P w K mg base 1 "inverse" 2 yZ)(B:fA P w K mg base 2 "cleared" 4 kh)(J:mg "range" = cI):fA P w K mg base 3 "base_of" 3 jI:=
 jB (N:=["p","long","loads","left","base","place","leading","times","pivot"]) D ⋯ λX O f S e d a g=>by subst O f S e d;exact by refine zc (zZ 3 (xO a (zH (zD a)) (λ_ _ _ b=>zJ z b (za (zq b) (za (zq b) zf))))) ?_;refine zc (yy a (jf (qe zf))) ?_;refine zc (kQ g a (jO a ⋯ J (zq a)) (by refine zc (zZ 6 (WZ a (zH (zD a)) (λ_ _ _ b=>yu b (zy (zD b) (zq b)) zh) (λ_ _ _ b=>zq b))) ?_;refine zc (zU (jh (JI (zD a))) (zg Zi) zC) ?_;refine zc (zW a (zJ I a (za (zq a) (za (zy (PV.q (zy (zD a) zh)) (zq a)) zf)))) ?_;refine zc (zW a (zJ z a (za (zq a) (za (PO.v (ju a (zH (PV.q (zy (zD a) zh))) (λ_ _ _ b=>xl (zq b) (zq b)))) zf)))) ?_;refine zc (zZ 3 (xO a (zH (zD a)) (λ_ _ _ b=>zJ B b (za (zq b) (za (zq b) (za (zq b) (za (zq b) zf))))))) ?_;exact(zg (yy a (qa (PO.q (ju a (zH (zD a)) (λ_ _ _ b=>zJ B b (za (zq b) (za (zq b) (za (zq b) (za (zq b) zf))))))) (PO.q (jf (qe (za (zq a) zf))))))))) ?_;exact(zg (k8 4 (a.var ⋯)))
theorem K0(D:ij K mg "turned_over" (top 28) ["table"])(B:mg "range" = cI)(z:mg "tuple" = cI):fA P w K mg base 1 "turned_over" 1 je:=
 jB (N:=["table","columns"]) D ⋯ λX I g J f e a h=>by subst I g J f e;exact by refine zc (zZ 1 (xO a (n6.c (jO a ⋯ B (zy (zD a) zh))) (λ_ _ _ b=>jw b ⋯ z (PO.q (ju b (zH (PV.q (zy (zD b) zh))) (λ_ _ _ d=>zy (zD d) (zq d))))))) ?_;exact(zg (zu (js (qe (za (zy (zD a) zh) (za (zy (zD a) zh) (za (jw a ⋯ z (zD a)) zf)))))))
theorem YR(D:ij K mg "same_table" (top 29) ["many"])(z:mg "range" = cI)(B:mg "tuple" = cI):fA P w K mg base 1 "same_table" 1 z9:=
 jB (N:=["many","rows"]) D ⋯ λX I g J f e a h=>by subst I g J f e;exact by refine zc (zZ 1 (xO a (n6.c (jO a ⋯ z (zq a))) (λ_ _ _ b=>jw b ⋯ B (PO.q (ju b (n6.c (jO b ⋯ z (zq b))) (λ_ _ _ d=>jE (jt d (zq d) (zq d)) zh zh)))))) ?_;exact(zg (zu (js (qe (za (zq a) (za (zq a) (za (jw a ⋯ B (zD a)) zf)))))))
theorem aq(D:ij K mg "led_into" (top 37) ["p","table","base"])(z:fA P w K mg base 1 "behind_noughts" 2 jV)(B:fA P w K mg base 3 "base_of" 3 jI)(I:fA P w K mg base 1 "turned_over" 1 je)(J:fA P w K mg base 1 "same_table" 1 z9)(O:mg "zip" = cI):fA P w K mg base 4 "led_into" 3 ql:=
 jB (N:=["p","table","base","pairs","free"]) D ⋯ λX S f U e d a g=>by subst S f U e d;exact by refine zc (zZ 3 (xO a (n6.c (yA a ⋯ O (zy (PV.q (zJ I a (za (zq a) zf))) zh) (zy (PV.q (zJ J a (za (zy (zD a) zh) zf))) zh))) (λ_ _ _ b=>jy (zq b) (zq b)))) ?_;refine zc (zZ 4 (xO a (zH (zD a)) (λ_ _ _ b=>jy (zq b) (xl (js (qe (za zh zf))) (zy (zD b) zh))))) ?_;exact(zg (ja (qp z a (za (zy (zD a) zh) (za (PO.v (qp B a (za (zq a) (za (jy (zy (zD a) zh) (zy (zD a) zh)) (za (PO.v (qa (zD a) (zD a))) zf))))) zf)))))
theorem eh(D:ij K mg "kernel" (top 38) ["p","table"])(z:fA P w K mg base 4 "led_into" 3 ql):fA P w K mg base 5 "kernel" 2 ke:=
 jB (N:=["p","table"]) D ⋯ λX B e I d b a f=>by subst B e I d b;exact zg (ja (qp z a (za (zq a) (za (zq a) (za (PO.v (jf (qe zf))) zf)))))
theorem gi(D:ij K mg "image" (top 39) ["p","table"])(z:fA P w K mg base 3 "base_of" 3 jI)(B:fA P w K mg base 1 "turned_over" 1 je):fA P w K mg base 4 "image" 2 y0:=
 jB (N:=["p","table"]) D ⋯ λX I e J d b a f=>by subst I e J d b;exact zg (ja (qp z a (za (zq a) (za (zy (zD a) zh) (za (zy (PV.q (zJ B a (za (zq a) zf))) zh) zf)))))
theorem bI(D:ij K mg "columns" (top 46) ["high","loads"])(z:fA P w K mg base 1 "turned_over" 1 je)(B:mg "len" = cI)(I:mg "tuple" = cI):fA P w K mg base 2 "columns" 2 j8:=
 jB (N:=["high","loads"]) D ⋯ λX J e O d b a f=>by subst J e O d b;exact zg (zu (zJ z a (za (js (qe (za (jD a ⋯ B (zD a)) (za (zq a) (za (jw a ⋯ I (zD a)) zf))))) zf)))
theorem aw(D:ij K mg "has_room" (top 44) ["bar","room"])(z:mg "len" = cI):fA P w K mg base 1 "has_room" 2 jz:=
 jB (N:=["bar","room"]) D ⋯ λX B e I d b a f=>by subst B e I d b;exact zg (zu (JH Qj dY vz Vw (zy (zD a) zh) (zq a) (jy (zy (zD a) zh) (jD a ⋯ z (PV.q (zy (zD a) zh))))))
theorem ao(D:ij K mg "loads_in" (top 45) ["bars","room"])(z:fA P w K mg base 1 "has_room" 2 jz):fA P w K mg base 2 "loads_in" 2 jN:=
 jB (N:=["bars","room"]) D ⋯ λX B f I e d b g=>by subst B f I e d;exact zg (ja (Qd b (zH (zD b)) (λ_ _ _ a=>zY (zJ z a (za (zq a) (za (zq a) zf)))) (λ_ _ _ a=>zy (PV.q (zy (zD a) zh)) (Zd (zq a) (zy (zD a) zh)))))
theorem bE(D:ij K mg "lead_of" (top 32) ["load"])(z:mg "enumerate" = cI):fA P w K mg base 1 "lead_of" 1 jH:=
 jB (N:=["load"]) D ⋯ λX B f I e d b g=>by subst B f I e d;exact zg (zu (zy (PO.q (Qd b (n6.c (XB b ⋯ z (zq b))) (λ_ _ _ a=>yu a (zq a) zh) (λ_ _ _ a=>zq a))) zh))
theorem nD(D:ij K mg "led" (top 26) ["p","table","load"])(z:fA P w K mg base 1 "rests" 2 qh)(B:mg "sum" = cI)(I:mg "zip" = cI):fA P w K mg base 2 "led" 3 KY:=
 jB (N:=["p","table","load"]) D ⋯ λX J g O f e b h=>by subst J g O f e;exact zg (zu (zJ z b (za (zq b) (za (PO.v (ju b (zH (PV.q (zy (zD b) zh))) (λ_ _ _ a=>VF a ⋯ B (PO.q (ju a (n6.c (yA a ⋯ I (zq a) (zq a))) (λ_ _ _ d=>xl (zq d) (zq d))))))) zf))))
theorem YT(D:ij K mg "mixed_load" (top 47) ["row","bars","times","room"])(z:fA P w K mg base 2 "led" 3 KY)(B:fA P w K mg base 2 "columns" 2 j8)(I:fA P w K mg base 1 "has_room" 2 jz)(J:fA P w K mg base 2 "loads_in" 2 jN)(O:mg "zip" = cI):fA P w K mg base 3 "mixed_load" 4 qR:=
 jB (N:=["row","bars","times","room","there"]) D ⋯ λX S f U e d a g=>by subst S f U e d;exact by refine zc (zZ 4 (WZ a (n6.c (yA a ⋯ O (zq a) (zq a))) (λ_ _ _ b=>zY (zJ I b (za (zq b) (za (zq b) zf)))) (λ_ _ _ b=>zq b))) ?_;exact(zg (zu (zJ z a (za (zy (zD a) zh) (za (zJ B a (za (zy (PV.q (zy (zD a) zh)) (zq a)) (za (PO.v (qp J a (za (zq a) (za (zq a) zf)))) zf))) (za (zq a) zf))))))
theorem gg(D:ij K mg "mixed" (top 48) ["row","bars","times"])(z:fA P w K mg base 1 "lead_of" 1 jH)(B:fA P w K mg base 3 "mixed_load" 4 qR)(I:mg "len" = cI)(J:mg "range" = cI)(O:mg "tuple" = cI):fA P w K mg base 4 "mixed" 3 Jp:=
 jB (N:=["row","bars","times","first","loads"]) D ⋯ λX S f U e d a g=>by subst S f U e d;exact by refine zc (zW a (zy (zD a) (zJ z a (za (zq a) zf)))) ?_;refine zc (zZ 4 (xO a (n6.c (jO a ⋯ J (jD a ⋯ I (PV.q (zy (zD a) zh))))) (λ_ _ _ b=>zJ B b (za (zq b) (za (zq b) (za (zq b) (za (jy (zy (zD b) zh) (zq b)) zf))))))) ?_;exact(zg (zu (js (qe (za (zy (zD a) zh) (za (jw a ⋯ O (zD a)) zf))))))
theorem bD(D:ij K mg "settled" (top 49) ["row","k","bars"])(z:fA P w K mg base 4 "led_into" 3 ql)(B:fA P w K mg base 5 "kernel" 2 ke)(I:fA P w K mg base 4 "image" 2 y0)(J:fA P w K mg base 2 "columns" 2 j8)(O:fA P w K mg base 2 "loads_in" 2 jN)(S:fA P w K mg base 4 "mixed" 3 Jp)(U:fA P w K mg base 1 "lead_of" 1 jH)(W:mg "dict" = cI)(Y:mg "enumerate" = cI):fA P w K mg base 6 "settled" 3 yW:=
 jB (N:=["row","k","bars","way","table","special","base","leads"]) D ⋯ λX e h d g f a i=>by subst e h d g f;exact by refine zc (zW a (zy (PV.q (zy (PV.q (zy (zD a) zh)) (zq a))) zh)) ?_;refine zc (zW a (zy (PV.q (zy (PV.q (zy (zD a) zh)) (zq a))) zh)) ?_;refine zc (zW a (jE (jt a (zq a) zk) (PO.v (qp B a (za (zy (zD a) zh) (za (zq a) zf)))) (PO.v (qp I a (za (zy (zD a) zh) (za (zq a) zf)))))) ?_;refine zc (zW a (PO.v (qp z a (za (zy (zD a) zh) (za (zJ J a (za (zy (PV.q (zy (zD a) zh)) (zq a)) (za (PO.v (qp O a (za (zq a) (za (zq a) zf)))) zf))) (za (zq a) zf)))))) ?_;refine zc (zW a (Yt a ⋯ W (ju a (zH (zD a)) (λ_ _ _ b=>js (qe (za (zJ U b (za (zq b) zf)) (za (zq b) zf))))))) ?_;exact(zg (ja (ju a (n6.c (Z8 a ⋯ Y (zq a))) (λ_ _ _ b=>jE (WV b (zq b) (zq b)) (zJ S b (za (zq b) (za (zq b) (za (dm b (zq b) (zq b)) zf)))) (zq b)))))
theorem ed(D:ij K mg "solved" (top 40) ["p","table","load"])(z:fA P w K mg base 3 "base_of" 3 jI)(B:fA P w K mg base 1 "lead_of" 1 jH)(I:mg "tuple" = cI)(J:mg "zip" = cI):fA P w K mg base 4 "solved" 3 wJ:=
 jB (N:=["p","table","load","wide","answer","line","place"]) D ⋯ λX O f S e d a g=>by subst O f S e d;exact by refine zc (zW a (zy (zD a) zh)) ?_;refine zc (yy a (dz (jf (qe (za zh zf))) (zq a))) ?_;refine zc (kQ g a (W6 (PO.v (qp z a (za (zq a) (za (jy (zq a) zh) (za (PO.v (ju a (n6.c (yA a ⋯ J (zy (zD a) zh) (zq a))) (λ_ _ _ b=>jy (zq b) (js (qe (za (zq b) zf)))))) zf)))))) (by refine zc (zW a (zJ B a (za (zq a) zf))) ?_;refine zc (zU (jt a (zq a) (zq a)) (zg (zu vE)) zC) ?_;exact(zg (Xv 4 a ⋯ (zq a) (zy (zD a) (zq a)))))) ?_;exact(zg (zu (jw a ⋯ I (zD a))))
theorem VY(D:ij K mg "next_load" (top 50) ["p","arrow","load"])(z:fA P w K mg base 2 "led" 3 KY)(B:fA P w K mg base 4 "solved" 3 wJ)(I:mg "any" = cI):fA P w K mg base 5 "next_load" 3 xD:=
 jB (N:=["p","arrow","load","there"]) D ⋯ λX J e O d b a f=>by subst J e O d b;exact by refine zc (zU (jt a (zy (zD a) zh) zk) (zg (zu (zJ B a (za (zq a) (za (zy (zD a) zh) (za (zq a) zf)))))) zC) ?_;refine zc (zW a (zJ z a (za (zq a) (za (zy (zD a) zh) (za (zq a) zf))))) ?_;exact(zg (zu (jE (zY (VH a ⋯ I (zD a))) (zq a) vE)))
theorem ah(D:ij K mg "taken_on" (top 51) ["p","arrow","bar"])(z:fA P w K mg base 5 "next_load" 3 xD):fA P w K mg base 6 "taken_on" 3 kE:=
 jB (N:=["p","arrow","bar","load"]) D ⋯ λX B e I d b a f=>by subst B e I d b;exact by refine zc (zW a (zJ z a (za (zq a) (za (zq a) (za (zy (PV.q (zy (zD a) zh)) (Zg zh)) zf))))) ?_;exact(zg (zu (jE (Xs (zq a) vE) (zq a) (js (qe (za (zy (zD a) zh) (za (jy (zy (zD a) zh) (js (qe (za (zq a) zf)))) zf)))))))
theorem VZ(D:ij K mg "new_loads" (top 52) ["p","arrow"])(z:fA P w K mg base 5 "kernel" 2 ke)(B:fA P w K mg base 1 "lead_of" 1 jH)(I:fA P w K mg base 4 "image" 2 y0)(J:fA P w K mg base 1 "same_table" 1 z9)(O:mg "enumerate" = cI):fA P w K mg base 6 "new_loads" 2 xE:=
 jB (N:=["p","arrow","leads"]) D ⋯ λX S f U e d a g=>by subst S f U e d;exact by refine zc (zU (jt a (zy (zD a) zh) zk) (zg (ja (qp z a (za (zq a) (za (zy (zD a) zh) zf))))) zC) ?_;refine zc (zZ 2 (xO a (zH (PO.q (qp I a (za (zq a) (za (zy (zD a) zh) zf))))) (λ_ _ _ b=>zJ B b (za (zq b) zf)))) ?_;exact(zg (ja (Qd a (n6.c (XB a ⋯ O (zy (PV.q (zJ J a (za (zy (PV.q (zy (zD a) zh)) zh) zf))) zh))) (λ_ _ _ b=>J9 (zq b) (zD b)) (λ_ _ _ b=>zq b))))
theorem gj(D:ij K mg "grown" (top 53) ["row","k","bars"])(B:fA P w K mg base 6 "settled" 3 yW)(I:fA P w K mg base 6 "taken_on" 3 kE)(J:fA P w K mg base 6 "new_loads" 2 xE)(z:fA P w K mg base 1 "has_room" 2 jz):fA P w K mg base 7 "grown" 3 Jq:=
 jB (N:=["row","k","bars","p","arrow","ended","here","old","new"]) D ⋯ λX O f S e d a g=>by subst O f S e d;exact by refine zc (zW a (zy (zD a) zh)) ?_;refine zc (zW a (zy (PV.q (zy (zD a) zh)) (zq a))) ?_;refine zc (zZ 5 (WZ a (zH (zD a)) (λ_ _ _ b=>jh (zY (zJ z b (za (zq b) (za (zq b) zf))))) (λ_ _ _ b=>zq b))) ?_;refine zc (zW a (PO.v (qp B a (za (zq a) (za (zq a) (za (PO.v (Qd a (zH (zD a)) (λ_ _ _ b=>zY (zJ z b (za (zq b) (za (zq b) zf)))) (λ_ _ _ b=>zq b))) zf)))))) ?_;refine zc (zZ 7 (xO a (zH (zD a)) (λ_ _ _ b=>zJ I b (za (zq b) (za (zq b) (za (zq b) zf)))))) ?_;refine zc (zZ 8 (xO a (zH (PO.q (qp J a (za (zq a) (za (zq a) zf))))) (λ_ _ _ b=>js (qe (za (jy (zq b) zh) (za (js (qe (za (zq b) zf))) zf)))))) ?_;exact(zg (zu (PO.v (qa (zD a) (PV.q (jE (jt a (zy (zD a) zh) zk) (PO.v (qa (zD a) (zD a))) (PO.v (qa (zD a) (zD a)))))))))
theorem YQ(D:ij K mg "stretch_of" (top 43) ["bar"])(z:mg "len" = cI):fA P w K mg base 1 "stretch_of" 1 jQ:=
 jB (N:=["bar"]) D ⋯ λX B e I d b a f=>by subst B e I d b;exact zg (zu (js (qe (za (zy (zD a) zh) (za (Zd (jy (zy (zD a) zh) (jD a ⋯ z (PV.q (zy (zD a) zh)))) zh) zf)))))
theorem V5(D:ij K mg "all_grown" (top 54) ["row"])(z:fA P w K mg base 7 "grown" 3 Jq)(B:fA P w K mg base 1 "stretch_of" 1 jQ)(I:fA P w K mg base 1 "same_table" 1 z9)(J:mg "len" = cI)(O:mg "range" = cI)(S:mg "sorted" = cI):fA P w K mg base 9 "all_grown" 1 xI:=
 jB (N:=["row","bars","k"]) D ⋯ λX U f W e d a g=>by subst U f W e d;exact by refine zc (zZ 1 (xO a (zH (PV.q (zy (PV.q (zJ I a (za (zy (PV.q (zy (zD a) zh)) zh) zf))) zh))) (λ_ _ _ b=>js (qe (za zh (za (js (qe (za (zq b) zf))) zf)))))) ?_;refine zc (kQ g a (jO a ⋯ O (jD a ⋯ J (PV.q (zy (zD a) zh)))) (zg (zW a (zJ z a (za (zq a) (za (zq a) (za (zq a) zf))))))) ?_;exact(zg (ja (YC B a ⋯ ⋯ S ⋯ (zD a))))
theorem bM(D:ij K mg "back_of" (top 41) ["p","table"])(z:fA P w K mg base 3 "base_of" 3 jI)(B:fA P w K mg base 1 "same_table" 1 z9)(I:mg "list" = cI)(J:mg "tuple" = cI)(O:mg "zip" = cI):fA P w K mg base 4 "back_of" 2 y6:=
 jB (N:=["p","table","many","same","base"]) D ⋯ λX S f U e d a g=>by subst S f U e d;exact by refine zc (zW a (zy (zD a) zh)) ?_;refine zc (zU (yu a (zy (zD a) zh) (zq a)) (zg (zu vE)) zC) ?_;refine zc (zW a (zy (PV.q (zJ B a (za (zq a) zf))) zh)) ?_;refine zc (zW a (PO.v (qp z a (za (zq a) (za (jy (zq a) (zq a)) (za (PO.v (ju a (n6.c (yA a ⋯ O (zy (zD a) zh) (zq a))) (λ_ _ _ b=>jy (zq b) (zq b)))) zf)))))) ?_;refine zc (zU (yu a (PO.v (ju a (zH (zD a)) (λ_ _ _ b=>Ze (zq b) jT (ji (zq b))))) (PO.v (W2 a ⋯ I (zD a)))) (zg (zu vE)) zC) ?_;exact(zg (zu (js (qe (za (zq a) (za (zq a) (za (jw a ⋯ J (PO.q (ju a (zH (zD a)) (λ_ _ _ b=>Ze (zq b) (ji (zq b)) jT)))) zf)))))))
theorem eA(D:ij K mg "barred" (top 55) ["row"])(z:fA P w K mg base 9 "all_grown" 1 xI)(B:fA P w K mg base 2 "columns" 2 j8)(I:fA P w K mg base 4 "back_of" 2 y6)(J:fA P w K mg base 2 "loads_in" 2 jN)(O:fA P w K mg base 1 "stretch_of" 1 jQ)(S:mg "enumerate" = cI):fA P w K mg base 10 "barred" 1 wK:=
 jB (N:=["row","bars","backs","turns"]) D ⋯ λX U f W e d a g=>by subst U f W e d;exact by refine zc (zW a (PO.v (qp z a (za (zq a) zf)))) ?_;refine zc (zZ 2 (xO a (n6.c (XB a ⋯ S (zy (zD a) zh))) (λ_ _ _ b=>zJ B b (za (zq b) (za (PO.v (qp J b (za (zq b) (za (zq b) zf)))) zf))))) ?_;refine zc (zZ 3 (xO a (zH (zD a)) (λ_ _ _ b=>zJ I b (za (zy (zD b) zh) (za (zq b) zf))))) ?_;exact(zg (zu (js (qe (za (PO.v (ju a (zH (zD a)) (λ_ _ _ b=>zJ O b (za (zq b) zf)))) (za (zq a) (za (zq a) zf)))))))
theorem XR(D:ij K mg "stretch_text" (top 150) ["stretch"]):fA P w K mg base 1 "stretch_text" 1 qg:=
 jB (N:=["stretch","i","j"]) D ⋯ λX z e B d b a f=>by subst z e B d b;exact by refine zc (zW a (zy (zD a) zh)) ?_;refine zc (zW a (zy (zD a) zh)) ?_;exact(zg (zu (yp (jL (vF rfl (zq a)) (jL zk (jL (vF rfl (zq a)) Zj))))))
theorem V3(D:ij K mg "bars_text" (top 153) ["row"])(z:fA P w K mg base 10 "barred" 1 wK)(B:fA P w K mg base 1 "stretch_text" 1 qg):fA P w K mg base 11 "bars_text" 1 xG:=
 jB (N:=["row","bars"]) D ⋯ λX I f J e d a g=>by subst I f J e d;exact by refine zc (zW a (zy (PV.q (zJ z a (za (zq a) zf))) zh)) ?_;exact(zg (zu (jE (JI (zD a)) (kn zk (PO.q (ju a (zH (zD a)) (λ_ _ _ b=>zJ B b (za (zq b) zf))))) zk)))
theorem aA(D:ij K mg "answered" (top 156) ["row","words"])(z:fA P w K mg base 11 "bars_text" 1 xG)(B:mg "str" = cI):fA P w K mg base 12 "answered" 2 xi:=
 jB (N:=["row","words","first"]) D ⋯ λX I f J e d a g=>by subst I f J e d;exact by refine zc (zW a (zy (zD a) zh)) ?_;refine zc (zU (jt a (zq a) zk) (zg (zu (zJ z a (za (zq a) zf)))) zC) ?_;refine zc (zU (jt a (zq a) zk) ku zC) ?_;refine zc (zU (jt a (zq a) zk) (zg (zu (kn zk (PO.q (ju a (zH (PV.q (zy (zD a) zh))) (λ_ _ _ b=>yn b ⋯ B (zq b))))))) zC) ?_;exact ku
theorem QP(D:ij K mg "is_arrow_word" (top 131) ["word"])(z:mg "all" = cI)(B:GL K mg "TABLE_SIGNS" (.str "0123456789/")):fA P w K mg base 1 "is_arrow_word" 1 j7:=
 jB (N:=["word"]) D ⋯ λX I f J e d a g=>by subst I f J e d;exact by refine zc (zU (ko (WS (Zf (zq a) jT (ji zh)) (Zf (zq a) (ji (Zg zh)) jT)) (PV.q (js (qe (za zk (za zk zf)))))) (zg (zu Xq)) zC) ?_;exact(zg (zu (yq a ⋯ z (PO.q (ju a (n6.c (XA (Zf (zq a) (ji zh) (ji (Zg zh))))) (λ_ _ _ b=>WR (zq b) (yo b ⋯ B)))))))
theorem QO(D:ij K mg "is_prime_word" (top 129) ["word"])(z:GL K mg "PRIMES" (.tup [.int 2,.int 3,.int 5,.int 7])):fA P w K mg base 1 "is_prime_word" 1 j6:=
 jB (N:=["word"]) D ⋯ λX B f I e d a g=>by subst B f I e d;exact zg (zu (Xp (zq a) (PO.q (ju a (zH (PV.q (yo a ⋯ z))) (λ_ _ _ b=>yp (jL (vF rfl (zq b)) (jL zk Zj)))))))
theorem QN(D:ij K mg "is_width_word" (top 130) ["word"])(z:mg "range" = cI)(B:mg "str" = cI)(I:GL K mg "MOST_TOGETHER" (.int 30)):fA P w K mg base 1 "is_width_word" 1 j5:=
 jB (N:=["word"]) D ⋯ λX J f O e d a g=>by subst J f O e d;exact zg (zu (Xp (zq a) (PO.q (ju a (n6.c (jO a ⋯ z (jy (yo a ⋯ I) zh))) (λ_ _ _ b=>yn b ⋯ B (zq b))))))
theorem ay(D:ij K mg "has_form" (top 132) ["place","word"])(z:fA P w K mg base 1 "is_arrow_word" 1 j7)(B:fA P w K mg base 1 "is_prime_word" 1 j6)(I:fA P w K mg base 1 "is_width_word" 1 j5):fA P w K mg base 2 "has_form" 2 kJ:=
 jB (N:=["place","word"]) D ⋯ λX J e O d b a f=>by subst J e O d b;exact by refine zc (zU (jt a (zq a) zh) (zg (zu (zJ B a (za (zq a) zf)))) zC) ?_;refine zc (zU (jt a (jY (zq a) zh) zh) (zg (zu (zJ I a (za (zq a) zf)))) zC) ?_;exact(zg (zu (zJ z a (za (zq a) zf))))
theorem K3(D:ij K mg "check_forms" (top 133) ["words"])(z:fA P w K mg base 2 "has_form" 2 kJ)(B:mg "enumerate" = cI)(I:mg "len" = cI):fA P w K mg base 3 "check_forms" 1 qy:=
 jB (N:=["words","place","word"]) D ⋯ λX J e O d b a f=>by subst J e O d b;exact by refine zc (kQ f a (Z8 a ⋯ B (zq a)) (zg (zU (jh (zY (zJ z a (za (zq a) (za (zq a) zf))))) (zg jG) zC))) ?_;exact(zg (zU (jt a (jY (jD a ⋯ I (zD a)) zh) zh) (zg jG) zC))
theorem au(D:ij K mg "is_whole" (top 18) ["x"])(B:mg "bool" = cI)(I:mg "int" = cI)(z:mg "isinstance" = cI):fA P w K mg base 1 "is_whole" 1 jn:=
 jB (N:=["x"]) D ⋯ λX J e O d b a f=>by subst J e O d b;exact zg (zu (vH (Xm a ⋯ z ⋯ I (zq a)) (vD (cZ (J8 a ⋯ z ⋯ B (zq a))))))
theorem YY(D:ij K mg "are_widths" (top 64) ["widths"])(z:fA P w K mg base 1 "is_whole" 1 jn)(B:mg "all" = cI)(I:mg "isinstance" = cI)(J:mg "len" = cI)(O:mg "list" = cI)(S:mg "sum" = cI)(U:mg "tuple" = cI)(W:GL K mg "MOST_ROOMS" (.int 6))(Y:GL K mg "MOST_TOGETHER" (.int 30)):fA P w K mg base 2 "are_widths" 1 qV:=
 jB (N:=["widths"]) D ⋯ λX e h d g f a i=>by subst e h d g f;exact by refine zc (zU (Z5 (Zc (jh (zY (Xo a ⋯ I ⋯ O ⋯ U (zq a)))) (ym (jh (Xt Qj Qj vz vz zh (jD a ⋯ J (zD a)) (yo a ⋯ W)))))) (zg (zu Xq)) zC) ?_;refine zc (zU (jh (zY (yq a ⋯ B (PO.q (ju a (zH (zD a)) (λ_ _ _ b=>vH (zJ z b (za (zq b) zf)) (vD (iX (zq b) zh)))))))) (zg (zu Xq)) zC) ?_;exact(zg (zu (iV (VF a ⋯ S (zD a)) (yo a ⋯ Y))))
theorem VW(D:ij K mg "widths_of" (top 65) ["widths"])(z:fA P w K mg base 2 "are_widths" 1 qV)(B:mg "tuple" = cI):fA P w K mg base 3 "widths_of" 1 xB:=
 jB (N:=["widths"]) D ⋯ λX I e J d b a f=>by subst I e J d b;exact by refine zc (zU (jh (zY (zJ z a (za (zq a) zf)))) (zg jG) zC) ?_;exact(zg (zu (jw a ⋯ B (zD a))))
theorem YV(D:ij K mg "figures_of" (top 134) ["line"])(z:mg "int" = cI):fA P w K mg base 1 "figures_of" 1 qS:=
 jB (N:=["line"]) D ⋯ λX B f I e d a g=>by subst B f I e d;exact zg (ja (ju a (n6.c (XA (zq a))) (λ_ _ _ b=>Z4 b ⋯ z (zq b))))
theorem VX(D:ij K mg "rows_read" (top 135) ["signs","high"])(z:fA P w K mg base 1 "figures_of" 1 qS):fA P w K mg base 2 "rows_read" 2 xC:=
 jB (N:=["signs","high"]) D ⋯ λX B f I e d a g=>by subst B f I e d;exact by refine zc (zU (Z5 (Xi (jt a (zq a) zk) (JE (jt a (zq a) zh)))) (zg (ja (jf (qe zf)))) zC) ?_;exact(zg (ja (ju a (zH (PO.q (k9 (zq a) zk))) (λ_ _ _ b=>PO.v (qp z b (za (zq b) zf))))))
theorem av(D:ij K mg "is_prime" (top 19) ["p"])(z:fA P w K mg base 1 "is_whole" 1 jn)(B:GL K mg "PRIMES" (.tup [.int 2,.int 3,.int 5,.int 7])):fA P w K mg base 2 "is_prime" 1 kH:=
 jB (N:=["p"]) D ⋯ λX I e J d b a f=>by subst I e J d b;exact zg (zu (vH (zJ z a (za (zq a) zf)) (vD (dg (zq a) (PV.q (yo a ⋯ B))))))
theorem bF(D:ij K mg "is_side" (top 22) ["many"])(z:fA P w K mg base 1 "is_whole" 1 jn)(B:GL K mg "MOST_HIGH_OR_WIDE" (.int 30)):fA P w K mg base 2 "is_side" 1 kf:=
 jB (N:=["many"]) D ⋯ λX I e J d b a f=>by subst I e J d b;exact zg (zu (vH (zJ z a (za (zq a) zf)) (vD (JH Qj Qj vz vz zh (zq a) (yo a ⋯ B)))))
theorem V2(D:ij K mg "is_listed" (top 23) ["things","many"])(z:mg "isinstance" = cI)(B:mg "len" = cI)(I:mg "list" = cI)(J:mg "tuple" = cI):fA P w K mg base 1 "is_listed" 2 jx:=
 jB (N:=["things","many"]) D ⋯ λX O e S d b a f=>by subst O e S d b;exact zg (zu (vH (Xo a ⋯ z ⋯ I ⋯ J (zq a)) (vD (iY a (jD a ⋯ B (zD a)) (zq a)))))
theorem bG(D:ij K mg "is_line" (top 24) ["wide","row"])(z:fA P w K mg base 1 "is_listed" 2 jx)(B:fA P w K mg base 1 "is_whole" 1 jn)(I:mg "all" = cI):fA P w K mg base 2 "is_line" 2 yY:=
 jB (N:=["wide","row"]) D ⋯ λX J f O e d a g=>by subst J f O e d;exact zg (zu (vH (zJ z a (za (zq a) (za (zq a) zf))) (vD (yq a ⋯ I (PO.q (ju a (zH (zD a)) (λ_ _ _ b=>zJ B b (za (zq b) zf))))))))
theorem ai(D:ij K mg "table_of" (top 25) ["p","high","wide","rows"])(B:fA P w K mg base 2 "is_prime" 1 kH)(z:fA P w K mg base 2 "is_side" 1 kf)(I:fA P w K mg base 1 "is_listed" 2 jx)(J:fA P w K mg base 1 "rests" 2 qh)(O:fA P w K mg base 2 "is_line" 2 yY)(S:mg "all" = cI)(U:mg "tuple" = cI):fA P w K mg base 3 "table_of" 4 kF:=
 jB (N:=["p","high","wide","rows"]) D ⋯ λX W f Y e d a g=>by subst W f Y e d;exact by refine zc (zU (jh (zY (zJ B a (za (zq a) zf)))) (zg jG) zC) ?_;refine zc (zU (Z5 (Zc (jh (zY (zJ z a (za (zq a) zf)))) (ym (jh (zY (zJ z a (za (zq a) zf))))))) (zg jG) zC) ?_;refine zc (zU (Z5 (Zc (jh (zY (zJ I a (za (zq a) (za (zq a) zf))))) (ym (jh (zY (yq a ⋯ S (PO.q (ju a (zH (zD a)) (λ_ _ _ b=>zJ O b (za (zq b) (za (zq b) zf))))))))))) (zg jG) zC) ?_;exact(zg (zu (js (qe (za (zq a) (za (zq a) (za (jw a ⋯ U (PO.q (ju a (zH (zD a)) (λ_ _ _ b=>zJ J b (za (zq b) (za (zq b) zf)))))) zf)))))))
theorem et(D:ij K mg "end_of" (top 61) ["k","way"]):fA P w K mg base 1 "end_of" 2 kg:=
 jB (N:=["k","way"]) D ⋯ λX z e B d b a f=>by subst z e B d b;exact zg (zu (jE (jt a (zq a) zk) (jy (zq a) zh) (zq a)))
theorem XU(D:ij K mg "beginning_of" (top 60) ["k","way"]):fA P w K mg base 1 "beginning_of" 2 qi:=
 jB (N:=["k","way"]) D ⋯ λX z e B d b a f=>by subst z e B d b;exact zg (zu (jE (jt a (zq a) zk) (zq a) (jy (zq a) zh)))
theorem az(D:ij K mg "arrow_of" (top 66) ["p","widths","k","pair"])(B:fA P w K mg base 3 "table_of" 4 kF)(I:fA P w K mg base 1 "is_listed" 2 jx)(J:fA P w K mg base 1 "end_of" 2 kg)(O:fA P w K mg base 1 "beginning_of" 2 qi)(S:GL K mg "WAYS" (.tup [.str "r",.str "l"])):fA P w K mg base 4 "arrow_of" 4 kK:=
 jB (N:=["p","widths","k","pair","way","table"]) D ⋯ λX U e W d b a f=>by subst U e W d b;exact by refine zc (zU (Z5 (Zc (jh (zY (zJ I a (za (zq a) (za zh zf))))) (ym (ko (zy (zD a) zh) (PV.q (yo a ⋯ S)))))) (zg jG) zC) ?_;refine zc (zW a (zy (zD a) zh)) ?_;refine zc (Yx (have z:=a.p7 (λ_ _=>False);yx 5 (z.set 5 ⋯ (zJ B z (za (zq z) (za (zy (zD z) (zJ J z (za (zq z) (za (zq z) zf)))) (za (zy (zD z) (zJ O z (za (zq z) (za (zq z) zf)))) (za (zy (zD z) zh) zf)))))))) ?_;exact(zg (zu (js (qe (za (zq a) (za (zq a) zf))))))
theorem V4(D:ij K mg "are_rests" (top 136) ["p","numbers"])(z:mg "all" = cI):fA P w K mg base 1 "are_rests" 2 xH:=
 jB (N:=["p","numbers"]) D ⋯ λX B f I e d a g=>by subst B f I e d;exact zg (zu (yq a ⋯ z (PO.q (ju a (zH (zD a)) (λ_ _ _ b=>iU (zq b) (zq b))))))
theorem YX(D:ij K mg "arrow_read" (top 137) ["p","widths","k","word"])(z:fA P w K mg base 2 "rows_read" 2 xC)(B:fA P w K mg base 4 "arrow_of" 4 kK)(I:fA P w K mg base 1 "end_of" 2 kg)(J:fA P w K mg base 1 "are_rests" 2 xH)(O:mg "all" = cI):fA P w K mg base 5 "arrow_read" 4 qU:=
 jB (N:=["p","widths","k","word","way","rows"]) D ⋯ λX S f U e d a g=>by subst S f U e d;exact by refine zc (zW a (jE (zY (Xk (zq a) zk)) zk zk)) ?_;refine zc (zW a (PO.v (qp z a (za (Zf (zq a) (ji zh) (ji (Zg zh))) (za (zy (zD a) (zJ I a (za (zq a) (za (zq a) zf)))) zf))))) ?_;refine zc (zU (jh (zY (yq a ⋯ O (PO.q (ju a (zH (zD a)) (λ_ _ _ b=>zJ J b (za (zq b) (za (zq b) zf)))))))) (zg jG) zC) ?_;exact(zg (zu (zJ B a (za (zq a) (za (zq a) (za (zq a) (za (js (qe (za (zq a) (za (zq a) zf)))) zf)))))))
theorem ak(D:ij K mg "row_read" (top 138) ["text"])(B:fA P w K mg base 3 "check_forms" 1 qy)(I:fA P w K mg base 3 "widths_of" 1 xB)(J:fA P w K mg base 5 "arrow_read" 4 qU)(O:mg "enumerate" = cI)(z:mg "int" = cI)(S:mg "tuple" = cI):fA P w K mg base 6 "row_read" 1 kG:=
 jB (N:=["text","words","p","widths","arrows"]) D ⋯ λX U f W e d a g=>by subst U f W e d;exact by refine zc (zW a (PO.v (k9 (zq a) zk))) ?_;refine zc (Yz (zJ B a (za (zq a) zf))) ?_;refine zc (zW a (Z4 a ⋯ z (Zf (zy (zD a) zh) jT (ji (Zg zh))))) ?_;refine zc (zW a (zJ I a (za (PO.v (ju a (zH (PO.q (VR (zD a) (ji zh) jT (ji zh)))) (λ_ _ _ b=>Z4 b ⋯ z (zq b)))) zf))) ?_;refine zc (zZ 4 (xO a (n6.c (Z8 a ⋯ O (PO.v (VR (zD a) (ji zh) jT (ji zh))))) (λ_ _ _ b=>zJ J b (za (zq b) (za (zq b) (za (zq b) (za (zq b) zf))))))) ?_;exact(zg (zu (js (qe (za (zq a) (za (zq a) (za (jw a ⋯ S (zD a)) zf)))))))
theorem YS(D:ij K mg "row_behind" (top 148) ["words"])(z:fA P w K mg base 6 "row_read" 1 kG):fA P w K mg base 7 "row_behind" 1 qQ:=
 jB (N:=["words"]) D ⋯ λX B e I d b a f=>by subst B e I d b;exact zg (zu (zJ z a (za (kn zk (PO.q (VQ (zD a) (ji zh) jT))) zf)))
theorem bK(D:ij K mg "changed" (top 152) ["row","words"])(z:fA P w K mg base 7 "row_behind" 1 qQ):fA P w K mg base 8 "changed" 2 ki:=
 jB (N:=["row","words","first","rooms"]) D ⋯ λX B e I d b a f=>by subst B e I d b;exact by refine zc (zW a (zy (zD a) zh)) ?_;refine zc (zU (jt a (zq a) zk) (zg (zu (zJ z a (za (zq a) zf)))) zC) ?_;exact ku
theorem YO(D:ij K mg "table_text" (top 126) ["table"])(z:mg "str" = cI):fA P w K mg base 1 "table_text" 1 qP:=
 jB (N:=["table"]) D ⋯ λX B g I f e a h=>by subst B g I f e;exact zg (zu (kn zk (PO.q (ju a (zH (PV.q (zy (zD a) zh))) (λ_ _ _ b=>kn zk (PO.q (ju b (zH (zD b)) (λ_ _ _ d=>yn d ⋯ z (zq d)))))))))
theorem YW(D:ij K mg "arrow_text" (top 127) ["arrow"])(z:fA P w K mg base 1 "table_text" 1 qP):fA P w K mg base 2 "arrow_text" 1 qT:=
 jB (N:=["arrow","table"]) D ⋯ λX B e I d b a f=>by subst B e I d b;exact by refine zc (zW a (zJ z a (za (zy (zD a) zh) zf))) ?_;exact(zg (zu (jE (jt a (zy (zD a) zh) zk) (yp (jL zk (jL (vF rfl (zq a)) (jL zk Zj)))) (yp (jL zk (jL (vF rfl (zq a)) (jL zk Zj)))))))
theorem aj(D:ij K mg "row_text" (top 128) ["row"])(B:fA P w K mg base 2 "arrow_text" 1 qT)(z:mg "str" = cI)(I:mg "zip" = cI):fA P w K mg base 3 "row_text" 1 xh:=
 jB (N:=["row","prime","words","arrow","width"]) D ⋯ λX J e O d b a f=>by subst J e O d b;exact by refine zc (zW a (zy (zD a) zh)) ?_;refine zc (yy a (jf (qe (za (yp (jL (vF rfl (zq a)) (jL zk Zj))) (za (yn a ⋯ z (zy (PV.q (zy (zD a) zh)) zh)) zf))))) ?_;refine zc (kQ f a (yA a ⋯ I (zy (zD a) zh) (Ze (zy (zD a) zh) (ji zh) jT)) (by refine zc (Z6 2 a ⋯ (zJ B a (za (zq a) zf))) ?_;exact(zg (Z6 2 a ⋯ (yn a ⋯ z (zq a)))))) ?_;exact(zg (zu (kn zk (zD a))))
theorem V1(D:ij K mg "_law_kinds" (top 160) ["_law_e"])(B:mg "ValueError" = cI)(z:mg "isinstance" = cI)(I:mg "range" = cI)(J:XI K mg "NoArrow")(O:XI K mg "NoLine")(S:XI K mg "NoPrime")(U:XI K mg "NoRoom")(W:XI K mg "NoRow")(Y:XI K mg "NoTable")(L:XI K mg "NoText")(Z:XI K mg "NoTurn")(a3:XI K mg "NoWidths")(a4:XI K mg "Nothing")(a5:XI K mg "Nought")(a6:XI K mg "TooMany")(a7:XI K mg "Unlike"):fA P w K mg base 1 "_law_kinds" 1 xF:=
 jB (N:=["_law_e","_law_told_here","_law_names"]) D ⋯ λX e h d g f a i=>by subst e h d g f;exact by refine zc (yy a (jf (qe (za (qk a ⋯ z ⋯ S (zq a)) (za (qk a ⋯ z ⋯ a5 (zq a)) (za (qk a ⋯ z ⋯ Y (zq a)) (za (qk a ⋯ z ⋯ a3 (zq a)) zf))))))) ?_;refine zc (yy a (qa (zD a) (PO.q (jf (qe (za (qk a ⋯ z ⋯ W (zq a)) (za (qk a ⋯ z ⋯ a7 (zq a)) (za (qk a ⋯ z ⋯ a6 (zq a)) (za (qk a ⋯ z ⋯ Z (zq a)) zf))))))))) ?_;refine zc (yy a (qa (zD a) (PO.q (jf (qe (za (qk a ⋯ z ⋯ O (zq a)) (za (qk a ⋯ z ⋯ a4 (zq a)) (za (qk a ⋯ z ⋯ J (zq a)) (za (qk a ⋯ z ⋯ L (zq a)) zf))))))))) ?_;refine zc (Z6 1 a ⋯ (qk a ⋯ z ⋯ U (zq a))) ?_;refine zc (by(with_reducible refine yx 2 ?_);(with_reducible refine SX.set a 2 ?hc ?_ (hs:=?hq));(case hc=>decide +kernel);(case hq=>rfl);(with_reducible refine PO.v ?_);(with_reducible refine jf ?_);(with_reducible refine zF zk ?_ (hs:=?hq));(case hq=>rfl);(with_reducible refine zF zk ?_ (hs:=?hq));(case hq=>rfl);(with_reducible refine zF zk ?_ (hs:=?hq));(case hq=>rfl);(with_reducible refine zF zk ?_ (hs:=?hq));(case hq=>rfl);(with_reducible refine zF zk ?_ (hs:=?hq));(case hq=>rfl);(with_reducible refine zF zk ?_ (hs:=?hq));(case hq=>rfl);(with_reducible refine zF zk ?_ (hs:=?hq));(case hq=>rfl);(with_reducible refine zF zk ?_ (hs:=?hq));(case hq=>rfl);(with_reducible refine zF zk ?_ (hs:=?hq));(case hq=>rfl);(with_reducible refine zF zk ?_ (hs:=?hq));(case hq=>rfl);(with_reducible exact wu)) ?_;refine zc (zW a (PO.v (qa (zD a) (PO.q (jf (qe (za zk (za zk (za zk zf))))))))) ?_;refine zc (zU (jh (zY (WQ a ⋯ z ⋯ B (zq a)))) (zg (ja (jf (qe (za zk zf))))) zC) ?_;exact(zg (WW 1 (ja (Qd a (n6.c (jO a ⋯ I zh)) (λ_ _ _ b=>zY (zy (zD b) (zq b))) (λ_ _ _ b=>zy (zD b) (zq b))))))
theorem gh{f C:eH}{J:o9}(z:L2.u5 K "__init__" "Desk.__init__" (aJ (top 157) 0) f J)(c:Dj K C):oT P w K mg base rb 1 f J ["self"] (cC C):=
 Vg (k:=0) z ⋯ c λX B e I d b a=>by subst B e I d b;exact j0<|VN (a.var ⋯) vM rfl
theorem gd{f C:eH}{L:o9}(z:L2.u5 K "tell" "Desk.tell" (aJ (top 157) 1) f L)(c:Dj K C)(B:fA P w K mg base 1 "is_desk_line" 1 jv)(I:fA P w K mg base 12 "answered" 2 xi)(J:fA P w K mg base 8 "changed" 2 ki)(O:fA P w K mg base 3 "row_text" 1 xh)(S:GL K mg "CHANGING_LINES" (.tup [.str "row",.str "beside",.str "cut",.str "mirror",.str "opposite",.str "about",.str "split"])):oT P w K mg base rb 13 f L ["self","line"] (cu K C KW):=
 Vf (k:=12) z ⋯ c λX U e W d b a=>by subst U e W d b;exact jF (a.set 2 ⋯<|PO.v<|k9 (zq a) zk)<|jF (Xw (jh<|zY<|zJ B a<|za (zq a) zf) yw kx)<|jF (Xw (PW.pt<|Xj (qI XO (Zl (a.var ⋯) rfl) vM<|qz _)<|Z3<|yu a (zy (zD a) zh) zk) yw kx)<|jF (Xw (ko (zy (zD a) zh)<|PV.q<|yo a ⋯ S) (j0<|xo<|XN I a<|zK (Zl (a.var ⋯) rfl)<|zK (zq a) jc) kx)<|jF (VN (a.var ⋯) (XN J a<|zK (Zl (a.var ⋯) rfl)<|zK (zq a) jc) rfl)<|j0<|xo<|XN O a<|zK (Zl (a.var ⋯) rfl) jc
theorem gc{f C:eH}{L:o9}(B:L2.u5 K "tell" "Desk.tell" (aJ (top 157) 1) f L)(c:Dj K C)(I:fA P w K mg base 1 "is_desk_line" 1 jv)(W:fA P w K mg base 12 "answered" 2 xi)(Y:fA P w K mg base 8 "changed" 2 ki)(Z:fA P w K mg base 3 "row_text" 1 xh)(J:XC K mg "NoLine")(O:XC K mg "Nothing"):oT P w K mg base (o8 P w) 13 f L ["self","line"] (iH K C KU):=
 Ve (k:=12) B ⋯ c λX S e U d b a=>by subst S e U d b;have z:=a.p7<|λ_ _=>False;exact⟨⟨_,_,_,_,_,_,_,_,rfl,(z.set 2 ⋯<|PO.v<|k9 (JF 1<|z.var ⋯) zk),jh<|zY<|dh I ⋯ z ⋯<|za (JF 2<|z.var ⋯) zf,JD z ⋯ J zk,PW.pt<|Xj (qI XO (Zl (z.var ⋯) rfl) vM<|qz _)<|Z3<|yu z (zy (VP 2<|z.var ⋯) zh) zk,JD z ⋯ O zk⟩⟩
theorem K1(D:ij K mg "_law_told" (top 161) ["_law_desk","_law_line"])(B:EU P w K mg base 13 CR KW KU)(I:fA P w K mg base 1 "_law_kinds" 1 xF)(J:XS K mg):Eu P w K mg base 14 "_law_told" CR zA:=
 aN (N:=["_law_desk","_law_line","_law_caught","_law_found","_law_e"]) D ⋯ rfl rfl λX O e S d b a U=>by subst O e S d b;have z:=a.p7 (λ_ _=>False);refine jF (a.set 2 ⋯ vM) (jF (a.set 3 ⋯ vM) (jF (WY B ⋯ a U ⋯ ⋯ ⋯ ⋯ ⋯ ⋯ J (z.var ⋯) (z.var ⋯)) ?_));unfold FP;refine zc (zU (Xs (JF 2 (a.var ⋯)) vE) (zg (k8 3 (a.var ⋯))) zC) ?_;exact zg (zu (zJ I a (za (zq a) zf)))
theorem nE(D:L2.u5 K "law" "law" (top 164) f fd)(I:fA P w K mg base 1 "_law_wrong" 0 qx)(J:fA P w K mg base 1 "_law_unkept" 0 qb)(O:fA P w K mg base 1 "_law_cell" 2 jg)(z:Eu P w K mg base 14 "_law_told" CR zA)(S:Fi P w K mg base CR)(B:mg "len" = cI)(U:mg "range" = cI):oT P w K mg base rb 15 f fd ["_law_script"] (u0 K 1 yX):=
 lH (N:=["_law_script","_law_wrong_here","_law_unkept_here","_law_k","_law_cell_here","_law_desk"]) D ⋯ λX W e Y d b a g=>by subst W e Y d b;exact by refine zc (zW a (VG I ⋯ a ⋯)) ?_;refine zc (zW a (VG J ⋯ a ⋯)) ?_;refine zc (kQ g a (jO a ⋯ U zh) (by refine zc (zW a (zJ O a (za (zq a) (za (zq a) zf)))) ?_;exact(Xu 5 (a.set 5 ⋯ (aa S ⋯ a ⋯)) (.cons (kP z ⋯ a ⋯ (a.var ⋯) (zy (zD a) (jY (zq a) (jD a ⋯ B (zD a)))) (PO.v (jf (qe (za zk zf))))) (j0 (xo Qh)) (.cons (kP z ⋯ a ⋯ (a.var ⋯) (zy (zD a) (jY (JG (zq a) zh) (jD a ⋯ B (zD a)))) (PO.v (jf (qe (za zk zf))))) (j0 (xo Qh)) (.cons (Xr (kP z ⋯ a ⋯ (a.var ⋯) zk (PO.v (jf (qe (za zk zf))))) (Z2 (kP z ⋯ a ⋯ (a.var ⋯) zk zk))) (j0 (xo Qh)) (.cons (Xr (kP z ⋯ a ⋯ (a.var ⋯) (zy (zD a) (jY (JG (zq a) zh) (jD a ⋯ B (zD a)))) (PO.v (jf (qe (za zk zf))))) (Z2 (kP z ⋯ a ⋯ (a.var ⋯) zk zk))) (j0 (xo Qh)) (.cons (Xr (kP z ⋯ a ⋯ (a.var ⋯) (zy (zD a) (jY (zq a) (jD a ⋯ B (zD a)))) (PO.v (jf (qe (za zk zf))))) (Z2 (kP z ⋯ a ⋯ (a.var ⋯) zk zk))) (j0 (xo Qh)) .nil)))))))) ?_;exact(zg (zu Xq))
end
end DL
namespace PySem.W.Fast
def tw16198575841882387243:=0
def tw11364658811516975762:=0
def tw14962457619508683155:=0
def tw2375897977620711514:=0
def tw472692519165998896:=0
def tw1196743121662175503:=0
def tw662993515916972192:=0
def tw10010213116909440074:=0
def tw16614153355935542692:=0
def tw1982798269142039748:=0
def tw18036905676751972088:=0
def tw5752781147136632266:=0
def tw11146599550590687344:=0
def tw18345017641448499814:=0
def tw9484480476793500709:=0
def tw658420581277769114:=0
def tw14494076225608753017:=0
def tw5490265486352673594:=0
def tw8091158112205707181:=0
def tw8017997872835058114:=0
def tw16572572780697145866:=0
def tw12388103735538827364:=0
def tw11625154476138802312:=0
def tw7968221291260067767:=0
def tw227852548776577865:=0
def tw4079188018241290486:=0
def tw2021511432865615326:=0
def tw10242549506936750291:=0
def tw16969574803264131199:=0
def tw8633443645473703615:=0
def tw1199891362686225765:=0
def tw2702061379533089173:=0
def tw13361477264190057185:=0
def tw2049475594125499039:=0
def tw13996878465879290148:=0
def tw109789671257488817:=0
def tw10484562759935371521:=0
def tw6025036809179658092:=0
def tw3923632314599062572:=0
def tw7562168290572543069:=0
def tw2137044687716311275:=0
def tw1455507924745134091:=0
def tw6396084774062578021:=0
def tw2889150807108218847:=0
def tw5550804437993951897:=0
def tw12930425621923517555:=0
def tw4711781491901210137:=0
def tw11998450110012930050:=0
def tw18214347295220511434:=0
def tw11705895997140510665:=0
def tw10297100695924922587:=0
def tw734556917509923160:=0
def tw9438759986134822363:=0
def tw15742776294943270575:=0
def tw9531839936917372049:=0
def tw18177544079643580707:=0
def tw13090183852345052391:=0
def tw5922573431437791318:=0
def tw2127838093971526774:=0
def tw18275722425368283801:=0
def tw4044218201352148121:=0
def tw6688687186756452497:=0
def tw5604765229624539567:=0
def tw10686423652483046637:=0
def tw12889424272461589164:=0
def tw13422161326026968153:=0
def tw7476551279139415259:=0
def tw15626448731864041030:=0
def tw12762779699795869050:=0
def tw7092705550891761110:=0
def tw8189190063090278913:=0
def tw5722792189996971491:=0
def tw11582366986100487057:=0
def tw6072266820676921972:=0
def tw17454802788607553572:=0
def tw5895026441458164373:=0
def tw16857561088054610936:=0
def tw7607244583053262847:=0
def tw2592331947078314873:=0
def tw4177163368104079811:=0
def tw3807053913611502627:=0
def tw11164372832581476555:=0
def tw17310261156970437291:=0
def tw18235286020594925743:=0
def tw8618632186987026396:=0
def tw9527766764996620403:=0
def tw12123797622966258066:=0
def tw10527895665154909741:=0
def tw7129888959845280877:=0
def tw7294267371946094904:=0
def tw2201616700424903321:=0
def tw16434393377628127832:=0
def tw1790309264733934024:=0
def tw3778193934322251285:=0
def tw1444516419033844967:=0
def tw12225486347866905145:=0
def tw8535627834164563079:=0
def tw4033652915091221368:=0
def tw10285636516244084904:=0
def tw12835104503307326930:=0
def tw4206823445859546847:=0
def tw8021703727785547128:=0
def tw14194442049458750994:=0
def tw12789148433912330862:=0
def tw11231770594627796100:=0
def tw12482100754030077369:=0
def tw2130577308274155759:=0
def tw10966892762580001351:=0
def tw362071339954456304:=0
def tw18430482547929927283:=0
def tw14542259212136042598:=0
def tw3196317337697331571:=0
def tw2186499559184593123:=0
def tw4798633954942014202:=0
def tw8413614294897181335:=0
def tw17366162976373064974:=0
def tw3969200739502216167:=0
def tw4657962056199709989:=0
def tw15496787869181293489:=0
def tw14475652138567875142:=0
def tw9709613671211671149:=0
def tw9214006098062871705:=0
def tw274207071961808462:=0
def tw16267822483360918107:=0
def tw2324948908587352021:=0
def tw4349759223214365796:=0
def tw9688411077593493670:=0
def tw15534976787270437928:=0
def tw15799955115785781801:=0
def tw8244845380508186707:=0
def tw1245861046760897074:=0
def tw153425601791627868:=0
def tw3780540291007620750:=0
def tw13127276184221106245:=0
def tw5621597475717367494:=0
def tw14622890820375045325:=0
def tw11789010141631143681:=0
def tw17872147858177966998:=0
def tw15633362963029121811:=0
def tw14034858226716255002:=0
def tw10767692546583424803:=0
def tw3625626291060756949:=0
def tw3728601050966595824:=0
def tw5091705273148099258:=0
def tw8693840888534973418:=0
def tw6030181107447637518:=0
def tw1407349601674775484:=0
def tw370589702462503533:=0
def tw6130569124440734950:=0
def tw8740379045373679880:=0
def tw10785883703038532681:=0
def tw5013990486998335417:=0
def tw5950301810555348037:=0
def tw6582021230770734961:=0
def tw11479474708135174954:=0
def tw3412849274806376402:=0
def tw8171541743204795874:=0
def tw6920230185152185895:=0
def tw15304135924943686952:=0
def tw5383929486577040184:=0
def tw8676343241298471803:=0
def tw17516174025164023511:=0
def tw15587875039225683258:=0
def tw11898402094639361192:=0
def tw15154086667916563969:=0
def tw16535065372637536773:=0
def tw4218904879626233025:=0
def tw17772463165570433299:=0
def tw55763827335675109:=0
def tw9203711713015468221:=0
def tw15989288160685927786:=0
def tw4304247945509592212:=0
def tw14280254780228859101:=0
def tw14529874233116307368:=0
def tw16155985583909274611:=0
def tw9068227173574257504:=0
def tw17280969308919056014:=0
def tw858988976582415778:=0
def tw9799279186117210771:=0
def tw3483525600215949343:=0
def tw10171908478742263835:=0
def tw3893420461558074449:=0
def tw9664570044456631770:=0
def tw12203912136930627651:=0
def tw11314496250717337671:=0
def tw15189719768308084412:=0
def tw14381043317394014698:=0
def tw9671666043329491727:=0
def tw9992941488277301016:=0
def tw3976742947904636398:=0
def tw17090489598677852401:=0
def tw5557346426835520136:=0
def tw11193772305795479611:=0
def tw16181024550500924683:=0
def tw8102370845581402772:=0
def tw11907846580722973921:=0
def tw10275411847264459404:=0
def tw6809538675035516165:=0
def tw893882539256177544:=0
def tw1239954991919474270:=0
def tw13901313719024582075:=0
def tw15701045601423176433:=0
def tw5512528255300835132:=0
def tw10197216150098151064:=0
def tw14423258256544461648:=0
def tw5489578868607250926:=0
def tw16013258042976093354:=0
def tw9496780644298766513:=0
def tw6856489737611253217:=0
def tw16966285910446742448:=0
def tw4533436128239225876:=0
def tw15884737694144978544:=0
def tw16400680429761314449:=0
def tw4652511166388676496:=0
def tw2693743184733876605:=0
def tw5455154000475152721:=0
def tw12486858929328060490:=0
def tw5100119448837725604:=0
def tw10258180945205706498:=0
def tw13743334081050274466:=0
def tw4057818854195095834:=0
def tw12273567636194650003:=0
def tw13930150009257761808:=0
def tw17870735662434018441:=0
def tw8192029365445233812:=0
def tw12834197991473518368:=0
def tw16458821019348864677:=0
def tw16493995635085688269:=0
def tw16227961823442179815:=0
def tw17307718276341859145:=0
def tw2785244941924159291:=0
def tw15319945014563708237:=0
def tw12667149203078961603:=0
def tw1082642424158740296:=0
def tw9406382607672538071:=0
def tw8519923823532391375:=0
def tw8934999809385788111:=0
def tw5235844154497574111:=0
def tw2212010291848631601:=0
def tw10500817576308320563:=0
def tw15120775629799192764:=0
def tw17420499341221609616:=0
def tw14171368742974810903:=0
def tw15368297410784284:=0
def tw9134478078076754307:=0
def tw11967506443380773992:=0
def tw6567936731049658257:=0
def tw1118350750654876648:=0
def tw12937930748116257319:=0
def tw8962920423249487112:=0
def tw12932076605477654181:=0
def tw15459306338709534810:=0
def tw929825731061137389:=0
def tw7464303871005964801:=0
def tw2889105410534480369:=0
def tw17710595925115053476:=0
def tw14642548678595602765:=0
def tw2127976353999845784:=0
def tw1878211616391288514:=0
def tw9805684172921312026:=0
def tw1345413454567727230:=0
def tw14629321407223837143:=0
def tw10462490019806676685:=0
def tw689375908899941965:=0
def tw16827369352162558780:=0
def tw888622818782873548:=0
def tw15656481502752308773:=0
def tw8100051347110890269:=0
def tw13106007856863385929:=0
def tw15842325717923792423:=0
def tw1182970464568721966:=0
def tw4318069603979342992:=0
def tw5564787055887359182:=0
def tw9985240605538894357:=0
def tw5752678684244711871:=0
def tw14169021328004103084:=0
def tw9725355312299366226:=0
def tw2938683553971642874:=0
def tw36029900055388421:=0
def tw1441559455202917077:=0
def tw13304961816380533501:=0
def tw12137349119864246051:=0
def tw16688191813565879838:=0
def tw8298807443084909197:=0
def tw5292497828915808669:=0
def tw15543308873179399797:=0
def tw3804655045562961377:=0
def tw1301069140227212464:=0
def tw2828504616141673823:=0
def tw389615143401731812:=0
def tw10050988853780498422:=0
def tw10369016934451890679:=0
def tw5382498615917782078:=0
def tw6499830570069010148:=0
def tw11343483700456606885:=0
def tw2652428870477095030:=0
def tw17173167996628499727:=0
def tw6862811659051957104:=0
def tw4871549762748196246:=0
def tw13736206717443501979:=0
def tw17913670963604975317:=0
def tw16160906599111780765:=0
def tw15882749919159679616:=0
def tw3645754195577283974:=0
def tw137018320747498043:=0
def tw9401837217936501269:=0
def tw5681874451841734216:=0
def tw15353583816595293576:=0
def tw12479298530765768975:=0
def tw11679405686250174260:=0
def tw3975162079337831708:=0
def tw17506203539017968659:=0
def tw13183060687314197741:=0
def tw11759901244052059901:=0
def tw10671894174141247458:=0
def tw978655323099024070:=0
def tw16258687498465962123:=0
def tw899143415775001656:=0
def tw10454704654622049868:=0
def tw5891658861712322261:=0
def tw6907975518504386857:=0
def tw2247910670584737833:=0
def tw7970727829009085544:=0
def tw4058877101433989192:=0
def tw537965360935285028:=0
def tw16172331938410379906:=0
def tw818597661437569060:=0
def tw2066089197621608794:=0
def tw2972154927364376922:=0
def tw7591900719836630310:=0
def tw13418134595503737718:=0
def tw13077156036791140724:=0
def tw15930501757324141932:=0
def tw7171177262115761490:=0
def tw2716392359685294019:=0
def tw16928699328524423511:=0
def tw13741601415216433115:=0
def tw18060294402708481175:=0
def tw8488235574790294074:=0
def tw17166701908055281004:=0
def tw16620651513552792439:=0
def tw2239063980094891095:=0
def tw14888215298155851628:=0
def tw13240338423526008325:=0
def tw7017107310007570751:=0
def tw14211352935341844862:=0
def tw12006279165449687329:=0
def tw8056832477671745060:=0
def tw2214471278344218065:=0
def tw13814409195160612476:=0
def tw16256584512541135058:=0
def tw14587761408445236141:=0
def tw7391187202717007996:=0
def tw4157079925970840124:=0
def tw9492071569641195978:=0
def tw9440702530022451226:=0
def tw8604827125745504346:=0
def tw7116547331769589572:=0
def tw5788884365798234031:=0
def tw156340231121703360:=0
def tw14105591299573663770:=0
def tw13359253247042849227:=0
def tw13285239764225450122:=0
def tw12480025048917318426:=0
def tw1243569186680916426:=0
def tw17463865346205325222:=0
def tw5251646216889947076:=0
def tw3152234745748108765:=0
def tw9064291495783221651:=0
def tw14024341997078600351:=0
def tw18109796720185687893:=0
def tw10080643571046538193:=0
def tw8446274501818757346:=0
def tw4662639744262957016:=0
def tw15324976164158038707:=0
def tw14887447979134905943:=0
def tw7127140430937122522:=0
def tw14648274566276619314:=0
def tw11809257721350212522:=0
def tw6282040586218231927:=0
def tw5394420917208678848:=0
def tw4217065868720754936:=0
def tw2740404661868241913:=0
def tw10113377004947473458:=0
def tw18343139839568682723:=0
def tw17989637289029600583:=0
def tw4181122098991296587:=0
def tw2592221837102160759:=0
def tw5484889289264531802:=0
def tw9358829142867978073:=0
def tw17162976070823903892:=0
def tw14674059343797071781:=0
def tw17012253691380147428:=0
def tw15361714699139943930:=0
def tw14667701774894715045:=0
def tw14152186946085830502:=0
def tw13160225469265898866:=0
def tw1291113544221710283:=0
def tw10988163014673504258:=0
def tw3870503449887412224:=0
def tw18234967291268392825:=0
def tw14548228865034875126:=0
def tw1345526416932263634:=0
def tw13354429591435753002:=0
def tw1240630110074911257:=0
def tw8805367897336372575:=0
def tw4584306180422527285:=0
def tw4163656806421497236:=0
def tw17400185393801775243:=0
def tw15909362025207605460:=0
def tw13375646838091389728:=0
def tw11860347989173396893:=0
def tw18231603353787964332:=0
def tw17988886153302861032:=0
def tw16836294479870697892:=0
def tw12750317061361267273:=0
def tw3053105908362904491:=0
def tw13586870045179123796:=0
def tw7953100257229771743:=0
def tw8040224640461855433:=0
def tw13748971772944690847:=0
def tw1847662507234331152:=0
def tw6089509650001689225:=0
def tw11965686758556607469:=0
def tw15104330677446077351:=0
def tw707301507229665312:=0
def tw4743514075889835549:=0
def tw17750448739191026266:=0
def tw2237026497907827918:=0
def tw10759309017655857873:=0
def tw9629300708561643229:=0
def tw4747681658482685572:=0
def tw7839206789070296180:=0
def tw7690111667727459291:=0
def tw6845645487132472371:=0
def tw16983749503516819199:=0
def tw15732388807845052236:=0
def tw12096142696543231595:=0
def tw11545117178745578101:=0
def tw18278016675421555098:=0
def tw7075312860702610862:=0
def tw6541456324732537762:=0
def tw7928400681769467145:=0
def tw7686951558770738045:=0
def tw5419134202478802514:=0
def tw3233617854040111457:=0
def tw15963943641850205952:=0
def tw15134722894510774559:=0
def tw13196785846591360518:=0
def tw12972416254405757318:=0
def tw10264109642377333983:=0
def tw8314444844081247898:=0
def tw441393868594213064:=0
def tw16491436266457886313:=0
def tw15168909980876702687:=0
def tw15372011878473049184:=0
def tw12269878244250786017:=0
def tw17203843484689638923:=0
def tw14201253168314387692:=0
def tw13186456673344491480:=0
def tw12948372027304821560:=0
def tw9910485832193276146:=0
def tw9902579099674929809:=0
def tw9708359674943034300:=0
def tw9541100379946292259:=0
def tw9030580124350508957:=0
def tw9015684408113207952:=0
def tw9009399090013924816:=0
def tw86001300980051450:=0
def tw858923980220277108:=0
def tw8374741924856698874:=0
def tw6664448179674028331:=0
def tw6621784454414429901:=0
def tw543401161924027232:=0
def tw486902286534967263:=0
def tw4344750365184063869:=0
def tw4105061116302267637:=0
def tw370980548171321753:=0
def tw2888902520124090174:=0
def tw2728117663106043966:=0
def tw2132469704177461047:=0
def tw18330010866087107473:=0
def tw18315899016092372312:=0
def tw18073999896046243272:=0
def tw17912215853688018051:=0
def tw16230051344425336385:=0
def tw15952733732115655567:=0
def tw1542940528554586159:=0
def tw14984729780083984575:=0
def tw14963405926372544466:=0
def tw14440184328551909720:=0
def tw13787910581094441745:=0
def tw1331225209300872016:=0
def tw12429944836633977945:=0
def tw12327015287636642564:=0
def tw12208128596141888805:=0
def tw11832548641721579242:=0
def tw11103794170626664278:=0
def tw10931193286455417975:=0
def tw998647915008304633:=0
def tw9957207620414775667:=0
def tw9573892190008592420:=0
def tw9347326606153946458:=0
def tw9096478906745356443:=0
def tw8986440353311038020:=0
def tw8978146104696627012:=0
def tw8752284072843904526:=0
def tw8659360770763245742:=0
def tw851927051020216312:=0
def tw8132489423381744424:=0
def tw7985618889688231887:=0
def tw797455864883253980:=0
def tw7759607489785448417:=0
def tw7493154554348047513:=0
def tw7195614562919388469:=0
def tw6650431676644580082:=0
def tw6564588281875655302:=0
def tw6560621666718454243:=0
def tw6411495344729171369:=0
def tw6291883448909969684:=0
def tw6198834962597281674:=0
def tw6162227977430915303:=0
def tw609927697240055462:=0
def tw6005670376976393646:=0
def tw5900101263259989868:=0
def tw5852828362579792829:=0
def tw5730960870120208591:=0
def tw5579704463101829062:=0
def tw5488812001141483810:=0
def tw5458270069676399811:=0
def tw5448143429814233711:=0
def tw5191202963365469203:=0
def tw5079163517064719941:=0
def tw4552083912729122474:=0
def tw4547417933578519159:=0
def tw448028318076569265:=0
def tw3697451564747179892:=0
def tw3675554297190598921:=0
def tw3592660641316489833:=0
def tw3296888450578608002:=0
def tw2778199728918184703:=0
def tw2607973775373191903:=0
def tw2588467140968836692:=0
def tw2466736956383372272:=0
def tw2461602693200023750:=0
def tw2236433165814957739:=0
def tw2213848234469884193:=0
def tw2076036562405735993:=0
def tw18176850796116581576:=0
def tw18033454836648420098:=0
def tw17829547886055667175:=0
def tw17717673144755538934:=0
def tw17637876632106333460:=0
def tw17356498219379640334:=0
def tw16608098088174061832:=0
def tw16582716443003764730:=0
def tw16525861580473817868:=0
def tw16491010246029218956:=0
def tw16444278609907552788:=0
def tw16009355389235208795:=0
def tw16001051370916010082:=0
def tw15956388723703006991:=0
def tw15690874769956389487:=0
def tw15578653466363807421:=0
def tw15477196193894575482:=0
def tw14621318832615758356:=0
def tw14440841649692947187:=0
def tw14345733186108773292:=0
def tw14308343569686804834:=0
def tw13285598056752027054:=0
def tw12925378648124831885:=0
def tw12896599721436475062:=0
def tw12718206136542317516:=0
def tw12675884778079751055:=0
def tw12307600537113798615:=0
def tw12026721542078404277:=0
def tw11983434122898883418:=0
def tw11936359932695402829:=0
def tw11861011691689571898:=0
def tw11858863916609383138:=0
def tw11755819121016341971:=0
def tw11679039290582409095:=0
def tw11670249449661450211:=0
def tw11659812154416558249:=0
def tw1161120618864986900:=0
def tw11586916914452148660:=0
def tw1151957267579654512:=0
def tw11015127634692119439:=0
def tw10875414794616478501:=0
def tw10864109118406859788:=0
def tw10766085721859517778:=0
def tw10733033425599958867:=0
def tw10392128402407514460:=0
def tw10131134962079344201:=0
def tw6688924458819861383:=0
def tw3175586045085589465:=0
def tw14665581111030207557:=0
def tw11854370325211024306:=0
def tw7758663375224665805:=0
def tw17514731197426036531:=0
def tw9454457867065538609:=0
def tw1936337948617762989:=0
def tw1898887002626913354:=0
def tw18365915190038081146:=0
def tw18002811430961418580:=0
def tw17015196057891220056:=0
def tw11505152352236729392:=0
def tw1049064508732910211:=0
def tw9797955967133533533:=0
def tw9608092621542589167:=0
def tw8067537705279700770:=0
def tw7407900446090608160:=0
def tw6097527060977502585:=0
def tw6091699753909091401:=0
def tw5453393919839976122:=0
def tw5092407728163271107:=0
def tw4323556506426274342:=0
def tw2894793878188591146:=0
def tw18210646101072881880:=0
def tw17977386451691021118:=0
def tw17748489404436825085:=0
def tw15815423951513993230:=0
def tw14251251415406949003:=0
def tw13964981442176375934:=0
def tw12677590445203776790:=0
def tw10832988460618637230:=0
def tw10394171087699597032:=0
def tw2157979494454935503:=0
def tw9007814942212170981:=0
def tw2310662836501896321:=0
def tw10388812295280546585:=0
def tw8767491061343442584:=0
def tw4671056403644055027:=0
def tw12411802869411397650:=0
def tw10815276426865020468:=0
def tw10744568876393186004:=0
def tw3237385613088769108:=0
def tw2939328744083748326:=0
def tw15631176487174082847:=0
def tw12421141073894481676:=0
def tw14521899060301082081:=0
def tw7633464969610350468:=0
def tw12208157258609335842:=0
def tw2922303655318336271:=0
def tw6215272693600523529:=0
def tw7329485822009228445:=0
def tw9365671204726068177:=0
def tw9062230106844443339:=0
def tw8974657721496098959:=0
def tw888081770548963924:=0
def tw8457580930783406953:=0
def tw8283646531067010841:=0
def tw7805705220879605056:=0
def tw7501114953890122769:=0
def tw6128835352007329443:=0
def tw4580778846673083897:=0
def tw17974900177490782447:=0
def tw16050337388863145140:=0
def tw15801714797529288747:=0
def tw10183251960557685469:=0
def tw2609784007040536151:=0
def tw10440138081615203622:=0
def tw9776869268501770906:=0
def tw9569357984208330589:=0
def tw9418566775063133781:=0
def tw9339171131799079278:=0
def tw9042083167526144508:=0
def tw7889489572023490959:=0
def tw6270525317653178090:=0
def tw4260697890739545411:=0
def tw4076701028507863326:=0
def tw3440881743250852021:=0
def tw3057154857409487074:=0
def tw2260571581334117670:=0
def tw2084695080680908340:=0
def tw18035004775088705566:=0
def tw13484150268173859800:=0
def tw13320968253796487320:=0
def tw13234401292692100704:=0
def tw9598158006779710748:=0
def tw8996129493133436556:=0
def tw7074199180029814321:=0
def tw5604175521875344297:=0
def tw3737856503390006268:=0
def tw2916314597553581717:=0
def tw17033353532346692069:=0
def tw16434597919326019835:=0
def tw15649598382790047931:=0
def tw15515474044451146743:=0
def tw15489394581649463954:=0
def tw1270210737286068941:=0
def tw11744220913370936762:=0
def tw10708576118849230728:=0
def tw10492650839030170284:=0
def tw14069079312353608754:=0
def tw10050202053450529555:=0
def tw10001227197220031683:=0
def tw7231272856363323184:=0
def tw6798111101190029209:=0
def tw6467681769770455947:=0
def tw5469897244173215195:=0
def tw3668508189025024621:=0
def tw3576098097232955597:=0
def tw3530076362495814910:=0
def tw2918759071332309350:=0
def tw2793012137615665993:=0
def tw14567793335285346429:=0
def tw1446072990390928820:=0
def tw13679391842155177337:=0
def tw1320849349845134785:=0
def tw12688632287444567436:=0
def tw12638477917676790483:=0
def tw12020180506898397479:=0
def tw11153932610167830438:=0
def tw10877838957560960381:=0
def tw10548085824538460647:=0
def tw6004261839613962588:=0
def tw9950366834070755141:=0
def tw9190891098252561376:=0
def tw6365662001831698141:=0
def tw6199023101755240729:=0
def tw3548497484273536901:=0
def tw2833268127428686240:=0
def tw16676794827688926787:=0
def tw15367442249578497902:=0
def tw9981841797851964219:=0
def tw9959419293414137325:=0
def tw9956960864023582891:=0
def tw9870817833795437571:=0
def tw9815676691724310503:=0
def tw9815421421743861493:=0
def tw9722405760007633551:=0
def tw9664460308346532082:=0
def tw9579028038435714834:=0
def tw9469292539451805004:=0
def tw9224529364709480808:=0
def tw9121886205143951440:=0
def tw9079919848209383259:=0
def tw9075517966662283661:=0
def tw901432911864267114:=0
def tw8967582575878751312:=0
def tw8925964717388006740:=0
def tw8862574647595093823:=0
def tw8787839783279096595:=0
def tw8776135203244680092:=0
def tw8768593197070821597:=0
def tw8720916302888608488:=0
def tw868625284759504955:=0
def tw8659894946340263642:=0
def tw8618644341239456563:=0
def tw8608751293366685895:=0
def tw8587467676404584433:=0
def tw8516516237881370259:=0
def tw8502213195974078353:=0
def tw8445135083216271918:=0
def tw8430395520027080173:=0
def tw8350116366933065138:=0
def tw832886311782750332:=0
def tw8323165456888243985:=0
def tw8180794269065686990:=0
def tw8107555356765309795:=0
def tw8041421160702934570:=0
def tw7978125919187905649:=0
def tw7963733119488128865:=0
def tw7914579703423882559:=0
def tw791068070337975770:=0
def tw7850552767194058091:=0
def tw7809947167694878578:=0
def tw7784879899374004193:=0
def tw7728210145524776048:=0
def tw7709057468402193869:=0
def tw7667883741587742851:=0
def tw7562368197184887115:=0
def tw7538878653159478064:=0
def tw7456914039315882113:=0
def tw7456657671548382984:=0
def tw7359078056745201498:=0
def tw7355024089691944572:=0
def tw7350110160033253700:=0
def tw7311949444774446171:=0
def tw7272118405155853890:=0
def tw7261472794308242510:=0
def tw7218579918591615341:=0
def tw7174490192494365544:=0
def tw7132861965651799094:=0
def tw7034450132361407807:=0
def tw7007778707087211148:=0
def tw7004953183788490932:=0
def tw6959122558778303645:=0
def tw6761583093365725561:=0
def tw6745381558782472415:=0
def tw672791685835480419:=0
def tw670794064774207520:=0
def tw6599169787253784432:=0
def tw6396590009708018587:=0
def tw6266338208765564489:=0
def tw6144003165826750340:=0
def tw6064584116582439342:=0
def tw5977957091058385136:=0
def tw5857628967320311059:=0
def tw5802707775514482870:=0
def tw5743760339188152202:=0
def tw5592787076874394352:=0
def tw5546515241206358855:=0
def tw5437685762996692543:=0
def tw540780878293739781:=0
def tw5379664847216448886:=0
def tw536304400647356372:=0
def tw5339075063154563131:=0
def tw5317284424935717929:=0
def tw5304471122424824986:=0
def tw5265061235679411532:=0
def tw5189311075202528228:=0
def tw5136662541385342229:=0
def tw506799926272066365:=0
def tw5020747152978451241:=0
def tw5014399526590995432:=0
def tw4978676317931193815:=0
def tw4973615451136367388:=0
def tw4932047600572226044:=0
def tw4876887823490290756:=0
def tw4748935490281612787:=0
def tw4743056638298628415:=0
def tw4727976033650546799:=0
def tw4693572020942920500:=0
def tw4690519460254218063:=0
def tw4662161054487936940:=0
def tw4347447558021360885:=0
def tw4346557402625075146:=0
def tw4273059063725504918:=0
def tw4233254173524643254:=0
def tw4231557225790060158:=0
def tw4001375864564928139:=0
def tw3926875387927396614:=0
def tw3753592133250448057:=0
def tw3726772549233706214:=0
def tw3630228816979854511:=0
def tw3623845315483665042:=0
def tw3614998405815478757:=0
def tw3526202782444025385:=0
def tw3495567915502263834:=0
def tw3472978198319650324:=0
def tw3430688807727289971:=0
def tw3310948693887848968:=0
def tw3306776230228644269:=0
def tw3300019238082340183:=0
def tw3249010066250598889:=0
def tw3073177913981529649:=0
def tw2711434044945946534:=0
def tw2693664001338993286:=0
def tw2626742098045458444:=0
def tw2622820908355772688:=0
def tw2583464809837148515:=0
def tw2566568138590388892:=0
def tw2472090595862227726:=0
def tw2401993085084857363:=0
def tw237134573538080439:=0
def tw2366729482899292174:=0
def tw231860808205953594:=0
def tw2290172138417024832:=0
def tw2236214090586898468:=0
def tw2062517945833485813:=0
def tw1880115275923864486:=0
def tw18429350796465749745:=0
def tw18370008968965900971:=0
def tw18369576000137208521:=0
def tw18343327741809582178:=0
def tw1819248519394891017:=0
def tw18179866412110315135:=0
def tw18107339106469386362:=0
def tw18055842781047107011:=0
def tw17909843678264752109:=0
def tw17887521905989179494:=0
def tw17793205950163676107:=0
def tw17726419276236186983:=0
def tw17566201501491360622:=0
def tw17513873576239739918:=0
def tw17464206929013802286:=0
def tw17370983235425472770:=0
def tw1724907927885112751:=0
def tw17218192407290576835:=0
def tw17196427393779037307:=0
def tw16969873603103658539:=0
def tw16921614347291665090:=0
def tw16821131985474244703:=0
def tw16691010709147658060:=0
def tw16689980002523910460:=0
def tw16559800793831525517:=0
def tw16534780064686480914:=0
def tw16427678135343536351:=0
def tw16425907729542641152:=0
def tw16424964077583687215:=0
def tw16389955832512011200:=0
def tw16254750572886479664:=0
def tw1614228539601890426:=0
def tw16029880203516747925:=0
def tw16007718399173824884:=0
def tw15927983265547525700:=0
def tw15920154250357743935:=0
def tw15837971443775614299:=0
def tw1583630145153640610:=0
def tw15834960634489148045:=0
def tw15768728497556863440:=0
def tw15687795490191733101:=0
def tw1567450741488116056:=0
def tw15557772635715662077:=0
def tw15301029033357763950:=0
def tw15268371230605365498:=0
def tw152081811194368552:=0
def tw15020252927487269220:=0
def tw15000896516110852463:=0
def tw14998162695124224131:=0
def tw14996496574653891541:=0
def tw14894389398912520943:=0
def tw14570888609769097143:=0
def tw14376736069434698788:=0
def tw14189896125539208005:=0
def tw14154642915935705059:=0
def tw14091366054860550441:=0
def tw1400449612266462658:=0
def tw13971764013062168875:=0
def tw13957489720285379936:=0
def tw13893384121720614581:=0
def tw13880592791927779248:=0
def tw13866986225875733938:=0
def tw13806631772392867623:=0
def tw13756930620513325019:=0
def tw13695792305823039398:=0
def tw1358719840107638319:=0
def tw13470716719754299528:=0
def tw13445780993597467594:=0
def tw13389440638600482986:=0
def tw13358495717497948726:=0
def tw13305672991408268355:=0
def tw13122542837550468731:=0
def tw12995545893247989047:=0
def tw12889433217173138003:=0
def tw12862877405449716233:=0
def tw12859990127644773935:=0
def tw12842891344639059124:=0
def tw12839443266400200927:=0
def tw12804902876145465540:=0
def tw12670844428282885137:=0
def tw12547863665135653993:=0
def tw12526739649397185146:=0
def tw12516965918761196771:=0
def tw12465912811666270357:=0
def tw12407522578971836020:=0
def tw1235563548812053294:=0
def tw12197472270037513727:=0
def tw12186117909075689055:=0
def tw12045993846785176803:=0
def tw1189710705090009673:=0
def tw11854899122197703805:=0
def tw11796308212968251075:=0
def tw11796151961931823231:=0
def tw11478005181609547308:=0
def tw11472152002458444943:=0
def tw1131129780686837390:=0
def tw11174554415942425850:=0
def tw11149919073153013156:=0
def tw11114911877430564398:=0
def tw11077725257177162415:=0
def tw10986353971308579955:=0
def tw10833732337830936168:=0
def tw10785281777014247070:=0
def tw10766128948384795534:=0
def tw10648889171000503183:=0
def tw10507831827300484934:=0
def tw10443127003004645148:=0
def tw10429646382575502551:=0
def tw10344945331404902818:=0
def tw10294737162486168074:=0
def tw10071837039296265735:=0
def tw1007110757429215558:=0
def tw10051270337315651478:=0
def tw10018210032493517924:=0
end PySem.W.Fast
open PySem PySem.W PyProof.Rows
set_option maxRecDepth 100000 in
set_option maxHeartbeats 0 in
theorem PySem.Challenge.cw_barsplit_k63_what_is_no_line_holds : PySem.Challenge.rw_barsplit_k63_what_is_no_line.Holds := by
 w_on;o_law;k_head;(case hw=>w_witness2)
 k_fill
 refine L2.fQ (l:=rQ) (n:=63) (k:=15) (x:="_law_script") (CX:=L2.rb) (sp:=λK=>DL.u0 K 1 DL.yX) rfl ⋯ rfl ⟨rfl,by decide,by decide⟩ (λw h Y=>PySem.W.kIn_of Y) ?F ?S ?C
 case S=>exact λK H a ns I hO hS=>DL.gC hS (DL.lr ns I)
 case C=>exact λ_ _ _ _ z=>z
 case F=>
  intro w mg fa h B G c0;have c1:mg "ValueError" = cI:=sy B G (by k_is);have a2:mg "all" = cI:=sy B G (by k_is);have b3:mg "any" = cI:=sy B G (by k_is);have c3:mg "bool" = cI:=sy B G (by k_is);have c4:mg "dict" = cI:=sy B G (by k_is);have a4:mg "enumerate" = cI:=sy B G (by k_is);have an:mg "int" = cI:=sy B G (by k_is);have a5:mg "isinstance" = cI:=sy B G (by k_is);have U:mg "len" = cI:=sy B G (by k_is);have ap:mg "list" = cI:=sy B G (by k_is);have c5:mg "min" = cI:=sy B G (by k_is);have a1:mg "range" = cI:=sy B G (by k_is);have c6:mg "sorted" = cI:=sy B G (by k_is);have a6:mg "str" = cI:=sy B G (by k_is);have b4:mg "sum" = cI:=sy B G (by k_is);have O:mg "tuple" = cI:=sy B G (by k_is);have a3:mg "zip" = cI:=sy B G (by k_is);have J:DL.Jr (L2.eT B)=cT:=by kernel_rfl
  have c7:DL.XI (L2.eT B) mg "NoArrow":=DL.oV B G J ⋯;have c8:DL.XI (L2.eT B) mg "NoLine":=DL.oV B G J ⋯;have c9:DL.XI (L2.eT B) mg "NoPrime":=DL.oV B G J ⋯;have ca:DL.XI (L2.eT B) mg "NoRoom":=DL.oV B G J ⋯;have cc:DL.XI (L2.eT B) mg "NoRow":=DL.oV B G J ⋯;have ce:DL.XI (L2.eT B) mg "NoTable":=DL.oV B G J ⋯;have ch:DL.XI (L2.eT B) mg "NoText":=DL.oV B G J ⋯;have ci:DL.XI (L2.eT B) mg "NoTurn":=DL.oV B G J ⋯;have cl:DL.XI (L2.eT B) mg "NoWidths":=DL.oV B G J ⋯;have cn:DL.XI (L2.eT B) mg "Nothing":=DL.oV B G J ⋯;have co:DL.XI (L2.eT B) mg "Nought":=DL.oV B G J ⋯;have cq:DL.XS (L2.eT B) mg:=DL.oU B G (by kernel_rfl);have cr:DL.XI (L2.eT B) mg "TooMany":=DL.oV B G J ⋯;have cs:DL.XI (L2.eT B) mg "Unlike":=DL.oV B G J ⋯;have ct:DL.XC (L2.eT B) mg "NoLine":=DL.oW B G J ⋯ (by kernel_rfl);have cv:DL.XC (L2.eT B) mg "Nothing":=DL.oW B G J ⋯ (by kernel_rfl);have cw:DL.GL (L2.eT B) mg "CHANGING_LINES" (.tup [.str "row",.str "beside",.str "cut",.str "mirror",.str "opposite",.str "about",.str "split"]):=by
   dsimp only[L2.eT];refine' DL.lD ["row","beside","cut","mirror","opposite","about","split"] B G ?a ?l ?v ?z
   (case a=>k_is);(case l=>k_is);(case v=>rfl);(case z=>decide)
  have cx:DL.GL (L2.eT B) mg "LINES_WITH_A_ROW" (.tup [.str "row",.str "beside",.str "ways",.str "upon",.str "alike"]):=by
   dsimp only[L2.eT];refine' DL.lD ["row","beside","ways","upon","alike"] B G ?a ?l ?v ?z
   (case a=>k_is);(case l=>k_is);(case v=>rfl);(case z=>decide)
  have cy:DL.GL (L2.eT B) mg "MOST_HIGH_OR_WIDE" (.int 30):=by
   dsimp only[L2.eT];refine' DL.nH B G ?a
   (case a=>k_is)
  have cz:DL.GL (L2.eT B) mg "MOST_ROOMS" (.int 6):=by
   dsimp only[L2.eT];refine' DL.nH B G ?a
   (case a=>k_is)
  have b5:DL.GL (L2.eT B) mg "MOST_TOGETHER" (.int 30):=by
   dsimp only[L2.eT];refine' DL.nH B G ?a
   (case a=>k_is)
  have b6:DL.GL (L2.eT B) mg "PRIMES" (.tup [.int 2,.int 3,.int 5,.int 7]):=by
   dsimp only[L2.eT];refine' DL.lE [2,3,5,7] B G ?a ?l ?v ?z
   (case a=>k_is);(case l=>k_is);(case v=>rfl);(case z=>decide)
  have d0:DL.En w (L2.eT B) mg "ROOMS_BEHIND" DL.E1:=by
   dsimp only[L2.eT];refine' DL.gD [("cut",_,2,_),("mirror",_,0,_),("opposite",_,0,_),("about",_,1,_),("split",_,0,_),("bars",_,0,_),("kept",_,2,_),("widths",_,0,_)] B G ?a ?l ?s ?e ?d ?z ?k
   (case a=>k_is)
   (case l=>k_is)
   (case s=>decide)
   (case e=>exact⟨rfl,rfl,rfl⟩)
   (case d=>rfl)
   (case z=>rfl)
   (case k=>rfl)
  have d1:DL.GL (L2.eT B) mg "ROOM_WORDS" (.tup [.str "0",.str "1",.str "2",.str "3",.str "4",.str "5"]):=by
   dsimp only[L2.eT];refine' DL.lD ["0","1","2","3","4","5"] B G ?a ?l ?v ?z
   (case a=>k_is);(case l=>k_is);(case v=>rfl);(case z=>decide)
  have d2:DL.GL (L2.eT B) mg "TABLE_SIGNS" (.str "0123456789/"):=by
   dsimp only[L2.eT];refine' DL.nG B G ?a
   (case a=>k_is)
  have d3:DL.GL (L2.eT B) mg "WAYS" (.tup [.str "r",.str "l"]):=by
   dsimp only[L2.eT];refine' DL.lD ["r","l"] B G ?a ?l ?v ?z
   (case a=>k_is);(case l=>k_is);(case v=>rfl);(case z=>decide)
  have DK:DL.FO (L2.eT B) mg (DL.aJ (DL.top 157) 0) (DL.aJ (DL.top 157) 1):=by
   dsimp only[L2.eT];refine' DL.lM B G ?nC ?iC ?mC ?uI ?uT ?vI ?vT ?w1 ?w2 ?z1 ?z2 ?b ?gI ?gT
   (case nC=>k_is)
   (case iC=>k_is)
   (case mC=>k_is)
   (case uI=>k_is)
   (case uT=>k_is)
   (case vI=>k_is)
   (case vT=>k_is)
   (case w1=>k_is)
   (case w2=>k_is)
   (case z1=>k_is)
   (case z2=>k_is)
   (case b=>kernel_rfl)
   (case gI=>intro _ _ _ _ _ _ us I;obtain⟨_,rfl⟩:=DL.rM I;rfl)
   (case gT=>intro _ _ _ _ _ _ us I;obtain⟨_,_,rfl⟩:=DL.rL I;rfl)
  have d5:DL.ij (L2.eT B) mg "_law_wrong" (DL.top 162) []:=by
   dsimp only[L2.eT];refine' DL.nO B G ?a ?l ?c ?k ?b
   (case a=>k_is);(case l=>k_is);(case c=>k_is);(case k=>k_is)
   (case b=>exact λ_ _ _ _ _ _ us I=>match us,I with | [],_=>rfl)
  have d6:DL.ij (L2.eT B) mg "_law_unkept" (DL.top 163) []:=by
   dsimp only[L2.eT];refine' DL.nO B G ?a ?l ?c ?k ?b
   (case a=>k_is);(case l=>k_is);(case c=>k_is);(case k=>k_is)
   (case b=>exact λ_ _ _ _ _ _ us I=>match us,I with | [],_=>rfl)
  have d7:DL.ij (L2.eT B) mg "_law_cell" (DL.top 159) ["_law_script","_law_k"]:=by
   dsimp only[L2.eT];refine' DL.nO B G ?a ?l ?c ?k ?b
   (case a=>k_is);(case l=>k_is);(case c=>k_is);(case k=>k_is)
   (case b=>intro _ _ _ _ _ _ us I;obtain⟨_,_,rfl⟩:=DL.rL I;rfl)
  have d8:DL.ij (L2.eT B) mg "is_desk_line" (DL.top 147) ["words"]:=by
   dsimp only[L2.eT];refine' DL.nO B G ?a ?l ?c ?k ?b
   (case a=>k_is);(case l=>k_is);(case c=>k_is);(case k=>k_is)
   (case b=>intro _ _ _ _ _ _ us I;obtain⟨_,rfl⟩:=DL.rM I;rfl)
  have d9:DL.ij (L2.eT B) mg "behind_noughts" (DL.top 35) ["many","base"]:=by
   dsimp only[L2.eT];refine' DL.nO B G ?a ?l ?c ?k ?b
   (case a=>k_is);(case l=>k_is);(case c=>k_is);(case k=>k_is)
   (case b=>intro _ _ _ _ _ _ us I;obtain⟨_,_,rfl⟩:=DL.rL I;rfl)
  have da:DL.ij (L2.eT B) mg "rests" (DL.top 20) ["p","numbers"]:=by
   dsimp only[L2.eT];refine' DL.nO B G ?a ?l ?c ?k ?b
   (case a=>k_is);(case l=>k_is);(case c=>k_is);(case k=>k_is)
   (case b=>intro _ _ _ _ _ _ us I;obtain⟨_,_,rfl⟩:=DL.rL I;rfl)
  have db:DL.ij (L2.eT B) mg "inverse" (DL.top 21) ["p","x"]:=by
   dsimp only[L2.eT];refine' DL.nO B G ?a ?l ?c ?k ?b
   (case a=>k_is);(case l=>k_is);(case c=>k_is);(case k=>k_is)
   (case b=>intro _ _ _ _ _ _ us I;obtain⟨_,_,rfl⟩:=DL.rL I;rfl)
  have dd:DL.ij (L2.eT B) mg "cleared" (DL.top 33) ["p","load","pivot","place"]:=by
   dsimp only[L2.eT];refine' DL.nO B G ?a ?l ?c ?k ?b
   (case a=>k_is);(case l=>k_is);(case c=>k_is);(case k=>k_is)
   (case b=>intro _ _ _ _ _ _ us I;obtain⟨_,_,_,_,rfl⟩:=DL.rJ I;rfl)
  have di:DL.ij (L2.eT B) mg "base_of" (DL.top 34) ["p","long","loads"]:=by
   dsimp only[L2.eT];refine' DL.nO B G ?a ?l ?c ?k ?b
   (case a=>k_is);(case l=>k_is);(case c=>k_is);(case k=>k_is)
   (case b=>intro _ _ _ _ _ _ us I;obtain⟨_,_,_,rfl⟩:=DL.rK I;rfl)
  have dj:DL.ij (L2.eT B) mg "turned_over" (DL.top 28) ["table"]:=by
   dsimp only[L2.eT];refine' DL.nO B G ?a ?l ?c ?k ?b
   (case a=>k_is);(case l=>k_is);(case c=>k_is);(case k=>k_is)
   (case b=>intro _ _ _ _ _ _ us I;obtain⟨_,rfl⟩:=DL.rM I;rfl)
  have dk:DL.ij (L2.eT B) mg "same_table" (DL.top 29) ["many"]:=by
   dsimp only[L2.eT];refine' DL.nO B G ?a ?l ?c ?k ?b
   (case a=>k_is);(case l=>k_is);(case c=>k_is);(case k=>k_is)
   (case b=>intro _ _ _ _ _ _ us I;obtain⟨_,rfl⟩:=DL.rM I;rfl)
  have dl:DL.ij (L2.eT B) mg "led_into" (DL.top 37) ["p","table","base"]:=by
   dsimp only[L2.eT];refine' DL.nO B G ?a ?l ?c ?k ?b
   (case a=>k_is);(case l=>k_is);(case c=>k_is);(case k=>k_is)
   (case b=>intro _ _ _ _ _ _ us I;obtain⟨_,_,_,rfl⟩:=DL.rK I;rfl)
  have dp:DL.ij (L2.eT B) mg "kernel" (DL.top 38) ["p","table"]:=by
   dsimp only[L2.eT];refine' DL.nO B G ?a ?l ?c ?k ?b
   (case a=>k_is);(case l=>k_is);(case c=>k_is);(case k=>k_is)
   (case b=>intro _ _ _ _ _ _ us I;obtain⟨_,_,rfl⟩:=DL.rL I;rfl)
  have dr:DL.ij (L2.eT B) mg "image" (DL.top 39) ["p","table"]:=by
   dsimp only[L2.eT];refine' DL.nO B G ?a ?l ?c ?k ?b
   (case a=>k_is);(case l=>k_is);(case c=>k_is);(case k=>k_is)
   (case b=>intro _ _ _ _ _ _ us I;obtain⟨_,_,rfl⟩:=DL.rL I;rfl)
  have dt:DL.ij (L2.eT B) mg "columns" (DL.top 46) ["high","loads"]:=by
   dsimp only[L2.eT];refine' DL.nO B G ?a ?l ?c ?k ?b
   (case a=>k_is);(case l=>k_is);(case c=>k_is);(case k=>k_is)
   (case b=>intro _ _ _ _ _ _ us I;obtain⟨_,_,rfl⟩:=DL.rL I;rfl)
  have dv:DL.ij (L2.eT B) mg "has_room" (DL.top 44) ["bar","room"]:=by
   dsimp only[L2.eT];refine' DL.nO B G ?a ?l ?c ?k ?b
   (case a=>k_is);(case l=>k_is);(case c=>k_is);(case k=>k_is)
   (case b=>intro _ _ _ _ _ _ us I;obtain⟨_,_,rfl⟩:=DL.rL I;rfl)
  have dy:DL.ij (L2.eT B) mg "loads_in" (DL.top 45) ["bars","room"]:=by
   dsimp only[L2.eT];refine' DL.nO B G ?a ?l ?c ?k ?b
   (case a=>k_is);(case l=>k_is);(case c=>k_is);(case k=>k_is)
   (case b=>intro _ _ _ _ _ _ us I;obtain⟨_,_,rfl⟩:=DL.rL I;rfl)
  have e3:DL.ij (L2.eT B) mg "lead_of" (DL.top 32) ["load"]:=by
   dsimp only[L2.eT];refine' DL.nO B G ?a ?l ?c ?k ?b
   (case a=>k_is);(case l=>k_is);(case c=>k_is);(case k=>k_is)
   (case b=>intro _ _ _ _ _ _ us I;obtain⟨_,rfl⟩:=DL.rM I;rfl)
  have e4:DL.ij (L2.eT B) mg "led" (DL.top 26) ["p","table","load"]:=by
   dsimp only[L2.eT];refine' DL.nO B G ?a ?l ?c ?k ?b
   (case a=>k_is);(case l=>k_is);(case c=>k_is);(case k=>k_is)
   (case b=>intro _ _ _ _ _ _ us I;obtain⟨_,_,_,rfl⟩:=DL.rK I;rfl)
  have e5:DL.ij (L2.eT B) mg "mixed_load" (DL.top 47) ["row","bars","times","room"]:=by
   dsimp only[L2.eT];refine' DL.nO B G ?a ?l ?c ?k ?b
   (case a=>k_is);(case l=>k_is);(case c=>k_is);(case k=>k_is)
   (case b=>intro _ _ _ _ _ _ us I;obtain⟨_,_,_,_,rfl⟩:=DL.rJ I;rfl)
  have e6:DL.ij (L2.eT B) mg "mixed" (DL.top 48) ["row","bars","times"]:=by
   dsimp only[L2.eT];refine' DL.nO B G ?a ?l ?c ?k ?b
   (case a=>k_is);(case l=>k_is);(case c=>k_is);(case k=>k_is)
   (case b=>intro _ _ _ _ _ _ us I;obtain⟨_,_,_,rfl⟩:=DL.rK I;rfl)
  have e7:DL.ij (L2.eT B) mg "settled" (DL.top 49) ["row","k","bars"]:=by
   dsimp only[L2.eT];refine' DL.nO B G ?a ?l ?c ?k ?b
   (case a=>k_is);(case l=>k_is);(case c=>k_is);(case k=>k_is)
   (case b=>intro _ _ _ _ _ _ us I;obtain⟨_,_,_,rfl⟩:=DL.rK I;rfl)
  have e8:DL.ij (L2.eT B) mg "solved" (DL.top 40) ["p","table","load"]:=by
   dsimp only[L2.eT];refine' DL.nO B G ?a ?l ?c ?k ?b
   (case a=>k_is);(case l=>k_is);(case c=>k_is);(case k=>k_is)
   (case b=>intro _ _ _ _ _ _ us I;obtain⟨_,_,_,rfl⟩:=DL.rK I;rfl)
  have e9:DL.ij (L2.eT B) mg "next_load" (DL.top 50) ["p","arrow","load"]:=by
   dsimp only[L2.eT];refine' DL.nO B G ?a ?l ?c ?k ?b
   (case a=>k_is);(case l=>k_is);(case c=>k_is);(case k=>k_is)
   (case b=>intro _ _ _ _ _ _ us I;obtain⟨_,_,_,rfl⟩:=DL.rK I;rfl)
  have ea:DL.ij (L2.eT B) mg "taken_on" (DL.top 51) ["p","arrow","bar"]:=by
   dsimp only[L2.eT];refine' DL.nO B G ?a ?l ?c ?k ?b
   (case a=>k_is);(case l=>k_is);(case c=>k_is);(case k=>k_is)
   (case b=>intro _ _ _ _ _ _ us I;obtain⟨_,_,_,rfl⟩:=DL.rK I;rfl)
  have eb:DL.ij (L2.eT B) mg "new_loads" (DL.top 52) ["p","arrow"]:=by
   dsimp only[L2.eT];refine' DL.nO B G ?a ?l ?c ?k ?b
   (case a=>k_is);(case l=>k_is);(case c=>k_is);(case k=>k_is)
   (case b=>intro _ _ _ _ _ _ us I;obtain⟨_,_,rfl⟩:=DL.rL I;rfl)
  have ee:DL.ij (L2.eT B) mg "grown" (DL.top 53) ["row","k","bars"]:=by
   dsimp only[L2.eT];refine' DL.nO B G ?a ?l ?c ?k ?b
   (case a=>k_is);(case l=>k_is);(case c=>k_is);(case k=>k_is)
   (case b=>intro _ _ _ _ _ _ us I;obtain⟨_,_,_,rfl⟩:=DL.rK I;rfl)
  have ef:DL.ij (L2.eT B) mg "stretch_of" (DL.top 43) ["bar"]:=by
   dsimp only[L2.eT];refine' DL.nO B G ?a ?l ?c ?k ?b
   (case a=>k_is);(case l=>k_is);(case c=>k_is);(case k=>k_is)
   (case b=>intro _ _ _ _ _ _ us I;obtain⟨_,rfl⟩:=DL.rM I;rfl)
  have eg:DL.ij (L2.eT B) mg "all_grown" (DL.top 54) ["row"]:=by
   dsimp only[L2.eT];refine' DL.nO B G ?a ?l ?c ?k ?b
   (case a=>k_is);(case l=>k_is);(case c=>k_is);(case k=>k_is)
   (case b=>intro _ _ _ _ _ _ us I;obtain⟨_,rfl⟩:=DL.rM I;rfl)
  have ei:DL.ij (L2.eT B) mg "back_of" (DL.top 41) ["p","table"]:=by
   dsimp only[L2.eT];refine' DL.nO B G ?a ?l ?c ?k ?b
   (case a=>k_is);(case l=>k_is);(case c=>k_is);(case k=>k_is)
   (case b=>intro _ _ _ _ _ _ us I;obtain⟨_,_,rfl⟩:=DL.rL I;rfl)
  have ej:DL.ij (L2.eT B) mg "barred" (DL.top 55) ["row"]:=by
   dsimp only[L2.eT];refine' DL.nO B G ?a ?l ?c ?k ?b
   (case a=>k_is);(case l=>k_is);(case c=>k_is);(case k=>k_is)
   (case b=>intro _ _ _ _ _ _ us I;obtain⟨_,rfl⟩:=DL.rM I;rfl)
  have ek:DL.ij (L2.eT B) mg "stretch_text" (DL.top 150) ["stretch"]:=by
   dsimp only[L2.eT];refine' DL.nO B G ?a ?l ?c ?k ?b
   (case a=>k_is);(case l=>k_is);(case c=>k_is);(case k=>k_is)
   (case b=>intro _ _ _ _ _ _ us I;obtain⟨_,rfl⟩:=DL.rM I;rfl)
  have el:DL.ij (L2.eT B) mg "bars_text" (DL.top 153) ["row"]:=by
   dsimp only[L2.eT];refine' DL.nO B G ?a ?l ?c ?k ?b
   (case a=>k_is);(case l=>k_is);(case c=>k_is);(case k=>k_is)
   (case b=>intro _ _ _ _ _ _ us I;obtain⟨_,rfl⟩:=DL.rM I;rfl)
  have em:DL.ij (L2.eT B) mg "answered" (DL.top 156) ["row","words"]:=by
   dsimp only[L2.eT];refine' DL.nO B G ?a ?l ?c ?k ?b
   (case a=>k_is);(case l=>k_is);(case c=>k_is);(case k=>k_is)
   (case b=>intro _ _ _ _ _ _ us I;obtain⟨_,_,rfl⟩:=DL.rL I;rfl)
  have en:DL.ij (L2.eT B) mg "is_arrow_word" (DL.top 131) ["word"]:=by
   dsimp only[L2.eT];refine' DL.nO B G ?a ?l ?c ?k ?b
   (case a=>k_is);(case l=>k_is);(case c=>k_is);(case k=>k_is)
   (case b=>intro _ _ _ _ _ _ us I;obtain⟨_,rfl⟩:=DL.rM I;rfl)
  have eo:DL.ij (L2.eT B) mg "is_prime_word" (DL.top 129) ["word"]:=by
   dsimp only[L2.eT];refine' DL.nO B G ?a ?l ?c ?k ?b
   (case a=>k_is);(case l=>k_is);(case c=>k_is);(case k=>k_is)
   (case b=>intro _ _ _ _ _ _ us I;obtain⟨_,rfl⟩:=DL.rM I;rfl)
  have ep:DL.ij (L2.eT B) mg "is_width_word" (DL.top 130) ["word"]:=by
   dsimp only[L2.eT];refine' DL.nO B G ?a ?l ?c ?k ?b
   (case a=>k_is);(case l=>k_is);(case c=>k_is);(case k=>k_is)
   (case b=>intro _ _ _ _ _ _ us I;obtain⟨_,rfl⟩:=DL.rM I;rfl)
  have eq:DL.ij (L2.eT B) mg "has_form" (DL.top 132) ["place","word"]:=by
   dsimp only[L2.eT];refine' DL.nO B G ?a ?l ?c ?k ?b
   (case a=>k_is);(case l=>k_is);(case c=>k_is);(case k=>k_is)
   (case b=>intro _ _ _ _ _ _ us I;obtain⟨_,_,rfl⟩:=DL.rL I;rfl)
  have er:DL.ij (L2.eT B) mg "check_forms" (DL.top 133) ["words"]:=by
   dsimp only[L2.eT];refine' DL.nO B G ?a ?l ?c ?k ?b
   (case a=>k_is);(case l=>k_is);(case c=>k_is);(case k=>k_is)
   (case b=>intro _ _ _ _ _ _ us I;obtain⟨_,rfl⟩:=DL.rM I;rfl)
  have eu:DL.ij (L2.eT B) mg "is_whole" (DL.top 18) ["x"]:=by
   dsimp only[L2.eT];refine' DL.nO B G ?a ?l ?c ?k ?b
   (case a=>k_is);(case l=>k_is);(case c=>k_is);(case k=>k_is)
   (case b=>intro _ _ _ _ _ _ us I;obtain⟨_,rfl⟩:=DL.rM I;rfl)
  have ev:DL.ij (L2.eT B) mg "are_widths" (DL.top 64) ["widths"]:=by
   dsimp only[L2.eT];refine' DL.nO B G ?a ?l ?c ?k ?b
   (case a=>k_is);(case l=>k_is);(case c=>k_is);(case k=>k_is)
   (case b=>intro _ _ _ _ _ _ us I;obtain⟨_,rfl⟩:=DL.rM I;rfl)
  have ew:DL.ij (L2.eT B) mg "widths_of" (DL.top 65) ["widths"]:=by
   dsimp only[L2.eT];refine' DL.nO B G ?a ?l ?c ?k ?b
   (case a=>k_is);(case l=>k_is);(case c=>k_is);(case k=>k_is)
   (case b=>intro _ _ _ _ _ _ us I;obtain⟨_,rfl⟩:=DL.rM I;rfl)
  have ey:DL.ij (L2.eT B) mg "figures_of" (DL.top 134) ["line"]:=by
   dsimp only[L2.eT];refine' DL.nO B G ?a ?l ?c ?k ?b
   (case a=>k_is);(case l=>k_is);(case c=>k_is);(case k=>k_is)
   (case b=>intro _ _ _ _ _ _ us I;obtain⟨_,rfl⟩:=DL.rM I;rfl)
  have ez:DL.ij (L2.eT B) mg "rows_read" (DL.top 135) ["signs","high"]:=by
   dsimp only[L2.eT];refine' DL.nO B G ?a ?l ?c ?k ?b
   (case a=>k_is);(case l=>k_is);(case c=>k_is);(case k=>k_is)
   (case b=>intro _ _ _ _ _ _ us I;obtain⟨_,_,rfl⟩:=DL.rL I;rfl)
  have f0:DL.ij (L2.eT B) mg "is_prime" (DL.top 19) ["p"]:=by
   dsimp only[L2.eT];refine' DL.nO B G ?a ?l ?c ?k ?b
   (case a=>k_is);(case l=>k_is);(case c=>k_is);(case k=>k_is)
   (case b=>intro _ _ _ _ _ _ us I;obtain⟨_,rfl⟩:=DL.rM I;rfl)
  have f2:DL.ij (L2.eT B) mg "is_side" (DL.top 22) ["many"]:=by
   dsimp only[L2.eT];refine' DL.nO B G ?a ?l ?c ?k ?b
   (case a=>k_is);(case l=>k_is);(case c=>k_is);(case k=>k_is)
   (case b=>intro _ _ _ _ _ _ us I;obtain⟨_,rfl⟩:=DL.rM I;rfl)
  have f3:DL.ij (L2.eT B) mg "is_listed" (DL.top 23) ["things","many"]:=by
   dsimp only[L2.eT];refine' DL.nO B G ?a ?l ?c ?k ?b
   (case a=>k_is);(case l=>k_is);(case c=>k_is);(case k=>k_is)
   (case b=>intro _ _ _ _ _ _ us I;obtain⟨_,_,rfl⟩:=DL.rL I;rfl)
  have f4:DL.ij (L2.eT B) mg "is_line" (DL.top 24) ["wide","row"]:=by
   dsimp only[L2.eT];refine' DL.nO B G ?a ?l ?c ?k ?b
   (case a=>k_is);(case l=>k_is);(case c=>k_is);(case k=>k_is)
   (case b=>intro _ _ _ _ _ _ us I;obtain⟨_,_,rfl⟩:=DL.rL I;rfl)
  have f5:DL.ij (L2.eT B) mg "table_of" (DL.top 25) ["p","high","wide","rows"]:=by
   dsimp only[L2.eT];refine' DL.nO B G ?a ?l ?c ?k ?b
   (case a=>k_is);(case l=>k_is);(case c=>k_is);(case k=>k_is)
   (case b=>intro _ _ _ _ _ _ us I;obtain⟨_,_,_,_,rfl⟩:=DL.rJ I;rfl)
  have f6:DL.ij (L2.eT B) mg "end_of" (DL.top 61) ["k","way"]:=by
   dsimp only[L2.eT];refine' DL.nO B G ?a ?l ?c ?k ?b
   (case a=>k_is);(case l=>k_is);(case c=>k_is);(case k=>k_is)
   (case b=>intro _ _ _ _ _ _ us I;obtain⟨_,_,rfl⟩:=DL.rL I;rfl)
  have f7:DL.ij (L2.eT B) mg "beginning_of" (DL.top 60) ["k","way"]:=by
   dsimp only[L2.eT];refine' DL.nO B G ?a ?l ?c ?k ?b
   (case a=>k_is);(case l=>k_is);(case c=>k_is);(case k=>k_is)
   (case b=>intro _ _ _ _ _ _ us I;obtain⟨_,_,rfl⟩:=DL.rL I;rfl)
  have f8:DL.ij (L2.eT B) mg "arrow_of" (DL.top 66) ["p","widths","k","pair"]:=by
   dsimp only[L2.eT];refine' DL.nO B G ?a ?l ?c ?k ?b
   (case a=>k_is);(case l=>k_is);(case c=>k_is);(case k=>k_is)
   (case b=>intro _ _ _ _ _ _ us I;obtain⟨_,_,_,_,rfl⟩:=DL.rJ I;rfl)
  have f9:DL.ij (L2.eT B) mg "are_rests" (DL.top 136) ["p","numbers"]:=by
   dsimp only[L2.eT];refine' DL.nO B G ?a ?l ?c ?k ?b
   (case a=>k_is);(case l=>k_is);(case c=>k_is);(case k=>k_is)
   (case b=>intro _ _ _ _ _ _ us I;obtain⟨_,_,rfl⟩:=DL.rL I;rfl)
  have fh:DL.ij (L2.eT B) mg "arrow_read" (DL.top 137) ["p","widths","k","word"]:=by
   dsimp only[L2.eT];refine' DL.nO B G ?a ?l ?c ?k ?b
   (case a=>k_is);(case l=>k_is);(case c=>k_is);(case k=>k_is)
   (case b=>intro _ _ _ _ _ _ us I;obtain⟨_,_,_,_,rfl⟩:=DL.rJ I;rfl)
  have fl:DL.ij (L2.eT B) mg "row_read" (DL.top 138) ["text"]:=by
   dsimp only[L2.eT];refine' DL.nO B G ?a ?l ?c ?k ?b
   (case a=>k_is);(case l=>k_is);(case c=>k_is);(case k=>k_is)
   (case b=>intro _ _ _ _ _ _ us I;obtain⟨_,rfl⟩:=DL.rM I;rfl)
  have fn:DL.ij (L2.eT B) mg "row_behind" (DL.top 148) ["words"]:=by
   dsimp only[L2.eT];refine' DL.nO B G ?a ?l ?c ?k ?b
   (case a=>k_is);(case l=>k_is);(case c=>k_is);(case k=>k_is)
   (case b=>intro _ _ _ _ _ _ us I;obtain⟨_,rfl⟩:=DL.rM I;rfl)
  have ft:DL.ij (L2.eT B) mg "changed" (DL.top 152) ["row","words"]:=by
   dsimp only[L2.eT];refine' DL.nO B G ?a ?l ?c ?k ?b
   (case a=>k_is);(case l=>k_is);(case c=>k_is);(case k=>k_is)
   (case b=>intro _ _ _ _ _ _ us I;obtain⟨_,_,rfl⟩:=DL.rL I;rfl)
  have fx:DL.ij (L2.eT B) mg "table_text" (DL.top 126) ["table"]:=by
   dsimp only[L2.eT];refine' DL.nO B G ?a ?l ?c ?k ?b
   (case a=>k_is);(case l=>k_is);(case c=>k_is);(case k=>k_is)
   (case b=>intro _ _ _ _ _ _ us I;obtain⟨_,rfl⟩:=DL.rM I;rfl)
  have fy:DL.ij (L2.eT B) mg "arrow_text" (DL.top 127) ["arrow"]:=by
   dsimp only[L2.eT];refine' DL.nO B G ?a ?l ?c ?k ?b
   (case a=>k_is);(case l=>k_is);(case c=>k_is);(case k=>k_is)
   (case b=>intro _ _ _ _ _ _ us I;obtain⟨_,rfl⟩:=DL.rM I;rfl)
  have g0:DL.ij (L2.eT B) mg "row_text" (DL.top 128) ["row"]:=by
   dsimp only[L2.eT];refine' DL.nO B G ?a ?l ?c ?k ?b
   (case a=>k_is);(case l=>k_is);(case c=>k_is);(case k=>k_is)
   (case b=>intro _ _ _ _ _ _ us I;obtain⟨_,rfl⟩:=DL.rM I;rfl)
  have g1:DL.ij (L2.eT B) mg "_law_kinds" (DL.top 160) ["_law_e"]:=by
   dsimp only[L2.eT];refine' DL.nO B G ?a ?l ?c ?k ?b
   (case a=>k_is);(case l=>k_is);(case c=>k_is);(case k=>k_is)
   (case b=>intro _ _ _ _ _ _ us I;obtain⟨_,rfl⟩:=DL.rM I;rfl)
  have g2:DL.ij (L2.eT B) mg "_law_told" (DL.top 161) ["_law_desk","_law_line"]:=by
   dsimp only[L2.eT];refine' DL.nO B G ?a ?l ?c ?k ?b
   (case a=>k_is);(case l=>k_is);(case c=>k_is);(case k=>k_is)
   (case b=>intro _ _ _ _ _ _ us I;obtain⟨_,_,rfl⟩:=DL.rL I;rfl)
  have g3:DL.ij (L2.eT B) mg "law" (DL.top 164) ["_law_script"]:=by
   dsimp only[L2.eT];refine' DL.nO B G ?a ?l ?c ?k ?b
   (case a=>k_is);(case l=>k_is);(case c=>k_is);(case k=>k_is)
   (case b=>intro _ _ _ _ _ _ us I;obtain⟨_,rfl⟩:=DL.rM I;rfl)
  obtain⟨f,fd,Fu,hb,hm⟩:=g3.ex;have e0:=c0.symm.trans hm;cases e0;refine⟨fd,λs u=> .of_eq (hb [u] rfl),λbase kb nb=>?_⟩;obtain⟨CR,fI,fT,dI,dT,q1,q2,q3,q4,q5,q6,q7,q8⟩:=DK.ex;have gn:DL.Fi (rQ).prog w (L2.eT B) mg base CR:=⟨fI,dI,q2,DL.gh q5 q3,q1,q7⟩;have go:DL.fA (rQ).prog w (L2.eT B) mg base 1 "_law_wrong" 0 DL.qx:=DL.V0 d5;have gq:DL.fA (rQ).prog w (L2.eT B) mg base 1 "_law_unkept" 0 DL.qb:=DL.YU d6;have gt:DL.fA (rQ).prog w (L2.eT B) mg base 1 "_law_cell" 2 DL.jg:=DL.ar d7 U c5 a1;have b8:DL.fA (rQ).prog w (L2.eT B) mg base 1 "is_desk_line" 1 DL.jv:=DL.XT d8 a2 U cx d0 d1;have gv:DL.fA (rQ).prog w (L2.eT B) mg base 1 "behind_noughts" 2 DL.jV:=DL.Ql d9 b3;have a8:DL.fA (rQ).prog w (L2.eT B) mg base 1 "rests" 2 DL.qh:=DL.gf da O;have h0:DL.fA (rQ).prog w (L2.eT B) mg base 1 "inverse" 2 DL.yZ:=DL.bH db a1;have h3:DL.fA (rQ).prog w (L2.eT B) mg base 2 "cleared" 4 DL.kh:=DL.bJ dd a8 a3;have a9:DL.fA (rQ).prog w (L2.eT B) mg base 3 "base_of" 3 DL.jI:=DL.bL di a8 h0 h3 a1;have as:DL.fA (rQ).prog w (L2.eT B) mg base 1 "turned_over" 1 DL.je:=DL.K0 dj a1 O;have ab:DL.fA (rQ).prog w (L2.eT B) mg base 1 "same_table" 1 DL.z9:=DL.YR dk a1 O;have b9:DL.fA (rQ).prog w (L2.eT B) mg base 4 "led_into" 3 DL.ql:=DL.aq dl gv a9 as ab a3;have bb:DL.fA (rQ).prog w (L2.eT B) mg base 5 "kernel" 2 DL.ke:=DL.eh dp b9;have bd:DL.fA (rQ).prog w (L2.eT B) mg base 4 "image" 2 DL.y0:=DL.gi dr a9 as;have ax:DL.fA (rQ).prog w (L2.eT B) mg base 2 "columns" 2 DL.j8:=DL.bI dt as U O;have b0:DL.fA (rQ).prog w (L2.eT B) mg base 1 "has_room" 2 DL.jz:=DL.aw dv U;have b1:DL.fA (rQ).prog w (L2.eT B) mg base 2 "loads_in" 2 DL.jN:=DL.ao dy b0;have ac:DL.fA (rQ).prog w (L2.eT B) mg base 1 "lead_of" 1 DL.jH:=DL.bE e3 a4;have be:DL.fA (rQ).prog w (L2.eT B) mg base 2 "led" 3 DL.KY:=DL.nD e4 a8 b4 a3;have h4:DL.fA (rQ).prog w (L2.eT B) mg base 3 "mixed_load" 4 DL.qR:=DL.YT e5 be ax b0 b1 a3;have h5:DL.fA (rQ).prog w (L2.eT B) mg base 4 "mixed" 3 DL.Jp:=DL.gg e6 ac h4 U a1 O;have h6:DL.fA (rQ).prog w (L2.eT B) mg base 6 "settled" 3 DL.yW:=DL.bD e7 b9 bb bd ax b1 h5 ac c4 a4;have h7:DL.fA (rQ).prog w (L2.eT B) mg base 4 "solved" 3 DL.wJ:=DL.ed e8 a9 ac O a3;have h8:DL.fA (rQ).prog w (L2.eT B) mg base 5 "next_load" 3 DL.xD:=DL.VY e9 be h7 b3;have h9:DL.fA (rQ).prog w (L2.eT B) mg base 6 "taken_on" 3 DL.kE:=DL.ah ea h8;have ha:DL.fA (rQ).prog w (L2.eT B) mg base 6 "new_loads" 2 DL.xE:=DL.VZ eb bb ac bd ab a4;have hc:DL.fA (rQ).prog w (L2.eT B) mg base 7 "grown" 3 DL.Jq:=DL.gj ee h6 h9 ha b0;have bg:DL.fA (rQ).prog w (L2.eT B) mg base 1 "stretch_of" 1 DL.jQ:=DL.YQ ef U;have hd:DL.fA (rQ).prog w (L2.eT B) mg base 9 "all_grown" 1 DL.xI:=DL.V5 eg hc bg ab U a1 c6;have he:DL.fA (rQ).prog w (L2.eT B) mg base 4 "back_of" 2 DL.y6:=DL.bM ei a9 ab ap O a3;have hf:DL.fA (rQ).prog w (L2.eT B) mg base 10 "barred" 1 DL.wK:=DL.eA ej hd ax he b1 bg a4;have hg:DL.fA (rQ).prog w (L2.eT B) mg base 1 "stretch_text" 1 DL.qg:=DL.XR ek;have hh:DL.fA (rQ).prog w (L2.eT B) mg base 11 "bars_text" 1 DL.xG:=DL.V3 el hf hg;have bi:DL.fA (rQ).prog w (L2.eT B) mg base 12 "answered" 2 DL.xi:=DL.aA em hh a6;have hj:DL.fA (rQ).prog w (L2.eT B) mg base 1 "is_arrow_word" 1 DL.j7:=DL.QP en a2 d2;have hk:DL.fA (rQ).prog w (L2.eT B) mg base 1 "is_prime_word" 1 DL.j6:=DL.QO eo b6;have hn:DL.fA (rQ).prog w (L2.eT B) mg base 1 "is_width_word" 1 DL.j5:=DL.QN ep a1 a6 b5;have ho:DL.fA (rQ).prog w (L2.eT B) mg base 2 "has_form" 2 DL.kJ:=DL.ay eq hj hk hn;have hp:DL.fA (rQ).prog w (L2.eT B) mg base 3 "check_forms" 1 DL.qy:=DL.K3 er ho a4 U;have am:DL.fA (rQ).prog w (L2.eT B) mg base 1 "is_whole" 1 DL.jn:=DL.au eu c3 an a5;have hq:DL.fA (rQ).prog w (L2.eT B) mg base 2 "are_widths" 1 DL.qV:=DL.YY ev am a2 a5 U ap b4 O cz b5;have hr:DL.fA (rQ).prog w (L2.eT B) mg base 3 "widths_of" 1 DL.xB:=DL.VW ew hq O;have hs:DL.fA (rQ).prog w (L2.eT B) mg base 1 "figures_of" 1 DL.qS:=DL.YV ey an;have ht:DL.fA (rQ).prog w (L2.eT B) mg base 2 "rows_read" 2 DL.xC:=DL.VX ez hs;have hu:DL.fA (rQ).prog w (L2.eT B) mg base 2 "is_prime" 1 DL.kH:=DL.av f0 am b6;have hv:DL.fA (rQ).prog w (L2.eT B) mg base 2 "is_side" 1 DL.kf:=DL.bF f2 am cy;have b2:DL.fA (rQ).prog w (L2.eT B) mg base 1 "is_listed" 2 DL.jx:=DL.V2 f3 a5 U ap O;have hx:DL.fA (rQ).prog w (L2.eT B) mg base 2 "is_line" 2 DL.yY:=DL.bG f4 b2 am a2;have hy:DL.fA (rQ).prog w (L2.eT B) mg base 3 "table_of" 4 DL.kF:=DL.ai f5 hu hv b2 a8 hx a2 O;have bl:DL.fA (rQ).prog w (L2.eT B) mg base 1 "end_of" 2 DL.kg:=DL.et f6;have hz:DL.fA (rQ).prog w (L2.eT B) mg base 1 "beginning_of" 2 DL.qi:=DL.XU f7;have i0:DL.fA (rQ).prog w (L2.eT B) mg base 4 "arrow_of" 4 DL.kK:=DL.az f8 hy b2 bl hz d3;have i1:DL.fA (rQ).prog w (L2.eT B) mg base 1 "are_rests" 2 DL.xH:=DL.V4 f9 a2;have i2:DL.fA (rQ).prog w (L2.eT B) mg base 5 "arrow_read" 4 DL.qU:=DL.YX fh ht i0 bl i1 a2;have i3:DL.fA (rQ).prog w (L2.eT B) mg base 6 "row_read" 1 DL.kG:=DL.ak fl hp hr i2 a4 an O;have i4:DL.fA (rQ).prog w (L2.eT B) mg base 7 "row_behind" 1 DL.qQ:=DL.YS fn i3;have bm:DL.fA (rQ).prog w (L2.eT B) mg base 8 "changed" 2 DL.ki:=DL.bK ft i4;have i5:DL.fA (rQ).prog w (L2.eT B) mg base 1 "table_text" 1 DL.qP:=DL.YO fx a6;have i6:DL.fA (rQ).prog w (L2.eT B) mg base 2 "arrow_text" 1 DL.qT:=DL.YW fy i5;have bn:DL.fA (rQ).prog w (L2.eT B) mg base 3 "row_text" 1 DL.xh:=DL.aj g0 i6 a6 a3;have i7:DL.fA (rQ).prog w (L2.eT B) mg base 1 "_law_kinds" 1 DL.xF:=DL.V1 g1 c1 a5 a1 c7 c8 c9 ca cc ce ch ci cl cn co cr cs;have i8:DL.EU (rQ).prog w (L2.eT B) mg base 13 CR DL.KW DL.KU:=⟨fT,dT,q3,q4,DL.gd q6 q3 b8 bi bm bn cw,DL.gc q6 q3 b8 bi bm bn ct cv,q8⟩;have i9:DL.Eu (rQ).prog w (L2.eT B) mg base 14 "_law_told" CR DL.zA:=DL.K1 g2 i8 i7 cq;exact DL.nE Fu go gq gt i9 gn U a1
