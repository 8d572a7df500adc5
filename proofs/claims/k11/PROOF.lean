import PyProof.Rows.All
import Wide.All
import OpenK.AllK
import Wide.FinOn
import Lean
import PyProof.EqAt
import PyProof.EqKinds
import PyProof.TupleCall
import PySem.Str
import PyProof.ZipIter
import PyProof.IsiBase
import KE.KItemsList
import KE.KIsAll
import OpenK.KOwn
import KE.KSortAsk
import PyProof.StrBlockI
import PyProof.Rows.EqDataRows
import PyProof.Rows.InDataRows
import PyProof.SumWalkG
import PyProof.ConsumeWalk
import PyProof.WalksMore
import KE.KSortTup
import PyProof.ListMulRoad
import PyProof.EnumFor
import PyProof.Rows.EnumRows
import PyProof.StrBlockL
import PyProof.JoinWalk
import PyProof.NsDelKeeps
import KE.KTryDeep
import PyProof.InstStoreFacts
import PyProof.NsCount
import PyProof.ExcClass2
import PyProof.Rows.FStr
import PyProof.StationsW
import PyProof.Rows.Catch
import KE.KRevIter
import PyProof.CollectIter
import PyProof.TupleOfGen
import PyProof.Rows.Tup
import PyProof.Draws
import PyProof.EnumMake
import PyProof.StrWalks
import PyProof.SliceStr2
import PyProof.ListNew
import KE.KDictOf
import PyProof.ListRange
import PyProof.Rows.GenSrcRange
import PyProof.ListCopy
import PyProof.AttrMissHeap
import PyProof.DictWalks
import PyProof.FactsDict
import KE.KSortKey
import PyProof.TableCode
import PyProof.Rows.KernelRfl
import PySem.Challenge.RW_barsplit_k11_no_row
open PySem.W renaming Frag → pv,kia_one → pV,mg_none_of → pZ,mroIn → rl,kitOne → rA,findIn → rB,hideAll → rP,hideAll_get → rZ,keepIn → sv,clsIn → sy,kia_tup → sC,typeIn → sJ,tail_of_in → sU,nsIn → sY,fnOf → sZ,cellsFrom_some → tv,kitx_dict → tJ,of_hideAll → uc,mg_of → ud,specialIn → uo,hideAll_none → uy,Looks → uB,looks_mroIn → uH,callWith_K → uN,tailIn → uR,nsOkIn → uS,codeIn → uT,kitx_list → uX,funFrames_hide → Ah,findCls → Ak,kitx_tuple → Ax,methodObj → AG,kitx_none → AH,kitx_bool → AI,plainGet → AS,kitx_str → AU,kitx_int → AV
open PySem renaming wpAny_bind → pw,wpAny_pure → pD,wpAny_mono → pJ,wpAny_holding → rk,wpAny_field → rY,wpAny_Call_Name_kw → sd,strLen_append → se,wpAny_newObj_type → sg,wpAny_loadPart_at → sh,wpAny_standAt → sk,wpAny_truthy_bool → sG,wpAny_execs_cons → sN,wpAny_callSpecial?_slot → sS,sizeLine_eq → tx,wpAny_call_entry → tH,wpAny_seqItems → tK,wpAny_loadPart' → tR,mem_of_lookup → tW,codeAny_call_builtin → ua,Builtin → ui,codeAny_mono → uq,wpAny_setField_rec → uw,pushCells_keeps → ux,wpAny_of_eq → uE,wpAny_call → uF,wpAny_Assign_Name → uG,wpAny_attempt → uW,wpAny_passesOwn → Ab,wpAny_execs_nil → Ac,call_meets → Ar,wpAny_typeOf → AF,wpAny_updateSeq_pair → AQ,list_append → AR,wpAny_setField → AY,Within → AZ,wpAny_isSubtype_exc → Bb,wpAny_onRaise → Bi,wpAny_rule → Bk,plainObj_wpAny_Assign_Attribute → Bl,concat_meets → Bm,wpAny_Try_except → Bn,noFill_tuple_add → Bo,Addr → cS,Value → eF,Shared → eM,model → fh,eval → fk,Heap → fy,Expr → f6,Pos → g9,Scope → hH,starEach → hX,World → h8,Stmt → h9,Program → iv,Env → i3,sizeLine → i6,Around → i7,Obj → l3,mainGlobals → n6,backTo → ow,compareOp → o9,cellsFrom → rb,relabel → ro,FuncData → sx,IsPair → tF,swapsWith → t6,foldedSetIterable → xA,spliced → yg,assign → Bp,IsZip → By,NameKind → Bz,binaryOp → BB,pushCells → BD,IsPart → BM,assignEach → BQ,behindInMarks → B8,bindC → B9,bindL → Ca,bootBuiltins → Cb,callerA → Cr,holding → Cs,getItem → CN,sliceBounds → CS,standAt → CT,BindsTo → CY,isTrue → De,letOwnedTupleGo → Df,newList → Dg,pyIter → Dj,pyNext → Dk,rawInt → Dl,Meets → DB,newFunctionEnv → DK,setField → DQ,typeLookup → DU,Keyword → DX,ZipApart → D2,attributeBase → D4,checkBuiltinCall → D7,lastMarks → Ed,swapsWithSole → En,sysModules → Eo,PassesOwn → EF,builtinsNs → EH,seqIndex_neg → EU,seqIndex_of → EV,seq_tuple_add → EW,setItem → EX,swappedStores → EZ,typeIs_int → Fb,wpAny_Name → Fc,firstArgMember → FC,wpAny_Tuple_spliced → F9,wpAny_assign_Name → Ga,wpAny_pyIter_list → Gb,wpAny_sequenceKey → Gc
open PySem.Challenge renaming rw_barsplit_k11_no_row → px
open PySem.Heap renaming get?_push_of_some → pA,lt_size → pE,get?_push_size → pS,get?_update_self → rJ,push → rQ,get?_update_other → rW,size_push → rX,FlyingW → si,HeldW → uf,SameBut → uA,get?_none_of_le → Aw,get?_update_ne → AE
open Bool renaming and_eq_true → pB,false_ne_true → pQ,or_eq_true → rC,not_eq_true' → sA,true → cI,false → dV
open List renaming getElem?_eq_getElem → pC,replicate → pF,getElem?_set_ne → pG,range → pK,size_toArray → pL,mem_cons → pM,length_map → pR,mem_cons_of_mem → pT,getElem?_eq_some_iff → pW,mem_append_right → pY,mem_cons_self → rh,getElem?_map → rm,getElem?_set_self → rn,not_mem_nil → rp,lookup_cons → rq,all_eq_true → rz,length_append → rE,eq_nil_of_length_eq_zero → rK,map_cons → rM,getElem?_append_right → rS,getElem?_append_left → sD,length_singleton → sF,length_take → sH,mem_of_getElem? → sL,replicate_succ → sR,mem_range → sW,mem_append → tf,map_map → tq,mem_singleton → tD,flatten_cons → tL,all_cons → tM,range_eq_range' → tP,drop_eq_getElem_cons → tU,range'_succ → tX,getElem_mem → tY,mem_filterMap → uk,getElem?_replicate → um,nodup_cons → uP,map_congr_left → uQ,mem_map → uZ,getD → Ag,length_drop → Al,length_cons → Am,take_of_length_le → Ap,drop_eq_nil_of_le → Aq,of_mem_zip → As,range' → AB,lookup → Dw,filterMap_cons → AD,any_cons → AN
open Nat renaming lt_of_lt_of_le → pH,le_refl → pN,ne_of_lt → pP,le_trans → rV,lt_succ_of_lt → sf,le_add_right → sI,lt_irrefl → sO,ne_of_gt → uh,lt_succ_self → uJ,zero_le → uU,le_of_lt → Bh
open PySem.Value renaming ref → pO,none → su,type → tZ,int → uL,bool → Ae
open PySem.NameKind renaming free → pU,cell → td
open Option.some renaming inj → pX
open PySem.Calls renaming spliced_cons → rd,spliced_nil → sP,Constant_str → uj,evalArgs_plain → uD,callWith_builtin → Ao
open Option renaming bind_some → rf,some → rL,isSome_iff_exists → rN,getD_some → uz,map → AM,getD_none → Ba,some → aI,none → bC
open PySem.Builtin.SmallTypes renaming nextOf → rj,ownedTupleIsFree → sE,ownedTupleHandOut → uV
open Ne renaming symm → rH
open PyProof.Rows renaming slot_tuple_getitem → rO,callWith_builtin1 → sj,boot_isinstance → tj,callWith_type1 → tu,joinParts_cons → uK,boot_tuple → uO,slot_tupleiter_next → Ad,tupleItemsOf_ → Au,AllBare → BE,envOfC → CJ,IsTup → C4,IntsAre → Dz,args_tuple_getitem → Fn,args_tupleiter_next → Fo,entry_tupleiter_next → Fw,subscriptTail_builtinR → F2
open False renaming elim → rR
open PySem.SeqAt renaming EqAt → rT
open PySem.Builtin.Tuple renaming tupleExact → so,tupleIsExact → tw
open Array renaming getElem?_setIfInBounds → sM,length_toList → Az,append_assoc → AK
open True renaming intro → sQ
open PySem.F renaming excBase_ValueError → sT,store_ValueError → sX,attr_ValueError → ue,slot_tuple_mul → uM,args_tuple_add_2 → uY,entry_tuple_add → Af,slot_tuple_add → Ai,slot_zip_next → Ay,args_list_append_2 → AJ,entry_list_append → AX,slot_list_append → Bf,args_tuple_mul_2 → Bg,entry_tuple_mul → Bj
open PySem.Sem renaming wp → sV
open PySem.PyData renaming depth → tm,eqv → ur,canLay0 → uv,eqvAll → AA,canLayAll0 → AL
open PySem.Builtin.Slice renaming slicePlaces → tE,sliceAdjust → uC
open PySem.Obj renaming mapFields → tN,data_mapFields → Aa,mapSeq → Be
open PySem.Str renaming ofString → ug
open ForInStep renaming yield → Aj
open Int renaming eq_ofNat_of_zero_le → An,emod_lt_of_pos → AW
open PySem.Value.ref renaming inj → Av
open PySem.Code renaming quiet_builtin → AO
open Sum renaming inr → Bc,inl → Bd
local macro_rules | `(⋯) => `(by first | decide +kernel | omega | simp)
set_option autoImplicit true
noncomputable section
set_option Elab.async false
set_option linter.all false
set_option maxRecDepth 100000
set_option maxHeartbeats 4000000
abbrev GQ:=PySem.Value->PySem.Shared->Prop
abbrev GW:=List (PySem.Addr×PySem.Obj)
abbrev GV:=Nat->Nat->Nat->Int
abbrev GK:=Nat->Nat->Int
abbrev GX:=Nat->Bool
abbrev GZ:=Nat->Nat
abbrev GJ:=PySem.Str->Option PySem.Value
theorem GY{c:Prop}{h:Decidable c}(z:c){α}{a b:α}:ite c a b=a:=if_pos z
theorem MQ{c:Prop}{h:Decidable c}(z:¬c){α}{a b:α}:ite c a b=b:=if_neg z
namespace L2
open PySem PySem.Spec PyProof.Rows
abbrev Key:=Sum Int Str
noncomputable def dc:Key->eF->Bool
 | .inl k,v=>Value.isInt k v
 | .inr x,v=>Value.isStrOf x v
noncomputable def oF(w:h8):Key->Int
 | .inl k=>hashInt k
 | .inr x=>hashStr w x
theorem jj : ∀{k:Key} {v:eF},dc k v=cI->(∃i t,k=Bd i/\v=uL i t)\/(∃x t,k=Bc x/\v=Value.str x t)
 | .inl i,v,h=>by obtain⟨t,e⟩:=Value.isInt_shape (k:=i) (v:=v) h;exact .inl ⟨i,t,rfl,e⟩
 | .inr x,v,h=>by obtain⟨t,e⟩:=Value.isStrOf_shape (x:=x) (v:=v) h;exact .inr ⟨x,t,rfl,e⟩
theorem cZ(a b:Int):decide ((Bd a:Key)=Bd b)=(a==b):=by
 by_cases e:a=b
 ·subst e;simp
 ·have h : ¬(Bd a:Key)=Bd b:=λq=>e (Bd.inj q)
  rw[decide_eq_false h];exact(beq_eq_false_iff_ne.mpr e).symm
theorem cW(a b:Str):decide ((Bc a:Key)=Bc b)=decide (a=b):=by
 by_cases e:a=b
 ·subst e;simp
 ·have h : ¬(Bc a:Key)=Bc b:=λq=>e (Bc.inj q)
  rw[decide_eq_false h,decide_eq_false e]
theorem cY(a:Int)(b:Str):decide ((Bd a:Key)=Bc b)=dV:=decide_eq_false<|λq=>nomatch q
theorem cX(a:Str)(b:Int):decide ((Bc a:Key)=Bd b)=dV:=decide_eq_false<|λq=>nomatch q
noncomputable def ZK(prog:iv)(w:h8):PySem.KeyKind prog w Key where
 is:=dc
 hash:=oF w
 inj:=λv a b ha B=>by
  rcases jj ha with⟨i,t,rfl,rfl⟩ | ⟨x,t,rfl,rfl⟩
  ·rcases jj B with⟨j,u,rfl,e⟩ | ⟨y,u,rfl,e⟩
   ·injection e with e1 _;rw[e1]
   ·exact nomatch e
  ·rcases jj B with⟨j,u,rfl,e⟩ | ⟨y,u,rfl,e⟩
   ·exact nomatch e
   ·injection e with e1 _;rw[e1]
 byValue:=λk v h=>by rcases jj h with⟨i,t,rfl,rfl⟩ | ⟨x,t,rfl,rfl⟩<;>rfl
 pyHash:=λz h=>by
  rcases jj z with⟨i,t,rfl,rfl⟩ | ⟨x,t,rfl,rfl⟩
  ·exact wpAny_pyHash_int h
  ·exact wpAny_pyHash_str h
 eqBool:=λI z h=>by
  rcases jj I with⟨i,t,rfl,rfl⟩ | ⟨x,t,rfl,rfl⟩
  ·rcases jj z with⟨j,u,rfl,rfl⟩ | ⟨y,u,rfl,rfl⟩
   ·rw[cZ]at h;exact wpAny_eqBool_int h
   ·rw[cY]at h;exact rT.int_str i t y u _ _ _ _ h
  ·rcases jj z with⟨j,u,rfl,rfl⟩ | ⟨y,u,rfl,rfl⟩
   ·rw[cX]at h;exact rT.str_int x t j u _ _ _ _ h
   ·rw[cW]at h;exact wpAny_eqBool_str h
 «strs» :=λk x t v h=>by
  rcases jj h with⟨i,u,rfl,e⟩ | ⟨y,u,rfl,e⟩
  ·exact nomatch e
  ·injection e with e1 _
   subst e1;cases v<;>rfl
inductive V where
 | g8 | bl (b:Bool) | int (i:Int) | str (x:Str) | D5 (b:Array UInt8) | CM (b:UInt64) | ref (a:cS) | ty (n:String)
 deriving DecidableEq
noncomputable def RelV:V->eF->Prop
 | .g8,u=>u=su
 | .bl b,u=>u=Ae b
 | .int i,u=>∃t,u=uL i t
 | .str x,u=>∃t,u=Value.str x t
 | .D5 b,u=>∃t,u=Value.bytes b t
 | .CM b,u=>∃t,u=Value.float b t
 | .ref a,u=>u=pO a
 | .ty n,u=>u=tZ n
abbrev hA:List V->List eF->Prop:=Paired RelV
theorem hA.length(r:hA xs us):xs.length=us.length:=Paired.length r
theorem hA.get : ∀{xs:List V} {z:List eF} {i:Nat} {x:V},hA xs z->xs[i]? = aI x->∃u,z[i]? = aI u/\RelV x u
 | _,_,_,_,.nil,e=>by simp at e
 | _,_,0,_,.cons r _,e=>by simp at e;subst e;exact⟨_,rfl,r⟩
 | _,_,i+1,x,.cons _ t,e=>by obtain⟨u,a,b⟩:=hA.get (i:=i) (x:=x) t (by simpa using e);exact⟨u,by simpa using a,b⟩
theorem hA.set(r:RelV x u) : ∀{xs:List V} {z:List eF} (i:Nat),hA xs z->hA (xs.set i x) (z.set i u)
 | _,_,_,.nil=> .nil
 | _,_,0,.cons _ t=> .cons r t
 | _,_,i+1,.cons q t=> .cons q (hA.set r i t)
theorem hA.append : ∀{xs B:List V} {z ws:List eF},hA xs z->hA B ws->hA (xs++B) (z++ws)
 | _,_,_,_,.nil,s=>s
 | _,_,_,_,.cons r t,s=> .cons r (hA.append t s)
theorem hA.take : ∀{xs:List V} {z:List eF} (n:Nat),hA xs z->hA (xs.take n) (z.take n)
 | _,_,0,_=> .nil
 | _,_,_+1,.nil=> .nil
 | _,_,n+1,.cons r t=> .cons r (hA.take n t)
theorem hA.drop : ∀{xs:List V} {z:List eF} (n:Nat),hA xs z->hA (xs.drop n) (z.drop n)
 | _,_,0,r=>r
 | _,_,_+1,.nil=> .nil
 | _,_,n+1,.cons _ t=>hA.drop n t
noncomputable def lY:Option V->Option eF->Prop
 | some v,aI u=>RelV v u
 | none,bC=>True
 | _,_=>False
noncomputable def KV{z:Type}:List (z×V)->List (z×eF)->Prop:=Paired λ(p:z×V) (q:z×eF)=>p.1=q.1/\RelV p.2 q.2
def kV:Key->V
 | .inl i=> .int i
 | .inr x=> .str x
inductive HO where
 | lst (xs:List V)
 | tup (xs:List V)
 | dK (BX:List (Key×V)) | dT (BX:List (List Key×V))
 | set (S:Int->Bool) (n:Nat)
 | ins (C dx:cS) (fs:List (Str×V))
 | own (x:cS)
 | xd (fs:List (Str×V))
 | met (f x:cS)
 | DP (lo hi:Int)
 | t9 (o:l3) (u:HO)
 | Ci (ps:Array eF)
 | ext (φ:fy->Prop)
abbrev Hp:=cS->Option HO
def upd(H:Hp)(a:cS)(o:HO):Hp:=λb=>if b=a then aI o else H b
theorem zq:upd H a o a=aI o:=by unfold upd;rw[GY rfl]
theorem zo(h:b≠a):upd H a o b=H b:=by unfold upd;rw[MQ h]
theorem Zs{H:Hp}{a:cS}{o u:HO}:upd (upd H a o) a u=upd H a u:=by funext b;unfold upd;split<;>rfl
theorem zD{H:Hp}{a b:cS}{o:HO}(h:H a=aI o)(h':H b=bC):a≠b:=by intro e;subst e;rw[h]at h';cases h'
noncomputable def BH(h:fy)(a:cS)(z:Array eF):Prop:=∃o,h.get? a=aI o/\(o.cls,o.dict)=(tZ "tuple",bC)/\∃n,o.data = .seq z n
theorem BH.new(h:fy)(z:Array eF):BH (h.push {cls:= .type "tuple",data:= .seq z}) h.objs.size z:=⟨_,pS _ rfl,rfl,_,rfl⟩
theorem BH.tup(x:BH h a items):C4 h a items:=let ⟨o,e,c,r⟩:=x;⟨o,e,(Prod.mk.inj c).1,r⟩
section
variable(P:iv)(w:h8)
noncomputable def i8(H:Hp)(h:fy)(a:cS):HO->Prop
 | .lst d=>d.length<=i6/\∃(z:List eF) (n:Nat),hA d z/\h.get? a=aI {cls:= .type "list",data:= .seq z.toArray n}
 | .tup d=>d.length<=i6/\∃z:List eF,hA d z/\BH h a z.toArray
 | .dK b=>b.length<=i6/\(a==Eo)=dV/\∃l,KV b l/\h.DictOf (ZK P w) a l
 | .dT b=>b.length<=i6/\(a==Eo)=dV/\∃d:List (List Key×cS×eF),
  Paired (λ(p:List Key×V) (q:List Key×cS×eF)=>p.1=q.1/\H q.2.1=aI (.tup<|p.1.map kV)/\RelV p.2 q.2.2) b d/\
  ∃o i B,h.get? a=aI o/\o.ExactDict/\o.data = .dict i B/\i.toList=d.map (entryOfKey<|tupleKind<|ZK P w)/\(d.map (·.1)).Nodup
 | .set S n=>h.SetOf (intKind P w) a S n
 | .ins C e fs=>H e=aI (.own a)/\fs.length<=1000/\e≠a/\h.get? a=aI (PySem.W.instObj C e)/\
  ∃mA,h.Ns1 e mA/\(∀f,lY (fs.lookup f)<|mA f)/\AZ mA (fs.map (·.1))
 | .own _=>∃o,h.get? a=aI o
 | .xd fs=>∃mA,h.Ns1 a mA/\∀f,lY (fs.lookup f)<|mA f
 | .DP lo m=>∃t u v,h.get? a=aI {cls:= .type "range",data:= .fields #[.int lo t,.int m u,.int 1 v]}
 | .t9 o u=>h.get? a=aI o/\i8 H h a u
 | .Ci r=>h.get? a=aI {cls:= .none,data:= .fields r}
 | .met f x=>h.get? a=aI (AG (.ref f)<|.ref x)
 | .ext g=>g h/\(∃o,h.get? a=aI o)/\∀j k:fy,g j->(∀o,j.get? a=aI o->k.get? a=aI o)->g k
def l0(H:Hp)(h:fy):Prop:=∀a o,H a=aI o->i8 P w H h a o
end
section
variable{P:iv}{w:h8}{H H':Hp}{h h':fy}{a:cS}{o:HO}
theorem i8.lt(x:i8 P w H h a o):a<h.objs.size:=by
 cases o with
 | lst d=>obtain⟨_,_,_,_,e⟩:=x;exact pE e
 | tup d=>obtain⟨_,_,_,p⟩:=x;exact p.tup.lt
 | dK b=>obtain⟨_,_,_,_,o,_,_,e,_⟩:=x;exact pE e
 | dT b=>obtain⟨_,_,_,_,o,_,_,e,_⟩:=x;exact pE e
 | set S n=>obtain⟨o,_,_,_,e,_⟩:=x;exact pE e
 | ins C g fs=>obtain⟨_,_,_,e,_⟩:=x;exact pE e
 | own y=>obtain⟨_,e⟩:=x;exact pE e
 | xd fs=>obtain⟨_,⟨_,_,_,e,_⟩,_⟩:=x;exact pE e
 | DP lo i=>obtain⟨_,_,_,e⟩:=x;exact pE e
 | t9 z u=>obtain⟨e,_⟩:=x;exact pE e
 | Ci j=>exact pE (show h.get? a=aI _ from x)
 | met f y=>exact pE (show h.get? a=aI _ from x)
 | ext k=>obtain⟨_,⟨_,e⟩,_⟩:=x;exact pE e
theorem Paired.EO : ∀{z:List α} {B:List β},Paired F z B->(∀a b,F a b->G a b)->Paired G z B
 | _,_,.nil,_=> .nil
 | _,_,.cons r t,f=> .cons (f _ _ r) (Paired.EO t f)
theorem i8.t5(x:i8 P w H h a o)(k : ∀b u,(b=a\/H b=aI (.own a))->h.get? b=aI u->h'.get? b=aI u)
 (R : ∀b,H b=aI (.own a)->H' b=aI (.own a)) (U : ∀b xs,H b=aI (.tup xs)->H' b=aI (.tup xs)):i8 P w H' h' a o:=by
 induction o with
 | lst xs=>obtain⟨z,O,n,r,e⟩:=x;exact⟨z,O,n,r,k _ _ (.inl rfl) e⟩
 | tup xs=>obtain⟨z,O,r,B,e,c⟩:=x;exact⟨z,O,r,B,k _ _ (.inl rfl) e,c⟩
 | dK i=>obtain⟨z,y,A,r,B,g,I,e,c⟩:=x;exact⟨z,y,A,r,B,g,I,k _ _ (.inl rfl) e,c⟩
 | dT i=>
  obtain⟨z,y,xs,r,B,g,I,e,c⟩:=x;exact⟨z,y,xs,Paired.EO r λp q z=>⟨z.1,U _ _ z.2.1,z.2.2⟩,B,g,I,k _ _ (.inl rfl) e,c⟩
 | set S n=>obtain⟨B,g,I,t,e,c⟩:=x;exact⟨B,g,I,t,k _ _ (.inl rfl) e,c⟩
 | ins C E fs=>
  obtain⟨d,z,s,e,j,⟨l,g,I,W,c⟩,r⟩:=x;exact⟨R _ d,z,s,k _ _ (.inl rfl) e,j,⟨l,g,I,k _ _ (.inr d) W,c⟩,r⟩
 | own y=>obtain⟨B,e⟩:=x;exact⟨B,k _ _ (.inl rfl) e⟩
 | xd fs=>obtain⟨j,⟨l,g,I,e,c⟩,r⟩:=x;exact⟨j,⟨l,g,I,k _ _ (.inl rfl) e,c⟩,r⟩
 | DP lo F=>obtain⟨t,u,v,e⟩:=x;exact⟨t,u,v,k _ _ (.inl rfl) e⟩
 | t9 B u Y=>obtain⟨e,q⟩:=x;exact⟨k _ _ (.inl rfl) e,Y q⟩
 | Ci m=>
  have e:h.get? a=aI {cls:= .none,data:= .fields m}:=x;show h'.get? a=aI {cls:= .none,data:= .fields m};exact k a _ (.inl rfl) e
 | met f y=>
  have e:h.get? a=aI (AG (.ref f)<|.ref y):=x;show h'.get? a=aI (AG (.ref f)<|.ref y);exact k a _ (.inl rfl) e
 | ext G=>obtain⟨p,⟨o,e⟩,st⟩:=x;exact⟨st _ _ p λo q=>k _ _ (.inl rfl) q,⟨o,k _ _ (.inl rfl) e⟩,st⟩
theorem l0.lt(x:l0 P w H h)(e:H a=aI o):a<h.objs.size:=(x a o e).lt
theorem l0.fresh(x:l0 P w H h)(e:h.objs.size<=a):H a=bC:=by
 cases q:H a with
 | none=>rfl
 | some u=>exact absurd (pH (x.lt q) e)<|sO _
theorem l0.kept(x:l0 P w H h)(k : ∀b u,h.get? b=aI u->h'.get? b=aI u):l0 P w H h':=λa o e=>
 (x a o e).t5 (λb u _ q=>k b u q) (λ_ q=>q) λ_ _ q=>q
theorem l0.laid(x:l0 P w H h)(k : ∀b u,h.get? b=aI u->h'.get? b=aI u)(B:h.objs.size<=a)(new:i8 P w (upd H a o) h' a o):l0 P w (upd H a o) h':=λb u e=>by
 have d:=x.fresh B;by_cases z:b=a
 ·subst z;rw[zq]at e;cases e;exact new
 ·rw[zo z]at e
  exact(x b u e).t5 (λc v _ q=>k c v q) (λc q=>by rw[zo (zD q d)];exact q) λc f q=>by rw[zo (zD q d)];exact q
end
noncomputable def Rd(H:Hp)(a:cS)(u:HO):Prop:=H a=aI u\/∃o,H a=aI (.t9 o u)
theorem Rd.ok(r:Rd H a u)(x:l0 P w H h):i8 P w H h a u:=by
 rcases r with r | ⟨o,r⟩
 ·exact x a u r
 ·obtain⟨_,q⟩:=x a _ r
  exact q
noncomputable def DC:Option HO->Prop
 | some (.lst _)=>True
 | some (.dK _)=>True
 | some (.dT _)=>True
 | some (.set _ _)=>True
 | some (.ins _ _ _)=>True
 | some (.ext _)=>True
 | _=>False
section
variable{P:iv}{w:h8}{H:Hp}{h h':fy}{x e:cS}{o':HO}
theorem l0.write(ok:l0 P w H h)(B:DC (H x))(R:e=x\/H e=aI (.own x))(k : ∀b u,b≠e->h.get? b=aI u->h'.get? b=aI u)(Y : ∃u,h'.get? e=aI u)
 (new:i8 P w (upd H x o') h' x o'):l0 P w (upd H x o') h':=λb u q=>by
 have U : ∀c y,H c=aI (.own y)->c≠x:=λc y r z=>by subst z;rw[r]at B;exact B
 have d : ∀c a,H c=aI (.tup a)->c≠x:=λc a r z=>by subst z;rw[r]at B;exact B
 by_cases I:b=x
 ·subst I;rw[zq]at q;cases q;exact new
 ·rw[zo I]at q
  by_cases O:b=e
  ·have W:H b=aI (.own x):=by
    rcases R with z | z
    ·exact absurd (O.trans z) I
    ·rw[O];exact z
   rw[q]at W;cases W;obtain⟨v,f⟩:=Y;exact⟨v,by rw[O];exact f⟩
  ·refine(ok b u q).t5 (λc v hc r=>k c v ?_ r) (λc r=>by rw[zo (U c b r)];exact r) λc a r=>by rw[zo (d c a r)];exact r
   rcases hc with rfl | hc
   ·exact O
   ·rintro rfl
    rcases R with z | z
    ·exact U c b hc z
    ·rw[hc]at z;cases z;exact I rfl
end
structure Un(fs ex:List cS)(H H':Hp)(h h':fy):Prop where
 keep : ∀b o,h.get? b=aI o->H b=bC->b∉fs->b∉ex->h'.get? b=aI o
 slot : ∀b o,h.get? b=aI o->H b=bC->b∈fs->b∉ex->∃sl,h'.get? b=aI {o with slots:=sl}
 free : ∀b o,h.get? b=aI o->H b=bC->b∉ex->H' b=bC
 there : ∀b o,h.get? b=aI o->b∉ex->∃o',h'.get? b=aI o'
 r0 : ∀b xs,H b=aI (.tup xs)->H' b=aI (.tup xs)
 t2 : ∀b o u,H b=aI (.t9 o u)->H' b=aI (.t9 o u)
 rG : ∀b ps,H b=aI (.Ci ps)->∃more,H' b=aI (.Ci<|ps++more)
section
variable{fs FD ex Gh:List cS}{H H1 H2:Hp}{h h1 h2 h':fy}{a x e:cS}{o:HO}
theorem Un.any(u:Un fs ex H H1 h h1)(q:h.get? b=aI ob)(n:H b=bC)(hx:b∉ex) : ∃B,h1.get? b=aI {ob with slots:=B}:=by
 by_cases z:b∈fs
 ·exact u.slot b ob q n z hx
 ·exact⟨ob.slots,u.keep b ob q n z hx⟩
theorem Un.kept(k : ∀b u,h.get? b=aI u->h'.get? b=aI u):Un fs ex H H h h':=
 ⟨λb z q _ _ _=>k b z q,λb z q _ _ _=>⟨z.slots,k b z q⟩,λ_ _ _ n _=>n,λb z q _=>⟨z,k b z q⟩,λ_ _ q=>q,λ_ _ _ q=>q,λ_ a q=>⟨#[],by rw[q];simp⟩⟩
theorem Un.refl:Un fs ex H H h h:=Un.kept λ_ _ q=>q
theorem Un.laid(k : ∀b u,h.get? b=aI u->h'.get? b=aI u)(z:h.objs.size<=a)(hn:H a=bC):Un fs ex H (upd H a o) h h' where
 keep:=λb u q _ _ _=>k b u q
 slot:=λb u q _ _ _=>⟨u.slots,k b u q⟩
 free:=λb u q n _=>by rw[zo (pP<|pH (pE q) z)];exact n
 there:=λb u q _=>⟨u,k b u q⟩
 r0:=λb xs q=>by rw[zo (zD q hn)];exact q
 t2:=λb u xs q=>by rw[zo (zD q hn)];exact q
 rG:=λb ps q=>⟨#[],by rw[zo (zD q hn),q];simp⟩
theorem Un.write(B:DC (H x))(R:e=x\/H e=aI (.own x))(k : ∀b u,b≠e->h.get? b=aI u->h'.get? b=aI u)(U : ∃u,h'.get? e=aI u):Un fs ex H (upd H x o) h h':=by
 have d : ∀b,H b=bC->b≠x:=λb n z=>by subst z;rw[n]at B;exact B
 have I : ∀b,H b=bC->b≠e:=λb n z=>by
  subst z;rcases R with r | r
  ·exact d b n r
  ·rw[n]at r;cases r
 have a : ∀b u,H b=aI u->¬DC (aI u)->b≠x:=λb u q nm z=>by subst z;rw[q]at B;exact nm B
 refine⟨λb u q n _ _=>k b u (I b n) q,λb u q n _ _=>⟨u.slots,k b u (I b n) q⟩,λb u q n _=>by rw[zo (d b n)];exact n,λb u q _=>?_,
  λb f q=>by rw[zo (a b _ q λz=>z)];exact q,λb u f q=>by rw[zo (a b _ q λz=>z)];exact q,λb g q=>⟨#[],by rw[zo (a b _ q λz=>z),q];simp⟩⟩
 by_cases O:b=e
 ·subst O;exact U
 ·exact⟨u,k b u O q⟩
end
noncomputable def DT(h:fy)(H:Hp):List cS:=(pK h.objs.size).filter λa=>(H a).isSome
def YO(h:fy)(H:Hp):fy:=rP h<|DT h H
theorem XT(h:fy)(H:Hp):(YO h H).objs.size=h.objs.size:=PySem.W.hideAll_size _ _
theorem YN(e:h.get? b=aI o)(n:H b=bC):(YO h H).get? b=aI o:=
 rZ _ e λa=>by have q:(H b).isSome=cI:=(List.mem_filter.mp a).2;rw[n]at q;simp at q
theorem WS(e:(YO h H).get? b=aI o):h.get? b=aI o/\H b=bC:=by
 have B:h.get? b=aI o:=uc (DT h H) e;refine⟨B,?_⟩;cases q:H b with
 | none=>rfl
 | some x=>
  have a:b∈DT h H:=List.mem_filter.mpr ⟨sW.mpr<|pE B,by simp[q]⟩;have z:(YO h H).get? b=bC:=uy (DT h H) a;rw[z]at e;cases e
noncomputable def ag(g h:fy)(L:cS):List (cS×l3):=(pK h.objs.size).filterMap λa=>if a=L\/(g.get? a).isSome=cI then bC else (h.get? a).map λo=>(a,o)
noncomputable def rest(g h:fy)(L d:cS):List (cS×l3):=(ag g h L).filter λp=>decide<|p.1≠d
structure Mod(K:pv)(mg:GJ)(base:fy):Prop where
 BW:K.In base
 glob:base.Ns n6 mg
 blt : ∃mb,base.Ns EH mb/\∀x:Str,x ≠ "__name__"->mb x=Cb x
 nolimit:base.NoLimit
structure Cx where
 prog:iv
 w:h8
 K:pv
 mg:Str->Option eF
 base:fy
 A:i7
 N:List Str
 hF:eM
 BG:Hp
 env:i3
 outer:List i3
 stack:List i3
 ex:List cS
 fn:Str->Bool
 calm:Bool
 pn:List (cS×l3)
 xe:eF->eM->Prop
def i5(l:List i3):List cS:=l.filterMap (·.frame)
abbrev Cx.fs(X:Cx):List cS:=i5 X.outer
noncomputable def CF(z:hH)(x:Str):Prop:=z.names.lookup x=aI .local\/z.names.lookup x=aI .cell\/z.names.lookup x=aI .free
noncomputable def Loc(z:hH)(x:Str):Prop:=z.names.lookup x=aI .local\/z.names.lookup x=aI .cell
noncomputable def oU(env:i3)(h:fy)(m:GJ)(x:Str)(u:eF):Prop:=
 (env.kindOf x=aI .local/\m x=aI u)\/((env.kindOf x=aI .cell\/env.kindOf x=aI .free)/\∃c,env.cells.lookup x=aI c/\h.IsCell c (aI u))
structure Cx.Ok(X:Cx):Prop where
 mod:Mod X.K X.mg X.base
 kind:X.env.scope.kind = .function
 glob:X.env.globals=n6
 blt:X.env.builtins=EH
 above:X.hF.heap.objs.size<=X.env.locals
 inj : ∀x y c,X.env.cells.lookup x=aI c->X.env.cells.lookup y=aI c->x=y
 has : ∀x,(X.env.kindOf x=aI .cell\/X.env.kindOf x=aI .free)->∃c,X.env.cells.lookup x=aI c
 Cq : ∀x c,X.fn x=cI->X.env.cells.lookup x=aI c->X.hF.heap.objs.size<=c
 hd:X.calm=cI->X.A.handled=bC
 frames:X.A.frames=aI X.stack
 BJ:X.stack=X.outer\/(X.stack=X.env::X.outer/\X.env.frame=aI X.env.locals)
 Cd : ∀b∈X.ex,b≠X.env.locals/\∀x c,X.env.cells.lookup x=aI c->c≠b
 bs : ∀b o,X.base.get? b=aI o->X.hF.heap.get? b=aI o/\X.BG b=bC
 Bq:X.base.objs.size<=X.hF.heap.objs.size
 Cw : ∀b o,X.base.get? b=aI o->b∉X.ex
 Ce : ∀b∈X.ex,b∉X.fs
 n5:X.hF.heap.FunFrames X.base X.outer
 zx : ∀b∈X.fs,X.BG b=bC
structure Inv(X:Cx)(pins:GW)(σ:List (Option V))(H:Hp)(s:eM):Prop where
 ok:X.Ok
 os:s.os=X.hF.os
 bare:BE s.gens
 base:Un X.fs X.ex X.BG H X.hF.heap s.heap
 loc : ∃m,s.heap.Ns X.env.locals m/\∀(i:Nat) (x:Str) (v:V),X.N[i]? = aI x->σ[i]? = aI (aI v)->CF X.env.scope x->∃u,RelV v u/\oU X.env s.heap m x u
 cell : ∀x c,X.env.cells.lookup x=aI c->∃v,s.heap.IsCell c v
 free:H X.env.locals=bC
 zv : ∀x c,X.env.cells.lookup x=aI c->H c=bC
 pin : ∀p∈X.pn++pins,s.heap.get? p.1=aI p.2/\H p.1=bC/\p.1≠X.env.locals/\p.1∉X.fs/\∀v,p.2.data ≠ .cell v
 gv:l0 X.prog X.w H s.heap
 len:σ.length=X.N.length
section
variable{X:Cx}{pins:GW}{σ:List (Option V)}{H H':Hp}{s:eM}{h':fy}
theorem Cx.Ok.FP(ok:X.Ok)(e:X.base.get? b=aI o):b∉X.fs:=λz=>by have:=(ok.n5.mem z).1;rw[e]at this;cases this
theorem Inv.bs(I:Inv X pins σ H s) : ∀b o,X.base.get? b=aI o->s.heap.get? b=aI o/\H b=bC:=λb o e=>
 ⟨I.base.keep b o (I.ok.bs b o e).1 (I.ok.bs b o e).2 (I.ok.FP e) (I.ok.Cw b o e),I.base.free b o (I.ok.bs b o e).1 (I.ok.bs b o e).2 (I.ok.Cw b o e)⟩
theorem Inv.bk(I:Inv X pins σ H s) : ∀b o,X.base.get? b=aI o->s.heap.get? b=aI o:=λb o e=>(I.bs b o e).1
theorem Inv.mod(I:Inv X pins σ H s):Mod X.K X.mg X.base:=I.ok.mod
theorem Inv.ij(I:Inv X pins σ H s):X.K.In s.heap:=I.ok.mod.BW.keeps I.bk
theorem Inv.lt(I:Inv X pins σ H s):X.env.locals<s.heap.objs.size:=let ⟨_,a,_⟩:=I.loc;a.lt
theorem Inv.sz(I:Inv X pins σ H s):X.hF.heap.objs.size<=s.heap.objs.size:=rV I.ok.above<|Bh I.lt
theorem Inv.FR(I:Inv X pins σ H s)(h:s.heap.objs.size<=a):a∉X.fs:=λz=>by obtain⟨_,o,B,_⟩:=I.ok.n5.mem z;exact absurd (pH (pE B)<|rV I.sz h)<|sO _
theorem Inv.BR(I:Inv X pins σ H s) : ∀x c,X.env.cells.lookup x=aI c->c≠X.env.locals:=λx c e z=>by obtain⟨v,o,B,a⟩:=I.cell x c e;obtain⟨m,⟨d,b,U,O,R,_⟩,_⟩:=I.loc;rw[z,O]at B;cases B;rw[R]at a;cases a
theorem Inv.n5(I:Inv X pins σ H s):s.heap.FunFrames X.base X.outer:=by
 have all : ∀(l:List i3),(∀b∈i5 l,b∈X.fs)->X.hF.heap.FunFrames X.base l->s.heap.FunFrames X.base l:=by
  intro l
  induction l with
  | nil=>intro _ _;trivial
  | cons f r R=>
   intro d U;obtain⟨h,⟨L,o,a,i,W,g⟩,Y⟩:=U;have B:L∈X.fs:=d L (by unfold i5;rw[AD,a];exact rh);obtain⟨j,e⟩:=I.base.slot L o W (I.ok.zx L B) B λz=>I.ok.Ce L z B;exact⟨h,⟨L,_,a,i,e,g⟩,R (λb O=>d b<|by unfold i5;rw[AD,a];exact pT _ O) Y⟩
 exact all X.outer (λ_ O=>O) I.ok.n5
theorem Inv.stack(I:Inv X pins σ H s):s.heap.FunFrames X.base X.stack:=by
 rcases I.ok.BJ with e | ⟨e,hf⟩
 ·rw[e];exact I.n5
 ·rw[e]
  obtain⟨m,a,_⟩:=I.loc;refine .cons (by rw[I.ok.kind];decide) hf a ?_ I.n5;exact Aw<|rV I.ok.Bq I.ok.above
theorem Inv.Cg(I:Inv X pins σ H s) : ∀b∈i5 X.stack,b∈X.env.locals::X.fs:=λb z=>by
 rcases I.ok.BJ with e | ⟨e,hf⟩
 ·rw[e]at z;exact pT _ z
 ·rw[e]at z
  unfold i5 at z;rw[AD,hf]at z;exact z
theorem Inv.B5(I:Inv X pins σ H s) : ∀b∈i5 X.stack,H b=bC:=λb B=>by
 rcases pM.mp (I.Cg b B)with e | B
 ·rw[e];exact I.free
 ·obtain⟨_,o,O,_⟩:=I.ok.n5.mem B
  exact I.base.free b o O (I.ok.zx b B) λz=>I.ok.Ce b z B
theorem Inv.step{g':Array GenState}{t':Nat}{d':Drawn}{ch:List cS}(I:Inv X pins σ H s)
 (R : ∀b∈ch,(b∈X.ex\/X.hF.heap.objs.size<=b)/\b≠X.env.locals/\(∀x c,X.env.cells.lookup x=aI c->c≠b)/\∀p∈X.pn++pins,p.1≠b)
 (G : ∀b o,b≠X.env.locals->b∉X.fs->b∉ch->s.heap.get? b=aI o->H b=bC->h'.get? b=aI o)
 (J : ∀b o,b≠X.env.locals->b∈X.fs->b∉ch->s.heap.get? b=aI o->H b=bC->∃sl,h'.get? b=aI {o with slots:=sl}) (free : ∀b o,b∉ch->s.heap.get? b=aI o->H b=bC->H' b=bC)
 (L : ∀b o,b∉ch->s.heap.get? b=aI o->∃Z,h'.get? b=aI Z)
 (r0 : ∀b xs,H b=aI (.tup xs)->H' b=aI (.tup xs)) (P : ∀b o u,H b=aI (.t9 o u)->H' b=aI (.t9 o u)) (rG : ∀b ps,H b=aI (.Ci ps)->∃more,H' b=aI (.Ci<|ps++more))
 (ns : ∀m,s.heap.Ns X.env.locals m->h'.Ns X.env.locals m) (gv:l0 X.prog X.w H' h') (hg:BE g') :
 Inv X pins σ H' {s with heap:=h',gens:=g',drawn:=d',toks:=t'}:=by
 have h : ∀b o,X.hF.heap.get? b=aI o->b≠X.env.locals:=λb o e=>pP<|pH (pE e) I.ok.above;have Y : ∀b o,X.hF.heap.get? b=aI o->b∉X.ex->b∉ch:=λb o e a B=>by
  rcases (R b B).1 with z | z
  ·exact a z
  ·exact absurd (pH (pE e) z)<|sO _
 have j : ∀x c,X.env.cells.lookup x=aI c->∀v,s.heap.IsCell c v->h'.IsCell c v:=λx c e v K=>by
  obtain⟨o,O,g⟩:=K;have U:c∉ch:=λz=>(R c z).2.2.1 x c e rfl;by_cases t:c∈X.fs
  ·obtain⟨sl,q⟩:=J c o (I.BR x c e) t U O (I.zv x c e)
   exact⟨_,q,g⟩
  ·exact⟨o,G c o (I.BR x c e) t U O<|I.zv x c e,g⟩
 refine⟨I.ok,I.os,hg,⟨λb o e n B a=>?_,λb o e n B a=>?_,λb o e n a=>?_,λb o e a=>?_,λb xs e=>r0 b xs<|I.base.r0 b xs e,λb o xs e=>P b o xs<|I.base.t2 b o xs e,λb ps e=>?_⟩,?_,λx c e=>?_,?_,λx c e=>?_,λp y=>?_,gv,I.len⟩
 ·exact G b o (h b o e) B (Y b o e a) (I.base.keep b o e n B a)<|I.base.free b o e n a
 ·obtain⟨sl,f⟩:=I.base.slot b o e n B a
  obtain⟨E,W⟩:=J b _ (h b o e) B (Y b o e a) f<|I.base.free b o e n a;exact⟨E,W⟩
 ·obtain⟨Z,f⟩:=I.base.there b o e a
  exact free b Z (Y b o e a) f<|I.base.free b o e n a
 ·obtain⟨Z,f⟩:=I.base.there b o e a
  exact L b Z (Y b o e a) f
 ·obtain⟨Q,f⟩:=I.base.rG b ps e
  obtain⟨S,W⟩:=rG b _ f;exact⟨Q++S,by rw[W,AK]⟩
 ·obtain⟨m,N,M⟩:=I.loc
  refine⟨m,ns m N,λi x v f W F=>?_⟩;obtain⟨u,r,l⟩:=M i x v f W F;refine⟨u,r,?_⟩;rcases l with l | ⟨k,c,e,z⟩
  ·exact .inl l
  ·exact .inr ⟨k,c,e,j x c e _ z⟩
 ·obtain⟨v,z⟩:=I.cell x c e
  exact⟨v,j x c e v z⟩
 ·obtain⟨m,⟨o,_,_,O,_⟩,_⟩:=I.loc
  exact free _ o (λz=>(R _ z).2.1 rfl) O I.free
 ·obtain⟨v,o,O,g⟩:=I.cell x c e
  exact free c o (λz=>(R c z).2.2.1 x c e rfl) O<|I.zv x c e
 ·obtain⟨e,n,A,C,d⟩:=I.pin p y
  have U:p.1∉ch:=λz=>(R p.1 z).2.2.2 p y rfl;exact⟨G p.1 p.2 A C U e n,free p.1 p.2 U e n,A,C,d⟩
theorem Inv.un{t':Nat}(I:Inv X pins σ H s)(u:Un X.fs [] H H' s.heap h')(G:l0 X.prog X.w H' h'):Inv X pins σ H' {s with heap:=h',toks:=t'}:=by
 obtain⟨m,⟨o,g,f,O,r⟩,_⟩:=id I.loc;obtain⟨j,U⟩:=u.any O I.free ⋯;exact I.step (g':=s.gens) (d':=s.drawn) (ch:=[]) (λ_ z=>nomatch z) (λb o _ B _ e n=>u.keep b o e n B ⋯) (λb o _ B _ e n=>u.slot b o e n B ⋯) (λb o _ e n=>u.free b o e n ⋯) (λb o _ e=>u.there b o e ⋯) u.r0 u.t2 u.rG (λh a=>by obtain⟨i,W,Y,R,d⟩:=a;rw[O]at R;cases R;exact⟨_,W,Y,U,d⟩) G I.bare
theorem Inv.call{g':Array GenState}{t':Nat}{d':Drawn}{ch:List cS}(I:Inv X pins σ H s)(u:Un (i5 X.stack) ch H H' s.heap h')(G:l0 X.prog X.w H' h')(W:BE g')
 (O : ∀b∈ch,(b∈X.ex\/X.hF.heap.objs.size<=b)/\b≠X.env.locals/\(∀x c,X.env.cells.lookup x=aI c->c≠b)/\∀p∈X.pn++pins,p.1≠b) :
 Inv X pins σ H' {s with heap:=h',gens:=g',drawn:=d',toks:=t'}:=by
 obtain⟨m,⟨o,j,i,R,r⟩,_⟩:=id I.loc;obtain⟨t,B⟩:=u.any R I.free λz=>(O _ z).2.1 rfl;exact I.step (ch:=ch) O (λb o B Y a e n=>u.keep b o e n (λz=>(pM.mp<|I.Cg b z).elim B Y) a) (λb o _ _ a e n=>u.any e n a) (λb o a e n=>u.free b o e n a) (λb o a e=>u.there b o e a) u.r0 u.t2 u.rG (λk g=>by obtain⟨l,d,f,U,h⟩:=g;rw[R]at U;cases U;exact⟨_,d,f,B,h⟩) G W
theorem Inv.turned{t':Nat}{it:cS}(I:Inv X pins σ H s)(k : ∀b o,b≠it->s.heap.get? b=aI o->h'.get? b=aI o)(L:H it=bC)(B:it≠X.env.locals)
 (G:it∈X.ex\/X.hF.heap.objs.size<=it) (J : ∀x c,X.env.cells.lookup x=aI c->c≠it) (R : ∀p∈X.pn++pins,p.1≠it):Inv X pins σ H {s with heap:=h',toks:=t'}:=by
 have O : ∀b u,H b=aI u->b≠it:=λb u e z=>by rw[z,L]at e;cases e
 refine I.step (g':=s.gens) (d':=s.drawn) (ch:=[it]) (λb U=>?_) (λb o _ _ a e _=>k b o (λz=>a<|by simp[z]) e) (λb o _ _ a e _=>⟨o.slots,k b o (λz=>a<|by simp[z]) e⟩) (λ_ _ _ _ n=>n)
  (λb o a e=>⟨o,k b o (λz=>a<|by simp[z]) e⟩) (λ_ _ e=>e) (λ_ _ _ e=>e) (λb g e=>⟨#[],by rw[e];simp⟩) (λm f=>?_) (λb u e=>?_) I.bare
 ·have e:b=it:=by simpa using U
  subst e;exact⟨G,B,J,R⟩
 ·obtain⟨o,d,W,Y,r⟩:=f
  exact⟨o,d,W,k _ o (rH B) Y,r⟩
 ·refine(I.gv b u e).t5 (λc v a q=>k c v ?_ q) (λ_ q=>q) λ_ _ q=>q
  rcases a with z | z
  ·rw[z];exact O b u e
  ·exact O c _ z
theorem Inv.tok(I:Inv X pins σ H s)(t:Nat):Inv X pins σ H {s with toks:=t}:=I.un (h':=s.heap) (t':=t) Un.refl I.gv
theorem Inv.kept(I:Inv X pins σ H s)(k : ∀b u,s.heap.get? b=aI u->h'.get? b=aI u):Inv X pins σ H {s with heap:=h',toks:=t'}:=I.un (Un.kept k)<|I.gv.kept k
theorem Inv.laid(I:Inv X pins σ H s)(k : ∀b u,s.heap.get? b=aI u->h'.get? b=aI u)(z:s.heap.objs.size<=a)(new:i8 X.prog X.w (upd H a o) h' a o) :
 Inv X pins σ (upd H a o) {s with heap:=h',toks:=t'}:=I.un (Un.laid k z<|I.gv.fresh z)<|I.gv.laid k z new
theorem Inv.write(I:Inv X pins σ H s)(z:DC (H x))(B:e=x\/H e=aI (.own x))(k : ∀b u,b≠e->s.heap.get? b=aI u->h'.get? b=aI u)(O : ∃u,h'.get? e=aI u)
 (new:i8 X.prog X.w (upd H x o) h' x o):Inv X pins σ (upd H x o) {s with heap:=h',toks:=t'}:=I.un (Un.write z B k O)<|I.gv.write z B k O new
theorem Inv.ES(I:Inv X pins σ H s)(h : ∀p∈B,s.heap.get? p.1=aI p.2/\H p.1=bC/\p.1≠X.env.locals/\p.1∉X.fs/\∀v,p.2.data ≠ .cell v):Inv X B σ H s:=
 ⟨I.ok,I.os,I.bare,I.base,I.loc,I.cell,I.free,I.zv,λp O=>(tf.mp O).elim (λz=>I.pin p<|List.mem_append_left _ z) (h p),I.gv,I.len⟩
theorem v7{N:List Str}(z:N.Nodup){i j:Nat}{x:Str}(a:N[i]? = aI x)(b:N[j]? = aI x):i=j:=by obtain⟨e,d⟩:=pW.mp a;obtain⟨f,B⟩:=pW.mp b;exact(List.getElem_inj z).mp (d.trans B.symm)
theorem wB{M:Model}{A:i7}{E:GQ}{i:Nat}{x:Str}{v:V}{u:eF}{Q:Unit->eM->Prop}(I:Inv X pins σ H s)(hN:X.N.Nodup)(G:X.N[i]? = aI x)(hx:Loc X.env.scope x)(r:RelV v u)
 (h : ∀s',Inv X pins (σ.set i<|some v) H s'->(∃a,uA a s.heap s'.heap/\(a=X.env.locals\/X.env.cells.lookup x=aI a))->Q () s') (hf:X.fn x=cI\/X.env.scope.names.lookup x=aI .local:=by first | exact .inl rfl | exact .inr rfl | assumption):wpAny M A (storeName X.env x u) Q E s:=by
 obtain⟨m,F,hl⟩:=id I.loc;have as:(X.env.scope.kind == .class || (X.env.scope.kind == .module && X.env.locals != X.env.globals))=dV:=by rw[I.ok.kind];rfl
 have Z:i<σ.length:=by rw[I.len];exact(pW.mp G).1
 have BR:=I.BR;have a9 : ∀{a:cS} {h':fy},(∃o,s.heap.get? a=aI o/\H a=bC)->uA a s.heap h'->l0 X.prog X.w H h':=λ{a h'} ha f b ob e=>by
  obtain⟨_,_,ac⟩:=ha;refine(I.gv b ob e).t5 (λc t hc q=>(f.2 c ?_).trans q) (λ_ q=>q) λ_ _ q=>q;rintro rfl;rcases hc with rfl | hc
  ·rw[ac]at e;cases e
  ·rw[ac]at hc;cases hc
 rcases hx with hk | hk
 ·refine wpAny_storeName_local hk F (λh' b0 f=>?_) as
  obtain⟨oL,_,_,bd,_⟩:=id F;refine h _ ⟨I.ok,I.os,I.bare,⟨λb o e n O hx=>?_,λb o e n O hx=>?_,I.base.free,λb o e hx=>?_,I.base.r0,I.base.t2,I.base.rG⟩,⟨_,b0,λj y W g B Y=>?_⟩,λy c e=>?_,I.free,I.zv,λp J=>?_,a9 ⟨oL,bd,I.free⟩ f,by simpa using I.len⟩ ⟨_,f,.inl rfl⟩
  ·exact(f.2 b<|pP<|pH (pE e) I.ok.above).trans (I.base.keep b o e n O hx)
  ·obtain⟨S,g⟩:=I.base.slot b o e n O hx
   exact⟨S,(f.2 b<|pP<|pH (pE e) I.ok.above).trans g⟩
  ·obtain⟨L,g⟩:=I.base.there b o e hx
   exact⟨L,(f.2 b<|pP<|pH (pE e) I.ok.above).trans g⟩
  ·by_cases R:j=i
   ·subst R
    rw[G]at g;cases g;rw[rn Z]at B;cases B;exact⟨u,r,.inl ⟨hk,by simp⟩⟩
   ·rw[pG (rH R)]at B
    obtain⟨T,P,q⟩:=hl j y W g B Y;refine⟨T,P,?_⟩;rcases q with⟨k,e⟩ | ⟨k,c,e,z⟩
    ·refine .inl ⟨k,?_⟩
     have:y≠x:=λe=>R<|v7 hN g<|e ▸ G;simp[this,e]
    ·exact .inr ⟨k,c,e,z.sameBut f<|BR y c e⟩
  ·obtain⟨t,z⟩:=I.cell y c e
   exact⟨t,z.sameBut f<|BR y c e⟩
  ·obtain⟨e,n,l,K,d⟩:=I.pin p J
   exact⟨(f.2 p.1 l).trans e,n,l,K,d⟩
 ·have C:X.fn x=cI:=by
   rcases hf with z | z
   ·exact z
   ·rw[z]at hk;cases hk
  obtain⟨c,hc⟩:=I.ok.has x<|.inl hk;obtain⟨t,z⟩:=I.cell x c hc;refine wpAny_storeName_cell I.ok.kind hk hc z<|λh' am f=>?_;obtain⟨oc,an,be⟩:=id z;refine h {s with heap:=h'} ⟨I.ok,I.os,I.bare,⟨λb o e n O hx=>?_,λb o e n O hx=>?_,I.base.free,λb o e hx=>?_,I.base.r0,I.base.t2,I.base.rG⟩,⟨m,F.sameBut f<|rH<|BR x c hc,λj y W g B Y=>?_⟩,λy U e=>?_,I.free,I.zv,λp J=>?_,a9 ⟨oc,an,I.zv x c hc⟩ f,by simpa using I.len⟩ ⟨c,f,.inr hc⟩
  ·exact(f.2 b<|pP<|pH (pE e)<|I.ok.Cq x c C hc).trans (I.base.keep b o e n O hx)
  ·obtain⟨S,g⟩:=I.base.slot b o e n O hx
   exact⟨S,(f.2 b<|pP<|pH (pE e)<|I.ok.Cq x c C hc).trans g⟩
  ·obtain⟨L,g⟩:=I.base.there b o e hx
   exact⟨L,(f.2 b<|pP<|pH (pE e)<|I.ok.Cq x c C hc).trans g⟩
  ·by_cases R:j=i
   ·subst R
    rw[G]at g;cases g;rw[rn Z]at B;cases B;exact⟨u,r,.inr ⟨.inl hk,c,hc,am⟩⟩
   ·rw[pG (rH R)]at B
    obtain⟨T,P,q⟩:=hl j y W g B Y;refine⟨T,P,?_⟩;rcases q with q | ⟨k,U,e,z'⟩
    ·exact .inl q
    ·refine .inr ⟨k,U,e,z'.sameBut f ?_⟩
     rintro rfl;exact R<|v7 hN g<|I.ok.inj _ _ _ e hc ▸ G
  ·by_cases ap:U=c
   ·subst ap;exact⟨_,am⟩
   ·obtain⟨w2,z2⟩:=I.cell y U e
    exact⟨w2,z2.sameBut f ap⟩
  ·obtain⟨e,n,l,K,d⟩:=I.pin p J
   refine⟨(f.2 p.1 ?_).trans e,n,l,K,d⟩;intro q;rw[q,an]at e;have q':oc=p.2:=pX e;exact d t (by rw[<- q'];exact be)
theorem vP(I:Inv X pins σ H s)(z:X.N.Nodup)(J:X.N[i]? = aI x)(hx:Loc X.env.scope x)(r:RelV v u)
 (h : ∀s',Inv X pins (σ.set i<|some v) H s'->Q () s') (G:X.fn x=cI\/X.env.scope.names.lookup x=aI .local:=by first | exact .inl rfl | exact .inr rfl | assumption):wpAny M A (storeName X.env x u) Q E s:=
 wB I z J hx r (λs' B _=>h s' B) G
theorem Inv.DE(I:Inv X pins σ H s)(z:s'.os=s.os)(u:Un (i5 X.stack) ch H H' s.heap s'.heap)(G:l0 X.prog X.w H' s'.heap)(B:BE s'.gens)
 (O : ∀b∈ch,(b∈X.ex\/X.hF.heap.objs.size<=b)/\b≠X.env.locals/\(∀x c,X.env.cells.lookup x=aI c->c≠b)/\∀p∈X.pn++pins,p.1≠b):Inv X pins σ H' s':=by
 obtain⟨h',g',d',t',a⟩:=s';have e:a=s.os:=z;subst e;exact I.call (g':=g') (t':=t') (d':=d') u G B O
end
abbrev XK:=eF->Option cS->Hp->Prop
abbrev St:=List (Option V)
abbrev VK:=V->Hp->Prop
abbrev TE:=St->Hp->VK->Prop
abbrev TT:=St->Hp->(Bool->Hp->Prop)->Prop
abbrev TA:=St->Hp->(List V->Hp->Prop)->Prop
structure Ends where
 nx:St->Hp->Prop
 rt:VK
 bk:St->Hp->Prop:=λ_ _=>False
 ct:St->Hp->Prop:=λ_ _=>False
abbrev TS:=Ends->St->Hp->Prop
noncomputable def EP(X:Cx)(z:GW)(B:St)(Q:VK)(u:eF)(s':eM):Prop:=∃v a,Inv X z B a s'/\RelV v u/\Q v a
noncomputable def TP(X:Cx)(z:GW)(B:St)(Q:Bool->Hp->Prop)(b:Bool)(s':eM):Prop:=∃a,Inv X z B a s'/\Q b a
noncomputable def AP(X:Cx)(z:GW)(G:St)(Q:List V->Hp->Prop)(B:List eF)(s':eM):Prop:=∃b a,Inv X z G a s'/\hA b B/\Q b a
noncomputable def SP(X:Cx)(z:GW)(D:Ends)(f:Flow)(s':eM):Prop:=
 match f with
 | .next=>∃a b,Inv X z a b s'/\D.nx a b
 | .brk=>∃a b,Inv X z a b s'/\D.bk a b
 | .cont=>∃a b,Inv X z a b s'/\D.ct a b
 | .ret u=>∃v a b,Inv X z a b s'/\RelV v u/\D.rt v b
noncomputable def PE(X:Cx)(e:f6)(t:TE):Prop:=
 ∀(a:GW) (s:eM) (b:St) (H:Hp) (Q:VK),Inv X a b H s->t b H Q->wpAny (fh X.prog X.w) X.A (fk e X.env) (EP X a b Q) X.xe s
noncomputable def PT(X:Cx)(e:f6)(t:TT):Prop:=
 ∀(a:GW) (s:eM) (b:St) (H:Hp) (Q:Bool->Hp->Prop),Inv X a b H s->t b H Q->wpAny (fh X.prog X.w) X.A (De e X.env<|eval e X.env) (TP X a b Q) X.xe s
noncomputable def PW(X:Cx)(e:f6)(t:TT):Prop:=
 ∀(z:Sem eF) (a:GW) (s:eM) (b:St) (H:Hp) (Q:Bool->Hp->Prop),Inv X a b H s->t b H Q->wpAny (fh X.prog X.w) X.A (De e X.env z) (TP X a b Q) X.xe s
theorem PW.pt(h:PW X e t):PT X e t:=h _
noncomputable def PA(X:Cx)(z:List f6)(t:TA):Prop:=
 ∀(pos:g9) (a:GW) (s:eM) (b:St) (H:Hp) (Q:List V->Hp->Prop),Inv X a b H s->t b H Q->wpAny (fh X.prog X.w) X.A (yg<|backTo pos<|starEach z X.env) (AP X a b Q) X.xe s
noncomputable def PS(X:Cx)(st:h9)(t:TS):Prop:=
 ∀(a:GW) (s:eM) (b:St) (H:Hp) (D:Ends),Inv X a b H s->t D b H->wpAny (fh X.prog X.w) X.A (exec st X.env) (SP X a D) X.xe s
noncomputable def q7(X:Cx)(st:List h9)(t:TS):Prop:=
 ∀(a:GW) (s:eM) (b:St) (H:Hp) (D:Ends),Inv X a b H s->t D b H->wpAny (fh X.prog X.w) X.A (execs st X.env) (SP X a D) X.xe s
theorem gE(h:wpAny M A t Q E s)(z : ∀a s,Q a s->Q' a s):wpAny M A t Q' E s:=pJ h z λ_ _ x=>x
section
variable{X:Cx}
def KP(i:Nat):TE:=λa H Q=>∃v,a[i]? = aI (aI v)/\Q v H
def tC(v:V):TE:=λ_ H Q=>Q v H
theorem Xf(O:X.N[i]? = aI x)(R:CF X.env.scope x)(G:(x==("__debug__" : Str))=dV:=by decide)(U:(x==("__classdict__" : Str))=dV:=by decide):PE X (.Name x pos) (KP i):=by
 intro a s g H Q I h;obtain⟨v,e,h⟩:=h;obtain⟨m,f,W⟩:=I.loc;obtain⟨u,r,l⟩:=W i x v O e R;have z:EP X a g Q u s:=⟨v,H,I,r,h⟩;rcases l with⟨hk,d⟩ | ⟨hk,c,b,B⟩
 ·exact Fc (wpAny_loadName_local I.ok.kind hk f d z) G
 ·rcases hk with hk | hk
  ·exact Fc (wpAny_loadName_cell I.ok.kind hk b B z) G
  ·exact Fc (wpAny_loadName_free I.ok.kind hk b B z U) G
theorem cb:PE X (.Constant (.int i) j pos) (tC<|.int i):=λ_ _ _ H _ I h=>wpAny_Constant_int ⟨.int i,H,I.tok _,⟨_,rfl⟩,h⟩
theorem iz:PE X (.Constant (.bool b) j pos) (tC<|.bl b):=λ_ _ _ H _ I h=>Constant_bool ⟨.bl b,H,I,rfl,h⟩
theorem bX:PE X (.Constant .none j pos) (tC .g8):=λ_ _ _ H _ I h=>Constant_none ⟨.g8,H,I,rfl,h⟩
theorem bT:PE X (.Constant (.str x) j pos) (tC<|.str x):=λ_ _ _ H _ I h=>uj ⟨.str x,H,I.tok _,⟨_,rfl⟩,h⟩
def Gl(X:Cx)(x:Str):Prop:=X.env.kindOf x=aI .globalImplicit
theorem qv(I:Inv X pins σ H s)(z:Gl X x)(G:X.mg x=aI u)(h:Q u s)
 (B:(x==("__debug__" : Str))=dV:=by decide):wpAny (fh X.prog X.w) X.A (fk (.Name x pos) X.env) Q E s:=
 Calls.Name_function_global I.ok.kind z (Calls.loadGlobal_global (by rw[I.ok.glob];exact I.mod.glob.keeps I.bk) G h) B
theorem qP(I:Inv X pins σ H s)(z:Gl X x)(J:X.mg x=bC)(B:Cb x=aI u)(h:Q u s)
 (L:x ≠ "__name__":=by decide) (G:(x==("__debug__" : Str))=dV:=by decide):wpAny (fh X.prog X.w) X.A (fk (.Name x pos) X.env) Q E s:=by
 obtain⟨d,a,b⟩:=I.mod.blt;exact Calls.Name_function_global I.ok.kind z (Calls.loadGlobal_builtin (by rw[I.ok.glob];exact I.mod.glob.keeps I.bk) J (by rw[I.ok.blt];exact a.keeps I.bk) ((b x L).trans B) h) G
variable{a b:f6}{ta tb:TE}{pos:g9}
def tB(t:TE):TT:=λb H Q=>t b H λx a=>∃c,x = .bl c/\Q c a
theorem bG(h:PE X e t)(B : ∀z,De e X.env z=(do let v <- z;CT e.pos;Cs [v] (truthy v)):=by intro _;rfl):PT X e (tB t):=by intro a s g H Q I f;refine isTrue_plain (gE (h a s g H _ I f) λv i O=>?_)<|B _;obtain⟨x,b,R,U,W⟩:=O;obtain⟨d,rfl,q⟩:=W;cases U;exact sG ⟨b,R,q⟩
variable{tA DR:TT}{rest:List f6}
noncomputable def nQ(t u:TT):TT:=λb H Q=>t b H λc a=>if c=cI then u b a Q else Q dV a
noncomputable def F4(t u:TT):TT:=λb H Q=>t b H λc a=>if c=cI then Q cI a else u b a Q
def nM(t:TT):TT:=λb H Q=>t b H λc a=>Q (!c) a
theorem Ws(B:PT X a tA):PW X (.BoolOp .And [a] pos) tA:=by
 intro z b s d H Q I h;refine isTrue_and<|gE (B b s d H Q I h) λc f e=>?_;cases c with
 | true=>exact isTrue_and_nil e
 | false=>exact e
theorem bA(B:PT X a tA):PW X (.BoolOp .Or [a] pos) tA:=by
 intro z b s d H Q I h;refine isTrue_or<|gE (B b s d H Q I h) λc f e=>?_;cases c with
 | false=>exact isTrue_or_nil e
 | true=>exact e
theorem bB(G:PT X a tA)(O:PW X (.BoolOp .And (b::rest) pos) DR):PW X (.BoolOp .And (a::b::rest) pos) (nQ tA DR):=by
 intro R d s f H Q I h;refine isTrue_and<|gE (G d s f H _ I h) λc g U=>?_;obtain⟨e,z,B⟩:=U;cases c with
 | true=>exact O R d g f e Q z B
 | false=>exact⟨e,z,B⟩
theorem ia(G:PT X a tA)(O:PW X (.BoolOp .Or (b::rest) pos) DR):PW X (.BoolOp .Or (a::b::rest) pos) (F4 tA DR):=by
 intro R d s f H Q I h;refine isTrue_or<|gE (G d s f H _ I h) λc g U=>?_;obtain⟨e,z,B⟩:=U;cases c with
 | true=>exact⟨e,z,B⟩
 | false=>exact O R d g f e Q z B
theorem bH(ha:PT X a tA):PT X (.UnaryOp .Not a pos) (nM tA):=by intro b s e H Q I h;exact isTrue_not<|ha b s e H (λc d=>Q (!c) d) I h
noncomputable def gB(ta tb:TE):TE:=λb H Q=>ta b H λx a=>∃c,x = .bl c/\if c=cI then tb b a Q else Q (.bl dV) a
noncomputable def nL(ta tb:TE):TE:=λb H Q=>ta b H λx a=>∃c,x = .bl c/\if c=cI then Q (.bl cI) a else tb b a Q
noncomputable def gx(ta:TE):TE:=λb H Q=>ta b H λx a=>∃c,x = .bl c/\Q (.bl<|!c) a
theorem bV(h:PE X a t):PE X (.BoolOp op [a] pos) t:=λb s e H Q I d=>BoolOp_one<|h b s e H Q I d
theorem cg(G:PE X a ta)(O:PE X (.BoolOp .And (b::rest) pos) tb):PE X (.BoolOp .And (a::b::rest) pos) (gB ta tb):=by
 intro d s f H Q I h;refine BoolOp_and<|gE (G d s f H _ I h) λv g R=>?_;obtain⟨x,e,B,U,z⟩:=R;obtain⟨c,rfl,z⟩:=z;cases U;refine sG ?_;cases c with
 | true=>exact O d g f e Q B z
 | false=>exact⟨.bl dV,e,B,rfl,z⟩
theorem iw(G:PE X a ta)(O:PE X (.BoolOp .Or (b::rest) pos) tb):PE X (.BoolOp .Or (a::b::rest) pos) (nL ta tb):=by
 intro d s f H Q I h;refine BoolOp_or<|gE (G d s f H _ I h) λv g R=>?_;obtain⟨x,e,B,U,z⟩:=R;obtain⟨c,rfl,z⟩:=z;cases U;refine sG ?_;cases c with
 | false=>exact O d g f e Q B z
 | true=>exact⟨.bl cI,e,B,rfl,z⟩
theorem bW(G:PE X a ta):PE X (.UnaryOp .Not a pos) (gx ta):=by intro b s e H Q I h;refine UnaryOp_<|gE (G b s e H _ I h) λv f B=>?_;obtain⟨x,d,O,R,z⟩:=B;obtain⟨c,rfl,z⟩:=z;cases R;exact not_of<|sG ⟨.bl<|!c,d,O,rfl,z⟩
noncomputable def Ep(t:TT)(ta tb:TE):TE:=λa H Q=>t a H λc b=>if c=cI then ta a b Q else tb a b Q
theorem Yy(J:PT X c tA)(G:PE X a ta)(O:PE X b tb):PE X (.IfExp c a b pos) (Ep tA ta tb):=by
 intro e s f H Q I h;refine wpAny_IfExp<|gE (J e s f H _ I h) λd i R=>?_;obtain⟨g,z,B⟩:=R;cases d with
 | true=>exact G e i f g Q z B
 | false=>exact O e i f g Q z B
end
noncomputable def i2(K:pv)(H:Hp)(a:cS)(xs:List V):Prop:=
 Rd H a (.lst xs)\/
  ∃(o:l3) (z:Array eF) (n:Nat),K.lookup a=aI o/\o.cls = .type "list"/\o.dict=bC/\o.data = .seq z n/\z.size<=i6/\hA xs z.toList
noncomputable def i4(K:pv)(H:Hp)(a:cS)(xs:List V):Prop:=
 Rd H a (.tup xs)\/
  ∃(o:l3) (z:Array eF) (n:Nat),K.lookup a=aI o/\(o.cls,o.dict)=(tZ "tuple",bC)/\o.data = .seq z n/\z.size<=i6/\hA xs z.toList
noncomputable def oQ:eF->Option V
 | .none=>aI .g8
 | .bool b=>aI (.bl b)
 | .int i _=>aI (.int i)
 | .str x _=>aI (.str x)
 | .bytes b _=>aI (.D5 b)
 | .float b _=>aI (.CM b)
 | .ref a=>aI (.ref a)
 | .type n=>aI (.ty n)
 | _=>bC
theorem RelV.abs(r:RelV x u):oQ u=aI x:=by
 cases x with
 | g8=>cases r;rfl
 | bl _=>cases r;rfl
 | int _=>obtain⟨t,rfl⟩:=r;rfl
 | str _=>obtain⟨t,rfl⟩:=r;rfl
 | D5 _=>obtain⟨t,rfl⟩:=r;rfl
 | CM _=>obtain⟨t,rfl⟩:=r;rfl
 | ref _=>cases r;rfl
 | ty _=>cases r;rfl
theorem RelV.inj(r:RelV x u)(q:RelV y u):x=y:=pX<|r.abs.symm.trans q.abs
theorem hA.inj : ∀{xs B:List V} {z:List eF},hA xs z->hA B z->xs=B
 | _,_,_,.nil,.nil=>rfl
 | _,_,_,.cons r t,.cons r' t'=>by rw[r.inj r',hA.inj t t']
section
variable{X:Cx}{pins:GW}{σ:St}{H:Hp}{s:eM}{a:cS}{xs ys:List V}
theorem i2.of{K:pv}(h:H a=aI (.lst xs)):i2 K H a xs:= .inl (.inl h)
theorem i4.of{K:pv}(h:H a=aI (.tup xs)):i4 K H a xs:= .inl (.inl h)
theorem Inv.list(I:Inv X pins σ H s)(h:i2 X.K H a xs) : ∃B:List eF,hA xs B/\PlainL s.heap a B.toArray/\xs.length<=i6:=by
 rcases h with h | ⟨o,B,n,hk,hc,hd,hs,O,r⟩
 ·obtain⟨z,B,n,r,e⟩:=h.ok I.gv
  exact⟨B,r,⟨_,n,e,rfl,rfl,rfl⟩,z⟩
 ·refine⟨B.toList,r,⟨o,n,I.ij a o hk,hc,hd,by simpa using hs⟩,?_⟩
  have e:=r.length;simp only[Az]at e;omega
theorem Inv.tuple(I:Inv X pins σ H s)(h:i4 X.K H a xs) : ∃B:List eF,hA xs B/\C4 s.heap a B.toArray/\xs.length<=i6:=by
 rcases h with h | ⟨o,B,n,hk,hc,hs,O,r⟩
 ·obtain⟨z,B,r,p⟩:=h.ok I.gv
  exact⟨B,r,p.tup,z⟩
 ·refine⟨B.toList,r,⟨o,I.ij a o hk,(Prod.mk.inj hc).1,n,by simpa using hs⟩,?_⟩
  have e:=r.length;simp only[Az]at e;omega
theorem Inv.Eg(I:Inv X pins σ H s)(h:i2 X.K H a xs)(h':i2 X.K H a ys):xs=ys:=by
 obtain⟨B,r,⟨o,n,e,_,_,d⟩,_⟩:=I.list h;obtain⟨b,O,⟨g,U,z,_,_,f⟩,_⟩:=I.list h';rw[e]at z;cases z;rw[d]at f;injection f with R _;have:B=b:=by simpa using congrArg Array.toList R
 subst this;exact r.inj O
theorem Inv.E6(I:Inv X pins σ H s)(h:i4 X.K H a xs)(h':i4 X.K H a ys):xs=ys:=by
 obtain⟨B,r,⟨o,e,_,n,d⟩,_⟩:=I.tuple h;obtain⟨b,O,⟨g,z,_,U,f⟩,_⟩:=I.tuple h';rw[e]at z;cases z;rw[d]at f;injection f with R _;have:B=b:=by simpa using congrArg Array.toList R
 subst this;exact r.inj O
end
abbrev Cx.l4(X:Cx)(E:GQ):Cx:={X with xe:=E}
abbrev Cx.m7(X:Cx):Cx:=X.l4 λ_ _=>False
theorem Cx.Ok.l4{X:Cx}(ok:X.Ok)(E:GQ):(X.l4 E).Ok:=
 ⟨ok.mod,ok.kind,ok.glob,ok.blt,ok.above,ok.inj,ok.has,ok.Cq,ok.hd,ok.frames,ok.BJ,ok.Cd,ok.bs,ok.Bq,ok.Cw,ok.Ce,ok.n5,ok.zx⟩
theorem Cx.Ok.o7{X:Cx}{E:GQ}(ok:(X.l4 E).Ok):X.Ok:=
 ⟨ok.mod,ok.kind,ok.glob,ok.blt,ok.above,ok.inj,ok.has,ok.Cq,ok.hd,ok.frames,ok.BJ,ok.Cd,ok.bs,ok.Bq,ok.Cw,ok.Ce,ok.n5,ok.zx⟩
section
variable{X:Cx}{pins:GW}{σ:St}{H:Hp}{s:eM}{E:GQ}
theorem Inv.l4(I:Inv X pins σ H s)(E:GQ):Inv (X.l4 E) pins σ H s:=⟨I.ok.l4 E,I.os,I.bare,I.base,I.loc,I.cell,I.free,I.zv,I.pin,I.gv,I.len⟩
theorem Inv.o7(I:Inv (X.l4 E) pins σ H s):Inv X pins σ H s:=⟨I.ok.o7,I.os,I.bare,I.base,I.loc,I.cell,I.free,I.zv,I.pin,I.gv,I.len⟩
theorem SP.o7(h:SP (X.l4 E) pins D f s'):SP X pins D f s':=by
 cases f with
 | next=>obtain⟨a,b,I,q⟩:=h;exact⟨a,b,I.o7,q⟩
 | brk=>obtain⟨a,b,I,q⟩:=h;exact⟨a,b,I.o7,q⟩
 | cont=>obtain⟨a,b,I,q⟩:=h;exact⟨a,b,I.o7,q⟩
 | ret u=>obtain⟨v,a,b,I,r,q⟩:=h;exact⟨v,a,b,I.o7,r,q⟩
theorem q7.m7{st:List h9}{t:TS}(h:q7 X.m7 st t):q7 X st t:=λpins s σ H D I a=>
 pJ (h pins s σ H D (I.l4 _) a) (λ_ _ q=>q.o7) λ_ _ z=>rR z
end
section
variable{X:Cx}{st:h9}{rest:List h9}{t u:TS}{e:f6}{te:TE}{pos:g9}
def gz:TS:=λD a H=>D.nx a H
def aP(t u:TS):TS:=λD a H=>t {D with nx:=u D} a H
theorem Wx:q7 X [] gz:=λ_ _ a H _ I h=>Ac ⟨a,H,I,h⟩
theorem vW(B:PS X st t)(G:q7 X rest u):q7 X (st::rest) (aP t u):=by
 intro a s g H D I h;refine sN<|gE (B a s g H {D with nx:=u D} I h) λf e q=>?_;cases f with
 | next=>
  obtain⟨b,d,z,q⟩:=q;exact G a e b d D z q
 | ret v=>exact q
 | brk=>exact q
 | cont=>exact q
theorem vV(z:PS X st t):q7 X [st] t:=by
 intro a s b H D I h;refine sN<|gE (z a s b H D I h) λf d q=>?_;cases f with
 | next=>exact Ac q
 | ret v=>exact q
 | brk=>exact q
 | cont=>exact q
theorem Inv.quiet(I:Inv X pins σ H s):interactive X.env=dV:=by simp[interactive,I.ok.kind]
def gA(te:TE):TS:=λD a H=>te a H λ_ b=>D.nx a b
theorem WC(z:PE X e te)(hs:t6 e bC pos.line X.env=pure dV:=by rfl):PS X (.Expr e pos) (gA te):=by intro a s b H D I h;exact wpAny_Expr_any (gE (z a s b H _ I h) λv f ⟨x,d,B,R,O⟩=>⟨b,d,B,O⟩) I.quiet hs
def nK(te:TE):TS:=λD a H=>te a H D.rt
theorem Q6(z:PE X e te):PS X (.Return (aI e) pos) (nK te):=by intro a s b H D I h;exact wpAny_Return_some<|gE (z a s b H _ I h) λv f ⟨x,d,B,O,R⟩=>⟨x,b,d,B,O,R⟩
noncomputable def nO(c:TT)(t u:TS):TS:=λD a H=>c a H λb d=>if b=cI then t D a d else u D a d
theorem ip(J:PT X c tc)(G:q7 X a t)(O:q7 X b u):PS X (.If c a b pos) (nO tc t u):=by
 intro e s f H D I h;refine wpAny_If<|gE (J e s f H _ I h) λd i R=>?_;obtain⟨g,z,B⟩:=R;cases d with
 | true=>exact G e i f g D z B
 | false=>exact O e i f g D z B
def aQ:TS:=λ_ _ _=>False
theorem Ys:PS X st aQ:=λ_ _ _ _ _ _ h=>h.elim
end
abbrev TG:=V->St->Hp->(St->Hp->Prop)->Prop
abbrev CD:=List V->St->Hp->(St->Hp->Prop)->Prop
noncomputable def PG(X:Cx)(z:f6)(t:TG):Prop:=
 ∀(a:GW) (s:eM) (e:St) (H:Hp) (v:V) (u:eF) (Q:St->Hp->Prop),Inv X a e H s->RelV v u->t v e H Q->
  wpAny (fh X.prog X.w) X.A (Bp z X.env u) (λ_ f=>∃b d,Inv X a b d f/\Q b d) X.xe s
noncomputable def C5(X:Cx)(z:List f6)(t:CD):Prop:=
 ∀(a:GW) (s:eM) (g:St) (H:Hp) (f:List V) (e:List eF) (Q:St->Hp->Prop),Inv X a g H s->hA f e->t f g H Q->
  wpAny (fh X.prog X.w) X.A (assignInOrder ((BQ z X.env).map (·.2)) e) (λ_ h=>∃b d,Inv X a b d h/\Q b d) X.xe s
abbrev ny:=V->V->V->Hp->(Hp->Prop)->Prop
noncomputable def nA(X:Cx)(t:ny):Prop:=
 ∀(a:GW) (s:eM) (d:St) (H:Hp) (o i v:V) (z B u:eF) (Q:Hp->Prop),Inv X a d H s->RelV o z->RelV i B->RelV v u->t o i v H Q->
  wpAny (fh X.prog X.w) X.A (EX z B u) (λ_ e=>∃b,Inv X a d b e/\Q b) X.xe s
section
variable{X:Cx}{pos:g9}
def ku(i:Nat):TG:=λv a H Q=>Q (a.set i<|some v) H
theorem Xe(z:X.N.Nodup)(J:X.N[i]? = aI x)(hx:Loc X.env.scope x)(G:X.fn x=cI\/X.env.scope.names.lookup x=aI .local:=by first | exact .inl rfl | exact .inr rfl | assumption):PG X (.Name x pos) (ku i):=by intro a s d H v u Q I r h;exact Ga<|vP I z J hx r (λb B=>⟨_,H,B,h⟩) G
def mL:CD:=λa b H Q=>a=[]/\Q b H
noncomputable def du(t:TG)(u:CD):CD:=λd e H Q=>∃v r,d=v::r/\t v e H λa b=>u r a b Q
theorem ZH:C5 X [] mL:=by intro a s b H f d Q I r h;obtain⟨e,h⟩:=h;subst e;cases r;exact assignInOrder_nil ⟨b,H,I,h⟩
theorem qW(G:PG X e t)(J:C5 X es u)
 (hs:(BQ (e::es) X.env).map (·.2)=Bp e X.env::(BQ es X.env).map (·.2):=by rfl):C5 X (e::es) (du t u):=by
 intro a s g H j i Q I r h;obtain⟨v,W,d,h⟩:=h;subst d;cases r with
 | cons r z=>
  rw[hs];refine assignInOrder_cons<|gE (G a s g H _ _ _ I r h) λ_ f B=>?_;obtain⟨O,b,R,U⟩:=B;exact J a f O b _ _ Q R z U
noncomputable def mK(K:pv)(n:Nat)(t:CD):TG:=λv d H Q=>∃a b,v = .ref a/\i4 K H a b/\b.length=n/\t b d H Q
theorem bP(G:X.calm=cI)(h:C5 X es t)
 (J:(BQ es X.env).length=n:=by rfl) (B:(BQ es X.env).findIdx? (·.1)=bC:=by rfl):PG X (.Tuple es k pos) (mK X.K n t):=by
 intro d s g H v u Q I r f;obtain⟨a,p,i,l,O,f⟩:=f;subst i;cases r;obtain⟨W,z,R,Y⟩:=I.tuple l;refine assign_Tuple_tuple (I.ok.hd G) R (by simp[J,<- O,z.length]) B λj m=>?_;have U:Inv X d g H {s with heap:=j}:=I.kept (t':=s.toks) λb o e=>m b o (pP<|pE e) e;exact h d _ g H p _ Q U (by simpa using z) f
noncomputable def oM(to z:TE)(t:ny):TG:=λv a H Q=>to a H λo b=>z a b λi d=>t o i v d λB=>Q a B
theorem bQ(R:PE X o to)(J:PE X i ti)(hs:nA X t)
 (G : ∀v,Bp (.Subscript o i pos) X.env v=(do
   let z <- Cs [v] (fk o X.env);let B <- Cs [v,z] (fk i X.env)
   CT pos
   Cs [v,z,B] (EX z B v)
   release [v,z,B] []):=by intro _;rfl):PG X (.Subscript o i pos) (oM to ti t):=by
 intro a s b H v u Q I r h;rw[G];refine pw<|rk<|gE (R a s b H _ I h) λz n O=>?_;obtain⟨x,d,U,W,Y⟩:=O;refine pw<|rk<|gE (J a n b d _ U Y) λB p O=>?_;obtain⟨y,e,g,m,k⟩:=O;refine pw<|sk<|pw<|rk<|gE (hs a p b e x y v z B u _ g W m r k) λ_ w O=>?_;obtain⟨f,j,l⟩:=O;exact wpAny_release ⟨b,f,j,l⟩
def Qw(z:TE)(g:TG):TS:=λD a H=>z a H λx b=>g x a b D.nx
theorem Q8(z:PE X e te)(B:PG X tg g)(hs:En [tg] e pos.line X.env=pure dV:=by rfl)(J:EZ [tg] e X.env=pure bC:=by rfl)
 (G:(BQ [tg] X.env).map (·.2)=[Bp tg X.env]:=by rfl):PS X (.Assign [tg] e pos) (Qw te g):=by
 intro a s b H D I h;refine wpAny_Assign_stores (gE (z a s b H _ I h) λv f O=>?_) hs J;obtain⟨x,d,R,U,W⟩:=O;rw[G];exact gE (B a f b d x v _ R U W) λ_ i q=>q
theorem Vr(z:X.N.Nodup)(J:X.N[i]? = aI x)(hx:Loc X.env.scope x)(B:PE X e te)(hs:t6 e (aI (.Name x pos')) pos.line X.env=pure dV:=by rfl)(G:X.fn x=cI\/X.env.scope.names.lookup x=aI .local:=by first | exact .inl rfl | exact .inr rfl | assumption) :
 PS X (.Assign [.Name x pos'] e pos) (Qw te<|ku i):=by
 intro a s d H D I h;refine uG (gE (B a s d H _ I h) λv f O=>?_) hs;obtain⟨y,b,R,U,W⟩:=O;exact vP R z J hx U (λg Y=>⟨_,b,Y,W⟩) G
end
structure It where
 go:Nat->Hp->Prop
 BL:Nat->Hp->V->Hp->Prop
 stop:Nat->Hp->Prop
noncomputable def Zp(X:Cx)(z:GW)(H:Hp)(b:cS):Prop:=
 H b=bC/\b≠X.env.locals/\b∉X.fs/\(b∈X.ex\/X.hF.heap.objs.size<=b)/\(∀x c,X.env.cells.lookup x=aI c->c≠b)/\∀p∈X.pn++z,p.1≠b
theorem Inv.DH(I:Inv X pins σ H s)(B:s.heap.objs.size<=b)(G:H' b=bC):Zp X pins H' b:=by
 refine⟨G,uh<|pH I.lt B,I.FR B,.inr<|rV I.sz B,λx c e z=>?_,λp O z=>?_⟩
 ·obtain⟨v,q⟩:=I.cell x c e
  exact absurd (pH q.lt<|by rw[z];exact B)<|sO _
 ·exact absurd (pH (pE (I.pin p O).1)<|by rw[z];exact B)<|sO _
structure Turn(P:iv)(w:h8)(K:pv)(tg:f6)(J:It)(fp:List cS)(it:cS)(tn:Nat->fy->Prop):Prop where
 mem:it∈fp
 obj : ∀i h,tn i h->∀b∈fp,∃o,h.get? b=aI o/\∀v,o.data ≠ .cell v
 keep : ∀i h h',tn i h->(∀b∈fp,∀o,h.get? b=aI o->h'.get? b=aI o)->tn i h'
 item : ∀(X:Cx),X.prog=P->X.w=w->X.K=K->X.calm=cI->∀(i:Nat) (pins:GW) (s:eM) (σ:St) (H:Hp) (E:GQ),Inv X pins σ H s->(∀b∈fp,Zp X pins H b)->tn i s.heap->J.go i H->
  wpAny (fh P w) X.A (Dk<|.ref it) (λr s1=>∃u,r=aI u/\
   wpAny (fh P w) X.A (Df tg (.ref it) u) (λ_ s2=>∃x H',Inv X pins σ H' s2/\RelV x u/\J.BL i H x H'/\tn (i+1) s2.heap/\∀b∈fp,H' b=bC) E s1) E s
 done : ∀(X:Cx),X.prog=P->X.w=w->X.K=K->X.calm=cI->∀(i:Nat) (pins:GW) (s:eM) (σ:St) (H:Hp) (E:GQ),Inv X pins σ H s->(∀b∈fp,Zp X pins H b)->tn i s.heap->J.stop i H->
  wpAny (fh P w) X.A (Dk<|.ref it) (λr s1=>r=bC/\Inv X pins σ H s1) E s
 self : ∀(A:i7) (i:Nat) (s:eM) (Q:GQ) (E:GQ),tn i s.heap->Q (.ref it) s->wpAny (fh P w) A (Dj<|.ref it) Q E s
abbrev TI:=St->Hp->(It->Hp->Prop)->Prop
noncomputable def EE(X:Cx)(B:GW)(I:St)(H:f6)(R:It->Hp->Prop)(z:eF)(G:eM):Prop:=
 ∃(e:cS) (d:List cS) (f:Nat->fy->Prop) (J:It) (a:Hp),z = .ref e/\Inv X B I a G/\Turn X.prog X.w X.K H J d e f/\f 0 G.heap/\(∀b∈d,Zp X B a b)/\R J a
noncomputable def PI(X:Cx)(B z:f6)(G:TI):Prop:=
 ∀(a:GW) (s:eM) (b:St) (H:Hp) (R:It->Hp->Prop),Inv X a b H s->G b H R->
  wpAny (fh X.prog X.w) X.A (fk z X.env) (λv d=>wpAny (fh X.prog X.w) X.A (Dj v) (EE X a b B R) X.xe d) X.xe s
theorem WW(B:s.heap.get? it=aI o)(G:o.cls = .type n)(H:o.data = .fields vs)
 (I:["enumerate","zip","dict_itemiterator","dict_reverseitemiterator","odict_iterator","itertools.zip_longest","itertools.pairwise"].contains n=dV) (z:Q () s):wpAny M A (Df tg (.ref it) u) Q E s:=by
 unfold Df;cases tg<;>first
  | exact pD z
  | (cases u<;>first
      | exact pD z
      | (refine pw (wpAny_load B ?_)
         rw[G,H];show wpAny M A (if (["enumerate","zip","dict_itemiterator","dict_reverseitemiterator","odict_iterator","itertools.zip_longest","itertools.pairwise"].contains n && vs[0]? == aI (Dl _))=cI then _ else _) Q E s;rw[MQ (by intro h;rw[I,Bool.false_and]at h;cases h)];exact pD z))
noncomputable def EC(K:pv)(a:cS):It:=
 ⟨λi H=>∃b x,i2 K H a b/\b[i]? = aI x,λi H x d=>d=H/\∀b,i2 K H a b->b[i]? = aI x,λi H=>∃b,i2 K H a b/\b.length<=i⟩
noncomputable def ED(K:pv)(a:cS):It:=
 ⟨λi H=>∃b x,i4 K H a b/\b[i]? = aI x,λi H x d=>d=H/\∀b,i4 K H a b->b[i]? = aI x,λi H=>∃b,i4 K H a b/\b.length<=i⟩
noncomputable def DA(lo:Int)(n:Nat):It:=⟨λi _=>i<n,λi H x a=>a=H/\x = .int (lo+i),λi _=>n<=i⟩
theorem Qs{P:iv}{w:h8}{K:pv}{tg:f6}(a it:cS):Turn P w K tg (EC K a) [it] it (λi h=>h.IsListIter it a i) where
 mem:=by simp
 obj:=λi h st b B=>by
  have e:b=it:=by simpa using B
  subst e;obtain⟨o,e,c,d⟩:=st;exact⟨o,e,λv z=>by rw[d]at z;cases z⟩
 keep:=λi h h' st k=>st.at λo e=>k it ⋯ o e
 item:=by intro X O hw R hc i pins s σ H E I hf st U;subst O hw R;obtain⟨xs,x,hq,hx⟩:=U;obtain⟨a6,W,p,hz⟩:=I.list hq;obtain⟨u,hu,ru⟩:=W.get hx;obtain⟨Y,f1,f2,f3,f4,f5⟩:=hf it ⋯;refine wpAny_pyNext_list_item st p.isList (x:=u) (by simpa using hu) λh' a5 sb=>?_;have I1:Inv X pins σ H {s with heap:=h'}:=I.turned (t':=s.toks) (λb o B e=>(sb.2 b B).trans e) Y f1 f3 f4 f5;obtain⟨o,e,c,d⟩:=id a5;exact⟨u,rfl,WW (s:={s with heap:=h'}) e c d ⋯ ⟨x,H,I1,ru,⟨rfl,λys hy=>by rw[I.Eg hy hq];exact hx⟩,a5,λb B=>(hf b B).1⟩⟩
 done:=by intro X O hw R hc i pins s σ H E I hf st U;subst O hw R;obtain⟨xs,hq,hx⟩:=U;obtain⟨a6,W,p,hz⟩:=I.list hq;obtain⟨Y,f1,f2,f3,f4,f5⟩:=hf it ⋯;have hl:=W.length;exact wpAny_pyNext_list_end (I.ok.hd hc) st p.isList (by simp;omega) λh' eb=>⟨rfl,I.turned (t':=s.toks) (λb o B e=>eb b o B e) Y f1 f3 f4 f5⟩
 self:=λ_ _ _ _ _ st h=>wpAny_pyIter_listiter st h
theorem JK{P:iv}{w:h8}{K:pv}{tg:f6}(a it:cS):Turn P w K tg (ED K a) [it] it (λi h=>h.IsTupleIter it a i) where
 mem:=by simp
 obj:=λi h st b B=>by
  have e:b=it:=by simpa using B
  subst e;obtain⟨o,e,c,d⟩:=st;exact⟨o,e,λv z=>by rw[d]at z;cases z⟩
 keep:=λi h h' st k=>st.at λo e=>k it ⋯ o e
 item:=by intro X O hw R hc i pins s σ H E I hf st U;subst O hw R;obtain⟨xs,x,hq,hx⟩:=U;obtain⟨W,Y,p,hz⟩:=I.tuple hq;obtain⟨u,hu,ru⟩:=Y.get hx;obtain⟨f0,f1,f2,f3,f4,f5⟩:=hf it ⋯;refine wpAny_pyNext_tuple_item st (show s.heap.IsTuple a W.toArray from p) (x:=u) (by simpa using hu) λh' a6 sb=>?_;have I1:Inv X pins σ H {s with heap:=h'}:=I.turned (t':=s.toks) (λb o B e=>(sb.2 b B).trans e) f0 f1 f3 f4 f5;obtain⟨o,e,c,d⟩:=id a6;exact⟨u,rfl,WW (s:={s with heap:=h'}) e c d ⋯ ⟨x,H,I1,ru,⟨rfl,λys hy=>by rw[I.E6 hy hq];exact hx⟩,a6,λb B=>(hf b B).1⟩⟩
 done:=by intro X O hw R hc i pins s σ H E I hf st U;subst O hw R;obtain⟨xs,hq,hx⟩:=U;obtain⟨W,Y,p,hz⟩:=I.tuple hq;obtain⟨f0,f1,f2,f3,f4,f5⟩:=hf it ⋯;have hl:=Y.length;exact wpAny_pyNext_tuple_end (I.ok.hd hc) st (show s.heap.IsTuple a W.toArray from p) (by simp;omega) λh' eb=>⟨rfl,I.turned (t':=s.toks) (λb o B e=>eb b o B e) f0 f1 f3 f4 f5⟩
 self:=λ_ _ _ _ _ st h=>wpAny_pyIter_tupleiter st h
theorem JL{P:iv}{w:h8}{K:pv}{tg:f6}(it:cS)(lo:Int)(n:Nat):Turn P w K tg (DA lo n) [it] it (λi h=>IsRangeIter h it (lo+(i:Nat)*1) ((n:Int) - (i:Nat)) 1) where
 mem:=by simp
 obj:=λi h st b B=>by
  have e:b=it:=by simpa using B
  subst e;exact⟨_,st,λv z=>by have z':Data.fields _=Data.cell v:=z;cases z'⟩
 keep:=λi h h' st k=>k it ⋯ _ st
 item:=by intro X O hw R hc i pins s σ H E I hf st U;subst O hw R;obtain⟨Y,f1,f2,f3,f4,f5⟩:=hf it ⋯;have W:=Walks.range (prog:=X.prog) (w:=X.w) (I.ok.hd hc) it lo 1 n;refine W.item i s _ _ U st λv h' tk hv a5 kk=>?_;obtain⟨t,rfl⟩:=hv;have I1:Inv X pins σ H {s with heap:=h',toks:=tk}:=I.turned (λb o B e=>kk b o (by simpa using B) e) Y f1 f3 f4 f5;refine⟨_,rfl,WW (s:={s with heap:=h',toks:=tk}) (n:="range_iterator") a5 rfl rfl ⋯ ⟨.int (lo+i),H,I1,⟨t,?_⟩,⟨rfl,rfl⟩,a5,λb B=>(hf b B).1⟩⟩;rw[Int.mul_one]
 done:=by intro X O hw R hc i pins s σ H E I hf st U;subst O hw R;obtain⟨Y,f1,f2,f3,f4,f5⟩:=hf it ⋯;exact wpAny_pyNext_range_end (I.ok.hd hc) st (by have:n<=i:=U;omega) λh' eb=>⟨rfl,I.turned (t':=s.toks) (λb o B e=>eb b o B e) Y f1 f3 f4 f5⟩
 self:=λ_ _ _ _ _ st h=>wpAny_pyIter_rangeiter st h
section
variable{X:Cx}{tg:f6}
theorem KZ{J:GW}{P:St}{H:Hp}{s:eM}{R:It->Hp->Prop}{E:GQ}{lo G:Int}{t u v:Tok}{L:Nat}(I:Inv X J P H s)(Y : -(2 ^ 62)<=lo)(Z:lo<2 ^ 62)(B : -(2 ^ 62)<=G)(O:G<2 ^ 62)
 (q:R (DA lo (G - lo).toNat) H):wpAny (fh X.prog X.w) X.A (Dj (.ref s.heap.objs.size)) (EE X J P tg R) E {s with heap:=s.heap.push {cls:= .type "range",data:= .fields #[.int lo t,.int G u,.int 1 v]},toks:=L}:=by
 refine wpAny_pyIter_range (IsRange.new ..) (small_one Y Z B O) ?_;have z:Inv X J P H {s with heap:=s.heap.push {cls:= .type "range",data:= .fields #[.int lo t,.int G u,.int 1 v]},toks:=L}:=I.kept λb o e=>pA _ e;refine⟨(s.heap.push {cls:= .type "range",data:= .fields #[.int lo t,.int G u,.int 1 v]}).objs.size,[(s.heap.push {cls:= .type "range",data:= .fields #[.int lo t,.int G u,.int 1 v]}).objs.size],_,_,H,rfl,
  z.kept (t':=L) λb o e=>pA _ e,JL _ lo (G - lo).toNat,?_,λb U=>?_,q⟩
 ·have a:lo+((0:Nat):Int)*1=lo:=by simp
  have W:(((G - lo).toNat:Nat):Int) - ((0:Nat):Int)=Builtin.Range.rangeSize lo G 1:=by rw[rangeSize_one];split<;>omega
  show IsRangeIter _ _ (lo+((0:Nat):Int)*1) ((((G - lo).toNat:Nat):Int) - ((0:Nat):Int)) 1;rw[a,W];exact pS _ rfl
 ·have e:b=(s.heap.push {cls:= .type "range",data:= .fields #[.int lo t,.int G u,.int 1 v]}).objs.size:=by simpa using U
  subst e;exact z.DH (pN _)<|z.gv.fresh<|pN _
noncomputable def iN(z:TA):TI:=λd H R=>z d H λb a=>∃j:Int,b=[.int j]/\ -(2 ^ 62)<=j/\j<2 ^ 62/\R (DA 0 j.toNat) a
theorem Xc{a:f6}{G:TA}{p pos:g9}(B:Gl X "range")(L:X.mg "range" = bC)(J:PA X [a] G)(hs:hX [a] X.env=[(dV,fk a X.env)]:=by rfl):PI X tg (.Call (.Name "range" p) [a] [] pos) (iN G):=by
 intro b s f H R I h;refine Call_<|qP I B L boot_range<|tu (gE (J pos b s f H _ I h) λk i O=>?_) hs rfl;obtain⟨l,g,U,W,z⟩:=O;obtain⟨j,e,z,Y,q⟩:=z;subst e;cases W with
 | cons r d=>
  cases d;obtain⟨t,rfl⟩:=r;exact call_range_1 (KZ U ⋯ ⋯ z Y<|by simpa using q)
noncomputable def nP(G:TI)(g:TG)(B:TS):TS:=λD a H=>G a H λJ f=>∃W:Nat->Nat->St->Hp->Prop,(∃m,W 0 m a f)/\∀i m a H,W i m a H->
 (J.stop i H/\D.nx a H)\/(J.go i H/\∃N:St->Hp->Prop,(∀d b,N d b->∃e,e<m/\W (i+1) e d b)/\∀x b,J.BL i H x b->g x a b λz h=>B {D with nx:=N,ct:=N,bk:=D.nx} z h)
noncomputable def vv(fp:List cS)(h:fy):List (cS×l3):=fp.filterMap λb=>(h.get? b).map λo=>(b,o)
theorem qp(z:b∈fp)(e:h.get? b=aI o):(b,o)∈vv fp h:=uk.mpr ⟨b,z,by rw[e];rfl⟩
theorem Xr(z:p∈vv fp h):p.1∈fp/\h.get? p.1=aI p.2:=by
 obtain⟨b,B,e⟩:=uk.mp z;cases q:h.get? b with
 | none=>rw[q]at e;cases e
 | some o=>
  rw[q]at e;have I:(b,o)=p:=pX e;subst I;exact⟨B,q⟩
theorem Inv.pinned(I:Inv X pins σ H s)(G : ∀b∈fp,Zp X pins H b)(R : ∀b∈fp,∃o,s.heap.get? b=aI o/\∀v,o.data ≠ .cell v):Inv X (pins++vv fp s.heap) σ H s:=
 I.ES λp U=>(tf.mp U).elim (λz=>I.pin p<|pY _ z) λz=>by obtain⟨B,e⟩:=Xr z;obtain⟨W,Y,f2,_⟩:=G p.1 B;obtain⟨o,O,d⟩:=R p.1 B;rw[e]at O;cases O;exact⟨e,W,Y,f2,d⟩
theorem Inv.CV(I:Inv X (pins++pl) σ H s):Inv X pins σ H s:=I.ES λp z=>I.pin p<|pY _<|List.mem_append_left _ z
theorem bI(G:EF (fh X.prog X.w) X.A X.env X.xe)(hc:X.calm=cI)(hi:PI X tg iter wi)(hg:PG X tg g)(z:q7 X body tb)
 (hs : ∀x,xA iter X.env x=pure x:=by intro _;rfl):PS X (.For tg iter body [] pos) (nP wi g tb):=by
 intro a s σ H D I h;refine wpAny_For (gE (hi a s σ H _ I h) λv s1 h1=>gE h1 λch s2 h2=>?_) hs;obtain⟨it,p,tn,J,H2,e,I2,T,bb,f2,W,⟨m0,w0⟩,bg⟩:=h2;subst e;have F : ∀{l:Hp},(∀b∈p,l b=bC)->∀b∈p,Zp X a l b:=λhn b z=>⟨hn b z,(f2 b z).2⟩;refine codeAny_forLoop_any (λn s'=>∃i j l,Inv X a j l s'/\tn i s'.heap/\(∀b∈p,l b=bC)/\W i n j l) ?_ m0 ⟨0,σ,H2,I2,bb,λb z=>(f2 b z).1,w0⟩;rintro n s3 ⟨i,k,E,S,y,Z,w3⟩;rcases bg i n k E w3 with⟨C,qn⟩ | ⟨go,N,hN,step⟩
 ·refine Ab G (gE (T.done X rfl rfl rfl hc i a s3 k E X.xe S (F Z) y C) λr s4 Y=>?_)
  obtain⟨L,I4⟩:=Y;subst L;exact Ac ⟨k,E,I4,qn⟩
 ·refine Ab G (gE (T.item X rfl rfl rfl hc i a s3 k E X.xe S (F Z) y go) λr s4 Y=>?_)
  obtain⟨u,L,h4⟩:=Y;subst L;refine Ab G<|gE h4 λ_ s5 Y=>?_;obtain⟨x,Q,I5,r5,y5,K,c5⟩:=Y;have c6:=I5.pinned (F c5)<|T.obj _ _ K;refine Ab G<|gE (hg _ s5 k Q x u _ c6 r5<|step x Q y5) λ_ s6 Y=>?_;obtain⟨P,H6,I6,q6⟩:=Y;refine Ab G<|gE (z _ s6 P H6 _ I6 q6) λf M U=>?_;have again : ∀{B:St} {O:Hp},Inv X (a++vv p s5.heap) B O M->N B O->∃m,m<n/\∃i j l,Inv X a j l M/\tn i M.heap/\(∀b∈p,l b=bC)/\W i m j l:=λ{B O} R t=>by obtain⟨m',hm,w7⟩:=hN B O t;refine⟨m',hm,i+1,B,O,R.CV,T.keep _ _ _ K λb z o e=>(R.pin (b,o)<|pY _<|pY _<|qp z e).1,λb z=>?_,w7⟩;obtain⟨o,e,d⟩:=T.obj _ _ K b z;exact(R.pin (b,o)<|pY _<|pY _<|qp z e).2.1
  cases f with
  | next=>obtain⟨B,O,R,t⟩:=U;exact again R t
  | cont=>obtain⟨B,O,R,t⟩:=U;exact again R t
  | brk=>obtain⟨B,O,R,U⟩:=U;exact⟨B,O,R.CV,U⟩
  | ret v=>obtain⟨x7,B,O,R,r7,U⟩:=U;exact⟨x7,B,O,R.CV,r7,U⟩
end
abbrev R2:=V->V->Hp->VK->Prop
noncomputable def jn(X:Cx)(f:eF->eF->Sem eF)(r:R2):Prop:=
 ∀(a:GW) (s:eM) (b:St) (H:Hp) (x y:V) (v u:eF) (Q:VK),Inv X a b H s->RelV x v->RelV y u->r x y H Q->
  wpAny (fh X.prog X.w) X.A (f v u) (EP X a b Q) X.xe s
noncomputable def D1(X:Cx)(f:eF->Sem eF)(r:V->Hp->VK->Prop):Prop:=
 ∀(a:GW) (s:eM) (b:St) (H:Hp) (x:V) (v:eF) (Q:VK),Inv X a b H s->RelV x v->r x H Q->
  wpAny (fh X.prog X.w) X.A (f v) (EP X a b Q) X.xe s
noncomputable def Zl(X:Cx)(f:eF)(r:List V->Hp->VK->Prop):Prop:=
 ∀(a:GW) (s:eM) (e:St) (H:Hp) (d:List V) (b:List eF) (Q:VK),Inv X a e H s->hA d b->r d H Q->
  wpAny (fh X.prog X.w) X.A (call f b) (EP X a e Q) X.xe s
noncomputable def Ds(r:R2)(z B:TE):TE:=λa H Q=>z a H λx b=>B a b λy d=>r x y d Q
noncomputable def F6(r:V->Hp->VK->Prop)(z:TE):TE:=λb H Q=>z b H λx a=>r x a Q
noncomputable def rI(C:Int->Int->Prop)(g:Int->Int->V):R2:=λx y H Q=>∃i j,x = .int i/\y = .int j/\C i j/\Q (g i j) H
noncomputable def xC(g:Int->Int->V):R2:=λx y H Q=>∃i j,x = .int i/\y = .int j/\Q (g i j) H
noncomputable def rU(g:Int->V):V->Hp->VK->Prop:=λx H Q=>∃i,x = .int i/\Q (g i) H
section
variable{X:Cx}{a b c:f6}{ta tb tc:TE}{pos:g9}
theorem lq(ha:PE X a ta)(B:PE X b tb){G:GW}{s:eM}{L:St}{H:Hp}{R:V->V->Hp->Prop}(I:Inv X G L H s)
 (h:ta L H λx Z=>tb L Z λy J=>R x y J) {Q:GQ} {f:eF->eF->Sem eF}
 (hf : ∀v u P x y J,Inv X G L J P->RelV x v->RelV y u->R x y J->wpAny (fh X.prog X.w) X.A (f v u) Q X.xe P) :
 wpAny (fh X.prog X.w) X.A (fk a X.env) (λv O=>wpAny (fh X.prog X.w) X.A (fk b X.env) (λu U=>wpAny (fh X.prog X.w) X.A (f v u) Q X.xe U) X.xe O) X.xe s:=by
 refine gE (ha G s L H _ I h) λv j z=>?_;obtain⟨x,Z,W,Y,e⟩:=z;refine gE (B G j L Z _ W e) λu P z=>?_;obtain⟨y,J,d,i,g⟩:=z;exact hf v u P x y J d Y i g
theorem bU{z:Operator}{r:R2}(B:jn X (BB z) r)(G:PE X a ta)(O:PE X b tb):PE X (.BinOp a z b pos) (Ds r ta tb):=by intro d s g H Q I h;exact wpAny_BinOp<|lq G O I h λv u f x y e R rx U q=>B d f g e x y v u Q R rx U q
theorem iu(z:D1 X (unaryOp op) r)(G:PE X a ta):PE X (.UnaryOp op a pos) (F6 r ta):=by intro b s d H Q I h;exact UnaryOp_<|gE (G b s d H _ I h) λv f ⟨x,e,B,O,R⟩=>z b f d e x v Q B O R
theorem DO{f:eF->eF->Sem eF}{C:Int->Int->Prop}{g:Int->Int->Int}
 (rule : ∀(i j:Int) (t u:Tok) (s:eM) (Q:GQ) (E:GQ),C i j->Q (.int (g i j) s.toks) {s with toks:=s.toks+1}->wpAny (fh X.prog X.w) X.A (f (.int i t)<|.int j u) Q E s) :
 jn X f (rI C λi j=> .int (g i j)):=by
 intro a s e H x y v u Q I rx z h;obtain⟨i,j,rfl,rfl,b,q⟩:=h;obtain⟨t,rfl⟩:=rx;obtain⟨d,rfl⟩:=z;exact rule i j t d s _ _ b ⟨.int<|g i j,H,I.tok _,⟨_,rfl⟩,q⟩
theorem mF{f:eF->eF->Sem eF}{g:Int->Int->Int}
 (rule : ∀(i j:Int) (t u:Tok) (s:eM) (Q:GQ) (E:GQ),Q (.int (g i j) s.toks) {s with toks:=s.toks+1}->wpAny (fh X.prog X.w) X.A (f (.int i t)<|.int j u) Q E s) :
 jn X f (xC λi j=> .int (g i j)):=by
 intro a s d H x y v u Q I rx z h;obtain⟨i,j,rfl,rfl,q⟩:=h;obtain⟨t,rfl⟩:=rx;obtain⟨b,rfl⟩:=z;exact rule i j t b s _ _ ⟨.int<|g i j,H,I.tok _,⟨_,rfl⟩,q⟩
theorem eT{f:eF->eF->Sem eF}{g:Int->Int->Bool}
 (rule : ∀(i j:Int) (t u:Tok) (s:eM) (Q:GQ) (E:GQ),Q (.bool<|g i j) s->wpAny (fh X.prog X.w) X.A (f (.int i t)<|.int j u) Q E s) :
 jn X f (xC λi j=> .bl (g i j)):=by
 intro a s d H x y v u Q I rx z h;obtain⟨i,j,rfl,rfl,q⟩:=h;obtain⟨t,rfl⟩:=rx;obtain⟨b,rfl⟩:=z;exact rule i j t b s _ _ ⟨.bl<|g i j,H,I,rfl,q⟩
def nD(i j:Int):Prop:=0<j/\j<1073741824
def nB(i j:Int):Prop:=0<=j/\j<=1000000/\i.natAbs<2 ^ 64
noncomputable def CB(i j:Int):Prop:=(-(2 ^ 64)<i/\i<2 ^ 64)\/(-(2 ^ 64)<j/\j<2 ^ 64)
theorem CB.ok(h:CB i j):IntMulOk i j:=by
 rcases h with⟨a,b⟩ | ⟨a,b⟩
 ·exact .of_left<|intBits_le_64 a b
 ·exact .of_right<|intBits_le_64 a b
theorem FT:jn X (BB .Add) (xC λi j=> .int (i+j)):=mF λ_ _ _ _ _ _ _ q=>add_int q
theorem cp:jn X (BB .Sub) (xC λi j=> .int (i - j)):=mF λ_ _ _ _ _ _ _ q=>sub_int q
theorem FU:jn X (BB .Mult) (rI CB λi j=> .int (i*j)):=DO λ_ _ _ _ _ _ _ a q=>mul_int q a.ok
theorem WK:jn X (BB .FloorDiv) (rI nD λi j=> .int (i/j)):=DO λi j _ _ _ _ _ a q=>by have b:(0:Int)<j:=a.1;have d:j<1073741824:=a.2;exact floordiv_int ⋯ (by rw[Int.fdiv_eq_ediv_of_nonneg i ⋯];exact q)<|.inl<|PyProof.noPylong_small ⋯
theorem cC:jn X (BB .Mod) (rI (λ_ j=>0<j) λi j=> .int (i%j)):=DO λi j _ _ _ _ _ a q=>by have b:(0:Int)<j:=a;exact mod_int' ⋯ (by rw[Int.fmod_eq_emod_of_nonneg i ⋯];exact q)
theorem cu:jn X (BB .Pow) (rI nB λi j=> .int (i ^ j.toNat)):=DO λ_ _ _ _ _ _ _ a q=>pow_int_small a.1 a.2.1 a.2.2 q
theorem F8{f:eF->Sem eF}{g:Int->Int}
 (rule : ∀(i:Int) (t:Tok) (s:eM) (Q:GQ) (E:GQ),Q (.int (g i) s.toks) {s with toks:=s.toks+1}->wpAny (fh X.prog X.w) X.A (f<|.int i t) Q E s) :
 D1 X f (rU λi=> .int (g i)):=by
 intro a s b H x v Q I rx h;obtain⟨i,rfl,q⟩:=h;obtain⟨t,rfl⟩:=rx;exact rule i t s _ _ ⟨.int<|g i,H,I.tok _,⟨_,rfl⟩,q⟩
theorem aH:D1 X (unaryOp .USub) (rU λi=> .int (-i)):=F8 λ_ _ _ _ _ q=>neg_int q
end
section
variable{X:Cx}{a b c:f6}{ta tb tc:TE}{pos:g9}
theorem dC(I:Inv X pins σ H s)(q:Q (.bl k) H)(e:k=k'):EP X pins σ Q (.bool k') s:=by subst e;exact⟨.bl k,H,I,rfl,q⟩
theorem iB:jn X (o9 .Lt) (xC λi j=> .bl (decide<|i<j)):=eT λ_ _ _ _ _ _ _ q=>lt_int q
theorem Xk:jn X (o9 .LtE) (xC λi j=> .bl (decide<|i<=j)):=eT λ_ _ _ _ _ _ _ q=>le_int q
theorem iD:jn X (o9 .Gt) (xC λi j=> .bl (decide<|j<i)):=eT λ_ _ _ _ _ _ _ q=>gt_int q
theorem iE:jn X (o9 .GtE) (xC λi j=> .bl (decide<|j<=i)):=eT λ_ _ _ _ _ _ _ q=>ge_int q
theorem cD:jn X (o9 .Is) (λx y H Q=>y = .g8/\Q (.bl<|decide<|x = .g8) H):=by
 intro a s b H x y v u Q I rx z h;obtain⟨rfl,q⟩:=h;cases z;refine is_none_gen<|dC I q ?_;cases x<;>first
  | (cases rx;rfl)
  | (obtain⟨t,rfl⟩:=rx;rfl)
def iM:HO->Bool
 | .lst _=>cI
 | .ins _ _ _=>cI
 | _=>dV
theorem j4{G:GW}{s:eM}{J:St}{H:Hp}{a:cS}{o:HO}(I:Inv X G J H s)(h:H a=aI o)(p:iM o=cI) : ∃O,s.heap.get? a=aI O/\O.cls ≠ .type "tuple":=by
 cases o with
 | lst b=>
  obtain⟨_,B,n,_,e⟩:b.length<=i6/\∃(B:List eF) (n:Nat),hA b B/\s.heap.get? a=aI {cls:= .type "list",data:= .seq B.toArray n}:=I.gv a _ h;exact⟨_,e,(by show tZ "list" ≠ .type "tuple";decide +kernel)⟩
 | ins C d fs=>
  have x:=I.gv a _ h;obtain⟨_,_,_,e,_⟩:=x;exact⟨_,e,(by show pO C ≠ .type "tuple";exact λz=>by cases z)⟩
 | _=>exact absurd (show dV=cI from p) pQ
theorem jn.or(h:jn X f r)(h':jn X f r'):jn X f (λx y H Q=>r x y H Q\/r' x y H Q):=by
 intro a s b H x y v u Q I rx z q;rcases q with q | q
 ·exact h a s b H x y v u Q I rx z q
 ·exact h' a s b H x y v u Q I rx z q
theorem kl(b:f6)(h:op ≠ .In:=by decide)(B:op ≠ .NotIn:=by decide):B8 op b=dV:=by
 have a:(op==CmpOp.In)=dV:=by cases op<;>first | rfl | exact absurd rfl h
 have z:(op==CmpOp.NotIn)=dV:=by cases op<;>first | rfl | exact absurd rfl B
 cases b<;>simp[B8,a,z]
theorem Xg{z:CmpOp}{r:R2}(B:jn X (o9 z) r)(G:PE X a ta)(O:PE X b tb)(J:B8 z b=dV):PE X (.Compare a [z] [b] pos) (Ds r ta tb):=by intro d s g H Q I h;exact wpAny_Compare1 (lq G O I h λv u f x y e R rx U q=>B d f g e x y v u Q R rx U q) J
def aO(t:TE):TT:=λb H Q=>t b H λx a=>∃k,x = .bl k/\Q k a
theorem ZE(B:jn X (o9 op) r)(G:PE X a ta)(O:PE X b tb)(J:B8 op b=dV):PT X (.Compare a [op] [b] pos) (aO<|Ds r ta tb):=by
 intro d s f H Q I h;refine wpAny_isTrue_Compare1 (gE (G d s f H _ I h) λv t ⟨x,g,R,U,W⟩=>gE (O d t f g _ R W) λu w ⟨y,i,Y,o,m⟩=>
  gE (B d w f i x y v u _ Y U o m) λc A ⟨z,j,l,p,k,e,n⟩=>?_) J
 subst e;cases p;exact sG ⟨j,l,n⟩
noncomputable def Vf(r I:R2)(ta tb tc:TE):TE:=λa H Q=>ta a H λx b=>tb a b λy d=>r x y d λz B=>∃k,z = .bl k/\
 (if k=cI then tc a B λe O=>I y e O Q else Q (.bl dV) B)
theorem Yz(W:jn X (o9 op) r)(Y:jn X (o9 Di) r')(G:PE X a ta)(J:PE X b tb)(L:PE X c tc)
 (P:Ed [op,Di] [b,c]=dV:=by with_unfolding_all rfl):PE X (.Compare a [op,Di] [b,c] pos) (Vf r r' ta tb tc):=by
 intro f s g H Q I h;refine Compare_chain (gE (G f s g H _ I h) λv F ⟨x,i,m,A,p⟩=>chain_link (gE (J f F g i _ m p) λu K ⟨y,j,n,B,t⟩=>
  gE (W f K g j x y v u _ n A B t) λd M ⟨z,O,R,C,k,e,U⟩=>?_)) P
 subst e;cases C;refine sG ?_;cases k with
 | false=>exact ite_ff ⟨.bl dV,O,R,rfl,U⟩
 | true=>exact ite_tt<|chain_last<|gE (L f M g O _ R U) λS N ⟨T,l,o,E,w⟩=>Y f N g l y T u S Q o B E w
theorem Yo{B O:CmpOp}{r R:R2}(ho:jn X (o9 B) r)(G:jn X (o9 O) R)(J:PE X a ta)(L:PE X b tb)(P:PE X c tc)
 (Z:Ed [B,O] [b,c]=dV:=by with_unfolding_all rfl):PT X (.Compare a [B,O] [b,c] pos) (aO<|Vf r R ta tb tc):=by
 intro f s g H Q I h;refine isTrue_chain (gE (J f s g H _ I h) λv s1 ⟨x,j,o,S,F⟩=>test_link (gE (L f s1 g j _ o F) λu s2 ⟨y,l,p,U,K⟩=>
  gE (ho f s2 g l x y v u _ p S U K) λd s3 ⟨z,W,Y,T,k,e,i⟩=>?_)) Z
 subst e;cases T;refine sG ?_;cases k with
 | false=>
  obtain⟨k',A,E⟩:=i;cases A;exact ite_ff ⟨W,Y,E⟩
 | true=>
  refine ite_tt<|test_last<|gE (P f s3 g W _ Y i) λw' s4 ⟨z',m,t,r4,M⟩=>gE (G f s4 g m y z' u w' _ t U r4 M) λd' s5 ⟨z2,n,w,r5,k2,C,N⟩=>?_;subst C;cases r5;exact sG ⟨n,w,N⟩
theorem wW:(i6:Nat)<2 ^ 63:=by rw[tx];decide
theorem vM(r:hA [x] us) : ∃u,us=[u]/\RelV x u:=by
 cases r with
 | cons z B=>cases B;exact⟨_,rfl,z⟩
theorem aG(r:hA [x,y] us) : ∃u G,us=[u,G]/\RelV x u/\RelV y G:=by
 cases r with
 | cons z B=>
  cases B with
  | cons I O=>cases O;exact⟨_,_,rfl,z,I⟩
theorem Kf(B:X.calm=cI):Zl X (.builtin "max") (λxs H Q=>∃i j,xs=[.int i,.int j]/\Q (.int (if j>i then j else i)) H):=by
 intro a s l H xs f Q I r h;obtain⟨i,j,rfl,q⟩:=h;obtain⟨u,g,rfl,⟨t,rfl⟩,⟨d,rfl⟩⟩:=aG r;refine max_two_ints (I.ok.hd B) λb e k=>⟨_,H,I.kept k,?_,q⟩;by_cases z:j>i
 ·rw[GY z,GY z];exact⟨_,rfl⟩
 ·rw[MQ z,MQ z];exact⟨_,rfl⟩
end
structure DY(h:fy)(x dx C:cS)(mA:GJ):Prop where
 obj:h.get? x=aI (PySem.W.instObj C dx)
 ns:h.Ns1 dx mA
 ne:dx≠x
theorem Xw{h:fy}{G:cS}{H:GJ}(n:h.Ns1 G H) : ∃od,h.get? G=aI od/\∀name,PySem.W.lookIn name od=aI (H name):=by
 obtain⟨o,b,U,B,d,f,_,g⟩:=n;refine⟨o,B,λname=>?_⟩;have e:=g name;unfold nsFind findBy at e;rw[<- Array.find?_toList]at e;unfold PySem.W.lookIn;rw[d];dsimp only;split
 ·rename_i y q
  rw[q]at e;exact congrArg aI e
 ·rename_i q
  rw[q]at e;have a:b.toList.any (·.refKey)=dV:=by rw[List.any_eq_false];intro y I;obtain⟨z,t,O⟩:=f y<|Array.mem_toList_iff.mp I;simp[DictEntry.refKey,O]
  have R : ¬b.toList.any (·.refKey)=cI:=by rw[a];exact pQ
  rw[MQ R];exact congrArg aI e
theorem DY.look(I:DY h x dx C mA) : ∃od,PySem.W.InstAt h x (PySem.W.instObj C dx) C (aI od)/\∀name,PySem.W.lookIn name od=aI (mA name):=
 let ⟨od,z,B⟩:=Xw I.ns
 ⟨od,⟨I.obj,rfl,rfl,z⟩,B⟩
noncomputable def il(f:Str)(v:V):List (Str×V)->List (Str×V)
 | []=>[(f,v)]
 | (g,x)::r=>if g=f then (g,v)::r else (g,x)::il f v r
section
variable{P:iv}{w:h8}{H H':Hp}{h h':fy}{a C dx:cS}{fs FD:List (Str×V)}
theorem XM(G:l0 P w H h)(e:H a=aI (.ins C dx fs)) : ∃mA,DY h a dx C mA/\(∀f,lY (fs.lookup f)<|mA f)/\AZ mA (fs.map (·.1))/\fs.length<=1000/\H dx=aI (.own a):=by obtain⟨d,z,b,B,mA,n,r,q⟩:=(show i8 P w H h a (.ins C dx fs)from G a _ e);exact⟨mA,⟨B,n,b⟩,r,q,z,d⟩
end
structure Dx(K:pv)(C:cS):Prop where
 pg:AS K C Str.empty=cI
 hd:PySem.W.hasDictIn K C=cI
 po:PySem.W.plainOver K C=cI
 sa:rB K (.ref C) "__setattr__" = aI (aI (.builtin "object.__setattr__"))
theorem Dx.get{K:pv}{C:cS}(c:Dx K C)(f:Str):AS K C f=cI:=c.pg
section
variable{X:Cx}{pins:GW}{σ:St}{H:Hp}{s:eM}{a C dx:cS}{fs:List (Str×V)}{f:Str}{v:V}{A:i7}{E:GQ}
theorem W6(z:D4 e f env (fk e env)=fk e env)
 (h:wpAny (fh prog w) A (fk e env) (λo B=>wpAny (fh prog w) A (getAttr o f cI) Q E B) E s):wpAny (fh prog w) A (fk (.Attribute e f pos) env) Q E s:=
 Attribute_any_ h (by rw[arm_eval_Attribute,z])
end
section
variable{X:Cx}{pins:GW}{σ:St}{H:Hp}{s:eM}{A:i7}{E:GQ}{Q:GQ}{c:eF}{b:Bool}
inductive A1(K:pv)(H:Hp):V->eF->Prop where
 | g8:A1 K H .g8 (.type "NoneType")
 | bl (x:Bool):A1 K H (.bl x) (.type "bool")
 | int (i:Int):A1 K H (.int i) (.type "int")
 | str (x:Str):A1 K H (.str x) (.type "str")
 | CM (x:UInt64):A1 K H (.CM x) (.type "float")
 | lst {a:cS} {xs:List V} (e:H a=aI (.lst xs)):A1 K H (.ref a) (.type "list")
 | t9 {a:cS} {o:l3} {xs:List V} (e:H a=aI (.t9 o (.lst xs))):A1 K H (.ref a) (.type "list")
 | tup {a:cS} {xs:List V} (e:H a=aI (.tup xs)):A1 K H (.ref a) (.type "tuple")
 | dK {a:cS} {BX:List (Key×V)} (e:H a=aI (.dK BX)):A1 K H (.ref a) (.type "dict")
 | dT {a:cS} {BX:List (List Key×V)} (e:H a=aI (.dT BX)):A1 K H (.ref a) (.type "dict")
 | ins {a C dx:cS} {fs:List (Str×V)} (e:H a=aI (.ins C dx fs)) (cl:Dx K C) (ha:rB K (.ref C) "__class__" = aI (aI (.builtin "object.__class__")))
  (hn:uo K (.builtin "object.__class__") "__get__" = aI (aI (.builtin "getset_descriptor.__get__"))) (EL:PySem.W.takesIn K (.builtin "object.__class__")=aI cI)
  (hm:rl K C (.type "object")=aI cI):A1 K H (.ref a) (.ref C)
theorem XF(I:Inv X pins σ H s)(rx:RelV x u)(ty:A1 X.K H x t)(e:rA X.K t c=aI b)(h : ∀L,Q (.bool b) {s with toks:=L}) :
 wpAny (fh X.prog X.w) A (call (.builtin "isinstance") [u,c]) Q E s:=by
 cases ty with
 | g8=>cases (show u=su from rx);exact pV AH I.ij sQ e (λz=>nomatch z) h
 | bl y=>cases (show u=Ae y from rx);exact pV AI I.ij sQ e (λz=>nomatch z) h
 | int i=>obtain⟨t,q⟩:=(show ∃t,u=uL i t from rx);cases q;exact pV AV I.ij sQ e (λz=>nomatch z) h
 | str y=>obtain⟨t,q⟩:=(show ∃t,u=Value.str y t from rx);cases q;exact pV AU I.ij sQ e (λz=>nomatch z) h
 | CM y=>obtain⟨t,q⟩:=(show ∃t,u=Value.float y t from rx);cases q;exact pV PySem.W.kitx_float I.ij sQ e (λz=>nomatch z) h
 | @lst a g B=>
  cases (show u=pO a from rx);obtain⟨_,_,n,_,d⟩:=(show i8 X.prog X.w H s.heap a (.lst g)from I.gv a _ B);exact pV uX I.ij ⟨_,d,rfl⟩ e (λz=>nomatch z) h
 | @t9 a R g B=>
  cases (show u=pO a from rx);obtain⟨_,_,_,n,_,d⟩:=(show i8 X.prog X.w H s.heap a (.t9 R<|.lst g)from I.gv a _ B);exact pV uX I.ij ⟨_,d,rfl⟩ e (λz=>nomatch z) h
 | @tup a g B=>
  cases (show u=pO a from rx);obtain⟨_,_,_,p⟩:=(show i8 X.prog X.w H s.heap a (.tup g)from I.gv a _ B);obtain⟨o,d,j,_⟩:=p;exact pV Ax I.ij ⟨o,d,(Prod.mk.inj j).1⟩ e (λz=>nomatch z) h
 | @dK a f B=>
  cases (show u=pO a from rx);obtain⟨_,_,S,_,p⟩:=(show i8 X.prog X.w H s.heap a (.dK f)from I.gv a _ B);obtain⟨o,m,U,d,j,_⟩:=p;exact pV tJ I.ij ⟨o,d,j.1⟩ e (λz=>nomatch z) h
 | @dT a f B=>
  cases (show u=pO a from rx);obtain⟨_,_,g,_,o,m,U,d,j,_⟩:=(show i8 X.prog X.w H s.heap a (.dT f)from I.gv a _ B);exact pV tJ I.ij ⟨o,d,j.1⟩ e (λz=>nomatch z) h
 | @ins a C M fs B l r G k F=>
  cases (show u=pO a from rx);obtain⟨N,O,_⟩:=XM I.gv B;obtain⟨P,J,_⟩:=O.look;exact pV (PySem.W.kitx_own (l.get _) l.hd r G k F) I.ij J e (λz=>nomatch z) h
end
structure o5(k:Nat)(A:i7):Prop where
 hd:A.handled=bC
 dp:A.depth+3*k+5<recursionLimit
 un:A.units+16*k+200<cLine
theorem o5.mono(r:o5 k A)(h:j<=k):o5 j A:=⟨r.hd,by have:=r.dp;omega,by have:=r.un;omega⟩
theorem o5.deeper(r:o5 (k+1) A)(env:i3):o5 k (A.deeper env):=
 ⟨r.hd,by have:=r.dp;show A.depth+1+3*k+5<_;omega,by have:=r.un;show A.units+3+16*k+200<_;omega⟩
theorem vx{A:i7}{C:cS}{B:List eF}{z:List (Str×eF)}:(A.under (.builtin "type.__call__" ⟨.ref C::B,z⟩)).depth=A.depth+1:=by first | rfl | simp[Around.under,Code.weight,Code.isCreation,Code.isGuard,Code.isCaller,Code.frames,Code.isFrame,guardIds]
theorem vw{A:i7}{C:cS}{B:List eF}{z:List (Str×eF)}:(A.under (.builtin "type.__call__" ⟨.ref C::B,z⟩)).units=A.units+1:=by first | rfl | simp[Around.under,Code.cUnits,Code.frames,Code.isFrame]
theorem o5.make(r:o5 (k+1) A)(C:cS)(B:List eF)(z:List (Str×eF)):o5 k (A.under (.builtin "type.__call__" ⟨.ref C::B,z⟩)):=
 ⟨r.hd,by have:=r.dp;rw[vx];omega,by have:=r.un;rw[vw];omega⟩
theorem o5.depth(r:o5 k A):A.depth<recursionLimit:=by have:=r.dp;omega
def mh:TA:=λ_ H Q=>Q [] H
noncomputable def aR(B:TE)(z:TA):TA:=λa H Q=>B a H λx b=>z a b λe d=>Q (x::e) d
section
variable{X:Cx}{e:f6}{es:List f6}{te:TE}{t:TA}{pos:g9}
theorem qB:PA X [] mh:=λ_ _ _ _ H Q I h=>sP ⟨[],H,I,.nil,h⟩
theorem jH(G:PE X e te)(z:PA X es t)(hs:hX (e::es) X.env=(dV,fk e X.env)::hX es X.env:=by rfl):PA X (e::es) (aR te t):=by intro pos a s b H Q I h;rw[hs];show wpAny _ _ (yg ((dV,fk e X.env)::ow pos (hX es X.env))) _ _ s;refine rd<|gE (G a s b H _ I h) λu i B=>?_;obtain⟨x,d,O,R,U⟩:=B;exact gE (z pos a i b d _ O U) λl k ⟨j,f,W,Y,g⟩=>⟨x::j,f,W,.cons R Y,g⟩
noncomputable def nJ(t:TA):TE:=λd H Q=>t d H λb a=>b.length<=i6/\∀p,a p=bC->Q (.ref p) (upd a p<|.tup b)
noncomputable def nN(t:TA):TE:=λd H Q=>t d H λb a=>b.length<=i6/\∀p,a p=bC->Q (.ref p) (upd a p<|.lst b)
theorem bS(h:PA X es t):PE X (.Tuple es x1 pos) (nJ t):=by intro a s l H Q I i;refine F9<|gE (h pos a s l H _ I i) λj d ⟨k,f,B,r,z,q⟩=>⟨by rw[<- r.length];exact z,?_⟩;have g:f d.heap.objs.size=bC:=B.gv.fresh<|pN _;refine⟨.ref d.heap.objs.size,upd f d.heap.objs.size<|.tup k,B.laid (t':=d.toks) (λb u e=>pA _ e) (pN _) ?_,rfl,q _ g⟩;exact⟨z,j,r,⟨_,pS _ rfl,rfl,_,rfl⟩⟩
theorem bY(h:PA X es t):PE X (.List es pos) (nN t):=by intro a s l H Q I i;refine wpAny_List_spliced<|gE (h pos a s l H _ I i) λj d ⟨k,f,B,r,z,q⟩=>⟨by rw[<- r.length];exact z,?_⟩;have g:f d.heap.objs.size=bC:=B.gv.fresh<|pN _;refine⟨.ref d.heap.objs.size,upd f d.heap.objs.size<|.lst k,B.laid (t':=d.toks) (λb u e=>pA _ e) (pN _) ?_,rfl,q _ g⟩;exact⟨z,j,0,r,pS _ rfl⟩
end
abbrev Sp:=List V->Hp->VK->XK->Prop
abbrev A8:=List i3->Hp->eM->XK->eF->eM->Prop
structure BF(P:iv)(w:h8)(K:pv)(mg:GJ)(base:fy)(A:i7)(outer:List i3)(s:eM)(H:Hp):Prop where
 frames:A.frames=aI outer
 mod:Mod K mg base
 bs : ∀b o,base.get? b=aI o->s.heap.get? b=aI o/\H b=bC
 Bq:base.objs.size<=s.heap.objs.size
 n5:s.heap.FunFrames base outer
 zx : ∀b∈i5 outer,H b=bC
 gv:l0 P w H s.heap
 bare:BE s.gens
noncomputable def CE(outer:List i3)(P:iv)(w:h8)(H:Hp)(s:eM)(Q:VK)(u:eF)(s':eM):Prop:=
 ∃v a,s'.os=s.os/\BE s'.gens/\Un (i5 outer) [] H a s.heap s'.heap/\l0 P w a s'.heap/\RelV v u/\Q v a
noncomputable def CR(CX:A8)(outer:List i3)(P:iv)(w:h8)(H:Hp)(s:eM)(Q:VK)(E:XK)(r:Result)(s':eM):Prop:=
 match r with
 | .ok (.ret u)=>CE outer P w H s Q u s'
 | .ok _=>False
 | .error e=>CX outer H s E e s'
structure u5(P:iv)(w:h8)(K:pv)(mg:GJ)(base:fy)(CX:A8)(k:Nat)(f:cS)(fd:sx)(ps:List Str)(sp:Sp):Prop where
 len : ∀vs H Q E,sp vs H Q E->vs.length=ps.length
 run : ∀(A:i7) (outer:List i3) (s:eM) (H:Hp) (args:Args) (us:List eF) (vs:List V) (Q:VK) (E:XK),o5 k A->BF P w K mg base A outer s H->CY s fd args (ps.zip us)->hA vs us->sp vs H Q E->
  codeAny (fh P w) A (.call (.ref f) args) (CR CX outer P w H s Q E) s
theorem BF.make{P:iv}{w:h8}{K:pv}{B:GJ}{base:fy}{A:i7}{outer:List i3}{s:eM}{H:Hp}(e:BF P w K B base A outer s H)(C:cS)(G:List eF)(z:List (Str×eF)) :
 BF P w K B base (A.under (.builtin "type.__call__" ⟨.ref C::G,z⟩)) outer s H:=⟨by first | exact e.frames | (simpa[Around.under,Code.envs,Code.isFrame,pushEnvs]using e.frames),e.mod,e.bs,e.Bq,e.n5,e.zx,e.gv,e.bare⟩
section
variable{X:Cx}{pins:GW}{σ:St}{H:Hp}{s s':eM}
theorem Inv.DG(I:Inv X pins σ H s):BF X.prog X.w X.K X.mg X.base X.A X.stack s H:=
 ⟨I.ok.frames,I.ok.mod,I.bs,rV I.ok.Bq I.sz,I.stack,I.B5,I.gv,I.bare⟩
theorem Inv.after(I:Inv X pins σ H s)(h:CE X.stack X.prog X.w H s Q u s'):EP X pins σ Q u s':=by obtain⟨v,f,os,a,un,e,r,q⟩:=h;obtain⟨B,g,d,t,O⟩:=s';obtain rfl:O=s.os:=os;exact⟨v,f,I.call (h':=B) (g':=g) (d':=d) (t':=t) (ch:=[]) un e a<|λb z=>absurd z ⋯,r,q⟩
end
noncomputable def V4(sp:Sp)(z:List V)(E:XK)(t:TA):TE:=λd H Q=>t d H λb a=>sp (b++z) a Q E
noncomputable def Binds(K:pv)(G:sx)(B:List Str)(z:List eF):Prop:=
 ∀(s:eM) (a:List eF),K.In s.heap->(a++z).length=B.length->CY s G ⟨a,[]⟩ (B.zip<|a++z)
theorem Binds.all{K:pv}{H:sx}{G:List Str}(h : ∀B:List eF,B.length=G.length->bindArgs H ⟨B,[]⟩=pure (G.zip B)):Binds K H G []:=λs B _ z=>by rw[List.append_nil]at z ⊢;exact .of_eq<|h B z
noncomputable def Ks(CX:A8)(X:Cx)(E:XK):Prop:=∀(a:GW) (d:St) (H:Hp) (s:eM) (e:eF) (b:eM),Inv X a d H s->CX X.stack H s E e b->X.xe e b
section
variable{X:Cx}{CX:A8}{k:Nat}{f C:cS}{fd:sx}{ps:List Str}{sp:Sp}{CI:List V}{ds:List eF}{E:XK}{x m:Str}{p pos apos:g9}{e o:f6}{es:List f6}{ta:TE}{t:TA}
theorem br(F:u5 X.prog X.w X.K X.mg X.base CX k f fd ps sp)(B:o5 k X.A)(O:Binds X.K fd ps ds)(G:hA CI ds)(hx:Ks CX X E)
 (I:Inv X pins σ H s) (r:hA vs us) (h:sp (vs++CI) H Q E):wpAny (fh X.prog X.w) X.A (call (.ref f) us) (EP X pins σ Q) X.xe s:=by
 have z:hA (vs++CI) (us++ds):=r.append G;have R:(us++ds).length=ps.length:=by rw[<- z.length];exact F.len _ _ _ _ h
 refine uF<|uq (F.run X.A X.stack s H ⟨us,[]⟩ (us++ds) (vs++CI) Q E B I.DG (O s us I.ij R) z h) λr b a=>?_;cases r with
 | error e=>exact hx pins σ H s e b I a
 | ok U=>
  cases U with
  | ret u=>exact I.after a
  | next=>exact rR a
  | brk=>exact rR a
  | cont=>exact rR a
theorem Xi(F:u5 X.prog X.w X.K X.mg X.base CX k f fd ps sp)(B:o5 k X.A)(O:Gl X x)(P:X.mg x=aI (.ref f))(L:sv X.K (.ref f)=cI)(R:Binds X.K fd ps ds)(J:hA CI ds)(hx:Ks CX X E)
 (G:PA X (e::es) t) (U:(x==("__debug__" : Str))=dV:=by decide) (W:hX (e::es) X.env=(dV,fk e X.env)::hX es X.env:=by rfl) (Y:(ow pos (hX es X.env)).any (·.1)=dV:=by rfl) :
 PE X (.Call (.Name x p) (e::es) [] pos) (V4 sp CI E t):=by
 intro a s b H Q I h;refine sd<|qv I O P ?_ U;refine uN (h₀:=X.base) I.ok.mod.BW L (gE (G pos a s b H _ I h) λi g ⟨j,d,z,r,q⟩=>⟨z.ij,?_⟩) W Y;exact br F B R J hx z r q
end
structure CC(N P:List Str)(sc:hH):Prop where
 kind:sc.kind = .function
 co:sc.isCoroutine=dV
 gen:sc.isGenerator=dV
 nd:N.Nodup
 pre:N.take P.length=P
 par : ∀x∈P,sc.names.lookup x=aI .local\/sc.names.lookup x=aI .cell
 FQ : ∀y∈sc.names,y.2 ≠ .free
theorem Zf{kindOf:Str->Option Bz}{x:Str} : ∀{binds:List (Str×eF)} {m:GJ},(∀v,(x,v)∉binds)->Ca kindOf binds m x=m x
 | [],_,_=>rfl
 | (n,v)::r,m,h=>by
  unfold Ca;rw[Zf λw a=>h w (pT _ a)];split
  ·have:x≠n:=by rintro rfl;exact h v rh
   simp[this]
  ·rfl
theorem Zi{kindOf:Str->Option Bz}{x:Str} : ∀{binds:List (Str×eF)} {m:GJ},(∀v,(x,v)∉binds)->B9 kindOf binds m x=m x
 | [],_,_=>rfl
 | (n,v)::r,m,h=>by
  unfold B9;rw[Zi λw a=>h w (pT _ a)];split
  ·rfl
  ·have:x≠n:=by rintro rfl;exact h v rh
   simp[this]
theorem Zg{kindOf:Str->Option Bz}{x:Str}{v:eF} : ∀{P:List Str} {B:List eF} {i:Nat} {m:GJ},P.Nodup->P[i]? = aI x->B[i]? = aI v->kindOf x=aI .local->
 Ca kindOf (P.zip B) m x=aI v
 | [],_,_,_,_,h,_,_=>by simp at h
 | _::_,[],_,_,_,_,h,_=>by simp at h
 | p::P,w::B,0,m,nd,h1,h2,hk=>by simp at h1 h2;subst h1;subst h2;show Ca kindOf ((p,w)::P.zip B) m p=_;unfold Ca;rw[Zf λv z=>(uP.mp nd).1 (As z).1,GY hk];simp
 | p::P,w::B,i+1,m,nd,h1,h2,hk=>by show Ca kindOf ((p,w)::P.zip B) m x=_;unfold Ca;exact Zg (i:=i) (uP.mp nd).2 (by simpa using h1) (by simpa using h2) hk
theorem Zj{kindOf:Str->Option Bz}{x:Str}{v:eF} : ∀{P:List Str} {B:List eF} {i:Nat} {m:GJ},P.Nodup->P[i]? = aI x->B[i]? = aI v->kindOf x≠aI .local->
 B9 kindOf (P.zip B) m x=aI v
 | [],_,_,_,_,h,_,_=>by simp at h
 | _::_,[],_,_,_,_,h,_=>by simp at h
 | p::P,w::B,0,m,nd,h1,h2,hk=>by simp at h1 h2;subst h1;subst h2;show B9 kindOf ((p,w)::P.zip B) m p=_;unfold B9;rw[Zi λv z=>(uP.mp nd).1 (As z).1,MQ hk];simp
 | p::P,w::B,i+1,m,nd,h1,h2,hk=>by show B9 kindOf ((p,w)::P.zip B) m x=_;unfold B9;exact Zj (i:=i) (uP.mp nd).2 (by simpa using h1) (by simpa using h2) hk
noncomputable def k7(N:List Str)(z:List V):St:=z.map aI++pF (N.length - z.length) bC
noncomputable def ye(CX:A8)(P:iv)(w:h8)(K:pv)(mg:GJ)(base:fy)(N:List Str)(qual:Str)(scope:hH)(f:cS)(cd:eF)(A:i7)(outer:List i3)(s:eM)(H:Hp)(E:XK):Cx where
 prog:=P
 w:=w
 K:=K
 mg:=mg
 base:=base
 A:=A.deeper<|envOfC qual scope s.heap.objs.size f cd
 N:=N
 hF:=s
 BG:=H
 env:=CJ qual scope s.heap.objs.size f cd
 outer:=outer
 stack:=CJ qual scope s.heap.objs.size f cd::outer
 ex:=[]
 calm:=cI
 fn:=λ_=>cI
 pn:=[]
 xe:=λe s'=>wpAny (fh P w) (A.deeper<|envOfC qual scope s.heap.objs.size f cd) (leaving (CJ qual scope s.heap.objs.size f cd) e) (λ_ z=>CX outer H s E e z) (λB z=>CX outer H s E B z) s'
theorem JA{z:hH}{n:Nat}{x:Str}(h:z.names.lookup x=aI .cell) : ∃c,(rb n z.names []).lookup x=aI c:=by have q:=tv z.names n [] (.inl h);exact rN.mp q
theorem w5{CX:A8}{P:iv}{w:h8}{K:pv}{L:GJ}{base:fy}{N G:List Str}{qual:Str}{scope:hH}{f:cS}{cd:eF}{A:i7}{outer:List i3}{s s1:eM}{H:Hp}{E:XK}{Z:List eF}{J:List V}
 (S:CC N G scope) (hd:A.handled=bC) (B:BF P w K L base A outer s H) (hl:J.length=G.length) (r:hA J Z)
 (x:InCallC s s.heap.objs.size (Ca (CJ qual scope s.heap.objs.size f cd).kindOf (G.zip Z) λ_=>bC) (rb (s.heap.objs.size+1) scope.names []) (B9 (CJ qual scope s.heap.objs.size f cd).kindOf (G.zip Z) λ_=>bC) s1) :
 Inv (ye CX P w K L base N qual scope f cd A outer s H E) [] (k7 N J) H s1:=by
 have o:G.length<=N.length:=by have:=congrArg List.length S.pre;rw[sH]at this;omega
 obtain⟨g,C,rfl,l⟩:=x.done;have R : ∀b:cS,b∉(ye CX P w K L base N qual scope f cd A outer s H E).ex:=λb z=>absurd (show b∈([]:List cS)from z) ⋯;refine⟨⟨B.mod,S.kind,rfl,rfl,pN _,λy z c g d=>?_,λy I=>?_,λy c _ h=>?_,λ_=>hd,Around.frames_deeper B.frames,.inr ⟨rfl,rfl⟩,λb z=>absurd z<|R b,B.bs,B.Bq,λb _ _=>R b,λb z=>absurd z<|R b,B.n5,B.zx⟩,
  rfl,B.bare,Un.kept l,⟨_,x.toInCall.ns,λi y v g d t=>?_⟩,λy c h=>⟨_,x.cell y c h⟩,B.gv.fresh<|pN _,λy c h=>?_,λp O=>absurd (show p∈([]:GW)from O) ⋯,B.gv.kept l,?_⟩
 ·exact name_of_addr x.apart (tW g)<|tW d
 ·have I:scope.names.lookup y=aI .cell\/scope.names.lookup y=aI .free:=I
  rcases I with I | I
  ·exact JA I
  ·exact absurd rfl<|S.FQ _<|tW I
 ·exact Bh<|x.above y c<|tW h
 ·have j:i<J.length:=by
   unfold k7 at d;by_cases j:i<J.length
   ·exact j
   ·rw[rS (by simpa using j)]at d
    rw[um]at d;split at d<;>cases d
  have m:J[i]? = aI v:=by
   unfold k7 at d;rw[sD (by simpa using j),rm]at d;cases e:J[i]? with
   | none=>rw[e]at d;cases d
   | some a=>rw[e]at d;cases d;rfl
  obtain⟨u,U,Y⟩:=r.get m;have O:G[i]? = aI y:=by rw[<- S.pre,List.getElem?_take_of_lt ⋯];exact g
  have W:G.Nodup:=by rw[<- S.pre];exact S.nd.sublist<|List.take_sublist _ _
  refine⟨u,Y,?_⟩;rcases S.par y (sL O)with k | k
  ·exact .inl ⟨k,Zg W O U k⟩
  ·obtain⟨c,e⟩:=JA (n:=s.heap.objs.size+1) k
   refine .inr ⟨.inl k,c,e,?_⟩;have q:=x.cell y c e;rw[Zj W O U (by show scope.names.lookup y≠_;rw[k];decide)]at q;exact q
 ·exact B.gv.fresh<|Bh<|x.above y c<|tW h
 ·unfold k7
  show _=N.length;rw[rE,pR,List.length_replicate];omega
theorem WX{CX:A8}{P:iv}{w:h8}{K:pv}{mg:GJ}{base:fy}{k:Nat}{f:cS}{name qual:Str}{R:Arguments}{L:List h9}{scope:hH}{U kV doc pm G ct oc:eF}{an od:Option cS}
 {Cy:Array (Option eF)} {N ps:List Str} {sp:Sp} (lk:K.lookup f=aI ⟨oc,od,.func<|sZ name qual R L scope U kV doc pm an G ct,Cy⟩) (a3:uT K G qual=cI) (S:CC N ps scope)
 (len : ∀Z H Q E,sp Z H Q E->Z.length=ps.length)
 (a4 : ∀(A:i7) (outer:List i3) (s:eM) (H:Hp) (Z:List V) (Q:VK) (E:XK),o5 k (A.deeper<|envOfC qual scope s.heap.objs.size f G)->sp Z H Q E->
   ∃t,q7 (ye CX P w K mg base N qual scope f G A outer s H E) L t/\t {nx:=λ_ H'=>Q .g8 H',rt:=Q} (k7 N Z) H) :
 u5 P w K mg base CX (k+1) f (sZ name qual R L scope U kV doc pm an G ct) ps sp:=by
 refine⟨len,λA outer s H j us Z Q E B z hb r Y=>?_⟩;have M:=len _ _ _ _ Y;have h:K.In s.heap:=z.mod.BW.keeps λb o e=>(z.bs b o e).1;have lim:s.heap.NoLimit:=z.mod.nolimit.keeps λb o e=>(z.bs b o e).1;have m : ∀y∈ps.zip us,scope.names.lookup y.1=aI .local\/(scope.names.lookup y.1=aI .cell/\((rb (s.heap.objs.size+1) scope.names []).lookup y.1).isSome=cI):=λ⟨n,v⟩ hy=>by
  rcases S.par n (As hy).1 with q | q
  ·exact .inl q
  ·exact .inr ⟨q,tv _ _ _<|.inl q⟩
 refine codeAny_call_function B.depth (h _ _ lk) rfl S.co S.gen rfl (PySem.W.codeRec_of h a3)<|hb _ _ _ _ ?_;refine wpAny_newFunctionEnv_cells S.kind m λp F l x=>?_;subst F;refine⟨lim.keeps x.toInCall.keep,codeAny_func ?_⟩;obtain⟨t,X,T⟩:=a4 A outer s H Z Q E (B.deeper _) Y;have I:Inv (ye CX P w K mg base N qual scope f G A outer s H E) [] (k7 N Z) H l:=w5 S B.hd z M r x;refine pJ (X [] l (k7 N Z) H _ I T) (λC g d=>?_) λe g d=>d;have i : ∀{a:St} {H':Hp} {v:V} {u:eF},Inv (ye CX P w K mg base N qual scope f G A outer s H E) [] a H' g->RelV v u->Q v H'->CE outer P w H s Q u g:=
  λ{a H' v u} J O q=>⟨v,H',J.os,J.bare,J.base,J.gv,O,q⟩
 cases C with
 | ret u=>
  obtain⟨v,a,H',J,O,q⟩:=d;exact i J O q
 | next=>
  obtain⟨a,H',J,q⟩:=d;exact i (v:=V.g8) (u:=su) J rfl q
 | brk=>
  obtain⟨_,_,_,q⟩:=d;exact rR q
 | cont=>
  obtain⟨_,_,_,q⟩:=d;exact rR q
section
variable{X:Cx}{x:Str}{p pos:g9}{e:f6}{es:List f6}{t:TA}{id T:String}{r:List V->Hp->VK->Prop}
noncomputable def E3(r:List V->Hp->VK->Prop)(t:TA):TE:=λd H Q=>t d H λb a=>r b a Q
theorem kh(J:Zl X (.builtin id) r)(z:Gl X x)(L:X.mg x=bC)(B:Cb x=aI (.builtin id))(G:PA X (e::es) t)(P:x ≠ "__name__":=by decide)(O:(x==("__debug__" : Str))=dV:=by decide)
 (R:hX (e::es) X.env=(dV,fk e X.env)::hX es X.env:=by rfl) (U:(ow pos<|starEach es X.env).any (·.1)=dV:=by rfl):PE X (.Call (.Name x p) (e::es) [] pos) (E3 r t):=by
 intro a s b H Q I h;refine sd<|qP I z L B ?_ P O;exact sj (gE (G pos a s b H _ I h) λi g ⟨j,d,W,Y,f⟩=>J a g b d j i Q W Y f) R U
theorem Xh(J:Zl X (.type T) r)(z:Gl X x)(L:X.mg x=bC)(B:Cb x=aI (.type T))(G:PA X (e::es) t)(P:x ≠ "__name__":=by decide)(O:(x==("__debug__" : Str))=dV:=by decide)
 (R:hX (e::es) X.env=(dV,fk e X.env)::hX es X.env:=by rfl) (U:(ow pos<|starEach es X.env).any (·.1)=dV:=by rfl):PE X (.Call (.Name x p) (e::es) [] pos) (E3 r t):=by
 intro a s b H Q I h;refine sd<|qP I z L B ?_ P O;exact tu (gE (G pos a s b H _ I h) λi g ⟨j,d,W,Y,f⟩=>J a g b d j i Q W Y f) R U
end
end L2
namespace HT
open PySem PyProof.Rows
section
variable{prog:iv}{w:h8}{A:i7}{E:GQ}{s:eM}
theorem lp(P:C4 s.heap t vs.toArray)(L:C4 s.heap b ws.toArray)(I:vs ≠ [])
 (H:ws=[]->Q (.ref t) s) (J:ws ≠ []->Q (.ref s.heap.objs.size) {s with heap:=s.heap.push {cls:= .type "tuple",data:= .seq (vs++ws).toArray}})
 (G:vs.length+ws.length<=i6):wpAny (fh prog w) A (BB .Add (.ref t)<|.ref b) Q E s:=by
 obtain⟨⟨cls,d,data,h⟩,z,f,n,g⟩:=id P;obtain⟨⟨i,O,data2,R⟩,B,U,W,Y⟩:=id L;simp only at f g U Y;subst f g U Y;have e:vs.toArray++ws.toArray=(vs++ws).toArray:=by simp
 by_cases a:ws=[]
 ·exact Bm ⟨_,z,rfl⟩ ⟨_,B,rfl⟩ Bo EW Ai Af (uY _ _)
   (tuple_addW1 t b vs.toArray ws.toArray n W d O h R (by simpa using I)<|by simp[a]) ⟨z,B,H a⟩
 ·refine Bm ⟨_,z,rfl⟩ ⟨_,B,rfl⟩ Bo EW Ai Af (uY _ _)
   (tuple_addW2 t b vs.toArray ws.toArray n W d O h R (by simpa using I) (by simpa using a)<|by rw[pL,pL];exact G) ⟨z,B,?_⟩
  rw[e];exact J a
noncomputable def eI(n d:Nat):Option Int->Nat
 | none=>d
 | some v=>if v<0 then (v+(n:Int)).toNat else min v.toNat n
theorem bh(n d:Nat)(B:d<=n)(o:Option Int):eI n d o<=n:=by
 cases o with
 | none=>exact B
 | some v=>
  show(if v<0 then (v+(n:Int)).toNat else min v.toNat n)<=n;by_cases z:v<0
  ·rw[GY z];omega
  ·rw[MQ z];exact Nat.min_le_right _ _
theorem Kb(v:Int)(n d:Nat):(if v<0 then max (v+(n:Int)) 0 else min v (n:Int))=((eI n d (aI v):Nat):Int):=by
 show(if v<0 then max (v+(n:Int)) 0 else min v (n:Int))=(((if v<0 then (v+(n:Int)).toNat else min v.toNat n):Nat):Int);by_cases z:v<0
 ·simp only[GY z];omega
 ·simp only[MQ z];omega
theorem Qf(lo z:Option Int)(n:Nat):uC lo z 1 (n:Int)=(((eI n 0 lo:Nat):Int),((eI n n z:Nat):Int)):=by
 have a : ¬((1:Int)<0):=by omega
 unfold uC;simp only[a,if_false];refine Prod.ext ?_ ?_
 ·cases lo with
  | none=>rfl
  | some v=>exact Kb v n 0
 ·cases z with
  | none=>rfl
  | some v=>exact Kb v n n
theorem J3(i j:Nat):tE (i:Int) (j:Int) 1=j - i:=by
 unfold tE;have a:(1:Int)>0:=by omega
 simp only[a,if_true,Int.ediv_one];split<;>omega
theorem vm(p:BM v o)(h:Q o s):wpAny (fh prog w) A (Builtin.Slice.slicePartIndex v) Q E s:=by
 cases p with
 | none=>exact slicePart_none h
 | int i t=>exact slicePart_int h
theorem k8{H:cS}{z B:eF}{lo G:Option Int}{n:Nat}{Q:Int×Int×Nat->eM->Prop}(hs:s.heap.IsSliceOf H z B .none)(J:BM z lo)(R:BM B G)
 (h:Q (((eI n 0 lo:Nat):Int),1,eI n n G - eI n 0 lo) s):wpAny (fh prog w) A (Builtin.Slice.sliceApplied (.ref H)<|pure (n:Int)) Q E s:=by
 obtain⟨os,I,U,O⟩:=id hs;unfold Builtin.Slice.sliceApplied Builtin.Slice.sliceFields;refine pw<|pw<|rY I O (x:=z) rfl<|pw<|rY I O (x:=B) rfl<|pw<|rY I O (x:= .none) rfl<|pD ?_;refine pw<|slicePart_none ?_;show wpAny _ _ (if ((1:Int)==0)=cI then _ else _) _ _ s;rw[MQ ⋯];refine pw<|vm J<|pw<|vm R<|pw<|pD ?_;show wpAny _ _ (match uC lo G 1 (n:Int)with | (lo,G)=>pure (lo,(1:Int),tE lo G 1)) _ _ s;rw[Qf lo G n];show wpAny _ _ (pure (((eI n 0 lo:Nat):Int),(1:Int),tE ((eI n 0 lo:Nat):Int) ((eI n n G:Nat):Int) 1)) _ _ s;rw[J3];exact pD h
theorem Yw(xs:Array eF)(i k:Nat):((pK k).filterMap λ(m:Nat)=>xs[((i:Int)+(m:Int)*1).toNat]?).toArray=((xs.toList.drop i).take k).toArray:=by
 have e:(λ(m:Nat)=>xs[((i:Int)+(m:Int)*1).toNat]?)=λm=>xs[i+m]? :=by
  funext m;have:((i:Int)+(m:Int)*1).toNat=i+m:=by omega
  rw[this]
 rw[e];have:=pick_run xs i k;rw[List.filterMap_map]at this;have z:((λx=>xs[x]?)∘λx=>i+x)=λm=>xs[i+m]? :=rfl;rw[z]at this;rw[this]
theorem Qc{t H:cS}{z:Array eF}{O R:eF}{lo G:Option Int}{Q:GQ}(B:C4 s.heap t z)(hs:s.heap.IsSliceOf H O R .none)(L:BM O lo)(U:BM R G)
 (J : ¬(eI z.size 0 lo=0/\eI z.size z.size G=z.size))
 (h:Q (.ref s.heap.objs.size) {s with heap:=s.heap.push {cls:= .type "tuple",data:= .seq ((z.toList.drop (eI z.size 0 lo)).take (eI z.size z.size G - eI z.size 0 lo)).toArray}})
 (P:z.size<=i6):wpAny (fh prog w) A (CN (.ref t)<|.ref H) Q E s:=by
 have I:sizeOk (.seq ((z.toList.drop<|eI z.size 0 lo).take (eI z.size z.size G - eI z.size 0 lo)).toArray):=by show((z.toList.drop<|eI z.size 0 lo).take (eI z.size z.size G - eI z.size 0 lo)).toArray.size<=i6;rw[pL,sH,Al,Az];omega
 have e:eI z.size z.size G<=z.size:=bh _ _ (pN _) G;obtain⟨os,W,Y,d⟩:=id hs;have a:s.TypeIs (.ref H) "slice":=⟨os,W,Y⟩;unfold CN
 try with_reducible refine rk ?_
 first | refine pw (pD ?_) | skip
 refine pw (Gc B.typeIs ⋯ ?_);refine pw (sS (name:=ug "__getitem__") B.typeIs rO
  (tH rO B.typeIs entry_tuple_getitem ?_ (Fn _ _)))
 show wpAny _ _ (Builtin.Tuple.tupleItemsOf (.ref t) >>= _) _ _ s;refine pw<|Au B ?_;refine pw<|AF a ?_;rw[GY ⋯];refine pw<|k8 hs L U ?_;have b : ¬((((eI z.size 0 lo:Nat):Int)==0 && (1:Int)==1 && (eI z.size z.size G - eI z.size 0 lo)==z.size)=cI):=by intro q;rw[pB,pB]at q;have f:((eI z.size 0 lo:Nat):Int)=0:=eq_of_beq q.1.1;have g:eI z.size z.size G - eI z.size 0 lo=z.size:=eq_of_beq q.2;exact J ⟨by omega,by omega⟩
 show wpAny _ _ (if (((eI z.size 0 lo:Nat):Int)==0 && (1:Int)==1 && (eI z.size z.size G - eI z.size 0 lo)==z.size)=cI then _ else _) _ _ s;rw[MQ b,Yw]
 first
  | exact pw (m:=so _)<|sg (pD ⟨_,rfl,pD h⟩) I
  | exact pw (m:=so _)<|sg (pw<|pD<|pD ⟨_,rfl,pD h⟩) I
  | exact pw<|pw (m:=so _)<|sg (pD<|pD ⟨_,rfl,pD h⟩) I
  | exact pw<|pw (m:=so _)<|sg (pD ⟨_,rfl,pD h⟩) I
end
end HT
namespace L2
open PySem PySem.Spec PyProof.Rows
abbrev TO:=St->Hp->(Option Int->Hp->Prop)->Prop
noncomputable def PO(X:Cx)(e:Option f6)(t:TO):Prop:=
 ∀(a:GW) (s:eM) (b:St) (H:Hp) (Q:Option Int->Hp->Prop),Inv X a b H s->t b H Q->
  wpAny (fh X.prog X.w) X.A (evalPart e X.env) (λu f=>∃o d,Inv X a b d f/\BM u o/\Q o d) X.xe s
def V3:TO:=λ_ H Q=>Q bC H
noncomputable def gw(t:TE):TO:=λb H Q=>t b H λx a=>∃i,x = .int i/\Q (aI i) a
section
variable{X:Cx}{e:f6}{te:TE}{lo hi:Option f6}{tl th:TO}{pos p2:g9}
theorem WE:PO X bC V3:=by intro a s b H Q I h;rw[evalPart_none];exact pD ⟨bC,H,I,.none,h⟩
theorem WD(h:PE X e te):PO X (aI e) (gw te):=by intro a s f H Q I d;rw[evalPart_some];refine gE (h a s f H _ I d) λu g z=>?_;obtain⟨x,b,B,O,R⟩:=z;obtain⟨i,rfl,q⟩:=R;obtain⟨t,rfl⟩:=O;exact⟨aI i,b,B,.int i t,q⟩
noncomputable def DD(X:Cx)(r:V->Option Int->Option Int->Hp->VK->Prop):Prop:=
 ∀(a:GW) (s:eM) (d:St) (H:Hp) (x:V) (v z B:eF) (lo hi:Option Int) (b:cS) (Q:VK),Inv X a d H s->RelV x v->s.heap.IsSliceOf b z B .none->BM z lo->BM B hi->r x lo hi H Q->
  ∃T id,DU (.type T) "__getitem__" = pure (aI (.builtin id))/\s.TypeIs v T/\wpAny (fh X.prog X.w) X.A (CN v (.ref b)) (EP X a d Q) X.xe s
noncomputable def F5(r:V->Option Int->Option Int->Hp->VK->Prop)(te:TE)(tl th:TO):TE:=λa H Q=>te a H λx b=>tl a b λl d=>th a d λu z=>r x l u z Q
theorem Jm(U:DD X r)(W:PE X e te)(Y:PO X lo tl)(G:PO X hi th):PE X (.Subscript e (.Slice lo hi bC p2) pos) (F5 r te tl th):=by intro a s d H Q I h;refine Subscript_ (gE (W a s d H _ I h) λv L o=>?_);obtain⟨x,f,i,K,E⟩:=o;refine wpAny_Slice (gE (Y a L d f _ i E) λB M ⟨l,g,j,y,F⟩=>gE (G a M d g _ j F) λO z ⟨u,R,k,C,J⟩=>?_);rw[evalPart_none];refine pD ?_;have m:Inv X a d R {z with heap:=z.heap.push {cls:= .type "slice",data:= .fields #[B,O,.none]}}:=k.kept (t':=z.toks) λb N q=>pA _ q;obtain⟨T,id,n,t,p⟩:=U a {z with heap:=z.heap.push {cls:= .type "slice",data:= .fields #[B,O,.none]}} d R x v B O l u z.heap.objs.size Q m K (Heap.IsSliceOf.new ..) y C J;show wpAny (fh X.prog X.w) X.A (subscriptTail e (.Slice lo hi bC p2) v (.ref z.heap.objs.size)) (EP X a d Q) X.xe {z with heap:=z.heap.push {cls:= .type "slice",data:= .fields #[B,O,.none]}};exact tail_any (ops:=[.ref z.heap.objs.size,v]) t n p (by with_unfolding_all rfl)
noncomputable def Y2(xs:List V)(lo hi:Option Int):List V:=(xs.drop<|HT.eI xs.length 0 lo).take (HT.eI xs.length xs.length hi - HT.eI xs.length 0 lo)
theorem yN(xs:List V)(lo hi:Option Int):(Y2 xs lo hi).length<=xs.length:=by unfold Y2;rw[sH,Al];omega
noncomputable def ou(K:pv):V->Option Int->Option Int->Hp->VK->Prop:=λx lo hi H Q=>∃a b,x = .ref a/\i4 K H a b/\
 ¬(HT.eI b.length 0 lo=0/\HT.eI b.length b.length hi=b.length)/\∀p,H p=bC->Q (.ref p) (upd H p<|.tup<|Y2 b lo hi)
theorem aW:DD X (ou X.K):=by
 intro e s m H x v W Y lo hi l Q I rx f j R h;obtain⟨a,d,rfl,i,g,q⟩:=h;cases rx;obtain⟨U,r,B,O⟩:=I.tuple i;have z:U.toArray.size=d.length:=by rw[pL];exact r.length.symm
 refine⟨"tuple",_,rO.lookup,B.typeIs,?_⟩;refine HT.Qc B f j R (by rw[z];exact g) ?_ (by rw[z];exact O);rw[z];refine⟨.ref s.heap.objs.size,_,I.laid (t':=s.toks) (o:= .tup (Y2 d lo hi)) (λb k q=>pA _ q) (pN _) ?_,rfl,q _ (I.gv.fresh (pN _))⟩;exact⟨rV (yN d lo hi) O,_,(r.drop (HT.eI d.length 0 lo)).take (HT.eI d.length d.length hi - HT.eI d.length 0 lo),BH.new _ _⟩
theorem hA.DN(r:hA xs us):us=[]↔xs=[]:=by
 cases r with
 | nil=>simp
 | cons _ _=>simp
end
noncomputable def Cv(n:Nat)(i:Int):Option Nat:=if 0<=i then (if i<n then aI i.toNat else bC)else if -(n:Int)<=i then aI (i+n).toNat else bC
noncomputable def B7{z:Type}(xs:List z)(i:Int):Option z:=(Cv xs.length i).bind λj=>xs[j]?
theorem XB(h:Cv n i=aI j):seqIndex? i n=aI j/\j<n/\ -(n:Int)<=i/\i<n:=by
 unfold Cv at h;by_cases b:0<=i
 ·rw[GY b]at h
  by_cases a:i<n
  ·rw[GY a]at h
   have e:i.toNat=j:=pX h;exact⟨by rw[EV b a,e],by omega,by omega,a⟩
  ·rw[MQ a]at h;cases h
 ·rw[MQ b]at h
  by_cases a : -(n:Int)<=i
  ·rw[GY a]at h
   have e:(i+n).toNat=j:=pX h;exact⟨by rw[EU ⋯ a,e],by omega,a,by omega⟩
  ·rw[MQ a]at h;cases h
theorem ZX(h:B7 xs i=aI v) : ∃j,seqIndex? i xs.length=aI j/\xs[j]? = aI v/\j<xs.length/\ -(xs.length:Int)<=i/\i<xs.length:=by
 unfold B7 at h;cases e:Cv xs.length i with
 | none=>rw[e]at h;cases h
 | some j=>
  rw[e]at h;obtain⟨a,b,z,B⟩:=XB e;exact⟨j,a,h,b,z,B⟩
noncomputable def ZZ(b:f6):Prop:=∀o i,subscripted b dV o i=operate [o,i] (CN o i)
noncomputable def B6(X:Cx)(r:R2):Prop:=
 ∀(B z:f6) (a:GW) (s:eM) (b:St) (H:Hp) (x y:V) (v u:eF) (Q:VK),Inv X a b H s->RelV x v->RelV y u->r x y H Q->
  subscripted z dV v u=operate [v,u] (CN v u)->wpAny (fh X.prog X.w) X.A (subscriptTail B z v u) (EP X a b Q) X.xe s
noncomputable def Fm(X:Cx)(id:String)(r:V->List V->Hp->VK->Prop):Prop:=
 ∀(a:GW) (s:eM) (e:St) (H:Hp) (x:V) (d:List V) (v:eF) (b:List eF) (Q:VK),Inv X a e H s->RelV x v->hA d b->r x d H Q->
  wpAny (fh X.prog X.w) X.A (call (.builtin id) (v::b)) (EP X a e Q) X.xe s
section
variable{X:Cx}{a b:f6}{ta tb:TE}{pos:g9}
theorem B6.or(h:B6 X r)(h':B6 X r'):B6 X (λx y H Q=>r x y H Q\/r' x y H Q):=by
 intro z B a s d H x y v u Q I rx O q b;rcases q with q | q
 ·exact h z B a s d H x y v u Q I rx O q b
 ·exact h' z B a s d H x y v u Q I rx O q b
theorem bZ(z:B6 X r)(G:PE X a ta)(B:PE X b tb)(hs:ZZ b):PE X (.Subscript a b pos) (Ds r ta tb):=by intro d s g H Q I h;exact Subscript_<|lq G B I h λv u f x y e O rx R q=>z a b d f g e x y v u Q O rx R q<|hs _ _
noncomputable def oA(K:pv):R2:=λx y H Q=>∃p a i v,x = .ref p/\y = .int i/\i2 K H p a/\B7 a i=aI v/\Q v H
noncomputable def oy(K:pv):R2:=λx y H Q=>∃p a i v,x = .ref p/\y = .int i/\i4 K H p a/\B7 a i=aI v/\Q v H
noncomputable def oz:R2:=λx y H Q=>∃z i c,x = .str z/\y = .int i/\z.length<=i6/\B7 z.cps.toList i=aI c/\Q (.str ⟨#[c]⟩) H
theorem FI:B6 X (oA X.K):=by
 intro E F a s g H x y v u Q I rx U h f;obtain⟨p,M,i,z,rfl,rfl,A,W,q⟩:=h;cases rx;obtain⟨t,rfl⟩:=U;obtain⟨Y,r,d,L⟩:=I.list A;obtain⟨j,b,l,G,m,n⟩:=ZX W;obtain⟨w,O,k⟩:=r.get l;have o:=r.length;have J:=wW;have R:EP X a g Q w s:=⟨z,H,I,k,q⟩;by_cases e:0<=i
 ·have B:i.toNat=j:=by
   rw[EV e n]at b;exact pX b
  exact item_listR d.isList e ⋯ (by rw[B];simpa using O) R f
 ·have B:(i+(Y.toArray.size:Int)).toNat=j:=by
   rw[EU ⋯ m]at b;rw[pL,<- o];exact pX b
  exact F2 (x:=w) d.isList.typeIs slot_list_getitem.lookup
   (wpAny_getItem_list_neg (Q:=λr C=>r=w/\EP X a g Q r C) d.isList ⋯ (by rw[pL]<;>omega) ⋯ (by rw[B];simpa using O) ⟨rfl,R⟩) f
theorem df:B6 X (oy X.K):=by
 intro m n a s d H x y v u Q I rx B h k;obtain⟨p,J,i,z,rfl,rfl,g,O,q⟩:=h;cases rx;obtain⟨t,rfl⟩:=B;obtain⟨o,r,b,G⟩:=I.tuple g;obtain⟨j,e,f,A,C,E⟩:=ZX O;obtain⟨w,R,U⟩:=r.get f;have W:=r.length;have F:=wW;have Y:EP X a d Q w s:=⟨z,H,I,U,q⟩;exact F2 (x:=w) b.typeIs slot_tuple_getitem.lookup
  (getItem_tuple (j:=j) (Q:=λr l=>r=w/\EP X a d Q r l) b ⋯ ⋯ (by rw[pL,<- W];exact e) (by simpa using R) ⟨rfl,Y⟩) k
theorem dg:B6 X oz:=by
 intro g k b s p H x y v u Q I rx B h f;obtain⟨z,i,c,rfl,rfl,n,O,q⟩:=h;obtain⟨t,rfl⟩:=rx;obtain⟨o,rfl⟩:=B;obtain⟨j,a,e,l,R,U⟩:=ZX O;have W:z.cps.toList.length=z.length:=by simp[Str.length]
 rw[W]at a R U;have m:=wW;exact tail_any (typeIs_str s z t) slot_str_getitem.lookup (getItem_str (c:=c) (by
  have d:decide (i < -(2 ^ 63:Int))=dV:=decide_eq_false ⋯;have Y:decide (i>=2 ^ 63)=dV:=decide_eq_false ⋯;rw[d,Y,Bool.or_false]) (by rw[a];simpa using e) ⟨.str ⟨#[c]⟩,H,I.tok _,⟨_,rfl⟩,q⟩) f
theorem J7(z:List eF)(n j:Nat)(u:eF):Be (·.setIfInBounds j u) {cls:= .type "list",data:= .seq z.toArray n} = {cls:= .type "list",data:= .seq (z.set j u).toArray n}:=by simp[Be]
theorem Inv.lst(I:Inv X pins σ H s)(h:H p=aI (.lst xs)) :
 ∃(B:List eF) (n:Nat),hA xs B/\s.heap.get? p=aI {cls:= .type "list",data:= .seq B.toArray n}/\xs.length<=i6:=by
 obtain⟨z,B,n,r,e⟩:=I.gv p _ h;exact⟨B,n,r,e,z⟩
theorem Inv.FL{G:GW}{P:St}{H:Hp}{s:eM}{p:cS}{xs J:List V}{B its':List eF}{n z:Nat}{f:l3->l3}(I:Inv X G P H s)(h:H p=aI (.lst xs))
 (O:s.heap.get? p=aI {cls:= .type "list",data:= .seq B.toArray n}) (L:f {cls:= .type "list",data:= .seq B.toArray n} = {cls:= .type "list",data:= .seq its'.toArray z}) (r:hA J its') (R:J.length<=i6) (t:Nat) :
 Inv X G P (upd H p<|.lst J) {s with heap:=s.heap.update p f,toks:=t}:=by
 have e:(s.heap.update p f).get? p=aI {cls:= .type "list",data:= .seq its'.toArray z}:=by rw[rJ f O (by rw[L]<;>rfl),L]
 refine I.write (x:=p) (e:=p) (by rw[h];trivial) (.inl rfl) (λb u U q=>(rW _ _<|rH U).trans q) ⟨_,e⟩ ?_;exact⟨R,its',z,r,e⟩
noncomputable def hJ:V->V->V->Hp->(Hp->Prop)->Prop:=λo i v H Q=>∃p a k j,o = .ref p/\i = .int k/\H p=aI (.lst a)/\Cv a.length k=aI j/\Q (upd H p<|.lst<|a.set j v)
theorem KS:nA X hJ:=by
 intro a s A H o i v G F u Q I w m x h;obtain⟨p,y,k,j,rfl,rfl,O,g,q⟩:=h;cases w;obtain⟨t,rfl⟩:=m;obtain⟨R,n,r,z,l⟩:=I.lst O;obtain⟨b,C,U,Y⟩:=XB g;have B:=r.length;have E:=wW;have e:Inv X a A (upd H p<|.lst<|y.set j v) {s with heap:=s.heap.update p (Be (·.setIfInBounds j u))}:=
  I.FL O z (J7 R n j u) (r.set x j) (by rw[List.length_set];exact l) s.toks
 by_cases f:0<=k
 ·have d:k.toNat=j:=by
   rw[EV f Y]at b;exact pX b
  exact PySem.W.ki_setAt z f ⋯ (by rw[pL,<- B];exact Y) (by rw[d];exact⟨_,e,q⟩)
 ·have d:(k+(R.toArray.size:Int)).toNat=j:=by
   rw[EU ⋯ U]at b;rw[pL,<- B];exact pX b
  exact PySem.W.ki_setBack z ⋯ (by rw[pL,<- B];exact U) ⋯ (by rw[d];exact⟨_,e,q⟩)
theorem wD(lo z:Option Int)(n:Nat):(CS lo z bC n).1=((HT.eI n 0 lo:Nat):Int)/\(CS lo z bC n).2.1=((HT.eI n n z:Nat):Int)/\(CS lo z bC n).2.2=1:=by
 refine⟨?_,?_,rfl⟩
 ·cases lo with
  | none=>simp[CS,HT.eI]
  | some i=>
   simp only[CS,HT.eI,Ba,show(1:Int)>0 by decide,if_true];by_cases h:i<0
   ·simp only[h,if_true]<;>omega
   ·simp only[h,if_false]<;>omega
 ·cases z with
  | none=>simp[CS,HT.eI]
  | some i=>
   simp only[CS,HT.eI,Ba,show(1:Int)>0 by decide,if_true];by_cases h:i<0
   ·simp only[h,if_true]<;>omega
   ·simp only[h,if_false]<;>omega
theorem vQ(z:List eF)(lo G:Option Int):slicePick z.toArray lo G bC=((z.drop<|HT.eI z.length 0 lo).take (HT.eI z.length z.length G - HT.eI z.length 0 lo)).toArray:=by obtain⟨a,b,B⟩:=wD lo G z.toArray.size;unfold slicePick;rw[a,b,B];simp only[sliceRange_one,pick_run,pL]<;>rfl
noncomputable def ox(K:pv):V->Option Int->Option Int->Hp->VK->Prop:=λx lo d H Q=>∃a b,x = .ref a/\i2 K H a b/\∀p,H p=bC->Q (.ref p) (upd H p<|.lst<|Y2 b lo d)
theorem We:DD X (ox X.K):=by intro f s m H x v U W lo e l Q I rx g j B h;obtain⟨a,d,rfl,i,q⟩:=h;cases rx;obtain⟨Y,r,z,O⟩:=I.list i;have R:=r.length;refine⟨"list",_,slot_list_getitem.lookup,z.isList.typeIs,?_⟩;refine wpAny_getItem_list_slice z.isList g j B .none ⋯ ?_ (by rw[pL]<;>omega);rw[vQ,<- R];refine⟨.ref s.heap.objs.size,_,I.laid (t':=s.toks) (o:= .lst (Y2 d lo e)) (λb k q=>pA _ q) (pN _) ?_,rfl,q _ (I.gv.fresh (pN _))⟩;exact⟨rV (yN d lo e) O,_,0,(r.drop (HT.eI d.length 0 lo)).take (HT.eI d.length d.length e - HT.eI d.length 0 lo),pS _ rfl⟩
noncomputable def vf:V->Bool
 | .g8=>cI
 | .bl _=>cI
 | .int _=>cI
 | .str _=>cI
 | _=>dV
noncomputable def BV:V->V->Bool
 | .g8,.g8=>cI
 | .bl a,.bl b=>a==b
 | .bl a,.int b=>(if a then 1 else 0)==b
 | .int a,.bl b=>a==(if b then 1 else 0)
 | .int a,.int b=>a==b
 | .str a,.str b=>a==b
 | _,_=>dV
theorem dD(z:RelV y u)(rx:RelV x v)(B:vf y=cI)(fx:vf x=cI):rT A s u v (BV y x):=by
 cases y with
 | g8=>
  cases z;cases x with
  | g8=>cases rx;exact rT.same _
  | bl b=>cases rx;exact rT.none_bool b
  | int b=>obtain⟨t,rfl⟩:=rx;exact rT.none_int b t
  | str b=>obtain⟨t,rfl⟩:=rx;exact rT.none_str b t
  | _=>exact absurd (show dV=cI from fx) pQ
 | bl a=>
  cases z;cases x with
  | g8=>cases rx;exact rT.bool_none a
  | bl b=>cases rx;exact rT.bool_bool a b
  | int b=>obtain⟨t,rfl⟩:=rx;exact rT.bool_int a b t
  | str b=>obtain⟨t,rfl⟩:=rx;exact rT.bool_str a b t
  | _=>exact absurd (show dV=cI from fx) pQ
 | int a=>
  obtain⟨d,rfl⟩:=z;cases x with
  | g8=>cases rx;exact rT.int_none a d
  | bl b=>cases rx;exact rT.int_bool a d b
  | int b=>obtain⟨t,rfl⟩:=rx;exact rT.int_int a d b t
  | str b=>obtain⟨t,rfl⟩:=rx;exact rT.int_str a d b t
  | _=>exact absurd (show dV=cI from fx) pQ
 | str a=>
  obtain⟨d,rfl⟩:=z;cases x with
  | g8=>cases rx;exact rT.str_none a d
  | bl b=>cases rx;exact rT.str_bool a d b
  | int b=>obtain⟨t,rfl⟩:=rx;exact rT.str_int a d b t
  | str b=>obtain⟨t,rfl⟩:=rx;exact rT.str_str a d b t
  | _=>exact absurd (show dV=cI from fx) pQ
 | _=>exact absurd (show dV=cI from B) pQ
noncomputable def vu(x:V)(u:eF):Bool:=match u with
 | .none=>BV .g8 x
 | .bool b=>BV (.bl b) x
 | .int i _=>BV (.int i) x
 | .str z _=>BV (.str z) x
 | _=>dV
theorem VQ(r:RelV y u)(f:vf y=cI):vu x u=BV y x:=by
 cases y with
 | g8=>cases r;rfl
 | bl b=>cases r;rfl
 | int i=>obtain⟨t,rfl⟩:=r;rfl
 | str z=>obtain⟨t,rfl⟩:=r;rfl
 | _=>exact absurd (show dV=cI from f) pQ
theorem yR : ∀{xs:List V} {z:List eF},hA xs z->xs.all vf=cI->z.any (vu x)=xs.any λy=>BV y x
 | _,_,.nil,_=>rfl
 | y::xs,u::z,.cons r t,f=>by rw[tM,pB]at f;rw[AN,AN,VQ r f.1,yR t f.2]
theorem km(rx:RelV x v)(fx:vf x=cI) : ∀{xs:List V} {G:List eF},hA xs G->xs.all vf=cI->∀u∈G,rT A s u v (vu x u)
 | _,_,.nil,_=>λu z=>by cases z
 | y::xs,u::G,.cons r t,f=>λB z=>by
  rw[tM,pB]at f;rcases pM.mp z with rfl | z
  ·rw[VQ r f.1];exact dD r rx f.1 fx
  ·exact km rx fx t f.2 B z
def CP(x:V)(xs:List V):Bool:=xs.any λy=>BV y x
noncomputable def ET(K:pv)(neg:Bool):R2:=λx y H Q=>∃p a,y = .ref p/\(i2 K H p a\/i4 K H p a)/\vf x=cI/\a.all vf=cI/\Q (.bl<|if neg then !CP x a else CP x a) H
theorem Xl:jn X (o9 .In) (ET X.K dV):=by
 intro d s f H x y v u Q I rx B h;obtain⟨p,e,rfl,hq,fx,fs,q⟩:=h;cases B;rcases hq with hq | hq
 ·obtain⟨z,r,b,O⟩:=I.list hq
  refine SeqAt.in_listAt (vu x) b.isList (λw a=>km rx fx r fs w<|by simpa using a) ⟨.bl _,H,I,rfl,?_⟩;rw[show z.toArray.any (vu x)=z.any (vu x)by simp,yR r fs];exact q
 ·obtain⟨z,r,b,O⟩:=I.tuple hq
  refine SeqAt.in_tupleAt (vu x) b (λw a=>km rx fx r fs w<|by simpa using a) ⟨.bl _,H,I,rfl,?_⟩;rw[show z.toArray.any (vu x)=z.any (vu x)by simp,yR r fs];exact q
theorem kY:jn X (o9 .NotIn) (ET X.K cI):=by
 intro d s f H x y v u Q I rx B h;obtain⟨p,e,rfl,hq,fx,fs,q⟩:=h;cases B;rcases hq with hq | hq
 ·obtain⟨z,r,b,O⟩:=I.list hq
  refine SeqAt.notIn_listAt (vu x) b.isList (λw a=>km rx fx r fs w<|by simpa using a) ⟨.bl _,H,I,rfl,?_⟩;rw[show z.toArray.any (vu x)=z.any (vu x)by simp,yR r fs];exact q
 ·obtain⟨z,r,b,O⟩:=I.tuple hq
  refine SeqAt.notIn_tupleAt (vu x) b (λw a=>km rx fx r fs w<|by simpa using a) ⟨.bl _,H,I,rfl,?_⟩;rw[show z.toArray.any (vu x)=z.any (vu x)by simp,yR r fs];exact q
theorem Ze:Zl X (.builtin "len") (λxs H Q=>∃p G,xs=[.ref p]/\(i2 X.K H p G\/i4 X.K H p G)/\Q (.int G.length) H):=by
 intro b s f H xs e Q I r h;obtain⟨p,G,rfl,hq,q⟩:=h;obtain⟨u,rfl,rx⟩:=vM r;cases rx;have d:=wW;rcases hq with hq | hq
 ·obtain⟨O,z,a,R⟩:=I.list hq
  have B:=z.length;exact Calls.call_len_list a.isList (by simp only[pL]<;>omega) ⟨.int G.length,H,I.tok _,⟨s.toks+1,by rw[pL,B]⟩,q⟩
 ·obtain⟨O,z,a,R⟩:=I.tuple hq
  have B:=z.length;exact len_tuple a (by simp only[pL]<;>omega) ⟨.int G.length,H,I.tok _,⟨s.toks+1,by rw[pL,B]⟩,q⟩
theorem wg:Zl X (.type "tuple") (λxs H Q=>∃p G,xs=[.ref p]/\((i2 X.K H p G/\∀l,H l=bC->Q (.ref l) (upd H l (.tup G)))\/(i4 X.K H p G/\Q (.ref p) H))):=by
 intro a s i H xs k Q I r h;obtain⟨p,G,rfl,h⟩:=h;obtain⟨u,rfl,rx⟩:=vM r;cases rx;rcases h with⟨f,q⟩ | ⟨f,q⟩
 ·obtain⟨z,B,g,O⟩:=I.list f
  have W:=B.length;refine call_tuple_list g.isList (λd j=>?_) (by simp only[pL]<;>omega);have R:Inv X a i H {s with heap:=d}:=I.kept (t':=s.toks) j;have U:Inv X a i (upd H d.objs.size (.tup G)) {s with heap:=d.push {cls:= .type "tuple",data:= .seq z.toArray}}:=
   R.laid (t':=s.toks) (λb o e=>pA _ e) (pN _) (show i8 X.prog X.w _ _ _ (.tup G)from⟨O,z,B,BH.new _ _⟩)
  exact⟨.ref d.objs.size,_,U,rfl,q _<|R.gv.fresh<|pN _⟩
 ·obtain⟨z,B,g,O⟩:=I.tuple f
  exact call_tuple_same g ⟨.ref p,H,I,rfl,q⟩
noncomputable def E9(K:pv)(T:String)(x:V)(H:Hp):Prop:=match x with
 | .str _=>T = "str"
 | .int _=>T = "int"
 | .ref p=>(T = "list"/\∃b,i2 K H p b)\/(T = "tuple"/\∃o,K.lookup p=aI o/\o.cls = .type "tuple"/\o.dict=bC)\/
  (T = "dict"/\((∃a,H p=aI (.dK a))\/∃a,H p=aI (.dT a)))\/(T = "set"/\∃S n,H p=aI (.set S n))
 | _=>False
theorem aJ(I:Inv X pins σ H s)(r:RelV x v)(ty:E9 X.K T x H) :
 s.TypeIs v T/\∀a,v = .ref a->∃O,s.heap.get? a=aI O/\O.dict=bC:=by
 cases x with
 | str z=>
  obtain⟨t,rfl⟩:=r;cases (show T = "str" from ty);exact⟨typeIs_str s z t,λ_ e=>nomatch e⟩
 | int i=>
  obtain⟨t,rfl⟩:=r;cases (show T = "int" from ty);exact⟨Fb s i t,λ_ e=>nomatch e⟩
 | ref p=>
  cases r;rcases ty with⟨rfl,l,k⟩ | ⟨rfl,o,b,j,f⟩ | ⟨rfl,b⟩ | ⟨rfl,S,n,b⟩
  ·obtain⟨R,_,h,_⟩:=I.list k
   refine⟨h.isList.typeIs,λa e=>?_⟩;cases e;obtain⟨o,n,e,c,f,_⟩:=h;exact⟨o,e,f⟩
  ·refine⟨⟨o,I.ij p o b,j⟩,λa e=>?_⟩
   cases e;exact⟨o,I.ij _ o b,f⟩
  ·have z : ∃o,s.heap.get? p=aI o/\o.ExactDict:=by
    rcases b with⟨g,b⟩ | ⟨g,b⟩
    ·obtain⟨_,_,_,_,o,_,_,e,d,_⟩:=I.gv p _ b
     exact⟨o,e,d⟩
    ·obtain⟨_,_,_,_,o,_,_,e,d,_⟩:=I.gv p _ b
     exact⟨o,e,d⟩
   obtain⟨o,e,d⟩:=z;refine⟨⟨o,e,d.1⟩,λa B=>?_⟩;cases B;exact⟨o,e,d.2.1⟩
  ·obtain⟨o,_,_,_,e,d,_⟩:=I.gv p _ b
   refine⟨⟨o,e,d.1⟩,λa B=>?_⟩;cases B;exact⟨o,e,d.2.1⟩
 | _=>exact rR ty
noncomputable def E1(K:pv)(T:String)(r:V->List V->Hp->VK->Prop)(to:TE)(t:TA):TE:=λb H Q=>to b H λx a=>E9 K T x a/\t b a λe d=>r x e d Q
variable{o e:f6}{es:List f6}{to:TE}{t:TA}{name:Str}{apos cpos:g9}{T id:String}{r:V->List V->Hp->VK->Prop}
theorem iy(R:PlainAttrs T)(G:Slot T name id)(U:typeOf (.builtin id)=pure (.type "method_descriptor"))(hm:Fm X id r)(W:PE X o to)(Z:PA X (e::es) t)
 (Y:D4 o name X.env (fk o X.env)=fk o X.env:=by rfl)
 (J:((ow cpos<|starEach (e::es) X.env).all (λx=> !x.1) && (backToKw cpos<|keywordEach [] X.env).all (λx=>x.1.isSome)
   && decide ((e::es).length+([]:List DX).length+(if ([]:List DX).isEmpty then 0 else 1)<30))=cI:=by rfl)
 (L:(apos.endLine==cpos.line)=cI:=by rfl) (hs:hX (e::es) X.env=(dV,fk e X.env)::hX es X.env:=by rfl) (P:(ow cpos<|starEach es X.env).any (·.1)=dV:=by rfl) :
 PE X (.Call (.Attribute o name apos) (e::es) [] cpos) (E1 X.K T r to t):=by
 intro a s b H Q I h;refine wpAny_Call_method_late Y J L rfl<|gE (W a s b H _ I h) λv p k=>?_;obtain⟨x,d,z,B,ty,l⟩:=k;obtain⟨i,j⟩:=aJ z B ty;refine⟨T,id,R,G,U,i,j,?_⟩;have O:=Z cpos a p b d _ z l;rw[hs]at O ⊢;refine Ao (by show(dV || (ow cpos<|starEach es X.env).any (·.1))=dV;rw[P]<;>rfl)<|uD ?_;exact gE O λw u ⟨y,f,g,n,m⟩=>hm a u b f x y v w Q g B n m
end
noncomputable def Fk(X:Cx)(id:String)(r:V->List V->Hp->VK->Prop):Prop:=
 ∀(a:GW) (s:eM) (e:St) (H:Hp) (x:V) (d:List V) (v:eF) (b:List eF) (Q:VK),Inv X a e H s->RelV x v->hA d b->r x d H Q->
  wpAny (fh X.prog X.w) X.A (call (.builtin id) (v::b)) (EP X a e Q) X.xe s
theorem hA.one : ∀{x:V} {z:List eF},hA [x] z->∃u,z=[u]/\RelV x u
 | _,_,.cons r .nil=>⟨_,rfl,r⟩
theorem hA.dropLast(h:hA xs us):hA xs.dropLast us.dropLast:=by
 induction h with
 | nil=>exact .nil
 | cons r t z=>
  cases t with
  | nil=>exact .nil
  | cons q a=>exact .cons r z
theorem hA.rep(h:hA xs us) : ∀k:Nat,hA (pF k xs).flatten (pF k us).flatten
 | 0=> .nil
 | k+1=>by rw[sR,sR,tL,tL];exact hA.append h<|hA.rep h k
theorem Za(z:List eF) : ∀(k:Nat) (acc:List eF),
 List.foldl (λx1 B=>x1++B) acc.toArray (pF k z.toArray)=(acc++(pF k z).flatten).toArray
 | 0,acc=>by simp
 | k+1,acc=>by
  have e:acc.toArray++z.toArray=(acc++z).toArray:=by simp
  have I:(acc++z)++(pF k z).flatten=acc++(pF (k+1) z).flatten:=by rw[sR,tL,List.append_assoc]
  rw[<- I,<- Za z k (acc++z),<- e,sR,List.foldl_cons]
section
variable{X:Cx}{pins:GW}{σ:St}{H:Hp}{s:eM}{l b:cS}{xs ys zs:List V}
theorem Inv.Eh{z its':List eF}{n:Nat}{f:Array eF->Array eF}{t':Nat}(I:Inv X pins σ H s)(B:H l=aI (.lst xs))
 (e:s.heap.get? l=aI {cls:= .type "list",data:= .seq z.toArray n}) (G:f z.toArray=its'.toArray) (O:hA ys its') (R:ys.length<=i6) :
 Inv X pins σ (upd H l<|.lst ys) {s with heap:=s.heap.update l<|Be f,toks:=t'}:=by
 have q:=PySem.IsL.update e f;rw[G]at q;refine I.write (x:=l) (e:=l) (by rw[B];exact trivial) (.inl rfl) (λY u U W=>(rW s.heap (Be f)<|rH U).trans W) ⟨_,q⟩ ?_;exact⟨R,its',_,O,q⟩
theorem Inv.FK(I:Inv X pins σ H s)(B:hA ys z)(O:ys.length<=i6) :
 Inv X pins σ (upd H s.heap.objs.size (.lst ys)) {s with heap:=s.heap.push {cls:= .type "list",data:= .seq z.toArray},toks:=t'}:=
 I.laid (λ_ _ q=>pA _ q) (pN _) ⟨O,z,0,B,pS _ rfl⟩
theorem Inv.fresh(I:Inv X pins σ H s):H s.heap.objs.size=bC:=I.gv.fresh<|pN _
theorem Inv.Ei(I:Inv X pins σ H s)(O:H l=aI (.lst xs)):xs.length<=i6/\∃(B:List eF) (n:Nat),hA xs B/\xs.length=B.length/\s.heap.get? l=aI {cls:= .type "list",data:= .seq B.toArray n}:=by obtain⟨z,B,n,r,e⟩:=I.gv l _ O;exact⟨z,B,n,r,r.length,e⟩
end
section
variable{X:Cx}
noncomputable def QL:V->List V->Hp->VK->Prop:=λx b H Q=>∃l a y,x = .ref l/\b=[y]/\H l=aI (.lst a)/\a.length<i6/\Q .g8 (upd H l<|.lst<|a++[y])
theorem Xu:Fk X "list.append" QL:=by intro a s g H x d v b Q I rx R h;obtain⟨l,f,y,rfl,rfl,B,W,q⟩:=h;cases rx;obtain⟨u,rfl,U⟩:=R.one;obtain⟨z,O,n,r,Y,e⟩:=I.Ei B;refine Ar Bf ⟨_,e,rfl⟩ AX (AJ _ _) (AR l O.toArray n u (by rw[pL];omega)) ⟨e,?_⟩;refine⟨.g8,_,I.Eh (its':=O++[u]) B e ⋯ (r.append (.cons U .nil)) ?_,rfl,q⟩;rw[rE,sF];omega
theorem Xy(xs:List α)(k:Nat):(pF k xs).flatten.length=k*xs.length:=by
 induction k with
 | zero=>simp
 | succ k z=>rw[sR,tL,rE,z,Nat.succ_mul,Nat.add_comm]
end
end L2
namespace Att
open PySem PySem.W PySem.Calls PyProof.Rows
theorem yJ : ∀(ns:List Int) (B:List eF),WellAll P h B (ns.map WData.int)->Dz B ns:=by
 intro ns
 induction ns with
 | nil=>
  intro B w;rw[List.map_nil]at w;cases w;exact .nil
 | cons n ns z=>
  intro B w;rw[rM]at w;cases w with
  | cons a b=>
   cases a;exact .cons _ _<|z _ b
theorem QG{l:OpenLaw}{n:Nat}(H:l.most=aI n){P:Params}{h:fy}{args:List WData}{I:List eF}
 (O:l.row.toRowW.claim.pre args=cI) (R:WellAll P h I args) :
 ∃a G ns,I=[pO a]/\args=[WData.list (ns.map WData.int)]/\h.get? a=aI {cls:= .type "list",data:= .seq G.toArray}/\Dz G ns/\ns.length<=n:=by
 have U:WShape.hasAll [] args [.list .int]=cI:=(pre_splitW O).1;have b:l.pre.holds [] {args:=args}=cI:=(pre_splitW O).2;obtain⟨d,r,rfl,f,g⟩:=hasAllW_cons U;obtain rfl:=hasAllW_nil g;obtain⟨o,rfl,W⟩:=hasW_list f;obtain⟨ns,rfl⟩:=items_int W;have Y:ns.length<=n:=by
  unfold OpenLaw.pre at b;have z:(WTm.not<|.lt (.lit<|.int (n:Int))<|.len<|.arg 0).holds [] {args:=[.list (ns.map .int)]}=cI:=by have z:=(holds_andW b).1;rw[H]at z;exact z
  have B:=condW_of z<|w_not<|w_lt w_lit<|w_len_list<|w_arg rfl;rw[pR]at B;refine Nat.le_of_not_lt λq=>?_;have j:(n:Int)<((ns.length:Nat):Int):=by omega
  first
   | (rw[decide_eq_true j]at B;exact absurd B ⋯)
   | (simp at B;omega)
 cases R with
 | cons k m=>
  cases m;cases k with
  | list i e=>exact⟨_,_,ns,rfl,rfl,i,yJ ns _ e,Y⟩
theorem Q9(l:OpenLaw)(args:List WData):l.row.toRowW.claim.post args (.bool cI) args=cI:=
 postW_of (r:=l.row.toRowW) (X:=(cI==cI))
  (show WShape.has [] (.bool cI) .bool=cI by first | rfl | decide | simp[WShape.has,WShape.arms,WShape.armsAll])
  (show(WTm.eq .res<|.lit<|.bool cI).value [] {args:=args,res:=aI (.bool cI),after:=args}=aI (.bool<|true==cI)from w_eq_bool (w_res rfl) w_lit) rfl
theorem W7{l:OpenLaw}{n:Nat}{q:iv}{B:List Str}{I:(Str->Option eF)->fy->Prop}{O:h8->fy->Prop}{d:DefRec}
 (hn:l.most=aI n) (U:d.params.defaults=[])
 (call : ∀(w:h8) (hF z:eM) (P Z:GJ) (L:cS) (o:l3) (pm cd H:eF) (a:cS) (J:List eF) (ns:List Int),
   Ground q B [] I w hF P Z z.heap->O w z.heap->
   z.heap.get? L=aI o->o.data = .func (docDef d.name d.params d.body d.scope pm cd H)->z.heap.CodeRec cd d.name->P d.name=aI (.ref L)->
   z.heap.get? a=aI {cls:= .type "list",data:= .seq J.toArray}->Dz J ns->ns.length<=n->z.gens = #[]->
   codeAny (fh l.prog w) Cr (.call (.ref L) ⟨[.ref a],[]⟩) (λr s'=>r = .ok (.ret<|.bool cI)/\OldK z.heap s'.heap/\s'.os=z.os/\BE s'.gens) z) :
 WalkO q B I O l.row.toRowW d [] (λf J=>PySem.call f J):=by
 intro w hF z P Z G Y L o pm cd H W kV A u e R g x b E as h F K i M;obtain rfl:W = .none:=Dflts.none R U;obtain rfl:kV = .none:=Dflts.noKw R;obtain⟨a,J,ns,rfl,rfl,j,k,m⟩:=QG hn h i;refine enter_call<|uq (call w hF z P Z L o pm cd H a J ns G Y A (fd_plain u) e g j k m x) λr s' C=>?_;obtain⟨rfl,p,s,t⟩:=C;exact⟨.inl ⟨.bool cI,.bool cI,[],rfl,λ_=>rfl,.bool cI,Q9 l _,λ_=>⟨List.Pairwise.nil,λ_ y=>(nomatch y)⟩⟩,p,s,t⟩
end Att
namespace L2
open PySem PySem.Spec PyProof.Rows
theorem ka : ∀{z:List eF} {ns:List Int},Dz z ns->hA (ns.map V.int) z
 | _,_,.nil=> .nil
 | _,_,.cons n t h=> .cons ⟨t,rfl⟩ (ka h)
def gc(H:Hp):Prop:=∀b,H b=bC\/∃o a,H b=aI (.t9 o<|.lst a)
theorem YK{P:iv}{w:h8}{K:pv}{J mb:GJ}{CX:A8}{k:Nat}{Z a:cS}{fd:sx}{x:Str}{sp:Sp}{B:eM}{G:List eF}{ns:List Int}
 (Y:K.In B.heap) (a1:B.heap.Ns n6 J) (I:B.heap.Ns EH mb) (a9 : ∀x:Str,x ≠ "__name__"->mb x=Cb x) (ac:B.heap.NoLimit) (hg:B.gens = #[])
 (L:B.heap.get? a=aI {cls:= .type "list",data:= .seq G.toArray}) (hi:Dz G ns) (hl:ns.length<=i6) (hr:o5 k Cr)
 (F : ∀base:fy,K.In base->base.Ns n6 J->u5 P w K J base CX k Z fd [x] sp) (ap : ∀(s:eM) (u:eF),CY s fd ⟨[u],[]⟩ [(x,u)])
 (as : ∀H:Hp,gc H->i2 K H a (ns.map V.int)->sp [.ref a] H (λv _=>v = .bl cI) λ_ _ _=>False)
 (ax : ∀H e s',CX [] H B (λ_ _ _=>False) e s'->False) :
 codeAny (fh P w) Cr (.call (.ref Z) ⟨[.ref a],[]⟩) (λr s'=>r = .ok (.ret<|.bool cI)/\OldK B.heap s'.heap/\s'.os=B.os/\BE s'.gens) B:=by
 have C:=ka hi;have E:=hi.length;have j : ∀H:Hp,gc H->i2 K H a (ns.map V.int)->l0 P w H B.heap->(∀b,H b≠bC->b=a)->(H a≠bC->K.lookup a=bC)->
  codeAny (fh P w) Cr (.call (.ref Z) ⟨[.ref a],[]⟩) (λr s'=>r = .ok (.ret<|.bool cI)/\OldK B.heap s'.heap/\s'.os=B.os/\BE s'.gens) B:=by
  intro H A hS i y hK;have l : ∀{b:cS} {o:l3},B.heap.get? b=aI o->H b=bC->(YO B.heap H).get? b=aI o:=λe n=>YN e n;have be : ∀{b:cS} {o:l3} {g:Array DictEntry} {O:Nat},B.heap.get? b=aI o->o.data = .dict g O->H b=bC:=λ{b o g O} e d=>by
   cases q:H b with
   | none=>rfl
   | some u=>
    have W:b=a:=y b (by rw[q];simp);subst W;rw[L]at e;cases e;have N:Data.seq G.toArray _=Data.dict g O:=d;cases N
  have U : ∀{b:cS} {m:GJ},B.heap.Ns b m->(YO B.heap H).Ns b m:=λ{b m} ⟨o,g,O,e,d,r⟩=>⟨o,g,O,l e<|be e d,d,r⟩;have p:K.In (YO B.heap H):=λb o e=>l (Y b o e) (by
   cases q:H b with
   | none=>rfl
   | some u=>
    have W:b=a:=y b (by rw[q];simp);subst W;rw[hK (by rw[q];simp)]at e;cases e)
  have hM:Mod K J (YO B.heap H):=⟨p,U a1,⟨mb,U I,a9⟩,let ⟨mc,X,h2⟩:=ac;⟨mc,U X,h2⟩⟩;have Q:BF P w K J (YO B.heap H) Cr [] B H:=⟨rfl,hM,λb o e=>WS e,Nat.le_of_eq<|XT _ _,trivial,λb I=>absurd (show b∈([]:List cS)from I) ⋯,i,.of_eq hg⟩;refine uq ((F _ p<|U a1).run Cr [] B H ⟨[.ref a],[]⟩ [.ref a] [.ref a] _ _ hr Q (ap B<|.ref a) (.cons rfl .nil) (as H A hS)) λr s' h=>?_;cases r with
  | error e=>exact(ax H e s' h).elim
  | ok T=>
   cases T with
   | next=>exact rR h
   | brk=>exact rR h
   | cont=>exact rR h
   | ret u=>
    obtain⟨v,H',os,f,un,M,r',q⟩:=h;have q':v = .bl cI:=q;subst q';obtain rfl:u=Ae cI:=r';refine⟨rfl,OldK.of_keep λb o e=>?_,os,f⟩;cases q:H b with
    | none=>exact un.keep b o e q (by intro z;exact absurd (show b∈([]:List cS)from z) ⋯) ⋯
    | some u=>
     rcases A b with z | ⟨ob,xs,z⟩
     ·rw[q]at z;cases z
     ·have z2:=un.t2 b ob _ z
      obtain⟨t,_⟩:=i b _ z;obtain⟨S,_⟩:=M b _ z2;rw[e]at t;cases t;exact S
 cases hk:K.lookup a with
 | some o=>
  have e:=Y a o hk;rw[L]at e;cases e;refine j (λ_=>bC) (λ_=> .inl rfl) (.inr ⟨_,G.toArray,_,hk,rfl,rfl,rfl,by rw[pL,E];exact hl,by simpa using C⟩) (λb u z=>by have R:(bC:Option HO)=aI u:=z;cases R) (λb z=>absurd rfl z) λz=>absurd rfl z
 | none=>
  refine j (λb=>if b=a then aI (.t9 {cls:= .type "list",data:= .seq G.toArray} (.lst (ns.map V.int)))else bC) (λb=>?_) (.inl (.inr ⟨{cls:= .type "list",data:= .seq G.toArray},GY rfl⟩)) (λb u z=>?_) (λb z=>?_) λ_=>hk
  ·by_cases I:b=a
   ·exact .inr ⟨_,_,GY I⟩
   ·exact .inl<|MQ I
  ·by_cases I:b=a
   ·have R:=(GY I).symm.trans z
    cases R;subst I;exact⟨L,by rw[pR];exact hl,G,_,C,L⟩
   ·have R:=(MQ I).symm.trans z
    cases R
  ·by_cases I:b=a
   ·exact I
   ·exact absurd (MQ I) z
abbrev f7{K:pv}{h:fy}(_:K.In h):pv:=K
theorem V0{l:PySem.W.OpenLaw}{n k:Nat}{q:iv}{O:List Str}{R:(Str->Option eF)->fy->Prop}{z:h8->fy->Prop}{d:DefRec}{K:Params->pv}{CX:h8->A8}{sp:h8->Sp}{x:Str}
 (hn:l.most=aI n) (U:n<=i6) (a1:d.params.defaults=[]) (hr:o5 k Cr)
 (hY : ∀(w:h8) (h:fy),z w h->(K w.params).In h)
 (F : ∀(w:h8) (J:GJ) (L:cS) (h:fy),(K w.params).In h->h.Ns n6 J->J d.name=aI (.ref L)->
   ∃P:sx,(∀(s:eM) (u:eF),CY s P ⟨[u],[]⟩ [(x,u)])/\
    ∀base:fy,(K w.params).In base->base.Ns n6 J->u5 l.prog w (K w.params) J base (CX w) k L P [x] (sp w))
 (a4 : ∀(w:h8) (H:Hp) (a:cS) (ns:List Int),ns.length<=n->gc H->i2 (K w.params) H a (ns.map V.int)->sp w [.ref a] H (λv _=>v = .bl cI) λ_ _ _=>False)
 (a5 : ∀(w:h8) (H:Hp) (s:eM) (e:eF) (s':eM),CX w [] H s (λ_ _ _=>False) e s'->False) :
 PySem.W.WalkO q O R z l.row.toRowW d [] (λf Z=>PySem.call f Z):=by
 refine Att.W7 hn a1 λw j i J mb L o pm Q t a Z ns G Y X S N m p r B M=>?_;have I:=hY w _ Y;obtain⟨P,E,y⟩:=F w J L _ I G.T.g m;exact YK I G.T.g G.T.b G.T.builtins G.T.nolimit M p r (rV B U) hr y E (λH A C=>a4 w H a ns B A C) λH e s'=>a5 w H i e s'
theorem eo{l:PySem.W.OpenLaw}{n k:Nat}{q:iv}{B:List Str}{I:(Str->Option eF)->fy->Prop}{z:h8->fy->Prop}{d:DefRec}{K:Params->pv}{CX:A8}{sp:pv->Sp}{x:Str}
 (hn:l.most=aI n) (O:n<=i6) (R:d.params.defaults=[]) (U:o5 k Cr)
 (Y : ∀(w:h8) (h:fy),z w h->(K w.params).In h)
 (F : ∀(w:h8) (G:GJ) (J:cS) (h:fy),(K w.params).In h->h.Ns n6 G->G d.name=aI (.ref J)->
   ∃L:sx,(∀(s:eM) (u:eF),CY s L ⟨[u],[]⟩ [(x,u)])/\
    ∀base:fy,(K w.params).In base->base.Ns n6 G->u5 l.prog w (K w.params) G base CX k J L [x] (sp<|K w.params))
 (P : ∀(K:pv) (H:Hp) (a:cS) (ns:List Int),ns.length<=n->gc H->i2 K H a (ns.map V.int)->sp K [.ref a] H (λv _=>v = .bl cI) λ_ _ _=>False)
 (Z : ∀(H:Hp) (s:eM) (e:eF) (s':eM),CX [] H s (λ_ _ _=>False) e s'->False) :
 PySem.W.WalkO q B I z l.row.toRowW d [] (λf vs=>PySem.call f vs):=
 V0 (K:=K) (CX:=λ_=>CX) (sp:=λw=>sp<|K w.params) hn O R U Y F (λw H a ns b g i=>P (K w.params) H a ns b g i) λ_ H s e s'=>Z H s e s'
noncomputable def xw(s:h9):Arguments:=match s with
 | .FunctionDef _ a _ _ _ _ _ _ _ _=>a
 | _=>{posonlyargs:=[],args:=[],vararg:=bC,kwonlyargs:=[],kw_defaults:=[],kwarg:=bC,defaults:=[]}
noncomputable def js(s:h9):List h9:=match s with
 | .FunctionDef _ _ b _ _ _ _ _ _ _=>b
 | _=>[]
noncomputable def zE(s:h9):hH:=match s with
 | .FunctionDef _ _ _ _ _ _ a _ _ _=>a
 | _=>{kind:= .function,names:=[],isGenerator:=dV,isCoroutine:=dV}
abbrev u4:A8:=λ_ _ _ _ _ _=>False
abbrev E0:XK:=λ_ _ _=>False
theorem ck:Ks u4 X E0:=λ_ _ _ _ _ _ _ h=>h.elim
structure A9(K:pv)(x qual:Str)(st:h9)(f:cS)(fd:sx):Prop where
 ex : ∃(oc:eF) (od:Option cS) (kV doc pm:eF) (an:Option cS) (DF ct:eF) (Cy:Array (Option eF)),
  fd=sZ x qual (xw st) (js st) (zE st) .none kV doc pm an DF ct/\K.lookup f=aI ⟨oc,od,.func fd,Cy⟩/\uT K DF qual=cI
 kp:sv K (.ref f)=cI
section
variable{P:iv}{w:h8}{K:pv}{mg:GJ}{base:fy}
theorem A9.ok{x qual:Str}{st:h9}{f:cS}{W:sx}{N L:List Str}{k:Nat}{sp:Sp}(F:A9 K x qual st f W)(S:CC N L (zE st))(len : ∀J H Q E,sp J H Q E->J.length=L.length)
 (z : ∀(G:eF) (A:i7) (outer:List i3) (s:eM) (H:Hp) (J:List V) (Q:VK) (E:XK),o5 k (A.deeper<|envOfC qual (zE st) s.heap.objs.size f G)->sp J H Q E->
   ∃t,q7 (ye u4 P w K mg base N qual (zE st) f G A outer s H E).m7 (js st) t/\t {nx:=λ_ Y=>Q .g8 Y,rt:=Q} (k7 N J) H):u5 P w K mg base u4 (k+1) f W L sp:=by
 obtain⟨g,i,kV,a,j,d,G,e,b,rfl,lk,B⟩:=F.ex;refine WX lk B S len λA outer s H J Q E I O=>?_;obtain⟨t,h,q⟩:=z G A outer s H J Q E I O;exact⟨t,h.m7,q⟩
theorem A9.binds{x qual:Str}{st:h9}{f:cS}{O:sx}{J:List Str}(F:A9 K x qual st f O)
 (h : ∀(kV G I:eF) (H:Option cS) (B ct:eF) (L:List eF),L.length=J.length->bindArgs (sZ x qual (xw st) (js st) (zE st) .none kV G I H B ct) ⟨L,[]⟩=pure (J.zip L)):Binds K O J []:=by
 obtain⟨b,d,kV,G,I,H,B,ct,a,rfl,lk,z⟩:=F.ex;exact .all<|h kV G I H B ct
theorem VO{x qual:Str}{st:h9}{f:cS}{J:eF}{od H:Option cS}{G:Array (Option eF)}{kV B I z ct:eF}(l:K.lookup f=aI ⟨J,od,.func<|sZ x qual (xw st) (js st) (zE st) .none kV B I H z ct,G⟩)
 (c:uT K z qual=cI) (k:sv K (.ref f)=cI):A9 K x qual st f (sZ x qual (xw st) (js st) (zE st) .none kV B I H z ct):=⟨⟨J,od,kV,B,I,H,z,ct,G,rfl,l,c⟩,k⟩
end
def i1(H z:Hp):Prop:=∀b o,H b=aI o->z b=aI o
theorem i1.refl(H:Hp):i1 H H:=λ_ _ h=>h
theorem i1.trans(a:i1 H H1)(b:i1 H1 H2):i1 H H2:=λc o h=>b c o<|a c o h
theorem i1.free(e:i1 H H')(h:H' l=Option.none):H l=Option.none:=by
 cases q:H l with
 | none=>rfl
 | some o=>
  rw[e l o q]at h;cases h
theorem i1.seq{K:pv}{H z:Hp}{a:cS}{xs:List V}(e:i1 H z)(h:i2 K H a xs):i2 K z a xs:=by
 rcases h with(h | ⟨o,h⟩) | h
 ·exact .inl<|.inl<|e _ _ h
 ·exact .inl<|.inr ⟨o,e _ _ h⟩
 ·exact .inr h
noncomputable def yW(cells:List (Str×cS)):List (Str×Bz)->List (Str×cS)->List (Str×cS)
 | [],acc=>acc
 | (n,k)::r,acc=>yW cells r<|if k==pU then (match cells.lookup n with | some c=>(n,c)::acc | none=>acc)else acc
theorem xD(f:Str×Bz->List (Str×cS)->Sem (ForInStep<|List<|Str×cS))
 (G : ∀name kind z,f (name,kind) z=if kind==pU then (do let a <- cellOf env name;pure (.yield ((name,a)::z)))else pure (.yield z)) :
 ∀(names:List (Str×Bz)) (acc:List (Str×cS)),(∀n,(n,pU)∈names->∃c,env.cells.lookup n=aI c)->
  forIn names acc f=(pure (yW env.cells names acc):Sem _)
 | [],acc,_=>by rw[List.forIn_nil];rfl
 | (n,k)::r,acc,h=>by
  rw[List.forIn_cons,G];have B : ∀n,(n,pU)∈r->∃c,env.cells.lookup n=aI c:=λm g=>h m<|pT _ g;unfold yW;by_cases b:(k==pU)=cI
  ·rw[GY b,GY b]
   have I:k=pU:=by simpa using b
   subst I;obtain⟨c,d⟩:=h n rh;have e:cellOf env n=pure c:=by unfold cellOf;rw[d]
   rw[e,d];exact xD f G r _ B
  ·rw[MQ b,MQ b]
   exact xD f G r acc B
theorem kz(h : ∀n,(n,pU)∈scope.names->∃c,env.cells.lookup n=aI c) :
 closureFor scope env=pure (yW env.cells scope.names []):=by
 simp only[closureFor];rw[xD (env:=env) _ (λb a z=>by cases hk:a==pU<;>simp[hk]) scope.names [] h];rfl
theorem jI
 (z:Q {scope:=scope,locals:=s.heap.objs.size,globals:=globals,cells:=rb (s.heap.objs.size+1) scope.names cl,qual:=qual,func:=bC,code:=env.code,frame:=env.frame,builtins:=env.builtins}
   {s with heap:=BD (s.heap.push {cls:= .type "dict",data:= .dict #[]}) scope.names}) :
 wpAny M A (DK scope globals cl [] qual bC .none (aI env)) Q E s:=by
 simp only[DK,Option.isSome_some,if_true];refine pw (wpAny_alloc ?_);refine pw (wpAny_layCells _ (λb a cells=>by cases FE:a==td<;>simp[FE]) _ _ _ _ ?_);rw[show({s with heap:=s.heap.push {cls:= .type "dict",data:= .dict #[]}}:eM).heap.objs.size=s.heap.objs.size+1 from rX ..];exact pw (pD (pD z))
theorem Jp : ∀{names:List (Str×Bz)} {acc:List (Str×cS)},(n,c)∈yW cells names acc->(n,c)∈acc\/((n,pU)∈names/\cells.lookup n=aI c)
 | [],acc,h=> .inl h
 | (m,k)::r,acc,h=>by
  unfold yW at h;rcases Jp h with g | ⟨h1,h2⟩
  ·clear h
   by_cases a:(k==pU)=cI
   ·rw[GY a]at g
    have z:k=pU:=by simpa using a
    subst z;cases e:cells.lookup m with
    | none=>rw[e]at g;exact .inl g
    | some B=>
     rw[e]at g;rcases pM.mp g with g | g
     ·cases g;exact .inr ⟨rh,e⟩
     ·exact .inl g
   ·rw[MQ a]at g;exact .inl g
  ·exact .inr ⟨pT _ h1,h2⟩
theorem yH : ∀{names:List (Str×Bz)} {acc:List (Str×cS)},((acc.lookup n).isSome=cI\/((n,pU)∈names/\(cells.lookup n).isSome=cI))->((yW cells names acc).lookup n).isSome=cI
 | [],acc,h=>by
  rcases h with h | ⟨h,_⟩
  ·exact h
  ·cases h
 | (m,k)::r,acc,h=>by
  unfold yW;apply yH;by_cases a:(k==pU)=cI
  ·rw[GY a]
   have B:k=pU:=by simpa using a
   subst B;cases e:cells.lookup m with
   | none=>
    rcases h with h | ⟨h1,h2⟩
    ·exact .inl h
    ·rcases pM.mp h1 with h1 | h1
     ·cases h1;rw[e]at h2;cases h2
     ·exact .inr ⟨h1,h2⟩
   | some I=>
    dsimp only;by_cases z:n=m
    ·subst z;left;simp
    ·rcases h with h | ⟨h1,h2⟩
     ·left;rw[rq];split<;>simp_all
     ·rcases pM.mp h1 with h1 | h1
      ·cases h1;exact absurd rfl z
      ·exact .inr ⟨h1,h2⟩
  ·rw[MQ a]
   rcases h with h | ⟨h1,h2⟩
   ·exact .inl h
   ·rcases pM.mp h1 with h1 | h1
    ·cases h1;exact absurd rfl a
    ·exact .inr ⟨h1,h2⟩
theorem qj : ∀{names:List (Str×Bz)} {k:Nat} {acc:List (Str×cS)},(n,c)∈rb k names acc->(n,c)∈acc\/(k<=c/\(n,td)∈names)
 | [],_,_,h=> .inl h
 | (m,kd)::r,k,acc,h=>by
  unfold rb at h;split at h
  ·rename_i a
   have z:kd=td:=by simpa using a
   subst z;rcases qj h with h | ⟨h1,h2⟩
   ·rcases pM.mp h with h | h
    ·cases h;exact .inr ⟨pN _,rh⟩
    ·exact .inl h
   ·exact .inr ⟨by omega,pT _ h2⟩
  ·rcases qj h with h | ⟨h1,h2⟩
   ·exact .inl h
   ·exact .inr ⟨h1,pT _ h2⟩
theorem qX : ∀{names:List (Str×Bz)} {k:Nat} {acc:List (Str×cS)},(∀p∈acc,∀q∈acc,p.2=q.2->p.1=q.1)->(∀p∈acc,p.2<k)->
 ∀p∈rb k names acc,∀q∈rb k names acc,p.2=q.2->p.1=q.1
 | [],_,_,h,_=>h
 | (m,kd)::r,k,acc,h,hl=>by
  unfold rb;split
  ·refine qX (λp z q hq e=>?_) (λp z=>?_)
   ·rcases pM.mp z with rfl | z<;>rcases pM.mp hq with rfl | hq
    ·rfl
    ·have B:k=q.2:=e
     exact absurd (B ▸ hl q hq)<|sO _
    ·have B:p.2=k:=e
     exact absurd (B ▸ hl p z)<|sO _
    ·exact h p z q hq e
   ·rcases pM.mp z with rfl | z
    ·exact uJ _
    ·exact sf<|hl p z
  ·exact qX h hl
theorem yP : ∀{names:List (Str×Bz)} {h:fy} {acc:List (Str×cS)} {n:Str} {c:cS},(n,c)∈rb h.objs.size names acc->(n,c)∈acc\/(BD h names).IsCell c bC
 | [],_,_,_,_,hm=> .inl hm
 | (m,kd)::r,h,acc,n,c,hm=>by
  unfold rb at hm;unfold BD;split at hm
  ·rename_i a
   rw[GY a];have e:h.objs.size+1=(h.push {cls:= .type "cell",data:= .cell bC}).objs.size:=(rX ..).symm;rw[e]at hm;rcases yP hm with hm | hm
   ·rcases pM.mp hm with hm | hm
    ·cases hm
     have z:(h.push {cls:= .type "cell",data:= .cell bC}).IsCell h.objs.size bC:=⟨{cls:= .type "cell",data:= .cell bC},pS _ rfl,rfl⟩;exact .inr (z.keeps λb o q=>ux _ _ b o q)
    ·exact .inl hm
   ·exact .inr hm
  ·rename_i a
   rw[MQ a];exact yP hm
theorem qO{H:Type}{l:List (Str×H)}(G:(l.map (·.1)).Nodup) : ∀{n:Str} {a:H},(n,a)∈l->l.lookup n=aI a:=by
 induction l with
 | nil=>intro n a h;cases h
 | cons p r z=>
  intro n a h;obtain⟨m,b⟩:=p;rw[rM,uP]at G;rw[rq];rcases pM.mp h with h | h
  ·cases h;simp
  ·have B:(n==m)=dV:=by
    have:n≠m:=λe=>G.1 (by rw[<- e];exact uZ.mpr ⟨(n,a),h,rfl⟩);simpa using this
   rw[B];exact z G.2 h
theorem xR(scope:hH)(env:i3)(x:Str):(ro scope env).names.lookup x =
 (scope.names.lookup x).map λk=>if (k==pU && env.scope.kind == .function && env.kindOf x==aI .cell)then td else k:=by
 unfold ro;dsimp only;generalize scope.names=l
 induction l with
 | nil=>rfl
 | cons p r z=>
  obtain⟨n,k⟩:=p;rw[rM];cases hx:x==n with
  | true=>
   have e:x=n:=by simpa using hx
   subst e;rw[rq,rq];dsimp only;by_cases a:(k==pU && env.scope.kind == .function && env.kindOf x==aI .cell)=cI
   ·rw[GY a,beq_self_eq_true];dsimp only[AM];rw[GY a]
   ·rw[MQ a,beq_self_eq_true];dsimp only[AM];rw[MQ a]
  | false=>
   have : ∀B,Dw x ((n,B)::(r.map λx=>match x with | (n,k)=>if (k==pU && env.scope.kind == .function && env.kindOf n==aI .cell)=cI then (n,td)else (n,k)))=Dw x (r.map λx=>match x with | (n,k)=>if (k==pU && env.scope.kind == .function && env.kindOf n==aI .cell)=cI then (n,td)else (n,k)):=λB=>by rw[rq,hx]
   rw[rq (k:=n),hx];dsimp only;split
   ·rw[this];exact z
   ·rw[this];exact z
noncomputable def jP(scope:hH)(env:i3)(L:cS):i3:=
 {scope:=ro scope env,locals:=L,globals:=env.globals,cells:=rb (L+1) scope.names<|yW env.cells scope.names [],qual:=env.qual,func:=bC,code:=env.code,frame:=env.frame,builtins:=env.builtins}
noncomputable def zM(X:Cx)(scope:hH)(z:List Str)(fp:List cS)(B:eM)(G:Hp):Cx:=
 {X with N:=z,hF:=B,BG:=G,env:=jP scope X.env<|B.heap.objs.size+1,outer:=X.stack,stack:=X.stack,ex:=fp,fn:=λx=>scope.names.lookup x==aI .cell,pn:=[],xe:=λ_ _=>False}
structure zi(X:Cx)(scope:hH)(fr:List (Str×Nat)):Prop where
 kind:scope.kind = .function
 nd:(scope.names.map (·.1)).Nodup
 free : ∀p∈scope.names,p.2=pU->X.env.kindOf p.1=aI .cell\/X.env.kindOf p.1=aI .free
 fr : ∀p∈fr,scope.names.lookup p.1=aI .free/\X.N[p.2]? = aI p.1
noncomputable def Q4(own:List Str)(fr:List (Str×Nat))(z:St):St:=own.map (λ_=>bC)++fr.map λp=>(z[p.2]?).join
abbrev yc:l3:={cls:= .type "list",data:= .seq #[]}
abbrev X6:l3:={cls:= .type "dict",data:= .dict #[]}
theorem Js{X:Cx}{H:GW}{L:St}{J:Hp}{G:eM}{scope:hH}{own:List Str}{fr:List (Str×Nat)}{fp:List cS}(I:Inv X H L J G)(ok:zi X scope fr)
 (P : ∀b∈fp,Zp X H J b) (as : ∀b∈fp,∃o,G.heap.get? b=aI o) :
 Inv (zM X scope (own++fr.map (·.1)) fp G J) [] (Q4 own fr L) (upd J G.heap.objs.size<|.lst []) {G with heap:=BD ((G.heap.push yc).push X6) scope.names}:=by
 have N:(G.heap.push yc).objs.size=G.heap.objs.size+1:=rX ..;have z2:((G.heap.push yc).push X6).objs.size=G.heap.objs.size+2:=by rw[rX,N]
 have U : ∀n c,(n,c)∈yW X.env.cells scope.names []->(n,pU)∈scope.names/\X.env.cells.lookup n=aI c:=λn c h=>(Jp h).resolve_left ⋯;have a7 : ∀n c,X.env.cells.lookup n=aI c->c<G.heap.objs.size:=λn c h=>by obtain⟨v,q⟩:=I.cell n c h;exact q.lt
 have Q : ∀p∈yW X.env.cells scope.names [],p.2<G.heap.objs.size+1+1:=λp O=>by exact sf<|sf<|a7 p.1 p.2 (U p.1 p.2 O).2
 have hC:(jP scope X.env<|G.heap.objs.size+1).cells=rb (G.heap.objs.size+2) scope.names (yW X.env.cells scope.names []):=rfl;have a : ∀x c,(jP scope X.env<|G.heap.objs.size+1).cells.lookup x=aI c->((x,pU)∈scope.names/\X.env.cells.lookup x=aI c)\/(G.heap.objs.size+2<=c/\(x,td)∈scope.names):=λx c h=>by
  rcases qj (mem_of_lookup h)with h | h
  ·exact .inl<|U x c h
  ·exact .inr h
 have A : ∀x,(x,pU)∈scope.names->∃c,X.env.cells.lookup x=aI c/\(jP scope X.env<|G.heap.objs.size+1).cells.lookup x=aI c:=λx j=>by
  obtain⟨c,f⟩:=I.ok.has x<|ok.free (x,.free) j rfl;have s:((yW X.env.cells scope.names []).lookup x).isSome=cI:=yH<|.inr ⟨j,by rw[f];rfl⟩;have g:=tv scope.names (G.heap.objs.size+2) (yW X.env.cells scope.names [])<|.inr s;obtain⟨K,C⟩:=rN.mp g;refine⟨c,f,?_⟩;rcases a x K C with⟨_,q⟩ | ⟨_,q⟩
  ·rw[f]at q;cases q;exact C
  ·exact absurd ((qO ok.nd q).symm.trans (qO ok.nd j)) ⋯
 have d : ∀b o,G.heap.get? b=aI o->(BD ((G.heap.push yc).push X6) scope.names).get? b=aI o:=λb o e=>
  ux _ _ b o (pA _<|pA _ e)
 have am : ∀b∈fp,b<G.heap.objs.size:=λb B=>by obtain⟨o,e⟩:=as b B;exact pE e
 have fresh:J G.heap.objs.size=bC:=I.gv.fresh<|pN _;have E : ∀c,G.heap.objs.size<c->(upd J G.heap.objs.size<|.lst []) c=bC:=λc f=>by rw[zo (uh f)];exact I.gv.fresh<|Bh f
 obtain⟨m0,S⟩ : ∃m,(BD ((G.heap.push yc).push X6) scope.names).Ns (G.heap.objs.size+1) m:=by have q:=(Heap.Ns.new (G.heap.push yc) (.type "dict")).keeps (λb o e=>ux scope.names _ b o e);rw[N]at q;exact⟨_,q⟩
 refine⟨⟨I.ok.mod,ok.kind,I.ok.glob,I.ok.blt,Nat.le_succ _,λx y c s g=>?_,λx j=>?_,λx c hf h=>?_,I.ok.hd,I.ok.frames,.inl rfl,λb B=>⟨?_,λx c h z=>?_⟩,λb o e=>I.bs b o e,?_,λb o e B=>?_,λb B hs=>?_,I.stack,I.B5⟩,
  rfl,I.bare,Un.laid d (pN _) fresh,⟨m0,S,λi x v M R e3=>?_⟩,λx c h=>?_,?_,λx c h=>?_,λp O=>?_,?_,?_⟩
 ·have q:=qX (names:=scope.names) (k:=G.heap.objs.size+2) (acc:=yW X.env.cells scope.names []) (λp O q hq e=>I.ok.inj p.1 q.1 p.2 (U _ _ O).2 (by rw[e];exact(U _ _ hq).2)) Q
  exact q (x,c) (mem_of_lookup s) (y,c) (mem_of_lookup g) rfl
 ·have W:(ro scope X.env).names.lookup x=aI .cell\/(ro scope X.env).names.lookup x=aI .free:=j
  have:scope.names.lookup x=aI .cell\/scope.names.lookup x=aI .free:=by
   rw[xR]at W;cases e:scope.names.lookup x with
   | none=>rw[e]at W;simp at W
   | some k=>
    rw[e]at W;cases k<;>simp at W ⊢
  rcases this with h | h
  ·exact rN.mp<|tv scope.names _ _<|.inl h
  ·obtain⟨c,_,g⟩:=A x<|mem_of_lookup h;exact⟨c,g⟩
 ·have T:(scope.names.lookup x==aI .cell)=cI:=hf
  have Z:scope.names.lookup x=aI .cell:=by simpa using T
  rcases a x c h with⟨q,_⟩ | ⟨q,_⟩
  ·exact absurd ((qO ok.nd q).symm.trans Z) ⋯
  ·exact rV (sI _ 2) q
 ·exact pP<|sf<|am b B
 ·rcases a x c h with⟨_,q⟩ | ⟨q,_⟩
  ·exact(P b B).2.2.2.2.1 x c q z
  ·exact absurd (pH (am b B)<|rV (sI _ 2)<|z ▸ q)<|sO _
 ·exact rV I.ok.Bq I.sz
 ·rcases (P b B).2.2.2.1 with q | q
  ·exact I.ok.Cw b o e q
  ·exact absurd (pH (pE e)<|rV I.ok.Bq q)<|sO _
 ·rcases pM.mp (I.Cg b hs)with q | q
  ·exact(P b B).2.1 q
  ·exact(P b B).2.2.1 q
 ·have hi:i<(own++fr.map (·.1)).length:=(pW.mp M).1
  by_cases r:i<own.length
  ·unfold Q4 at R
   rw[sD (by simpa using r)]at R;simp[rm,r]at R
  ·have hj : ∃p,fr[i - own.length]? = aI p/\p.1=x/\(L[p.2]?).join=aI v:=by
    unfold Q4 at R;have Y:(own++fr.map (·.1))[i]? = aI x:=M;rw[rS ⋯,rm]at Y;rw[rS (by simpa using r),rm,pR]at R;cases q:fr[i - own.length]? with
    | none=>rw[q]at Y;cases Y
    | some p=>
     rw[q]at Y R;exact⟨p,rfl,by simpa using Y,by simpa using R⟩
   obtain⟨p,O,bl,l⟩:=hj;obtain⟨g1,g2⟩:=ok.fr p<|sL O;rw[bl]at g1 g2;have t:L[p.2]? = aI (aI v):=by
    cases q:L[p.2]? with
    | none=>rw[q]at l;cases l
    | some o=>rw[q]at l;simpa using l
   have F:=ok.free (x,.free) (mem_of_lookup g1) rfl;obtain⟨m,hn,hl⟩:=I.loc;obtain⟨u,ru,lk⟩:=hl p.2 x v g2 t (by rcases F with k | k;exact .inr<|.inl k;exact .inr<|.inr k);refine⟨u,ru,.inr ?_⟩;obtain⟨c,c1,c2⟩:=A x<|mem_of_lookup g1;have c3:G.heap.IsCell c (aI u):=by
    rcases lk with⟨k,_⟩ | ⟨_,K,e,z⟩
    ·rcases F with k' | k'<;>rw[k]at k'<;>cases k'
    ·rw[c1]at e;cases e;exact z
   refine⟨?_,c,c2,c3.keeps d⟩;show(ro scope X.env).names.lookup x=aI .cell\/(ro scope X.env).names.lookup x=aI .free;rw[xR,g1];dsimp only[AM];split
   ·exact .inl rfl
   ·exact .inr rfl
 ·rcases qj (mem_of_lookup h)with q | q
  ·obtain⟨v,w⟩:=I.cell x c (U x c q).2
   exact⟨v,w.keeps d⟩
  ·have q2:=mem_of_lookup h
   have q3:(x,c)∈rb ((G.heap.push yc).push X6).objs.size scope.names (yW X.env.cells scope.names []):=by rw[z2];exact q2
   rcases yP q3 with q4 | q4
   ·obtain⟨v,w⟩:=I.cell x c (U x c q4).2
    exact⟨v,w.keeps d⟩
   ·exact⟨bC,q4⟩
 ·exact E _<|uJ _
 ·rcases a x c h with⟨_,q⟩ | ⟨q,_⟩
  ·rw[zo (pP<|a7 x c q)];exact I.zv x c q
  ·exact E c<|pH (sf<|uJ _) q
 ·exact absurd (show p∈([]:GW)from O) ⋯
 ·refine I.gv.laid d (pN _) ⟨uU _,[],0,.nil,?_⟩
  exact ux _ _ _ _<|pA _<|pS _ rfl
 ·show(Q4 own fr L).length=(own++fr.map (·.1)).length
  simp[Q4]
theorem xP(I:Nat->eM->Prop)
 (G : ∀n s,I n s->wpAny (fh prog w) A (Dk it) (λr z=>match r with
   | none=>R (.ok .next) z
   | some v=>wpAny (fh prog w) A (Df target it v) (λ_ z=>wpAny (fh prog w) A (Bp target env v) (λ_ O=>
    wpAny (fh prog w) A (forIn ifs cI λc r=>if r=cI then do let ok <- De c env (fk c env);pure (Aj ok)else pure (Aj r)) (λok B=>
     if ok=cI then wpAny (fh prog w) A (fk elt env) (λx U=>
      wpAny (fh prog w) A (call (.builtin "list.append") [acc,x]) (λ_ W=>∃m,m<n/\I m W) (λ_ _=>False) U) (λ_ _=>False) B
     else ∃m,m<n/\I m B) (λ_ _=>False) O) (λ_ _=>False) z) (λ_ _=>False) z) (λ_ _=>False) s)
 (n:Nat) (h:I n s) :
 codeAny (fh prog w) A (.compLoop (.ListComp elt [⟨target,iter,ifs,0⟩] scope pos) 0 it acc env) R s:=by
 refine codeAny_loop rfl I (λn s i=>?_) n h;show wpAny _ A ((compTurn (.ListComp elt [⟨target,iter,ifs,0⟩] scope pos) 0 it acc env).onRaise (λx=>do noteFrame x env;theTreesLotGoes x)) _ _ s;refine wpAny_noted ?_;rw[compTurn_list];refine pw<|sk<|pw<|pJ (G n s i) (λr z Y=>?_) λ_ _ a=>a.elim;cases r with
 | none=>exact pD Y
 | some v=>
  refine pw<|pJ Y (λ_ j g=>?_) λ_ _ a=>a.elim;refine pw<|pJ g (λ_ O d=>pw<|pJ d (λok B b=>?_) λ_ _ a=>a.elim) λ_ _ a=>a.elim;cases ok with
  | false=>exact pD ⟨rfl,b⟩
  | true=>
   exact pw<|pw<|pJ b (λx U e=>pw<|pJ e (λ_ W f=>pD<|pD ⟨rfl,f⟩) λ_ _ a=>a.elim) λ_ _ a=>a.elim
noncomputable def az(X:Cx)(z:List f6)(t:TT):Prop:=
 ∀(a:GW) (s:eM) (b:St) (H:Hp) (Q:Bool->Hp->Prop),Inv X a b H s->t b H Q->
  wpAny (fh X.prog X.w) X.A (forIn z cI λc r=>if r=cI then do let ok <- De c X.env (fk c X.env);pure (Aj ok)else pure (Aj r)) (TP X a b Q) X.xe s
def gy:TT:=λ_ H Q=>Q cI H
theorem Jk:az X [] gy:=λ_ _ _ H _ I h=>wpAny_tests_nil ⟨H,I,h⟩
theorem Yv(h:PT X c t):az X [c] t:=λa s d H Q I b=>wpAny_tests_one<|h a s d H Q I b
noncomputable def CW(J:It)(g:TG)(L:TT)(G:TE)(D:cS)(Q:VK)(W:Nat->Nat->List V->St->Hp->Prop):Prop:=
 ∀i m a f H,W i m a f H->H D=aI (.lst a)/\((J.stop i H/\Q (.ref D) H)\/(J.go i H/\a.length<i6/\∀x e,J.BL i H x e->g x f e λz h=>L z h λb B=>
  if b=cI then G z B λv I=>I D=aI (.lst a)/\∃d,d<m/\W (i+1) d (a++[v]) z (upd I D<|.lst<|a++[v])else ∃d,d<m/\W (i+1) d a z B))
noncomputable def Vd(X:Cx)(z:GW)(H:Hp)(L:cS):Prop:=
 H L=bC/\L≠X.env.locals/\X.hF.heap.objs.size<=L/\(∀x c,X.env.cells.lookup x=aI c->c≠L)/\∀p∈X.pn++z,p.1≠L
theorem Y3
 (hc:X.calm=cI) (I:Inv X pins σ H2 s2) (ok:zi X scope fr) (T:Turn X.prog X.w X.K tg J fp it tn) (st:tn 0 s2.heap) (R : ∀b∈fp,Zp X pins H2 b)
 (hg:PG (zM X scope (own++fr.map (·.1)) fp s2 H2) tg g) (ht:az (zM X scope (own++fr.map (·.1)) fp s2 H2) ifs tt) (he:PE (zM X scope (own++fr.map (·.1)) fp s2 H2) elt te)
 (hW : ∀D,H2 D=bC->∃W:Nat->Nat->List V->St->Hp->Prop,(∃m,W 0 m [] (Q4 own fr σ) (upd H2 D<|.lst []))/\CW J g tt te D Q W) :
 wpAny (fh X.prog X.w) X.A (Dg []) (λacc H=>wpAny (fh X.prog X.w) X.A (DK scope X.env.globals (yW X.env.cells scope.names []) [] X.env.qual bC .none (aI X.env)) (λcenv L=>
  codeAny (fh X.prog X.w) X.A (.compStart (.ListComp elt [⟨tg,iter,ifs,0⟩] scope pos) 0 (.ref it) acc {cenv with scope:=ro scope X.env})
   (λr s'=>(∃f,r = .ok f)/\∃D G,acc = .ref D/\Inv X pins σ G s'/\Q (.ref D) G/\(∃m,s'.heap.Ns cenv.locals m)/\Vd X pins G cenv.locals) L) E H) E s2:=by
 have b0 : ∀b∈fp,∃o,s2.heap.get? b=aI o:=λb B=>by obtain⟨o,e,_⟩:=T.obj 0 _ st b B;exact⟨o,e⟩
 have M:=Js (own:=own) I ok R b0;obtain⟨W,⟨m0,w0⟩,cw⟩:=hW _ I.fresh;refine sg<|jI ?_;have z1:(s2.heap.push yc).objs.size=s2.heap.objs.size+1:=rX ..;show codeAny _ _ (.compStart _ 0 (.ref it) (.ref s2.heap.objs.size) {scope:=ro scope X.env,locals:=(s2.heap.push yc).objs.size,globals:=X.env.globals,cells:=rb ((s2.heap.push yc).objs.size+1) scope.names<|yW X.env.cells scope.names [],qual:=X.env.qual,func:=bC,code:=X.env.code,frame:=X.env.frame,builtins:=X.env.builtins})
  (λr s'=>(∃f,r = .ok f)/\∃D G,pO s2.heap.objs.size = .ref D/\Inv X pins σ G s'/\Q (.ref D) G/\(∃m,s'.heap.Ns (s2.heap.push yc).objs.size m)/\Vd X pins G (s2.heap.push yc).objs.size) {s2 with heap:=BD ((s2.heap.push yc).push X6) scope.names}
 rw[z1];have bb:tn 0 (BD ((s2.heap.push yc).push X6) scope.names):=T.keep 0 _ _ st λb _ o e=>ux _ _ b o<|pA _<|pA _ e;have ce : ∀b∈fp,b<s2.heap.objs.size:=λb B=>by obtain⟨o,e⟩:=b0 b B;exact pE e
 have Z : ∀{G:Hp},(∀b∈fp,G b=bC)->∀b∈fp,Zp (zM X scope (own++fr.map (·.1)) fp s2 H2) [] G b:=λhn b B=>
  ⟨hn b B,(M.ok.Cd b B).1,M.ok.Ce b B,.inl B,(M.ok.Cd b B).2,λp hp=>absurd (show p∈([]:GW)from hp) ⋯⟩
 have bd:codeAny (fh X.prog X.w) X.A (.compLoop (.ListComp elt [⟨tg,iter,ifs,0⟩] scope pos) 0 (.ref it) (.ref s2.heap.objs.size)<|jP scope X.env<|s2.heap.objs.size+1)
  (λr s'=>(∃f,r = .ok f)/\∃D G,pO s2.heap.objs.size = .ref D/\Inv X pins σ G s'/\Q (.ref D) G/\(∃m,s'.heap.Ns (s2.heap.objs.size+1) m)/\Vd X pins G (s2.heap.objs.size+1)) {s2 with heap:=BD ((s2.heap.push yc).push X6) scope.names}:=by
  refine xP (λn s'=>∃i s t G,Inv (zM X scope (own++fr.map (·.1)) fp s2 H2) [] t G s'/\tn i s'.heap/\(∀b∈fp,G b=bC)/\W i n s t G) ?_ m0
   ⟨0,[],_,_,M,bb,λb B=>by rw[zo (pP<|ce b B)];exact(R b B).1,w0⟩
  rintro n s3 ⟨i,s,a,C,I3,k,bi,w3⟩;obtain⟨hD,ci⟩:=cw i n s a C w3;rcases ci with⟨l,qn⟩ | ⟨go,hz,step⟩
  ·refine gE (T.done (zM X scope (own++fr.map (·.1)) fp s2 H2) rfl rfl rfl hc i [] s3 a C _ I3 (Z bi) k l) λr s4 O=>?_
   obtain⟨hr,U⟩:=O;subst hr;refine⟨⟨_,rfl⟩,_,C,rfl,I.DE (ch:=fp) U.os U.base U.gv U.bare<|λb B=>⟨(R b B).2.2.2.1,(R b B).2.1,(R b B).2.2.2.2.1,(R b B).2.2.2.2.2⟩,qn,?_,U.free,?_,?_,?_,?_⟩
   ·obtain⟨m,hn,_⟩:=U.loc
    exact⟨m,hn⟩
   ·exact uh<|sf I.lt
   ·exact Nat.le_succ_of_le I.sz
   ·intro x c e z
    obtain⟨v,q⟩:=I.cell x c e;exact absurd (sf q.lt) (by rw[z];exact sO _)
   ·intro p hp z
    exact absurd (sf<|pE (I.pin p hp).1) (by rw[z];exact sO _)
  ·refine gE (T.item (zM X scope (own++fr.map (·.1)) fp s2 H2) rfl rfl rfl hc i [] s3 a C _ I3 (Z bi) k go) λr s4 O=>?_
   obtain⟨u,hr,h4⟩:=O;subst hr;refine gE h4 λ_ s5 O=>?_;obtain⟨x,H5,I5,r5,y5,an,ct⟩:=O;have cv:=I5.pinned (Z ct)<|T.obj _ _ an;refine gE (hg _ s5 a H5 x u _ cv r5<|step x H5 y5) λ_ s6 O=>?_;obtain⟨h,H6,I6,q6⟩:=O;refine gE (ht _ s6 h H6 _ I6 q6) λb s7 O=>?_;obtain⟨H7,N,P⟩:=O;have after : ∀{y:St} {F:Hp} {Y:eM},Inv (zM X scope (own++fr.map (·.1)) fp s2 H2) ([]++vv fp s5.heap) y F Y->tn (i+1) Y.heap/\∀b∈fp,F b=bC:=λ{y F Y} j=>by refine⟨T.keep _ _ _ an λb B o e=>(j.pin (b,o)<|pY _<|pY _<|qp B e).1,λb B=>?_⟩;obtain⟨o,e,d⟩:=T.obj _ _ an b B;exact(j.pin (b,o)<|pY _<|pY _<|qp B e).2.1
   cases b with
   | false=>
    rw[MQ pQ]at P ⊢;obtain⟨m',hm,w7⟩:=P;exact⟨m',hm,i+1,s,h,H7,N.CV,(after N).1,(after N).2,w7⟩
   | true=>
    rw[GY rfl]at P ⊢;refine gE (he _ s7 h H7 _ N P) λv8 Y O=>?_;obtain⟨x8,F,j,r8,c1,m',hm,w8⟩:=O;obtain⟨z8,c2,n8,rv,db,e8⟩:=j.Ei c1;refine Ar Bf ⟨_,e8,rfl⟩ AX (AJ _ _) (AR _ c2.toArray n8 v8<|by rw[pL];omega) ⟨e8,?_⟩;have S:=j.Eh (its':=c2++[v8]) (f:=(·.push v8)) (t':=Y.toks) c1 e8 ⋯ (rv.append<|.cons r8 .nil) (by rw[rE,sF];omega);exact⟨m',hm,i+1,s++[x8],h,_,S.CV,(after S).1,(after S).2,w8⟩
 exact codeAny_compStart_list bd<|T.self _ 0 _ _ _ bb bd
noncomputable def KQ(G:TI)(own:List Str)(fr:List (Str×Nat))(g:TG)(B:TT)(z:TE):TE:=λb H Q=>G b H λJ a=>∀D,a D=bC->
 ∃W:Nat->Nat->List V->St->Hp->Prop,(∃m,W 0 m [] (Q4 own fr b) (upd a D<|.lst []))/\CW J g B z D Q W
section
variable{X:Cx}{scope:hH}{own:List Str}{fr:List (Str×Nat)}{elt tg iter:f6}{ifs:List f6}{pos:g9}{wi:TI}{g:TG}{tt:TT}{te:TE}
theorem Jz
 (hc:X.calm=cI) (ok:zi X scope fr) (hi:PI X tg iter wi) (z : ∀fp P G,PG (zM X scope (own++fr.map (·.1)) fp P G) tg g)
 (B : ∀fp P G,az (zM X scope (own++fr.map (·.1)) fp P G) ifs tt) (O : ∀fp P G,PE (zM X scope (own++fr.map (·.1)) fp P G) elt te)
 (I:Inv X pins σ H s) (h:KQ wi own fr g tt te σ H Q)
 (hR : ∀D Z s' L,Inv X pins σ Z s'->Q (.ref D) Z->(∃m,s'.heap.Ns L m)->Vd X pins Z L->
   compPost (fh X.prog X.w) X.A X.xe use R (.ref D) L (.ok .next) s')
 (hs : ∀x,xA iter X.env x=pure x:=by intro _;rfl) :
 wpAny (fh X.prog X.w) X.A (comprehension (.ListComp elt [⟨tg,iter,ifs,0⟩] scope pos) scope X.env (firstIterPos [⟨tg,iter,ifs,0⟩] pos) (Dg []) dV (fk iter X.env) use) R X.xe s:=by
 refine wpAny_comprehension_free rfl hs (kz λn b=>I.ok.has n<|ok.free (n,.free) b rfl) ok.kind (λx C e=>by rw[<- e];exact qO ok.nd<|show(x.1,x.2)∈scope.names from C) ?_;refine gE (hi pins s σ H _ I h) λv N j=>gE j λK P k=>?_;obtain⟨M,fp,tn,J,G,e,U,T,W,Y,t⟩:=k;subst e;refine gE (Y3 (own:=own) (Q:=Q) (E:=X.xe) hc U ok T W Y (z fp P G) (B fp P G) (O fp P G) t) λacc S l=>gE l λa s4 o=>uq o λr s' p=>?_;obtain⟨⟨f,u⟩,D,Z,i,d,q,b,y⟩:=p;subst u;subst i;have F:=hR D Z s' a.locals d q b y;cases use<;>exact F
theorem ZI(P:X.calm=cI)(ok:zi X scope fr)(Z:PI X tg iter wi)(z : ∀fp J G,PG (zM X scope (own++fr.map (·.1)) fp J G) tg g)
 (B : ∀fp J G,az (zM X scope (own++fr.map (·.1)) fp J G) ifs tt) (O : ∀fp J G,PE (zM X scope (own++fr.map (·.1)) fp J G) elt te)
 (hs : ∀x,xA iter X.env x=pure x:=by intro _;rfl) :
 PE X (.ListComp elt [⟨tg,iter,ifs,0⟩] scope pos) (KQ wi own fr g tt te):=by
 intro a s t H Q I h;rw[eval_ListComp];refine Jz (use:=bC) P ok Z z B O I h (λD d k L R q j y=>?_) hs;obtain⟨m,i⟩:=j;obtain⟨U,W,Y,n,p⟩:=y;refine⟨m,i,λr l=>⟨.ref D,d,R.turned (t':=k.toks) (it:=L) (λb o f e=>l.extBut b o f e) U W (.inr Y) n p,rfl,q⟩⟩
theorem J2(B:X.N.Nodup)(O:X.N[i]? = aI y)(U:Loc X.env.scope y)(hf:X.fn y=cI\/X.env.scope.names.lookup y=aI .local)
 (P:X.calm=cI) (ok:zi X scope fr) (hi:PI X tg iter wi) (W : ∀fp J G,PG (zM X scope (own++fr.map (·.1)) fp J G) tg g)
 (Y : ∀fp J G,az (zM X scope (own++fr.map (·.1)) fp J G) ifs tt) (Z : ∀fp J G,PE (zM X scope (own++fr.map (·.1)) fp J G) elt te)
 (hs : ∀x,xA iter X.env x=pure x:=by intro _;rfl) :
 PS X (.Assign [.Name y py] (.ListComp elt [⟨tg,iter,ifs,0⟩] scope pos) spos) (Qw (KQ wi own fr g tt te)<|ku i):=by
 have z : ∃b:Bool,t6 (.ListComp elt [⟨tg,iter,ifs,0⟩] scope pos) (aI (.Name y py)) spos.line X.env=pure b:=⟨_,rfl⟩;obtain⟨b,z⟩:=z;cases b with
 | false=>
  have u:En [.Name y py] (.ListComp elt [⟨tg,iter,ifs,0⟩] scope pos) spos.line X.env=t6 (.ListComp elt [⟨tg,iter,ifs,0⟩] scope pos) (aI (.Name y py)) spos.line X.env:=rfl;exact Q8 (ZI P ok hi W Y Z hs) (Xe B O U hf) (by rw[u];exact z)
 | true=>
  intro d s σ H D I h;rw[exec_Assign_Name_used _ _ _ _ z];refine pw<|sk<|pw ?_;show wpAny _ X.A (do let _ <- comprehension (.ListComp elt [⟨tg,iter,ifs,0⟩] scope pos) scope X.env _ (Dg []) dV (fk iter X.env) (aI (Bp (.Name y py) X.env))) _ _ s;refine pw<|gE (Jz (R:=λ_ f=>SP X d D .next f) (use:=aI (Bp (.Name y py) X.env)) P ok hi W Y Z I h (λj T f L l q E S=>?_) hs) λ_ f q=>pD<|pD q;obtain⟨K,k,M,y4,Q⟩:=S;obtain⟨m,C⟩:=E;show wpAny _ _ (Bp (.Name y py) X.env<|.ref j) _ _ _;refine Ga<|wB l B O U (v:= .ref j) rfl (λn p r=>?_) hf;obtain⟨a,F,w⟩:=r;have as:L≠a:=by
   rcases w with e | e
   ·rw[e];exact k
   ·exact rH<|y4 _ _ e
  refine⟨m,C.sameBut F as,λh' t=>⟨_,_,p.turned (t':=n.toks) (it:=L) (λb o z e=>t.extBut b o z e) K k (.inr M) y4 Q,q⟩⟩
end
inductive Sk where
 | L | T
 deriving DecidableEq
end L2
namespace DL
open PySem L2
inductive D where
 | g8 | bl (b:Bool) | int (i:Int) | str (x:Str) | tup (xs:List D) | lst (xs:List D)
 | exc (c:Str) (n:Option Int)
 | n4 (ks vs:List D)
 | l6 (ks:List (List Int)) (vs:List D)
 | ins (c:Str) (p t:D)
inductive Cell where
 | no | val (d:D) | own (ds:List D) | nest (rows:List (List D))
abbrev Ctx:=List Cell
abbrev CO (a : Type) := Ctx -> Option a
def lim:Nat:=2500
noncomputable def qg:D->Option (Sk×List D)
 | .tup a=>aI (.T,a)
 | .lst a=>aI (.L,a)
 | _=>bC
def jk(f:CO D)(γ:Ctx):Option (Sk×List D):=(f γ).bind qg
def qI(f:CO (List D))(γ:Ctx):Option D:=(f γ).map D.lst
noncomputable def zU(f:CO (List D))(γ:Ctx):Option (Sk×List D):=(f γ).map λa=>(Sk.L,a)
def Kc:Option Cell->Option D
 | some (.val d)=>aI d
 | _=>bC
noncomputable def kO:Option Cell->Option (Sk×List D)
 | some (.val d)=>qg d
 | some (.own ds)=>aI (.L,ds)
 | _=>bC
def zl(i:Nat)(γ:Ctx):Option D:=Kc γ[i]?
def ze(i:Nat)(γ:Ctx):Option (Sk×List D):=kO γ[i]?
noncomputable def zh(d:D):CO D:=λ_=>aI d
noncomputable def zt(F:D->D->Option D)(z B:CO D)(γ:Ctx):Option D:=(z γ).bind λx=>(B γ).bind λy=>F x y
def BP:D->Option Bool
 | .bl b=>aI b
 | _=>bC
def m9:D->Option Int
 | .int i=>aI i
 | _=>bC
def sB(f:CO D)(γ:Ctx):Option Bool:=(f γ).bind BP
noncomputable def Wg(f g:CO Bool)(γ:Ctx):Option Bool:=(f γ).bind λb=>if b=cI then g γ else aI dV
noncomputable def qo(f g:CO Bool)(γ:Ctx):Option Bool:=(f γ).bind λb=>if b=cI then aI cI else g γ
def zN(f:CO Bool)(γ:Ctx):Option Bool:=(f γ).map λb=> !b
noncomputable def Zm(f g:CO D)(γ:Ctx):Option D:=((f γ).bind BP).bind λb=>if b=cI then g γ else aI (.bl dV)
noncomputable def Em(f g:CO D)(γ:Ctx):Option D:=((f γ).bind BP).bind λb=>if b=cI then aI (.bl cI)else g γ
noncomputable def eD(f:CO D)(γ:Ctx):Option D:=((f γ).bind BP).map λb=> .bl (!b)
noncomputable def eK(c:CO Bool)(f g:CO D)(γ:Ctx):Option D:=(c γ).bind λb=>if b=cI then f γ else g γ
def zB:CO (List D):=λ_=>aI []
noncomputable def zb(f:CO D)(g:CO (List D))(γ:Ctx):Option (List D):=(f γ).bind λx=>(g γ).map λr=>x::r
noncomputable def xQ(f:CO (List D))(γ:Ctx):Option D:=(f γ).bind λa=>if a.length<=lim then aI (.tup a)else bC
noncomputable def jF(f:CO (List D))(γ:Ctx):Option (List D):=(f γ).bind λa=>if a.length<=lim then aI a else bC
inductive Res where
 | val (d:D) | own (ds:List D)
inductive Fl where
 | next (γ:Ctx) | brk (γ:Ctx) | cont (γ:Ctx) | ret (r:Res)
def zL(γ:Ctx):Option Fl:=aI (.next γ)
noncomputable def zI(F G:CO Fl):CO Fl:=λb=>(F b).bind λz=>match z with
 | .next a=>G a
 | f=>aI f
noncomputable def j8(f:CO D)(γ:Ctx):Option Fl:=(f γ).map λd=> .ret (.val d)
noncomputable def ke(f:CO (List D))(γ:Ctx):Option Fl:=(f γ).map λd=> .ret (.own d)
noncomputable def ZV:Option Cell->Option Fl
 | some (.val d)=>aI (.ret<|.val d)
 | some (.own ds)=>aI (.ret<|.own ds)
 | _=>bC
def QJ(i:Nat)(γ:Ctx):Option Fl:=ZV γ[i]?
def oZ(γ:Ctx):Option Fl:=aI (.brk γ)
def oq(γ:Ctx):Option Fl:=aI (.cont γ)
def qh:CO Fl:=λ_=>bC
noncomputable def hI(k:CO Bool)(F G:CO Fl)(γ:Ctx):Option Fl:=(k γ).bind λb=>if b=cI then F γ else G γ
noncomputable def jR(i:Nat)(f:CO D)(γ:Ctx):Option Fl:=(f γ).map λd=> .next (γ.set i<|.val d)
noncomputable def vR(i:Nat)(f:CO (List D))(γ:Ctx):Option Fl:=(f γ).map λa=> .next (γ.set i<|.own a)
def oj(f:CO D)(γ:Ctx):Option Fl:=(f γ).map λ_=> .next γ
noncomputable def qw:Option Cell->Option (List D)
 | some (.own ds)=>aI ds
 | _=>bC
noncomputable def xi(i:Nat)(f:CO D)(γ:Ctx):Option Fl:=(qw γ[i]?).bind λa=>(f γ).bind λd=>if a.length<lim then aI (.next<|γ.set i<|.own<|a++[d])else bC
noncomputable def jB(n:Nat)(z:List D):Ctx:=z.map Cell.val++pF (n - z.length) Cell.no
noncomputable def jO(n:Nat)(F:CO Fl)(ds:List D):Option Res:=(F<|jB n ds).bind λz=>match z with
 | .ret r=>aI r
 | .next _=>aI (.val .g8)
 | _=>bC
def Vj:Res->D
 | .val d=>d
 | .own a=> .lst a
noncomputable def zu(F:List D->Option Res)(g:CO (List D))(γ:Ctx):Option D:=(g γ).bind λa=>(F a).map Vj
def gW:Res->Option (List D)
 | .own a=>aI a
 | _=>bC
noncomputable def kS(F:List D->Option Res)(g:CO (List D))(γ:Ctx):Option (List D):=(g γ).bind λa=>(F a).bind gW
noncomputable def qY(lo:Int)(n:Nat):List D:=(pK n).map λ(i:Nat)=>D.int<|lo+(i:Int)
noncomputable def Ve(z B:List D):List D:=(z.zip B).map λp=>D.tup [p.1,p.2]
noncomputable def z9(f:CO (Sk×List D))(γ:Ctx):Option (List D):=(f γ).map (·.2)
def inR(i:Int):Bool:=decide<|i.natAbs<2 ^ 62
noncomputable def zX(f:CO D)(γ:Ctx):Option (List D):=((f γ).bind m9).bind λn=>if inR n=cI then aI (qY 0 n.toNat)else bC
noncomputable def gN(f g:CO D)(γ:Ctx):Option (List D):=((f γ).bind m9).bind λm=>((g γ).bind m9).bind λn=>if inR m=cI/\inR n=cI then aI (qY m (n - m).toNat)else bC
noncomputable def aZ(f g:CO D)(γ:Ctx):Option (List D):=((f γ).bind qg).bind λm=>((g γ).bind qg).map λn=>Ve m.2 n.2
inductive Tg where
 | nm (i:Nat) | tp (is:List Nat)
noncomputable def jW:List Nat->List D->Ctx->Ctx
 | i::is,d::ds,γ=>jW is ds<|γ.set i<|.val d
 | _,_,γ=>γ
noncomputable def qR:Tg->D->CO Ctx
 | .nm i,d,γ=>aI (γ.set i<|.val d)
 | .tp is,.tup ds,γ=>if ds.length=is.length then aI (jW is ds γ)else bC
 | _,_,_=>bC
noncomputable def kv(T:Tg)(F:CO Fl):List D->CO Fl
 | [],a=>aI (.next a)
 | d::b,a=>(qR T d a).bind λB=>(F B).bind λI=>match I with
  | .next z=>kv T F b z
  | .cont z=>kv T F b z
  | .brk z=>aI (.next z)
  | .ret r=>aI (.ret r)
noncomputable def Qh(z:CO (List D))(T:Tg)(F:CO Fl)(γ:Ctx):Option Fl:=(z γ).bind λa=>kv T F a γ
def vd:Cell->Cell
 | .own _=> .no
 | .nest _=> .no
 | c=>c
noncomputable def qu(n:Nat)(fr:List Nat)(γ:Ctx):Ctx:=pF n Cell.no++fr.map λj=>vd<|γ[j]?.getD .no
noncomputable def jf(T:Tg)(k:CO Bool)(f:CO D)(γ:Ctx):List D->Option (List D)
 | []=>aI []
 | d::ds=>(qR T d γ).bind λz=>(k z).bind λb=>if b=cI then (f z).bind λe=>(jf T k f γ ds).map λr=>e::r else jf T k f γ ds
noncomputable def zT(z:CO (List D))(T:Tg)(n:Nat)(fr:List Nat)(k:CO Bool)(f:CO D)(γ:Ctx):Option (List D):=(z γ).bind λa=>if a.length<=lim then jf T k f (qu n fr γ) a else bC
def jE:CO Bool:=λ_=>aI cI
def Tg.idx:Tg->List Nat
 | .nm i=>[i]
 | .tp is=>is
noncomputable def dI(g:Int->Int->D):D->D->Option D
 | .int i,.int j=>aI (g i j)
 | _,_=>bC
noncomputable def C9(c:Int->Int->Bool)(g:Int->Int->D):D->D->Option D
 | .int i,.int j=>if c i j=cI then aI (g i j)else bC
 | _,_=>bC
def Zc:D->D->Option D:=dI λi j=> .int (i - j)
noncomputable def Qk(i j:Int):Bool:=decide (i.natAbs<2 ^ 64) || decide (j.natAbs<2 ^ 64)
noncomputable def dO(_ j:Int):Bool:=decide (0<j) && decide (j.natAbs<1073741824)
def Qj:D->D->Option D:=C9 dO λi j=> .int (i/j)
def fJ(_ j:Int):Bool:=decide<|0<j
def qd:D->D->Option D:=C9 fJ λi j=> .int (i%j)
noncomputable def dM(i j:Int):Bool:=decide (0<=j) && decide (j.natAbs<=1000000) && decide (i.natAbs<2 ^ 64)
def KB:D->D->Option D:=C9 dM λi j=> .int (i ^ j.toNat)
def BS:D->D->Option D:=dI λi j=> .bl (decide<|i<j)
def zp:D->D->Option D:=dI λi j=> .bl (decide<|i<=j)
def vr:D->D->Option D:=dI λi j=> .bl (decide<|j<i)
def Cc:D->D->Option D:=dI λi j=> .bl (decide<|j<=i)
noncomputable def qE:D->D->Option D
 | .int i,.int j=>aI (.int<|i+j)
 | .tup xs,.tup ys=>if xs.length+ys.length<=lim then aI (.tup<|xs++ys)else bC
 | _,_=>bC
noncomputable def wt:D->D->Option D
 | .int i,.int j=>if Qk i j=cI then aI (.int<|i*j)else bC
 | .tup xs,.int j=>if xs.length*j.toNat<=lim/\inR j=cI then aI (.tup (pF j.toNat xs).flatten)else bC
 | _,_=>bC
noncomputable def xW(f g:CO (Sk×List D))(γ:Ctx):Option (List D):=(f γ).bind λa=>(g γ).bind λb=>
 match a.1,b.1 with
 | .L,.L=>if a.2.length+b.2.length<=lim then aI (a.2++b.2)else bC
 | _,_=>bC
noncomputable def gM(f:CO (Sk×List D))(g:CO D)(γ:Ctx):Option (List D):=(f γ).bind λa=>((g γ).bind m9).bind λj=>
 match a.1 with
 | .L=>if a.2.length*j.toNat<=lim/\inR j=cI then aI (pF j.toNat a.2).flatten else bC
 | _=>bC
noncomputable def i9(n:Nat)(i:Int):Option Nat:=if 0<=i/\i<n then aI i.toNat else if i<0/\0<=i+n then aI (i+n).toNat else bC
noncomputable def eI(f:CO (Sk×List D))(g:CO D)(γ:Ctx):Option D:=(f γ).bind λa=>((g γ).bind m9).bind λi=>(i9 a.2.length i).bind λk=>a.2[k]?
noncomputable def QI(i:Nat)(g f:CO D)(γ:Ctx):Option Fl:=(f γ).bind λd=>(qw γ[i]?).bind λa=>((g γ).bind m9).bind λk=>(i9 a.length k).map λj=> .next (γ.set i<|.own<|a.set j d)
noncomputable def ky(n dflt:Nat):Option Int->Nat
 | none=>dflt
 | some i=>if i<0 then (i+n).toNat else min i.toNat n
noncomputable def vB(xs:List D)(lo z:Option Int):List D:=(xs.drop<|ky xs.length 0 lo).take (ky xs.length xs.length z - ky xs.length 0 lo)
def yi:CO (Option Int):=λ_=>aI bC
noncomputable def n9(f:CO D)(γ:Ctx):Option (Option Int):=((f γ).bind m9).map aI
noncomputable def gL(f:CO D)(l h:CO (Option Int))(γ:Ctx):Option D:=(f γ).bind λd=>(l γ).bind λlo=>(h γ).bind λa=>match d with
 | .tup b=>aI (.tup<|vB b lo a)
 | _=>bC
noncomputable def j7(f:CO (Sk×List D))(γ:Ctx):Option D:=(f γ).map λa=> .int a.2.length
inductive Ty where
 | int | bool | str | tuple | list
 deriving DecidableEq
@[simp] def VM:D->Bool
 | .int _=>cI
 | .bl _=>cI
 | _=>dV
@[simp] def dh:D->Bool
 | .bl _=>cI
 | _=>dV
@[simp] def VI:D->Bool
 | .str _=>cI
 | _=>dV
@[simp] def VH:D->Bool
 | .tup _=>cI
 | _=>dV
@[simp] def VL:D->Bool
 | .lst _=>cI
 | _=>dV
noncomputable def yU:Ty->D->Bool
 | .int=>VM
 | .bool=>dh
 | .str=>VI
 | .tuple=>VH
 | .list=>VL
noncomputable def o4(T:Ty)(f:CO D)(γ:Ctx):Option D:=(f γ).map λd=> .bl (yU T d)
noncomputable def iL:Ty->Sk->Bool
 | .tuple,.T=>cI
 | .list,.L=>cI
 | _,_=>dV
noncomputable def oX(T:Ty)(f:CO (Sk×List D))(γ:Ctx):Option D:=(f γ).map λa=> .bl (iL T a.1)
@[simp] def Fy:D->Bool
 | .g8=>cI
 | _=>dV
@[simp] noncomputable def eqB(a:Bool):D->Bool
 | .bl b=>a==b
 | .int b=>(if a then 1 else 0)==b
 | _=>dV
@[simp] noncomputable def Fx(a:Int):D->Bool
 | .bl b=>a==(if b then 1 else 0)
 | .int b=>a==b
 | _=>dV
@[simp] def Fz(a:Str):D->Bool
 | .str b=>a==b
 | _=>dV
@[simp] noncomputable def FA(a:Str)(i:Option Int):D->Bool
 | .exc b j=>a==b && i==j
 | _=>dV
mutual
def m3:D->D->Bool
 | .g8,y=>Fy y
 | .bl a,y=>eqB a y
 | .int a,y=>Fx a y
 | .str a,y=>Fz a y
 | .tup xs,y=>match y with
  | .tup e=>Br xs e
  | _=>dV
 | .lst xs,y=>match y with
  | .lst e=>Br xs e
  | _=>dV
 | .exc a i,y=>FA a i y
 | .n4 a b,y=>match y with
  | .n4 c d=>Br a c && Br b d
  | _=>dV
 | .l6 a b,y=>match y with
  | .l6 c d=>a==c && Br b d
  | _=>dV
 | .ins a b c,y=>match y with
  | .ins z B I=>a==z && (m3 b B && m3 c I)
  | _=>dV
def Br:List D->List D->Bool
 | [],[]=>cI
 | x::xs,y::ys=>m3 x y && Br xs ys
 | _,_=>dV
end
mutual
def deep:D->Nat
 | .tup a=>BU a+1
 | .lst a=>BU a+1
 | _=>0
def BU:List D->Nat
 | []=>0
 | x::xs=>max (deep x)<|BU xs
end
mutual
def m8:D->Bool
 | .str x=>x.cps.all (· < 0x110000)
 | .exc _ _=>dV
 | .n4 _ _=>dV
 | .l6 _ _=>dV
 | .ins _ _ _=>dV
 | .tup a=>Bu a
 | .lst a=>Bu a
 | _=>cI
def Bu:List D->Bool
 | []=>cI
 | x::xs=>m8 x && Bu xs
end
def n7(d:D):Bool:=decide (deep d<=20) && m8 d
noncomputable def i0(x y:D):Option D:=if n7 x=cI/\n7 y=cI then aI (.bl<|m3 x y)else bC
noncomputable def mi(x y:D):Option D:=if n7 x=cI/\n7 y=cI then aI (.bl<|!m3 x y)else bC
noncomputable def dH:D->D->Option D
 | x,.g8=>aI (.bl<|match x with | .g8=>cI | _=>dV)
 | _,_=>bC
noncomputable def ja(f:CO (Sk×List D))(γ:Ctx):Option D:=(f γ).map λa=> .tup a.2
noncomputable def gP(f:CO (Sk×List D))(γ:Ctx):Option (List D):=(f γ).map λa=>a.2
noncomputable def aS:List D->Option Int
 | []=>aI 0
 | .int i::r=>(aS r).map λs=>i+s
 | _::_=>bC
noncomputable def KW(f:CO (Sk×List D))(γ:Ctx):Option D:=(f γ).bind λa=>(aS a.2).map D.int
noncomputable def gm:D->Option Bool
 | .g8=>aI dV
 | .bl b=>aI b
 | .int i=>aI (i != 0)
 | _=>bC
noncomputable def yq:List D->Option (List Bool)
 | []=>aI []
 | d::r=>(gm d).bind λb=>(yq r).map λs=>b::s
noncomputable def JR(f:CO (Sk×List D))(γ:Ctx):Option D:=(f γ).bind λa=>(yq a.2).map λs=> .bl (s.all id)
noncomputable def pd(f:CO (Sk×List D))(γ:Ctx):Option D:=(f γ).bind λa=>(yq a.2).map λs=> .bl (s.any id)
noncomputable def nY(f:CO D)(γ:Ctx):Option D:=(f γ).bind λd=>match d with
 | .int i=>aI (.int i)
 | .bl b=>aI (.int<|if b then 1 else 0)
 | _=>bC
noncomputable def Zw(f g:CO D)(γ:Ctx):Option D:=((f γ).bind m9).bind λi=>((g γ).bind m9).map λj=> .int (if j>i then j else i)
noncomputable def nU(f:CO (Sk×List D))(γ:Ctx):Option Bool:=(f γ).map λa=> !a.2.isEmpty
def Kv(f:CO D):CO D:=λa=>((f a).bind m9).map λi=> .int (-i)
noncomputable def qL(F G:D->D->Option D)(B H I:CO D):CO D:=λa=>(B a).bind λx=>(H a).bind λy=>((F x y).bind BP).bind λb=>if b=cI then (I a).bind λz=>G y z else aI (.bl dV)
noncomputable def Zv(T:Tg)(f:CO D)(γ:Ctx):Option Fl:=(f γ).bind λd=>(qR T d γ).map .next
def oG:D->Option Int
 | .tup (.int k::_)=>aI k
 | _=>bC
noncomputable def cV:List D->Option (List Int)
 | []=>aI []
 | d::r=>(oG d).bind λk=>(cV r).map λl=>k::l
noncomputable def mQ:List Int->Bool
 | a::b::r=>decide (a<b) && mQ (b::r)
 | _=>cI
noncomputable def oB(z:List Int):Nat:=(z.dropLast.filter λk=>decide<|k<z.getLast?.getD 0).length
noncomputable def oH(q:Nat)(z:List D):List D:=z.dropLast.take q++(z.drop (z.length - 1)++z.dropLast.drop q)
noncomputable def gH(z:List D):Option (List D):=(cV z).bind λa=>if (1<=z.length/\z.length<=8)/\mQ a.dropLast=cI/\decide (a.getLast?.getD 0∈a.dropLast)=dV then aI (oH (oB a) z)else bC
noncomputable def gK(f:CO (Sk×List D))(γ:Ctx):Option (List D):=(f γ).bind λa=>match a.1 with
 | .L=>gH a.2
 | _=>bC
noncomputable def iT:D->Bool
 | .tup _=>dV
 | .lst _=>dV
 | .exc _ _=>dV
 | .n4 _ _=>dV
 | .l6 _ _=>dV
 | .ins _ _ _=>dV
 | _=>cI
end DL
namespace L2
open PySem PySem.Spec PyProof.Rows
noncomputable def oC(k:Sk)(h:fy)(i l:cS)(n:Nat):Prop:=match k with
 | .L=>h.IsListIter i l n
 | .T=>h.IsTupleIter i l n
noncomputable def tG(k:Sk)(h:fy)(l:cS)(xs:Array eF):Prop:=match k with
 | .L=>h.IsList l xs
 | .T=>h.IsTuple l xs
noncomputable def ri(k:Sk)(l:cS):l3:=match k with
 | .L=>{cls:= .type "list_iterator",data:= .fields #[.ref l,.int 0 0]}
 | .T=>{cls:= .type "tuple_iterator",data:= .fields #[.ref l,.int 0 0]}
theorem oC.at(x:oC k h i l n)(e : ∀o,h.get? i=aI o->h'.get? i=aI o):oC k h' i l n:=by cases k<;>exact let ⟨o,z,r⟩:=x;⟨o,e _ z,r⟩
theorem tG.at(x:tG k h l xs)(e : ∀o,h.get? l=aI o->h'.get? l=aI o):tG k h' l xs:=by cases k<;>exact let ⟨o,z,r⟩:=x;⟨o,e _ z,r⟩
theorem oC.obj(x:oC k h i l n) : ∃o,h.get? i=aI o/\∀v,o.data ≠ .cell v:=by cases k<;>exact let ⟨o,B,_,d⟩:=x;⟨o,B,λv z=>by rw[d]at z;cases z⟩
theorem tG.lt(x:tG k h l xs):l<h.objs.size:=by cases k<;>exact let ⟨o,z,_⟩:=x;pE z
theorem Jr(k:Sk)(h:fy)(l:cS):oC k (h.push<|ri k l) h.objs.size l 0:=by cases k<;>exact⟨_,pS _ rfl,rfl,rfl⟩
section
variable{prog:iv}{w:h8}{A:i7}{E:GQ}{s:eM}
theorem Jq(z:tG k s.heap l xs)(B:Q (.ref s.heap.objs.size) {s with heap:=s.heap.push (ri k l)}):wpAny (fh prog w) A (Dj<|.ref l) Q E s:=by
 cases k
 ·exact Gb z B
 ·exact wpAny_pyIter_tuple z B
theorem yC(I:oC k s.heap it l i)(O:tG k s.heap l items)(hx:items[i]? = aI x)
 (R : ∀h',oC k h' it l (i+1)->uA it s.heap h'->Q x {s with heap:=h'}):wpAny (fh prog w) A (rj<|.ref it) Q E s:=by
 cases k with
 | L=>exact wpAny_nextOf_list_item I O hx R
 | T=>
  have B:s.heap.IsTupleIter it l i:=I;obtain⟨o,z,b,a⟩:=id B;obtain⟨Y,U,_,d,W⟩:=(show s.heap.IsTuple l items from O);unfold rj;refine pw (sS (name:=ug "__next__") B.typeIs Ad (tH Ad B.typeIs Fw ?_ (Fo _)));refine pw (m:=field (.ref it) 0) (rY z a (x:= .ref l) rfl ?_);show wpAny _ _ (if (pO l==su)=cI then _ else _) _ _ s;rw[MQ (show ¬((pO l==su)=cI)from pQ)];refine pw (m:=field (.ref it) 1) (rY z a (x:= .int i 0) rfl ?_);refine pw (m:=seqItems? (.ref l)) (tK U W ?_);simp only[Int.toNat_natCast,hx];refine pw (AY z a ⋯ (pD ⟨x,rfl,pD (R _ ?_ (uA.update ..))⟩));show Heap.IsTupleIter _ it l (i+1);exact⟨_,rJ _ z (Obj.isFreed_of_fields (Aa a _)),(Obj.cls_mapFields ..).trans b,by rw[Aa a];simp[Dl]⟩
theorem Jn(z:A.handled=bC)(O:oC k s.heap it l i)(R:tG k s.heap l items)(hx:items[i]? = bC)
 (U : ∀h' e,Heap.ExtBut it s.heap h'->(∃o,h'.get? e=aI o/\o.cls = .type "StopIteration")->E (.ref e) {s with heap:=h'}):wpAny (fh prog w) A (rj (.ref it)) Q E s:=by
 cases k with
 | L=>exact wpAny_nextOf_list_end z O R hx U
 | T=>
  have B:s.heap.IsTupleIter it l i:=O;obtain⟨o,I,d,b⟩:=id B;obtain⟨g,W,_,f,Y⟩:=(show s.heap.IsTuple l items from R);unfold rj;refine pw (sS (name:=ug "__next__") B.typeIs Ad (tH Ad B.typeIs Fw ?_ (Fo _)));refine pw (m:=field (.ref it) 0) (rY I b (x:= .ref l) rfl ?_);show wpAny _ _ (if (pO l==su)=cI then _ else _) _ _ s;rw[MQ (show ¬((pO l==su)=cI)from pQ)];refine pw (m:=field (.ref it) 1) (rY I b (x:= .int i 0) rfl ?_);refine pw (m:=seqItems? (.ref l)) (tK W Y ?_);simp only[Int.toNat_natCast,hx];refine pw (Bk (pw (AY I b ⋯ ?_)));refine pw (m:=newExc (.type "StopIteration") []) ?_;simp only[newExc,newTuple];refine pw (sg ?_ (by size_fits));refine pw (m:=FC _ _) (uE (a:=su) (by first | rfl | (simp only[FC];rfl)) ?_);refine sg ?_ (by size_fits);simp only[raiseNew];refine pw (wpAny_handled ?_)
  first | rw[show A.in1.handled=bC from z] | rw[z]
  exact pw<|pD<|wpAny_throw<|U _ _ (((uA.update ..).extBut.push _).push _) ⟨_,pS _ rfl,rfl⟩
theorem Qm{k1 k2:Sk}{z TI TO I O H J:cS}{L P:Nat}{xs Z:Array eF}{x y a b:eF}{Q:GQ}(D:D2 z TI TO I O H J)
 (G:By s.heap z TI TO .none) (c5:tF s.heap TI (.ref I) (.ref O)) (c6:tF s.heap TO a b)
 (h1:oC k1 s.heap I H L) (h2:oC k2 s.heap O J P) (c7:tG k1 s.heap H xs) (c8:tG k2 s.heap J Z) (hx:xs[L]? = aI x) (hy:Z[P]? = aI y)
 (hQ : ∀h',By h' z TI TO (Dl s.heap.objs.size)->tF h' TO x y->oC k1 h' I H (L+1)->oC k2 h' O J (P+1)->tF h' s.heap.objs.size x y->h'.objs.size=s.heap.objs.size+1->
   (∀c o,c≠z->c≠TO->c≠I->c≠O->s.heap.get? c=aI o->h'.get? c=aI o)->Q (.ref s.heap.objs.size) {s with heap:=h'}) :
 wpAny (fh prog w) A (Builtin.«zip.__next__» ⟨[.ref z],[]⟩) (λcc s'=>∃v,cc = .done (.ret v)/\Q v s') E s:=by
 refine pw (m:=field (.ref z) 2)<|rY G rfl (x:= .bool dV) rfl ?_;refine pw (m:=field (.ref z) 3)<|rY G rfl (x:= .ref TI) rfl ?_;refine pw<|tK c5 rfl ?_;refine pw (m:=sE<|.ref z) ?_;unfold sE;refine pw<|rY G rfl (x:= .none) rfl<|pD ?_;simp only[if_true];refine pw<|Bk<|pw<|rY G rfl (x:= .ref TO) rfl ?_;refine pw<|uw G ⋯ λg1 l R=>?_;replace l:By g1 z TI TO .ellipsis:=l;refine pw ?_;simp only[List.zipIdx_cons,List.zipIdx_nil,List.forIn_cons,List.forIn_nil];refine pw<|pw<|Bi ?_;refine pw (m:=rj<|.ref I)<|yC (h1.at λo e=>R.extBut _ _ D.i1z e) (c7.at λo e=>R.extBut _ _ D.l1z e) hx λg2 X W=>pD ?_;have F:tF g2 TO a b:=W.extBut _ _ D.TOi1<|R.extBut _ _ D.TOz c6;refine pw<|tK F rfl<|pw<|AQ F λg3 n Y=>?_;replace n:tF g3 TO x b:=n;refine pw<|wpAny_letGo<|pD<|pw<|pw<|Bi ?_;refine pw (m:=rj<|.ref O)<|yC (h2.at λo e=>Y.extBut _ _ D.TOi2.symm<|W.extBut _ _ D.i12.symm<|R.extBut _ _ D.i2z e) (c8.at λo e=>Y.extBut _ _ D.l2TO<|W.extBut _ _ D.l2i1<|R.extBut _ _ D.l2z e) hy λg4 cl d=>pD ?_;have K:tF g4 TO x b:=d.extBut _ _ D.TOi2 n;refine pw<|tK K rfl<|pw<|AQ K λB h f=>?_;replace h:tF B TO x y:=h;refine pw<|wpAny_letGo<|pD<|pD<|pw<|tK h rfl<|pw<|wpAny_newTuple ?_;have M:B.objs.size=s.heap.objs.size:=by rw[f.1,d.1,Y.1,W.1,R.1]
 have bl:By B z TI TO .ellipsis:=f.extBut _ _ D.TOz.symm (d.extBut _ _ D.i2z.symm (Y.extBut _ _ D.TOz.symm (W.extBut _ _ D.i1z.symm l)));have cn : ∀c o,c≠z->c≠TO->c≠I->c≠O->s.heap.get? c=aI o->B.get? c=aI o:=λc o U j u C e=>f.extBut _ _ j (d.extBut _ _ C (Y.extBut _ _ j (W.extBut _ _ u (R.extBut _ _ U e))));have co:oC k1 B I H (L+1):=X.at λo e=>f.extBut _ _ D.TOi1.symm (d.extBut _ _ D.i12 (Y.extBut _ _ D.TOi1.symm e));have cq:oC k2 B O J (P+1):=cl.at λo e=>f.extBut _ _ D.TOi2.symm e;have N:z<B.objs.size:=pE bl;refine pw (m:=uV (.ref z) (.ref B.objs.size)) ?_;unfold uV;have cr:By (B.push {cls:= .type "tuple",data:= .seq #[x,y]}) z TI TO .ellipsis:=pA _ bl;refine pw (uw cr ⋯ λg7 p r=>?_);replace p:By g7 z TI TO (Dl B.objs.size):=p;refine uw p ⋯ λg i t=>?_;replace i:By g z TI TO (Dl B.objs.size):=i;have k : ∀c o,c≠z->B.get? c=aI o->g.get? c=aI o:=λc o U e=>t.extBut _ _ U (r.extBut _ _ U (pA _ e));have S:tF g B.objs.size x y:=t.extBut _ _ (uh N) (r.extBut _ _ (uh N) (pS _ rfl));have T:g.objs.size=B.objs.size+1:=by rw[t.1,r.1,rX]
 rw[M]at i S T;refine pD ⟨_,rfl,?_⟩;show Q (.ref B.objs.size) _;rw[M];exact hQ g i (k _ _ D.TOz h) (co.at λo e=>k _ o D.i1z e) (cq.at λo e=>k _ o D.i2z e) S T λc o U j u C e=>k c o U<|cn c o U j u C e
theorem KG{k1 k2:Sk}{z TI TO O W H J:cS}{L P:Nat}{xs Z:Array eF}{a b:eF}{Q:Fin->eM->Prop}(hh:A.handled=bC)(D:D2 z TI TO O W H J)
 (G:By s.heap z TI TO .none) (bd:tF s.heap TI (.ref O) (.ref W)) (be:tF s.heap TO a b)
 (h1:oC k1 s.heap O H L) (h2:oC k2 s.heap W J P) (ap:tG k1 s.heap H xs) (bg:tG k2 s.heap J Z) (bi:xs[L]? = bC\/Z[P]? = bC)
 (hE : ∀h' e,(∀c o,c≠z->c≠TO->c≠O->c≠W->s.heap.get? c=aI o->h'.get? c=aI o)->(∃o,h'.get? e=aI o/\o.cls = .type "StopIteration")->E (.ref e) {s with heap:=h'}) :
 wpAny (fh prog w) A (Builtin.«zip.__next__» ⟨[.ref z],[]⟩) Q E s:=by
 refine pw (m:=field (.ref z) 2) (rY G rfl (x:= .bool dV) rfl ?_);refine pw (m:=field (.ref z) 3) (rY G rfl (x:= .ref TI) rfl ?_);refine pw (tK bd rfl ?_);refine pw (m:=sE (.ref z)) ?_;unfold sE;refine pw (rY G rfl (x:= .none) rfl (pD ?_));simp only[if_true];refine pw (Bk (pw (rY G rfl (x:= .ref TO) rfl ?_)));refine pw (uw G ⋯ λg1 j B=>?_);replace j:By g1 z TI TO .ellipsis:=j;refine pw ?_;simp only[List.zipIdx_cons,List.zipIdx_nil,List.forIn_cons,List.forIn_nil];refine pw (pw (Bi ?_));have as : ∀{g e:_} {Y:l3},By g z TI TO .ellipsis->(∀c o,c≠z->c≠TO->c≠O->c≠W->s.heap.get? c=aI o->g.get? c=aI o)->g.get? e=aI Y->Y.cls = .type "StopIteration"->
  wpAny (fh prog w) A (DQ (.ref z) 0 .none) (λ_ y=>E (.ref e) y) E {s with heap:=g}:=λ{g e Y} Ct hk R d=>by
  have t:e≠z:=λq=>by subst q;rw[Ct]at R;cases R;simp at d
  exact uw Ct ⋯ λg3 _ U=>hE g3 e (λc o f k i l q=>U.extBut _ _ f<|hk c o f k i l q) ⟨Y,U.extBut _ _ t R,d⟩
 cases hx:xs[L]? with
 | none=>
  refine pw (m:=rj<|.ref O)<|Jn hh (h1.at λo e=>B.extBut _ _ D.i1z e) (ap.at λo e=>B.extBut _ _ D.l1z e) hx λg2 e I n=>?_;obtain⟨Y,R,d⟩:=n;exact as (I _ _ D.i1z.symm j) (λc o f _ i _ q=>I _ _ i<|B.extBut _ _ f q) R d
 | some x=>
  have u:Z[P]? = bC:=by rcases bi with h | h;rw[hx]at h;cases h;exact h
  refine pw (m:=rj<|.ref O)<|yC (h1.at λo e=>B.extBut _ _ D.i1z e) (ap.at λo e=>B.extBut _ _ D.l1z e) hx λg2 C I=>pD ?_;have p:tF g2 TO a b:=I.extBut _ _ D.TOi1<|B.extBut _ _ D.TOz be;refine pw<|tK p rfl<|pw<|AQ p λg3 F U=>?_;refine pw<|wpAny_letGo<|pD<|pw<|pw<|Bi ?_;refine pw (m:=rj<|.ref W)<|Jn hh (h2.at λo e=>U.extBut _ _ D.TOi2.symm<|I.extBut _ _ D.i12.symm<|B.extBut _ _ D.i2z e) (bg.at λo e=>U.extBut _ _ D.l2TO<|I.extBut _ _ D.l2i1<|B.extBut _ _ D.l2z e) u λK e r n=>?_;obtain⟨Y,R,d⟩:=n;exact as (r _ _ D.i2z.symm<|U.extBut _ _ D.TOz.symm<|I.extBut _ _ D.i1z.symm j) (λc o f k i l q=>r _ _ l<|U.extBut _ _ k<|I.extBut _ _ i<|B.extBut _ _ f q) R d
end
def kK(a b:eF):l3:={cls:= .type "tuple",data:= .seq #[a,b]}
noncomputable def gd(TI TO:cS):l3:={cls:= .type "zip",data:= .fields #[.none,.bool dV,.bool dV,.ref TI,.ref TO]}
noncomputable def yX(k1 k2:Sk)(h:fy)(z B:cS):fy:=
 rQ (rQ (rQ (rQ (rQ h<|ri k1 z)<|ri k2 B)<|kK (.ref h.objs.size)<|.ref<|h.objs.size+1)<|kK .none .none) (gd (h.objs.size+2)<|h.objs.size+3)
theorem KD(k1 k2:Sk)(z B:cS)(xs G:Array eF) :
 DB (Builtin.«zip.__new__» ⟨[.type "zip",.ref z,.ref B],[]⟩) (λ_ R s=>tG k1 s.heap z xs/\tG k2 s.heap B G/\
  R (.ok<|.ret<|.ref<|s.heap.objs.size+4) {s with heap:=yX k1 k2 s.heap z B}):=
 .of_wp λa w A R s h=>by
  obtain⟨I,g,d,b,os⟩:=s;obtain⟨O,U,h⟩:=h;have f:=sub_zip;have W:tG k1 (Shared.heap ⟨I,g,d,b,os⟩) z xs:=O;have Y:tG k2 (Shared.heap ⟨I.push<|ri k1 z,g,d,b,os⟩) B G:=U.at λo e=>pA _ e
  wp_walk using Jq W,Jq Y
  refine⟨_,rfl,?_⟩;simp only[yX,kK,gd,rX]at h ⊢;exact h
section
variable{X:Cx}{pins:GW}{σ:St}{H:Hp}{s:eM}{h':fy}
theorem Inv.E7{t':Nat}{fp:List cS}{a:cS}{o:HO}(I:Inv X pins σ H s)(k : ∀b u,b∉fp->s.heap.get? b=aI u->h'.get? b=aI u)(G : ∀b∈fp,Zp X pins H b)
 (R:s.heap.objs.size<=a) (new:i8 X.prog X.w (upd H a o) h' a o):Inv X pins σ (upd H a o) {s with heap:=h',toks:=t'}:=by
 have f:H a=bC:=I.gv.fresh R;have U : ∀b u,H b=aI u->b∉fp:=λb u e z=>by rw[(G b z).1]at e;cases e
 have W : ∀b u,s.heap.get? b=aI u->b≠a:=λb u e=>pP<|pH (pE e) R;refine I.step (g':=s.gens) (d':=s.drawn) (ch:=fp) (λb B=>⟨(G b B).2.2.2.1,(G b B).2.1,(G b B).2.2.2.2.1,(G b B).2.2.2.2.2⟩) (λb u _ _ d e _=>k b u d e) (λb u _ _ d e _=>⟨u.slots,k b u d e⟩)
  (λb u _ e n=>by rw[zo (W b u e)];exact n) (λb u d e=>⟨u,k b u d e⟩) (λb g e=>by rw[zo (zD e f)];exact e) (λb O g e=>by rw[zo (zD e f)];exact e)
  (λb l e=>⟨#[],by rw[zo (zD e f),e];simp⟩) (λm i=>?_) (λb u e=>?_) I.bare
 ·obtain⟨O,h,Y,j,r⟩:=i
  refine⟨O,h,Y,k _ O (λz=>(G _ z).2.1 rfl) j,r⟩
 ·by_cases B:b=a
  ·subst B;rw[zq]at e;cases e;exact new
  ·rw[zo B]at e
   refine(I.gv b u e).t5 (λc v d q=>k c v ?_ q) (λc q=>by rw[zo (zD q f)];exact q) λc g q=>by rw[zo (zD q f)];exact q
   rcases d with z | z
   ·rw[z];exact U b u e
   ·exact U c _ z
theorem Inv.E8{t':Nat}{fp:List cS}(I:Inv X pins σ H s)(k : ∀b u,b∉fp->s.heap.get? b=aI u->h'.get? b=aI u)(G : ∀b∈fp,Zp X pins H b):Inv X pins σ H {s with heap:=h',toks:=t'}:=by
 have R : ∀b u,H b=aI u->b∉fp:=λb u e z=>by rw[(G b z).1]at e;cases e
 refine I.step (g':=s.gens) (d':=s.drawn) (ch:=fp) (λb B=>⟨(G b B).2.2.2.1,(G b B).2.1,(G b B).2.2.2.2.1,(G b B).2.2.2.2.2⟩) (λb u _ _ a e _=>k b u a e) (λb u _ _ a e _=>⟨u.slots,k b u a e⟩)
  (λb u _ e n=>n) (λb u a e=>⟨u,k b u a e⟩) (λb d e=>e) (λb O d e=>e)
  (λb h e=>⟨#[],by rw[e];simp⟩) (λm g=>?_) (λb u e=>?_) I.bare
 ·obtain⟨O,f,U,W,r⟩:=g
  refine⟨O,f,U,k _ O (λz=>(G _ z).2.1 rfl) W,r⟩
 ·refine(I.gv b u e).t5 (λc v a q=>k c v ?_ q) (λc q=>q) λc d q=>q
  rcases a with z | z
  ·rw[z];exact R b u e
  ·exact R c _ z
end
noncomputable def o3(k:Sk)(K:pv)(H:Hp)(a:cS)(xs:List V):Prop:=match k with
 | .L=>i2 K H a xs
 | .T=>i4 K H a xs
theorem Inv.sq(I:Inv X pins σ H s)(h:o3 k X.K H a xs) :
 ∃B:List eF,hA xs B/\tG k s.heap a B.toArray/\xs.length<=i6:=by
 cases k with
 | L=>obtain⟨B,r,p,z⟩:=I.list h;exact⟨B,r,p.isList,z⟩
 | T=>obtain⟨B,r,p,z⟩:=I.tuple h;exact⟨B,r,p,z⟩
theorem Inv.EY(I:Inv X pins σ H s)(h:o3 k X.K H a xs)(h':o3 k X.K H a ys):xs=ys:=by
 cases k with
 | L=>exact I.Eg h h'
 | T=>exact I.E6 h h'
noncomputable def DW(k1 k2:Sk)(K:pv)(a b:cS):It:=
 ⟨λi H=>∃d e,o3 k1 K H a d/\o3 k2 K H b e/\i<d.length/\i<e.length,
  λi H x f=>∃p u v,x = .ref p/\H p=bC/\f=upd H p (.tup [u,v])/\(∀d,o3 k1 K H a d->d[i]? = aI u)/\(∀e,o3 k2 K H b e->e[i]? = aI v),
  λi H=>∃d e,o3 k1 K H a d/\o3 k2 K H b e/\(d.length<=i\/e.length<=i)⟩
theorem KN{P:iv}{w:h8}{K:pv}{elts:List f6}{x1:Nat}{Cz:g9}(k1 k2:Sk){z TI TO W Y a b:cS}(D:D2 z TI TO W Y a b) :
 Turn P w K (.Tuple elts x1 Cz) (DW k1 k2 K a b) [z,TI,TO,W,Y] z (λi h=>By h z TI TO .none/\tF h TI (.ref W) (.ref Y)/\(∃c d,tF h TO c d)/\oC k1 h W a i/\oC k2 h Y b i) where
 mem:=by simp
 obj:=λi h ⟨O,U,⟨c,d,a8⟩,h1,h2⟩ y hy=>by
  simp only[pM,rp,or_false]at hy;rcases hy with rfl | rfl | rfl | rfl | rfl
  ·exact⟨_,O,λv q=>by cases q⟩
  ·exact⟨_,U,λv q=>by cases q⟩
  ·exact⟨_,a8,λv q=>by cases q⟩
  ·exact h1.obj
  ·exact h2.obj
 keep:=λi h h' ⟨O,U,⟨c,d,a8⟩,h1,h2⟩ k=>
  ⟨k z ⋯ _ O,k TI ⋯ _ U,⟨c,d,k TO ⋯ _ a8⟩,h1.at λo e=>k W ⋯ o e,h2.at λo e=>k Y ⋯ o e⟩
 item:=by
  rintro X hP hw hK hc i pins s σ H E I hf ⟨O,U,⟨c,d,a8⟩,h1,h2⟩ ⟨xs,ys,an,ap,bg,bi⟩;subst hP hw hK;obtain⟨bl,b0,p1,z1⟩:=I.sq an;obtain⟨bn,bb,p2,z2⟩:=I.sq ap;have hx:xs[i]? = aI xs[i]:=pC bg;have hy:ys[i]? = aI ys[i]:=pC bi;obtain⟨u1,c0,c1⟩:=b0.get hx;obtain⟨u2,c2,c3⟩:=bb.get hy;have hT:s.TypeIs (.ref z) "zip":=⟨_,O,rfl⟩;unfold Dk;refine pw (uW (sS (name:=ug "__next__") hT Ay (tH Ay hT F.entry_zip_next
   (Qm D O U a8 h1 h2 p1 p2 (x:=u1) (y:=u2) (by simpa using c0) (by simpa using c2) λg a1 a2 a3 a4 a5 a6 a7=>pD ⟨_,rfl,?_⟩) (F.args_zip_next_1 _))))
  refine wpAny_letOwnedTupleGo_zip a1 λg2 Ct a9=>?_;have lt : ∀{c o},s.heap.get? c=aI o->s.heap.objs.size≠c:=λe=>uh<|pE e;have c9:tF g2 s.heap.objs.size u1 u2:=a9.extBut _ _ (lt O) a5;have kk : ∀R u,R ∉ [z,TI,TO,W,Y]->s.heap.get? R=aI u->g2.get? R=aI u:=λR u B e=>by simp only[pM,rp,or_false,not_or]at B;exact a9.extBut _ _ B.1<|a7 R u B.1 B.2.2.1 B.2.2.2.1 B.2.2.2.2 e
  have I1:Inv X pins σ (upd H s.heap.objs.size<|.tup [xs[i],ys[i]]) {s with heap:=g2,toks:=s.toks}:=
   I.E7 (fp:=[z,TI,TO,W,Y]) kk hf (pN _) ⟨by show 2<=i6;decide,[u1,u2],.cons c1<|.cons c3 .nil,⟨_,c9,rfl,_,rfl⟩⟩
  have cc:H s.heap.objs.size=bC:=I.fresh;refine⟨.ref s.heap.objs.size,_,I1,rfl,⟨_,_,_,rfl,cc,rfl,λcn bd=>by rw[I.EY bd an];exact hx,λco bd=>by rw[I.EY bd ap];exact hy⟩,?_,λR B=>?_⟩
  ·exact⟨Ct,a9.extBut _ _ D.TIz<|a7 _ _ D.TIz D.TITO D.TIi1 D.TIi2 U,⟨_,_,a9.extBut _ _ D.TOz a2⟩,a3.at λo e=>a9.extBut _ _ D.i1z e,a4.at λo e=>a9.extBut _ _ D.i2z e⟩
  ·have ce:R≠s.heap.objs.size:=by
    simp only[pM,rp,or_false]at B;rcases B with rfl | rfl | rfl | rfl | rfl
    ·exact(lt O).symm
    ·exact(lt U).symm
    ·exact(lt a8).symm
    ·obtain⟨o,e,_⟩:=h1.obj;exact(lt e).symm
    ·obtain⟨o,e,_⟩:=h2.obj;exact(lt e).symm
   rw[zo ce];exact(hf R B).1
 done:=by
  rintro X hP hw hK hc i pins s σ H E I hf ⟨O,U,⟨c,d,a8⟩,h1,h2⟩ ⟨xs,ys,an,ap,hi⟩;subst hP hw hK;obtain⟨bl,b0,p1,z1⟩:=I.sq an;obtain⟨bn,bb,p2,z2⟩:=I.sq ap;have hT:s.TypeIs (.ref z) "zip":=⟨_,O,rfl⟩;have l1:=b0.length;have l2:=bb.length;unfold Dk;refine pw (uW (sS (name:=ug "__next__") hT Ay (tH Ay hT F.entry_zip_next
   (KG (show X.A.handled=bC from I.ok.hd hc) D O U a8 h1 h2 p1 p2 (by rcases hi with q | q;left;simp;omega;right;simp;omega) λg e hk he=>?_) (F.args_zip_next_1 _))))
  obtain⟨o,ho,ci⟩:=he;refine pw (wpAny_isInstance (T:="StopIteration") (b:=cI) ⟨o,ho,ci⟩ isSubtype_stop (pD ⟨rfl,?_⟩));refine I.E8 (t':=s.toks) (fp:=[z,TI,TO,W,Y]) (λR u B e=>?_) hf;simp only[pM,rp,or_false,not_or]at B;exact hk R u B.1 B.2.2.1 B.2.2.2.1 B.2.2.2.2 e
 self:=λ_ _ _ _ _ st h=>wpAny_pyIter_zip st.1 h
noncomputable def oJ(K:pv)(z:TA):TI:=λj H R=>z j H λg d=>∃e f a b,g=[.ref a,.ref b]/\(∃h,o3 e K d a h)/\(∃i,o3 f K d b i)/\R (DW e f K a b) d
theorem bM{X:Cx}{L z:f6}{P:TA}{p pos:g9}{G:List f6}{x1:Nat}{J:g9}(hg:Gl X "zip")(hm:X.mg "zip" = bC)(ha:PA X [L,z] P)
 (hv:Cb "zip" = aI (.type "zip")) (hs:hX [L,z] X.env=[(dV,fk L X.env),(dV,fk z X.env)]:=by rfl) (Y:hX [z] X.env=[(dV,fk z X.env)]:=by rfl) :
 PI X (.Tuple G x1 J) (.Call (.Name "zip" p) [L,z] [] pos) (oJ X.K P):=by
 intro j s C H R I h;refine Call_ (qP I hg hm hv<|tu (gE (ha pos j s C H _ I h) λus d hZ=>?_) (by rw[hs,Y])<|by rw[Y];rfl);obtain⟨vs,l,B,r1,q1⟩:=hZ;obtain⟨f,g,a,b,e,⟨xs,M⟩,⟨ys,N⟩,q⟩:=q1;subst e;obtain⟨w1,w2,Z,Q,as⟩:=aG r1;subst Z;cases Q;cases as;obtain⟨S,bn,u,z1⟩:=B.sq M;obtain⟨T,bv,w,z2⟩:=B.sq N;have la:=u.lt;have lb:=w.lt;refine callType_new F.called_zip ⋯ (F.typeCall_zip_2 _ _) (F.newCall_zip_2 _ _) (λobj=>F.args_object_init_3 obj _ _) F.entry_zip_new (KD f g a b S.toArray T.toArray) ⟨u,w,?_⟩;have k : ∀c o,d.heap.get? c=aI o->(yX f g d.heap a b).get? c=aI o:=λc o e=>
  pA _ (pA _<|pA _<|pA _<|pA _ e)
 have x:(rQ d.heap<|ri f a).objs.size=d.heap.objs.size+1:=rX ..;have y:(rQ (rQ d.heap<|ri f a)<|ri g b).objs.size=d.heap.objs.size+2:=by rw[rX,x]
 have A:(rQ (rQ (rQ d.heap<|ri f a)<|ri g b)<|kK (.ref d.heap.objs.size)<|.ref<|d.heap.objs.size+1).objs.size=d.heap.objs.size+3:=by rw[rX,y]
 have y4:(rQ (rQ (rQ (rQ d.heap<|ri f a)<|ri g b)<|kK (.ref d.heap.objs.size)<|.ref<|d.heap.objs.size+1)<|kK .none .none).objs.size=d.heap.objs.size+4:=by rw[rX,A]
 have g0:oC f (yX f g d.heap a b) d.heap.objs.size a 0:=(Jr f d.heap a).at λo e=>pA _<|pA _<|pA _<|pA _ e;have g1:oC g (yX f g d.heap a b) (d.heap.objs.size+1) b 0:=by have q:=Jr g (rQ d.heap<|ri f a) b;rw[x]at q;exact q.at λo e=>pA _<|pA _<|pA _ e
 have g2:tF (yX f g d.heap a b) (d.heap.objs.size+2) (.ref d.heap.objs.size) (.ref<|d.heap.objs.size+1):=by have q:_=aI (kK (.ref d.heap.objs.size)<|.ref<|d.heap.objs.size+1):=pS (rQ (rQ d.heap<|ri f a)<|ri g b) (o:=kK (.ref d.heap.objs.size)<|.ref<|d.heap.objs.size+1) rfl;rw[y]at q;exact pA _<|pA _ q
 have g3:tF (yX f g d.heap a b) (d.heap.objs.size+3) .none .none:=by have q:_=aI (kK .none .none):=pS (rQ (rQ (rQ d.heap<|ri f a)<|ri g b)<|kK (.ref d.heap.objs.size)<|.ref<|d.heap.objs.size+1) (o:=kK .none .none) rfl;rw[A]at q;exact pA _ q
 have W:By (yX f g d.heap a b) (d.heap.objs.size+4) (d.heap.objs.size+2) (d.heap.objs.size+3) .none:=by have q:=pS (rQ (rQ (rQ (rQ d.heap<|ri f a)<|ri g b)<|kK (.ref d.heap.objs.size)<|.ref<|d.heap.objs.size+1)<|kK .none .none) (o:=gd (d.heap.objs.size+2)<|d.heap.objs.size+3) rfl;rw[y4]at q;exact q
 refine⟨⟨_,W,rfl⟩,wpAny_pyIter_zip (s:={d with heap:=yX f g d.heap a b}) W ?_⟩;have E:Inv X j C l {d with heap:=yX f g d.heap a b,toks:=d.toks}:=B.kept k;have nn : ∀m:Nat,d.heap.objs.size≠d.heap.objs.size+m+1:=λm=>by omega
 have O : ∀m:Nat,a≠d.heap.objs.size+m:=λm=>pP<|pH la<|sI _ m;have U : ∀m:Nat,b≠d.heap.objs.size+m:=λm=>pP<|pH lb<|sI _ m;have i : ∀m n:Nat,m≠n->(d.heap.objs.size+m:Nat)≠d.heap.objs.size+n:=λm n h=>by omega
 have D:D2 (d.heap.objs.size+4) (d.heap.objs.size+2) (d.heap.objs.size+3) d.heap.objs.size (d.heap.objs.size+1) a b:=
  ⟨i 2 4 ⋯,i 3 4 ⋯,i 0 4 ⋯,i 1 4 ⋯,i 2 3 ⋯,i 2 0 ⋯,i 2 1 ⋯,i 3 0 ⋯,i 3 1 ⋯,i 0 1 ⋯,
   O 4,O 3,O 0,O 1,U 4,U 3,U 0,U 1⟩
 refine⟨_,[d.heap.objs.size+4,d.heap.objs.size+2,d.heap.objs.size+3,d.heap.objs.size,d.heap.objs.size+1],_,_,l,rfl,E,KN f g D,⟨W,g2,⟨_,_,g3⟩,g0,g1⟩,λc t=>?_,q⟩;have r:d.heap.objs.size<=c:=by
  simp only[pM,rp,or_false]at t;rcases t with rfl | rfl | rfl | rfl | rfl
  ·exact sI _ _
  ·exact sI _ _
  ·exact sI _ _
  ·exact pN _
  ·exact sI _ _
 exact B.DH r<|B.gv.fresh r
noncomputable def EB(k:Sk)(K:pv)(a:cS):It:=match k with
 | .L=>EC K a
 | .T=>ED K a
noncomputable def mH(K:pv)(z:TE):TI:=λe H R=>z e H λx b=>∃a k,x = .ref a/\(∃d,o3 k K b a d)/\R (EB k K a) b
theorem bN(O:PE X l tl):PI X tg l (mH X.K tl):=by
 intro d s m H R I h;refine gE (O d s m H _ I h) λv f U=>?_;obtain⟨x,g,z,W,Y⟩:=U;obtain⟨a,k,e,⟨u,j⟩,q⟩:=Y;subst e;cases W;have B : ∀b ∈ [f.heap.objs.size],Zp X d g b:=λb i=>by
  have e:b=f.heap.objs.size:=by simpa using i
  subst e;exact z.DH (pN _)<|z.gv.fresh<|pN _
 obtain⟨n,t,p,r⟩:=z.sq j;cases k with
 | L=>exact Gb p ⟨f.heap.objs.size,[f.heap.objs.size],_,_,g,rfl,z.kept (t':=f.toks) λb o e=>pA _ e,Qs a _,⟨_,pS _ rfl,rfl,rfl⟩,B,q⟩
 | T=>exact wpAny_pyIter_tuple p ⟨f.heap.objs.size,[f.heap.objs.size],_,_,g,rfl,z.kept (t':=f.toks) λb o e=>pA _ e,JK a _,⟨_,pS _ rfl,rfl,rfl⟩,B,q⟩
section
variable{P:iv}{w:h8}{H:Hp}{h:fy}{a:cS}
theorem gY(ok:l0 P w H h)(e:Rd H a u):i8 P w H h a u:=e.ok ok
theorem iW(ok:l0 P w H h)(e:Rd H a (.dK BX)):BX.length<=i6/\(a==Eo)=dV/\∃z,KV BX z/\h.DictOf (ZK P w) a z:=
 show i8 P w H h a (.dK BX)from gY ok e
end
end L2
namespace DL
open PySem PySem.Spec PyProof.Rows L2
noncomputable def mB:List Str:=["NoPrime","Nought","NoTable","NoWidths","NoRow","Unlike","TooMany","NoTurn","NoLine","Nothing","NoArrow","NoText","NoRoom"]
noncomputable def t8:List eF:=[.type "ValueError",.type "Exception",.type "BaseException",.type "object"]
noncomputable def qH(K:pv)(c:Str):Option cS:=match sY K n6 c with
 | some (aI (.ref C))=>aI C
 | _=>bC
noncomputable def KH(K:pv)(C:cS):Bool:=
 ["int","bool","str","tuple","list"].all (λt=>rA K (.ref C) (.type t)==aI dV) && rA K (.ref C) (.type "ValueError")==aI cI &&
 rB K (.ref C) "__getattribute__" == aI (aI (.builtin "BaseException.__getattribute__")) && rB K (.ref C) "__getattr__" == aI bC &&
 rB K (.ref C) "__class__" == aI (aI (.builtin "object.__class__")) && rl K C (.type "object")==aI cI && rl K C (.type "BaseException")==aI cI &&
 uo K (.builtin "object.__class__") "__get__" == aI (aI (.builtin "getset_descriptor.__get__")) && PySem.W.takesIn K (.builtin "object.__class__")==aI cI &&
 (sy K C).any (λa=> !a.hasDel) && sJ K (.ref C)==aI (.type "type")
noncomputable def yf(K:pv):Bool:=match qH K "SplitError" with
 | some S=>mB.all λc=>match qH K c with
  | some C=>KH K C && rA K (.ref C) (.ref S)==aI cI && mB.all λz=>match qH K z with
   | some B=>rA K (.ref C) (.ref B)==aI (c==z)
   | none=>dV
  | none=>dV
 | none=>dV
noncomputable def vH(h:fy)(a:cS)(C:cS):Prop:=∃o b,h.get? a=aI o/\o.cls = .ref C/\o.data = .fields b
structure zj(K:pv)(H:Hp)(c:Str)(n:Option Int)(a:cS):Prop where
 all:yf K=cI
 mem:c∈mB
 ex : ∃C φ,qH K c=aI C/\H a=aI (.ext φ)/\(∀h,φ h->vH h a C)/\
  match n with
  | none=>True
  | some i=>∃d,(∀h,φ h->∃o,h.get? a=aI o/\o.dict=aI d)/\H d=aI (.xd [(if c==("NoRoom" : Str)then "room" else "at",.int i)])
theorem zj.mono{K:pv}{H G:Hp}{c:Str}{n:Option Int}{a:cS}(e : ∀b o,H b=aI o->G b=aI o)(h:zj K H c n a):zj K G c n a:=by
 obtain⟨f,g,C,j,B,g2,I,z⟩:=h;refine⟨f,g,C,j,B,e _ _ g2,I,?_⟩;cases n with
 | none=>exact z
 | some i=>obtain⟨d,O,R⟩:=z;exact⟨d,O,e _ _ R⟩
theorem xU{K:pv}{c:Str}{C:cS}(h:yf K=cI)(G:c∈mB)(e:qH K c=aI C) : ∃S,qH K "SplitError" = aI S/\KH K C=cI/\rA K (.ref C) (.ref S)=aI cI/\
 ∀z B,z∈mB->qH K z=aI B->rA K (.ref C) (.ref B)=aI (c==z):=by
 unfold yf at h;split at h
 ·rename_i S I
  have a:=rz.mp h c G;rw[e]at a;simp only[pB,beq_iff_eq]at a;refine⟨S,I,a.1.1,a.1.2,λz B O R=>?_⟩;have b:=rz.mp a.2 z O;rw[R]at b;exact beq_iff_eq.mp b
 ·cases h
abbrev St:=L2.St
noncomputable def iK:D->Option Key
 | .int i=>aI (.inl i)
 | .str x=>aI (.inr x)
 | _=>bC
noncomputable def VF:List D->Option (List Key)
 | []=>aI []
 | d::ds=>(iK d).bind λk=>(VF ds).map λr=>k::r
noncomputable def CZ(H:Hp)(a:cS)(z:List D)(xs:List V):Prop:=∃b,VF z=aI b/\b.length=xs.length/\∃o,H a=aI (.t9 o<|.dK<|b.zip xs)
noncomputable def gp(k:List Int):Int:=reduceHash<|Builtin.Tuple.tupleHashOf<|k.map hashInt
noncomputable def oV(o:l3)(xs:List (List Int×cS×eF)):Prop:=o.ExactDict/\∃a z,o.data = .dict a z/\a.toList=xs.map (λx=>⟨gp x.1,.ref x.2.1,x.2.2⟩)/\(xs.map (·.1)).Nodup
def D3(a:cS)(o:l3):HO:= .ext λh=>h.get? a=aI o
noncomputable def C3(K:pv)(H:Hp)(a:cS)(z:List (List Int))(B:List V):Prop:=
 (a==Eo)=dV/\∃o b,H a=aI (D3 a o)/\oV o b/\b.map (·.1)=z/\b.length<=i6/\(∀x∈b,i4 K H x.2.1<|x.1.map V.int)/\hA B (b.map (·.2.2))
def Dd(z B:V):List (Str×V):=il "table" B (il "p" z [])
noncomputable def w6(K:pv)(C:cS):Bool:=AS K C Str.empty && (PySem.W.hasDictIn K C && (PySem.W.plainOver K C && (rB K (.ref C) "__setattr__" == aI (aI (.builtin "object.__setattr__")) && (rB K (.ref C) "__class__" == aI (aI (.builtin "object.__class__")) &&
 (uo K (.builtin "object.__class__") "__get__" == aI (aI (.builtin "getset_descriptor.__get__")) && (PySem.W.takesIn K (.builtin "object.__class__")==aI cI && (rl K C (.type "object")==aI cI && ["int","bool","str","tuple","list"].all λt=>rA K (.ref C) (.type t)==aI dV)))))))
noncomputable def Cu(K:pv)(c:Str):Option cS:=match sY K n6 c with
 | some (aI (.ref C))=>if w6 K C=cI then aI C else bC
 | _=>bC
theorem kr{K:pv}{c:Str}{C:cS}(h:Cu K c=aI C):w6 K C=cI:=by
 unfold Cu at h;split at h
 ·split at h
  ·rename_i a;cases h;exact a
  ·cases h
 ·cases h
mutual
def Rep(K:pv)(H:Hp):D->V->Prop
 | .g8,v=>v = .g8
 | .bl b,v=>v = .bl b
 | .int i,v=>v = .int i
 | .str x,v=>v = .str x
 | .tup ds,v=>∃a d,v = .ref a/\i4 K H a d/\eS K H ds d
 | .lst ds,v=>∃a d,v = .ref a/\i2 K H a d/\eS K H ds d
 | .exc c n,v=>∃a,v = .ref a/\zj K H c n a
 | .n4 ks vs,v=>∃a d,v = .ref a/\CZ H a ks d/\eS K H vs d
 | .l6 ks vs,v=>∃a d,v = .ref a/\C3 K H a ks d/\eS K H vs d
 | .ins c p t,v=>∃a C e z B,v = .ref a/\Cu K c=aI C/\H a=aI (.ins C e<|Dd z B)/\Rep K H p z/\Rep K H t B
def eS(K:pv)(H:Hp):List D->List V->Prop
 | [],xs=>xs=[]
 | d::ds,xs=>∃x r,xs=x::r/\Rep K H d x/\eS K H ds r
end
theorem u3{K:pv}{H z:Hp}{a:cS}{xs:List V}(e:i1 H z)(h:i4 K H a xs):i4 K z a xs:=by
 rcases h with(h | ⟨o,h⟩) | h
 ·exact .inl<|.inl<|e _ _ h
 ·exact .inl<|.inr ⟨o,e _ _ h⟩
 ·exact .inr h
theorem wF{k:Sk}{K:pv}{H z:Hp}{a:cS}{xs:List V}(e:i1 H z)(h:o3 k K H a xs):o3 k K z a xs:=by
 cases k
 ·exact e.seq h
 ·exact u3 e h
mutual
theorem Rep.mono{K:pv}{H G:Hp}(e:i1 H G) : ∀{d:D} {v:V},Rep K H d v->Rep K G d v
 | .g8,_,h=>h
 | .bl _,_,h=>h
 | .int _,_,h=>h
 | .str _,_,h=>h
 | .tup ds,v,h=>by obtain⟨a,b,f,i,g⟩:=(show ∃a b,v = .ref a/\i4 K H a b/\eS K H ds b from h);exact(show ∃a b,v = .ref a/\i4 K G a b/\eS K G ds b from⟨a,b,f,u3 e i,eS.mono e g⟩)
 | .lst ds,v,h=>by obtain⟨a,b,f,i,g⟩:=(show ∃a b,v = .ref a/\i2 K H a b/\eS K H ds b from h);exact(show ∃a b,v = .ref a/\i2 K G a b/\eS K G ds b from⟨a,b,f,e.seq i,eS.mono e g⟩)
 | .exc c n,v,h=>by obtain⟨a,f,i⟩:=(show ∃a,v = .ref a/\zj K H c n a from h);exact(show ∃a,v = .ref a/\zj K G c n a from⟨a,f,i.mono e⟩)
 | .n4 ks vs,v,h=>by obtain⟨a,b,f,⟨m,I,g2,o,O⟩,g⟩:=(show ∃a b,v = .ref a/\CZ H a ks b/\eS K H vs b from h);exact(show ∃a b,v = .ref a/\CZ G a ks b/\eS K G vs b from⟨a,b,f,⟨m,I,g2,o,e _ _ O⟩,eS.mono e g⟩)
 | .l6 ks vs,v,h=>by obtain⟨a,b,f,⟨I,o,r,g2,O,R,U,g6,W⟩,g⟩:=(show ∃a b,v = .ref a/\C3 K H a ks b/\eS K H vs b from h);exact(show ∃a b,v = .ref a/\C3 K G a ks b/\eS K G vs b from⟨a,b,f,⟨I,o,r,e _ _ g2,O,R,U,λx l=>u3 e<|g6 x l,W⟩,eS.mono e g⟩)
 | .ins c p t,v,h=>by obtain⟨a,C,j,z,B,f,i,g,Y,k⟩:=(show ∃a C j z B,v = .ref a/\Cu K c=aI C/\H a=aI (.ins C j<|Dd z B)/\Rep K H p z/\Rep K H t B from h);exact(show ∃a C j z B,v = .ref a/\Cu K c=aI C/\G a=aI (.ins C j<|Dd z B)/\Rep K G p z/\Rep K G t B from⟨a,C,j,z,B,f,i,e _ _ g,Rep.mono e Y,Rep.mono e k⟩)
theorem eS.mono{K:pv}{H B:Hp}(e:i1 H B) : ∀{z:List D} {xs:List V},eS K H z xs->eS K B z xs
 | [],_,h=>h
 | d::z,xs,h=>by obtain⟨x,r,a,b,f⟩:=(show ∃x r,xs=x::r/\Rep K H d x/\eS K H z r from h);exact(show ∃x r,xs=x::r/\Rep K B d x/\eS K B z r from⟨x,r,a,Rep.mono e b,eS.mono e f⟩)
end
section
variable{K:pv}{H:Hp}
theorem eS.nil:eS K H [] []:=(show([]:List V)=[]from rfl)
theorem eS.cons(h:Rep K H d x)(t:eS K H ds xs):eS K H (d::ds) (x::xs):=⟨x,xs,rfl,h,t⟩
theorem eS.Bt(h:eS K H [] xs):xs=[]:=h
theorem eS.u9(h:eS K H (d::ds) xs) : ∃x r,xs=x::r/\Rep K H d x/\eS K H ds r:=h
theorem eS.length : ∀{z:List D} {xs:List V},eS K H z xs->xs.length=z.length
 | [],xs,h=>by rw[h.Bt];rfl
 | d::z,xs,h=>by obtain⟨x,r,e,_,t⟩:=h.u9;rw[e,Am,Am,eS.length t]
theorem eS.get : ∀{B:List D} {xs:List V} {i:Nat} {d:D},eS K H B xs->B[i]? = aI d->∃x,xs[i]? = aI x/\Rep K H d x
 | [],_,_,_,_,e=>by simp at e
 | c::B,xs,0,d,h,e=>by obtain⟨x,r,a,b,_⟩:=h.u9;simp at e;subst e;exact⟨x,by rw[a];rfl,b⟩
 | c::B,xs,i+1,d,h,e=>by obtain⟨x,r,a,_,t⟩:=h.u9;obtain⟨y,z,g2⟩:=eS.get (i:=i) (d:=d) t (by simpa using e);exact⟨y,by rw[a];simpa using z,g2⟩
theorem eS.DI{z:List D}{xs:List V}{i:Nat}{x:V}(h:eS K H z xs)(e:xs[i]? = aI x) : ∃d,z[i]? = aI d/\Rep K H d x:=by
 have b:i<z.length:=by rw[<- h.length];exact(pW.mp e).1
 obtain⟨y,a,r⟩:=h.get<|pC b;rw[e]at a;cases a;exact⟨_,pC b,r⟩
theorem eS.append : ∀{z B:List D} {xs G:List V},eS K H z xs->eS K H B G->eS K H (z++B) (xs++G)
 | [],_,xs,_,h,g=>by rw[h.Bt];exact g
 | d::z,B,xs,G,h,g=>by obtain⟨x,r,e,a,t⟩:=h.u9;rw[e];exact eS.cons a<|eS.append t g
theorem eS.drop : ∀{z:List D} {xs:List V} (n:Nat),eS K H z xs->eS K H (z.drop n) (xs.drop n)
 | _,_,0,h=>h
 | [],xs,n+1,h=>by rw[h.Bt];exact eS.nil
 | d::z,xs,n+1,h=>by obtain⟨x,r,e,_,t⟩:=h.u9;rw[e];exact eS.drop n t
theorem eS.take : ∀{z:List D} {xs:List V} (n:Nat),eS K H z xs->eS K H (z.take n) (xs.take n)
 | _,_,0,h=>by simp;exact eS.nil
 | [],xs,n+1,h=>by rw[h.Bt];exact eS.nil
 | d::z,xs,n+1,h=>by obtain⟨x,r,e,a,t⟩:=h.u9;rw[e];exact eS.cons a<|eS.take n t
theorem eS.set : ∀{z:List D} {xs:List V} {d:D} {x:V} (i:Nat),eS K H z xs->Rep K H d x->eS K H (z.set i d) (xs.set i x)
 | [],xs,_,_,_,h,_=>by rw[h.Bt];exact eS.nil
 | c::z,xs,d,x,0,h,g=>by obtain⟨y,r,e,_,t⟩:=h.u9;rw[e];exact eS.cons g t
 | c::z,xs,d,x,i+1,h,g=>by obtain⟨y,r,e,a,t⟩:=h.u9;rw[e];exact eS.cons a<|eS.set i t g
end
structure Ext(H0 H q5 H':Hp):Prop where
 s0:i1 H0 q5
 s1:i1 H H'
 sub:i1 q5 H'
 new : ∀a,H0 a=bC->H a≠bC->q5 a=bC
theorem Ext.refl(s:i1 H0 H):Ext H0 H H0 H:=⟨i1.refl _,i1.refl _,s,λ_ h _=>h⟩
theorem Ext.trans(a:Ext H0 H H1 G1)(b:Ext H1 G1 H2 G2):Ext H0 H H2 G2:=
 ⟨a.s0.trans b.s0,a.s1.trans b.s1,b.sub,λc e d=>b.new c (a.new c e d) (by
  cases q:H c with
  | none=>exact absurd q d
  | some o=>rw[a.s1 c o q];simp)⟩
theorem zY(h:H p=bC)(o:HO):i1 H (upd H p o):=λb u q=>by rw[zo (zD q h)];exact q
theorem jg(s:i1 H0 H)(h:H p=bC):H0 p=bC:=s.free h
theorem QH(s:i1 H0 H):i1 (upd H0 p o) (upd H p o):=λb u q=>by
 by_cases e:b=p
 ·subst e;rw[zq]at q ⊢;exact q
 ·rw[zo e]at q ⊢;exact s b u q
theorem Ext.alloc(s:i1 H0 H)(h:H p=bC)(o:HO):Ext H0 H (upd H0 p o) (upd H p o):=
 ⟨zY (jg s h) o,zY h o,QH s,λa b d=>by rw[zo (λe=>d<|by rw[e];exact h)];exact b⟩
theorem Ext.hide(s:i1 H0 H)(h:H p=bC)(o:HO):Ext H0 H H0 (upd H p o):=
 ⟨i1.refl _,zY h o,s.trans<|zY h o,λa b _=>b⟩
theorem Ext.show(e:Ext H0 H q5 H')(G:H a=bC)(J:q5 a=bC)(I:H' a=aI o)(s:i1 H0 H):Ext H0 H (upd q5 a o) H':=
 ⟨e.s0.trans<|zY J o,e.s1,λb u q=>by
  by_cases z:b=a
  ·subst z;rw[zq]at q;rw[I];exact q
  ·rw[zo z]at q;exact e.sub b u q,λb O B=>by
  rw[zo (λz=>B<|by rw[z];exact G)];exact e.new b O B⟩
structure Ck(K:pv)(H0 H:Hp)(rows:List (List D))(a:cS)(bs:List cS):Prop where
 a0:H0 a=bC
 ha:H a=aI (.lst<|bs.map V.ref)
 nd:(a::bs).Nodup
 len:bs.length=rows.length
 row : ∀(k:Nat) b row,bs[k]? = aI b->rows[k]? = aI row->H0 b=bC/\∃xs,H b=aI (.lst xs)/\eS K H0 row xs
theorem Ck.at{K:pv}{H0 H:Hp}{rows:List (List D)}{a:cS}{bs:List cS}(n:Ck K H0 H rows a bs){b:cS}(z:b∈a::bs):H0 b=bC/\∃xs,H b=aI (.lst xs):=by
 rcases pM.mp z with rfl | z
 ·exact⟨n.a0,_,n.ha⟩
 ·obtain⟨k,d⟩:=List.getElem?_of_mem z
  have B:=(pW.mp d).1;rw[n.len]at B;obtain⟨e,xs,f,_⟩:=n.row k b _ d<|pC B;exact⟨e,xs,f⟩
theorem Ck.move{K:pv}{H0 H G J:Hp}{rows:List (List D)}{a:cS}{bs:List cS}(n:Ck K H0 H rows a bs)(s:i1 H0 G)(L : ∀b∈a::bs,G b=bC)(h : ∀b∈a::bs,J b=H b):Ck K G J rows a bs:=
 ⟨L a rh,by rw[h a rh];exact n.ha,n.nd,n.len,λk b row d B=>by obtain⟨_,f,e,I⟩:=n.row k b row d B;have z:b∈a::bs:=pT _<|sL d;exact⟨L b z,f,by rw[h b z];exact e,I.mono s⟩⟩
noncomputable def u6(K:pv)(H0 H:Hp)(G:St)(γ:Ctx):Prop:=
 (∀(i:Nat) b,γ[i]? = aI (.nest b)->∃a bs,G[i]? = aI (aI (.ref a))/\Ck K H0 H b a bs/\∀(j:Nat) d c,γ[j]? = aI (.own d)->G[j]? = aI (aI (.ref c))->c∉a::bs)/\
 ∀(i j:Nat) z B,γ[i]? = aI (.nest z)->γ[j]? = aI (.nest B)->i=j
theorem u6.DM{K:pv}{H0 H:Hp}{G:St}{γ:Ctx}(h : ∀(i:Nat) rows,γ[i]? ≠ aI (.nest rows)):u6 K H0 H G γ:=⟨λi rows e=>absurd e<|h i rows,λi j z B e=>absurd e<|h i z⟩
theorem u6.move{K:pv}{H0 H G J:Hp}{I:St}{γ:Ctx}(n:u6 K H0 H I γ)(s:i1 H0 G)(h : ∀(i:Nat) rows a bs,γ[i]? = aI (.nest rows)->I[i]? = aI (aI (.ref a))->Ck K H0 H rows a bs->(∀(j:Nat) L c,γ[j]? = aI (.own L)->I[j]? = aI (aI (.ref c))->c∉a::bs)->∀b∈a::bs,G b=bC/\J b=H b):u6 K G J I γ:=
 ⟨λi rows e=>by obtain⟨a,bs,d,f,z⟩:=n.1 i rows e;exact⟨a,bs,d,f.move s (λb B=>(h i rows a bs e d f z b B).1)<|λb B=>(h i rows a bs e d f z b B).2,z⟩,n.2⟩
theorem u6.ext{K:pv}{H0 H G I:Hp}{J:St}{γ:Ctx}(n:u6 K H0 H J γ)(e:Ext H0 H G I):u6 K G I J γ:=
 n.move e.s0 λi d a bs _ _ f _ b z=>by obtain⟨B,g,g2⟩:=f.at z;exact⟨e.new b B (by rw[g2];simp),by rw[e.s1 b _ g2,g2]⟩
structure RC(K:pv)(H0 H:Hp)(σ:St)(γ:Ctx):Prop where
 sub:i1 H0 H
 len:σ.length=γ.length
 val : ∀(i:Nat) d,γ[i]? = aI (.val d)->∃v,σ[i]? = aI (aI v)/\Rep K H0 d v
 own : ∀(i:Nat) ds,γ[i]? = aI (.own ds)->∃a xs,σ[i]? = aI (aI (.ref a))/\H0 a=bC/\H a=aI (.lst xs)/\eS K H0 ds xs
 ne : ∀(i j:Nat) a ds es,γ[i]? = aI (.own ds)->γ[j]? = aI (.own es)->σ[i]? = aI (aI (.ref a))->σ[j]? = aI (aI (.ref a))->i=j
 A3:u6 K H0 H σ γ
theorem RC.ext{K:pv}{H0 H G I:Hp}{J:St}{γ:Ctx}(r:RC K H0 H J γ)(e:Ext H0 H G I):RC K G I J γ:=
 ⟨e.sub,r.len,λi d h=>let ⟨v,b,f⟩:=r.val i d h;⟨v,b,f.mono e.s0⟩,
  λi g h=>let ⟨a,j,b,f,z,B⟩:=r.own i g h;⟨a,j,b,e.new a f (by rw[z];simp),e.s1 _ _ z,B.mono e.s0⟩,r.ne,r.A3.ext e⟩
noncomputable def tV(K:pv)(f:CO D):TE:=λh H Q=>∃e g d,RC K e H h g/\f g=aI d/\∀v b a,Ext e H a b->Rep K a d v->Q v b
noncomputable def tQ(K:pv)(f:CO (Sk×List D)):TE:=λj H Q=>∃g i k h,RC K g H j i/\f i=aI (k,h)/\∀a e d b,Ext g H b d->o3 k K d a e->(k = .T->i4 K b a e)->eS K b h e->Q (.ref a) d
noncomputable def tO(K:pv)(f:CO (List D)):TE:=λj H Q=>∃e i g,RC K e H j i/\f i=aI g/\
 ∀a h d b,Ext e H b d->H a=bC->b a=bC->d a=aI (.lst h)->eS K b g h->Q (.ref a) d
noncomputable def tT(K:pv)(f:CO Bool):TT:=λh H Q=>∃e g b,RC K e H h g/\f g=aI b/\∀d a,Ext e H a d->Q b d
noncomputable def tA(K:pv)(f:CO (List D)):TA:=λi H Q=>∃d h e,RC K d H i h/\f h=aI e/\∀g b a,Ext d H a b->eS K a e g->Q g b
abbrev PV(X:Cx)(e:f6)(f:CO D):Prop:=PE X e (tV X.K f)
abbrev PQ(X:Cx)(e:f6)(f:CO (Sk×List D)):Prop:=PE X e (tQ X.K f)
abbrev PO(X:Cx)(e:f6)(f:CO (List D)):Prop:=PE X e (tO X.K f)
abbrev oI(X:Cx)(e:f6)(f:CO Bool):Prop:=PT X e (tT X.K f)
abbrev Cm(X:Cx)(e:f6)(f:CO Bool):Prop:=PW X e (tT X.K f)
abbrev BN(X:Cx)(es:List f6)(f:CO (List D)):Prop:=PA X es (tA X.K f)
theorem jK(h:PE X e t)(i : ∀z H Q,t' z H Q->t z H Q):PE X e t':=λa s z H Q I q=>h a s z H Q I<|i z H Q q
theorem J0(h:PT X e t)(i : ∀z H Q,t' z H Q->t z H Q):PT X e t':=λa s z H Q I q=>h a s z H Q I<|i z H Q q
theorem bD(h:PW X e t)(i : ∀B H Q,t' B H Q->t B H Q):PW X e t':=λz a s B H Q I q=>h z a s B H Q I<|i B H Q q
theorem cm(h:PA X es t)(i : ∀z H Q,t' z H Q->t z H Q):PA X es t':=λpos a s z H Q I q=>h pos a s z H Q I<|i z H Q q
theorem kg{X:Cx}{st:h9}{t t':TS}(h:PS X st t)(i : ∀D z H,t' D z H->t D z H):PS X st t':=λa s z H D I q=>h a s z H D I<|i D z H q
theorem Vq{X:Cx}{st:List h9}{t t':TS}(h:q7 X st t)(i : ∀D z H,t' D z H->t D z H):q7 X st t':=λa s z H D I q=>h a s z H D I<|i D z H q
theorem Xd(h:PI X tg e t)(i : ∀z H R,t' z H R->t z H R):PI X tg e t':=λa s z H R I q=>h a s z H R I<|i z H R q
theorem xu(h:n<=lim):n<=i6:=rV h ⋯
section
variable{X:Cx}{e a b c:f6}{pos:g9}
theorem PV.q(h:PV X e f):PQ X e (jk f):=jK h λs H Q R=>by
 obtain⟨p,o,k,i,rc,B,q⟩:=R;unfold jk at B;cases e1:f o with
 | none=>rw[e1]at B;cases B
 | some d=>
  rw[e1]at B;refine⟨p,o,d,rc,e1,λv n b ext r=>?_⟩;cases d with
  | tup l=>
   obtain⟨I,O⟩:k = .T/\i=l:=by simp[qg]at B;exact⟨B.1.symm,B.2.symm⟩
   subst I O;obtain⟨a,g,rfl,j,m⟩:=(show ∃a g,v = .ref a/\i4 X.K b a g/\eS X.K b i g from r);exact q a g n b ext (u3 ext.sub j) (λ_=>j) m
  | lst l=>
   obtain⟨I,O⟩:k = .L/\i=l:=by simp[qg]at B;exact⟨B.1.symm,B.2.symm⟩
   subst I O;obtain⟨a,g,rfl,j,m⟩:=(show ∃a g,v = .ref a/\i2 X.K b a g/\eS X.K b i g from r);exact q a g n b ext (ext.sub.seq j) (λz=>nomatch z) m
  | _=>simp[qg]at B
theorem PO.v(h:PO X e f):PV X e (qI f):=jK h λo H Q O=>by
 obtain⟨j,i,d,rc,z,q⟩:=O;unfold qI at z;cases e1:f i with
 | none=>rw[e1]at z;cases z
 | some b=>
  rw[e1]at z;cases z;refine⟨j,i,b,rc,e1,λa m n k ext l g R r=>?_⟩;exact q _ _ _ (ext.show l g R rc.sub) (show ∃B I,V.ref a = .ref B/\i2 X.K _ B I/\eS X.K _ b I from⟨a,m,rfl,i2.of zq,r.mono<|zY g _⟩)
theorem PO.q(h:PO X e f):PQ X e (zU f):=jK h λp H Q I=>by
 obtain⟨i,d,k,l,rc,B,q⟩:=I;unfold zU at B;cases e1:f d with
 | none=>rw[e1]at B;cases B
 | some m=>
  rw[e1]at B;cases B;exact⟨i,d,_,rc,e1,λa j g b ext n o O r=>q a j g b ext (i2.of O) (λz=>nomatch z) r⟩
theorem Vl(i:Nat)(h:PE X e (KP i)):PV X e (zl i):=jK h λm H Q B=>by
 obtain⟨b,j,d,rc,z,q⟩:=B;unfold zl at z;cases e1:j[i]? with
 | none=>rw[e1]at z;cases z
 | some c=>
  rw[e1]at z;cases c with
  | val k=>
   cases z;obtain⟨v,f,g⟩:=rc.val i d e1;exact⟨v,f,q v H b (Ext.refl rc.sub) g⟩
  | no=>cases z
  | own l=>cases z
  | nest a=>cases z
theorem bK(i:Nat)(h:PE X e (KP i)):PQ X e (ze i):=jK h λp H Q U=>by
 obtain⟨f,o,k,g,rc,B,q⟩:=U;unfold ze at B;cases e1:o[i]? with
 | none=>rw[e1]at B;cases B
 | some c=>
  rw[e1]at B;cases c with
  | no=>cases B
  | nest n=>cases B
  | own j=>
   cases B;obtain⟨a,b,l,m,W,Y⟩:=rc.own i g e1;exact⟨_,l,q a b H f (Ext.refl rc.sub) (i2.of W) (λz=>nomatch z) Y⟩
  | val d=>
   obtain⟨v,l,m⟩:=rc.val i d e1;refine⟨v,l,?_⟩;cases d with
   | tup j=>
    obtain⟨O,R⟩:k = .T/\g=j:=by simp[kO,qg]at B;exact⟨B.1.symm,B.2.symm⟩
    subst O R;obtain⟨a,b,rfl,I,g2⟩:=(show ∃a b,v = .ref a/\i4 X.K f a b/\eS X.K f g b from m);exact q a b H f (Ext.refl rc.sub) (u3 rc.sub I) (λ_=>I) g2
   | lst j=>
    obtain⟨O,R⟩:k = .L/\g=j:=by simp[kO,qg]at B;exact⟨B.1.symm,B.2.symm⟩
    subst O R;obtain⟨a,b,rfl,I,g2⟩:=(show ∃a b,v = .ref a/\i2 X.K f a b/\eS X.K f g b from m);exact q a b H f (Ext.refl rc.sub) (rc.sub.seq I) (λz=>nomatch z) g2
   | _=>simp[kO,qg]at B
theorem yj(h:PE X e (tC v))(r : ∀H,Rep X.K H d v):PV X e (zh d):=jK h λg H Q z=>by obtain⟨a,f,b,rc,B,q⟩:=z;cases B;exact q v H a (Ext.refl rc.sub)<|r a
theorem zd:PV X (.Constant (.int i) j pos) (zh<|.int i):=yj cb λ_=>(show V.int i = .int i from rfl)
theorem ya:PV X (.Constant (.bool x) j pos) (zh<|.bl x):=yj iz λ_=>(show V.bl x = .bl x from rfl)
theorem Q0:PV X (.Constant .none j pos) (zh .g8):=yj bX λ_=>(show V.g8 = .g8 from rfl)
theorem zR:PV X (.Constant (.str x) j pos) (zh<|.str x):=yj bT λ_=>(show V.str x = .str x from rfl)
noncomputable def ov(K:pv)(r:R2)(F:D->D->Option D):Prop:=∀b H x y f z d Q,i1 b H->Rep K b f x->Rep K b z y->F f z=aI d->(∀v e a,Ext b H a e->Rep K a d v->Q v e)->r x y H Q
theorem zc(h:o.bind f=aI y) : ∃x,o=aI x/\f x=aI y:=by
 cases o with
 | none=>cases h
 | some x=>exact⟨x,rfl,h⟩
theorem ZJ{K:pv}{r:R2}{F:D->D->Option D}{J L:CO D}(hs:ov K r F) : ∀G H Q,tV K (zt F J L) G H Q->Ds r (tV K J) (tV K L) G H Q:=λG H Q I=>by obtain⟨g,e,d,rc,z,q⟩:=I;obtain⟨x,i,z⟩:=zc z;obtain⟨y,O,z⟩:=zc z;refine⟨g,e,x,rc,i,λR l b x1 U=>⟨b,e,y,rc.ext x1,O,λW h Y B j=>?_⟩⟩;exact hs Y h R W x y d Q B.sub (U.mono B.s0) j z λv f a x3 k=>q v f a (x1.trans<|B.trans x3) k
theorem vq(z:jn X (BB op) r)(hs:ov X.K r F)(G:PV X a fa)(B:PV X b fb):PV X (.BinOp a op b pos) (zt F fa fb):=
 jK (bU z G B) (ZJ hs)
theorem Jh(z:jn X (o9 op) r)(hs:ov X.K r F)(G:PV X a fa)(B:PV X b fb)(H:B8 op b=dV):PV X (.Compare a [op] [b] pos) (zt F fa fb):=
 jK (Xg z G B H) (ZJ hs)
theorem kB{d:D}{b:Bool}(h:BP d=aI b):d = .bl b:=by cases d<;>simp[BP]at h;rw[h]
theorem yA(B:jn X (o9 op) r)(hs:ov X.K r F)(G:PV X a fa)(I:PV X b fb)(J:B8 op b=dV):oI X (.Compare a [op] [b] pos) (sB<|zt F fa fb):=
 J0 (ZE B G I J) λj H Q O=>by obtain⟨g,i,k,rc,z,q⟩:=O;obtain⟨d,h,z⟩:=zc z;refine ZJ hs j H _ ⟨g,i,d,rc,h,λv f e x r=>?_⟩;rw[kB z]at r;exact⟨k,r,q f e x⟩
theorem zF{f:CO D}(h:PV X e f)(I : ∀B,De e X.env B=(do let v <- B;CT e.pos;Cs [v] (truthy v)):=by intro _;rfl):oI X e (sB f):=
 J0 (bG h I) λl H Q O=>by obtain⟨g,j,k,rc,z,q⟩:=O;obtain⟨d,i,z⟩:=zc z;refine⟨g,j,d,rc,i,λv b a x r=>?_⟩;rw[kB z]at r;exact⟨k,r,q b a x⟩
theorem Yj(h:oI X a f):Cm X (.BoolOp .And [a] pos) f:=Ws h
theorem ji(h:oI X a f):Cm X (.BoolOp .Or [a] pos) f:=bA h
theorem Wq{f g:CO Bool}{rest:List f6}(G:oI X a f)(B:Cm X (.BoolOp .And (b::rest) pos) g):Cm X (.BoolOp .And (a::b::rest) pos) (Wg f g):=
 bD (bB G B) λm H Q I=>by
  obtain⟨i,e,k,rc,z,q⟩:=I;obtain⟨c,l,z⟩:=zc z;refine⟨i,e,c,rc,l,λh d x=>?_⟩;cases c with
  | true=>rw[GY rfl]at z ⊢;exact⟨d,e,k,rc.ext x,z,λj O R=>q j O<|x.trans R⟩
  | false=>rw[MQ pQ]at z ⊢;cases z;exact q h d x
theorem je{f g:CO Bool}{rest:List f6}(G:oI X a f)(B:Cm X (.BoolOp .Or (b::rest) pos) g):Cm X (.BoolOp .Or (a::b::rest) pos) (qo f g):=
 bD (ia G B) λm H Q I=>by
  obtain⟨i,e,k,rc,z,q⟩:=I;obtain⟨c,l,z⟩:=zc z;refine⟨i,e,c,rc,l,λh d x=>?_⟩;cases c with
  | true=>rw[GY rfl]at z ⊢;cases z;exact q h d x
  | false=>rw[MQ pQ]at z ⊢;exact⟨d,e,k,rc.ext x,z,λj O R=>q j O<|x.trans R⟩
theorem zG(G:oI X a f):oI X (.UnaryOp .Not a pos) (zN f):=
 J0 (bH G) λh H Q B=>by
  obtain⟨g,d,k,rc,z,q⟩:=B;unfold zN at z;cases e1:f d with
  | none=>rw[e1]at z;cases z
  | some c=>rw[e1]at z;cases z;exact⟨g,d,c,rc,e1,λe b x=>q e b x⟩
theorem qN(h:Cm X e f):oI X e f:=h.pt
theorem qZ(h:PV X a f):PV X (.BoolOp op [a] pos) f:=bV h
theorem xk{f g:CO D}{rest:List f6}(G:PV X a f)(B:PV X (.BoolOp .And (b::rest) pos) g):PV X (.BoolOp .And (a::b::rest) pos) (Zm f g):=
 jK (cg G B) λn H Q I=>by
  obtain⟨k,i,d,rc,z,q⟩:=I;obtain⟨c,h,z⟩:=zc z;obtain⟨O,R,h⟩:=zc h;refine⟨k,i,O,rc,R,λv j e x r=>?_⟩;rw[kB h]at r;refine⟨c,r,?_⟩;cases c with
  | true=>rw[GY rfl]at z ⊢;exact⟨e,i,d,rc.ext x,z,λU l W Y m=>q U l W (x.trans Y) m⟩
  | false=>rw[MQ pQ]at z ⊢;cases z;exact q _ j e x (show V.bl dV = .bl dV from rfl)
theorem ib{f g:CO D}{rest:List f6}(G:PV X a f)(B:PV X (.BoolOp .Or (b::rest) pos) g):PV X (.BoolOp .Or (a::b::rest) pos) (Em f g):=
 jK (iw G B) λn H Q I=>by
  obtain⟨k,i,d,rc,z,q⟩:=I;obtain⟨c,h,z⟩:=zc z;obtain⟨O,R,h⟩:=zc h;refine⟨k,i,O,rc,R,λv j e x r=>?_⟩;rw[kB h]at r;refine⟨c,r,?_⟩;cases c with
  | true=>rw[GY rfl]at z ⊢;cases z;exact q _ j e x (show V.bl cI = .bl cI from rfl)
  | false=>rw[MQ pQ]at z ⊢;exact⟨e,i,d,rc.ext x,z,λU l W Y m=>q U l W (x.trans Y) m⟩
theorem Vn(G:PV X a f):PV X (.UnaryOp .Not a pos) (eD f):=
 jK (bW G) λi H Q I=>by
  obtain⟨h,e,d,rc,z,q⟩:=I;unfold eD at z;cases e1:f e with
  | none=>rw[e1]at z;cases z
  | some B=>
   rw[e1]at z;refine⟨h,e,B,rc,e1,λv g b x r=>?_⟩;cases B with
   | bl c=>cases z;exact⟨c,r,q _ g b x<|show V.bl (!c) = .bl (!c)from rfl⟩
   | _=>cases z
theorem Jg(J:oI X c k)(G:PV X a f)(U:PV X b g):PV X (.IfExp c a b pos) (eK k f g):=
 jK (Yy J G U) λn H Q W=>by
  obtain⟨j,i,d,rc,z,q⟩:=W;obtain⟨t,l,z⟩:=zc z;refine⟨j,i,t,rc,l,λm e x=>?_⟩;cases t with
  | true=>rw[GY rfl]at z ⊢;exact⟨e,i,d,rc.ext x,z,λB h I O R=>q B h I (x.trans O) R⟩
  | false=>rw[MQ pQ]at z ⊢;exact⟨e,i,d,rc.ext x,z,λB h I O R=>q B h I (x.trans O) R⟩
theorem Xj:BN X [] zB:=cm qB λe H Q z=>by obtain⟨a,d,b,rc,B,q⟩:=z;cases B;exact q [] H a (Ext.refl rc.sub) eS.nil
theorem j3(G:PV X e f)(O:BN X es g)(hs:hX (e::es) X.env=(dV,fk e X.env)::hX es X.env:=by rfl):BN X (e::es) (zb f g):=
 cm (jH G O hs) λm H Q R=>by
  obtain⟨d,b,l,rc,z,q⟩:=R;obtain⟨x,i,z⟩:=zc z;cases B:g b with
  | none=>rw[B]at z;cases z
  | some r=>
   rw[B]at z;cases z;exact⟨d,b,x,rc,i,λv k a x1 U=>⟨a,b,r,rc.ext x1,B,λj h W I Y=>q (v::j) h W (x1.trans I)<|eS.cons (U.mono I.s0) Y⟩⟩
theorem qc(h:BN X es f):PV X (.Tuple es x1 pos) (xQ f):=
 jK (bS h) λn H Q R=>by
  obtain⟨g,l,d,rc,z,q⟩:=R;obtain⟨b,j,z⟩:=zc z;by_cases B:b.length<=lim
  ·rw[GY B]at z;cases z
   refine⟨g,l,b,rc,j,λk m i x1 I=>⟨xu (by rw[I.length];exact B),λp O=>?_⟩⟩;exact q _ _ _ (x1.trans<|Ext.alloc x1.sub O _) (show ∃a e,V.ref p = .ref a/\i4 X.K _ a e/\eS X.K _ b e from⟨p,k,rfl,i4.of zq,I.mono<|zY (jg x1.sub O) _⟩)
  ·rw[MQ B]at z;cases z
theorem jh(h:BN X es f):PO X (.List es pos) (jF f):=
 jK (bY h) λl H Q U=>by
  obtain⟨b,j,d,rc,B,q⟩:=U;obtain⟨e,g,B⟩:=zc B;by_cases O:e.length<=lim
  ·rw[GY O]at B;cases B
   refine⟨b,j,_,rc,g,λi k a x1 R=>⟨xu (by rw[R.length];exact O),λp I=>?_⟩⟩;exact q p i _ a (x1.trans<|Ext.hide x1.sub I _) (by
    cases z:H p with
    | none=>rfl
    | some o=>rw[x1.s1 p o z]at I;cases I) (jg x1.sub I) zq R
  ·rw[MQ O]at B;cases B
end
noncomputable def pb(i:Nat)(f:CO D)(γ:Ctx):Option D:=(qw γ[i]?).bind λa=>(f<|γ.set i<|.val<|.lst a).bind λd=>if iT d=cI then aI d else bC
noncomputable def ot(i:Nat)(f:CO Bool)(γ:Ctx):Option Bool:=(qw γ[i]?).bind λa=>f<|γ.set i<|.val<|.lst a
noncomputable def mx(i:Nat)(γ:Ctx):Option Fl:=(qw γ[i]?).map λ_=> .next (γ.set i<|.own [])
noncomputable def yM(z:List D):List D:=(pK z.length).map λ(i:Nat)=>D.tup [.int i,z[i]?.getD .g8]
noncomputable def oi(f:CO D)(γ:Ctx):Option (List D):=(f γ).bind λd=>match d with
 | .tup a=>aI (yM a)
 | _=>bC
noncomputable def kL:List D->Option (List Int)
 | []=>aI []
 | .int i::r=>(kL r).map λl=>i::l
 | _::_=>bC
noncomputable def mm(f:CO D)(g:CO (Sk×List D))(γ:Ctx):Option D:=(f γ).bind λd=>(g γ).bind λa=>(m9 d).bind λi=>(kL a.2).map λl=> .bl (decide<|i∈l)
noncomputable def XX(k:Int):List Int->Option Nat
 | []=>bC
 | i::r=>if i=k then aI 0 else (XX k r).map (· + 1)
noncomputable def oY(f g:CO D)(γ:Ctx):Option D:=(f γ).bind λd=>((g γ).bind m9).bind λk=>match d with
 | .tup a=>(kL a).bind λl=>(XX k l).map λ(j:Nat)=>D.int (j:Int)
 | _=>bC
noncomputable def X9(T:Tg)(f:CO (List D))(γ:Ctx):List D->Option (List<|List D)
 | []=>aI []
 | d::ds=>(qR T d γ).bind λz=>(f z).bind λe=>(X9 T f γ ds).map λr=>e::r
noncomputable def mw(z:CO (List D))(T:Tg)(n:Nat)(fr:List Nat)(f:CO (List D))(γ:Ctx):Option (List<|List D):=(z γ).bind λa=>if a.length<=lim then X9 T f (qu n fr γ) a else bC
noncomputable def we:Option Cell->Option (List<|List D)
 | some (.nest rows)=>aI rows
 | _=>bC
noncomputable def Vi(γ:Ctx)(j i:Nat)(r:List D):Ctx:=(γ.set j .no).set i (.own r)
noncomputable def Ju(j i:Nat)(g f:CO D)(γ:Ctx):List (List D)->Option (List<|List D)
 | []=>aI []
 | r::rs=>(f<|Vi γ j i r).bind λd=>((g<|Vi γ j i r).bind m9).bind λk=>(i9 r.length k).bind λm=>(Ju j i g f γ rs).map λt=>r.set m d::t
noncomputable def gQ(j i:Nat)(g f:CO D)(γ:Ctx):Option Fl:=(we γ[j]?).bind λa=>if i=j\/γ.length<=i then bC else (Ju j i g f γ a).map λz=> .next ((γ.set j<|.nest z).set i .no)
noncomputable def mn(i:Nat)(F:CO Fl)(γ:Ctx):Option Fl:=(qw γ[i]?).bind λa=>F<|γ.set i<|.val<|.lst a
noncomputable def oh(i:Nat)(F:CO Fl)(γ:Ctx):Option Fl:=(we γ[i]?).bind λa=>F<|γ.set i<|.val<|.lst<|a.map D.lst
noncomputable def mj(is:List Nat)(f:CO D)(γ:Ctx):Option Fl:=(f γ).bind λd=>match d with
 | .lst a=>if a.length=is.length then aI (.next<|jW is a γ)else bC
 | _=>bC
noncomputable def JO:List D->Option (List Str)
 | []=>aI []
 | .str x::r=>(JO r).map λl=>x::l
 | _::_=>bC
def qb(x:Str):Bool:=decide<|x.length<=1000
noncomputable def nX(f:CO D)(g:CO (Sk×List D))(γ:Ctx):Option D:=(f γ).bind λd=>(g γ).bind λa=>match d,a.1 with
 | .str sep,.L=>(JO a.2).bind λl=>if l.length<=lim/\l.all qb=cI/\qb sep=cI then aI (.str<|Str.join sep l)else bC
 | _,_=>bC
noncomputable def yv(f g:CO D)(γ:Ctx):Option D:=(f γ).bind λd=>((g γ).bind m9).bind λi=>match d with
 | .str z=>if qb z=cI then (i9 z.cps.toList.length i).bind λk=>z.cps.toList[k]?.map λc=> .str ⟨#[c]⟩else bC
 | _=>bC
noncomputable def bf(f:CO D)(γ:Ctx):Option D:=(f γ).bind λd=>match d with
 | .str z=>if qb z=cI then aI (.int z.length)else bC
 | _=>bC
noncomputable def om(k1 z k2 B:Str)(f:CO D)(γ:Ctx):Option D:=(f γ).bind λd=>match d with
 | .str x=>if k1=k2 then bC else if x=k1 then aI (.str z)else if x=k2 then aI (.str B)else bC
 | _=>bC
noncomputable def gO(f g:CO D)(γ:Ctx):Option D:=((f γ).bind m9).bind λi=>((g γ).bind m9).map λj=> .int (if j<i then j else i)
abbrev Xn:=Str×Option Int
def t7:CO Xn:=λ_=>bC
def Z3(c:Str):CO Xn:=λ_=>aI (c,bC)
noncomputable def VX(c:Str)(f:CO D):CO Xn:=λa=>((f a).bind m9).bind λi=>if inR i=cI then aI (c,aI i)else bC
noncomputable def o8(k:CO Bool)(G H:CO Xn):CO Xn:=λa=>(k a).bind λb=>if b=cI then G a else H a
noncomputable def wq(G:CO Xn)(F:CO Fl)(H:CO Xn):CO Xn:=λb=>match G b with
 | some c=>aI c
 | none=>(F b).bind λz=>match z with
  | .next a=>H a
  | _=>bC
noncomputable def vL(G:List D->Option Xn)(g:CO (List D)):CO Xn:=λa=>(g a).bind G
def Wh(n:Nat)(G:CO Xn)(z:List D):Option Xn:=G<|jB n z
noncomputable def ez(i e j:Nat)(F:List D->Option Res)(G:List D->Option Xn)(g:CO (List D)):CO Fl:=λa=>(g a).bind λb=>match G b with
 | some c=>aI (.next<|(a.set j<|.val<|.exc c.1 c.2).set e .no)
 | none=>(F b).map λr=> .next (a.set i<|.val<|Vj r)
noncomputable def Jb(c:Str)(f:CO D):CO D:=λa=>(f a).bind λd=>match d with
 | .exc z _=>aI (.bl<|z==c)
 | _=>bC
noncomputable def bj(f:CO D):CO D:=λa=>(f a).bind λd=>match d with
 | .exc _ _=>aI (.bl cI)
 | _=>bC
noncomputable def kF(c:Str):Str:=if c==("NoRoom" : Str)then "room" else "at"
noncomputable def eL(nm:Str)(f:CO D):CO D:=λa=>(f a).bind λd=>match d with
 | .exc c (aI n)=>if (kF c==nm)=cI then aI (.int n)else bC
 | _=>bC
noncomputable def vS(f:CO D)(g:CO (Sk×List D)):CO D:=λb=>(f b).bind λd=>(g b).bind λa=>(m9 d).bind λi=>(kL a.2).map λl=> .bl (!decide (i∈l))
end DL
namespace DL
open PySem L2
open PySem.W (KasT kas_sort)
def QD(z:Str):List D:=z.cps.toList.map λc=>D.str ⟨#[c]⟩
noncomputable def ba(f:CO D)(γ:Ctx):Option (List D):=(f γ).bind λd=>match d with
 | .str z=>if qb z=cI then aI (QD z)else bC
 | _=>bC
noncomputable def Vh(f:CO D)(γ:Ctx):Option (List D):=(f γ).bind λd=>match d with
 | .str z=>if qb z=cI then aI (yM<|QD z)else bC
 | _=>bC
noncomputable def yw(f:CO D)(γ:Ctx):Option (List D):=(f γ).bind λd=>match d with
 | .lst a=>aI (yM a)
 | _=>bC
noncomputable def nZ(f:CO D)(g:CO (Sk×List D))(γ:Ctx):Option D:=(f γ).bind λd=>(g γ).bind λa=>match d with
 | .str x=>(JO a.2).map λl=> .bl (l.any λy=>y==x)
 | _=>bC
noncomputable def gR(f g:CO D)(γ:Ctx):Option D:=(f γ).bind λd=>(g γ).bind λe=>match d,e with
 | .str x,.str y=>if qb x=cI/\qb y=cI then aI (.str<|x++y)else bC
 | _,_=>bC
noncomputable def oW(f:CO D)(l h:CO (Option Int))(γ:Ctx):Option D:=(f γ).bind λd=>(l γ).bind λlo=>(h γ).bind λa=>match d with
 | .str z=>if qb z=cI then aI (.str<|Txt.slice z lo a)else bC
 | _=>bC
noncomputable def eJ(f:CO (Sk×List D))(γ:Ctx):Option (List D):=(f γ).bind λa=>match a.1 with
 | .L=>if a.2.length<=lim then aI a.2.reverse else bC
 | _=>bC
noncomputable def iA:D->Option (Int×Int)
 | .tup [.int a,.int b]=>aI (a,b)
 | _=>bC
noncomputable def Vt:List D->Option (List<|Int×Int)
 | []=>aI []
 | d::r=>(iA d).bind λp=>(Vt r).map λl=>p::l
noncomputable def oE(x y:Int×Int):Bool:=if x.1=y.1 then decide (x.2<y.2)else decide (x.1<y.1)
noncomputable def mz{z:Type}(lt:Nat->Nat->Bool):KasT z->z
 | .ret a=>a
 | .ask i j k=>mz lt<|k<|lt i j
noncomputable def bR(z:List (Int×Int)):List Nat:=if z.length<2 then pK z.length else (mz (λi j=>oE (z.getD i (0,0))<|z.getD j (0,0))<|kas_sort z.length).toList
noncomputable def gG(z:List D):Option (List D):=(Vt z).bind λa=>if z.length<64 then aI ((bR a).map λi=>z.getD i .g8)else bC
noncomputable def bc(f:CO (Sk×List D))(γ:Ctx):Option (List D):=(f γ).bind λa=>match a.1 with
 | .L=>gG a.2
 | _=>bC
end DL
namespace DL
open PySem L2
noncomputable def Wf(i:Nat)(f:CO (List D))(γ:Ctx):Option Fl:=(qw γ[i]?).bind λa=>(f γ).bind λb=>if a.length+b.length<=lim then aI (.next<|γ.set i<|.own<|a++b)else bC
noncomputable def my(F G:List D->Option Res)(g:CO (List D))(γ:Ctx):Option (List D):=(g γ).bind λl=>match l with
 | [p,.str z,t,b]=>((if z=("r" : Str)then F else G) [p,t,b]).bind gW
 | _=>bC
noncomputable def XG:List D->Option (List Int)
 | []=>aI []
 | .int i::r=>(XG r).map λl=>i::l
 | _::_=>bC
noncomputable def iX(z B:List D):Option D:=match XG z with
 | some a=>if z.length=B.length/\a.Nodup/\z.length<=lim then aI (.n4 z B)else bC
 | none=>bC
open PySem.Spec PyProof.Rows
structure RS(K:pv)(E0 E H0 H:Hp)(σ:St)(γ:Ctx):Prop where
 rc:RC K H0 H σ γ
 ext:Ext E0 E H0 H
 fresh : ∀(i:Nat) ds a,γ[i]? = aI (.own ds)->σ[i]? = aI (aI (.ref a))->E a=bC
 BI : ∀(i:Nat) rows a xs,γ[i]? = aI (.nest rows)->σ[i]? = aI (aI (.ref a))->H a=aI (.lst xs)->E a=bC/\∀b,V.ref b∈xs->E b=bC
noncomputable def Sat(K:pv)(E0 E:Hp)(D:Ends):Fl->Prop
 | .next f=>∀e H b,RS K E0 E b H e f->D.nx e H
 | .brk f=>∀e H b,RS K E0 E b H e f->D.bk e H
 | .cont f=>∀e H b,RS K E0 E b H e f->D.ct e H
 | .ret (.val d)=>∀v H b,Ext E0 E b H->Rep K b d v->D.rt v H
 | .ret (.own es)=>∀a g H b,Ext E0 E b H->E a=bC->b a=bC->H a=aI (.lst g)->eS K b es g->D.rt (.ref a) H
noncomputable def tS(K:pv)(F:CO Fl):TS:=λD d H=>∃E0 E b a z,RS K E0 E b H d a/\F a=aI z/\Sat K E0 E D z
abbrev m5(X:Cx)(st:h9)(F:CO Fl):Prop:=PS X st (tS X.K F)
abbrev Kt(X:Cx)(FZ:List h9)(F:CO Fl):Prop:=q7 X FZ (tS X.K F)
section
variable{K:pv}{E0 E H0 H q5 H':Hp}{σ:St}{γ:Ctx}
theorem RS.step(r:RS K E0 E H0 H σ γ)(e:Ext H0 H q5 H'):RS K E0 E q5 H' σ γ:=⟨r.rc.ext e,r.ext.trans e,r.fresh,λi b a g d f B=>by obtain⟨I,bs,z,g2,_⟩:=r.rc.A3.1 i b d;rw[f]at z;cases z;have:=e.s1 a _ g2.ha;rw[B]at this;cases this;exact r.BI i b a _ d f g2.ha⟩
theorem zC{B:Type}{l:List B}{i j:Nat}{x y:B}(h:(l.set i x)[j]? = aI y):(j=i/\y=x/\i<l.length)\/(j≠i/\l[j]? = aI y):=by
 by_cases e:i=j
 ·subst e
  by_cases z:i<l.length
  ·rw[rn z]at h;cases h;exact .inl ⟨rfl,rfl,z⟩
  ·rw[List.set_eq_of_length_le ⋯]at h
   exact absurd (pW.mp h).1 z
 ·rw[pG e]at h;exact .inr ⟨rH e,h⟩
theorem u6.Bv{i:Nat}{d:D}{v:V}(n:u6 K H0 H σ γ):u6 K H0 H (σ.set i<|some v) (γ.set i<|.val d):=
 ⟨λj b e=>by
  rcases zC e with⟨_,z,_⟩ | ⟨I,z⟩
  ·cases z
  ·obtain⟨a,bs,l,m,O⟩:=n.1 j b z
   refine⟨a,bs,by rw[pG (rH I)];exact l,m,λk h c f B=>?_⟩;rcases zC f with⟨_,z,_⟩ | ⟨o,g⟩
   ·cases z
   ·rw[pG (rH o)]at B;exact O k h c g B,
 λj k R U f B=>by
  rcases zC f with⟨_,z,_⟩ | ⟨_,g⟩
  ·cases z
  ·rcases zC B with⟨_,z,_⟩ | ⟨_,W⟩
   ·cases z
   ·exact n.2 j k R U g W⟩
theorem RC.Bv{i:Nat}{d:D}{v:V}(r:RC K H0 H σ γ)(h:Rep K H0 d v):RC K H0 H (σ.set i<|some v) (γ.set i<|.val d):=by
 refine⟨r.sub,by simp[r.len],λj f e=>?_,λj b e=>?_,λj k a b l g W O R=>?_,r.A3.Bv⟩
 ·rcases zC e with⟨rfl,z,U⟩ | ⟨B,z⟩
  ·cases z;exact⟨v,rn (by rw[r.len];exact U),h⟩
  ·obtain⟨Y,I,g2⟩:=r.val j f z
   exact⟨Y,by rw[pG (rH B)];exact I,g2⟩
 ·rcases zC e with⟨rfl,z,U⟩ | ⟨B,z⟩
  ·cases z
  ·obtain⟨a,n,I,g2⟩:=r.own j b z
   exact⟨a,n,by rw[pG (rH B)];exact I,g2⟩
 ·rcases zC g with⟨_,z,_⟩ | ⟨B,o⟩
  ·cases z
  ·rcases zC W with⟨_,z,_⟩ | ⟨m,p⟩
   ·cases z
   ·rw[pG (rH B)]at O
    rw[pG (rH m)]at R;exact r.ne j k a b l o p O R
theorem RS.Bv{i:Nat}{d:D}{v:V}(r:RS K E0 E H0 H σ γ)(h:Rep K H0 d v):RS K E0 E H0 H (σ.set i<|some v) (γ.set i<|.val d):=
 ⟨r.rc.Bv h,r.ext,λj f a e B=>by
  rcases zC e with⟨_,z,_⟩ | ⟨I,z⟩
  ·cases z
  ·rw[pG (rH I)]at B;exact r.fresh j f a z B,
 λj b a g e B O=>by
  rcases zC e with⟨_,z,_⟩ | ⟨I,z⟩
  ·cases z
  ·rw[pG (rH I)]at B;exact r.BI j b a g z B O⟩
theorem yE : ∀{z bs:List cS},z.map V.ref=bs.map V.ref->z=bs
 | [],[],_=>rfl
 | [],_::_,h=>by cases h
 | _::_,[],h=>by cases h
 | a::z,b::bs,h=>by rw[rM,rM]at h;injection h with h1 h2;injection h1 with h1;rw[h1,yE h2]
theorem RS.FX{i:Nat}{P:List D}{a:cS}{xs:List V}{L G:Hp}(r:RS K E0 E L G σ γ)(e:Ext L G H0 H)(J:G a=bC)(Z:H0 a=bC)(h3:H a=aI (.lst xs))(h4:eS K H0 P xs) :
 RS K E0 E H0 H (σ.set i<|some (.ref a)) (γ.set i<|.own P):=by
 have rc:=r.rc.ext e;have no : ∀(j:Nat) f,γ[j]? = aI (.own f)->¬σ[j]? = aI (aI (.ref a)):=λj f g z=>by obtain⟨b,s,B,g2,Y,_⟩:=r.rc.own j f g;rw[z]at B;cases B;rw[J]at Y;cases Y
 refine⟨⟨rc.sub,by simp[rc.len],λj u g=>?_,λj f g=>?_,λj k b f fs p R U W=>?_,⟨λj d g=>?_,λj k A C B g2=>?_⟩⟩,r.ext.trans e,λj f b B g2=>?_,λj d b xs B g2 Y=>?_⟩
 ·rcases zC g with⟨_,z,_⟩ | ⟨I,z⟩
  ·cases z
  ·obtain⟨F,B,g2⟩:=rc.val j u z
   exact⟨F,by rw[pG (rH I)];exact B,g2⟩
 ·rcases zC g with⟨rfl,z,O⟩ | ⟨I,z⟩
  ·cases z;exact⟨a,xs,rn (by rw[rc.len];exact O),Z,h3,h4⟩
  ·obtain⟨b,s,B,g2⟩:=rc.own j f z
   exact⟨b,s,by rw[pG (rH I)];exact B,g2⟩
 ·rcases zC p with⟨rfl,z,O⟩ | ⟨I,h⟩
  ·rcases zC R with⟨rfl,_,_⟩ | ⟨l,m⟩
   ·rfl
   ·rw[rn (by rw[rc.len];exact O)]at U
    rw[pG (rH l)]at W;cases U;exact absurd W<|no k fs m
  ·rcases zC R with⟨rfl,z,O⟩ | ⟨l,m⟩
   ·rw[rn (by rw[rc.len];exact O)]at W
    rw[pG (rH I)]at U;cases W;exact absurd U<|no j f h
   ·rw[pG (rH I)]at U
    rw[pG (rH l)]at W;exact rc.ne j k b f fs h m U W
 ·rcases zC g with⟨_,z,_⟩ | ⟨I,z⟩
  ·cases z
  ·obtain⟨b,bs,B,g2,Y⟩:=r.rc.A3.1 j d z
   obtain⟨M,n,f1,f2,x⟩:=rc.A3.1 j d z;rw[B]at f1;cases f1;have w:n.map V.ref=bs.map V.ref:=by have:=e.s1 b _ g2.ha;rw[f2.ha]at this;injection this with this;injection this
   have t:n=bs:=yE w;subst t;refine⟨b,n,by rw[pG (rH I)];exact B,f2,λk f c p R=>?_⟩;rcases zC p with⟨rfl,_,O⟩ | ⟨l,h⟩
   ·rw[rn (by rw[rc.len];exact O)]at R;cases R
    intro y;obtain⟨_,as,q⟩:=g2.at y;rw[J]at q;cases q
   ·rw[pG (rH l)]at R;exact x k f c h R
 ·rcases zC B with⟨_,z,_⟩ | ⟨_,h⟩
  ·cases z
  ·rcases zC g2 with⟨_,z,_⟩ | ⟨_,m⟩
   ·cases z
   ·exact rc.A3.2 j k A C h m
 ·rcases zC B with⟨rfl,z,O⟩ | ⟨I,z⟩
  ·rw[rn (by rw[rc.len];exact O)]at g2;cases g2
   cases q:E a with
   | none=>rfl
   | some o=>rw[r.ext.s1 a o q]at J;cases J
  ·rw[pG (rH I)]at g2;exact r.fresh j f b z g2
 ·rcases zC B with⟨_,z,_⟩ | ⟨I,z⟩
  ·cases z
  ·rw[pG (rH I)]at g2;exact(r.step e).BI j d b xs z g2 Y
theorem RS.rewrite{i:Nat}{G P:List D}{a:cS}{xs L:List V}(r:RS K E0 E H0 H σ γ)(J:γ[i]? = aI (.own G))(hs:σ[i]? = aI (aI (.ref a)))(Z:eS K H0 P L) :
 RS K E0 E H0 (upd H a<|.lst L) σ (γ.set i<|.own P):=by
 obtain⟨A,C,g1,g2,g3,N⟩:=r.rc.own i G J;rw[hs]at g1;cases g1;have F:i<γ.length:=(pW.mp J).1;refine⟨⟨λb o q=>?_,by simp[r.rc.len],λj t g=>?_,λj fs g=>?_,λj k b fs gs e B U u=>?_,⟨λj d g=>?_,λj k x y e B=>?_⟩⟩,⟨r.ext.s0,λb o q=>?_,λb o q=>?_,r.ext.new⟩,λj fs b e B=>?_,λj d b m e B U=>?_⟩
 ·rw[zo (λz=>by rw[z,g2]at q;cases q)];exact r.rc.sub b o q
 ·rcases zC g with⟨_,z,_⟩ | ⟨W,z⟩
  ·cases z
  ·exact r.rc.val j t z
 ·rcases zC g with⟨rfl,z,Q⟩ | ⟨W,z⟩
  ·cases z;exact⟨a,L,hs,g2,zq,Z⟩
  ·obtain⟨b,m,I,O,R,w⟩:=r.rc.own j fs z
   refine⟨b,m,I,O,?_,w⟩;rw[zo (λq=>W<|r.rc.ne j i a fs G z J (by rw[I,q]) hs)];exact R
 ·have p : ∃f,γ[j]? = aI (.own f):=by
   rcases zC e with⟨q,_,_⟩ | ⟨_,z⟩
   ·exact⟨G,by rw[q];exact J⟩
   ·exact⟨fs,z⟩
  have s : ∃f,γ[k]? = aI (.own f):=by
   rcases zC B with⟨q,_,_⟩ | ⟨_,z⟩
   ·exact⟨G,by rw[q];exact J⟩
   ·exact⟨gs,z⟩
  obtain⟨I,h⟩:=p;obtain⟨O,Y⟩:=s;exact r.rc.ne j k b I O h Y U u
 ·rcases zC g with⟨_,z,_⟩ | ⟨W,z⟩
  ·cases z
  ·obtain⟨b,bs,I,O,R⟩:=r.rc.A3.1 j d z
   have n:=R i G a J hs;refine⟨b,bs,I,O.move (i1.refl _) (λc l=>(O.at l).1)<|λc l=>zo λq=>n<|q ▸ l,λk fs c e B=>?_⟩;rcases zC e with⟨q,_,_⟩ | ⟨_,h⟩
   ·rw[q,hs]at B;cases B;exact n
   ·exact R k fs c h B
 ·rcases zC e with⟨_,z,_⟩ | ⟨_,h⟩
  ·cases z
  ·rcases zC B with⟨_,z,_⟩ | ⟨_,Y⟩
   ·cases z
   ·exact r.rc.A3.2 j k x y h Y
 ·rw[zo (λz=>by rw[z,r.fresh i G a J hs]at q;cases q)];exact r.ext.s1 b o q
 ·rw[zo (λz=>by rw[z,g2]at q;cases q)];exact r.ext.sub b o q
 ·rcases zC e with⟨q,_,_⟩ | ⟨_,z⟩
  ·rw[q]at B;exact r.fresh i G b J B
  ·exact r.fresh j fs b z B
 ·rcases zC e with⟨_,z,_⟩ | ⟨W,z⟩
  ·cases z
  ·obtain⟨M,bs,I,O,R⟩:=r.rc.A3.1 j d z
   rw[B]at I;cases I;rw[zo (show b≠a from λq=>R i G a J hs<|by rw[q];exact rh)]at U;exact r.BI j d b m z B U
end
section
variable{X:Cx}{e a b c:f6}{pos:g9}{st:h9}{rest:List h9}
theorem zr:Kt X [] zL:=Vq Wx λD b H z=>by obtain⟨E0,E,a,d,R,B,I,O⟩:=z;cases I;exact O b H a B
theorem zf{F G:CO Fl}(J:m5 X st F)(L:Kt X rest G):Kt X (st::rest) (zI F G):=Vq (vW J L) λD i H O=>by
 obtain⟨E0,E,d,f,R,U,z,B⟩:=O;obtain⟨I,e,z⟩:=zc z;refine⟨E0,E,d,f,I,U,e,?_⟩;cases I with
 | next a=>exact λg h b W=>⟨E0,E,b,a,R,W,z,B⟩
 | brk a=>cases z;exact B
 | cont a=>cases z;exact B
 | ret r=>cases z;cases r<;>exact B
theorem zk(z:m5 X st F):Kt X [st] F:=vV z
theorem zw(h:o.map f=aI y) : ∃x,o=aI x/\f x=y:=by
 cases o with
 | none=>cases h
 | some x=>exact⟨x,rfl,by simpa using h⟩
theorem zH{f:CO D}(h:PV X e f):m5 X (.Return (aI e) pos) (j8 f):=kg (Q6 h) λD k H I=>by obtain⟨E0,E,g,j,R,B,z,O⟩:=I;obtain⟨d,i,z⟩:=zw z;subst z;exact⟨g,j,d,B.rc,i,λv b a x r=>O v b a (B.ext.trans x) r⟩
theorem jX{f:CO (List D)}(h:PO X e f):m5 X (.Return (aI e) pos) (ke f):=kg (Q6 h) λD p H I=>by
 obtain⟨E0,E,i,n,U,z,B,O⟩:=I;obtain⟨j,k,B⟩:=zw B;subst B;refine⟨i,n,j,z.rc,k,λa m g b x d l R r=>O a m g b (z.ext.trans x) ?_ l R r⟩;cases q:E a with
 | none=>rfl
 | some o=>rw[z.ext.s1 a o q]at d;cases d
theorem vZ(i:Nat)(h:PE X e (KP i)):m5 X (.Return (aI e) pos) (QJ i):=kg (Q6 h) λD o H O=>by
 obtain⟨E0,E,j,n,W,B,z,I⟩:=O;unfold QJ at z;cases b:n[i]? with
 | none=>rw[b]at z;cases z
 | some c=>
  rw[b]at z;cases c with
  | no=>cases z
  | val d=>
   cases z;obtain⟨v,f,g⟩:=B.rc.val i d b;exact⟨v,f,I v H j B.ext g⟩
  | nest l=>cases z
  | own k=>
   cases z;obtain⟨a,m,f,g,R,U⟩:=B.rc.own i k b;exact⟨_,f,I a m H j B.ext (B.fresh i k a b f) g R U⟩
theorem jl:m5 X st qh:=kg Ys λD d H ⟨E0,E,a,b,B,I,z,O⟩=>by cases z
theorem zJ{k:CO Bool}{F G:CO Fl}{x y:List h9}(L:oI X c k)(J:Kt X x F)(R:Kt X y G):m5 X (.If c x y pos) (hI k F G):=kg (ip L J R) λD g H U=>by
 obtain⟨E0,E,d,b,I,B,z,O⟩:=U;obtain⟨t,e,z⟩:=zc z;refine⟨d,b,t,B.rc,e,λf a x=>?_⟩;cases t with
 | true=>rw[GY rfl]at z ⊢;exact⟨E0,E,a,b,I,B.step x,z,O⟩
 | false=>rw[MQ pQ]at z ⊢;exact⟨E0,E,a,b,I,B.step x,z,O⟩
theorem vY(i:Nat){f:CO D}(h:PS X st (Qw (tV X.K f)<|ku i)):m5 X st (jR i f):=kg h λD k H I=>by obtain⟨E0,E,b,g,R,B,z,O⟩:=I;obtain⟨d,e,z⟩:=zw z;subst z;exact⟨b,g,d,B.rc,e,λv j a x r=>O _ _ a<|(B.step x).Bv r⟩
theorem Jj(i:Nat){f:CO (List D)}(h:PS X st (Qw (tO X.K f)<|ku i)):m5 X st (vR i f):=kg h λD o H I=>by obtain⟨E0,E,d,l,U,B,z,O⟩:=I;obtain⟨e,g,z⟩:=zw z;subst z;exact⟨d,l,e,B.rc,g,λa n m b x j k R r=>O _ _ b<|B.FX x j k R r⟩
theorem xE(h:qw o=aI ds):o=aI (.own ds):=by
 cases o with
 | none=>cases h
 | some c=>cases c<;>simp[qw]at h;rw[h]
theorem J1(i:Nat){f:CO D}(h:PE X e (E1 X.K "list" QL (KP i) (aR (tV X.K f) mh)))(hs:t6 e bC pos.line X.env=pure dV:=by rfl):m5 X (.Expr e pos) (xi i f):=
 kg (WC h hs) λD u H U=>by
  obtain⟨E0,E,l,o,s,B,z,W⟩:=U;obtain⟨j,b,z⟩:=zc z;obtain⟨d,Y,z⟩:=zc z;have b:=xE b;by_cases I:j.length<lim
  ·rw[GY I]at z;cases z
   obtain⟨a,xs,k,t,O,R⟩:=B.rc.own i j b;refine⟨_,k,.inl ⟨rfl,_,i2.of O⟩,l,o,d,B.rc,Y,λv p g x r=>?_⟩;have m:=B.step x;have n:=x.s1 _ _ O;refine⟨a,xs,v,rfl,rfl,n,?_,?_⟩
   ·exact pH (by rw[R.length];exact I)<|xu<|pN _
   ·exact W _ _ g<|m.rewrite (xs:=xs) b k<|(R.mono x.s0).append (eS.cons r eS.nil)
  ·rw[MQ I]at z;cases z
end
noncomputable def oR(K:pv)(H0 H:Hp)(Q:VK):Res->Prop
 | .val d=>∀v e b,Ext H0 H b e->Rep K b d v->Q v e
 | .own g=>∀a f e b,Ext H0 H b e->H a=bC->b a=bC->e a=aI (.lst f)->eS K b g f->Q (.ref a) e
noncomputable def A4(K:pv)(n:Nat)(F:List D->Option Res):Sp:=λd H Q _=>∃a b r,i1 a H/\eS K a b d/\b.length=n/\F b=aI r/\oR K a H Q r
theorem A4.len{K:pv}{n:Nat}{F:List D->Option Res}{B:List Str}(G:B.length=n) : ∀z H Q E,A4 K n F z H Q E->z.length=B.length:=λz H Q E h=>by obtain⟨d,e,r,_,a,b,_⟩:=h;rw[a.length,b,G]
section
variable{P:iv}{w:h8}{K:pv}{mg:GJ}{base:fy}
theorem vT(s:i1 H0 H)(h:eS K H0 ds vs)(G:ds.length<=N.length):RS K H0 H H0 H (k7 N vs) (jB N.length ds):=by
 have z:=h.length;refine⟨⟨s,by simp[L2.k7,jB,z],λi d e=>?_,λi g e=>?_,λi j a g fs e _ _ _=>?_,u6.DM λi f e=>?_⟩,Ext.refl s,λi g a e _=>?_,λi f a l e _ _=>?_⟩
 all_goals unfold jB at e
 ·by_cases b:i<ds.length
  ·rw[sD (by simpa using b),rm]at e
   cases e1:ds[i]? with
   | none=>rw[e1]at e;cases e
   | some k=>
    rw[e1]at e;cases e;obtain⟨x,B,g2⟩:=h.get e1;refine⟨x,?_,g2⟩;unfold L2.k7;rw[sD (by simp;omega),rm,B];rfl
  ·rw[rS (by simpa using b),um]at e
   split at e<;>cases e
 all_goals
  by_cases b:i<ds.length
  ·rw[sD (by simpa using b),rm]at e
   cases e1:ds[i]? with
   | none=>rw[e1]at e;cases e
   | some k=>rw[e1]at e;cases e
  ·rw[rS (by simpa using b),um]at e
   split at e<;>cases e
theorem dz{x qual:Str}{st:h9}{f:cS}{L:sx}{N J:List Str}{k:Nat}{F:CO Fl}(O:L2.A9 K x qual st f L)(S:CC N J (zE st))
 (R : ∀(G:eF) (A:i7) (outer:List i3) (s:eM) (H:Hp) (E:XK),o5 k (A.deeper<|envOfC qual (zE st) s.heap.objs.size f G)->Kt (ye u4 P w K mg base N qual (zE st) f G A outer s H E).m7 (js st) F) :
 u5 P w K mg base u4 (k+1) f L J (A4 K J.length<|jO N.length F):=by
 refine O.ok S (A4.len rfl)<|λG A outer s H t Q E U h=>⟨_,R G A outer s H E U,?_⟩;obtain⟨b,g,r,l,j,o,W,B⟩:=h;obtain⟨I,i,z⟩:=zc W;have n:J.length<=N.length:=by have:=congrArg List.length S.pre;rw[sH]at this;omega
 refine⟨b,H,b,jB N.length g,I,vT l j ⋯,i,?_⟩;cases I with
 | ret p=>cases z;cases r<;>exact B
 | next d=>cases z;exact λm e a Y=>B .g8 e a Y.ext (show V.g8 = .g8 from rfl)
 | brk d=>cases z
 | cont d=>cases z
end
section
variable{X:Cx}{es:List f6}{pos p:g9}{k:Nat}{f:cS}{fd:sx}{ps:List Str}{x:Str}{F:List D->Option Res}{g:CO (List D)}
theorem Wv{A0:List f6}(G:u5 X.prog X.w X.K X.mg X.base u4 k f fd ps (A4 X.K ps.length F))(L:BN X es g)(U : ∀γ J,g γ=aI J->J.length=ps.length)
 (P : ∀{t:TA},PA X es t->PE X (.Call (.Name x p) es [] pos) (V4 (A4 X.K ps.length F) [] E0 t)):PV X (.Call (.Name x p) es [] pos) (zu F g):=
 jK (P L) λA H Q W=>by
  obtain⟨l,γ,d,rc,z,q⟩:=W;obtain⟨J,i,z⟩:=zc z;obtain⟨r,Y,z⟩:=zw z;refine⟨l,γ,J,rc,i,λy u h x1 o=>⟨h,J,r,x1.sub,by simpa using o,U γ J i,Y,?_⟩⟩;subst z;cases r with
  | val d=>exact λv e b B I=>q v e b (x1.trans B) I
  | own fs=>
   refine λa s e b B m j n I=>q _ e _ (x1.trans<|B.show m j n x1.sub) ?_;exact(show ∃O R,V.ref a = .ref O/\i2 X.K _ O R/\eS X.K _ fs R from⟨a,s,rfl,i2.of zq,I.mono<|zY j _⟩)
theorem WH(G:u5 X.prog X.w X.K X.mg X.base u4 k f fd ps (A4 X.K ps.length F))(L:BN X es g)(I : ∀γ J,g γ=aI J->J.length=ps.length)
 (P : ∀{t:TA},PA X es t->PE X (.Call (.Name x p) es [] pos) (V4 (A4 X.K ps.length F) [] E0 t)):PO X (.Call (.Name x p) es [] pos) (kS F g):=
 jK (P L) λA H Q O=>by
  obtain⟨l,γ,fs,rc,B,q⟩:=O;obtain⟨J,h,B⟩:=zc B;obtain⟨r,R,B⟩:=zc B;refine⟨l,γ,J,rc,h,λy u e x1 U=>⟨e,J,r,x1.sub,by simpa using U,I γ J h,R,?_⟩⟩;cases r with
  | val d=>cases B
  | own gs=>
   cases B;exact λa s j b W i m Y n=>q a s j b (x1.trans W) (by
    cases z:H a with
    | none=>rfl
    | some o=>rw[x1.s1 a o z]at i;cases i) m Y n
end
structure Walk(K:pv)(H0 Hs:Hp)(J:It)(ds:List D):Prop where
 go : ∀i H1,i1 Hs H1->i<ds.length->J.go i H1
 stop : ∀H1,i1 Hs H1->J.stop ds.length H1
 BL : ∀i H1 x EA,i1 Hs H1->i<ds.length->J.BL i H1 x EA->∃d,ds[i]? = aI d/\∀G0,i1 H0 G0->i1 G0 H1->∃Ez,Ext G0 H1 Ez EA/\Rep K Ez d x
theorem Walk.weak{K:pv}{H0 B z:Hp}{J:It}{G:List D}(w:Walk K H0 B J G)(s:i1 B z):Walk K H0 z J G:=
 ⟨λi a h=>w.go i a<|s.trans h,λa h=>w.stop a<|s.trans h,λi a x b h=>w.BL i a x b<|s.trans h⟩
theorem KM{k:Sk}{K:pv}{H0 G:Hp}{a:cS}{xs:List V}{H:List D}(h:o3 k K G a xs)(r:eS K H0 H xs):Walk K H0 G (EB k K a) H:=by
 have I:=r.length;refine⟨λi b s n=>?_,λb s=>?_,λi b x f s n y=>?_⟩
 ·have g:i<xs.length:=by omega
  cases k with
  | L=>exact⟨xs,xs[i],s.seq h,pC g⟩
  | T=>exact⟨xs,xs[i],u3 s h,pC g⟩
 ·cases k with
  | L=>exact⟨xs,s.seq h,by omega⟩
  | T=>exact⟨xs,u3 s h,by omega⟩
 ·have e:f=b/\xs[i]? = aI x:=by
   cases k with
   | L=>exact⟨y.1,y.2 xs<|s.seq h⟩
   | T=>exact⟨y.1,y.2 xs<|u3 s h⟩
  obtain⟨l,z⟩:=e;subst l;obtain⟨d,m,B⟩:=r.DI z;exact⟨d,m,λj o p=>⟨j,Ext.refl p,B.mono o⟩⟩
theorem kJ(lo:Int)(n:Nat):(qY lo n).length=n:=by simp[qY]
theorem JI{K:pv}{H0 B:Hp}(lo:Int)(n:Nat):Walk K H0 B (DA lo n) (qY lo n):=by
 refine⟨λi b s a=>?_,λb s=>?_,λi b x e s a y=>?_⟩
 ·rw[kJ]at a;exact a
 ·rw[kJ];exact pN _
 ·rw[kJ]at a
  obtain⟨f,z⟩:=y;subst f z;exact⟨.int<|lo+i,by simp[qY,a],λd h g=>⟨d,Ext.refl g,(show V.int (lo+i) = .int (lo+i)from rfl)⟩⟩
theorem KL{k1 k2:Sk}{K:pv}{H0 L:Hp}{a b:cS}{xs J:List V}{G H:List D}(P:o3 k1 K L a xs)(B:eS K H0 G xs)(Z:o3 k2 K L b J)(I:eS K H0 H J) :
 Walk K H0 L (DW k1 k2 K a b) (Ve G H):=by
 have w:=B.length;have A:=I.length;have U:(Ve G H).length=min G.length H.length:=by simp[Ve]
 refine⟨λi f s r=>?_,λf s=>?_,λi f x j s r y=>?_⟩
 ·exact⟨xs,J,wF s P,wF s Z,by omega,by omega⟩
 ·refine⟨xs,J,wF s P,wF s Z,?_⟩
  rw[U];omega
 ·obtain⟨p,u,v,m,z,W,Y,g2⟩:=y
  obtain⟨d,o,t⟩:=B.DI<|Y xs<|wF s P;obtain⟨c,n,k⟩:=I.DI<|g2 J<|wF s Z;refine⟨.tup [d,c],?_,λh g e=>⟨upd h p<|.tup [u,v],?_,?_⟩⟩
  ·have l:(G.zip H)[i]? = aI (d,c):=List.getElem?_zip_eq_some.mpr ⟨o,n⟩
   simp[Ve,l]
  ·rw[W];exact Ext.alloc e z _
  ·rw[m]
   exact(show ∃O R,V.ref p = .ref O/\i4 K _ O R/\eS K _ [d,c] R from⟨p,[u,v],rfl,i4.of zq,eS.cons ((t.mono g).mono (zY (jg e z) _))<|eS.cons ((k.mono g).mono (zY (jg e z) _)) eS.nil⟩)
noncomputable def E4(K:pv)(z:CO (List D)):TI:=λg H R=>∃d f e,RC K d H g f/\z f=aI e/\∀J b a,Ext d H a b->Walk K a b J e->R J b
noncomputable def Ep(K:pv)(z:CO (List D)):TI:=λg H R=>∃d f e,RC K d H g f/\z f=aI e/\∀J b a,Ext d H a b->Walk K a a J e->R J b
abbrev BA(X:Cx)(tg e:f6)(src:CO (List D)):Prop:=PI X tg e (E4 X.K src)
abbrev u7(X:Cx)(tg e:f6)(src:CO (List D)):Prop:=PI X tg e (Ep X.K src)
section
variable{X:Cx}{tg e a b:f6}{pos p:g9}
theorem u7.c(h:u7 X tg e src):BA X tg e src:=Xd h λi H R ⟨d,g,f,rc,z,q⟩=>⟨d,g,f,rc,z,λJ b a x w=>q J b a x<|w.weak x.sub⟩
theorem jY(h:PQ X e f):BA X tg e (z9 f):=Xd (bN h) λp H R z=>by obtain⟨i,n,o,rc,B,q⟩:=z;obtain⟨⟨k,l⟩,j,I⟩:=zw B;subst I;exact⟨i,n,k,l,rc,j,λa m g b x d _ r=>⟨a,k,rfl,⟨m,d⟩,q _ g b x<|KM d r⟩⟩
theorem jQ(h:m9 d=aI i):d = .int i:=by cases d<;>simp[m9]at h;rw[h]
theorem XQ(h:inR i=cI) : -(2 ^ 62)<=i/\i<2 ^ 62:=by unfold inR at h;have h:=of_decide_eq_true h;omega
theorem J4(B:Gl X "range")(J:X.mg "range" = bC)(G:PV X a f)(hs:hX [a] X.env=[(dV,fk a X.env)]:=by rfl):u7 X tg (.Call (.Name "range" p) [a] [] pos) (zX f):=
 Xd (Xc B J (jH G qB hs) hs) λo H R I=>by
  obtain⟨i,l,m,rc,z,q⟩:=I;obtain⟨n,e,z⟩:=zc z;obtain⟨d,O,e⟩:=zc e;by_cases g:inR n=cI
  ·rw[GY g]at z;cases z
   refine⟨i,l,d,rc,O,λv h b x r=>?_⟩;rw[jQ e]at r;obtain⟨j,k⟩:=XQ g;exact⟨n,by rw[show v = .int n from r],j,k,q _ h b x<|JI 0 n.toNat⟩
  ·rw[MQ g]at z;cases z
theorem QF{K:pv}{H:Hp}{d:D}{v:V}{k:Sk}{B:List D}(r:Rep K H d v)(e:qg d=aI (k,B)) : ∃a xs,v = .ref a/\o3 k K H a xs/\eS K H B xs:=by
 cases d with
 | tup fs=>simp[qg]at e;obtain⟨b,z⟩:=e;subst b z;exact r
 | lst fs=>simp[qg]at e;obtain⟨b,z⟩:=e;subst b z;exact r
 | _=>simp[qg]at e
theorem WI{f g:CO D}{G:List f6}{x1:Nat}{J:g9}(Y:Gl X "zip")(Z:X.mg "zip" = bC)(L:PV X a f)(P:PV X b g)(hs:hX [a,b] X.env=[(dV,fk a X.env),(dV,fk b X.env)]:=by rfl)(I:hX [b] X.env=[(dV,fk b X.env)]:=by rfl) :
 u7 X (.Tuple G x1 J) (.Call (.Name "zip" p) [a,b] [] pos) (aZ f g):=
 Xd (bM Y Z (jH L (jH P qB I)<|by rw[hs,I]) PyProof.Rows.boot_zip hs I) λS H R y=>by obtain⟨j,i,N,rc,z,q⟩:=y;obtain⟨⟨A,m⟩,h,z⟩:=zc z;obtain⟨d,t,h⟩:=zc h;obtain⟨⟨C,n⟩,O,z⟩:=zw z;obtain⟨c,u,O⟩:=zc O;subst z;refine⟨j,i,d,rc,t,λv M e x r=>⟨e,i,c,rc.ext x,u,λQ k s B E=>?_⟩⟩;obtain⟨l,F,rfl,U,g2⟩:=QF (r.mono B.s0) h;obtain⟨o,K,rfl,W,w⟩:=QF E O;exact⟨A,C,l,o,rfl,⟨F,wF B.sub U⟩,⟨K,wF B.sub W⟩,q _ k s (x.trans B)<|KL U g2 W w⟩
end
noncomputable def Ja:List Nat->List V->St->St
 | i::is,v::vs,σ=>Ja is vs<|σ.set i<|some v
 | _,_,σ=>σ
def gs:List Nat->CD
 | []=>mL
 | i::is=>du (ku i)<|gs is
noncomputable def xB(K:pv):Tg->TG
 | .nm i=>ku i
 | .tp is=>mK K is.length<|gs is
theorem XU : ∀{is:List Nat} {z:List V} {B:St} {H:Hp} {Q:St->Hp->Prop},z.length=is.length->Q (Ja is z B) H->gs is z B H Q
 | [],[],_,_,_,_,q=>⟨rfl,q⟩
 | i::is,v::z,B,H,Q,hl,q=>⟨v,z,rfl,XU (by simpa using hl) q⟩
 | [],_::_,_,_,_,hl,_=>by simp at hl
 | _::_,[],_,_,_,hl,_=>by simp at hl
theorem RS.Dp{K:pv}{E0 E H0 H:Hp} : ∀{is:List Nat} {z:List D} {B:List V} {G:St} {γ:Ctx},RS K E0 E H0 H G γ->eS K H0 z B->RS K E0 E H0 H (Ja is B G) (jW is z γ)
 | [],z,B,G,γ,r,h=>by cases z<;>cases B<;>exact r
 | i::is,[],B,G,γ,r,h=>by rw[h.Bt];exact r
 | i::is,d::z,B,G,γ,r,h=>by obtain⟨x,t,e,a,b⟩:=h.u9;subst e;show RS K E0 E H0 H (DL.Ja is t<|G.set i<|some x) (jW is z<|γ.set i<|.val d);exact RS.Dp (r.Bv a) b
theorem RC.Dp{K:pv}{H0 H:Hp} : ∀{is:List Nat} {z:List D} {B:List V} {G:St} {γ:Ctx},RC K H0 H G γ->eS K H0 z B->RC K H0 H (Ja is B G) (jW is z γ)
 | [],z,B,G,γ,r,h=>by cases z<;>cases B<;>exact r
 | i::is,[],B,G,γ,r,h=>by rw[h.Bt];exact r
 | i::is,d::z,B,G,γ,r,h=>by obtain⟨x,t,e,a,b⟩:=h.u9;subst e;show RC K H0 H (DL.Ja is t<|G.set i<|some x) (jW is z<|γ.set i<|.val d);exact RC.Dp (r.Bv a) b
theorem kA{K:pv}{H0 H:Hp}{T:Tg}{d:D}{v:V}{G:St}{γ z:Ctx}{Q:St->Hp->Prop}(s:i1 H0 H)(h:Rep K H0 d v)(e:qR T d γ=aI z)
 (q : ∀B,(RC K H0 H G γ->RC K H0 H B z)->(∀E0 E,RS K E0 E H0 H G γ->RS K E0 E H0 H B z)->Q B H):xB K T v G H Q:=by
 cases T with
 | nm i=>cases e;exact q _ (λr=>r.Bv h) λE0 E r=>r.Bv h
 | tp is=>
  cases d with
  | tup g=>
   simp only[qR]at e;by_cases I:g.length=is.length
   ·rw[GY I]at e;cases e
    obtain⟨a,b,rfl,k,f⟩:=(show ∃a b,v = .ref a/\i4 K H0 a b/\eS K H0 g b from h);have j:b.length=is.length:=by rw[f.length,I]
    exact⟨a,b,rfl,u3 s k,j,XU j<|q _ (λr=>r.Dp f) λE0 E r=>r.Dp f⟩
   ·rw[MQ I]at e;cases e
  | _=>simp[qR]at e
theorem Ext.rebase{E0 E z H0 H B:Hp}(e:Ext E0 E z B)(x:Ext z E H0 H):Ext E0 E H0 H:=
 ⟨e.s0.trans x.s0,x.s1,x.sub,λa d b=>x.new a (e.new a d b) b⟩
theorem Ext.base{E0 E z B:Hp}(e:Ext E0 E z B):Ext z E z B:=⟨i1.refl _,e.s1,e.sub,λa h _=>h⟩
theorem Sat.rebase{K:pv}{E0 E I B:Hp}{D:Ends}{z:Fl}(e:Ext E0 E I B)(h:Sat K E0 E D z):Sat K I E D z:=by
 cases z with
 | next g=>exact λf H b r=>h f H b ⟨r.rc,e.rebase r.ext,r.fresh,r.BI⟩
 | brk g=>exact λf H b r=>h f H b ⟨r.rc,e.rebase r.ext,r.fresh,r.BI⟩
 | cont g=>exact λf H b r=>h f H b ⟨r.rc,e.rebase r.ext,r.fresh,r.BI⟩
 | ret r=>
  cases r with
  | val d=>exact λv H b x q=>h v H b (e.rebase x) q
  | own l=>exact λa k H b x i j O q=>h a k H b (e.rebase x) i j O q
section
variable{X:Cx}{tg iter:f6}{body:List h9}{pos:g9}
theorem WA{G:CO (List D)}{T:Tg}{F:CO Fl}(hp:EF (fh X.prog X.w) X.A X.env X.xe)(hc:X.calm=cI)(L:u7 X tg iter G)(hg:PG X tg (xB X.K T))(hb:Kt X body F)
 (hs : ∀x,xA iter X.env x=pure x:=by intro _;rfl):m5 X (.For tg iter body [] pos) (Qh G T F):=
 kg (bI hp hc L hg hb hs) λD h H hZ=>by
  obtain⟨E0,E,g,f,B,I,z,O⟩:=hZ;obtain⟨b,Q,z⟩:=zc z;refine⟨g,f,b,I.rc,Q,λJ H1 a x1 k=>?_⟩;have Dn:=I.step x1;have s:=Dn.ext;refine⟨λi m h H=>m=b.length - i/\i<=b.length/\∃g f B,RS X.K a E g H h f/\kv T F (b.drop i) f=aI B/\Sat X.K a E D B,⟨_,rfl,uU _,a,f,B,⟨Dn.rc,s.base,Dn.fresh,Dn.BI⟩,z,O.rebase s⟩,?_⟩;rintro i m h H ⟨rfl,L,g,f,B,I,z,O⟩;have W:i1 a H:=I.ext.s0.trans I.ext.sub;by_cases R:i<b.length
  ·refine .inr ⟨k.go i H W R,λh H=>i+1<=b.length/\∃g f B,RS X.K a E g H h f/\kv T F (b.drop<|i+1) f=aI B/\Sat X.K a E D B,λEt p n=>⟨b.length - (i+1),by omega,rfl,n.1,n.2⟩,λx p y=>?_⟩
   obtain⟨d,t,hx⟩:=k.BL i H x p W R y;obtain⟨C,u,rg⟩:=hx g I.ext.s0 I.rc.sub;have N:b.drop i=d::b.drop (i+1):=by
    have P:d=b[i]:=by rw[pC R]at t;exact(pX t).symm
    rw[P];exact tU R
   rw[N]at z;simp only[kv]at z;obtain⟨l,Z,z⟩:=zc z;obtain⟨f1,S,z⟩:=zc z;refine kA u.sub rg Z λEu _ as=>⟨a,E,C,l,f1,as a E<|I.step u,S,?_⟩;cases f1 with
   | next U=>exact λo M Y j=>⟨R,Y,U,B,j,z,O⟩
   | cont U=>exact λo M Y j=>⟨R,Y,U,B,j,z,O⟩
   | brk U=>cases z;exact O
   | ret r=>cases z;cases r<;>exact O
  ·have e:i=b.length:=by omega
   subst e;rw[List.drop_length]at z;cases z;exact .inl ⟨k.stop H W,O h H g I⟩
end
theorem jJ(h:(qu n fr γ)[i]? = aI c):c = .no\/(∃d j,c = .val d/\n<=i/\fr[i - n]? = aI j/\γ[j]? = aI (.val d)):=by
 unfold qu at h;by_cases b:i<n
 ·rw[sD (by simpa using b),um,GY b]at h
  exact .inl (pX h).symm
 ·rw[rS (by simpa using b),rm,List.length_replicate]at h
  cases e:fr[i - n]? with
  | none=>rw[e]at h;cases h
  | some j=>
   rw[e]at h;have a:vd (γ[j]?.getD .no)=c:=by simpa using h
   cases e2:γ[j]? with
   | none=>rw[e2]at a;exact .inl a.symm
   | some z=>
    rw[e2]at a;cases z with
    | no=>exact .inl a.symm
    | own g=>exact .inl a.symm
    | nest f=>exact .inl a.symm
    | val d=>exact .inr ⟨d,j,a.symm,by omega,rfl,e2⟩
theorem RC.pull{K:pv}{H0 H:Hp}{G:St}{γ:Ctx}{own:List Str}{fr:List (Str×Nat)}(r:RC K H0 H G γ):RC K H0 H (L2.Q4 own fr G) (qu own.length (fr.map (·.2)) γ):=by
 refine⟨r.sub,by simp[L2.Q4,qu],λi d h=>?_,λi e h=>?_,λi j a e k h _ _ _=>?_,u6.DM λi b h=>?_⟩
 ·rcases jJ h with z | ⟨d',j,z,hi,B,I⟩
  ·cases z
  ·cases z
   obtain⟨v,f,g⟩:=r.val j d I;refine⟨v,?_,g⟩;rw[rm]at B;cases q:fr[i - own.length]? with
   | none=>rw[q]at B;cases B
   | some p=>
    rw[q]at B;have O:p.2=j:=by simpa using B
    unfold L2.Q4;rw[rS (by simpa using hi),rm,pR,q];simp[O,f]
 ·rcases jJ h with z | ⟨d',j,z,_⟩<;>cases z
 ·rcases jJ h with z | ⟨d',j,z,_⟩<;>cases z
 ·rcases jJ h with z | ⟨d',j,z,_⟩<;>cases z
theorem RC.weak{K:pv}{H0 H:Hp}{J:St}{γ γ':Ctx}(r:RC K H0 H J γ)(B:γ'.length=γ.length)(I : ∀(i:Nat) d,γ'[i]? = aI (.val d)->γ[i]? = aI (.val d))(z : ∀(i:Nat) G,γ'[i]? ≠ aI (.own G))(O : ∀(i:Nat) rows,γ'[i]? ≠ aI (.nest rows)):RC K H0 H J γ':=
 ⟨r.sub,by rw[B];exact r.len,λi d h=>r.val i d<|I i d h,λi G h=>absurd h<|z i G,λi j a G b h _ _ _=>absurd h<|z i G,u6.DM O⟩
theorem RC.upd{K:pv}{H0 H:Hp}{J:St}{γ:Ctx}{D:cS}{o:HO}(r:RC K H0 H J γ)(L:H0 D=bC)(B : ∀(i:Nat) G,γ[i]? ≠ aI (.own G))(I : ∀(i:Nat) rows,γ[i]? ≠ aI (.nest rows)):RC K H0 (upd H D o) J γ:=
 ⟨λb u q=>by rw[zo (λz=>by rw[z,L]at q;cases q)];exact r.sub b u q,r.len,r.val,λi G h=>absurd h<|B i G,λi j a G d h _ _ _=>absurd h<|B i G,u6.DM I⟩
theorem yr : ∀{is:List Nat} {z:List D} {γ:Ctx},(jW is z γ).length=γ.length
 | [],z,γ=>by cases z<;>rfl
 | i::is,[],γ=>rfl
 | i::is,d::z,γ=>by show(jW is z<|γ.set i<|.val d).length=_;rw[yr];simp
theorem yt : ∀{is:List Nat} {B:List D} {γ:Ctx} {i:Nat},i∉is->(jW is B γ)[i]? = γ[i]?
 | [],B,γ,i,_=>by cases B<;>rfl
 | j::is,[],γ,i,_=>rfl
 | j::is,d::B,γ,i,h=>by show(jW is B<|γ.set j<|.val d)[i]? = _;rw[yt (λz=>h<|pT _ z),pG (λz=>h<|by rw[<- z];exact rh)]
theorem Zh(h:qR T d γ=aI Dv):Dv.length=γ.length/\∀i,i∉T.idx->Dv[i]? = γ[i]? :=by
 cases T with
 | nm j=>cases h;exact⟨by simp,λi a=>pG<|λz=>a<|by simp[Tg.idx,z]⟩
 | tp is=>
  cases d with
  | tup b=>
   simp only[qR]at h;by_cases B:b.length=is.length
   ·rw[GY B]at h;cases h;exact⟨yr,λi a=>yt a⟩
   ·rw[MQ B]at h;cases h
  | _=>simp[qR]at h
section
variable{K:pv}{own:List Str}{fr:List (Str×Nat)}{src:CO (List D)}{T:Tg}{k:CO Bool}{f:CO D}
theorem yO(hT : ∀i∈T.idx,i<own.length)(c7 : ∀G H Q,tT K k G H Q->tt G H Q) : ∀G H Q,tO K (zT src T own.length (fr.map (·.2)) k f) G H Q->KQ (E4 K src) own fr (xB K T) tt (tV K f) G H Q:=λG H Q hZ=>by
 obtain⟨H0,s,ds,rc,R,q⟩:=hZ;obtain⟨I,e1,R⟩:=zc R;by_cases hl:I.length<=lim
 ·rw[GY hl]at R
  refine⟨H0,s,I,rc,e1,λJ H1 n x1 wk D Y=>?_⟩;have N : ∀(i:Nat) es,(qu own.length (fr.map (·.2)) s)[i]? ≠ aI (.own es):=λi es h=>by rcases jJ h with z | ⟨d',j,z,_⟩<;>cases z
  have P : ∀(i:Nat) u,(qu own.length (fr.map (·.2)) s)[i]? ≠ aI (.nest u):=λi es h=>by rcases jJ h with z | ⟨d',j,z,_⟩<;>cases z
  have bb:n D=bC:=jg x1.sub Y;have c9:H D=bC:=by
   cases z:H D with
   | none=>rfl
   | some o=>rw[x1.s1 D o z]at Y;cases Y
  refine⟨λi m l C g=>m=I.length - i/\i<=I.length/\l.length<=i/\g D=aI (.lst l)/\∃a t F,RC K a g C (qu own.length (fr.map (·.2)) s)/\a D=bC/\Ext n H1 a g/\eS K a t l/\jf T k f (qu own.length (fr.map (·.2)) s) (I.drop i)=aI F/\ds=t++F,
   ⟨_,rfl,uU _,pN _,zq,n,[],ds,((rc.ext x1).pull).upd bb N P,bb,Ext.hide x1.sub Y _,eS.nil,R,rfl⟩,?_⟩
  rintro i m l C g ⟨rfl,hi,hy,L,a,t,F,S,bd,U,r',B,rfl⟩;refine⟨L,?_⟩;by_cases W:i<I.length
  ·refine .inr ⟨wk.go i g U.s1 W,?_,λx X y=>?_⟩
   ·have:=xu<|pN lim;omega
   obtain⟨d,hd,hx⟩:=wk.BL i g x X U.s1 W y;obtain⟨G0,O,rg⟩:=hx a U.s0 S.sub;have cc:I.drop i=d::I.drop (i+1):=by
    have ce:d=I[i]:=by rw[pC W]at hd;exact(pX hd).symm
    rw[ce];exact tU W
   rw[cc]at B;simp only[jf]at B;obtain⟨p,eb,B⟩:=zc B;obtain⟨b,ek,B⟩:=zc B;have ch:G0 D=bC:=O.new D bd (by rw[L];simp);have bi:X D=aI (.lst l):=O.s1 _ _ L;obtain⟨bl,bg⟩:=Zh eb;have bn : ∀{E:St} {G2 H2:Hp},RC K G2 H2 E p->RC K G2 H2 E (qu own.length (fr.map (·.2)) s):=λr=>r.weak bl.symm (λj d' hj=>by
    by_cases hm:j∈T.idx
    ·rcases jJ hj with z | ⟨d2,j2,_,hn,_⟩
     ·cases z
     ·exact absurd (hT j hm) ⋯
    ·rw[bg j hm];exact hj) N P
   refine kA O.sub rg eb λEu c2 _=>c7 Eu X _ ⟨G0,p,b,c2<|S.ext O,ek,λH3 Z x3=>?_⟩;have ap:=(c2<|S.ext O).ext x3;have xa:=U.trans<|O.trans x3;have c4:Z D=bC:=x3.new D ch (by rw[bi];simp);have as:H3 D=aI (.lst l):=x3.s1 _ _ bi;cases b with
   | true=>
    dsimp only;rw[GY rfl]at B ⊢;obtain⟨e,ee,B⟩:=zc B;obtain⟨rest,er,B⟩:=zw B;refine⟨Z,p,e,ap,ee,λv H4 c5 A r4=>?_⟩;have ax:c5 D=bC:=A.new D c4 (by rw[as];simp);have ct:H4 D=aI (.lst l):=A.s1 _ _ as;have M:=xa.trans A;refine⟨ct,I.length - (i+1),by omega,rfl,W,by rw[rE,sF];omega,zq,c5,t++[e],rest,(bn<|ap.ext A).upd ax N P,ax,?_,(r'.mono<|(O.trans<|x3.trans A).s0).append (eS.cons r4 eS.nil),er,?_⟩
    ·exact⟨M.s0,λc o z=>by rw[zo (λw=>by rw[w,Y]at z;cases z)];exact M.s1 c o z,λc o z=>by rw[zo (λw=>by rw[w,ax]at z;cases z)];exact M.sub c o z,M.new⟩
    ·rw[<- B];simp
   | false=>
    dsimp only;rw[MQ pQ]at B ⊢;exact⟨I.length - (i+1),by omega,rfl,W,by omega,as,Z,t,F,bn ap,c4,xa,r'.mono<|(O.trans x3).s0,B,rfl⟩
  ·have e:i=I.length:=by omega
   subst e;rw[List.drop_length]at B;cases B;rw[List.append_nil]at q;exact .inl ⟨wk.stop g U.s1,q D l g a (x1.trans U) c9 bd L r'⟩
 ·rw[MQ hl]at R;cases R
end
section
variable{X:Cx}{scope:hH}{own:List Str}{fr:List (Str×Nat)}{elt tg iter c:f6}{pos:g9}{src:CO (List D)}{T:Tg}{k:CO Bool}{f:CO D}
theorem WG(L:X.calm=cI)(ok:zi X scope fr)(z : ∀i∈T.idx,i<own.length)(P:BA X tg iter src)(B : ∀fp J G,PG (zM X scope (own++fr.map (·.1)) fp J G) tg<|xB X.K T)
 (I : ∀fp J G,PV (zM X scope (own++fr.map (·.1)) fp J G) elt f) (hs : ∀x,xA iter X.env x=pure x:=by intro _;rfl) :
 PO X (.ListComp elt [⟨tg,iter,[],0⟩] scope pos) (zT src T own.length (fr.map (·.2)) jE f):=
 jK (ZI L ok P B (λ_ _ _=>Jk) I hs) (yO z λe H Q ⟨a,d,b,rc,O,q⟩=>by cases O;exact q H a<|Ext.refl rc.sub)
theorem Xa(L:X.calm=cI)(ok:zi X scope fr)(z : ∀i∈T.idx,i<own.length)(O:BA X tg iter src)(B : ∀fp J G,PG (zM X scope (own++fr.map (·.1)) fp J G) tg<|xB X.K T)
 (hk : ∀fp J G,oI (zM X scope (own++fr.map (·.1)) fp J G) c k) (I : ∀fp J G,PV (zM X scope (own++fr.map (·.1)) fp J G) elt f) (hs : ∀x,xA iter X.env x=pure x:=by intro _;rfl) :
 PO X (.ListComp elt [⟨tg,iter,[c],0⟩] scope pos) (zT src T own.length (fr.map (·.2)) k f):=
 jK (ZI L ok O B (λfp J G=>Yv<|hk fp J G) I hs) (yO z λa H Q h=>h)
theorem Yt(z:X.N.Nodup)(B:X.N[i]? = aI y)(I:Loc X.env.scope y)(P:X.fn y=cI\/X.env.scope.names.lookup y=aI .local)
 (L:X.calm=cI) (ok:zi X scope fr) (O : ∀i∈T.idx,i<own.length) (Z:BA X tg iter src) (R : ∀fp J G,PG (zM X scope (own++fr.map (·.1)) fp J G) tg<|xB X.K T)
 (U : ∀fp J G,PV (zM X scope (own++fr.map (·.1)) fp J G) elt f) (hs : ∀x,xA iter X.env x=pure x:=by intro _;rfl) :
 PS X (.Assign [.Name y py] (.ListComp elt [⟨tg,iter,[],0⟩] scope pos) spos) (Qw (tO X.K<|zT src T own.length (fr.map (·.2)) jE f)<|ku i):=
 kg (J2 z B I P L ok Z R (λ_ _ _=>Jk) U hs) λD a H h=>yO O (λa H Q W=>by obtain⟨d,e,b,rc,Y,q⟩:=W;cases Y;exact q H d<|Ext.refl rc.sub) a H _ h
end
theorem jr{K:pv}{H:Hp}{i:Int}{v:V}(h:Rep K H (.int i) v):v = .int i:=h
theorem QB{K:pv}{g:Int->Int->D}{z:Int->Int->V}(I : ∀H i j,Rep K H (g i j)<|z i j):ov K (xC z) (dI g):=λa H x y b O d Q s rx R B q=>by cases b<;>cases O<;>simp[dI]at B;subst B;exact⟨_,_,jr rx,jr R,q _ H a (Ext.refl s)<|I a _ _⟩
theorem QA{K:pv}{C:Int->Int->Prop}{c:Int->Int->Bool}{g:Int->Int->D}{z:Int->Int->V}(G : ∀i j,c i j=cI->C i j)(I : ∀H i j,Rep K H (g i j)<|z i j):ov K (rI C z) (C9 c g):=λa H x y b O d Q s rx R B q=>by cases b<;>cases O<;>simp[C9]at B;obtain⟨e,U⟩:=B;subst U;exact⟨_,_,jr rx,jr R,G _ _ e,q _ H a (Ext.refl s)<|I a _ _⟩
theorem V6{K:pv}:ov K (xC λi j=> .int (i - j)) Zc:=QB λ_ _ _=>rfl
theorem Y7(h:Qk i j=cI):CB i j:=by unfold Qk at h;rw[rC,decide_eq_true_eq,decide_eq_true_eq]at h;unfold CB;omega
theorem Wb{K:pv}:ov K (rI nD λi j=> .int (i/j)) Qj:=QA (λi j h=>by unfold dO at h;rw[pB,decide_eq_true_eq,decide_eq_true_eq]at h;exact⟨h.1,by omega⟩) λ_ _ _=>rfl
theorem V9{K:pv}:ov K (rI (λ_ j=>0<j) λi j=> .int (i%j)) qd:=QA (λi j h=>by unfold fJ at h;exact of_decide_eq_true h) λ_ _ _=>rfl
theorem V7{K:pv}:ov K (rI nB λi j=> .int (i ^ j.toNat)) KB:=QA (λi j h=>by unfold dM at h;rw[pB,pB,decide_eq_true_eq,decide_eq_true_eq,decide_eq_true_eq]at h;exact⟨h.1.1,by omega,h.2⟩) λ_ _ _=>rfl
theorem aT{K:pv}:ov K (xC λi j=> .bl (decide<|i<j)) BS:=QB λ_ _ _=>rfl
theorem wC{K:pv}:ov K (xC λi j=> .bl (decide<|i<=j)) zp:=QB λ_ _ _=>rfl
theorem aU{K:pv}:ov K (xC λi j=> .bl (decide<|j<i)) vr:=QB λ_ _ _=>rfl
theorem aV{K:pv}:ov K (xC λi j=> .bl (decide<|j<=i)) Cc:=QB λ_ _ _=>rfl
section
variable{X:Cx}
noncomputable def Vk(K:pv):R2:=λx y H Q=>∃a b d e,x = .ref a/\y = .ref b/\i4 K H a d/\i4 K H b e/\d.length+e.length<=i6/\
 (d=[]->Q (.ref b) H)/\(e=[]->Q (.ref a) H)/\∀p,H p=bC->Q (.ref p) (upd H p<|.tup<|d++e)
theorem YC:jn X (BB .Add) (Vk X.K):=by
 intro m s σ H x y v u Q I rx P h;obtain⟨a,b,p,T,rfl,rfl,F,G,U,L,M,N⟩:=h;cases rx;cases P;obtain⟨B,r,W,z1⟩:=I.tuple F;obtain⟨t,O,Y,z2⟩:=I.tuple G;by_cases R:p=[]
 ·have d:B=[]:=(r.DN).mpr R
  obtain⟨⟨C,E,i,S⟩,l,j,n,k⟩:=id W;obtain⟨⟨Z,w,data2,A⟩,e,f,J,g⟩:=id Y;simp only at j k f g;subst j k f g;exact Bm ⟨_,l,rfl⟩ ⟨_,e,rfl⟩ Bo EW Ai Af (uY _ _)
   (tuple_addW0 a b B.toArray t.toArray n J E w S A<|by simp[d]) ⟨l,e,⟨.ref b,H,I,rfl,L R⟩⟩
 ·have d:B ≠ []:=λz=>R ((r.DN).mp z)
  refine HT.lp W Y d (λz=>⟨.ref a,H,I,rfl,M<|(O.DN).mp z⟩) (λ_=>?_) (by rw[<- r.length,<- O.length];exact U);refine⟨.ref s.heap.objs.size,_,I.laid (t':=s.toks) (o:= .tup (p++T)) (λc ob q=>pA _ q) (pN _) ?_,rfl,N _<|I.gv.fresh<|pN _⟩;exact⟨by rw[rE];exact U,_,r.append O,BH.new _ _⟩
noncomputable def bx(K:pv):R2:=λx y H Q=>∃l b a d,x = .ref l/\y = .ref b/\i2 K H l a/\i2 K H b d/\a.length+d.length<=i6/\∀p,H p=bC->Q (.ref p) (upd H p<|.lst<|a++d)
theorem YD:jn X (BB .Add) (bx X.K):=by
 intro a s E H x y v u Q I rx A h;obtain⟨l,b,T,zs,rfl,rfl,p,m,N,q⟩:=h;cases rx;cases A;obtain⟨z,r,⟨o,n,e,O,d,R⟩,Z⟩:=I.list p;obtain⟨B,U,⟨w,t,W,Y,f,g⟩,z2⟩:=I.list m;have P:=r.length;have S:=U.length;obtain⟨cls,l6,M,C⟩:=o;obtain⟨G,J,L,i⟩:=w;simp only at O d R Y f g;subst O d R Y f g;have j:EP X a E Q (.ref s.heap.objs.size) {s with heap:=s.heap.push {cls:= .type "list",data:= .seq (z++B).toArray}}:=
  ⟨.ref _,_,I.FK (t':=s.toks) (r.append U) (by rw[rE];omega),rfl,q _ I.fresh⟩
 have k:z.toArray++B.toArray=(z++B).toArray:=by simp
 refine Bm ⟨_,e,rfl⟩ ⟨_,W,rfl⟩ noFill_list_add seq_list_add PySem.F.slot_list_add PySem.F.entry_list_add (PySem.F.args_list_add_2 _ _)
  (list_addW l b z.toArray B.toArray n t bC bC C i<|by rw[pL,pL];omega) ⟨e,W,?_⟩
 rw[k];exact j
end
noncomputable def qV(scope z:hH):hH:={scope with names:=scope.names.map λp=>if p.2==pU && z.kind == .function && z.names.lookup p.1==aI .cell then (p.1,td)else (p.1,p.2)}
theorem JS(scope:hH)(env:i3):ro scope env=qV scope env.scope:=by unfold ro qV;rfl
structure SX(X:Cx)(sc:hH)(N T:List Str)(k:Nat):Prop where
 xg:X.env.scope=sc
 eN:X.N=N
 nd:N.Nodup
 calm:X.calm=cI
 room:o5 k X.A
 fn : ∀x∈T,X.fn x=cI\/sc.names.lookup x=aI .local
noncomputable def qT(z:hH)(N:List Str)(i:Nat)(x:Str):Bool:=
 decide (N[i]? = aI x) && (decide (z.names.lookup x=aI .local) || decide (z.names.lookup x=aI .cell) || decide (z.names.lookup x=aI .free)) && !(x==("__debug__" : Str)) && !(x==("__classdict__" : Str))
noncomputable def qU(z:hH)(N T:List Str)(i:Nat)(x:Str):Bool:=decide (x∈T) && decide (N[i]? = aI x) && (decide (z.names.lookup x=aI .local) || decide (z.names.lookup x=aI .cell))
noncomputable def qe(z:hH)(x:Str):Bool:=decide (z.names.lookup x=aI .globalImplicit) && !(x==("__name__" : Str)) && !(x==("__debug__" : Str))
section
variable{X:Cx}{sc:hH}{N T:List Str}{k:Nat}{i:Nat}{x:Str}{pos:g9}
theorem SX.var(h:SX X sc N T k)(c:qT sc N i x=cI):PE X (.Name x pos) (KP i):=by
 unfold qT at c;simp only[pB,rC,decide_eq_true_eq,sA]at c;obtain⟨⟨⟨a,h2⟩,z⟩,B⟩:=c;refine Xf (by rw[h.eN];exact a) ?_ z B;unfold CF;rw[h.xg];rcases h2 with(h2 | h2) | h2
 ·exact .inl h2
 ·exact .inr<|.inl h2
 ·exact .inr<|.inr h2
theorem SX.loc(h:SX X sc N T k)(c:qU sc N T i x=cI):X.N[i]? = aI x/\L2.Loc X.env.scope x/\(X.fn x=cI\/X.env.scope.names.lookup x=aI .local):=by
 unfold qU at c;simp only[pB,rC,decide_eq_true_eq]at c;refine⟨by rw[h.eN];exact c.1.2,?_,?_⟩
 ·unfold L2.Loc;rw[h.xg];exact c.2
 ·rw[h.xg];exact h.fn x c.1.1
theorem SX.CQ(h:SX X sc N T k):X.N.Nodup:=by rw[h.eN];exact h.nd
theorem SX.A5(h:SX X sc N T k)(i:Nat)(c:qU sc N T i x=cI):PG X (.Name x pos) (ku i):=by obtain⟨a,b,z⟩:=h.loc c;exact Xe h.CQ a b z
theorem SX.Er(h:SX X sc N T k)(g:C5 X es (gs is))(B:(BQ es X.env).length=is.length:=by rfl)(z:(BQ es X.env).findIdx? (·.1)=bC:=by rfl):PG X (.Tuple es j pos) (xB X.K<|.tp is):=
 bP h.calm g B z
theorem SX.set(h:SX X sc N T k)(i:Nat)(c:qU sc N T i x=cI)(z:PE X e te)(hs:t6 e (aI (.Name x pos')) pos.line X.env=pure dV:=by rfl):PS X (.Assign [.Name x pos'] e pos) (Qw te<|ku i):=by obtain⟨a,b,B⟩:=h.loc c;exact Vr h.CQ a b z hs B
theorem SX.gl(h:SX X sc N T k)(c:qe sc x=cI):Gl X x/\x ≠ "__name__"/\(x==("__debug__" : Str))=dV:=by
 unfold qe at c;simp only[pB,decide_eq_true_eq,sA]at c;refine⟨?_,?_,c.2⟩
 ·show X.env.scope.names.lookup x=_
  rw[h.xg];exact c.1.1
 ·intro e;rw[e]at c;simp at c
noncomputable def ZT(sc scope:hH)(N:List Str)(fr:List (Str×Nat)):Bool:=
 decide (scope.kind = .function) && decide ((scope.names.map (·.1)).Nodup) && scope.names.all (λp=> !(p.2==pU) || decide (sc.names.lookup p.1=aI .cell) || decide (sc.names.lookup p.1=aI .free)) &&
 fr.all λp=>decide (scope.names.lookup p.1=aI .free) && decide (N[p.2]? = aI p.1)
noncomputable def gD(own:List Str)(scope:hH)(fr:List (Str×Nat)):Bool:=decide ((own++fr.map (·.1)).Nodup) && own.all (λx=>decide (scope.names.lookup x=aI .local) || decide (scope.names.lookup x=aI .cell))
theorem SX.EJ(h:SX X sc N T k)(c:ZT sc scope N fr=cI):zi X scope fr:=by
 unfold ZT at c;simp only[pB,decide_eq_true_eq,rz,rC,sA]at c;obtain⟨⟨⟨I,a⟩,O⟩,B⟩:=c;refine⟨I,a,λp z b=>?_,λp z=>⟨(B p z).1,by rw[h.eN];exact(B p z).2⟩⟩;have e:X.env.kindOf p.1=sc.names.lookup p.1:=by show X.env.scope.names.lookup p.1=_;rw[h.xg]
 rw[e];rcases O p z with(q | q) | q
 ·rw[b]at q;exact absurd q ⋯
 ·exact .inl q
 ·exact .inr q
theorem yG(scope sc:hH)(x:Str):(qV scope sc).names.lookup x=(scope.names.lookup x).map λk=>if (k==pU && sc.kind == .function && sc.names.lookup x==aI .cell)then td else k:=by
 unfold qV;dsimp only;generalize scope.names=l
 induction l with
 | nil=>rfl
 | cons p r z=>
  obtain⟨n,B⟩:=p;rw[rM];cases hx:x==n with
  | true=>
   have e:x=n:=by simpa using hx
   subst e;dsimp only;split
   ·rename_i a;rw[rq,rq,beq_self_eq_true];dsimp only[AM];rw[GY a]
   ·rename_i a;rw[rq,rq,beq_self_eq_true];dsimp only[AM];rw[MQ a]
  | false=>
   dsimp only;split
   ·rw[rq,rq,hx];exact z
   ·rw[rq,rq,hx];exact z
theorem SX.comp(h:SX X sc N T k)(c:gD own scope fr=cI) :
 SX (zM X scope (own++fr.map (·.1)) fp s2 H2) (qV scope sc) (own++fr.map (·.1)) own k:=by
 unfold gD at c;simp only[pB,decide_eq_true_eq,rz,rC]at c;refine⟨?_,rfl,c.1,h.calm,h.room,λx a=>?_⟩
 ·show ro scope X.env=_
  rw[JS,h.xg]
 ·rcases c.2 x a with q | q
  ·right;rw[yG,q];rfl
  ·left
   show(scope.names.lookup x==aI .cell)=cI;rw[q];rfl
theorem SX.cq(h:SX X sc N T k)(own:List Str)(fr:List (Str×Nat))(fp:List cS)(B:eM)(z:Hp)(c:gD own scope fr=cI) :
 SX (zM X scope (own++fr.map (·.1)) fp B z) (qV scope sc) (own++fr.map (·.1)) own k:=h.comp c
end
mutual
def l8:D->PyData
 | .g8=> .none
 | .bl b=> .bool b
 | .int i=> .int i
 | .str x=> .str x
 | .tup a=> .tuple (y0 a)
 | .lst a=> .list (y0 a)
 | .exc _ _=> .none
 | .n4 _ _=> .none
 | .l6 _ _=> .none
 | .ins _ _ _=> .none
def y0:List D->List PyData
 | []=>[]
 | d::ds=>l8 d::y0 ds
end
theorem B2(h:m8 (.exc c n)=cI):False:=by simp[m8]at h
theorem B1(h:m8 (.n4 ks vs)=cI):False:=by simp[m8]at h
theorem B3{c:Str}{p t:D}(h:m8 (.ins c p t)=cI):False:=by simp[m8]at h
theorem B0(h:m8 (.l6 ks vs)=cI):False:=by simp[m8]at h
mutual
theorem Ea : ∀x y:D,m8 x=cI->m8 y=cI->ur (l8 x) (l8 y)=m3 x y
 | .g8,y,_,h=>by cases y<;>first | exact(B2 h).elim | exact(B1 h).elim | exact(B0 h).elim | exact(B3 h).elim | simp[l8,ur,m3]
 | .bl a,y,_,h=>by cases y<;>first | exact(B2 h).elim | exact(B1 h).elim | exact(B0 h).elim | exact(B3 h).elim | simp[l8,ur,m3]
 | .int a,y,_,h=>by cases y<;>first | exact(B2 h).elim | exact(B1 h).elim | exact(B0 h).elim | exact(B3 h).elim | simp[l8,ur,m3]
 | .str a,y,_,h=>by cases y<;>first | exact(B2 h).elim | exact(B1 h).elim | exact(B0 h).elim | exact(B3 h).elim | simp[l8,ur,m3]
 | .exc c n,y,h,_=>(B2 h).elim
 | .n4 c n,y,h,_=>(B1 h).elim
 | .l6 c n,y,h,_=>(B0 h).elim
 | .ins c p t,y,h,_=>(B3 h).elim
 | .tup xs,y,h1,h2=>by
  cases y with
  | tup b=>simp only[m8]at h1 h2;simp only[l8,ur,m3];exact Eb xs b h1 h2
  | exc c n=>exact(B2 h2).elim
  | n4 c n=>exact(B1 h2).elim
  | l6 c n=>exact(B0 h2).elim
  | ins c p t=>exact(B3 h2).elim
  | _=>simp[l8,ur,m3]
 | .lst xs,y,h1,h2=>by
  cases y with
  | lst b=>simp only[m8]at h1 h2;simp only[l8,ur,m3];exact Eb xs b h1 h2
  | exc c n=>exact(B2 h2).elim
  | n4 c n=>exact(B1 h2).elim
  | l6 c n=>exact(B0 h2).elim
  | ins c p t=>exact(B3 h2).elim
  | _=>simp[l8,ur,m3]
theorem Eb : ∀xs z:List D,Bu xs=cI->Bu z=cI->AA (y0 xs) (y0 z)=Br xs z
 | [],z,_,_=>by cases z<;>simp[y0,AA,Br]
 | x::xs,z,h1,h2=>by
  cases z with
  | nil=>simp[y0,AA,Br]
  | cons y z=>
   simp only[Bu,pB]at h1 h2;simp only[y0,AA,Br];rw[Ea x y h1.1 h2.1,Eb xs z h1.2 h2.2]
end
mutual
theorem EN : ∀x:D,m8 x=cI->(l8 x).canLay0=cI
 | .g8,_=>by simp[l8,uv]
 | .bl a,_=>by simp[l8,uv]
 | .int a,_=>by simp[l8,uv]
 | .str a,h=>by simpa[l8,uv,m8,PyData.strOk]using h
 | .tup xs,h=>by simp only[m8]at h;simp only[l8,uv];exact Ef xs h
 | .lst xs,h=>by simp only[m8]at h;simp only[l8,uv];exact Ef xs h
 | .exc c n,h=>(B2 h).elim
 | .n4 c n,h=>(B1 h).elim
 | .l6 c n,h=>(B0 h).elim
 | .ins c p t,h=>(B3 h).elim
theorem Ef : ∀xs:List D,Bu xs=cI->AL (y0 xs)=cI
 | [],_=>by simp[y0,AL]
 | x::xs,h=>by simp only[Bu,pB]at h;simp only[y0,AL];rw[EN x h.1,Ef xs h.2];rfl
end
mutual
theorem EK : ∀x:D,(l8 x).depth=deep x
 | .g8=>by simp[l8,tm,deep]
 | .bl a=>by simp[l8,tm,deep]
 | .int a=>by simp[l8,tm,deep]
 | .str a=>by simp[l8,tm,deep]
 | .exc c n=>by simp[l8,tm,deep]
 | .n4 c n=>by simp[l8,tm,deep]
 | .l6 c n=>by simp[l8,tm,deep]
 | .ins c p t=>by simp[l8,tm,deep]
 | .tup b=>by simp only[l8,tm,deep];rw[D9 b]
 | .lst b=>by simp only[l8,tm,deep];rw[D9 b]
theorem D9 : ∀xs:List D,PyData.depthAll (y0 xs)=BU xs
 | []=>by simp[y0,PyData.depthAll,BU]
 | x::xs=>by simp only[y0,PyData.depthAll,BU];rw[EK x,D9 xs]
end
theorem xq(h:n7 d=cI):m8 d=cI:=by unfold n7 at h;rw[pB]at h;exact h.2
theorem kc(h:n7 d=cI):SeqAt.shaped (l8 d)=cI:=by unfold n7 at h;rw[pB,decide_eq_true_eq]at h;unfold SeqAt.shaped;rw[EN d h.2,Bool.true_and,EK];exact decide_eq_true ⋯
section
variable{X:Cx}{pins:GW}{σ:St}{H0 H:Hp}{s:eM}
mutual
theorem Dm(I:Inv X pins σ H s)(sub:i1 H0 H) : ∀{d:D} {v:V} {u:eF},m8 d=cI->Rep X.K H0 d v->RelV v u->∃z,Reads s.heap u (l8 d) z
 | .g8,v,u,_,h,r=>by cases (show v = .g8 from h);cases r;exact⟨_,.none⟩
 | .bl b,v,u,_,h,r=>by cases (show v = .bl b from h);cases r;exact⟨_,.bool b⟩
 | .int i,v,u,_,h,r=>by cases (show v = .int i from h);obtain⟨t,rfl⟩:=r;exact⟨_,.int i t⟩
 | .str x,v,u,_,h,r=>by cases (show v = .str x from h);obtain⟨t,rfl⟩:=r;exact⟨_,.str x t⟩
 | .exc c n,v,u,o,_,_=>(B2 o).elim
 | .n4 c n,v,u,o,_,_=>(B1 o).elim
 | .l6 c n,v,u,o,_,_=>(B0 o).elim
 | .ins c p t,v,u,o,_,_=>(B3 o).elim
 | .tup ds,v,u,o,h,r=>by obtain⟨a,e,rfl,f,g⟩:=(show ∃a e,v = .ref a/\i4 X.K H0 a e/\eS X.K H0 ds e from h);cases r;simp only[m8]at o;obtain⟨R,B,⟨U,O,j,n,k⟩,W⟩:=I.tuple<|u3 sub f;obtain⟨z,l⟩:=El I sub o g B;exact⟨z,.tuple O j k<|by simpa using l⟩
 | .lst ds,v,u,o,h,r=>by obtain⟨a,e,rfl,f,g⟩:=(show ∃a e,v = .ref a/\i2 X.K H0 a e/\eS X.K H0 ds e from h);cases r;simp only[m8]at o;obtain⟨R,B,p,W⟩:=I.list<|sub.seq f;obtain⟨U,O,j,n,k⟩:=p.isList;obtain⟨z,l⟩:=El I sub o g B;exact⟨_,.list O j k<|by simpa using l⟩
theorem El(I:Inv X pins σ H s)(sub:i1 H0 H) : ∀{G:List D} {xs:List V} {J:List eF},Bu G=cI->eS X.K H0 G xs->hA xs J->∃z,ReadsAll s.heap J (y0 G) z
 | [],xs,J,_,h,r=>by rw[h.Bt]at r;cases r;exact⟨_,.nil⟩
 | d::G,xs,J,o,h,r=>by
  obtain⟨x,t,e,a,b⟩:=h.u9;subst e;simp only[Bu,pB]at o;cases r with
  | cons B O=>
   obtain⟨z,f⟩:=Dm I sub o.1 a B;obtain⟨bs,R⟩:=El I sub o.2 b O;exact⟨_,.cons f R⟩
end
end
noncomputable def mD(K:pv):R2:=λx y H Q=>∃a b z,i1 a H/\Rep K a b x/\Rep K a z y/\n7 b=cI/\n7 z=cI/\Q (.bl<|m3 b z) H
noncomputable def mC(K:pv):R2:=λx y H Q=>∃a b z,i1 a H/\Rep K a b x/\Rep K a z y/\n7 b=cI/\n7 z=cI/\Q (.bl<|!m3 b z) H
theorem Vv(O:X.A.units+64<cLine):jn X (o9 .Eq) (mD X.K):=by intro a s g H x y v u Q I rx R h;obtain⟨d,e,f,sub,U,W,z,B,q⟩:=h;obtain⟨as,b⟩:=Dm I sub (xq z) U rx;obtain⟨bs,Y⟩:=Dm I sub (xq B) W R;exact eq_dataH b Y (kc z) (kc B) O ⟨.bl _,H,I,by rw[Ea _ _ (xq z) (xq B)];rfl,q⟩
theorem Vu(O:X.A.units+64<cLine):jn X (o9 .NotEq) (mC X.K):=by intro a s g H x y v u Q I rx R h;obtain⟨d,e,f,sub,U,W,z,B,q⟩:=h;obtain⟨as,b⟩:=Dm I sub (xq z) U rx;obtain⟨bs,Y⟩:=Dm I sub (xq B) W R;exact ne_dataH b Y (kc z) (kc B) O ⟨.bl _,H,I,by rw[Ea _ _ (xq z) (xq B)];rfl,q⟩
theorem QC{K:pv}:ov K (mD K) i0:=λa H x y b B d Q s rx I z q=>by
 unfold i0 at z;split at z
 ·rename_i h;cases z;exact⟨a,b,B,s,rx,I,h.1,h.2,q _ H a (Ext.refl s) rfl⟩
 ·cases z
theorem Qz{K:pv}:ov K (mC K) mi:=λa H x y b B d Q s rx I z q=>by
 unfold mi at z;split at z
 ·rename_i h;cases z;exact⟨a,b,B,s,rx,I,h.1,h.2,q _ H a (Ext.refl s) rfl⟩
 ·cases z
theorem SX.DV(h:SX X sc N T k):X.A.units+64<cLine:=by have:=h.room.un;omega
section
variable{X:Cx}{sc:hH}{N T:List Str}{k:Nat}{a b c:f6}{pos p:g9}{fa fb fc:CO D}
theorem kW(B:PV X a fa)(z:PV X b fb):PV X (.BinOp a .Sub b pos) (zt Zc fa fb):=vq cp V6 B z
theorem vo(B:PV X a fa)(z:PV X b fb):PV X (.BinOp a .FloorDiv b pos) (zt Qj fa fb):=vq WK Wb B z
theorem jt(B:PV X a fa)(z:PV X b fb):PV X (.BinOp a .Mod b pos) (zt qd fa fb):=vq cC V9 B z
theorem QZ(B:PV X a fa)(z:PV X b fb):PV X (.BinOp a .Pow b pos) (zt KB fa fb):=vq cu V7 B z
theorem ie(B:PV X a fa)(z:PV X b fb):PV X (.Compare a [.LtE] [b] pos) (zt zp fa fb):=Jh Xk wC B z<|kl b
theorem ig(B:PV X a fa)(z:PV X b fb):PV X (.Compare a [.GtE] [b] pos) (zt Cc fa fb):=Jh iE aV B z<|kl b
theorem JY(h:SX X sc N T k)(B:PV X a fa)(z:PV X b fb):PV X (.Compare a [.Eq] [b] pos) (zt i0 fa fb):=Jh (Vv h.DV) QC B z<|kl b
theorem ic(h:SX X sc N T k)(B:PV X a fa)(z:PV X b fb):PV X (.Compare a [.NotEq] [b] pos) (zt mi fa fb):=Jh (Vu h.DV) Qz B z<|kl b
theorem Vp(B:PV X a fa)(z:PV X b fb):oI X (.Compare a [.Lt] [b] pos) (sB<|zt BS fa fb):=yA iB aT B z<|kl b
theorem Ji(B:PV X a fa)(z:PV X b fb):oI X (.Compare a [.Gt] [b] pos) (sB<|zt vr fa fb):=yA iD aU B z<|kl b
theorem jD(h:SX X sc N T k)(B:PV X a fa)(z:PV X b fb):oI X (.Compare a [.Eq] [b] pos) (sB<|zt i0 fa fb):=yA (Vv h.DV) QC B z<|kl b
theorem xo(h:SX X sc N T k)(B:PV X a fa)(z:PV X b fb):oI X (.Compare a [.NotEq] [b] pos) (sB<|zt mi fa fb):=yA (Vu h.DV) Qz B z<|kl b
theorem Zy{K:pv}{H:Hp}{d:D}(h:Rep K H d .g8):d = .g8:=by
 cases d with
 | g8=>rfl
 | bl b=>exact V.noConfusion (show V.g8 = .bl b from h)
 | int b=>exact V.noConfusion (show V.g8 = .int b from h)
 | str b=>exact V.noConfusion (show V.g8 = .str b from h)
 | tup b=>obtain⟨a,f,e,_⟩:=h;cases e
 | lst b=>obtain⟨a,f,e,_⟩:=h;cases e
 | exc c n=>obtain⟨a,e,_⟩:=h;cases e
 | n4 c n=>obtain⟨a,f,e,_⟩:=h;cases e
 | l6 c n=>obtain⟨a,f,e,_⟩:=h;cases e
 | ins c p t=>obtain⟨a,C,g,z,B,e,_⟩:=h;cases e
theorem Wa{K:pv}:ov K (λx y H Q=>y = .g8/\Q (.bl<|decide<|x = .g8) H) dH:=λa H x y b B d Q s rx I z q=>by
 cases B with
 | g8=>
  refine⟨I,?_⟩;cases b with
  | g8=>cases z;rw[show x=V.g8 from rx];exact q _ H a (Ext.refl s) (by simp;rfl)
  | _=>
   cases z;refine q _ H a (Ext.refl s) ?_;have : ¬x=V.g8:=λe=>by rw[e]at rx;exact D.noConfusion<|Zy rx
   rw[decide_eq_false this];rfl
 | _=>cases b<;>cases z
theorem Ww(B:PV X a fa)(z:PV X b fb):oI X (.Compare a [.Is] [b] pos) (sB<|zt dH fa fb):=yA cD Wa B z<|kl b
theorem kG{K:pv}{H:Hp}{z:List D}{v:V}(h:Rep K H (.tup z) v) : ∃a xs,v = .ref a/\i4 K H a xs/\eS K H z xs:=h
theorem ZL{K:pv}{H:Hp}{z:List D}{v:V}(h:Rep K H (.lst z) v) : ∃a xs,v = .ref a/\i2 K H a xs/\eS K H z xs:=h
theorem qt{K:pv}{H:Hp}{z:List D}{a:cS}{xs:List V}(B:i4 K H a xs)(G:eS K H z xs):Rep K H (.tup z) (.ref a):=⟨a,xs,rfl,B,G⟩
theorem Zx{K:pv}{H:Hp}{z:List D}{a:cS}{xs:List V}(B:i2 K H a xs)(G:eS K H z xs):Rep K H (.lst z) (.ref a):=⟨a,xs,rfl,B,G⟩
theorem Wc{K:pv}:ov K (λx y H Q=>xC (λi j=> .int (i+j)) x y H Q\/Vk K x y H Q) qE:=λg H x y l W d Q s rx O B q=>by
 cases l<;>cases W<;>simp[qE]at B
 ·subst B;exact .inl ⟨_,_,jr rx,jr O,q _ H g (Ext.refl s) rfl⟩
 ·rename_i k m
  obtain⟨Y,rfl⟩:=B;obtain⟨a,n,rfl,h,f⟩:=kG rx;obtain⟨b,o,rfl,R,z⟩:=kG O;refine .inr ⟨a,b,n,o,rfl,rfl,u3 s h,u3 s R,xu (by rw[f.length,z.length];exact Y),λe=>?_,λe=>?_,λp U=>?_⟩
  ·have I:k=[]:=by
    have:=f.length;rw[e]at this;exact rK this.symm
   subst I;exact q _ H g (Ext.refl s)<|qt R z
  ·have I:m=[]:=by
    have:=z.length;rw[e]at this;exact rK this.symm
   subst I;exact q _ H g (Ext.refl s) (by rw[List.append_nil];exact qt h f)
  ·exact q _ _ _ (Ext.alloc s U _)<|qt (i4.of zq)<|(f.append z).mono (zY (jg s U) _)
theorem j9(B:PV X a fa)(z:PV X b fb):PV X (.BinOp a .Add b pos) (zt qE fa fb):=vq (FT.or YC) Wc B z
end
theorem Z5(O:A.handled=bC)(k:Sk)(I z:cS)(R:z≠I)(B:Array eF) :
 Walks P w A I [I,z] [I] B.size (λi v=>B[i]? = aI v) (λi h=>oC k h I z i/\tG k h z B):=by
 cases k
 ·exact Walks.list O I z R B
 ·exact Walks.tuple O I z R B
theorem yB(B:List Int) : ∀n,preSum (λi=>B.getD i 0) n=(B.take n).sum
 | 0=>by simp[preSum]
 | n+1=>by
  have z:=yB B n;simp only[preSum,z];by_cases h:n<B.length
  ·rw[List.take_succ_eq_append_getElem h,List.sum_append]
   simp[h]
  ·rw[Ap ⋯,Ap ⋯]
   simp[h]
section
variable{X:Cx}{pins:GW}{σ:St}{H:Hp}{s:eM}
theorem Kd(L:X.calm=cI):Zl X (.builtin "sum") (λxs H Q=>∃p k J G,xs=[.ref p]/\o3 k X.K H p J/\J=(G:List Int).map V.int/\Q (.int G.sum) H):=by
 intro pins s σ H y w Q I W h;obtain⟨p,k,J,G,rfl,j,rfl,q⟩:=h;obtain⟨u,rfl,B⟩:=vM W;cases B;obtain⟨z,r,a,n⟩:=I.sq j;have lt:=a.lt;have O:=r.length;rw[pR]at O;refine call_sum_walkG<|Jq a ⟨_,[_,p],[_],z.toArray.size,_,_,λi=>G.getD i 0,rfl,Z5 (A:=X.A.in1) (I.ok.hd L) k _ p (pP lt) z.toArray,⟨Jr k _ p,a.at λo e=>pA _ e⟩,?_,?_,?_⟩
 ·intro b R
  rw[rX];simp only[pM,rp,or_false]at R;rcases R with rfl | rfl
  ·exact uJ _
  ·exact sf lt
 ·intro i v Y
  have U:z[i]? = aI v:=by simpa using Y
  have f:i<G.length:=by rw[O];exact(pW.mp U).1
  obtain⟨u,d,B⟩:=r.get (i:=i) (x:= .int G[i]) (by simp[f]);rw[U]at d;cases d;obtain⟨t,rfl⟩:=B;exact⟨t,by simp[f]⟩
 ·intro m l t' g
  have e:preSum (λi=>G.getD i 0) z.toArray.size=G.sum:=by rw[yB,Ap (by rw[pL,O];exact pN _)]
  refine⟨.int G.sum,H,I.kept (t':=l)<|λb u e=>g b u ?_ (pA _ e),⟨t',by rw[e]⟩,q⟩;simp only[pM,rp,or_false];exact pP<|pE e
noncomputable def aK:V->Option Bool
 | .g8=>aI dV
 | .bl b=>aI b
 | .int i=>aI (i != 0)
 | _=>bC
theorem KO(r:RelV x u)(e:aK x=aI b)(q:Q b s):wpAny (fh P w) A (truthy u) Q E s:=by
 cases x with
 | g8=>cases r;cases e;exact λ_ _ _=>q
 | bl c=>cases r;cases e;exact sG q
 | int i=>obtain⟨t,rfl⟩:=r;cases e;exact PyProof.Rows.truthy_int q
 | _=>cases e
noncomputable def Qt:List V->Option (List Bool)
 | []=>aI []
 | x::r=>(aK x).bind λb=>(Qt r).map λl=>b::l
theorem wx : ∀{xs:List V} {bs:List Bool},Qt xs=aI bs->bs.length=xs.length/\∀(i:Nat) x,xs[i]? = aI x->aK x=aI (bs.getD i dV)
 | [],bs,h=>by cases h;exact⟨rfl,λi x e=>by simp at e⟩
 | y::xs,bs,h=>by
  obtain⟨b,a,h⟩:=zc h;obtain⟨l,z,h⟩:=zw h;subst h;obtain⟨d,f⟩:=wx z;refine⟨by simp[d],λi x e=>?_⟩;cases i with
  | zero=>simp at e;subst e;simpa using a
  | succ i=>simpa using f i x (by simpa using e)
theorem Kp(bs:List Bool):(pK bs.length).all (λi=>bs.getD i dV)=bs.all id:=by
 rw[Bool.eq_iff_iff];simp only[rz,sW,id_eq];constructor
 ·intro h b z
  obtain⟨i,a,e⟩:=List.mem_iff_getElem.mp z;have:=h i a;rw[List.getD_eq_getElem?_getD,pC a]at this;rw[<- e];exact this
 ·intro h i a
  rw[List.getD_eq_getElem?_getD,pC a];exact h _<|tY a
theorem Kg(J:X.calm=cI):Zl X (.builtin "all") (λxs H Q=>∃p k G bs,xs=[.ref p]/\o3 k X.K H p G/\Qt G=aI bs/\Q (.bl (bs.all id)) H):=by
 intro pins s σ H M L Q I U h;obtain⟨p,k,G,bs,rfl,m,W,q⟩:=h;obtain⟨u,rfl,B⟩:=vM U;cases B;obtain⟨z,r,a,E⟩:=I.sq m;have lt:=a.lt;have O:=r.length;obtain⟨Y,g⟩:=wx W;refine call_all_walk<|Jq a ⟨_,[_,p],[_],z.toArray.size,_,_,λi=>bs.getD i dV,rfl,Z5 (A:=X.A.in1) (I.ok.hd J) k _ p (pP lt) z.toArray,⟨Jr k _ p,a.at λo e=>pA _ e⟩,?_,?_⟩
 ·intro i v F y w n j
  have R:z[i]? = aI v:=by simpa using n
  have f:i<G.length:=by rw[O];exact(pW.mp R).1
  obtain⟨u,d,B⟩:=r.get (i:=i) (x:=G[i]) (by simp[f]);rw[R]at d;cases d;exact KO B (g i G[i] (by simp[f])) j
 ·intro C t l
  have e:(pK z.toArray.size).all (λi=>bs.getD i dV)=bs.all id:=by rw[pL,<- O,<- Y];exact Kp bs
  refine⟨.bl<|bs.all id,H,I.kept (t':=t)<|λb u e=>l b u ?_ (pA _ e),by rw[e];rfl,q⟩;simp only[pM,rp,or_false];exact pP<|pE e
end
section
variable{X:Cx}{sc:hH}{N T:List Str}{k:Nat}{e a b c:f6}{pos p p2:g9}{f g:CO D}{fq:CO (Sk×List D)}
theorem gF{K:pv}{H:Hp}{k:Sk}{a:cS}{xs:List V}(h:o3 k K H a xs):i2 K H a xs\/i4 K H a xs:=by
 cases k
 ·exact .inl h
 ·exact .inr h
theorem jd(h:SX X sc N T k)(c:qe sc "len" = cI)(z:X.mg "len" = bC)(G:PQ X e fq)(hs:hX [e] X.env=[(dV,fk e X.env)]:=by rfl):PV X (.Call (.Name "len" p) [e] [] pos) (j7 fq):=
 jK (kh Ze (h.gl c).1 z PySem.boot_len (jH G qB hs) ⋯ ⋯ hs rfl) λt H Q B=>by obtain⟨j,o,d,rc,I,q⟩:=B;obtain⟨⟨n,f⟩,l,O⟩:=zw I;subst O;refine⟨j,o,n,f,rc,l,λa g i b ext m s r=>⟨a,g,rfl,gF m,?_⟩⟩;exact q _ i b ext (show V.int g.length = .int f.length by rw[r.length])
theorem qA(h:SX X sc N T k)(c:qe sc "tuple" = cI)(z:X.mg "tuple" = bC)(G:PQ X e fq)(hs:hX [e] X.env=[(dV,fk e X.env)]:=by rfl):PV X (.Call (.Name "tuple" p) [e] [] pos) (ja fq):=
 jK (Xh wg (h.gl c).1 z uO (jH G qB hs) ⋯ ⋯ hs rfl) λu H Q I=>by
  obtain⟨j,t,d,rc,O,q⟩:=I;obtain⟨⟨g,m⟩,n,R⟩:=zw O;subst R;refine⟨j,t,g,m,rc,n,λa s i b ext f o r=>⟨a,s,rfl,?_⟩⟩;cases g with
  | L=>exact .inl ⟨f,λl B=>q _ _ _ (ext.trans<|Ext.alloc ext.sub B _)<|qt (i4.of zq)<|r.mono<|zY (jg ext.sub B) _⟩
  | T=>exact .inr ⟨f,q _ i b ext (qt (o rfl) r)⟩
theorem kj{H B:Hp}(s:i1 H B){a:cS}(h:B a=bC):H a=bC:=by
 cases z:H a with
 | none=>rfl
 | some o=>rw[s a o z]at h;cases h
theorem wy : ∀{B:List D} {n:Int},aS B=aI n->∃z:List Int,B=z.map D.int/\n=z.sum
 | [],n,h=>by cases h;exact⟨[],rfl,rfl⟩
 | d::B,n,h=>by
  cases d with
  | int i=>
   obtain⟨s,e,h⟩:=zw h;obtain⟨z,rfl,rfl⟩:=wy e;exact⟨i::z,rfl,by rw[<- h];simp⟩
  | _=>cases h
theorem wH{K:pv}{H:Hp} : ∀{B:List Int} {xs:List V},eS K H (B.map D.int) xs->xs=B.map V.int
 | [],xs,h=>h.Bt
 | z::B,xs,h=>by obtain⟨x,r,e,a,b⟩:=eS.u9 h;rw[e,jr a,wH b];rfl
theorem QY(h:SX X sc N T k)(c:qe sc "sum" = cI)(z:X.mg "sum" = bC)(G:PQ X e fq)(hs:hX [e] X.env=[(dV,fk e X.env)]:=by rfl):PV X (.Call (.Name "sum" p) [e] [] pos) (KW fq):=
 jK (kh (Kd h.calm) (h.gl c).1 z PyProof.Rows.boot_sum (jH G qB hs) ⋯ ⋯ hs rfl) λw H Q O=>by obtain⟨j,t,d,rc,B,q⟩:=O;obtain⟨⟨f,l⟩,m,B⟩:=zc B;obtain⟨n,R,U⟩:=zw B;subst U;obtain⟨g,I,rfl⟩:=wy R;have I:l=g.map D.int:=I;subst I;exact⟨j,t,f,_,rc,m,λa s i b ext o u r=>⟨a,f,s,g,rfl,o,wH r,q _ i b ext rfl⟩⟩
theorem V1{K:pv}{H:Hp}{d:D}{x:V}{b:Bool}(h:Rep K H d x)(e:gm d=aI b):aK x=aI b:=by
 cases d with
 | g8=>cases (show x = .g8 from h);exact e
 | bl c=>cases (show x = .bl c from h);exact e
 | int i=>cases (show x = .int i from h);exact e
 | _=>cases e
theorem Z7{K:pv}{H:Hp} : ∀{G:List D} {xs:List V} {bs:List Bool},eS K H G xs->yq G=aI bs->Qt xs=aI bs
 | [],xs,bs,h,e=>by rw[h.Bt];exact e
 | d::G,xs,bs,h,e=>by obtain⟨x,r,z,f,g⟩:=h.u9;obtain⟨b,a,e⟩:=zc e;obtain⟨l,B,e⟩:=zw e;subst z e;show(aK x).bind _=_;rw[V1 f a];show((Qt r).map λl=>b::l)=_;rw[Z7 g B];rfl
theorem yz(h:SX X sc N T k)(c:qe sc "all" = cI)(z:X.mg "all" = bC)(G:PQ X e fq)(hs:hX [e] X.env=[(dV,fk e X.env)]:=by rfl):PV X (.Call (.Name "all" p) [e] [] pos) (JR fq):=
 jK (kh (Kg h.calm) (h.gl c).1 z PyProof.Rows.boot_all (jH G qB hs) ⋯ ⋯ hs rfl) λt H Q I=>by obtain⟨i,n,d,rc,B,q⟩:=I;obtain⟨⟨f,o⟩,j,B⟩:=zc B;obtain⟨bs,O,R⟩:=zw B;subst R;exact⟨i,n,f,_,rc,j,λa m g b ext l s r=>⟨a,f,m,bs,rfl,l,Z7 r O,q _ g b ext rfl⟩⟩
theorem Vo(h:SX X sc N T k)(c:qe sc "max" = cI)(z:X.mg "max" = bC)(G:PV X a f)(U:PV X b g)(hs:hX [a,b] X.env=[(dV,fk a X.env),(dV,fk b X.env)]:=by rfl)(I:hX [b] X.env=[(dV,fk b X.env)]:=by rfl) :
 PV X (.Call (.Name "max" p) [a,b] [] pos) (Zw f g):=
 jK (kh (Kf h.calm) (h.gl c).1 z PyProof.Rows.boot_max (jH G (jH U qB I)<|by rw[hs,I]) ⋯ ⋯ (by rw[hs,I]) (by rw[I];rfl)) λE H Q W=>by obtain⟨n,m,d,rc,B,q⟩:=W;obtain⟨i,l,B⟩:=zc B;obtain⟨Y,u,l⟩:=zc l;obtain⟨j,O,B⟩:=zw B;obtain⟨t,w,O⟩:=zc O;subst B;refine⟨n,m,Y,rc,u,λv A e x r=>⟨e,m,t,rc.ext x,w,λC o s y R=>⟨i,j,?_,q _ o s (x.trans y) rfl⟩⟩⟩;rw[jQ l]at r;rw[jQ O]at R;rw[jr r,jr R]
end
end DL
namespace DL
open PySem PySem.Spec PySem.Calls PyProof.Rows PySem.W PySem.Builtin PySem.Builtin.ObjectAttr PySem.Builtin.Getset_descriptor
section
variable{prog:iv}{w:h8}{A:i7}{E:GQ}{s:eM}{K:Frag}{x C:cS}
theorem xK(x:vH h a C):Looks M h (typeOf<|.ref a) (.ref C):=by obtain⟨o,e,z,b,d⟩:=x;exact b ▸ (Looks.ld z).andThen .now
structure Co(K:Frag)(C:cS):Prop where
 ga:findIn K (.ref C) "__getattribute__" = aI (aI (.builtin "BaseException.__getattribute__"))
 gn:findIn K (.ref C) "__getattr__" = aI bC
 ca:findIn K (.ref C) "__class__" = aI (aI (.builtin "object.__class__"))
 gt:specialIn K (.builtin "object.__class__") "__get__" = aI (aI (.builtin "getset_descriptor.__get__"))
 tk:takesIn K (.builtin "object.__class__")=aI cI
 mo:mroIn K C (.type "object")=aI cI
 mb:mroIn K C (.type "BaseException")=aI cI
theorem YS(X:K.In h)(G:Co K C):Looks M h (find (.ref x) (.ref C) "__class__") (.bind (.builtin "getset_descriptor.__get__") (.builtin "object.__class__")):=by have z:=looks_findIn (M:=M) X G.ca;have B:Looks M h (getOf (aI (.builtin "object.__class__"))) (aI (.builtin "getset_descriptor.__get__")):=looks_specialIn X G.gt;have I:=looks_takesIn (M:=M) X G.tk;have O:Looks M h (dataDescriptor? (aI (.builtin "object.__class__")) (aI (.builtin "getset_descriptor.__get__"))) (aI (.builtin "getset_descriptor.__get__",.builtin "object.__class__")):=I.andThen .now;exact z.andThen (B.andThen (O.andThen (Looks.tag .now)))
theorem YT(X:K.In s.heap)(I:vH s.heap x C)(G:Co K C)(h:R (.ok<|.ret<|.ref C) s) :
 codeAny (fh prog w) A (.call (.builtin "getset_descriptor.__get__") ⟨[.builtin "object.__class__",.ref x,tp],[]⟩) R s:=by
 obtain⟨a,g0,z,B,O⟩:=s;have U:=xK (M:=fh prog w) I;have W:=looks_mroIn (M:=fh prog w) X G.mo;refine ua KF.slot_gs.plain KF.entry_gs<|KF.slot_gs.check _ _ _ _ _ _ _ _ KF.type_class (KF.args_gs _ _ _) ?_;unfold Builtin.«getset_descriptor.__get__» descrGet;rw[dga_obj];refine pw<|pD ?_;unfold descrGetter descrCheckInstance descrNameAndClass isInstance;simp only[KF.owner_class]
 repeat lk
 refine And.intro (AO _ ⋯)<|codeAny_builtin KF.entry_class ?_;unfold Builtin.«object.__class__» shownTypeOf
 repeat lk
 exact h
theorem Zb(X:K.In s.heap)(I:vH s.heap x C)(G:Co K C)(H:Q () s):wpAny M A (D7 "BaseException.__getattribute__" ⟨[.ref x,FN],[]⟩) Q E s:=by
 obtain⟨d,g0,R,U,W⟩:=s;have z:=xK (M:=M) I;have B:=looks_mroIn (M:=M) X G.mb;have b:builtinKind "BaseException.__getattribute__" = aI .slot:=by decide +kernel
 have O:splitId "BaseException.__getattribute__" = aI ("BaseException","__getattribute__"):=by decide +kernel
 have a:=PySem.F.args_bexc_ga (.ref x) FN;simp only[D7,b,O];refine pw (show wpAny _ _ (isInstance (.ref x) (.type "BaseException")) _ _ _ from ?_);refine(z.andThen B).at ?_;rw[MQ ⋯];unfold argsOk at a;cases hs:Manifest.signature? "BaseException.__getattribute__" with
 | none=>exact pD H
 | some Y=>
  rw[hs]at a;exact uE a H
theorem XY(X:K.In s.heap)(I:vH s.heap x C)(G:Co K C)(h:Q (aI (.ref C)) {s with toks:=s.toks+1}):wpAny (fh prog w) A (getAttr? (.ref x) "__class__") Q E s:=by obtain⟨a,g0,z,O,R⟩:=s;have U:=xK (M:=fh prog w) I;have W:=looks_findIn (M:=fh prog w) X G.ga;have b:=looks_findIn (M:=fh prog w) X G.gn;have Y:=YS (M:=fh prog w) (x:=x) X G;have B:=ue.ga.bind (.ref x);unfold getAttr? getAttrBy? getAttrBy;refine pw (wpAny_mkText (pw (uW (rk (pw (U.at (pw (W.at ?_))))))));show wpAny _ _ (getAttrByItsOwn _ _ _ _ _ _) _ _ _;unfold getAttrByItsOwn;refine pw (b.at ?_);refine pw (uW (rk ?_));show wpAny _ _ (boundAndCalled (.builtin "BaseException.__getattribute__") (.ref x) _) _ _ _;unfold boundAndCalled;refine pw (uE B ?_);refine uF (ua ue.ga.plain PySem.F.entry_bexc_ga (Zb (s:=⟨a,g0,z,O+1,R⟩) X I G ?_));refine pw (pD ?_);refine pw (pD ?_);refine pw (U.at (pw (Y.at ?_)));show wpAny _ _ (bindTo _ _ _ _) _ _ _;unfold bindTo;refine pw (rk (uF (YT (s:=⟨a,g0,z,O+1,R⟩) X I G ?_)));refine pD ?_;exact pD (pD h)
theorem vK(h:KH K C=cI):Co K C:=by unfold KH at h;simp only[pB,beq_iff_eq]at h;exact⟨h.1.1.1.1.1.1.1.1.2,h.1.1.1.1.1.1.1.2,h.1.1.1.1.1.1.2,h.1.1.1.2,h.1.1.2,h.1.1.1.1.1.2,h.1.1.1.1.2⟩
theorem v9(G:Co K C)(hc:(clsIn K C).isSome=cI):KitX K (.ref x) (.ref C) (λh=>vH h x C) where
 ty:=λ_ _ _ I=>xK I
 it:=λ_ _ X _=>by
  obtain⟨cd,B⟩:=rN.mp hc;unfold clsIn at B;split at B
  ·rename_i R d' U W O
   intro A' Q' E' s' k q;unfold isType loadHead;exact pw<|wpAny_loadPart (k _ _<|X _ _ O)<|pD q
  ·cases B
 ne:=λh tp dd a3 n sl X Y=>by
  obtain⟨cd,B⟩:=rN.mp hc;refine Bool.eq_false_iff.mpr λq=>?_;have e:C=tp:=Av<|beq_iff_eq.mp q;subst e;unfold clsIn at B;split at B
  ·rename_i R d' U W O
   have z:=(X _ _ O).symm.trans Y;cases z
  ·cases B
 ca:=λX I k=>XY X I G k
theorem Zr(h:KH K C=cI):(clsIn K C).isSome=cI:=by
 unfold KH at h;simp only[pB]at h;have:=h.1.2;cases q:clsIn K C with
 | none=>rw[q]at this;cases this
 | some a=>rfl
end
end DL
namespace DL
open PySem PySem.Spec PyProof.Rows L2
section
variable{X:Cx}{sc:hH}{N T:List Str}{k:Nat}{e a b c:f6}{pos p p2:g9}{f g:CO D}{fq:CO (Sk×List D)}
theorem XD(h:i9 n i=aI j):Cv n i=aI j:=by
 unfold i9 at h;unfold Cv;split at h
 ·rename_i a;rw[GY a.1,GY a.2];exact h
 ·split at h
  ·rename_i a b;rw[MQ ⋯,GY ⋯];exact h
  ·cases h
theorem zK(G:PQ X a fq)(W:PV X b g)(hs:ZZ b:=by intro _ _;rfl):PV X (.Subscript a b pos) (eI fq g):=
 jK (bZ (FI.or df) G W hs) λJ H Q Y=>by
  obtain⟨m,l,d,rc,z,q⟩:=Y;obtain⟨⟨k,t⟩,u,z⟩:=zc z;obtain⟨i,I,z⟩:=zc z;obtain⟨s,w,I⟩:=zc I;obtain⟨j,y,z⟩:=zc z;refine⟨m,l,k,t,rc,u,λp f C e ext h E r=>⟨e,l,s,rc.ext ext,w,λF n o B O=>?_⟩⟩;rw[jQ I]at O;obtain⟨x,A,rx⟩:=r.get z;have R:B7 f i=aI x:=by unfold B7;rw[r.length,XD y];exact A
  have U:=q x n o (ext.trans B)<|rx.mono B.s0;cases k with
  | L=>exact .inl ⟨p,f,i,x,rfl,jr O,B.s1.seq h,R,U⟩
  | T=>exact .inr ⟨p,f,i,x,rfl,jr O,u3 B.s1 h,R,U⟩
theorem kM{P:iv}{w:h8}{A:i7}{E:GQ}{s:eM}{t H:cS}{z:Array eF}{I O:eF}{lo G:Option Int}{Q:GQ}(B:C4 s.heap t z)(hs:s.heap.IsSliceOf H I O .none)(L:BM I lo)(R:BM O G)
 (J:HT.eI z.size 0 lo=0/\HT.eI z.size z.size G=z.size) (h:Q (.ref t) s):wpAny (fh P w) A (CN (.ref t)<|.ref H) Q E s:=by
 obtain⟨os,U,W,b⟩:=id hs;have Y:s.TypeIs (.ref H) "slice":=⟨os,U,W⟩;unfold CN
 try with_reducible refine rk ?_
 first | refine pw (pD ?_) | skip
 refine pw (Gc B.typeIs ⋯ ?_);refine pw (sS (name:=ug "__getitem__") B.typeIs rO
  (tH rO B.typeIs entry_tuple_getitem ?_ (Fn _ _)))
 show wpAny _ _ (Builtin.Tuple.tupleItemsOf (.ref t) >>= _) _ _ s;refine pw<|Au B ?_;refine pw<|AF Y ?_;rw[GY ⋯];refine pw<|HT.k8 hs L R ?_;have a:(((HT.eI z.size 0 lo:Nat):Int)==0 && (1:Int)==1 && (HT.eI z.size z.size G - HT.eI z.size 0 lo)==z.size)=cI:=by rw[J.1,J.2];simp
 show wpAny _ _ (if (((HT.eI z.size 0 lo:Nat):Int)==0 && (1:Int)==1 && (HT.eI z.size z.size G - HT.eI z.size 0 lo)==z.size)=cI then _ else _) _ _ s;rw[GY a];refine pw (m:=tw _) ?_;unfold tw;refine pw<|AF B.typeIs<|pD ?_;rw[GY ⋯];exact pw<|Bk<|pD ⟨_,rfl,pD h⟩
noncomputable def gZ(K:pv):V->Option Int->Option Int->Hp->VK->Prop:=λx lo d H Q=>∃a b,x = .ref a/\i4 K H a b/\(HT.eI b.length 0 lo=0/\HT.eI b.length b.length d=b.length->Q (.ref a) H)/\∀p,H p=bC->Q (.ref p) (upd H p<|.tup<|Y2 b lo d)
theorem Wd:DD X (gZ X.K):=by
 intro d s m H x v O R lo f l Q I rx g j z h;obtain⟨a,b,rfl,i,U,W⟩:=h;by_cases e:HT.eI b.length 0 lo=0/\HT.eI b.length b.length f=b.length
 ·cases rx
  obtain⟨Y,r,B,n⟩:=I.tuple i;have k:Y.toArray.size=b.length:=by rw[pL];exact r.length.symm
  refine⟨"tuple",_,rO.lookup,B.typeIs,?_⟩;exact kM B g j z (by rw[k];exact e) ⟨.ref a,H,I,rfl,U e⟩
 ·exact aW d s m H (.ref a) v O R lo f l Q I rx g j z ⟨a,b,rfl,i,e,W⟩
theorem ym(n d:Nat)(o:Option Int):ky n d o=HT.eI n d o:=by cases o<;>rfl
theorem Jd{K:pv}{H:Hp}{z:List D}{xs:List V}(r:eS K H z xs)(lo B:Option Int):eS K H (vB z lo B) (Y2 xs lo B):=by unfold vB Y2;rw[<- ym,<- ym,r.length];exact(r.drop _).take _
theorem X7{z:List D}{lo B:Option Int}(h:HT.eI z.length 0 lo=0/\HT.eI z.length z.length B=z.length):vB z lo B=z:=by unfold vB;rw[ym,ym,h.1,h.2];simp
noncomputable def tB(K:pv)(f:CO (Option Int)):TO:=λg H Q=>∃d e o,RC K d H g e/\f e=aI o/\∀b a,Ext d H a b->Q o b
theorem j0:L2.PO X bC (tB X.K yi):=λa s d H Q I ⟨b,e,o,rc,z,q⟩=>WE a s d H Q I (by cases z;exact q H b<|Ext.refl rc.sub)
theorem jZ(h:PV X e f):L2.PO X (aI e) (tB X.K<|n9 f):=λa s m H Q I ⟨k,l,o,rc,z,q⟩=>WD h a s m H Q I (by
 obtain⟨i,g,B⟩:=zw z;obtain⟨d,O,g⟩:=zc g;subst B;refine⟨k,l,d,rc,O,λv j b x r=>?_⟩;rw[jQ g]at r;exact⟨i,jr r,q j b x⟩)
theorem Vm{lo G:Option f6}{I O:CO (Option Int)}(J:PV X a f)(Y:L2.PO X lo (tB X.K I))(L:L2.PO X G (tB X.K O)):PV X (.Subscript a (.Slice lo G bC p2) pos) (gL f I O):=
 jK (Jm Wd J Y L) λN H Q A=>by
  obtain⟨j,g,d,rc,z,q⟩:=A;obtain⟨R,t,z⟩:=zc z;obtain⟨l,w,z⟩:=zc z;obtain⟨u,y,z⟩:=zc z;refine⟨j,g,R,rc,t,λv E b x r=>⟨b,g,l,rc.ext x,w,λF n B=>⟨n,g,u,(rc.ext x).ext B,y,λk o x3=>?_⟩⟩⟩;have U:=x.trans<|B.trans x3;cases R with
  | tup M=>
   cases z;obtain⟨m,C,rfl,h,e⟩:=kG<|r.mono (B.trans x3).s0;have s:=e.length;refine⟨m,C,rfl,u3 x3.sub h,λi=>?_,λp W=>?_⟩
   ·rw[s]at i
    exact q _ k o U (by rw[X7 i];exact qt h e)
   ·exact q _ _ _ (U.trans<|Ext.alloc x3.sub W _)<|qt (i4.of zq)<|(Jd e _ _).mono (zY (jg x3.sub W) _)
  | _=>cases z
theorem Jc{K:pv}{H:Hp}{z:List D}{xs:List V}(r:eS K H z xs) : ∀n:Nat,eS K H (pF n z).flatten (pF n xs).flatten
 | 0=>eS.nil
 | n+1=>by rw[sR,sR,tL,tL];exact r.append<|Jc r n
theorem q9(G:PQ X a fq)(J:PQ X b gq):PO X (.BinOp a .Add b pos) (xW fq gq):=
 jK (bU YD G J) λC H Q r=>by
  obtain⟨h,g,x,rc,z,q⟩:=r;obtain⟨⟨s,R⟩,l,z⟩:=zc z;obtain⟨⟨t,U⟩,m,z⟩:=zc z;cases s<;>cases t<;>try (simp at z;done)
  dsimp only at z;by_cases I:R.length+U.length<=lim
  ·rw[GY I]at z;cases z
   refine⟨h,g,.L,R,rc,l,λi e u d x1 n y W=>⟨d,g,.L,U,rc.ext x1,m,λj f w k B o A Y=>⟨i,j,e,f,rfl,rfl,B.s1.seq n,o,xu (by rw[W.length,Y.length];exact I),λp O=>?_⟩⟩⟩;exact q p (e++f) _ k (x1.trans<|B.trans<|Ext.hide B.sub O _) (kj (x1.trans B).s1 O) (jg B.sub O) zq<|(W.mono B.s0).append Y
  ·rw[MQ I]at z;cases z
theorem cR{K:pv}{t c:String}{b:Bool}(h:(if ((tZ t) == .type c)=cI then aI cI else if PySem.W.kitMeta c=cI then (fastBuiltinMro t).map (·.contains (.type c))else bC)=aI b):rA K (.type t) (.type c)=aI b:=h
noncomputable def CU:Ty->String
 | .int=>"int"
 | .bool=>"bool"
 | .str=>"str"
 | .tuple=>"tuple"
 | .list=>"list"
noncomputable def cT:D->String
 | .g8=>"NoneType"
 | .bl _=>"bool"
 | .int _=>"int"
 | .str _=>"str"
 | .tup _=>"tuple"
 | .lst _=>"list"
 | .exc _ _=>""
 | .n4 _ _=>"dict"
 | .l6 _ _=>"dict"
 | .ins _ _ _=>""
theorem qk{K:pv}(T:Ty)(d:D)(hx : ∀c n,d ≠ .exc c n)(B : ∀c p t,d ≠ .ins c p t:=by intro _ _ _ z;exact nomatch z):rA K (.type<|cT d) (.type<|CU T)=aI (yU T d):=by cases d<;>cases T<;>first | exact absurd rfl (hx _ _) | exact absurd rfl (B _ _ _) | (dsimp only[cT,CU,yU,VM,dh,VI,VH,VL];exact cR ⋯)
theorem WV{K:pv}{C:cS}(b:w6 K C=cI):Dx K C:=by unfold w6 at b;simp only[pB,beq_iff_eq]at b;exact⟨b.1,b.2.1,b.2.2.1,b.2.2.2.1⟩
theorem VN{K:pv}{H:Hp}{a C z:cS}{fs:List (Str×V)}(b:w6 K C=cI)(e:H a=aI (.ins C z fs)):A1 K H (.ref a) (.ref C):=by have c:=WV b;unfold w6 at b;simp only[pB,beq_iff_eq]at b;obtain⟨_,_,_,_,b5,b6,b7,b8,_⟩:=b;exact .ins e c b5 b6 b7 b8
theorem ZO{K:pv}{C:cS}{c:Str}{p t:D}(b:w6 K C=cI)(T:Ty):rA K (.ref C) (.type<|CU T)=aI (yU T<|.ins c p t):=by
 unfold w6 at b;simp only[pB,beq_iff_eq,tM,List.all_nil]at b;obtain⟨_,_,_,_,_,_,_,_,b1,b2,b3,b4,b5,_⟩:=b;cases T
 ·exact b1
 ·exact b2
 ·exact b3
 ·exact b4
 ·exact b5
theorem YL{G:GW}{Z:St}{H0 H:Hp}{s:eM}{A:i7}{E:GQ}{Q:GQ}{d:D}{x:V}{u:eF}(I:Inv X G Z H s)(sub:i1 H0 H)(rx:RelV x u)(r:Rep X.K H0 d x)(T:Ty)
 (h : ∀P,Q (.bool (yU T d)) {s with toks:=P}):wpAny (fh X.prog X.w) A (call (.builtin "isinstance") [u,.type (CU T)]) Q E s:=by
 cases d with
 | g8=>have e:=qk (K:=X.K) T .g8<|λ_ _ z=>nomatch z;cases (show x = .g8 from r);cases (show u=su from rx);exact pV AH I.ij sQ e (λz=>nomatch z) h
 | bl y=>have e:=qk (K:=X.K) T (.bl y)<|λ_ _ z=>nomatch z;cases (show x = .bl y from r);cases (show u=Ae y from rx);exact pV AI I.ij sQ e (λz=>nomatch z) h
 | int i=>have e:=qk (K:=X.K) T (.int i)<|λ_ _ z=>nomatch z;cases (show x = .int i from r);obtain⟨t,q⟩:=(show ∃t,u=uL i t from rx);cases q;exact pV AV I.ij sQ e (λz=>nomatch z) h
 | str y=>have e:=qk (K:=X.K) T (.str y)<|λ_ _ z=>nomatch z;cases (show x = .str y from r);obtain⟨t,q⟩:=(show ∃t,u=Value.str y t from rx);cases q;exact pV AU I.ij sQ e (λz=>nomatch z) h
 | tup l=>
  have e:=qk (K:=X.K) T (.tup l)<|λ_ _ z=>nomatch z;obtain⟨a,f,rfl,b,g⟩:=kG r;cases (show u=pO a from rx);obtain⟨W,Y,⟨o,B,m,_⟩,L⟩:=I.tuple<|u3 sub b;exact pV Ax I.ij ⟨o,B,m⟩ e (λz=>nomatch z) h
 | lst l=>
  have e:=qk (K:=X.K) T (.lst l)<|λ_ _ z=>nomatch z;obtain⟨a,f,rfl,b,g⟩:=ZL r;cases (show u=pO a from rx);obtain⟨W,Y,p,L⟩:=I.list<|sub.seq b;obtain⟨o,B,m,_⟩:=p.isList;exact pV uX I.ij ⟨o,B,m⟩ e (λz=>nomatch z) h
 | exc c n=>
  obtain⟨a,rfl,O⟩:=(show ∃a,x = .ref a/\zj X.K H0 c n a from r);cases (show u=pO a from rx);obtain⟨C,N,g1,g2,g3,_⟩:=O.ex;obtain⟨S,_,x1,_,_⟩:=xU O.all O.mem g1;obtain⟨p,_,_⟩:=(show i8 X.prog X.w H s.heap a (.ext N)from I.gv a _<|sub _ _ g2);have e:rA X.K (.ref C) (.type<|CU T)=aI (yU T<|.exc c n):=by
   unfold KH at x1;simp only[pB,tM,List.all_nil,beq_iff_eq]at x1;have t:=x1.1.1.1.1.1.1.1.1.1.1;cases T
   ·exact t.1
   ·exact t.2.1
   ·exact t.2.2.1
   ·exact t.2.2.2.1
   ·exact t.2.2.2.2.1
  exact pV (v9 (vK x1)<|Zr x1) I.ij (g3 _ p) e (λz=>nomatch z) h
 | n4 j k=>
  have e:=qk (K:=X.K) T (.n4 j k)<|λ_ _ z=>nomatch z;obtain⟨a,f,rfl,⟨M,_,_,o,b⟩,_⟩:=(show ∃a f,x = .ref a/\CZ H0 a j f/\eS X.K H0 k f from r);cases (show u=pO a from rx);obtain⟨_,_,_,_,_,J⟩:=(show i8 X.prog X.w H s.heap a (.t9 o<|.dK<|M.zip f)from I.gv a _<|sub _ _ b);exact pV tJ I.ij J.typeIs e (λz=>nomatch z) h
 | l6 j k=>
  have e:=qk (K:=X.K) T (.l6 j k)<|λ_ _ z=>nomatch z;obtain⟨a,f,rfl,⟨_,o,zs,b,g,_⟩,_⟩:=(show ∃a f,x = .ref a/\C3 X.K H0 a j f/\eS X.K H0 k f from r);cases (show u=pO a from rx);obtain⟨B,_⟩:=(show i8 X.prog X.w H s.heap a (D3 a o)from I.gv a _<|sub _ _ b);exact pV tJ I.ij ⟨o,B,g.1.1⟩ e (λz=>nomatch z) h
 | ins c p t=>
  obtain⟨a,C,F,R,U,rfl,b,g,_,_⟩:=(show ∃a C F R U,x = .ref a/\Cu X.K c=aI C/\H0 a=aI (.ins C F<|Dd R U)/\Rep X.K H0 p R/\Rep X.K H0 t U from r);exact XF I rx (VN (kr b)<|sub _ _ g) (ZO (kr b) T) h
theorem Ym(T:Ty)(h:SX X sc N L k)(c:qe sc "isinstance" = cI)(z:X.mg "isinstance" = bC)(G:qe sc ty=cI)(R:X.mg ty=bC)(U:Cb ty=aI (.type (CU T)))(J:PV X a f)
 (hs:hX [a,.Name ty p2] X.env=[(dV,fk a X.env),(dV,fk (.Name ty p2) X.env)]:=by rfl):PV X (.Call (.Name "isinstance" p) [a,.Name ty p2] [] pos) (o4 T f):=by
 intro e s C H Q I ⟨j,A,d,rc,W,q⟩;obtain⟨O,m,Y⟩:=zw W;subst Y;refine sd<|qP I (h.gl c).1 z tj ?_ ⋯ ⋯;refine sj ?_ (by rw[hs];rfl) rfl;rw[hs];show wpAny _ _ (yg ((dV,fk a X.env)::ow pos [(dV,fk (.Name ty p2) X.env)])) _ _ s;refine rd<|gE (J e s C H _ I ⟨j,A,O,rc,m,λv g b x r=>(show(λv g=>∃b,Ext j H b g/\Rep X.K b O v) v g from⟨b,x,r⟩)⟩) λu w n=>?_;obtain⟨x,l,B,o,i,x1,t⟩:=n;show wpAny _ _ (yg ((dV,fk (.Name ty p2) X.env)::[])) _ _ w;refine rd<|qP B (h.gl G).1 R U ?_ (h.gl G).2.1 (h.gl G).2.2;refine sP ?_;exact YL B x1.sub o t T λy=>⟨.bl _,l,B.tok y,rfl,q _ l i x1 rfl⟩
end
section
variable{X:Cx}{sc:hH}{N L:List Str}{k:Nat}{e a b c:f6}{pos p p2:g9}{f g:CO D}{fq:CO (Sk×List D)}
theorem qi(h:SX X sc N L k)(c:qe sc "range" = cI)(z:X.mg "range" = bC)(B:PV X a f)(hs:hX [a] X.env=[(dV,fk a X.env)]:=by rfl):u7 X tg (.Call (.Name "range" p) [a] [] pos) (zX f):=J4 (h.gl c).1 z B hs
theorem bL(h:SX X sc N L k)(c:qe sc "zip" = cI)(z:X.mg "zip" = bC)(G:PV X a f)(B:PV X b g)(hs:hX [a,b] X.env=[(dV,fk a X.env),(dV,fk b X.env)]:=by rfl)(I:hX [b] X.env=[(dV,fk b X.env)]:=by rfl) :
 u7 X (.Tuple elts x1 Cz) (.Call (.Name "zip" p) [a,b] [] pos) (aZ f g):=WI (h.gl c).1 z G B hs I
theorem wO(h:SX X sc N L k)(c:qe sc "isinstance" = cI)(z:X.mg "isinstance" = bC)(G:qe sc "int" = cI)(B:X.mg "int" = bC)(H:PV X a f)
 (hs:hX [a,.Name "int" p2] X.env=[(dV,fk a X.env),(dV,fk (.Name "int" p2) X.env)]:=by rfl):PV X (.Call (.Name "isinstance" p) [a,.Name "int" p2] [] pos) (o4 .int f):=Ym .int h c z G B PyProof.Rows.boot_int H hs
theorem vn(h:SX X sc N L k)(c:qe sc "isinstance" = cI)(z:X.mg "isinstance" = bC)(G:qe sc "bool" = cI)(B:X.mg "bool" = bC)(H:PV X a f)
 (hs:hX [a,.Name "bool" p2] X.env=[(dV,fk a X.env),(dV,fk (.Name "bool" p2) X.env)]:=by rfl):PV X (.Call (.Name "isinstance" p) [a,.Name "bool" p2] [] pos) (o4 .bool f):=Ym .bool h c z G B PyProof.Rows.boot_bool H hs
theorem qa(h:SX X sc N L k)(c:qe sc "isinstance" = cI)(z:X.mg "isinstance" = bC)(G:qe sc "tuple" = cI)(B:X.mg "tuple" = bC)(H:PV X a f)
 (hs:hX [a,.Name "tuple" p2] X.env=[(dV,fk a X.env),(dV,fk (.Name "tuple" p2) X.env)]:=by rfl):PV X (.Call (.Name "isinstance" p) [a,.Name "tuple" p2] [] pos) (o4 .tuple f):=Ym .tuple h c z G B uO H hs
theorem yy(G:PV X a f):PV X (.UnaryOp .USub a pos) (Kv f):=
 jK (iu aH G) λk H Q z=>by obtain⟨h,j,d,rc,B,q⟩:=z;obtain⟨i,e,I⟩:=zw B;obtain⟨O,R,e⟩:=zc e;subst I;refine⟨h,j,O,rc,R,λv g b x r=>?_⟩;rw[jQ e]at r;exact⟨i,jr r,q _ g b x rfl⟩
theorem ZF(i:Nat)(h:SX X sc N L k)(c:qT sc N i x=cI)(G:PV X a f)(hs:hX [a] X.env=[(dV,fk a X.env)]:=by rfl)
 (z:D4 (.Name x np) "append" X.env (fk (.Name x np) X.env)=fk (.Name x np) X.env:=by rfl)
 (B:((ow cpos<|starEach [a] X.env).all (λx=> !x.1) && (backToKw cpos<|keywordEach [] X.env).all (λx=>x.1.isSome)
   && decide ([a].length+([]:List DX).length+(if ([]:List DX).isEmpty then 0 else 1)<30))=cI:=by rfl)
 (I:(apos.endLine==cpos.line)=cI:=by rfl) (O:t6 (.Call (.Attribute (.Name x np) "append" apos) [a] [] cpos) bC pos.line X.env=pure dV:=by rfl) :
 m5 X (.Expr (.Call (.Attribute (.Name x np) "append" apos) [a] [] cpos) pos) (xi i f):=
 J1 i (iy PySem.F.plainAttrs_list PySem.F.slot_list_append PySem.F.type_list_append Xu (h.var c) (jH G qB hs) z B I hs rfl) O
theorem Yq(i:Nat){st:h9}{f:CO (List D)}(h:PS X st (Qw (tO X.K f)<|ku i)):m5 X st (jR i<|qI f):=kg h λD p H I=>by obtain⟨E0,E,g,m,W,z,B,O⟩:=I;obtain⟨d,b,B⟩:=zw B;obtain⟨k,R,b⟩:=zw b;subst B b;exact⟨g,m,k,z.rc,R,λa o n j x l e U r=>O _ _ _<|(z.step<|x.show l e U z.rc.sub).Bv (Zx (i2.of zq)<|r.mono<|zY e _)⟩
theorem FV(i:Nat)(h:SX X sc N L k)(c:qU sc N L i y=cI)
 (J:X.calm=cI) (ok:zi X scope fr) (z : ∀i∈T.idx,i<own.length) (P:BA X tg iter src) (B : ∀fp H G,PG (zM X scope (own++fr.map (·.1)) fp H G) tg<|xB X.K T)
 (I : ∀fp H G,PV (zM X scope (own++fr.map (·.1)) fp H G) elt f) (hs : ∀x,xA iter X.env x=pure x:=by intro _;rfl) :
 PS X (.Assign [.Name y py] (.ListComp elt [⟨tg,iter,[],0⟩] scope cpos) spos) (Qw (tO X.K<|zT src T own.length (fr.map (·.2)) jE f)<|ku i):=by
 obtain⟨a,b,O⟩:=h.loc c;exact Yt h.CQ a b O J ok z P B I hs
theorem wQ(i:Nat)(h:SX X sc N L k)(c:qT sc N i x=cI)(hi:PV X b g)(Z:PV X e f)
 (P : ∀v,Bp (.Subscript (.Name x np) b p) X.env v=(do
   let B <- Cs [v] (fk (.Name x np) X.env);let R <- Cs [v,B] (fk b X.env)
   CT p
   Cs [v,B,R] (EX B R v)
   release [v,B,R] []):=by intro _;rfl)
 (hs:En [.Subscript (.Name x np) b p] e pos.line X.env=pure dV:=by rfl) (hw:EZ [.Subscript (.Name x np) b p] e X.env=pure bC:=by rfl)
 (G:(BQ [.Subscript (.Name x np) b p] X.env).map (·.2)=[Bp (.Subscript (.Name x np) b p) X.env]:=by rfl) :
 m5 X (.Assign [.Subscript (.Name x np) b p] e pos) (QI i g f):=
 kg (Q8 Z (bQ (h.var c) hi KS P) hs hw G) λD σ H M=>by obtain⟨E0,E,s,o,fl,Y,z,t⟩:=M;obtain⟨d,C,z⟩:=zc z;obtain⟨A,I,z⟩:=zc z;obtain⟨Q,U,z⟩:=zc z;obtain⟨y,F,U⟩:=zc U;obtain⟨j,J,z⟩:=zw z;subst z;have I:=xE I;refine⟨s,o,d,Y.rc,C,λv S l x r=>?_⟩;have W:=Y.step x;obtain⟨a,xs,G,h2,K,m⟩:=W.rc.own i A I;refine⟨_,G,l,o,y,W.rc,F,λv2 T u O n=>?_⟩;rw[jQ U]at n;have w:=W.step O;refine⟨a,xs,Q,j,rfl,jr n,O.s1 _ _ K,by rw[m.length];exact XD J,?_⟩;exact t _ _ u<|w.rewrite (xs:=xs) I G<|(m.mono O.s0).set j (r.mono O.s0)
theorem vX(I:PG X tg (xB X.K T))(O:PV X e f)(hs:En [tg] e pos.line X.env=pure dV:=by rfl)(J:EZ [tg] e X.env=pure bC:=by rfl)
 (G:(BQ [tg] X.env).map (·.2)=[Bp tg X.env]:=by rfl):m5 X (.Assign [tg] e pos) (Zv T f):=
 kg (Q8 O I hs J G) λD l H R=>by obtain⟨E0,E,g,i,k,B,z,U⟩:=R;obtain⟨d,h,z⟩:=zc z;obtain⟨j,W,z⟩:=zw z;subst z;refine⟨g,i,d,B.rc,h,λv b a x r=>?_⟩;exact kA x.sub r W λY _ a1=>U Y b a<|a1 E0 E<|B.step x
end
structure f9(P:iv)(w:h8)(K:pv)(mg:GJ)(base:fy)(k:Nat)(x:Str)(n:Nat)(F:List D->Option Res):Prop where
 ex : ∃(f:cS) (fd:sx) (ps:List Str),ps.length=n/\u5 P w K mg base u4 k f fd ps (A4 K ps.length F)/\mg x=aI (.ref f)/\sv K (.ref f)=cI/\Binds K fd ps []
structure ik(K:pv)(mg:GJ)(x:Str)(st:h9)(ps:List Str):Prop where
 ex : ∃(f:cS) (fd:sx),L2.A9 K x x st f fd/\(∀us:List eF,us.length=ps.length->bindArgs fd ⟨us,[]⟩=pure (ps.zip us))/\mg x=aI (.ref f)
noncomputable def z7(X:Cx)(z:List f6)(n:Nat)(g:CO (List D)):Prop:=BN X z g/\∀b a,g b=aI a->a.length=n
section
variable{X:Cx}{sc:hH}{N L:List Str}{k:Nat}{e:f6}{es:List f6}{f:CO D}{g:CO (List D)}{n:Nat}{pos p:g9}{x:Str}
theorem zg:z7 X [] 0 zB:=⟨Xj,λb a h=>by cases h;rfl⟩
theorem za(G:PV X e f)(z:z7 X es n g)(hs:hX (e::es) X.env=(dV,fk e X.env)::hX es X.env:=by rfl):z7 X (e::es) (n+1) (zb f g):=
 ⟨j3 G z.1 hs,λa b h=>by obtain⟨y,d,h⟩:=zc h;obtain⟨r,B,h⟩:=zw h;subst h;rw[Am,z.2 a r B]⟩
variable{j:Nat}{F:List D->Option Res}
theorem bF(J:f9 X.prog X.w X.K X.mg X.base j x n F)(z:j<=k)(h:SX X sc N L k)(c:qe sc x=cI)(H:z7 X (e::es) n g)
 (B:hX (e::es) X.env=(dV,fk e X.env)::hX es X.env:=by rfl) (I:(ow pos<|starEach es X.env).any (·.1)=dV:=by rfl):PV X (.Call (.Name x p) (e::es) [] pos) (zu F g):=by
 obtain⟨f,i,l,d,G,b,a,O⟩:=J.ex;subst d;exact Wv (A0:=[]) G H.1 H.2 λ{t} R=>Xi G (h.room.mono z) (h.gl c).1 b a O .nil ck R (h.gl c).2.2 B I
theorem ir(J:f9 X.prog X.w X.K X.mg X.base j x n F)(z:j<=k)(h:SX X sc N L k)(c:qe sc x=cI)(H:z7 X (e::es) n g)
 (B:hX (e::es) X.env=(dV,fk e X.env)::hX es X.env:=by rfl) (I:(ow pos<|starEach es X.env).any (·.1)=dV:=by rfl):PO X (.Call (.Name x p) (e::es) [] pos) (kS F g):=by
 obtain⟨f,i,l,d,G,b,a,O⟩:=J.ex;subst d;exact WH G H.1 H.2 λ{t} R=>Xi G (h.room.mono z) (h.gl c).1 b a O .nil ck R (h.gl c).2.2 B I
end
section
variable{P:iv}{w:h8}{K:pv}{mg:GJ}{base:fy}
noncomputable def vh(N z:List Str)(st:h9):Bool:=
 decide ((zE st).kind = .function) && decide ((zE st).isCoroutine=dV) && decide ((zE st).isGenerator=dV) && decide N.Nodup && decide (N.take z.length=z) &&
 z.all (λx=>decide ((zE st).names.lookup x=aI .local) || decide ((zE st).names.lookup x=aI .cell)) && (zE st).names.all (λy=> !(y.2==pU))
theorem xG{N G:List Str}{st:h9}(h:vh N G st=cI):CC N G (zE st):=by unfold vh at h;simp only[pB,decide_eq_true_eq,rz,rC,sA]at h;obtain⟨⟨⟨⟨⟨⟨a,b⟩,z⟩,B⟩,I⟩,O⟩,R⟩:=h;exact⟨a,b,z,B,I,O,λy U e=>by have:=R y U;rw[e]at this;exact absurd this ⋯⟩
theorem cj{X:Cx}(hx:X.xe=λ_ _=>False):EF (fh X.prog X.w) X.A X.env X.xe:=by rw[hx];exact PassesOwn.never
theorem yd{x:Str}{st:h9}{N G:List Str}{k:Nat}{F:CO Fl}(A:ik K mg x st G)(J:vh N G st=cI)
 (B : ∀X:Cx,X.prog=P->X.w=w->X.K=K->X.mg=mg->X.base=base->SX X (zE st) N N k->X.xe=(λ_ _=>False)->Kt X (js st) F) :
 f9 P w K mg base (k+1) x G.length (jO N.length F):=by
 obtain⟨f,d,z,I,e⟩:=A.ex;have S:=xG J;refine⟨f,d,G,rfl,dz z S λb A a s H E O=>?_,e,z.kp,.all I⟩;exact B _ rfl rfl rfl rfl rfl ⟨rfl,rfl,S.nd,rfl,O,λ_ _=> .inl rfl⟩ rfl
theorem mP{h:fy}{x:Str}{st:h9}{O:List Str}{f:cS}{Z:eF}{od I:Option cS}{L:Array (Option eF)}{kV H J B ct:eF}(z:K.In h)(G:h.Ns n6 mg)
 (a:sY K n6 x=aI (aI (.ref f))) (l:K.lookup f=aI ⟨Z,od,.func<|sZ x x (xw st) (js st) (zE st) .none kV H J I B ct,L⟩)
 (c:uT K B x=cI) (Y:sv K (.ref f)=cI)
 (b : ∀(kV H J:eF) (I:Option cS) (B ct:eF) (W:List eF),W.length=O.length->bindArgs (sZ x x (xw st) (js st) (zE st) .none kV H J I B ct) ⟨W,[]⟩=pure (O.zip W)):ik K mg x st O:=
 ⟨f,_,VO l c Y,b kV H J I B ct,ud z G a⟩
theorem fz{F:List D->Option Res}{H:Hp}{a:cS}{ns:List Int}(z:i2 K H a (ns.map V.int))(B:F [.lst (ns.map D.int)]=aI (.val<|.bl cI)) :
 A4 K 1 F [.ref a] H (λv _=>v = .bl cI) λ_ _ _=>False:=by
 refine⟨H,[.lst (ns.map D.int)],.val<|.bl cI,i1.refl _,eS.cons (Zx z ?_) eS.nil,rfl,B,λv d b _ r=>r⟩;clear B z
 induction ns with
 | nil=>exact eS.nil
 | cons n ns I=>exact eS.cons rfl I
end
end DL
namespace DL
open PySem PySem.Spec PyProof.Rows L2
open AutoSeq1 (wpAny_loadPart')
theorem yb:fillsNumberSlot (.type "tuple") "mul" = pure dV:=
 PySem.fillsNumberSlot_seq (id:="tuple.__mul__") (r:=aI (.builtin "tuple.__rmul__")) uM.lookup ⋯ F.slot_tuple_rmul.lookup ⋯
theorem wI:seqRepeat? (.type "tuple")=pure (aI (.builtin "tuple.__mul__")):=by unfold seqRepeat?;rw[PySem.seqSlot_of (T:="tuple") (name:="__mul__") (id:="tuple.__mul__") uM.lookup ⋯,PySem.seqSlot_of (T:="tuple") (name:="__rmul__") (id:="tuple.__rmul__") F.slot_tuple_rmul.lookup ⋯];rfl
theorem ve(a:Int)(t:Tok)(l:cS)(z:Array eF)(n:Nat)(dd:Option cS)(G:Array (Option eF)) :
 DB (Builtin.«int.__rmul__» ⟨[.int a t,.ref l],[]⟩) (λ_ R s=>s.heap.get? l=aI {cls:= .type "tuple",dict:=dd,data:= .seq z n,slots:=G}/\R (.ok (.ret Value.notImplemented)) s):=
 .of_wp λb w A R s h=>by obtain⟨B,g,d,e,os⟩:=s;obtain⟨I,h⟩:=h;wp_walk;exact⟨_,rfl,h⟩
theorem vN(a:Int)(t:Tok)(l:cS)(z:Array eF)(n:Nat)(dd:Option cS)(J:Array (Option eF))(G : ¬(decide (a < -(2 ^ 63)) || decide (a>=2 ^ 63))=cI)(H : ¬(z.isEmpty || a==1)=cI)
 (I : ¬(decide (a<=0) || z.isEmpty)=cI) (O : ¬((z.size:Int)*a>(2 ^ 63 - 1)/8)) (U : ¬Builtin.Tuple.tupleTooMany ((z.size:Int)*a)=cI) (W:((pF a.toNat z).foldl (· ++ ·) #[]).size<=i6) :
 DB (Builtin.«tuple.__mul__» ⟨[.ref l,.int a t],[]⟩) (λ_ R s=>s.heap.get? l=aI {cls:= .type "tuple",dict:=dd,data:= .seq z n,slots:=J}/\
  R (.ok (.ret (.ref s.heap.objs.size))) {s with heap:=s.heap.push {cls:= .type "tuple",data:= .seq ((pF a.toNat z).foldl (· ++ ·) #[])}}):=
 .of_wp λb w A R s h=>by
  obtain⟨Y,g,d,e,os⟩:=s;obtain⟨B,h⟩:=h
  wp_walk using tR B
  rw[MQ G];refine pw<|Au (s:=⟨Y,g,d,e,os⟩) ⟨_,B,rfl,n,rfl⟩ ?_;dsimp only;rw[MQ H,MQ I,MQ O,MQ U];refine pw (m:=so _)<|sg ?_ W;exact pD ⟨_,rfl,h⟩
theorem yZ(a:Int)(t:Tok)(l:cS)(z:Array eF)(n:Nat)(dd:Option cS)(J:Array (Option eF))(G : ¬(decide (a < -(2 ^ 63)) || decide (a>=2 ^ 63))=cI)(H : ¬(z.isEmpty || a==1)=cI)
 (I:(decide (a<=0) || z.isEmpty)=cI) :
 DB (Builtin.«tuple.__mul__» ⟨[.ref l,.int a t],[]⟩) (λ_ R s=>s.heap.get? l=aI {cls:= .type "tuple",dict:=dd,data:= .seq z n,slots:=J}/\
  R (.ok (.ret (.ref s.heap.objs.size))) {s with heap:=s.heap.push {cls:= .type "tuple",data:= .seq #[]}}):=
 .of_wp λb w A R s h=>by
  obtain⟨O,g,d,e,os⟩:=s;obtain⟨B,h⟩:=h
  wp_walk using tR B
  rw[MQ G];refine pw<|Au (s:=⟨O,g,d,e,os⟩) ⟨_,B,rfl,n,rfl⟩ ?_;dsimp only;rw[MQ H,GY I];refine pw (m:=so _)<|sg ?_ (uU _);exact pD ⟨_,rfl,h⟩
theorem yY(a:Int)(t:Tok)(l:cS)(B:Array eF)(n:Nat)(dd:Option cS)(J:Array (Option eF))(G : ¬(decide (a < -(2 ^ 63)) || decide (a>=2 ^ 63))=cI)(H:(B.isEmpty || a==1)=cI) :
 DB (Builtin.«tuple.__mul__» ⟨[.ref l,.int a t],[]⟩) (λ_ R s=>s.heap.get? l=aI {cls:= .type "tuple",dict:=dd,data:= .seq B n,slots:=J}/\R (.ok (.ret (.ref l))) s):=
 .of_wp λb w A R s h=>by
  obtain⟨I,g,d,e,os⟩:=s;obtain⟨z,h⟩:=h
  wp_walk using tR z
  rw[MQ G];refine pw (Au (s:=⟨I,g,d,e,os⟩) ⟨_,z,rfl,n,rfl⟩ ?_);dsimp only;rw[GY H];refine pw (m:=tw _) ?_;unfold tw;refine pw (AF (T:="tuple") ⟨_,z,rfl⟩ (pD ?_));rw[GY ⋯];exact pw (Bk (pD ⟨_,rfl,h⟩))
section
variable{X:Cx}
noncomputable def bw(K:pv):R2:=λx y H Q=>∃l k a,x = .ref l/\y = .int k/\i4 K H l a/\ -(2 ^ 62)<=k/\k<2 ^ 62/\a.length*k.toNat<=i6/\(a=[]\/k=1->Q (.ref l) H)/\
 ∀p,H p=bC->Q (.ref p) (upd H p<|.tup (pF k.toNat a).flatten)
theorem WJ:jn X (BB .Mult) (bw X.K):=by
 intro A s σ H x y v u Q I rx ry h;obtain⟨l,k,E,rfl,rfl,P,h1,h2,w,q1,C⟩:=h;cases rx;obtain⟨t,rfl⟩:=ry;obtain⟨z,r,S,z1⟩:=I.tuple P;obtain⟨⟨N,a,d,b⟩,B,i,n,j⟩:=id S;simp only at i j;subst i j;have G:=r.length;have R : ¬(decide (k < -(2 ^ 63)) || decide (k>=2 ^ 63))=cI:=by simp;omega
 refine wpAny_binaryOp_repeat_ref (T:="tuple") (U:="int") ⋯ ⟨_,B,rfl⟩ (λs'=>Fb s' k t) yb F.fills_int_mul F.slot_int_rmul wI F.slot_int_index.lookup
  (Ar F.slot_int_rmul (Fb s k t) F.entry_int_rmul (F.args_int_rmul_2 _ _) (ve k t l z.toArray n a b) ⟨B,rfl,⟨_,B,rfl⟩,?_⟩)
 have f : ∀m:Nat,List.foldl (λx1 W=>x1++W) #[] (pF m z.toArray)=(pF m z).flatten.toArray:=λm=>by have:=Za z m [];rw[List.nil_append]at this;exact this
 by_cases g2:(z.toArray.isEmpty || k==1)=cI
 ·refine Ar uM ⟨_,B,rfl⟩ Bj (Bg _ _) (yY k t l z.toArray n a b R g2) ⟨B,⟨.ref l,H,I,rfl,q1 ?_⟩⟩
  rw[rC]at g2;rcases g2 with g | g
  ·left
   have:z=[]:=by simpa using g
   exact(r.DN).mp this
  ·right;simpa using g
 ·have Y:=g2
  simp only[rC,not_or]at Y;have J:z ≠ []:=by intro e;exact Y.1 (by rw[e];rfl)
  have an:0<z.length:=List.length_pos_iff.mpr J;by_cases O:(decide (k<=0) || z.toArray.isEmpty)=cI
  ·have p:k.toNat=0:=by
    rw[rC]at O;rcases O with g | g
    ·have:=of_decide_eq_true g;omega
    ·exact absurd g Y.1
   refine Ar uM ⟨_,B,rfl⟩ Bj (Bg _ _) (yZ k t l z.toArray n a b R g2 O) ⟨B,?_⟩;refine⟨.ref s.heap.objs.size,_,I.laid (t':=s.toks) (o:= .tup (pF k.toNat E).flatten) (λc Z q=>pA _ q) (pN _) ?_,rfl,C _<|I.gv.fresh<|pN _⟩;rw[p];exact⟨uU _,[],.nil,BH.new _ _⟩
  ·have p : ¬k<=0:=by intro g;exact O (by rw[rC];exact .inl<|decide_eq_true g)
   have L:z.length*k.toNat<=i6:=by rw[<- G];exact w
   have ap:((z.toArray.size:Nat):Int)*k<=(i6:Int):=by
    rw[pL];have e:((z.length*k.toNat:Nat):Int)=(z.length:Int)*k:=by rw[Int.natCast_mul,Int.toNat_of_nonneg ⋯]
    omega
   have as:i6=16777216:=tx;have M:(List.foldl (λx1 W=>x1++W) #[] (pF k.toNat z.toArray)).size<=i6:=by rw[f,pL,Xy,Nat.mul_comm];exact L
   refine Ar uM ⟨_,B,rfl⟩ Bj (Bg _ _) (vN k t l z.toArray n a b R g2 O ⋯ (by unfold Builtin.Tuple.tupleTooMany;simp only[decide_eq_true_eq];omega) M) ⟨B,?_⟩;rw[f];refine⟨.ref s.heap.objs.size,_,I.laid (t':=s.toks) (o:= .tup (pF k.toNat E).flatten) (λc Z q=>pA _ q) (pN _) ?_,rfl,C _<|I.gv.fresh<|pN _⟩;exact⟨by rw[Xy,Nat.mul_comm];exact w,_,r.rep k.toNat,BH.new _ _⟩
theorem V8{K:pv}:ov K (λx y H Q=>rI CB (λi j=> .int (i*j)) x y H Q\/bw K x y H Q) wt:=λh H x y k R d Q s rx I z q=>by
 cases k<;>cases R<;>simp[wt]at z
 ·obtain⟨l,B⟩:=z
  subst B;exact .inl ⟨_,_,jr rx,jr I,Y7 l,q _ H h (Ext.refl s) rfl⟩
 ·rename_i f j
  obtain⟨⟨U,W⟩,rfl⟩:=z;obtain⟨a,n,rfl,g,b⟩:=kG rx;obtain⟨Y,m⟩:=XQ W;refine .inr ⟨a,j,n,rfl,jr I,u3 s g,Y,m,xu (by rw[b.length];exact U),λe=>?_,λp O=>?_⟩
  ·refine q _ H h (Ext.refl s) ?_
   rcases e with e | e
   ·have B:f=[]:=by
     have:=b.length;rw[e]at this;exact rK this.symm
    subst B;rw[show(pF j.toNat ([]:List D)).flatten=[]by simp];exact qt g b
   ·subst e
    rw[show(pF (1:Int).toNat f).flatten=f by simp];exact qt g b
  ·exact q _ _ _ (Ext.alloc s O _)<|qt (i4.of zq)<|(Jc b _).mono (zY (jg s O) _)
theorem kX(B:PV X a fa)(z:PV X b fb):PV X (.BinOp a .Mult b pos) (zt wt fa fb):=vq (FU.or WJ) V8 B z
end
end DL
namespace DL
open PySem PySem.Spec PyProof.Rows L2
theorem RC.FJ{K:pv}{H0 H:Hp}{P:St}{γ:Ctx}{i:Nat}{G:List D}{a:cS}{xs:List V}(r:RC K H0 H P γ)(e:γ[i]? = aI (.own G))(L:P[i]? = aI (aI (.ref a)))(J:H0 a=bC)(Y:H a=aI (.lst xs))(Z:eS K H0 G xs):RC K (L2.upd H0 a<|.lst xs) H P (γ.set i<|.val<|.lst G):=by
 refine⟨λb o q=>?_,by simp[r.len],λj d g=>?_,λj m g=>?_,λj k b m fs f B s t=>?_,⟨λj h g=>?_,λj k w x f B=>?_⟩⟩
 ·by_cases z:b=a
  ·subst z;rw[zq]at q;rw[Y];exact q
  ·rw[zo z]at q;exact r.sub b o q
 ·rcases zC g with⟨rfl,z,C⟩ | ⟨I,z⟩
  ·cases z;exact⟨_,L,Zx (i2.of zq)<|Z.mono<|zY J _⟩
  ·obtain⟨v,O,g2⟩:=r.val j d z
   exact⟨v,O,g2.mono<|zY J _⟩
 ·rcases zC g with⟨_,z,_⟩ | ⟨I,z⟩
  ·cases z
  ·obtain⟨b,y,O,g2,g3,u⟩:=r.own j m z
   refine⟨b,y,O,?_,g3,u.mono<|zY J _⟩;rw[zo (λq=>I<|r.ne j i a m G z e (by rw[O,q]) L)];exact g2
 ·rcases zC f with⟨_,z,_⟩ | ⟨I,l⟩
  ·cases z
  ·rcases zC B with⟨_,z,_⟩ | ⟨A,R⟩
   ·cases z
   ·exact r.ne j k b m fs l R s t
 ·rcases zC g with⟨_,z,_⟩ | ⟨I,z⟩
  ·cases z
  ·obtain⟨b,bs,f1,U,W⟩:=r.A3.1 j h z
   have p:=W i G a e L;refine⟨b,bs,f1,U.move (zY J _) (λc n=>by rw[zo (λq=>p<|by rw[<- q];exact n)];exact(U.at n).1)<|λc n=>rfl,λk fs c f B=>?_⟩;rcases zC f with⟨_,z,_⟩ | ⟨_,l⟩
   ·cases z
   ·exact W k fs c l B
 ·rcases zC f with⟨_,z,_⟩ | ⟨_,l⟩
  ·cases z
  ·rcases zC B with⟨_,z,_⟩ | ⟨_,R⟩
   ·cases z
   ·exact r.A3.2 j k w x l R
end DL
namespace L2
open PySem PySem.Spec PyProof.Rows
open AutoSeq1 (wpAny_loadPart')
theorem wY(O:IsEnum s.heap z it n old)(h:Q (.ref z) s):wpAny (fh prog w) A (Dj (.ref z)) Q E s:=by have B:s.TypeIs (.ref z) "enumerate":=⟨_,O,rfl⟩;refine wpAny_pyIter_slot B F.slot_enumerate_iter (tH F.slot_enumerate_iter B F.entry_enumerate_iter ?_ (F.args_enumerate_iter_1 _));have I:wpAny (fh prog w) A.in1 (ret (.ref z)) (λI a=>∃v,I = .done (.ret v)/\∃T m,a.TypeIs v T/\DU (.type T) "__next__" = pure (aI m)/\Q v a) E s:=pD ⟨_,rfl,"enumerate",_,B,F.slot_enumerate_next.lookup,h⟩;exact I
end L2
namespace DL
open PySem PySem.Spec PyProof.Rows L2
theorem ko{K:pv}{H:Hp} : ∀{G:List D} {xs:List V} {l:List Int},eS K H G xs->kL G=aI l->xs=l.map V.int
 | [],xs,l,r,e=>by cases e;rw[show xs=[]from r];rfl
 | d::G,xs,l,r,e=>by
  obtain⟨x,I,rfl,z,B⟩:=(show ∃x r,xs=x::r/\Rep K H d x/\eS K H G r from r);cases d with
  | int i=>
   obtain⟨O,a,rfl⟩:=zw (show(kL G).map (λl=>i::l)=aI l from e);rw[ko B a,show x = .int i from z];rfl
  | _=>cases e
theorem yL : ∀l:List Int,(l.map V.int).all vf=cI
 | []=>rfl
 | i::l=>by simp only[rM,tM,yL l,Bool.and_true];rfl
theorem ZP(i:Int) : ∀l:List Int,CP (.int i) (l.map V.int)=decide (i∈l)
 | []=>rfl
 | j::l=>by
  have z:=ZP i l;unfold CP at z ⊢;rw[rM,AN,z];have e:BV (.int j) (.int i)=(j==i):=rfl;rw[e];by_cases h:i=j
  ·subst h
   rw[beq_self_eq_true,Bool.true_or];exact(decide_eq_true rh).symm
  ·rw[beq_false_of_ne (rH h),Bool.false_or]
   exact decide_eq_decide.mpr ⟨λq=>pT _ q,λq=>(pM.mp q).resolve_left h⟩
section
variable{X:Cx}{sc:hH}{N L:List Str}{k:Nat}{a b c:f6}{pos p:g9}{f fa fb fc:CO D}
theorem Yn(ho:jn X (o9 op) r)(J:jn X (o9 Di) r')(s1:ov X.K r F)(s2:ov X.K r' G)(P:PV X a fa)(Z:PV X b fb)(hc:PV X c fc)
 (hm:Ed [op,Di] [b,c]=dV:=by with_unfolding_all rfl):PV X (.Compare a [op,Di] [b,c] pos) (qL F G fa fb fc):=
 jK (Yz ho J P Z hc hm) λσ H Q E=>by
  obtain⟨h,f,d,rc,B,q⟩:=E;obtain⟨x,s,B⟩:=zc B;obtain⟨y,t,B⟩:=zc B;obtain⟨k,u,B⟩:=zc B;obtain⟨R,w,U⟩:=zc u;refine⟨h,f,x,rc,s,λT H1 e x1 L=>⟨e,f,y,rc.ext x1,t,λW i n I Y=>s1 n i T W x y R _ I.sub (L.mono I.s0) Y w λv3 j g x3 M=>?_⟩⟩;cases R with
  | bl k'=>
   cases U;refine⟨k,show v3 = .bl k from M,?_⟩;cases k with
   | true=>
    rw[GY rfl];rw[GY rfl]at B;obtain⟨z,A,C⟩:=zc B;exact⟨g,f,z,((rc.ext x1).ext I).ext x3,A,λv4 l o O N=>s2 o l W v4 y z d _ O.sub ((Y.mono x3.s0).mono O.s0) N C λv5 m p x5 S=>q v5 m p (((x1.trans I).trans x3).trans (O.trans x5)) S⟩
   | false=>
    rw[MQ ⋯];rw[MQ ⋯]at B;cases B;exact q _ j g ((x1.trans I).trans x3) rfl
  | _=>cases U
theorem bE(G:PV X a fa){g:CO (Sk×List D)}(O:PQ X b g)(J:B8 .In b=dV:=by with_unfolding_all rfl):PV X (.Compare a [.In] [b] pos) (mm fa g):=
 jK (Xg Xl G O J) λE H Q R=>by
  obtain⟨m,k,d,rc,z,q⟩:=R;obtain⟨x,s,z⟩:=zc z;obtain⟨⟨j,o⟩,U,z⟩:=zc z;obtain⟨i,W,z⟩:=zc z;obtain⟨l,Y,rfl⟩:=zw z;refine⟨m,k,x,rc,s,λI y e x1 B=>⟨e,k,j,o,rc.ext x1,U,λp C f n w h A r=>?_⟩⟩;rw[jQ W]at B;have t:=ko r Y;subst t;have u:i2 X.K f p (l.map V.int)\/i4 X.K f p (l.map V.int):=by
   cases j with
   | L=>exact .inl h
   | T=>exact .inr h
  refine⟨p,_,rfl,u,by rw[show I = .int i from B];rfl,yL l,?_⟩;rw[show I = .int i from B,ZP];exact q _ f n (x1.trans w) rfl
end
theorem ka : ∀{l:List Int} {G:List eF},hA (l.map V.int) G->∀i,i<G.toArray.size->∃z u,G.toArray[i]? = aI (.int z u)/\l[i]? = aI z
 | [],G,r,i,hi=>by cases r;exact absurd hi<|Nat.not_lt_zero _
 | z::l,u::G,.cons r t,i,hi=>by
  cases i with
  | zero=>
   obtain⟨b,rfl⟩:=r;exact⟨z,b,by simp,by simp⟩
  | succ i=>
   obtain⟨B,I,a,O⟩:=ka t i (by simpa using hi);exact⟨B,I,by simpa using a,by simpa using O⟩
section
variable{K:pv}{E0 E H0 H:Hp}{σ:St}{γ:Ctx}
theorem RS.forget(r:RS K E0 E H0 H σ γ):RS K E0 E H0 H (σ.set i v) (γ.set i .no):=by
 have O : ∀{j:Nat} {e:List D} {b:cS},(γ.set i .no)[j]? = aI (.own e)->γ[j]? = aI (.own e)/\(σ.set i v)[j]? = σ[j]? :=λ{j e b} g=>by
  rcases zC g with⟨_,z,_⟩ | ⟨R,z⟩
  ·cases z
  ·exact⟨z,pG<|rH R⟩
 have U : ∀{j:Nat} {d:List (List D)},(γ.set i .no)[j]? = aI (.nest d)->γ[j]? = aI (.nest d)/\(σ.set i v)[j]? = σ[j]? :=λ{j d} g=>by
  rcases zC g with⟨_,z,_⟩ | ⟨R,z⟩
  ·cases z
  ·exact⟨z,pG<|rH R⟩
 refine⟨⟨r.rc.sub,by simp[r.rc.len],λj o g=>?_,λj e g=>?_,λj k b e fs h W m n=>?_,⟨λj d g=>?_,λj k u w I g2=>r.rc.A3.2 j k u w (U I).1 (U g2).1⟩⟩,r.ext,λj e b I g2=>?_,λj d b y I g2 g3=>?_⟩
 ·rcases zC g with⟨_,z,_⟩ | ⟨R,z⟩
  ·cases z
  ·obtain⟨x,I,g2⟩:=r.rc.val j o z
   exact⟨x,by rw[pG (rH R)];exact I,g2⟩
 ·obtain⟨f,B⟩:=O (b:=0) g
  rw[B];exact r.rc.own j e f
 ·obtain⟨f,B⟩:=O (b:=0) h
  obtain⟨Y,l⟩:=O (b:=0) W;rw[B]at m;rw[l]at n;exact r.rc.ne j k b e fs f Y m n
 ·obtain⟨f,B⟩:=U g
  obtain⟨a,bs,p,s,t⟩:=r.rc.A3.1 j d f;refine⟨a,bs,by rw[B];exact p,s,λk e c h W=>?_⟩;obtain⟨Y,l⟩:=O (b:=0) h;rw[l]at W;exact t k e c Y W
 ·obtain⟨f,B⟩:=O (b:=0) I
  rw[B]at g2;exact r.fresh j e b f g2
 ·obtain⟨f,B⟩:=U I
  rw[B]at g2;exact r.BI j d b y f g2 g3
end
section
variable{K:pv}{E0 E H0 H:Hp}{σ:St}{γ:Ctx}
theorem RS.freeze(r:RS K E0 E H0 H σ γ)(e:γ[i]? = aI (.own J)) : ∃G,RS K E0 E G H σ (γ.set i<|.val<|.lst J):=by
 obtain⟨a,l,f,g,R,U⟩:=r.rc.own i J e;have W:=r.fresh i J a e f;obtain⟨G,k,O⟩ : ∃G,G=upd H0 a (.lst l)/\RC K G H σ (γ.set i<|.val<|.lst J):=by refine⟨_,rfl,?_⟩;exact RC.FJ r.rc e f g R U
 subst k;refine⟨_,O,⟨r.ext.s0.trans<|zY g _,r.ext.s1,O.sub,λc Y B=>?_⟩,λj h b I g2=>?_,λj d b m I g2 g3=>?_⟩
 ·rw[zo (λz=>by rw[z,W]at B;exact B rfl)];exact r.ext.new c Y B
 ·rcases zC I with⟨_,z,_⟩ | ⟨_,z⟩
  ·cases z
  ·exact r.fresh j h b z g2
 ·rcases zC I with⟨_,z,_⟩ | ⟨_,z⟩
  ·cases z
  ·exact r.BI j d b m z g2 g3
open Classical in
end
section
variable{X:Cx}{st:h9}{F:CO Fl}
theorem Wz(i:Nat)(h:m5 X st F):m5 X st (mn i F):=kg h λD g H B=>by obtain⟨E0,E,d,f,I,O,z,R⟩:=B;obtain⟨e,b,z⟩:=zc z;obtain⟨a,U⟩:=O.freeze<|xE b;exact⟨E0,E,a,_,I,U,z,R⟩
end
theorem wz{K:pv}{H:Hp} : ∀{G:List D} {xs:List V} {l:List Str},eS K H G xs->JO G=aI l->xs=l.map V.str
 | [],xs,l,r,e=>by cases e;rw[show xs=[]from r];rfl
 | d::G,xs,l,r,e=>by
  obtain⟨x,I,rfl,z,B⟩:=(show ∃x r,xs=x::r/\Rep K H d x/\eS K H G r from r);cases d with
  | str i=>
   obtain⟨O,a,rfl⟩:=zw (show(JO G).map (λl=>i::l)=aI l from e);rw[wz B a,show x = .str i from z];rfl
  | _=>cases e
section
variable{X:Cx}{sc:hH}{N L:List Str}{k:Nat}{o e a b:f6}{apos cpos pos p:g9}{f g:CO D}{q:CO (Sk×List D)}
theorem KR(h:qb x=cI):x.length<=1000:=of_decide_eq_true h
theorem JP(h:qb x=cI):x.length<=i6:=rV (KR h) ⋯
theorem Yl(G:PV X a f)(R:PV X b g)(hs:ZZ b:=by intro _ _;rfl):PV X (.Subscript a b pos) (yv f g):=
 jK (bZ dg G R hs) λC H Q U=>by
  obtain⟨m,l,d,rc,B,q⟩:=U;obtain⟨W,p,B⟩:=zc B;obtain⟨i,I,B⟩:=zc B;obtain⟨Y,s,I⟩:=zc I;cases W with
  | str z=>
   by_cases h:qb z=cI
   ·have B:(if qb z=cI then (i9 z.cps.toList.length i).bind λk=>z.cps.toList[k]?.map λc=>D.str ⟨#[c]⟩else bC)=aI d:=B
    rw[GY h]at B;obtain⟨j,t,B⟩:=zc B;obtain⟨c,u,rfl⟩:=zw B;refine⟨m,l,_,rc,p,λv y e x r=>⟨e,l,Y,rc.ext x,s,λA n o w O=>?_⟩⟩;rw[jQ I]at O;refine⟨z,i,c,r,jr O,JP h,?_,q _ n o (x.trans w) rfl⟩;unfold B7;rw[XD t];exact u
   ·have B:(if qb z=cI then (i9 z.cps.toList.length i).bind λk=>z.cps.toList[k]?.map λc=>D.str ⟨#[c]⟩else bC)=aI d:=B
    rw[MQ h]at B;cases B
  | _=>cases B
theorem Q1{G:g9}(h:SX X sc N L k)(c:qe sc "isinstance" = cI)(z:X.mg "isinstance" = bC)(H:qe sc "str" = cI)(B:X.mg "str" = bC)(I:PV X a f)
 (hs:hX [a,.Name "str" G] X.env=[(dV,fk a X.env),(dV,fk (.Name "str" G) X.env)]:=by rfl):PV X (.Call (.Name "isinstance" p) [a,.Name "str" G] [] pos) (o4 .str f):=Ym .str h c z H B ⋯ I hs
end
end DL
namespace DL
open PySem PySem.Spec PySem.Calls PyProof.Rows PySem.W PySem.Builtin PySem.Builtin.ObjectAttr
section
variable{prog:iv}{w:h8}{A:i7}{E:GQ}{h:fy}{g:Array GenState}{d:Drawn}{t:Nat}{os:OsState}{K:Frag}{x C S:cS}{cd:ClassData}{vs:Array eF}{name:Str}{v:eF}
theorem JD{G:Tok}{Q:Fin->eM->Prop}(X:K.In h){od:Option cS}(W:od=bC)(hx:h.get? x=aI ⟨.ref C,od,.fields vs,#[]⟩)(z:clsIn K C=aI cd)(H:cd.mro = .ref C :: .ref S::t8)(L:cd.hasDict=cI)(J:findIn K (.ref C) name=aI bC)
 (hq : ∀h' e Y,h.get? e=bC->h'.get? x=aI ⟨.ref C,aI e,.fields vs,#[]⟩->h'.Ns1 e (λy=>if y=name then aI v else bC)->(∀b o,b≠x->h.get? b=aI o->h'.get? b=aI o)->Q (.done<|.ret .none) ⟨h',g,d,Y,os⟩) :
 wpAny (fh prog w) A (Builtin.«object.__setattr__» ⟨[.ref x,.str name G,v],[]⟩) Q E ⟨h,g,d,t,os⟩:=by
 have j:=sX.passes<|.ref x;have B:Looks (fh prog w) h (mroOf<|.ref C) cd.mro:=(looks_clsIn X z).andThen .now;have f:=looks_findIn (M:=fh prog w) X J;have i:=looks_clsIn (M:=fh prog w) X z;rw[H]at B;unfold Builtin.«object.__setattr__»
 repeat (first | rw[refuse_eq] | (rw[refuseLoop_ref,refuseLoop_ref];show wpAny _ _ (refuseLoop _ _ t8) _ _ _;unfold t8;rw[j]) | (with_reducible refine sh hx ?_) | (with_reducible refine B.at ?_) | (with_reducible refine f.at ?_) | (with_reducible refine i.at ?_) | wp_step)
 subst W;have I:(h.push {cls:= .type "dict",data:= .dict #[]}).get? x=aI ⟨.ref C,bC,.fields vs,#[]⟩:=pA _ hx;have O:x≠h.objs.size:=pP (pE hx);show wpAny _ _ (alloc {cls:=tZ "dict",data:=Data.dict #[]} >>= _) _ _ _;refine pw (wpAny_alloc' ?_);refine pw (wpAny_update' I ?_);refine pD ?_;show wpAny _ _ (storeInDict h.objs.size (.str name G) name v) _ _ _;unfold storeInDict newKeyGuard;have k:((h.push {cls:= .type "dict",data:= .dict #[]}).update x λo=>{cls:=o.cls,dict:=aI h.objs.size,data:=o.data,slots:=o.slots}).get? h.objs.size=aI {cls:= .type "dict",data:= .dict #[]}:=
  (AE _ _ _ _ O.symm).trans (Heap.get?_push_at rfl rfl)
 have l:((h.push {cls:= .type "dict",data:= .dict #[]}).update x λo=>{cls:=o.cls,dict:=aI h.objs.size,data:=o.data,slots:=o.slots}).Ns h.objs.size (λ_=>bC):=
  ⟨_,#[],_,k,rfl,λe s=>absurd s ⋯,λ_=>rfl⟩
 refine pw<|pD<|pw<|wpAny_nsSet1 (Heap.Ns1.of_empty l) λh' R a=>?_;obtain⟨oD,u,F,m,n,p⟩:=R.count<|AZ.cons name v AZ.nil;refine pw<|wpAny_lookBehind m (by rw[n];exact pastItsLine_dict<|rV p<|by rw[Am,List.length_nil,tx];omega) ?_;refine pD<|hq h' h.objs.size _ (Aw<|pN _) ?_ R λb o r U=>?_
 ·refine(a.2 x O).trans (rJ _ I rfl)
 ·exact(a.2 b<|pP<|pE U).trans ((AE _ _ _ _ r).trans (pA _ U))
theorem JE{o:l3}{z:eF}{Q:Unit->eM->Prop}{M:Model}(X:K.In h)(hx:h.get? x=aI o)(H:o.cls = .ref C)(B:mroIn K C (.type "object")=aI cI)(G:Q () ⟨h,g,d,t,os⟩) :
 wpAny M A (D7 "object.__setattr__" ⟨[.ref x,z,v],[]⟩) Q E ⟨h,g,d,t,os⟩:=by
 have I:Looks M h (typeOf (.ref x)) (.ref C):=H ▸ (Looks.ld hx).andThen .now;have O:=looks_mroIn (M:=M) X B;have b:builtinKind "object.__setattr__" = aI .slot:=sX.kind;have R:splitId "object.__setattr__" = aI ("object","__setattr__"):=sX.split;have a:=sX.args (.ref x) z v;simp only[D7,b,R];refine pw (m:=isInstance (.ref x) (.type "object")) ?_;refine(I.andThen O).at ?_;rw[MQ ⋯];unfold argsOk at a;cases hs:Manifest.signature? "object.__setattr__" with
 | none=>exact pD G
 | some U=>
  rw[hs]at a;exact uE a G
theorem ma{Q:Unit->eM->Prop}(X:K.In h)(hx:h.get? x=aI ⟨.ref C,bC,.fields vs,#[]⟩)(hs:findIn K (.ref C) "__setattr__" = aI (aI (.builtin "object.__setattr__")))(B:mroIn K C (.type "object")=aI cI)
 (I:clsIn K C=aI cd) (G:cd.mro = .ref C :: .ref S::t8) (O:cd.hasDict=cI) (H:findIn K (.ref C) name=aI bC)
 (J : ∀h' e z,h.get? e=bC->h'.get? x=aI ⟨.ref C,aI e,.fields vs,#[]⟩->h'.Ns1 e (λy=>if y=name then aI v else bC)->(∀b o,b≠x->h.get? b=aI o->h'.get? b=aI o)->Q () ⟨h',g,d,z,os⟩) :
 wpAny (fh prog w) A (setAttr (.ref x) name v) Q E ⟨h,g,d,t,os⟩:=by
 have R:Looks (fh prog w) h (typeOf<|.ref x) (.ref C):=(Looks.ld hx).andThen .now;have U:=looks_findIn (M:=fh prog w) X hs;have j:=sX.slot.bind<|.ref x;unfold setAttr callSpecial? specialOf
 repeat (any_goals (first | assumption | (with_reducible refine R.at ?_) | (with_reducible refine U.at ?_) | wp_step))
 refine ua sX.slot.plain sX.entry<|JE (o:=⟨.ref C,bC,.fields vs,#[]⟩) X hx rfl B<|JD (cd:=cd) (S:=S) X rfl hx I G O H λh' e z W Y a f=>?_;have i:=J h' e z W Y a f
 repeat (any_goals (first | assumption | wp_step))
end
end DL
namespace DL
open PySem PySem.Spec PySem.Calls PyProof.Rows PySem.W
noncomputable def vg(C:cS)(dd:Option cS)(a0:cS):l3:=⟨.ref C,dd,.fields #[.ref a0,.none,.none,.none,.bool dV,.none],#[]⟩
section
variable{prog:iv}{w:h8}{A:i7}{E:GQ}{h:fy}{g:Array GenState}{d:Drawn}{t:Nat}{os:OsState}
variable{nm q:Str}{C N x:cS}{bs bm:List eF}{hdct:Bool}{sn:List Str}{sub:List eF}{ab:Bool}{col:Option Bool}{dd:Option cS}{k0 k1 k2 k3 k5:Option eF}{a0:cS}{u:eF}
theorem aD{Q:GQ}(T:OwnTail h t8 bm)(z:h.get? C=aI (excClassObj nm q C N bs bm hdct sn sub ab col dd k0 k1 k2 k3 k5 "ValueError.__new__"))(hx:h.get? x=aI (vg C bC a0))
 (G : ∀h' B,h'.get? x=aI (vg C bC B)->(∀b o,b≠x->h.get? b=aI o->h'.get? b=aI o)->Q .none ⟨h',g,d,t,os⟩) :
 wpAny (fh prog w) A (call (.builtin "ValueError.__init__") [.ref x,u]) Q E ⟨h,g,d,t,os⟩:=by
 have F:=sT;refine uF<|ua F.init.plain F.initEntry<|wpAny_check_init_subT F T z hx rfl ?_
 wp_walk
 have R:x<h.objs.size:=pE hx;have I:(h.push {cls:= .type "tuple",data:= .seq #[u]}).get? x=aI (vg C bC a0):=pA _ hx;refine G _ h.objs.size ?_ λb o O e=>?_
 ·rw[rJ _ I rfl];rfl
 ·exact(AE _ _ _ _ O).trans (pA _ e)
theorem JF{rest:List eF}{G:cS}{U:l3}{Q:Fin->eM->Prop}(T:OwnTail h t8 bm)(B:h.get? C=aI (excClassObj nm q C N bs bm hdct sn sub ab col dd k0 k1 k2 k3 k5 "ValueError.__new__"))
 (W:Looks (fh prog w) h (DU (.ref C) "__init__") (aI (.ref G))) (Y:h.get? G=aI U) (H:U.cls = .type "function") (L:rest.length<=i6)
 (J : ∀h' e a0,h.get? e=bC->h'.get? e=aI (vg C bC a0)->(∀b o,h.get? b=aI o->h'.get? b=aI o)->wpAny (fh prog w) A (call (.ref G) (.ref e::rest)) (λr s'=>r = .none/\Q (.done<|.ret<|.ref e) s') E ⟨h',g,d,t,os⟩) :
 wpAny (fh prog w) A (Builtin.«type.__call__» ⟨.ref C::rest,[]⟩) Q E ⟨h,g,d,t,os⟩:=by
 have F:=sT
 repeat (first | with_reducible refine wpAny_madeBy_exc B ?_ | with_reducible refine sh B ?_ | wp_step)
 refine codeAny_call_builtin_code (AO _ F.quiet) (wpAny_check_new_subT F T B (codeAny_exc_new_subT F T B ?_ L));show wpAny _ _ _ _ _ _;have I : ∀b o,h.get? b=aI o->((h.push {cls:= .type "tuple",data:= .seq rest.toArray}).push (vg C bC h.objs.size)).get? b=aI o:=λb o e=>pA _ (pA _ e);have O:((h.push {cls:= .type "tuple",data:= .seq rest.toArray}).push (vg C bC h.objs.size)).get? (h.objs.size+1)=aI (vg C bC h.objs.size):=by heap_get
 have a:=W.keeps I;have f:(pO C::bm).contains (.ref C)=cI:=by simp
 have i:h.get? (h.objs.size+1)=bC:=Aw (Nat.le_succ _);change wpAny _ _ _ _ _ ⟨(h.push {cls:= .type "tuple",data:= .seq rest.toArray}).push (vg C bC h.objs.size),_,_,_,_⟩;have l:=T.keeps I;have j:=I _ _ B;have k:=I _ _ Y;have R:=λe=>J _ (h.objs.size+1) h.objs.size i O e;have R:=R I;generalize (h.push {cls:= .type "tuple",data:= .seq rest.toArray}).push (vg C bC h.objs.size)=h2 at *;unfold isInstance
 repeat (first | with_reducible refine sh O ?_ | wp_step)
 show wpAny _ _ (isSubtype (.ref C)<|.ref C) _ _ _;refine Bb j ?_;rw[f];simp only[Bool.not_true,Bool.false_eq_true,if_false];refine pw<|rk ?_;unfold callSpecial? specialOf
 repeat (first | with_reducible refine sh O ?_ | wp_step)
 show wpAny _ _ (DU (.ref C) _) _ _ _;refine a.at ?_;refine rk (pw ?_);unfold bindSpecial;refine pw (AF (T:="function") ⟨_,k,H⟩ ?_);rw[GY ⋯];refine pD (pw (pJ R (λr s' z=>?_) λ_ _ z=>z));obtain⟨rfl,z⟩:=z
 wp_walk
 exact z
theorem aE{rest:List eF}{G:cS}{B:l3}{Q:GQ}(T:OwnTail h t8 bm)(z:h.get? C=aI (excClassObj nm q C N bs bm hdct sn sub ab col dd k0 k1 k2 k3 k5 "ValueError.__new__"))
 (I:Looks (fh prog w) h (DU (.ref C) "__init__") (aI (.ref G))) (O:h.get? G=aI B) (R:B.cls = .type "function") (U:rest.length<=i6)
 (H : ∀h' e a0,h.get? e=bC->h'.get? e=aI (vg C bC a0)->(∀b o,h.get? b=aI o->h'.get? b=aI o)->
   wpAny (fh prog w) (A.under (.builtin "type.__call__" ⟨.ref C::rest,[]⟩)) (call (.ref G) (.ref e::rest)) (λr s'=>r = .none/\Q (.ref e) s') E ⟨h',g,d,t,os⟩) :
 wpAny (fh prog w) A (call (.ref C) rest) Q E ⟨h,g,d,t,os⟩:=by
 have f1:=tc_lookup;have f2:=tc_bind (.ref C);have f:(⟨h,g,d,t,os⟩:eM).TypeIs (.ref C) "type":=⟨_,z,rfl⟩;refine uF (codeAny_of_tree (show wpAny _ _ (callAny (.ref C) _) _ _ _ from ?_))
 repeat (any_goals (first | assumption | with_reducible refine sh z ?_ | wp_step))
 refine⟨rfl,codeAny_call_builtin_at (AO _ ⋯) entry_typeCall<|wpAny_check_type_call_sub z<|JF T z I O R U λh' e a0 W Y a=>?_⟩;exact H h' e a0 W Y a
end
end DL
namespace DL
open PySem PySem.Spec PySem.Calls PyProof.Rows PySem.W PySem.Builtin PySem.Builtin.ObjectAttr
section
variable{prog:iv}{w:h8}{A:i7}{E:GQ}{h:fy}{g:Array GenState}{dr:Drawn}{t:Nat}{os:OsState}{K:Frag}{x C d a0:cS}{cd:ClassData}{name:Str}{mA:GJ}{i:Int}{tk:Tok}
theorem JH{P:Tok}{Q:Fin->eM->Prop}(X:K.In h){W:Array eF}{L:Array (Option eF)}(hx:h.get? x=aI ⟨.ref C,aI d,.fields W,L⟩)(H:h.Ns1 d mA)(G:mA name=aI (.int i tk))(z:clsIn K C=aI cd)(R:cd.hasDict=cI)(B:findIn K (.ref C) name=aI bC)
 (J:Q (.done<|.ret<|.int i tk) ⟨h,g,dr,t,os⟩):wpAny (fh prog w) A (Builtin.«object.__getattribute__» ⟨[.ref x,.str name P],[]⟩) Q E ⟨h,g,dr,t,os⟩:=by
 have I:Looks (fh prog w) h (typeOf<|.ref x) (.ref C):=(Looks.ld hx).andThen .now;have a:=looks_findIn (M:=fh prog w) X B;have O:=looks_clsIn (M:=fh prog w) X z;unfold Builtin.«object.__getattribute__»
 repeat (first | (with_reducible refine wpAny_nsGet H.ns ?_;rw[G]) | (with_reducible refine I.at ?_) | (with_reducible refine a.at ?_) | (with_reducible refine O.at ?_) | (with_reducible refine sh hx ?_) | wp_step)
 all_goals exact J
theorem nI{ex:Bool}{Q:GQ}(X:K.In h)(G:Co K C){P:Array eF}{L:Array (Option eF)}(hx:h.get? x=aI ⟨.ref C,aI d,.fields P,L⟩)(J:h.Ns1 d mA)(H:mA name=aI (.int i tk))(R:clsIn K C=aI cd)(U:cd.hasDict=cI)(W:findIn K (.ref C) name=aI bC)
 (hq : ∀t',Q (.int i tk) ⟨h,g,dr,t',os⟩):wpAny (fh prog w) A (getAttr (.ref x) name ex) Q E ⟨h,g,dr,t,os⟩:=by
 have O:vH h x C:=⟨_,_,hx,rfl,rfl⟩;have Y:Looks (fh prog w) h (typeOf (.ref x)) (.ref C):=(Looks.ld hx).andThen .now;have e:=looks_findIn (M:=fh prog w) X G.ga;have f:=looks_findIn (M:=fh prog w) X G.gn;have B:=ue.ga.bind (.ref x);unfold getAttr getAttrBy;refine pw (wpAny_mkText (rk (pw (Y.at (pw (e.at ?_))))));show wpAny _ _ (getAttrByItsOwn _ _ _ _ _ _) _ _ _;unfold getAttrByItsOwn;refine pw (f.at ?_);refine pw (uW (rk ?_));have a:wpAny (fh prog w) A (boundAndCalled (.builtin "BaseException.__getattribute__") (.ref x) (.str name t)) (λv b=>v = .int i tk/\b=⟨h,g,dr,t+1,os⟩) (λ_ _=>False) ⟨h,g,dr,t+1,os⟩:=by unfold boundAndCalled;refine pw (uE B ?_);refine uF (ua ue.ga.plain PySem.F.entry_bexc_ga (Zb (s:=⟨h,g,dr,t+1,os⟩) X O G (JH X hx J H R U W ?_)));exact⟨rfl,rfl⟩
 have I : ∀b,b=(⟨h,g,dr,t+1,os⟩:eM)->wpAny (fh prog w) A (handedOut<|.int i tk) Q E b:=λb z=>by subst z;exact handed_on rfl<|hq _
 cases ex with
 | false=>
  refine pJ (show wpAny (fh prog w) A (boundAndCalled (.builtin "BaseException.__getattribute__") (.ref x) (.str name t)) _ _ _ from a) (λv b z=>?_) λ_ _ z=>z.elim;obtain⟨rfl,z⟩:=z;exact I _ z
 | true=>
  refine pJ (show wpAny (fh prog w) A (boundAndCalled (.builtin "BaseException.__getattribute__") (.ref x) (.str name t)) _ _ _ from a) (λv b z=>?_) λ_ _ z=>z.elim;obtain⟨rfl,z⟩:=z;exact I _ z
end
end DL
namespace DL
open PySem PySem.Spec PySem.Calls PyProof.Rows
def yT(e d:cS)(h:fy):Prop:=∃o,h.get? e=aI o/\o.dict=aI d
noncomputable def Zq(e:cS)(h:fy):Prop:=∃o a,h.get? e=aI o/\o.data = .fields a/\a[2]? = aI su
inductive DS{α:Type}:Sem α->Prop
 | pure (a:α):DS (.pure a)
 | raise (e:eF):DS (.raise e)
 | Bw (w:String):DS (.unsupported w)
 | rule {t:String} {k:Unit->Sem α} (h : ∀u,DS<|k u):DS (.rule t k)
 | at {p:g9} {k:Unit->Sem α} (h : ∀u,DS<|k u):DS (.at p k)
 | load {a:cS} {p:Option eF} {k:l3->Sem α} (h : ∀o,DS<|k o):DS (.load a p k)
 | update {a:cS} {p:Option eF} {f:l3->l3} {k:Unit->Sem α} (hf : ∀o,(f o).dict=o.dict/\(o.isFreed=dV->(f o).isFreed=dV)/\∀vs,o.data = .fields vs->∃Es,(f o).data = .fields Es/\Es[2]? = vs[2]?) (h : ∀u,DS<|k u):DS (.update a p f k)
 | alloc {o:l3} {k:cS->Sem α} (h : ∀a,DS<|k a):DS (.alloc o k)
 | register {a:cS} {k:Unit->Sem α}:DS (.register a k)
 | fresh {k:Tok->Sem α} (h : ∀a,DS<|k a):DS (.fresh k)
 | ask {k:Setting->Sem α} (h : ∀a,DS<|k a):DS (.ask k)
 | stack {k:List (Code×g9)->Sem α} (h : ∀a,DS<|k a):DS (.stack k)
 | handled {b:Bool} {k:Option eF->Sem α} (h : ∀a,DS<|k a):DS (.handled b k)
 | point {l:List eF} {k:Unit->Sem α} (h : ∀a,DS<|k a):DS (.point l k)
theorem gj{G:Type}{M:Model}{Γ:PySem.Ctx}{e d:cS}{t:Sem G}(h:DS t) : ∀{Q:G->g9->eM->Prop} {E:eF->g9->eM->Prop} {p:g9} {s:eM},yT e d s.heap->sV M Γ t Q E p s->
 sV M Γ t (λa O s'=>Q a O s'/\yT e d s'.heap) (λx O s'=>E x O s'/\yT e d s'.heap) p s:=by
 induction h with
 | pure a=>intro Q E p s b w;rw[sV]at w ⊢;exact⟨w,b⟩
 | raise x=>intro Q E p s b w;rw[sV]at w ⊢;exact⟨w,b⟩
 | Bw x=>intro Q E p s b w;rw[sV]at w;exact w.elim
 | rule h z=>intro Q E p s b w;rw[sV]at w ⊢;exact z _ b w
 | «at» h z=>intro Q E p s b w;rw[sV]at w ⊢;exact z _ b w
 | load h z=>intro Q E p s b w;rw[sV]at w ⊢;obtain⟨o,B,w⟩:=w;exact⟨o,B,z _ b w⟩
 | @update a p f k g h z=>
  intro Q E p s b w;rw[sV]at w ⊢;obtain⟨i,w⟩:=w;refine⟨i,z _ ?_ w⟩;obtain⟨o,B,I⟩:=b;by_cases q:a=e
  ·subst q
   exact⟨f o,rJ _ B<|(g o).2.1 (Heap.get?_some_iff.mp B).2,by rw[(g o).1];exact I⟩
  ·exact⟨o,(rW _ _ q).trans B,I⟩
 | alloc h z=>intro Q E p s b w;rw[sV]at w ⊢;obtain⟨o,B,I⟩:=b;exact z _ ⟨o,pA _ B,I⟩ w
 | register=>intro Q E p s b w;rw[sV]at w;exact w.elim
 | fresh h z=>intro Q E p s b w;rw[sV]at w ⊢;exact z _ b w
 | ask h z=>intro Q E p s b w;rw[sV]at w ⊢;exact z _ b w
 | stack h z=>intro Q E p s b w;rw[sV]at w ⊢;exact z _ b w
 | handled h z=>intro Q E p s b w;rw[sV]at w ⊢;exact z _ b w
 | point h z=>intro Q E p s b w;rw[sV]at w ⊢;exact z _ b w
theorem aF{G:Type}{M:Model}{Γ:PySem.Ctx}{e:cS}{t:Sem G}(h:DS t) : ∀{Q:G->g9->eM->Prop} {E:eF->g9->eM->Prop} {p:g9} {s:eM},Zq e s.heap->sV M Γ t Q E p s->
 sV M Γ t (λa O s'=>Q a O s'/\Zq e s'.heap) (λx O s'=>E x O s'/\Zq e s'.heap) p s:=by
 induction h with
 | pure a=>intro Q E p s b w;rw[sV]at w ⊢;exact⟨w,b⟩
 | raise x=>intro Q E p s b w;rw[sV]at w ⊢;exact⟨w,b⟩
 | Bw x=>intro Q E p s b w;rw[sV]at w;exact w.elim
 | rule h z=>intro Q E p s b w;rw[sV]at w ⊢;exact z _ b w
 | «at» h z=>intro Q E p s b w;rw[sV]at w ⊢;exact z _ b w
 | load h z=>intro Q E p s b w;rw[sV]at w ⊢;obtain⟨o,B,w⟩:=w;exact⟨o,B,z _ b w⟩
 | @update a p f k j h z=>
  intro Q E p s b w;rw[sV]at w ⊢;obtain⟨l,w⟩:=w;refine⟨l,z _ ?_ w⟩;obtain⟨o,d,B,I,i⟩:=b;by_cases q:a=e
  ·subst q
   obtain⟨g,m,R⟩:=(j o).2.2 d I;exact⟨f o,g,rJ _ B<|(j o).2.1 (Heap.get?_some_iff.mp B).2,m,R.trans i⟩
  ·exact⟨o,d,(rW _ _ q).trans B,I,i⟩
 | alloc h z=>intro Q E p s b w;rw[sV]at w ⊢;obtain⟨o,d,B,I⟩:=b;exact z _ ⟨o,d,pA _ B,I⟩ w
 | register=>intro Q E p s b w;rw[sV]at w;exact w.elim
 | fresh h z=>intro Q E p s b w;rw[sV]at w ⊢;exact z _ b w
 | ask h z=>intro Q E p s b w;rw[sV]at w ⊢;exact z _ b w
 | stack h z=>intro Q E p s b w;rw[sV]at w ⊢;exact z _ b w
 | handled h z=>intro Q E p s b w;rw[sV]at w ⊢;exact z _ b w
 | point h z=>intro Q E p s b w;rw[sV]at w ⊢;exact z _ b w
theorem KJ{B:Type}{M:Model}{A:i7}{e d:cS}{t:Sem B}{Q:B->eM->Prop}{E:GQ}{s:eM}(h:DS t)(G:yT e d s.heap)(w:wpAny M A t Q E s) :
 wpAny M A t (λa s'=>Q a s'/\yT e d s'.heap) (λx s'=>E x s'/\yT e d s'.heap) s:=λΓ p z=>gj h G<|w Γ p z
theorem wu{B:Type}{M:Model}{A:i7}{e:cS}{t:Sem B}{Q:B->eM->Prop}{E:GQ}{s:eM}(h:DS t)(G:Zq e s.heap)(w:wpAny M A t Q E s) :
 wpAny M A t (λa s'=>Q a s'/\Zq e s'.heap) (λx s'=>E x s'/\Zq e s'.heap) s:=λΓ p z=>aF h G<|w Γ p z
theorem DS.bind{B H:Type}{t:Sem B}{k:B->Sem H}(h:DS t)(G : ∀a,DS<|k a):DS (t >>= k):=by
 show DS (Sem.bind t k)
 induction h with
 | pure a=>exact G a
 | raise x=>exact .raise x
 | Bw x=>exact .Bw x
 | rule h z=>exact .rule z
 | «at» h z=>exact .at z
 | load h z=>exact .load z
 | update b h z=>exact .update b z
 | alloc h z=>exact .alloc z
 | register=>exact .register
 | fresh h z=>exact .fresh z
 | ask h z=>exact .ask z
 | stack h z=>exact .stack z
 | handled h z=>exact .handled z
 | point h z=>exact .point z
theorem yF(g:Array eF->Array eF)(z : ∀G,(g G)[2]? = G[2]?)(o:l3):(tN g o).dict=o.dict/\(o.isFreed=dV->(tN g o).isFreed=dV)/\∀G,o.data = .fields G->∃H,(tN g o).data = .fields H/\H[2]? = G[2]? :=by obtain⟨c,d,B,a⟩:=o;cases B<;>first | exact⟨rfl,λh=>h,λG q=>by cases q;exact⟨_,rfl,z _⟩⟩ | exact⟨rfl,λh=>h,λG q=>nomatch q⟩
theorem yl(v:eF)(i:Nat):DS (field v i):=by
 unfold field fieldsOf load
 repeat (first | exact DS.Bw _ | exact DS.pure _ | exact DS.raise _ | exact DS.register | refine DS.bind ?_ λ_=>?_ | refine DS.load λ_=>?_ | refine DS.rule λ_=>?_ | refine DS.alloc λ_=>?_ | refine DS.stack λ_=>?_ | refine DS.update (λo=>⟨rfl,λh=>h,λa q=>⟨a,q,rfl⟩⟩) λ_=>?_ | refine DS.update (yF _<|by intro a;simp[sM,Ec]) λ_=>?_ | split)
theorem xX(v:eF)(i:Nat)(x:eF)(z:i≠2:=by decide):DS (DQ v i x):=by
 unfold DQ updateField update load
 repeat (first | exact DS.Bw _ | exact DS.pure _ | exact DS.raise _ | exact DS.register | refine DS.bind ?_ λ_=>?_ | refine DS.load λ_=>?_ | refine DS.rule λ_=>?_ | refine DS.alloc λ_=>?_ | refine DS.stack λ_=>?_ | refine DS.update (λo=>⟨rfl,λh=>h,λa q=>⟨a,q,rfl⟩⟩) λ_=>?_ | refine DS.update (yF _<|by intro a;simp[sM,z]) λ_=>?_ | split)
theorem qD(e:eF)(f:Option cS):DS (setFlight e f):=by
 unfold setFlight;refine DS.bind (yl _ _) λ_=>?_;split
 ·exact xX _ _ _
 ·exact DS.pure _
theorem dF(ty:String)(z:List eF):DS (newFields ty z):=by
 unfold newFields newObj newObjAsIs
 repeat (first | exact DS.Bw _ | exact DS.pure _ | exact DS.raise _ | exact DS.register | refine DS.bind ?_ λ_=>?_ | refine DS.load λ_=>?_ | refine DS.rule λ_=>?_ | refine DS.alloc λ_=>?_ | refine DS.stack λ_=>?_ | refine DS.update (λo=>⟨rfl,λh=>h,λz q=>⟨z,q,rfl⟩⟩) λ_=>?_ | refine DS.update (yF _<|by intro z;simp[sM,Ec]) λ_=>?_ | split)
theorem YX(f:cS)(b:Bool):DS (entryPlaceOf f b):=by
 unfold entryPlaceOf stack
 repeat (first | exact DS.Bw _ | exact DS.pure _ | exact DS.raise _ | exact DS.register | refine DS.bind ?_ λ_=>?_ | refine DS.load λ_=>?_ | refine DS.rule λ_=>?_ | refine DS.alloc λ_=>?_ | refine DS.stack λ_=>?_ | refine DS.update (λo=>⟨rfl,λh=>h,λa q=>⟨a,q,rfl⟩⟩) λ_=>?_ | refine DS.update (yF _<|by intro a;simp[sM,Ec]) λ_=>?_ | split)
theorem X3:DS underTheClaimsCaller:=by
 unfold underTheClaimsCaller
 repeat (first | exact DS.Bw _ | exact DS.pure _ | exact DS.raise _ | exact DS.register | refine DS.bind ?_ λ_=>?_ | refine DS.load λ_=>?_ | refine DS.rule λ_=>?_ | refine DS.alloc λ_=>?_ | refine DS.stack λ_=>?_ | refine DS.update (λo=>⟨rfl,λh=>h,λa q=>⟨a,q,rfl⟩⟩) λ_=>?_ | refine DS.update (yF _<|by intro a;simp[sM,Ec]) λ_=>?_ | split)
theorem X4(env:i3)(outer:List i3):DS (behindIsImport env outer):=by
 unfold behindIsImport;split
 ·exact DS.pure _
 ·split
  ·exact DS.pure _
  ·exact DS.bind (yl _ _) λ_=>DS.pure _
theorem WY(env:i3)(b:Bool)(outer:List i3):DS (keptBack env b outer):=by
 unfold keptBack;split
 ·split
  ·exact DS.pure _
  ·exact DS.bind X3 λ_=>DS.pure _
 ·exact DS.pure _
theorem Jx : ∀l:List i3,DS (readyFrames l)
 | []=>DS.pure _
 | env::outer=>by
  unfold readyFrames;split
  ·unfold load update
   refine DS.bind (DS.load λ_=>DS.pure _) λo=>?_;split
   ·exact DS.pure _
   ·refine DS.bind (X4 _ _) λ_=>DS.bind (WY _ _ _) λ_=>DS.bind (DS.update (λo=>⟨rfl,λh=>by obtain⟨c,d,z,a⟩:=o;cases z<;>exact h,λb q=>⟨b,by obtain⟨c,d,z,a⟩:=o;cases q;rfl,rfl⟩⟩) λ_=>DS.pure _) λ_=>Jx outer
  ·exact DS.Bw _
theorem YY(env:i3):DS (PySem.frameOf env):=by
 unfold PySem.frameOf frameEnvs stack;refine DS.bind (DS.bind (DS.stack λ_=>DS.pure _) λ_=>DS.pure _) λl=>DS.bind ?_ λ_=>?_
 ·unfold frameObject
  split
  ·exact DS.pure _
  ·exact DS.bind (Jx _) λ_=>DS.pure _
 ·split
  ·exact DS.pure _
  ·exact DS.Bw _
theorem X2(e:eF)(env:i3):DS (noteFrame e env):=by
 unfold noteFrame;split
 ·refine DS.bind (yl _ _) λa=>?_
  have z : ∀f:cS,∀b:Bool,DS (do DQ e 1 (<- EntryCells.newEntry a (<- PySem.frameOf env) .none (Dl f) .none (<- entryPlaceOf f b))):=λf b=>by refine DS.bind (YY _) λ_=>DS.bind (YX _ _) λ_=>?_;unfold EntryCells.newEntry;exact DS.bind (dF _ _) λ_=>xX _ _ _
  split
  ·refine DS.bind (yl _ _) λ_=>?_
   split
   ·exact DS.pure _
   ·exact DS.bind (xX _ _ _) λ_=>z _ _
  ·exact z _ _
 ·exact DS.Bw _
theorem kN(env:i3)(e:eF):DS (leaving env e):=by unfold leaving;exact DS.bind (X2 _ _) λ_=>qD _ _
noncomputable def l9(od:Option cS)(e:cS)(h:fy):Prop:=(∀d,od=aI d->yT e d h)/\(od=bC->Zq e h)
theorem l9.obj{od:Option cS}{e:cS}{B g2:fy}(x:l9 od e B)(k : ∀o,B.get? e=aI o->g2.get? e=aI o):l9 od e g2:=
 ⟨λd q=>by obtain⟨o,z,r⟩:=x.1 d q;exact⟨o,k o z,r⟩,λq=>by obtain⟨o,a,z,r⟩:=x.2 q;exact⟨o,a,k o z,r⟩⟩
theorem qK{G:Type}{M:Model}{A:i7}{e:cS}{od:Option cS}{t:Sem G}{Q:G->eM->Prop}{E:GQ}{s:eM}(h:DS t)(B:l9 od e s.heap)(w:wpAny M A t Q E s) :
 wpAny M A t (λa s'=>Q a s'/\l9 od e s'.heap) E s:=by
 cases od with
 | none=>exact pJ (wu h (B.2 rfl) w) (λa s' z=>⟨z.1,(λd q=>nomatch q),λ_=>z.2⟩) λ_ _ z=>z.1
 | some d=>exact pJ (KJ h (B.1 d rfl) w) (λa s' z=>⟨z.1,(λb q=>by cases q;exact z.2),λq=>nomatch q⟩) λ_ _ z=>z.1
section
variable{M:Model}{A:i7}{E:GQ}{s:eM}{base:fy}{env:i3}{l outer:List i3}{L e:cS}{cls a0:eF}{od:Option cS}{Q:Unit->eM->Prop}
theorem Xv(B:A.frames=aI (env::outer))(H:env.frame=aI L)(I:si base (env::outer) e cls a0 s.heap)(G:l9 od e s.heap)
 (O : ∀h',uf base (env::outer) e cls a0 L h'->s.heap.UpToSlots h'->l9 od e h'->Q () {s with heap:=h'}):wpAny M A (noteFrame (.ref e) env) Q E s:=by
 refine pJ (qK (X2 _ _) G<|wpAny_looks_onW (Q:=λ_ a=>∃h',a = {s with heap:=h'}/\uf base (env::outer) e cls a0 L h'/\s.heap.UpToSlots h') B H I λh' x y=>⟨h',rfl,x,y⟩) (λ_ a z=>?_) λ_ _ z=>z;obtain⟨⟨h',rfl,x,y⟩,w⟩:=z;exact O h' x y w
theorem Xz(B:uf base l e cls a0 L s.heap)(G:l9 od e s.heap)(I : ∀h',si base l e cls a0 h'->s.heap.UpToSlots h'->l9 od e h'->Q () {s with heap:=h'}):wpAny M A (setFlight (.ref e) bC) Q E s:=by refine pJ (qK (qD _ _) G<|wpAny_landsW (Q:=λ_ a=>∃h',a = {s with heap:=h'}/\si base l e cls a0 h'/\s.heap.UpToSlots h') B λh' x y=>⟨h',rfl,x,y⟩) (λ_ a z=>?_) λ_ _ z=>z;obtain⟨⟨h',rfl,x,y⟩,w⟩:=z;exact I h' x y w
theorem VU(B:si base l e cls a0 s.heap)(G:l9 od e s.heap)(I : ∀h',si base l e cls a0 h'->s.heap.UpToSlots h'->l9 od e h'->Q () {s with heap:=h'}):wpAny M A (setFlight (.ref e) bC) Q E s:=by refine pJ (qK (qD _ _) G<|lands_againW (Q:=λ_ a=>∃h',a = {s with heap:=h'}/\si base l e cls a0 h'/\s.heap.UpToSlots h') B λh' x y=>⟨h',rfl,x,y⟩) (λ_ a z=>?_) λ_ _ z=>z;obtain⟨⟨h',rfl,x,y⟩,w⟩:=z;exact I h' x y w
theorem WT(B:A.frames=aI (env::outer))(H:env.frame=aI L)(I:si base (env::outer) e cls a0 s.heap)(G:l9 od e s.heap)
 (O : ∀h',si base outer e cls a0 h'->s.heap.UpToSlots h'->l9 od e h'->Q () {s with heap:=h'}):wpAny M A (leaving env<|.ref e) Q E s:=by
 refine pJ (qK (kN _ _) G<|wpAny_leaves_onW (Q:=λ_ a=>∃h',a = {s with heap:=h'}/\si base outer e cls a0 h'/\s.heap.UpToSlots h') B H I λh' x y=>⟨h',rfl,x,y⟩) (λ_ a z=>?_) λ_ _ z=>z;obtain⟨⟨h',rfl,x,y⟩,w⟩:=z;exact O h' x y w
theorem VP{B:l3}{G:Array eF}(I:A.frames=aI (env::outer))(O:s.heap.FunFrames base (env::outer))(hf:env.frame=aI L)(R:s.heap.get? e=aI B)(U:base.StaysIn s.heap)(W:base.get? e=bC)(Y:B.data = .fields G)
 (J:G[1]? = aI .none) (H:G[0]? = aI a0) (Z:l9 od e s.heap) (P : ∀h',Heap.LeftW base (env::outer) e B.cls a0 s.heap h'->l9 od e h'->Q () {s with heap:=h'}):wpAny M A (leaving env<|.ref e) Q E s:=by
 refine pJ (qK (kN _ _) Z<|wpAny_leaving_firstW (Q:=λ_ a=>∃h',a = {s with heap:=h'}/\Heap.LeftW base (env::outer) e B.cls a0 s.heap h') I O hf R U W Y J H λh' x=>⟨h',rfl,x⟩) (λ_ a z=>?_) λ_ _ z=>z;obtain⟨⟨h',rfl,x⟩,w⟩:=z;exact P h' x w
end
end DL
namespace DL
open PySem PySem.Spec PyProof.Rows L2
theorem j4{P:iv}{w:h8}{H:Hp}{h:fy}{a:cS}{o:HO}(x:i8 P w H h a o) : ∃z,h.get? a=aI z:=by
 induction o with
 | lst d=>obtain⟨_,_,_,_,e⟩:=x;exact⟨_,e⟩
 | tup d=>obtain⟨_,_,_,z,e,_⟩:=x;exact⟨_,e⟩
 | dK b=>obtain⟨_,_,_,_,o,_,_,e,_⟩:=x;exact⟨_,e⟩
 | dT b=>obtain⟨_,_,_,_,o,_,_,e,_⟩:=x;exact⟨_,e⟩
 | set S n=>obtain⟨o,_,_,_,e,_⟩:=x;exact⟨_,e⟩
 | ins C g fs=>obtain⟨_,_,_,e,_⟩:=x;exact⟨_,e⟩
 | own y=>obtain⟨_,e⟩:=x;exact⟨_,e⟩
 | xd fs=>obtain⟨_,⟨_,_,_,e,_⟩,_⟩:=x;exact⟨_,e⟩
 | DP lo i=>obtain⟨_,_,_,e⟩:=x;exact⟨_,e⟩
 | t9 z u _=>obtain⟨e,_⟩:=x;exact⟨_,e⟩
 | Ci j=>exact⟨_,(show h.get? a=aI _ from x)⟩
 | met f y=>exact⟨_,(show h.get? a=aI _ from x)⟩
 | ext k=>obtain⟨_,⟨_,e⟩,_⟩:=x;exact⟨_,e⟩
theorem jv{P:iv}{w:h8}{H:Hp}{h h':fy}(x:l0 P w H h)(k : ∀b u,H b≠bC->h.get? b=aI u->h'.get? b=aI u):l0 P w H h':=λa o e=>
 (x a o e).t5 (λb u z q=>k b u (by
   rcases z with rfl | z
   ·rw[e];simp
   ·rw[z];simp) q) (λ_ q=>q) λ_ _ q=>q
theorem XR{P:iv}{w:h8}{H:Hp}{h:fy}{a:cS}{G:fy->Prop}(x:l0 P w H h)(J:H a=bC)(L:G h)(O : ∃o,h.get? a=aI o)
 (I : ∀z g2:fy,G z->(∀o,z.get? a=aI o->g2.get? a=aI o)->G g2):l0 P w (upd H a<|.ext G) h:=λb o e=>by
 by_cases B:b=a
 ·subst B;rw[zq]at e;cases e;exact⟨L,O,I⟩
 ·rw[zo B]at e
  exact(x b o e).t5 (λ_ _ _ q=>q) (λc q=>by rw[zo (zD q J)];exact q) λc d q=>by rw[zo (zD q J)];exact q
structure Fi(l:List i3)(a C:cS)(H':Hp)(h0 h:fy):Prop where
 ex : ∃B t,si B l a (.ref C) (.ref t) h/\(∀b o,h.get? b=aI o->H' b≠bC->B.get? b=aI o)/\∀b o,h.get? b=aI o->h0.get? b≠bC->b∉i5 l->B.get? b=aI o
noncomputable def l5(P:iv)(w:h8):A8:=λb H s E e d=>∃a C f g,e = .ref a/\E (.ref C) g f/\l9 g a d.heap/\d.os=s.os/\BE d.gens/\Un (i5 b) [] H f s.heap d.heap/\l0 P w f d.heap/\f a=bC/\s.heap.get? a=bC/\Fi b a C f s.heap d.heap
section
variable{P:iv}{w:h8}{K:pv}{mg:GJ}{base:fy}{N:List Str}{qual:Str}{scope:hH}{f:cS}{cd:eF}{A:i7}{outer:List i3}{s:eM}{H:Hp}{E:XK}
theorem vy{L:GW}{σ:St}{J:Hp}{G:eM}{h':fy}{a C:cS}{Z:List eF}(I:Inv (ye (l5 P w) P w K mg base N qual scope f cd A outer s H E) L σ J G)
 (hx:Heap.MadeExcOf G.heap h' a (.ref C) Z) (hE:E (.ref C) bC J):(ye (l5 P w) P w K mg base N qual scope f cd A outer s H E).xe (.ref a) {G with heap:=h'}:=by
 generalize O:ye (l5 P w) P w K mg base N qual scope f cd A outer s H E=X at I;have r:X.stack=X.env::X.outer:=by rw[<- O];rfl
 have T:X.env.frame=aI X.env.locals:=by rw[<- O];rfl
 have U:X.ex=[]:=by rw[<- O];rfl
 have as:=I.stack;have BJ:=I.B5;have ax : ∀env∈X.stack,∀b,env.frame=aI b->b∈i5 X.stack:=λenv he b B=>uk.mpr ⟨env,he,B⟩;have k : ∀b o,X.hF.heap.get? b=aI o->∃g,G.heap.get? b=aI g:=λb o q=>I.base.there b o q (by rw[U];simp);have bb : ∀b o,X.hF.heap.get? b=aI o->b≠X.env.locals:=λb o q=>pP<|pH (pE q) I.ok.above;have a2 : ∀b o,X.hF.heap.get? b=aI o->b∉X.fs->b∉i5 X.stack:=λb o q n i=>by
  rcases pM.mp (I.Cg b i)with z | z
  ·exact bb b o q z
  ·exact n z
 have y:wpAny (fh P w) X.A (leaving X.env<|.ref a) (λ_ R=>l5 P w outer H s E (.ref a) R) (λl R=>l5 P w outer H s E l R) {G with heap:=h'}:=by
  have f2:Zq a h':=by obtain⟨t,q,_⟩:=hx.there;exact⟨_,_,q,rfl,rfl⟩
  refine pJ (wu (e:=a) (s:={G with heap:=h'}) (kN X.env<|.ref a) f2 (Q:=λ_ R=>Zq a R.heap->l5 P w outer H s E (.ref a) R) (E:=λl R=>l5 P w outer H s E l R) ?_) (λ_ _ z=>z.1 z.2) λ_ _ z=>z.1;refine wpAny_leaves_madeW (base:=rP G.heap<|i5 X.stack) (h:=G.heap) (env:=X.env) (outer:=X.outer) (by rw[<- r];exact I.ok.frames) T (λb o q=>uc _ q)
   (by rw[<- r];exact Ah as ax) hx λbe t x1 x2 x3 S bg=>?_
  have z0 : ∀b o,G.heap.get? b=aI o->b∉i5 X.stack->be.get? b=aI o:=λb o q n=>x1.1 b o<|rZ _ q n;have e1:X.outer=outer:=by rw[<- O];rfl
  have e2:X.BG=H:=by rw[<- O];rfl
  have e3:X.hF=s:=by rw[<- O];rfl
  have e4:X.prog=P:=by rw[<- O];rfl
  have e5:X.w=w:=by rw[<- O];rfl
  have M : ∀b u,J b=aI u->∃o,G.heap.get? b=aI o:=λb u q=>j4<|I.gv b u q;have a9 : ∀b u,J b=aI u->b∉i5 X.stack:=λb u q i=>by rw[BJ b i]at q;cases q
  have c0:J a=bC:=by
   cases q:J a with
   | none=>rfl
   | some u=>obtain⟨o,z⟩:=M a u q;rw[hx.new]at z;cases z
  have c1:X.hF.heap.get? a=bC:=by
   cases q:X.hF.heap.get? a with
   | none=>rfl
   | some o=>obtain⟨g,z⟩:=k a o q;rw[hx.new]at z;cases z
  rw[<- e3]at *;rw[<- e2]at *;subst e1;refine⟨a,C,J,bC,rfl,hE,⟨(λd q=>nomatch q),λ_=>bg⟩,?_,I.bare,⟨λb o q n B _=>?_,λb o q n B _=>?_,λb o q n _=>?_,λb o q _=>?_,I.base.r0,I.base.t2,I.base.rG⟩,?_,c0,c1,⟨_,t,x1,λb o q n=>?_,λb o q n B=>?_⟩⟩
  ·exact I.os
  ·exact z0 b o (I.base.keep b o q n B<|by rw[U];simp)<|a2 b o q B
  ·obtain⟨sl,z⟩:=I.base.slot b o q n B (by rw[U];simp)
   have W : ∀Z,o.data ≠ .fields Z:=by obtain⟨_,g,j,p⟩:=I.ok.n5.mem B;rw[q]at j;cases j;exact p
   obtain⟨x,m⟩:=S b _ (hx.keeps b _ z) W;exact⟨x,m⟩
  ·exact I.base.free b o q n (by rw[U];simp)
  ·obtain⟨g,z⟩:=k b o q
   by_cases B:b∈X.fs
   ·obtain⟨_,Y,j,p⟩:=I.n5.mem B
    obtain⟨x,m⟩:=S b _ (hx.keeps b _ j) p;exact⟨_,m⟩
   ·exact⟨g,z0 b g z<|a2 b o q B⟩
  ·rw[<- e4,<- e5]
   exact jv I.gv λb u n q=>z0 b u q λi=>n<|BJ b i
  ·cases q1:J b with
   | none=>exact absurd q1 n
   | some u=>
    obtain⟨Y,z⟩:=M b u q1;have:=z0 b Y z<|a9 b u q1;rw[q]at this;cases this;exact rZ _ z<|a9 b u q1
  ·cases q1:X.hF.heap.get? b with
   | none=>exact absurd q1 n
   | some F=>
    obtain⟨Y,z⟩:=k b F q1;have W:=a2 b F q1 B;have:=z0 b Y z W;rw[q]at this;cases this;exact rZ _ z W
 rw[<- O]at y ⊢;exact y
theorem yI{J:GW}{σ:St}{Z:Hp}{L s':eM}{e:eF}{E':XK}(I:Inv (ye (l5 P w) P w K mg base N qual scope f cd A outer s H E) J σ Z L)
 (hx:l5 P w (ye (l5 P w) P w K mg base N qual scope f cd A outer s H E).stack Z L E' e s') (hE : ∀c o G,E' c o G->E c o G):(ye (l5 P w) P w K mg base N qual scope f cd A outer s H E).xe e s':=by
 generalize Y:ye (l5 P w) P w K mg base N qual scope f cd A outer s H E=X at I hx;have r:X.stack=X.env::X.outer:=by rw[<- Y];rfl
 have T:X.env.frame=aI X.env.locals:=by rw[<- Y];rfl
 have U:X.ex=[]:=by rw[<- Y];rfl
 have BJ:=I.B5;have h : ∀b o,X.hF.heap.get? b=aI o->∃j,L.heap.get? b=aI j:=λb o q=>I.base.there b o q (by rw[U];simp);have bb : ∀b o,X.hF.heap.get? b=aI o->b≠X.env.locals:=λb o q=>pP<|pH (pE q) I.ok.above;have a4 : ∀b o,X.hF.heap.get? b=aI o->b∉X.fs->b∉i5 X.stack:=λb o q n hm=>by
  rcases pM.mp (I.Cg b hm)with z | z
  ·exact bb b o q z
  ·exact n z
 obtain⟨a,C,G,od,rfl,hC,be,bg,bi,un,gv,bl,bn,⟨B,t,x,am,a6⟩⟩:=hx;have y:wpAny (fh P w) X.A (leaving X.env<|.ref a) (λ_ m=>l5 P w outer H s E (.ref a) m) (λe' m=>l5 P w outer H s E e' m) s':=by
  rw[r]at x;refine WT (by rw[<- r];exact I.ok.frames) T x be λc0 x1 M c1=>?_;have st : ∀b o,B.get? b=aI o->c0.get? b=aI o:=λb o q=>x1.1 b o q;have e1:X.outer=outer:=by rw[<- Y];rfl
  have e2:X.BG=H:=by rw[<- Y];rfl
  have e3:X.hF=s:=by rw[<- Y];rfl
  have tr : ∀b u,G b=aI u->∃o,s'.heap.get? b=aI o:=λb u q=>j4<|gv b u q;have c5:X.hF.heap.get? a=bC:=by
   cases q:X.hF.heap.get? a with
   | none=>rfl
   | some o=>obtain⟨j,z⟩:=h a o q;rw[bn]at z;cases z
  rw[<- e3]at *;rw[<- e2]at *;subst e1;refine⟨a,C,G,od,rfl,hE _ _ _ hC,c1,?_,bi,⟨λb o q n O _=>?_,λb o q n O _=>?_,λb o q n _=>?_,λb o q _=>?_,λb Q q=>un.r0 b Q<|I.base.r0 b Q q,λb o u q=>un.t2 b o u<|I.base.t2 b o u q,λb ps q=>?_⟩,?_,bl,c5,⟨B,t,x1,λb o q n=>?_,λb o q n O=>?_⟩⟩
  ·exact bg.trans I.os
  ·have i:=I.base.keep b o q n O (by rw[U];simp)
   have k2:=un.keep b o i (I.base.free b o q n<|by rw[U];simp) (a4 b o q O) ⋯;exact st b o<|a6 b o k2 (by rw[i];simp)<|a4 b o q O
  ·obtain⟨sl,z⟩:=I.base.slot b o q n O (by rw[U];simp)
   have p : ∀vs,o.data ≠ .fields vs:=by obtain⟨_,j,k,R⟩:=I.ok.n5.mem O;rw[q]at k;cases k;exact R
   obtain⟨c6,R⟩:=un.any z (I.base.free b o q n<|by rw[U];simp) ⋯;obtain⟨c7,z'⟩:=M b _ R p;exact⟨c7,z'⟩
  ·obtain⟨W,i⟩:=h b o q
   exact un.free b W i (I.base.free b o q n<|by rw[U];simp) ⋯
  ·obtain⟨W,z⟩:=h b o q
   obtain⟨g,R⟩:=un.there b W z ⋯;by_cases O:b∈X.fs
   ·obtain⟨_,j,S,y2⟩:=I.ok.n5.mem O
    rw[q]at S;cases S;obtain⟨sl,d⟩:=I.base.any q (I.ok.zx b O) (by rw[U];simp);obtain⟨c6,l⟩:=un.any d (I.base.free b o q (I.ok.zx b O)<|by rw[U];simp) ⋯;obtain⟨cf,z5⟩:=M b _ l y2;exact⟨_,z5⟩
   ·exact⟨g,st b g<|a6 b g R (by rw[z];simp)<|a4 b o q O⟩
  ·obtain⟨m1,k⟩:=I.base.rG b ps q
   obtain⟨m2,R⟩:=un.rG b _ k;exact⟨m1++m2,by rw[R,AK]⟩
  ·exact jv gv λb u n q=>st b u<|am b u q n
  ·cases q1:G b with
   | none=>exact absurd q1 n
   | some u=>
    obtain⟨W,z⟩:=tr b u q1;have R:=am b W z (by rw[q1];simp);have d:=st b W R;rw[q]at d;cases d;exact R
  ·cases q1:X.hF.heap.get? b with
   | none=>exact absurd q1 n
   | some F=>
    obtain⟨W,z⟩:=h b F q1;obtain⟨g,R⟩:=un.there b W z ⋯;have p:=a4 b F q1 O;have d:=a6 b g R (by rw[z];simp) p;have l:=st b g d;rw[q]at l;cases l;exact d
 rw[<- Y]at y ⊢;exact y
theorem vz{Z:GW}{σ:St}{J:Hp}{G:eM}{a C d t:cS}{L:fy->Prop}(I:Inv (ye (l5 P w) P w K mg base N qual scope f cd A outer s H E) Z σ J G)
 (FF:J a=aI (.ext L)) (he:G.heap.get? a=aI (vg C (aI d) t)) (hs:s.heap.get? a=bC) (hE:E (.ref C) (aI d) (λb=>if b=a then bC else J b)):(ye (l5 P w) P w K mg base N qual scope f cd A outer s H E).xe (.ref a) G:=by
 generalize O:ye (l5 P w) P w K mg base N qual scope f cd A outer s H E=X at I;have M:X.stack=X.env::X.outer:=by rw[<- O];rfl
 have bg:X.env.frame=aI X.env.locals:=by rw[<- O];rfl
 have g:X.ex=[]:=by rw[<- O];rfl
 have bi:=I.stack;have r:=I.B5;have bl : ∀env∈X.stack,∀b,env.frame=aI b->b∈a::i5 X.stack:=λenv he b B=>pT _<|uk.mpr ⟨env,he,B⟩;have Q : ∀b o,X.hF.heap.get? b=aI o->∃e,G.heap.get? b=aI e:=λb o q=>I.base.there b o q (by rw[g];simp);have bn : ∀b o,X.hF.heap.get? b=aI o->b≠X.env.locals:=λb o q=>pP<|pH (pE q) I.ok.above;have a6 : ∀b o,X.hF.heap.get? b=aI o->b∉X.fs->b∉i5 X.stack:=λb o q n p=>by
  rcases pM.mp (I.Cg b p)with z | z
  ·exact bn b o q z
  ·exact n z
 have e1:X.outer=outer:=by rw[<- O];rfl
 have e2:X.BG=H:=by rw[<- O];rfl
 have e3:X.hF=s:=by rw[<- O];rfl
 have e4:X.prog=P:=by rw[<- O];rfl
 have e5:X.w=w:=by rw[<- O];rfl
 have off : ∀b o,J b=aI o->(∀L,o ≠ .ext L)->(if b=a then bC else J b)=aI o:=λb o q z=>by rw[MQ (λw=>by rw[w,FF]at q;cases q;exact z _ rfl),q]
 have as:X.hF.heap.get? a=bC:=by rw[e3];exact hs
 have c2:l0 X.prog X.w (λb=>if b=a then bC else J b) G.heap:=λb o q=>by
  have q:(if b=a then bC else J b)=aI o:=q;by_cases B:b=a
  ·rw[GY B]at q;cases q
  ·rw[MQ B]at q
   exact(I.gv b o q).t5 (λ_ _ _ z=>z) (λc z=>off c _ z<|λL w=>nomatch w) λc xs z=>off c _ z<|λL w=>nomatch w
 have go:wpAny (fh P w) X.A (leaving X.env<|.ref a) (λ_ l=>l5 P w outer H s E (.ref a) l) (λe' l=>l5 P w outer H s E e' l) G:=by
  have S:(rP G.heap (a::i5 X.stack)).get? a=bC:=uy _ ⋯;refine VP (od:=aI d) (base:=rP G.heap (a::i5 X.stack)) (env:=X.env) (outer:=X.outer) (a0:= .ref t) (by rw[<- M];exact I.ok.frames) (by rw[<- M];exact Ah bi bl) bg he (λb o q=>uc _ q) S rfl rfl rfl
   ⟨(λd' q=>by cases q;exact⟨_,he,rfl⟩),λq=>nomatch q⟩ λc4 hL c6=>?_
  obtain⟨k1,⟨_,_,k2⟩,k3,x4⟩:=hL;have z0 : ∀b o,G.heap.get? b=aI o->b≠a->b∉i5 X.stack->(rP G.heap (a::i5 X.stack)).get? b=aI o:=λb o q R U=>rZ _ q (by simp[R];exact U);have W : ∀b o,G.heap.get? b=aI o->b≠a->b∉i5 X.stack->c4.get? b=aI o:=λb o q R U=>k1 b o<|z0 b o q R U;rw[<- e3]at *;rw[<- e2]at *;subst e1;have Y : ∀b o,X.hF.heap.get? b=aI o->b≠a:=λb o q z=>by rw[z,as]at q;cases q
  have x : ∀b,(if b=a then bC else J b)≠bC->b≠a/\b∉i5 X.stack/\∃o,G.heap.get? b=aI o:=λb n=>by
   by_cases B:b=a
   ·rw[GY B]at n;exact absurd rfl n
   ·rw[MQ B]at n
    cases q:J b with
    | none=>exact absurd q n
    | some u=>exact⟨B,(λp=>by rw[r b p]at q;cases q),j4<|I.gv b u q⟩
  refine⟨a,C,_,aI d,rfl,hE,c6,I.os,I.bare,⟨λb o q n B _=>?_,λb o q n B _=>?_,λb o q n _=>?_,λb o q _=>?_,λb xs q=>off b _ (I.base.r0 b xs q)<|λL w=>(nomatch w),λb o u q=>off b _ (I.base.t2 b o u q)<|λL w=>(nomatch w),λb ps q=>?_⟩,?_,GY rfl,as,⟨_,t,⟨k1,S,k2,k3⟩,λb o q n=>?_,λb o q n B=>?_⟩⟩
  ·exact W b o (I.base.keep b o q n B<|by rw[g];simp) (Y b o q)<|a6 b o q B
  ·obtain⟨sl,z⟩:=I.base.slot b o q n B (by rw[g];simp)
   have h : ∀vs,o.data ≠ .fields vs:=by obtain⟨_,e,k,F⟩:=I.ok.n5.mem B;rw[q]at k;cases k;exact F
   obtain⟨T,y⟩:=x4 b _ z h;exact⟨T,y⟩
  ·rw[MQ (Y b o q)];exact I.base.free b o q n (by rw[g];simp)
  ·obtain⟨e,z⟩:=Q b o q
   by_cases B:b∈X.fs
   ·obtain⟨_,j,k,F⟩:=I.n5.mem B
    obtain⟨T,y⟩:=x4 b _ k F;exact⟨_,y⟩
   ·exact⟨e,W b e z (Y b o q)<|a6 b o q B⟩
  ·obtain⟨m,z⟩:=I.base.rG b ps q
   exact⟨m,off b _ z<|λL w=>nomatch w⟩
  ·rw[<- e4,<- e5]
   exact jv c2 λb u n q=>W b u q (x b n).1 (x b n).2.1
  ·obtain⟨R,U,j,z⟩:=x b n
   have:=W b j z R U;rw[q]at this;cases this;exact z0 b o z R U
  ·cases q1:X.hF.heap.get? b with
   | none=>exact absurd q1 n
   | some i=>
    obtain⟨j,z⟩:=Q b i q1;have h:=a6 b i q1 B;have:=W b j z (Y b i q1) h;rw[q]at this;cases this;exact z0 b o z (Y b i q1) h
 rw[<- O]at go ⊢;exact go
end
noncomputable def av(o:l3):Option ClassData:=match o.data with
 | .cls a=>aI a
 | _=>bC
noncomputable def gi(K:pv)(C:cS):Bool:=match K.lookup C with
 | some o=>o.cls==tZ "type" && o.slots.size==6 && (o.slots.toList.drop 4).take 1 == [aI (Value.builtin "ValueError.__new__")] && (match av o with
  | some a=>a.mro.take 1 == [pO C] && !a.hasDel && uR K t8 (a.mro.drop 1) && uS K a.ns && sY K a.ns "__init__" == aI bC
  | none=>dV)
 | none=>dV
theorem Vg{B:Type}{l:List B}{a:B}(h:l.length=6)(e:(l.drop 4).take 1=[a]) : ∃z b1 b2 b3 b5,l=[z,b1,b2,b3,a,b5]:=by
 cases l with
 | nil=>cases h
 | cons z l=>cases l with
  | nil=>cases h
  | cons b1 l=>cases l with
   | nil=>cases h
   | cons b2 l=>cases l with
    | nil=>cases h
    | cons b3 l=>cases l with
     | nil=>cases h
     | cons b4 l=>cases l with
      | nil=>cases h
      | cons b5 l=>cases l with
       | nil=>
        cases e;exact⟨z,b1,b2,b3,b5,rfl⟩
       | cons b6 l=>simp at h
theorem Vw{z:Type}{l:List z}{a:z}(e:l.take 1=[a]):l=a::l.drop 1:=by
 cases l with
 | nil=>cases e
 | cons b l=>cases e;rfl
structure XC(K:pv)(mg:GJ)(c:Str):Prop where
 all:yf K=cI
 mem:c∈mB
 ex : ∃C,qH K c=aI C/\mg c=aI (.ref C)/\gi K C=cI
noncomputable def ki(c:Xn)(od:Option cS)(H0:Hp):Prop:=match c.2 with
 | none=>od=bC
 | some i=>∃d,od=aI d/\H0 d=aI (.xd [(kF c.1,.int i)])
noncomputable def XW(X:Cx)(B I:Hp)(c:Xn):Prop:=(∀(f:GW) (z:St) (h g:Hp) (i:eM) (l:fy) (a C:cS) (p:List eF),Inv X f z h i->Ext B I g h->yf X.K=cI->c.1∈mB->qH X.K c.1=aI C->c.2=bC->
 Heap.MadeExcOf i.heap l a (.ref C) p->X.xe (.ref a) {i with heap:=l})/\
 (∀(f:GW) (z:St) (h g:Hp) (i:eM) (e:eF) (m:eM),Inv X f z h i->Ext B I g h->
   l5 X.prog X.w X.stack h i (λk o n=>∃C j,k = .ref C/\yf X.K=cI/\c.1∈mB/\qH X.K c.1=aI C/\ki c o j/\Ext g h j n) e m->X.xe e m)/\
 ∀(f:GW) (z:St) (h g:Hp) (i:eM) (a C d t:cS) (r:fy->Prop),Inv X f z h i->h a=aI (.ext r)->i.heap.get? a=aI (vg C (aI d) t)->(X.ex=[]->X.hF.heap.get? a=bC)->
  Ext B I g (λb=>if b=a then bC else h b)->yf X.K=cI->c.1∈mB->qH X.K c.1=aI C->ki c (aI d) g->X.xe (.ref a) i
noncomputable def Px(X:Cx)(st:h9)(G:CO Xn):Prop:=∀(a:GW) (s:eM) (d:St) (H z B e:Hp) (b:Ctx) (c:Xn),Inv X a d H s->RS X.K z B e H d b->G b=aI c->XW X z B c->
 wpAny (fh X.prog X.w) X.A (exec st X.env) (λ_ _=>False) X.xe s
noncomputable def Cn(X:Cx)(I:List h9)(G:CO Xn):Prop:=∀(a:GW) (s:eM) (d:St) (H z B e:Hp) (b:Ctx) (c:Xn),Inv X a d H s->RS X.K z B e H d b->G b=aI c->XW X z B c->
 wpAny (fh X.prog X.w) X.A (execs I X.env) (λ_ _=>False) X.xe s
section
variable{X:Cx}{sc:hH}{N L:List Str}{k:Nat}{st:h9}{rest:List h9}{G G':CO Xn}{F:CO Fl}
theorem SX.l4(h:SX X sc N L k)(E:GQ):SX (X.l4 E) sc N L k:=⟨h.xg,h.eN,h.nd,h.calm,h.room,h.fn⟩
theorem hV:Px X st t7:=λa s f H z B b d c I O e _=>by cases e
theorem yx{J:List h9}:Cn X J t7:=λa s f H z B b d c I O e _=>by cases e
theorem qF{rest:List h9}(h:Px X st G):Cn X (st::rest) G:=λa s f H B O b d c I R e w=>
 sN (pJ (h a s f H B O b d c I R e w) (λ_ _ z=>z.elim) λ_ _ z=>z)
theorem Jf(J:Px X st G)(P:m5 X.m7 st F)(Y:Cn X rest G'):Cn X (st::rest) (wq G F G'):=λb s k H B O j i c I W e w=>by
 unfold wq at e;cases q:G i with
 | some p=>
  rw[q]at e;cases e;exact qF J b s k H B O j i c I W q w
 | none=>
  rw[q]at e;obtain⟨n,m,R⟩:=zc e;cases n with
  | next d=>
   have R:G' d=aI c:=R;refine sN<|pJ (P b s k H {nx:=λg h=>∃a,RS X.K B O a h g d,rt:=λ_ _=>False} (I.l4 _) ⟨B,O,j,i,.next d,W,m,λg h a U=>⟨a,U⟩⟩) (λf o z=>?_) λ_ _ z=>z.elim;cases f with
   | next=>
    obtain⟨g,h,l,a,U⟩:=z;exact Y b o g h B O a d c l.o7 U R w
   | ret v=>obtain⟨_,_,_,_,_,z⟩:=z;exact z.elim
   | brk=>obtain⟨_,_,_,z⟩:=z;exact z.elim
   | cont=>obtain⟨_,_,_,z⟩:=z;exact z.elim
  | _=>cases R
theorem ZC{J:CO Bool}{c:f6}{x y:List h9}{pos:g9}(Z:oI X.m7 c J)(P:Cn X x G)(Y:Cn X y G'):Px X (.If c x y pos) (o8 J G G'):=λa s h H R U j g l I O e w=>by
 obtain⟨t,n,B⟩:=zc e;refine wpAny_If<|pJ (Z a s h H (λb i=>b=t/\∃d,Ext j H d i) (I.l4 _) ⟨j,g,t,O.rc,n,λi d x=>⟨rfl,d,x⟩⟩) (λb m z=>?_) λ_ _ z=>z.elim;obtain⟨k,W,rfl,f,x1⟩:=z;cases b with
 | true=>rw[GY rfl]at B;exact P a m h k R U f g l W.o7 (O.step x1) B w
 | false=>rw[MQ pQ]at B;exact Y a m h k R U f g l W.o7 (O.step x1) B w
theorem xH{a:f6}{f:CO D}{c:Str}{np cpos pos:g9}(h:SX X.m7 sc N L k)(hc:qe sc c=cI)(x:XC X.K X.mg c)(ha:PV X.m7 a f)(hf : ∀γ,∃d,f γ=aI d:=by intro γ;exact⟨_,rfl⟩)
 (hs:hX [a] X.env=[(dV,fk a X.env)]:=by rfl):Px X (.Raise (aI (.Call (.Name c np) [a] [] cpos)) bC pos) (Z3 c):=λi s σ H F0 F1 J γ cc I Z e w=>by
 cases e;obtain⟨C,x1,x2,x3⟩:=x.ex;have FB:=sT;have hh:X.A.handled=bC:=I.ok.hd (show X.calm=cI from h.calm);have P:=h.gl hc;obtain⟨d,m⟩:=hf γ;have KI:=I.ij;have cls : ∃nm q N bs bm hdct sn sub ab col dd k0 k1 k2 k3 k5,X.K.lookup C=aI (excClassObj nm q C N bs bm hdct sn sub ab col dd k0 k1 k2 k3 k5 "ValueError.__new__")/\uR X.K t8 bm=cI/\uS X.K N=cI/\sY X.K N "__init__" = aI bC:=by
  unfold gi at x3;cases r:X.K.lookup C with
  | none=>rw[r]at x3;cases x3
  | some o=>
   rw[r]at x3;obtain⟨oc,dd,E,F⟩:=o;simp only[pB,beq_iff_eq]at x3;obtain⟨⟨⟨y1,y2⟩,y3⟩,O⟩:=x3;subst y1;obtain⟨k0,k1,k2,k3,k5,hs⟩:=Vg (by simpa using y2) y3;cases m:av ⟨.type "type",dd,E,F⟩with
   | none=>rw[m]at O;cases O
   | some T=>
    rw[m]at O;have bd:E = .cls T:=by
     unfold av at m;cases E with
     | cls c5=>cases m;rfl
     | _=>cases m
    subst bd;simp only[pB,beq_iff_eq,sA]at O;obtain⟨⟨⟨⟨y5,Q⟩,R⟩,b⟩,n⟩:=O;obtain⟨nm,bs,mro,ns,qn,bg,sn,sub,ab,col,c6⟩:=T;dsimp only at y5 Q R b n;subst Q;have bi:F = #[k0,k1,k2,k3,aI (.builtin "ValueError.__new__"),k5]:=by obtain⟨l⟩:=F;simp only at hs;rw[hs]
    subst bi;have p:=Vw y5;generalize mro.drop 1=bm at p R;subst p;exact⟨nm,qn,ns,bs,bm,bg,sn,sub,ab,col,dd,k0,k1,k2,k3,k5,rfl,R,b,n⟩
 obtain⟨nm,q,B,bs,bm,hdct,sn,sub,ab,col,dd,k0,k1,k2,k3,k5,r,R,b,n⟩:=cls;have T0 : ∀{g:fy},X.K.In g->OwnTail g t8 bm:=λY=>sU Y R;refine wpAny_Raise_call_subT (C:=C) (nm:=nm) (q:=q) (N:=B) (bs:=bs) (bm:=bm) (hdct:=hdct) (sn:=sn) (sub:=sub) (ab:=ab) (col:=col) (dd:=dd) (k0:=k0) (k1:=k1) (k2:=k2) (k3:=k3) (k5:=k5)
  FB (mN:=X.base.nsMap B) ((T0 KI).hasType FB.hasBase) hh (by rw[hs];rfl) (PySem.W.nsMap_none_of_in I.ok.mod.BW b n) (qv I (show Gl X c from P.1) x2 ⟨rfl,?_⟩ P.2.2)
 have bl:PA X.m7 [a] _:=jH ha qB (show hX [a] X.m7.env=[(dV,fk a X.m7.env)]from hs);have S:=bl cpos i s σ H (λvs y=>∃v,vs=[v]/\∃j,Ext J H j y) (I.l4 _) ⟨J,γ,d,Z.rc,m,λv H' t G rr=>⟨v,rfl,t,G⟩⟩;rw[hs];rw[show hX [a] X.m7.env=[(dV,fk a X.env)]from hs]at S;refine uD<|pJ S (λus s2 hZ=>?_) λ_ _ z=>z.elim;obtain⟨vs,y,U,rv,v,ev,j,G⟩:=hZ;subst ev;obtain⟨u,rfl,ru⟩:=vM rv;have U:=U.o7;have M:=U.ij;have n1:X.base.Ns B (X.base.nsMap B):= .of_isNs (PySem.W.isNs_of_in I.ok.mod.BW b);have c2:s2.heap.Ns B (X.base.nsMap B):=n1.keeps U.bk;exact⟨rfl,by show 1<=i6;decide,M _ _ r,c2,T0 M,λh' e p=>w.1 i σ y j s2 h' e C _ U (Z.ext.trans G) x.all x.mem x1 rfl p⟩
end
noncomputable def Dq(K:pv)(n:Nat)(G:List D->Option Xn):Sp:=λg H _ E=>∃b d c,i1 b H/\eS K b d g/\d.length=n/\G d=aI c/\
 ∀C e a f,yf K=cI->c.1∈mB->qH K c.1=aI C->ki c f a->Ext b H a e->E (.ref C) f e
theorem Dq.len{K:pv}{n:Nat}{G:List D->Option Xn}{B:List Str}(I:B.length=n) : ∀z H Q E,Dq K n G z H Q E->z.length=B.length:=λz H Q E h=>by obtain⟨d,e,c,_,a,b,_⟩:=h;rw[a.length,b,I]
structure pa(P:iv)(w:h8)(K:pv)(mg:GJ)(base:fy)(k:Nat)(x:Str)(n:Nat)(G:List D->Option Xn):Prop where
 ex : ∃(f:cS) (fd:sx) (ps:List Str),ps.length=n/\u5 P w K mg base (l5 P w) k f fd ps (Dq K ps.length G)/\mg x=aI (.ref f)/\sv K (.ref f)=cI/\Binds K fd ps []
theorem dw{P:iv}{w:h8}{K:pv}{L:GJ}{base:fy}{x:Str}{st:h9}{N J:List Str}{k:Nat}{G:CO Xn}(A:ik K L x st J)(hd:vh N J st=cI)
 (a6 : ∀X:Cx,X.prog=P->X.w=w->X.K=K->X.mg=L->X.base=base->SX X (zE st) N N k->Cn X (js st) G):pa P w K L base (k+1) x J.length (Wh N.length G):=by
 obtain⟨f,fd,y,hb,hm⟩:=A.ex;have S:=xG hd;have bi:J.length<=N.length:=by have:=congrArg List.length S.pre;rw[sH]at this;omega
 refine⟨f,fd,J,rfl,?_,hm,y.kp,.all hb⟩;obtain⟨oc,Z,kV,doc,pm,an,DF,ct,Cy,rfl,lk,a8⟩:=y.ex;refine WX lk a8 S (Dq.len rfl) λA p s H vs Q E hr ac=>⟨λ_ σ g=>σ=k7 N vs/\g=H,λh s1 σ M D I n=>?_,rfl,rfl⟩;obtain⟨rfl,rfl⟩:=n;obtain⟨F,ds,c,s0,h1,h2,h3,U⟩:=ac;refine pJ (a6 _ rfl rfl rfl rfl rfl ⟨rfl,rfl,S.nd,rfl,hr,λ_ _=> .inl rfl⟩ h s1 _ M F M F (jB N.length ds) c I (vT s0 h1 ⋯) h3 ⟨λT i j B s2 h' a C us O R W Y r u m=>?_,λT i j B s2 e s' O R m=>?_,λT i j B s2 a C d t φ O y1 y2 y3 R W Y r u=>?_⟩) (λ_ _ z=>z.elim) λ_ _ z=>z
 ·exact vy O m<|U C j B bC W Y r (by unfold ki;rw[u]) R
 ·refine yI (E':=λl Z g=>∃C b,l = .ref C/\yf K=cI/\c.1∈mB/\qH K c.1=aI C/\ki c Z b/\Ext B j b g) O m λcc o g z=>?_
  obtain⟨C,b,rfl,z1,z2,z3,z4,z5⟩:=z;exact U C g b o z1 z2 z3 z4<|R.trans z5
 ·exact vz O y1 y2 (y3 rfl)<|U C _ B (aI d) W Y r u R
section
variable{X:Cx}{sc:hH}{N L:List Str}{k j n:Nat}{e:f6}{es:List f6}{g:CO (List D)}{G:List D->Option Xn}{x:Str}{p pos:g9}
noncomputable def aA(X:Cx)(z:GW)(I:St)(H0 H:Hp)(B:Xn)(e:eF)(s':eM):Prop:=∃d b g,Inv X z I d g/\Ext H0 H b d/\
 l5 X.prog X.w X.stack d g (λf i h=>∃C a,f = .ref C/\yf X.K=cI/\B.1∈mB/\qH X.K B.1=aI C/\ki B i a/\Ext b d a h) e s'
theorem Jv{J:GW}{σ:St}{H H0:Hp}{γ:Ctx}{P:List D}{Z:Xn}{s:eM}(hf:pa X.prog X.w X.K X.mg X.base j x n G)(W:j<=k)(h:SX X sc N L k)(c:qe sc x=cI)(ha:z7 X.m7 (e::es) n g)
 (I:Inv X J σ H s) (rc:RC X.K H0 H σ γ) (O:g γ=aI P) (Y:G P=aI Z)
 (he:hX (e::es) X.env=(dV,fk e X.env)::hX es X.env:=by rfl) (a2:(ow pos<|starEach es X.env).any (·.1)=dV:=by rfl) :
 wpAny (fh X.prog X.w) X.A (fk (.Call (.Name x p) (e::es) [] pos) X.env) (λ_ _=>False) (aA X J σ H0 H Z) s:=by
 obtain⟨fa,fd,E,hn,F,hm,T,S⟩:=hf.ex;subst hn;refine sd<|qv I (h.gl c).1 hm ?_ (h.gl c).2.2;refine uN (h₀:=X.base) I.ok.mod.BW T (pJ (ha.1 pos J s σ H (λi d=>∃b,Ext H0 H b d/\eS X.K b P i) (I.l4 _) ⟨H0,γ,P,rc,O,λi m a x r=>⟨a,x,r⟩⟩) (λl t ⟨i,d,B,R,b,x1,U⟩=>⟨B.o7.ij,?_⟩) λ_ _ z=>z.elim) he a2;have B:=B.o7;have M:i.length=E.length:=by rw[U.length];exact ha.2 γ P O
 have hl:l.length=E.length:=by rw[<- R.length];exact M
 refine uF (uq (F.run X.A X.stack t d ⟨l,[]⟩ l i (λ_ _=>False) (λo y m=>∃C a,o = .ref C/\yf X.K=cI/\Z.1∈mB/\qH X.K Z.1=aI C/\ki Z y a/\Ext b d a m) (h.room.mono W) B.DG
  (by simpa using S t l B.ij (by simpa using hl)) R ⟨b,P,Z,x1.sub,U,ha.2 γ P O,Y,λC m a y xa xm xc xn xx=>⟨C,a,rfl,xa,xm,xc,xn,xx⟩⟩) λr s' f=>?_)
 cases r with
 | error e=>exact⟨d,b,t,B,x1,f⟩
 | ok Q=>
  cases Q with
  | ret u=>obtain⟨_,_,_,_,_,_,_,z⟩:=f;exact z.elim
  | next=>exact f.elim
  | brk=>exact f.elim
  | cont=>exact f.elim
end
noncomputable def A2(X:Cx)(e:eF):Cx:={X with A:=X.A.mark<|some e,calm:=dV,xe:=λ_ _=>False}
theorem wa{X:Cx}{B:GW}{G:St}{H:Hp}{s:eM}(I:L2.Inv X B G H s)(e:eF):L2.Inv (A2 X e) B G H s:=
 ⟨⟨I.ok.mod,I.ok.kind,I.ok.glob,I.ok.blt,I.ok.above,I.ok.inj,I.ok.has,I.ok.Cq,(λz=>nomatch z),I.ok.frames,I.ok.BJ,I.ok.Cd,I.ok.bs,I.ok.Bq,I.ok.Cw,I.ok.Ce,I.ok.n5,I.ok.zx⟩,I.os,I.bare,I.base,I.loc,I.cell,I.free,I.zv,I.pin,I.gv,I.len⟩
theorem wZ{X:Cx}{z:GW}{B:St}{H:Hp}{s:eM}{e:eF}(ok:X.Ok)(I:L2.Inv (A2 X e) z B H s):L2.Inv X z B H s:=
 ⟨ok,I.os,I.bare,I.base,I.loc,I.cell,I.free,I.zv,I.pin,I.gv,I.len⟩
theorem Xt{X:Cx}{G:GW}{J:St}{H:Hp}{s:eM}{M:Model}{A:i7}{E:GQ}{Q:Unit->eM->Prop}{i:Nat}{n:Str}{pos:g9}(I:L2.Inv X G J H s)(U:X.N.Nodup)(L:X.N[i]? = aI n)(W:X.env.scope.names.lookup n=aI .local)
 (h : ∀s',L2.Inv X G (J.set i bC) H s'->Q () s'):wpAny M A (do bindName X.env n .none;unbindBehindTheSuite X.env n pos) Q E s:=by
 obtain⟨m,C,Y⟩:=id I.loc;have t:(X.env.scope.kind == .class || (X.env.scope.kind == .module && X.env.locals != X.env.globals))=dV:=by rw[I.ok.kind];rfl
 refine wpAny_nameGoes_keeps W C t λh' v u a=>h _ ?_;have B : ∀b o,X.hF.heap.get? b=aI o->b≠X.env.locals:=λb o e=>pP<|pH (pE e) I.ok.above;refine⟨I.ok,I.os,I.bare,⟨λb o e n O f=>?_,λb o e n O f=>?_,I.base.free,λb o e f=>?_,I.base.r0,I.base.t2,I.base.rG⟩,⟨_,u,λj y v' g R w=>?_⟩,λy c e=>?_,I.free,I.zv,λp F=>?_,λb S e=>?_,by simpa using I.len⟩
 ·exact(a.2 b<|B b o e).trans (I.base.keep b o e n O f)
 ·obtain⟨Z,z⟩:=I.base.slot b o e n O f
  exact⟨Z,(a.2 b<|B b o e).trans z⟩
 ·obtain⟨P,z⟩:=I.base.there b o e f
  exact⟨P,(a.2 b<|B b o e).trans z⟩
 ·rcases zC R with⟨_,z,_⟩ | ⟨x,R⟩
  ·cases z
  ·obtain⟨u',T,q⟩:=Y j y v' g R w
   refine⟨u',T,?_⟩;rcases q with⟨k,e⟩ | ⟨k,c,e,z⟩
   ·refine .inl ⟨k,?_⟩
    have:y≠n:=λe=>x<|v7 U g<|e ▸ L;simp[this,e]
   ·exact .inr ⟨k,c,e,z.sameBut a<|I.BR y c e⟩
 ·obtain⟨r,z⟩:=I.cell y c e
  exact⟨r,z.sameBut a<|I.BR y c e⟩
 ·obtain⟨e,n,l,K,d⟩:=I.pin p F
  exact⟨(a.2 p.1 l).trans e,n,l,K,d⟩
 ·refine(I.gv b S e).t5 (λc r hc q=>(a.2 c ?_).trans q) (λ_ q=>q) λ_ _ q=>q
  rintro rfl;rcases hc with hc | hc
  ·rw[<- hc,I.free]at e;cases e
  ·rw[I.free]at hc;cases hc
structure XS(K:pv)(mg:GJ):Prop where
 ex : ∃S,qH K "SplitError" = aI S/\mg "SplitError" = aI (.ref S)/\sJ K (.ref S)=aI (.type "type")/\rl K S (.type "BaseException")=aI cI/\(sy K S).isSome=cI/\rl K S (.ref S)=aI cI
theorem ZR{M:Model}{h:fy}{K:pv}{a C S:cS}(X:K.In h)(I:vH h a C)(G:sJ K (.ref S)=aI (.type "type"))(H:rl K S (.type "BaseException")=aI cI)(B:(sy K S).isSome=cI)(O:rl K C (.ref S)=aI cI) :
 uB M h (excMatches (.ref a)<|.ref S) cI:=by
 have R:=xK (M:=M) I;have U:=PySem.W.looks_typeIn (M:=M) X G;have b:=uH (M:=M) X H;have Y:uB M h (isType<|.ref S) cI:=by
  obtain⟨x,z⟩:=rN.mp B;unfold sy at z;split at z
  ·rename_i w y t u f
   intro o r p N k q;unfold isType loadHead;exact pw<|wpAny_loadPart (k _ _<|X _ _ f)<|pD q
  ·cases z
 have d:=uH (M:=M) X O;have e:uB M h (isSubtype (.type "type") (.type "tuple")) dV:= .of_pure tc_notTuple;intro A Q E s k q;obtain⟨J,g0,F,t0,L⟩:=s;have g:=R.keeps k;have i:=U.keeps k;have j:=b.keeps k;have l:=Y.keeps k;have m:=d.keeps k;have n:=e.keeps k;unfold excMatches isExcClass isInstance
 repeat (first | with_reducible refine i.at ?_ | with_reducible refine n.at ?_ | with_reducible refine l.at ?_ | with_reducible refine j.at ?_ | with_reducible refine g.at ?_ | with_reducible refine m.at ?_ | wp_step)
 exact q
section
variable{X:Cx}{sc:hH}{N L:List Str}{k:Nat}
theorem Y5{J:GW}{P:St}{H H0:Hp}{γ:Ctx}{G:Xn}{ev:eF}{s':eM}{D:Ends}{F0 F1:Hp}{I j:Nat}{nx Z:Str}{np pz pn a6 cf:g9}(h:SX X sc N L k)(a7:X.stack=X.env::X.outer/\X.env.frame=aI X.env.locals)
 (x:XS X.K X.mg) (bg:qe sc "SplitError" = cI) (cn:qU sc N L I nx=cI) (cl:decide (sc.names.lookup nx=aI .local)=cI) (cv:qT sc N I nx=cI) (cz:qU sc N L j Z=cI) (cq:I≠j)
 (rs:RS X.K F0 F1 H0 H P γ) (lf:aA X J P H0 H G ev s') (ct:Sat X.K F0 F1 D (.next<|(γ.set j<|.val<|.exc G.1 G.2).set I .no))
 (hs:t6 (.Name nx pn) (aI (.Name Z pz)) a6.line X.env=pure dV:=by rfl) :
 wpAny (fh X.prog X.w) X.A (noteFrame ev X.env) (λ_ s2=>wpAny (fh X.prog X.w) X.A (setFlight ev bC) (λ_ s3=>
  wpAny (fh X.prog X.w) X.A (handleBy ev X.env [.ExceptHandler (aI (.Name "SplitError" np)) (aI nx) [.Assign [.Name Z pz] (.Name nx pn) a6] cf]) (SP X J D) X.xe s3) X.xe s2) X.xe s':=by
 obtain⟨H1,Dy,s1,p,x1,a,C,H',F,rfl,⟨O,Q,eC,xa,xm,xc,xn,x2⟩,cy,d0,d1,un,gv,s,d2,⟨B,t,fl,d3,c0⟩⟩:=lf;obtain rfl:O=C:=(Av eC).symm;have d4:X.A.frames=aI (X.env::X.outer):=by rw[<- a7.1];exact p.ok.frames
 rw[a7.1]at fl;obtain⟨S,d5,d6,d7,d8,d9,da⟩:=x.ex;obtain⟨M,c1,y1,U,y3⟩:=xU xa xm xc;obtain rfl:M=S:=by rw[d5]at c1;exact(pX c1).symm
 have c2 : ∀l:fy,si B (X.env::X.outer) a (.ref O) (.ref t) l->s'.heap.UpToSlots l->l9 F a l->L2.Inv X J P (upd H' a<|.ext λg=>vH g a O/\l9 F a g) {s' with heap:=l}:=λl f sm dk=>by
  have obj:vH l a O:=by obtain⟨oe,m,_,_,_,y,⟨e2,_⟩,e3,_⟩:=f.2.2.2;exact⟨oe,m,y,e2,e3⟩
  have ne : ∀b o,s1.heap.get? b=aI o->b≠a:=λb o q z=>by rw[z,d2]at q;cases q
  have c3 : ∀b,b∈i5 X.stack->∃o,s1.heap.get? b=aI o/\(∀m,o.data ≠ .fields m)/\∃sl,l.get? b=aI {o with slots:=sl}:=λb R=>by obtain⟨_,o,q,nf⟩:=p.stack.mem R;obtain⟨sl,z⟩:=un.slot b o q (p.B5 b R) R ⋯;obtain⟨dl,z'⟩:=sm b _ z nf;exact⟨o,q,nf,dl,z'⟩
  refine p.DE (s':={s' with heap:=l}) (ch:=[]) d0 ⟨λb o q n R _=>?_,λb o q n R _=>?_,λb o q n _=>?_,λb o q _=>?_,λb xs q=>?_,λb o u q=>?_,λb ps q=>?_⟩ ?_ d1 (λ_ z=>nomatch z)
  ·exact f.1 b o<|c0 b o (un.keep b o q n R ⋯) (by rw[q];simp) R
  ·obtain⟨E,q',_,z⟩:=c3 b R
   rw[q]at q';cases q';exact z
  ·rw[zo (ne b o q)];exact un.free b o q n ⋯
  ·by_cases R:b∈i5 X.stack
   ·obtain⟨E,_,_,sl,z⟩:=c3 b R
    exact⟨_,z⟩
   ·obtain⟨E,z⟩:=un.there b o q ⋯
    exact⟨E,f.1 b E<|c0 b E z (by rw[q];simp) R⟩
  ·have z:=un.r0 b xs q
   rw[zo (zD z s)];exact z
  ·have z:=un.t2 b o u q
   rw[zo (zD z s)];exact z
  ·obtain⟨more,z⟩:=un.rG b ps q
   exact⟨more,by rw[zo (zD z s)];exact z⟩
  ·refine XR (jv gv λb u n q=>f.1 b u<|d3 b u q n) s ⟨obj,dk⟩ ?_ ?_
   ·obtain⟨o,_,e,_⟩:=obj;exact⟨o,e⟩
   ·rintro g1 g2 ⟨⟨o,m,e,r⟩,dp⟩ kk
    exact⟨⟨o,m,kk o e,r⟩,dp.obj kk⟩
 refine Xv d4 a7.2 fl cy λh4 dt c6 dy=>?_;refine Xz dt dy λh5 as c8 c9=>?_;have I5:=wa (c2 h5 as (c6.trans c8) c9)<|.ref a;have e0:vH h5 a O:=by obtain⟨oe,m,_,_,_,y,⟨e2,_⟩,e3,_⟩:=as.2.2.2;exact⟨oe,m,y,e2,e3⟩
 have mS:rl X.K O (.ref M)=aI cI:=by
  have U:=U;unfold rA at U;by_cases z:(pO O==pO M)=cI
  ·have e:O=M:=Av (beq_iff_eq.mp z)
   subst e;exact da
  ·rw[MQ z]at U
   unfold PySem.W.kitCls at U;dsimp only at U;split at U
   ·exact U
   ·cases U
 refine wpAny_handleBy_cons (codeAny_handlers_test<|qv (X:=A2 X<|.ref a) I5 (show Gl X _ from(h.gl bg).1) d6 ?_ (h.gl bg).2.2) (by intro q;cases q);refine(ZR I5.ij e0 d7 d8 d9 mS) _ _ _ _ (λ_ _ z=>z) ?_;refine codeAny_handlers_suite_as<|VU as c9 λh6 e6 e7 e8=>?_;have I6:=wa (c2 h6 e6 ((c6.trans c8).trans e7) e8)<|.ref a;obtain⟨n1,n2,n3⟩:=h.loc cn;obtain⟨z1,z2,z3⟩:=h.loc cz;refine vP (X:=A2 X<|.ref a) (v:= .ref a) I6 (show X.N.Nodup from h.CQ) n1 n2 rfl (λs7 I7=>?_) n3;have hv:PE (A2 X<|.ref a) (.Name nx pn) (KP I):=by
  unfold qT at cv;simp only[pB,rC,decide_eq_true_eq,sA]at cv;obtain⟨⟨⟨v1,Y⟩,v3⟩,v4⟩:=cv;refine Xf (by show X.N[I]? = aI nx;rw[h.eN];exact v1) ?_ v3 v4;show CF X.env.scope nx;unfold CF;rw[h.xg];rcases Y with(Y | Y) | Y
  ·exact .inl Y
  ·exact .inr<|.inl Y
  ·exact .inr<|.inr Y
 have eq:PS (A2 X<|.ref a) (.Assign [.Name Z pz] (.Name nx pn) a6) (Qw (KP I)<|ku j):=Vr (X:=A2 X<|.ref a) (show X.N.Nodup from h.CQ) z1 z2 hv hs z3;have er:I<P.length:=by rw[p.len];exact(pW.mp n1).1
 have run:=(vV eq) J s7 (P.set I<|some (.ref a)) _ {nx:=λEt Hn=>Et=(P.set I<|some (.ref a)).set j (aI (.ref a))/\Hn=upd H' a (.ext λg=>vH g a O/\l9 F a g),rt:=λ_ _=>False} I7
  ⟨.ref a,rn er,rfl,rfl⟩
 refine pJ run (λf s8 z=>?_) λ_ _ z=>z.elim;cases f with
 | next=>
  obtain⟨Fh,H8,T,rfl,rfl⟩:=z;have T:=wZ p.ok T;refine Xt T h.CQ n1 (by rw[h.xg];exact of_decide_eq_true cl) λs9 I9=>⟨_,_,I9,?_⟩;have xt:=x1.trans<|x2.trans<|Ext.alloc x2.sub s<|.ext λg=>vH g a O/\l9 F a g;have rep:Rep X.K (upd Q a<|.ext λg=>vH g a O/\l9 F a g) (.exc G.1 G.2) (.ref a):=by
   refine(show ∃b,V.ref a = .ref b/\zj X.K _ G.1 G.2 b from⟨a,rfl,xa,xm,O,_,xc,zq,λ_ z=>z.1,?_⟩);unfold ki at xn;cases hc:G.2 with
   | none=>trivial
   | some i=>
    rw[hc]at xn;obtain⟨d,ey,bb⟩:=xn;have f0:d≠a:=λq=>by rw[q,x2.sub.free s]at bb;cases bb
    exact⟨d,λg z=>z.2.1 d ey,by rw[zo f0];exact bb⟩
  have r1:=((rs.step xt).Bv (i:=I) rep).Bv (i:=j) rep;have r2:=r1.forget (i:=I) (v:=bC);have y:((γ.set I<|.val<|.exc G.1 G.2).set j (.val<|.exc G.1 G.2)).set I .no=(γ.set j<|.val<|.exc G.1 G.2).set I .no:=by rw[List.set_comm _ _ cq,List.set_set]
  rw[y]at r2;exact ct _ _ _ r2
 | ret v=>obtain⟨_,_,_,_,_,z⟩:=z;exact z.elim
 | brk=>obtain⟨_,_,_,z⟩:=z;exact z.elim
 | cont=>obtain⟨_,_,_,z⟩:=z;exact z.elim
end
section ap
variable(γ:Ctx)
@[simp] def Y9:=@jk.eq_1
@[simp] def vF:=@qI.eq_1
@[simp] def qG:=@zU.eq_1
@[simp] def VR:=@zl.eq_1
@[simp] def lx:=@ze.eq_1
@[simp] theorem nc(d):zh d γ=aI d:=rfl
@[simp] def vG:=@zt.eq_1
@[simp] def JC:=@sB.eq_1
@[simp] def lW:=@Wg.eq_1
@[simp] def vE:=@qo.eq_1
@[simp] def kP:=@zN.eq_1
@[simp] def VT:=@Zm.eq_1
@[simp] def lC:=@Em.eq_1
@[simp] def mY:=@eD.eq_1
@[simp] def nk:=@eK.eq_1
@[simp] theorem dZ:zB γ=aI []:=rfl
@[simp] def kQ:=@zb.eq_1
@[simp] def dS:=@xQ.eq_1
@[simp] def lG:=@jF.eq_1
@[simp] def aa:=@zL.eq_1
@[simp] def VS:=@j8.eq_1
@[simp] def W9:=@ke.eq_1
@[simp] def lA:=@QJ.eq_1
@[simp] def nt:=@oZ.eq_1
@[simp] def lT:=@oq.eq_1
@[simp] def qS:=@hI.eq_1
@[simp] def yQ:=@jR.eq_1
@[simp] def W8:=@vR.eq_1
@[simp] def lQ:=@oj.eq_1
@[simp] def Kn:=@xi.eq_1
@[simp] def ZY:=@zu.eq_1
@[simp] def fY:=@kS.eq_1
@[simp] def Va:=@z9.eq_1
@[simp] def dY:=@zX.eq_1
@[simp] def dX:=@gN.eq_1
@[simp] def mU:=@aZ.eq_1
@[simp] def Km:=@Qh.eq_1
@[simp] def qx:=@zT.eq_1
@[simp] theorem mV:jE γ=aI cI:=rfl
@[simp] def wj:=@xW.eq_1
@[simp] def lB:=@gM.eq_1
@[simp] def af:=@eI.eq_1
@[simp] def Y8:=@QI.eq_1
@[simp] theorem mZ:yi γ=aI bC:=rfl
@[simp] def oP:=@n9.eq_1
@[simp] def mW:=@gL.eq_1
@[simp] def ng:=@j7.eq_1
@[simp] def oO:=@o4.eq_1
@[simp] def nh:=@oX.eq_1
@[simp] def vD:=@ja.eq_1
@[simp] def ec:=@gP.eq_1
@[simp] def dU:=@KW.eq_1
@[simp] def Ko:=@JR.eq_1
@[simp] def nv:=@pd.eq_1
@[simp] def lM:=@nY.eq_1
@[simp] def lF:=@Zw.eq_1
@[simp] def ly:=@nU.eq_1
theorem jw(F G):zI F G γ=(F γ).bind λz=>match z with
 | .next a=>G a
 | f=>aI f:=rfl
end ap
@[simp] theorem mR(ds):qg (.tup ds)=aI (.T,ds):=rfl
@[simp] theorem dQ(ds):qg (.lst ds)=aI (.L,ds):=rfl
@[simp] theorem ZU(d):Kc (aI (.val d))=aI d:=rfl
@[simp] theorem W0(d):kO (aI (.val d))=qg d:=rfl
@[simp] theorem W1(d):kO (aI (.own d))=aI (.L,d):=rfl
@[simp] theorem W4(d):qw (aI (.own d))=aI d:=rfl
@[simp] theorem W2(d):ZV (aI (.val d))=aI (.ret<|.val d):=rfl
@[simp] theorem W3(d):ZV (aI (.own d))=aI (.ret<|.own d):=rfl
@[simp] theorem mT(b):BP (.bl b)=aI b:=rfl
@[simp] theorem lr(b):m9 (.int b)=aI b:=rfl
@[simp] theorem eP(d):Vj (.val d)=d:=rfl
@[simp] theorem eQ(d):Vj (.own d) = .lst d:=rfl
@[simp] theorem eO(d):gW (.own d)=aI d:=rfl
@[simp] theorem fC(i j):Zc (.int i) (.int j)=aI (.int<|i - j):=rfl
@[simp] theorem fH(i j):qE (.int i) (.int j)=aI (.int<|i+j):=rfl
@[simp] theorem fF(i j):qd (.int i) (.int j)=if 0<j then aI (.int<|i%j)else bC:=by show(if fJ i j=cI then _ else _)=_;simp[fJ]
@[simp] theorem fG(i j):Qj (.int i) (.int j)=if 0<j/\j<1073741824 then aI (.int<|i/j)else bC:=by
 show(if dO i j=cI then _ else _)=_;have e:(dO i j=cI)=(0<j/\j<1073741824):=by unfold dO;rw[pB,decide_eq_true_eq,decide_eq_true_eq];apply propext;constructor<;>intro h<;>exact⟨h.1,by omega⟩
 simp only[e]
@[simp] theorem fE(i j):wt (.int i) (.int j)=if Qk i j=cI then aI (.int<|i*j)else bC:=rfl
@[simp] theorem fD(i j):KB (.int i) (.int j)=if dM i j=cI then aI (.int<|i ^ j.toNat)else bC:=rfl
@[simp] theorem iZ(i j):BS (.int i) (.int j)=aI (.bl<|decide<|i<j):=rfl
@[simp] theorem lg(i j):zp (.int i) (.int j)=aI (.bl<|decide<|i<=j):=rfl
@[simp] theorem lh(i j):vr (.int i) (.int j)=aI (.bl<|decide<|j<i):=rfl
@[simp] theorem lj(i j):Cc (.int i) (.int j)=aI (.bl<|decide<|j<=i):=rfl
@[simp] theorem ll(i j):i0 (.int i) (.int j)=aI (.bl<|decide<|i=j):=by unfold i0;rw[GY ⟨rfl,rfl⟩];exact congrArg (λb=>aI (D.bl b)) (by rw[Bool.eq_iff_iff];simp[m3])
@[simp] theorem iY(i j):mi (.int i) (.int j)=aI (.bl<|!decide (i=j)):=by unfold mi;rw[GY ⟨rfl,rfl⟩];exact congrArg (λb=>aI (D.bl !b)) (by rw[Bool.eq_iff_iff];simp[m3])
@[simp] theorem aY(i is d ds γ):jW (i::is) (d::ds) γ=jW is ds (γ.set i<|.val d):=rfl
@[simp] theorem aX(ds γ):jW [] ds γ=γ:=by cases ds<;>rfl
@[simp] theorem fK(i d γ):qR (.nm i) d γ=aI (γ.set i<|.val d):=rfl
@[simp] theorem Kj(i j a b γ):qR (.tp [i,j]) (.tup [a,b]) γ=aI ((γ.set i<|.val a).set j (.val b)):=rfl
@[simp] theorem KU(γ:Ctx)(G:CO Fl):(aI (Fl.next γ)).bind (λz=>match z with
 | .next γ'=>G γ'
 | f=>aI f)=G γ:=rfl
theorem Kh(i j:Int)(z : -(2 ^ 64)<j)(B:j<2 ^ 64):Qk i j=cI:=by unfold Qk;rw[rC];right;exact decide_eq_true ⋯
theorem dN(i j:Int)(z : -(2 ^ 64)<i)(B:i<2 ^ 64):Qk i j=cI:=by unfold Qk;rw[rC];left;exact decide_eq_true ⋯
theorem Jt(z : -(2 ^ 62)<i)(B:i<2 ^ 62):inR i=cI:=by unfold inR;exact decide_eq_true ⋯
@[simp] theorem ju(n k:Nat):i9 n (k:Int)=if k<n then aI k else bC:=by
 unfold i9;by_cases h:k<n
 ·rw[GY ⟨Int.natCast_nonneg k,by omega⟩,GY h];simp
 ·rw[MQ ⋯,MQ ⋯,MQ h]
theorem jL:lim=2500:=rfl
@[simp] theorem fw:0<=lim:=uU _
@[simp] theorem fv:1<=lim:=by decide
@[simp] theorem fu:2<=lim:=by decide
@[simp] theorem ft:3<=lim:=by decide
@[simp] theorem fm:4<=lim:=by decide
@[simp] theorem fj:5<=lim:=by decide
@[simp] theorem fi:6<=lim:=by decide
@[simp] theorem fg:7<=lim:=by decide
@[simp] theorem fe:8<=lim:=by decide
@[simp] theorem eY:0<lim:=by decide
@[simp] theorem yK(h:n<=lim):inR (n:Int)=cI:=Jt ⋯ (by have:=jL;omega)
@[simp] theorem Gj(n:Nat):i9 (n+1) 0=aI 0:=ju (n+1) 0 ▸ rfl
@[simp] theorem Gk(n:Nat):i9 (n+2) 1=aI 1:=by have:=ju (n+2) 1;simpa using this
@[simp] theorem Gm(n:Nat):i9 (n+3) 2=aI 2:=by have:=ju (n+3) 2;simpa using this
theorem zS(r:α->D) : ∀(l:List α),(∀x∈l,jf T k f γ [g x]=aI [r x])->jf T k f γ (l.map g)=aI (l.map r)
 | [],_=>rfl
 | x::l,h=>by
  have a:=h x rh;have d:=zS r l λy B=>h y<|pT _ B;simp only[rM,jf]at a ⊢;cases e1:qR T (g x) γ with
  | none=>rw[e1]at a;simp at a
  | some z=>
   rw[e1]at a;simp only[rf]at a ⊢;cases e2:k z with
   | none=>rw[e2]at a;simp at a
   | some b=>
    rw[e2]at a;simp only[rf]at a ⊢;cases b with
    | false=>simp at a
    | true=>
     simp only[GY]at a ⊢;cases e3:f z with
     | none=>rw[e3]at a;simp at a
     | some e=>
      rw[e3]at a;simp at a;rw[d];simp[a]
theorem zV(B:qR T d γ=aI Dv)(G:k Dv=aI cI)(z:f Dv=aI e):jf T k f γ [d]=aI [e]:=by simp[jf,B,G,z]
theorem qr(T F d G γ):kv T F (d::G) γ=(qR T d γ).bind λB=>(F B).bind λI=>match I with
 | .next z=>kv T F G z
 | .cont z=>kv T F G z
 | .brk z=>aI (.next z)
 | .ret r=>aI (.ret r):=rfl
theorem w9(P:Nat->Ctx->Prop) : ∀(G:List D) (k:Nat) (γ:Ctx),P k γ->(∀i d γ,G[i]? = aI d->P (k+i) γ->∃γ',((qR T d γ).bind F=aI (.next γ')\/(qR T d γ).bind F=aI (.cont γ'))/\P (k+i+1) γ')->
 ∃γ',kv T F G γ=aI (.next γ')/\P (k+G.length) γ'
 | [],k,γ,h,_=>⟨γ,rfl,h⟩
 | d::G,k,γ,h,step=>by
  obtain⟨z,e,b⟩:=step 0 d γ rfl h;obtain⟨γ',B,f⟩:=w9 P G (k+1) z (by simpa using b) (λi a I g O=>by have:=step (i+1) a I (by simpa using g) (by rw[show k+(i+1)=k+1+i by omega];exact O);rw[show k+(i+1)+1=k+1+i+1 by omega]at this;exact this)
  refine⟨γ',?_,by rw[show k+(d::G).length=k+1+G.length by simp;omega];exact f⟩;rw[qr];cases eb:qR T d γ with
  | none=>rw[eb]at e;simp at e
  | some R=>
   rw[eb]at e;simp only[rf]at e ⊢;rcases e with e | e<;>rw[e]<;>exact B
def xv(n:Nat)(f:Nat->Int):List D:=(pK n).map λi=>D.int<|f i
theorem qC(n f):xv n f=(pK n).map λi=>D.int (f i):=rfl
noncomputable def KA(h w:Nat)(f:GK):List D:=(pK h).map λi=>D.tup<|xv w<|f i
noncomputable def YW(h w:Nat)(f:GK):D:= .tup [.int h,.int w,.tup (KA h w f)]
@[simp] theorem fA(n f):(xv n f).length=n:=by simp[xv]
@[simp] theorem fB(h w f):(KA h w f).length=h:=by simp[KA]
@[simp] theorem iU(f)(h:i<(xv n f).length):(xv n f)[i] = .int (f i):=by simp[xv]
@[simp] theorem iV(f)(z:i<(KA h w f).length):(KA h w f)[i] = .tup (xv w<|f i):=by simp[KA]
theorem YZ{h w i:Nat}(f)(z:i<h):(KA h w f)[i]? = aI (.tup<|xv w<|f i):=by simp[KA,z]
theorem kf(n:Nat):qY 0 n=xv n λi=>(i:Int):=by simp[qY,xv]
def Zt(f:Nat->Int):Nat->Int
 | 0=>0
 | n+1=>Zt f n+f n
noncomputable def xZ:=jO 2<|j8<|ja<|zU<|zT (z9<|ze 1) (.nm 0) 1 [0] jE (zt qd (zl 0)<|zl 1)
noncomputable def zz:=jO 5<|zI (hI (sB<|zt i0 (j7<|ze 0)<|zh<|.int 0) (j8<|zt qd (zt wt (zt qd (zt wt (zt qE (zt wt (zt wt (zl 1)<|zl 1)<|zh<|.int 7919)<|zh<|.int 11)<|zh<|.int 48271)<|zh<|.int 2147483647)<|zh<|.int 69621)<|zh<|.int 1000000007) zL)<|zI (jR 2<|eI (ze 0)<|zt qd (zl 1)<|j7<|ze 0)<|zI (hI (Wg (sB<|zt vr (j7<|ze 0)<|zh<|.int 1)<|sB<|zt i0 (zt qd (eI (ze 0)<|zh<|.int 0)<|zh<|.int 2)<|zh<|.int 1) (zI (jR 3<|eI (ze 0)<|zt qE (zh<|.int 1)<|zt qd (zl 1)<|zt Zc (j7<|ze 0)<|zh<|.int 1)<|zI (Qh (zX<|zt Qj (zl 1)<|zt Zc (j7<|ze 0)<|zh<|.int 1) (.nm 4)<|jR 3<|zt Qj (zl 3)<|zt KB (zh<|.int 10)<|zh<|.int 9)<|j8<|zt qd (zl 3)<|zt KB (zh<|.int 10)<|zh<|.int 9) zL)<|j8<|zt qd (zt wt (zt qd (zt qE (zt qE (zt wt (zt qd (zl 2)<|zt KB (zh<|.int 10)<|zh<|.int 30)<|zh<|.int 48271)<|zt wt (zt wt (zl 1)<|zl 1)<|zh<|.int 7919)<|zh<|.int 11)<|zh<|.int 2147483647)<|zh<|.int 69621)<|zh<|.int 1000000007
def zQ:=jO 1<|j8<|Zm (o4 .int<|zl 0)<|eD<|o4 .bool<|zl 0
noncomputable def jy:=jO 2<|zI (hI (qo (zN<|sB<|o4 .tuple<|zl 0)<|sB<|zt mi (j7<|ze 0)<|j7<|ze 1) (j8<|zh<|.bl dV) zL)<|j8<|Zm (JR<|zU<|zT (z9<|ze 0) (.nm 0) 1 [] jE (zu zQ<|zb (zl 0) zB))<|zt i0 (zl 0)<|zl 1
noncomputable def jq:=jO 2<|zI (hI (qo (zN<|sB<|o4 .tuple<|zl 0)<|qo (sB<|zt mi (j7<|ze 0)<|zh<|.int 3)<|qo (zN<|sB<|zu zQ<|zb (eI (ze 0)<|zh<|.int 0) zB)<|zN<|sB<|zu zQ<|zb (eI (ze 0)<|zh<|.int 1) zB) (j8<|zh<|.bl dV) zL)<|zI (hI (qo (sB<|zt mi (gL (zl 0) yi<|n9<|zh<|.int 2)<|gL (zl 1) yi<|n9<|zh<|.int 2)<|qo (zN<|sB<|o4 .tuple<|eI (ze 0)<|zh<|.int 2)<|sB<|zt mi (j7<|jk<|eI (ze 0)<|zh<|.int 2)<|eI (ze 1)<|zh<|.int 0) (j8<|zh<|.bl dV) zL)<|j8<|JR<|zU<|zT (zX<|eI (ze 1)<|zh<|.int 0) (.nm 0) 1 [0,1] jE (zu jy<|zb (eI (jk<|eI (ze 1)<|zh<|.int 2)<|zl 0)<|zb (eI (jk<|eI (ze 2)<|zh<|.int 2)<|zl 0) zB)
section
variable(γ:Ctx)
@[simp] def nu:=@pb.eq_1
@[simp] def lV:=@ot.eq_1
@[simp] def fV:=@mx.eq_1
end
section
variable(γ:Ctx)
@[simp] def lP:=@oi.eq_1
@[simp] def nj:=@mm.eq_1
@[simp] def nq:=@oY.eq_1
@[simp] theorem fW(F G a b c):qL F G a b c γ=(a γ).bind λx=>(b γ).bind λy=>((F x y).bind BP).bind λk=>if k=cI then (c γ).bind λz=>G y z else aI (.bl dV):=rfl
@[simp] def Kl:=@Zv.eq_1
end
section
variable(γ:Ctx)
@[simp] def fU:=@mw.eq_1
@[simp] def ed:=@gQ.eq_1
@[simp] def nr:=@mn.eq_1
@[simp] def lO:=@oh.eq_1
@[simp] def fO:=@mj.eq_1
end
@[simp] theorem Y4(r):we (aI (.nest r))=aI r:=rfl
noncomputable def jV:=jO 4<|zI (hI (qo (zN<|sB<|o4 .tuple<|zl 0)<|qo (sB<|zt mi (j7<|ze 0)<|zh<|.int 3)<|qo (zN<|sB<|zu zQ<|zb (eI (ze 0)<|zh<|.int 0) zB)<|sB<|zt mi (eI (ze 0)<|zh<|.int 0)<|eI (ze 1)<|zh<|.int 0) (j8<|zh<|.bl dV) zL)<|zI (hI (qo (zN<|sB<|zu jy<|zb (eI (ze 0)<|zh<|.int 1)<|zb (eI (ze 1)<|zh<|.int 1) zB)<|qo (zN<|sB<|o4 .tuple<|eI (ze 0)<|zh<|.int 2)<|sB<|zt mi (j7<|jk<|eI (ze 0)<|zh<|.int 2)<|j7<|jk<|eI (ze 1)<|zh<|.int 2) (j8<|zh<|.bl dV) zL)<|zI (Qh (aZ (eI (ze 0)<|zh<|.int 2)<|eI (ze 1)<|zh<|.int 2) (.tp [2,3])<|zI (hI (qo (zN<|sB<|o4 .tuple<|zl 2)<|qo (sB<|zt mi (j7<|ze 2)<|zh<|.int 2)<|sB<|zt mi (eI (ze 2)<|zh<|.int 0)<|eI (ze 3)<|zh<|.int 0) (j8<|zh<|.bl dV) zL)<|hI (qo (zN<|sB<|o4 .str<|eI (ze 2)<|zh<|.int 0)<|zN<|sB<|zu jq<|zb (eI (ze 2)<|zh<|.int 1)<|zb (eI (ze 3)<|zh<|.int 1) zB) (j8<|zh<|.bl dV) zL)<|j8<|zh<|.bl cI
section
variable(γ:Ctx)
@[simp] def fL:=@yv.eq_1
@[simp] def lJ:=@bf.eq_1
@[simp] def lS:=@om.eq_1
@[simp] def lL:=@nX.eq_1
end
noncomputable def zZ:=jO 2 (j8 (eK (sB (zt i0 (zl 1) (zh (.str "r")))) (zl 0) (zt qE (zl 0) (zh (.int 1)))))
noncomputable def qm:=jO 2 (j8 (eK (sB (zt i0 (zl 1) (zh (.str "r")))) (zt qE (zl 0) (zh (.int 1))) (zl 0)))
noncomputable def wG(f:CO D):CO D:=λa=>(f a).map λd=> .bl (yU .list d || yU .tuple d)
def zW:=jO 1<|j8<|Zm (o4 .int<|zl 0)<|eD<|o4 .bool<|zl 0
noncomputable def Zk:=jO 2<|j8<|Zm (zu zW<|zb (zl 1) zB)<|qL zp BS (zh<|.int 0) (zl 1)<|zl 0
noncomputable def qz:=jO 3 (zI (vR 1 (jF (zb (Jb "NoPrime" (zl 0)) (zb (Jb "Nought" (zl 0)) (zb (Jb "NoTable" (zl 0)) (zb (Jb "NoWidths" (zl 0)) zB)))))) (zI (vR 1 (xW (ze 1) (zU (jF (zb (Jb "NoRow" (zl 0)) (zb (Jb "Unlike" (zl 0)) (zb (Jb "TooMany" (zl 0)) (zb (Jb "NoTurn" (zl 0)) zB)))))))) (zI (vR 1 (xW (ze 1) (zU (jF (zb (Jb "NoLine" (zl 0)) (zb (Jb "Nothing" (zl 0)) (zb (Jb "NoArrow" (zl 0)) (zb (Jb "NoText" (zl 0)) zB)))))))) (zI (xi 1 (Jb "NoRoom" (zl 0))) (zI (jR 2 (qI (jF (zb (zh (.str "NoPrime")) (zb (zh (.str "Nought")) (zb (zh (.str "NoTable")) (zb (zh (.str "NoWidths")) (zb (zh (.str "NoRow")) (zb (zh (.str "Unlike")) (zb (zh (.str "TooMany")) (zb (zh (.str "NoTurn")) (zb (zh (.str "NoLine")) (zb (zh (.str "Nothing")) zB))))))))))))) (zI (jR 2 (qI (xW (ze 2) (zU (jF (zb (zh (.str "NoArrow")) (zb (zh (.str "NoText")) (zb (zh (.str "NoRoom")) zB)))))))) (zI (hI (zN (sB (bj (zl 0)))) (ke (jF (zb (zh (.str "no ValueError")) zB))) zL) (mn 1 (ke (zT (zX (zh (.int 13))) (.nm 0) 1 [1,2] (sB (eI (ze 1) (zl 0))) (eI (ze 2) (zl 0))))))))))))
noncomputable def jb:=jO 1<|j8<|Zm (zu zW<|zb (zl 0) zB)<|mm (zl 0)<|jk<|zh<|.tup [.int 2,.int 3,.int 5,.int 7]
noncomputable def jo:=jO 1<|j8<|Zm (zu zW<|zb (zl 0) zB)<|qL zp zp (zh<|.int 0) (zl 0)<|zh<|.int 30
def zA:=jO 2<|j8<|Zm (wG<|zl 0)<|zt i0 (j7<|ze 0)<|zl 1
noncomputable def jz:=jO 2<|j8<|Zm (zu zA<|zb (zl 1)<|zb (zl 0) zB)<|JR<|zU<|zT (z9<|ze 1) (.nm 0) 1 [] jE (zu zW<|zb (zl 0) zB)
noncomputable def qs:=jO 4<|zI (hI (zN<|sB<|zu jb<|zb (zl 0) zB) qh zL)<|zI (hI (qo (zN<|sB<|zu jo<|zb (zl 1) zB)<|zN<|sB<|zu jo<|zb (zl 2) zB) qh zL)<|zI (hI (qo (zN<|sB<|zu zA<|zb (zl 3)<|zb (zl 1) zB)<|zN<|sB<|JR<|zU<|zT (z9<|ze 3) (.nm 0) 1 [2] jE (zu jz<|zb (zl 1)<|zb (zl 0) zB)) qh zL)<|j8<|xQ<|zb (zl 1)<|zb (zl 2)<|zb (ja<|zU<|zT (z9<|ze 3) (.nm 0) 1 [0] jE (zu xZ<|zb (zl 1)<|zb (zl 0) zB)) zB
noncomputable def xM:List D->Option Xn:=Wh 4 (wq (o8 (zN (sB (zu jb (zb (zl 0) zB)))) (Z3 "NoPrime") t7) (hI (zN (sB (zu jb (zb (zl 0) zB)))) qh zL) (wq (o8 (qo (zN (sB (zu jo (zb (zl 1) zB)))) (zN (sB (zu jo (zb (zl 2) zB))))) (Z3 "NoTable") t7) (hI (qo (zN (sB (zu jo (zb (zl 1) zB)))) (zN (sB (zu jo (zb (zl 2) zB))))) qh zL) (o8 (qo (zN (sB (zu zA (zb (zl 3) (zb (zl 1) zB))))) (zN (sB (JR (zU (zT (z9 (ze 3)) (.nm 0) 1 [2] jE (zu jz (zb (zl 1) (zb (zl 0) zB))))))))) (Z3 "NoTable") t7)))
noncomputable def k9(f:CO (Sk×List D))(l h:CO (Option Int)):CO (List D):=λb=>(f b).bind λa=>(l b).bind λlo=>(h b).bind λd=>match a.1 with
 | .L=>aI (vB a.2 lo d)
 | .T=>bC
section
variable{X:Cx}{sc:hH}{N L:List Str}{k:Nat}{a e:f6}{es:List f6}{f:CO D}{g:CO (List D)}{pos p p2:g9}
theorem Wy(i O R:Nat){y fx nx U:Str}{py fp cpos J np pz pn Y am P:g9}{n j1 j2:Nat}{F:List D->Option Res}{G:List D->Option Xn}(cy:qU sc N L i y=cI)(ap:O≠R)(h:SX X sc N L k)(as:X.stack=X.env::X.outer/\X.env.frame=aI X.env.locals)
 (ax:qe sc "SplitError" = cI) (cn:qU sc N L O nx=cI) (cl:decide (sc.names.lookup nx=aI .local)=cI) (cv:qT sc N O nx=cI) (cz:qU sc N L R U=cI) (cf:qe sc fx=cI) (x:XS X.K X.mg)
 (hf:f9 X.prog X.w X.K X.mg X.base j1 fx n F) (hx:pa X.prog X.w X.K X.mg X.base j2 fx n G) (be:j1<=k) (bg:j2<=k) (ha:z7 X.m7 (e::es) n g)
 (he:hX (e::es) X.env=(dV,fk e X.env)::hX es X.env:=by rfl) (Z:(ow cpos<|starEach es X.env).any (·.1)=dV:=by rfl)
 (a6:t6 (.Call (.Name fx fp) (e::es) [] cpos) (aI (.Name y py)) J.line X.env=pure dV:=by rfl)
 (hs:t6 (.Name nx pn) (aI (.Name U pz)) Y.line X.env=pure dV:=by rfl) :
 m5 X (.Try [.Assign [.Name y py] (.Call (.Name fx fp) (e::es) [] cpos) J] [.ExceptHandler (aI (.Name "SplitError" np)) (aI nx) [.Assign [.Name U pz] (.Name nx pn) Y] am] [] [] P) (ez i O R F G g):=by
 intro a s E H D I ⟨m,o,p,b,j,W,B,d⟩;obtain⟨u,f,B⟩:=zc B;refine Bn ?_;cases q:G u with
 | some M=>
  rw[q]at B;cases B;refine sN<|uG (pJ (Jv hx bg h cf ha I W.rc f q he Z) (λ_ _ z=>z.elim) λev Q z=>?_) a6;exact Y5 h as x ax cn cl cv cz ap W z d hs
 | none=>
  rw[q]at B;obtain⟨r,C,B⟩:=zw B;subst B;have l:=h.l4 λ_ _=>False;have t:m5 X.m7 (.Assign [.Name y py] (.Call (.Name fx fp) (e::es) [] cpos) J) (jR i<|zu F g):=vY i<|l.set i cy (bF (X:=X.m7) hf be l cf ha he Z) a6;have A:jR i (zu F g) b=aI (.next<|b.set i<|.val<|Vj r):=by unfold jR zu;rw[f];simp only[rf];rw[C];rfl
  refine pJ (zk t a s E H D (I.l4 _) ⟨m,o,p,b,_,W,A,d⟩) (λj S z=>?_) λ_ _ z=>z.elim;have z:=z.o7;cases j with
  | next=>exact Ac z
  | ret v=>exact z
  | brk=>exact z
  | cont=>exact z
structure XI(K:pv)(mg:GJ)(c:Str):Prop where
 mem:c∈mB
 ex : ∃C,qH K c=aI C/\mg c=aI (.ref C)
theorem VG{G:GW}{P:St}{H:Hp}{s:eM}{A:i7}{E:GQ}{Q:GQ}{b:cS}{t:eF}{c:Str}{n:Option Int}{H0:Hp}{r:Bool}(I:L2.Inv X G P H s)(sub:i1 H0 H)(B:zj X.K H0 c n b)
 (R : ∀C,qH X.K c=aI C->rA X.K (.ref C) t=aI r) (h : ∀J,Q (.bool r) {s with toks:=J}):wpAny (fh X.prog X.w) A (call (.builtin "isinstance") [.ref b,t]) Q E s:=by
 obtain⟨C,a,O,g2,U,_⟩:=B.ex;obtain⟨S,_,x1,_,_⟩:=xU B.all B.mem O;obtain⟨p,_,_⟩:=(show i8 X.prog X.w H s.heap b (.ext a)from I.gv b _<|sub _ _ g2);exact pV (v9 (vK x1)<|Zr x1) I.ij (U _ p) (R C O) (λz=>nomatch z) h
theorem qM{c:Str}(h:SX X sc N L k)(Y:qe sc "isinstance" = cI)(z:X.mg "isinstance" = bC)(G:qe sc c=cI)(x:XI X.K X.mg c)(J:PV X a f)
 (hs:hX [a,.Name c p2] X.env=[(dV,fk a X.env),(dV,fk (.Name c p2) X.env)]:=by rfl):PV X (.Call (.Name "isinstance" p) [a,.Name c p2] [] pos) (Jb c f):=by
 intro i s Z H Q I ⟨l,T,d,rc,B,q⟩;obtain⟨o,t,B⟩:=zc B;obtain⟨C,x1,M⟩:=x.ex;cases o with
 | exc O n=>
  cases B;refine sd<|qP I (h.gl Y).1 z tj ?_ ⋯ ⋯;refine sj ?_ (by rw[hs];rfl) rfl;rw[hs];show wpAny _ _ (yg ((dV,fk a X.env)::ow pos [(dV,fk (.Name c p2) X.env)])) _ _ s;refine rd<|gE (J i s Z H (λv j=>∃e,Ext l H e j/\Rep X.K e (.exc O n) v) I ⟨l,T,_,rc,t,λv j e x r=>⟨e,x,r⟩⟩) λu E w=>?_;obtain⟨v,m,R,y,g,W,A⟩:=w;obtain⟨b,rfl,U⟩:=(show ∃b,v = .ref b/\zj X.K g O n b from A);cases (show u=pO b from y);show wpAny _ _ (yg ((dV,fk (.Name c p2) X.env)::[])) _ _ E;refine rd<|qv R (h.gl G).1 M ?_ (h.gl G).2.2;refine sP ?_;refine VG R W.sub U (λC2 g1=>?_) λF=>⟨.bl<|O==c,m,R.tok F,rfl,q _ m g W rfl⟩;obtain⟨S,_,_,_,P⟩:=xU U.all U.mem g1;exact P c C x.mem x1
 | _=>cases B
theorem W5:Cb "ValueError" = aI (.type "ValueError"):=by decide +kernel
theorem Wu(h:SX X sc N L k)(J:qe sc "isinstance" = cI)(z:X.mg "isinstance" = bC)(G:qe sc "ValueError" = cI)(Z:X.mg "ValueError" = bC)(P:PV X a f)
 (hs:hX [a,.Name "ValueError" p2] X.env=[(dV,fk a X.env),(dV,fk (.Name "ValueError" p2) X.env)]:=by rfl):PV X (.Call (.Name "isinstance" p) [a,.Name "ValueError" p2] [] pos) (bj f):=by
 intro i s M H Q I ⟨l,F,d,rc,B,q⟩;obtain⟨o,t,B⟩:=zc B;cases o with
 | exc W n=>
  cases B;refine sd (qP I (h.gl J).1 z tj ?_ ⋯ ⋯);refine sj ?_ (by rw[hs];rfl) rfl;rw[hs];show wpAny _ _ (yg ((dV,fk a X.env)::ow pos [(dV,fk (.Name "ValueError" p2) X.env)])) _ _ s;refine rd (gE (P i s M H (λv j=>∃e,Ext l H e j/\Rep X.K e (.exc W n) v) I ⟨l,F,_,rc,t,λv j e x r=>⟨e,x,r⟩⟩) λu C w=>?_);obtain⟨v,m,O,y,g,Y,A⟩:=w;obtain⟨b,rfl,R⟩:=(show ∃b,v = .ref b/\zj X.K g W n b from A);cases (show u=pO b from y);show wpAny _ _ (yg ((dV,fk (.Name "ValueError" p2) X.env)::[])) _ _ C;refine rd (qP O (h.gl G).1 Z W5 ?_ (h.gl G).2.1 (h.gl G).2.2);refine sP ?_;refine VG (r:=cI) O Y.sub R (λT g1=>?_) λE=>⟨.bl cI,m,O.tok E,rfl,q _ m g Y rfl⟩;obtain⟨S,_,U,_,_⟩:=xU R.all R.mem g1;unfold KH at U;simp only[pB,beq_iff_eq]at U;exact U.1.1.1.1.1.1.1.1.1.2
 | _=>cases B
structure GL(K:pv)(mg:GJ)(x:Str)(d:D):Prop where
 ex : ∃u v,mg x=aI u/\RelV v u/\∀H,Rep K H d v
theorem ZD{x:Str}{d:D}(h:SX X sc N L k)(c:qe sc x=cI)(z:GL X.K X.mg x d):PV X (.Name x pos) (zh d):=by intro b s j H Q I ⟨a,i,g,rc,B,q⟩;cases B;obtain⟨u,v,e,f,O⟩:=z.ex;exact qv I (h.gl c).1 e ⟨v,H,I,f,q v H a (Ext.refl rc.sub)<|O a⟩ (h.gl c).2.2
theorem Q2{G Z:g9}{j:Nat}(h:SX X sc N L k)(c:qe sc "isinstance" = cI)(z:X.mg "isinstance" = bC)(c2:qe sc "list" = cI)(z2:X.mg "list" = bC)(c3:qe sc "tuple" = cI)(z3:X.mg "tuple" = bC)(ha:PV X a f)
 (hs:hX [a,.Tuple [.Name "list" p2,.Name "tuple" G] j Z] X.env=[(dV,fk a X.env),(dV,fk (.Tuple [.Name "list" p2,.Name "tuple" G] j Z) X.env)]:=by rfl)
 (as:hX [.Name "list" p2,.Name "tuple" G] X.env=[(dV,fk (.Name "list" p2) X.env),(dV,fk (.Name "tuple" G) X.env)]:=by rfl) :
 PV X (.Call (.Name "isinstance" p) [a,.Tuple [.Name "list" p2,.Name "tuple" G] j Z] [] pos) (wG f):=by
 intro m s σ H Q I ⟨H0,γ,d,rc,ef,q⟩;obtain⟨d1,e1,e2⟩:=zw ef;subst e2;refine sd (qP I (h.gl c).1 z tj ?_ ⋯ ⋯);refine sj ?_ (by rw[hs];rfl) rfl;rw[hs];show wpAny _ _ (yg ((dV,fk a X.env)::ow pos [(dV,fk (.Tuple [.Name "list" p2,.Name "tuple" G] j Z) X.env)])) _ _ s;refine rd (gE (ha m s σ H (λv H'=>∃E,Ext H0 H E H'/\Rep X.K E d1 v) I ⟨H0,γ,d1,rc,e1,λv H' E x r=>⟨E,x,r⟩⟩) λu A hZ=>?_);obtain⟨x,T,I1,R,g,x1,U⟩:=hZ;show wpAny _ _ (yg ((dV,fk (.Tuple [.Name "list" p2,.Name "tuple" G] j Z) X.env)::[])) _ _ A;refine rd (F9 ?_);rw[as];show wpAny _ _ (yg ((dV,fk (.Name "list" p2) X.env)::ow Z [(dV,fk (.Name "tuple" G) X.env)])) _ _ A;refine rd (qP I1 (h.gl c2).1 z2 PyProof.Rows.boot_list ?_ (h.gl c2).2.1 (h.gl c2).2.2);show wpAny _ _ (yg ((dV,fk (.Name "tuple" G) X.env)::[])) _ _ A;refine rd (qP I1 (h.gl c3).1 z3 uO ?_ (h.gl c3).2.1 (h.gl c3).2.2);refine sP ⟨by decide,?_⟩;refine sP ?_;have B:L2.Inv X m σ T {A with heap:=A.heap.push {cls:= .type "tuple",data:= .seq #[.type "list",.type "tuple"]},toks:=A.toks}:=I1.kept λb u e=>pA _ e;have tp:(A.heap.push {cls:= .type "tuple",data:= .seq #[.type "list",.type "tuple"]}).get? A.heap.objs.size=aI ⟨.type "tuple",bC,.seq [tZ "list",.type "tuple"].toArray 0,#[]⟩:=pS _ rfl;have Y : ∀tk,EP X m σ Q (.bool (yU .list d1 || yU .tuple d1)) {A with heap:=A.heap.push {cls:= .type "tuple",data:= .seq #[.type "list",.type "tuple"]},toks:=tk}:=λtk=>⟨.bl _,T,B.tok tk,rfl,q _ T g x1 rfl⟩;have any : ∀{t:eF} {b1 b2:Bool},rA X.K t (.type "list")=aI b1->rA X.K t (.type "tuple")=aI b2->PySem.W.kitAny X.K t [.type "list",.type "tuple"]=aI (b1 || b2):=λ{t b1 b2} g1 g2=>by
  unfold PySem.W.kitAny;rw[g1];cases b1 with
  | true=>rfl
  | false=>
   dsimp only;unfold PySem.W.kitAny;rw[g2];cases b2<;>rfl
 cases d1 with
 | g8=>cases (show x = .g8 from U);cases (show u=su from R);exact sC AH B.ij sQ tp (any (qk .list .g8<|λ_ _ z=>nomatch z)<|qk .tuple .g8<|λ_ _ z=>nomatch z) (λz=>nomatch z) Y
 | bl y=>cases (show x = .bl y from U);cases (show u=Ae y from R);exact sC AI B.ij sQ tp (any (qk .list (.bl y)<|λ_ _ z=>nomatch z)<|qk .tuple (.bl y)<|λ_ _ z=>nomatch z) (λz=>nomatch z) Y
 | int i=>cases (show x = .int i from U);obtain⟨t,qq⟩:=(show ∃t,u=uL i t from R);cases qq;exact sC AV B.ij sQ tp (any (qk .list (.int i)<|λ_ _ z=>nomatch z)<|qk .tuple (.int i)<|λ_ _ z=>nomatch z) (λz=>nomatch z) Y
 | str y=>cases (show x = .str y from U);obtain⟨t,qq⟩:=(show ∃t,u=Value.str y t from R);cases qq;exact sC AU B.ij sQ tp (any (qk .list (.str y)<|λ_ _ z=>nomatch z)<|qk .tuple (.str y)<|λ_ _ z=>nomatch z) (λz=>nomatch z) Y
 | tup ds=>
  obtain⟨a,F,rfl,l,h2⟩:=kG U;cases (show u=pO a from R);obtain⟨bd,rv,⟨o,ho,hc,_⟩,hz⟩:=B.tuple<|u3 x1.sub l;exact sC Ax B.ij ⟨o,ho,hc⟩ tp (any (qk .list (.tup ds)<|λ_ _ z=>nomatch z)<|qk .tuple (.tup ds)<|λ_ _ z=>nomatch z) (λz=>nomatch z) Y
 | lst ds=>
  obtain⟨a,F,rfl,l,h2⟩:=ZL U;cases (show u=pO a from R);obtain⟨bd,rv,p,hz⟩:=B.list<|x1.sub.seq l;obtain⟨o,ho,hc,_⟩:=p.isList;exact sC uX B.ij ⟨o,ho,hc⟩ tp (any (qk .list (.lst ds)<|λ_ _ z=>nomatch z)<|qk .tuple (.lst ds)<|λ_ _ z=>nomatch z) (λz=>nomatch z) Y
 | exc c n=>
  obtain⟨b,rfl,xr⟩:=(show ∃b,x = .ref b/\zj X.K g c n b from U);cases (show u=pO b from R);obtain⟨C,φ,g1,g2,g3,_⟩:=xr.ex;obtain⟨S,_,y1,_,_⟩:=xU xr.all xr.mem g1;obtain⟨p,_,_⟩:=(show i8 X.prog X.w T _ b (.ext φ)from B.gv b _<|x1.sub _ _ g2);have a9:=y1;unfold KH at a9;simp only[pB,tM,List.all_nil,beq_iff_eq]at a9;have t:=a9.1.1.1.1.1.1.1.1.1.1;exact sC (v9 (vK y1)<|Zr y1) B.ij (g3 _ p) tp (any t.2.2.2.2.1 t.2.2.2.1) (λz=>nomatch z) Y
 | n4 M P=>
  obtain⟨a,F,rfl,⟨kk,_,_,o,l⟩,_⟩:=(show ∃a F,x = .ref a/\CZ g a M F/\eS X.K g P F from U);cases (show u=pO a from R);obtain⟨_,_,Es,_,dd⟩:=iW B.gv<|.inr ⟨o,x1.sub _ _ l⟩;exact sC tJ B.ij dd.typeIs tp (any (qk .list (.n4 M P)<|λ_ _ z=>nomatch z)<|qk .tuple (.n4 M P)<|λ_ _ z=>nomatch z) (λz=>nomatch z) Y
 | l6 M P=>
  obtain⟨a,F,rfl,⟨_,o,zs,l,h2,_⟩,_⟩:=(show ∃a F,x = .ref a/\C3 X.K g a M F/\eS X.K g P F from U);cases (show u=pO a from R);obtain⟨ho,_⟩:=(show i8 X.prog X.w T _ a (D3 a o)from B.gv a _<|x1.sub _ _ l);exact sC tJ B.ij ⟨o,ho,h2.1.1⟩ tp (any (qk .list (.l6 M P)<|λ_ _ z=>nomatch z)<|qk .tuple (.l6 M P)<|λ_ _ z=>nomatch z) (λz=>nomatch z) Y
 | ins c p t=>
  obtain⟨a,C,dx,vp,vt,rfl,l,h2,_,_⟩:=(show ∃a C dx vp vt,x = .ref a/\Cu X.K c=aI C/\g a=aI (.ins C dx<|Dd vp vt)/\Rep X.K g p vp/\Rep X.K g t vt from U);cases (show u=pO a from R);have ty:=VN (kr l)<|x1.sub _ _ h2;cases ty with
  | ins ea cl ha hn EL hm=>
   obtain⟨mA,O,_⟩:=XM B.gv ea;obtain⟨od,J,_⟩:=O.look;exact sC (PySem.W.kitx_own (cl.get _) cl.hd ha hn EL hm) B.ij J tp (any (ZO (c:=c) (p:=p) (t:=t) (kr l) .list)<|ZO (c:=c) (p:=p) (t:=t) (kr l) .tuple) (λz=>nomatch z) Y
theorem q8{lo J:Option f6}{G:CO (Sk×List D)}{O R:CO (Option Int)}(P:PQ X a G)(W:L2.PO X lo (tB X.K O))(Y:L2.PO X J (tB X.K R)):PO X (.Subscript a (.Slice lo J bC p2) pos) (k9 G O R):=
 jK (Jm We P W Y) λE H Q n=>by
  obtain⟨f,e,A,rc,z,q⟩:=n;obtain⟨⟨o,es⟩,i,z⟩:=zc z;obtain⟨l,j,z⟩:=zc z;obtain⟨u,k,z⟩:=zc z;cases o with
  | T=>cases z
  | L=>
   cases z;refine⟨f,e,.L,es,rc,i,λb s t d x m C r=>⟨d,e,l,rc.ext x,j,λw g B=>⟨g,e,u,(rc.ext x).ext B,k,λy h x3=>?_⟩⟩⟩;have U:=x.trans<|B.trans x3;refine⟨b,s,rfl,(B.trans x3).s1.seq m,λp I=>?_⟩;exact q p _ _ h (U.trans<|Ext.hide x3.sub I _) (kj U.s1 I) (jg x3.sub I) zq<|Jd (r.mono (B.trans x3).s0) _ _
end
section
variable{K:pv}{mg:GJ}{h:fy}
theorem Jo{c:Str}{C:cS}(z:K.In h)(G:h.Ns n6 mg)(e:qH K c=aI C):mg c=aI (.ref C):=by
 unfold qH at e;split at e
 ·rename_i B q
  cases e;exact ud z G q
 ·cases e
noncomputable def Fg(K:pv):Bool:=match qH K "SplitError" with
 | some S=>sJ K (.ref S)==aI (.type "type") && rl K S (.type "BaseException")==aI cI && (sy K S).isSome && rl K S (.ref S)==aI cI
 | none=>dV
noncomputable def Fe(K:pv)(c:Str):Bool:=match qH K c with
 | some C=>gi K C
 | none=>dV
theorem nE(z:K.In h)(G:h.Ns n6 mg)(e:Fg K=cI):XS K mg:=by
 unfold Fg at e;split at e
 ·rename_i S q
  simp only[pB,beq_iff_eq]at e;exact⟨S,q,Jo z G q,e.1.1.1,e.1.1.2,e.1.2,e.2⟩
 ·cases e
theorem nF{c:Str}(z:K.In h)(G:h.Ns n6 mg)(e:yf K=cI)(B:c∈mB):XI K mg c:=by
 unfold yf at e;split at e
 ·have a:=rz.mp e c B
  split at a
  ·rename_i C q
   exact⟨B,C,q,Jo z G q⟩
  ·cases a
 ·cases e
theorem nH{c:Str}(z:K.In h)(G:h.Ns n6 mg)(e:yf K=cI)(B:c∈mB)(b:Fe K c=cI):XC K mg c:=by
 unfold Fe at b;split at b
 ·rename_i C q
  exact⟨e,B,C,q,Jo z G q,b⟩
 ·cases b
theorem mI{x:Str}{n:Int}{t:Tok}(z:K.In h)(G:h.Ns n6 mg)(a:sY K n6 x=aI (aI (.int n t))):GL K mg x (.int n):=
 ⟨_,.int n,ud z G a,⟨t,rfl⟩,λ_=>(show V.int n = .int n from rfl)⟩
noncomputable def ZN:List eF->Option (List Int)
 | []=>aI []
 | .int i _::r=>(ZN r).map λl=>i::l
 | _::_=>bC
theorem kZ : ∀{B:List eF} {ns:List Int},ZN B=aI ns->hA (ns.map V.int) B
 | [],ns,e=>by cases e;exact .nil
 | u::B,ns,e=>by
  cases u with
  | int i t=>
   obtain⟨l,a,z⟩:=zw e;subst z;exact .cons ⟨t,rfl⟩<|kZ a
  | _=>cases e
theorem kU{H:Hp} : ∀ns:List Int,eS K H (ns.map D.int) (ns.map V.int)
 | []=>eS.nil
 | n::ns=>eS.cons (show V.int n = .int n from rfl)<|kU ns
theorem iQ{x:Str}{ad:cS}{B:Array eF}{m:Nat}{J:Array (Option eF)}(ns:List Int)(I:K.In h)(G:h.Ns n6 mg)(a:sY K n6 x=aI (aI (.ref ad)))
 (l:K.lookup ad=aI ⟨.type "tuple",bC,.seq B m,J⟩) (v:ZN B.toList=aI ns) (z:B.size<=i6):GL K mg x (.tup (ns.map D.int)):=
 ⟨_,.ref ad,ud I G a,rfl,λH=>(show ∃b d,V.ref ad = .ref b/\i4 K H b d/\eS K H (ns.map D.int) d from⟨ad,ns.map V.int,rfl,.inr ⟨_,B,m,l,rfl,rfl,z,kZ v⟩,kU ns⟩)⟩
end
theorem qJ(h:z7 X es n g):BN X es g:=h.1
section
variable{K:pv}{E0 E H0 H:Hp}{σ:St}{γ:Ctx}
theorem eS.dropLast : ∀{G:List D} {xs:List V},eS K H G xs->eS K H G.dropLast xs.dropLast
 | [],xs,r=>by rw[r.Bt];exact eS.nil
 | [d],xs,r=>by obtain⟨x,B,e,_,z⟩:=r.u9;rw[e,z.Bt];exact eS.nil
 | d::d2::G,xs,r=>by obtain⟨x,B,e,I,z⟩:=r.u9;obtain⟨R,U,O,_,_⟩:=z.u9;subst e O;exact eS.cons I<|eS.dropLast z
end
section
variable{X:Cx}{sc:hH}{N L:List Str}{k:Nat}{a b e:f6}{pos p p2:g9}{f g:CO D}
theorem JZ{c:f6}{G:CO D}(J:PV X a G){I:CO (Sk×List D)}(R:PQ X c I)(P:B8 .NotIn c=dV:=by with_unfolding_all rfl):oI X (.Compare a [.NotIn] [c] pos) (sB<|vS G I):=
 J0 (ZE kY J R P) λM H Q U=>by
  obtain⟨j,h,d,rc,z,q⟩:=U;obtain⟨C,W,Y⟩:=zc z;obtain⟨x,n,z⟩:=zc W;obtain⟨⟨g,m⟩,o,z⟩:=zc z;obtain⟨i,s,z⟩:=zc z;obtain⟨l,t,rfl⟩:=zw z;cases Y;refine⟨j,h,x,rc,n,λO A b x1 B=>⟨b,h,g,m,rc.ext x1,o,λp F e k y f E r=>?_⟩⟩;rw[jQ s]at B;have u:=ko r t;subst u;have w:i2 X.K e p (l.map V.int)\/i4 X.K e p (l.map V.int):=by
   cases g with
   | L=>exact .inl f
   | T=>exact .inr f
  refine⟨p,_,rfl,w,by rw[show O = .int i from B];rfl,yL l,?_⟩;rw[show O = .int i from B,ZP];exact⟨_,rfl,q e k<|x1.trans y⟩
theorem dA{P:iv}{w:h8}{K:pv}{O:GJ}{base:fy}{x:Str}{st:h9}{f:cS}{J:sx}{N G:List Str}{k:Nat}{F:CO Fl}(z:L2.A9 K x x st f J)(W:vh N G st=cI)
 (B : ∀X:Cx,X.prog=P->X.w=w->X.K=K->X.mg=O->X.base=base->SX X (zE st) N N k->X.xe=(λ_ _=>False)->(X.stack=X.env::X.outer/\X.env.frame=aI X.env.locals)->Kt X (js st) F) :
 u5 P w K O base u4 (k+1) f J G (A4 K G.length<|jO N.length F):=by
 have S:=xG W;exact dz z S λa A outer s H E I=>B _ rfl rfl rfl rfl rfl ⟨rfl,rfl,S.nd,rfl,I,λ_ _=> .inl rfl⟩ rfl ⟨rfl,rfl⟩
end
end DL
namespace L2
open PySem PySem.Spec PyProof.Rows
theorem YU{X:Cx}{G:GW}{σ:St}{H:Hp}{s:eM}{E:GQ}{z it:cS}{i J:Nat}{x:eF}{v:V}{g:fy}{L:List f6}{x1:Nat}{P:g9}{Q:Unit->eM->Prop}
 (I:Inv X G σ H s) (Z : ∀b ∈ [z,it],Zp X G H b) (U:z<s.heap.objs.size) (hi:it<s.heap.objs.size) (W:IsEnumOut g z it ((i:Int)+1) x s.heap.objs.size)
 (Y:tF g s.heap.objs.size (.int i J) x) (a5 : ∀b o,b≠z->b≠it->s.heap.get? b=aI o->g.get? b=aI o) (rx:RelV v x)
 (a4 : ∀g2,IsEnum g2 z it ((i+1:Nat):Int) x->uA z g g2->Inv X G σ (upd H s.heap.objs.size<|.tup [.int i,v]) {s with heap:=g2,toks:=J+1}->H s.heap.objs.size=bC->
   (∀b ∈ [z,it],upd H s.heap.objs.size (.tup [.int i,v]) b=bC)->Q () {s with heap:=g2,toks:=J+1}) :
 wpAny (fh X.prog X.w) X.A (Df (.Tuple L x1 P) (.ref z)<|.ref s.heap.objs.size) Q E {s with heap:=g,toks:=J+1}:=by
 refine wpAny_letOwnedTupleGo_enum W λg2 Ct R=>?_;have a:tF g2 s.heap.objs.size (.int i J) x:=R.extBut _ _ (uh U) Y;have f : ∀B u,B ∉ [z,it]->s.heap.get? B=aI u->g2.get? B=aI u:=λB u O e=>by simp only[pM,rp,or_false,not_or]at O;exact R.extBut _ _ O.1<|a5 B u O.1 O.2 e
 refine a4 g2 (by have:=Ct;rwa [show((i:Int)+1)=((i+1:Nat):Int)by omega]at this) R (I.E7 (fp:=[z,it]) f Z (pN _) ⟨by show 2<=i6;decide,[.int i J,x],.cons ⟨_,rfl⟩<|.cons rx .nil,⟨_,a,rfl,_,rfl⟩⟩) I.fresh λB O=>?_;have d:B≠s.heap.objs.size:=by
  simp only[pM,rp,or_false]at O;rcases O with rfl | rfl
  ·exact pP U
  ·exact pP hi
 rw[zo d];exact(Z B O).1
noncomputable def lZ(K:pv)(a:cS):It:=
 ⟨λi H=>∃b,i2 K H a b/\i<b.length,
  λi H x d=>∃p u,x = .ref p/\H p=bC/\d=upd H p (.tup [.int i,u])/\(∀b,i2 K H a b->b[i]? = aI u),
  λi H=>∃b,i2 K H a b/\b.length=i⟩
theorem JM{P:iv}{w:h8}{K:pv}{elts:List f6}{x1:Nat}{Cz:g9}{z it a:cS}(a9:z≠it) :
 Turn P w K (.Tuple elts x1 Cz) (lZ K a) [z,it] z (λi h=>(∃R,IsEnum h z it i R)/\h.IsListIter it a i) where
 mem:=by simp
 obj:=λi h ⟨⟨R,B⟩,h1⟩ y hy=>by
  simp only[pM,rp,or_false]at hy;rcases hy with rfl | rfl
  ·exact⟨_,B,λv q=>by cases q⟩
  ·obtain⟨o,e,c,d⟩:=h1
   exact⟨o,e,λv q=>by rw[d]at q;cases q⟩
 keep:=λi h h' ⟨⟨R,B⟩,h1⟩ k=>⟨⟨R,k z ⋯ _ B⟩,h1.at λo e=>k it ⋯ o e⟩
 item:=by
  rintro X rfl rfl rfl hc i pins s σ H E I hf ⟨⟨R,B⟩,h1⟩ ⟨xs,Y,ax⟩;obtain⟨a6,a7,p1,z1⟩:=I.list Y;have U:=p1.isList;have hx:xs[i]? = aI xs[i]:=pC ax;have l1:=a7.length;have ac:a≠it:=λe=>by obtain⟨o,e1,O,_⟩:=U;obtain⟨o2,W,c2,_⟩:=h1;rw[e,W]at e1;cases e1;rw[c2]at O;exact absurd O ⋯
  have bb:z≠a:=λe=>by obtain⟨o,e1,O,_⟩:=U;have ap:s.heap.get? z=aI _:=B;rw[e,e1]at ap;cases ap;exact absurd O ⋯
  have bd:it<s.heap.objs.size:=by obtain⟨o2,W,_⟩:=h1;exact pE W
  have Dr:=Draws.list (prog:=X.prog) (w:=X.w) (A:=X.A.in1) (show X.A.in1.handled=bC from I.ok.hd hc) it a ac a6.toArray;refine wpAny_pyNext_enum_itemD Dr B ⟨h1,U⟩ (by simp;omega) a9 (by simp;exact⟨a9,bb⟩) λx g tk hP a1 a2 a3 a4 a5=>⟨_,rfl,?_⟩;obtain⟨u1,bv,c0⟩:=a7.get hx;obtain rfl:u1=x:=by have:=hP;simp[bv]at this;exact this
  refine YU I hf (pE B) bd a1 a3 a5 c0 λg2 b1 b2 I1 c4 hn=>⟨.ref s.heap.objs.size,_,I1,rfl,⟨_,_,rfl,c4,rfl,λc9 c5=>by rw[I.Eg c5 Y];exact hx⟩,⟨⟨_,b1⟩,a2.1.at λo e=>b2.extBut _ _ a9.symm e⟩,hn⟩
 done:=by
  rintro X rfl rfl rfl hc i pins s σ H E I hf ⟨⟨R,B⟩,h1⟩ ⟨xs,Y,hi⟩;obtain⟨a6,a7,p1,z1⟩:=I.list Y;have U:=p1.isList;have l1:=a7.length;have ac:a≠it:=λe=>by obtain⟨o,e1,O,_⟩:=U;obtain⟨o2,W,c2,_⟩:=h1;rw[e,W]at e1;cases e1;rw[c2]at O;exact absurd O ⋯
  have Dr:=Draws.list (prog:=X.prog) (w:=X.w) (A:=X.A.in1) (show X.A.in1.handled=bC from I.ok.hd hc) it a ac a6.toArray;have en:a6.toArray.size=i:=by simp;omega
  rw[en]at Dr;refine wpAny_pyNext_enum_endD Dr B ⟨h1,U⟩ λg hk=>⟨rfl,?_⟩;refine I.E8 (t':=s.toks) (fp:=[z,it]) (λb' u hb e=>?_) hf;simp only[pM,rp,or_false,not_or]at hb;exact hk b' u hb.2 e
 self:=λ_ _ _ _ _ st h=>wY st.1.choose_spec h
noncomputable def dq(K:pv)(z:TA):TI:=λf H R=>z f H λd b=>∃a,d=[.ref a]/\(∃e,i2 K b a e)/\R (lZ K a) b
section
variable{X:Cx}{e1:f6}{ta:TA}{p pos:g9}{elts:List f6}{x1:Nat}{Cz:g9}
theorem Yx(O:Gl X "enumerate")(J:X.mg "enumerate" = bC)(G:PA X [e1] ta)
 (U:Cb "enumerate" = aI (.type "enumerate")) (hs:hX [e1] X.env=[(dV,fk e1 X.env)]:=by rfl) :
 PI X (.Tuple elts x1 Cz) (.Call (.Name "enumerate" p) [e1] [] pos) (dq X.K ta):=by
 intro b s m H R I h;refine Call_<|qP I O J U<|tu (gE (G pos b s m H _ I h) λr d W=>?_) (by rw[hs];rfl) rfl;obtain⟨t,f,z,Y,l⟩:=W;obtain⟨a,rfl,⟨w,i⟩,q⟩:=l;obtain⟨u,rfl,j⟩:=vM Y;cases j;obtain⟨n,o,k,x⟩:=z.list i;refine call_enumerate_list k.isList λg b1 b2 b3 b4=>wY (s:={d with heap:=g}) b1 ?_;refine⟨_,[d.heap.objs.size+1,d.heap.objs.size],_,_,f,rfl,z.kept (t':=d.toks) b4,JM<|uh<|uJ _,⟨⟨_,b1⟩,b2⟩,λc e=>?_,q⟩;have B:d.heap.objs.size<=c:=by
  simp only[pM,rp,or_false]at e;rcases e with rfl | rfl
  ·exact sI _ _
  ·exact pN _
 exact z.DH B<|z.gv.fresh B
end
end L2
namespace DL
open PySem PySem.Spec PyProof.Rows L2
theorem JJ{K:pv}{H0 H:Hp}{a:cS}{xs:List V}{G:List D}(h:i2 K H a xs)(r:eS K H0 G xs):Walk K H0 H (lZ K a) (yM G):=by
 have O:=r.length;have R:(yM G).length=G.length:=by simp[yM]
 refine⟨λi b s k=>?_,λb s=>?_,λi b x g s k y=>?_⟩
 ·exact⟨xs,s.seq h,by omega⟩
 ·exact⟨xs,s.seq h,by omega⟩
 ·obtain⟨p,u,rfl,z,rfl,B⟩:=y
  obtain⟨d,j,I⟩:=r.DI<|B xs<|s.seq h;refine⟨.tup [.int i,d],?_,λf l e=>⟨upd f p<|.tup [.int i,u],Ext.alloc e z _,?_⟩⟩
  ·unfold yM
   rw[rm,List.getElem?_range ⋯,Option.map_some,j];rfl
  ·exact qt (i4.of zq)<|eS.cons (show V.int i = .int i from rfl)<|eS.cons ((I.mono l).mono (zY (jg e z) _)) eS.nil
theorem wA : ∀l:List Str,(l.map V.str).all vf=cI
 | []=>rfl
 | i::l=>by simp only[rM,tM,wA l,Bool.and_true];rfl
section
variable{X:Cx}{sc:hH}{N L:List Str}{k:Nat}{a b e:f6}{pos p p2:g9}{f fa fb:CO D}
theorem Xb(h:SX X sc N L k)(c:qe sc "enumerate" = cI)(z:X.mg "enumerate" = bC)(G:PV X a f)(hs:hX [a] X.env=[(dV,fk a X.env)]:=by rfl) :
 u7 X (.Tuple elts x1 Cz) (.Call (.Name "enumerate" p) [a] [] pos) (yw f):=
 Xd (Yx (h.gl c).1 z (jH G qB hs) boot_enumerate hs) λn H R O=>by
  obtain⟨g,j,l,rc,B,q⟩:=O;obtain⟨d,U,B⟩:=zc B;cases d with
  | lst m=>
   cases B;refine⟨g,j,_,rc,U,λv e b x r=>?_⟩;obtain⟨W,i,rfl,I,g2⟩:=ZL r;exact⟨W,rfl,⟨i,x.sub.seq I⟩,q _ e b x<|JJ I g2⟩
  | _=>cases B
end
section
variable{K:pv}{mg:GJ}{h:fy}
noncomputable def Zu:List eF->Option (List Str)
 | []=>aI []
 | .str i _::r=>(Zu r).map λl=>i::l
 | _::_=>bC
theorem kR : ∀{B:List eF} {ns:List Str},Zu B=aI ns->hA (ns.map V.str) B
 | [],ns,e=>by cases e;exact .nil
 | u::B,ns,e=>by
  cases u with
  | str i t=>
   obtain⟨l,a,z⟩:=zw e;subst z;exact .cons ⟨t,rfl⟩<|kR a
  | _=>cases e
theorem kT{H:Hp} : ∀ns:List Str,eS K H (ns.map D.str) (ns.map V.str)
 | []=>eS.nil
 | n::ns=>eS.cons (show V.str n = .str n from rfl)<|kT ns
theorem iP{x:Str}{ad:cS}{B:Array eF}{m:Nat}{J:Array (Option eF)}(ns:List Str)(I:K.In h)(G:h.Ns n6 mg)(a:sY K n6 x=aI (aI (.ref ad)))
 (l:K.lookup ad=aI ⟨.type "tuple",bC,.seq B m,J⟩) (v:Zu B.toList=aI ns) (z:B.size<=i6):GL K mg x (.tup (ns.map D.str)):=
 ⟨_,.ref ad,ud I G a,rfl,λH=>(show ∃b d,V.ref ad = .ref b/\i4 K H b d/\eS K H (ns.map D.str) d from⟨ad,ns.map V.str,rfl,.inr ⟨_,B,m,l,rfl,rfl,z,kR v⟩,kT ns⟩)⟩
end
end DL
namespace DL
open PySem PySem.Spec PyProof.Rows L2
open PySem.W (KasT kas_sort kas_ask kat_run kat_snds kat_lt kat_cons kat_no kat_yes kat_nil kat_go kat_one kat_kind KatTups KatGo)
section
variable{X:Cx}{a b c:f6}{pos:g9}{fa fb fc:CO D}
theorem Q5{O R:CmpOp}{r W:R2}{F G:D->D->Option D}(ho:jn X (o9 O) r)(J:jn X (o9 R) W)(s1:ov X.K r F)(s2:ov X.K W G)(ha:PV X a fa)(hb:PV X b fb)(hc:PV X c fc)
 (hm:Ed [O,R] [b,c]=dV:=by with_unfolding_all rfl):oI X (.Compare a [O,R] [b,c] pos) (sB<|qL F G fa fb fc):=
 J0 (Yo ho J ha hb hc hm) λσ H Q hZ=>by
  obtain⟨i,h,kq,rc,w,q0⟩:=hZ;obtain⟨d,B,Z⟩:=zc w;have q : ∀v f e,Ext i H e f->Rep X.K e d v->∃k,v = .bl k/\Q k f:=λv f e x Y=>by rw[kB Z]at Y;exact⟨kq,Y,q0 f e x⟩
  obtain⟨x,L,B⟩:=zc B;obtain⟨y,M,B⟩:=zc B;obtain⟨k,N,B⟩:=zc B;obtain⟨l,P,m⟩:=zc N;refine⟨i,h,x,rc,L,λv1 H1 g x1 r1=>⟨g,h,y,rc.ext x1,M,λo p A I n=>s1 A p v1 o x y l _ I.sub (r1.mono I.s0) n P λv3 s j x3 r3=>?_⟩⟩;cases l with
  | bl k'=>
   cases m;refine⟨k,show v3 = .bl k from r3,?_⟩;cases k with
   | true=>
    rw[GY rfl];rw[GY rfl]at B;obtain⟨z,S,T⟩:=zc B;exact⟨j,h,z,((rc.ext x1).ext I).ext x3,S,λv4 t C U r4=>s2 C t o v4 y z d _ U.sub ((n.mono x3.s0).mono U.s0) r4 T λv5 u E x5 r5=>q v5 u E (((x1.trans I).trans x3).trans (U.trans x5)) r5⟩
   | false=>
    rw[MQ ⋯];rw[MQ ⋯]at B;cases B;exact q _ s j ((x1.trans I).trans x3) rfl
  | _=>cases m
end
end DL
namespace DL
open PySem PySem.Spec PyProof.Rows L2
theorem Zs{H:Hp}{x:cS}{o z:HO}:upd (upd H x o) x z=upd H x z:=by
 funext b;by_cases h:b=x
 ·subst h;rw[zq,zq]
 ·rw[zo h,zo h,zo h]
noncomputable def WZ:h9->List h9
 | .ClassDef _ _ _ b _ _ _ _ _ _ _=>b
 | _=>[]
def dm(st:h9)(j:Nat):h9:=(WZ st).getD j (.Pass ⟨0,0,0,0⟩)
def ub(C e:cS):fy->Prop:=λh=>∃a,h.get? e=aI (vg C bC a)
noncomputable def o6(C e d:cS):fy->Prop:=λh=>∃a,h.get? e=aI (vg C (aI d) a)
theorem Jl{P:iv}{w:h8}{H:Hp}{h:fy}{C e a0:cS}(q:h.get? e=aI (vg C bC a0)):i8 P w H h e (.ext<|ub C e):=
 ⟨⟨a0,q⟩,⟨_,q⟩,λb d z k=>by obtain⟨a,z⟩:=z;exact⟨a,k _ z⟩⟩
theorem bO{P:iv}{w:h8}{H:Hp}{h:fy}{C e d a0:cS}(q:h.get? e=aI (vg C (aI d) a0)):i8 P w H h e (.ext<|o6 C e d):=
 ⟨⟨a0,q⟩,⟨_,q⟩,λb f z k=>by obtain⟨a,z⟩:=z;exact⟨a,k _ z⟩⟩
section
variable{X:Cx}{pins:GW}{σ:St}{H:Hp}{s:eM}{h':fy}
theorem cQ{a:cS}{o:HO}{t':Nat}(I:Inv X pins σ H s)(k : ∀b u,s.heap.get? b=aI u->h'.get? b=aI u)(G:s.heap.get? a=bC)(new:i8 X.prog X.w (upd H a o) h' a o):H a=bC/\Inv X pins σ (upd H a o) {s with heap:=h',toks:=t'}:=by
 have d:H a=bC:=by
  cases q:H a with
  | none=>rfl
  | some u=>obtain⟨O,e⟩:=j4<|I.gv a u q;rw[G]at e;cases e
 have f : ∀b u,s.heap.get? b=aI u->b≠a:=λb u e z=>by rw[z,G]at e;cases e
 refine⟨d,I.un ⟨λb u e n _ _=>k b u e,λb u e n _ _=>⟨u.slots,k b u e⟩,λb u e n _=>by rw[zo (f b u e)];exact n,λb u e _=>⟨u,k b u e⟩,λb g e=>?_,λb O u e=>?_,λb h e=>⟨#[],?_⟩⟩ λb u e=>?_⟩
 ·rw[zo (zD e d)];exact e
 ·rw[zo (zD e d)];exact e
 ·rw[zo (zD e d),e];simp
 ·by_cases B:b=a
  ·subst B;rw[zq]at e;cases e;exact new
  ·rw[zo B]at e
   exact(I.gv b u e).t5 (λc v _ q=>k c v q) (λc q=>by rw[zo (zD q d)];exact q) λc g q=>by rw[zo (zD q d)];exact q
end
noncomputable def VV(K:pv)(C:cS):Option cS:=match K.lookup C with
 | some o=>if (o.cls==tZ "type" && o.slots.size==6 && (o.slots.toList.drop 4).take 1 == [aI (Value.builtin "ValueError.__new__")])=cI then (match av o with
  | some a=>if (a.mro.take 1 == [pO C] && !a.hasDel && uR K t8 (a.mro.drop 1) && uS K a.ns)=cI then aI a.ns else bC
  | none=>bC)else bC
 | none=>bC
theorem JG{K:pv}{C N:cS}(e:VV K C=aI N) : ∃nm q bs bm hdct sn sub ab col dd k0 k1 k2 k3 k5,K.lookup C=aI (excClassObj nm q C N bs bm hdct sn sub ab col dd k0 k1 k2 k3 k5 "ValueError.__new__")/\uR K t8 bm=cI/\uS K N=cI:=by
 unfold VV at e;cases ho:K.lookup C with
 | none=>rw[ho]at e;cases e
 | some o=>
  rw[ho]at e;obtain⟨m,dd,B,d⟩:=o;dsimp only at e;by_cases z:(m==tZ "type" && d.size==6 && (d.toList.drop 4).take 1 == [aI (Value.builtin "ValueError.__new__")])=cI
  ·rw[GY z]at e
   simp only[pB,beq_iff_eq]at z;obtain⟨⟨U,W⟩,Y⟩:=z;subst U;obtain⟨k0,k1,k2,k3,k5,h⟩:=Vg (by simpa using W) Y;cases hd:av ⟨.type "type",dd,B,d⟩with
   | none=>rw[hd]at e;cases e
   | some a=>
    rw[hd]at e;dsimp only at e;have i:B = .cls a:=by
     unfold av at hd;cases B with
     | cls p=>cases hd;rfl
     | _=>cases hd
    subst i;by_cases f:(a.mro.take 1 == [pO C] && !a.hasDel && uR K t8 (a.mro.drop 1) && uS K a.ns)=cI
    ·rw[GY f]at e
     cases e;simp only[pB,beq_iff_eq,sA]at f;obtain⟨⟨⟨O,R⟩,I⟩,b⟩:=f;obtain⟨nm,bs,mro,s,n,j,sn,sub,ab,col,r⟩:=a;dsimp only at O R I b;subst R;have k:d = #[k0,k1,k2,k3,aI (.builtin "ValueError.__new__"),k5]:=by obtain⟨l⟩:=d;simp only at h;rw[h]
     subst k;have g:=Vw O;generalize mro.drop 1=bm at g I;subst g;exact⟨nm,n,bs,bm,j,sn,sub,ab,col,dd,k0,k1,k2,k3,k5,rfl,I,b⟩
    ·rw[MQ f]at e;cases e
  ·rw[MQ z]at e;cases e
section
variable{X:Cx}{pins:GW}{σ:St}{H:Hp}{s:eM}{h':fy}
theorem me{x d C a0:cS}{att:Str}{i:Int}{u:eF}{t':Nat}(I:Inv X pins σ H s)(hx:H x=aI (.ext<|ub C x))(J:s.heap.get? d=bC)(G:h'.get? x=aI (vg C (aI d) a0))(L:h'.Ns1 d (λy=>if y=att then aI u else bC))(R:RelV (.int i) u)
 (k : ∀b o,b≠x->s.heap.get? b=aI o->h'.get? b=aI o):H d=bC/\d≠x/\Inv X pins σ (upd (upd H x<|.ext<|o6 C x d) d<|.xd [(att,.int i)]) {s with heap:=h',toks:=t'}:=by
 have g:H d=bC:=by
  cases q:H d with
  | none=>rfl
  | some o=>obtain⟨U,e⟩:=j4<|I.gv d o q;rw[J]at e;cases e
 have W:d≠x:=λq=>by rw[q,hx]at g;cases g
 have l : ∀b o,s.heap.get? b=aI o->b≠d:=λb o e z=>by rw[z,J]at e;cases e
 have h : ∀b,H b=bC->b≠x:=λb e z=>by rw[z,hx]at e;cases e
 have off : ∀b,b≠x->b≠d->upd (upd H x<|.ext<|o6 C x d) d (.xd [(att,.int i)]) b=H b:=λb p Y=>by rw[zo Y,zo p]
 have mt : ∀b o,H b=aI o->(∀a,o ≠ .ext a)->upd (upd H x<|.ext<|o6 C x d) d (.xd [(att,.int i)]) b=aI o:=λb o e z=>by rw[off b (λq=>by rw[q,hx]at e;cases e;exact z _ rfl) (λq=>by rw[q,g]at e;cases e),e]
 refine⟨g,W,I.un ⟨λb o e n _ _=>k b o (h b n) e,λb o e n _ _=>⟨o.slots,k b o (h b n) e⟩,λb o e n _=>?_,λb o e _=>?_,λb m e=>mt b _ e<|λa z=>(nomatch z),λb U t e=>mt b _ e<|λa z=>(nomatch z),λb r e=>⟨#[],?_⟩⟩ λb o e=>?_⟩
 ·rw[off b (h b n) (l b o e)];exact n
 ·by_cases B:b=x
  ·exact⟨_,(congrArg h'.get? B).trans G⟩
  ·exact⟨o,k b o B e⟩
 ·rw[mt b _ e (λa z=>nomatch z)];simp
 ·by_cases B:b=d
  ·rw[B]at e ⊢
   rw[zq]at e;cases e;refine⟨_,L,λf=>?_⟩;by_cases q:f=att
   ·subst q
    rw[GY rfl];simp[Dw];exact R
   ·rw[MQ q]
    have:([(att,V.int i)]:List (Str×V)).lookup f=bC:=by simp[Dw,beq_eq_false_iff_ne.mpr q]
    rw[this];trivial
  ·rw[zo B]at e
   by_cases O:b=x
   ·rw[O]at e ⊢
    rw[zq]at e;cases e;exact bO G
   ·rw[zo O]at e
    refine(I.gv b o e).t5 (λc v j q=>k c v ?_ q) (λc q=>mt c _ q<|λa z=>nomatch z) λc m q=>mt c _ q<|λa z=>nomatch z;rcases j with z | z
    ·rw[z];exact O
    ·rintro rfl
     rw[hx]at z;cases z
end
structure XA(K:pv)(mg:GJ)(C:cS)(att:Str):Prop where
 ex : ∃S N cd,mg "SplitError" = aI (.ref S)/\VV K C=aI N/\sy K C=aI cd/\cd.mro = .ref C :: .ref S::t8/\cd.hasDict=cI/\
  rB K (.ref C) "__setattr__" = aI (aI (.builtin "object.__setattr__"))/\rl K C (.type "object")=aI cI/\rB K (.ref C) att=aI bC/\
  uo K (.ref S) "__getattribute__" = aI (aI (.builtin "type.__getattribute__"))/\PySem.W.readsIn K S (.type "type")=cI/\
  Ak K (.ref S) (.type "type") "__init__" = aI (.val (.builtin "ValueError.__init__"))
noncomputable def vk(C:cS):TS:=λD a H=>∃e i,a[0]? = aI (aI (V.ref e))/\a[1]? = aI (aI (V.int i))/\inR i=cI/\H e=aI (.ext<|ub C e)/\D.nx a H
noncomputable def JN(C:cS)(att:Str):TS:=λD a H=>∃e i,a[0]? = aI (aI (V.ref e))/\a[1]? = aI (aI (V.int i))/\H e=aI (.ext<|ub C e)/\
 ∀d,H d=bC->d≠e->D.nx a (upd (upd H e<|.ext<|o6 C e d) d<|.xd [(att,.int i)])
section
variable{X:Cx}{sc:hH}{N L:List Str}{k:Nat}{C:cS}{att x0 x1:Str}{p0 p1 p2 p3 p4 p5 p6 p7 p8 pos pos':g9}
theorem WB(h:SX X sc N L k)(A:XA X.K X.mg C att)(U:qT sc N 0 x0=cI)(W:qT sc N 1 x1=cI)(hs:t6 (.Name x1 p1) (aI (.Attribute (.Name x0 p0) att pos')) pos.line X.env=pure dV:=by rfl) :
 PS X (.Assign [.Attribute (.Name x0 p0) att pos'] (.Name x1 p1) pos) (JN C att):=by
 intro a s f H D I Y;obtain⟨e,i,P,Q,B,q⟩:=Y;obtain⟨S,Nn,cd,a1,a2,n,o,p,r,t,x,_⟩:=A.ex;refine Bl (gE (h.var W a s f H (λv b=>v = .int i/\b=H) I ⟨_,Q,rfl,rfl⟩) λu y j=>gE (h.var U a y f H (λv b=>v = .ref e/\b=H) (by obtain⟨v,b,O,R,rfl,rfl⟩:=j;exact O) ⟨_,P,rfl,rfl⟩) λJ T z2=>?_) hs;obtain⟨v1,b,O,R,rfl,rfl⟩:=j;obtain⟨v2,l,z,M,rfl,rfl⟩:=z2;cases (show J=pO e from M);obtain⟨G,g,dr,tk,os⟩:=T;obtain⟨⟨a0,E⟩,_,_⟩:=(show i8 X.prog X.w l G e (.ext<|ub C e)from z.gv e _ B);refine ma (S:=S) z.ij E r t n o p x λh' d F Z y2 y3 y4=>?_;obtain⟨b1,b2,m⟩:=me (t':=F) (att:=att) (i:=i) z B Z (a0:=a0) y2 y3 R y4;exact⟨f,_,m,q d b1 b2⟩
theorem Yr{B O:Str}{U R:Nat}(h:SX X sc N L k)(A:XA X.K X.mg C att)(G:qe sc "SplitError" = cI)(c0:qT sc N 0 x0=cI)(c1:qT sc N 1 x1=cI)(l1:B.length<=1000)(l2:O.length<=1000)
 (hs:t6 (.Call (.Attribute (.Name "SplitError" p0) "__init__" p1) [.Name x0 p2,.JoinedStr [.Constant (.str B) U p3,.FormattedValue (.Name x1 p4) (-1) bC p5,.Constant (.str O) R p6] p7] [] p8) bC pos.line X.env=pure dV:=by rfl)
 (Z:(p1.endLine==p8.line)=cI:=by rfl) :
 PS X (.Expr (.Call (.Attribute (.Name "SplitError" p0) "__init__" p1) [.Name x0 p2,.JoinedStr [.Constant (.str B) U p3,.FormattedValue (.Name x1 p4) (-1) bC p5,.Constant (.str O) R p6] p7] [] p8) pos) (vk C):=by
 intro a s m H D I hZ;obtain⟨e,i,s0,s1,E,l,q⟩:=hZ;obtain⟨S,Nn,cd,P,Q,a3,a4,a5,a6,a7,a8,T,bv,c2⟩:=A.ex;refine wpAny_Expr_any ?_ I.quiet hs;rw[arm_eval_Call];refine pw (qv I (h.gl G).1 P ?_ (h.gl G).2.2);refine pw (sk ?_);have c3:methodCallPos cI (.Name "SplitError" p0) X.env p1 p8=pure p8:=by unfold methodCallPos;simp[Z]
 unfold methodCall;refine pw<|rk<|PySem.W.method_cls I.ij T<|PySem.W.cls_value I.ij bv c2 ⋯ ?_;refine pw<|uE c3 ?_;refine Ao rfl<|uD ?_;show wpAny _ _ (yg ((dV,fk (.Name x0 p2) X.env)::ow p8 [(dV,fk (.JoinedStr [.Constant (.str B) U p3,.FormattedValue (.Name x1 p4) (-1) bC p5,.Constant (.str O) R p6] p7) X.env)])) _ _ _;refine rd<|gE (h.var c0 a _ m H (λv d=>v = .ref e/\d=H) (I.tok _) ⟨_,s0,rfl,rfl⟩) λu0 s2 z2=>?_;obtain⟨v2,n,M,r2,rfl,rfl⟩:=z2;cases (show u0=pO e from r2);show wpAny _ _ (yg ((dV,fk (.JoinedStr [.Constant (.str B) U p3,.FormattedValue (.Name x1 p4) (-1) bC p5,.Constant (.str O) R p6] p7) X.env)::[])) _ _ s2;have d1:=tx;have t:i.natAbs.log2<1920:=by
  have h1:i.natAbs<2 ^ 62:=by unfold inR at E;exact of_decide_eq_true E
  by_cases z:i.natAbs=0
  ·rw[z];decide
  ·have:=(Nat.log2_lt z).mpr h1
   omega
 refine rd<|JoinedStr_many<|uK<|uj ?_;dsimp only;refine⟨by rw[se];show 0+_<=_;omega,?_⟩;refine uK<|FormattedValue_plain<|gE (h.var c1 a _ m n (λv d=>v = .int i/\d=n) (M.tok _) ⟨_,s1,rfl,rfl⟩) λu1 s3 z3=>?_;obtain⟨v3,Y,f,r3,rfl,rfl⟩:=z3;obtain⟨F,rfl⟩:=(show ∃F,u1=uL i F from r3);refine formatField_int_small t ?_;dsimp only;have d3:(ug<|toString i).length<=1921:=by have e:=int_text_length_le (k:=1920) ⋯ t;rw[PySem.ofString_length];exact e
 have j:(Str.empty++B).length=B.length:=by rw[se];show 0+_=_;omega
 refine⟨by rw[se,j,tx];omega,?_⟩;show wpAny _ _ (joinParts _ [fk (.Constant (.str O) R p6) X.env]) _ _ _;refine uK<|uj ?_;dsimp only;refine⟨by rw[se,se,j,tx];omega,?_⟩;refine joinParts_nil ?_ (by rw[se,se,j,tx];omega);refine sP ?_;obtain⟨nm,qn,bs,bm,y,sn,sub,ab,col,dd,k0,k1,k2,k3,k5,ho,ht,gv⟩:=JG Q;obtain⟨hp,g,dr,ch,os⟩:=s3;have r:=f.ij;obtain⟨⟨a0,ci⟩,_,_⟩:=(show i8 X.prog X.w Y hp e (.ext<|ub C e)from f.gv e _ l);refine aD (sU r ht) (r _ _ ho) ci λh' d5 J y2=>?_;have p:=f.write (x:=e) (e:=e) (o:= .ext (ub C e)) (t':=ch+1+1+1+1) (by rw[l];exact sQ) (.inl rfl) (λb u hb q=>y2 b u hb q) ⟨_,J⟩<|Jl J;have e4:upd Y e (.ext<|ub C e)=Y:=by
  funext b;by_cases z:b=e
  ·rw[z,zq,l]
  ·rw[zo z]
 rw[e4]at p;exact⟨m,Y,p.tok _,q⟩
end
noncomputable def kH(C:cS)(att:Str):Sp:=λa H Q _=>∃e i,a=[.ref e,.int i]/\inR i=cI/\H e=aI (.ext<|ub C e)/\∀d,H d=bC->d≠e->Q .g8 (upd (upd H e<|.ext<|o6 C e d) d<|.xd [(att,.int i)])
theorem YR{P:iv}{w:h8}{K:pv}{J:GJ}{base:fy}{q x1:Str}{st:h9}{f C:cS}{G:sx}{att:Str}{k:Nat}(B:L2.A9 K "__init__" q st f G)(L:vh ["self",x1] ["self",x1] st=cI)
 (I : ∀X:Cx,X.prog=P->X.w=w->X.K=K->X.mg=J->X.base=base->SX X (zE st) ["self",x1] ["self",x1] k->q7 X (js st) (aP (vk C) (JN C att))) :
 u5 P w K J base u4 (k+1) f G ["self",x1] (kH C att):=by
 have S:=xG L;refine B.ok S (λg H Q E h=>by obtain⟨e,i,rfl,_⟩:=h;rfl) λb A a s H g Q E O R=>⟨_,I _ rfl rfl rfl rfl rfl ⟨rfl,rfl,S.nd,rfl,O,λ_ _=> .inl rfl⟩,?_⟩;obtain⟨e,i,rfl,d,z,q⟩:=R;exact⟨e,i,rfl,rfl,d,z,e,i,rfl,rfl,z,q⟩
structure XJ(P:iv)(w:h8)(K:pv)(mg:GJ)(base:fy)(k:Nat)(c:Str):Prop where
 all:yf K=cI
 mem:c∈mB
 ex : ∃C N fI fd ps,qH K c=aI C/\mg c=aI (.ref C)/\VV K C=aI N/\rB K (.ref C) "__init__" = aI (aI (.ref fI))/\sv K (.ref C)=cI/\sJ K (.ref fI)=aI (.type "function")/\
  u5 P w K mg base u4 k fI fd ps (kH C<|kF c)/\Binds K fd ps []
noncomputable def md(K:pv)(att:Str):Bool:=mB.all λc=> !(kF c==att) || match qH K c with
 | some C=>(sy K C).any (λa=>a.hasDict) && rB K (.ref C) att==aI bC
 | none=>dV
section
variable{X:Cx}{a:f6}{f:CO D}{att:Str}{pos:g9}
theorem Q3(x:md X.K att=cI)(ha:PV X a f)(hb:D4 a att X.env (fk a X.env)=fk a X.env:=by rfl):PV X (.Attribute a att pos) (eL att f):=by
 intro k s σ H Q I hZ;obtain⟨F,γ,d,rc,B,q⟩:=hZ;obtain⟨d1,e1,B⟩:=zc B;cases d1 with
 | exc c n=>
  cases n with
  | none=>cases B
  | some i=>
   have B:(if (kF c==att)=cI then aI (D.int i)else bC)=aI d:=B;by_cases m:(kF c==att)=cI
   ·rw[GY m]at B
    cases B;refine W6 hb (gE (ha k s σ H (λv E=>∃e,Ext F H e E/\Rep X.K e (.exc c (aI i)) v) I ⟨F,γ,_,rc,e1,λv E e O r=>⟨e,O,r⟩⟩) λu A z=>?_);obtain⟨v,l,U,r1,j,O,rr⟩:=z;obtain⟨b,rfl,Y⟩:=(show ∃b,v = .ref b/\zj X.K j c (aI i) b from rr);cases (show u=pO b from r1);obtain⟨C,φ,g1,g2,g3,M,g4,g5⟩:=Y.ex;obtain⟨S,_,y1,_,_⟩:=xU Y.all Y.mem g1;have y:=rz.mp x c Y.mem;rw[m,g1]at y;simp only[Bool.not_true,Bool.false_or,pB,beq_iff_eq]at y;obtain⟨w1,w2⟩:=y;obtain⟨cd,w3,w4⟩:=PySem.W.any_some w1;obtain⟨p,_,_⟩:=(show i8 X.prog X.w l A.heap b (.ext φ)from U.gv b _ (O.sub _ _ g2));obtain⟨o,P,N⟩:=g4 _ p;obtain⟨o',vs,G,J,L⟩:=g3 _ p;rw[P]at G;cases G;obtain⟨T,Z,bg⟩:=(show i8 X.prog X.w l A.heap M (.xd _)from U.gv M _ (O.sub _ _ g5));have ea:kF c=att:=beq_iff_eq.mp m;have R:=bg att;have lk:([(if c==("NoRoom" : Str)then ("room" : Str)else "at",V.int i)]:List (Str×V)).lookup att=aI (.int i):=by rw[<- ea];unfold kF;simp[Dw]
    rw[lk]at R;obtain⟨h,hm⟩ : ∃h,T att=aI (.int i h):=by
     cases hz:T att with
     | none=>rw[hz]at R;exact rR R
     | some uu=>rw[hz]at R;obtain⟨h,rfl⟩:=(show ∃h,uu=uL i h from R);exact⟨h,rfl⟩
    obtain⟨oc,od,bn,Cy⟩:=o;dsimp only at N J L;subst N J L;obtain⟨hp,g,dr,t,os⟩:=A;exact nI U.ij (vK y1) P Z hm w3 w4 w2 λt'=>⟨.int i,l,U.tok t',⟨h,rfl⟩,q _ l j O rfl⟩
   ·rw[MQ m]at B;cases B
 | _=>cases B
end
noncomputable def XO(K:pv)(S:cS):Bool:=match Ak K (.ref S) (.type "type") "__init__" with
 | some (.val (.builtin b))=>b == "ValueError.__init__"
 | _=>dV
noncomputable def Fd(K:pv)(C S:cS)(att:Str):Bool:=(VV K C).isSome && sv K (.ref C) && (sy K C).any (λa=>a.mro == .ref C :: .ref S::t8 && a.hasDict) &&
 rB K (.ref C) "__setattr__" == aI (aI (.builtin "object.__setattr__")) && rl K C (.type "object")==aI cI && rB K (.ref C) att==aI bC &&
 uo K (.ref S) "__getattribute__" == aI (aI (.builtin "type.__getattribute__")) && PySem.W.readsIn K S (.type "type") && XO K S
theorem XN{K:pv}{S:cS}(b:XO K S=cI):Ak K (.ref S) (.type "type") "__init__" = aI (.val (.builtin "ValueError.__init__")):=by
 unfold XO at b;cases q:Ak K (.ref S) (.type "type") "__init__" with
 | none=>rw[q]at b;cases b
 | some r=>
  rw[q]at b;cases r with
  | get _ _ _ _=>cases b
  | val v=>
   cases v with
   | builtin n=>rw[beq_iff_eq.mp b]
   | _=>cases b
structure CG(K:pv)(mg:GJ)(c q x1:Str)(st:h9)(att:Str):Prop where
 all:yf K=cI
 mem:c∈mB
 ex : ∃C N fI fd,qH K c=aI C/\mg c=aI (.ref C)/\VV K C=aI N/\rB K (.ref C) "__init__" = aI (aI (.ref fI))/\sv K (.ref C)=cI/\sJ K (.ref fI)=aI (.type "function")/\
  XA K mg C att/\L2.A9 K "__init__" q st fI fd/\Binds K fd ["self",x1] []
theorem gh{K:pv}{Z:GJ}{h:fy}{c q x1 att:Str}{st:h9}{C S H:cS}{R:eF}{U Y:Option cS}{lI:Array (Option eF)}{kI dI pI z tI:eF}(B:K.In h)(G:h.Ns n6 Z)(e:yf K=cI)(hm:c∈mB)
 (nC:sY K n6 c=aI (aI (.ref C))) (nS:sY K n6 "SplitError" = aI (aI (.ref S))) (iC:rB K (.ref C) "__init__" = aI (aI (.ref H)))
 (uI:K.lookup H=aI ⟨R,U,.func (sZ "__init__" q (xw st) (js st) (zE st) .none kI dI pI Y z tI),lI⟩) (vI:uT K z q=cI) (w1:sv K (.ref H)=cI) (z1:PySem.W.isFn K (.ref H)=cI) (b:Fd K C S att=cI)
 (gI : ∀(kV L pm:eF) (an:Option cS) (J ct:eF) (P:List eF),P.length=2->bindArgs (sZ "__init__" q (xw st) (js st) (zE st) .none kV L pm an J ct) ⟨P,[]⟩=pure ((["self",x1]:List Str).zip P)):CG K Z c q x1 st att:=by
 have I:=VO uI vI w1;unfold Fd at b;simp only[pB,beq_iff_eq]at b;obtain⟨⟨⟨⟨⟨⟨⟨⟨b1,b2⟩,b3⟩,b4⟩,b5⟩,b6⟩,b7⟩,b8⟩,b9⟩:=b;obtain⟨N,O⟩:=rN.mp b1;obtain⟨f,d,a⟩:=PySem.W.any_some b3;simp only[pB,beq_iff_eq]at a;have g:qH K c=aI C:=by unfold qH;rw[nC]
 exact⟨e,hm,C,N,H,_,g,ud B G nC,O,iC,b2,beq_iff_eq.mp z1,⟨S,N,f,ud B G nS,O,d,a.1,a.2,b4,b5,b6,b7,b8,XN b9⟩,I,I.binds gI⟩
theorem gg{P:iv}{w:h8}{K:pv}{G:GJ}{base:fy}{c q x1 att:Str}{st:h9}{k:Nat}(A:CG K G c q x1 st att)(J:vh ["self",x1] ["self",x1] st=cI)(H:kF c=att)
 (z : ∀C,XA K G C att->∀X:Cx,X.prog=P->X.w=w->X.K=K->X.mg=G->X.base=base->SX X (zE st) ["self",x1] ["self",x1] k->q7 X (js st) (aP (vk C) (JN C att))):XJ P w K G base (k+1) c:=by
 subst H;obtain⟨C,N,a,b,B,I,O,R,U,W,Y,d,e⟩:=A.ex;exact⟨A.all,A.mem,C,N,a,b,_,B,I,O,R,U,W,YR d J<|z C Y,e⟩
section
variable{M:Model}{A:i7}{E:GQ}{env:i3}
variable{nm q:Str}{C N:cS}{bs bm:List eF}{hdct:Bool}{sn:List Str}{sub:List eF}{ab:Bool}{col:Option Bool}{dd:Option cS}{k0 k1 k2 k3 k5:Option eF}{newId:String}
theorem JT{s:eM}{x:Sem eF}{Q:Flow->eM->Prop}(O:bm.contains (.type "BaseException")=cI)(R:A.handled=bC)
 (h:wpAny M A x (λv z=>∃e t d,v = .ref e/\z.heap.get? C=aI (excClassObj nm q C N bs bm hdct sn sub ab col dd k0 k1 k2 k3 k5 newId)/\
   z.heap.get? e=aI (vg C (aI d) t)/\E (.ref e) z) E s) :
 wpAny M A (raiseStmt env (aI x) bC) Q E s:=by
 have U:(pO C::bm).contains (.type "BaseException")=cI:=by rw[List.contains_cons,O,Bool.or_true]
 unfold raiseStmt;refine pw<|pJ h (λv z W=>?_) λ_ _ x=>x;obtain⟨e,t,d,rfl,B,I,Y⟩:=W;obtain⟨b,g,a,f,os⟩:=z;unfold vg at I
 repeat (first | with_reducible refine sh I ?_ | with_reducible refine sh B ?_ | (with_reducible refine Bb B ?_;rw[U]) | wp_step)
 exact wpAny_raiseNew_none R Y
end
section
variable{X:Cx}{sc:hH}{N L:List Str}{k j:Nat}{a:f6}{f:CO D}{c:Str}{np pos cpos:g9}{pins:GW}{σ:St}{H H0:Hp}{s:eM}{γ:Ctx}{i:Int}
theorem X0(h:SX X sc N L k)(P:qe sc c=cI)(x:XJ X.prog X.w X.K X.mg X.base j c)(hj:j+1<=k)(ha:PV X a f)(I:Inv X pins σ H s)(rc:RC X.K H0 H σ γ)(e1:f γ=aI (.int i))(hi:inR i=cI)(Z:hX [a] X.env=[(dV,fk a X.env)]:=by rfl) :
 wpAny (fh X.prog X.w) X.A (fk (.Call (.Name c np) [a] [] pos) X.env) (λu s'=>∃e d C G J,u = .ref e/\Inv X pins σ (upd (upd G e<|.ext<|o6 C e d) d<|.xd [(kF c,.int i)]) s'/\Ext H0 H J G/\G e=bC/\G d=bC/\d≠e/\qH X.K c=aI C/\(X.ex=[]->X.hF.heap.get? e=bC)) X.xe s:=by
 obtain⟨C,Nn,n,fd,ps,x1,x2,x3,x4,x5,B,y,hb⟩:=x.ex;obtain⟨nm,qn,bs,bm,F,sn,sub,ab,col,dd,k0,k1,k2,k3,k5,ho,ht,gv⟩:=JG x3;refine sd<|qv I (h.gl P).1 x2 ?_ (h.gl P).2.2;have ax:PA X [a] _:=jH ha qB Z;refine uN (h₀:=X.base) I.ok.mod.BW x5 (gE (ax pos pins s σ H (λp G=>p=[.int i]/\∃J,Ext H0 H J G) I ⟨H0,γ,.int i,rc,e1,λv T l t rr=>⟨by rw[show v = .int i from rr],l,t⟩⟩) λus s1 M=>⟨?_,?_⟩) (by rw[Z];rfl) rfl
 ·obtain⟨p,G,O,_⟩:=M;exact O.ij
 obtain⟨p,G,O,rv,ev,J,t⟩:=M;subst ev;obtain⟨u,rfl,ru⟩:=vM rv;have b:=O.ij;obtain⟨R,be,bg⟩ : ∃R,X.K.lookup n=aI R/\R.cls = .type "function":=by
  have B:(X.K.lookup n).map (·.cls)=aI (.type "function"):=B;cases z:X.K.lookup n with
  | none=>rw[z]at B;cases B
  | some R=>rw[z]at B;exact⟨R,rfl,pX B⟩
 obtain⟨hp,g,dr,tk,os⟩:=s1;refine aE (sU b ht) (b _ _ ho) (PySem.W.looks_findIn b x4) (b _ _ be) bg (by show 1<=i6;decide) λh' e a0 S y2 y3=>?_;obtain⟨hn,m⟩:=cQ (o:= .ext (ub C e)) (t':=tk) O y3 S<|Jl y2;have bv:X.ex=[]->X.hF.heap.get? e=bC:=λc0=>by
  cases q:X.hF.heap.get? e with
  | none=>rfl
  | some o=>
   obtain⟨o',z⟩:=O.base.there e o q (by rw[c0];simp);rw[show hp.get? e=bC from S]at z;cases z
 have Q:kH C (kF c) [.ref e,.int i] (upd G e<|.ext<|ub C e) (λv H2=>v = .g8/\∃d,G d=bC/\d≠e/\H2=upd (upd G e<|.ext<|o6 C e d) d (.xd [(kF c,.int i)])) (λ_ _ _=>False):=by
  refine⟨e,i,rfl,hi,zq,λd E Y=>⟨rfl,d,?_,Y,?_⟩⟩
  ·rw[zo Y]at E;exact E
  ·rw[Zs]
 have hl:[pO e,u].length=ps.length:=(y.len _ _ _ _ Q).symm ▸ rfl;refine uF<|uq (y.run _ X.stack _ _ ⟨[.ref e,u],[]⟩ [.ref e,u] [.ref e,.int i] _ _ ((h.room.mono hj).make C [u] []) (m.DG.make C [u] []) (by simpa using hb _ [.ref e,u] m.ij (by simpa using hl)) (.cons rfl<|.cons ru .nil) Q) λr s' U=>?_;cases r with
 | error ee=>exact rR U
 | ok fl=>
  cases fl with
  | ret uu=>
   obtain⟨v,T,I3,c4,ev,d,c5,Y,rfl⟩:=m.after U;subst ev;exact⟨c4,⟨e,d,C,G,J,rfl,I3,t,hn,c5,Y,x1,bv⟩⟩
  | next=>exact rR U
  | brk=>exact rR U
  | cont=>exact rR U
theorem QX(h:SX X.m7 sc N L k)(hc:qe sc c=cI)(x:XJ X.prog X.w X.K X.mg X.base j c)(hj:j+1<=k)(Z:PV X.m7 a f)
 (hs:hX [a] X.env=[(dV,fk a X.env)]:=by rfl):Px X (.Raise (aI (.Call (.Name c np) [a] [] cpos)) bC pos) (VX c f):=λpins s σ H F0 F1 H0 γ cc I U e w=>by
 obtain⟨i,W,e⟩:=zc e;obtain⟨d0,t,W⟩:=zc W;rw[jQ W]at t;by_cases n:inR i=cI
 ·rw[GY n]at e
  cases e;have S:X.A.handled=bC:=I.ok.hd (show X.calm=cI from h.calm);obtain⟨C,M,fI,fd,ps,x1,x2,x3,x4,x5,x6,FO,hb⟩:=x.ex;obtain⟨nm,qn,bs,bm,hdct,sn,sub,ab,col,dd,k0,k1,k2,k3,k5,ho,ht,gv⟩:=JG x3;have T0 : ∀{g:fy},X.K.In g->OwnTail g t8 bm:=λY=>sU Y ht;have FB:=sT;rw[arm_exec_Raise];refine pw (sk ?_);show wpAny _ _ (raiseStmt X.env (aI (do let v <- fk (.Call (.Name c np) [a] [] cpos) X.env;CT pos;pure v)) bC) _ _ _;refine JT (C:=C) (nm:=nm) (q:=qn) (N:=M) (bs:=bs) (bm:=bm) (hdct:=hdct) (sn:=sn) (sub:=sub) (ab:=ab) (col:=col) (dd:=dd) (k0:=k0) (k1:=k1) (k2:=k2) (k3:=k3) (k5:=k5) (newId:="ValueError.__new__") ((T0 I.ij).hasType FB.hasBase) S ?_;refine pw (pJ (X0 (X:=X.m7) h hc x hj Z (I.l4 _) U.rc t n hs) (λu E z=>pw (sk (pD ?_))) λ_ _ z=>z.elim);obtain⟨e,d,F,l,J,rfl,B,O,T,m,r,R,P⟩:=z;have R:qH X.K c=aI F:=R;rw[x1]at R;cases R;have B:=B.o7;have y:upd (upd l e (.ext (o6 C e d))) d (.xd [(kF c,.int i)]) e=aI (.ext (o6 C e d)):=by rw[zo (rH r),zq]
  obtain⟨⟨p,g1⟩,_,_⟩:=(show i8 X.prog X.w _ E.heap e (.ext<|o6 C e d)from B.gv e _ y);refine⟨e,p,d,rfl,B.ij _ _ ho,g1,?_⟩;have Q:(λb=>if b=e then bC else upd (upd l e<|.ext<|o6 C e d) d (.xd [(kF c,.int i)]) b)=upd l d (.xd [(kF c,.int i)]):=by
   funext b;by_cases q:b=e
   ·rw[GY q,q,zo<|rH r,T]
   ·rw[MQ q]
    by_cases o:b=d
    ·rw[o,zq,zq]
    ·rw[zo o,zo q,zo o]
  have G:=U.ext.trans<|(O.trans<|Ext.hide O.sub m<|.xd [(kF c,.int i)]).show (kj O.s1 m) (jg O.sub m) zq U.rc.sub;exact w.2.2 pins σ _ _ E e C d p (o6 C e d) B y g1 P (by rw[Q];exact G) x.all x.mem x1 ⟨d,rfl,zq⟩
 ·rw[MQ n]at e;cases e
end
noncomputable def eE(f:CO D)(γ:Ctx):Option (List D):=((f γ).bind m9).bind λn=>if inR n=cI/\n.toNat<=lim then aI (qY 0 n.toNat)else bC
@[simp] def aw:=@eE.eq_1
end DL
namespace L2
open PySem PySem.Spec PyProof.Rows
theorem vj : ∀{B:List Int} {z:List eF},hA (B.map V.int) z->∀(i:Nat) (v:eF),z[i]? = aI v->∃k t,B[i]? = aI k/\v = .int k t
 | [],_,.nil,i,v,h=>by cases h
 | k::B,_,.cons h r,0,v,hv=>by obtain⟨t,e⟩:=h;cases hv;exact⟨k,t,rfl,e⟩
 | k::B,_,.cons h r,i+1,v,hv=>vj r i v hv
end L2
namespace DL
open PySem L2
noncomputable def gf(z B fs:List D):List D:=(z.zip<|B.zip fs).map λp=>D.tup [p.1,p.2.1,p.2.2]
noncomputable def nR(f g h:CO D)(γ:Ctx):Option (List D):=((f γ).bind qg).bind λm=>((g γ).bind qg).bind λn=>((h γ).bind qg).map λo=>gf m.2 n.2 o.2
@[simp] def lu:=@nR.eq_1
open PySem.Spec PyProof.Rows
section
variable{X:Cx}{sc:hH}{N L:List Str}{k j n:Nat}{e:f6}{es:List f6}{g:CO (List D)}{G:List D->Option Xn}{x:Str}{p pos:g9}
theorem Wp{spos pos':g9}{y:Str}(P:pa X.prog X.w X.K X.mg X.base j x n G)(O:j<=k)(h:SX X.m7 sc N L k)(c:qe sc x=cI)(J:z7 X.m7 (e::es) n g)
 (R:hX (e::es) X.env=(dV,fk e X.env)::hX es X.env:=by rfl) (U:(ow pos<|starEach es X.env).any (·.1)=dV:=by rfl)
 (hs:t6 (.Call (.Name x p) (e::es) [] pos) (aI (.Name y pos')) spos.line X.env=pure dV:=by rfl) :
 Px X (.Assign [.Name y pos'] (.Call (.Name x p) (e::es) [] pos) spos) (vL G g):=λa s r H t u A F C I B W w=>by
 obtain⟨E,l,Y⟩:=zc W;refine uG (pJ (Jv P O (⟨h.xg,h.eN,h.nd,h.calm,h.room,h.fn⟩:SX X sc N L k) c J I B.rc l Y R U) (λ_ _ z=>z.elim) λev m z=>?_) hs;obtain⟨d,b,o,f,x1,i⟩:=z;exact w.2.1 a r d b o ev m f (B.ext.trans x1) i
end
noncomputable def ml(f g:CO D)(γ:Ctx):Option (List D):=((f γ).bind qg).bind λm=>((g γ).bind qg).bind λn=>if m.2.length<=lim then aI (Ve m.2 n.2)else bC
@[simp] def fP:=@ml.eq_1
noncomputable def Qr:List D->Option (List D×List D)
 | []=>aI ([],[])
 | d::r=>match d with
  | .tup a=>match a with
   | [k,v]=>(Qr r).map λp=>(k::p.1,v::p.2)
   | _=>bC
  | _=>bC
noncomputable def mr(f:CO (List D))(γ:Ctx):Option D:=(f γ).bind λa=>(Qr a).bind λp=>iX p.1 p.2
@[simp] def fT:=@mr.eq_1
def iJ:D->Option (List Int)
 | .tup a=>XG a
 | _=>bC
noncomputable def cU:List D->Option (List<|List Int)
 | []=>aI []
 | d::ds=>(iJ d).bind λk=>(cU ds).map λr=>k::r
noncomputable def mq(f:CO (List D))(γ:Ctx):Option D:=(f γ).bind λb=>(Qr b).bind λp=>(cU p.1).bind λa=>if a.Nodup/\a.length<=lim then aI (.l6 a p.2)else bC
noncomputable def iS:List (List Int)->List D->List Int->Option D
 | k::ks,v::vs,i=>if k=i then aI v else iS ks vs i
 | _,_,_=>bC
noncomputable def oo(B z:CO D)(γ:Ctx):Option D:=(B γ).bind λd=>(z γ).bind λk=>match d with
 | .l6 a b=>(iJ k).bind λi=>iS a b i
 | _=>bC
noncomputable def iR(d k x:D):Option D:=match d with
 | .l6 a b=>(iJ k).map λi=>(iS a b i).getD x
 | _=>bC
noncomputable def og(B z fx:CO D)(γ:Ctx):Option D:=(B γ).bind λd=>(z γ).bind λk=>(fx γ).bind λx=>iR d k x
noncomputable def nW(f:CO D)(γ:Ctx):Option (List D):=(f γ).bind λd=>match d with
 | .l6 a _=>aI (a.map λk=> .tup (k.map .int))
 | _=>bC
section
variable(γ:Ctx)
@[simp] def fS:=@mq.eq_1
@[simp] def lR:=@oo.eq_1
@[simp] def lN:=@og.eq_1
@[simp] def lK:=@nW.eq_1
end
noncomputable def mJ:List (List Int)->List Int->List Int->Option Int
 | k::ks,n::ns,i=>if k=i then aI n else mJ ks ns i
 | _,_,_=>bC
noncomputable def eqT(G:List (List Int))(ns:List Int)(z:List (List Int))(B:List Int):Bool:=decide (G.length=z.length) && (G.zip ns).all λx=>decide<|mJ z B x.1=aI x.2
noncomputable def mO(d e:D):Option Bool:=match d with
 | .l6 b g=>match e with
  | .l6 z a=>(XG g).bind λf=>(XG a).map λB=>eqT b f z B
  | _=>bC
 | _=>bC
@[simp] def pq(d e:D):Option D:=(mO d e).map D.bl
@[simp] def pk(d e:D):Option D:=(mO d e).map λb=>D.bl<|!b
noncomputable def nV(f:CO D)(γ:Ctx):Option D:=(f γ).bind λd=>match d with
 | .l6 a _=>aI (.int a.length)
 | _=>bC
@[simp] def lH:=@nV.eq_1
abbrev TT:=List (List (List Int))
inductive Pl where
 | out | tab (k:Nat) | row (k m:Nat)
deriving DecidableEq
noncomputable def eV(Z:TT):Pl->Prop
 | .out=>True
 | .tab k=>k<Z.length
 | .row k m=>k<Z.length/\m<(Z.getD k []).length
noncomputable def dJ(Z:TT)(ad:Pl->cS):Pl->List V
 | .out=>(pK Z.length).map λk=>V.ref<|ad<|.tab k
 | .tab k=>(pK (Z.getD k []).length).map λm=>V.ref<|ad<|.row k m
 | .row k m=>((Z.getD k []).getD m []).map V.int
structure N3(H:Hp)(Z:TT)(ad:Pl->cS):Prop where
 cont : ∀pl,eV Z pl->H (ad pl)=aI (.lst<|dJ Z ad pl)
 inj : ∀pl Ek,eV Z pl->eV Z Ek->ad pl=ad Ek->pl=Ek
section
variable{K:pv}{al:List (Nat×Pl)}{E0 E H0 H q5 H':Hp}{σ Et:St}{γ γ':Ctx}{Z:TT}{ad:Pl->cS}
open Classical in
end
open Classical in
section
variable{H:Hp}{Z:TT}{ad:Pl->cS}
end
noncomputable def oS(K:pv)(E0 E:Hp)(Q:VK)(d:D)(Z:TT):Prop:=∀t v ad b a,Ext E0 E a b->Rep K a d v->b t=aI (.tup [v,.ref (ad .out)])->N3 b Z ad->(∀e,eV Z e->a (ad e)=bC/\E (ad e)=bC)->Q (.ref t) b
noncomputable def FY(K:pv)(n:Nat)(F:List D->Option (D×TT)):Sp:=λd H Q _=>∃a b r,i1 a H/\eS K a b d/\b.length=n/\F b=aI r/\oS K a H Q r.1 r.2
section
variable{X:Cx}{sc:hH}{N L:List Str}{k j n i:Nat}{a b c e:f6}{es:List f6}{f:CO D}{g:CO (List D)}{p pos:g9}{x:Str}{st Gp Gq:h9}{rest:List h9}{F:List D->Option Res}
open Classical in
def BY(H:Hp)(p:cS):Hp:=λc=>if c=p then bC else H c
theorem DJ{H:Hp}{p c:cS}(h:c≠p):BY H p c=H c:=MQ h
end
mutual
def Ej:D->Bool
 | .tup a=>Dh a
 | .lst a=>Dh a
 | .exc _ _=>dV
 | .n4 _ _=>dV
 | .l6 _ _=>dV
 | .ins _ _ _=>dV
 | _=>cI
def Dh:List D->Bool
 | []=>cI
 | x::xs=>Ej x && Dh xs
end
mutual
theorem Rep.less{K:pv}{H:Hp}{p:cS}{G:fy->Prop}(B:H p=aI (.ext G)) : ∀{d:D} {v:V},Ej d=cI->Rep K H d v->Rep K (BY H p) d v
 | .g8,_,_,h=>h
 | .bl _,_,_,h=>h
 | .int _,_,_,h=>h
 | .str _,_,_,h=>h
 | .tup ds,v,n,h=>by
  obtain⟨a,b,f,g,i⟩:=(show ∃a b,v = .ref a/\i4 K H a b/\eS K H ds b from h);refine(show ∃a b,v = .ref a/\i4 K (BY H p) a b/\eS K (BY H p) ds b from⟨a,b,f,?_,eS.less B n i⟩);have z : ∀{u:HO},(∀G,u ≠ .ext G)->H a=aI u->a≠p:=λI q e=>by rw[e,B]at q;exact I _ (pX q).symm
  rcases g with(hq | ⟨o',hq⟩) | hq
  ·exact .inl (.inl<|by rw[DJ (z (λ_=>by simp) hq)];exact hq)
  ·exact .inl<|.inr ⟨o',by rw[DJ (z (λ_=>by simp) hq)];exact hq⟩
  ·exact .inr hq
 | .lst ds,v,n,h=>by
  obtain⟨a,b,f,g,i⟩:=(show ∃a b,v = .ref a/\i2 K H a b/\eS K H ds b from h);refine(show ∃a b,v = .ref a/\i2 K (BY H p) a b/\eS K (BY H p) ds b from⟨a,b,f,?_,eS.less B n i⟩);have z : ∀{u:HO},(∀G,u ≠ .ext G)->H a=aI u->a≠p:=λI q e=>by rw[e,B]at q;exact I _ (pX q).symm
  rcases g with(hq | ⟨o',hq⟩) | hq
  ·exact .inl (.inl<|by rw[DJ (z (λ_=>by simp) hq)];exact hq)
  ·exact .inl<|.inr ⟨o',by rw[DJ (z (λ_=>by simp) hq)];exact hq⟩
  ·exact .inr hq
 | .exc _ _,_,n,_=>nomatch n
 | .n4 _ _,_,n,_=>nomatch n
 | .l6 _ _,_,n,_=>nomatch n
 | .ins _ _ _,_,n,_=>nomatch n
theorem eS.less{K:pv}{H:Hp}{p:cS}{G:fy->Prop}(z:H p=aI (.ext G)) : ∀{B:List D} {xs:List V},Dh B=cI->eS K H B xs->eS K (BY H p) B xs
 | [],_,_,h=>h
 | d::B,xs,n,h=>by obtain⟨x,r,a,b,e⟩:=(show ∃x r,xs=x::r/\Rep K H d x/\eS K H B r from h);have n:(Ej d && Dh B)=cI:=n;rw[pB]at n;exact(show ∃x r,xs=x::r/\Rep K (BY H p) d x/\eS K (BY H p) B r from⟨x,r,a,Rep.less z n.1 b,eS.less z n.2 e⟩)
end
structure SW(X:Cx)(sc:hH)(N T:List Str)(k:Nat):Prop where
 xg:X.env.scope=sc
 eN:X.N=N
 nd:N.Nodup
 dp:X.A.depth+3*k+5<recursionLimit
 un:X.A.units+16*k+200<cLine
 fn : ∀x∈T,X.fn x=cI\/sc.names.lookup x=aI .local
structure C7(k:Nat)(A:i7):Prop where
 dp:A.depth+3*k+5<recursionLimit
 un:A.units+16*k+200<cLine
section
variable{X:Cx}{sc:hH}{N T:List Str}{k:Nat}{i:Nat}{x:Str}{pos:g9}
theorem SW.var(h:SW X sc N T k)(c:qT sc N i x=cI):PE X (.Name x pos) (KP i):=by
 unfold qT at c;simp only[pB,rC,decide_eq_true_eq,sA]at c;obtain⟨⟨⟨a,h2⟩,z⟩,B⟩:=c;refine Xf (by rw[h.eN];exact a) ?_ z B;unfold CF;rw[h.xg];rcases h2 with(h2 | h2) | h2
 ·exact .inl h2
 ·exact .inr<|.inl h2
 ·exact .inr<|.inr h2
theorem SW.gl(h:SW X sc N T k)(c:qe sc x=cI):Gl X x/\x ≠ "__name__"/\(x==("__debug__" : Str))=dV:=by
 unfold qe at c;simp only[pB,decide_eq_true_eq,sA]at c;refine⟨?_,?_,c.2⟩
 ·show X.env.scope.names.lookup x=_
  rw[h.xg];exact c.1.1
 ·intro e;rw[e]at c;simp at c
end
noncomputable def D8(P:iv)(w:h8)(K:pv)(z:GJ)(base:fy)(N:List Str)(qual:Str)(scope:hH)(f:cS)(cd:eF)(A:i7)(outer:List i3)(s:eM)(H:Hp)(E:XK):Cx:=
 {ye u4 P w K z base N qual scope f cd A outer s H E with calm:=dV,xe:=λ_ _=>False}
section
variable{P:iv}{w:h8}{K:pv}{mg:GJ}{base:fy}
theorem Qa{N G:List Str}{qual:Str}{scope:hH}{f:cS}{cd:eF}{A:i7}{outer:List i3}{s W:eM}{H:Hp}{E:XK}{J:List eF}{L:List V}
 (S:CC N G scope) (B:BF P w K mg base A outer s H) (O:L.length=G.length) (r:hA L J)
 (x:InCallC s s.heap.objs.size (Ca (CJ qual scope s.heap.objs.size f cd).kindOf (G.zip J) λ_=>bC) (rb (s.heap.objs.size+1) scope.names []) (B9 (CJ qual scope s.heap.objs.size f cd).kindOf (G.zip J) λ_=>bC) W) :
 Inv (D8 P w K mg base N qual scope f cd A outer s H E) [] (k7 N L) H W:=by
 have a:BF P w K mg base {A with handled:=bC} outer s H:=⟨B.frames,B.mod,B.bs,B.Bq,B.n5,B.zx,B.gv,B.bare⟩;have I:=w5 (CX:=u4) (E:=E) (qual:=qual) (f:=f) (cd:=cd) S rfl a O r x;exact⟨⟨I.ok.mod,I.ok.kind,I.ok.glob,I.ok.blt,I.ok.above,I.ok.inj,I.ok.has,I.ok.Cq,(λz=>nomatch z),Around.frames_deeper B.frames,I.ok.BJ,I.ok.Cd,I.ok.bs,I.ok.Bq,I.ok.Cw,I.ok.Ce,I.ok.n5,I.ok.zx⟩,I.os,I.bare,I.base,I.loc,I.cell,I.free,I.zv,I.pin,I.gv,I.len⟩
end
noncomputable def Ff(K:pv)(c:Str):Bool:=match qH K c with
 | some C=>sJ K (.ref C)==aI (.type "type") && rl K C (.type "BaseException")==aI cI && (sy K C).isSome && mB.all λa=>match qH K a with
  | some b=>rl K b (.ref C)==aI (a==c)
  | none=>cI
 | none=>dV
structure XH(K:pv)(mg:GJ)(c:Str):Prop where
 ex : ∃C,qH K c=aI C/\mg c=aI (.ref C)/\sJ K (.ref C)=aI (.type "type")/\rl K C (.type "BaseException")=aI cI/\(sy K C).isSome=cI/\∀c2 C2,c2∈mB->qH K c2=aI C2->rl K C2 (.ref C)=aI (c2==c)
theorem nG{K:pv}{H:GJ}{h:fy}{c:Str}(B:K.In h)(G:h.Ns n6 H)(e:Ff K c=cI):XH K H c:=by
 unfold Ff at e;split at e
 ·rename_i C z
  simp only[pB,beq_iff_eq,rz]at e;obtain⟨⟨⟨b,I⟩,O⟩,R⟩:=e;refine⟨C,z,Jo B G z,b,I,O,λa g f d=>?_⟩;have:=R a f;rw[d]at this;simpa using this
 ·cases e
theorem Qd{M:Model}{h:fy}{K:pv}{a C S:cS}{b:Bool}(X:K.In h)(I:vH h a C)(G:sJ K (.ref S)=aI (.type "type"))(H:rl K S (.type "BaseException")=aI cI)(J:(sy K S).isSome=cI)(L:rl K C (.ref S)=aI b) :
 uB M h (excMatches (.ref a)<|.ref S) b:=by
 have e:=xK (M:=M) I;have f:=PySem.W.looks_typeIn (M:=M) X G;have g:=uH (M:=M) X H;have i:uB M h (isType<|.ref S) cI:=by
  obtain⟨w,z⟩:=rN.mp J;unfold sy at z;split at z
  ·rename_i u x r t m
   intro n p o P k q;unfold isType loadHead;exact pw<|wpAny_loadPart (k _ _<|X _ _ m)<|pD q
  ·cases z
 have j:=uH (M:=M) X L;have l:uB M h (isSubtype (.type "type") (.type "tuple")) dV:= .of_pure tc_notTuple;intro A Q E s k q;obtain⟨F,g0,y,t0,N⟩:=s;have B:=e.keeps k;have O:=f.keeps k;have R:=g.keeps k;have U:=i.keeps k;have Y:=j.keeps k;have d:=l.keeps k;unfold excMatches isExcClass isInstance;cases b with
 | true=>
  repeat (first | with_reducible refine O.at ?_ | with_reducible refine d.at ?_ | with_reducible refine U.at ?_ | with_reducible refine R.at ?_ | with_reducible refine B.at ?_ | with_reducible refine Y.at ?_ | wp_step)
  exact q
 | false=>
  repeat (first | with_reducible refine O.at ?_ | with_reducible refine d.at ?_ | with_reducible refine U.at ?_ | with_reducible refine R.at ?_ | with_reducible refine B.at ?_ | with_reducible refine Y.at ?_ | wp_step)
  exact q
structure Fj(X:Cx)(pins:GW)(σ:St)(H0 H:Hp)(cc:Xn)(a:cS)(s:eM):Prop where
 ex : ∃H' q5 C φ,L2.Inv X pins σ (upd H' a<|.ext φ) s/\Ext H0 H q5 H'/\H' a=bC/\yf X.K=cI/\cc.1∈mB/\qH X.K cc.1=aI C/\Rep X.K (upd q5 a<|.ext φ) (.exc cc.1 cc.2) (.ref a)/\vH s.heap a C/\(cc.2=bC->∀g,φ g->Zq a g)
 go : ∀{A:i7} {E:GQ} {Q:Unit->eM->Prop},(∀s',(∃H' q5 C φ,L2.Inv X pins σ (upd H' a<|.ext φ) s'/\Ext H0 H q5 H'/\H' a=bC/\yf X.K=cI/\cc.1∈mB/\qH X.K cc.1=aI C/\Rep X.K (upd q5 a<|.ext φ) (.exc cc.1 cc.2) (.ref a)/\vH s'.heap a C/\(cc.2=bC->∀g,φ g->Zq a g))->Q () s')->wpAny (fh X.prog X.w) A (setFlight (.ref a) bC) Q E s
section
variable{X:Cx}{sc:hH}{N L:List Str}{k:Nat}
theorem WU{G:GW}{Z:St}{H H0:Hp}{J:Xn}{W:eF}{s':eM}{Q:Flow->eM->Prop}{E:GQ}{t:Sem Flow}(P:X.stack=X.env::X.outer/\X.env.frame=aI X.env.locals)(lf:aA X G Z H0 H J W s')
 (h : ∀a s,W = .ref a->Fj X G Z H0 H J a s->wpAny (fh X.prog X.w) X.A t Q E s) :
 wpAny (fh X.prog X.w) X.A (noteFrame W X.env) (λ_ s2=>wpAny (fh X.prog X.w) X.A (setFlight W bC) (λ_ s3=>wpAny (fh X.prog X.w) X.A t Q E s3) E s2) E s':=by
 obtain⟨H1,Dy,s1,Y,x1,a,C,l,od,rfl,⟨O,j,eC,xa,xm,xc,R,x2⟩,bi,bl,bn,un,y,U,bv,⟨B,t',fl,c0,a8⟩⟩:=lf;obtain rfl:O=C:=(Av eC).symm;have c1:X.A.frames=aI (X.env::X.outer):=by rw[<- P.1];exact Y.ok.frames
 rw[P.1]at fl;have a9 : ∀k:fy,si B (X.env::X.outer) a (.ref O) (.ref t') k->s'.heap.UpToSlots k->l9 od a k->∃l j C L,L2.Inv X G Z (upd l a<|.ext L) {s' with heap:=k}/\Ext H0 H j l/\l a=bC/\yf X.K=cI/\J.1∈mB/\qH X.K J.1=aI C/\Rep X.K (upd j a<|.ext L) (.exc J.1 J.2) (.ref a)/\vH k a C/\(J.2=bC->∀g,L g->Zq a g):=λk f sm dk=>by
  have obj:vH k a O:=by obtain⟨oe,p,_,_,_,e1,⟨e2,_⟩,e3,_⟩:=f.2.2.2;exact⟨oe,p,e1,e2,e3⟩
  have ne : ∀b o,s1.heap.get? b=aI o->b≠a:=λb o q z=>by rw[z,bv]at q;cases q
  have M : ∀b,b∈i5 X.stack->∃o,s1.heap.get? b=aI o/\(∀p,o.data ≠ .fields p)/\∃F,k.get? b=aI {o with slots:=F}:=λb I=>by obtain⟨_,o,q,nf⟩:=Y.stack.mem I;obtain⟨F,z⟩:=un.slot b o q (Y.B5 b I) I ⋯;obtain⟨c7,z'⟩:=sm b _ z nf;exact⟨o,q,nf,c7,z'⟩
  refine⟨l,j,O,λg=>vH g a O/\l9 od a g,Y.DE (s':={s' with heap:=k}) (ch:=[]) bl ⟨λb o q n I _=>?_,λb o q n I _=>?_,λb o q n _=>?_,λb o q _=>?_,λb xs q=>?_,λb o u q=>?_,λb ps q=>?_⟩ ?_ bn (λ_ z=>nomatch z),x1.trans x2,U,xa,xm,xc,?_,obj,λh g z=>z.2.2<|by unfold ki at R;rw[h]at R;exact R⟩
  ·exact f.1 b o<|a8 b o (un.keep b o q n I ⋯) (by rw[q];simp) I
  ·obtain⟨m,q',_,z⟩:=M b I
   rw[q]at q';cases q';exact z
  ·rw[zo (ne b o q)];exact un.free b o q n ⋯
  ·by_cases I:b∈i5 X.stack
   ·obtain⟨m,_,_,F,z⟩:=M b I
    exact⟨_,z⟩
   ·obtain⟨m,z⟩:=un.there b o q ⋯
    exact⟨m,f.1 b m<|a8 b m z (by rw[q];simp) I⟩
  ·have z:=un.r0 b xs q
   rw[zo (zD z U)];exact z
  ·have z:=un.t2 b o u q
   rw[zo (zD z U)];exact z
  ·obtain⟨more,z⟩:=un.rG b ps q
   exact⟨more,by rw[zo (zD z U)];exact z⟩
  ·refine XR (jv y λb u n q=>f.1 b u<|c0 b u q n) U ⟨obj,dk⟩ ?_ ?_
   ·obtain⟨o,_,e,_⟩:=obj;exact⟨o,e⟩
   ·rintro g1 g2 ⟨⟨o,p,e,r⟩,c9⟩ kk
    exact⟨⟨o,p,kk o e,r⟩,c9.obj kk⟩
  ·refine(show ∃b,V.ref a = .ref b/\zj X.K _ J.1 J.2 b from⟨a,rfl,xa,xm,O,_,xc,zq,λ_ z=>z.1,?_⟩)
   unfold ki at R;cases hc:J.2 with
   | none=>trivial
   | some i=>
    rw[hc]at R;obtain⟨d,ca,x⟩:=R;have ce:d≠a:=λq=>by rw[q,x2.sub.free U]at x;cases x
    exact⟨d,λg z=>z.2.1 d ca,by rw[zo ce];exact x⟩
 refine Xv c1 P.2 fl bi λh4 cf N ci=>?_;refine Xz cf ci λh5 S T bb=>?_;refine h a _ rfl ⟨a9 h5 S (N.trans T) bb,λ{A E Q} q=>?_⟩;exact VU (s:={s' with heap:=h5}) S bb λh6 cn co cq=>q _<|a9 h6 cn ((N.trans T).trans co) cq
end
section
variable{M:Model}{A:i7}{E:GQ}{s:eM}{env:i3}{outer:List i3}{base:fy}{e L:cS}{cls a0:eF}{od:Option cS}{Q:Unit->eM->Prop}
theorem iO(H:env.frame=aI L)(B:uf base (env::outer) e cls a0 L s.heap)(G:l9 od e s.heap)
 (I : ∀h',si base outer e cls a0 h'->s.heap.UpToSlots h'->l9 od e h'->Q () {s with heap:=h'}):wpAny M A (leaving env<|.ref e) Q E s:=by
 unfold leaving;refine pw<|wpAny_noteFrame_againW H B.2.2.2 ?_;exact Xz B G λh' z O R=>I h' ⟨z.1,z.2.1,z.2.2.1.2.2,z.2.2.2⟩ O R
theorem YQ{B h h':fy}{l:List i3}{C:cS}(H:uf B l e cls a0 L h)(I : ∃o,B.get? C=aI o)(G : ∀b o,b≠C->h.get? b=aI o->h'.get? b=aI o):uf (rP B [C]) l e cls a0 L h':=by
 obtain⟨f1,R,m,U,E,T,Y,A,s,j,a,n,f,k,p,r⟩:=H;obtain⟨J,I⟩:=I;have d : ∀b,B.get? b=bC->b≠C:=λb q z=>by rw[z,I]at q;cases q
 have t5:(rP B [C]).StaysIn B:=λb o q=>uc _ q;have g : ∀b,B.get? b=bC->(rP B [C]).get? b=bC:=λb q=>by
  cases z:(rP B [C]).get? b with
  | none=>rfl
  | some o=>rw[t5 b o z]at q;cases q
 have ff : ∀l:List i3,h.FunFrames B l->h'.FunFrames B l:=λl=>by
  induction l with
  | nil=>exact λ_=>trivial
  | cons F r y=>
   rintro⟨u,⟨O,o,t,i,w,a⟩,x⟩;exact⟨u,⟨O,o,t,i,G O o (d O i) w,a⟩,y x⟩
 refine⟨λb o q=>G b o (λz=>?_)<|f1 b o<|t5 b o q,g e R,PySem.W.funFrames_base t5<|ff l m,U,E,T,Y,A,G e U (d e R) s,j,a,n,g T f,k,G T Y (d T f) p,r⟩;rw[z,uy [C] (tD.mpr rfl)]at q;cases q
theorem Qb(J:uf base (env::outer) e cls a0 L s.heap)(H:l9 od e s.heap)
 (G : ∀h',uf base (env::outer) e cls a0 L h'->s.heap.UpToSlots h'->l9 od e h'->Q () {s with heap:=h'}):wpAny M A (setFlight (.ref e)<|some L) Q E s:=by
 have step:wpAny M A (setFlight (.ref e)<|some L) (λ_ f=>∃h',f = {s with heap:=h'}/\uf base (env::outer) e cls a0 L h'/\s.heap.UpToSlots h') E s:=by
  obtain⟨f1,f2,h,k,l,T,m,R,U,g,W,d,Y,a,O,B,i⟩:=J;have sz:3<R.size:=(Array.getElem?_eq_some_iff.mp i).1;unfold setFlight;refine pw<|rY U W d ?_;rw[GY ⋯];refine AY O B sz ⟨_,rfl,?_⟩;have I : ∀b,b≠T->(s.heap.update T<|tN λv=>v.setIfInBounds 3<|rawInt L).get? b=s.heap.get? b:=λb j=>rW _ _<|rH j;have nT : ∀b o,s.heap.get? b=aI o->(∀v,o.data ≠ .fields v)->b≠T:=λb o q n z=>by rw[z,O]at q;cases q;exact n R B
  refine⟨⟨λb o q=>?_,f2,h.of_keeps λb o q n=>⟨o,?_,rfl⟩,k,l,T,_,_,?_,g,W,d,Y,a,rJ _ O<|Obj.isFreed_of_fields<|Aa B _,Aa B _,by simp[sz]⟩,λb o q n=>⟨o.slots,?_⟩⟩
  ·exact(I b λz=>by rw[z,Y]at q;cases q).trans (f1 b o q)
  ·exact(I b<|nT b o q n).trans q
  ·exact(I e<|rH a).trans U
  ·exact(I b<|nT b o q n).trans q
 refine pJ (qK (qD _ _) H step) (λ_ f z=>?_) λ_ _ z=>z;obtain⟨⟨h',rfl,x,y⟩,w⟩:=z;exact G h' x y w
end
noncomputable def Ex(X:Cx)(z:cS)(H:Hp)(G:eM)(E:XK)(e:eF)(s':eM):Prop:=∃a C d f,e = .ref a/\E (.ref C) f d/\l9 f a s'.heap/\s'.os=G.os/\BE s'.gens/\Un (i5 X.stack) [z] H d G.heap s'.heap/\l0 X.prog X.w d s'.heap/\d a=bC/\G.heap.get? a=bC/\
 ∃B t,uf B X.stack a (.ref C) (.ref t) X.env.locals s'.heap/\(∀b o,s'.heap.get? b=aI o->d b≠bC->B.get? b=aI o)/\∀b o,s'.heap.get? b=aI o->G.heap.get? b≠bC->b∉i5 X.stack->b≠z->B.get? b=aI o
section
variable{P:iv}{w:h8}{K:pv}{mg:GJ}{base:fy}{N:List Str}{qual:Str}{scope:hH}{f:cS}{cd:eF}{A:i7}{outer:List i3}{s:eM}{H:Hp}{E:XK}
theorem J9{J:GW}{σ:St}{H1:Hp}{Z s':eM}{e:eF}{E':XK}{L:cS}(I:Inv (ye (l5 P w) P w K mg base N qual scope f cd A outer s H E) J σ H1 Z)(bb:s.heap.objs.size<=L)
 (hx:Ex (ye (l5 P w) P w K mg base N qual scope f cd A outer s H E) L H1 Z E' e s') (hE : ∀c o G,E' c o G->E c o G):(ye (l5 P w) P w K mg base N qual scope f cd A outer s H E).xe e s':=by
 generalize U:ye (l5 P w) P w K mg base N qual scope f cd A outer s H E=X at I hx;have T:X.stack=X.env::X.outer:=by rw[<- U];rfl
 have bg:X.env.frame=aI X.env.locals:=by rw[<- U];rfl
 have W:X.ex=[]:=by rw[<- U];rfl
 have h : ∀b o,X.hF.heap.get? b=aI o->∃k,Z.heap.get? b=aI k:=λb o q=>I.base.there b o q (by rw[W];simp);have bi : ∀b o,X.hF.heap.get? b=aI o->b≠X.env.locals:=λb o q=>pP<|pH (pE q) I.ok.above;have a6 : ∀b o,X.hF.heap.get? b=aI o->b≠L:=λb o q=>by
  have:X.hF=s:=by rw[<- U];rfl
  rw[this]at q;exact pP<|pH (pE q) bb
 have i : ∀b o,X.hF.heap.get? b=aI o->b∉X.fs->b∉i5 X.stack:=λb o q n hm=>by
  rcases pM.mp (I.Cg b hm)with z | z
  ·exact bi b o q z
  ·exact n z
 have a2 : ∀b o,X.hF.heap.get? b=aI o->b ∉ [L]:=λb o q z=>a6 b o q<|tD.mp z;obtain⟨a,C,G,od,rfl,hC,bn,bv,c0,un,gv,c1,c2,B,t,y,as,ac⟩:=hx;have F:wpAny (fh P w) X.A (leaving X.env<|.ref a) (λ_ r=>l5 P w outer H s E (.ref a) r) (λe' r=>l5 P w outer H s E e' r) s':=by
  rw[T]at y;refine iO bg y bn λc4 x1 M c5=>?_;have st : ∀b o,B.get? b=aI o->c4.get? b=aI o:=λb o q=>x1.1 b o q;have e1:X.outer=outer:=by rw[<- U];rfl
  have e2:X.BG=H:=by rw[<- U];rfl
  have e3:X.hF=s:=by rw[<- U];rfl
  have e4:X.prog=P:=by rw[<- U];rfl
  have e5:X.w=w:=by rw[<- U];rfl
  have ca:X.hF.heap.get? a=bC:=by
   cases q:X.hF.heap.get? a with
   | none=>rfl
   | some o=>obtain⟨k,z⟩:=h a o q;rw[c2]at z;cases z
  rw[e4,e5]at gv;have tr : ∀b u,G b=aI u->∃o,s'.heap.get? b=aI o:=λb u q=>j4<|gv b u q;rw[<- e3]at *;rw[<- e2]at *;subst e1;refine⟨a,C,G,od,rfl,hE _ _ _ hC,c5,?_,c0,⟨λb o q n O _=>?_,λb o q n O _=>?_,λb o q n _=>?_,λb o q _=>?_,λb Q q=>un.r0 b Q<|I.base.r0 b Q q,λb o u q=>un.t2 b o u<|I.base.t2 b o u q,λb ps q=>?_⟩,?_,c1,ca,⟨B,t,x1,λb o q n=>?_,λb o q n O=>?_⟩⟩
  ·exact bv.trans I.os
  ·have j:=I.base.keep b o q n O (by rw[W];simp)
   have k2:=un.keep b o j (I.base.free b o q n<|by rw[W];simp) (i b o q O)<|a2 b o q;exact st b o<|ac b o k2 (by rw[j];simp) (i b o q O)<|a6 b o q
  ·obtain⟨sl,z⟩:=I.base.slot b o q n O (by rw[W];simp)
   have x : ∀vs,o.data ≠ .fields vs:=by obtain⟨_,k,m,R⟩:=I.ok.n5.mem O;rw[q]at m;cases m;exact R
   obtain⟨ce,R⟩:=un.any z (I.base.free b o q n<|by rw[W];simp)<|a2 b o q;obtain⟨cf,z'⟩:=M b _ R x;exact⟨cf,z'⟩
  ·obtain⟨Y,j⟩:=h b o q
   exact un.free b Y j (I.base.free b o q n<|by rw[W];simp)<|a2 b o q
  ·obtain⟨Y,z⟩:=h b o q
   obtain⟨g,R⟩:=un.there b Y z<|a2 b o q;by_cases O:b∈X.fs
   ·obtain⟨_,k,S,y2⟩:=I.ok.n5.mem O
    rw[q]at S;cases S;obtain⟨sl,d⟩:=I.base.any q (I.ok.zx b O) (by rw[W];simp);obtain⟨ce,p⟩:=un.any d (I.base.free b o q (I.ok.zx b O)<|by rw[W];simp)<|a2 b o q;obtain⟨cq,z5⟩:=M b _ p y2;exact⟨_,z5⟩
   ·exact⟨g,st b g<|ac b g R (by rw[z];simp) (i b o q O)<|a6 b o q⟩
  ·obtain⟨m1,m⟩:=I.base.rG b ps q
   obtain⟨m2,R⟩:=un.rG b _ m;exact⟨m1++m2,by rw[R,AK]⟩
  ·exact jv gv λb u n q=>st b u<|as b u q n
  ·cases q1:G b with
   | none=>exact absurd q1 n
   | some u=>
    obtain⟨Y,z⟩:=tr b u q1;have R:=as b Y z (by rw[q1];simp);have d:=st b Y R;rw[q]at d;cases d;exact R
  ·cases q1:X.hF.heap.get? b with
   | none=>exact absurd q1 n
   | some l=>
    obtain⟨Y,z⟩:=h b l q1;obtain⟨g,R⟩:=un.there b Y z<|a2 b l q1;have x:=i b l q1 O;have d:=ac b g R (by rw[z];simp) x<|a6 b l q1;have p:=st b g d;rw[q]at p;cases p;exact d
 rw[<- U]at F ⊢;exact F
theorem ZM{pins:GW}{σ:St}{J:Hp}{G:eM}{h':fy}{a C d t:cS}{oa oe:l3}{va vs:Array eF}{Z:fy->Prop}(I:Inv (ye (l5 P w) P w K mg base N qual scope f cd A outer s H E) pins σ J G)
 (L:J a=aI (.ext Z)) (bb:G.heap.get? a=aI oa) (bd:oa.data = .fields va) (kp : ∀b,b≠a->h'.get? b=G.heap.get? b) (he:h'.get? a=aI oe) (c2:oe.cls = .ref C) (c3:oe.dict=aI d) (c4:oe.data = .fields vs) (h1:vs[1]? = aI .none) (h0:vs[0]? = aI (.ref t)) (hs:s.heap.get? a=bC) (hE:E (.ref C) (aI d) (λb=>if b=a then bC else J b)):(ye (l5 P w) P w K mg base N qual scope f cd A outer s H E).xe (.ref a) {G with heap:=h'}:=by
 generalize O:ye (l5 P w) P w K mg base N qual scope f cd A outer s H E=X at I;have S:X.stack=X.env::X.outer:=by rw[<- O];rfl
 have c6:X.env.frame=aI X.env.locals:=by rw[<- O];rfl
 have i:X.ex=[]:=by rw[<- O];rfl
 have j : ∀b o,b≠a->G.heap.get? b=aI o->h'.get? b=aI o:=λb o n q=>(kp b n).trans q;have c7:=I.stack.of_keeps (h':=h') λb o q n=>⟨o,j b o (λz=>by rw[z,bb]at q;cases q;exact n va bd) q,rfl⟩;have h:=I.B5;have c8 : ∀env∈X.stack,∀b,env.frame=aI b->b∈a::i5 X.stack:=λenv he b B=>pT _<|uk.mpr ⟨env,he,B⟩;have T : ∀b o,X.hF.heap.get? b=aI o->∃g,G.heap.get? b=aI g:=λb o q=>I.base.there b o q (by rw[i];simp);have c9 : ∀b o,X.hF.heap.get? b=aI o->b≠X.env.locals:=λb o q=>pP<|pH (pE q) I.ok.above;have an : ∀b o,X.hF.heap.get? b=aI o->b∉X.fs->b∉i5 X.stack:=λb o q n e=>by
  rcases pM.mp (I.Cg b e)with z | z
  ·exact c9 b o q z
  ·exact n z
 have e1:X.outer=outer:=by rw[<- O];rfl
 have e2:X.BG=H:=by rw[<- O];rfl
 have e3:X.hF=s:=by rw[<- O];rfl
 have e4:X.prog=P:=by rw[<- O];rfl
 have e5:X.w=w:=by rw[<- O];rfl
 have off : ∀b o,J b=aI o->(∀Z,o ≠ .ext Z)->(if b=a then bC else J b)=aI o:=λb o q z=>by rw[MQ (λw=>by rw[w,L]at q;cases q;exact z _ rfl),q]
 have bl:X.hF.heap.get? a=bC:=by rw[e3];exact hs
 have cf:l0 X.prog X.w (λb=>if b=a then bC else J b) h':=λb o q=>by
  have q:(if b=a then bC else J b)=aI o:=q;by_cases B:b=a
  ·rw[GY B]at q;cases q
  ·rw[MQ B]at q
   exact(I.gv b o q).t5 (λc u hc z=>j c u (λw=>by rcases hc with hc | hc;exact B<|hc ▸ w;rw[w,L]at hc;cases hc) z) (λc z=>off c _ z<|λZ w=>nomatch w) λc xs z=>off c _ z<|λZ w=>nomatch w
 have go:wpAny (fh P w) X.A (leaving X.env<|.ref a) (λ_ F=>l5 P w outer H s E (.ref a) F) (λe' F=>l5 P w outer H s E e' F) {G with heap:=h'}:=by
  have bn:(rP h' (a::i5 X.stack)).get? a=bC:=uy _ ⋯;refine VP (s:={G with heap:=h'}) (od:=aI d) (base:=rP h' (a::i5 X.stack)) (env:=X.env) (outer:=X.outer) (a0:= .ref t) (by rw[<- S];exact I.ok.frames) (by rw[<- S];exact Ah c7 c8) c6 he (λb o q=>uc _ q) bn c4 h1 h0
   ⟨(λd' q=>by cases q;exact⟨_,he,c3⟩),λq=>nomatch q⟩ λbv hL ci=>?_
  rw[c2]at hL;obtain⟨k1,⟨_,_,k2⟩,k3,x⟩:=hL;have cl:a∉i5 X.stack:=λe=>by rw[h a e]at L;cases L
  have x : ∀b o,G.heap.get? b=aI o->(∀vs,o.data ≠ .fields vs)->∃sl,bv.get? b=aI {o with slots:=sl}:=λb o q n=>x b o (j b o (λz=>by rw[z,bb]at q;cases q;exact n va bd) q) n;have z0 : ∀b o,G.heap.get? b=aI o->b≠a->b∉i5 X.stack->(rP h' (a::i5 X.stack)).get? b=aI o:=λb o q R U=>rZ _ (j b o R q) (by simp[R];exact U);have W : ∀b o,G.heap.get? b=aI o->b≠a->b∉i5 X.stack->bv.get? b=aI o:=λb o q R U=>k1 b o<|z0 b o q R U;rw[<- e3]at *;rw[<- e2]at *;subst e1;have Y : ∀b o,X.hF.heap.get? b=aI o->b≠a:=λb o q z=>by rw[z,bl]at q;cases q
  have r : ∀b,(if b=a then bC else J b)≠bC->b≠a/\b∉i5 X.stack/\∃o,G.heap.get? b=aI o:=λb n=>by
   by_cases B:b=a
   ·rw[GY B]at n;exact absurd rfl n
   ·rw[MQ B]at n
    cases q:J b with
    | none=>exact absurd q n
    | some u=>exact⟨B,(λe=>by rw[h b e]at q;cases q),j4<|I.gv b u q⟩
  refine⟨a,C,_,aI d,rfl,hE,ci,I.os,I.bare,⟨λb o q n B _=>?_,λb o q n B _=>?_,λb o q n _=>?_,λb o q _=>?_,λb xs q=>off b _ (I.base.r0 b xs q)<|λZ w=>(nomatch w),λb o u q=>off b _ (I.base.t2 b o u q)<|λZ w=>(nomatch w),λb ps q=>?_⟩,?_,GY rfl,bl,⟨_,t,⟨k1,bn,k2,k3⟩,λb o q n=>?_,λb o q n B=>?_⟩⟩
  ·exact W b o (I.base.keep b o q n B<|by rw[i];simp) (Y b o q)<|an b o q B
  ·obtain⟨sl,z⟩:=I.base.slot b o q n B (by rw[i];simp)
   have k : ∀vs,o.data ≠ .fields vs:=by obtain⟨_,g,y,Q⟩:=I.ok.n5.mem B;rw[q]at y;cases y;exact Q
   obtain⟨c1,M⟩:=x b _ z k;exact⟨c1,M⟩
  ·rw[MQ (Y b o q)];exact I.base.free b o q n (by rw[i];simp)
  ·obtain⟨g,z⟩:=T b o q
   by_cases B:b∈X.fs
   ·obtain⟨_,p,y,Q⟩:=I.n5.mem B
    obtain⟨c1,M⟩:=x b _ y Q;exact⟨_,M⟩
   ·exact⟨g,W b g z (Y b o q)<|an b o q B⟩
  ·obtain⟨m,z⟩:=I.base.rG b ps q
   exact⟨m,off b _ z<|λZ w=>nomatch w⟩
  ·rw[<- e4,<- e5]
   exact jv cf λb u n q=>W b u ((kp b (r b n).1).symm.trans q) (r b n).1 (r b n).2.1
  ·obtain⟨R,U,p,z⟩:=r b n
   have:=W b p z R U;rw[q]at this;cases this;exact z0 b o z R U
  ·cases q1:X.hF.heap.get? b with
   | none=>exact absurd q1 n
   | some l=>
    obtain⟨p,z⟩:=T b l q1;have k:=an b l q1 B;have:=W b p z (Y b l q1) k;rw[q]at this;cases this;exact z0 b o z (Y b l q1) k
 rw[<- O]at go ⊢;exact go
end
section
variable{M:Model}{A:i7}{E:GQ}{s:eM}{env:i3}
noncomputable def Kq(M:Model)(A:i7)(E:GQ)(cenv:i3)(r:Result)(s':eM):Prop:=∃x,r = .error x/\∃m,s'.heap.Ns cenv.locals m/\∀a,uA cenv.locals s'.heap a->wpAny M A (passOn "comprehension.variables-let-go" x cenv:Sem eF) (λ_ _=>False) E {s' with heap:=a}
theorem ZS{e:f6}{scope:hH}{pos:g9}{mk B:Sem eF}{g:Comprehension}{gs:List Comprehension}{G:List (Str×cS)}{use:Option (eF->Sem Unit)}{Q:GQ}
 (H:clausesOf e=g::gs) (J : ∀x,xA g.iter env x=pure x) (W:closureFor scope env=pure G) (L:scope.kind = .function) (hn : ∀x∈scope.names,x.2 = .local->scope.names.lookup x.1=aI .local)
 (h:wpAny M A B (λx I=>wpAny M A (Dj x) (λit O=>wpAny M A mk (λacc R=>wpAny M A (DK scope env.globals G [] env.qual bC .none (aI env)) (λcenv U=>
   codeAny M A (.compStart e 0 it acc {cenv with scope:=ro scope env}) (Kq M A E {cenv with scope:=ro scope env}) U) E R) E O) E I) E s) :
 wpAny M A (comprehension e scope env pos mk dV B use) Q E s:=by
 unfold comprehension;rw[W,H];refine pw<|pJ h (λx I f=>?_) λ_ _ z=>z;refine pw<|sk<|pw<|uE (J x)<|pw<|rk<|pJ f (λit O i=>?_) λ_ _ z=>z;refine wpAny_standIf<|pw<|pJ i (λacc R Y=>?_) λ_ _ z=>z;refine pw<|pD<|pw<|pJ Y (λcenv U j=>?_) λ_ _ z=>z;dsimp only;refine rk<|pw<|uW<|rk<|wpAny_run<|uq j λr p k=>?_;obtain⟨x,rfl,m,a,b⟩:=k;refine pw<|rk<|wpAny_comp_letGo (cenv:={cenv with scope:=ro scope env}) L _ p m (λy n l=>lookup_relabel_local<|hn y (List.mem_filter.mp<|List.mem_reverse.mp n).1 l) a λd t _ o=>?_;exact pJ (b d o) (λ_ _ z=>z.elim) λ_ _ z=>z
end
theorem cO{prog:iv}{w:h8}{A:i7}{R:Result->eM->Prop}{s:eM}{elt A5 G:f6}{scope:hH}{pos:g9}{it acc:eF}{env:i3}{B:GQ}(I:Nat->eM->Prop)(O:B=notedBy (fh prog w) A env λe t=>R (.error e) t)
 (U : ∀n s,I n s->wpAny (fh prog w) A (Dk it) (λr t=>∃v,r=aI v/\wpAny (fh prog w) A (Df A5 it v) (λ_ t=>wpAny (fh prog w) A (Bp A5 env v) (λ_ t=>wpAny (fh prog w) A (fk elt env) (λx t=>
   wpAny (fh prog w) A (call (.builtin "list.append") [acc,x]) (λ_ t=>∃m,m<n/\I m t) B t) B t) B t) B t) B s) (n:Nat) (h:I n s) :
 codeAny (fh prog w) A (.compLoop (.ListComp elt [⟨A5,G,[],0⟩] scope pos) 0 it acc env) R s:=by
 subst O;refine codeAny_loop rfl I (λn s W=>?_) n h;refine(show wpAny _ A ((compTurn (.ListComp elt [⟨A5,G,[],0⟩] scope pos) 0 it acc env).onRaise λx=>do noteFrame x env;theTreesLotGoes x) _ _ s from wpAny_noted ?_);rw[compTurn_list1];refine pw<|sk<|pw<|pJ (U n s W) (λr Y z=>?_) λ_ _ z=>z;obtain⟨v,rfl,z⟩:=z;refine pw<|pJ z (λ_ a z=>pw<|pJ z (λ_ b z=>?_) λ_ _ z=>z) λ_ _ z=>z;exact pw<|pw<|pJ z (λx d z=>pw<|pJ z (λ_ f z=>pD<|pD ⟨rfl,z⟩) λ_ _ z=>z) λ_ _ z=>z
noncomputable def Ew(J:It)(g:TG)(G:TE)(D:cS)(W:Nat->Nat->List V->St->Hp->Prop):Prop:=
 ∀i m a e H,W i m a e H->H D=aI (.lst a)/\J.go i H/\a.length<i6/\∀x b,J.BL i H x b->g x e b λz f=>G z f λv B=>B D=aI (.lst a)/\∃d,d<m/\W (i+1) d (a++[v]) z (upd B D<|.lst<|a++[v])
theorem X8{X:Cx}{P:GW}{σ:St}{H:Hp}{G:eM}{scope:hH}{own:List Str}{fr:List (Str×Nat)}{fp:List cS}{it:cS}{tn:Nat->fy->Prop}{J:It}{elt tg L:f6}{pos:g9}{g:TG}{te:TE}{E Ee:GQ}{R:i3->Result->eM->Prop}
 (hc:X.calm=cI) (I:Inv X P σ H G) (ok:zi X scope fr) (T:Turn X.prog X.w X.K tg J fp it tn) (st:tn 0 G.heap) (a8 : ∀b∈fp,Zp X P H b)
 (hg:PG (zM X scope (own++fr.map (·.1)) fp G H) tg g) (he:PE ((zM X scope (own++fr.map (·.1)) fp G H).l4 Ee) elt te)
 (hR : ∀e s',Ee e s'->notedBy (fh X.prog X.w) X.A (jP scope X.env<|G.heap.objs.size+1) (λe s'=>R (jP scope X.env<|G.heap.objs.size+1) (.error e) s') e s')
 (hW : ∀D,H D=bC->∃W:Nat->Nat->List V->St->Hp->Prop,(∃m,W 0 m [] (Q4 own fr σ) (upd H D<|.lst []))/\Ew J g te D W) :
 wpAny (fh X.prog X.w) X.A (Dg []) (λacc Z=>wpAny (fh X.prog X.w) X.A (DK scope X.env.globals (yW X.env.cells scope.names []) [] X.env.qual bC .none (aI X.env)) (λcenv F3=>
  codeAny (fh X.prog X.w) X.A (.compStart (.ListComp elt [⟨tg,L,[],0⟩] scope pos) 0 (.ref it) acc {cenv with scope:=ro scope X.env}) (R {cenv with scope:=ro scope X.env}) F3) E Z) E G:=by
 have a9 : ∀b∈fp,∃o,G.heap.get? b=aI o:=λb B=>by obtain⟨o,e,_⟩:=T.obj 0 _ st b B;exact⟨o,e⟩
 have t:=Js (own:=own) I ok a8 a9;obtain⟨W,⟨m0,w0⟩,cw⟩:=hW _ I.fresh;refine sg<|jI ?_;have z1:(G.heap.push yc).objs.size=G.heap.objs.size+1:=rX ..;have ac:tn 0 (BD ((G.heap.push yc).push X6) scope.names):=T.keep 0 _ _ st λb _ o e=>ux _ _ b o<|pA _<|pA _ e;have c3 : ∀b∈fp,b<G.heap.objs.size:=λb B=>by obtain⟨o,e⟩:=a9 b B;exact pE e
 have am : ∀{h:Hp},(∀b∈fp,h b=bC)->∀b∈fp,Zp (zM X scope (own++fr.map (·.1)) fp G H) [] h b:=λhn b B=>
  ⟨hn b B,(t.ok.Cd b B).1,t.ok.Ce b B,.inl B,(t.ok.Cd b B).2,λp hp=>absurd (show p∈([]:GW)from hp) ⋯⟩
 have an:codeAny (fh X.prog X.w) X.A (.compLoop (.ListComp elt [⟨tg,L,[],0⟩] scope pos) 0 (.ref it) (.ref G.heap.objs.size)<|jP scope X.env<|G.heap.objs.size+1) (R<|jP scope X.env<|G.heap.objs.size+1) {G with heap:=BD ((G.heap.push yc).push X6) scope.names}:=by
  refine cO (λn s'=>∃i y j h,Inv (zM X scope (own++fr.map (·.1)) fp G H) [] j h s'/\tn i s'.heap/\(∀b∈fp,h b=bC)/\W i n y j h) rfl ?_ m0
   ⟨0,[],_,_,t,ac,λb B=>by rw[zo (pP<|c3 b B)];exact(a8 b B).1,w0⟩
  rintro n s3 ⟨i,y,a,S,I3,N,c7,w3⟩;obtain⟨hD,go,hz,step⟩:=cw i n y a S w3;refine gE (T.item (zM X scope (own++fr.map (·.1)) fp G H) rfl rfl rfl hc i [] s3 a S _ I3 (am c7) N go) λr s4 O=>?_;obtain⟨u,hr,h4⟩:=O;refine⟨u,hr,gE h4 λ_ s5 O=>?_⟩;obtain⟨x,H5,I5,r5,y5,F,ch⟩:=O;have ci:=I5.pinned (am ch)<|T.obj _ _ F;refine pJ (hg _ s5 a H5 x u _ ci r5<|step x H5 y5) (λ_ s6 O=>?_) λ_ _ z=>z.elim;obtain⟨k,H6,I6,q6⟩:=O;have after : ∀{l:St} {s:Hp} {Y:eM},Inv (zM X scope (own++fr.map (·.1)) fp G H) ([]++vv fp s5.heap) l s Y->tn (i+1) Y.heap/\∀b∈fp,s b=bC:=λ{l s Y} U=>by refine⟨T.keep _ _ _ F λb B o e=>(U.pin (b,o)<|pY _<|pY _<|qp B e).1,λb B=>?_⟩;obtain⟨o,e,d⟩:=T.obj _ _ F b B;exact(U.pin (b,o)<|pY _<|pY _<|qp B e).2.1
  refine pJ (he _ s6 k H6 _ (I6.l4 _) q6) (λQ Y O=>?_) λe s' z=>hR e s' z;obtain⟨x8,s,U,r8,bd,m',hm,w8⟩:=O;have U:=U.o7;obtain⟨z8,be,n8,rv,d4,M⟩:=U.Ei bd;refine Ar Bf ⟨_,M,rfl⟩ AX (AJ _ _) (AR _ be.toArray n8 Q<|by rw[pL];omega) ⟨M,?_⟩;have C:=U.Eh (its':=be++[Q]) (f:=(·.push Q)) (t':=Y.toks) bd M ⋯ (rv.append<|.cons r8 .nil) (by rw[rE,sF];omega);exact⟨m',hm,i+1,y++[x8],k,_,C.CV,(after C).1,(after C).2,w8⟩
 have cy:=codeAny_compStart_list an<|T.self _ 0 _ _ _ ac an;have ee:({({scope:=scope,locals:=(G.heap.push yc).objs.size,globals:=X.env.globals,cells:=rb ((G.heap.push yc).objs.size+1) scope.names<|yW X.env.cells scope.names [],qual:=X.env.qual,func:=bC,code:=X.env.code,frame:=X.env.frame,builtins:=X.env.builtins}:i3)with scope:=ro scope X.env}:i3)=jP scope X.env (G.heap.objs.size+1):=by rw[z1];rfl
 show codeAny _ _ (.compStart _ 0 (.ref it) (.ref G.heap.objs.size) {({scope:=scope,locals:=(G.heap.push yc).objs.size,globals:=X.env.globals,cells:=rb ((G.heap.push yc).objs.size+1) scope.names<|yW X.env.cells scope.names [],qual:=X.env.qual,func:=bC,code:=X.env.code,frame:=X.env.frame,builtins:=X.env.builtins}:i3)with scope:=ro scope X.env}) (R {({scope:=scope,locals:=(G.heap.push yc).objs.size,globals:=X.env.globals,cells:=rb ((G.heap.push yc).objs.size+1) scope.names<|yW X.env.cells scope.names [],qual:=X.env.qual,func:=bC,code:=X.env.code,frame:=X.env.frame,builtins:=X.env.builtins}:i3)with scope:=ro scope X.env}) {G with heap:=BD ((G.heap.push yc).push X6) scope.names};rw[ee];exact cy
noncomputable def yo(T:Tg)(B:CO Xn)(f:CO D)(γ:Ctx):List D->Option Xn
 | []=>bC
 | d::ds=>(qR T d γ).bind λz=>match B z with
  | some c=>aI c
  | none=>(f z).bind λ_=>yo T B f γ ds
noncomputable def VY(z:CO (List D))(T:Tg)(n:Nat)(fr:List Nat)(B:CO Xn)(f:CO D):CO Xn:=λb=>(z b).bind λa=>if a.length<=lim then yo T B f (qu n fr b) a else bC
noncomputable def VW(G:List D->Option Xn)(g:CO (List D))(z B:Str)(f:CO D):CO Xn:=λa=>(g a).bind λb=>(G b).bind λc=>if c.1=z/\c.2=bC then ((f a).bind m9).bind λi=>if inR i=cI then aI (B,aI i)else bC else bC
abbrev XE(X:Cx)(c:Xn)(Dy H1:Hp):XK:=λcls od H'=>∃C q5,cls = .ref C/\yf X.K=cI/\c.1∈mB/\qH X.K c.1=aI C/\ki c od q5/\Ext Dy H1 q5 H'
noncomputable def C8(X:Cx)(B I:Hp)(c:Xn):Prop:=XW X B I c/\(∀(g:GW) (O:St) (h f:Hp) (i:eM) (e:eF) (l:eM) (R:cS),Inv X g O h i->Ext B I f h->X.hF.heap.objs.size<=R->Ex X R h i (XE X c f h) e l->X.xe e l)/\
 (∀(g:GW) (O:St) (h f:Hp) (i:eM) (j:fy) (a C d t:cS) (U z:l3) (W k:Array eF) (n:fy->Prop),Inv X g O h i->h a=aI (.ext n)->i.heap.get? a=aI U->U.data = .fields W->(∀b,b≠a->j.get? b=i.heap.get? b)->j.get? a=aI z->z.cls = .ref C->z.dict=aI d->z.data = .fields k->k[1]? = aI .none->k[0]? = aI (.ref t)->(X.ex=[]->X.hF.heap.get? a=bC)->
   Ext B I f (λb=>if b=a then bC else h b)->yf X.K=cI->c.1∈mB->qH X.K c.1=aI C->ki c (aI d) f->X.xe (.ref a) {i with heap:=j})/\
 ∀m,PassesOwnAt (fh X.prog X.w) (X.A.mark m) X.A X.env X.xe
noncomputable def C6(X:Cx)(st:h9)(G:CO Xn):Prop:=∀(a:GW) (s:eM) (d:St) (H z B e:Hp) (b:Ctx) (c:Xn),Inv X a d H s->RS X.K z B e H d b->G b=aI c->C8 X z B c->
 wpAny (fh X.prog X.w) X.A (exec st X.env) (λ_ _=>False) X.xe s
noncomputable def gb(X:Cx)(I:List h9)(G:CO Xn):Prop:=∀(a:GW) (s:eM) (d:St) (H z B e:Hp) (b:Ctx) (c:Xn),Inv X a d H s->RS X.K z B e H d b->G b=aI c->C8 X z B c->
 wpAny (fh X.prog X.w) X.A (execs I X.env) (λ_ _=>False) X.xe s
section
variable{X:Cx}{sc:hH}{N L:List Str}{k:Nat}{st:h9}{rest:List h9}{G G':CO Xn}{F:CO Fl}
theorem wN(h:Px X st G):C6 X st G:=λa s f H z B b d c I O e w=>h a s f H z B b d c I O e w.1
theorem vU(h:C6 X st G):gb X (st::rest) G:=λa s f H B O b d c I R e w=>
 sN (pJ (h a s f H B O b d c I R e w) (λ_ _ z=>z.elim) λ_ _ z=>z)
theorem xj(J:C6 X st G)(P:m5 X.m7 st F)(Y:gb X rest G'):gb X (st::rest) (wq G F G'):=λb s k H B O j i c I W e w=>by
 unfold wq at e;cases q:G i with
 | some p=>
  rw[q]at e;cases e;exact vU J b s k H B O j i c I W q w
 | none=>
  rw[q]at e;obtain⟨n,m,R⟩:=zc e;cases n with
  | next d=>
   have R:G' d=aI c:=R;refine sN<|pJ (P b s k H {nx:=λg h=>∃a,RS X.K B O a h g d,rt:=λ_ _=>False} (I.l4 _) ⟨B,O,j,i,.next d,W,m,λg h a U=>⟨a,U⟩⟩) (λf o z=>?_) λ_ _ z=>z.elim;cases f with
   | next=>
    obtain⟨g,h,l,a,U⟩:=z;exact Y b o g h B O a d c l.o7 U R w
   | ret v=>obtain⟨_,_,_,_,_,z⟩:=z;exact z.elim
   | brk=>obtain⟨_,_,_,z⟩:=z;exact z.elim
   | cont=>obtain⟨_,_,_,z⟩:=z;exact z.elim
  | _=>cases R
end
theorem dv{P:iv}{w:h8}{K:pv}{L:GJ}{base:fy}{x:Str}{st:h9}{N J:List Str}{k:Nat}{G:CO Xn}(A:ik K L x st J)(hd:vh N J st=cI)
 (as : ∀X:Cx,X.prog=P->X.w=w->X.K=K->X.mg=L->X.base=base->SX X (zE st) N N k->(X.stack=X.env::X.outer/\X.env.frame=aI X.env.locals)->gb X (js st) G):pa P w K L base (k+1) x J.length (Wh N.length G):=by
 obtain⟨f,fd,Fu,hb,hm⟩:=A.ex;have S:=xG hd;have c5:J.length<=N.length:=by have:=congrArg List.length S.pre;rw[sH]at this;omega
 refine⟨f,fd,J,rfl,?_,hm,Fu.kp,.all hb⟩;obtain⟨oc,od,kV,doc,pm,an,DF,ct,Cy,rfl,lk,b0⟩:=Fu.ex;refine WX lk b0 S (Dq.len rfl) λA outer s H vs Q E hr bd=>⟨λ_ σ h=>σ=k7 N vs/\h=H,λl s1 σ H1 D I y=>?_,rfl,rfl⟩;obtain⟨rfl,rfl⟩:=y;obtain⟨H0,ds,c,s0,h1,h2,h3,U⟩:=bd;refine pJ (as _ rfl rfl rfl rfl rfl ⟨rfl,rfl,S.nd,rfl,hr,λ_ _=> .inl rfl⟩ ⟨rfl,rfl⟩ l s1 _ H1 H0 H1 H0 (jB N.length ds) c I (vT s0 h1 ⋯) h3 ⟨⟨λp g i R r h' a C us B O W Y m n j=>?_,λp g i R r e s' B O j=>?_,λp g i R r a C d t φ B F M T O W Y m n=>?_⟩,λp g i R r e s' C0 B O hC j=>?_,λp g i R r h' a C d t oa oe va vs φ B F M T y4 y5 y6 y7 y8 y9 c3 c4 O W Y m n=>?_,λhd=>PassesOwnAt.leaving⟩) (λ_ _ z=>z.elim) λ_ _ z=>z
 ·exact vy B j<|U C i R bC W Y m (by unfold ki;rw[n]) O
 ·refine yI (E':=λu od h=>∃C b,u = .ref C/\yf K=cI/\c.1∈mB/\qH K c.1=aI C/\ki c od b/\Ext R i b h) B j λcc o h z=>?_
  obtain⟨C,b,rfl,Z,z2,z3,z4,z5⟩:=z;exact U C h b o Z z2 z3 z4<|O.trans z5
 ·exact vz B F M (T rfl)<|U C _ R (aI d) W Y m n O
 ·refine J9 B hC j λcc o h z=>?_
  obtain⟨C,b,rfl,Z,z2,z3,z4,z5⟩:=z;exact U C h b o Z z2 z3 z4<|O.trans z5
 ·exact ZM B F M T y4 y5 y6 y7 y8 y9 c3 (c4 rfl)<|U C _ R (aI d) W Y m n O
noncomputable def DZ(X:Cx)(e:f6)(z:CO Xn):Prop:=∀(a:GW) (s:eM) (b:St) (H d:Hp) (g:Ctx) (f:Xn),Inv X a b H s->RC X.K d H b g->z g=aI f->wpAny (fh X.prog X.w) X.A (fk e X.env) (λ_ _=>False) (aA X a b d H f) s
theorem Yi{X:Cx}{P:hH}{N L:List Str}{k j n:Nat}{e:f6}{J:List f6}{g:CO (List D)}{G:List D->Option Xn}{x:Str}{p pos:g9}(Y:pa X.prog X.w X.K X.mg X.base j x n G)(z:j<=k)(h:SX X P N L k)(c:qe P x=cI)(W:z7 X.m7 (e::J) n g)
 (B:hX (e::J) X.env=(dV,fk e X.env)::hX J X.env:=by rfl) (O:(ow pos<|starEach J X.env).any (·.1)=dV:=by rfl):DZ X (.Call (.Name x p) (e::J) [] pos) (vL G g):=λa s m H d l f I rc R=>by
 obtain⟨i,b,U⟩:=zc R;exact Jv Y z h c W I rc b U B O
theorem wV{X:Cx}{G:GW}{σ:St}{Z F0 F1:Hp}{H s':eM}{scope:hH}{N':List Str}{fp:List cS}{c:Xn}{e:eF}(Y:X.stack=X.env::X.outer/\X.env.frame=aI X.env.locals)(L:Inv X G σ Z H)(P : ∀b∈fp,Zp X G Z b)(w:C8 X F0 F1 c)
 (hE : ∃be J an H8,Ext F0 F1 an H8/\aA (zM X scope N' fp H Z) be J an H8 c e s') :
 notedBy (fh X.prog X.w) X.A (jP scope X.env<|H.heap.objs.size+1) (λe s'=>Kq (fh X.prog X.w) X.A X.xe (jP scope X.env<|H.heap.objs.size+1) (.error e) s') e s':=by
 obtain⟨be,J,an,H8,x8,r,M,d,R,xx,a,C,f,od,rfl,ci,cl,cn,co,un,gv,cq,as,⟨B,t,y,bi,U⟩⟩:=hE;have un:Un (i5 X.stack) [] r f d.heap s'.heap:=un;have U : ∀b o,s'.heap.get? b=aI o->d.heap.get? b≠bC->b∉i5 X.stack->B.get? b=aI o:=U;have y:si B X.stack a (.ref C) (.ref t) s'.heap:=y;have gv:l0 X.prog X.w f s'.heap:=gv;have N:Inv X G σ r d:=L.DE (ch:=fp) R.os R.base R.gv R.bare<|λb O=>⟨(P b O).2.2.2.1,(P b O).2.1,(P b O).2.2.2.2.1,(P b O).2.2.2.2.2⟩;obtain⟨I,g⟩ : ∃I,I=H.heap.objs.size+1:=⟨_,rfl⟩;rw[<- g];have bl:r I=bC:=by rw[g];exact R.free
 obtain⟨m,cr⟩ : ∃m,d.heap.Ns I m:=by rw[g];obtain⟨m,hn,_⟩:=R.loc;exact⟨m,hn⟩
 obtain⟨W,es,ep,x,hr⟩:=cr;have bn : ∀b,b∈i5 X.stack->b≠I:=λb O=>by obtain⟨_,o,q,Q⟩:=L.stack.mem O;rw[g];exact pP<|sf<|pE q
 have bv:I∉i5 X.stack:=λh=>bn I h rfl;have kC:=un.keep I W x bl bv ⋯;have T:=U I W kC (by rw[x];simp) bv;have c1:f I=bC:=un.free I W x bl ⋯;have aC:a≠I:=λz=>by rw[z,x]at as;cases as
 have cx:X.hF.heap.objs.size<=I:=by rw[g];exact Nat.le_succ_of_le L.sz
 rw[Y.1]at y;unfold notedBy;refine(show wpAny (fh X.prog X.w) X.A (noteFrame (.ref a) X.env) _ _ s' from Xv (by rw[<- Y.1];exact L.ok.frames) Y.2 y cl λh4 c2 cz d0=>?_);refine⟨.ref a,rfl,m,⟨W,es,ep,c2.1 I W T,hr⟩,λi l=>?_⟩;have l : ∀b o,b≠I->h4.get? b=aI o->i.get? b=aI o:=λb o n q=>(l.2 b n).trans q;have c3:=YQ c2 ⟨W,T⟩ l;have d1:l9 od a i:=d0.obj λo q=>l a o aC q;unfold PySem.passOn;have d2:=c3;obtain⟨_,_,_,oe,vs,Tt,oT,ts,he,dl,d5,h1,_⟩:=d2;refine pw<|rY he d5 h1 ?_;rw[MQ (show ¬((pO Tt==su)=cI)by simp)];have step:wpAny (fh X.prog X.w) X.A (setFlight (.ref a)<|some X.env.locals) (λ_ t=>X.xe (.ref a) t) X.xe {s' with heap:=i}:=by
  refine Qb (s:={s' with heap:=i}) c3 d1 λE c4 d6 d7=>?_;have st : ∀b o,B.get? b=aI o->b≠I->E.get? b=aI o:=λb o q n=>c4.1 b o<|rZ [I] q (by simpa using n);have Q : ∀b,b∈i5 X.stack->∃o,d.heap.get? b=aI o/\(∀vs,o.data ≠ .fields vs)/\∃S,E.get? b=aI {o with slots:=S}:=λb O=>by obtain⟨_,o,q,n⟩:=N.stack.mem O;obtain⟨S,z⟩:=un.slot b o q (N.B5 b O) O ⋯;obtain⟨dn,K⟩:=cz b _ z n;obtain⟨d8,z6⟩:=d6 b _ (l b _ (bn b O) K) n;exact⟨o,q,n,d8,z6⟩
  refine w.2.1 G σ r M d _ _ I N (x8.trans xx) cx ⟨a,C,f,od,rfl,ci,d7,cn,co,⟨λb o q n O j=>?_,λb o q n O j=>?_,λb o q n j=>?_,λb o q j=>?_,un.r0,un.t2,un.rG⟩,?_,cq,as,rP B [I],t,?_,λb o q n=>?_,λb o q n O hc=>?_⟩
  ·exact st b o (U b o (un.keep b o q n O ⋯) (by rw[q];simp) O) (by simpa using j)
  ·obtain⟨k,q',_,z⟩:=Q b O
   rw[q]at q';cases q';exact z
  ·exact un.free b o q n ⋯
  ·by_cases O:b∈i5 X.stack
   ·obtain⟨k,_,_,S,z⟩:=Q b O
    exact⟨_,z⟩
   ·obtain⟨k,z⟩:=un.there b o q ⋯
    exact⟨k,st b k (U b k z (by rw[q];simp) O)<|by simpa using j⟩
  ·exact jv gv λb u n q=>st b u (bi b u q n) λz=>n (by rw[z];exact c1)
  ·rw[Y.1];exact c4
  ·cases q1:f b with
   | none=>exact absurd q1 n
   | some u=>
    have nb:b≠I:=λz=>by rw[z,c1]at q1;cases q1
    obtain⟨o1,z⟩:=j4<|gv b u q1;have F:=bi b o1 z (by rw[q1];simp);have p:=st b o1 F nb;have q:E.get? b=aI o:=q;rw[q]at p;cases p;exact rZ [I] F (by simpa using nb)
  ·cases q1:d.heap.get? b with
   | none=>exact absurd q1 n
   | some o0=>
    obtain⟨o2,F⟩:=un.there b o0 q1 ⋯;have p:=U b o2 F (by rw[q1];simp) O;have K:=st b o2 p hc;have q:E.get? b=aI o:=q;rw[q]at K;cases K;exact rZ [I] p (by simpa using hc)
 have c9:wpAny (fh X.prog X.w) X.A (do setFlight (.ref a) X.env.frame;(throw (.ref a):Sem eF)) (λ_ _=>False) X.xe {s' with heap:=i}:=by rw[Y.2];exact pw<|pJ step (λ_ t z=>wpAny_throw z) λ_ _ z=>z
 first
  | exact c9
  | exact pw<|pD c9
section
variable{X:Cx}{scope:hH}{own:List Str}{fr:List (Str×Nat)}{elt tg iter:f6}{pos:g9}{src:CO (List D)}{T:Tg}{f:CO D}{Gx:CO Xn}
noncomputable def F7(K:pv)(z B:Hp)(Gx:CO Xn)(f:CO D)(c:Xn):TE:=λd H Q=>(∃a b,RC K a H d b/\Gx b=aI c/\Ext z B a H)\/tV K f d H Q
theorem vC{use:Option (eF->Sem Unit)}{Q:GQ}{P:GW}{s:eM}{σ:St}{H Z F1 H0:Hp}{γ:Ctx}{c:Xn}(hc:X.calm=cI)(cf:X.stack=X.env::X.outer/\X.env.frame=aI X.env.locals)(ok:zi X scope fr)(hT : ∀i∈T.idx,i<own.length)(hi:BA X tg iter src)
 (hg : ∀fp L G,PG (zM X scope (own++fr.map (·.1)) fp L G) tg<|xB X.K T) (he : ∀fp L G,PV (zM X scope (own++fr.map (·.1)) fp L G) elt f) (hx : ∀fp L G,DZ (zM X scope (own++fr.map (·.1)) fp L G) elt Gx)
 (I:Inv X P σ H s) (rs:RS X.K Z F1 H0 H σ γ) (U:VY src T own.length (fr.map (·.2)) Gx f γ=aI c) (w:C8 X Z F1 c) (hs : ∀x,xA iter X.env x=pure x:=by intro _;rfl) :
 wpAny (fh X.prog X.w) X.A (comprehension (.ListComp elt [⟨tg,iter,[],0⟩] scope pos) scope X.env (firstIterPos [⟨tg,iter,[],0⟩] pos) (Dg []) dV (fk iter X.env) use) Q X.xe s:=by
 obtain⟨O,e1,U⟩:=zc U;by_cases hl:O.length<=lim
 case neg=>rw[MQ hl]at U;cases U
 rw[GY hl]at U;refine ZS rfl hs (kz λn hn=>I.ok.has n<|ok.free (n,.free) hn rfl) ok.kind (λx hx e=>by rw[<- e];exact qO ok.nd<|show(x.1,x.2)∈scope.names from hx) ?_;refine gE (hi P s σ H (λJ S=>∀D,S D=bC->∃W:Nat->Nat->List V->St->Hp->Prop,(∃m,W 0 m [] (Q4 own fr σ) (upd S D<|.lst []))/\Ew J (xB X.K T) (F7 X.K Z F1 Gx f c) D W) I ⟨H0,γ,O,rs.rc,e1,λJ S k x1 wk D hD=>?_⟩) λv s1 h1=>gE h1 λdb L h2=>?_
 ·have ac : ∀(i:Nat) es,(qu own.length (fr.map (·.2)) γ)[i]? ≠ aI (.own es):=λi es h=>by rcases jJ h with z | ⟨d',j,z,_⟩<;>cases z
  have am : ∀(i:Nat) t,(qu own.length (fr.map (·.2)) γ)[i]? ≠ aI (.nest t):=λi es h=>by rcases jJ h with z | ⟨d',j,z,_⟩<;>cases z
  have bi:k D=bC:=jg x1.sub hD;refine⟨λi m F M g=>m=O.length - i/\F.length<=i/\g D=aI (.lst F)/\∃a,RC X.K a g M (qu own.length (fr.map (·.2)) γ)/\a D=bC/\Ext k S a g/\yo T Gx f (qu own.length (fr.map (·.2)) γ) (O.drop i)=aI c,
   ⟨_,rfl,pN _,zq,k,((rs.rc.ext x1).pull).upd bi ac am,bi,Ext.hide x1.sub hD _,U⟩,?_⟩
  rintro i m F M g ⟨rfl,hy,an,a,bn,cn,C,B⟩;have a4:i<O.length:=by
   rcases Nat.lt_or_ge i O.length with z | z
   ·exact z
   ·rw[Aq z]at B;cases B
  refine⟨an,wk.go i g C.s1 a4,by have:=xu<|pN lim;omega,λx bv y=>?_⟩;obtain⟨d,hd,hx⟩:=wk.BL i g x bv C.s1 a4 y;obtain⟨G0,Y,rg⟩:=hx a C.s0 bn.sub;have cq:O.drop i=d::O.drop (i+1):=by
   have cr:d=O[i]:=by rw[pC a4]at hd;exact(pX hd).symm
   rw[cr];exact tU a4
  rw[cq]at B;obtain⟨b,eb,B⟩:=zc (show(qR T d<|qu own.length (fr.map (·.2)) γ).bind _=_ from B);have cs:G0 D=bC:=Y.new D cn (by rw[an];simp);have c1:bv D=aI (.lst F):=Y.s1 _ _ an;obtain⟨bl,bg⟩:=Zh eb;have cv : ∀{N:St} {G2 G:Hp},RC X.K G2 G N b->RC X.K G2 G N (qu own.length (fr.map (·.2)) γ):=λr=>r.weak bl.symm (λj d' hj=>by
   by_cases hm:j∈T.idx
   ·rcases jJ hj with z | ⟨d2,j2,_,hn,_⟩
    ·cases z
    ·exact absurd (hT j hm) ⋯
   ·rw[bg j hm];exact hj) ac am
  refine kA Y.sub rg eb λEu cw _=>?_;have ap:=cw<|bn.ext Y;cases q:Gx b with
  | some c'=>
   rw[q]at B;cases B;exact .inl ⟨G0,b,ap,q,rs.ext.trans<|x1.trans<|C.trans Y⟩
  | none=>
   rw[q]at B;obtain⟨e,ee,B⟩:=zc B;refine .inr ⟨G0,b,e,ap,ee,λv H4 c5 x4 r4=>?_⟩;have as:c5 D=bC:=x4.new D cs (by rw[c1];simp);have cz:H4 D=aI (.lst F):=x4.s1 _ _ c1;have xb:=C.trans<|Y.trans x4;refine⟨cz,O.length - (i+1),by omega,rfl,by rw[rE,sF];omega,zq,c5,(cv<|ap.ext x4).upd as ac am,as,?_,B⟩;exact⟨xb.s0,λc o z=>by rw[zo (λw=>by rw[w,hD]at z;cases z)];exact xb.s1 c o z,λc o z=>by rw[zo (λw=>by rw[w,as]at z;cases z)];exact xb.sub c o z,xb.new⟩
 ·obtain⟨it,fp,tn,J,G,e,I2,Tn,d1,f2,hW⟩:=h2
  subst e;refine X8 (own:=own) (E:=X.xe) (Ee:=λe s'=>∃d4 Fh c8 H8,Ext Z F1 c8 H8/\aA (zM X scope (own++fr.map (·.1)) fp L G) d4 Fh c8 H8 c e s') (R:=λp=>Kq (fh X.prog X.w) X.A X.xe p) hc I2 ok Tn d1 f2 (hg fp L G) ?_ (λe s' z=>wV cf I2 f2 w z) hW;intro ax s7 l H7 Q7 I7 hz;rcases hz with⟨ce,Gd,d8,e7,x7⟩ | hz
  ·exact pJ (hx fp L G ax s7 l H7 ce Gd c I7.o7 d8 e7) (λ_ _ z=>z.elim) λe s' z=>⟨ax,l,ce,H7,x7,z⟩
  ·refine pJ (he fp L G ax s7 l H7 Q7 I7.o7 hz) (λu s' z=>?_) λ_ _ z=>z.elim
   obtain⟨v,g,I',r⟩:=z;exact⟨v,g,I'.l4 _,r⟩
theorem ZA{y:Str}{py spos:g9}(L:X.calm=cI)(z:X.stack=X.env::X.outer/\X.env.frame=aI X.env.locals)(ok:zi X scope fr)(B : ∀i∈T.idx,i<own.length)(P:BA X tg iter src)
 (O : ∀fp J G,PG (zM X scope (own++fr.map (·.1)) fp J G) tg<|xB X.K T) (R : ∀fp J G,PV (zM X scope (own++fr.map (·.1)) fp J G) elt f) (hx : ∀fp J G,DZ (zM X scope (own++fr.map (·.1)) fp J G) elt Gx)
 (hs : ∀x,xA iter X.env x=pure x:=by intro _;rfl):C6 X (.Assign [.Name y py] (.ListComp elt [⟨tg,iter,[],0⟩] scope pos) spos) (VY src T own.length (fr.map (·.2)) Gx f):=λa s j H d e g h c I U W w=>by
 obtain⟨b,Y⟩ : ∃b:Bool,t6 (.ListComp elt [⟨tg,iter,[],0⟩] scope pos) (aI (.Name y py)) spos.line X.env=pure b:=⟨_,rfl⟩;cases b with
 | false=>
  refine uG ?_ Y;rw[eval_ListComp];exact vC L z ok B P O R hx I U W w hs
 | true=>
  rw[exec_Assign_Name_used _ _ _ _ Y];refine pw<|sk<|pw ?_;refine(show wpAny _ X.A (do let _ <- comprehension (.ListComp elt [⟨tg,iter,[],0⟩] scope pos) scope X.env _ (Dg []) dV (fk iter X.env) (aI (Bp (.Name y py) X.env))) _ _ s from ?_);exact pw<|vC L z ok B P O R hx I U W w hs
end
theorem wb:entryFor table "proto.unchain" = aI Builtin.«proto.unchain» :=entryFor_of_fast (by kernel_rfl)
noncomputable def mM(C d t hx:cS):l3:=⟨.ref C,aI d,.fields #[.ref t,.none,.ref hx,.none,.bool cI,.none],#[]⟩
section
variable{prog:iv}{wd:h8}{A:i7}{E:GQ}{env:i3}
variable{nm q:Str}{C N:cS}{bs bm:List eF}{hdct:Bool}{sn:List Str}{sub:List eF}{ab:Bool}{col:Option Bool}{dd:Option cS}{k0 k1 k2 k3 k5:Option eF}{newId:String}
theorem Zz{Q:Flow->eM->Prop}{s:eM}{e hx t d:cS}(I:A.handled=aI (.ref hx))(G:e≠hx)(O:Zq hx s.heap)(B:s.heap.get? e=aI ⟨.ref C,aI d,.fields #[.ref t,.none,.none,.none,.bool cI,.none],#[]⟩)
 (h : ∀h',(∀b,b≠e->h'.get? b=s.heap.get? b)->h'.get? e=aI (mM C d t hx)->E (.ref e) {s with heap:=h'}):wpAny (fh prog wd) A (raiseNew (.ref e):Sem Flow) Q E s:=by
 unfold raiseNew;refine pw<|wpAny_handled ?_;rw[I];have R:(pO hx != pO e)=cI:=by simp only[bne_iff_ne,ne_eq,pO.injEq];exact λz=>G z.symm
 simp only[R,if_true];obtain⟨o,g,U,f,a⟩:=O;refine pw<|rk<|wpAny_runValue<|codeAny_builtin wb ?_;unfold Builtin.«proto.unchain»;dsimp only;refine pw<|rY U f a ?_;rw[GY (show(su==su)=cI from rfl)];refine pw<|pD ?_;refine pD ?_;show wpAny _ A (do updateField e 2 (.ref hx);throw (.ref e)) Q E s;have st:wpAny (fh prog wd) A (DQ (.ref e) 2<|.ref hx) (λ_ t=>E (.ref e) t) E s:=by refine AY B rfl (by show 2<6;decide)<|h _ (λb n=>rW _ _<|rH n) ?_;exact rJ _ B rfl
 exact pw<|pJ (show wpAny _ A (updateField e 2<|.ref hx) _ _ s from st) (λ_ t z=>wpAny_throw z) λ_ _ z=>z
theorem JU{s:eM}{x c:Sem eF}{Q:Flow->eM->Prop}{hx:cS}(Y:bm.contains (.type "BaseException")=cI)(G:A.handled=aI (.ref hx))(hc : ∀(R:GQ) t,R .none t->wpAny (fh prog wd) A c R E t)
 (h:wpAny (fh prog wd) A x (λv B=>∃e t d,v = .ref e/\e≠hx/\B.heap.get? C=aI (excClassObj nm q C N bs bm hdct sn sub ab col dd k0 k1 k2 k3 k5 newId)/\B.heap.get? e=aI (vg C (aI d) t)/\Zq hx B.heap/\C≠e/\
   ∀h',(∀b,b≠e->h'.get? b=B.heap.get? b)->h'.get? e=aI (mM C d t hx)->E (.ref e) {B with heap:=h'}) E s) :
 wpAny (fh prog wd) A (raiseStmt env (aI x)<|some c) Q E s:=by
 have i:(pO C::bm).contains (.type "BaseException")=cI:=by rw[List.contains_cons,Y,Bool.or_true]
 unfold raiseStmt;refine pw<|pJ h (λv B a=>?_) λ_ _ x=>x;obtain⟨e,t,d,rfl,f,U,I,f2,m,k⟩:=a;refine pw<|rk<|hc _ _ ?_;obtain⟨O,g,p,u,os⟩:=B;unfold vg at I
 repeat (first | with_reducible refine sh I ?_ | with_reducible refine sh U ?_ | (with_reducible refine Bb U ?_;rw[i]) | wp_step)
 have W : ∀b,b≠e->((O.update e<|tN λx=>x.setIfInBounds 3 su).update e (tN λx=>x.setIfInBounds 4<|Ae cI)).get? b=O.get? b:=λb n=>(rW _ _<|rH n).trans (rW _ _<|rH n);have j:Zq hx ((O.update e<|tN λx=>x.setIfInBounds 3 su).update e (tN λx=>x.setIfInBounds 4<|Ae cI)):=by obtain⟨o,l,z,r⟩:=f2;exact⟨o,l,(W hx<|rH f).trans z,r⟩
 exact Zz (C:=C) (d:=d) (t:=t) G f j (rJ _ (rJ _ I rfl) rfl) λh' k1 k2=>k h' (λb n=>(k1 b n).trans (W b n)) k2
end
theorem C7.make{k:Nat}{A:i7}(r:C7 (k+1) A)(C:cS)(B:List eF)(z:List (Str×eF)):C7 k (A.under (.builtin "type.__call__" ⟨.ref C::B,z⟩)):=
 ⟨by have:=r.dp;rw[vx];omega,by have:=r.un;rw[vw];omega⟩
section
variable{X:Cx}{sc:hH}{N L:List Str}{k:Nat}{C:cS}{att x0 x1:Str}{p0 p1 p2 p3 p4 p5 p6 p7 p8 pos pos':g9}
theorem Wr(h:SW X sc N L k)(A:XA X.K X.mg C att)(U:qT sc N 0 x0=cI)(W:qT sc N 1 x1=cI)(hs:t6 (.Name x1 p1) (aI (.Attribute (.Name x0 p0) att pos')) pos.line X.env=pure dV:=by rfl) :
 PS X (.Assign [.Attribute (.Name x0 p0) att pos'] (.Name x1 p1) pos) (JN C att):=by
 intro a s f H D I Y;obtain⟨e,i,P,Q,B,q⟩:=Y;obtain⟨S,Nn,cd,a1,a2,n,o,p,r,t,x,_⟩:=A.ex;refine Bl (gE (h.var W a s f H (λv b=>v = .int i/\b=H) I ⟨_,Q,rfl,rfl⟩) λu y j=>gE (h.var U a y f H (λv b=>v = .ref e/\b=H) (by obtain⟨v,b,O,R,rfl,rfl⟩:=j;exact O) ⟨_,P,rfl,rfl⟩) λJ T z2=>?_) hs;obtain⟨v1,b,O,R,rfl,rfl⟩:=j;obtain⟨v2,l,z,M,rfl,rfl⟩:=z2;cases (show J=pO e from M);obtain⟨G,g,dr,tk,os⟩:=T;obtain⟨⟨a0,E⟩,_,_⟩:=(show i8 X.prog X.w l G e (.ext<|ub C e)from z.gv e _ B);refine ma (S:=S) z.ij E r t n o p x λh' d F Z y2 y3 y4=>?_;obtain⟨b1,b2,m⟩:=me (t':=F) (att:=att) (i:=i) z B Z (a0:=a0) y2 y3 R y4;exact⟨f,_,m,q d b1 b2⟩
theorem Yk{B O:Str}{U R:Nat}(h:SW X sc N L k)(A:XA X.K X.mg C att)(G:qe sc "SplitError" = cI)(c0:qT sc N 0 x0=cI)(c1:qT sc N 1 x1=cI)(l1:B.length<=1000)(l2:O.length<=1000)
 (hs:t6 (.Call (.Attribute (.Name "SplitError" p0) "__init__" p1) [.Name x0 p2,.JoinedStr [.Constant (.str B) U p3,.FormattedValue (.Name x1 p4) (-1) bC p5,.Constant (.str O) R p6] p7] [] p8) bC pos.line X.env=pure dV:=by rfl)
 (Z:(p1.endLine==p8.line)=cI:=by rfl) :
 PS X (.Expr (.Call (.Attribute (.Name "SplitError" p0) "__init__" p1) [.Name x0 p2,.JoinedStr [.Constant (.str B) U p3,.FormattedValue (.Name x1 p4) (-1) bC p5,.Constant (.str O) R p6] p7] [] p8) pos) (vk C):=by
 intro a s m H D I hZ;obtain⟨e,i,s0,s1,E,l,q⟩:=hZ;obtain⟨S,Nn,cd,P,Q,a3,a4,a5,a6,a7,a8,T,bv,c2⟩:=A.ex;refine wpAny_Expr_any ?_ I.quiet hs;rw[arm_eval_Call];refine pw (qv I (h.gl G).1 P ?_ (h.gl G).2.2);refine pw (sk ?_);have c3:methodCallPos cI (.Name "SplitError" p0) X.env p1 p8=pure p8:=by unfold methodCallPos;simp[Z]
 unfold methodCall;refine pw<|rk<|PySem.W.method_cls I.ij T<|PySem.W.cls_value I.ij bv c2 ⋯ ?_;refine pw<|uE c3 ?_;refine Ao rfl<|uD ?_;show wpAny _ _ (yg ((dV,fk (.Name x0 p2) X.env)::ow p8 [(dV,fk (.JoinedStr [.Constant (.str B) U p3,.FormattedValue (.Name x1 p4) (-1) bC p5,.Constant (.str O) R p6] p7) X.env)])) _ _ _;refine rd<|gE (h.var c0 a _ m H (λv d=>v = .ref e/\d=H) (I.tok _) ⟨_,s0,rfl,rfl⟩) λu0 s2 z2=>?_;obtain⟨v2,n,M,r2,rfl,rfl⟩:=z2;cases (show u0=pO e from r2);show wpAny _ _ (yg ((dV,fk (.JoinedStr [.Constant (.str B) U p3,.FormattedValue (.Name x1 p4) (-1) bC p5,.Constant (.str O) R p6] p7) X.env)::[])) _ _ s2;have d1:=tx;have t:i.natAbs.log2<1920:=by
  have h1:i.natAbs<2 ^ 62:=by unfold inR at E;exact of_decide_eq_true E
  by_cases z:i.natAbs=0
  ·rw[z];decide
  ·have:=(Nat.log2_lt z).mpr h1
   omega
 refine rd<|JoinedStr_many<|uK<|uj ?_;dsimp only;refine⟨by rw[se];show 0+_<=_;omega,?_⟩;refine uK<|FormattedValue_plain<|gE (h.var c1 a _ m n (λv d=>v = .int i/\d=n) (M.tok _) ⟨_,s1,rfl,rfl⟩) λu1 s3 z3=>?_;obtain⟨v3,Y,f,r3,rfl,rfl⟩:=z3;obtain⟨F,rfl⟩:=(show ∃F,u1=uL i F from r3);refine formatField_int_small t ?_;dsimp only;have d3:(ug<|toString i).length<=1921:=by have e:=int_text_length_le (k:=1920) ⋯ t;rw[PySem.ofString_length];exact e
 have j:(Str.empty++B).length=B.length:=by rw[se];show 0+_=_;omega
 refine⟨by rw[se,j,tx];omega,?_⟩;show wpAny _ _ (joinParts _ [fk (.Constant (.str O) R p6) X.env]) _ _ _;refine uK<|uj ?_;dsimp only;refine⟨by rw[se,se,j,tx];omega,?_⟩;refine joinParts_nil ?_ (by rw[se,se,j,tx];omega);refine sP ?_;obtain⟨nm,qn,bs,bm,y,sn,sub,ab,col,dd,k0,k1,k2,k3,k5,ho,ht,gv⟩:=JG Q;obtain⟨hp,g,dr,ch,os⟩:=s3;have r:=f.ij;obtain⟨⟨a0,ci⟩,_,_⟩:=(show i8 X.prog X.w Y hp e (.ext<|ub C e)from f.gv e _ l);refine aD (sU r ht) (r _ _ ho) ci λh' d5 J y2=>?_;have p:=f.write (x:=e) (e:=e) (o:= .ext (ub C e)) (t':=ch+1+1+1+1) (by rw[l];exact sQ) (.inl rfl) (λb u hb q=>y2 b u hb q) ⟨_,J⟩<|Jl J;have e4:upd Y e (.ext<|ub C e)=Y:=by
  funext b;by_cases z:b=e
  ·rw[z,zq,l]
  ·rw[zo z]
 rw[e4]at p;exact⟨m,Y,p.tok _,q⟩
end
noncomputable def nz(P:iv)(w:h8)(K:pv)(B:GJ)(base:fy)(k:Nat)(f:cS)(z:sx)(G:List Str)(sp:Sp):Prop:=∀(A:i7) (a:List i3) (s:eM) (H:Hp) (b:Args) (d:List eF) (e:List V) (Q:VK) (E:XK),C7 k A->BF P w K B base A a s H->CY s z b (G.zip d)->hA e d->sp e H Q E->
 codeAny (fh P w) A (.call (.ref f) b) (CR u4 a P w H s Q E) s
theorem dj{P:iv}{w:h8}{K:pv}{G:GJ}{base:fy}{q x1:Str}{st:h9}{f C:cS}{L:sx}{att:Str}{k:Nat}(Z:L2.A9 K "__init__" q st f L)(hd:vh ["self",x1] ["self",x1] st=cI)
 (a4 : ∀X:Cx,X.prog=P->X.w=w->X.K=K->X.mg=G->X.base=base->SW X (zE st) ["self",x1] ["self",x1] k->q7 X (js st) (aP (vk C) (JN C att))):nz P w K G base (k+1) f L ["self",x1] (kH C att):=by
 have S:=xG hd;obtain⟨oc,od,kV,N,pm,an,h,ct,Cy,rfl,lk,x⟩:=Z.ex;intro A a s H p us vs Q E O z F r U;have hl:vs.length=(["self",x1]:List Str).length:=by obtain⟨e,i,rfl,_⟩:=U;rfl
 have Y:K.In s.heap:=z.mod.BW.keeps λb o e=>(z.bs b o e).1;have lim:s.heap.NoLimit:=z.mod.nolimit.keeps λb o e=>(z.bs b o e).1;have M : ∀y∈(["self",x1]:List Str).zip us,(zE st).names.lookup y.1=aI .local\/((zE st).names.lookup y.1=aI .cell/\((rb (s.heap.objs.size+1) (zE st).names []).lookup y.1).isSome=cI):=λy hy=>by
  obtain⟨n,v⟩:=y;rcases S.par n (As hy).1 with q | q
  ·exact .inl q
  ·exact .inr ⟨q,tv _ _ _<|.inl q⟩
 refine codeAny_call_function (by have:=O.dp;omega) (Y _ _ lk) rfl S.co S.gen rfl (PySem.W.codeRec_of Y x) (F _ _ _ _ ?_);refine wpAny_newFunctionEnv_cells S.kind M λT B s1 t=>?_;subst B;refine⟨lim.keeps t.toInCall.keep,codeAny_func ?_⟩;have I:=Qa (E:=E) (qual:=q) (f:=f) (cd:=h) S z hl r t;have hB:=a4 (D8 P w K G base ["self",x1] q (zE st) f h A a s H E) rfl rfl rfl rfl rfl ⟨rfl,rfl,S.nd,by have:=O.dp;show A.depth+1+3*k+5<_;omega,by have:=O.un;show A.units+3+16*k+200<_;omega,λ_ _=> .inl rfl⟩;obtain⟨e,i,rfl,hi,B,qq⟩:=U;refine pJ (hB [] s1 _ H {nx:=λ_ g=>Q .g8 g,rt:=Q} I ⟨e,i,rfl,rfl,hi,B,e,i,rfl,rfl,B,qq⟩) (λfl l j=>?_) λe l j=>j.elim;have m : ∀{d:St} {g:Hp} {v:V} {u:eF},Inv (D8 P w K G base ["self",x1] q (zE st) f h A a s H E) [] d g l->RelV v u->Q v g->CE a P w H s Q u l:=
  λ{d g v u} J R q=>⟨v,g,J.os,J.bare,J.base,J.gv,R,q⟩
 cases fl with
 | ret u=>
  obtain⟨v,d,g,J,R,q⟩:=j;exact m J R q
 | next=>
  obtain⟨d,g,J,q⟩:=j;exact m (v:=V.g8) (u:=su) J rfl q
 | brk=>obtain⟨_,_,_,q⟩:=j;exact rR q
 | cont=>obtain⟨_,_,_,q⟩:=j;exact rR q
structure Cp(P:iv)(w:h8)(K:pv)(mg:GJ)(base:fy)(k:Nat)(c:Str):Prop where
 all:yf K=cI
 mem:c∈mB
 ex : ∃C N fI fd ps,qH K c=aI C/\mg c=aI (.ref C)/\VV K C=aI N/\rB K (.ref C) "__init__" = aI (aI (.ref fI))/\sv K (.ref C)=cI/\sJ K (.ref fI)=aI (.type "function")/\
  ps.length=2/\nz P w K mg base k fI fd ps (kH C<|kF c)/\Binds K fd ps []
section
variable{X:Cx}{sc:hH}{N L:List Str}{k j:Nat}{a:f6}{f:CO D}{c:Str}{np pos cpos:g9}{pins:GW}{σ:St}{H H0:Hp}{s:eM}{γ:Ctx}{i:Int}
theorem XZ(h:SW X sc N L k)(P:qe sc c=cI)(x:Cp X.prog X.w X.K X.mg X.base j c)(hj:j+1<=k)(ha:PV X a f)(I:Inv X pins σ H s)(rc:RC X.K H0 H σ γ)(e1:f γ=aI (.int i))(hi:inR i=cI)(Z:hX [a] X.env=[(dV,fk a X.env)]:=by rfl) :
 wpAny (fh X.prog X.w) X.A (fk (.Call (.Name c np) [a] [] pos) X.env) (λu s'=>∃e d C G J,u = .ref e/\Inv X pins σ (upd (upd G e<|.ext<|o6 C e d) d<|.xd [(kF c,.int i)]) s'/\Ext H0 H J G/\G e=bC/\G d=bC/\d≠e/\qH X.K c=aI C/\(X.ex=[]->X.hF.heap.get? e=bC)) X.xe s:=by
 obtain⟨C,Nn,n,fd,ps,x1,x2,x3,x4,x5,B,ac,Q,hb⟩:=x.ex;obtain⟨nm,qn,bs,bm,E,sn,sub,ab,col,dd,k0,k1,k2,k3,k5,ho,ht,gv⟩:=JG x3;refine sd<|qv I (h.gl P).1 x2 ?_ (h.gl P).2.2;have ax:PA X [a] _:=jH ha qB Z;refine uN (h₀:=X.base) I.ok.mod.BW x5 (gE (ax pos pins s σ H (λp G=>p=[.int i]/\∃J,Ext H0 H J G) I ⟨H0,γ,.int i,rc,e1,λv S l t rr=>⟨by rw[show v = .int i from rr],l,t⟩⟩) λus s1 F=>⟨?_,?_⟩) (by rw[Z];rfl) rfl
 ·obtain⟨p,G,O,_⟩:=F;exact O.ij
 obtain⟨p,G,O,rv,ev,J,t⟩:=F;subst ev;obtain⟨u,rfl,ru⟩:=vM rv;have b:=O.ij;obtain⟨R,be,bg⟩ : ∃R,X.K.lookup n=aI R/\R.cls = .type "function":=by
  have B:(X.K.lookup n).map (·.cls)=aI (.type "function"):=B;cases z:X.K.lookup n with
  | none=>rw[z]at B;cases B
  | some R=>rw[z]at B;exact⟨R,rfl,pX B⟩
 obtain⟨hp,g,dr,tk,os⟩:=s1;refine aE (sU b ht) (b _ _ ho) (PySem.W.looks_findIn b x4) (b _ _ be) bg (by show 1<=i6;decide) λh' e a0 M y2 y3=>?_;obtain⟨hn,m⟩:=cQ (o:= .ext (ub C e)) (t':=tk) O y3 M<|Jl y2;have bv:X.ex=[]->X.hF.heap.get? e=bC:=λc0=>by
  cases q:X.hF.heap.get? e with
  | none=>rfl
  | some o=>
   obtain⟨o',z⟩:=O.base.there e o q (by rw[c0];simp);rw[show hp.get? e=bC from M]at z;cases z
 have sp:kH C (kF c) [.ref e,.int i] (upd G e<|.ext<|ub C e) (λv T=>v = .g8/\∃d,G d=bC/\d≠e/\T=upd (upd G e<|.ext<|o6 C e d) d (.xd [(kF c,.int i)])) (λ_ _ _=>False):=by
  refine⟨e,i,rfl,hi,zq,λd y Y=>⟨rfl,d,?_,Y,?_⟩⟩
  ·rw[zo Y]at y;exact y
  ·rw[Zs]
 have hl:[pO e,u].length=ps.length:=by rw[ac];rfl
 refine uF<|uq (Q _ X.stack _ _ ⟨[.ref e,u],[]⟩ [.ref e,u] [.ref e,.int i] _ _ (C7.make ⟨by have:=h.dp;omega,by have:=h.un;omega⟩ C [u] []) (m.DG.make C [u] []) (by simpa using hb _ [.ref e,u] m.ij (by simpa using hl)) (.cons rfl<|.cons ru .nil) sp) λr s' U=>?_;cases r with
 | error ee=>exact rR U
 | ok fl=>
  cases fl with
  | ret uu=>
   obtain⟨v,S,I3,c4,ev,d,c5,Y,rfl⟩:=m.after U;subst ev;exact⟨c4,⟨e,d,C,G,J,rfl,I3,t,hn,c5,Y,x1,bv⟩⟩
  | next=>exact rR U
  | brk=>exact rR U
  | cont=>exact rR U
end
theorem aB{P:iv}{w:h8}{K:pv}{G:GJ}{base:fy}{c q x1 att:Str}{st:h9}{k:Nat}(A:CG K G c q x1 st att)(J:vh ["self",x1] ["self",x1] st=cI)(H:kF c=att)
 (z : ∀C,XA K G C att->∀X:Cx,X.prog=P->X.w=w->X.K=K->X.mg=G->X.base=base->SW X (zE st) ["self",x1] ["self",x1] k->q7 X (js st) (aP (vk C) (JN C att))):Cp P w K G base (k+1) c:=by
 subst H;obtain⟨C,N,a,b,B,I,O,R,U,W,Y,d,e⟩:=A.ex;exact⟨A.all,A.mem,C,N,a,b,_,B,I,O,R,U,W,rfl,dj d J<|z C Y,e⟩
section
variable{X:Cx}{sc:hH}{N L:List Str}{k:Nat}
theorem K0{G:Str}{j:Nat}{a:f6}{f:CO D}{np cpos a1 kp:g9}{kd:Nat}{J:GW}{σ:St}{H0 H F0 F1:Hp}{ex:cS}{s:eM}{γ:Ctx}{i:Int}{H' Z:Hp}{P:fy->Prop}(h:SX X sc N L k)(hg:qe sc G=cI)(x:Cp X.prog X.w X.K X.mg X.base j G)(hj:j+1<=k)
 (ha : ∀e,PV (A2 X e) a f) (I:Inv X J σ (upd H' ex<|.ext P) s) (rs:RS X.K F0 F1 H0 H σ γ) (xx:Ext H0 H Z H') (bd:H' ex=bC) (f2 : ∀g,P g->Zq ex g) (ef:f γ=aI (.int i)) (hi:inR i=cI) (w:C8 X F0 F1 (G,aI i))
 (hs:hX [a] X.env=[(dV,fk a X.env)]:=by rfl) :
 wpAny (fh X.prog X.w) (X.A.mark<|some (.ref ex)) (exec (.Raise (aI (.Call (.Name G np) [a] [] cpos)) (aI (.Constant .none kd kp)) a1) X.env) (λ_ _=>False) X.xe s:=by
 obtain⟨C,Nn,fI,fd,ps,x1,x2,x3,x4,x5,x6,cl,FO,hb⟩:=x.ex;obtain⟨nm,qn,bs,bm,hdct,sn,sub,ab,col,dd,k0,k1,k2,k3,k5,ho,ht,gv⟩:=JG x3;have T0 : ∀{g:fy},X.K.In g->OwnTail g t8 bm:=λY=>sU Y ht;have FB:=sT;have hw:SW (A2 X (.ref ex)) sc N L k:=⟨h.xg,h.eN,h.nd,h.room.dp,h.room.un,h.fn⟩;have I0:=wa I (.ref ex);rw[arm_exec_Raise];refine pw (sk ?_);show wpAny _ _ (raiseStmt X.env (aI (do let v <- fk (.Call (.Name G np) [a] [] cpos) X.env;CT a1;pure v)) (aI (do let v <- fk (.Constant .none kd kp) X.env;CT a1;pure v))) _ _ _;refine JU (C:=C) (nm:=nm) (q:=qn) (N:=Nn) (bs:=bs) (bm:=bm) (hdct:=hdct) (sn:=sn) (sub:=sub) (ab:=ab) (col:=col) (dd:=dd) (k0:=k0) (k1:=k1) (k2:=k2) (k3:=k3) (k5:=k5) (newId:="ValueError.__new__") (hx:=ex) ((T0 I.ij).hasType FB.hasBase) rfl (λR t r=>?_) ?_
 ·exact pw<|Constant_none<|pw<|sk<|pD r
 have S:=xx.trans<|Ext.hide xx.sub bd<|.ext P;refine pw<|pJ (XZ (X:=A2 X<|.ref ex) (H0:=Z) hw hg x hj (ha _) I0 (rs.rc.ext S) ef hi hs) (λu E z=>pw<|sk<|pD ?_) λ_ _ z=>z.elim;obtain⟨e,d,C',l,Dy,rfl,B,T,p,O,M,U,c5⟩:=z;have U:qH X.K G=aI C':=U;rw[x1]at U;cases U;have B:=wZ I.ok B;have W:=S.trans T;have m:l ex=aI (.ext P):=T.s1 ex _ zq;have as:e≠ex:=λz=>by rw[z,m]at p;cases p
 have c6:d≠ex:=λz=>by rw[z,m]at O;cases O
 have Q:upd (upd l e<|.ext<|o6 C e d) d (.xd [(kF G,.int i)]) e=aI (.ext<|o6 C e d):=by rw[zo (rH M),zq]
 have gX:upd (upd l e<|.ext<|o6 C e d) d (.xd [(kF G,.int i)]) ex=aI (.ext P):=by rw[zo (rH c6),zo (rH as)];exact m
 obtain⟨⟨F,g1⟩,_,_⟩:=(show i8 X.prog X.w _ E.heap e (.ext<|o6 C e d)from B.gv e _ Q);obtain⟨o,_,_⟩:=(show i8 X.prog X.w _ E.heap ex (.ext P)from B.gv ex _ gX);have n:=B.ij _ _ ho;refine⟨e,F,d,rfl,as,n,g1,f2 _ o,λz=>?_,λh' kp he=>?_⟩
 ·rw[z,g1]at n;cases n
 have eH:(λb=>if b=e then bC else upd (upd l e<|.ext<|o6 C e d) d (.xd [(kF G,.int i)]) b)=upd l d (.xd [(kF G,.int i)]):=by
  funext b;by_cases q:b=e
  ·rw[GY q,q,zo<|rH M,p]
  ·rw[MQ q]
   by_cases y:b=d
   ·rw[y,zq,zq]
   ·rw[zo y,zo q,zo y]
 have E2:=rs.ext.trans<|(W.trans<|Ext.hide W.sub O<|.xd [(kF G,.int i)]).show (kj W.s1 O) (jg W.sub O) zq rs.rc.sub;exact w.2.2.1 J σ _ _ E h' e C d F _ _ _ _ (o6 C e d) B Q g1 rfl kp he rfl rfl rfl rfl rfl c5 (by rw[eH];exact E2) x.all x.mem x1 ⟨d,rfl,zq⟩
theorem Yh{fx O c2 y:Str}{fp py cpos J Z a8 a9 np ac am kp:g9}{kd n U j:Nat}{a e:f6}{P:List f6}{g:CO (List D)}{G:List D->Option Xn}{f:CO D}(h:SX X sc N L k)(ap:X.stack=X.env::X.outer/\X.env.frame=aI X.env.locals)
 (cf:qe sc fx=cI) (hx:pa X.prog X.w X.K X.mg X.base U fx n G) (ax:U<=k) (ha:z7 X.m7 (e::P) n g) (xh:XH X.K X.mg O) (W:qe sc O=cI) (g2:qe sc c2=cI) (x:Cp X.prog X.w X.K X.mg X.base j c2) (hj:j+1<=k) (hf : ∀e,SW (A2 X e) sc N L k->PV (A2 X e) a f)
 (he:hX (e::P) X.env=(dV,fk e X.env)::hX P X.env:=by rfl) (be:(ow cpos<|starEach P X.env).any (·.1)=dV:=by rfl) (bg:t6 (.Call (.Name fx fp) (e::P) [] cpos) (aI (.Name y py)) J.line X.env=pure dV:=by rfl) (hs:hX [a] X.env=[(dV,fk a X.env)]:=by rfl) :
 C6 X (.Try [.Assign [.Name y py] (.Call (.Name fx fp) (e::P) [] cpos) J] [.ExceptHandler (aI (.Name O a9)) bC [.Raise (aI (.Call (.Name c2 np) [a] [] ac)) (aI (.Constant .none kd kp)) am] a8] [] [] Z) (VW G g O c2 f):=λE s σ H F0 F1 H0 γ c I Y B w=>by
 obtain⟨ds,eg,B⟩:=zc B;obtain⟨b,eG,B⟩:=zc B;by_cases d:b.1=O/\b.2=bC
 case neg=>rw[MQ d]at B;cases B
 rw[GY d]at B;obtain⟨i,R,B⟩:=zc B;obtain⟨d0,u,R⟩:=zc R;rw[jQ R]at u;by_cases m:inR i=cI
 case neg=>rw[MQ m]at B;cases B
 rw[GY m]at B;cases B;refine Bn ?_;refine sN<|uG (pJ (Jv hx ax h cf ha I Y.rc eg eG he be) (λ_ _ z=>z.elim) λev s' z=>?_) bg;refine WU ap z λA s3 ea p=>?_;subst ea;obtain⟨S,l,C,φ,T,Q,r,xa,M,F,rep,obj,f2⟩:=p.ex;obtain⟨C1,x1,x2,x3,x4,x5,x6⟩:=xh.ex;have o:=wa T<|.ref A;refine wpAny_handleBy_cons (codeAny_handlers_test<|qv (X:=A2 X<|.ref A) o (show Gl X _ from(h.gl W).1) x2 ?_ (h.gl W).2.2) (by intro q;cases q);refine(Qd o.ij obj x3 x4 x5<|x6 b.1 C M F) _ _ _ _ (λ_ _ z=>z) ?_;rw[show(b.1==O)=cI by rw[d.1];exact beq_self_eq_true _];refine codeAny_handlers_suite<|p.go λs6 c7=>?_;obtain⟨S,l,C,φ,I6,Q,r,xa,M,F,rep,obj,f2⟩:=c7;refine sN<|pJ (K0 h g2 x hj (λe=>hf e ⟨h.xg,h.eN,h.nd,h.room.dp,h.room.un,h.fn⟩) I6 Y Q r (f2 d.2) u m w hs) (λ_ _ z=>z.elim) λe' t z=>?_;exact w.2.2.2 _ e' t z
end
noncomputable def JQ(g:CO (Sk×List D)):CO D:=λd=>(g d).bind λa=>match a.1 with
 | .L=>(kL a.2).bind λb=>b.min?.map D.int
 | .T=>bC
theorem ae(g:CO (Sk×List D))(γ:Ctx):JQ g γ=(g γ).bind λz=>match z.1 with
 | .L=>(kL z.2).bind λa=>a.min?.map D.int
 | .T=>bC:=rfl
theorem Ke{X:Cx}(J:X.calm=cI):Zl X (.builtin "min") (λxs H Q=>∃p G,∃M:Int,xs=[.ref p]/\i2 X.K H p ((G:List Int).map V.int)/\M∈G/\(∀a,a∈G->M<=a)/\Q (.int M) H):=by
 intro n s σ H vs us Q I P h;obtain⟨p,G,M,rfl,F,m,C,q⟩:=h;obtain⟨u,rfl,N⟩:=vM P;cases N;obtain⟨z,r,L,O⟩:=I.list F;have U:=λi v=>vj r i v;have o:AllInts z.toArray:=λv B=>by rw[List.mem_toArray]at B;obtain⟨i,b⟩:=List.getElem?_of_mem B;obtain⟨k,t,_,e⟩:=U i v b;exact⟨k,t,e⟩
 obtain⟨xs,d⟩:=o.items;have w:=r.length;rw[pR]at w;have S:xs.size=z.length:=by have:=congrArg Array.size d;simpa[intItems]using this.symm
 have x:0<xs.size:=by have:=List.length_pos_of_mem m;omega
 have W:=L.isList;rw[d]at W;have Y : ∀i,i<xs.size->∃b:i<G.length,numAt xs i=G[i]:=λi b=>by
  have f:i<z.length:=by omega
  obtain⟨k,t,g,R⟩:=U i z[i] (pC f);have O:i<G.length:=by omega
  rw[pC O]at g;cases g;refine⟨O,?_⟩;have y:(intItems xs)[i]? = aI z[i]:=by rw[<- d];simp[f]
  obtain⟨t',l⟩:=intItems_at y;rw[R]at l;exact(uL.inj l).1.symm
 refine min_intList (I.ok.hd J) W x λv Z tk B E=>?_;obtain⟨t,rfl⟩:=intItems_at B;obtain⟨b1,b2⟩:=argBest_lt (numAt xs)<|xs.size - 1;obtain⟨b,e⟩:=Y (argBest (λi j=>decide<|numAt xs i<numAt xs j)<|xs.size - 1) ⋯;have A:numAt xs (argBest (λi j=>decide<|numAt xs i<numAt xs j)<|xs.size - 1)=M:=by refine Int.le_antisymm ?_ (by rw[e];exact C _<|tY b);obtain⟨j,hj,rfl⟩:=List.getElem_of_mem m;obtain⟨T,R⟩:=Y j ⋯;rw[<- R];exact b2 j ⋯
 rw[A];exact⟨.int M,H,I.kept E,⟨_,rfl⟩,q⟩
section
variable{X:Cx}{sc:hH}{N T:List Str}{k:Nat}{e:f6}{fq:CO (Sk×List D)}{p pos:g9}
theorem Wt(h:SX X sc N T k)(c:qe sc "min" = cI)(z:X.mg "min" = bC)(G:PQ X e fq)(hs:hX [e] X.env=[(dV,fk e X.env)]:=by rfl):PV X (.Call (.Name "min" p) [e] [] pos) (JQ fq):=
 jK (kh (Ke h.calm) (h.gl c).1 z PyProof.Rows.boot_min (jH G qB hs) ⋯ ⋯ hs rfl) λw H Q I=>by
  obtain⟨g,o,d,rc,B,q⟩:=I;obtain⟨⟨m,s⟩,i,B⟩:=zc B;cases m with
  | T=>cases B
  | L=>
   obtain⟨n,O,B⟩:=zc B;obtain⟨M,R,rfl⟩:=zw B;obtain⟨U,W⟩:=List.min?_eq_some_iff.mp R;refine⟨g,o,.L,_,rc,i,λa u f b ext l t r=>?_⟩;have j:=ko r O;subst j;exact⟨a,n,M,rfl,l,U,W,q _ f b ext rfl⟩
end
section
variable{X:Cx}{sc:hH}{N L:List Str}{k j n i:Nat}{a b c e:f6}{es:List f6}{g:CO (List D)}{p pos:g9}{x y:Str}{st:h9}{body rest:List h9}{F:List D->Option Res}
open Classical in
end
noncomputable def xV(f:CO D)(g:CO (Sk×List D)):CO D:=λb=>(f b).bind λd=>(g b).bind λa=>match d with
 | .str x=>(JO a.2).map λl=> .bl (!l.any λy=>y==x)
 | _=>bC
section
variable{X:Cx}{sc:hH}{N L:List Str}{k j n i:Nat}{a b c e:f6}{es:List f6}{g:CO (List D)}{p pos:g9}{x:Str}{st:h9}{body rest:List h9}{F:List D->Option Res}
theorem Yp{J:ExceptHandler}{O:List ExceptHandler}{G:g9}{F:CO Fl}(h:m5 X.m7 st F):m5 X (.Try [st] (J::O) [] [] G) F:=by
 intro a s f H D I ⟨R,U,b,e,B,W,Y,d⟩;refine Bn ?_;refine pJ (zk h a s f H D (I.l4 _) ⟨R,U,b,e,_,W,Y,d⟩) (λB g z=>?_) λ_ _ z=>z.elim;have z:=z.o7;cases B with
 | next=>exact Ac z
 | ret v=>exact z
 | brk=>exact z
 | cont=>exact z
end
section
variable{X:Cx}{sc:hH}{N L:List Str}{k j n i:Nat}{a b c e:f6}{es:List f6}{g:CO (List D)}{p pos:g9}{x:Str}{st:h9}{body rest:List h9}{F:List D->Option Res}
theorem xI{c:f6}{G:CO D}(J:PV X a G){I:CO (Sk×List D)}(O:PQ X c I)(P:B8 .NotIn c=dV:=by with_unfolding_all rfl):oI X (.Compare a [.NotIn] [c] pos) (sB<|xV G I):=
 J0 (ZE kY J O P) λM H Q R=>by
  obtain⟨i,h,d,rc,z,q⟩:=R;obtain⟨C,U,W⟩:=zc z;obtain⟨x,m,z⟩:=zc U;obtain⟨⟨g,k⟩,Y,z⟩:=zc z;cases x with
  | str w=>
   obtain⟨l,n,rfl⟩:=zw z;cases W;refine⟨i,h,_,rc,m,λt A b x1 B=>⟨b,h,g,k,rc.ext x1,Y,λp F e j u f E r=>?_⟩⟩;have o:=wz r n;subst o;have s:i2 X.K e p (l.map V.str)\/i4 X.K e p (l.map V.str):=by
    cases g with
    | L=>exact .inl f
    | T=>exact .inr f
   have B:t = .str w:=B;subst B;refine⟨p,_,rfl,s,rfl,wA l,?_⟩;have:CP (.str w) (l.map V.str)=l.any λy=>y==w:=by unfold CP;rw[List.any_map];rfl
   rw[this];exact⟨_,rfl,q e j<|x1.trans u⟩
  | _=>cases z
end
abbrev EG:=Ctx->List Int->List D->Option (Ctx×List Int×List D)
noncomputable def mH(F G:EG):EG:=λd a b=>(F d a b).bind λr=>G r.1 r.2.1 r.2.2
def BZ(e:f6):Str:=match e with | .Name x _=>x | _=>""
noncomputable def BK(e:f6):List Str:=match e with | .Tuple a _ _=>a.map BZ | e=>[BZ e]
noncomputable def Cf(N:List Str)(fs:List Nat):List (Str×Nat):=fs.map λi=>(N.getD i "",i)
theorem ZQ(N:List Str)(fs:List Nat):(Cf N fs).map (·.2)=fs:=by unfold Cf;rw[tq];exact List.map_id fs
def VJ(e:f6):Bool:=match e with | .Name _ _=>cI | _=>dV
theorem J6{e:f6}(h:VJ e=cI) : ∃p,e = .Name (BZ e) p:=by
 unfold VJ at h;split at h
 ·exact⟨_,rfl⟩
 ·cases h
noncomputable def mf(z:hH)(N L:List Str)(is:List Nat)(B:List f6):Bool:=match is with
 | [i,j]=>(match B with | [a,b]=>VJ a && (qU z N L i (BZ a) && (VJ b && qU z N L j (BZ b))) | _=>dV)
 | [i,j,l]=>(match B with | [a,b,c]=>VJ a && (qU z N L i (BZ a) && (VJ b && (qU z N L j (BZ b) && (VJ c && qU z N L l (BZ c))))) | _=>dV)
 | _=>dV
noncomputable def Du(z:hH)(N L:List Str)(e:f6)(T:Tg):Bool:=match T with
 | .nm i=>VJ e && qU z N L i (BZ e)
 | .tp is=>(match e with | .Tuple a _ _=>mf z N L is a | _=>dV)
theorem V2{X:Cx}{G:hH}{N L:List Str}{k:Nat}(h:SX X G N L k){e:f6}{T:Tg}(c:Du G N L e T=cI):PG X e (xB X.K T):=by
 cases T with
 | nm i=>
  have c:=Bool.and_eq_true_iff.mp c;obtain⟨p,q⟩:=J6 c.1;rw[q];exact h.A5 _ c.2
 | tp is=>
  unfold Du at c;dsimp only at c;split at c
  ·next b j pos=>
   unfold mf at c;split at c
   ·split at c
    ·simp only[pB]at c
     obtain⟨z,B,b1,b2⟩:=c;obtain⟨p,q⟩:=J6 z;obtain⟨O,I⟩:=J6 b1;rw[q,I];exact h.Er<|qW (h.A5 _ B)<|qW (h.A5 _ b2) ZH
    ·cases c
   ·split at c
    ·simp only[pB]at c
     obtain⟨z,B,b1,b2,R,a⟩:=c;obtain⟨p,q⟩:=J6 z;obtain⟨O,I⟩:=J6 b1;obtain⟨d,U⟩:=J6 R;rw[q,I,U];exact h.Er<|qW (h.A5 _ B)<|qW (h.A5 _ b2)<|qW (h.A5 _ a) ZH
    ·cases c
   ·cases c
  ·cases c
noncomputable def cB(B scope:hH)(N:List Str)(z:f6)(T:Tg)(n:Nat)(fs:List Nat):Bool:=
 ZT B scope N (Cf N fs) && (gD (BK z) scope (Cf N fs) && (decide (∀i∈T.idx,i<(BK z).length) && (decide ((BK z).length=n) && Du (qV scope B) (BK z++(Cf N fs).map (·.1)) (BK z) z T)))
abbrev CH(X:Cx)(scope:hH)(N:List Str)(tg:f6)(fs:List Nat):=zM X scope (BK tg++(Cf N fs).map (·.1))
abbrev SA(X:Cx)(sc scope:hH)(N:List Str)(tg:f6)(fs:List Nat)(k:Nat)(fp:List cS)(s2:eM)(H2:Hp):Prop:=SX (CH X scope N tg fs fp s2 H2) (qV scope sc) (BK tg++(Cf N fs).map (·.1)) (BK tg) k
section
variable{X:Cx}{sc scope:hH}{N L:List Str}{k n i:Nat}{fs:List Nat}{T:Tg}{e elt tg iter EI:f6}{es:List f6}{pos p py spos cpos:g9}{x y:Str}{f g:CO D}{fo:CO (List D)}{src gl:CO (List D)}{kk:CO Bool}
theorem cA(h:SX X sc N L k)(c:cB sc scope N tg T n fs=cI):zi X scope (Cf N fs)/\(∀i∈T.idx,i<(BK tg).length)/\(BK tg).length=n/\(∀fp H G,SA X sc scope N tg fs k fp H G)/\∀fp H G,PG (CH X scope N tg fs fp H G) tg (xB X.K T):=by unfold cB at c;simp only[pB,decide_eq_true_eq]at c;obtain⟨z,a,B,I,b⟩:=c;have s : ∀fp H G,SA X sc scope N tg fs k fp H G:=λfp H G=>h.comp a;exact⟨h.EJ z,B,I,s,λfp H G=>V2 (s fp H G) b⟩
theorem xp(h:SX X sc N L k)(H:BA X tg iter src)(z : ∀fp G B,SA X sc scope N tg fs k fp G B->PV (CH X scope N tg fs fp G B) elt f)(c:cB sc scope N tg T n fs=cI:=by decide +kernel)(hs : ∀x,xA iter X.env x=pure x:=by intro _;rfl) :
 PO X (.ListComp elt [⟨tg,iter,[],0⟩] scope pos) (zT src T n fs jE f):=by
 obtain⟨a,b,d,s,q⟩:=cA h c;have r:=WG (pos:=pos) h.calm a b H q (λfp G B=>z fp G B<|s fp G B) hs;rw[d,ZQ]at r;exact r
theorem iq(h:SX X sc N L k)(H:BA X tg iter src)(I : ∀fp G B,SA X sc scope N tg fs k fp G B->oI (CH X scope N tg fs fp G B) EI kk)(z : ∀fp G B,SA X sc scope N tg fs k fp G B->PV (CH X scope N tg fs fp G B) elt f)(c:cB sc scope N tg T n fs=cI:=by decide +kernel)(hs : ∀x,xA iter X.env x=pure x:=by intro _;rfl) :
 PO X (.ListComp elt [⟨tg,iter,[EI],0⟩] scope pos) (zT src T n fs kk f):=by
 obtain⟨a,b,d,s,q⟩:=cA h c;have r:=Xa (pos:=pos) h.calm a b H q (λfp G B=>I fp G B<|s fp G B) (λfp G B=>z fp G B<|s fp G B) hs;rw[d,ZQ]at r;exact r
theorem bJ(h:SX X sc N L k)(H:BA X tg iter src)(z : ∀fp G B,SA X sc scope N tg fs k fp G B->PV (CH X scope N tg fs fp G B) elt f)(ct:qU sc N L i y=cI:=by decide +kernel)(c:cB sc scope N tg T n fs=cI:=by decide +kernel)(hs : ∀x,xA iter X.env x=pure x:=by intro _;rfl) :
 PS X (.Assign [.Name y py] (.ListComp elt [⟨tg,iter,[],0⟩] scope cpos) spos) (Qw (tO X.K<|zT src T n fs jE f)<|ku i):=by
 obtain⟨a,b,d,s,q⟩:=cA h c;have r:=FV (cpos:=cpos) (spos:=spos) (py:=py) i h ct h.calm a b H q (λfp G B=>z fp G B<|s fp G B) hs;rw[d,ZQ]at r;exact r
theorem zy(h:SX X sc N L k)(c:qT sc N i x=cI:=by decide +kernel):PV X (.Name x pos) (zl i):=Vl i<|h.var c
theorem zO(h:SX X sc N L k)(c:qT sc N i x=cI:=by decide +kernel):PQ X (.Name x pos) (ze i):=bK i<|h.var c
theorem gr(h:SX X sc N L k)(c:Du sc N L e T=cI:=by decide +kernel):PG X e (xB X.K T):=V2 h c
theorem jG(h:SX X sc N L k)(z:PV X e f)(c:qU sc N L i x=cI:=by decide +kernel)(hs:t6 e (aI (.Name x py)) pos.line X.env=pure dV:=by rfl):m5 X (.Assign [.Name x py] e pos) (jR i f):=vY i<|h.set i c z hs
theorem wU(h:SX X sc N L k)(z:PO X e fo)(c:qU sc N L i x=cI:=by decide +kernel)(hs:t6 e (aI (.Name x py)) pos.line X.env=pure dV:=by rfl):m5 X (.Assign [.Name x py] e pos) (vR i fo):=Jj i<|h.set i c z hs
theorem wR{B:List h9}{F:CO Fl}(hx:X.xe=λ_ _=>False)(h:SX X sc N L k)(G:u7 X tg iter src)(z:Kt X B F)(c:Du sc N L tg T=cI:=by decide +kernel)(hs : ∀x,xA iter X.env x=pure x:=by intro _;rfl):m5 X (.For tg iter B [] pos) (Qh src T F):=WA (cj hx) h.calm G (V2 h c) z hs
variable{j:Nat}{F:List D->Option Res}
theorem zP(H:f9 X.prog X.w X.K X.mg X.base j x n F)(h:SX X sc N L k)(G:z7 X (e::es) n gl)(z:j<=k:=by decide)(c:qe sc x=cI:=by decide +kernel)
 (B:hX (e::es) X.env=(dV,fk e X.env)::hX es X.env:=by rfl) (I:(ow pos<|starEach es X.env).any (·.1)=dV:=by rfl):PV X (.Call (.Name x p) (e::es) [] pos) (zu F gl):=bF H z h c G B I
theorem Yu(H:f9 X.prog X.w X.K X.mg X.base j x n F)(h:SX X sc N L k)(G:z7 X (e::es) n gl)(z:j<=k:=by decide)(c:qe sc x=cI:=by decide +kernel)
 (B:hX (e::es) X.env=(dV,fk e X.env)::hX es X.env:=by rfl) (I:(ow pos<|starEach es X.env).any (·.1)=dV:=by rfl):PO X (.Call (.Name x p) (e::es) [] pos) (kS F gl):=ir H z h c G B I
end
noncomputable def jA:=jO 1<|zI (hI (qo (zN<|sB<|wG<|zl 0)<|zN<|sB<|qL zp zp (zh<|.int 1) (j7<|ze 0)<|zh<|.int 6) (j8<|zh<|.bl dV) zL)<|zI (hI (zN<|sB<|JR<|zU<|zT (z9<|ze 0) (.nm 0) 1 [] jE (Zm (zu zW<|zb (zl 0) zB)<|zt Cc (zl 0)<|zh<|.int 0)) (j8<|zh<|.bl dV) zL)<|j8<|zt zp (KW<|ze 0)<|zh<|.int 30
noncomputable def jT:=jO 1<|zI (hI (zN<|sB<|zu jA<|zb (zl 0) zB) qh zL)<|j8<|ja<|ze 0
noncomputable def jc:=jO 6 (zI (hI (qo (zN (sB (zu zA (zb (zl 3) (zb (zh (.int 2)) zB))))) (sB (xV (eI (ze 3) (zh (.int 0))) (jk (zh (.tup [.str "r",.str "l"])))))) qh zL) (zI (jR 4 (eI (ze 3) (zh (.int 0)))) (zI (jR 5 (zu qs (zb (zl 0) (zb (eI (ze 1) (zu qm (zb (zl 2) (zb (zl 4) zB)))) (zb (eI (ze 1) (zu zZ (zb (zl 2) (zb (zl 4) zB)))) (zb (eI (ze 3) (zh (.int 1))) zB)))))) (j8 (xQ (zb (zl 4) (zb (zl 5) zB)))))))
noncomputable def kD:=jO 5<|zI (hI (zN<|sB<|zu jb<|zb (zl 0) zB) qh zL)<|zI (jR 3<|zu jT<|zb (zl 1) zB)<|zI (hI (zN<|sB<|zu zA<|zb (zl 2)<|zb (zt Zc (j7<|ze 3)<|zh<|.int 1) zB) qh zL)<|zI (jR 4<|qI<|zT (yw<|zl 2) (.tp [0,1]) 2 [0,3] jE (zu jc<|zb (zl 2)<|zb (zl 3)<|zb (zl 0)<|zb (zl 1) zB))<|j8<|xQ<|zb (zl 0)<|zb (zl 3)<|zb (ja<|ze 4) zB
def k4(ns:List Int):D:= .lst (ns.map D.int)
mutual
theorem Dc : ∀d:D,m3 d d=cI
 | .g8=>rfl
 | .bl b=>by simp[m3]
 | .int i=>by simp[m3]
 | .str x=>by simp[m3]
 | .tup e=>by simp only[m3];exact CK e
 | .lst e=>by simp only[m3];exact CK e
 | .exc c n=>by simp[m3]
 | .n4 a b=>by simp only[m3];rw[CK a,CK b];rfl
 | .l6 a b=>by simp only[m3];rw[CK b];simp
 | .ins a b c=>by simp only[m3];rw[Dc b,Dc c];simp
theorem CK : ∀z:List D,Br z z=cI
 | []=>rfl
 | d::z=>by simp only[Br,Dc d,CK z,Bool.and_self]
end
theorem Jy : ∀{l:List D} {n:Nat},(∀d∈l,deep d<=n)->BU l<=n
 | [],n,_=>uU n
 | d::ds,n,h=>by simp only[BU];exact Nat.max_le.mpr ⟨h d rh,Jy λe z=>h e<|pT _ z⟩
theorem Y0(n f):deep (.tup<|xv n f)<=1:=by
 simp only[deep];have:BU (xv n f)<=0:=Jy λd a=>by simp[xv]at a;obtain⟨i,_,rfl⟩:=a;exact pN _
 omega
theorem Xq : ∀{l:List D},(∀d∈l,m8 d=cI)->Bu l=cI
 | [],_=>rfl
 | d::ds,h=>by simp only[Bu,h d rh,Xq λe z=>h e<|pT _ z,Bool.and_self]
theorem cH(h:deep d<=n)(B:n<=20)(z:m8 d=cI):n7 d=cI:=by unfold n7;rw[z,Bool.and_true];exact decide_eq_true<|rV h B
theorem WQ(n f):m8 (.tup<|xv n f)=cI:=by
 simp only[m8];exact Xq λd a=>by simp[xv]at a;obtain⟨i,_,rfl⟩:=a;rfl
theorem WR(n f):n7 (.tup<|xv n f)=cI:=cH (Y0 n f) ⋯<|WQ n f
theorem Y1(h:n7 d=cI):i0 d d=aI (.bl cI):=by unfold i0;rw[GY ⟨h,h⟩,Dc]
theorem wc{d:D}(h:n7 d=cI):mi d d=aI (.bl dV):=by unfold mi;rw[GY ⟨h,h⟩,Dc];rfl
theorem YI(xs:List D)(n:Nat)(hx:xs.length=n)(G : ∀i (h:i<n),∃z,xs[i]'(hx ▸ h) = .int z)(Z:n<=63)(k:Int)(H:0<=k)(c0:k<100000) :
 ∃m,zz [.lst xs,.int k]=aI (.val<|.int m)/\0<=m/\m<1000000007:=by
 have I:Qk k k=cI:=dN k k ⋯ ⋯;have b:Qk (k*k) 7919=cI:=Kh _ _ ⋯ ⋯;have O : ∀z,Qk z 48271=cI:=λz=>Kh _ _ ⋯ ⋯;have R : ∀z,Qk z 69621=cI:=λz=>Kh _ _ ⋯ ⋯;have B:dM 10 9=cI:=by decide
 have e:dM 10 30=cI:=by decide
 by_cases o:n=0
 ·subst o
  simp[zz,jO,jB,jw,I,b,O,R,hx];omega
 ·have M:(0:Int)<n:=by omega
  have U:0<n:=by omega
  obtain⟨i,d⟩:=An (Int.emod_nonneg k<|show(n:Int)≠0 by omega);have f:i<n:=by have:=AW k M;omega
  obtain⟨C,l⟩:=G i f;have x : ¬((n:Int)=0):=by omega
  by_cases J:n=1
  ·subst J
   have W:i=0:=by clear d;omega
   subst W;clear d;simp[zz,jO,jB,jw,I,b,O,R,B,e,hx,l];omega
  ·obtain⟨S,u⟩:=G 0 U
   have W:i9 n 0=aI 0:=by have:=ju n 0;rw[GY U]at this;exact this
   have p:(0:Int)<(n:Int) - 1:=by omega
   have y:(1:Int)<(n:Int):=by omega
   have r:1<n:=by omega
   have A:(n:Int) - 1<1073741824:=by omega
   obtain⟨j,L⟩:=An (Int.emod_nonneg k<|show(n:Int) - 1≠0 by omega);have g:1+j<n:=by have:=AW k p;omega
   obtain⟨T,F⟩:=G (1+j) g;have Q:i9 n (1+(j:Int))=aI (1+j):=by have:=ju n<|1+j;rw[GY g]at this;rw[<- this];congr 1
   have K:0<=k/((n:Int) - 1)/\k/((n:Int) - 1)<=k:=⟨Int.ediv_nonneg H ⋯,Int.ediv_le_self _ H⟩;obtain⟨t,N⟩:=An K.1;have E:inR (t:Int)=cI:=Jt ⋯ ⋯;by_cases w:S%2=1
   ·simp[zz,jO,jB,jw,I,b,O,R,x,y,U,d,f,hx,l,u,W,p,r,A,w,L,g,Q,F,N,E,B,e,o,kf]
    rw[qC t λi=>(i:Int)];have bl : ∀(m s:Nat) (v:Int) (c:Cell),∃Y a,kv (.nm 4) (jR 3<|zt Qj (zl 3)<|zt KB (zh<|D.int 10)<|zh<|D.int 9) ((AB s m).map λ(i:Nat)=>D.int i) [.val (.lst xs),.val<|.int k,.val<|.int C,.val<|.int v,c] =
     aI (.next [.val (.lst xs),.val<|.int k,.val<|.int C,.val<|.int Y,a]):=by
     intro m
     induction m with
     | zero=>intro s v c;exact⟨v,c,rfl⟩
     | succ m P=>
      intro s v c;rw[tX,rM,qr];obtain⟨Y,a,h⟩:=P (s+1) (v/10 ^ 9)<|.val<|.int s;refine⟨Y,a,?_⟩;rw[<- h];simp[B]
    obtain⟨Y,a,h⟩:=bl t 0 T .no;rw[<- tP]at h;rw[h];simp[B];omega
   ·simp[zz,jO,jB,jw,I,b,O,R,x,y,U,d,f,hx,l,u,W,p,r,A,w,B,e,o]
    omega
theorem cL(ns:List Int)(G:ns.length<=63)(k:Int)(B:0<=k)(z:k<100000) : ∃m,zz [k4 ns,.int k]=aI (.val<|.int m)/\0<=m/\m<1000000007:=
 YI (ns.map D.int) ns.length ⋯ (λi a=>⟨ns[i],by simp⟩) G k B z
noncomputable def Zn(ns:List Int)(k:Int):Int:=match zz [k4 ns,.int k]with
 | some (.val<|.int m)=>m
 | _=>0
theorem yD{ns:List Int}(G:ns.length<=63){k:Int}(B:0<=k)(z:k<100000):zz [k4 ns,.int k]=aI (.val<|.int<|Zn ns k)/\0<=Zn ns k/\Zn ns k<1000000007:=by
 obtain⟨m,h,a,b⟩:=cL ns G k B z;have e:Zn ns k=m:=by unfold Zn;rw[h]
 rw[e];exact⟨h,a,b⟩
theorem xY(i:Int):zQ [.int i]=aI (.val<|.bl cI):=by simp[zQ,jO,jB,yU]
theorem yp{B:Type}(l:List B):yq (l.map λ_=>D.bl cI)=aI (l.map λ_=>cI):=by
 induction l with
 | nil=>rfl
 | cons a l z=>simp[yq,gm,z]
theorem Vb{B:Type}(l:List B):((l.map λ_=>cI).all id)=cI:=by
 induction l with
 | nil=>rfl
 | cons a l z=>simp[z]
theorem xS{n:Nat}(f:Nat->Int)(z:n<=lim):jy [.tup (xv n f),.tup (xv n f)]=aI (.val<|.bl cI):=by
 have e:=Y1<|WR n f;simp[jy,jO,jB,jw,yU,z,qu,pF];rw[show jf (.nm 0) jE (zu zQ<|zb (zl 0) zB) [Cell.no] (xv n f)=aI ((pK n).map λ_=>D.bl cI)from by
  rw[qC];refine zS _ _ λi a=>zV rfl rfl ?_;simp[xY]]
 simp[yp,e]
theorem oN(a b c:D):vB [a,b,c] bC (aI 2)=[a,b]:=by simp[vB,ky]
theorem wo{h w:Nat}(f:GK)(B:h<=lim)(G:w<=lim):jq [YW h w f,YW h w f]=aI (.val<|.bl cI):=by
 have e:=wc (d:= .tup [.int h,.int w]) rfl;simp[jq,jO,jB,jw,yU,YW,xY,oN,e,B,kf,qu,pF,vd];rw[qC h λi=>(i:Int)];rw[zS (r:=λ_=>D.bl cI)]
 ·simp[yp]
 ·intro i a
  have z:=sW.mp a;refine zV rfl rfl ?_;simp[z,YZ f z,xS _ G]
theorem xO(c:Str)(n:Option Int)(h:c∈(["NoPrime","Nought","NoTable","NoWidths","NoRow","Unlike","TooMany","NoTurn","NoLine","Nothing","NoArrow","NoText","NoRoom"]:List Str)):qz [.exc c n]=aI (.own [.str c]):=by simp only[pM,rp,or_false]at h;rcases h with rfl | rfl | rfl | rfl | rfl | rfl | rfl | rfl | rfl | rfl | rfl | rfl | rfl<;>kernel_rfl
def CA(b:Bool):Nat:=if b then 108 else 114
def ah(c:Nat):Str:=⟨#[c]⟩
noncomputable def gk(m:Nat)(w:GX):Str:=Str.join "" ((pK m).map λk=>ah (CA (w k)))
def Bs(w:GX)(z:GZ)(k:Nat):Nat:=if w k then z k else z (k+1)
def Bx(w:GX)(z:GZ)(k:Nat):Nat:=if w k then z (k+1)else z k
noncomputable def Ql(w:GX)(z:GZ)(T:GV)(k:Nat):D:= .tup [.str (ah<|CA<|w k),YW (Bs w z k) (Bx w z k) (T k)]
noncomputable def vi(m:Nat)(w:GX)(z:GZ)(T:GV):List D:=(pK m).map (Ql w z T)
noncomputable def QK(p:Int)(m:Nat)(w:GX)(z:GZ)(T:GV):D:= .tup [.int p,.tup<|xv (m+1) λk=>(z k:Int),.tup (vi m w z T)]
@[simp] theorem dR(m w wd T):(vi m w wd T).length=m:=by simp[vi]
noncomputable def Ki:=(zI (hI (qo (zN<|sB<|o4 .tuple<|zl 2)<|qo (sB<|zt mi (j7<|ze 2)<|zh<|.int 2)<|sB<|zt mi (eI (ze 2)<|zh<|.int 0)<|eI (ze 3)<|zh<|.int 0) (j8<|zh<|.bl dV) zL)<|hI (qo (zN<|sB<|o4 .str<|eI (ze 2)<|zh<|.int 0)<|zN<|sB<|zu jq<|zb (eI (ze 2)<|zh<|.int 1)<|zb (eI (ze 3)<|zh<|.int 1) zB) (j8<|zh<|.bl dV) zL)
theorem cE(b:Bool):n7 (.str<|ah<|CA b)=cI:=by cases b<;>decide +kernel
theorem Z0{p:Int}{m:Nat}(w:GX)(G:GZ)(T:GV)(J:m<=900)(H : ∀k,G k<=lim):jV [QK p m w G T,QK p m w G T]=aI (.val<|.bl cI):=by
 have x:=jL;have u:m<=lim:=by omega
 have I:m+1<=lim:=by omega
 have O:Ve (vi m w G T) (vi m w G T)=(pK m).map λk=>D.tup [Ql w G T k,Ql w G T k]:=by unfold Ve vi;rw[List.zip_map'];simp
 have R:=w9 (T:= .tp [2,3]) (F:=Ki)
  (λk e=>∃a z,e=[.val (QK p m w G T),.val<|QK p m w G T,a,z])
  ((pK m).map λk=>D.tup [Ql w G T k,Ql w G T k]) 0 [.val (QK p m w G T),.val<|QK p m w G T,.no,.no] ⟨.no,.no,rfl⟩ (by
    rintro k d e b ⟨a,z,rfl⟩;have l:k<m:=by have:=(pW.mp b).1;simpa using this
    have U:d = .tup [Ql w G T k,Ql w G T k]:=by simp[l]at b;exact b.symm
    subst U;refine⟨_,.inl ?_,.val<|Ql w G T k,.val<|Ql w G T k,rfl⟩;have i:Bs w G k<=lim:=by unfold Bs;split<;>exact H _
    have j:Bx w G k<=lim:=by unfold Bx;split<;>exact H _
    have n:=wo (T k) i j;have o:=wc<|cE<|w k;have W:qg (Ql w G T k)=aI (.T,[.str (ah<|CA<|w k),YW (Bs w G k) (Bx w G k) (T k)]):=rfl;have B:yU .tuple (Ql w G T k)=cI:=rfl;simp only[Kj,rf,List.set_cons_succ,List.set_cons_zero,Ki];rw[jw];have s:yU .str (.str<|ah<|CA<|w k)=cI:=rfl;simp[W,B,o,n,s])
 obtain⟨t,h,a,z,rfl⟩:=R;have r:qg (QK p m w G T)=aI (.T,[.int p,.tup<|xv (m+1) λk=>(G k:Int),.tup (vi m w G T)]):=rfl;have B:yU .tuple (QK p m w G T)=cI:=rfl;have Y:=xS (λk=>(G k:Int)) I;have g:jV=jO 4 (zI (hI (qo (zN<|sB<|o4 .tuple<|zl 0)<|qo (sB<|zt mi (j7<|ze 0)<|zh<|.int 3)<|qo (zN<|sB<|zu zQ<|zb (eI (ze 0)<|zh<|.int 0) zB)<|sB<|zt mi (eI (ze 0)<|zh<|.int 0)<|eI (ze 1)<|zh<|.int 0) (j8<|zh<|.bl dV) zL)<|zI (hI (qo (zN<|sB<|zu jy<|zb (eI (ze 0)<|zh<|.int 1)<|zb (eI (ze 1)<|zh<|.int 1) zB)<|qo (zN<|sB<|o4 .tuple<|eI (ze 0)<|zh<|.int 2)<|sB<|zt mi (j7<|jk<|eI (ze 0)<|zh<|.int 2)<|j7<|jk<|eI (ze 1)<|zh<|.int 2) (j8<|zh<|.bl dV) zL)<|zI (Qh (aZ (eI (ze 0)<|zh<|.int 2)<|eI (ze 1)<|zh<|.int 2) (.tp [2,3]) Ki)<|j8<|zh<|.bl cI):=rfl;rw[g];have f:yU .tuple (.tup<|vi m w G T)=cI:=rfl;simp[jO,jB,jw,r,B,xY,Y,f,O,pF];rw[h];simp
theorem jN(i:Int):zW [.int i]=aI (.val<|.bl cI):=by simp[zW,jO,jB,yU]
abbrev Vc:=Nat->Int
def Ey(r:Nat)(B:Nat->Vc):Vc->Prop:=λv=>∃k,k<r/\v=B k
noncomputable def Un(r:Nat)(B:Nat->Vc)(m:Nat)(W:Nat->Vc):Vc->Prop:=λv=>Ey r B v\/Ey m W v
@[simp] def dW:=@gK.eq_1
@[simp] def lE:=@gO.eq_1
def lX(m z:Nat)(w B:GX):Prop:=m=z/\∀k,k<m->w k=B k
instance (m m':Nat) (w w':GX):Decidable (lX m m' w w'):=inferInstanceAs (Decidable (m=m'/\∀k,k<m->w k=w' k))
section
variable{p:Int}
noncomputable def X5(h w:Nat)(f:GK):List D:=(pK h).map λi=>D.lst<|xv w<|f i
@[simp] theorem dG(h w f):(X5 h w f).length=h:=by simp[X5]
end
@[simp] theorem aq(r):vd (.nest r) = .no:=rfl
@[simp] theorem cK(r):vd (.own r) = .no:=rfl
@[simp] theorem cJ(d):vd (.val d) = .val d:=rfl
@[simp] theorem eW:vd .no = .no:=rfl
section
variable{p:Int}{m:Nat}{w:GX}{wd:GZ}{f g T:GV}
theorem Qe(m:Nat)(F:Nat->D):yM ((pK m).map F)=(pK m).map λ(k:Nat)=>D.tup [.int k,F k]:=by unfold yM;rw[pR,List.length_range];apply uQ;intro k a;have a:=sW.mp a;simp[a]
end
theorem zm(h:F γ=aI (.next γ'))(g:G γ'=r):zI F G γ=r:=by rw[jw,h];exact g
theorem jS(h:F (jB n ds)=aI (.ret r)):jO n F ds=aI r:=by show(F<|jB n ds).bind _=_;rw[h];rfl
noncomputable def vJ:=jO 1 (zI (hI (qo (zN (sB (o4 .str (zl 0)))) (sB (zt Cc (bf (zl 0)) (zh (.int 6))))) (j8 (zh (.bl dV))) zL) (j8 (JR (zU (zT (ba (zl 0)) (.nm 0) 1 [] jE (nZ (zl 0) (jk (zh (.tup [.str "r",.str "l"])))))))))
noncomputable def k6:=jO 2<|zI (hI (qo (zN<|sB<|zu zA<|zb (zl 1)<|zb (zh<|.int 2) zB)<|qo (zN<|sB<|zu Zk<|zb (zl 0)<|zb (eI (ze 1)<|zh<|.int 0) zB)<|zN<|sB<|zu Zk<|zb (zl 0)<|zb (eI (ze 1)<|zh<|.int 1) zB) (j8<|zh<|.bl dV) zL)<|j8<|zt zp (eI (ze 1)<|zh<|.int 0)<|eI (ze 1)<|zh<|.int 1
noncomputable def Ku:=jO 2<|ke<|zT (yw<|zl 0) (.tp [0,1]) 2 [1] (sB<|qL zp zp (eI (ze 1)<|zh<|.int 0) (zl 2)<|eI (ze 1)<|zh<|.int 1) (zl 0)
noncomputable def Z1:=jO 3<|zI (jR 2<|qI<|zT (z9<|ze 0) (.nm 0) 1 [1] jE (ja<|zU<|zT (z9<|ze 1) (.nm 0) 1 [0] jE (eK (sB<|zt i0 (zl 1)<|zl 0) (zh<|.int 1)<|zh<|.int 0)))<|j8<|xQ<|zb (j7<|ze 0)<|zb (j7<|ze 1)<|zb (ja<|ze 2) zB
noncomputable def Qg:=jO 5<|zI (hI (Wg (sB<|zt vr (j7<|ze 0)<|zh<|.int 1)<|sB<|zt i0 (zt qd (eI (ze 0)<|zh<|.int 0)<|zh<|.int 2)<|zh<|.int 1) (zI (jR 2<|eI (ze 0)<|zt qE (zh<|.int 1)<|zt qd (zl 1)<|zt Zc (j7<|ze 0)<|zh<|.int 1)<|zI (Qh (zX<|gO (zh<|.int 60)<|zt Qj (zl 1)<|zt Zc (j7<|ze 0)<|zh<|.int 1) (.nm 3)<|jR 2<|zt Qj (zl 2)<|zt KB (zh<|.int 10)<|zh<|.int 9)<|j8<|zt qd (zl 2)<|zt KB (zh<|.int 10)<|zh<|.int 9) zL)<|zI (jR 4<|zl 1)<|zI (hI (sB<|zt vr (j7<|ze 0)<|zh<|.int 0) (jR 4<|eI (ze 0)<|zt qd (zl 1)<|j7<|ze 0) zL)<|j8<|zt qd (zt wt (zt qd (zt qE (zt qE (zt qE (zt wt (zt qd (zl 4)<|zt KB (zh<|.int 10)<|zh<|.int 30)<|zh<|.int 48271)<|zt wt (zt wt (zh<|.int 7)<|zl 1)<|zl 1)<|zt wt (zh<|.int 13)<|zl 1)<|zh<|.int 5)<|zh<|.int 2147483647)<|zh<|.int 69621)<|zh<|.int 1000000007
noncomputable def ZW(bs:List (Int×Int)):List D:=bs.map λb=>D.tup [.int b.1,.int b.2]
@[simp] theorem dP(bs):(ZW bs).length=bs.length:=by simp[ZW]
noncomputable def V5(bs:List (Int×Int)):List (Int×Int):=(bR bs).map λi=>bs.getD i (0,0)
@[simp] def fN:=@bc.eq_1
section ap
variable(γ:Ctx)
@[simp] def fM:=@ba.eq_1
@[simp] def fQ:=@Vh.eq_1
@[simp] def fR:=@yw.eq_1
@[simp] def ni:=@nZ.eq_1
end ap
noncomputable def oK(b:Int×Int)(r:Int):Bool:=decide (b.1<=r) && decide (r<=b.2)
noncomputable def Vs(bs:List (Int×Int))(r:Int):List Nat:=(pK bs.length).filter λi=>oK (bs.getD i (0,0)) r
def iG(l:List Nat):List D:=l.map λ(i:Nat)=>D.int i
@[simp] theorem eX(l):(iG l).length=l.length:=by simp[iG]
section
variable{p:Int}{m:Nat}{w:GX}{wd:GZ}{T S:GV}
theorem J8(a b:D):zA [.tup [a,b],.int 2]=aI (.val<|.bl cI):=by rfl
end
noncomputable def kE:=jO 3<|j8<|ja<|zU<|zT (z9<|ze 1) (.nm 0) 1 [0,2] jE (zt qd (KW<|zU<|zT (aZ (zl 0)<|zl 2) (.tp [0,1]) 2 [] jE (zt wt (zl 0)<|zl 1))<|zl 1)
noncomputable def yS:=jO 6 (zI (Zv (.tp [4,5]) (zl 1)) (zI (hI (sB (zt i0 (zl 4) (zh (.str "r")))) (j8 (zt i0 (zu kE (zb (zl 0) (zb (eI (ze 5) (zh (.int 2))) (zb (zl 2) zB)))) (zl 3))) zL) (j8 (zt i0 (zu kE (zb (zl 0) (zb (eI (ze 5) (zh (.int 2))) (zb (zl 3) zB)))) (zl 2)))))
noncomputable def qy:List D->Option Xn:=Wh 1 (o8 (zN (sB (zu jA (zb (zl 0) zB)))) (Z3 "NoWidths") t7)
noncomputable def jU:List D->Option Xn:=Wh 6 (wq (o8 (qo (zN (sB (zu zA (zb (zl 3) (zb (zh (.int 2)) zB))))) (sB (xV (eI (ze 3) (zh (.int 0))) (jk (zh (.tup [.str "r",.str "l"])))))) (VX "NoArrow" (zl 2)) t7) (hI (qo (zN (sB (zu zA (zb (zl 3) (zb (zh (.int 2)) zB))))) (sB (xV (eI (ze 3) (zh (.int 0))) (jk (zh (.tup [.str "r",.str "l"])))))) qh zL) (wq t7 (jR 4 (eI (ze 3) (zh (.int 0)))) (VW xM (zb (zl 0) (zb (eI (ze 1) (zu qm (zb (zl 2) (zb (zl 4) zB)))) (zb (eI (ze 1) (zu zZ (zb (zl 2) (zb (zl 4) zB)))) (zb (eI (ze 3) (zh (.int 1))) zB)))) "NoTable" "NoArrow" (zl 2))))
noncomputable def xN:List D->Option Xn:=Wh 5 (wq (o8 (zN (sB (zu jb (zb (zl 0) zB)))) (Z3 "NoPrime") t7) (hI (zN (sB (zu jb (zb (zl 0) zB)))) qh zL) (wq (vL qy (zb (zl 1) zB)) (jR 3 (zu jT (zb (zl 1) zB))) (wq (o8 (zN (sB (zu zA (zb (zl 2) (zb (zt Zc (j7 (ze 3)) (zh (.int 1))) zB))))) (Z3 "NoRow") t7) (hI (zN (sB (zu zA (zb (zl 2) (zb (zt Zc (j7 (ze 3)) (zh (.int 1))) zB))))) qh zL) (VY (yw (zl 2)) (.tp [0,1]) 2 [0,3] (vL jU (zb (zl 2) (zb (zl 3) (zb (zl 0) (zb (zl 1) zB))))) (zu jc (zb (zl 2) (zb (zl 3) (zb (zl 0) (zb (zl 1) zB)))))))))
noncomputable def K7:=(vR 1<|zT (zX<|zt qE (zh<|.int 1)<|zt qd (zu zz<|zb (zl 0)<|zb (zh<|.int 1) zB)<|zh<|.int 6) (.nm 0) 1 [0] jE (zt qd (zu zz<|zb (zl 1)<|zb (zt qE (zh<|.int 2)<|zl 0) zB)<|zh<|.int 5))
noncomputable def K6:=(jR 2<|zt qd (zt Qj (zu zz<|zb (zl 0)<|zb (zh<|.int 1) zB)<|zh<|.int 6)<|zh<|.int 16)
def JW:=(hI (sB<|zt i0 (zl 2)<|zh<|.int 0) (ke<|jF zB) zL)
noncomputable def QN:=(hI (sB<|zt i0 (zl 2)<|zh<|.int 1) (ke<|jF<|zb (zh<|.int 1)<|zb (zh<|.int 2)<|zb (zh<|.int 0)<|zb (zh<|.int 1)<|zb (zh<|.int 2)<|zb (zh<|.int 0)<|zb (zh<|.int 1) zB) zL)
noncomputable def K5:=(jR 3<|zt qd (zt Qj (zu zz<|zb (zl 0)<|zb (zh<|.int 1) zB)<|zh<|.int 96)<|j7<|ze 1)
noncomputable def QM:=(hI (sB<|zt i0 (zl 2)<|zh<|.int 2) (QI 1 (zl 3)<|Kv<|zh<|.int 1) zL)
noncomputable def JV:=(hI (qo (sB<|zt i0 (zl 2)<|zh<|.int 3)<|sB<|zt i0 (zl 2)<|zh<|.int 4) (QI 1 (zl 3)<|zt qE (zt Zc (zh<|.int 30)<|KW<|jk<|qI<|xW (zU<|k9 (ze 1) yi<|n9<|zl 3)<|zU<|k9 (ze 1) (n9<|zt qE (zl 3)<|zh<|.int 1) yi)<|eI (zU<|jF<|zb (zh<|.int 0)<|zb (zh<|.int 1)<|zb (zh<|.int 1)<|zb (Kv<|zh<|.int 1) zB)<|zt qd (zu zz<|zb (zl 0)<|zb (zh<|.int 9) zB)<|zh<|.int 4) zL)
def Wj:=(QJ 1)
noncomputable def jm:=jO 4<|zI K7<|zI K6<|zI JW<|zI QN<|zI K5<|zI QM<|zI JV Wj
def bz:=(vR 2<|jF zB)
noncomputable def Wl:=(Qh (zX (zt Zc (j7 (ze 1)) (zh (.int 1)))) (.nm 3) (zI (jR 4 (yv (zh (.str "rl")) (zt qd (zu zz (zb (zl 0) (zb (zt qE (zh (.int 10)) (zl 3)) zB))) (zh (.int 2))))) (zI (jR 5 (xQ (zb (Zw (zh (.int 0)) (eI (ze 1) (zt qE (zl 3) (zh (.int 1))))) (zb (Zw (zh (.int 0)) (eI (ze 1) (zl 3))) zB)))) (zI (hI (sB (zt i0 (zl 4) (zh (.str "l")))) (jR 5 (xQ (zb (eI (ze 5) (zh (.int 1))) (zb (eI (ze 5) (zh (.int 0))) zB)))) zL) (xi 2 (xQ (zb (zl 4) (zb (qI (zT (zX (eI (ze 5) (zh (.int 0)))) (.nm 0) 1 [5] jE (qI (zT (zX (eI (ze 1) (zh (.int 1)))) (.nm 0) 1 [0] jE (zt qd (zt qE (zl 1) (zl 0)) (zh (.int 7))))))) zB))))))))
def Wk:=(QJ 2)
def jM:=jO 6<|zI bz<|zI Wl Wk
noncomputable def Yb:=(jR 2<|zt qd (zu zz<|zb (zl 0)<|zb (zh<|.int 20) zB)<|zh<|.int 10)
noncomputable def QS:=(hI (sB<|zt i0 (zl 2)<|zh<|.int 0) (j8<|qI<|k9 (ze 1) (n9<|zh<|.int 1) yi) zL)
noncomputable def QR:=(hI (sB (zt i0 (zl 2) (zh (.int 1)))) (ke (xW (ze 1) (zU (jF (zb (xQ (zb (zh (.str "r")) (zb (qI (jF zB)) zB))) zB))))) zL)
noncomputable def QQ:=(hI (qo (sB<|zt i0 (j7<|ze 1)<|zh<|.int 0)<|sB<|zt vr (zl 2)<|zh<|.int 7) (QJ 1) zL)
noncomputable def Ya:=(jR 3<|zt qd (zt Qj (zu zz<|zb (zl 0)<|zb (zh<|.int 20) zB)<|zh<|.int 10)<|j7<|ze 1)
def K9:=(Zv (.tp [4,5])<|eI (ze 1)<|zl 3)
noncomputable def JX:=(hI (sB (zt i0 (zl 2) (zh (.int 2)))) (jR 4 (eI (zU (jF (zb (zh (.str "")) (zb (zh (.str "x")) (zb (zh (.str "R")) (zb (zh (.str "rl")) (zb (zh (.str "-")) zB))))))) (zt qd (zu zz (zb (zl 0) (zb (zh (.int 21)) zB))) (zh (.int 5))))) zL)
noncomputable def QP:=(hI (sB<|zt i0 (zl 2)<|zh<|.int 3) (jR 5<|qI<|k9 (ze 5) (n9<|zh<|.int 1) yi) zL)
noncomputable def QO:=(hI (sB<|zt i0 (zl 2)<|zh<|.int 4) (jR 5<|qI<|xW (ze 5)<|zU<|zT (z9<|zU<|k9 (ze 5) yi<|n9<|zh<|.int 1) (.nm 0) 1 [] jE (qI<|zT (z9<|ze 0) (.nm 0) 1 [] jE (zh<|.int 0))) zL)
noncomputable def wL:=(hI (sB<|zt i0 (zl 2)<|zh<|.int 5) (jR 5<|qI<|xW (zU<|k9 (ze 5) yi<|n9<|Kv<|zh<|.int 1)<|zU<|zT (z9<|zU<|k9 (ze 5) (n9<|Kv<|zh<|.int 1) yi) (.nm 0) 1 [] jE (qI<|xW (ze 0)<|zU<|jF<|zb (zh<|.int 0) zB)) zL)
noncomputable def wK:=(hI (sB<|zt i0 (zl 2)<|zh<|.int 6) (jR 5<|qI<|xW (zU<|k9 (ze 5) yi<|n9<|Kv<|zh<|.int 1)<|zU<|zT (z9<|zU<|k9 (ze 5) (n9<|Kv<|zh<|.int 1) yi) (.nm 0) 1 [] jE (qI<|k9 (ze 0) (n9<|zh<|.int 1) yi)) zL)
noncomputable def wJ:=(hI (sB<|zt i0 (zl 2)<|zh<|.int 7) (jR 5<|qI<|xW (ze 5)<|zU<|jF<|zb (qI<|jF zB) zB) zL)
noncomputable def QT:=(ke<|xW (zU<|xW (zU<|k9 (ze 1) yi<|n9<|zl 3)<|zU<|jF<|zb (xQ<|zb (zl 4)<|zb (zl 5) zB) zB)<|zU<|k9 (ze 1) (n9<|zt qE (zl 3)<|zh<|.int 1) yi)
noncomputable def jx:=jO 6<|zI Yb<|zI QS<|zI QR<|zI QQ<|zI Ya<|zI K9<|zI JX<|zI QP<|zI QO<|zI wL<|zI wK<|zI wJ QT
noncomputable def j6:=jO 6 (zI (Zv (.tp [3,4]) (zl 2)) (zI (hI (sB (xV (zl 3) (jk (xQ (zb (zh (.str "r")) (zb (zh (.str "l")) zB)))))) (j8 (zh (.bl dV))) zL) (zI (jR 5 (xQ (zb (eI (ze 0) (zt qE (zl 1) (zh (.int 1)))) (zb (eI (ze 0) (zl 1)) zB)))) (zI (hI (sB (zt i0 (zl 3) (zh (.str "l")))) (jR 5 (xQ (zb (eI (ze 0) (zl 1)) (zb (eI (ze 0) (zt qE (zl 1) (zh (.int 1)))) zB)))) zL) (j8 (Zm (zt i0 (j7 (ze 4)) (eI (ze 5) (zh (.int 0)))) (JR (zU (zT (z9 (ze 4)) (.nm 0) 1 [5] jE (zt i0 (j7 (ze 0)) (eI (ze 1) (zh (.int 1)))))))))))))
noncomputable def jC:=jO 4 (zI (hI (sB (vS (zl 0) (jk (xQ (zb (zh (.int 2)) (zb (zh (.int 3)) (zb (zh (.int 5)) (zb (zh (.int 7)) zB)))))))) (ke (jF (zb (zh (.str "NoPrime")) (zb (zh (.int 0)) zB)))) zL) (zI (hI (qo (sB (zt BS (j7 (ze 1)) (zh (.int 1)))) (qo (sB (zt vr (j7 (ze 1)) (zh (.int 6)))) (qo (sB (zt BS (JQ (ze 1)) (zh (.int 0)))) (sB (zt vr (KW (ze 1)) (zh (.int 30))))))) (ke (jF (zb (zh (.str "NoWidths")) (zb (zh (.int 0)) zB)))) zL) (zI (hI (sB (zt mi (j7 (ze 2)) (zt Zc (j7 (ze 1)) (zh (.int 1))))) (ke (jF (zb (zh (.str "NoRow")) (zb (zh (.int 0)) zB)))) zL) (zI (Qh (zX (j7 (ze 2))) (.nm 3) (hI (zN (sB (zu j6 (zb (zl 1) (zb (zl 3) (zb (eI (ze 2) (zl 3)) zB)))))) (ke (jF (zb (zh (.str "NoArrow")) (zb (zl 3) zB)))) zL)) (ke (jF (zb (zh (.str "made")) (zb (zh (.int 0)) zB))))))))
noncomputable def ql:=jO 9 (zI (vR 3 (jF zB)) (zI (Qh (zX (j7 (ze 2))) (.nm 4) (zI (Zv (.tp [5,6]) (eI (ze 2) (zl 4))) (zI (jR 7 (xQ (zb (eI (ze 1) (zt qE (zl 4) (zh (.int 1)))) (zb (eI (ze 1) (zl 4)) zB)))) (zI (hI (sB (zt i0 (zl 5) (zh (.str "l")))) (jR 7 (xQ (zb (eI (ze 1) (zl 4)) (zb (eI (ze 1) (zt qE (zl 4) (zh (.int 1)))) zB)))) zL) (zI (jR 8 (ja (zU (zT (z9 (ze 6)) (.nm 0) 1 [0] jE (ja (zU (zT (z9 (ze 0)) (.nm 0) 1 [1] jE (zt qd (zl 0) (zl 1))))))))) (xi 3 (xQ (zb (zl 5) (zb (xQ (zb (eI (ze 7) (zh (.int 0))) (zb (eI (ze 7) (zh (.int 1))) (zb (zl 8) zB)))) zB))))))))) (j8 (xQ (zb (zl 0) (zb (ja (ze 1)) (zb (ja (ze 3)) zB)))))))
noncomputable def Yg:=(jR 1<|eI (zU<|jF<|zb (zh<|.int 2)<|zb (zh<|.int 3)<|zb (zh<|.int 5)<|zb (zh<|.int 7)<|zb (zh<|.int 7)<|zb (zh<|.int 5)<|zb (zh<|.int 3)<|zb (zh<|.int 2)<|zb (zh<|.int 5) zB)<|zt qd (zu zz<|zb (zl 0)<|zb (zh<|.int 0) zB)<|zh<|.int 9)
noncomputable def QW:=(hI (sB<|zt i0 (zt qd (zt Qj (zu zz<|zb (zl 0)<|zb (zh<|.int 0) zB)<|zh<|.int 9)<|zh<|.int 8)<|zh<|.int 1) (jR 1<|eI (zU<|jF<|zb (zh<|.int 0)<|zb (zh<|.int 1)<|zb (zh<|.int 4)<|zb (zh<|.int 6)<|zb (zh<|.int 8)<|zb (zh<|.int 9)<|zb (zh<|.int 11)<|zb (Kv<|zh<|.int 3)<|zb (zh<|.int 13) zB)<|zt qd (zu zz<|zb (zl 0)<|zb (zh<|.int 0) zB)<|zh<|.int 9) zL)
def Yf:=(jR 2<|qI<|kS jm<|zb (zl 0) zB)
noncomputable def Ye:=(jR 3<|zu jx<|zb (zl 0)<|zb (qI<|kS jM<|zb (zl 0)<|zb (zl 2) zB) zB)
noncomputable def Wo:=(jR 4<|qI<|kS jC<|zb (zl 1)<|zb (zl 2)<|zb (zl 3) zB)
def Wn:=(jR 5<|zh .g8)
def Wm:=(jR 6<|zh .g8)
noncomputable def QV:=(ez 6 7 5 kD xN<|zb (zl 1)<|zb (zl 2)<|zb (zl 3) zB)
noncomputable def QU:=(hI (sB (zt dH (zl 5) (zh .g8))) (j8 (Zm (zt i0 (eI (ze 4) (zh (.int 0))) (zh (.str "made"))) (zu jV (zb (zl 6) (zb (zu ql (zb (zl 1) (zb (zl 2) (zb (zl 3) zB)))) zB))))) zL)
noncomputable def Je:=(hI (sB<|zt mi (qI<|kS qz<|zb (zl 5) zB)<|qI<|jF<|zb (eI (ze 4)<|zh<|.int 0) zB) (j8<|zh<|.bl dV) zL)
noncomputable def wM:=(j8 (Em (zt mi (eI (ze 4) (zh (.int 0))) (zh (.str "NoArrow"))) (Zm (zu zQ (zb (eL "at" (zl 5)) zB)) (zt i0 (eL "at" (zl 5)) (eI (ze 4) (zh (.int 1)))))))
noncomputable def xF:=jO 8<|zI Yg<|zI QW<|zI Yf<|zI Ye<|zI Wo<|zI Wn<|zI Wm<|zI QV<|zI QU<|zI Je wM
@[simp] theorem au(h w f):(X5 h w f).length=h:=by simp[X5]
section
variable{p:Int}{h w q r:Nat}
def app(f:GK)(w:Nat)(v:Vc):Vc:=λi=>Zt (λj=>f i j*v j) w
end
structure Ge where
 s:Nat
 n:Nat
 v:Nat->Vc
@[simp] def fZ:=@my.eq_1
section
variable{p:Int}{m:Nat}{w:GX}{wd:GZ}{T:GV}{a:Nat}
abbrev lk(p:Int)(m:Nat)(w:GX)(wd:GZ)(T:GV)(i j:Int)(a:Nat)(ds:List D)(c:Cell):Ctx:=[.val (QK p m w wd T),.val (.int i),.val (.int j),.val (YW a a λi j=>if i=j then 1 else 0),.own ds,c]
end
@[simp] def eh:=@Wf.eq_1
noncomputable def z0:=(Wf 7<|zT (z9<|ze 6) (.nm 0) 1 [0,1,5,8,9] (sB<|zu yS<|zb (zl 1)<|zb (eI (jk<|eI (ze 2)<|zh<|.int 2)<|zl 3)<|zb (zl 5)<|zb (zl 0) zB) (xQ<|zb (zl 4)<|zb (zl 0) zB))
@[simp] theorem el(γ:Ctx)(f):Vh f γ=(f γ).bind λd=>match d with
 | .str z=>if qb z=cI then aI (yM<|QD z)else bC
 | _=>bC:=rfl
@[simp] theorem fX(γ:Ctx)(f g):gR f g γ=(f γ).bind λd=>(g γ).bind λe=>match d,e with
 | .str x,.str y=>if qb x=cI/\qb y=cI then aI (.str<|x++y)else bC
 | _,_=>bC:=rfl
def pr(a b:Nat):D:= .tup [.int a,.int b]
@[simp] theorem mE(a b):qg (pr a b)=aI (.T,[.int (a:Int),.int (b:Int)]):=rfl
noncomputable def mk(lo:Nat)(ch:List Int)(r:Nat):Int:=if lo<=r then ch.getD (r - lo) 0 else 0
noncomputable def iH(h w:Nat)(f:GK):List D:=(pK h).map λi=>D.lst<|xv w<|f i
@[simp] theorem eZ(h w f):(iH h w f).length=h:=by simp[iH]
noncomputable def gu(m:Nat)(w:GX)(z:GZ)(T:GV):List D:=(pK m).map λk=>D.lst<|iH (Bs w z k) (Bx w z k)<|T k
noncomputable def YB(m:Nat)(w:GX)(z:GZ)(T:GV):D:= .tup [.lst (xv (m+1) λk=>(z k:Int)),.lst (gu m w z T)]
noncomputable def de(m:Nat)(w:GX)(B z:GZ)(J:GV):List D:=(pK m).map λk=>YW (Bs w B k) (Bx w z k)<|J k
def wl(l:List Bool):Str:=⟨⟨l.map CA⟩⟩
noncomputable def iF(n k:Nat)(u:Nat->Int):Int:=if 0<k then (if k+1<n then u (k - 1)+(u (k+1)+0)else u (k - 1)+0)else if k+1<n then u (k+1)+0 else 0
noncomputable def mv(n k:Nat)(u:Nat->Int)(i:Nat):Int:=if i=k then iF n k u - u k else u i
noncomputable def off(hs ws:GZ):Nat->Nat
 | 0=>0
 | k+1=>off hs ws k+hs k*ws k
noncomputable def E5(n:Nat)(hs ws:GZ)(T:GV):List D:=(pK n).map λk=>YW (hs k) (ws k)<|T k
def b1:=(hI (zN<|sB<|zu vJ<|zb (zl 1) zB) qh zL)
def b2:=(jR 3<|zt qE (bf<|zl 1)<|zh<|.int 1)
noncomputable def b3:=(hI (zN<|sB<|JR<|zU<|zT (z9<|ze 2) (.nm 0) 1 [3] jE (zu k6<|zb (zl 1)<|zb (zl 0) zB)) qh zL)
def b4:=(jR 4<|qI<|bc<|ze 2)
noncomputable def b5:=(jR 5<|qI<|zT (zX<|zl 3) (.nm 0) 1 [4] jE (qI<|kS Ku<|zb (zl 1)<|zb (zl 0) zB))
noncomputable def b6:=(jR 6<|ja<|zU<|zT (z9<|ze 5) (.nm 0) 1 [] jE (j7<|ze 0))
def b7:=(hI (sB<|zt vr (KW<|ze 6)<|zh<|.int 30) qh zL)
noncomputable def b8:=(jR 7<|qI<|zT (Vh<|zl 1) (.tp [0,1]) 2 [5] jE (xQ<|zb (zl 1)<|zb (zu Z1<|zb (eI (ze 2)<|zu qm<|zb (zl 0)<|zb (zl 1) zB)<|zb (eI (ze 2)<|zu zZ<|zb (zl 0)<|zb (zl 1) zB) zB) zB))
def b9:=(j8<|xQ<|zb (zl 0)<|zb (zl 6)<|zb (ja<|ze 7) zB)
noncomputable def x1:CO Xn:=(o8 (zN (sB (zu vJ (zb (zl 1) zB)))) (Z3 "NoRow") t7)
noncomputable def x3:CO Xn:=(o8 (zN (sB (JR (zU (zT (z9 (ze 2)) (.nm 0) 1 [3] jE (zu k6 (zb (zl 1) (zb (zl 0) zB)))))))) (Z3 "NoRow") t7)
noncomputable def x7:CO Xn:=(o8 (sB (zt vr (KW (ze 6)) (zh (.int 30)))) (Z3 "TooMany") t7)
noncomputable def bt(m:Nat)(bs:List (Int×Int)):List D:=(pK<|m+1).map λ(r:Nat)=>D.lst<|iG<|Vs bs r
noncomputable def VZ(m:Nat)(bs:List (Int×Int)):List D:=xv (m+1) λr=>((Vs bs r).length:Int)
section
variable{p:Int}{m:Nat}{w:GX}{bs:List (Int×Int)}
abbrev g0(p:Int)(z:Str)(bs:List (Int×Int)):Ctx:=[.val (.int p),.val (.str z),.val (.lst (ZW bs)),.no,.no,.no,.no,.no]
abbrev g2(p:Int)(z:Str)(m:Nat)(bs:List (Int×Int)):Ctx:=[.val (.int p),.val (.str z),.val (.lst (ZW bs)),.val (.int ((m+1:Nat):Int)),.no,.no,.no,.no]
abbrev g6(p:Int)(z:Str)(m:Nat)(bs:List (Int×Int)):Ctx:=[.val (.int p),.val (.str z),.val (.lst (ZW bs)),.val (.int ((m+1:Nat):Int)),.val (.lst (ZW (V5 bs))),.val (.lst (bt m (V5 bs))),.val (.tup (VZ m (V5 bs))),.no]
end
noncomputable def FW(n:Nat)(z:List Nat)(u:Nat->Int):Nat->Int:=z.foldl (λu k=>mv n k u) u
noncomputable def EM(n:Nat)(z:List Nat)(u:Nat->Int):Nat->Nat->Int
 | 0=>u
 | j+1=>FW n z<|EM n z u j
noncomputable def acc(n:Nat)(z:List Nat)(u:Nat->Int):Nat->Nat->Int
 | 0=>λ_=>0
 | j+1=>λi=>acc n z u j i+EM n z u j i
noncomputable def oD(n:Nat):Option Vc->D
 | none=> .g8
 | some y=> .tup (xv n y)
abbrev TB:=Nat×Nat×(Nat->Nat->Int)
section
variable{p:Int}{m:Nat}{w:GX}{wd Cj:GZ}{T T' X J:GV}
abbrev fx(p:Int)(m:Nat)(w:GX)(wd Cj:GZ)(T T' X J:GV)(c6 c7 c8 c9 D6 Fp Fq Fs Ft:Cell):Ctx:=
 [.val (.int p),.val<|.str<|gk m w,.val<|YB m w wd T,.val<|YB m w Cj T',.val<|.lst<|de m w wd Cj J,.val<|.lst<|E5 (m+1) wd Cj X,c6,c7,c8,c9,D6,Fp,Fq,Fs,Ft]
end
structure Loc(p:Int)(wl wr wk N:Nat)(la ra hk:GX)(x y u:Nat->Vc)(Tl Tr:GK):Prop where
 FY : ∀z:Vc,∃a:Vc,∀i,i<wl->z i%p=Zt (λj=>if la j=cI then a j*x j i else 0) N%p
 Gn : ∀z:Vc,∃a:Vc,∀i,i<wr->z i%p=Zt (λj=>if ra j=cI then a j*y j i else 0) N%p
 Gi : ∀t:Vc,(∀i,i<wl->Zt (λj=>if la j=cI then t j*x j i else 0) N%p=0)->∀j,j<N->la j=cI->t j%p=0
 inR : ∀t:Vc,(∀i,i<wr->Zt (λj=>if ra j=cI then t j*y j i else 0) N%p=0)->∀j,j<N->ra j=cI->t j%p=0
 FG : ∀t:Vc,(∀i,i<wk->Zt (λj=>if hk j=cI then t j*u j i else 0) N%p=0)->∀j,j<N->hk j=cI->t j%p=0
 Gf : ∀j,j<N->la j=cI->∀i,i<wk->app Tl wl (x j) i%p=(if hk j=cI then u j i else 0)%p
 Gg : ∀j,j<N->ra j=cI->∀i,i<wk->app Tr wr (y j) i%p=(if hk j=cI then u j i else 0)%p
 both : ∀j,la j=cI->ra j=cI->hk j=cI
def kI(s:Nat×Nat):List Int:=[(s.1:Int),(s.2:Int)]
def Z8:List Int->Int
 | []=>0
 | x::r=>x+Z8 r
theorem xf : ∀L:List Int,aS (L.map D.int)=aI (Z8 L)
 | []=>rfl
 | x::L=>by show(aS<|L.map D.int).map _=_;rw[xf L];rfl
section
variable{p:Int}{m:Nat}{w:GX}{wd:GZ}{T:GV}
noncomputable def Qu(w:GX)(wd:GZ)(T:GV)(m:Nat):List D:=(pK m).map λk=>D.lst<|X5 (Bs w wd k) (Bx w wd k)<|T k
@[simp] theorem aL(m):(Qu w wd T m).length=m:=by simp[Qu]
abbrev rc(p:Int)(m:Nat)(w:GX)(wd:GZ)(T:GV)(acc:List D)(c5 c6 c7 c8:Cell):Ctx:=[.val (.int p),.val (.str (gk m w)),.val (.lst (xv (m+1) λk=>(wd k:Int))),.val (.lst (Qu w wd T m)),.own acc,c5,c6,c7,c8]
end
def u1:=(jR 1<|zu Qg<|zb (zl 0)<|zb (zh<|.int 0) zB)
noncomputable def u2:=(jR 2<|eI (zU<|jF<|zb (zh<|.int 2)<|zb (zh<|.int 3)<|zb (zh<|.int 5)<|zb (zh<|.int 7) zB)<|zt qd (zl 1)<|zh<|.int 4)
section
variable{p:Int}{m:Nat}{w:GX}{wd Cj:GZ}{T T' S J X:GV}
abbrev rx(p:Int)(m:Nat)(w:GX)(wd Cj:GZ)(T T' X:GV)(r:Nat)(c6 c7 c8 c9 D6:Cell):Ctx:=
 [.val (.int p),.val<|.str<|gk m w,.val<|YB m w wd T,.val<|YB m w Cj T',.val<|.lst<|E5 m (Bx w Cj) (Bs w wd) λk i j=>X k j i,.val<|.int (r:Int),c6,c7,c8,c9,D6]
noncomputable def Dn:=(jR 6<|qI<|zT (zX<|eI (jk<|eI (ze 3)<|zh<|.int 0)<|zl 5) (.nm 0) 1 [2,5] jE (qI<|gM (zU<|jF<|zb (zh<|.int 0) zB)<|eI (jk<|eI (ze 1)<|zh<|.int 0)<|zl 2))
end
noncomputable def gV(p:Int)(a b:Nat)(c:Int)(v:Vc):Vc:=λi=>if i=b then (v b+c*v a)%p else v i
section
variable{p:Int}{m:Nat}{w:GX}{bs:List (Int×Int)}
abbrev Ct(p:Int)(z:Str)(m:Nat)(bs:List (Int×Int)):Ctx:=[.val (.int p),.val (.str z),.val (.lst (ZW bs)),.val (.int ((m+1:Nat):Int))]
end
section
variable{p:Int}{m a b c d:Nat}{w:GX}{f:Nat->Int}
abbrev FH(a b r:Nat):Prop:=a<=r/\r<=b
end
section
variable{p:Int}{m:Nat}{w:GX}{K K1 K2:List (Int×Int)}{h:GV}
abbrev stK(K:List (Int×Int))(x:Nat):Nat:=(K.getD x (0,0)).1.toNat
abbrev Fv(K:List (Int×Int))(x:Nat):Nat:=(K.getD x (0,0)).2.toNat
abbrev FG(K:List (Int×Int))(x r:Nat):Prop:=FH (stK K x) (Fv K x) r
end
section ap
variable(γ:Ctx)
@[simp] def lU:=@gR.eq_1
@[simp] def mX:=@oW.eq_1
@[simp] theorem lD(f):Kv f γ=((f γ).bind m9).map λi=> .int (-i):=rfl
@[simp] theorem lz(f l h):k9 f l h γ=(f γ).bind λa=>(l γ).bind λlo=>(h γ).bind λz=>match a.1 with
 | .L=>aI (vB a.2 lo z)
 | .T=>bC:=rfl
@[simp] def ay:=@eJ.eq_1
end ap
noncomputable def hR(g:GK)(s k:Nat):Nat->Int:=g<|if k<=s then k - 1 else k
theorem xT{G:CO Xn}{F:CO Fl}{H:CO Xn}{γ γ':Ctx}{r:Option Xn}(B:G γ=bC)(I:F γ=aI (.next γ'))(z:H γ'=r):wq G F H γ=r:=by unfold wq;rw[B,I];exact z
theorem Z2{G:CO Xn}{F:CO Fl}{H:CO Xn}{γ:Ctx}{c:Xn}(z:G γ=aI c):wq G F H γ=aI c:=by unfold wq;rw[z]
def rD(r:List Int):D:= .lst (r.map D.int)
def m4(rows:List (List Int)):D:= .lst (rows.map rD)
def gC(q:Str×List (List Int)):D:= .tup [.str q.1,m4 q.2]
def t4(p:Int):Bool:=decide<|p ∈ [2,3,5,7]
theorem ZG(p:Int):jb [.int p]=aI (.val<|.bl<|t4 p):=by have e:kL [D.int 2,.int 3,.int 5,.int 7]=aI [2,3,5,7]:=rfl;simp[jb,jO,jB,pF,jN,e,t4]
theorem yk(z:List D)(n:Int):zA [.lst z,.int n]=aI (.val<|.bl<|decide<|(z.length:Int)=n):=by simp[zA,jO,jB,pF,wG,yU]
theorem cP(w:Int)(r:List Int)(h:r.length<=lim):jz [.int w,rD r]=aI (.val<|.bl<|decide<|(r.length:Int)=w):=by
 have l:=yk (r.map D.int) w;have a:jf (.nm 0) jE (zu zW<|zb (zl 0) zB) [Cell.no] (r.map D.int)=aI (r.map λ_=>D.bl cI):=zS _ _ λx _=>zV rfl rfl (by simp[jN]);rw[pR]at l;by_cases z:(r.length:Int)=w
 ·simp[jz,jO,jB,pF,rD,l,qu,vd,h,a,z,yp,Vb]
 ·simp[jz,jO,jB,pF,rD,l,z]
noncomputable def Qv(h w:Int)(rows:List (List Int)):Bool:=decide ((rows.length:Int)=h) && rows.all λr=>decide<|(r.length:Int)=w
noncomputable def Dt(p h w:Int)(rows:List (List Int)):D:= .tup [.int h,.int w,.tup (rows.map λr=> .tup (r.map λx=> .int (x%p)))]
theorem vO{B:Type}(l:List B)(f:B->Bool):yq (l.map λx=>D.bl<|f x)=aI (l.map f):=by
 induction l with
 | nil=>rfl
 | cons a l z=>show((yq<|l.map λx=>D.bl<|f x).map _)=_;rw[z];rfl
section
variable{p h w:Int}{rows:List (List Int)}
theorem Xx(z:rows.length<=lim)(O : ∀r∈rows,r.length<=lim)(B I:Cell):JR (zU<|zT (z9<|ze 3) (.nm 0) 1 [2] jE (zu jz<|zb (zl 1)<|zb (zl 0) zB)) [B,I,.val<|.int w,.val (m4 rows)]=aI (.bl<|rows.all λr=>decide<|(r.length:Int)=w):=by
 have a:jf (.nm 0) jE (zu jz<|zb (zl 1)<|zb (zl 0) zB) [Cell.no,.val (.int w)] (rows.map rD)=aI (rows.map λr=>D.bl<|decide<|(r.length:Int)=w):=zS _ _ λr z=>zV rfl rfl (by
  have:=cP w r<|O r z;simp[this])
 have e:(zT (z9<|ze 3) (.nm 0) 1 [2] jE (zu jz<|zb (zl 1)<|zb (zl 0) zB)) [B,I,.val<|.int w,.val (m4 rows)]=aI (rows.map λr=>D.bl<|decide<|(r.length:Int)=w):=by rw[qx];show(if (rows.map rD).length<=lim then _ else _)=_;rw[GY (by simpa using z)];exact a
 rw[Ko,qG,e];show(yq _).map _=_;rw[vO];simp[List.all_map]
theorem Z9(x:Int):jo [.int x]=aI (.val<|.bl<|decide (0<=x) && decide (x<=30)):=by
 by_cases h:0<=x
 ·simp[jo,jO,jB,pF,jN,qL,h]
 ·simp[jo,jO,jB,pF,jN,qL,h]
theorem aM(I:t4 p=cI)(G:0<=h/\h<=30)(B:0<=w/\w<=30)(O:rows.length<=lim)(R : ∀r∈rows,r.length<=lim):xM [.int p,.int h,.int w,m4 rows]=if Qv h w rows=cI then bC else aI (("NoTable" : Str),bC):=by
 have a:=ZG p;have b:=Z9 h;have d:=Z9 w;have l:=yk (rows.map rD) h;rw[I]at a;rw[pR]at l;have U:=Xx (w:=w) O R (.val<|.int p)<|.val<|.int h;show wq _ _ _ _=_;refine xT (γ':=[.val (.int p),.val<|.int h,.val<|.int w,.val (m4 rows)]) (by simp[o8,t7,jB,pF,a]) (by simp[jB,pF,a])<|xT (γ':=[.val (.int p),.val<|.int h,.val<|.int w,.val (m4 rows)]) (by simp[o8,t7,b,d,G,B]) (by simp[b,d,G,B]) ?_;unfold o8;rw[vE,kP,kP,JC,JC,U];unfold Qv;by_cases z:(rows.length:Int)=h
 ·cases q:rows.all λr=>decide ((r.length:Int)=w)<;>simp[m4,l,z,Z3,t7]
 ·simp[m4,l,z,Z3]
theorem aN(B:t4 p=cI)(G:0<=h/\h<=30)(U:0<=w/\w<=30)(O:rows.length<=lim)(R : ∀r∈rows,r.length<=lim)(ok:Qv h w rows=cI):qs [.int p,.int h,.int w,m4 rows]=aI (.val<|Dt p h w rows):=by
 have a:=ZG p;have d:=Z9 h;have e:=Z9 w;have l:=yk (rows.map rD) h;rw[B]at a;rw[pR]at l;have W:=Xx (w:=w) O R (.val<|.int p)<|.val<|.int h;have f:p≠0:=by unfold t4 at B;intro z;rw[z]at B;exact absurd B ⋯
 have Y:0<p:=by unfold t4 at B;have:=of_decide_eq_true B;simp at this;omega
 unfold Qv at ok;rw[pB]at ok;have z:=of_decide_eq_true ok.1;have re : ∀r∈rows,xZ [.int p,rD r]=aI (.val<|.tup<|r.map λx=> .int (x%p)):=λr I=>by have b:jf (.nm 0) jE (zt qd (zl 0)<|zl 1) [Cell.no,.val (.int p)] (r.map D.int)=aI (r.map λx=>D.int<|x%p):=zS _ _ λx _=>zV rfl rfl (by simp[Y]);have:=R r I;simp[xZ,jO,jB,pF,rD,qu,vd,this,b]
 have b:jf (.nm 0) jE (zu xZ<|zb (zl 1)<|zb (zl 0) zB) [Cell.no,.val (.int p)] (rows.map rD)=aI (rows.map λr=>D.tup<|r.map λx=> .int (x%p)):=zS _ _ λr I=>zV rfl rfl (by simp[re r I]);unfold qs;refine jS<|zm (γ':=[.val (.int p),.val<|.int h,.val<|.int w,.val (m4 rows)]) (by simp[jB,pF,a])<|zm (γ':=[.val (.int p),.val<|.int h,.val<|.int w,.val (m4 rows)]) (by simp[d,e,G,U])<|zm (γ':=[.val (.int p),.val<|.int h,.val<|.int w,.val (m4 rows)]) ?_ ?_
 ·rw[qS,vE,kP,kP,JC,JC,W,ok.2]
  simp[m4,l,z]
 ·simp[m4,qu,vd,O]
  rw[b];rfl
end
def BC(l:Str):Bool:=[("r" : Str),"l"].any λy=>y==l
theorem kn{l:Str}(h:BC l=cI):l = "r"\/l = "l":=by
 unfold BC at h;simp only[AN,List.any_nil,Bool.or_false,rC,beq_iff_eq]at h;rcases h with h | h
 ·exact .inl h.symm
 ·exact .inr h.symm
theorem Xs{l:Str}{γ:Ctx}{f:CO D}{g:CO (Sk×List D)}(B:f γ=aI (.str l))(z:g γ=aI (.T,[.str "r",.str "l"])):xV f g γ=aI (.bl (!BC l)):=by show(f γ).bind _=_;rw[B];show(g γ).bind _=_;rw[z];rfl
noncomputable def m6(ws:List Int)(l:Str)(k:Nat):Int:=if l = "r" then ws.getD (k+1) 0 else ws.getD k 0
noncomputable def mu(ws:List Int)(l:Str)(k:Nat):Int:=if l = "r" then ws.getD k 0 else ws.getD (k+1) 0
noncomputable def yV(ws:List Int)(k:Nat)(q:Str×List (List Int)):Bool:=BC q.1 && Qv (m6 ws q.1 k) (mu ws q.1 k) q.2
noncomputable def BO(p:Int)(ws:List Int)(k:Nat)(q:Str×List (List Int)):D:= .tup [.str q.1,Dt p (m6 ws q.1 k) (mu ws q.1 k) q.2]
noncomputable def Kr(q:Str×List (List Int)):Prop:=q.2.length<=lim/\(∀r∈q.2,r.length<=lim)/\n7 (.str q.1)=cI
section
variable{p:Int}{ws:List Int}{k:Nat}{q:Str×List (List Int)}
theorem bu : ¬("r" : Str) = "l":=by decide
theorem wX : ¬("l" : Str) = "r":=by decide
theorem dB(G:k+1<ws.length)(H:Kr q):j6 [.lst (ws.map D.int),.int (k:Int),gC q]=aI (.val<|.bl<|yV ws k q):=by
 have B:k<ws.length:=by omega
 have I:2<=lim:=by have:=jL;omega
 obtain⟨h,g0⟩ : ∃x,ws[k]? = aI x:=⟨_,pC B⟩;obtain⟨x1,O⟩ : ∃x,ws[k+1]? = aI x:=⟨_,pC G⟩;have R:i9 ws.length (k:Int)=aI k:=by rw[ju,GY ⋯]
 have U:i9 ws.length ((k:Int)+1)=aI (k+1):=by rw[show(k:Int)+1=((k+1:Nat):Int)by omega,ju,GY G]
 obtain⟨l,a⟩:=q;let W:Cell:= .val (.lst (ws.map D.int));let K:Cell:= .val (.int (k:Int));let P:Cell:= .val (gC (l,a));have Y:=Xs (l:=l) (γ:=[W,K,P,.val (.str l),.val (m4 a),.no]) (f:=zl 3) (g:=jk (xQ (zb (zh (.str "r")) (zb (zh (.str "l")) zB)))) rfl rfl;show jO 6 (zI (Zv (.tp [3,4]) (zl 2)) _) _=_;refine jS (zm (γ':=[W,K,P,.val (.str l),.val (m4 a),.no]) rfl ?_);cases hl:BC l with
 | false=>
  rw[jw,qS,JC,Y,hl];simp[yV,hl]
 | true=>
  refine zm (γ':=[W,K,P,.val<|.str l,.val<|m4 a,.no]) (by rw[qS,JC,Y,hl];rfl) ?_;refine zm (γ':=[W,K,P,.val<|.str l,.val<|m4 a,.val (.tup [.int (ws.getD (k+1) 0),.int (ws.getD k 0)])]) (by simp[W,K,R,U,g0,O,B,I]) ?_;refine zm (γ':=[W,K,P,.val<|.str l,.val<|m4 a,.val (.tup [.int (m6 ws l k),.int (mu ws l k)])]) ?_ ?_
  ·rcases kn hl with rfl | rfl
   ·have q:i0 (.str "r") (.str "l")=aI (.bl dV):=by kernel_rfl
    simp[W,K,q,m6,mu]
   ·have q:i0 (.str "l") (.str "l")=aI (.bl cI):=by kernel_rfl
    simp[W,K,q,m6,mu,R,U,g0,O,wX,B,I]
  ·have b:jf (.nm 0) jE (zt i0 (j7<|ze 0)<|eI (ze 1)<|zh<|.int 1) [Cell.no,.val (.tup [.int (m6 ws l k),.int (mu ws l k)])] (a.map rD)=aI (a.map λr=>D.bl<|decide<|(r.length:Int)=mu ws l k):=zS _ _ λr _=>zV rfl rfl (by simp[rD])
   have e:(zT (z9<|ze 4) (.nm 0) 1 [5] jE (zt i0 (j7<|ze 0)<|eI (ze 1)<|zh<|.int 1)) [W,K,P,.val<|.str l,.val<|m4 a,.val (.tup [.int (m6 ws l k),.int (mu ws l k)])]=aI (a.map λr=>D.bl<|decide<|(r.length:Int)=mu ws l k):=by rw[qx];show(if (a.map rD).length<=lim then _ else _)=_;rw[GY (by have:=H.1;simpa using this)];exact b
   rw[VS,VT,Ko,qG,e];have d:yq (a.map λr=>D.bl<|decide<|(r.length:Int)=mu ws l k)=aI (a.map λr=>decide<|(r.length:Int)=mu ws l k):=vO _ _;by_cases z:(a.length:Int)=m6 ws l k
   ·simp[m4,z,d,yV,hl,Qv,List.all_map]
   ·simp[m4,z,yV,hl,Qv]
theorem Kk(J:t4 p=cI)(L : ∀x∈ws,0<=x/\x<=30)(H:k+1<ws.length)(Z:k<=1000)(G:Kr q) :
 jU [.int p,.tup (ws.map D.int),.int (k:Int),gC q]=(if yV ws k q=cI then bC else aI (("NoArrow" : Str),aI (k:Int)))/\(yV ws k q=cI->jc [.int p,.tup (ws.map D.int),.int (k:Int),gC q]=aI (.val (BO p ws k q))):=by
 have U:k<ws.length:=by omega
 have n:2<=lim:=by have:=jL;omega
 obtain⟨t,g0⟩ : ∃x,ws[k]? = aI x:=⟨_,pC U⟩;obtain⟨x1,I⟩ : ∃x,ws[k+1]? = aI x:=⟨_,pC H⟩;have e:=L t<|sL g0;have b1:=L x1<|sL I;have h:i9 ws.length (k:Int)=aI k:=by rw[ju,GY ⋯]
 have i:i9 ws.length ((k:Int)+1)=aI (k+1):=by rw[show(k:Int)+1=((k+1:Nat):Int)by omega,ju,GY H]
 have j:inR (k:Int)=cI:=Jt ⋯ ⋯;obtain⟨l,rows⟩:=q;have O:(0<=m6 ws l k/\m6 ws l k<=30)/\(0<=mu ws l k/\mu ws l k<=30):=by
  unfold m6 mu;simp only[Ag,g0,I,uz];split
  ·exact⟨b1,e⟩
  ·exact⟨e,b1⟩
 let A:Cell:= .val (.int p);let W:Cell:= .val (.tup (ws.map D.int));let K:Cell:= .val (.int (k:Int));let P:Cell:= .val (gC (l,rows));have o:=Xs (l:=l) (γ:=[A,W,K,P,.no,.no]) (f:=eI (ze 3) (zh (.int 0))) (g:=jk (zh (.tup [.str "r",.str "l"]))) rfl rfl;have lt:=J8 (.str l) (m4 rows);have R:(qo (zN (sB (zu zA (zb (zl 3) (zb (zh (.int 2)) zB))))) (sB (xV (eI (ze 3) (zh (.int 0))) (jk (zh (.tup [.str "r",.str "l"])))))) [A,W,K,P,.no,.no]=aI (!BC l):=by rw[vE,JC,o];simp[P,gC,lt]
 have a:BC l=cI->(zb (zl 0)<|zb (eI (ze 1)<|zu qm<|zb (zl 2)<|zb (zl 4) zB)<|zb (eI (ze 1)<|zu zZ<|zb (zl 2)<|zb (zl 4) zB)<|zb (eI (ze 3)<|zh<|.int 1) zB) [A,W,K,P,.val<|.str l,.no]=aI [.int p,.int<|m6 ws l k,.int<|mu ws l k,m4 rows]:=λB=>by
  rcases kn B with rfl | rfl
  ·have d:qm [.int (k:Int),.str "r"]=aI (.val (.int ((k:Int)+1))):=by kernel_rfl
   have Y:zZ [.int (k:Int),.str "r"]=aI (.val (.int (k:Int))):=by kernel_rfl
   simp[A,W,K,P,d,Y,h,i,g0,I,U,m6,mu,gC]
  ·have d:qm [.int (k:Int),.str "l"]=aI (.val (.int (k:Int))):=by kernel_rfl
   have Y:zZ [.int (k:Int),.str "l"]=aI (.val (.int ((k:Int)+1))):=by kernel_rfl
   simp[A,W,K,P,d,Y,h,i,g0,I,U,m6,mu,gC,wX]
 have s:=aM (rows:=rows) J O.1 O.2 G.1 G.2.1;refine⟨?_,λb=>?_⟩
 ·show wq _ _ _ [A,W,K,P,.no,.no]=_
  cases B:BC l with
  | false=>
   rw[show yV ws k (l,rows)=dV by simp[yV,B],MQ ⋯];refine Z2 ?_;unfold o8;rw[R,B];simp[VX,K,j]
  | true=>
   refine xT (γ':=[A,W,K,P,.no,.no]) (by unfold o8;rw[R,B];rfl) (by rw[qS,R,B];rfl)<|xT (γ':=[A,W,K,P,.val<|.str l,.no]) rfl rfl ?_;unfold VW;rw[a B,rf,s];have m:yV ws k (l,rows)=Qv (m6 ws l k) (mu ws l k) rows:=by simp[yV,B]
   rw[m];by_cases z:Qv (m6 ws l k) (mu ws l k) rows=cI
   ·rw[GY z,GY z];rfl
   ·rw[MQ z,MQ z]
    simp[K,j]
 ·have B:BC l=cI:=by unfold yV at b;rw[pB]at b;exact b.1
  have ok:Qv (m6 ws l k) (mu ws l k) rows=cI:=by unfold yV at b;rw[pB]at b;exact b.2
  have r:=aN (rows:=rows) J O.1 O.2 G.1 G.2.1 ok;unfold jc;refine jS<|zm (γ':=[A,W,K,P,.no,.no]) ?_ (zm (γ':=[A,W,K,P,.val<|.str l,.no]) rfl<|zm (γ':=[A,W,K,P,.val<|.str l,.val (Dt p (m6 ws l k) (mu ws l k) rows)]) ?_ ?_)
  ·rw[show jB 6 [D.int p,.tup<|ws.map D.int,.int (k:Int),gC (l,rows)]=[A,W,K,P,.no,.no]from rfl,qS,R,B]
   rfl
  ·rw[yQ,ZY,a B,rf,r]
   rfl
  ·simp[BO,n]
end
noncomputable def r6(ws:List Int):Bool:=decide (1<=ws.length) && decide (ws.length<=6) && ws.all (λx=>decide<|0<=x) && decide (Z8 ws<=30)
noncomputable def bad(ws:List Int):Nat->List (Str×List (List Int))->Option Nat
 | _,[]=>bC
 | k,q::r=>if yV ws k q=cI then bad ws (k+1) r else aI k
section
variable{p:Int}{ws:List Int}{k:Nat}{q:Str×List (List Int)}{prs:List (Str×List (List Int))}
theorem Z4(U:ws.length<=100):jA [.lst (ws.map D.int)]=aI (.val<|.bl<|r6 ws):=by
 have g:=jL;have I:ws.length<=lim:=by omega
 let W:Cell:= .val (.lst<|ws.map D.int);have f:jf (.nm 0) jE (Zm (zu zW<|zb (zl 0) zB)<|zt Cc (zl 0)<|zh<|.int 0) [Cell.no] (ws.map D.int)=aI (ws.map λx=>D.bl<|decide<|0<=x):=zS _ _ λx _=>zV rfl rfl (by simp[jN]);have e:(zT (z9<|ze 0) (.nm 0) 1 [] jE (Zm (zu zW<|zb (zl 0) zB)<|zt Cc (zl 0)<|zh<|.int 0)) [W]=aI (ws.map λx=>D.bl<|decide<|0<=x):=by rw[qx];show(if (ws.map D.int).length<=lim then _ else _)=_;rw[GY (by simpa using I)];exact f
 have O:(zN<|sB<|JR<|zU<|zT (z9<|ze 0) (.nm 0) 1 [] jE (Zm (zu zW<|zb (zl 0) zB)<|zt Cc (zl 0)<|zh<|.int 0)) [W]=aI (!(ws.all λx=>decide<|0<=x)):=by rw[kP,JC,Ko,qG,e];have R:yq (ws.map λx=>D.bl<|decide<|0<=x)=aI (ws.map λx=>decide<|0<=x):=vO _ _;simp[R,List.all_map]
 have d:(qo (zN<|sB<|wG<|zl 0)<|zN<|sB<|qL zp zp (zh<|.int 1) (j7<|ze 0)<|zh<|.int 6) [W]=aI (!(decide (1<=ws.length) && decide (ws.length<=6))):=by
  by_cases a:1<=ws.length
  ·have z:(1:Int)<=(ws.length:Int):=by omega
   by_cases b:ws.length<=6
   ·have B:(ws.length:Int)<=6:=by omega
    simp[W,wG,yU,qL,a,b,z,B]
   ·have B : ¬(ws.length:Int)<=6:=by omega
    simp[W,wG,yU,qL,a,b,z,B]
  ·have z : ¬(1:Int)<=(ws.length:Int):=by omega
   simp[W,wG,yU,qL,a,z]
 unfold jA jO;rw[show jB 1 [D.lst (ws.map D.int)]=[W]from rfl,jw,qS,d];unfold r6;cases h1:decide (1<=ws.length) && decide (ws.length<=6)with
 | false=>simp
 | true=>
  simp only[Bool.not_true,rf,Bool.false_eq_true,if_false,aa,Bool.true_and];rw[jw,qS,O];cases h2:ws.all λx=>decide (0<=x)with
  | false=>simp
  | true=>simp[W,xf]
theorem yn : ∀{prs:List (Str×List (List Int))} {k:Nat},bad ws k prs=bC->∀j q,prs[j]? = aI q->yV ws (k+j) q=cI
 | [],_,_,j,q,e=>by simp at e
 | a::r,k,h,j,q,e=>by
  have h:(if yV ws k a=cI then bad ws (k+1) r else aI k)=bC:=h;by_cases z:yV ws k a=cI
  ·rw[GY z]at h
   cases j with
   | zero=>cases e;exact z
   | succ j=>have:=yn h j q e;rw[show k+(j+1)=k+1+j by omega];exact this
  ·rw[MQ z]at h;cases h
end
abbrev wm:=Str×List (List Int)
def pz:wm:=("",[])
theorem xJ{B:Type}(l:List B)(z:B):l=(pK l.length).map λk=>l.getD k z:=by
 apply List.ext_getElem
 ·simp
 ·intro i a b
  simp[Ag,pC a]
section
variable{p:Int}{ws:List Int}{prs:List wm}
theorem Qx : ∀{ws:List Int},(ws.all λx=>decide<|0<=x)=cI->0<=Z8 ws/\∀x∈ws,x<=Z8 ws
 | [],_=>⟨by simp[Z8],λx h=>by cases h⟩
 | a::r,h=>by
  rw[tM,pB]at h;have b:=of_decide_eq_true h.1;obtain⟨d,z⟩:=Qx h.2;have e:Z8 (a::r)=a+Z8 r:=rfl;refine⟨by omega,λx hx=>?_⟩;rcases pM.mp hx with rfl | hx
  ·omega
  ·have:=z x hx;omega
theorem Z6(h:r6 ws=cI):(1<=ws.length/\ws.length<=6)/\∀x∈ws,0<=x/\x<=30:=by
 unfold r6 at h;simp only[pB]at h;obtain⟨⟨⟨b,d⟩,z⟩,B⟩:=h;refine⟨⟨of_decide_eq_true b,of_decide_eq_true d⟩,λx a=>⟨?_,?_⟩⟩
 ·exact of_decide_eq_true<|rz.mp z x a
 ·have:=(Qx z).2 x a
  have:=of_decide_eq_true B;omega
theorem j5{k:Nat}(h:k<prs.length):prs.getD k pz∈prs/\prs[k]? = aI (prs.getD k pz):=by simp only[Ag,pC h,uz];exact⟨tY h,trivial⟩
theorem kx{k:Nat}(h:k<prs.length):prs.drop k=prs.getD k pz::prs.drop (k+1):=by rw[tU h];simp[Ag,pC h]
noncomputable def vA:=(hI (zN (sB (zu j6 (zb (zl 1) (zb (zl 3) (zb (eI (ze 2) (zl 3)) zB)))))) (ke (jF (zb (zh (.str "NoArrow")) (zb (zl 3) zB)))) zL)
theorem Jw(R:prs.length+1=ws.length)(hq : ∀q∈prs,Kr q) : ∀(n s:Nat) (B:Cell),s+n=prs.length->∃U,kv (.nm 3) vA ((AB s n).map λ(j:Nat)=>D.int j) [.val (.int p),.val<|.lst<|ws.map D.int,.val<|.lst<|prs.map gC,B]=aI (match bad ws s (prs.drop s)with
 | some k=> .ret (.own [.str "NoArrow",.int (k:Int)])
 | none=> .next [.val (.int p),.val<|.lst<|ws.map D.int,.val<|.lst<|prs.map gC,U])
 | 0,s,B,h=>⟨B,by rw[Aq ⋯];rfl⟩
 | n+1,s,B,h=>by
  have a:s<prs.length:=by omega
  obtain⟨O,W⟩:=Jw R hq n (s+1) (.val<|.int (s:Int)) ⋯;have f:=dB (ws:=ws) (k:=s) ⋯<|hq _ (j5 a).1;have Y:i9 prs.length (s:Int)=aI s:=by rw[ju,GY a]
  have g0:=(j5 a).2;have st:vA [.val (.int p),.val (.lst (ws.map D.int)),.val (.lst (prs.map gC)),.val (.int (s:Int))]=aI (if yV ws s (prs.getD s pz)=cI then .next [.val (.int p),.val (.lst (ws.map D.int)),.val (.lst (prs.map gC)),.val (.int (s:Int))]else .ret (.own [.str "NoArrow",.int (s:Int)])):=by
   have b:eI (ze 2) (zl 3) [.val (.int p),.val<|.lst<|ws.map D.int,.val<|.lst<|prs.map gC,.val (.int (s:Int))]=aI (gC<|prs.getD s pz):=by rw[af];show((m9<|.int (s:Int)).bind λi=>(i9 (prs.map gC).length i).bind λk=>(prs.map gC)[k]?)=_;rw[pR];show((i9 prs.length (s:Int)).bind λk=>(prs.map gC)[k]?)=_;rw[Y];show(prs.map gC)[s]? = _;rw[rm,g0];rfl
   unfold vA;rw[qS,kP,JC,ZY,kQ,kQ,kQ,b];simp only[VR,dZ,List.getElem?_cons_zero,List.getElem?_cons_succ,ZU,rf,Option.map_some,f];cases yV ws s (prs.getD s pz)<;>simp
  by_cases z:yV ws s (prs.getD s pz)=cI
  ·have I:bad ws s (prs.drop s)=bad ws (s+1) (prs.drop<|s+1):=by rw[kx a];exact GY z
   refine⟨O,?_⟩;rw[I,tX,rM,qr];show((vA [.val (.int p),.val<|.lst<|ws.map D.int,.val<|.lst<|prs.map gC,.val (.int (s:Int))]).bind _)=_;rw[st,GY z];exact W
  ·have I:bad ws s (prs.drop s)=aI s:=by rw[kx a];exact MQ z
   refine⟨O,?_⟩;rw[I,tX,rM,qr];show((vA [.val (.int p),.val<|.lst<|ws.map D.int,.val<|.lst<|prs.map gC,.val (.int (s:Int))]).bind _)=_;rw[st,MQ z];rfl
theorem YV(J:ws.length<=100)(H:prs.length<=100)(G : ∀q∈prs,Kr q):jC [.int p,.lst (ws.map D.int),.lst (prs.map gC)]=aI (.own (if t4 p=dV then [.str "NoPrime",.int 0]else if r6 ws=dV then [.str "NoWidths",.int 0]else if ¬prs.length+1=ws.length then [.str "NoRow",.int 0]else match bad ws 0 prs with
 | some k=>[.str "NoArrow",.int (k:Int)]
 | none=>[.str "made",.int 0])):=by
 have E:=jL;let d:Cell->Ctx:=λc=>[.val (.int p),.val<|.lst<|ws.map D.int,.val<|.lst<|prs.map gC,c];have W:(sB<|vS (zl 0)<|jk<|xQ<|zb (zh<|.int 2)<|zb (zh<|.int 3)<|zb (zh<|.int 5)<|zb (zh<|.int 7) zB) (d .no)=aI (!t4 p):=by
  have e:kL [D.int 2,.int 3,.int 5,.int 7]=aI [2,3,5,7]:=rfl;have u:4<=lim:=by omega
  simp[d,vS,e,t4,u]
 have Y:(qo (sB<|zt BS (j7<|ze 1)<|zh<|.int 1)<|qo (sB<|zt vr (j7<|ze 1)<|zh<|.int 6)<|qo (sB<|zt BS (JQ<|ze 1)<|zh<|.int 0)<|sB<|zt vr (KW<|ze 1)<|zh<|.int 30) (d .no)=aI (!r6 ws):=by
  have m:kL (ws.map D.int)=aI ws:=by
   generalize ws=g
   induction g with
   | nil=>rfl
   | cons z g s=>show((kL<|g.map D.int).map _)=_;rw[s];rfl
  by_cases a:1<=ws.length
  ·have I : ¬(ws.length:Int)<1:=by omega
   by_cases b:ws.length<=6
   ·have O : ¬(6:Int)<(ws.length:Int):=by omega
    obtain⟨M,h⟩ : ∃M,ws.min? = aI M:=by
     cases hz:ws.min? with
     | none=>rw[List.min?_eq_none_iff]at hz;rw[hz]at a;exact absurd a ⋯
     | some M=>exact⟨M,rfl⟩
    obtain⟨w,m2⟩:=List.min?_eq_some_iff.mp h;have A:JQ (ze 1) (d .no)=aI (.int M):=by rw[ae];show((kL<|ws.map D.int).bind _)=_;rw[m];show(ws.min?.map D.int)=_;rw[h];rfl
    have o:(ws.all λx=>decide<|0<=x)=decide (0<=M):=by
     by_cases z:0<=M
     ·rw[decide_eq_true z,rz]
      exact λx r=>decide_eq_true<|Int.le_trans z<|m2 x r
     ·rw[decide_eq_false z]
      cases hh:ws.all λx=>decide (0<=x)with
      | false=>rfl
      | true=>exact absurd (of_decide_eq_true<|rz.mp hh M w) z
    rw[vE,vE,vE,JC,JC,JC,JC];have x3:(zt BS (JQ<|ze 1)<|zh<|.int 0) (d .no)=aI (.bl<|decide<|M<0):=by rw[vG,A];simp
    rw[x3];unfold r6;rw[o];by_cases z:0<=M
    ·have B : ¬M<0:=by omega
     by_cases y:Z8 ws<=30
     ·have U : ¬30<Z8 ws:=by omega
      simp[d,a,b,I,O,z,B,y,U,xf]
     ·have U:30<Z8 ws:=by omega
      simp[d,a,b,I,O,z,B,y,U,xf]
    ·have B:M<0:=by omega
     simp[d,a,b,I,O,z,B]
   ·have O:(6:Int)<(ws.length:Int):=by omega
    simp[d,r6,a,b,I,O]
  ·have I:(ws.length:Int)<1:=by omega
   simp[d,r6,a,I]
 have i:(sB<|zt mi (j7<|ze 2)<|zt Zc (j7<|ze 1)<|zh<|.int 1) (d .no)=aI (decide<|¬prs.length+1=ws.length):=by
  by_cases z:prs.length+1=ws.length
  ·have B:(prs.length:Int)=(ws.length:Int) - 1:=by omega
   simp[d,z,B]
  ·have B : ¬(prs.length:Int)=(ws.length:Int) - 1:=by omega
   simp[d,z,B]
 show jO 4 (zI (hI _ _ _)<|zI (hI _ _ _)<|zI (hI _ _ _)<|zI (Qh _ _ vA) _) _=_;refine jS ?_;show zI _ _ (d .no)=_;cases h1:t4 p with
 | false=>
  rw[jw,qS,W,h1];simp
 | true=>
  refine zm (γ':=d .no) (by rw[qS,W,h1];rfl) ?_;rw[MQ ⋯];cases h2:r6 ws with
  | false=>
   rw[jw,qS,Y,h2];simp
  | true=>
   refine zm (γ':=d .no) (by rw[qS,Y,h2];rfl) ?_;rw[MQ ⋯];by_cases R:prs.length+1=ws.length
   ·refine zm (γ':=d .no) (by rw[qS,i,decide_eq_false (by simpa using R)];rfl) ?_
    rw[MQ (by simpa using R)];obtain⟨C,l⟩:=Jw (p:=p) R G prs.length 0 .no ⋯;rw[<- tP,List.drop_zero]at l;have f:(zX<|j7<|ze 2) (d .no)=aI ((pK prs.length).map λ(j:Nat)=>D.int j):=by
     have n:prs.length<=lim:=by omega
     simp[d,yK n,qY]
    rw[jw,Km,f,rf,l];cases bad ws 0 prs with
    | some k=>rfl
    | none=>
     have t:2<=lim:=by omega
     simp[t]
   ·rw[jw,qS,i,decide_eq_true (by simpa using R),GY (by simpa using R)]
    simp
end
noncomputable def KC(p:Int)(ws:List Int)(prs:List wm):List D:=(pK prs.length).map λk=>BO p ws k<|prs.getD k pz
noncomputable def B4(p:Int)(ws:List Int)(prs:List wm):D:= .tup [.int p,.tup<|ws.map D.int,.tup (KC p ws prs)]
section
variable{p:Int}{ws:List Int}{prs:List wm}
theorem dE:yM (prs.map gC)=(pK prs.length).map λ(k:Nat)=>D.tup [.int k,gC (prs.getD k pz)]:=by
 have e:prs.map gC=(pK prs.length).map λk=>gC (prs.getD k pz):=by
  conv=>lhs;rw[xJ prs pz]
  rw[tq];rfl
 rw[e,Qe]
theorem Zd(B:t4 p=cI)(I : ∀x∈ws,0<=x/\x<=30)(O:prs.length+1=ws.length)(G:prs.length<=100)(hq : ∀q∈prs,Kr q) : ∀(n s:Nat),s+n=prs.length->
 yo (.tp [0,1]) (vL jU (zb (zl 2) (zb (zl 3) (zb (zl 0) (zb (zl 1) zB))))) (zu jc (zb (zl 2) (zb (zl 3) (zb (zl 0) (zb (zl 1) zB))))) [.no,.no,.val (.int p),.val (.tup (ws.map D.int))] ((AB s n).map λ(k:Nat)=>D.tup [.int k,gC (prs.getD k pz)])=(bad ws s (prs.drop s)).map λk=>(("NoArrow" : Str),aI (k:Int))
 | 0,s,h=>by rw[Aq ⋯];rfl
 | n+1,s,h=>by
  have a:s<prs.length:=by omega
  have R:=Zd B I O G hq n (s+1) ⋯;obtain⟨U,W⟩:=Kk (ws:=ws) (k:=s) B I ⋯ ⋯<|hq _ (j5 a).1;rw[tX,rM];show(match vL jU (zb (zl 2)<|zb (zl 3)<|zb (zl 0)<|zb (zl 1) zB) [.val (.int (s:Int)),.val<|gC<|prs.getD s pz,.val<|.int p,.val (.tup<|ws.map D.int)]with
   | some c=>aI c
   | none=>(zu jc (zb (zl 2)<|zb (zl 3)<|zb (zl 0)<|zb (zl 1) zB) [.val (.int (s:Int)),.val<|gC<|prs.getD s pz,.val<|.int p,.val (.tup<|ws.map D.int)]).bind λ_=>yo _ _ _ _ _)=_
  have x1:vL jU (zb (zl 2)<|zb (zl 3)<|zb (zl 0)<|zb (zl 1) zB) [.val (.int (s:Int)),.val<|gC<|prs.getD s pz,.val<|.int p,.val (.tup<|ws.map D.int)]=jU [.int p,.tup<|ws.map D.int,.int (s:Int),gC (prs.getD s pz)]:=rfl;have Y:zu jc (zb (zl 2)<|zb (zl 3)<|zb (zl 0)<|zb (zl 1) zB) [.val (.int (s:Int)),.val<|gC<|prs.getD s pz,.val<|.int p,.val (.tup<|ws.map D.int)]=(jc [.int p,.tup<|ws.map D.int,.int (s:Int),gC (prs.getD s pz)]).map Vj:=rfl;rw[x1,Y,U];by_cases z:yV ws s (prs.getD s pz)=cI
  ·rw[GY z,W z,show bad ws s (prs.drop s)=bad ws (s+1) (prs.drop<|s+1)by rw[kx a];exact GY z]
   exact R
  ·rw[MQ z,show bad ws s (prs.drop s)=aI s by rw[kx a];exact MQ z]
   rfl
theorem Qo(z:ws.length<=100):qy [.lst (ws.map D.int)]=if r6 ws=cI then bC else aI (("NoWidths" : Str),bC):=by have a:=Z4 z;cases h:r6 ws<;>rw[h]at a<;>simp[qy,Wh,o8,Z3,t7,jB,pF,a]
theorem Qp(B:ws.length<=100)(h:r6 ws=cI):jT [.lst (ws.map D.int)]=aI (.val<|.tup<|ws.map D.int):=by
 have a:=Z4 B;have b:=jL;have z:ws.length<=lim:=by omega
 rw[h]at a;simp[jT,jO,jB,jw,pF,a,z]
theorem gU(G:ws.length<=100)(J:prs.length<=100)(H : ∀q∈prs,Kr q) :
 xN [.int p,.lst (ws.map D.int),.lst (prs.map gC)]=(if t4 p=dV then aI (("NoPrime" : Str),bC)else if r6 ws=dV then aI (("NoWidths" : Str),bC)else if ¬prs.length+1=ws.length then aI (("NoRow" : Str),bC)else (bad ws 0 prs).map λk=>(("NoArrow" : Str),aI (k:Int)))/\
 (t4 p=cI->r6 ws=cI->prs.length+1=ws.length->bad ws 0 prs=bC->kD [.int p,.lst<|ws.map D.int,.lst (prs.map gC)]=aI (.val<|B4 p ws prs)):=by
 have n:=jL;have a:=ZG p;have U:prs.length<=lim:=by omega
 have l:=yk<|prs.map gC;let γ:Cell->Cell->Ctx:=λc d=>[.val (.int p),.val<|.lst<|ws.map D.int,.val<|.lst<|prs.map gC,c,d];let W:Cell:= .val (.tup<|ws.map D.int);have I:(zN<|sB<|zu zA<|zb (zl 2)<|zb (zt Zc (j7<|ze 3)<|zh<|.int 1) zB) (γ W .no)=aI (decide<|¬prs.length+1=ws.length):=by
  have O:=l<|(ws.length:Int) - 1;rw[pR]at O;by_cases z:prs.length+1=ws.length
  ·have R:(prs.length:Int)=(ws.length:Int) - 1:=by omega
   simp[γ,W,O,z,R]
  ·have R : ¬(prs.length:Int)=(ws.length:Int) - 1:=by omega
   simp[γ,W,O,z,R]
 have h:yw (zl 2) (γ W .no)=aI ((pK prs.length).map λ(k:Nat)=>D.tup [.int k,gC (prs.getD k pz)]):=by rw[<- dE];simp[γ,yw]
 refine⟨?_,λe b B Y=>?_⟩
 ·show wq _ _ _ (γ .no .no)=_
  cases e:t4 p with
  | false=>
   rw[GY rfl];rw[e]at a;exact Z2 (by simp[o8,Z3,γ,a])
  | true=>
   rw[MQ ⋯];rw[e]at a;refine xT (γ':=γ .no .no) (by simp[o8,t7,γ,a]) (by simp[γ,a]) ?_;cases b:r6 ws with
   | false=>
    rw[GY rfl];refine Z2 ?_;have:=Qo G;rw[b]at this;simpa[vL,γ]using this
   | true=>
    rw[MQ ⋯];have g:=Qo G;rw[b,GY rfl]at g;refine xT (γ':=γ W .no) (by simpa[vL,γ]using g) (by simp[γ,Qp G b,W]) ?_;by_cases B:prs.length+1=ws.length
    ·rw[MQ (by simpa using B)]
     refine xT (γ':=γ W .no) (by unfold o8;rw[I,decide_eq_false (by simpa using B)];rfl) (by rw[qS,I,decide_eq_false (by simpa using B)];rfl) ?_;show(yw (zl 2)<|γ W .no).bind _=_;rw[h,rf,GY (by simpa using U)];have:=Zd (p:=p) e (Z6 b).2 B J H prs.length 0 ⋯;rw[<- tP,List.drop_zero]at this;exact this
    ·rw[GY (by simpa using B)]
     exact Z2 (by unfold o8;rw[I,decide_eq_true (by simpa using B)];rfl)
 ·rw[e]at a
  have j:jf (.tp [0,1]) jE (zu jc<|zb (zl 2)<|zb (zl 3)<|zb (zl 0)<|zb (zl 1) zB) [.no,.no,.val<|.int p,W] ((pK prs.length).map λ(k:Nat)=>D.tup [.int k,gC (prs.getD k pz)])=aI (KC p ws prs):=by unfold KC;refine zS _ _ λk i=>zV rfl rfl ?_;have i:=sW.mp i;have f:=yn Y k _ (j5 i).2;rw[Nat.zero_add]at f;have:=(Kk (ws:=ws) (k:=k) e (Z6 b).2 ⋯ ⋯ (H _ (j5 i).1)).2 f;show(jc [.int p,.tup<|ws.map D.int,.int (k:Int),gC (prs.getD k pz)]).map Vj=_;rw[this];rfl
  have m:3<=lim:=by omega
  unfold kD;refine jS<|zm (γ':=γ .no .no) (by simp[jB,pF,a,γ])<|zm (γ':=γ W .no) (by simp[γ,Qp G b,W])<|zm (γ':=γ W .no) (by rw[qS,I,decide_eq_false (by simpa using B)];rfl)<|zm (γ':=γ W<|.val<|.lst<|KC p ws prs) ?_ ?_
  ·rw[yQ,vF,qx,h,rf,GY (by simpa using U)]
   show((jf _ _ _ [.no,.no,.val<|.int p,W] _).map _).map _=_;rw[j];rfl
  ·simp[γ,W,B4,m]
end
section
variable{p:Int}{ws:List Int}{prs:List wm}
noncomputable def A7(prs:List wm)(k:Nat):Bool:=decide ((prs.getD k pz).1 = "l")
def Qq(ws:List Int)(k:Nat):Nat:=(ws.getD k 0).toNat
noncomputable def D0(p:Int)(prs:List wm)(k i j:Nat):Int:=(((prs.getD k pz).2.getD i []).getD j 0)%p
theorem KY(G:r6 ws=cI)(W:prs.length+1=ws.length)(Y:bad ws 0 prs=bC):B4 p ws prs=QK p prs.length (A7 prs) (Qq ws) (D0 p prs):=by
 obtain⟨_,l⟩:=Z6 G;have B : ∀k,k<ws.length->((Qq ws k:Nat):Int)=ws.getD k 0:=λk a=>by
  have:ws.getD k 0∈ws:=by simp only[Ag,pC a,uz];exact tY a
  exact Int.toNat_of_nonneg (l _ this).1
 have g:ws.map D.int=xv (prs.length+1) λk=>((Qq ws k:Nat):Int):=by
  rw[qC,W]
  conv=>lhs;rw[xJ ws 0]
  rw[tq];exact uQ λk a=>by rw[B k (sW.mp a)];rfl
 have h:KC p ws prs=vi prs.length (A7 prs) (Qq ws) (D0 p prs):=by
  unfold KC vi;refine uQ λk a=>?_;have a:=sW.mp a;have f:=yn Y k _ (j5 a).2;rw[Nat.zero_add]at f;unfold yV Qv at f;simp only[pB]at f;obtain⟨m,O,hc⟩:=f;have O:=of_decide_eq_true O;have hc:=rz.mp hc;have R:=B k ⋯;have d:=B (k+1) ⋯;have z:(prs.getD k pz).1=ah (CA<|A7 prs k)/\((Bs (A7 prs) (Qq ws) k:Nat):Int)=m6 ws (prs.getD k pz).1 k/\((Bx (A7 prs) (Qq ws) k:Nat):Int)=mu ws (prs.getD k pz).1 k:=by
   unfold Bs Bx m6 mu;rcases kn m with e | e
   ·have I:A7 prs k=dV:=by unfold A7;rw[e];exact decide_eq_false bu
    rw[I,e];refine⟨by decide +kernel,?_,?_⟩
    ·rw[GY rfl];exact d
    ·rw[GY rfl];exact R
   ·have I:A7 prs k=cI:=by unfold A7;rw[e];exact decide_eq_true rfl
    rw[I,e];refine⟨by decide +kernel,?_,?_⟩
    ·rw[MQ wX];exact R
    ·rw[MQ wX];exact d
  unfold BO Ql Dt YW;rw[<- z.1,z.2.1,z.2.2];have j:((prs.getD k pz).2.map λr=>D.tup<|r.map λx=> .int (x%p))=KA (Bs (A7 prs) (Qq ws) k) (Bx (A7 prs) (Qq ws) k) (D0 p prs k):=by
   have n:(prs.getD k pz).2.length=Bs (A7 prs) (Qq ws) k:=by have:=z.2.1;omega
   unfold KA
   conv=>lhs;rw[xJ (prs.getD k pz).2 []]
   rw[tq,n];refine uQ λi b=>?_;have b:=sW.mp b;have mem:(prs.getD k pz).2.getD i []∈(prs.getD k pz).2:=by
    have U:i<(prs.getD k pz).2.length:=by omega
    generalize (prs.getD k pz).2=L at U;simp only[Ag,pC U,uz];exact tY _
   have o:((prs.getD k pz).2.getD i []).length=Bx (A7 prs) (Qq ws) k:=by have:=of_decide_eq_true<|hc _ mem;have:=z.2.2;omega
   show D.tup (((prs.getD k pz).2.getD i []).map λx=> .int (x%p))=D.tup (xv _ _);rw[qC]
   conv=>lhs;rw[xJ ((prs.getD k pz).2.getD i []) 0]
   rw[tq,o];rfl
  rw[j]
 unfold B4 QK;rw[g,h]
theorem YM(H:prs.length<=100)(G:r6 ws=cI)(z:prs.length+1=ws.length)(B:bad ws 0 prs=bC):jV [B4 p ws prs,B4 p ws prs]=aI (.val<|.bl cI):=by
 obtain⟨_,I⟩:=Z6 G;have b:=jL;rw[KY G z B];refine Z0 _ _ _ ⋯ λk=>?_;unfold Qq;by_cases a:k<ws.length
 ·have:ws.getD k 0∈ws:=by simp only[Ag,pC a,uz];exact tY a
  have:=(I _ this).2;omega
 ·have:ws.getD k 0=0:=by
   have O:ws.length<=k:=by omega
   simp only[Ag,List.getElem?_eq_none O,Ba]
  rw[this];omega
noncomputable def cN:=(zI (Zv (.tp [5,6]) (eI (ze 2) (zl 4))) (zI (jR 7 (xQ (zb (eI (ze 1) (zt qE (zl 4) (zh (.int 1)))) (zb (eI (ze 1) (zl 4)) zB)))) (zI (hI (sB (zt i0 (zl 5) (zh (.str "l")))) (jR 7 (xQ (zb (eI (ze 1) (zl 4)) (zb (eI (ze 1) (zt qE (zl 4) (zh (.int 1)))) zB)))) zL) (zI (jR 8 (ja (zU (zT (z9 (ze 6)) (.nm 0) 1 [0] jE (ja (zU (zT (z9 (ze 0)) (.nm 0) 1 [1] jE (zt qd (zl 0) (zl 1))))))))) (xi 3 (xQ (zb (zl 5) (zb (xQ (zb (eI (ze 7) (zh (.int 0))) (zb (eI (ze 7) (zh (.int 1))) (zb (zl 8) zB)))) zB))))))))
theorem YJ(pp:0<p){k:Nat}(hk:k+1<ws.length)(hn:k<prs.length)(Z:Kr (prs.getD k pz))(O:BC (prs.getD k pz).1=cI)(acc:List D)(ha:acc.length<lim)(J P H G:Cell) : ∃a4 a5 a6 a7,cN [.val (.int p),.val<|.lst<|ws.map D.int,.val<|.lst<|prs.map gC,.own acc,.val<|.int (k:Int),J,P,H,G]=aI (.next [.val (.int p),.val<|.lst<|ws.map D.int,.val<|.lst<|prs.map gC,.own<|acc++[BO p ws k (prs.getD k pz)],.val<|.int (k:Int),a4,a5,a6,a7]):=by
 have j:=jL;have B:2<=lim:=by omega
 have h:3<=lim:=by omega
 have z:k<ws.length:=by omega
 obtain⟨i,g0⟩ : ∃x,ws[k]? = aI x:=⟨_,pC z⟩;obtain⟨x1,I⟩ : ∃x,ws[k+1]? = aI x:=⟨_,pC hk⟩;have U:i9 ws.length (k:Int)=aI k:=by rw[ju,GY ⋯]
 have W:i9 ws.length ((k:Int)+1)=aI (k+1):=by rw[show(k:Int)+1=((k+1:Nat):Int)by omega,ju,GY hk]
 have Y : ∀d J P H G,eI (ze 2) (zl 4) [.val (.int p),.val<|.lst<|ws.map D.int,.val<|.lst<|prs.map gC,d,.val<|.int (k:Int),J,P,H,G]=aI (gC<|prs.getD k pz):=λd J P H G=>by rw[af];show((i9 (prs.map gC).length (k:Int)).bind λk=>(prs.map gC)[k]?)=_;rw[pR,ju,GY hn];show(prs.map gC)[k]? = _;rw[rm,(j5 hn).2];rfl
 generalize prs.getD k pz=q at Y Z O;obtain⟨l,a⟩:=q;let b:Cell->Cell->Cell->Cell->Ctx:=λJ P H G=>[.val (.int p),.val<|.lst<|ws.map D.int,.val<|.lst<|prs.map gC,.own acc,.val<|.int (k:Int),J,P,H,G];let L:Cell:= .val (.str l);let R:Cell:= .val (m4 a);let V:Cell:= .val (.tup<|a.map λr=> .tup (r.map λx=> .int (x%p)));refine⟨L,R,.val<|.tup [.int (m6 ws l k),.int (mu ws l k)],V,?_⟩;unfold cN;refine zm (γ':=b L R H G) ?_ (zm (γ':=b L R (.val<|.tup [.int x1,.int i]) G) ?_ (zm (γ':=b L R (.val<|.tup [.int (m6 ws l k),.int (mu ws l k)]) G) ?_ (zm (γ':=b L R (.val<|.tup [.int (m6 ws l k),.int (mu ws l k)]) V) ?_ ?_)))
 ·rw[Kl,Y];rfl
 ·simp[b,U,W,g0,I,z,B]
  try exact pX<|(pC z).symm.trans g0
 ·rcases kn O with rfl | rfl
  ·have q:i0 (.str "r") (.str "l")=aI (.bl dV):=by kernel_rfl
   simp[b,L,q,m6,mu,g0,I]
  ·have q:i0 (.str "l") (.str "l")=aI (.bl cI):=by kernel_rfl
   simp[b,L,q,m6,mu,U,W,g0,I,wX,z,B]
 ·have inr : ∀r∈a,jf (.nm 0) jE (zt qd (zl 0)<|zl 1) [Cell.no,.val (.int p)] (r.map D.int)=aI (r.map λx=>D.int<|x%p):=λr _=>zS _ _ λx _=>zV rfl rfl (by simp[pp])
  have g:jf (.nm 0) jE (ja<|zU<|zT (z9<|ze 0) (.nm 0) 1 [1] jE (zt qd (zl 0)<|zl 1)) [Cell.no,.val (.int p)] (a.map rD)=aI (a.map λr=>D.tup<|r.map λx=> .int (x%p)):=zS _ _ λr f=>zV rfl rfl (by
   have:=Z.2.1 r f;have e:(zT (z9<|ze 0) (.nm 0) 1 [1] jE (zt qd (zl 0)<|zl 1)) [.val (rD r),.val (.int p)]=aI (r.map λx=>D.int<|x%p):=by rw[qx];show(if (r.map D.int).length<=lim then _ else _)=_;rw[GY (by simpa using this)];exact inr r f
   show(ja (zU _) [.val (rD r),.val (.int p)])=_;rw[vD,qG,e];simp)
  have e:(zT (z9<|ze 6) (.nm 0) 1 [0] jE (ja<|zU<|zT (z9<|ze 0) (.nm 0) 1 [1] jE (zt qd (zl 0)<|zl 1))) (b L R (.val<|.tup [.int (m6 ws l k),.int (mu ws l k)]) G)=aI (a.map λr=>D.tup<|r.map λx=> .int (x%p)):=by rw[qx];show(if (a.map rD).length<=lim then _ else _)=_;rw[GY (by have:=Z.1;simpa using this)];exact g
  rw[yQ,vD,qG,e];simp[b,V]
 ·simp[b,L,V,ha,BO,Dt,B,h]
theorem cM(B:t4 p=cI)(hw:ws.length<=100)(Z:prs.length<=100)(L : ∀q∈prs,Kr q)(P:prs.length+1=ws.length)(I:bad ws 0 prs=bC):ql [.int p,.lst<|ws.map D.int,.lst (prs.map gC)]=aI (.val<|B4 p ws prs):=by
 have N:=jL;have O:0<p:=by unfold t4 at B;have:=of_decide_eq_true B;simp at this;omega
 have R:3<=lim:=by omega
 have U : ∀(n s:Nat) (z a b d g:Cell),s+n=prs.length->∃W Y m o r,kv (.nm 4) cN ((AB s n).map λ(j:Nat)=>D.int j) [.val (.int p),.val<|.lst<|ws.map D.int,.val<|.lst<|prs.map gC,.own<|(pK s).map λk=>BO p ws k<|prs.getD k pz,z,a,b,d,g]=aI (.next [.val (.int p),.val<|.lst<|ws.map D.int,.val<|.lst<|prs.map gC,.own<|KC p ws prs,W,Y,m,o,r]):=by
  intro n
  induction n with
  | zero=>
   intro s z a b d g h;obtain rfl:s=prs.length:=by omega
   exact⟨z,a,b,d,g,rfl⟩
  | succ n M=>
   intro s z a b d g h;have i:s<prs.length:=by omega
   have f:=yn I s _ (j5 i).2;rw[Nat.zero_add]at f;have K:BC (prs.getD s pz).1=cI:=by unfold yV at f;rw[pB]at f;exact f.1
   obtain⟨x,y,A,C,st⟩:=YJ (ws:=ws) O (show s+1<ws.length by omega) i (L _ (j5 i).1) K ((pK s).map λk=>BO p ws k<|prs.getD k pz) (by simp;omega) a b d g;obtain⟨E,F,G,H,J,e⟩:=M (s+1) (.val<|.int (s:Int)) x y A C ⋯;refine⟨E,F,G,H,J,?_⟩;rw[tX,rM,qr];show((cN [.val (.int p),.val<|.lst<|ws.map D.int,.val<|.lst<|prs.map gC,.own<|(pK s).map λk=>BO p ws k<|prs.getD k pz,.val<|.int (s:Int),a,b,d,g]).bind _)=_;rw[st];rw[List.range_succ,List.map_append]at e;exact e
 obtain⟨z,a,b,d,g,e⟩:=U prs.length 0 .no .no .no .no .no ⋯;rw[<- tP]at e;show jO 9 (zI (vR 3<|jF zB)<|zI (Qh (zX<|j7<|ze 2) (.nm 4) cN) _) _=_;refine jS<|zm (γ':=[.val (.int p),.val<|.lst<|ws.map D.int,.val<|.lst<|prs.map gC,.own [],.no,.no,.no,.no,.no]) rfl<|zm (γ':=[.val (.int p),.val<|.lst<|ws.map D.int,.val<|.lst<|prs.map gC,.own<|KC p ws prs,z,a,b,d,g]) ?_ ?_
 ·have t:prs.length<=lim:=by omega
  have l:(zX<|j7<|ze 2) [.val (.int p),.val<|.lst<|ws.map D.int,.val<|.lst<|prs.map gC,.own [],.no,.no,.no,.no,.no]=aI ((pK prs.length).map λ(j:Nat)=>D.int j):=by simp[yK t,qY]
  rw[Km,l];exact e
 ·have u:ws.length<=lim:=by omega
  have w:(KC p ws prs).length<=lim:=by simp[KC];omega
  simp[B4,R,u,w]
end
theorem K4:jm=jO 4 (zI K7<|zI K6<|zI JW<|zI QN<|zI K5<|zI QM<|zI JV Wj):=rfl
theorem Yc:jM=jO 6 (zI bz<|zI Wl Wk):=rfl
noncomputable def x9{z:Type}(xs:List z)(lo B:Option Int):List z:=(xs.drop<|ky xs.length 0 lo).take (ky xs.length xs.length B - ky xs.length 0 lo)
theorem xy{B:Type}(f:B->D)(xs:List B)(lo z:Option Int):vB (xs.map f) lo z=(x9 xs lo z).map f:=by simp[vB,x9,List.map_drop,List.map_take]
theorem qf{z:Type}{xs:List z}{lo B:Option Int}{x:z}(h:x∈x9 xs lo B):x∈xs:=List.mem_of_mem_drop<|List.mem_of_mem_take h
theorem qQ{B:Type}(xs:List B)(lo z:Option Int):(x9 xs lo z).length<=xs.length:=by unfold x9;rw[sH,Al];omega
section
variable{ns:List Int}
theorem ar(z n:Int)(h:0<n):0<=z%n/\z%n<n:=⟨Int.emod_nonneg _ ⋯,AW _ h⟩
theorem Qn(U:ns.length<=63) : ∃ws:List Int,ws.length<=7/\(∀x∈ws,x<=40)/\jm [k4 ns]=aI (.own<|ws.map D.int):=by
 have hm:=jL;obtain⟨O,w,C⟩:=yD U (k:=1) ⋯ ⋯;obtain⟨b1,b2,b3⟩:=yD U (k:=9) ⋯ ⋯;generalize Zn ns 1=c at O w C;generalize Zn ns 9=d at b1 b2 b3;obtain⟨n,X,hn⟩ : ∃n:Nat,(1:Int)+c%6=(n:Int)/\(1<=n/\n<=6):=by have:=ar c 6 ⋯;exact⟨(1+c%6).toNat,by omega,by omega⟩
 have p:n<=lim:=by omega
 let a:List Int:=(pK n).map λ(k:Nat)=>Zn ns (2+(k:Int))%5;have z:a.length=n:=by simp[a]
 have I : ∀x∈a,0<=x/\x<=4:=λx b=>by obtain⟨k,_,rfl⟩:=uZ.mp b;have:=ar (Zn ns<|2+(k:Int)) 5 ⋯;show 0<=Zn ns (2+(k:Int))%5/\Zn ns (2+(k:Int))%5<=4;omega
 let γ:Cell->Cell->Cell->Ctx:=λH J K=>[.val (k4 ns),H,J,K];have l:K7 (γ .no .no .no)=aI (.next<|γ (.own<|a.map D.int) .no .no):=by
  have k1:jf (.nm 0) jE (zt qd (zu zz<|zb (zl 1)<|zb (zt qE (zh<|.int 2)<|zl 0) zB)<|zh<|.int 5) [Cell.no,Cell.val (k4 ns)] (xv n λi=>(i:Int))=aI (a.map D.int):=by rw[qC];show _=aI (((pK n).map λ(k:Nat)=>Zn ns (2+(k:Int))%5).map D.int);rw[tq];refine zS _ _ λk s=>zV rfl rfl ?_;have s:=sW.mp s;simp[(yD U (k:=2+(k:Int)) ⋯ ⋯).1]
  have sr:(zX<|zt qE (zh<|.int 1)<|zt qd (zu zz<|zb (zl 0)<|zb (zh<|.int 1) zB)<|zh<|.int 6) (γ .no .no .no)=aI (xv n λi=>(i:Int)):=by simp[γ,O,X,yK p,kf]
  rw[K7,W8,qx,sr,rf,GY (by simpa using p)];show((jf _ _ _ [Cell.no,Cell.val (k4 ns)] _).map _)=_;rw[k1];rfl
 obtain⟨y,ey⟩ : ∃y,c/6%16=y:=⟨_,rfl⟩;have m:K6 (γ (.own<|a.map D.int) .no .no)=aI (.next<|γ (.own<|a.map D.int) (.val<|.int y) .no):=by simp[K6,γ,O,ey]
 rw[K4];by_cases W:y=0
 ·refine⟨[],by simp,by simp,jS<|zm (γ':=γ (.own<|a.map D.int) .no .no) l<|zm m ?_⟩
  rw[jw];simp[JW,γ,W]
 by_cases u:y=1
 ·refine⟨[1,2,0,1,2,0,1],by simp,by simp,jS<|zm (γ':=γ (.own<|a.map D.int) .no .no) l<|zm m<|zm (γ':=γ (.own<|a.map D.int) (.val<|.int y) .no) (by simp[JW,γ,W]) ?_⟩
  rw[jw];have l7:7<=lim:=by omega
  simp[QN,γ,u,l7]
 obtain⟨i,T,j⟩ : ∃i:Nat,c/96%(n:Int)=(i:Int)/\i<n:=by have:=ar (c/96) (n:Int) ⋯;exact⟨(c/96%(n:Int)).toNat,by omega,by omega⟩
 have n0:(0:Int)<(n:Int):=by omega
 have E : ¬n=0:=by omega
 have F:0<n:=by omega
 have s3:JW (γ (.own<|a.map D.int) (.val<|.int y) .no)=aI (.next<|γ (.own<|a.map D.int) (.val<|.int y) .no):=by simp[JW,γ,W]
 have s4:QN (γ (.own<|a.map D.int) (.val<|.int y) .no)=aI (.next<|γ (.own<|a.map D.int) (.val<|.int y) .no):=by simp[QN,γ,u]
 have s5:K5 (γ (.own<|a.map D.int) (.val<|.int y) .no)=aI (.next<|γ (.own<|a.map D.int) (.val<|.int y)<|.val<|.int (i:Int)):=by simp[K5,γ,O,z,n0,E,F,T]
 have ii:i9 n (i:Int)=aI i:=by rw[ju,GY j]
 have r : ∀x:Int,(a.map D.int).set i (.int x)=(a.set i x).map D.int:=λx=>by rw[List.map_set]
 obtain⟨f,vl,vb,vc,s6⟩ : ∃f:List Int,f.length=n/\(∀x∈f,x<=40)/\(y≠2->f=a)/\QM (γ (.own<|a.map D.int) (.val<|.int y)<|.val<|.int (i:Int))=aI (.next<|γ (.own<|f.map D.int) (.val<|.int y)<|.val<|.int (i:Int)):=by
  by_cases Y:y=2
  ·refine⟨a.set i (-1),by simp[z],λx b=>?_,λh=>absurd Y h,?_⟩
   ·rcases List.mem_or_eq_of_mem_set b with h | h
    ·have:=I x h;omega
    ·omega
   ·simp[QM,γ,Y,z,ii,<- r,j]
  ·exact⟨a,z,λx b=>by have:=I x b;omega,λ_=>rfl,by simp[QM,γ,Y]⟩
 obtain⟨g,xl,xb,s7⟩ : ∃g:List Int,g.length=n/\(∀x∈g,x<=40)/\JV (γ (.own<|f.map D.int) (.val<|.int y)<|.val<|.int (i:Int))=aI (.next<|γ (.own<|g.map D.int) (.val<|.int y)<|.val<|.int (i:Int)):=by
  by_cases o:y=3\/y=4
  ·have ev:f=a:=vc ⋯
   subst ev;let G:=γ (.own<|a.map D.int) (.val<|.int y)<|.val<|.int (i:Int);let A:=x9 a bC<|some (i:Int);let B:=x9 a (aI ((i:Int)+1)) bC;have P:k9 (ze 1) yi (n9<|zl 3) G=aI (A.map D.int):=by show aI (vB (a.map D.int) bC<|some (i:Int))=_;rw[xy]
   have Q:k9 (ze 1) (n9<|zt qE (zl 3)<|zh<|.int 1) yi G=aI (B.map D.int):=by show aI (vB (a.map D.int) (aI ((i:Int)+1)) bC)=_;rw[xy]
   have la:=qQ a bC<|some (i:Int);have lb:=qQ a (aI ((i:Int)+1)) bC;have L:A.length+B.length<=lim:=by show(x9 a bC<|some (i:Int)).length+(x9 a (aI ((i:Int)+1)) bC).length<=lim;omega
   have S0:0<=Z8 (A++B):=(Qx (rz.mpr λx b=>decide_eq_true (by
    rcases tf.mp b with h | h
    ·exact(I x<|qf h).1
    ·exact(I x<|qf h).1))).1
   have S:KW (jk<|qI<|xW (zU<|k9 (ze 1) yi<|n9<|zl 3)<|zU<|k9 (ze 1) (n9<|zt qE (zl 3)<|zh<|.int 1) yi) G=aI (.int<|Z8<|A++B):=by rw[dU,Y9,vF,wj,qG,qG,P,Q];have:=xf<|A++B;rw[List.map_append]at this;simp[L,this,dQ]
   obtain⟨t,ht,Z⟩ : ∃t:Int,t<=1/\(eI (zU<|jF<|zb (zh<|.int 0)<|zb (zh<|.int 1)<|zb (zh<|.int 1)<|zb (Kv<|zh<|.int 1) zB)<|zt qd (zu zz<|zb (zl 0)<|zb (zh<|.int 9) zB)<|zh<|.int 4) G=aI (.int t):=by
    have R:4<=lim:=by omega
    have:=ar d 4 ⋯;rcases (show d%4=0\/d%4=1\/d%4=2\/d%4=3 by omega)with e | e | e | e
    ·exact⟨0,by omega,by simp[G,γ,b1,e,R,i9]⟩
    ·exact⟨1,by omega,by simp[G,γ,b1,e,R,i9]⟩
    ·exact⟨1,by omega,by simp[G,γ,b1,e,R,i9]⟩
    ·exact⟨-1,by omega,by simp[G,γ,b1,e,R,i9]⟩
   refine⟨a.set i<|30 - Z8 (A++B)+t,by simp[z],λx b=>?_,?_⟩
   ·rcases List.mem_or_eq_of_mem_set b with h | h
    ·exact(by have:=I x h;omega)
    ·omega
   ·have tt:(qo (sB<|zt i0 (zl 2)<|zh<|.int 3)<|sB<|zt i0 (zl 2)<|zh<|.int 4) G=aI cI:=by
     rcases o with h | h<;>simp[G,γ,h]
    show JV G=_;rw[JV,qS,tt,rf,GY rfl,Y8,vG,vG,S,Z,<- r];simp[G,γ,z,ii,j]
  ·have M : ¬y=3:=λh=>o (.inl h)
   have N : ¬y=4:=λh=>o<|.inr h;exact⟨f,vl,vb,by simp[JV,γ,M,N]⟩
 exact⟨g,by omega,xb,jS<|zm (γ':=γ (.own<|a.map D.int) .no .no) l<|zm m<|zm s3<|zm s4<|zm s5<|zm s6<|zm s7<|by simp[Wj,γ]⟩
end
theorem K8:jx=jO 6 (zI Yb<|zI QS<|zI QR<|zI QQ<|zI Ya<|zI K9<|zI JX<|zI QP<|zI QO<|zI wL<|zI wK<|zI wJ QT):=rfl
noncomputable def PB(b:Nat)(q:wm):Prop:=q.2.length<=b/\(∀r∈q.2,r.length<=b)/\n7 (.str q.1)=cI
noncomputable def eR:=(zI (jR 4 (yv (zh (.str "rl")) (zt qd (zu zz (zb (zl 0) (zb (zt qE (zh (.int 10)) (zl 3)) zB))) (zh (.int 2))))) (zI (jR 5 (xQ (zb (Zw (zh (.int 0)) (eI (ze 1) (zt qE (zl 3) (zh (.int 1))))) (zb (Zw (zh (.int 0)) (eI (ze 1) (zl 3))) zB)))) (zI (hI (sB (zt i0 (zl 4) (zh (.str "l")))) (jR 5 (xQ (zb (eI (ze 5) (zh (.int 1))) (zb (eI (ze 5) (zh (.int 0))) zB)))) zL) (xi 2 (xQ (zb (zl 4) (zb (qI (zT (zX (eI (ze 5) (zh (.int 0)))) (.nm 0) 1 [5] jE (qI (zT (zX (eI (ze 1) (zh (.int 1)))) (.nm 0) 1 [0] jE (zt qd (zt qE (zl 1) (zl 0)) (zh (.int 7))))))) zB)))))))
theorem hU:Wl=Qh (zX<|zt Zc (j7<|ze 1)<|zh<|.int 1) (.nm 3) eR:=rfl
section
variable{ns:List Int}
theorem Wi{a b:Nat}(H:a<=40)(J:b<=40)(z B G I O:Cell):(zT (zX<|eI (ze 5)<|zh<|.int 0) (.nm 0) 1 [5] jE (qI<|zT (zX<|eI (ze 1)<|zh<|.int 1) (.nm 0) 1 [0] jE (zt qd (zt qE (zl 1)<|zl 0)<|zh<|.int 7))) [z,B,G,I,O,.val (.tup [.int (a:Int),.int (b:Int)])]=aI (((pK a).map λ(i:Nat)=>(pK b).map λ(j:Nat)=>((i:Int)+(j:Int))%7).map rD):=by
 have e:=jL;have R:a<=lim:=by omega
 have U:b<=lim:=by omega
 have W : ∀i:Nat,jf (.nm 0) jE (zt qd (zt qE (zl 1)<|zl 0)<|zh<|.int 7) [Cell.no,.val (.int (i:Int))] (xv b λj=>(j:Int))=aI (((pK b).map λ(j:Nat)=>((i:Int)+(j:Int))%7).map D.int):=λi=>by rw[qC,tq];exact zS _ _ λj _=>zV rfl rfl ⋯
 have Y:(zX<|eI (ze 5)<|zh<|.int 0) [z,B,G,I,O,.val (.tup [.int (a:Int),.int (b:Int)])]=aI (xv a λi=>(i:Int)):=by simp[yK R,kf]
 rw[qx,Y,rf,GY (by simpa using R)];show jf _ _ _ [Cell.no,.val (.tup [.int (a:Int),.int (b:Int)])] _=_;rw[qC,tq];refine zS _ _ λi _=>zV rfl rfl ?_;have d:(zX<|eI (ze 1)<|zh<|.int 1) [.val (.int (i:Int)),.val (.tup [.int (a:Int),.int (b:Int)])]=aI (xv b λi=>(i:Int)):=by simp[yK U,kf]
 show(qI (zT _ _ _ _ _ _) [.val (.int (i:Int)),.val (.tup [.int (a:Int),.int (b:Int)])])=_;rw[vF,qx,d,rf,GY (by simpa using U)];show((jf _ _ _ [Cell.no,.val (.int (i:Int))] _).map _)=_;rw[W];rfl
theorem YA{ws:List Int}(Z:ns.length<=63)(P:ws.length<=7)(R : ∀x∈ws,x<=40) : ∃prs:List wm,prs.length<=6/\(∀q∈prs,PB 40 q)/\jM [k4 ns,.lst (ws.map D.int)]=aI (.own<|prs.map gC):=by
 have hm:=jL;have step : ∀(k:Nat) (prs:List wm) (z d:Cell),k+1<ws.length->prs.length<=10->∃q Y t,PB 40 q/\eR [.val (k4 ns),.val<|.lst<|ws.map D.int,.own<|prs.map gC,.val<|.int (k:Int),z,d]=aI (.next [.val (k4 ns),.val<|.lst<|ws.map D.int,.own<|(prs++[q]).map gC,.val<|.int (k:Int),Y,t]):=by
  intro k prs z d N hp;have W:2<=lim:=by omega
  have I:k<ws.length:=by omega
  obtain⟨g,g0⟩ : ∃x,ws[k]? = aI x:=⟨_,pC I⟩;obtain⟨x1,g1⟩ : ∃x,ws[k+1]? = aI x:=⟨_,pC N⟩;have E:ws[k]'I=g:=pX<|(pC I).symm.trans g0;have b0:=R g<|sL g0;have b1:=R x1<|sL g1;have Q:i9 ws.length (k:Int)=aI k:=by rw[ju,GY I]
  have S:i9 ws.length ((k:Int)+1)=aI (k+1):=by rw[show(k:Int)+1=((k+1:Nat):Int)by omega,ju,GY N]
  obtain⟨p,T,X⟩:=yD Z (k:=10+(k:Int)) ⋯ ⋯;generalize Zn ns (10+(k:Int))=c at p T X;obtain⟨A,G,K⟩ : ∃A:Nat,(if x1>0 then x1 else 0)=(A:Int)/\A<=40:=⟨(if x1>0 then x1 else 0).toNat,by split<;>omega,by split<;>omega⟩;obtain⟨B,H,L⟩ : ∃B:Nat,(if g>0 then g else 0)=(B:Int)/\B<=40:=⟨(if g>0 then g else 0).toNat,by split<;>omega,by split<;>omega⟩;let f:Cell->Cell->Ctx:=λz d=>[.val (k4 ns),.val<|.lst<|ws.map D.int,.own<|prs.map gC,.val<|.int (k:Int),z,d];have cq:Zw (zh<|.int 0) (eI (ze 1)<|zt qE (zl 3)<|zh<|.int 1)=Zw (zh<|.int 0) (eI (ze 1)<|zt qE (zl 3)<|zh<|.int 1):=rfl;have F : ∀(l:Str) (a b:Nat),n7 (.str l)=cI->a<=40->b<=40->∃q,PB 40 q/\(xi 2<|xQ<|zb (zl 4)<|zb (qI<|zT (zX<|eI (ze 5)<|zh<|.int 0) (.nm 0) 1 [5] jE (qI<|zT (zX<|eI (ze 1)<|zh<|.int 1) (.nm 0) 1 [0] jE (zt qd (zt qE (zl 1)<|zl 0)<|zh<|.int 7))) zB) (f (.val<|.str l)<|.val<|.tup [.int (a:Int),.int (b:Int)])=aI (.next [.val (k4 ns),.val<|.lst<|ws.map D.int,.own<|(prs++[q]).map gC,.val<|.int (k:Int),.val<|.str l,.val (.tup [.int (a:Int),.int (b:Int)])]):=by
   intro l a b P M R;refine⟨(l,(pK a).map λ(i:Nat)=>(pK b).map λ(j:Nat)=>((i:Int)+(j:Int))%7),⟨by simpa using M,λr hr=>?_,P⟩,?_⟩
   ·obtain⟨i,_,rfl⟩:=uZ.mp hr
    simpa using R
   ·have e:=Wi M R (.val<|k4 ns) (.val<|.lst<|ws.map D.int) (.own<|prs.map gC) (.val<|.int (k:Int)) (.val<|.str l)
    have c1:prs.length<lim:=by omega
    rw[Kn,dS,kQ,kQ,vF];show((qw<|some (Cell.own<|prs.map gC)).bind _)=_;simp only[f,e];simp[c1,W,gC,m4]
  rcases (show c%2=0\/c%2=1 by omega)with e | e
  ·have C:yv (zh (.str "rl")) (zt qd (zu zz (zb (zl 0) (zb (zt qE (zh (.int 10)) (zl 3)) zB))) (zh (.int 2))) (f z d)=aI (.str "r"):=by
    simp[f,p,e,yv];exact⟨by kernel_rfl,by kernel_rfl⟩
   obtain⟨q,m,eq⟩:=F "r" A B (by kernel_rfl) K L;have w:i0 (.str "r") (.str "l")=aI (.bl dV):=by kernel_rfl
   refine⟨q,_,_,m,zm (γ':=f (.val (.str "r")) d) (by rw[yQ,C];rfl) (zm (γ':=f (.val (.str "r")) (.val (.tup [.int (A:Int),.int (B:Int)]))) (by simp[f,Q,S,g0,g1,I,W,E,<- G,<- H]) (zm (γ':=f (.val (.str "r")) (.val (.tup [.int (A:Int),.int (B:Int)]))) (by simp[f,w]) eq))⟩
  ·have C:yv (zh (.str "rl")) (zt qd (zu zz (zb (zl 0) (zb (zt qE (zh (.int 10)) (zl 3)) zB))) (zh (.int 2))) (f z d)=aI (.str "l"):=by
    simp[f,p,e,yv];exact⟨by kernel_rfl,by kernel_rfl⟩
   obtain⟨q,m,eq⟩:=F "l" B A (by kernel_rfl) L K;have w:i0 (.str "l") (.str "l")=aI (.bl cI):=by kernel_rfl
   refine⟨q,_,_,m,zm (γ':=f (.val (.str "l")) d) (by rw[yQ,C];rfl) (zm (γ':=f (.val (.str "l")) (.val (.tup [.int (A:Int),.int (B:Int)]))) (by simp[f,Q,S,g0,g1,I,W,E,<- G,<- H]) (zm (γ':=f (.val (.str "l")) (.val (.tup [.int (B:Int),.int (A:Int)]))) (by simp[f,w,W]) eq))⟩
 obtain⟨n,en⟩ : ∃n:Nat,n=ws.length - 1:=⟨_,rfl⟩;have c2 : ∀(j s:Nat) (prs:List wm) (O z d:Cell),s+j=n->prs.length=s->(∀q∈prs,PB 40 q)->∃(U:List wm) (c6 Y t:Cell),U.length=n/\(∀q∈U,PB 40 q)/\kv (.nm 3) eR ((AB s j).map λ(i:Nat)=>D.int i) [.val (k4 ns),.val<|.lst<|ws.map D.int,.own<|prs.map gC,O,z,d]=aI (.next [.val (k4 ns),.val<|.lst<|ws.map D.int,.own<|U.map gC,c6,Y,t]):=by
  intro j
  induction j with
  | zero=>intro s prs O z d J o u;exact⟨prs,O,z,d,by omega,u,rfl⟩
  | succ j ih=>
   intro s prs O z d J o u;obtain⟨q,d4,d5,m,st⟩:=step s prs z d ⋯ ⋯;obtain⟨U,e3,e4,e5,cf,ch,e⟩:=ih (s+1) (prs++[q]) (.val<|.int (s:Int)) d4 d5 ⋯ (by simp[o]) (λx hx=>by
    rcases tf.mp hx with h | h
    ·exact u x h
    ·rw[tD.mp h];exact m)
   refine⟨U,e3,e4,e5,cf,ch,?_⟩;rw[tX,rM,qr];show((eR [.val (k4 ns),.val<|.lst<|ws.map D.int,.own<|prs.map gC,.val<|.int (s:Int),z,d]).bind _)=_;rw[st];exact e
 obtain⟨prs,O,z,d,J,o,e⟩:=c2 n 0 [] .no .no .no ⋯ rfl (λq h=>by cases h);refine⟨prs,by omega,o,?_⟩;rw[<- tP]at e;rw[Yc];refine jS<|zm (γ':=[.val (k4 ns),.val<|.lst<|ws.map D.int,.own [],.no,.no,.no]) rfl<|zm (γ':=[.val (k4 ns),.val<|.lst<|ws.map D.int,.own<|prs.map gC,O,z,d]) ?_ (by simp[Wk]);have y:(zX<|zt Zc (j7<|ze 1)<|zh<|.int 1) [.val (k4 ns),.val<|.lst<|ws.map D.int,.own [],.no,.no,.no]=aI ((pK n).map λ(i:Nat)=>D.int i):=by
  have r1:inR ((ws.length:Int) - 1)=cI:=Jt ⋯ ⋯;have r2:((ws.length:Int) - 1).toNat=n:=by omega
  simp[r1,r2,qY]
 rw[hU,Km,y];exact e
end
theorem PB.ER{b:Nat}{q:wm}(h:PB b q)(B:b<=2500):Kr q:=by have:=jL;exact⟨by have:=h.1;omega,λr z=>by have:=h.2.1 r z;omega,h.2.2⟩
theorem PB.mono{b c:Nat}{q:wm}(h:PB b q)(B:b<=c):PB c q:=⟨by have:=h.1;omega,λr z=>by have:=h.2.1 r z;omega,h.2.2⟩
section
variable{ns:List Int}{prs:List wm}{y:Int}{i:Nat}
abbrev yh(ns:List Int)(prs:List wm)(y:Int)(i:Nat)(l:Str)(rows:List (List Int)):Ctx:=[.val (k4 ns),.val (.lst (prs.map gC)),.val (.int y),.val (.int (i:Int)),.val (.str l),.val (m4 rows)]
theorem Y6{b:Nat}{l:Str}{rows A B:List (List Int)}(h:PB b (l,rows))(O:A.length<=rows.length)(R:B.length<=b+2)(G : ∀r∈A,r.length<=b+1)(z : ∀r∈B,r.length<=b+1):PB (2*b+2) (l,A++B):=by
 have a:rows.length<=b:=h.1;refine⟨?_,λr I=>?_,h.2.2⟩
 ·show(A++B).length<=2*b+2
  rw[rE];omega
 ·rcases tf.mp I with h' | h'
  ·have:=G r h';omega
  ·have:=z r h';omega
theorem Ka{e:CO D}{lo G:CO (Option Int)}{a b:Option Int}{l:Str}{rows:List (List Int)}{F:List Int->List Int}(O:rows.length<=lim)(z : ∀γ,lo γ=aI a)(B : ∀γ,G γ=aI b)(I : ∀r∈rows,e [.val (rD r)]=aI (rD<|F r)) :
 (zT (z9<|zU<|k9 (ze 5) lo G) (.nm 0) 1 [] jE e) (yh ns prs y i l rows)=aI (((x9 rows a b).map F).map rD):=by
 have d:k9 (ze 5) lo G (yh ns prs y i l rows)=aI ((x9 rows a b).map rD):=by show((lo _).bind λlo=>(G _).bind λG=>aI (vB (rows.map rD) lo G))=_;rw[z,B];show aI (vB (rows.map rD) a b)=_;rw[xy]
 rw[qx,Va,qG,d];have:=qQ rows a b;show(if ((x9 rows a b).map rD).length<=lim then _ else _)=_;rw[GY (by rw[pR];omega),tq];exact zS _ _ λr h=>zV rfl rfl<|I r<|qf h
theorem gJ{lo G:CO (Option Int)}{a b:Option Int}{l:Str}{rows:List (List Int)}(z : ∀γ,lo γ=aI a)(B : ∀γ,G γ=aI b):k9 (ze 5) lo G (yh ns prs y i l rows)=aI ((x9 rows a b).map rD):=by show((lo _).bind λlo=>(G _).bind λG=>aI (vB (rows.map rD) lo G))=_;rw[z,B];show aI (vB (rows.map rD) a b)=_;rw[xy]
theorem QE{f:CO (List D)}{l:Str}{rows R:List (List Int)}(h:f (yh ns prs y i l rows)=aI (R.map rD)):jR 5 (qI f) (yh ns prs y i l rows)=aI (.next<|yh ns prs y i l R):=by rw[yQ,vF,h];rfl
theorem JB{f g:CO (Sk×List D)}{γ:Ctx}{A B:List (List Int)}(G:f γ=aI (.L,A.map rD))(z:g γ=aI (.L,B.map rD))(I:A.length+B.length<=lim):xW f g γ=aI ((A++B).map rD):=by rw[wj,G,z];simp[I]
theorem yu{f:CO (List D)}{γ:Ctx}{xs:List D}(h:f γ=aI xs):zU f γ=aI (.L,xs):=by rw[qG,h];rfl
variable{b:Nat}{l:Str}{rows:List (List Int)}
theorem Zo{c:Int}{S:CO Fl}(γ:Ctx)(B:γ[2]? = aI (.val<|.int y)):hI (sB<|zt i0 (zl 2)<|zh<|.int c) S zL γ=if y=c then S γ else aI (.next γ):=by
 rw[qS,JC,vG,VR,B];by_cases z:y=c
 ·simp[z]
 ·simp[z]
theorem gT(h:PB b (l,rows))(I:2*b+2<=2500) : ∃R,PB (2*b+2) (l,R)/\QP (yh ns prs y i l rows)=aI (.next<|yh ns prs y i l R):=by
 by_cases z:y=3
 ·refine⟨x9 rows (aI 1) bC,⟨?_,λr B=>?_,h.2.2⟩,?_⟩
  ·have:=qQ rows (aI 1) bC;have a:rows.length<=b:=h.1;show(x9 rows (aI 1) bC).length<=_;omega
  ·have:=h.2.1 r<|qf B;omega
  ·rw[QP,Zo _ rfl,GY z]
   exact QE<|gJ (λ_=>rfl) λ_=>rfl
 ·exact⟨rows,h.mono ⋯,by rw[QP,Zo _ rfl,MQ z]⟩
theorem gS(h:PB b (l,rows))(W:2*b+2<=2500) : ∃R,PB (2*b+2) (l,R)/\QO (yh ns prs y i l rows)=aI (.next<|yh ns prs y i l R):=by
 have g:=jL;have f:rows.length<=b:=h.1;have a : ∀r∈rows,r.length<=b:=h.2.1;by_cases z:y=4
 ·have e:=qQ rows bC (aI 1)
  refine⟨rows++(x9 rows bC<|some 1).map λr=>r.map λ_=>0,Y6 h ⋯ (by rw[pR];omega) (λr B=>by have:=a r B;omega)<|λr B=>?_,?_⟩
  ·obtain⟨I,O,rfl⟩:=uZ.mp B
   have:=a I<|qf O;rw[pR];omega
  ·rw[QO,Zo _ rfl,GY z]
   refine QE<|JB rfl ?_ (by rw[pR];omega);refine yu<|Ka (F:=λr=>r.map λ_=>0) ⋯ (λ_=>rfl) (λ_=>rfl) λr B=>?_
   ·have U:r.length<=lim:=by have:=a r B;omega
    have d:jf (.nm 0) jE (zh<|.int 0) [Cell.no] (r.map D.int)=aI ((r.map λ_=>(0:Int)).map D.int):=by rw[tq];exact zS _ _ λx _=>zV rfl rfl rfl
    rw[vF,qx];show((if (r.map D.int).length<=lim then _ else _):Option (List D)).map _=_;rw[GY (by simpa using U)];show(jf _ _ _ [Cell.no] _).map _=_;rw[d];rfl
 ·exact⟨rows,h.mono ⋯,by rw[QO,Zo _ rfl,MQ z]⟩
theorem bq(h:PB b (l,rows))(Y:2*b+2<=2500) : ∃R,PB (2*b+2) (l,R)/\wL (yh ns prs y i l rows)=aI (.next<|yh ns prs y i l R):=by
 have f:=jL;have e:rows.length<=b:=h.1;have a : ∀r∈rows,r.length<=b:=h.2.1;by_cases z:y=5
 ·have I:=qQ rows bC (aI (-1))
  have d:=qQ rows (aI (-1)) bC;refine⟨x9 rows bC (aI (-1))++(x9 rows (aI (-1)) bC).map λr=>r++[0],Y6 h I (by rw[pR];omega) (λr B=>by have:=a r<|qf B;omega)<|λr B=>?_,?_⟩
  ·obtain⟨O,U,rfl⟩:=uZ.mp B
   have:=a O<|qf U;rw[rE,sF];omega
  ·rw[wL,Zo _ rfl,GY z]
   refine QE<|JB (yu<|gJ (λ_=>rfl) λ_=>rfl) ?_ (by rw[pR];omega);refine yu<|Ka (F:=λr=>r++[0]) ⋯ (λ_=>rfl) (λ_=>rfl) λr B=>?_
   ·have W:r.length+1<=lim:=by have:=a r B;omega
    simp[rD,W]
 ·exact⟨rows,h.mono ⋯,by rw[wL,Zo _ rfl,MQ z]⟩
theorem bp(h:PB b (l,rows))(W:2*b+2<=2500) : ∃R,PB (2*b+2) (l,R)/\wK (yh ns prs y i l rows)=aI (.next<|yh ns prs y i l R):=by
 have f:=jL;have e:rows.length<=b:=h.1;have a : ∀r∈rows,r.length<=b:=h.2.1;by_cases z:y=6
 ·have O:=qQ rows bC (aI (-1))
  have d:=qQ rows (aI (-1)) bC;refine⟨x9 rows bC (aI (-1))++(x9 rows (aI (-1)) bC).map λr=>x9 r (aI 1) bC,Y6 h O (by rw[pR];omega) (λr B=>by have:=a r<|qf B;omega)<|λr B=>?_,?_⟩
  ·obtain⟨I,U,rfl⟩:=uZ.mp B
   have:=a I<|qf U;have:=qQ I (aI 1) bC;omega
  ·rw[wK,Zo _ rfl,GY z]
   refine QE<|JB (yu<|gJ (λ_=>rfl) λ_=>rfl) ?_ (by rw[pR];omega);refine yu<|Ka (F:=λr=>x9 r (aI 1) bC) ⋯ (λ_=>rfl) (λ_=>rfl) λr B=>?_
   ·show aI (D.lst<|vB (r.map D.int) (aI 1) bC)=_
    rw[xy];rfl
 ·exact⟨rows,h.mono ⋯,by rw[wK,Zo _ rfl,MQ z]⟩
theorem bo(h:PB b (l,rows))(I:2*b+2<=2500) : ∃R,PB (2*b+2) (l,R)/\wJ (yh ns prs y i l rows)=aI (.next<|yh ns prs y i l R):=by
 have e:=jL;have d:rows.length<=b:=h.1;have a : ∀r∈rows,r.length<=b:=h.2.1;by_cases z:y=7
 ·refine⟨rows++[[]],Y6 h ⋯ ⋯ (λr B=>by have:=a r B;omega) (λr B=>by rw[tD.mp B];simp),?_⟩
  rw[wJ,Zo _ rfl,GY z];exact QE (JB rfl rfl<|by show rows.length+1<=lim;omega)
 ·exact⟨rows,h.mono ⋯,by rw[wJ,Zo _ rfl,MQ z]⟩
end
theorem Yd:xF=jO 8 (zI Yg<|zI QW<|zI Yf<|zI Ye<|zI Wo<|zI Wn<|zI Wm<|zI QV<|zI QU<|zI Je wM):=rfl
section
variable{ns:List Int}{prs:List wm}
theorem Qy(G:ns.length<=63)(hl:prs.length<=6)(H : ∀q∈prs,PB 40 q) : ∃(r:Res) (U:List wm),U.length<=8/\(∀q∈U,Kr q)/\jx [k4 ns,.lst (prs.map gC)]=aI r/\Vj r = .lst (U.map gC):=by
 have hm:=jL;have p:2<=lim:=by omega
 obtain⟨W,C,E⟩:=yD G (k:=20) ⋯ ⋯;obtain⟨b1,b2,b3⟩:=yD G (k:=21) ⋯ ⋯;generalize Zn ns 20=c at W C E;generalize Zn ns 21=d at b1 b2 b3;obtain⟨y,ey⟩ : ∃y,c%10=y:=⟨_,rfl⟩;let γ:Cell->Cell->Cell->Cell->Ctx:=λF J K L=>[.val (k4 ns),.val<|.lst<|prs.map gC,F,J,K,L];have f:Yb (γ .no .no .no .no)=aI (.next<|γ (.val<|.int y) .no .no .no):=by simp[Yb,γ,W,ey]
 have b : ∀q∈prs,Kr q:=λq h=>(H q h).ER ⋯;rw[K8];by_cases t:y=0
 ·refine⟨.val<|.lst<|(x9 prs (aI 1) bC).map gC,x9 prs (aI 1) bC,by have:=qQ prs (aI 1) bC;omega,λq h=>b q<|qf h,jS<|zm (γ':=γ (.val<|.int y) .no .no .no) f ?_,rfl⟩
  rw[jw,QS,Zo _ rfl,GY t];show((j8 (qI<|k9 (ze 1) (n9<|zh<|.int 1) yi)<|γ (.val<|.int y) .no .no .no).bind _)=_;have:(j8 (qI<|k9 (ze 1) (n9<|zh<|.int 1) yi)<|γ (.val<|.int y) .no .no .no)=aI (.ret<|.val<|.lst<|(x9 prs (aI 1) bC).map gC):=by rw[<- xy];rfl
  rw[this];rfl
 have n:QS (γ (.val<|.int y) .no .no .no)=aI (.next<|γ (.val<|.int y) .no .no .no):=by rw[QS,Zo _ rfl,MQ t]
 by_cases u:y=1
 ·refine⟨.own ((prs++[(("r" : Str),[])]).map gC),prs++[(("r" : Str),[])],by simp;omega,λq h=>?_,jS (zm (γ':=γ (.val (.int y)) .no .no .no) f (zm n ?_)),rfl⟩
  ·rcases tf.mp h with h | h
   ·exact b q h
   ·rw[tD.mp h];exact⟨by simp,by simp,by kernel_rfl⟩
  ·have h7:prs.length+1<=lim:=by omega
   rw[jw,QR,Zo _ rfl,GY u];simp[γ,h7,p,gC,m4]
 have s:QR (γ (.val<|.int y) .no .no .no)=aI (.next<|γ (.val<|.int y) .no .no .no):=by rw[QR,Zo _ rfl,MQ u]
 by_cases w:prs.length=0\/7<y
 ·refine⟨.val<|.lst<|prs.map gC,prs,by omega,b,jS<|zm (γ':=γ (.val<|.int y) .no .no .no) f<|zm n<|zm s ?_,rfl⟩
  have o:(qo (sB<|zt i0 (j7<|ze 1)<|zh<|.int 0)<|sB<|zt vr (zl 2)<|zh<|.int 7) (γ (.val<|.int y) .no .no .no)=aI cI:=by
   by_cases z:prs.length=0
   ·simp[γ,z]
   ·have Y:7<y:=by omega
    simp[γ,z,Y]
  rw[jw,QQ,qS,o];simp[γ]
 have x : ¬prs.length=0:=λh=>w<|.inl h;have Y : ¬7<y:=λh=>w<|.inr h;have s4:QQ (γ (.val<|.int y) .no .no .no)=aI (.next<|γ (.val<|.int y) .no .no .no):=by
  have o:(qo (sB<|zt i0 (j7<|ze 1)<|zh<|.int 0)<|sB<|zt vr (zl 2)<|zh<|.int 7) (γ (.val<|.int y) .no .no .no)=aI dV:=by simp[γ,x,Y]
  rw[QQ,qS,o];rfl
 obtain⟨i,ei,j⟩ : ∃i:Nat,c/10%(prs.length:Int)=(i:Int)/\i<prs.length:=by have:=ar (c/10) (prs.length:Int) ⋯;exact⟨(c/10%(prs.length:Int)).toNat,by omega,by omega⟩
 have n0:(0:Int)<(prs.length:Int):=by omega
 have n1:0<prs.length:=by omega
 have s5:Ya (γ (.val<|.int y) .no .no .no)=aI (.next<|γ (.val<|.int y) (.val<|.int (i:Int)) .no .no):=by simp[Ya,γ,W,n0,n1,x,ei]
 obtain⟨l,a,eq⟩ : ∃l a,prs.getD i pz=(l,a):=⟨_,_,rfl⟩;have s6:K9 (γ (.val<|.int y) (.val<|.int (i:Int)) .no .no)=aI (.next<|yh ns prs y i l a):=by
  have ix:eI (ze 1) (zl 3) (γ (.val<|.int y) (.val<|.int (i:Int)) .no .no)=aI (gC (l,a)):=by rw[af];show((i9 (prs.map gC).length (i:Int)).bind λk=>(prs.map gC)[k]?)=_;rw[pR,ju,GY j];show(prs.map gC)[i]? = _;rw[rm,(j5 j).2,eq];rfl
  rw[K9,Kl,ix];rfl
 have g:PB 40 (l,a):=by rw[<- eq];exact H _ (j5 j).1
 obtain⟨I,M,s7⟩ : ∃I,n7 (.str I)=cI/\JX (yh ns prs y i l a)=aI (.next<|yh ns prs y i I a):=by
  by_cases z:y=2
  ·have O:5<=lim:=by omega
   have st : ∀I:Str,(eI (zU (jF (zb (zh (.str "")) (zb (zh (.str "x")) (zb (zh (.str "R")) (zb (zh (.str "rl")) (zb (zh (.str "-")) zB))))))) (zt qd (zu zz (zb (zl 0) (zb (zh (.int 21)) zB))) (zh (.int 5)))) (yh ns prs y i l a)=aI (.str I)->JX (yh ns prs y i l a)=aI (.next (yh ns prs y i I a)):=λI h=>by rw[JX,Zo _ rfl,GY z,yQ,h];rfl
   have:=ar d 5 ⋯;rcases (show d%5=0\/d%5=1\/d%5=2\/d%5=3\/d%5=4 by omega)with e | e | e | e | e
   ·exact⟨"",by kernel_rfl,st _ (by simp[b1,e,O,i9])⟩
   ·exact⟨"x",by kernel_rfl,st _ (by simp[b1,e,O,i9])⟩
   ·exact⟨"R",by kernel_rfl,st _ (by simp[b1,e,O,i9])⟩
   ·exact⟨"rl",by kernel_rfl,st _ (by simp[b1,e,O,i9])⟩
   ·exact⟨"-",by kernel_rfl,st _ (by simp[b1,e,O,i9])⟩
  ·exact⟨l,g.2.2,by rw[JX,Zo _ rfl,MQ z]⟩
 have N:PB 40 (I,a):=⟨g.1,g.2.1,M⟩;obtain⟨r8,p8,s8⟩:=gT (ns:=ns) (prs:=prs) (y:=y) (i:=i) N ⋯;obtain⟨r9,p9,s9⟩:=gS (ns:=ns) (prs:=prs) (y:=y) (i:=i) p8 ⋯;obtain⟨cx,P,Q⟩:=bq (ns:=ns) (prs:=prs) (y:=y) (i:=i) p9 ⋯;obtain⟨cy,S,T⟩:=bp (ns:=ns) (prs:=prs) (y:=y) (i:=i) P ⋯;obtain⟨R,X,Z⟩:=bo (ns:=ns) (prs:=prs) (y:=y) (i:=i) S ⋯;let A:=x9 prs bC<|some (i:Int);let B:=x9 prs (aI ((i:Int)+1)) bC;have la:=qQ prs bC<|some (i:Int);have lb:=qQ prs (aI ((i:Int)+1)) bC;have co:A.length+1+B.length<=lim:=by show(x9 prs bC<|some (i:Int)).length+1+(x9 prs (aI ((i:Int)+1)) bC).length<=lim;omega
 have cq:A.length+1<=lim:=by omega
 have A6:A.length=i\/A.length<=6:= .inr (by show(x9 prs bC<|some (i:Int)).length<=6;omega);have d1:A.length+B.length<=7:=by
  have e1:A.length<=i:=by
   show((prs.drop<|ky prs.length 0 bC).take (ky prs.length prs.length (aI (i:Int)) - ky prs.length 0 bC)).length<=i;rw[sH];have m : ¬((i:Int)<0):=by omega
   simp[ky,m];omega
  have e2:B.length<=prs.length - i:=by
   show((prs.drop<|ky prs.length 0<|some ((i:Int)+1)).take _).length<=_;rw[sH,Al];have m : ¬((i:Int)+1<0):=by omega
   have t':((i:Int)+1).toNat=i+1:=by omega
   simp only[ky,m,if_false,t'];omega
  omega
 refine⟨.own<|(A++[(I,R)]++B).map gC,A++[(I,R)]++B,by simp only[rE,sF];omega,λq h=>?_,jS<|zm (γ':=γ (.val<|.int y) .no .no .no) f<|zm n<|zm s<|zm s4<|zm s5<|zm s6<|zm s7<|zm s8<|zm s9<|zm Q<|zm T<|zm Z ?_,rfl⟩
 ·rcases tf.mp h with h | h
  ·rcases tf.mp h with h | h
   ·exact b q<|qf h
   ·rw[tD.mp h];exact X.ER ⋯
  ·exact b q<|qf h
 ·have eA:k9 (ze 1) yi (n9<|zl 3) (yh ns prs y i I R)=aI (A.map gC):=by
   show aI (vB (prs.map gC) bC<|some (i:Int))=_;rw[xy]
  have eB:k9 (ze 1) (n9<|zt qE (zl 3)<|zh<|.int 1) yi (yh ns prs y i I R)=aI (B.map gC):=by show aI (vB (prs.map gC) (aI ((i:Int)+1)) bC)=_;rw[xy]
  rw[QT,W9,wj,yu eB,qG,wj,yu eA];simp[cq,co,p,gC]
end
theorem iI(ns:List Int)(G:ns.length<=63):xF [k4 ns]=aI (.val<|.bl cI):=by
 have hm:=jL;have m:9<=lim:=by omega
 have l1:1<=lim:=by omega
 obtain⟨f,o,s⟩:=yD G (k:=0) ⋯ ⋯;generalize Zn ns 0=c at f o s;obtain⟨ws,t,u,Z⟩:=Qn G;obtain⟨cn,w,x,S⟩:=YA G t u;obtain⟨r,prs,co,i,X,T⟩:=Qy G w x;let γ:Cell->Cell->Cell->Cell->Cell->Cell->Ctx:=λy A C E H J=>[.val (k4 ns),y,A,C,E,H,J,.no];have n:c%9=0\/c%9=1\/c%9=2\/c%9=3\/c%9=4\/c%9=5\/c%9=6\/c%9=7\/c%9=8:=by omega
 obtain⟨d,s1⟩ : ∃d:Int,Yg (γ .no .no .no .no .no .no)=aI (.next<|γ (.val<|.int d) .no .no .no .no .no):=by rcases n with e | e | e | e | e | e | e | e | e<;>exact⟨_,by simp[Yg,γ,f,e,m,i9];rfl⟩
 obtain⟨p,s2⟩ : ∃p:Int,QW (γ (.val<|.int d) .no .no .no .no .no)=aI (.next<|γ (.val<|.int p) .no .no .no .no .no):=by
  by_cases z:c/9%8=1
  ·rcases n with e | e | e | e | e | e | e | e | e<;>exact⟨_,by simp[QW,γ,f,e,z,m,i9];rfl⟩
  ·exact⟨d,by simp[QW,γ,f,z]⟩
 let P:Cell:= .val (.int p);let W:Cell:= .val (.lst<|ws.map D.int);let R:Cell:= .val (.lst<|prs.map gC);let N:Cell:= .val .g8;have s3:Yf (γ P .no .no .no .no .no)=aI (.next<|γ P W .no .no .no .no):=by simp[Yf,γ,Z,W]
 have s4:Ye (γ P W .no .no .no .no)=aI (.next<|γ P W R .no .no .no):=by simp[Ye,γ,W,S,X,T,R]
 have O:=YV (p:=p) (ws:=ws) (prs:=prs) ⋯ ⋯ i;obtain⟨U,rF⟩:=gU (p:=p) (ws:=ws) (prs:=prs) ⋯ ⋯ i;have l : ∀(B:Str) (I:Int),jC [.int p,.lst<|ws.map D.int,.lst (prs.map gC)]=aI (.own [.str B,.int I])->(∀F:CO Fl,True)->
  (zI QV<|zI QU<|zI Je wM) (γ P W R (.val<|.lst [.str B,.int I]) N N)=aI (.ret<|.val<|.bl cI)->xF [k4 ns]=aI (.val<|.bl cI):=λB I j _ hr=>by
  rw[Yd];exact jS<|zm (γ':=γ P .no .no .no .no .no |> λ_=>γ (.val<|.int d) .no .no .no .no .no) s1<|zm s2<|zm s3<|zm s4<|zm (γ':=γ P W R (.val<|.lst [.str B,.int I]) .no .no) (by simp[Wo,γ,P,W,R,j])<|zm (γ':=γ P W R (.val<|.lst [.str B,.int I]) N .no) (by simp[Wn,γ,N])<|zm (γ':=γ P W R (.val<|.lst [.str B,.int I]) N N) (by simp[Wm,γ,N]) hr
 have g : ∀(B:Str) (I:Int) (a:Option Int),jC [.int p,.lst (ws.map D.int),.lst (prs.map gC)]=aI (.own [.str B,.int I])->xN [.int p,.lst (ws.map D.int),.lst (prs.map gC)]=aI (B,a)->qz [.exc B a]=aI (.own [.str B])->n7 (.str B)=cI->(mi (.str B) (.str "NoArrow")=aI (.bl cI)\/(mi (.str B) (.str "NoArrow")=aI (.bl dV)/\a=aI I/\kF B = "at"))->xF [k4 ns]=aI (.val (.bl cI)):=λB I a j hG hk ho hc=>by
  refine l B I j (λ_=>trivial) ?_;let Y:Cell:= .val (.lst [.str B,.int I]);refine zm (γ':=γ P W R Y (.val<|.exc B a) N) ?_ (zm (γ':=γ P W R Y (.val<|.exc B a) N) ?_ (zm (γ':=γ P W R Y (.val<|.exc B a) N) ?_ ?_))
  ·simp[QV,ez,γ,P,W,R,hG,Y,N]
  ·simp[QU,γ,dH]
  ·have ne:mi (.lst [.str B]) (.lst [.str B])=aI (.bl dV):=wc (by show(n7 (.str B) && cI)=cI;rw[ho];rfl)
   simp[Je,γ,hk,Y,ne,l1]
  ·rcases hc with h | ⟨h,rfl,ha⟩
   ·simp[wM,γ,Y,h]
   ·have K:eL "at" (zl 5) (γ P W R Y (.val (.exc B (aI I))) N)=aI (.int I):=by
     show(if (kF B==("at" : Str))=cI then aI (D.int I)else bC)=_;rw[ha];rfl
    rw[wM,VS,lC,VT,ZY,kQ,vG,vG,K];have wh:zQ [.int I]=aI (.val<|.bl cI):=by rfl
    simp[γ,Y,h,wh]
 cases h1:t4 p with
 | false=>
  rw[h1,GY rfl]at O U;exact g "NoPrime" 0 bC O U (xO _ _ ⋯) (by kernel_rfl) (.inl (by kernel_rfl))
 | true=>
  rw[h1,MQ ⋯]at O U;cases h2:r6 ws with
  | false=>
   rw[h2,GY rfl]at O U;exact g "NoWidths" 0 bC O U (xO _ _ ⋯) (by kernel_rfl) (.inl (by kernel_rfl))
  | true=>
   rw[h2,MQ ⋯]at O U;by_cases b:prs.length+1=ws.length
   ·rw[MQ (by simpa using b)]at O U
    cases h4:bad ws 0 prs with
    | some k=>
     rw[h4]at O U;exact g "NoArrow" k (aI (k:Int)) O U (xO _ _ ⋯) (by kernel_rfl) (.inr ⟨by kernel_rfl,rfl,by decide +kernel⟩)
    | none=>
     rw[h4]at O U;have F:=rF h1 h2 b h4;have M:=cM (p:=p) h1 ⋯ ⋯ i b h4;have is:=YM (p:=p) ⋯ h2 b h4;refine l "made" 0 O (λ_=>trivial) ?_;let Y:Cell:= .val (.lst [.str "made",.int 0]);refine zm (γ':=γ P W R Y N (.val (B4 p ws prs))) ?_ ?_
     ·have L:xN [.int p,.lst<|ws.map D.int,.lst (prs.map gC)]=bC:=U
      simp[QV,ez,γ,P,W,R,L,F,Y,N]
     ·have Q:i0 (.str "made") (.str "made")=aI (.bl cI):=by kernel_rfl
      rw[jw];simp[QU,γ,P,W,R,Y,N,M,is,Q,dH]
   ·rw[GY (by simpa using b)]at O U
    exact g "NoRow" 0 bC O U (xO _ _ ⋯) (by kernel_rfl) (.inl (by kernel_rfl))
noncomputable def top(i:Nat):PySem.Stmt:=PySem.Challenge.pw_barsplit_k11_no_row.main.body.getD i<|.Pass ⟨0,0,0,0⟩
section
variable{CR CL:PySem.Addr}{P:PySem.Program}{w:PySem.World}{K:pv}{mg:PySem.Str->Option PySem.Value}{base:PySem.Heap}
theorem Kz(h:us.length=n+1) : ∃a t,us=a::t/\t.length=n:=by
 cases us with
 | nil=>exact absurd h<|Nat.zero_ne_add_one n
 | cons a t=>exact⟨a,t,rfl,Nat.succ.inj h⟩
theorem pj(h:us.length=1) : ∃a,us=[a]:=by obtain⟨a,z,rfl,b⟩:=Kz h;rw[rK b];exact⟨a,rfl⟩
theorem ph(h:us.length=2) : ∃a b,us=[a,b]:=by obtain⟨a,z,rfl,d⟩:=Kz h;obtain⟨b,B,rfl,e⟩:=Kz d;rw[rK e];exact⟨a,b,rfl⟩
theorem pf(h:us.length=3) : ∃a b c,us=[a,b,c]:=by obtain⟨a,z,rfl,d⟩:=Kz h;obtain⟨b,B,rfl,e⟩:=Kz d;obtain⟨c,I,rfl,f⟩:=Kz e;rw[rK f];exact⟨a,b,c,rfl⟩
theorem pe(h:us.length=4) : ∃a b c d,us=[a,b,c,d]:=by obtain⟨a,B,rfl,e⟩:=Kz h;obtain⟨b,I,rfl,f⟩:=Kz e;obtain⟨c,O,rfl,g⟩:=Kz f;obtain⟨d,R,rfl,z⟩:=Kz g;rw[rK z];exact⟨a,b,c,d,rfl⟩
theorem WM(D:ik K mg "is_whole" (top 18) ["x"])(B:mg "bool" = bC)(I:mg "int" = bC)(z:mg "isinstance" = bC):f9 P w K mg base 1 "is_whole" 1 zW:=
 yd (N:=["x"]) D ⋯ λX O d R b U a e=>by subst O d R b U;exact zk (zH (xk (wO a ⋯ z ⋯ I (zy a)) (qZ (Vn (vn a ⋯ z ⋯ B (zy a))))))
theorem WN(D:ik K mg "is_prime" (top 19) ["p"])(z:f9 P w K mg base 1 "is_whole" 1 zW)(B:GL K mg "PRIMES" (.tup [.int 2,.int 3,.int 5,.int 7])):f9 P w K mg base 2 "is_prime" 1 jb:=
 yd (N:=["p"]) D ⋯ λX I d O b R a e=>by subst I d O b R;exact zk (zH (xk (zP z a (za (zy a) zg)) (qZ (bE (zy a) (PV.q (ZD a ⋯ B))))))
theorem eU(D:ik K mg "rests" (top 20) ["p","numbers"])(z:mg "tuple" = bC):f9 P w K mg base 1 "rests" 2 xZ:=
 yd (N:=["p","numbers"]) D ⋯ λX B e I d O a f=>by subst B e I d O;exact zk (zH (qA a ⋯ z (PO.q (xp a (jY (zO a)) (λ_ _ _ b=>jt (zy b) (zy b))))))
theorem ak(D:ik K mg "is_side" (top 21) ["many"])(z:f9 P w K mg base 1 "is_whole" 1 zW)(B:GL K mg "MOST_HIGH_OR_WIDE" (.int 30)):f9 P w K mg base 2 "is_side" 1 jo:=
 yd (N:=["many"]) D ⋯ λX I d O b R a e=>by subst I d O b R;exact zk (zH (xk (zP z a (za (zy a) zg)) (qZ (Yn Xk Xk wC wC zd (zy a) (ZD a ⋯ B)))))
theorem VE(D:ik K mg "is_listed" (top 22) ["things","many"])(z:mg "isinstance" = bC)(B:mg "len" = bC)(I:mg "list" = bC)(O:mg "tuple" = bC):f9 P w K mg base 1 "is_listed" 2 zA:=
 yd (N:=["things","many"]) D ⋯ λX R d U b W a e=>by subst R d U b W;exact zk (zH (xk (Q2 a ⋯ z ⋯ I ⋯ O (zy a)) (qZ (JY a (jd a ⋯ B (zO a)) (zy a)))))
theorem ao(D:ik K mg "is_line" (top 23) ["wide","row"])(z:f9 P w K mg base 1 "is_listed" 2 zA)(B:f9 P w K mg base 1 "is_whole" 1 zW)(I:mg "all" = bC):f9 P w K mg base 2 "is_line" 2 jz:=
 yd (N:=["wide","row"]) D ⋯ λX O e R d U a f=>by subst O e R d U;exact zk (zH (xk (zP z a (za (zy a) (za (zy a) zg))) (qZ (yz a ⋯ I (PO.q (xp a (jY (zO a)) (λ_ _ _ b=>zP B b (za (zy b) zg))))))))
theorem WL(D:ik K mg "table_of" (top 24) ["p","high","wide","rows"])(B:f9 P w K mg base 2 "is_prime" 1 jb)(z:f9 P w K mg base 2 "is_side" 1 jo)(I:f9 P w K mg base 1 "is_listed" 2 zA)(O:f9 P w K mg base 1 "rests" 2 xZ)(R:f9 P w K mg base 2 "is_line" 2 jz)(U:mg "all" = bC)(W:mg "tuple" = bC):f9 P w K mg base 3 "table_of" 4 qs:=
 yd (N:=["p","high","wide","rows"]) D ⋯ λX Y g d f e a h=>by subst Y g d f e;exact by refine zf (zJ (zG (zF (zP B a (za (zy a) zg)))) (zk jl) zr) ?_;refine zf (zJ (qN (je (zG (zF (zP z a (za (zy a) zg)))) (ji (zG (zF (zP z a (za (zy a) zg))))))) (zk jl) zr) ?_;refine zf (zJ (qN (je (zG (zF (zP I a (za (zy a) (za (zy a) zg))))) (ji (zG (zF (yz a ⋯ U (PO.q (xp a (jY (zO a)) (λ_ _ _ b=>zP R b (za (zy b) (za (zy b) zg))))))))))) (zk jl) zr) ?_;exact(zk (zH (qc (qJ (za (zy a) (za (zy a) (za (qA a ⋯ W (PO.q (xp a (jY (zO a)) (λ_ _ _ b=>zP O b (za (zy b) (za (zy b) zg)))))) zg)))))))
theorem Vx(D:ik K mg "table_of" (top 24) ["p","high","wide","rows"])(I:f9 P w K mg base 2 "is_prime" 1 jb)(B:f9 P w K mg base 2 "is_side" 1 jo)(R:f9 P w K mg base 1 "is_listed" 2 zA)(G:f9 P w K mg base 1 "rests" 2 xZ)(U:f9 P w K mg base 2 "is_line" 2 jz)(W:mg "all" = bC)(H:mg "tuple" = bC)(Y:XC K mg "NoPrime")(O:XC K mg "NoTable"):pa P w K mg base 3 "table_of" 4 xM:=
 dw (N:=["p","high","wide","rows"]) D ⋯ λX e h d g f b=>by subst e h d g f;have z:=b.l4 (λ_ _=>False);have i:(X.l4 λ_ _=>False).xe=(λ_ _=>False):=rfl;exact Jf (ZC (zG (zF (zP I z (za (zy z) zg)))) (qF (xH z ⋯ Y zR)) yx) (zJ (zG (zF (zP I z (za (zy z) zg)))) (zk jl) zr) (Jf (ZC (qN (je (zG (zF (zP B z (za (zy z) zg)))) (ji (zG (zF (zP B z (za (zy z) zg))))))) (qF (xH z ⋯ O zR)) yx) (zJ (qN (je (zG (zF (zP B z (za (zy z) zg)))) (ji (zG (zF (zP B z (za (zy z) zg))))))) (zk jl) zr) (qF (ZC (qN (je (zG (zF (zP R z (za (zy z) (za (zy z) zg))))) (ji (zG (zF (yz z ⋯ W (PO.q (xp z (jY (zO z)) (λ_ _ _ a=>zP U a (za (zy a) (za (zy a) zg))))))))))) (qF (xH z ⋯ O zR)) yx)))
theorem Xp(D:ik K mg "beginning_of" (top 29) ["k","way"]):f9 P w K mg base 1 "beginning_of" 2 zZ:=
 yd (N:=["k","way"]) D ⋯ λX z d B b I a e=>by subst z d B b I;exact zk (zH (Jg (jD a (zy a) zR) (zy a) (j9 (zy a) zd)))
theorem cG(D:ik K mg "end_of" (top 30) ["k","way"]):f9 P w K mg base 1 "end_of" 2 qm:=
 yd (N:=["k","way"]) D ⋯ λX z d B b I a e=>by subst z d B b I;exact zk (zH (Jg (jD a (zy a) zR) (j9 (zy a) zd) (zy a)))
theorem YH(D:ik K mg "are_widths" (top 31) ["widths"])(z:f9 P w K mg base 1 "is_whole" 1 zW)(B:mg "all" = bC)(I:mg "isinstance" = bC)(O:mg "len" = bC)(R:mg "list" = bC)(U:mg "sum" = bC)(W:mg "tuple" = bC)(Y:GL K mg "MOST_ROOMS" (.int 6))(G:GL K mg "MOST_TOGETHER" (.int 30)):f9 P w K mg base 2 "are_widths" 1 jA:=
 yd (N:=["widths"]) D ⋯ λX e h d g f a i=>by subst e h d g f;exact by refine zf (zJ (qN (je (zG (zF (Q2 a ⋯ I ⋯ R ⋯ W (zy a)))) (ji (zG (Q5 Xk Xk wC wC zd (jd a ⋯ O (zO a)) (ZD a ⋯ Y)))))) (zk (zH ya)) zr) ?_;refine zf (zJ (zG (zF (yz a ⋯ B (PO.q (xp a (jY (zO a)) (λ_ _ _ b=>xk (zP z b (za (zy b) zg)) (qZ (ig (zy b) zd)))))))) (zk (zH ya)) zr) ?_;exact(zk (zH (ie (QY a ⋯ U (zO a)) (ZD a ⋯ G))))
theorem Vz(D:ik K mg "widths_of" (top 32) ["widths"])(z:f9 P w K mg base 2 "are_widths" 1 jA)(B:mg "tuple" = bC):f9 P w K mg base 3 "widths_of" 1 jT:=
 yd (N:=["widths"]) D ⋯ λX I d O b R a e=>by subst I d O b R;exact by refine zf (zJ (zG (zF (zP z a (za (zy a) zg)))) (zk jl) zr) ?_;exact(zk (zH (qA a ⋯ B (zO a))))
theorem YE(D:ik K mg "widths_of" (top 32) ["widths"])(B:f9 P w K mg base 2 "are_widths" 1 jA)(W:mg "tuple" = bC)(I:XC K mg "NoWidths"):pa P w K mg base 3 "widths_of" 1 qy:=
 dw (N:=["widths"]) D ⋯ λX O d R b U a=>by subst O d R b U;have z:=a.l4 (λ_ _=>False);have e:(X.l4 λ_ _=>False).xe=(λ_ _=>False):=rfl;exact qF (ZC (zG (zF (zP B z (za (zy z) zg)))) (qF (xH z ⋯ I zR)) yx)
theorem WO(D:ik K mg "arrow_of" (top 33) ["p","widths","k","pair"])(B:f9 P w K mg base 3 "table_of" 4 qs)(I:f9 P w K mg base 1 "is_listed" 2 zA)(O:f9 P w K mg base 1 "end_of" 2 qm)(R:f9 P w K mg base 1 "beginning_of" 2 zZ)(U:GL K mg "WAYS" (.tup [.str "r",.str "l"])):f9 P w K mg base 4 "arrow_of" 4 jc:=
 yd (N:=["p","widths","k","pair","way","table"]) D ⋯ λX W e Y d b a f=>by subst W e Y d b;exact by refine zf (zJ (qN (je (zG (zF (zP I a (za (zy a) (za zd zg))))) (ji (xI (zK (zO a) zd) (PV.q (ZD a ⋯ U)))))) (zk jl) zr) ?_;refine zf (jG a (zK (zO a) zd)) ?_;refine zf (Yp (have z:=a.l4 (λ_ _=>False);vY 5 (z.set 5 ⋯ (zP B z (za (zy z) (za (zK (zO z) (zP O z (za (zy z) (za (zy z) zg)))) (za (zK (zO z) (zP R z (za (zy z) (za (zy z) zg)))) (za (zK (zO z) zd) zg)))))))) ?_;exact(zk (zH (qc (qJ (za (zy a) (za (zy a) zg))))))
theorem Vy(D:ik K mg "arrow_of" (top 33) ["p","widths","k","pair"])(H:f9 P w K mg base 3 "table_of" 4 qs)(B:f9 P w K mg base 1 "is_listed" 2 zA)(O:f9 P w K mg base 1 "end_of" 2 qm)(R:f9 P w K mg base 1 "beginning_of" 2 zZ)(I:GL K mg "WAYS" (.tup [.str "r",.str "l"]))(U:XJ P w K mg base 1 "NoArrow")(W:pa P w K mg base 3 "table_of" 4 xM)(Y:XH K mg "NoTable")(G:Cp P w K mg base 1 "NoArrow"):pa P w K mg base 4 "arrow_of" 4 jU:=
 dv (N:=["p","widths","k","pair","way","table"]) D ⋯ λX e i d h g a b=>by subst e i d h g;have z:=a.l4 (λ_ _=>False);have j:(X.l4 λ_ _=>False).xe=(λ_ _=>False):=rfl;exact xj (wN (ZC (qN (je (zG (zF (zP B z (za (zy z) (za zd zg))))) (ji (xI (zK (zO z) zd) (PV.q (ZD z ⋯ I)))))) (qF (QX z ⋯ U ⋯ (zy z))) yx)) (zJ (qN (je (zG (zF (zP B z (za (zy z) (za zd zg))))) (ji (xI (zK (zO z) zd) (PV.q (ZD z ⋯ I)))))) (zk jl) zr) (xj (wN hV) (jG z (zK (zO z) zd)) (vU (Yh a b ⋯ W ⋯ (za (zy z) (za (zK (zO z) (zP O z (za (zy z) (za (zy z) zg)))) (za (zK (zO z) (zP R z (za (zy z) (za (zy z) zg)))) (za (zK (zO z) zd) zg)))) Y ⋯ ⋯ G ⋯ (λ_ f=>Vl 2 (f.var ⋯)))))
theorem cF(D:ik K mg "row_of" (top 34) ["p","widths","arrows"])(z:f9 P w K mg base 3 "widths_of" 1 jT)(B:f9 P w K mg base 2 "is_prime" 1 jb)(I:f9 P w K mg base 1 "is_listed" 2 zA)(O:f9 P w K mg base 4 "arrow_of" 4 jc)(R:mg "enumerate" = bC)(U:mg "len" = bC)(W:mg "tuple" = bC):f9 P w K mg base 5 "row_of" 3 kD:=
 yd (N:=["p","widths","arrows","wide","made"]) D ⋯ λX Y g d f e a h=>by subst Y g d f e;exact by refine zf (zJ (zG (zF (zP B a (za (zy a) zg)))) (zk jl) zr) ?_;refine zf (jG a (zP z a (za (zy a) zg))) ?_;refine zf (zJ (zG (zF (zP I a (za (zy a) (za (kW (jd a ⋯ U (zO a)) zd) zg))))) (zk jl) zr) ?_;refine zf (Yq 4 (bJ a (u7.c (Xb a ⋯ R (zy a))) (λ_ _ _ b=>zP O b (za (zy b) (za (zy b) (za (zy b) (za (zy b) zg))))))) ?_;exact(zk (zH (qc (qJ (za (zy a) (za (zy a) (za (qA a ⋯ W (zO a)) zg)))))))
theorem ai(D:ik K mg "row_of" (top 34) ["p","widths","arrows"])(R:f9 P w K mg base 3 "widths_of" 1 jT)(B:f9 P w K mg base 2 "is_prime" 1 jb)(I:f9 P w K mg base 1 "is_listed" 2 zA)(U:f9 P w K mg base 4 "arrow_of" 4 jc)(W:mg "enumerate" = bC)(O:mg "len" = bC)(L:mg "tuple" = bC)(Y:XC K mg "NoPrime")(G:XC K mg "NoRow")(H:pa P w K mg base 4 "arrow_of" 4 jU)(J:pa P w K mg base 3 "widths_of" 1 qy):pa P w K mg base 5 "row_of" 3 xN:=
 dv (N:=["p","widths","arrows","wide","made"]) D ⋯ λX i l h k j b g=>by subst i l h k j;have z:=b.l4 (λ_ _=>False);have m:(X.l4 λ_ _=>False).xe=(λ_ _=>False):=rfl;exact xj (wN (ZC (zG (zF (zP B z (za (zy z) zg)))) (qF (xH z ⋯ Y zR)) yx)) (zJ (zG (zF (zP B z (za (zy z) zg)))) (zk jl) zr) (xj (wN (Wp J ⋯ z ⋯ (za (zy z) zg))) (jG z (zP R z (za (zy z) zg))) (xj (wN (ZC (zG (zF (zP I z (za (zy z) (za (kW (jd z ⋯ O (zO z)) zd) zg))))) (qF (xH z ⋯ G zR)) yx)) (zJ (zG (zF (zP I z (za (zy z) (za (kW (jd z ⋯ O (zO z)) zd) zg))))) (zk jl) zr) (vU (ZA (own:=["k","pair"]) (fr:=[("p",0),("wide",3)]) (T:= .tp [0,1]) b.calm g (b.EJ (fr:=[("p",0),("wide",3)]) ⋯) ⋯ (u7.c (Xb b ⋯ W (zy b))) (λe f d=>have a:=b.cq ["k","pair"] [("p",0),("wide",3)] e f d ⋯;a.Er (qW (a.A5 0 ⋯) (qW (a.A5 1 ⋯) ZH))) (λe f d=>have a:=b.cq ["k","pair"] [("p",0),("wide",3)] e f d ⋯;zP U a (za (zy a) (za (zy a) (za (zy a) (za (zy a) zg))))) (λe f d=>have a:=b.cq ["k","pair"] [("p",0),("wide",3)] e f d ⋯;Yi H ⋯ a ⋯ (za (zy a) (za (zy a) (za (zy a) (za (zy a) zg)))))))))
theorem aj(D:ik K mg "_law_mix" (top 36) ["_law_script","_law_k"])(z:mg "len" = bC)(B:mg "range" = bC):f9 P w K mg base 1 "_law_mix" 2 zz:=
 yd (N:=["_law_script","_law_k","_law_cell","_law_digits","_law_turn"]) D ⋯ λX I d O b R a e=>by subst I d O b R;exact by refine zf (zJ (jD a (jd a ⋯ z (zO a)) zd) (zk (zH (jt (kX (jt (kX (j9 (kX (kX (zy a) (zy a)) zd) zd) zd) zd) zd) zd))) zr) ?_;refine zf (jG a (zK (zO a) (jt (zy a) (jd a ⋯ z (zO a))))) ?_;refine zf (zJ (qN (Wq (Ji (jd a ⋯ z (zO a)) zd) (Yj (jD a (jt (zK (zO a) zd) zd) zd)))) (by refine zf (jG a (zK (zO a) (j9 zd (jt (zy a) (kW (jd a ⋯ z (zO a)) zd))))) ?_;refine zf (wR e a (qi a ⋯ B (vo (zy a) (kW (jd a ⋯ z (zO a)) zd))) (zk (jG a (vo (zy a) (QZ zd zd))))) ?_;exact(zk (zH (jt (zy a) (QZ zd zd))))) zr) ?_;exact(zk (zH (jt (kX (jt (j9 (j9 (kX (jt (zy a) (QZ zd zd)) zd) (kX (kX (zy a) (zy a)) zd)) zd) zd) zd) zd)))
theorem VA(D:ik K mg "_law_whole" (top 37) ["_law_found"])(B:mg "bool" = bC)(I:mg "int" = bC)(z:mg "isinstance" = bC):f9 P w K mg base 1 "_law_whole" 1 zQ:=
 yd (N:=["_law_found"]) D ⋯ λX O d R b U a e=>by subst O d R b U;exact zk (zH (xk (wO a ⋯ z ⋯ I (zy a)) (qZ (Vn (vn a ⋯ z ⋯ B (zy a))))))
theorem VB(D:ik K mg "_law_rests" (top 38) ["_law_found","_law_due_here"])(B:f9 P w K mg base 1 "_law_whole" 1 zQ)(I:mg "all" = bC)(O:mg "isinstance" = bC)(z:mg "len" = bC)(R:mg "tuple" = bC):f9 P w K mg base 2 "_law_rests" 2 jy:=
 yd (N:=["_law_found","_law_due_here"]) D ⋯ λX U e W d Y a f=>by subst U e W d Y;exact by refine zf (zJ (qN (je (zG (zF (qa a ⋯ O ⋯ R (zy a)))) (ji (xo a (jd a ⋯ z (zO a)) (jd a ⋯ z (zO a)))))) (zk (zH ya)) zr) ?_;exact(zk (zH (xk (yz a ⋯ I (PO.q (xp a (jY (zO a)) (λ_ _ _ b=>zP B b (za (zy b) zg))))) (qZ (JY a (zy a) (zy a))))))
theorem Xo(D:ik K mg "_law_is_table" (top 39) ["_law_found","_law_due_here"])(z:f9 P w K mg base 1 "_law_whole" 1 zQ)(R:f9 P w K mg base 2 "_law_rests" 2 jy)(U:mg "all" = bC)(B:mg "isinstance" = bC)(I:mg "len" = bC)(W:mg "range" = bC)(O:mg "tuple" = bC):f9 P w K mg base 3 "_law_is_table" 2 jq:=
 yd (N:=["_law_found","_law_due_here"]) D ⋯ λX Y g d f e a h=>by subst Y g d f e;exact by refine zf (zJ (qN (je (zG (zF (qa a ⋯ B ⋯ O (zy a)))) (je (xo a (jd a ⋯ I (zO a)) zd) (je (zG (zF (zP z a (za (zK (zO a) zd) zg)))) (ji (zG (zF (zP z a (za (zK (zO a) zd) zg))))))))) (zk (zH ya)) zr) ?_;refine zf (zJ (qN (je (xo a (Vm (zy a) j0 (jZ zd)) (Vm (zy a) j0 (jZ zd))) (je (zG (zF (qa a ⋯ B ⋯ O (zK (zO a) zd)))) (ji (xo a (jd a ⋯ I (PV.q (zK (zO a) zd))) (zK (zO a) zd)))))) (zk (zH ya)) zr) ?_;exact(zk (zH (yz a ⋯ U (PO.q (xp a (u7.c (qi a ⋯ W (zK (zO a) zd))) (λ_ _ _ b=>zP R b (za (zK (PV.q (zK (zO b) zd)) (zy b)) (za (zK (PV.q (zK (zO b) zd)) (zy b)) zg))))))))
theorem YF(D:ik K mg "_law_is_row" (top 40) ["_law_found","_law_due_here"])(O:f9 P w K mg base 1 "_law_whole" 1 zQ)(R:f9 P w K mg base 2 "_law_rests" 2 jy)(U:f9 P w K mg base 3 "_law_is_table" 2 jq)(z:mg "isinstance" = bC)(B:mg "len" = bC)(W:mg "str" = bC)(I:mg "tuple" = bC)(Y:mg "zip" = bC):f9 P w K mg base 4 "_law_is_row" 2 jV:=
 yd (N:=["_law_found","_law_due_here","_law_arrow","_law_other"]) D ⋯ λX d g b f e a h=>by subst d g b f e;exact by refine zf (zJ (qN (je (zG (zF (qa a ⋯ z ⋯ I (zy a)))) (je (xo a (jd a ⋯ B (zO a)) zd) (je (zG (zF (zP O a (za (zK (zO a) zd) zg)))) (ji (xo a (zK (zO a) zd) (zK (zO a) zd))))))) (zk (zH ya)) zr) ?_;refine zf (zJ (qN (je (zG (zF (zP R a (za (zK (zO a) zd) (za (zK (zO a) zd) zg))))) (je (zG (zF (qa a ⋯ z ⋯ I (zK (zO a) zd)))) (ji (xo a (jd a ⋯ B (PV.q (zK (zO a) zd))) (jd a ⋯ B (PV.q (zK (zO a) zd)))))))) (zk (zH ya)) zr) ?_;refine zf (wR h a (bL a ⋯ Y (zK (zO a) zd) (zK (zO a) zd)) (by refine zf (zJ (qN (je (zG (zF (qa a ⋯ z ⋯ I (zy a)))) (je (xo a (jd a ⋯ B (zO a)) zd) (ji (xo a (zK (zO a) zd) (zK (zO a) zd)))))) (zk (zH ya)) zr) ?_;exact(zk (zJ (qN (je (zG (zF (Q1 a ⋯ z ⋯ W (zK (zO a) zd)))) (ji (zG (zF (zP U a (za (zK (zO a) zd) (za (zK (zO a) zd) zg)))))))) (zk (zH ya)) zr)))) ?_;exact(zk (zH ya))
theorem VC(D:ik K mg "_law_kinds" (top 41) ["_law_e"])(B:mg "ValueError" = bC)(z:mg "isinstance" = bC)(I:mg "range" = bC)(O:XI K mg "NoArrow")(R:XI K mg "NoLine")(U:XI K mg "NoPrime")(W:XI K mg "NoRoom")(Y:XI K mg "NoRow")(G:XI K mg "NoTable")(H:XI K mg "NoText")(J:XI K mg "NoTurn")(L:XI K mg "NoWidths")(Z:XI K mg "Nothing")(a6:XI K mg "Nought")(a7:XI K mg "TooMany")(a8:XI K mg "Unlike"):f9 P w K mg base 1 "_law_kinds" 1 qz:=
 yd (N:=["_law_e","_law_told","_law_names"]) D ⋯ λX e h d g f a i=>by subst e h d g f;exact by refine zf (wU a (jh (qJ (za (qM a ⋯ z ⋯ U (zy a)) (za (qM a ⋯ z ⋯ a6 (zy a)) (za (qM a ⋯ z ⋯ G (zy a)) (za (qM a ⋯ z ⋯ L (zy a)) zg))))))) ?_;refine zf (wU a (q9 (zO a) (PO.q (jh (qJ (za (qM a ⋯ z ⋯ Y (zy a)) (za (qM a ⋯ z ⋯ a8 (zy a)) (za (qM a ⋯ z ⋯ a7 (zy a)) (za (qM a ⋯ z ⋯ J (zy a)) zg))))))))) ?_;refine zf (wU a (q9 (zO a) (PO.q (jh (qJ (za (qM a ⋯ z ⋯ R (zy a)) (za (qM a ⋯ z ⋯ Z (zy a)) (za (qM a ⋯ z ⋯ O (zy a)) (za (qM a ⋯ z ⋯ H (zy a)) zg))))))))) ?_;refine zf (ZF 1 a ⋯ (qM a ⋯ z ⋯ W (zy a))) ?_;refine zf (by(with_reducible refine vY 2 ?_);(with_reducible refine SX.set a 2 ?hc ?_ (hs:=?hq));(case hc=>decide +kernel);(case hq=>rfl);(with_reducible refine PO.v ?_);(with_reducible refine jh ?_);(with_reducible refine j3 zR ?_ (hs:=?hq));(case hq=>rfl);(with_reducible refine j3 zR ?_ (hs:=?hq));(case hq=>rfl);(with_reducible refine j3 zR ?_ (hs:=?hq));(case hq=>rfl);(with_reducible refine j3 zR ?_ (hs:=?hq));(case hq=>rfl);(with_reducible refine j3 zR ?_ (hs:=?hq));(case hq=>rfl);(with_reducible refine j3 zR ?_ (hs:=?hq));(case hq=>rfl);(with_reducible refine j3 zR ?_ (hs:=?hq));(case hq=>rfl);(with_reducible refine j3 zR ?_ (hs:=?hq));(case hq=>rfl);(with_reducible refine j3 zR ?_ (hs:=?hq));(case hq=>rfl);(with_reducible refine j3 zR ?_ (hs:=?hq));(case hq=>rfl);(with_reducible exact Xj)) ?_;refine zf (jG a (PO.v (q9 (zO a) (PO.q (jh (qJ (za zR (za zR (za zR zg))))))))) ?_;refine zf (zJ (zG (zF (Wu a ⋯ z ⋯ B (zy a)))) (zk (jX (jh (qJ (za zR zg))))) zr) ?_;exact(zk (Wz 1 (jX (iq a (u7.c (qi a ⋯ I zd)) (λ_ _ _ b=>zF (zK (zO b) (zy b))) (λ_ _ _ b=>zK (zO b) (zy b))))))
theorem J5(D:ik K mg "_law_widths" (top 42) ["_law_script"])(z:f9 P w K mg base 1 "_law_mix" 2 zz)(B:mg "len" = bC)(I:mg "range" = bC)(O:mg "sum" = bC):f9 P w K mg base 2 "_law_widths" 1 jm:=
 yd (N:=["_law_script","_law_widths_here","_law_way","_law_at"]) D ⋯ λX R e U d W a f=>by subst R e U d W;exact by refine zf (Jj 1 (bJ a (u7.c (qi a ⋯ I (j9 zd (jt (zP z a (za (zy a) (za zd zg))) zd)))) (λ_ _ _ b=>jt (zP z b (za (zy b) (za (j9 zd (zy b)) zg))) zd))) ?_;refine zf (jG a (jt (vo (zP z a (za (zy a) (za zd zg))) zd) zd)) ?_;refine zf (zJ (jD a (zy a) zd) (zk (jX (jh (qJ zg)))) zr) ?_;refine zf (zJ (jD a (zy a) zd) (zk (jX (jh (qJ (za zd (za zd (za zd (za zd (za zd (za zd (za zd zg))))))))))) zr) ?_;refine zf (jG a (jt (vo (zP z a (za (zy a) (za zd zg))) zd) (jd a ⋯ B (zO a)))) ?_;refine zf (zJ (jD a (zy a) zd) (zk (wQ 1 a ⋯ (zy a) (yy zd))) zr) ?_;refine zf (zJ (qN (je (jD a (zy a) zd) (ji (jD a (zy a) zd)))) (zk (wQ 1 a ⋯ (zy a) (j9 (kW zd (QY a ⋯ O (PV.q (PO.v (q9 (PO.q (q8 (zO a) j0 (jZ (zy a)))) (PO.q (q8 (zO a) (jZ (j9 (zy a) zd)) j0))))))) (zK (PO.q (jh (qJ (za zd (za zd (za zd (za (yy zd) zg))))))) (jt (zP z a (za (zy a) (za zd zg))) zd))))) zr) ?_;exact(zk (vZ 1 (a.var ⋯)))
theorem Xm(D:ik K mg "_law_pairs" (top 43) ["_law_script","_law_widths_here"])(I:f9 P w K mg base 1 "_law_mix" 2 zz)(O:mg "len" = bC)(B:mg "max" = bC)(z:mg "range" = bC):f9 P w K mg base 2 "_law_pairs" 2 jM:=
 yd (N:=["_law_script","_law_widths_here","_law_pairs_here","_law_k","_law_way","_law_sizes"]) D ⋯ λX R f U e W a g=>by subst R f U e W;exact by refine zf (wU a (jh (qJ zg))) ?_;refine zf (wR g a (qi a ⋯ z (kW (jd a ⋯ O (zO a)) zd)) (by refine zf (jG a (Yl zR (jt (zP I a (za (zy a) (za (j9 zd (zy a)) zg))) zd))) ?_;refine zf (jG a (qc (qJ (za (Vo a ⋯ B zd (zK (zO a) (j9 (zy a) zd))) (za (Vo a ⋯ B zd (zK (zO a) (zy a))) zg))))) ?_;refine zf (zJ (jD a (zy a) zR) (zk (jG a (qc (qJ (za (zK (zO a) zd) (za (zK (zO a) zd) zg)))))) zr) ?_;exact(zk (ZF 2 a ⋯ (qc (qJ (za (zy a) (za (PO.v (xp a (u7.c (qi a ⋯ z (zK (zO a) zd))) (λ_ _ _ b=>PO.v (xp b (u7.c (qi b ⋯ z (zK (zO b) zd))) (λ_ _ _ d=>jt (j9 (zy d) (zy d)) zd))))) zg)))))))) ?_;exact(zk (vZ 2 (a.var ⋯)))
theorem Qi(D:ik K mg "_law_spoilt" (top 44) ["_law_script","_law_pairs_here"])(z:f9 P w K mg base 1 "_law_mix" 2 zz)(B:mg "len" = bC):f9 P w K mg base 2 "_law_spoilt" 2 jx:=
 yd (N:=["_law_script","_law_pairs_here","_law_way","_law_at","_law_letter","_law_rows"]) D ⋯ λX I e O d R a f=>by subst I e O d R;exact by refine zf (jG a (jt (zP z a (za (zy a) (za zd zg))) zd)) ?_;refine zf (zJ (jD a (zy a) zd) (zk (zH (PO.v (q8 (zO a) (jZ zd) j0)))) zr) ?_;refine zf (zJ (jD a (zy a) zd) (zk (jX (q9 (zO a) (PO.q (jh (qJ (za (qc (qJ (za zR (za (PO.v (jh (qJ zg))) zg)))) zg))))))) zr) ?_;refine zf (zJ (qN (je (jD a (jd a ⋯ B (zO a)) zd) (ji (Ji (zy a) zd)))) (zk (vZ 1 (a.var ⋯))) zr) ?_;refine zf (jG a (jt (vo (zP z a (za (zy a) (za zd zg))) zd) (jd a ⋯ B (zO a)))) ?_;refine zf (vX (gr a) (zK (zO a) (zy a))) ?_;refine zf (zJ (jD a (zy a) zd) (zk (jG a (zK (PO.q (jh (qJ (za zR (za zR (za zR (za zR (za zR zg)))))))) (jt (zP z a (za (zy a) (za zd zg))) zd)))) zr) ?_;refine zf (zJ (jD a (zy a) zd) (zk (jG a (PO.v (q8 (zO a) (jZ zd) j0)))) zr) ?_;refine zf (zJ (jD a (zy a) zd) (zk (jG a (PO.v (q9 (zO a) (PO.q (xp a (jY (PO.q (q8 (zO a) j0 (jZ zd)))) (λ_ _ _ b=>PO.v (xp b (jY (zO b)) (λ_ _ _ _=>zd))))))))) zr) ?_;refine zf (zJ (jD a (zy a) zd) (zk (jG a (PO.v (q9 (PO.q (q8 (zO a) j0 (jZ (yy zd)))) (PO.q (xp a (jY (PO.q (q8 (zO a) (jZ (yy zd)) j0))) (λ_ _ _ b=>PO.v (q9 (zO b) (PO.q (jh (qJ (za zd zg)))))))))))) zr) ?_;refine zf (zJ (jD a (zy a) zd) (zk (jG a (PO.v (q9 (PO.q (q8 (zO a) j0 (jZ (yy zd)))) (PO.q (xp a (jY (PO.q (q8 (zO a) (jZ (yy zd)) j0))) (λ_ _ _ b=>PO.v (q8 (zO b) (jZ zd) j0)))))))) zr) ?_;refine zf (zJ (jD a (zy a) zd) (zk (jG a (PO.v (q9 (zO a) (PO.q (jh (qJ (za (PO.v (jh (qJ zg))) zg)))))))) zr) ?_;exact(zk (jX (q9 (PO.q (q9 (PO.q (q8 (zO a) j0 (jZ (zy a)))) (PO.q (jh (qJ (za (qc (qJ (za (zy a) (za (zy a) zg)))) zg)))))) (PO.q (q8 (zO a) (jZ (j9 (zy a) zd)) j0)))))
theorem Kx(D:ik K mg "_law_fits" (top 45) ["_law_widths_here","_law_k","_law_pair"])(B:mg "all" = bC)(z:mg "len" = bC):f9 P w K mg base 1 "_law_fits" 3 j6:=
 yd (N:=["_law_widths_here","_law_k","_law_pair","_law_letter","_law_rows","_law_sizes"]) D ⋯ λX I e O d R a f=>by subst I e O d R;exact by refine zf (vX (gr a) (zy a)) ?_;refine zf (zJ (xI (zy a) (PV.q (qc (qJ (za zR (za zR zg)))))) (zk (zH ya)) zr) ?_;refine zf (jG a (qc (qJ (za (zK (zO a) (j9 (zy a) zd)) (za (zK (zO a) (zy a)) zg))))) ?_;refine zf (zJ (jD a (zy a) zR) (zk (jG a (qc (qJ (za (zK (zO a) (zy a)) (za (zK (zO a) (j9 (zy a) zd)) zg)))))) zr) ?_;exact(zk (zH (xk (JY a (jd a ⋯ z (zO a)) (zK (zO a) zd)) (qZ (yz a ⋯ B (PO.q (xp a (jY (zO a)) (λ_ _ _ b=>JY b (jd b ⋯ z (zO b)) (zK (zO b) zd)))))))))
theorem Ky(D:ik K mg "_law_due" (top 46) ["_law_p","_law_widths_here","_law_pairs_here"])(B:f9 P w K mg base 1 "_law_fits" 3 j6)(z:mg "len" = bC)(I:mg "min" = bC)(O:mg "range" = bC)(R:mg "sum" = bC):f9 P w K mg base 2 "_law_due" 3 jC:=
 yd (N:=["_law_p","_law_widths_here","_law_pairs_here","_law_k"]) D ⋯ λX U d W b Y a e=>by subst U d W b Y;exact by refine zf (zJ (JZ (zy a) (PV.q (qc (qJ (za zd (za zd (za zd (za zd zg)))))))) (zk (jX (jh (qJ (za zR (za zd zg)))))) zr) ?_;refine zf (zJ (qN (je (Vp (jd a ⋯ z (zO a)) zd) (je (Ji (jd a ⋯ z (zO a)) zd) (je (Vp (Wt a ⋯ I (zO a)) zd) (ji (Ji (QY a ⋯ R (zO a)) zd)))))) (zk (jX (jh (qJ (za zR (za zd zg)))))) zr) ?_;refine zf (zJ (xo a (jd a ⋯ z (zO a)) (kW (jd a ⋯ z (zO a)) zd)) (zk (jX (jh (qJ (za zR (za zd zg)))))) zr) ?_;refine zf (wR e a (qi a ⋯ O (jd a ⋯ z (zO a))) (zk (zJ (zG (zF (zP B a (za (zy a) (za (zy a) (za (zK (zO a) (zy a)) zg)))))) (zk (jX (jh (qJ (za zR (za (zy a) zg)))))) zr))) ?_;exact(zk (jX (jh (qJ (za zR (za zd zg))))))
theorem Kw(D:ik K mg "_law_made" (top 47) ["_law_p","_law_widths_here","_law_pairs_here"])(B:mg "len" = bC)(I:mg "range" = bC)(z:mg "tuple" = bC):f9 P w K mg base 1 "_law_made" 3 ql:=
 yd (N:=["_law_p","_law_widths_here","_law_pairs_here","_law_arrows","_law_k","_law_letter","_law_rows","_law_sizes","_law_told"]) D ⋯ λX O f R e U a g=>by subst O f R e U;exact by refine zf (wU a (jh (qJ zg))) ?_;refine zf (wR g a (qi a ⋯ I (jd a ⋯ B (zO a))) (by refine zf (vX (gr a) (zK (zO a) (zy a))) ?_;refine zf (jG a (qc (qJ (za (zK (zO a) (j9 (zy a) zd)) (za (zK (zO a) (zy a)) zg))))) ?_;refine zf (zJ (jD a (zy a) zR) (zk (jG a (qc (qJ (za (zK (zO a) (zy a)) (za (zK (zO a) (j9 (zy a) zd)) zg)))))) zr) ?_;refine zf (jG a (qA a ⋯ z (PO.q (xp a (jY (zO a)) (λ_ _ _ b=>qA b ⋯ z (PO.q (xp b (jY (zO b)) (λ_ _ _ d=>jt (zy d) (zy d))))))))) ?_;exact(zk (ZF 3 a ⋯ (qc (qJ (za (zy a) (za (qc (qJ (za (zK (zO a) zd) (za (zK (zO a) zd) (za (zy a) zg))))) zg)))))))) ?_;exact(zk (zH (qc (qJ (za (zy a) (za (qA a ⋯ z (zO a)) (za (qA a ⋯ z (zO a)) zg)))))))
theorem mG(D:L2.A9 K "law" "law" (top 48) f fd)(O:f9 P w K mg base 2 "_law_widths" 1 jm)(R:f9 P w K mg base 2 "_law_spoilt" 2 jx)(U:f9 P w K mg base 2 "_law_due" 3 jC)(W:f9 P w K mg base 2 "_law_pairs" 2 jM)(Y:f9 P w K mg base 5 "row_of" 3 kD)(G:f9 P w K mg base 1 "_law_kinds" 1 qz)(z:f9 P w K mg base 1 "_law_mix" 2 zz)(H:f9 P w K mg base 4 "_law_is_row" 2 jV)(J:f9 P w K mg base 1 "_law_whole" 1 zQ)(L:f9 P w K mg base 1 "_law_made" 3 ql)(Z:XS K mg)(I:md K "at" = cI)(a6:pa P w K mg base 5 "row_of" 3 xN):u5 P w K mg base u4 6 f fd ["_law_script"] (A4 K 1 xF):=
 dA (N:=["_law_script","_law_p","_law_widths_here","_law_pairs_here","_law_due_here","_law_caught","_law_found","_law_e"]) D ⋯ λX e i d h g a j b=>by subst e i d h g;exact by refine zf (jG a (zK (PO.q (jh (qJ (za zd (za zd (za zd (za zd (za zd (za zd (za zd (za zd (za zd zg)))))))))))) (jt (zP z a (za (zy a) (za zd zg))) zd))) ?_;refine zf (zJ (jD a (jt (vo (zP z a (za (zy a) (za zd zg))) zd) zd) zd) (zk (jG a (zK (PO.q (jh (qJ (za zd (za zd (za zd (za zd (za zd (za zd (za zd (za (yy zd) (za zd zg)))))))))))) (jt (zP z a (za (zy a) (za zd zg))) zd)))) zr) ?_;refine zf (jG a (PO.v (Yu O a (za (zy a) zg)))) ?_;refine zf (jG a (zP R a (za (zy a) (za (PO.v (Yu W a (za (zy a) (za (zy a) zg)))) zg)))) ?_;refine zf (jG a (PO.v (Yu U a (za (zy a) (za (zy a) (za (zy a) zg)))))) ?_;refine zf (jG a Q0) ?_;refine zf (jG a Q0) ?_;refine zf (Wy 6 7 5 ⋯ ⋯ a b ⋯ ⋯ ⋯ ⋯ ⋯ ⋯ Z Y a6 ⋯ ⋯ (have B:=a.l4 (λ_ _=>False);za (zy B) (za (zy B) (za (zy B) zg)))) ?_;refine zf (zJ (Ww (zy a) Q0) (zk (zH (xk (JY a (zK (zO a) zd) zR) (qZ (zP H a (za (zy a) (za (zP L a (za (zy a) (za (zy a) (za (zy a) zg)))) zg))))))) zr) ?_;refine zf (zJ (xo a (PO.v (Yu G a (za (zy a) zg))) (PO.v (jh (qJ (za (zK (zO a) zd) zg))))) (zk (zH ya)) zr) ?_;exact(zk (zH (ib (ic a (zK (zO a) zd) zR) (qZ (xk (zP J a (za (Q3 I (zy a)) zg)) (qZ (JY a (Q3 I (zy a)) (zK (zO a) zd))))))))
theorem YG(A:CG K mg "NoArrow" "NoArrow.__init__" "at" (dm (top 12) 0) "at"):Cp P w K mg base 1 "NoArrow":=
 aB (k:=0) A ⋯ ⋯ λC z X B d I b O a=>by subst B d I b O;exact vW (Yk a z ⋯ ⋯ ⋯ ⋯ ⋯)<|vV<|Wr a z ⋯ ⋯
theorem VD(A:CG K mg "NoArrow" "NoArrow.__init__" "at" (dm (top 12) 0) "at"):XJ P w K mg base 1 "NoArrow":=
 gg (k:=0) A ⋯ ⋯ λC z X B d I b O a=>by subst B d I b O;exact vW (Yr a z ⋯ ⋯ ⋯ ⋯ ⋯)<|vV<|WB a z ⋯ ⋯
end
end DL
namespace PySem.W.Fast
def tw508188686127728173:=0
def tw401932268408420130:=0
def tw11468426112830608389:=0
def tw11093495897867687460:=0
def tw17366056346860710272:=0
def tw8060536487583782848:=0
def tw478913220584684321:=0
def tw5814560583608038995:=0
def tw16308092356840024212:=0
def tw1056672510890992757:=0
def tw12542437860036263462:=0
def tw49338463534643423:=0
def tw17757169169745934454:=0
def tw7794904349785367713:=0
def tw6602731380109415343:=0
def tw1511964020096097827:=0
def tw2160217891851080147:=0
def tw9183150407689289213:=0
def tw2410214195588466577:=0
def tw17883069645652701841:=0
def tw15416885501348230877:=0
def tw14936407206183697591:=0
def tw14152617997614805829:=0
def tw3856401133237979474:=0
def tw2297895404275513328:=0
def tw13905108349596941424:=0
def tw14003703349971747198:=0
def tw8140733018983159782:=0
def tw7773946279625909015:=0
def tw4210221721661066595:=0
def tw14933117741234336634:=0
def tw6106463211372595784:=0
def tw1576682704138354935:=0
def tw3105946898203428301:=0
def tw16558837536113808361:=0
def tw11968678139980084138:=0
def tw6491657567294657670:=0
def tw16470631791183207519:=0
def tw14593203799839478686:=0
def tw17457385601350975363:=0
def tw9731906722418518660:=0
def tw12021128472176031003:=0
def tw9383640689032854670:=0
def tw3142211072205164488:=0
def tw6848218947728023938:=0
def tw13335769197308060206:=0
def tw9317687403662313037:=0
def tw157999741060629825:=0
def tw8570970979316609374:=0
def tw10246410399711909:=0
def tw9924919840114690608:=0
def tw7911260223596299629:=0
def tw15786903970917762052:=0
def tw5575450532600918254:=0
def tw12311717326035249220:=0
def tw4926914462710212097:=0
def tw5609286587875892338:=0
def tw11522245907333529715:=0
def tw6688358050734421015:=0
def tw16086065314343904887:=0
def tw13506067210598259821:=0
def tw17586741213974228177:=0
def tw8449190108431007944:=0
def tw7875942424032815336:=0
def tw9795526708784166618:=0
def tw4004317011155745778:=0
def tw8952128568354772376:=0
def tw8569083927436347449:=0
def tw11223020325344805342:=0
def tw8463356211594758627:=0
def tw4894362170580136542:=0
def tw10111452487899568218:=0
def tw3180092171945846665:=0
def tw16328828231372486684:=0
def tw16417638953184267954:=0
def tw6687580895437864646:=0
def tw18268595925523355029:=0
def tw17665735268228225243:=0
def tw7799284868045221353:=0
def tw9596815077658904815:=0
def tw2119824030315988786:=0
def tw12953819189987192794:=0
def tw11489581873257347439:=0
def tw3415470967919555751:=0
def tw10993057750880742203:=0
def tw9822207104731983115:=0
def tw8262357863712190916:=0
def tw4584892519317642377:=0
def tw15944088751910349759:=0
def tw13909349402551203646:=0
def tw6453670704038805796:=0
def tw10648443277020006260:=0
def tw13655364572189068665:=0
def tw9502863898837490448:=0
def tw3137698841840856285:=0
def tw16150596927924374560:=0
def tw6404958689428102864:=0
def tw15608953853196904207:=0
def tw12194069058358190190:=0
def tw3933007559613495441:=0
def tw955400965327846598:=0
def tw5856602199458947141:=0
def tw10381817920221328168:=0
def tw5890212075339223307:=0
def tw4937340415442338256:=0
def tw14538350871217463760:=0
def tw907543119782671297:=0
def tw7854162581309918592:=0
def tw5098022598371807552:=0
def tw4447843590187284490:=0
def tw4253407796875170101:=0
def tw323297648414298740:=0
def tw2717783236568763499:=0
def tw18252242584732148290:=0
def tw1378961379776961893:=0
def tw1346917401005397008:=0
def tw10492424177753956174:=0
def tw8437151689521590532:=0
def tw5538556753361468898:=0
def tw8023366872893015256:=0
def tw5101425491098328457:=0
def tw15707314194211891210:=0
def tw12667330171676067853:=0
def tw9583714712939467800:=0
def tw4655409210522978901:=0
def tw2770782658016106267:=0
def tw2100458784651312233:=0
def tw1469707311288298190:=0
def tw12205083165946550381:=0
def tw12097283460559986755:=0
def tw11658754974017455506:=0
def tw110885589347032808:=0
def tw11757312475698901721:=0
def tw8099086736366657354:=0
def tw4735510618955359216:=0
def tw15597849417831200495:=0
def tw14481090425990277212:=0
def tw4488289596040282568:=0
def tw9001998180475518959:=0
def tw8408933562040093891:=0
def tw7437420193060970784:=0
def tw4505483896635479006:=0
def tw4272473017853603182:=0
def tw3559847399542032108:=0
def tw17765329951722370094:=0
def tw16489853576283574883:=0
def tw13347945874639985706:=0
def tw16566369613155119745:=0
def tw6393564445124264158:=0
def tw222796460915318200:=0
def tw2003185101249670593:=0
def tw18144939691591978261:=0
def tw14285516806456927006:=0
def tw1333482369508085927:=0
def tw13091217459274654480:=0
def tw11805931296208955711:=0
def tw2360885356813198816:=0
def tw3773065036376458855:=0
def tw10393065400471743999:=0
def tw3633134506457000605:=0
end PySem.W.Fast
open PySem PySem.W PyProof.Rows
set_option maxRecDepth 100000 in
set_option maxHeartbeats 0 in
theorem PySem.Challenge.cw_barsplit_k11_no_row_holds : PySem.Challenge.rw_barsplit_k11_no_row.Holds := by
 w_on;o_law;k_head;(case hw=>w_witness2)
 k_fill
 refine L2.eo (l:=px) (n:=63) (k:=6) (x:="_law_script") (CX:=L2.u4) (sp:=λK=>DL.A4 K 1 DL.xF) rfl ⋯ rfl ⟨rfl,by decide,by decide⟩ (λw h Y=>PySem.W.kIn_of Y) ?F ?S ?C
 case S=>exact λK H a ns I hO hS=>DL.fz hS (DL.iI ns I)
 case C=>exact λ_ _ _ _ z=>z
 case F=>
  intro w mg fa h B G c7;have c8:mg "ValueError" = bC:=pZ B G (by k_is);have a2:mg "all" = bC:=pZ B G (by k_is);have ac:mg "bool" = bC:=pZ B G (by k_is);have am:mg "enumerate" = bC:=pZ B G (by k_is);have an:mg "int" = bC:=pZ B G (by k_is);have a1:mg "isinstance" = bC:=pZ B G (by k_is);have R:mg "len" = bC:=pZ B G (by k_is);have ap:mg "list" = bC:=pZ B G (by k_is);have c9:mg "max" = bC:=pZ B G (by k_is);have ca:mg "min" = bC:=pZ B G (by k_is);have a3:mg "range" = bC:=pZ B G (by k_is);have cc:mg "str" = bC:=pZ B G (by k_is);have a9:mg "sum" = bC:=pZ B G (by k_is);have U:mg "tuple" = bC:=pZ B G (by k_is);have ce:mg "zip" = bC:=pZ B G (by k_is);have O:DL.yf (L2.f7 B)=cI:=by kernel_rfl
  have cf:DL.XI (L2.f7 B) mg "NoArrow":=DL.nF B G O ⋯;have ch:DL.XI (L2.f7 B) mg "NoLine":=DL.nF B G O ⋯;have ci:DL.XI (L2.f7 B) mg "NoPrime":=DL.nF B G O ⋯;have cl:DL.XI (L2.f7 B) mg "NoRoom":=DL.nF B G O ⋯;have cn:DL.XI (L2.f7 B) mg "NoRow":=DL.nF B G O ⋯;have co:DL.XI (L2.f7 B) mg "NoTable":=DL.nF B G O ⋯;have cq:DL.XI (L2.f7 B) mg "NoText":=DL.nF B G O ⋯;have cr:DL.XI (L2.f7 B) mg "NoTurn":=DL.nF B G O ⋯;have cs:DL.XI (L2.f7 B) mg "NoWidths":=DL.nF B G O ⋯;have ct:DL.XI (L2.f7 B) mg "Nothing":=DL.nF B G O ⋯;have cv:DL.XI (L2.f7 B) mg "Nought":=DL.nF B G O ⋯;have cw:DL.XS (L2.f7 B) mg:=DL.nE B G (by kernel_rfl);have cx:DL.XI (L2.f7 B) mg "TooMany":=DL.nF B G O ⋯;have cy:DL.XI (L2.f7 B) mg "Unlike":=DL.nF B G O ⋯;have cz:DL.XH (L2.f7 B) mg "NoTable":=DL.nG B G (by kernel_rfl);have as:DL.XC (L2.f7 B) mg "NoPrime":=DL.nH B G O ⋯ (by kernel_rfl);have d0:DL.XC (L2.f7 B) mg "NoRow":=DL.nH B G O ⋯ (by kernel_rfl);have d1:DL.XC (L2.f7 B) mg "NoTable":=DL.nH B G O ⋯ (by kernel_rfl);have d2:DL.XC (L2.f7 B) mg "NoWidths":=DL.nH B G O ⋯ (by kernel_rfl);have ax:DL.CG (L2.f7 B) mg "NoArrow" "NoArrow.__init__" "at" (DL.dm (DL.top 12) 0) "at":=by
   dsimp only[L2.f7];refine' DL.gh B G O ⋯ ?nC ?nS ?iC ?uI ?vI ?w1 ?z1 ?b ?gI
   (case nC=>k_is)
   (case nS=>k_is)
   (case iC=>k_is)
   (case uI=>k_is)
   (case vI=>k_is)
   (case w1=>k_is)
   (case z1=>k_is)
   (case b=>kernel_rfl)
   (case gI=>intro _ _ _ _ _ _ us I;obtain⟨_,_,rfl⟩:=DL.ph I;rfl)
  have d3:DL.md (L2.f7 B) "at" = cI:=by kernel_rfl
  have d4:DL.GL (L2.f7 B) mg "MOST_HIGH_OR_WIDE" (.int 30):=by
   dsimp only[L2.f7];refine' DL.mI B G ?a
   (case a=>k_is)
  have d5:DL.GL (L2.f7 B) mg "MOST_ROOMS" (.int 6):=by
   dsimp only[L2.f7];refine' DL.mI B G ?a
   (case a=>k_is)
  have d6:DL.GL (L2.f7 B) mg "MOST_TOGETHER" (.int 30):=by
   dsimp only[L2.f7];refine' DL.mI B G ?a
   (case a=>k_is)
  have d7:DL.GL (L2.f7 B) mg "PRIMES" (.tup [.int 2,.int 3,.int 5,.int 7]):=by
   dsimp only[L2.f7];refine' DL.iQ [2,3,5,7] B G ?a ?l ?v ?z
   (case a=>k_is);(case l=>k_is);(case v=>rfl);(case z=>decide)
  have b0:DL.GL (L2.f7 B) mg "WAYS" (.tup [.str "r",.str "l"]):=by
   dsimp only[L2.f7];refine' DL.iP ["r","l"] B G ?a ?l ?v ?z
   (case a=>k_is);(case l=>k_is);(case v=>rfl);(case z=>decide)
  have d8:DL.ik (L2.f7 B) mg "is_whole" (DL.top 18) ["x"]:=by
   dsimp only[L2.f7];refine' DL.mP B G ?a ?l ?c ?k ?b
   (case a=>k_is);(case l=>k_is);(case c=>k_is);(case k=>k_is)
   (case b=>intro _ _ _ _ _ _ us I;obtain⟨_,rfl⟩:=DL.pj I;rfl)
  have d9:DL.ik (L2.f7 B) mg "is_prime" (DL.top 19) ["p"]:=by
   dsimp only[L2.f7];refine' DL.mP B G ?a ?l ?c ?k ?b
   (case a=>k_is);(case l=>k_is);(case c=>k_is);(case k=>k_is)
   (case b=>intro _ _ _ _ _ _ us I;obtain⟨_,rfl⟩:=DL.pj I;rfl)
  have da:DL.ik (L2.f7 B) mg "rests" (DL.top 20) ["p","numbers"]:=by
   dsimp only[L2.f7];refine' DL.mP B G ?a ?l ?c ?k ?b
   (case a=>k_is);(case l=>k_is);(case c=>k_is);(case k=>k_is)
   (case b=>intro _ _ _ _ _ _ us I;obtain⟨_,_,rfl⟩:=DL.ph I;rfl)
  have db:DL.ik (L2.f7 B) mg "is_side" (DL.top 21) ["many"]:=by
   dsimp only[L2.f7];refine' DL.mP B G ?a ?l ?c ?k ?b
   (case a=>k_is);(case l=>k_is);(case c=>k_is);(case k=>k_is)
   (case b=>intro _ _ _ _ _ _ us I;obtain⟨_,rfl⟩:=DL.pj I;rfl)
  have di:DL.ik (L2.f7 B) mg "is_listed" (DL.top 22) ["things","many"]:=by
   dsimp only[L2.f7];refine' DL.mP B G ?a ?l ?c ?k ?b
   (case a=>k_is);(case l=>k_is);(case c=>k_is);(case k=>k_is)
   (case b=>intro _ _ _ _ _ _ us I;obtain⟨_,_,rfl⟩:=DL.ph I;rfl)
  have dk:DL.ik (L2.f7 B) mg "is_line" (DL.top 23) ["wide","row"]:=by
   dsimp only[L2.f7];refine' DL.mP B G ?a ?l ?c ?k ?b
   (case a=>k_is);(case l=>k_is);(case c=>k_is);(case k=>k_is)
   (case b=>intro _ _ _ _ _ _ us I;obtain⟨_,_,rfl⟩:=DL.ph I;rfl)
  have bb:DL.ik (L2.f7 B) mg "table_of" (DL.top 24) ["p","high","wide","rows"]:=by
   dsimp only[L2.f7];refine' DL.mP B G ?a ?l ?c ?k ?b
   (case a=>k_is);(case l=>k_is);(case c=>k_is);(case k=>k_is)
   (case b=>intro _ _ _ _ _ _ us I;obtain⟨_,_,_,_,rfl⟩:=DL.pe I;rfl)
  have dl:DL.ik (L2.f7 B) mg "beginning_of" (DL.top 29) ["k","way"]:=by
   dsimp only[L2.f7];refine' DL.mP B G ?a ?l ?c ?k ?b
   (case a=>k_is);(case l=>k_is);(case c=>k_is);(case k=>k_is)
   (case b=>intro _ _ _ _ _ _ us I;obtain⟨_,_,rfl⟩:=DL.ph I;rfl)
  have dn:DL.ik (L2.f7 B) mg "end_of" (DL.top 30) ["k","way"]:=by
   dsimp only[L2.f7];refine' DL.mP B G ?a ?l ?c ?k ?b
   (case a=>k_is);(case l=>k_is);(case c=>k_is);(case k=>k_is)
   (case b=>intro _ _ _ _ _ _ us I;obtain⟨_,_,rfl⟩:=DL.ph I;rfl)
  have dp:DL.ik (L2.f7 B) mg "are_widths" (DL.top 31) ["widths"]:=by
   dsimp only[L2.f7];refine' DL.mP B G ?a ?l ?c ?k ?b
   (case a=>k_is);(case l=>k_is);(case c=>k_is);(case k=>k_is)
   (case b=>intro _ _ _ _ _ _ us I;obtain⟨_,rfl⟩:=DL.pj I;rfl)
  have bd:DL.ik (L2.f7 B) mg "widths_of" (DL.top 32) ["widths"]:=by
   dsimp only[L2.f7];refine' DL.mP B G ?a ?l ?c ?k ?b
   (case a=>k_is);(case l=>k_is);(case c=>k_is);(case k=>k_is)
   (case b=>intro _ _ _ _ _ _ us I;obtain⟨_,rfl⟩:=DL.pj I;rfl)
  have be:DL.ik (L2.f7 B) mg "arrow_of" (DL.top 33) ["p","widths","k","pair"]:=by
   dsimp only[L2.f7];refine' DL.mP B G ?a ?l ?c ?k ?b
   (case a=>k_is);(case l=>k_is);(case c=>k_is);(case k=>k_is)
   (case b=>intro _ _ _ _ _ _ us I;obtain⟨_,_,_,_,rfl⟩:=DL.pe I;rfl)
  have bg:DL.ik (L2.f7 B) mg "row_of" (DL.top 34) ["p","widths","arrows"]:=by
   dsimp only[L2.f7];refine' DL.mP B G ?a ?l ?c ?k ?b
   (case a=>k_is);(case l=>k_is);(case c=>k_is);(case k=>k_is)
   (case b=>intro _ _ _ _ _ _ us I;obtain⟨_,_,_,rfl⟩:=DL.pf I;rfl)
  have dt:DL.ik (L2.f7 B) mg "_law_mix" (DL.top 36) ["_law_script","_law_k"]:=by
   dsimp only[L2.f7];refine' DL.mP B G ?a ?l ?c ?k ?b
   (case a=>k_is);(case l=>k_is);(case c=>k_is);(case k=>k_is)
   (case b=>intro _ _ _ _ _ _ us I;obtain⟨_,_,rfl⟩:=DL.ph I;rfl)
  have dy:DL.ik (L2.f7 B) mg "_law_whole" (DL.top 37) ["_law_found"]:=by
   dsimp only[L2.f7];refine' DL.mP B G ?a ?l ?c ?k ?b
   (case a=>k_is);(case l=>k_is);(case c=>k_is);(case k=>k_is)
   (case b=>intro _ _ _ _ _ _ us I;obtain⟨_,rfl⟩:=DL.pj I;rfl)
  have e2:DL.ik (L2.f7 B) mg "_law_rests" (DL.top 38) ["_law_found","_law_due_here"]:=by
   dsimp only[L2.f7];refine' DL.mP B G ?a ?l ?c ?k ?b
   (case a=>k_is);(case l=>k_is);(case c=>k_is);(case k=>k_is)
   (case b=>intro _ _ _ _ _ _ us I;obtain⟨_,_,rfl⟩:=DL.ph I;rfl)
  have e3:DL.ik (L2.f7 B) mg "_law_is_table" (DL.top 39) ["_law_found","_law_due_here"]:=by
   dsimp only[L2.f7];refine' DL.mP B G ?a ?l ?c ?k ?b
   (case a=>k_is);(case l=>k_is);(case c=>k_is);(case k=>k_is)
   (case b=>intro _ _ _ _ _ _ us I;obtain⟨_,_,rfl⟩:=DL.ph I;rfl)
  have e4:DL.ik (L2.f7 B) mg "_law_is_row" (DL.top 40) ["_law_found","_law_due_here"]:=by
   dsimp only[L2.f7];refine' DL.mP B G ?a ?l ?c ?k ?b
   (case a=>k_is);(case l=>k_is);(case c=>k_is);(case k=>k_is)
   (case b=>intro _ _ _ _ _ _ us I;obtain⟨_,_,rfl⟩:=DL.ph I;rfl)
  have e5:DL.ik (L2.f7 B) mg "_law_kinds" (DL.top 41) ["_law_e"]:=by
   dsimp only[L2.f7];refine' DL.mP B G ?a ?l ?c ?k ?b
   (case a=>k_is);(case l=>k_is);(case c=>k_is);(case k=>k_is)
   (case b=>intro _ _ _ _ _ _ us I;obtain⟨_,rfl⟩:=DL.pj I;rfl)
  have e6:DL.ik (L2.f7 B) mg "_law_widths" (DL.top 42) ["_law_script"]:=by
   dsimp only[L2.f7];refine' DL.mP B G ?a ?l ?c ?k ?b
   (case a=>k_is);(case l=>k_is);(case c=>k_is);(case k=>k_is)
   (case b=>intro _ _ _ _ _ _ us I;obtain⟨_,rfl⟩:=DL.pj I;rfl)
  have e7:DL.ik (L2.f7 B) mg "_law_pairs" (DL.top 43) ["_law_script","_law_widths_here"]:=by
   dsimp only[L2.f7];refine' DL.mP B G ?a ?l ?c ?k ?b
   (case a=>k_is);(case l=>k_is);(case c=>k_is);(case k=>k_is)
   (case b=>intro _ _ _ _ _ _ us I;obtain⟨_,_,rfl⟩:=DL.ph I;rfl)
  have e8:DL.ik (L2.f7 B) mg "_law_spoilt" (DL.top 44) ["_law_script","_law_pairs_here"]:=by
   dsimp only[L2.f7];refine' DL.mP B G ?a ?l ?c ?k ?b
   (case a=>k_is);(case l=>k_is);(case c=>k_is);(case k=>k_is)
   (case b=>intro _ _ _ _ _ _ us I;obtain⟨_,_,rfl⟩:=DL.ph I;rfl)
  have e9:DL.ik (L2.f7 B) mg "_law_fits" (DL.top 45) ["_law_widths_here","_law_k","_law_pair"]:=by
   dsimp only[L2.f7];refine' DL.mP B G ?a ?l ?c ?k ?b
   (case a=>k_is);(case l=>k_is);(case c=>k_is);(case k=>k_is)
   (case b=>intro _ _ _ _ _ _ us I;obtain⟨_,_,_,rfl⟩:=DL.pf I;rfl)
  have ea:DL.ik (L2.f7 B) mg "_law_due" (DL.top 46) ["_law_p","_law_widths_here","_law_pairs_here"]:=by
   dsimp only[L2.f7];refine' DL.mP B G ?a ?l ?c ?k ?b
   (case a=>k_is);(case l=>k_is);(case c=>k_is);(case k=>k_is)
   (case b=>intro _ _ _ _ _ _ us I;obtain⟨_,_,_,rfl⟩:=DL.pf I;rfl)
  have eb:DL.ik (L2.f7 B) mg "_law_made" (DL.top 47) ["_law_p","_law_widths_here","_law_pairs_here"]:=by
   dsimp only[L2.f7];refine' DL.mP B G ?a ?l ?c ?k ?b
   (case a=>k_is);(case l=>k_is);(case c=>k_is);(case k=>k_is)
   (case b=>intro _ _ _ _ _ _ us I;obtain⟨_,_,_,rfl⟩:=DL.pf I;rfl)
  have ee:DL.ik (L2.f7 B) mg "law" (DL.top 48) ["_law_script"]:=by
   dsimp only[L2.f7];refine' DL.mP B G ?a ?l ?c ?k ?b
   (case a=>k_is);(case l=>k_is);(case c=>k_is);(case k=>k_is)
   (case b=>intro _ _ _ _ _ _ us I;obtain⟨_,rfl⟩:=DL.pj I;rfl)
  obtain⟨f,fd,Fu,hb,hm⟩:=ee.ex;have e0:=c7.symm.trans hm;cases e0;refine⟨fd,λs u=> .of_eq (hb [u] rfl),λbase kb nb=>?_⟩;have ej:DL.Cp (px).prog w (L2.f7 B) mg base 1 "NoArrow":=DL.YG ax;have ek:DL.XJ (px).prog w (L2.f7 B) mg base 1 "NoArrow":=DL.VD ax;have a5:DL.f9 (px).prog w (L2.f7 B) mg base 1 "is_whole" 1 DL.zW:=DL.WM d8 ac an a1;have a6:DL.f9 (px).prog w (L2.f7 B) mg base 2 "is_prime" 1 DL.jb:=DL.WN d9 a5 d7;have bi:DL.f9 (px).prog w (L2.f7 B) mg base 1 "rests" 2 DL.xZ:=DL.eU da U;have bl:DL.f9 (px).prog w (L2.f7 B) mg base 2 "is_side" 1 DL.jo:=DL.ak db a5 d4;have a4:DL.f9 (px).prog w (L2.f7 B) mg base 1 "is_listed" 2 DL.zA:=DL.VE di a1 R ap U;have bn:DL.f9 (px).prog w (L2.f7 B) mg base 2 "is_line" 2 DL.jz:=DL.ao dk a4 a5 a2;have bv:DL.f9 (px).prog w (L2.f7 B) mg base 3 "table_of" 4 DL.qs:=DL.WL bb a6 bl a4 bi bn a2 U;have em:DL.pa (px).prog w (L2.f7 B) mg base 3 "table_of" 4 DL.xM:=DL.Vx bb a6 bl a4 bi bn a2 U as d1;have c0:DL.f9 (px).prog w (L2.f7 B) mg base 1 "beginning_of" 2 DL.zZ:=DL.Xp dl;have c1:DL.f9 (px).prog w (L2.f7 B) mg base 1 "end_of" 2 DL.qm:=DL.cG dn;have c2:DL.f9 (px).prog w (L2.f7 B) mg base 2 "are_widths" 1 DL.jA:=DL.YH dp a5 a2 a1 R ap a9 U d5 d6;have c3:DL.f9 (px).prog w (L2.f7 B) mg base 3 "widths_of" 1 DL.jT:=DL.Vz bd c2 U;have en:DL.pa (px).prog w (L2.f7 B) mg base 3 "widths_of" 1 DL.qy:=DL.YE bd c2 U d2;have c4:DL.f9 (px).prog w (L2.f7 B) mg base 4 "arrow_of" 4 DL.jc:=DL.WO be bv a4 c1 c0 b0;have ep:DL.pa (px).prog w (L2.f7 B) mg base 4 "arrow_of" 4 DL.jU:=DL.Vy be bv a4 c1 c0 b0 ek em cz ej;have eq:DL.f9 (px).prog w (L2.f7 B) mg base 5 "row_of" 3 DL.kD:=DL.cF bg c3 a6 a4 c4 am R U;have er:DL.pa (px).prog w (L2.f7 B) mg base 5 "row_of" 3 DL.xN:=DL.ai bg c3 a6 a4 c4 am R U as d0 ep en;have a7:DL.f9 (px).prog w (L2.f7 B) mg base 1 "_law_mix" 2 DL.zz:=DL.aj dt R a3;have a8:DL.f9 (px).prog w (L2.f7 B) mg base 1 "_law_whole" 1 DL.zQ:=DL.VA dy ac an a1;have c5:DL.f9 (px).prog w (L2.f7 B) mg base 2 "_law_rests" 2 DL.jy:=DL.VB e2 a8 a2 a1 R U;have et:DL.f9 (px).prog w (L2.f7 B) mg base 3 "_law_is_table" 2 DL.jq:=DL.Xo e3 a8 c5 a2 a1 R a3 U;have eu:DL.f9 (px).prog w (L2.f7 B) mg base 4 "_law_is_row" 2 DL.jV:=DL.YF e4 a8 c5 et a1 R cc U ce;have ev:DL.f9 (px).prog w (L2.f7 B) mg base 1 "_law_kinds" 1 DL.qz:=DL.VC e5 c8 a1 a3 cf ch ci cl cn co cq cr cs ct cv cx cy;have ew:DL.f9 (px).prog w (L2.f7 B) mg base 2 "_law_widths" 1 DL.jm:=DL.J5 e6 a7 R a3 a9;have ey:DL.f9 (px).prog w (L2.f7 B) mg base 2 "_law_pairs" 2 DL.jM:=DL.Xm e7 a7 R c9 a3;have f0:DL.f9 (px).prog w (L2.f7 B) mg base 2 "_law_spoilt" 2 DL.jx:=DL.Qi e8 a7 R;have f1:DL.f9 (px).prog w (L2.f7 B) mg base 1 "_law_fits" 3 DL.j6:=DL.Kx e9 a2 R;have f2:DL.f9 (px).prog w (L2.f7 B) mg base 2 "_law_due" 3 DL.jC:=DL.Ky ea f1 R ca a3 a9;have f3:DL.f9 (px).prog w (L2.f7 B) mg base 1 "_law_made" 3 DL.ql:=DL.Kw eb R a3 U;exact DL.mG Fu ew f0 f2 ey eq ev a7 eu a8 f3 cw d3 er
