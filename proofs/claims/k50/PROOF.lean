import PyProof.Rows.All
import Wide.All
import OpenK.AllK
import Wide.FinOn
import Lean
import PyProof.EqAt
import PyProof.EqKinds
import PyProof.TupleCall
import PySem.Str
import PyProof.ZipIter
import PyProof.IsiBase
import KE.KItemsList
import KE.KIsAll
import OpenK.KOwn
import KE.KSortAsk
import PyProof.StrBlockI
import PyProof.Rows.EqDataRows
import PyProof.Rows.InDataRows
import PyProof.SumWalkG
import PyProof.ConsumeWalk
import PyProof.WalksMore
import KE.KSortTup
import PyProof.ListMulRoad
import PyProof.EnumFor
import PyProof.Rows.EnumRows
import PyProof.StrBlockL
import PyProof.JoinWalk
import PyProof.NsDelKeeps
import KE.KTryDeep
import PyProof.InstStoreFacts
import PyProof.NsCount
import PyProof.ExcClass2
import PyProof.Rows.FStr
import PyProof.StationsW
import PyProof.Rows.Catch
import KE.KRevIter
import PyProof.CollectIter
import PyProof.TupleOfGen
import PyProof.Rows.Tup
import PyProof.Draws
import PyProof.EnumMake
import PyProof.StrWalks
import PyProof.SliceStr2
import PyProof.ListNew
import KE.KDictOf
import PyProof.ListRange
import PyProof.Rows.GenSrcRange
import PyProof.ListCopy
import PyProof.AttrMissHeap
import PyProof.DictWalks
import PyProof.FactsDict
import KE.KSortKey
import PyProof.TableCode
import PyProof.Rows.KernelRfl
import PySem.Challenge.RW_barsplit_k50_turned_about
open PySem.W renaming Frag → Ab,kia_one → Ca,cellsFrom_some → CD,kitOne → CH,fnOf → CM,keepIn → Eh,findIn → EF,codeIn → EG,methodObj → EW
open PySem renaming wpAny_bind → Ac,wpAny_pure → Am,wpAny_field → Bi,wpAny_truthy_bool → Bt,wpAny_callSpecial?_slot → Bu,wpAny_setField_rec → By,wpAny_newObj_type → BM,wpAny_call_entry → BO,wpAny_seqItems → BS,wpAny_loadPart' → BW,wpAny_mono → Ck,wpAny_passesOwn → Cu,mem_of_lookup → Cw,Builtin → CC,call_meets → Ea,pushCells_keeps → Er,wpAny_pyIter_tuple → Ez,wpAny_Call_Name_kw → EA,wpAny_holding → EI,wpAny_typeOf → EU,wpAny_execs_nil → EV,wpAny_rule → Fb,wpAny_updateSeq_pair → Ff,wpAny_onRaise → Ft,wpAny_attempt → Fv,tupleKind_room_in1 → Fw,concat_meets → Fz,codeAny_mono → FA,noFill_tuple_add → GF,Addr → dy,Value → dV,Expr → d3,Shared → eg,eval → ej,model → el,sizeLine → eG,Heap → e5,Pos → e6,starEach → e9,World → g9,Scope → hA,Program → hH,Stmt → h5,Obj → i5,Env → l0,IsPair → l3,compareOp → mr,Around → mA,backTo → m8,foldedSetIterable → nf,cellsFrom → n6,FuncData → ow,mainGlobals → o5,binaryOp → p4,swapsWith → p8,IsEnum → qs,IsZip → rb,Keyword → ri,NameKind → rk,relabel → rr,sysModules → r6,Builtin → si,assign → s8,behindInMarks → s9,IsPart → t8,assignEach → u0,getItem → u6,holding → u7,bootBuiltins → z3,pushCells → A3,bindC → A9,bindL → B0,callerA → B3,isTrue → B6,rawInt → B9,Meets → C4,pyNext → Di,PassesOwn → Dy,backToKw → Dz,standAt → DO,BindsTo → DT,attributeBase → D4,letOwnedTupleGo → E2,pyIter → E7,strIterType → E9,IsEnumOut → FH,ZipApart → FQ,lastMarks → F1,setItem → Gd,spliced → Ge,swapsWithSole → Gh,builtinsNs → G4,newFunctionEnv → Hj,newList → Hk,seqIndex_neg → Hm,seqIndex_of → Hn,seq_tuple_add → Ho,setField → Hq,swappedStores → Ht,typeIs_int → HB,typeLookup → HC,wpAny_Name → HE,callType_new → Ia,firstArgMember → Ij,wpAny_assign_Name → IJ,wpAny_letOwnedTupleGo_enum → IK,wpAny_pyIter_list → IL,wpAny_sequenceKey → IM
open List renaming range → Ad,replicate → Ag,mem_range → Ah,getElem?_set_ne → Ai,size_toArray → Aj,getElem?_eq_getElem → Ak,mem_cons → Ao,map_cons → Ap,mem_cons_self → Ar,getElem?_cons_zero → Au,getElem?_cons_succ → Av,mem_cons_of_mem → Ax,length_map → Ay,getElem?_eq_some_iff → Az,length_append → m5,map_congr_left → AE,not_mem_nil → AH,mem_filter → AL,getElem?_map → AM,eq_nil_of_length_eq_zero → AN,map_append → AR,getElem?_set_self → AV,getElem?_append_right → AX,getD_eq_getElem?_getD → AY,lookup_cons → Bb,set_cons_zero → Bd,set_cons_succ → Be,mem_append_right → Bg,getElem?_append_left → Bk,range_eq_range' → Bm,append_nil → Bp,range_succ → BA,length_cons → BF,getElem?_range → BK,map_map → BP,replicate_succ → BR,range'_succ → BX,length_singleton → BY,length_range → Cc,all_eq_true → Ce,take_of_length_le → Cg,filter_append → Ci,mem_map → Cm,find?_cons → Cn,flatten_cons → Cr,range_add → Cv,ext_getElem → CA,length_nil → CF,getElem?_replicate → CG,range' → CP,append_assoc → CQ,getElem_set → CZ,mem_of_getElem? → Eb,any_cons → Ec,nodup_cons → Eg,mem_singleton → Ek,map_nil → El,getElem_range → Em,drop_eq_getElem_cons → En,length_take → EB,getElem_map → EC,getElem?_eq_none → EH,flatMap_append → ES,filterMap_cons → ET,zip_cons_cons → Fe,nodup_append → Fg,ext_getElem? → Fh,any_eq_false → Fi,mem_flatMap → Fn,length_drop → Fo,getElem_mem → Fp,drop_length → Fq
open PySem.Heap renaming get?_push_of_some → Ae,lt_size → Aq,get?_push_size → AA,size_push → AZ,push → Bc,SameBut → CT
open Option renaming bind_some → Af,map_some → AO,some → Bf,isSome_iff_exists → Cz,map → EE,isSome_map → Fd,some → di,none → dn
open Nat renaming le_refl → Al,not_lt_zero → An,lt_of_lt_of_le → Aw,ne_of_lt → AQ,lt_or_ge → AW,le_add_right → Bj,lt_succ_of_lt → Bl,lt_irrefl → Bn,le_trans → Bq,zero_le → BB,add_sub_cancel_left → BC,zero_add → BG,lt_succ_self → BH,ne_of_gt → BZ,min_eq_left → Co,lt_trichotomy → Cs,le_of_lt → EL,mul_comm → Fm
open Bool renaming and_eq_true → As,false_ne_true → AB,or_eq_true → Bh,false_eq_true → Bv,eq_iff_iff → Cd,not_false → CS,not_true → Ed,not_eq_true' → Eu,true → dk,false → dt
open PySem.NameKind renaming free → AD,cell → Cb
open Int renaming emod_lt_of_pos → AF,mul_emod → AJ,emod_eq_of_lt → AK,emod_nonneg → AU,add_emod → Bx,eq_ofNat_of_zero_le → BD,emod_emod → BE,toNat_natCast → BQ,mul_comm → Cp,sub_zero → Eo,mul_left_comm → Ex,mul_assoc → ED,mul_one → EX,mul_add → EY,sub_emod → Fs
open Option.some renaming inj → AG
open PySem.Builtin.SmallTypes renaming nextOf → AI,ownedTupleIsFree → Ba,ownedTupleHandOut → BJ,ownedTupleFields → Ei
open Sum renaming inl → AS,inr → Fj
open PyProof.Rows renaming slot_tuple_getitem → Bo,callWith_type1 → Bz,slot_tupleiter_next → Ep,tupleItemsOf_ → EJ,callWith_builtin1 → EK,AllBare → xr,IsTup → Du,Call_ → DU,IntsAre → DX,envOfC → D5,Subscript_ → GR,args_tuple_getitem → HV,args_tupleiter_next → HW,entry_tupleiter_next → Ic,subscriptTail_builtinR → IH
open Ne renaming symm → Br
open PySem.SeqAt renaming EqAt → Bw
open PySem.Builtin.Tuple renaming tupleExact → BI,tupleIsExact → Cf
open PySem.Value renaming ref → BL,type → CJ,none → CK
open PySem.Str renaming ofString → BN,join → Fy
open Classical renaming byContradiction → BU
open PySem.Builtin.List renaming listTooLong → BV
open PySem.Builtin.Slice renaming slicePlaces → Cj,sliceAdjust → CV
open True renaming intro → Cq
open PySem.F renaming slot_enumerate_next → Ct,slot_tuple_mul → Ee,args_tuple_add_2 → Ej,plainAttrs_list → Es,entry_tuple_add → Et,slot_tuple_add → Ew,slot_zip_next → EN,args_tuple_mul_2 → Fk,entry_tuple_mul → Fx
open PySem.PyData renaming depth → Cy,eqv → CI,canLay0 → CN,eqvAll → EO,canLayAll0 → Fc
open False renaming elim → CB
open List.cons renaming injEq → CU
open PySem.Challenge renaming rw_barsplit_k50_turned_about → CY
open Array renaming length_toList → Ef
open ForInStep renaming yield → Ey
open PySem.Obj renaming mapSeq → EM
open PySem.Paired renaming length → ER
open PySem.Calls renaming spliced_cons → EZ
local macro_rules | `(⋯) => `(by first | decide +kernel | omega | simp)
set_option autoImplicit true
noncomputable section
set_option Elab.async false
set_option linter.all false
set_option maxRecDepth 100000
set_option maxHeartbeats 4000000
abbrev GQ:=PySem.Value->PySem.Shared->Prop
abbrev GW:=List (PySem.Addr×PySem.Obj)
abbrev GV:=Nat->Nat->Nat->Int
abbrev GK:=Nat->Nat->Int
abbrev GX:=Nat->Bool
abbrev GZ:=Nat->Nat
abbrev GJ:=PySem.Str->Option PySem.Value
theorem GY{c:Prop}{h:Decidable c}(z:c){α}{a b:α}:ite c a b=a:=if_pos z
theorem MQ{c:Prop}{h:Decidable c}(z:¬c){α}{a b:α}:ite c a b=b:=if_neg z
namespace L2
open PySem PySem.Spec PyProof.Rows
abbrev Key:=Sum Int Str
noncomputable def YB:Key->dV->Bool
 | .inl k,v=>Value.isInt k v
 | .inr x,v=>Value.isStrOf x v
noncomputable def uz(w:g9):Key->Int
 | .inl k=>hashInt k
 | .inr x=>hashStr w x
theorem jH : ∀{k:Key} {v:dV},YB k v=dk->(∃i t,k=AS i/\v=Value.int i t)\/(∃x t,k=Fj x/\v=Value.str x t)
 | .inl i,v,h=>by obtain⟨t,e⟩:=Value.isInt_shape (k:=i) (v:=v) h;exact .inl ⟨i,t,rfl,e⟩
 | .inr x,v,h=>by obtain⟨t,e⟩:=Value.isStrOf_shape (x:=x) (v:=v) h;exact .inr ⟨x,t,rfl,e⟩
theorem Wb(i:Int)(t:Tok):YB (.inl i) (.int i t)=dk:=by simp[YB,Value.isInt]
theorem Wa(x:Str)(t:Tok):YB (.inr x) (.str x t)=dk:=by simp[YB,Value.isStrOf]
theorem mw(a b:Int):decide ((AS a:Key)=AS b)=(a==b):=by
 by_cases e:a=b
 ·subst e;simp
 ·have h : ¬(AS a:Key)=AS b:=λq=>e (AS.inj q)
  rw[decide_eq_false h];exact(beq_eq_false_iff_ne.mpr e).symm
theorem ml(a b:Str):decide ((Fj a:Key)=Fj b)=decide (a=b):=by
 by_cases e:a=b
 ·subst e;simp
 ·have h : ¬(Fj a:Key)=Fj b:=λq=>e (Fj.inj q)
  rw[decide_eq_false h,decide_eq_false e]
theorem mq(a:Int)(b:Str):decide ((AS a:Key)=Fj b)=dt:=decide_eq_false<|λq=>nomatch q
theorem mm(a:Str)(b:Int):decide ((Fj a:Key)=AS b)=dt:=decide_eq_false<|λq=>nomatch q
noncomputable def jP(prog:hH)(w:g9):PySem.KeyKind prog w Key where
 is:=YB
 hash:=uz w
 inj:=λv a b ha z=>by
  rcases jH ha with⟨i,t,rfl,rfl⟩ | ⟨x,t,rfl,rfl⟩
  ·rcases jH z with⟨j,u,rfl,e⟩ | ⟨y,u,rfl,e⟩
   ·injection e with e1 _;rw[e1]
   ·exact nomatch e
  ·rcases jH z with⟨j,u,rfl,e⟩ | ⟨y,u,rfl,e⟩
   ·exact nomatch e
   ·injection e with e1 _;rw[e1]
 byValue:=λk v h=>by rcases jH h with⟨i,t,rfl,rfl⟩ | ⟨x,t,rfl,rfl⟩<;>rfl
 pyHash:=λd h=>by
  rcases jH d with⟨i,t,rfl,rfl⟩ | ⟨x,t,rfl,rfl⟩
  ·exact wpAny_pyHash_int h
  ·exact wpAny_pyHash_str h
 eqBool:=λI d h=>by
  rcases jH I with⟨i,t,rfl,rfl⟩ | ⟨x,t,rfl,rfl⟩
  ·rcases jH d with⟨j,u,rfl,rfl⟩ | ⟨y,u,rfl,rfl⟩
   ·rw[mw]at h;exact wpAny_eqBool_int h
   ·rw[mq]at h;exact Bw.int_str i t y u _ _ _ _ h
  ·rcases jH d with⟨j,u,rfl,rfl⟩ | ⟨y,u,rfl,rfl⟩
   ·rw[mm]at h;exact Bw.str_int x t j u _ _ _ _ h
   ·rw[ml]at h;exact wpAny_eqBool_str h
 «strs» :=λk x t v h=>by
  rcases jH h with⟨i,u,rfl,e⟩ | ⟨y,u,rfl,e⟩
  ·exact nomatch e
  ·injection e with e1 _
   subst e1;cases v<;>rfl
theorem XN(prog:hH)(w:g9)(i:Int)(t:Tok):(jP prog w).is (.inl i) (.int i t)=dk:=Wb i t
theorem XM(prog:hH)(w:g9)(x:Str)(t:Tok):(jP prog w).is (.inr x) (.str x t)=dk:=Wa x t
inductive V where
 | f7 | bl (b:Bool) | int (i:Int) | str (x:Str) | DA (b:Array UInt8) | FY (b:UInt64) | ref (a:dy) | ty (n:String)
 deriving DecidableEq
noncomputable def RelV:V->dV->Prop
 | .f7,u=>u=CK
 | .bl b,u=>u=Value.bool b
 | .int i,u=>∃t,u=Value.int i t
 | .str x,u=>∃t,u=Value.str x t
 | .DA b,u=>∃t,u=Value.bytes b t
 | .FY b,u=>∃t,u=Value.float b t
 | .ref a,u=>u=BL a
 | .ty n,u=>u=CJ n
abbrev eH:List V->List dV->Prop:=Paired RelV
theorem eH.length(r:eH xs us):xs.length=us.length:=ER r
theorem eH.get : ∀{xs:List V} {C:List dV} {i:Nat} {x:V},eH xs C->xs[i]? = di x->∃u,C[i]? = di u/\RelV x u
 | _,_,_,_,.nil,e=>by simp at e
 | _,_,0,_,.cons r _,e=>by simp at e;subst e;exact⟨_,rfl,r⟩
 | _,_,i+1,x,.cons _ t,e=>by obtain⟨u,a,b⟩:=eH.get (i:=i) (x:=x) t (by simpa using e);exact⟨u,by simpa using a,b⟩
theorem eH.set(r:RelV x u) : ∀{xs:List V} {C:List dV} (i:Nat),eH xs C->eH (xs.set i x) (C.set i u)
 | _,_,_,.nil=> .nil
 | _,_,0,.cons _ t=> .cons r t
 | _,_,i+1,.cons q t=> .cons q (eH.set r i t)
theorem eH.append : ∀{xs H:List V} {C d:List dV},eH xs C->eH H d->eH (xs++H) (C++d)
 | _,_,_,_,.nil,s=>s
 | _,_,_,_,.cons r t,s=> .cons r (eH.append t s)
theorem eH.take : ∀{xs:List V} {C:List dV} (n:Nat),eH xs C->eH (xs.take n) (C.take n)
 | _,_,0,_=> .nil
 | _,_,_+1,.nil=> .nil
 | _,_,n+1,.cons r t=> .cons r (eH.take n t)
theorem eH.drop : ∀{xs:List V} {C:List dV} (n:Nat),eH xs C->eH (xs.drop n) (C.drop n)
 | _,_,0,r=>r
 | _,_,_+1,.nil=> .nil
 | _,_,n+1,.cons _ t=>eH.drop n t
noncomputable def sx:Option V->Option dV->Prop
 | some v,di u=>RelV v u
 | none,dn=>True
 | _,_=>False
noncomputable def KV{C:Type}:List (C×V)->List (C×dV)->Prop:=Paired λ(p:C×V) (q:C×dV)=>p.1=q.1/\RelV p.2 q.2
def kV:Key->V
 | .inl i=> .int i
 | .inr x=> .str x
inductive HO where
 | lst (xs:List V)
 | tup (xs:List V)
 | dK (ec:List (Key×V)) | dT (ec:List (List Key×V))
 | set (S:Int->Bool) (n:Nat)
 | ins (C dx:dy) (fs:List (Str×V))
 | own (x:dy)
 | xd (fs:List (Str×V))
 | met (f x:dy)
 | l7 (lo hi:Int)
 | i7 (o:i5) (u:HO)
 | C1 (ps:Array dV)
 | ext (φ:e5->Prop)
abbrev Hp:=dy->Option HO
def upd(H:Hp)(a:dy)(o:HO):Hp:=λb=>if b=a then di o else H b
theorem zH:upd H a o a=di o:=by unfold upd;rw[GY rfl]
theorem zK(h:b≠a):upd H a o b=H b:=by unfold upd;rw[MQ h]
theorem Y6{H:Hp}{a:dy}{o u:HO}:upd (upd H a o) a u=upd H a u:=by funext b;unfold upd;split<;>rfl
theorem pC{H:Hp}{a b:dy}{o u:HO}(h:H a=di o)(h':H b=di u)(d:o≠u):a≠b:=by intro e;subst e;rw[h]at h';exact d<|AG h'
theorem jC{H:Hp}{a b:dy}{o:HO}(h:H a=di o)(h':H b=dn):a≠b:=by intro e;subst e;rw[h]at h';cases h'
noncomputable def sj(h:e5)(a:dy)(d:Array dV):Prop:=∃o,h.get? a=di o/\(o.cls,o.dict)=(CJ "tuple",dn)/\∃n,o.data = .seq d n
theorem sj.new(h:e5)(d:Array dV):sj (h.push {cls:= .type "tuple",data:= .seq d}) h.objs.size d:=⟨_,AA _ rfl,rfl,_,rfl⟩
theorem sj.tup(x:sj h a items):Du h a items:=let ⟨o,e,c,r⟩:=x;⟨o,e,(Prod.mk.inj c).1,r⟩
section
variable(P:hH)(w:g9)
noncomputable def i1(H:Hp)(h:e5)(a:dy):HO->Prop
 | .lst e=>e.length<=eG/\∃(z:List dV) (n:Nat),eH e z/\h.get? a=di {cls:= .type "list",data:= .seq z.toArray n}
 | .tup e=>e.length<=eG/\∃z:List dV,eH e z/\sj h a z.toArray
 | .dK b=>b.length<=eG/\(a==r6)=dt/\∃r,KV b r/\h.DictOf (jP P w) a r
 | .dT b=>b.length<=eG/\(a==r6)=dt/\∃e:List (List Key×dy×dV),
  Paired (λ(p:List Key×V) (q:List Key×dy×dV)=>p.1=q.1/\H q.2.1=di (.tup<|p.1.map kV)/\RelV p.2 q.2.2) b e/\
  ∃o j I,h.get? a=di o/\o.ExactDict/\o.data = .dict j I/\j.toList=e.map (entryOfKey<|tupleKind<|jP P w)/\(e.map (·.1)).Nodup
 | .set S n=>h.SetOf (intKind P w) a S n
 | .ins C g fs=>H g=di (.own a)/\fs.length<=1000/\g≠a/\h.get? a=di (PySem.W.instObj C g)/\
  ∃d,h.Ns1 g d/\(∀f,sx (fs.lookup f)<|d f)/\PySem.Within d (fs.map (·.1))
 | .own _=>∃o,h.get? a=di o
 | .xd fs=>∃d,h.Ns1 a d/\∀f,sx (fs.lookup f)<|d f
 | .l7 lo s=>∃t u v,h.get? a=di {cls:= .type "range",data:= .fields #[.int lo t,.int s u,.int 1 v]}
 | .i7 o u=>h.get? a=di o/\i1 H h a u
 | .C1 y=>h.get? a=di {cls:= .none,data:= .fields y}
 | .met f x=>h.get? a=di (EW (.ref f)<|.ref x)
 | .ext i=>i h/\(∃o,h.get? a=di o)/\∀l m:e5,i l->(∀o,l.get? a=di o->m.get? a=di o)->i m
def ie(H:Hp)(h:e5):Prop:=∀a o,H a=di o->i1 P w H h a o
end
section
variable{P:hH}{w:g9}{H H':Hp}{h h':e5}{a:dy}{o:HO}
theorem i1.lt(x:i1 P w H h a o):a<h.objs.size:=by
 cases o with
 | lst g=>obtain⟨_,_,_,_,e⟩:=x;exact Aq e
 | tup g=>obtain⟨_,_,_,p⟩:=x;exact p.tup.lt
 | dK b=>obtain⟨_,_,_,_,o,_,_,e,_⟩:=x;exact Aq e
 | dT b=>obtain⟨_,_,_,_,o,_,_,e,_⟩:=x;exact Aq e
 | set S n=>obtain⟨o,_,_,_,e,_⟩:=x;exact Aq e
 | ins C i fs=>obtain⟨_,_,_,e,_⟩:=x;exact Aq e
 | own y=>obtain⟨_,e⟩:=x;exact Aq e
 | xd fs=>obtain⟨_,⟨_,_,_,e,_⟩,_⟩:=x;exact Aq e
 | l7 lo j=>obtain⟨_,_,_,e⟩:=x;exact Aq e
 | i7 d u=>obtain⟨e,_⟩:=x;exact Aq e
 | C1 l=>exact Aq (show h.get? a=di _ from x)
 | met f y=>exact Aq (show h.get? a=di _ from x)
 | ext m=>obtain⟨_,⟨_,e⟩,_⟩:=x;exact Aq e
theorem Paired.F4 : ∀{d:List α} {z:List β},Paired F d z->(∀a b,F a b->G a b)->Paired G d z
 | _,_,.nil,_=> .nil
 | _,_,.cons r t,f=> .cons (f _ _ r) (Paired.F4 t f)
theorem i1.C0(x:i1 P w H h a o)(k : ∀b u,(b=a\/H b=di (.own a))->h.get? b=di u->h'.get? b=di u)
 (U : ∀b,H b=di (.own a)->H' b=di (.own a)) (Y : ∀b xs,H b=di (.tup xs)->H' b=di (.tup xs)):i1 P w H' h' a o:=by
 induction o with
 | lst xs=>obtain⟨z,Q,n,r,e⟩:=x;exact⟨z,Q,n,r,k _ _ (.inl rfl) e⟩
 | tup xs=>obtain⟨z,Q,r,I,e,c⟩:=x;exact⟨z,Q,r,I,k _ _ (.inl rfl) e,c⟩
 | dK i=>obtain⟨z,y,B,r,I,g,O,e,c⟩:=x;exact⟨z,y,B,r,I,g,O,k _ _ (.inl rfl) e,c⟩
 | dT i=>
  obtain⟨z,y,xs,r,I,g,O,e,c⟩:=x;exact⟨z,y,xs,Paired.F4 r λp q z=>⟨z.1,Y _ _ z.2.1,z.2.2⟩,I,g,O,k _ _ (.inl rfl) e,c⟩
 | set S n=>obtain⟨I,g,O,t,e,c⟩:=x;exact⟨I,g,O,t,k _ _ (.inl rfl) e,c⟩
 | ins C E fs=>
  obtain⟨d,z,A,e,R,⟨j,g,O,m,c⟩,r⟩:=x;exact⟨U _ d,z,A,k _ _ (.inl rfl) e,R,⟨j,g,O,k _ _ (.inr d) m,c⟩,r⟩
 | own y=>obtain⟨I,e⟩:=x;exact⟨I,k _ _ (.inl rfl) e⟩
 | xd fs=>obtain⟨R,⟨j,g,O,e,c⟩,r⟩:=x;exact⟨R,⟨j,g,O,k _ _ (.inl rfl) e,c⟩,r⟩
 | l7 lo F=>obtain⟨t,u,v,e⟩:=x;exact⟨t,u,v,k _ _ (.inl rfl) e⟩
 | i7 I u s=>obtain⟨e,q⟩:=x;exact⟨k _ _ (.inl rfl) e,s q⟩
 | C1 l=>
  have e:h.get? a=di {cls:= .none,data:= .fields l}:=x;show h'.get? a=di {cls:= .none,data:= .fields l};exact k a _ (.inl rfl) e
 | met f y=>
  have e:h.get? a=di (EW (.ref f)<|.ref y):=x;show h'.get? a=di (EW (.ref f)<|.ref y);exact k a _ (.inl rfl) e
 | ext G=>obtain⟨p,⟨o,e⟩,st⟩:=x;exact⟨st _ _ p λo q=>k _ _ (.inl rfl) q,⟨o,k _ _ (.inl rfl) e⟩,st⟩
theorem ie.lt(x:ie P w H h)(e:H a=di o):a<h.objs.size:=(x a o e).lt
theorem ie.fresh(x:ie P w H h)(e:h.objs.size<=a):H a=dn:=by
 cases q:H a with
 | none=>rfl
 | some u=>exact absurd (Aw (x.lt q) e)<|Bn _
theorem ie.kept(x:ie P w H h)(k : ∀b u,h.get? b=di u->h'.get? b=di u):ie P w H h':=λa o e=>
 (x a o e).C0 (λb u _ q=>k b u q) (λ_ q=>q) λ_ _ q=>q
theorem ie.laid(x:ie P w H h)(k : ∀b u,h.get? b=di u->h'.get? b=di u)(I:h.objs.size<=a)(new:i1 P w (upd H a o) h' a o):ie P w (upd H a o) h':=λb u e=>by
 have d:=x.fresh I;by_cases z:b=a
 ·subst z;rw[zH]at e;cases e;exact new
 ·rw[zK z]at e
  exact(x b u e).C0 (λc v _ q=>k c v q) (λc q=>by rw[zK (jC q d)];exact q) λc f q=>by rw[zK (jC q d)];exact q
end
noncomputable def Rd(H:Hp)(a:dy)(u:HO):Prop:=H a=di u\/∃o,H a=di (.i7 o u)
theorem Rd.ok(r:Rd H a u)(x:ie P w H h):i1 P w H h a u:=by
 rcases r with r | ⟨o,r⟩
 ·exact x a u r
 ·obtain⟨_,q⟩:=x a _ r
  exact q
noncomputable def Dw:Option HO->Prop
 | some (.lst _)=>True
 | some (.dK _)=>True
 | some (.dT _)=>True
 | some (.set _ _)=>True
 | some (.ins _ _ _)=>True
 | some (.ext _)=>True
 | _=>False
section
variable{P:hH}{w:g9}{H:Hp}{h h':e5}{x e:dy}{o':HO}
theorem ie.write(ok:ie P w H h)(d:Dw (H x))(C:e=x\/H e=di (.own x))(k : ∀b u,b≠e->h.get? b=di u->h'.get? b=di u)(Y : ∃u,h'.get? e=di u)
 (new:i1 P w (upd H x o') h' x o'):ie P w (upd H x o') h':=λb u q=>by
 have R : ∀c y,H c=di (.own y)->c≠x:=λc y r z=>by subst z;rw[r]at d;exact d
 have f : ∀c a,H c=di (.tup a)->c≠x:=λc a r z=>by subst z;rw[r]at d;exact d
 by_cases I:b=x
 ·subst I;rw[zH]at q;cases q;exact new
 ·rw[zK I]at q
  by_cases O:b=e
  ·have U:H b=di (.own x):=by
    rcases C with z | z
    ·exact absurd (O.trans z) I
    ·rw[O];exact z
   rw[q]at U;cases U;obtain⟨v,g⟩:=Y;exact⟨v,by rw[O];exact g⟩
  ·refine(ok b u q).C0 (λc v Q r=>k c v ?_ r) (λc r=>by rw[zK (R c b r)];exact r) λc a r=>by rw[zK (f c a r)];exact r
   rcases Q with rfl | Q
   ·exact O
   ·rintro rfl
    rcases C with z | z
    ·exact R c b Q z
    ·rw[Q]at z;cases z;exact I rfl
end
structure Un(fs ex:List dy)(H H':Hp)(h h':e5):Prop where
 keep : ∀b o,h.get? b=di o->H b=dn->b∉fs->b∉ex->h'.get? b=di o
 slot : ∀b o,h.get? b=di o->H b=dn->b∈fs->b∉ex->∃sl,h'.get? b=di {o with slots:=sl}
 free : ∀b o,h.get? b=di o->H b=dn->b∉ex->H' b=dn
 there : ∀b o,h.get? b=di o->b∉ex->∃o',h'.get? b=di o'
 A4 : ∀b xs,H b=di (.tup xs)->H' b=di (.tup xs)
 B5 : ∀b o u,H b=di (.i7 o u)->H' b=di (.i7 o u)
 Dm : ∀b ps,H b=di (.C1 ps)->∃more,H' b=di (.C1<|ps++more)
section
variable{fs IV ex IU:List dy}{H H1 H2:Hp}{h h1 h2 h':e5}{a x e:dy}{o:HO}
theorem Un.any(u:Un fs ex H H1 h h1)(q:h.get? b=di ob)(n:H b=dn)(d:b∉ex) : ∃C,h1.get? b=di {ob with slots:=C}:=by
 by_cases z:b∈fs
 ·exact u.slot b ob q n z d
 ·exact⟨ob.slots,u.keep b ob q n z d⟩
theorem Un.kept(k : ∀b u,h.get? b=di u->h'.get? b=di u):Un fs ex H H h h':=
 ⟨λb d q _ _ _=>k b d q,λb d q _ _ _=>⟨d.slots,k b d q⟩,λ_ _ _ n _=>n,λb d q _=>⟨d,k b d q⟩,λ_ _ q=>q,λ_ _ _ q=>q,λ_ a q=>⟨#[],by rw[q];simp⟩⟩
theorem Un.refl:Un fs ex H H h h:=Un.kept λ_ _ q=>q
theorem Un.laid(k : ∀b u,h.get? b=di u->h'.get? b=di u)(z:h.objs.size<=a)(d:H a=dn):Un fs ex H (upd H a o) h h' where
 keep:=λb u q _ _ _=>k b u q
 slot:=λb u q _ _ _=>⟨u.slots,k b u q⟩
 free:=λb u q n _=>by rw[zK (AQ<|Aw (Aq q) z)];exact n
 there:=λb u q _=>⟨u,k b u q⟩
 A4:=λb xs q=>by rw[zK (jC q d)];exact q
 B5:=λb u xs q=>by rw[zK (jC q d)];exact q
 Dm:=λb ps q=>⟨#[],by rw[zK (jC q d),q];simp⟩
theorem Un.write(d:Dw (H x))(C:e=x\/H e=di (.own x))(k : ∀b u,b≠e->h.get? b=di u->h'.get? b=di u)(U : ∃u,h'.get? e=di u):Un fs ex H (upd H x o) h h':=by
 have O : ∀b,H b=dn->b≠x:=λb n z=>by subst z;rw[n]at d;exact d
 have Q : ∀b,H b=dn->b≠e:=λb n z=>by
  subst z;rcases C with r | r
  ·exact O b n r
  ·rw[n]at r;cases r
 have I : ∀b u,H b=di u->¬Dw (di u)->b≠x:=λb u q nm z=>by subst z;rw[q]at d;exact nm d
 refine⟨λb u q n _ _=>k b u (Q b n) q,λb u q n _ _=>⟨u.slots,k b u (Q b n) q⟩,λb u q n _=>by rw[zK (O b n)];exact n,λb u q _=>?_,
  λb a q=>by rw[zK (I b _ q λz=>z)];exact q,λb u a q=>by rw[zK (I b _ q λz=>z)];exact q,λb f q=>⟨#[],by rw[zK (I b _ q λz=>z),q];simp⟩⟩
 by_cases R:b=e
 ·subst R;exact U
 ·exact⟨u,k b u R q⟩
end
noncomputable def FD(h:e5)(H:Hp):List dy:=(Ad h.objs.size).filter λa=>(H a).isSome
def bK(h:e5)(H:Hp):e5:=PySem.W.hideAll h<|FD h H
theorem Wj(h:e5)(H:Hp):(bK h H).objs.size=h.objs.size:=PySem.W.hideAll_size _ _
theorem bJ(e:h.get? b=di o)(n:H b=dn):(bK h H).get? b=di o:=
 PySem.W.hideAll_get _ e λd=>by have q:(H b).isSome=dk:=(AL.mp d).2;rw[n]at q;simp at q
theorem fV(e:(bK h H).get? b=di o):h.get? b=di o/\H b=dn:=by
 have d:h.get? b=di o:=PySem.W.of_hideAll (FD h H) e;refine⟨d,?_⟩;cases q:H b with
 | none=>rfl
 | some x=>
  have I:b∈FD h H:=AL.mpr ⟨Ah.mpr<|Aq d,by simp[q]⟩;have z:(bK h H).get? b=dn:=PySem.W.hideAll_none (FD h H) I;rw[z]at e;cases e
noncomputable def hJ(g h:e5)(L:dy):List (dy×i5):=(Ad h.objs.size).filterMap λa=>if a=L\/(g.get? a).isSome=dk then dn else (h.get? a).map λo=>(a,o)
noncomputable def q9(g h:e5)(L d:dy):List (dy×i5):=(hJ g h L).filter λp=>decide<|p.1≠d
structure Mod(K:Ab)(mg:GJ)(base:e5):Prop where
 F0:K.In base
 glob:base.Ns o5 mg
 blt : ∃mb,base.Ns G4 mb/\∀x:Str,x ≠ "__name__"->mb x=z3 x
 nolimit:base.NoLimit
structure Cx where
 prog:hH
 w:g9
 K:Ab
 mg:Str->Option dV
 base:e5
 A:mA
 N:List Str
 k0:eg
 Dt:Hp
 env:l0
 outer:List l0
 stack:List l0
 ex:List dy
 fn:Str->Bool
 calm:Bool
 pn:List (dy×i5)
 xe:dV->eg->Prop
def rn(l:List l0):List dy:=l.filterMap (·.frame)
abbrev Cx.fs(X:Cx):List dy:=rn X.outer
noncomputable def FO(C:hA)(x:Str):Prop:=C.names.lookup x=di .local\/C.names.lookup x=di .cell\/C.names.lookup x=di .free
noncomputable def Loc(C:hA)(x:Str):Prop:=C.names.lookup x=di .local\/C.names.lookup x=di .cell
noncomputable def uO(env:l0)(h:e5)(m:GJ)(x:Str)(u:dV):Prop:=
 (env.kindOf x=di .local/\m x=di u)\/((env.kindOf x=di .cell\/env.kindOf x=di .free)/\∃c,env.cells.lookup x=di c/\h.IsCell c (di u))
structure Cx.Ok(X:Cx):Prop where
 mod:Mod X.K X.mg X.base
 kind:X.env.scope.kind = .function
 glob:X.env.globals=o5
 blt:X.env.builtins=G4
 above:X.k0.heap.objs.size<=X.env.locals
 inj : ∀x y c,X.env.cells.lookup x=di c->X.env.cells.lookup y=di c->x=y
 has : ∀x,(X.env.kindOf x=di .cell\/X.env.kindOf x=di .free)->∃c,X.env.cells.lookup x=di c
 DC : ∀x c,X.fn x=dk->X.env.cells.lookup x=di c->X.k0.heap.objs.size<=c
 hd:X.calm=dk->X.A.handled=dn
 frames:X.A.frames=di X.stack
 E8:X.stack=X.outer\/(X.stack=X.env::X.outer/\X.env.frame=di X.env.locals)
 D6 : ∀b∈X.ex,b≠X.env.locals/\∀x c,X.env.cells.lookup x=di c->c≠b
 bs : ∀b o,X.base.get? b=di o->X.k0.heap.get? b=di o/\X.Dt b=dn
 z4:X.base.objs.size<=X.k0.heap.objs.size
 DJ : ∀b o,X.base.get? b=di o->b∉X.ex
 DG : ∀b∈X.ex,b∉X.fs
 ro:X.k0.heap.FunFrames X.base X.outer
 Df : ∀b∈X.fs,X.Dt b=dn
structure Inv(X:Cx)(pins:GW)(σ:List (Option V))(H:Hp)(s:eg):Prop where
 ok:X.Ok
 os:s.os=X.k0.os
 bare:xr s.gens
 base:Un X.fs X.ex X.Dt H X.k0.heap s.heap
 loc : ∃m,s.heap.Ns X.env.locals m/\∀(i:Nat) (x:Str) (v:V),X.N[i]? = di x->σ[i]? = di (di v)->FO X.env.scope x->∃u,RelV v u/\uO X.env s.heap m x u
 cell : ∀x c,X.env.cells.lookup x=di c->∃v,s.heap.IsCell c v
 free:H X.env.locals=dn
 tr : ∀x c,X.env.cells.lookup x=di c->H c=dn
 pin : ∀p∈X.pn++pins,s.heap.get? p.1=di p.2/\H p.1=dn/\p.1≠X.env.locals/\p.1∉X.fs/\∀v,p.2.data ≠ .cell v
 e4:ie X.prog X.w H s.heap
 len:σ.length=X.N.length
section
variable{X:Cx}{pins:GW}{σ:List (Option V)}{H H':Hp}{s:eg}{h':e5}
theorem Cx.Ok.Iu(ok:X.Ok)(e:X.base.get? b=di o):b∉X.fs:=λd=>by have:=(ok.ro.mem d).1;rw[e]at this;cases this
theorem Inv.bs(I:Inv X pins σ H s) : ∀b o,X.base.get? b=di o->s.heap.get? b=di o/\H b=dn:=λb o e=>
 ⟨I.base.keep b o (I.ok.bs b o e).1 (I.ok.bs b o e).2 (I.ok.Iu e) (I.ok.DJ b o e),I.base.free b o (I.ok.bs b o e).1 (I.ok.bs b o e).2 (I.ok.DJ b o e)⟩
theorem Inv.bk(I:Inv X pins σ H s) : ∀b o,X.base.get? b=di o->s.heap.get? b=di o:=λb o e=>(I.bs b o e).1
theorem Inv.mod(I:Inv X pins σ H s):Mod X.K X.mg X.base:=I.ok.mod
theorem Inv.n9(I:Inv X pins σ H s):X.K.In s.heap:=I.ok.mod.F0.keeps I.bk
theorem Inv.lt(I:Inv X pins σ H s):X.env.locals<s.heap.objs.size:=let ⟨_,d,_⟩:=I.loc;d.lt
theorem Inv.sz(I:Inv X pins σ H s):X.k0.heap.objs.size<=s.heap.objs.size:=Bq I.ok.above<|EL I.lt
theorem Inv.Iw(I:Inv X pins σ H s)(h:s.heap.objs.size<=a):a∉X.fs:=λd=>by obtain⟨_,o,z,_⟩:=I.ok.ro.mem d;exact absurd (Aw (Aq z)<|Bq I.sz h)<|Bn _
theorem Inv.B4(I:Inv X pins σ H s) : ∀x c,X.env.cells.lookup x=di c->c≠X.env.locals:=λx c e z=>by obtain⟨v,o,d,a⟩:=I.cell x c e;obtain⟨m,⟨f,b,R,O,Q,_⟩,_⟩:=I.loc;rw[z,O]at d;cases d;rw[Q]at a;cases a
theorem Inv.ro(I:Inv X pins σ H s):s.heap.FunFrames X.base X.outer:=by
 have all : ∀(l:List l0),(∀b∈rn l,b∈X.fs)->X.k0.heap.FunFrames X.base l->s.heap.FunFrames X.base l:=by
  intro l
  induction l with
  | nil=>intro _ _;trivial
  | cons a r U=>
   intro R Y;obtain⟨g,⟨L,o,d,h,i,f⟩,j⟩:=Y;have O:L∈X.fs:=R L (by unfold rn;rw[ET,d];exact Ar);obtain⟨m,e⟩:=I.base.slot L o i (I.ok.Df L O) O λz=>I.ok.DG L z O;exact⟨g,⟨L,_,d,h,e,f⟩,U (λb Q=>R b<|by unfold rn;rw[ET,d];exact Ax _ Q) j⟩
 exact all X.outer (λ_ Q=>Q) I.ok.ro
theorem Inv.stack(I:Inv X pins σ H s):s.heap.FunFrames X.base X.stack:=by
 rcases I.ok.E8 with e | ⟨e,d⟩
 ·rw[e];exact I.ro
 ·rw[e]
  obtain⟨m,z,_⟩:=I.loc;refine .cons (by rw[I.ok.kind];decide) d z ?_ I.ro;exact Heap.get?_none_of_le<|Bq I.ok.z4 I.ok.above
theorem Inv.Gg(I:Inv X pins σ H s) : ∀b∈rn X.stack,b∈X.env.locals::X.fs:=λb d=>by
 rcases I.ok.E8 with e | ⟨e,z⟩
 ·rw[e]at d;exact Ax _ d
 ·rw[e]at d
  unfold rn at d;rw[ET,z]at d;exact d
theorem Inv.Hr(I:Inv X pins σ H s) : ∀b∈rn X.stack,H b=dn:=λb d=>by
 rcases Ao.mp (I.Gg b d)with e | d
 ·rw[e];exact I.free
 ·obtain⟨_,o,O,_⟩:=I.ok.ro.mem d
  exact I.base.free b o O (I.ok.Df b d) λz=>I.ok.DG b z d
theorem Inv.step{g':Array GenState}{t':Nat}{d':Drawn}{ch:List dy}(I:Inv X pins σ H s)
 (U : ∀b∈ch,(b∈X.ex\/X.k0.heap.objs.size<=b)/\b≠X.env.locals/\(∀x c,X.env.cells.lookup x=di c->c≠b)/\∀p∈X.pn++pins,p.1≠b)
 (C : ∀b o,b≠X.env.locals->b∉X.fs->b∉ch->s.heap.get? b=di o->H b=dn->h'.get? b=di o)
 (J : ∀b o,b≠X.env.locals->b∈X.fs->b∉ch->s.heap.get? b=di o->H b=dn->∃sl,h'.get? b=di {o with slots:=sl}) (free : ∀b o,b∉ch->s.heap.get? b=di o->H b=dn->H' b=dn)
 (L : ∀b o,b∉ch->s.heap.get? b=di o->∃S,h'.get? b=di S)
 (A4 : ∀b xs,H b=di (.tup xs)->H' b=di (.tup xs)) (M : ∀b o u,H b=di (.i7 o u)->H' b=di (.i7 o u)) (Z : ∀b ps,H b=di (.C1 ps)->∃more,H' b=di (.C1<|ps++more))
 (ns : ∀m,s.heap.Ns X.env.locals m->h'.Ns X.env.locals m) (e4:ie X.prog X.w H' h') (hg:xr g') :
 Inv X pins σ H' {s with heap:=h',gens:=g',drawn:=d',toks:=t'}:=by
 have j : ∀b o,X.k0.heap.get? b=di o->b≠X.env.locals:=λb o e=>AQ<|Aw (Aq e) I.ok.above;have g : ∀b o,X.k0.heap.get? b=di o->b∉X.ex->b∉ch:=λb o e O Q=>by
  rcases (U b Q).1 with z | z
  ·exact O z
  ·exact absurd (Aw (Aq e) z)<|Bn _
 have t : ∀x c,X.env.cells.lookup x=di c->∀v,s.heap.IsCell c v->h'.IsCell c v:=λx c e v K=>by
  obtain⟨o,R,h⟩:=K;have Y:c∉ch:=λz=>(U c z).2.2.1 x c e rfl;by_cases y:c∈X.fs
  ·obtain⟨sl,q⟩:=J c o (I.B4 x c e) y Y R (I.tr x c e)
   exact⟨_,q,h⟩
  ·exact⟨o,C c o (I.B4 x c e) y Y R<|I.tr x c e,h⟩
 refine⟨I.ok,I.os,hg,⟨λb o e n Q O=>?_,λb o e n Q O=>?_,λb o e n O=>?_,λb o e O=>?_,λb xs e=>A4 b xs<|I.base.A4 b xs e,λb o xs e=>M b o xs<|I.base.B5 b o xs e,λb ps e=>?_⟩,?_,λx c e=>?_,?_,λx c e=>?_,λp A=>?_,e4,I.len⟩
 ·exact C b o (j b o e) Q (g b o e O) (I.base.keep b o e n Q O)<|I.base.free b o e n O
 ·obtain⟨sl,a⟩:=I.base.slot b o e n Q O
  obtain⟨F,f⟩:=J b _ (j b o e) Q (g b o e O) a<|I.base.free b o e n O;exact⟨F,f⟩
 ·obtain⟨S,a⟩:=I.base.there b o e O
  exact free b S (g b o e O) a<|I.base.free b o e n O
 ·obtain⟨S,a⟩:=I.base.there b o e O
  exact L b S (g b o e O) a
 ·obtain⟨T,a⟩:=I.base.Dm b ps e
  obtain⟨W,f⟩:=Z b _ a;exact⟨T++W,by rw[f,Array.append_assoc]⟩
 ·obtain⟨m,P,N⟩:=I.loc
  refine⟨m,ns m P,λi x v a f G=>?_⟩;obtain⟨u,r,l⟩:=N i x v a f G;refine⟨u,r,?_⟩;rcases l with l | ⟨k,c,e,z⟩
  ·exact .inl l
  ·exact .inr ⟨k,c,e,t x c e _ z⟩
 ·obtain⟨v,z⟩:=I.cell x c e
  exact⟨v,t x c e v z⟩
 ·obtain⟨m,⟨o,_,_,R,_⟩,_⟩:=I.loc
  exact free _ o (λz=>(U _ z).2.1 rfl) R I.free
 ·obtain⟨v,o,R,h⟩:=I.cell x c e
  exact free c o (λz=>(U c z).2.2.1 x c e rfl) R<|I.tr x c e
 ·obtain⟨e,n,B,E,d⟩:=I.pin p A
  have Y:p.1∉ch:=λz=>(U p.1 z).2.2.2 p A rfl;exact⟨C p.1 p.2 B E Y e n,free p.1 p.2 Y e n,B,E,d⟩
theorem Inv.un{t':Nat}(I:Inv X pins σ H s)(u:Un X.fs [] H H' s.heap h')(C:ie X.prog X.w H' h'):Inv X pins σ H' {s with heap:=h',toks:=t'}:=by
 obtain⟨m,⟨o,h,g,O,r⟩,_⟩:=id I.loc;obtain⟨l,R⟩:=u.any O I.free ⋯;exact I.step (g':=s.gens) (d':=s.drawn) (ch:=[]) (λ_ z=>nomatch z) (λb o _ d _ e n=>u.keep b o e n d ⋯) (λb o _ d _ e n=>u.slot b o e n d ⋯) (λb o _ e n=>u.free b o e n ⋯) (λb o _ e=>u.there b o e ⋯) u.A4 u.B5 u.Dm (λi U=>by obtain⟨j,Y,a,Q,f⟩:=U;rw[O]at Q;cases Q;exact⟨_,Y,a,R,f⟩) C I.bare
theorem Inv.call{g':Array GenState}{t':Nat}{d':Drawn}{ch:List dy}(I:Inv X pins σ H s)(u:Un (rn X.stack) ch H H' s.heap h')(C:ie X.prog X.w H' h')(Y:xr g')
 (Q : ∀b∈ch,(b∈X.ex\/X.k0.heap.objs.size<=b)/\b≠X.env.locals/\(∀x c,X.env.cells.lookup x=di c->c≠b)/\∀p∈X.pn++pins,p.1≠b) :
 Inv X pins σ H' {s with heap:=h',gens:=g',drawn:=d',toks:=t'}:=by
 obtain⟨m,⟨o,l,j,R,r⟩,_⟩:=id I.loc;obtain⟨A,O⟩:=u.any R I.free λz=>(Q _ z).2.1 rfl;exact I.step (ch:=ch) Q (λb o O g d e n=>u.keep b o e n (λz=>(Ao.mp<|I.Gg b z).elim O g) d) (λb o _ _ d e n=>u.any e n d) (λb o d e n=>u.free b o e n d) (λb o d e=>u.there b o e d) u.A4 u.B5 u.Dm (λt h=>by obtain⟨y,a,f,U,i⟩:=h;rw[R]at U;cases U;exact⟨_,a,f,O,i⟩) C Y
theorem Inv.turned{t':Nat}{it:dy}(I:Inv X pins σ H s)(k : ∀b o,b≠it->s.heap.get? b=di o->h'.get? b=di o)(R:H it=dn)(O:it≠X.env.locals)
 (C:it∈X.ex\/X.k0.heap.objs.size<=it) (J : ∀x c,X.env.cells.lookup x=di c->c≠it) (U : ∀p∈X.pn++pins,p.1≠it):Inv X pins σ H {s with heap:=h',toks:=t'}:=by
 have Q : ∀b u,H b=di u->b≠it:=λb u e z=>by rw[z,R]at e;cases e
 refine I.step (g':=s.gens) (d':=s.drawn) (ch:=[it]) (λb Y=>?_) (λb o _ _ d e _=>k b o (λz=>d<|by simp[z]) e) (λb o _ _ d e _=>⟨o.slots,k b o (λz=>d<|by simp[z]) e⟩) (λ_ _ _ _ n=>n)
  (λb o d e=>⟨o,k b o (λz=>d<|by simp[z]) e⟩) (λ_ _ e=>e) (λ_ _ _ e=>e) (λb i e=>⟨#[],by rw[e];simp⟩) (λm g=>?_) (λb u e=>?_) I.bare
 ·have e:b=it:=by simpa using Y
  subst e;exact⟨C,O,J,U⟩
 ·obtain⟨o,f,a,h,r⟩:=g
  exact⟨o,f,a,k _ o (Br O) h,r⟩
 ·refine(I.e4 b u e).C0 (λc v d q=>k c v ?_ q) (λ_ q=>q) λ_ _ q=>q
  rcases d with z | z
  ·rw[z];exact Q b u e
  ·exact Q c _ z
theorem Inv.tok(I:Inv X pins σ H s)(t:Nat):Inv X pins σ H {s with toks:=t}:=I.un (h':=s.heap) (t':=t) Un.refl I.e4
theorem Inv.kept(I:Inv X pins σ H s)(k : ∀b u,s.heap.get? b=di u->h'.get? b=di u):Inv X pins σ H {s with heap:=h',toks:=t'}:=I.un (Un.kept k)<|I.e4.kept k
theorem Inv.laid(I:Inv X pins σ H s)(k : ∀b u,s.heap.get? b=di u->h'.get? b=di u)(d:s.heap.objs.size<=a)(new:i1 X.prog X.w (upd H a o) h' a o) :
 Inv X pins σ (upd H a o) {s with heap:=h',toks:=t'}:=I.un (Un.laid k d<|I.e4.fresh d)<|I.e4.laid k d new
theorem Inv.write(I:Inv X pins σ H s)(d:Dw (H x))(C:e=x\/H e=di (.own x))(k : ∀b u,b≠e->s.heap.get? b=di u->h'.get? b=di u)(z : ∃u,h'.get? e=di u)
 (new:i1 X.prog X.w (upd H x o) h' x o):Inv X pins σ (upd H x o) {s with heap:=h',toks:=t'}:=I.un (Un.write d C k z)<|I.e4.write d C k z new
theorem Inv.Hl(I:Inv X pins σ H s)(h : ∀p∈d,s.heap.get? p.1=di p.2/\H p.1=dn/\p.1≠X.env.locals/\p.1∉X.fs/\∀v,p.2.data ≠ .cell v):Inv X d σ H s:=
 ⟨I.ok,I.os,I.bare,I.base,I.loc,I.cell,I.free,I.tr,λp O=>(List.mem_append.mp O).elim (λz=>I.pin p<|List.mem_append_left _ z) (h p),I.e4,I.len⟩
theorem KL{N:List Str}(d:N.Nodup){i j:Nat}{x:Str}(a:N[i]? = di x)(b:N[j]? = di x):i=j:=by obtain⟨f,e⟩:=Az.mp a;obtain⟨g,z⟩:=Az.mp b;exact(List.getElem_inj d).mp (e.trans z.symm)
theorem J3{M:Model}{A:mA}{E:GQ}{i:Nat}{x:Str}{v:V}{u:dV}{Q:Unit->eg->Prop}(I:Inv X pins σ H s)(hN:X.N.Nodup)(C:X.N[i]? = di x)(U:Loc X.env.scope x)(r:RelV v u)
 (h : ∀Z,Inv X pins (σ.set i<|some v) H Z->(∃a,CT a s.heap Z.heap/\(a=X.env.locals\/X.env.cells.lookup x=di a))->Q () Z) (hf:X.fn x=dk\/X.env.scope.names.lookup x=di .local:=by first | exact .inl rfl | exact .inr rfl | assumption):wpAny M A (storeName X.env x u) Q E s:=by
 obtain⟨m,K,hl⟩:=id I.loc;have as:(X.env.scope.kind == .class || (X.env.scope.kind == .module && X.env.locals != X.env.globals))=dt:=by rw[I.ok.kind];rfl
 have ac:i<σ.length:=by rw[I.len];exact(Az.mp C).1
 have B4:=I.B4;have ae : ∀{a:dy} {h':e5},(∃o,s.heap.get? a=di o/\H a=dn)->CT a s.heap h'->ie X.prog X.w H h':=λ{a h'} ha O b ob e=>by
  obtain⟨_,_,ag⟩:=ha;refine(I.e4 b ob e).C0 (λc F R q=>(O.2 c ?_).trans q) (λ_ q=>q) λ_ _ q=>q;rintro rfl;rcases R with rfl | R
  ·rw[ag]at e;cases e
  ·rw[ag]at R;cases R
 rcases U with hk | hk
 ·refine wpAny_storeName_local hk K (λh' b0 O=>?_) as
  obtain⟨oL,_,_,b6,_⟩:=id K;refine h _ ⟨I.ok,I.os,I.bare,⟨λb o e n g U=>?_,λb o e n g U=>?_,I.base.free,λb o e U=>?_,I.base.A4,I.base.B5,I.base.Dm⟩,⟨_,b0,λj y v' f Y J=>?_⟩,λy c e=>?_,I.free,I.tr,λp L=>?_,ae ⟨oL,b6,I.free⟩ O,by simpa using I.len⟩ ⟨_,O,.inl rfl⟩
  ·exact(O.2 b<|AQ<|Aw (Aq e) I.ok.above).trans (I.base.keep b o e n g U)
  ·obtain⟨W,f⟩:=I.base.slot b o e n g U
   exact⟨W,(O.2 b<|AQ<|Aw (Aq e) I.ok.above).trans f⟩
  ·obtain⟨S,f⟩:=I.base.there b o e U
   exact⟨S,(O.2 b<|AQ<|Aw (Aq e) I.ok.above).trans f⟩
  ·by_cases l:j=i
   ·subst l
    rw[C]at f;cases f;rw[AV ac]at Y;cases Y;exact⟨u,r,.inl ⟨hk,by simp⟩⟩
   ·rw[Ai (Br l)]at Y
    obtain⟨u',T,q⟩:=hl j y v' f Y J;refine⟨u',T,?_⟩;rcases q with⟨k,e⟩ | ⟨k,c,e,z⟩
    ·refine .inl ⟨k,?_⟩
     have:y≠x:=λe=>l<|KL hN f<|e ▸ C;simp[this,e]
    ·exact .inr ⟨k,c,e,z.sameBut O<|B4 y c e⟩
  ·obtain⟨F,z⟩:=I.cell y c e
   exact⟨F,z.sameBut O<|B4 y c e⟩
  ·obtain⟨e,n,B,P,d⟩:=I.pin p L
   exact⟨(O.2 p.1 B).trans e,n,B,P,d⟩
 ·have G:X.fn x=dk:=by
   rcases hf with z | z
   ·exact z
   ·rw[z]at hk;cases hk
  obtain⟨c,R⟩:=I.ok.has x<|.inl hk;obtain⟨F,z⟩:=I.cell x c R;refine wpAny_storeName_cell I.ok.kind hk R z<|λh' am O=>?_;obtain⟨oc,an,b7⟩:=id z;refine h {s with heap:=h'} ⟨I.ok,I.os,I.bare,⟨λb o e n g U=>?_,λb o e n g U=>?_,I.base.free,λb o e U=>?_,I.base.A4,I.base.B5,I.base.Dm⟩,⟨m,K.sameBut O<|Br<|B4 x c R,λj y v' f Y J=>?_⟩,λy t e=>?_,I.free,I.tr,λp L=>?_,ae ⟨oc,an,I.tr x c R⟩ O,by simpa using I.len⟩ ⟨c,O,.inr R⟩
  ·exact(O.2 b<|AQ<|Aw (Aq e)<|I.ok.DC x c G R).trans (I.base.keep b o e n g U)
  ·obtain⟨W,f⟩:=I.base.slot b o e n g U
   exact⟨W,(O.2 b<|AQ<|Aw (Aq e)<|I.ok.DC x c G R).trans f⟩
  ·obtain⟨S,f⟩:=I.base.there b o e U
   exact⟨S,(O.2 b<|AQ<|Aw (Aq e)<|I.ok.DC x c G R).trans f⟩
  ·by_cases l:j=i
   ·subst l
    rw[C]at f;cases f;rw[AV ac]at Y;cases Y;exact⟨u,r,.inr ⟨.inl hk,c,R,am⟩⟩
   ·rw[Ai (Br l)]at Y
    obtain⟨u',T,q⟩:=hl j y v' f Y J;refine⟨u',T,?_⟩;rcases q with q | ⟨k,t,e,z'⟩
    ·exact .inl q
    ·refine .inr ⟨k,t,e,z'.sameBut O ?_⟩
     rintro rfl;exact l<|KL hN f<|I.ok.inj _ _ _ e R ▸ C
  ·by_cases ap:t=c
   ·subst ap;exact⟨_,am⟩
   ·obtain⟨w2,z2⟩:=I.cell y t e
    exact⟨w2,z2.sameBut O ap⟩
  ·obtain⟨e,n,B,P,d⟩:=I.pin p L
   refine⟨(O.2 p.1 ?_).trans e,n,B,P,d⟩;intro q;rw[q,an]at e;have q':oc=p.2:=AG e;exact d F (by rw[<- q'];exact b7)
theorem Kp(I:Inv X pins σ H s)(d:X.N.Nodup)(J:X.N[i]? = di x)(z:Loc X.env.scope x)(r:RelV v u)
 (h : ∀C,Inv X pins (σ.set i<|some v) H C->Q () C) (O:X.fn x=dk\/X.env.scope.names.lookup x=di .local:=by first | exact .inl rfl | exact .inr rfl | assumption):wpAny M A (storeName X.env x u) Q E s:=
 J3 I d J z r (λC R _=>h C R) O
theorem Inv.H9(I:Inv X pins σ H s)(d:s'.os=s.os)(u:Un (rn X.stack) ch H H' s.heap s'.heap)(C:ie X.prog X.w H' s'.heap)(z:xr s'.gens)
 (O : ∀b∈ch,(b∈X.ex\/X.k0.heap.objs.size<=b)/\b≠X.env.locals/\(∀x c,X.env.cells.lookup x=di c->c≠b)/\∀p∈X.pn++pins,p.1≠b):Inv X pins σ H' s':=by
 obtain⟨h',g',d',t',a⟩:=s';have e:a=s.os:=d;subst e;exact I.call (g':=g') (t':=t') (d':=d') u C z O
end
abbrev XK:=dV->Option dy->Hp->Prop
abbrev St:=List (Option V)
abbrev VK:=V->Hp->Prop
abbrev TE:=St->Hp->VK->Prop
abbrev TT:=St->Hp->(Bool->Hp->Prop)->Prop
abbrev TA:=St->Hp->(List V->Hp->Prop)->Prop
structure Ends where
 nx:St->Hp->Prop
 rt:VK
 bk:St->Hp->Prop:=λ_ _=>False
 ct:St->Hp->Prop:=λ_ _=>False
abbrev TS:=Ends->St->Hp->Prop
noncomputable def EP(X:Cx)(C:GW)(I:St)(Q:VK)(u:dV)(H:eg):Prop:=∃v a,Inv X C I a H/\RelV v u/\Q v a
noncomputable def TP(X:Cx)(C:GW)(I:St)(Q:Bool->Hp->Prop)(b:Bool)(H:eg):Prop:=∃a,Inv X C I a H/\Q b a
noncomputable def AP(X:Cx)(C:GW)(J:St)(Q:List V->Hp->Prop)(I:List dV)(H:eg):Prop:=∃b a,Inv X C J a H/\eH b I/\Q b a
noncomputable def SP(X:Cx)(C:GW)(D:Ends)(f:Flow)(H:eg):Prop:=
 match f with
 | .next=>∃a b,Inv X C a b H/\D.nx a b
 | .brk=>∃a b,Inv X C a b H/\D.bk a b
 | .cont=>∃a b,Inv X C a b H/\D.ct a b
 | .ret u=>∃v a b,Inv X C a b H/\RelV v u/\D.rt v b
noncomputable def PE(X:Cx)(e:d3)(t:TE):Prop:=
 ∀(a:GW) (s:eg) (b:St) (H:Hp) (Q:VK),Inv X a b H s->t b H Q->wpAny (el X.prog X.w) X.A (ej e X.env) (EP X a b Q) X.xe s
noncomputable def PT(X:Cx)(e:d3)(t:TT):Prop:=
 ∀(a:GW) (s:eg) (b:St) (H:Hp) (Q:Bool->Hp->Prop),Inv X a b H s->t b H Q->wpAny (el X.prog X.w) X.A (B6 e X.env<|eval e X.env) (TP X a b Q) X.xe s
noncomputable def PW(X:Cx)(e:d3)(t:TT):Prop:=
 ∀(d:Sem dV) (a:GW) (s:eg) (b:St) (H:Hp) (Q:Bool->Hp->Prop),Inv X a b H s->t b H Q->wpAny (el X.prog X.w) X.A (B6 e X.env d) (TP X a b Q) X.xe s
theorem PW.pt(h:PW X e t):PT X e t:=h _
noncomputable def PA(X:Cx)(C:List d3)(t:TA):Prop:=
 ∀(pos:e6) (a:GW) (s:eg) (b:St) (H:Hp) (Q:List V->Hp->Prop),Inv X a b H s->t b H Q->wpAny (el X.prog X.w) X.A (Ge<|backTo pos<|starEach C X.env) (AP X a b Q) X.xe s
noncomputable def PS(X:Cx)(st:h5)(t:TS):Prop:=
 ∀(a:GW) (s:eg) (b:St) (H:Hp) (D:Ends),Inv X a b H s->t D b H->wpAny (el X.prog X.w) X.A (exec st X.env) (SP X a D) X.xe s
noncomputable def i8(X:Cx)(st:List h5)(t:TS):Prop:=
 ∀(a:GW) (s:eg) (b:St) (H:Hp) (D:Ends),Inv X a b H s->t D b H->wpAny (el X.prog X.w) X.A (execs st X.env) (SP X a D) X.xe s
theorem en(h:wpAny M A t Q E s)(d : ∀a s,Q a s->Q' a s):wpAny M A t Q' E s:=Ck h d λ_ _ x=>x
section
variable{X:Cx}
def dZ(i:Nat):TE:=λa H Q=>∃v,a[i]? = di (di v)/\Q v H
def tC(v:V):TE:=λ_ H Q=>Q v H
theorem lB(R:X.N[i]? = di x)(U:FO X.env.scope x)(C:(x==("__debug__" : Str))=dt:=by decide)(Y:(x==("__classdict__" : Str))=dt:=by decide):PE X (.Name x pos) (dZ i):=by
 intro a s j H Q I h;obtain⟨v,e,h⟩:=h;obtain⟨m,g,b⟩:=I.loc;obtain⟨u,r,l⟩:=b i x v R e U;have d:EP X a j Q u s:=⟨v,H,I,r,h⟩;rcases l with⟨hk,f⟩ | ⟨hk,c,z,O⟩
 ·exact HE (wpAny_loadName_local I.ok.kind hk g f d) C
 ·rcases hk with hk | hk
  ·exact HE (wpAny_loadName_cell I.ok.kind hk z O d) C
  ·exact HE (wpAny_loadName_free I.ok.kind hk z O d Y) C
theorem lI:PE X (.Constant (.int i) j pos) (tC<|.int i):=λ_ _ _ H _ I h=>wpAny_Constant_int ⟨.int i,H,I.tok _,⟨_,rfl⟩,h⟩
theorem lD:PE X (.Constant (.str x) j pos) (tC<|.str x):=λ_ _ _ H _ I h=>Calls.Constant_str ⟨.str x,H,I.tok _,⟨_,rfl⟩,h⟩
def Gl(X:Cx)(x:Str):Prop:=X.env.kindOf x=di .globalImplicit
theorem V9(I:Inv X pins σ H s)(d:Gl X x)(z:X.mg x=di u)(h:Q u s)
 (C:(x==("__debug__" : Str))=dt:=by decide):wpAny (el X.prog X.w) X.A (ej (.Name x pos) X.env) Q E s:=
 Calls.Name_function_global I.ok.kind d (Calls.loadGlobal_global (by rw[I.ok.glob];exact I.mod.glob.keeps I.bk) z h) C
theorem ym(I:Inv X pins σ H s)(d:Gl X x)(z:X.mg x=dn)(O:z3 x=di u)(h:Q u s)
 (R:x ≠ "__name__":=by decide) (C:(x==("__debug__" : Str))=dt:=by decide):wpAny (el X.prog X.w) X.A (ej (.Name x pos) X.env) Q E s:=by
 obtain⟨e,a,b⟩:=I.mod.blt;exact Calls.Name_function_global I.ok.kind d (Calls.loadGlobal_builtin (by rw[I.ok.glob];exact I.mod.glob.keeps I.bk) z (by rw[I.ok.blt];exact a.keeps I.bk) ((b x R).trans O) h) C
variable{a b:d3}{ta tb:TE}{pos:e6}
noncomputable def PC(X:Cx)(d:CmpOp)(a b:d3)(t:TE):Prop:=
 ∀(e:GW) (s:eg) (f:St) (H:Hp) (Q:VK),Inv X e f H s->t f H Q->
  wpAny (el X.prog X.w) X.A (ej a X.env) (λv z=>wpAny (el X.prog X.w) X.A (ej b X.env) (λu I=>wpAny (el X.prog X.w) X.A (mr d v u) (EP X e f Q) X.xe I) X.xe z) X.xe s
theorem bq(b:d3)(h:op ≠ .In)(C:op ≠ .NotIn):s9 op b=dt:=by
 have a:(op==CmpOp.In)=dt:=by cases op<;>first | rfl | exact absurd rfl h
 have d:(op==CmpOp.NotIn)=dt:=by cases op<;>first | rfl | exact absurd rfl C
 cases b<;>simp[s9,a,d]
def tB(t:TE):TT:=λb H Q=>t b H λx a=>∃c,x = .bl c/\Q c a
theorem lj(h:PC X op a b t)(C:s9 op b=dt:=by first | exact bq _ ⋯ ⋯ | rfl):PT X (.Compare a [op] [b] pos) (tB t):=by intro e s j H Q I i;refine wpAny_isTrue_Compare1 (en (h e s j H _ I i) λv l C=>en C λu m g=>en g λc Y z=>?_) C;obtain⟨x,f,O,R,U⟩:=z;obtain⟨d,rfl,q⟩:=U;cases R;exact Bt ⟨f,O,q⟩
theorem lg(h:PE X e t)(he : ∀z,B6 e X.env z=(do let v <- z;DO e.pos;u7 [v] (truthy v)):=by intro _;rfl):PT X e (tB t):=by intro a s g H Q I f;refine isTrue_plain (en (h a s g H _ I f) λv i O=>?_)<|he _;obtain⟨x,b,R,U,Y⟩:=O;obtain⟨d,rfl,q⟩:=Y;cases U;exact Bt ⟨b,R,q⟩
variable{tA Hu:TT}{q9:List d3}
noncomputable def ub(t u:TT):TT:=λb H Q=>t b H λc a=>if c=dk then u b a Q else Q dt a
def tW(t:TT):TT:=λb H Q=>t b H λc a=>Q (!c) a
theorem eY(C:PT X a tA):PW X (.BoolOp .And [a] pos) tA:=by
 intro d b s f H Q I h;refine isTrue_and<|en (C b s f H Q I h) λc g e=>?_;cases c with
 | true=>exact isTrue_and_nil e
 | false=>exact e
theorem iT(C:PT X a tA)(O:PW X (.BoolOp .And (b::q9) pos) Hu):PW X (.BoolOp .And (a::b::q9) pos) (ub tA Hu):=by
 intro R e s g H Q I h;refine isTrue_and<|en (C e s g H _ I h) λc i U=>?_;obtain⟨f,d,z⟩:=U;cases c with
 | true=>exact O R e i g f Q d z
 | false=>exact⟨f,d,z⟩
theorem lh(ha:PT X a tA):PT X (.UnaryOp .Not a pos) (tW tA):=by intro b s e H Q I h;exact isTrue_not<|ha b s e H (λc d=>Q (!c) d) I h
noncomputable def oN(ta tb:TE):TE:=λb H Q=>ta b H λx a=>∃c,x = .bl c/\if c=dk then tb b a Q else Q (.bl dt) a
noncomputable def tU(ta tb:TE):TE:=λb H Q=>ta b H λx a=>∃c,x = .bl c/\if c=dk then Q (.bl dk) a else tb b a Q
noncomputable def oE(ta:TE):TE:=λb H Q=>ta b H λx a=>∃c,x = .bl c/\Q (.bl<|!c) a
theorem lE(h:PE X a t):PE X (.BoolOp op [a] pos) t:=λb s e H Q I d=>BoolOp_one<|h b s e H Q I d
theorem lJ(C:PE X a ta)(O:PE X (.BoolOp .And (b::q9) pos) tb):PE X (.BoolOp .And (a::b::q9) pos) (oN ta tb):=by
 intro e s g H Q I h;refine BoolOp_and<|en (C e s g H _ I h) λv i R=>?_;obtain⟨x,f,z,U,d⟩:=R;obtain⟨c,rfl,d⟩:=d;cases U;refine Bt ?_;cases c with
 | true=>exact O e i g f Q z d
 | false=>exact⟨.bl dt,f,z,rfl,d⟩
theorem px(C:PE X a ta)(O:PE X (.BoolOp .Or (b::q9) pos) tb):PE X (.BoolOp .Or (a::b::q9) pos) (tU ta tb):=by
 intro e s g H Q I h;refine BoolOp_or<|en (C e s g H _ I h) λv i R=>?_;obtain⟨x,f,z,U,d⟩:=R;obtain⟨c,rfl,d⟩:=d;cases U;refine Bt ?_;cases c with
 | false=>exact O e i g f Q z d
 | true=>exact⟨.bl dk,f,z,rfl,d⟩
theorem lF(C:PE X a ta):PE X (.UnaryOp .Not a pos) (oE ta):=by intro b s f H Q I h;refine UnaryOp_<|en (C b s f H _ I h) λv g z=>?_;obtain⟨x,e,O,R,d⟩:=z;obtain⟨c,rfl,d⟩:=d;cases R;exact not_of<|Bt ⟨.bl<|!c,e,O,rfl,d⟩
noncomputable def Gi(t:TT)(ta tb:TE):TE:=λa H Q=>t a H λc b=>if c=dk then ta a b Q else tb a b Q
theorem aY(R:PT X c tA)(C:PE X a ta)(U:PE X b tb):PE X (.IfExp c a b pos) (Gi tA ta tb):=by
 intro e s f H Q I h;refine wpAny_IfExp<|en (R e s f H _ I h) λd i Y=>?_;obtain⟨g,z,O⟩:=Y;cases d with
 | true=>exact C e i f g Q z O
 | false=>exact U e i f g Q z O
end
noncomputable def gR(K:Ab)(H:Hp)(a:dy)(xs:List V):Prop:=
 Rd H a (.lst xs)\/
  ∃(o:i5) (d:Array dV) (n:Nat),K.lookup a=di o/\o.cls = .type "list"/\o.dict=dn/\o.data = .seq d n/\d.size<=eG/\eH xs d.toList
noncomputable def gj(K:Ab)(H:Hp)(a:dy)(xs:List V):Prop:=
 Rd H a (.tup xs)\/
  ∃(o:i5) (d:Array dV) (n:Nat),K.lookup a=di o/\(o.cls,o.dict)=(CJ "tuple",dn)/\o.data = .seq d n/\d.size<=eG/\eH xs d.toList
noncomputable def uJ:dV->Option V
 | .none=>di .f7
 | .bool b=>di (.bl b)
 | .int i _=>di (.int i)
 | .str x _=>di (.str x)
 | .bytes b _=>di (.DA b)
 | .float b _=>di (.FY b)
 | .ref a=>di (.ref a)
 | .type n=>di (.ty n)
 | _=>dn
theorem RelV.abs(r:RelV x u):uJ u=di x:=by
 cases x with
 | f7=>cases r;rfl
 | bl _=>cases r;rfl
 | int _=>obtain⟨t,rfl⟩:=r;rfl
 | str _=>obtain⟨t,rfl⟩:=r;rfl
 | DA _=>obtain⟨t,rfl⟩:=r;rfl
 | FY _=>obtain⟨t,rfl⟩:=r;rfl
 | ref _=>cases r;rfl
 | ty _=>cases r;rfl
theorem RelV.inj(r:RelV x u)(q:RelV y u):x=y:=AG<|r.abs.symm.trans q.abs
theorem eH.inj : ∀{xs H:List V} {C:List dV},eH xs C->eH H C->xs=H
 | _,_,_,.nil,.nil=>rfl
 | _,_,_,.cons r t,.cons r' t'=>by rw[r.inj r',eH.inj t t']
section
variable{X:Cx}{pins:GW}{σ:St}{H:Hp}{s:eg}{a:dy}{xs ys:List V}
theorem gR.of{K:Ab}(h:H a=di (.lst xs)):gR K H a xs:= .inl (.inl h)
theorem gj.of{K:Ab}(h:H a=di (.tup xs)):gj K H a xs:= .inl (.inl h)
theorem Inv.list(I:Inv X pins σ H s)(h:gR X.K H a xs) : ∃d:List dV,eH xs d/\PlainL s.heap a d.toArray/\xs.length<=eG:=by
 rcases h with h | ⟨o,d,n,hk,O,hd,Q,hz,r⟩
 ·obtain⟨z,d,n,r,e⟩:=h.ok I.e4
  exact⟨d,r,⟨_,n,e,rfl,rfl,rfl⟩,z⟩
 ·refine⟨d.toList,r,⟨o,n,I.n9 a o hk,O,hd,by simpa using Q⟩,?_⟩
  have e:=r.length;simp only[Ef]at e;omega
theorem Inv.tuple(I:Inv X pins σ H s)(h:gj X.K H a xs) : ∃d:List dV,eH xs d/\Du s.heap a d.toArray/\xs.length<=eG:=by
 rcases h with h | ⟨o,d,n,hk,O,Q,hz,r⟩
 ·obtain⟨z,d,r,p⟩:=h.ok I.e4
  exact⟨d,r,p.tup,z⟩
 ·refine⟨d.toList,r,⟨o,I.n9 a o hk,(Prod.mk.inj O).1,n,by simpa using Q⟩,?_⟩
  have e:=r.length;simp only[Ef]at e;omega
theorem Inv.Hg(I:Inv X pins σ H s)(h:gR X.K H a xs)(h':gR X.K H a ys):xs=ys:=by
 obtain⟨O,r,⟨o,n,e,_,_,d⟩,_⟩:=I.list h;obtain⟨b,g,⟨j,i,z,_,_,f⟩,_⟩:=I.list h';rw[e]at z;cases z;rw[d]at f;injection f with Q _;have:O=b:=by simpa using congrArg Array.toList Q
 subst this;exact r.inj g
theorem Inv.Hz(I:Inv X pins σ H s)(h:gj X.K H a xs)(h':gj X.K H a ys):xs=ys:=by
 obtain⟨O,r,⟨o,e,_,n,d⟩,_⟩:=I.tuple h;obtain⟨b,g,⟨j,z,_,i,f⟩,_⟩:=I.tuple h';rw[e]at z;cases z;rw[d]at f;injection f with Q _;have:O=b:=by simpa using congrArg Array.toList Q
 subst this;exact r.inj g
end
abbrev Cx.t6(X:Cx)(E:GQ):Cx:={X with xe:=E}
abbrev Cx.DK(X:Cx):Cx:=X.t6 λ_ _=>False
theorem Cx.Ok.t6{X:Cx}(ok:X.Ok)(E:GQ):(X.t6 E).Ok:=
 ⟨ok.mod,ok.kind,ok.glob,ok.blt,ok.above,ok.inj,ok.has,ok.DC,ok.hd,ok.frames,ok.E8,ok.D6,ok.bs,ok.z4,ok.DJ,ok.DG,ok.ro,ok.Df⟩
theorem Cx.Ok.A5{X:Cx}{E:GQ}(ok:(X.t6 E).Ok):X.Ok:=
 ⟨ok.mod,ok.kind,ok.glob,ok.blt,ok.above,ok.inj,ok.has,ok.DC,ok.hd,ok.frames,ok.E8,ok.D6,ok.bs,ok.z4,ok.DJ,ok.DG,ok.ro,ok.Df⟩
section
variable{X:Cx}{pins:GW}{σ:St}{H:Hp}{s:eg}{E:GQ}
theorem Inv.t6(I:Inv X pins σ H s)(E:GQ):Inv (X.t6 E) pins σ H s:=⟨I.ok.t6 E,I.os,I.bare,I.base,I.loc,I.cell,I.free,I.tr,I.pin,I.e4,I.len⟩
theorem Inv.A5(I:Inv (X.t6 E) pins σ H s):Inv X pins σ H s:=⟨I.ok.A5,I.os,I.bare,I.base,I.loc,I.cell,I.free,I.tr,I.pin,I.e4,I.len⟩
theorem SP.A5(h:SP (X.t6 E) pins D f s'):SP X pins D f s':=by
 cases f with
 | next=>obtain⟨a,b,I,q⟩:=h;exact⟨a,b,I.A5,q⟩
 | brk=>obtain⟨a,b,I,q⟩:=h;exact⟨a,b,I.A5,q⟩
 | cont=>obtain⟨a,b,I,q⟩:=h;exact⟨a,b,I.A5,q⟩
 | ret u=>obtain⟨v,a,b,I,r,q⟩:=h;exact⟨v,a,b,I.A5,r,q⟩
theorem i8.DK{st:List h5}{t:TS}(h:i8 X.DK st t):i8 X st t:=λpins s σ H D I a=>
 Ck (h pins s σ H D (I.t6 _) a) (λ_ _ q=>q.A5) λ_ _ z=>CB z
end
section
variable{X:Cx}{st:h5}{q9:List h5}{t u:TS}{e:d3}{te:TE}{pos:e6}
def oG:TS:=λD a H=>D.nx a H
def tP(t u:TS):TS:=λD a H=>t {D with nx:=u D} a H
theorem fj:i8 X [] oG:=λ_ _ a H _ I h=>EV ⟨a,H,I,h⟩
theorem vh(C:PS X st t)(J:i8 X q9 u):i8 X (st::q9) (tP t u):=by
 intro a s i H D I h;refine wpAny_execs_cons<|en (C a s i H {D with nx:=u D} I h) λf g q=>?_;cases f with
 | next=>
  obtain⟨b,e,d,q⟩:=q;exact J a g b e D d q
 | ret v=>exact q
 | brk=>exact q
 | cont=>exact q
theorem VD(C:PS X st t):i8 X [st] t:=by
 intro a s b H D I h;refine wpAny_execs_cons<|en (C a s b H D I h) λf d q=>?_;cases f with
 | next=>exact EV q
 | ret v=>exact q
 | brk=>exact q
 | cont=>exact q
def oM:TS:=λD a H=>D.ct a H
theorem XD:PS X (.Continue pos) oM:=λ_ _ a H _ I h=>wpAny_Continue ⟨a,H,I,h⟩
theorem Inv.quiet(I:Inv X pins σ H s):interactive X.env=dt:=by simp[interactive,I.ok.kind]
def oI(te:TE):TS:=λD a H=>te a H λ_ b=>D.nx a b
theorem Jo(C:PE X e te)(d:p8 e dn pos.line X.env=pure dt:=by rfl):PS X (.Expr e pos) (oI te):=by intro a s b H D I h;exact wpAny_Expr_any (en (C a s b H _ I h) λv g ⟨x,f,z,Q,O⟩=>⟨b,f,z,O⟩) I.quiet d
def tR(te:TE):TS:=λD a H=>te a H D.rt
theorem VF(C:PE X e te):PS X (.Return (di e) pos) (tR te):=by intro a s b H D I h;exact wpAny_Return_some<|en (C a s b H _ I h) λv g ⟨x,f,d,z,O⟩=>⟨x,b,f,d,z,O⟩
noncomputable def tY(c:TT)(t u:TS):TS:=λD a H=>c a H λb d=>if b=dk then t D a d else u D a d
theorem pv(Q:PT X c tc)(C:i8 X a t)(R:i8 X b u):PS X (.If c a b pos) (tY tc t u):=by
 intro e s f H D I h;refine wpAny_If<|en (Q e s f H _ I h) λd i U=>?_;obtain⟨g,z,O⟩:=U;cases d with
 | true=>exact C e i f g D z O
 | false=>exact R e i f g D z O
def iz:TS:=λ_ _ _=>False
theorem aS:PS X st iz:=λ_ _ _ _ _ _ h=>h.elim
end
abbrev TG:=V->St->Hp->(St->Hp->Prop)->Prop
abbrev C6:=List V->St->Hp->(St->Hp->Prop)->Prop
noncomputable def PG(X:Cx)(d:d3)(t:TG):Prop:=
 ∀(a:GW) (s:eg) (f:St) (H:Hp) (v:V) (u:dV) (Q:St->Hp->Prop),Inv X a f H s->RelV v u->t v f H Q->
  wpAny (el X.prog X.w) X.A (s8 d X.env u) (λ_ g=>∃b e,Inv X a b e g/\Q b e) X.xe s
noncomputable def Dx(X:Cx)(d:List d3)(t:C6):Prop:=
 ∀(a:GW) (s:eg) (h:St) (H:Hp) (g:List V) (f:List dV) (Q:St->Hp->Prop),Inv X a h H s->eH g f->t g h H Q->
  wpAny (el X.prog X.w) X.A (assignInOrder ((u0 d X.env).map (·.2)) f) (λ_ i=>∃b e,Inv X a b e i/\Q b e) X.xe s
abbrev tG:=V->V->V->Hp->(Hp->Prop)->Prop
noncomputable def tH(X:Cx)(t:tG):Prop:=
 ∀(a:GW) (s:eg) (e:St) (H:Hp) (o i v:V) (d z u:dV) (Q:Hp->Prop),Inv X a e H s->RelV o d->RelV i z->RelV v u->t o i v H Q->
  wpAny (el X.prog X.w) X.A (Gd d z u) (λ_ f=>∃b,Inv X a e b f/\Q b) X.xe s
section
variable{X:Cx}{pos:e6}
def xN(i:Nat):TG:=λv a H Q=>Q (a.set i<|some v) H
theorem VQ(d:X.N.Nodup)(C:X.N[i]? = di x)(z:Loc X.env.scope x)(O:X.fn x=dk\/X.env.scope.names.lookup x=di .local:=by first | exact .inl rfl | exact .inr rfl | assumption):PG X (.Name x pos) (xN i):=by intro a s e H v u Q I r h;exact IJ<|Kp I d C z r (λb R=>⟨_,H,R,h⟩) O
def sI:C6:=λa b H Q=>a=[]/\Q b H
noncomputable def mF(t:TG)(u:C6):C6:=λd e H Q=>∃v r,d=v::r/\t v e H λa b=>u r a b Q
theorem Jp:Dx X [] sI:=by intro a s b H f d Q I r h;obtain⟨e,h⟩:=h;subst e;cases r;exact assignInOrder_nil ⟨b,H,I,h⟩
theorem qH(C:PG X e t)(J:Dx X es u)
 (d:(u0 (e::es) X.env).map (·.2)=s8 e X.env::(u0 es X.env).map (·.2):=by rfl):Dx X (e::es) (mF t u):=by
 intro a s i H m j Q I r h;obtain⟨v,l,f,h⟩:=h;subst f;cases r with
 | cons r z=>
  rw[d];refine assignInOrder_cons<|en (C a s i H _ _ _ I r h) λ_ g O=>?_;obtain⟨R,b,U,Y⟩:=O;exact J a g R b _ _ Q U z Y
noncomputable def sH(K:Ab)(n:Nat)(t:C6):TG:=λv d H Q=>∃a b,v = .ref a/\gj K H a b/\b.length=n/\t b d H Q
theorem ly(z:X.calm=dk)(h:Dx X es t)
 (O:(u0 es X.env).length=n:=by rfl) (R:(u0 es X.env).findIdx? (·.1)=dn:=by rfl):PG X (.Tuple es k pos) (sH X.K n t):=by
 intro f s i H v u Q I r g;obtain⟨a,x,l,U,Y,g⟩:=g;subst l;cases r;obtain⟨y,d,p,A⟩:=I.tuple U;refine assign_Tuple_tuple (I.ok.hd z) p (by simp[O,<- Y,d.length]) R λm w=>?_;have j:Inv X f i H {s with heap:=m}:=I.kept (t':=s.toks) λb o e=>w b o (AQ<|Aq e) e;exact h f _ i H x _ Q j (by simpa using d) g
noncomputable def uE(to d:TE)(t:tG):TG:=λv a H Q=>to a H λo b=>d a b λi e=>t o i v e λz=>Q a z
theorem lz(R:PE X o to)(J:PE X i ti)(U:tH X t)
 (C : ∀v,s8 (.Subscript o i pos) X.env v=(do
   let d <- u7 [v] (ej o X.env);let z <- u7 [v,d] (ej i X.env)
   DO pos
   u7 [v,d,z] (Gd d z v)
   release [v,d,z] []):=by intro _;rfl):PG X (.Subscript o i pos) (uE to ti t):=by
 intro a s b H v u Q I r h;rw[C];refine Ac<|EI<|en (R a s b H _ I h) λd B O=>?_;obtain⟨x,e,Y,w,m⟩:=O;refine Ac<|EI<|en (J a B b e _ Y m) λz E O=>?_;obtain⟨y,f,j,A,n⟩:=O;refine Ac<|wpAny_standAt<|Ac<|EI<|en (U a E b f x y v d z u _ j w A r n) λ_ F O=>?_;obtain⟨g,l,p⟩:=O;exact wpAny_release ⟨b,g,l,p⟩
def Xx(C:TE)(g:TG):TS:=λD a H=>C a H λx b=>g x a b D.nx
theorem VH(J:PE X e te)(d:PG X tg g)(z:Gh [tg] e pos.line X.env=pure dt:=by rfl)(L:Ht [tg] e X.env=pure dn:=by rfl)
 (C:(u0 [tg] X.env).map (·.2)=[s8 tg X.env]:=by rfl):PS X (.Assign [tg] e pos) (Xx te g):=by
 intro a s b H D I h;refine wpAny_Assign_stores (en (J a s b H _ I h) λv i O=>?_) z L;obtain⟨x,f,Q,R,U⟩:=O;rw[C];exact en (d a i b f x v _ Q R U) λ_ j q=>q
theorem lq(d:X.N.Nodup)(J:X.N[i]? = di x)(z:Loc X.env.scope x)(C:PE X e te)(O:p8 e (di (.Name x pos')) pos.line X.env=pure dt:=by rfl)(Q:X.fn x=dk\/X.env.scope.names.lookup x=di .local:=by first | exact .inl rfl | exact .inr rfl | assumption) :
 PS X (.Assign [.Name x pos'] e pos) (Xx te<|xN i):=by
 intro a s j H D I h;refine wpAny_Assign_Name (en (C a s j H _ I h) λv l R=>?_) O;obtain⟨y,b,U,Y,g⟩:=R;exact Kp U d J z Y (λm f=>⟨_,b,f,g⟩) Q
end
section
variable{X:Cx}{pos:e6}
noncomputable def iw(c:TT)(C:TS):TS:=λD a H=>∃W:Nat->St->Hp->Prop,(∃m,W m a H)/\∀m a H,W m a H->
 c a H λb f=>if b=dk then ∃N:St->Hp->Prop,(∀d e,N d e->∃g,g<m/\W g d e)/\C {D with nx:=N,ct:=N,bk:=D.nx} a f else D.nx a f
theorem aR{c:d3}{C:List h5}{M:TT}{L:TS}(J:Dy (el X.prog X.w) X.A X.env X.xe)(Z:PT X c M)(S:i8 X C L):PS X (.While c C [] pos) (iw M L):=by
 intro a s K H D I h;obtain⟨W,⟨x,F⟩,a9⟩:=h;refine wpAny_While<|codeAny_whileLoop (λn y=>∃e l,Inv X a e l y/\W n e l) ?_ x ⟨K,H,I,F⟩;rintro n B ⟨O,m,t,G⟩;refine Cu J<|en (Z a B O m _ t<|a9 n O m G) λb E u=>?_;obtain⟨o,p,Q⟩:=u;cases b with
 | true=>
  obtain⟨N,r,Q⟩:=Q;rw[GY rfl];refine Cu J<|en (S a E O o _ p Q) λf P R=>?_;cases f with
  | next=>
   obtain⟨d,z,U,Y⟩:=R;obtain⟨i,g,j⟩:=r d z Y;exact⟨i,g,d,z,U,j⟩
  | cont=>
   obtain⟨d,z,U,Y⟩:=R;obtain⟨i,g,j⟩:=r d z Y;exact⟨i,g,d,z,U,j⟩
  | brk=>exact R
  | ret v=>exact R
 | false=>
  rw[MQ AB];exact EV ⟨O,o,p,Q⟩
end
structure It where
 go:Nat->Hp->Prop
 sd:Nat->Hp->V->Hp->Prop
 stop:Nat->Hp->Prop
noncomputable def YW(X:Cx)(C:GW)(H:Hp)(b:dy):Prop:=
 H b=dn/\b≠X.env.locals/\b∉X.fs/\(b∈X.ex\/X.k0.heap.objs.size<=b)/\(∀x c,X.env.cells.lookup x=di c->c≠b)/\∀p∈X.pn++C,p.1≠b
theorem Inv.De(I:Inv X pins σ H s)(d:s.heap.objs.size<=b)(O:H' b=dn):YW X pins H' b:=by
 refine⟨O,BZ<|Aw I.lt d,I.Iw d,.inr<|Bq I.sz d,λx c e z=>?_,λp Q z=>?_⟩
 ·obtain⟨v,q⟩:=I.cell x c e
  exact absurd (Aw q.lt<|by rw[z];exact d)<|Bn _
 ·exact absurd (Aw (Aq (I.pin p Q).1)<|by rw[z];exact d)<|Bn _
structure Turn(P:hH)(w:g9)(K:Ab)(tg:d3)(J:It)(fp:List dy)(it:dy)(tn:Nat->e5->Prop):Prop where
 mem:it∈fp
 obj : ∀i h,tn i h->∀b∈fp,∃o,h.get? b=di o/\∀v,o.data ≠ .cell v
 keep : ∀i h h',tn i h->(∀b∈fp,∀o,h.get? b=di o->h'.get? b=di o)->tn i h'
 item : ∀(X:Cx),X.prog=P->X.w=w->X.K=K->X.calm=dk->∀(i:Nat) (pins:GW) (s:eg) (σ:St) (H:Hp) (E:GQ),Inv X pins σ H s->(∀b∈fp,YW X pins H b)->tn i s.heap->J.go i H->
  wpAny (el P w) X.A (Di<|.ref it) (λr s1=>∃u,r=di u/\
   wpAny (el P w) X.A (E2 tg (.ref it) u) (λ_ s2=>∃x H',Inv X pins σ H' s2/\RelV x u/\J.sd i H x H'/\tn (i+1) s2.heap/\∀b∈fp,H' b=dn) E s1) E s
 done : ∀(X:Cx),X.prog=P->X.w=w->X.K=K->X.calm=dk->∀(i:Nat) (pins:GW) (s:eg) (σ:St) (H:Hp) (E:GQ),Inv X pins σ H s->(∀b∈fp,YW X pins H b)->tn i s.heap->J.stop i H->
  wpAny (el P w) X.A (Di<|.ref it) (λr s1=>r=dn/\Inv X pins σ H s1) E s
 self : ∀(A:mA) (i:Nat) (s:eg) (Q:GQ) (E:GQ),tn i s.heap->Q (.ref it) s->wpAny (el P w) A (E7<|.ref it) Q E s
abbrev TI:=St->Hp->(It->Hp->Prop)->Prop
noncomputable def GP(X:Cx)(C:GW)(L:St)(I:d3)(R:It->Hp->Prop)(d:dV)(H:eg):Prop:=
 ∃(f:dy) (e:List dy) (g:Nat->e5->Prop) (J:It) (a:Hp),d = .ref f/\Inv X C L a H/\Turn X.prog X.w X.K I J e f g/\g 0 H.heap/\(∀b∈e,YW X C a b)/\R J a
noncomputable def PI(X:Cx)(I C:d3)(J:TI):Prop:=
 ∀(a:GW) (s:eg) (b:St) (H:Hp) (R:It->Hp->Prop),Inv X a b H s->J b H R->
  wpAny (el X.prog X.w) X.A (ej C X.env) (λv d=>wpAny (el X.prog X.w) X.A (E7 v) (GP X a b I R) X.xe d) X.xe s
theorem bL(z:s.heap.get? it=di o)(I:o.cls = .type n)(C:o.data = .fields vs)
 (O:["enumerate","zip","dict_itemiterator","dict_reverseitemiterator","odict_iterator","itertools.zip_longest","itertools.pairwise"].contains n=dt) (d:Q () s):wpAny M A (E2 tg (.ref it) u) Q E s:=by
 unfold E2;cases tg<;>first
  | exact Am d
  | (cases u<;>first
      | exact Am d
      | (refine Ac (wpAny_load z ?_)
         rw[I,C];show wpAny M A (if (["enumerate","zip","dict_itemiterator","dict_reverseitemiterator","odict_iterator","itertools.zip_longest","itertools.pairwise"].contains n && vs[0]? == di (B9 _))=dk then _ else _) Q E s;rw[MQ (by intro h;rw[O,Bool.false_and]at h;cases h)];exact Am d))
noncomputable def Dv(K:Ab)(a:dy):It:=
 ⟨λi H=>∃b x,gR K H a b/\b[i]? = di x,λi H x d=>d=H/\∀b,gR K H a b->b[i]? = di x,λi H=>∃b,gR K H a b/\b.length<=i⟩
noncomputable def GO(K:Ab)(a:dy):It:=
 ⟨λi H=>∃b x,gj K H a b/\b[i]? = di x,λi H x d=>d=H/\∀b,gj K H a b->b[i]? = di x,λi H=>∃b,gj K H a b/\b.length<=i⟩
noncomputable def xw(lo:Int)(n:Nat):It:=⟨λi _=>i<n,λi H x a=>a=H/\x = .int (lo+i),λi _=>n<=i⟩
theorem Y8{P:hH}{w:g9}{K:Ab}{tg:d3}(a it:dy):Turn P w K tg (Dv K a) [it] it (λi h=>h.IsListIter it a i) where
 mem:=by simp
 obj:=λi h st b O=>by
  have e:b=it:=by simpa using O
  subst e;obtain⟨o,e,c,d⟩:=st;exact⟨o,e,λv z=>by rw[d]at z;cases z⟩
 keep:=λi h h' st k=>st.at λo e=>k it ⋯ o e
 item:=by intro X U hw Y hc i pins s σ H E I Q st hg;subst U hw Y;obtain⟨xs,x,R,hx⟩:=hg;obtain⟨aa,rv,p,hz⟩:=I.list R;obtain⟨u,hu,ru⟩:=rv.get hx;obtain⟨f0,f1,f2,f3,f4,f5⟩:=Q it ⋯;refine wpAny_pyNext_list_item st p.isList (x:=u) (by simpa using hu) λh' a9 sb=>?_;have I1:Inv X pins σ H {s with heap:=h'}:=I.turned (t':=s.toks) (λb o O e=>(sb.2 b O).trans e) f0 f1 f3 f4 f5;obtain⟨o,e,c,d⟩:=id a9;exact⟨u,rfl,bL (s:={s with heap:=h'}) e c d ⋯ ⟨x,H,I1,ru,⟨rfl,λys hy=>by rw[I.Hg hy R];exact hx⟩,a9,λb O=>(Q b O).1⟩⟩
 done:=by intro X U hw Y hc i pins s σ H E I Q st hg;subst U hw Y;obtain⟨xs,R,hx⟩:=hg;obtain⟨aa,rv,p,hz⟩:=I.list R;obtain⟨f0,f1,f2,f3,f4,f5⟩:=Q it ⋯;have hl:=rv.length;exact wpAny_pyNext_list_end (I.ok.hd hc) st p.isList (by simp;omega) λh' eb=>⟨rfl,I.turned (t':=s.toks) (λb o O e=>eb b o O e) f0 f1 f3 f4 f5⟩
 self:=λ_ _ _ _ _ st h=>wpAny_pyIter_listiter st h
theorem Ye{P:hH}{w:g9}{K:Ab}{tg:d3}(a it:dy):Turn P w K tg (GO K a) [it] it (λi h=>h.IsTupleIter it a i) where
 mem:=by simp
 obj:=λi h st b O=>by
  have e:b=it:=by simpa using O
  subst e;obtain⟨o,e,c,d⟩:=st;exact⟨o,e,λv z=>by rw[d]at z;cases z⟩
 keep:=λi h h' st k=>st.at λo e=>k it ⋯ o e
 item:=by intro X U hw Y hc i pins s σ H E I Q st hg;subst U hw Y;obtain⟨xs,x,R,hx⟩:=hg;obtain⟨a2,rv,p,hz⟩:=I.tuple R;obtain⟨u,hu,ru⟩:=rv.get hx;obtain⟨f0,f1,f2,f3,f4,f5⟩:=Q it ⋯;refine wpAny_pyNext_tuple_item st (show s.heap.IsTuple a a2.toArray from p) (x:=u) (by simpa using hu) λh' aa sb=>?_;have I1:Inv X pins σ H {s with heap:=h'}:=I.turned (t':=s.toks) (λb o O e=>(sb.2 b O).trans e) f0 f1 f3 f4 f5;obtain⟨o,e,c,d⟩:=id aa;exact⟨u,rfl,bL (s:={s with heap:=h'}) e c d ⋯ ⟨x,H,I1,ru,⟨rfl,λys hy=>by rw[I.Hz hy R];exact hx⟩,aa,λb O=>(Q b O).1⟩⟩
 done:=by intro X U hw Y hc i pins s σ H E I Q st hg;subst U hw Y;obtain⟨xs,R,hx⟩:=hg;obtain⟨a2,rv,p,hz⟩:=I.tuple R;obtain⟨f0,f1,f2,f3,f4,f5⟩:=Q it ⋯;have hl:=rv.length;exact wpAny_pyNext_tuple_end (I.ok.hd hc) st (show s.heap.IsTuple a a2.toArray from p) (by simp;omega) λh' eb=>⟨rfl,I.turned (t':=s.toks) (λb o O e=>eb b o O e) f0 f1 f3 f4 f5⟩
 self:=λ_ _ _ _ _ st h=>wpAny_pyIter_tupleiter st h
theorem Yf{P:hH}{w:g9}{K:Ab}{tg:d3}(it:dy)(lo:Int)(n:Nat):Turn P w K tg (xw lo n) [it] it (λi h=>IsRangeIter h it (lo+(i:Nat)*1) ((n:Int) - (i:Nat)) 1) where
 mem:=by simp
 obj:=λi h st b d=>by
  have e:b=it:=by simpa using d
  subst e;exact⟨_,st,λv z=>by have z':Data.fields _=Data.cell v:=z;cases z'⟩
 keep:=λi h h' st k=>k it ⋯ _ st
 item:=by intro X Q hw R U i pins s σ H E I O st Y;subst Q hw R;obtain⟨f0,f1,f2,f3,f4,f5⟩:=O it ⋯;have W:=Walks.range (prog:=X.prog) (w:=X.w) (I.ok.hd U) it lo 1 n;refine W.item i s _ _ Y st λv h' tk hv a6 kk=>?_;obtain⟨t,rfl⟩:=hv;have I1:Inv X pins σ H {s with heap:=h',toks:=tk}:=I.turned (λb o d e=>kk b o (by simpa using d) e) f0 f1 f3 f4 f5;refine⟨_,rfl,bL (s:={s with heap:=h',toks:=tk}) (n:="range_iterator") a6 rfl rfl ⋯ ⟨.int (lo+i),H,I1,⟨t,?_⟩,⟨rfl,rfl⟩,a6,λb d=>(O b d).1⟩⟩;rw[EX]
 done:=by intro X Q hw R U i pins s σ H E I O st Y;subst Q hw R;obtain⟨f0,f1,f2,f3,f4,f5⟩:=O it ⋯;exact wpAny_pyNext_range_end (I.ok.hd U) st (by have:n<=i:=Y;omega) λh' eb=>⟨rfl,I.turned (t':=s.toks) (λb o d e=>eb b o d e) f0 f1 f3 f4 f5⟩
 self:=λ_ _ _ _ _ st h=>wpAny_pyIter_rangeiter st h
section
variable{X:Cx}{tg:d3}
theorem Kx{J:GW}{L:St}{H:Hp}{s:eg}{R:It->Hp->Prop}{E:GQ}{lo C:Int}{t u v:Tok}{d:Nat}(I:Inv X J L H s)(M : -(2 ^ 62)<=lo)(S:lo<2 ^ 62)(O : -(2 ^ 62)<=C)(Q:C<2 ^ 62)
 (q:R (xw lo (C - lo).toNat) H):wpAny (el X.prog X.w) X.A (E7 (.ref s.heap.objs.size)) (GP X J L tg R) E {s with heap:=s.heap.push {cls:= .type "range",data:= .fields #[.int lo t,.int C u,.int 1 v]},toks:=d}:=by
 refine wpAny_pyIter_range (IsRange.new ..) (small_one M S O Q) ?_;have z:Inv X J L H {s with heap:=s.heap.push {cls:= .type "range",data:= .fields #[.int lo t,.int C u,.int 1 v]},toks:=d}:=I.kept λb o e=>Ae _ e;refine⟨(s.heap.push {cls:= .type "range",data:= .fields #[.int lo t,.int C u,.int 1 v]}).objs.size,[(s.heap.push {cls:= .type "range",data:= .fields #[.int lo t,.int C u,.int 1 v]}).objs.size],_,_,H,rfl,
  z.kept (t':=d) λb o e=>Ae _ e,Yf _ lo (C - lo).toNat,?_,λb U=>?_,q⟩
 ·have a:lo+((0:Nat):Int)*1=lo:=by simp
  have Y:(((C - lo).toNat:Nat):Int) - ((0:Nat):Int)=Builtin.Range.rangeSize lo C 1:=by rw[rangeSize_one];split<;>omega
  show IsRangeIter _ _ (lo+((0:Nat):Int)*1) ((((C - lo).toNat:Nat):Int) - ((0:Nat):Int)) 1;rw[a,Y];exact AA _ rfl
 ·have e:b=(s.heap.push {cls:= .type "range",data:= .fields #[.int lo t,.int C u,.int 1 v]}).objs.size:=by simpa using U
  subst e;exact z.De (Al _)<|z.e4.fresh<|Al _
noncomputable def pL(C:TA):TI:=λd H R=>C d H λb a=>∃j:Int,b=[.int j]/\ -(2 ^ 62)<=j/\j<2 ^ 62/\R (xw 0 j.toNat) a
noncomputable def pK(C:TA):TI:=λd H R=>C d H λb a=>∃i j:Int,b=[.int i,.int j]/\(-(2 ^ 62)<=i/\i<2 ^ 62/\ -(2 ^ 62)<=j/\j<2 ^ 62)/\R (xw i (j - i).toNat) a
theorem VP{a:d3}{C:TA}{p pos:e6}(z:Gl X "range")(O:X.mg "range" = dn)(J:PA X [a] C)(Q:e9 [a] X.env=[(dt,ej a X.env)]:=by rfl):PI X tg (.Call (.Name "range" p) [a] [] pos) (pL C):=by
 intro b s l H R I h;refine DU<|ym I z O boot_range<|Bz (en (J pos b s l H _ I h) λo n U=>?_) Q rfl;obtain⟨u,m,Y,g,d⟩:=U;obtain⟨j,e,d,f,q⟩:=d;subst e;cases g with
 | cons r i=>
  cases i;obtain⟨t,rfl⟩:=r;exact call_range_1 (Kx Y ⋯ ⋯ d f<|by simpa using q)
theorem VO(Q:Gl X "range")(U:X.mg "range" = dn)(C:PA X [a,b] ta)(Y:e9 [a,b] X.env=[(dt,ej a X.env),(dt,ej b X.env)]:=by rfl)(O:e9 [b] X.env=[(dt,ej b X.env)]:=by rfl) :
 PI X tg (.Call (.Name "range" p) [a,b] [] pos) (pK ta):=by
 intro f s x H R I h;refine DU (ym I Q U boot_range<|Bz (en (C pos f s x H _ I h) λE A l=>?_) (by rw[Y,O])<|by rw[O];rfl);obtain⟨F,y,g,w,d⟩:=l;obtain⟨i,j,e,⟨d,m,n,o⟩,q⟩:=d;subst e;cases w with
 | cons r z=>
  cases z with
  | cons u z=>
   cases z;obtain⟨t,rfl⟩:=r;obtain⟨B,rfl⟩:=u;exact call_range_2<|Kx g d m n o q
noncomputable def tZ(I:TI)(g:TG)(C:TS):TS:=λD a H=>I a H λJ h=>∃W:Nat->Nat->St->Hp->Prop,(∃m,W 0 m a h)/\∀i m a H,W i m a H->
 (J.stop i H/\D.nx a H)\/(J.go i H/\∃N:St->Hp->Prop,(∀e b,N e b->∃f,f<m/\W (i+1) f e b)/\∀x b,J.sd i H x b->g x a b λd j=>C {D with nx:=N,ct:=N,bk:=D.nx} d j)
noncomputable def QF(fp:List dy)(h:e5):List (dy×i5):=fp.filterMap λb=>(h.get? b).map λo=>(b,o)
theorem kF(d:b∈fp)(e:h.get? b=di o):(b,o)∈QF fp h:=List.mem_filterMap.mpr ⟨b,d,by rw[e];rfl⟩
theorem VY(d:p∈QF fp h):p.1∈fp/\h.get? p.1=di p.2:=by
 obtain⟨b,z,e⟩:=List.mem_filterMap.mp d;cases q:h.get? b with
 | none=>rw[q]at e;cases e
 | some o=>
  rw[q]at e;have I:(b,o)=p:=AG e;subst I;exact⟨z,q⟩
theorem Inv.pinned(I:Inv X pins σ H s)(R : ∀b∈fp,YW X pins H b)(U : ∀b∈fp,∃o,s.heap.get? b=di o/\∀v,o.data ≠ .cell v):Inv X (pins++QF fp s.heap) σ H s:=
 I.Hl λp Y=>(List.mem_append.mp Y).elim (λz=>I.pin p<|Bg _ z) λz=>by obtain⟨O,e⟩:=VY z;obtain⟨a,f1,f2,_⟩:=R p.1 O;obtain⟨o,Q,d⟩:=U p.1 O;rw[e]at Q;cases Q;exact⟨e,a,f1,f2,d⟩
theorem Inv.DR(I:Inv X (pins++pl) σ H s):Inv X pins σ H s:=I.Hl λp d=>I.pin p<|Bg _<|List.mem_append_left _ d
theorem dm(C:Dy (el X.prog X.w) X.A X.env X.xe)(hc:X.calm=dk)(hi:PI X tg iter wi)(hg:PG X tg g)(z:i8 X body tb)
 (hs : ∀x,nf iter X.env x=pure x:=by intro _;rfl):PS X (.For tg iter body [] pos) (tZ wi g tb):=by
 intro a s σ H D I h;refine wpAny_For (en (hi a s σ H _ I h) λv s1 h1=>en h1 λc7 s2 h2=>?_) hs;obtain⟨it,t,tn,J,H2,e,I2,T,as,f2,W,⟨m0,w0⟩,b5⟩:=h2;subst e;have G : ∀{p:Hp},(∀b∈t,p b=dn)->∀b∈t,YW X a p b:=λhn b z=>⟨hn b z,(f2 b z).2⟩;refine codeAny_forLoop_any (λn s'=>∃i j p,Inv X a j p s'/\tn i s'.heap/\(∀b∈t,p b=dn)/\W i n j p) ?_ m0 ⟨0,σ,H2,I2,as,λb z=>(f2 b z).1,w0⟩;rintro n s3 ⟨i,l,F,Z,B,ae,w3⟩;rcases b5 i n l F w3 with⟨E,qn⟩ | ⟨go,N,hN,step⟩
 ·refine Cu C (en (T.done X rfl rfl rfl hc i a s3 l F X.xe Z (G ae) B E) λr s4 Y=>?_)
  obtain⟨L,I4⟩:=Y;subst L;exact EV ⟨l,F,I4,qn⟩
 ·refine Cu C (en (T.item X rfl rfl rfl hc i a s3 l F X.xe Z (G ae) B go) λr s4 Y=>?_)
  obtain⟨u,L,h4⟩:=Y;subst L;refine Cu C<|en h4 λ_ s5 Y=>?_;obtain⟨x,S,I5,r5,y5,K,bm⟩:=Y;have bn:=I5.pinned (G bm)<|T.obj _ _ K;refine Cu C<|en (hg _ s5 l S x u _ bn r5<|step x S y5) λ_ s6 Y=>?_;obtain⟨P,H6,I6,q6⟩:=Y;refine Cu C<|en (z _ s6 P H6 _ I6 q6) λf M U=>?_;have again : ∀{O:St} {Q:Hp},Inv X (a++QF t s5.heap) O Q M->N O Q->∃m,m<n/\∃i j p,Inv X a j p M/\tn i M.heap/\(∀b∈t,p b=dn)/\W i m j p:=λ{O Q} R y=>by obtain⟨m',hm,w7⟩:=hN O Q y;refine⟨m',hm,i+1,O,Q,R.DR,T.keep _ _ _ K λb z o e=>(R.pin (b,o)<|Bg _<|Bg _<|kF z e).1,λb z=>?_,w7⟩;obtain⟨o,e,d⟩:=T.obj _ _ K b z;exact(R.pin (b,o)<|Bg _<|Bg _<|kF z e).2.1
  cases f with
  | next=>obtain⟨O,Q,R,y⟩:=U;exact again R y
  | cont=>obtain⟨O,Q,R,y⟩:=U;exact again R y
  | brk=>obtain⟨O,Q,R,U⟩:=U;exact⟨O,Q,R.DR,U⟩
  | ret v=>obtain⟨x7,O,Q,R,r7,U⟩:=U;exact⟨x7,O,Q,R.DR,r7,U⟩
end
theorem yp{K:Ab}{a:dy}{xs:List V}{g:TG}{Y:TS}{D:Ends}{C:St}{H:Hp}(d:Nat->St->Hp->Prop)(Z:d 0 C H)(O : ∀i C H,i<=xs.length->d i C H->gR K H a xs)
 (Q : ∀i x C H,xs[i]? = di x->d i C H->g x C H λz M=>Y {D with nx:=d<|i+1,ct:=d<|i+1,bk:=D.nx} z M) (hd : ∀C H,d xs.length C H->D.nx C H) :
 ∃W:Nat->Nat->St->Hp->Prop,(∃m,W 0 m C H)/\∀i m C H,W i m C H->
  ((Dv K a).stop i H/\D.nx C H)\/((Dv K a).go i H/\∃N:St->Hp->Prop,(∀L J,N L J->∃S,S<m/\W (i+1) S L J)/\∀x J,(Dv K a).sd i H x J->g x C J λz M=>Y {D with nx:=N,ct:=N,bk:=D.nx} z M):=by
 refine⟨λi m C H=>m=xs.length - i/\i<=xs.length/\d i C H,⟨xs.length,by simp,BB _,Z⟩,?_⟩;rintro i m C H ⟨rfl,b,p⟩;have q:=O i C H b p;by_cases I:i<xs.length
 ·refine .inr ⟨⟨xs,xs[i],q,by simp[I]⟩,d<|i+1,λL J f=>⟨xs.length - (i+1),by omega,rfl,I,f⟩,λx J y=>?_⟩
  obtain⟨e,y⟩:=y;subst e;exact Q i x C _ (y xs q) p
 ·have e:i=xs.length:=by omega
  subst e;exact .inl ⟨⟨xs,q,Al _⟩,hd C H p⟩
theorem Xb{lo:Int}{n:Nat}{g:TG}{Y:TS}{D:Ends}{C:St}{H:Hp}(d:Nat->St->Hp->Prop)(Z:d 0 C H)
 (O : ∀i C H,i<n->d i C H->g (.int<|lo+i) C H λz M=>Y {D with nx:=d<|i+1,ct:=d<|i+1,bk:=D.nx} z M) (hd : ∀C H,d n C H->D.nx C H) :
 ∃W:Nat->Nat->St->Hp->Prop,(∃m,W 0 m C H)/\∀i m C H,W i m C H->
  ((xw lo n).stop i H/\D.nx C H)\/((xw lo n).go i H/\∃N:St->Hp->Prop,(∀L J,N L J->∃S,S<m/\W (i+1) S L J)/\∀x J,(xw lo n).sd i H x J->g x C J λz M=>Y {D with nx:=N,ct:=N,bk:=D.nx} z M):=by
 refine⟨λi m C H=>m=n - i/\i<=n/\d i C H,⟨n,by simp,BB _,Z⟩,?_⟩;rintro i m C H ⟨rfl,b,p⟩;by_cases I:i<n
 ·refine .inr ⟨I,d<|i+1,λL J a=>⟨n - (i+1),by omega,rfl,I,a⟩,λx J y=>?_⟩
  obtain⟨e,y⟩:=y;subst e y;exact O i C _ I p
 ·have e:i=n:=by omega
  subst e;exact .inl ⟨Al _,hd C H p⟩
abbrev R2:=V->V->Hp->VK->Prop
noncomputable def hL(X:Cx)(f:dV->dV->Sem dV)(r:R2):Prop:=
 ∀(a:GW) (s:eg) (b:St) (H:Hp) (x y:V) (v u:dV) (Q:VK),Inv X a b H s->RelV x v->RelV y u->r x y H Q->
  wpAny (el X.prog X.w) X.A (f v u) (EP X a b Q) X.xe s
noncomputable def wH(X:Cx)(f:dV)(r:List V->Hp->VK->Prop):Prop:=
 ∀(a:GW) (s:eg) (e:St) (H:Hp) (d:List V) (b:List dV) (Q:VK),Inv X a e H s->eH d b->r d H Q->
  wpAny (el X.prog X.w) X.A (call f b) (EP X a e Q) X.xe s
noncomputable def uL(X:Cx)(r:V->Hp->(Bool->Hp->Prop)->Prop):Prop:=
 ∀(a:GW) (s:eg) (b:St) (H:Hp) (x:V) (v:dV) (Q:Bool->Hp->Prop),Inv X a b H s->RelV x v->r x H Q->
  wpAny (el X.prog X.w) X.A (truthy v) (TP X a b Q) X.xe s
noncomputable def DP(r:R2)(C I:TE):TE:=λa H Q=>C a H λx b=>I a b λy d=>r x y d Q
noncomputable def rI(C:Int->Int->Prop)(g:Int->Int->V):R2:=λx y H Q=>∃i j,x = .int i/\y = .int j/\C i j/\Q (g i j) H
noncomputable def o7(g:Int->Int->V):R2:=λx y H Q=>∃i j,x = .int i/\y = .int j/\Q (g i j) H
section
variable{X:Cx}{a b c:d3}{ta tb tc:TE}{pos:e6}
theorem rj(Z:PE X a ta)(z:PE X b tb){C:GW}{s:eg}{L:St}{H:Hp}{R:V->V->Hp->Prop}(I:Inv X C L H s)
 (h:ta L H λx S=>tb L S λy J=>R x y J) {Q:GQ} {f:dV->dV->Sem dV}
 (O : ∀v u M x y J,Inv X C L J M->RelV x v->RelV y u->R x y J->wpAny (el X.prog X.w) X.A (f v u) Q X.xe M) :
 wpAny (el X.prog X.w) X.A (ej a X.env) (λv U=>wpAny (el X.prog X.w) X.A (ej b X.env) (λu Y=>wpAny (el X.prog X.w) X.A (f v u) Q X.xe Y) X.xe U) X.xe s:=by
 refine en (Z C s L H _ I h) λv n d=>?_;obtain⟨x,S,e,l,i⟩:=d;refine en (z C n L S _ e i) λu M d=>?_;obtain⟨y,J,g,m,j⟩:=d;exact O v u M x y J g l m j
theorem fH{d:Operator}{r:R2}(z:hL X (p4 d) r)(C:PE X a ta)(O:PE X b tb):PE X (.BinOp a d b pos) (DP r ta tb):=by intro e s i H Q I h;exact wpAny_BinOp<|rj C O I h λv u g x y f R rx U q=>z e g i f x y v u Q R rx U q
theorem E6{f:dV->dV->Sem dV}{C:Int->Int->Prop}{g:Int->Int->Int}
 (rule : ∀(i j:Int) (t u:Tok) (s:eg) (Q:GQ) (E:GQ),C i j->Q (.int (g i j) s.toks) {s with toks:=s.toks+1}->wpAny (el X.prog X.w) X.A (f (.int i t)<|.int j u) Q E s) :
 hL X f (rI C λi j=> .int (g i j)):=by
 intro a s e H x y v u Q I rx d h;obtain⟨i,j,rfl,rfl,z,q⟩:=h;obtain⟨t,rfl⟩:=rx;obtain⟨b,rfl⟩:=d;exact rule i j t b s _ _ z ⟨.int<|g i j,H,I.tok _,⟨_,rfl⟩,q⟩
theorem sD{f:dV->dV->Sem dV}{g:Int->Int->Int}
 (rule : ∀(i j:Int) (t u:Tok) (s:eg) (Q:GQ) (E:GQ),Q (.int (g i j) s.toks) {s with toks:=s.toks+1}->wpAny (el X.prog X.w) X.A (f (.int i t)<|.int j u) Q E s) :
 hL X f (o7 λi j=> .int (g i j)):=by
 intro a s e H x y v u Q I rx d h;obtain⟨i,j,rfl,rfl,q⟩:=h;obtain⟨t,rfl⟩:=rx;obtain⟨b,rfl⟩:=d;exact rule i j t b s _ _ ⟨.int<|g i j,H,I.tok _,⟨_,rfl⟩,q⟩
theorem pA{f:dV->dV->Sem dV}{g:Int->Int->Bool}
 (rule : ∀(i j:Int) (t u:Tok) (s:eg) (Q:GQ) (E:GQ),Q (.bool<|g i j) s->wpAny (el X.prog X.w) X.A (f (.int i t)<|.int j u) Q E s) :
 hL X f (o7 λi j=> .bl (g i j)):=by
 intro a s e H x y v u Q I rx d h;obtain⟨i,j,rfl,rfl,q⟩:=h;obtain⟨t,rfl⟩:=rx;obtain⟨b,rfl⟩:=d;exact rule i j t b s _ _ ⟨.bl<|g i j,H,I,rfl,q⟩
def tK(i j:Int):Prop:=0<j/\j<1073741824
def tJ(i j:Int):Prop:=0<=j/\j<=1000000/\i.natAbs<2 ^ 64
noncomputable def C3(i j:Int):Prop:=(-(2 ^ 64)<i/\i<2 ^ 64)\/(-(2 ^ 64)<j/\j<2 ^ 64)
theorem C3.ok(h:C3 i j):IntMulOk i j:=by
 rcases h with⟨a,b⟩ | ⟨a,b⟩
 ·exact .of_left<|intBits_le_64 a b
 ·exact .of_right<|intBits_le_64 a b
theorem Iy:hL X (p4 .Add) (o7 λi j=> .int (i+j)):=sD λ_ _ _ _ _ _ _ q=>add_int q
theorem lO:hL X (p4 .Sub) (o7 λi j=> .int (i - j)):=sD λ_ _ _ _ _ _ _ q=>sub_int q
theorem Iz:hL X (p4 .Mult) (rI C3 λi j=> .int (i*j)):=E6 λ_ _ _ _ _ _ _ d q=>mul_int q d.ok
theorem fP:hL X (p4 .FloorDiv) (rI tK λi j=> .int (i/j)):=E6 λi j _ _ _ _ _ d q=>by have a:(0:Int)<j:=d.1;have b:j<1073741824:=d.2;exact floordiv_int ⋯ (by rw[Int.fdiv_eq_ediv_of_nonneg i ⋯];exact q)<|.inl<|PyProof.noPylong_small ⋯
theorem lR:hL X (p4 .Mod) (rI (λ_ j=>0<j) λi j=> .int (i%j)):=E6 λi j _ _ _ _ _ d q=>by have a:(0:Int)<j:=d;exact mod_int' ⋯ (by rw[Int.fmod_eq_emod_of_nonneg i ⋯];exact q)
theorem lP:hL X (p4 .Pow) (rI tJ λi j=> .int (i ^ j.toNat)):=E6 λ_ _ _ _ _ _ _ d q=>pow_int_small d.1 d.2.1 d.2.2 q
end
section
variable{X:Cx}{a b c:d3}{ta tb tc:TE}{pos:e6}
theorem fO:hL X (mr .Lt) (o7 λi j=> .bl (decide<|i<j)):=pA λ_ _ _ _ _ _ _ q=>lt_int q
theorem lS:hL X (mr .LtE) (o7 λi j=> .bl (decide<|i<=j)):=pA λ_ _ _ _ _ _ _ q=>le_int q
theorem lT:hL X (mr .Gt) (o7 λi j=> .bl (decide<|j<i)):=pA λ_ _ _ _ _ _ _ q=>gt_int q
theorem hL.or(h:hL X f r)(h':hL X f r'):hL X f (λx y H Q=>r x y H Q\/r' x y H Q):=by
 intro a s b H x y v u Q I rx d q;rcases q with q | q
 ·exact h a s b H x y v u Q I rx d q
 ·exact h' a s b H x y v u Q I rx d q
theorem Zz(b:d3)(h:op ≠ .In:=by decide)(C:op ≠ .NotIn:=by decide):s9 op b=dt:=by
 have a:(op==CmpOp.In)=dt:=by cases op<;>first | rfl | exact absurd rfl h
 have d:(op==CmpOp.NotIn)=dt:=by cases op<;>first | rfl | exact absurd rfl C
 cases b<;>simp[s9,a,d]
theorem fL{d:CmpOp}{r:R2}(z:hL X (mr d) r)(C:PE X a ta)(O:PE X b tb)(R:s9 d b=dt):PE X (.Compare a [d] [b] pos) (DP r ta tb):=by intro e s i H Q I h;exact wpAny_Compare1 (rj C O I h λv u g x y f U rx Y q=>z e g i f x y v u Q U rx Y q) R
def iy(t:TE):TT:=λb H Q=>t b H λx a=>∃k,x = .bl k/\Q k a
theorem VC(d:hL X (mr op) r)(C:PE X a ta)(O:PE X b tb)(R:s9 op b=dt):PT X (.Compare a [op] [b] pos) (iy<|DP r ta tb):=by
 intro f s g H Q I h;refine wpAny_isTrue_Compare1 (en (C f s g H _ I h) λv B ⟨x,i,U,Y,o⟩=>en (O f B g i _ U o) λu E ⟨y,j,m,w,p⟩=>
  en (d f E g j x y v u _ m Y w p) λc F ⟨z,l,n,A,k,e,t⟩=>?_) R
 subst e;cases A;exact Bt ⟨l,n,t⟩
noncomputable def cK(r C:R2)(ta tb tc:TE):TE:=λa H Q=>ta a H λx b=>tb a b λy e=>r x y e λz d=>∃k,z = .bl k/\
 (if k=dk then tc a d λf I=>C y f I Q else Q (.bl dt) d)
theorem aZ(Y:hL X (mr op) r)(C:hL X (mr DM) r')(J:PE X a ta)(L:PE X b tb)(M:PE X c tc)
 (S:F1 [op,DM] [b,c]=dt:=by with_unfolding_all rfl):PE X (.Compare a [op,DM] [b,c] pos) (cK r r' ta tb tc):=by
 intro f s g H Q I h;refine Compare_chain (en (J f s g H _ I h) λv G ⟨x,j,n,B,t⟩=>chain_link (en (L f G g j _ n t) λu K ⟨y,l,o,i,w⟩=>
  en (Y f K g l x y v u _ o B i w) λd N ⟨z,O,R,E,k,e,U⟩=>?_)) S
 subst e;cases E;refine Bt ?_;cases k with
 | false=>exact ite_ff ⟨.bl dt,O,R,rfl,U⟩
 | true=>exact ite_tt<|chain_last<|en (M f N g O _ R U) λT P ⟨W,m,p,F,A⟩=>C f P g m y W u T Q p i F A
theorem aQ{O R:CmpOp}{r C:R2}(ho:hL X (mr O) r)(J:hL X (mr R) C)(L:PE X a ta)(M:PE X b tb)(S:PE X c tc)
 (Z:F1 [O,R] [b,c]=dt:=by with_unfolding_all rfl):PT X (.Compare a [O,R] [b,c] pos) (iy<|cK r C ta tb tc):=by
 intro f s g H Q I h;refine isTrue_chain (en (L f s g H _ I h) λv s1 ⟨x,l,p,T,G⟩=>test_link (en (M f s1 g l _ p G) λu s2 ⟨y,m,t,j,K⟩=>
  en (ho f s2 g m x y v u _ t T j K) λd s3 ⟨z,U,Y,W,k,e,i⟩=>?_)) Z
 subst e;cases W;refine Bt ?_;cases k with
 | false=>
  obtain⟨k',B,F⟩:=i;cases B;exact ite_ff ⟨U,Y,F⟩
 | true=>
  refine ite_tt<|test_last<|en (S f s3 g U _ Y i) λw' s4 ⟨z',n,w,r4,N⟩=>en (J f s4 g n y z' u w' _ w j r4 N) λd' s5 ⟨z2,o,A,r5,k2,E,P⟩=>?_;subst E;cases r5;exact Bt ⟨o,A,P⟩
noncomputable def tF(K:Ab)(x:V)(H:Hp)(k:Bool):Prop:=
 match x with
 | .f7=>k=dt
 | .bl b=>k=b
 | .int i=>k=(i != 0)
 | .str y=>y.length<=eG/\k=((y.length:Int) != 0)
 | .DA y=>y.size<=eG/\k=((y.size:Int) != 0)
 | .ref p=>(∃d,gR K H p d/\k = !d.isEmpty)\/(∃d,gj K H p d/\k = !d.isEmpty)\/∃a,H p=di (.dK a)/\k = !a.isEmpty
 | _=>False
theorem YD(r:KV ec vs):(!vs.isEmpty) = !ec.isEmpty:=by cases r<;>rfl
theorem ZF(r:eH xs Il):(!Il.toArray.isEmpty) = !xs.isEmpty:=by cases r<;>simp
theorem vZ:(eG:Nat)<2 ^ 63:=by rw[sizeLine_eq];decide
theorem iq:uL X (λx H Q=>∃k,tF X.K x H k/\Q k H):=by
 intro n s A H x v Q I rx h;obtain⟨k,e,q⟩:=h;have o:=vZ;have u:eG=16777216:=sizeLine_eq;cases x with
 | f7=>
  cases rx;have d:k=dt:=e;subst d;exact truthy_none ⟨H,I,q⟩
 | bl b=>
  cases rx;have d:k=b:=e;subst d;exact Bt ⟨H,I,q⟩
 | int i=>
  obtain⟨t,rfl⟩:=rx;have d:k=(i != 0):=e;subst d;exact PySem.P.truthy_int ⟨H,I,q⟩
 | str y=>
  obtain⟨t,rfl⟩:=rx;obtain⟨R,d⟩:y.length<=eG/\k=((y.length:Int) != 0):=e;subst d;exact PySem.P.truthy_str ⋯ ⟨H,I.tok _,q⟩
 | DA y=>
  obtain⟨t,rfl⟩:=rx;obtain⟨R,d⟩:y.size<=eG/\k=((y.size:Int) != 0):=e;subst d;exact PySem.W.truthy_bytes ⋯ ⟨H,I.tok _,q⟩
 | ref p=>
  cases rx;have d:(∃f,gR X.K H p f/\k = !f.isEmpty)\/(∃f,gj X.K H p f/\k = !f.isEmpty)\/∃a,H p=di (.dK a)/\k = !a.isEmpty:=e;rcases d with⟨f,z,d⟩ | ⟨f,z,d⟩ | ⟨a,z,d⟩
  ·subst d
   obtain⟨U,r,j,l⟩:=I.list z;have O:=r.length;exact wpAny_truthy_list j.isList (by simp only[Aj];omega) ⟨H,I.tok _,by rw[ZF r];exact q⟩
  ·subst d
   obtain⟨U,r,j,l⟩:=I.tuple z;have O:=r.length;exact truthy_tuple j (by simp only[Aj];omega) ⟨H,I.tok _,by rw[ZF r];exact q⟩
  ·subst d
   obtain⟨l,Y,g,r,m⟩:a.length<=eG/\(p==r6)=dt/\∃g,KV a g/\s.heap.DictOf (jP X.prog X.w) p g:=I.e4 p _ z;have O:a.length=g.length:=ER r;exact wpAny_truthy_dict Y m ⋯ ⟨H,I.tok _,by rw[YD r];exact q⟩
 | _=>exact(show False from e).elim
theorem aP(L:PE X a ta)(he : ∀d,B6 a X.env d=(do let v <- d;DO a.pos;u7 [v] (truthy v))) :
 PT X a (λC H Q=>ta C H λx J=>∃k,tF X.K x J k/\Q k J):=by
 intro b s C H Q I h;exact isTrue_plain (en (L b s C H _ I h) λv f ⟨x,e,z,O,R⟩=>iq b f C e x v Q z O R)<|he _
theorem Yu:hL X (p4 .Add) (λx y H Q=>∃i j,x = .str i/\y = .str j/\i.length+j.length<=eG/\Q (.str<|i++j) H):=by intro a s f H x y v u Q I rx d h;obtain⟨i,j,rfl,rfl,b,q⟩:=h;obtain⟨t,rfl⟩:=rx;obtain⟨e,rfl⟩:=d;exact add_str (λe z=>⟨.str<|i++j,H,I.tok _,⟨_,rfl⟩,q⟩) b
theorem yE(r:eH [x] us) : ∃u,us=[u]/\RelV x u:=by
 cases r with
 | cons d a=>cases a;exact⟨_,rfl,d⟩
theorem il(r:eH [x,y] us) : ∃u C,us=[u,C]/\RelV x u/\RelV y C:=by
 cases r with
 | cons d a=>
  cases a with
  | cons z I=>cases I;exact⟨_,_,rfl,d,z⟩
theorem WN(z:X.calm=dk):wH X (.builtin "min") (λxs H Q=>∃i j,xs=[.int i,.int j]/\Q (.int (if j<i then j else i)) H):=by
 intro a s l H xs f Q I r h;obtain⟨i,j,rfl,q⟩:=h;obtain⟨u,g,rfl,⟨t,rfl⟩,⟨e,rfl⟩⟩:=il r;refine min_two_ints (I.ok.hd z) λb O k=>⟨_,H,I.kept k,?_,q⟩;by_cases d:j<i
 ·rw[GY d,GY d];exact⟨_,rfl⟩
 ·rw[MQ d,MQ d];exact⟨_,rfl⟩
theorem WO:wH X (.type "int") (λxs H Q=>(∃i,xs=[.int i]/\Q (.int i) H)\/∃k,xs=[.bl k]/\Q (.int (if k then 1 else 0)) H):=by
 intro a s e H xs b Q I r h;rcases h with⟨i,rfl,q⟩ | ⟨k,rfl,q⟩
 ·obtain⟨u,rfl,t,rfl⟩:=yE r
  exact call_int_int ⟨.int i,H,I,⟨_,rfl⟩,q⟩
 ·obtain⟨u,rfl,d⟩:=yE r
  cases d;exact call_int_bool ⟨.int<|if k then 1 else 0,H,I.tok _,⟨_,rfl⟩,q⟩
end
theorem sx.some_of(r:sx (di v) o) : ∃u,o=di u/\RelV v u:=by
 cases o with
 | none=>exact(show False from r).elim
 | some u=>exact⟨u,rfl,r⟩
structure GD(K:Ab)(C:dy):Prop where
 pg:PySem.W.plainGet K C Str.empty=dk
 hd:PySem.W.hasDictIn K C=dk
 po:PySem.W.plainOver K C=dk
 sa:EF K (.ref C) "__setattr__" = di (di (.builtin "object.__setattr__"))
theorem GD.get{K:Ab}{C:dy}(c:GD K C)(f:Str):PySem.W.plainGet K C f=dk:=c.pg
structure m3(k:Nat)(A:mA):Prop where
 hd:A.handled=dn
 dp:A.depth+3*k+5<recursionLimit
 un:A.units+16*k+200<cLine
theorem m3.mono(r:m3 k A)(h:j<=k):m3 j A:=⟨r.hd,by have:=r.dp;omega,by have:=r.un;omega⟩
theorem m3.deeper(r:m3 (k+1) A)(env:l0):m3 k (A.deeper env):=
 ⟨r.hd,by have:=r.dp;show A.depth+1+3*k+5<_;omega,by have:=r.un;show A.units+3+16*k+200<_;omega⟩
theorem m3.depth(r:m3 k A):A.depth<recursionLimit:=by have:=r.dp;omega
def rY:TA:=λ_ H Q=>Q [] H
noncomputable def iA(C:TE)(d:TA):TA:=λa H Q=>C a H λx b=>d a b λf e=>Q (x::f) e
section
variable{X:Cx}{e:d3}{es:List d3}{te:TE}{t:TA}{pos:e6}
theorem qb:PA X [] rY:=λ_ _ _ _ H Q I h=>Calls.spliced_nil ⟨[],H,I,.nil,h⟩
theorem jr(C:PE X e te)(d:PA X es t)(z:e9 (e::es) X.env=(dt,ej e X.env)::e9 es X.env:=by rfl):PA X (e::es) (iA te t):=by intro pos a s b H Q I h;rw[z];show wpAny _ _ (Ge ((dt,ej e X.env)::m8 pos (e9 es X.env))) _ _ s;refine EZ<|en (C a s b H _ I h) λu m O=>?_;obtain⟨x,f,R,U,Y⟩:=O;exact en (d pos a m b f _ R Y) λp o ⟨n,g,i,l,j⟩=>⟨x::n,g,i,.cons U l,j⟩
noncomputable def tN(t:TA):TE:=λd H Q=>t d H λb a=>b.length<=eG/\∀p,a p=dn->Q (.ref p) (upd a p<|.tup b)
noncomputable def tX(t:TA):TE:=λd H Q=>t d H λb a=>b.length<=eG/\∀p,a p=dn->Q (.ref p) (upd a p<|.lst b)
theorem lC(h:PA X es t):PE X (.Tuple es x1 pos) (tN t):=by intro a s l H Q I O;refine wpAny_Tuple_spliced<|en (h pos a s l H _ I O) λi f ⟨j,g,d,r,z,q⟩=>⟨by rw[<- r.length];exact z,?_⟩;have R:g f.heap.objs.size=dn:=d.e4.fresh<|Al _;refine⟨.ref f.heap.objs.size,upd g f.heap.objs.size<|.tup j,d.laid (t':=f.toks) (λb u e=>Ae _ e) (Al _) ?_,rfl,q _ R⟩;exact⟨z,i,r,⟨_,AA _ rfl,rfl,_,rfl⟩⟩
theorem lG(h:PA X es t):PE X (.List es pos) (tX t):=by intro a s l H Q I O;refine wpAny_List_spliced<|en (h pos a s l H _ I O) λi f ⟨j,g,d,r,z,q⟩=>⟨by rw[<- r.length];exact z,?_⟩;have R:g f.heap.objs.size=dn:=d.e4.fresh<|Al _;refine⟨.ref f.heap.objs.size,upd g f.heap.objs.size<|.lst j,d.laid (t':=f.toks) (λb u e=>Ae _ e) (Al _) ?_,rfl,q _ R⟩;exact⟨z,i,0,r,AA _ rfl⟩
end
abbrev Sp:=List V->Hp->VK->XK->Prop
abbrev qq:=List l0->Hp->eg->XK->dV->eg->Prop
structure DW(P:hH)(w:g9)(K:Ab)(mg:GJ)(base:e5)(A:mA)(outer:List l0)(s:eg)(H:Hp):Prop where
 frames:A.frames=di outer
 mod:Mod K mg base
 bs : ∀b o,base.get? b=di o->s.heap.get? b=di o/\H b=dn
 z4:base.objs.size<=s.heap.objs.size
 ro:s.heap.FunFrames base outer
 Df : ∀b∈rn outer,H b=dn
 e4:ie P w H s.heap
 bare:xr s.gens
noncomputable def CE(outer:List l0)(P:hH)(w:g9)(H:Hp)(s:eg)(Q:VK)(u:dV)(C:eg):Prop:=
 ∃v a,C.os=s.os/\xr C.gens/\Un (rn outer) [] H a s.heap C.heap/\ie P w a C.heap/\RelV v u/\Q v a
noncomputable def CR(CX:qq)(outer:List l0)(P:hH)(w:g9)(H:Hp)(s:eg)(Q:VK)(E:XK)(r:Result)(C:eg):Prop:=
 match r with
 | .ok (.ret u)=>CE outer P w H s Q u C
 | .ok _=>False
 | .error e=>CX outer H s E e C
structure ov(P:hH)(w:g9)(K:Ab)(mg:GJ)(base:e5)(CX:qq)(k:Nat)(f:dy)(fd:ow)(ps:List Str)(sp:Sp):Prop where
 len : ∀vs H Q E,sp vs H Q E->vs.length=ps.length
 run : ∀(A:mA) (outer:List l0) (s:eg) (H:Hp) (args:Args) (us:List dV) (vs:List V) (Q:VK) (E:XK),m3 k A->DW P w K mg base A outer s H->DT s fd args (ps.zip us)->eH vs us->sp vs H Q E->
  codeAny (el P w) A (.call (.ref f) args) (CR CX outer P w H s Q E) s
section
variable{X:Cx}{pins:GW}{σ:St}{H:Hp}{s s':eg}
theorem Inv.Ie(I:Inv X pins σ H s):DW X.prog X.w X.K X.mg X.base X.A X.stack s H:=
 ⟨I.ok.frames,I.ok.mod,I.bs,Bq I.ok.z4 I.sz,I.stack,I.Hr,I.e4,I.bare⟩
theorem Inv.after(I:Inv X pins σ H s)(h:CE X.stack X.prog X.w H s Q u s'):EP X pins σ Q u s':=by obtain⟨v,f,os,a,un,e,r,q⟩:=h;obtain⟨O,g,d,t,R⟩:=s';obtain rfl:R=s.os:=os;exact⟨v,f,I.call (h':=O) (g':=g) (d':=d) (t':=t) (ch:=[]) un e a<|λb z=>absurd z ⋯,r,q⟩
end
noncomputable def eo(sp:Sp)(C:List V)(E:XK)(t:TA):TE:=λd H Q=>t d H λb a=>sp (b++C) a Q E
noncomputable def Binds(K:Ab)(I:ow)(H:List Str)(C:List dV):Prop:=
 ∀(s:eg) (a:List dV),K.In s.heap->(a++C).length=H.length->DT s I ⟨a,[]⟩ (H.zip<|a++C)
theorem Binds.all{K:Ab}{I:ow}{H:List Str}(h : ∀C:List dV,C.length=H.length->bindArgs I ⟨C,[]⟩=pure (H.zip C)):Binds K I H []:=λs C _ d=>by rw[Bp]at d ⊢;exact .of_eq<|h C d
noncomputable def W9(CX:qq)(X:Cx)(E:XK):Prop:=∀(a:GW) (d:St) (H:Hp) (s:eg) (e:dV) (b:eg),Inv X a d H s->CX X.stack H s E e b->X.xe e b
section
variable{X:Cx}{CX:qq}{k:Nat}{f C:dy}{fd:ow}{ps:List Str}{sp:Sp}{C9:List V}{ds:List dV}{E:XK}{x m:Str}{p pos apos:e6}{e o:d3}{es:List d3}{ta:TE}{t:TA}
theorem iL(F:ov X.prog X.w X.K X.mg X.base CX k f fd ps sp)(z:m3 k X.A)(O:Binds X.K fd ps ds)(J:eH C9 ds)(R:W9 CX X E)
 (I:Inv X pins σ H s) (r:eH vs us) (h:sp (vs++C9) H Q E):wpAny (el X.prog X.w) X.A (call (.ref f) us) (EP X pins σ Q) X.xe s:=by
 have a:eH (vs++C9) (us++ds):=r.append J;have U:(us++ds).length=ps.length:=by rw[<- a.length];exact F.len _ _ _ _ h
 refine wpAny_call<|FA (F.run X.A X.stack s H ⟨us,[]⟩ (us++ds) (vs++C9) Q E z I.Ie (O s us I.n9 U) a h) λr b d=>?_;cases r with
 | error e=>exact R pins σ H s e b I d
 | ok Y=>
  cases Y with
  | ret u=>exact I.after d
  | next=>exact CB d
  | brk=>exact CB d
  | cont=>exact CB d
theorem VR(F:ov X.prog X.w X.K X.mg X.base CX k f fd ps sp)(z:m3 k X.A)(O:Gl X x)(R:X.mg x=di (.ref f))(hk:Eh X.K (.ref f)=dk)(U:Binds X.K fd ps ds)(S:eH C9 ds)(Y:W9 CX X E)
 (M:PA X (e::es) t) (J:(x==("__debug__" : Str))=dt:=by decide) (Z:e9 (e::es) X.env=(dt,ej e X.env)::e9 es X.env:=by rfl) (L:(m8 pos (e9 es X.env)).any (·.1)=dt:=by rfl) :
 PE X (.Call (.Name x p) (e::es) [] pos) (eo sp C9 E t):=by
 intro a s b H Q I h;refine EA<|V9 I O R ?_ J;refine PySem.W.callWith_K (h₀:=X.base) I.ok.mod.F0 hk (en (M pos a s b H _ I h) λj i ⟨l,g,d,r,q⟩=>⟨d.n9,?_⟩) Z L;exact iL F z U S Y d r q
end
structure Ds(N P:List Str)(sc:hA):Prop where
 kind:sc.kind = .function
 co:sc.isCoroutine=dt
 gen:sc.isGenerator=dt
 nd:N.Nodup
 pre:N.take P.length=P
 par : ∀x∈P,sc.names.lookup x=di .local\/sc.names.lookup x=di .cell
 Iv : ∀y∈sc.names,y.2 ≠ .free
theorem Xl{kindOf:Str->Option rk}{x:Str} : ∀{d:List (Str×dV)} {m:GJ},(∀v,(x,v)∉d)->B0 kindOf d m x=m x
 | [],_,_=>rfl
 | (n,v)::r,m,h=>by
  unfold B0;rw[Xl λw a=>h w (Ax _ a)];split
  ·have:x≠n:=by rintro rfl;exact h v Ar
   simp[this]
  ·rfl
theorem Xp{kindOf:Str->Option rk}{x:Str} : ∀{d:List (Str×dV)} {m:GJ},(∀v,(x,v)∉d)->A9 kindOf d m x=m x
 | [],_,_=>rfl
 | (n,v)::r,m,h=>by
  unfold A9;rw[Xp λw a=>h w (Ax _ a)];split
  ·rfl
  ·have:x≠n:=by rintro rfl;exact h v Ar
   simp[this]
theorem Xm{kindOf:Str->Option rk}{x:Str}{v:dV} : ∀{P:List Str} {C:List dV} {i:Nat} {m:GJ},P.Nodup->P[i]? = di x->C[i]? = di v->kindOf x=di .local->
 B0 kindOf (P.zip C) m x=di v
 | [],_,_,_,_,h,_,_=>by simp at h
 | _::_,[],_,_,_,_,h,_=>by simp at h
 | p::P,w::C,0,m,nd,h1,h2,hk=>by simp at h1 h2;subst h1;subst h2;show B0 kindOf ((p,w)::P.zip C) m p=_;unfold B0;rw[Xl λv d=>(Eg.mp nd).1 (List.of_mem_zip d).1,GY hk];simp
 | p::P,w::C,i+1,m,nd,h1,h2,hk=>by show B0 kindOf ((p,w)::P.zip C) m x=_;unfold B0;exact Xm (i:=i) (Eg.mp nd).2 (by simpa using h1) (by simpa using h2) hk
theorem Xq{kindOf:Str->Option rk}{x:Str}{v:dV} : ∀{P:List Str} {C:List dV} {i:Nat} {m:GJ},P.Nodup->P[i]? = di x->C[i]? = di v->kindOf x≠di .local->
 A9 kindOf (P.zip C) m x=di v
 | [],_,_,_,_,h,_,_=>by simp at h
 | _::_,[],_,_,_,_,h,_=>by simp at h
 | p::P,w::C,0,m,nd,h1,h2,hk=>by simp at h1 h2;subst h1;subst h2;show A9 kindOf ((p,w)::P.zip C) m p=_;unfold A9;rw[Xp λv d=>(Eg.mp nd).1 (List.of_mem_zip d).1,MQ hk];simp
 | p::P,w::C,i+1,m,nd,h1,h2,hk=>by show A9 kindOf ((p,w)::P.zip C) m x=_;unfold A9;exact Xq (i:=i) (Eg.mp nd).2 (by simpa using h1) (by simpa using h2) hk
noncomputable def Jc(N:List Str)(C:List V):St:=C.map di++Ag (N.length - C.length) dn
noncomputable def gN(CX:qq)(P:hH)(w:g9)(K:Ab)(mg:GJ)(base:e5)(N:List Str)(qual:Str)(scope:hA)(f:dy)(d:dV)(A:mA)(outer:List l0)(s:eg)(H:Hp)(E:XK):Cx where
 prog:=P
 w:=w
 K:=K
 mg:=mg
 base:=base
 A:=A.deeper<|envOfC qual scope s.heap.objs.size f d
 N:=N
 k0:=s
 Dt:=H
 env:=D5 qual scope s.heap.objs.size f d
 outer:=outer
 stack:=D5 qual scope s.heap.objs.size f d::outer
 ex:=[]
 calm:=dk
 fn:=λ_=>dk
 pn:=[]
 xe:=λe s'=>wpAny (el P w) (A.deeper<|envOfC qual scope s.heap.objs.size f d) (leaving (D5 qual scope s.heap.objs.size f d) e) (λ_ z=>CX outer H s E e z) (λI z=>CX outer H s E I z) s'
theorem K5{C:hA}{n:Nat}{x:Str}(h:C.names.lookup x=di .cell) : ∃c,(n6 n C.names []).lookup x=di c:=by have q:=CD C.names n [] (.inl h);exact Cz.mp q
theorem Wg{CX:qq}{P:hH}{w:g9}{K:Ab}{L:GJ}{base:e5}{N C:List Str}{qual:Str}{scope:hA}{f:dy}{Q:dV}{A:mA}{outer:List l0}{s Z:eg}{H:Hp}{E:XK}{M:List dV}{J:List V}
 (S:Ds N C scope) (hd:A.handled=dn) (d:DW P w K L base A outer s H) (hl:J.length=C.length) (r:eH J M)
 (x:InCallC s s.heap.objs.size (B0 (D5 qual scope s.heap.objs.size f Q).kindOf (C.zip M) λ_=>dn) (n6 (s.heap.objs.size+1) scope.names []) (A9 (D5 qual scope s.heap.objs.size f Q).kindOf (C.zip M) λ_=>dn) Z) :
 Inv (gN CX P w K L base N qual scope f Q A outer s H E) [] (Jc N J) H Z:=by
 have B:C.length<=N.length:=by have:=congrArg List.length S.pre;rw[EB]at this;omega
 obtain⟨j,G,rfl,m⟩:=x.done;have R : ∀b:dy,b∉(gN CX P w K L base N qual scope f Q A outer s H E).ex:=λb z=>absurd (show b∈([]:List dy)from z) ⋯;refine⟨⟨d.mod,S.kind,rfl,rfl,Al _,λy z c j g=>?_,λy I=>?_,λy c _ h=>?_,λ_=>hd,Around.frames_deeper d.frames,.inr ⟨rfl,rfl⟩,λb z=>absurd z<|R b,d.bs,d.z4,λb _ _=>R b,λb z=>absurd z<|R b,d.ro,d.Df⟩,
  rfl,d.bare,Un.kept m,⟨_,x.toInCall.ns,λi y v j g F=>?_⟩,λy c h=>⟨_,x.cell y c h⟩,d.e4.fresh<|Al _,λy c h=>?_,λp O=>absurd (show p∈([]:GW)from O) ⋯,d.e4.kept m,?_⟩
 ·exact name_of_addr x.apart (Cw j)<|Cw g
 ·have I:scope.names.lookup y=di .cell\/scope.names.lookup y=di .free:=I
  rcases I with I | I
  ·exact K5 I
  ·exact absurd rfl<|S.Iv _<|Cw I
 ·exact EL<|x.above y c<|Cw h
 ·have l:i<J.length:=by
   unfold Jc at g;by_cases l:i<J.length
   ·exact l
   ·rw[AX (by simpa using l)]at g
    rw[CG]at g;split at g<;>cases g
  have o:J[i]? = di v:=by
   unfold Jc at g;rw[Bk (by simpa using l),AM]at g;cases e:J[i]? with
   | none=>rw[e]at g;cases g
   | some a=>rw[e]at g;cases g;rfl
  obtain⟨u,U,t⟩:=r.get o;have O:C[i]? = di y:=by rw[<- S.pre,List.getElem?_take_of_lt ⋯];exact j
  have Y:C.Nodup:=by rw[<- S.pre];exact S.nd.sublist<|List.take_sublist _ _
  refine⟨u,t,?_⟩;rcases S.par y (Eb O)with k | k
  ·exact .inl ⟨k,Xm Y O U k⟩
  ·obtain⟨c,e⟩:=K5 (n:=s.heap.objs.size+1) k
   refine .inr ⟨.inl k,c,e,?_⟩;have q:=x.cell y c e;rw[Xq Y O U (by show scope.names.lookup y≠_;rw[k];decide)]at q;exact q
 ·exact d.e4.fresh<|EL<|x.above y c<|Cw h
 ·unfold Jc
  show _=N.length;rw[m5,Ay,List.length_replicate];omega
theorem pP{CX:qq}{P:hH}{w:g9}{K:Ab}{mg:GJ}{base:e5}{k:Nat}{f:dy}{name qual:Str}{U:Arguments}{L:List h5}{scope:hA}{Y kV doc pm C ct oc:dV}{an od:Option dy}
 {Ga:Array (Option dV)} {N ps:List Str} {sp:Sp} (lk:K.lookup f=di ⟨oc,od,.func<|CM name qual U L scope Y kV doc pm an C ct,Ga⟩) (a3:EG K C qual=dk) (S:Ds N ps scope)
 (len : ∀M H Q E,sp M H Q E->M.length=ps.length)
 (a4 : ∀(A:mA) (outer:List l0) (s:eg) (H:Hp) (M:List V) (Q:VK) (E:XK),m3 k (A.deeper<|envOfC qual scope s.heap.objs.size f C)->sp M H Q E->
   ∃t,i8 (gN CX P w K mg base N qual scope f C A outer s H E) L t/\t {nx:=λ_ Z=>Q .f7 Z,rt:=Q} (Jc N M) H) :
 ov P w K mg base CX (k+1) f (CM name qual U L scope Y kV doc pm an C ct) ps sp:=by
 refine⟨len,λA outer s H l us M Q E O z hb r i=>?_⟩;have T:=len _ _ _ _ i;have h:K.In s.heap:=z.mod.F0.keeps λb o e=>(z.bs b o e).1;have lim:s.heap.NoLimit:=z.mod.nolimit.keeps λb o e=>(z.bs b o e).1;have p : ∀y∈ps.zip us,scope.names.lookup y.1=di .local\/(scope.names.lookup y.1=di .cell/\((n6 (s.heap.objs.size+1) scope.names []).lookup y.1).isSome=dk):=λ⟨n,v⟩ hy=>by
  rcases S.par n (List.of_mem_zip hy).1 with q | q
  ·exact .inl q
  ·exact .inr ⟨q,CD _ _ _<|.inl q⟩
 refine codeAny_call_function O.depth (h _ _ lk) rfl S.co S.gen rfl (PySem.W.codeRec_of h a3)<|hb _ _ _ _ ?_;refine wpAny_newFunctionEnv_cells S.kind p λB G m x=>?_;subst G;refine⟨lim.keeps x.toInCall.keep,codeAny_func ?_⟩;obtain⟨t,ht,X⟩:=a4 A outer s H M Q E (O.deeper _) i;have I:Inv (gN CX P w K mg base N qual scope f C A outer s H E) [] (Jc N M) H m:=Wg S O.hd z T r x;refine Ck (ht [] m (Jc N M) H _ I X) (λF g d=>?_) λe g d=>d;have j : ∀{a:St} {Z:Hp} {v:V} {u:dV},Inv (gN CX P w K mg base N qual scope f C A outer s H E) [] a Z g->RelV v u->Q v Z->CE outer P w H s Q u g:=
  λ{a Z v u} J R q=>⟨v,Z,J.os,J.bare,J.base,J.e4,R,q⟩
 cases F with
 | ret u=>
  obtain⟨v,a,Z,J,R,q⟩:=d;exact j J R q
 | next=>
  obtain⟨a,Z,J,q⟩:=d;exact j (v:=V.f7) (u:=CK) J rfl q
 | brk=>
  obtain⟨_,_,_,q⟩:=d;exact CB q
 | cont=>
  obtain⟨_,_,_,q⟩:=d;exact CB q
section
variable{X:Cx}{x:Str}{p pos:e6}{e:d3}{es:List d3}{t:TA}{id T:String}{r:List V->Hp->VK->Prop}
noncomputable def Hw(r:List V->Hp->VK->Prop)(t:TA):TE:=λd H Q=>t d H λb a=>r b a Q
theorem kE(d:wH X (.builtin id) r)(z:Gl X x)(O:X.mg x=dn)(R:z3 x=di (.builtin id))(J:PA X (e::es) t)(U:x ≠ "__name__":=by decide)(Y:(x==("__debug__" : Str))=dt:=by decide)
 (L:e9 (e::es) X.env=(dt,ej e X.env)::e9 es X.env:=by rfl) (C:(m8 pos<|starEach es X.env).any (·.1)=dt:=by rfl):PE X (.Call (.Name x p) (e::es) [] pos) (Hw r t):=by
 intro a s b H Q I h;refine EA<|ym I z O R ?_ U Y;exact EK (en (J pos a s b H _ I h) λm l ⟨n,f,g,j,i⟩=>d a l b f n m Q g j i) L C
theorem vK(d:wH X (.type T) r)(z:Gl X x)(O:X.mg x=dn)(R:z3 x=di (.type T))(J:PA X (e::es) t)(U:x ≠ "__name__":=by decide)(Y:(x==("__debug__" : Str))=dt:=by decide)
 (L:e9 (e::es) X.env=(dt,ej e X.env)::e9 es X.env:=by rfl) (C:(m8 pos<|starEach es X.env).any (·.1)=dt:=by rfl):PE X (.Call (.Name x p) (e::es) [] pos) (Hw r t):=by
 intro a s b H Q I h;refine EA<|ym I z O R ?_ U Y;exact Bz (en (J pos a s b H _ I h) λm l ⟨n,f,g,j,i⟩=>d a l b f n m Q g j i) L C
end
end L2
namespace HT
open PySem PyProof.Rows
section
variable{prog:hH}{w:g9}{A:mA}{E:GQ}{s:eg}
theorem rh(L:Du s.heap t vs.toArray)(J:Du s.heap b d.toArray)(O:vs ≠ [])
 (C:d=[]->Q (.ref t) s) (H:d ≠ []->Q (.ref s.heap.objs.size) {s with heap:=s.heap.push {cls:= .type "tuple",data:= .seq (vs++d).toArray}})
 (hsz:vs.length+d.length<=eG):wpAny (el prog w) A (p4 .Add (.ref t)<|.ref b) Q E s:=by
 obtain⟨⟨cls,R,data,l⟩,z,U,n,i⟩:=id L;obtain⟨⟨m,Y,data2,f⟩,I,g,j,h⟩:=id J;simp only at U i g h;subst U i g h;have e:vs.toArray++d.toArray=(vs++d).toArray:=by simp
 by_cases a:d=[]
 ·exact Fz ⟨_,z,rfl⟩ ⟨_,I,rfl⟩ GF Ho Ew Et (Ej _ _)
   (tuple_addW1 t b vs.toArray d.toArray n j R Y l f (by simpa using O)<|by simp[a]) ⟨z,I,C a⟩
 ·refine Fz ⟨_,z,rfl⟩ ⟨_,I,rfl⟩ GF Ho Ew Et (Ej _ _)
   (tuple_addW2 t b vs.toArray d.toArray n j R Y l f (by simpa using O) (by simpa using a)<|by rw[Aj,Aj];exact hsz) ⟨z,I,?_⟩
  rw[e];exact H a
noncomputable def dv(n d:Nat):Option Int->Nat
 | none=>d
 | some v=>if v<0 then (v+(n:Int)).toNat else min v.toNat n
theorem iJ(n d:Nat)(C:d<=n)(o:Option Int):dv n d o<=n:=by
 cases o with
 | none=>exact C
 | some v=>
  show(if v<0 then (v+(n:Int)).toNat else min v.toNat n)<=n;by_cases z:v<0
  ·rw[GY z];omega
  ·rw[MQ z];exact Nat.min_le_right _ _
theorem WJ(v:Int)(n d:Nat):(if v<0 then max (v+(n:Int)) 0 else min v (n:Int))=((dv n d (di v):Nat):Int):=by
 show(if v<0 then max (v+(n:Int)) 0 else min v (n:Int))=(((if v<0 then (v+(n:Int)).toNat else min v.toNat n):Nat):Int);by_cases z:v<0
 ·simp only[GY z];omega
 ·simp only[MQ z];omega
theorem YV(lo C:Option Int)(n:Nat):CV lo C 1 (n:Int)=(((dv n 0 lo:Nat):Int),((dv n n C:Nat):Int)):=by
 have a : ¬((1:Int)<0):=by omega
 unfold CV;simp only[a,if_false];refine Prod.ext ?_ ?_
 ·cases lo with
  | none=>rfl
  | some v=>exact WJ v n 0
 ·cases C with
  | none=>rfl
  | some v=>exact WJ v n n
theorem Yr(i j:Nat):Cj (i:Int) (j:Int) 1=j - i:=by
 unfold Cj;have a:(1:Int)>0:=by omega
 simp only[a,if_true,Int.ediv_one];split<;>omega
theorem Zh(p:t8 v o)(h:Q o s):wpAny (el prog w) A (Builtin.Slice.slicePartIndex v) Q E s:=by
 cases p with
 | none=>exact slicePart_none h
 | int i t=>exact slicePart_int h
theorem y0{H:dy}{d z:dV}{lo C:Option Int}{n:Nat}{Q:Int×Int×Nat->eg->Prop}(R:s.heap.IsSliceOf H d z .none)(J:t8 d lo)(U:t8 z C)
 (h:Q (((dv n 0 lo:Nat):Int),1,dv n n C - dv n 0 lo) s):wpAny (el prog w) A (Builtin.Slice.sliceApplied (.ref H)<|pure (n:Int)) Q E s:=by
 obtain⟨os,I,Y,O⟩:=id R;unfold Builtin.Slice.sliceApplied Builtin.Slice.sliceFields;refine Ac<|Ac<|Bi I O (x:=d) rfl<|Ac<|Bi I O (x:=z) rfl<|Ac<|Bi I O (x:= .none) rfl<|Am ?_;refine Ac<|slicePart_none ?_;show wpAny _ _ (if ((1:Int)==0)=dk then _ else _) _ _ s;rw[MQ ⋯];refine Ac<|Zh J<|Ac<|Zh U<|Ac<|Am ?_;show wpAny _ _ (match CV lo C 1 (n:Int)with | (lo,C)=>pure (lo,(1:Int),Cj lo C 1)) _ _ s;rw[YV lo C n];show wpAny _ _ (pure (((dv n 0 lo:Nat):Int),(1:Int),Cj ((dv n 0 lo:Nat):Int) ((dv n n C:Nat):Int) 1)) _ _ s;rw[Yr];exact Am h
theorem aV(xs:Array dV)(i k:Nat):((Ad k).filterMap λ(m:Nat)=>xs[((i:Int)+(m:Int)*1).toNat]?).toArray=((xs.toList.drop i).take k).toArray:=by
 have e:(λ(m:Nat)=>xs[((i:Int)+(m:Int)*1).toNat]?)=λm=>xs[i+m]? :=by
  funext m;have:((i:Int)+(m:Int)*1).toNat=i+m:=by omega
  rw[this]
 rw[e];have:=pick_run xs i k;rw[List.filterMap_map]at this;have d:((λx=>xs[x]?)∘λx=>i+x)=λm=>xs[i+m]? :=rfl;rw[d]at this;rw[this]
theorem YF{t H:dy}{d:Array dV}{O R:dV}{lo C:Option Int}{Q:GQ}(z:Du s.heap t d)(U:s.heap.IsSliceOf H O R .none)(L:t8 O lo)(Y:t8 R C)
 (J : ¬(dv d.size 0 lo=0/\dv d.size d.size C=d.size))
 (h:Q (.ref s.heap.objs.size) {s with heap:=s.heap.push {cls:= .type "tuple",data:= .seq ((d.toList.drop (dv d.size 0 lo)).take (dv d.size d.size C - dv d.size 0 lo)).toArray}})
 (hsz:d.size<=eG):wpAny (el prog w) A (u6 (.ref t)<|.ref H) Q E s:=by
 have I:sizeOk (.seq ((d.toList.drop<|dv d.size 0 lo).take (dv d.size d.size C - dv d.size 0 lo)).toArray):=by show((d.toList.drop<|dv d.size 0 lo).take (dv d.size d.size C - dv d.size 0 lo)).toArray.size<=eG;rw[Aj,EB,Fo,Ef];omega
 have i:dv d.size d.size C<=d.size:=iJ _ _ (Al _) C;obtain⟨os,a,b,g⟩:=id U;have e:s.TypeIs (.ref H) "slice":=⟨os,a,b⟩;unfold u6
 try with_reducible refine EI ?_
 first | refine Ac (Am ?_) | skip
 refine Ac (IM z.typeIs ⋯ ?_);refine Ac (Bu (name:=BN "__getitem__") z.typeIs Bo
  (BO Bo z.typeIs entry_tuple_getitem ?_ (HV _ _)))
 show wpAny _ _ (Builtin.Tuple.tupleItemsOf (.ref t) >>= _) _ _ s;refine Ac<|EJ z ?_;refine Ac<|EU e ?_;rw[GY ⋯];refine Ac<|y0 U L Y ?_;have f : ¬((((dv d.size 0 lo:Nat):Int)==0 && (1:Int)==1 && (dv d.size d.size C - dv d.size 0 lo)==d.size)=dk):=by intro q;rw[As,As]at q;have j:((dv d.size 0 lo:Nat):Int)=0:=eq_of_beq q.1.1;have l:dv d.size d.size C - dv d.size 0 lo=d.size:=eq_of_beq q.2;exact J ⟨by omega,by omega⟩
 show wpAny _ _ (if (((dv d.size 0 lo:Nat):Int)==0 && (1:Int)==1 && (dv d.size d.size C - dv d.size 0 lo)==d.size)=dk then _ else _) _ _ s;rw[MQ f,aV]
 first
  | exact Ac (m:=BI _)<|BM (Am ⟨_,rfl,Am h⟩) I
  | exact Ac (m:=BI _)<|BM (Ac<|Am<|Am ⟨_,rfl,Am h⟩) I
  | exact Ac<|Ac (m:=BI _)<|BM (Am<|Am ⟨_,rfl,Am h⟩) I
  | exact Ac<|Ac (m:=BI _)<|BM (Am ⟨_,rfl,Am h⟩) I
end
end HT
namespace L2
open PySem PySem.Spec PyProof.Rows
abbrev TO:=St->Hp->(Option Int->Hp->Prop)->Prop
noncomputable def PO(X:Cx)(e:Option d3)(t:TO):Prop:=
 ∀(a:GW) (s:eg) (b:St) (H:Hp) (Q:Option Int->Hp->Prop),Inv X a b H s->t b H Q->
  wpAny (el X.prog X.w) X.A (evalPart e X.env) (λu f=>∃o d,Inv X a b d f/\t8 u o/\Q o d) X.xe s
def eh:TO:=λ_ H Q=>Q dn H
noncomputable def oD(t:TE):TO:=λb H Q=>t b H λx a=>∃i,x = .int i/\Q (di i) a
section
variable{X:Cx}{e:d3}{te:TE}{lo hi:Option d3}{tl th:TO}{pos p2:e6}
theorem fC:PO X dn eh:=by intro a s b H Q I h;rw[evalPart_none];exact Am ⟨dn,H,I,.none,h⟩
theorem fB(h:PE X e te):PO X (di e) (oD te):=by intro a s g H Q I f;rw[evalPart_some];refine en (h a s g H _ I f) λu j d=>?_;obtain⟨x,b,z,O,R⟩:=d;obtain⟨i,rfl,q⟩:=R;obtain⟨t,rfl⟩:=O;exact⟨di i,b,z,.int i t,q⟩
noncomputable def FN(X:Cx)(r:V->Option Int->Option Int->Hp->VK->Prop):Prop:=
 ∀(a:GW) (s:eg) (e:St) (H:Hp) (x:V) (v d z:dV) (lo hi:Option Int) (b:dy) (Q:VK),Inv X a e H s->RelV x v->s.heap.IsSliceOf b d z .none->t8 d lo->t8 z hi->r x lo hi H Q->
  ∃T id,HC (.type T) "__getitem__" = pure (di (.builtin id))/\s.TypeIs v T/\wpAny (el X.prog X.w) X.A (u6 v (.ref b)) (EP X a e Q) X.xe s
noncomputable def II(r:V->Option Int->Option Int->Hp->VK->Prop)(te:TE)(tl th:TO):TE:=λa H Q=>te a H λx b=>tl a b λl e=>th a e λu d=>r x l u d Q
theorem aX(U:FN X r)(C:PE X e te)(Y:PO X lo tl)(J:PO X hi th):PE X (.Subscript e (.Slice lo hi dn p2) pos) (II r te tl th):=by intro a s f H Q I h;refine GR (en (C a s f H _ I h) λv N t=>?_);obtain⟨x,g,j,M,G⟩:=t;refine wpAny_Slice (en (Y a N f g _ j G) λz P ⟨l,i,m,E,K⟩=>en (J a P f i _ m K) λO d ⟨u,R,n,F,L⟩=>?_);rw[evalPart_none];refine Am ?_;have o:Inv X a f R {d with heap:=d.heap.push {cls:= .type "slice",data:= .fields #[z,O,.none]}}:=n.kept (t':=d.toks) λb S q=>Ae _ q;obtain⟨T,id,p,B,y⟩:=U a {d with heap:=d.heap.push {cls:= .type "slice",data:= .fields #[z,O,.none]}} f R x v z O l u d.heap.objs.size Q o M (Heap.IsSliceOf.new ..) E F L;show wpAny (el X.prog X.w) X.A (subscriptTail e (.Slice lo hi dn p2) v (.ref d.heap.objs.size)) (EP X a f Q) X.xe {d with heap:=d.heap.push {cls:= .type "slice",data:= .fields #[z,O,.none]}};exact tail_any (ops:=[.ref d.heap.objs.size,v]) B p y (by with_unfolding_all rfl)
noncomputable def gO(xs:List V)(lo hi:Option Int):List V:=(xs.drop<|HT.dv xs.length 0 lo).take (HT.dv xs.length xs.length hi - HT.dv xs.length 0 lo)
theorem X5(xs:List V)(lo hi:Option Int):(gO xs lo hi).length<=xs.length:=by unfold gO;rw[EB,Fo];omega
noncomputable def uo(K:Ab):V->Option Int->Option Int->Hp->VK->Prop:=λx lo hi H Q=>∃a b,x = .ref a/\gj K H a b/\
 ¬(HT.dv b.length 0 lo=0/\HT.dv b.length b.length hi=b.length)/\∀p,H p=dn->Q (.ref p) (upd H p<|.tup<|gO b lo hi)
theorem iC:FN X (uo X.K):=by
 intro g s t H x v n p lo hi m Q I rx O j R h;obtain⟨a,e,rfl,U,i,q⟩:=h;cases rx;obtain⟨Y,r,z,f⟩:=I.tuple U;have d:Y.toArray.size=e.length:=by rw[Aj];exact r.length.symm
 refine⟨"tuple",_,Bo.lookup,z.typeIs,?_⟩;refine HT.YF z O j R (by rw[d];exact i) ?_ (by rw[d];exact f);rw[d];refine⟨.ref s.heap.objs.size,_,I.laid (t':=s.toks) (o:= .tup (gO e lo hi)) (λb l q=>Ae _ q) (Al _) ?_,rfl,q _ (I.e4.fresh (Al _))⟩;exact⟨Bq (X5 e lo hi) f,_,(r.drop (HT.dv e.length 0 lo)).take (HT.dv e.length e.length hi - HT.dv e.length 0 lo),sj.new _ _⟩
theorem eH.E5(r:eH xs us):us=[]↔xs=[]:=by
 cases r with
 | nil=>simp
 | cons _ _=>simp
end
noncomputable def B7(n:Nat)(i:Int):Option Nat:=if 0<=i then (if i<n then di i.toNat else dn)else if -(n:Int)<=i then di (i+n).toNat else dn
noncomputable def zl{C:Type}(xs:List C)(i:Int):Option C:=(B7 xs.length i).bind λj=>xs[j]?
theorem We(h:B7 n i=di j):seqIndex? i n=di j/\j<n/\ -(n:Int)<=i/\i<n:=by
 unfold B7 at h;by_cases b:0<=i
 ·rw[GY b]at h
  by_cases a:i<n
  ·rw[GY a]at h
   have e:i.toNat=j:=AG h;exact⟨by rw[Hn b a,e],by omega,by omega,a⟩
  ·rw[MQ a]at h;cases h
 ·rw[MQ b]at h
  by_cases a : -(n:Int)<=i
  ·rw[GY a]at h
   have e:(i+n).toNat=j:=AG h;exact⟨by rw[Hm ⋯ a,e],by omega,a,by omega⟩
  ·rw[MQ a]at h;cases h
theorem Ka(h:zl xs i=di v) : ∃j,seqIndex? i xs.length=di j/\xs[j]? = di v/\j<xs.length/\ -(xs.length:Int)<=i/\i<xs.length:=by
 unfold zl at h;cases e:B7 xs.length i with
 | none=>rw[e]at h;cases h
 | some j=>
  rw[e]at h;obtain⟨a,b,d,z⟩:=We e;exact⟨j,a,h,b,d,z⟩
noncomputable def Kg(b:d3):Prop:=∀o i,subscripted b dt o i=operate [o,i] (u6 o i)
noncomputable def xx(X:Cx)(r:R2):Prop:=
 ∀(value d:d3) (a:GW) (s:eg) (b:St) (H:Hp) (x y:V) (v u:dV) (Q:VK),Inv X a b H s->RelV x v->RelV y u->r x y H Q->
  subscripted d dt v u=operate [v,u] (u6 v u)->wpAny (el X.prog X.w) X.A (subscriptTail value d v u) (EP X a b Q) X.xe s
noncomputable def FL(X:Cx)(id:String)(r:V->List V->Hp->VK->Prop):Prop:=
 ∀(a:GW) (s:eg) (e:St) (H:Hp) (x:V) (d:List V) (v:dV) (b:List dV) (Q:VK),Inv X a e H s->RelV x v->eH d b->r x d H Q->
  wpAny (el X.prog X.w) X.A (call (.builtin id) (v::b)) (EP X a e Q) X.xe s
section
variable{X:Cx}{a b:d3}{ta tb:TE}{pos:e6}
theorem xx.or(h:xx X r)(h':xx X r'):xx X (λx y H Q=>r x y H Q\/r' x y H Q):=by
 intro value d a s b H x y v u Q I rx z q O;rcases q with q | q
 ·exact h value d a s b H x y v u Q I rx z q O
 ·exact h' value d a s b H x y v u Q I rx z q O
theorem lH(d:xx X r)(C:PE X a ta)(z:PE X b tb)(O:Kg b):PE X (.Subscript a b pos) (DP r ta tb):=by intro e s i H Q I h;exact GR<|rj C z I h λv u g x y f R rx U q=>d a b e g i f x y v u Q R rx U q<|O _ _
noncomputable def uu(K:Ab):R2:=λx y H Q=>∃p a i v,x = .ref p/\y = .int i/\gR K H p a/\zl a i=di v/\Q v H
noncomputable def uq(K:Ab):R2:=λx y H Q=>∃p a i v,x = .ref p/\y = .int i/\gj K H p a/\zl a i=di v/\Q v H
noncomputable def ur:R2:=λx y H Q=>∃z i c,x = .str z/\y = .int i/\z.length<=eG/\zl z.cps.toList i=di c/\Q (.str ⟨#[c]⟩) H
theorem Io:xx X (uu X.K):=by
 intro value G a s g H x y v u Q I rx Y h O;obtain⟨p,N,i,z,rfl,rfl,E,B,q⟩:=h;cases rx;obtain⟨t,rfl⟩:=Y;obtain⟨l,r,e,M⟩:=I.list E;obtain⟨j,b,n,J,o,A⟩:=Ka B;obtain⟨w,R,m⟩:=r.get n;have C:=r.length;have L:=vZ;have U:EP X a g Q w s:=⟨z,H,I,m,q⟩;by_cases f:0<=i
 ·have d:i.toNat=j:=by
   rw[Hn f A]at b;exact AG b
  exact item_listR e.isList f ⋯ (by rw[d];simpa using R) U O
 ·have d:(i+(l.toArray.size:Int)).toNat=j:=by
   rw[Hm ⋯ o]at b;rw[Aj,<- C];exact AG b
  exact IH (x:=w) e.isList.typeIs slot_list_getitem.lookup
   (wpAny_getItem_list_neg (Q:=λr F=>r=w/\EP X a g Q r F) e.isList ⋯ (by rw[Aj]<;>omega) ⋯ (by rw[d];simpa using R) ⟨rfl,U⟩) O
theorem mz:xx X (uq X.K):=by
 intro value A a s e H x y v u Q I rx d h O;obtain⟨p,L,i,z,rfl,rfl,R,m,q⟩:=h;cases rx;obtain⟨t,rfl⟩:=d;obtain⟨B,r,b,J⟩:=I.tuple R;obtain⟨j,g,l,C,E,F⟩:=Ka m;obtain⟨w,U,Y⟩:=r.get l;have n:=r.length;have G:=vZ;have f:EP X a e Q w s:=⟨z,H,I,Y,q⟩;exact IH (x:=w) b.typeIs slot_tuple_getitem.lookup
  (getItem_tuple (j:=j) (Q:=λr o=>r=w/\EP X a e Q r o) b ⋯ ⋯ (by rw[Aj,<- n];exact g) (by simpa using U) ⟨rfl,f⟩) O
theorem mB:xx X ur:=by
 intro value m b s w H x y v u Q I rx d h O;obtain⟨z,i,c,rfl,rfl,p,l,q⟩:=h;obtain⟨t,rfl⟩:=rx;obtain⟨r,rfl⟩:=d;obtain⟨j,a,g,n,R,U⟩:=Ka l;have Y:z.cps.toList.length=z.length:=by simp[Str.length]
 rw[Y]at a R U;have o:=vZ;exact tail_any (typeIs_str s z t) slot_str_getitem.lookup (getItem_str (c:=c) (by
  have e:decide (i < -(2 ^ 63:Int))=dt:=decide_eq_false ⋯;have f:decide (i>=2 ^ 63)=dt:=decide_eq_false ⋯;rw[e,f,Bool.or_false]) (by rw[a];simpa using g) ⟨.str ⟨#[c]⟩,H,I.tok _,⟨_,rfl⟩,q⟩) O
theorem Yz(d:List dV)(n j:Nat)(u:dV):EM (·.setIfInBounds j u) {cls:= .type "list",data:= .seq d.toArray n} = {cls:= .type "list",data:= .seq (d.set j u).toArray n}:=by simp[EM]
theorem Inv.lst(I:Inv X pins σ H s)(h:H p=di (.lst xs)) :
 ∃(d:List dV) (n:Nat),eH xs d/\s.heap.get? p=di {cls:= .type "list",data:= .seq d.toArray n}/\xs.length<=eG:=by
 obtain⟨z,d,n,r,e⟩:=I.e4 p _ h;exact⟨d,n,r,e,z⟩
theorem Inv.Ir{C:GW}{L:St}{H:Hp}{s:eg}{p:dy}{xs J:List V}{d its':List dV}{n n':Nat}{f:i5->i5}(I:Inv X C L H s)(h:H p=di (.lst xs))
 (O:s.heap.get? p=di {cls:= .type "list",data:= .seq d.toArray n}) (z:f {cls:= .type "list",data:= .seq d.toArray n} = {cls:= .type "list",data:= .seq its'.toArray n'}) (r:eH J its') (hz:J.length<=eG) (t:Nat) :
 Inv X C L (upd H p<|.lst J) {s with heap:=s.heap.update p f,toks:=t}:=by
 have e:(s.heap.update p f).get? p=di {cls:= .type "list",data:= .seq its'.toArray n'}:=by rw[Heap.get?_update_self f O (by rw[z]<;>rfl),z]
 refine I.write (x:=p) (e:=p) (by rw[h];trivial) (.inl rfl) (λb u Q q=>(Heap.get?_update_other _ _<|Br Q).trans q) ⟨_,e⟩ ?_;exact⟨hz,its',n',r,e⟩
noncomputable def pb:V->V->V->Hp->(Hp->Prop)->Prop:=λo i v H Q=>∃p a k j,o = .ref p/\i = .int k/\H p=di (.lst a)/\B7 a.length k=di j/\Q (upd H p<|.lst<|a.set j v)
theorem aA:tH X pb:=by
 intro a s B H o i v G F u Q I x w y h;obtain⟨p,A,k,j,rfl,rfl,O,l,q⟩:=h;cases x;obtain⟨t,rfl⟩:=w;obtain⟨R,n,r,d,m⟩:=I.lst O;obtain⟨b,C,U,Y⟩:=We l;have z:=r.length;have E:=vZ;have f:Inv X a B (upd H p<|.lst<|A.set j v) {s with heap:=s.heap.update p (EM (·.setIfInBounds j u))}:=
  I.Ir O d (Yz R n j u) (r.set y j) (by rw[List.length_set];exact m) s.toks
 by_cases g:0<=k
 ·have e:k.toNat=j:=by
   rw[Hn g Y]at b;exact AG b
  exact PySem.W.ki_setAt d g ⋯ (by rw[Aj,<- z];exact Y) (by rw[e];exact⟨_,f,q⟩)
 ·have e:(k+(R.toArray.size:Int)).toNat=j:=by
   rw[Hm ⋯ U]at b;rw[Aj,<- z];exact AG b
  exact PySem.W.ki_setBack d ⋯ (by rw[Aj,<- z];exact U) ⋯ (by rw[e];exact⟨_,f,q⟩)
noncomputable def JF:V->Bool
 | .f7=>dk
 | .bl _=>dk
 | .int _=>dk
 | .str _=>dk
 | _=>dt
noncomputable def u5:V->V->Bool
 | .f7,.f7=>dk
 | .bl a,.bl b=>a==b
 | .bl a,.int b=>(if a then 1 else 0)==b
 | .int a,.bl b=>a==(if b then 1 else 0)
 | .int a,.int b=>a==b
 | .str a,.str b=>a==b
 | _,_=>dt
theorem mI(d:RelV y u)(rx:RelV x v)(z:JF y=dk)(fx:JF x=dk):Bw A s u v (u5 y x):=by
 cases y with
 | f7=>
  cases d;cases x with
  | f7=>cases rx;exact Bw.same _
  | bl b=>cases rx;exact Bw.none_bool b
  | int b=>obtain⟨t,rfl⟩:=rx;exact Bw.none_int b t
  | str b=>obtain⟨t,rfl⟩:=rx;exact Bw.none_str b t
  | _=>exact absurd (show dt=dk from fx) AB
 | bl a=>
  cases d;cases x with
  | f7=>cases rx;exact Bw.bool_none a
  | bl b=>cases rx;exact Bw.bool_bool a b
  | int b=>obtain⟨t,rfl⟩:=rx;exact Bw.bool_int a b t
  | str b=>obtain⟨t,rfl⟩:=rx;exact Bw.bool_str a b t
  | _=>exact absurd (show dt=dk from fx) AB
 | int a=>
  obtain⟨e,rfl⟩:=d;cases x with
  | f7=>cases rx;exact Bw.int_none a e
  | bl b=>cases rx;exact Bw.int_bool a e b
  | int b=>obtain⟨t,rfl⟩:=rx;exact Bw.int_int a e b t
  | str b=>obtain⟨t,rfl⟩:=rx;exact Bw.int_str a e b t
  | _=>exact absurd (show dt=dk from fx) AB
 | str a=>
  obtain⟨e,rfl⟩:=d;cases x with
  | f7=>cases rx;exact Bw.str_none a e
  | bl b=>cases rx;exact Bw.str_bool a e b
  | int b=>obtain⟨t,rfl⟩:=rx;exact Bw.str_int a e b t
  | str b=>obtain⟨t,rfl⟩:=rx;exact Bw.str_str a e b t
  | _=>exact absurd (show dt=dk from fx) AB
 | _=>exact absurd (show dt=dk from z) AB
noncomputable def u4(x:V)(u:dV):Bool:=match u with
 | .none=>u5 .f7 x
 | .bool b=>u5 (.bl b) x
 | .int i _=>u5 (.int i) x
 | .str z _=>u5 (.str z) x
 | _=>dt
theorem dH(r:RelV y u)(f:JF y=dk):u4 x u=u5 y x:=by
 cases y with
 | f7=>cases r;rfl
 | bl b=>cases r;rfl
 | int i=>obtain⟨t,rfl⟩:=r;rfl
 | str z=>obtain⟨t,rfl⟩:=r;rfl
 | _=>exact absurd (show dt=dk from f) AB
theorem Kf : ∀{xs:List V} {C:List dV},eH xs C->xs.all JF=dk->C.any (u4 x)=xs.any λy=>u5 y x
 | _,_,.nil,_=>rfl
 | y::xs,u::C,.cons r t,f=>by rw[List.all_cons,As]at f;rw[Ec,Ec,dH r f.1,Kf t f.2]
theorem Jv(rx:RelV x v)(fx:JF x=dk) : ∀{xs:List V} {C:List dV},eH xs C->xs.all JF=dk->∀u∈C,Bw A s u v (u4 x u)
 | _,_,.nil,_=>λu d=>by cases d
 | y::xs,u::C,.cons r t,f=>λa d=>by
  rw[List.all_cons,As]at f;rcases Ao.mp d with rfl | d
  ·rw[dH r f.1];exact mI r rx f.1 fx
  ·exact Jv rx fx t f.2 a d
def D8(x:V)(xs:List V):Bool:=xs.any λy=>u5 y x
noncomputable def IB(K:Ab)(d:Bool):R2:=λx y H Q=>∃p a,y = .ref p/\(gR K H p a\/gj K H p a)/\JF x=dk/\a.all JF=dk/\Q (.bl<|if d then !D8 x a else D8 x a) H
theorem QJ:hL X (mr .NotIn) (IB X.K dk):=by
 intro e s i H x y v u Q I rx O h;obtain⟨p,g,rfl,d,fx,fs,q⟩:=h;cases O;rcases d with d | d
 ·obtain⟨z,r,b,f⟩:=I.list d
  refine SeqAt.notIn_listAt (u4 x) b.isList (λw a=>Jv rx fx r fs w<|by simpa using a) ⟨.bl _,H,I,rfl,?_⟩;rw[show z.toArray.any (u4 x)=z.any (u4 x)by simp,Kf r fs];exact q
 ·obtain⟨z,r,b,f⟩:=I.tuple d
  refine SeqAt.notIn_tupleAt (u4 x) b (λw a=>Jv rx fx r fs w<|by simpa using a) ⟨.bl _,H,I,rfl,?_⟩;rw[show z.toArray.any (u4 x)=z.any (u4 x)by simp,Kf r fs];exact q
theorem Xj:wH X (.builtin "len") (λxs H Q=>∃p C,xs=[.ref p]/\(gR X.K H p C\/gj X.K H p C)/\Q (.int C.length) H):=by
 intro e s i H xs g Q I r h;obtain⟨p,C,rfl,d,q⟩:=h;obtain⟨u,rfl,rx⟩:=yE r;cases rx;have R:=vZ;rcases d with d | d
 ·obtain⟨O,b,a,f⟩:=I.list d
  have z:=b.length;exact Calls.call_len_list a.isList (by simp only[Aj]<;>omega) ⟨.int C.length,H,I.tok _,⟨s.toks+1,by rw[Aj,z]⟩,q⟩
 ·obtain⟨O,b,a,f⟩:=I.tuple d
  have z:=b.length;exact len_tuple a (by simp only[Aj]<;>omega) ⟨.int C.length,H,I.tok _,⟨s.toks+1,by rw[Aj,z]⟩,q⟩
theorem Xi:wH X (.builtin "len") (λxs H Q=>∃z,xs=[.str z]/\z.length<=eG/\Q (.int z.length) H):=by intro a s f H xs e Q I r h;obtain⟨z,rfl,b,q⟩:=h;obtain⟨u,rfl,t,rfl⟩:=yE r;have d:=vZ;exact len_str ⋯ ⟨.int z.length,H,I.tok _,⟨_,rfl⟩,q⟩
theorem Xh:wH X (.type "list") (λxs H Q=>∃p C,xs=[.ref p]/\(gR X.K H p C\/gj X.K H p C)/\∀l,H l=dn->Q (.ref l) (upd H l (.lst C))):=by
 intro j s A H xs B Q I r h;obtain⟨p,C,rfl,O,q⟩:=h;obtain⟨u,rfl,rx⟩:=yE r;cases rx;have Y : ∀(d:List dV),eH C d->C.length<=eG->∀(a:e5) (z:Nat),(∀b x,s.heap.get? b=di x->a.get? b=di x)->
  a.get? s.heap.objs.size=di {cls:= .type "list",dict:=dn,data:= .seq d.toArray z,slots:=#[]}->EP X j A Q (.ref s.heap.objs.size) {s with heap:=a}:=λd f g a z i e=>
  ⟨.ref s.heap.objs.size,_,I.laid (t':=s.toks) i (Al _) (show i1 X.prog X.w _ a _ (.lst C)from⟨g,d,z,f,e⟩),rfl,q _<|I.e4.fresh<|Al _⟩
 rcases O with O | O
 ·obtain⟨d,f,t,g⟩:=I.list O
  have y:=f.length;obtain⟨o,R,U,n,m⟩:=t.isList;exact call_list_seq p (.inl rfl) R U m (λa z i e=>Y d f g a z i e) (by simp only[Aj]<;>omega)
 ·obtain⟨d,f,t,g⟩:=I.tuple O
  have y:=f.length;obtain⟨o,R,U,n,m⟩:=t;exact call_list_seq p (.inr rfl) R U m (λa z i e=>Y d f g a z i e) (by simp only[Aj]<;>omega)
theorem JN:wH X (.type "tuple") (λxs H Q=>∃p C,xs=[.ref p]/\((gR X.K H p C/\∀l,H l=dn->Q (.ref l) (upd H l (.tup C)))\/(gj X.K H p C/\Q (.ref p) H))):=by
 intro a s m H xs t Q I r h;obtain⟨p,C,rfl,h⟩:=h;obtain⟨u,rfl,rx⟩:=yE r;cases rx;rcases h with⟨d,q⟩ | ⟨d,q⟩
 ·obtain⟨z,i,g,j⟩:=I.list d
  have U:=i.length;refine call_tuple_list g.isList (λf n=>?_) (by simp only[Aj]<;>omega);have O:Inv X a m H {s with heap:=f}:=I.kept (t':=s.toks) n;have R:Inv X a m (upd H f.objs.size (.tup C)) {s with heap:=f.push {cls:= .type "tuple",data:= .seq z.toArray}}:=
   O.laid (t':=s.toks) (λb o e=>Ae _ e) (Al _) (show i1 X.prog X.w _ _ _ (.tup C)from⟨j,z,i,sj.new _ _⟩)
  exact⟨.ref f.objs.size,_,R,rfl,q _<|O.e4.fresh<|Al _⟩
 ·obtain⟨z,i,g,j⟩:=I.tuple d
  exact call_tuple_same g ⟨.ref p,H,I,rfl,q⟩
noncomputable def HA(K:Ab)(T:String)(x:V)(H:Hp):Prop:=match x with
 | .str _=>T = "str"
 | .int _=>T = "int"
 | .ref p=>(T = "list"/\∃b,gR K H p b)\/(T = "tuple"/\∃o,K.lookup p=di o/\o.cls = .type "tuple"/\o.dict=dn)\/
  (T = "dict"/\((∃a,H p=di (.dK a))\/∃a,H p=di (.dT a)))\/(T = "set"/\∃S n,H p=di (.set S n))
 | _=>False
theorem ip(I:Inv X pins σ H s)(r:RelV x v)(ty:HA X.K T x H) :
 s.TypeIs v T/\∀a,v = .ref a->∃O,s.heap.get? a=di O/\O.dict=dn:=by
 cases x with
 | str z=>
  obtain⟨t,rfl⟩:=r;cases (show T = "str" from ty);exact⟨typeIs_str s z t,λ_ e=>nomatch e⟩
 | int i=>
  obtain⟨t,rfl⟩:=r;cases (show T = "int" from ty);exact⟨HB s i t,λ_ e=>nomatch e⟩
 | ref p=>
  cases r;rcases ty with⟨rfl,l,Q⟩ | ⟨rfl,o,b,R,g⟩ | ⟨rfl,b⟩ | ⟨rfl,S,n,b⟩
  ·obtain⟨U,_,j,_⟩:=I.list Q
   refine⟨j.isList.typeIs,λa e=>?_⟩;cases e;obtain⟨o,n,e,c,g,_⟩:=j;exact⟨o,e,g⟩
  ·refine⟨⟨o,I.n9 p o b,R⟩,λa e=>?_⟩
   cases e;exact⟨o,I.n9 _ o b,g⟩
  ·have z : ∃o,s.heap.get? p=di o/\o.ExactDict:=by
    rcases b with⟨h,b⟩ | ⟨h,b⟩
    ·obtain⟨_,_,_,_,o,_,_,e,f,_⟩:=I.e4 p _ b
     exact⟨o,e,f⟩
    ·obtain⟨_,_,_,_,o,_,_,e,f,_⟩:=I.e4 p _ b
     exact⟨o,e,f⟩
   obtain⟨o,e,f⟩:=z;refine⟨⟨o,e,f.1⟩,λa d=>?_⟩;cases d;exact⟨o,e,f.2.1⟩
  ·obtain⟨o,_,_,_,e,f,_⟩:=I.e4 p _ b
   refine⟨⟨o,e,f.1⟩,λa d=>?_⟩;cases d;exact⟨o,e,f.2.1⟩
 | _=>exact CB ty
noncomputable def Hv(K:Ab)(T:String)(r:V->List V->Hp->VK->Prop)(to:TE)(t:TA):TE:=λb H Q=>to b H λx a=>HA K T x a/\t b a λe d=>r x e d Q
variable{o e:d3}{es:List d3}{to:TE}{t:TA}{name:Str}{apos cpos:e6}{T id:String}{r:V->List V->Hp->VK->Prop}
theorem VS(R:PlainAttrs T)(C:Slot T name id)(U:typeOf (.builtin id)=pure (.type "method_descriptor"))(Y:FL X id r)(ho:PE X o to)(Z:PA X (e::es) t)
 (J:D4 o name X.env (ej o X.env)=ej o X.env:=by rfl)
 (L:((m8 cpos<|starEach (e::es) X.env).all (λx=> !x.1) && (Dz cpos<|keywordEach [] X.env).all (λx=>x.1.isSome)
   && decide ((e::es).length+([]:List ri).length+(if ([]:List ri).isEmpty then 0 else 1)<30))=dk:=by rfl)
 (M:(apos.endLine==cpos.line)=dk:=by rfl) (hs:e9 (e::es) X.env=(dt,ej e X.env)::e9 es X.env:=by rfl) (S:(m8 cpos<|starEach es X.env).any (·.1)=dt:=by rfl) :
 PE X (.Call (.Attribute o name apos) (e::es) [] cpos) (Hv X.K T r to t):=by
 intro a s b H Q I h;refine wpAny_Call_method_late J L M rfl<|en (ho a s b H _ I h) λv w m=>?_;obtain⟨x,f,d,z,ty,n⟩:=m;obtain⟨j,l⟩:=ip d z ty;refine⟨T,id,R,C,U,j,l,?_⟩;have O:=Z cpos a w b f _ d n;rw[hs]at O ⊢;refine Calls.callWith_builtin (by show(dt || (m8 cpos<|starEach es X.env).any (·.1))=dt;rw[S]<;>rfl)<|Calls.evalArgs_plain ?_;exact en O λA y ⟨B,g,i,u,p⟩=>Y a y b g x B v A Q i z u p
end
noncomputable def FK(X:Cx)(id:String)(r:V->List V->Hp->VK->Prop):Prop:=
 ∀(a:GW) (s:eg) (e:St) (H:Hp) (x:V) (d:List V) (v:dV) (b:List dV) (Q:VK),Inv X a e H s->RelV x v->eH d b->r x d H Q->
  wpAny (el X.prog X.w) X.A (call (.builtin id) (v::b)) (EP X a e Q) X.xe s
theorem eH.one : ∀{x:V} {C:List dV},eH [x] C->∃u,C=[u]/\RelV x u
 | _,_,.cons r .nil=>⟨_,rfl,r⟩
theorem eH.dropLast(h:eH xs us):eH xs.dropLast us.dropLast:=by
 induction h with
 | nil=>exact .nil
 | cons r t d=>
  cases t with
  | nil=>exact .nil
  | cons q a=>exact .cons r d
theorem eH.rep(h:eH xs us) : ∀k:Nat,eH (Ag k xs).flatten (Ag k us).flatten
 | 0=> .nil
 | k+1=>by rw[BR,BR,Cr,Cr];exact eH.append h<|eH.rep h k
theorem Xc(d:List dV) : ∀(k:Nat) (acc:List dV),
 List.foldl (λx1 z=>x1++z) acc.toArray (Ag k d.toArray)=(acc++(Ag k d).flatten).toArray
 | 0,acc=>by simp
 | k+1,acc=>by
  have e:acc.toArray++d.toArray=(acc++d).toArray:=by simp
  have I:(acc++d)++(Ag k d).flatten=acc++(Ag (k+1) d).flatten:=by rw[BR,Cr,CQ]
  rw[<- I,<- Xc d k (acc++d),<- e,BR,List.foldl_cons]
section
variable{X:Cx}{pins:GW}{σ:St}{H:Hp}{s:eg}{l b:dy}{xs ys zs:List V}
theorem Inv.E3{d its':List dV}{n:Nat}{f:Array dV->Array dV}{t':Nat}(I:Inv X pins σ H s)(z:H l=di (.lst xs))
 (e:s.heap.get? l=di {cls:= .type "list",data:= .seq d.toArray n}) (O:f d.toArray=its'.toArray) (Q:eH ys its') (hz:ys.length<=eG) :
 Inv X pins σ (upd H l<|.lst ys) {s with heap:=s.heap.update l<|EM f,toks:=t'}:=by
 have q:=PySem.IsL.update e f;rw[O]at q;refine I.write (x:=l) (e:=l) (by rw[z];exact trivial) (.inl rfl) (λY u R U=>(Heap.get?_update_other s.heap (EM f)<|Br R).trans U) ⟨_,q⟩ ?_;exact⟨hz,its',_,Q,q⟩
theorem Inv.Iq(I:Inv X pins σ H s)(z:eH ys d)(hz:ys.length<=eG) :
 Inv X pins σ (upd H s.heap.objs.size (.lst ys)) {s with heap:=s.heap.push {cls:= .type "list",data:= .seq d.toArray},toks:=t'}:=
 I.laid (λ_ _ q=>Ae _ q) (Al _) ⟨hz,d,0,z,AA _ rfl⟩
theorem Inv.fresh(I:Inv X pins σ H s):H s.heap.objs.size=dn:=I.e4.fresh<|Al _
theorem Inv.DH(I:Inv X pins σ H s)(O:H l=di (.lst xs)):xs.length<=eG/\∃(d:List dV) (n:Nat),eH xs d/\xs.length=d.length/\s.heap.get? l=di {cls:= .type "list",data:= .seq d.toArray n}:=by obtain⟨z,d,n,r,e⟩:=I.e4 l _ O;exact⟨z,d,n,r,r.length,e⟩
theorem KJ(h:n<=eG):BV n=dt:=by unfold BV;exact decide_eq_false ⋯
end
section
variable{X:Cx}
noncomputable def Vy:V->List V->Hp->VK->Prop:=λx b H Q=>∃l a y,x = .ref l/\b=[y]/\H l=di (.lst a)/\a.length<eG/\Q .f7 (upd H l<|.lst<|a++[y])
theorem V1:FK X "list.append" Vy:=by intro a s j H x g v f Q I rx R h;obtain⟨l,i,y,rfl,rfl,d,b,q⟩:=h;cases rx;obtain⟨u,rfl,U⟩:=R.one;obtain⟨z,O,n,r,Y,e⟩:=I.DH d;refine Ea F.slot_list_append ⟨_,e,rfl⟩ F.entry_list_append (F.args_list_append_2 _ _) (PySem.list_append l O.toArray n u (by rw[Aj];omega)) ⟨e,?_⟩;refine⟨.f7,_,I.E3 (its':=O++[u]) d e ⋯ (r.append (.cons U .nil)) ?_,rfl,q⟩;rw[m5,BY];omega
noncomputable def eX:V->List V->Hp->VK->Prop:=λx e H Q=>∃l b a d,x = .ref l/\e=[.ref b]/\H l=di (.lst a)/\H b=di (.lst d)/\a.length+d.length<=eG/\Q .f7 (upd H l<|.lst<|a++d)
theorem V0:FK X "list.extend" eX:=by
 intro f s G H x A v y Q I rx U h;obtain⟨l,b,B,E,rfl,rfl,R,Y,w,q⟩:=h;cases rx;obtain⟨u,rfl,o⟩:=U.one;cases o;obtain⟨z,d,n,r,t,e⟩:=I.DH R;obtain⟨C,O,j,m,p,i⟩:=I.DH Y;have a:d.toArray.size+O.toArray.size<=eG:=by rw[Aj,Aj];omega
 have g : ¬(!d.toArray.isEmpty && BV (d.toArray.size+O.toArray.size))=dk:=by rw[KJ a,Bool.and_false];exact AB
 refine Ea F.slot_list_extend ⟨_,e,rfl⟩ F.entry_list_extend (F.args_list_extend_2 _ _)
  (AutoSeq1.list_extend_list_list_0 l d.toArray n b O.toArray j g (by rw[Aj];omega) ⋯) ⟨e,i,?_⟩
 refine⟨.f7,_,I.E3 (its':=d++O) R e ⋯ (r.append m) ?_,rfl,q⟩;rw[m5];omega
theorem V5(xs:List α)(k:Nat):(Ag k xs).flatten.length=k*xs.length:=by
 induction k with
 | zero=>simp
 | succ k d=>rw[BR,Cr,m5,d,Nat.succ_mul,Nat.add_comm]
end
end L2
namespace Att
open PySem PySem.W PySem.Calls PyProof.Rows
theorem we : ∀(C:List Int) (H:List dV),WellAll P h H (C.map WData.int)->DX H C:=by
 intro C
 induction C with
 | nil=>
  intro H w;rw[El]at w;cases w;exact .nil
 | cons n C d=>
  intro H w;rw[Ap]at w;cases w with
  | cons a b=>
   cases a;exact .cons _ _<|d _ b
theorem Vs{l:OpenLaw}{n:Nat}(U:l.most=di n){P:Params}{h:e5}{args:List WData}{O:List dV}
 (Q:l.row.toRowW.claim.pre args=dk) (Y:WellAll P h O args) :
 ∃a H C,O=[BL a]/\args=[WData.list (C.map WData.int)]/\h.get? a=di {cls:= .type "list",data:= .seq H.toArray}/\DX H C/\C.length<=n:=by
 have b:WShape.hasAll [] args [.list .int]=dk:=(pre_splitW Q).1;have R:l.pre.holds [] {args:=args}=dk:=(pre_splitW Q).2;obtain⟨d,r,rfl,g,i⟩:=hasAllW_cons b;obtain rfl:=hasAllW_nil i;obtain⟨t,rfl,j⟩:=hasW_list g;obtain⟨C,rfl⟩:=items_int j;have e:C.length<=n:=by
  unfold OpenLaw.pre at R;have z:(WTm.not<|.lt (.lit<|.int (n:Int))<|.len<|.arg 0).holds [] {args:=[.list (C.map .int)]}=dk:=by have z:=(holds_andW R).1;rw[U]at z;exact z
  have I:=condW_of z<|w_not<|w_lt w_lit<|w_len_list<|w_arg rfl;rw[Ay]at I;refine Nat.le_of_not_lt λq=>?_;have o:(n:Int)<((C.length:Nat):Int):=by omega
  first
   | (rw[decide_eq_true o]at I;exact absurd I ⋯)
   | (simp at I;omega)
 cases Y with
 | cons p s=>
  cases s;cases p with
  | list m f=>exact⟨_,_,C,rfl,rfl,m,we C _ f,e⟩
theorem VI(l:OpenLaw)(args:List WData):l.row.toRowW.claim.post args (.bool dk) args=dk:=
 postW_of (r:=l.row.toRowW) (X:=(dk==dk))
  (show WShape.has [] (.bool dk) .bool=dk by first | rfl | decide | simp[WShape.has,WShape.arms,WShape.armsAll])
  (show(WTm.eq .res<|.lit<|.bool dk).value [] {args:=args,res:=di (.bool dk),after:=args}=di (.bool<|true==dk)from w_eq_bool (w_res rfl) w_lit) rfl
theorem gW{l:OpenLaw}{n:Nat}{q:hH}{O:List Str}{Q:(Str->Option dV)->e5->Prop}{R:g9->e5->Prop}{d:DefRec}
 (hn:l.most=di n) (a1:d.params.defaults=[])
 (call : ∀(w:g9) (k0 z:eg) (L Z:GJ) (J:dy) (o:i5) (pm I C:dV) (a:dy) (H:List dV) (M:List Int),
   Ground q O [] Q w k0 L Z z.heap->R w z.heap->
   z.heap.get? J=di o->o.data = .func (docDef d.name d.params d.body d.scope pm I C)->z.heap.CodeRec I d.name->L d.name=di (.ref J)->
   z.heap.get? a=di {cls:= .type "list",data:= .seq H.toArray}->DX H M->M.length<=n->z.gens = #[]->
   codeAny (el l.prog w) B3 (.call (.ref J) ⟨[.ref a],[]⟩) (λr S=>r = .ok (.ret<|.bool dk)/\OldK z.heap S.heap/\S.os=z.os/\xr S.gens) z) :
 WalkO q O Q R l.row.toRowW d [] (λf H=>PySem.call f H):=by
 intro w k0 z L Z G Y J o pm I C s kV E y e U g A b K as h N P i T;obtain rfl:s = .none:=Dflts.none U a1;obtain rfl:kV = .none:=Dflts.noKw U;obtain⟨a,H,M,rfl,rfl,j,m,p⟩:=Vs hn h i;refine enter_call<|FA (call w k0 z L Z J o pm I C a H M G Y E (fd_plain y) e g j m p A) λr S F=>?_;obtain⟨rfl,t,u,x⟩:=F;exact⟨.inl ⟨.bool dk,.bool dk,[],rfl,λ_=>rfl,.bool dk,VI l _,λ_=>⟨List.Pairwise.nil,λ_ B=>(nomatch B)⟩⟩,t,u,x⟩
end Att
namespace L2
open PySem PySem.Spec PyProof.Rows
theorem ya : ∀{H:List dV} {C:List Int},DX H C->eH (C.map V.int) H
 | _,_,.nil=> .nil
 | _,_,.cons n t h=> .cons ⟨t,rfl⟩ (ya h)
def oq(H:Hp):Prop:=∀b,H b=dn\/∃o a,H b=di (.i7 o<|.lst a)
theorem bE{P:hH}{w:g9}{K:Ab}{L mb:GJ}{CX:qq}{k:Nat}{Z a:dy}{fd:ow}{x:Str}{sp:Sp}{I:eg}{J:List dV}{M:List Int}
 (KX:K.In I.heap) (a1:I.heap.Ns o5 L) (O:I.heap.Ns G4 mb) (a8 : ∀x:Str,x ≠ "__name__"->mb x=z3 x) (a9:I.heap.NoLimit) (hg:I.gens = #[])
 (S:I.heap.get? a=di {cls:= .type "list",data:= .seq J.toArray}) (hi:DX J M) (hl:M.length<=eG) (hr:m3 k B3)
 (F : ∀base:e5,K.In base->base.Ns o5 L->ov P w K L base CX k Z fd [x] sp) (ae : ∀(s:eg) (u:dV),DT s fd ⟨[u],[]⟩ [(x,u)])
 (ag : ∀H:Hp,oq H->gR K H a (M.map V.int)->sp [.ref a] H (λv _=>v = .bl dk) λ_ _ _=>False)
 (am : ∀H e C,CX [] H I (λ_ _ _=>False) e C->False) :
 codeAny (el P w) B3 (.call (.ref Z) ⟨[.ref a],[]⟩) (λr C=>r = .ok (.ret<|.bool dk)/\OldK I.heap C.heap/\C.os=I.os/\xr C.gens) I:=by
 have B:=ya hi;have E:=hi.length;have l : ∀H:Hp,oq H->gR K H a (M.map V.int)->ie P w H I.heap->(∀b,H b≠dn->b=a)->(H a≠dn->K.lookup a=dn)->
  codeAny (el P w) B3 (.call (.ref Z) ⟨[.ref a],[]⟩) (λr C=>r = .ok (.ret<|.bool dk)/\OldK I.heap C.heap/\C.os=I.os/\xr C.gens) I:=by
  intro H A hS j y hK;have f : ∀{b:dy} {o:i5},I.heap.get? b=di o->H b=dn->(bK I.heap H).get? b=di o:=λe n=>bJ e n;have as : ∀{b:dy} {o:i5} {i:Array DictEntry} {Q:Nat},I.heap.get? b=di o->o.data = .dict i Q->H b=dn:=λ{b o i Q} e d=>by
   cases q:H b with
   | none=>rfl
   | some u=>
    have Y:b=a:=y b (by rw[q];simp);subst Y;rw[S]at e;cases e;have N:Data.seq J.toArray _=Data.dict i Q:=d;cases N
  have U : ∀{b:dy} {m:GJ},I.heap.Ns b m->(bK I.heap H).Ns b m:=λ{b m} ⟨o,i,Q,e,d,r⟩=>⟨o,i,Q,f e<|as e d,d,r⟩;have p:K.In (bK I.heap H):=λb o e=>f (KX b o e) (by
   cases q:H b with
   | none=>rfl
   | some u=>
    have Y:b=a:=y b (by rw[q];simp);subst Y;rw[hK (by rw[q];simp)]at e;cases e)
  have hM:Mod K L (bK I.heap H):=⟨p,U a1,⟨mb,U O,a8⟩,let ⟨mc,h1,h2⟩:=a9;⟨mc,U h1,h2⟩⟩;have T:DW P w K L (bK I.heap H) B3 [] I H:=⟨rfl,hM,λb o e=>fV e,Nat.le_of_eq<|Wj _ _,trivial,λb O=>absurd (show b∈([]:List dy)from O) ⋯,j,.of_eq hg⟩;refine FA ((F _ p<|U a1).run B3 [] I H ⟨[.ref a],[]⟩ [.ref a] [.ref a] _ _ hr T (ae I<|.ref a) (.cons rfl .nil) (ag H A hS)) λr C h=>?_;cases r with
  | error e=>exact(am H e C h).elim
  | ok X=>
   cases X with
   | next=>exact CB h
   | brk=>exact CB h
   | cont=>exact CB h
   | ret u=>
    obtain⟨v,H',os,g,un,G,r',q⟩:=h;have q':v = .bl dk:=q;subst q';obtain rfl:u=Value.bool dk:=r';refine⟨rfl,OldK.of_keep λb o e=>?_,os,g⟩;cases q:H b with
    | none=>exact un.keep b o e q (by intro z;exact absurd (show b∈([]:List dy)from z) ⋯) ⋯
    | some u=>
     rcases A b with z | ⟨ob,xs,z⟩
     ·rw[q]at z;cases z
     ·have z2:=un.B5 b ob _ z
      obtain⟨t,_⟩:=j b _ z;obtain⟨W,_⟩:=G b _ z2;rw[e]at t;cases t;exact W
 cases hk:K.lookup a with
 | some o=>
  have e:=KX a o hk;rw[S]at e;cases e;refine l (λ_=>dn) (λ_=> .inl rfl) (.inr ⟨_,J.toArray,_,hk,rfl,rfl,rfl,by rw[Aj,E];exact hl,by simpa using B⟩) (λb u z=>by have R:(dn:Option HO)=di u:=z;cases R) (λb z=>absurd rfl z) λz=>absurd rfl z
 | none=>
  refine l (λb=>if b=a then di (.i7 {cls:= .type "list",data:= .seq J.toArray} (.lst (M.map V.int)))else dn) (λb=>?_) (.inl (.inr ⟨{cls:= .type "list",data:= .seq J.toArray},GY rfl⟩)) (λb u z=>?_) (λb z=>?_) λ_=>hk
  ·by_cases O:b=a
   ·exact .inr ⟨_,_,GY O⟩
   ·exact .inl<|MQ O
  ·by_cases O:b=a
   ·have R:=(GY O).symm.trans z
    cases R;subst O;exact⟨S,by rw[Ay];exact hl,J,_,B,S⟩
   ·have R:=(MQ O).symm.trans z
    cases R
  ·by_cases O:b=a
   ·exact O
   ·exact absurd (MQ O) z
abbrev DY{K:Ab}{h:e5}(_:K.In h):Ab:=K
theorem dR{l:PySem.W.OpenLaw}{n k:Nat}{q:hH}{Q:List Str}{R:(Str->Option dV)->e5->Prop}{z:g9->e5->Prop}{d:DefRec}{K:Params->Ab}{CX:g9->qq}{sp:g9->Sp}{x:Str}
 (U:l.most=di n) (a0:n<=eG) (a1:d.params.defaults=[]) (hr:m3 k B3)
 (hY : ∀(w:g9) (h:e5),z w h->(K w.params).In h)
 (F : ∀(w:g9) (C:GJ) (J:dy) (h:e5),(K w.params).In h->h.Ns o5 C->C d.name=di (.ref J)->
   ∃M:ow,(∀(s:eg) (u:dV),DT s M ⟨[u],[]⟩ [(x,u)])/\
    ∀base:e5,(K w.params).In base->base.Ns o5 C->ov l.prog w (K w.params) C base (CX w) k J M [x] (sp w))
 (a4 : ∀(w:g9) (H:Hp) (a:dy) (L:List Int),L.length<=n->oq H->gR (K w.params) H a (L.map V.int)->sp w [.ref a] H (λv _=>v = .bl dk) λ_ _ _=>False)
 (a5 : ∀(w:g9) (H:Hp) (s:eg) (e:dV) (S:eg),CX w [] H s (λ_ _ _=>False) e S->False) :
 PySem.W.WalkO q Q R z l.row.toRowW d [] (λf Z=>PySem.call f Z):=by
 refine Att.gW U a1 λw j i C mb J o pm X t a Z L G Y ho hd P m p r I N=>?_;have O:=hY w _ Y;obtain⟨M,E,y⟩:=F w C J _ O G.T.g m;exact bE O G.T.g G.T.b G.T.builtins G.T.nolimit N p r (Bq I a0) hr y E (λH A B=>a4 w H a L I A B) λH e S=>a5 w H i e S
theorem nq{l:PySem.W.OpenLaw}{n k:Nat}{q:hH}{I:List Str}{O:(Str->Option dV)->e5->Prop}{z:g9->e5->Prop}{d:DefRec}{K:Params->Ab}{CX:qq}{sp:Ab->Sp}{x:Str}
 (Q:l.most=di n) (R:n<=eG) (U:d.params.defaults=[]) (Y:m3 k B3)
 (hY : ∀(w:g9) (h:e5),z w h->(K w.params).In h)
 (F : ∀(w:g9) (C:GJ) (M:dy) (h:e5),(K w.params).In h->h.Ns o5 C->C d.name=di (.ref M)->
   ∃S:ow,(∀(s:eg) (u:dV),DT s S ⟨[u],[]⟩ [(x,u)])/\
    ∀base:e5,(K w.params).In base->base.Ns o5 C->ov l.prog w (K w.params) C base CX k M S [x] (sp<|K w.params))
 (Z : ∀(K:Ab) (H:Hp) (a:dy) (J:List Int),J.length<=n->oq H->gR K H a (J.map V.int)->sp K [.ref a] H (λv _=>v = .bl dk) λ_ _ _=>False)
 (a2 : ∀(H:Hp) (s:eg) (e:dV) (L:eg),CX [] H s (λ_ _ _=>False) e L->False) :
 PySem.W.WalkO q I O z l.row.toRowW d [] (λf vs=>PySem.call f vs):=
 dR (K:=K) (CX:=λ_=>CX) (sp:=λw=>sp<|K w.params) Q R U Y hY F (λw H a J b g i=>Z (K w.params) H a J b g i) λ_ H s e L=>a2 H s e L
noncomputable def wu(s:h5):Arguments:=match s with
 | .FunctionDef _ a _ _ _ _ _ _ _ _=>a
 | _=>{posonlyargs:=[],args:=[],vararg:=dn,kwonlyargs:=[],kw_defaults:=[],kwarg:=dn,defaults:=[]}
noncomputable def xP(s:h5):List h5:=match s with
 | .FunctionDef _ _ b _ _ _ _ _ _ _=>b
 | _=>[]
noncomputable def jd(s:h5):hA:=match s with
 | .FunctionDef _ _ _ _ _ _ a _ _ _=>a
 | _=>{kind:= .function,names:=[],isGenerator:=dt,isCoroutine:=dt}
abbrev p9:qq:=λ_ _ _ _ _ _=>False
abbrev E0:XK:=λ_ _ _=>False
theorem lM:W9 p9 X E0:=λ_ _ _ _ _ _ _ h=>h.elim
structure A7(K:Ab)(x qual:Str)(st:h5)(f:dy)(fd:ow):Prop where
 ex : ∃(oc:dV) (od:Option dy) (kV doc pm:dV) (an:Option dy) (G5 ct:dV) (Ga:Array (Option dV)),
  fd=CM x qual (wu st) (xP st) (jd st) .none kV doc pm an G5 ct/\K.lookup f=di ⟨oc,od,.func fd,Ga⟩/\EG K G5 qual=dk
 kp:Eh K (.ref f)=dk
section
variable{P:hH}{w:g9}{K:Ab}{mg:GJ}{base:e5}
theorem A7.ok{x qual:Str}{st:h5}{f:dy}{M:ow}{N L:List Str}{k:Nat}{sp:Sp}(F:A7 K x qual st f M)(S:Ds N L (jd st))(len : ∀J H Q E,sp J H Q E->J.length=L.length)
 (d : ∀(C:dV) (A:mA) (outer:List l0) (s:eg) (H:Hp) (J:List V) (Q:VK) (E:XK),m3 k (A.deeper<|envOfC qual (jd st) s.heap.objs.size f C)->sp J H Q E->
   ∃t,i8 (gN p9 P w K mg base N qual (jd st) f C A outer s H E).DK (xP st) t/\t {nx:=λ_ Y=>Q .f7 Y,rt:=Q} (Jc N J) H):ov P w K mg base p9 (k+1) f M L sp:=by
 obtain⟨i,j,kV,a,l,e,C,g,b,rfl,lk,z⟩:=F.ex;refine pP lk z S len λA outer s H J Q E I O=>?_;obtain⟨t,h,q⟩:=d C A outer s H J Q E I O;exact⟨t,h.DK,q⟩
theorem mG{x qual:Str}{st:h5}{f:dy}{M:dV}{O J:Option dy}{I:Array (Option dV)}{kV H L C ct:dV}(l:K.lookup f=di ⟨M,O,.func<|CM x qual (wu st) (xP st) (jd st) .none kV H L J C ct,I⟩)
 (c:EG K C qual=dk) (k:Eh K (.ref f)=dk):A7 K x qual st f (CM x qual (wu st) (xP st) (jd st) .none kV H L J C ct):=⟨⟨M,O,kV,H,L,J,C,ct,I,rfl,l,c⟩,k⟩
end
def f6(H C:Hp):Prop:=∀b o,H b=di o->C b=di o
theorem f6.refl(H:Hp):f6 H H:=λ_ _ h=>h
theorem f6.trans(a:f6 H H1)(b:f6 H1 H2):f6 H H2:=λc o h=>b c o<|a c o h
theorem f6.free(e:f6 H H')(h:H' l=Option.none):H l=Option.none:=by
 cases q:H l with
 | none=>rfl
 | some o=>
  rw[e l o q]at h;cases h
theorem f6.seq{K:Ab}{H C:Hp}{a:dy}{xs:List V}(e:f6 H C)(h:gR K H a xs):gR K C a xs:=by
 rcases h with(h | ⟨o,h⟩) | h
 ·exact .inl<|.inl<|e _ _ h
 ·exact .inl<|.inr ⟨o,e _ _ h⟩
 ·exact .inr h
noncomputable def JU(cells:List (Str×dy)):List (Str×rk)->List (Str×dy)->List (Str×dy)
 | [],acc=>acc
 | (n,k)::r,acc=>JU cells r<|if k==AD then (match cells.lookup n with | some c=>(n,c)::acc | none=>acc)else acc
theorem km(f:Str×rk->List (Str×dy)->Sem (ForInStep<|List<|Str×dy))
 (d : ∀name kind z,f (name,kind) z=if kind==AD then (do let a <- cellOf env name;pure (.yield ((name,a)::z)))else pure (.yield z)) :
 ∀(names:List (Str×rk)) (acc:List (Str×dy)),(∀n,(n,AD)∈names->∃c,env.cells.lookup n=di c)->
  forIn names acc f=(pure (JU env.cells names acc):Sem _)
 | [],acc,_=>by rw[List.forIn_nil];rfl
 | (n,k)::r,acc,h=>by
  rw[List.forIn_cons,d];have I : ∀n,(n,AD)∈r->∃c,env.cells.lookup n=di c:=λm Q=>h m<|Ax _ Q;unfold JU;by_cases b:(k==AD)=dk
  ·rw[GY b,GY b]
   have R:k=AD:=by simpa using b
   subst R;obtain⟨c,O⟩:=h n Ar;have e:cellOf env n=pure c:=by unfold cellOf;rw[O]
   rw[e,O];exact km f d r _ I
  ·rw[MQ b,MQ b]
   exact km f d r acc I
theorem JK(h : ∀n,(n,AD)∈scope.names->∃c,env.cells.lookup n=di c) :
 closureFor scope env=pure (JU env.cells scope.names []):=by
 simp only[closureFor];rw[km (env:=env) _ (λb a d=>by cases hk:a==AD<;>simp[hk]) scope.names [] h];rfl
theorem xn
 (d:Q {scope:=scope,locals:=s.heap.objs.size,globals:=globals,cells:=n6 (s.heap.objs.size+1) scope.names cl,qual:=qual,func:=dn,code:=env.code,frame:=env.frame,builtins:=env.builtins}
   {s with heap:=A3 (s.heap.push {cls:= .type "dict",data:= .dict #[]}) scope.names}) :
 wpAny M A (Hj scope globals cl [] qual dn .none (di env)) Q E s:=by
 simp only[Hj,Option.isSome_some,if_true];refine Ac (wpAny_alloc ?_);refine Ac (wpAny_layCells _ (λb a cells=>by cases Ik:a==Cb<;>simp[Ik]) _ _ _ _ ?_);rw[show({s with heap:=s.heap.push {cls:= .type "dict",data:= .dict #[]}}:eg).heap.objs.size=s.heap.objs.size+1 from AZ ..];exact Ac (Am (Am d))
theorem KM : ∀{names:List (Str×rk)} {acc:List (Str×dy)},(n,c)∈JU cells names acc->(n,c)∈acc\/((n,AD)∈names/\cells.lookup n=di c)
 | [],acc,h=> .inl h
 | (m,k)::r,acc,h=>by
  unfold JU at h;rcases KM h with g | ⟨h1,h2⟩
  ·clear h
   by_cases a:(k==AD)=dk
   ·rw[GY a]at g
    have d:k=AD:=by simpa using a
    subst d;cases e:cells.lookup m with
    | none=>rw[e]at g;exact .inl g
    | some z=>
     rw[e]at g;rcases Ao.mp g with g | g
     ·cases g;exact .inr ⟨Ar,e⟩
     ·exact .inl g
   ·rw[MQ a]at g;exact .inl g
  ·exact .inr ⟨Ax _ h1,h2⟩
theorem vY : ∀{names:List (Str×rk)} {acc:List (Str×dy)},((acc.lookup n).isSome=dk\/((n,AD)∈names/\(cells.lookup n).isSome=dk))->((JU cells names acc).lookup n).isSome=dk
 | [],acc,h=>by
  rcases h with h | ⟨h,_⟩
  ·exact h
  ·cases h
 | (m,k)::r,acc,h=>by
  unfold JU;apply vY;by_cases a:(k==AD)=dk
  ·rw[GY a]
   have z:k=AD:=by simpa using a
   subst z;cases e:cells.lookup m with
   | none=>
    rcases h with h | ⟨h1,h2⟩
    ·exact .inl h
    ·rcases Ao.mp h1 with h1 | h1
     ·cases h1;rw[e]at h2;cases h2
     ·exact .inr ⟨h1,h2⟩
   | some I=>
    dsimp only;by_cases d:n=m
    ·subst d;left;simp
    ·rcases h with h | ⟨h1,h2⟩
     ·left;rw[Bb];split<;>simp_all
     ·rcases Ao.mp h1 with h1 | h1
      ·cases h1;exact absurd rfl d
      ·exact .inr ⟨h1,h2⟩
  ·rw[MQ a]
   rcases h with h | ⟨h1,h2⟩
   ·exact .inl h
   ·rcases Ao.mp h1 with h1 | h1
    ·cases h1;exact absurd rfl a
    ·exact .inr ⟨h1,h2⟩
theorem qI : ∀{names:List (Str×rk)} {k:Nat} {acc:List (Str×dy)},(n,c)∈n6 k names acc->(n,c)∈acc\/(k<=c/\(n,Cb)∈names)
 | [],_,_,h=> .inl h
 | (m,kd)::r,k,acc,h=>by
  unfold n6 at h;split at h
  ·rename_i a
   have d:kd=Cb:=by simpa using a
   subst d;rcases qI h with h | ⟨h1,h2⟩
   ·rcases Ao.mp h with h | h
    ·cases h;exact .inr ⟨Al _,Ar⟩
    ·exact .inl h
   ·exact .inr ⟨by omega,Ax _ h2⟩
  ·rcases qI h with h | ⟨h1,h2⟩
   ·exact .inl h
   ·exact .inr ⟨h1,Ax _ h2⟩
theorem xM : ∀{names:List (Str×rk)} {k:Nat} {acc:List (Str×dy)},(∀p∈acc,∀q∈acc,p.2=q.2->p.1=q.1)->(∀p∈acc,p.2<k)->
 ∀p∈n6 k names acc,∀q∈n6 k names acc,p.2=q.2->p.1=q.1
 | [],_,_,h,_=>h
 | (m,kd)::r,k,acc,h,hl=>by
  unfold n6;split
  ·refine xM (λp d q z e=>?_) (λp d=>?_)
   ·rcases Ao.mp d with rfl | d<;>rcases Ao.mp z with rfl | z
    ·rfl
    ·have I:k=q.2:=e
     exact absurd (I ▸ hl q z)<|Bn _
    ·have I:p.2=k:=e
     exact absurd (I ▸ hl p d)<|Bn _
    ·exact h p d q z e
   ·rcases Ao.mp d with rfl | d
    ·exact BH _
    ·exact Bl<|hl p d
  ·exact xM h hl
theorem wz : ∀{names:List (Str×rk)} {h:e5} {acc:List (Str×dy)} {n:Str} {c:dy},(n,c)∈n6 h.objs.size names acc->(n,c)∈acc\/(A3 h names).IsCell c dn
 | [],_,_,_,_,d=> .inl d
 | (m,kd)::r,h,acc,n,c,d=>by
  unfold n6 at d;unfold A3;split at d
  ·rename_i a
   rw[GY a];have e:h.objs.size+1=(h.push {cls:= .type "cell",data:= .cell dn}).objs.size:=(AZ ..).symm;rw[e]at d;rcases wz d with d | d
   ·rcases Ao.mp d with d | d
    ·cases d
     have z:(h.push {cls:= .type "cell",data:= .cell dn}).IsCell h.objs.size dn:=⟨{cls:= .type "cell",data:= .cell dn},AA _ rfl,rfl⟩;exact .inr (z.keeps λb o q=>Er _ _ b o q)
    ·exact .inl d
   ·exact .inr d
  ·rename_i a
   rw[MQ a];exact wz d
theorem kG{H:Type}{l:List (Str×H)}(C:(l.map (·.1)).Nodup) : ∀{n:Str} {a:H},(n,a)∈l->l.lookup n=di a:=by
 induction l with
 | nil=>intro n a h;cases h
 | cons p r d=>
  intro n a h;obtain⟨m,b⟩:=p;rw[Ap,Eg]at C;rw[Bb];rcases Ao.mp h with h | h
  ·cases h;simp
  ·have z:(n==m)=dt:=by
    have:n≠m:=λe=>C.1 (by rw[<- e];exact Cm.mpr ⟨(n,a),h,rfl⟩);simpa using this
   rw[z];exact d C.2 h
theorem kR(scope:hA)(env:l0)(x:Str):(rr scope env).names.lookup x =
 (scope.names.lookup x).map λk=>if (k==AD && env.scope.kind == .function && env.kindOf x==di .cell)then Cb else k:=by
 unfold rr;dsimp only;generalize scope.names=l
 induction l with
 | nil=>rfl
 | cons p r z=>
  obtain⟨n,k⟩:=p;rw[Ap];cases hx:x==n with
  | true=>
   have e:x=n:=by simpa using hx
   subst e;rw[Bb,Bb];dsimp only;by_cases d:(k==AD && env.scope.kind == .function && env.kindOf x==di .cell)=dk
   ·rw[GY d,beq_self_eq_true];dsimp only[EE];rw[GY d]
   ·rw[MQ d,beq_self_eq_true];dsimp only[EE];rw[MQ d]
  | false=>
   have : ∀I,List.lookup x ((n,I)::(r.map λx=>match x with | (n,k)=>if (k==AD && env.scope.kind == .function && env.kindOf n==di .cell)=dk then (n,Cb)else (n,k)))=List.lookup x (r.map λx=>match x with | (n,k)=>if (k==AD && env.scope.kind == .function && env.kindOf n==di .cell)=dk then (n,Cb)else (n,k)):=λI=>by rw[Bb,hx]
   rw[Bb (k:=n),hx];dsimp only;split
   ·rw[this];exact z
   ·rw[this];exact z
noncomputable def yu(scope:hA)(env:l0)(L:dy):l0:=
 {scope:=rr scope env,locals:=L,globals:=env.globals,cells:=n6 (L+1) scope.names<|JU env.cells scope.names [],qual:=env.qual,func:=dn,code:=env.code,frame:=env.frame,builtins:=env.builtins}
noncomputable def z6(X:Cx)(scope:hA)(d:List Str)(fp:List dy)(C:eg)(H:Hp):Cx:=
 {X with N:=d,k0:=C,Dt:=H,env:=yu scope X.env<|C.heap.objs.size+1,outer:=X.stack,stack:=X.stack,ex:=fp,fn:=λx=>scope.names.lookup x==di .cell,pn:=[],xe:=λ_ _=>False}
structure oe(X:Cx)(scope:hA)(fr:List (Str×Nat)):Prop where
 kind:scope.kind = .function
 nd:(scope.names.map (·.1)).Nodup
 free : ∀p∈scope.names,p.2=AD->X.env.kindOf p.1=di .cell\/X.env.kindOf p.1=di .free
 fr : ∀p∈fr,scope.names.lookup p.1=di .free/\X.N[p.2]? = di p.1
noncomputable def dh(own:List Str)(C:List (Str×Nat))(H:St):St:=own.map (λ_=>dn)++C.map λp=>(H[p.2]?).join
abbrev XO:i5:={cls:= .type "list",data:= .seq #[]}
abbrev dN:i5:={cls:= .type "dict",data:= .dict #[]}
theorem bH{X:Cx}{J:GW}{M:St}{L:Hp}{C:eg}{scope:hA}{own:List Str}{H:List (Str×Nat)}{fp:List dy}(I:Inv X J M L C)(ok:oe X scope H)
 (S : ∀b∈fp,YW X J L b) (Z : ∀b∈fp,∃o,C.heap.get? b=di o) :
 Inv (z6 X scope (own++H.map (·.1)) fp C L) [] (dh own H M) (upd L C.heap.objs.size<|.lst []) {C with heap:=A3 ((C.heap.push XO).push dN) scope.names}:=by
 have P:(C.heap.push XO).objs.size=C.heap.objs.size+1:=AZ ..;have z2:((C.heap.push XO).push dN).objs.size=C.heap.objs.size+2:=by rw[AZ,P]
 have R : ∀n c,(n,c)∈JU X.env.cells scope.names []->(n,AD)∈scope.names/\X.env.cells.lookup n=di c:=λn c h=>(KM h).resolve_left ⋯;have a9 : ∀n c,X.env.cells.lookup n=di c->c<C.heap.objs.size:=λn c h=>by obtain⟨v,q⟩:=I.cell n c h;exact q.lt
 have as : ∀p∈JU X.env.cells scope.names [],p.2<C.heap.objs.size+1+1:=λp O=>by exact Bl<|Bl<|a9 p.1 p.2 (R p.1 p.2 O).2
 have hC:(yu scope X.env<|C.heap.objs.size+1).cells=n6 (C.heap.objs.size+2) scope.names (JU X.env.cells scope.names []):=rfl;have a : ∀x c,(yu scope X.env<|C.heap.objs.size+1).cells.lookup x=di c->((x,AD)∈scope.names/\X.env.cells.lookup x=di c)\/(C.heap.objs.size+2<=c/\(x,Cb)∈scope.names):=λx c h=>by
  rcases qI (mem_of_lookup h)with h | h
  ·exact .inl<|R x c h
  ·exact .inr h
 have B : ∀x,(x,AD)∈scope.names->∃c,X.env.cells.lookup x=di c/\(yu scope X.env<|C.heap.objs.size+1).cells.lookup x=di c:=λx Y=>by
  obtain⟨c,U⟩:=I.ok.has x<|ok.free (x,.free) Y rfl;have t:((JU X.env.cells scope.names []).lookup x).isSome=dk:=vY<|.inr ⟨Y,by rw[U];rfl⟩;have l:=CD scope.names (C.heap.objs.size+2) (JU X.env.cells scope.names [])<|.inr t;obtain⟨K,E⟩:=Cz.mp l;refine⟨c,U,?_⟩;rcases a x K E with⟨_,q⟩ | ⟨_,q⟩
  ·rw[U]at q;cases q;exact E
  ·exact absurd ((kG ok.nd q).symm.trans (kG ok.nd Y)) ⋯
 have f : ∀b o,C.heap.get? b=di o->(A3 ((C.heap.push XO).push dN) scope.names).get? b=di o:=λb o e=>
  Er _ _ b o (Ae _<|Ae _ e)
 have ag : ∀b∈fp,b<C.heap.objs.size:=λb d=>by obtain⟨o,e⟩:=Z b d;exact Aq e
 have fresh:L C.heap.objs.size=dn:=I.e4.fresh<|Al _;have F : ∀c,C.heap.objs.size<c->(upd L C.heap.objs.size<|.lst []) c=dn:=λc U=>by rw[zK (BZ U)];exact I.e4.fresh<|EL U
 obtain⟨m0,T⟩ : ∃m,(A3 ((C.heap.push XO).push dN) scope.names).Ns (C.heap.objs.size+1) m:=by have q:=(Heap.Ns.new (C.heap.push XO) (.type "dict")).keeps (λb o e=>Er scope.names _ b o e);rw[P]at q;exact⟨_,q⟩
 refine⟨⟨I.ok.mod,ok.kind,I.ok.glob,I.ok.blt,Nat.le_succ _,λx y c t l=>?_,λx Y=>?_,λx c hf h=>?_,I.ok.hd,I.ok.frames,.inl rfl,λb d=>⟨?_,λx c h z=>?_⟩,λb o e=>I.bs b o e,?_,λb o e d=>?_,λb d hs=>?_,I.stack,I.Hr⟩,
  rfl,I.bare,Un.laid f (Al _) fresh,⟨m0,T,λi x v N Q e3=>?_⟩,λx c h=>?_,?_,λx c h=>?_,λp O=>?_,?_,?_⟩
 ·have q:=xM (names:=scope.names) (k:=C.heap.objs.size+2) (acc:=JU X.env.cells scope.names []) (λp O q hq e=>I.ok.inj p.1 q.1 p.2 (R _ _ O).2 (by rw[e];exact(R _ _ hq).2)) as
  exact q (x,c) (mem_of_lookup t) (y,c) (mem_of_lookup l) rfl
 ·have g:(rr scope X.env).names.lookup x=di .cell\/(rr scope X.env).names.lookup x=di .free:=Y
  have:scope.names.lookup x=di .cell\/scope.names.lookup x=di .free:=by
   rw[kR]at g;cases e:scope.names.lookup x with
   | none=>rw[e]at g;simp at g
   | some k=>
    rw[e]at g;cases k<;>simp at g ⊢
  rcases this with h | h
  ·exact Cz.mp<|CD scope.names _ _<|.inl h
  ·obtain⟨c,_,l⟩:=B x<|mem_of_lookup h;exact⟨c,l⟩
 ·have W:(scope.names.lookup x==di .cell)=dk:=hf
  have b9:scope.names.lookup x=di .cell:=by simpa using W
  rcases a x c h with⟨q,_⟩ | ⟨q,_⟩
  ·exact absurd ((kG ok.nd q).symm.trans b9) ⋯
  ·exact Bq (Bj _ 2) q
 ·exact AQ<|Bl<|ag b d
 ·rcases a x c h with⟨_,q⟩ | ⟨q,_⟩
  ·exact(S b d).2.2.2.2.1 x c q z
  ·exact absurd (Aw (ag b d)<|Bq (Bj _ 2)<|z ▸ q)<|Bn _
 ·exact Bq I.ok.z4 I.sz
 ·rcases (S b d).2.2.2.1 with q | q
  ·exact I.ok.DJ b o e q
  ·exact absurd (Aw (Aq e)<|Bq I.ok.z4 q)<|Bn _
 ·rcases Ao.mp (I.Gg b hs)with q | q
  ·exact(S b d).2.1 q
  ·exact(S b d).2.2.1 q
 ·have hi:i<(own++H.map (·.1)).length:=(Az.mp N).1
  by_cases s:i<own.length
  ·unfold dh at Q
   rw[Bk (by simpa using s)]at Q;simp[AM,s]at Q
  ·have hj : ∃p,H[i - own.length]? = di p/\p.1=x/\(M[p.2]?).join=di v:=by
    unfold dh at Q;have j:(own++H.map (·.1))[i]? = di x:=N;rw[AX ⋯,AM]at j;rw[AX (by simpa using s),AM,Ay]at Q;cases q:H[i - own.length]? with
    | none=>rw[q]at j;cases j
    | some p=>
     rw[q]at j Q;exact⟨p,rfl,by simpa using j,by simpa using Q⟩
   obtain⟨p,O,bd,r⟩:=hj;obtain⟨g1,g2⟩:=ok.fr p<|Eb O;rw[bd]at g1 g2;have w:M[p.2]? = di (di v):=by
    cases q:M[p.2]? with
    | none=>rw[q]at r;cases r
    | some o=>rw[q]at r;simpa using r
   have G:=ok.free (x,.free) (mem_of_lookup g1) rfl;obtain⟨m,hn,hl⟩:=I.loc;obtain⟨u,ru,lk⟩:=hl p.2 x v g2 w (by rcases G with k | k;exact .inr<|.inl k;exact .inr<|.inr k);refine⟨u,ru,.inr ?_⟩;obtain⟨c,bl,bm⟩:=B x<|mem_of_lookup g1;have bn:C.heap.IsCell c (di u):=by
    rcases lk with⟨k,_⟩ | ⟨_,K,e,z⟩
    ·rcases G with k' | k'<;>rw[k]at k'<;>cases k'
    ·rw[bl]at e;cases e;exact z
   refine⟨?_,c,bm,bn.keeps f⟩;show(rr scope X.env).names.lookup x=di .cell\/(rr scope X.env).names.lookup x=di .free;rw[kR,g1];dsimp only[EE];split
   ·exact .inl rfl
   ·exact .inr rfl
 ·rcases qI (mem_of_lookup h)with q | q
  ·obtain⟨v,A⟩:=I.cell x c (R x c q).2
   exact⟨v,A.keeps f⟩
  ·have q2:=mem_of_lookup h
   have q3:(x,c)∈n6 ((C.heap.push XO).push dN).objs.size scope.names (JU X.env.cells scope.names []):=by rw[z2];exact q2
   rcases wz q3 with q4 | q4
   ·obtain⟨v,A⟩:=I.cell x c (R x c q4).2
    exact⟨v,A.keeps f⟩
   ·exact⟨dn,q4⟩
 ·exact F _<|BH _
 ·rcases a x c h with⟨_,q⟩ | ⟨q,_⟩
  ·rw[zK (AQ<|a9 x c q)];exact I.tr x c q
  ·exact F c<|Aw (Bl<|BH _) q
 ·exact absurd (show p∈([]:GW)from O) ⋯
 ·refine I.e4.laid f (Al _) ⟨BB _,[],0,.nil,?_⟩
  exact Er _ _ _ _<|Ae _<|AA _ rfl
 ·show(dh own H M).length=(own++H.map (·.1)).length
  simp[dh]
theorem kN(I:Nat->eg->Prop)
 (C : ∀n s,I n s->wpAny (el prog w) A (Di it) (λr d=>match r with
   | none=>R (.ok .next) d
   | some v=>wpAny (el prog w) A (E2 target it v) (λ_ d=>wpAny (el prog w) A (s8 target env v) (λ_ O=>
    wpAny (el prog w) A (forIn ifs dk λc r=>if r=dk then do let ok <- B6 c env (ej c env);pure (Ey ok)else pure (Ey r)) (λok z=>
     if ok=dk then wpAny (el prog w) A (ej elt env) (λx Q=>
      wpAny (el prog w) A (call (.builtin "list.append") [acc,x]) (λ_ U=>∃m,m<n/\I m U) (λ_ _=>False) Q) (λ_ _=>False) z
     else ∃m,m<n/\I m z) (λ_ _=>False) O) (λ_ _=>False) d) (λ_ _=>False) d) (λ_ _=>False) s)
 (n:Nat) (h:I n s) :
 codeAny (el prog w) A (.compLoop (.ListComp elt [⟨target,iter,ifs,0⟩] scope pos) 0 it acc env) R s:=by
 refine codeAny_loop rfl I (λn s j=>?_) n h;show wpAny _ A ((compTurn (.ListComp elt [⟨target,iter,ifs,0⟩] scope pos) 0 it acc env).onRaise (λx=>do noteFrame x env;theTreesLotGoes x)) _ _ s;refine wpAny_noted ?_;rw[compTurn_list];refine Ac<|wpAny_standAt<|Ac<|Ck (C n s j) (λr d Y=>?_) λ_ _ a=>a.elim;cases r with
 | none=>exact Am Y
 | some v=>
  refine Ac<|Ck Y (λ_ l i=>?_) λ_ _ a=>a.elim;refine Ac<|Ck i (λ_ O e=>Ac<|Ck e (λok z b=>?_) λ_ _ a=>a.elim) λ_ _ a=>a.elim;cases ok with
  | false=>exact Am ⟨rfl,b⟩
  | true=>
   exact Ac<|Ac<|Ck b (λx Q f=>Ac<|Ck f (λ_ U g=>Am<|Am ⟨rfl,g⟩) λ_ _ a=>a.elim) λ_ _ a=>a.elim
noncomputable def ib(X:Cx)(C:List d3)(t:TT):Prop:=
 ∀(a:GW) (s:eg) (b:St) (H:Hp) (Q:Bool->Hp->Prop),Inv X a b H s->t b H Q->
  wpAny (el X.prog X.w) X.A (forIn C dk λc r=>if r=dk then do let ok <- B6 c X.env (ej c X.env);pure (Ey ok)else pure (Ey r)) (TP X a b Q) X.xe s
def oF:TT:=λ_ H Q=>Q dk H
theorem KF:ib X [] oF:=λ_ _ _ H _ I h=>wpAny_tests_nil ⟨H,I,h⟩
theorem KD(h:PT X c t):ib X [c] t:=λa s b H Q I d=>wpAny_tests_one<|h a s b H Q I d
noncomputable def CW(J:It)(g:TG)(L:TT)(C:TE)(D:dy)(Q:VK)(W:Nat->Nat->List V->St->Hp->Prop):Prop:=
 ∀i m a h H,W i m a h H->H D=di (.lst a)/\((J.stop i H/\Q (.ref D) H)\/(J.go i H/\a.length<eG/\∀x f,J.sd i H x f->g x h f λd j=>L d j λb z=>
  if b=dk then C d z λv I=>I D=di (.lst a)/\∃e,e<m/\W (i+1) e (a++[v]) d (upd I D<|.lst<|a++[v])else ∃e,e<m/\W (i+1) e a d z))
noncomputable def cI(X:Cx)(C:GW)(H:Hp)(L:dy):Prop:=
 H L=dn/\L≠X.env.locals/\X.k0.heap.objs.size<=L/\(∀x c,X.env.cells.lookup x=di c->c≠L)/\∀p∈X.pn++C,p.1≠L
theorem cC
 (hc:X.calm=dk) (I:Inv X pins σ H2 s2) (ok:oe X scope fr) (T:Turn X.prog X.w X.K tg J fp it tn) (st:tn 0 s2.heap) (U : ∀b∈fp,YW X pins H2 b)
 (hg:PG (z6 X scope (own++fr.map (·.1)) fp s2 H2) tg g) (ht:ib (z6 X scope (own++fr.map (·.1)) fp s2 H2) ifs tt) (he:PE (z6 X scope (own++fr.map (·.1)) fp s2 H2) elt te)
 (hW : ∀D,H2 D=dn->∃W:Nat->Nat->List V->St->Hp->Prop,(∃m,W 0 m [] (dh own fr σ) (upd H2 D<|.lst []))/\CW J g tt te D Q W) :
 wpAny (el X.prog X.w) X.A (Hk []) (λacc L=>wpAny (el X.prog X.w) X.A (Hj scope X.env.globals (JU X.env.cells scope.names []) [] X.env.qual dn .none (di X.env)) (λa9 M=>
  codeAny (el X.prog X.w) X.A (.compStart (.ListComp elt [⟨tg,iter,ifs,0⟩] scope pos) 0 (.ref it) acc {a9 with scope:=rr scope X.env})
   (λr H=>(∃f,r = .ok f)/\∃D C,acc = .ref D/\Inv X pins σ C H/\Q (.ref D) C/\(∃m,H.heap.Ns a9.locals m)/\cI X pins C a9.locals) M) E L) E s2:=by
 have b0 : ∀b∈fp,∃o,s2.heap.get? b=di o:=λb O=>by obtain⟨o,e,_⟩:=T.obj 0 _ st b O;exact⟨o,e⟩
 have S:=bH (own:=own) I ok U b0;obtain⟨W,⟨m0,w0⟩,cw⟩:=hW _ I.fresh;refine BM<|xn ?_;have z1:(s2.heap.push XO).objs.size=s2.heap.objs.size+1:=AZ ..;show codeAny _ _ (.compStart _ 0 (.ref it) (.ref s2.heap.objs.size) {scope:=rr scope X.env,locals:=(s2.heap.push XO).objs.size,globals:=X.env.globals,cells:=n6 ((s2.heap.push XO).objs.size+1) scope.names<|JU X.env.cells scope.names [],qual:=X.env.qual,func:=dn,code:=X.env.code,frame:=X.env.frame,builtins:=X.env.builtins})
  (λr H=>(∃f,r = .ok f)/\∃D C,BL s2.heap.objs.size = .ref D/\Inv X pins σ C H/\Q (.ref D) C/\(∃m,H.heap.Ns (s2.heap.push XO).objs.size m)/\cI X pins C (s2.heap.push XO).objs.size) {s2 with heap:=A3 ((s2.heap.push XO).push dN) scope.names}
 rw[z1];have b5:tn 0 (A3 ((s2.heap.push XO).push dN) scope.names):=T.keep 0 _ _ st λb _ o e=>Er _ _ b o<|Ae _<|Ae _ e;have c6 : ∀b∈fp,b<s2.heap.objs.size:=λb O=>by obtain⟨o,e⟩:=b0 b O;exact Aq e
 have aa : ∀{C:Hp},(∀b∈fp,C b=dn)->∀b∈fp,YW (z6 X scope (own++fr.map (·.1)) fp s2 H2) [] C b:=λhn b O=>
  ⟨hn b O,(S.ok.D6 b O).1,S.ok.DG b O,.inl O,(S.ok.D6 b O).2,λp hp=>absurd (show p∈([]:GW)from hp) ⋯⟩
 have b6:codeAny (el X.prog X.w) X.A (.compLoop (.ListComp elt [⟨tg,iter,ifs,0⟩] scope pos) 0 (.ref it) (.ref s2.heap.objs.size)<|yu scope X.env<|s2.heap.objs.size+1)
  (λr H=>(∃f,r = .ok f)/\∃D C,BL s2.heap.objs.size = .ref D/\Inv X pins σ C H/\Q (.ref D) C/\(∃m,H.heap.Ns (s2.heap.objs.size+1) m)/\cI X pins C (s2.heap.objs.size+1)) {s2 with heap:=A3 ((s2.heap.push XO).push dN) scope.names}:=by
  refine kN (λn H=>∃i y B C,Inv (z6 X scope (own++fr.map (·.1)) fp s2 H2) [] B C H/\tn i H.heap/\(∀b∈fp,C b=dn)/\W i n y B C) ?_ m0
   ⟨0,[],_,_,S,b5,λb O=>by rw[zK (AQ<|c6 b O)];exact(U b O).1,w0⟩
  rintro n s3 ⟨i,y,a,N,I3,s,b9,w3⟩;obtain⟨hD,c8⟩:=cw i n y a N w3;rcases c8 with⟨t,qn⟩ | ⟨go,hz,step⟩
  ·refine en (T.done (z6 X scope (own++fr.map (·.1)) fp s2 H2) rfl rfl rfl hc i [] s3 a N _ I3 (aa b9) s t) λr s4 R=>?_
   obtain⟨hr,Y⟩:=R;subst hr;refine⟨⟨_,rfl⟩,_,N,rfl,I.H9 (ch:=fp) Y.os Y.base Y.e4 Y.bare<|λb O=>⟨(U b O).2.2.2.1,(U b O).2.1,(U b O).2.2.2.2.1,(U b O).2.2.2.2.2⟩,qn,?_,Y.free,?_,?_,?_,?_⟩
   ·obtain⟨m,hn,_⟩:=Y.loc
    exact⟨m,hn⟩
   ·exact BZ<|Bl I.lt
   ·exact Nat.le_succ_of_le I.sz
   ·intro x c e z
    obtain⟨v,q⟩:=I.cell x c e;exact absurd (Bl q.lt) (by rw[z];exact Bn _)
   ·intro p hp z
    exact absurd (Bl<|Aq (I.pin p hp).1) (by rw[z];exact Bn _)
  ·refine en (T.item (z6 X scope (own++fr.map (·.1)) fp s2 H2) rfl rfl rfl hc i [] s3 a N _ I3 (aa b9) s go) λr s4 R=>?_
   obtain⟨u,hr,h4⟩:=R;subst hr;refine en h4 λ_ s5 R=>?_;obtain⟨x,H5,I5,r5,y5,am,cl⟩:=R;have cm:=I5.pinned (aa cl)<|T.obj _ _ am;refine en (hg _ s5 a H5 x u _ cm r5<|step x H5 y5) λ_ s6 R=>?_;obtain⟨h,H6,I6,q6⟩:=R;refine en (ht _ s6 h H6 _ I6 q6) λb s7 R=>?_;obtain⟨H7,Z,q7⟩:=R;have after : ∀{G:St} {P:Hp} {l:eg},Inv (z6 X scope (own++fr.map (·.1)) fp s2 H2) ([]++QF fp s5.heap) G P l->tn (i+1) l.heap/\∀b∈fp,P b=dn:=λ{G P l} j=>by refine⟨T.keep _ _ _ am λb O o e=>(j.pin (b,o)<|Bg _<|Bg _<|kF O e).1,λb O=>?_⟩;obtain⟨o,e,d⟩:=T.obj _ _ am b O;exact(j.pin (b,o)<|Bg _<|Bg _<|kF O e).2.1
   cases b with
   | false=>
    rw[MQ AB]at q7 ⊢;obtain⟨m',hm,w7⟩:=q7;exact⟨m',hm,i+1,y,h,H7,Z.DR,(after Z).1,(after Z).2,w7⟩
   | true=>
    rw[GY rfl]at q7 ⊢;refine en (he _ s7 h H7 _ Z q7) λv8 l R=>?_;obtain⟨x8,P,j,r8,bi,m',hm,w8⟩:=R;obtain⟨z8,bl,n8,rv,d6,e8⟩:=j.DH bi;refine Ea F.slot_list_append ⟨_,e8,rfl⟩ F.entry_list_append (F.args_list_append_2 _ _) (PySem.list_append _ bl.toArray n8 v8<|by rw[Aj];omega) ⟨e8,?_⟩;have I9:=j.E3 (its':=bl++[v8]) (f:=(·.push v8)) (t':=l.toks) bi e8 ⋯ (rv.append<|.cons r8 .nil) (by rw[m5,BY];omega);exact⟨m',hm,i+1,y++[x8],h,_,I9.DR,(after I9).1,(after I9).2,w8⟩
 exact codeAny_compStart_list b6<|T.self _ 0 _ _ _ b5 b6
noncomputable def av(M:TI)(own:List Str)(C:List (Str×Nat))(g:TG)(L:TT)(I:TE):TE:=λb H Q=>M b H λJ a=>∀D,a D=dn->
 ∃W:Nat->Nat->List V->St->Hp->Prop,(∃m,W 0 m [] (dh own C b) (upd a D<|.lst []))/\CW J g L I D Q W
section
variable{X:Cx}{scope:hA}{own:List Str}{fr:List (Str×Nat)}{elt tg iter:d3}{ifs:List d3}{pos:e6}{wi:TI}{g:TG}{tt:TT}{te:TE}
theorem K4
 (z:X.calm=dk) (ok:oe X scope fr) (hi:PI X tg iter wi) (O : ∀fp M C,PG (z6 X scope (own++fr.map (·.1)) fp M C) tg g)
 (U : ∀fp M C,ib (z6 X scope (own++fr.map (·.1)) fp M C) ifs tt) (he : ∀fp M C,PE (z6 X scope (own++fr.map (·.1)) fp M C) elt te)
 (I:Inv X pins σ H s) (h:av wi own fr g tt te σ H Q)
 (Y : ∀D S Z L,Inv X pins σ S Z->Q (.ref D) S->(∃m,Z.heap.Ns L m)->cI X pins S L->
   compPost (el X.prog X.w) X.A X.xe use R (.ref D) L (.ok .next) Z)
 (hs : ∀x,nf iter X.env x=pure x:=by intro _;rfl) :
 wpAny (el X.prog X.w) X.A (comprehension (.ListComp elt [⟨tg,iter,ifs,0⟩] scope pos) scope X.env (firstIterPos [⟨tg,iter,ifs,0⟩] pos) (Hk []) dt (ej iter X.env) use) R X.xe s:=by
 refine wpAny_comprehension_free rfl hs (JK λn d=>I.ok.has n<|ok.free (n,.free) d rfl) ok.kind (λx K e=>by rw[<- e];exact kG ok.nd<|show(x.1,x.2)∈scope.names from K) ?_;refine en (hi pins s σ H _ I h) λv s1 o=>en o λP M p=>?_;obtain⟨W,fp,tn,J,C,e,b,T,i,f2,F⟩:=p;subst e;refine en (cC (own:=own) (Q:=Q) (E:=X.xe) z b ok T i f2 (O fp M C) (U fp M C) (he fp M C) F) λacc s3 t=>en t λj s4 u=>FA u λr Z B=>?_;obtain⟨⟨f,G⟩,D,S,l,a,q,d,y⟩:=B;subst G;subst l;have N:=Y D S Z j.locals a q d y;cases use<;>exact N
theorem XE(d:X.calm=dk)(ok:oe X scope fr)(S:PI X tg iter wi)(z : ∀fp J C,PG (z6 X scope (own++fr.map (·.1)) fp J C) tg g)
 (O : ∀fp J C,ib (z6 X scope (own++fr.map (·.1)) fp J C) ifs tt) (M : ∀fp J C,PE (z6 X scope (own++fr.map (·.1)) fp J C) elt te)
 (R : ∀x,nf iter X.env x=pure x:=by intro _;rfl) :
 PE X (.ListComp elt [⟨tg,iter,ifs,0⟩] scope pos) (av wi own fr g tt te):=by
 intro a s B H Q I h;rw[eval_ListComp];refine K4 (use:=dn) d ok S z O M I h (λD f l L U q Y y=>?_) R;obtain⟨m,j⟩:=Y;obtain⟨p,r,t,u,w⟩:=y;refine⟨m,j,λA n=>⟨.ref D,f,U.turned (t':=l.toks) (it:=L) (λb o i e=>n.extBut b o i e) p r (.inr t) u w,rfl,q⟩⟩
theorem Zu(z:X.N.Nodup)(O:X.N[i]? = di y)(Q:Loc X.env.scope y)(U:X.fn y=dk\/X.env.scope.names.lookup y=di .local)
 (Y:X.calm=dk) (ok:oe X scope fr) (Z:PI X tg iter wi) (S : ∀fp J C,PG (z6 X scope (own++fr.map (·.1)) fp J C) tg g)
 (ht : ∀fp J C,ib (z6 X scope (own++fr.map (·.1)) fp J C) ifs tt) (M : ∀fp J C,PE (z6 X scope (own++fr.map (·.1)) fp J C) elt te)
 (hs : ∀x,nf iter X.env x=pure x:=by intro _;rfl) :
 PS X (.Assign [.Name y py] (.ListComp elt [⟨tg,iter,ifs,0⟩] scope pos) spos) (Xx (av wi own fr g tt te)<|xN i):=by
 have d : ∃b:Bool,p8 (.ListComp elt [⟨tg,iter,ifs,0⟩] scope pos) (di (.Name y py)) spos.line X.env=pure b:=⟨_,rfl⟩;obtain⟨b,d⟩:=d;cases b with
 | false=>
  have B:Gh [.Name y py] (.ListComp elt [⟨tg,iter,ifs,0⟩] scope pos) spos.line X.env=p8 (.ListComp elt [⟨tg,iter,ifs,0⟩] scope pos) (di (.Name y py)) spos.line X.env:=rfl;exact VH (XE Y ok Z S ht M hs) (VQ z O Q U) (by rw[B];exact d)
 | true=>
  intro f s σ H D I h;rw[exec_Assign_Name_used _ _ _ _ d];refine Ac<|wpAny_standAt<|Ac ?_;show wpAny _ X.A (do let _ <- comprehension (.ListComp elt [⟨tg,iter,ifs,0⟩] scope pos) scope X.env _ (Hk []) dt (ej iter X.env) (di (s8 (.Name y py) X.env))) _ _ s;refine Ac<|en (K4 (R:=λ_ j=>SP X f D .next j) (use:=di (s8 (.Name y py) X.env)) Y ok Z S ht M I h (λl H' j L p q G yg=>?_) hs) λ_ j q=>Am<|Am q;obtain⟨P,n,T,y4,W⟩:=yg;obtain⟨m,F⟩:=G;show wpAny _ _ (s8 (.Name y py) X.env<|.ref l) _ _ _;refine IJ<|J3 p z O Q (v:= .ref l) rfl (λr t u=>?_) U;obtain⟨a,K,E⟩:=u;have w:L≠a:=by
   rcases E with e | e
   ·rw[e];exact n
   ·exact Br<|y4 _ _ e
  refine⟨m,F.sameBut K w,λh' as=>⟨_,_,t.turned (t':=r.toks) (it:=L) (λb o d e=>as.extBut b o d e) P n (.inr T) y4 W,q⟩⟩
end
inductive Sk where
 | L | T
 deriving DecidableEq
end L2
namespace DL
open PySem L2
inductive D where
 | f7 | bl (b:Bool) | int (i:Int) | str (x:Str) | tup (xs:List D) | lst (xs:List D)
 | h7 (ks vs:List D)
 | ih (ks:List (List Int)) (vs:List D)
inductive Cell where
 | no | val (d:D) | own (ds:List D) | nest (rows:List (List D))
abbrev Ctx:=List Cell
abbrev CO (a : Type) := Ctx -> Option a
def lim:Nat:=2500
noncomputable def jf:D->Option (Sk×List D)
 | .tup a=>di (.T,a)
 | .lst a=>di (.L,a)
 | _=>dn
def zq(f:CO D)(γ:Ctx):Option (Sk×List D):=(f γ).bind jf
def jF(f:CO (List D))(γ:Ctx):Option D:=(f γ).map D.lst
noncomputable def zX(f:CO (List D))(γ:Ctx):Option (Sk×List D):=(f γ).map λa=>(Sk.L,a)
def WL:Option Cell->Option D
 | some (.val d)=>di d
 | _=>dn
noncomputable def yQ:Option Cell->Option (Sk×List D)
 | some (.val d)=>jf d
 | some (.own ds)=>di (.L,ds)
 | _=>dn
def zd(i:Nat)(γ:Ctx):Option D:=WL γ[i]?
def zf(i:Nat)(γ:Ctx):Option (Sk×List D):=yQ γ[i]?
noncomputable def zt(d:D):CO D:=λ_=>di d
noncomputable def zy(F:D->D->Option D)(C H:CO D)(γ:Ctx):Option D:=(C γ).bind λx=>(H γ).bind λy=>F x y
def p3:D->Option Bool
 | .bl b=>di b
 | _=>dn
def i4:D->Option Int
 | .int i=>di i
 | _=>dn
def sB(f:CO D)(γ:Ctx):Option Bool:=(f γ).bind p3
noncomputable def aF(f g:CO Bool)(γ:Ctx):Option Bool:=(f γ).bind λb=>if b=dk then g γ else di dt
noncomputable def oT(f g:CO Bool)(γ:Ctx):Option Bool:=(f γ).bind λb=>if b=dk then di dk else g γ
def xF(f:CO Bool)(γ:Ctx):Option Bool:=(f γ).map λb=> !b
noncomputable def cP(f g:CO D)(γ:Ctx):Option D:=((f γ).bind p3).bind λb=>if b=dk then g γ else di (.bl dt)
noncomputable def Dk(f g:CO D)(γ:Ctx):Option D:=((f γ).bind p3).bind λb=>if b=dk then di (.bl dk)else g γ
noncomputable def nu(f:CO D)(γ:Ctx):Option D:=((f γ).bind p3).map λb=> .bl (!b)
noncomputable def Ym(c:CO Bool)(f g:CO D)(γ:Ctx):Option D:=(c γ).bind λb=>if b=dk then f γ else g γ
def zJ:CO (List D):=λ_=>di []
noncomputable def zc(f:CO D)(g:CO (List D))(γ:Ctx):Option (List D):=(f γ).bind λx=>(g γ).map λr=>x::r
noncomputable def kP(f:CO (List D))(γ:Ctx):Option D:=(f γ).bind λa=>if a.length<=lim then di (.tup a)else dn
noncomputable def ql(f:CO (List D))(γ:Ctx):Option (List D):=(f γ).bind λa=>if a.length<=lim then di a else dn
inductive Res where
 | val (d:D) | own (ds:List D)
inductive Fl where
 | next (γ:Ctx) | brk (γ:Ctx) | cont (γ:Ctx) | ret (r:Res)
def q8(γ:Ctx):Option Fl:=di (.next γ)
noncomputable def zD(F G:CO Fl):CO Fl:=λb=>(F b).bind λd=>match d with
 | .next a=>G a
 | f=>di f
noncomputable def xo(f:CO D)(γ:Ctx):Option Fl:=(f γ).map λd=> .ret (.val d)
noncomputable def wN(f:CO (List D))(γ:Ctx):Option Fl:=(f γ).map λd=> .ret (.own d)
noncomputable def X8:Option Cell->Option Fl
 | some (.val d)=>di (.ret<|.val d)
 | some (.own ds)=>di (.ret<|.own ds)
 | _=>dn
def wM(i:Nat)(γ:Ctx):Option Fl:=X8 γ[i]?
def uT(γ:Ctx):Option Fl:=di (.brk γ)
def eR(γ:Ctx):Option Fl:=di (.cont γ)
def vF:CO Fl:=λ_=>dn
noncomputable def js(k:CO Bool)(F G:CO Fl)(γ:Ctx):Option Fl:=(k γ).bind λb=>if b=dk then F γ else G γ
noncomputable def jq(i:Nat)(f:CO D)(γ:Ctx):Option Fl:=(f γ).map λd=> .next (γ.set i<|.val d)
noncomputable def xA(i:Nat)(f:CO (List D))(γ:Ctx):Option Fl:=(f γ).map λa=> .next (γ.set i<|.own a)
def eP(f:CO D)(γ:Ctx):Option Fl:=(f γ).map λ_=> .next γ
noncomputable def jV:Option Cell->Option (List D)
 | some (.own ds)=>di ds
 | _=>dn
noncomputable def qC(i:Nat)(f:CO D)(γ:Ctx):Option Fl:=(jV γ[i]?).bind λa=>(f γ).bind λd=>if a.length<lim then di (.next<|γ.set i<|.own<|a++[d])else dn
noncomputable def jD(n:Nat)(C:List D):Ctx:=C.map Cell.val++Ag (n - C.length) Cell.no
noncomputable def jh(n:Nat)(F:CO Fl)(ds:List D):Option Res:=(F<|jD n ds).bind λd=>match d with
 | .ret r=>di r
 | .next _=>di (.val .f7)
 | _=>dn
def nz:Res->D
 | .val d=>d
 | .own a=> .lst a
noncomputable def zG(F:List D->Option Res)(g:CO (List D))(γ:Ctx):Option D:=(g γ).bind λa=>(F a).map nz
def oY:Res->Option (List D)
 | .own a=>di a
 | _=>dn
noncomputable def jg(F:List D->Option Res)(g:CO (List D))(γ:Ctx):Option (List D):=(g γ).bind λa=>(F a).bind oY
noncomputable def yd(lo:Int)(n:Nat):List D:=(Ad n).map λ(i:Nat)=>D.int<|lo+(i:Int)
noncomputable def Yb(C H:List D):List D:=(C.zip H).map λp=>D.tup [p.1,p.2]
noncomputable def zB(f:CO (Sk×List D))(γ:Ctx):Option (List D):=(f γ).map (·.2)
def inR(i:Int):Bool:=decide<|i.natAbs<2 ^ 62
noncomputable def zC(f:CO D)(γ:Ctx):Option (List D):=((f γ).bind i4).bind λn=>if inR n=dk then di (yd 0 n.toNat)else dn
noncomputable def Xy(f g:CO D)(γ:Ctx):Option (List D):=((f γ).bind i4).bind λm=>((g γ).bind i4).bind λn=>if inR m=dk/\inR n=dk then di (yd m (n - m).toNat)else dn
noncomputable def cN(f g:CO D)(γ:Ctx):Option (List D):=((f γ).bind jf).bind λm=>((g γ).bind jf).map λn=>Yb m.2 n.2
inductive Tg where
 | nm (i:Nat) | tp (is:List Nat)
noncomputable def j6:List Nat->List D->Ctx->Ctx
 | i::is,d::ds,γ=>j6 is ds<|γ.set i<|.val d
 | _,_,γ=>γ
noncomputable def jY:Tg->D->CO Ctx
 | .nm i,d,γ=>di (γ.set i<|.val d)
 | .tp is,.tup ds,γ=>if ds.length=is.length then di (j6 is ds γ)else dn
 | _,_,_=>dn
noncomputable def qf(T:Tg)(F:CO Fl):List D->CO Fl
 | [],a=>di (.next a)
 | d::b,a=>(jY T d a).bind λI=>(F I).bind λO=>match O with
  | .next z=>qf T F b z
  | .cont z=>qf T F b z
  | .brk z=>di (.next z)
  | .ret r=>di (.ret r)
noncomputable def x9(C:CO (List D))(T:Tg)(F:CO Fl)(γ:Ctx):Option Fl:=(C γ).bind λa=>qf T F a γ
def qX:Cell->Cell
 | .own _=> .no
 | .nest _=> .no
 | c=>c
noncomputable def je(n:Nat)(C:List Nat)(γ:Ctx):Ctx:=Ag n Cell.no++C.map λj=>qX<|γ[j]?.getD .no
noncomputable def zL(T:Tg)(k:CO Bool)(f:CO D)(γ:Ctx):List D->Option (List D)
 | []=>di []
 | d::ds=>(jY T d γ).bind λz=>(k z).bind λb=>if b=dk then (f z).bind λe=>(zL T k f γ ds).map λr=>e::r else zL T k f γ ds
noncomputable def zE(C:CO (List D))(T:Tg)(n:Nat)(H:List Nat)(k:CO Bool)(f:CO D)(γ:Ctx):Option (List D):=(C γ).bind λa=>if a.length<=lim then zL T k f (je n H γ) a else dn
def z7:CO Bool:=λ_=>di dk
def Tg.idx:Tg->List Nat
 | .nm i=>[i]
 | .tp is=>is
noncomputable def dI(g:Int->Int->D):D->D->Option D
 | .int i,.int j=>di (g i j)
 | _,_=>dn
noncomputable def DD(c:Int->Int->Bool)(g:Int->Int->D):D->D->Option D
 | .int i,.int j=>if c i j=dk then di (g i j)else dn
 | _,_=>dn
def w5:D->D->Option D:=dI λi j=> .int (i - j)
noncomputable def wI(i j:Int):Bool:=decide (i.natAbs<2 ^ 64) || decide (j.natAbs<2 ^ 64)
noncomputable def mQ(_ j:Int):Bool:=decide (0<j) && decide (j.natAbs<1073741824)
def YL:D->D->Option D:=DD mQ λi j=> .int (i/j)
def nT(_ j:Int):Bool:=decide<|0<j
def xE:D->D->Option D:=DD nT λi j=> .int (i%j)
noncomputable def mP(i j:Int):Bool:=decide (0<=j) && decide (j.natAbs<=1000000) && decide (i.natAbs<2 ^ 64)
def gM:D->D->Option D:=DD mP λi j=> .int (i ^ j.toNat)
def C8:D->D->Option D:=dI λi j=> .bl (decide<|i<j)
def DE:D->D->Option D:=dI λi j=> .bl (decide<|i<=j)
def n2:D->D->Option D:=dI λi j=> .bl (decide<|j<i)
def G6:D->D->Option D:=dI λi j=> .bl (decide<|j<=i)
noncomputable def j4:D->D->Option D
 | .int i,.int j=>di (.int<|i+j)
 | .tup xs,.tup ys=>if xs.length+ys.length<=lim then di (.tup<|xs++ys)else dn
 | _,_=>dn
noncomputable def k9:D->D->Option D
 | .int i,.int j=>if wI i j=dk then di (.int<|i*j)else dn
 | .tup xs,.int j=>if xs.length*j.toNat<=lim/\inR j=dk then di (.tup (Ag j.toNat xs).flatten)else dn
 | _,_=>dn
noncomputable def wQ(f g:CO (Sk×List D))(γ:Ctx):Option (List D):=(f γ).bind λa=>(g γ).bind λb=>
 match a.1,b.1 with
 | .L,.L=>if a.2.length+b.2.length<=lim then di (a.2++b.2)else dn
 | _,_=>dn
noncomputable def oS(f:CO (Sk×List D))(g:CO D)(γ:Ctx):Option (List D):=(f γ).bind λa=>((g γ).bind i4).bind λj=>
 match a.1 with
 | .L=>if a.2.length*j.toNat<=lim/\inR j=dk then di (Ag j.toNat a.2).flatten else dn
 | _=>dn
noncomputable def i3(n:Nat)(i:Int):Option Nat:=if 0<=i/\i<n then di i.toNat else if i<0/\0<=i+n then di (i+n).toNat else dn
noncomputable def dv(f:CO (Sk×List D))(g:CO D)(γ:Ctx):Option D:=(f γ).bind λa=>((g γ).bind i4).bind λi=>(i3 a.2.length i).bind λk=>a.2[k]?
noncomputable def vE(i:Nat)(g f:CO D)(γ:Ctx):Option Fl:=(f γ).bind λd=>(jV γ[i]?).bind λa=>((g γ).bind i4).bind λk=>(i3 a.length k).map λj=> .next (γ.set i<|.own<|a.set j d)
noncomputable def JI(n dflt:Nat):Option Int->Nat
 | none=>dflt
 | some i=>if i<0 then (i+n).toNat else min i.toNat n
noncomputable def wx(xs:List D)(lo C:Option Int):List D:=(xs.drop<|JI xs.length 0 lo).take (JI xs.length xs.length C - JI xs.length 0 lo)
def YY:CO (Option Int):=λ_=>di dn
noncomputable def p7(f:CO D)(γ:Ctx):Option (Option Int):=((f γ).bind i4).map di
noncomputable def Vu(f:CO D)(l h:CO (Option Int))(γ:Ctx):Option D:=(f γ).bind λd=>(l γ).bind λlo=>(h γ).bind λa=>match d with
 | .tup b=>di (.tup<|wx b lo a)
 | _=>dn
noncomputable def yS(f:CO (Sk×List D))(γ:Ctx):Option D:=(f γ).map λa=> .int a.2.length
inductive Ty where
 | int | bool | str | tuple | list
 deriving DecidableEq
@[simp] def dG:D->Bool
 | .int _=>dk
 | .bl _=>dk
 | _=>dt
@[simp] def mC:D->Bool
 | .bl _=>dk
 | _=>dt
@[simp] def dD:D->Bool
 | .str _=>dk
 | _=>dt
@[simp] def dC:D->Bool
 | .tup _=>dk
 | _=>dt
@[simp] def dF:D->Bool
 | .lst _=>dk
 | _=>dt
noncomputable def hX:Ty->D->Bool
 | .int=>dG
 | .bool=>mC
 | .str=>dD
 | .tuple=>dC
 | .list=>dF
noncomputable def xg(T:Ty)(f:CO D)(γ:Ctx):Option D:=(f γ).map λd=> .bl (hX T d)
noncomputable def pJ:Ty->Sk->Bool
 | .tuple,.T=>dk
 | .list,.L=>dk
 | _,_=>dt
noncomputable def uQ(T:Ty)(f:CO (Sk×List D))(γ:Ctx):Option D:=(f γ).map λa=> .bl (pJ T a.1)
@[simp] def Ih:D->Bool
 | .f7=>dk
 | _=>dt
@[simp] noncomputable def eqB(a:Bool):D->Bool
 | .bl b=>a==b
 | .int b=>(if a then 1 else 0)==b
 | _=>dt
@[simp] noncomputable def Ig(a:Int):D->Bool
 | .bl b=>a==(if b then 1 else 0)
 | .int b=>a==b
 | _=>dt
@[simp] def Ii(a:Str):D->Bool
 | .str b=>a==b
 | _=>dt
@[simp] def IT(a:Str)(i:Option Int):D->Bool
 | _=>dt
mutual
def i9:D->D->Bool
 | .f7,y=>Ih y
 | .bl a,y=>eqB a y
 | .int a,y=>Ig a y
 | .str a,y=>Ii a y
 | .tup xs,y=>match y with
  | .tup e=>p5 xs e
  | _=>dt
 | .lst xs,y=>match y with
  | .lst e=>p5 xs e
  | _=>dt
 | .h7 a b,y=>match y with
  | .h7 c d=>p5 a c && p5 b d
  | _=>dt
 | .ih a b,y=>match y with
  | .ih c d=>a==c && p5 b d
  | _=>dt
def p5:List D->List D->Bool
 | [],[]=>dk
 | x::xs,y::ys=>i9 x y && p5 xs ys
 | _,_=>dt
end
mutual
def deep:D->Nat
 | .tup a=>n7 a+1
 | .lst a=>n7 a+1
 | _=>0
def n7:List D->Nat
 | []=>0
 | x::xs=>max (deep x)<|n7 xs
end
mutual
def h9:D->Bool
 | .str x=>x.cps.all (· < 0x110000)
 | .h7 _ _=>dt
 | .ih _ _=>dt
 | .tup a=>n3 a
 | .lst a=>n3 a
 | _=>dk
def n3:List D->Bool
 | []=>dk
 | x::xs=>h9 x && n3 xs
end
def l9(d:D):Bool:=decide (deep d<=20) && h9 d
noncomputable def hI(x y:D):Option D:=if l9 x=dk/\l9 y=dk then di (.bl<|i9 x y)else dn
noncomputable def l6(x y:D):Option D:=if l9 x=dk/\l9 y=dk then di (.bl<|!i9 x y)else dn
noncomputable def zM(f:CO (Sk×List D))(γ:Ctx):Option D:=(f γ).map λa=> .tup a.2
noncomputable def xp(f:CO (Sk×List D))(γ:Ctx):Option (List D):=(f γ).map λa=>a.2
noncomputable def Vi:List D->Option Int
 | []=>di 0
 | .int i::r=>(Vi r).map λs=>i+s
 | _::_=>dn
noncomputable def iF(f:CO (Sk×List D))(γ:Ctx):Option D:=(f γ).bind λa=>(Vi a.2).map D.int
noncomputable def oA:D->Option Bool
 | .f7=>di dt
 | .bl b=>di b
 | .int i=>di (i != 0)
 | _=>dn
noncomputable def Ja:List D->Option (List Bool)
 | []=>di []
 | d::r=>(oA d).bind λb=>(Ja r).map λs=>b::s
noncomputable def eS(f:CO (Sk×List D))(γ:Ctx):Option D:=(f γ).bind λa=>(Ja a.2).map λs=> .bl (s.all id)
noncomputable def oX(f:CO (Sk×List D))(γ:Ctx):Option D:=(f γ).bind λa=>(Ja a.2).map λs=> .bl (s.any id)
noncomputable def kX(f:CO D)(γ:Ctx):Option D:=(f γ).bind λd=>match d with
 | .int i=>di (.int i)
 | .bl b=>di (.int<|if b then 1 else 0)
 | _=>dn
noncomputable def ud(f g:CO D)(γ:Ctx):Option D:=((f γ).bind i4).bind λi=>((g γ).bind i4).map λj=> .int (if j>i then j else i)
noncomputable def eO(f:CO (Sk×List D))(γ:Ctx):Option Bool:=(f γ).map λa=> !a.2.isEmpty
noncomputable def J8(F G:D->D->Option D)(C H I:CO D):CO D:=λa=>(C a).bind λx=>(H a).bind λy=>((F x y).bind p3).bind λb=>if b=dk then (I a).bind λz=>G y z else di (.bl dt)
noncomputable def Vv(T:Tg)(f:CO D)(γ:Ctx):Option Fl:=(f γ).bind λd=>(jY T d γ).map .next
def uA:D->Option Int
 | .tup (.int k::_)=>di k
 | _=>dn
noncomputable def mj:List D->Option (List Int)
 | []=>di []
 | d::r=>(uA d).bind λk=>(mj r).map λl=>k::l
noncomputable def sN:List Int->Bool
 | a::b::r=>decide (a<b) && sN (b::r)
 | _=>dk
noncomputable def uv(C:List Int):Nat:=(C.dropLast.filter λk=>decide<|k<C.getLast?.getD 0).length
noncomputable def uB(q:Nat)(C:List D):List D:=C.dropLast.take q++(C.drop (C.length - 1)++C.dropLast.drop q)
noncomputable def oQ(C:List D):Option (List D):=(mj C).bind λa=>if (1<=C.length/\C.length<=8)/\sN a.dropLast=dk/\decide (a.getLast?.getD 0∈a.dropLast)=dt then di (uB (uv a) C)else dn
noncomputable def oR(f:CO (Sk×List D))(γ:Ctx):Option (List D):=(f γ).bind λa=>match a.1 with
 | .L=>oQ a.2
 | _=>dn
noncomputable def pR:D->Bool
 | .tup _=>dt
 | .lst _=>dt
 | .h7 _ _=>dt
 | .ih _ _=>dt
 | _=>dk
end DL
namespace L2
open PySem PySem.Spec PyProof.Rows
noncomputable def iv(k:Sk)(h:e5)(i l:dy)(n:Nat):Prop:=match k with
 | .L=>h.IsListIter i l n
 | .T=>h.IsTupleIter i l n
noncomputable def l5(k:Sk)(h:e5)(l:dy)(xs:Array dV):Prop:=match k with
 | .L=>h.IsList l xs
 | .T=>h.IsTuple l xs
noncomputable def kv(k:Sk)(l:dy):i5:=match k with
 | .L=>{cls:= .type "list_iterator",data:= .fields #[.ref l,.int 0 0]}
 | .T=>{cls:= .type "tuple_iterator",data:= .fields #[.ref l,.int 0 0]}
theorem iv.at(x:iv k h i l n)(e : ∀o,h.get? i=di o->h'.get? i=di o):iv k h' i l n:=by cases k<;>exact let ⟨o,d,r⟩:=x;⟨o,e _ d,r⟩
theorem l5.at(x:l5 k h l xs)(e : ∀o,h.get? l=di o->h'.get? l=di o):l5 k h' l xs:=by cases k<;>exact let ⟨o,d,r⟩:=x;⟨o,e _ d,r⟩
theorem iv.obj(x:iv k h i l n) : ∃o,h.get? i=di o/\∀v,o.data ≠ .cell v:=by cases k<;>exact let ⟨o,I,_,d⟩:=x;⟨o,I,λv z=>by rw[d]at z;cases z⟩
theorem l5.lt(x:l5 k h l xs):l<h.objs.size:=by cases k<;>exact let ⟨o,d,_⟩:=x;Aq d
theorem ZE(k:Sk)(h:e5)(l:dy):iv k (h.push<|kv k l) h.objs.size l 0:=by cases k<;>exact⟨_,AA _ rfl,rfl,rfl⟩
section
variable{prog:hH}{w:g9}{A:mA}{E:GQ}{s:eg}
theorem QV(d:l5 k s.heap l xs)(z:Q (.ref s.heap.objs.size) {s with heap:=s.heap.push (kv k l)}):wpAny (el prog w) A (E7<|.ref l) Q E s:=by
 cases k
 ·exact IL d z
 ·exact Ez d z
theorem yj(I:iv k s.heap it l i)(O:l5 k s.heap l items)(R:items[i]? = di x)
 (U : ∀h',iv k h' it l (i+1)->CT it s.heap h'->Q x {s with heap:=h'}):wpAny (el prog w) A (AI<|.ref it) Q E s:=by
 cases k with
 | L=>exact wpAny_nextOf_list_item I O R U
 | T=>
  have z:s.heap.IsTupleIter it l i:=I;obtain⟨o,d,Y,a⟩:=id z;obtain⟨g,b,_,f,e⟩:=(show s.heap.IsTuple l items from O);unfold AI;refine Ac (Bu (name:=BN "__next__") z.typeIs Ep (BO Ep z.typeIs Ic ?_ (HW _)));refine Ac (m:=field (.ref it) 0) (Bi d a (x:= .ref l) rfl ?_);show wpAny _ _ (if (BL l==CK)=dk then _ else _) _ _ s;rw[MQ (show ¬((BL l==CK)=dk)from AB)];refine Ac (m:=field (.ref it) 1) (Bi d a (x:= .int i 0) rfl ?_);refine Ac (m:=seqItems? (.ref l)) (BS b e ?_);simp only[BQ,R];refine Ac (wpAny_setField d a ⋯ (Am ⟨x,rfl,Am (U _ ?_ (CT.update ..))⟩));show Heap.IsTupleIter _ it l (i+1);exact⟨_,Heap.get?_update_self _ d (Obj.isFreed_of_fields (Obj.data_mapFields a _)),(Obj.cls_mapFields ..).trans Y,by rw[Obj.data_mapFields a];simp[B9]⟩
theorem Ju(d:A.handled=dn)(O:iv k s.heap it l i)(R:l5 k s.heap l items)(U:items[i]? = dn)
 (Y : ∀h' e,Heap.ExtBut it s.heap h'->(∃o,h'.get? e=di o/\o.cls = .type "StopIteration")->E (.ref e) {s with heap:=h'}):wpAny (el prog w) A (AI (.ref it)) Q E s:=by
 cases k with
 | L=>exact wpAny_nextOf_list_end d O R U Y
 | T=>
  have z:s.heap.IsTupleIter it l i:=O;obtain⟨o,I,h,b⟩:=id z;obtain⟨n,f,_,j,g⟩:=(show s.heap.IsTuple l items from R);unfold AI;refine Ac (Bu (name:=BN "__next__") z.typeIs Ep (BO Ep z.typeIs Ic ?_ (HW _)));refine Ac (m:=field (.ref it) 0) (Bi I b (x:= .ref l) rfl ?_);show wpAny _ _ (if (BL l==CK)=dk then _ else _) _ _ s;rw[MQ (show ¬((BL l==CK)=dk)from AB)];refine Ac (m:=field (.ref it) 1) (Bi I b (x:= .int i 0) rfl ?_);refine Ac (m:=seqItems? (.ref l)) (BS f g ?_);simp only[BQ,U];refine Ac (Fb (Ac (wpAny_setField I b ⋯ ?_)));refine Ac (m:=newExc (.type "StopIteration") []) ?_;simp only[newExc,newTuple];refine Ac (BM ?_ (by size_fits));refine Ac (m:=Ij _ _) (wpAny_of_eq (a:=CK) (by first | rfl | (simp only[Ij];rfl)) ?_);refine BM ?_ (by size_fits);simp only[raiseNew];refine Ac (wpAny_handled ?_)
  first | rw[show A.in1.handled=dn from d] | rw[d]
  exact Ac<|Am<|wpAny_throw<|Y _ _ (((CT.update ..).extBut.push _).push _) ⟨_,AA _ rfl,rfl⟩
theorem YZ{J L:Sk}{z TI TO I O C H:dy}{M S:Nat}{xs ys:Array dV}{x y a b:dV}{Q:GQ}(D:FQ z TI TO I O C H)
 (hz:rb s.heap z TI TO .none) (b9:l3 s.heap TI (.ref I) (.ref O)) (bb:l3 s.heap TO a b)
 (h1:iv J s.heap I C M) (h2:iv L s.heap O H S) (bd:l5 J s.heap C xs) (be:l5 L s.heap H ys) (hx:xs[M]? = di x) (hy:ys[S]? = di y)
 (hQ : ∀h',rb h' z TI TO (B9 s.heap.objs.size)->l3 h' TO x y->iv J h' I C (M+1)->iv L h' O H (S+1)->l3 h' s.heap.objs.size x y->h'.objs.size=s.heap.objs.size+1->
   (∀c o,c≠z->c≠TO->c≠I->c≠O->s.heap.get? c=di o->h'.get? c=di o)->Q (.ref s.heap.objs.size) {s with heap:=h'}) :
 wpAny (el prog w) A (si.«zip.__next__» ⟨[.ref z],[]⟩) (λbm s'=>∃v,bm = .done (.ret v)/\Q v s') E s:=by
 refine Ac (m:=field (.ref z) 2)<|Bi hz rfl (x:= .bool dt) rfl ?_;refine Ac (m:=field (.ref z) 3)<|Bi hz rfl (x:= .ref TI) rfl ?_;refine Ac<|BS b9 rfl ?_;refine Ac (m:=Ba<|.ref z) ?_;unfold Ba;refine Ac<|Bi hz rfl (x:= .none) rfl<|Am ?_;simp only[if_true];refine Ac<|Fb<|Ac<|Bi hz rfl (x:= .ref TO) rfl ?_;refine Ac<|By hz ⋯ λg1 t R=>?_;replace t:rb g1 z TI TO .ellipsis:=t;refine Ac ?_;simp only[List.zipIdx_cons,List.zipIdx_nil,List.forIn_cons,List.forIn_nil];refine Ac<|Ac<|Ft ?_;refine Ac (m:=AI<|.ref I)<|yj (h1.at λo e=>R.extBut _ _ D.i1z e) (bd.at λo e=>R.extBut _ _ D.l1z e) hx λg2 bv Y=>Am ?_;have N:l3 g2 TO a b:=Y.extBut _ _ D.TOi1<|R.extBut _ _ D.TOz bb;refine Ac<|BS N rfl<|Ac<|Ff N λg3 u f=>?_;replace u:l3 g3 TO x b:=u;refine Ac<|wpAny_letGo<|Am<|Ac<|Ac<|Ft ?_;refine Ac (m:=AI<|.ref O)<|yj (h2.at λo e=>f.extBut _ _ D.TOi2.symm<|Y.extBut _ _ D.i12.symm<|R.extBut _ _ D.i2z e) (be.at λo e=>f.extBut _ _ D.l2TO<|Y.extBut _ _ D.l2i1<|R.extBut _ _ D.l2z e) hy λg4 c6 g=>Am ?_;have P:l3 g4 TO x b:=g.extBut _ _ D.TOi2 u;refine Ac<|BS P rfl<|Ac<|Ff P λd l h=>?_;replace l:l3 d TO x y:=l;refine Ac<|wpAny_letGo<|Am<|Am<|Ac<|BS l rfl<|Ac<|wpAny_newTuple ?_;have j:d.objs.size=s.heap.objs.size:=by rw[h.1,g.1,f.1,Y.1,R.1]
 have T:rb d z TI TO .ellipsis:=h.extBut _ _ D.TOz.symm (g.extBut _ _ D.i2z.symm (f.extBut _ _ D.TOz.symm (Y.extBut _ _ D.i1z.symm t)));have c7 : ∀c o,c≠z->c≠TO->c≠I->c≠O->s.heap.get? c=di o->d.get? c=di o:=λc o U p G K e=>h.extBut _ _ p (g.extBut _ _ K (f.extBut _ _ p (Y.extBut _ _ G (R.extBut _ _ U e))));have c8:iv J d I C (M+1):=bv.at λo e=>h.extBut _ _ D.TOi1.symm (g.extBut _ _ D.i12 (f.extBut _ _ D.TOi1.symm e));have c9:iv L d O H (S+1):=c6.at λo e=>h.extBut _ _ D.TOi2.symm e;have W:z<d.objs.size:=Aq T;refine Ac (m:=BJ (.ref z) (.ref d.objs.size)) ?_;unfold BJ;have ca:rb (d.push {cls:= .type "tuple",data:= .seq #[x,y]}) z TI TO .ellipsis:=Ae _ T;refine Ac (By ca ⋯ λg7 B F=>?_);replace B:rb g7 z TI TO (B9 d.objs.size):=B;refine By B ⋯ λi n as=>?_;replace n:rb i z TI TO (B9 d.objs.size):=n;have r : ∀c o,c≠z->d.get? c=di o->i.get? c=di o:=λc o U e=>as.extBut _ _ U (F.extBut _ _ U (Ae _ e));have X:l3 i d.objs.size x y:=as.extBut _ _ (BZ W) (F.extBut _ _ (BZ W) (AA _ rfl));have Z:i.objs.size=d.objs.size+1:=by rw[as.1,F.1,AZ]
 rw[j]at n X Z;refine Am ⟨_,rfl,?_⟩;show Q (.ref d.objs.size) _;rw[j];exact hQ i n (r _ _ D.TOz l) (c8.at λo e=>r _ o D.i1z e) (c9.at λo e=>r _ o D.i2z e) X Z λc o U p G K e=>r c o U<|c7 c o U p G K e
theorem aj{k1 k2:Sk}{z TI TO O Y C H:dy}{J L:Nat}{xs M:Array dV}{a b:dV}{Q:Fin->eg->Prop}(hh:A.handled=dn)(D:FQ z TI TO O Y C H)
 (hz:rb s.heap z TI TO .none) (as:l3 s.heap TI (.ref O) (.ref Y)) (ax:l3 s.heap TO a b)
 (Z:iv k1 s.heap O C J) (h2:iv k2 s.heap Y H L) (S:l5 k1 s.heap C xs) (b0:l5 k2 s.heap H M) (b5:xs[J]? = dn\/M[L]? = dn)
 (hE : ∀h' e,(∀c o,c≠z->c≠TO->c≠O->c≠Y->s.heap.get? c=di o->h'.get? c=di o)->(∃o,h'.get? e=di o/\o.cls = .type "StopIteration")->E (.ref e) {s with heap:=h'}) :
 wpAny (el prog w) A (si.«zip.__next__» ⟨[.ref z],[]⟩) Q E s:=by
 refine Ac (m:=field (.ref z) 2) (Bi hz rfl (x:= .bool dt) rfl ?_);refine Ac (m:=field (.ref z) 3) (Bi hz rfl (x:= .ref TI) rfl ?_);refine Ac (BS as rfl ?_);refine Ac (m:=Ba (.ref z)) ?_;unfold Ba;refine Ac (Bi hz rfl (x:= .none) rfl (Am ?_));simp only[if_true];refine Ac (Fb (Ac (Bi hz rfl (x:= .ref TO) rfl ?_)));refine Ac (By hz ⋯ λg1 n d=>?_);replace n:rb g1 z TI TO .ellipsis:=n;refine Ac ?_;simp only[List.zipIdx_cons,List.zipIdx_nil,List.forIn_cons,List.forIn_nil];refine Ac (Ac (Ft ?_));have u : ∀{g e:_} {j:i5},rb g z TI TO .ellipsis->(∀c o,c≠z->c≠TO->c≠O->c≠Y->s.heap.get? c=di o->g.get? c=di o)->g.get? e=di j->j.cls = .type "StopIteration"->
  wpAny (el prog w) A (Hq (.ref z) 0 .none) (λ_ N=>E (.ref e) N) E {s with heap:=g}:=λ{g e j} y hk R f=>by
  have G:e≠z:=λq=>by subst q;rw[y]at R;cases R;simp at f
  exact By y ⋯ λg3 _ U=>hE g3 e (λc o i p l r q=>U.extBut _ _ i<|hk c o i p l r q) ⟨j,U.extBut _ _ G R,f⟩
 cases hx:xs[J]? with
 | none=>
  refine Ac (m:=AI<|.ref O)<|Ju hh (Z.at λo e=>d.extBut _ _ D.i1z e) (S.at λo e=>d.extBut _ _ D.l1z e) hx λg2 e I t=>?_;obtain⟨j,R,f⟩:=t;exact u (I _ _ D.i1z.symm n) (λc o i _ l _ q=>I _ _ l<|d.extBut _ _ i q) R f
 | some x=>
  have K:M[L]? = dn:=by rcases b5 with h | h;rw[hx]at h;cases h;exact h
  refine Ac (m:=AI<|.ref O)<|yj (Z.at λo e=>d.extBut _ _ D.i1z e) (S.at λo e=>d.extBut _ _ D.l1z e) hx λg2 P I=>Am ?_;have B:l3 g2 TO a b:=I.extBut _ _ D.TOi1<|d.extBut _ _ D.TOz ax;refine Ac<|BS B rfl<|Ac<|Ff B λg3 T U=>?_;refine Ac<|wpAny_letGo<|Am<|Ac<|Ac<|Ft ?_;refine Ac (m:=AI<|.ref Y)<|Ju hh (h2.at λo e=>U.extBut _ _ D.TOi2.symm<|I.extBut _ _ D.i12.symm<|d.extBut _ _ D.i2z e) (b0.at λo e=>U.extBut _ _ D.l2TO<|I.extBut _ _ D.l2i1<|d.extBut _ _ D.l2z e) K λW e F t=>?_;obtain⟨j,R,f⟩:=t;exact u (F _ _ D.i2z.symm<|U.extBut _ _ D.TOz.symm<|I.extBut _ _ D.i1z.symm n) (λc o i p l r q=>F _ _ r<|U.extBut _ _ p<|I.extBut _ _ l<|d.extBut _ _ i q) R f
end
def yL(a b:dV):i5:={cls:= .type "tuple",data:= .seq #[a,b]}
noncomputable def ot(TI TO:dy):i5:={cls:= .type "zip",data:= .fields #[.none,.bool dt,.bool dt,.ref TI,.ref TO]}
noncomputable def wJ(d z:Sk)(h:e5)(I C:dy):e5:=
 Bc (Bc (Bc (Bc (Bc h<|kv d I)<|kv z C)<|yL (.ref h.objs.size)<|.ref<|h.objs.size+1)<|yL .none .none) (ot (h.objs.size+2)<|h.objs.size+3)
theorem ai(I O:Sk)(z C:dy)(xs H:Array dV) :
 C4 (si.«zip.__new__» ⟨[.type "zip",.ref z,.ref C],[]⟩) (λ_ R s=>l5 I s.heap z xs/\l5 O s.heap C H/\
  R (.ok<|.ret<|.ref<|s.heap.objs.size+4) {s with heap:=wJ I O s.heap z C}):=
 .of_wp λa w A R s h=>by
  obtain⟨Q,g,d,U,os⟩:=s;obtain⟨Y,b,h⟩:=h;have j:=sub_zip;have f:l5 I (Shared.heap ⟨Q,g,d,U,os⟩) z xs:=Y;have i:l5 O (Shared.heap ⟨Q.push<|kv I z,g,d,U,os⟩) C H:=b.at λo e=>Ae _ e
  wp_walk using QV f,QV i
  refine⟨_,rfl,?_⟩;simp only[wJ,yL,ot,AZ]at h ⊢;exact h
section
variable{X:Cx}{pins:GW}{σ:St}{H:Hp}{s:eg}{h':e5}
theorem Inv.Gu{t':Nat}{fp:List dy}{a:dy}{o:HO}(I:Inv X pins σ H s)(k : ∀b u,b∉fp->s.heap.get? b=di u->h'.get? b=di u)(Q : ∀b∈fp,YW X pins H b)
 (U:s.heap.objs.size<=a) (new:i1 X.prog X.w (upd H a o) h' a o):Inv X pins σ (upd H a o) {s with heap:=h',toks:=t'}:=by
 have f:H a=dn:=I.e4.fresh U;have Y : ∀b u,H b=di u->b∉fp:=λb u e z=>by rw[(Q b z).1]at e;cases e
 have h : ∀b u,s.heap.get? b=di u->b≠a:=λb u e=>AQ<|Aw (Aq e) U;refine I.step (g':=s.gens) (d':=s.drawn) (ch:=fp) (λb d=>⟨(Q b d).2.2.2.1,(Q b d).2.1,(Q b d).2.2.2.2.1,(Q b d).2.2.2.2.2⟩) (λb u _ _ O e _=>k b u O e) (λb u _ _ O e _=>⟨u.slots,k b u O e⟩)
  (λb u _ e n=>by rw[zK (h b u e)];exact n) (λb u O e=>⟨u,k b u O e⟩) (λb g e=>by rw[zK (jC e f)];exact e) (λb R g e=>by rw[zK (jC e f)];exact e)
  (λb t e=>⟨#[],by rw[zK (jC e f),e];simp⟩) (λm l=>?_) (λb u e=>?_) I.bare
 ·obtain⟨R,j,i,p,r⟩:=l
  refine⟨R,j,i,k _ R (λz=>(Q _ z).2.1 rfl) p,r⟩
 ·by_cases d:b=a
  ·subst d;rw[zH]at e;cases e;exact new
  ·rw[zK d]at e
   refine(I.e4 b u e).C0 (λc v O q=>k c v ?_ q) (λc q=>by rw[zK (jC q f)];exact q) λc g q=>by rw[zK (jC q f)];exact q
   rcases O with z | z
   ·rw[z];exact Y b u e
   ·exact Y c _ z
theorem Inv.Gv{t':Nat}{fp:List dy}(I:Inv X pins σ H s)(k : ∀b u,b∉fp->s.heap.get? b=di u->h'.get? b=di u)(O : ∀b∈fp,YW X pins H b):Inv X pins σ H {s with heap:=h',toks:=t'}:=by
 have U : ∀b u,H b=di u->b∉fp:=λb u e z=>by rw[(O b z).1]at e;cases e
 refine I.step (g':=s.gens) (d':=s.drawn) (ch:=fp) (λb Q=>⟨(O b Q).2.2.2.1,(O b Q).2.1,(O b Q).2.2.2.2.1,(O b Q).2.2.2.2.2⟩) (λb u _ _ d e _=>k b u d e) (λb u _ _ d e _=>⟨u.slots,k b u d e⟩)
  (λb u _ e n=>n) (λb u d e=>⟨u,k b u d e⟩) (λb a e=>e) (λb R a e=>e)
  (λb i e=>⟨#[],by rw[e];simp⟩) (λm Y=>?_) (λb u e=>?_) I.bare
 ·obtain⟨R,g,f,h,r⟩:=Y
  refine⟨R,g,f,k _ R (λz=>(O _ z).2.1 rfl) h,r⟩
 ·refine(I.e4 b u e).C0 (λc v d q=>k c v ?_ q) (λc q=>q) λc a q=>q
  rcases d with z | z
  ·rw[z];exact U b u e
  ·exact U c _ z
end
noncomputable def i2(k:Sk)(K:Ab)(H:Hp)(a:dy)(xs:List V):Prop:=match k with
 | .L=>gR K H a xs
 | .T=>gj K H a xs
theorem Inv.sq(I:Inv X pins σ H s)(h:i2 k X.K H a xs) :
 ∃d:List dV,eH xs d/\l5 k s.heap a d.toArray/\xs.length<=eG:=by
 cases k with
 | L=>obtain⟨d,r,p,z⟩:=I.list h;exact⟨d,r,p.isList,z⟩
 | T=>obtain⟨d,r,p,z⟩:=I.tuple h;exact⟨d,r,p,z⟩
theorem Inv.Gf(I:Inv X pins σ H s)(h:i2 k X.K H a xs)(h':i2 k X.K H a ys):xs=ys:=by
 cases k with
 | L=>exact I.Hg h h'
 | T=>exact I.Hz h h'
noncomputable def FJ(d z:Sk)(K:Ab)(a b:dy):It:=
 ⟨λi H=>∃e f,i2 d K H a e/\i2 z K H b f/\i<e.length/\i<f.length,
  λi H x g=>∃p u v,x = .ref p/\H p=dn/\g=upd H p (.tup [u,v])/\(∀e,i2 d K H a e->e[i]? = di u)/\(∀f,i2 z K H b f->f[i]? = di v),
  λi H=>∃e f,i2 d K H a e/\i2 z K H b f/\(e.length<=i\/f.length<=i)⟩
theorem aq{P:hH}{w:g9}{K:Ab}{elts:List d3}{x1:Nat}{t4:e6}(k1 k2:Sk){z TI TO U Y a b:dy}(D:FQ z TI TO U Y a b) :
 Turn P w K (.Tuple elts x1 t4) (FJ k1 k2 K a b) [z,TI,TO,U,Y] z (λi h=>rb h z TI TO .none/\l3 h TI (.ref U) (.ref Y)/\(∃c d,l3 h TO c d)/\iv k1 h U a i/\iv k2 h Y b i) where
 mem:=by simp
 obj:=λi h ⟨hz,R,⟨c,d,a0⟩,h1,h2⟩ y hy=>by
  simp only[Ao,AH,or_false]at hy;rcases hy with rfl | rfl | rfl | rfl | rfl
  ·exact⟨_,hz,λv q=>by cases q⟩
  ·exact⟨_,R,λv q=>by cases q⟩
  ·exact⟨_,a0,λv q=>by cases q⟩
  ·exact h1.obj
  ·exact h2.obj
 keep:=λi h h' ⟨hz,R,⟨c,d,a0⟩,h1,h2⟩ k=>
  ⟨k z ⋯ _ hz,k TI ⋯ _ R,⟨c,d,k TO ⋯ _ a0⟩,h1.at λo e=>k U ⋯ o e,h2.at λo e=>k Y ⋯ o e⟩
 item:=by
  rintro X hP hw hK hc i pins s σ H E I hf ⟨hz,R,⟨c,d,a0⟩,h1,h2⟩ ⟨xs,ys,ae,ag,b9,bb⟩;subst hP hw hK;obtain⟨bd,ap,p1,z1⟩:=I.sq ae;obtain⟨bg,as,p2,z2⟩:=I.sq ag;have hx:xs[i]? = di xs[i]:=Ak b9;have hy:ys[i]? = di ys[i]:=Ak bb;obtain⟨u1,bl,bm⟩:=ap.get hx;obtain⟨u2,bn,bv⟩:=as.get hy;have hT:s.TypeIs (.ref z) "zip":=⟨_,hz,rfl⟩;unfold Di;refine Ac (Fv (Bu (name:=BN "__next__") hT EN (BO EN hT F.entry_zip_next
   (YZ D hz R a0 h1 h2 p1 p2 (x:=u1) (y:=u2) (by simpa using bl) (by simpa using bn) λg a1 a2 a3 a4 a5 a6 a7=>Am ⟨_,rfl,?_⟩) (F.args_zip_next_1 _))))
  refine wpAny_letOwnedTupleGo_zip a1 λg2 c5 a8=>?_;have lt : ∀{c o},s.heap.get? c=di o->s.heap.objs.size≠c:=λe=>BZ<|Aq e;have c6:l3 g2 s.heap.objs.size u1 u2:=a8.extBut _ _ (lt hz) a5;have kk : ∀Q u,Q ∉ [z,TI,TO,U,Y]->s.heap.get? Q=di u->g2.get? Q=di u:=λQ u O e=>by simp only[Ao,AH,or_false,not_or]at O;exact a8.extBut _ _ O.1<|a7 Q u O.1 O.2.2.1 O.2.2.2.1 O.2.2.2.2 e
  have I1:Inv X pins σ (upd H s.heap.objs.size<|.tup [xs[i],ys[i]]) {s with heap:=g2,toks:=s.toks}:=
   I.Gu (fp:=[z,TI,TO,U,Y]) kk hf (Al _) ⟨by show 2<=eG;decide,[u1,u2],.cons bm<|.cons bv .nil,⟨_,c6,rfl,_,rfl⟩⟩
  have c8:H s.heap.objs.size=dn:=I.fresh;refine⟨.ref s.heap.objs.size,_,I1,rfl,⟨_,_,_,rfl,c8,rfl,λce ax=>by rw[I.Gf ax ae];exact hx,λch ax=>by rw[I.Gf ax ag];exact hy⟩,?_,λQ O=>?_⟩
  ·exact⟨c5,a8.extBut _ _ D.TIz<|a7 _ _ D.TIz D.TITO D.TIi1 D.TIi2 R,⟨_,_,a8.extBut _ _ D.TOz a2⟩,a3.at λo e=>a8.extBut _ _ D.i1z e,a4.at λo e=>a8.extBut _ _ D.i2z e⟩
  ·have c9:Q≠s.heap.objs.size:=by
    simp only[Ao,AH,or_false]at O;rcases O with rfl | rfl | rfl | rfl | rfl
    ·exact(lt hz).symm
    ·exact(lt R).symm
    ·exact(lt a0).symm
    ·obtain⟨o,e,_⟩:=h1.obj;exact(lt e).symm
    ·obtain⟨o,e,_⟩:=h2.obj;exact(lt e).symm
   rw[zK c9];exact(hf Q O).1
 done:=by
  rintro X hP hw hK hc i pins s σ H E I hf ⟨hz,R,⟨c,d,a0⟩,h1,h2⟩ ⟨xs,ys,ae,ag,hi⟩;subst hP hw hK;obtain⟨bd,ap,p1,z1⟩:=I.sq ae;obtain⟨bg,as,p2,z2⟩:=I.sq ag;have hT:s.TypeIs (.ref z) "zip":=⟨_,hz,rfl⟩;have l1:=ap.length;have l2:=as.length;unfold Di;refine Ac (Fv (Bu (name:=BN "__next__") hT EN (BO EN hT F.entry_zip_next
   (aj (show X.A.handled=dn from I.ok.hd hc) D hz R a0 h1 h2 p1 p2 (by rcases hi with q | q;left;simp;omega;right;simp;omega) λg e hk he=>?_) (F.args_zip_next_1 _))))
  obtain⟨o,ho,cb⟩:=he;refine Ac (wpAny_isInstance (T:="StopIteration") (b:=dk) ⟨o,ho,cb⟩ isSubtype_stop (Am ⟨rfl,?_⟩));refine I.Gv (t':=s.toks) (fp:=[z,TI,TO,U,Y]) (λQ u O e=>?_) hf;simp only[Ao,AH,or_false,not_or]at O;exact hk Q u O.1 O.2.2.1 O.2.2.2.1 O.2.2.2.2 e
 self:=λ_ _ _ _ _ st h=>wpAny_pyIter_zip st.1 h
noncomputable def uC(K:Ab)(C:TA):TI:=λi H R=>C i H λf e=>∃d z a b,f=[.ref a,.ref b]/\(∃g,i2 d K e a g)/\(∃h,i2 z K e b h)/\R (FJ d z K a b) e
theorem lx{X:Cx}{L O:d3}{S:TA}{p pos:e6}{C:List d3}{x1:Nat}{J:e6}(hg:Gl X "zip")(hm:X.mg "zip" = dn)(ha:PA X [L,O] S)
 (hv:z3 "zip" = di (.type "zip")) (hs:e9 [L,O] X.env=[(dt,ej L X.env),(dt,ej O X.env)]:=by rfl) (M:e9 [O] X.env=[(dt,ej O X.env)]:=by rfl) :
 PI X (.Tuple C x1 J) (.Call (.Name "zip" p) [L,O] [] pos) (uC X.K S):=by
 intro i s E H R I h;refine DU (ym I hg hm hv<|Bz (en (ha pos i s E H _ I h) λus f hZ=>?_) (by rw[hs,M])<|by rw[M];rfl);obtain⟨vs,r,Q,r1,q1⟩:=hZ;obtain⟨d,z,a,b,e,⟨xs,N⟩,⟨ys,P⟩,q⟩:=q1;subst e;obtain⟨w1,w2,eu,as,T⟩:=il r1;subst eu;cases as;cases T;obtain⟨W,bg,w,z1⟩:=Q.sq N;obtain⟨Z,bl,x,z2⟩:=Q.sq P;have la:=w.lt;have lb:=x.lt;refine Ia F.called_zip ⋯ (F.typeCall_zip_2 _ _) (F.newCall_zip_2 _ _) (λobj=>F.args_object_init_3 obj _ _) F.entry_zip_new (ai d z a b W.toArray Z.toArray) ⟨w,x,?_⟩;have j : ∀c o,f.heap.get? c=di o->(wJ d z f.heap a b).get? c=di o:=λc o e=>
  Ae _ (Ae _<|Ae _<|Ae _<|Ae _ e)
 have y:(Bc f.heap<|kv d a).objs.size=f.heap.objs.size+1:=AZ ..;have A:(Bc (Bc f.heap<|kv d a)<|kv z b).objs.size=f.heap.objs.size+2:=by rw[AZ,y]
 have B:(Bc (Bc (Bc f.heap<|kv d a)<|kv z b)<|yL (.ref f.heap.objs.size)<|.ref<|f.heap.objs.size+1).objs.size=f.heap.objs.size+3:=by rw[AZ,A]
 have y4:(Bc (Bc (Bc (Bc f.heap<|kv d a)<|kv z b)<|yL (.ref f.heap.objs.size)<|.ref<|f.heap.objs.size+1)<|yL .none .none).objs.size=f.heap.objs.size+4:=by rw[AZ,B]
 have g0:iv d (wJ d z f.heap a b) f.heap.objs.size a 0:=(ZE d f.heap a).at λo e=>Ae _<|Ae _<|Ae _<|Ae _ e;have g1:iv z (wJ d z f.heap a b) (f.heap.objs.size+1) b 0:=by have q:=ZE z (Bc f.heap<|kv d a) b;rw[y]at q;exact q.at λo e=>Ae _<|Ae _<|Ae _ e
 have g2:l3 (wJ d z f.heap a b) (f.heap.objs.size+2) (.ref f.heap.objs.size) (.ref<|f.heap.objs.size+1):=by have q:_=di (yL (.ref f.heap.objs.size)<|.ref<|f.heap.objs.size+1):=AA (Bc (Bc f.heap<|kv d a)<|kv z b) (o:=yL (.ref f.heap.objs.size)<|.ref<|f.heap.objs.size+1) rfl;rw[A]at q;exact Ae _<|Ae _ q
 have g3:l3 (wJ d z f.heap a b) (f.heap.objs.size+3) .none .none:=by have q:_=di (yL .none .none):=AA (Bc (Bc (Bc f.heap<|kv d a)<|kv z b)<|yL (.ref f.heap.objs.size)<|.ref<|f.heap.objs.size+1) (o:=yL .none .none) rfl;rw[B]at q;exact Ae _ q
 have l:rb (wJ d z f.heap a b) (f.heap.objs.size+4) (f.heap.objs.size+2) (f.heap.objs.size+3) .none:=by have q:=AA (Bc (Bc (Bc (Bc f.heap<|kv d a)<|kv z b)<|yL (.ref f.heap.objs.size)<|.ref<|f.heap.objs.size+1)<|yL .none .none) (o:=ot (f.heap.objs.size+2)<|f.heap.objs.size+3) rfl;rw[y4]at q;exact q
 refine⟨⟨_,l,rfl⟩,wpAny_pyIter_zip (s:={f with heap:=wJ d z f.heap a b}) l ?_⟩;have G:Inv X i E r {f with heap:=wJ d z f.heap a b,toks:=f.toks}:=Q.kept j;have nn : ∀m:Nat,f.heap.objs.size≠f.heap.objs.size+m+1:=λm=>by omega
 have U : ∀m:Nat,a≠f.heap.objs.size+m:=λm=>AQ<|Aw la<|Bj _ m;have Y : ∀m:Nat,b≠f.heap.objs.size+m:=λm=>AQ<|Aw lb<|Bj _ m;have g : ∀m n:Nat,m≠n->(f.heap.objs.size+m:Nat)≠f.heap.objs.size+n:=λm n h=>by omega
 have D:FQ (f.heap.objs.size+4) (f.heap.objs.size+2) (f.heap.objs.size+3) f.heap.objs.size (f.heap.objs.size+1) a b:=
  ⟨g 2 4 ⋯,g 3 4 ⋯,g 0 4 ⋯,g 1 4 ⋯,g 2 3 ⋯,g 2 0 ⋯,g 2 1 ⋯,g 3 0 ⋯,g 3 1 ⋯,g 0 1 ⋯,
   U 4,U 3,U 0,U 1,Y 4,Y 3,Y 0,Y 1⟩
 refine⟨_,[f.heap.objs.size+4,f.heap.objs.size+2,f.heap.objs.size+3,f.heap.objs.size,f.heap.objs.size+1],_,_,r,rfl,G,aq d z D,⟨l,g2,⟨_,_,g3⟩,g0,g1⟩,λc u=>?_,q⟩;have t:f.heap.objs.size<=c:=by
  simp only[Ao,AH,or_false]at u;rcases u with rfl | rfl | rfl | rfl | rfl
  ·exact Bj _ _
  ·exact Bj _ _
  ·exact Bj _ _
  ·exact Al _
  ·exact Bj _ _
 exact Q.De t<|Q.e4.fresh t
noncomputable def GN(k:Sk)(K:Ab)(a:dy):It:=match k with
 | .L=>Dv K a
 | .T=>GO K a
noncomputable def JT(K:Ab)(C:TE):TI:=λe H R=>C e H λx b=>∃a k,x = .ref a/\(∃d,i2 k K b a d)/\R (GN k K a) b
theorem dr(O:PE X l tl):PI X tg l (JT X.K tl):=by
 intro f s n H R I h;refine en (O f s n H _ I h) λv g Q=>?_;obtain⟨x,i,d,U,Y⟩:=Q;obtain⟨a,k,e,⟨w,m⟩,q⟩:=Y;subst e;cases U;have z : ∀b ∈ [g.heap.objs.size],YW X f i b:=λb j=>by
  have e:b=g.heap.objs.size:=by simpa using j
  subst e;exact d.De (Al _)<|d.e4.fresh<|Al _
 obtain⟨r,u,p,t⟩:=d.sq m;cases k with
 | L=>exact IL p ⟨g.heap.objs.size,[g.heap.objs.size],_,_,i,rfl,d.kept (t':=g.toks) λb o e=>Ae _ e,Y8 a _,⟨_,AA _ rfl,rfl,rfl⟩,z,q⟩
 | T=>exact Ez p ⟨g.heap.objs.size,[g.heap.objs.size],_,_,i,rfl,d.kept (t':=g.toks) λb o e=>Ae _ e,Ye a _,⟨_,AA _ rfl,rfl,rfl⟩,z,q⟩
section
variable{κ:Type} [DecidableEq κ]
noncomputable def JY(ec:List (κ×V))(k:κ):Option V:=(ec.find? λd=>decide<|d.1=k).map (·.2)
noncomputable def JS(ec:List (κ×V))(k:κ)(v:V):List (κ×V):=
 if (ec.any λd=>decide<|d.1=k)=dk then ec.map (λd=>if d.1=k then (d.1,v)else d)else ec++[(k,v)]
theorem vf{p:κ×V}{r:List (κ×V)}{k:κ}(e:p.1=k):JY (p::r) k=di p.2:=by simp[JY,Cn,e]
theorem vg{p:κ×V}{r:List (κ×V)}{k:κ}(e : ¬p.1=k):JY (p::r) k=JY r k:=by simp[JY,Cn,e]
theorem ZX(k:κ) : ∀ec:List (κ×V),(ec.any λd=>decide<|d.1=k)=(JY ec k).isSome
 | []=>rfl
 | p::r=>by
  rw[Ec];by_cases e:p.1=k
  ·simp only[vf e,decide_eq_true e,Bool.true_or,Option.isSome_some]
  ·rw[vg e,decide_eq_false e,Bool.false_or];exact ZX k r
theorem k5(ec:List (κ×V))(k:κ)(v:V):(JS ec k v).length<=ec.length+1:=by
 unfold JS;split
 ·rw[Ay];omega
 ·rw[m5,BF,CF];omega
theorem aN{ec:List (κ×V)}{k:κ}(v:V)(h:JY ec k=dn):JS ec k v=ec++[(k,v)]:=by unfold JS;rw[ZX,h];exact MQ ⋯
theorem sx.FZ(r:sx o u):o.isSome=u.isSome:=by
 cases o with
 | none=>cases u with
  | none=>rfl
  | some _=>exact(show False from r).elim
 | some _=>cases u with
  | none=>exact(show False from r).elim
  | some _=>rfl
theorem KV.val{ec:List (κ×V)}{C:List (κ×dV)}(r:KV ec C)(k:κ):sx (JY ec k) (valueAt C k):=by
 unfold KV at r
 induction r with
 | nil=>exact Cq
 | @cons p q g d h t O=>
  obtain⟨a,f⟩:=h;by_cases e:p.1=k
  ·have I:q.1=k:=a.symm.trans e
   have b:valueAt (q::d) k=di q.2:=by simp[valueAt,Cn,I]
   rw[vf e,b];exact f
  ·have I : ¬q.1=k:=λz=>e (a.trans z)
   have b:valueAt (q::d) k=valueAt d k:=by simp[valueAt,Cn,I]
   rw[vg e,b];exact O
theorem KV.any(r:KV ec vs)(k:κ):(ec.any λd=>decide<|d.1=k)=vs.any λd=>decide (d.1=k):=by
 unfold KV at r
 induction r with
 | nil=>rfl
 | cons h t z=>rw[Ec,Ec,z,h.1]
theorem KV.Dj(r:KV ec vs)(k:κ)(I:RelV y u) :
 KV (ec.map λd=>if d.1=k then (d.1,y)else d) (vs.map λd=>if d.1=k then (d.1,u)else d):=by
 unfold KV at r ⊢
 induction r with
 | nil=>exact .nil
 | @cons p q f Q h t O=>
  rw[Ap,Ap];refine .cons ?_ O;obtain⟨a,b⟩:=h;by_cases e:p.1=k
  ·rw[GY e,GY (a.symm.trans e)];exact⟨a,I⟩
  ·rw[MQ e,MQ (λz=>e<|a.trans z)];exact⟨a,b⟩
theorem KV.put(r:KV ec vs)(k:κ)(d:RelV y u):KV (JS ec k y) (stored vs k u):=by
 unfold JS stored;rw[r.any k];by_cases e:(vs.any λz=>decide<|z.1=k)=dk
 ·rw[GY e,GY e];exact r.Dj k d
 ·rw[MQ e,MQ e];exact Paired.snoc r ⟨rfl,d⟩
theorem KV.keys{ec:List (κ×V)}{C:List (κ×dV)}(r:KV ec C):ec.map (·.1)=C.map (·.1):=by
 unfold KV at r
 induction r with
 | nil=>rfl
 | cons h t d=>rw[Ap,Ap,d,h.1]
theorem KV.length(r:KV ec vs):ec.length=vs.length:=ER r
end
theorem Wc(r:RelV (kV k) u):(jP P w).is k u=dk:=by
 cases k with
 | inl i=>obtain⟨t,e⟩:=(show ∃t,u=Value.int i t from r);subst e;exact XN P w i t
 | inr x=>obtain⟨t,e⟩:=(show ∃t,u=Value.str x t from r);subst e;exact XM P w x t
theorem QW : ∀{C:List Key} {H:List dV},eH (C.map kV) H->ItemsAre (jP P w) C H
 | [],_,r=>by rw[El]at r;cases r;exact .nil
 | k::C,_,r=>by
  rw[Ap]at r;cases r with
  | cons h t=>exact .cons (Wc h)<|QW t
abbrev KT(H:Hp):List (List Key×V)->List (List Key×dy×dV)->Prop:=Paired λp q=>p.1=q.1/\H q.2.1=di (.tup (p.1.map kV))/\RelV p.2 q.2.2
theorem KT.val{H:Hp}{ec:List (List Key×V)}{xs:List (List Key×dy×dV)}(r:KT H ec xs)(k:List Key):sx (JY ec k) ((atKey xs k).map (·.2)):=by
 induction r with
 | nil=>exact Cq
 | @cons p q g d h t O=>
  obtain⟨a,_,f⟩:=h;by_cases e:p.1=k
  ·have I:q.1=k:=a.symm.trans e
   have b:atKey (q::d) k=di q.2:=by simp[atKey,Cn,I]
   rw[vf e,b];exact f
  ·have I : ¬q.1=k:=λz=>e (a.trans z)
   have b:atKey (q::d) k=atKey d k:=by simp[atKey,Cn,I]
   rw[vg e,b];exact O
theorem KT.Dj{H:Hp}{ec:List (List Key×V)}{xs:List (List Key×dy×dV)}(r:KT H ec xs)(k:List Key){y:V}{u:dV}(I:RelV y u) :
 KT H (ec.map λd=>if d.1=k then (d.1,y)else d) (xs.map<|putAt k u):=by
 induction r with
 | nil=>exact .nil
 | @cons p q f R h t O=>
  rw[Ap,Ap];refine .cons ?_ O;obtain⟨a,b,Q⟩:=h;unfold putAt;by_cases e:p.1=k
  ·rw[GY e,GY (a.symm.trans e)];exact⟨a,b,I⟩
  ·rw[MQ e,MQ (λz=>e<|a.trans z)];exact⟨a,b,Q⟩
theorem KT.put{H:Hp}{ec:List (List Key×V)}{xs:List (List Key×dy×dV)}(r:KT H ec xs)(k:List Key){b:dy}{y:V}{u:dV}(z:H b=di (.tup<|k.map kV))(d:RelV y u) :
 KT H (JS ec k y) (storedH xs k b u):=by
 have e:(ec.any λI=>decide<|I.1=k)=(atKey xs k).isSome:=by rw[ZX,(r.val k).FZ,Fd]
 unfold JS storedH;rw[e];by_cases q:(atKey xs k).isSome=dk
 ·rw[GY q,GY q];exact r.Dj k d
 ·rw[MQ q,MQ q];exact Paired.snoc r ⟨rfl,z,d⟩
theorem KT.keeps{H C:Hp}{ec:List (List Key×V)}{xs:List (List Key×dy×dV)}(r:KT H ec xs)(d : ∀b I,H b=di (.tup I)->C b=di (.tup I)):KT C ec xs:=
 Paired.F4 r λ_ _ z=>⟨z.1,d _ _ z.2.1,z.2.2⟩
section
variable{P:hH}{w:g9}{H:Hp}{h:e5}{a:dy}
theorem iP(ok:ie P w H h)(e:Rd H a u):i1 P w H h a u:=e.ok ok
theorem cf(ok:ie P w H h)(e:Rd H a (.dK ec)):ec.length<=eG/\(a==r6)=dt/\∃C,KV ec C/\h.DictOf (jP P w) a C:=
 show i1 P w H h a (.dK ec)from iP ok e
theorem mM(ok:ie P w H h)(e:H a=di (.dK ec)):ec.length<=eG/\(a==r6)=dt/\∃C,KV ec C/\h.DictOf (jP P w) a C:=cf ok<|.inl e
theorem KP(ok:ie P w H h)(e:H a=di (.tup<|ks.map kV)):(tupleKind<|jP P w).is h ks a:=by obtain⟨_,d,r,o,b,f,n,z⟩:=(show i1 P w H h a (.tup<|ks.map kV)from ok a _ e);exact⟨o,d.toArray,n,b,(Prod.mk.inj f).1,z,by simpa using QW r⟩
theorem cc(ok:ie P w H h)(e:Rd H a (.dT ec)):ec.length<=eG/\(a==r6)=dt/\
 ∃xs,KT H ec xs/\h.DictOfH (tupleKind<|jP P w) a xs:=by
 obtain⟨z,y,xs,r,o,b,O,f,g,Q,R,U⟩:=(show i1 P w H h a (.dT ec)from iP ok e);refine⟨z,y,xs,r,o,b,O,f,g,Q,R,λx d=>?_,U⟩;have all : ∀{l:List (List Key×V)} {m:List (List Key×dy×dV)},KT H l m->∀x∈m,(tupleKind<|jP P w).is h x.1 x.2.1:=by
  intro l m q
  induction q with
  | nil=>intro x d;exact nomatch d
  | @cons p q i j I t Y=>
   intro x d;rcases Ao.mp d with e | d
   ·subst e
    exact KP ok (by rw[<- I.1];exact I.2.1)
   ·exact Y x d
 exact all r x d
theorem pT{ec:List (List Key×V)}(ok:ie P w H h)(e:H a=di (.dT ec)):ec.length<=eG/\(a==r6)=dt/\
 ∃xs,KT H ec xs/\h.DictOfH (tupleKind<|jP P w) a xs:=cc ok<|.inl e
end
noncomputable def nj(H:Hp)(a:dy)(y:V)(r:Option V):Prop:=
 (∃d k,Rd H a (.dK d)/\y=kV k/\r=JY d k)\/∃d k b,Rd H a (.dT d)/\y = .ref b/\H b=di (.tup<|k.map kV)/\r=JY d k
noncomputable def Dr(H:Hp)(a:dy)(y v:V)(C:Hp):Prop:=
 (∃d k,H a=di (.dK d)/\y=kV k/\d.length<eG/\C=upd H a (.dK<|JS d k v))\/
 ∃d k b,H a=di (.dT d)/\y = .ref b/\H b=di (.tup<|k.map kV)/\d.length<eG/\C=upd H a (.dT<|JS d k v)
theorem Dr.k{H:Hp}{a:dy}{ec:List (Key×V)}{k:Key}{v:V}(e:H a=di (.dK ec))(d:ec.length<eG):Dr H a (kV k) v (upd H a<|.dK<|JS ec k v):= .inl ⟨ec,k,e,rfl,d,rfl⟩
section
variable{X:Cx}{pins:GW}{σ:St}{H:Hp}{s:eg}{a:dy}{y v:V}{u r:dV}{o:Option V}{A:mA}{E:GQ}
theorem Inv.big(I:Inv X pins σ H s):r6<s.heap.objs.size:=by have h:o5<s.heap.objs.size:=(I.mod.glob.keeps I.bk).lt;exact Nat.lt_trans ⋯ h
theorem WG(L:A.units+1<cLine)(I:Inv X pins σ H s)(g:nj H a y (di v))(Y:RelV y u)(h : ∀C J,Inv X pins σ H J->RelV v C->Q C J) :
 wpAny (el X.prog X.w) A (u6 (.ref a) u) Q E s:=by
 rcases g with⟨i,k,e,d,l⟩ | ⟨i,k,b,e,d,m,l⟩
 ·subst d
  obtain⟨z,n,t,O,R⟩:=cf I.e4 e;obtain⟨C,f,U⟩:=sx.some_of (v:=v) (o:=valueAt t k) (by rw[l];exact O.val k);exact wpAny_getItem_of (Wc Y) R.mapOf f<|h C _ (I.tok _) U
 ·subst d
  cases (show u=BL b from Y);obtain⟨z,n,x,O,R⟩:=cc I.e4 e;obtain⟨C,f,U⟩:=sx.some_of (v:=v) (o:=(atKey x k).map (·.2)) (by rw[l];exact O.val k);obtain⟨p,r,j⟩:=Option.map_eq_some_iff.mp f;refine wpAny_getItem_heap (Fw L) (KP I.e4 m) R r ?_;rw[j];exact h C _ (I.tok _) U
theorem uF(Y:A.units+1<cLine)(I:Inv X pins σ H s)(g:nj H a y o)(U:RelV y u)(h : ∀C,Inv X pins σ H C->Q (.bool o.isSome) C) :
 wpAny (el X.prog X.w) A (mr .In u<|.ref a) Q E s:=by
 rcases g with⟨i,k,e,d,l⟩ | ⟨i,k,b,e,d,j,l⟩
 ·subst d
  obtain⟨z,f,m,O,R⟩:=cf I.e4 e;refine wpAny_in_of (Wc U) f R.mapOf ?_;rw[<- (O.val k).FZ,<- l];exact h _<|I.tok _
 ·subst d
  cases (show u=BL b from U);obtain⟨z,f,n,O,R⟩:=cc I.e4 e;refine wpAny_in_heap (Fw Y) (KP I.e4 j) f R ?_;have q:=(O.val k).FZ;rw[Fd]at q;rw[<- q,<- l];exact h _<|I.tok _
theorem X4(I:Inv X pins σ H s)(d:Dw (H a))(O:CT a s.heap h')(C : ∃q,h'.get? a=di q)(new:i1 X.prog X.w (upd H a ob) h' a ob) :
 Inv X pins σ (upd H a ob) {s with heap:=h',toks:=t'}:=
 I.write (x:=a) (e:=a) d (.inl rfl) (λb q Q z=>(O.2 b Q).trans z) C new
theorem dM(z:ec.length<=eG)(C:(a==r6)=dt)(d:KV ec vs)(I:h'.DictOf (jP P w) a vs) :
 i1 P w H' h' a (.dK ec):=⟨z,C,vs,d,I⟩
theorem WE{C:Hp}{Q:Unit->eg->Prop}(Z:A.units+1<cLine)(I:Inv X pins σ H s)(g:Dr H a y v C)(L:RelV y u)(J:RelV v r)(h : ∀M,Inv X pins σ C M->Q () M) :
 wpAny (el X.prog X.w) A (Gd (.ref a) u r) Q E s:=by
 rcases g with⟨f,k,e,U,l,Y⟩ | ⟨f,k,b,e,U,p,l,Y⟩
 ·subst U Y
  obtain⟨z,j,T,d,i⟩:=mM I.e4 e;have o:T.length<=eG:=by rw[<- d.length];exact z
  have m:(JS f k v).length<=eG:=by have:=k5 f k v;omega
  refine wpAny_setItem_pairs (hsz:=o) (Wc L) i λx O n=>h _ ?_;have S : ∃q,x.get? a=di q:=let ⟨q,_,_,R,_⟩:=O;⟨q,R⟩;exact X4 I (by rw[e];exact Cq) n S<|dM m j (d.put k J) O
 ·subst U Y
  cases (show u=BL b from L);obtain⟨z,j,W,d,i⟩:=pT I.e4 e;have o:W.length<=eG:=by rw[<- ER d];exact z
  have m:(JS f k v).length<=eG:=by have:=k5 f k v;omega
  refine wpAny_setItem_heap (hsz:=o) (Fw Z) (KP I.e4 p) i λx O n=>h _ ?_;obtain⟨q,F,B,R,G,K,N,_,P⟩:=O;refine X4 I (by rw[e];exact Cq) n ⟨q,R⟩ ⟨m,j,_,(d.put k p J).keeps λc ys t=>?_,q,F,B,R,G,K,N,P⟩;rw[zK (pC t e<|λz=>nomatch z)];exact t
end
noncomputable def rV(i:d3):Prop:=∀d z,subscripted i dt d z=operate [d,z] (u6 d z)
theorem ez{prog:hH}{w:g9}{A:mA}{E:GQ}{s:eg}{env:l0}{value d:d3}{pos:e6}{T id:String}{Q:GQ}
 (C:HC (.type T) "__getitem__" = pure (di (.builtin id))) (H:rV d)
 (h:wpAny (el prog w) A (ej value env) (λo R=>wpAny (el prog w) A (ej d env) (λi z=>z.TypeIs o T/\wpAny (el prog w) A (u6 o i) Q E z) E R) E s) :
 wpAny (el prog w) A (ej (.Subscript value d pos) env) Q E s:=by
 refine GR<|Ck h (λo R a=>Ck a (λi z I=>?_) λ_ _ x=>x) λ_ _ x=>x;obtain⟨U,I⟩:=I;unfold subscriptTail;refine Ac ?_;rw[getitemInPython_of_ne U.not_modules];refine Ac<|wpAny_specialOf U C ?_;have O:wpAny (el prog w) A (subscripted d dt o i) (λr Y=>wpAny (el prog w) A (letTemporaryGo value o r >>= λ_=>pure r) Q E Y) E z:=by rw[H o i];exact wpAny_operating<|Ck I (λr Y b=>Ac<|wpAny_letTemporaryGo<|Am b) λ_ _ x=>x
 first
  | exact Am<|Ac O
  | exact Ac<|Am<|Ac O
  | exact Ac O
theorem X3(I:Inv X pins σ H s)(g:nj H a y o):s.TypeIs (.ref a) "dict":=by
 rcases g with⟨f,k,e,_,_⟩ | ⟨f,k,b,e,_,_,_⟩
 ·obtain⟨_,_,h,_,d⟩:=cf I.e4 e
  exact d.typeIs
 ·obtain⟨_,_,i,_,d⟩:=cc I.e4 e
  exact d.typeIs
noncomputable def oK(C ty:TE):TE:=λd H Q=>C d H λx e=>ty d e λy b=>∃a v,x = .ref a/\nj b a y (di v)/\Q v b
noncomputable def ua(ty C:TE):TE:=λd H Q=>ty d H λy e=>C d e λx b=>∃a o,x = .ref a/\nj b a y o/\Q (.bl o.isSome) b
noncomputable def iK(C ty I:TE):TS:=λD b H=>I b H λv e=>C b e λx f=>ty b f λy z=>∃a d,x = .ref a/\Dr z a y v d/\D.nx b d
section
variable{X:Cx}{o i e value:d3}{pos pos' t4:e6}{td ty tv:TE}
theorem fK(z:X.A.units+1<cLine)(O:PE X o td)(C:PE X i ty)(R:rV i):PE X (.Subscript o i pos) (oK td ty):=by intro b s e H Q I h;refine ez PySem.F.slot_dict_getitem.lookup R<|en (O b s e H _ I h) λu t ⟨x,f,U,rx,Y⟩=>en (C b t e f _ U Y) λw B ⟨y,j,d,r,a,v,n,g,p⟩=>?_;subst n;obtain rfl:u=BL a:=rx;exact⟨X3 d g,WG z d g r λG E l m=>⟨v,j,l,m,p⟩⟩
theorem lL(d:X.A.units+1<cLine)(C:PE X i ty)(z:PE X o td):PC X .In i o (ua ty td):=by intro b s e H Q I h;refine en (C b s e H _ I h) λt r ⟨y,f,O,R,U⟩=>en (z b r e f _ O U) λu w ⟨x,j,Y,rx,a,n,m,g,p⟩=>?_;subst m;obtain rfl:u=BL a:=rx;exact uF d Y g R λB l=>⟨.bl n.isSome,j,l,rfl,p⟩
theorem VG(d:X.A.units+1<cLine)(z:PE X o td)(C:PE X i ty)(O:PE X value tv)(Q:p8 value (di (.Subscript o i pos')) pos.line X.env=pure dt) :
 PS X (.Assign [.Subscript o i pos'] value pos) (iK td ty tv):=by
 intro b s e H D I h;refine wpAny_Assign_Subscript (en (O b s e H _ I h) λr F ⟨v,f,R,U,Y⟩=>en (z b F e f _ R Y) λu G ⟨x,j,m,rx,w⟩=>en (C b G e j _ m w) λK L ⟨y,J,n,E,a,l,t,g,B⟩=>?_) Q;subst t;obtain rfl:u=BL a:=rx;exact WE d n g E U λM p=>⟨e,l,p,B⟩
end
theorem KY(h:e5)(d:r6<h.objs.size):i1 P w H (h.push {cls:= .type "dict",data:= .dict #[]}) h.objs.size (.dK []):=
 ⟨BB _,beq_eq_false_iff_ne.mpr<|Br<|AQ d,[],.nil,Heap.DictOf.new h⟩
def Vg:TE:=λ_ H Q=>∀p,H p=dn->Q (.ref p) (upd H p<|.dK [])
section
variable{X:Cx}{pos:e6}
theorem KH:PE X (.Dict [] [] pos) Vg:=λb s d H Q I h=>
 wpAny_Dict_empty ⟨.ref s.heap.objs.size,_,I.laid (a:=s.heap.objs.size) (o:= .dK []) (t':=s.toks) (λ_ _ q=>Ae _ q) (Al _)<|KY s.heap I.big,rfl,h _<|I.e4.fresh<|Al _⟩
end
noncomputable def Vf:List (TE×TE)->St->Hp->(List (V×V)->Hp->Prop)->Prop
 | [],_,H,Q=>Q [] H
 | (tk,tv)::r,σ,H,Q=>tk σ H λx a=>tv σ a λy b=>Vf r σ b λe d=>Q ((x,y)::e) d
abbrev VV:List (V×V)->List (dV×dV)->Prop:=Paired λp q=>RelV p.1 q.1/\RelV p.2 q.2
noncomputable def D0(X:Cx)(pos:e6)(keys:List (Option d3))(d:List d3)(z:List (TE×TE)):Prop:=
 ∀(a:GW) (s:eg) (b:St) (H:Hp) (Q:List (V×V)->Hp->Prop),Inv X a b H s->Vf z b H Q->
  wpAny (el X.prog X.w) X.A (evalPairs<|pairTrees keys d X.env pos) (λh g=>∃f e,Inv X a b e g/\VV f h/\Q f e) X.xe s
theorem fA{X:Cx}{pos:e6}:D0 X pos [] [] []:=λa s b H Q I h=>pairTrees_nil_walk ⟨[],H,I,.nil,h⟩
theorem KC{X:Cx}{pos:e6}{k v:d3}{C:List (Option d3)}{L:List d3}{d J:TE}{z:List (TE×TE)}(M:PE X k d)(O:PE X v J)(R:D0 X pos C L z) :
 D0 X pos (di k::C) (v::L) ((d,J)::z):=λa s b H Q I h=>
 pairTrees_cons_walk (en (M a s b H _ I h) λu r ⟨x,e,U,rx,Y⟩=>en (O a r b e _ U Y) λA t ⟨y,f,i,p,n⟩=>
  en (R a t b f _ i n) λws w ⟨m,g,j,l,o⟩=>⟨(x,y)::m,g,j,.cons ⟨rx,p⟩ l,o⟩)
noncomputable def vV(ec more:List (Key×V)):List (Key×V):=more.foldl (λacc d=>JS acc d.1 d.2) ec
theorem KV.merge : ∀{more:List (Key×V)} {H:List (Key×dV)} {ec:List (Key×V)} {C:List (Key×dV)},KV more H->KV ec C->KV (vV ec more) (merged C H):=by
 intro more H ec C r;unfold KV at r
 induction r generalizing ec C with
 | nil=>intro q;exact q
 | @cons p q a I h t d=>
  intro z;have e:KV (JS ec p.1 p.2) (stored C q.1 q.2):=by have:=z.put p.1 h.2;rw[<- h.1];exact this
  exact d e
theorem yl : ∀(more ec:List (Key×V)),(vV ec more).length<=ec.length+more.length
 | [],ec=>by show ec.length<=ec.length+0;omega
 | p::r,ec=>by have a:=yl r<|JS ec p.1 p.2;have b:=k5 ec p.1 p.2;show(vV (JS ec p.1 p.2) r).length<=_;rw[BF];omega
theorem ZN{P:hH}{w:g9} : ∀{ec:List (Key×V)} {d:List (dV×dV)},VV (ec.map λz=>(kV z.1,z.2)) d->∃C,Carries (jP P w) d C/\KV ec C
 | [],_,r=>by rw[El]at r;cases r;exact⟨[],Cq,.nil⟩
 | p::ec,_,r=>by
  rw[Ap]at r;cases r with
  | @cons a b I bs h t=>
   obtain⟨C,c,q⟩:=ZN (P:=P) (w:=w) t;obtain⟨b1,b2⟩:=b;exact⟨(p.1,b2)::C,⟨Wc h.1,rfl,c⟩,.cons ⟨rfl,h.2⟩ q⟩
noncomputable def oJ(z:List (TE×TE)):TE:=λf H Q=>∀p,H p=dn->Vf z f (upd H p<|.dK []) λe b=>b p=di (.dK [])/\∃a:List (Key×V),e=a.map (λd=>(kV d.1,d.2))/\a.length<=15/\Q (.ref p) (upd b p<|.dK<|vV [] a)
theorem fJ{X:Cx}{pos:e6}{keys:List (Option d3)}{d:List d3}{O:List (TE×TE)}(h:D0 X pos keys d O)(Y:keys.all (·.isSome)=dk)(L:keys.length=d.length)(J:keys ≠ [])
 (C:keys.length<=15):PE X (.Dict keys d pos) (oJ O):=by
 intro f s F H Q I q;have r:=I.e4.fresh (Al s.heap.objs.size);have g:=I.laid (a:=s.heap.objs.size) (o:= .dK []) (h':=s.heap.push {cls:= .type "dict",data:= .dict #[]}) (t':=s.toks) (λ_ _ q=>Ae _ q) (Al _) (KY s.heap I.big);refine wpAny_Dict_walk (knd:=jP X.prog X.w) Y L J C (en (h f _ F _ _ g (q _ r)) λws N ⟨M,G,R,i,e,b,l,lk,y⟩=>?_);subst l;obtain⟨E,c,B⟩:=ZN (P:=X.prog) (w:=X.w) i;obtain⟨z,n,K,A,j⟩:=mM R.e4 e;cases A;refine⟨E,c,j,λh' U u=>⟨.ref s.heap.objs.size,_,?_,rfl,y⟩⟩;have x:(vV [] b).length<=eG:=by have m:=yl b [];rw[CF]at m;rw[sizeLine_eq];omega
 have p : ∃q,h'.get? s.heap.objs.size=di q:=let ⟨q,_,_,t,_⟩:=U;⟨q,t⟩;exact X4 R (by rw[e];exact Cq) u p<|dM x n (B.merge .nil) U
end L2
namespace DL
open PySem PySem.Spec PyProof.Rows L2
noncomputable def GB:List Str:=["NoPrime","Nought","NoTable","NoWidths","NoRow","Unlike","TooMany","NoTurn","NoLine","Nothing","NoArrow","NoText","NoRoom"]
noncomputable def nk(K:Ab)(c:Str):Option dy:=match PySem.W.nsIn K o5 c with
 | some (di (.ref C))=>di C
 | _=>dn
noncomputable def tL(K:Ab)(C:dy):Bool:=
 ["int","bool","str","tuple","list"].all (λt=>CH K (.ref C) (.type t)==di dt) && CH K (.ref C) (.type "ValueError")==di dk &&
 EF K (.ref C) "__getattribute__" == di (di (.builtin "BaseException.__getattribute__")) && EF K (.ref C) "__getattr__" == di dn &&
 EF K (.ref C) "__class__" == di (di (.builtin "object.__class__")) && PySem.W.mroIn K C (.type "object")==di dk && PySem.W.mroIn K C (.type "BaseException")==di dk &&
 PySem.W.specialIn K (.builtin "object.__class__") "__get__" == di (di (.builtin "getset_descriptor.__get__")) && PySem.W.takesIn K (.builtin "object.__class__")==di dk &&
 (PySem.W.clsIn K C).any (λd=> !d.hasDel) && PySem.W.typeIn K (.ref C)==di (.type "type")
noncomputable def tM(K:Ab):Bool:=match nk K "SplitError" with
 | some S=>GB.all λc=>match nk K c with
  | some C=>tL K C && CH K (.ref C) (.ref S)==di dk && GB.all λd=>match nk K d with
   | some z=>CH K (.ref C) (.ref z)==di (c==d)
   | none=>dt
  | none=>dt
 | none=>dt
noncomputable def uK(h:e5)(a:dy)(C:dy):Prop:=∃o b,h.get? a=di o/\o.cls = .ref C/\o.data = .fields b
structure FP(K:Ab)(H:Hp)(c:Str)(n:Option Int)(a:dy):Prop where
 all:tM K=dk
 mem:c∈GB
 ex : ∃C φ,nk K c=di C/\H a=di (.ext φ)/\(∀h,φ h->uK h a C)/\
  match n with
  | none=>True
  | some i=>∃d,(∀h,φ h->∃o,h.get? a=di o/\o.dict=di d)/\H d=di (.xd [(if c==("NoRoom" : Str)then "room" else "at",.int i)])
theorem FP.mono{K:Ab}{H J:Hp}{c:Str}{n:Option Int}{a:dy}(e : ∀b o,H b=di o->J b=di o)(h:FP K H c n a):FP K J c n a:=by
 obtain⟨f,g,C,j,I,g2,O,z⟩:=h;refine⟨f,g,C,j,I,e _ _ g2,O,?_⟩;cases n with
 | none=>exact z
 | some i=>obtain⟨d,Q,R⟩:=z;exact⟨d,Q,e _ _ R⟩
abbrev St:=L2.St
noncomputable def gn:D->Option Key
 | .int i=>di (.inl i)
 | .str x=>di (.inr x)
 | _=>dn
noncomputable def v9:List D->Option (List Key)
 | []=>di []
 | d::ds=>(gn d).bind λk=>(v9 ds).map λr=>k::r
noncomputable def t7(H:Hp)(a:dy)(C:List D)(xs:List V):Prop:=∃b,v9 C=di b/\b.length=xs.length/\∃o,H a=di (.i7 o<|.dK<|b.zip xs)
noncomputable def oB(k:List Int):Int:=reduceHash<|Builtin.Tuple.tupleHashOf<|k.map hashInt
noncomputable def uP(o:i5)(xs:List (List Int×dy×dV)):Prop:=o.ExactDict/\∃a d,o.data = .dict a d/\a.toList=xs.map (λx=>⟨oB x.1,.ref x.2.1,x.2.2⟩)/\(xs.map (·.1)).Nodup
def G3(a:dy)(o:i5):HO:= .ext λh=>h.get? a=di o
noncomputable def DV(K:Ab)(H:Hp)(a:dy)(C:List (List Int))(I:List V):Prop:=
 (a==r6)=dt/\∃o b,H a=di (G3 a o)/\uP o b/\b.map (·.1)=C/\b.length<=eG/\(∀x∈b,gj K H x.2.1<|x.1.map V.int)/\eH I (b.map (·.2.2))
mutual
def Rep(K:Ab)(H:Hp):D->V->Prop
 | .f7,v=>v = .f7
 | .bl b,v=>v = .bl b
 | .int i,v=>v = .int i
 | .str x,v=>v = .str x
 | .tup ds,v=>∃a d,v = .ref a/\gj K H a d/\d0 K H ds d
 | .lst ds,v=>∃a d,v = .ref a/\gR K H a d/\d0 K H ds d
 | .h7 ks vs,v=>∃a d,v = .ref a/\t7 H a ks d/\d0 K H vs d
 | .ih ks vs,v=>∃a d,v = .ref a/\DV K H a ks d/\d0 K H vs d
def d0(K:Ab)(H:Hp):List D->List V->Prop
 | [],xs=>xs=[]
 | d::ds,xs=>∃x r,xs=x::r/\Rep K H d x/\d0 K H ds r
end
theorem ll{K:Ab}{H C:Hp}{a:dy}{xs:List V}(e:f6 H C)(h:gj K H a xs):gj K C a xs:=by
 rcases h with(h | ⟨o,h⟩) | h
 ·exact .inl<|.inl<|e _ _ h
 ·exact .inl<|.inr ⟨o,e _ _ h⟩
 ·exact .inr h
theorem J7{k:Sk}{K:Ab}{H C:Hp}{a:dy}{xs:List V}(e:f6 H C)(h:i2 k K H a xs):i2 k K C a xs:=by
 cases k
 ·exact e.seq h
 ·exact ll e h
mutual
theorem Rep.mono{K:Ab}{H C:Hp}(e:f6 H C) : ∀{d:D} {v:V},Rep K H d v->Rep K C d v
 | .f7,_,h=>h
 | .bl _,_,h=>h
 | .int _,_,h=>h
 | .str _,_,h=>h
 | .tup ds,v,h=>by obtain⟨a,b,f,i,g⟩:=(show ∃a b,v = .ref a/\gj K H a b/\d0 K H ds b from h);exact(show ∃a b,v = .ref a/\gj K C a b/\d0 K C ds b from⟨a,b,f,ll e i,d0.mono e g⟩)
 | .lst ds,v,h=>by obtain⟨a,b,f,i,g⟩:=(show ∃a b,v = .ref a/\gR K H a b/\d0 K H ds b from h);exact(show ∃a b,v = .ref a/\gR K C a b/\d0 K C ds b from⟨a,b,f,e.seq i,d0.mono e g⟩)
 | .h7 ks vs,v,h=>by obtain⟨a,b,f,⟨j,z,g2,o,I⟩,g⟩:=(show ∃a b,v = .ref a/\t7 H a ks b/\d0 K H vs b from h);exact(show ∃a b,v = .ref a/\t7 C a ks b/\d0 K C vs b from⟨a,b,f,⟨j,z,g2,o,e _ _ I⟩,d0.mono e g⟩)
 | .ih ks vs,v,h=>by obtain⟨a,b,f,⟨z,o,l,g2,I,O,Q,g6,R⟩,g⟩:=(show ∃a b,v = .ref a/\DV K H a ks b/\d0 K H vs b from h);exact(show ∃a b,v = .ref a/\DV K C a ks b/\d0 K C vs b from⟨a,b,f,⟨z,o,l,e _ _ g2,I,O,Q,λx U=>ll e<|g6 x U,R⟩,d0.mono e g⟩)
theorem d0.mono{K:Ab}{H I:Hp}(e:f6 H I) : ∀{C:List D} {xs:List V},d0 K H C xs->d0 K I C xs
 | [],_,h=>h
 | d::C,xs,h=>by obtain⟨x,r,a,b,f⟩:=(show ∃x r,xs=x::r/\Rep K H d x/\d0 K H C r from h);exact(show ∃x r,xs=x::r/\Rep K I d x/\d0 K I C r from⟨x,r,a,Rep.mono e b,d0.mono e f⟩)
end
section
variable{K:Ab}{H:Hp}
theorem d0.nil:d0 K H [] []:=(show([]:List V)=[]from rfl)
theorem d0.cons(h:Rep K H d x)(t:d0 K H ds xs):d0 K H (d::ds) (x::xs):=⟨x,xs,rfl,h,t⟩
theorem d0.o3(h:d0 K H [] xs):xs=[]:=h
theorem d0.m6(h:d0 K H (d::ds) xs) : ∃x r,xs=x::r/\Rep K H d x/\d0 K H ds r:=h
theorem d0.length : ∀{C:List D} {xs:List V},d0 K H C xs->xs.length=C.length
 | [],xs,h=>by rw[h.o3];rfl
 | d::C,xs,h=>by obtain⟨x,r,e,_,t⟩:=h.m6;rw[e,BF,BF,d0.length t]
theorem d0.get : ∀{C:List D} {xs:List V} {i:Nat} {d:D},d0 K H C xs->C[i]? = di d->∃x,xs[i]? = di x/\Rep K H d x
 | [],_,_,_,_,e=>by simp at e
 | c::C,xs,0,d,h,e=>by obtain⟨x,r,a,b,_⟩:=h.m6;simp at e;subst e;exact⟨x,by rw[a];rfl,b⟩
 | c::C,xs,i+1,d,h,e=>by obtain⟨x,r,a,_,t⟩:=h.m6;obtain⟨y,z,g2⟩:=d0.get (i:=i) (d:=d) t (by simpa using e);exact⟨y,by rw[a];simpa using z,g2⟩
theorem d0.D7{C:List D}{xs:List V}{i:Nat}{x:V}(h:d0 K H C xs)(e:xs[i]? = di x) : ∃d,C[i]? = di d/\Rep K H d x:=by
 have b:i<C.length:=by rw[<- h.length];exact(Az.mp e).1
 obtain⟨y,a,r⟩:=h.get<|Ak b;rw[e]at a;cases a;exact⟨_,Ak b,r⟩
theorem d0.append : ∀{C I:List D} {xs J:List V},d0 K H C xs->d0 K H I J->d0 K H (C++I) (xs++J)
 | [],_,xs,_,h,g=>by rw[h.o3];exact g
 | d::C,I,xs,J,h,g=>by obtain⟨x,r,e,a,t⟩:=h.m6;rw[e];exact d0.cons a<|d0.append t g
theorem d0.drop : ∀{C:List D} {xs:List V} (n:Nat),d0 K H C xs->d0 K H (C.drop n) (xs.drop n)
 | _,_,0,h=>h
 | [],xs,n+1,h=>by rw[h.o3];exact d0.nil
 | d::C,xs,n+1,h=>by obtain⟨x,r,e,_,t⟩:=h.m6;rw[e];exact d0.drop n t
theorem d0.take : ∀{C:List D} {xs:List V} (n:Nat),d0 K H C xs->d0 K H (C.take n) (xs.take n)
 | _,_,0,h=>by simp;exact d0.nil
 | [],xs,n+1,h=>by rw[h.o3];exact d0.nil
 | d::C,xs,n+1,h=>by obtain⟨x,r,e,a,t⟩:=h.m6;rw[e];exact d0.cons a<|d0.take n t
theorem d0.set : ∀{C:List D} {xs:List V} {d:D} {x:V} (i:Nat),d0 K H C xs->Rep K H d x->d0 K H (C.set i d) (xs.set i x)
 | [],xs,_,_,_,h,_=>by rw[h.o3];exact d0.nil
 | c::C,xs,d,x,0,h,g=>by obtain⟨y,r,e,_,t⟩:=h.m6;rw[e];exact d0.cons g t
 | c::C,xs,d,x,i+1,h,g=>by obtain⟨y,r,e,a,t⟩:=h.m6;rw[e];exact d0.cons a<|d0.set i t g
end
structure Ext(H0 H o1 H':Hp):Prop where
 s0:f6 H0 o1
 s1:f6 H H'
 sub:f6 o1 H'
 new : ∀a,H0 a=dn->H a≠dn->o1 a=dn
theorem Ext.refl(s:f6 H0 H):Ext H0 H H0 H:=⟨f6.refl _,f6.refl _,s,λ_ h _=>h⟩
theorem Ext.trans(a:Ext H0 H H1 G1)(b:Ext H1 G1 H2 G2):Ext H0 H H2 G2:=
 ⟨a.s0.trans b.s0,a.s1.trans b.s1,b.sub,λc e d=>b.new c (a.new c e d) (by
  cases q:H c with
  | none=>exact absurd q d
  | some o=>rw[a.s1 c o q];simp)⟩
theorem zS(h:H p=dn)(o:HO):f6 H (upd H p o):=λb u q=>by rw[zK (jC q h)];exact q
theorem jB(s:f6 H0 H)(h:H p=dn):H0 p=dn:=s.free h
theorem J6(s:f6 H0 H):f6 (upd H0 p o) (upd H p o):=λb u q=>by
 by_cases e:b=p
 ·subst e;rw[zH]at q ⊢;exact q
 ·rw[zK e]at q ⊢;exact s b u q
theorem Ext.alloc(s:f6 H0 H)(h:H p=dn)(o:HO):Ext H0 H (upd H0 p o) (upd H p o):=
 ⟨zS (jB s h) o,zS h o,J6 s,λa b d=>by rw[zK (λe=>d<|by rw[e];exact h)];exact b⟩
theorem Ext.hide(s:f6 H0 H)(h:H p=dn)(o:HO):Ext H0 H H0 (upd H p o):=
 ⟨f6.refl _,zS h o,s.trans<|zS h o,λa b _=>b⟩
theorem Ext.show(e:Ext H0 H o1 H')(C:H a=dn)(J:o1 a=dn)(I:H' a=di o)(s:f6 H0 H):Ext H0 H (upd o1 a o) H':=
 ⟨e.s0.trans<|zS J o,e.s1,λb u q=>by
  by_cases z:b=a
  ·subst z;rw[zH]at q;rw[I];exact q
  ·rw[zK z]at q;exact e.sub b u q,λb O d=>by
  rw[zK (λz=>d<|by rw[z];exact C)];exact e.new b O d⟩
structure A8(K:Ab)(H0 H:Hp)(rows:List (List D))(a:dy)(bs:List dy):Prop where
 a0:H0 a=dn
 ha:H a=di (.lst<|bs.map V.ref)
 nd:(a::bs).Nodup
 len:bs.length=rows.length
 row : ∀(k:Nat) b row,bs[k]? = di b->rows[k]? = di row->H0 b=dn/\∃xs,H b=di (.lst xs)/\d0 K H0 row xs
theorem A8.at{K:Ab}{I H:Hp}{C:List (List D)}{a:dy}{bs:List dy}(n:A8 K I H C a bs){b:dy}(d:b∈a::bs):I b=dn/\∃xs,H b=di (.lst xs):=by
 rcases Ao.mp d with rfl | d
 ·exact⟨n.a0,_,n.ha⟩
 ·obtain⟨k,e⟩:=List.getElem?_of_mem d
  have z:=(Az.mp e).1;rw[n.len]at z;obtain⟨f,xs,g,_⟩:=n.row k b _ e<|Ak z;exact⟨f,xs,g⟩
theorem A8.move{K:Ab}{M H J L:Hp}{C:List (List D)}{a:dy}{bs:List dy}(n:A8 K M H C a bs)(s:f6 M J)(O : ∀b∈a::bs,J b=dn)(h : ∀b∈a::bs,L b=H b):A8 K J L C a bs:=
 ⟨O a Ar,by rw[h a Ar];exact n.ha,n.nd,n.len,λk b row e z=>by obtain⟨_,g,f,I⟩:=n.row k b row e z;have d:b∈a::bs:=Ax _<|Eb e;exact⟨O b d,g,by rw[h b d];exact f,I.mono s⟩⟩
noncomputable def m1(K:Ab)(I H:Hp)(C:St)(γ:Ctx):Prop:=
 (∀(i:Nat) b,γ[i]? = di (.nest b)->∃a bs,C[i]? = di (di (.ref a))/\A8 K I H b a bs/\∀(j:Nat) e c,γ[j]? = di (.own e)->C[j]? = di (di (.ref c))->c∉a::bs)/\
 ∀(i j:Nat) d f,γ[i]? = di (.nest d)->γ[j]? = di (.nest f)->i=j
theorem m1.Dh{K:Ab}{I H:Hp}{J:St}{γ:Ctx}(h : ∀(i:Nat) C,γ[i]? ≠ di (.nest C)):m1 K I H J γ:=⟨λi C e=>absurd e<|h i C,λi j d a e=>absurd e<|h i d⟩
theorem m1.move{K:Ab}{L H I M:Hp}{J:St}{γ:Ctx}(n:m1 K L H J γ)(s:f6 L I)(h : ∀(i:Nat) C a bs,γ[i]? = di (.nest C)->J[i]? = di (di (.ref a))->A8 K L H C a bs->(∀(j:Nat) O c,γ[j]? = di (.own O)->J[j]? = di (di (.ref c))->c∉a::bs)->∀b∈a::bs,I b=dn/\M b=H b):m1 K I M J γ:=
 ⟨λi C e=>by obtain⟨a,bs,f,g,d⟩:=n.1 i C e;exact⟨a,bs,f,g.move s (λb z=>(h i C a bs e f g d b z).1)<|λb z=>(h i C a bs e f g d b z).2,d⟩,n.2⟩
theorem m1.ext{K:Ab}{J H C I:Hp}{L:St}{γ:Ctx}(n:m1 K J H L γ)(e:Ext J H C I):m1 K C I L γ:=
 n.move e.s0 λi f a bs _ _ g _ b d=>by obtain⟨z,h,g2⟩:=g.at d;exact⟨e.new b z (by rw[g2];simp),by rw[e.s1 b _ g2,g2]⟩
structure RC(K:Ab)(H0 H:Hp)(σ:St)(γ:Ctx):Prop where
 sub:f6 H0 H
 len:σ.length=γ.length
 val : ∀(i:Nat) d,γ[i]? = di (.val d)->∃v,σ[i]? = di (di v)/\Rep K H0 d v
 own : ∀(i:Nat) ds,γ[i]? = di (.own ds)->∃a xs,σ[i]? = di (di (.ref a))/\H0 a=dn/\H a=di (.lst xs)/\d0 K H0 ds xs
 ne : ∀(i j:Nat) a ds es,γ[i]? = di (.own ds)->γ[j]? = di (.own es)->σ[i]? = di (di (.ref a))->σ[j]? = di (di (.ref a))->i=j
 o6:m1 K H0 H σ γ
theorem RC.ext{K:Ab}{L H C J:Hp}{M:St}{γ:Ctx}(r:RC K L H M γ)(e:Ext L H C J):RC K C J M γ:=
 ⟨e.sub,r.len,λi d h=>let ⟨v,b,f⟩:=r.val i d h;⟨v,b,f.mono e.s0⟩,
  λi g h=>let ⟨a,j,b,f,z,I⟩:=r.own i g h;⟨a,j,b,e.new a f (by rw[z];simp),e.s1 _ _ z,I.mono e.s0⟩,r.ne,r.o6.ext e⟩
noncomputable def tV(K:Ab)(f:CO D):TE:=λh H Q=>∃e g d,RC K e H h g/\f g=di d/\∀v b a,Ext e H a b->Rep K a d v->Q v b
noncomputable def tQ(K:Ab)(f:CO (Sk×List D)):TE:=λj H Q=>∃g i k h,RC K g H j i/\f i=di (k,h)/\∀a e d b,Ext g H b d->i2 k K d a e->(k = .T->gj K b a e)->d0 K b h e->Q (.ref a) d
noncomputable def tO(K:Ab)(f:CO (List D)):TE:=λj H Q=>∃e i g,RC K e H j i/\f i=di g/\
 ∀a h d b,Ext e H b d->H a=dn->b a=dn->d a=di (.lst h)->d0 K b g h->Q (.ref a) d
noncomputable def tT(K:Ab)(f:CO Bool):TT:=λh H Q=>∃e g b,RC K e H h g/\f g=di b/\∀d a,Ext e H a d->Q b d
noncomputable def tA(K:Ab)(f:CO (List D)):TA:=λi H Q=>∃d h e,RC K d H i h/\f h=di e/\∀g b a,Ext d H a b->d0 K a e g->Q g b
abbrev PV(X:Cx)(e:d3)(f:CO D):Prop:=PE X e (tV X.K f)
abbrev PQ(X:Cx)(e:d3)(f:CO (Sk×List D)):Prop:=PE X e (tQ X.K f)
abbrev PO(X:Cx)(e:d3)(f:CO (List D)):Prop:=PE X e (tO X.K f)
abbrev kr(X:Cx)(e:d3)(f:CO Bool):Prop:=PT X e (tT X.K f)
abbrev D1(X:Cx)(e:d3)(f:CO Bool):Prop:=PW X e (tT X.K f)
abbrev t9(X:Cx)(es:List d3)(f:CO (List D)):Prop:=PA X es (tA X.K f)
theorem jO(h:PE X e t)(i : ∀C H Q,t' C H Q->t C H Q):PE X e t':=λa s C H Q I q=>h a s C H Q I<|i C H Q q
theorem XC(h:PT X e t)(i : ∀C H Q,t' C H Q->t C H Q):PT X e t':=λa s C H Q I q=>h a s C H Q I<|i C H Q q
theorem ph(h:PW X e t)(i : ∀C H Q,t' C H Q->t C H Q):PW X e t':=λd a s C H Q I q=>h d a s C H Q I<|i C H Q q
theorem lN(h:PA X es t)(i : ∀C H Q,t' C H Q->t C H Q):PA X es t':=λpos a s C H Q I q=>h pos a s C H Q I<|i C H Q q
theorem qT{X:Cx}{st:h5}{t t':TS}(h:PS X st t)(i : ∀D C H,t' D C H->t D C H):PS X st t':=λa s C H D I q=>h a s C H D I<|i D C H q
theorem dj{X:Cx}{st:List h5}{t t':TS}(h:i8 X st t)(i : ∀D C H,t' D C H->t D C H):i8 X st t':=λa s C H D I q=>h a s C H D I<|i D C H q
theorem QG(h:PI X tg e t)(i : ∀C H R,t' C H R->t C H R):PI X tg e t':=λa s C H R I q=>h a s C H R I<|i C H R q
theorem k6(h:n<=lim):n<=eG:=Bq h ⋯
section
variable{X:Cx}{e a b c:d3}{pos:e6}
theorem PV.q(h:PV X e f):PQ X e (zq f):=jO h λs H Q U=>by
 obtain⟨p,o,k,i,rc,I,q⟩:=U;unfold zq at I;cases e1:f o with
 | none=>rw[e1]at I;cases I
 | some d=>
  rw[e1]at I;refine⟨p,o,d,rc,e1,λv n b ext r=>?_⟩;cases d with
  | tup l=>
   obtain⟨O,R⟩:k = .T/\i=l:=by simp[jf]at I;exact⟨I.1.symm,I.2.symm⟩
   subst O R;obtain⟨a,g,rfl,j,m⟩:=(show ∃a g,v = .ref a/\gj X.K b a g/\d0 X.K b i g from r);exact q a g n b ext (ll ext.sub j) (λ_=>j) m
  | lst l=>
   obtain⟨O,R⟩:k = .L/\i=l:=by simp[jf]at I;exact⟨I.1.symm,I.2.symm⟩
   subst O R;obtain⟨a,g,rfl,j,m⟩:=(show ∃a g,v = .ref a/\gR X.K b a g/\d0 X.K b i g from r);exact q a g n b ext (ext.sub.seq j) (λz=>nomatch z) m
  | _=>simp[jf]at I
theorem PO.v(h:PO X e f):PV X e (jF f):=jO h λp H Q R=>by
 obtain⟨j,i,d,rc,z,q⟩:=R;unfold jF at z;cases e1:f i with
 | none=>rw[e1]at z;cases z
 | some b=>
  rw[e1]at z;cases z;refine⟨j,i,b,rc,e1,λa n o l ext m g U r=>?_⟩;exact q _ _ _ (ext.show m g U rc.sub) (show ∃I O,V.ref a = .ref I/\gR X.K _ I O/\d0 X.K _ b O from⟨a,n,rfl,gR.of zH,r.mono<|zS g _⟩)
theorem PO.q(h:PO X e f):PQ X e (zX f):=jO h λs H Q I=>by
 obtain⟨j,g,k,m,rc,d,q⟩:=I;unfold zX at d;cases e1:f g with
 | none=>rw[e1]at d;cases d
 | some n=>
  rw[e1]at d;cases d;exact⟨j,g,_,rc,e1,λa l i b ext o p O r=>q a l i b ext (gR.of O) (λz=>nomatch z) r⟩
theorem iU(i:Nat)(h:PE X e (dZ i)):PV X e (zd i):=jO h λn H Q I=>by
 obtain⟨b,j,d,rc,z,q⟩:=I;unfold zd at z;cases e1:j[i]? with
 | none=>rw[e1]at z;cases z
 | some c=>
  rw[e1]at z;cases c with
  | val l=>
   cases z;obtain⟨v,f,g⟩:=rc.val i d e1;exact⟨v,f,q v H b (Ext.refl rc.sub) g⟩
  | no=>cases z
  | own m=>cases z
  | nest a=>cases z
theorem lr(i:Nat)(h:PE X e (dZ i)):PQ X e (zf i):=jO h λs H Q Y=>by
 obtain⟨f,r,k,g,rc,I,q⟩:=Y;unfold zf at I;cases e1:r[i]? with
 | none=>rw[e1]at I;cases I
 | some c=>
  rw[e1]at I;cases c with
  | no=>cases I
  | nest n=>cases I
  | own j=>
   cases I;obtain⟨a,b,l,m,o,p⟩:=rc.own i g e1;exact⟨_,l,q a b H f (Ext.refl rc.sub) (gR.of o) (λz=>nomatch z) p⟩
  | val d=>
   obtain⟨v,l,m⟩:=rc.val i d e1;refine⟨v,l,?_⟩;cases d with
   | tup j=>
    obtain⟨R,U⟩:k = .T/\g=j:=by simp[yQ,jf]at I;exact⟨I.1.symm,I.2.symm⟩
    subst R U;obtain⟨a,b,rfl,O,g2⟩:=(show ∃a b,v = .ref a/\gj X.K f a b/\d0 X.K f g b from m);exact q a b H f (Ext.refl rc.sub) (ll rc.sub O) (λ_=>O) g2
   | lst j=>
    obtain⟨R,U⟩:k = .L/\g=j:=by simp[yQ,jf]at I;exact⟨I.1.symm,I.2.symm⟩
    subst R U;obtain⟨a,b,rfl,O,g2⟩:=(show ∃a b,v = .ref a/\gR X.K f a b/\d0 X.K f g b from m);exact q a b H f (Ext.refl rc.sub) (rc.sub.seq O) (λz=>nomatch z) g2
   | _=>simp[yQ,jf]at I
theorem Kz(h:PE X e (tC v))(r : ∀H,Rep X.K H d v):PV X e (zt d):=jO h λg H Q z=>by obtain⟨a,f,b,rc,I,q⟩:=z;cases I;exact q v H a (Ext.refl rc.sub)<|r a
theorem zh:PV X (.Constant (.int i) j pos) (zt<|.int i):=Kz lI λ_=>(show V.int i = .int i from rfl)
theorem qO:PV X (.Constant (.str x) j pos) (zt<|.str x):=Kz lD λ_=>(show V.str x = .str x from rfl)
noncomputable def l4(K:Ab)(r:R2)(F:D->D->Option D):Prop:=∀b H x y f z d Q,f6 b H->Rep K b f x->Rep K b z y->F f z=di d->(∀v e a,Ext b H a e->Rep K a d v->Q v e)->r x y H Q
theorem zb(h:o.bind f=di y) : ∃x,o=di x/\f x=di y:=by
 cases o with
 | none=>cases h
 | some x=>exact⟨x,rfl,h⟩
theorem XF{K:Ab}{r:R2}{F:D->D->Option D}{J L:CO D}(O:l4 K r F) : ∀C H Q,tV K (zy F J L) C H Q->DP r (tV K J) (tV K L) C H Q:=λC H Q R=>by obtain⟨f,b,d,rc,z,q⟩:=R;obtain⟨x,j,z⟩:=zb z;obtain⟨y,U,z⟩:=zb z;refine⟨f,b,x,rc,j,λY p h x1 l=>⟨h,b,y,rc.ext x1,U,λo g i I m=>?_⟩⟩;exact O i g Y o x y d Q I.sub (l.mono I.s0) m z λv e a x3 n=>q v e a (x1.trans<|I.trans x3) n
theorem Zq(d:hL X (p4 op) r)(z:l4 X.K r F)(C:PV X a fa)(I:PV X b fb):PV X (.BinOp a op b pos) (zy F fa fb):=
 jO (fH d C I) (XF z)
theorem dg(d:hL X (mr op) r)(z:l4 X.K r F)(C:PV X a fa)(I:PV X b fb)(O:s9 op b=dt):PV X (.Compare a [op] [b] pos) (zy F fa fb):=
 jO (fL d C I O) (XF z)
theorem yv{d:D}{b:Bool}(h:p3 d=di b):d = .bl b:=by cases d<;>simp[p3]at h;rw[h]
theorem Jl(I:hL X (mr op) r)(O:l4 X.K r F)(C:PV X a fa)(R:PV X b fb)(U:s9 op b=dt):kr X (.Compare a [op] [b] pos) (sB<|zy F fa fb):=
 XC (VC I C R U) λj H Q Y=>by obtain⟨g,i,k,rc,z,q⟩:=Y;obtain⟨d,h,z⟩:=zb z;refine XF O j H _ ⟨g,i,d,rc,h,λv f e x r=>?_⟩;rw[yv z]at r;exact⟨k,r,q f e x⟩
theorem qR{f:CO D}(h:PV X e f)(C : ∀I,B6 e X.env I=(do let v <- I;DO e.pos;u7 [v] (truthy v)):=by intro _;rfl):kr X e (sB f):=
 XC (lg h C) λl H Q O=>by obtain⟨g,j,k,rc,z,q⟩:=O;obtain⟨d,i,z⟩:=zb z;refine⟨g,j,d,rc,i,λv b a x r=>?_⟩;rw[yv z]at r;exact⟨k,r,q b a x⟩
theorem Jj(h:kr X a f):D1 X (.BoolOp .And [a] pos) f:=eY h
theorem XB{f g:CO Bool}{q9:List d3}(C:kr X a f)(z:D1 X (.BoolOp .And (b::q9) pos) g):D1 X (.BoolOp .And (a::b::q9) pos) (aF f g):=
 ph (iT C z) λn H Q I=>by
  obtain⟨j,h,k,rc,d,q⟩:=I;obtain⟨c,m,d⟩:=zb d;refine⟨j,h,c,rc,m,λi e x=>?_⟩;cases c with
  | true=>rw[GY rfl]at d ⊢;exact⟨e,h,k,rc.ext x,d,λl O R=>q l O<|x.trans R⟩
  | false=>rw[MQ AB]at d ⊢;cases d;exact q i e x
theorem kY(C:kr X a f):kr X (.UnaryOp .Not a pos) (xF f):=
 XC (lh C) λi H Q z=>by
  obtain⟨h,e,k,rc,d,q⟩:=z;unfold xF at d;cases e1:f e with
  | none=>rw[e1]at d;cases d
  | some c=>rw[e1]at d;cases d;exact⟨h,e,c,rc,e1,λg b x=>q g b x⟩
theorem fg(h:D1 X e f):kr X e f:=h.pt
theorem kQ(h:PV X a f):PV X (.BoolOp op [a] pos) f:=lE h
theorem Zr{f g:CO D}{q9:List d3}(C:PV X a f)(I:PV X (.BoolOp .And (b::q9) pos) g):PV X (.BoolOp .And (a::b::q9) pos) (cP f g):=
 jO (lJ C I) λs H Q O=>by
  obtain⟨l,i,d,rc,z,q⟩:=O;obtain⟨c,h,z⟩:=zb z;obtain⟨R,U,h⟩:=zb h;refine⟨l,i,R,rc,U,λv j e x r=>?_⟩;rw[yv h]at r;refine⟨c,r,?_⟩;cases c with
  | true=>rw[GY rfl]at z ⊢;exact⟨e,i,d,rc.ext x,z,λY m n p o=>q Y m n (x.trans p) o⟩
  | false=>rw[MQ AB]at z ⊢;cases z;exact q _ j e x (show V.bl dt = .bl dt from rfl)
theorem aJ{f g:CO D}{q9:List d3}(C:PV X a f)(I:PV X (.BoolOp .Or (b::q9) pos) g):PV X (.BoolOp .Or (a::b::q9) pos) (Dk f g):=
 jO (px C I) λs H Q O=>by
  obtain⟨l,i,d,rc,z,q⟩:=O;obtain⟨c,h,z⟩:=zb z;obtain⟨R,U,h⟩:=zb h;refine⟨l,i,R,rc,U,λv j e x r=>?_⟩;rw[yv h]at r;refine⟨c,r,?_⟩;cases c with
  | true=>rw[GY rfl]at z ⊢;cases z;exact q _ j e x (show V.bl dk = .bl dk from rfl)
  | false=>rw[MQ AB]at z ⊢;exact⟨e,i,d,rc.ext x,z,λY m n p o=>q Y m n (x.trans p) o⟩
theorem dc(C:PV X a f):PV X (.UnaryOp .Not a pos) (nu f):=
 jO (lF C) λi H Q O=>by
  obtain⟨h,e,d,rc,z,q⟩:=O;unfold nu at z;cases e1:f e with
  | none=>rw[e1]at z;cases z
  | some I=>
   rw[e1]at z;refine⟨h,e,I,rc,e1,λv g b x r=>?_⟩;cases I with
   | bl c=>cases z;exact⟨c,r,q _ g b x<|show V.bl (!c) = .bl (!c)from rfl⟩
   | _=>cases z
theorem qG(U:kr X c k)(C:PV X a f)(Y:PV X b g):PV X (.IfExp c a b pos) (Ym k f g):=
 jO (aY U C Y) λp H Q n=>by
  obtain⟨l,j,d,rc,z,q⟩:=n;obtain⟨t,m,z⟩:=zb z;refine⟨l,j,t,rc,m,λo e x=>?_⟩;cases t with
  | true=>rw[GY rfl]at z ⊢;exact⟨e,j,d,rc.ext x,z,λI h O R i=>q I h O (x.trans R) i⟩
  | false=>rw[MQ AB]at z ⊢;exact⟨e,j,d,rc.ext x,z,λI h O R i=>q I h O (x.trans R) i⟩
theorem fM:t9 X [] zJ:=lN qb λf H Q d=>by obtain⟨a,e,b,rc,z,q⟩:=d;cases z;exact q [] H a (Ext.refl rc.sub) d0.nil
theorem bf(C:PV X e f)(O:t9 X es g)(R:e9 (e::es) X.env=(dt,ej e X.env)::e9 es X.env:=by rfl):t9 X (e::es) (zc f g):=
 lN (jr C O R) λs H Q U=>by
  obtain⟨b,a,p,rc,d,q⟩:=U;obtain⟨x,j,d⟩:=zb d;cases z:g a with
  | none=>rw[z]at d;cases d
  | some r=>
   rw[z]at d;cases d;exact⟨b,a,x,rc,j,λv o Y x1 l=>⟨Y,a,r,rc.ext x1,z,λn h i I m=>q (v::n) h i (x1.trans I)<|d0.cons (l.mono I.s0) m⟩⟩
theorem jG(h:t9 X es f):PV X (.Tuple es x1 pos) (kP f):=
 jO (lC h) λn H Q U=>by
  obtain⟨g,l,d,rc,z,q⟩:=U;obtain⟨b,i,z⟩:=zb z;by_cases I:b.length<=lim
  ·rw[GY I]at z;cases z
   refine⟨g,l,b,rc,i,λj m Y x1 O=>⟨k6 (by rw[O.length];exact I),λp R=>?_⟩⟩;exact q _ _ _ (x1.trans<|Ext.alloc x1.sub R _) (show ∃a e,V.ref p = .ref a/\gj X.K _ a e/\d0 X.K _ b e from⟨p,j,rfl,gj.of zH,O.mono<|zS (jB x1.sub R) _⟩)
  ·rw[MQ I]at z;cases z
theorem qw(h:t9 X es f):PO X (.List es pos) (ql f):=
 jO (lG h) λm H Q Y=>by
  obtain⟨a,j,d,rc,I,q⟩:=Y;obtain⟨e,g,I⟩:=zb I;by_cases R:e.length<=lim
  ·rw[GY R]at I;cases I
   refine⟨a,j,_,rc,g,λi l b x1 U=>⟨k6 (by rw[U.length];exact R),λp O=>?_⟩⟩;exact q p i _ b (x1.trans<|Ext.hide x1.sub O _) (by
    cases z:H p with
    | none=>rfl
    | some o=>rw[x1.s1 p o z]at O;cases O) (jB x1.sub O) zH U
  ·rw[MQ R]at I;cases I
end
noncomputable def uU(i:Nat)(f:CO D)(γ:Ctx):Option D:=(jV γ[i]?).bind λa=>(f<|γ.set i<|.val<|.lst a).bind λd=>if pR d=dk then di d else dn
noncomputable def um(i:Nat)(f:CO Bool)(γ:Ctx):Option Bool:=(jV γ[i]?).bind λa=>f<|γ.set i<|.val<|.lst a
noncomputable def sr(i:Nat)(γ:Ctx):Option Fl:=(jV γ[i]?).map λ_=> .next (γ.set i<|.own [])
noncomputable def xt(C:List D):List D:=(Ad C.length).map λ(i:Nat)=>D.tup [.int i,C[i]?.getD .f7]
noncomputable def Vw(f:CO D)(γ:Ctx):Option (List D):=(f γ).bind λd=>match d with
 | .tup a=>di (xt a)
 | _=>dn
noncomputable def wg:List D->Option (List Int)
 | []=>di []
 | .int i::r=>(wg r).map λl=>i::l
 | _::_=>dn
noncomputable def uR(f:CO D)(g:CO (Sk×List D))(γ:Ctx):Option D:=(f γ).bind λd=>(g γ).bind λa=>(i4 d).bind λi=>(wg a.2).map λl=> .bl (decide<|i∈l)
noncomputable def Wp(k:Int):List Int->Option Nat
 | []=>dn
 | i::r=>if i=k then di 0 else (Wp k r).map (· + 1)
noncomputable def uS(f g:CO D)(γ:Ctx):Option D:=(f γ).bind λd=>((g γ).bind i4).bind λk=>match d with
 | .tup a=>(wg a).bind λl=>(Wp k l).map λ(j:Nat)=>D.int (j:Int)
 | _=>dn
noncomputable def WI(T:Tg)(f:CO (List D))(γ:Ctx):List D->Option (List<|List D)
 | []=>di []
 | d::ds=>(jY T d γ).bind λz=>(f z).bind λe=>(WI T f γ ds).map λr=>e::r
noncomputable def so(C:CO (List D))(T:Tg)(n:Nat)(H:List Nat)(f:CO (List D))(γ:Ctx):Option (List<|List D):=(C γ).bind λa=>if a.length<=lim then WI T f (je n H γ) a else dn
noncomputable def JM:Option Cell->Option (List<|List D)
 | some (.nest rows)=>di rows
 | _=>dn
noncomputable def cQ(γ:Ctx)(j i:Nat)(r:List D):Ctx:=(γ.set j .no).set i (.own r)
noncomputable def KS(j i:Nat)(g f:CO D)(γ:Ctx):List (List D)->Option (List<|List D)
 | []=>di []
 | r::rs=>(f<|cQ γ j i r).bind λd=>((g<|cQ γ j i r).bind i4).bind λk=>(i3 r.length k).bind λm=>(KS j i g f γ rs).map λt=>r.set m d::t
noncomputable def oV(j i:Nat)(g f:CO D)(γ:Ctx):Option Fl:=(JM γ[j]?).bind λa=>if i=j\/γ.length<=i then dn else (KS j i g f γ a).map λd=> .next ((γ.set j<|.nest d).set i .no)
noncomputable def aC(i:Nat)(F:CO Fl)(γ:Ctx):Option Fl:=(jV γ[i]?).bind λa=>F<|γ.set i<|.val<|.lst a
noncomputable def ui(i:Nat)(F:CO Fl)(γ:Ctx):Option Fl:=(JM γ[i]?).bind λa=>F<|γ.set i<|.val<|.lst<|a.map D.lst
noncomputable def rZ(is:List Nat)(f:CO D)(γ:Ctx):Option Fl:=(f γ).bind λd=>match d with
 | .lst a=>if a.length=is.length then di (.next<|j6 is a γ)else dn
 | _=>dn
noncomputable def J2:List D->Option (List Str)
 | []=>di []
 | .str x::r=>(J2 r).map λl=>x::l
 | _::_=>dn
def z9(x:Str):Bool:=decide<|x.length<=1000
noncomputable def iI(f:CO D)(g:CO (Sk×List D))(γ:Ctx):Option D:=(f γ).bind λd=>(g γ).bind λa=>match d,a.1 with
 | .str sep,.L=>(J2 a.2).bind λl=>if l.length<=lim/\l.all z9=dk/\z9 sep=dk then di (.str<|Fy sep l)else dn
 | _,_=>dn
noncomputable def qv(f g:CO D)(γ:Ctx):Option D:=(f γ).bind λd=>((g γ).bind i4).bind λi=>match d with
 | .str z=>if z9 z=dk then (i3 z.cps.toList.length i).bind λk=>z.cps.toList[k]?.map λc=> .str ⟨#[c]⟩else dn
 | _=>dn
noncomputable def wO(f:CO D)(γ:Ctx):Option D:=(f γ).bind λd=>match d with
 | .str z=>if z9 z=dk then di (.int z.length)else dn
 | _=>dn
noncomputable def uj(z O I Q:Str)(f:CO D)(γ:Ctx):Option D:=(f γ).bind λd=>match d with
 | .str x=>if z=I then dn else if x=z then di (.str O)else if x=I then di (.str Q)else dn
 | _=>dn
noncomputable def aB(f g:CO D)(γ:Ctx):Option D:=((f γ).bind i4).bind λi=>((g γ).bind i4).map λj=> .int (if j<i then j else i)
abbrev Xn:=Str×Option Int
def GC:CO Xn:=λ_=>dn
def ox(c:Str):CO Xn:=λ_=>di (c,dn)
noncomputable def GA(k:CO Bool)(G H:CO Xn):CO Xn:=λa=>(k a).bind λb=>if b=dk then G a else H a
noncomputable def kc(f:CO D)(g:CO (Sk×List D)):CO D:=λb=>(f b).bind λd=>(g b).bind λa=>(i4 d).bind λi=>(wg a.2).map λl=> .bl (!decide (i∈l))
end DL
namespace DL
open PySem L2
open PySem.W (KasT kas_sort)
def xi(z:Str):List D:=z.cps.toList.map λc=>D.str ⟨#[c]⟩
noncomputable def iG(f:CO D)(γ:Ctx):Option (List D):=(f γ).bind λd=>match d with
 | .str z=>if z9 z=dk then di (xi z)else dn
 | _=>dn
noncomputable def Zm(f:CO D)(γ:Ctx):Option (List D):=(f γ).bind λd=>match d with
 | .str z=>if z9 z=dk then di (xt<|xi z)else dn
 | _=>dn
noncomputable def sf(f:CO D)(γ:Ctx):Option (List D):=(f γ).bind λd=>match d with
 | .lst a=>di (xt a)
 | _=>dn
noncomputable def ug(f:CO D)(g:CO (Sk×List D))(γ:Ctx):Option D:=(f γ).bind λd=>(g γ).bind λa=>match d with
 | .str x=>(J2 a.2).map λl=> .bl (l.any λy=>y==x)
 | _=>dn
noncomputable def aE(f g:CO D):CO D:=λa=>(f a).bind λd=>(g a).bind λe=>match d,e with
 | .str x,.str y=>if z9 x=dk/\z9 y=dk then di (.str<|x++y)else dn
 | _,_=>dn
noncomputable def pz:D->Option (Int×Int)
 | .tup [.int a,.int b]=>di (a,b)
 | _=>dn
noncomputable def du:List D->Option (List<|Int×Int)
 | []=>di []
 | d::r=>(pz d).bind λp=>(du r).map λl=>p::l
noncomputable def uw(x y:Int×Int):Bool:=if x.1=y.1 then decide (x.2<y.2)else decide (x.1<y.1)
noncomputable def sv{C:Type}(lt:Nat->Nat->Bool):KasT C->C
 | .ret a=>a
 | .ask i j k=>sv lt<|k<|lt i j
noncomputable def lA(C:List (Int×Int)):List Nat:=if C.length<2 then Ad C.length else (sv (λi j=>uw (C.getD i (0,0))<|C.getD j (0,0))<|kas_sort C.length).toList
noncomputable def oP(C:List D):Option (List D):=(du C).bind λa=>if C.length<64 then di ((lA a).map λi=>C.getD i .f7)else dn
noncomputable def iH(f:CO (Sk×List D))(γ:Ctx):Option (List D):=(f γ).bind λa=>match a.1 with
 | .L=>oP a.2
 | _=>dn
end DL
namespace DL
open PySem L2
noncomputable def Jh(i:Nat)(f:CO (List D))(γ:Ctx):Option Fl:=(jV γ[i]?).bind λa=>(f γ).bind λb=>if a.length+b.length<=lim then di (.next<|γ.set i<|.own<|a++b)else dn
noncomputable def su(F G:List D->Option Res)(g:CO (List D))(γ:Ctx):Option (List D):=(g γ).bind λl=>match l with
 | [p,.str z,t,b]=>((if z=("r" : Str)then F else G) [p,t,b]).bind oY
 | _=>dn
noncomputable def va:List D->Option (List Int)
 | []=>di []
 | .int i::r=>(va r).map λl=>i::l
 | _::_=>dn
noncomputable def pV(C H:List D):Option D:=match va C with
 | some a=>if C.length=H.length/\a.Nodup/\C.length<=lim then di (.h7 C H)else dn
 | none=>dn
noncomputable def w4:List D->List D->Int->Option D
 | k::ks,v::vs,i=>match k with
  | .int j=>if j=i then di v else w4 ks vs i
  | _=>w4 ks vs i
 | _,_,_=>dn
open PySem.Spec PyProof.Rows
structure RS(K:Ab)(E0 E H0 H:Hp)(σ:St)(γ:Ctx):Prop where
 rc:RC K H0 H σ γ
 ext:Ext E0 E H0 H
 fresh : ∀(i:Nat) ds a,γ[i]? = di (.own ds)->σ[i]? = di (di (.ref a))->E a=dn
 p6 : ∀(i:Nat) rows a xs,γ[i]? = di (.nest rows)->σ[i]? = di (di (.ref a))->H a=di (.lst xs)->E a=dn/\∀b,V.ref b∈xs->E b=dn
noncomputable def Sat(K:Ab)(E0 E:Hp)(D:Ends):Fl->Prop
 | .next f=>∀e H b,RS K E0 E b H e f->D.nx e H
 | .brk f=>∀e H b,RS K E0 E b H e f->D.bk e H
 | .cont f=>∀e H b,RS K E0 E b H e f->D.ct e H
 | .ret (.val d)=>∀v H b,Ext E0 E b H->Rep K b d v->D.rt v H
 | .ret (.own es)=>∀a g H b,Ext E0 E b H->E a=dn->b a=dn->H a=di (.lst g)->d0 K b es g->D.rt (.ref a) H
noncomputable def tS(K:Ab)(F:CO Fl):TS:=λD e H=>∃E0 E b a d,RS K E0 E b H e a/\F a=di d/\Sat K E0 E D d
abbrev i6(X:Cx)(st:h5)(F:CO Fl):Prop:=PS X st (tS X.K F)
abbrev K9(X:Cx)(IG:List h5)(F:CO Fl):Prop:=i8 X IG (tS X.K F)
section
variable{K:Ab}{E0 E H0 H o1 H':Hp}{σ:St}{γ:Ctx}
theorem RS.step(r:RS K E0 E H0 H σ γ)(e:Ext H0 H o1 H'):RS K E0 E o1 H' σ γ:=⟨r.rc.ext e,r.ext.trans e,r.fresh,λi b a h f g z=>by obtain⟨I,bs,d,g2,_⟩:=r.rc.o6.1 i b f;rw[g]at d;cases d;have:=e.s1 a _ g2.ha;rw[z]at this;cases this;exact r.p6 i b a _ f g g2.ha⟩
theorem zI{C:Type}{l:List C}{i j:Nat}{x y:C}(h:(l.set i x)[j]? = di y):(j=i/\y=x/\i<l.length)\/(j≠i/\l[j]? = di y):=by
 by_cases e:i=j
 ·subst e
  by_cases d:i<l.length
  ·rw[AV d]at h;cases h;exact .inl ⟨rfl,rfl,d⟩
  ·rw[List.set_eq_of_length_le ⋯]at h
   exact absurd (Az.mp h).1 d
 ·rw[Ai e]at h;exact .inr ⟨Br e,h⟩
theorem m1.o8{i:Nat}{d:D}{v:V}(n:m1 K H0 H σ γ):m1 K H0 H (σ.set i<|some v) (γ.set i<|.val d):=
 ⟨λj b e=>by
  rcases zI e with⟨_,z,_⟩ | ⟨Q,z⟩
  ·cases z
  ·obtain⟨a,bs,h,l,R⟩:=n.1 j b z
   refine⟨a,bs,by rw[Ai (Br Q)];exact h,l,λk g c f I=>?_⟩;rcases zI f with⟨_,z,_⟩ | ⟨m,O⟩
   ·cases z
   ·rw[Ai (Br m)]at I;exact R k g c O I,
 λj k U o f I=>by
  rcases zI f with⟨_,z,_⟩ | ⟨_,O⟩
  ·cases z
  ·rcases zI I with⟨_,z,_⟩ | ⟨_,Y⟩
   ·cases z
   ·exact n.2 j k U o O Y⟩
theorem RC.o8{i:Nat}{d:D}{v:V}(r:RC K H0 H σ γ)(h:Rep K H0 d v):RC K H0 H (σ.set i<|some v) (γ.set i<|.val d):=by
 refine⟨r.sub,by simp[r.len],λj f e=>?_,λj b e=>?_,λj k a b l g Y Q R=>?_,r.o6.o8⟩
 ·rcases zI e with⟨rfl,z,U⟩ | ⟨I,z⟩
  ·cases z;exact⟨v,AV (by rw[r.len];exact U),h⟩
  ·obtain⟨n,O,g2⟩:=r.val j f z
   exact⟨n,by rw[Ai (Br I)];exact O,g2⟩
 ·rcases zI e with⟨rfl,z,U⟩ | ⟨I,z⟩
  ·cases z
  ·obtain⟨a,o,O,g2⟩:=r.own j b z
   exact⟨a,o,by rw[Ai (Br I)];exact O,g2⟩
 ·rcases zI g with⟨_,z,_⟩ | ⟨I,p⟩
  ·cases z
  ·rcases zI Y with⟨_,z,_⟩ | ⟨m,s⟩
   ·cases z
   ·rw[Ai (Br I)]at Q
    rw[Ai (Br m)]at R;exact r.ne j k a b l p s Q R
theorem RS.o8{i:Nat}{d:D}{v:V}(r:RS K E0 E H0 H σ γ)(h:Rep K H0 d v):RS K E0 E H0 H (σ.set i<|some v) (γ.set i<|.val d):=
 ⟨r.rc.o8 h,r.ext,λj f a e I=>by
  rcases zI e with⟨_,z,_⟩ | ⟨O,z⟩
  ·cases z
  ·rw[Ai (Br O)]at I;exact r.fresh j f a z I,
 λj b a g e I Q=>by
  rcases zI e with⟨_,z,_⟩ | ⟨O,z⟩
  ·cases z
  ·rw[Ai (Br O)]at I;exact r.p6 j b a g z I Q⟩
theorem vW : ∀{d bs:List dy},d.map V.ref=bs.map V.ref->d=bs
 | [],[],_=>rfl
 | [],_::_,h=>by cases h
 | _::_,[],h=>by cases h
 | a::d,b::bs,h=>by rw[Ap,Ap]at h;injection h with h1 h2;injection h1 with h1;rw[h1,vW h2]
theorem RS.ID{i:Nat}{L:List D}{a:dy}{xs:List V}{J G:Hp}(r:RS K E0 E J G σ γ)(e:Ext J G H0 H)(C:G a=dn)(M:H0 a=dn)(S:H a=di (.lst xs))(Z:d0 K H0 L xs) :
 RS K E0 E H0 H (σ.set i<|some (.ref a)) (γ.set i<|.own L):=by
 have rc:=r.rc.ext e;have no : ∀(j:Nat) h,γ[j]? = di (.own h)->¬σ[j]? = di (di (.ref a)):=λj h g z=>by obtain⟨b,s,d,g2,g3,_⟩:=r.rc.own j h g;rw[z]at d;cases d;rw[C]at g3;cases g3
 refine⟨⟨rc.sub,by simp[rc.len],λj u g=>?_,λj h g=>?_,λj k b h fs p Q R U=>?_,⟨λj f g=>?_,λj k A B d g2=>?_⟩⟩,r.ext.trans e,λj h b d g2=>?_,λj f b xs d g2 g3=>?_⟩
 ·rcases zI g with⟨_,z,_⟩ | ⟨I,z⟩
  ·cases z
  ·obtain⟨F,d,g2⟩:=rc.val j u z
   exact⟨F,by rw[Ai (Br I)];exact d,g2⟩
 ·rcases zI g with⟨rfl,z,O⟩ | ⟨I,z⟩
  ·cases z;exact⟨a,xs,AV (by rw[rc.len];exact O),M,S,Z⟩
  ·obtain⟨b,s,d,g2⟩:=rc.own j h z
   exact⟨b,s,by rw[Ai (Br I)];exact d,g2⟩
 ·rcases zI p with⟨rfl,z,O⟩ | ⟨I,Y⟩
  ·rcases zI Q with⟨rfl,_,_⟩ | ⟨l,m⟩
   ·rfl
   ·rw[AV (by rw[rc.len];exact O)]at R
    rw[Ai (Br l)]at U;cases R;exact absurd U<|no k fs m
  ·rcases zI Q with⟨rfl,z,O⟩ | ⟨l,m⟩
   ·rw[AV (by rw[rc.len];exact O)]at U
    rw[Ai (Br I)]at R;cases U;exact absurd R<|no j h Y
   ·rw[Ai (Br I)]at R
    rw[Ai (Br l)]at U;exact rc.ne j k b h fs Y m R U
 ·rcases zI g with⟨_,z,_⟩ | ⟨I,z⟩
  ·cases z
  ·obtain⟨b,bs,d,g2,g3⟩:=r.rc.o6.1 j f z
   obtain⟨P,n,f1,f2,x⟩:=rc.o6.1 j f z;rw[d]at f1;cases f1;have w:n.map V.ref=bs.map V.ref:=by have:=e.s1 b _ g2.ha;rw[f2.ha]at this;injection this with this;injection this
   have t:n=bs:=vW w;subst t;refine⟨b,n,by rw[Ai (Br I)];exact d,f2,λk h c p Q=>?_⟩;rcases zI p with⟨rfl,_,O⟩ | ⟨l,Y⟩
   ·rw[AV (by rw[rc.len];exact O)]at Q;cases Q
    intro y;obtain⟨_,N,q⟩:=g2.at y;rw[C]at q;cases q
   ·rw[Ai (Br l)]at Q;exact x k h c Y Q
 ·rcases zI d with⟨_,z,_⟩ | ⟨_,Y⟩
  ·cases z
  ·rcases zI g2 with⟨_,z,_⟩ | ⟨_,m⟩
   ·cases z
   ·exact rc.o6.2 j k A B Y m
 ·rcases zI d with⟨rfl,z,O⟩ | ⟨I,z⟩
  ·rw[AV (by rw[rc.len];exact O)]at g2;cases g2
   cases q:E a with
   | none=>rfl
   | some o=>rw[r.ext.s1 a o q]at C;cases C
  ·rw[Ai (Br I)]at g2;exact r.fresh j h b z g2
 ·rcases zI d with⟨_,z,_⟩ | ⟨I,z⟩
  ·cases z
  ·rw[Ai (Br I)]at g2;exact(r.step e).p6 j f b xs z g2 g3
theorem RS.rewrite{i:Nat}{C M:List D}{a:dy}{xs L:List V}(r:RS K E0 E H0 H σ γ)(J:γ[i]? = di (.own C))(O:σ[i]? = di (di (.ref a)))(S:d0 K H0 M L) :
 RS K E0 E H0 (upd H a<|.lst L) σ (γ.set i<|.own M):=by
 obtain⟨F,G,g1,g2,g3,T⟩:=r.rc.own i C J;rw[O]at g1;cases g1;have N:i<γ.length:=(Az.mp J).1;refine⟨⟨λb o q=>?_,by simp[r.rc.len],λj w g=>?_,λj fs g=>?_,λj k b fs gs f d Y x=>?_,⟨λj e g=>?_,λj k A B f d=>?_⟩⟩,⟨r.ext.s0,λb o q=>?_,λb o q=>?_,r.ext.new⟩,λj fs b f d=>?_,λj e b p f d Y=>?_⟩
 ·rw[zK (λz=>by rw[z,g2]at q;cases q)];exact r.rc.sub b o q
 ·rcases zI g with⟨_,z,_⟩ | ⟨l,z⟩
  ·cases z
  ·exact r.rc.val j w z
 ·rcases zI g with⟨rfl,z,W⟩ | ⟨l,z⟩
  ·cases z;exact⟨a,L,O,g2,zH,S⟩
  ·obtain⟨b,p,I,Q,R,y⟩:=r.rc.own j fs z
   refine⟨b,p,I,Q,?_,y⟩;rw[zK (λq=>l<|r.rc.ne j i a fs C z J (by rw[I,q]) O)];exact R
 ·have t : ∃h,γ[j]? = di (.own h):=by
   rcases zI f with⟨q,_,_⟩ | ⟨_,z⟩
   ·exact⟨C,by rw[q];exact J⟩
   ·exact⟨fs,z⟩
  have u : ∃h,γ[k]? = di (.own h):=by
   rcases zI d with⟨q,_,_⟩ | ⟨_,z⟩
   ·exact⟨C,by rw[q];exact J⟩
   ·exact⟨gs,z⟩
  obtain⟨I,U⟩:=t;obtain⟨Q,n⟩:=u;exact r.rc.ne j k b I Q U n Y x
 ·rcases zI g with⟨_,z,_⟩ | ⟨l,z⟩
  ·cases z
  ·obtain⟨b,bs,I,Q,R⟩:=r.rc.o6.1 j e z
   have s:=R i C a J O;refine⟨b,bs,I,Q.move (f6.refl _) (λc m=>(Q.at m).1)<|λc m=>zK λq=>s<|q ▸ m,λk fs c f d=>?_⟩;rcases zI f with⟨q,_,_⟩ | ⟨_,U⟩
   ·rw[q,O]at d;cases d;exact s
   ·exact R k fs c U d
 ·rcases zI f with⟨_,z,_⟩ | ⟨_,U⟩
  ·cases z
  ·rcases zI d with⟨_,z,_⟩ | ⟨_,n⟩
   ·cases z
   ·exact r.rc.o6.2 j k A B U n
 ·rw[zK (λz=>by rw[z,r.fresh i C a J O]at q;cases q)];exact r.ext.s1 b o q
 ·rw[zK (λz=>by rw[z,g2]at q;cases q)];exact r.ext.sub b o q
 ·rcases zI f with⟨q,_,_⟩ | ⟨_,z⟩
  ·rw[q]at d;exact r.fresh i C b J d
  ·exact r.fresh j fs b z d
 ·rcases zI f with⟨_,z,_⟩ | ⟨l,z⟩
  ·cases z
  ·obtain⟨P,bs,I,Q,R⟩:=r.rc.o6.1 j e z
   rw[d]at I;cases I;rw[zK (show b≠a from λq=>R i C a J O<|by rw[q];exact Ar)]at Y;exact r.p6 j e b p z d Y
end
section
variable{X:Cx}{e a b c:d3}{pos:e6}{st:h5}{q9:List h5}
theorem jQ:K9 X [] q8:=dj fj λD e H d=>by obtain⟨E0,E,a,f,O,b,z,I⟩:=d;cases z;exact I e H a b
theorem ze{F G:CO Fl}(C:i6 X st F)(J:K9 X q9 G):K9 X (st::q9) (zD F G):=dj (vh C J) λD l H O=>by
 obtain⟨E0,E,e,h,Q,g,d,z⟩:=O;obtain⟨I,f,d⟩:=zb d;refine⟨E0,E,e,h,I,g,f,?_⟩;cases I with
 | next a=>exact λi j b R=>⟨E0,E,b,a,Q,R,d,z⟩
 | brk a=>cases d;exact z
 | cont a=>cases d;exact z
 | ret r=>cases d;cases r<;>exact z
theorem zk(C:i6 X st F):K9 X [st] F:=VD C
theorem zx(h:o.map f=di y) : ∃x,o=di x/\f x=y:=by
 cases o with
 | none=>cases h
 | some x=>exact⟨x,rfl,by simpa using h⟩
theorem zN{f:CO D}(h:PV X e f):i6 X (.Return (di e) pos) (xo f):=qT (VF h) λD m H I=>by obtain⟨E0,E,i,l,Q,b,z,O⟩:=I;obtain⟨d,j,z⟩:=zx z;subst z;exact⟨i,l,d,b.rc,j,λv g a x r=>O v g a (b.ext.trans x) r⟩
theorem xj{f:CO (List D)}(h:PO X e f):i6 X (.Return (di e) pos) (wN f):=qT (VF h) λD u H z=>by
 obtain⟨E0,E,l,t,Q,g,d,I⟩:=z;obtain⟨m,n,d⟩:=zx d;subst d;refine⟨l,t,m,g.rc,n,λa s j b x i p O r=>I a s j b (g.ext.trans x) ?_ p O r⟩;cases q:E a with
 | none=>rfl
 | some o=>rw[g.ext.s1 a o q]at i;cases i
theorem xH(i:Nat)(h:PE X e (dZ i)):i6 X (.Return (di e) pos) (wM i):=qT (VF h) λD r H O=>by
 obtain⟨E0,E,l,p,U,f,z,I⟩:=O;unfold wM at z;cases b:p[i]? with
 | none=>rw[b]at z;cases z
 | some c=>
  rw[b]at z;cases c with
  | no=>cases z
  | val d=>
   cases z;obtain⟨v,g,j⟩:=f.rc.val i d b;exact⟨v,g,I v H l f.ext j⟩
  | nest n=>cases z
  | own m=>
   cases z;obtain⟨a,o,g,j,Q,R⟩:=f.rc.own i m b;exact⟨_,g,I a o H l f.ext (f.fresh i m a b g) j Q R⟩
theorem QD:i6 X (.Continue pos) eR:=qT XD λD e H ⟨E0,E,a,f,I,b,d,z⟩=>by cases d;exact z e H a b
theorem yf:i6 X st vF:=qT aS λD f H ⟨E0,E,a,e,z,b,d,I⟩=>by cases d
theorem qS{k:CO Bool}{F G:CO Fl}{x y:List h5}(O:kr X c k)(C:K9 X x F)(Q:K9 X y G):i6 X (.If c x y pos) (js k F G):=qT (pv O C Q) λD i H R=>by
 obtain⟨E0,E,f,e,z,b,d,I⟩:=R;obtain⟨t,g,d⟩:=zb d;refine⟨f,e,t,b.rc,g,λh a x=>?_⟩;cases t with
 | true=>rw[GY rfl]at d ⊢;exact⟨E0,E,a,e,z,b.step x,d,I⟩
 | false=>rw[MQ AB]at d ⊢;exact⟨E0,E,a,e,z,b.step x,d,I⟩
theorem fm(i:Nat){f:CO D}(h:PS X st (Xx (tV X.K f)<|xN i)):i6 X st (jq i f):=qT h λD m H I=>by obtain⟨E0,E,e,j,Q,b,z,O⟩:=I;obtain⟨d,g,z⟩:=zx z;subst z;exact⟨e,j,d,b.rc,g,λv l a x r=>O _ _ a<|(b.step x).o8 r⟩
theorem Jm(i:Nat){f:CO (List D)}(h:PS X st (Xx (tO X.K f)<|xN i)):i6 X st (xA i f):=qT h λD t H z=>by obtain⟨E0,E,g,o,Q,e,d,I⟩:=z;obtain⟨j,l,d⟩:=zx d;subst d;exact⟨g,o,j,e.rc,l,λa s p b x m n O r=>I _ _ b<|e.ID x m n O r⟩
theorem qy(h:jV o=di ds):o=di (.own ds):=by
 cases o with
 | none=>cases h
 | some c=>cases c<;>simp[jV]at h;rw[h]
theorem Yp(i:Nat){f:CO D}(h:PE X e (Hv X.K "list" Vy (dZ i) (iA (tV X.K f) rY)))(R:p8 e dn pos.line X.env=pure dt:=by rfl):i6 X (.Expr e pos) (qC i f):=
 qT (Jo h R) λD A H U=>by
  obtain⟨E0,E,n,t,w,j,z,Y⟩:=U;obtain⟨l,b,z⟩:=zb z;obtain⟨d,s,z⟩:=zb z;have b:=qy b;by_cases I:l.length<lim
  ·rw[GY I]at z;cases z
   obtain⟨a,xs,m,y,O,Q⟩:=j.rc.own i l b;refine⟨_,m,.inl ⟨rfl,_,gR.of O⟩,n,t,d,j.rc,s,λv u g x r=>?_⟩;have o:=j.step x;have p:=x.s1 _ _ O;refine⟨a,xs,v,rfl,rfl,p,?_,?_⟩
   ·exact Aw (by rw[Q.length];exact I)<|k6<|Al _
   ·exact Y _ _ g<|o.rewrite (xs:=xs) b m<|(Q.mono x.s0).append (d0.cons r d0.nil)
  ·rw[MQ I]at z;cases z
end
noncomputable def uM(K:Ab)(C H:Hp)(Q:VK):Res->Prop
 | .val d=>∀v e b,Ext C H b e->Rep K b d v->Q v e
 | .own g=>∀a f e b,Ext C H b e->H a=dn->b a=dn->e a=di (.lst f)->d0 K b g f->Q (.ref a) e
noncomputable def o9(K:Ab)(n:Nat)(F:List D->Option Res):Sp:=λd H Q _=>∃a b r,f6 a H/\d0 K a b d/\b.length=n/\F b=di r/\uM K a H Q r
theorem o9.len{K:Ab}{n:Nat}{F:List D->Option Res}{I:List Str}(d:I.length=n) : ∀C H Q E,o9 K n F C H Q E->C.length=I.length:=λC H Q E h=>by obtain⟨e,f,r,_,a,b,_⟩:=h;rw[a.length,b,d]
section
variable{P:hH}{w:g9}{K:Ab}{mg:GJ}{base:e5}
theorem aG(s:f6 H0 H)(h:d0 K H0 ds vs)(O:ds.length<=N.length):RS K H0 H H0 H (Jc N vs) (jD N.length ds):=by
 have z:=h.length;refine⟨⟨s,by simp[L2.Jc,jD,z],λi d e=>?_,λi g e=>?_,λi j a g fs e _ _ _=>?_,m1.Dh λi f e=>?_⟩,Ext.refl s,λi g a e _=>?_,λi f a m e _ _=>?_⟩
 all_goals unfold jD at e
 ·by_cases b:i<ds.length
  ·rw[Bk (by simpa using b),AM]at e
   cases e1:ds[i]? with
   | none=>rw[e1]at e;cases e
   | some l=>
    rw[e1]at e;cases e;obtain⟨x,I,g2⟩:=h.get e1;refine⟨x,?_,g2⟩;unfold L2.Jc;rw[Bk (by simp;omega),AM,I];rfl
  ·rw[AX (by simpa using b),CG]at e
   split at e<;>cases e
 all_goals
  by_cases b:i<ds.length
  ·rw[Bk (by simpa using b),AM]at e
   cases e1:ds[i]? with
   | none=>rw[e1]at e;cases e
   | some l=>rw[e1]at e;cases e
  ·rw[AX (by simpa using b),CG]at e
   split at e<;>cases e
theorem mH{x qual:Str}{st:h5}{f:dy}{L:ow}{N J:List Str}{k:Nat}{F:CO Fl}(O:L2.A7 K x qual st f L)(S:Ds N J (jd st))
 (R : ∀(C:dV) (A:mA) (outer:List l0) (s:eg) (H:Hp) (E:XK),m3 k (A.deeper<|envOfC qual (jd st) s.heap.objs.size f C)->K9 (gN p9 P w K mg base N qual (jd st) f C A outer s H E).DK (xP st) F) :
 ov P w K mg base p9 (k+1) f L J (o9 K J.length<|jh N.length F):=by
 refine O.ok S (o9.len rfl)<|λC A outer s H y Q E U h=>⟨_,R C A outer s H E U,?_⟩;obtain⟨b,i,r,n,l,t,Y,z⟩:=h;obtain⟨I,j,d⟩:=zb Y;have p:J.length<=N.length:=by have:=congrArg List.length S.pre;rw[EB]at this;omega
 refine⟨b,H,b,jD N.length i,I,aG n l ⋯,j,?_⟩;cases I with
 | ret u=>cases d;cases r<;>exact z
 | next e=>cases d;exact λo g a m=>z .f7 g a m.ext (show V.f7 = .f7 from rfl)
 | brk e=>cases d
 | cont e=>cases d
end
section
variable{X:Cx}{es:List d3}{pos p:e6}{k:Nat}{f:dy}{fd:ow}{ps:List Str}{x:Str}{F:List D->Option Res}{g:CO (List D)}
theorem ff{A0:List d3}(G:ov X.prog X.w X.K X.mg X.base p9 k f fd ps (o9 X.K ps.length F))(J:t9 X es g)(U : ∀γ C,g γ=di C->C.length=ps.length)
 (Y : ∀{t:TA},PA X es t->PE X (.Call (.Name x p) es [] pos) (eo (o9 X.K ps.length F) [] E0 t)):PV X (.Call (.Name x p) es [] pos) (zG F g):=
 jO (Y J) λL H Q u=>by
  obtain⟨l,γ,d,rc,z,q⟩:=u;obtain⟨C,i,z⟩:=zb z;obtain⟨r,n,z⟩:=zx z;refine⟨l,γ,C,rc,i,λE B m x1 y=>⟨m,C,r,x1.sub,by simpa using y,U γ C i,n,?_⟩⟩;subst z;cases r with
  | val d=>exact λv e b I h=>q v e b (x1.trans I) h
  | own fs=>
   refine λa A e b I o j s h=>q _ e _ (x1.trans<|I.show o j s x1.sub) ?_;exact(show ∃O R,V.ref a = .ref O/\gR X.K _ O R/\d0 X.K _ fs R from⟨a,A,rfl,gR.of zH,h.mono<|zS j _⟩)
theorem fE(G:ov X.prog X.w X.K X.mg X.base p9 k f fd ps (o9 X.K ps.length F))(J:t9 X es g)(O : ∀γ C,g γ=di C->C.length=ps.length)
 (R : ∀{t:TA},PA X es t->PE X (.Call (.Name x p) es [] pos) (eo (o9 X.K ps.length F) [] E0 t)):PO X (.Call (.Name x p) es [] pos) (jg F g):=
 jO (R J) λL H Q U=>by
  obtain⟨j,γ,fs,rc,I,q⟩:=U;obtain⟨C,e,I⟩:=zb I;obtain⟨r,Y,I⟩:=zb I;refine⟨j,γ,C,rc,e,λE B l x1 s=>⟨l,C,r,x1.sub,by simpa using s,O γ C e,Y,?_⟩⟩;cases r with
  | val d=>cases I
  | own gs=>
   cases I;exact λa A i b y h m n u=>q a A i b (x1.trans y) (by
    cases z:H a with
    | none=>rfl
    | some o=>rw[x1.s1 a o z]at h;cases h) m n u
end
structure Walk(K:Ab)(H0 Hs:Hp)(J:It)(ds:List D):Prop where
 go : ∀i H1,f6 Hs H1->i<ds.length->J.go i H1
 stop : ∀H1,f6 Hs H1->J.stop ds.length H1
 sd : ∀i H1 x GH,f6 Hs H1->i<ds.length->J.sd i H1 x GH->∃d,ds[i]? = di d/\∀G0,f6 H0 G0->f6 G0 H1->∃GG,Ext G0 H1 GG GH/\Rep K GG d x
theorem Walk.weak{K:Ab}{C H d:Hp}{J:It}{I:List D}(w:Walk K C H J I)(s:f6 H d):Walk K C d J I:=
 ⟨λi a h=>w.go i a<|s.trans h,λa h=>w.stop a<|s.trans h,λi a x b h=>w.sd i a x b<|s.trans h⟩
theorem ZW{k:Sk}{K:Ab}{C H:Hp}{a:dy}{xs:List V}{J:List D}(h:i2 k K H a xs)(r:d0 K C J xs):Walk K C H (GN k K a) J:=by
 have Q:=r.length;refine⟨λi b s m=>?_,λb s=>?_,λi b x f s m y=>?_⟩
 ·have z:i<xs.length:=by omega
  cases k with
  | L=>exact⟨xs,xs[i],s.seq h,Ak z⟩
  | T=>exact⟨xs,xs[i],ll s h,Ak z⟩
 ·cases k with
  | L=>exact⟨xs,s.seq h,by omega⟩
  | T=>exact⟨xs,ll s h,by omega⟩
 ·have e:f=b/\xs[i]? = di x:=by
   cases k with
   | L=>exact⟨y.1,y.2 xs<|s.seq h⟩
   | T=>exact⟨y.1,y.2 xs<|ll s h⟩
  obtain⟨j,I⟩:=e;subst j;obtain⟨d,l,O⟩:=r.D7 I;exact⟨d,l,λg n o=>⟨g,Ext.refl o,O.mono n⟩⟩
theorem yI(lo:Int)(n:Nat):(yd lo n).length=n:=by simp[yd]
theorem Ze{K:Ab}{C H:Hp}(lo:Int)(n:Nat):Walk K C H (xw lo n) (yd lo n):=by
 refine⟨λi b s a=>?_,λb s=>?_,λi b x f s a y=>?_⟩
 ·rw[yI]at a;exact a
 ·rw[yI];exact Al _
 ·rw[yI]at a
  obtain⟨g,d⟩:=y;subst g d;exact⟨.int<|lo+i,by simp[yd,a],λe j h=>⟨e,Ext.refl h,(show V.int (lo+i) = .int (lo+i)from rfl)⟩⟩
theorem ak{I O:Sk}{K:Ab}{L M:Hp}{a b:dy}{xs J:List V}{C H:List D}(S:i2 I K M a xs)(Q:d0 K L C xs)(Z:i2 O K M b J)(r2:d0 K L H J) :
 Walk K L M (FJ I O K a b) (Yb C H):=by
 have B:=Q.length;have E:=r2.length;have A:(Yb C H).length=min C.length H.length:=by simp[Yb]
 refine⟨λi f s t=>?_,λf s=>?_,λi f x j s t y=>?_⟩
 ·exact⟨xs,J,J7 s S,J7 s Z,by omega,by omega⟩
 ·refine⟨xs,J,J7 s S,J7 s Z,?_⟩
  rw[A];omega
 ·obtain⟨p,u,v,n,z,Y,g1,g2⟩:=y
  obtain⟨d,r,w⟩:=Q.D7<|g1 xs<|J7 s S;obtain⟨c,o,l⟩:=r2.D7<|g2 J<|J7 s Z;refine⟨.tup [d,c],?_,λh g e=>⟨upd h p<|.tup [u,v],?_,?_⟩⟩
  ·have m:(C.zip H)[i]? = di (d,c):=List.getElem?_zip_eq_some.mpr ⟨r,o⟩
   simp[Yb,m]
  ·rw[Y];exact Ext.alloc e z _
  ·rw[n]
   exact(show ∃R U,V.ref p = .ref R/\gj K _ R U/\d0 K _ [d,c] U from⟨p,[u,v],rfl,gj.of zH,d0.cons ((w.mono g).mono (zS (jB e z) _))<|d0.cons ((l.mono g).mono (zS (jB e z) _)) d0.nil⟩)
noncomputable def Hx(K:Ab)(C:CO (List D)):TI:=λg H R=>∃d f e,RC K d H g f/\C f=di e/\∀J b a,Ext d H a b->Walk K a b J e->R J b
noncomputable def Gi(K:Ab)(C:CO (List D)):TI:=λg H R=>∃d f e,RC K d H g f/\C f=di e/\∀J b a,Ext d H a b->Walk K a a J e->R J b
abbrev pd(X:Cx)(tg e:d3)(src:CO (List D)):Prop:=PI X tg e (Hx X.K src)
abbrev hR(X:Cx)(tg e:d3)(src:CO (List D)):Prop:=PI X tg e (Gi X.K src)
section
variable{X:Cx}{tg e a b:d3}{pos p:e6}
theorem hR.c(h:hR X tg e src):pd X tg e src:=QG h λj H R ⟨f,i,g,rc,d,q⟩=>⟨f,i,g,rc,d,λJ b a x w=>q J b a x<|w.weak x.sub⟩
theorem zU(h:PQ X e f):pd X tg e (zB f):=QG (dr h) λs H R d=>by obtain⟨j,o,p,rc,z,q⟩:=d;obtain⟨⟨k,m⟩,l,I⟩:=zx z;subst I;exact⟨j,o,k,m,rc,l,λa n i b x g _ r=>⟨a,k,rfl,⟨n,g⟩,q _ i b x<|ZW g r⟩⟩
theorem xI(h:PV X e f):hR X tg e (zB<|zq f):=QG (dr h) λt H R O=>by
 obtain⟨o,p,s,rc,Q,q⟩:=O;obtain⟨⟨k,l⟩,g,z⟩:=zx Q;subst z;obtain⟨d,U,g⟩:=zb g;refine⟨o,p,d,rc,U,λv n b x r=>?_⟩;cases d with
 | tup fs=>
  obtain⟨z,I⟩:k = .T/\l=fs:=by simp[jf]at g;exact⟨g.1.symm,g.2.symm⟩
  subst z I;obtain⟨a,i,rfl,j,m⟩:=(show ∃a i,v = .ref a/\gj X.K b a i/\d0 X.K b l i from r);exact⟨a,.T,rfl,⟨i,ll x.sub j⟩,q _ n b x<|ZW (k:= .T) j m⟩
 | lst fs=>
  obtain⟨z,I⟩:k = .L/\l=fs:=by simp[jf]at g;exact⟨g.1.symm,g.2.symm⟩
  subst z I;obtain⟨a,i,rfl,j,m⟩:=(show ∃a i,v = .ref a/\gR X.K b a i/\d0 X.K b l i from r);exact⟨a,.L,rfl,⟨i,x.sub.seq j⟩,q _ n b x<|ZW (k:= .L) j m⟩
 | _=>simp[jf]at g
theorem jJ(h:i4 d=di i):d = .int i:=by cases d<;>simp[i4]at h;rw[h]
theorem JA(h:inR i=dk) : -(2 ^ 62)<=i/\i<2 ^ 62:=by unfold inR at h;have h:=of_decide_eq_true h;omega
theorem Yt(Q:Gl X "range")(U:X.mg "range" = dn)(C:PV X a f)(O:e9 [a] X.env=[(dt,ej a X.env)]:=by rfl):hR X tg (.Call (.Name "range" p) [a] [] pos) (zC f):=
 QG (VP Q U (jr C qb O) O) λs H R Y=>by
  obtain⟨h,m,o,rc,z,q⟩:=Y;obtain⟨n,e,z⟩:=zb z;obtain⟨d,i,e⟩:=zb e;by_cases I:inR n=dk
  ·rw[GY I]at z;cases z
   refine⟨h,m,d,rc,i,λv g b x r=>?_⟩;rw[jJ e]at r;obtain⟨j,l⟩:=JA I;exact⟨n,by rw[show v = .int n from r],j,l,q _ g b x<|Ze 0 n.toNat⟩
  ·rw[MQ I]at z;cases z
theorem Ys(Y:Gl X "range")(M:X.mg "range" = dn)(J:PV X a f)(L:PV X b g)(U:e9 [a,b] X.env=[(dt,ej a X.env),(dt,ej b X.env)]:=by rfl)(O:e9 [b] X.env=[(dt,ej b X.env)]:=by rfl) :
 hR X tg (.Call (.Name "range" p) [a,b] [] pos) (Xy f g):=
 QG (VO Y M (jr J (jr L qb O)<|by rw[U,O]) U O) λN H R C=>by
  obtain⟨l,j,K,rc,z,q⟩:=C;obtain⟨m,h,z⟩:=zb z;obtain⟨d,t,h⟩:=zb h;obtain⟨n,Q,z⟩:=zb z;obtain⟨c,u,Q⟩:=zb Q;by_cases I:inR m=dk/\inR n=dk
  ·rw[GY I]at z;cases z
   refine⟨l,j,d,rc,t,λv G e x r=>⟨e,j,c,rc.ext x,u,λE o s F i=>?_⟩⟩;rw[jJ h]at r;rw[jJ Q]at i;obtain⟨w,y⟩:=JA I.1;obtain⟨A,B⟩:=JA I.2;exact⟨m,n,by rw[show v = .int m from r,show E = .int n from i],⟨w,y,A,B⟩,q _ o s (x.trans F)<|Ze m (n - m).toNat⟩
  ·rw[MQ I]at z;cases z
theorem Vq{K:Ab}{H:Hp}{d:D}{v:V}{k:Sk}{C:List D}(r:Rep K H d v)(e:jf d=di (k,C)) : ∃a xs,v = .ref a/\i2 k K H a xs/\d0 K H C xs:=by
 cases d with
 | tup fs=>simp[jf]at e;obtain⟨b,z⟩:=e;subst b z;exact r
 | lst fs=>simp[jf]at e;obtain⟨b,z⟩:=e;subst b z;exact r
 | _=>simp[jf]at e
theorem fF{f g:CO D}{C:List d3}{x1:Nat}{J:e6}(S:Gl X "zip")(Z:X.mg "zip" = dn)(L:PV X a f)(M:PV X b g)(U:e9 [a,b] X.env=[(dt,ej a X.env),(dt,ej b X.env)]:=by rfl)(O:e9 [b] X.env=[(dt,ej b X.env)]:=by rfl) :
 hR X (.Tuple C x1 J) (.Call (.Name "zip" p) [a,b] [] pos) (cN f g):=
 QG (lx S Z (jr L (jr M qb O)<|by rw[U,O]) PyProof.Rows.boot_zip U O) λW H R A=>by obtain⟨j,i,P,rc,z,q⟩:=A;obtain⟨⟨B,m⟩,h,z⟩:=zb z;obtain⟨d,u,h⟩:=zb h;obtain⟨⟨E,n⟩,Q,z⟩:=zx z;obtain⟨c,w,Q⟩:=zb Q;subst z;refine⟨j,i,d,rc,u,λv N e x r=>⟨e,i,c,rc.ext x,w,λT l t I F=>?_⟩⟩;obtain⟨o,G,rfl,Y,g2⟩:=Vq (r.mono I.s0) h;obtain⟨s,K,rfl,g3,y⟩:=Vq F Q;exact⟨B,E,o,s,rfl,⟨G,J7 I.sub Y⟩,⟨K,J7 I.sub g3⟩,q _ l t (x.trans I)<|ak Y g2 g3 y⟩
end
noncomputable def Zk:List Nat->List V->St->St
 | i::is,v::vs,σ=>Zk is vs<|σ.set i<|some v
 | _,_,σ=>σ
def gs:List Nat->C6
 | []=>sI
 | i::is=>mF (xN i)<|gs is
noncomputable def n0(K:Ab):Tg->TG
 | .nm i=>xN i
 | .tp is=>sH K is.length<|gs is
theorem XY : ∀{is:List Nat} {C:List V} {I:St} {H:Hp} {Q:St->Hp->Prop},C.length=is.length->Q (Zk is C I) H->gs is C I H Q
 | [],[],_,_,_,_,q=>⟨rfl,q⟩
 | i::is,v::C,I,H,Q,hl,q=>⟨v,C,rfl,XY (by simpa using hl) q⟩
 | [],_::_,_,_,_,hl,_=>by simp at hl
 | _::_,[],_,_,_,hl,_=>by simp at hl
theorem RS.Dl{K:Ab}{E0 E L H:Hp} : ∀{is:List Nat} {C:List D} {I:List V} {J:St} {γ:Ctx},RS K E0 E L H J γ->d0 K L C I->RS K E0 E L H (Zk is I J) (j6 is C γ)
 | [],C,I,J,γ,r,h=>by cases C<;>cases I<;>exact r
 | i::is,[],I,J,γ,r,h=>by rw[h.o3];exact r
 | i::is,d::C,I,J,γ,r,h=>by obtain⟨x,t,e,a,b⟩:=h.m6;subst e;show RS K E0 E L H (DL.Zk is t<|J.set i<|some x) (j6 is C<|γ.set i<|.val d);exact RS.Dl (r.o8 a) b
theorem RC.Dl{K:Ab}{L H:Hp} : ∀{is:List Nat} {C:List D} {I:List V} {J:St} {γ:Ctx},RC K L H J γ->d0 K L C I->RC K L H (Zk is I J) (j6 is C γ)
 | [],C,I,J,γ,r,h=>by cases C<;>cases I<;>exact r
 | i::is,[],I,J,γ,r,h=>by rw[h.o3];exact r
 | i::is,d::C,I,J,γ,r,h=>by obtain⟨x,t,e,a,b⟩:=h.m6;subst e;show RC K L H (DL.Zk is t<|J.set i<|some x) (j6 is C<|γ.set i<|.val d);exact RC.Dl (r.o8 a) b
theorem wA{K:Ab}{C H:Hp}{T:Tg}{d:D}{v:V}{J:St}{γ z:Ctx}{Q:St->Hp->Prop}(s:f6 C H)(h:Rep K C d v)(e:jY T d γ=di z)
 (q : ∀I,(RC K C H J γ->RC K C H I z)->(∀E0 E,RS K E0 E C H J γ->RS K E0 E C H I z)->Q I H):n0 K T v J H Q:=by
 cases T with
 | nm i=>cases e;exact q _ (λr=>r.o8 h) λE0 E r=>r.o8 h
 | tp is=>
  cases d with
  | tup g=>
   simp only[jY]at e;by_cases O:g.length=is.length
   ·rw[GY O]at e;cases e
    obtain⟨a,b,rfl,j,f⟩:=(show ∃a b,v = .ref a/\gj K C a b/\d0 K C g b from h);have R:b.length=is.length:=by rw[f.length,O]
    exact⟨a,b,rfl,ll s j,R,XY R<|q _ (λr=>r.Dl f) λE0 E r=>r.Dl f⟩
   ·rw[MQ O]at e;cases e
  | _=>simp[jY]at e
theorem Ext.rebase{E0 E d C H B:Hp}(e:Ext E0 E d B)(x:Ext d E C H):Ext E0 E C H:=
 ⟨e.s0.trans x.s0,x.s1,x.sub,λa f b=>x.new a (e.new a f b) b⟩
theorem Ext.base{E0 E d B:Hp}(e:Ext E0 E d B):Ext d E d B:=⟨f6.refl _,e.s1,e.sub,λa h _=>h⟩
theorem Sat.rebase{K:Ab}{E0 E I B:Hp}{D:Ends}{z:Fl}(e:Ext E0 E I B)(h:Sat K E0 E D z):Sat K I E D z:=by
 cases z with
 | next g=>exact λf H b r=>h f H b ⟨r.rc,e.rebase r.ext,r.fresh,r.p6⟩
 | brk g=>exact λf H b r=>h f H b ⟨r.rc,e.rebase r.ext,r.fresh,r.p6⟩
 | cont g=>exact λf H b r=>h f H b ⟨r.rc,e.rebase r.ext,r.fresh,r.p6⟩
 | ret r=>
  cases r with
  | val d=>exact λv H b x q=>h v H b (e.rebase x) q
  | own m=>exact λa l H b x i j O q=>h a l H b (e.rebase x) i j O q
section
variable{X:Cx}{tg iter:d3}{body:List h5}{pos:e6}
theorem ft{C:CO (List D)}{T:Tg}{F:CO Fl}(hp:Dy (el X.prog X.w) X.A X.env X.xe)(hc:X.calm=dk)(L:hR X tg iter C)(hg:PG X tg (n0 X.K T))(hb:K9 X body F)
 (hs : ∀x,nf iter X.env x=pure x:=by intro _;rfl):i6 X (.For tg iter body [] pos) (x9 C T F):=
 qT (dm hp hc L hg hb hs) λD h H hZ=>by
  obtain⟨E0,E,g,f,I,b,z,Q⟩:=hZ;obtain⟨a,Z,z⟩:=zb z;refine⟨g,f,a,b.rc,Z,λJ H1 O x1 o=>?_⟩;have xb:=b.step x1;have u:=xb.ext;refine⟨λi m h H=>m=a.length - i/\i<=a.length/\∃g f I,RS X.K O E g H h f/\qf T F (a.drop i) f=di I/\Sat X.K O E D I,⟨_,rfl,BB _,O,f,I,⟨xb.rc,u.base,xb.fresh,xb.p6⟩,z,Q.rebase u⟩,?_⟩;rintro i m h H ⟨rfl,L,g,f,I,b,z,Q⟩;have Y:f6 O H:=b.ext.s0.trans b.ext.sub;by_cases R:i<a.length
  ·refine .inr ⟨o.go i H Y R,λh H=>i+1<=a.length/\∃g f I,RS X.K O E g H h f/\qf T F (a.drop<|i+1) f=di I/\Sat X.K O E D I,λDq t n=>⟨a.length - (i+1),by omega,rfl,n.1,n.2⟩,λx t y=>?_⟩
   obtain⟨d,B,hx⟩:=o.sd i H x t Y R y;obtain⟨M,G,rg⟩:=hx g b.ext.s0 b.rc.sub;have P:a.drop i=d::a.drop (i+1):=by
    have S:d=a[i]:=by rw[Ak R]at B;exact(AG B).symm
    rw[S];exact En R
   rw[P]at z;simp only[qf]at z;obtain⟨p,eb,z⟩:=zb z;obtain⟨f1,eF,z⟩:=zb z;refine wA G.sub rg eb λHF _ W=>⟨O,E,M,p,f1,W O E<|b.step G,eF,?_⟩;cases f1 with
   | next U=>exact λs N j l=>⟨R,j,U,I,l,z,Q⟩
   | cont U=>exact λs N j l=>⟨R,j,U,I,l,z,Q⟩
   | brk U=>cases z;exact Q
   | ret r=>cases z;cases r<;>exact Q
  ·have e:i=a.length:=by omega
   subst e;rw[Fq]at z;cases z;exact .inl ⟨o.stop H Y,Q h H g b⟩
end
theorem qQ(h:(je n fr γ)[i]? = di c):c = .no\/(∃d j,c = .val d/\n<=i/\fr[i - n]? = di j/\γ[j]? = di (.val d)):=by
 unfold je at h;by_cases b:i<n
 ·rw[Bk (by simpa using b),CG,GY b]at h
  exact .inl (AG h).symm
 ·rw[AX (by simpa using b),AM,List.length_replicate]at h
  cases e:fr[i - n]? with
  | none=>rw[e]at h;cases h
  | some j=>
   rw[e]at h;have a:qX (γ[j]?.getD .no)=c:=by simpa using h
   cases e2:γ[j]? with
   | none=>rw[e2]at a;exact .inl a.symm
   | some z=>
    rw[e2]at a;cases z with
    | no=>exact .inl a.symm
    | own g=>exact .inl a.symm
    | nest f=>exact .inl a.symm
    | val d=>exact .inr ⟨d,j,a.symm,by omega,rfl,e2⟩
theorem RC.pull{K:Ab}{J H:Hp}{L:St}{γ:Ctx}{own:List Str}{C:List (Str×Nat)}(r:RC K J H L γ):RC K J H (L2.dh own C L) (je own.length (C.map (·.2)) γ):=by
 refine⟨r.sub,by simp[L2.dh,je],λi d h=>?_,λi e h=>?_,λi j a e l h _ _ _=>?_,m1.Dh λi b h=>?_⟩
 ·rcases qQ h with z | ⟨d',j,z,hi,I,O⟩
  ·cases z
  ·cases z
   obtain⟨v,f,g⟩:=r.val j d O;refine⟨v,?_,g⟩;rw[AM]at I;cases q:C[i - own.length]? with
   | none=>rw[q]at I;cases I
   | some p=>
    rw[q]at I;have Q:p.2=j:=by simpa using I
    unfold L2.dh;rw[AX (by simpa using hi),AM,Ay,q];simp[Q,f]
 ·rcases qQ h with z | ⟨d',j,z,_⟩<;>cases z
 ·rcases qQ h with z | ⟨d',j,z,_⟩<;>cases z
 ·rcases qQ h with z | ⟨d',j,z,_⟩<;>cases z
theorem RC.weak{K:Ab}{L H:Hp}{M:St}{γ γ':Ctx}(r:RC K L H M γ)(I:γ'.length=γ.length)(O : ∀(i:Nat) d,γ'[i]? = di (.val d)->γ[i]? = di (.val d))(z : ∀(i:Nat) C,γ'[i]? ≠ di (.own C))(Q : ∀(i:Nat) J,γ'[i]? ≠ di (.nest J)):RC K L H M γ':=
 ⟨r.sub,by rw[I];exact r.len,λi d h=>r.val i d<|O i d h,λi C h=>absurd h<|z i C,λi j a C b h _ _ _=>absurd h<|z i C,m1.Dh Q⟩
theorem RC.upd{K:Ab}{L H:Hp}{M:St}{γ:Ctx}{D:dy}{o:HO}(r:RC K L H M γ)(O:L D=dn)(d : ∀(i:Nat) C,γ[i]? ≠ di (.own C))(I : ∀(i:Nat) J,γ[i]? ≠ di (.nest J)):RC K L (upd H D o) M γ:=
 ⟨λb u q=>by rw[zK (λz=>by rw[z,O]at q;cases q)];exact r.sub b u q,r.len,r.val,λi C h=>absurd h<|d i C,λi j a C e h _ _ _=>absurd h<|d i C,m1.Dh I⟩
theorem vB : ∀{is:List Nat} {C:List D} {γ:Ctx},(j6 is C γ).length=γ.length
 | [],C,γ=>by cases C<;>rfl
 | i::is,[],γ=>rfl
 | i::is,d::C,γ=>by show(j6 is C<|γ.set i<|.val d).length=_;rw[vB];simp
theorem vC : ∀{is:List Nat} {C:List D} {γ:Ctx} {i:Nat},i∉is->(j6 is C γ)[i]? = γ[i]?
 | [],C,γ,i,_=>by cases C<;>rfl
 | j::is,[],γ,i,_=>rfl
 | j::is,d::C,γ,i,h=>by show(j6 is C<|γ.set j<|.val d)[i]? = _;rw[vC (λz=>h<|Ax _ z),Ai (λz=>h<|by rw[<- z];exact Ar)]
theorem WT(h:jY T d γ=di DS):DS.length=γ.length/\∀i,i∉T.idx->DS[i]? = γ[i]? :=by
 cases T with
 | nm j=>cases h;exact⟨by simp,λi a=>Ai<|λz=>a<|by simp[Tg.idx,z]⟩
 | tp is=>
  cases d with
  | tup b=>
   simp only[jY]at h;by_cases I:b.length=is.length
   ·rw[GY I]at h;cases h;exact⟨vB,λi a=>vC a⟩
   ·rw[MQ I]at h;cases h
  | _=>simp[jY]at h
section
variable{K:Ab}{own:List Str}{fr:List (Str×Nat)}{src:CO (List D)}{T:Tg}{k:CO Bool}{f:CO D}
theorem yt(hT : ∀i∈T.idx,i<own.length)(bv : ∀C H Q,tT K k C H Q->tt C H Q) : ∀C H Q,tO K (zE src T own.length (fr.map (·.2)) k f) C H Q->av (Hx K src) own fr (n0 K T) tt (tV K f) C H Q:=λC H Q hZ=>by
 obtain⟨H0,s,ds,rc,U,q⟩:=hZ;obtain⟨O,e1,U⟩:=zb U;by_cases hl:O.length<=lim
 ·rw[GY hl]at U
  refine⟨H0,s,O,rc,e1,λJ H1 N x1 wk D u=>?_⟩;have P : ∀(i:Nat) es,(je own.length (fr.map (·.2)) s)[i]? ≠ di (.own es):=λi es h=>by rcases qQ h with z | ⟨d',j,z,_⟩<;>cases z
  have S : ∀(i:Nat) A,(je own.length (fr.map (·.2)) s)[i]? ≠ di (.nest A):=λi es h=>by rcases qQ h with z | ⟨d',j,z,_⟩<;>cases z
  have as:N D=dn:=jB x1.sub u;have c1:H D=dn:=by
   cases z:H D with
   | none=>rfl
   | some o=>rw[x1.s1 D o z]at u;cases u
  refine⟨λi m l E g=>m=O.length - i/\i<=O.length/\l.length<=i/\g D=di (.lst l)/\∃a t G,RC K a g E (je own.length (fr.map (·.2)) s)/\a D=dn/\Ext N H1 a g/\d0 K a t l/\zL T k f (je own.length (fr.map (·.2)) s) (O.drop i)=di G/\ds=t++G,
   ⟨_,rfl,BB _,Al _,zH,N,[],ds,((rc.ext x1).pull).upd as P S,as,Ext.hide x1.sub u _,d0.nil,U,rfl⟩,?_⟩
  rintro i m l E g ⟨rfl,hi,hy,L,a,t,G,W,ax,Y,r',I,rfl⟩;refine⟨L,?_⟩;by_cases p:i<O.length
  ·refine .inr ⟨wk.go i g Y.s1 p,?_,λx X y=>?_⟩
   ·have:=k6<|Al lim;omega
   obtain⟨d,hd,hx⟩:=wk.sd i g x X Y.s1 p y;obtain⟨G0,R,rg⟩:=hx a Y.s0 W.sub;have c4:O.drop i=d::O.drop (i+1):=by
    have c5:d=O[i]:=by rw[Ak p]at hd;exact(AG hd).symm
    rw[c5];exact En p
   rw[c4]at I;simp only[zL]at I;obtain⟨n,eb,I⟩:=zb I;obtain⟨b,ek,I⟩:=zb I;have c7:G0 D=dn:=R.new D ax (by rw[L];simp);have b5:X D=di (.lst l):=R.s1 _ _ L;obtain⟨bl,bg⟩:=WT eb;have b6 : ∀{F:St} {G2 H2:Hp},RC K G2 H2 F n->RC K G2 H2 F (je own.length (fr.map (·.2)) s):=λr=>r.weak bl.symm (λj d' hj=>by
    by_cases hm:j∈T.idx
    ·rcases qQ hj with z | ⟨d2,j2,_,hn,_⟩
     ·cases z
     ·exact absurd (hT j hm) ⋯
    ·rw[bg j hm];exact hj) P S
   refine wA R.sub rg eb λHF bd _=>bv HF X _ ⟨G0,n,b,bd<|W.ext R,ek,λH3 Z x3=>?_⟩;have am:=(bd<|W.ext R).ext x3;have xa:=Y.trans<|R.trans x3;have bi:Z D=dn:=x3.new D c7 (by rw[b5];simp);have an:H3 D=di (.lst l):=x3.s1 _ _ b5;cases b with
   | true=>
    dsimp only;rw[GY rfl]at I ⊢;obtain⟨e,ee,I⟩:=zb I;obtain⟨q9,er,I⟩:=zx I;refine⟨Z,n,e,am,ee,λv H4 bm B r4=>?_⟩;have ap:bm D=dn:=B.new D bi (by rw[an];simp);have ci:H4 D=di (.lst l):=B.s1 _ _ an;have M:=xa.trans B;refine⟨ci,O.length - (i+1),by omega,rfl,p,by rw[m5,BY];omega,zH,bm,t++[e],q9,(b6<|am.ext B).upd ap P S,ap,?_,(r'.mono<|(R.trans<|x3.trans B).s0).append (d0.cons r4 d0.nil),er,?_⟩
    ·exact⟨M.s0,λc o z=>by rw[zK (λw=>by rw[w,u]at z;cases z)];exact M.s1 c o z,λc o z=>by rw[zK (λw=>by rw[w,ap]at z;cases z)];exact M.sub c o z,M.new⟩
    ·rw[<- I];simp
   | false=>
    dsimp only;rw[MQ AB]at I ⊢;exact⟨O.length - (i+1),by omega,rfl,p,by omega,an,Z,t,G,b6 am,bi,xa,r'.mono<|(R.trans x3).s0,I,rfl⟩
  ·have e:i=O.length:=by omega
   subst e;rw[Fq]at I;cases I;rw[Bp]at q;exact .inl ⟨wk.stop g Y.s1,q D l g a (x1.trans Y) c1 ax L r'⟩
 ·rw[MQ hl]at U;cases U
end
section
variable{X:Cx}{scope:hA}{own:List Str}{fr:List (Str×Nat)}{elt tg iter c:d3}{pos:e6}{src:CO (List D)}{T:Tg}{k:CO Bool}{f:CO D}
theorem fD(d:X.calm=dk)(ok:oe X scope fr)(z : ∀i∈T.idx,i<own.length)(M:pd X tg iter src)(I : ∀fp J C,PG (z6 X scope (own++fr.map (·.1)) fp J C) tg<|n0 X.K T)
 (L : ∀fp J C,PV (z6 X scope (own++fr.map (·.1)) fp J C) elt f) (O : ∀x,nf iter X.env x=pure x:=by intro _;rfl) :
 PO X (.ListComp elt [⟨tg,iter,[],0⟩] scope pos) (zE src T own.length (fr.map (·.2)) z7 f):=
 jO (XE d ok M I (λ_ _ _=>KF) L O) (yt z λg H Q ⟨a,e,b,rc,R,q⟩=>by cases R;exact q H a<|Ext.refl rc.sub)
theorem VJ(d:X.calm=dk)(ok:oe X scope fr)(z : ∀i∈T.idx,i<own.length)(M:pd X tg iter src)(I : ∀fp J C,PG (z6 X scope (own++fr.map (·.1)) fp J C) tg<|n0 X.K T)
 (hk : ∀fp J C,kr (z6 X scope (own++fr.map (·.1)) fp J C) c k) (L : ∀fp J C,PV (z6 X scope (own++fr.map (·.1)) fp J C) elt f) (O : ∀x,nf iter X.env x=pure x:=by intro _;rfl) :
 PO X (.ListComp elt [⟨tg,iter,[c],0⟩] scope pos) (zE src T own.length (fr.map (·.2)) k f):=
 jO (XE d ok M I (λfp J C=>KD<|hk fp J C) L O) (yt z λa H Q h=>h)
theorem aT(d:X.N.Nodup)(z:X.N[i]? = di y)(I:Loc X.env.scope y)(O:X.fn y=dk\/X.env.scope.names.lookup y=di .local)
 (R:X.calm=dk) (ok:oe X scope fr) (U : ∀i∈T.idx,i<own.length) (M:pd X tg iter src) (Y : ∀fp J C,PG (z6 X scope (own++fr.map (·.1)) fp J C) tg<|n0 X.K T)
 (L : ∀fp J C,PV (z6 X scope (own++fr.map (·.1)) fp J C) elt f) (S : ∀x,nf iter X.env x=pure x:=by intro _;rfl) :
 PS X (.Assign [.Name y py] (.ListComp elt [⟨tg,iter,[],0⟩] scope pos) spos) (Xx (tO X.K<|zE src T own.length (fr.map (·.2)) z7 f)<|xN i):=
 qT (Zu d z I O R ok M Y (λ_ _ _=>KF) L S) λD a H h=>yt U (λa H Q j=>by obtain⟨e,l,b,rc,g,q⟩:=j;cases g;exact q H e<|Ext.refl rc.sub) a H _ h
theorem Yq(d:X.N.Nodup)(z:X.N[i]? = di y)(I:Loc X.env.scope y)(O:X.fn y=dk\/X.env.scope.names.lookup y=di .local)
 (R:X.calm=dk) (ok:oe X scope fr) (U : ∀i∈T.idx,i<own.length) (M:pd X tg iter src) (Y : ∀fp J C,PG (z6 X scope (own++fr.map (·.1)) fp J C) tg<|n0 X.K T)
 (hk : ∀fp J C,kr (z6 X scope (own++fr.map (·.1)) fp J C) c k) (L : ∀fp J C,PV (z6 X scope (own++fr.map (·.1)) fp J C) elt f) (S : ∀x,nf iter X.env x=pure x:=by intro _;rfl) :
 PS X (.Assign [.Name y py] (.ListComp elt [⟨tg,iter,[c],0⟩] scope pos) spos) (Xx (tO X.K<|zE src T own.length (fr.map (·.2)) k f)<|xN i):=
 qT (Zu d z I O R ok M Y (λfp J C=>KD<|hk fp J C) L S) λD a H h=>yt U (λa H Q h=>h) a H _ h
end
theorem jN{K:Ab}{H:Hp}{i:Int}{v:V}(h:Rep K H (.int i) v):v = .int i:=h
theorem ay{K:Ab}{g:Int->Int->D}{z:Int->Int->V}(O : ∀H i j,Rep K H (g i j)<|z i j):l4 K (o7 z) (dI g):=λa H x y b R d Q s rx U I q=>by cases b<;>cases R<;>simp[dI]at I;subst I;exact⟨_,_,jN rx,jN U,q _ H a (Ext.refl s)<|O a _ _⟩
theorem Vm{K:Ab}{C:Int->Int->Prop}{c:Int->Int->Bool}{g:Int->Int->D}{z:Int->Int->V}(O : ∀i j,c i j=dk->C i j)(R : ∀H i j,Rep K H (g i j)<|z i j):l4 K (rI C z) (DD c g):=λa H x y b U d Q s rx Y I q=>by cases b<;>cases U<;>simp[DD]at I;obtain⟨e,f⟩:=I;subst f;exact⟨_,_,jN rx,jN Y,O _ _ e,q _ H a (Ext.refl s)<|R a _ _⟩
theorem eB{K:Ab}:l4 K (o7 λi j=> .int (i - j)) w5:=ay λ_ _ _=>rfl
theorem cE(h:wI i j=dk):C3 i j:=by unfold wI at h;rw[Bh,decide_eq_true_eq,decide_eq_true_eq]at h;unfold C3;omega
theorem eK{K:Ab}:l4 K (rI tK λi j=> .int (i/j)) YL:=Vm (λi j h=>by unfold mQ at h;rw[As,decide_eq_true_eq,decide_eq_true_eq]at h;exact⟨h.1,by omega⟩) λ_ _ _=>rfl
theorem eJ{K:Ab}:l4 K (rI (λ_ j=>0<j) λi j=> .int (i%j)) xE:=Vm (λi j h=>by unfold nT at h;exact of_decide_eq_true h) λ_ _ _=>rfl
theorem eC{K:Ab}:l4 K (rI tJ λi j=> .int (i ^ j.toNat)) gM:=Vm (λi j h=>by unfold mP at h;rw[As,As,decide_eq_true_eq,decide_eq_true_eq,decide_eq_true_eq]at h;exact⟨h.1.1,by omega,h.2⟩) λ_ _ _=>rfl
theorem Vl{K:Ab}:l4 K (o7 λi j=> .bl (decide<|i<j)) C8:=ay λ_ _ _=>rfl
theorem cL{K:Ab}:l4 K (o7 λi j=> .bl (decide<|i<=j)) DE:=ay λ_ _ _=>rfl
theorem cM{K:Ab}:l4 K (o7 λi j=> .bl (decide<|j<i)) n2:=ay λ_ _ _=>rfl
section
variable{X:Cx}
noncomputable def cU(K:Ab):R2:=λx y H Q=>∃a b d e,x = .ref a/\y = .ref b/\gj K H a d/\gj K H b e/\d.length+e.length<=eG/\
 (d=[]->Q (.ref b) H)/\(e=[]->Q (.ref a) H)/\∀p,H p=dn->Q (.ref p) (upd H p<|.tup<|d++e)
theorem bh:hL X (p4 .Add) (cU X.K):=by
 intro w s σ H x y v u Q I rx T h;obtain⟨a,b,A,Z,rfl,rfl,J,L,t,N,P,S⟩:=h;cases rx;cases T;obtain⟨d,r,O,z1⟩:=I.tuple J;obtain⟨B,g,R,z2⟩:=I.tuple L;by_cases f:A=[]
 ·have e:d=[]:=(r.E5).mpr f
  obtain⟨⟨F,G,m,W⟩,U,Y,n,p⟩:=id O;obtain⟨⟨an,C,data2,E⟩,i,j,M,l⟩:=id R;simp only at Y p j l;subst Y p j l;exact Fz ⟨_,U,rfl⟩ ⟨_,i,rfl⟩ GF Ho Ew Et (Ej _ _)
   (tuple_addW0 a b d.toArray B.toArray n M G C W E<|by simp[e]) ⟨U,i,⟨.ref b,H,I,rfl,N f⟩⟩
 ·have e:d ≠ []:=λz=>f ((r.E5).mp z)
  refine HT.rh O R e (λz=>⟨.ref a,H,I,rfl,P<|(g.E5).mp z⟩) (λ_=>?_) (by rw[<- r.length,<- g.length];exact t);refine⟨.ref s.heap.objs.size,_,I.laid (t':=s.toks) (o:= .tup (A++Z)) (λc ob q=>Ae _ q) (Al _) ?_,rfl,S _<|I.e4.fresh<|Al _⟩;exact⟨by rw[m5];exact t,_,r.append g,sj.new _ _⟩
noncomputable def iS(K:Ab):R2:=λx y H Q=>∃l b a d,x = .ref l/\y = .ref b/\gR K H l a/\gR K H b d/\a.length+d.length<=eG/\∀p,H p=dn->Q (.ref p) (upd H p<|.lst<|a++d)
theorem bj:hL X (p4 .Add) (iS X.K):=by
 intro a s J H x y v u Q I rx E h;obtain⟨l,b,Z,zs,rfl,rfl,A,w,S,q⟩:=h;cases rx;cases E;obtain⟨d,r,⟨o,n,e,O,R,U⟩,z1⟩:=I.list A;obtain⟨z,j,⟨C,B,Y,f,g,i⟩,z2⟩:=I.list w;have T:=r.length;have W:=j.length;obtain⟨cls,ih,P,G⟩:=o;obtain⟨L,M,N,m⟩:=C;simp only at O R U f g i;subst O R U f g i;have p:EP X a J Q (.ref s.heap.objs.size) {s with heap:=s.heap.push {cls:= .type "list",data:= .seq (d++z).toArray}}:=
  ⟨.ref _,_,I.Iq (t':=s.toks) (r.append j) (by rw[m5];omega),rfl,q _ I.fresh⟩
 have t:d.toArray++z.toArray=(d++z).toArray:=by simp
 refine Fz ⟨_,e,rfl⟩ ⟨_,Y,rfl⟩ noFill_list_add seq_list_add PySem.F.slot_list_add PySem.F.entry_list_add (PySem.F.args_list_add_2 _ _)
  (list_addW l b d.toArray z.toArray n B dn dn G m<|by rw[Aj,Aj];omega) ⟨e,Y,?_⟩
 rw[t];exact p
end
noncomputable def xG(scope C:hA):hA:={scope with names:=scope.names.map λp=>if p.2==AD && C.kind == .function && C.names.lookup p.1==di .cell then (p.1,Cb)else (p.1,p.2)}
theorem Yo(scope:hA)(env:l0):rr scope env=xG scope env.scope:=by unfold rr xG;rfl
structure SX(X:Cx)(sc:hA)(N T:List Str)(k:Nat):Prop where
 Dd:X.env.scope=sc
 eN:X.N=N
 nd:N.Nodup
 calm:X.calm=dk
 room:m3 k X.A
 fn : ∀x∈T,X.fn x=dk\/sc.names.lookup x=di .local
noncomputable def JW(C:hA)(N:List Str)(i:Nat)(x:Str):Bool:=
 decide (N[i]? = di x) && (decide (C.names.lookup x=di .local) || decide (C.names.lookup x=di .cell) || decide (C.names.lookup x=di .free)) && !(x==("__debug__" : Str)) && !(x==("__classdict__" : Str))
noncomputable def kK(C:hA)(N T:List Str)(i:Nat)(x:Str):Bool:=decide (x∈T) && decide (N[i]? = di x) && (decide (C.names.lookup x=di .local) || decide (C.names.lookup x=di .cell))
noncomputable def yO(C:hA)(x:Str):Bool:=decide (C.names.lookup x=di .globalImplicit) && !(x==("__name__" : Str)) && !(x==("__debug__" : Str))
section
variable{X:Cx}{sc:hA}{N T:List Str}{k:Nat}{i:Nat}{x:Str}{pos:e6}
theorem SX.var(h:SX X sc N T k)(c:JW sc N i x=dk):PE X (.Name x pos) (dZ i):=by
 unfold JW at c;simp only[As,Bh,decide_eq_true_eq,Eu]at c;obtain⟨⟨⟨a,h2⟩,d⟩,z⟩:=c;refine lB (by rw[h.eN];exact a) ?_ d z;unfold FO;rw[h.Dd];rcases h2 with(h2 | h2) | h2
 ·exact .inl h2
 ·exact .inr<|.inl h2
 ·exact .inr<|.inr h2
theorem SX.loc(h:SX X sc N T k)(c:kK sc N T i x=dk):X.N[i]? = di x/\L2.Loc X.env.scope x/\(X.fn x=dk\/X.env.scope.names.lookup x=di .local):=by
 unfold kK at c;simp only[As,Bh,decide_eq_true_eq]at c;refine⟨by rw[h.eN];exact c.1.2,?_,?_⟩
 ·unfold L2.Loc;rw[h.Dd];exact c.2
 ·rw[h.Dd];exact h.fn x c.1.1
theorem SX.E4(h:SX X sc N T k):X.N.Nodup:=by rw[h.eN];exact h.nd
theorem SX.t2(h:SX X sc N T k)(i:Nat)(c:kK sc N T i x=dk):PG X (.Name x pos) (xN i):=by obtain⟨a,b,d⟩:=h.loc c;exact VQ h.E4 a b d
theorem SX.FC(h:SX X sc N T k)(g:Dx X es (gs is))(d:(u0 es X.env).length=is.length:=by rfl)(z:(u0 es X.env).findIdx? (·.1)=dn:=by rfl):PG X (.Tuple es j pos) (n0 X.K<|.tp is):=
 ly h.calm g d z
theorem SX.set(h:SX X sc N T k)(i:Nat)(c:kK sc N T i x=dk)(C:PE X e te)(d:p8 e (di (.Name x pos')) pos.line X.env=pure dt:=by rfl):PS X (.Assign [.Name x pos'] e pos) (Xx te<|xN i):=by obtain⟨a,b,z⟩:=h.loc c;exact lq h.E4 a b C d z
theorem SX.gl(h:SX X sc N T k)(c:yO sc x=dk):Gl X x/\x ≠ "__name__"/\(x==("__debug__" : Str))=dt:=by
 unfold yO at c;simp only[As,decide_eq_true_eq,Eu]at c;refine⟨?_,?_,c.2⟩
 ·show X.env.scope.names.lookup x=_
  rw[h.Dd];exact c.1.1
 ·intro e;rw[e]at c;simp at c
noncomputable def X6(sc scope:hA)(N:List Str)(C:List (Str×Nat)):Bool:=
 decide (scope.kind = .function) && decide ((scope.names.map (·.1)).Nodup) && scope.names.all (λp=> !(p.2==AD) || decide (sc.names.lookup p.1=di .cell) || decide (sc.names.lookup p.1=di .free)) &&
 C.all λp=>decide (scope.names.lookup p.1=di .free) && decide (N[p.2]? = di p.1)
noncomputable def oO(own:List Str)(scope:hA)(C:List (Str×Nat)):Bool:=decide ((own++C.map (·.1)).Nodup) && own.all (λx=>decide (scope.names.lookup x=di .local) || decide (scope.names.lookup x=di .cell))
theorem SX.Ib(h:SX X sc N T k)(c:X6 sc scope N fr=dk):oe X scope fr:=by
 unfold X6 at c;simp only[As,decide_eq_true_eq,Ce,Bh,Eu]at c;obtain⟨⟨⟨z,I⟩,O⟩,a⟩:=c;refine⟨z,I,λp d b=>?_,λp d=>⟨(a p d).1,by rw[h.eN];exact(a p d).2⟩⟩;have e:X.env.kindOf p.1=sc.names.lookup p.1:=by show X.env.scope.names.lookup p.1=_;rw[h.Dd]
 rw[e];rcases O p d with(q | q) | q
 ·rw[b]at q;exact absurd q ⋯
 ·exact .inl q
 ·exact .inr q
theorem vX(scope sc:hA)(x:Str):(xG scope sc).names.lookup x=(scope.names.lookup x).map λk=>if (k==AD && sc.kind == .function && sc.names.lookup x==di .cell)then Cb else k:=by
 unfold xG;dsimp only;generalize scope.names=l
 induction l with
 | nil=>rfl
 | cons p r z=>
  obtain⟨n,a⟩:=p;rw[Ap];cases hx:x==n with
  | true=>
   have e:x=n:=by simpa using hx
   subst e;dsimp only;split
   ·rename_i d;rw[Bb,Bb,beq_self_eq_true];dsimp only[EE];rw[GY d]
   ·rename_i d;rw[Bb,Bb,beq_self_eq_true];dsimp only[EE];rw[MQ d]
  | false=>
   dsimp only;split
   ·rw[Bb,Bb,hx];exact z
   ·rw[Bb,Bb,hx];exact z
theorem SX.comp(h:SX X sc N T k)(c:oO own scope fr=dk) :
 SX (z6 X scope (own++fr.map (·.1)) fp s2 H2) (xG scope sc) (own++fr.map (·.1)) own k:=by
 unfold oO at c;simp only[As,decide_eq_true_eq,Ce,Bh]at c;refine⟨?_,rfl,c.1,h.calm,h.room,λx d=>?_⟩
 ·show rr scope X.env=_
  rw[Yo,h.Dd]
 ·rcases c.2 x d with q | q
  ·right;rw[vX,q];rfl
  ·left
   show(scope.names.lookup x==di .cell)=dk;rw[q];rfl
end
mutual
def ij:D->PyData
 | .f7=> .none
 | .bl b=> .bool b
 | .int i=> .int i
 | .str x=> .str x
 | .tup a=> .tuple (n5 a)
 | .lst a=> .list (n5 a)
 | .h7 _ _=> .none
 | .ih _ _=> .none
def n5:List D->List PyData
 | []=>[]
 | d::ds=>ij d::n5 ds
end
theorem wy(h:h9 (.h7 ks vs)=dk):False:=by simp[h9]at h
theorem vv(h:h9 (.ih ks vs)=dk):False:=by simp[h9]at h
mutual
theorem FW : ∀x y:D,h9 x=dk->h9 y=dk->CI (ij x) (ij y)=i9 x y
 | .f7,y,_,h=>by cases y<;>first | exact(wy h).elim | exact(vv h).elim | simp[ij,CI,i9]
 | .bl a,y,_,h=>by cases y<;>first | exact(wy h).elim | exact(vv h).elim | simp[ij,CI,i9]
 | .int a,y,_,h=>by cases y<;>first | exact(wy h).elim | exact(vv h).elim | simp[ij,CI,i9]
 | .str a,y,_,h=>by cases y<;>first | exact(wy h).elim | exact(vv h).elim | simp[ij,CI,i9]
 | .h7 c n,y,h,_=>(wy h).elim
 | .ih c n,y,h,_=>(vv h).elim
 | .tup xs,y,h1,h2=>by
  cases y with
  | tup b=>simp only[h9]at h1 h2;simp only[ij,CI,i9];exact FX xs b h1 h2
  | h7 c n=>exact(wy h2).elim
  | ih c n=>exact(vv h2).elim
  | _=>simp[ij,CI,i9]
 | .lst xs,y,h1,h2=>by
  cases y with
  | lst b=>simp only[h9]at h1 h2;simp only[ij,CI,i9];exact FX xs b h1 h2
  | h7 c n=>exact(wy h2).elim
  | ih c n=>exact(vv h2).elim
  | _=>simp[ij,CI,i9]
theorem FX : ∀xs C:List D,n3 xs=dk->n3 C=dk->EO (n5 xs) (n5 C)=p5 xs C
 | [],C,_,_=>by cases C<;>simp[n5,EO,p5]
 | x::xs,C,h1,h2=>by
  cases C with
  | nil=>simp[n5,EO,p5]
  | cons y C=>
   simp only[n3,As]at h1 h2;simp only[n5,EO,p5];rw[FW x y h1.1 h2.1,FX xs C h1.2 h2.2]
end
mutual
theorem He : ∀x:D,h9 x=dk->(ij x).canLay0=dk
 | .f7,_=>by simp[ij,CN]
 | .bl a,_=>by simp[ij,CN]
 | .int a,_=>by simp[ij,CN]
 | .str a,h=>by simpa[ij,CN,h9,PyData.strOk]using h
 | .tup xs,h=>by simp only[h9]at h;simp only[ij,CN];exact F2 xs h
 | .lst xs,h=>by simp only[h9]at h;simp only[ij,CN];exact F2 xs h
 | .h7 c n,h=>(wy h).elim
 | .ih c n,h=>(vv h).elim
theorem F2 : ∀xs:List D,n3 xs=dk->Fc (n5 xs)=dk
 | [],_=>by simp[n5,Fc]
 | x::xs,h=>by simp only[n3,As]at h;simp only[n5,Fc];rw[He x h.1,F2 xs h.2];rfl
end
mutual
theorem G8 : ∀x:D,(ij x).depth=deep x
 | .f7=>by simp[ij,Cy,deep]
 | .bl a=>by simp[ij,Cy,deep]
 | .int a=>by simp[ij,Cy,deep]
 | .str a=>by simp[ij,Cy,deep]
 | .h7 c n=>by simp[ij,Cy,deep]
 | .ih c n=>by simp[ij,Cy,deep]
 | .tup b=>by simp only[ij,Cy,deep];rw[FV b]
 | .lst b=>by simp only[ij,Cy,deep];rw[FV b]
theorem FV : ∀xs:List D,PyData.depthAll (n5 xs)=n7 xs
 | []=>by simp[n5,PyData.depthAll,n7]
 | x::xs=>by simp only[n5,PyData.depthAll,n7];rw[G8 x,FV xs]
end
theorem kl(h:l9 d=dk):h9 d=dk:=by unfold l9 at h;rw[As]at h;exact h.2
theorem yc(h:l9 d=dk):SeqAt.shaped (ij d)=dk:=by unfold l9 at h;rw[As,decide_eq_true_eq]at h;unfold SeqAt.shaped;rw[He d h.2,Bool.true_and,G8];exact decide_eq_true ⋯
section
variable{X:Cx}{pins:GW}{σ:St}{H0 H:Hp}{s:eg}
mutual
theorem DN(I:Inv X pins σ H s)(sub:f6 H0 H) : ∀{d:D} {v:V} {u:dV},h9 d=dk->Rep X.K H0 d v->RelV v u->∃z,Reads s.heap u (ij d) z
 | .f7,v,u,_,h,r=>by cases (show v = .f7 from h);cases r;exact⟨_,.none⟩
 | .bl b,v,u,_,h,r=>by cases (show v = .bl b from h);cases r;exact⟨_,.bool b⟩
 | .int i,v,u,_,h,r=>by cases (show v = .int i from h);obtain⟨t,rfl⟩:=r;exact⟨_,.int i t⟩
 | .str x,v,u,_,h,r=>by cases (show v = .str x from h);obtain⟨t,rfl⟩:=r;exact⟨_,.str x t⟩
 | .h7 c n,v,u,o,_,_=>(wy o).elim
 | .ih c n,v,u,o,_,_=>(vv o).elim
 | .tup ds,v,u,o,h,r=>by obtain⟨a,e,rfl,f,g⟩:=(show ∃a e,v = .ref a/\gj X.K H0 a e/\d0 X.K H0 ds e from h);cases r;simp only[h9]at o;obtain⟨U,O,⟨Y,Q,R,n,j⟩,m⟩:=I.tuple<|ll sub f;obtain⟨z,l⟩:=Gc I sub o g O;exact⟨z,.tuple Q R j<|by simpa using l⟩
 | .lst ds,v,u,o,h,r=>by obtain⟨a,e,rfl,f,g⟩:=(show ∃a e,v = .ref a/\gR X.K H0 a e/\d0 X.K H0 ds e from h);cases r;simp only[h9]at o;obtain⟨U,O,p,m⟩:=I.list<|sub.seq f;obtain⟨Y,Q,R,n,j⟩:=p.isList;obtain⟨z,l⟩:=Gc I sub o g O;exact⟨_,.list Q R j<|by simpa using l⟩
theorem Gc(I:Inv X pins σ H s)(sub:f6 H0 H) : ∀{C:List D} {xs:List V} {J:List dV},n3 C=dk->d0 X.K H0 C xs->eH xs J->∃z,ReadsAll s.heap J (n5 C) z
 | [],xs,J,_,h,r=>by rw[h.o3]at r;cases r;exact⟨_,.nil⟩
 | d::C,xs,J,o,h,r=>by
  obtain⟨x,t,e,a,b⟩:=h.m6;subst e;simp only[n3,As]at o;cases r with
  | cons O f=>
   obtain⟨z,g⟩:=DN I sub o.1 a O;obtain⟨bs,Q⟩:=Gc I sub o.2 b f;exact⟨_,.cons g Q⟩
end
end
noncomputable def sA(K:Ab):R2:=λx y H Q=>∃a b d,f6 a H/\Rep K a b x/\Rep K a d y/\l9 b=dk/\l9 d=dk/\Q (.bl<|i9 b d) H
noncomputable def sy(K:Ab):R2:=λx y H Q=>∃a b d,f6 a H/\Rep K a b x/\Rep K a d y/\l9 b=dk/\l9 d=dk/\Q (.bl<|!i9 b d) H
theorem dw(O:X.A.units+64<cLine):hL X (mr .Eq) (sA X.K):=by intro a s j H x y v u Q I rx R h;obtain⟨f,g,i,sub,U,b,d,z,q⟩:=h;obtain⟨as,e⟩:=DN I sub (kl d) U rx;obtain⟨bs,Y⟩:=DN I sub (kl z) b R;exact eq_dataH e Y (yc d) (yc z) O ⟨.bl _,H,I,by rw[FW _ _ (kl d) (kl z)];rfl,q⟩
theorem lQ(O:X.A.units+64<cLine):hL X (mr .NotEq) (sy X.K):=by intro a s j H x y v u Q I rx R h;obtain⟨f,g,i,sub,U,b,d,z,q⟩:=h;obtain⟨as,e⟩:=DN I sub (kl d) U rx;obtain⟨bs,Y⟩:=DN I sub (kl z) b R;exact ne_dataH e Y (yc d) (yc z) O ⟨.bl _,H,I,by rw[FW _ _ (kl d) (kl z)];rfl,q⟩
theorem Vn{K:Ab}:l4 K (sA K) hI:=λa H x y b I d Q s rx O z q=>by
 unfold hI at z;split at z
 ·rename_i h;cases z;exact⟨a,b,I,s,rx,O,h.1,h.2,q _ H a (Ext.refl s) rfl⟩
 ·cases z
theorem eE{K:Ab}:l4 K (sy K) l6:=λa H x y b I d Q s rx O z q=>by
 unfold l6 at z;split at z
 ·rename_i h;cases z;exact⟨a,b,I,s,rx,O,h.1,h.2,q _ H a (Ext.refl s) rfl⟩
 ·cases z
theorem SX.C2(h:SX X sc N T k):X.A.units+64<cLine:=by have:=h.room.un;omega
section
variable{X:Cx}{sc:hA}{N T:List Str}{k:Nat}{a b c:d3}{pos p:e6}{fa fb fc:CO D}
theorem qN(C:PV X a fa)(d:PV X b fb):PV X (.BinOp a .Sub b pos) (zy w5 fa fb):=Zq lO eB C d
theorem Zp(C:PV X a fa)(d:PV X b fb):PV X (.BinOp a .FloorDiv b pos) (zy YL fa fb):=Zq fP eK C d
theorem jX(C:PV X a fa)(d:PV X b fb):PV X (.BinOp a .Mod b pos) (zy xE fa fb):=Zq lR eJ C d
theorem Vz(C:PV X a fa)(d:PV X b fb):PV X (.BinOp a .Pow b pos) (zy gM fa fb):=Zq lP eC C d
theorem iW(C:PV X a fa)(d:PV X b fb):PV X (.Compare a [.Gt] [b] pos) (zy n2 fa fb):=dg lT cM C d<|Zz b
theorem yJ(h:SX X sc N T k)(C:PV X a fa)(d:PV X b fb):PV X (.Compare a [.Eq] [b] pos) (zy hI fa fb):=dg (dw h.C2) Vn C d<|Zz b
theorem iZ(C:PV X a fa)(d:PV X b fb):kr X (.Compare a [.Lt] [b] pos) (sB<|zy C8 fa fb):=Jl fO Vl C d<|Zz b
theorem Zt(C:PV X a fa)(d:PV X b fb):kr X (.Compare a [.Gt] [b] pos) (sB<|zy n2 fa fb):=Jl lT cM C d<|Zz b
theorem ye(h:SX X sc N T k)(C:PV X a fa)(d:PV X b fb):kr X (.Compare a [.Eq] [b] pos) (sB<|zy hI fa fb):=Jl (dw h.C2) Vn C d<|Zz b
theorem Zs(h:SX X sc N T k)(C:PV X a fa)(d:PV X b fb):kr X (.Compare a [.NotEq] [b] pos) (sB<|zy l6 fa fb):=Jl (lQ h.C2) eE C d<|Zz b
theorem yF{K:Ab}{H:Hp}{C:List D}{v:V}(h:Rep K H (.tup C) v) : ∃a xs,v = .ref a/\gj K H a xs/\d0 K H C xs:=h
theorem gf{K:Ab}{H:Hp}{C:List D}{v:V}(h:Rep K H (.lst C) v) : ∃a xs,v = .ref a/\gR K H a xs/\d0 K H C xs:=h
theorem qD{K:Ab}{H:Hp}{C:List D}{a:dy}{xs:List V}(I:gj K H a xs)(J:d0 K H C xs):Rep K H (.tup C) (.ref a):=⟨a,xs,rfl,I,J⟩
theorem XA{K:Ab}{H:Hp}{C:List D}{a:dy}{xs:List V}(I:gR K H a xs)(J:d0 K H C xs):Rep K H (.lst C) (.ref a):=⟨a,xs,rfl,I,J⟩
theorem eL{K:Ab}:l4 K (λx y H Q=>o7 (λi j=> .int (i+j)) x y H Q\/cU K x y H Q) j4:=λg H x y m n d Q s rx R I q=>by
 cases m<;>cases n<;>simp[j4]at I
 ·subst I;exact .inl ⟨_,_,jN rx,jN R,q _ H g (Ext.refl s) rfl⟩
 ·rename_i l o
  obtain⟨r,rfl⟩:=I;obtain⟨a,t,rfl,h,f⟩:=yF rx;obtain⟨b,u,rfl,U,z⟩:=yF R;refine .inr ⟨a,b,t,u,rfl,rfl,ll s h,ll s U,k6 (by rw[f.length,z.length];exact r),λe=>?_,λe=>?_,λp Y=>?_⟩
  ·have O:l=[]:=by
    have:=f.length;rw[e]at this;exact AN this.symm
   subst O;exact q _ H g (Ext.refl s)<|qD U z
  ·have O:o=[]:=by
    have:=z.length;rw[e]at this;exact AN this.symm
   subst O;exact q _ H g (Ext.refl s) (by rw[Bp];exact qD h f)
  ·exact q _ _ _ (Ext.alloc s Y _)<|qD (gj.of zH)<|(f.append z).mono (zS (jB s Y) _)
theorem jo(C:PV X a fa)(d:PV X b fb):PV X (.BinOp a .Add b pos) (zy j4 fa fb):=Zq (Iy.or bh) eL C d
end
theorem ZV(O:A.handled=dn)(k:Sk)(I d:dy)(Q:d≠I)(z:Array dV) :
 Walks P w A I [I,d] [I] z.size (λi v=>z[i]? = di v) (λi h=>iv k h I d i/\l5 k h d z):=by
 cases k
 ·exact Walks.list O I d Q z
 ·exact Walks.tuple O I d Q z
theorem vI(C:List Int) : ∀n,preSum (λi=>C.getD i 0) n=(C.take n).sum
 | 0=>by simp[preSum]
 | n+1=>by
  have d:=vI C n;simp only[preSum,d];by_cases h:n<C.length
  ·rw[List.take_succ_eq_append_getElem h,List.sum_append]
   simp[h]
  ·rw[Cg ⋯,Cg ⋯]
   simp[h]
section
variable{X:Cx}{pins:GW}{σ:St}{H:Hp}{s:eg}
theorem WM(L:X.calm=dk):wH X (.builtin "sum") (λxs H Q=>∃p k J C,xs=[.ref p]/\i2 k X.K H p J/\J=(C:List Int).map V.int/\Q (.int C.sum) H):=by
 intro pins s σ H E B Q I m h;obtain⟨p,k,J,C,rfl,j,rfl,q⟩:=h;obtain⟨u,rfl,z⟩:=yE m;cases z;obtain⟨d,r,O,y⟩:=I.sq j;have lt:=O.lt;have R:=r.length;rw[Ay]at R;refine call_sum_walkG<|QV O ⟨_,[_,p],[_],d.toArray.size,_,_,λi=>C.getD i 0,rfl,ZV (A:=X.A.in1) (I.ok.hd L) k _ p (AQ lt) d.toArray,⟨ZE k _ p,O.at λo e=>Ae _ e⟩,?_,?_,?_⟩
 ·intro b U
  rw[AZ];simp only[Ao,AH,or_false]at U;rcases U with rfl | rfl
  ·exact BH _
  ·exact Bl lt
 ·intro i v l
  have Y:d[i]? = di v:=by simpa using l
  have f:i<C.length:=by rw[R];exact(Az.mp Y).1
  obtain⟨u,a,z⟩:=r.get (i:=i) (x:= .int C[i]) (by simp[f]);rw[Y]at a;cases a;obtain⟨t,rfl⟩:=z;exact⟨t,by simp[f]⟩
 ·intro w n t' g
  have e:preSum (λi=>C.getD i 0) d.toArray.size=C.sum:=by rw[vI,Cg (by rw[Aj,R];exact Al _)]
  refine⟨.int C.sum,H,I.kept (t':=n)<|λb u e=>g b u ?_ (Ae _ e),⟨t',by rw[e]⟩,q⟩;simp only[Ao,AH,or_false];exact AQ<|Aq e
noncomputable def ir:V->Option Bool
 | .f7=>di dt
 | .bl b=>di b
 | .int i=>di (i != 0)
 | _=>dn
theorem Km(r:RelV x u)(e:ir x=di b)(q:Q b s):wpAny (el P w) A (truthy u) Q E s:=by
 cases x with
 | f7=>cases r;cases e;exact λ_ _ _=>q
 | bl c=>cases r;cases e;exact Bt q
 | int i=>obtain⟨t,rfl⟩:=r;cases e;exact PyProof.Rows.truthy_int q
 | _=>cases e
noncomputable def Yi:List V->Option (List Bool)
 | []=>di []
 | x::r=>(ir x).bind λb=>(Yi r).map λl=>b::l
theorem vx : ∀{xs:List V} {bs:List Bool},Yi xs=di bs->bs.length=xs.length/\∀(i:Nat) x,xs[i]? = di x->ir x=di (bs.getD i dt)
 | [],bs,h=>by cases h;exact⟨rfl,λi x e=>by simp at e⟩
 | y::xs,bs,h=>by
  obtain⟨b,a,h⟩:=zb h;obtain⟨l,d,h⟩:=zx h;subst h;obtain⟨f,g⟩:=vx d;refine⟨by simp[f],λi x e=>?_⟩;cases i with
  | zero=>simp at e;subst e;simpa using a
  | succ i=>simpa using g i x (by simpa using e)
theorem W8(bs:List Bool):(Ad bs.length).all (λi=>bs.getD i dt)=bs.all id:=by
 rw[Cd];simp only[Ce,Ah,id_eq];constructor
 ·intro h b d
  obtain⟨i,a,e⟩:=List.mem_iff_getElem.mp d;have:=h i a;rw[AY,Ak a]at this;rw[<- e];exact this
 ·intro h i a
  rw[AY,Ak a];exact h _<|Fp a
theorem W7(bs:List Bool):(Ad bs.length).any (λi=>bs.getD i dt)=bs.any id:=by
 rw[Cd];simp only[List.any_eq_true,Ah,id_eq];constructor
 ·rintro⟨i,a,h⟩
  rw[AY,Ak a]at h;exact⟨_,Fp a,h⟩
 ·rintro⟨b,d,h⟩
  obtain⟨i,a,e⟩:=List.mem_iff_getElem.mp d;refine⟨i,a,?_⟩;rw[AY,Ak a,Option.getD_some,e];exact h
theorem WR(Y:X.calm=dk):wH X (.builtin "all") (λxs H Q=>∃p k C bs,xs=[.ref p]/\i2 k X.K H p C/\Yi C=di bs/\Q (.bl (bs.all id)) H):=by
 intro pins s σ H N M Q I y h;obtain⟨p,k,C,bs,rfl,n,t,q⟩:=h;obtain⟨u,rfl,z⟩:=yE y;cases z;obtain⟨d,r,O,J⟩:=I.sq n;have lt:=O.lt;have R:=r.length;obtain⟨g,j⟩:=vx t;refine call_all_walk<|QV O ⟨_,[_,p],[_],d.toArray.size,_,_,λi=>bs.getD i dt,rfl,ZV (A:=X.A.in1) (I.ok.hd Y) k _ p (AQ lt) d.toArray,⟨ZE k _ p,O.at λo e=>Ae _ e⟩,?_,?_⟩
 ·intro i v L F E w l
  have U:d[i]? = di v:=by simpa using w
  have f:i<C.length:=by rw[R];exact(Az.mp U).1
  obtain⟨u,a,z⟩:=r.get (i:=i) (x:=C[i]) (by simp[f]);rw[U]at a;cases a;exact Km z (j i C[i] (by simp[f])) l
 ·intro G B m
  have e:(Ad d.toArray.size).all (λi=>bs.getD i dt)=bs.all id:=by rw[Aj,<- R,<- g];exact W8 bs
  refine⟨.bl<|bs.all id,H,I.kept (t':=B)<|λb u e=>m b u ?_ (Ae _ e),by rw[e];rfl,q⟩;simp only[Ao,AH,or_false];exact AQ<|Aq e
theorem WQ(Y:X.calm=dk):wH X (.builtin "any") (λxs H Q=>∃p k C bs,xs=[.ref p]/\i2 k X.K H p C/\Yi C=di bs/\Q (.bl (bs.any id)) H):=by
 intro pins s σ H N M Q I y h;obtain⟨p,k,C,bs,rfl,n,t,q⟩:=h;obtain⟨u,rfl,z⟩:=yE y;cases z;obtain⟨d,r,O,J⟩:=I.sq n;have lt:=O.lt;have R:=r.length;obtain⟨g,j⟩:=vx t;refine call_any_walk<|QV O ⟨_,[_,p],[_],d.toArray.size,_,_,λi=>bs.getD i dt,rfl,ZV (A:=X.A.in1) (I.ok.hd Y) k _ p (AQ lt) d.toArray,⟨ZE k _ p,O.at λo e=>Ae _ e⟩,?_,?_⟩
 ·intro i v L F E w l
  have U:d[i]? = di v:=by simpa using w
  have f:i<C.length:=by rw[R];exact(Az.mp U).1
  obtain⟨u,a,z⟩:=r.get (i:=i) (x:=C[i]) (by simp[f]);rw[U]at a;cases a;exact Km z (j i C[i] (by simp[f])) l
 ·intro G B m
  have e:(Ad d.toArray.size).any (λi=>bs.getD i dt)=bs.any id:=by rw[Aj,<- R,<- g];exact W7 bs
  refine⟨.bl<|bs.any id,H,I.kept (t':=B)<|λb u e=>m b u ?_ (Ae _ e),by rw[e];rfl,q⟩;simp only[Ao,AH,or_false];exact AQ<|Aq e
end
section
variable{X:Cx}{sc:hA}{N T:List Str}{k:Nat}{e a b c:d3}{pos p p2:e6}{f g:CO D}{fq:CO (Sk×List D)}
theorem iB{K:Ab}{H:Hp}{k:Sk}{a:dy}{xs:List V}(h:i2 k K H a xs):gR K H a xs\/gj K H a xs:=by
 cases k
 ·exact .inl h
 ·exact .inr h
theorem qd(h:SX X sc N T k)(c:yO sc "len" = dk)(z:X.mg "len" = dn)(O:PQ X e fq)(I:e9 [e] X.env=[(dt,ej e X.env)]:=by rfl):PV X (.Call (.Name "len" p) [e] [] pos) (yS fq):=
 jO (kE Xj (h.gl c).1 z PySem.boot_len (jr O qb I) ⋯ ⋯ I rfl) λt H Q R=>by obtain⟨j,o,d,rc,U,q⟩:=R;obtain⟨⟨n,f⟩,l,Y⟩:=zx U;subst Y;refine⟨j,o,n,f,rc,l,λa g i b ext m s r=>⟨a,g,rfl,iB m,?_⟩⟩;exact q _ i b ext (show V.int g.length = .int f.length by rw[r.length])
theorem ja(h:SX X sc N T k)(c:yO sc "tuple" = dk)(z:X.mg "tuple" = dn)(R:PQ X e fq)(I:e9 [e] X.env=[(dt,ej e X.env)]:=by rfl):PV X (.Call (.Name "tuple" p) [e] [] pos) (zM fq):=
 jO (vK JN (h.gl c).1 z PyProof.Rows.boot_tuple (jr R qb I) ⋯ ⋯ I rfl) λw H Q U=>by
  obtain⟨j,u,d,rc,Y,q⟩:=U;obtain⟨⟨g,m⟩,n,o⟩:=zx Y;subst o;refine⟨j,u,g,m,rc,n,λa t i b ext f s r=>⟨a,t,rfl,?_⟩⟩;cases g with
  | L=>exact .inl ⟨f,λl O=>q _ _ _ (ext.trans<|Ext.alloc ext.sub O _)<|qD (gj.of zH)<|r.mono<|zS (jB ext.sub O) _⟩
  | T=>exact .inr ⟨f,q _ i b ext (qD (s rfl) r)⟩
theorem QO{H C:Hp}(s:f6 H C){a:dy}(h:C a=dn):H a=dn:=by
 cases z:H a with
 | none=>rfl
 | some o=>rw[s a o z]at h;cases h
theorem vJ(h:SX X sc N T k)(c:yO sc "list" = dk)(z:X.mg "list" = dn)(R:PQ X e fq)(O:e9 [e] X.env=[(dt,ej e X.env)]:=by rfl):PO X (.Call (.Name "list" p) [e] [] pos) (xp fq):=
 jO (vK Xh (h.gl c).1 z PyProof.Rows.boot_list (jr R qb O) ⋯ ⋯ O rfl) λw H Q U=>by obtain⟨g,s,d,rc,Y,q⟩:=U;obtain⟨⟨o,i⟩,j,m⟩:=zx Y;subst m;refine⟨g,s,o,i,rc,j,λa f t b ext n u r=>⟨a,f,rfl,iB n,λl I=>?_⟩⟩;exact q l f _ b (ext.trans<|Ext.hide ext.sub I _) (QO ext.s1 I) (jB ext.sub I) zH r
theorem JZ : ∀{H:List D} {n:Int},Vi H=di n->∃C:List Int,H=C.map D.int/\n=C.sum
 | [],n,h=>by cases h;exact⟨[],rfl,rfl⟩
 | d::H,n,h=>by
  cases d with
  | int i=>
   obtain⟨s,e,h⟩:=zx h;obtain⟨C,rfl,rfl⟩:=JZ e;exact⟨i::C,rfl,by rw[<- h];simp⟩
  | _=>cases h
theorem J9{K:Ab}{H:Hp} : ∀{C:List Int} {xs:List V},d0 K H (C.map D.int) xs->xs=C.map V.int
 | [],xs,h=>h.o3
 | z::C,xs,h=>by obtain⟨x,r,e,a,b⟩:=d0.m6 h;rw[e,jN a,J9 b];rfl
theorem da(h:SX X sc N T k)(c:yO sc "sum" = dk)(z:X.mg "sum" = dn)(U:PQ X e fq)(R:e9 [e] X.env=[(dt,ej e X.env)]:=by rfl):PV X (.Call (.Name "sum" p) [e] [] pos) (iF fq):=
 jO (kE (WM h.calm) (h.gl c).1 z PyProof.Rows.boot_sum (jr U qb R) ⋯ ⋯ R rfl) λy H Q Y=>by obtain⟨j,w,d,rc,I,q⟩:=Y;obtain⟨⟨f,l⟩,m,I⟩:=zb I;obtain⟨n,o,s⟩:=zx I;subst s;obtain⟨g,O,rfl⟩:=JZ o;have O:l=g.map D.int:=O;subst O;exact⟨j,w,f,_,rc,m,λa u i b ext t x r=>⟨a,f,u,g,rfl,t,J9 r,q _ i b ext rfl⟩⟩
theorem dU{K:Ab}{H:Hp}{d:D}{x:V}{b:Bool}(h:Rep K H d x)(e:oA d=di b):ir x=di b:=by
 cases d with
 | f7=>cases (show x = .f7 from h);exact e
 | bl c=>cases (show x = .bl c from h);exact e
 | int i=>cases (show x = .int i from h);exact e
 | _=>cases e
theorem ZZ{K:Ab}{H:Hp} : ∀{C:List D} {xs:List V} {bs:List Bool},d0 K H C xs->Ja C=di bs->Yi xs=di bs
 | [],xs,bs,h,e=>by rw[h.o3];exact e
 | d::C,xs,bs,h,e=>by obtain⟨x,r,z,f,g⟩:=h.m6;obtain⟨b,a,e⟩:=zb e;obtain⟨l,I,e⟩:=zx e;subst z e;show(ir x).bind _=_;rw[dU f a];show((Yi r).map λl=>b::l)=_;rw[ZZ g I];rfl
theorem VA(h:SX X sc N T k)(c:yO sc "all" = dk)(z:X.mg "all" = dn)(R:PQ X e fq)(O:e9 [e] X.env=[(dt,ej e X.env)]:=by rfl):PV X (.Call (.Name "all" p) [e] [] pos) (eS fq):=
 jO (kE (WR h.calm) (h.gl c).1 z PyProof.Rows.boot_all (jr R qb O) ⋯ ⋯ O rfl) λu H Q U=>by obtain⟨i,o,d,rc,I,q⟩:=U;obtain⟨⟨f,s⟩,j,I⟩:=zb I;obtain⟨bs,Y,l⟩:=zx I;subst l;exact⟨i,o,f,_,rc,j,λa n g b ext m t r=>⟨a,f,n,bs,rfl,m,ZZ r Y,q _ g b ext rfl⟩⟩
theorem iY(h:SX X sc N T k)(c:yO sc "any" = dk)(z:X.mg "any" = dn)(R:PQ X e fq)(O:e9 [e] X.env=[(dt,ej e X.env)]:=by rfl):PV X (.Call (.Name "any" p) [e] [] pos) (oX fq):=
 jO (kE (WQ h.calm) (h.gl c).1 z PyProof.Rows.boot_any (jr R qb O) ⋯ ⋯ O rfl) λu H Q U=>by obtain⟨i,o,d,rc,I,q⟩:=U;obtain⟨⟨f,s⟩,j,I⟩:=zb I;obtain⟨bs,Y,l⟩:=zx I;subst l;exact⟨i,o,f,_,rc,j,λa n g b ext m t r=>⟨a,f,n,bs,rfl,m,ZZ r Y,q _ g b ext rfl⟩⟩
theorem Jk(h:SX X sc N T k)(c:yO sc "int" = dk)(z:X.mg "int" = dn)(U:PV X e f)(O:e9 [e] X.env=[(dt,ej e X.env)]:=by rfl):PV X (.Call (.Name "int" p) [e] [] pos) (kX f):=
 jO (vK WO (h.gl c).1 z PyProof.Rows.boot_int (jr U qb O) ⋯ ⋯ O rfl) λn H Q Y=>by
  obtain⟨j,m,d,rc,I,q⟩:=Y;obtain⟨R,l,I⟩:=zb I;refine⟨j,m,R,rc,l,λv g a ext r=>?_⟩;cases R with
  | int i=>cases I;exact .inl ⟨i,by rw[jN r],q _ g a ext rfl⟩
  | bl b=>cases I;exact .inr ⟨b,by rw[show v = .bl b from r],q _ g a ext rfl⟩
  | _=>cases I
end
section
variable{X:Cx}{sc:hA}{N T:List Str}{k:Nat}{e a b c:d3}{pos p p2:e6}{f g:CO D}{fq:CO (Sk×List D)}
theorem Wf(h:i3 n i=di j):B7 n i=di j:=by
 unfold i3 at h;unfold B7;split at h
 ·rename_i a;rw[GY a.1,GY a.2];exact h
 ·split at h
  ·rename_i a b;rw[MQ ⋯,GY ⋯];exact h
  ·cases h
theorem zw(J:PQ X a fq)(Y:PV X b g)(M:Kg b:=by intro _ _;rfl):PV X (.Subscript a b pos) (dv fq g):=
 jO (lH (Io.or mz) J Y M) λN H Q C=>by
  obtain⟨o,n,d,rc,z,q⟩:=C;obtain⟨⟨m,w⟩,y,z⟩:=zb z;obtain⟨i,O,z⟩:=zb z;obtain⟨u,A,O⟩:=zb O;obtain⟨j,B,z⟩:=zb z;refine⟨o,n,m,w,rc,y,λp h F e ext l G r=>⟨e,n,u,rc.ext ext,A,λK s t I f=>?_⟩⟩;rw[jJ O]at f;obtain⟨x,E,rx⟩:=r.get z;have R:zl h i=di x:=by unfold zl;rw[r.length,Wf B];exact E
  have U:=q x s t (ext.trans I)<|rx.mono I.s0;cases m with
  | L=>exact .inl ⟨p,h,i,x,rfl,jN f,I.s1.seq l,R,U⟩
  | T=>exact .inr ⟨p,h,i,x,rfl,jN f,ll I.s1 l,R,U⟩
theorem yP{P:hH}{w:g9}{A:mA}{E:GQ}{s:eg}{t H:dy}{d:Array dV}{I O:dV}{lo C:Option Int}{Q:GQ}(z:Du s.heap t d)(R:s.heap.IsSliceOf H I O .none)(L:t8 I lo)(U:t8 O C)
 (J:HT.dv d.size 0 lo=0/\HT.dv d.size d.size C=d.size) (h:Q (.ref t) s):wpAny (el P w) A (u6 (.ref t)<|.ref H) Q E s:=by
 obtain⟨os,Y,a,f⟩:=id R;have b:s.TypeIs (.ref H) "slice":=⟨os,Y,a⟩;unfold u6
 try with_reducible refine EI ?_
 first | refine Ac (Am ?_) | skip
 refine Ac (IM z.typeIs ⋯ ?_);refine Ac (Bu (name:=BN "__getitem__") z.typeIs Bo
  (BO Bo z.typeIs entry_tuple_getitem ?_ (HV _ _)))
 show wpAny _ _ (Builtin.Tuple.tupleItemsOf (.ref t) >>= _) _ _ s;refine Ac<|EJ z ?_;refine Ac<|EU b ?_;rw[GY ⋯];refine Ac<|HT.y0 R L U ?_;have e:(((HT.dv d.size 0 lo:Nat):Int)==0 && (1:Int)==1 && (HT.dv d.size d.size C - HT.dv d.size 0 lo)==d.size)=dk:=by rw[J.1,J.2];simp
 show wpAny _ _ (if (((HT.dv d.size 0 lo:Nat):Int)==0 && (1:Int)==1 && (HT.dv d.size d.size C - HT.dv d.size 0 lo)==d.size)=dk then _ else _) _ _ s;rw[GY e];refine Ac (m:=Cf _) ?_;unfold Cf;refine Ac<|EU z.typeIs<|Am ?_;rw[GY ⋯];exact Ac<|Fb<|Am ⟨_,rfl,Am h⟩
noncomputable def oZ(K:Ab):V->Option Int->Option Int->Hp->VK->Prop:=λx lo d H Q=>∃a b,x = .ref a/\gj K H a b/\(HT.dv b.length 0 lo=0/\HT.dv b.length b.length d=b.length->Q (.ref a) H)/\∀p,H p=dn->Q (.ref p) (upd H p<|.tup<|gO b lo d)
theorem eM:FN X (oZ X.K):=by
 intro e s p H x v U Y lo g o Q I rx d i z h;obtain⟨a,b,rfl,O,m,n⟩:=h;by_cases f:HT.dv b.length 0 lo=0/\HT.dv b.length b.length g=b.length
 ·cases rx
  obtain⟨j,r,R,t⟩:=I.tuple O;have l:j.toArray.size=b.length:=by rw[Aj];exact r.length.symm
  refine⟨"tuple",_,Bo.lookup,R.typeIs,?_⟩;exact yP R d i z (by rw[l];exact f) ⟨.ref a,H,I,rfl,m f⟩
 ·exact iC e s p H (.ref a) v U Y lo g o Q I rx d i z ⟨a,b,rfl,O,f,n⟩
theorem vm(n d:Nat)(o:Option Int):JI n d o=HT.dv n d o:=by cases o<;>rfl
theorem aI{K:Ab}{H:Hp}{C:List D}{xs:List V}(r:d0 K H C xs)(lo I:Option Int):d0 K H (wx C lo I) (gO xs lo I):=by unfold wx gO;rw[<- vm,<- vm,r.length];exact(r.drop _).take _
theorem WH{C:List D}{lo H:Option Int}(h:HT.dv C.length 0 lo=0/\HT.dv C.length C.length H=C.length):wx C lo H=C:=by unfold wx;rw[vm,vm,h.1,h.2];simp
noncomputable def tB(K:Ab)(f:CO (Option Int)):TO:=λg H Q=>∃d e o,RC K d H g e/\f e=di o/\∀b a,Ext d H a b->Q o b
theorem kg:L2.PO X dn (tB X.K YY):=λa s e H Q I ⟨b,f,o,rc,d,q⟩=>fC a s e H Q I (by cases d;exact q H b<|Ext.refl rc.sub)
theorem kf(h:PV X e f):L2.PO X (di e) (tB X.K<|p7 f):=λa s n H Q I ⟨l,m,o,rc,z,q⟩=>fB h a s n H Q I (by
 obtain⟨i,g,O⟩:=zx z;obtain⟨d,R,g⟩:=zb g;subst O;refine⟨l,m,d,rc,R,λv j b x r=>?_⟩;rw[jJ g]at r;exact⟨i,jN r,q j b x⟩)
theorem yT{lo C:Option d3}{O R:CO (Option Int)}(J:PV X a f)(M:L2.PO X lo (tB X.K O))(L:L2.PO X C (tB X.K R)):PV X (.Subscript a (.Slice lo C dn p2) pos) (Vu f O R):=
 jO (aX eM J M L) λS H Q E=>by
  obtain⟨m,g,d,rc,z,q⟩:=E;obtain⟨U,y,z⟩:=zb z;obtain⟨l,A,z⟩:=zb z;obtain⟨u,B,z⟩:=zb z;refine⟨m,g,U,rc,y,λv G b x r=>⟨b,g,l,rc.ext x,A,λN s I=>⟨s,g,u,(rc.ext x).ext I,B,λn t x3=>?_⟩⟩⟩;have Y:=x.trans<|I.trans x3;cases U with
  | tup P=>
   cases z;obtain⟨o,F,rfl,h,e⟩:=yF<|r.mono (I.trans x3).s0;have w:=e.length;refine⟨o,F,rfl,ll x3.sub h,λj=>?_,λp i=>?_⟩
   ·rw[w]at j
    exact q _ n t Y (by rw[WH j];exact qD h e)
   ·exact q _ _ _ (Y.trans<|Ext.alloc x3.sub i _)<|qD (gj.of zH)<|(aI e _ _).mono (zS (jB x3.sub i) _)
  | _=>cases z
theorem Kw{K:Ab}{H:Hp}{C:List D}{xs:List V}(r:d0 K H C xs) : ∀n:Nat,d0 K H (Ag n C).flatten (Ag n xs).flatten
 | 0=>d0.nil
 | n+1=>by rw[BR,BR,Cr,Cr];exact r.append<|Kw r n
theorem Zv(C:PQ X a fq)(J:PQ X b gq):PO X (.BinOp a .Add b pos) (wQ fq gq):=
 jO (fH bj C J) λG H Q u=>by
  obtain⟨i,h,B,rc,d,q⟩:=u;obtain⟨⟨w,R⟩,o,d⟩:=zb d;obtain⟨⟨x,U⟩,r,d⟩:=zb d;cases w<;>cases x<;>try (simp at d;done)
  dsimp only at d;by_cases I:R.length+U.length<=lim
  ·rw[GY I]at d;cases d
   refine⟨i,h,.L,R,rc,o,λj f y m x1 s E Y=>⟨m,h,.L,U,rc.ext x1,r,λl g A n z t F e=>⟨j,l,f,g,rfl,rfl,z.s1.seq s,t,k6 (by rw[Y.length,e.length];exact I),λp O=>?_⟩⟩⟩;exact q p (f++g) _ n (x1.trans<|z.trans<|Ext.hide z.sub O _) (QO (x1.trans z).s1 O) (jB z.sub O) zH<|(Y.mono z.s0).append e
  ·rw[MQ I]at d;cases d
theorem mf{K:Ab}{t c:String}{b:Bool}(h:(if ((CJ t) == .type c)=dk then di dk else if PySem.W.kitMeta c=dk then (fastBuiltinMro t).map (·.contains (.type c))else dn)=di b):CH K (.type t) (.type c)=di b:=h
noncomputable def FE:Ty->String
 | .int=>"int"
 | .bool=>"bool"
 | .str=>"str"
 | .tuple=>"tuple"
 | .list=>"list"
noncomputable def mh:D->String
 | .f7=>"NoneType"
 | .bl _=>"bool"
 | .int _=>"int"
 | .str _=>"str"
 | .tup _=>"tuple"
 | .lst _=>"list"
 | .h7 _ _=>"dict"
 | .ih _ _=>"dict"
theorem QT{K:Ab}(T:Ty)(d:D):CH K (.type<|mh d) (.type<|FE T)=di (hX T d):=by cases d<;>cases T<;>(dsimp only[mh,FE,hX,dG,mC,dD,dC,dF];exact mf ⋯)
theorem bG{J:GW}{L:St}{C H:Hp}{s:eg}{A:mA}{E:GQ}{Q:GQ}{d:D}{x:V}{u:dV}(I:Inv X J L H s)(sub:f6 C H)(rx:RelV x u)(r:Rep X.K C d x)(T:Ty)
 (h : ∀U,Q (.bool (hX T d)) {s with toks:=U}):wpAny (el X.prog X.w) A (call (.builtin "isinstance") [u,.type (FE T)]) Q E s:=by
 cases d with
 | f7=>have e:=QT (K:=X.K) T .f7;cases (show x = .f7 from r);cases (show u=CK from rx);exact Ca PySem.W.kitx_none I.n9 Cq e (λz=>nomatch z) h
 | bl y=>have e:=QT (K:=X.K) T<|.bl y;cases (show x = .bl y from r);cases (show u=Value.bool y from rx);exact Ca PySem.W.kitx_bool I.n9 Cq e (λz=>nomatch z) h
 | int i=>have e:=QT (K:=X.K) T<|.int i;cases (show x = .int i from r);obtain⟨t,q⟩:=(show ∃t,u=Value.int i t from rx);cases q;exact Ca PySem.W.kitx_int I.n9 Cq e (λz=>nomatch z) h
 | str y=>have e:=QT (K:=X.K) T<|.str y;cases (show x = .str y from r);obtain⟨t,q⟩:=(show ∃t,u=Value.str y t from rx);cases q;exact Ca PySem.W.kitx_str I.n9 Cq e (λz=>nomatch z) h
 | tup l=>
  have e:=QT (K:=X.K) T<|.tup l;obtain⟨a,b,rfl,f,m⟩:=yF r;cases (show u=BL a from rx);obtain⟨Y,G,⟨o,O,R,_⟩,B⟩:=I.tuple<|ll sub f;exact Ca PySem.W.kitx_tuple I.n9 ⟨o,O,R⟩ e (λz=>nomatch z) h
 | lst l=>
  have e:=QT (K:=X.K) T<|.lst l;obtain⟨a,b,rfl,f,m⟩:=gf r;cases (show u=BL a from rx);obtain⟨Y,G,p,B⟩:=I.list<|sub.seq f;obtain⟨o,O,R,_⟩:=p.isList;exact Ca PySem.W.kitx_list I.n9 ⟨o,O,R⟩ e (λz=>nomatch z) h
 | h7 g j=>
  have e:=QT (K:=X.K) T<|.h7 g j;obtain⟨a,b,rfl,⟨F,_,_,o,f⟩,_⟩:=(show ∃a b,x = .ref a/\t7 C a g b/\d0 X.K C j b from r);cases (show u=BL a from rx);obtain⟨_,_,_,_,_,n⟩:=(show i1 X.prog X.w H s.heap a (.i7 o<|.dK<|F.zip b)from I.e4 a _<|sub _ _ f);exact Ca PySem.W.kitx_dict I.n9 n.typeIs e (λz=>nomatch z) h
 | ih g j=>
  have e:=QT (K:=X.K) T<|.ih g j;obtain⟨a,b,rfl,⟨_,o,M,f,m,_⟩,_⟩:=(show ∃a b,x = .ref a/\DV X.K C a g b/\d0 X.K C j b from r);cases (show u=BL a from rx);obtain⟨O,_⟩:=(show i1 X.prog X.w H s.heap a (G3 a o)from I.e4 a _<|sub _ _ f);exact Ca PySem.W.kitx_dict I.n9 ⟨o,O,m.1.1⟩ e (λz=>nomatch z) h
theorem iV(T:Ty)(h:SX X sc N L k)(c:yO sc "isinstance" = dk)(z:X.mg "isinstance" = dn)(O:yO sc ty=dk)(M:X.mg ty=dn)(J:z3 ty=di (.type (FE T)))(C:PV X a f)
 (U:e9 [a,.Name ty p2] X.env=[(dt,ej a X.env),(dt,ej (.Name ty p2) X.env)]:=by rfl):PV X (.Call (.Name "isinstance" p) [a,.Name ty p2] [] pos) (xg T f):=by
 intro e s F H Q I ⟨i,E,d,rc,o,q⟩;obtain⟨Y,m,n⟩:=zx o;subst n;refine EA<|ym I (h.gl c).1 z PyProof.Rows.boot_isinstance ?_ ⋯ ⋯;refine EK ?_ (by rw[U];rfl) rfl;rw[U];show wpAny _ _ (Ge ((dt,ej a X.env)::m8 pos [(dt,ej (.Name ty p2) X.env)])) _ _ s;refine EZ<|en (C e s F H _ I ⟨i,E,Y,rc,m,λv g b x r=>(show(λv g=>∃b,Ext i H b g/\Rep X.K b Y v) v g from⟨b,x,r⟩)⟩) λu A t=>?_;obtain⟨x,j,R,w,l,x1,y⟩:=t;show wpAny _ _ (Ge ((dt,ej (.Name ty p2) X.env)::[])) _ _ A;refine EZ<|ym R (h.gl O).1 M J ?_ (h.gl O).2.1 (h.gl O).2.2;refine Calls.spliced_nil ?_;exact bG R x1.sub w y T λB=>⟨.bl _,j,R.tok B,rfl,q _ j l x1 rfl⟩
end
section
variable{X:Cx}{sc:hA}{N L:List Str}{k:Nat}{e a b c:d3}{pos p p2:e6}{f g:CO D}{fq:CO (Sk×List D)}
theorem zT(h:SX X sc N L k)(c:yO sc "range" = dk)(z:X.mg "range" = dn)(C:PV X a f)(d:e9 [a] X.env=[(dt,ej a X.env)]:=by rfl):hR X tg (.Call (.Name "range" p) [a] [] pos) (zC f):=Yt (h.gl c).1 z C d
theorem aU(h:SX X sc N L k)(c:yO sc "range" = dk)(z:X.mg "range" = dn)(C:PV X a f)(d:PV X b g)(I:e9 [a,b] X.env=[(dt,ej a X.env),(dt,ej b X.env)]:=by rfl)(O:e9 [b] X.env=[(dt,ej b X.env)]:=by rfl) :
 hR X tg (.Call (.Name "range" p) [a,b] [] pos) (Xy f g):=Ys (h.gl c).1 z C d I O
theorem KG(h:SX X sc N L k)(c:yO sc "zip" = dk)(z:X.mg "zip" = dn)(C:PV X a f)(d:PV X b g)(I:e9 [a,b] X.env=[(dt,ej a X.env),(dt,ej b X.env)]:=by rfl)(O:e9 [b] X.env=[(dt,ej b X.env)]:=by rfl) :
 hR X (.Tuple elts x1 t4) (.Call (.Name "zip" p) [a,b] [] pos) (cN f g):=fF (h.gl c).1 z C d I O
theorem QB(h:SX X sc N L k)(c:yO sc "isinstance" = dk)(z:X.mg "isinstance" = dn)(d:yO sc "int" = dk)(I:X.mg "int" = dn)(C:PV X a f)
 (O:e9 [a,.Name "int" p2] X.env=[(dt,ej a X.env),(dt,ej (.Name "int" p2) X.env)]:=by rfl):PV X (.Call (.Name "isinstance" p) [a,.Name "int" p2] [] pos) (xg .int f):=iV .int h c z d I PyProof.Rows.boot_int C O
theorem Zo(h:SX X sc N L k)(c:yO sc "isinstance" = dk)(z:X.mg "isinstance" = dn)(d:yO sc "bool" = dk)(I:X.mg "bool" = dn)(C:PV X a f)
 (O:e9 [a,.Name "bool" p2] X.env=[(dt,ej a X.env),(dt,ej (.Name "bool" p2) X.env)]:=by rfl):PV X (.Call (.Name "isinstance" p) [a,.Name "bool" p2] [] pos) (xg .bool f):=iV .bool h c z d I PyProof.Rows.boot_bool C O
theorem aO(C:PQ X a fq)(J : ∀d,B6 a X.env d=(do let v <- d;DO a.pos;u7 [v] (truthy v)):=by intro _;rfl):kr X a (eO fq):=
 XC (aP C J) λs H Q z=>by
  obtain⟨l,n,t,rc,I,q⟩:=z;obtain⟨⟨i,b⟩,m,O⟩:=zx I;subst O;refine⟨l,n,i,b,rc,m,λp f j g ext h o r=>⟨!b.isEmpty,?_,q j g ext⟩⟩;have e:f.isEmpty=b.isEmpty:=by have:=r.length;cases f<;>cases b<;>simp_all
  rw[<- e];cases i with
  | L=>exact .inl ⟨f,h,rfl⟩
  | T=>exact .inr<|.inl ⟨f,h,rfl⟩
theorem kZ(i:Nat)(h:SX X sc N L k)(c:JW sc N i x=dk)(C:PV X a f)(d:e9 [a] X.env=[(dt,ej a X.env)]:=by rfl)
 (z:D4 (.Name x np) "append" X.env (ej (.Name x np) X.env)=ej (.Name x np) X.env:=by rfl)
 (I:((m8 cpos<|starEach [a] X.env).all (λx=> !x.1) && (Dz cpos<|keywordEach [] X.env).all (λx=>x.1.isSome)
   && decide ([a].length+([]:List ri).length+(if ([]:List ri).isEmpty then 0 else 1)<30))=dk:=by rfl)
 (O:(apos.endLine==cpos.line)=dk:=by rfl) (Q:p8 (.Call (.Attribute (.Name x np) "append" apos) [a] [] cpos) dn pos.line X.env=pure dt:=by rfl) :
 i6 X (.Expr (.Call (.Attribute (.Name x np) "append" apos) [a] [] cpos) pos) (qC i f):=
 Yp i (VS Es PySem.F.slot_list_append PySem.F.type_list_append V1 (h.var c) (jr C qb d) z I O d rfl) Q
theorem jk(i:Nat){st:h5}{f:CO (List D)}(h:PS X st (Xx (tO X.K f)<|xN i)):i6 X st (jq i<|jF f):=qT h λD t H I=>by obtain⟨E0,E,j,o,U,e,z,O⟩:=I;obtain⟨d,b,z⟩:=zx z;obtain⟨m,Q,b⟩:=zx b;subst z b;exact⟨j,o,m,e.rc,Q,λa s p l x n g R r=>O _ _ _<|(e.step<|x.show n g R e.rc.sub).o8 (XA (gR.of zH)<|r.mono<|zS g _)⟩
theorem IA(i:Nat)(h:SX X sc N L k)(c:kK sc N L i y=dk)
 (d:X.calm=dk) (ok:oe X scope fr) (z : ∀i∈T.idx,i<own.length) (M:pd X tg iter src) (I : ∀fp H C,PG (z6 X scope (own++fr.map (·.1)) fp H C) tg<|n0 X.K T)
 (J : ∀fp H C,PV (z6 X scope (own++fr.map (·.1)) fp H C) elt f) (O : ∀x,nf iter X.env x=pure x:=by intro _;rfl) :
 PS X (.Assign [.Name y py] (.ListComp elt [⟨tg,iter,[],0⟩] scope cpos) spos) (Xx (tO X.K<|zE src T own.length (fr.map (·.2)) z7 f)<|xN i):=by
 obtain⟨a,b,Q⟩:=h.loc c;exact aT h.E4 a b Q d ok z M I J O
theorem pq(i:Nat)(h:SX X sc N L k)(c:kK sc N L i y=dk)
 (d:X.calm=dk) (ok:oe X scope fr) (z : ∀i∈T.idx,i<own.length) (M:pd X tg iter src) (I : ∀fp H C,PG (z6 X scope (own++fr.map (·.1)) fp H C) tg<|n0 X.K T)
 (S : ∀fp H C,kr (z6 X scope (own++fr.map (·.1)) fp H C) C7 kk) (J : ∀fp H C,PV (z6 X scope (own++fr.map (·.1)) fp H C) elt f) (O : ∀x,nf iter X.env x=pure x:=by intro _;rfl) :
 PS X (.Assign [.Name y py] (.ListComp elt [⟨tg,iter,[C7],0⟩] scope cpos) spos) (Xx (tO X.K<|zE src T own.length (fr.map (·.2)) kk f)<|xN i):=by
 obtain⟨a,b,Q⟩:=h.loc c;exact Yq h.E4 a b Q d ok z M I S J O
theorem vH(i:Nat)(h:SX X sc N L k)(c:JW sc N i x=dk)(hi:PV X b g)(Z:PV X e f)
 (S : ∀v,s8 (.Subscript (.Name x np) b p) X.env v=(do
   let I <- u7 [v] (ej (.Name x np) X.env);let R <- u7 [v,I] (ej b X.env)
   DO p
   u7 [v,I,R] (Gd I R v)
   release [v,I,R] []):=by intro _;rfl)
 (hs:Gh [.Subscript (.Name x np) b p] e pos.line X.env=pure dt:=by rfl) (hw:Ht [.Subscript (.Name x np) b p] e X.env=pure dn:=by rfl)
 (C:(u0 [.Subscript (.Name x np) b p] X.env).map (·.2)=[s8 (.Subscript (.Name x np) b p) X.env]:=by rfl) :
 i6 X (.Assign [.Subscript (.Name x np) b p] e pos) (vE i g f):=
 qT (VH Z (lz (h.var c) hi aA S) hs hw C) λD σ H M=>by obtain⟨E0,E,t,s,fl,o,z,u⟩:=M;obtain⟨d,F,z⟩:=zb z;obtain⟨B,O,z⟩:=zb z;obtain⟨P,U,z⟩:=zb z;obtain⟨A,G,U⟩:=zb U;obtain⟨j,J,z⟩:=zx z;subst z;have O:=qy O;refine⟨t,s,d,o.rc,F,λv T l x r=>?_⟩;have Y:=o.step x;obtain⟨a,xs,C,h2,K,m⟩:=Y.rc.own i B O;refine⟨_,C,l,s,A,Y.rc,G,λv2 W w Q n=>?_⟩;rw[jJ U]at n;have y:=Y.step Q;refine⟨a,xs,P,j,rfl,jN n,Q.s1 _ _ K,by rw[m.length];exact Wf J,?_⟩;exact u _ _ w<|y.rewrite (xs:=xs) O C<|(m.mono Q.s0).set j (r.mono Q.s0)
theorem vi(I:PG X tg (n0 X.K T))(J:PV X e f)(O:Gh [tg] e pos.line X.env=pure dt:=by rfl)(M:Ht [tg] e X.env=pure dn:=by rfl)
 (C:(u0 [tg] X.env).map (·.2)=[s8 tg X.env]:=by rfl):i6 X (.Assign [tg] e pos) (Vv T f):=
 qT (VH J I O M C) λD n H Q=>by obtain⟨E0,E,h,j,m,b,z,R⟩:=Q;obtain⟨d,i,z⟩:=zb z;obtain⟨l,U,z⟩:=zx z;subst z;refine⟨h,j,d,b.rc,i,λv g a x r=>?_⟩;exact wA x.sub r U λY _ a0=>R Y g a<|a0 E0 E<|b.step x
end
structure gi(P:hH)(w:g9)(K:Ab)(mg:GJ)(base:e5)(k:Nat)(x:Str)(n:Nat)(F:List D->Option Res):Prop where
 ex : ∃(f:dy) (fd:ow) (ps:List Str),ps.length=n/\ov P w K mg base p9 k f fd ps (o9 K ps.length F)/\mg x=di (.ref f)/\Eh K (.ref f)=dk/\Binds K fd ps []
structure g8(K:Ab)(mg:GJ)(x:Str)(st:h5)(ps:List Str):Prop where
 ex : ∃(f:dy) (fd:ow),L2.A7 K x x st f fd/\(∀us:List dV,us.length=ps.length->bindArgs fd ⟨us,[]⟩=pure (ps.zip us))/\mg x=di (.ref f)
noncomputable def x2(X:Cx)(C:List d3)(n:Nat)(g:CO (List D)):Prop:=t9 X C g/\∀b a,g b=di a->a.length=n
section
variable{X:Cx}{sc:hA}{N L:List Str}{k:Nat}{e:d3}{es:List d3}{f:CO D}{g:CO (List D)}{n:Nat}{pos p:e6}{x:Str}
theorem zg:x2 X [] 0 zJ:=⟨fM,λb a h=>by cases h;rfl⟩
theorem za(C:PV X e f)(d:x2 X es n g)(z:e9 (e::es) X.env=(dt,ej e X.env)::e9 es X.env:=by rfl):x2 X (e::es) (n+1) (zc f g):=
 ⟨bf C d.1 z,λa b h=>by obtain⟨y,i,h⟩:=zb h;obtain⟨r,I,h⟩:=zx h;subst h;rw[BF,d.2 a r I]⟩
variable{j:Nat}{F:List D->Option Res}
theorem pk(d:gi X.prog X.w X.K X.mg X.base j x n F)(z:j<=k)(h:SX X sc N L k)(c:yO sc x=dk)(C:x2 X (e::es) n g)
 (H:e9 (e::es) X.env=(dt,ej e X.env)::e9 es X.env:=by rfl) (I:(m8 pos<|starEach es X.env).any (·.1)=dt:=by rfl):PV X (.Call (.Name x p) (e::es) [] pos) (zG F g):=by
 obtain⟨b,f,i,O,G,Q,a,R⟩:=d.ex;subst O;exact ff (A0:=[]) G C.1 C.2 λ{t} U=>VR G (h.room.mono z) (h.gl c).1 Q a R .nil lM U (h.gl c).2.2 H I
theorem pw(d:gi X.prog X.w X.K X.mg X.base j x n F)(z:j<=k)(h:SX X sc N L k)(c:yO sc x=dk)(C:x2 X (e::es) n g)
 (H:e9 (e::es) X.env=(dt,ej e X.env)::e9 es X.env:=by rfl) (I:(m8 pos<|starEach es X.env).any (·.1)=dt:=by rfl):PO X (.Call (.Name x p) (e::es) [] pos) (jg F g):=by
 obtain⟨b,f,i,O,G,Q,a,R⟩:=d.ex;subst O;exact fE G C.1 C.2 λ{t} U=>VR G (h.room.mono z) (h.gl c).1 Q a R .nil lM U (h.gl c).2.2 H I
end
section
variable{P:hH}{w:g9}{K:Ab}{mg:GJ}{base:e5}
noncomputable def cg(N C:List Str)(st:h5):Bool:=
 decide ((jd st).kind = .function) && decide ((jd st).isCoroutine=dt) && decide ((jd st).isGenerator=dt) && decide N.Nodup && decide (N.take C.length=C) &&
 C.all (λx=>decide ((jd st).names.lookup x=di .local) || decide ((jd st).names.lookup x=di .cell)) && (jd st).names.all (λy=> !(y.2==AD))
theorem Ks{N C:List Str}{st:h5}(h:cg N C st=dk):Ds N C (jd st):=by unfold cg at h;simp only[As,decide_eq_true_eq,Ce,Bh,Eu]at h;obtain⟨⟨⟨⟨⟨⟨a,b⟩,d⟩,z⟩,I⟩,O⟩,Q⟩:=h;exact⟨a,b,d,z,I,O,λy R e=>by have:=Q y R;rw[e]at this;exact absurd this ⋯⟩
theorem KI{X:Cx}(d:X.xe=λ_ _=>False):Dy (el X.prog X.w) X.A X.env X.xe:=by rw[d];exact PassesOwn.never
theorem qM{x:Str}{st:h5}{N C:List Str}{k:Nat}{F:CO Fl}(A:g8 K mg x st C)(J:cg N C st=dk)
 (z : ∀X:Cx,X.prog=P->X.w=w->X.K=K->X.mg=mg->X.base=base->SX X (jd st) N N k->X.xe=(λ_ _=>False)->K9 X (xP st) F) :
 gi P w K mg base (k+1) x C.length (jh N.length F):=by
 obtain⟨f,e,d,I,O⟩:=A.ex;have S:=Ks J;refine⟨f,e,C,rfl,mH d S λb A a s H E Q=>?_,O,d.kp,.all I⟩;exact z _ rfl rfl rfl rfl rfl ⟨rfl,rfl,S.nd,rfl,Q,λ_ _=> .inl rfl⟩ rfl
theorem sL{h:e5}{x:Str}{st:h5}{M:List Str}{f:dy}{Y:dV}{Z I:Option dy}{L:Array (Option dV)}{kV H J C ct:dV}(d:K.In h)(G:h.Ns o5 mg)
 (a:PySem.W.nsIn K o5 x=di (di (.ref f))) (l:K.lookup f=di ⟨Y,Z,.func<|CM x x (wu st) (xP st) (jd st) .none kV H J I C ct,L⟩)
 (c:EG K C x=dk) (S:Eh K (.ref f)=dk)
 (b : ∀(kV H J:dV) (I:Option dy) (C ct:dV) (O:List dV),O.length=M.length->bindArgs (CM x x (wu st) (xP st) (jd st) .none kV H J I C ct) ⟨O,[]⟩=pure (M.zip O)):g8 K mg x st M:=
 ⟨f,_,mG l c S,b kV H J I C ct,PySem.W.mg_of d G a⟩
theorem pQ{x:Str}{st:h5}{f:dy}{J:ow}{N C:List Str}{k:Nat}{F:CO Fl}(d:L2.A7 K x x st f J)(L:cg N C st=dk)
 (z : ∀X:Cx,X.prog=P->X.w=w->X.K=K->X.mg=mg->X.base=base->SX X (jd st) N N k->X.xe=(λ_ _=>False)->K9 X (xP st) F) :
 ov P w K mg base p9 (k+1) f J C (o9 K C.length<|jh N.length F):=by
 have S:=Ks L;exact mH d S λb A a s H E I=>z _ rfl rfl rfl rfl rfl ⟨rfl,rfl,S.nd,rfl,I,λ_ _=> .inl rfl⟩ rfl
theorem nO{F:List D->Option Res}{H:Hp}{a:dy}{C:List Int}(d:gR K H a (C.map V.int))(z:F [.lst (C.map D.int)]=di (.val<|.bl dk)) :
 o9 K 1 F [.ref a] H (λv _=>v = .bl dk) λ_ _ _=>False:=by
 refine⟨H,[.lst (C.map D.int)],.val<|.bl dk,f6.refl _,d0.cons (XA d ?_) d0.nil,rfl,z,λv e b _ r=>r⟩;clear z d
 induction C with
 | nil=>exact d0.nil
 | cons n C I=>exact d0.cons rfl I
end
end DL
namespace DL
open PySem PySem.Spec PyProof.Rows L2
open AutoSeq1 (wpAny_loadPart')
theorem y9:fillsNumberSlot (.type "tuple") "mul" = pure dt:=
 PySem.fillsNumberSlot_seq (id:="tuple.__mul__") (r:=di (.builtin "tuple.__rmul__")) Ee.lookup ⋯ F.slot_tuple_rmul.lookup ⋯
theorem QA:seqRepeat? (.type "tuple")=pure (di (.builtin "tuple.__mul__")):=by unfold seqRepeat?;rw[PySem.seqSlot_of (T:="tuple") (name:="__mul__") (id:="tuple.__mul__") Ee.lookup ⋯,PySem.seqSlot_of (T:="tuple") (name:="__rmul__") (id:="tuple.__rmul__") F.slot_tuple_rmul.lookup ⋯];rfl
theorem wZ(a:Int)(t:Tok)(l:dy)(z:Array dV)(n:Nat)(I:Option dy)(C:Array (Option dV)) :
 C4 (si.«int.__rmul__» ⟨[.int a t,.ref l],[]⟩) (λ_ R s=>s.heap.get? l=di {cls:= .type "tuple",dict:=I,data:= .seq z n,slots:=C}/\R (.ok (.ret Value.notImplemented)) s):=
 .of_wp λb w A R s h=>by obtain⟨O,g,d,Q,os⟩:=s;obtain⟨U,h⟩:=h;wp_walk;exact⟨_,rfl,h⟩
theorem ZY(a:Int)(t:Tok)(l:dy)(z:Array dV)(n:Nat)(O:Option dy)(J:Array (Option dV))(C : ¬(decide (a < -(2 ^ 63)) || decide (a>=2 ^ 63))=dk)(H : ¬(z.isEmpty || a==1)=dk)
 (Q : ¬(decide (a<=0) || z.isEmpty)=dk) (U : ¬((z.size:Int)*a>(2 ^ 63 - 1)/8)) (Y : ¬Builtin.Tuple.tupleTooMany ((z.size:Int)*a)=dk) (hz:((Ag a.toNat z).foldl (· ++ ·) #[]).size<=eG) :
 C4 (si.«tuple.__mul__» ⟨[.ref l,.int a t],[]⟩) (λ_ R s=>s.heap.get? l=di {cls:= .type "tuple",dict:=O,data:= .seq z n,slots:=J}/\
  R (.ok (.ret (.ref s.heap.objs.size))) {s with heap:=s.heap.push {cls:= .type "tuple",data:= .seq ((Ag a.toNat z).foldl (· ++ ·) #[])}}):=
 .of_wp λb w A R s h=>by
  obtain⟨e,g,d,f,os⟩:=s;obtain⟨I,h⟩:=h
  wp_walk using BW I
  rw[MQ C];refine Ac<|EJ (s:=⟨e,g,d,f,os⟩) ⟨_,I,rfl,n,rfl⟩ ?_;dsimp only;rw[MQ H,MQ Q,MQ U,MQ Y];refine Ac (m:=BI _)<|BM ?_ hz;exact Am ⟨_,rfl,h⟩
theorem wL(a:Int)(t:Tok)(l:dy)(z:Array dV)(n:Nat)(O:Option dy)(J:Array (Option dV))(C : ¬(decide (a < -(2 ^ 63)) || decide (a>=2 ^ 63))=dk)(H : ¬(z.isEmpty || a==1)=dk)
 (Q:(decide (a<=0) || z.isEmpty)=dk) :
 C4 (si.«tuple.__mul__» ⟨[.ref l,.int a t],[]⟩) (λ_ R s=>s.heap.get? l=di {cls:= .type "tuple",dict:=O,data:= .seq z n,slots:=J}/\
  R (.ok (.ret (.ref s.heap.objs.size))) {s with heap:=s.heap.push {cls:= .type "tuple",data:= .seq #[]}}):=
 .of_wp λb w A R s h=>by
  obtain⟨U,g,d,Y,os⟩:=s;obtain⟨I,h⟩:=h
  wp_walk using BW I
  rw[MQ C];refine Ac<|EJ (s:=⟨U,g,d,Y,os⟩) ⟨_,I,rfl,n,rfl⟩ ?_;dsimp only;rw[MQ H,GY Q];refine Ac (m:=BI _)<|BM ?_ (BB _);exact Am ⟨_,rfl,h⟩
theorem wK(a:Int)(t:Tok)(l:dy)(I:Array dV)(n:Nat)(O:Option dy)(J:Array (Option dV))(C : ¬(decide (a < -(2 ^ 63)) || decide (a>=2 ^ 63))=dk)(H:(I.isEmpty || a==1)=dk) :
 C4 (si.«tuple.__mul__» ⟨[.ref l,.int a t],[]⟩) (λ_ R s=>s.heap.get? l=di {cls:= .type "tuple",dict:=O,data:= .seq I n,slots:=J}/\R (.ok (.ret (.ref l))) s):=
 .of_wp λb w A R s h=>by
  obtain⟨Q,g,d,U,os⟩:=s;obtain⟨z,h⟩:=h
  wp_walk using BW z
  rw[MQ C];refine Ac (EJ (s:=⟨Q,g,d,U,os⟩) ⟨_,z,rfl,n,rfl⟩ ?_);dsimp only;rw[GY H];refine Ac (m:=Cf _) ?_;unfold Cf;refine Ac (EU (T:="tuple") ⟨_,z,rfl⟩ (Am ?_));rw[GY ⋯];exact Ac (Fb (Am ⟨_,rfl,h⟩))
section
variable{X:Cx}
noncomputable def iQ(K:Ab):R2:=λx y H Q=>∃l k a,x = .ref l/\y = .int k/\gj K H l a/\ -(2 ^ 62)<=k/\k<2 ^ 62/\a.length*k.toNat<=eG/\(a=[]\/k=1->Q (.ref l) H)/\
 ∀p,H p=dn->Q (.ref p) (upd H p<|.tup (Ag k.toNat a).flatten)
theorem fN:hL X (p4 .Mult) (iQ X.K):=by
 intro E s σ H x y v u Q I rx ry h;obtain⟨l,k,J,rfl,rfl,S,h1,h2,C,q1,G⟩:=h;cases rx;obtain⟨t,rfl⟩:=ry;obtain⟨d,r,W,z1⟩:=I.tuple S;obtain⟨⟨P,R,j,a⟩,z,w,n,A⟩:=id W;simp only at w A;subst w A;have L:=r.length;have Y : ¬(decide (k < -(2 ^ 63)) || decide (k>=2 ^ 63))=dk:=by simp;omega
 refine wpAny_binaryOp_repeat_ref (T:="tuple") (U:="int") ⋯ ⟨_,z,rfl⟩ (λs'=>HB s' k t) y9 F.fills_int_mul F.slot_int_rmul QA F.slot_int_index.lookup
  (Ea F.slot_int_rmul (HB s k t) F.entry_int_rmul (F.args_int_rmul_2 _ _) (wZ k t l d.toArray n R a) ⟨z,rfl,⟨_,z,rfl⟩,?_⟩)
 have p : ∀m:Nat,List.foldl (λx1 i=>x1++i) #[] (Ag m d.toArray)=(Ag m d).flatten.toArray:=λm=>by have:=Xc d m [];rw[List.nil_append]at this;exact this
 by_cases g2:(d.toArray.isEmpty || k==1)=dk
 ·refine Ea Ee ⟨_,z,rfl⟩ Fx (Fk _ _) (wK k t l d.toArray n R a Y g2) ⟨z,⟨.ref l,H,I,rfl,q1 ?_⟩⟩
  rw[Bh]at g2;rcases g2 with g | g
  ·left
   have:d=[]:=by simpa using g
   exact(r.E5).mp this
  ·right;simpa using g
 ·have b:=g2
  simp only[Bh,not_or]at b;have M:d ≠ []:=by intro e;exact b.1 (by rw[e];rfl)
  have am:0<d.length:=List.length_pos_iff.mpr M;by_cases O:(decide (k<=0) || d.toArray.isEmpty)=dk
  ·have B:k.toNat=0:=by
    rw[Bh]at O;rcases O with g | g
    ·have:=of_decide_eq_true g;omega
    ·exact absurd g b.1
   refine Ea Ee ⟨_,z,rfl⟩ Fx (Fk _ _) (wL k t l d.toArray n R a Y g2 O) ⟨z,?_⟩;refine⟨.ref s.heap.objs.size,_,I.laid (t':=s.toks) (o:= .tup (Ag k.toNat J).flatten) (λc Z q=>Ae _ q) (Al _) ?_,rfl,G _<|I.e4.fresh<|Al _⟩;rw[B];exact⟨BB _,[],.nil,sj.new _ _⟩
  ·have B : ¬k<=0:=by intro g;exact O (by rw[Bh];exact .inl<|decide_eq_true g)
   have f:d.length*k.toNat<=eG:=by rw[<- L];exact C
   have an:((d.toArray.size:Nat):Int)*k<=(eG:Int):=by
    rw[Aj];have e:((d.length*k.toNat:Nat):Int)=(d.length:Int)*k:=by rw[Int.natCast_mul,Int.toNat_of_nonneg ⋯]
    omega
   have ap:eG=16777216:=sizeLine_eq;have N:(List.foldl (λx1 i=>x1++i) #[] (Ag k.toNat d.toArray)).size<=eG:=by rw[p,Aj,V5,Fm];exact f
   refine Ea Ee ⟨_,z,rfl⟩ Fx (Fk _ _) (ZY k t l d.toArray n R a Y g2 O ⋯ (by unfold Builtin.Tuple.tupleTooMany;simp only[decide_eq_true_eq];omega) N) ⟨z,?_⟩;rw[p];refine⟨.ref s.heap.objs.size,_,I.laid (t':=s.toks) (o:= .tup (Ag k.toNat J).flatten) (λc Z q=>Ae _ q) (Al _) ?_,rfl,G _<|I.e4.fresh<|Al _⟩;exact⟨by rw[V5,Fm];exact C,_,r.rep k.toNat,sj.new _ _⟩
theorem eI{K:Ab}:l4 K (λx y H Q=>rI C3 (λi j=> .int (i*j)) x y H Q\/iQ K x y H Q) k9:=λh H x y l U d Q s rx O z q=>by
 cases l<;>cases U<;>simp[k9]at z
 ·obtain⟨m,I⟩:=z
  subst I;exact .inl ⟨_,_,jN rx,jN O,cE m,q _ H h (Ext.refl s) rfl⟩
 ·rename_i f j
  obtain⟨⟨Y,n⟩,rfl⟩:=z;obtain⟨a,t,rfl,g,b⟩:=yF rx;obtain⟨o,r⟩:=JA n;refine .inr ⟨a,j,t,rfl,jN O,ll s g,o,r,k6 (by rw[b.length];exact Y),λe=>?_,λp R=>?_⟩
  ·refine q _ H h (Ext.refl s) ?_
   rcases e with e | e
   ·have I:f=[]:=by
     have:=b.length;rw[e]at this;exact AN this.symm
    subst I;rw[show(Ag j.toNat ([]:List D)).flatten=[]by simp];exact qD g b
   ·subst e
    rw[show(Ag (1:Int).toNat f).flatten=f by simp];exact qD g b
  ·exact q _ _ _ (Ext.alloc s R _)<|qD (gj.of zH)<|(Kw b _).mono (zS (jB s R) _)
theorem qP(C:PV X a fa)(d:PV X b fb):PV X (.BinOp a .Mult b pos) (zy k9 fa fb):=Zq (Iz.or fN) eI C d
end
end DL
namespace DL
open PySem PySem.Spec PyProof.Rows L2
theorem RC.Ip{K:Ab}{J H:Hp}{S:St}{γ:Ctx}{i:Nat}{C:List D}{a:dy}{xs:List V}(r:RC K J H S γ)(e:γ[i]? = di (.own C))(M:S[i]? = di (di (.ref a)))(L:J a=dn)(Z:H a=di (.lst xs))(h4:d0 K J C xs):RC K (L2.upd J a<|.lst xs) H S (γ.set i<|.val<|.lst C):=by
 refine⟨λb o q=>?_,by simp[r.len],λj d g=>?_,λj l g=>?_,λj k b l fs f I p s=>?_,⟨λj h g=>?_,λj k u w f I=>?_⟩⟩
 ·by_cases z:b=a
  ·subst z;rw[zH]at q;rw[Z];exact q
  ·rw[zK z]at q;exact r.sub b o q
 ·rcases zI g with⟨rfl,z,A⟩ | ⟨Q,z⟩
  ·cases z;exact⟨_,M,XA (gR.of zH)<|h4.mono<|zS L _⟩
  ·obtain⟨v,R,g2⟩:=r.val j d z
   exact⟨v,R,g2.mono<|zS L _⟩
 ·rcases zI g with⟨_,z,_⟩ | ⟨Q,z⟩
  ·cases z
  ·obtain⟨b,x,R,g2,g3,t⟩:=r.own j l z
   refine⟨b,x,R,?_,g3,t.mono<|zS L _⟩;rw[zK (λq=>Q<|r.ne j i a l C z e (by rw[R,q]) M)];exact g2
 ·rcases zI f with⟨_,z,_⟩ | ⟨Q,O⟩
  ·cases z
  ·rcases zI I with⟨_,z,_⟩ | ⟨y,U⟩
   ·cases z
   ·exact r.ne j k b l fs O U p s
 ·rcases zI g with⟨_,z,_⟩ | ⟨Q,z⟩
  ·cases z
  ·obtain⟨b,bs,f1,f2,m⟩:=r.o6.1 j h z
   have n:=m i C a e M;refine⟨b,bs,f1,f2.move (zS L _) (λc Y=>by rw[zK (λq=>n<|by rw[<- q];exact Y)];exact(f2.at Y).1)<|λc Y=>rfl,λk fs c f I=>?_⟩;rcases zI f with⟨_,z,_⟩ | ⟨_,O⟩
   ·cases z
   ·exact m k fs c O I
 ·rcases zI f with⟨_,z,_⟩ | ⟨_,O⟩
  ·cases z
  ·rcases zI I with⟨_,z,_⟩ | ⟨_,U⟩
   ·cases z
   ·exact r.o6.2 j k u w O U
end DL
namespace L2
open PySem PySem.Spec PyProof.Rows
open AutoSeq1 (wpAny_loadPart')
section
variable{prog:hH}{w:g9}{A:mA}{E:GQ}{s:eg}
theorem YH{z it l:dy}{n:Nat}{xs:Array dV}{x O:dV}{Q:GQ}(hz:qs s.heap z it n O)(S:iv .T s.heap it l n)(hl:l5 .T s.heap l xs)(hx:xs[n]? = di x)(Y:z≠it)
 (Z : ∀g,FH g z it ((n:Int)+1) x s.heap.objs.size->iv .T g it l (n+1)->l3 g s.heap.objs.size (.int n s.toks) x->g.objs.size=s.heap.objs.size+1->
   (∀c o,c≠z->c≠it->s.heap.get? c=di o->g.get? c=di o)->Q (.ref s.heap.objs.size) {s with heap:=g,toks:=s.toks+1}) :
 wpAny (el prog w) A (si.«enumerate.__next__» ⟨[.ref z],[]⟩) (λL s'=>∃v,L = .done (.ret v)/\Q v s') E s:=by
 refine Ac (m:=field (.ref z) 2) (Bi hz rfl (x:= .ref it) rfl ?_);refine Ac (m:=AI (.ref it)) (yj S hl hx λg1 K f=>?_);have h:qs g1 z it n O:=f.extBut _ _ Y hz;refine Ac (m:=field (.ref z) 3) (Bi h rfl (x:=B9 n) rfl ?_);refine Ac (m:=field (.ref z) 4) (Bi h rfl (x:= .none) rfl ?_);refine Ac (m:=mkInt n) (wpAny_mkInt ?_);refine Ac (m:=Hq (.ref z) 3 (B9 ((n:Int)+1))) (By h ⋯ λg2 i j=>?_);replace i:qs g2 z it ((n:Int)+1) O:=i;refine Ac (m:=Hq (.ref z) 4 .none) (By i ⋯ λR p r=>?_);replace p:qs R z it ((n:Int)+1) O:=p;refine Ac (m:=newTuple [.int n s.toks,x]) (wpAny_newTuple ?_);have b:qs (R.push {cls:= .type "tuple",data:= .seq #[.int n s.toks,x]}) z it ((n:Int)+1) O:=Ae _ p;generalize a1:R.push {cls:= .type "tuple",data:= .seq #[.int n s.toks,x]}=I at b;have y1:g1.objs.size=s.heap.objs.size:=f.1;have y2:g2.objs.size=g1.objs.size:=j.1;have y3:R.objs.size=g2.objs.size:=r.1;have a:R.objs.size=s.heap.objs.size:=by rw[y3,y2,y1]
 have M:z<s.heap.objs.size:=Aq hz;have N:l3 I s.heap.objs.size (.int n s.toks) x:=by show I.get? _=_;rw[<- a1,<- a];exact AA _ rfl
 have y4:I.objs.size=s.heap.objs.size+1:=by rw[<- a1,AZ,a]
 have bg : ∀c o,c≠z->c≠it->s.heap.get? c=di o->I.get? c=di o:=λc o d B e=>by rw[<- a1];exact Ae _<|r.extBut _ _ d<|j.extBut _ _ d<|f.extBut _ _ B e
 have P:iv .T I it l (n+1):=K.at λo e=>by rw[<- a1];exact Ae _<|r.extBut _ _ Y.symm<|j.extBut _ _ Y.symm e
 refine Ac (m:=Ba<|.ref z) ?_;unfold Ba;refine Ac<|Bi b rfl (x:= .none) rfl<|Am ?_;simp only[if_true];refine Ac<|Fb<|Ac<|Bi b rfl (x:=O) rfl ?_;refine Ac<|By b ⋯ λC t G=>?_;replace t:qs C z it ((n:Int)+1) x:=t;rw[a];refine Ac (m:=BJ (.ref z)<|.ref s.heap.objs.size) ?_;unfold BJ;refine Ac<|By t ⋯ λg6 u H=>?_;replace u:FH g6 z it ((n:Int)+1) x s.heap.objs.size:=u;refine By u ⋯ λU y J=>?_;replace y:FH U z it ((n:Int)+1) x s.heap.objs.size:=y;have F : ∀c o,c≠z->I.get? c=di o->U.get? c=di o:=λc o d e=>J.extBut _ _ d<|H.extBut _ _ d<|G.extBut _ _ d e;have y7:U.objs.size=s.heap.objs.size+1:=by have W:C.objs.size=I.objs.size:=G.1;have X:g6.objs.size=C.objs.size:=H.1;have q7:U.objs.size=g6.objs.size:=J.1;rw[q7,X,W,y4]
 exact Ac<|wpAny_letGo<|Am ⟨_,rfl,Z U y (P.at λo e=>F _ o Y.symm e) (F _ _ (BZ M) N) y7 λc o d B e=>F c o d<|bg c o d B e⟩
theorem Ws{z it l:dy}{n:Nat}{xs:Array dV}{d:dV}{Q:Fin->eg->Prop}(I:A.handled=dn)(hz:qs s.heap z it n d)(C:iv .T s.heap it l n)(O:l5 .T s.heap l xs)(R:xs[n]? = dn)
 (U : ∀g e,Heap.ExtBut it s.heap g->(∃o,g.get? e=di o/\o.cls = .type "StopIteration")->E (.ref e) {s with heap:=g}) :
 wpAny (el prog w) A (si.«enumerate.__next__» ⟨[.ref z],[]⟩) Q E s:=
 Ac (m:=field (.ref z) 2) (Bi hz rfl (x:= .ref it) rfl<|Ac (m:=AI<|.ref it)<|Ju I C O R U)
end
noncomputable def gJ(i:dy):i5:={cls:= .type "enumerate",data:= .fields #[.none,.bool dt,.ref i,B9 0,.none,.none]}
def wt(h:e5)(l:dy):e5:=Bc (Bc h<|kv .T l)<|gJ h.objs.size
theorem Wr(l:dy)(xs:Array dV) :
 C4 (si.«enumerate.__new__» ⟨[.type "enumerate",.ref l],[]⟩) (λ_ R s=>l5 .T s.heap l xs/\R (.ok (.ret (.ref (s.heap.objs.size+1)))) {s with heap:=wt s.heap l}):=
 .of_wp λb w A R s h=>by
  obtain⟨Q,g,d,U,os⟩:=s;obtain⟨Y,h⟩:=h;have f:=sub_enumerate;have z:Heap.IsTuple (Shared.heap ⟨Q,g,d,U,os⟩) l xs:=Y;obtain⟨o,I,O,m,a⟩:=id z;obtain⟨e,ih,i,j⟩:=o;simp only at O a;subst O a;simp only[wt,gJ,kv,AZ]at h
  wp_walk using BW I
  refine wpAny_stack_any λst=>Am ?_;split
  ·rename_i c _ _ _ _ _
   cases (c==CJ "enumerate")<;>(wp_walk using BW I,Ez z;exact⟨_,rfl,by simpa[AZ,Ei]using h⟩)
  ·wp_walk using BW I,Ez z
   exact⟨_,rfl,by simpa[AZ,Ei]using h⟩
noncomputable def FI(K:Ab)(a:dy):It:=
 ⟨λi H=>∃b,i2 .T K H a b/\i<b.length,
  λi H x d=>∃p u,x = .ref p/\H p=dn/\d=upd H p (.tup [.int i,u])/\(∀b,i2 .T K H a b->b[i]? = di u),
  λi H=>∃b,i2 .T K H a b/\b.length<=i⟩
theorem yo(hz:qs s.heap z it n old)(h:Q (.ref z) s):wpAny (el prog w) A (E7 (.ref z)) Q E s:=by have d:s.TypeIs (.ref z) "enumerate":=⟨_,hz,rfl⟩;refine wpAny_pyIter_slot d F.slot_enumerate_iter (BO F.slot_enumerate_iter d F.entry_enumerate_iter ?_ (F.args_enumerate_iter_1 _));have I:wpAny (el prog w) A.in1 (ret (.ref z)) (λI a=>∃v,I = .done (.ret v)/\∃T m,a.TypeIs v T/\HC (.type T) "__next__" = pure (di m)/\Q v a) E s:=Am ⟨_,rfl,"enumerate",_,d,Ct.lookup,h⟩;exact I
theorem Y9{P:hH}{w:g9}{K:Ab}{elts:List d3}{x1:Nat}{t4:e6}{z it a:dy}(aa:z≠it) :
 Turn P w K (.Tuple elts x1 t4) (FI K a) [z,it] z (λi h=>(∃Q,qs h z it i Q)/\iv .T h it a i) where
 mem:=by simp
 obj:=λi h ⟨⟨Q,hz⟩,h1⟩ y hy=>by
  simp only[Ao,AH,or_false]at hy;rcases hy with rfl | rfl
  ·exact⟨_,hz,λv q=>by cases q⟩
  ·exact h1.obj
 keep:=λi h h' ⟨⟨Q,hz⟩,h1⟩ k=>⟨⟨Q,k z ⋯ _ hz⟩,h1.at λo e=>k it ⋯ o e⟩
 item:=by
  rintro X hP hw hK hc i pins s σ H E I U ⟨⟨Q,hz⟩,h1⟩ ⟨xs,Y,am⟩;subst hP hw hK;obtain⟨an,a7,p1,z1⟩:=I.sq Y;have hx:xs[i]? = di xs[i]:=Ak am;obtain⟨u1,ar,as⟩:=a7.get hx;have R:s.TypeIs (.ref z) "enumerate":=⟨_,hz,rfl⟩;unfold Di;refine Ac (Fv (Bu (name:=BN "__next__") R Ct (BO Ct R F.entry_enumerate_next
   (YH hz h1 p1 (x:=u1) (by simpa using ar) aa λg a1 a2 a3 a4 a5=>Am ⟨_,rfl,?_⟩) (F.args_enumerate_next_1 _))))
  refine IK a1 λg2 b7 a9=>?_;have lt : ∀{c o},s.heap.get? c=di o->s.heap.objs.size≠c:=λe=>BZ<|Aq e;have b8:l3 g2 s.heap.objs.size (.int i s.toks) u1:=a9.extBut _ _ (lt hz) a3;have kk : ∀O u,O ∉ [z,it]->s.heap.get? O=di u->g2.get? O=di u:=λO u d e=>by simp only[Ao,AH,or_false,not_or]at d;exact a9.extBut _ _ d.1<|a5 O u d.1 d.2 e
  have I1:Inv X pins σ (upd H s.heap.objs.size<|.tup [.int i,xs[i]]) {s with heap:=g2,toks:=s.toks+1}:=
   I.Gu (fp:=[z,it]) kk U (Al _) ⟨by show 2<=eG;decide,[.int i s.toks,u1],.cons ⟨_,rfl⟩<|.cons as .nil,⟨_,b8,rfl,_,rfl⟩⟩
  have bb:H s.heap.objs.size=dn:=I.fresh;refine⟨.ref s.heap.objs.size,_,I1,rfl,⟨_,_,rfl,bb,rfl,λbm bd=>by rw[I.Gf bd Y];exact hx⟩,?_,λO d=>?_⟩
  ·exact⟨⟨_,by have:=b7;rwa [show((i:Int)+1)=((i+1:Nat):Int)by omega]at this⟩,a2.at λo e=>a9.extBut _ _ aa.symm e⟩
  ·have be:O≠s.heap.objs.size:=by
    simp only[Ao,AH,or_false]at d;rcases d with rfl | rfl
    ·exact(lt hz).symm
    ·obtain⟨o,e,_⟩:=h1.obj;exact(lt e).symm
   rw[zK be];exact(U O d).1
 done:=by
  rintro X hP hw hK hc i pins s σ H E I U ⟨⟨Q,hz⟩,h1⟩ ⟨xs,Y,hi⟩;subst hP hw hK;obtain⟨an,a7,p1,z1⟩:=I.sq Y;have R:s.TypeIs (.ref z) "enumerate":=⟨_,hz,rfl⟩;have l1:=a7.length;unfold Di;refine Ac (Fv (Bu (name:=BN "__next__") R Ct (BO Ct R F.entry_enumerate_next
   (Ws (show X.A.handled=dn from I.ok.hd hc) hz h1 p1 (by simp;omega) λg e hk he=>?_) (F.args_enumerate_next_1 _))))
  obtain⟨o,ho,bi⟩:=he;refine Ac (wpAny_isInstance (T:="StopIteration") (b:=dk) ⟨o,ho,bi⟩ isSubtype_stop (Am ⟨rfl,?_⟩));refine I.Gv (t':=s.toks) (fp:=[z,it]) (λO u d e=>?_) U;simp only[Ao,AH,or_false,not_or]at d;exact hk O u d.2 e
 self:=λ_ _ _ _ _ st h=>yo st.1.choose_spec h
noncomputable def pM(K:Ab)(C:TA):TI:=λf H R=>C f H λd b=>∃a,d=[.ref a]/\(∃e,i2 .T K b a e)/\R (FI K a) b
theorem fG{X:Cx}{L:d3}{M:TA}{p pos:e6}{C:List d3}{x1:Nat}{J:e6}(Y:Gl X "enumerate")(Z:X.mg "enumerate" = dn)(S:PA X [L] M)
 (hv:z3 "enumerate" = di (.type "enumerate")) (hs:e9 [L] X.env=[(dt,ej L X.env)]:=by rfl) :
 PI X (.Tuple C x1 J) (.Call (.Name "enumerate" p) [L] [] pos) (pM X.K M):=by
 intro f s j H R I h;refine DU<|ym I Y Z hv<|Bz (en (S pos f s j H _ I h) λE b u=>?_) (by rw[hs];rfl) rfl;obtain⟨G,i,d,x,w⟩:=u;obtain⟨a,e,⟨P,m⟩,q⟩:=w;subst e;obtain⟨N,t,n⟩:=yE x;subst t;cases n;obtain⟨r,A,O,W⟩:=d.sq m;have B:=O.lt;refine Ia F.called_enumerate ⋯ (F.typeCall_enumerate_1 _) (F.newCall_enumerate_1 _) (λobj=>F.args_object_init_2 obj _) F.entry_enumerate_new (Wr a r.toArray) ⟨O,?_⟩;have g : ∀c o,b.heap.get? c=di o->(wt b.heap a).get? c=di o:=λc o e=>Ae _<|Ae _ e;have y:(Bc b.heap<|kv .T a).objs.size=b.heap.objs.size+1:=AZ ..;have g0:iv .T (wt b.heap a) b.heap.objs.size a 0:=(ZE .T b.heap a).at λo e=>Ae _ e;have z:qs (wt b.heap a) (b.heap.objs.size+1) b.heap.objs.size 0 .none:=by have q:=AA (Bc b.heap<|kv .T a) (o:=gJ b.heap.objs.size) rfl;rw[y]at q;exact q
 refine⟨⟨_,z,rfl⟩,yo (s:={b with heap:=wt b.heap a}) z ?_⟩;have l:Inv X f j i {b with heap:=wt b.heap a,toks:=b.toks}:=d.kept g;refine⟨_,[b.heap.objs.size+1,b.heap.objs.size],_,_,i,rfl,l,Y9<|BZ<|BH _,⟨⟨_,z⟩,g0⟩,λc Q=>?_,q⟩;have U:b.heap.objs.size<=c:=by
  simp only[Ao,AH,or_false]at Q;rcases Q with rfl | rfl
  ·exact Bj _ _
  ·exact Al _
 exact d.De U<|d.e4.fresh U
end L2
namespace DL
open PySem PySem.Spec PyProof.Rows L2
theorem QX{K:Ab}{H:Hp} : ∀{C:List D} {xs:List V} {l:List Int},d0 K H C xs->wg C=di l->xs=l.map V.int
 | [],xs,l,r,e=>by cases e;rw[show xs=[]from r];rfl
 | d::C,xs,l,r,e=>by
  obtain⟨x,g,rfl,z,b⟩:=(show ∃x r,xs=x::r/\Rep K H d x/\d0 K H C r from r);cases d with
  | int i=>
   obtain⟨f,a,rfl⟩:=zx (show(wg C).map (λl=>i::l)=di l from e);rw[QX b a,show x = .int i from z];rfl
  | _=>cases e
theorem Xd : ∀l:List Int,(l.map V.int).all JF=dk
 | []=>rfl
 | i::l=>by simp only[Ap,List.all_cons,Xd l,Bool.and_true];rfl
theorem Wh(i:Int) : ∀l:List Int,D8 (.int i) (l.map V.int)=decide (i∈l)
 | []=>rfl
 | j::l=>by
  have d:=Wh i l;unfold D8 at d ⊢;rw[Ap,Ec,d];have e:u5 (.int j) (.int i)=(j==i):=rfl;rw[e];by_cases h:i=j
  ·subst h
   rw[beq_self_eq_true,Bool.true_or];exact(decide_eq_true Ar).symm
  ·rw[beq_false_of_ne (Br h),Bool.false_or]
   exact decide_eq_decide.mpr ⟨λq=>Ax _ q,λq=>(Ao.mp q).resolve_left h⟩
theorem Y5{K:Ab}{H J:Hp}{a:dy}{xs:List V}{C:List D}(h:gj K J a xs)(r:d0 K H C xs):Walk K H J (FI K a) (xt C):=by
 have U:=r.length;have o:(xt C).length=C.length:=by simp[xt]
 refine⟨λi b s m=>?_,λb s=>?_,λi b x g s m y=>?_⟩
 ·exact⟨xs,ll s h,by omega⟩
 ·exact⟨xs,ll s h,by omega⟩
 ·obtain⟨p,u,j,z,I,O⟩:=y
  obtain⟨d,l,Q⟩:=r.D7<|O xs<|ll s h;refine⟨.tup [.int i,d],?_,λf n e=>⟨upd f p<|.tup [.int i,u],?_,?_⟩⟩
  ·have R:i<C.length:=by omega
   unfold xt;rw[AM,BK R,AO,l];rfl
  ·rw[I];exact Ext.alloc e z _
  ·rw[j]
   exact qD (gj.of zH)<|d0.cons (show V.int i = .int i from rfl)<|d0.cons ((Q.mono n).mono (zS (jB e z) _)) d0.nil
section
variable{X:Cx}{sc:hA}{N L:List Str}{k:Nat}{a b c:d3}{pos p:e6}{f fa fb fc:CO D}
theorem VN(h:SX X sc N L k)(c:yO sc "enumerate" = dk)(z:X.mg "enumerate" = dn)(C:PV X a f)(O:e9 [a] X.env=[(dt,ej a X.env)]:=by rfl) :
 hR X (.Tuple elts x1 t4) (.Call (.Name "enumerate" p) [a] [] pos) (Vw f):=
 QG (fG (h.gl c).1 z (jr C qb O) boot_enumerate O) λo H R U=>by
  obtain⟨g,l,m,rc,I,q⟩:=U;obtain⟨d,Y,I⟩:=zb I;cases d with
  | tup n=>
   cases I;refine⟨g,l,_,rc,Y,λv e b x r=>?_⟩;obtain⟨i,j,rfl,Q,g2⟩:=yF r;exact⟨i,rfl,⟨j,ll x.sub Q⟩,q _ e b x<|Y5 Q g2⟩
  | _=>cases I
theorem aL(ho:hL X (mr op) r)(C:hL X (mr DM) r')(s1:l4 X.K r F)(s2:l4 X.K r' G)(M:PV X a fa)(S:PV X b fb)(Z:PV X c fc)
 (hm:F1 [op,DM] [b,c]=dt:=by with_unfolding_all rfl):PV X (.Compare a [op,DM] [b,c] pos) (J8 F G fa fb fc):=
 jO (aZ ho C M S Z hm) λσ H Q L=>by
  obtain⟨i,e,d,rc,I,q⟩:=L;obtain⟨x,u,I⟩:=zb I;obtain⟨y,w,I⟩:=zb I;obtain⟨k,A,I⟩:=zb I;obtain⟨U,B,Y⟩:=zb A;refine⟨i,e,x,rc,u,λv1 H1 o x1 N=>⟨o,e,y,rc.ext x1,w,λh j p O g=>s1 p j v1 h x y U _ O.sub (N.mono O.s0) g B λv3 l f x3 P=>?_⟩⟩;cases U with
  | bl k'=>
   cases Y;refine⟨k,show v3 = .bl k from P,?_⟩;cases k with
   | true=>
    rw[GY rfl];rw[GY rfl]at I;obtain⟨z,E,J⟩:=zb I;exact⟨f,e,z,((rc.ext x1).ext O).ext x3,E,λv4 m s R T=>s2 s m h v4 y z d _ R.sub ((g.mono x3.s0).mono R.s0) T J λv5 n t x5 W=>q v5 n t (((x1.trans O).trans x3).trans (R.trans x5)) W⟩
   | false=>
    rw[MQ ⋯];rw[MQ ⋯]at I;cases I;exact q _ l f ((x1.trans O).trans x3) rfl
  | _=>cases Y
end
theorem ya : ∀{l:List Int} {C:List dV},eH (l.map V.int) C->∀i,i<C.toArray.size->∃z u,C.toArray[i]? = di (.int z u)/\l[i]? = di z
 | [],C,r,i,hi=>by cases r;exact absurd hi<|An _
 | z::l,u::C,.cons r t,i,hi=>by
  cases i with
  | zero=>
   obtain⟨d,rfl⟩:=r;exact⟨z,d,by simp,by simp⟩
  | succ i=>
   obtain⟨I,b,a,O⟩:=ya t i (by simpa using hi);exact⟨I,b,by simpa using a,by simpa using O⟩
section
variable{K:Ab}{E0 E H0 H:Hp}{σ:St}{γ:Ctx}
theorem RS.forget(r:RS K E0 E H0 H σ γ):RS K E0 E H0 H (σ.set i v) (γ.set i .no):=by
 have Q : ∀{j:Nat} {f:List D} {b:dy},(γ.set i .no)[j]? = di (.own f)->γ[j]? = di (.own f)/\(σ.set i v)[j]? = σ[j]? :=λ{j f b} g=>by
  rcases zI g with⟨_,z,_⟩ | ⟨R,z⟩
  ·cases z
  ·exact⟨z,Ai<|Br R⟩
 have U : ∀{j:Nat} {e:List (List D)},(γ.set i .no)[j]? = di (.nest e)->γ[j]? = di (.nest e)/\(σ.set i v)[j]? = σ[j]? :=λ{j e} g=>by
  rcases zI g with⟨_,z,_⟩ | ⟨R,z⟩
  ·cases z
  ·exact⟨z,Ai<|Br R⟩
 refine⟨⟨r.rc.sub,by simp[r.rc.len],λj p g=>?_,λj f g=>?_,λj k b f fs h Y n o=>?_,⟨λj e g=>?_,λj k w x O g2=>r.rc.o6.2 j k w x (U O).1 (U g2).1⟩⟩,r.ext,λj f b O g2=>?_,λj e b A O g2 g3=>?_⟩
 ·rcases zI g with⟨_,z,_⟩ | ⟨R,z⟩
  ·cases z
  ·obtain⟨y,O,g2⟩:=r.rc.val j p z
   exact⟨y,by rw[Ai (Br R)];exact O,g2⟩
 ·obtain⟨d,I⟩:=Q (b:=0) g
  rw[I];exact r.rc.own j f d
 ·obtain⟨d,I⟩:=Q (b:=0) h
  obtain⟨l,m⟩:=Q (b:=0) Y;rw[I]at n;rw[m]at o;exact r.rc.ne j k b f fs d l n o
 ·obtain⟨d,I⟩:=U g
  obtain⟨a,bs,s,t,u⟩:=r.rc.o6.1 j e d;refine⟨a,bs,by rw[I];exact s,t,λk f c h Y=>?_⟩;obtain⟨l,m⟩:=Q (b:=0) h;rw[m]at Y;exact u k f c l Y
 ·obtain⟨d,I⟩:=Q (b:=0) O
  rw[I]at g2;exact r.fresh j f b d g2
 ·obtain⟨d,I⟩:=U O
  rw[I]at g2;exact r.p6 j e b A d g2 g3
end
section
variable{K:Ab}{E0 E H0 H:Hp}{σ:St}{γ:Ctx}
theorem RS.freeze(r:RS K E0 E H0 H σ γ)(e:γ[i]? = di (.own J)) : ∃C,RS K E0 E C H σ (γ.set i<|.val<|.lst J):=by
 obtain⟨a,n,g,h,Q,R⟩:=r.rc.own i J e;have U:=r.fresh i J a e g;obtain⟨C,m,O⟩ : ∃C,C=upd H0 a (.lst n)/\RC K C H σ (γ.set i<|.val<|.lst J):=by refine⟨_,rfl,?_⟩;exact RC.Ip r.rc e g h Q R
 subst m;refine⟨_,O,⟨r.ext.s0.trans<|zS h _,r.ext.s1,O.sub,λc Y d=>?_⟩,λj l b I g2=>?_,λj f b o I g2 g3=>?_⟩
 ·rw[zK (λz=>by rw[z,U]at d;exact d rfl)];exact r.ext.new c Y d
 ·rcases zI I with⟨_,z,_⟩ | ⟨_,z⟩
  ·cases z
  ·exact r.fresh j l b z g2
 ·rcases zI I with⟨_,z,_⟩ | ⟨_,z⟩
  ·cases z
  ·exact r.p6 j f b o z g2 g3
open Classical in
end
section
variable{X:Cx}{st:h5}{F:CO Fl}
theorem Jn(i:Nat)(h:i6 X st F):i6 X st (aC i F):=qT h λD l H z=>by obtain⟨E0,E,f,j,I,e,d,O⟩:=z;obtain⟨g,b,d⟩:=zb d;obtain⟨a,Q⟩:=e.freeze<|qy b;exact⟨E0,E,a,_,I,Q,d,O⟩
end
end DL
namespace L2
open PySem PySem.Spec PyProof.Rows
noncomputable def pe(K:Ab):V->List V->Hp->VK->Prop:=λx e H Q=>∃d p b,x = .str d/\e=[.ref p]/\gR K H p (b.map V.str)/\Builtin.Str.tooLong (b.toArray.foldl (λa p=>a+p.length+d.length) 0)=dt/\Q (.str<|Fy d b) H
theorem JX : ∀{H:List Str} {C:List dV},eH (H.map V.str) C->∃l:List (Str×Tok),strValues l=C/\l.map (·.1)=H
 | [],C,r=>by cases r;exact⟨[],rfl,rfl⟩
 | z::H,u::C,.cons r t=>by obtain⟨d,rfl⟩:=r;obtain⟨l,rfl,h⟩:=JX t;exact⟨(z,d)::l,rfl,by simp[h]⟩
theorem fX{X:Cx}:FL X "str.join" (pe X.K):=by intro a s n H x j v i Q I rx O h;obtain⟨d,p,m,rfl,rfl,R,z,q⟩:=h;obtain⟨t,rfl⟩:=rx;obtain⟨U,rfl,rw⟩:=yE O;cases rw;obtain⟨Y,r,f,g⟩:=I.list R;obtain⟨l,rfl,e⟩:=JX r;subst e;refine Ea F.slot_str_join (typeIs_str _ _ _) F.entry_str_join (F.args_str_join_2 _ _) (meets_str_join_list d t p l z) ⟨f.isList,post_join l ⟨joinFit_length z,λt' k=>?_⟩⟩;refine⟨.str (Fy d (l.map (·.1))),H,(I.kept (h':=s.heap) (t':=k) λb o e=>e),⟨t',?_⟩,q⟩;show Value.str (Builtin.Str.glued d (l.map (·.1))) t'=_;rw[StrLaws.glued_eq_join]
end L2
namespace DL
open PySem PySem.Spec PyProof.Rows L2
theorem J1{K:Ab}{H:Hp} : ∀{C:List D} {xs:List V} {l:List Str},d0 K H C xs->J2 C=di l->xs=l.map V.str
 | [],xs,l,r,e=>by cases e;rw[show xs=[]from r];rfl
 | d::C,xs,l,r,e=>by
  obtain⟨x,g,rfl,z,b⟩:=(show ∃x r,xs=x::r/\Rep K H d x/\d0 K H C r from r);cases d with
  | str i=>
   obtain⟨f,a,rfl⟩:=zx (show(J2 C).map (λl=>i::l)=di l from e);rw[J1 b a,show x = .str i from z];rfl
  | _=>cases e
section
variable{X:Cx}{sc:hA}{N L:List Str}{k:Nat}{o e a b:d3}{apos cpos pos p:e6}{f g:CO D}{q:CO (Sk×List D)}
theorem yb(h:z9 x=dk):x.length<=1000:=of_decide_eq_true h
theorem Zi(h:z9 x=dk):x.length<=eG:=Bq (yb h) ⋯
theorem eZ(U:PV X o f)(M:PQ X e q)(Y:D4 o "join" X.env (ej o X.env)=ej o X.env:=by rfl)
 (C:((m8 cpos<|starEach [e] X.env).all (λx=> !x.1) && (Dz cpos<|keywordEach [] X.env).all (λx=>x.1.isSome) && decide ([e].length+([]:List ri).length+(if ([]:List ri).isEmpty then 0 else 1)<30))=dk:=by rfl)
 (J:(apos.endLine==cpos.line)=dk:=by rfl) (R:e9 [e] X.env=[(dt,ej e X.env)]:=by rfl):PV X (.Call (.Attribute o "join" apos) [e] [] cpos) (iI f q):=
 jO (VS PySem.F.plainAttrs_str PySem.F.slot_str_join PySem.F.type_str_join fX U (jr M qb R) Y C J R rfl) λσ H Q E=>by
  obtain⟨h,g,d,rc,z,N⟩:=E;obtain⟨m,p,z⟩:=zb z;obtain⟨⟨K,n⟩,s,z⟩:=zb z;cases m with
  | str O=>
   cases K with
   | L=>
    obtain⟨l,t,z⟩:=zb z;by_cases I:l.length<=lim/\l.all z9=dk/\z9 O=dk
    ·rw[GY I]at z;cases z
     refine⟨h,g,_,rc,p,λv W b x r=>?_⟩;rw[show v = .str O from r];refine⟨rfl,b,g,.L,n,rc.ext x,s,λa xs i j S w Z P=>?_⟩;have u:=J1 P t;subst u;refine⟨O,a,l,rfl,rfl,w,StrLaws.joinFits (B:=1000) (λy G=>yb<|Ce.mp I.2.1 y G) ?_,N _ i j (x.trans S) rfl⟩;have hl:=I.1;have:lim=2500:=rfl;have A:=yb I.2.2;have:l.length*O.length<=2500*1000:=Nat.mul_le_mul ⋯ A;omega
    ·rw[MQ I]at z;cases z
   | T=>cases z
  | _=>cases z
theorem qF(C:PV X a f)(U:PV X b g)(Y:Kg b:=by intro _ _;rfl):PV X (.Subscript a b pos) (qv f g):=
 jO (lH mB C U Y) λG H Q A=>by
  obtain⟨m,l,d,rc,I,q⟩:=A;obtain⟨p,t,I⟩:=zb I;obtain⟨i,O,I⟩:=zb I;obtain⟨s,u,O⟩:=zb O;cases p with
  | str z=>
   by_cases R:z9 z=dk
   ·have I:(if z9 z=dk then (i3 z.cps.toList.length i).bind λk=>z.cps.toList[k]?.map λc=>D.str ⟨#[c]⟩else dn)=di d:=I
    rw[GY R]at I;obtain⟨j,w,I⟩:=zb I;obtain⟨c,y,rfl⟩:=zx I;refine⟨m,l,_,rc,t,λv E e x r=>⟨e,l,s,rc.ext x,u,λF n o B h=>?_⟩⟩;rw[jJ O]at h;refine⟨z,i,c,r,jN h,Zi R,?_,q _ n o (x.trans B) rfl⟩;unfold zl;rw[Wf w];exact y
   ·have I:(if z9 z=dk then (i3 z.cps.toList.length i).bind λk=>z.cps.toList[k]?.map λc=>D.str ⟨#[c]⟩else dn)=di d:=I
    rw[MQ R]at I;cases I
  | _=>cases I
theorem vG(h:SX X sc N L k)(c:yO sc "len" = dk)(z:X.mg "len" = dn)(C:PV X e f)(R:e9 [e] X.env=[(dt,ej e X.env)]:=by rfl):PV X (.Call (.Name "len" p) [e] [] pos) (wO f):=
 jO (kE Xi (h.gl c).1 z PySem.boot_len (jr C qb R) ⋯ ⋯ R rfl) λl H Q U=>by
  obtain⟨g,j,d,rc,I,q⟩:=U;obtain⟨Y,i,I⟩:=zb I;cases Y with
  | str z=>
   by_cases O:z9 z=dk
   ·have I:(if z9 z=dk then di (D.int z.length)else dn)=di d:=I
    rw[GY O]at I;cases I;refine⟨g,j,_,rc,i,λv b a x r=>⟨z,by rw[show v = .str z from r],Zi O,q _ b a x rfl⟩⟩
   ·have I:(if z9 z=dk then di (D.int z.length)else dn)=di d:=I
    rw[MQ O]at I;cases I
  | _=>cases I
end
section
variable{X:Cx}{sc:hA}{N L:List Str}{k:Nat}{b:d3}{f:CO D}
theorem de(h:SX X sc N L k)(c:yO sc "min" = dk)(z:X.mg "min" = dn)(C:PV X a f)(Y:PV X b g)(U:e9 [a,b] X.env=[(dt,ej a X.env),(dt,ej b X.env)]:=by rfl)(O:e9 [b] X.env=[(dt,ej b X.env)]:=by rfl) :
 PV X (.Call (.Name "min" p) [a,b] [] pos) (aB f g):=
 jO (kE (WN h.calm) (h.gl c).1 z PyProof.Rows.boot_min (jr C (jr Y qb O)<|by rw[U,O]) ⋯ ⋯ (by rw[U,O]) (by rw[O];rfl)) λJ H Q B=>by obtain⟨o,n,d,rc,I,q⟩:=B;obtain⟨i,l,I⟩:=zb I;obtain⟨u,y,l⟩:=zb l;obtain⟨j,R,I⟩:=zx I;obtain⟨w,A,R⟩:=zb R;subst I;refine⟨o,n,u,rc,y,λv F e x r=>⟨e,n,w,rc.ext x,A,λG s t E m=>⟨i,j,?_,q _ s t (x.trans E) rfl⟩⟩⟩;rw[jJ l]at r;rw[jJ R]at m;rw[jN r,jN m]
end
end DL
namespace DL
open PySem PySem.Spec PySem.Calls PyProof.Rows
def tI(e d:dy)(h:e5):Prop:=∃o,h.get? e=di o/\o.dict=di d
end DL
namespace DL
open PySem L2
section ap
variable(γ:Ctx)
@[simp] def JP:=@zq.eq_1
@[simp] def yV:=@jF.eq_1
@[simp] def Ke:=@zX.eq_1
@[simp] def x6:=@zd.eq_1
@[simp] def ko:=@zf.eq_1
@[simp] theorem ZP(d):zt d γ=di d:=rfl
@[simp] def W6:=@zy.eq_1
@[simp] def Aa:=@sB.eq_1
@[simp] def rT:=@aF.eq_1
@[simp] def sU:=@oT.eq_1
@[simp] def rB:=@xF.eq_1
@[simp] def tE:=@cP.eq_1
@[simp] def uG:=@Dk.eq_1
@[simp] def sV:=@nu.eq_1
@[simp] def tj:=@Ym.eq_1
@[simp] theorem K8:zJ γ=di []:=rfl
@[simp] def qY:=@zc.eq_1
@[simp] def WZ:=@kP.eq_1
@[simp] def rF:=@ql.eq_1
@[simp] def rC:=@q8.eq_1
@[simp] def dP:=@xo.eq_1
@[simp] def rz:=@wN.eq_1
@[simp] def rq:=@wM.eq_1
@[simp] def tq:=@uT.eq_1
@[simp] def rQ:=@eR.eq_1
@[simp] def mY:=@js.eq_1
@[simp] def yU:=@jq.eq_1
@[simp] def W2:=@xA.eq_1
@[simp] def rN:=@eP.eq_1
@[simp] def yx:=@qC.eq_1
@[simp] def W5:=@zG.eq_1
@[simp] def JQ:=@jg.eq_1
@[simp] def yw:=@zB.eq_1
@[simp] def ku:=@zC.eq_1
@[simp] def mW:=@Xy.eq_1
@[simp] def sQ:=@cN.eq_1
@[simp] def xB:=@x9.eq_1
@[simp] def xv:=@zE.eq_1
@[simp] theorem sR:z7 γ=di dk:=rfl
@[simp] def rR:=@wQ.eq_1
@[simp] def rA:=@oS.eq_1
@[simp] def W3:=@dv.eq_1
@[simp] def cG:=@vE.eq_1
@[simp] theorem sW:YY γ=di dn:=rfl
@[simp] def uI:=@p7.eq_1
@[simp] def sT:=@Vu.eq_1
@[simp] def sX:=@yS.eq_1
@[simp] def uH:=@xg.eq_1
@[simp] def sY:=@uQ.eq_1
@[simp] def YU:=@zM.eq_1
@[simp] def mX:=@xp.eq_1
@[simp] def sS:=@iF.eq_1
@[simp] def nh:=@eS.eq_1
@[simp] def tD:=@oX.eq_1
@[simp] def rJ:=@kX.eq_1
@[simp] def rE:=@ud.eq_1
@[simp] def rm:=@eO.eq_1
theorem ju(F G):zD F G γ=(F γ).bind λd=>match d with
 | .next a=>G a
 | f=>di f:=rfl
end ap
@[simp] theorem mS(ds):jf (.tup ds)=di (.T,ds):=rfl
@[simp] theorem K7(ds):jf (.lst ds)=di (.L,ds):=rfl
@[simp] theorem jt(d):WL (di (.val d))=di d:=rfl
@[simp] theorem j8(d):yQ (di (.val d))=jf d:=rfl
@[simp] theorem X7(d):yQ (di (.own d))=di (.L,d):=rfl
@[simp] theorem k7(d):jV (di (.own d))=di d:=rfl
@[simp] theorem gS(d):X8 (di (.val d))=di (.ret<|.val d):=rfl
@[simp] theorem gT(d):X8 (di (.own d))=di (.ret<|.own d):=rfl
@[simp] theorem sP(b):p3 (.bl b)=di b:=rfl
@[simp] theorem xW(b):i4 (.int b)=di b:=rfl
@[simp] theorem Kv(d):nz (.val d)=d:=rfl
@[simp] theorem ny(d):nz (.own d) = .lst d:=rfl
@[simp] theorem aH(d):oY (.own d)=di d:=rfl
@[simp] theorem nQ(i j):w5 (.int i) (.int j)=di (.int<|i - j):=rfl
@[simp] theorem K3(i j):j4 (.int i) (.int j)=di (.int<|i+j):=rfl
@[simp] theorem nS(i j):xE (.int i) (.int j)=if 0<j then di (.int<|i%j)else dn:=by show(if nT i j=dk then _ else _)=_;simp[nT]
@[simp] theorem cu(i j):YL (.int i) (.int j)=if 0<j/\j<1073741824 then di (.int<|i/j)else dn:=by
 show(if mQ i j=dk then _ else _)=_;have e:(mQ i j=dk)=(0<j/\j<1073741824):=by unfold mQ;rw[As,decide_eq_true_eq,decide_eq_true_eq];apply propext;constructor<;>intro h<;>exact⟨h.1,by omega⟩
 simp only[e]
@[simp] theorem cn(i j):k9 (.int i) (.int j)=if wI i j=dk then di (.int<|i*j)else dn:=rfl
@[simp] theorem nR(i j):gM (.int i) (.int j)=if mP i j=dk then di (.int<|i ^ j.toNat)else dn:=rfl
@[simp] theorem pX(i j):C8 (.int i) (.int j)=di (.bl<|decide<|i<j):=rfl
@[simp] theorem pY(i j):DE (.int i) (.int j)=di (.bl<|decide<|i<=j):=rfl
@[simp] theorem pZ(i j):n2 (.int i) (.int j)=di (.bl<|decide<|j<i):=rfl
@[simp] theorem rd(i j):G6 (.int i) (.int j)=di (.bl<|decide<|j<=i):=rfl
@[simp] theorem rf(i j):hI (.int i) (.int j)=di (.bl<|decide<|i=j):=by unfold hI;rw[GY ⟨rfl,rfl⟩];exact congrArg (λb=>di (D.bl b)) (by rw[Cd];simp[i9])
@[simp] theorem pW(i j):l6 (.int i) (.int j)=di (.bl<|!decide (i=j)):=by unfold l6;rw[GY ⟨rfl,rfl⟩];exact congrArg (λb=>di (D.bl !b)) (by rw[Cd];simp[i9])
@[simp] theorem iE(i is d ds γ):j6 (i::is) (d::ds) γ=j6 is ds (γ.set i<|.val d):=rfl
@[simp] theorem iD(ds γ):j6 [] ds γ=γ:=by cases ds<;>rfl
@[simp] theorem xQ(i d γ):jY (.nm i) d γ=di (γ.set i<|.val d):=rfl
@[simp] theorem Xo(i j a b γ):jY (.tp [i,j]) (.tup [a,b]) γ=di ((γ.set i<|.val a).set j (.val b)):=rfl
@[simp] theorem Jg(γ:Ctx)(G:CO Fl):(di (Fl.next γ)).bind (λd=>match d with
 | .next γ'=>G γ'
 | f=>di f)=G γ:=rfl
theorem K6(i j:Int)(C : -(2 ^ 64)<j)(H:j<2 ^ 64):wI i j=dk:=by unfold wI;rw[Bh];right;exact decide_eq_true ⋯
theorem kS(i j:Int)(C : -(2 ^ 64)<i)(H:i<2 ^ 64):wI i j=dk:=by unfold wI;rw[Bh];left;exact decide_eq_true ⋯
theorem Wi(C : -(2 ^ 62)<i)(H:i<2 ^ 62):inR i=dk:=by unfold inR;exact decide_eq_true ⋯
@[simp] theorem jI(n k:Nat):i3 n (k:Int)=if k<n then di k else dn:=by
 unfold i3;by_cases h:k<n
 ·rw[GY ⟨Int.natCast_nonneg k,by omega⟩,GY h];simp
 ·rw[MQ ⋯,MQ ⋯,MQ h]
theorem jb:lim=2500:=rfl
@[simp] theorem nN:0<=lim:=BB _
@[simp] theorem nM:1<=lim:=by decide
@[simp] theorem nL:2<=lim:=by decide
@[simp] theorem nK:3<=lim:=by decide
@[simp] theorem nJ:4<=lim:=by decide
@[simp] theorem nI:5<=lim:=by decide
@[simp] theorem nH:6<=lim:=by decide
@[simp] theorem nG:7<=lim:=by decide
@[simp] theorem nF:8<=lim:=by decide
@[simp] theorem nD:0<lim:=by decide
@[simp] theorem qe(h:n<=lim):inR (n:Int)=dk:=Wi ⋯ (by have:=jb;omega)
@[simp] theorem IY(n:Nat):i3 (n+1) 0=di 0:=jI (n+1) 0 ▸ rfl
@[simp] theorem IZ(n:Nat):i3 (n+2) 1=di 1:=by have:=jI (n+2) 1;simpa using this
@[simp] theorem Im(n:Nat):i3 (n+3) 2=di 2:=by have:=jI (n+3) 2;simpa using this
theorem zr(r:α->D) : ∀(l:List α),(∀x∈l,zL T k f γ [g x]=di [r x])->zL T k f γ (l.map g)=di (l.map r)
 | [],_=>rfl
 | x::l,h=>by
  have a:=h x Ar;have i:=zr r l λy z=>h y<|Ax _ z;simp only[Ap,zL]at a ⊢;cases e1:jY T (g x) γ with
  | none=>rw[e1]at a;simp at a
  | some d=>
   rw[e1]at a;simp only[Af]at a ⊢;cases e2:k d with
   | none=>rw[e2]at a;simp at a
   | some b=>
    rw[e2]at a;simp only[Af]at a ⊢;cases b with
    | false=>simp at a
    | true=>
     simp only[GY]at a ⊢;cases e3:f d with
     | none=>rw[e3]at a;simp at a
     | some e=>
      rw[e3]at a;simp at a;rw[i];simp[a]
theorem zv(C:jY T d γ=di DS)(H:k DS=di dk)(z:f DS=di e):zL T k f γ [d]=di [e]:=by simp[zL,C,H,z]
theorem jc(T F d C γ):qf T F (d::C) γ=(jY T d γ).bind λI=>(F I).bind λO=>match O with
 | .next z=>qf T F C z
 | .cont z=>qf T F C z
 | .brk z=>di (.next z)
 | .ret r=>di (.ret r):=rfl
theorem wq(P:Nat->Ctx->Prop) : ∀(C:List D) (k:Nat) (γ:Ctx),P k γ->(∀i d γ,C[i]? = di d->P (k+i) γ->∃γ',((jY T d γ).bind F=di (.next γ')\/(jY T d γ).bind F=di (.cont γ'))/\P (k+i+1) γ')->
 ∃γ',qf T F C γ=di (.next γ')/\P (k+C.length) γ'
 | [],k,γ,h,_=>⟨γ,rfl,h⟩
 | d::C,k,γ,h,step=>by
  obtain⟨z,e,b⟩:=step 0 d γ rfl h;obtain⟨γ',I,f⟩:=wq P C (k+1) z (by simpa using b) (λi a O g Q=>by have:=step (i+1) a O (by simpa using g) (by rw[show k+(i+1)=k+1+i by omega];exact Q);rw[show k+(i+1)+1=k+1+i+1 by omega]at this;exact this)
  refine⟨γ',?_,by rw[show k+(d::C).length=k+1+C.length by simp;omega];exact f⟩;rw[jc];cases eb:jY T d γ with
  | none=>rw[eb]at e;simp at e
  | some R=>
   rw[eb]at e;simp only[Af]at e ⊢;rcases e with e | e<;>rw[e]<;>exact I
def zz(n:Nat)(f:Nat->Int):List D:=(Ad n).map λi=>D.int<|f i
theorem zA(n f):zz n f=(Ad n).map λi=>D.int (f i):=rfl
noncomputable def zF(h w:Nat)(f:GK):List D:=(Ad h).map λi=>D.tup<|zz w<|f i
noncomputable def jy(h w:Nat)(f:GK):D:= .tup [.int h,.int w,.tup (zF h w f)]
@[simp] theorem xO(n f):(zz n f).length=n:=by simp[zz]
@[simp] theorem JH(h w f):(zF h w f).length=h:=by simp[zF]
@[simp] theorem pS(f)(h:i<(zz n f).length):(zz n f)[i] = .int (f i):=by simp[zz]
theorem qo(f)(h:i<n):(zz n f)[i]? = di (.int<|f i):=by simp[zz,h]
@[simp] theorem pU(f)(C:i<(zF h w f).length):(zF h w f)[i] = .tup (zz w<|f i):=by simp[zF]
theorem xk(h : ∀i,i<n->f i=g i):zz n f=zz n g:=by unfold zz;apply AE;intro i a;rw[h i (Ah.mp a)]
theorem kI(e : ∀i j,i<h->j<w->f i j=g i j):zF h w f=zF h w g:=by unfold zF;apply AE;intro i a;rw[xk λj d=>e i j (Ah.mp a) d]
theorem qg{h w:Nat}{f g:GK}(e : ∀i j,i<h->j<w->f i j=g i j):jy h w f=jy h w g:=by unfold jy;rw[kI e]
theorem zV(n:Nat):yd 0 n=zz n λi=>(i:Int):=by simp[yd,zz]
theorem ZT(n:Nat)(f g:Nat->Int):Yb (zz n f) (zz n g)=(Ad n).map λi=>D.tup [.int (f i),.int (g i)]:=by unfold Yb zz;rw[List.zip_map'];simp
def zu(f:Nat->Int):Nat->Int
 | 0=>0
 | n+1=>zu f n+f n
theorem vy : ∀(xs:List Int) (y:Int),Vi (xs.map D.int++[.int y])=(Vi<|xs.map D.int).map λs=>s+y
 | [],y=>by simp[Vi]
 | x::xs,y=>by simp only[Ap,List.cons_append,Vi];rw[vy xs y];cases e:Vi (xs.map D.int)<;>simp[Int.add_assoc]
theorem J0(f:Nat->Int) : ∀n,Vi (zz n f)=di (zu f n)
 | 0=>rfl
 | n+1=>by
  have d:=J0 f n;have e : ∀m,zz m f=((Ad m).map f).map D.int:=λm=>by simp[zz]
  rw[e]at d ⊢;rw[BA,AR,AR,List.map_singleton,List.map_singleton,vy,d];simp[zu]
noncomputable def qZ:=jh 2<|xo<|zM<|zX<|zE (zB<|zf 1) (.nm 0) 1 [0] z7 (zy xE (zd 0)<|zd 1)
noncomputable def z5:=jh 2<|zD (jq 1<|jF<|zE (zC<|dv (zf 0)<|zt<|.int 1) (.nm 0) 1 [0] z7 (zM<|zX<|zE (zB<|zq<|dv (zf 1)<|zt<|.int 2) (.nm 0) 1 [0] z7 (dv (zf 0)<|zd 1)))<|xo<|kP<|zc (dv (zf 0)<|zt<|.int 1)<|zc (dv (zf 0)<|zt<|.int 0)<|zc (zM<|zf 1) zJ
noncomputable def qz:=jh 2<|zD (jq 1<|jF<|zE (zC<|zd 0) (.nm 0) 1 [0] z7 (zM<|zX<|zE (zC<|zd 1) (.nm 0) 1 [0] z7 (Ym (sB<|zy hI (zd 1)<|zd 0) (zt<|.int 1)<|zt<|.int 0)))<|xo<|kP<|zc (zd 0)<|zc (zd 0)<|zc (zM<|zf 1) zJ
def xZ:=jh 1<|xo<|cP (xg .int<|zd 0)<|nu<|xg .bool<|zd 0
noncomputable def yB:=jh 3<|zD (x9 (Xy (zt<|.int 1)<|zd 0) (.nm 2)<|js (sB<|zy hI (zy xE (zy k9 (zd 1)<|zd 2)<|zd 0)<|zt<|.int 1) (wM 2) q8) vF
noncomputable def jE:=jh 5<|zD (jq 4<|dv (zf 1)<|zd 3)<|zD (js (sB<|zy hI (zd 4)<|zt<|.int 0) (wM 1) q8)<|xo<|zG qZ<|zc (zd 0)<|zc (jF<|zE (cN (zd 1)<|zd 2) (.tp [0,1]) 2 [4] z7 (zy w5 (zd 0)<|zy k9 (zd 2)<|zd 1)) zJ
noncomputable def ky:=jh 9<|zD (jq 3<|jF<|zE (zB<|zf 2) (.nm 0) 1 [0] z7 (zG qZ<|zc (zd 1)<|zc (zd 0) zJ))<|zD (xA 4<|ql zJ)<|zD (x9 (zC<|zd 1) (.nm 5)<|zD (jq 6<|jF<|zE (zB<|zf 3) (.nm 0) 1 [5] (sB<|zy l6 (dv (zf 0)<|zd 1)<|zt<|.int 0) (zd 0))<|zD (js (xF<|eO<|zf 6) eR q8)<|zD (jq 7<|zG yB<|zc (zd 0)<|zc (dv (zq<|dv (zf 6)<|zt<|.int 0)<|zd 5) zJ)<|zD (jq 8<|zG qZ<|zc (zd 0)<|zc (jF<|zE (zB<|zq<|dv (zf 6)<|zt<|.int 0) (.nm 0) 1 [7] z7 (zy k9 (zd 1)<|zd 0)) zJ)<|zD (jq 3<|jF<|zE (zB<|zf 3) (.nm 0) 1 [0,5,8] z7 (zG jE<|zc (zd 1)<|zc (zd 0)<|zc (zd 3)<|zc (zd 2) zJ))<|xA 4<|wQ (zX<|zE (zB<|zf 4) (.nm 0) 1 [0,5,8] z7 (zG jE<|zc (zd 1)<|zc (zd 0)<|zc (zd 3)<|zc (zd 2) zJ))<|zX<|ql<|zc (zd 8) zJ)<|wM 4
noncomputable def j5:=jh 2<|wN<|zE (zB<|zf 1) (.nm 0) 1 [0] (xF<|sB<|oX<|zq<|Vu (zd 0) YY<|p7<|zd 1) (Vu (zd 0) (p7<|zd 1) YY)
noncomputable def yR:=jh 5<|zD (jq 3<|jF<|zE (cN (dv (zq<|zG z5<|zc (zd 1) zJ)<|zt<|.int 2)<|dv (zq<|zG qz<|zc (dv (zf 1)<|zt<|.int 1) zJ)<|zt<|.int 2) (.tp [0,1]) 2 [] z7 (zy j4 (zd 0)<|zd 1))<|zD (jq 4<|jF<|zE (zB<|zf 2) (.nm 0) 1 [1] z7 (zy j4 (zd 0)<|zy k9 (kP<|zc (zt<|.int 0) zJ)<|dv (zf 1)<|zt<|.int 1))<|wN<|jg j5<|zc (dv (zf 1)<|zt<|.int 0)<|zc (jF<|jg ky<|zc (zd 0)<|zc (zy j4 (dv (zf 1)<|zt<|.int 0)<|dv (zf 1)<|zt<|.int 1)<|zc (jF<|wQ (zf 3)<|zf 4) zJ) zJ
noncomputable def vp:=jh 2<|wN<|jg yR<|zc (zd 0)<|zc (zd 1)<|zc (jF<|ql zJ) zJ
noncomputable def JR:=jh 2<|wN<|jg ky<|zc (zd 0)<|zc (dv (zf 1)<|zt<|.int 0)<|zc (dv (zq<|zG z5<|zc (zd 1) zJ)<|zt<|.int 2) zJ
section
variable(γ:Ctx)
@[simp] def tw:=@uU.eq_1
@[simp] def rS:=@um.eq_1
@[simp] def oj:=@sr.eq_1
end
noncomputable def qA:=jh 1<|xo<|dv (zX<|zE (Vw<|zd 0) (.tp [0,1]) 2 [] (sB<|zy l6 (zd 1)<|zt<|.int 0) (zd 0))<|zt<|.int 0
section
variable(γ:Ctx)
@[simp] def rM:=@Vw.eq_1
@[simp] def tf:=@uR.eq_1
@[simp] def tm:=@uS.eq_1
@[simp] theorem om(F G a b c):J8 F G a b c γ=(a γ).bind λx=>(b γ).bind λy=>((F x y).bind p3).bind λk=>if k=dk then (c γ).bind λz=>G y z else di (.bl dt):=rfl
@[simp] def W1:=@Vv.eq_1
end
section
variable(γ:Ctx)
@[simp] def oh:=@so.eq_1
@[simp] def nc:=@oV.eq_1
@[simp] def mZ:=@aC.eq_1
@[simp] def rL:=@ui.eq_1
@[simp] def nW:=@rZ.eq_1
end
@[simp] theorem cD(r):JM (di (.nest r))=di r:=rfl
section
variable(γ:Ctx)
@[simp] def JO:=@qv.eq_1
@[simp] def gY:=@wO.eq_1
@[simp] def rP:=@uj.eq_1
@[simp] def gZ:=@iI.eq_1
end
noncomputable def kW:=jh 2 (xo (Ym (sB (zy hI (zd 1) (zt (.str "r")))) (zd 0) (zy j4 (zd 0) (zt (.int 1)))))
noncomputable def Ya:=jh 2 (xo (Ym (sB (zy hI (zd 1) (zt (.str "r")))) (zy j4 (zd 0) (zt (.int 1))) (zd 0)))
noncomputable def xX:=jh 1 (xo (Ym (sB (zy hI (zd 0) (zt (.str "r")))) (zt (.str "l")) (zt (.str "r"))))
noncomputable def oU(f:CO D):CO D:=λa=>(f a).map λd=> .bl (hX .list d || hX .tuple d)
def ZR:=jh 1<|xo<|cP (xg .int<|zd 0)<|nu<|xg .bool<|zd 0
noncomputable def yz:=jh 2<|xo<|cP (zG ZR<|zc (zd 1) zJ)<|J8 DE C8 (zt<|.int 0) (zd 1)<|zd 0
def Ki:=jh 2<|xo<|cP (oU<|zd 0)<|zy hI (yS<|zf 0)<|zd 1
noncomputable def xC:=jh 1 (xo (iI (zt (.str "")) (zX (zE (zB (zq (dv (zf 0) (zt (.int 2))))) (.nm 0) 1 [] z7 (dv (zf 0) (zt (.int 0)))))))
open PySem.Spec PyProof.Rows
section
variable{X:Cx}{sc:hA}{N L:List Str}{k:Nat}{a e:d3}{es:List d3}{f:CO D}{g:CO (List D)}{pos p p2:e6}
theorem KB(C:PV X e f)(I:p8 e dn pos.line X.env=pure dt:=by rfl):i6 X (.Expr e pos) (eP f):=qT (Jo C I) λD l H O=>by obtain⟨E0,E,h,j,R,b,z,Q⟩:=O;obtain⟨d,i,z⟩:=zx z;subst z;exact⟨h,j,d,b.rc,i,λv g a x r=>Q l g a<|b.step x⟩
structure GL(K:Ab)(mg:GJ)(x:Str)(d:D):Prop where
 ex : ∃u v,mg x=di u/\RelV v u/\∀H,Rep K H d v
theorem pj{x:Str}{d:D}(h:SX X sc N L k)(c:yO sc x=dk)(z:GL X.K X.mg x d):PV X (.Name x pos) (zt d):=by intro b s j H Q I ⟨a,i,g,rc,O,q⟩;cases O;obtain⟨u,v,e,f,R⟩:=z.ex;exact V9 I (h.gl c).1 e ⟨v,H,I,f,q v H a (Ext.refl rc.sub)<|R a⟩ (h.gl c).2.2
end
section
variable{K:Ab}{mg:GJ}{h:e5}
theorem sF{x:Str}{n:Int}{t:Tok}(d:K.In h)(G:h.Ns o5 mg)(a:PySem.W.nsIn K o5 x=di (di (.int n t))):GL K mg x (.int n):=
 ⟨_,.int n,PySem.W.mg_of d G a,⟨t,rfl⟩,λ_=>(show V.int n = .int n from rfl)⟩
end
theorem xq(h:x2 X es n g):t9 X es g:=h.1
section
variable{K:Ab}{E0 E H0 H:Hp}{σ:St}{γ:Ctx}
theorem d0.dropLast : ∀{C:List D} {xs:List V},d0 K H C xs->d0 K H C.dropLast xs.dropLast
 | [],xs,r=>by rw[r.o3];exact d0.nil
 | [d],xs,r=>by obtain⟨x,b,e,_,a⟩:=r.m6;rw[e,a.o3];exact d0.nil
 | d::d2::C,xs,r=>by obtain⟨x,b,e,z,a⟩:=r.m6;obtain⟨O,Q,I,_,_⟩:=a.m6;subst e I;exact d0.cons z<|d0.dropLast a
end
section
variable{X:Cx}{sc:hA}{N L:List Str}{k:Nat}{a b e:d3}{pos p p2:e6}{f g:CO D}
theorem yK{c:d3}{C:CO D}(J:PV X a C){O:CO (Sk×List D)}(U:PQ X c O)(Y:s9 .NotIn c=dt:=by with_unfolding_all rfl):kr X (.Compare a [.NotIn] [c] pos) (sB<|kc C O):=
 XC (VC QJ J U Y) λS H Q B=>by
  obtain⟨h,g,d,rc,z,q⟩:=B;obtain⟨M,o,y⟩:=zb z;obtain⟨x,s,z⟩:=zb o;obtain⟨⟨f,n⟩,t,z⟩:=zb z;obtain⟨i,u,z⟩:=zb z;obtain⟨l,w,rfl⟩:=zx z;cases y;refine⟨h,g,x,rc,s,λR G j x1 I=>⟨j,g,f,n,rc.ext x1,t,λp P b m F e N r=>?_⟩⟩;rw[jJ u]at I;have A:=QX r w;subst A;have E:gR X.K b p (l.map V.int)\/gj X.K b p (l.map V.int):=by
   cases f with
   | L=>exact .inl e
   | T=>exact .inr e
  refine⟨p,_,rfl,E,by rw[show R = .int i from I];rfl,Xd l,?_⟩;rw[show R = .int i from I,Wh];exact⟨_,rfl,q b m<|x1.trans F⟩
end
end DL
namespace L2
open PySem PySem.Spec PyProof.Rows
theorem pH(z:Str):E9 z = "str_ascii_iterator"\/E9 z = "str_iterator":=by unfold E9;split<;>simp
theorem bQ{X:Cx}{C:GW}{M:St}{H:Hp}{s:eg}{E:GQ}{z it:dy}{i R:Nat}{x:dV}{v:V}{g:e5}{J:List d3}{x1:Nat}{L:e6}{Q:Unit->eg->Prop}
 (I:Inv X C M H s) (Y : ∀b ∈ [z,it],YW X C H b) (hz:z<s.heap.objs.size) (hi:it<s.heap.objs.size) (S:FH g z it ((i:Int)+1) x s.heap.objs.size)
 (Z:l3 g s.heap.objs.size (.int i R) x) (a5 : ∀b o,b≠z->b≠it->s.heap.get? b=di o->g.get? b=di o) (rx:RelV v x)
 (a6 : ∀g2,qs g2 z it ((i+1:Nat):Int) x->CT z g g2->Inv X C M (upd H s.heap.objs.size<|.tup [.int i,v]) {s with heap:=g2,toks:=R+1}->H s.heap.objs.size=dn->
   (∀b ∈ [z,it],upd H s.heap.objs.size (.tup [.int i,v]) b=dn)->Q () {s with heap:=g2,toks:=R+1}) :
 wpAny (el X.prog X.w) X.A (E2 (.Tuple J x1 L) (.ref z)<|.ref s.heap.objs.size) Q E {s with heap:=g,toks:=R+1}:=by
 refine IK S λg2 a U=>?_;have f:l3 g2 s.heap.objs.size (.int i R) x:=U.extBut _ _ (BZ hz) Z;have j : ∀d u,d ∉ [z,it]->s.heap.get? d=di u->g2.get? d=di u:=λd u O e=>by simp only[Ao,AH,or_false,not_or]at O;exact U.extBut _ _ O.1<|a5 d u O.1 O.2 e
 refine a6 g2 (by have:=a;rwa [show((i:Int)+1)=((i+1:Nat):Int)by omega]at this) U (I.Gu (fp:=[z,it]) j Y (Al _) ⟨by show 2<=eG;decide,[.int i R,x],.cons ⟨_,rfl⟩<|.cons rx .nil,⟨_,f,rfl,_,rfl⟩⟩) I.fresh λd O=>?_;have h:d≠s.heap.objs.size:=by
  simp only[Ao,AH,or_false]at O;rcases O with rfl | rfl
  ·exact AQ hz
  ·exact AQ hi
 rw[zK h];exact(Y d O).1
noncomputable def rW(z:Str):It:=
 ⟨λi _=>i<z.cps.size,λi H x a=>∃p c,x = .ref p/\H p=dn/\a=upd H p (.tup [.int i,.str ⟨#[c]⟩])/\z.cps[i]? = di c,λi _=>i=z.cps.size⟩
theorem Xf{prog:hH}{w:g9}{A:mA}(d:A.handled=dn)(it:dy)(x:Str)(t:Tok) :
 Draws prog w A it [it] x.cps.size (λi v=>∃c u,x.cps[i]? = di c/\v = .str ⟨#[c]⟩ u) (λi h=>h.IsStrIter it (E9 x) x t i):=by
 rcases pH x with q | q
 ·rw[q];exact Draws.strAscii d it x t
 ·rw[q];exact Draws.strWide d it x t
theorem Yh{P:hH}{w:g9}{K:Ab}{elts:List d3}{x1:Nat}{t4:e6}{z it:dy}(x:Str)(t:Tok)(Q:z≠it) :
 Turn P w K (.Tuple elts x1 t4) (rW x) [z,it] z (λi h=>(∃O,qs h z it i O)/\h.IsStrIter it (E9 x) x t i) where
 mem:=by simp
 obj:=λi h ⟨⟨O,hz⟩,h1⟩ y hy=>by
  simp only[Ao,AH,or_false]at hy;rcases hy with rfl | rfl
  ·exact⟨_,hz,λv q=>by cases q⟩
  ·obtain⟨o,e,c,d⟩:=h1
   exact⟨o,e,λv q=>by rw[d]at q;cases q⟩
 keep:=λi h h' ⟨⟨O,hz⟩,h1⟩ k=>⟨⟨O,k z ⋯ _ hz⟩,by obtain⟨o,e,r⟩:=h1;exact⟨o,k it ⋯ o e,r⟩⟩
 item:=by
  rintro X rfl rfl rfl R i pins s σ H E I U ⟨⟨O,hz⟩,h1⟩ a7;have a8:it<s.heap.objs.size:=by obtain⟨o2,e2,_⟩:=h1;exact Aq e2
  have Y:=Xf (prog:=X.prog) (w:=X.w) (A:=X.A.in1) (show X.A.in1.handled=dn from I.ok.hd R) it x t;refine wpAny_pyNext_enum_itemD Y hz h1 a7 Q (by simp;exact Q) λu g tk hP a1 a2 a3 a4 a5=>⟨_,rfl,?_⟩;obtain⟨c,tu,an,rfl⟩:=hP;refine bQ (v:= .str ⟨#[c]⟩) I U (Aq hz) a8 a1 a3 a5 ⟨_,rfl⟩ λg2 b1 b2 I1 ar hn=>⟨.ref s.heap.objs.size,_,I1,rfl,⟨_,_,rfl,ar,rfl,an⟩,⟨⟨_,b1⟩,?_⟩,hn⟩;obtain⟨o,e,r⟩:=a2;exact⟨o,b2.extBut _ _ Q.symm e,r⟩
 done:=by rintro X rfl rfl rfl R i pins s σ H E I U ⟨⟨O,hz⟩,h1⟩ hi;have hi:i=x.cps.size:=hi;subst hi;have Y:=Xf (prog:=X.prog) (w:=X.w) (A:=X.A.in1) (show X.A.in1.handled=dn from I.ok.hd R) it x t;refine wpAny_pyNext_enum_endD Y hz h1 λg hk=>⟨rfl,?_⟩;refine I.Gv (t':=s.toks) (fp:=[z,it]) (λb' u hb e=>?_) U;simp only[Ao,AH,or_false,not_or]at hb;exact hk b' u hb.2 e
 self:=λ_ _ _ _ _ st h=>yo st.1.choose_spec h
noncomputable def mE(C:TA):TI:=λd H R=>C d H λb a=>∃z,b=[.str z]/\R (rW z) a
section
variable{X:Cx}{e1:d3}{ta:TA}{p pos:e6}{elts:List d3}{x1:Nat}{t4:e6}
theorem aW(U:Gl X "enumerate")(Y:X.mg "enumerate" = dn)(C:PA X [e1] ta)
 (L:z3 "enumerate" = di (.type "enumerate")) (J:e9 [e1] X.env=[(dt,ej e1 X.env)]:=by rfl) :
 PI X (.Tuple elts x1 t4) (.Call (.Name "enumerate" p) [e1] [] pos) (mE ta):=by
 intro a s m H R I h;refine DU<|ym I U Y L<|Bz (en (C pos a s m H _ I h) λn b i=>?_) (by rw[J];rfl) rfl;obtain⟨o,e,d,l,j⟩:=i;obtain⟨z,rfl,q⟩:=j;obtain⟨r,rfl,f⟩:=yE l;obtain⟨t,rfl⟩:=f;refine call_enumerate_str λg b1 b2 b3 b4=>yo (s:={b with heap:=g}) b1 ?_;refine⟨_,[b.heap.objs.size+1,b.heap.objs.size],_,_,e,rfl,d.kept (t':=b.toks) b4,Yh z t<|BZ<|BH _,⟨⟨_,b1⟩,b2⟩,λc O=>?_,q⟩;have Q:b.heap.objs.size<=c:=by
  simp only[Ao,AH,or_false]at O;rcases O with rfl | rfl
  ·exact Bj _ _
  ·exact Al _
 exact d.De Q<|d.e4.fresh Q
end
end L2
namespace DL
open PySem PySem.Spec PyProof.Rows L2
theorem J4(z:Str):(xi z).length=z.cps.size:=by simp[xi]
theorem az(z:Str){i c:Nat}(h:z.cps[i]? = di c):(xi z)[i]? = di (.str ⟨#[c]⟩):=by simp[xi,h]
theorem Yd{K:Ab}{C H:Hp}(z:Str):Walk K C H (rW z) (xt<|xi z):=by
 have b:(xt<|xi z).length=z.cps.size:=by simp[xt,J4]
 refine⟨λi e s a=>?_,λe s=>?_,λi e x g s a y=>?_⟩
 ·rw[b]at a;exact a
 ·rw[b];exact rfl
 ·obtain⟨p,c,rfl,d,rfl,I⟩:=y
  refine⟨.tup [.int i,.str ⟨#[c]⟩],?_,λf j h=>⟨upd f p<|.tup [.int i,.str ⟨#[c]⟩],Ext.alloc h d _,?_⟩⟩
  ·rw[b]at a
   unfold xt;rw[AM,BK (by rw[J4];exact a),AO,az z I];rfl
  ·exact qD (gj.of zH)<|d0.cons (show V.int i = .int i from rfl)<|d0.cons (show V.str ⟨#[c]⟩ = .str ⟨#[c]⟩from rfl) d0.nil
section
variable{X:Cx}{sc:hA}{N L:List Str}{k:Nat}{a b e:d3}{pos p p2:e6}{f fa fb:CO D}
theorem VM{C:List d3}{x1:Nat}{J:e6}(h:SX X sc N L k)(c:yO sc "enumerate" = dk)(z:X.mg "enumerate" = dn)(M:PV X a f)(O:e9 [a] X.env=[(dt,ej a X.env)]:=by rfl) :
 hR X (.Tuple C x1 J) (.Call (.Name "enumerate" p) [a] [] pos) (Zm f):=
 QG (aW (h.gl c).1 z (jr M qb O) boot_enumerate O) λl H R U=>by
  obtain⟨i,j,e,rc,I,q⟩:=U;obtain⟨d,Y,I⟩:=zb I;cases d with
  | str z=>
   by_cases Q:z9 z=dk
   ·have I:(if z9 z=dk then di (xt<|xi z)else dn)=di e:=I
    rw[GY Q]at I;cases I;exact⟨i,j,_,rc,Y,λv g b x r=>⟨z,by rw[show v = .str z from r],q _ g b x<|Yd z⟩⟩
   ·have I:(if z9 z=dk then di (xt<|xi z)else dn)=di e:=I
    rw[MQ Q]at I;cases I
  | _=>cases I
theorem fe(C:PV X a fa)(O:PV X b fb):PV X (.BinOp a .Add b pos) (aE fa fb):=
 jO (fH Yu C O) λt H Q R=>by
  obtain⟨f,e,d,rc,z,q⟩:=R;obtain⟨x,i,z⟩:=zb z;obtain⟨y,U,z⟩:=zb z;cases x with
  | str u=>
   cases y with
   | str w=>
    by_cases I:z9 u=dk/\z9 w=dk
    ·have z:(if z9 u=dk/\z9 w=dk then di (D.str<|u++w)else dn)=di d:=z
     rw[GY I]at z;cases z;refine⟨f,e,_,rc,i,λr n Y x1 j=>⟨Y,e,_,rc.ext x1,U,λs g h m l=>⟨u,w,j,l,?_,q _ g h (x1.trans m) rfl⟩⟩⟩;have o:=yb I.1;have p:=yb I.2;have:2000<=eG:=by decide
     omega
    ·have z:(if z9 u=dk/\z9 w=dk then di (D.str<|u++w)else dn)=di d:=z
     rw[MQ I]at z;cases z
   | _=>cases z
  | _=>cases z
end
end DL
namespace DL
open PySem L2 PyProof.Rows
open PySem.W (KasT kas_sort kas_asc kas_desc kas_tail3 kas_descPart kas_count kas_place kas_bin kas_rev)
theorem wX(d:α) : ∀C:List α,(Ad C.length).map (λi=>C.getD i d)=C:=λC=>by
 apply Fh;intro i;by_cases a:i<C.length
 ·simp[a]
 ·simp[a,Nat.not_lt.mp a]
end DL
namespace DL
open PySem PySem.Spec PyProof.Rows L2
open PySem.W (KasT kas_sort kas_ask kat_run kat_snds kat_lt kat_cons kat_no kat_yes kat_nil kat_go kat_one kat_kind KatTups KatGo)
section
variable{X:Cx}{a b c:d3}{pos:e6}{fa fb fc:CO D}
theorem VB{R U:CmpOp}{r C:R2}{F G:D->D->Option D}(ho:hL X (mr R) r)(J:hL X (mr U) C)(s1:l4 X.K r F)(s2:l4 X.K C G)(ha:PV X a fa)(hb:PV X b fb)(hc:PV X c fc)
 (hm:F1 [R,U] [b,c]=dt:=by with_unfolding_all rfl):kr X (.Compare a [R,U] [b,c] pos) (sB<|J8 F G fa fb fc):=
 XC (aQ ho J ha hb hc hm) λσ H Q hZ=>by
  obtain⟨h,g,kq,rc,w,q0⟩:=hZ;obtain⟨d,I,Z⟩:=zb w;have q : ∀v f e,Ext h H e f->Rep X.K e d v->∃k,v = .bl k/\Q k f:=λv f e x n=>by rw[yv Z]at n;exact⟨kq,n,q0 f e x⟩
  obtain⟨x,M,I⟩:=zb I;obtain⟨y,N,I⟩:=zb I;obtain⟨k,P,I⟩:=zb I;obtain⟨j,S,l⟩:=zb P;refine⟨h,g,x,rc,M,λv1 H1 A x1 r1=>⟨A,g,y,rc.ext x1,N,λo p B O m=>s1 B p v1 o x y j _ O.sub (r1.mono O.s0) m S λv3 s i x3 r3=>?_⟩⟩;cases j with
  | bl k'=>
   cases l;refine⟨k,show v3 = .bl k from r3,?_⟩;cases k with
   | true=>
    rw[GY rfl];rw[GY rfl]at I;obtain⟨z,T,W⟩:=zb I;exact⟨i,g,z,((rc.ext x1).ext O).ext x3,T,λv4 t E Y r4=>s2 E t o v4 y z d _ Y.sub ((m.mono x3.s0).mono Y.s0) r4 W λv5 u L x5 r5=>q v5 u L (((x1.trans O).trans x3).trans (Y.trans x5)) r5⟩
   | false=>
    rw[MQ ⋯];rw[MQ ⋯]at I;cases I;exact q _ s i ((x1.trans O).trans x3) rfl
  | _=>cases l
end
end DL
namespace DL
open PySem PySem.Spec PyProof.Rows L2
theorem Y6{H:Hp}{x:dy}{o C:HO}:upd (upd H x o) x C=upd H x C:=by
 funext b;by_cases h:b=x
 ·subst h;rw[zH,zH]
 ·rw[zK h,zK h,zK h]
section
variable{X:Cx}{sc:hA}{N L:List Str}{k:Nat}{a:d3}{pos:e6}{f:CO (List D)}
theorem fu(i:Nat)(h:SX X sc N L k)(c:JW sc N i x=dk)(M:PO X a f)(z:e9 [a] X.env=[(dt,ej a X.env)]:=by rfl)
 (U:D4 (.Name x np) "extend" X.env (ej (.Name x np) X.env)=ej (.Name x np) X.env:=by rfl)
 (Y:((m8 cpos<|starEach [a] X.env).all (λx=> !x.1) && (Dz cpos<|keywordEach [] X.env).all (λx=>x.1.isSome)
   && decide ([a].length+([]:List ri).length+(if ([]:List ri).isEmpty then 0 else 1)<30))=dk:=by rfl)
 (C:(apos.endLine==cpos.line)=dk:=by rfl) (J:p8 (.Call (.Attribute (.Name x np) "extend" apos) [a] [] cpos) dn pos.line X.env=pure dt:=by rfl) :
 i6 X (.Expr (.Call (.Attribute (.Name x np) "extend" apos) [a] [] cpos) pos) (Jh i f):=
 qT (Jo (VS Es PySem.F.slot_list_extend PySem.F.type_list_extend V0 (h.var c) (jr M qb z) U Y C z rfl) J) λD P H w=>by
  obtain⟨E0,E,p,A,G,g,d,s⟩:=w;obtain⟨j,e,d⟩:=zb d;obtain⟨m,u,d⟩:=zb d;have e:=qy e;by_cases I:j.length+m.length<=lim
  ·rw[GY I]at d;cases d
   obtain⟨l,xs,n,K,O,Q⟩:=g.rc.own i j e;refine⟨_,n,.inl ⟨rfl,_,gR.of O⟩,p,A,m,g.rc,u,λb o B r x g1 g2 g3 R=>?_⟩;have y:xs.length+o.length<=eG:=by
    rw[Q.length,R.length];have:lim<=eG:=by decide
    omega
   refine⟨l,b,xs,o,rfl,rfl,x.s1 _ _ O,g3,y,?_⟩;have t:=g.step x;exact s _ _ _<|t.rewrite (xs:=xs) e n<|(Q.mono x.s0).append R
  ·rw[MQ I]at d;cases d
end
theorem ZG : ∀{C:List D} {H:List Int},va C=di H->v9 C=di (H.map AS)
 | [],H,e=>by cases e;rfl
 | d::C,H,e=>by
  cases d with
  | int i=>
   obtain⟨l,a,z⟩:=zx e;subst z;show((gn<|.int i).bind λk=>(v9 C).map λr=>k::r)=_;rw[ZG a];rfl
  | _=>cases e
section
variable{X:Cx}{pins:GW}{σ:St}{H:Hp}{s:eg}{p:dy}{ec:List (Key×V)}
theorem Inv.Ha(I:Inv X pins σ H s)(d:H p=di (.dK ec)) : ∃o,Inv X pins σ (upd H p<|.i7 o<|.dK ec) s:=by
 have a:=(show i1 X.prog X.w H s.heap p (.dK ec)from I.e4 p _ d);obtain⟨o,O⟩ : ∃o,s.heap.get? p=di o:=by obtain⟨_,_,_,_,o,_,_,e,_⟩:=a;exact⟨_,e⟩
 exact⟨o,I.write (x:=p) (e:=p) (o:= .i7 o (.dK ec)) (t':=s.toks) (h':=s.heap) (by rw[d];exact Cq) (.inl rfl) (λb q Q z=>z) ⟨_,O⟩ ⟨O,a⟩⟩
end
theorem JB{K:Ab}{H:Hp}{i:Int} : ∀{C J:List D} {kk:List Key} {xs:List V},v9 C=di kk->kk.length=xs.length->d0 K H J xs->
 (∀d,w4 C J i=di d->∃v,JY (kk.zip xs) (AS i)=di v/\Rep K H d v)/\(w4 C J i=dn->JY (kk.zip xs) (AS i)=dn)
 | [],J,kk,xs,e,l,r=>by cases e;exact⟨(λd q=>by cases q),λ_=>rfl⟩
 | k::C,[],kk,xs,e,l,r=>by rw[r.o3]at l ⊢;rw[List.length_eq_zero_iff.mp l];exact⟨(λd q=>by cases q),λ_=>rfl⟩
 | k::C,v::J,kk,xs,e,l,r=>by
  obtain⟨O,a,Y⟩:=zb e;obtain⟨Q,b,f⟩:=zx Y;subst f;obtain⟨x,R,rfl,h,m⟩:=r.m6;have U:=JB (i:=i) b (by simpa using l) m;have step:O≠AS i->JY ((O::Q).zip (x::R)) (AS i)=JY (Q.zip R) (AS i):=λz=>by rw[Fe];simp[JY,Cn,z]
  cases k with
  | int j=>
   cases a;by_cases I:j=i
   ·subst I
    refine⟨λd q=>⟨x,?_,?_⟩,λq=>?_⟩
    ·rw[Fe];exact vf rfl
    ·have:v=d:=by simpa[w4]using q
     exact this ▸ h
    ·simp[w4]at q
   ·have z:(AS j:Key)≠AS i:=λq=>I (AS.inj q)
    rw[step z];have g:w4 (.int j::C) (v::J) i=w4 C J i:=by simp[w4,I]
    rw[g];exact U
  | str y=>
   cases a;rw[step (λq=>by cases q)];exact U
  | _=>cases a
noncomputable def vq(k:CO Bool)(F:CO Fl):Nat->CO Fl
 | 0,_=>dn
 | n+1,e=>(k e).bind λb=>if b=dk then (F e).bind λd=>match d with
  | .next a=>vq k F n a
  | .cont a=>vq k F n a
  | .brk a=>di (.next a)
  | .ret r=>di (.ret r)
  else di (.next e)
def cO(n:Nat)(k:CO Bool)(F:CO Fl):CO Fl:=λa=>vq k F n a
section
variable{X:Cx}{c:d3}{body:List h5}{pos:e6}{k:CO Bool}{F:CO Fl}
theorem VE(n:Nat)(L:Dy (el X.prog X.w) X.A X.env X.xe)(J:kr X c k)(C:K9 X body F):i6 X (.While c body [] pos) (cO n k F):=
 qT (aR L J C) λD o H y=>by
  obtain⟨E0,E,g,i,O,B,x,Q⟩:=y;refine⟨λm o H=>∃g i,RS X.K E0 E g H o i/\vq k F m i=di O,⟨n,g,i,B,x⟩,λm j M G=>?_⟩;obtain⟨s,R,xb,l⟩:=G;cases m with
  | zero=>cases l
  | succ m=>
   obtain⟨b,t,d⟩:=zb (show(k R).bind _=di O from l);refine⟨s,R,b,xb.rc,t,λp U Y=>?_⟩;cases b with
   | true=>
    rw[GY rfl]at d ⊢;obtain⟨f1,u,I⟩:=zb d;refine⟨λe h=>∃g a,RS X.K E0 E g h e a/\vq k F m a=di O,λe h z=>⟨m,BH m,z⟩,E0,E,U,R,f1,xb.step Y,u,?_⟩;cases f1 with
    | next a=>exact λe h f r=>⟨f,a,r,I⟩
    | cont a=>exact λe h f r=>⟨f,a,r,I⟩
    | brk a=>cases I;exact Q
    | ret r=>
     cases I;cases r<;>exact Q
   | false=>
    rw[MQ AB]at d ⊢;cases d;exact Q j p U<|xb.step Y
end
noncomputable def Zl(g:CO D):CO D:=λa=>(g a).bind λd=>match d with
 | .str y=>if y=("r" : Str)then di (.int 0)else if y=("l" : Str)then di (.int 1)else dn
 | _=>dn
noncomputable def iR:V->List V->Hp->VK->Prop:=λx a H Q=>∃y j,x = .str "rl"/\a=[.str y]/\Builtin.Str.occurrences "rl" y 0 2 1=[j]/\Q (.int j) H
theorem bt{X:Cx}:FL X "str.index" iR:=by intro a s f H x e v b Q I rx d h;obtain⟨y,j,rfl,rfl,z,q⟩:=h;obtain⟨t,rfl⟩:=rx;obtain⟨O,rfl,rw⟩:=yE d;obtain⟨u,rfl⟩:=rw;exact call_gives F.slot_str_index (typeIs_str _ _ _) F.entry_str_index (F.args_str_index_2 _ _) (gives_str_index "rl" y t u j [] z) ⟨.int j,H,I.tok _,⟨_,rfl⟩,q⟩
section
variable{X:Cx}{e:d3}{apos cpos sp:e6}{kd:Nat}{g:CO D}
theorem aK(C:PV X e g)
 (O:((m8 cpos<|starEach [e] X.env).all (λx=> !x.1) && (Dz cpos<|keywordEach [] X.env).all (λx=>x.1.isSome) && decide ([e].length+([]:List ri).length+(if ([]:List ri).isEmpty then 0 else 1)<30))=dk:=by rfl)
 (R:(apos.endLine==cpos.line)=dk:=by rfl) (I:e9 [e] X.env=[(dt,ej e X.env)]:=by rfl):PV X (.Call (.Attribute (.Constant (.str "rl") kd sp) "index" apos) [e] [] cpos) (Zl g):=
 jO (VS PySem.F.plainAttrs_str PySem.F.slot_str_index PySem.F.type_str_index bt (show PV X (.Constant (.str "rl") kd sp) (zt (.str "rl"))from qO) (jr C qb I) rfl O R I rfl) λB H Q U=>by
  obtain⟨i,h,d,rc,z,Y⟩:=U;obtain⟨o,p,z⟩:=zb z;cases o with
  | str y=>
   have m : ∃j:Nat,d = .int j/\Builtin.Str.occurrences "rl" y 0 2 1=[j]:=by
    have z:(if y=("r" : Str)then di (D.int 0)else if y=("l" : Str)then di (.int 1)else dn)=di d:=z;by_cases b:y=("r" : Str)
    ·rw[GY b]at z;cases z;subst b;exact⟨0,rfl,by kernel_rfl⟩
    ·rw[MQ b]at z
     by_cases f:y=("l" : Str)
     ·rw[GY f]at z;cases z;subst f;exact⟨1,rfl,by kernel_rfl⟩
     ·rw[MQ f]at z;cases z
   obtain⟨j,rfl,s⟩:=m;refine⟨i,h,.str "rl",rc,rfl,λv A a x r=>?_⟩;rw[show v = .str "rl" from r];refine⟨rfl,a,h,.str y,rc.ext x,p,λu l n w t=>?_⟩;rw[show u = .str y from t];exact⟨y,j,rfl,rfl,s,Y _ l n (x.trans w) rfl⟩
  | _=>cases z
end
noncomputable def nv(f:CO D)(γ:Ctx):Option (List D):=((f γ).bind i4).bind λn=>if inR n=dk/\n.toNat<=lim then di (yd 0 n.toNat)else dn
@[simp] def ia:=@nv.eq_1
noncomputable def ou(C H fs:List D):List D:=(C.zip<|H.zip fs).map λp=>D.tup [p.1,p.2.1,p.2.2]
noncomputable def uc(f g h:CO D)(γ:Ctx):Option (List D):=((f γ).bind jf).bind λm=>((g γ).bind jf).bind λn=>((h γ).bind jf).map λo=>ou m.2 n.2 o.2
@[simp] def rl:=@uc.eq_1
noncomputable def Xz(i:Nat)(g:CO (Sk×List D)):CO Fl:=λb=>(jV b[i]?).bind λd=>(g b).bind λa=>match a.1 with
 | .T=>if d.length+a.2.length<=lim then di (.next<|b.set i<|.own<|d++a.2)else dn
 | .L=>dn
end DL
namespace L2
open PySem PySem.Spec PyProof.Rows
theorem YG(l b:dy)(d:Array dV)(n:Nat)(z:Array dV)(Q:Nat)(o:i5)(U : ¬(!d.isEmpty && BV (d.size+z.size))=dk)(Y:d.size<=eG)(C:d.size+z.size<=eG+1) :
 C4 (si.«list.extend» ⟨[.ref l,.ref b],[]⟩) (λ_ R s=>s.heap.get? l=di {cls:= .type "list",dict:=dn,data:= .seq d n,slots:=#[]}/\s.heap.get? b=di o/\o.cls = .type "tuple"/\o.data = .seq z Q/\R (.ok (.ret CK)) {s with heap:=s.heap.update l (EM λx=>x++z)}):=
 .of_wp λa w A R s h=>by
  obtain⟨I,O,g,i,h⟩:=h;have e:(d++z).size<=eG+1:=by rw[Array.size_append];exact C
  refine Ac (m:=PySem.selfAndOne "list.extend" ⟨[.ref l,.ref b],[]⟩) (Am ?_);show wpAny _ _ (Builtin.List.listExtendWith (.ref l) (.ref b) .none) _ _ s;unfold Builtin.List.listExtendWith;refine Ac (m:=typeOf (.ref b)) (EU ⟨o,O,g⟩ ?_);have f:(Builtin.List.listSameRef (.ref l) (.ref b) || CJ "tuple" == CJ "list" || CJ "tuple" == CJ "tuple")=dk:=by simp
  rw[GY f];refine Ac (m:=Builtin.List.listItems<|.ref b) ?_;unfold Builtin.List.listItems;refine Ac (m:=seqItems?<|.ref b)<|BS O i<|Am ?_;refine Ac ?_;refine Ac (m:=seqItems?<|.ref l)<|BS I rfl<|Am ?_;rw[MQ U];exact Ac (m:=updateSeq l λx=>x++z)<|wpAny_updateSeq I rfl (hz:=Y) (_hz':=e)<|Am ⟨_,rfl,h⟩
noncomputable def pf(K:Ab):V->List V->Hp->VK->Prop:=λx e H Q=>∃l b a d,x = .ref l/\e=[.ref b]/\H l=di (.lst a)/\gj K H b d/\a.length+d.length<=eG/\Q .f7 (upd H l<|.lst<|a++d)
theorem fY{X:Cx}:FK X "list.extend" (pf X.K):=by
 intro f s L H x E v C Q I rx U h;obtain⟨l,b,G,J,rfl,rfl,R,Y,B,q⟩:=h;cases rx;obtain⟨u,rfl,w⟩:=U.one;cases w;obtain⟨z,d,n,r,A,e⟩:=I.DH R;obtain⟨O,g,⟨o,p,j,t,m⟩,y⟩:=I.tuple Y;have uy:=r.length;have ux:=g.length;have a:d.toArray.size+O.toArray.size<=eG:=by rw[Aj,Aj];omega
 have i : ¬(!d.toArray.isEmpty && BV (d.toArray.size+O.toArray.size))=dk:=by rw[KJ a,Bool.and_false];exact AB
 refine Ea F.slot_list_extend ⟨_,e,rfl⟩ F.entry_list_extend (F.args_list_extend_2 _ _) (YG l b d.toArray n O.toArray t o i (by rw[Aj];omega) ⋯) ⟨e,p,j,m,?_⟩;exact⟨.f7,_,I.E3 (its':=d++O) R e ⋯ (r.append g) (by rw[m5];omega),rfl,q⟩
end L2
namespace DL
open PySem PySem.Spec PyProof.Rows L2
section
variable{X:Cx}{sc:hA}{N L:List Str}{k:Nat}{a:d3}{g:CO (Sk×List D)}{pos:e6}
theorem KA(i:Nat){x:Str}{C cpos z:e6}(h:SX X sc N L k)(c:JW sc N i x=dk)(Z:PQ X a g)(I:e9 [a] X.env=[(dt,ej a X.env)]:=by rfl)
 (Y:D4 (.Name x z) "extend" X.env (ej (.Name x z) X.env)=ej (.Name x z) X.env:=by rfl)
 (J:((m8 cpos<|starEach [a] X.env).all (λx=> !x.1) && (Dz cpos<|keywordEach [] X.env).all (λx=>x.1.isSome)
   && decide ([a].length+([]:List ri).length+(if ([]:List ri).isEmpty then 0 else 1)<30))=dk:=by rfl)
 (M:(C.endLine==cpos.line)=dk:=by rfl) (S:p8 (.Call (.Attribute (.Name x z) "extend" C) [a] [] cpos) dn pos.line X.env=pure dt:=by rfl) :
 i6 X (.Expr (.Call (.Attribute (.Name x z) "extend" C) [a] [] cpos) pos) (Xz i g):=
 qT (Jo (VS Es PySem.F.slot_list_extend PySem.F.type_list_extend fY (h.var c) (jr Z qb I) Y J M I rfl) S) λD W H A=>by
  obtain⟨E0,E,r,p,y,m,d,t⟩:=A;obtain⟨e,f,d⟩:=zb d;obtain⟨⟨G,j⟩,w,d⟩:=zb d;have f:=qy f;cases G with
  | L=>cases d
  | T=>
   have d:(if e.length+j.length<=lim then di (Fl.next<|p.set i<|.own<|e++j)else dn)=di y:=d;by_cases O:e.length+j.length<=lim
   ·rw[GY O]at d;cases d
    obtain⟨l,xs,n,P,Q,R⟩:=m.rc.own i e f;refine⟨_,n,.inl ⟨rfl,_,gR.of Q⟩,r,p,.T,j,m.rc,w,λb o K s x g1 g2 U=>?_⟩;have B:xs.length+o.length<=eG:=by
     rw[R.length,U.length];have:lim<=eG:=by decide
     omega
    refine⟨l,b,xs,o,rfl,rfl,x.s1 _ _ Q,g1,B,?_⟩;have u:=m.step x;exact t _ _ _<|u.rewrite (xs:=xs) f n<|(R.mono x.s0).append U
   ·rw[MQ O]at d;cases d
end
noncomputable def se(f g:CO D)(γ:Ctx):Option (List D):=((f γ).bind jf).bind λm=>((g γ).bind jf).bind λn=>if m.2.length<=lim then di (Yb m.2 n.2)else dn
@[simp] def nX:=@se.eq_1
noncomputable def Y7:List D->Option (List D×List D)
 | []=>di ([],[])
 | d::r=>match d with
  | .tup a=>match a with
   | [k,v]=>(Y7 r).map λp=>(k::p.1,v::p.2)
   | _=>dn
  | _=>dn
noncomputable def sk(f:CO (List D))(γ:Ctx):Option D:=(f γ).bind λa=>(Y7 a).bind λp=>pV p.1 p.2
@[simp] def og:=@sk.eq_1
noncomputable def aD(C H:CO D):CO D:=λa=>(C a).bind λd=>(H a).bind λk=>match d with
 | .h7 b e=>(i4 k).bind λi=>w4 b e i
 | _=>dn
noncomputable def eQ(H C:CO D):CO D:=λa=>(H a).bind λk=>(C a).bind λd=>match d with
 | .h7 b e=>(i4 k).map λi=> .bl (w4 b e i).isSome
 | _=>dn
section
variable{X:Cx}{sc:hA}{N L:List Str}{k:Nat}{a o i:d3}{f:CO (List D)}{fd fk:CO D}{p pos:e6}
theorem df(h:SX X sc N L k)(U:PV X o fd)(J:PV X i fk)(Y:rV i:=by intro _ _;rfl):PV X (.Subscript o i pos) (aD fd fk):=
 jO (fK (by have:=h.C2;omega) U J Y) λW H Q C=>by
  obtain⟨g,f,d,rc,z,q⟩:=C;obtain⟨s,t,z⟩:=zb z;obtain⟨S,u,z⟩:=zb z;cases s with
  | h7 F M=>
   obtain⟨j,w,A⟩:=zb z;refine⟨g,f,_,rc,t,λv P I x r=>⟨I,f,_,rc.ext x,u,λy l m O e=>?_⟩⟩;obtain⟨ad,b,rfl,⟨T,g1,g2,G,g3⟩,B⟩:=(show ∃a b,v = .ref a/\t7 I a F b/\d0 X.K I M b from r);rw[jJ w]at e;have E:y = .int j:=e;obtain⟨R,n,p⟩:=(JB (i:=j) g1 g2<|B.mono O.s0).1 d A;refine⟨ad,R,rfl,?_,q R l m (x.trans O) p⟩;rw[E,<- n];exact .inl ⟨_,AS j,.inr ⟨G,O.s1 _ _<|x.sub _ _ g3⟩,rfl,rfl⟩
  | _=>cases z
theorem fi(h:SX X sc N L k)(S:PV X i fk)(ho:PV X o fd)(Z:s9 .In o=dt:=by with_unfolding_all rfl):kr X (.Compare i [.In] [o] pos) (sB<|eQ fk fd):=
 XC (lj (lL (by have:=h.C2;omega) S ho) Z) λσ H Q P=>by
  obtain⟨n,m,b,rc,d,q⟩:=P;obtain⟨db,B,J⟩:=zb d;obtain⟨k1,C,d⟩:=zb B;obtain⟨w,E,d⟩:=zb d;cases w with
  | h7 g l=>
   obtain⟨j,F,G⟩:=zx d;subst G;cases J;refine⟨n,m,_,rc,C,λy W p x O=>⟨p,m,_,rc.ext x,E,λv f z I r=>?_⟩⟩;obtain⟨ad,e,rfl,⟨kk,g1,g2,R,U⟩,M⟩:=(show ∃a e,v = .ref a/\t7 z a g e/\d0 X.K z l e from r);rw[jJ F]at O;have Y:y = .int j:=O;obtain⟨s,t⟩:=JB (i:=j) g1 g2 M;cases hv:w4 g l j with
   | none=>
    refine⟨ad,dn,rfl,?_,_,rfl,?_⟩
    ·rw[Y,<- t hv]
     exact .inl ⟨_,AS j,.inr ⟨R,I.sub _ _ U⟩,rfl,rfl⟩
    ·rw[hv]at q;exact q f z<|x.trans I
   | some A=>
    obtain⟨T,u,c4⟩:=s A hv;refine⟨ad,di T,rfl,?_,_,rfl,?_⟩
    ·rw[Y,<- u]
     exact .inl ⟨_,AS j,.inr ⟨R,I.sub _ _ U⟩,rfl,rfl⟩
    ·rw[hv]at q;exact q f z<|x.trans I
  | _=>cases d
end
def pG:D->Option (List Int)
 | .tup a=>va a
 | _=>dn
noncomputable def mi:List D->Option (List<|List Int)
 | []=>di []
 | d::ds=>(pG d).bind λk=>(mi ds).map λr=>k::r
noncomputable def sg(f:CO (List D))(γ:Ctx):Option D:=(f γ).bind λb=>(Y7 b).bind λp=>(mi p.1).bind λa=>if a.Nodup/\a.length<=lim then di (.ih a p.2)else dn
noncomputable def pO:List (List Int)->List D->List Int->Option D
 | k::ks,v::vs,i=>if k=i then di v else pO ks vs i
 | _,_,_=>dn
noncomputable def uk(C H:CO D)(γ:Ctx):Option D:=(C γ).bind λd=>(H γ).bind λk=>match d with
 | .ih a b=>(pG k).bind λi=>pO a b i
 | _=>dn
noncomputable def pN(d k x:D):Option D:=match d with
 | .ih a b=>(pG k).map λi=>(pO a b i).getD x
 | _=>dn
noncomputable def uh(C H fx:CO D)(γ:Ctx):Option D:=(C γ).bind λd=>(H γ).bind λk=>(fx γ).bind λx=>pN d k x
noncomputable def uf(f:CO D)(γ:Ctx):Option (List D):=(f γ).bind λd=>match d with
 | .ih a _=>di (a.map λk=> .tup (k.map .int))
 | _=>dn
section
variable(γ:Ctx)
@[simp] def oa:=@sg.eq_1
@[simp] def rO:=@uk.eq_1
@[simp] def rK:=@uh.eq_1
@[simp] def rH:=@uf.eq_1
end
noncomputable def sG:List (List Int)->List Int->List Int->Option Int
 | k::ks,n::ns,i=>if k=i then di n else sG ks ns i
 | _,_,_=>dn
noncomputable def eqT(C:List (List Int))(H:List Int)(d:List (List Int))(z:List Int):Bool:=decide (C.length=d.length) && (C.zip H).all λx=>decide<|sG d z x.1=di x.2
noncomputable def sJ(d e:D):Option Bool:=match d with
 | .ih a f=>match e with
  | .ih z I=>(va f).bind λb=>(va I).map λO=>eqT a b z O
  | _=>dn
 | _=>dn
@[simp] def uZ(d e:D):Option D:=(sJ d e).map D.bl
@[simp] def uY(d e:D):Option D:=(sJ d e).map λb=>D.bl<|!b
def jl:Cell->Bool
 | .nest _=>dk
 | _=>dt
noncomputable def dX(i:Nat):Tg->Bool
 | .nm j=>decide<|j≠i
 | .tp d=>decide<|i∉d
theorem Jt{γ:Ctx}(h:γ.any jl=dt) : ∀(i:Nat) C,γ[i]? ≠ di (.nest C):=λi C e=>by have:=Fi.mp h _<|Eb e;exact this rfl
theorem Jf{γ:Ctx}(h:γ.any jl=dt)(j:Nat)(d:D):(γ.set j<|.val d).any jl=dt:=by
 refine Fi.mpr λc I z=>?_;rcases List.mem_or_eq_of_mem_set I with I | I
 ·exact Fi.mp h c I z
 ·rw[I]at z;cases z
theorem vA : ∀(is:List Nat) (C:List D) {γ:Ctx},γ.any jl=dt->(j6 is C γ).any jl=dt
 | [],C,γ,h=>by cases C<;>exact h
 | i::is,[],γ,h=>h
 | i::is,d::C,γ,h=>vA is C<|Jf h i d
theorem WS{T:Tg}{d:D}{γ z:Ctx}(e:jY T d γ=di z)(h:γ.any jl=dt):z.any jl=dt:=by
 cases T with
 | nm j=>cases e;exact Jf h j d
 | tp is=>
  cases d with
  | tup a=>
   simp only[jY]at e;split at e
   ·cases e;exact vA is a h
   ·cases e
  | _=>simp[jY]at e
section
variable{K:Ab}{E0 E H0 H:Hp}{σ:St}{γ:Ctx}{p:dy}{u u':HO}
theorem RS.Dj(r:RS K E0 E H0 H σ γ)(d:γ.any jl=dt)(Q:H p=di u)(R : ∀xs,u ≠ .lst xs)(C:H0 p=dn)(J:E p=dn):RS K E0 E H0 (upd H p u') σ γ:=by
 have I:f6 H0 (upd H p u'):=λb o e=>by rw[zK (λz=>by rw[z,C]at e;cases e)];exact r.rc.sub b o e
 have l : ∀{a:dy} {xs:List V},H a=di (.lst xs)->a≠p:=λe z=>by rw[z,Q]at e;exact R _<|AG e
 refine⟨⟨I,r.rc.len,r.rc.val,λi g e=>?_,r.rc.ne,m1.Dh<|Jt d⟩,⟨r.ext.s0,λb o e=>by rw[zK (λz=>by rw[z,J]at e;cases e)];exact r.ext.s1 b o e,I,r.ext.new⟩,r.fresh,λi f a xs e=>absurd e<|Jt d i f⟩;obtain⟨a,xs,h,j,O,U⟩:=r.rc.own i g e;exact⟨a,xs,h,j,by rw[zK (l O)];exact O,U⟩
theorem RS.IE(r:RS K E0 E H0 H σ γ)(O:γ.any jl=dt)(Q:H p=di u)(Y : ∀xs,u ≠ .lst xs)(C:H0 p=dn)(J:E p=dn):RS K E0 E (upd H0 p u) H σ γ:=by
 have R:f6 (upd H0 p u) H:=λb o e=>by
  by_cases z:b=p
  ·subst z;rw[zH]at e;rw[Q];exact e
  ·rw[zK z]at e;exact r.rc.sub b o e
 have n : ∀{a:dy} {xs:List V},H a=di (.lst xs)->a≠p:=λe z=>by rw[z,Q]at e;exact Y _<|AG e
 have j:f6 H0 (upd H0 p u):=zS C _;refine⟨⟨R,r.rc.len,λi d e=>?_,λi l e=>?_,r.rc.ne,m1.Dh<|Jt O⟩,⟨r.ext.s0.trans j,r.ext.s1,R,λc s I=>?_⟩,r.fresh,λi f a xs e=>absurd e<|Jt O i f⟩
 ·obtain⟨v,g,h⟩:=r.rc.val i d e
  exact⟨v,g,h.mono j⟩
 ·obtain⟨a,xs,g,h,U,m⟩:=r.rc.own i l e
  exact⟨a,xs,g,by rw[zK (n U)];exact h,U,m.mono j⟩
 ·rw[zK (λz=>by rw[z,J]at I;exact I rfl)];exact r.ext.new c s I
end
theorem Zj{i:Nat} : ∀{is:List Nat} {H:List V} {C:St},i∉is->(Zk is H C)[i]? = C[i]?
 | [],H,C,_=>by cases H<;>rfl
 | j::is,[],C,_=>rfl
 | j::is,v::H,C,h=>by show(Zk is H<|C.set j<|some v)[i]? = _;rw[Zj (λz=>h<|Ax _ z),Ai (λz=>h<|by rw[z];exact Ar)]
theorem YO{K:Ab}{C H:Hp}{T:Tg}{d:D}{v:V}{J:St}{γ O:Ctx}{i:Nat}{Q:St->Hp->Prop}(s:f6 C H)(h:Rep K C d v)(e:jY T d γ=di O)(R:dX i T=dk)
 (q : ∀z,z[i]? = J[i]? ->(∀E0 E,RS K E0 E C H J γ->RS K E0 E C H z O)->Q z H):n0 K T v J H Q:=by
 cases T with
 | nm j=>cases e;exact q _ (Ai<|of_decide_eq_true R) λE0 E r=>r.o8 h
 | tp is=>
  cases d with
  | tup f=>
   simp only[jY]at e;by_cases I:f.length=is.length
   ·rw[GY I]at e;cases e
    obtain⟨a,b,rfl,l,g⟩:=(show ∃a b,v = .ref a/\gj K C a b/\d0 K C f b from h);have U:b.length=is.length:=by rw[g.length,I]
    exact⟨a,b,rfl,ll s l,U,XY U<|q _ (Zj<|of_decide_eq_true R) λE0 E r=>r.Dl g⟩
   ·rw[MQ I]at e;cases e
  | _=>simp[jY]at e
noncomputable def ue(f:CO D)(γ:Ctx):Option D:=(f γ).bind λd=>match d with
 | .ih a _=>di (.int a.length)
 | _=>dn
@[simp] def rG:=@ue.eq_1
abbrev TT:=List (List (List Int))
abbrev LF:=CO (D×TT)
inductive Pl where
 | out | tab (k:Nat) | row (k m:Nat)
deriving DecidableEq
noncomputable def nA(Z:TT):Pl->Prop
 | .out=>True
 | .tab k=>k<Z.length
 | .row k m=>k<Z.length/\m<(Z.getD k []).length
noncomputable def mO(Z:TT)(ad:Pl->dy):Pl->List V
 | .out=>(Ad Z.length).map λk=>V.ref<|ad<|.tab k
 | .tab k=>(Ad (Z.getD k []).length).map λm=>V.ref<|ad<|.row k m
 | .row k m=>((Z.getD k []).getD m []).map V.int
structure N3(H:Hp)(Z:TT)(ad:Pl->dy):Prop where
 cont : ∀pl,nA Z pl->H (ad pl)=di (.lst<|mO Z ad pl)
 inj : ∀pl Gb,nA Z pl->nA Z Gb->ad pl=ad Gb->pl=Gb
section
variable{K:Ab}{al:List (Nat×Pl)}{E0 E H0 H o1 H':Hp}{σ Dq:St}{γ γ':Ctx}{Z:TT}{ad:Pl->dy}
open Classical in
end
open Classical in
section
variable{H:Hp}{Z:TT}{ad:Pl->dy}
end
noncomputable def uN(K:Ab)(E0 E:Hp)(Q:VK)(d:D)(Z:TT):Prop:=∀t v ad b a,Ext E0 E a b->Rep K a d v->b t=di (.tup [v,.ref (ad .out)])->N3 b Z ad->(∀e,nA Z e->a (ad e)=dn/\E (ad e)=dn)->Q (.ref t) b
noncomputable def IF(K:Ab)(n:Nat)(F:List D->Option (D×TT)):Sp:=λd H Q _=>∃a b r,f6 a H/\d0 K a b d/\b.length=n/\F b=di r/\uN K a H Q r.1 r.2
section
variable{X:Cx}{sc:hA}{N L:List Str}{k j n i:Nat}{a b c e:d3}{es:List d3}{f:CO D}{g:CO (List D)}{p pos:e6}{x:Str}{st I7 I8:h5}{q9:List h5}{F:List D->Option Res}
open Classical in
def vl(H:Hp)(p:dy):Hp:=λc=>if c=p then dn else H c
theorem E1{H:Hp}{p c:dy}(h:c≠p):vl H p c=H c:=MQ h
end
noncomputable def oW(C ga H I:CO D):CO D:=λa=>((C a).bind i4).bind λi=>(ga a).bind λx=>((H a).bind i4).bind λj=>(I a).bind λy=>if i=j then dn else di (.h7 [.int i,.int j] [x,y])
mutual
def F9:D->Bool
 | .tup a=>DI a
 | .lst a=>DI a
 | .h7 _ _=>dt
 | .ih _ _=>dt
 | _=>dk
def DI:List D->Bool
 | []=>dk
 | x::xs=>F9 x && DI xs
end
theorem Ext.put{J H C I:Hp}{p:dy}{o:HO}(x:Ext J H C I)(d:H p=dn)(L:C p=dn):Ext J H (upd C p o) (upd I p o):=
 ⟨x.s0.trans<|zS L o,λb u q=>by rw[zK (λe=>by rw[e,d]at q;cases q)];exact x.s1 b u q,J6 x.sub,λa g f=>by rw[zK (λe=>f<|by rw[e];exact d)];exact x.new a g f⟩
noncomputable def oH(t:TE):TE:=λd H Q=>t d H λv b=>∃p a,v = .ref p/\b p=di (.dK a)/\∀o,Q (.ref p)<|upd b p<|.i7 o<|.dK a
theorem fI{X:Cx}{e:d3}{t:TE}(h:PE X e t):PE X e (oH t):=λa s f H Q I d=>en (h a s f H _ I d) λr i z=>by obtain⟨v,g,O,R,p,b,rfl,U,q⟩:=z;obtain⟨o,Y⟩:=Inv.Ha O U;exact⟨.ref p,_,Y,R,q o⟩
section
variable{X:Cx}{a b c e:d3}{fa ga fb gb:CO D}{pos:e6}
theorem iX(h1:PV X a fa)(h2:PV X b ga)(h3:PV X c fb)(h4:PV X e gb):PV X (.Dict [di a,di c] [b,e] pos) (oW fa ga fb gb):=
 jO (fI<|fJ (KC h1 h2<|KC h3 h4 fA) rfl rfl ⋯ ⋯) λσ H Q hZ=>by
  obtain⟨g,f,d,rc,I,q⟩:=hZ;obtain⟨i,l,I⟩:=zb I;obtain⟨N,S,l⟩:=zb l;obtain⟨w,T,I⟩:=zb I;obtain⟨j,m,I⟩:=zb I;obtain⟨P,W,m⟩:=zb m;obtain⟨x,Z,I⟩:=zb I;by_cases h:i=j
  ·rw[GY h]at I;cases I
  rw[MQ h]at I;cases I;intro p n;have R:=Ext.hide rc.sub n<|.dK [];refine⟨g,f,N,rc.ext R,S,λv1 H1 E x1 y=>⟨E,f,w,(rc.ext R).ext x1,T,λU H2 F o r2=>⟨F,f,P,((rc.ext R).ext x1).ext o,W,λv3 H3 G x3 A=>⟨G,f,x,(((rc.ext R).ext x1).ext o).ext x3,Z,λY s O B r4=>?_⟩⟩⟩⟩;have r:=x1.trans<|o.trans<|x3.trans B;rw[jJ l]at y;rw[jJ m]at A;have J:s p=di (.dK []):=r.s1 _ _ zH;have L:g p=dn:=jB rc.sub n;have t:O p=dn:=r.new p L (by rw[zH];simp);have xa:Ext g H O s:=R.trans r;refine⟨J,[(AS i,U),(AS j,Y)],?_,by simp,?_⟩
  ·rw[show v1=V.int i from y,show v3=V.int j from A];rfl
  have M : ¬((AS i:Key)=AS j):=λz=>h<|AS.inj z;have em:vV [] [((AS i:Key),U),(AS j,Y)]=[((AS i:Key),U),(AS j,Y)]:=by simp[vV,JS,M]
  rw[em];refine⟨p,_,rfl,zH,λof=>?_⟩;rw[Y6];have u:f6 O (upd O p<|.i7 of<|.dK [((AS i:Key),U),(AS j,Y)]):=zS t _;refine q (.ref p) _ _ (xa.put n t) (show ∃a C,V.ref p = .ref a/\t7 (upd O p _) a [.int i,.int j] C/\d0 X.K (upd O p _) [w,x] C from⟨p,[U,Y],rfl,⟨[AS i,AS j],rfl,rfl,of,zH⟩,?_⟩);exact d0.cons ((r2.mono<|x3.s0.trans B.s0).mono u)<|d0.cons (r4.mono u) d0.nil
end
mutual
theorem Rep.less{K:Ab}{H:Hp}{p:dy}{C:e5->Prop}(I:H p=di (.ext C)) : ∀{d:D} {v:V},F9 d=dk->Rep K H d v->Rep K (vl H p) d v
 | .f7,_,_,h=>h
 | .bl _,_,_,h=>h
 | .int _,_,_,h=>h
 | .str _,_,_,h=>h
 | .tup ds,v,n,h=>by
  obtain⟨a,b,f,g,i⟩:=(show ∃a b,v = .ref a/\gj K H a b/\d0 K H ds b from h);refine(show ∃a b,v = .ref a/\gj K (vl H p) a b/\d0 K (vl H p) ds b from⟨a,b,f,?_,d0.less I n i⟩);have z : ∀{u:HO},(∀C,u ≠ .ext C)->H a=di u->a≠p:=λO q e=>by rw[e,I]at q;exact O _ (AG q).symm
  rcases g with(hq | ⟨o',hq⟩) | hq
  ·exact .inl (.inl<|by rw[E1 (z (λ_=>by simp) hq)];exact hq)
  ·exact .inl<|.inr ⟨o',by rw[E1 (z (λ_=>by simp) hq)];exact hq⟩
  ·exact .inr hq
 | .lst ds,v,n,h=>by
  obtain⟨a,b,f,g,i⟩:=(show ∃a b,v = .ref a/\gR K H a b/\d0 K H ds b from h);refine(show ∃a b,v = .ref a/\gR K (vl H p) a b/\d0 K (vl H p) ds b from⟨a,b,f,?_,d0.less I n i⟩);have z : ∀{u:HO},(∀C,u ≠ .ext C)->H a=di u->a≠p:=λO q e=>by rw[e,I]at q;exact O _ (AG q).symm
  rcases g with(hq | ⟨o',hq⟩) | hq
  ·exact .inl (.inl<|by rw[E1 (z (λ_=>by simp) hq)];exact hq)
  ·exact .inl<|.inr ⟨o',by rw[E1 (z (λ_=>by simp) hq)];exact hq⟩
  ·exact .inr hq
 | .h7 _ _,_,n,_=>nomatch n
 | .ih _ _,_,n,_=>nomatch n
theorem d0.less{K:Ab}{H:Hp}{p:dy}{I:e5->Prop}(z:H p=di (.ext I)) : ∀{C:List D} {xs:List V},DI C=dk->d0 K H C xs->d0 K (vl H p) C xs
 | [],_,_,h=>h
 | d::C,xs,n,h=>by obtain⟨x,r,a,b,e⟩:=(show ∃x r,xs=x::r/\Rep K H d x/\d0 K H C r from h);have n:(F9 d && DI C)=dk:=n;rw[As]at n;exact(show ∃x r,xs=x::r/\Rep K (vl H p) d x/\d0 K (vl H p) C r from⟨x,r,a,Rep.less z n.1 b,d0.less z n.2 e⟩)
end
abbrev m4:=Ctx->List Int->List D->Option (Ctx×List Int×List D)
noncomputable def gG(C fv:CO D):m4:=λb a d=>(fv b).bind λv=>((C b).bind i4).bind λk=>if k∉a/\a.length<lim then di (b,a++[k],d++[v])else dn
noncomputable def YE(i j:Nat)(f:CO D):m4:=λa b e=>if j=i then dn else (f a).map λd=>(a.set j<|.val d,b,e)
noncomputable def JT(F G:m4):m4:=λd a b=>(F d a b).bind λr=>G r.1 r.2.1 r.2.2
noncomputable def Xa(T:Tg)(F:m4):List D->m4
 | [],γ,ks,vs=>di (γ,ks,vs)
 | d::ds,γ,ks,vs=>(jY T d γ).bind λz=>(F z ks vs).bind λr=>Xa T F ds r.1 r.2.1 r.2.2
noncomputable def gH(i:Nat)(C:CO (List D))(T:Tg)(F:m4):m4:=λa d e=>if dX i T=dk then (C a).bind λb=>Xa T F b a d e else dn
def nP:m4:=λd a b=>di (d,a,b)
noncomputable def Yl(i:Nat)(F:m4):CO Fl:=λa=>if (a.set i .no).any jl=dt/\i<a.length then (F (a.set i .no) [] []).bind λr=>if r.2.1.length<=lim then di (.next<|r.1.set i<|.val<|.h7 (r.2.1.map .int) r.2.2)else dn else dn
noncomputable def Kt(f:CO D):CO (List D):=λe=>(f e).bind λd=>match d with
 | .h7 a b=>if a.length=b.length/\(va a).isSome=dk then di a else dn
 | _=>dn
structure QI(K:Ab)(i:Nat)(p:dy)(E0 E H0 H:Hp)(σ:St)(γ:Ctx)(ks:List Int)(vs:List D):Prop where
 rs:RS K E0 E H0 H σ γ
 nn:γ.any jl=dt
 sl:σ[i]? = di (di (.ref p))
 h0:H0 p=dn
 he:E p=dn
 ex : ∃ys,H p=di (.dK<|(ks.map AS).zip ys)/\ys.length=ks.length/\ks.Nodup/\d0 K H0 vs ys
theorem dO{ec:List (Key×V)} : ∀xs,HO.dK ec ≠ .lst xs:=λxs z=>by cases z
section
variable{K:Ab}{i:Nat}{p:dy}{E0 E H0 H o1 H':Hp}{σ Dq:St}{γ γ':Ctx}{ks:List Int}{vs:List D}
theorem QI.step(x:QI K i p E0 E H0 H σ γ ks vs)(e:Ext H0 H o1 H'):QI K i p E0 E o1 H' σ γ ks vs:=by obtain⟨f,a,b,d,z⟩:=x.ex;exact⟨x.rs.step e,x.nn,x.sl,e.new p x.h0 (by rw[a];simp),x.he,f,e.s1 _ _ a,b,d,z.mono e.s0⟩
theorem QI.names(x:QI K i p E0 E H0 H σ γ ks vs)(r:RS K E0 E H0 H Dq γ')(n:γ'.any jl=dt)(s:Dq[i]? = σ[i]?):QI K i p E0 E H0 H Dq γ' ks vs:=⟨r,n,by rw[s];exact x.sl,x.h0,x.he,x.ex⟩
end
noncomputable def ts(K:Ab)(i:Nat)(F:m4):TS:=λD j H=>∃p E0 E h g e f r,QI K i p E0 E h H j g e f/\F g e f=di r/\∀a d b,QI K i p E0 E b d a r.1 r.2.1 r.2.2->D.nx a d
theorem vw{k:Int} : ∀{C:List Int} {H:List V},k∉C->JY ((C.map AS).zip H) (AS k:Key)=dn
 | [],_,_=>rfl
 | _::_,[],_=>rfl
 | j::C,y::H,h=>by rw[Ap,Fe,vg (λe=>h<|by rw[AS.inj e];exact Ar)];exact vw λz=>h<|Ax _ z
section
variable{X:Cx}{i:Nat}{st:h5}{q9:List h5}{pos:e6}
theorem cW{C fv:CO D}(h:PS X st (iK (dZ i) (tV X.K C)<|tV X.K fv)):PS X st (ts X.K i<|gG C fv):=qT h λD σ H O=>by
 obtain⟨p,E0,E,s,o,l,W,r,f,d,Q⟩:=O;obtain⟨v,w,d⟩:=zb d;obtain⟨k,R,d⟩:=zb d;obtain⟨J,U,Y⟩:=zb R;split at d
 ·next z=>
  cases d;refine⟨s,o,v,f.rs.rc,w,λN P t x1 M=>⟨.ref p,f.sl,t,o,J,(f.step x1).rs.rc,U,λL S u I m=>?_⟩⟩;rw[jJ Y]at m;have G:L = .int k:=m;have y:=(f.step x1).step I;obtain⟨n,j,g,x,A⟩:=y.ex;have T:lim<=eG:=by decide
  have Z:((l.map<|AS (β:=Str)).zip n).length=l.length:=by rw[List.length_zip,Ay,g,Nat.min_self]
  refine⟨p,_,rfl,by rw[G];exact Dr.k (k:=AS k) j ⋯,Q _ _ u ?_⟩;rw[aN _ (vw z.1)];refine⟨y.rs.Dj y.nn j dO y.h0 y.he,y.nn,y.sl,y.h0,y.he,n++[N],?_,by simp[g],?_,A.append<|d0.cons (M.mono I.s0) d0.nil⟩
  ·rw[zH,AR,List.zip_append (by simp[g])]
   rfl
  ·exact Fg.mpr ⟨x,by simp,λa B b F e=>z.1<|by rw[Ek.mp F]at e;exact e ▸ B⟩
 ·cases d
theorem Ky{j:Nat}{f:CO D}(h:PS X st (Xx (tV X.K f)<|xN j)):PS X st (ts X.K i<|YE i j f):=qT h λD o H I=>by
 obtain⟨p,E0,E,b,g,m,n,r,a,z,O⟩:=I;unfold YE at z;split at z
 ·cases z
 ·next Q=>
  obtain⟨d,e,R⟩:=zx z;subst R;refine⟨b,g,d,a.rs.rc,e,λv l U x1 Y=>O _ _ U ?_⟩;have y:=a.step x1;exact y.names (y.rs.o8 Y) (Jf y.nn j d)<|Ai Q
theorem cV{F G:m4}(C:PS X st (ts X.K i F))(J:i8 X q9 (ts X.K i G)):i8 X (st::q9) (ts X.K i<|JT F G):=by intro a s m H D I z;refine(vh C J) a s m H D I ?_;obtain⟨p,E0,E,e,l,g,h,r,j,d,O⟩:=z;obtain⟨Q,f,d⟩:=zb d;exact⟨p,E0,E,e,l,g,h,Q,j,f,λn o b y=>⟨p,E0,E,b,_,_,_,r,y,d,O⟩⟩
theorem cX{F:m4}(h:PS X st (ts X.K i F)):i8 X [st] (ts X.K i F):=VD h
theorem cY{S C:d3}{L:List h5}{M:CO (List D)}{T:Tg}{F:m4}(hp:Dy (el X.prog X.w) X.A X.env X.xe)(hc:X.calm=dk)(hi:hR X S C M)(hg:PG X S (n0 X.K T))(hb:i8 X L (ts X.K i F))
 (hs : ∀x,nf C X.env x=pure x:=by intro _;rfl):PS X (.For S C L [] pos) (ts X.K i<|gH i M T F):=qT (dm hp hc hi hg hb hs) λD j H hZ=>by
 obtain⟨p,E0,E,h,b,f,g,r,xs,O,ac⟩:=hZ;unfold gH at O;split at O
 ·next ae=>
  obtain⟨a,e1,O⟩:=zb O;refine⟨h,b,a,xs.rs.rc,e1,λJ H1 Q x1 o=>?_⟩;have y:=xs.step x1;have W:=y.rs.ext;refine⟨λn m j H=>m=a.length - n/\n<=a.length/\∃h b f g,QI X.K i p Q E h H j b f g/\Xa T F (a.drop n) b f g=di r,⟨_,rfl,BB _,Q,b,f,g,⟨⟨y.rs.rc,W.base,y.rs.fresh,y.rs.p6⟩,y.nn,y.sl,y.h0,y.he,y.ex⟩,O⟩,?_⟩;rintro n m u R ⟨rfl,bd,G,K2,am,an,z,I⟩;have Y:f6 Q R:=z.rs.ext.s0.trans z.rs.ext.sub;by_cases U:n<a.length
  ·refine .inr ⟨o.go n R Y U,λj H=>n+1<=a.length/\∃h b f g,QI X.K i p Q E h H j b f g/\Xa T F (a.drop<|n+1) b f g=di r,λDq B q=>⟨a.length - (n+1),by omega,rfl,q.1,q.2⟩,λx B yy=>?_⟩
   obtain⟨d,P,ar⟩:=o.sd n R x B Y U yy;obtain⟨G0,Z,rg⟩:=ar G z.rs.ext.s0 z.rs.rc.sub;have ax:a.drop n=d::a.drop (n+1):=by
    have b0:d=a[n]:=by rw[Ak U]at P;exact(AG P).symm
    rw[b0];exact En U
   rw[ax]at I;obtain⟨t,N,I⟩:=zb I;obtain⟨r4,eF,I⟩:=zb I;refine YO (i:=i) Z.sub rg N ae λLa l b9=>?_;have s:=z.step Z;exact⟨p,Q,E,G0,t,am,an,r4,s.names (b9 Q E s.rs) (WS N s.nn) l,eF,λLb H5 bb q=>⟨U,bb,_,_,_,q,I⟩⟩
  ·have e:n=a.length:=by omega
   subst e;rw[Fq]at I;cases I;exact .inl ⟨o.stop R Y,ac u R G ⟨⟨z.rs.rc,W.rebase z.rs.ext,z.rs.fresh,z.rs.p6⟩,z.nn,z.sl,z.h0,z.he,z.ex⟩⟩
 ·cases O
noncomputable def nt(K:Ab)(i:Nat)(F:m4)(G:CO Fl):TS:=λD g H=>∃p E0 E f e a b r d,QI K i p E0 E f H g e a b/\F e a b=di r/\r.2.1.length<=lim/\G (r.1.set i<|.val<|.h7 (r.2.1.map .int) r.2.2)=di d/\Sat K E0 E D d
theorem QU : ∀C:List Int,v9 (C.map .int)=di (C.map AS)
 | []=>rfl
 | k::C=>by show((gn<|.int k).bind λk=>(v9<|C.map .int).map λr=>k::r)=_;rw[QU C];rfl
theorem cZ{G:CO Fl}(h:K9 X q9 G):i8 X q9 (nt X.K i nP G):=by
 intro f s m H D I Q;obtain⟨p,E0,E,l,M,e,t,r,R,b,U,L,Y,w⟩:=Q;cases U;obtain⟨g,n,A,J,B⟩:=b.ex;obtain⟨o,u⟩:=Inv.Ha I n;refine h f s m _ D u ?_;have C:=b.rs.Dj (u':= .i7 o (.dK<|(e.map AS).zip g)) b.nn n dO b.h0 b.he;have F:=C.IE b.nn zH (λb z=>by cases z) b.h0 b.he;have x:f6 l (upd l p<|.i7 o<|.dK<|(e.map AS).zip g):=zS b.h0 _;have O:=F.o8 (i:=i) (d:= .h7 (e.map .int) t) (v:= .ref p) (show ∃a b,V.ref p = .ref a/\t7 (upd l p<|.i7 o<|.dK<|(e.map AS).zip g) a (e.map .int) b/\d0 X.K (upd l p<|.i7 o<|.dK<|(e.map AS).zip g) t b from⟨p,g,rfl,⟨_,QU e,by rw[Ay,A],o,zH⟩,B.mono x⟩);have y:m.set i (di (.ref p))=m:=by
  apply Fh;intro j;by_cases z:j=i
  ·subst z
   rw[AV (by have:=Az.mp b.sl;exact this.1),b.sl]
  ·rw[Ai (Br z)]
 rw[y]at O;exact⟨E0,E,_,_,R,O,Y,w⟩
theorem Ji{F z:m4}{G:CO Fl}(C:PS X st (ts X.K i F))(J:i8 X q9 (nt X.K i z G)):i8 X (st::q9) (nt X.K i (JT F z) G):=by intro a s n H D I O;refine(vh C J) a s n H D I ?_;obtain⟨p,E0,E,e,m,g,j,r,Q,l,d,R,U,Y⟩:=O;obtain⟨h,f,d⟩:=zb d;exact⟨p,E0,E,e,m,g,j,h,l,f,λo t b y=>⟨p,E0,E,b,_,_,_,r,Q,y,d,R,U,Y⟩⟩
theorem QC(i:Nat){F:m4}{G:CO Fl}(C:PS X st (Xx Vg<|xN i))(J:i8 X q9 (nt X.K i F G)):K9 X (st::q9) (zD (Yl i F) G):=by
 intro a s e H D I Q;refine(vh C J) a s e H D I ?_;obtain⟨E0,E,f,g,R,b,z,U⟩:=Q;obtain⟨f1,d,z⟩:=zb z;unfold Yl at d;split at d
 ·next Y=>
  obtain⟨u,j⟩:=Y;obtain⟨r,n,d⟩:=zb d;split at d
  ·next t=>
   cases d;show Vg e H λx h=>xN i x e h _;intro p O;have o:E p=dn:=jB b.ext.s1 O;have l:f p=dn:=jB b.rc.sub O;have w:RS X.K E0 E f (upd H p<|.dK []) (e.set i<|some (.ref p)) (g.set i .no):=(b.forget (v:=di (.ref p))).step (Ext.hide b.rc.sub O _);have m:(e.set i<|some (V.ref p))[i]? = di (di (.ref p)):=by rw[AV (by rw[b.rc.len];exact j)]
   exact⟨p,E0,E,f,g.set i .no,[],[],r,R,⟨w,u,m,l,o,[],zH,rfl,List.nodup_nil,d0.nil⟩,n,t,z,U⟩
  ·cases d
 ·cases d
end
theorem pI{P:hH}{w:g9}{k:Key}{u:dV}(h:(jP P w).is k u=dk):RelV (kV k) u:=by
 cases k with
 | inl i=>exact Value.isInt_shape h
 | inr x=>exact Value.isStrOf_shape h
noncomputable def GI(a:dy)(o:i5)(ec:List (Key×V)):It:=⟨λi H=>H a=di (.i7 o<|.dK ec)/\i<ec.length,λi H x b=>b=H/\∃e,ec[i]? = di e/\x=kV e.1,λi H=>H a=di (.i7 o<|.dK ec)/\ec.length<=i⟩
theorem Wm{P:hH}{w:g9}{H:Hp}{h:e5}{a:dy}{o:i5}{ec:List (Key×V)}{J:Array DictEntry}{d:Nat}(L:o.data = .dict J d)(x:i1 P w H h a (.i7 o<|.dK ec)) : ∃C,KV ec C/\h.DictAt (jP P w) a C d:=by obtain⟨z,_,_,C,Q,b,U,Y,I,R,O,r⟩:=x;rw[z]at I;cases I;rw[L]at O;cases O;exact⟨C,Q,o,J,z,R,L,r⟩
theorem Yg{P:hH}{w:g9}{K:Ab}{tg:d3}{a:dy}{o:i5}{ec:List (Key×V)}{es:Array DictEntry}{ep:Nat}(hd:o.data = .dict es ep)(it:dy) :
 Turn P w K tg (GI a o ec) [it] it (λi h=>h.IsKeyIter it a i ec.length ep) where
 mem:=by simp
 obj:=λi h st b z=>by
  have e:b=it:=by simpa using z
  subst e;obtain⟨o,e,c,d⟩:=st;exact⟨o,e,λv q=>by rw[d]at q;cases q⟩
 keep:=λi h h' st k=>by obtain⟨o,e,r⟩:=st;exact⟨o,k it ⋯ o e,r⟩
 item:=by
  rintro X rfl rfl rfl hc i pins s σ H E I O st Y;obtain⟨f0,f1,f2,f3,f4,f5⟩:=O it ⋯;obtain⟨ha,hi⟩:=Y;obtain⟨vs,R,dd⟩:=Wm hd<|I.e4 a _ ha;have U:ec.length=vs.length:=R.length;have a9:i<vs.length:=by omega
  have hk:vs[i].1=ec[i].1:=by have q:=congrArg (·[i]?) R.keys;simp only[AM,Ak hi,Ak a9,AO]at q;exact(AG q).symm
  refine wpAny_pyNext_dict_item (k:=vs[i].1) (v:=vs[i].2) (U ▸ st) dd (Ak a9) λam h' kk a6 sb=>⟨_,rfl,?_⟩;rw[<- U]at a6;have I1:Inv X pins σ H {s with heap:=h'}:=I.turned (t':=s.toks) (λb o z e=>(sb.2 b z).trans e) f0 f1 f3 f4 f5;obtain⟨oi,e,c,d⟩:=id a6;rw[hk]at kk;exact bL (s:={s with heap:=h'}) e c d ⋯ ⟨kV ec[i].1,H,I1,pI kk,⟨rfl,ec[i],Ak hi,rfl⟩,a6,λb z=>(O b z).1⟩
 done:=by rintro X rfl rfl rfl hc i pins s σ H E I O st Y;obtain⟨f0,f1,f2,f3,f4,f5⟩:=O it ⋯;obtain⟨ha,hi⟩:=Y;obtain⟨vs,R,dd⟩:=Wm hd<|I.e4 a _ ha;have U:ec.length=vs.length:=R.length;exact wpAny_pyNext_dict_end (I.ok.hd hc) (U ▸ st) dd (EH ⋯) λh' eb=>⟨rfl,I.turned (t':=s.toks) (λb o z e=>eb b o z e) f0 f1 f3 f4 f5⟩
 self:=λA i s Q E st h=>wpAny_pyIter_keyiter st h
theorem KR : ∀{H:List D} {C:List Int},va H=di C->H=C.map .int
 | [],C,h=>by cases h;rfl
 | k::H,C,h=>by
  cases k with
  | int i=>
   obtain⟨l,a,d⟩:=zx (show(va H).map (λl=>i::l)=di C from h);subst d;rw[Ap,<- KR a]
  | _=>cases h
theorem Yc{K:Ab}{L J:Hp}{a:dy}{o:i5}{C:List Int}{H:List V}(h:J a=di (.i7 o<|.dK<|(C.map AS).zip H))(z:C.length=H.length):Walk K L J (GI a o<|(C.map AS).zip H) (C.map .int):=by
 have n:((C.map<|AS (β:=Str)).zip H).length=C.length:=by rw[List.length_zip,Ay,z,Nat.min_self]
 have I:(C.map D.int).length=C.length:=Ay ..;refine⟨λi b s l=>?_,λb s=>?_,λi b x g s l y=>?_⟩
 ·exact⟨s _ _ h,by omega⟩
 ·exact⟨s _ _ h,by omega⟩
 ·obtain⟨rfl,e,j,rfl⟩:=y
  have d:i<C.length:=by omega
  have:e.1=AS C[i]:=by have q:=congrArg (EE (·.1)) j;rw[<- AM,List.map_fst_zip (by simp;omega)]at q;simp[d]at q;exact q.symm
  refine⟨.int C[i],by simp[d],λf p m=>⟨f,Ext.refl m,?_⟩⟩;rw[this];exact(rfl:V.int C[i] = .int C[i])
section
variable{X:Cx}{tg a:d3}{f:CO D}
theorem VL(S:PV X a f):hR X tg a (Kt f):=by
 intro h s σ H R I Y;obtain⟨n,γ,j,rc,O,q⟩:=Y;obtain⟨d,P,O⟩:=zb O;cases d with
 | h7 l m=>
  have O:(if l.length=m.length/\(va l).isSome=dk then di l else dn)=di j:=O;split at O
  ·next W=>
   cases O;obtain⟨E,p⟩:=Cz.mp W.2;refine en (S h s σ H (λv g=>∃Q,Ext n H Q g/\Rep X.K Q (.h7 j m) v) I ⟨n,γ,_,rc,P,λv g Q x r=>⟨Q,x,r⟩⟩) λu i Y=>?_;obtain⟨v,g,U,r1,Q,x1,rp⟩:=Y;obtain⟨ad,G,rfl,⟨kk,g1,g2,o,g3⟩,g4⟩:=(show ∃a F,v = .ref a/\t7 Q a j F/\d0 X.K Q m F from rp);cases (show u=BL ad from r1);rw[ZG p]at g1;cases g1;have ok:=(show i1 X.prog X.w g i.heap ad (.i7 o<|.dK _)from U.e4 ad _<|x1.sub _ _ g3);obtain⟨B,A,C⟩ : ∃B A,o.data = .dict B A:=by obtain⟨ho,_,_,t,_,o',as,ax,y,c1,M,_⟩:=id ok;rw[ho]at y;cases y;exact⟨_,_,M⟩
   obtain⟨t,J,N⟩:=Wm C ok;have L:(ad==r6)=dt:=by obtain⟨_,_,z,_⟩:=id ok;exact z
   have Z:((E.map<|AS (β:=Str)).zip G).length=t.length:=J.length;refine wpAny_pyIter_dict L N ?_;refine⟨i.heap.objs.size,[i.heap.objs.size],_,_,g,rfl,U.kept (t':=i.toks) λb o e=>Ae _ e,Yg (a:=ad) (ec:=(E.map AS).zip G) C _,⟨_,AA _ rfl,rfl,by rw[Z];rfl⟩,λb T=>?_,q _ g Q x1 ?_⟩
   ·have e:b=i.heap.objs.size:=by simpa using T
    subst e;exact U.De (Al _)<|U.e4.fresh<|Al _
   ·rw[KR p]
    exact Yc g3 (by rw[Ay]at g2;exact g2)
  ·cases O
 | _=>cases O
end
def vr(e:d3):Str:=match e with | .Name x _=>x | _=>""
noncomputable def tx(e:d3):List Str:=match e with | .Tuple a _ _=>a.map vr | e=>[vr e]
noncomputable def A2(N:List Str)(fs:List Nat):List (Str×Nat):=fs.map λi=>(N.getD i "",i)
theorem JD(N:List Str)(fs:List Nat):(A2 N fs).map (·.2)=fs:=by unfold A2;rw[BP];exact List.map_id fs
def dE(e:d3):Bool:=match e with | .Name _ _=>dk | _=>dt
theorem Yy{e:d3}(h:dE e=dk) : ∃p,e = .Name (vr e) p:=by
 unfold dE at h;split at h
 ·exact⟨_,rfl⟩
 ·cases h
noncomputable def rX(C:hA)(N L:List Str)(is:List Nat)(H:List d3):Bool:=match is with
 | [i,j]=>(match H with | [a,b]=>dE a && (kK C N L i (vr a) && (dE b && kK C N L j (vr b))) | _=>dt)
 | [i,j,l]=>(match H with | [a,b,c]=>dE a && (kK C N L i (vr a) && (dE b && (kK C N L j (vr b) && (dE c && kK C N L l (vr c))))) | _=>dt)
 | _=>dt
noncomputable def DQ(C:hA)(N L:List Str)(e:d3)(T:Tg):Bool:=match T with
 | .nm i=>dE e && kK C N L i (vr e)
 | .tp is=>(match e with | .Tuple a _ _=>rX C N L is a | _=>dt)
theorem dW{X:Cx}{C:hA}{N L:List Str}{k:Nat}(h:SX X C N L k){e:d3}{T:Tg}(c:DQ C N L e T=dk):PG X e (n0 X.K T):=by
 cases T with
 | nm i=>
  have c:=Bool.and_eq_true_iff.mp c;obtain⟨p,q⟩:=Yy c.1;rw[q];exact h.t2 _ c.2
 | tp is=>
  unfold DQ at c;dsimp only at c;split at c
  ·next b j pos=>
   unfold rX at c;split at c
   ·split at c
    ·simp only[As]at c
     obtain⟨d,z,b1,b2⟩:=c;obtain⟨p,q⟩:=Yy d;obtain⟨a,I⟩:=Yy b1;rw[q,I];exact h.FC<|qH (h.t2 _ z)<|qH (h.t2 _ b2) Jp
    ·cases c
   ·split at c
    ·simp only[As]at c
     obtain⟨d,z,b1,b2,O,Q⟩:=c;obtain⟨p,q⟩:=Yy d;obtain⟨a,I⟩:=Yy b1;obtain⟨f,R⟩:=Yy O;rw[q,I,R];exact h.FC<|qH (h.t2 _ z)<|qH (h.t2 _ b2)<|qH (h.t2 _ Q) Jp
    ·cases c
   ·cases c
  ·cases c
noncomputable def cB(H scope:hA)(N:List Str)(C:d3)(T:Tg)(n:Nat)(fs:List Nat):Bool:=
 X6 H scope N (A2 N fs) && (oO (tx C) scope (A2 N fs) && (decide (∀i∈T.idx,i<(tx C).length) && (decide ((tx C).length=n) && DQ (xG scope H) (tx C++(A2 N fs).map (·.1)) (tx C) C T)))
abbrev A1(X:Cx)(scope:hA)(N:List Str)(tg:d3)(fs:List Nat):=z6 X scope (tx tg++(A2 N fs).map (·.1))
abbrev SA(X:Cx)(sc scope:hA)(N:List Str)(tg:d3)(fs:List Nat)(k:Nat)(fp:List dy)(s2:eg)(H2:Hp):Prop:=SX (A1 X scope N tg fs fp s2 H2) (xG scope sc) (tx tg++(A2 N fs).map (·.1)) (tx tg) k
section
variable{X:Cx}{sc scope:hA}{N L:List Str}{k n i:Nat}{fs:List Nat}{T:Tg}{e elt tg iter C7:d3}{es:List d3}{pos p py spos cpos:e6}{x y:Str}{f g:CO D}{fo:CO (List D)}{src gl:CO (List D)}{kk:CO Bool}
theorem cA(h:SX X sc N L k)(c:cB sc scope N tg T n fs=dk):oe X scope (A2 N fs)/\(∀i∈T.idx,i<(tx tg).length)/\(tx tg).length=n/\(∀fp H C,SA X sc scope N tg fs k fp H C)/\∀fp H C,PG (A1 X scope N tg fs fp H C) tg (n0 X.K T):=by unfold cB at c;simp only[As,decide_eq_true_eq]at c;obtain⟨d,z,I,a,b⟩:=c;have s : ∀fp H C,SA X sc scope N tg fs k fp H C:=λfp H C=>h.comp z;exact⟨h.Ib d,I,a,s,λfp H C=>dW (s fp H C) b⟩
theorem qU(h:SX X sc N L k)(J:pd X tg iter src)(I : ∀fp H C,SA X sc scope N tg fs k fp H C->PV (A1 X scope N tg fs fp H C) elt f)(c:cB sc scope N tg T n fs=dk:=by decide +kernel)(z : ∀x,nf iter X.env x=pure x:=by intro _;rfl) :
 PO X (.ListComp elt [⟨tg,iter,[],0⟩] scope pos) (zE src T n fs z7 f):=by
 obtain⟨a,b,d,s,q⟩:=cA h c;have r:=fD (pos:=pos) h.calm a b J q (λfp H C=>I fp H C<|s fp H C) z;rw[d,JD]at r;exact r
theorem QE(h:SX X sc N L k)(J:pd X tg iter src)(M : ∀fp H C,SA X sc scope N tg fs k fp H C->kr (A1 X scope N tg fs fp H C) C7 kk)(I : ∀fp H C,SA X sc scope N tg fs k fp H C->PV (A1 X scope N tg fs fp H C) elt f)(c:cB sc scope N tg T n fs=dk:=by decide +kernel)(z : ∀x,nf iter X.env x=pure x:=by intro _;rfl) :
 PO X (.ListComp elt [⟨tg,iter,[C7],0⟩] scope pos) (zE src T n fs kk f):=by
 obtain⟨a,b,d,s,q⟩:=cA h c;have r:=VJ (pos:=pos) h.calm a b J q (λfp H C=>M fp H C<|s fp H C) (λfp H C=>I fp H C<|s fp H C) z;rw[d,JD]at r;exact r
theorem ka(h:SX X sc N L k)(J:pd X tg iter src)(I : ∀fp H C,SA X sc scope N tg fs k fp H C->PV (A1 X scope N tg fs fp H C) elt f)(ct:kK sc N L i y=dk:=by decide +kernel)(c:cB sc scope N tg T n fs=dk:=by decide +kernel)(z : ∀x,nf iter X.env x=pure x:=by intro _;rfl) :
 PS X (.Assign [.Name y py] (.ListComp elt [⟨tg,iter,[],0⟩] scope cpos) spos) (Xx (tO X.K<|zE src T n fs z7 f)<|xN i):=by
 obtain⟨a,b,d,s,q⟩:=cA h c;have r:=IA (cpos:=cpos) (spos:=spos) (py:=py) i h ct h.calm a b J q (λfp H C=>I fp H C<|s fp H C) z;rw[d,JD]at r;exact r
theorem fz(h:SX X sc N L k)(J:pd X tg iter src)(M : ∀fp H C,SA X sc scope N tg fs k fp H C->kr (A1 X scope N tg fs fp H C) C7 kk)(I : ∀fp H C,SA X sc scope N tg fs k fp H C->PV (A1 X scope N tg fs fp H C) elt f)(ct:kK sc N L i y=dk:=by decide +kernel)(c:cB sc scope N tg T n fs=dk:=by decide +kernel)(z : ∀x,nf iter X.env x=pure x:=by intro _;rfl) :
 PS X (.Assign [.Name y py] (.ListComp elt [⟨tg,iter,[C7],0⟩] scope cpos) spos) (Xx (tO X.K<|zE src T n fs kk f)<|xN i):=by
 obtain⟨a,b,d,s,q⟩:=cA h c;have r:=pq (cpos:=cpos) (spos:=spos) (py:=py) i h ct h.calm a b J q (λfp H C=>M fp H C<|s fp H C) (λfp H C=>I fp H C<|s fp H C) z;rw[d,JD]at r;exact r
theorem zm(h:SX X sc N L k)(c:JW sc N i x=dk:=by decide +kernel):PV X (.Name x pos) (zd i):=iU i<|h.var c
theorem zO(h:SX X sc N L k)(c:JW sc N i x=dk:=by decide +kernel):PQ X (.Name x pos) (zf i):=lr i<|h.var c
theorem nr(h:SX X sc N L k)(c:DQ sc N L e T=dk:=by decide +kernel):PG X e (n0 X.K T):=dW h c
theorem jw(h:SX X sc N L k)(C:PV X e f)(c:kK sc N L i x=dk:=by decide +kernel)(d:p8 e (di (.Name x py)) pos.line X.env=pure dt:=by rfl):i6 X (.Assign [.Name x py] e pos) (jq i f):=fm i<|h.set i c C d
theorem ke(h:SX X sc N L k)(C:PO X e fo)(c:kK sc N L i x=dk:=by decide +kernel)(d:p8 e (di (.Name x py)) pos.line X.env=pure dt:=by rfl):i6 X (.Assign [.Name x py] e pos) (xA i fo):=Jm i<|h.set i c C d
theorem qa{C:List h5}{F:CO Fl}(d:X.xe=λ_ _=>False)(h:SX X sc N L k)(H:hR X tg iter src)(z:K9 X C F)(c:DQ sc N L tg T=dk:=by decide +kernel)(I : ∀x,nf iter X.env x=pure x:=by intro _;rfl):i6 X (.For tg iter C [] pos) (x9 src T F):=ft (KI d) h.calm H (dW h c) z I
variable{j:Nat}{F:List D->Option Res}
theorem zY(d:gi X.prog X.w X.K X.mg X.base j x n F)(h:SX X sc N L k)(C:x2 X (e::es) n gl)(z:j<=k:=by decide)(c:yO sc x=dk:=by decide +kernel)
 (H:e9 (e::es) X.env=(dt,ej e X.env)::e9 es X.env:=by rfl) (I:(m8 pos<|starEach es X.env).any (·.1)=dt:=by rfl):PV X (.Call (.Name x p) (e::es) [] pos) (zG F gl):=pk d z h c C H I
theorem xc(d:gi X.prog X.w X.K X.mg X.base j x n F)(h:SX X sc N L k)(C:x2 X (e::es) n gl)(z:j<=k:=by decide)(c:yO sc x=dk:=by decide +kernel)
 (H:e9 (e::es) X.env=(dt,ej e X.env)::e9 es X.env:=by rfl) (I:(m8 pos<|starEach es X.env).any (·.1)=dt:=by rfl):PO X (.Call (.Name x p) (e::es) [] pos) (jg F gl):=pw d z h c C H I
end
noncomputable def ZS:=jh 1 (zD (js (oT (xF (sB (xg .str (zd 0)))) (sB (zy G6 (wO (zd 0)) (zt (.int 6))))) (xo (zt (.bl dt))) q8) (xo (eS (zX (zE (iG (zd 0)) (.nm 0) 1 [] z7 (ug (zd 0) (zq (zt (.tup [.str "r",.str "l"])))))))))
noncomputable def yX:=jh 2<|zD (js (oT (xF<|sB<|zG Ki<|zc (zd 1)<|zc (zt<|.int 2) zJ)<|oT (xF<|sB<|zG yz<|zc (zd 0)<|zc (dv (zf 1)<|zt<|.int 0) zJ)<|xF<|sB<|zG yz<|zc (zd 0)<|zc (dv (zf 1)<|zt<|.int 1) zJ) (xo<|zt<|.bl dt) q8)<|xo<|zy DE (dv (zf 1)<|zt<|.int 0)<|dv (zf 1)<|zt<|.int 1
noncomputable def zP:=jh 5<|zD (js (aF (sB<|zy n2 (yS<|zf 0)<|zt<|.int 1)<|sB<|zy hI (zy xE (dv (zf 0)<|zt<|.int 0)<|zt<|.int 2)<|zt<|.int 1) (zD (jq 2<|dv (zf 0)<|zy j4 (zt<|.int 1)<|zy xE (zd 1)<|zy w5 (yS<|zf 0)<|zt<|.int 1)<|zD (x9 (zC<|aB (zt<|.int 60)<|zy YL (zd 1)<|zy w5 (yS<|zf 0)<|zt<|.int 1) (.nm 3)<|jq 2<|zy YL (zd 2)<|zy gM (zt<|.int 10)<|zt<|.int 9)<|xo<|zy xE (zd 2)<|zy gM (zt<|.int 10)<|zt<|.int 9) q8)<|zD (jq 4<|zd 1)<|zD (js (sB<|zy n2 (yS<|zf 0)<|zt<|.int 0) (jq 4<|dv (zf 0)<|zy xE (zd 1)<|yS<|zf 0) q8)<|xo<|zy xE (zy k9 (zy xE (zy j4 (zy j4 (zy j4 (zy k9 (zy xE (zd 4)<|zy gM (zt<|.int 10)<|zt<|.int 30)<|zt<|.int 48271)<|zy k9 (zy k9 (zt<|.int 7)<|zd 1)<|zd 1)<|zy k9 (zt<|.int 13)<|zd 1)<|zt<|.int 5)<|zt<|.int 2147483647)<|zt<|.int 69621)<|zt<|.int 1000000007
noncomputable def zR:=jh 4<|wN<|zE (cN (zd 1)<|zd 2) (.tp [0,1]) 2 [0,3] z7 (zy xE (zy w5 (zd 0)<|zy k9 (zd 3)<|zd 1)<|zd 2)
noncomputable def Xk:=(zD (jq 6<|jF<|zE (zB<|zf 3) (.nm 0) 1 [5] (sB<|zy l6 (dv (zf 0)<|zd 1)<|zt<|.int 0) (zd 0))<|js (sB<|zy n2 (yS<|zf 6)<|zt<|.int 0) (zD (jq 7<|dv (zX<|zE (zC<|zd 0) (.nm 0) 1 [0,5,6] (sB<|zy hI (zy xE (zy k9 (zd 0)<|dv (zq<|dv (zf 3)<|zt<|.int 0)<|zd 2)<|zd 1)<|zt<|.int 1) (zd 0))<|zt<|.int 0)<|zD (jq 8<|jF<|zE (zB<|zq<|dv (zf 6)<|zt<|.int 0) (.nm 0) 1 [0,7] z7 (zy xE (zy k9 (zd 2)<|zd 0)<|zd 1))<|zD (jq 3<|jF<|zE (zB<|zf 3) (.nm 0) 1 [0,5,8] z7 (jF<|jg zR<|zc (zd 1)<|zc (zd 0)<|zc (zd 3)<|zc (dv (zf 0)<|zd 2) zJ))<|jq 4<|jF<|wQ (zX<|zE (zB<|zf 4) (.nm 0) 1 [0,5,8] z7 (jF<|jg zR<|zc (zd 1)<|zc (zd 0)<|zc (zd 3)<|zc (dv (zf 0)<|zd 2) zJ))<|zX<|ql<|zc (zd 8) zJ) q8)
noncomputable def jz:=jh 9<|zD (jq 3<|jF<|zE (zB<|zf 2) (.nm 0) 1 [] z7 (jF<|xp<|zf 0))<|zD (jq 4<|jF<|ql zJ)<|zD (x9 (zC<|zd 1) (.nm 5) Xk)<|wN<|zE (zB<|zf 4) (.nm 0) 1 [] z7 (zM<|zf 0)
noncomputable def j3:=jh 2 (zD (js (sB (zy hI (zd 1) (zt (.str "r")))) (xo (kP (zc (zd 0) (zc (zy j4 (zd 0) (zt (.int 1))) zJ)))) q8) (xo (kP (zc (zy j4 (zd 0) (zt (.int 1))) (zc (zd 0) zJ)))))
noncomputable def Zn:=(zD (Vv (.tp [7,8])<|zG j3<|zc (zd 5)<|zc (zd 6) zJ)<|qC 4<|kP<|zc (zd 6)<|zc (kP<|zc (dv (zf 2)<|zd 8)<|zc (dv (zf 2)<|zd 7)<|zc (zM<|zX<|zE (zB<|zq<|dv (zf 3)<|zd 5) (.nm 0) 1 [] z7 (zM<|zf 0)) zJ) zJ)
noncomputable def qh:=jh 9<|zD (xA 4<|ql zJ)<|zD (x9 (Zm<|zd 1) (.tp [5,6]) Zn)<|xo<|kP<|zc (zd 0)<|zc (zM<|zf 2)<|zc (zM<|zf 4) zJ
noncomputable def qp:=jh 4 (zD (jq 2 (zt (.str ""))) (zD (x9 (zC (zy w5 (zd 1) (zt (.int 1)))) (.nm 3) (zD (jq 2 (aE (zd 2) (qv (zt (.str "rl")) (zy xE (zd 0) (zt (.int 2)))))) (jq 0 (zy YL (zd 0) (zt (.int 2)))))) (wM 2)))
noncomputable def qr:=jh 8<|zD (xA 5<|ql zJ)<|zD (x9 (zC<|zd 3) (.nm 6)<|zD (jq 7<|jF<|zE (zC<|zd 4) (.nm 0) 1 [0,1,4,6] z7 (zG zP<|zc (zd 1)<|zc (zy j4 (zy j4 (zd 2)<|zy k9 (zd 4)<|zd 3)<|zd 0) zJ))<|qC 5<|jF<|zE (zB<|zf 7) (.nm 0) 1 [2] z7 (zy k9 (zy xE (zy YL (zd 0)<|zt<|.int 4)<|zd 1)<|kX<|zy n2 (zy xE (zd 0)<|zt<|.int 4)<|zt<|.int 0))<|wM 5
noncomputable def YJ:=(zD (Vv (.tp [9,10])<|zG j3<|zc (zd 7)<|zc (zd 8) zJ)<|qC 6<|jF<|jg qr<|zc (zd 0)<|zc (zy j4 (zy j4 (zd 1)<|zt<|.int 10)<|zy k9 (zt<|.int 20)<|zd 7)<|zc (zd 2)<|zc (dv (zf 5)<|zd 10)<|zc (dv (zf 5)<|zd 9) zJ)
noncomputable def jT:=jh 11<|zD (jq 5<|jF<|zE (zC<|zy j4 (wO<|zd 3)<|zt<|.int 1) (.nm 0) 1 [0,1,4] z7 (zy xE (zG zP<|zc (zd 1)<|zc (zy j4 (zd 2)<|zd 0) zJ)<|zy j4 (zd 3)<|zt<|.int 1))<|zD (xA 6<|ql zJ)<|zD (x9 (Zm<|zd 3) (.tp [7,8]) YJ)<|aC 6<|xo<|zG qh<|zc (zd 2)<|zc (zd 3)<|zc (zd 5)<|zc (zd 6) zJ
abbrev u3(k:Sk)(xs:List D):D:=match k with | .T=>D.tup xs | .L=>D.lst xs
@[simp] theorem sO(k xs):jf (u3 k xs)=di (k,xs):=by cases k<;>rfl
theorem ZQ(k:Sk)(f:Nat->Int)(d:0<p)(z:n<=lim) :
 qZ [.int p,u3 k (zz n f)]=di (.val<|.tup<|zz n λi=>f i%p):=by
 simp[qZ,jh,jD,je,z,qX];unfold zz;rw[zr (r:=λi=>D.int<|f i%p)]
 ·simp
 ·intro i a
  refine zv rfl rfl ?_;simp[d]
theorem ab(f:Nat->Int)(d:0<p)(z:n<=lim) :
 qZ [.int p,.tup (zz n f)]=di (.val<|.tup<|zz n λi=>f i%p):=ZQ .T f d z
theorem Xu(f:Nat->Int)(d:0<p)(z:n<=lim) :
 qZ [.int p,.lst (zz n f)]=di (.val<|.tup<|zz n λi=>f i%p):=ZQ .L f d z
theorem xD(f:GK)(d:h<=lim)(C:w<=lim):z5 [jy h w f]=di (.val<|jy w h λi j=>f j i):=by
 simp[z5,jh,jD,je,d,C,qX,jy,Ag,ju,zV];rw[zA w λi=>(i:Int)];rw[zr (r:=λj=>D.tup<|zz h λi=>f i j)]
 ·simp
  rfl
 ·intro j z
  refine zv rfl rfl ?_;simp[je,d,qX];unfold zF;rw[zr (r:=λi=>D.int<|f i j)]
  ·simp
   rfl
  ·intro i b
   refine zv rfl rfl ?_;have a:=Ah.mp z;simp[a,qo _ a]
theorem Xt(d:n<=lim):qz [.int n]=di (.val<|jy n n λi j=>if i=j then 1 else 0):=by
 simp[qz,jh,jD,ju,d,je,qX,Ag,zV];rw[zA n λi=>(i:Int)];rw[zr (r:=λi=>D.tup<|zz n λj=>if i=j then 1 else 0)]
 ·simp
  rfl
 ·intro i a
  refine zv rfl rfl ?_;simp[d,je,Ag,zV,qX];rw[zA n λi=>(i:Int)];rw[zr (r:=λj=>D.int<|if i=j then 1 else 0)]
  ·simp
   rfl
  ·intro j z
   refine zv rfl rfl ?_;simp;by_cases e:i=j
   ·simp[e]
   ·rw[MQ ⋯,MQ e]
def vb(C:List Int):D:= .lst (C.map D.int)
mutual
theorem G9 : ∀d:D,i9 d d=dk
 | .f7=>rfl
 | .bl b=>by simp[i9]
 | .int i=>by simp[i9]
 | .str x=>by simp[i9]
 | .tup e=>by simp only[i9];exact Dc e
 | .lst e=>by simp only[i9];exact Dc e
 | .h7 a b=>by simp only[i9];rw[Dc a,Dc b];rfl
 | .ih a b=>by simp only[i9];rw[Dc b];simp
theorem Dc : ∀C:List D,p5 C C=dk
 | []=>rfl
 | d::C=>by simp only[p5,G9 d,Dc C,Bool.and_self]
end
theorem yr : ∀{l:List D} {n:Nat},(∀d∈l,deep d<=n)->n7 l<=n
 | [],n,_=>BB n
 | d::ds,n,h=>by simp only[n7];exact Nat.max_le.mpr ⟨h d Ar,yr λe a=>h e<|Ax _ a⟩
theorem KZ(n f):deep (.tup<|zz n f)<=1:=by
 simp only[deep];have:n7 (zz n f)<=0:=yr λd a=>by simp[zz]at a;obtain⟨i,_,rfl⟩:=a;exact Al _
 omega
theorem cj(h w f):deep (.tup<|zF h w f)<=2:=by
 simp only[deep];have:n7 (zF h w f)<=1:=yr λd a=>by simp[zF]at a;obtain⟨i,_,rfl⟩:=a;exact KZ _ _
 omega
theorem K0(h w f):deep (jy h w f)<=3:=by
 unfold jy;simp only[deep];have:n7 [D.int h,D.int w,D.tup (zF h w f)]<=2:=yr λd a=>by
  simp at a;rcases a with rfl | rfl | rfl
  ·exact BB _
  ·exact BB _
  ·exact cj _ _ _
 omega
theorem Js : ∀{l:List D},(∀d∈l,h9 d=dk)->n3 l=dk
 | [],_=>rfl
 | d::ds,h=>by simp only[n3,h d Ar,Js λe a=>h e<|Ax _ a,Bool.and_self]
theorem dA(h:deep d<=n)(z:n<=20)(C:h9 d=dk):l9 d=dk:=by unfold l9;rw[C,Bool.and_true];exact decide_eq_true<|Bq h z
theorem VW(n f):h9 (.tup<|zz n f)=dk:=by
 simp only[h9];exact Js λd a=>by simp[zz]at a;obtain⟨i,_,rfl⟩:=a;rfl
theorem fR(h w f):h9 (.tup<|zF h w f)=dk:=by
 simp only[h9];exact Js λd a=>by simp[zF]at a;obtain⟨i,_,rfl⟩:=a;exact VW _ _
theorem fQ(h w f):h9 (jy h w f)=dk:=by unfold jy;simp only[h9,n3];have:=fR h w f;simp only[h9]at this;rw[this];rfl
theorem fT(h w f):l9 (jy h w f)=dk:=dA (K0 h w f) ⋯<|fQ h w f
theorem cp(h:l9 d=dk):hI d d=di (.bl dk):=by unfold hI;rw[GY ⟨h,h⟩,G9]
theorem sM(a b c:D):wx [a,b,c] dn (di 2)=[a,b]:=by simp[wx,JI]
def f9(b:Bool):Nat:=if b then 108 else 114
def qm(c:Nat):Str:=⟨#[c]⟩
theorem ZD : ∀(l:List Nat),(Fy "" (l.map qm)).cps.toList=l
 | []=>rfl
 | [c]=>rfl
 | c::d::l=>by
  have z:=ZD (d::l);show((qm c++("" : Str))++Fy "" ((d::l).map qm)).cps.toList=_;have e : ∀a b:Str,(a++b).cps.toList=a.cps.toList++b.cps.toList:=λa b=>by show(a.cps++b.cps).toList=_;simp
  rw[e,e,z];rfl
noncomputable def xf(m:Nat)(w:GX):Str:=Fy "" ((Ad m).map λk=>qm (f9 (w k)))
theorem qJ(m w):(xf m w).cps.toList=(Ad m).map λk=>f9 (w k):=by have:=ZD<|(Ad m).map λk=>f9<|w k;rw[BP]at this;exact this
theorem Kk(m w):(xf m w).length=m:=by show(xf m w).cps.size=m;rw[<- Ef,qJ];simp
theorem kB{m:Nat}(w)(d:m<=1000):z9 (xf m w)=dk:=decide_eq_true (by rw[Kk];exact d)
theorem Ko{C:Type}(g:C->Str) : ∀l:List C,J2 (l.map λx=>D.str<|g x)=di (l.map g)
 | []=>rfl
 | a::l=>by simp[J2,Ko g l]
noncomputable def e7(w:GX)(wd:GZ)(k:Nat):Nat:=if w k then wd k else wd (k+1)
noncomputable def fh(w:GX)(wd:GZ)(k:Nat):Nat:=if w k then wd (k+1)else wd k
noncomputable def kn(w:GX)(wd:GZ)(T:GV)(k:Nat):D:= .tup [.str (qm<|f9<|w k),jy (e7 w wd k) (fh w wd k) (T k)]
noncomputable def jn(m:Nat)(w:GX)(wd:GZ)(T:GV):List D:=(Ad m).map (kn w wd T)
noncomputable def jS(p:Int)(m:Nat)(w:GX)(wd:GZ)(T:GV):D:= .tup [.int p,.tup<|zz (m+1) λk=>(wd k:Int),.tup (jn m w wd T)]
@[simp] theorem WW(m w wd T):(jn m w wd T).length=m:=by simp[jn]
theorem Vj{m k:Nat}(w)(d:m<=1000)(C:k<m)(γ:Ctx)(f g:CO D)(z:f γ=di (.str<|xf m w))(I:g γ=di (.int k)):qv f g γ=di (.str<|qm<|f9<|w k):=by rw[JO,z,I];simp only[Af,xW];rw[GY (kB w d),qJ];simp[C,qm]
theorem dz(b:Bool):l9 (.str<|qm<|f9 b)=dk:=by cases b<;>decide +kernel
theorem Wq(b:Bool):hI (.str (qm (f9 b))) (.str "r")=di (.bl (!b)):=by
 have e : ∀b:Bool,(qm (f9 b)==(BN "r")) = !b:=by decide +kernel
 have d:l9 (.str (BN "r"))=dk:=by decide +kernel
 unfold hI;rw[GY ⟨dz b,d⟩];show di (D.bl (qm (f9 b)==BN "r"))=_;rw[e]
theorem oy:BN "r" = qm (f9 dt):=by decide +kernel
theorem oz:BN "l" = qm (f9 dk):=by decide +kernel
theorem w9(b:Bool):xX [.str (qm<|f9 b)]=di (.val<|.str<|qm<|f9 !b):=by have a:=oy;have d:=oz;have q:=Wq b;rw[a]at q;cases b<;>simp[xX,jh,jD,a,d]at q ⊢ <;> simp[q]
theorem fS(w wd T k):h9 (kn w wd T k)=dk:=by have a:=fT (e7 w wd k) (fh w wd k)<|T k;have b:=dz<|w k;simp only[l9,As]at a b;show(h9 _ && (h9 _ && dk))=dk;rw[a.2,b.2];rfl
theorem ck(w wd T k):deep (kn w wd T k)<=4:=by have:=K0 (e7 w wd k) (fh w wd k)<|T k;simp[kn,deep,n7];omega
theorem fU(p m w wd T):l9 (jS p m w wd T)=dk:=by
 have e:n7 (jn m w wd T)<=4:=yr λd a=>by obtain⟨k,_,rfl⟩:=Cm.mp a;exact ck w wd T k
 have b:n3 (jn m w wd T)=dk:=Js λd a=>by obtain⟨k,_,rfl⟩:=Cm.mp a;exact fS w wd T k
 have I:=KZ (m+1) λk=>(wd k:Int);have z:=VW (m+1) λk=>(wd k:Int);refine dA (n:=10) ?_ ⋯ ?_
 ·simp only[jS,deep,n7]at I ⊢
  omega
 ·simp only[jS,h9,n3]at z ⊢
  simp[b,z]
section
variable{p:Int}
noncomputable def ji(h w:Nat)(f:GK):List D:=(Ad h).map λi=>D.lst<|zz w<|f i
@[simp] theorem mL(h w f):(ji h w f).length=h:=by simp[ji]
end
theorem zQ : ∀{n:Nat},(∀k,k<n->f k=g k)->zu f n=zu g n
 | 0,_=>rfl
 | n+1,h=>by simp only[zu];rw[zQ (n:=n) λk a=>h k ⋯,h n ⋯]
theorem zW(n:Nat):zu (λ_=>0) n=0:=by
 induction n with
 | zero=>rfl
 | succ n d=>simp[zu,d]
theorem jK(C:i<n)(h : ∀k,k<n->k≠i->f k=0):zu f n=f i:=by
 induction n with
 | zero=>omega
 | succ n d=>
  simp only[zu];by_cases e:i=n
  ·subst e
   rw[zQ (g:=λ_=>0) (λk a=>h k ⋯ ⋯),zW];omega
  ·rw[d ⋯ λk a=>h k ⋯,h n ⋯ ⋯]
   omega
theorem qc(f g:Nat->Int)(n:Nat):zu (λk=>f k+g k) n=zu f n+zu g n:=by
 induction n with
 | zero=>rfl
 | succ n d=>simp only[zu,d];omega
theorem kD(f:Nat->Int)(c:Int)(n:Nat):zu (λk=>f k*c) n=zu f n*c:=by
 induction n with
 | zero=>simp[zu]
 | succ n d=>simp only[zu,d,Int.add_mul]
theorem qK(f:Nat->Int)(c:Int)(n:Nat):zu (λk=>c*f k) n=c*zu f n:=by
 induction n with
 | zero=>simp[zu]
 | succ n d=>simp only[zu,d,EY]
theorem kC(f:GK)(n m:Nat):zu (λi=>zu (λj=>f i j) m) n=zu (λj=>zu (λi=>f i j) n) m:=by
 induction n with
 | zero=>simp[zu,zW]
 | succ n d=>simp only[zu];rw[d,<- qc]
theorem jx : ∀{n:Nat},(∀k,k<n->f k%p=g k%p)->zu f n%p=zu g n%p
 | 0,_=>rfl
 | n+1,h=>by simp only[zu];rw[Bx,jx (n:=n)<|λk a=>h k ⋯,h n ⋯,<- Bx]
theorem QR(p x y:Int):(x%p*y)%p=(x*y)%p:=by rw[AJ,BE,<- AJ]
theorem vU(p x y:Int):(x*(y%p))%p=(x*y)%p:=by rw[AJ,BE,<- AJ]
abbrev Vc:=Nat->Int
def Pr(p:Int):Prop:=p=2\/p=3\/p=5\/p=7
theorem Pr.pos(h:Pr p):0<p:=by unfold Pr at h;omega
theorem Pr.two(h:Pr p):2<=p:=by unfold Pr at h;omega
theorem Pr.le(h:Pr p):p<=7:=by unfold Pr at h;omega
theorem Pr.one(h:Pr p):(1:Int)%p=1:=AK ⋯ (by have:=h.two;omega)
inductive Span(p:Int)(n:Nat)(G:Vc->Prop):Vc->Prop where
 | zero {v:Vc}:(∀i,i<n->v i%p=0)->Span p n G v
 | step {v w g:Vc} {c:Int}:G g->Span p n G w->(∀i,i<n->v i%p=(w i+c*g i)%p)->Span p n G v
section
variable{p:Int}{n:Nat}{G G':Vc->Prop}
theorem Span.congr(h:Span p n G v)(e : ∀i,i<n->v' i%p=v i%p):Span p n G v':=by
 cases h with
 | zero h=>exact .zero λi a=>by rw[e i a,h i a]
 | step d b h=>exact .step d b λi a=>by rw[e i a,h i a]
theorem Span.gen(h:G g):Span p n G g:= .step (c:=1) h (.zero (v:=λ_=>0) λi _=>by simp) λi _=>by simp
theorem Span.add(z:Span p n G v)(C:Span p n G w) : ∀c:Int,Span p n G λi=>w i+c*v i:=by
 induction z with
 | zero h=>
  intro c;refine C.congr λi a=>?_;rw[Bx,AJ,h i a];simp
 | @step v b g d I Q h O=>
  intro c;refine .step (c:=c*d) I (O c) λi a=>?_;have e:(c*v i)%p=(c*(b i+d*g i))%p:=by rw[AJ,h i a,<- AJ]
  rw[Bx,e,<- Bx];congr 1;rw[EY,<- ED,Int.add_assoc]
theorem Span.smul(d:Span p n G v)(c:Int):Span p n G λi=>c*v i:=
 (d.add (w:=λ_=>0) (.zero λi _=>by simp) c).congr λi _=>by simp
theorem Span.le(h:Span p n G v)(d : ∀g,G g->Span p n G' g):Span p n G' v:=by
 induction h with
 | zero h=>exact .zero h
 | step z a h I=>exact((d _ z).add I _).congr h
end
structure h6(p:Int)(n r:Nat)(B:Nat->Vc)(l:GZ):Prop where
 lt : ∀k,k<r->l k<n
 mono : ∀k m,k<m->m<r->l k<l m
 one : ∀k,k<r->B k (l k)=1
 m9 : ∀k j,k<r->j<l k->B k j=0
 n4 : ∀k m,k<r->m<r->m≠k->B k (l m)=0
 l7 : ∀k i,k<r->i<n->0<=B k i/\B k i<p
def fy(r:Nat)(B:Nat->Vc):Vc->Prop:=λv=>∃k,k<r/\v=B k
section
variable{p:Int}{n r r':Nat}{B B':Nat->Vc}{l l':GZ}
theorem gP(d:h6 p n r B l)(h:Span p n (fy r B) v) : ∀i,i<n->v i%p=zu (λk=>v (l k)*B k i) r%p:=by
 induction h with
 | @zero v h=>
  intro i b;rw[h i b];have:zu (λk=>v (l k)*B k i) r%p=zu (λ_=>0) r%p:=jx λk a=>by rw[AJ,h _ (d.lt k a)];simp
  rw[this,zW];rfl
 | @step v w g c I f h O=>
  intro i b;obtain⟨m,z,rfl⟩:=I;rw[h i b];have e:zu (λk=>v (l k)*B k i) r%p=zu (λk=>w (l k)*B k i+c*B m (l k)*B k i) r%p:=jx λk a=>by rw[AJ,h _<|d.lt k a,<- AJ,Int.add_mul]
  have Q:zu (λk=>c*B m (l k)*B k i) r=c*B m i:=by rw[jK (i:=m) z λk a R=>by rw[d.n4 m k z a R];simp,d.one m z];simp
  rw[e,qc,Q,Bx,O i b,<- Bx]
theorem XR(d:h6 p n r B l)(h:Span p n (fy r B) v)(z:j<n)(C:v j%p≠0)(hz : ∀i,i<j->v i%p=0) : ∃k,k<r/\l k=j:=by
 apply BU;intro I;apply C;rw[gP d h j z];have:zu (λk=>v (l k)*B k j) r%p=zu (λ_=>0) r%p:=jx λk a=>by
  have O:l k≠j:=λe=>I ⟨k,a,e⟩;rcases AW (l k) j with q | q
  ·rw[AJ,hz _ q];simp
  ·rw[d.m9 k j a ⋯];simp
 rw[this,zW];rfl
theorem KO(I : ∀k m,k<m->m<r->l k<l m)(O : ∀k m,k<m->m<r'->l' k<l' m)(C : ∀k,k<r->∃m,m<r'/\l' m=l k)(H : ∀k,k<r'->∃m,m<r/\l m=l' k) :
 ∀k,k<r->k<r'/\l k=l' k:=by
 intro k
 induction k using Nat.strongRecOn with
 | ind k Q=>
  intro a;obtain⟨m,R,U⟩:=C k a;have b:k<=m:=by
   rcases AW m k with q | q
   ·have:=(Q m q ⋯).2
    have:=I m k q a;omega
   ·exact q
  have d:k<r':=by omega
  refine⟨d,?_⟩;obtain⟨q,Y,eq⟩:=H k d;have e:k<=q:=by
   rcases AW q k with z | z
   ·have:=(Q q z ⋯).2
    have:=O q k z d;omega
   ·exact z
  rcases AW k m with z | z
  ·have f:=O k m z R
   have g:l k<=l q:=by
    rcases AW k q with y | y
    ·exact EL<|I k q y Y
    ·have:k=q:=by omega
     subst this;exact Al _
   omega
  ·have:m=k:=by omega
   subst this;exact U.symm
theorem wD(R:Pr p)(d:h6 p n r B l)(z:h6 p n r' B' l')(C : ∀v,Span p n (fy r B) v->Span p n (fy r' B') v)(H : ∀v,Span p n (fy r' B') v->Span p n (fy r B) v) :
 r=r'/\(∀k,k<r->l k=l' k)/\∀k i,k<r->i<n->B k i=B' k i:=by
 have one:=R.one;have f : ∀k,k<r->∃m,m<r'/\l' m=l k:=λk a=>XR z (C _<|.gen ⟨k,a,rfl⟩) (d.lt k a) (by rw[d.one k a,one];decide) λi b=>by rw[d.m9 k i a b];simp
 have g : ∀k,k<r'->∃m,m<r/\l m=l' k:=λk a=>XR d (H _<|.gen ⟨k,a,rfl⟩) (z.lt k a) (by rw[z.one k a,one];decide) λi b=>by rw[z.m9 k i a b];simp
 have e:=KO d.mono z.mono f g;have U:=KO z.mono d.mono g f;have Y:r=r':=by
  rcases Cs r r' with q | q | q
  ·exact absurd (U r q).1 (Bn _)
  ·exact q
  ·exact absurd (e r' q).1 (Bn _)
 subst Y;refine⟨rfl,λk a=>(e k a).2,λk i a b=>?_⟩;have c:=gP z (C _<|.gen ⟨k,a,rfl⟩) i b;rw[jK (i:=k) a λm I h=>by rw[<- (e m I).2,d.n4 k m a I h];simp,<- (e k a).2,d.one k a,Int.one_mul]at c;have O:=d.l7 k i a b;have Q:=z.l7 k i a b;rw[AK O.1 O.2,AK Q.1 Q.2]at c;exact c
end
theorem jm(q:α->Bool)(r:α->D) : ∀(l:List α),(∀x∈l,∃d,jY T (g x) γ=di d/\k d=di (q x)/\(q x=dk->f d=di (r x)))->
 zL T k f γ (l.map g)=di ((l.filter q).map r)
 | [],_=>rfl
 | x::l,h=>by
  obtain⟨d,a,b,I⟩:=h x Ar;have z:=jm q r l λy O=>h y<|Ax _ O;simp only[Ap,zL,a,b,Af];cases e:q x with
  | true=>simp[I e,z,e]
  | false=>simp[z,e]
theorem mD(d:Pr p)(C:0<x)(H:x<p) : ∃y:Nat,1<=y/\(y:Int)<p/\(y:Int)*x%p=1:=by
 rcases d with rfl | rfl | rfl | rfl
 ·obtain rfl:x=1:=by omega
  exact⟨1,by decide,by decide,by decide⟩
 ·rcases (show x=1\/x=2 by omega)with rfl | rfl
  ·exact⟨1,by decide,by decide,by decide⟩
  ·exact⟨2,by decide,by decide,by decide⟩
 ·rcases (show x=1\/x=2\/x=3\/x=4 by omega)with rfl | rfl | rfl | rfl
  ·exact⟨1,by decide,by decide,by decide⟩
  ·exact⟨3,by decide,by decide,by decide⟩
  ·exact⟨2,by decide,by decide,by decide⟩
  ·exact⟨4,by decide,by decide,by decide⟩
 ·rcases (show x=1\/x=2\/x=3\/x=4\/x=5\/x=6 by omega)with rfl | rfl | rfl | rfl | rfl | rfl
  ·exact⟨1,by decide,by decide,by decide⟩
  ·exact⟨4,by decide,by decide,by decide⟩
  ·exact⟨5,by decide,by decide,by decide⟩
  ·exact⟨2,by decide,by decide,by decide⟩
  ·exact⟨3,by decide,by decide,by decide⟩
  ·exact⟨6,by decide,by decide,by decide⟩
theorem Xe{q:GX}{n a:Nat}{q9:List Nat}(h:(Ad n).filter q=a::q9):a<n/\q a=dk/\∀i,i<a->q i=dt:=by
 have d:a∈(Ad n).filter q:=by rw[h];exact Ar
 refine⟨Ah.mp (AL.mp d).1,(AL.mp d).2,λi b=>?_⟩;apply BU;intro z;have I:q i=dk:=by simpa using z
 have O:i∈a::q9:=by rw[<- h];exact AL.mpr ⟨Ah.mpr (by have:=Ah.mp (AL.mp d).1;omega),I⟩
 have Q:(a::q9).Pairwise (· < ·):=by rw[<- h];exact List.Pairwise.filter _ List.pairwise_lt_range
 rcases Ao.mp O with e | e
 ·omega
 ·have:=(List.pairwise_cons.mp Q).1 i e;omega
theorem VZ(h:(Ad n).filter q=[]) : ∀i,i<n->q i=dt:=λi a=>by apply BU;intro d;have:i∈(Ad n).filter q:=AL.mpr ⟨Ah.mpr a,by simpa using d⟩;rw[h]at this;simp at this
theorem yY(d:Pr p)(C:0<x)(H:x<p) : ∃y,yB [.int p,.int x]=di (.val<|.int y)/\1<=y/\y<p/\x*y%p=1:=by
 rcases d with rfl | rfl | rfl | rfl
 ·have:x=1:=by omega
  subst this;exact⟨1,rfl,by decide,by decide,by decide⟩
 ·have:x=1\/x=2:=by omega
  rcases this with rfl | rfl
  ·exact⟨1,rfl,by decide,by decide,by decide⟩
  ·exact⟨2,rfl,by decide,by decide,by decide⟩
 ·have:x=1\/x=2\/x=3\/x=4:=by omega
  rcases this with rfl | rfl | rfl | rfl
  ·exact⟨1,rfl,by decide,by decide,by decide⟩
  ·exact⟨3,rfl,by decide,by decide,by decide⟩
  ·exact⟨2,rfl,by decide,by decide,by decide⟩
  ·exact⟨4,rfl,by decide,by decide,by decide⟩
 ·have:x=1\/x=2\/x=3\/x=4\/x=5\/x=6:=by omega
  rcases this with rfl | rfl | rfl | rfl | rfl | rfl
  ·exact⟨1,rfl,by decide,by decide,by decide⟩
  ·exact⟨4,rfl,by decide,by decide,by decide⟩
  ·exact⟨5,rfl,by decide,by decide,by decide⟩
  ·exact⟨2,rfl,by decide,by decide,by decide⟩
  ·exact⟨3,rfl,by decide,by decide,by decide⟩
  ·exact⟨6,rfl,by decide,by decide,by decide⟩
theorem kx(z:Pr p)(I:n<=lim)(d:t<n)(w P:Nat->Int)(C : ∀i,i<n->0<=w i/\w i<p) :
 jE [.int p,.tup<|zz n w,.tup<|zz n P,.int t]=di (.val<|.tup<|zz n λi=>(w i - w t*P i)%p):=by
 have Q:=C t d;have R:=z.le;have O : ∀x,wI (w t) x=dk:=λx=>kS _ _ ⋯ ⋯;by_cases b:w t=0
 ·simp[jE,jh,jD,ju,d,b]
  apply xk;intro i a;rw[AK (C i a).1 (C i a).2]
 ·simp[jE,jh,jD,ju,d,b,ZT,I,je,qX,Ag]
  rw[zr (r:=λi=>D.int<|w i - w t*P i)]
  ·rw[<- zA]
   simp[Xu _ z.pos I]
  ·intro i a
   refine zv rfl rfl ?_;simp[O]
theorem XJ{l:GZ}{r t:Nat}(d : ∀k m,k<m->m<r->l k<l m)(z : ∀k,k<r->l k<t):r<=t:=by
 have I : ∀k,k<r->k<=l k:=by
  intro k
  induction k with
  | zero=>intro _;exact BB _
  | succ k O=>
   intro e;have a:=O ⋯;have b:=d k (k+1) ⋯ e;omega
 cases r with
 | zero=>exact BB _
 | succ r=>
  have a:=I r ⋯;have b:=z r ⋯;omega
noncomputable def vo:=(zD (jq 6<|jF<|zE (zB<|zf 3) (.nm 0) 1 [5] (sB<|zy l6 (dv (zf 0)<|zd 1)<|zt<|.int 0) (zd 0))<|zD (js (xF<|eO<|zf 6) eR q8)<|zD (jq 7<|zG yB<|zc (zd 0)<|zc (dv (zq<|dv (zf 6)<|zt<|.int 0)<|zd 5) zJ)<|zD (jq 8<|zG qZ<|zc (zd 0)<|zc (jF<|zE (zB<|zq<|dv (zf 6)<|zt<|.int 0) (.nm 0) 1 [7] z7 (zy k9 (zd 1)<|zd 0)) zJ)<|zD (jq 3<|jF<|zE (zB<|zf 3) (.nm 0) 1 [0,5,8] z7 (zG jE<|zc (zd 1)<|zc (zd 0)<|zc (zd 3)<|zc (zd 2) zJ))<|xA 4<|wQ (zX<|zE (zB<|zf 4) (.nm 0) 1 [0,5,8] z7 (zG jE<|zc (zd 1)<|zc (zd 0)<|zc (zd 3)<|zc (zd 2) zJ))<|zX<|ql<|zc (zd 8) zJ)
noncomputable def Un(r:Nat)(B:Nat->Vc)(m:Nat)(W:Nat->Vc):Vc->Prop:=λv=>fy r B v\/fy m W v
structure sh(p:Int)(n m:Nat)(W:Nat->Vc)(t r:Nat)(B:Nat->Vc)(l:GZ)(Wt:Nat->Vc):Prop where
 l7 : ∀j i,j<m->i<n->0<=Wt j i/\Wt j i<p
 A6 : ∀j i,j<m->i<t->Wt j i=0
 o4:h6 p n r B l
 lt : ∀k,k<r->l k<t
 span : ∀v,Span p n (Un r B m Wt) v↔Span p n (fy m W) v
section
variable{p:Int}{n m:Nat}{W:Nat->Vc}{t r:Nat}{B:Nat->Vc}{l:GZ}{Wt:Nat->Vc}
theorem sh.skip(h:sh p n m W t r B l Wt)(hz : ∀j,j<m->Wt j t=0):sh p n m W (t+1) r B l Wt:=
 ⟨h.l7,λj i d b=>by
  rcases AW i t with q | q
  ·exact h.A6 j i d q
  ·have:i=t:=by omega
   subst this;exact hz j d,h.o4,λk a=>Bl<|h.lt k a,h.span⟩
def hB(p:Int)(P:Vc)(t:Nat)(w:Vc):Vc:=λi=>(w i - w t*P i)%p
noncomputable def QP(p:Int)(P:Vc)(t r:Nat)(B:Nat->Vc):Nat->Vc:=λk=>if k<r then hB p P t (B k)else P
def br(t r:Nat)(l:GZ):Nat->Nat:=λk=>if k<r then l k else t
theorem vn(d:Span p n G P)(C:Span p n G w):Span p n G (hB p P t w):=
 (d.add C (-(w t))).congr λi _=>by unfold hB;rw[BE];congr 1;rw[Int.neg_mul];omega
theorem Kl(d:Span p n G P)(C:Span p n G (hB p P t w)):Span p n G w:=
 (d.add C<|w t).congr λi _=>by unfold hB;rw[Bx,BE,<- Bx];congr 1;omega
theorem sh.next(U:Pr p)(h:sh p n m W t r B l Wt)(H:t<n)(C:j0<m)(Z:Wt j0 t*y%p=1)(O : ∀i,i<n->P i=y*Wt j0 i%p) :
 sh p n m W (t+1) (r+1) (QP p P t r B) (br t r l) (λj=>hB p P t<|Wt j):=by
 have J:=U.pos;have one:=U.one;have x:P t=1:=by rw[O t H,Cp];exact Z
 have Y : ∀i,i<t->P i=0:=λi b=>by rw[O i ⋯,h.A6 j0 i C b];simp
 have K : ∀i,i<n->0<=P i/\P i<p:=λi b=>by rw[O i b];exact⟨AU _ ⋯,AF _ J⟩
 have E : ∀(w:Vc) i,0<=hB p P t w i/\hB p P t w i<p:=λw i=>⟨AU _ ⋯,AF _ J⟩;have Q : ∀(w:Vc) i,i<t->0<=w i->w i<p->hB p P t w i=w i:=λw i b N S=>by unfold hB;rw[Y i b,Int.mul_zero,Eo];exact AK N S
 have F : ∀w:Vc,hB p P t w t=0:=λw=>by unfold hB;rw[x,EX,Int.sub_self];simp
 refine⟨λj i d b=>E _ _,λj i d b=>?_,⟨λk a=>?_,λk q L T=>?_,λk a=>?_,λk j a d=>?_,λk q a T M=>?_,λk i a b=>?_⟩,λk a=>?_,λv=>?_⟩
 ·rcases AW i t with q | q
  ·have e:=h.A6 j i d q
   rw[Q _ i q ⋯ ⋯];exact e
  ·have:i=t:=by omega
   subst this;exact F _
 ·unfold br;split
  ·rename_i q;exact h.o4.lt k q
  ·exact H
 ·unfold br
  have a:k<r:=by omega
  rw[GY a];split
  ·rename_i z;exact h.o4.mono k q L z
  ·exact h.lt k a
 ·unfold br QP;split
  ·rename_i q
   have e:=h.o4.one k q;have R:=h.lt k q;rw[Q _ _ R ⋯ (by have:=U.two;omega)];exact e
  ·exact x
 ·unfold QP;unfold br at d;split at d
  ·rename_i q
   have e:=h.o4.m9 k j q d;have R:=h.lt k q;rw[GY q,Q _ _ ⋯ ⋯ ⋯];exact e
  ·rename_i q
   rw[MQ q];exact Y j d
 ·unfold QP br
  by_cases u:k<r
  ·rw[GY u]
   by_cases I:q<r
   ·rw[GY I]
    have e:=h.o4.n4 k q u I M;have R:=h.lt q I;rw[Q _ _ R ⋯ ⋯];exact e
   ·rw[MQ I];exact F _
  ·rw[MQ u]
   have I:q<r:=by omega
   rw[GY I];exact Y _<|h.lt q I
 ·unfold QP;split
  ·exact E _ _
  ·exact K i b
 ·unfold br;split
  ·rename_i q;exact Bl<|h.lt k q
  ·exact BH _
 ·rw[<- h.span v]
  have f:Span p n (Un r B m Wt) P:=((Span.gen (p:=p) (n:=n) (G:=Un r B m Wt) (g:=Wt j0)<|.inr ⟨j0,C,rfl⟩).smul y).congr λi b=>by rw[O i b,BE]
  have A:Span p n (Un (r+1) (QP p P t r B) m λj=>hB p P t<|Wt j) P:= .gen (.inl ⟨r,BH r,by unfold QP;rw[MQ (Bn r)]⟩);constructor
  ·refine λs=>s.le λg o=>?_
   rcases o with⟨k,a,rfl⟩ | ⟨j,d,rfl⟩
   ·unfold QP;split
    ·rename_i q;exact vn f<|.gen<|.inl ⟨k,q,rfl⟩
    ·exact f
   ·exact vn f<|.gen<|.inr ⟨j,d,rfl⟩
  ·refine λs=>s.le λg o=>?_
   rcases o with⟨k,a,rfl⟩ | ⟨j,d,rfl⟩
   ·refine Kl (t:=t) A (.gen<|.inl ⟨k,Bl a,?_⟩)
    unfold QP;rw[GY a]
   ·exact Kl (t:=t) A<|.gen<|.inr ⟨j,d,rfl⟩
theorem sh.done(h:sh p n m W n r B l Wt)(v:Vc):Span p n (fy r B) v↔Span p n (fy m W) v:=by
 rw[<- h.span v];constructor
 ·exact λz=>z.le λg d=> .gen (.inl d)
 ·refine λz=>z.le λg d=>?_
  rcases d with d | ⟨j,I,rfl⟩
  ·exact .gen d
  ·exact .zero λi a=>by rw[h.A6 j i I a];simp
theorem WC(d:True)(P:Vc):zF (r+1) n (QP p P t r B)=zF r n (λk=>hB p P t<|B k)++[.tup (zz n P)]:=by
 unfold zF;rw[BA,AR];congr 1
 ·apply AE
  intro k a;have:=Ah.mp a;simp[QP,this]
 ·simp[QP]
end
theorem yZ{p:Int}(R:Pr p){n m:Nat}(hn:n<=100)(C:m<=lim)(kk:Sk)(W:Nat->Vc) :
 ∃r B l,ky [.int p,.int n,u3 kk (zF m n W)]=di (.own<|zF r n B)/\h6 p n r B l/\∀v,Span p n (fy r B) v↔Span p n (fy m W) v:=by
 have hl:=jb;have U:n<=lim:=by omega
 have A:=R.pos;have L:=wq (T:= .nm 5) (F:=vo)
  (λt K=>∃r B l Wt h o e f,K=[.val (.int p),.val<|.int n,.val<|u3 kk<|zF m n W,.val<|.lst<|zF m n Wt,.own<|zF r n B,h,o,e,f]/\sh p n m W t r B l Wt)
  ((Ad n).map λ(i:Nat)=>D.int i) 0 [.val (.int p),.val<|.int n,.val<|u3 kk<|zF m n W,.val<|.lst<|zF m n λj i=>W j i%p,.own [],.no,.no,.no,.no]
  ⟨0,λ_ _=>0,λ_=>0,λj i=>W j i%p,.no,.no,.no,.no,rfl,λj i _ _=>⟨AU _ ⋯,AF _ A⟩,λj i _ b=>absurd b<|An _,
   ⟨λk a=>absurd a<|An _,λk q _ a=>absurd a<|An _,λk a=>absurd a<|An _,λk j a=>absurd a<|An _,λk q a=>absurd a<|An _,λk i a=>absurd a<|An _⟩,
   λk a=>absurd a<|An _,λv=>⟨λw=>w.le λg u=>by
    rcases u with⟨k,a,_⟩ | ⟨j,O,rfl⟩
    ·exact absurd a<|An _
    ·exact(Span.gen (p:=p) (n:=n) (G:=fy m W) (g:=W j) ⟨j,O,rfl⟩).congr λi _=>BE _ _,λw=>w.le λg u=>by
    obtain⟨j,O,rfl⟩:=u;exact(Span.gen (p:=p) (n:=n) (G:=Un 0 (λ_ _=>0) m λj i=>W j i%p) (g:=λi=>W j i%p)<|.inr ⟨j,O,rfl⟩).congr λi _=>(BE _ _).symm⟩⟩ (by
   rintro t d K s ⟨r,B,l,Wt,h,o,e,f,rfl,I⟩;rw[BG]at I ⊢;have Q:t<n:=by have:=(Az.mp s).1;simpa using this
   have M:d = .int t:=by simp[Q]at s;exact s.symm
   subst M;have Y:zL (.nm 0) (sB<|zy l6 (dv (zf 0)<|zd 1)<|zt<|.int 0) (zd 0) [Cell.no,Cell.val (.int t)] (zF m n Wt)=di (((Ad m).filter λj=> !decide (Wt j t=0)).map λj=>D.tup<|zz n<|Wt j):=by unfold zF;refine jm _ _ _ λj O=>⟨_,rfl,?_,λ_=>rfl⟩;simp[Q]
   have hr:r<=t:=XJ I.o4.mono I.lt;have N:r<=lim:=by omega
   cases hf:(Ad m).filter λj=> !decide (Wt j t=0)with
   | nil=>
    have hz : ∀j,j<m->Wt j t=0:=λj O=>by apply BU;intro E;have:j∈(Ad m).filter λj=> !decide (Wt j t=0):=AL.mpr ⟨Ah.mpr O,by simp[E]⟩;rw[hf]at this;simp at this
    rw[hf]at Y;refine⟨_,.inr ?_,r,B,l,Wt,.val<|.int t,.val<|.lst [],e,f,rfl,I.skip hz⟩;simp only[xQ,Af,Be,Bd,vo];rw[ju];simp[ju,je,qX,Ag,Y,C]
   | cons z q9=>
    have H:z∈(Ad m).filter λj=> !decide (Wt j t=0):=by rw[hf];exact Ar
    have J:z<m:=Ah.mp (AL.mp H).1;have E:Wt z t≠0:=by simpa using (AL.mp H).2
    have S:=I.l7 z t J Q;obtain⟨y,ey,y1,y2,yy⟩:=yY R (x:=Wt z t) ⋯ S.2;rw[hf]at Y;have nx:=I.next R Q J yy (P:=λi=>y*Wt z i%p) λi _=>rfl;refine⟨_,.inl ?_,r+1,QP p (λi=>y*Wt z i%p) t r B,br t r l,λj=>hB p (λi=>y*Wt z i%p) t<|Wt j,.val<|.int t,.val<|.lst<|(z::q9).map λj=>D.tup<|zz n<|Wt j,.val<|.int y,.val<|.tup<|zz n λi=>y*Wt z i%p,rfl,nx⟩;have b9:=R.le;have cy : ∀x,wI y x=dk:=λx=>kS _ _ ⋯ ⋯;have X:zL (.nm 0) z7 (zy k9 (zd 1)<|zd 0) [Cell.no,Cell.val (.int y)] (zz n<|Wt z)=di (zz n λi=>y*Wt z i):=by rw[zA,zA];refine zr _ _ λi b=>zv rfl rfl ?_;simp[cy]
    have Z:zL (.nm 0) z7 (zG jE<|zc (zd 1)<|zc (zd 0)<|zc (zd 3)<|zc (zd 2) zJ) [Cell.no,Cell.val<|.int p,Cell.val<|.int t,Cell.val (.tup<|zz n λi=>y*Wt z i%p)] (zF m n Wt)=di (zF m n λj=>hB p (λi=>y*Wt z i%p) t<|Wt j):=by unfold zF;refine zr _ _ λj O=>zv rfl rfl ?_;simp[kx R U Q (Wt j) (λi=>y*Wt z i%p) λi b=>I.l7 j i (Ah.mp O) b];rfl
    have ap:zL (.nm 0) z7 (zG jE<|zc (zd 1)<|zc (zd 0)<|zc (zd 3)<|zc (zd 2) zJ) [Cell.no,Cell.val<|.int p,Cell.val<|.int t,Cell.val (.tup<|zz n λi=>y*Wt z i%p)] (zF r n B)=di (zF r n λj=>hB p (λi=>y*Wt z i%p) t<|B j):=by unfold zF;refine zr _ _ λj O=>zv rfl rfl ?_;simp[kx R U Q (B j) (λi=>y*Wt z i%p) λi b=>I.o4.l7 j i (Ah.mp O) b];rfl
    have ar:r+1<=lim:=by omega
    rw[WC trivial];simp only[xQ,Af,Be,Bd,vo];rw[ju];simp[ju,je,qX,Ag,Y,C,U,Q,ey,X,Xu _ A U,Z,ap,N,ar])
 obtain⟨γ',e1,r,B,l,Wt,h,o,e,f,rfl,I⟩:=L;simp only[Ay,Cc,BG]at I;refine⟨r,B,l,?_,I.o4,I.done⟩;have as:zL (.nm 0) z7 (zG qZ<|zc (zd 1)<|zc (zd 0) zJ) [Cell.no,Cell.val (.int p)] (zF m n W)=di (zF m n λj i=>W j i%p):=by unfold zF;refine zr _ _ λj O=>zv rfl rfl ?_;simp[ab _ A U]
 have e0:ky [.int p,.int n,u3 kk (zF m n W)]=jh 9 (zD (jq 3<|jF<|zE (zB<|zf 2) (.nm 0) 1 [0] z7 (zG qZ<|zc (zd 1)<|zc (zd 0) zJ))<|zD (xA 4<|ql zJ)<|zD (x9 (zC<|zd 1) (.nm 5) vo)<|wM 4) [.int p,.int n,u3 kk (zF m n W)]:=rfl;rw[e0];simp[jh,jD,ju,C,je,qX,Ag,as,U,zV];rw[zA n λi=>(i:Int),e1];simp
@[simp] def mV:=@oR.eq_1
noncomputable def wm{C:Type}(q:Nat)(x:C)(f:Nat->C):Nat->C:=λk=>if k<q then f k else if k=q then x else f (k - 1)
noncomputable def vc(l:GZ)(r x:Nat):Nat:=((Ad r).filter λk=>decide<|l k<x).length
theorem JJ : ∀{r:Nat},(∀k m,k<m->m<r->l k<l m)->(∀k,k<r->l k≠x)->vc l r x<=r/\(∀k,k<vc l r x->l k<x)/\∀k,vc l r x<=k->k<r->x<l k
 | 0,_,_=>⟨Al _,λk f=>absurd f (by simp[vc]),λk _ f=>absurd f<|An _⟩
 | r+1,hm,Hb=>by
  obtain⟨h,g,d⟩:=JJ (r:=r) (x:=x) (λk m a b=>hm k m a ⋯) λk f=>Hb k ⋯;have e:vc l (r+1) x=vc l r x+if l r<x then 1 else 0:=by unfold vc;rw[BA,Ci,m5];by_cases q:l r<x<;>simp[q]
  by_cases q:l r<x
  ·rw[e,GY q]
   have I:vc l r x=r:=by
    rcases AW (vc l r x) r with z | z
    ·have O:=d (vc l r x) (Al _) z
     have Q:=hm (vc l r x) r z<|BH r;omega
    ·omega
   rw[I];refine⟨Al _,λk f=>?_,λk a b=>absurd b ⋯⟩;rcases AW k r with z | z
   ·exact g k ⋯
   ·have:k=r:=by omega
    subst this;exact q
  ·rw[e,MQ q,Nat.add_zero]
   refine⟨by omega,g,λk a b=>?_⟩;rcases AW k r with z | z
   ·exact d k a z
   ·have:k=r:=by omega
    subst this;have:=Hb k b;omega
section
variable{p:Int}{n r:Nat}{B:Nat->Vc}{l:GZ}{w:Vc}
structure C5(p:Int)(n r:Nat)(B:Nat->Vc)(l:GZ)(w:Vc)(k:Nat)(R:Vc):Prop where
 l7 : ∀i,i<n->0<=R i/\R i<p
 A6 : ∀q,q<k->R (l q)=0
 eqv : ∀G,(∀k,k<r->Span p n G (B k))->(Span p n G w↔Span p n G R)
theorem C5.next(Q:Pr p)(O:h6 p n r B l)(h:C5 p n r B l w k R)(C:k<r):C5 p n r B l w (k+1) (hB p (B k) (l k) R):=by
 have U:=Q.pos;refine⟨λi _=>⟨AU _ ⋯,AF _ U⟩,λq Y=>?_,λG d=>?_⟩
 ·unfold hB
  rcases AW q k with z | z
  ·rw[h.A6 q z,O.n4 k q C ⋯ ⋯];simp
  ·have:q=k:=by omega
   subst this;rw[O.one q C];simp
 ·rw[h.eqv G d]
  exact⟨λI=>vn (d k C) I,λI=>Kl (d k C) I⟩
theorem QY(I:q<=r)(C:k<r+1):(k=q/\wm q x f k=x)\/∃d,d<r/\wm q x f k=f d/\((k<q/\d=k)\/(q<k/\d+1=k)):=by
 unfold wm;rcases Cs k q with z | z | z
 ·right;exact⟨k,by omega,by rw[GY z],.inl ⟨z,rfl⟩⟩
 ·left;subst z;exact⟨rfl,by rw[MQ (Bn _),GY rfl]⟩
 ·right;exact⟨k - 1,by omega,by rw[MQ ⋯,MQ ⋯],.inr ⟨z,by omega⟩⟩
theorem Hc:wm q x f q=x:=by unfold wm;rw[MQ (Bn _),GY rfl]
theorem gD : ∃d,(d<q/\d=k\/q<d/\d=k+1)/\wm q x f d=f k:=by
 rcases AW k q with z | z
 ·exact⟨k,.inl ⟨z,rfl⟩,by unfold wm;rw[GY z]⟩
 ·exact⟨k+1,.inr ⟨by omega,rfl⟩,by unfold wm;rw[MQ ⋯,MQ ⋯];rfl⟩
theorem gE(J:Pr p)(Q:h6 p n r B l)(Z:a<n)(C:R a=1)(hz : ∀i,i<a->R i=0)(H : ∀k,k<r->R (l k)=0)(S : ∀i,i<n->0<=R i/\R i<p) :
 h6 p n (r+1) (wm (vc l r a) R λk=>hB p R a<|B k) (wm (vc l r a) a l):=by
 have W:=J.pos;have G : ∀k,k<r->l k≠a:=λk b e=>by have:=H k b;rw[e,C]at this;omega
 obtain⟨T,X,q2⟩:=JJ Q.mono G;have M : ∀(w:Vc) i,0<=hB p R a w i/\hB p R a w i<p:=λw i=>⟨AU _ ⋯,AF _ W⟩;have K : ∀w:Vc,hB p R a w a=0:=λw=>by unfold hB;rw[C,EX,Int.sub_self];simp
 have A : ∀(w:Vc) k,k<r->0<=w (l k)->w (l k)<p->hB p R a w (l k)=w (l k):=λw k b C N=>by unfold hB;rw[H k b,Int.mul_zero,Eo];exact AK C N
 have L : ∀k j,k<r->j<l k->hB p R a (B k) j=0:=λk j b Y=>by
  unfold hB;rw[Q.m9 k j b Y];rcases AW a (l k)with z | z
  ·rw[Q.m9 k a b z];simp
  ·rw[hz j ⋯];simp
 have two:=J.two;have O : ∀k,k<r+1->(k=vc l r a/\wm (vc l r a) R (λk=>hB p R a<|B k) k=R/\wm (vc l r a) a l k=a)\/
  ∃d,d<r/\wm (vc l r a) R (λk=>hB p R a<|B k) k=hB p R a (B d)/\wm (vc l r a) a l k=l d/\((k<vc l r a/\d=k)\/(vc l r a<k/\d+1=k)):=by
  intro k b;rcases QY (x:=R) (f:=λk=>hB p R a<|B k) T b with⟨g,t⟩ | ⟨d,I,g,t⟩
  ·left;refine⟨g,t,?_⟩;subst g;exact Hc
  ·right
   refine⟨d,I,g,?_,t⟩;rcases t with⟨E,F⟩ | ⟨E,F⟩
   ·unfold wm;rw[GY E,F]
   ·unfold wm;rw[MQ ⋯,MQ ⋯];congr 1;omega
 refine⟨λk b=>?_,λk m as u=>?_,λk b=>?_,λk j b Y=>?_,λk m b u ax=>?_,λk i b P=>?_⟩
 ·rcases O k b with⟨_,_,e⟩ | ⟨d,I,_,e,_⟩
  ·rw[e];exact Z
  ·rw[e];exact Q.lt d I
 ·rcases O k ⋯with⟨z,_,e⟩ | ⟨d,I,_,e,z⟩<;>rcases O m u with⟨y,_,s⟩ | ⟨h,U,_,s,y⟩<;>rw[e,s]
  ·omega
  ·exact q2 h ⋯ U
  ·exact X d ⋯
  ·exact Q.mono d h ⋯ U
 ·rcases O k b with⟨_,g,e⟩ | ⟨d,I,g,e,_⟩<;>rw[g,e]
  ·exact C
  ·have o:=Q.one d I
   rw[A _ d I ⋯ ⋯];exact o
 ·rcases O k b with⟨_,g,e⟩ | ⟨d,I,g,e,_⟩<;>rw[g]<;>rw[e]at Y
  ·exact hz j Y
  ·exact L d j I Y
 ·rcases O k b with⟨z,g,_⟩ | ⟨d,I,g,_,z⟩<;>rcases O m u with⟨y,_,s⟩ | ⟨h,U,_,s,y⟩<;>rw[g,s]
  ·omega
  ·exact H h U
  ·exact K _
  ·have o:=Q.n4 d h I U ⋯
   rw[A _ h U ⋯ ⋯];exact o
 ·rcases O k b with⟨_,g,_⟩ | ⟨d,I,g,_,_⟩<;>rw[g]
  ·exact S i P
  ·exact M _ _
theorem gF(d:q<=r)(z:Span p n G R)(I : ∀k,k<r->Span p n G (F k)) : ∀g,fy (r+1) (wm q R F) g->Span p n G g:=by
 rintro g ⟨k,a,rfl⟩;rcases QY (x:=R) (f:=F) d a with⟨_,e⟩ | ⟨O,Q,e,_⟩<;>rw[e]
 ·exact z
 ·exact I O Q
theorem gc(z:q<=r):fy (r+1) (wm q R F) R/\∀k,k<r->fy (r+1) (wm q R F) (F k):=by refine⟨⟨q,by omega,Hc.symm⟩,λk a=>?_⟩;obtain⟨d,h,e⟩:=gD (q:=q) (x:=R) (f:=F) (k:=k);exact⟨d,by omega,e.symm⟩
theorem bI(L:Pr p)(J:h6 p n r B l)(H:a<n)(I : ∀v,Span p n (fy r B) v↔Span p n (fy j W) v)(O:C5 p n r B l (W j) r R)(C:y*R a%p=1)(Q : ∀i,i<n->R' i=y*R i%p)(U:vc l r a<=r)(v:Vc) :
 Span p n (fy (r+1)<|wm (vc l r a) R' λk=>hB p R' a<|B k) v↔Span p n (fy (j+1) W) v:=by
 have A : ∀v,Span p n (fy j W) v->Span p n (fy (j+1) W) v:=λv d=>d.le λg ⟨i,f,e⟩=> .gen ⟨i,by omega,e⟩;have Y : ∀k,k<r->Span p n (fy (j+1) W) (B k):=λk b=>A _<|(I _).mp (.gen ⟨k,b,rfl⟩);have s:Span p n (fy (j+1) W) R:=(O.eqv _ Y).mp (.gen ⟨j,by omega,rfl⟩);have h:Span p n (fy (j+1) W) R':=(s.smul y).congr λi f=>by rw[Q i f,BE]
 obtain⟨x,m2⟩:=gc (R:=R') (F:=λk=>hB p R' a<|B k) U;have m:Span p n (fy (r+1)<|wm (vc l r a) R' λk=>hB p R' a<|B k) R':= .gen x;have o : ∀k,k<r->Span p n (fy (r+1)<|wm (vc l r a) R' λk=>hB p R' a<|B k) (B k):=λk b=>Kl (t:=a) m<|.gen<|m2 k b;have u:Span p n (fy (r+1)<|wm (vc l r a) R' λk=>hB p R' a<|B k) R:=(m.smul<|R a).congr λi f=>by rw[Q i f,vU,<- ED,Cp (R a) y,AJ,C,Int.one_mul,BE]
 constructor
 ·exact λd=>d.le<|gF U h λk b=>vn h<|Y k b
 ·refine λd=>d.le ?_
  rintro g ⟨i,f,rfl⟩;rcases AW i j with z | z
  ·exact((I _).mpr (.gen ⟨i,z,rfl⟩)).le λg w=>by obtain⟨k,b,e⟩:=w;rw[e];exact o k b
  ·have:i=j:=by omega
   subst this;exact(O.eqv _ o).mpr u
theorem Vt(I : ∀v,Span p n (fy r B) v↔Span p n (fy j W) v)(O:C5 p n r B l (W j) r R)(C : ∀i,i<n->R i=0)(v:Vc):Span p n (fy r B) v↔Span p n (fy (j+1) W) v:=by
 constructor
 ·exact λd=>((I v).mp d).le λg ⟨i,a,e⟩=> .gen ⟨i,by omega,e⟩
 ·refine λd=>d.le ?_
  rintro g ⟨i,a,rfl⟩;rcases AW i j with z | z
  ·exact(I _).mpr (.gen ⟨i,z,rfl⟩)
  ·have:i=j:=by omega
   subst this;exact(O.eqv _ λk b=> .gen ⟨k,b,rfl⟩).mpr (.zero λi a=>by rw[C i a];simp)
end
theorem YR:jz=jh 9 (zD (jq 3<|jF<|zE (zB<|zf 2) (.nm 0) 1 [] z7 (jF<|xp<|zf 0))<|zD (jq 4<|jF<|ql zJ)<|zD (x9 (zC<|zd 1) (.nm 5) Xk)<|wN<|zE (zB<|zf 4) (.nm 0) 1 [] z7 (zM<|zf 0)):=rfl
@[simp] theorem ZK(h w f):(ji h w f).length=h:=by simp[ji]
theorem gk{p:Int}(d:Pr p){n:Nat}(I:n<=lim)(w P:Vc){x:Int}(U:0<=x/\x<p):zR [.int p,.lst<|zz n w,.lst<|zz n P,.int x]=di (.own<|zz n λi=>(w i - x*P i)%p):=by
 have O:=d.pos;have Y:=d.le;have Q : ∀z,wI x z=dk:=λz=>kS _ _ ⋯ ⋯;have R:zL (.tp [0,1]) z7 (zy xE (zy w5 (zd 0)<|zy k9 (zd 3)<|zd 1)<|zd 2) [Cell.no,Cell.no,Cell.val<|.int p,Cell.val (.int x)] ((Ad n).map λi=>D.tup [.int (w i),.int (P i)])=di (zz n λi=>(w i - x*P i)%p):=by rw[zA];refine zr _ _ λi a=>zv rfl rfl ?_;simp[Q,O]
 simp[zR,jh,jD,ZT,I,je,qX,Ag,R]
theorem YK{p:Int}{n t r:Nat}{B:Nat->Vc}(P:Vc):ji (r+1) n (QP p P t r B)=ji r n (λk=>hB p P t<|B k)++[.lst (zz n P)]:=by
 unfold ji;rw[BA,AR];congr 1
 ·apply AE
  intro k a;have:=Ah.mp a;simp[QP,this]
 ·simp[QP]
theorem ve{p:Int}(U:Pr p){n m:Nat}(hn:n<=100)(H:m<=lim){kk:Sk}{Y:D}{W0:List D}(sq:jf Y=di (kk,W0))(w0:W0.length=m)(W:Nat->Vc)(an:zL (.nm 0) z7 (jF<|xp<|zf 0) [Cell.no] W0=di (ji m n W))(hW : ∀j i,j<m->i<n->0<=W j i/\W j i<p) :
 ∃r B l,jz [.int p,.int n,Y]=di (.own<|zF r n B)/\h6 p n r B l/\r<=n/\∀v,Span p n (fy r B) v↔Span p n (fy m W) v:=by
 have hl:=jb;have o:n<=lim:=by omega
 have Z:=U.pos;have c4:=U.le;obtain⟨b,ar⟩:=BD (show 0<=p by omega);have G:b<=lim:=by omega
 have as:=wq (T:= .nm 5) (F:=Xk)
  (λt γ=>∃r B l Wt w A f h,γ=[.val (.int p),.val<|.int n,.val Y,.val<|.lst<|ji m n Wt,.val<|.lst<|ji r n B,w,A,f,h]/\sh p n m W t r B l Wt)
  ((Ad n).map λ(i:Nat)=>D.int i) 0 [.val (.int p),.val<|.int n,.val Y,.val<|.lst<|ji m n W,.val<|.lst [],.no,.no,.no,.no]
  ⟨0,λ_ _=>0,λ_=>0,W,.no,.no,.no,.no,rfl,hW,λj i _ S=>absurd S<|An _,
   ⟨λk a=>absurd a<|An _,λk q _ a=>absurd a<|An _,λk a=>absurd a<|An _,λk j a=>absurd a<|An _,λk q a=>absurd a<|An _,λk i a=>absurd a<|An _⟩,
   λk a=>absurd a<|An _,λv=>⟨λE=>E.le λg O=>by
    rcases O with⟨k,a,_⟩ | O
    ·exact absurd a<|An _
    ·exact .gen O,λE=>E.le λg O=> .gen (.inr O)⟩⟩ (by
   rintro t d γ C ⟨r,B,l,Wt,w,A,f,h,rfl,I⟩;rw[BG]at I ⊢;have R:t<n:=by have:=(Az.mp C).1;simpa using this
   have ax:d = .int t:=by simp[R]at C;exact C.symm
   subst ax;have e:zL (.nm 0) (sB<|zy l6 (dv (zf 0)<|zd 1)<|zt<|.int 0) (zd 0) [Cell.no,Cell.val (.int t)] (ji m n Wt)=di (((Ad m).filter λj=> !decide (Wt j t=0)).map λj=>D.lst<|zz n<|Wt j):=by unfold ji;refine jm _ _ _ λj Q=>⟨_,rfl,?_,λ_=>rfl⟩;simp[R]
   have hr:r<=t:=XJ I.o4.mono I.lt;have s:r<=lim:=by omega
   cases hf:(Ad m).filter λj=> !decide (Wt j t=0)with
   | nil=>
    have hz : ∀j,j<m->Wt j t=0:=λj Q=>by apply BU;intro J;have:j∈(Ad m).filter λj=> !decide (Wt j t=0):=AL.mpr ⟨Ah.mpr Q,by simp[J]⟩;rw[hf]at this;simp at this
    rw[hf]at e;refine⟨_,.inl ?_,r,B,l,Wt,.val<|.int t,.val<|.lst [],f,h,rfl,I.skip hz⟩;simp only[xQ,Af,Be,Bd,Xk];rw[ju];simp[ju,je,qX,Ag,e,H]
   | cons z q9=>
    have K:z∈(Ad m).filter λj=> !decide (Wt j t=0):=by rw[hf];exact Ar
    have L:z<m:=Ah.mp (AL.mp K).1;have J:Wt z t≠0:=by simpa using (AL.mp K).2
    have b0:=I.l7 z t L R;obtain⟨y',ey,y1,y2,b6⟩:=yY U (x:=Wt z t) ⋯ b0.2;have u:zL (.nm 0) (sB<|zy hI (zy xE (zy k9 (zd 0)<|dv (zq<|dv (zf 3)<|zt<|.int 0)<|zd 2)<|zd 1)<|zt<|.int 1) (zd 0) [Cell.no,Cell.val<|.int p,Cell.val<|.int t,Cell.val (.lst<|(z::q9).map λj=>D.lst<|zz n<|Wt j)] (zz b λi=>(i:Int)) =
     di (((Ad b).filter λ(x:Nat)=>decide<|(x:Int)*Wt z t%p=1).map λ(x:Nat)=>D.int x):=by
     rw[zA];refine jm _ _ _ λx X=>⟨_,rfl,?_,λ_=>rfl⟩;have X:=Ah.mp X;have cx:wI (x:Int) (Wt z t)=dk:=kS _ _ ⋯ ⋯;simp[R,cx,Z]
    cases O:(Ad b).filter λ(x:Nat)=>decide ((x:Int)*Wt z t%p=1)with
    | nil=>
     exfalso;obtain⟨yn,b9⟩:=BD (show 0<=y' by omega);have:yn∈(Ad b).filter λ(x:Nat)=>decide ((x:Int)*Wt z t%p=1):=AL.mpr ⟨Ah.mpr ⋯,by rw[<- b9,Cp];simp[b6]⟩;rw[O]at this;simp at this
    | cons y ys=>
     have M:y∈(Ad b).filter λ(x:Nat)=>decide ((x:Int)*Wt z t%p=1):=by rw[O];exact Ar
     have ce:y<b:=Ah.mp (AL.mp M).1;have yy:Wt z t*(y:Int)%p=1:=by rw[Cp];simpa using (AL.mp M).2
     rw[O]at u;rw[hf]at e;have nx:=I.next U R L yy (P:=λi=>(y:Int)*Wt z i%p) λi _=>rfl;refine⟨_,.inl ?_,r+1,QP p (λi=>(y:Int)*Wt z i%p) t r B,br t r l,λj=>hB p (λi=>(y:Int)*Wt z i%p) t<|Wt j,.val<|.int t,.val<|.lst<|(z::q9).map λj=>D.lst<|zz n<|Wt j,.val<|.int y,.val<|.lst<|zz n λi=>(y:Int)*Wt z i%p,rfl,nx⟩;have cy : ∀x,wI (y:Int) x=dk:=λx=>kS _ _ ⋯ ⋯;have be:zL (.nm 0) z7 (zy xE (zy k9 (zd 2)<|zd 0)<|zd 1) [Cell.no,Cell.val<|.int p,Cell.val (.int y)] (zz n<|Wt z)=di (zz n λi=>(y:Int)*Wt z i%p):=by rw[zA,zA];refine zr _ _ λi S=>zv rfl rfl ?_;simp[cy,Z]
     have N : ∀(k:Nat) (V:Nat->Vc),(∀j,j<k->0<=V j t/\V j t<p)->zL (.nm 0) z7 (jF<|jg zR<|zc (zd 1)<|zc (zd 0)<|zc (zd 3)<|zc (dv (zf 0)<|zd 2) zJ) [Cell.no,Cell.val<|.int p,Cell.val<|.int t,Cell.val (.lst<|zz n λi=>(y:Int)*Wt z i%p)] (ji k n V)=di (ji k n λj=>hB p (λi=>(y:Int)*Wt z i%p) t<|V j):=λk V hV=>by unfold ji;refine zr _ _ λj Q=>zv rfl rfl ?_;have:=gk U o (V j) (λi=>(y:Int)*Wt z i%p)<|hV j<|Ah.mp Q;simp[R,this];rfl
     have bl:=N m Wt λj Q=>I.l7 j t Q R;have bm:=N r B λj Q=>I.o4.l7 j t Q R;have bn:r+1<=lim:=by omega
     have lp:(0:Int)<((z::q9).map λj=>D.lst<|zz n<|Wt j).length:=by simp
     rw[YK];simp only[xQ,Af,Be,Bd,Xk];simp only[Ap]at u;have bv:inR p=dk:=by rw[ar];exact qe G
     have tn:p.toNat=b:=by omega
     simp[ju,je,qX,Ag,e,H,bv,tn,G,zV,u,o,be,bl,bm,s,bn])
 obtain⟨γ',e1,r,B,l,Wt,w,A,f,h,rfl,I⟩:=as;simp only[Ay,Cc,BG]at I;have c0:r<=n:=XJ I.o4.mono I.lt;have s:r<=lim:=by omega
 refine⟨r,B,l,?_,I.o4,c0,I.done⟩;have c1:zL (.nm 0) z7 (zM<|zf 0) [Cell.no] (ji r n B)=di (zF r n B):=by unfold zF ji;refine zr _ _ λj Q=>zv rfl rfl ?_;simp
 rw[YR];simp[jh,jD,ju,H,je,qX,Ag,an,o,zV,sq,w0];rw[zA n λi=>(i:Int),e1];simp[s,je,Ag,c1]
theorem qE{p:Int}(d:Pr p){n m:Nat}(z:n<=100)(I:m<=lim)(W:Nat->Vc)(O : ∀j i,j<m->i<n->0<=W j i/\W j i<p) :
 ∃r B l,jz [.int p,.int n,.lst (ji m n W)]=di (.own<|zF r n B)/\h6 p n r B l/\r<=n/\∀v,Span p n (fy r B) v↔Span p n (fy m W) v:=
 ve d z I (kk:= .L) (W0:=ji m n W) rfl (by simp[ji]) W (by
  unfold ji;refine zr _ _ λj Q=>zv rfl rfl ?_;simp) O
section
variable{p:Int}{n m r:Nat}{G:Vc->Prop}
theorem Span.sum{u:Nat->Vc}(c:Nat->Int) : ∀{m:Nat},(∀k,k<m->Span p n G (u k))->Span p n G λi=>zu (λk=>c k*u k i) m
 | 0,_=> .zero λi _=>by simp[zu]
 | m+1,h=>(((h m ⋯).add (Span.sum c (m:=m) λk a=>h k ⋯) (c m))).congr λi _=>by simp[zu]
noncomputable def Rk(p:Int)(n m:Nat)(W:Nat->Vc)(r:Nat):Prop:=∃B l,h6 p n r B l/\∀v,Span p n (fy r B) v↔Span p n (fy m W) v
theorem eV(O:Pr p)(h:Rk p n m W r)(h':Rk p n m W r'):r=r':=by obtain⟨B,l,Q,z⟩:=h;obtain⟨a,b,R,I⟩:=h';exact(wD O Q R (λv d=>(I v).mpr ((z v).mp d))<|λv d=>(z v).mpr ((I v).mp d)).1
theorem Ku(d:Pr p)(z:h6 p n r B l)(C : ∀i,i<n->0<=w i/\w i<p) : ∀k,k<=r->∃R,C5 p n r B l w k R
 | 0,_=>⟨w,C,λq I=>absurd I<|An _,λG _=>Iff.rfl⟩
 | k+1,h=>by obtain⟨R,O⟩:=Ku d z C k ⋯;exact⟨_,O.next d z ⋯⟩
theorem KU : ∀(n:Nat) (R:Vc),(∀i,i<n->R i=0)\/∃a,a<n/\R a≠0/\∀i,i<a->R i=0
 | 0,R=> .inl λi b=>absurd b<|An _
 | n+1,R=>by
  rcases KU n R with h | ⟨a,h1,h2,d⟩
  ·by_cases e:R n=0
   ·exact .inl λi b=>by rcases AW i n with z | z;exact h i z;rw[show i=n by omega];exact e
   ·exact .inr ⟨n,by omega,e,h⟩
  ·exact .inr ⟨a,by omega,h2,d⟩
theorem cS(d:Pr p)(W:Nat->Vc)(Q : ∀j i,0<=W j i/\W j i<p) : ∀m,∃r,r<=m/\Rk p n m W r
 | 0=>⟨0,Al _,λ_ _=>0,λ_=>0,⟨λk b=>absurd b<|An _,λk q _ b=>absurd b<|An _,λk b=>absurd b<|An _,λk j b=>absurd b<|An _,λk q b=>absurd b<|An _,λk i b=>absurd b<|An _⟩,
  λv=>⟨λO=>O.le λg ⟨k,b,_⟩=>absurd b<|An _,λO=>O.le λg ⟨k,b,_⟩=>absurd b<|An _⟩⟩
 | m+1=>by
  obtain⟨r,t,B,l,z,U⟩:=cS d W Q m;have s:=d.pos;obtain⟨R,I⟩:=Ku d z (w:=W m) (λi _=>Q m i) r<|Al _;rcases KU n R with h0 | ⟨a,ha,a1,a2⟩
  ·exact⟨r,by omega,B,l,z,Vt U I h0⟩
  ·have f:=I.l7 a ha
   obtain⟨y,_,_,Y⟩:=mD d (x:=R a) ⋯ f.2;have h : ∀k,k<r->l k≠a:=λk b e=>by have:=I.A6 k b;rw[e]at this;exact a1 this
   exact⟨r+1,by omega,_,_,gE d z (R:=λi=>(y:Int)*R i%p) ha Y (λi o=>by rw[a2 i o];simp) (λk b=>by rw[I.A6 k b];simp) λi _=>⟨AU _ ⋯,AF _ s⟩,
    bI d (R':=λi=>(y:Int)*R i%p) z ha U I Y (λi _=>rfl) (JJ z.mono h).1⟩
theorem cR(d:Pr p)(m:Nat)(W:Nat->Vc) : ∃r,r<=m/\Rk p n m W r:=by
 obtain⟨r,z,B,l,I,O⟩:=cS (n:=n) d (λj i=>W j i%p) (λj i=>⟨AU _ (by have:=d.pos;omega),AF _ d.pos⟩) m;refine⟨r,z,B,l,I,λv=>(O v).trans ⟨λh=>h.le λg ⟨k,a,e⟩=>?_,λh=>h.le λg ⟨k,a,e⟩=>?_⟩⟩
 ·subst e;exact(Span.gen (g:=W k) ⟨k,a,rfl⟩).congr λi _=>by rw[BE]
 ·subst e;exact(Span.gen (g:=λi=>W k i%p) ⟨k,a,rfl⟩).congr λi _=>by rw[BE]
theorem iO(U:Pr p)(h:Rk p n m W r)(h':Rk p n m' W' r')(C : ∀j,j<m->Span p n (fy m' W') (W j)):r<=r':=by
 obtain⟨B,l,I,Y⟩:=h;obtain⟨A,b,O,o⟩:=h';have f : ∀k,k<r->∃q,q<r'/\b q=l k:=λk a=>XR O ((o _).mpr (((Y _).mp (.gen ⟨k,a,rfl⟩)).le λg ⟨j,w,e⟩=>e ▸ C j w)) (I.lt k a) (by rw[I.one k a,U.one];decide) λi u=>by rw[I.m9 k i a u];simp
 have s : ∀k,k<r->∀q,q<r'->b q=l k->k<=q:=by
  intro k
  induction k with
  | zero=>intro _ q _ _;exact BB _
  | succ k x=>
   intro a q Q e;obtain⟨d,R,t⟩:=f k ⋯;have E:=x ⋯ d R t;have F:=I.mono k (k+1) ⋯ a;rcases AW d q with z | z
   ·omega
   ·rcases AW q d with y | y
    ·have:=O.mono q d y R
     omega
    ·have:q=d:=by omega
     subst this;omega
 rcases Nat.eq_zero_or_pos r with z | z
 ·omega
 ·obtain⟨q,Q,e⟩:=f (r - 1) ⋯
  have:=s (r - 1) ⋯ q Q e;omega
end
section
variable{p:Int}{n m r h w:Nat}
theorem Kq{l:GZ}(h:Nat) : ∀{r:Nat},(∀k m,k<m->m<r->l k<l m)->∃s,s<=r/\(∀k,k<s->l k<h)/\∀k,s<=k->k<r->h<=l k
 | 0,_=>⟨0,Al _,λk a=>absurd a<|An _,λk _ a=>absurd a<|An _⟩
 | r+1,hm=>by
  obtain⟨s,f,b,d⟩:=Kq h (r:=r) λk m a I=>hm k m a ⋯;by_cases e:l r<h
  ·refine⟨r+1,Al _,λk a=>?_,λk f b=>by omega⟩
   rcases AW k r with z | z
   ·have:=hm k r z ⋯;omega
   ·have:k=r:=by omega
    subst this;exact e
  ·refine⟨s,by omega,b,λk a O=>?_⟩
   rcases AW k r with z | z
   ·exact d k a z
   ·have:k=r:=by omega
    subst this;omega
theorem X1(I:s<=r)(C : ∀k,k<s->q k=dt)(H : ∀k,s<=k->k<r->q k=dk):(Ad r).filter q=(Ad<|r - s).map (s + ·):=by
 obtain⟨d,rfl⟩ : ∃d,r=s+d:=⟨r - s,by omega⟩;rw[Cv,Ci];have b:(Ad s).filter q=[]:=List.filter_eq_nil_iff.mpr λk a=>by rw[C k (Ah.mp a)];decide
 have z:((Ad d).map (s + ·)).filter q=(Ad d).map (s + ·):=List.filter_eq_self.mpr λk a=>by obtain⟨i,e,rfl⟩:=Cm.mp a;exact H _ ⋯ (by have:=Ah.mp e;omega)
 rw[b,z,BC];rfl
noncomputable def YN(h:Nat)(u v:Vc):Vc:=λi=>if i<h then u i else v (i - h)
def jA(j:Nat):Vc:=λk=>if j=k then 1 else 0
theorem ZM(C:i<h):YN h u v i=u i:=GY C
theorem Xg(i:Nat):YN h u v (h+i)=v i:=by unfold YN;rw[MQ ⋯,BC]
theorem bV(h w:Nat)(u v:Vc):zz h u++zz w v=zz (h+w) (YN h u v):=by
 unfold zz;rw[Cv,AR];congr 1
 ·exact AE λi a=>by rw[ZM (Ah.mp a)]
 ·rw[BP]
  exact AE λi _=>by simp only[Function.comp];rw[Xg]
theorem Ww(h w:Nat)(v:Vc):(zz (h+w) v).take h=zz h v:=by unfold zz;rw[<- List.map_take,List.take_range,Co (Bj h w)]
theorem Wx(h w:Nat)(v:Vc):(zz (h+w) v).drop h=zz w λj=>v (h+j):=by unfold zz;rw[Cv,AR,List.drop_append_of_le_length ⋯,List.drop_eq_nil_of_le ⋯,BP];rfl
theorem cz(h w:Nat)(v:Vc):wx (zz (h+w) v) dn (di (h:Int))=zz h v:=by
 have c : ¬((h:Int)<0):=by omega
 have e:min h (h+w)=h:=Co<|Bj h w;simp[wx,JI,c,e,Ww]
theorem cv(h w:Nat)(v:Vc):wx (zz (h+w) v) (di (h:Int)) dn=zz w λj=>v (h+j):=by
 have c : ¬((h:Int)<0):=by omega
 have e:min h (h+w)=h:=Co<|Bj h w;have t : ∀g:Vc,(zz w g).take w=zz w g:=λg=>Cg ⋯;simp[wx,JI,c,e,Wx,t]
theorem au(v:Vc) : ∀n,Ja (zz n v)=di ((Ad n).map λi=>v i != 0)
 | 0=>rfl
 | n+1=>by
  have d : ∀l:List Nat,Ja (l.map λi=>D.int<|v i)=di (l.map λi=>v i != 0):=by
   intro l
   induction l with
   | nil=>rfl
   | cons a l z=>simp[Ja,oA,z]
  exact d _
theorem Kj(d:h6 p (h+w) r B l)(I:r<=lim)(O:s<=r)(C : ∀k,k<s->l k<h)(h2 : ∀k,s<=k->k<r->h<=l k) :
 j5 [.int h,.lst (zF r (h+w) B)]=di (.own<|zF (r - s) w λk j=>B (s+k)<|h+j):=by
 have z:zL (.nm 0) (xF<|sB<|oX<|zq<|Vu (zd 0) YY<|p7<|zd 1) (Vu (zd 0) (p7<|zd 1) YY) [Cell.no,Cell.val (.int h)] (zF r (h+w) B)=di (((Ad r).filter λk=>decide<|h<=l k).map λk=>D.tup<|zz w λj=>B k<|h+j):=by
  unfold zF;refine jm (λk=>decide<|h<=l k) _ _ λk f=>⟨_,rfl,?_,λQ=>?_⟩
  ·have f:=Ah.mp f
   simp[cz,au];by_cases e:h<=l k
   ·simp[e]
    intro i g;have:=d.m9 k i f ⋯;simp[this]
   ·simp[e]
    exact⟨l k,by omega,by rw[d.one k f];decide⟩
  ·simp[cv]
 rw[X1 O (λk f=>decide_eq_false (by have:=C k f;omega)) (λk a b=>decide_eq_true<|h2 k a b)]at z;simp[j5,jh,jD,I,je,qX,Ag,z];unfold zF;rfl
noncomputable def DZ(p:Int)(h w:Nat)(f:GK)(v:Vc):Prop:=∀i,i<h->zu (λj=>f i j*v j) w%p=0
theorem ba{f:GK}{v:Vc}(d:Span p (h+w) (fy w λj=>YN h (λi=>f i j)<|jA j) v) : ∀i,i<h->v i%p=zu (λj=>f i j*v (h+j)) w%p:=by
 induction d with
 | @zero v e=>
  intro i a;rw[e i ⋯];have:zu (λj=>f i j*v (h+j)) w%p=zu (λ_=>0) w%p:=jx λj z=>by rw[AJ,e (h+j) ⋯];simp
  rw[this,zW];rfl
 | @step v u g c I U b O=>
  intro i a;obtain⟨m,Q,rfl⟩:=I;rw[b i ⋯,Bx,O i a,<- Bx];have l:zu (λj=>f i j*v (h+j)) w%p=zu (λj=>f i j*u (h+j)+c*(f i j*jA m j)) w%p:=jx λj z=>by rw[AJ,b (h+j) ⋯,<- AJ];simp only[Xg];rw[EY,Ex]
  rw[l,qc,qK,jK (f:=λj=>f i j*jA m j) Q λj _ R=>by simp[jA,Br R]];simp[jA,ZM a]
theorem ao(d:Pr p)(w:Nat):h6 p w w jA id where
 lt:=λk hk=>hk
 mono:=λk m hk _=>hk
 one:=λk _=>GY rfl
 m9:=λk j _ z=>MQ (by simp only[id]at z;omega)
 n4:=λk m _ _ I=>MQ (by simp only[id];omega)
 l7:=λk i _ _=>by have:=d.two;unfold jA;split<;>omega
theorem Span.map(t:GZ)(d : ∀i,i<n'->t i<n)(z : ∀g,G g->Span p n' G' λi=>g<|t i)(I:Span p n G v):Span p n' G' λi=>v (t i):=by
 induction I with
 | @zero v e=>exact .zero λi a=>e _<|d i a
 | @step v u g c O R b Q=>exact((z _ O).add Q c).congr λi a=>b _<|d i a
theorem Kh(U:Pr p)(hh:h<=20)(hw:w<=20)(f:GK) :
 ∃q K l s,vp [.int p,jy h w f]=di (.own<|zF q w K)/\h6 p w q K l/\(∀v,Span p w (fy q K) v↔DZ p h w f v)/\Rk p h w (λj i=>f i j) s/\q+s=w:=by
 have hl:=jb;have P:h<=lim:=by omega
 have x:w<=lim:=by omega
 have S:h+w<=lim:=by omega
 obtain⟨r,B,l,e,I,Y⟩:=yZ U (show h+w<=100 by omega) x .L λj=>YN h (λi=>f i j)<|jA j;have X : ∀v,Span p (h+w) (fy r B) v->∀i,i<h->v i%p=zu (λj=>f i j*v (h+j)) w%p:=λv Q=>ba<|(Y v).mp Q;have Z:r<=w:=by obtain⟨r',A,C⟩:=cR U (n:=h+w) w λj=>YN h (λi=>f i j)<|jA j;rw[eV U ⟨B,l,I,Y⟩ C];exact A
 have ac:w<=r:=by obtain⟨r',A,C⟩:=cR U (n:=w) r λk j=>B k<|h+j;refine Bq (iO U (m:=w) (W:=jA) ⟨jA,id,ao U w,λv=>Iff.rfl⟩ C λj O=>?_) A;have:=Span.map (n':=w) (G':=fy r λk j=>B k<|h+j) (λi=>h+i) (λi b=>by omega) (λg ⟨k,a,R⟩=> .gen ⟨k,a,by rw[R]⟩)<|(Y<|YN h (λi=>f i j)<|jA j).mpr (.gen ⟨j,O,rfl⟩);exact this.congr λi _=>by rw[Xg]
 have er:r=w:=Nat.le_antisymm Z ac;subst er;obtain⟨s,hs,H,o⟩:=Kq h I.mono;have eb:=Kj I x hs H o;have an:h6 p r (r - s) (λk j=>B (s+k)<|h+j) (λk=>l (s+k) - h):={
  lt:=λk a=>by have:=I.lt (s+k) ⋯;have:=o (s+k) ⋯ ⋯;omega
  mono:=λk m a E=>by have:=I.mono (s+k) (s+m) ⋯ ⋯;have:=o (s+k) ⋯ ⋯;omega
  one:=λk a=>by have:=o (s+k) ⋯ ⋯;rw[show h+(l (s+k) - h)=l (s+k)by omega];exact I.one _ ⋯
  m9:=λk j a O=>I.m9 _ _ ⋯ ⋯
  n4:=λk m a E y=>by have:=o (s+m) ⋯ ⋯;rw[show h+(l (s+m) - h)=l (s+m)by omega];exact I.n4 _ _ ⋯ ⋯ ⋯
  l7:=λk i a b=>I.l7 _ _ ⋯ ⋯}
 refine⟨r - s,_,_,s,?_,an,λv=>⟨λQ=>?_,λQ=>?_⟩,?_,by omega⟩
 ·have M:=xD f P x
  have N:=Xt (n:=r) x;have ap:zL (.tp [0,1]) z7 (zy j4 (zd 0)<|zd 1) [Cell.no,Cell.no] ((Ad r).map λj=>D.tup [.tup (zz h λi=>f i j),.tup (zz r λk=>if j=k then 1 else 0)])=di (zF r (h+r) λj=>YN h (λi=>f i j)<|jA j):=by unfold zF;refine zr _ _ λj O=>zv rfl rfl ?_;simp[j4,S,bV];rfl
  have zp:Yb (zF r h λi j=>f j i) (zF r r λi j=>if i=j then 1 else 0)=(Ad r).map λj=>D.tup [.tup (zz h λi=>f i j),.tup (zz r λk=>if j=k then 1 else 0)]:=by unfold Yb zF;rw[List.zip_map'];simp
  have c1:((h:Int)+(r:Int))=((h+r:Nat):Int):=by omega
  simp only[u3]at e;rw[<- c1]at e;unfold jy at M N ⊢;have nl : ∀T t f γ,zL T t f γ []=di []:=λ_ _ _ _=>rfl;simp[vp,yR,jh,jD,ju,M,N,zp,x,je,Ag,ap,nl,e,eb]
 ·intro i b
  induction Q with
  | @zero v hz=>
   have:zu (λj=>f i j*v j) r%p=zu (λ_=>0) r%p:=jx λj O=>by rw[AJ,hz j O];simp
   rw[this,zW];rfl
  | @step v u g c hg hu he G=>
   obtain⟨k,a,rfl⟩:=hg;have e1:zu (λj=>f i j*v j) r%p=zu (λj=>f i j*u j+c*(f i j*B (s+k) (h+j))) r%p:=jx λj O=>by rw[AJ,he j O,<- AJ,EY,Ex]
   have J:=X (B<|s+k) (.gen ⟨s+k,by omega,rfl⟩) i b;have e3:B (s+k) i=0:=I.m9 _ _ ⋯ (by have:=o (s+k) ⋯ ⋯;omega);rw[e3]at J;rw[e1,qc,qK,Bx,G,AJ,<- J];simp
 ·
  have b6:Span p (h+r) (fy r B) (YN h (λ_=>0) v):=by
   refine(Y _).mpr ((Span.sum (u:=λj=>YN h (λi=>f i j)<|jA j) v (m:=r) λj O=> .gen ⟨j,O,rfl⟩).congr λi b=>?_);rcases AW i h with z | z
   ·simp only[ZM z]
    rw[zQ (g:=λj=>f i j*v j) λj _=>Cp _ _,Q i z];simp
   ·obtain⟨k,rfl⟩ : ∃k,i=h+k:=⟨i - h,by omega⟩
    simp only[Xg];rw[jK (f:=λj=>v j*jA j k) (i:=k) ⋯ λj _ y=>by simp[jA,y]];simp[jA]
  have co:=gP I b6;refine(Span.sum (u:=λk j=>B (s+k)<|h+j) (λk=>YN h (λ_=>0) v<|l<|s+k) (m:=r - s) λk a=> .gen ⟨k,a,rfl⟩).congr λj O=>?_;have:=co (h+j) ⋯;rw[Xg]at this;rw[this];obtain⟨d,rfl⟩ : ∃d,r=s+d:=⟨r - s,by omega⟩;rw[BC];have sp : ∀(F:Nat->Int) (d:Nat),(∀k,k<s->F k=0)->zu F (s+d)=zu (λk=>F<|s+k) d:=by
   intro F d hF
   induction d with
   | zero=>
    show zu F s=0;rw[zQ (g:=λ_=>0) hF,zW]
   | succ d G=>rw[<- Nat.add_assoc];simp only[zu];rw[G]
  rw[sp _ d λk a=>by rw[ZM (H k a)];simp]
 ·
  refine⟨λk i=>B k i,l,⟨λk a=>H k a,λk m a E=>I.mono k m a ⋯,λk a=>I.one k ⋯,λk j a O=>I.m9 k j ⋯ O,λk m a E y=>I.n4 k m ⋯ ⋯ y,λk i a b=>I.l7 k i ⋯ ⋯⟩,λv=>⟨λQ=>Q.le λg ⟨k,a,R⟩=>?_,λQ=>Q.le λg ⟨j,O,R⟩=>?_⟩⟩
  ·subst R
   exact Span.map (n':=h) (G':=fy r λj i=>f i j) (λi=>i) (λi b=>by omega) (λg ⟨j,O,R⟩=>(Span.gen (g:=λi=>f i j) ⟨j,O,rfl⟩).congr λi b=>by rw[R];simp only[ZM b])<|(Y<|B k).mp (.gen ⟨k,by omega,rfl⟩)
  ·subst R
   have:=Span.map (n':=h) (G':=fy s λk i=>B k i) (λi=>i) (λi b=>by omega) (λg hZ=>by
    obtain⟨k,a,R⟩:=hZ;subst R;rcases AW k s with z | z
    ·exact .gen ⟨k,z,rfl⟩
    ·exact .zero λi b=>by rw[I.m9 k i a (by have:=o k z a;omega)];simp) ((Y<|YN h (λi=>f i j)<|jA j).mpr (.gen ⟨j,O,rfl⟩))
   exact this.congr λi b=>by rw[ZM b]
end
section
variable{p:Int}{h w q r:Nat}
def app(f:GK)(w:Nat)(v:Vc):Vc:=λi=>zu (λj=>f i j*v j) w
end
theorem fW{p x y X Y:Int}(C:x%p=X%p)(H:y%p=Y%p):(x*y)%p=(X*Y)%p:=by rw[AJ,C,H,<- AJ]
@[simp] theorem hU(r):qX (.nest r) = .no:=rfl
@[simp] theorem lV(r):qX (.own r) = .no:=rfl
@[simp] theorem lU(d):qX (.val d) = .val d:=rfl
@[simp] theorem nB:qX .no = .no:=rfl
def JV(w:GX)(k:Nat):Nat:=if w k then k+1 else k
def JG(w:GX)(k:Nat):Nat:=if w k then k else k+1
theorem Wk(w:GX)(wd:GZ)(k):e7 w wd k=wd (JG w k):=by unfold e7 JG;split<;>rfl
theorem cJ(w:GX)(wd:GZ)(k):fh w wd k=wd (JV w k):=by unfold fh JV;split<;>rfl
theorem WU(w:GX)(h:k<m):JV w k<m+1:=by unfold JV;split<;>omega
theorem Wv(w:GX)(h:k<m):JG w k<m+1:=by unfold JG;split<;>omega
section
variable{p:Int}{m:Nat}{w:GX}{wd:GZ}{f g T:GV}
theorem ZI(m:Nat)(F:Nat->D):xt ((Ad m).map F)=(Ad m).map λ(k:Nat)=>D.tup [.int k,F k]:=by unfold xt;rw[Ay,Cc];apply AE;intro k a;have a:=Ah.mp a;simp[a]
end
structure FG where
 s:Nat
 n:Nat
 v:Nat->Vc
section
variable{p:Int}{n m N h r r2 q:Nat}{B B2 K:Nat->Vc}{l l2 lK:GZ}{M f:GK}
theorem Vk(d:Span p n (fy m U) v) : ∃t:Vc,∀i,i<n->v i%p=zu (λj=>t j*U j i) m%p:=by
 induction d with
 | zero h=>exact⟨λ_=>0,λi a=>by rw[h i a];simp[zW]⟩
 | @step v w g c z o b I=>
  obtain⟨t,O⟩:=I;obtain⟨k,l,rfl⟩:=z;refine⟨λj=>t j+if j=k then c else 0,λi a=>?_⟩;rw[b i a,Bx,O i a,<- Bx];congr 1;have e:zu (λj=>(t j+if j=k then c else 0)*U j i) m=zu (λj=>t j*U j i) m+zu (λj=>(if j=k then c else 0)*U j i) m:=by rw[<- qc];exact zQ λj _=>Int.add_mul ..
  rw[e,jK (f:=λj=>(if j=k then c else 0)*U j i) l λj _ Q=>by simp[Q]];simp
end
def qt:=jh 1<|js (sB<|zy n2 (iF<|zf 0)<|zt<|.int 30) vF q8
noncomputable def yC:=jh 2<|xo<|zG z5<|zc (kP<|zc (yS<|zf 1)<|zc (zd 0)<|zc (zM<|zf 1) zJ) zJ
theorem zo(h:F γ=di (.next γ'))(g:G γ'=r):zD F G γ=r:=by rw[ju,h];exact g
theorem j7(h:F (jD n ds)=di (.ret r)):jh n F ds=di r:=by show(F<|jD n ds).bind _=_;rw[h];rfl
theorem Xb{T:Tg}{F:CO Fl}(P:Nat->Ctx->Prop)(n:Nat){γ:Ctx}(C:P 0 γ)(step : ∀s,s<n->∀γ,P s γ->∃z d,jY T (.int (s:Int)) γ=di z/\F z=di (.next d)/\P (s+1) d) :
 ∃γ',qf T F ((Ad n).map λ(i:Nat)=>D.int (i:Int)) γ=di (.next γ')/\P n γ':=by
 have O : ∀(k s:Nat) (γ:Ctx),s+k=n->P s γ->∃γ',qf T F ((CP s k).map λ(i:Nat)=>D.int (i:Int)) γ=di (.next γ')/\P n γ':=by
  intro k
  induction k with
  | zero=>
   intro s γ e I;obtain rfl:s=n:=by omega
   exact⟨γ,rfl,I⟩
  | succ k Q=>
   intro s γ e I;obtain⟨z,d,a,R,U⟩:=step s ⋯ γ I;obtain⟨γ',Y,b⟩:=Q (s+1) d ⋯ U;refine⟨γ',?_,b⟩;rw[BX,Ap,jc,a];simp only[Af,R];exact Y
 have:=O n 0 γ ⋯ C;rw[<- Bm]at this;exact this
theorem ZC(P:Nat->Ctx->Prop)(n:Nat)(Q:n<=lim)(I:f γ=di (.int (n:Int)))(C:P 0 γ)(step : ∀s,s<n->∀γ,P s γ->∃d z,jY T (.int (s:Int)) γ=di d/\F d=di (.next z)/\P (s+1) z) :
 ∃γ',x9 (zC f) T F γ=di (.next γ')/\P n γ':=by
 obtain⟨γ',e,O⟩:=Xb P n C step;refine⟨γ',?_,O⟩;have R:=jb;have r:inR (n:Int)=dk:=Wi ⋯ ⋯;rw[xB,ku,I];simp only[Af,xW,r,if_true,BQ,zV];rw[zA n λi=>(i:Int)];exact e
@[simp] def rD:=@aB.eq_1
def rU(m C:Nat)(w H:GX):Prop:=m=C/\∀k,k<m->w k=H k
instance (m m':Nat) (w w':GX):Decidable (rU m m' w w'):=inferInstanceAs (Decidable (m=m'/\∀k,k<m->w k=w' k))
section
variable{p p':Int}{m m':Nat}{w w':GX}{wd t5:GZ}{T T':GV}
theorem eU:jf (jS p m w wd T)=di (.T,[.int p,.tup<|zz (m+1) λk=>(wd k:Int),.tup (jn m w wd T)]):=rfl
theorem gX(k):jf (kn w wd T k)=di (.T,[.str (qm<|f9<|w k),jy (e7 w wd k) (fh w wd k) (T k)]):=rfl
theorem Y3:zL (.nm 0) z7 (dv (zf 0)<|zt<|.int 0) [Cell.no] (jn m w wd T)=di ((Ad m).map λk=>D.str<|qm<|f9<|w k):=by unfold jn;refine zr _ _ λk a=>zv rfl rfl ?_;simp[gX]
theorem yW(O:m<=900):xC [jS p m w wd T]=di (.val<|.str<|xf m w):=by
 have Q:=jb;have d:m<=lim:=by omega
 have st:J2 ((Ad m).map λk=>D.str<|qm<|f9<|w k)=di ((Ad m).map λk=>qm<|f9<|w k):=Ko _ _;have z:((Ad m).map λk=>qm<|f9<|w k).all z9=dk:=by simp only[Ce];intro x I;obtain⟨k,_,rfl⟩:=Cm.mp I;unfold f9;split<;>decide
 have a:z9 "" = dk:=by decide +kernel
 simp only[xC,jh,jD];simp only[dP,gZ,ZP,Ke,xv,yw,JP,W3,ko,Ap,El,BF,CF,Ag,Bp,Au,j8,eU,Af,AO,xW,Im,Av,mS,Nat.sub_self,BG];rw[WW,GY d,show je 1 [] [Cell.val (jS p m w wd T)]=[Cell.no]from rfl,Y3];simp only[AO,Af,st];rw[GY ⟨by simpa using d,z,a⟩];rfl
end
theorem WK(xs:List D)(n:Nat)(I:xs.length=n)(C : ∀i (h:i<n),∃z,xs[i]'(I ▸ h) = .int z)(b9:n<=63)(k:Int)(H:0<=k)(bb:k<100000) :
 ∃m,zP [.lst xs,.int k]=di (.val<|.int m)/\0<=m/\m<1000000007:=by
 have O : ∀x:Int,wI x 48271=dk:=λx=>K6 _ _ ⋯ ⋯;have Q : ∀x:Int,wI 7 x=dk:=λx=>kS _ _ ⋯ ⋯;have R : ∀x:Int,wI 13 x=dk:=λx=>kS _ _ ⋯ ⋯;have e : ∀x:Int,wI x 69621=dk:=λx=>K6 _ _ ⋯ ⋯;have f:wI (7*k) k=dk:=K6 _ _ ⋯ ⋯;have d:mP 10 9=dk:=by decide
 have U:mP 10 30=dk:=by decide
 have hl:lim=2500:=rfl;by_cases E:n=0
 ·subst E
  have Y:xs=[]:=AN I;subst Y;simp[zP,jh,jD,ju,O,Q,R,e,f,d,U];omega
 ·have g:0<n:=by omega
  obtain⟨i,N⟩:=BD (AU k<|show(n:Int)≠0 by omega);have p:i<n:=by have:=AF k (show(0:Int)<n by omega);omega
  obtain⟨zi,w⟩:=C i p;have ii:i3 n (i:Int)=di i:=by rw[jI,GY p]
  by_cases L:n=1
  ·subst L
   have l:i=0:=by omega
   subst l;have k1:k%1=0:=by omega
   simp[zP,jh,jD,ju,O,Q,R,e,f,d,U,I,w];omega
  ·obtain⟨z0,Y⟩:=C 0 g
   have l:i3 n 0=di 0:=by have:=jI n 0;rw[GY g]at this;exact this
   have A:(0:Int)<(n:Int) - 1:=by omega
   have B:(1:Int)<(n:Int):=by omega
   have u:1<n:=by omega
   have X:(n:Int) - 1<1073741824:=by omega
   have Z:(0:Int)<(n:Int):=by omega
   obtain⟨j,P⟩:=BD (AU k<|show(n:Int) - 1≠0 by omega);have r:1+j<n:=by have:=AF k A;omega
   obtain⟨zj,K⟩:=C (1+j) r;have W:i3 n (1+(j:Int))=di (1+j):=by have:=jI n<|1+j;rw[GY r]at this;rw[<- this];congr 1
   have M:0<=k/((n:Int) - 1)/\k/((n:Int) - 1)<=k:=⟨Int.ediv_nonneg H ⋯,Int.ediv_le_self _ H⟩;obtain⟨t,S⟩:=BD M.1;by_cases y:z0%2=1
   ·obtain⟨a,F,bi⟩ : ∃a:Nat,(if (t:Int)<60 then (t:Int)else 60)=a/\a<=60:=by
     split
     ·exact⟨t,rfl,by omega⟩
     ·exact⟨60,rfl,by omega⟩
    have G:inR (a:Int)=dk:=Wi ⋯ ⋯;simp[zP,jh,jD,ju,O,Q,R,e,f,I,g,r,B,u,Y,l,A,X,y,P,W,K,S,d,U];rw[F,GY G];simp only[Af,zV,BQ];rw[zA a λi=>(i:Int)];have J : ∀(m s:Nat) (v:Int) (c:Cell),∃o b,qf (.nm 3) (jq 2<|zy YL (zd 2)<|zy gM (zt<|D.int 10)<|zt<|D.int 9) ((CP s m).map λ(i:Nat)=>D.int i) [.val (.lst xs),.val<|.int k,.val<|.int v,c,.no] =
     di (.next [.val (.lst xs),.val<|.int k,.val<|.int o,b,.no]):=by
     intro m
     induction m with
     | zero=>intro s v c;exact⟨v,c,rfl⟩
     | succ m T=>
      intro s v c;rw[BX,Ap,jc];obtain⟨o,b,h⟩:=T (s+1) (v/10 ^ 9)<|.val<|.int s;refine⟨o,b,?_⟩;rw[<- h];simp[d]
    obtain⟨o,b,h⟩:=J a 0 zj .no;rw[<- Bm]at h;rw[h];simp[d];omega
   ·simp[zP,jh,jD,ju,O,Q,R,e,f,I,B,u,Z,g,Y,l,y,N,w,p,ii,d,U]
    omega
theorem gQ(C:List Int)(d:C.length<=63)(k:Int)(H:0<=k)(z:k<100000) : ∃m,zP [vb C,.int k]=di (.val<|.int m)/\0<=m/\m<1000000007:=
 WK (C.map D.int) C.length ⋯ (λi a=>⟨C[i],by simp⟩) d k H z
noncomputable def xu(C:List Int)(k:Int):Int:=match zP [vb C,.int k]with
 | some (.val<|.int m)=>m
 | _=>0
theorem JL(d:ns.length<=63)(C:0<=k)(z:k<100000):zP [vb ns,.int k]=di (.val<|.int<|xu ns k)/\0<=xu ns k/\xu ns k<1000000007:=by
 obtain⟨m,h,a,b⟩:=gQ ns d k C z;have e:xu ns k=m:=by unfold xu;rw[h]
 rw[e];exact⟨h,a,b⟩
noncomputable def X9(bs:List (Int×Int)):List D:=bs.map λb=>D.tup [.int b.1,.int b.2]
@[simp] theorem mR(bs):(X9 bs).length=bs.length:=by simp[X9]
noncomputable def eA(bs:List (Int×Int)):List (Int×Int):=(lA bs).map λi=>bs.getD i (0,0)
@[simp] def nV:=@iH.eq_1
section ap
variable(γ:Ctx)
@[simp] def nU:=@iG.eq_1
@[simp] def nY:=@Zm.eq_1
@[simp] def nZ:=@sf.eq_1
@[simp] def sZ:=@ug.eq_1
end ap
noncomputable def uD(b:Int×Int)(r:Int):Bool:=decide (b.1<=r) && decide (r<=b.2)
noncomputable def dq(bs:List (Int×Int))(r:Int):List Nat:=(Ad bs.length).filter λi=>uD (bs.getD i (0,0)) r
def pD(l:List Nat):List D:=l.map λ(i:Nat)=>D.int i
@[simp] theorem nC(l):(pD l).length=l.length:=by simp[pD]
theorem YX(d:Pr p)(z:h<=100)(C:w<=lim)(f:GK) :
 ∃r B l,JR [.int p,jy h w f]=di (.own<|zF r h B)/\h6 p h r B l/\∀v,Span p h (fy r B) v↔Span p h (fy w λj i=>f i j) v:=by
 obtain⟨r,B,l,e,I,O⟩:=yZ d z C .T λj i=>f i j;have Q:=jb;refine⟨r,B,l,?_,I,O⟩;simp only[u3]at e;have o:=xD f (show h<=lim by omega) C;unfold jy at o ⊢;simp[JR,jh,jD,o,e]
theorem bP(n:Nat)(v:Vc):xt (zz n v)=(Ad n).map λ(i:Nat)=>D.tup [.int i,.int (v i)]:=by unfold xt;rw[xO];refine AE λi a=>?_;have:=Ah.mp a;simp[zz,this]
theorem af(I:n<=lim)(v:Vc)(J:a<n)(H : ∀i,i<a->v i=0)(C:v a≠0):qA [.tup (zz n v)]=di (.val<|.int a):=by
 have d:zL (.tp [0,1]) (sB<|zy l6 (zd 1)<|zt<|.int 0) (zd 0) [Cell.no,Cell.no] ((Ad n).map λ(i:Nat)=>D.tup [.int i,.int (v i)])=di (((Ad n).filter λi=> !decide (v i=0)).map λ(i:Nat)=>D.int i):=by refine jm _ _ _ λi f=>⟨_,rfl,?_,λ_=>rfl⟩;simp
 cases hf:(Ad n).filter λi=> !decide (v i=0)with
 | nil=>exact absurd (by have:=VZ hf a J;simpa using this) C
 | cons b q9=>
  obtain⟨R,O,Q⟩:=Xe hf;have e:b=a:=by
   rcases Cs a b with z | z | z
   ·exact absurd (by have:=Q a z;simpa using this) C
   ·exact z.symm
   ·exact absurd (H b z) (by simpa using O)
  subst e;rw[hf]at d;simp[qA,jh,jD,bP,I,je,Ag,d]
theorem KW(h h' w:Nat)(f g F:GK)(C : ∀i j,i<h->j<w->F i j=f i j)(H : ∀i j,i<h'->j<w->F (h+i) j=g i j):zF h w f++zF h' w g=zF (h+h') w F:=by
 unfold zF;rw[Cv,AR,BP];congr 1
 ·exact AE λi a=>by rw[xk λj d=>(C i j (Ah.mp a) d).symm]
 ·exact AE λi a=>by simp only[Function.comp];rw[xk λj d=>(H i j (Ah.mp a) d).symm]
@[simp] def oo:=@su.eq_1
section
variable{p:Int}{m:Nat}{w:GX}{wd:GZ}{T:GV}{a:Nat}
abbrev lk(p:Int)(m:Nat)(w:GX)(wd:GZ)(T:GV)(i j:Int)(a:Nat)(ds:List D)(c:Cell):Ctx:=[.val (jS p m w wd T),.val (.int i),.val (.int j),.val (jy a a λi j=>if i=j then 1 else 0),.own ds,c]
end
@[simp] def ng:=@Jh.eq_1
section
variable{p:Int}{m:Nat}{w:GX}{wd:GZ}{T:GV}
theorem jW:jf (jS p m w wd T)=di (.T,[.int p,.tup<|zz (m+1) λk=>(wd k:Int),.tup (jn m w wd T)]):=rfl
end
@[simp] theorem Xs(γ:Ctx)(f):Zm f γ=(f γ).bind λd=>match d with
 | .str z=>if z9 z=dk then di (xt<|xi z)else dn
 | _=>dn:=rfl
@[simp] theorem cH(γ:Ctx)(f g):aE f g γ=(f γ).bind λd=>(g γ).bind λe=>match d,e with
 | .str x,.str y=>if z9 x=dk/\z9 y=dk then di (.str<|x++y)else dn
 | _,_=>dn:=rfl
theorem ZH(m:Nat)(w:GX):xt (xi<|xf m w)=(Ad m).map λ(k:Nat)=>D.tup [.int k,.str (qm<|f9<|w k)]:=by
 have e:xi (xf m w)=(Ad m).map λk=>D.str (qm<|f9<|w k):=by unfold xi;rw[qJ,BP];rfl
 unfold xt;rw[e];simp only[Ay,Cc];refine AE λk a=>?_;simp[Ah.mp a]
theorem Wu(w:GX)(k:Nat):j3 [.int k,.str (qm<|f9<|w k)]=di (.val<|.tup [.int ((JV w k:Nat):Int),.int ((JG w k:Nat):Int)]):=by have q:=Wq<|w k;cases h:w k<;>rw[h]at q<;>simp[j3,jh,jD,ju,q,JV,JG,h]
theorem Y4(s:Nat)(w:GX):xf s w++qm (f9<|w s)=xf (s+1) w:=by
 have h:(xf s w++qm (f9<|w s)).cps.toList=(xf (s+1) w).cps.toList:=by show((xf s w).cps++(qm<|f9<|w s).cps).toList=_;rw[Array.toList_append,qJ,qJ,BA,AR];rfl
 have d:=Array.toList_inj.mp h;generalize xf s w++qm (f9<|w s)=a at d;generalize xf (s+1) w=b at d;cases a;cases b;exact congrArg Str.mk d
theorem ik{c:Int}(C:0<=c){m:Nat}(H:m<=5) : ∃w,qp [.int c,.int (1+(m:Int))]=di (.val<|.str<|xf m w):=by
 have o:=jb;have O:m<=lim:=by omega
 refine⟨λk=>decide (c/2 ^ k%2=1),?_⟩;generalize hw:(λk:Nat=>decide (c/2 ^ k%2=1))=w;have Q : ∀(k s:Nat) (d:Cell),s+k=m->∃z I,qf (.nm 3) (zD (jq 2 (aE (zd 2) (qv (zt (.str "rl")) (zy xE (zd 0) (zt (.int 2)))))) (jq 0 (zy YL (zd 0) (zt (.int 2))))) ((CP s k).map λ(i:Nat)=>D.int i) [.val (.int (c/2 ^ s)),.val (.int (1+(m:Int))),.val (.str (xf s w)),d] =
  di (.next [z,.val<|.int<|1+(m:Int),.val<|.str<|xf m w,I]):=by
  intro k
  induction k with
  | zero=>
   intro s d h;obtain rfl:s=m:=by omega
   exact⟨_,d,rfl⟩
  | succ k R=>
   intro s d h;obtain⟨z,I,e⟩:=R (s+1) (.val (.int s)) ⋯;refine⟨z,I,?_⟩;rw[BX,Ap,jc];have U:qv (zt (.str "rl")) (zy xE (zd 0) (zt (.int 2))) [.val (.int (c/2 ^ s)),.val (.int (1+(m:Int))),.val (.str (xf s w)),.val (.int s)]=di (.str (qm (f9 (w s)))):=by
    have Y:zy xE (zd 0) (zt<|.int 2) [.val (.int<|c/2 ^ s),.val<|.int<|1+(m:Int),.val<|.str<|xf s w,.val (.int s)]=di (.int<|c/2 ^ s%2):=by simp
    rw[JO,Y];have q:c/2 ^ s%2=0\/c/2 ^ s%2=1:=by omega
    have ws:w s=decide (c/2 ^ s%2=1):=by rw[<- hw]
    rw[ws];rcases q with q | q
    ·rw[q];rfl
    ·rw[q];rfl
   have g:=kB w (show s<=1000 by omega);have j:z9 (qm<|f9<|w s)=dk:=rfl;have b:c/2 ^ s/2=c/2 ^ (s+1):=by rw[Int.pow_succ,Int.ediv_ediv_of_nonneg (Int.pow_nonneg ⋯)]
   simp only[xQ,Af,Be,Bd];rw[ju];simp only[yU,cH,x6,Au,Av,jt,Af,U,g,j,and_self,if_true,Y4,AO,Be,Bd];simp only[W6,x6,ZP,Au,jt,Af,cu];rw[GY ⟨by omega,by omega⟩,b];exact e
 obtain⟨n,d,e⟩:=Q m 0 .no ⋯;rw[<- Bm]at e;have a:c/2 ^ 0=c:=by simp
 have f:(1:Int)+(m:Int) - 1=(m:Int):=by omega
 have l:xf 0 w=("" : Str):=rfl;rw[a,l]at e;simp[qp,jh,jD,ju,f,O,zV,Ag];rw[zA m λi=>(i:Int),e];simp
noncomputable def Xv(C:List Int)(p:Int)(n:Int):Int:=xu C n/4%p*(if decide (0<xu C n%4)=dk then 1 else 0)
theorem gU{C:List Int}{p n:Int}(d:0<p):0<=Xv C p n/\Xv C p n<p:=by unfold Xv;have a:=AU (xu C n/4) (show p≠0 by omega);have b:=AF (xu C n/4) d;split<;>omega
theorem iM{C:List Int}(Y:C.length<=63){p:Int}(U:Pr p){at_:Int}(J:0<=at_)(L:at_<=1000){h w:Nat}(M:h<=4)(H:w<=4) :
 qr [vb C,.int at_,.int p,.int h,.int w]=di (.own<|ji h w λx y=>Xv C p<|at_+(x:Int)*(w:Int)+(y:Int)):=by
 have F:=jb;have u:=U.pos;have B:=U.le;have f:h<=lim:=by omega
 have d:w<=lim:=by omega
 have g : ∀(k s:Nat) (b a:Cell),s+k=h->∃I O,qf (.nm 6) (zD (jq 7<|jF<|zE (zC<|zd 4) (.nm 0) 1 [0,1,4,6] z7 (zG zP<|zc (zd 1)<|zc (zy j4 (zy j4 (zd 2)<|zy k9 (zd 4)<|zd 3)<|zd 0) zJ))<|qC 5<|jF<|zE (zB<|zf 7) (.nm 0) 1 [2] z7 (zy k9 (zy xE (zy YL (zd 0)<|zt<|.int 4)<|zd 1)<|kX<|zy n2 (zy xE (zd 0)<|zt<|.int 4)<|zt<|.int 0)) ((CP s k).map λ(i:Nat)=>D.int i)
  [.val (vb C),.val<|.int at_,.val<|.int p,.val<|.int h,.val<|.int w,.own<|ji s w λx y=>Xv C p<|at_+(x:Int)*(w:Int)+(y:Int),b,a]=di (.next [.val (vb C),.val<|.int at_,.val<|.int p,.val<|.int h,.val<|.int w,.own<|ji h w λx y=>Xv C p<|at_+(x:Int)*(w:Int)+(y:Int),I,O]):=by
  intro k
  induction k with
  | zero=>
   intro s b a n;obtain rfl:s=h:=by omega
   exact⟨b,a,rfl⟩
  | succ k o=>
   intro s b a n;have G:(s:Int)*(w:Int)<=16:=by have:s*w<=4*4:=Nat.mul_le_mul ⋯ H;rw[<- Int.natCast_mul];omega
   have E:(0:Int)<=(s:Int)*(w:Int):=Int.mul_nonneg ⋯ ⋯;have r:zL (.nm 0) z7 (zG zP<|zc (zd 1)<|zc (zy j4 (zy j4 (zd 2)<|zy k9 (zd 4)<|zd 3)<|zd 0) zJ) [Cell.no,Cell.val<|vb C,Cell.val<|.int at_,Cell.val<|.int w,Cell.val (.int s)] (zz w λi=>(i:Int))=di (zz w λy=>xu C<|at_+(s:Int)*(w:Int)+(y:Int)):=by rw[zA w,zA w];refine zr _ _ λy Q=>zv rfl rfl ?_;have Q:=Ah.mp Q;have R:wI (s:Int) (w:Int)=dk:=kS _ _ ⋯ ⋯;have j:=(JL Y (k:=at_+(s:Int)*(w:Int)+(y:Int)) ⋯ ⋯).1;simp[R,j]
   have t:zL (.nm 0) z7 (zy k9 (zy xE (zy YL (zd 0)<|zt<|.int 4)<|zd 1)<|kX<|zy n2 (zy xE (zd 0)<|zt<|.int 4)<|zt<|.int 0) [Cell.no,Cell.val (.int p)] (zz w λy=>xu C<|at_+(s:Int)*(w:Int)+(y:Int))=di (zz w λy=>Xv C p<|at_+(s:Int)*(w:Int)+(y:Int)):=by rw[zA w,zA w];refine zr _ _ λy Q=>zv rfl rfl ?_;have R : ∀z:Int,wI z (if 0<xu C (at_+(s:Int)*(w:Int)+(y:Int))%4 then 1 else 0)=dk:=λz=>K6 _ _ (by split<;>omega) (by split<;>omega);simp[u,R,Xv]
   obtain⟨I,O,e⟩:=o (s+1) (.val<|.int s) (.val<|.lst<|zz w λy=>xu C<|at_+(s:Int)*(w:Int)+(y:Int)) ⋯;refine⟨I,O,?_⟩;rw[BX,Ap,jc];have A:(ji s w λx y=>Xv C p<|at_+(x:Int)*(w:Int)+(y:Int)).length<lim:=by rw[ZK];omega
   simp only[xQ,Af,Be,Bd];rw[ju];simp only[yU,yV,xv,ku,x6,Au,Av,jt,Af,xW,qe d,if_true,BQ,zV,xO,d];rw[show je 1 [0,1,4,6] [Cell.val (vb C),Cell.val<|D.int at_,Cell.val<|D.int p,Cell.val<|D.int (h:Int),Cell.val<|D.int (w:Int),Cell.own<|ji s w λx y=>Xv C p<|at_+(x:Int)*(w:Int)+(y:Int),Cell.val<|D.int (s:Int),a]=[Cell.no,Cell.val<|vb C,Cell.val<|.int at_,Cell.val<|.int w,Cell.val (.int s)]from rfl,r];simp only[AO,Af,Be,Bd];simp only[yx,yV,xv,yw,ko,Au,Av,k7,j8,K7,Af,AO,xO,d,if_true];rw[show je 1 [2] [Cell.val (vb C),Cell.val<|D.int at_,Cell.val<|D.int p,Cell.val<|D.int (h:Int),Cell.val<|D.int (w:Int),Cell.own<|ji s w λx y=>Xv C p<|at_+(x:Int)*(w:Int)+(y:Int),Cell.val<|D.int (s:Int),Cell.val (D.lst<|zz w λy=>xu C<|at_+(s:Int)*(w:Int)+(y:Int))]=[Cell.no,Cell.val (.int p)]from rfl,t];simp only[AO,Af,A,if_true,Be,Bd];have m:(ji s w λx y=>Xv C p<|at_+(x:Int)*(w:Int)+(y:Int))++[D.lst (zz w λy=>Xv C p<|at_+(s:Int)*(w:Int)+(y:Int))]=ji (s+1) w λx y=>Xv C p (at_+(x:Int)*(w:Int)+(y:Int)):=by unfold ji;rw[BA,AR];rfl
   rw[m];exact e
 obtain⟨b,a,e⟩:=g h 0 .no .no ⋯;rw[<- Bm]at e;simp[qr,jh,jD,ju,Ag,f,zV];rw[zA h λi=>(i:Int)];have l:(ji 0 w λx y=>Xv C p<|at_+(x:Int)*(w:Int)+(y:Int))=[]:=rfl;rw[l]at e;rw[e];simp
def pr(a b:Nat):D:= .tup [.int a,.int b]
@[simp] theorem sC(a b):jf (pr a b)=di (.T,[.int (a:Int),.int (b:Int)]):=rfl
noncomputable def mk(lo:Nat)(ch:List Int)(r:Nat):Int:=if lo<=r then ch.getD (r - lo) 0 else 0
noncomputable def pE(h w:Nat)(f:GK):List D:=(Ad h).map λi=>D.lst<|zz w<|f i
@[simp] theorem nE(h w f):(pE h w f).length=h:=by simp[pE]
theorem ZO(C:List D):jf (.tup C)=di (.T,C):=rfl
noncomputable def oC(m:Nat)(w:GX)(wd:GZ)(T:GV):List D:=(Ad m).map λk=>D.lst<|pE (e7 w wd k) (fh w wd k)<|T k
noncomputable def bc(m:Nat)(w:GX)(wd:GZ)(T:GV):D:= .tup [.lst (zz (m+1) λk=>(wd k:Int)),.lst (oC m w wd T)]
noncomputable def my(m:Nat)(w:GX)(wd C:GZ)(J:GV):List D:=(Ad m).map λk=>jy (e7 w wd k) (fh w C k)<|J k
section
variable{p:Int}{m:Nat}{w:GX}{wd t5:GZ}{T T' J:GV}
theorem dY(h w f):jf (jy h w f)=di (.T,[.int (h:Int),.int (w:Int),.tup (zF h w f)]):=rfl
end
noncomputable def j9:=jh 2<|wN<|zE (zB<|zq<|kP<|zc (zy w5 (zd 1)<|zt<|.int 1)<|zc (zd 1) zJ) (.nm 0) 1 [0] (sB<|J8 DE C8 (zt<|.int 0) (zd 0)<|wO<|zd 1) (zd 0)
noncomputable def yA:=jh 2<|xo<|eS<|zX<|zE (zB<|zX<|jg j9<|zc (zd 0)<|zc (zd 1) zJ) (.nm 0) 1 [0,1] z7 (zy hI (zG Ya<|zc (zd 0)<|zc (qv (zd 1)<|zd 0) zJ)<|zd 2)
noncomputable def kU:=jh 2<|xo<|eS<|zX<|zE (zB<|zX<|jg j9<|zc (zd 0)<|zc (zd 1) zJ) (.nm 0) 1 [0,1] z7 (zy hI (zG kW<|zc (zd 0)<|zc (qv (zd 1)<|zd 0) zJ)<|zd 2)
noncomputable def kJ:=jh 2<|zD (js (xF<|sB<|zG yz<|zc (zy j4 (wO<|zd 0)<|zt<|.int 1)<|zc (zd 1) zJ) vF q8)<|js (aF (xF<|sB<|zG yA<|zc (zd 0)<|zc (zd 1) zJ)<|xF<|sB<|zG kU<|zc (zd 0)<|zc (zd 1) zJ) vF q8
def wl(l:List Bool):Str:=⟨⟨l.map f9⟩⟩
theorem vt(m w):xf m w=wl ((Ad m).map w):=by have h:=qJ m w;rw[show(Ad m).map (λk=>f9<|w k)=((Ad m).map w).map f9 by rw[BP];rfl]at h;unfold wl;generalize xf m w=a at h;obtain⟨⟨l⟩⟩:=a;exact congrArg (λx=>Str.mk ⟨x⟩) h
theorem QS{C β:Type}{f g:C->β}{xs:List C}(h:xs.map f=xs.map g){a:C}(H:a∈xs):f a=g a:=List.map_inj_left.mp h a H
noncomputable def Y0:Nat->List (List Bool)
 | 0=>[[]]
 | n+1=>(Y0 n).flatMap λl=>[dt::l,dk::l]
def words:List (List Bool):=(Ad 6).flatMap Y0
theorem ZA : ∀l:List Bool,l∈Y0 l.length
 | []=>Ek.mpr rfl
 | b::l=>Fn.mpr ⟨l,ZA l,by cases b<;>simp⟩
theorem V3{l:List Bool}(h:l.length<=5):l∈words:=Fn.mpr ⟨l.length,Ah.mpr ⋯,ZA l⟩
noncomputable def r9:List (List Bool×Nat):=words.flatMap λl=>(Ad<|l.length+1).map λk=>(l,k)
theorem qL{l:List Bool}{k:Nat}(h:l.length<=5)(C:k<=l.length):(l,k)∈r9:=
 Fn.mpr ⟨l,V3 h,Cm.mpr ⟨k,Ah.mpr ⋯,rfl⟩⟩
noncomputable def Jb(l:List Bool)(k:Nat):Bool:=k==0 || k==l.length || l[k - 1]? != l[k]?
def Gz:List (List Bool×Nat):=r9.filter λa=>Jb a.1 a.2
theorem V2{l:List Bool}{k:Nat}(h:l.length<=5)(C:k<=l.length)(d:Jb l k=dk):(l,k)∈Gz:=
 AL.mpr ⟨qL h C,d⟩
noncomputable def lW(l:List Bool):Nat->Nat->Nat
 | 0,k=>k
 | n+1,k=>if Jb l k then k else lW l n ((k+1)%(l.length+1))
def Zg(l:List Bool)(k:Nat):Nat:=lW l 7 k
theorem Yj:r9.all (λa=>Jb a.1 (Zg a.1 a.2) && decide (Zg a.1 a.2<=a.1.length))=dk:=by kernel_rfl
theorem Va{l:List Bool}{k:Nat}(h:l.length<=5)(C:k<=l.length):Jb l (Zg l k)=dk/\Zg l k<=l.length:=by have:=Ce.mp Yj _<|qL h C;simpa using this
theorem Xr:Gz.map (λa=>kJ [.str (wl a.1),.int (a.2:Int)])=Gz.map λ_=>di (.val .f7):=by kernel_rfl
theorem Kb{l:List Bool}{k:Nat}(h:l.length<=5)(C:k<=l.length)(d:Jb l k=dk):kJ [.str (wl l),.int (k:Int)]=di (.val .f7):=by have q:=QS Xr<|V2 h C d;dsimp only at q;exact q
noncomputable def pB(n k:Nat)(u:Nat->Int):Int:=if 0<k then (if k+1<n then u (k - 1)+(u (k+1)+0)else u (k - 1)+0)else if k+1<n then u (k+1)+0 else 0
noncomputable def mv(n k:Nat)(u:Nat->Int)(i:Nat):Int:=if i=k then pB n k u - u k else u i
theorem Y2(i:Int):xZ [.int i]=di (.val<|.bl dk):=rfl
theorem W4(γ:Ctx)(i g):Xz i g γ=(jV γ[i]?).bind λC=>(g γ).bind λa=>match a.1 with
 | .T=>if C.length+a.2.length<=lim then di (.next<|γ.set i<|.own<|C++a.2)else dn
 | .L=>dn:=rfl
theorem bO(I O Q:Cell)(w:Nat)(f:GK) : ∀(k s:Nat) (C:List Int) (c4:Cell),C.length+k*w<=2000->∃(d:List Int) (z:Cell),qf (.nm 4) (Xz 1<|zf 4) ((CP s k).map λi=>D.tup<|zz w<|f i) [I,.own<|C.map D.int,O,Q,c4]=di (.next [I,.own<|d.map D.int,O,Q,z])/\d.length=C.length+k*w:=by
 intro k
 induction k with
 | zero=>intro s C c4 _;exact⟨C,c4,rfl,by omega⟩
 | succ k R=>
  intro s C c4 h;have b:=jb;have e:(k+1)*w=k*w+w:=Nat.succ_mul k w;obtain⟨d,z,U,Y⟩:=R (s+1) (C++(Ad w).map (f s)) (.val<|.tup<|zz w<|f s) (by simp;omega);refine⟨d,z,?_,by rw[Y];simp;omega⟩;rw[<- U,BX,Ap,jc];have dl:(zz w<|f s).length=w:=by simp[zz]
  have le:C.length+w<=lim:=by omega
  have a:C.map D.int++zz w (f s)=(C++(Ad w).map (f s)).map D.int:=by rw[AR,BP];rfl
  simp only[xQ,Af,Be,Bd,W4,ko,Au,Av,jV,j8,ZO,Ay,dl,le,if_true,a]
noncomputable def Hy(n:Nat)(d z:GZ)(T:GV):List D:=(Ad n).map λk=>jy (d k) (z k)<|T k
section
variable{wd:GZ}{b:FG}{IS:List FG}
theorem YM(g:Nat->Vc)(d:q<=lim)(z:h<=lim):yC [.int h,.lst (zF q h g)]=di (.val<|jy h q λi j=>g j i):=by have e:=xD (h:=q) (w:=h) g d z;unfold jy at e;simp[yC,jh,jD,Ag,d,e];rfl
theorem bw(u:Nat->Int)(L:List Nat):(L.map λj=>D.int<|u j)=zz L.length λi=>u (L.getD i 0):=by
 unfold zz
 conv=>lhs;rw[<- wX 0 L]
 rw[BP];rfl
theorem yG(P:GX)(g:Nat->Int) : ∀N,zu (λi=>g<|((Ad N).filter P).getD i 0) ((Ad N).filter P).length=zu (λj=>if P j=dk then g j else 0) N
 | 0=>rfl
 | N+1=>by
  have d:=yG P g N;rw[BA,Ci];show _=zu _ N+_;rw[<- d];cases hP:P N with
  | false=>simp[hP]
  | true=>
   have e:([N].filter P)=[N]:=by simp[hP]
   rw[e,m5,BY];show zu _ _+_=_;simp only[if_true];congr 1
   ·refine zQ λi a=>?_
    simp[AY,Bk a]
   ·simp[AY,hP]
end
def b1:=(js (xF<|sB<|zG ZS<|zc (zd 1) zJ) vF q8)
def b2:=(jq 3<|zy j4 (wO<|zd 1)<|zt<|.int 1)
noncomputable def b3:=(js (xF<|sB<|eS<|zX<|zE (zB<|zf 2) (.nm 0) 1 [3] z7 (zG yX<|zc (zd 1)<|zc (zd 0) zJ)) vF q8)
def b4:=(jq 4<|jF<|iH<|zf 2)
noncomputable def x1:CO Xn:=(GA (xF (sB (zG ZS (zc (zd 1) zJ)))) (ox "NoRow") GC)
noncomputable def x3:CO Xn:=(GA (xF (sB (eS (zX (zE (zB (zf 2)) (.nm 0) 1 [3] z7 (zG yX (zc (zd 1) (zc (zd 0) zJ)))))))) (ox "NoRow") GC)
noncomputable def x7:CO Xn:=(GA (sB (zy n2 (iF (zf 6)) (zt (.int 30)))) (ox "TooMany") GC)
noncomputable def iN(m:Nat)(bs:List (Int×Int)):List D:=(Ad<|m+1).map λ(r:Nat)=>D.lst<|pD<|dq bs r
noncomputable def Y1(m:Nat)(bs:List (Int×Int)):List D:=zz (m+1) λr=>((dq bs r).length:Int)
section
variable{p:Int}{m:Nat}{w:GX}{bs:List (Int×Int)}
abbrev g0(p:Int)(z:Str)(bs:List (Int×Int)):Ctx:=[.val (.int p),.val (.str z),.val (.lst (X9 bs)),.no,.no,.no,.no,.no]
abbrev g2(p:Int)(z:Str)(m:Nat)(bs:List (Int×Int)):Ctx:=[.val (.int p),.val (.str z),.val (.lst (X9 bs)),.val (.int ((m+1:Nat):Int)),.no,.no,.no,.no]
abbrev g6(p:Int)(z:Str)(m:Nat)(bs:List (Int×Int)):Ctx:=[.val (.int p),.val (.str z),.val (.lst (X9 bs)),.val (.int ((m+1:Nat):Int)),.val (.lst (X9 (eA bs))),.val (.lst (iN m (eA bs))),.val (.tup (Y1 m (eA bs))),.no]
end
section
variable{p:Int}{m:Nat}{w:GX}{bs:List (Int×Int)}
abbrev lc(p:Int)(m:Nat)(w:GX)(bs:List (Int×Int))(acc:List D)(c5 c6 c7 c8 c9:Cell):Ctx:=[.val (.int p),.val (.str (xf m w)),.val (.lst (X9 bs)),.val (.lst (Y1 m bs)),.own acc,c5,c6,c7,c8,c9]
end
noncomputable def xl:=jh 2 (xo (cP (Dk (zy hI (zd 1) (zt (.int 0))) (zy hI (qv (zd 0) (zy w5 (zd 1) (zt (.int 1)))) (zt (.str "r")))) (Dk (zy hI (zd 1) (wO (zd 0))) (zy hI (qv (zd 0) (zd 1)) (zt (.str "l"))))))
noncomputable def IC(n:Nat)(C:List Nat)(u:Nat->Int):Nat->Int:=C.foldl (λu k=>mv n k u) u
noncomputable def Hd(n:Nat)(C:List Nat)(u:Nat->Int):Nat->Nat->Int
 | 0=>u
 | j+1=>IC n C<|Hd n C u j
noncomputable def acc(n:Nat)(C:List Nat)(u:Nat->Int):Nat->Nat->Int
 | 0=>λ_=>0
 | j+1=>λi=>acc n C u j i+Hd n C u j i
section
variable{wd:GZ}{N m k r:Nat}{A:Nat->FG}{p:Int}{w:GX}{T:GV}{B:Nat->Vc}{l:GZ}
theorem cF(h:k<m):(jn m w wd T)[k]? = di (kn w wd T k):=by simp[jn,h]
theorem WV(h:k<(jn m w wd T).length):(jn m w wd T)[k]=kn w wd T k:=by simp[jn]
theorem WX(w wd T k):jf (kn w wd T k)=di (.T,[.str (qm<|f9<|w k),jy (e7 w wd k) (fh w wd k) (T k)]):=rfl
end
section
variable{wd:GZ}{m k:Nat}{p:Int}{w:GX}{T:GV}
theorem kH(l:GZ) : ∀L:List Nat,wg (L.map λj=>D.int ((l j:Nat):Int))=di (L.map λj=>((l j:Nat):Int))
 | []=>rfl
 | j::L=>by simp[wg,kH l L]
theorem eW(d:h6 p n r B l):r<=n:=by
 have mono : ∀k,k<r->k<=l k:=by
  intro k
  induction k with
  | zero=>intro _;omega
  | succ k I=>intro a;have:=I ⋯;have:=d.mono k (k+1) ⋯ a;omega
 cases r with
 | zero=>omega
 | succ z=>have:=mono z ⋯;have:=d.lt z ⋯;omega
end
abbrev TB:=Nat×Nat×(Nat->Nat->Int)
section
variable{p:Int}{n:Nat}
theorem aw(W:Nat->Vc)(t:Vc):Span p n (fy m W) λi=>zu (λj=>t j*W j i) m:=Span.sum (u:=W) t λj d=> .gen ⟨j,d,rfl⟩
end
section
variable{p:Int}{m:Nat}{w:GX}{wd t5:GZ}{T T' X J:GV}
abbrev fx(p:Int)(m:Nat)(w:GX)(wd t5:GZ)(T T' X J:GV)(c6 c7 c8 c9 DB HX HY HZ H8:Cell):Ctx:=
 [.val (.int p),.val<|.str<|xf m w,.val<|bc m w wd T,.val<|bc m w t5 T',.val<|.lst<|my m w wd t5 J,.val<|.lst<|Hy (m+1) wd t5 X,c6,c7,c8,c9,DB,HX,HY,HZ,H8]
end
structure WB(n r:Nat)(B:Nat->Vc)(l:GZ):Prop where
 lt : ∀k,k<r->l k<n
 one : ∀k,k<r->B k (l k)=1
 n4 : ∀k m,k<r->m<r->m≠k->B k (l m)=0
theorem h6.wb{p:Int}{n r:Nat}{B:Nat->Vc}{l:GZ}(h:h6 p n r B l):WB n r B l:=⟨h.lt,h.one,h.n4⟩
structure Loc(p:Int)(wl wr wk N:Nat)(la ra hk:GX)(x y u:Nat->Vc)(Tl Tr:GK):Prop where
 IF : ∀z:Vc,∃a:Vc,∀i,i<wl->z i%p=zu (λj=>if la j=dk then a j*x j i else 0) N%p
 I0 : ∀z:Vc,∃a:Vc,∀i,i<wr->z i%p=zu (λj=>if ra j=dk then a j*y j i else 0) N%p
 IX : ∀t:Vc,(∀i,i<wl->zu (λj=>if la j=dk then t j*x j i else 0) N%p=0)->∀j,j<N->la j=dk->t j%p=0
 inR : ∀t:Vc,(∀i,i<wr->zu (λj=>if ra j=dk then t j*y j i else 0) N%p=0)->∀j,j<N->ra j=dk->t j%p=0
 IW : ∀t:Vc,(∀i,i<wk->zu (λj=>if hk j=dk then t j*u j i else 0) N%p=0)->∀j,j<N->hk j=dk->t j%p=0
 IP : ∀j,j<N->la j=dk->∀i,i<wk->app Tl wl (x j) i%p=(if hk j=dk then u j i else 0)%p
 IQ : ∀j,j<N->ra j=dk->∀i,i<wk->app Tr wr (y j) i%p=(if hk j=dk then u j i else 0)%p
 both : ∀j,la j=dk->ra j=dk->hk j=dk
theorem Vx:qh=jh 9 (zD (xA 4<|ql zJ)<|zD (x9 (Zm<|zd 1) (.tp [5,6]) Zn)<|xo<|kP<|zc (zd 0)<|zc (zM<|zf 2)<|zc (zM<|zf 4) zJ):=rfl
theorem X2:jT=jh 11 (zD (jq 5<|jF<|zE (zC<|zy j4 (wO<|zd 3)<|zt<|.int 1) (.nm 0) 1 [0,1,4] z7 (zy xE (zG zP<|zc (zd 1)<|zc (zy j4 (zd 2)<|zd 0) zJ)<|zy j4 (zd 3)<|zt<|.int 1))<|zD (xA 6<|ql zJ)<|zD (x9 (Zm<|zd 3) (.tp [7,8]) YJ)<|aC 6<|xo<|zG qh<|zc (zd 2)<|zc (zd 3)<|zc (zd 5)<|zc (zd 6) zJ):=rfl
section
variable{p:Int}{m:Nat}{w:GX}{wd:GZ}{T:GV}
noncomputable def xh(w:GX)(wd:GZ)(T:GV)(m:Nat):List D:=(Ad m).map λk=>D.lst<|ji (e7 w wd k) (fh w wd k)<|T k
@[simp] theorem Ve(m):(xh w wd T m).length=m:=by simp[xh]
theorem Xw(k):xh w wd T (k+1)=xh w wd T k++[D.lst (ji (e7 w wd k) (fh w wd k)<|T k)]:=by simp[xh,BA]
theorem YS(k):jn (k+1) w wd T=jn k w wd T++[kn w wd T k]:=by simp[jn,BA]
theorem bu(h v:Nat)(f:GK):zL (.nm 0) z7 (zM<|zf 0) [Cell.no] (ji h v f)=di (zF h v f):=by unfold ji zF;refine zr _ _ λy d=>zv rfl rfl ?_;simp
abbrev rc(p:Int)(m:Nat)(w:GX)(wd:GZ)(T:GV)(acc:List D)(c5 c6 c7 c8:Cell):Ctx:=[.val (.int p),.val (.str (xf m w)),.val (.lst (zz (m+1) λk=>(wd k:Int))),.val (.lst (xh w wd T m)),.own acc,c5,c6,c7,c8]
theorem Yn(M:m<=5)(d : ∀k,wd k<=7){k:Nat}(C:k<m)(acc:List D)(L:acc.length<lim)(H J:Cell) : ∃z I,Zn (rc p m w wd T acc (.val<|.int k) (.val<|.str<|qm<|f9<|w k) H J)=di (.next<|rc p m w wd T (acc++[kn w wd T k]) (.val<|.int k) (.val<|.str<|qm<|f9<|w k) z I):=by
 have h:=jb;have a:=Wv w C;have b:=WU w C;have O:e7 w wd k<=lim:=by rw[Wk];have:=d<|JG w k;omega
 have Q:i3 (m+1) ((JG w k:Nat):Int)=di (JG w k):=by rw[jI,GY a]
 have R:i3 (m+1) ((JV w k:Nat):Int)=di (JV w k):=by rw[jI,GY b]
 have U:i3 m (k:Int)=di k:=by rw[jI,GY C]
 have Y:(zz (m+1) λk=>(wd k:Int))[JG w k]? = di (.int (wd (JG w k):Int)):=qo (n:=m+1) (λk=>(wd k:Int)) a;have g:(zz (m+1) λk=>(wd k:Int))[JV w k]? = di (.int (wd (JV w k):Int)):=qo (n:=m+1) (λk=>(wd k:Int)) b;have f:(xh w wd T m)[k]? = di (D.lst<|ji (e7 w wd k) (fh w wd k)<|T k):=by simp[xh,C]
 refine⟨.val<|.int ((JV w k:Nat):Int),.val<|.int ((JG w k:Nat):Int),?_⟩;unfold Zn;rw[ju,W1,W5];simp only[rc,qY,K8,x6,Au,Av,jt,Af,AO,Wu,Kv,Xo,Be,Bd];have e:(zE (zB<|zq<|dv (zf 3)<|zd 5) (.nm 0) 1 [] z7 (zM<|zf 0)) [.val (.int p),.val<|.str<|xf m w,.val<|.lst<|zz (m+1) λk=>(wd k:Int),.val<|.lst<|xh w wd T m,.own acc,.val<|.int k,.val<|.str<|qm<|f9<|w k,.val<|.int ((JV w k:Nat):Int),.val (.int ((JG w k:Nat):Int))]=di (zF (e7 w wd k) (fh w wd k)<|T k):=by simp only[xv,yw,JP,W3,ko,x6,Au,Av,jt,j8,K7,Af,AO,xW,Ve,U,f,ZK,O,if_true];exact bu _ _ _
 simp only[yx,WZ,qY,K8,x6,W3,ko,YU,Ke,e,Au,Av,jt,j8,k7,K7,Af,AO,xW,xO,Q,R,Y,g,BF,CF,L,if_true];rw[<- Wk w wd k,<- cJ w wd k];rfl
theorem Zd(O:m<=5)(Q : ∀k,wd k<=7):qh [.int p,.str<|xf m w,.lst<|zz (m+1) λk=>(wd k:Int),.lst (xh w wd T m)]=di (.val<|jS p m w wd T):=by
 have B:=jb;have R:=kB w (show m<=1000 by omega);have U : ∀(k s:Nat) (f g a b:Cell),s+k=m->∃Y i j l,qf (.tp [5,6]) Zn ((CP s k).map λ(k:Nat)=>D.tup [.int k,.str (qm<|f9<|w k)]) (rc p m w wd T (jn s w wd T) f g a b)=di (.next<|rc p m w wd T (jn m w wd T) Y i j l):=by
  intro k
  induction k with
  | zero=>
   intro s f g a b h;obtain rfl:s=m:=by omega
   exact⟨f,g,a,b,rfl⟩
  | succ k x=>
   intro s f g a b h;obtain⟨d,z,e⟩:=Yn (p:=p) (w:=w) (T:=T) O Q (show s<m by omega) (jn s w wd T) (by simp;omega) a b;obtain⟨n,o,r,t,I⟩:=x (s+1) (.val<|.int s) (.val<|.str<|qm<|f9<|w s) d z ⋯;refine⟨n,o,r,t,?_⟩;rw[BX,Ap,jc];show((Zn<|rc p m w wd T _ (.val<|.int s) (.val<|.str<|qm<|f9<|w s) a b).bind _)=_;rw[e];rw[YS]at I;exact I
 obtain⟨y,A,d,z,e⟩:=U m 0 .no .no .no .no ⋯;rw[<- Bm]at e;rw[Vx];unfold jh;rw[ju];show(zD _ _<|rc p m w wd T [] .no .no .no .no).bind _=_;rw[ju,xB,Xs];simp only[rc,x6,Au,Av,jt,Af,R,if_true,ZH];have u:jn 0 w wd T=[]:=rfl;simp only[rc,u]at e;rw[e];simp;rfl
abbrev wc(ns:List Int)(p:Int)(m:Nat)(w:GX)(wd:GZ)(wide:Nat)(acc:List D)(c7 c8 c9 DB:Cell):Ctx:=[.val (vb ns),.val (.int 2),.val (.int p),.val (.str (xf m w)),.val (.int wide),.val (.lst (zz (m+1) λk=>(wd k:Int))),.own acc,c7,c8,c9,DB]
noncomputable def x4(C:List Int)(p:Int)(w:GX)(wd:GZ)(k x y:Nat):Int:=Xv C p<|2+10+20*(k:Int)+(x:Int)*((fh w wd k:Nat):Int)+(y:Int)
theorem WA{C:List Int}(z:C.length<=63)(I:Pr p)(S:m<=5)(d : ∀k,wd k<=4)(wide:Nat){k:Nat}(J:k<m)(acc:List D)(M:acc.length<lim)(L H:Cell) : ∃O Q,YJ (wc C p m w wd wide acc (.val<|.int k) (.val<|.str<|qm<|f9<|w k) L H)=di (.next<|wc C p m w wd wide (acc++[D.lst (ji (e7 w wd k) (fh w wd k)<|x4 C p w wd k)]) (.val<|.int k) (.val<|.str<|qm<|f9<|w k) O Q):=by
 have j:=jb;have a:=Wv w J;have b:=WU w J;have U:i3 (m+1) ((JG w k:Nat):Int)=di (JG w k):=by rw[jI,GY a]
 have Y:i3 (m+1) ((JV w k:Nat):Int)=di (JV w k):=by rw[jI,GY b]
 have g:(zz (m+1) λk=>(wd k:Int))[JG w k]? = di (.int (wd (JG w k):Int)):=qo (n:=m+1) (λk=>(wd k:Int)) a;have i:(zz (m+1) λk=>(wd k:Int))[JV w k]? = di (.int (wd (JV w k):Int)):=qo (n:=m+1) (λk=>(wd k:Int)) b;have f:wI 20 (k:Int)=dk:=kS _ _ ⋯ ⋯;have R:=iM z I (at_:=2+10+20*(k:Int)) ⋯ ⋯ (h:=wd<|JG w k) (w:=wd<|JV w k) (d _)<|d _;refine⟨.val<|.int ((JV w k:Nat):Int),.val<|.int ((JG w k:Nat):Int),?_⟩;unfold YJ;rw[ju,W1,W5];simp only[wc,qY,K8,x6,Au,Av,jt,Af,AO,Wu,Kv,Xo,Be,Bd];have e:k9 (.int 20) (.int (k:Int))=di (.int<|20*(k:Int)):=by rw[cn,f];rfl
 simp only[yx,yV,JQ,qY,K8,x6,ZP,W6,W3,ko,K3,e,Au,Av,jt,j8,k7,K7,Af,AO,xW,xO,U,Y,g,i,BF,CF,M,if_true,R,aH];unfold x4;rw[Wk,cJ];rfl
theorem vd{C:List Int}(I:C.length<=63)(O:Pr p)(Q:m<=5){wide:Nat}(Z:wide<=4) :
 ∃wd T,jT [vb C,.int 2,.int p,.str<|xf m w,.int wide]=di (.val<|jS p m w wd T)/\(∀k,wd k<=wide)/\∀k x y,0<=T k x y/\T k x y<p:=by
 have W:=jb;have U:m+1<=lim:=by omega
 have Y:=kB w (show m<=1000 by omega);let wd:Nat->Nat:=λk=>(xu C (2+(k:Int))%((wide:Int)+1)).toNat;have d : ∀k:Nat,xu C (2+(k:Int))%((wide:Int)+1)=(wd k:Int)/\wd k<=wide:=λk=>by have g1:=AU (xu C<|2+(k:Int)) (show(wide:Int)+1≠0 by omega);have g2:=AF (xu C<|2+(k:Int)) (show(0:Int)<(wide:Int)+1 by omega);have:(wd k:Int)=xu C (2+(k:Int))%((wide:Int)+1):=Int.toNat_of_nonneg g1;exact⟨this.symm,by omega⟩
 refine⟨wd,x4 C p w wd,?_,λk=>(d k).2,λk x y=>gU O.pos⟩;have z : ∀k,wd k<=4:=λk=>by have:=(d k).2;omega
 generalize wd=wd at d z ⊢;have r:(0:Int)<(wide:Int)+1:=by omega
 have N:zL (.nm 0) z7 (zy xE (zG zP<|zc (zd 1)<|zc (zy j4 (zd 2)<|zd 0) zJ)<|zy j4 (zd 3)<|zt<|.int 1) [Cell.no,Cell.val<|vb C,Cell.val<|.int 2,Cell.val (.int wide)] (zz (m+1) λi=>(i:Int))=di (zz (m+1) λk=>(wd k:Int)):=by rw[zA,zA];refine zr _ _ λk o=>zv rfl rfl ?_;have o:=Ah.mp o;simp[(JL I (k:=2+(k:Int)) ⋯ ⋯).1,r,(d k).1]
 have L:(jq 5<|jF<|zE (zC<|zy j4 (wO<|zd 3)<|zt<|.int 1) (.nm 0) 1 [0,1,4] z7 (zy xE (zG zP<|zc (zd 1)<|zc (zy j4 (zd 2)<|zd 0) zJ)<|zy j4 (zd 3)<|zt<|.int 1)) (jD 11 [vb C,.int 2,.int p,.str<|xf m w,.int wide])=di (.next [.val (vb C),.val<|.int 2,.val<|.int p,.val<|.str<|xf m w,.val<|.int wide,.val<|.lst<|zz (m+1) λk=>(wd k:Int),.no,.no,.no,.no,.no]):=by rw[yU,yV,xv,ku,show jD 11 [vb C,D.int 2,.int p,.str<|xf m w,.int wide]=[.val (vb C),.val<|.int 2,.val<|.int p,.val<|.str<|xf m w,.val<|.int wide,.no,.no,.no,.no,.no,.no]from rfl];simp only[W6,gY,x6,ZP,Au,Av,jt,Af,Y,if_true,Kk,K3,xW];rw[show((m:Int)+1)=((m+1:Nat):Int)by omega];simp only[qe U,if_true,BQ,Af,zV,xO,U];rw[show je 1 [0,1,4] [Cell.val (vb C),Cell.val<|D.int 2,Cell.val<|D.int p,Cell.val<|D.str<|xf m w,Cell.val<|D.int (wide:Int),Cell.no,Cell.no,Cell.no,Cell.no,Cell.no,Cell.no]=[Cell.no,Cell.val<|vb C,Cell.val<|.int 2,Cell.val (.int wide)]from rfl,N];rfl
 have t : ∀(k s:Nat) (f g b a:Cell),s+k=m->∃u A B E,qf (.tp [7,8]) YJ ((CP s k).map λ(k:Nat)=>D.tup [.int k,.str (qm<|f9<|w k)]) (wc C p m w wd wide (xh w wd (x4 C p w wd) s) f g b a)=di (.next<|wc C p m w wd wide (xh w wd (x4 C p w wd) m) u A B E):=by
  intro k
  induction k with
  | zero=>
   intro s f g b a h;obtain rfl:s=m:=by omega
   exact⟨f,g,b,a,rfl⟩
  | succ k M=>
   intro s f g b a h;obtain⟨l,j,e⟩:=WA (p:=p) (w:=w) I O Q z wide (show s<m by omega) (xh w wd (x4 C p w wd) s) (by simp;omega) b a;obtain⟨F,G,H,J,n⟩:=M (s+1) (.val<|.int s) (.val<|.str<|qm<|f9<|w s) l j ⋯;refine⟨F,G,H,J,?_⟩;rw[BX,Ap,jc];show((YJ<|wc C p m w wd wide _ (.val<|.int s) (.val<|.str<|qm<|f9<|w s) b a).bind _)=_;rw[e];rw[Xw]at n;exact n
 obtain⟨P,S,l,j,e⟩:=t m 0 .no .no .no .no ⋯;rw[<- Bm]at e;have R:=Zd (p:=p) (w:=w) (T:=x4 C p w wd) Q<|λk=>Bq (z k) ⋯;rw[X2];unfold jh;rw[ju,L,Jg,ju];show(zD _ _<|wc C p m w wd wide [] .no .no .no .no).bind _=_;rw[ju,xB,Xs];simp only[wc,x6,Au,Av,jt,Af,Y,if_true,ZH];have K:xh w wd (x4 C p w wd) 0=[]:=rfl;simp only[wc,K]at e;rw[e];simp[R]
end
def u1:=(jq 1<|zG zP<|zc (zd 0)<|zc (zt<|.int 0) zJ)
noncomputable def u2:=(jq 2<|dv (zX<|ql<|zc (zt<|.int 2)<|zc (zt<|.int 3)<|zc (zt<|.int 5)<|zc (zt<|.int 7) zJ)<|zy xE (zd 1)<|zt<|.int 4)
theorem QQ{c:Int}{n:Nat}(d:0<n) : ∃a:Nat,c%(n:Int)=a/\a<n:=by obtain⟨a,b⟩:=BD (AU c<|show(n:Int)≠0 by omega);have:=AF c (show(0:Int)<n by omega);exact⟨a,b,by omega⟩
theorem lu{c:Int}(h:0<=c) : ∃q:Nat,Pr (q:Int)/\([D.int 2,.int 3,.int 5,.int 7])[(c%4).toNat]? = di (.int q)/\i3 4 (c%4)=di (c%4).toNat:=by
 have a:=AU c (show(4:Int)≠0 by decide);have b:=AF c (show(0:Int)<4 by decide);obtain⟨r,d⟩:=BD a;rw[d];have z:r<4:=by omega
 rw[jI,GY z,BQ];rcases (by omega:r=0\/r=1\/r=2\/r=3)with e | e | e | e<;>subst e
 ·exact⟨2,.inl rfl,rfl,rfl⟩
 ·exact⟨3,.inr<|.inl rfl,rfl,rfl⟩
 ·exact⟨5,.inr<|.inr<|.inl rfl,rfl,rfl⟩
 ·exact⟨7,.inr<|.inr<|.inr rfl,rfl,rfl⟩
section
variable{p:Int}{n r q:Nat}{Bs:Nat->Vc}{ls:GZ}
noncomputable def xK(r:Nat)(Bs:Nat->Vc)(ls:GZ)(v:Vc):Vc:=λx=>v x - zu (λj=>v (ls j)*Bs j x) r
def wY(r:Nat)(ls:GZ)(i:Nat):Bool:=(Ad r).any λj=>ls j==i
theorem u9{i:Nat}:wY r ls i=dk ↔ ∃j,j<r/\ls j=i:=by simp[wY]
noncomputable def gv(n r:Nat)(ls:GZ):List Nat:=(Ad n).filter λi=> !wY r ls i
noncomputable def l8(p:Int)(n r:Nat)(Bs:Nat->Vc)(ls:GZ)(c:Nat):Vc:=λi=>xK r Bs ls (jA i) ((gv n r ls).getD c 0)%p
theorem Wn{c:Nat}(h:c<(gv n r ls).length):(gv n r ls).getD c 0<n/\wY r ls ((gv n r ls).getD c 0)=dt:=by
 have d:(gv n r ls).getD c 0∈gv n r ls:=by rw[AY,Ak h];exact Fp _
 obtain⟨a,b⟩:=AL.mp d;exact⟨Ah.mp a,by simpa using b⟩
theorem gh(v:Vc){x:Nat}(z:x<n)(I : ∀j,j<r->ls j<n):zu (λi=>v i*xK r Bs ls (jA i) x) n=xK r Bs ls v x:=by
 unfold xK;have a:zu (λi=>v i*(jA i x - zu (λj=>jA i (ls j)*Bs j x) r)) n=zu (λi=>v i*jA i x+zu (λj=>v i*(jA i (ls j)*Bs j x)) r * -1) n:=zQ λi _=>by rw[qK,Int.mul_sub];omega
 rw[a,qc,kD,kC];have O:zu (λi=>v i*jA i x) n=v x:=by rw[jK (i:=x) z λi _ d=>by show _*(if _=_ then (1:Int)else 0)=0;rw[MQ d];simp];show _*(if _=_ then (1:Int)else 0)=_;rw[GY rfl,EX]
 have Q:zu (λj=>zu (λi=>v i*(jA i (ls j)*Bs j x)) n) r=zu (λj=>v (ls j)*Bs j x) r:=zQ λj R=>by rw[jK (i:=ls j) (I j R) λi _ d=>by show _*((if _=_ then (1:Int)else 0)*_)=0;rw[MQ d];simp];show _*((if _=_ then (1:Int)else 0)*_)=_;rw[GY rfl,Int.one_mul]
 rw[O,Q];omega
theorem bA(z:WB n r Bs ls){j:Nat}(d:j<r)(x:Nat):xK r Bs ls (Bs j) x=0:=by unfold xK;rw[jK (i:=j) d λi a I=>by rw[z.n4 j i d a I];simp,z.one j d];omega
theorem bz(z:WB n r Bs ls){v:Vc}{j:Nat}(d:j<r):xK r Bs ls v (ls j)=0:=by unfold xK;rw[jK (i:=j) d λi a I=>by rw[z.n4 i j a d (Br I)];simp,z.one j d];omega
theorem bB(I:WB n r Bs ls)(z:Vc):Span p n (fy (gv n r ls).length (l8 p n r Bs ls)) z ↔ ∀j,j<r->zu (λi=>z i*Bs j i) n%p=0:=by
 constructor
 ·intro h j d
  obtain⟨t,Q⟩:=Vk h;have a:zu (λi=>z i*Bs j i) n%p=zu (λi=>zu (λc=>t c*(Bs j i*xK r Bs ls (jA i) ((gv n r ls).getD c 0))) (gv n r ls).length) n%p:=jx λi b=>by rw[AJ,Q i b,<- AJ,<- kD];refine jx λc _=>?_;show t c*(_%p)*_%p=_;rw[ED,Cp<|_%p,<- ED,vU,ED]
  rw[a,kC];have O:zu (λc=>zu (λi=>t c*(Bs j i*xK r Bs ls (jA i) ((gv n r ls).getD c 0))) n) (gv n r ls).length=zu (λ_=>0) (gv n r ls).length:=zQ λc R=>by rw[qK,gh (Bs j) (Wn R).1 I.lt,bA I d,Int.mul_zero]
  rw[O,zW];simp
 ·intro h
  have U:=λg=>yG (λi=> !wY r ls i) g n;refine(aw (p:=p) (n:=n) (m:=(gv n r ls).length) (l8 p n r Bs ls) λc=>z<|(gv n r ls).getD c 0).congr λi b=>?_;have Y:zu (λc=>z ((gv n r ls).getD c 0)*l8 p n r Bs ls c i) (gv n r ls).length%p=zu (λc=>z ((gv n r ls).getD c 0)*xK r Bs ls (jA i) ((gv n r ls).getD c 0)) (gv n r ls).length%p:=jx λc _=>by show _*(_%p)%p=_;rw[vU]
  have a:zu (λc=>z ((gv n r ls).getD c 0)*xK r Bs ls (jA i) ((gv n r ls).getD c 0)) (gv n r ls).length=zu (λx=>if (!wY r ls x)=dk then z x*xK r Bs ls (jA i) x else 0) n:=U λx=>z x*xK r Bs ls (jA i) x;have O:zu (λx=>if (!wY r ls x)=dk then z x*xK r Bs ls (jA i) x else 0) n=zu (λx=>z x*xK r Bs ls (jA i) x) n:=zQ λx _=>by
   cases hx:wY r ls x with
   | false=>simp
   | true=>
    obtain⟨j,d,rfl⟩:=u9.mp hx;rw[bz I d];simp
  have f:zu (λx=>z x*xK r Bs ls (jA i) x) n=z i+zu (λj=>jA i (ls j)*zu (λx=>z x*Bs j x) n) r * -1:=by
   unfold xK;have:zu (λx=>z x*(jA i x - zu (λj=>jA i (ls j)*Bs j x) r)) n=zu (λx=>z x*jA i x+zu (λj=>jA i (ls j)*(z x*Bs j x)) r * -1) n:=zQ λx _=>by
    have:zu (λj=>jA i (ls j)*(z x*Bs j x)) r=z x*zu (λj=>jA i (ls j)*Bs j x) r:=by rw[<- qK];exact zQ λj _=>by rw[Ex]
    rw[this,Int.mul_sub];omega
   rw[this,qc,kD,kC];congr 1
   ·rw[jK (i:=i) b λx _ e=>by show _*(if _=_ then (1:Int)else 0)=0;rw[MQ (Br e)];simp]
    show _*(if _=_ then (1:Int)else 0)=_;rw[GY rfl,EX]
   ·congr 1
    exact zQ λj _=>qK _ _ _
  rw[Y,a,O,f];have l:zu (λj=>jA i (ls j)*zu (λx=>z x*Bs j x) n) r%p=0:=by rw[jx (g:=λ_=>0) λj d=>by rw[AJ,h j d];simp,zW];simp
  rw[Bx,AJ,l];simp
end
def Hh:=(xA 3<|ql zJ)
noncomputable def F3:=(x9 (zB<|zq<|jF<|jg j9<|zc (zG xC<|zc (zd 0) zJ)<|zc (zd 1) zJ) (.nm 4)<|zD (jq 5<|dv (zq<|dv (zq<|dv (zf 0)<|zt<|.int 2)<|zd 4)<|zt<|.int 1)<|Xz 3<|zq<|Ym (sB<|zd 2) (dv (zq<|zG z5<|zc (zd 5) zJ)<|zt<|.int 2)<|dv (zf 5)<|zt<|.int 2)
def Hi:=(xo<|zM<|zf 3)
def xY:=jh 6<|zD Hh<|zD F3 Hi
noncomputable def F8:=(xo<|zG yC<|zc (dv (zf 1)<|zt<|.int 0)<|zc (jF<|jg vp<|zc (zd 0)<|zc (zG z5<|zc (zd 1) zJ) zJ) zJ)
def j1:=jh 2 F8
def HD:=(jq 3<|zd 2)
noncomputable def FF:=(x9 (zB<|zq<|zd 1) (.nm 4)<|jq 3<|zG jE<|zc (zd 0)<|zc (zd 3)<|zc (zd 4)<|zc (zG qA<|zc (zd 4) zJ) zJ)
noncomputable def Gw:=(jq 5<|jF<|zE (zB<|zf 1) (.nm 0) 1 [] z7 (zG qA<|zc (zd 0) zJ))
noncomputable def Gx:=(xo<|zM<|zX<|zE (Vw<|zd 3) (.tp [0,1]) 2 [5] (sB<|kc (zd 0)<|zf 2) (zd 1))
def jM:=jh 6<|zD HD<|zD FF<|zD Gw Gx
def F5:=(jq 2<|jF<|jg JR<|zc (zd 0)<|zc (zd 1) zJ)
noncomputable def F6:=(jq 3<|jF<|zE (zB<|zq<|dv (zq<|zG qz<|zc (dv (zf 1)<|zt<|.int 0) zJ)<|zt<|.int 2) (.nm 0) 1 [0,2] z7 (zG jM<|zc (zd 1)<|zc (zd 2)<|zc (zd 0) zJ))
noncomputable def F7:=(xo<|kP<|zc (dv (zf 1)<|zt<|.int 0)<|zc (zy w5 (dv (zf 1)<|zt<|.int 0)<|yS<|zf 2)<|zc (zM<|zf 3) zJ)
def jj:=jh 4<|zD F5<|zD F6 F7
def FT:=(jq 4<|kP<|zc (yS<|zf 2)<|zc (zd 1)<|zc (zd 2) zJ)
noncomputable def FU:=(xo<|kP<|zc (zG xX<|zc (zd 0) zJ)<|zc (Ym (sB<|zd 3) (zd 4)<|zG z5<|zc (zd 4) zJ) zJ)
def jU:=jh 5<|zD FT FU
noncomputable def D2:=(jq 4<|Ym (sB<|zy n2 (zd 1)<|zt<|.int 0) (dv (zq<|dv (zf 0)<|zt<|.int 1)<|zy w5 (zd 1)<|zt<|.int 1)<|zt<|.int 0)
noncomputable def FR:=(jq 5<|oW (zy w5 (zd 1)<|zt<|.int 1) (Vu (dv (zf 2)<|zt<|.int 2) YY<|p7<|zd 4) (zd 1)<|Vu (dv (zf 2)<|zt<|.int 2) (p7<|zd 4) YY)
def GS:=(xA 6<|ql zJ)
noncomputable def D3:=(x9 (Vw<|dv (zf 0)<|zt<|.int 2) (.tp [7,8])<|qC 6<|Ym (sB<|eQ (zd 7)<|zd 5) (zG jU<|zc (dv (zf 8)<|zt<|.int 0)<|zc (dv (zf 2)<|zt<|.int 1)<|zc (aD (zd 5)<|zd 7)<|zc (zd 3) zJ)<|zd 8)
def GU:=(xo<|zM<|zf 6)
def qu:=jh 9<|zD D2<|zD FR<|zD GS<|zD D3 GU
def Gj:=(jq 2<|zG xC<|zc (zd 0) zJ)
def Gk:=(eP<|zG kJ<|zc (zd 2)<|zc (zd 1) zJ)
def Gm:=(jq 3<|zG yA<|zc (zd 2)<|zc (zd 1) zJ)
def Gn:=(jq 4<|zG xY<|zc (zd 0)<|zc (zd 1)<|zc (zd 3) zJ)
noncomputable def Gp:=(jq 5<|kP<|zc (yS<|zf 4)<|zc (dv (zq<|dv (zf 0)<|zt<|.int 1)<|zd 1)<|zc (zd 4) zJ)
noncomputable def Fu:=(jq 6<|Ym (sB<|zd 3) (zG j1<|zc (dv (zf 0)<|zt<|.int 0)<|zc (zd 5) zJ)<|zG jj<|zc (dv (zf 0)<|zt<|.int 0)<|zc (zd 5) zJ)
noncomputable def Gq:=(jq 7<|zy j4 (zy j4 (Vu (dv (zf 0)<|zt<|.int 1) YY<|p7<|zd 1)<|kP<|zc (dv (zf 6)<|zt<|.int 1) zJ)<|Vu (dv (zf 0)<|zt<|.int 1) (p7<|zy j4 (zd 1)<|zt<|.int 1) YY)
def Gr:=(eP<|zG qt<|zc (zd 7) zJ)
noncomputable def Gs:=(xo<|kP<|zc (dv (zf 0)<|zt<|.int 0)<|zc (zd 7)<|zc (zG qu<|zc (zd 0)<|zc (zd 1)<|zc (zd 6)<|zc (zd 3) zJ) zJ)
noncomputable def jZ:=jh 8<|zD Gj<|zD Gk<|zD Gm<|zD Gn<|zD Gp<|zD Fu<|zD Gq<|zD Gr Gs
theorem wo{T:Tg}{F:CO Fl}{g:Nat->D}(P:Nat->Ctx->Prop)(n:Nat){γ:Ctx}(C:P 0 γ)(step : ∀s,s<n->∀γ,P s γ->∃z d,jY T (g s) γ=di z/\F z=di (.next d)/\P (s+1) d) :
 ∃γ',qf T F ((Ad n).map g) γ=di (.next γ')/\P n γ':=by
 have O : ∀(k s:Nat) (γ:Ctx),s+k=n->P s γ->∃γ',qf T F ((CP s k).map g) γ=di (.next γ')/\P n γ':=by
  intro k
  induction k with
  | zero=>
   intro s γ e I;obtain rfl:s=n:=by omega
   exact⟨γ,rfl,I⟩
  | succ k Q=>
   intro s γ e I;obtain⟨z,d,a,R,U⟩:=step s ⋯ γ I;obtain⟨γ',Y,b⟩:=Q (s+1) d ⋯ U;refine⟨γ',?_,b⟩;rw[BX,Ap,jc,a];simp only[Af,R];exact Y
 have:=O n 0 γ ⋯ C;rw[<- Bm]at this;exact this
section
variable{p:Int}{m:Nat}{w:GX}{wd t5:GZ}{T T' S J X:GV}
abbrev rx(p:Int)(m:Nat)(w:GX)(wd t5:GZ)(T T' X:GV)(r:Nat)(c6 c7 c8 c9 DB:Cell):Ctx:=
 [.val (.int p),.val<|.str<|xf m w,.val<|bc m w wd T,.val<|bc m w t5 T',.val<|.lst<|Hy m (fh w t5) (e7 w wd) λk i j=>X k j i,.val<|.int (r:Int),c6,c7,c8,c9,DB]
noncomputable def xb:=(jq 6<|jF<|zE (zC<|dv (zq<|dv (zf 3)<|zt<|.int 0)<|zd 5) (.nm 0) 1 [2,5] z7 (jF<|oS (zX<|ql<|zc (zt<|.int 0) zJ)<|dv (zq<|dv (zf 1)<|zt<|.int 0)<|zd 2))
end
theorem md:xY=jh 6 (zD Hh<|zD F3 Hi):=rfl
theorem ig:jM=jh 6 (zD HD<|zD FF<|zD Gw Gx):=rfl
theorem lZ:j1=jh 2 F8:=rfl
theorem ma:jj=jh 4 (zD F5<|zD F6 F7):=rfl
theorem mU:jU=jh 5 (zD FT FU):=rfl
theorem ni:qu=jh 9 (zD D2<|zD FR<|zD GS<|zD D3 GU):=rfl
theorem iu:jZ=jh 8 (zD Gj<|zD Gk<|zD Gm<|zD Gn<|zD Gp<|zD Fu<|zD Gq<|zD Gr Gs):=rfl
noncomputable def ah(m k:Nat):List Nat:=(if 0<k then [k - 1]else [])++if k<m then [k]else []
theorem YT:r9.map (λa=>j9 [.str (wl a.1),.int (a.2:Int)])=r9.map λa=>di (.own<|(ah a.1.length a.2).map λ(i:Nat)=>D.int (i:Int)):=by kernel_rfl
noncomputable def yq(l:List Bool)(k:Nat):Bool:=(k==0 || l[k - 1]? == di dt) && (k==l.length || l[k]? == di dk)
theorem YC:r9.map (λa=>yA [.str (wl a.1),.int (a.2:Int)])=r9.map λa=>di (.val<|.bl<|yq a.1 a.2):=by kernel_rfl
section
variable{p:Int}{w:GX}{wd:GZ}{T:GV}{m k:Nat}
theorem Kc(d:m<=5)(C:k<=m):j9 [.str (xf m w),.int (k:Int)]=di (.own<|(ah m k).map λ(i:Nat)=>D.int (i:Int)):=by have q:=QS YT (qL (l:=(Ad m).map w) (k:=k) (by simpa using d)<|by simpa using C);dsimp only at q;rw[Ay,Cc]at q;rw[vt];exact q
theorem XW(d:m<=5)(C:k<=m):yA [.str (xf m w),.int (k:Int)]=di (.val<|.bl<|yq ((Ad m).map w) k):=by have q:=QS YC (qL (l:=(Ad m).map w) (k:=k) (by simpa using d)<|by simpa using C);rw[vt];exact q
theorem ZJ(C:k<=m):yq ((Ad m).map w) k=dk↔(0<k->w (k - 1)=dt)/\(k<m->w k=dk):=by
 unfold yq;simp only[Ay,Cc,As,Bh,beq_iff_eq,AM];constructor
 ·rintro⟨b,d⟩
  refine⟨λa=>?_,λa=>?_⟩
  ·rcases b with z | z
   ·omega
   ·rw[BK ⋯]at z;simpa using z
  ·rcases d with z | z
   ·omega
   ·rw[BK a]at z;simpa using z
 ·rintro⟨b,d⟩
  refine⟨?_,?_⟩
  ·by_cases a:0<k
   ·right;rw[BK ⋯];simp[b a]
   ·left;omega
  ·by_cases a:k<m
   ·right;rw[BK a];simp[d a]
   ·left;omega
theorem gV(H:k<=m)(d:Jb ((Ad m).map w) k=dk)(C:yq ((Ad m).map w) k=dt):(0<k->w (k - 1)=dk)/\(k<m->w k=dt):=by
 have f : ¬((0<k->w (k - 1)=dt)/\(k<m->w k=dk)):=λz=>by rw[(ZJ H).mpr z]at C;cases C
 have I:0<k->k<m->w (k - 1)≠w k:=λb a=>by
  unfold Jb at d;simp only[Ay,Cc,Bh,beq_iff_eq,bne_iff_ne,AM]at d;rcases d with(z | z) | z
  ·omega
  ·omega
  ·rw[BK ⋯,BK a]at z
   intro e;apply z;simp[e]
 refine⟨λb=>?_,λa=>?_⟩
 ·cases e:w (k - 1)with
  | true=>rfl
  | false=>
   exfalso;apply f;refine⟨λ_=>e,λa=>?_⟩;have:=I b a;rw[e]at this;cases e2:w k with
   | true=>rfl
   | false=>rw[e2]at this;exact absurd rfl this
 ·cases e:w k with
  | false=>rfl
  | true=>
   exfalso;apply f;refine⟨λb=>?_,λ_=>e⟩;have:=I b a;rw[e]at this;cases e2:w (k - 1)with
   | false=>rfl
   | true=>rw[e2]at this;exact absurd rfl this
noncomputable def mu(e:Bool)(w:GX)(wd:GZ)(T:GV)(a:Nat):List D:=if e=dk then zF (fh w wd a) (e7 w wd a) (λi j=>T a j i)else zF (e7 w wd a) (fh w wd a) (T a)
theorem XX{n:Nat}(d : ∀k,wd k<=n)(a:Nat):e7 w wd a<=n/\fh w wd a<=n:=by unfold e7 fh;constructor<;>(split<;>exact d _)
theorem gg{n:Nat}(d : ∀k,wd k<=n)(e:Bool)(a:Nat):(mu e w wd T a).length<=n:=by
 unfold mu;cases e
 ·rw[MQ ⋯,JH];exact(XX d a).1
 ·rw[GY rfl,JH];exact(XX d a).2
noncomputable def B8:=(zD (jq 5<|dv (zq<|dv (zq<|dv (zf 0)<|zt<|.int 2)<|zd 4)<|zt<|.int 1)<|Xz 3<|zq<|Ym (sB<|zd 2) (dv (zq<|zG z5<|zc (zd 5) zJ)<|zt<|.int 2)<|dv (zf 5)<|zt<|.int 2)
theorem Jw(z : ∀k,wd k<=100)(e:Bool){a:Nat}(C:a<m){acc:List D}(O:acc.length<=100)(c5:Cell)(k:Int) :
 B8 [.val (jS p m w wd T),.val<|.int k,.val<|.bl e,.own acc,.val<|.int (a:Int),c5]=di (.next [.val (jS p m w wd T),.val<|.int k,.val<|.bl e,.own<|acc++mu e w wd T a,.val<|.int (a:Int),.val (jy (e7 w wd a) (fh w wd a)<|T a)]):=by
 have Q:=jb;obtain⟨b,f⟩:=XX (w:=w) z a;have d:=xD (T a) (show e7 w wd a<=lim by omega) (show fh w wd a<=lim by omega);have R:=cF (w:=w) (wd:=wd) (T:=T) C;have I:(jn m w wd T).length=m:=by simp[jn]
 unfold B8;refine zo (γ':=[.val (jS p m w wd T),.val<|.int k,.val<|.bl e,.own acc,.val<|.int (a:Int),.val (jy (e7 w wd a) (fh w wd a)<|T a)]) ?_ ?_
 ·simp[jW,WX,jI,I,C,WV]
 ·rw[W4]
  cases e with
  | true=>
   have b1:acc.length+fh w wd a<=lim:=by omega
   simp[d,jy,jf,mu,jV,b1];simp[jy]at d;simp[d,jf,b1]
  | false=>
   have b1:acc.length+e7 w wd a<=lim:=by omega
   simp[jy,jf,mu,jV,b1]
theorem bx(d : ∀k,wd k<=100)(z:m<=5)(C:k<=m)(e:Bool):xY [jS p m w wd T,.int (k:Int),.bl e]=di (.val<|.tup<|(ah m k).flatMap λa=>mu e w wd T a):=by
 have Q:=jb;have I:=yW (p:=p) (w:=w) (wd:=wd) (T:=T) (show m<=900 by omega);have O:=Kc (w:=w) z C;have l : ∃h j,qf (.nm 4) B8 ((ah m k).map λ(i:Nat)=>D.int (i:Int)) [.val (jS p m w wd T),.val<|.int k,.val<|.bl e,.own [],.no,.no]=di (.next [.val (jS p m w wd T),.val<|.int k,.val<|.bl e,.own<|(ah m k).flatMap λa=>mu e w wd T a,h,j]):=by
  unfold ah;by_cases g:0<k
  ·by_cases b:k<m
   ·have f:=Jw (p:=p) (w:=w) (T:=T) d e (a:=k - 1) (m:=m) ⋯ (acc:=[]) ⋯ .no (k:Int)
    have o:=Jw (p:=p) (w:=w) (T:=T) d e (a:=k) b (acc:=[]++mu e w wd T (k - 1)) (by simpa using gg d e (k - 1)) (.val<|jy (e7 w wd<|k - 1) (fh w wd<|k - 1)<|T<|k - 1) (k:Int);refine⟨.val<|.int (k:Int),.val<|jy (e7 w wd k) (fh w wd k)<|T k,?_⟩;rw[GY g,GY b];show qf _ _ [.int ((k - 1:Nat):Int),.int (k:Int)] _=_;rw[jc];show(B8 [.val (jS p m w wd T),.val<|.int k,.val<|.bl e,.own [],.val<|.int ((k - 1:Nat):Int),.no]).bind _=_;rw[f,Af];show qf _ _ [.int (k:Int)] _=_;rw[jc];show(B8 [.val (jS p m w wd T),.val<|.int k,.val<|.bl e,.own<|[]++mu e w wd T (k - 1),.val<|.int (k:Int),_]).bind _=_;rw[o,Af];simp[qf]
   ·have f:=Jw (p:=p) (w:=w) (T:=T) d e (a:=k - 1) (m:=m) ⋯ (acc:=[]) ⋯ .no (k:Int)
    refine⟨.val<|.int ((k - 1:Nat):Int),.val<|jy (e7 w wd<|k - 1) (fh w wd<|k - 1)<|T<|k - 1,?_⟩;rw[GY g,MQ b];show qf _ _ [.int ((k - 1:Nat):Int)] _=_;rw[jc];show(B8 [.val (jS p m w wd T),.val<|.int k,.val<|.bl e,.own [],.val<|.int ((k - 1:Nat):Int),.no]).bind _=_;rw[f,Af];simp[qf]
  ·by_cases b:k<m
   ·have f:=Jw (p:=p) (w:=w) (T:=T) d e (a:=k) b (acc:=[]) ⋯ .no (k:Int)
    refine⟨.val<|.int (k:Int),.val<|jy (e7 w wd k) (fh w wd k)<|T k,?_⟩;rw[MQ g,GY b];show qf _ _ [.int (k:Int)] _=_;rw[jc];show(B8 [.val (jS p m w wd T),.val<|.int k,.val<|.bl e,.own [],.val<|.int (k:Int),.no]).bind _=_;rw[f,Af];simp[qf]
   ·refine⟨.no,.no,?_⟩
    rw[MQ g,MQ b];rfl
 obtain⟨h,j,l⟩:=l;rw[md];refine j7<|zo (γ':=[.val (jS p m w wd T),.val<|.int k,.val<|.bl e,.own [],.no,.no]) rfl<|zo (γ':=[.val (jS p m w wd T),.val<|.int k,.val<|.bl e,.own<|(ah m k).flatMap λa=>mu e w wd T a,h,j]) ?_ rfl;unfold F3;rw[xB];have n:zB (zq<|jF<|jg j9<|zc (zG xC<|zc (zd 0) zJ)<|zc (zd 1) zJ) [.val (jS p m w wd T),.val<|.int k,.val<|.bl e,.own [],.no,.no]=di ((ah m k).map λ(i:Nat)=>D.int (i:Int)):=by simp[I,O,jf]
 rw[n];exact l
end
section
variable{p:Int}{n r:Nat}{Bs:Nat->Vc}{ls:GZ}
noncomputable def kM(p:Int)(Bs:Nat->Vc)(ls:GZ)(v:Vc)(s:Nat):Vc:=λx=>(v x - zu (λj=>v (ls j)*Bs j x) s)%p
theorem JE(O:h6 p n r Bs ls):(gv n r ls).length+r=n:=by
 have f:((gv n r ls).length:Int)=zu (λi=>if (!wY r ls i)=dk then 1 else 0) n:=by
  have:=yG (λi=> !wY r ls i) (λ_=>1) n;rw[<- this];have : ∀k:Nat,zu (λ_=>1) k=(k:Int):=λk=>by
   induction k with
   | zero=>rfl
   | succ k I=>show zu _ k+1=_;rw[I];omega
  rw[this];rfl
 have inj : ∀{a b:Nat},a<r->b<r->ls a=ls b->a=b:=λ{a b} o U e=>by
  rcases Cs a b with z | z | z
  ·have:=O.mono a b z U;omega
  ·exact z
  ·have:=O.mono b a z o;omega
 have l : ∀i,(if (!wY r ls i)=dk then (1:Int)else 0)+zu (λj=>if ls j=i then 1 else 0) r=1:=λi=>by
  cases h:wY r ls i with
  | false=>
   rw[zQ (g:=λ_=>0) λj d=>MQ λz=>by(rw[u9.mpr ⟨j,d,z⟩]at h;cases h),zW];rfl
  | true=>
   obtain⟨j,d,e⟩:=u9.mp h;rw[jK (i:=j) d λc Y Q=>MQ λz=>Q (inj Y d<|by rw[z,e]),GY e];rfl
 have R:zu (λi=>(if (!wY r ls i)=dk then (1:Int)else 0)+zu (λj=>if ls j=i then 1 else 0) r) n=n:=by
  rw[zQ (g:=λ_=>1) λi _=>l i];generalize n=k
  induction k with
  | zero=>rfl
  | succ k I=>show zu _ k+1=_;rw[I];omega
 rw[qc,<- f,kC]at R;have m:zu (λj=>zu (λi=>if ls j=i then (1:Int)else 0) n) r=r:=by
  have:zu (λj=>zu (λi=>if ls j=i then (1:Int)else 0) n) r=zu (λ_=>1) r:=zQ λj d=>by rw[jK (i:=ls j) (O.lt j d) λc _ Q=>MQ<|Br Q,GY rfl]
  rw[this];generalize r=k
  induction k with
  | zero=>rfl
  | succ k I=>show zu _ k+1=_;rw[I];omega
 rw[m]at R;omega
theorem V6(O:Pr p)(C:n<=100)(z:h6 p n r Bs ls){i:Nat}:jM [.int p,.lst<|zF r n Bs,.tup (zz n<|jA i)]=di (.val<|.tup<|zz (gv n r ls).length λc=>l8 p n r Bs ls c i):=by
 have B:=jb;have U:=O.pos;have I:n<=lim:=by omega
 have E:=eW z;have Y:r<=lim:=by omega
 have ld : ∀j,j<r->qA [.tup (zz n<|Bs j)]=di (.val<|.int<|ls j):=λj d=>af I (Bs j) (z.lt j d) (λi b=>z.m9 j i d b) (by rw[z.one j d];decide);let v:Vc:=jA i;have Q : ∀x,0<=v x/\v x<p:=λx=>by have:=O.two;show 0<=(if _ then (1:Int)else 0)/\(if _ then (1:Int)else 0)<p;split<;>omega
 have h:zz n v=zz n (kM p Bs ls v 0):=xk λx _=>by show v x=(v x - 0)%p;rw[Eo,AK (Q x).1 (Q x).2]
 have f : ∀j,j<r->jE [.int p,.tup<|zz n<|kM p Bs ls v j,.tup<|zz n<|Bs j,.int (ls j)]=di (.val<|.tup<|zz n<|kM p Bs ls v<|j+1):=λj d=>by
  rw[kx O I (z.lt j d) (kM p Bs ls v j) (Bs j) λx _=>⟨AU _ ⋯,AF _ U⟩];congr 3;refine xk λx _=>?_;have u:kM p Bs ls v j (ls j)=v (ls j)%p:=by show(v (ls j) - _)%p=_;rw[zQ (g:=λ_=>0) λc A=>by rw[z.n4 c j ⋯ d ⋯];simp,zW,Eo]
  show((v x - zu (λj=>v (ls j)*Bs j x) j)%p - kM p Bs ls v j (ls j)*Bs j x)%p=(v x - (zu (λj=>v (ls j)*Bs j x) j+v (ls j)*Bs j x))%p;rw[u,Fs,BE,QR,<- Fs];congr 1;omega
 have L : ∃a,FF [.val (.int p),.val<|.lst<|zF r n Bs,.val<|.tup<|zz n v,.val<|.tup<|zz n v,.no,.no]=di (.next [.val (.int p),.val<|.lst<|zF r n Bs,.val<|.tup<|zz n v,.val<|.tup<|zz n<|kM p Bs ls v r,a,.no]):=by
  unfold FF;rw[xB];show ∃a,Option.bind (di (zF r n Bs)) _=_;rw[Af];obtain⟨γ',e,a,rfl⟩:=wo (T:= .nm 4) (g:=λj=>D.tup<|zz n<|Bs j) (F:=(jq 3<|zG jE<|zc (zd 0)<|zc (zd 3)<|zc (zd 4)<|zc (zG qA<|zc (zd 4) zJ) zJ))
   (λs γ=>∃a,γ=[.val (.int p),.val<|.lst<|zF r n Bs,.val<|.tup<|zz n v,.val<|.tup<|zz n<|kM p Bs ls v s,a,.no]) r (γ:=[.val (.int p),.val<|.lst<|zF r n Bs,.val<|.tup<|zz n v,.val<|.tup<|zz n v,.no,.no]) ⟨.no,by rw[<- h]⟩ (by
   rintro s R γ ⟨a,rfl⟩;refine⟨[.val (.int p),.val<|.lst<|zF r n Bs,.val<|.tup<|zz n v,.val<|.tup<|zz n<|kM p Bs ls v s,.val<|.tup<|zz n<|Bs s,.no],_,rfl,?_,.val<|.tup<|zz n<|Bs s,rfl⟩;simp[ld s R,f s R])
  exact⟨a,e⟩
 obtain⟨a,L⟩:=L;have m:zL (.nm 0) z7 (zG qA<|zc (zd 0) zJ) [.no] (zF r n Bs)=di ((Ad r).map λj=>D.int ((ls j:Nat):Int)):=by unfold zF;refine zr _ _ λj d=>zv rfl rfl ?_;simp[ld j (Ah.mp d)]
 have o:zL (.tp [0,1]) (sB<|kc (zd 0)<|zf 2) (zd 1) [.no,.no,.val (.lst<|(Ad r).map λj=>D.int ((ls j:Nat):Int))] ((Ad n).map λ(x:Nat)=>D.tup [.int x,.int (kM p Bs ls v r x)]) =
  di (((Ad n).filter λ(c:Nat)=> !decide ((c:Int)∈(Ad r).map λj=>((ls j:Nat):Int))).map λ(x:Nat)=>D.int<|kM p Bs ls v r x):=by
  refine jm (λ(c:Nat)=> !decide ((c:Int)∈(Ad r).map λj=>((ls j:Nat):Int))) (λ(x:Nat)=>D.int<|kM p Bs ls v r x) _ λi b=>⟨_,rfl,?_,λ_=>rfl⟩;have im:=kH ls<|Ad r;show((wg<|(Ad r).map λj=>D.int ((ls j:Nat):Int)).map λl=>D.bl<|!decide ((i:Int)∈l)).bind p3=_;rw[im];rfl
 have t:((Ad n).filter λ(c:Nat)=> !decide ((c:Int)∈(Ad r).map λj=>((ls j:Nat):Int)))=gv n r ls:=List.filter_congr λc _=>by
  congr 1;rw[Cd,u9,decide_eq_true_eq,Cm];constructor
  ·rintro⟨j,d,e⟩;exact⟨j,Ah.mp d,by omega⟩
  ·rintro⟨j,d,e⟩;exact⟨j,Ah.mpr d,by omega⟩
 rw[ig];refine j7<|zo (γ':=[.val (.int p),.val<|.lst<|zF r n Bs,.val<|.tup<|zz n v,.val<|.tup<|zz n v,.no,.no]) rfl<|zo L<|zo (γ':=[.val (.int p),.val<|.lst<|zF r n Bs,.val<|.tup<|zz n v,.val<|.tup<|zz n<|kM p Bs ls v r,a,.val (.lst<|(Ad r).map λj=>D.int ((ls j:Nat):Int))]) ?_ ?_
 ·simp[Gw,je,jf,Y,m]
 ·have w:xt (zz n<|kM p Bs ls v r)=(Ad n).map λ(x:Nat)=>D.tup [.int x,.int (kM p Bs ls v r x)]:=by rw[zA,ZI]
  have y:(Ad n).length<=lim:=by simpa using I
  simp[Gx,je,w,I,qX];rw[o,t];simp only[AO,Bf.injEq];rw[bw];rfl
end
theorem vk(xs:List D){a:Nat}(h:a<=xs.length):wx xs dn (di (a:Int))=xs.take a:=by
 have d : ¬((a:Int)<0):=by omega
 simp[wx,JI,d,Co h]
theorem ZL(xs:List D){a:Nat}(h:a<=xs.length):wx xs (di (a:Int)) dn=xs.drop a:=by
 have d : ¬((a:Int)<0):=by omega
 simp only[wx,JI,d,if_false,BQ,Co h];rw[Cg (by rw[Fo];omega)]
section
variable{p:Int}
theorem lX(z:Pr p){n C:Nat}(Q:n<=16)(H:C<=20)(M:GK) : ∃q K l,j1 [.int p,jy n C M]=di (.val<|jy n q λi c=>K c i)/\h6 p n q K l/\(∀v,Span p n (fy q K) v↔DZ p C n (λi j=>M j i) v):=by have R:=jb;obtain⟨q,K,l,s,e,I,O,U,Y⟩:=Kh z H (show n<=20 by omega) λi j=>M j i;have d:=xD M (show n<=lim by omega) (show C<=lim by omega);have a:=YM (q:=q) (h:=n) K ⋯ ⋯;refine⟨q,K,l,?_,I,O⟩;rw[lZ];refine j7 ?_;simp only[jy]at d e a ⊢;simp[F8,jD,Ag,jf,d,e,a]
theorem lY(z:Pr p){n H:Nat}(I:n<=100)(J:H<=lim)(M:GK) : ∃r C ls,jj [.int p,jy n H M]=di (.val<|jy n (gv n r ls).length λi c=>l8 p n r C ls c i)/\h6 p n r C ls/\(∀v,Span p n (fy r C) v↔Span p n (fy H λj i=>M i j) v):=by
 have U:=jb;obtain⟨r,C,ls,e,d,Q⟩:=YX z I J M;have O:n<=lim:=by omega
 have a:=Xt O;have Y:=JE d;refine⟨r,C,ls,?_,d,Q⟩;have R:zL (.nm 0) z7 (zG jM<|zc (zd 1)<|zc (zd 2)<|zc (zd 0) zJ) [.no,.val<|.int p,.val (.lst<|zF r n C)] (zF n n λi j=>if i=j then 1 else 0)=di (zF n (gv n r ls).length λi c=>l8 p n r C ls c i):=by unfold zF;refine zr _ _ λi f=>zv rfl rfl ?_;have:=V6 z I d (i:=i);show(jM [.int p,.lst<|zF r n C,.tup (zz n<|jA i)]).map nz=_;rw[this];rfl
 rw[ma];refine j7<|zo (γ':=[.val (.int p),.val<|jy n H M,.val<|.lst<|zF r n C,.no]) ?_ (zo (γ':=[.val (.int p),.val<|jy n H M,.val<|.lst<|zF r n C,.val (.lst<|zF n (gv n r ls).length λi c=>l8 p n r C ls c i)]) ?_ ?_)
 ·simp[F5,jD,Ag,e]
 ·simp only[jy]at a ⊢
  simp[F6,jf,a,je,qX,O];rw[R]
 ·have b:(n:Int) - (r:Int)=((gv n r ls).length:Int):=by omega
  simp[F7,jy,jf,b]
theorem kT{h q:Nat}(d:h<=lim)(z:q<=lim)(b e:Bool)(f:GK):jU [.str (qm<|f9 b),.int q,.tup<|zF h q f,.bl e]=di (.val<|.tup [.str (qm<|f9 !b),if e=dk then jy h q f else jy q h λi j=>f j i]):=by
 have I:=xD f d z;have O:=w9 b;rw[mU];refine j7<|zo (γ':=[.val (.str<|qm<|f9 b),.val<|.int q,.val<|.tup<|zF h q f,.val<|.bl e,.val (jy h q f)]) ?_ ?_
 ·simp[FT,jD,Ag,jf,jy]
 ·cases e<;>simp[FU,O,I]
variable{w:GX}{wd:GZ}{T:GV}{m k n q:Nat}
noncomputable def h8(k:Nat)(w:GX)(a:Nat):Bool:=if a+1=k\/a=k then !w a else w a
def g5(k q:Nat)(wd:GZ)(r:Nat):Nat:=if r=k then q else wd r
noncomputable def i0(p:Int)(e:Bool)(k wl:Nat)(G:GK)(T:GV)(a i c:Nat):Int:=
 if a+1=k then (if e=dk then G i c else G c i)%p else if a=k then (if e=dk then G (wl+i) c else G (wl+c) i)%p else T a i c
theorem JC(i j:Int)(x y:D)(a:Int):w4 [.int i,.int j] [x,y] a=if i=a then di x else if j=a then di y else dn:=by simp[w4]
theorem wF{wl wr:Nat}(S:n=wl+wr)(H:wl=if 0<k then wd (k - 1)else 0)(J:wr=if k<m then wd (k+1)else 0)(hm:m<=5)(hk:k<=m)(L : ∀k,wd k<=100)(hq:q<=100)(e:Bool)(M:(0<k->w (k - 1) = !e)/\(k<m->w k=e))(G:GK)(C : ∀i c,i<n->c<q->0<=G i c/\G i c<p) :
 qu [jS p m w wd T,.int (k:Int),jy n q G,.bl e]=di (.val<|.tup<|jn m (h8 k w) (g5 k q wd)<|i0 p e k wl G T):=by
 have hl:=jb;have b6:wl<=100:=by rw[H];split;exact L _;omega
 have b7:wr<=100:=by rw[J];split;exact L _;omega
 let z:D:= .tup (zF wl q G);let I:D:= .tup (zF wr q λi=>G<|wl+i);let d:D:= .h7 [.int ((k:Int) - 1),.int (k:Int)] [z,I];have b8:(jn m w wd T).length=m:=by simp[jn]
 have W:wx (zF n q G) dn (di (wl:Int))=zF wl q G:=by rw[vk _ (by simp;omega),S];unfold zF;rw[<- List.map_take,List.take_range,Co ⋯]
 have sM:wx (zF n q G) (di (wl:Int)) dn=zF wr q λi=>G (wl+i):=by rw[ZL _ (by simp;omega),S];unfold zF;rw[<- List.map_drop,Bm,List.drop_range',Bm];refine CA ⋯ λi l r=>?_;simp
 have one : ∀a,a<m->(Ym (sB<|eQ (zd 7)<|zd 5) (zG jU<|zc (dv (zf 8)<|zt<|.int 0)<|zc (dv (zf 2)<|zt<|.int 1)<|zc (aD (zd 5)<|zd 7)<|zc (zd 3) zJ)<|zd 8) [.val (jS p m w wd T),.val<|.int k,.val<|jy n q G,.val<|.bl e,.val<|.int wl,.val d,.own<|jn a (h8 k w) (g5 k q wd)<|i0 p e k wl G T,.val<|.int (a:Int),.val (kn w wd T a)]=di (kn (h8 k w) (g5 k q wd) (i0 p e k wl G T) a):=λa N=>by
  by_cases l:a+1=k
  ·have P:0<k:=by omega
   have t:=M.1 P;rw[show k - 1=a by omega]at t;have Q:w4 [.int ((k:Int) - 1),.int (k:Int)] [z,I] (a:Int)=di z:=by rw[JC,GY ⋯]
   have y:=kT (h:=wl) (q:=q) ⋯ ⋯ (w a) e G;have B:wl=wd a:=by rw[H,GY P,show k - 1=a by omega]
   have R:(.tup [.str (qm<|f9 !w a),if e=dk then jy wl q G else jy q wl λi j=>G j i]:D)=kn (h8 k w) (g5 k q wd) (i0 p e k wl G T) a:=by
    unfold kn;have U:h8 k w a = !w a:=GY<|.inl l;have u1:g5 k q wd a=wd a:=MQ ⋯;have u2:g5 k q wd (a+1)=q:=GY l;unfold e7 fh;rw[U,t];cases e
    ·simp only[CS,Ed,Bv,if_false,u1,u2]
     rw[B];congr 2;rw[CU];refine⟨qg λi j o O=>?_,rfl⟩;have:=C j i ⋯ o;show _=(if a+1=k then (if dt=dk then G i j else G j i)%p else _);rw[GY l,MQ ⋯,AK this.1 this.2]
    ·simp only[Ed,CS,if_true,u1,u2]
     rw[B];congr 2;rw[CU];refine⟨qg λi j o O=>?_,rfl⟩;have:=C i j ⋯ O;show _=(if a+1=k then (if dk=dk then G i j else G j i)%p else _);rw[GY l,GY rfl,AK this.1 this.2]
   rw[<- R];have Y:jf (jy n q G)=di (.T,[.int n,.int q,.tup (zF n q G)]):=rfl;simp[eQ,aD,d,Q,WX,Y,z,y]
  ·by_cases r:a=k
   ·subst r
    have t:=M.2 N;have Q:w4 [.int ((a:Int) - 1),.int (a:Int)] [z,I] (a:Int)=di I:=by rw[JC,MQ ⋯,GY rfl]
    have y:=kT (h:=wr) (q:=q) ⋯ ⋯ (w a) e λi=>G<|wl+i;have E:wr=wd (a+1):=by rw[J,GY N]
    have R:(.tup [.str (qm<|f9 !w a),if e=dk then jy wr q (λi=>G<|wl+i)else jy q wr λi j=>G (wl+j) i]:D)=kn (h8 a w) (g5 a q wd) (i0 p e a wl G T) a:=by
     unfold kn;have U:h8 a w a = !w a:=GY<|.inr rfl;have u1:g5 a q wd a=q:=GY rfl;have u2:g5 a q wd (a+1)=wd (a+1):=MQ ⋯;unfold e7 fh;rw[U,t];cases e
     ·simp only[CS,Ed,Bv,if_false,if_true,u1,u2]
      rw[E];congr 2;rw[CU];refine⟨qg λi j o O=>?_,rfl⟩;have:=C (wl+j) i ⋯ o;show _=(if a+1=a then _ else if a=a then (if dt=dk then G (wl+i) j else G (wl+j) i)%p else _);rw[MQ ⋯,GY rfl,MQ ⋯,AK this.1 this.2]
     ·simp only[Ed,CS,Bv,if_false,if_true,u1,u2]
      rw[E];congr 2;rw[CU];refine⟨qg λi j o O=>?_,rfl⟩;have:=C (wl+i) j ⋯ O;show _=(if a+1=a then _ else if a=a then (if dk=dk then G (wl+i) j else G (wl+j) i)%p else _);rw[MQ ⋯,GY rfl,GY rfl,AK this.1 this.2]
    rw[<- R];have Y:jf (jy n q G)=di (.T,[.int n,.int q,.tup (zF n q G)]):=rfl;simp[eQ,aD,d,Q,WX,Y,I,y]
   ·have Q:w4 [.int ((k:Int) - 1),.int (k:Int)] [z,I] (a:Int)=dn:=by rw[JC,MQ ⋯,MQ ⋯]
    have R:kn (h8 k w) (g5 k q wd) (i0 p e k wl G T) a=kn w wd T a:=by unfold kn;have U:h8 k w a=w a:=MQ ⋯;have u1:g5 k q wd a=wd a:=MQ ⋯;have u2:g5 k q wd (a+1)=wd (a+1):=MQ ⋯;unfold e7 fh;rw[U,u1,u2];congr 2;rw[CU];refine⟨qg λi j o O=>?_,rfl⟩;show(if a+1=k then _ else if a=k then _ else _)=_;rw[MQ l,MQ r]
    rw[R];simp[eQ,d,Q]
 have u : ∃b f,D3 [.val (jS p m w wd T),.val<|.int k,.val<|jy n q G,.val<|.bl e,.val<|.int wl,.val d,.own [],.no,.no]=di (.next [.val (jS p m w wd T),.val<|.int k,.val<|jy n q G,.val<|.bl e,.val<|.int wl,.val d,.own<|jn m (h8 k w) (g5 k q wd)<|i0 p e k wl G T,b,f]):=by
  unfold D3;rw[xB];have A:Vw (dv (zf 0)<|zt<|.int 2) [.val (jS p m w wd T),.val<|.int k,.val<|jy n q G,.val<|.bl e,.val<|.int wl,.val d,.own [],.no,.no]=di ((Ad m).map λ(k:Nat)=>D.tup [.int k,kn w wd T k]):=by rw[<- ZI];rfl
  rw[A,Af];obtain⟨γ',eq,b,f,rfl⟩:=wo (T:= .tp [7,8]) (g:=λ(a:Nat)=>D.tup [.int a,kn w wd T a]) (F:=(qC 6<|Ym (sB<|eQ (zd 7)<|zd 5) (zG jU<|zc (dv (zf 8)<|zt<|.int 0)<|zc (dv (zf 2)<|zt<|.int 1)<|zc (aD (zd 5)<|zd 7)<|zc (zd 3) zJ)<|zd 8))
   (λs γ=>∃b f,γ=[.val (jS p m w wd T),.val<|.int k,.val<|jy n q G,.val<|.bl e,.val<|.int wl,.val d,.own<|jn s (h8 k w) (g5 k q wd)<|i0 p e k wl G T,b,f]) m (γ:=[.val (jS p m w wd T),.val<|.int k,.val<|jy n q G,.val<|.bl e,.val<|.int wl,.val d,.own [],.no,.no]) ⟨.no,.no,rfl⟩ (by
   rintro s hs γ ⟨b,f,rfl⟩;refine⟨[.val (jS p m w wd T),.val<|.int k,.val<|jy n q G,.val<|.bl e,.val<|.int wl,.val d,.own<|jn s (h8 k w) (g5 k q wd)<|i0 p e k wl G T,.val<|.int (s:Int),.val (kn w wd T s)],_,rfl,?_,.val<|.int (s:Int),.val<|kn w wd T s,rfl⟩;have X:(jn s (h8 k w) (g5 k q wd)<|i0 p e k wl G T).length<lim:=by simp[jn];omega
   rw[yx,one s hs];simp only[Av,Au,jV,Af,GY X];simp[jn,BA])
  exact⟨b,f,eq⟩
 obtain⟨b,f,u⟩:=u;rw[ni];refine j7<|zo (γ':=[.val (jS p m w wd T),.val<|.int k,.val<|jy n q G,.val<|.bl e,.val<|.int wl,.no,.no,.no,.no]) ?_ (zo (γ':=[.val (jS p m w wd T),.val<|.int k,.val<|jy n q G,.val<|.bl e,.val<|.int wl,.val d,.no,.no,.no]) ?_ (zo (γ':=[.val (jS p m w wd T),.val<|.int k,.val<|jy n q G,.val<|.bl e,.val<|.int wl,.val d,.own [],.no,.no]) rfl<|zo u rfl))
 ·rw[H]
  by_cases K:0<k
  ·have x:(0:Int)<(k:Int):=by omega
   have Z:(k:Int) - 1=((k - 1:Nat):Int):=by omega
   have r:k - 1<m+1:=by omega
   simp[D2,jD,Ag,jW,K,x,Z,jI,r]
  ·have x : ¬(0:Int)<(k:Int):=by omega
   simp[D2,jD,Ag,K,x]
 ·have Y:jf (jy n q G)=di (.T,[.int n,.int q,.tup (zF n q G)]):=rfl
  have h3 : ¬(k:Int) - 1=(k:Int):=by omega
  simp[FR,oW,Y,W,sM,h3,d,z,I]
end
section
variable{p:Int}{w:GX}{wd:GZ}{T:GV}{m k n q wl wr:Nat}
noncomputable def yk(e:Bool)(k wl:Nat)(T:GV)(i c:Nat):Int:=if i<wl then (if e=dk then T (k - 1) c i else T (k - 1) i c)else (if e=dk then T k c (i - wl)else T k (i - wl) c)
theorem V4(Q:wl=if 0<k then wd (k - 1)else 0)(I:wr=if k<m then wd (k+1)else 0)(C:k<=m)(e:Bool)(R:(0<k->w (k - 1) = !e)/\(k<m->w k=e)) :
 ((ah m k).flatMap λa=>mu e w wd T a)=zF (wl+wr) (wd k) (yk e k wl T):=by
 have U:0<k->mu e w wd T (k - 1)=zF wl (wd k) (yk e k wl T):=λb=>by
  have O:=R.1 b;have Y:k - 1+1=k:=by omega
  have d:wl=wd (k - 1):=by rw[Q,GY b]
  unfold mu e7 fh;rw[O,Y];cases e
  ·simp only[CS,Bv,if_false,if_true]
   rw[<- d];refine kI λi j g _=>?_;show _=if i<wl then _ else _;rw[GY g,MQ ⋯]
  ·simp only[Ed,Bv,if_false,if_true]
   rw[<- d];refine kI λi j g _=>?_;show _=if i<wl then _ else _;rw[GY g,GY rfl]
 have h:k<m->mu e w wd T k=zF wr (wd k) λi=>yk e k wl T (wl+i):=λb=>by
  have O:=R.2 b;have d:wr=wd (k+1):=by rw[I,GY b]
  unfold mu e7 fh;rw[O];cases e
  ·simp only[Bv,if_false,if_true]
   rw[<- d];refine kI λi j g _=>?_;show _=if wl+i<wl then _ else _;rw[MQ ⋯,MQ ⋯,BC]
  ·simp only[Bv,if_false,if_true]
   rw[<- d];refine kI λi j g _=>?_;show _=if wl+i<wl then _ else _;rw[MQ ⋯,GY rfl,BC]
 unfold ah;by_cases b:0<k
 ·by_cases f:k<m
  ·rw[GY b,GY f]
   show mu e w wd T (k - 1)++(mu e w wd T k++[])=_;rw[Bp,U b,h f];exact KW _ _ _ _ _ _ (λ_ _ _ _=>rfl) λ_ _ _ _=>rfl
  ·rw[GY b,MQ f]
   show mu e w wd T (k - 1)++[]=_;rw[Bp,U b,I,MQ f];rfl
 ·have z:wl=0:=by rw[Q,MQ b]
  by_cases f:k<m
  ·rw[MQ b,GY f]
   show mu e w wd T k++[]=_;rw[Bp,h f,z,BG];refine kI λi j _ _=>?_;rw[BG]
  ·rw[MQ b,MQ f,z,I,MQ f]
   rfl
theorem kO(C:k<=m)(O:m<=5):j4 (.tup<|wx (zz (m+1) λr=>(wd r:Int)) dn (di (k:Int))++[D.int (q:Int)]) (.tup<|wx (zz (m+1) λr=>(wd r:Int)) (di ((k:Int)+1)) dn)=di (.tup<|zz (m+1) λr=>(g5 k q wd r:Int)):=by
 have Q:=jb;have e:((k:Int)+1)=((k+1:Nat):Int):=by omega
 rw[e,vk _ (by simp;omega),ZL _ (by simp;omega)];have d:(zz (m+1) λr=>(wd r:Int)).take k++[D.int (q:Int)]++(zz (m+1) λr=>(wd r:Int)).drop (k+1)=zz (m+1) λr=>(g5 k q wd r:Int):=by
  refine Fh λi=>?_;rcases Cs i k with h | h | h
  ·rw[CQ,Bk (by simp;omega),List.getElem?_take_of_lt h,qo _ ⋯,qo _ ⋯]
   simp[g5,show i≠k by omega]
  ·subst h
   rw[CQ,AX (by simp;omega),qo _ ⋯];simp[g5,Co (show i<=m+1 by omega)]
  ·rw[AX (by simp;omega)]
   have z:((zz (m+1) λr=>(wd r:Int)).take k++[D.int (q:Int)]).length=k+1:=by simp;omega
   rw[z,List.getElem?_drop,show k+1+(i - (k+1))=i by omega];by_cases a:i<m+1
   ·rw[qo _ a,qo _ a];simp[g5,show i≠k by omega]
   ·rw[EH (by simp;omega),EH (by simp;omega)]
 have I:((zz (m+1) λr=>(wd r:Int)).take k++[D.int (q:Int)]).length+((zz (m+1) λr=>(wd r:Int)).drop (k+1)).length<=lim:=by simp;omega
 show(if _<=lim then di (D.tup<|_++_)else dn)=_;rw[GY I,d]
theorem QH{n:Nat}{G:Vc->Prop}{z v:Vc}(h:Span p n G v)(d : ∀g,G g->zu (λi=>z i*g i) n%p=0):zu (λi=>z i*v i) n%p=0:=by
 induction h with
 | @zero v h=>
  rw[jx (g:=λ_=>0) λi a=>by rw[AJ,h i a];simp,zW];simp
 | @step v w g c I b h O=>
  have e:zu (λi=>z i*v i) n%p=(zu (λi=>z i*w i) n+zu (λi=>z i*g i) n*c)%p:=by rw[<- kD,<- qc];refine jx λi a=>?_;rw[fW rfl (h i a),EY,Ex,Cp c]
  rw[e,Bx,O,AJ,d g I];simp
end
def Vp:=(xA 2<|ql zJ)
noncomputable def Je:=(js (sB<|zy n2 (zd 1)<|zt<|.int 0) (qC 2<|kP<|zc (zy w5 (zd 1)<|zt<|.int 1)<|zc (dv (zq<|dv (zq<|dv (zq<|dv (zf 0)<|zt<|.int 2)<|zy w5 (zd 1)<|zt<|.int 1)<|zt<|.int 1)<|zt<|.int 2) zJ) q8)
noncomputable def Jd:=(js (sB<|zy C8 (zd 1)<|yS<|zq<|dv (zf 0)<|zt<|.int 2) (qC 2<|kP<|zc (zy j4 (zd 1)<|zt<|.int 1)<|zc (dv (zq<|dv (zq<|dv (zq<|dv (zf 0)<|zt<|.int 2)<|zd 1)<|zt<|.int 1)<|zt<|.int 2) zJ) q8)
def Vo:=(wM 2)
def zZ:=jh 3<|zD Vp<|zD Je<|zD Jd Vo
noncomputable def Jz:=(jq 3<|jF<|jg jz<|zc (zd 0)<|zc (zd 1)<|zc (zd 2) zJ)
noncomputable def Jy:=(jq 4<|jF<|zE (zB<|zf 3) (.nm 0) 1 [1] z7 (dv (zX<|zE (zC<|zd 1) (.nm 0) 1 [0] (sB<|zy l6 (dv (zf 1)<|zd 0)<|zt<|.int 0) (zd 0))<|zt<|.int 0))
def KQ:=(xA 5<|ql zJ)
noncomputable def vj:=(x9 (zC<|zd 1) (.nm 6)<|js (sB<|kc (zd 6)<|zf 4) (zD (xA 7<|zE (zC<|zd 1) (.nm 0) 1 [6] z7 (kX<|zy hI (zd 0)<|zd 1))<|zD (x9 (cN (zd 3)<|zd 4) (.tp [8,9])<|vE 7 (zd 9)<|zy xE (zy w5 (zt<|.int 0)<|dv (zf 8)<|zd 6)<|zd 0)<|aC 7<|qC 5<|zd 7) q8)
noncomputable def Jx:=(aC 5<|wN<|jg jz<|zc (zd 0)<|zc (zd 1)<|zc (zd 5) zJ)
def qj:=jh 10<|zD Jz<|zD Jy<|zD KQ<|zD vj Jx
noncomputable def KN:=(x9 (zB<|zq<|zd 2) (.nm 3)<|zD (jq 4<|dv (zX<|zE (zC<|yS<|zf 3) (.nm 0) 1 [3] (sB<|zy l6 (dv (zf 1)<|zd 0)<|zt<|.int 0) (zd 0))<|zt<|.int 0)<|jq 1<|jF<|jg zR<|zc (zd 0)<|zc (zd 1)<|zc (zd 3)<|zc (dv (zf 1)<|zd 4) zJ)
def dB:=(wM 1)
def qi:=jh 5<|zD KN dB
noncomputable def bU:=(xA 3<|zE (zC<|dv (zq<|dv (zf 1)<|zt<|.int 1)<|zd 2) (.nm 0) 1 [] z7 (jF<|ql zJ))
noncomputable def bT:=(x9 (zB<|zq<|jF<|jg zZ<|zc (zd 1)<|zc (zd 2) zJ) (.tp [4,5])<|x9 (zC<|dv (zq<|dv (zf 1)<|zt<|.int 1)<|zd 2) (.nm 6)<|vE 3 (zd 6)<|jF<|wQ (zq<|dv (zf 3)<|zd 6)<|zX<|xp<|zq<|dv (zf 5)<|zd 6)
noncomputable def bS:=(aC 3<|jq 7<|jF<|jg qj<|zc (zd 0)<|zc (iF<|zX<|zE (zB<|zX<|jg zZ<|zc (zd 1)<|zc (zd 2) zJ) (.tp [0,1]) 2 [1] z7 (dv (zq<|dv (zf 2)<|zt<|.int 1)<|zd 0))<|zc (zd 3) zJ)
noncomputable def mJ:=(Yl 8<|JT (YE 8 9<|zt<|.int 0)<|JT (gH 8 (zB<|zq<|jF<|jg zZ<|zc (zd 1)<|zc (zd 2) zJ) (.tp [4,5])<|JT (gG (zd 4)<|zM<|zX<|zE (zC<|dv (zq<|dv (zf 1)<|zt<|.int 1)<|zd 4) (.nm 0) 1 [7,9] z7 (zM<|zX<|zE (zB<|zf 1) (.nm 0) 1 [0,2] z7 (dv (zf 0)<|zy j4 (zd 2)<|zd 1)))<|YE 8 9<|zy j4 (zd 9)<|dv (zq<|dv (zf 1)<|zt<|.int 1)<|zd 4) nP)
def gK:=(xo<|kP<|zc (yS<|zf 7)<|zc (zd 8) zJ)
def qk:=jh 10<|zD bU<|zD bT<|zD bS<|zD mJ gK
def wC:=(jq 3<|jF<|ql zJ)
noncomputable def xV:=(x9 (zB<|zq<|jF<|jg zZ<|zc (zd 1)<|zc (zd 2) zJ) (.tp [4,5])<|jq 3<|jF<|wQ (zf 3)<|zX<|xp<|zf 5)
noncomputable def xU:=(jq 6<|jF<|jg jz<|zc (zd 0)<|zc (yS<|zf 3)<|zc (jF<|zE (zC<|dv (zq<|dv (zf 1)<|zt<|.int 1)<|zd 2) (.nm 0) 1 [3] z7 (jF<|zE (zB<|zf 1) (.nm 0) 1 [0] z7 (dv (zf 0)<|zd 1))) zJ)
noncomputable def xT:=(jq 7<|jF<|zE (zB<|zf 6) (.nm 0) 1 [3] z7 (dv (zX<|zE (zC<|yS<|zf 1) (.nm 0) 1 [0] (sB<|zy l6 (dv (zf 1)<|zd 0)<|zt<|.int 0) (zd 0))<|zt<|.int 0))
noncomputable def xS:=(jq 8<|jF<|zE (zC<|yS<|zf 3) (.nm 0) 1 [7] (sB<|kc (zd 0)<|zf 1) (zd 0))
noncomputable def xR:=(jq 9<|jF<|zE (zC<|yS<|zf 3) (.nm 0) 1 [0,3,6] z7 (zG qi<|zc (zd 1)<|zc (jF<|zE (zC<|yS<|zf 2) (.nm 0) 1 [0] z7 (kX<|zy hI (zd 0)<|zd 1))<|zc (zd 3) zJ))
noncomputable def wB:=(Yl 10<|JT (YE 10 11<|zt<|.int 0)<|JT (gH 10 (zB<|zq<|jF<|jg zZ<|zc (zd 1)<|zc (zd 2) zJ) (.tp [4,5])<|JT (gG (zd 4)<|zM<|zX<|zE (zB<|zf 8) (.nm 0) 1 [1,4,9,11] z7 (zM<|zX<|zE (zC<|dv (zq<|dv (zf 1)<|zt<|.int 1)<|zd 2) (.nm 0) 1 [0,3,4] z7 (dv (zq<|dv (zf 2)<|zy j4 (zd 3)<|zd 0)<|zd 1)))<|YE 10 11<|zy j4 (zd 11)<|dv (zq<|dv (zf 1)<|zt<|.int 1)<|zd 4) nP)
def k8:=(xo<|kP<|zc (yS<|zf 8)<|zc (zd 10) zJ)
noncomputable def jv:=jh 12<|zD wC<|zD xV<|zD xU<|zD xT<|zD xS<|zD xR<|zD wB k8
noncomputable def xm:=jh 2 (xo (cP (Dk (zy hI (zd 1) (zt (.int 0))) (zy hI (qv (zd 0) (zy w5 (zd 1) (zt (.int 1)))) (zt (.str "l")))) (Dk (zy hI (zd 1) (wO (zd 0))) (zy hI (qv (zd 0) (zd 1)) (zt (.str "r"))))))
def bZ:=(jq 4<|zG xl<|zc (zd 2)<|zc (zd 3) zJ)
noncomputable def Wz:=(js (sB<|zd 4) (Vv (.tp [5,6])<|zG qk<|zc (zd 0)<|zc (zd 1)<|zc (zd 3) zJ)<|Vv (.tp [5,6])<|zG jv<|zc (zd 0)<|zc (zd 1)<|zc (zd 3) zJ)
def bY:=(xA 7<|xp<|zq<|dv (zf 1)<|zt<|.int 2)
noncomputable def bX:=(x9 (Kt (zd 6)) (.nm 8) (zD (jq 9 (aB (zd 8) (zd 3))) (zD (jq 10 (kP (zc (zd 5) (zc (dv (zq (dv (zf 1) (zt (.int 1)))) (zd 8)) zJ)))) (zD (js (sB (zd 4)) (jq 10 (kP (zc (dv (zq (dv (zf 1) (zt (.int 1)))) (zd 8)) (zc (zd 5) zJ)))) q8) (vE 7 (zd 9) (kP (zc (qv (zt (.str "lr")) (Zl (qv (zd 2) (zd 9)))) (zc (kP (zc (dv (zf 10) (zt (.int 0))) (zc (dv (zf 10) (zt (.int 1))) (zc (aD (zd 6) (zd 8)) zJ)))) zJ))))))))
noncomputable def gL:=(xo<|kP<|zc (zd 0)<|zc (zy j4 (zy j4 (Vu (dv (zf 1)<|zt<|.int 1) YY<|p7<|zd 3)<|kP<|zc (zd 5) zJ)<|Vu (dv (zf 1)<|zt<|.int 1) (p7<|zy j4 (zd 3)<|zt<|.int 1) YY)<|zc (zM<|zf 7) zJ)
def qB:=jh 11<|zD bZ<|zD Wz<|zD bY<|zD bX gL
noncomputable def kA:=(xA 1<|wQ (zX<|ql<|zc (dv (zf 0)<|zt<|.int 0) zJ)<|zX<|xp<|zq<|dv (zf 0)<|zt<|.int 1)
noncomputable def kz:=(x9 (zB<|zq<|dv (zf 0)<|zt<|.int 2) (.tp [2,3])<|zD (Jh 1<|ql<|zc (dv (zf 3)<|zt<|.int 0)<|zc (dv (zf 3)<|zt<|.int 1) zJ)<|x9 (zB<|zq<|dv (zf 3)<|zt<|.int 2) (.nm 4)<|Xz 1<|zf 4)
noncomputable def yD:=(xo<|eS<|zX<|zE (zB<|zf 1) (.nm 0) 1 [] z7 (zG xZ<|zc (zd 0) zJ))
def jR:=jh 5<|zD kA<|zD kz yD
def gC:=(jq 1<|zG zP<|zc (zd 0)<|zc (zt<|.int 0) zJ)
noncomputable def gA:=(jq 2<|dv (zX<|ql<|zc (zt<|.int 2)<|zc (zt<|.int 3)<|zc (zt<|.int 5)<|zc (zt<|.int 7) zJ)<|zy xE (zd 1)<|zt<|.int 4)
noncomputable def gz:=(jq 3<|zy j4 (zt<|.int 1)<|zy xE (zy YL (zd 1)<|zt<|.int 4)<|zt<|.int 6)
noncomputable def gy:=(jq 4<|zG qp<|zc (zy YL (zd 1)<|zt<|.int 24)<|zc (zd 3) zJ)
noncomputable def gx:=(jq 5<|zG jT<|zc (zd 0)<|zc (zt<|.int 2)<|zc (zd 2)<|zc (zd 4)<|zc (zy w5 (zt<|.int 3)<|kX<|zy n2 (zd 3)<|zt<|.int 4) zJ)
noncomputable def gw:=(jq 6<|zy xE (zG zP<|zc (zd 0)<|zc (zt<|.int 1) zJ)<|zd 3)
noncomputable def gu:=(cO 100 (aF (xF<|sB<|zG xl<|zc (zd 4)<|zc (zd 6) zJ)<|xF<|sB<|zG xm<|zc (zd 4)<|zc (zd 6) zJ)<|jq 6<|zy xE (zy j4 (zd 6)<|zt<|.int 1)<|zd 3)
noncomputable def gr:=(jq 7<|zG qB<|zc (zd 2)<|zc (zd 5)<|zc (zd 4)<|zc (zd 6) zJ)
def gp:=(jq 8<|zG jZ<|zc (zd 5)<|zc (zd 6) zJ)
def Wd:=(xo<|cP (zy hI (zd 8)<|zd 7)<|zG jR<|zc (zd 8) zJ)
noncomputable def wG:=jh 9<|zD gC<|zD gA<|zD gz<|zD gy<|zD gx<|zD gw<|zD gu<|zD gr<|zD gp Wd
theorem XU:qj=jh 10 (zD Jz<|zD Jy<|zD KQ<|zD vj Jx):=rfl
theorem V8:qi=jh 5 (zD KN dB):=rfl
theorem Yk:zZ=jh 3 (zD Vp<|zD Je<|zD Jd Vo):=rfl
noncomputable def D9:=(vE 7 (zd 9)<|zy xE (zy w5 (zt<|.int 0)<|dv (zf 8)<|zd 6)<|zd 0)
noncomputable def Dg:=(js (sB<|kc (zd 6)<|zf 4) (zD (xA 7<|zE (zC<|zd 1) (.nm 0) 1 [6] z7 (kX<|zy hI (zd 0)<|zd 1))<|zD (x9 (cN (zd 3)<|zd 4) (.tp [8,9]) D9)<|aC 7<|qC 5<|zd 7) q8)
theorem mx:vj=x9 (zC<|zd 1) (.nm 6) Dg:=rfl
noncomputable def Hf:=(zD (jq 4<|dv (zX<|zE (zC<|yS<|zf 3) (.nm 0) 1 [3] (sB<|zy l6 (dv (zf 1)<|zd 0)<|zt<|.int 0) (zd 0))<|zt<|.int 0)<|jq 1<|jF<|jg zR<|zc (zd 0)<|zc (zd 1)<|zc (zd 3)<|zc (dv (zf 1)<|zd 4) zJ)
theorem me:KN=x9 (zB<|zq<|zd 2) (.nm 3) Hf:=rfl
section
variable{p:Int}{n r:Nat}{B:Nat->Vc}{l:GZ}
theorem XZ(d:h6 p n r B l){k:Nat}(C:k<r) : ∃L,((Ad n).filter λj=> !decide (B k j=0))=l k::L:=by
 have a:=d.lt k C;refine⟨((Ad<|n - (l k+1)).map (l k+1 + ·)).filter λj=> !decide (B k j=0),?_⟩
 conv=>lhs;rw[show n=l k+(1+(n - (l k+1)))by omega,Cv,Cv,AR,BP]
 rw[Ci,Ci,List.filter_eq_nil_iff.mpr λj z=>by have:=d.m9 k j C<|Ah.mp z;simp[this]]
 have I:=d.one k C;have:(λj=>l k+(1+j))=(l k+1 + ·):=funext λj=>by omega
 simp[I,Function.comp_def,this]
theorem v7(z:h6 p n r B l){k:Nat}(C:k<r):zL (.nm 0) (sB<|zy l6 (dv (zf 1)<|zd 0)<|zt<|.int 0) (zd 0) [Cell.no,Cell.val (.tup<|zz n<|B k)] ((Ad n).map λ(j:Nat)=>D.int j)=di (((Ad n).filter λj=> !decide (B k j=0)).map λ(j:Nat)=>D.int j):=by refine jm _ _ _ λj d=>⟨_,rfl,?_,λ_=>rfl⟩;have d:=Ah.mp d;simp[d]
theorem gm(I:n<=100)(d:h6 p n r B l){k:Nat}(C:k<r):dv (zX<|zE (zC<|zd 1) (.nm 0) 1 [0] (sB<|zy l6 (dv (zf 1)<|zd 0)<|zt<|.int 0) (zd 0)) (zt<|.int 0) [Cell.val (.tup<|zz n<|B k),Cell.val (.int n)]=di (.int (l k:Nat)):=by
 have O:=jb;have z:n<=lim:=by omega
 obtain⟨L,e⟩:=XZ d C;have c:=v7 d C;rw[e]at c;simp[zV,z,qe,je,Ag];rw[zA n λi=>(i:Int),c];simp
theorem bD(R:n<=100)(d:h6 p n r B l){k:Nat}(C:k<r)(z I O c4:Cell):dv (zX<|zE (zC<|yS<|zf 3) (.nm 0) 1 [3] (sB<|zy l6 (dv (zf 1)<|zd 0)<|zt<|.int 0) (zd 0)) (zt<|.int 0) [z,I,O,Cell.val<|.tup<|zz n<|B k,c4]=di (.int (l k:Nat)):=by
 have U:=jb;have Q:n<=lim:=by omega
 obtain⟨L,e⟩:=XZ d C;have c:=v7 d C;rw[e]at c;simp[zV,Q,qe,je,Ag];rw[zA n λi=>(i:Int),c];simp
theorem YA(d:n<=100)(z:h6 p n r B l):zL (.nm 0) z7 (dv (zX<|zE (zC<|zd 1) (.nm 0) 1 [0] (sB<|zy l6 (dv (zf 1)<|zd 0)<|zt<|.int 0) (zd 0))<|zt<|.int 0) [Cell.no,Cell.val (.int n)] (zF r n B)=di ((Ad r).map λk=>D.int ((l k:Nat):Int)):=by unfold zF;exact zr _ _ λk a=>zv rfl rfl<|gm d z<|Ah.mp a
theorem aM(U:0<p)(d:h6 p n r B l){f s:Nat}(I:wY r l f=dt)(O:s<r):(zz n λj=>xK s B l (jA j) f%p).set (l s) (.int<|(0 - B s f)%p)=zz n λj=>xK (s+1) B l (jA j) f%p:=by
 have inj : ∀{a b:Nat},a<r->b<r->l a=l b->a=b:=λ{a b} h Q e=>by
  rcases Cs a b with z | z | z
  ·have:=d.mono a b z Q;omega
  ·exact z
  ·have:=d.mono b a z h;omega
 refine CA ⋯ λj i m=>?_;rw[CZ];simp only[zA,EC,Em];by_cases e:l s=j
 ·rw[GY e]
  subst e;congr 2;have R:jA (l s) f=0:=MQ λz=>by rw[u9.mpr ⟨s,O,z⟩]at I;cases I
  show _=jA (l s) f - (zu (λj=>jA (l s) (l j)*B j f) s+jA (l s) (l s)*B s f);rw[R,zQ (g:=λ_=>0) λa h=>by show(if l s=l a then (1:Int)else 0)*_=0;rw[MQ λz=>by have:=inj O (show a<r by omega) z;omega];simp,zW,show jA (l s) (l s)=1 from GY rfl]
  omega
 ·rw[MQ e]
  congr 2;show jA j f - zu _ s=jA j f - (zu _ s+jA j (l s)*B s f);rw[show jA j (l s)=0 from MQ (Br e)];omega
theorem XT(U:Pr p){m:Nat}(J:n<=100)(hm:m<=lim)(W:Nat->Vc)(hW : ∀j i,j<m->i<n->0<=W j i/\W j i<p) :
 ∃q K k,qj [.int p,.int n,.lst (ji m n W)]=di (.own<|zF q n K)/\h6 p n q K k/\q<=n/\∀v,Span p n (fy q K) v↔DZ p m n W v:=by
 have hl:=jb;have P:n<=lim:=by omega
 have N:=U.pos;obtain⟨r,B,l,e1,R,hr,Y⟩:=qE U J hm W hW;have Z:r<=lim:=by omega
 let x:List D:=(Ad r).map λk=>D.int ((l k:Nat):Int);let F:List Nat->List D:=λfs=>fs.map λf=>D.lst<|zz n λj=>xK r B l (jA j) f%p;let d:Cell->Cell->Cell->Cell->Cell->Ctx:=λy w o a b=>[.val (.int p),.val<|.int n,.val<|.lst<|ji m n W,.val<|.lst<|zF r n B,.val<|.lst x,y,w,o,a,b];have im:=kH l<|Ad r;have am : ∃w o a b,vj (d (.own []) .no .no .no .no)=di (.next<|d (.own<|F<|gv n r l) w o a b):=by
  rw[mx];obtain⟨γ',M,w,o,a,b,rfl⟩:=ZC (T:= .nm 6) (F:=Dg) (f:=zd 1)
   (λs γ=>∃w o a b,γ=d (.own<|F<|(Ad s).filter λi=> !wY r l i) w o a b) n ⋯ (γ:=d (.own []) .no .no .no .no) rfl ⟨_,_,_,_,rfl⟩ λs Y γ L=>by
     obtain⟨w,o,a,b,rfl⟩:=L;have S : ∀o a b y,(sB<|kc (zd 6)<|zf 4) (d y (.val<|.int s) o a b)=di (!wY r l s):=λo a b y=>by
      show((wg x).map λl=>D.bl<|!decide ((s:Int)∈l)).bind p3=_;rw[im];show di (!decide ((s:Int)∈(Ad r).map λj=>((l j:Nat):Int)))=_;congr 2;rw[Cd,u9,decide_eq_true_eq,Cm];constructor
      ·rintro⟨j,Q,e⟩;exact⟨j,Ah.mp Q,by omega⟩
      ·rintro⟨j,Q,e⟩;exact⟨j,Ah.mpr Q,by omega⟩
     rw[BA,Ci];cases hf:wY r l s with
     | true=>
      refine⟨_,d (.own<|F<|(Ad s).filter λi=> !wY r l i) (.val<|.int s) o a b,rfl,?_,?_⟩
      ·show Dg (d (.own<|F<|(Ad s).filter λi=> !wY r l i) (.val<|.int s) o a b)=_
       unfold Dg;rw[mY,S,hf];rfl
      ·exact⟨.val<|.int s,o,a,b,by simp[hf]⟩
     | false=>
      have ap:zL (.nm 0) z7 (kX<|zy hI (zd 0)<|zd 1) [.no,.val (.int s)] ((Ad n).map λ(i:Nat)=>D.int (i:Int))=di (zz n λj=>xK 0 B l (jA j) s%p):=by
       rw[zA];refine zr _ _ λj _=>zv rfl rfl ?_;have e:xK 0 B l (jA j) s%p=if j=s then 1 else 0:=by
        show(jA j s - 0)%p=_;have:=U.two;unfold jA;split
        ·exact AK ⋯ ⋯
        ·rfl
       rw[e];by_cases c:j=s
       ·subst c;simp[kX]
       ·have c2 : ¬((j:Int)=s):=by omega
        simp[kX,c,c2]
      have zp:Yb (zF r n B) x=(Ad r).map λk=>D.tup [.tup (zz n<|B k),.int ((l k:Nat):Int)]:=by unfold Yb zF;rw[List.zip_map'];simp
      let A:=F<|(Ad s).filter λi=> !wY r l i;obtain⟨u,ax,I,O,rfl⟩ : ∃u,(x9 (cN (zd 3)<|zd 4) (.tp [8,9]) D9) (d (.own A) (.val<|.int s) (.own<|zz n λj=>xK 0 B l (jA j) s%p) a b)=di (.next u)/\∃I O,u=d (.own A) (.val<|.int s) (.own<|zz n λj=>xK r B l (jA j) s%p) I O:=by
       rw[xB];show ∃u,Option.bind (di (Yb (zF r n B) x)) _=_/\_;rw[zp,Af];obtain⟨γ',e,I,O,rfl⟩:=wo (T:= .tp [8,9]) (g:=λk=>D.tup [.tup (zz n<|B k),.int ((l k:Nat):Int)]) (F:=D9)
        (λt γ=>∃I O,γ=d (.own A) (.val<|.int s) (.own<|zz n λj=>xK t B l (jA j) s%p) I O) r (γ:=d (.own A) (.val<|.int s) (.own<|zz n λj=>xK 0 B l (jA j) s%p) a b) ⟨_,_,rfl⟩ (by
        rintro t X γ ⟨I,O,rfl⟩;refine⟨d (.own A) (.val<|.int s) (.own<|zz n λj=>xK t B l (jA j) s%p) (.val<|.tup<|zz n<|B t)<|.val<|.int ((l t:Nat):Int),d (.own A) (.val<|.int s) (.own<|zz n λj=>xK (t+1) B l (jA j) s%p) (.val<|.tup<|zz n<|B t)<|.val<|.int ((l t:Nat):Int),rfl,?_,_,_,rfl⟩;have E:=R.lt t X;have pl:=aM N R hf X;rw[<- pl];simp[D9,d,Y,E,N])
       exact⟨_,e,_,_,rfl⟩
      refine⟨_,d (.own<|A++[.lst (zz n λj=>xK r B l (jA j) s%p)]) (.val<|.int s) (.val<|.lst<|zz n λj=>xK r B l (jA j) s%p) I O,rfl,?_,?_⟩
      ·show Dg (d (.own A) (.val<|.int s) o a b)=_
       unfold Dg;rw[mY,S,hf];show(zD _ _) _=_;refine zo (γ':=d (.own A) (.val<|.int s) (.own<|zz n λj=>xK 0 B l (jA j) s%p) a b) ?_ (zo ax ?_)
       ·have rg:zC (zd 1) (d (.own A) (.val<|.int s) o a b)=di ((Ad n).map λ(i:Nat)=>D.int (i:Int)):=by
         rw[ku];simp[d,qe,P,zV,zA]
        rw[W2,xv,rg,Af,GY (by simpa using P)];show(zL _ _ _ [.no,.val (.int s)] _).map _=_;rw[ap];rfl
       ·have al:A.length<lim:=by
         have:A.length<=s:=by show(((Ad s).filter λi=> !wY r l i).map _).length<=s;rw[Ay];exact Bq (List.length_filter_le _ _) ⋯
         omega
        simp[d,aC,al]
      ·exact⟨.val<|.int s,.val<|.lst<|zz n λj=>xK r B l (jA j) s%p,I,O,by simp[A,F,hf]⟩
  exact⟨_,_,_,_,M⟩
 obtain⟨w,o,a,b,M⟩:=am;let C:=(gv n r l).length;have bg:C<=n:=by have:=JE R;omega
 have eF:F (gv n r l)=ji C n (l8 p n r B l):=by
  refine CA (by simp[F,ji,C]) λi E h2=>?_;have b6:i<(gv n r l).length:=by simpa[F]using E
  simp only[F,ji,EC,Em];congr 2;funext j;show xK r B l (jA j) ((gv n r l)[i])%p=xK r B l (jA j) ((gv n r l).getD i 0)%p;rw[AY,Ak b6];rfl
 obtain⟨q,K,k,e2,b8,hq,bb⟩:=qE U J (show C<=lim by omega) (l8 p n r B l) λj i _ _=>⟨AU _ ⋯,AF _ N⟩;refine⟨q,K,k,?_,b8,hq,λv=>?_⟩
 ·rw[XU]
  refine j7<|zo (γ':=[.val (.int p),.val<|.int n,.val<|.lst<|ji m n W,.val<|.lst<|zF r n B,.no,.no,.no,.no,.no,.no]) ?_ (zo (γ':=d .no .no .no .no .no) ?_ (zo (γ':=d (.own []) .no .no .no .no) rfl<|zo M ?_))
  ·simp[Jz,jD,Ag,e1]
  ·have lc:=YA J R
   have dl:(zF r n B).length<=lim:=by simpa using Z
   unfold Jy;rw[yU,yV,xv];show((if (zF r n B).length<=lim then zL _ _ _ [.no,.val (.int n)] (zF r n B)else dn).map _).map _=_;rw[GY dl,lc];rfl
  ·rw[eF]
   simp[Jx,d,aC,e2]
 ·rw[bb,bB R.wb]
  constructor
  ·intro h i H
   have:=QH (p:=p) (z:=v) (v:=W i) ((Y _).mpr (.gen ⟨i,H,rfl⟩)) λg G=>by obtain⟨j,Q,rfl⟩:=G;exact h j Q
   rw[zQ (g:=λj=>v j*W i j) λj _=>Cp _ _];exact this
  ·intro h j Q
   exact QH (p:=p) (z:=v) (v:=B j) ((Y _).mp (.gen ⟨j,Q,rfl⟩)) λg G=>by obtain⟨i,H,rfl⟩:=G;rw[zQ (g:=λj=>W i j*v j) λj _=>Cp _ _];exact h i H
end
theorem bR:qk=jh 10 (zD bU<|zD bT<|zD bS<|zD mJ gK):=rfl
theorem w6:jv=jh 12 (zD wC<|zD xV<|zD xU<|zD xT<|zD xS<|zD xR<|zD wB k8):=rfl
theorem bW:qB=jh 11 (zD bZ<|zD Wz<|zD bY<|zD bX gL):=rfl
theorem yp{C:Type}{T:Tg}{F:CO Fl}{g:C->D}{W:List C}(P:List C->Ctx->Prop) : ∀(L d:List C) (γ:Ctx),d++L=W->P d γ->(∀a d R γ,d++a::R=W->P d γ->∃I z,jY T (g a) γ=di I/\F I=di (.next z)/\P (d++[a]) z)->
 ∃γ',qf T F (L.map g) γ=di (.next γ')/\P W γ'
 | [],d,γ,hw,h,_=>⟨γ,rfl,by rw[Bp]at hw;rw[<- hw];exact h⟩
 | a::L,d,γ,hw,h,st=>by obtain⟨I,z,b,O,e⟩:=st a d L γ hw h;obtain⟨γ',Q,U⟩:=yp P L (d++[a]) z (by rw[CQ];exact hw) e st;refine⟨γ',?_,U⟩;rw[Ap,jc,b,Af,O,Af];exact Q
theorem QZ{J:Type}{T:Tg}{F:m4}{g:J->D}{W:List J}(P:List J->Ctx->List Int->List D->Prop) : ∀(L d:List J) (γ:Ctx) (C:List Int) (H:List D),d++L=W->P d γ C H->(∀a d R γ C H,d++a::R=W->P d γ C H->∃z r,jY T (g a) γ=di z/\F z C H=di r/\P (d++[a]) r.1 r.2.1 r.2.2)->
 ∃r,Xa T F (L.map g) γ C H=di r/\P W r.1 r.2.1 r.2.2
 | [],d,γ,C,H,hw,h,_=>⟨(γ,C,H),rfl,by rw[Bp]at hw;rw[<- hw];exact h⟩
 | a::L,d,γ,C,H,hw,h,st=>by obtain⟨z,I,b,O,e⟩:=st a d L γ C H hw h;obtain⟨r,Q,U⟩:=QZ P L (d++[a]) I.1 I.2.1 I.2.2 (by rw[CQ];exact hw) e st;refine⟨r,?_,U⟩;show(jY T (g a) γ).bind _=_;rw[b,Af];show(F z C H).bind _=_;rw[O,Af];exact Q
noncomputable def gB(m k:Nat):List (Nat×Nat):=(if 0<k then [(k - 1,k - 1)]else [])++(if k<m then [(k+1,k)]else [])
def xy(wd:GZ)(L:List (Nat×Nat)):Nat:=(L.map λa=>wd a.1).sum
theorem yH{m k:Nat}(C:k<=m){a:Nat×Nat}(h:a∈gB m k):a.1<m+1/\a.2<m/\((a.1+1=k/\a.2+1=k)\/(a.1=k+1/\a.2=k)):=by
 unfold gB at h;rcases List.mem_append.mp h with h | h
 ·split at h
  ·rw[Ek.mp h]
   exact⟨by show k - 1<m+1;omega,by show k - 1<m;omega,.inl ⟨by show k - 1+1=k;omega,by show k - 1+1=k;omega⟩⟩
  ·cases h
 ·split at h
  ·rw[Ek.mp h]
   exact⟨by show k+1<m+1;omega,by show k<m;omega,.inr ⟨rfl,rfl⟩⟩
  ·cases h
theorem vD{m k:Nat}{a:Nat×Nat}{d R:List (Nat×Nat)}(h:d++a::R=gB m k):a∈gB m k/\d.length<=2:=by
 refine⟨by rw[<- h];simp,?_⟩;have b:(gB m k).length<=2:=by unfold gB;split<;>split<;>simp
 rw[<- h,m5]at b;omega
theorem bp(wd:GZ)(L:List (Nat×Nat))(a:Nat×Nat):xy wd (L++[a])=xy wd L+wd a.1:=by unfold xy;rw[AR,List.sum_append];simp
section
variable{p:Int}{m k n wl wr:Nat}{w:GX}{wd:GZ}{T:GV}
theorem VX(d:wl=if 0<k then wd (k - 1)else 0)(z:wr=if k<m then wd (k+1)else 0):xy wd (gB m k)=wl+wr:=by unfold gB xy;rw[d,z];by_cases a:0<k<;>by_cases b:k<m<;>simp[a,b]
theorem gI(z:wl=if 0<k then wd (k - 1)else 0)(I:wr=if k<m then wd (k+1)else 0)(f:Nat×Nat->Nat->Int)(g:Nat->Int)(C : ∀j,j<wl->g j=f (k - 1,k - 1) j)(H : ∀j,j<wr->g (wl+j)=f (k+1,k) j) :
 ((gB m k).flatMap λa=>zz (wd a.1)<|f a)=zz (wl+wr) g:=by
 have e:zz wl (f (k - 1,k - 1))++zz wr (f (k+1,k))=zz (wl+wr) g:=by
  unfold zz;rw[Cv,AR,BP];congr 1
  ·exact AE λx d=>by rw[C x (Ah.mp d)]
  ·exact AE λx d=>by simp only[Function.comp];rw[H x (Ah.mp d)]
 rw[<- e];unfold gB;rw[ES];congr 1
 ·by_cases a:0<k
  ·rw[GY a,z,GY a];simp
  ·rw[MQ a,z,MQ a];rfl
 ·by_cases a:k<m
  ·rw[GY a,I,GY a];simp
  ·rw[MQ a,I,MQ a];rfl
noncomputable def n1(w:GX)(wd:GZ)(T:GV)(a:Nat×Nat):D:= .tup [.int (a.1:Nat),.tup (zF (e7 w wd a.2) (fh w wd a.2)<|T a.2)]
theorem Kr(U:m<=5)(C:k<=m):zZ [jS p m w wd T,.int (k:Int)]=di (.own<|(gB m k).map (n1 w wd T)):=by
 have Y:=jb;have i:2<=lim:=by omega
 have g : ∀a,jf (kn w wd T a)=di (.T,[.str (qm<|f9<|w a),jy (e7 w wd a) (fh w wd a) (T a)]):=λa=>rfl;have d : ∀a b (f:GK),jf (jy a b f)=di (.T,[.int a,.int b,.tup (zF a b f)]):=λ_ _ _=>rfl;have z:0<k->i3 m ((k:Int) - 1)=di (k - 1):=λh=>by rw[show(k:Int) - 1=((k - 1:Nat):Int)by omega,jI,GY ⋯]
 have I:k<m->i3 m (k:Int)=di k:=λh=>by rw[jI,GY h]
 have l:0<k->((k - 1:Nat):Int)=(k:Int) - 1:=λh=>by omega
 let R:=jS p m w wd T;let A:List D:=if 0<k then [n1 w wd T (k - 1,k - 1)]else [];rw[Yk];refine j7<|zo (γ':=[.val R,.val<|.int k,.own []]) rfl<|zo (γ':=[.val R,.val<|.int k,.own A]) ?_ (zo (γ':=[.val R,.val<|.int k,.own ((gB m k).map (n1 w wd T))]) ?_ rfl)
 ·by_cases h:0<k
  ·have e:(0:Int)<k:=by omega
   have O:k - 1<m:=by omega
   have Q:0<lim:=by omega
   simp[Je,R,A,h,jW,z h,g,d,O,i,Q,n1,l h,jn]
  ·have e : ¬(0:Int)<k:=by omega
   have:k=0:=by omega
   subst this;simp[Je,A]
 ·have j:A.length<lim:=by
   have:A.length<=1:=by show(if 0<k then [n1 w wd T (k - 1,k - 1)]else []).length<=1;split<;>simp
   omega
  have n:(gB m k).map (n1 w wd T)=A++(if k<m then [n1 w wd T (k+1,k)]else []):=by
   unfold gB;rw[AR];congr 1
   ·show _=if 0<k then _ else _
    split<;>rfl
   ·split<;>rfl
  rw[n];by_cases h:k<m
  ·have e:(k:Int)<m:=by omega
   simp[Jd,R,h,jW,I h,g,d,i,j,n1,jn]
  ·have e : ¬(k:Int)<m:=by omega
   simp[Jd,R,h,jW,jn]
noncomputable def pa(wd:GZ)(F:Nat->Nat->Nat×Nat->D):Nat->List (Nat×Nat)->List D
 | _,[]=>[]
 | o,a::L=>F o (wd a.1) a::pa wd F (o+wd a.1) L
theorem Vd(wd:GZ)(F:Nat->Nat->Nat×Nat->D)(a:Nat×Nat) : ∀(L:List (Nat×Nat)) (o:Nat),pa wd F o (L++[a])=pa wd F o L++[F (o+xy wd L) (wd a.1) a]
 | [],o=>by simp[pa,xy]
 | b::L,o=>by
  rw[List.cons_append];show F o (wd b.1) b::pa wd F (o+wd b.1) (L++[a])=_;rw[Vd wd F a L];show _=F o (wd b.1) b::(pa wd F (o+wd b.1) L++_);congr 3;have:xy wd (b::L)=wd b.1+xy wd L:=by simp[xy]
  rw[this];congr 1;omega
end
section
variable{p:Int}{m k n r wl wr:Nat}{w:GX}{wd:GZ}{T:GV}{B:Nat->Vc}{l:GZ}
theorem bC(d:Pr p)(z:n<=lim)(u P:Vc){x:Int}(R:0<=x/\x<p):zR [.int p,.lst<|zz n u,.tup<|zz n P,.int x]=di (.own<|zz n λi=>(u i - x*P i)%p):=by
 have U:=d.le;have I:=d.pos;have O : ∀y:Int,wI x y=dk:=λy=>kS _ _ ⋯ ⋯;have Q:zL (.tp [0,1]) z7 (zy xE (zy w5 (zd 0)<|zy k9 (zd 3)<|zd 1)<|zd 2) [Cell.no,Cell.no,Cell.val<|.int p,Cell.val (.int x)] ((Ad n).map λi=>D.tup [.int (u i),.int (P i)])=di (zz n λi=>(u i - x*P i)%p):=by rw[zA];refine zr _ _ λi a=>zv rfl rfl ?_;simp[O,I]
 simp[zR,jh,jD,ZT,z,je,qX,Ag,Q]
theorem V7(z:Pr p)(R:n<=100)(I:h6 p n r B l)(i:Nat):qi [.int p,.lst<|zz n<|jA i,.lst (zF r n B)]=di (.val<|.lst<|zz n<|kM p B l (jA i) r):=by
 have y:=jb;have U:=z.pos;have Y:n<=lim:=by omega
 let v:Vc:=jA i;have Q : ∀x,0<=v x/\v x<p:=λx=>by have:=z.two;show 0<=(if _ then (1:Int)else 0)/\(if _ then (1:Int)else 0)<p;split<;>omega
 have f:zz n v=zz n (kM p B l v 0):=xk λx _=>by show v x=(v x - 0)%p;rw[Eo,AK (Q x).1 (Q x).2]
 have u : ∀j x,0<=kM p B l v j x/\kM p B l v j x<p:=λj x=>⟨AU _ ⋯,AF _ U⟩;have b : ∀j,j<r->zR [.int p,.lst<|zz n<|kM p B l v j,.tup<|zz n<|B j,.int (kM p B l v j<|l j)]=di (.own<|zz n<|kM p B l v<|j+1):=λj m=>by
  rw[bC z Y _ _ (u j _)];congr 2;refine xk λx _=>?_;have h:kM p B l v j (l j)=v (l j)%p:=by show(v (l j) - _)%p=_;rw[zQ (g:=λ_=>0) λc w=>by rw[I.n4 c j ⋯ m ⋯];simp,zW,Eo]
  show((v x - zu (λj=>v (l j)*B j x) j)%p - kM p B l v j (l j)*B j x)%p=(v x - (zu (λj=>v (l j)*B j x) j+v (l j)*B j x))%p;rw[h,Fs,BE,QR,<- Fs];congr 1;omega
 obtain⟨γ',t,d,a,rfl⟩ : ∃γ',KN [.val (.int p),.val<|.lst<|zz n v,.val<|.lst<|zF r n B,.no,.no]=di (.next γ')/\∃d a,γ'=[.val (.int p),.val<|.lst<|zz n<|kM p B l v r,.val<|.lst<|zF r n B,d,a]:=by
  rw[me,xB];show ∃γ',Option.bind (di (zF r n B)) _=_/\_;rw[Af];obtain⟨γ',e,d,a,rfl⟩:=wo (T:= .nm 3) (g:=λj=>D.tup<|zz n<|B j) (F:=Hf)
   (λs γ=>∃d a,γ=[.val (.int p),.val<|.lst<|zz n<|kM p B l v s,.val<|.lst<|zF r n B,d,a]) r (γ:=[.val (.int p),.val<|.lst<|zz n v,.val<|.lst<|zF r n B,.no,.no]) ⟨.no,.no,by rw[<- f]⟩ (by
   rintro s O γ ⟨d,a,rfl⟩;refine⟨[.val (.int p),.val<|.lst<|zz n<|kM p B l v s,.val<|.lst<|zF r n B,.val<|.tup<|zz n<|B s,a],[.val (.int p),.val<|.lst<|zz n<|kM p B l v<|s+1,.val<|.lst<|zF r n B,.val<|.tup<|zz n<|B s,.val (.int (l s:Nat))],rfl,?_,_,_,rfl⟩;have o:=bD R I O (.val<|.int p) (.val<|.lst<|zz n<|kM p B l v s) (.val<|.lst<|zF r n B) a;refine zo (γ':=[.val (.int p),.val<|.lst<|zz n<|kM p B l v s,.val<|.lst<|zF r n B,.val<|.tup<|zz n<|B s,.val (.int (l s:Nat))]) ?_ ?_
   ·rw[yU,o];rfl
   ·have:=I.lt s O
    simp[this,b s O])
  exact⟨_,e,_,_,rfl⟩
 rw[V8];exact j7<|zo t rfl
theorem Vh(z:m<=5)(C:k<=m)(M : ∀k,wd k<=20)(I:wl=if 0<k then wd (k - 1)else 0)(O:wr=if k<m then wd (k+1)else 0)(γ:Ctx)(H:γ[1]? = di (.val<|jS p m w wd T))(J:γ[2]? = di (.val<|.int (k:Int))) :
 (iF<|zX<|zE (zB<|zX<|jg zZ<|zc (zd 1)<|zc (zd 2) zJ) (.tp [0,1]) 2 [1] z7 (dv (zq<|dv (zf 2)<|zt<|.int 1)<|zd 0)) γ=di (.int ((wl+wr:Nat):Int)):=by
 have g:=jb;have Q:=Kr (p:=p) (w:=w) (wd:=wd) (T:=T) z C;have d:((gB m k).map (n1 w wd T)).length<=lim:=by
  have:(gB m k).length<=2:=by unfold gB;split<;>split<;>simp
  rw[Ay];omega
 have f : ∀L:List (Nat×Nat),(∀a∈L,a.1<m+1)->zL (.tp [0,1]) z7 (dv (zq<|dv (zf 2)<|zt<|.int 1)<|zd 0) [.no,.no,.val (jS p m w wd T)] (L.map<|n1 w wd T)=di (L.map λa=>D.int ((wd a.1:Nat):Int)):=λL R=>
  zr _ _ λa b=>zv rfl rfl (by
   have:=R a b;show dv _ _ [.val (.int (a.1:Nat)),.val<|.tup<|zF (e7 w wd a.2) (fh w wd a.2)<|T a.2,.val (jS p m w wd T)]=_;simp[jW,this])
 have U : ∀L:List (Nat×Nat),Vi (L.map λa=>D.int ((wd a.1:Nat):Int))=di (xy wd L:Int):=λL=>by
  induction L with
  | nil=>rfl
  | cons a L Y=>
   have e:xy wd (a::L)=wd a.1+xy wd L:=by simp[xy]
   rw[e];simp[Vi,Y]
 have:=f (gB m k) λa b=>(yH C b).1;simp[H,J,Q,je,Ag]at d ⊢;simp[d,this,U,VX I O]
end
section
variable{p:Int}{m k n r wl wr q:Nat}{w:GX}{wd:GZ}{T:GV}{B:Nat->Vc}{l:GZ}
theorem vz(d:m<=5)(I:k<=m){γ:Ctx}(C:γ[1]? = di (.val<|jS p m w wd T))(H:γ[2]? = di (.val<|.int (k:Int))):(zB<|zq<|jF<|jg zZ<|zc (zd 1)<|zc (zd 2) zJ) γ=di ((gB m k).map (n1 w wd T)):=by have z:=Kr (p:=p) (w:=w) (wd:=wd) (T:=T) d I;simp[C,H,z]
noncomputable def DF:=(vE 3 (zd 6)<|jF<|wQ (zq<|dv (zf 3)<|zd 6)<|zX<|xp<|zq<|dv (zf 5)<|zd 6)
theorem mK:bT=x9 (zB<|zq<|jF<|jg zZ<|zc (zd 1)<|zc (zd 2) zJ) (.tp [4,5]) (x9 (zC<|dv (zq<|dv (zf 1)<|zt<|.int 1)<|zd 2) (.nm 6) DF):=rfl
noncomputable def Dn(wd:GZ)(F:Nat->Nat->Nat×Nat->D)(m k:Nat):D:= .h7 ((gB m k).map λa=> .int (a.1:Nat)) (pa wd F 0<|gB m k)
theorem J5(m k:Nat):((gB m k).map λa=>((a.1:Nat):Int)).Nodup:=by unfold gB;by_cases a:0<k<;>by_cases b:k<m<;>simp[a,b];omega
theorem cT(hm:m<=5)(J:k<=m){i j:Nat}{fv:CO D}(F:Nat->Nat->Nat×Nat->D)(γ:Cell->Cell->Cell->Cell->Ctx)
 (s4 : ∀a b c d x y,((γ a b c d).set 4 x).set 5 y=γ x y c d) (U : ∀a b c d x,(γ a b c d).set i x=γ a b x d) (Y : ∀a b c d x,(γ a b c d).set j x=γ a b c x)
 (g1 : ∀a b c d,(γ a b c d)[1]? = di (.val<|jS p m w wd T)) (g2 : ∀a b c d,(γ a b c d)[2]? = di (.val<|.int (k:Int))) (H : ∀a b c d,(γ a b c d)[4]? = di a) (S : ∀a b c d,(γ a b c d)[j]? = di d)
 (C : ¬j=i) (ht:dX i (.tp [4,5])=dk) (L : ∀a b c d,i<(γ a b c d).length) {c4 c5:Cell} (Z:(γ c4 c5 .no .no).any jl=dt)
 (hv : ∀a c5 o R I,I++a::R=gB m k->o=xy wd I->fv (γ (.val<|.int (a.1:Nat)) c5 .no<|.val<|.int (o:Nat))=di (F o (wd a.1) a)) :
 ∃O Q M,Yl i (JT (YE i j<|zt<|.int 0)<|JT (gH i (zB<|zq<|jF<|jg zZ<|zc (zd 1)<|zc (zd 2) zJ) (.tp [4,5])<|JT (gG (zd 4) fv)<|YE i j<|zy j4 (zd j)<|dv (zq<|dv (zf 1)<|zt<|.int 1)<|zd 4) nP) (γ c4 c5 .no .no)=di (.next<|γ O Q (.val<|Dn wd F m k) M):=by
 have hl:=jb;have pl:(gB m k).length<=2:=by unfold gB;split<;>split<;>simp
 have s:=J5 m k;obtain⟨r,lp,O,Q,B,E,G⟩:=QZ (T:= .tp [4,5]) (F:=JT (gG (zd 4) fv)<|YE i j<|zy j4 (zd j)<|dv (zq<|dv (zf 1)<|zt<|.int 1)<|zd 4) (g:=n1 w wd T) (W:=gB m k)
  (λI e n t=>∃c4 c5,e=γ c4 c5 .no (.val<|.int (xy wd I:Nat))/\n=I.map (λa=>((a.1:Nat):Int))/\t=pa wd F 0 I) (gB m k) [] (γ c4 c5 .no<|.val<|.int 0) [] [] rfl ⟨c4,c5,rfl,rfl,rfl⟩ (by
  rintro a I R e n t f ⟨c4,c5,rfl,rfl,rfl⟩;have K:a∈gB m k:=by rw[<- f];simp
  have u:=hv a (.val<|.tup<|zF (e7 w wd a.2) (fh w wd a.2)<|T a.2) _ R I f rfl;have A:=(yH J K).1;refine⟨γ (.val<|.int (a.1:Nat)) (.val<|.tup<|zF (e7 w wd a.2) (fh w wd a.2)<|T a.2) .no<|.val<|.int (xy wd I:Nat),(γ (.val<|.int (a.1:Nat)) (.val<|.tup<|zF (e7 w wd a.2) (fh w wd a.2)<|T a.2) .no<|.val<|.int (xy wd (I++[a]):Nat),(I++[a]).map (λa=>((a.1:Nat):Int)),pa wd F 0<|I++[a]),?_,?_,_,_,rfl,rfl,rfl⟩
  ·show di (((γ c4 c5 .no _).set 4 _).set 5 _)=_
   rw[s4]
  ·have N:((a.1:Nat):Int)∉I.map (λa=>((a.1:Nat):Int)):=by
    rw[<- f,AR,Ap]at s;have:=(Fg.mp s).2.2;intro z;exact this _ z _ Ar rfl
   have as:I.length<lim:=by have:=congrArg List.length f;rw[m5,BF]at this;omega
   unfold JT gG YE;rw[u,Af];have q4:(zd 4<|γ (.val<|.int (a.1:Nat)) (.val<|.tup<|zF (e7 w wd a.2) (fh w wd a.2)<|T a.2) .no<|.val<|.int (xy wd I:Nat)).bind i4=di ((a.1:Nat):Int):=by rw[x6,H];rfl
   rw[q4,Af,GY ⟨N,by simpa using as⟩,Af];dsimp only;rw[MQ C];have q5:zy j4 (zd j) (dv (zq<|dv (zf 1)<|zt<|.int 1)<|zd 4) (γ (.val<|.int (a.1:Nat)) (.val<|.tup<|zF (e7 w wd a.2) (fh w wd a.2)<|T a.2) .no<|.val<|.int (xy wd I:Nat))=di (.int (xy wd (I++[a]):Nat)):=by rw[bp];simp[S,g1,H,jW,A]
   rw[q5];simp only[AO,Y,Vd,BG,AR,Ap,El])
 refine⟨O,Q,.val<|.int (xy wd (gB m k):Nat),?_⟩;have h:=vz (p:=p) (w:=w) (wd:=wd) (T:=T) hm J (γ:=γ c4 c5 .no<|.val<|.int 0) (g1 ..)<|g2 ..;unfold Yl;rw[U,GY ⟨Z,L ..⟩];unfold JT;have P:YE i j (zt<|.int 0) (γ c4 c5 .no .no) [] []=di (γ c4 c5 .no<|.val<|.int 0,[],[]):=by unfold YE;rw[MQ C];show di (_,_,_)=_;rw[Y]
 rw[P,Af];dsimp only;have X:gH i (zB<|zq<|jF<|jg zZ<|zc (zd 1)<|zc (zd 2) zJ) (.tp [4,5]) (JT (gG (zd 4) fv)<|YE i j<|zy j4 (zd j)<|dv (zq<|dv (zf 1)<|zt<|.int 1)<|zd 4) (γ c4 c5 .no<|.val<|.int 0) [] []=di r:=by unfold gH;rw[GY ht,h];exact lp
 have l:=X;unfold JT at l;rw[l,Af];show(di (r.1,r.2.1,r.2.2)).bind _=_;rw[Af];dsimp only;rw[B,E,G,GY (by rw[Ay];omega),U];simp only[Dn,BP];rfl
end
section
variable{p:Int}{m k wl wr:Nat}{w:GX}{wd:GZ}{T:GV}
theorem fZ(d:Pr p)(z:Int):0<=z%p/\z%p<p:=⟨AU _ (by have:=d.pos;omega),AF _ d.pos⟩
theorem YI(hp:Pr p)(S:m<=5)(J:k<=m)(Y : ∀k,wd k<=20)(hT : ∀a x y,0<=T a x y/\T a x y<p)(C:wl=if 0<k then wd (k - 1)else 0)(H:wr=if k<m then wd (k+1)else 0)
 (hE : ∀a∈gB m k,e7 w wd a.2=wd k/\fh w wd a.2=wd a.1) :
 ∃q K kk,qk [.int p,jS p m w wd T,.int (k:Int)]=di (.val<|.tup [.int (q:Nat),Dn wd (λo n _=> .tup (zF n q λy c=>K c<|o+y)) m k])/\h6 p (wl+wr) q K kk/\q<=wl+wr/\∀v,Span p (wl+wr) (fy q K) v↔DZ p (wd k) (wl+wr) (λx j=>yk dk k wl T j x) v:=by
 have hl:=jb;have cd:=Y k;have G:wd k<=lim:=by omega
 have ce:wl<=20:=by rw[C];split;exact Y _;omega
 have ch:wr<=20:=by rw[H];split;exact Y _;omega
 let R:=jS p m w wd T;let z:Cell->Cell->Cell->Cell->Cell->Cell->Cell->Ctx:=λr c4 c5 h t u A=>[.val (.int p),.val R,.val<|.int k,r,c4,c5,h,t,u,A];have k1:k<m+1:=by omega
 have wk : ∀r c4 c5 h t u A,dv (zq<|dv (zf 1)<|zt<|.int 1) (zd 2) (z r c4 c5 h t u A)=di (.int (wd k:Nat)):=λr c4 c5 h t u A=>by simp[z,R,jW,k1]
 let rows:List (Nat×Nat)->List D:=λO=>(Ad<|wd k).map λx=>D.lst<|O.flatMap λa=>zz (wd a.1)<|T a.2 x;have s1:bU (z .no .no .no .no .no .no .no)=di (.next<|z (.own<|rows []) .no .no .no .no .no .no):=by unfold bU;have N:zL (.nm 0) z7 (jF<|ql zJ) [.no] ((Ad<|wd k).map λ(i:Nat)=>D.int (i:Int))=di (rows []):=zr _ _ λx _=>zv rfl rfl rfl;rw[W2,xv,ku,wk];simp[qe,G,zV,zA,je];exact⟨_,N,rfl⟩
 have Z : ∃c4 c5 h,([c4,c5,h].any jl=dt)/\bT (z (.own<|rows []) .no .no .no .no .no .no)=di (.next<|z (.own<|rows<|gB m k) c4 c5 h .no .no .no):=by
  rw[mK,xB,vz S J (p:=p) (w:=w) (wd:=wd) (T:=T) rfl rfl,Af];obtain⟨γ',e,ci,c4,c5,h,Q,rfl⟩:=yp (T:= .tp [4,5]) (F:=x9 (zC<|dv (zq<|dv (zf 1)<|zt<|.int 1)<|zd 2) (.nm 6) DF) (g:=n1 w wd T)
   (λO γ=>(∀x,(O.flatMap λa=>zz (wd a.1)<|T a.2 x).length<=20*O.length)/\∃c4 c5 h,([c4,c5,h].any jl=dt)/\γ=z (.own<|rows O) c4 c5 h .no .no .no) (W:=gB m k) (gB m k) [] (z (.own<|rows []) .no .no .no .no .no .no) rfl ⟨λx=>by simp,.no,.no,.no,rfl,rfl⟩ (by
   rintro a O R γ B ⟨hd,c4,c5,h,Q,rfl⟩;obtain⟨P,cl⟩:=vD B;obtain⟨h1,h2⟩:=hE a P;let U:Cell:= .val (.tup<|zF (wd k) (wd a.1)<|T a.2);let I:Nat->List D:=λs=>(Ad<|wd k).map λx=>D.lst<|(O.flatMap λa=>zz (wd a.1)<|T a.2 x)++if x<s then zz (wd a.1) (T a.2 x)else [];have r0:rows O=I 0:=AE λx _=>by simp
   have r1:rows (O++[a])=I (wd k):=AE λx hx=>by have:=Ah.mp hx;simp[this]
   obtain⟨γ',lp,L,b8,rfl⟩:=ZC (T:= .nm 6) (F:=DF) (f:=dv (zq<|dv (zf 1)<|zt<|.int 1)<|zd 2)
    (λs γ=>∃h,jl h=dt/\γ=z (.own<|I s) (.val<|.int (a.1:Nat)) U h .no .no .no) (wd k) G (γ:=z (.own<|I 0) (.val<|.int (a.1:Nat)) U h .no .no .no) (wk ..) ⟨_,by simp at Q;exact Q.2.2,rfl⟩ λs l γ X=>by
      obtain⟨h,_,rfl⟩:=X;refine⟨_,z (.own<|I<|s+1) (.val<|.int (a.1:Nat)) U (.val<|.int s) .no .no .no,rfl,?_,_,rfl,rfl⟩;show DF (z (.own<|I s) (.val<|.int (a.1:Nat)) U (.val<|.int s) .no .no .no)=_;have M:(I s).length=wd k:=by simp[I]
      have E:(I s)[s]? = di (D.lst<|O.flatMap λa=>zz (wd a.1)<|T a.2 s):=by simp[I,l]
      have aa:(O.flatMap λa=>zz (wd a.1)<|T a.2 s).length+wd a.1<=lim:=by have:=hd s;have:=Y a.1;omega
      have st:(I s).set s (D.lst<|(O.flatMap λa=>zz (wd a.1)<|T a.2 s)++zz (wd a.1) (T a.2 s))=I (s+1):=by
       refine CA (by simp[I]) λx g1 g2=>?_;rw[CZ];simp only[I,EC,Em];by_cases e:s=x
       ·subst e;rw[GY rfl,GY ⋯]
       ·rw[MQ e]
        by_cases e2:x<s
        ·rw[GY e2,GY ⋯]
        ·rw[MQ e2,MQ ⋯]
      rw[<- st];have bb:(I s)[s]'(by rw[M];exact l)=D.lst (O.flatMap λa=>zz (wd a.1)<|T a.2 s):=by rw[Ak (by rw[M];exact l)]at E;exact AG E
      simp[List.length_flatMap]at aa;simp[DF,z,U,M,l,bb,aa]
   refine⟨z (.own<|I 0) (.val<|.int (a.1:Nat)) U h .no .no .no,z (.own<|I<|wd k) (.val<|.int (a.1:Nat)) U L .no .no .no,?_,lp,λx=>?_,.val<|.int (a.1:Nat),U,L,by show(dt || (dt || (jl L || false)))=dt;rw[b8];rfl,by rw[r1]⟩
   ·rw[r0]
    unfold n1;rw[h1,h2];rfl
   ·have q1:=hd x
    have:=Y a.1;rw[ES,m5,m5];simp only[List.flatMap_cons,List.flatMap_nil,Bp,BY,xO];omega)
  exact⟨c4,c5,h,Q,e⟩
 obtain⟨c4,c5,h,Q,Z⟩:=Z;let W:Nat->Vc:=λx j=>yk dk k wl T j x;have er:rows (gB m k)=ji (wd k) (wl+wr) W:=AE λx _=>by
  congr 1;exact gI C H (λa=>T a.2 x) (W x) (λj hj=>by show yk dk k wl T j x=_;unfold yk;rw[GY hj,GY rfl]) λj hj=>by show yk dk k wl T (wl+j) x=_;unfold yk;rw[MQ ⋯,GY rfl,BC]
 obtain⟨q,K,kk,ek,hb,hq,l⟩:=XT hp (n:=wl+wr) (m:=wd k) ⋯ G W λj i _ _=>by show 0<=yk dk k wl T i j/\yk dk k wl T i j<p;unfold yk;split<;>rw[GY rfl]<;>exact hT ..
 refine⟨q,K,kk,?_,hb,hq,l⟩;have bl:q<=lim:=by omega
 have s3:bS (z (.own<|rows<|gB m k) c4 c5 h .no .no .no)=di (.next<|z (.val<|.lst<|rows<|gB m k) c4 c5 h (.val<|.lst<|zF q (wl+wr) K) .no .no):=by unfold bS;rw[mZ];show(jq 7 _) (z (.val<|.lst<|rows<|gB m k) c4 c5 h .no .no .no)=_;rw[er]at *;have sm:=Vh (p:=p) (w:=w) (T:=T) S J Y C H (z (.val<|.lst<|ji (wd k) (wl+wr) W) c4 c5 h .no .no .no) rfl rfl;rw[yU,yV,JQ,qY,qY,sm];show((Option.bind (di [D.int p,D.int ((wl+wr:Nat):Int),D.lst (ji (wd k) (wl+wr) W)]) _).map _).map _=_;rw[Af,ek];rfl
 have s4:=cT (p:=p) (w:=w) (wd:=wd) (T:=T) S J (i:=8) (j:=9) (fv:=(zM<|zX<|zE (zC<|dv (zq<|dv (zf 1)<|zt<|.int 1)<|zd 4) (.nm 0) 1 [7,9] z7 (zM<|zX<|zE (zB<|zf 1) (.nm 0) 1 [0,2] z7 (dv (zf 0)<|zy j4 (zd 2)<|zd 1))))
  (λo n _=> .tup (zF n q λy c=>K c<|o+y)) (λa b c d=>z (.val<|.lst<|rows<|gB m k) a b h (.val<|.lst<|zF q (wl+wr) K) c d) (λ_ _ _ _ _ _=>rfl) (λ_ _ _ _ _=>rfl) (λ_ _ _ _ _=>rfl) (λ_ _ _ _=>rfl) (λ_ _ _ _=>rfl) (λ_ _ _ _=>rfl) (λ_ _ _ _=>rfl) ⋯ rfl (λ_ _ _ _=>by simp[z]) (c4:=c4) (c5:=c5) (by
    simp at Q;show(dt || (dt || (dt || (dt || (jl c4 || (jl c5 || (jl h || (dt || (dt || (dt || false))))))))))=dt;rw[Q.1,Q.2.1,Q.2.2];rfl) (by
  intro a d5 o Rr O B ho;obtain⟨P,_⟩:=vD B;have c1:=(yH J P).1;have cq:=Y a.1;have c2:wd a.1<=lim:=by omega
  have cr:o+wd a.1<=wl+wr:=by
   have:=VX (wd:=wd) (m:=m) C H;rw[<- B]at this;subst ho;have e:xy wd (O++a::Rr)=xy wd O+(wd a.1+xy wd Rr):=by simp[xy]
   omega
  have ca : ∀y,y<wd a.1->zL (.nm 0) z7 (dv (zf 0)<|zy j4 (zd 2)<|zd 1) [.no,.val<|.int y,.val (.int (o:Nat))] (zF q (wl+wr) K)=di (zz q λc=>K c<|o+y):=λy hy=>by
   unfold zF;rw[zA];refine zr _ _ λc _=>zv rfl rfl ?_;have h3:o+y<wl+wr:=by omega
   have E:i3 (wl+wr) ((o:Int)+(y:Int))=di (o+y):=by rw[show(o:Int)+(y:Int)=((o+y:Nat):Int)by omega,jI,GY h3]
   simp[E,h3]
  have N:zL (.nm 0) z7 (zM<|zX<|zE (zB<|zf 1) (.nm 0) 1 [0,2] z7 (dv (zf 0)<|zy j4 (zd 2)<|zd 1)) [.no,.val<|.lst<|zF q (wl+wr) K,.val (.int (o:Nat))] ((Ad<|wd a.1).map λ(i:Nat)=>D.int (i:Int))=di (zF (wd a.1) q λy c=>K c<|o+y):=by unfold zF;refine zr _ _ λy hy=>zv rfl rfl ?_;have:=ca y<|Ah.mp hy;unfold zF at this;simp[bl,je,Ag,this]
  simp[z,R,jW,c1,qe,c2,zV,zA,je,Ag];exact N)
 obtain⟨d4,d5,d9,s4⟩:=s4;rw[bR];refine j7<|zo s1<|zo Z<|zo s3<|zo s4 ?_;have l2:2<=lim:=by omega
 simp[gK,z,l2]
end
section
variable{p:Int}{m k wl wr:Nat}{w:GX}{wd:GZ}{T:GV}
theorem bN(d:wl=if 0<k then wd (k - 1)else 0)(z:wr=if k<m then wd (k+1)else 0)(c:Nat)(G:GK)(C : ∀i j,i<wl->G i j=T (k - 1) i j)(H : ∀i j,i<wr->G (wl+i) j=T k i j) :
 ((gB m k).flatMap λa=>zF (wd a.1) c<|T a.2)=zF (wl+wr) c G:=by
 have e:zF wl c (T<|k - 1)++zF wr c (T k)=zF (wl+wr) c G:=KW _ _ _ _ _ _ (λi j b _=>C i j b) λi j b _=>H i j b;rw[<- e];unfold gB;rw[ES];congr 1
 ·by_cases a:0<k
  ·rw[GY a,d,GY a];simp
  ·rw[MQ a,d,MQ a];rfl
 ·by_cases a:k<m
  ·rw[GY a,z,GY a];simp
  ·rw[MQ a,z,MQ a];rfl
theorem YQ(hp:Pr p)(hm:m<=5)(hk:k<=m)(C : ∀k,wd k<=20)(hT : ∀a x y,0<=T a x y/\T a x y<p)(H:wl=if 0<k then wd (k - 1)else 0)(J:wr=if k<m then wd (k+1)else 0)
 (hE : ∀a∈gB m k,e7 w wd a.2=wd a.1/\fh w wd a.2=wd k) :
 ∃r B l,jv [.int p,jS p m w wd T,.int (k:Int)]=di (.val<|.tup [.int ((gv (wl+wr) r l).length:Nat),Dn wd (λo n _=> .tup (zF (gv (wl+wr) r l).length n λc y=>l8 p (wl+wr) r B l c<|o+y)) m k])/\h6 p (wl+wr) r B l/\∀v,Span p (wl+wr) (fy r B) v↔Span p (wl+wr) (fy (wd k) λy i=>yk dt k wl T i y) v:=by
 have hl:=jb;have cl:=C k;have ae:wd k<=lim:=by omega
 have p0:=hp.pos;have co:wl<=20:=by rw[H];split;exact C _;omega
 have cq:wr<=20:=by rw[J];split;exact C _;omega
 obtain⟨n,hn⟩ : ∃n,n=wl+wr:=⟨_,rfl⟩;rw[<- hn];have t:n<=lim:=by omega
 let R:=jS p m w wd T;let M:Nat->Nat->Int:=yk dt k wl T;have k1:k<m+1:=by omega
 let rows:List (Nat×Nat)->List D:=λI=>I.flatMap λa=>zF (wd a.1) (wd k)<|T a.2;have er:rows (gB m k)=zF n (wd k) M:=by
  rw[hn];exact bN H J (wd k) M (λi j hi=>by show yk dt k wl T i j=_;unfold yk;rw[GY hi,MQ ⋯]) λi j hi=>by show yk dt k wl T (wl+i) j=_;unfold yk;rw[MQ ⋯,MQ ⋯,BC]
 let z:Cell->Cell->Cell->Cell->Cell->Cell->Cell->Cell->Cell->Ctx:=λc3 c4 c5 c6 c7 c8 c9 N P=>[.val (.int p),.val R,.val<|.int k,c3,c4,c5,c6,c7,c8,c9,N,P];have s2 : ∃c4 c5,([c4,c5].any jl=dt)/\xV (z (.val<|.lst []) .no .no .no .no .no .no .no .no)=di (.next<|z (.val<|.lst<|zF n (wd k) M) c4 c5 .no .no .no .no .no .no):=by
  unfold xV;rw[xB,vz hm hk (p:=p) (w:=w) (wd:=wd) (T:=T) rfl rfl,Af];obtain⟨γ',e,cr,c4,c5,Y,rfl⟩:=yp (T:= .tp [4,5]) (F:=(jq 3<|jF<|wQ (zf 3)<|zX<|xp<|zf 5)) (g:=n1 w wd T)
   (λI γ=>((rows I).length<=20*I.length)/\∃c4 c5,([c4,c5].any jl=dt)/\γ=z (.val<|.lst<|rows I) c4 c5 .no .no .no .no .no .no) (W:=gB m k) (gB m k) [] (z (.val<|.lst []) .no .no .no .no .no .no .no .no) rfl ⟨by simp[rows],.no,.no,rfl,rfl⟩ (by
   rintro a I G γ E ⟨hd,c4,c5,Y,rfl⟩;obtain⟨X,cs⟩:=vD E;obtain⟨h1,S⟩:=hE a X;have b0:=C a.1;have e1:rows (I++[a])=rows I++zF (wd a.1) (wd k) (T a.2):=by simp[rows]
   have hc:(rows I).length+wd a.1<=lim:=by omega
   refine⟨z (.val<|.lst<|rows I) (.val<|.int (a.1:Nat)) (.val<|.tup<|zF (wd a.1) (wd k)<|T a.2) .no .no .no .no .no .no,z (.val<|.lst<|rows<|I++[a]) (.val<|.int (a.1:Nat)) (.val<|.tup<|zF (wd a.1) (wd k)<|T a.2) .no .no .no .no .no .no,?_,?_,?_,_,_,rfl,rfl⟩
   ·unfold n1
    rw[h1,S];rfl
   ·rw[e1]
    simp[z,hc]
   ·rw[e1,m5,m5,JH]
    simp only[BY];omega)
  rw[er]at e;exact⟨c4,c5,Y,e⟩
 obtain⟨c4,c5,Y,s2⟩:=s2;obtain⟨r,B,l,eb,A,hr,hs⟩:=qE hp (n:=n) (m:=wd k) ⋯ ae (λy i=>M i y) λy i _ _=>by show 0<=yk dt k wl T i y/\yk dt k wl T i y<p;unfold yk;split<;>rw[MQ ⋯]<;>exact hT ..
 refine⟨r,B,l,?_,A,hs⟩;have b8:r<=lim:=by omega
 have s3:xU (z (.val<|.lst<|zF n (wd k) M) c4 c5 .no .no .no .no .no .no)=di (.next<|z (.val<|.lst<|zF n (wd k) M) c4 c5 (.val<|.lst<|zF r n B) .no .no .no .no .no):=by
  have K : ∀y,y<wd k->zL (.nm 0) z7 (dv (zf 0)<|zd 1) [.no,.val (.int y)] (zF n (wd k) M)=di (zz n λi=>M i y):=λy s=>by unfold zF;rw[zA];refine zr _ _ λc _=>zv rfl rfl ?_;simp[s]
  have h:zL (.nm 0) z7 (jF<|zE (zB<|zf 1) (.nm 0) 1 [0] z7 (dv (zf 0)<|zd 1)) [.no,.val (.lst<|zF n (wd k) M)] ((Ad<|wd k).map λ(i:Nat)=>D.int (i:Int))=di (ji (wd k) n λy i=>M i y):=by unfold ji;refine zr _ _ λy s=>zv rfl rfl ?_;have:=K y<|Ah.mp s;simp[t,je,Ag,this]
  unfold xU;have bb:(zc (zd 0)<|zc (yS<|zf 3)<|zc (jF<|zE (zC<|dv (zq<|dv (zf 1)<|zt<|.int 1)<|zd 2) (.nm 0) 1 [3] z7 (jF<|zE (zB<|zf 1) (.nm 0) 1 [0] z7 (dv (zf 0)<|zd 1))) zJ) (z (.val<|.lst<|zF n (wd k) M) c4 c5 .no .no .no .no .no .no)=di [.int p,.int (n:Nat),.lst (ji (wd k) n λy i=>M i y)]:=by simp[z,R,jW,k1,qe,ae,zV,zA,je,Ag];rw[h];rfl
  rw[yU,yV,JQ,bb,Af,eb];rfl
 let O:List D:=(Ad r).map λk=>D.int ((l k:Nat):Int);have s4:xT (z (.val<|.lst<|zF n (wd k) M) c4 c5 (.val<|.lst<|zF r n B) .no .no .no .no .no)=di (.next<|z (.val<|.lst<|zF n (wd k) M) c4 c5 (.val<|.lst<|zF r n B) (.val<|.lst O) .no .no .no .no):=by
  have h:zL (.nm 0) z7 (dv (zX<|zE (zC<|yS<|zf 1) (.nm 0) 1 [0] (sB<|zy l6 (dv (zf 1)<|zd 0)<|zt<|.int 0) (zd 0))<|zt<|.int 0) [.no,.val (.lst<|zF n (wd k) M)] (zF r n B)=di O:=by unfold zF;refine zr _ _ λj U=>zv rfl rfl ?_;obtain⟨L,e⟩:=XZ A<|Ah.mp U;have c:=v7 A<|Ah.mp U;rw[e]at c;simp[zV,t,qe,je,Ag];rw[zA n λi=>(i:Int),c];simp
  unfold xT;rw[yU,yV,xv];show((if (zF r n B).length<=lim then zL _ _ _ [.no,.val (.lst<|zF n (wd k) M)] (zF r n B)else dn).map _).map _=_;rw[GY (by simpa using b8),h];rfl
 let Q:List D:=(gv n r l).map λ(j:Nat)=>D.int (j:Int);have im:=kH l<|Ad r;have s5:xS (z (.val<|.lst<|zF n (wd k) M) c4 c5 (.val<|.lst<|zF r n B) (.val<|.lst O) .no .no .no .no)=di (.next<|z (.val<|.lst<|zF n (wd k) M) c4 c5 (.val<|.lst<|zF r n B) (.val<|.lst O) (.val<|.lst Q) .no .no .no):=by
  have h:zL (.nm 0) (sB<|kc (zd 0)<|zf 1) (zd 0) [.no,.val (.lst O)] ((Ad n).map λ(i:Nat)=>D.int (i:Int))=di Q:=by
   refine jm _ _ _ λj U=>⟨_,rfl,?_,λ_=>rfl⟩;show((wg O).map λl=>D.bl<|!decide ((j:Int)∈l)).bind p3=_;rw[im];show di (!decide ((j:Int)∈(Ad r).map λj=>((l j:Nat):Int)))=_;congr 2;rw[Cd,u9,decide_eq_true_eq,Cm];constructor
   ·rintro⟨j,U,e⟩;exact⟨j,Ah.mp U,by omega⟩
   ·rintro⟨j,U,e⟩;exact⟨j,Ah.mpr U,by omega⟩
  unfold xS;simp[z,qe,t,zV,zA,je,Ag];rw[h]
 let LF:List D:=(Ad n).map λx=>D.lst<|zz n<|kM p B l (jA x) r;have s6:xR (z (.val<|.lst<|zF n (wd k) M) c4 c5 (.val<|.lst<|zF r n B) (.val<|.lst O) (.val<|.lst Q) .no .no .no)=di (.next<|z (.val<|.lst<|zF n (wd k) M) c4 c5 (.val<|.lst<|zF r n B) (.val<|.lst O) (.val<|.lst Q) (.val<|.lst LF) .no .no):=by
  have un : ∀x:Nat,zL (.nm 0) z7 (kX<|zy hI (zd 0)<|zd 1) [.no,.val (.int x)] ((Ad n).map λ(i:Nat)=>D.int (i:Int))=di (zz n<|jA x):=λx=>by
   rw[zA];refine zr _ _ λj _=>zv rfl rfl ?_;unfold jA;by_cases c:x=j
   ·subst c;simp[kX]
   ·have c2 : ¬((j:Int)=x):=by omega
    simp[kX,c,c2]
  have h:zL (.nm 0) z7 (zG qi<|zc (zd 1)<|zc (jF<|zE (zC<|yS<|zf 2) (.nm 0) 1 [0] z7 (kX<|zy hI (zd 0)<|zd 1))<|zc (zd 3) zJ) [.no,.val<|.int p,.val<|.lst<|zF n (wd k) M,.val (.lst<|zF r n B)] ((Ad n).map λ(i:Nat)=>D.int (i:Int))=di LF:=by refine zr _ _ λx _=>zv rfl rfl ?_;have le:=V7 hp ⋯ A x;have u:=un x;simp[qe,t,zV,zA n λi=>(i:Int),je,Ag];rw[u];simp[le]
  unfold xR;simp[z,qe,t,zV,zA n λi=>(i:Int),je,Ag];rw[h]
 let q:=(gv n r l).length;have hq:q<=n:=by have:=JE A;show(gv n r l).length<=n;omega
 have bn:q<=lim:=by omega
 have s7:=cT (p:=p) (w:=w) (wd:=wd) (T:=T) hm hk (i:=10) (j:=11) (fv:=(zM<|zX<|zE (zB<|zf 8) (.nm 0) 1 [1,4,9,11] z7 (zM<|zX<|zE (zC<|dv (zq<|dv (zf 1)<|zt<|.int 1)<|zd 2) (.nm 0) 1 [0,3,4] z7 (dv (zq<|dv (zf 2)<|zy j4 (zd 3)<|zd 0)<|zd 1))))
  (λo n' _=> .tup (zF q n' λc y=>l8 p n r B l c<|o+y)) (λa b c d=>z (.val<|.lst<|zF n (wd k) M) a b (.val<|.lst<|zF r n B) (.val<|.lst O) (.val<|.lst Q) (.val<|.lst LF) c d) (λ_ _ _ _ _ _=>rfl) (λ_ _ _ _ _=>rfl) (λ_ _ _ _ _=>rfl) (λ_ _ _ _=>rfl) (λ_ _ _ _=>rfl) (λ_ _ _ _=>rfl) (λ_ _ _ _=>rfl) ⋯ rfl (λ_ _ _ _=>by simp[z]) (c4:=c4) (c5:=c5) (by
    simp at Y;show(dt || (dt || (dt || (dt || (jl c4 || (jl c5 || (dt || (dt || (dt || (dt || (dt || (dt || false))))))))))))=dt;rw[Y.1,Y.2];rfl) (by
  intro a d5 o G I E ho;obtain⟨X,_⟩:=vD E;have c1:=(yH hk X).1;have b0:=C a.1;have ca:wd a.1<=lim:=by omega
  have cx:o+wd a.1<=n:=by
   have:=VX (wd:=wd) (m:=m) H J;rw[<- E]at this;subst ho;have e:xy wd (I++a::G)=xy wd I+(wd a.1+xy wd G):=by simp[xy]
   omega
  have K : ∀f,f<n->zL (.nm 0) z7 (dv (zq<|dv (zf 2)<|zy j4 (zd 3)<|zd 0)<|zd 1) [.no,.val<|.int (f:Nat),.val<|.lst LF,.val (.int (o:Nat))] ((Ad<|wd a.1).map λ(i:Nat)=>D.int (i:Int))=di (zz (wd a.1) λy=>kM p B l (jA<|o+y) r f):=λf Z=>by
   rw[zA];refine zr _ _ λy s=>zv rfl rfl ?_;have s:=Ah.mp s;have h3:o+y<n:=by omega
   have ix:i3 n ((o:Int)+(y:Int))=di (o+y):=by rw[show(o:Int)+(y:Int)=((o+y:Nat):Int)by omega,jI,GY h3]
   simp[LF,ix,h3,Z]
  have h:zL (.nm 0) z7 (zM<|zX<|zE (zC<|dv (zq<|dv (zf 1)<|zt<|.int 1)<|zd 2) (.nm 0) 1 [0,3,4] z7 (dv (zq<|dv (zf 2)<|zy j4 (zd 3)<|zd 0)<|zd 1)) [.no,.val R,.val<|.int (a.1:Nat),.val<|.lst LF,.val (.int (o:Nat))] Q=di (zF q (wd a.1) λc y=>l8 p n r B l c<|o+y):=by
   have e:zF q (wd a.1) (λc y=>l8 p n r B l c<|o+y)=(gv n r l).map λf=>D.tup (zz (wd a.1) λy=>kM p B l (jA<|o+y) r f):=by
    refine CA (by simp[q]) λc h1 S=>?_;have cd:c<(gv n r l).length:=by simpa using S
    simp only[zF,EC,Em];congr 2;funext y;show xK r B l (jA<|o+y) ((gv n r l).getD c 0)%p=_;rw[AY,Ak cd];rfl
   rw[e];refine zr _ _ λf Z=>zv rfl rfl ?_;have ce:f<n:=Ah.mp (AL.mp Z).1;have:=K f ce;simp[R,jW,c1,qe,ca,zV,zA (wd a.1) λi=>(i:Int),je,Ag];rw[this]
  have fl:Q.length<=lim:=by simpa[Q]using bn
  simp[z,fl,je,Ag];exact h)
 obtain⟨d4,d5,d9,s7⟩:=s7;rw[w6];refine j7<|zo (γ':=z (.val<|.lst []) .no .no .no .no .no .no .no .no) rfl<|zo s2<|zo s3<|zo s4<|zo s5<|zo s6<|zo s7 ?_;have l2:2<=lim:=by omega
 simp[k8,z,l2,Q,q]
end
section
variable{p:Int}{m k wl wr:Nat}{w:GX}{wd:GZ}{T:GV}
theorem Zf(Q:m<=5)(C:k<=m)(U : ∀k,wd k<=8)(H:wl=if 0<k then wd (k - 1)else 0)(J:wr=if k<m then wd (k+1)else 0)(ht:Jb ((Ad m).map w) k=dk)
 (M : ∀q,q<=wl+wr->zu (λr=>(g5 k q wd r:Int)) (m+1)<=30) (e:Bool) (G:GK) (q:Nat) (hq:q<=wl+wr) (Z:yq ((Ad m).map w) k=e) (L:(0<k->w (k - 1) = !e)/\(k<m->w k=e)) (S : ∀i c,i<wl+wr->c<q->0<=G i c/\G i c<p)
 (Y:if e=dk then j1 [.int p,jy (wl+wr) (wd k) (yk e k wl T)]=di (.val<|jy (wl+wr) q G)else jj [.int p,jy (wl+wr) (wd k) (yk e k wl T)]=di (.val<|jy (wl+wr) q G)) :
 jZ [jS p m w wd T,.int (k:Int)]=di (.val<|jS p m (h8 k w) (g5 k q wd)<|i0 p e k wl G T):=by
 have B:=jb;have u:=yW (p:=p) (w:=w) (wd:=wd) (T:=T) (show m<=900 by omega);have a:=Kb (l:=(Ad m).map w) (k:=k) (by simpa using Q) (by simpa using C) ht;rw[<- vt]at a;have f:=XW (w:=w) Q C;have x:=U k;have y:wl<=8:=by rw[H];split;exact U _;omega
 have A:wr<=8:=by rw[J];split;exact U _;omega
 have b : ∀k,wd k<=100:=λk=>by have:=U k;omega
 have li:=bx (p:=p) (w:=w) (T:=T) b Q C e;rw[V4 H J C e L]at li;have g:=wF (T:=T) (p:=p) (q:=q) rfl H J Q C b ⋯ e L G S;rw[Z]at f;let R:=jS p m w wd T;let W:D:= .str (xf m w);let d:D:= .tup (zF (wl+wr) (wd k)<|yk e k wl T);let z:=jy (wl+wr) (wd k)<|yk e k wl T;let I:=jy (wl+wr) q G;let O:D:= .tup (zz (m+1) λr=>(g5 k q wd r:Int));rw[iu];refine j7 (zo (γ':=[.val R,.val<|.int k,.val W,.no,.no,.no,.no,.no]) ?_ (zo (γ':=[.val R,.val<|.int k,.val W,.no,.no,.no,.no,.no]) ?_ (zo (γ':=[.val R,.val<|.int k,.val W,.val<|.bl e,.no,.no,.no,.no]) ?_ (zo (γ':=[.val R,.val<|.int k,.val W,.val<|.bl e,.val d,.no,.no,.no]) ?_
  (zo (γ':=[.val R,.val<|.int k,.val W,.val<|.bl e,.val d,.val z,.no,.no]) ?_ (zo (γ':=[.val R,.val<|.int k,.val W,.val<|.bl e,.val d,.val z,.val I,.no]) ?_ (zo (γ':=[.val R,.val<|.int k,.val W,.val<|.bl e,.val d,.val z,.val I,.val O]) ?_ (zo (γ':=[.val R,.val<|.int k,.val W,.val<|.bl e,.val d,.val z,.val I,.val O]) ?_ ?_))))))))
 ·simp[Gj,jD,Ag,u,R,W]
 ·simp[Gk,W,a]
 ·simp[Gm,W,f]
 ·simp[Gn,R,li,d]
 ·have n:k<m+1:=by omega
  have s:jf (.tup<|zF (wl+wr) (wd k)<|yk e k wl T)=di (.T,zF (wl+wr) (wd k)<|yk e k wl T):=rfl;simp[Gp,R,jW,jI,n,d,s,z,jy]
 ·cases e with
  | true=>rw[GY rfl]at Y;simp[Fu,R,jW,z,I,Y]
  | false=>rw[MQ ⋯]at Y;simp[Fu,R,jW,z,I,Y]
 ·have o:jf (jy (wl+wr) q G)=di (.T,[.int (wl+wr:Nat),.int q,.tup (zF (wl+wr) q G)]):=rfl
  have t:=kO (wd:=wd) (q:=q) C Q;have h:j4 (.tup<|wx (zz (m+1) λr=>(wd r:Int)) dn<|some (k:Int)) (.tup [D.int (q:Int)])=di (.tup<|wx (zz (m+1) λr=>(wd r:Int)) dn (di (k:Int))++[D.int (q:Int)]):=by show(if _<=lim then _ else dn)=_;rw[vk _ (by simp;omega),GY (by simp;omega)]
  simp[Gq,R,jW,I,o,h,t,O]
 ·have E:=M q hq
  have j : ¬30<zu (λr=>(g5 k q wd r:Int)) (m+1):=by omega
  have as:qt [O]=di (.val .f7):=by simp[qt,jh,jD,Ag,jf,O,J0,j]
  simp[Gr,as]
 ·simp[Gs,R,jW,I,g,O]
  rfl
end
theorem XS:r9.map (λa=>xl [.str (wl a.1),.int (a.2:Int)])=r9.map λa=>di (.val<|.bl<|yq a.1 a.2):=by kernel_rfl
theorem Wl{wd:GZ}{F:Nat->Nat->Nat×Nat->D}{a:Nat×Nat}{R:List (Nat×Nat)} : ∀(d:List (Nat×Nat)) (o:Nat),((a.1:Nat):Int)∉d.map (λa=>((a.1:Nat):Int))->w4 ((d++a::R).map λa=>D.int (a.1:Nat)) (pa wd F o (d++a::R)) ((a.1:Nat):Int)=di (F (o+xy wd d) (wd a.1) a)
 | [],o,_=>by show w4 (D.int (a.1:Nat)::_) (F o (wd a.1) a::_) _=_;simp[w4,xy]
 | b::d,o,h=>by
  have I : ¬((b.1:Nat):Int)=((a.1:Nat):Int):=λz=>h (by rw[Ap,<- z];exact Ar);have O:=Wl (wd:=wd) (F:=F) (a:=a) (R:=R) d (o+wd b.1) λz=>h<|Ax _ z;show w4 (D.int (b.1:Nat)::((d++a::R).map λa=>D.int (a.1:Nat))) (F o (wd b.1) b::pa wd F (o+wd b.1) (d++a::R)) _=_;have e:xy wd (b::d)=wd b.1+xy wd d:=by simp[xy]
  rw[e,<- Nat.add_assoc,<- O];show(if ((b.1:Nat):Int)=((a.1:Nat):Int)then _ else _)=_;rw[MQ I]
theorem Vb{wd:GZ}{F:Nat->Nat->Nat×Nat->D} : ∀(L:List (Nat×Nat)) (o:Nat),(pa wd F o L).length=L.length
 | [],_=>rfl
 | a::L,o=>by show(pa wd F _ L).length+1=L.length+1;rw[Vb]
theorem wj : ∀L:List (Nat×Nat),(va<|L.map λa=>D.int (a.1:Nat)).isSome=dk
 | []=>rfl
 | a::L=>by show((va<|L.map λa=>D.int (a.1:Nat)).map λl=>((a.1:Nat):Int)::l).isSome=dk;rw[Fd];exact wj L
theorem bM(b:Bool)(γ:Ctx)(f:CO D)(h:f γ=di (.str (qm (f9 b)))):qv (zt (.str "lr")) (Zl f) γ=di (.str (qm (f9 !b))):=by
 have d:qm (f9 dt)=("r" : Str):=by decide +kernel
 have z : ¬qm (f9 dk)=("r" : Str):=by decide +kernel
 have I:qm (f9 dk)=("l" : Str):=by decide +kernel
 have e:Zl f γ=di (.int<|if b=dk then 1 else 0):=by
  unfold Zl;rw[h,Af];cases b
  ·show(if _ then _ else _)=_;rw[GY d];rfl
  ·show(if _ then _ else if _ then _ else _)=_;rw[MQ z,GY I];rfl
 rw[JO,e,ZP,Af];cases b<;>kernel_rfl
section
variable{p:Int}{m k wl wr q:Nat}{w:GX}{wd:GZ}{T:GV}
noncomputable def G7:=(zD (jq 9 (aB (zd 8) (zd 3))) (zD (jq 10 (kP (zc (zd 5) (zc (dv (zq (dv (zf 1) (zt (.int 1)))) (zd 8)) zJ)))) (zD (js (sB (zd 4)) (jq 10 (kP (zc (dv (zq (dv (zf 1) (zt (.int 1)))) (zd 8)) (zc (zd 5) zJ)))) q8) (vE 7 (zd 9) (kP (zc (qv (zt (.str "lr")) (Zl (qv (zd 2) (zd 9)))) (zc (kP (zc (dv (zf 10) (zt (.int 0))) (zc (dv (zf 10) (zt (.int 1))) (zc (aD (zd 6) (zd 8)) zJ)))) zJ)))))))
theorem mN:bX=x9 (Kt<|zd 6) (.nm 8) G7:=rfl
noncomputable def Dp(e:Bool)(q:Nat)(G:GK)(o n:Nat)(_:Nat×Nat):D:=if e=dk then .tup (zF n q λy c=>G (o+y) c)else .tup (zF q n λc y=>G (o+y) c)
noncomputable def vu(w:GX)(wd:GZ)(e:Bool)(q:Nat)(G:GK)(o:Nat)(a:Nat×Nat):D:= .tup [.str (qm<|f9<|!w a.2),if e=dk then jy (wd a.1) q λy c=>G (o+y) c else jy q (wd a.1) λc y=>G (o+y) c]
noncomputable def m7(w:GX)(wd:GZ)(e:Bool)(q:Nat)(G:GK):Nat->List (Nat×Nat)->List D->List D
 | _,[],A=>A
 | o,a::L,A=>m7 w wd e q G (o+wd a.1) L<|A.set a.2<|vu w wd e q G o a
theorem WY(e:Bool)(G:GK)(a:Nat×Nat) : ∀(L:List (Nat×Nat)) (o:Nat) (A:List D),m7 w wd e q G o (L++[a]) A=(m7 w wd e q G o L A).set a.2 (vu w wd e q G (o+xy wd L) a)
 | [],o,A=>by simp[m7,xy]
 | b::L,o,A=>by
  show m7 w wd e q G (o+wd b.1) (L++[a]) _=_;rw[WY e G a L];have z:xy wd (b::L)=wd b.1+xy wd L:=by simp[xy]
  rw[z,Nat.add_assoc];rfl
theorem Kd(e:Bool)(G:GK) : ∀(L:List (Nat×Nat)) (o:Nat) (A:List D),(m7 w wd e q G o L A).length=A.length
 | [],_,_=>rfl
 | a::L,o,A=>by show(m7 w wd e q G _ L _).length=_;rw[Kd,List.length_set]
theorem mT(J:0<p)(M:m<=5)(L:k<=m)(R:wl=if 0<k then wd (k - 1)else 0)(C:wr=if k<m then wd (k+1)else 0)(e:Bool)(G:GK)(U : ∀i c,i<wl+wr->c<q->0<=G i c/\G i c<p)(H:(0<k->w (k - 1) = !e)/\(k<m->w k=e)) :
 m7 w wd e q G 0 (gB m k) (jn m w wd T)=jn m (h8 k w) (g5 k q wd) (i0 p e k wl G T):=by
 have u:0<k->h8 k w (k - 1) = !w (k - 1):=λh=>GY<|.inl ⋯;have x:h8 k w k = !w k:=GY<|.inr rfl;have Y : ∀a,a≠k->a+1≠k->kn (h8 k w) (g5 k q wd) (i0 p e k wl G T) a=kn w wd T a:=λa g j=>by
  have f:h8 k w a=w a:=MQ λz=>z.elim j g;have Q:g5 k q wd a=wd a:=MQ g;have u1:g5 k q wd (a+1)=wd (a+1):=MQ j;have t:i0 p e k wl G T a=T a:=by funext i c;unfold i0;rw[MQ j,MQ g]
  unfold kn e7 fh;rw[f,Q,u1,t]
 have o:0<k->kn (h8 k w) (g5 k q wd) (i0 p e k wl G T) (k - 1)=vu w wd e q G 0 (k - 1,k - 1):=λh=>by
  have l:k - 1+1=k:=by omega
  have Q:g5 k q wd (k - 1)=wl:=by unfold g5;rw[MQ ⋯,R,GY h]
  have u1:g5 k q wd k=q:=GY rfl;have I:wd (k - 1)=wl:=by rw[R,GY h]
  unfold kn e7 fh vu;dsimp only;rw[u h,H.1 h,Bool.not_not,l,Q,u1,I];congr 2;cases e with
  | true=>
   simp only[if_true,BG];congr 1;refine qg λi c n O=>?_;have:=U i c ⋯ O;unfold i0;rw[GY l,GY rfl,AK this.1 this.2]
  | false=>
   simp only[Bv,if_false,BG];congr 1;refine qg λc i O n=>?_;have:=U i c ⋯ O;unfold i0;rw[GY l,MQ ⋯,AK this.1 this.2]
 have r:k<m->kn (h8 k w) (g5 k q wd) (i0 p e k wl G T) k=vu w wd e q G wl (k+1,k):=λh=>by
  have Q:g5 k q wd (k+1)=wr:=by unfold g5;rw[MQ ⋯,C,GY h]
  have u1:g5 k q wd k=q:=GY rfl;have I:wd (k+1)=wr:=by rw[C,GY h]
  have s : ¬k+1=k:=by omega
  unfold kn e7 fh vu;dsimp only;rw[x,H.2 h,Q,u1,I];congr 2;cases e with
  | true=>
   simp only[Ed,Bv,if_false,if_true];congr 1;refine qg λi c n O=>?_;have:=U (wl+i) c ⋯ O;unfold i0;rw[MQ s,GY rfl,GY rfl,AK this.1 this.2]
  | false=>
   simp only[CS,Bv,if_false,if_true];congr 1;refine qg λc i O n=>?_;have:=U (wl+i) c ⋯ O;unfold i0;rw[MQ s,GY rfl,MQ ⋯,AK this.1 this.2]
 have g0 : ∀i (h:i<(jn m w wd T).length),(jn m w wd T)[i]=kn w wd T i:=λi h=>by simp[jn]
 have g1 : ∀i (h:i<(jn m (h8 k w) (g5 k q wd)<|i0 p e k wl G T).length),(jn m (h8 k w) (g5 k q wd)<|i0 p e k wl G T)[i]=kn (h8 k w) (g5 k q wd) (i0 p e k wl G T) i:=λi h=>by simp[jn]
 refine CA (by rw[Kd];simp[jn]) λi g j=>?_;have y:i<m:=by simpa[jn]using j
 rw[g1];unfold gB at g ⊢;by_cases a:0<k
 ·have I:wd (k - 1)=wl:=by rw[R,GY a]
  by_cases b:k<m
  ·simp only[GY a,GY b,List.singleton_append,m7,BG,I,CZ,g0]
   by_cases c:k=i
   ·subst c;rw[GY rfl];exact(r b).symm
   ·rw[MQ c]
    by_cases d:k - 1=i
    ·subst d;rw[GY rfl];exact(o a).symm
    ·rw[MQ d];exact(Y i ⋯ ⋯).symm
  ·simp only[GY a,MQ b,Bp,m7,CZ,g0]
   by_cases d:k - 1=i
   ·subst d;rw[GY rfl];exact(o a).symm
   ·rw[MQ d];exact(Y i ⋯ ⋯).symm
 ·have I:wl=0:=by rw[R,MQ a]
  by_cases b:k<m
  ·simp only[MQ a,GY b,List.nil_append,m7,CZ,g0]
   by_cases c:k=i
   ·subst c;rw[GY rfl,r b,I]
   ·rw[MQ c];exact(Y i ⋯ ⋯).symm
  ·simp only[MQ a,MQ b,Bp,m7,g0]
   exact(Y i ⋯ ⋯).symm
theorem dJ(S:0<p)(Y:m<=5)(C:k<=m)(bv : ∀k,wd k<=20)(hq:q<=100)(Z:wl=if 0<k then wd (k - 1)else 0)(am:wr=if k<m then wd (k+1)else 0)(e:Bool)(G:GK)(hG : ∀i c,i<wl+wr->c<q->0<=G i c/\G i c<p)(hE:(0<k->w (k - 1) = !e)/\(k<m->w k=e))(he:yq ((Ad m).map w) k=e)
 (U:(if e=dk then qk else jv) [.int p,jS p m w wd T,.int (k:Int)]=di (.val<|.tup [.int (q:Nat),Dn wd (Dp e q G) m k])) :
 qB [.int p,jS p m w wd T,.str<|xf m w,.int (k:Int)]=di (.val<|jS p m (h8 k w) (g5 k q wd)<|i0 p e k wl G T):=by
 have hl:=jb;have n:2<=lim:=by omega
 have u:3<=lim:=by omega
 have l1:1<=lim:=by omega
 let R:=jS p m w wd T;let B:D:= .str (xf m w);let O:=Dn wd (Dp e q G) m k;have t:=QS XS (qL (l:=(Ad m).map w) (k:=k) (by simpa using Y)<|by simpa using C);dsimp only at t;rw[<- vt,he]at t;let d:Cell->Cell->Cell->Cell->Cell->Cell->Cell->Ctx:=λc4 f c6 c7 j h b=>[.val (.int p),.val R,.val B,.val<|.int k,c4,f,c6,c7,j,h,b];let A:List (Nat×Nat)->List D:=λI=>m7 w wd e q G 0 I<|jn m w wd T;have s1:bZ (d .no .no .no .no .no .no .no)=di (.next<|d (.val<|.bl e) .no .no .no .no .no .no):=by simp[bZ,d,B,t]
 have s2:Wz (d (.val<|.bl e) .no .no .no .no .no .no)=di (.next<|d (.val<|.bl e) (.val<|.int (q:Nat)) (.val O) .no .no .no .no):=by
  cases e with
  | true=>rw[GY rfl]at U;simp[Wz,d,R,U,O]
  | false=>rw[MQ ⋯]at U;simp[Wz,d,R,U,O]
 have s3:bY (d (.val<|.bl e) (.val<|.int (q:Nat)) (.val O) .no .no .no .no)=di (.next<|d (.val<|.bl e) (.val<|.int (q:Nat)) (.val O) (.own<|A []) .no .no .no):=by simp[bY,d,R,jW,A,m7]
 have K:=J5 m k;have x : ∃j h b,bX (d (.val<|.bl e) (.val<|.int (q:Nat)) (.val O) (.own<|A []) .no .no .no)=di (.next<|d (.val<|.bl e) (.val<|.int (q:Nat)) (.val O) (.own<|A<|gB m k) j h b):=by
  rw[mN,xB];have y:Kt (zd 6) (d (.val<|.bl e) (.val<|.int (q:Nat)) (.val O) (.own<|A []) .no .no .no)=di ((gB m k).map λa=>D.int (a.1:Nat)):=by show(if _/\_ then di _ else dn)=_;rw[GY ⟨by rw[Vb,Ay],wj _⟩]
  rw[y,Af];obtain⟨γ',er,j,h,b,rfl⟩:=yp (T:= .nm 8) (F:=G7) (g:=λa:Nat×Nat=>D.int (a.1:Nat)) (W:=gB m k)
   (λI L=>∃j h b,L=d (.val<|.bl e) (.val<|.int (q:Nat)) (.val O) (.own<|A I) j h b) (gB m k) [] (d (.val<|.bl e) (.val<|.int (q:Nat)) (.val O) (.own<|A []) .no .no .no) rfl ⟨.no,.no,.no,rfl⟩ (by
   rintro a I M L s ⟨j,h,b,rfl⟩;obtain⟨ha,c2⟩:=vD s;obtain⟨E,o,N⟩:=yH C ha;have hn:((a.1:Nat):Int)∉I.map (λa=>((a.1:Nat):Int)):=by rw[<- s,AR,Ap]at K;exact λz=>(Fg.mp K).2.2 _ z _ Ar rfl
   have J:=Wl (wd:=wd) (F:=Dp e q G) (R:=M) I 0 hn;rw[s,BG]at J;have mn:(if k<a.1 then (k:Int)else ((a.1:Nat):Int))=((a.2:Nat):Int):=by
    rcases N with⟨z1,z2⟩ | ⟨z1,z2⟩
    ·rw[MQ ⋯];omega
    ·rw[GY ⋯];omega
   let f:Cell:= .val (.int (q:Nat));let Q:Cell:= .val (.tup<|if e=dk then [.int (wd a.1:Nat),.int (q:Nat)]else [.int (q:Nat),.int (wd a.1:Nat)]);refine⟨d (.val<|.bl e) f (.val O) (.own<|A I) (.val<|.int (a.1:Nat)) h b,d (.val<|.bl e) f (.val O) (.own<|A<|I++[a]) (.val<|.int (a.1:Nat)) (.val<|.int (a.2:Nat)) Q,rfl,?_,_,_,_,rfl⟩;refine zo (γ':=d (.val<|.bl e) f (.val O) (.own<|A I) (.val<|.int (a.1:Nat)) (.val<|.int (a.2:Nat)) b) ?_ (zo (γ':=d (.val<|.bl e) f (.val O) (.own<|A I) (.val<|.int (a.1:Nat)) (.val<|.int (a.2:Nat))<|.val<|.tup [.int (q:Nat),.int (wd a.1:Nat)]) ?_ (zo (γ':=d (.val<|.bl e) f (.val O) (.own<|A I) (.val<|.int (a.1:Nat)) (.val<|.int (a.2:Nat)) Q) ?_ ?_))
   ·simp[d]
    exact mn
   ·simp[d,f,R,jW,E,n]
   ·cases e with
    | true=>simp[d,f,Q,R,jW,E,n]
    | false=>simp[d,Q]
   ·have H:(A I).length=m:=by show(m7 w wd e q G 0 I _).length=m;rw[Kd];simp[jn]
    have ea:A (I++[a])=(A I).set a.2 (vu w wd e q G (xy wd I) a):=by show m7 w wd e q G 0 (I++[a]) _=_;rw[WY,BG]
    have fw:=bM (w a.2) (d (.val<|.bl e) f (.val O) (.own<|A I) (.val<|.int (a.1:Nat)) (.val<|.int (a.2:Nat)) Q) (qv (zd 2)<|zd 9)<|Vj w ⋯ o _ _ _ rfl rfl;have gd:aD (zd 6) (zd 8) (d (.val<|.bl e) f (.val O) (.own<|A I) (.val<|.int (a.1:Nat)) (.val<|.int (a.2:Nat)) Q)=di (Dp e q G (xy wd I) (wd a.1) a):=J;rw[ea,cG,WZ,qY,fw,qY,WZ,qY,qY,qY,gd];cases e with
    | true=>simp[d,Q,H,o,n,u,vu,Dp,jy]
    | false=>simp[d,Q,H,o,n,u,vu,Dp,jy])
  exact⟨_,_,_,er⟩
 obtain⟨j,h,b,x⟩:=x;have P:=mT (w:=w) (T:=T) S Y C Z am e G hG hE;rw[bW];refine j7<|zo s1<|zo s2<|zo s3<|zo x ?_;have wa:=kO (wd:=wd) (q:=q) C Y;have X:j4 (.tup<|wx (zz (m+1) λr=>(wd r:Int)) dn<|some (k:Int)) (.tup [D.int (q:Int)])=di (.tup<|wx (zz (m+1) λr=>(wd r:Int)) dn (di (k:Int))++[D.int (q:Int)]):=by show(if _<=lim then _ else dn)=_;rw[vk _ (by simp;omega),GY (by simp;omega)]
 have bn:A (gB m k)=jn m (h8 k w) (g5 k q wd) (i0 p e k wl G T):=P;rw[bn];simp[gL,d,R,jW,l1,u,X,wa,jS]
end
theorem Kn{f:Nat->Int}{B:Int}(h : ∀r,f r<=B) : ∀n:Nat,zu f n<=n*B
 | 0=>by show(0:Int)<=_;omega
 | n+1=>by
  have:=Kn h n;have:=h n;show zu f n+f n<=_;have e:((n+1:Nat):Int)*B=n*B+B:=by rw[Int.natCast_add,Int.add_mul];simp
  omega
theorem ZU:jR=jh 5 (zD kA<|zD kz yD):=rfl
theorem bF:wG=jh 9 (zD gC<|zD gA<|zD gz<|zD gy<|zD gx<|zD gw<|zD gu<|zD gr<|zD gp Wd):=rfl
noncomputable def Gy:=(zD (Jh 1<|ql<|zc (dv (zf 3)<|zt<|.int 0)<|zc (dv (zf 3)<|zt<|.int 1) zJ)<|x9 (zB<|zq<|dv (zf 3)<|zt<|.int 2) (.nm 4)<|Xz 1<|zf 4)
theorem ic:kz=x9 (zB<|zq<|dv (zf 0)<|zt<|.int 2) (.tp [2,3]) Gy:=rfl
section
variable{p:Int}{m:Nat}{w:GX}{wd:GZ}{T:GV}
theorem dQ(H:m<=5)(C : ∀k,wd k<=8):jR [jS p m w wd T]=di (.val<|.bl dk):=by
 have E:=jb;have y:kA [.val (jS p m w wd T),.no,.no,.no,.no]=di (.next [.val (jS p m w wd T),.own<|(p::(Ad<|m+1).map λk=>(wd k:Int)).map D.int,.no,.no,.no]):=by
  have le:1+(m+1)<=lim:=by omega
  have Y:1<=lim:=by omega
  simp[kA,jW,Y,le,zA]
 have j : ∀(s:Nat) (b:List Int) (d f:Cell),b.length<=1000->∃(z:List Int) (I:Cell),Gy [.val (jS p m w wd T),.own<|b.map D.int,d,.val<|jy (e7 w wd s) (fh w wd s)<|T s,f]=di (.next [.val (jS p m w wd T),.own<|z.map D.int,d,.val<|jy (e7 w wd s) (fh w wd s)<|T s,I])/\z.length<=b.length+66:=λs b d f o=>by
  have b1:e7 w wd s<=8:=by unfold e7;split<;>exact C _
  have b2:fh w wd s<=8:=by unfold fh;split<;>exact C _
  have b3:e7 w wd s*fh w wd s<=8*8:=Nat.mul_le_mul b1 b2;have R:=dY (e7 w wd s) (fh w wd s)<|T s;have x:2<=lim:=by omega
  have le:b.length+2<=lim:=by omega
  obtain⟨z,I,Q,U⟩:=bO (.val<|jS p m w wd T) d (.val<|jy (e7 w wd s) (fh w wd s)<|T s) (fh w wd s) (T s) (e7 w wd s) 0 (b++[(e7 w wd s:Int),(fh w wd s:Int)]) f (by simp;omega);rw[<- Bm]at Q;refine⟨z,I,zo (γ':=[.val (jS p m w wd T),.own<|(b++[(e7 w wd s:Int),(fh w wd s:Int)]).map D.int,d,.val<|jy (e7 w wd s) (fh w wd s)<|T s,f]) ?_ ?_,by rw[U];simp;omega⟩
  ·unfold Jh
   simp[R,x,le]
  ·rw[xB]
   have r:i3 3 2=di 2:=rfl;simp only[yw,JP,W3,ko,ZP,Au,Av,BF,CF,BG,Nat.reduceAdd,j8,Af,AO,R,xW,r,ZO];exact Q
 obtain⟨γ',e,b,d,O,f,J,rfl⟩ : ∃γ',kz [.val (jS p m w wd T),.own<|(p::(Ad<|m+1).map λk=>(wd k:Int)).map D.int,.no,.no,.no]=di (.next γ')/\∃(b:List Int) (d O f:Cell),b.length<=10+66*m/\γ'=[.val (jS p m w wd T),.own<|b.map D.int,d,O,f]:=by
  rw[ic,xB];have h:(zB<|zq<|dv (zf 0)<|zt<|.int 2) [.val (jS p m w wd T),.own<|(p::(Ad<|m+1).map λk=>(wd k:Int)).map D.int,.no,.no,.no]=di ((Ad m).map (kn w wd T)):=rfl;rw[h,Af];exact wo (T:= .tp [2,3]) (F:=Gy) (g:=kn w wd T) (λs i=>∃(b:List Int) (d O f:Cell),b.length<=10+66*s/\i=[.val (jS p m w wd T),.own<|b.map D.int,d,O,f]) m ⟨_,_,_,_,by simp;omega,rfl⟩ (by
   rintro s G i ⟨b,d,O,f,o,rfl⟩;obtain⟨z,I,Q,U⟩:=j s b (.val<|.str<|qm<|f9<|w s) f ⋯;exact⟨_,_,rfl,Q,z,_,_,I,by omega,rfl⟩)
 have n:b.length<=lim:=by omega
 have u:zL (.nm 0) z7 (zG xZ<|zc (zd 0) zJ) [Cell.no] (b.map D.int)=di (b.map λ_=>D.bl dk):=by refine zr _ _ λk B=>zv rfl rfl ?_;show zG _ _ [Cell.val (.int k)]=_;simp[Y2]
 have A : ∀l:List Int,Ja (l.map λ_=>D.bl dk)=di (l.map λ_=>dk):=λl=>by
  induction l with
  | nil=>rfl
  | cons a l t=>simp only[Ap,Ja,t];rfl
 rw[ZU];refine j7<|zo y<|zo e ?_;unfold yD;simp only[dP,nh,Ke,xv,yw,ko,Au,Av,X7,Af,AO,Ay,n,if_true,je,Ag,El,Bp,u,A];simp
end
theorem dS(d z I c5 C H:Cell):r9.map (λa=>gu [d,z,I,.val<|.int<|1+(a.1.length:Int),.val<|.str<|wl a.1,c5,.val<|.int (a.2:Int),C,H])=r9.map λa=>di (.next [d,z,I,.val<|.int<|1+(a.1.length:Int),.val<|.str<|wl a.1,c5,.val<|.int (Zg a.1 a.2:Int),C,H]):=by kernel_rfl
theorem Vr{m k:Nat}{w:GX}{wd:GZ}(C:k<=m)(e:Bool)(d:(0<k->w (k - 1) = !e)/\(k<m->w k=e)) : ∀a∈gB m k,e7 w wd a.2=(if e=dk then wd k else wd a.1)/\fh w wd a.2=(if e=dk then wd a.1 else wd k):=λa g=>by
 obtain⟨_,b,z⟩:=yH C g;obtain⟨r,s⟩:=a;dsimp only at b z ⊢;rcases z with⟨I,O⟩ | ⟨I,O⟩
 ·have f:s=k - 1:=by omega
  have Q:r=k - 1:=by omega
  have R:k - 1+1=k:=by omega
  subst f Q;unfold e7 fh;rw[d.1 ⋯,R];cases e<;>exact⟨rfl,rfl⟩
 ·subst I O
  unfold e7 fh;rw[d.2 b];cases e<;>exact⟨rfl,rfl⟩
theorem Wo{n r:Nat}{l C:GZ}(h : ∀j,j<r->l j=C j):gv n r l=gv n r C:=List.filter_congr λi _=>by
 congr 1;rw[Cd,u9,u9];constructor
 ·rintro⟨j,d,e⟩;exact⟨j,d,by rw[<- h j d];exact e⟩
 ·rintro⟨j,d,e⟩;exact⟨j,d,by rw[h j d];exact e⟩
theorem pF(C:List Int)(b7:C.length<=63):wG [vb C]=di (.val<|.bl dk):=by
 have hl:=jb;obtain⟨a1,a2,a3⟩:=JL b7 (k:=0) ⋯ ⋯;obtain⟨y1,y2,y3⟩:=JL b7 (k:=1) ⋯ ⋯;generalize xu C 0=c at a1 a2 a3;generalize xu C 1=d at y1 y2 y3;obtain⟨q,Q,ep,ce⟩:=lu a2;obtain⟨m,em,d5⟩:=QQ (c:=c/4) (n:=6) ⋯;have U:m<=5:=by omega
 obtain⟨w,hw⟩:=ik (c:=c/24) ⋯ U;obtain⟨i,ei,M⟩:=QQ (c:=d) (n:=m+1) ⋯;have bn:((Ad m).map w).length=m:=by simp
 obtain⟨ht,O⟩:=Va (l:=(Ad m).map w) (k:=i) ⋯ ⋯;have cl : ∃wide:Nat,(wide:Int)=3 - (if (4:Int)<1+(m:Int)then 1 else 0)/\wide<=3/\(m+1)*(2*wide)<=30:=by
  by_cases z:(4:Int)<1+(m:Int)
  ·exact⟨2,by rw[GY z];rfl,by omega,by omega⟩
  ·exact⟨3,by rw[MQ z];rfl,by omega,by omega⟩
 obtain⟨wide,ew,d6,d7⟩:=cl;obtain⟨wd,T,hd,Y,hT⟩:=vd (w:=w) b7 Q U (wide:=wide) ⋯;have wh:=QS (dS (.val<|vb C) (.val<|.int c) (.val<|.int q) (.val<|jS q m w wd T) .no .no)<|qL (l:=(Ad m).map w) (k:=i) ⋯ ⋯;dsimp only at wh;rw[bn,<- vt]at wh;rw[bn]at O;generalize Zg ((Ad m).map w) i=k at ht O wh;have b8 : ∀k,wd k<=8:=λk=>by have:=Y k;omega
 have S : ∀k,wd k<=20:=λk=>by have:=Y k;omega
 have p0:=Q.pos;obtain⟨wl,s⟩ : ∃wl,wl=if 0<k then wd (k - 1)else 0:=⟨_,rfl⟩;obtain⟨wr,t⟩ : ∃wr,wr=if k<m then wd (k+1)else 0:=⟨_,rfl⟩;have d8:wl<=wide:=by rw[s];split;exact Y _;omega
 have d9:wr<=wide:=by rw[t];split;exact Y _;omega
 have c1 : ∀(P:Nat),P<=wl+wr->zu (λr=>(g5 k P wd r:Int)) (m+1)<=30:=λP h2=>by
  have:=Kn (f:=λr=>(g5 k P wd r:Int)) (B:=((2*wide:Nat):Int)) (λr=>by have:=Y r;show((g5 k P wd r:Nat):Int)<=_;unfold g5;split<;>omega)<|m+1
  have e:(((m+1:Nat):Int)*((2*wide:Nat):Int))=(((m+1)*(2*wide):Nat):Int):=by rw[<- Int.natCast_mul]
  omega
 obtain⟨x,E,db,ed,et⟩ : ∃x E,x<=8/\qB [.int q,jS q m w wd T,.str<|xf m w,.int (k:Int)]=di (.val<|jS q m (h8 k w) (g5 k x wd) E)/\jZ [jS q m w wd T,.int (k:Int)]=di (.val<|jS q m (h8 k w) (g5 k x wd) E):=by
  cases he:yq ((Ad m).map w) k with
  | true=>
   have u:=(ZJ O).mp he;obtain⟨r1,K1,N,F,b9,G⟩:=lX Q (show wl+wr<=16 by omega) (show wd k<=20 by have:=Y k;omega)<|yk dk k wl T;obtain⟨b,y,g,eD,H,ct,J⟩:=YI Q U O S hT s t (w:=w) λa ha=>by have:=Vr (wd:=wd) O dk u a ha;simpa using this
   obtain⟨e1,_,e2⟩:=wD Q H b9 (λv h=>(G v).mpr ((J v).mp h)) λv h=>(J v).mpr ((G v).mp h);subst e1;have eT:jy (wl+wr) b (λi c=>K1 c i)=jy (wl+wr) b λi c=>y c i:=qg λi c M L=>(e2 c i L M).symm;rw[eT]at F;have K : ∀i c,i<wl+wr->c<b->0<=y c i/\y c i<q:=λi c M L=>H.l7 c i L M;refine⟨b,i0 q dk k wl (λi c=>y c i) T,by omega,dJ p0 U O S ⋯ s t dk (λi c=>y c i) K u he ?_,Zf U O b8 s t ht c1 dk (λi c=>y c i) b ct he u K<|by rw[GY rfl];exact F⟩;rw[GY rfl,eD];rfl
  | false=>
   have u:=gV O ht he;obtain⟨r1,B1,N,F,b9,G⟩:=lY Q (n:=wl+wr) ⋯ (show wd k<=lim by have:=Y k;omega)<|yk dt k wl T;obtain⟨b,o,g,eD,H,J⟩:=YQ Q U O S hT s t (w:=w) λa ha=>by have:=Vr (wd:=wd) O dt u a ha;simpa using this
   obtain⟨e1,X,e2⟩:=wD Q H b9 (λv h=>(G v).mpr ((J v).mp h)) λv h=>(J v).mpr ((G v).mp h);subst e1;have ef:gv (wl+wr) b N=gv (wl+wr) b g:=Wo λj Z=>(X j Z).symm;have fl:=JE H;rw[ef]at F;have eT:jy (wl+wr) (gv (wl+wr) b g).length (λi c=>l8 q (wl+wr) b B1 N c i)=jy (wl+wr) (gv (wl+wr) b g).length λi c=>l8 q (wl+wr) b o g c i:=qg λi c M L=>by have hx:=Wn (n:=wl+wr) (r:=b) (ls:=g) L;show xK b B1 N (jA i) ((gv (wl+wr) b N).getD c 0)%_=xK b o g (jA i) ((gv (wl+wr) b g).getD c 0)%_;rw[ef];unfold xK;rw[zQ λj Z=>by rw[<- X j Z,<- e2 j _ Z hx.1]]
   rw[eT]at F;have K : ∀i c,i<wl+wr->c<(gv (wl+wr) b g).length->0<=l8 q (wl+wr) b o g c i/\l8 q (wl+wr) b o g c i<q:=λi c _ _=>fZ Q _;refine⟨_,i0 q dt k wl (λi c=>l8 q (wl+wr) b o g c i) T,by omega,dJ p0 U O S ⋯ s t dt (λi c=>l8 q (wl+wr) b o g c i) K u he ?_,Zf U O b8 s t ht c1 dt (λi c=>l8 q (wl+wr) b o g c i) _ ⋯ he u K<|by rw[MQ ⋯];exact F⟩;rw[MQ ⋯,eD];rfl
 let R:=jS q m w wd T;let A:=jS q m (h8 k w) (g5 k x wd) E;let W:Cell:= .val (.str<|xf m w);have cx:=dQ (p:=(q:Int)) (w:=h8 k w) (wd:=g5 k x wd) (T:=E) U λr=>by have:=b8 r;unfold g5;split<;>omega
 have cy:c/4%6=(m:Int):=em;have rp:(0:Int)<1+(m:Int):=by omega
 have d1:d%(1+(m:Int))=(i:Int):=by rw[<- ei];congr 1;omega
 have d2:jT [vb C,.int 2,.int q,.str<|xf m w,.int wide]=di (.val<|jS q m w wd T):=hd;have eq:=cp<|fU (q:Int) m (h8 k w) (g5 k x wd) E;let I:Cell->Cell->Cell->Cell->Cell->Ctx:=λc4 c5 c6 c7 c8=>[.val (vb C),.val<|.int c,.val<|.int q,.val<|.int<|1+(m:Int),c4,c5,c6,c7,c8];rw[bF];refine j7 (zo (γ':=[.val (vb C),.val<|.int c,.no,.no,.no,.no,.no,.no,.no]) (by simp[gC,jD,Ag,a1])
  (zo (γ':=[.val (vb C),.val<|.int c,.val<|.int q,.no,.no,.no,.no,.no,.no]) (by simp[gA,ce,ep])
  (zo (γ':=I .no .no .no .no .no) (by simp[gz,cy,I])
  (zo (γ':=I W .no .no .no .no) (by simp[gy,I,hw,W])
  (zo (γ':=I W (.val R) .no .no .no) ?_
  (zo (γ':=I W (.val R) (.val<|.int (i:Int)) .no .no) (by simp[gw,I,y1,rp,d1])
  (zo (γ':=I W (.val R) (.val<|.int (k:Int)) .no .no) wh
  (zo (γ':=I W (.val R) (.val<|.int (k:Int)) (.val A) .no) (by simp[gr,I,W,R,ed,A])
  (zo (γ':=I W (.val R) (.val<|.int (k:Int)) (.val A)<|.val A) (by simp[gp,I,R,et,A]) ?_)))))))))
 ·have X:(3:Int) - (if (4:Int)<1+(m:Int)then 1 else 0)=(wide:Int):=ew.symm
  simp[gx,I,W,R];rw[X,d2];exact⟨_,rfl,rfl⟩
 ·simp[Wd,I,A,eq,cx]
noncomputable def top(i:Nat):PySem.Stmt:=PySem.Challenge.pw_barsplit_k50_turned_about.main.body.getD i<|.Pass ⟨0,0,0,0⟩
section
variable{CR CL:PySem.Addr}{P:PySem.Program}{w:PySem.World}{K:Ab}{mg:PySem.Str->Option PySem.Value}{base:PySem.Heap}
theorem XQ(h:us.length=n+1) : ∃a t,us=a::t/\t.length=n:=by
 cases us with
 | nil=>exact absurd h<|Nat.zero_ne_add_one n
 | cons a t=>exact⟨a,t,rfl,Nat.succ.inj h⟩
theorem uy(h:us.length=1) : ∃a,us=[a]:=by obtain⟨a,d,rfl,b⟩:=XQ h;rw[AN b];exact⟨a,rfl⟩
theorem ux(h:us.length=2) : ∃a b,us=[a,b]:=by obtain⟨a,d,rfl,e⟩:=XQ h;obtain⟨b,z,rfl,f⟩:=XQ e;rw[AN f];exact⟨a,b,rfl⟩
theorem uX(h:us.length=3) : ∃a b c,us=[a,b,c]:=by obtain⟨a,d,rfl,e⟩:=XQ h;obtain⟨b,z,rfl,f⟩:=XQ e;obtain⟨c,I,rfl,g⟩:=XQ f;rw[AN g];exact⟨a,b,c,rfl⟩
theorem uW(h:us.length=4) : ∃a b c d,us=[a,b,c,d]:=by obtain⟨a,I,rfl,e⟩:=XQ h;obtain⟨b,O,rfl,f⟩:=XQ e;obtain⟨c,Q,rfl,g⟩:=XQ f;obtain⟨d,R,rfl,z⟩:=XQ g;rw[AN z];exact⟨a,b,c,d,rfl⟩
theorem uV{H:Type}{C:List H}(h:C.length=5) : ∃a b c d e,C=[a,b,c,d,e]:=by obtain⟨a,O,rfl,f⟩:=XQ h;obtain⟨b,Q,rfl,g⟩:=XQ f;obtain⟨c,R,rfl,i⟩:=XQ g;obtain⟨d,U,rfl,z⟩:=XQ i;obtain⟨e,Y,rfl,I⟩:=XQ z;rw[AN I];exact⟨a,b,c,d,e,rfl⟩
structure E0(K:Ab)(mg:PySem.Str->Option PySem.Value):Prop where
 Q0:g8 K mg "is_whole" (top 7) ["x"]
 Q1:g8 K mg "rests" (top 8) ["p","numbers"]
 Q2:g8 K mg "inverse" (top 9) ["p","x"]
 Q3:g8 K mg "turned_over" (top 10) ["table"]
 Q4:g8 K mg "same_table" (top 11) ["many"]
 Q5:g8 K mg "lead_of" (top 13) ["load"]
 Q6:g8 K mg "cleared" (top 14) ["p","load","pivot","place"]
 Q7:g8 K mg "base_of" (top 15) ["p","long","loads"]
 Q8:g8 K mg "behind_noughts" (top 16) ["many","base"]
 Q9:g8 K mg "led_into" (top 17) ["p","table","base"]
 Qa:g8 K mg "kernel" (top 18) ["p","table"]
 Qb:g8 K mg "image" (top 19) ["p","table"]
 Qc:g8 K mg "columns" (top 21) ["high","loads"]
 Qd:g8 K mg "beginning_of" (top 24) ["k","way"]
 Qe:g8 K mg "end_of" (top 25) ["k","way"]
 Qf:g8 K mg "other_way" (top 26) ["way"]
 Qg:g8 K mg "is_room" (top 27) ["many","k"]
 Qh:g8 K mg "ways_of" (top 28) ["row"]
 Qi:g8 K mg "ask_together" (top 29) ["widths"]
 Qj:g8 K mg "arrows_of" (top 31) ["ways","k"]
 Qk:g8 K mg "is_end" (top 32) ["ways","k"]
 Ql:g8 K mg "is_beginning" (top 33) ["ways","k"]
 Qm:g8 K mg "ask_turn" (top 34) ["ways","k"]
 Qn:g8 K mg "lines_met" (top 35) ["row","k","ends"]
 Qo:g8 K mg "met_from_end" (top 36) ["p","met"]
 Qp:g8 K mg "what_is_left" (top 37) ["p","base","load"]
 Qq:g8 K mg "met_from_beginning" (top 38) ["p","met"]
 Qr:g8 K mg "arrow_about" (top 39) ["way","wide","lines","ends"]
 Qs:g8 K mg "arrows_about" (top 40) ["row","k","met","ends"]
 Qt:g8 K mg "turned_about" (top 41) ["row","k"]
 Qu:g8 K mg "_law_cell" (top 43) ["_law_script","_law_k"]
 Qv:g8 K mg "_law_less" (top 44) ["_law_p","_law_row_here","_law_other","_law_times"]
 Qw:g8 K mg "_law_base" (top 45) ["_law_p","_law_long","_law_loads"]
 Qx:g8 K mg "_law_ends" (top 46) ["_law_k","_law_way"]
 Qy:g8 K mg "_law_row" (top 47) ["_law_p","_law_ways_here","_law_widths","_law_tables"]
 Qz:g8 K mg "_law_ways" (top 48) ["_law_cell_here","_law_rooms"]
 HG:g8 K mg "_law_rows" (top 49) ["_law_script","_law_at","_law_p","_law_high","_law_wide"]
 HH:g8 K mg "_law_drawn" (top 50) ["_law_script","_law_at","_law_p","_law_ways_here","_law_most"]
 HI:g8 K mg "_law_sides" (top 51) ["_law_row_here","_law_k"]
 HJ:g8 K mg "_law_kernel" (top 52) ["_law_p","_law_wide","_law_rows_here"]
 HK:g8 K mg "_law_left" (top 53) ["_law_p","_law_load","_law_base_here"]
 HL:g8 K mg "_law_end_due" (top 54) ["_law_p","_law_row_here","_law_k"]
 HM:g8 K mg "_law_beginning_due" (top 55) ["_law_p","_law_row_here","_law_k"]
 HN:g8 K mg "_law_is_end" (top 56) ["_law_ways_here","_law_k"]
 HP:g8 K mg "_law_is_beginning" (top 57) ["_law_ways_here","_law_k"]
 HQ:g8 K mg "_law_due" (top 58) ["_law_p","_law_row_here","_law_ways_here","_law_k"]
 HR:g8 K mg "_law_whole" (top 59) ["_law_found"]
 HS:g8 K mg "_law_whole_row" (top 60) ["_law_found"]
 HU:g8 K mg "law" (top 61) ["_law_script"]
 Z0:mg "bool" = dn
 Z1:mg "int" = dn
 Z2:mg "isinstance" = dn
 Z3:mg "tuple" = dn
 Z4:mg "range" = dn
 Z5:mg "enumerate" = dn
 Z6:mg "zip" = dn
 Z7:mg "any" = dn
 Z8:mg "len" = dn
 Z9:mg "sum" = dn
 Za:mg "all" = dn
 Zb:mg "min" = dn
 Zc:mg "list" = dn
 G0:GL K mg "MOST_TOGETHER" (.int 30)
theorem XH(E:E0 K mg):gi P w K mg base 1 "is_whole" 1 ZR:=
 qM (N:=["x"]) E.Q0 ⋯ λX d b z I O a Q=>by subst d b z I O;exact zk (zN (Zr (QB a ⋯ E.Z2 ⋯ E.Z1 (zm a)) (kQ (dc (Zo a ⋯ E.Z2 ⋯ E.Z0 (zm a))))))
theorem Jq(E:E0 K mg):gi P w K mg base 1 "rests" 2 qZ:=
 qM (N:=["p","numbers"]) E.Q1 ⋯ λX d e z I O a Q=>by subst d e z I O;exact zk (zN (ja a ⋯ E.Z3 (PO.q (qU a (zU (zO a)) (λ_ _ _ b=>jX (zm b) (zm b))))))
theorem Yw(E:E0 K mg):gi P w K mg base 1 "inverse" 2 yB:=
 qM (N:=["p","x","y"]) E.Q2 ⋯ λX d b z I O a Q=>by subst d b z I O;exact by refine ze (qa Q a (aU a ⋯ E.Z4 zh (zm a)) (zk (qS (ye a (jX (qP (zm a) (zm a)) (zm a)) zh) (zk (xH 2 (a.var ⋯))) jQ))) ?_;exact(zk yf)
theorem jL(E:E0 K mg):gi P w K mg base 1 "turned_over" 1 z5:=
 qM (N:=["table","columns"]) E.Q3 ⋯ λX d f z I O a Q=>by subst d f z I O;exact by refine ze (jk 1 (ka a (hR.c (zT a ⋯ E.Z4 (zw (zO a) zh))) (λ_ _ _ b=>ja b ⋯ E.Z3 (PO.q (qU b (zU (PV.q (zw (zO b) zh))) (λ_ _ _ e=>zw (zO e) (zm e))))))) ?_;exact(zk (zN (jG (xq (za (zw (zO a) zh) (za (zw (zO a) zh) (za (ja a ⋯ E.Z3 (zO a)) zg)))))))
theorem yh(E:E0 K mg):gi P w K mg base 1 "same_table" 1 qz:=
 qM (N:=["many","rows"]) E.Q4 ⋯ λX d f z I O a Q=>by subst d f z I O;exact by refine ze (jk 1 (ka a (hR.c (zT a ⋯ E.Z4 (zm a))) (λ_ _ _ b=>ja b ⋯ E.Z3 (PO.q (qU b (hR.c (zT b ⋯ E.Z4 (zm b))) (λ_ _ _ e=>qG (ye e (zm e) (zm e)) zh zh)))))) ?_;exact(zk (zN (jG (xq (za (zm a) (za (zm a) (za (ja a ⋯ E.Z3 (zO a)) zg)))))))
theorem Zx(E:E0 K mg):gi P w K mg base 1 "lead_of" 1 qA:=
 qM (N:=["load"]) E.Q5 ⋯ λX d e z I O b Q=>by subst d e z I O;exact zk (zN (zw (PO.q (QE b (hR.c (VN b ⋯ E.Z5 (zm b))) (λ_ _ _ a=>Zs a (zm a) zh) (λ_ _ _ a=>zm a))) zh))
theorem yM(E:E0 K mg):gi P w K mg base 2 "cleared" 4 jE:=
 qM (N:=["p","load","pivot","place","much"]) E.Q6 ⋯ λX d e z I O a Q=>by subst d e z I O;exact by refine ze (jw a (zw (zO a) (zm a))) ?_;refine ze (qS (ye a (zm a) zh) (zk (xH 1 (a.var ⋯))) jQ) ?_;exact(zk (zN (zY (Jq E) a (za (zm a) (za (PO.v (qU a (hR.c (KG a ⋯ E.Z6 (zm a) (zm a))) (λ_ _ _ b=>qN (zm b) (qP (zm b) (zm b))))) zg)))))
theorem Zy(E:E0 K mg):gi P w K mg base 3 "base_of" 3 ky:=
 qM (N:=["p","long","loads","left","base","place","leading","times","pivot"]) E.Q7 ⋯ λX d e z I O a Q=>by subst d e z I O;exact by refine ze (jk 3 (ka a (zU (zO a)) (λ_ _ _ b=>zY (Jq E) b (za (zm b) (za (zm b) zg))))) ?_;refine ze (ke a (qw (xq zg))) ?_;refine ze (qa Q a (zT a ⋯ E.Z4 (zm a)) (by refine ze (jk 6 (fz a (zU (zO a)) (λ_ _ _ b=>Zs b (zw (zO b) (zm b)) zh) (λ_ _ _ b=>zm b))) ?_;refine ze (qS (kY (aO (zO a))) (zk QD) jQ) ?_;refine ze (jw a (zY (Yw E) a (za (zm a) (za (zw (PV.q (zw (zO a) zh)) (zm a)) zg)))) ?_;refine ze (jw a (zY (Jq E) a (za (zm a) (za (PO.v (qU a (zU (PV.q (zw (zO a) zh))) (λ_ _ _ b=>qP (zm b) (zm b)))) zg)))) ?_;refine ze (jk 3 (ka a (zU (zO a)) (λ_ _ _ b=>zY (yM E) b (za (zm b) (za (zm b) (za (zm b) (za (zm b) zg))))))) ?_;exact(zk (ke a (Zv (PO.q (qU a (zU (zO a)) (λ_ _ _ b=>zY (yM E) b (za (zm b) (za (zm b) (za (zm b) (za (zm b) zg))))))) (PO.q (qw (xq (za (zm a) zg))))))))) ?_;exact(zk (xH 4 (a.var ⋯)))
theorem yN(E:E0 K mg):gi P w K mg base 1 "behind_noughts" 2 j5:=
 qM (N:=["many","base"]) E.Q8 ⋯ λX d e z I O b Q=>by subst d e z I O;exact zk (xj (QE b (zU (zO b)) (λ_ _ _ a=>kY (qR (iY a ⋯ E.Z7 (PV.q (yT (zm a) kg (kf (zm a))))))) (λ_ _ _ a=>yT (zm a) (kf (zm a)) kg)))
theorem XG(E:E0 K mg):gi P w K mg base 4 "led_into" 3 yR:=
 qM (N:=["p","table","base","pairs","free"]) E.Q9 ⋯ λX d e z I O a Q=>by subst d e z I O;exact by refine ze (jk 3 (ka a (hR.c (KG a ⋯ E.Z6 (zw (PV.q (zY (jL E) a (za (zm a) zg))) zh) (zw (PV.q (zY (yh E) a (za (zw (zO a) zh) zg))) zh))) (λ_ _ _ b=>jo (zm b) (zm b)))) ?_;refine ze (jk 4 (ka a (zU (zO a)) (λ_ _ _ b=>jo (zm b) (qP (jG (xq (za zh zg))) (zw (zO b) zh))))) ?_;exact(zk (xj (xc (yN E) a (za (zw (zO a) zh) (za (PO.v (xc (Zy E) a (za (zm a) (za (jo (zw (zO a) zh) (zw (zO a) zh)) (za (PO.v (Zv (zO a) (zO a))) zg))))) zg)))))
theorem VT(E:E0 K mg):gi P w K mg base 5 "kernel" 2 vp:=
 qM (N:=["p","table"]) E.Qa ⋯ λX d b z I O a Q=>by subst d b z I O;exact zk (xj (xc (XG E) a (za (zm a) (za (zm a) (za (PO.v (qw (xq zg))) zg)))))
theorem bo(E:E0 K mg):gi P w K mg base 4 "image" 2 JR:=
 qM (N:=["p","table"]) E.Qb ⋯ λX d b z I O a Q=>by subst d b z I O;exact zk (xj (xc (Zy E) a (za (zm a) (za (zw (zO a) zh) (za (zw (PV.q (zY (jL E) a (za (zm a) zg))) zh) zg)))))
theorem Yx(E:E0 K mg):gi P w K mg base 2 "columns" 2 yC:=
 qM (N:=["high","loads"]) E.Qc ⋯ λX d b z I O a Q=>by subst d b z I O;exact zk (zN (zY (jL E) a (za (jG (xq (za (qd a ⋯ E.Z8 (zO a)) (za (zm a) (za (ja a ⋯ E.Z3 (zO a)) zg))))) zg)))
theorem vR(E:E0 K mg):gi P w K mg base 1 "beginning_of" 2 kW:=
 qM (N:=["k","way"]) E.Qd ⋯ λX d b z I O a Q=>by subst d b z I O;exact zk (zN (qG (ye a (zm a) qO) (zm a) (jo (zm a) zh)))
theorem VU(E:E0 K mg):gi P w K mg base 1 "end_of" 2 Ya:=
 qM (N:=["k","way"]) E.Qe ⋯ λX d b z I O a Q=>by subst d b z I O;exact zk (zN (qG (ye a (zm a) qO) (jo (zm a) zh) (zm a)))
theorem QK(E:E0 K mg):gi P w K mg base 1 "other_way" 1 xX:=
 qM (N:=["way"]) E.Qf ⋯ λX d b z I O a Q=>by subst d b z I O;exact zk (zN (qG (ye a (zm a) qO) qO qO))
theorem Yv(E:E0 K mg):gi P w K mg base 2 "is_room" 2 yz:=
 qM (N:=["many","k"]) E.Qg ⋯ λX d b z I O a Q=>by subst d b z I O;exact zk (zN (Zr (zY (XH E) a (za (zm a) zg)) (kQ (aL lS fO cL Vl zh (zm a) (zm a)))))
theorem Zw(E:E0 K mg):gi P w K mg base 1 "ways_of" 1 xC:=
 qM (N:=["row"]) E.Qh ⋯ λX d e z I O a Q=>by subst d e z I O;exact zk (zN (eZ qO (PO.q (qU a (zU (PV.q (zw (zO a) zh))) (λ_ _ _ b=>zw (zO b) zh)))))
theorem vS(E:E0 K mg):gi P w K mg base 1 "ask_together" 1 qt:=
 qM (N:=["widths"]) E.Qi ⋯ λX d b z I O a Q=>by subst d b z I O;exact zk (qS (Zt (da a ⋯ E.Z9 (zO a)) (pj a ⋯ E.G0)) (zk yf) jQ)
theorem kj(E:E0 K mg):gi P w K mg base 1 "arrows_of" 2 j9:=
 qM (N:=["ways","k"]) E.Qj ⋯ λX d e z I O b Q=>by subst d e z I O;exact zk (xj (QE b (zU (PV.q (jG (xq (za (qN (zm b) zh) (za (zm b) zg)))))) (λ_ _ _ a=>VB lS fO cL Vl zh (zm a) (vG a ⋯ E.Z8 (zm a))) (λ_ _ _ a=>zm a)))
theorem QN(E:E0 K mg):gi P w K mg base 2 "is_end" 2 yA:=
 qM (N:=["ways","k"]) E.Qk ⋯ λX d e z I O b Q=>by subst d e z I O;exact zk (zN (VA b ⋯ E.Za (PO.q (qU b (zU (PO.q (xc (kj E) b (za (zm b) (za (zm b) zg))))) (λ_ _ _ a=>yJ a (zY (VU E) a (za (zm a) (za (qF (zm a) (zm a)) zg))) (zm a))))))
theorem vQ(E:E0 K mg):gi P w K mg base 2 "is_beginning" 2 kU:=
 qM (N:=["ways","k"]) E.Ql ⋯ λX d e z I O b Q=>by subst d e z I O;exact zk (zN (VA b ⋯ E.Za (PO.q (qU b (zU (PO.q (xc (kj E) b (za (zm b) (za (zm b) zg))))) (λ_ _ _ a=>yJ a (zY (vR E) a (za (zm a) (za (qF (zm a) (zm a)) zg))) (zm a))))))
theorem XI(E:E0 K mg):gi P w K mg base 3 "ask_turn" 2 kJ:=
 qM (N:=["ways","k"]) E.Qm ⋯ λX d b z I O a Q=>by subst d b z I O;exact by refine ze (qS (kY (qR (zY (Yv E) a (za (jo (vG a ⋯ E.Z8 (zm a)) zh) (za (zm a) zg))))) (zk yf) jQ) ?_;exact(zk (qS (fg (XB (kY (qR (zY (QN E) a (za (zm a) (za (zm a) zg))))) (Jj (kY (qR (zY (vQ E) a (za (zm a) (za (zm a) zg)))))))) (zk yf) jQ))
theorem QL(E:E0 K mg):gi P w K mg base 2 "lines_met" 3 xY:=
 qM (N:=["row","k","ends","lines","at","table"]) E.Qn ⋯ λX d b z I O a Q=>by subst d b z I O;exact by refine ze (ke a (qw (xq zg))) ?_;refine ze (qa Q a (xI (PO.v (xc (kj E) a (za (zY (Zw E) a (za (zm a) zg)) (za (zm a) zg))))) (by refine ze (jw a (zw (PV.q (zw (PV.q (zw (zO a) zh)) (zm a))) zh)) ?_;exact(zk (KA 3 a ⋯ (PV.q (qG (qR (zm a)) (zw (PV.q (zY (jL E) a (za (zm a) zg))) zh) (zw (zO a) zh))))))) ?_;exact(zk (zN (ja a ⋯ E.Z3 (zO a))))
theorem vN(E:E0 K mg):gi P w K mg base 6 "met_from_end" 2 j1:=
 qM (N:=["p","met"]) E.Qo ⋯ λX d b z I O a Q=>by subst d b z I O;exact zk (zN (zY (Yx E) a (za (zw (zO a) zh) (za (PO.v (xc (VT E) a (za (zm a) (za (zY (jL E) a (za (zm a) zg)) zg)))) zg))))
theorem vL(E:E0 K mg):gi P w K mg base 3 "what_is_left" 3 jM:=
 qM (N:=["p","base","load","left","pivot","leads"]) E.Qp ⋯ λX d e z I O a Q=>by subst d e z I O;exact by refine ze (jw a (zm a)) ?_;refine ze (qa Q a (xI (zm a)) (zk (jw a (zY (yM E) a (za (zm a) (za (zm a) (za (zm a) (za (zY (Zx E) a (za (zm a) zg)) zg)))))))) ?_;refine ze (jk 5 (ka a (zU (zO a)) (λ_ _ _ b=>zY (Zx E) b (za (zm b) zg)))) ?_;exact(zk (zN (ja a ⋯ E.Z3 (PO.q (QE a (hR.c (VN a ⋯ E.Z5 (zm a))) (λ_ _ _ b=>yK (zm b) (zO b)) (λ_ _ _ b=>zm b))))))
theorem kh(E:E0 K mg):gi P w K mg base 5 "met_from_beginning" 2 jj:=
 qM (N:=["p","met","base","lines"]) E.Qq ⋯ λX d e z I O a Q=>by subst d e z I O;exact by refine ze (jw a (PO.v (xc (bo E) a (za (zm a) (za (zm a) zg))))) ?_;refine ze (jk 3 (ka a (zU (PV.q (zw (PV.q (zY (yh E) a (za (zw (zO a) zh) zg))) zh))) (λ_ _ _ b=>zY (vL E) b (za (zm b) (za (zm b) (za (zm b) zg)))))) ?_;exact(zk (zN (jG (xq (za (zw (zO a) zh) (za (qN (zw (zO a) zh) (qd a ⋯ E.Z8 (zO a))) (za (ja a ⋯ E.Z3 (zO a)) zg)))))))
theorem wW(E:E0 K mg):gi P w K mg base 2 "arrow_about" 4 jU:=
 qM (N:=["way","wide","lines","ends","table"]) E.Qr ⋯ λX d b z I O a Q=>by subst d b z I O;exact by refine ze (jw a (jG (xq (za (qd a ⋯ E.Z8 (zO a)) (za (zm a) (za (zm a) zg)))))) ?_;exact(zk (zN (jG (xq (za (zY (QK E) a (za (zm a) zg)) (za (qG (qR (zm a)) (zm a) (zY (jL E) a (za (zm a) zg))) zg))))))
theorem vT(E:E0 K mg):gi P w K mg base 3 "arrows_about" 4 qu:=
 qM (N:=["row","k","met","ends","split","parts","made","at","arrow"]) E.Qs ⋯ λX d b z I O a Q=>by subst d b z I O;exact by refine ze (jw a (qG (Zt (zm a) zh) (zw (PV.q (zw (zO a) zh)) (qN (zm a) zh)) zh)) ?_;refine ze (jw a (iX (qN (zm a) zh) (yT (zw (zO a) zh) kg (kf (zm a))) (zm a) (yT (zw (zO a) zh) (kf (zm a)) kg))) ?_;refine ze (ke a (qw (xq zg))) ?_;refine ze (qa Q a (VN a ⋯ E.Z5 (zw (zO a) zh)) (zk (kZ 6 a ⋯ (qG (fi a (zm a) (zm a)) (zY (wW E) a (za (zw (zO a) zh) (za (zw (zO a) zh) (za (df a (zm a) (zm a)) (za (zm a) zg))))) (zm a))))) ?_;exact(zk (zN (ja a ⋯ E.Z3 (zO a))))
theorem vM(E:E0 K mg):gi P w K mg base 7 "turned_about" 2 jZ:=
 qM (N:=["row","k","ways","ends","lines","old","new","widths"]) E.Qt ⋯ λX d b z I O a Q=>by subst d b z I O;exact by refine ze (jw a (zY (Zw E) a (za (zm a) zg))) ?_;refine ze (KB (zY (XI E) a (za (zm a) (za (zm a) zg)))) ?_;refine ze (jw a (zY (QN E) a (za (zm a) (za (zm a) zg)))) ?_;refine ze (jw a (zY (QL E) a (za (zm a) (za (zm a) (za (zm a) zg))))) ?_;refine ze (jw a (jG (xq (za (qd a ⋯ E.Z8 (zO a)) (za (zw (PV.q (zw (zO a) zh)) (zm a)) (za (zm a) zg)))))) ?_;refine ze (jw a (qG (qR (zm a)) (zY (vN E) a (za (zw (zO a) zh) (za (zm a) zg))) (zY (kh E) a (za (zw (zO a) zh) (za (zm a) zg))))) ?_;refine ze (jw a (jo (jo (yT (zw (zO a) zh) kg (kf (zm a))) (jG (xq (za (zw (zO a) zh) zg)))) (yT (zw (zO a) zh) (kf (jo (zm a) zh)) kg))) ?_;refine ze (KB (zY (vS E) a (za (zm a) zg))) ?_;exact(zk (zN (jG (xq (za (zw (zO a) zh) (za (zm a) (za (zY (vT E) a (za (zm a) (za (zm a) (za (zm a) (za (zm a) zg))))) zg)))))))
theorem xJ(E:E0 K mg):gi P w K mg base 1 "_law_cell" 2 zP:=
 qM (N:=["_law_script","_law_k","_law_cell_here","_law_turn","_law_given"]) E.Qu ⋯ λX d b z I O a Q=>by subst d b z I O;exact by refine ze (qS (fg (XB (Zt (qd a ⋯ E.Z8 (zO a)) zh) (Jj (ye a (jX (zw (zO a) zh) zh) zh)))) (by refine ze (jw a (zw (zO a) (jo zh (jX (zm a) (qN (qd a ⋯ E.Z8 (zO a)) zh))))) ?_;refine ze (qa Q a (zT a ⋯ E.Z4 (de a ⋯ E.Zb zh (Zp (zm a) (qN (qd a ⋯ E.Z8 (zO a)) zh)))) (zk (jw a (Zp (zm a) (Vz zh zh))))) ?_;exact(zk (zN (jX (zm a) (Vz zh zh))))) jQ) ?_;refine ze (jw a (zm a)) ?_;refine ze (qS (Zt (qd a ⋯ E.Z8 (zO a)) zh) (zk (jw a (zw (zO a) (jX (zm a) (qd a ⋯ E.Z8 (zO a)))))) jQ) ?_;exact(zk (zN (jX (qP (jX (jo (jo (jo (qP (jX (zm a) (Vz zh zh)) zh) (qP (qP zh (zm a)) (zm a))) (qP zh (zm a))) zh) zh) zh) zh)))
theorem qV(E:E0 K mg):gi P w K mg base 1 "_law_less" 4 zR:=
 qM (N:=["_law_p","_law_row_here","_law_other","_law_times"]) E.Qv ⋯ λX d e z I O a Q=>by subst d e z I O;exact zk (xj (qU a (hR.c (KG a ⋯ E.Z6 (zm a) (zm a))) (λ_ _ _ b=>jX (qN (zm b) (qP (zm b) (zm b))) (zm b))))
theorem qW(E:E0 K mg):gi P w K mg base 2 "_law_base" 3 jz:=
 qM (N:=["_law_p","_law_long","_law_loads","_law_rows_here","_law_done","_law_place","_law_some","_law_over","_law_first"]) E.Qw ⋯ λX d e z I O b Q=>by subst d e z I O;exact by refine ze (jk 3 (ka b (zU (zO b)) (λ_ _ _ a=>PO.v (vJ a ⋯ E.Zc (zO a))))) ?_;refine ze (jw b (PO.v (qw (xq zg)))) ?_;refine ze (qa Q b (zT b ⋯ E.Z4 (zm b)) (by refine ze (jk 6 (fz b (zU (zO b)) (λ_ _ _ a=>Zs a (zw (zO a) (zm a)) zh) (λ_ _ _ a=>zm a))) ?_;exact(zk (qS (Zt (qd b ⋯ E.Z8 (zO b)) zh) (by refine ze (jw b (zw (PO.q (QE b (hR.c (zT b ⋯ E.Z4 (zm b))) (λ_ _ _ a=>ye a (jX (qP (zm a) (zw (PV.q (zw (zO a) zh)) (zm a))) (zm a)) zh) (λ_ _ _ a=>zm a))) zh)) ?_;refine ze (jk 8 (ka b (zU (PV.q (zw (zO b) zh))) (λ_ _ _ a=>jX (qP (zm a) (zm a)) (zm a)))) ?_;refine ze (jk 3 (ka b (zU (zO b)) (λ_ _ _ a=>PO.v (xc (qV E) a (za (zm a) (za (zm a) (za (zm a) (za (zw (zO a) (zm a)) zg)))))))) ?_;exact(zk (jw b (PO.v (Zv (PO.q (qU b (zU (zO b)) (λ_ _ _ a=>PO.v (xc (qV E) a (za (zm a) (za (zm a) (za (zm a) (za (zw (zO a) (zm a)) zg)))))))) (PO.q (qw (xq (za (zm b) zg))))))))) jQ)))) ?_;exact(zk (xj (qU b (zU (zO b)) (λ_ _ _ a=>ja a ⋯ E.Z3 (zO a)))))
theorem ki(E:E0 K mg):gi P w K mg base 1 "_law_ends" 2 j3:=
 qM (N:=["_law_k","_law_way"]) E.Qx ⋯ λX d b z I O a Q=>by subst d b z I O;exact by refine ze (qS (ye a (zm a) qO) (zk (zN (jG (xq (za (zm a) (za (jo (zm a) zh) zg)))))) jQ) ?_;exact(zk (zN (jG (xq (za (jo (zm a) zh) (za (zm a) zg))))))
theorem wR(E:E0 K mg):gi P w K mg base 2 "_law_row" 4 qh:=
 qM (N:=["_law_p","_law_ways_here","_law_widths","_law_tables","_law_arrows","_law_k","_law_way","_law_begin","_law_end"]) E.Qy ⋯ λX d e z I O a Q=>by subst d e z I O;exact by refine ze (ke a (qw (xq zg))) ?_;refine ze (qa Q a (VM a ⋯ E.Z5 (zm a)) (by refine ze (vi (nr a) (zY (ki E) a (za (zm a) (za (zm a) zg)))) ?_;exact(zk (kZ 4 a ⋯ (jG (xq (za (zm a) (za (jG (xq (za (zw (zO a) (zm a)) (za (zw (zO a) (zm a)) (za (ja a ⋯ E.Z3 (PO.q (qU a (zU (PV.q (zw (zO a) (zm a)))) (λ_ _ _ b=>ja b ⋯ E.Z3 (zO b))))) zg))))) zg)))))))) ?_;exact(zk (zN (jG (xq (za (zm a) (za (ja a ⋯ E.Z3 (zO a)) (za (ja a ⋯ E.Z3 (zO a)) zg)))))))
theorem vO(E:E0 K mg):gi P w K mg base 1 "_law_ways" 2 qp:=
 qM (N:=["_law_cell_here","_law_rooms","_law_ways_here","_law_k"]) E.Qz ⋯ λX d b z I O a Q=>by subst d b z I O;exact by refine ze (jw a qO) ?_;refine ze (qa Q a (zT a ⋯ E.Z4 (qN (zm a) zh)) (by refine ze (jw a (fe (zm a) (qF qO (jX (zm a) zh)))) ?_;exact(zk (jw a (Zp (zm a) zh))))) ?_;exact(zk (xH 2 (a.var ⋯)))
theorem vP(E:E0 K mg):gi P w K mg base 2 "_law_rows" 5 qr:=
 qM (N:=["_law_script","_law_at","_law_p","_law_high","_law_wide","_law_rows_here","_law_x","_law_cells"]) E.HG ⋯ λX d e z I O a Q=>by subst d e z I O;exact by refine ze (ke a (qw (xq zg))) ?_;refine ze (qa Q a (zT a ⋯ E.Z4 (zm a)) (by refine ze (jk 7 (ka a (hR.c (zT a ⋯ E.Z4 (zm a))) (λ_ _ _ b=>zY (xJ E) b (za (zm b) (za (jo (jo (zm b) (qP (zm b) (zm b))) (zm b)) zg))))) ?_;exact(zk (kZ 5 a ⋯ (PO.v (qU a (zU (zO a)) (λ_ _ _ b=>qP (jX (Zp (zm b) zh) (zm b)) (Jk b ⋯ E.Z1 (iW (jX (zm b) zh) zh))))))))) ?_;exact(zk (xH 5 (a.var ⋯)))
theorem y8(E:E0 K mg):gi P w K mg base 3 "_law_drawn" 5 jT:=
 qM (N:=["_law_script","_law_at","_law_p","_law_ways_here","_law_most","_law_widths","_law_tables","_law_k","_law_way","_law_begin","_law_end"]) E.HH ⋯ λX d e z I O a Q=>by subst d e z I O;exact by refine ze (jk 5 (ka a (hR.c (zT a ⋯ E.Z4 (jo (vG a ⋯ E.Z8 (zm a)) zh))) (λ_ _ _ b=>jX (zY (xJ E) b (za (zm b) (za (jo (zm b) (zm b)) zg))) (jo (zm b) zh)))) ?_;refine ze (ke a (qw (xq zg))) ?_;refine ze (qa Q a (VM a ⋯ E.Z5 (zm a)) (by refine ze (vi (nr a) (zY (ki E) a (za (zm a) (za (zm a) zg)))) ?_;exact(zk (kZ 6 a ⋯ (PO.v (xc (vP E) a (za (zm a) (za (jo (jo (zm a) zh) (qP zh (zm a))) (za (zm a) (za (zw (zO a) (zm a)) (za (zw (zO a) (zm a)) zg))))))))))) ?_;exact(zk (Jn 6 (zN (zY (wR E) a (za (zm a) (za (zm a) (za (zm a) (za (zm a) zg))))))))
theorem qx(E:E0 K mg):gi P w K mg base 1 "_law_sides" 2 zZ:=
 qM (N:=["_law_row_here","_law_k","_law_sides_here"]) E.HI ⋯ λX d b z I O a Q=>by subst d b z I O;exact by refine ze (ke a (qw (xq zg))) ?_;refine ze (qS (Zt (zm a) zh) (zk (kZ 2 a ⋯ (jG (xq (za (qN (zm a) zh) (za (zw (PV.q (zw (PV.q (zw (PV.q (zw (zO a) zh)) (qN (zm a) zh))) zh)) zh) zg)))))) jQ) ?_;refine ze (qS (iZ (zm a) (qd a ⋯ E.Z8 (PV.q (zw (zO a) zh)))) (zk (kZ 2 a ⋯ (jG (xq (za (jo (zm a) zh) (za (zw (PV.q (zw (PV.q (zw (PV.q (zw (zO a) zh)) (zm a))) zh)) zh) zg)))))) jQ) ?_;exact(zk (xH 2 (a.var ⋯)))
theorem y6(E:E0 K mg):gi P w K mg base 3 "_law_kernel" 3 qj:=
 qM (N:=["_law_p","_law_wide","_law_rows_here","_law_base_here","_law_leads","_law_loads","_law_free","_law_load","_law_row_here","_law_lead"]) E.HJ ⋯ λX z f I O Q a d=>by subst z f I O Q;exact by refine ze (jw a (PO.v (xc (qW E) a (za (zm a) (za (zm a) (za (zm a) zg)))))) ?_;refine ze (jk 4 (ka a (zU (zO a)) (λ_ _ _ b=>zw (PO.q (QE b (hR.c (zT b ⋯ E.Z4 (zm b))) (λ_ _ _ e=>Zs e (zw (zO e) (zm e)) zh) (λ_ _ _ e=>zm e))) zh))) ?_;refine ze (ke a (qw (xq zg))) ?_;refine ze (qa d a (zT a ⋯ E.Z4 (zm a)) (zk (qS (yK (zm a) (zO a)) (by refine ze (Jm 7 (ka a (hR.c (zT a ⋯ E.Z4 (zm a))) (λ_ _ _ b=>Jk b ⋯ E.Z1 (yJ b (zm b) (zm b))))) ?_;refine ze (qa d a (KG a ⋯ E.Z6 (zm a) (zm a)) (zk (vH 7 a ⋯ (zm a) (jX (qN zh (zw (zO a) (zm a))) (zm a))))) ?_;exact(zk (Jn 7 (kZ 5 a ⋯ (zm a))))) jQ))) ?_;exact(zk (Jn 5 (xj (xc (qW E) a (za (zm a) (za (zm a) (za (zm a) zg)))))))
theorem wU(E:E0 K mg):gi P w K mg base 2 "_law_left" 3 qi:=
 qM (N:=["_law_p","_law_load","_law_base_here","_law_row_here","_law_lead"]) E.HK ⋯ λX d e z I O a Q=>by subst d e z I O;exact by refine ze (qa Q a (xI (zm a)) (by refine ze (jw a (zw (PO.q (QE a (hR.c (zT a ⋯ E.Z4 (qd a ⋯ E.Z8 (zO a)))) (λ_ _ _ b=>Zs b (zw (zO b) (zm b)) zh) (λ_ _ _ b=>zm b))) zh)) ?_;exact(zk (jw a (PO.v (xc (qV E) a (za (zm a) (za (zm a) (za (zm a) (za (zw (zO a) (zm a)) zg)))))))))) ?_;exact(zk (xH 1 (a.var ⋯)))
theorem wV(E:E0 K mg):gi P w K mg base 4 "_law_end_due" 3 qk:=
 qM (N:=["_law_p","_law_row_here","_law_k","_law_rows_here","_law_room","_law_table","_law_x","_law_base_here","_law_told","_law_at"]) E.HL ⋯ λX z f I O Q a d=>by subst z f I O Q;exact by refine ze (Jm 3 (ka a (hR.c (zT a ⋯ E.Z4 (zw (PV.q (zw (zO a) zh)) (zm a)))) (λ_ _ _ _=>PO.v (qw (xq zg))))) ?_;refine ze (qa d a (xI (PO.v (xc (qx E) a (za (zm a) (za (zm a) zg))))) (zk (qa d a (zT a ⋯ E.Z4 (zw (PV.q (zw (zO a) zh)) (zm a))) (zk (vH 3 a ⋯ (zm a) (PO.v (Zv (PV.q (zw (zO a) (zm a))) (PO.q (vJ a ⋯ E.Zc (PV.q (zw (zO a) (zm a)))))))))))) ?_;exact(by refine ze (Jn 3 (jw a (PO.v (xc (y6 E) a (za (zm a) (za (da a ⋯ E.Z9 (PO.q (qU a (zU (PO.q (xc (qx E) a (za (zm a) (za (zm a) zg))))) (λ_ _ _ b=>zw (PV.q (zw (zO b) zh)) (zm b))))) (za (zm a) zg))))))) ?_;exact(QC 8 (a.set 8 ⋯ KH) (Ji (Ky (a.set 9 ⋯ zh)) (Ji (cY (T:= .tp [4,5]) (KI d) a.calm (xI (PO.v (xc (qx E) a (za (zm a) (za (zm a) zg))))) (a.FC (qH (a.t2 4 ⋯) (qH (a.t2 5 ⋯) Jp))) (cV (cW (VG (by have:=a.C2;omega) (a.var ⋯) (zm a) (ja a ⋯ E.Z3 (PO.q (qU a (hR.c (zT a ⋯ E.Z4 (zw (PV.q (zw (zO a) zh)) (zm a)))) (λ_ _ _ b=>ja b ⋯ E.Z3 (PO.q (qU b (zU (zO b)) (λ_ _ _ e=>zw (zO e) (jo (zm e) (zm e))))))))) (by rfl))) (cX (Ky (a.set 9 ⋯ (jo (zm a) (zw (PV.q (zw (zO a) zh)) (zm a)))))))) (cZ (zk (zN (jG (xq (za (qd a ⋯ E.Z8 (zO a)) (za (zm a) zg)))))))))))
theorem kL(E:E0 K mg):gi P w K mg base 3 "_law_beginning_due" 3 jv:=
 qM (N:=["_law_p","_law_row_here","_law_k","_law_rows_here","_law_room","_law_table","_law_base_here","_law_leads","_law_free","_law_left_here","_law_told","_law_at"]) E.HM ⋯ λX z f I O Q a d=>by subst z f I O Q;exact by refine ze (jw a (PO.v (qw (xq zg)))) ?_;refine ze (qa d a (xI (PO.v (xc (qx E) a (za (zm a) (za (zm a) zg))))) (zk (jw a (PO.v (Zv (zO a) (PO.q (vJ a ⋯ E.Zc (zO a)))))))) ?_;refine ze (jw a (PO.v (xc (qW E) a (za (zm a) (za (qd a ⋯ E.Z8 (zO a)) (za (PO.v (qU a (hR.c (zT a ⋯ E.Z4 (zw (PV.q (zw (zO a) zh)) (zm a)))) (λ_ _ _ b=>PO.v (qU b (zU (zO b)) (λ_ _ _ e=>zw (zO e) (zm e)))))) zg)))))) ?_;refine ze (jk 7 (ka a (zU (zO a)) (λ_ _ _ b=>zw (PO.q (QE b (hR.c (zT b ⋯ E.Z4 (qd b ⋯ E.Z8 (zO b)))) (λ_ _ _ e=>Zs e (zw (zO e) (zm e)) zh) (λ_ _ _ e=>zm e))) zh))) ?_;refine ze (jk 8 (fz a (hR.c (zT a ⋯ E.Z4 (qd a ⋯ E.Z8 (zO a)))) (λ_ _ _ b=>yK (zm b) (zO b)) (λ_ _ _ b=>zm b))) ?_;refine ze (jk 9 (ka a (hR.c (zT a ⋯ E.Z4 (qd a ⋯ E.Z8 (zO a)))) (λ_ _ _ b=>zY (wU E) b (za (zm b) (za (PO.v (qU b (hR.c (zT b ⋯ E.Z4 (qd b ⋯ E.Z8 (zO b)))) (λ_ _ _ e=>Jk e ⋯ E.Z1 (yJ e (zm e) (zm e))))) (za (zm b) zg)))))) ?_;exact(QC 10 (a.set 10 ⋯ KH) (Ji (Ky (a.set 11 ⋯ zh)) (Ji (cY (T:= .tp [4,5]) (KI d) a.calm (xI (PO.v (xc (qx E) a (za (zm a) (za (zm a) zg))))) (a.FC (qH (a.t2 4 ⋯) (qH (a.t2 5 ⋯) Jp))) (cV (cW (VG (by have:=a.C2;omega) (a.var ⋯) (zm a) (ja a ⋯ E.Z3 (PO.q (qU a (zU (zO a)) (λ_ _ _ b=>ja b ⋯ E.Z3 (PO.q (qU b (hR.c (zT b ⋯ E.Z4 (zw (PV.q (zw (zO b) zh)) (zm b)))) (λ_ _ _ e=>zw (PV.q (zw (zO e) (jo (zm e) (zm e)))) (zm e)))))))) (by rfl))) (cX (Ky (a.set 11 ⋯ (jo (zm a) (zw (PV.q (zw (zO a) zh)) (zm a)))))))) (cZ (zk (zN (jG (xq (za (qd a ⋯ E.Z8 (zO a)) (za (zm a) zg))))))))))
theorem yi(E:E0 K mg):gi P w K mg base 1 "_law_is_end" 2 xl:=
 qM (N:=["_law_ways_here","_law_k"]) E.HN ⋯ λX d b z I O a Q=>by subst d b z I O;exact zk (zN (Zr (aJ (yJ a (zm a) zh) (kQ (yJ a (qF (zm a) (qN (zm a) zh)) qO))) (kQ (aJ (yJ a (zm a) (vG a ⋯ E.Z8 (zm a))) (kQ (yJ a (qF (zm a) (zm a)) qO))))))
theorem k4(E:E0 K mg):gi P w K mg base 1 "_law_is_beginning" 2 xm:=
 qM (N:=["_law_ways_here","_law_k"]) E.HP ⋯ λX d b z I O a Q=>by subst d b z I O;exact zk (zN (Zr (aJ (yJ a (zm a) zh) (kQ (yJ a (qF (zm a) (qN (zm a) zh)) qO))) (kQ (aJ (yJ a (zm a) (vG a ⋯ E.Z8 (zm a))) (kQ (yJ a (qF (zm a) (zm a)) qO))))))
theorem Jr(E:E0 K mg):gi P w K mg base 5 "_law_due" 4 qB:=
 qM (N:=["_law_p","_law_row_here","_law_ways_here","_law_k","_law_at_end","_law_width","_law_told","_law_arrows","_law_room","_law_at","_law_sizes"]) E.HQ ⋯ λX d b z I O a Q=>by subst d b z I O;exact by refine ze (jw a (zY (yi E) a (za (zm a) (za (zm a) zg)))) ?_;refine ze (qS (qR (zm a)) (zk (vi (nr a) (zY (wV E) a (za (zm a) (za (zm a) (za (zm a) zg)))))) (zk (vi (nr a) (zY (kL E) a (za (zm a) (za (zm a) (za (zm a) zg))))))) ?_;refine ze (ke a (vJ a ⋯ E.Zc (PV.q (zw (zO a) zh)))) ?_;refine ze (qa Q a (VL (zm a)) (by refine ze (jw a (de a ⋯ E.Zb (zm a) (zm a))) ?_;refine ze (jw a (jG (xq (za (zm a) (za (zw (PV.q (zw (zO a) zh)) (zm a)) zg))))) ?_;refine ze (qS (qR (zm a)) (zk (jw a (jG (xq (za (zw (PV.q (zw (zO a) zh)) (zm a)) (za (zm a) zg)))))) jQ) ?_;exact(zk (vH 7 a ⋯ (zm a) (jG (xq (za (qF qO (aK (qF (zm a) (zm a)))) (za (jG (xq (za (zw (zO a) zh) (za (zw (zO a) zh) (za (df a (zm a) (zm a)) zg))))) zg)))))))) ?_;exact(zk (zN (jG (xq (za (zm a) (za (jo (jo (yT (zw (zO a) zh) kg (kf (zm a))) (jG (xq (za (zm a) zg)))) (yT (zw (zO a) zh) (kf (jo (zm a) zh)) kg)) (za (ja a ⋯ E.Z3 (zO a)) zg)))))))
theorem QM(E:E0 K mg):gi P w K mg base 1 "_law_whole" 1 xZ:=
 qM (N:=["_law_found"]) E.HR ⋯ λX d b z I O a Q=>by subst d b z I O;exact zk (zN (Zr (QB a ⋯ E.Z2 ⋯ E.Z1 (zm a)) (kQ (dc (Zo a ⋯ E.Z2 ⋯ E.Z0 (zm a))))))
theorem k3(E:E0 K mg):gi P w K mg base 2 "_law_whole_row" 1 jR:=
 qM (N:=["_law_found","_law_every","_law_way","_law_table","_law_line"]) E.HS ⋯ λX z e I O Q a d=>by subst z e I O Q;exact by refine ze (ke a (Zv (PO.q (qw (xq (za (zw (zO a) zh) zg)))) (PO.q (vJ a ⋯ E.Zc (PV.q (zw (zO a) zh)))))) ?_;refine ze (qa d a (xI (zw (zO a) zh)) (by refine ze (fu 1 a ⋯ (qw (xq (za (zw (zO a) zh) (za (zw (zO a) zh) zg))))) ?_;exact(zk (qa d a (xI (zw (zO a) zh)) (zk (KA 1 a ⋯ (zO a))))))) ?_;exact(zk (zN (VA a ⋯ E.Za (PO.q (qU a (zU (zO a)) (λ_ _ _ b=>zY (QM E) b (za (zm b) zg)))))))
theorem sE(D:L2.A7 K "law" "law" (top 61) f fd)(E:E0 K mg):ov P w K mg base p9 8 f fd ["_law_script"] (o9 K 1 wG):=
 pQ (N:=["_law_script","_law_cell_here","_law_p","_law_rooms","_law_ways_here","_law_row_here","_law_k","_law_due_here","_law_found"]) D ⋯ λX d b z I O a Q=>by subst d b z I O;exact by refine ze (jw a (zY (xJ E) a (za (zm a) (za zh zg)))) ?_;refine ze (jw a (zw (PO.q (qw (xq (za zh (za zh (za zh (za zh zg))))))) (jX (zm a) zh))) ?_;refine ze (jw a (jo zh (jX (Zp (zm a) zh) zh))) ?_;refine ze (jw a (zY (vO E) a (za (Zp (zm a) zh) (za (zm a) zg)))) ?_;refine ze (jw a (zY (y8 E) a (za (zm a) (za zh (za (zm a) (za (zm a) (za (qN zh (Jk a ⋯ E.Z1 (iW (zm a) zh))) zg))))))) ?_;refine ze (jw a (jX (zY (xJ E) a (za (zm a) (za zh zg))) (zm a))) ?_;refine ze (VE 100 (KI Q) (fg (XB (kY (qR (zY (yi E) a (za (zm a) (za (zm a) zg))))) (Jj (kY (qR (zY (k4 E) a (za (zm a) (za (zm a) zg)))))))) (zk (jw a (jX (jo (zm a) zh) (zm a))))) ?_;refine ze (jw a (zY (Jr E) a (za (zm a) (za (zm a) (za (zm a) (za (zm a) zg)))))) ?_;refine ze (jw a (zY (vM E) a (za (zm a) (za (zm a) zg)))) ?_;exact(zk (zN (Zr (yJ a (zm a) (zm a)) (kQ (zY (k3 E) a (za (zm a) zg))))))
end
end DL
namespace PySem.W.Fast
def tw2620106228478868648:=0
def tw18150824285308747335:=0
def tw2112707327752925509:=0
def tw6472193160046223328:=0
def tw2885814774053323874:=0
def tw342361292492311646:=0
def tw1939789660664425123:=0
def tw8508415836700360182:=0
def tw6491457624558253187:=0
def tw420985547778301277:=0
def tw12076990362848623263:=0
def tw2910522579702379147:=0
def tw1448769618495419608:=0
def tw4582254736485737351:=0
def tw12116778735103246672:=0
def tw8981885552931828593:=0
def tw4663323902188389839:=0
def tw1697509435606487793:=0
def tw11685734000077100058:=0
def tw17480952685134172015:=0
def tw6669942510719036150:=0
def tw2819887269447274255:=0
def tw11390440270398402758:=0
def tw13837227474901292927:=0
def tw13660390163161802559:=0
def tw5727051881490825275:=0
def tw14580375693502577242:=0
def tw8348782575143655236:=0
def tw6293518271129672248:=0
def tw215133223107926374:=0
def tw1205152854609310491:=0
def tw11358307856571071510:=0
def tw16841746863105778956:=0
def tw7760911835372803864:=0
def tw6509168305755408437:=0
def tw7373287387571602479:=0
def tw3586379838870125140:=0
def tw4247671553012278598:=0
def tw5925095101779312338:=0
def tw10033542213753801971:=0
def tw11061519987601825241:=0
def tw4312764847570074035:=0
def tw1535988722432531293:=0
def tw16063754671046615969:=0
def tw18132048688583579526:=0
def tw723948115615190515:=0
def tw1869613363332922802:=0
def tw7887512551790479515:=0
def tw8560255255705828131:=0
def tw10453383301886524358:=0
def tw2631884272024885040:=0
def tw5182596299355504392:=0
def tw16222776804052704860:=0
def tw13108483840055612089:=0
def tw18294046192028829768:=0
def tw1822194587725240130:=0
def tw18039892442105050280:=0
def tw15797409223800748648:=0
def tw130304792968722096:=0
def tw16400645567851854275:=0
def tw6051936523051025867:=0
def tw14263041336883272704:=0
def tw8793334818935679370:=0
def tw424383250586877271:=0
def tw12810303246361349671:=0
def tw5323113595777424122:=0
def tw3072576932999315843:=0
def tw14275631019916606650:=0
def tw14834297226210136629:=0
def tw1417395657827287061:=0
def tw4512045916406333790:=0
def tw18285298345941375287:=0
def tw4945973613598858732:=0
def tw109650235392707942:=0
def tw3115514968952421677:=0
def tw2898411633033959727:=0
def tw8243198989586675213:=0
def tw1634128098290678124:=0
def tw18114057065192980707:=0
def tw11627677693395130169:=0
def tw4615246881948001992:=0
def tw11679721738755974681:=0
def tw13122242148896517088:=0
def tw11980586527802696954:=0
def tw8340407472368342891:=0
def tw435786051113529993:=0
def tw10154560204194425647:=0
def tw13476918918482565375:=0
def tw2698822936420740265:=0
def tw3694938932149405343:=0
def tw10004832387551750306:=0
def tw6385141678210747230:=0
def tw15189663862424292815:=0
def tw10960569506543618663:=0
def tw2451711016682393446:=0
def tw7545473295134332784:=0
def tw4781344588056695889:=0
def tw5204218555630845135:=0
def tw15048333756854503836:=0
def tw10774998347734541132:=0
def tw13378399496320223646:=0
def tw10052462676043627690:=0
def tw7390569767341856237:=0
def tw14709599022704320764:=0
def tw11214620629971007508:=0
def tw18414682010504595213:=0
def tw6052325381517674028:=0
def tw2323418520132440721:=0
def tw17918675275012888613:=0
def tw15237072994585024496:=0
def tw9491457157221069106:=0
def tw16750077552993962033:=0
def tw13516152512502948006:=0
def tw18124638599197020773:=0
def tw7553789583863239425:=0
def tw1260062481076416928:=0
def tw11294488787956673747:=0
def tw8203992182789279876:=0
def tw17689230162711150583:=0
def tw5812554866671534712:=0
def tw12976533139290605892:=0
def tw4968660194136473552:=0
def tw7034221777130427380:=0
def tw975341653061715277:=0
def tw13895870088919916028:=0
def tw701817642872422195:=0
def tw1661911011753455947:=0
def tw7430933488531466008:=0
def tw644527467699840770:=0
def tw16700915242925294814:=0
def tw9254458138017362737:=0
def tw13747173936907927388:=0
def tw16191256045254124949:=0
def tw12858575101230154007:=0
def tw11209823533975530838:=0
def tw9118021392869457454:=0
def tw6060300061076367818:=0
def tw112109133502445254:=0
def tw10876547524752221296:=0
def tw5568293556804549087:=0
def tw2107285892335297207:=0
def tw16060567199880028187:=0
def tw14041800495767136217:=0
def tw4075576603558891082:=0
def tw15597896453500860270:=0
def tw6925459712567745361:=0
def tw16037909255212854172:=0
def tw11864187574029123074:=0
def tw8238710711965548659:=0
def tw5363005494943161516:=0
def tw15161517054138559212:=0
def tw9430500543230610397:=0
def tw16302729917931673371:=0
def tw10338595251328628331:=0
def tw4519871950881061807:=0
end PySem.W.Fast
open PySem PySem.W PyProof.Rows
set_option maxRecDepth 100000 in
set_option maxHeartbeats 0 in
theorem PySem.Challenge.cw_barsplit_k50_turned_about_holds : PySem.Challenge.rw_barsplit_k50_turned_about.Holds := by
 w_on;o_law;k_head;(case hw=>w_witness2)
 k_fill
 refine L2.nq (l:=CY) (n:=63) (k:=8) (x:="_law_script") (CX:=L2.p9) (sp:=λK=>DL.o9 K 1 DL.wG) rfl ⋯ rfl ⟨rfl,by decide,by decide⟩ (λw h Y=>PySem.W.kIn_of Y) ?F ?S ?C
 case S=>exact λK H a ns d hO O=>DL.nO O (DL.pF ns d)
 case C=>exact λ_ _ _ _ z=>z
 case F=>
  intro w mg fa h I G Q;have a3:DL.GL (L2.DY I) mg "MOST_TOGETHER" (.int 30):=by
   dsimp only[L2.DY];refine' DL.sF I G ?a
   (case a=>k_is)
  have E:DL.E0 (L2.DY I) mg:=by
   constructor
   all_goals first
    | assumption
    | exact PySem.W.mg_none_of I G (by k_is)
    | (dsimp only[L2.DY];refine' DL.sL I G ?a ?l ?c ?k ?b;(case a=>k_is);(case l=>k_is);(case c=>k_is);(case k=>k_is);(case b=>intro _ _ _ _ _ _ us d;first | (obtain⟨_,rfl⟩:=DL.uy d;rfl) | (obtain⟨_,_,rfl⟩:=DL.ux d;rfl) | (obtain⟨_,_,_,rfl⟩:=DL.uX d;rfl) | (obtain⟨_,_,_,_,rfl⟩:=DL.uW d;rfl) | (obtain⟨_,_,_,_,_,rfl⟩:=DL.uV d;rfl)))
  obtain⟨f,fd,R,U,hm⟩:=E.HU.ex;have e0:=Q.symm.trans hm;cases e0;refine⟨fd,λs u=> .of_eq (U [u] rfl),λbase kb nb=>?_⟩;exact DL.sE R E
